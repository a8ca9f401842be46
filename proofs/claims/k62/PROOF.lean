import PyProof.Rows.All
import Wide.All
import OpenK.AllK
import Wide.FinOn
import Lean
import PyProof.EqAt
import PyProof.EqKinds
import PyProof.TupleCall
import PyProof.NeKinds
import KE.KEqDict
import KE.KDictSum
import PyProof.Rows.StrMul
import PyProof.Rows.SortStr
import PyProof.Rows.SortWalk
import KE.KSortTup
import PyProof.IsiH_list
import KE.KDictOf
import KE.KItemsList
import PyProof.SetKind
import PyProof.Rows.SetFrom
import PyProof.IsRules
import PyProof.EnumStmt
import PyProof.EnumFor
import PyProof.EnumMake
import PyProof.Rows.StrJoin2
import KE.KDictList
import PyProof.ZipIter
import PyProof.DictCompW
import PyProof.DictUpdate
import PyProof.FactsAll.set_2
import KE.KSetDisp
import PySem.Challenge.RW_outlineward_k62_duties_of_ifs_and_loops
set_option Elab.async false
set_option linter.all false
set_option maxRecDepth 100000
set_option maxHeartbeats 4000000
local macro_rules | `(tactic| omega) => `(tactic| first | lia | omega +splitNatSub)
def WP:=@of_decide_eq_true
def WQ:=@decide_eq_true
def WR:=@decide_eq_false
def WT:=@if_neg
def WU:=@if_pos
def WV:=@beq_eq_false_iff_ne
def WW:=@congrArg
open _root_.Array renaming length_toList->dQ,getElem?_eq_getElem->tG,getD_eq_getD_getElem?->tH,getD->wx,forIn_toList->wz,size_map->E7,replicate->E8,toList_push->WL,toList_inj->WM,toList->WN
open _root_.Bool renaming false_ne_true->bY,and_eq_true->cO,false_eq_true->oF,or_eq_true->ww,eq_iff_iff->E6,and_false->Na,false_or->WK
open _root_.False renaming elim->fw
open _root_.Int renaming emod_nonneg->fu,emod_lt_of_pos->gE,toNat_natCast->oE,toNat->tF
open _root_.LawfulBEq renaming eq_of_beq->E5
open _root_.List renaming length_map->ax,length_append->aG,getElem?_eq_getElem->aI,mem_cons->aM,mem_singleton->aN,mem_append->aT,map_append->aW,mem_cons_of_mem->aZ,mem_cons_self->bt,getElem?_map->bF,length_take->bK,getElem?_eq_some_iff->bN,take_succ->bP,length_cons->bR,take_length->bX,map_cons->ce,mem_map->ci,append_nil->cv,size_toArray->cA,range->cE,Nodup->dk,filterMap_cons->dG,append_assoc->dH,flatMap_cons->dX,take_zero->eX,mem_append_right->fq,getElem_mem->ft,lookup_cons->gD,nodup_append->ia,lookup->ib,nodup_nil->iY,map->iZ,mem_filter->ma,all_cons->md,replicate->ox,map_nil->oy,length_nil->oz,length_filter_le->oA,forIn_nil->oB,flatMap_append->oC,sum_append->p5,pairwise_cons->p6,nodup_cons->p7,mem_range->p9,lookup_cons_self->p_,forIn_cons->q_,cons_append->rb,take_append_drop->sY,nil_append->sZ,mem_flatMap->s_,length_zip->tf,length_range->tj,length->tz,any_cons->tD,take_of_length_le->wr,not_mem_nil->wt,flatMap_nil->wu,find?_cons->wv,sum_cons->AT,replicate_succ->AU,mem_nil_iff->AV,mem_iff_getElem->AW,length_eq_zero_iff->AX,filter_cons->AY,filter_append->AZ,zip_append->EU,pairwise_iff_getElem->EV,of_mem_zip->EW,mem_append_left->EX,length_drop->EY,getElem_take->EZ,getElem?_set_self->E1,getElem?_set_ne->E2,findIdx?->E3,filter->E4,zip_cons_cons->M4,set_comm->M5,reverse_cons->M6,mem_of_mem_take->M7,map_map->M8,length_replicate->M9,getElem?_append_right->M_,zipIdx_nil->Wg,zipIdx_cons->Wh,take_sublist->Wi,take_replicate->Wj,range_succ->Wl,pairwise_lt_range->Wm,nodup_range->Wn,mem_of_getElem?->Wo,mem_filterMap->Wp,mem_erase_of_ne->Wq,length_reverse->Wr,length_pos_of_mem->Wt,length_erase_of_mem->Wu,length_eraseIdx->Wv,length_dropLast->Ww,getElem_map->Wy,getElem?_append_left->Wz,getD_eq_getElem?_getD->WA,foldl_cons->WB,find?_some->WC,eq_nil_of_length_eq_zero->WD,drop_zero->WE,any_eq_false->WH,Pairwise->WI
open _root_.List.Perm renaming refl->tE
open _root_.Nat renaming le_refl->aL,le_trans->aV,ne_of_lt->bv,le_of_ble_eq_true->cf,le_of_lt->cu,zero_le->cy,lt_of_lt_of_le->cz,lt_irrefl->iX,ne_of_gt->m9,mul_le_mul_right->m_,lt_trans->ow,min_eq_left->p3,le_add_right->p4,lt_or_ge->wq,zero_add->AR,le_succ->AS,mod_lt->ES,add_le_add_right->ET,succ_mul->MW,lt_succ_self->MX,lt_succ_of_lt->MY,lt_of_le_of_lt->MZ,le_of_not_lt->M0,eq_zero_or_pos->M1,add_zero->M3,zero_lt_succ->V6,succ_pos->V8,succ_ne_self->V9,mul_le_mul_left->Wa,min_le_right->Wb,le_of_eq->Wd,add_le_add_left->We,add_le_add->Wf
open _root_.Nat.succ renaming inj->wn
open _root_.Ne renaming symm->bB
open _root_.Option renaming isSome_iff_exists->AQ,map_some->ER,isSome->V3,isNone_some->V4,getD_none->V5
open _root_.Option.some renaming inj->eW
open _root_.PyProof.Rows renaming AllBare->m8,callWith_type1->sX,seqObj->AN,IntsAre->AO,assignInOrder_cons->EO,subscriptTail->MO,slot_tuple_getitem->MQ,get?_update_seq->MR,Subscript_->MS,subscriptTail_builtinR->VT,slot_str_getitem->VU,assignInOrder_nil->V1
open _root_.PyProof.Rows.F renaming plain_set_update_loop->MT,entry_set_update_loop->V2
open _root_.PyProof.Rows.IsTup renaming new->EQ
open _root_.PySem renaming Addr->aa,Value->ac,wpAny_bind->am,Shared->av,wpAny->aw,Expr->ay,wpAny_pure->az,model->aA,Heap->aB,World->aE,Program->aF,Stmt->aJ,FuncData->aO,sizeLine->aP,Around->aR,SetTable->bH,mainGlobals->bU,rawInt->cb,starEach->cr,wpAny_field->cD,pyNext->cL,Scope->cS,IsPair->cT,wpAny_mono->cY,wpAny_setState_of->dC,wpAny_holding->dD,strKind->dE,bootBuiltins->dW,codeAny->eU,wpAny_newObj_type->fi,binaryOp->fj,sizeLine_eq->fX,scanBound->fY,wpAny_call_entry->gA,wpAny_setField_rec->hV,compareOp->hX,backTo->hZ,NameKind->iV,IsEnum->iW,wpAny_seqItems->lR,wpAny_rule->lS,wpAny_isInstance->lT,wpAny_callSpecial?_slot->lU,sysModules->lV,pickOrder->lW,codeAny_builtin->lX,Result->l7,wpAny_attempt->mU,setField->mV,setNext->oh,foldedSetIterable->oj,Model->ot,swapsWith->pO,plainId_quiet->pP,mem_of_lookup->pQ,getItem->pR,ZipApart->pS,IsPart->pW,wpAny_standAt->sD,wpAny_pyIter_tuple->sE,wpAny_passesOwn->sF,wpAny_askSetting->sI,wpAny_Call_Name_kw->sJ,valueAt->sK,strKind_is->sL,sliceBounds->sM,newExc->sN,codeAny_mono->sO,callerA->sP,bindName->sQ,wpAny_typeOf->vX,wpAny_storeSet_of->vY,wpAny_load->vZ,wpAny_execs_nil->v8,typeLookup->v9,tupleKind->v_,seqItems?->wb,relayAll->wc,raiseNew->we,assignEach->wf,BindsTo->wm,wpAny_of_eq->Aw,setsByText->Ax,pyIter->Ay,letOwnedTupleGo->Az,isSubtype_stop->AA,firstArgMember->AB,entryFor->AC,attributeBase->AD,GenState->AG,wpAny_truthy_bool->Ec,wpAny_throw->Ed,wpAny_pyIter_enum->Ee,wpAny_onRaise->Ef,wpAny_newTuple->Eg,wpAny_call->Eh,wpAny_bindName->Ei,setWalk->Ej,putSet_of->Ek,newTuple->El,isSubtype_type->Em,getAttr?->En,compPost->Eo,codeAny_call_builtin->Ep,call_meets->Er,behindInMarks->Es,Within->Et,PassesOwn->Ez,IsEnumOut->EC,ElemsOf->EJ,wpAny_updateSeq->Lu,wpAny_setField->Lv,wpAny_pyIter_zip->Lw,wpAny_mkText->Lx,wpAny_loadPart_at->Ly,wpAny_letGo->Lz,wpAny_ite_split->LA,wpAny_handled->LB,wpAny_forIn_list->LD,wpAny_execs_cons->LF,wpAny_Name->LG,updateSeq->LH,typeLookup_type->LJ,typeIs_str->LK,tupleKind_room_in1->LL,setNextDrawn->LM,setEntries->LO,seq_tuple_add->LQ,noteFrame->LU,noFill_tuple_add->LV,firstIterPos->L4,entryFor_alias->L6,drawOrder->L7,concat_meets->L8,checkBuiltinCall->L9,cellsFrom->L_,call->Mb,builtinsNs->Mc,builtinLookup_eq_fast->Md,assignInOrder->Mf,wpAny_updateSeq_pair->To,wpAny_setFlight_noneW->Tq,wpAny_pyNext_tuple_item->Ts,wpAny_pyNext_tuple_end->Tt,wpAny_pyNext_list_item->Tu,wpAny_pyNext_list_end->Tv,wpAny_pyIter_list->Tw,wpAny_newFunctionEnv->Ty,wpAny_letOwnedTupleGo_enum->TB,wpAny_dictSet_pairs->TC,wpAny_comprehension_free->TD,wpAny_assign_Name->TF,wpAny_FormattedValue_plain->TL,wpAny_Assign_Name->TM,unbindBehindTheSuite->TQ,slot_list_getitem->T1,getattributeRaised->Us,fits_of_scanBound->Uv,entryFor_of_tree->Ux,attributeErrorLeaves->UG,Keyword->Vj
open _root_.PySem.Around renaming under_plainId->ou,units->MM,under->MN
open _root_.PySem.Builtin.Dict renaming updateFrom->VQ,pairItems->VR
open _root_.PySem.Builtin.Frozenset renaming isAnySet->ML,updateFrom->VN,copyOf->VO,baseOf->VP
open _root_.PySem.Builtin.List renaming listTooLong->MJ,listSameRef->VJ,listLengthHint->VL,listExtendWith->VM
open _root_.PySem.Builtin.Slice renaming slicePlaces->EN,sliceAdjust->MI,sliceApplied->VI
open _root_.PySem.Builtin.SmallTypes renaming nextOf->gC,ownedTupleIsFree->m7,ownedTupleHandOut->EM
open _root_.PySem.Builtin.Str renaming strSliceIndices->MH
open _root_.PySem.Builtin.Tuple renaming tupleExact->EL
open _root_.PySem.Calls renaming spliced_cons->EK,spliced_nil->ME,evalArgs_plain->MF,callWith_builtin->MG,Name_function_global->VH
open _root_.PySem.Challenge renaming rw_outlineward_k62_duties_of_ifs_and_loops->VG
open _root_.PySem.Code renaming isFrame->MD,quiet_builtin->VE,frames->VF
open _root_.PySem.Env renaming scope->h_
open _root_.PySem.F renaming plainAttrs_list->eD,type_list_append->l8,slot_list_append->l_,slot_zip_next->m6,called_set->pZ,type_list_extend->AH,slot_list_extend->AI,plain_extend_loop->AJ,excBase_ValueError->AK,entry_zip_next->AL,args_zip_next_1->AM,slot_zip_getattribute->EG,slot_tuple_iterator_next->EH,slot_enumerate_next->EI,slot_tuple_add->My,slot_dict_get->Mz,entry_tuple_add->MA,args_tuple_add_2->MB,sub_set_set->Vq,slot_set_or->Vr,slot_set_iter->Vs,plain_set_new->Vt,plain_list_iadd->Vu,entry_tuple_iterator_next->Vv,entry_extend_loop->Vw,entry_enumerate_next->Vx,entry_dict_get->Vy,attr_ValueError->Vz,args_tuple_iterator_next_1->VA,args_enumerate_next_1->VB,args_dict_get_3->VC
open _root_.PySem.Heap renaming lt_size->aS,get?_push_of_some->bo,get?_push_size->cg,SameBut->dj,size_push->fZ,get?_update_self->ED,get?_update_other->EE,IsTuple->EF,get?_update_ne->Vm,ExtBut->Vo
open _root_.PySem.Heap.DictOf renaming new->Vp
open _root_.PySem.Heap.SameBut renaming update->pX,refl->pY
open _root_.PySem.Obj renaming mapSeq->oq,putSet->sW,data_mapFields->Vi
open _root_.PySem.OwnTail renaming hasType->Vh
open _root_.PySem.Paired renaming length->EB,snoc->Vg
open _root_.PySem.PassesOwn renaming never->dF
open _root_.PySem.Pos renaming line->oo
open _root_.PySem.Scope renaming names->wg
open _root_.PySem.SeqAt renaming EqAt->fm
open _root_.PySem.SeqAt.EqAt renaming same->Mu,str_str->U_,str_int->Va,of_refs->Vb,int_str->Vc,int_int->Vd
open _root_.PySem.SeqAt.RcAt renaming lists->U8
open _root_.PySem.SetTable renaming below->cR,bits->mZ,sizeAbove->on,laid->sU,grown->sV,fits->Ey,turns->Mq,runEnd->Mr,layClean->Ms,fill->Mt,slot->U0,roomFor->U5
open _root_.PySem.SetTable.below renaming go->AF
open _root_.PySem.SetTable.layClean renaming free->lZ
open _root_.PySem.SetTable.probe renaming go->Ex
open _root_.PySem.Shared renaming heap->Mp
open _root_.PySem.Str renaming ofString->bu,empty->sS,length->Ew
open _root_.PySem.Txt renaming mul->sR
open _root_.PySem.Value renaming isStrOf->UY,isInt->UZ
open _root_.PySem.W renaming Frag->aC,nsIn->cQ,mg_of->cZ,mg_none_of->eV,findIn->fk,kitOne->iU,kia_one->lY,keepIn->mW,hideAll->mX,fnOf->mY,emptyDict->om,instObj->pT,excIn->pU,codeIn->pV,kdsCode->AE,of_hideAll->Eu,hideAll_none->Ev,takerIn->Mg,plainGet->Mh,methodObj->Mi,lookIn->Mj,hasDictIn->Mm,OpenLaw->Mn,plainOver->UJ,makesIn->UL,kitx_list->UN,kitx_dict->UO,handedIn->UR,cellsFrom_some->US,callWith_K->UT,WalkO->UV
open _root_.PySem.W.KF renaming type_class->Mo
open _root_.PySem.W.WShape renaming has->UW
open _root_.PySem.pickOrder renaming go->LS
open _root_.Sum.inr renaming inj->mT
open _root_.ToString renaming toString->Av
namespace L2
open PySem PySem.Spec PyProof.Rows
abbrev Key:=Sum Int Str
def YJ:Key->ac->Bool
 | .inl k,v=>UZ k v
 | .inr x,v=>UY x v
def jhO(w:aE):Key->Int
 | .inl k=>hashInt k
 | .inr x=>hashStr w x
theorem kO:∀{k:Key} {v:ac},YJ k v=true->(∃i t,k=Sum.inl i/\v=Value.int i t)\/(∃x t,k=Sum.inr x/\v=Value.str x t)
 | .inl i,v,h=>by
  obtain⟨t,e⟩:=ac.isInt_shape (k:=i) (v:=v) h;exact .inl ⟨i,t,rfl,e⟩
 | .inr x,v,h=>by
  obtain⟨t,e⟩:=ac.isStrOf_shape (x:=x) (v:=v) h;exact .inr ⟨x,t,rfl,e⟩
theorem jcY(i:Int)(t:Tok):YJ (.inl i) (.int i t)=true:=by simp[YJ,UZ]
theorem jcX(x:Str)(t:Tok):YJ (.inr x) (.str x t)=true:=by simp[YJ,UY]
theorem jgu(a b:Int):decide ((Sum.inl a:Key)=Sum.inl b)=(a == b):=by
 by_cases e:a=b
 .subst e;simp
 .have h:¬(Sum.inl a:Key)=Sum.inl b:=fun q=>e (Sum.inl.inj q)
  rw[WR h];exact (WV.mpr e).symm
theorem jgr(a b:Str):decide ((Sum.inr a:Key)=Sum.inr b)=decide (a=b):=by
 by_cases e:a=b
 .subst e;simp
 .have h:¬(Sum.inr a:Key)=Sum.inr b:=fun q=>e (mT q)
  rw[WR h,WR e]
theorem jgt(a:Int)(b:Str):decide ((Sum.inl a:Key)=Sum.inr b)=false:=WR (fun q=>nomatch q)
theorem jgs(a:Str)(b:Int):decide ((Sum.inr a:Key)=Sum.inl b)=false:=WR (fun q=>nomatch q)
def kf(prog:aF)(w:aE):PySem.KeyKind prog w Key where
 is:=YJ
 hash:=jhO w
 inj:=fun v a b ha hb=>by
  rcases kO ha with⟨i,t,rfl,rfl⟩ | ⟨x,t,rfl,rfl⟩
  .rcases kO hb with⟨j,u,rfl,e⟩ | ⟨y,u,rfl,e⟩
   .injection e with e1 _;rw[e1]
   .exact nomatch e
  .rcases kO hb with⟨j,u,rfl,e⟩ | ⟨y,u,rfl,e⟩
   .exact nomatch e
   .injection e with e1 _;rw[e1]
 byValue:=fun k v h=>by
  rcases kO h with⟨i,t,rfl,rfl⟩ | ⟨x,t,rfl,rfl⟩ <;> rfl
 pyHash:=fun hv h=>by
  rcases kO hv with⟨i,t,rfl,rfl⟩ | ⟨x,t,rfl,rfl⟩
  .exact wpAny_pyHash_int h
  .exact wpAny_pyHash_str h
 eqBool:=fun hu hv h=>by
  rcases kO hu with⟨i,t,rfl,rfl⟩ | ⟨x,t,rfl,rfl⟩
  .rcases kO hv with⟨j,u,rfl,rfl⟩ | ⟨y,u,rfl,rfl⟩
   .rw[jgu]at h;exact wpAny_eqBool_int h
   .rw[jgt]at h;exact Vc i t y u _ _ _ _ h
  .rcases kO hv with⟨j,u,rfl,rfl⟩ | ⟨y,u,rfl,rfl⟩
   .rw[jgs]at h;exact Va x t j u _ _ _ _ h
   .rw[jgr]at h;exact wpAny_eqBool_str h
 «strs»:=fun k x t v h=>by
  rcases kO h with⟨i,u,rfl,e⟩ | ⟨y,u,rfl,e⟩
  .exact nomatch e
  .injection e with e1 _
   subst e1
   cases v <;> rfl
theorem jaq(prog:aF)(w:aE)(i:Int)(t:Tok):(kf prog w).is (.inl i) (.int i t)=true:=jcY i t
theorem jap(prog:aF)(w:aE)(x:Str)(t:Tok):(kf prog w).is (.inr x) (.str x t)=true:=jcX x t
inductive V where
 | non | bl (b:Bool) | int (i:Int) | str (x:Str) | byt (b:Array UInt8) | flt (b:UInt64) | ref (a:aa) | ty (n:String)
 deriving DecidableEq
def RelV:V->ac->Prop
 | .non,u=>u=Value.none
 | .bl b,u=>u=Value.bool b
 | .int i,u=>∃t,u=Value.int i t
 | .str x,u=>∃t,u=Value.str x t
 | .byt b,u=>∃t,u=Value.bytes b t
 | .flt b,u=>∃t,u=Value.float b t
 | .ref a,u=>u=Value.ref a
 | .ty n,u=>u=Value.type n
abbrev Vals:List V->List ac->Prop:=Paired RelV
variable {xs:List V}{us:List ac}
theorem Vals.length(r:Vals xs us):xs.length=us.length:=EB r
theorem Vals.get:∀{xs:List V} {us:List ac} {i:Nat} {x:V},Vals xs us->xs[i]?=some x->∃u,us[i]?=some u/\RelV x u
 | _,_,_,_,.nil,e=>by simp at e
 | _,_,0,_,.cons r _,e=>by simp at e;subst e;exact⟨_,rfl,r⟩
 | _,_,i+1,x,.cons _ t,e=>by
  obtain⟨u,h1,h2⟩:=Vals.get (i:=i) (x:=x) t (by simpa using e);exact⟨u,by simpa using h1,h2⟩
theorem Vals.append:∀{xs ys:List V} {us ws:List ac},Vals xs us->Vals ys ws->Vals (xs++ys) (us++ws)
 | _,_,_,_,.nil,s=>s
 | _,_,_,_,.cons r t,s=>.cons r (Vals.append t s)
theorem Vals.take:∀{xs:List V} {us:List ac} (n:Nat),Vals xs us->Vals (xs.take n) (us.take n)
 | _,_,0,_=>.nil
 | _,_,_+1,.nil=>.nil
 | _,_,n+1,.cons r t=>.cons r (Vals.take n t)
theorem Vals.drop:∀{xs:List V} {us:List ac} (n:Nat),Vals xs us->Vals (xs.drop n) (us.drop n)
 | _,_,0,r=>r
 | _,_,_+1,.nil=>.nil
 | _,_,n+1,.cons _ t=>Vals.drop n t
def RelO:Option V->Option ac->Prop
 | some v,some u=>RelV v u
 | none,none=>True
 | _,_=>False
def KV{κ:Type}:List (κ×V)->List (κ×ac)->Prop:=Paired fun (p:κ×V) (q:κ×ac)=>p.1=q.1/\RelV p.2 q.2
def kV:Key->V
 | .inl i=>.int i
 | .inr x=>.str x
inductive HO where
 | lst (xs:List V)
 | tup (xs:List V)
 | dK (kvs:List (Key×V)) | dT (kvs:List (List Key×V))
 | set (S:Int->Bool) (n:Nat)
 | ins (C dx:aa) (fs:List (Str×V))
 | own (x:aa)
 | xd (fs:List (Str×V))
 | met (f x:aa)
 | rng (lo hi:Int)
 | frz (o:Obj) (u:HO)
 | tbl (ps:Array ac)
 | ext (φ:aB->Prop)
abbrev Hp:=aa->Option HO
def upd(H:Hp)(a:aa)(o:HO):Hp:=fun b=>if b=a then some o else H b
variable {H:Hp}{a:aa}{o:HO}
theorem jd:upd H a o a=some o:=by unfold upd;rw[WU rfl]
variable {b:aa}
theorem jw(h:b≠a):upd H a o b=H b:=by unfold upd;rw[WT h]
theorem jfR{u:HO}(h:H a=some o)(h':H b=some u)(d:o≠u):a≠b:=by
 intro e;subst e;rw[h]at h';exact d (eW h')
theorem jr(h:H a=some o)(h':H b=none):a≠b:=by
 intro e;subst e;rw[h]at h';cases h'
section
variable (P:aF)(w:aE)
def ObjOk(H:Hp)(h:aB)(a:aa):HO->Prop
 | .lst xs=>xs.length<=aP/\∃(its:List ac) (n:Nat),Vals xs its/\h.get? a=some { cls:=.type "list",data:=.seq its.toArray n }
 | .tup xs=>xs.length<=aP/\∃its:List ac,Vals xs its/\IsTup h a its.toArray
 | .dK kvs=>kvs.length<=aP/\(a == lV)=false/\∃vs,KV kvs vs/\h.DictOf (kf P w) a vs
 | .dT kvs=>kvs.length<=aP/\(a == lV)=false/\∃xs:List (List Key×aa×ac),
   Paired (fun (p:List Key×V) (q:List Key×aa×ac)=>p.1=q.1/\H q.2.1=some (.tup (p.1.map kV))/\RelV p.2 q.2.2) kvs xs/\
   ∃o es ep,h.get? a=some o/\o.ExactDict/\o.data=.dict es ep/\es.toList=xs.map (entryOfKey (v_ (kf P w)))/\(xs.map (·.1)).Nodup
 | .set S n=>h.SetOf (intKind P w) a S n
 | .ins C dx fs=>H dx=some (.own a)/\fs.length<=1000/\dx≠a/\h.get? a=some (pT C dx)/\
   ∃mA,h.Ns1 dx mA/\(∀f,RelO (fs.lookup f) (mA f))/\Et mA (fs.map (·.1))
 | .own _=>∃o,h.get? a=some o
 | .xd fs=>∃mA,h.Ns1 a mA/\∀f,RelO (fs.lookup f) (mA f)
 | .rng lo hi=>∃t u v,h.get? a=some { cls:=.type "range",data:=.fields #[.int lo t,.int hi u,.int 1 v] }
 | .frz o u=>h.get? a=some o/\ObjOk H h a u
 | .tbl ps=>h.get? a=some { cls:=.none,data:=.fields ps }
 | .met f x=>h.get? a=some (Mi (.ref f) (.ref x))
 | .ext φ=>φ h/\(∃o,h.get? a=some o)/\∀h1 h2:aB,φ h1->(∀o,h1.get? a=some o->h2.get? a=some o)->φ h2
def HOk(H:Hp)(h:aB):Prop:=∀a o,H a=some o->ObjOk P w H h a o
end
variable {P:aF}{w:aE}{H':Hp}{h h':aB}
section
theorem ObjOk.lt(x:ObjOk P w H h a o):a < h.objs.size:=by
 cases o with
 | lst xs=>obtain⟨_,_,_,_,e⟩:=x;exact aS e
 | tup xs=>obtain⟨_,_,_,p⟩:=x;exact p.lt
 | dK kvs=>obtain⟨_,_,_,_,o,_,_,e,_⟩:=x;exact aS e
 | dT kvs=>obtain⟨_,_,_,_,o,_,_,e,_⟩:=x;exact aS e
 | set S n=>obtain⟨o,_,_,_,e,_⟩:=x;exact aS e
 | ins C dx fs=>obtain⟨_,_,_,e,_⟩:=x;exact aS e
 | own y=>obtain⟨_,e⟩:=x;exact aS e
 | xd fs=>obtain⟨_,⟨_,_,_,e,_⟩,_⟩:=x;exact aS e
 | rng lo hi=>obtain⟨_,_,_,e⟩:=x;exact aS e
 | frz ob u=>obtain⟨e,_⟩:=x;exact aS e
 | tbl ps=>exact aS (show h.get? a=some _ from x)
 | met f y=>exact aS (show h.get? a=some _ from x)
 | ext φ=>obtain⟨_,⟨_,e⟩,_⟩:=x;exact aS e
theorem Paired.mapP{α β:Type}{F G:α->β->Prop}:∀{l₁:List α} {l₂:List β},Paired F l₁ l₂->(∀a b,F a b->G a b)->Paired G l₁ l₂
 | _,_,.nil,_=>.nil
 | _,_,.cons r t,f=>.cons (f _ _ r) (Paired.mapP t f)
theorem ObjOk.stay(x:ObjOk P w H h a o)(k:∀b u,(b=a\/H b=some (.own a))->h.get? b=some u->h'.get? b=some u)
  (ho:∀b,H b=some (.own a)->H' b=some (.own a)) (ht:∀b xs,H b=some (.tup xs)->H' b=some (.tup xs)):ObjOk P w H' h' a o:=by
 induction o with
 | lst xs=>obtain⟨z,its,n,r,e⟩:=x;exact⟨z,its,n,r,k _ _ (.inl rfl) e⟩
 | tup xs=>obtain⟨z,its,r,ob,e,c⟩:=x;exact⟨z,its,r,ob,k _ _ (.inl rfl) e,c⟩
 | dK kvs=>obtain⟨z,y,vs,r,ob,es,ep,e,c⟩:=x;exact⟨z,y,vs,r,ob,es,ep,k _ _ (.inl rfl) e,c⟩
 | dT kvs=>
  obtain⟨z,y,xs,r,ob,es,ep,e,c⟩:=x
  exact⟨z,y,xs,Paired.mapP r fun p q z=>⟨z.1,ht _ _ z.2.1,z.2.2⟩,ob,es,ep,k _ _ (.inl rfl) e,c⟩
 | set S n=>obtain⟨ob,es,ep,t,e,c⟩:=x;exact⟨ob,es,ep,t,k _ _ (.inl rfl) e,c⟩
 | ins C dx fs=>
  obtain⟨d,z,ne,e,mA,⟨od,es,ep,e2,c⟩,r⟩:=x
  exact⟨ho _ d,z,ne,k _ _ (.inl rfl) e,mA,⟨od,es,ep,k _ _ (.inr d) e2,c⟩,r⟩
 | own y=>obtain⟨ob,e⟩:=x;exact⟨ob,k _ _ (.inl rfl) e⟩
 | xd fs=>obtain⟨mA,⟨od,es,ep,e,c⟩,r⟩:=x;exact⟨mA,⟨od,es,ep,k _ _ (.inl rfl) e,c⟩,r⟩
 | rng lo hi=>obtain⟨t,u,v,e⟩:=x;exact⟨t,u,v,k _ _ (.inl rfl) e⟩
 | frz ob u ih=>obtain⟨e,q⟩:=x;exact⟨k _ _ (.inl rfl) e,ih q⟩
 | tbl ps=>
  have e:h.get? a=some { cls:=.none,data:=.fields ps }:=x
  show h'.get? a=some { cls:=.none,data:=.fields ps }
  exact k a _ (.inl rfl) e
 | met f y=>
  have e:h.get? a=some (Mi (.ref f) (.ref y)):=x
  show h'.get? a=some (Mi (.ref f) (.ref y))
  exact k a _ (.inl rfl) e
 | ext φ=>obtain⟨p,⟨o,e⟩,st⟩:=x;exact⟨st _ _ p fun o q=>k _ _ (.inl rfl) q,⟨o,k _ _ (.inl rfl) e⟩,st⟩
theorem HOk.lt(x:HOk P w H h)(e:H a=some o):a < h.objs.size:=(x a o e).lt
theorem HOk.fresh(x:HOk P w H h)(e:h.objs.size<=a):H a=none:=by
 cases q:H a with
 | none=>rfl
 | some u=>exact absurd (cz (x.lt q) e) (iX _)
theorem HOk.kept(x:HOk P w H h)(k:∀b u,h.get? b=some u->h'.get? b=some u):HOk P w H h':=fun a o e=>
 (x a o e).stay (fun b u _ q=>k b u q) (fun _ q=>q) fun _ _ q=>q
theorem HOk.laid(x:HOk P w H h)(k:∀b u,h.get? b=some u->h'.get? b=some u)(hp:h.objs.size<=a)(new:ObjOk P w (upd H a o) h' a o):HOk P w (upd H a o) h':=fun b u e=>by
 have hn:=x.fresh hp;by_cases hb:b=a
 .subst hb;rw[jd]at e;cases e;exact new
 .rw[jw hb]at e
  exact (x b u e).stay (fun c v _ q=>k c v q) (fun c q=>by rw[jw (jr q hn)];exact q) fun c xs q=>by rw[jw (jr q hn)];exact q
end
def Rd(H:Hp)(a:aa)(u:HO):Prop:=H a=some u\/∃o,H a=some (.frz o u)
theorem Rd.ok{u:HO}(r:Rd H a u)(x:HOk P w H h):ObjOk P w H h a u:=by
 rcases r with r | ⟨o,r⟩
 .exact x a u r
 .obtain⟨_,q⟩:=x a _ r
  exact q
def Mut:Option HO->Prop
 | some (.lst _)=>True
 | some (.dK _)=>True
 | some (.dT _)=>True
 | some (.set _ _)=>True
 | some (.ins _ _ _)=>True
 | some (.ext _)=>True
 | _=>False
section
variable {x e:aa}{o':HO}
theorem HOk.write(ok:HOk P w H h)(mu:Mut (H x))(he:e=x\/H e=some (.own x))(k:∀b u,b≠e->h.get? b=some u->h'.get? b=some u)(rS:∃u,h'.get? e=some u)
  (new:ObjOk P w (upd H x o') h' x o'):HOk P w (upd H x o') h':=fun b u q=>by
 have FX:∀c y,H c=some (.own y)->c≠x:=fun c y r z=>by subst z;rw[r]at mu;exact mu
 have N7:∀c xs,H c=some (.tup xs)->c≠x:=fun c xs r z=>by subst z;rw[r]at mu;exact mu
 by_cases hb:b=x
 .subst hb;rw[jd]at q;cases q;exact new
 .rw[jw hb]at q
  by_cases gn:b=e
  .have q':H b=some (.own x):=by
    rcases he with z | z
    .exact absurd (gn.trans z) hb
    .rw[gn];exact z
   rw[q]at q';cases q';obtain⟨v,hv⟩:=rS;exact⟨v,by rw[gn];exact hv⟩
  .refine (ok b u q).stay (fun c v hc r=>k c v ?_ r) (fun c r=>by rw[jw (FX c b r)];exact r) fun c xs r=>by rw[jw (N7 c xs r)];exact r
   rcases hc with rfl | hc
   .exact gn
   .rintro rfl
    rcases he with z | z
    .exact FX c b hc z
    .rw[hc]at z;cases z;exact hb rfl
end
structure Un(fs ex:List aa)(H H':Hp)(h h':aB):Prop where
 keep:∀b o,h.get? b=some o->H b=none->b ∉ fs->b ∉ ex->h'.get? b=some o
 slot:∀b o,h.get? b=some o->H b=none->b∈fs->b ∉ ex->∃sl,h'.get? b=some { o with slots:=sl }
 free:∀b o,h.get? b=some o->H b=none->b ∉ ex->H' b=none
 there:∀b o,h.get? b=some o->b ∉ ex->∃o',h'.get? b=some o'
 tups:∀b xs,H b=some (.tup xs)->H' b=some (.tup xs)
 frzs:∀b o u,H b=some (.frz o u)->H' b=some (.frz o u)
 tbls:∀b ps,H b=some (.tbl ps)->∃more,H' b=some (.tbl (ps++more))
 stay:∀b o xs,H b=some (.tup xs)->h.get? b=some o->b ∉ fs->b ∉ ex->h'.get? b=some o
section
variable {fs Sb ex ex':List aa}{H1 H2:Hp}{h1 h2:aB}{x e:aa}
theorem Un.any(u:Un fs ex H H1 h h1){ob:Obj}(q:h.get? b=some ob)(n:H b=none)(hx:b ∉ ex):∃sl,h1.get? b=some { ob with slots:=sl }:=by
 by_cases hb:b∈fs
 .exact u.slot b ob q n hb hx
 .exact⟨ob.slots,u.keep b ob q n hb hx⟩
theorem Un.kept(k:∀b u,h.get? b=some u->h'.get? b=some u):Un fs ex H H h h':=
 ⟨fun b ob q _ _ _=>k b ob q,fun b ob q _ _ _=>⟨ob.slots,k b ob q⟩,fun _ _ _ n _=>n,fun b ob q _=>⟨ob,k b ob q⟩,fun _ _ q=>q,fun _ _ _ q=>q,fun _ ps q=>⟨#[],by rw[q];simp⟩,fun b ob _ _ q _ _=>k b ob q⟩
theorem Un.refl:Un fs ex H H h h:=Un.kept fun _ _ q=>q
theorem Un.laid(k:∀b u,h.get? b=some u->h'.get? b=some u)(hp:h.objs.size<=a)(hn:H a=none):Un fs ex H (upd H a o) h h' where
 keep:=fun b u q _ _ _=>k b u q
 slot:=fun b u q _ _ _=>⟨u.slots,k b u q⟩
 free:=fun b u q n _=>by rw[jw (bv (cz (aS q) hp))];exact n
 there:=fun b u q _=>⟨u,k b u q⟩
 tups:=fun b xs q=>by rw[jw (jr q hn)];exact q
 frzs:=fun b u xs q=>by rw[jw (jr q hn)];exact q
 tbls:=fun b ps q=>⟨#[],by rw[jw (jr q hn),q];simp⟩
 stay:=fun b u _ _ q _ _=>k b u q
theorem Un.write(mu:Mut (H x))(he:e=x\/H e=some (.own x))(k:∀b u,b≠e->h.get? b=some u->h'.get? b=some u)(rS:∃u,h'.get? e=some u):Un fs ex H (upd H x o) h h':=by
 have hx:∀b,H b=none->b≠x:=fun b n z=>by subst z;rw[n]at mu;exact mu
 have hb:∀b,H b=none->b≠e:=fun b n z=>by
  subst z;rcases he with r | r
  .exact hx b n r
  .rw[n]at r;cases r
 have hm:∀b u,H b=some u->¬Mut (some u)->b≠x:=fun b u q nm z=>by subst z;rw[q]at mu;exact nm mu
 refine⟨fun b u q n _ _=>k b u (hb b n) q,fun b u q n _ _=>⟨u.slots,k b u (hb b n) q⟩,fun b u q n _=>by rw[jw (hx b n)];exact n,fun b u q _=>?_,
  fun b xs q=>by rw[jw (hm b _ q fun z=>z)];exact q,fun b u xs q=>by rw[jw (hm b _ q fun z=>z)];exact q,fun b ps q=>⟨#[],by rw[jw (hm b _ q fun z=>z),q];simp⟩,fun b u xs q e' _ _=>k b u (fun z=>by
   subst z;rcases he with r | r
   .exact hm b _ q (fun z=>z) r
   .rw[q]at r;cases r) e'⟩
 by_cases gn:b=e
 .subst gn;exact rS
 .exact⟨u,k b u gn q⟩
end
def trk(h:aB)(H:Hp):List aa:=(cE h.objs.size).filter fun a=>(H a).isSome
def ZC(h:aB)(H:Hp):aB:=PySem.W.hideAll h (trk h H)
theorem jc2(h:aB)(H:Hp):(ZC h H).objs.size=h.objs.size:=PySem.W.hideAll_size _ _
theorem jeH{o:Obj}(e:h.get? b=some o)(n:H b=none):(ZC h H).get? b=some o:=
 PySem.W.hideAll_get _ e fun hm=>by
  have q:(H b).isSome=true:=(ma.mp hm).2;rw[n]at q;simp at q
theorem jft{o:Obj}(e:(ZC h H).get? b=some o):h.get? b=some o/\H b=none:=by
 have e':h.get? b=some o:=PySem.W.of_hideAll (trk h H) e;refine⟨e',?_⟩
 cases q:H b with
 | none=>rfl
 | some x=>
  have hm:b∈trk h H:=ma.mpr ⟨p9.mpr (aS e'),by simp[q]⟩;have z:(ZC h H).get? b=none:=PySem.W.hideAll_none (trk h H) hm;rw[z]at e;cases e
def jfI(g h:aB)(L:aa):List (aa×Obj):=(cE h.objs.size).filterMap fun a=>if a=L\/(g.get? a).isSome=true then none else (h.get? a).map fun o=>(a,o)
def qP(g h:aB)(L d:aa):List (aa×Obj):=(jfI g h L).filter fun p=>decide (p.1≠d)
structure Mod(K:aC)(mg:Str->Option ac)(base:aB):Prop where
 kin:K.In base
 glob:base.Ns bU mg
 blt:∃mb,base.Ns Mc mb/\∀x:Str,x≠"__name__"->mb x=dW x
 nolimit:base.NoLimit
structure Cx where
 prog:aF
 w:aE
 K:aC
 mg:Str->Option ac
 base:aB
 A:aR
 N:List Str
 s₀:av
 H₀:Hp
 env:Env
 outer:List Env
 stack:List Env
 ex:List aa
 fn:Str->Bool
 calm:Bool
 pn:List (aa×Obj)
 xe:ac->av->Prop
def frs(l:List Env):List aa:=l.filterMap (·.frame)
abbrev Cx.fs(X:Cx):List aa:=frs X.outer
def Vis(sc:cS)(x:Str):Prop:=sc.names.lookup x=some .local\/sc.names.lookup x=some .cell\/sc.names.lookup x=some .free
def Loc(sc:cS)(x:Str):Prop:=sc.names.lookup x=some .local\/sc.names.lookup x=some .cell
def jhY(env:Env)(h:aB)(m:Str->Option ac)(x:Str)(u:ac):Prop:=
 (env.kindOf x=some .local/\m x=some u)\/((env.kindOf x=some .cell\/env.kindOf x=some .free)/\∃c,env.cells.lookup x=some c/\h.IsCell c (some u))
structure Cx.Ok(X:Cx):Prop where
 mod:Mod X.K X.mg X.base
 kind:X.env.scope.kind=.function
 glob:X.env.globals=bU
 blt:X.env.builtins=Mc
 above:X.s₀.heap.objs.size<=X.env.locals
 inj:∀x y c,X.env.cells.lookup x=some c->X.env.cells.lookup y=some c->x=y
 has:∀x,(X.env.kindOf x=some .cell\/X.env.kindOf x=some .free)->∃c,X.env.cells.lookup x=some c
 cab:∀x c,X.fn x=true->X.env.cells.lookup x=some c->X.s₀.heap.objs.size<=c
 hd:X.calm=true->X.A.handled=none
 frames:X.A.frames=some X.stack
 stk:X.stack=X.outer\/(X.stack=X.env :: X.outer/\X.env.frame=some X.env.locals)
 exf:∀b∈X.ex,b≠X.env.locals/\∀x c,X.env.cells.lookup x=some c->c≠b
 bs:∀b o,X.base.get? b=some o->X.s₀.heap.get? b=some o/\X.H₀ b=none
 bsz:X.base.objs.size<=X.s₀.heap.objs.size
 noex:∀b o,X.base.get? b=some o->b ∉ X.ex
 exfs:∀b∈X.ex,b ∉ X.fs
 funs:X.s₀.heap.FunFrames X.base X.outer
 frf:∀b∈X.fs,X.H₀ b=none
structure Inv(X:Cx)(ah:List (aa×Obj))(σ:List (Option V))(H:Hp)(s:av):Prop where
 ok:X.Ok
 os:s.os=X.s₀.os
 bare:m8 s.gens
 base:Un X.fs X.ex X.H₀ H X.s₀.heap s.heap
 loc:∃m,s.heap.Ns X.env.locals m/\∀(i:Nat) (x:Str) (v:V),X.N[i]?=some x->σ[i]?=some (some v)->Vis X.env.scope x->∃u,RelV v u/\jhY X.env s.heap m x u
 cell:∀x c,X.env.cells.lookup x=some c->∃v,s.heap.IsCell c v
 free:H X.env.locals=none
 freeC:∀x c,X.env.cells.lookup x=some c->H c=none
 pin:∀p∈X.pn++ah,s.heap.get? p.1=some p.2/\H p.1=none/\p.1≠X.env.locals/\p.1 ∉ X.fs/\∀v,p.2.data≠.cell v
 hok:HOk X.prog X.w H s.heap
 len:σ.length=X.N.length
variable {X:Cx}{ah:List (aa×Obj)}{s s':av}{t' i:Nat}{ch:List aa}{x:Str}{v:V}{u:ac}
section
variable {σ:List (Option V)}
theorem Cx.Ok.nofr(ok:X.Ok){o:Obj}(e:X.base.get? b=some o):b ∉ X.fs:=fun hb=>by
 have:=(ok.funs.mem hb).1;rw[e]at this;cases this
theorem Inv.bs(I:Inv X ah σ H s):∀b o,X.base.get? b=some o->s.heap.get? b=some o/\H b=none:=fun b o e=>
 ⟨I.base.keep b o (I.ok.bs b o e).1 (I.ok.bs b o e).2 (I.ok.nofr e) (I.ok.noex b o e),I.base.free b o (I.ok.bs b o e).1 (I.ok.bs b o e).2 (I.ok.noex b o e)⟩
theorem Inv.bk(I:Inv X ah σ H s):∀b o,X.base.get? b=some o->s.heap.get? b=some o:=fun b o e=>(I.bs b o e).1
theorem Inv.mod(I:Inv X ah σ H s):Mod X.K X.mg X.base:=I.ok.mod
theorem Inv.kIn(I:Inv X ah σ H s):X.K.In s.heap:=I.ok.mod.kin.keeps I.bk
theorem Inv.nolimit(I:Inv X ah σ H s):s.heap.NoLimit:=I.ok.mod.nolimit.keeps I.bk
theorem Inv.fr(I:Inv X ah σ H s):∃m,Fr X.base X.env.locals s.heap m:=
 let ⟨m,hn,_⟩:=I.loc
 ⟨m,hn,I.bk,aV I.ok.bsz I.ok.above⟩
theorem Inv.lt(I:Inv X ah σ H s):X.env.locals < s.heap.objs.size:=let ⟨_,hn,_⟩:=I.loc;hn.lt
theorem Inv.sz(I:Inv X ah σ H s):X.s₀.heap.objs.size<=s.heap.objs.size:=aV I.ok.above (cu I.lt)
theorem Inv.nofs(I:Inv X ah σ H s)(h:s.heap.objs.size<=a):a ∉ X.fs:=fun hb=>by
 obtain⟨_,o,ho,_⟩:=I.ok.funs.mem hb;exact absurd (cz (aS ho) (aV I.sz h)) (iX _)
theorem Inv.cne(I:Inv X ah σ H s):∀x c,X.env.cells.lookup x=some c->c≠X.env.locals:=fun x c e z=>by
 obtain⟨v,o,ho,hd⟩:=I.cell x c e;obtain⟨m,⟨o',es,ep,pc,gm,_⟩,_⟩:=I.loc;rw[z,pc]at ho;cases ho;rw[gm]at hd;cases hd
theorem Inv.funs(I:Inv X ah σ H s):s.heap.FunFrames X.base X.outer:=by
 have all:∀(l:List Env),(∀b∈frs l,b∈X.fs)->X.s₀.heap.FunFrames X.base l->s.heap.FunFrames X.base l:=by
  intro l;induction l with
  | nil=>intro _ _;trivial
  | cons env r ih=>
   intro hs hl;obtain⟨hk,⟨L,o,hf,hn,ho,hd⟩,hr⟩:=hl;have hL:L∈X.fs:=hs L (by unfold frs;rw[dG,hf];exact bt);obtain⟨sl,e⟩:=I.base.slot L o ho (I.ok.frf L hL) hL fun z=>I.ok.exfs L z hL
   exact⟨hk,⟨L,_,hf,hn,e,hd⟩,ih (fun b hb=>hs b (by unfold frs;rw[dG,hf];exact aZ _ hb)) hr⟩
 exact all X.outer (fun _ hb=>hb) I.ok.funs
theorem Inv.stack(I:Inv X ah σ H s):s.heap.FunFrames X.base X.stack:=by
 rcases I.ok.stk with e | ⟨e,hf⟩
 .rw[e];exact I.funs
 .rw[e]
  obtain⟨m,hn,_⟩:=I.loc;refine .cons (by rw[I.ok.kind];decide) hf hn ?_ I.funs;exact aB.get?_none_of_le (aV I.ok.bsz I.ok.above)
theorem Inv.stkSub(I:Inv X ah σ H s):∀b∈frs X.stack,b∈X.env.locals :: X.fs:=fun b hb=>by
 rcases I.ok.stk with e | ⟨e,hf⟩
 .rw[e]at hb;exact aZ _ hb
 .rw[e]at hb
  unfold frs at hb;rw[dG,hf]at hb;exact hb
theorem Inv.stkFree(I:Inv X ah σ H s):∀b∈frs X.stack,H b=none:=fun b hb=>by
 rcases aM.mp (I.stkSub b hb) with e | hb
 .rw[e];exact I.free
 .obtain⟨_,o,ho,_⟩:=I.ok.funs.mem hb
  exact I.base.free b o ho (I.ok.frf b hb) fun z=>I.ok.exfs b z hb
theorem Inv.step{g':Array AG}{d':Drawn}(I:Inv X ah σ H s)
  (lI:∀b∈ch,(b∈X.ex\/X.s₀.heap.objs.size<=b)/\b≠X.env.locals/\(∀x c,X.env.cells.lookup x=some c->c≠b)/\∀p∈X.pn++ah,p.1≠b)
  (keep:∀b o,b≠X.env.locals->b ∉ X.fs->b ∉ ch->s.heap.get? b=some o->(H b=none\/∃xs,H b=some (.tup xs))->h'.get? b=some o)
  (slot:∀b o,b≠X.env.locals->b∈X.fs->b ∉ ch->s.heap.get? b=some o->H b=none->∃sl,h'.get? b=some { o with slots:=sl }) (free:∀b o,b ∉ ch->s.heap.get? b=some o->H b=none->H' b=none)
  (there:∀b o,b ∉ ch->s.heap.get? b=some o->∃o',h'.get? b=some o')
  (tups:∀b xs,H b=some (.tup xs)->H' b=some (.tup xs)) (frzs:∀b o u,H b=some (.frz o u)->H' b=some (.frz o u)) (tbls:∀b ps,H b=some (.tbl ps)->∃more,H' b=some (.tbl (ps++more)))
  (ns:∀m,s.heap.Ns X.env.locals m->h'.Ns X.env.locals m) (hok:HOk X.prog X.w H' h') (hg:m8 g') :
  Inv X ah σ H' { s with heap:=h',gens:=g',drawn:=d',toks:=t' }:=by
 have BA:∀b o,X.s₀.heap.get? b=some o->b≠X.env.locals:=fun b o e=>bv (cz (aS e) I.ok.above)
 have uk:∀b o,X.s₀.heap.get? b=some o->b ∉ X.ex->b ∉ ch:=fun b o e hx hb=>by
  rcases (lI b hb).1 with z | z
  .exact hx z
  .exact absurd (cz (aS e) z) (iX _)
 have IN:∀x c,X.env.cells.lookup x=some c->∀v,s.heap.IsCell c v->h'.IsCell c v:=fun x c e v ⟨o,ho,hd⟩=>by
  have ut:c ∉ ch:=fun z=>(lI c z).2.2.1 x c e rfl
  by_cases hc:c∈X.fs
  .obtain⟨sl,q⟩:=slot c o (I.cne x c e) hc ut ho (I.freeC x c e)
   exact⟨_,q,hd⟩
  .exact⟨o,keep c o (I.cne x c e) hc ut ho (.inl (I.freeC x c e)),hd⟩
 have Nt:=I.base.tups
 refine⟨I.ok,I.os,hg,⟨fun b o e n hb hx=>?_,fun b o e n hb hx=>?_,fun b o e n hx=>?_,fun b o e hx=>?_,fun b xs e=>tups b xs (I.base.tups b xs e),fun b o xs e=>frzs b o xs (I.base.frzs b o xs e),fun b ps e=>?_,fun b o xs q e hb hx=>keep b o (BA b o e) hb (uk b o e hx) (I.base.stay b o xs q e hb hx) (.inr ⟨xs,Nt b xs q⟩)⟩,?_,fun x c e=>?_,?_,fun x c e=>?_,fun p hp=>?_,hok,I.len⟩
 .exact keep b o (BA b o e) hb (uk b o e hx) (I.base.keep b o e n hb hx) (.inl (I.base.free b o e n hx))
 .obtain⟨sl,e1⟩:=I.base.slot b o e n hb hx
  obtain⟨mm,e2⟩:=slot b _ (BA b o e) hb (uk b o e hx) e1 (I.base.free b o e n hx)
  exact⟨mm,e2⟩
 .obtain⟨o',e1⟩:=I.base.there b o e hx
  exact free b o' (uk b o e hx) e1 (I.base.free b o e n hx)
 .obtain⟨o',e1⟩:=I.base.there b o e hx
  exact there b o' (uk b o e hx) e1
 .obtain⟨m1,e1⟩:=I.base.tbls b ps e
  obtain⟨m2,e2⟩:=tbls b _ e1
  exact⟨m1++m2,by rw[e2,Array.append_assoc]⟩
 .obtain⟨m,hn,hl⟩:=I.loc
  refine⟨m,ns m hn,fun i x v e1 e2 e3=>?_⟩
  obtain⟨u,r,l⟩:=hl i x v e1 e2 e3
  refine⟨u,r,?_⟩
  rcases l with l | ⟨k,c,e,z⟩
  .exact .inl l
  .exact .inr ⟨k,c,e,IN x c e _ z⟩
 .obtain⟨v,z⟩:=I.cell x c e
  exact⟨v,IN x c e v z⟩
 .obtain⟨m,⟨o,_,_,ho,_⟩,_⟩:=I.loc
  exact free _ o (fun z=>(lI _ z).2.1 rfl) ho I.free
 .obtain⟨v,o,ho,hd⟩:=I.cell x c e
  exact free c o (fun z=>(lI c z).2.2.1 x c e rfl) ho (I.freeC x c e)
 .obtain⟨e,n,ne,nf,d⟩:=I.pin p hp
  have ut:p.1 ∉ ch:=fun z=>(lI p.1 z).2.2.2 p hp rfl
  exact⟨keep p.1 p.2 ne nf ut e (.inl n),free p.1 p.2 ut e n,ne,nf,d⟩
theorem Inv.un(I:Inv X ah σ H s)(u:Un X.fs [] H H' s.heap h')(hok:HOk X.prog X.w H' h'):Inv X ah σ H' { s with heap:=h',toks:=t' }:=by
 obtain⟨m,⟨o,es,ep,ho,r⟩,_⟩:=id I.loc;obtain⟨sl,hL⟩:=u.any ho I.free (by simp);exact I.step (g':=s.gens) (d':=s.drawn) (ch:=[]) (fun _ z=>nomatch z) (fun b o _ hb _ e n=>n.elim (fun n=>u.keep b o e n hb (by simp)) fun⟨xs,n⟩=>u.stay b o xs n e hb (by simp)) (fun b o _ hb _ e n=>u.slot b o e n hb (by simp)) (fun b o _ e n=>u.free b o e n (by simp)) (fun b o _ e=>u.there b o e (by simp)) u.tups u.frzs u.tbls (fun m' hm=>by
  obtain⟨o',bW,gu,pc,r'⟩:=hm;rw[ho]at pc;cases pc;exact⟨_,bW,gu,hL,r'⟩) hok I.bare
theorem Inv.call{g':Array AG}{d':Drawn}(I:Inv X ah σ H s)(u:Un (frs X.stack) ch H H' s.heap h')(hok:HOk X.prog X.w H' h')(hg:m8 g')
  (lI:∀b∈ch,(b∈X.ex\/X.s₀.heap.objs.size<=b)/\b≠X.env.locals/\(∀x c,X.env.cells.lookup x=some c->c≠b)/\∀p∈X.pn++ah,p.1≠b) :
  Inv X ah σ H' { s with heap:=h',gens:=g',drawn:=d',toks:=t' }:=by
 obtain⟨m,⟨o,es,ep,ho,r⟩,_⟩:=id I.loc
 obtain⟨sl,hL⟩:=u.any ho I.free fun z=>(lI _ z).2.1 rfl
 exact I.step (ch:=ch) lI (fun b o hL hb hc e n=>n.elim (fun n=>u.keep b o e n (fun z=>(aM.mp (I.stkSub b z)).elim hL hb) hc) fun⟨xs,n⟩=>u.stay b o xs n e (fun z=>(aM.mp (I.stkSub b z)).elim hL hb) hc) (fun b o _ _ hc e n=>u.any e n hc) (fun b o hc e n=>u.free b o e n hc) (fun b o hc e=>u.there b o e hc) u.tups u.frzs u.tbls (fun m' hm=>by
  obtain⟨o',bW,gu,pc,r'⟩:=hm;rw[ho]at pc;cases pc;exact⟨_,bW,gu,hL,r'⟩) hok hg
theorem Inv.turned{it:aa}(I:Inv X ah σ H s)(k:∀b o,b≠it->s.heap.get? b=some o->h'.get? b=some o)(hn:H it=none)(hL:it≠X.env.locals)
  (h1:it∈X.ex\/X.s₀.heap.objs.size<=it) (h2:∀x c,X.env.cells.lookup x=some c->c≠it) (h3:∀p∈X.pn++ah,p.1≠it):Inv X ah σ H { s with heap:=h',toks:=t' }:=by
 have FY:∀b u,H b=some u->b≠it:=fun b u e z=>by rw[z,hn]at e;cases e
 refine I.step (g':=s.gens) (d':=s.drawn) (ch:=[it]) (fun b hb=>?_) (fun b o _ _ hc e _=>k b o (fun z=>hc (by simp[z])) e) (fun b o _ _ hc e _=>⟨o.slots,k b o (fun z=>hc (by simp[z])) e⟩) (fun _ _ _ _ n=>n)
  (fun b o hc e=>⟨o,k b o (fun z=>hc (by simp[z])) e⟩) (fun _ _ e=>e) (fun _ _ _ e=>e) (fun b ps e=>⟨#[],by rw[e];simp⟩) (fun m hm=>?_) (fun b u e=>?_) I.bare
 .have e:b=it:=by simpa using hb
  subst e
  exact⟨h1,hL,h2,h3⟩
 .obtain⟨o,es,ep,ho,r⟩:=hm
  exact⟨o,es,ep,k _ o (bB hL) ho,r⟩
 .refine (I.hok b u e).stay (fun c v hc q=>k c v ?_ q) (fun _ q=>q) fun _ _ q=>q
  rcases hc with z | z
  .rw[z];exact FY b u e
  .exact FY c _ z
theorem Inv.tok(I:Inv X ah σ H s)(t:Nat):Inv X ah σ H { s with toks:=t }:=I.un (h':=s.heap) (t':=t) Un.refl I.hok
theorem Inv.kept(I:Inv X ah σ H s)(k:∀b u,s.heap.get? b=some u->h'.get? b=some u):Inv X ah σ H { s with heap:=h',toks:=t' }:=I.un (Un.kept k) (I.hok.kept k)
theorem Inv.laid(I:Inv X ah σ H s)(k:∀b u,s.heap.get? b=some u->h'.get? b=some u)(hp:s.heap.objs.size<=a)(new:ObjOk X.prog X.w (upd H a o) h' a o):
  Inv X ah σ (upd H a o) { s with heap:=h',toks:=t' }:=I.un (Un.laid k hp (I.hok.fresh hp)) (I.hok.laid k hp new)
theorem Inv.write{x e:aa}(I:Inv X ah σ H s)(mu:Mut (H x))(he:e=x\/H e=some (.own x))(k:∀b u,b≠e->s.heap.get? b=some u->h'.get? b=some u)(rS:∃u,h'.get? e=some u)
  (new:ObjOk X.prog X.w (upd H x o) h' x o):Inv X ah σ (upd H x o) { s with heap:=h',toks:=t' }:=I.un (Un.write mu he k rS) (I.hok.write mu he k rS new)
theorem Inv.pins_of{FR:List (aa×Obj)}(I:Inv X ah σ H s)(h:∀p∈FR,s.heap.get? p.1=some p.2/\H p.1=none/\p.1≠X.env.locals/\p.1 ∉ X.fs/\∀v,p.2.data≠.cell v):Inv X FR σ H s:=
 ⟨I.ok,I.os,I.bare,I.base,I.loc,I.cell,I.free,I.freeC,fun p hp=>(aT.mp hp).elim (fun z=>I.pin p (EX _ z)) (h p),I.hok,I.len⟩
theorem KM{N:List Str}(hN:N.Nodup){j:Nat}(a:N[i]?=some x)(b:N[j]?=some x):i=j:=by
 obtain⟨h1,e1⟩:=bN.mp a;obtain⟨h2,e2⟩:=bN.mp b;exact (List.getElem_inj hN).mp (e1.trans e2.symm)
theorem Yx{M:ot}{A:aR}{E:ac->av->Prop}{Q:Unit->av->Prop}(I:Inv X ah σ H s)(hN:X.N.Nodup)(hi:X.N[i]?=some x)(hx:Loc X.env.scope x)(r:RelV v u)
  (h:∀s',Inv X ah (σ.set i (some v)) H s'->(∃a,dj a s.heap s'.heap/\(a=X.env.locals\/X.env.cells.lookup x=some a))->Q () s') (hf:X.fn x=true\/X.env.scope.names.lookup x=some .local:=by first | exact .inl rfl | exact .inr rfl | assumption):aw M A (storeName X.env x u) Q E s:=by
 obtain⟨m,hn,hl⟩:=id I.loc
 have C8:(X.env.scope.kind == .class || (X.env.scope.kind == .module && X.env.locals != X.env.globals))=false:=by rw[I.ok.kind];rfl
 have vh:i < σ.length:=by rw[I.len];exact (bN.mp hi).1
 have cne:=I.cne
 have Fh:∀{a:aa} {h':aB},(∃o,s.heap.get? a=some o/\H a=none)->dj a s.heap h'->HOk X.prog X.w H h':=fun {a h'} ha hs b ob e=>by
  obtain⟨_,_,HB⟩:=ha;refine (I.hok b ob e).stay (fun c w' hc q=>(hs.2 c ?_).trans q) (fun _ q=>q) fun _ _ q=>q
  rintro rfl;rcases hc with rfl | hc
  .rw[HB]at e;cases e
  .rw[HB]at hc;cases hc
 rcases hx with hk | hk
 .refine wpAny_storeName_local hk hn (fun h' uY hs=>?_) C8
  obtain⟨oL,_,_,rP,_⟩:=id hn
  refine h _ ⟨I.ok,I.os,I.bare,⟨fun b o e n hb hx=>?_,fun b o e n hb hx=>?_,I.base.free,fun b o e hx=>?_,I.base.tups,I.base.frzs,I.base.tbls,fun b o xs q e hb hx=>(hs.2 b (bv (cz (aS e) I.ok.above))).trans (I.base.stay b o xs q e hb hx)⟩,⟨_,uY,fun j y v' e1 e2 e3=>?_⟩,fun y c e=>?_,I.free,I.freeC,fun p hp=>?_,Fh ⟨oL,rP,I.free⟩ hs,by simpa using I.len⟩ ⟨_,hs,.inl rfl⟩
  .exact (hs.2 b (bv (cz (aS e) I.ok.above))).trans (I.base.keep b o e n hb hx)
  .obtain⟨sl,e1⟩:=I.base.slot b o e n hb hx
   exact⟨sl,(hs.2 b (bv (cz (aS e) I.ok.above))).trans e1⟩
  .obtain⟨o',e1⟩:=I.base.there b o e hx
   exact⟨o',(hs.2 b (bv (cz (aS e) I.ok.above))).trans e1⟩
  .by_cases hj:j=i
   .subst hj
    rw[hi]at e1;cases e1
    rw[E1 vh]at e2
    cases e2
    exact⟨u,r,.inl ⟨hk,by simp⟩⟩
   .rw[E2 (bB hj)]at e2
    obtain⟨u',r',q⟩:=hl j y v' e1 e2 e3
    refine⟨u',r',?_⟩
    rcases q with⟨k,e⟩ | ⟨k,c,e,z⟩
    .refine .inl ⟨k,?_⟩
     have:y≠x:=fun e=>hj (KM hN e1 (e ▸ hi))
     simp[this,e]
    .exact .inr ⟨k,c,e,z.sameBut hs (cne y c e)⟩
  .obtain⟨w',z⟩:=I.cell y c e
   exact⟨w',z.sameBut hs (cne y c e)⟩
  .obtain⟨e,n,ne,nf,d⟩:=I.pin p hp
   exact⟨(hs.2 p.1 ne).trans e,n,ne,nf,d⟩
 .have xX:X.fn x=true:=by
   rcases hf with z | z
   .exact z
   .rw[z]at hk;cases hk
  obtain⟨c,hc⟩:=I.ok.has x (.inl hk);obtain⟨w',z⟩:=I.cell x c hc;refine wpAny_storeName_cell I.ok.kind hk hc z (fun h' aU hs=>?_);obtain⟨oc,GM,P5⟩:=id z;refine h { s with heap:=h' } ⟨I.ok,I.os,I.bare,⟨fun b o e n hb hx=>?_,fun b o e n hb hx=>?_,I.base.free,fun b o e hx=>?_,I.base.tups,I.base.frzs,I.base.tbls,fun b o xs q e hb hx=>(hs.2 b (bv (cz (aS e) (I.ok.cab x c xX hc)))).trans (I.base.stay b o xs q e hb hx)⟩,⟨m,hn.sameBut hs (bB (cne x c hc)),fun j y v' e1 e2 e3=>?_⟩,fun y c' e=>?_,I.free,I.freeC,fun p hp=>?_,Fh ⟨oc,GM,I.freeC x c hc⟩ hs,by simpa using I.len⟩ ⟨c,hs,.inr hc⟩
  .exact (hs.2 b (bv (cz (aS e) (I.ok.cab x c xX hc)))).trans (I.base.keep b o e n hb hx)
  .obtain⟨sl,e1⟩:=I.base.slot b o e n hb hx
   exact⟨sl,(hs.2 b (bv (cz (aS e) (I.ok.cab x c xX hc)))).trans e1⟩
  .obtain⟨o',e1⟩:=I.base.there b o e hx
   exact⟨o',(hs.2 b (bv (cz (aS e) (I.ok.cab x c xX hc)))).trans e1⟩
  .by_cases hj:j=i
   .subst hj
    rw[hi]at e1;cases e1;rw[E1 vh]at e2
    cases e2
    exact⟨u,r,.inr ⟨.inl hk,c,hc,aU⟩⟩
   .rw[E2 (bB hj)]at e2
    obtain⟨u',r',q⟩:=hl j y v' e1 e2 e3;refine⟨u',r',?_⟩;rcases q with q | ⟨k,c',e,z'⟩
    .exact .inl q
    .refine .inr ⟨k,c',e,z'.sameBut hs ?_⟩
     rintro rfl;exact hj (KM hN e1 (I.ok.inj _ _ _ e hc ▸ hi))
  .by_cases hcc:c'=c
   .subst hcc;exact⟨_,aU⟩
   .obtain⟨w2,z2⟩:=I.cell y c' e
    exact⟨w2,z2.sameBut hs hcc⟩
  .obtain⟨e,n,ne,nf,d⟩:=I.pin p hp
   refine⟨(hs.2 p.1 ?_).trans e,n,ne,nf,d⟩;intro q;rw[q,GM]at e;have q':oc=p.2:=eW e;exact d w' (by rw[<- q'];exact P5)
theorem q8{M:ot}{A:aR}{E:ac->av->Prop}{Q:Unit->av->Prop}(I:Inv X ah σ H s)(hN:X.N.Nodup)(hi:X.N[i]?=some x)(hx:Loc X.env.scope x)(r:RelV v u)
  (h:∀s',Inv X ah (σ.set i (some v)) H s'->Q () s') (hf:X.fn x=true\/X.env.scope.names.lookup x=some .local:=by first | exact .inl rfl | exact .inr rfl | assumption):aw M A (storeName X.env x u) Q E s:=
 Yx I hN hi hx r (fun s' I' _=>h s' I') hf
theorem Inv.call'(I:Inv X ah σ H s)(ho:s'.os=s.os)(u:Un (frs X.stack) ch H H' s.heap s'.heap)(hok:HOk X.prog X.w H' s'.heap)(hg:m8 s'.gens)
  (lI:∀b∈ch,(b∈X.ex\/X.s₀.heap.objs.size<=b)/\b≠X.env.locals/\(∀x c,X.env.cells.lookup x=some c->c≠b)/\∀p∈X.pn++ah,p.1≠b):Inv X ah σ H' s':=by
 obtain⟨h',g',d',t',o'⟩:=s'
 have e:o'=s.os:=ho
 subst e
 exact I.call (g':=g') (t':=t') (d':=d') u hok hg lI
end
abbrev XK:=ac->Option aa->Hp->Prop
abbrev St:=List (Option V)
abbrev VK:=V->Hp->Prop
abbrev TE:=St->Hp->VK->Prop
abbrev TT:=St->Hp->(Bool->Hp->Prop)->Prop
abbrev TA:=St->Hp->(List V->Hp->Prop)->Prop
structure Ends where
 nx:St->Hp->Prop
 rt:VK
 bk:St->Hp->Prop:=fun _ _=>False
 ct:St->Hp->Prop:=fun _ _=>False
abbrev TS:=Ends->St->Hp->Prop
def EP(X:Cx)(ah:List (aa×Obj))(σ:St)(Q:VK)(u:ac)(s':av):Prop:=∃v H',Inv X ah σ H' s'/\RelV v u/\Q v H'
def TP(X:Cx)(ah:List (aa×Obj))(σ:St)(Q:Bool->Hp->Prop)(b:Bool)(s':av):Prop:=∃H',Inv X ah σ H' s'/\Q b H'
def AP(X:Cx)(ah:List (aa×Obj))(σ:St)(Q:List V->Hp->Prop)(us:List ac)(s':av):Prop:=∃vs H',Inv X ah σ H' s'/\Vals vs us/\Q vs H'
def SP(X:Cx)(ah:List (aa×Obj))(D:Ends)(f:Flow)(s':av):Prop:=
 match f with
 | .next=>∃σ' H',Inv X ah σ' H' s'/\D.nx σ' H'
 | .brk=>∃σ' H',Inv X ah σ' H' s'/\D.bk σ' H'
 | .cont=>∃σ' H',Inv X ah σ' H' s'/\D.ct σ' H'
 | .ret u=>∃v σ' H',Inv X ah σ' H' s'/\RelV v u/\D.rt v H'
def PE(X:Cx)(e:ay)(t:TE):Prop:=
 ∀(ah:List (aa×Obj)) (s:av) (σ:St) (H:Hp) (Q:VK),Inv X ah σ H s->t σ H Q->aw (aA X.prog X.w) X.A (eval e X.env) (EP X ah σ Q) X.xe s
def PT(X:Cx)(e:ay)(t:TT):Prop:=
 ∀(ah:List (aa×Obj)) (s:av) (σ:St) (H:Hp) (Q:Bool->Hp->Prop),Inv X ah σ H s->t σ H Q->aw (aA X.prog X.w) X.A (isTrue e X.env (eval e X.env)) (TP X ah σ Q) X.xe s
def PW(X:Cx)(e:ay)(t:TT):Prop:=
 ∀(wF:Sem ac) (ah:List (aa×Obj)) (s:av) (σ:St) (H:Hp) (Q:Bool->Hp->Prop),Inv X ah σ H s->t σ H Q->aw (aA X.prog X.w) X.A (isTrue e X.env wF) (TP X ah σ Q) X.xe s
variable {e:ay}
theorem PW.pt{t:TT}(h:PW X e t):PT X e t:=h _
def PA(X:Cx)(es:List ay)(t:TA):Prop:=
 ∀(pos:Pos) (ah:List (aa×Obj)) (s:av) (σ:St) (H:Hp) (Q:List V->Hp->Prop),Inv X ah σ H s->t σ H Q->aw (aA X.prog X.w) X.A (spliced (hZ pos (cr es X.env))) (AP X ah σ Q) X.xe s
def PS(X:Cx)(st:aJ)(t:TS):Prop:=
 ∀(ah:List (aa×Obj)) (s:av) (σ:St) (H:Hp) (D:Ends),Inv X ah σ H s->t D σ H->aw (aA X.prog X.w) X.A (exec st X.env) (SP X ah D) X.xe s
def PSs(X:Cx)(st:List aJ)(t:TS):Prop:=
 ∀(ah:List (aa×Obj)) (s:av) (σ:St) (H:Hp) (D:Ends),Inv X ah σ H s->t D σ H->aw (aA X.prog X.w) X.A (execs st X.env) (SP X ah D) X.xe s
variable {M:ot}{A:aR}{E:ac->av->Prop}
theorem thn{α:Type}{t:Sem α}{Q Q':α->av->Prop}(h:aw M A t Q E s)(hQ:∀a s,Q a s->Q' a s):aw M A t Q' E s:=cY h hQ fun _ _ x=>x
variable {pos:Pos}{Q:ac->av->Prop}{ta:TE}
section
def jfZ(i:Nat):TE:=fun σ H Q=>∃v,σ[i]?=some (some v)/\Q v H
def tC(v:V):TE:=fun _ H Q=>Q v H
theorem jdV(hN:X.N[i]?=some x)(hv:Vis X.env.scope x)(hd:(x == ("__debug__" : Str))=false:=by decide)(dz:(x == ("__classdict__" : Str))=false:=by decide):PE X (.Name x pos) (jfZ i):=by
 intro ah s σ H Q I h;obtain⟨v,e,h⟩:=h;obtain⟨m,hn,hl⟩:=I.loc;obtain⟨u,r,l⟩:=hl i x v hN e hv;have bE:EP X ah σ Q u s:=⟨v,H,I,r,h⟩
 rcases l with⟨hk,hm⟩ | ⟨hk,c,hc,HK⟩
 .exact LG (wpAny_loadName_local I.ok.kind hk hn hm bE) hd
 .rcases hk with hk | hk
  .exact LG (wpAny_loadName_cell I.ok.kind hk hc HK bE) hd
  .exact LG (wpAny_loadName_free I.ok.kind hk hc HK bE dz) hd
theorem jdY{i j pos}:PE X (.Constant (.int i) j pos) (tC (.int i)):=fun _ _ _ H _ I h=>wpAny_Constant_int ⟨.int i,H,I.tok _,⟨_,rfl⟩,h⟩
theorem jdX{x j pos}:PE X (.Constant (.str x) j pos) (tC (.str x)):=fun _ _ _ H _ I h=>Calls.Constant_str ⟨.str x,H,I.tok _,⟨_,rfl⟩,h⟩
def Gl(X:Cx)(x:Str):Prop:=X.env.kindOf x=some .globalImplicit
theorem yL{E:ac->av->Prop}{σ:St}{pos:Pos}(I:Inv X ah σ H s)(hg:Gl X x)(hm:X.mg x=some u)(h:Q u s)
  (hd:(x == ("__debug__" : Str))=false:=by decide):aw (aA X.prog X.w) X.A (eval (.Name x pos) X.env) Q E s:=
 VH I.ok.kind hg (Calls.loadGlobal_global (by rw[I.ok.glob];exact I.mod.glob.keeps I.bk) hm h) hd
theorem yc{E:ac->av->Prop}{σ:St}{pos:Pos}(I:Inv X ah σ H s)(hg:Gl X x)(hm:X.mg x=none)(hv:dW x=some u)(h:Q u s)
  (hn:x≠"__name__":=by decide) (hd:(x == ("__debug__" : Str))=false:=by decide):aw (aA X.prog X.w) X.A (eval (.Name x pos) X.env) Q E s:=by
 obtain⟨mb,h1,h2⟩:=I.mod.blt
 exact VH I.ok.kind hg (Calls.loadGlobal_builtin (by rw[I.ok.glob];exact I.mod.glob.keeps I.bk) hm (by rw[I.ok.blt];exact h1.keeps I.bk) ((h2 x hn).trans hv) h) hd
variable {a b:ay}{tb:TE}
def tB(t:TE):TT:=fun σ H Q=>t σ H fun x H1=>∃c,x=.bl c/\Q c H1
variable {tA rj:TT}{qP:List ay}
def jhG(t u:TT):TT:=fun σ H Q=>t σ H fun c H1=>if c=true then u σ H1 Q else Q false H1
def tOr(t u:TT):TT:=fun σ H Q=>t σ H fun c H1=>if c=true then Q true H1 else u σ H1 Q
def jgX(ta tb:TE):TE:=fun σ H Q=>ta σ H fun x H1=>∃c,x=.bl c/\if c=true then tb σ H1 Q else Q (.bl false) H1
def jgP(ta:TE):TE:=fun σ H Q=>ta σ H fun x H1=>∃c,x=.bl c/\Q (.bl (!c)) H1
end
def SqL(K:aC)(H:Hp)(a:aa)(xs:List V):Prop:=
 Rd H a (.lst xs)\/
  ∃(o:Obj) (its:Array ac) (n:Nat),K.lookup a=some o/\o.cls=.type "list"/\o.dict=none/\o.data=.seq its n/\its.size<=aP/\Vals xs its.toList
def SqT(K:aC)(H:Hp)(a:aa)(xs:List V):Prop:=
 Rd H a (.tup xs)\/
  ∃(o:Obj) (its:Array ac) (n:Nat),K.lookup a=some o/\o.cls=.type "tuple"/\o.data=.seq its n/\its.size<=aP/\Vals xs its.toList
def jhX:ac->Option V
 | .none=>some .non
 | .bool b=>some (.bl b)
 | .int i _=>some (.int i)
 | .str x _=>some (.str x)
 | .bytes b _=>some (.byt b)
 | .float b _=>some (.flt b)
 | .ref a=>some (.ref a)
 | .type n=>some (.ty n)
 | _=>none
theorem RelV.abs{x:V}(r:RelV x u):jhX u=some x:=by
 cases x with
 | non=>cases r;rfl
 | bl _=>cases r;rfl
 | int _=>obtain⟨t,rfl⟩:=r;rfl
 | str _=>obtain⟨t,rfl⟩:=r;rfl
 | byt _=>obtain⟨t,rfl⟩:=r;rfl
 | flt _=>obtain⟨t,rfl⟩:=r;rfl
 | ref _=>cases r;rfl
 | ty _=>cases r;rfl
variable {y:V}
theorem RelV.inj{x:V}(r:RelV x u)(q:RelV y u):x=y:=eW (r.abs.symm.trans q.abs)
theorem Vals.inj:∀{xs ys:List V} {us:List ac},Vals xs us->Vals ys us->xs=ys
 | _,_,_,.nil,.nil=>rfl
 | _,_,_,.cons r t,.cons r' t'=>by rw[r.inj r',Vals.inj t t']
variable {K:aC}
section
variable {σ:St}{ys:List V}
theorem SqL.of(h:H a=some (.lst xs)):SqL K H a xs:=.inl (.inl h)
theorem SqT.of(h:H a=some (.tup xs)):SqT K H a xs:=.inl (.inl h)
theorem Inv.list(I:Inv X ah σ H s)(h:SqL X.K H a xs):∃its:List ac,Vals xs its/\PlainL s.heap a its.toArray/\xs.length<=aP:=by
 rcases h with h | ⟨o,its,n,hk,hc,hd,hs,hz,r⟩
 .obtain⟨z,its,n,r,e⟩:=h.ok I.hok
  exact⟨its,r,⟨_,n,e,rfl,rfl,rfl⟩,z⟩
 .refine⟨its.toList,r,⟨o,n,I.kIn a o hk,hc,hd,by simpa using hs⟩,?_⟩
  have e:=r.length;simp only[dQ]at e;omega
theorem Inv.tuple(I:Inv X ah σ H s)(h:SqT X.K H a xs):∃its:List ac,Vals xs its/\IsTup s.heap a its.toArray/\xs.length<=aP:=by
 rcases h with h | ⟨o,its,n,hk,hc,hs,hz,r⟩
 .obtain⟨z,its,r,p⟩:=h.ok I.hok
  exact⟨its,r,p,z⟩
 .refine⟨its.toList,r,⟨o,I.kIn a o hk,hc,n,by simpa using hs⟩,?_⟩
  have e:=r.length;simp only[dQ]at e;omega
theorem Inv.list_inj(I:Inv X ah σ H s)(h:SqL X.K H a xs)(h':SqL X.K H a ys):xs=ys:=by
 obtain⟨its,r,⟨o,n,e,_,_,d⟩,_⟩:=I.list h;obtain⟨its',r',⟨o',n',e',_,_,d'⟩,_⟩:=I.list h';rw[e]at e';cases e';rw[d]at d';injection d' with d1 _;have:its=its':=by simpa using WW WN d1
 subst this;exact r.inj r'
theorem Inv.tuple_inj(I:Inv X ah σ H s)(h:SqT X.K H a xs)(h':SqT X.K H a ys):xs=ys:=by
 obtain⟨its,r,⟨o,e,_,n,d⟩,_⟩:=I.tuple h;obtain⟨its',r',⟨o',e',_,n',d'⟩,_⟩:=I.tuple h';rw[e]at e';cases e';rw[d]at d';injection d' with d1 _;have:its=its':=by simpa using WW WN d1
 subst this;exact r.inj r'
end
abbrev Cx.wish(X:Cx)(E:ac->av->Prop):Cx:={ X with xe:=E }
abbrev Cx.nox(X:Cx):Cx:=X.wish fun _ _=>False
theorem Cx.Ok.wish(ok:X.Ok)(E:ac->av->Prop):(X.wish E).Ok:=
 ⟨ok.mod,ok.kind,ok.glob,ok.blt,ok.above,ok.inj,ok.has,ok.cab,ok.hd,ok.frames,ok.stk,ok.exf,ok.bs,ok.bsz,ok.noex,ok.exfs,ok.funs,ok.frf⟩
theorem Cx.Ok.unwish(ok:(X.wish E).Ok):X.Ok:=
 ⟨ok.mod,ok.kind,ok.glob,ok.blt,ok.above,ok.inj,ok.has,ok.cab,ok.hd,ok.frames,ok.stk,ok.exf,ok.bs,ok.bsz,ok.noex,ok.exfs,ok.funs,ok.frf⟩
section
variable {σ:St}
theorem Inv.wish(I:Inv X ah σ H s)(E:ac->av->Prop):Inv (X.wish E) ah σ H s:=⟨I.ok.wish E,I.os,I.bare,I.base,I.loc,I.cell,I.free,I.freeC,I.pin,I.hok,I.len⟩
theorem Inv.unwish(I:Inv (X.wish E) ah σ H s):Inv X ah σ H s:=⟨I.ok.unwish,I.os,I.bare,I.base,I.loc,I.cell,I.free,I.freeC,I.pin,I.hok,I.len⟩
theorem SP.unwish{D:Ends}{f:Flow}(h:SP (X.wish E) ah D f s'):SP X ah D f s':=by
 cases f with
 | next=>obtain⟨σ',H',I,q⟩:=h;exact⟨σ',H',I.unwish,q⟩
 | brk=>obtain⟨σ',H',I,q⟩:=h;exact⟨σ',H',I.unwish,q⟩
 | cont=>obtain⟨σ',H',I,q⟩:=h;exact⟨σ',H',I.unwish,q⟩
 | ret u=>obtain⟨v,σ',H',I,r,q⟩:=h;exact⟨v,σ',H',I.unwish,r,q⟩
theorem PSs.nox{st:List aJ}{t:TS}(h:PSs X.nox st t):PSs X st t:=fun ah s σ H D I hw=>
 cY (h ah s σ H D (I.wish _) hw) (fun _ _ q=>q.unwish) fun _ _ z=>fw z
end
section
variable {st:aJ}{qP:List aJ}{t u:TS}{te:TE}
def jgQ:TS:=fun D σ H=>D.nx σ H
def jH(t u:TS):TS:=fun D σ H=>t { D with nx:=u D } σ H
def jf4:TS:=fun D σ H=>D.bk σ H
theorem Inv.quiet{σ:St}(I:Inv X ah σ H s):interactive X.env=false:=by simp[interactive,I.ok.kind]
def jgU(te:TE):TS:=fun D σ H=>te σ H fun _ H1=>D.nx σ H1
def jhx(te:TE):TS:=fun D σ H=>te σ H D.rt
def jhz(c:TT)(t u:TS):TS:=fun D σ H=>c σ H fun b H1=>if b=true then t D σ H1 else u D σ H1
def jf2:TS:=fun _ _ _=>False
end
abbrev TG:=V->St->Hp->(St->Hp->Prop)->Prop
abbrev TGs:=List V->St->Hp->(St->Hp->Prop)->Prop
def PG(X:Cx)(target:ay)(t:TG):Prop:=
 ∀(ah:List (aa×Obj)) (s:av) (σ:St) (H:Hp) (v:V) (u:ac) (Q:St->Hp->Prop),Inv X ah σ H s->RelV v u->t v σ H Q->
  aw (aA X.prog X.w) X.A (assign target X.env u) (fun _ s'=>∃σ' H',Inv X ah σ' H' s'/\Q σ' H') X.xe s
def PGs(X:Cx)(ts:List ay)(t:TGs):Prop:=
 ∀(ah:List (aa×Obj)) (s:av) (σ:St) (H:Hp) (vs:List V) (us:List ac) (Q:St->Hp->Prop),Inv X ah σ H s->Vals vs us->t vs σ H Q->
  aw (aA X.prog X.w) X.A (Mf ((wf ts X.env).map (·.2)) us) (fun _ s'=>∃σ' H',Inv X ah σ' H' s'/\Q σ' H') X.xe s
section
def qh(i:Nat):TG:=fun v σ H Q=>Q (σ.set i (some v)) H
def jhU:TGs:=fun vs σ H Q=>vs=[]/\Q σ H
def jhp(t:TG)(u:TGs):TGs:=fun vs σ H Q=>∃v r,vs=v :: r/\t v σ H fun σ' H'=>u r σ' H' Q
def jhT(K:aC)(n:Nat)(t:TGs):TG:=fun v σ H Q=>∃a xs,v=.ref a/\SqT K H a xs/\xs.length=n/\t xs σ H Q
def je8(te:TE)(g:TG):TS:=fun D σ H=>te σ H fun x H1=>g x σ H1 D.nx
def jdB(c:TT)(tb:TS):TS:=fun D σ H=>∃W:Nat->St->Hp->Prop,(∃m,W m σ H)/\∀m σ H,W m σ H->
 c σ H fun b H1=>if b=true then ∃N:St->Hp->Prop,(∀σ' H',N σ' H'->∃m',m' < m/\W m' σ' H')/\tb { D with nx:=N,ct:=N,bk:=D.nx } σ H1 else D.nx σ H1
end
structure It where
 go:Nat->Hp->Prop
 yld:Nat->Hp->V->Hp->Prop
 stop:Nat->Hp->Prop
def Kc(X:Cx)(ah:List (aa×Obj))(H:Hp)(b:aa):Prop:=
 H b=none/\b≠X.env.locals/\b ∉ X.fs/\(b∈X.ex\/X.s₀.heap.objs.size<=b)/\(∀x c,X.env.cells.lookup x=some c->c≠b)/\∀p∈X.pn++ah,p.1≠b
theorem Inv.fpOk{σ:St}(I:Inv X ah σ H s)(hb:s.heap.objs.size<=b)(hn:H' b=none):Kc X ah H' b:=by
 refine⟨hn,m9 (cz I.lt hb),I.nofs hb,.inr (aV I.sz hb),fun x c e z=>?_,fun p hp z=>?_⟩
 .obtain⟨v,q⟩:=I.cell x c e
  exact absurd (cz q.lt (by rw[z];exact hb)) (iX _)
 .exact absurd (cz (aS (I.pin p hp).1) (by rw[z];exact hb)) (iX _)
structure Turn(P:aF)(w:aE)(K:aC)(tg:ay)(J:It)(fp:List aa)(it:aa)(tn:Nat->aB->Prop):Prop where
 mem:it∈fp
 obj:∀i h,tn i h->∀b∈fp,∃o,h.get? b=some o/\∀v,o.data≠.cell v
 keep:∀i h h',tn i h->(∀b∈fp,∀o,h.get? b=some o->h'.get? b=some o)->tn i h'
 item:∀(X:Cx),X.prog=P->X.w=w->X.K=K->X.calm=true->∀(i:Nat) (ah:List (aa×Obj)) (s:av) (σ:St) (H:Hp) (E:ac->av->Prop),Inv X ah σ H s->(∀b∈fp,Kc X ah H b)->tn i s.heap->J.go i H->
  aw (aA P w) X.A (cL (.ref it)) (fun r s1=>∃u,r=some u/\
   aw (aA P w) X.A (Az tg (.ref it) u) (fun _ s2=>∃x H',Inv X ah σ H' s2/\RelV x u/\J.yld i H x H'/\tn (i+1) s2.heap/\∀b∈fp,H' b=none) E s1) E s
 done:∀(X:Cx),X.prog=P->X.w=w->X.K=K->X.calm=true->∀(i:Nat) (ah:List (aa×Obj)) (s:av) (σ:St) (H:Hp) (E:ac->av->Prop),Inv X ah σ H s->(∀b∈fp,Kc X ah H b)->tn i s.heap->J.stop i H->
  aw (aA P w) X.A (cL (.ref it)) (fun r s1=>r=none/\Inv X ah σ H s1) E s
 self:∀(A:aR) (i:Nat) (s:av) (Q:ac->av->Prop) (E:ac->av->Prop),tn i s.heap->Q (.ref it) s->aw (aA P w) A (Ay (.ref it)) Q E s
abbrev TI:=St->Hp->(It->Hp->Prop)->Prop
def PIE(X:Cx)(ah:List (aa×Obj))(σ:St)(tg:ay)(R:It->Hp->Prop)(xu:ac)(s2:av):Prop:=
 ∃(it:aa) (fp:List aa) (tn:Nat->aB->Prop) (J:It) (H':Hp),xu=.ref it/\Inv X ah σ H' s2/\Turn X.prog X.w X.K tg J fp it tn/\tn 0 s2.heap/\(∀b∈fp,Kc X ah H' b)/\R J H'
def PI(X:Cx)(tg iter:ay)(wi:TI):Prop:=
 ∀(ah:List (aa×Obj)) (s:av) (σ:St) (H:Hp) (R:It->Hp->Prop),Inv X ah σ H s->wi σ H R->
  aw (aA X.prog X.w) X.A (eval iter X.env) (fun v s1=>aw (aA X.prog X.w) X.A (Ay v) (PIE X ah σ tg R) X.xe s1) X.xe s
variable {tg:ay}
theorem jeI{it:aa}{o:Obj}{n:String}{vs:Array ac}{Q:Unit->av->Prop}(ho:s.heap.get? it=some o)(hc:o.cls=.type n)(hd:o.data=.fields vs)
  (hn:["enumerate","zip","dict_itemiterator","dict_reverseitemiterator","odict_iterator","itertools.zip_longest","itertools.pairwise"].contains n=false) (hQ:Q () s):aw M A (Az tg (.ref it) u) Q E s:=by
 unfold Az
 cases tg <;> first
  | exact az hQ
  | (cases u <;> first
    | exact az hQ
    | (refine am (vZ ho ?_)
       rw[hc,hd]
       show aw M A (if (["enumerate","zip","dict_itemiterator","dict_reverseitemiterator","odict_iterator","itertools.zip_longest","itertools.pairwise"].contains n && vs[0]? == some (cb _))=true then _ else _) Q E s
       rw[WT (by intro h;rw[hn,Bool.false_and]at h;cases h)]
       exact az hQ))
def Itl(K:aC)(a:aa):It:=
 ⟨fun i H=>∃xs x,SqL K H a xs/\xs[i]?=some x,fun i H x H'=>H'=H/\∀xs,SqL K H a xs->xs[i]?=some x,fun i H=>∃xs,SqL K H a xs/\xs.length<=i⟩
def Itt(K:aC)(a:aa):It:=
 ⟨fun i H=>∃xs x,SqT K H a xs/\xs[i]?=some x,fun i H x H'=>H'=H/\∀xs,SqT K H a xs->xs[i]?=some x,fun i H=>∃xs,SqT K H a xs/\xs.length<=i⟩
def Itr(lo:Int)(n:Nat):It:=⟨fun i _=>i < n,fun i H x H'=>H'=H/\x=.int (lo+i),fun i _=>n<=i⟩
theorem jcx(a it:aa):Turn P w K tg (Itl K a) [it] it (fun i h=>h.IsListIter it a i) where
 mem:=by simp
 obj:=fun i h st b hb=>by
  have e:b=it:=by simpa using hb
  subst e;obtain⟨o,e,c,d⟩:=st;exact⟨o,e,fun v z=>by rw[d]at z;cases z⟩
 keep:=fun i h h' st k=>st.at fun o e=>k it (by simp) o e
 item:=by
  intro X hP hw hK hc i ah s σ H E I hf st hg;subst hP hw hK;obtain⟨xs,x,hq,hx⟩:=hg;obtain⟨its,rv,p,hz⟩:=I.list hq;obtain⟨u,hu,ru⟩:=rv.get hx;obtain⟨f0,f1,f2,f3,f4,f5⟩:=hf it (by simp);refine Tu st p.isList (x:=u) (by simpa using hu) fun h' i7 sb=>?_
  have I1:Inv X ah σ H { s with heap:=h' }:=I.turned (t':=s.toks) (fun b o hb e=>(sb.2 b hb).trans e) f0 f1 f3 f4 f5;obtain⟨o,e,c,d⟩:=id i7;exact⟨u,rfl,jeI (s:={ s with heap:=h' }) e c d (by decide) ⟨x,H,I1,ru,⟨rfl,fun ys hy=>by rw[I.list_inj hy hq];exact hx⟩,i7,fun b hb=>(hf b hb).1⟩⟩
 done:=by
  intro X hP hw hK hc i ah s σ H E I hf st hg;subst hP hw hK;obtain⟨xs,hq,hx⟩:=hg;obtain⟨its,rv,p,hz⟩:=I.list hq;obtain⟨f0,f1,f2,f3,f4,f5⟩:=hf it (by simp);have hl:=rv.length;exact Tv (I.ok.hd hc) st p.isList (by simp;omega) fun h' eb=>⟨rfl,I.turned (t':=s.toks) (fun b o hb e=>eb b o hb e) f0 f1 f3 f4 f5⟩
 self:=fun _ _ _ _ _ st h=>wpAny_pyIter_listiter st h
theorem jaV(a it:aa):Turn P w K tg (Itt K a) [it] it (fun i h=>h.IsTupleIter it a i) where
 mem:=by simp
 obj:=fun i h st b hb=>by
  have e:b=it:=by simpa using hb
  subst e;obtain⟨o,e,c,d⟩:=st;exact⟨o,e,fun v z=>by rw[d]at z;cases z⟩
 keep:=fun i h h' st k=>st.at fun o e=>k it (by simp) o e
 item:=by
  intro X hP hw hK hc i ah s σ H E I hf st hg;subst hP hw hK;obtain⟨xs,x,hq,hx⟩:=hg;obtain⟨its,rv,p,hz⟩:=I.tuple hq;obtain⟨u,hu,ru⟩:=rv.get hx;obtain⟨f0,f1,f2,f3,f4,f5⟩:=hf it (by simp);refine Ts st (show s.heap.IsTuple a its.toArray from p) (x:=u) (by simpa using hu) fun h' i7 sb=>?_
  have I1:Inv X ah σ H { s with heap:=h' }:=I.turned (t':=s.toks) (fun b o hb e=>(sb.2 b hb).trans e) f0 f1 f3 f4 f5;obtain⟨o,e,c,d⟩:=id i7;exact⟨u,rfl,jeI (s:={ s with heap:=h' }) e c d (by decide) ⟨x,H,I1,ru,⟨rfl,fun ys hy=>by rw[I.tuple_inj hy hq];exact hx⟩,i7,fun b hb=>(hf b hb).1⟩⟩
 done:=by
  intro X hP hw hK hc i ah s σ H E I hf st hg;subst hP hw hK;obtain⟨xs,hq,hx⟩:=hg;obtain⟨its,rv,p,hz⟩:=I.tuple hq;obtain⟨f0,f1,f2,f3,f4,f5⟩:=hf it (by simp);have hl:=rv.length;exact Tt (I.ok.hd hc) st (show s.heap.IsTuple a its.toArray from p) (by simp;omega) fun h' eb=>⟨rfl,I.turned (t':=s.toks) (fun b o hb e=>eb b o hb e) f0 f1 f3 f4 f5⟩
 self:=fun _ _ _ _ _ st h=>wpAny_pyIter_tupleiter st h
theorem jaW(it:aa)(lo:Int)(n:Nat):Turn P w K tg (Itr lo n) [it] it (fun i h=>IsRangeIter h it (lo+(i:Nat) * 1) ((n:Int) - (i:Nat)) 1) where
 mem:=by simp
 obj:=fun i h st b hb=>by
  have e:b=it:=by simpa using hb
  subst e;exact⟨_,st,fun v z=>by
   have z':Data.fields _=Data.cell v:=z
   cases z'⟩
 keep:=fun i h h' st k=>k it (by simp) _ st
 item:=by
  intro X hP hw hK hc i ah s σ H E I hf st hg;subst hP hw hK;obtain⟨f0,f1,f2,f3,f4,f5⟩:=hf it (by simp);have W:=Walks.range (prog:=X.prog) (w:=X.w) (I.ok.hd hc) it lo 1 n;refine W.item i s _ _ hg st fun v h' tk hv i7 kk=>?_
  obtain⟨t,rfl⟩:=hv;have I1:Inv X ah σ H { s with heap:=h',toks:=tk }:=I.turned (fun b o hb e=>kk b o (by simpa using hb) e) f0 f1 f3 f4 f5;refine⟨_,rfl,jeI (s:={ s with heap:=h',toks:=tk }) (n:="range_iterator") i7 rfl rfl (by decide) ⟨.int (lo+i),H,I1,⟨t,?_⟩,⟨rfl,rfl⟩,i7,fun b hb=>(hf b hb).1⟩⟩;rw[Int.mul_one]
 done:=by
  intro X hP hw hK hc i ah s σ H E I hf st hg;subst hP hw hK;obtain⟨f0,f1,f2,f3,f4,f5⟩:=hf it (by simp);exact wpAny_pyNext_range_end (I.ok.hd hc) st (by have:n<=i:=hg;omega) fun h' eb=>⟨rfl,I.turned (t':=s.toks) (fun b o hb e=>eb b o hb e) f0 f1 f3 f4 f5⟩
 self:=fun _ _ _ _ _ st h=>wpAny_pyIter_rangeiter st h
variable {fp:List aa}
section
def jhm(K:aC)(tl:TE):TI:=fun σ H R=>tl σ H fun x H1=>∃a,x=.ref a/\(∃xs,SqL K H1 a xs)/\R (Itl K a) H1
def jhR(K:aC)(tl:TE):TI:=fun σ H R=>tl σ H fun x H1=>∃a,x=.ref a/\(∃xs,SqT K H1 a xs)/\R (Itt K a) H1
theorem jdP{σ:St}{R:It->Hp->Prop}{lo hi:Int}{t u v:Tok}{tk:Nat}(I:Inv X ah σ H s)(h1:-(2 ^ 62)<=lo)(h2:lo < 2 ^ 62)(h3:-(2 ^ 62)<=hi)(h4:hi < 2 ^ 62)
  (q:R (Itr lo (hi - lo).toNat) H):aw (aA X.prog X.w) X.A (Ay (.ref s.heap.objs.size)) (PIE X ah σ tg R) E { s with heap:=s.heap.push { cls:=.type "range",data:=.fields #[.int lo t,.int hi u,.int 1 v] },toks:=tk }:=by
 refine wpAny_pyIter_range (IsRange.new ..) (small_one h1 h2 h3 h4) ?_
 have I1:Inv X ah σ H { s with heap:=s.heap.push { cls:=.type "range",data:=.fields #[.int lo t,.int hi u,.int 1 v] },toks:=tk }:=I.kept fun b o e=>bo _ e
 refine⟨(s.heap.push { cls:=.type "range",data:=.fields #[.int lo t,.int hi u,.int 1 v] }).objs.size,[(s.heap.push { cls:=.type "range",data:=.fields #[.int lo t,.int hi u,.int 1 v] }).objs.size],_,_,H,rfl,
  I1.kept (t':=tk) fun b o e=>bo _ e,jaW _ lo (hi - lo).toNat,?_,fun b hb=>?_,q⟩
 .have e1:lo+((0:Nat):Int) * 1=lo:=by simp
  have e2:(((hi - lo).toNat:Nat):Int) - ((0:Nat):Int)=Builtin.Range.rangeSize lo hi 1:=by rw[rangeSize_one];split <;> omega
  show IsRangeIter _ _ (lo+((0:Nat):Int) * 1) ((((hi - lo).toNat:Nat):Int) - ((0:Nat):Int)) 1
  rw[e1,e2]
  exact cg _ rfl
 .have e:b=(s.heap.push { cls:=.type "range",data:=.fields #[.int lo t,.int hi u,.int 1 v] }).objs.size:=by simpa using hb
  subst e
  exact I1.fpOk (aL _) (I1.hok.fresh (aL _))
def jhl(ta:TA):TI:=fun σ H R=>ta σ H fun vs H1=>∃j:Int,vs=[.int j]/\-(2 ^ 62)<=j/\j < 2 ^ 62/\R (Itr 0 j.toNat) H1
def jhB(wi:TI)(g:TG)(tb:TS):TS:=fun D σ H=>wi σ H fun J H1=>∃W:Nat->Nat->St->Hp->Prop,(∃m,W 0 m σ H1)/\∀i m σ H,W i m σ H->
 (J.stop i H/\D.nx σ H)\/(J.go i H/\∃N:St->Hp->Prop,(∀σ' H',N σ' H'->∃m',m' < m/\W (i+1) m' σ' H')/\∀x H',J.yld i H x H'->g x σ H' fun σ2 H2=>tb { D with nx:=N,ct:=N,bk:=D.nx } σ2 H2)
def Jc(fp:List aa)(h:aB):List (aa×Obj):=fp.filterMap fun b=>(h.get? b).map fun o=>(b,o)
theorem qT{o:Obj}(hb:b∈fp)(e:h.get? b=some o):(b,o)∈Jc fp h:=Wp.mpr ⟨b,hb,by rw[e];rfl⟩
theorem jcR{p:aa×Obj}(hp:p∈Jc fp h):p.1∈fp/\h.get? p.1=some p.2:=by
 obtain⟨b,hb,e⟩:=Wp.mp hp
 cases q:h.get? b with
 | none=>rw[q]at e;cases e
 | some o=>
  rw[q]at e;have e':(b,o)=p:=eW e;subst e';exact⟨hb,q⟩
theorem Inv.pinned{σ:St}(I:Inv X ah σ H s)(hf:∀b∈fp,Kc X ah H b)(ho:∀b∈fp,∃o,s.heap.get? b=some o/\∀v,o.data≠.cell v):Inv X (ah++Jc fp s.heap) σ H s:=
 I.pins_of fun p hp=>(aT.mp hp).elim (fun z=>I.pin p (fq _ z)) fun z=>by
  obtain⟨hb,e⟩:=jcR z;obtain⟨f0,f1,f2,_⟩:=hf p.1 hb;obtain⟨o,e',d⟩:=ho p.1 hb;rw[e]at e';cases e';exact⟨e,f0,f1,f2,d⟩
theorem Inv.unpinned{pl:List (aa×Obj)}{σ:St}(I:Inv X (ah++pl) σ H s):Inv X ah σ H s:=I.pins_of fun p hp=>I.pin p (fq _ (EX _ hp))
end
variable {g:TG}{tb:TS}
theorem K1{D:Ends}{σ:St}(Pv:Nat->St->Hp->Prop)(h0:Pv 0 σ H)(hl:∀i σ H,i<=xs.length->Pv i σ H->SqL K H a xs)
  (hs:∀i x σ H,xs[i]?=some x->Pv i σ H->g x σ H fun σ2 H2=>tb { D with nx:=Pv (i+1),ct:=Pv (i+1),bk:=D.nx } σ2 H2) (hd:∀σ H,Pv xs.length σ H->D.nx σ H) :
  ∃W:Nat->Nat->St->Hp->Prop,(∃m,W 0 m σ H)/\∀i m σ H,W i m σ H->
   ((Itl K a).stop i H/\D.nx σ H)\/((Itl K a).go i H/\∃N:St->Hp->Prop,(∀σ' H',N σ' H'->∃m',m' < m/\W (i+1) m' σ' H')/\∀x H',(Itl K a).yld i H x H'->g x σ H' fun σ2 H2=>tb { D with nx:=N,ct:=N,bk:=D.nx } σ2 H2):=by
 refine⟨fun i m σ H=>m=xs.length - i/\i<=xs.length/\Pv i σ H,⟨xs.length,by simp,cy _,h0⟩,?_⟩
 rintro i m σ H ⟨rfl,hi,p⟩
 have q:=hl i σ H hi p
 by_cases bz:i < xs.length
 .refine .inr ⟨⟨xs,xs[i],q,by simp[bz]⟩,Pv (i+1),fun σ' H' p'=>⟨xs.length - (i+1),by omega,rfl,bz,p'⟩,fun x H' y=>?_⟩
  obtain⟨e,y⟩:=y
  subst e
  exact hs i x σ _ (y xs q) p
 .have e:i=xs.length:=by omega
  subst e
  exact .inl ⟨⟨xs,q,aL _⟩,hd σ H p⟩
theorem yM{D:Ends}{σ:St}(Pv:Nat->St->Hp->Prop)(h0:Pv 0 σ H)(hl:∀i σ H,i<=xs.length->Pv i σ H->SqT K H a xs)
  (hs:∀i x σ H,xs[i]?=some x->Pv i σ H->g x σ H fun σ2 H2=>tb { D with nx:=Pv (i+1),ct:=Pv (i+1),bk:=D.nx } σ2 H2) (hd:∀σ H,Pv xs.length σ H->D.nx σ H) :
  ∃W:Nat->Nat->St->Hp->Prop,(∃m,W 0 m σ H)/\∀i m σ H,W i m σ H->
   ((Itt K a).stop i H/\D.nx σ H)\/((Itt K a).go i H/\∃N:St->Hp->Prop,(∀σ' H',N σ' H'->∃m',m' < m/\W (i+1) m' σ' H')/\∀x H',(Itt K a).yld i H x H'->g x σ H' fun σ2 H2=>tb { D with nx:=N,ct:=N,bk:=D.nx } σ2 H2):=by
 refine⟨fun i m σ H=>m=xs.length - i/\i<=xs.length/\Pv i σ H,⟨xs.length,by simp,cy _,h0⟩,?_⟩
 rintro i m σ H ⟨rfl,hi,p⟩
 have q:=hl i σ H hi p
 by_cases bz:i < xs.length
 .refine .inr ⟨⟨xs,xs[i],q,by simp[bz]⟩,Pv (i+1),fun σ' H' p'=>⟨xs.length - (i+1),by omega,rfl,bz,p'⟩,fun x H' y=>?_⟩
  obtain⟨e,y⟩:=y
  subst e
  exact hs i x σ _ (y xs q) p
 .have e:i=xs.length:=by omega
  subst e
  exact .inl ⟨⟨xs,q,aL _⟩,hd σ H p⟩
theorem jc4{lo:Int}{n:Nat}{D:Ends}{σ:St}(Pv:Nat->St->Hp->Prop)(h0:Pv 0 σ H)
  (hs:∀i σ H,i < n->Pv i σ H->g (.int (lo+i)) σ H fun σ2 H2=>tb { D with nx:=Pv (i+1),ct:=Pv (i+1),bk:=D.nx } σ2 H2) (hd:∀σ H,Pv n σ H->D.nx σ H) :
  ∃W:Nat->Nat->St->Hp->Prop,(∃m,W 0 m σ H)/\∀i m σ H,W i m σ H->
   ((Itr lo n).stop i H/\D.nx σ H)\/((Itr lo n).go i H/\∃N:St->Hp->Prop,(∀σ' H',N σ' H'->∃m',m' < m/\W (i+1) m' σ' H')/\∀x H',(Itr lo n).yld i H x H'->g x σ H' fun σ2 H2=>tb { D with nx:=N,ct:=N,bk:=D.nx } σ2 H2):=by
 refine⟨fun i m σ H=>m=n - i/\i<=n/\Pv i σ H,⟨n,by simp,cy _,h0⟩,?_⟩
 rintro i m σ H ⟨rfl,hi,p⟩
 by_cases bz:i < n
 .refine .inr ⟨bz,Pv (i+1),fun σ' H' p'=>⟨n - (i+1),by omega,rfl,bz,p'⟩,fun x H' y=>?_⟩
  obtain⟨e,y⟩:=y
  subst e y
  exact hs i σ _ bz p
 .have e:i=n:=by omega
  subst e
  exact .inl ⟨aL _,hd σ H p⟩
theorem jdp{c:TT}{D:Ends}{σ:St}(Pv:St->Hp->Prop)(μ:St->Hp->Nat)(h0:Pv σ H)
  (hs:∀σ H,Pv σ H->c σ H fun b H1=>if b=true then tb { D with nx:=fun σ' H'=>Pv σ' H'/\μ σ' H' < μ σ H,ct:=fun σ' H'=>Pv σ' H'/\μ σ' H' < μ σ H,bk:=D.nx } σ H1 else D.nx σ H1)
  (mono:∀σ H Q Q',(∀b H1,Q b H1->Q' b H1)->c σ H Q->c σ H Q'):jdB c tb D σ H:=by
 refine⟨fun m σ H=>m=μ σ H/\Pv σ H,⟨_,rfl,h0⟩,?_⟩
 rintro m σ H ⟨rfl,p⟩
 refine mono σ H _ _ (fun b H1 q=>?_) (hs σ H p)
 cases b with
 | true=>exact⟨_,fun σ' H' ⟨p',l⟩=>⟨_,l,rfl,p'⟩,q⟩
 | false=>exact q
abbrev R2:=V->V->Hp->VK->Prop
def OpR(X:Cx)(f:ac->ac->Sem ac)(r:R2):Prop:=
 ∀(ah:List (aa×Obj)) (s:av) (σ:St) (H:Hp) (x y:V) (v u:ac) (Q:VK),Inv X ah σ H s->RelV x v->RelV y u->r x y H Q->
  aw (aA X.prog X.w) X.A (f v u) (EP X ah σ Q) X.xe s
def zg(X:Cx)(f:ac)(r:List V->Hp->VK->Prop):Prop:=
 ∀(ah:List (aa×Obj)) (s:av) (σ:St) (H:Hp) (xs:List V) (us:List ac) (Q:VK),Inv X ah σ H s->Vals xs us->r xs H Q->
  aw (aA X.prog X.w) X.A (call f us) (EP X ah σ Q) X.xe s
def tOp(r:R2)(ta tb:TE):TE:=fun σ H Q=>ta σ H fun x H1=>tb σ H1 fun y H2=>r x y H2 Q
def rI(C:Int->Int->Prop)(g:Int->Int->V):R2:=fun x y H Q=>∃i j,x=.int i/\y=.int j/\C i j/\Q (g i j) H
def rI0(g:Int->Int->V):R2:=fun x y H Q=>∃i j,x=.int i/\y=.int j/\Q (g i j) H
section
variable {a b c:ay}{tb tc:TE}
theorem jgF(ha:PE X a ta)(hb:PE X b tb){σ:St}{R:V->V->Hp->Prop}(I:Inv X ah σ H s)
  (h:ta σ H fun x H1=>tb σ H1 fun y H2=>R x y H2) {Q:ac->av->Prop} {f:ac->ac->Sem ac}
  (hf:∀v u s2 x y H2,Inv X ah σ H2 s2->RelV x v->RelV y u->R x y H2->aw (aA X.prog X.w) X.A (f v u) Q X.xe s2) :
  aw (aA X.prog X.w) X.A (eval a X.env) (fun v s₁=>aw (aA X.prog X.w) X.A (eval b X.env) (fun u s₂=>aw (aA X.prog X.w) X.A (f v u) Q X.xe s₂) X.xe s₁) X.xe s:=by
 refine thn (ha ah s σ H _ I h) fun v s1 hM=>?_
 obtain⟨x,H1,I1,r1,q1⟩:=hM
 refine thn (hb ah s1 σ H1 _ I1 q1) fun u s2 hM=>?_
 obtain⟨y,H2,I2,r2,q2⟩:=hM
 exact hf v u s2 x y H2 I2 r1 r2 q2
theorem opI{f:ac->ac->Sem ac}{C:Int->Int->Prop}{g:Int->Int->Int}
  (rule:∀(i j:Int) (t u:Tok) (s:av) (Q:ac->av->Prop) (E:ac->av->Prop),C i j->Q (.int (g i j) s.toks) { s with toks:=s.toks+1 }->aw (aA X.prog X.w) X.A (f (.int i t) (.int j u)) Q E s) :
  OpR X f (rI C fun i j=>.int (g i j)):=by
 intro ah s σ H x y v u Q I rx ry h
 obtain⟨i,j,rfl,rfl,hc,q⟩:=h
 obtain⟨t,rfl⟩:=rx
 obtain⟨t',rfl⟩:=ry
 exact rule i j t t' s _ _ hc ⟨.int (g i j),H,I.tok _,⟨_,rfl⟩,q⟩
theorem jhd{f:ac->ac->Sem ac}{g:Int->Int->Int}
  (rule:∀(i j:Int) (t u:Tok) (s:av) (Q:ac->av->Prop) (E:ac->av->Prop),Q (.int (g i j) s.toks) { s with toks:=s.toks+1 }->aw (aA X.prog X.w) X.A (f (.int i t) (.int j u)) Q E s) :
  OpR X f (rI0 fun i j=>.int (g i j)):=by
 intro ah s σ H x y v u Q I rx ry h
 obtain⟨i,j,rfl,rfl,q⟩:=h
 obtain⟨t,rfl⟩:=rx
 obtain⟨t',rfl⟩:=ry
 exact rule i j t t' s _ _ ⟨.int (g i j),H,I.tok _,⟨_,rfl⟩,q⟩
theorem jhe{f:ac->ac->Sem ac}{g:Int->Int->Bool}
  (rule:∀(i j:Int) (t u:Tok) (s:av) (Q:ac->av->Prop) (E:ac->av->Prop),Q (.bool (g i j)) s->aw (aA X.prog X.w) X.A (f (.int i t) (.int j u)) Q E s) :
  OpR X f (rI0 fun i j=>.bl (g i j)):=by
 intro ah s σ H x y v u Q I rx ry h
 obtain⟨i,j,rfl,rfl,q⟩:=h
 obtain⟨t,rfl⟩:=rx
 obtain⟨t',rfl⟩:=ry
 exact rule i j t t' s _ _ ⟨.bl (g i j),H,I,rfl,q⟩
def jh0(i j:Int):Prop:=0<=j/\j<=1000000/\i.natAbs < 2 ^ 64
def CMul(i j:Int):Prop:=(-(2 ^ 64) < i/\i < 2 ^ 64)\/(-(2 ^ 64) < j/\j < 2 ^ 64)
theorem CMul.ok{i j:Int}(h:CMul i j):IntMulOk i j:=by
 rcases h with⟨h1,h2⟩ | ⟨h1,h2⟩
 .exact .of_left (intBits_le_64 h1 h2)
 .exact .of_right (intBits_le_64 h1 h2)
theorem qp:OpR X (fj .Add) (rI0 fun i j=>.int (i+j)):=jhd fun _ _ _ _ _ _ _ q=>add_int q
theorem Zm:OpR X (fj .Sub) (rI0 fun i j=>.int (i - j)):=jhd fun _ _ _ _ _ _ _ q=>sub_int q
theorem yw:OpR X (fj .Mult) (rI CMul fun i j=>.int (i * j)):=opI fun _ _ _ _ _ _ _ hc q=>mul_int q hc.ok
theorem jZ:OpR X (fj .Mod) (rI (fun _ j=>0 < j) fun i j=>.int (i % j)):=opI fun i j _ _ _ _ _ hc q=>by
 have h1:(0:Int) < j:=hc;exact mod_int' (by omega) (by rw[Int.fmod_eq_emod_of_nonneg i (by omega)];exact q)
theorem jd4:OpR X (fj .Pow) (rI jh0 fun i j=>.int (i ^ j.toNat)):=opI fun _ _ _ _ _ _ _ hc q=>pow_int_small hc.1 hc.2.1 hc.2.2 q
end
def jg1:V->V->Bool
 | .non,.non=>true | .non,.int _=>true | .int _,.non=>true | .non,.bl _=>true | .bl _,.non=>true | .non,.str _=>true | .str _,.non=>true
 | .int _,.int _=>true | .bl _,.bl _=>true | .str _,.str _=>true | .byt _,.byt _=>true
 | .int _,.str _=>true | .str _,.int _=>true | .bl _,.str _=>true | .str _,.bl _=>true
 | _,_=>false
def rEq:R2:=fun x y H Q=>jg1 x y=true/\Q (.bl (decide (x=y))) H
def rNe:R2:=fun x y H Q=>jg1 x y=true/\Q (.bl (!decide (x=y))) H
theorem jca{i j:Int}:decide (V.int i=V.int j)=(i == j):=by
 rw[E6];simp
theorem jeR{i j:Bool}:decide (V.bl i=V.bl j)=(i == j):=by
 rw[E6];simp
theorem jb9{i j:Str}:decide (V.str i=V.str j)=(i == j):=by
 rw[E6];simp
theorem jcb{i j:Array UInt8}:decide (V.byt i=V.byt j)=(i.toList == j.toList):=by
 rw[E6]
 cases i
 cases j
 simp
section
variable {a b c:ay}{tb tc:TE}
theorem j8{σ:St}{Q:VK}{k k':Bool}(I:Inv X ah σ H s)(q:Q (.bl k) H)(e:k=k'):EP X ah σ Q (.bool k') s:=by
 subst e;exact⟨.bl k,H,I,rfl,q⟩
theorem j4:OpR X (hX .Eq) rEq:=by
 intro ah s σ H x y v u Q I rx ry h;obtain⟨hs,q⟩:=h
 cases x with
 | non=>
  cases rx
  cases y with
  | non=>cases ry;exact PySem.EqNone.eq_none_none (j8 I q (by simp))
  | bl j=>cases ry;exact PySem.EqNone.eq_none_bool (j8 I q (by simp))
  | int j=>obtain⟨t',rfl⟩:=ry;exact PySem.EqNone.eq_none_int (j8 I q (by simp))
  | str j=>obtain⟨t',rfl⟩:=ry;exact PySem.EqNone.eq_none_str (j8 I q (by simp))
  | _=>exact absurd (show false=true from hs) bY
 | bl i=>
  cases rx
  cases y with
  | non=>cases ry;exact PySem.EqNone.eq_bool_none (j8 I q (by simp))
  | bl j=>cases ry;exact eq_bool (j8 I q jeR)
  | str j=>obtain⟨t',rfl⟩:=ry;exact PySem.EqMixed.eq_bool_str (j8 I q (by simp))
  | _=>exact absurd (show false=true from hs) bY
 | int i=>
  obtain⟨t,rfl⟩:=rx
  cases y with
  | non=>cases ry;exact PySem.EqNone.eq_int_none (j8 I q (by simp))
  | int j=>obtain⟨t',rfl⟩:=ry;exact eq_int (j8 I q jca)
  | str j=>obtain⟨t',rfl⟩:=ry;exact PySem.EqMixed.eq_int_str (j8 I q (by simp))
  | _=>exact absurd (show false=true from hs) bY
 | str i=>
  obtain⟨t,rfl⟩:=rx
  cases y with
  | non=>cases ry;exact PySem.EqNone.eq_str_none (j8 I q (by simp))
  | bl j=>cases ry;exact PySem.EqMixed.eq_str_bool (j8 I q (by simp))
  | int j=>obtain⟨t',rfl⟩:=ry;exact PySem.EqMixed.eq_str_int (j8 I q (by simp))
  | str j=>obtain⟨t',rfl⟩:=ry;exact eq_str (j8 I q jb9)
  | _=>exact absurd (show false=true from hs) bY
 | byt i=>
  obtain⟨t,rfl⟩:=rx
  cases y with
  | byt j=>obtain⟨t',rfl⟩:=ry;exact PySem.W.eq_bytes (j8 I q jcb)
  | _=>exact absurd (show false=true from hs) bY
 | _=>cases y <;> exact absurd (show false=true from hs) bY
theorem jfQ:OpR X (hX .NotEq) rNe:=by
 intro ah s σ H x y v u Q I rx ry h;obtain⟨hs,q⟩:=h
 cases x with
 | non=>
  cases rx
  cases y with
  | non=>cases ry;exact PySem.EqNone.ne_none_none (j8 I q (by simp))
  | bl j=>cases ry;exact PySem.EqNone.ne_none_bool (j8 I q (by simp))
  | int j=>obtain⟨t',rfl⟩:=ry;exact PySem.EqNone.ne_none_int (j8 I q (by simp))
  | str j=>obtain⟨t',rfl⟩:=ry;exact PySem.EqNone.ne_none_str (j8 I q (by simp))
  | _=>exact absurd (show false=true from hs) bY
 | bl i=>
  cases rx
  cases y with
  | non=>cases ry;exact PySem.EqNone.ne_bool_none (j8 I q (by simp))
  | bl j=>cases ry;exact ne_bool (j8 I q (WW not jeR))
  | str j=>obtain⟨t',rfl⟩:=ry;exact PySem.EqMixed.ne_bool_str (j8 I q (by simp))
  | _=>exact absurd (show false=true from hs) bY
 | int i=>
  obtain⟨t,rfl⟩:=rx
  cases y with
  | non=>cases ry;exact PySem.EqNone.ne_int_none (j8 I q (by simp))
  | int j=>obtain⟨t',rfl⟩:=ry;exact ne_int (j8 I q (WW not jca))
  | str j=>obtain⟨t',rfl⟩:=ry;exact PySem.EqMixed.ne_int_str (j8 I q (by simp))
  | _=>exact absurd (show false=true from hs) bY
 | str i=>
  obtain⟨t,rfl⟩:=rx
  cases y with
  | non=>cases ry;exact PySem.EqNone.ne_str_none (j8 I q (by simp))
  | bl j=>cases ry;exact PySem.EqMixed.ne_str_bool (j8 I q (by simp))
  | int j=>obtain⟨t',rfl⟩:=ry;exact PySem.EqMixed.ne_str_int (j8 I q (by simp))
  | str j=>obtain⟨t',rfl⟩:=ry;exact ne_str (j8 I q (WW not jb9))
  | _=>exact absurd (show false=true from hs) bY
 | byt i=>
  obtain⟨t,rfl⟩:=rx
  cases y with
  | byt j=>obtain⟨t',rfl⟩:=ry;exact PySem.W.ne_bytes (j8 I q (WW not jcb))
  | _=>exact absurd (show false=true from hs) bY
 | _=>cases y <;> exact absurd (show false=true from hs) bY
theorem jaj:OpR X (hX .Lt) (rI0 fun i j=>.bl (decide (i < j))):=jhe fun _ _ _ _ _ _ _ q=>lt_int q
theorem Jt:OpR X (hX .Gt) (rI0 fun i j=>.bl (decide (j < i))):=jhe fun _ _ _ _ _ _ _ q=>gt_int q
theorem JN:OpR X (hX .Is) (fun x y H Q=>y=.non/\Q (.bl (decide (x=.non))) H):=by
 intro ah s σ H x y v u Q I rx ry h;obtain⟨rfl,q⟩:=h
 cases ry
 refine is_none_gen (j8 I q ?_)
 cases x <;> first
  | (cases rx;rfl)
  | (obtain⟨t,rfl⟩:=rx;rfl)
theorem jB(b:ay){op:CmpOp}(h:op≠.In:=by decide)(h2:op≠.NotIn:=by decide):Es op b=false:=by
 have e1:(op == CmpOp.In)=false:=by cases op <;> first | rfl | exact absurd rfl h
 have e2:(op == CmpOp.NotIn)=false:=by cases op <;> first | rfl | exact absurd rfl h2
 cases b <;> simp[Es,e1,e2]
def jgM(t:TE):TT:=fun σ H Q=>t σ H fun x H'=>∃k,x=.bl k/\Q k H'
theorem Zw:(aP:Nat) < 2 ^ 63:=by rw[fX];decide
theorem zA:OpR X (fj .Add) (fun x y H Q=>∃i j,x=.str i/\y=.str j/\i.length+j.length<=aP/\Q (.str (i++j)) H):=by
 intro ah s σ H x y v u Q I rx ry h;obtain⟨i,j,rfl,rfl,hz,q⟩:=h;obtain⟨t,rfl⟩:=rx;obtain⟨t',rfl⟩:=ry;exact add_str (fun t' tk=>⟨.str (i++j),H,I.tok _,⟨_,rfl⟩,q⟩) hz
theorem J1{x:V}(r:Vals [x] us):∃u,us=[u]/\RelV x u:=by
 cases r with
 | cons r1 r2=>cases r2;exact⟨_,rfl,r1⟩
theorem jbI{x:V}(r:Vals [x,y] us):∃u w',us=[u,w']/\RelV x u/\RelV y w':=by
 cases r with
 | cons r1 r2=>
  cases r2 with
  | cons r3 r4=>cases r4;exact⟨_,_,rfl,r1,r3⟩
end
structure ObjM(h:aB)(x dx C:aa)(mA:Str->Option ac):Prop where
 obj:h.get? x=some (pT C dx)
 ns:h.Ns1 dx mA
 ne:dx≠x
variable {dx:aa}{mA:Str->Option ac}
theorem jcU(n:h.Ns1 dx mA):∃od,h.get? dx=some od/\∀name,Mj name od=some (mA name):=by
 obtain⟨o,es,ep,ho,hd,hk,_,hm⟩:=n;refine⟨o,ho,fun name=>?_⟩;have e:=hm name;unfold nsFind findBy at e;rw[<- Array.find?_toList]at e;unfold Mj;rw[hd];dsimp only;split
 .rename_i y q
  rw[q]at e;exact WW some e
 .rename_i q
  rw[q]at e;have a:es.toList.any (·.refKey)=false:=by
   rw[WH];intro y hy;obtain⟨z,t,QV⟩:=hk y (Array.mem_toList_iff.mp hy);simp[DictEntry.refKey,QV]
  have a':¬es.toList.any (·.refKey)=true:=by rw[a];exact bY
  rw[WT a'];exact WW some e
variable {C:aa}
theorem ObjM.look{x:aa}(I:ObjM h x dx C mA):∃od,PySem.W.InstAt h x (pT C dx) C (some od)/\∀name,Mj name od=some (mA name):=
 let ⟨od,ho,hl⟩:=jcU I.ns
 ⟨od,⟨I.obj,rfl,rfl,ho⟩,hl⟩
variable {f:aa}
section
variable {prog:aF}{x:aa}{name:Str}{v:ac}
theorem jfB{vJ:Bool}(X:K.In s.heap)(I:ObjM s.heap x dx C mA)(hg:Mh K C name=true)(hh:Mm K C=true)
  (ha:fk K (.ref C) name=some none) (hv:mA name=some v) (uI:UR v=true) (h:Q v { s with toks:=s.toks+1 }) :
  aw (aA prog w) A (getAttr (.ref x) name vJ) Q E s:=by
 obtain⟨od,J,hl⟩:=I.look
 exact PySem.W.get_value X J (PySem.W.plainGet_of hg).1 (PySem.W.findObj_own hh ha rfl (by rw[hl,hv])) uI h
theorem jfa{ns:List Str}{Q:Unit->av->Prop}(X:K.In s.heap)(I:ObjM s.heap x dx C mA)
  (hs:fk K (.ref C) "__setattr__" = some (some (.builtin "object.__setattr__"))) (hp:UJ K C=true) (ht:Mg K C name=some none) (hh:Mm K C=true)
  (hw:Et mA ns) (hsz:ns.length<=aP)
  (h:∀h',ObjM h' x dx C (fun y=>if y=name then some v else mA y)->dj dx s.heap h'->Q () { s with heap:=h',toks:=s.toks+2 }) :
  aw (aA prog w) A (setAttr (.ref x) name v) Q E s:=by
 obtain⟨od,J,hl⟩:=I.look
 refine PySem.W.set_plain X J hs (PySem.W.osa_open (s:={ s with toks:=s.toks+1 }) (r:=none) X J hp ht fun b=>?_)
 obtain⟨cd,hc,gm⟩:=PySem.W.any_some hh
 have hx:s.heap.get? x=some ⟨.ref C,some dx,.plain,#[]⟩:=I.obj
 refine am (az (am (am (wpAny_loadPart hx (am (PySem.W.Looks.here (s:={ s with toks:=s.toks+1 }) (PySem.W.looks_clsIn X hc) ?_))))))
 rw[gm]
 refine az (a:=some dx) (am (az (am ?_)))
 refine wpAny_nsSet1 (s:={ s with toks:=s.toks+1 }) I.ns fun h' xK o0=>?_
 obtain⟨oD,esD,epD,P7,Rm,mO⟩:=xK.count (Et.cons name v hw)
 refine am (wpAny_lookBehind P7 (by rw[Rm];exact pastItsLine_dict (aV mO (by rw[bR];omega))) ?_)
 exact az (h _ ⟨(o0.2 _ (bB I.ne)).trans I.obj,xK,I.ne⟩ o0)
theorem jeu{R:l7->av->Prop}{vs:List ac}{kw:List (Str×ac)}(X:K.In s.heap)(hm:UL K C=true)
  (hi:fk K (.ref C) "__init__" = some (some (.ref f))) (hf:PySem.W.typeIn K (.ref f)=some (.type "function"))
  (h:eU (aA prog w) (A.under (.builtin "type.__call__" ⟨.ref C :: vs,kw⟩)) (.call (.ref f) ⟨.ref (s.heap.objs.size+1) :: vs,kw⟩) (PySem.W.InitBack (s.heap.objs.size+1) R)
   { s with heap:=(s.heap.push om).push (pT C s.heap.objs.size) }) :
  eU (aA prog w) A (.call (.ref C) ⟨vs,kw⟩) R s:=by
 obtain⟨hh,g,d,t,os⟩:=s
 exact PySem.W.make_core (PySem.W.makes_of X hm) (PySem.W.looks_findIn X hi) (fun self=>PySem.W.bind_fn X self hf) (.inl rfl) h
end
def yQ(f:Str)(v:V):List (Str×V)->List (Str×V)
 | []=>[(f,v)]
 | (g,x) :: r=>if g=f then (g,v) :: r else (g,x) :: yQ f v r
theorem J2(f g:Str)(v:V):∀fs:List (Str×V),(yQ f v fs).lookup g=if g=f then some v else fs.lookup g
 | []=>by
  show ib g [(f,v)]=_;by_cases h:g=f
  .have hb:(g == f)=true:=beq_iff_eq.mpr h
   simp only[ib,hb,WU h]
  .have hb:(g == f)=false:=WV.mpr h
   simp only[ib,hb,WT h]
 | (k,x) :: r=>by
  have ih:=J2 f g v r;rw[show yQ f v ((k,x) :: r)=(if k=f then (k,v) :: r else (k,x) :: yQ f v r) from rfl];by_cases hk:k=f
  .rw[WU hk]
   by_cases h:g=k
   .have hb:(g == k)=true:=beq_iff_eq.mpr h
    simp only[ib,hb,WU (h.trans hk)]
   .have hb:(g == k)=false:=WV.mpr h
    simp only[ib,hb,WT (fun e:g=f=>h (e.trans hk.symm))]
  .rw[WT hk]
   by_cases h:g=k
   .have hb:(g == k)=true:=beq_iff_eq.mpr h
    simp only[ib,hb,WT (fun e:g=f=>hk (h.symm.trans e))]
   .have hb:(g == k)=false:=WV.mpr h
    simp only[ib,hb];exact ih
theorem JQ(f:Str)(v:V):∀fs:List (Str×V),f∈(yQ f v fs).map (·.1)/\∀g,g∈fs.map (·.1)->g∈(yQ f v fs).map (·.1)
 | []=>⟨by simp[yQ],fun g h=>by simp at h⟩
 | (k,x) :: r=>by
  obtain⟨i1,i2⟩:=JQ f v r;rw[show yQ f v ((k,x) :: r)=(if k=f then (k,v) :: r else (k,x) :: yQ f v r) from rfl];by_cases hk:k=f
  .rw[WU hk]
   subst hk;exact⟨by simp,fun g h=>by simpa using h⟩
  .rw[WT hk]
   refine⟨?_,fun g h=>?_⟩
   .rw[ce]
    exact aZ _ i1
   .rw[ce]at h |-
    rcases aM.mp h with e | e
    .exact aM.mpr (.inl e)
    .exact aZ _ (i2 g e)
theorem J4(f:Str)(v:V):∀fs:List (Str×V),(yQ f v fs).length<=fs.length+1
 | []=>by simp[yQ]
 | (k,x) :: r=>by
  have ih:=J4 f v r;rw[show yQ f v ((k,x) :: r)=(if k=f then (k,v) :: r else (k,x) :: yQ f v r) from rfl];by_cases hk:k=f
  .rw[WU hk,bR,bR];omega
  .rw[WT hk,bR,bR];omega
theorem RelO.some_of{o:Option ac}(r:RelO (some v) o):∃u,o=some u/\RelV v u:=by
 cases o with
 | none=>exact (show False from r).elim
 | some u=>exact⟨u,rfl,r⟩
theorem jc3(r:RelV v u):UR u=true:=by
 cases v with
 | non=>cases (show u=Value.none from r);rfl
 | bl b=>cases (show u=Value.bool b from r);rfl
 | int i=>obtain⟨t,e⟩:=(show ∃t,u=Value.int i t from r);cases e;rfl
 | str x=>obtain⟨t,e⟩:=(show ∃t,u=Value.str x t from r);cases e;rfl
 | byt b=>obtain⟨t,e⟩:=(show ∃t,u=Value.bytes b t from r);cases e;rfl
 | flt b=>obtain⟨t,e⟩:=(show ∃t,u=Value.float b t from r);cases e;rfl
 | ref a=>cases (show u=Value.ref a from r);rfl
 | ty n=>cases (show u=Value.type n from r);rfl
section
variable {fs Sb:List (Str×V)}
theorem ZB(hok:HOk P w H h)(e:H a=some (.ins C dx fs)):∃mA,ObjM h a dx C mA/\(∀f,RelO (fs.lookup f) (mA f))/\Et mA (fs.map (·.1))/\fs.length<=1000/\H dx=some (.own a):=by
 obtain⟨d,z,ne,ob,mA,n,r,q⟩:=(show ObjOk P w H h a (.ins C dx fs) from hok a _ e)
 exact⟨mA,⟨ob,n,ne⟩,r,q,z,d⟩
end
structure Cls(K:aC)(C:aa):Prop where
 pg:Mh K C sS=true
 hd:Mm K C=true
 po:UJ K C=true
 sa:fk K (.ref C) "__setattr__" = some (some (.builtin "object.__setattr__"))
theorem Cls.get(c:Cls K C)(f:Str):Mh K C f=true:=c.pg
def NoAttr(K:aC)(C:aa)(f:Str):Prop:=fk K (.ref C) f=some none
theorem NoAttr.taker{f:Str}(n:NoAttr K C f):Mg K C f=some none:=by
 unfold Mg;rw[show fk K (.ref C) f=some none from n];rfl
section
variable {σ:St}{fs:List (Str×V)}{f:Str}
theorem jbr{b:Bool}(I:Inv X ah σ H s)(e:H a=some (.ins C dx fs))(c:Cls X.K C)(n:NoAttr X.K C f)(l:fs.lookup f=some v)
  (h:∀u s',Inv X ah σ H s'->RelV v u->Q u s'):aw (aA X.prog X.w) A (getAttr (.ref a) f b) Q E s:=by
 obtain⟨mA,O,r,_,_,_⟩:=ZB I.hok e
 obtain⟨u,hu,ru⟩:=RelO.some_of (v:=v) (o:=mA f) (by rw[<- l];exact r f)
 exact jfB I.kIn O (c.get f) c.hd n hu (jc3 ru) (h u _ (I.tok _) ru)
theorem ja0{Q:Unit->av->Prop}(I:Inv X ah σ H s)(e:H a=some (.ins C dx fs))(c:Cls X.K C)(n:NoAttr X.K C f)(hl:fs.length < 1000)(ry:RelV y u)
  (h:∀s',Inv X ah σ (upd H a (.ins C dx (yQ f y fs))) s'->Q () s'):aw (aA X.prog X.w) A (setAttr (.ref a) f u) Q E s:=by
 obtain⟨mA,O,r,wi,_,ho⟩:=ZB I.hok e
 have hz:(fs.map (·.1)).length<=aP:=by rw[ax,fX];omega
 refine jfa I.kIn O c.sa c.po n.taker c.hd wi hz fun h' O' sb=>h _ ?_
 have hd:∃o,h'.get? dx=some o:=let ⟨o,_,_,e',_⟩:=O'.ns;⟨o,e'⟩
 refine I.write (x:=a) (e:=dx) (by rw[e];exact True.intro) (.inr ho) (fun b q hb z=>(sb.2 b hb).trans z) hd ?_
 refine⟨by rw[jw O.ne];exact ho,?_,O.ne,O'.obj,_,O'.ns,fun g=>?_,fun g hg=>?_⟩
 .have:=J4 f y fs;omega
 .show RelO ((yQ f y fs).lookup g) (if g=f then some u else mA g)
  rw[J2]
  by_cases q:g=f
  .rw[WU q,WU q];exact ry
  .rw[WT q,WT q];exact r g
 .by_cases q:g=f
  .rw[q];exact (JQ f y fs).1
  .refine (JQ f y fs).2 g (wi g fun z=>hg ?_)
   show (if g=f then some u else mA g)=none
   rw[WT q];exact z
theorem Inv.made(I:Inv X ah σ H s):Inv X ah σ (upd (upd H s.heap.objs.size (.own (s.heap.objs.size+1))) (s.heap.objs.size+1) (.ins C s.heap.objs.size []))
  { s with heap:=(s.heap.push om).push (pT C s.heap.objs.size) }:=by
 have e1:(s.heap.push om).get? s.heap.objs.size=some om:=cg s.heap rfl
 have e2:((s.heap.push om).push (pT C s.heap.objs.size)).get? (s.heap.objs.size+1)=some (pT C s.heap.objs.size):=by
  have:=cg (s.heap.push om) (o:=pT C s.heap.objs.size) rfl;rwa [fZ]at this
 have e3:(s.heap.push om).Ns s.heap.objs.size (fun _=>none):=⟨om,#[],_,e1,rfl,(fun e he=>absurd he (by simp)),fun _=>rfl⟩
 have I1:=I.laid (a:=s.heap.objs.size) (o:=.own (s.heap.objs.size+1)) (h':=s.heap.push om) (t':=s.toks) (fun b u q=>bo _ q) (aL _) ⟨_,e1⟩
 refine I1.laid (a:=s.heap.objs.size+1) (o:=.ins C s.heap.objs.size []) (t':=s.toks) (fun b u q=>bo _ q) (Wd (fZ _ _)) ?_
 have ne:s.heap.objs.size≠s.heap.objs.size+1:=bv (MX _)
 refine⟨by rw[jw ne,jd],cy _,ne,e2,fun _=>none,(aB.Ns1.of_empty e3).at fun o q=>bo _ q,fun _=>True.intro,fun y hy=>absurd rfl hy⟩
theorem jfH{prog:aF}{env:Env}{f:Str}(hb:AD e f env (eval e env)=eval e env)
  (h:aw (aA prog w) A (eval e env) (fun o s₁=>aw (aA prog w) A (getAttr o f true) Q E s₁) E s):aw (aA prog w) A (eval (.Attribute e f pos) env) Q E s:=
 Attribute_any_ h (by rw[arm_eval_Attribute,hb])
end
def jhD(K:aC)(ta:TE)(f:Str):TE:=fun σ H Q=>ta σ H fun x H1=>∃a C dx fs v,x=.ref a/\H1 a=some (.ins C dx fs)/\Cls K C/\NoAttr K C f/\fs.lookup f=some v/\Q v H1
def jhH(K:aC)(ta tv:TE)(f:Str):TS:=fun D σ H=>tv σ H fun y H1=>ta σ H1 fun x H2=>∃a C dx fs,x=.ref a/\H2 a=some (.ins C dx fs)/\Cls K C/\NoAttr K C f/\fs.length < 1000/\
 D.nx σ (upd H2 a (.ins C dx (yQ f y fs)))
section
variable {σ:St}{c:ac}{b:Bool}
inductive TyOf(K:aC)(H:Hp):V->ac->Prop where
 | non:TyOf K H .non (.type "NoneType")
 | bl (x:Bool):TyOf K H (.bl x) (.type "bool")
 | int (i:Int):TyOf K H (.int i) (.type "int")
 | str (x:Str):TyOf K H (.str x) (.type "str")
 | flt (x:UInt64):TyOf K H (.flt x) (.type "float")
 | lst {a:aa} {xs:List V} (e:H a=some (.lst xs)):TyOf K H (.ref a) (.type "list")
 | frz {a:aa} {o:Obj} {xs:List V} (e:H a=some (.frz o (.lst xs))):TyOf K H (.ref a) (.type "list")
 | tup {a:aa} {xs:List V} (e:H a=some (.tup xs)):TyOf K H (.ref a) (.type "tuple")
 | dK {a:aa} {kvs:List (Key×V)} (e:H a=some (.dK kvs)):TyOf K H (.ref a) (.type "dict")
 | dT {a:aa} {kvs:List (List Key×V)} (e:H a=some (.dT kvs)):TyOf K H (.ref a) (.type "dict")
 | ins {a C dx:aa} {fs:List (Str×V)} (e:H a=some (.ins C dx fs)) (cl:Cls K C) (ha:fk K (.ref C) "__class__" = some (some (.builtin "object.__class__")))
   (hn:PySem.W.specialIn K (.builtin "object.__class__") "__get__" = some (some (.builtin "getset_descriptor.__get__"))) (xC:PySem.W.takesIn K (.builtin "object.__class__")=some true)
   (hm:PySem.W.mroIn K C (.type "object")=some true):TyOf K H (.ref a) (.ref C)
theorem jcZ{x:V}{t:ac}(I:Inv X ah σ H s)(rx:RelV x u)(ty:TyOf X.K H x t)(e:iU X.K t c=some b)(h:∀tk,Q (.bool b) { s with toks:=tk }):
  aw (aA X.prog X.w) A (call (.builtin "isinstance") [u,c]) Q E s:=by
 cases ty with
 | non=>cases (show u=Value.none from rx);exact lY PySem.W.kitx_none I.kIn True.intro e (fun z=>nomatch z) h
 | bl y=>cases (show u=Value.bool y from rx);exact lY PySem.W.kitx_bool I.kIn True.intro e (fun z=>nomatch z) h
 | int i=>obtain⟨t,q⟩:=(show ∃t,u=Value.int i t from rx);cases q;exact lY PySem.W.kitx_int I.kIn True.intro e (fun z=>nomatch z) h
 | str y=>obtain⟨t,q⟩:=(show ∃t,u=Value.str y t from rx);cases q;exact lY PySem.W.kitx_str I.kIn True.intro e (fun z=>nomatch z) h
 | flt y=>obtain⟨t,q⟩:=(show ∃t,u=Value.float y t from rx);cases q;exact lY PySem.W.kitx_float I.kIn True.intro e (fun z=>nomatch z) h
 | @lst a xs ea=>
  cases (show u=Value.ref a from rx)
  obtain⟨_,_,n,_,h1⟩:=(show ObjOk X.prog X.w H s.heap a (.lst xs) from I.hok a _ ea)
  exact lY UN I.kIn ⟨_,h1,rfl⟩ e (fun z=>nomatch z) h
 | @frz a ob xs ea=>
  cases (show u=Value.ref a from rx)
  obtain⟨_,_,_,n,_,h1⟩:=(show ObjOk X.prog X.w H s.heap a (.frz ob (.lst xs)) from I.hok a _ ea)
  exact lY UN I.kIn ⟨_,h1,rfl⟩ e (fun z=>nomatch z) h
 | @tup a xs ea=>
  cases (show u=Value.ref a from rx)
  obtain⟨_,_,_,p⟩:=(show ObjOk X.prog X.w H s.heap a (.tup xs) from I.hok a _ ea)
  obtain⟨o,h1,h2,_⟩:=p
  exact lY PySem.W.kitx_tuple I.kIn ⟨o,h1,h2⟩ e (fun z=>nomatch z) h
 | @dK a kvs ea=>
  cases (show u=Value.ref a from rx)
  obtain⟨_,_,vs,_,p⟩:=(show ObjOk X.prog X.w H s.heap a (.dK kvs) from I.hok a _ ea)
  obtain⟨o,es,ep,h1,h2,_⟩:=p
  exact lY UO I.kIn ⟨o,h1,h2.1⟩ e (fun z=>nomatch z) h
 | @dT a kvs ea=>
  cases (show u=Value.ref a from rx)
  obtain⟨_,_,xs,_,o,es,ep,h1,h2,_⟩:=(show ObjOk X.prog X.w H s.heap a (.dT kvs) from I.hok a _ ea)
  exact lY UO I.kIn ⟨o,h1,h2.1⟩ e (fun z=>nomatch z) h
 | @ins a C dx fs ea cl ha hn xC hm=>
  cases (show u=Value.ref a from rx)
  obtain⟨mA,O,_⟩:=ZB I.hok ea
  obtain⟨od,J,_⟩:=O.look
  exact lY (PySem.W.kitx_own (cl.get _) cl.hd ha hn xC hm) I.kIn J e (fun z=>nomatch z) h
end
structure Room(k:Nat)(A:aR):Prop where
 hd:A.handled=none
 dp:A.depth+3 * k+5 < recursionLimit
 un:A.units+16 * k+200 < cLine
 gd:A.guards=some []
theorem Room.mono{j k:Nat}(r:Room k A)(h:j<=k):Room j A:=⟨r.hd,by have:=r.dp;omega,by have:=r.un;omega,r.gd⟩
theorem Room.deeper{k:Nat}(r:Room (k+1) A)(env:Env):Room k (A.deeper env):=
 ⟨r.hd,by have:=r.dp;show A.depth+1+3 * k+5 < _;omega,by have:=r.un;show A.units+3+16 * k+200 < _;omega,r.gd⟩
theorem Room.in1{k:Nat}(r:Room (k+1) A):Room k A.in1:=
 ⟨r.hd,by have:=r.dp;show A.depth+3 * k+5 < _;omega,by have:=r.un;show A.units+1+16 * k+200 < _;omega,r.gd⟩
theorem jbk{kw:List (Str×ac)}:(A.under (.builtin "type.__call__" ⟨.ref C :: us,kw⟩)).depth=A.depth+1:=by
 first | rfl | simp[MN,Code.weight,Code.isCreation,Code.isGuard,Code.isCaller,VF,MD,guardIds]
theorem jbj{kw:List (Str×ac)}:(A.under (.builtin "type.__call__" ⟨.ref C :: us,kw⟩)).units=A.units+1:=by
 first | rfl | simp[MN,Code.cUnits,VF,MD]
theorem jar{kw:List (Str×ac)}:(A.under (.builtin "type.__call__" ⟨.ref C :: us,kw⟩)).guards=A.guards:=by
 first | rfl | (cases A with | mk a b c d e=>cases d <;> rfl)
theorem Room.make{k:Nat}(r:Room (k+1) A)(C:aa)(us:List ac)(kw:List (Str×ac)):Room k (A.under (.builtin "type.__call__" ⟨.ref C :: us,kw⟩)):=
 ⟨r.hd,by have:=r.dp;rw[jbk];omega,by have:=r.un;rw[jbj];omega,by rw[jar];exact r.gd⟩
theorem Room.depth{k:Nat}(r:Room k A):A.depth < recursionLimit:=by have:=r.dp;omega
theorem Room.units{k:Nat}(r:Room k A):A.units+64 < cLine:=by have:=r.un;omega
def jf1:TA:=fun _ H Q=>Q [] H
def jdD(ta:TE)(tr:TA):TA:=fun σ H Q=>ta σ H fun x H1=>tr σ H1 fun xs H2=>Q (x :: xs) H2
variable {es:List ay}
section
variable {te:TE}{t:TA}
theorem jd3:PA X [] jf1:=fun _ _ _ _ H Q I h=>ME ⟨[],H,I,.nil,h⟩
theorem jfh(ha:PE X e te)(hr:PA X es t)(hs:cr (e :: es) X.env=(false,eval e X.env) :: cr es X.env:=by rfl):PA X (e :: es) (jdD te t):=by
 intro pos ah s σ H Q I h;rw[hs];show aw _ _ (spliced ((false,eval e X.env) :: hZ pos (cr es X.env))) _ _ s;refine EK (thn (ha ah s σ H _ I h) fun u s1 hM=>?_);obtain⟨x,H1,I1,r1,q1⟩:=hM;exact thn (hr pos ah s1 σ H1 _ I1 q1) fun us s2 ⟨xs,H2,I2,r2,q2⟩=>⟨x :: xs,H2,I2,.cons r1 r2,q2⟩
def jgL(t:TA):TE:=fun σ H Q=>t σ H fun xs H1=>xs.length<=aP/\∀p,H1 p=none->Q (.ref p) (upd H1 p (.tup xs))
def jhy(t:TA):TE:=fun σ H Q=>t σ H fun xs H1=>xs.length<=aP/\∀p,H1 p=none->Q (.ref p) (upd H1 p (.lst xs))
theorem jdW{x1}(h:PA X es t):PE X (.Tuple es x1 pos) (jgL t):=by
 intro ah s σ H Q I hq;refine wpAny_Tuple_spliced (thn (h pos ah s σ H _ I hq) fun us s1 ⟨xs,H1,I1,r,z,q⟩=>⟨by rw[<- r.length];exact z,?_⟩);have hf:H1 s1.heap.objs.size=none:=I1.hok.fresh (aL _);refine⟨.ref s1.heap.objs.size,upd H1 s1.heap.objs.size (.tup xs),I1.laid (t':=s1.toks) (fun b u e=>bo _ e) (aL _) ?_,rfl,q _ hf⟩;exact⟨z,us,r,⟨_,cg _ rfl,rfl,_,rfl⟩⟩
end
abbrev Sp:=List V->Hp->VK->XK->Prop
abbrev CXT:=List Env->Hp->av->XK->ac->av->Prop
structure Env0(P:aF)(w:aE)(K:aC)(mg:Str->Option ac)(base:aB)(A:aR)(outer:List Env)(s:av)(H:Hp):Prop where
 frames:A.frames=some outer
 mod:Mod K mg base
 bs:∀b o,base.get? b=some o->s.heap.get? b=some o/\H b=none
 bsz:base.objs.size<=s.heap.objs.size
 funs:s.heap.FunFrames base outer
 frf:∀b∈frs outer,H b=none
 hok:HOk P w H s.heap
 bare:m8 s.gens
def CE(outer:List Env)(P:aF)(w:aE)(H:Hp)(s:av)(Q:VK)(u:ac)(s':av):Prop:=
 ∃v H',s'.os=s.os/\m8 s'.gens/\Un (frs outer) [] H H' s.heap s'.heap/\HOk P w H' s'.heap/\RelV v u/\Q v H'
def CR(CX:CXT)(outer:List Env)(P:aF)(w:aE)(H:Hp)(s:av)(Q:VK)(E:XK)(r:l7)(s':av):Prop:=
 match r with
 | .ok (.ret u)=>CE outer P w H s Q u s'
 | .ok _=>False
 | .error e=>CX outer H s E e s'
structure FnOk(P:aF)(w:aE)(K:aC)(mg:Str->Option ac)(base:aB)(CX:CXT)(k:Nat)(f:aa)(fd:aO)(ps:List Str)(sp:Sp):Prop where
 len:∀vs H Q E,sp vs H Q E->vs.length=ps.length
 run:∀(A:aR) (outer:List Env) (s:av) (H:Hp) (args:Args) (us:List ac) (vs:List V) (Q:VK) (E:XK),Room k A->Env0 P w K mg base A outer s H->wm s fd args (ps.zip us)->Vals vs us->sp vs H Q E->
  eU (aA P w) A (.call (.ref f) args) (CR CX outer P w H s Q E) s
variable {mg:Str->Option ac}{base:aB}{CX:CXT}{fd:aO}{ps:List Str}
theorem FnOk.imp{k:Nat}{sp Fz:Sp}(F:FnOk P w K mg base CX k f fd ps sp)
  (h:∀vs H Q E,Fz vs H Q E->sp vs H Q E):FnOk P w K mg base CX k f fd ps Fz:=
 ⟨fun vs H Q E q=>F.len vs H Q E (h _ _ _ _ q),fun A outer s H args us vs Q E hr he hb hv hs=>F.run A outer s H args us vs Q E hr he hb hv (h _ _ _ _ hs)⟩
variable {outer:List Env}
theorem Env0.make(e:Env0 P w K mg base A outer s H)(C:aa)(us:List ac)(kw:List (Str×ac)):
  Env0 P w K mg base (A.under (.builtin "type.__call__" ⟨.ref C :: us,kw⟩)) outer s H:=⟨by first | exact e.frames | (simpa[MN,Code.envs,MD,pushEnvs]using e.frames),e.mod,e.bs,e.bsz,e.funs,e.frf,e.hok,e.bare⟩
theorem Env0.in1(e:Env0 P w K mg base A outer s H):
  Env0 P w K mg base A.in1 outer s H:=⟨e.frames,e.mod,e.bs,e.bsz,e.funs,e.frf,e.hok,e.bare⟩
section
variable {σ:St}
theorem Inv.env0(I:Inv X ah σ H s):Env0 X.prog X.w X.K X.mg X.base X.A X.stack s H:=
 ⟨I.ok.frames,I.ok.mod,I.bs,aV I.ok.bsz I.sz,I.stack,I.stkFree,I.hok,I.bare⟩
theorem Inv.after{Q:VK}(I:Inv X ah σ H s)(h:CE X.stack X.prog X.w H s Q u s'):EP X ah σ Q u s':=by
 obtain⟨v,H',os,bare,un,hok,r,q⟩:=h;obtain⟨hh,g,d,t,Bv⟩:=s';obtain rfl:Bv=s.os:=os;exact⟨v,H',I.call (h':=hh) (g':=g) (d':=d) (t':=t) (ch:=[]) un hok bare (fun b z=>absurd z (by simp)),r,q⟩
end
def Z7(sp:Sp)(dB:List V)(E:XK)(t:TA):TE:=fun σ H Q=>t σ H fun vs H1=>sp (vs++dB) H1 Q E
def jfM(C:aa)(sp:Sp)(dB:List V)(E:XK)(t:TA):TE:=fun σ H Q=>t σ H fun vs H1=>∀x dx,H1 x=none->H1 dx=none->dx≠x->
 sp (.ref x :: (vs++dB)) (upd (upd H1 dx (.own x)) x (.ins C dx [])) (fun v H2=>v=.non/\Q (.ref x) H2) E
def Binds(K:aC)(fd:aO)(ps:List Str)(ds:List ac):Prop:=
 ∀(s:av) (us:List ac),K.In s.heap->(us++ds).length=ps.length->wm s fd ⟨us,[]⟩ (ps.zip (us++ds))
theorem Binds.all(h:∀us:List ac,us.length=ps.length->bindArgs fd ⟨us,[]⟩=pure (ps.zip us)):Binds K fd ps []:=fun s us _ hl=>by
 rw[cv]at hl |-;exact .of_eq (h us hl)
def JY(CX:CXT)(X:Cx)(E:XK):Prop:=∀(ah:List (aa×Obj)) (σ:St) (H:Hp) (s:av) (e:ac) (s':av),Inv X ah σ H s->CX X.stack H s E e s'->X.xe e s'
variable {vs:List V}
section
variable {k:Nat}{sp:Sp}{dB:List V}{ds:List ac}{E:XK}{m:Str}{p g_:Pos}{o:ay}{t:TA}
theorem jf9{σ:St}{Q:VK}(F:FnOk X.prog X.w X.K X.mg X.base CX k f fd ps sp)(hr:Room k X.A)(hb:Binds X.K fd ps ds)(hd:Vals dB ds)(hx:JY CX X E)
  (I:Inv X ah σ H s) (r:Vals vs us) (h:sp (vs++dB) H Q E):aw (aA X.prog X.w) X.A (call (.ref f) us) (EP X ah σ Q) X.xe s:=by
 have r2:Vals (vs++dB) (us++ds):=r.append hd
 have hl:(us++ds).length=ps.length:=by rw[<- r2.length];exact F.len _ _ _ _ h
 refine Eh (sO (F.run X.A X.stack s H ⟨us,[]⟩ (us++ds) (vs++dB) Q E hr I.env0 (hb s us I.kIn hl) r2 h) fun r s' hq=>?_)
 cases r with
 | error e=>exact hx ah σ H s e s' I hq
 | ok fl=>
  cases fl with
  | ret u=>exact I.after hq
  | next=>exact fw hq
  | brk=>exact fw hq
  | cont=>exact fw hq
theorem jbR(F:FnOk X.prog X.w X.K X.mg X.base CX k f fd ps sp)(hr:Room k X.A)(hg:Gl X x)(hm:X.mg x=some (.ref f))(hk:mW X.K (.ref f)=true)(hb:Binds X.K fd ps ds)(hd:Vals dB ds)(hx:JY CX X E)
  (ha:PA X (e :: es) t) (iI:(x == ("__debug__" : Str))=false:=by decide) (he:cr (e :: es) X.env=(false,eval e X.env) :: cr es X.env:=by rfl) (cC:(hZ pos (cr es X.env)).any (·.1)=false:=by rfl) :
  PE X (.Call (.Name x p) (e :: es) [] pos) (Z7 sp dB E t):=by
 intro ah s σ H Q I h
 refine sJ (yL I hg hm ?_ iI)
 refine UT (h₀:=X.base) I.ok.mod.kin hk (thn (ha pos ah s σ H _ I h) fun us s1 ⟨vs,H1,I1,r,q⟩=>⟨I1.kIn,?_⟩) he cC
 exact jf9 F hr hb hd hx I1 r q
structure Mk(K:aC)(C f:aa):Prop where
 makes:UL K C=true
 init:fk K (.ref C) "__init__" = some (some (.ref f))
 fn:PySem.W.isFn K (.ref f)=true
 kp:mW K (.ref C)=true
theorem jdM{σ:St}{Q:VK}(M:Mk X.K C f)(F:FnOk X.prog X.w X.K X.mg X.base CX k f fd ps sp)(hr:Room (k+1) X.A)(hb:Binds X.K fd ps ds)(hd:Vals dB ds)
  (hx:JY CX X E) (I:Inv X ah σ H s) (r:Vals vs us)
  (h:∀x dx,H x=none->H dx=none->dx≠x->sp (.ref x :: (vs++dB)) (upd (upd H dx (.own x)) x (.ins C dx [])) (fun v H2=>v=.non/\Q (.ref x) H2) E) :
  aw (aA X.prog X.w) X.A (call (.ref C) us) (EP X ah σ Q) X.xe s:=by
 have hq:=h (s.heap.objs.size+1) s.heap.objs.size (I.hok.fresh (AS _)) (I.hok.fresh (aL _)) (bv (MX _))
 have I2:=Inv.made (C:=C) I
 have r2:Vals (V.ref (s.heap.objs.size+1) :: (vs++dB)) (Value.ref (s.heap.objs.size+1) :: (us++ds)):=.cons rfl (r.append hd)
 have hl:(Value.ref (s.heap.objs.size+1) :: us++ds).length=ps.length:=by
  have e:=r2.length;rw[F.len _ _ _ _ hq]at e;exact e.symm
 refine Eh (jeu (f:=f) I.kIn M.makes M.init (beq_iff_eq.mp M.fn) (sO (F.run _ X.stack _ _ ⟨Value.ref (s.heap.objs.size+1) :: us,[]⟩ (Value.ref (s.heap.objs.size+1) :: (us++ds)) _ _ E (hr.make C us [])
  (I2.env0.make C us []) (hb _ (Value.ref (s.heap.objs.size+1) :: us) I2.kIn hl) r2 hq) fun r s' o7=>?_))
 cases r with
 | error e=>exact hx ah σ _ _ e s' I2 o7
 | ok fl=>
  cases fl with
  | ret u=>
   obtain⟨v,H',I3,rv,ev,q3⟩:=I2.after o7
   subst ev
   exact⟨rv,⟨V.ref (s.heap.objs.size+1),H',I3,rfl,q3⟩⟩
  | next=>exact fw o7
  | brk=>exact fw o7
  | cont=>exact fw o7
theorem jff(M:Mk X.K C f)(F:FnOk X.prog X.w X.K X.mg X.base CX k f fd ps sp)(hr:Room (k+1) X.A)(hg:Gl X x)(hm:X.mg x=some (.ref C))(hb:Binds X.K fd ps ds)(hd:Vals dB ds)(hx:JY CX X E)
  (ha:PA X (e :: es) t) (iI:(x == ("__debug__" : Str))=false:=by decide) (he:cr (e :: es) X.env=(false,eval e X.env) :: cr es X.env:=by rfl) (cC:(hZ pos (cr es X.env)).any (·.1)=false:=by rfl) :
  PE X (.Call (.Name x p) (e :: es) [] pos) (jfM C sp dB E t):=by
 intro ah s σ H Q I h
 refine sJ (yL I hg hm ?_ iI)
 refine UT (h₀:=X.base) I.ok.mod.kin M.kp (thn (ha pos ah s σ H _ I h) fun us s1 ⟨vs,H1,I1,r,q⟩=>⟨I1.kIn,?_⟩) he cC
 exact jdM M F hr hb hd hx I1 r q
end
structure FnScope(N P:List Str)(sc:cS):Prop where
 kind:sc.kind=.function
 co:sc.isCoroutine=false
 gen:sc.isGenerator=false
 nd:N.Nodup
 pre:N.take P.length=P
 par:∀x∈P,sc.names.lookup x=some .local\/sc.names.lookup x=some .cell
 nofree:∀y∈sc.names,y.2≠.free
theorem YZ{kindOf:Str->Option iV}{x:Str}:∀{binds:List (Str×ac)} {m:Str->Option ac},(∀v,(x,v) ∉ binds)->bindL kindOf binds m x=m x
 | [],_,_=>rfl
 | (n,v) :: r,m,h=>by
  unfold bindL;rw[YZ fun w hw=>h w (aZ _ hw)];split
  .have:x≠n:=by rintro rfl;exact h v bt
   simp[this]
  .rfl
theorem Y1{kindOf:Str->Option iV}{x:Str}:∀{binds:List (Str×ac)} {m:Str->Option ac},(∀v,(x,v) ∉ binds)->bindC kindOf binds m x=m x
 | [],_,_=>rfl
 | (n,v) :: r,m,h=>by
  unfold bindC;rw[Y1 fun w hw=>h w (aZ _ hw)];split
  .rfl
  .have:x≠n:=by rintro rfl;exact h v bt
   simp[this]
theorem Y0{kindOf:Str->Option iV}{x:Str}{v:ac}:∀{P:List Str} {vs:List ac} {i:Nat} {m:Str->Option ac},P.Nodup->P[i]?=some x->vs[i]?=some v->kindOf x=some .local->
  bindL kindOf (P.zip vs) m x=some v
 | [],_,_,_,_,h,_,_=>by simp at h
 | _ :: _,[],_,_,_,_,h,_=>by simp at h
 | p :: P,w :: vs,0,m,nd,h1,h2,hk=>by
  simp at h1 h2;subst h1;subst h2;show bindL kindOf ((p,w) :: P.zip vs) m p=_;unfold bindL;rw[YZ fun v hv=>(p7.mp nd).1 (EW hv).1,WU hk];simp
 | p :: P,w :: vs,i+1,m,nd,h1,h2,hk=>by
  show bindL kindOf ((p,w) :: P.zip vs) m x=_;unfold bindL;exact Y0 (i:=i) (p7.mp nd).2 (by simpa using h1) (by simpa using h2) hk
theorem Y2{kindOf:Str->Option iV}{x:Str}{v:ac}:∀{P:List Str} {vs:List ac} {i:Nat} {m:Str->Option ac},P.Nodup->P[i]?=some x->vs[i]?=some v->kindOf x≠some .local->
  bindC kindOf (P.zip vs) m x=some v
 | [],_,_,_,_,h,_,_=>by simp at h
 | _ :: _,[],_,_,_,_,h,_=>by simp at h
 | p :: P,w :: vs,0,m,nd,h1,h2,hk=>by
  simp at h1 h2;subst h1;subst h2;show bindC kindOf ((p,w) :: P.zip vs) m p=_;unfold bindC;rw[Y1 fun v hv=>(p7.mp nd).1 (EW hv).1,WT hk];simp
 | p :: P,w :: vs,i+1,m,nd,h1,h2,hk=>by
  show bindC kindOf ((p,w) :: P.zip vs) m x=_;unfold bindC;exact Y2 (i:=i) (p7.mp nd).2 (by simpa using h1) (by simpa using h2) hk
def yn(N:List Str)(vs:List V):St:=vs.map some++ox (N.length - vs.length) none
def j7(CX:CXT)(P:aF)(w:aE)(K:aC)(mg:Str->Option ac)(base:aB)(N:List Str)(bA:Str)(scope:cS)(f:aa)(cd:ac)(A:aR)(outer:List Env)(s:av)(H:Hp)(E:XK):Cx where
 prog:=P
 w:=w
 K:=K
 mg:=mg
 base:=base
 A:=A.deeper (envOfC bA scope s.heap.objs.size f cd)
 N:=N
 s₀:=s
 H₀:=H
 env:=envOfC bA scope s.heap.objs.size f cd
 outer:=outer
 stack:=envOfC bA scope s.heap.objs.size f cd :: outer
 ex:=[]
 calm:=true
 fn:=fun _=>true
 pn:=[]
 xe:=fun e s'=>aw (aA P w) (A.deeper (envOfC bA scope s.heap.objs.size f cd)) (leaving (envOfC bA scope s.heap.objs.size f cd) e) (fun _ im=>CX outer H s E e im) (fun e' im=>CX outer H s E e' im) s'
theorem jaN{sc:cS}{n:Nat}(h:sc.names.lookup x=some .cell):∃c,(L_ n sc.names []).lookup x=some c:=by
 have q:=US sc.names n [] (.inl h);exact AQ.mp q
theorem jc0{N:List Str}{bA:Str}{scope:cS}{cd:ac}{s1:av}{E:XK}
  (S:FnScope N ps scope) (hd:A.handled=none) (e0:Env0 P w K mg base A outer s H) (hl:vs.length=ps.length) (r:Vals vs us)
  (x:InCallC s s.heap.objs.size (bindL (envOfC bA scope s.heap.objs.size f cd).kindOf (ps.zip us) fun _=>none) (L_ (s.heap.objs.size+1) scope.names []) (bindC (envOfC bA scope s.heap.objs.size f cd).kindOf (ps.zip us) fun _=>none) s1) :
  Inv (j7 CX P w K mg base N bA scope f cd A outer s H E) [] (yn N vs) H s1:=by
 have cC:ps.length<=N.length:=by have:=WW tz S.pre;rw[bK]at this;omega
 obtain⟨h1,tk,rfl,hk⟩:=x.done
 have uh:∀b:aa,b ∉ (j7 CX P w K mg base N bA scope f cd A outer s H E).ex:=fun b z=>absurd (show b∈([]:List aa) from z) (by simp)
 refine⟨⟨e0.mod,S.kind,rfl,rfl,aL _,fun y z c h1 h2=>?_,fun y hy=>?_,fun y c _ h=>?_,fun _=>hd,aR.frames_deeper e0.frames,.inr ⟨rfl,rfl⟩,fun b z=>absurd z (uh b),e0.bs,e0.bsz,fun b _ _=>uh b,fun b z=>absurd z (uh b),e0.funs,e0.frf⟩,
  rfl,e0.bare,Un.kept hk,⟨_,x.toInCall.ns,fun i y v h1 h2 h3=>?_⟩,fun y c h=>⟨_,x.cell y c h⟩,e0.hok.fresh (aL _),fun y c h=>?_,fun p hp=>absurd (show p∈([]:List (aa×Obj)) from hp) (by simp),e0.hok.kept hk,?_⟩
 .exact name_of_addr x.apart (pQ h1) (pQ h2)
 .have hy:scope.names.lookup y=some .cell\/scope.names.lookup y=some .free:=hy
  rcases hy with hy | hy
  .exact jaN hy
  .exact absurd rfl (S.nofree _ (pQ hy))
 .exact cu (x.above y c (pQ h))
 .have hi:i < vs.length:=by
   unfold yn at h2;by_cases hi:i < vs.length
   .exact hi
   .rw[M_ (by simpa using hi)]at h2
    rw[List.getElem?_replicate]at h2;split at h2 <;> cases h2
  have ha:vs[i]?=some v:=by
   unfold yn at h2;rw[Wz (by simpa using hi),bF]at h2
   cases e:vs[i]? with
   | none=>rw[e]at h2;cases h2
   | some a=>rw[e]at h2;cases h2;rfl
  obtain⟨u,hu,rv⟩:=r.get ha;have hp:ps[i]?=some y:=by
   rw[<- S.pre,List.getElem?_take_of_lt (by omega)];exact h1
  have F3:ps.Nodup:=by rw[<- S.pre];exact S.nd.sublist (Wi _ _)
  refine⟨u,rv,?_⟩;rcases S.par y (Wo hp) with k | k
  .exact .inl ⟨k,Y0 F3 hp hu k⟩
  .obtain⟨c,e⟩:=jaN (n:=s.heap.objs.size+1) k
   refine .inr ⟨.inl k,c,e,?_⟩;have q:=x.cell y c e;rw[Y2 F3 hp hu (by show scope.names.lookup y≠_;rw[k];decide)]at q;exact q
 .exact e0.hok.fresh (cu (x.above y c (pQ h)))
 .unfold yn
  show _=N.length
  rw[aG,ax,M9]
  omega
theorem jeJ{k:Nat}{name bA:Str}{params:Arguments}{body:List aJ}{scope:cS}{dV kV di pm aH ct oc:ac}{an od:Option aa}
  {lh:Array (Option ac)} {N ps:List Str} {sp:Sp} (lk:K.lookup f=some ⟨oc,od,.func (mY name bA params body scope dV kV di pm an aH ct),lh⟩) (dz:pV K aH bA=true) (S:FnScope N ps scope)
  (len:∀vs H Q E,sp vs H Q E->vs.length=ps.length)
  (mP:∀(A:aR) (outer:List Env) (s:av) (H:Hp) (vs:List V) (Q:VK) (E:XK),Room k (A.deeper (envOfC bA scope s.heap.objs.size f aH))->sp vs H Q E->
   ∃t,PSs (j7 CX P w K mg base N bA scope f aH A outer s H E) body t/\t { nx:=fun _ H'=>Q .non H',rt:=Q } (yn N vs) H) :
  FnOk P w K mg base CX (k+1) f (mY name bA params body scope dV kV di pm an aH ct) ps sp:=by
 refine⟨len,fun A outer s H args us vs Q E hr e0 hb r gO=>?_⟩
 have hl:=len _ _ _ _ gO
 have KX:K.In s.heap:=e0.mod.kin.keeps fun b o e=>(e0.bs b o e).1
 have ON:s.heap.NoLimit:=e0.mod.nolimit.keeps fun b o e=>(e0.bs b o e).1
 have QU:∀y∈ps.zip us,scope.names.lookup y.1=some .local\/(scope.names.lookup y.1=some .cell/\((L_ (s.heap.objs.size+1) scope.names []).lookup y.1).isSome=true):=fun⟨n,v⟩ hy=>by
  rcases S.par n (EW hy).1 with q | q
  .exact .inl q
  .exact .inr ⟨q,US _ _ _ (.inl q)⟩
 refine codeAny_call_function hr.depth (KX _ _ lk) rfl S.co S.gen rfl (PySem.W.codeRec_of KX dz) (hb _ _ _ _ ?_)
 refine wpAny_newFunctionEnv_cells S.kind QU fun env he s1 x=>?_
 subst he
 refine⟨ON.keeps x.toInCall.keep,codeAny_func ?_⟩
 obtain⟨t,ht,hq⟩:=mP A outer s H vs Q E (hr.deeper _) gO
 have I:Inv (j7 CX P w K mg base N bA scope f aH A outer s H E) [] (yn N vs) H s1:=jc0 S hr.hd e0 hl r x
 refine cY (ht [] s1 (yn N vs) H _ I hq) (fun fl s' hs=>?_) fun e s' hs=>hs
 have bE:∀{σ':St} {H':Hp} {v:V} {u:ac},Inv (j7 CX P w K mg base N bA scope f aH A outer s H E) [] σ' H' s'->RelV v u->Q v H'->CE outer P w H s Q u s':=
  fun {σ' H' v u} J rv q=>⟨v,H',J.os,J.bare,J.base,J.hok,rv,q⟩
 cases fl with
 | ret u=>
  obtain⟨v,σ',H',J,rv,q⟩:=hs
  exact bE J rv q
 | next=>
  obtain⟨σ',H',J,q⟩:=hs
  exact bE (v:=V.non) (u:=Value.none) J rfl q
 | brk=>
  obtain⟨_,_,_,q⟩:=hs
  exact fw q
 | cont=>
  obtain⟨_,_,_,q⟩:=hs
  exact fw q
section
variable {p:Pos}{t:TA}{id T:String}{r:List V->Hp->VK->Prop}
def tCB(r:List V->Hp->VK->Prop)(t:TA):TE:=fun σ H Q=>t σ H fun vs H1=>r vs H1 Q
theorem jd0(hc:zg X (.builtin id) r)(hg:Gl X x)(hm:X.mg x=none)(hv:dW x=some (.builtin id))(ha:PA X (e :: es) t)(hn:x≠"__name__":=by decide)(iI:(x == ("__debug__" : Str))=false:=by decide)
  (he:cr (e :: es) X.env=(false,eval e X.env) :: cr es X.env:=by rfl) (cC:(hZ pos (cr es X.env)).any (·.1)=false:=by rfl):PE X (.Call (.Name x p) (e :: es) [] pos) (tCB r t):=by
 intro ah s σ H Q I h
 refine sJ (yc I hg hm hv ?_ hn iI)
 exact PyProof.Rows.callWith_builtin1 (thn (ha pos ah s σ H _ I h) fun us s1 ⟨vs,H1,I1,r1,q1⟩=>hc ah s1 σ H1 vs us Q I1 r1 q1) he cC
theorem jcD(hc:zg X (.type T) r)(hg:Gl X x)(hm:X.mg x=none)(hv:dW x=some (.type T))(ha:PA X (e :: es) t)(hn:x≠"__name__":=by decide)(iI:(x == ("__debug__" : Str))=false:=by decide)
  (he:cr (e :: es) X.env=(false,eval e X.env) :: cr es X.env:=by rfl) (cC:(hZ pos (cr es X.env)).any (·.1)=false:=by rfl):PE X (.Call (.Name x p) (e :: es) [] pos) (tCB r t):=by
 intro ah s σ H Q I h
 refine sJ (yc I hg hm hv ?_ hn iI)
 exact sX (thn (ha pos ah s σ H _ I h) fun us s1 ⟨vs,H1,I1,r1,q1⟩=>hc ah s1 σ H1 vs us Q I1 r1 q1) he cC
end
end L2
namespace HT
open PySem PyProof.Rows
section
variable {prog:aF}{w:aE}{A:aR}{E:ac->av->Prop}{s:av}
theorem cat_tup{t b:aa}{vs ws:List ac}{Q:ac->av->Prop}(ht:IsTup s.heap t vs.toArray)(hb:IsTup s.heap b ws.toArray)(hv:vs≠[])
  (h1:ws=[]->Q (.ref t) s) (h2:ws≠[]->Q (.ref s.heap.objs.size) { s with heap:=s.heap.push { cls:=.type "tuple",data:=.seq (vs++ws).toArray } })
  (hsz:vs.length+ws.length<=aP):aw (aA prog w) A (fj .Add (.ref t) (.ref b)) Q E s:=by
 obtain⟨⟨cls,dd,data,sl⟩,ho,hc,n,hd⟩:=id ht
 obtain⟨⟨Sy,nY,data2,wS⟩,lE,iJ,n2,gT⟩:=id hb
 simp only at hc hd iJ gT
 subst hc hd iJ gT
 have e:vs.toArray++ws.toArray=(vs++ws).toArray:=by simp
 by_cases hw:ws=[]
 .exact L8 ⟨_,ho,rfl⟩ ⟨_,lE,rfl⟩ LV LQ My MA (MB _ _)
   (tuple_addW1 t b vs.toArray ws.toArray n n2 dd nY sl wS (by simpa using hv) (by simp[hw])) ⟨ho,lE,h1 hw⟩
 .refine L8 ⟨_,ho,rfl⟩ ⟨_,lE,rfl⟩ LV LQ My MA (MB _ _)
   (tuple_addW2 t b vs.toArray ws.toArray n n2 dd nY sl wS (by simpa using hv) (by simpa using hw) (by rw[cA,cA];exact hsz)) ⟨ho,lE,?_⟩
  rw[e]
  exact h2 hw
def sIx(n d:Nat):Option Int->Nat
 | none=>d
 | some v=>if v < 0 then (v+(n:Int)).toNat else min v.toNat n
theorem sIx_none(n d:Nat):sIx n d none=d:=rfl
theorem sIx_nat(n d k:Nat):sIx n d (some (k:Int))=min k n:=by
 show (if (k:Int) < 0 then ((k:Int)+(n:Int)).toNat else min (k:Int).toNat n)=min k n;rw[WT (by omega),oE]
theorem sIx_le(n d:Nat)(hd:d<=n)(o:Option Int):sIx n d o<=n:=by
 cases o with
 | none=>exact hd
 | some v=>
  show (if v < 0 then (v+(n:Int)).toNat else min v.toNat n)<=n;by_cases hv:v < 0
  .rw[WU hv];omega
  .rw[WT hv];exact Wb _ _
theorem jcc(v:Int)(n d:Nat):(if v < 0 then max (v+(n:Int)) 0 else min v (n:Int))=((sIx n d (some v):Nat):Int):=by
 show (if v < 0 then max (v+(n:Int)) 0 else min v (n:Int))=(((if v < 0 then (v+(n:Int)).toNat else min v.toNat n):Nat):Int);by_cases hv:v < 0
 .simp only[WU hv];omega
 .simp only[WT hv];omega
theorem jbB(lo hi:Option Int)(n:Nat):MI lo hi 1 (n:Int)=(((sIx n 0 lo:Nat):Int),((sIx n n hi:Nat):Int)):=by
 have h1:¬((1:Int) < 0):=by omega
 unfold MI;simp only[h1,if_false];refine Prod.ext ?_ ?_
 .cases lo with
  | none=>rfl
  | some v=>exact jcc v n 0
 .cases hi with
  | none=>rfl
  | some v=>exact jcc v n n
theorem ja9(i j:Nat):EN (i:Int) (j:Int) 1=j - i:=by
 unfold EN;have h1:(1:Int) > 0:=by omega
 simp only[h1,if_true,Int.ediv_one];split <;> omega
theorem KA{v:ac}{o:Option Int}{Q:Option Int->av->Prop}(p:pW v o)(h:Q o s):aw (aA prog w) A (Builtin.Slice.slicePartIndex v) Q E s:=by
 cases p with
 | none=>exact slicePart_none h
 | int i t=>exact slicePart_int h
theorem JK{sl:aa}{vl vu:ac}{lo hi:Option Int}{n:Nat}{Q:Int×Int×Nat->av->Prop}(hs:s.heap.IsSliceOf sl vl vu .none)(pl:pW vl lo)(pu:pW vu hi)
  (h:Q (((sIx n 0 lo:Nat):Int),1,sIx n n hi - sIx n 0 lo) s):aw (aA prog w) A (VI (.ref sl) (pure (n:Int))) Q E s:=by
 obtain⟨os,uU,rW,nQ⟩:=id hs
 unfold VI Builtin.Slice.sliceFields
 refine am (am (cD uU nQ (x:=vl) rfl (am (cD uU nQ (x:=vu) rfl (am (cD uU nQ (x:=.none) rfl (az ?_)))))))
 refine am (slicePart_none ?_)
 show aw _ _ (if ((1:Int) == 0)=true then _ else _) _ _ s
 rw[WT (by decide)]
 refine am (KA pl (am (KA pu (am (az ?_)))))
 show aw _ _ (match MI lo hi 1 (n:Int) with | (lo,hi)=>pure (lo,(1:Int),EN lo hi 1)) _ _ s
 rw[jbB lo hi n]
 show aw _ _ (pure (((sIx n 0 lo:Nat):Int),(1:Int),EN ((sIx n 0 lo:Nat):Int) ((sIx n n hi:Nat):Int) 1)) _ _ s
 rw[ja9]
 exact az h
theorem jdU(xs:Array ac)(i k:Nat):((cE k).filterMap fun (m:Nat)=>xs[((i:Int)+(m:Int) * 1).toNat]?).toArray=((xs.toList.drop i).take k).toArray:=by
 have e:(fun (m:Nat)=>xs[((i:Int)+(m:Int) * 1).toNat]?)=fun m=>xs[i+m]?:=by
  funext m;have:((i:Int)+(m:Int) * 1).toNat=i+m:=by omega
  rw[this]
 rw[e];have:=pick_run xs i k;rw[List.filterMap_map]at this;have e2:((fun x=>xs[x]?) ∘ fun x=>i+x)=fun m=>xs[i+m]?:=rfl
 rw[e2]at this;rw[this]
theorem getItem_tuple_cut{t sl:aa}{items:Array ac}{vl vu:ac}{lo hi:Option Int}{Q:ac->av->Prop}(ht:IsTup s.heap t items)(hs:s.heap.IsSliceOf sl vl vu .none)(pl:pW vl lo)(pu:pW vu hi)
  (hw:¬(sIx items.size 0 lo=0/\sIx items.size items.size hi=items.size))
  (h:Q (.ref s.heap.objs.size) { s with heap:=s.heap.push { cls:=.type "tuple",data:=.seq ((items.toList.drop (sIx items.size 0 lo)).take (sIx items.size items.size hi - sIx items.size 0 lo)).toArray } })
  (hsz:items.size<=aP):aw (aA prog w) A (pR (.ref t) (.ref sl)) Q E s:=by
 have xD:sizeOk (.seq ((items.toList.drop (sIx items.size 0 lo)).take (sIx items.size items.size hi - sIx items.size 0 lo)).toArray):=by
  show ((items.toList.drop (sIx items.size 0 lo)).take (sIx items.size items.size hi - sIx items.size 0 lo)).toArray.size<=aP;rw[cA,bK,EY,dQ];omega
 have hj:sIx items.size items.size hi<=items.size:=sIx_le _ _ (aL _) hi
 obtain⟨os,uU,rW,nQ⟩:=id hs
 have RL:s.TypeIs (.ref sl) "slice":=⟨os,uU,rW⟩
 unfold pR
 try with_reducible refine dD ?_
 first | refine am (az ?_) | skip
 refine am (wpAny_sequenceKey ht.typeIs (by decide) ?_)
 refine am (lU (name:=bu "__getitem__") ht.typeIs MQ
  (gA MQ ht.typeIs entry_tuple_getitem ?_ (args_tuple_getitem _ _)))
 show aw _ _ (Builtin.Tuple.tupleItemsOf (.ref t) >>= _) _ _ s
 refine am (tupleItemsOf_ ht ?_)
 refine am (vX RL ?_)
 rw[WU (by decide)]
 refine am (JK hs pl pu ?_)
 have nF:¬((((sIx items.size 0 lo:Nat):Int) == 0 && (1:Int) == 1 && (sIx items.size items.size hi - sIx items.size 0 lo) == items.size)=true):=by
  intro q;rw[cO,cO]at q;have q1:((sIx items.size 0 lo:Nat):Int)=0:=E5 q.1.1;have q2:sIx items.size items.size hi - sIx items.size 0 lo=items.size:=E5 q.2;exact hw ⟨by omega,by omega⟩
 show aw _ _ (if (((sIx items.size 0 lo:Nat):Int) == 0 && (1:Int) == 1 && (sIx items.size items.size hi - sIx items.size 0 lo) == items.size)=true then _ else _) _ _ s
 rw[WT nF,jdU]
 first
  | exact am (m:=EL _) (fi (az ⟨_,rfl,az h⟩) xD)
  | exact am (m:=EL _) (fi (am (az (az ⟨_,rfl,az h⟩))) xD)
  | exact am (am (m:=EL _) (fi (az (az ⟨_,rfl,az h⟩)) xD))
  | exact am (am (m:=EL _) (fi (az ⟨_,rfl,az h⟩) xD))
end
end HT
namespace L2
open PySem PySem.Spec PyProof.Rows
abbrev TO:=St->Hp->(Option Int->Hp->Prop)->Prop
def PO(X:Cx)(e:Option ay)(t:TO):Prop:=
 ∀(ah:List (aa×Obj)) (s:av) (σ:St) (H:Hp) (Q:Option Int->Hp->Prop),Inv X ah σ H s->t σ H Q->
  aw (aA X.prog X.w) X.A (evalPart e X.env) (fun u s'=>∃o H',Inv X ah σ H' s'/\pW u o/\Q o H') X.xe s
def je6:TO:=fun _ H Q=>Q none H
def jgN(t:TE):TO:=fun σ H Q=>t σ H fun x H1=>∃i,x=.int i/\Q (some i) H1
variable {X:Cx}{pos:Pos}{xs:List V}{us:List ac}
section
variable {e:ay}{te:TE}{lo hi:Option ay}{tl th:TO}{p2:Pos}
def SlR(X:Cx)(r:V->Option Int->Option Int->Hp->VK->Prop):Prop:=
 ∀(ah:List (aa×Obj)) (s:av) (σ:St) (H:Hp) (x:V) (v vl vu:ac) (lo hi:Option Int) (sl:aa) (Q:VK),Inv X ah σ H s->RelV x v->s.heap.IsSliceOf sl vl vu .none->pW vl lo->pW vu hi->r x lo hi H Q->
  ∃T id,v9 (.type T) "__getitem__" = pure (some (.builtin id))/\s.TypeIs v T/\aw (aA X.prog X.w) X.A (pR v (.ref sl)) (EP X ah σ Q) X.xe s
def tSl(r:V->Option Int->Option Int->Hp->VK->Prop)(te:TE)(tl th:TO):TE:=fun σ H Q=>te σ H fun x H1=>tl σ H1 fun l H2=>th σ H2 fun u H3=>r x l u H3 Q
def kI(xs:List V)(lo hi:Option Int):List V:=(xs.drop (HT.sIx xs.length 0 lo)).take (HT.sIx xs.length xs.length hi - HT.sIx xs.length 0 lo)
theorem J7(xs:List V)(lo hi:Option Int):(kI xs lo hi).length<=xs.length:=by
 unfold kI;rw[bK,EY];omega
def jhI(K:aC):V->Option Int->Option Int->Hp->VK->Prop:=fun x lo hi H Q=>∃a xs,x=.ref a/\SqT K H a xs/\
 ¬(HT.sIx xs.length 0 lo=0/\HT.sIx xs.length xs.length hi=xs.length)/\∀p,H p=none->Q (.ref p) (upd H p (.tup (kI xs lo hi)))
theorem qL:SlR X (jhI X.K):=by
 intro ah s σ H x v vl vu lo hi sl Q I rx hs pl pu h;obtain⟨a,xs,rfl,hx,hw,q⟩:=h
 cases rx
 obtain⟨its,r,ht,hz⟩:=I.tuple hx;have hlen:its.toArray.size=xs.length:=by rw[cA];exact r.length.symm
 refine⟨"tuple",_,MQ.lookup,ht.typeIs,?_⟩;refine HT.getItem_tuple_cut ht hs pl pu (by rw[hlen];exact hw) ?_ (by rw[hlen];exact hz);rw[hlen];refine⟨.ref s.heap.objs.size,_,I.laid (t':=s.toks) (o:=.tup (kI xs lo hi)) (fun b ob q=>bo _ q) (aL _) ?_,rfl,q _ (I.hok.fresh (aL _))⟩;exact⟨aV (J7 xs lo hi) hz,_,(r.drop (HT.sIx xs.length 0 lo)).take (HT.sIx xs.length xs.length hi - HT.sIx xs.length 0 lo),EQ _ _⟩
def jg5(K:aC):R2:=fun x y H Q=>∃a b xs ys,x=.ref a/\y=.ref b/\SqT K H a xs/\SqT K H b ys/\xs≠[]/\xs.length+ys.length<=aP/\
 (ys=[]->Q (.ref a) H)/\(ys≠[]->∀p,H p=none->Q (.ref p) (upd H p (.tup (xs++ys))))
theorem Vals.nil_iff(r:Vals xs us):us=[]↔xs=[]:=by
 cases r with
 | nil=>simp
 | cons _ _=>simp
theorem jfj:OpR X (fj .Add) (jg5 X.K):=by
 intro ah s σ H x y v u Q I rx ry h;obtain⟨a,b,xs,ys,rfl,rfl,ha,hb,hx,hz,q1,q2⟩:=h
 cases rx
 cases ry
 obtain⟨its,r1,p1,_⟩:=I.tuple ha;obtain⟨cM,r2,p2,_⟩:=I.tuple hb;refine HT.cat_tup p1 p2 (fun z=>hx (r1.nil_iff.mp z)) (fun z=>⟨.ref a,H,I,rfl,q1 (r2.nil_iff.mp z)⟩) (fun z=>?_) (by rw[<- r1.length,<- r2.length];exact hz);refine⟨.ref s.heap.objs.size,_,I.laid (t':=s.toks) (o:=.tup (xs++ys)) (fun b ob q=>bo _ q) (aL _) ?_,rfl,q2 (fun w=>z (r2.nil_iff.mpr w)) _ (I.hok.fresh (aL _))⟩;exact⟨by rw[aG];exact hz,_,r1.append r2,EQ _ _⟩
end
def ixN(n:Nat)(i:Int):Option Nat:=if 0<=i then (if i < n then some i.toNat else none) else if -(n:Int)<=i then some (i+n).toNat else none
def atI{α:Type}(xs:List α)(i:Int):Option α:=(ixN xs.length i).bind fun j=>xs[j]?
variable {n:Nat}
theorem jfz{i:Int}{j:Nat}(h:ixN n i=some j):seqIndex? i n=some j/\j < n/\-(n:Int)<=i/\i < n:=by
 unfold ixN at h;by_cases h0:0<=i
 .rw[WU h0]at h
  by_cases h1:i < n
  .rw[WU h1]at h
   have e:i.toNat=j:=eW h;exact⟨by rw[seqIndex_of h0 h1,e],by omega,by omega,h1⟩
  .rw[WT h1]at h;cases h
 .rw[WT h0]at h
  by_cases h1:-(n:Int)<=i
  .rw[WU h1]at h
   have e:(i+n).toNat=j:=eW h;exact⟨by rw[seqIndex_neg (by omega) h1,e],by omega,h1,by omega⟩
  .rw[WT h1]at h;cases h
theorem ZR{α:Type}{xs:List α}{i:Int}{v:α}(h:atI xs i=some v):∃j,seqIndex? i xs.length=some j/\xs[j]?=some v/\j < xs.length/\-(xs.length:Int)<=i/\i < xs.length:=by
 unfold atI at h
 cases e:ixN xs.length i with
 | none=>rw[e]at h;cases h
 | some j=>
  rw[e]at h;obtain⟨h1,h2,h3,h4⟩:=jfz e;exact⟨j,h1,h,h2,h3,h4⟩
theorem kU{α:Type}{xs:List α}{j:Nat}{v:α}(h:xs[j]?=some v):atI xs (j:Int)=some v:=by
 have hj:j < xs.length:=(bN.mp h).1;have e:ixN xs.length (j:Int)=some j:=by
  unfold ixN;rw[WU (by omega),WU (by omega)];simp
 unfold atI;rw[e];exact h
def jfJ(b:ay):Prop:=∀o i,subscripted b false o i=operate [o,i] (pR o i)
def IxR(X:Cx)(r:R2):Prop:=
 ∀(value i8:ay) (ah:List (aa×Obj)) (s:av) (σ:St) (H:Hp) (x y:V) (v u:ac) (Q:VK),Inv X ah σ H s->RelV x v->RelV y u->r x y H Q->
  subscripted i8 false v u=operate [v,u] (pR v u)->aw (aA X.prog X.w) X.A (MO value i8 v u) (EP X ah σ Q) X.xe s
def MtR(X:Cx)(id:String)(r:V->List V->Hp->VK->Prop):Prop:=
 ∀(ah:List (aa×Obj)) (s:av) (σ:St) (H:Hp) (x:V) (xs:List V) (v:ac) (us:List ac) (Q:VK),Inv X ah σ H s->RelV x v->Vals xs us->r x xs H Q->
  aw (aA X.prog X.w) X.A (call (.builtin id) (v :: us)) (EP X ah σ Q) X.xe s
variable {A:aR}{s:av}{y x:V}{u:ac}{ah:List (aa×Obj)}{H:Hp}{T:String}
section
variable {a b:ay}{ta tb:TE}
def jg4(K:aC):R2:=fun x y H Q=>∃p xs i v,x=.ref p/\y=.int i/\SqL K H p xs/\atI xs i=some v/\Q v H
def jg3(K:aC):R2:=fun x y H Q=>∃p xs i v,x=.ref p/\y=.int i/\SqT K H p xs/\atI xs i=some v/\Q v H
def jhL:R2:=fun x y H Q=>∃z i c,x=.str z/\y=.int i/\z.length<=aP/\atI z.cps.toList i=some c/\Q (.str ⟨#[c]⟩) H
theorem jS:IxR X (jg4 X.K):=by
 intro value i8 ah s σ H x y v u Q I rx ry h hs;obtain⟨p,xs,i,z,rfl,rfl,hq,he,q⟩:=h
 cases rx
 obtain⟨t,rfl⟩:=ry;obtain⟨its,r,pl,hz⟩:=I.list hq;obtain⟨j,h1,h2,h3,h4,h5⟩:=ZR he;obtain⟨w,ew,gc⟩:=r.get h2;have hl:=r.length;have hn:=Zw;have bE:EP X ah σ Q w s:=⟨z,H,I,gc,q⟩
 by_cases h0:0<=i
 .have hj:i.toNat=j:=by
   rw[seqIndex_of h0 h5]at h1;exact eW h1
  exact item_listR pl.isList h0 (by omega) (by rw[hj];simpa using ew) bE hs
 .have hj:(i+(its.toArray.size:Int)).toNat=j:=by
   rw[seqIndex_neg (by omega) h4]at h1;rw[cA,<- hl];exact eW h1
  exact VT (x:=w) pl.isList.typeIs T1.lookup
   (wpAny_getItem_list_neg (Q:=fun r s'=>r=w/\EP X ah σ Q r s') pl.isList (by omega) (by rw[cA] <;> omega) (by omega) (by rw[hj];simpa using ew) ⟨rfl,bE⟩) hs
theorem jq:IxR X (jg3 X.K):=by
 intro value i8 ah s σ H x y v u Q I rx ry h hs;obtain⟨p,xs,i,z,rfl,rfl,hq,he,q⟩:=h
 cases rx
 obtain⟨t,rfl⟩:=ry;obtain⟨its,r,pl,hz⟩:=I.tuple hq;obtain⟨j,h1,h2,h3,h4,h5⟩:=ZR he;obtain⟨w,ew,gc⟩:=r.get h2;have hl:=r.length;have hn:=Zw;have bE:EP X ah σ Q w s:=⟨z,H,I,gc,q⟩
 exact VT (x:=w) pl.typeIs slot_tuple_getitem.lookup
  (getItem_tuple (j:=j) (Q:=fun r s'=>r=w/\EP X ah σ Q r s') pl (by omega) (by omega) (by rw[cA,<- hl];exact h1) (by simpa using ew) ⟨rfl,bE⟩) hs
theorem jeB:IxR X jhL:=by
 intro value i8 ah s σ H x y v u Q I rx ry h hs;obtain⟨z,i,c,rfl,rfl,hz,he,q⟩:=h;obtain⟨t,rfl⟩:=rx;obtain⟨t',rfl⟩:=ry;obtain⟨j,h1,h2,h3,h4,h5⟩:=ZR he;have hl:z.cps.toList.length=z.length:=by simp[Ew]
 rw[hl]at h1 h4 h5;have hn:=Zw;exact tail_any (LK s z t) VU.lookup (getItem_str (c:=c) (by
  have e1:decide (i < -(2 ^ 63:Int))=false:=WR (by omega);have e2:decide (i >= 2 ^ 63)=false:=WR (by omega);rw[e1,e2,Bool.or_false]) (by rw[h1];simpa using h2) ⟨.str ⟨#[c]⟩,H,I.tok _,⟨_,rfl⟩,q⟩) hs
theorem Ze(lo hi:Option Int)(n:Nat):(sM lo hi none n).1=((HT.sIx n 0 lo:Nat):Int)/\(sM lo hi none n).2.1=((HT.sIx n n hi:Nat):Int)/\(sM lo hi none n).2.2=1:=by
 refine⟨?_,?_,rfl⟩
 .cases lo with
  | none=>simp[sM,HT.sIx]
  | some i=>
   simp only[sM,HT.sIx,V5,show (1:Int) > 0 by decide,if_true];by_cases h:i < 0
   .simp only[h,if_true] <;> omega
   .simp only[h,if_false] <;> omega
 .cases hi with
  | none=>simp[sM,HT.sIx]
  | some i=>
   simp only[sM,HT.sIx,V5,show (1:Int) > 0 by decide,if_true];by_cases h:i < 0
   .simp only[h,if_true] <;> omega
   .simp only[h,if_false] <;> omega
theorem Yh(its:List ac)(lo hi:Option Int):slicePick its.toArray lo hi none=((its.drop (HT.sIx its.length 0 lo)).take (HT.sIx its.length its.length hi - HT.sIx its.length 0 lo)).toArray:=by
 obtain⟨h1,h2,h3⟩:=Ze lo hi its.toArray.size;unfold slicePick;rw[h1,h2,h3];simp only[sliceRange_one,pick_run,cA] <;> rfl
def jhJ(K:aC):V->Option Int->Option Int->Hp->VK->Prop:=fun x lo hi H Q=>∃a xs,x=.ref a/\SqL K H a xs/\∀p,H p=none->Q (.ref p) (upd H p (.lst (kI xs lo hi)))
theorem Ke:SlR X (jhJ X.K):=by
 intro ah s σ H x v vl vu lo hi sl Q I rx hs pl pu h;obtain⟨a,xs,rfl,hx,q⟩:=h
 cases rx
 obtain⟨its,r,ht,hz⟩:=I.list hx;have hlen:=r.length;refine⟨"list",_,T1.lookup,ht.isList.typeIs,?_⟩;refine wpAny_getItem_list_slice ht.isList hs pl pu .none (by simp) ?_ (by rw[cA] <;> omega);rw[Yh,<- hlen];refine⟨.ref s.heap.objs.size,_,I.laid (t':=s.toks) (o:=.lst (kI xs lo hi)) (fun b ob q=>bo _ q) (aL _) ?_,rfl,q _ (I.hok.fresh (aL _))⟩;exact⟨aV (J7 xs lo hi) hz,_,0,(r.drop (HT.sIx xs.length 0 lo)).take (HT.sIx xs.length xs.length hi - HT.sIx xs.length 0 lo),cg _ rfl⟩
def Jz:V->Bool
 | .non=>true
 | .bl _=>true
 | .int _=>true
 | .str _=>true
 | _=>false
def eqV:V->V->Bool
 | .non,.non=>true
 | .bl a,.bl b=>a == b
 | .bl a,.int b=>(if a then 1 else 0) == b
 | .int a,.bl b=>a == (if b then 1 else 0)
 | .int a,.int b=>a == b
 | .str a,.str b=>a == b
 | _,_=>false
theorem jgz{v:ac}(ry:RelV y u)(rx:RelV x v)(fy:Jz y=true)(fx:Jz x=true):fm A s u v (eqV y x):=by
 cases y with
 | non=>
  cases ry
  cases x with
  | non=>cases rx;exact Mu _
  | bl b=>cases rx;exact fm.none_bool b
  | int b=>obtain⟨t,rfl⟩:=rx;exact fm.none_int b t
  | str b=>obtain⟨t,rfl⟩:=rx;exact fm.none_str b t
  | _=>exact absurd (show false=true from fx) bY
 | bl a=>
  cases ry
  cases x with
  | non=>cases rx;exact fm.bool_none a
  | bl b=>cases rx;exact fm.bool_bool a b
  | int b=>obtain⟨t,rfl⟩:=rx;exact fm.bool_int a b t
  | str b=>obtain⟨t,rfl⟩:=rx;exact fm.bool_str a b t
  | _=>exact absurd (show false=true from fx) bY
 | int a=>
  obtain⟨t',rfl⟩:=ry
  cases x with
  | non=>cases rx;exact fm.int_none a t'
  | bl b=>cases rx;exact fm.int_bool a t' b
  | int b=>obtain⟨t,rfl⟩:=rx;exact Vd a t' b t
  | str b=>obtain⟨t,rfl⟩:=rx;exact Vc a t' b t
  | _=>exact absurd (show false=true from fx) bY
 | str a=>
  obtain⟨t',rfl⟩:=ry
  cases x with
  | non=>cases rx;exact fm.str_none a t'
  | bl b=>cases rx;exact fm.str_bool a t' b
  | int b=>obtain⟨t,rfl⟩:=rx;exact Va a t' b t
  | str b=>obtain⟨t,rfl⟩:=rx;exact U_ a t' b t
  | _=>exact absurd (show false=true from fx) bY
 | _=>exact absurd (show false=true from fy) bY
def eqU(x:V)(u:ac):Bool:=match u with
 | .none=>eqV .non x
 | .bool b=>eqV (.bl b) x
 | .int i _=>eqV (.int i) x
 | .str z _=>eqV (.str z) x
 | _=>false
theorem jeM(r:RelV y u)(f:Jz y=true):eqU x u=eqV y x:=by
 cases y with
 | non=>cases r;rfl
 | bl b=>cases r;rfl
 | int i=>obtain⟨t,rfl⟩:=r;rfl
 | str z=>obtain⟨t,rfl⟩:=r;rfl
 | _=>exact absurd (show false=true from f) bY
theorem JG{x:V}:∀{xs:List V} {us:List ac},Vals xs us->xs.all Jz=true->us.any (eqU x)=xs.any fun y=>eqV y x
 | _,_,.nil,_=>rfl
 | y :: xs,u :: us,.cons r t,f=>by
  rw[md,cO]at f;rw[tD,tD,jeM r f.1,JG t f.2]
theorem yz{A:aR}{s:av}{x:V}{v:ac}(rx:RelV x v)(fx:Jz x=true):∀{xs:List V} {us:List ac},Vals xs us->xs.all Jz=true->∀u∈us,fm A s u v (eqU x u)
 | _,_,.nil,_=>fun u hu=>by cases hu
 | y :: xs,u :: us,.cons r t,f=>fun u' hu=>by
  rw[md,cO]at f;rcases aM.mp hu with rfl | hu
  .rw[jeM r f.1];exact jgz r rx f.1 fx
  .exact yz rx fx t f.2 u' hu
def inV(x:V)(xs:List V):Bool:=xs.any fun y=>eqV y x
def rIn(K:aC)(neg:Bool):R2:=fun x y H Q=>∃p xs,y=.ref p/\(SqL K H p xs\/SqT K H p xs)/\Jz x=true/\xs.all Jz=true/\Q (.bl (if neg then !inV x xs else inV x xs)) H
theorem jcF:OpR X (hX .In) (rIn X.K false):=by
 intro ah s σ H x y v u Q I rx ry h;obtain⟨p,xs,rfl,hq,fx,fs,q⟩:=h
 cases ry
 rcases hq with hq | hq
 .obtain⟨its,r,pl,hz⟩:=I.list hq
  refine SeqAt.in_listAt (eqU x) pl.isList (fun w hw=>yz rx fx r fs w (by simpa using hw)) ⟨.bl _,H,I,rfl,?_⟩;rw[show its.toArray.any (eqU x)=its.any (eqU x) by simp,JG r fs];exact q
 .obtain⟨its,r,pl,hz⟩:=I.tuple hq
  refine SeqAt.in_tupleAt (eqU x) pl (fun w hw=>yz rx fx r fs w (by simpa using hw)) ⟨.bl _,H,I,rfl,?_⟩;rw[show its.toArray.any (eqU x)=its.any (eqU x) by simp,JG r fs];exact q
theorem Zn:OpR X (hX .NotIn) (rIn X.K true):=by
 intro ah s σ H x y v u Q I rx ry h;obtain⟨p,xs,rfl,hq,fx,fs,q⟩:=h
 cases ry
 rcases hq with hq | hq
 .obtain⟨its,r,pl,hz⟩:=I.list hq
  refine SeqAt.notIn_listAt (eqU x) pl.isList (fun w hw=>yz rx fx r fs w (by simpa using hw)) ⟨.bl _,H,I,rfl,?_⟩;rw[show its.toArray.any (eqU x)=its.any (eqU x) by simp,JG r fs];exact q
 .obtain⟨its,r,pl,hz⟩:=I.tuple hq
  refine SeqAt.notIn_tupleAt (eqU x) pl (fun w hw=>yz rx fx r fs w (by simpa using hw)) ⟨.bl _,H,I,rfl,?_⟩;rw[show its.toArray.any (eqU x)=its.any (eqU x) by simp,JG r fs];exact q
theorem jI:zg X (.builtin "len") (fun xs H Q=>∃p ys,xs=[.ref p]/\(SqL X.K H p ys\/SqT X.K H p ys)/\Q (.int ys.length) H):=by
 intro ah s σ H xs us Q I r h;obtain⟨p,ys,rfl,hq,q⟩:=h;obtain⟨u,rfl,rx⟩:=J1 r
 cases rx
 have hn:=Zw;rcases hq with hq | hq
 .obtain⟨its,r',pl,hz⟩:=I.list hq
  have hlen:=r'.length;exact Calls.call_len_list pl.isList (by simp only[cA] <;> omega) ⟨.int ys.length,H,I.tok _,⟨s.toks+1,by rw[cA,hlen]⟩,q⟩
 .obtain⟨its,r',pl,hz⟩:=I.tuple hq
  have hlen:=r'.length;exact len_tuple pl (by simp only[cA] <;> omega) ⟨.int ys.length,H,I.tok _,⟨s.toks+1,by rw[cA,hlen]⟩,q⟩
theorem zm:zg X (.type "list") (fun xs H Q=>∃p ys,xs=[.ref p]/\(SqL X.K H p ys\/SqT X.K H p ys)/\∀l,H l=none->Q (.ref l) (upd H l (.lst ys))):=by
 intro ah s σ H xs us Q I r h;obtain⟨p,ys,rfl,hq,q⟩:=h;obtain⟨u,rfl,rx⟩:=J1 r
 cases rx
 have bE:∀(its:List ac),Vals ys its->ys.length<=aP->∀(h':aB) (c':Nat),(∀b o',s.heap.get? b=some o'->h'.get? b=some o')->
   h'.get? s.heap.objs.size=some { cls:=.type "list",dict:=none,data:=.seq its.toArray c',slots:=#[] }->EP X ah σ Q (.ref s.heap.objs.size) { s with heap:=h' }:=fun its r' hz h' c' kp e=>
  ⟨.ref s.heap.objs.size,_,I.laid (t':=s.toks) kp (aL _) (show ObjOk X.prog X.w _ h' _ (.lst ys) from⟨hz,its,c',r',e⟩),rfl,q _ (I.hok.fresh (aL _))⟩
 rcases hq with hq | hq
 .obtain⟨its,r',pl,hz⟩:=I.list hq
  have hlen:=r'.length;obtain⟨o,ho,hc,n,hd⟩:=pl.isList;exact call_list_seq p (.inl rfl) ho hc hd (fun h' c' kp e=>bE its r' hz h' c' kp e) (by simp only[cA] <;> omega)
 .obtain⟨its,r',pl,hz⟩:=I.tuple hq
  have hlen:=r'.length;obtain⟨o,ho,hc,n,hd⟩:=pl;exact call_list_seq p (.inr rfl) ho hc hd (fun h' c' kp e=>bE its r' hz h' c' kp e) (by simp only[cA] <;> omega)
theorem kR:zg X (.type "tuple") (fun xs H Q=>∃p ys,xs=[.ref p]/\((SqL X.K H p ys/\∀l,H l=none->Q (.ref l) (upd H l (.tup ys)))\/(SqT X.K H p ys/\Q (.ref p) H))):=by
 intro ah s σ H xs us Q I r h;obtain⟨p,ys,rfl,h⟩:=h;obtain⟨u,rfl,rx⟩:=J1 r
 cases rx
 rcases h with⟨hq,q⟩ | ⟨hq,q⟩
 .obtain⟨its,r',pl,hz⟩:=I.list hq
  have hlen:=r'.length;refine call_tuple_list pl.isList (fun h' kp=>?_) (by simp only[cA] <;> omega);have I1:Inv X ah σ H { s with heap:=h' }:=I.kept (t':=s.toks) kp;have I2:Inv X ah σ (upd H h'.objs.size (.tup ys)) { s with heap:=h'.push { cls:=.type "tuple",data:=.seq its.toArray } }:=
   I1.laid (t':=s.toks) (fun b o e=>bo _ e) (aL _) (show ObjOk X.prog X.w _ _ _ (.tup ys) from⟨hz,its,r',EQ _ _⟩)
  exact⟨.ref h'.objs.size,_,I2,rfl,q _ (I1.hok.fresh (aL _))⟩
 .obtain⟨its,r',pl,hz⟩:=I.tuple hq
  exact call_tuple_same pl ⟨.ref p,H,I,rfl,q⟩
def tyV(K:aC)(T:String)(x:V)(H:Hp):Prop:=match x with
 | .str _=>T = "str"
 | .int _=>T = "int"
 | .ref p=>(T = "list"/\∃xs,SqL K H p xs)\/(T = "tuple"/\∃o,K.lookup p=some o/\o.cls=.type "tuple"/\o.dict=none)\/
   (T = "dict"/\((∃kvs,H p=some (.dK kvs))\/∃kvs,H p=some (.dT kvs)))\/(T = "set"/\∃S n,H p=some (.set S n))
 | _=>False
theorem jdy{σ:St}{v:ac}(I:Inv X ah σ H s)(r:RelV x v)(ty:tyV X.K T x H):
  s.TypeIs v T/\∀a,v=.ref a->∃ob,s.heap.get? a=some ob/\ob.dict=none:=by
 cases x with
 | str z=>
  obtain⟨t,rfl⟩:=r
  cases (show T = "str" from ty)
  exact⟨LK s z t,fun _ e=>nomatch e⟩
 | int i=>
  obtain⟨t,rfl⟩:=r
  cases (show T = "int" from ty)
  exact⟨typeIs_int s i t,fun _ e=>nomatch e⟩
 | ref p=>
  cases r
  rcases ty with⟨rfl,xs,hq⟩ | ⟨rfl,o,hk,hc,hd⟩ | ⟨rfl,hk⟩ | ⟨rfl,S,n,hk⟩
  .obtain⟨its,_,pl,_⟩:=I.list hq
   refine⟨pl.isList.typeIs,fun a e=>?_⟩
   cases e
   obtain⟨o,n,e,c,hd,_⟩:=pl
   exact⟨o,e,hd⟩
  .refine⟨⟨o,I.kIn p o hk,hc⟩,fun a e=>?_⟩
   cases e
   exact⟨o,I.kIn _ o hk,hd⟩
  .have z:∃o,s.heap.get? p=some o/\o.ExactDict:=by
    rcases hk with⟨kvs,hk⟩ | ⟨kvs,hk⟩
    .obtain⟨_,_,_,_,o,_,_,e,ex,_⟩:=I.hok p _ hk
     exact⟨o,e,ex⟩
    .obtain⟨_,_,_,_,o,_,_,e,ex,_⟩:=I.hok p _ hk
     exact⟨o,e,ex⟩
   obtain⟨o,e,ex⟩:=z;refine⟨⟨o,e,ex.1⟩,fun a e2=>?_⟩
   cases e2
   exact⟨o,e,ex.2.1⟩
  .obtain⟨o,_,_,_,e,ex,_⟩:=I.hok p _ hk
   refine⟨⟨o,e,ex.1⟩,fun a e2=>?_⟩
   cases e2
   exact⟨o,e,ex.2.1⟩
 | _=>exact fw ty
def jhF(K:aC)(T:String)(r:V->List V->Hp->VK->Prop)(to:TE):TE:=fun σ H Q=>to σ H fun x H1=>tyV K T x H1/\r x [] H1 Q
def tBM(K:aC)(T:String)(r:V->List V->Hp->VK->Prop)(to:TE)(t:TA):TE:=fun σ H Q=>to σ H fun x H1=>tyV K T x H1/\t σ H1 fun xs H2=>r x xs H2 Q
variable {o e:ay}{es:List ay}{to:TE}{t:TA}{name:Str}{g_ cX:Pos}{id:String}{r:V->List V->Hp->VK->Prop}
end
def MtM(X:Cx)(id:String)(r:V->List V->Hp->VK->Prop):Prop:=
 ∀(ah:List (aa×Obj)) (s:av) (σ:St) (H:Hp) (x:V) (xs:List V) (v:ac) (us:List ac) (Q:VK),Inv X ah σ H s->RelV x v->Vals xs us->r x xs H Q->
  aw (aA X.prog X.w) X.A (call (.builtin id) (v :: us)) (EP X ah σ Q) X.xe s
theorem Vals.one(h:Vals [x] us):∃u,us=[u]/\RelV x u:=by
 cases h with
 | cons r t=>cases t;exact⟨_,rfl,r⟩
theorem Vals.zero:∀{us:List ac},Vals [] us->us=[]
 | _,.nil=>rfl
theorem Vals.dropLast(h:Vals xs us):Vals xs.dropLast us.dropLast:=by
 induction h with
 | nil=>exact .nil
 | cons r t ih=>
  cases t with
  | nil=>exact .nil
  | cons q t'=>exact .cons r ih
theorem Vals.eraseIdx:∀{xs:List V} {us:List ac} (i:Nat),Vals xs us->Vals (xs.eraseIdx i) (us.eraseIdx i)
 | _,_,_,.nil=>.nil
 | _,_,0,.cons _ t=>t
 | _,_,i+1,.cons r t=>.cons r (Vals.eraseIdx i t)
theorem Vals.reverse(h:Vals xs us):Vals xs.reverse us.reverse:=by
 induction h with
 | nil=>exact .nil
 | cons r t ih=>rw[M6,M6];exact Vals.append ih (.cons r .nil)
theorem jbt{α:Type}(l:List α):l.eraseIdx (l.length - 1)=l.dropLast:=by
 induction l with
 | nil=>rfl
 | cons a r ih=>
  cases r with
  | nil=>rfl
  | cons b r=>
   have e:(a :: b :: r).length - 1=((b :: r).length - 1)+1:=by
    have h1:(a :: b :: r).length=r.length+2:=rfl;have h2:(b :: r).length=r.length+1:=rfl;omega
   rw[e,List.eraseIdx_cons_succ,ih]
   all_goals rfl
variable {b:aa}{t':Nat}
section
variable {σ:St}{l:aa}{ys zs:List V}
theorem Inv.lset{its its':List ac}{f:Array ac->Array ac}(I:Inv X ah σ H s)(hH:H l=some (.lst xs))
  (e:s.heap.get? l=some { cls:=.type "list",data:=.seq its.toArray n }) (hf:f its.toArray=its'.toArray) (hv:Vals ys its') (hz:ys.length<=aP) :
  Inv X ah σ (upd H l (.lst ys)) { s with heap:=s.heap.update l (oq f),toks:=t' }:=by
 have q:=PySem.IsL.update e f
 rw[hf]at q
 refine I.write (x:=l) (e:=l) (by rw[hH];exact trivial) (.inl rfl) (fun b' u hb hu=>(EE s.heap (oq f) (bB hb)).trans hu) ⟨_,q⟩ ?_
 exact⟨hz,its',_,hv,q⟩
theorem Inv.lnew{its:List ac}(I:Inv X ah σ H s)(hv:Vals ys its)(hz:ys.length<=aP):
  Inv X ah σ (upd H s.heap.objs.size (.lst ys)) { s with heap:=s.heap.push { cls:=.type "list",data:=.seq its.toArray },toks:=t' }:=
 I.laid (fun _ _ q=>bo _ q) (aL _) ⟨hz,its,0,hv,cg _ rfl⟩
theorem Inv.fresh(I:Inv X ah σ H s):H s.heap.objs.size=none:=I.hok.fresh (aL _)
theorem Inv.lstM(I:Inv X ah σ H s)(hH:H l=some (.lst xs)):xs.length<=aP/\∃(its:List ac) (n:Nat),Vals xs its/\xs.length=its.length/\s.heap.get? l=some { cls:=.type "list",data:=.seq its.toArray n }:=by
 obtain⟨z,its,n,r,e⟩:=I.hok l _ hH;exact⟨z,its,n,r,r.length,e⟩
theorem jeq(h:n<=aP):MJ n=false:=by
 unfold MJ;exact WR (by omega)
end
section
def jfe:V->List V->Hp->VK->Prop:=fun x vs H Q=>∃l xs y,x=.ref l/\vs=[y]/\H l=some (.lst xs)/\xs.length < aP/\Q .non (upd H l (.lst (xs++[y])))
theorem kK:MtM X "list.append" jfe:=by
 intro ah s σ H x vs v us Q I rx rv h;obtain⟨l,xs,y,rfl,rfl,hH,hz,q⟩:=h
 cases rx
 obtain⟨u,rfl,ru⟩:=rv.one;obtain⟨z,its,n,r,hl,e⟩:=I.lstM hH;refine Er F.slot_list_append ⟨_,e,rfl⟩ F.entry_list_append (F.args_list_append_2 _ _) (PySem.list_append l its.toArray n u (by rw[cA];omega)) ⟨e,?_⟩;refine⟨.non,_,I.lset (its':=its++[u]) hH e (by simp) (r.append (.cons ru .nil)) ?_,rfl,q⟩;rw[aG,List.length_singleton];omega
def jfd:V->List V->Hp->VK->Prop:=fun x vs H Q=>∃l b xs zs,x=.ref l/\vs=[.ref b]/\H l=some (.lst xs)/\H b=some (.lst zs)/\xs.length+zs.length<=aP/\Q .non (upd H l (.lst (xs++zs)))
theorem zQ:MtM X "list.extend" jfd:=by
 intro ah s σ H x vs v us Q I rx rv h;obtain⟨l,b,xs,zs,rfl,rfl,hH,hB,hz,q⟩:=h
 cases rx
 obtain⟨u,rfl,ru⟩:=rv.one
 cases ru
 obtain⟨z,its,n,r,hl,e⟩:=I.lstM hH;obtain⟨z2,cM,n2,r2,a_,e2⟩:=I.lstM hB;have hsz:its.toArray.size+cM.toArray.size<=aP:=by rw[cA,cA];omega
 have Qt:¬(!its.toArray.isEmpty && MJ (its.toArray.size+cM.toArray.size))=true:=by
  rw[jeq hsz,Na];exact bY
 refine Er F.slot_list_extend ⟨_,e,rfl⟩ F.entry_list_extend (F.args_list_extend_2 _ _)
  (AutoSeq1.list_extend_list_list_0 l its.toArray n b cM.toArray n2 Qt (by rw[cA];omega) (by omega)) ⟨e,e2,?_⟩
 refine⟨.non,_,I.lset (its':=its++cM) hH e (by simp) (r.append r2) ?_,rfl,q⟩;rw[aG];omega
def jhK:V->List V->Hp->VK->Prop:=fun x vs H Q=>∃l xs y,x=.ref l/\vs=[]/\H l=some (.lst xs)/\xs[xs.length - 1]?=some y/\Q y (upd H l (.lst xs.dropLast))
theorem jgn:MtM X "list.pop" jhK:=by
 intro ah s σ H x vs v us Q I rx rv h;obtain⟨l,xs,y,rfl,rfl,hH,hy,q⟩:=h
 cases rx
 have dL:=rv.zero;subst dL;obtain⟨z,its,n,r,hl,e⟩:=I.lstM hH;obtain⟨u,hu,ru⟩:=r.get hy;have ck:its.toArray[its.toArray.size - 1]?=some u:=by
  show its.toArray[its.length - 1]?=some u;rw[<- Array.getElem?_toList,<- hl];exact hu
 refine Er F.slot_list_pop ⟨_,e,rfl⟩ F.entry_list_pop (F.args_list_pop_1 _) (MeetsSeq.list_pop_last l its.toArray n u ck (by rw[cA];omega)) ⟨e,?_⟩;refine⟨y,_,I.lset (its':=its.dropLast) hH e ?_ r.dropLast ?_,ru,q⟩
 .show its.toArray.eraseIdxIfInBounds (its.toArray.size - 1)=its.dropLast.toArray
  rw[cA,List.eraseIdxIfInBounds_toArray,jbt]
 .rw[Ww]
  omega
def jdQ:V->List V->Hp->VK->Prop:=fun x vs H Q=>∃l xs,x=.ref l/\vs=[]/\H l=some (.lst xs)/\Q .non (upd H l (.lst xs.reverse))
theorem jbi:MtM X "list.reverse" jdQ:=by
 intro ah s σ H x vs v us Q I rx rv h;obtain⟨l,xs,rfl,rfl,hH,q⟩:=h
 cases rx
 have dL:=rv.zero;subst dL;obtain⟨z,its,n,r,hl,e⟩:=I.lstM hH;refine Er F.slot_list_reverse ⟨_,e,rfl⟩ F.entry_list_reverse (F.args_list_reverse_1 _) (AutoSeq1.list_reverse_list_0 l its.toArray n (by rw[cA];omega)) ⟨e,?_⟩;refine⟨.non,_,I.lset (its':=its.reverse) hH e (by simp) r.reverse ?_,rfl,q⟩;rw[Wr];omega
def jhM:R2:=fun x y H Q=>∃l b xs zs,x=.ref l/\y=.ref b/\H l=some (.lst xs)/\H b=some (.lst zs)/\xs.length+zs.length<=aP/\∀p,H p=none->Q (.ref p) (upd H p (.lst (xs++zs)))
theorem kd:OpR X (fj .Add) jhM:=by
 intro ah s σ H x y v u Q I rx ry h;obtain⟨l,b,xs,zs,rfl,rfl,hH,hB,hz,q⟩:=h
 cases rx
 cases ry
 obtain⟨z,its,n,r,hl,e⟩:=I.lstM hH;obtain⟨z2,cM,n2,r2,a_,e2⟩:=I.lstM hB;refine PySem.P.add_list e e2 ?_ (by rw[cA,cA];omega);have ea:its.toArray++cM.toArray=(its++cM).toArray:=by simp
 rw[ea];exact⟨.ref _,_,I.lnew (t':=s.toks) (r.append r2) (by rw[aG];omega),rfl,q _ I.fresh⟩
end
variable {o:Option V}
section
variable {κ:Type}[DecidableEq κ]
def qt(kvs:List (κ×V))(k:κ):Option V:=(kvs.find? fun kv=>decide (kv.1=k)).map (·.2)
def kq(kvs:List (κ×V))(k:κ)(v:V):List (κ×V):=
 if (kvs.any fun kv=>decide (kv.1=k))=true then kvs.map (fun kv=>if kv.1=k then (kv.1,v) else kv) else kvs++[(k,v)]
theorem jdv{k:κ}:qt ([]:List (κ×V)) k=none:=rfl
theorem kX{p:κ×V}{r:List (κ×V)}{k:κ}(e:p.1=k):qt (p :: r) k=some p.2:=by simp[qt,wv,e]
theorem kY{p:κ×V}{r:List (κ×V)}{k:κ}(e:¬p.1=k):qt (p :: r) k=qt r k:=by simp[qt,wv,e]
theorem Jl(k:κ):∀kvs:List (κ×V),(kvs.any fun kv=>decide (kv.1=k))=(qt kvs k).isSome
 | []=>rfl
 | p :: r=>by
  rw[tD];by_cases e:p.1=k
  .simp only[kX e,WQ e,Bool.true_or,Option.isSome_some]
  .rw[kY e,WR e,WK];exact Jl k r
theorem Z5(k j:κ)(y:V):∀kvs:List (κ×V),qt (kvs.map fun kv=>if kv.1=k then (kv.1,y) else kv) j=(qt kvs j).map fun x=>if j=k then y else x
 | []=>rfl
 | p :: r=>by
  have ih:=Z5 k j y r;rw[ce];by_cases h:p.1=k
  .rw[WU h]
   by_cases e:p.1=j
   .rw[kX (p:=(p.1,y)) e,kX e,ER,WU (e.symm.trans h)]
   .rw[kY (p:=(p.1,y)) e,kY e,ih]
  .rw[WT h]
   by_cases e:p.1=j
   .rw[kX (p:=p) e,kX e,ER,WT (fun z=>h (e.trans z))]
   .rw[kY (p:=p) e,kY e,ih]
theorem Yv(k j:κ)(y:V):∀kvs:List (κ×V),qt kvs k=none->qt (kvs++[(k,y)]) j=if j=k then some y else qt kvs j
 | [],_=>by
  by_cases e:k=j
  .rw[WU e.symm];exact kX (p:=(k,y)) e
  .rw[WT (fun z=>e z.symm)];exact kY (p:=(k,y)) e
 | p :: r,hn=>by
  rw[rb];have hk:¬p.1=k:=fun z=>by rw[kX z]at hn;cases hn
  rw[kY hk]at hn;have ih:=Yv k j y r hn;by_cases e:p.1=j
  .rw[kX e,kX e,WT (fun z=>hk (e.trans z))]
  .rw[kY e,kY e,ih]
theorem qJ(kvs:List (κ×V))(k j:κ)(y:V):qt (kq kvs k y) j=if j=k then some y else qt kvs j:=by
 unfold kq;by_cases a:(kvs.any fun kv=>decide (kv.1=k))=true
 .rw[WU a,Z5]
  rw[Jl]at a;by_cases e:j=k
  .obtain⟨x,hx⟩:=AQ.mp a
   rw[WU e,e,hx,ER,WU rfl]
  .rw[WT e]
   cases qt kvs j with
   | none=>rfl
   | some x=>rw[ER,WT e]
 .rw[WT a]
  refine Yv k j y kvs ?_;rw[Jl]at a
  cases q:qt kvs k with
  | none=>rfl
  | some x=>rw[q]at a;exact (a rfl).elim
theorem zH(kvs:List (κ×V))(k:κ)(v:V):(kq kvs k v).length<=kvs.length+1:=by
 unfold kq;split
 .rw[ax];omega
 .rw[aG,bR,oz];omega
theorem RelO.isSome_eq{u:Option ac}(r:RelO o u):o.isSome=u.isSome:=by
 cases o with
 | none=>cases u with
  | none=>rfl
  | some _=>exact (show False from r).elim
 | some _=>cases u with
  | none=>exact (show False from r).elim
  | some _=>rfl
theorem RelO.getD{u:Option ac}{d:V}{d':ac}(r:RelO o u)(rd:RelV d d'):RelV (o.getD d) (u.getD d'):=by
 cases o with
 | none=>cases u with
  | none=>exact rd
  | some _=>exact (show False from r).elim
 | some _=>cases u with
  | none=>exact (show False from r).elim
  | some _=>exact r
theorem KV.val{kvs:List (κ×V)}{vs:List (κ×ac)}(r:KV kvs vs)(k:κ):RelO (qt kvs k) (sK vs k):=by
 unfold KV at r;induction r with
 | nil=>exact True.intro
 | @cons p q ps qs h t ih=>
  obtain⟨h1,h2⟩:=h;by_cases e:p.1=k
  .have e':q.1=k:=h1.symm.trans e
   have b:sK (q :: qs) k=some q.2:=by simp[sK,wv,e']
   rw[kX e,b];exact h2
  .have e':¬q.1=k:=fun z=>e (h1.trans z)
   have b:sK (q :: qs) k=sK qs k:=by simp[sK,wv,e']
   rw[kY e,b];exact ih
theorem KV.any{kvs:List (κ×V)}{vs:List (κ×ac)}(r:KV kvs vs)(k:κ):(kvs.any fun kv=>decide (kv.1=k))=vs.any fun kv=>decide (kv.1=k):=by
 unfold KV at r;induction r with
 | nil=>rfl
 | cons h t ih=>rw[tD,tD,ih,h.1]
theorem KV.repl{kvs:List (κ×V)}{vs:List (κ×ac)}(r:KV kvs vs)(k:κ)(ry:RelV y u):
  KV (kvs.map fun kv=>if kv.1=k then (kv.1,y) else kv) (vs.map fun kv=>if kv.1=k then (kv.1,u) else kv):=by
 unfold KV at r |-
 induction r with
 | nil=>exact .nil
 | @cons p q ps qs h t ih=>
  rw[ce,ce]
  refine .cons ?_ ih
  obtain⟨h1,h2⟩:=h
  by_cases e:p.1=k
  .rw[WU e,WU (h1.symm.trans e)];exact⟨h1,ry⟩
  .rw[WT e,WT (fun z=>e (h1.trans z))];exact⟨h1,h2⟩
theorem KV.put{kvs:List (κ×V)}{vs:List (κ×ac)}(r:KV kvs vs)(k:κ)(ry:RelV y u):KV (kq kvs k y) (stored vs k u):=by
 unfold kq stored;rw[r.any k];by_cases e:(vs.any fun kv=>decide (kv.1=k))=true
 .rw[WU e,WU e];exact r.repl k ry
 .rw[WT e,WT e];exact Vg r ⟨rfl,ry⟩
theorem KV.keys{kvs:List (κ×V)}{vs:List (κ×ac)}(r:KV kvs vs):kvs.map (·.1)=vs.map (·.1):=by
 unfold KV at r;induction r with
 | nil=>rfl
 | cons h t ih=>rw[ce,ce,ih,h.1]
theorem KV.length{kvs:List (κ×V)}{vs:List (κ×ac)}(r:KV kvs vs):kvs.length=vs.length:=EB r
end
variable {P:aF}{w:aE}
theorem KR{k:Key}(r:RelV (kV k) u):(kf P w).is k u=true:=by
 cases k with
 | inl i=>obtain⟨t,e⟩:=(show ∃t,u=Value.int i t from r);subst e;exact jaq P w i t
 | inr x=>obtain⟨t,e⟩:=(show ∃t,u=Value.str x t from r);subst e;exact jap P w x t
theorem YK{P:aF}{w:aE}:∀{ks:List Key} {us:List ac},Vals (ks.map kV) us->ItemsAre (kf P w) ks us
 | [],_,r=>by rw[oy]at r;cases r;exact .nil
 | k :: ks,_,r=>by
  rw[ce]at r
  cases r with
  | cons h t=>exact .cons (KR h) (YK t)
abbrev KT(H:Hp):List (List Key×V)->List (List Key×aa×ac)->Prop:=Paired fun p q=>p.1=q.1/\H q.2.1=some (.tup (p.1.map kV))/\RelV p.2 q.2.2
variable {kvs:List (List Key×V)}
theorem KT.val{xs:List (List Key×aa×ac)}(r:KT H kvs xs)(k:List Key):RelO (qt kvs k) ((atKey xs k).map (·.2)):=by
 induction r with
 | nil=>exact True.intro
 | @cons p q ps qs h t ih=>
  obtain⟨h1,_,h2⟩:=h;by_cases e:p.1=k
  .have e':q.1=k:=h1.symm.trans e
   have b:atKey (q :: qs) k=some q.2:=by simp[atKey,wv,e']
   rw[kX e,b];exact h2
  .have e':¬q.1=k:=fun z=>e (h1.trans z)
   have b:atKey (q :: qs) k=atKey qs k:=by simp[atKey,wv,e']
   rw[kY e,b];exact ih
theorem KT.repl{xs:List (List Key×aa×ac)}(r:KT H kvs xs)(k:List Key)(ry:RelV y u):
  KT H (kvs.map fun kv=>if kv.1=k then (kv.1,y) else kv) (xs.map (putAt k u)):=by
 induction r with
 | nil=>exact .nil
 | @cons p q ps qs h t ih=>
  rw[ce,ce]
  refine .cons ?_ ih
  obtain⟨h1,h2,h3⟩:=h
  unfold putAt
  by_cases e:p.1=k
  .rw[WU e,WU (h1.symm.trans e)];exact⟨h1,h2,ry⟩
  .rw[WT e,WT (fun z=>e (h1.trans z))];exact⟨h1,h2,h3⟩
theorem KT.put{xs:List (List Key×aa×ac)}(r:KT H kvs xs)(k:List Key)(hb:H b=some (.tup (k.map kV)))(ry:RelV y u):
  KT H (kq kvs k y) (storedH xs k b u):=by
 have e:(kvs.any fun kv=>decide (kv.1=k))=(atKey xs k).isSome:=by
  rw[Jl,(r.val k).isSome_eq,Option.isSome_map]
 unfold kq storedH
 rw[e]
 by_cases q:(atKey xs k).isSome=true
 .rw[WU q,WU q];exact r.repl k ry
 .rw[WT q,WT q];exact Vg r ⟨rfl,hb,ry⟩
variable {H':Hp}
theorem KT.keeps{xs:List (List Key×aa×ac)}(r:KT H kvs xs)(ht:∀b ys,H b=some (.tup ys)->H' b=some (.tup ys)):KT H' kvs xs:=
 Paired.mapP r fun _ _ z=>⟨z.1,ht _ _ z.2.1,z.2.2⟩
variable {a:aa}
section
variable {h:aB}
theorem jfN{u:HO}(ok:HOk P w H h)(e:Rd H a u):ObjOk P w H h a u:=e.ok ok
theorem jaI{kvs:List (Key×V)}(ok:HOk P w H h)(e:Rd H a (.dK kvs)):kvs.length<=aP/\(a == lV)=false/\∃vs,KV kvs vs/\h.DictOf (kf P w) a vs:=
 show ObjOk P w H h a (.dK kvs) from jfN ok e
theorem jeQ{kvs:List (Key×V)}(ok:HOk P w H h)(e:H a=some (.dK kvs)):kvs.length<=aP/\(a == lV)=false/\∃vs,KV kvs vs/\h.DictOf (kf P w) a vs:=jaI ok (.inl e)
theorem Zz{ks:List Key}(ok:HOk P w H h)(e:H a=some (.tup (ks.map kV))):(v_ (kf P w)).is h ks a:=by
 obtain⟨_,its,r,o,h1,h2,n,h3⟩:=(show ObjOk P w H h a (.tup (ks.map kV)) from ok a _ e)
 exact⟨o,its.toArray,n,h1,h2,h3,by simpa using YK r⟩
theorem jaH(ok:HOk P w H h)(e:Rd H a (.dT kvs)):kvs.length<=aP/\(a == lV)=false/\
  ∃xs,KT H kvs xs/\h.DictOfH (v_ (kf P w)) a xs:=by
 obtain⟨z,y,xs,r,o,es,ep,h1,h2,h3,h4,h5⟩:=(show ObjOk P w H h a (.dT kvs) from jfN ok e)
 refine⟨z,y,xs,r,o,es,ep,h1,h2,h3,h4,fun x hx=>?_,h5⟩
 have all:∀{l:List (List Key×V)} {m:List (List Key×aa×ac)},KT H l m->∀x∈m,(v_ (kf P w)).is h x.1 x.2.1:=by
  intro l m q;induction q with
  | nil=>intro x hx;exact nomatch hx
  | @cons p q ps qs hq t ih=>
   intro x hx;rcases aM.mp hx with e | hx
   .subst e
    exact Zz ok (by rw[<- hq.1];exact hq.2.1)
   .exact ih x hx
 exact all r x hx
theorem jhr(ok:HOk P w H h)(e:H a=some (.dT kvs)):kvs.length<=aP/\(a == lV)=false/\
  ∃xs,KT H kvs xs/\h.DictOfH (v_ (kf P w)) a xs:=jaH ok (.inl e)
end
def DGet(H:Hp)(a:aa)(y:V)(r:Option V):Prop:=
 (∃kvs k,Rd H a (.dK kvs)/\y=kV k/\r=qt kvs k)\/∃kvs k b,Rd H a (.dT kvs)/\y=.ref b/\H b=some (.tup (k.map kV))/\r=qt kvs k
def DPut(H:Hp)(a:aa)(y v:V)(H':Hp):Prop:=
 (∃kvs k,H a=some (.dK kvs)/\y=kV k/\kvs.length < aP/\H'=upd H a (.dK (kq kvs k v)))\/
 ∃kvs k b,H a=some (.dT kvs)/\y=.ref b/\H b=some (.tup (k.map kV))/\kvs.length < aP/\H'=upd H a (.dT (kq kvs k v))
theorem DGet.k{kvs:List (Key×V)}{k:Key}(e:H a=some (.dK kvs)):DGet H a (kV k) (qt kvs k):=.inl ⟨kvs,k,.inl e,rfl,rfl⟩
theorem DGet.t{k:List Key}(e:H a=some (.dT kvs))(eb:H b=some (.tup (k.map kV))):DGet H a (.ref b) (qt kvs k):=.inr ⟨kvs,k,b,.inl e,rfl,eb,rfl⟩
variable {v:V}
theorem DPut.k{kvs:List (Key×V)}{k:Key}(e:H a=some (.dK kvs))(hl:kvs.length < aP):DPut H a (kV k) v (upd H a (.dK (kq kvs k v))):=.inl ⟨kvs,k,e,rfl,hl,rfl⟩
theorem DPut.t{k:List Key}(e:H a=some (.dT kvs))(eb:H b=some (.tup (k.map kV)))(hl:kvs.length < aP):
  DPut H a (.ref b) v (upd H a (.dT (kq kvs k v))):=.inr ⟨kvs,k,b,e,rfl,eb,hl,rfl⟩
variable {E Q:ac->av->Prop}
section
variable {σ:St}{r:ac}
theorem Inv.big(I:Inv X ah σ H s):lV < s.heap.objs.size:=by
 have h:bU < s.heap.objs.size:=(I.mod.glob.keeps I.bk).lt;exact ow (by decide) h
theorem jc9(hu:A.units+1 < cLine)(I:Inv X ah σ H s)(g:DGet H a y (some v))(ry:RelV y u)(h:∀w' s',Inv X ah σ H s'->RelV v w'->Q w' s'):
  aw (aA X.prog X.w) A (pR (.ref a) u) Q E s:=by
 rcases g with⟨kvs,k,e,ey,l⟩ | ⟨kvs,k,b,e,ey,eb,l⟩
 .subst ey
  obtain⟨z,hd,vs,da,dd⟩:=jaI I.hok e
  obtain⟨w',hw,gc⟩:=RelO.some_of (v:=v) (o:=sK vs k) (by rw[l];exact da.val k)
  exact wpAny_getItem_of (KR ry) dd.mapOf hw (h w' _ (I.tok _) gc)
 .subst ey
  cases (show u=Value.ref b from ry)
  obtain⟨z,hd,xs,da,dd⟩:=jaH I.hok e
  obtain⟨w',hw,gc⟩:=RelO.some_of (v:=v) (o:=(atKey xs k).map (·.2)) (by rw[l];exact da.val k)
  obtain⟨p,hp,uT⟩:=Option.map_eq_some_iff.mp hw
  refine wpAny_getItem_heap (LL hu) (Zz I.hok eb) dd hp ?_
  rw[uT]
  exact h w' _ (I.tok _) gc
theorem Kk{h':aB}{ob:HO}(I:Inv X ah σ H s)(mu:Mut (H a))(hs:dj a s.heap h')(he:∃q,h'.get? a=some q)(new:ObjOk X.prog X.w (upd H a ob) h' a ob):
  Inv X ah σ (upd H a ob) { s with heap:=h',toks:=t' }:=
 I.write (x:=a) (e:=a) mu (.inl rfl) (fun b q hb z=>(hs.2 b hb).trans z) he new
theorem ZH{h':aB}{kvs:List (Key×V)}{vs:List (Key×ac)}(z:kvs.length<=aP)(hd:(a == lV)=false)(da:KV kvs vs)(dd:h'.DictOf (kf P w) a vs):
  ObjOk P w H' h' a (.dK kvs):=⟨z,hd,vs,da,dd⟩
theorem jc8{Q:Unit->av->Prop}(hu:A.units+1 < cLine)(I:Inv X ah σ H s)(g:DPut H a y v H')(ry:RelV y u)(rv:RelV v r)(h:∀s',Inv X ah σ H' s'->Q () s'):
  aw (aA X.prog X.w) A (setItem (.ref a) u r) Q E s:=by
 rcases g with⟨kvs,k,e,ey,l,eH⟩ | ⟨kvs,k,b,e,ey,eb,l,eH⟩
 .subst ey eH
  obtain⟨z,hd,vs,da,dd⟩:=jeQ I.hok e
  have hz:vs.length<=aP:=by rw[<- da.length];exact z
  have hl:(kq kvs k v).length<=aP:=by have:=zH kvs k v;omega
  refine wpAny_setItem_pairs (hsz:=hz) (KR ry) dd fun h' lN hs=>h _ ?_
  have he:∃q,h'.get? a=some q:=let ⟨q,_,_,hq,_⟩:=lN;⟨q,hq⟩
  exact Kk I (by rw[e];exact True.intro) hs he (ZH hl hd (da.put k rv) lN)
 .subst ey eH
  cases (show u=Value.ref b from ry)
  obtain⟨z,hd,xs,da,dd⟩:=jhr I.hok e
  have hz:xs.length<=aP:=by rw[<- EB da];exact z
  have hl:(kq kvs k v).length<=aP:=by have:=zH kvs k v;omega
  refine wpAny_setItem_heap (hsz:=hz) (LL hu) (Zz I.hok eb) dd fun h' lN hs=>h _ ?_
  obtain⟨q,es,ep,hq,h2,h3,h4,_,h5⟩:=lN
  refine Kk I (by rw[e];exact True.intro) hs ⟨q,hq⟩ ⟨hl,hd,_,(da.put k eb rv).keeps fun c ys ec=>?_,q,es,ep,hq,h2,h3,h4,h5⟩
  rw[jw (jfR ec e (fun z=>nomatch z))]
  exact ec
end
def jhu(i:ay):Prop:=∀ov iv,subscripted i false ov iv=operate [ov,iv] (pR ov iv)
theorem je9{prog:aF}{env:Env}{value i8:ay}{id:String}
  (hl:v9 (.type T) "__getitem__" = pure (some (.builtin id))) (hs:jhu i8)
  (h:aw (aA prog w) A (eval value env) (fun o s₁=>aw (aA prog w) A (eval i8 env) (fun i s₂=>s₂.TypeIs o T/\aw (aA prog w) A (pR o i) Q E s₂) E s₁) E s) :
  aw (aA prog w) A (eval (.Subscript value i8 pos) env) Q E s:=by
 refine MS (cY h (fun o s₁ h₁=>cY h₁ (fun i s₂ h₂=>?_) fun _ _ x=>x) fun _ _ x=>x)
 obtain⟨hT,h₂⟩:=h₂
 unfold MO
 refine am ?_
 rw[getitemInPython_of_ne hT.not_modules]
 refine am (wpAny_specialOf hT hl ?_)
 have bE:aw (aA prog w) A (subscripted i8 false o i) (fun r s₃=>aw (aA prog w) A (letTemporaryGo value o r >>= fun _=>pure r) Q E s₃) E s₂:=by
  rw[hs o i];exact wpAny_operating (cY h₂ (fun r s₃ h₃=>am (wpAny_letTemporaryGo (az h₃))) fun _ _ x=>x)
 first
  | exact az (am bE)
  | exact am (az (am bE))
  | exact am bE
theorem jaK{σ:St}(I:Inv X ah σ H s)(g:DGet H a y o):s.TypeIs (.ref a) "dict":=by
 rcases g with⟨kvs,k,e,_,_⟩ | ⟨kvs,k,b,e,_,_,_⟩
 .obtain⟨_,_,vs,_,dd⟩:=jaI I.hok e
  exact dd.typeIs
 .obtain⟨_,_,xs,_,dd⟩:=jaH I.hok e
  exact dd.typeIs
def jgW(td ty:TE):TE:=fun σ H Q=>td σ H fun x H1=>ty σ H1 fun y H2=>∃a v,x=.ref a/\DGet H2 a y (some v)/\Q v H2
def jg2(td ty tv:TE):TS:=fun D σ H=>tv σ H fun v H1=>td σ H1 fun x H2=>ty σ H2 fun y H3=>∃a H4,x=.ref a/\DPut H3 a y v H4/\D.nx σ H4
theorem jaJ(h:aB)(hb:lV < h.objs.size):ObjOk P w H (h.push { cls:=.type "dict",data:=.dict #[] }) h.objs.size (.dK []):=
 ⟨cy _,WV.mpr (bB (bv hb)),[],.nil,Vp h⟩
def jaY:List (TE×TE)->St->Hp->(List (V×V)->Hp->Prop)->Prop
 | [],_,H,Q=>Q [] H
 | (tk,tv) :: r,σ,H,Q=>tk σ H fun x H1=>tv σ H1 fun y H2=>jaY r σ H2 fun ps H3=>Q ((x,y) :: ps) H3
abbrev VV:List (V×V)->List (ac×ac)->Prop:=Paired fun p q=>RelV p.1 q.1/\RelV p.2 q.2
def PPs(X:Cx)(pos:Pos)(keys:List (Option ay))(tQ:List ay)(mi:List (TE×TE)):Prop:=
 ∀(ah:List (aa×Obj)) (s:av) (σ:St) (H:Hp) (Q:List (V×V)->Hp->Prop),Inv X ah σ H s->jaY mi σ H Q->
  aw (aA X.prog X.w) X.A (evalPairs (pairTrees keys tQ X.env pos)) (fun vs s'=>∃ps H',Inv X ah σ H' s'/\VV ps vs/\Q ps H') X.xe s
def yy(kvs more:List (Key×V)):List (Key×V):=more.foldl (fun bp kv=>kq bp kv.1 kv.2) kvs
theorem KV.merge:∀{more:List (Key×V)} {rs:List (Key×ac)} {kvs:List (Key×V)} {vs:List (Key×ac)},KV more rs->KV kvs vs->KV (yy kvs more) (merged vs rs):=by
 intro more rs kvs vs r;unfold KV at r;induction r generalizing kvs vs with
 | nil=>intro q;exact q
 | @cons p q ps qs h t ih=>
  intro r0;have e:KV (kq kvs p.1 p.2) (stored vs q.1 q.2):=by
   have:=r0.put p.1 h.2;rw[<- h.1];exact this
  exact ih e
theorem yT:∀(more kvs:List (Key×V)),(yy kvs more).length<=kvs.length+more.length
 | [],kvs=>by show kvs.length<=kvs.length+0;omega
 | p :: r,kvs=>by
  have h1:=yT r (kq kvs p.1 p.2);have h2:=zH kvs p.1 p.2;show (yy (kq kvs p.1 p.2) r).length<=_;rw[bR];omega
theorem K9{P:aF}{w:aE}:∀{kvs:List (Key×V)} {ws:List (ac×ac)},VV (kvs.map fun kv=>(kV kv.1,kv.2)) ws->∃rs,Carries (kf P w) ws rs/\KV kvs rs
 | [],_,r=>by rw[oy]at r;cases r;exact⟨[],True.intro,.nil⟩
 | p :: kvs,_,r=>by
  rw[ce]at r
  cases r with
  | @cons a b as bs h t=>
   obtain⟨rs,c,q⟩:=K9 (P:=P) (w:=w) t;obtain⟨b1,b2⟩:=b;exact⟨(p.1,b2) :: rs,⟨KR h.1,rfl,c⟩,.cons ⟨rfl,h.2⟩ q⟩
def jgV(mi:List (TE×TE)):TE:=fun σ H Q=>∀p,H p=none->jaY mi σ (upd H p (.dK [])) fun ps H2=>H2 p=some (.dK [])/\∃kvs:List (Key×V),ps=kvs.map (fun kv=>(kV kv.1,kv.2))/\kvs.length<=15/\Q (.ref p) (upd H2 p (.dK (yy [] kvs)))
structure M2(X:Cx)(o:ay)(m:Str)(g_:Pos)(e f:ay)(cX:Pos):Prop where
 base:AD o m X.env (eval o X.env)=eval o X.env
 few:((hZ cX (cr [e,f] X.env)).all (fun x=>!x.1) && (backToKw cX (keywordEach [] X.env)).all (fun x=>x.1.isSome)
  && decide (([e,f]:List ay).length+([]:List Keyword).length+(if ([]:List Keyword).isEmpty then 0 else 1) < 30))=true
 line:(g_.endLine == cX.line)=true
 trees:hZ cX (cr [e,f] X.env)=[(false,eval e X.env),(false,eval f X.env)]
def IsD(H:Hp)(a:aa):Prop:=(∃kvs,Rd H a (.dK kvs))\/∃kvs,Rd H a (.dT kvs)
theorem jgv{σ:St}(I:Inv X ah σ H s)(d:IsD H a):
  s.TypeIs (.ref a) "dict"/\(∀b,Value.ref a=.ref b->∃ob,s.heap.get? b=some ob/\ob.dict=none)/\(a == lV)=false:=by
 rcases d with⟨kvs,e⟩ | ⟨kvs,e⟩
 .obtain⟨_,hd,vs,_,dd⟩:=jaI I.hok e
  refine⟨dd.typeIs,fun b q=>?_,hd⟩
  cases q
  obtain⟨ob,_,_,h1,h2,_⟩:=dd
  exact⟨ob,h1,h2.2.1⟩
 .obtain⟨_,hd,xs,_,dd⟩:=jaH I.hok e
  refine⟨dd.typeIs,fun b q=>?_,hd⟩
  cases q
  obtain⟨ob,_,_,h1,h2,_⟩:=dd
  exact⟨ob,h1,h2.2.1⟩
section
variable {σ:St}{d:V}{r:ac}
theorem jgD(hu:A.units+1 < cLine)(I:Inv X ah σ H s)(g:DGet H a y o)(ry:RelV y u)(rd:RelV d r)(h:∀w' s',Inv X ah σ H s'->RelV (o.getD d) w'->Q w' s'):
  aw (aA X.prog X.w) A (call (.builtin "dict.get") [.ref a,u,r]) Q E s:=by
 rcases g with⟨kvs,k,e,ey,l⟩ | ⟨kvs,k,b,e,ey,eb,l⟩
 .subst ey
  obtain⟨z,hd,vs,da,dd⟩:=jaI I.hok e
  refine call_meetsIn Mz dd.typeIs Vy (VC _ _ _) (meets_dict_get_default (kf X.prog X.w) a (KR ry) hd r) ⟨_,dd.mapOf,h _ _ (I.tok _) ?_⟩
  rw[l]
  exact (da.val k).getD rd
 .subst ey
  cases (show u=Value.ref b from ry)
  obtain⟨z,hd,xs,da,dd⟩:=jaH I.hok e
  refine call_meetsIn Mz dd.typeIs Vy (VC _ _ _) (meetsH_dict_get_default (v_ (kf X.prog X.w)) a b hd r) ⟨LL hu,k,xs,Zz I.hok eb,dd,h _ _ (I.tok _) ?_⟩
  rw[l]
  exact (da.val k).getD rd
end
def jf3(td ty tx:TE):TE:=fun σ H Q=>td σ H fun x H1=>∃a,x=.ref a/\IsD H1 a/\ty σ H1 fun y H2=>tx σ H2 fun z H3=>∃o,DGet H3 a y o/\Q (o.getD z) H3
end L2
namespace Att
open PySem PySem.W PySem.Calls PyProof.Rows
theorem J9{P:Params}{h:aB}:∀(ns:List Int) (vs:List ac),WellAll P h vs (ns.map WData.int)->AO vs ns:=by
 intro ns;induction ns with
 | nil=>
  intro vs w;rw[oy]at w
  cases w
  exact .nil
 | cons n ns ih=>
  intro vs w;rw[ce]at w
  cases w with
  | cons a b=>
   cases a
   exact .cons _ _ (ih _ b)
theorem jcA{l:OpenLaw}{n:Nat}(hn:l.most=some n){P:Params}{h:aB}{args:List WData}{aX:List ac}
  (xH:l.row.toRowW.claim.pre args=true) (cP:WellAll P h aX args) :
  ∃a vs ns,aX=[Value.ref a]/\args=[WData.list (ns.map WData.int)]/\h.get? a=some { cls:=.type "list",data:=.seq vs.toArray }/\AO vs ns/\ns.length<=n:=by
 have PV:WShape.hasAll [] args [.list .int]=true:=(pre_splitW xH).1
 have hc:l.pre.holds [] { args:=args }=true:=(pre_splitW xH).2
 obtain⟨d,r,rfl,h1,h2⟩:=hasAllW_cons PV
 obtain rfl:=hasAllW_nil h2
 obtain⟨xs,rfl,h3⟩:=hasW_list h1
 obtain⟨ns,rfl⟩:=items_int h3
 have hlen:ns.length<=n:=by
  unfold OpenLaw.pre at hc;have h4:(WTm.not (.lt (.lit (.int (n:Int))) (.len (.arg 0)))).holds [] { args:=[.list (ns.map .int)] }=true:=by
   have h4:=(holds_andW hc).1;rw[hn]at h4;exact h4
  have h5:=condW_of h4 (w_not (w_lt w_lit (w_len_list (w_arg rfl))));rw[ax]at h5;refine M0 fun q=>?_
  have q':(n:Int) < ((ns.length:Nat):Int):=by omega
  first
   | (rw[WQ q']at h5;exact absurd h5 (by decide))
   | (simp at h5;omega)
 cases cP with
 | cons w1 w2=>
  cases w2
  cases w1 with
  | list ho gU=>exact⟨_,_,ns,rfl,rfl,ho,J9 ns _ gU,hlen⟩
theorem jcB(l:OpenLaw)(args:List WData):l.row.toRowW.claim.post args (.bool true) args=true:=
 postW_of (r:=l.row.toRowW) (X:=(true == true))
  (show UW [] (.bool true) .bool=true by first | rfl | decide | simp[UW,WShape.arms,WShape.armsAll])
  (show (WTm.eq .res (.lit (.bool true))).value [] { args:=args,res:=some (.bool true),after:=args }=some (.bool (true == true)) from w_eq_bool (w_res rfl) w_lit) rfl
theorem attach_call{l:OpenLaw}{n:Nat}{q:aF}{rD:List Str}{XP:(Str->Option ac)->aB->Prop}{YP:aE->aB->Prop}{d:DefRec}
  (hn:l.most=some n) (vk:d.params.defaults=[])
  (call:∀(w:aE) (s₀ s₁:av) (mg mb:Str->Option ac) (fa:aa) (o:Obj) (pm cd di:ac) (a:aa) (vs:List ac) (ns:List Int),
   Ground q rD [] XP w s₀ mg mb s₁.heap->YP w s₁.heap->
   s₁.heap.get? fa=some o->o.data=.func (docDef d.name d.params d.body d.scope pm cd di)->s₁.heap.CodeRec cd d.name->mg d.name=some (.ref fa)->
   s₁.heap.get? a=some { cls:=.type "list",data:=.seq vs.toArray }->AO vs ns->ns.length<=n->s₁.gens=#[]->
   eU (aA l.prog w) sP (.call (.ref fa) ⟨[.ref a],[]⟩) (fun r s'=>r=.ok (.ret (.bool true))/\OldK s₁.heap s'.heap/\s'.os=s₁.os/\m8 s'.gens) s₁) :
  WalkO q rD XP YP l.row.toRowW d [] (fun f vs=>Mb f vs):=by
 intro w s₀ s₁ mg mb G Y fa o pm cd di dV kV ho hd dz hD u0 hg args aX as xH hlay hrd cP nJ
 obtain rfl:dV=.none:=Dflts.none hD vk
 obtain rfl:kV=.none:=Dflts.noKw hD
 obtain⟨a,vs,ns,rfl,rfl,Cn,CU,hlen⟩:=jcA hn xH cP
 refine enter_call (sO (call w s₀ s₁ mg mb fa o pm cd di a vs ns G Y ho (fd_plain hd) dz u0 Cn CU hlen hg) fun r s' hq=>?_)
 obtain⟨rfl,h2,h3,h4⟩:=hq
 exact⟨.inl ⟨.bool true,.bool true,[],rfl,fun _=>rfl,.bool true,jcB l _,fun _=>⟨List.Pairwise.nil,fun _ hm=>(nomatch hm)⟩⟩,h2,h3,h4⟩
end Att
namespace L2
open PySem PySem.Spec PyProof.Rows
theorem Yu:∀{vs:List ac} {ns:List Int},AO vs ns->Vals (ns.map V.int) vs
 | _,_,.nil=>.nil
 | _,_,.cons n t h=>.cons ⟨t,rfl⟩ (Yu h)
def jgI(H:Hp):Prop:=∀b,H b=none\/∃o xs,H b=some (.frz o (.lst xs))
variable {P:aF}{w:aE}{K:aC}{mg:Str->Option ac}{a:aa}{fd:aO}{x:Str}{sp:Sp}
theorem jez{mb:Str->Option ac}{CX:CXT}{k:Nat}{fa:aa}{s₁:av}{vs:List ac}{ns:List Int}
  (KX:K.In s₁.heap) (gP:s₁.heap.Ns bU mg) (hb:s₁.heap.Ns Mc mb) (HS:∀x:Str,x≠"__name__"->mb x=dW x) (Qv:s₁.heap.NoLimit) (hg:s₁.gens=#[])
  (ha:s₁.heap.get? a=some { cls:=.type "list",data:=.seq vs.toArray }) (hi:AO vs ns) (hl:ns.length<=aP) (hr:Room k sP)
  (F:∀base:aB,K.In base->base.Ns bU mg->FnOk P w K mg base CX k fa fd [x] sp) (Ry:∀(s:av) (u:ac),wm s fd ⟨[u],[]⟩ [(x,u)])
  (gO:∀H:Hp,jgI H->SqL K H a (ns.map V.int)->sp [.ref a] H (fun v _=>v=.bl true) fun _ _ _=>False)
  (Dq:∀H e s',CX [] H s₁ (fun _ _ _=>False) e s'->False) :
  eU (aA P w) sP (.call (.ref fa) ⟨[.ref a],[]⟩) (fun r s'=>r=.ok (.ret (.bool true))/\OldK s₁.heap s'.heap/\s'.os=s₁.os/\m8 s'.gens) s₁:=by
 have rv:=Yu hi
 have OP:=hi.length
 have IM:∀H:Hp,jgI H->SqL K H a (ns.map V.int)->HOk P w H s₁.heap->(∀b,H b≠none->b=a)->(H a≠none->K.lookup a=none)->
   eU (aA P w) sP (.call (.ref fa) ⟨[.ref a],[]⟩) (fun r s'=>r=.ok (.ret (.bool true))/\OldK s₁.heap s'.heap/\s'.os=s₁.os/\m8 s'.gens) s₁:=by
  intro H hO hS hok hA hK
  have IQ:∀{b:aa} {o:Obj},s₁.heap.get? b=some o->H b=none->(ZC s₁.heap H).get? b=some o:=fun e n=>jeH e n
  have uh:∀{b:aa} {o:Obj} {es:Array DictEntry} {ep:Nat},s₁.heap.get? b=some o->o.data=.dict es ep->H b=none:=fun {b o es ep} e d=>by
   cases q:H b with
   | none=>rfl
   | some u=>
    have e':b=a:=hA b (by rw[q];simp);subst e';rw[ha]at e;cases e;have d':Data.seq vs.toArray _=Data.dict es ep:=d
    cases d'
  have wZ:∀{b:aa} {m:Str->Option ac},s₁.heap.Ns b m->(ZC s₁.heap H).Ns b m:=fun {b m} ⟨o,es,ep,e,d,r⟩=>⟨o,es,ep,IQ e (uh e d),d,r⟩
  have Ii:K.In (ZC s₁.heap H):=fun b o e=>IQ (KX b o e) (by
   cases q:H b with
   | none=>rfl
   | some u=>
    have e':b=a:=hA b (by rw[q];simp);subst e';rw[hK (by rw[q];simp)]at e;cases e)
  have hM:Mod K mg (ZC s₁.heap H):=⟨Ii,wZ gP,⟨mb,wZ hb,HS⟩,let ⟨mc,h1,h2⟩:=Qv;⟨mc,wZ h1,h2⟩⟩
  have e0:Env0 P w K mg (ZC s₁.heap H) sP [] s₁ H:=⟨rfl,hM,fun b o e=>jft e,Wd (jc2 _ _),trivial,fun b hb=>absurd (show b∈([]:List aa) from hb) (by simp),hok,.of_eq hg⟩
  refine sO ((F _ Ii (wZ gP)).run sP [] s₁ H ⟨[.ref a],[]⟩ [.ref a] [.ref a] _ _ hr e0 (Ry s₁ (.ref a)) (.cons rfl .nil) (gO H hO hS)) fun r s' h=>?_
  cases r with
  | error e=>exact (Dq H e s' h).elim
  | ok fl=>
   cases fl with
   | next=>exact fw h
   | brk=>exact fw h
   | cont=>exact fw h
   | ret u=>
    obtain⟨v,H',os,bare,un,P4,r',q⟩:=h
    have q':v=.bl true:=q
    subst q'
    obtain rfl:u=Value.bool true:=r'
    refine⟨rfl,OldK.of_keep fun b o e=>?_,os,bare⟩
    cases q:H b with
    | none=>exact un.keep b o e q (by intro z;exact absurd (show b∈([]:List aa) from z) (by simp)) (by simp)
    | some u=>
     rcases hO b with z | ⟨ob,xs,z⟩
     .rw[q]at z;cases z
     .have z2:=un.frzs b ob _ z
      obtain⟨e1,_⟩:=hok b _ z
      obtain⟨e2,_⟩:=P4 b _ z2
      rw[e]at e1;cases e1
      exact e2
 cases hk:K.lookup a with
 | some o=>
  have e:=KX a o hk
  rw[ha]at e
  cases e
  refine IM (fun _=>none) (fun _=>.inl rfl) (.inr ⟨_,vs.toArray,_,hk,rfl,rfl,rfl,by rw[cA,OP];exact hl,by simpa using rv⟩) (fun b u z=>by have z':(none:Option HO)=some u:=z;cases z') (fun b z=>absurd rfl z) fun z=>absurd rfl z
 | none=>
  refine IM (fun b=>if b=a then some (.frz { cls:=.type "list",data:=.seq vs.toArray } (.lst (ns.map V.int))) else none) (fun b=>?_) (.inl (.inr ⟨{ cls:=.type "list",data:=.seq vs.toArray },WU rfl⟩)) (fun b u z=>?_) (fun b z=>?_) fun _=>hk
  .by_cases hb:b=a
   .exact .inr ⟨_,_,WU hb⟩
   .exact .inl (WT hb)
  .by_cases hb:b=a
   .have z':=(WU hb).symm.trans z
    cases z'
    subst hb
    exact⟨ha,by rw[ax];exact hl,vs,_,rv,ha⟩
   .have z':=(WT hb).symm.trans z
    cases z'
  .by_cases hb:b=a
   .exact hb
   .exact absurd (WT hb) z
variable {n:Nat}
theorem walk_of{l:Mn}{k:Nat}{q:aF}{rD:List Str}{XP:(Str->Option ac)->aB->Prop}{YP:aE->aB->Prop}{d:DefRec}{K:Params->aC}{CX:aE->CXT}{sp:aE->Sp}
  (hn:l.most=some n) (xK:n<=aP) (vk:d.params.defaults=[]) (hr:Room k sP)
  (hY:∀(w:aE) (h:aB),YP w h->(K w.params).In h)
  (F:∀(w:aE) (mg:Str->Option ac) (fa:aa) (h:aB),(K w.params).In h->h.Ns bU mg->mg d.name=some (.ref fa)->
   ∃fd:aO,(∀(s:av) (u:ac),wm s fd ⟨[u],[]⟩ [(x,u)])/\
    ∀base:aB,(K w.params).In base->base.Ns bU mg->FnOk l.prog w (K w.params) mg base (CX w) k fa fd [x] (sp w))
  (gO:∀(w:aE) (H:Hp) (a:aa) (ns:List Int),ns.length<=n->jgI H->SqL (K w.params) H a (ns.map V.int)->sp w [.ref a] H (fun v _=>v=.bl true) fun _ _ _=>False)
  (Dq:∀(w:aE) (H:Hp) (s:av) (e:ac) (s':av),CX w [] H s (fun _ _ _=>False) e s'->False) :
  UV q rD XP YP l.row.toRowW d [] (fun f vs=>Mb f vs):=by
 refine Att.attach_call hn vk fun w s₀ s₁ mg mb fa o pm cd di a vs ns G Y ho hd dz u0 Cn CU hlen hg=>?_
 have KX:=hY w _ Y
 obtain⟨fd,hb,hF⟩:=F w mg fa _ KX G.T.g u0
 exact jez KX G.T.g G.T.b G.T.builtins G.T.nolimit hg Cn CU (aV hlen xK) hr hF hb (fun H hO hS=>gO w H a ns hlen hO hS) fun H e s'=>Dq w H s₁ e s'
def jfA(s:aJ)(j:Nat):aJ:=match s with
 | .ClassDef _ _ _ body _ _ _ _ _ _ _=>body.getD j (.Pass ⟨0,0,0,0⟩)
 | _=>.Pass ⟨0,0,0,0⟩
def zI(s:aJ):Arguments:=match s with
 | .FunctionDef _ a _ _ _ _ _ _ _ _=>a
 | _=>{ posonlyargs:=[],args:=[],vararg:=none,kwonlyargs:=[],kw_defaults:=[],kwarg:=none,defaults:=[] }
def qA(s:aJ):List aJ:=match s with
 | .FunctionDef _ _ b _ _ _ _ _ _ _=>b
 | _=>[]
def jp(s:aJ):cS:=match s with
 | .FunctionDef _ _ _ _ _ _ sc _ _ _=>sc
 | _=>{ kind:=.function,names:=[],isGenerator:=false,isCoroutine:=false }
abbrev CX0:CXT:=fun _ _ _ _ _ _=>False
abbrev E0:XK:=fun _ _ _=>False
variable {X:Cx}
theorem jfP:JY CX0 X E0:=fun _ _ _ _ _ _ _ h=>h.elim
structure Fun(K:aC)(x bA:Str)(st:aJ)(f:aa)(fd:aO):Prop where
 ex:∃(oc:ac) (od:Option aa) (kV di pm:ac) (an:Option aa) (aH ct:ac) (lh:Array (Option ac)),
  fd=mY x bA (zI st) (qA st) (jp st) .none kV di pm an aH ct/\K.lookup f=some ⟨oc,od,.func fd,lh⟩/\pV K aH bA=true
 kp:mW K (.ref f)=true
variable {bA:Str}{st:aJ}{f:aa}{ps:List Str}
section
variable {base:aB}
theorem Fun.ok{N:List Str}{k:Nat}(F:Fun K x bA st f fd)(S:FnScope N ps (jp st))(len:∀vs H Q E,sp vs H Q E->vs.length=ps.length)
  (mP:∀(aH:ac) (A:aR) (outer:List Env) (s:av) (H:Hp) (vs:List V) (Q:VK) (E:XK),Room k (A.deeper (envOfC bA (jp st) s.heap.objs.size f aH))->sp vs H Q E->
   ∃t,PSs (j7 CX0 P w K mg base N bA (jp st) f aH A outer s H E).nox (qA st) t/\t { nx:=fun _ H'=>Q .non H',rt:=Q } (yn N vs) H):FnOk P w K mg base CX0 (k+1) f fd ps sp:=by
 obtain⟨oc,od,kV,di,pm,an,aH,ct,lh,rfl,lk,dz⟩:=F.ex
 refine jeJ lk dz S len fun A outer s H vs Q E hr gO=>?_
 obtain⟨t,h,q⟩:=mP aH A outer s H vs Q E hr gO
 exact⟨t,h.nox,q⟩
theorem Fun.binds(F:Fun K x bA st f fd)
  (h:∀(kV di pm:ac) (an:Option aa) (aH ct:ac) (us:List ac),us.length=ps.length->bindArgs (mY x bA (zI st) (qA st) (jp st) .none kV di pm an aH ct) ⟨us,[]⟩=pure (ps.zip us)):Binds K fd ps []:=by
 obtain⟨oc,od,kV,di,pm,an,aH,ct,lh,rfl,lk,dz⟩:=F.ex
 exact .all (h kV di pm an aH ct)
theorem jbs{oc:ac}{od an:Option aa}{lh:Array (Option ac)}{kV di pm aH ct:ac}(l:K.lookup f=some ⟨oc,od,.func (mY x bA (zI st) (qA st) (jp st) .none kV di pm an aH ct),lh⟩)
  (c:pV K aH bA=true) (k:mW K (.ref f)=true):Fun K x bA st f (mY x bA (zI st) (qA st) (jp st) .none kV di pm an aH ct):=⟨⟨oc,od,kV,di,pm,an,aH,ct,lh,rfl,l,c⟩,k⟩
end
theorem jb4{A:aR}{k:Nat}(hr:Room k A):A.units+1 < cLine:=MZ (We (by decide:1<=64) _) hr.units
theorem jz(h:n<=1000):n < aP:=MZ h (by decide)
section
theorem pv(i:Nat){x:Str}{pos:Pos}(hN:X.N[i]?=some x:=by rfl)(hv:Vis X.env.scope x:=by first | exact Or.inl rfl | exact Or.inr (Or.inl rfl) | exact Or.inr (Or.inr rfl))(hd:(x == ("__debug__" : Str))=false:=by decide)
  (dz:(x == ("__classdict__" : Str))=false:=by decide):PE X (.Name x pos) (jfZ i):=jdV hN hv hd dz
end
variable {A B:Prop}
theorem qU(h:B):if false=true then A else B:=by
 rw[WT bY];exact h
theorem qB(h:A):if true=true then A else B:=by
 rw[WU rfl];exact h
theorem jQ{c:Prop}[Decidable c](h1:c->A)(h2:¬c->B):if c then A else B:=by
 by_cases h:c
 .rw[WU h]
  exact h1 h
 .rw[WT h]
  exact h2 h
def Same(H H':Hp):Prop:=∀b o,H b=some o->H' b=some o
theorem Same.refl(H:Hp):Same H H:=fun _ _ h=>h
variable {H:Hp}
theorem Same.trans{H1 H2:Hp}(a:Same H H1)(b:Same H1 H2):Same H H2:=fun c o h=>b c o (a c o h)
variable {H':Hp}
theorem Same.free(e:Same H H'){l:aa}(h:H' l=Option.none):H l=Option.none:=by
 cases q:H l with
 | none=>rfl
 | some o=>
  rw[e l o q]at h
  cases h
variable {xs:List V}
theorem Same.seq(e:Same H H')(h:SqL K H a xs):SqL K H' a xs:=by
 rcases h with (h | ⟨o,h⟩) | h
 .exact .inl (.inl (e _ _ h))
 .exact .inl (.inr ⟨o,e _ _ h⟩)
 .exact .inr h
variable {s:av}{scope:cS}
theorem ZN{prog:aF}{A:aR}{dh target iter:ay}{ifs:List ay}{pos:Pos}{it bp:ac}{env:Env}{R:l7->av->Prop}(I:Nat->av->Prop)
  (ii:∀n s,I n s->aw (aA prog w) A (cL it) (fun r s1=>match r with
   | none=>R (.ok .next) s1
   | some v=>aw (aA prog w) A (Az target it v) (fun _ ua=>aw (aA prog w) A (assign target env v) (fun _ s2=>
     aw (aA prog w) A (forIn ifs true fun c r=>if r=true then do let ok <- isTrue c env (eval c env);pure (ForInStep.yield ok) else pure (ForInStep.yield r)) (fun ok s3=>
      if ok=true then aw (aA prog w) A (eval dh env) (fun x s4=>
       aw (aA prog w) A (call (.builtin "list.append") [bp,x]) (fun _ s5=>∃m,m < n/\I m s5) (fun _ _=>False) s4) (fun _ _=>False) s3
      else ∃m,m < n/\I m s3) (fun _ _=>False) s2) (fun _ _=>False) ua) (fun _ _=>False) s1) (fun _ _=>False) s)
  (n:Nat) (h:I n s):eU (aA prog w) A (.compLoop (.ListComp dh [⟨target,iter,ifs,0⟩] scope pos) 0 it bp env) R s:=by
 have no:∀(x:ac) (s':av),False->notedBy (aA prog w) A env (fun e s'=>R (.error e) s') x s':=fun _ _ z=>z.elim
 refine codeAny_loop rfl I (fun n s hI=>?_) n h
 show aw _ A ((compTurn (.ListComp dh [⟨target,iter,ifs,0⟩] scope pos) 0 it bp env).onRaise (fun x=>do LU x env;theTreesLotGoes x)) _ _ s
 refine wpAny_noted ?_
 rw[compTurn_list]
 refine am (sD (am (cY (ii n s hI) (fun r s1 h1=>?_) no)))
 cases r with
 | none=>exact az h1
 | some v=>
  refine am (cY h1 (fun _ ua gr=>?_) no)
  refine am (cY gr (fun _ s2 h2=>am (cY h2 (fun ok s3 h3=>?_) no)) no)
  cases ok with
  | false=>exact az ⟨rfl,h3⟩
  | true=>
   exact am (am (cY h3 (fun x s4 h4=>am (cY h4 (fun _ s5 h5=>az (az ⟨rfl,h5⟩)) no)) no))
theorem jeL:(NameKind.free == NameKind.free)=true:=rfl
def yD(cells:List (Str×aa)):List (Str×iV)->List (Str×aa)->List (Str×aa)
 | [],bp=>bp
 | (n,k) :: r,bp=>if k == .free then yD cells r ((n,(cells.lookup n).getD 0) :: bp) else yD cells r bp
theorem jaA{env:Env}:∀(names:List (Str×iV)) (bp:List (Str×aa)),(∀x∈names,x.2=.free->(env.cells.lookup x.1).isSome=true)->
  (forIn names bp fun x (cs:List (Str×aa))=>(match x with | (name,kind)=>if (kind == NameKind.free)=true then do let c <- cellOf env name;pure (ForInStep.yield ((name,c) :: cs)) else pure (ForInStep.yield cs):Sem (ForInStep (List (Str×aa)))))=(pure (yD env.cells names bp):Sem (List (Str×aa)))
 | [],bp,_=>by simp only[oB];rfl
 | (n,k) :: r,bp,h=>by
  have ih:=fun a=>jaA (env:=env) r a fun x hx=>h x (aZ _ hx)
  rw[q_];by_cases hk:k=.free
  .subst hk
   have q:=h (n,.free) bt rfl;obtain⟨c,hc⟩:=AQ.mp q;have e:cellOf env n=pure c:=by unfold cellOf;rw[show env.cells.lookup n=some c from hc]
   simp only[beq_self_eq_true,if_true,e,pure_bind];rw[ih];show _=pure (if (NameKind.free == NameKind.free)=true then yD env.cells r ((n,(env.cells.lookup n).getD 0) :: bp) else _);rw[WU jeL,show env.cells.lookup n=some c from hc];rfl
  .have hb:(k == NameKind.free)=false:=by simpa using hk
   simp only[hb,oF,if_false,pure_bind];rw[ih];show _=pure (if (k == NameKind.free)=true then _ else yD env.cells r bp);rw[hb];rfl
theorem K8{env:Env}(h:∀x∈scope.names,x.2=.free->(env.cells.lookup x.1).isSome=true):closureFor scope env=pure (yD env.cells scope.names []):=by
 unfold closureFor;have e:=jaA (env:=env) scope.names [] h;simp only[bind_pure]at *;exact e
theorem cl_sub{cells:List (Str×aa)}:∀(names:List (Str×iV)) (bp:List (Str×aa)),(∀x∈names,x.2=.free->(cells.lookup x.1).isSome=true)->(∀x c,bp.lookup x=some c->cells.lookup x=some c)->
  ∀x c,(yD cells names bp).lookup x=some c->cells.lookup x=some c
 | [],bp,_,ha=>ha
 | (n,k) :: r,bp,h,ha=>by
  unfold yD;by_cases hk:k=.free
  .subst hk
   rw[WU jeL];refine cl_sub r _ (fun x hx=>h x (aZ _ hx)) fun x c e=>?_
   by_cases hx:x=n
   .subst hx
    rw[p_]at e;obtain⟨d,hd⟩:=AQ.mp (h (x,.free) bt rfl);have gm:cells.lookup x=some d:=hd;rw[gm]at e |-;exact e
   .rw[gD,WV.mpr hx]at e
    exact ha x c e
  .rw[WT (by simpa using hk)]
   exact cl_sub r _ (fun x hx=>h x (aZ _ hx)) ha
theorem cl_mono{cells:List (Str×aa)}:∀(names:List (Str×iV)) (bp:List (Str×aa)) (x:Str),(bp.lookup x).isSome=true->((yD cells names bp).lookup x).isSome=true
 | [],bp,_,ha=>ha
 | (n,k) :: r,bp,x,ha=>by
  unfold yD;split
  .refine cl_mono r _ x ?_
   rw[gD];split
   .rfl
   .exact ha
  .exact cl_mono r _ x ha
theorem jbu{cells:List (Str×aa)}:∀(names:List (Str×iV)) (bp:List (Str×aa)) (x:Str),(x,NameKind.free)∈names->((yD cells names bp).lookup x).isSome=true
 | [],_,_,h=>by simp at h
 | (n,k) :: r,bp,x,h=>by
  unfold yD;rcases aM.mp h with e | h
  .obtain⟨e1,e2⟩:=Prod.mk.inj e
   subst e1 e2;rw[WU jeL];refine cl_mono r _ _ ?_;rw[p_];rfl
  .split
   .exact jbu r _ x h
   .exact jbu r _ x h
theorem zB{env:Env}:∀{names:List (Str×iV)} {x:Str} {k:iV},
  (names.map fun (n,k)=>if (k == NameKind.free && env.scope.kind == .function && env.kindOf n == some .cell) then (n,NameKind.cell) else (n,k)).lookup x=some k->
   names.lookup x=some k\/(k=.cell/\names.lookup x=some .free)
 | [],_,_,h=>by simp at h
 | (n,k') :: r,x,k,h=>by
  rw[ce]at h;by_cases hx:x=n
  .subst hx
   rw[p_];by_cases hc:(k' == NameKind.free && env.scope.kind == .function && env.kindOf x == some .cell)=true
   .simp only[hc,if_true]at h
    rw[p_]at h;have hk:k'=.free:=by
     simp only[cO,beq_iff_eq]at hc;exact hc.1.1
    exact .inr ⟨(eW h).symm,by rw[hk]⟩
   .simp only[hc]at h
    rw[WT (by simp),p_]at h;exact .inl h
  .have e:(x == n)=false:=WV.mpr hx
   have h':(r.map fun (n,k)=>if (k == NameKind.free && env.scope.kind == .function && env.kindOf n == some .cell) then (n,NameKind.cell) else (n,k)).lookup x=some k:=by
    by_cases hc:(k' == NameKind.free && env.scope.kind == .function && env.kindOf n == some .cell)=true
    .simp only[hc,if_true]at h
     rw[gD,e]at h;exact h
    .simp only[hc]at h
     rw[WT (by simp),gD,e]at h;exact h
   have ih:=@zB env r x k h';rw[gD,e];exact ih
theorem Jr{env:Env}:∀{names:List (Str×iV)} {x:Str},names.lookup x=some .free->
  (names.map fun (n,k)=>if (k == NameKind.free && env.scope.kind == .function && env.kindOf n == some .cell) then (n,NameKind.cell) else (n,k)).lookup x=some .cell\/
  (names.map fun (n,k)=>if (k == NameKind.free && env.scope.kind == .function && env.kindOf n == some .cell) then (n,NameKind.cell) else (n,k)).lookup x=some .free
 | [],_,h=>by simp at h
 | (n,k') :: r,x,h=>by
  rw[ce];by_cases hx:x=n
  .subst hx
   rw[p_]at h
   cases h
   by_cases hc:(NameKind.free == NameKind.free && env.scope.kind == .function && env.kindOf x == some .cell)=true
   .simp only[hc,if_true]
    exact .inl p_
   .simp only[hc]
    rw[WT (by simp)];exact .inr p_
  .have e:(x == n)=false:=WV.mpr hx
   rw[gD,e]at h;have ih:=@Jr env r x h;by_cases hc:(k' == NameKind.free && env.scope.kind == .function && env.kindOf n == some .cell)=true
   .simp only[hc,if_true]
    rw[gD,e];exact ih
   .simp only[hc]
    rw[WT (by simp),gD,e];exact ih
def blk(X:Cx)(scope:cS)(own:List Str)(fr:List Nat)(s:av)(H:Hp)(ex:List aa):Cx where
 prog:=X.prog
 w:=X.w
 K:=X.K
 mg:=X.mg
 base:=X.base
 A:=X.A
 N:=own++fr.map fun j=>X.N.getD j (bu "")
 s₀:=s
 H₀:=H
 env:=compEnvC scope (yD X.env.cells scope.names []) s.heap.objs.size X.env
 outer:=X.stack
 stack:=X.stack
 ex:=ex
 fn:=fun _=>false
 calm:=X.calm
 pn:=[]
 xe:=fun _ _=>False
def jdb(own:List Str)(fr:List Nat)(σ:St):St:=own.map (fun _=>none)++fr.map fun j=>(σ[j]?).join
structure CompOk(X:Cx)(scope:cS)(fr:List Nat):Prop where
 kind:scope.kind=.function
 nocell:∀y∈scope.names,y.2≠.cell
 loc:∀y∈scope.names,y.2=.local->scope.names.lookup y.1=some .local
 frees:∀y∈scope.names,y.2=.free->X.env.scope.names.lookup y.1=some .cell\/X.env.scope.names.lookup y.1=some .free
 fr:∀j∈fr,scope.names.lookup (X.N.getD j (bu ""))=some .free
theorem jb1{own:List Str}{fr:List Nat}{ah:List (aa×Obj)}{σ:St}{ex:List aa}{h1:aB}{t1:Nat}(I:Inv X ah σ H s)(O:CompOk X scope fr)
  (hex:∀b∈ex,Kc X ah H b/\b < s.heap.objs.size) (gP:h1.Ns s.heap.objs.size fun _=>none) (hk:∀b o,s.heap.get? b=some o->h1.get? b=some o) :
  Inv (blk X scope own fr s H ex) [] (jdb own fr σ) H { s with heap:=h1,toks:=t1 }:=by
 have uN:∀x∈scope.names,x.2=.free->(X.env.cells.lookup x.1).isSome=true:=fun x hx e=>by
  obtain⟨c,hc⟩:=I.ok.has x.1 (O.frees x hx e);rw[hc];rfl
 have sub:∀x c,(yD X.env.cells scope.names []).lookup x=some c->X.env.cells.lookup x=some c:=cl_sub scope.names [] uN fun x c e=>by simp at e
 have Da:∀x,scope.names.lookup x=some .free->∃c,(yD X.env.cells scope.names []).lookup x=some c:=fun x e=>AQ.mp (jbu scope.names [] x (pQ e))
 have hcne:∀x c,X.env.cells.lookup x=some c->c < s.heap.objs.size:=fun x c e=>by
  obtain⟨v,q⟩:=I.cell x c e;exact q.lt
 have hN:σ.length=X.N.length:=I.len
 refine⟨⟨I.ok.mod,O.kind,I.ok.glob,I.ok.blt,aL _,fun x y c e1 e2=>I.ok.inj x y c (sub x c e1) (sub y c e2),fun x hx=>?_,fun x c z=>absurd z (by simp[blk]),I.ok.hd,I.ok.frames,.inl rfl,fun b hb=>⟨bv (hex b hb).2,fun x c e=>(hex b hb).1.2.2.2.2.1 x c (sub x c e)⟩,
  fun b o e=>I.bs b o e,aV I.ok.bsz I.sz,fun b o e hb=>?_,fun b hb z=>?_,I.stack,I.stkFree⟩,
  rfl,I.bare,Un.kept hk,⟨_,gP,fun i x v e1 e2 e3=>?_⟩,fun x c e=>?_,I.fresh,fun x c e=>I.freeC x c (sub x c e),fun p hp=>absurd hp (by simp[blk]),I.hok.kept hk,?_⟩
 .have bq:(relabel scope X.env).names.lookup x=some .cell\/(relabel scope X.env).names.lookup x=some .free:=hx
  rcases bq with hx | hx
  .rcases zB hx with q | ⟨_,q⟩
   .exact absurd rfl (O.nocell _ (pQ q))
   .exact Da x q
  .rcases zB hx with q | ⟨q,_⟩
   .exact Da x q
   .cases q
 .rcases (hex b hb).1.2.2.2.1 with z | z
  .exact I.ok.noex b o e z
  .exact absurd (cz (aS e) (aV I.ok.bsz z)) (iX _)
 .obtain⟨_,f1,f2,_⟩:=(hex b hb).1
  rcases aM.mp (I.stkSub b z) with q | q
  .exact f1 q
  .exact f2 q
 .have vM:(own++fr.map fun j=>X.N.getD j (bu ""))[i]?=some x:=e1
  unfold jdb at e2
  have hi:own.length<=i:=by
   by_cases h:own.length<=i
   .exact h
   .rw[Wz (by simpa using Nat.lt_of_not_le h),bF]at e2
    cases q:own[i]? with
    | none=>rw[q]at e2;cases e2
    | some z=>rw[q]at e2;cases e2
  rw[M_ hi,bF]at vM
  rw[M_ (by simpa using hi),bF,ax]at e2
  cases q:fr[i - own.length]? with
  | none=>rw[q]at e2;cases e2
  | some j=>
   rw[q]at vM e2
   have IJ:X.N.getD j (bu "")=x:=eW vM
   have lM:(σ[j]?).join=some v:=eW e2
   have II:σ[j]?=some (some v):=by
    cases z:σ[j]? with
    | none=>rw[z]at lM;cases lM
    | some y=>rw[z]at lM;rw[<- lM];rfl
   have hj:j < X.N.length:=by rw[<- hN];exact (bN.mp II).1
   have nX:X.N[j]?=some x:=by
    rw[aI hj,<- IJ,WA,aI hj];rfl
   have hf:=O.fr j (Wo q)
   rw[IJ]at hf
   have hv:=O.frees _ (pQ hf) rfl
   obtain⟨m,_,hl⟩:=I.loc
   obtain⟨u,ru,lk⟩:=hl j x v nX II (.inr hv)
   refine⟨u,ru,.inr ⟨?_,?_⟩⟩
   .exact Jr hf
   .obtain⟨c,hc⟩:=Da x hf
    refine⟨c,hc,?_⟩
    rcases lk with⟨k,_⟩ | ⟨_,c',aU,z⟩
    .have k':X.env.scope.names.lookup x=some .local:=k
     rcases hv with hv | hv <;> · rw[k']at hv;cases hv
    .have:=sub x c hc
     rw[aU]at this
     cases this
     obtain⟨o,ho,hd⟩:=z
     exact⟨o,hk _ _ ho,hd⟩
 .obtain⟨v,o,ho,hd⟩:=I.cell x c (sub x c e)
  exact⟨v,o,hk _ _ ho,hd⟩
 .show (jdb own fr σ).length=(own++fr.map fun j=>X.N.getD j (bu "")).length
  unfold jdb
  rw[aG,aG,ax,ax,ax]
theorem JF{own:List Str}{fr:List Nat}{ah:List (aa×Obj)}{σ σ':St}{s':av}{ex:List aa}(I:Inv X ah σ H s)(hex:∀b∈ex,Kc X ah H b/\b < s.heap.objs.size)
  (J:Inv (blk X scope own fr s H ex) [] σ' H' s') {h':aB} (hs:dj s.heap.objs.size s'.heap h'):Inv X ah σ H' { s' with heap:=h' }:=by
 have hC:H' s.heap.objs.size=none:=J.free
 have u:Un (frs X.stack) ex H H' s.heap s'.heap:=J.base
 have ne:∀b o,s.heap.get? b=some o->b≠s.heap.objs.size:=fun b o e=>bv (aS e)
 have dr:∀b o,b≠s.heap.objs.size->s'.heap.get? b=some o->h'.get? b=some o:=fun b o hb e=>(hs.2 b hb).trans e
 refine I.call' (ch:=ex) J.os ⟨fun b o e n hb hx=>?_,fun b o e n hb hx=>?_,u.free,fun b o e hx=>?_,u.tups,u.frzs,u.tbls,fun b o xs q e hb hx=>dr b o (ne b o e) (u.stay b o xs q e hb hx)⟩ (fun b o e=>?_) J.bare fun b hb=>?_
 .exact dr b o (ne b o e) (u.keep b o e n hb hx)
 .obtain⟨sl,q⟩:=u.slot b o e n hb hx
  exact⟨sl,dr b _ (ne b o e) q⟩
 .obtain⟨o',q⟩:=u.there b o e hx
  exact⟨o',dr b _ (ne b o e) q⟩
 .refine (J.hok b o e).stay (fun c v hc q=>dr c v ?_ q) (fun _ q=>q) fun _ _ q=>q
  rintro z
  rcases hc with y | y
  .rw[y]at z;rw[z,hC]at e;cases e
  .rw[z,hC]at y;cases y
 .obtain⟨f0,f1,f2,f3,f4,f5⟩:=(hex b hb).1
  exact⟨f3,f1,f4,f5⟩
def PTs(X:Cx)(ifs:List ay)(t:TT):Prop:=
 ∀(ah:List (aa×Obj)) (s:av) (σ:St) (H:Hp) (Q:Bool->Hp->Prop),Inv X ah σ H s->t σ H Q->
  aw (aA X.prog X.w) X.A (forIn ifs true fun c r=>if r=true then do let ok <- isTrue c X.env (eval c X.env);pure (ForInStep.yield ok) else pure (ForInStep.yield r)) (TP X ah σ Q) X.xe s
def yP:TT:=fun _ H Q=>Q true H
def Yf(J:It)(p:aa)(g:TG)(tt:TT)(te:TE)(Q:VK)(σ:St)(H:Hp):Prop:=∃W:Nat->Nat->St->Hp->Prop,(∃m,W 0 m σ H)/\
 ∀i m σ' H',W i m σ' H'->(J.stop i H'/\Q (.ref p) H')\/(J.go i H'/\∃N:St->Hp->Prop,(∀σ3 H3,N σ3 H3->∃m',m' < m/\W (i+1) m' σ3 H3)/\∀x H2,J.yld i H' x H2->g x σ' H2 fun σ3 H3=>tt σ3 H3 fun c H4=>
  if c=true then te σ3 H4 fun y H5=>∃ys,H5 p=some (.lst ys)/\ys.length < aP/\N σ3 (upd H5 p (.lst (ys++[y]))) else N σ3 H4)
def Z6(own:List Str)(fr:List Nat)(wi:TI)(g:TG)(tt:TT)(te:TE):TE:=fun σ H Q=>wi σ H fun J H1=>∀p,H1 p=none->Yf J p g tt te Q (jdb own fr σ) (upd H1 p (.lst []))
theorem YX{own:List Str}{fr:List Nat}{dh tg iter:ay}{ifs:List ay}{pos:Pos}{wi:TI}{g:TG}{tt:TT}{te:TE}{use:Option (ac->Sem Unit)}(hc:X.calm=true)(O:CompOk X scope fr)(hi:PI X tg iter wi)
  (hb:∀s H ex,PG (blk X scope own fr s H ex) tg g/\PTs (blk X scope own fr s H ex) ifs tt/\PE (blk X scope own fr s H ex) dh te)
  (hs:∀x,oj iter X.env x=pure x) {ah:List (aa×Obj)} {s:av} {σ:St} {H:Hp} {Q:VK} {R:ac->av->Prop} (I:Inv X ah σ H s) (h:Z6 own fr wi g tt te σ H Q) (hx:∀e s',X.xe e s'↔False)
  (bE:∀(p C:aa) (H':Hp) (s':av) (m:Str->Option ac),s'.heap.Ns C m->H' C=none->C≠X.env.locals->(∀x c,X.env.cells.lookup x=some c->c≠C)->X.s₀.heap.objs.size<=C->(∀p∈X.pn++ah,p.1≠C)->Inv X ah σ H' s'->(∀h',dj C s'.heap h'->Inv X ah σ H' { s' with heap:=h' })->Q (.ref p) H'->
   Eo (aA X.prog X.w) X.A X.xe use R (.ref p) C (.ok .next) s') :
  aw (aA X.prog X.w) X.A (comprehension (.ListComp dh [⟨tg,iter,ifs,0⟩] scope pos) scope X.env (L4 [⟨tg,iter,ifs,0⟩] pos) (newList []) false (eval iter X.env) use) R X.xe s:=by
 have uN:∀x∈scope.names,x.2=.free->(X.env.cells.lookup x.1).isSome=true:=fun x bq e=>by
  obtain⟨c,hc⟩:=I.ok.has x.1 (O.frees x bq e);rw[hc];rfl
 have no:∀(E:ac->av->Prop) (x:ac) (s':av),X.xe x s'->E x s':=fun E x s' z=>((hx x s').mp z).elim
 refine TD (cl:=yD X.env.cells scope.names []) rfl hs (K8 uN) O.kind O.loc ?_
 refine thn (hi ah s σ H _ I h) fun v s1 h1=>thn h1 fun xu s2 h2=>?_
 obtain⟨it,fp,tn,J,H2,e,I2,T,oM,f2,q2⟩:=h2
 subst e
 refine fi ?_
 have nw:H2 s2.heap.objs.size=none:=I2.fresh
 obtain⟨W,⟨m0,w0⟩,ii⟩:=q2 _ nw
 generalize hp:s2.heap.objs.size=p at *
 have I3:Inv X ah σ (upd H2 p (.lst [])) { s2 with heap:=s2.heap.push { cls:=.type "list",dict:=none,data:=.seq ([]:List ac).toArray } }:=by
  have:=I2.lnew (ys:=[]) (its:=[]) (t':=s2.toks) .nil (cy _);rw[hp]at this;exact this
 have ux:∀b∈fp,b < s2.heap.objs.size:=fun b hb=>by
  obtain⟨o,ho,_⟩:=T.obj _ _ oM b hb;exact aS ho
 have vF:∀b∈fp,(upd H2 p (.lst [])) b=none:=fun b hb=>by
  rw[jw (by rw[<- hp];exact bv (ux b hb))];exact (f2 b hb).1
 generalize hs3:({ s2 with heap:=s2.heap.push { cls:=.type "list",dict:=none,data:=.seq ([]:List ac).toArray } }:av)=s3 at *
 have Ba:s3.heap.objs.size=p+1:=by
  rw[<- hs3];show (s2.heap.push _).objs.size=_;rw[fZ,hp]
 have mj:tn 0 s3.heap:=T.keep 0 _ _ oM fun b hb o e=>by
  rw[<- hs3];exact bo _ e
 refine Ty O.nocell (by intro y hy;simp at hy) (fun h4 uW Ca=>?_) O.kind
 have k4:∀b o,s3.heap.get? b=some o->h4.get? b=some o:=fun b o e=>Ca.extBut b o (bv (aS e)) (bo _ e)
 have Cr:h4.Ns s3.heap.objs.size fun _=>none:=by
  have z:(fun x:Str=>([]:List (Str×ac)).reverse.lookup x)=fun _=>none:=by funext x;rfl
  rw[z]at uW;exact uW
 have fo:∀b∈fp,Kc X ah (upd H2 p (.lst [])) b/\b < s3.heap.objs.size:=fun b hb=>⟨⟨vF b hb,(f2 b hb).2⟩,by rw[Ba,<- hp];exact MY (ux b hb)⟩
 have I4:=jb1 (own:=own) (fr:=fr) (t1:=s3.toks+([]:List (Str×ac)).length) I3 O fo Cr k4
 have oK:tn 0 h4:=T.keep 0 _ _ mj fun b hb o e=>k4 b o e
 obtain⟨hg,ht,he⟩:=hb s3 (upd H2 p (.lst [])) fp
 have il:∀{H':Hp} {pn:List (aa×Obj)} {s':av} {σ':St},Inv (blk X scope own fr s3 (upd H2 p (.lst [])) fp) [] σ' H' s'->(∀b∈fp,H' b=none)->∀b∈fp,Kc (blk X scope own fr s3 (upd H2 p (.lst [])) fp) [] H' b:=fun {H' pn s' σ'} J hn b bQ=>
  ⟨hn b bQ,(J.ok.exf b bQ).1,J.ok.exfs b bQ,.inl bQ,(J.ok.exf b bQ).2,fun p hp=>absurd hp (by simp[blk])⟩
 have Bw:∀x c,X.env.cells.lookup x=some c->c≠s3.heap.objs.size:=fun x c e=>by
  obtain⟨v,q⟩:=I3.cell x c e;exact bv q.lt
 have loop:∀s5:av,s5={ s3 with heap:=h4,toks:=s3.toks+([]:List (Str×ac)).length }->
   eU (aA X.prog X.w) X.A (.compLoop (.ListComp dh [⟨tg,iter,ifs,0⟩] scope pos) 0 (.ref it) (.ref p) (blk X scope own fr s3 (upd H2 p (.lst [])) fp).env) (Eo (aA X.prog X.w) X.A X.xe use R (.ref p) s3.heap.objs.size) s5:=by
  rintro s5 rfl
  refine ZN (fun n s'=>∃i σ' H',Inv (blk X scope own fr s3 (upd H2 p (.lst [])) fp) [] σ' H' s'/\tn i s'.heap/\(∀b∈fp,H' b=none)/\W i n σ' H') ?_ m0 ⟨0,_,_,I4,oK,vF,w0⟩
  rintro n s6 ⟨i,σ6,H6,I6,tV,vE,w6⟩
  rcases ii i n σ6 H6 w6 with⟨stop,qn⟩ | ⟨go,N,hN,step⟩
  .refine thn (T.done (blk X scope own fr s3 (upd H2 p (.lst [])) fp) rfl rfl rfl hc i [] s6 σ6 H6 _ I6 (il (pn:=[]) I6 vE) tV stop) fun r s7 ⟨hr,I7⟩=>?_
   subst hr
   obtain⟨m,hm,_⟩:=I7.loc
   exact bE p _ H6 s7 m hm I7.free (m9 I3.lt) Bw I3.sz (fun p hp=>bv (aS (I3.pin p hp).1)) (JF I3 fo I7 (pY ..)) (fun h' eL=>JF I3 fo I7 eL) qn
  .refine thn (T.item (blk X scope own fr s3 (upd H2 p (.lst [])) fp) rfl rfl rfl hc i [] s6 σ6 H6 _ I6 (il (pn:=[]) I6 vE) tV go) fun r s7 ⟨u,hr,h7⟩=>?_
   subst hr
   refine thn h7 fun _ s8 hM=>?_
   obtain⟨x,H8,I8,r8,y8,oJ,Dt⟩:=hM
   have DZ:=I8.pinned (il (pn:=[]) I8 Dt) (T.obj _ _ oJ)
   refine thn (hg _ s8 σ6 H8 x u _ DZ r8 (step x H8 y8)) fun _ s9 hM=>?_
   obtain⟨σ9,H9,I9,q9⟩:=hM
   refine thn (ht _ s9 σ9 H9 _ I9 q9) fun ok dZ hM=>?_
   obtain⟨dP,vU,mq⟩:=hM
   have again:∀{cq:Hp} {dY:av},Inv (blk X scope own fr s3 (upd H2 p (.lst [])) fp) ([]++Jc fp s8.heap) σ9 cq dY->(∃m',m' < n/\W (i+1) m' σ9 cq)->
     ∃m,m < n/\∃i σ' H',Inv (blk X scope own fr s3 (upd H2 p (.lst [])) fp) [] σ' H' dY/\tn i dY.heap/\(∀b∈fp,H' b=none)/\W i m σ' H':=fun {cq dY} iR ⟨m',hm,A6⟩=>by
    refine⟨m',hm,i+1,σ9,cq,iR.unpinned,T.keep _ _ _ oJ fun b bQ o e=>(iR.pin (b,o) (fq _ (fq _ (qT bQ e)))).1,fun b bQ=>?_,A6⟩
    obtain⟨o,e,d⟩:=T.obj _ _ oJ b bQ
    exact (iR.pin (b,o) (fq _ (fq _ (qT bQ e)))).2.1
   cases ok with
   | false=>
    rw[WT bY]at mq |-
    exact again vU (hN _ _ mq)
   | true=>
    rw[WU rfl]at mq |-
    refine thn (he _ dZ σ9 dP _ vU mq) fun yv dY hM=>?_
    obtain⟨y,cq,iR,uc,ys,mD,hlen,Br⟩:=hM
    have ap:=kK (X:=blk X scope own fr s3 (upd H2 p (.lst [])) fp) ([]++Jc fp s8.heap) dY σ9 cq (.ref p) [y] (.ref p) [yv] (fun _ hU=>∃m',m' < n/\W (i+1) m' σ9 hU) iR rfl (.cons uc .nil) ⟨p,ys,y,rfl,rfl,mD,hlen,hN _ _ Br⟩
    exact thn ap fun _ aQ ⟨_,hU,An,_,Bq⟩=>again An Bq
 refine codeAny_compStart_list (loop _ rfl) (T.self X.A 0 _ _ _ oK (loop _ rfl))
theorem jfg{X:Cx}{scope:cS}{dh tg iter:ay}{ifs:List ay}{pos:Pos}{wi:TI}{g:TG}{tt:TT}{te:TE}(own:List Str)(fr:List Nat)(hc:X.calm=true)(O:CompOk X scope fr)(hi:PI X.nox tg iter wi)
  (hb:∀s H ex,PG (blk X.nox scope own fr s H ex) tg g/\PTs (blk X.nox scope own fr s H ex) ifs tt/\PE (blk X.nox scope own fr s H ex) dh te)
  (hs:∀x,oj iter X.env x=pure x:=by intro _;rfl):PE X.nox (.ListComp dh [⟨tg,iter,ifs,0⟩] scope pos) (Z6 own fr wi g tt te):=by
 intro ah s σ H Q I h
 rw[eval_ListComp]
 refine YX (X:=X.nox) (use:=none) (Q:=Q) hc ⟨O.kind,O.nocell,O.loc,O.frees,O.fr⟩ hi hb hs I h (fun _ _=>Iff.rfl) fun p C H' s' m hm hC _ _ _ _ I' back q=>?_
 exact⟨m,hm,fun h' eL=>⟨.ref p,H',back h' eL,rfl,q⟩⟩
section
variable {p:aa}{g:TG}{tt:TT}{te:TE}{σ:St}{Q:VK}
theorem ZM(J:It)(n:Nat)(Pv:Nat->St->Hp->Prop)(h0:Pv 0 σ H)(stop:∀σ' H',Pv n σ' H'->J.stop n H')(go:∀i σ' H',i < n->Pv i σ' H'->J.go i H')
  (hs:∀i σ' H',i < n->Pv i σ' H'->∀x H2,J.yld i H' x H2->g x σ' H2 fun σ3 H3=>tt σ3 H3 fun c H4=>if c=true then te σ3 H4 fun y H5=>∃ys,H5 p=some (.lst ys)/\ys.length < aP/\Pv (i+1) σ3 (upd H5 p (.lst (ys++[y]))) else Pv (i+1) σ3 H4)
  (hd:∀σ' H',Pv n σ' H'->Q (.ref p) H'):Yf J p g tt te Q σ H:=by
 refine⟨fun i m σ H=>m=n - i/\i<=n/\Pv i σ H,⟨n,by simp,cy _,h0⟩,?_⟩
 rintro i m σ1 H1 ⟨rfl,hi,pv⟩
 by_cases bz:i < n
 .exact .inr ⟨go i σ1 H1 bz pv,Pv (i+1),fun σ3 H3 q=>⟨n - (i+1),by omega,rfl,bz,q⟩,hs i σ1 H1 bz pv⟩
 .have e:i=n:=by omega
  subst e
  exact .inl ⟨stop σ1 H1 pv,hd σ1 H1 pv⟩
theorem K7{lo:Int}(Pv:Nat->St->Hp->Prop)(h0:Pv 0 σ H)
  (hs:∀i σ' H',i < n->Pv i σ' H'->g (.int (lo+i)) σ' H' fun σ3 H3=>tt σ3 H3 fun c H4=>if c=true then te σ3 H4 fun y H5=>∃ys,H5 p=some (.lst ys)/\ys.length < aP/\Pv (i+1) σ3 (upd H5 p (.lst (ys++[y]))) else Pv (i+1) σ3 H4)
  (hd:∀σ' H',Pv n σ' H'->Q (.ref p) H'):Yf (Itr lo n) p g tt te Q σ H:=
 ZM (Itr lo n) n Pv h0 (fun _ _ _=>aL _) (fun i _ _ h _=>h) (fun i σ' H' h pv x H2 y=>by
  obtain⟨e1,e2⟩:=y;subst e1 e2;exact hs i σ' _ h pv) hd
theorem zc(Pv:Nat->St->Hp->Prop)(h0:Pv 0 σ H)(hl:∀i σ' H',i<=xs.length->Pv i σ' H'->SqT K H' a xs)
  (hs:∀i x σ' H',xs[i]?=some x->Pv i σ' H'->g x σ' H' fun σ3 H3=>tt σ3 H3 fun c H4=>if c=true then te σ3 H4 fun y H5=>∃ys,H5 p=some (.lst ys)/\ys.length < aP/\Pv (i+1) σ3 (upd H5 p (.lst (ys++[y]))) else Pv (i+1) σ3 H4)
  (hd:∀σ' H',Pv xs.length σ' H'->Q (.ref p) H'):Yf (Itt K a) p g tt te Q σ H:=
 ZM (Itt K a) xs.length Pv h0 (fun σ' H' pv=>⟨xs,hl _ σ' H' (aL _) pv,aL _⟩) (fun i σ' H' h pv=>⟨xs,xs[i],hl i σ' H' (cu h) pv,by simp[h]⟩) (fun i σ' H' h pv x H2 y=>by
  obtain⟨e1,e2⟩:=y;subst e1;exact hs i x σ' _ (e2 xs (hl i σ' _ (cu h) pv)) pv) hd
theorem qF(Pv:Nat->St->Hp->Prop)(h0:Pv 0 σ H)(hl:∀i σ' H',i<=xs.length->Pv i σ' H'->SqL K H' a xs)
  (hs:∀i x σ' H',xs[i]?=some x->Pv i σ' H'->g x σ' H' fun σ3 H3=>tt σ3 H3 fun c H4=>if c=true then te σ3 H4 fun y H5=>∃ys,H5 p=some (.lst ys)/\ys.length < aP/\Pv (i+1) σ3 (upd H5 p (.lst (ys++[y]))) else Pv (i+1) σ3 H4)
  (hd:∀σ' H',Pv xs.length σ' H'->Q (.ref p) H'):Yf (Itl K a) p g tt te Q σ H:=
 ZM (Itl K a) xs.length Pv h0 (fun σ' H' pv=>⟨xs,hl _ σ' H' (aL _) pv,aL _⟩) (fun i σ' H' h pv=>⟨xs,xs[i],hl i σ' H' (cu h) pv,by simp[h]⟩) (fun i σ' H' h pv x H2 y=>by
  obtain⟨e1,e2⟩:=y;subst e1;exact hs i x σ' _ (e2 xs (hl i σ' _ (cu h) pv)) pv) hd
end
inductive D where
 | int (i:Int) | str (x:Str) | tup (ds:List D)
mutual
def Held(H:Hp):D->V->Prop
 | .int i,v=>v=.int i
 | .str x,v=>v=.str x
 | .tup ds,v=>∃a xs,v=.ref a/\H a=some (.tup xs)/\HeldL H ds xs
def HeldL(H:Hp):List D->List V->Prop
 | [],vs=>vs=[]
 | d :: ds,vs=>∃v r,vs=v :: r/\Held H d v/\HeldL H ds r
end
mutual
theorem Held.mono{H H':Hp}(e:Same H H'):∀{d:D} {v:V},Held H d v->Held H' d v
 | .int i,v,h=>by unfold Held at h |-;exact h
 | .str x,v,h=>by unfold Held at h |-;exact h
 | .tup ds,v,h=>by
  unfold Held at h |-;obtain⟨a,xs,e1,e2,e3⟩:=h;exact⟨a,xs,e1,e a _ e2,HeldL.mono e e3⟩
theorem HeldL.mono{H H':Hp}(e:Same H H'):∀{ds:List D} {vs:List V},HeldL H ds vs->HeldL H' ds vs
 | [],vs,h=>by unfold HeldL at h |-;exact h
 | d :: ds,vs,h=>by
  unfold HeldL at h |-;obtain⟨v,r,e1,e2,e3⟩:=h;exact⟨v,r,e1,Held.mono e e2,HeldL.mono e e3⟩
end
theorem jX{i:Int}:Held H (.int i) (.int i):=by unfold Held;rfl
theorem jl:Held H (.str x) (.str x):=by unfold Held;rfl
theorem Jx{ds:List D}(e:H a=some (.tup xs))(h:HeldL H ds xs):Held H (.tup ds) (.ref a):=by unfold Held;exact⟨a,xs,rfl,e,h⟩
theorem jj:HeldL H [] []:=by unfold HeldL;rfl
theorem jb{d:D}{ds:List D}{v:V}{r:List V}(h:Held H d v)(t:HeldL H ds r):HeldL H (d :: ds) (v :: r):=by unfold HeldL;exact⟨v,r,rfl,h,t⟩
theorem HeldL.length{H:Hp}:∀{ds:List D} {vs:List V},HeldL H ds vs->ds.length=vs.length
 | [],vs,h=>by unfold HeldL at h;subst h;rfl
 | d :: ds,vs,h=>by
  unfold HeldL at h;obtain⟨v,r,e1,_,e3⟩:=h;subst e1;rw[bR,bR,HeldL.length e3]
theorem HeldL.get{H:Hp}:∀{ds:List D} {vs:List V} {j:Nat} {d:D},HeldL H ds vs->ds[j]?=some d->∃v,vs[j]?=some v/\Held H d v
 | [],_,_,_,_,e=>by simp at e
 | d :: ds,vs,0,d',h,e=>by
  unfold HeldL at h;obtain⟨v,r,e1,e2,e3⟩:=h;simp at e;subst e e1;exact⟨v,rfl,e2⟩
 | d :: ds,vs,j+1,d',h,e=>by
  unfold HeldL at h;obtain⟨v,r,e1,e2,e3⟩:=h;subst e1;obtain⟨w,h1,h2⟩:=HeldL.get (j:=j) (d:=d') e3 (by simpa using e);exact⟨w,by simpa using h1,h2⟩
mutual
def D.depth:D->Nat
 | .int _=>0
 | .str _=>0
 | .tup ds=>D.depthL ds+1
def D.depthL:List D->Nat
 | []=>0
 | d :: ds=>max (D.depth d) (D.depthL ds)
end
theorem jM:OpR X (fj .FloorDiv) (rI (fun _ j=>0 < j/\j < 2 ^ 200) fun i j=>.int (i / j)):=opI fun i j _ _ _ _ _ hc q=>by
 refine floordiv_int (by omega) ?_ (.inl (PyProof.noPylong_of_log2 ?_))
 .rw[Int.fdiv_eq_ediv_of_nonneg _ (by omega)]
  exact q
 .have h0:j.natAbs≠0:=by omega
  exact ow ((Nat.log2_lt h0).mpr (show j.natAbs < 2 ^ 200 by omega)) (by decide)
theorem jaO:zg X (.builtin "isinstance") (fun xs H Q=>∃x t T b,xs=[x,.ty T]/\TyOf X.K H x t/\iU X.K t (.type T)=some b/\Q (.bl b) H):=by
 intro ah s σ H xs us Q I r h;obtain⟨x,t,T,b,rfl,ty,e,q⟩:=h;obtain⟨u,v,rfl,ru,rv⟩:=jbI r
 cases rv
 exact jcZ I ru ty e fun tk=>⟨.bl b,H,I.tok _,rfl,q⟩
theorem jgo(K:aC):iU K (.type "tuple") (.type "tuple")=some true:=rfl
theorem jgq(K:aC):iU K (.type "int") (.type "tuple")=some false:=rfl
theorem jgp(K:aC):iU K (.type "str") (.type "tuple")=some false:=rfl
def qb:ay->Bool
 | .Starred _ _=>false
 | _=>true
theorem qo{e:ay}(h:qb e=true)(qP:List ay)(env:Env):cr (e :: qP) env=(false,eval e env) :: cr qP env:=by
 cases e <;> first | rfl | cases h
theorem zL(pos:Pos)(env:Env):∀es:List ay,es.all qb=true->(hZ pos (cr es env)).any (·.1)=false
 | [],_=>rfl
 | e :: es,h=>by
  rw[md,cO]at h;rw[qo h.1];have ih:=zL pos env es h.2;show (false || (hZ pos (cr es env)).any (·.1))=false;rw[ih];rfl
theorem jhb{X:Cx}{e:ay}{es:List ay}{te:TE}{t:TA}(ha:PE X e te)(hr:PA X es t)(hp:qb e=true:=by rfl):PA X (e :: es) (jdD te t):=jfh ha hr (qo hp es X.env)
structure Fn(P:aF)(w:aE)(K:aC)(mg:Str->Option ac)(base:aB)(k:Nat)(x:Str)(ps:List Str)(sp:Sp):Prop where
 ex:∃f fd,FnOk P w K mg base CX0 k f fd ps sp/\Binds K fd ps []/\mW K (.ref f)=true/\mg x=some (.ref f)
theorem jfO{X:Cx}{k k':Nat}{x:Str}{ps:List Str}{sp:Sp}{e:ay}{es:List ay}{t:TA}{p pos:Pos}(F:Fn X.prog X.w X.K X.mg X.base k x ps sp)(hr:Room k' X.A)(ha:PA X (e :: es) t)(hk:k<=k':=by decide)(hg:Gl X x:=by rfl)
  (hd:(x == ("__debug__" : Str))=false:=by decide) (hp:(e :: es).all qb=true:=by rfl):PE X (.Call (.Name x p) (e :: es) [] pos) (Z7 sp [] E0 t):=by
 obtain⟨f,fd,G,b,kp,m⟩:=F.ex
 rw[md,cO]at hp
 exact jbR G (hr.mono hk) hg m kp b .nil jfP ha hd (qo hp.1 es X.env) (zL pos X.env es hp.2)
theorem Fn.mk'{base:aB}{k:Nat}(F:Fun K x x st f fd)(b:Binds K fd ps [])(m:mg x=some (.ref f))(G:FnOk P w K mg base CX0 k f fd ps sp):Fn P w K mg base k x ps sp:=⟨f,fd,G,b,F.kp,m⟩
theorem ku{fr:List Nat}{sc:cS}{N:List Str}(h1:X.env.scope=sc)(h2:X.N=N) (h:scope.kind=.function/\(∀y∈scope.names,y.2≠.cell)/\(∀y∈scope.names,y.2=.local->scope.names.lookup y.1=some .local)/\
  (∀y∈scope.names,y.2=.free->sc.names.lookup y.1=some .cell\/sc.names.lookup y.1=some .free)/\∀j∈fr,scope.names.lookup (N.getD j (bu ""))=some .free):CompOk X scope fr:=by
 obtain⟨a,b,c,d,e⟩:=h
 exact⟨a,b,c,by rw[h1];exact d,by rw[h2];exact e⟩
theorem kz:dW "len" = some (.builtin "len"):=by decide +kernel
theorem zN:dW "isinstance" = some (.builtin "isinstance"):=by decide +kernel
theorem YY:dW "sorted" = some (.builtin "sorted"):=by decide +kernel
theorem zd:dW "tuple" = some (.type "tuple"):=by decide +kernel
theorem Ko:dW "list" = some (.type "list"):=by decide +kernel
theorem jfG:dW "dict" = some (.type "dict"):=by decide +kernel
theorem jbx:dW "set" = some (.type "set"):=by decide +kernel
structure Free0(mg:Str->Option ac):Prop where
 len_:mg "len" = none
 max_:mg "max" = none
 min_:mg "min" = none
 all_:mg "all" = none
 isinstance_:mg "isinstance" = none
 abs_:mg "abs" = none
 sorted_:mg "sorted" = none
 int_:mg "int" = none
 str_:mg "str" = none
 bool_:mg "bool" = none
 tuple_:mg "tuple" = none
 list_:mg "list" = none
 dict_:mg "dict" = none
 range_:mg "range" = none
 set_:mg "set" = none
theorem jeC(h:X.K=K:=by rfl):IxR X (jg4 K):=by subst h;exact jS
theorem ZA(h:X.K=K:=by rfl):IxR X (jg3 K):=by subst h;exact jq
structure QS(X:Cx)(st:aJ)(t:TS):Prop where
 h:PS X st t
structure QSs(X:Cx)(st:List aJ)(t:TS):Prop where
 h:PSs X st t
theorem qs{t:TS}(h:PS X st t):QS X st t:=⟨h⟩
theorem Yt:∀{its:List ac} {ns:List Str},StrsAre its ns->Vals (ns.map V.str) its
 | _,_,.nil=>.nil
 | _,_,.cons n t h=>.cons ⟨t,rfl⟩ (Yt h)
theorem jex:64<=(aP:Nat):=by rw[fX];decide
theorem jbe:OpR X (fj .Mult) (fun x y H Q=>∃i j,x=.str i/\y=.int j/\i.length<=16/\0<=j/\j<=1000/\Q (.str (sR i j)) H):=by
 intro ah s σ H x y v u Q I rx ry h;obtain⟨i,j,rfl,rfl,h1,h2,h3,q⟩:=h;obtain⟨t,rfl⟩:=rx;obtain⟨t',rfl⟩:=ry;exact SB.mul (mulOk_of 16 1000 h1 (by omega) (by omega) (by decide) (by decide)) fun t' k=>⟨.str (sR i j),H,I.tok _,⟨_,rfl⟩,q⟩
open PySem PySem.Spec PyProof.Rows PySem.W
def OkP(N:Nat)(p:Array Nat):Prop:=p.toList.Perm (cE N)
theorem OkP.size{N:Nat}{p:Array Nat}(h:OkP N p):p.size=N:=by
 have:=h.length_eq;rw[tj]at this;simpa using this
end L2
namespace PySem
open Sem (wp)
namespace F
theorem sub_attr_attr:isSubtype (.type "AttributeError") (.type "AttributeError")=pure true:=by rw[Em];kernel_rfl
end F
section
variable {prog:aF}{w:aE}{A:aR}{E:ac->av->Prop}{h:aB}{g:Array AG}{d:Drawn}{t:Nat}{os:OsState}{a:aa}{its:Array ac}{n:Nat}{sl:Array (Option ac)}
theorem jby{α:Type}{m:Str}{Q:α->av->Prop}(hm:m.length<=aP)(hh:A.handled=none)
   (hq:∀h' t' e,(∀b u,h.get? b=some u->h'.get? b=some u)->(∃oe,h'.get? e=some oe/\oe.cls=.type "AttributeError")->E (.ref e) ⟨h',g,d,t',os⟩) :
  aw (aA prog w) A (raiseAttrError (.ref a) (bu "keys") m:Sem α) Q E ⟨h,g,d,t,os⟩:=by
 unfold raiseAttrError
 refine am (wpAny_mkStr (am ?_) hm)
 unfold sN El
 refine am (fi ?_ (by show 1<=aP;rw[fX];decide))
 refine am (m:=AB _ _) (Aw (a:=Value.none) (by kernel_rfl) ?_)
 refine fi ?_ (by size_fits)
 refine am (Lx ?_)
 dsimp only
 have uM:isSubtype (.type "AttributeError") (.type "AttributeError")=pure true:=by rw[Em];kernel_rfl
 generalize hf:(#[Value.ref h.objs.size,Value.none,Value.none,Value.none,Value.bool false,Value.none]++ownMembersOf (Value.type "AttributeError") [Value.str m t])=fs
 have e1:((h.push { cls:=.type "tuple",data:=.seq #[Value.str m t] }).push { cls:=.type "AttributeError",data:=.fields fs }).get? (h.push { cls:=.type "tuple",data:=.seq #[Value.str m t] }).objs.size=some { cls:=.type "AttributeError",data:=.fields fs }:=cg _ rfl
 have cB:∀b u,h.get? b=some u->((h.push { cls:=.type "tuple",data:=.seq #[Value.str m t] }).push { cls:=.type "AttributeError",data:=.fields fs }).get? b=some u:=fun b u q=>bo _ (bo _ q)
 have N1:∀b u,h.get? b=some u->b≠(h.push { cls:=.type "tuple",data:=.seq #[Value.str m t] }).objs.size:=fun b u q=>bv (aS (bo _ q))
 generalize ((h.push { cls:=.type "tuple",data:=.seq #[Value.str m t] }).push { cls:=.type "AttributeError",data:=.fields fs })=h2 at *
 generalize (h.push { cls:=.type "tuple",data:=.seq #[Value.str m t] }).objs.size=e at *
 refine am ?_
 have hT:(⟨h2,g,d,t+1+1,os⟩:av).TypeIs (.ref e) "AttributeError":=⟨_,e1,rfl⟩
 unfold noteAttr
 dsimp only
 refine am ?_
 unfold lacksNameAndObj
 dsimp only
 refine am (lT hT uM ?_)
 simp only[Bool.not_true,oF,if_false]
 refine am (vZ e1 ?_)
 dsimp only
 have e6:fs[6]?=some unsetMember:=by rw[<- hf];rfl
 have e7:fs[7]?=some unsetMember:=by rw[<- hf];rfl
 rw[WT (by rw[e6,e7];decide),WT (by rw[e6,e7];decide)]
 refine az ?_
 rw[WU rfl]
 refine am (lS (am (vX hT ?_)))
 dsimp only
 unfold layMembers
 refine am (vZ e1 ?_)
 dsimp only
 refine wpAny_update e1 ?_
 unfold we
 refine am (LB ?_)
 rw[hh]
 refine am (az (Ed ?_))
 refine hq _ _ e (fun b u q=>?_) ⟨_,ED _ e1 rfl,rfl⟩
 rw[Vm _ _ _ _ (N1 b u q)]
 exact cB b u q
end
end PySem
namespace L2
open PySem PySem.Spec PyProof.Rows PySem.W
theorem yC:AC table "dict.update.loop" = some Builtin.«dict.update.loop»:=Ux (by kernel_rfl)
theorem qN:plainId "dict.update.loop" = true:=by decide +kernel
section
variable {prog:aF}{w:aE}{A:aR}{E:ac->av->Prop}{R:l7->av->Prop}
theorem jfy{kvs:List (Key×V)}{vs:List (Key×ac)}(r:KV kvs vs):vs.map (·.1)=kvs.map (·.1):=by
 unfold KV at r;induction r with
 | nil=>rfl
 | cons h _ ih=>rw[ce,ce,ih,h.1]
theorem jfx{kvs:List (Key×V)}{vs:List (Key×ac)}{k:Key}{x:V}{v:ac}(r:KV kvs vs)(h:RelV x v):KV (kvs++[(k,x)]) (vs++[(k,v)]):=by
 unfold KV at r |-;induction r with
 | nil=>exact .cons ⟨rfl,h⟩ .nil
 | cons h' _ ih=>exact .cons h' ih
end
theorem Inv.more{X:Cx}{ah:List (aa×Obj)}{σ:St}{H H':Hp}{s:av}{h':aB}{t':Nat}(I:Inv X ah σ H s)(k:∀b u,s.heap.get? b=some u->h'.get? b=some u)(same:Same H H')
  (new:∀b o,H b=none->H' b=some o->s.heap.objs.size<=b/\ObjOk X.prog X.w H' h' b o):Inv X ah σ H' { s with heap:=h',toks:=t' }:=by
 refine I.un ⟨fun b u q _ _ _=>k b u q,fun b u q _ _ _=>⟨u.slots,k b u q⟩,fun b u q n _=>?_,fun b u q _=>⟨u,k b u q⟩,fun b xs q=>same _ _ q,fun b u xs q=>same _ _ q,fun b ps q=>⟨#[],by rw[same _ _ q];simp⟩,fun b u _ _ q _ _=>k b u q⟩ fun b o e=>?_
 .cases e:H' b with
  | none=>rfl
  | some o=>exact absurd (aS q) (Nat.not_lt.mpr (new b o n e).1)
 .cases q:H b with
  | none=>exact (new b o q e).2
  | some u=>
   have:=same _ _ q
   rw[e]at this
   cases this
   exact (I.hok b o q).stay (fun c v _ q=>k c v q) (fun c q=>same _ _ q) fun c xs q=>same _ _ q
abbrev Up(xs:Array Nat):Prop:=xs.toList.Pairwise (· < ·)
structure TabOk(led:Bool)(t:bH):Prop where
 led_:t.led=led
 none_:t.dummies=#[]
 up:Up t.place
variable {xs:Array Nat}{j:Nat}
theorem jbJ(h:Up xs){i:Nat}(CV:i < j)(hj:j < xs.size):xs.getD i 0 < xs.getD j 0:=by
 have hi:i < xs.size:=by omega
 have:=EV.mp h i j (by simpa using hi) (by simpa using hj) CV;simpa[wx,hi,hj]using this
theorem Ye{xs:Array Nat}(h:Up xs)(j:Nat):∀(f lo hi:Nat),lo<=hi->hi<=xs.size->hi<=lo+f->(∀i,i < lo->xs.getD i 0 < j)->(∀i,hi<=i->i < xs.size->j<=xs.getD i 0)->
  (AF xs j f lo hi)<=xs.size/\(∀i,i < AF xs j f lo hi->xs.getD i 0 < j)/\∀i,AF xs j f lo hi<=i->i < xs.size->j<=xs.getD i 0
 | 0,lo,hi,h1,h2,h3,a,b=>by
  unfold AF;exact⟨by omega,a,fun i fO=>b i (by omega)⟩
 | f+1,lo,hi,h1,h2,h3,a,b=>by
  unfold AF;by_cases e:lo < hi
  .rw[WU e]
   dsimp only;have hm:(lo+hi) / 2 < xs.size:=by omega
   have eg:xs.getD ((lo+hi) / 2) j=xs.getD ((lo+hi) / 2) 0:=by simp[wx,hm]
   rw[eg];by_cases c:xs.getD ((lo+hi) / 2) 0 < j
   .rw[WU c]
    refine Ye h j f ((lo+hi) / 2+1) hi (by omega) h2 (by omega) (fun i fO=>?_) b;rcases wq i ((lo+hi) / 2) with z | z
    .exact ow (jbJ h z hm) c
    .have:i=(lo+hi) / 2:=by omega
     subst this;exact c
   .rw[WT c]
    refine Ye h j f lo ((lo+hi) / 2) (by omega) (by omega) (by omega) a fun i fO hs=>?_
    rcases wq ((lo+hi) / 2) i with z | z
    .exact aV (M0 c) (cu (jbJ h z hs))
    .have:i=(lo+hi) / 2:=by omega
     subst this;exact M0 c
  .rw[WT e]
   exact⟨by omega,a,fun i fO=>b i (by omega)⟩
theorem Yd(h:Up xs)(j:Nat):cR xs j<=xs.size/\(∀i,i < cR xs j->xs.getD i 0 < j)/\∀i,cR xs j<=i->i < xs.size->j<=xs.getD i 0:=
 Ye h j xs.size 0 xs.size (cy _) (aL _) (by omega) (fun i h=>by omega) fun i h1 h2=>by omega
theorem jfC{i:Nat}(h:i < xs.size):xs[i]?=some (xs.getD i 0):=by simp[wx,h]
theorem jc1(h:Up xs)(hj:xs[cR xs j]?≠some j):Up (bH.insertAt xs (cR xs j) j):=by
 obtain⟨b1,b2,b3⟩:=Yd h j;unfold Up;rw[bH.toList_insertAt];have hd:∀x∈xs.toList.drop (cR xs j),j < x:=fun x hx=>by
  obtain⟨i,hi,rfl⟩:=AW.mp hx;rw[EY]at hi;rw[List.getElem_drop];have hs:cR xs j+i < xs.size:=by simpa using (by omega:cR xs j+i < xs.toList.length)
  have e:xs.toList[cR xs j+i]'(by simpa using hs)=xs.getD (cR xs j+i) 0:=by simp[wx,hs]
  rw[e];have ge:=b3 (cR xs j+i) (by omega) hs;rcases wq j (xs.getD (cR xs j+i) 0) with z | z
  .exact z
  .have eq:xs.getD (cR xs j+i) 0=j:=by omega
   rcases M1 i with rfl | hp
   .exact absurd (by rw[M3]at eq hs;rw[jfC hs,eq]) hj
   .have:=jbJ h (i:=cR xs j) (j:=cR xs j+i) (by omega) hs
    have:=b3 (cR xs j) (aL _) (by omega);omega
 have ht:∀x∈xs.toList.take (cR xs j),x < j:=fun x hx=>by
  obtain⟨i,hi,rfl⟩:=AW.mp hx;rw[bK]at hi;rw[EZ];have hs:i < xs.size:=by simpa using (by omega:i < xs.toList.length)
  have e:xs.toList[i]'(by simpa using hs)=xs.getD i 0:=by simp[wx,hs]
  rw[e];exact b2 i (by omega)
 refine List.pairwise_append.mpr ⟨h.sublist (Wi _ _),p6.mpr ⟨hd,h.sublist (List.drop_sublist _ _)⟩,fun x hx y hy=>?_⟩;rcases aM.mp hy with rfl | hy
 .exact ht x hx
 .exact ow (ht x hx) (hd y hy)
theorem jaf{led:Bool}{t:bH}(h:TabOk led t){hashAt:Nat->Int}{hh:Int}(bM:∀i,(hashAt i == hh)=false):∀(f:Nat) (p:bH.Probe) (m:bH.Met),p.dummy=none->Ex t hashAt hh f p=some m->∃j,m=.empty j none/\t.slot j=.empty
 | 0,p,m,_,e=>by
  unfold Ex at e
  cases e
 | f+1,p,m,hd,e=>by
  unfold Ex at e
  cases hs:t.slot p.j with
  | empty=>
   rw[hs]at e
   cases e
   exact⟨p.j,by rw[hd],hs⟩
  | dummy=>
   exfalso;unfold U0 at hs;dsimp only at hs;rw[h.none_]at hs;split at hs
   .cases hs
   .simp[bH.has]at hs
  | live i=>
   rw[hs]at e;dsimp only at e;rw[bM i]at e;rw[WT bY]at e;refine jaf h bM f _ m ?_ e;unfold bH.advance;split
   .exact hd
   .exact hd
variable {led:Bool}
theorem jb7{t:bH}(h:TabOk led t){hh:Int}{d:Bool}(e:t.freeSlot hh=some (j,d)):t.place[cR t.place j]?≠some j:=by
 unfold bH.freeSlot at e
 cases hp:t.probe (fun _=>hh+1) hh (t.probeStart hh) with
 | none=>rw[hp]at e;cases e
 | some m=>
  obtain⟨j',rfl,hs⟩:=jaf h (fun _=>WV.mpr (by omega)) _ _ m rfl (show Ex t (fun _=>hh+1) hh _ _=some m from hp);rw[hp]at e
  cases e
  unfold U0 at hs;dsimp only at hs;intro z;split at hs
  .cases hs
  .next c=>
   refine c ?_;have z':t.place[cR t.place j']?=some j':=z;rw[z'];simp
theorem jdx(n:Nat):Up (Array.range n):=by
 unfold Up;rw[Array.toList_range];exact Wm
theorem Jn{t:bH}(h:t.led=led)(n:Nat):TabOk led (t.standIn n):=⟨h,rfl,jdx n⟩
theorem jdS{t:bH}(h:TabOk led t)(hj:t.place[cR t.place j]?≠some j):TabOk led (t.put j).1:=by
 refine⟨h.led_,?_,jc1 h.up hj⟩;unfold bH.put;dsimp only;rw[h.none_];split
 .simp[bH.eraseAt]
 .rfl
theorem jcV{t:bH}(h:TabOk led t)(es:Array (Int×ac))(hh:Int)(x:ac):TabOk led (layNew t es hh x).2.1:=by
 unfold layNew;split
 .next slot d e=>
  dsimp only;unfold bH.orStandIn;split
  .exact jdS h (jb7 h e)
  .exact Jn (jdS h (jb7 h e)).led_ _
 .exact Jn h.led_ _
theorem jbZ{mask finger moves:Nat}{plain:Bool}{HW:Array Int}{t:bH}{o:Array Nat}(h:sU mask finger moves led plain HW=some (t,o)):TabOk led t:=by
 unfold sU at h
 cases hl:Ms mask HW with
 | none=>rw[hl]at h;cases h
 | some owner=>
  rw[hl]at h
  cases h
  refine⟨rfl,rfl,?_⟩;unfold Up;dsimp only;have dv:∀l:List Nat,(l.filterMap fun j=>(owner.getD j none).map (fun k=>(j,k))).map (·.1)=l.filter fun j=>(owner.getD j none).isSome:=by
   intro l;induction l with
   | nil=>rfl
   | cons a l ih=>
    rw[dG,AY]
    cases owner.getD a none with
    | none=>simpa using ih
    | some k=>
     show a :: iZ _ _=_;rw[ih];rfl
  show WI _ (iZ _ _);rw[dv];exact Wm.sublist List.filter_sublist
theorem jdO{t:bH}(h:TabOk led t)(es:Array (Int×ac))(n:Nat):TabOk led (wc t es n).2.1:=by
 unfold wc;split
 .next t' o e=>
  dsimp only;split
  .have:=jbZ (show sU _ _ _ _ _ _=some (t',o) from e)
   rw[h.led_]at this;exact this
  .exact Jn h.led_ _
 .exact Jn h.led_ _
theorem jcC{t:bH}(h:TabOk led t):TabOk led { t with plain:=false }:=⟨h.led_,h.none_,h.up⟩
abbrev ledOf(w:aE):Bool:=!(w.params.followText "set-order")
end L2
namespace PySem
section
variable {prog:aF}{w:aE}{A:aR}{E:ac->av->Prop}{s:av}
theorem jac(a:ac){Q₁:ac->av->Prop}
  (h:Q₁ (.ref s.heap.objs.size) { s with heap:=s.heap.push { cls:=.type "set",dict:=none,data:=.set #[] 0 (.fresh 0 0 (L2.ledOf w)) } }) :
  eU (aA prog w) A (.call (.builtin "set.__new__") ⟨[.type "set",a],[]⟩) (wants Q₁ E) s:=by
 refine codeAny_of_tree ?_
 show aw _ A.in1 (do L9 "set.__new__" ⟨[.type "set",a],[]⟩;again (.builtin "set.__new__" ⟨[.type "set",a],[]⟩)) _ _ s
 refine am (Aw (F.newCall_set_1 a) (az ⟨pP Vt _,lX F.entry_set_new ?_⟩))
 rw[ou Vt _]
 unfold Builtin.«set.__new__» Builtin.Frozenset.newClass
 have uM:=sub_set_self
 obtain⟨hp,g,d,tk,os⟩:=s
 dsimp only
 wp_walk
 refine sI (az ?_)
 dsimp only
 simp only[newObj]
 refine am (wpAny_alloc (az ?_))
 exact az h
end
namespace F
theorem slot_seti_next:Slot "set_iterator" "__next__" "set_iterator.__next__":=
 .of (owner:="set_iterator") (n:="__next__") (by rw[LJ,Md];kernel_rfl) (by decide +kernel) (by decide +kernel) (by decide +kernel)
  (by first | exact .inl (by decide +kernel) | exact .inr (by decide +kernel)) (by rw[Em];kernel_rfl)
theorem entry_seti_next:AC table "set_iterator.__next__" = some Builtin.«set_iterator.__next__»:=Ux (by kernel_rfl)
theorem args_seti_next(a:ac):argsOk "set_iterator.__next__" ⟨[a],[]⟩:=by unfold argsOk;kernel_rfl
theorem entry_set_iter':AC table "set.__iter__" = some Builtin.«frozenset.__iter__»:=L6 (id':="frozenset.__iter__") (by kernel_rfl) (by first | rfl | decide +kernel) (by decide +kernel) (by kernel_rfl)
end F
end PySem
namespace L2
open PySem PySem.Spec PyProof.Rows PySem.W
abbrev ko(es:Array (Int×ac))(ep:Nat)(t:bH):Obj:={ cls:=.type "set",dict:=none,data:=.set es ep t }
abbrev YL(first:ac)(i:Nat)(a:aa)(n ep:Nat):Obj:={ cls:=.type "set_iterator",data:=.fields #[first,.int i 0,.ref a,.int n 0,.int ep 0] }
def yf(es:Array (Int×ac))(t:bH):Bool:=!t.plain && decide (es.size > 1)
variable {prog:aF}{w:aE}{A:aR}{E:ac->av->Prop}{s:av}{I a:aa}{i ep:Nat}{es:Array (Int×ac)}{Q:Option ac->av->Prop}{aX:List ac}
section
theorem jbv{Fy:Source}{n:Nat}{Q:Nat->av->Prop}(hn:n≠0)(h:∀i d',i < n->Q i { s with drawn:=d' }):aw (aA prog w) A (choose Fy n) Q E s:=by
 intro Γ p hΓ;show Sem.wp _ _ (.choose Fy n .pure) _ _ _ _;rw[Sem.wp_choose];exact⟨hn,h _ _ (ES _ (Nat.pos_of_ne_zero hn))⟩
theorem Jf{α:Type}:∀{l:List α} {i:Nat} {x:α},l[i]?=some x->(x :: l.eraseIdx i).Perm l
 | [],i,x,e=>by simp at e
 | a :: l,0,x,e=>by
  simp at e;subst e;exact tE _
 | a :: l,i+1,x,e=>by
  simp at e;have ih:=Jf (l:=l) (i:=i) (x:=x) e;show (x :: a :: l.eraseIdx i).Perm (a :: l);exact (List.Perm.swap a x _).trans (ih.cons a)
theorem K3{α:Type}:∀(n:Nat) (xs:List α) (s:av) (Q:List α->av->Prop),xs.length=n->(∀ys d',ys.Perm xs->Q ys { s with drawn:=d' })->aw (aA prog w) A (L7 n xs) Q E s
 | 0,xs,s,Q,hl,h=>by
  have:xs=[]:=AX.mp hl;subst this;unfold L7;exact az (h [] s.drawn (tE _))
 | n+1,[],s,Q,hl,h=>by simp at hl
 | n+1,x :: xs,s,Q,hl,h=>by
  unfold L7;refine am (jbv (by simp) fun i d' hi=>?_);have hg:(x :: xs)[i]?=some (x :: xs)[i]:=aI hi;rw[hg];dsimp only;refine am (K3 n _ _ _ (by rw[Wv,WU hi];omega) fun ys d2 hp=>?_);exact az (h _ d2 ((hp.cons _).trans (Jf hg)))
theorem YE{α:Type}(next:Nat->Nat)(xs:Array α):(lW next xs).toList.Perm xs.toList:=by
 have dv:∀(f k:Nat) (left:List α) (out:Array α),left.length=f->(LS next f k left out).toList.Perm (out.toList++left):=by
  intro f;induction f with
  | zero=>
   intro k left out h;have:left=[]:=AX.mp h;subst this;unfold LS;rw[cv]
  | succ f ih=>
   intro k left out h;unfold LS;have hm:next k % left.length < left.length:=ES _ (by omega)
   have hg:left[next k % left.length]?=some (left[next k % left.length]'hm):=aI hm;rw[hg];dsimp only;refine (ih (k+1) _ _ (by rw[Wv,WU hm];omega)).trans ?_;rw[WL,dH];exact (Jf hg).append_left _
 have:=dv xs.size 0 xs.toList #[] (by simp);simpa[lW]using this
theorem yJ{first:ac}{t:bH}(hI:s.heap.get? I=some (YL first i a es.size ep))(ha:s.heap.get? a=some (ko es ep t))(hf:t.fits es.size=true)
  (h:aw (aA prog w) A.in1 (if let .int slot _:=first then
   (do match <- oh a slot.toNat i ep with
    | some (x,next)=>
     mV (.ref I) 0 (cb next)
     mV (.ref I) 1 (cb ((i:Int)+1))
     ret x
    | none=>mV (.ref I) 2 .none;we (<- sN (.type "StopIteration") []):Sem Fin)
   else (do
    let some places <- wb first | unsupported "internal:set_iterator"
    match places[i]? with
    | some (.int place _)=>
     let x <- LM a place.toNat ep
     mV (.ref I) 1 (cb ((i:Int)+1))
     ret x
    | some _=>unsupported "internal:set_iterator"
    | none=>mV (.ref I) 0 (cb 0);mV (.ref I) 2 .none;we (<- sN (.type "StopIteration") []):Sem Fin))
   (fun bE s'=>∃v,bE=.done (.ret v)/\Q (some v) s') (fun e s'=>∃c o,e=.ref c/\s'.heap.get? c=some o/\o.cls=.type "StopIteration"/\Q none s') s):aw (aA prog w) A (cL (.ref I)) Q E s:=by
 have hT:s.TypeIs (.ref I) "set_iterator":=⟨_,hI,rfl⟩
 unfold cL
 refine am (mU (lU (name:=bu "__next__") hT F.slot_seti_next
  (gA F.slot_seti_next hT F.entry_seti_next ?_ (F.args_seti_next _))))
 unfold Builtin.«set_iterator.__next__»
 refine am (az (am (wpAny_fieldsOf hI rfl ?_)))
 dsimp only
 refine am ?_
 unfold LO
 refine am (dC ha rfl hf (az ?_))
 rw[WT (by simp)]
 simp only[oE]
 refine cY h (fun bE s' x=>?_) fun e s' x=>?_
 .obtain⟨v,rfl,q⟩:=x
  exact⟨v,rfl,az q⟩
 .obtain⟨c,o,rfl,e1,e2,q⟩:=x
  refine am (lT (T:="StopIteration") ⟨o,e1,e2⟩ AA ?_)
  rw[WU rfl]
  exact az q
def ItSt(w:aE)(h:aB)(I a:aa)(es:Array (Int×ac))(ep:Nat)(t:bH)(aX:List ac)(i:Nat):Prop:=h.get? a=some (ko es ep t)/\
 ((w.params.followText "set-order" = true/\h.get? I=some (YL (.int 0 0) i a es.size ep)/\aX=(lW (w.params.setOrder a ep) es).toList.map (·.2))\/
   (w.params.followText "set-order" = false/\∃(T:aa) (ps:List Nat),h.get? I=some (YL (.ref T) i a es.size ep)/\h.get? T=some { cls:=.type "tuple",data:=.seq (ps.map fun (p:Nat)=>cb p).toArray }/\T≠I/\(∀p∈ps,p < es.size)/\aX=ps.map fun p=>(es.getD p (0,.none)).2)\/
   (w.params.followText "set-order" = false/\yf es t=false/\∃slot:Nat,h.get? I=some (YL (.int slot 0) i a es.size ep)/\cR t.place slot=i/\aX=es.toList.map (·.2)))
theorem Za{o:Obj}{vs:Array ac}{k:Nat}{x:ac}(hh:A.handled=none)(hI:s.heap.get? I=some o)(hd:o.data=.fields vs)(hk:k < vs.size)(h:∀h',(∀b u,b≠I->s.heap.get? b=some u->h'.get? b=some u)->Q none { s with heap:=h' }):
  aw (aA prog w) A.in1 (do mV (.ref I) k x;we (<- sN (.type "StopIteration") []):Sem Fin) (fun bE s'=>∃v,bE=.done (.ret v)/\Q (some v) s') (fun e s'=>∃c o,e=.ref c/\s'.heap.get? c=some o/\o.cls=.type "StopIteration"/\Q none s') s:=by
 refine am (Lv hI hd hk ?_)
 refine am ?_
 simp only[sN,El]
 refine am (fi ?_ (by size_fits))
 refine am (m:=AB _ _) (Aw (a:=Value.none) (by first | rfl | (simp only[AB];rfl)) ?_)
 refine fi ?_ (by size_fits)
 simp only[we]
 refine am (LB ?_)
 rw[show A.in1.handled=none from hh]
 refine am (az (Ed ?_))
 refine⟨_,_,rfl,cg _ rfl,rfl,h _ fun b u hb e=>?_⟩
 exact bo _ (bo _ ((Vm _ _ _ _ hb).trans e))
theorem yg{Q:Bool->av->Prop}(h:Q (w.params.followText "set-order") s):aw (aA prog w) A Ax Q E s:=by
 unfold Ax;exact am (sI (az h))
theorem JL{first:ac}{n k:Nat}{x:ac}{Q:Unit->av->Prop}(hI:s.heap.get? I=some (YL first i a n ep))(hk:k < 5)
  (h:∀h',h'.get? I=some { cls:=.type "set_iterator",data:=.fields (#[first,.int i 0,.ref a,.int n 0,.int ep 0].setIfInBounds k x) }->(∀b u,b≠I->s.heap.get? b=some u->h'.get? b=some u)->Q () { s with heap:=h' }):aw (aA prog w) A (mV (.ref I) k x) Q E s:=
 hV hI hk fun h' e sb=>h h' e fun b u hb e=>(sb.2 b hb).trans e
theorem jcS{t:bH}(hf:t.fits es.size=true)(ht:TabOk (ledOf w) t)(gY:a≠I)(df:ItSt w s.heap I a es ep t aX i)(hi:i < aX.length)
  (h:∀h',ItSt w h' I a es ep t aX (i+1)->(∀b u,b≠I->s.heap.get? b=some u->h'.get? b=some u)->Q (some (aX.getD i Value.none)) { s with heap:=h' }):aw (aA prog w) A (cL (.ref I)) Q E s:=by
 obtain⟨ha,hm⟩:=df
 rcases hm with⟨hb,hI,hv⟩ | ⟨hb,T,ps,hI,hT,iM,rO,hv⟩ | ⟨hb,hd,slot,hI,hs,hv⟩
 .refine yJ hI ha hf ?_
  show aw _ _ (oh a (tF 0) i ep >>= _) _ _ _
  refine am ?_
  unfold oh
  refine am (dC ha rfl hf (am (yg ?_)))
  dsimp only
  rw[hb,WU rfl,WT (by simp)]
  refine am ?_
  unfold Ej
  refine am (dC ha rfl hf (am (yg ?_)))
  rw[hb,WU rfl]
  refine am (sI (az (az ?_)))
  have hg:(lW (w.params.setOrder a ep) es)[i]?=some ((lW (w.params.setOrder a ep) es)[i]'(by rw[hv]at hi;simpa using hi)):=tG _
  have ny:aX.getD i Value.none=((lW (w.params.setOrder a ep) es)[i]'(by rw[hv]at hi;simpa using hi)).2:=by
   subst hv;have fO:i < (lW (w.params.setOrder a ep) es).size:=by simpa using hi
   simp[fO]
  show aw _ _ (match ((lW (w.params.setOrder a ep) es)[i]?).map fun e=>(e.2,tF 0) with | some (x,next)=>_ | none=>_) _ _ _
  rw[hg]
  dsimp only[Option.map]
  refine am (JL hI (by decide) fun h1 e1 k1=>?_)
  refine am (JL (s:={ s with heap:=h1 }) (first:=.int 0 0) e1 (by decide) fun h2 e2 k2=>az ⟨_,rfl,?_⟩)
  rw[<- ny]
  refine h h2 ⟨k2 _ _ gY (k1 _ _ gY ha),.inl ⟨hb,?_,hv⟩⟩ fun b u hb e=>k2 _ _ hb (k1 _ _ hb e)
  exact e2
 .refine yJ hI ha hf ?_
  show aw _ _ (wb (.ref T) >>= _) _ _ _
  refine am (lR hT rfl ?_)
  have fO:i < ps.length:=by rw[hv,ax]at hi;exact hi
  have hg:(iZ (fun (p:Nat)=>cb p) ps).toArray[i]?=some (cb ps[i]):=by simp[fO]
  dsimp only
  rw[hg]
  have cC:=rO _ (ft fO)
  show aw _ _ (LM a (tF (ps[i]:Nat)) ep >>= _) _ _ _
  rw[oE]
  refine am ?_
  unfold LM
  refine am (dC ha rfl hf ?_)
  dsimp only
  rw[WT (by simp),tG cC]
  refine az ?_
  refine am (JL hI (by decide) fun h1 e1 k1=>az ⟨_,rfl,?_⟩)
  have ny:aX.getD i Value.none=es[ps[i]].2:=by
   subst hv;simp[fO,cC]
  show Q (some es[ps[i]].2) _
  rw[<- ny]
  refine h h1 ⟨k1 _ _ gY ha,.inr (.inl ⟨hb,T,ps,?_,k1 _ _ iM hT,iM,rO,hv⟩)⟩ k1
  exact e1
 .refine yJ hI ha hf ?_
  show aw _ _ (oh a (tF (slot:Nat)) i ep >>= _) _ _ _
  rw[oE]
  refine am ?_
  unfold oh
  refine am (dC ha rfl hf (am (yg ?_)))
  dsimp only
  rw[hb,WT bY]
  have fO:i < es.size:=by rw[hv,ax,dQ]at hi;exact hi
  have CH:t.led=true:=by rw[ht.led_];unfold ledOf;rw[hb];rfl
  have hpz:t.place.size=es.size:=by
   simp only[Ey,cO,beq_iff_eq]at hf;exact hf.1
  show aw _ _ (if yf es t=true then _ else _) _ _ _
  rw[hd,WT bY]
  refine am ?_
  show aw _ _ (if (!t.led && !es.isEmpty)=true then _ else _) _ _ _
  rw[CH,WT (by simp)]
  refine az (az ?_)
  rw[hs,tG fO,tG (by omega)]
  dsimp only
  refine am (JL hI (by decide) fun h1 e1 k1=>?_)
  refine am (JL (s:={ s with heap:=h1 }) (first:=.int ((t.place[i]'(by omega+splitNatSub)+1:Nat):Int) 0) e1 (by decide) fun h2 e2 k2=>az ⟨_,rfl,?_⟩)
  have ny:aX.getD i Value.none=es[i].2:=by
   subst hv;simp[fO]
  rw[<- ny]
  refine h h2 ⟨k2 _ _ gY (k1 _ _ gY ha),.inr (.inr ⟨hb,hd,t.place[i]'(by omega+splitNatSub)+1,?_,?_,hv⟩)⟩ fun b u hb e=>k2 _ _ hb (k1 _ _ hb e)
  .exact e2
  .obtain⟨b1,b2,b3⟩:=Yd ht.up (t.place[i]'(by omega+splitNatSub)+1)
   have eg:t.place.getD i 0=t.place[i]'(by omega+splitNatSub):=by
    have bz:i < t.place.size:=by omega
    simp[wx,bz]
   have h1:i < cR t.place (t.place[i]'(by omega+splitNatSub)+1):=by
    rcases wq i (cR t.place (t.place[i]'(by omega+splitNatSub)+1)) with z | z
    .exact z
    .have:=b3 i z (by omega)
     omega
   rcases wq (i+1) (cR t.place (t.place[i]'(by omega+splitNatSub)+1)) with z | z
   .have h2:=b2 (i+1) z
    have h3:=jbJ ht.up (i:=i) (j:=i+1) (by omega) (by omega)
    omega
   .omega
theorem jer{t:bH}(hh:A.handled=none)(hf:t.fits es.size=true)(ht:TabOk (ledOf w) t)(gY:a≠I)(df:ItSt w s.heap I a es ep t aX i)(hi:i=aX.length)
  (h:∀h',(∀b u,b≠I->s.heap.get? b=some u->h'.get? b=some u)->Q none { s with heap:=h' }):aw (aA prog w) A (cL (.ref I)) Q E s:=by
 obtain⟨ha,hm⟩:=df
 rcases hm with⟨hb,hI,hv⟩ | ⟨hb,T,ps,hI,hT,iM,rO,hv⟩ | ⟨hb,hd,slot,hI,hs,hv⟩
 .refine yJ hI ha hf ?_
  show aw _ _ (oh a (tF 0) i ep >>= _) _ _ _
  refine am ?_
  unfold oh
  refine am (dC ha rfl hf (am (yg ?_)))
  dsimp only
  rw[hb,WU rfl,WT (by simp)]
  refine am ?_
  unfold Ej
  refine am (dC ha rfl hf (am (yg ?_)))
  rw[hb,WU rfl]
  refine am (sI (az (az ?_)))
  have hg:(lW (w.params.setOrder a ep) es)[i]?=none:=by
   rw[hi,hv];simp
  show aw _ _ (match ((lW (w.params.setOrder a ep) es)[i]?).map fun e=>(e.2,tF 0) with | some (x,next)=>_ | none=>_) _ _ _
  rw[hg]
  exact Za hh hI rfl (by simp) h
 .refine yJ hI ha hf ?_
  show aw _ _ (wb (.ref T) >>= _) _ _ _
  refine am (lR hT rfl ?_)
  have hg:(iZ (fun (p:Nat)=>cb p) ps).toArray[i]?=none:=by
   rw[hi,hv];simp
  dsimp only
  rw[hg]
  dsimp only
  refine am (JL hI (by decide) fun h1 e1 k1=>?_)
  exact Za (s:={ s with heap:=h1 }) hh e1 rfl (by simp) fun h' k=>h h' fun b u hb e=>k _ _ hb (k1 _ _ hb e)
 .refine yJ hI ha hf ?_
  show aw _ _ (oh a (tF (slot:Nat)) i ep >>= _) _ _ _
  rw[oE]
  refine am ?_
  unfold oh
  refine am (dC ha rfl hf (am (yg ?_)))
  dsimp only
  rw[hb,WT bY]
  have CH:t.led=true:=by rw[ht.led_];unfold ledOf;rw[hb];rfl
  show aw _ _ (if yf es t=true then _ else _) _ _ _
  rw[hd,WT bY]
  refine am ?_
  show aw _ _ (if (!t.led && !es.isEmpty)=true then _ else _) _ _ _
  rw[CH,WT (by simp)]
  refine az (az ?_)
  have hg:es[i]?=none:=by
   rw[hi,hv];simp
  rw[hs,hg]
  dsimp only
  exact Za hh hI rfl (by simp) h
end
section
theorem ItSt.kept{h h':aB}{t:bH}(x:ItSt w h I a es ep t aX i)(k:∀b o,h.get? b=some o->o.cls≠.type "list"->h'.get? b=some o):ItSt w h' I a es ep t aX i:=by
 obtain⟨ha,hm⟩:=x;refine⟨k _ _ ha (by simp),?_⟩;rcases hm with⟨hb,hI,hv⟩ | ⟨hb,T,ps,hI,hT,r⟩ | ⟨hb,hd,slot,hI,r⟩
 .exact .inl ⟨hb,k _ _ hI (by simp),hv⟩
 .exact .inr (.inl ⟨hb,T,ps,k _ _ hI (by simp),k _ _ hT (by simp),r⟩)
 .exact .inr (.inr ⟨hb,hd,slot,k _ _ hI (by simp),r⟩)
theorem jeD{t:bH}{Q:ac->av->Prop}(ha:s.heap.get? a=some (ko es ep t))(hf:t.fits es.size=true)(ht:TabOk (ledOf w) t)(hz:es.size<=1000)
  (h:∀I h' d' aX,s.heap.objs.size<=I->ItSt w h' I a es ep t aX 0->aX.Perm (es.toList.map (·.2))->(∀b o,s.heap.get? b=some o->h'.get? b=some o)->Q (.ref I) { s with heap:=h',drawn:=d' }):aw (aA prog w) A (Ay (.ref a)) Q E s:=by
 have hT:s.TypeIs (.ref a) "set":=⟨_,ha,rfl⟩
 refine wpAny_pyIter_slot hT Vs (gA Vs hT PySem.F.entry_set_iter' ?_ (PySem.F.args_set_iter_1 _))
 unfold Builtin.«frozenset.__iter__»
 refine am (az (am ?_))
 unfold Builtin.Frozenset.sizeOf LO
 refine am (am (dC ha rfl hf (az (az ?_))))
 refine am ?_
 unfold setDrawn
 refine am (dC ha rfl hf (am (yg (az ?_))))
 dsimp only
 show aw _ _ (if (!(w.params.followText "set-order") && yf es t)=true then _ else _) _ _ _
 have bE:∀(first:ac) (s1:av) (aX:List ac),s1.heap.get? a=some (ko es ep t)->aX.Perm (es.toList.map (·.2))->(∀b o,s.heap.get? b=some o->s1.heap.get? b=some o)->s1.gens=s.gens->s1.toks=s.toks->s1.os=s.os->s.heap.objs.size<=s1.heap.objs.size->
   (∀h' I,(∀b o,s1.heap.get? b=some o->h'.get? b=some o)->s1.heap.objs.size=I->h'.get? I=some (YL first 0 a es.size ep)->ItSt w h' I a es ep t aX 0)->
   aw (aA prog w) A.in1 (do let e <- setEpoch a;let i <- newFields "set_iterator" [first,cb 0,.ref a,cb es.size,cb e];ret i) (fun bE s'=>∃v,bE=Fin.done (Flow.ret v)/\∃T' r,s'.TypeIs v T'/\v9 (.type T') "__next__" = pure (some r)/\Q v s') E s1:=by
  intro first s1 aX h1 hp hk eg et eo nK df
  refine am (wpAny_setEpoch_of h1 rfl hf ?_)
  refine am (fi (az ⟨_,rfl,"set_iterator",_,⟨_,cg _ rfl,rfl⟩,PySem.F.slot_seti_next.lookup,?_⟩))
  obtain⟨dM,g1,d1,t1,o1⟩:=s1
  dsimp only at eg et eo
  subst eg et eo
  exact h _ _ d1 aX nK (df _ _ (fun b o e=>bo _ e) rfl (cg _ rfl)) hp fun b o e=>bo _ (hk b o e)
 cases hb:w.params.followText "set-order" with
 | true=>
  rw[WT (by simp)]
  refine am (az ?_)
  refine bE (cb 0) s ((lW (w.params.setOrder a ep) es).toList.map (·.2)) ha ((YE _ _).map _) (fun _ _ e=>e) rfl rfl rfl (aL _) fun h' I k _ hI=>?_
  exact⟨k _ _ ha,.inl ⟨hb,hI,rfl⟩⟩
 | false=>
  cases hd:yf es t with
  | true=>
   rw[WU (by simp)]
   refine am (K3 es.size (cE es.size) s _ (by simp) fun ps d' hp=>?_)
   refine am (fi ?_ (by show (iZ _ ps).length<=_;rw[ax,hp.length_eq,tj];exact cu (jz hz)))
   have rO:∀p∈ps,p < es.size:=fun p h=>p9.mp (hp.mem_iff.mp h)
   have BZ:(ps.map fun p=>(es.getD p (0,.none)).2).Perm (es.toList.map (·.2)):=by
    have h1:=hp.map fun p=>(es.getD p (0,.none)).2
    have e:((cE es.size).map fun p=>(es.getD p (0,Value.none)).2)=es.toList.map (·.2):=by
     apply List.ext_getElem
     .simp
     .intro i h1 h2
      have hi:i < es.size:=by simpa using h1
      simp[hi]
    rw[e]at h1;exact h1
   have lt:∀o:Obj,s.heap.objs.size < (s.heap.push o).objs.size:=fun o=>by rw[size_push'];exact MX _
   refine bE (.ref s.heap.objs.size) _ (ps.map fun p=>(es.getD p (0,.none)).2) (bo _ ha) BZ (fun b o e=>bo _ e) rfl rfl rfl (cu (lt _)) fun h' I k eI hI=>?_
   refine⟨k _ _ (bo _ ha),.inr (.inl ⟨hb,s.heap.objs.size,ps,hI,k _ _ (cg _ rfl),?_,rO,rfl⟩)⟩
   rw[<- eI]
   exact bv (lt _)
  | false=>
   rw[WT (by simp)]
   refine am (az ?_)
   refine bE (cb 0) s (es.toList.map (·.2)) ha (tE _) (fun _ _ e=>e) rfl rfl rfl (aL _) fun h' I k _ hI=>?_
   refine⟨k _ _ ha,.inr (.inr ⟨hb,hd,0,hI,?_,rfl⟩)⟩
   obtain⟨b1,b2,b3⟩:=Yd ht.up 0
   rcases M1 (cR t.place 0) with z | z
   .exact z
   .exact absurd (b2 0 z) (Nat.not_lt_zero _)
theorem jaD{S:aa}{t:bH}{res:ac}{R:l7->av->Prop}(hh:A.handled=none)(hf:t.fits es.size=true)(ht:TabOk (ledOf w) t)(gY:a≠I)(vo:S≠I)(hz:aX.length<=1000):
  ∀(k i:Nat) (s:av) (c:Nat),i+k=aX.length->ItSt w s.heap I a es ep t aX i->s.heap.get? S=some { cls:=.type "list",dict:=none,data:=.seq (aX.take i).toArray c,slots:=#[] }->
   (∀h' c',h'.get? S=some { cls:=.type "list",dict:=none,data:=.seq aX.toArray c',slots:=#[] }->(∀b o,b≠S->b≠I->s.heap.get? b=some o->h'.get? b=some o)->R (.ok (.ret res)) { s with heap:=h' })->
   eU (aA prog w) A (.builtin "list.extend.loop" ⟨[.ref S,.ref I,res],[]⟩) R s:=by
 intro k
 induction k with
 | zero=>
  intro i s c hk df hS hR
  have hi:i=aX.length:=by omega
  refine lX Vw ?_
  rw[ou AJ _]
  show aw _ A.in1 (cL (.ref I) >>= _) _ _ s
  refine am (jer (A:=A.in1) hh hf ht gY df hi fun h1 k1=>?_)
  refine az ?_
  rw[hi,bX]at hS
  exact hR h1 c (k1 _ _ vo hS) fun b o _ hb e=>k1 _ _ hb e
 | succ k ih=>
  intro i s c hk df hS hR
  have hi:i < aX.length:=by omega
  refine lX Vw ?_
  rw[ou AJ _]
  show aw _ A.in1 (cL (.ref I) >>= _) _ _ s
  refine am (jcS (A:=A.in1) hf ht gY df hi fun h1 wR k1=>?_)
  dsimp only
  have pE:=k1 _ _ vo hS
  refine am ?_
  show aw _ _ (LH S (·.push (aX.getD i Value.none))) _ _ _
  refine Lu pE rfl ?_ (by simp only[cA,bK];exact cu (jz (by omega))) (by simp only[Array.size_push,cA,bK];exact Nat.le_succ_of_le (cu (jz (by omega))))
  refine az ⟨pP AJ _,?_⟩
  obtain⟨c2,gX⟩:∃c2,(h1.update S (oq (·.push (aX.getD i Value.none)))).get? S=some (AN "list" ((aX.take i).toArray.push (aX.getD i Value.none)) c2):=⟨_,MR pE _⟩
  have ue:∀b o,b≠S->h1.get? b=some o->(h1.update S (oq (·.push (aX.getD i Value.none)))).get? b=some o:=fun b o hb e=>(EE _ _ (bB hb)).trans e
  have et:((aX.take i).toArray.push (aX.getD i Value.none))=(aX.take (i+1)).toArray:=by
   rw[bP,aI hi];simp[hi]
  rw[et]at gX
  refine ih (i+1) _ c2 (by omega) (wR.kept fun b o e hc=>ue b o (fun z=>?_) e) gX fun h' c' e1 e2=>hR h' c' e1 fun b o hb fP e=>e2 b o hb fP (ue b o hb (k1 _ _ fP e))
  rw[z,pE]at e
  cases e
  exact hc rfl
end
open PySem PySem.Spec PySem.Calls PyProof.Rows PySem.W
section
theorem jeE{r:aa}{Q:Bool->av->Prop}(hT:s.TypeIs (.ref r) "set")(h:Q false s):aw (aA prog w) A (VL (.ref r)) Q E s:=by
 unfold VL;refine am (wpAny_specialOf hT PySem.F.slot_set_len.lookup ?_);generalize hid:("set.__len__" : String)=id0;wp_delta;rw[show splitId id0=some ("set","__len__") from by subst hid;decide +kernel];subst hid;refine am (lT (T:="set") (b:=true) hT (by rw[Em];kernel_rfl) ?_);refine LA (fun cV=>absurd cV (by decide)) (fun _=>?_);refine LA (fun _=>?_) (fun cV=>absurd (by decide +kernel) cV);exact am (vX hT (az h))
theorem jaM{t:bH}{R:List ac->av->Prop}(hh:A.handled=none)(ha:s.heap.get? a=some (ko es ep t))(hf:t.fits es.size=true)(ht:TabOk (ledOf w) t)(hz:es.size<=1000)
  (h:∀h' d' aX,aX.Perm (es.toList.map (·.2))->(∀b o,s.heap.get? b=some o->h'.get? b=some o)->R aX { s with heap:=h',drawn:=d' }):aw (aA prog w) A (collect (.ref a)) R E s:=by
 have H0:a < s.heap.objs.size:=aS ha
 unfold collect
 refine am (wpAny_runValue (lX entry_proto_collect' ?_))
 rw[ou PySem.F.plain_proto_collect _]
 show aw _ A.in1 (newList [] >>= fun l=>again (.builtin "list.__iadd__" ⟨[l,.ref a],[]⟩)) _ _ s
 refine am (fi ?_)
 refine az ⟨pP Vu _,lX entry_list_iadd' ?_⟩
 rw[ou Vu _]
 show aw _ A.in1 (VM (.ref s.heap.objs.size) (.ref a) (.ref s.heap.objs.size)) _ _ _
 have hS:(s.heap.push { cls:=.type "list",data:=.seq ([]:List ac).toArray }).get? s.heap.objs.size=some { cls:=.type "list",data:=.seq #[] }:=cg _ rfl
 have Db:(s.heap.push { cls:=.type "list",data:=.seq ([]:List ac).toArray }).get? a=some (ko es ep t):=bo _ ha
 have uf:∀b o,s.heap.get? b=some o->(s.heap.push { cls:=.type "list",data:=.seq ([]:List ac).toArray }).get? b=some o:=fun b o e=>bo _ e
 have wQ:s.heap.objs.size < (s.heap.push { cls:=.type "list",data:=.seq ([]:List ac).toArray }).objs.size:=aS hS
 generalize (s.heap.push { cls:=.type "list",data:=.seq ([]:List ac).toArray })=h1 at *
 unfold VM
 refine am (vX (T:="set") ⟨_,Db,rfl⟩ ?_)
 have e1:VJ (.ref s.heap.objs.size) (.ref a)=false:=by
  have:s.heap.objs.size≠a:=m9 H0;simp[VJ,this]
 rw[WT (by rw[e1];decide)]
 refine am (jeD (A:=A.in1) (s:={ s with heap:=h1 }) Db hf ht hz fun I h2 d2 aX hI st hp ip=>?_)
 have y_:=ip _ _ Db
 have gX:=ip _ _ hS
 have vo:s.heap.objs.size≠I:=bv (cz wQ hI)
 have gY:a≠I:=bv (cz (ow H0 wQ) hI)
 have Gr:aX.length<=1000:=by
  rw[hp.length_eq,ax,dQ];exact hz
 refine am (dD (jeE ⟨_,y_,rfl⟩ ?_))
 refine LA (fun _=>?_) (fun _=>?_)
 .refine am (lS (am ?_))
  show aw _ _ (LH s.heap.objs.size (·.push .none) >>= fun _=>LH s.heap.objs.size (·.pop)) _ _ _
  refine am (Lu gX rfl ?_ (by decide) (by show 1<=aP+1;omega))
  obtain⟨c3,se⟩:∃c3,(h2.update s.heap.objs.size (oq (·.push Value.none))).get? s.heap.objs.size=some (AN "list" (#[].push Value.none) c3):=⟨_,MR gX _⟩
  refine Lu se rfl ?_ (by show 1<=aP;rw[fX];decide) (by show 0<=aP+1;omega)
  obtain⟨c4,RN⟩:∃c4,((h2.update s.heap.objs.size (oq (·.push Value.none))).update s.heap.objs.size (oq (·.pop))).get? s.heap.objs.size=some (AN "list" ((#[].push Value.none).pop) c4):=⟨_,MR se _⟩
  have ue:∀b o,b≠s.heap.objs.size->h2.get? b=some o->((h2.update s.heap.objs.size (oq (·.push Value.none))).update s.heap.objs.size (oq (·.pop))).get? b=some o:=fun b o hb e=>(EE _ _ (bB hb)).trans ((EE _ _ (bB hb)).trans e)
  refine az ⟨pP AJ _,jaD hh hf ht gY vo Gr aX.length 0 _ c4 (by omega) (st.kept fun b o e hc=>ue b o (fun z=>?_) e) RN fun h' c' e k=>?_⟩
  .rw[z,gX]at e
   cases e
   exact hc rfl
  .show aw _ A (load s.heap.objs.size >>= _) _ _ _
   refine am (vZ e (az ?_))
   refine h h' d2 aX hp fun b o q=>?_
   have hb:=aS q
   exact k b o (bv hb) (bv (cz (ow hb wQ) hI)) (ue b o (bv hb) (ip _ _ (uf _ _ q)))
 .refine az ⟨pP AJ _,jaD hh hf ht gY vo Gr aX.length 0 _ _ (by omega) st gX fun h' c' e k=>?_⟩
  show aw _ A (load s.heap.objs.size >>= _) _ _ _
  refine am (vZ e (az ?_))
  refine h h' d2 aX hp fun b o q=>?_
  have hb:=aS q
  exact k b o (bv hb) (bv (cz (ow hb wQ) hI)) (ip _ _ (uf _ _ q))
end
variable {X:Cx}
theorem Inv.drawn{ah:List (aa×Obj)}{σ:St}{H:Hp}{h':aB}{d':Drawn}(I:Inv X ah σ H s)(k:∀b u,s.heap.get? b=some u->h'.get? b=some u):Inv X ah σ H { s with heap:=h',drawn:=d' }:=
 I.call (g':=s.gens) (t':=s.toks) (d':=d') (ch:=[]) (Un.kept k) (I.hok.kept k) I.bare fun _ z=>nomatch z
theorem ja8{X:Cx}{scope:cS}{dh tg iter:ay}{ifs:List ay}{pos:Pos}{wi:TI}{g:TG}{tt:TT}{te:TE}{i:Nat}{y:Str}{py tW:Pos}(hN:X.N.Nodup)(fO:X.N[i]?=some y)(hy:Loc X.env.scope y)(own:List Str)(fr:List Nat)(hc:X.calm=true)(O:CompOk X scope fr)(hi:PI X.nox tg iter wi)
  (hb:∀s H ex,PG (blk X.nox scope own fr s H ex) tg g/\PTs (blk X.nox scope own fr s H ex) ifs tt/\PE (blk X.nox scope own fr s H ex) dh te)
  (hs:∀x,oj iter X.env x=pure x:=by intro _;rfl)
  (uL:pO (.ListComp dh [⟨tg,iter,ifs,0⟩] scope pos) (some (.Name y py)) tW.line X.env=pure true:=by rfl)
  (hf:X.fn y=true\/X.env.scope.names.lookup y=some .local:=by first | exact .inl rfl | exact .inr rfl | assumption) :
  PS X.nox (.Assign [.Name y py] (.ListComp dh [⟨tg,iter,ifs,0⟩] scope pos) tW) (je8 (Z6 own fr wi g tt te) (qh i)):=by
 intro ah s σ H D I h
 rw[exec_Assign_Name_used _ _ _ _ uL]
 refine am (sD (am ?_))
 show aw _ _ (do let _ <- comprehension (.ListComp dh [⟨tg,iter,ifs,0⟩] scope pos) scope X.nox.env _ (newList []) false (eval iter X.nox.env) (some (assign (.Name y py) X.nox.env))) _ _ s
 refine am (cY (YX (X:=X.nox) (use:=some (assign (.Name y py) X.nox.env)) (R:=fun _ s'=>SP X.nox ah D .next s') hc ⟨O.kind,O.nocell,O.loc,O.frees,O.fr⟩ hi hb hs I h (fun _ _=>Iff.rfl)
  fun p C H' s' m hm hC hL rW hz xI I' back q=>?_) (fun _ s' hq=>az (az hq)) fun _ _ e=>e)
 show aw _ _ (assign (.Name y py) X.nox.env (.ref p)) _ _ _
 refine TF (Yx (v:=.ref p) I' hN fO hy rfl (fun s2 I2 PX=>?_) hf)
 obtain⟨a,PY,ha⟩:=PX
 have R1:C≠a:=by
  rcases ha with rfl | e
  .exact hL
  .exact fun z=>rW _ _ e z.symm
 refine⟨m,hm.sameBut PY R1,fun h' eL=>?_⟩
 exact⟨_,H',I2.turned (t':=s2.toks) (fun b o hb e=>(eL.2 b hb).trans e) hC hL (.inr hz) rW xI,q⟩
section
variable {ah:List (aa×Obj)}{σ:St}{H:Hp}{tg:ay}
theorem Inv.relabel{u v:HO}(I:Inv X ah σ H s)(hu:H a=some u)(h1:∀xs,u≠.tup xs)(h2:∀ps,u≠.tbl ps)(h3:∀o z,X.H₀ a≠some (.frz o z))(h4:∀x,u≠.own x)(hv:ObjOk X.prog X.w (upd H a v) s.heap a v):Inv X ah σ (upd H a v) s:=by
 have ne:∀b,H b=none->b≠a:=fun b n z=>by rw[z,hu]at n;cases n
 have nt:∀b xs,H b=some (.tup xs)->b≠a:=fun b xs n z=>by rw[z,hu]at n;exact h1 xs (eW n)
 have no:∀b x,H b=some (.own x)->b≠a:=fun b x n z=>by rw[z,hu]at n;exact h4 x (eW n)
 refine⟨I.ok,I.os,I.bare,⟨I.base.keep,I.base.slot,fun b o e n hx=>?_,I.base.there,fun b xs e=>?_,fun b o z e=>?_,fun b ps e=>?_,I.base.stay⟩,I.loc,I.cell,?_,fun x c e=>?_,fun p hp=>?_,fun b o e=>?_,I.len⟩
 .have q:=I.base.free b o e n hx
  rw[jw (ne b q)];exact q
 .have q:=I.base.tups b xs e
  rw[jw (nt b xs q)];exact q
 .have hb:b≠a:=fun z'=>by subst z';exact h3 _ _ e
  rw[jw hb];exact I.base.frzs b o z e
 .obtain⟨m,q⟩:=I.base.tbls b ps e
  have hb:b≠a:=fun z'=>by rw[z',hu]at q;exact h2 _ (eW q)
  exact⟨m,by rw[jw hb];exact q⟩
 .rw[jw (ne _ I.free)];exact I.free
 .rw[jw (ne _ (I.freeC x c e))];exact I.freeC x c e
 .obtain⟨q1,q2,q3⟩:=I.pin p hp
  exact⟨q1,by rw[jw (ne _ q2)];exact q2,q3⟩
 .by_cases hb:b=a
  .subst hb
   rw[jd]at e
   cases e
   exact hv
  .rw[jw hb]at e
   exact (I.hok b o e).stay (fun _ _ _ q=>q) (fun c q=>by rw[jw (no c _ q)];exact q) fun c xs q=>by rw[jw (nt c xs q)];exact q
end
theorem JE:dW "enumerate" = some (.type "enumerate"):=by decide +kernel
def Ite(K:aC)(l:aa):It:=
 ⟨fun i H=>∃xs x,SqL K H l xs/\xs[i]?=some x,fun i H x H'=>∃t y,H t=none/\(∀xs,SqL K H l xs->xs[i]?=some y)/\x=.ref t/\H'=upd H t (.tup [.int i,y]),fun i H=>∃xs,SqL K H l xs/\xs.length<=i⟩
theorem jcy{P:aF}{K:aC}{eQ:List ay}{x1:Nat}{tp:Pos}(l e it:aa)(bM:e≠it):Turn P w K (.Tuple eQ x1 tp) (Ite K l) [e,it] e (fun i h=>(∃cB,iW h e it i cB)/\h.IsListIter it l i) where
 mem:=by simp
 obj:=fun i h st b hb=>by
  obtain⟨⟨cB,h1⟩,o,e2,c,d⟩:=st;rcases aM.mp hb with rfl | hb
  .exact⟨_,h1,fun v z=>by cases z⟩
  .rw[aN.mp hb]
   exact⟨o,e2,fun v z=>by rw[d]at z;cases z⟩
 keep:=fun i h h' st k=>by
  obtain⟨⟨cB,h1⟩,o,e2,c,d⟩:=st;exact⟨⟨cB,k e (by simp) _ h1⟩,o,k it (by simp) o e2,c,d⟩
 item:=by
  intro X hP hw hK hc i ah s σ H E I hf st hg;subst hP hw hK;obtain⟨xs,x,hq,hx⟩:=hg;obtain⟨⟨cB,hE⟩,cF⟩:=st;obtain⟨its,rv,p,hz⟩:=I.list hq;obtain⟨u,hu,ru⟩:=rv.get hx;obtain⟨a0,a1,a2,a3,a4,a5⟩:=hf e (by simp);obtain⟨f0,f1,f2,f3,f4,f5⟩:=hf it (by simp);refine wpAny_pyNext_enum_item hE cF p.isList (x:=u) (by simpa using hu) bM fun h' o1 o2 o3 o4 o5=>?_
  refine⟨_,rfl,TB (s:={ s with heap:=h',toks:=s.toks+1 }) o1 fun h2 g1 g2=>?_⟩;have hfr:H s.heap.objs.size=none:=I.hok.fresh (aL _);have kp:∀b o,b≠e->b≠it->s.heap.get? b=some o->h2.get? b=some o:=fun b o hb bQ q=>(g2.2 b hb).trans (o5 b o hb bQ q)
  have nt:∀b o,s.heap.get? b=some o->b≠s.heap.objs.size:=fun b o q=>bv (aS q)
  have ne:∀b z,H b=some z->b≠e/\b≠it:=fun b z q=>⟨fun t=>(by rw[t,a0]at q;cases q),fun t=>(by rw[t,f0]at q;cases q)⟩
  have pw:s.heap.objs.size≠e:=fun z=>absurd (aS hE) (by rw[<- z];exact iX _)
  have I1:Inv X ah σ (upd H s.heap.objs.size (.tup [.int i,x])) { s with heap:=h2,gens:=s.gens,drawn:=s.drawn,toks:=s.toks+1 }:=by
   refine I.step (g':=s.gens) (d':=s.drawn) (ch:=[e,it]) (fun b hb=>?_) (fun b o _ _ aU q _=>kp b o (fun z=>aU (by simp[z])) (fun z=>aU (by simp[z])) q) (fun b o _ _ aU q _=>⟨o.slots,kp b o (fun z=>aU (by simp[z])) (fun z=>aU (by simp[z])) q⟩)
    (fun b o _ q n=>by rw[jw (nt b o q)];exact n) (fun b o aU q=>⟨o,kp b o (fun z=>aU (by simp[z])) (fun z=>aU (by simp[z])) q⟩) (fun b ys q=>by rw[jw (jr q hfr)];exact q) (fun b o z q=>by rw[jw (jr q hfr)];exact q)
    (fun b ps q=>⟨#[],by rw[jw (jr q hfr),q];simp⟩) (fun m hm=>?_) (fun b z q=>?_) I.bare
   .rcases aM.mp hb with rfl | hb
    .exact⟨a3,a1,a4,a5⟩
    .rw[aN.mp hb];exact⟨f3,f1,f4,f5⟩
   .obtain⟨o,es,ep,ho,r⟩:=hm
    exact⟨o,es,ep,kp _ o (bB a1) (bB f1) ho,r⟩
   .by_cases hb:b=s.heap.objs.size
    .subst hb
     rw[jd]at q
     cases q
     refine⟨?_,[Value.int (i:Int) s.toks,u],.cons ⟨_,rfl⟩ (.cons ru .nil),_,(g2.2 _ pw).trans o3,rfl,0,rfl⟩;show 2<=aP;rw[fX];decide
    .rw[jw hb]at q
     refine (I.hok b z q).stay (fun c v aU q'=>?_) (fun c q'=>by rw[jw (jr q' hfr)];exact q') fun c ys q'=>by rw[jw (jr q' hfr)];exact q'
     rcases aU with rfl | aU
     .exact kp c v (ne c z q).1 (ne c z q).2 q'
     .exact kp c v (ne c _ aU).1 (ne c _ aU).2 q'
  refine⟨.ref s.heap.objs.size,_,I1,rfl,⟨_,x,hfr,fun ys hy=>by rw[I.list_inj hy hq];exact hx,rfl,rfl⟩,⟨⟨_,g1⟩,?_⟩,fun b hb=>?_⟩
  .obtain⟨o,z1,z2,z3⟩:=o2
   exact⟨o,(g2.2 it (bB bM)).trans z1,z2,z3⟩
  .rcases aM.mp hb with rfl | hb
   .rw[jw (bB pw)];exact a0
   .rw[aN.mp hb]
    have:it≠s.heap.objs.size:=by
     obtain⟨o,z1,_⟩:=cF;exact nt it o z1
    rw[jw this];exact f0
 done:=by
  intro X hP hw hK hc i ah s σ H E I hf st hg;subst hP hw hK;obtain⟨xs,hq,hx⟩:=hg;obtain⟨⟨cB,hE⟩,cF⟩:=st;obtain⟨its,rv,p,hz⟩:=I.list hq;obtain⟨f0,f1,f2,f3,f4,f5⟩:=hf it (by simp);have hl:=rv.length;exact wpAny_pyNext_enum_end (I.ok.hd hc) hE cF p.isList (by simp;omega) fun h' eb=>⟨rfl,I.turned (t':=s.toks) (fun b o hb e=>eb b o hb e) f0 f1 f3 f4 f5⟩
 self:=fun _ _ _ _ _ st h=>by
  obtain⟨⟨cB,hE⟩,_⟩:=st;exact Ee hE h
section
variable {eQ:List ay}{x1:Nat}{tp:Pos}
def jhn(K:aC)(ta:TA):TI:=fun σ H R=>ta σ H fun vs H1=>∃l,vs=[.ref l]/\(∃xs,SqL K H1 l xs)/\R (Ite K l) H1
end
end L2
namespace PySem
open AutoSeq1 (wpAny_loadPart')
variable {it e:aa}{i:Nat}{x cB:ac}{Q:ac->av->Prop}{items:Array ac}
section
variable {prog:aF}{w:aE}{A:aR}{E:ac->av->Prop}{s:av}
theorem zu{t:aa}{items}(cF:s.heap.IsTupleIter it t i)(ht:s.heap.IsTuple t items)(hx:items[i]?=some x)
  (hQ:∀h',h'.IsTupleIter it t (i+1)->dj it s.heap h'->Q x { s with heap:=h' }):aw (aA prog w) A (gC (.ref it)) Q E s:=by
 obtain⟨o,ho,hc,hd⟩:=id cF
 obtain⟨ol,nE,_,nl,hdl⟩:=ht
 unfold gC
 refine am (lU (name:=bu "__next__") cF.typeIs EH (gA EH cF.typeIs Vv ?_ (VA _)))
 show aw _ _ (field (.ref it) 0 >>= _) _ _ s
 refine am (cD ho hd (x:=.ref t) rfl ?_)
 show aw _ _ (if (Value.ref t == Value.none)=true then _ else _) _ _ s
 rw[WT (show ¬((Value.ref t == Value.none)=true) from bY)]
 show aw _ _ (field (.ref it) 1 >>= _) _ _ s
 refine am (cD ho hd (x:=.int i 0) rfl ?_)
 show aw _ _ (wb (.ref t) >>= _) _ _ s
 refine am (lR nE hdl ?_)
 simp only[oE,hx]
 refine am (Lv ho hd (by simp) (az ⟨x,rfl,az (hQ _ ?_ (pX ..))⟩))
 exact⟨_,ED _ ho (Obj.isFreed_of_fields (Vi hd _)),(Obj.cls_mapFields ..).trans hc,by rw[Vi hd];simp[cb]⟩
theorem zh{t:aa}{items}(hh:A.handled=none)(cF:s.heap.IsTupleIter it t i)(ht:s.heap.IsTuple t items)(hx:items[i]?=none)
  (hE:∀h' e,Vo it s.heap h'->(∃o,h'.get? e=some o/\o.cls=.type "StopIteration")->E (.ref e) { s with heap:=h' }):aw (aA prog w) A (gC (.ref it)) Q E s:=by
 obtain⟨o,ho,hc,hd⟩:=id cF
 obtain⟨ol,nE,_,nl,hdl⟩:=ht
 unfold gC
 refine am (lU (name:=bu "__next__") cF.typeIs EH (gA EH cF.typeIs Vv ?_ (VA _)))
 show aw _ _ (field (.ref it) 0 >>= _) _ _ s
 refine am (cD ho hd (x:=.ref t) rfl ?_)
 show aw _ _ (if (Value.ref t == Value.none)=true then _ else _) _ _ s
 rw[WT (show ¬((Value.ref t == Value.none)=true) from bY)]
 show aw _ _ (field (.ref it) 1 >>= _) _ _ s
 refine am (cD ho hd (x:=.int i 0) rfl ?_)
 show aw _ _ (wb (.ref t) >>= _) _ _ s
 refine am (lR nE hdl ?_)
 simp only[oE,hx]
 refine am (lS (am (Lv ho hd (by simp) ?_)))
 show aw _ _ (sN (.type "StopIteration") [] >>= _) _ _ _
 refine am ?_
 simp only[sN,El]
 refine am (fi ?_ (by size_fits))
 refine am (m:=AB _ _) (Aw (a:=Value.none) (by first | rfl | (simp only[AB];rfl)) ?_)
 refine fi ?_ (by size_fits)
 simp only[we]
 refine am (LB ?_)
 first | rw[show A.in1.handled=none from hh] | rw[hh]
 refine am (az (Ed ?_))
 exact hE _ _ (((pX ..).extBut.push _).push _) ⟨_,cg _ rfl,rfl⟩
theorem jc5{St:aB->Prop}(he:iW s.heap e it i cB)(bM:e≠it)
  (cI:∀Q':ac->av->Prop,(∀h',St h'->dj it s.heap h'->Q' x { s with heap:=h' })->aw (aA prog w) A (gC (.ref it)) Q' E s)
  (keep:∀h h',St h->(∀o,h.get? it=some o->h'.get? it=some o)->St h')
  (hQ:∀h',EC h' e it ((i:Int)+1) x s.heap.objs.size->St h'->h'.get? s.heap.objs.size=some { cls:=.type "tuple",data:=.seq #[.int i s.toks,x] }->h'.objs.size=s.heap.objs.size+1->
   (∀b o,b≠e->b≠it->s.heap.get? b=some o->h'.get? b=some o)->Q (.ref s.heap.objs.size) { s with heap:=h',toks:=s.toks+1 }) :
  aw (aA prog w) A (Builtin.«enumerate.__next__» ⟨[.ref e],[]⟩) (fun bE s'=>∃v,bE=.done (.ret v)/\Q v s') E s:=by
 obtain⟨hp,g,d,tk,os⟩:=s
 show aw _ _ (field (.ref e) 2 >>= _) _ _ _
 refine am (cD he rfl (x:=.ref it) rfl ?_)
 refine am (cI _ fun h1 wR b1=>?_)
 replace b1:dj it hp h1:=b1
 have e1:iW h1 e it i cB:=(b1.2 e bM).trans he
 show aw _ _ (field (.ref e) 3 >>= _) _ _ ⟨h1,g,d,tk,os⟩
 refine am (cD e1 rfl (x:=cb i) rfl ?_)
 show aw _ _ (field (.ref e) 4 >>= _) _ _ ⟨h1,g,d,tk,os⟩
 refine am (cD e1 rfl (x:=.none) rfl ?_)
 show aw _ _ (mkInt i >>= _) _ _ ⟨h1,g,d,tk,os⟩
 refine am (wpAny_mkInt ?_)
 show aw _ _ (mV (.ref e) 3 (cb ((i:Int)+1)) >>= _) _ _ ⟨h1,g,d,tk+1,os⟩
 refine am (hV e1 (by simp) fun h2 e2 b2=>?_)
 replace b2:dj e h1 h2:=b2
 replace e2:iW h2 e it ((i:Int)+1) cB:=e2
 show aw _ _ (mV (.ref e) 4 .none >>= _) _ _ ⟨h2,g,d,tk+1,os⟩
 refine am (hV e2 (by simp) fun h3 e3 b3=>?_)
 replace b3:dj e h2 h3:=b3
 replace e3:iW h3 e it ((i:Int)+1) cB:=e3
 show aw _ _ (El [.int i tk,x] >>= _) _ _ ⟨h3,g,d,tk+1,os⟩
 refine am (Eg ?_)
 have hsz:h3.objs.size=hp.objs.size:=by rw[b3.1,b2.1,b1.1]
 have mj:St h3:=keep h1 h3 wR fun o q=>(b3.2 it (bB bM)).trans ((b2.2 it (bB bM)).trans q)
 have e4:iW (h3.push { cls:=.type "tuple",data:=.seq #[.int i tk,x] }) e it ((i:Int)+1) cB:=bo _ e3
 have oK:St (h3.push { cls:=.type "tuple",data:=.seq #[.int i tk,x] }):=keep h3 _ mj fun o q=>bo _ q
 have t4:(h3.push { cls:=.type "tuple",data:=.seq #[.int i tk,x] }).get? hp.objs.size=some { cls:=.type "tuple",data:=.seq #[.int i tk,x] }:=by rw[<- hsz];exact cg _ rfl
 have z4:(h3.push { cls:=.type "tuple",data:=.seq #[.int i tk,x] }).objs.size=hp.objs.size+1:=by rw[fZ,hsz]
 have k4:∀b o,b≠e->b≠it->hp.get? b=some o->(h3.push { cls:=.type "tuple",data:=.seq #[.int i tk,x] }).get? b=some o:=fun b o gn xY hb=>
  bo _ (b3.extBut b o gn (b2.extBut b o gn (b1.extBut b o xY hb)))
 have iH:e < hp.objs.size:=aS he
 rw[hsz]
 generalize h3.push { cls:=.type "tuple",data:=.seq #[.int i tk,x] }=h4 at *
 clear e3 b3 e2 b2 e1 b1 wR mj hsz
 show aw _ _ (m7 (.ref e) >>= _) _ _ ⟨h4,g,d,tk+1,os⟩
 refine am ?_
 unfold m7
 refine am (cD e4 rfl (x:=.none) rfl (az ?_))
 simp only[if_true]
 refine am (lS ?_)
 refine am (cD e4 rfl (x:=cB) rfl ?_)
 refine am (hV e4 (by simp) fun h5 e5 b5=>?_)
 replace b5:dj e h4 h5:=b5
 replace e5:iW h5 e it ((i:Int)+1) x:=e5
 show aw _ _ (EM (.ref e) (.ref hp.objs.size) >>= _) _ _ ⟨h5,g,d,tk+1,os⟩
 refine am ?_
 unfold EM
 refine am (hV e5 (by simp) fun h6 e6 b6=>?_)
 replace b6:dj e h5 h6:=b6
 replace e6:EC h6 e it ((i:Int)+1) x hp.objs.size:=e6
 refine hV e6 (by simp) fun h7 e7 b7=>?_
 replace b7:dj e h6 h7:=b7
 replace e7:EC h7 e it ((i:Int)+1) x hp.objs.size:=e7
 have k7:∀b o,b≠e->h4.get? b=some o->h7.get? b=some o:=fun b o hb q=>b7.extBut b o hb (b6.extBut b o hb (b5.extBut b o hb q))
 refine am (Lz (az ⟨_,rfl,hQ h7 e7 (keep h4 h7 oK fun o q=>k7 it o (bB bM) q) (k7 _ _ (m9 iH) t4) (by rw[b7.1,b6.1,b5.1,z4]) fun b o gn xY hb=>k7 b o gn (k4 b o gn xY hb)⟩))
theorem jaE{t:aa}{Q:Option ac->av->Prop}
  (he:iW s.heap e it i cB) (cF:s.heap.IsTupleIter it t i) (ht:s.heap.IsTuple t items) (hx:items[i]?=some x) (bM:e≠it)
  (hQ:∀h',EC h' e it ((i:Int)+1) x s.heap.objs.size->h'.IsTupleIter it t (i+1)->h'.get? s.heap.objs.size=some { cls:=.type "tuple",data:=.seq #[.int i s.toks,x] }->h'.objs.size=s.heap.objs.size+1->
   (∀b o,b≠e->b≠it->s.heap.get? b=some o->h'.get? b=some o)->Q (some (.ref s.heap.objs.size)) { s with heap:=h',toks:=s.toks+1 }):aw (aA prog w) A (cL (.ref e)) Q E s:=by
 have hT:s.TypeIs (.ref e) "enumerate":=⟨_,he,rfl⟩
 unfold cL
 refine am (mU (lU (name:=bu "__next__") hT EI (gA EI hT Vx ?_ (VB _))))
 exact jc5 (St:=fun h=>h.IsTupleIter it t (i+1)) he bM (fun Q' k=>zu cF ht hx k) (fun h h' st k=>st.at k) fun h' a b c d k=>az (hQ h' a b c d k)
theorem Ka{t:aa}{Q:Option ac->av->Prop}(hh:A.handled=none)
  (he:iW s.heap e it i cB) (cF:s.heap.IsTupleIter it t i) (ht:s.heap.IsTuple t items) (hx:items[i]?=none)
  (hQ:∀h',Vo it s.heap h'->Q none { s with heap:=h' }):aw (aA prog w) A (cL (.ref e)) Q E s:=by
 have hT:s.TypeIs (.ref e) "enumerate":=⟨_,he,rfl⟩
 unfold cL
 refine am (mU (lU (name:=bu "__next__") hT EI (gA EI hT Vx ?_ (VB _))))
 show aw _ _ (field (.ref e) 2 >>= _) _ _ _
 refine am (cD he rfl (x:=.ref it) rfl ?_)
 refine am (zh hh cF ht hx fun h' x mM bq=>?_)
 obtain⟨o,ho,hc⟩:=bq
 refine am (lT (T:="StopIteration") (b:=true) ⟨o,ho,hc⟩ AA ?_)
 exact az (hQ _ mM)
theorem jeN(l:aa)(items:Array ac)(n:Nat)(Ag:Option aa)(sl:Array (Option ac)):
  Meets (Builtin.«enumerate.__new__» ⟨[.type "enumerate",.ref l],[]⟩) (fun _ R s=>s.heap.get? l=some { cls:=.type "tuple",dict:=Ag,data:=.seq items n,slots:=sl }/\
   R (.ok (.ret (.ref (s.heap.push { cls:=.type "tuple_iterator",data:=.fields #[.ref l,.int 0 0] }).objs.size)))
    { s with heap:=(s.heap.push { cls:=.type "tuple_iterator",data:=.fields #[.ref l,.int 0 0] }).push { cls:=.type "enumerate",data:=.fields #[.none,.bool false,.ref s.heap.objs.size,cb 0,.none,.none] } }):=
 .of_wp fun prog w A R s h=>by
  obtain⟨hp,g,d,tk,os⟩:=s;obtain⟨hl,h⟩:=h;have uM:=sub_enumerate;have hL:EF (Mp ⟨hp,g,d,tk,os⟩) l items:=⟨_,hl,rfl,n,rfl⟩
  wp_walk using wpAny_loadPart' hl;refine wpAny_stack_any fun st=>az ?_
  split
  .rename_i c _ _ _ _ _
   cases (c == Value.type "enumerate")
   .wp_walk using wpAny_loadPart' hl,sE hL
    exact⟨_,rfl,h⟩
   .wp_walk using wpAny_loadPart' hl,sE hL
    exact⟨_,rfl,h⟩
  .wp_walk using wpAny_loadPart' hl,sE hL
   exact⟨_,rfl,h⟩
theorem jbw{l:aa}(hL:s.heap.IsTuple l items)
  (h:∀h',iW h' (s.heap.objs.size+1) s.heap.objs.size 0 .none->h'.IsTupleIter s.heap.objs.size l 0->h'.objs.size=s.heap.objs.size+2->
   (∀b o,s.heap.get? b=some o->h'.get? b=some o)->Q (.ref (s.heap.objs.size+1)) { s with heap:=h' }) :
  aw (aA prog w) A (call (.type "enumerate") [.ref l]) Q E s:=by
 obtain⟨⟨c,Ag,dt,sl⟩,hl,hc,n,hd⟩:=hL
 replace hc:c=.type "tuple":=hc
 replace hd:dt=.seq items n:=hd
 subst hc hd
 refine callType_new F.called_enumerate (by decide) (F.typeCall_enumerate_1 _) (F.newCall_enumerate_1 _) (fun obj=>F.args_object_init_2 obj _) F.entry_enumerate_new (jeN l items n Ag sl) ⟨hl,?_⟩
 have hz:(s.heap.push { cls:=.type "tuple_iterator",data:=.fields #[.ref l,.int 0 0] }).objs.size=s.heap.objs.size+1:=fZ ..
 show _/\_
 rw[hz]
 have he:iW ((s.heap.push { cls:=.type "tuple_iterator",data:=.fields #[.ref l,.int 0 0] }).push { cls:=.type "enumerate",data:=.fields #[.none,.bool false,.ref s.heap.objs.size,cb 0,.none,.none] }) (s.heap.objs.size+1) s.heap.objs.size 0 .none:=by
  have:=cg (s.heap.push { cls:=.type "tuple_iterator",data:=.fields #[.ref l,.int 0 0] }) (o:={ cls:=.type "enumerate",data:=.fields #[.none,.bool false,.ref s.heap.objs.size,cb 0,.none,.none] }) rfl;rw[hz]at this;exact this
 exact⟨⟨_,he,rfl⟩,h _ he ⟨_,bo _ (cg _ rfl),rfl,rfl⟩ (by rw[fZ,hz]) fun b o x=>bo _ (bo _ x)⟩
end
end PySem
namespace L2
open PySem PySem.Spec PyProof.Rows
def jhv(K:aC)(l:aa):It:=
 ⟨fun i H=>∃xs x,SqT K H l xs/\xs[i]?=some x,fun i H x H'=>∃t y,H t=none/\(∀xs,SqT K H l xs->xs[i]?=some y)/\x=.ref t/\H'=upd H t (.tup [.int i,y]),fun i H=>∃xs,SqT K H l xs/\xs.length<=i⟩
theorem jaX{P:aF}{w:aE}{K:aC}{eQ:List ay}{x1:Nat}{tp:Pos}(l e it:aa)(bM:e≠it):Turn P w K (.Tuple eQ x1 tp) (jhv K l) [e,it] e (fun i h=>(∃cB,iW h e it i cB)/\h.IsTupleIter it l i) where
 mem:=by simp
 obj:=fun i h st b hb=>by
  obtain⟨⟨cB,h1⟩,o,e2,c,d⟩:=st;rcases aM.mp hb with rfl | hb
  .exact⟨_,h1,fun v z=>by cases z⟩
  .rw[aN.mp hb]
   exact⟨o,e2,fun v z=>by rw[d]at z;cases z⟩
 keep:=fun i h h' st k=>by
  obtain⟨⟨cB,h1⟩,o,e2,c,d⟩:=st;exact⟨⟨cB,k e (by simp) _ h1⟩,o,k it (by simp) o e2,c,d⟩
 item:=by
  intro X hP hw hK hc i ah s σ H E I hf st hg;subst hP hw hK;obtain⟨xs,x,hq,hx⟩:=hg;obtain⟨⟨cB,hE⟩,cF⟩:=st;obtain⟨its,rv,p,hz⟩:=I.tuple hq;obtain⟨u,hu,ru⟩:=rv.get hx;obtain⟨a0,a1,a2,a3,a4,a5⟩:=hf e (by simp);obtain⟨f0,f1,f2,f3,f4,f5⟩:=hf it (by simp);refine jaE hE cF (show s.heap.IsTuple l its.toArray from p) (x:=u) (by simpa using hu) bM fun h' o1 o2 o3 o4 o5=>?_
  refine⟨_,rfl,TB (s:={ s with heap:=h',toks:=s.toks+1 }) o1 fun h2 g1 g2=>?_⟩;have hfr:H s.heap.objs.size=none:=I.hok.fresh (aL _);have kp:∀b o,b≠e->b≠it->s.heap.get? b=some o->h2.get? b=some o:=fun b o hb bQ q=>(g2.2 b hb).trans (o5 b o hb bQ q)
  have nt:∀b o,s.heap.get? b=some o->b≠s.heap.objs.size:=fun b o q=>bv (aS q)
  have ne:∀b z,H b=some z->b≠e/\b≠it:=fun b z q=>⟨fun t=>(by rw[t,a0]at q;cases q),fun t=>(by rw[t,f0]at q;cases q)⟩
  have pw:s.heap.objs.size≠e:=fun z=>absurd (aS hE) (by rw[<- z];exact iX _)
  have I1:Inv X ah σ (upd H s.heap.objs.size (.tup [.int i,x])) { s with heap:=h2,gens:=s.gens,drawn:=s.drawn,toks:=s.toks+1 }:=by
   refine I.step (g':=s.gens) (d':=s.drawn) (ch:=[e,it]) (fun b hb=>?_) (fun b o _ _ aU q _=>kp b o (fun z=>aU (by simp[z])) (fun z=>aU (by simp[z])) q) (fun b o _ _ aU q _=>⟨o.slots,kp b o (fun z=>aU (by simp[z])) (fun z=>aU (by simp[z])) q⟩)
    (fun b o _ q n=>by rw[jw (nt b o q)];exact n) (fun b o aU q=>⟨o,kp b o (fun z=>aU (by simp[z])) (fun z=>aU (by simp[z])) q⟩) (fun b ys q=>by rw[jw (jr q hfr)];exact q) (fun b o z q=>by rw[jw (jr q hfr)];exact q)
    (fun b ps q=>⟨#[],by rw[jw (jr q hfr),q];simp⟩) (fun m hm=>?_) (fun b z q=>?_) I.bare
   .rcases aM.mp hb with rfl | hb
    .exact⟨a3,a1,a4,a5⟩
    .rw[aN.mp hb];exact⟨f3,f1,f4,f5⟩
   .obtain⟨o,es,ep,ho,r⟩:=hm
    exact⟨o,es,ep,kp _ o (bB a1) (bB f1) ho,r⟩
   .by_cases hb:b=s.heap.objs.size
    .subst hb
     rw[jd]at q
     cases q
     refine⟨?_,[Value.int (i:Int) s.toks,u],.cons ⟨_,rfl⟩ (.cons ru .nil),_,(g2.2 _ pw).trans o3,rfl,0,rfl⟩;show 2<=aP;rw[fX];decide
    .rw[jw hb]at q
     refine (I.hok b z q).stay (fun c v aU q'=>?_) (fun c q'=>by rw[jw (jr q' hfr)];exact q') fun c ys q'=>by rw[jw (jr q' hfr)];exact q'
     rcases aU with rfl | aU
     .exact kp c v (ne c z q).1 (ne c z q).2 q'
     .exact kp c v (ne c _ aU).1 (ne c _ aU).2 q'
  refine⟨.ref s.heap.objs.size,_,I1,rfl,⟨_,x,hfr,fun ys hy=>by rw[I.tuple_inj hy hq];exact hx,rfl,rfl⟩,⟨⟨_,g1⟩,?_⟩,fun b hb=>?_⟩
  .obtain⟨o,z1,z2,z3⟩:=o2
   exact⟨o,(g2.2 it (bB bM)).trans z1,z2,z3⟩
  .rcases aM.mp hb with rfl | hb
   .rw[jw (bB pw)];exact a0
   .rw[aN.mp hb]
    have:it≠s.heap.objs.size:=by
     obtain⟨o,z1,_⟩:=cF;exact nt it o z1
    rw[jw this];exact f0
 done:=by
  intro X hP hw hK hc i ah s σ H E I hf st hg;subst hP hw hK;obtain⟨xs,hq,hx⟩:=hg;obtain⟨⟨cB,hE⟩,cF⟩:=st;obtain⟨its,rv,p,hz⟩:=I.tuple hq;obtain⟨f0,f1,f2,f3,f4,f5⟩:=hf it (by simp);have hl:=rv.length;exact Ka (I.ok.hd hc) hE cF (show s.heap.IsTuple l its.toArray from p) (by simp;omega) fun h' eb=>⟨rfl,I.turned (t':=s.toks) (fun b o hb e=>eb b o hb e) f0 f1 f3 f4 f5⟩
 self:=fun _ _ _ _ _ st h=>by
  obtain⟨⟨cB,hE⟩,_⟩:=st;exact Ee hE h
variable {X:Cx}
section
variable {eQ:List ay}{x1:Nat}{tp:Pos}
def jgw(K:aC)(ta:TA):TI:=fun σ H R=>ta σ H fun vs H1=>∃l,vs=[.ref l]/\(∃xs,SqT K H1 l xs)/\R (jhv K l) H1
end
open PySem PySem.Spec PyProof.Rows PySem.W
mutual
def dEq:D->D->Bool
 | .int i,.int j=>i == j
 | .str x,.str y=>x == y
 | .tup a,.tup b=>dEqL a b
 | _,_=>false
def dEqL:List D->List D->Bool
 | [],[]=>true
 | a :: as,b :: bs=>dEq a b && dEqL as bs
 | _,_=>false
end
mutual
theorem ZK:∀{a b:D},dEq a b=true↔a=b
 | .int i,.int j=>by unfold dEq;rw[beq_iff_eq];exact⟨(fun h=>by rw[h]),(fun h=>by injection h)⟩
 | .str i,.str j=>by unfold dEq;rw[beq_iff_eq];exact⟨(fun h=>by rw[h]),(fun h=>by injection h)⟩
 | .tup a,.tup b=>by unfold dEq;rw[dEqL_iff];exact⟨(fun h=>by rw[h]),(fun h=>by injection h)⟩
 | .int i,.str j=>by unfold dEq;exact⟨(fun h=>by cases h),(fun h=>by cases h)⟩
 | .int i,.tup j=>by unfold dEq;exact⟨(fun h=>by cases h),(fun h=>by cases h)⟩
 | .str i,.int j=>by unfold dEq;exact⟨(fun h=>by cases h),(fun h=>by cases h)⟩
 | .str i,.tup j=>by unfold dEq;exact⟨(fun h=>by cases h),(fun h=>by cases h)⟩
 | .tup i,.int j=>by unfold dEq;exact⟨(fun h=>by cases h),(fun h=>by cases h)⟩
 | .tup i,.str j=>by unfold dEq;exact⟨(fun h=>by cases h),(fun h=>by cases h)⟩
theorem dEqL_iff:∀{a b:List D},dEqL a b=true↔a=b
 | [],[]=>by unfold dEqL;exact⟨(fun _=>rfl),(fun _=>rfl)⟩
 | a :: as,b :: bs=>by
  unfold dEqL;rw[cO,ZK,dEqL_iff];exact⟨(fun h=>by rw[h.1,h.2]),(fun h=>by injection h with h1 h2;exact⟨h1,h2⟩)⟩
 | [],b :: bs=>by unfold dEqL;exact⟨(fun h=>by cases h),(fun h=>by cases h)⟩
 | a :: as,[]=>by unfold dEqL;exact⟨(fun h=>by cases h),(fun h=>by cases h)⟩
end
instance:DecidableEq D:=fun a b=>if h:dEq a b=true then isTrue (ZK.mp h) else isFalse fun e=>h (ZK.mpr e)
def LikeV(K:aC)(H:Hp):Nat->V->V->Prop
 | 0,x,y=>(∃i,x=.int i/\y=.int i)\/∃z,x=.str z/\y=.str z
 | n+1,x,y=>LikeV K H n x y\/
  (∃a b xs ys,x=.ref a/\y=.ref b/\SqT K H a xs/\SqT K H b ys/\xs.length=ys.length/\∀(j:Nat) x' y',xs[j]?=some x'->ys[j]?=some y'->LikeV K H n x' y')\/
  ∃a b xs ys,x=.ref a/\y=.ref b/\SqL K H a xs/\SqL K H b ys/\xs.length=ys.length/\∀(j:Nat) x' y',xs[j]?=some x'->ys[j]?=some y'->LikeV K H n x' y'
theorem Jw{K:aC}{H:Hp}(i:Int):∀n,LikeV K H n (.int i) (.int i)
 | 0=>.inl ⟨i,rfl,rfl⟩
 | n+1=>.inl (Jw i n)
theorem Jv{K:aC}{H:Hp}(z:Str):∀n,LikeV K H n (.str z) (.str z)
 | 0=>.inr ⟨z,rfl,rfl⟩
 | n+1=>.inl (Jv z n)
variable {H:Hp}
theorem LikeV.up{K:aC}{n m:Nat}{x y:V}(h:LikeV K H n x y)(hm:n<=m):LikeV K H m x y:=by
 induction hm with
 | refl=>exact h
 | step _ ih=>exact .inl ih
section
variable {ah:List (aa×Obj)}{σ:St}{s:av}
theorem Y8{xs ys:List V}{its cM:List ac}{A:aR}(hl:xs.length=ys.length)(io:Vals xs its)(k_:Vals ys cM)(h:∀(j:Nat) x' y' u' v',xs[j]?=some x'->ys[j]?=some y'->RelV x' u'->RelV y' v'->fm A s u' v' true):
  ∀j (h1:j < its.toArray.size) (h2:j < cM.toArray.size),fm A s its.toArray[j] cM.toArray[j] true:=fun j h1 h2=>by
 have l3:=io.length
 have gr:j < its.length:=by simpa using h1
 have bq:xs[j]?=some (xs[j]'(by omega+splitNatSub)):=aI (by omega)
 have ck:ys[j]?=some (ys[j]'(by omega+splitNatSub)):=aI (by omega)
 obtain⟨u',dm,NO⟩:=io.get bq
 obtain⟨v',uI,NL⟩:=k_.get ck
 have eu:its.toArray[j]=u':=by
  have:=(bN.mp dm).2;simpa using this
 have ev:cM.toArray[j]=v':=by
  have:=(bN.mp uI).2;simpa using this
 rw[eu,ev]
 exact h j _ _ u' v' bq ck NO NL
theorem yN(I:Inv X ah σ H s):∀(n:Nat) (A:aR) (x y:V) (u v:ac),A.units+n < cLine->LikeV X.K H n x y->RelV x u->RelV y v->fm A s u v true
 | 0,A,x,y,u,v,hA,h,ru,rv=>by
  rcases h with⟨i,rfl,rfl⟩ | ⟨z,rfl,rfl⟩
  .obtain⟨t,rfl⟩:=ru
   obtain⟨t',rfl⟩:=rv;have:=Vd (A:=A) (s:=s) i t i t';rw[beq_self_eq_true]at this;exact this
  .obtain⟨t,rfl⟩:=ru
   obtain⟨t',rfl⟩:=rv;have:=U_ (A:=A) (s:=s) z t z t';rw[beq_self_eq_true]at this;exact this
 | n+1,A,x,y,u,v,hA,h,ru,rv=>by
  rcases h with h | ⟨a,b,xs,ys,rfl,rfl,ha,hb,hl,hj⟩ | ⟨a,b,xs,ys,rfl,rfl,ha,hb,hl,hj⟩
  .exact yN I n A x y u v (by omega) h ru rv
  .cases ru;cases rv
   by_cases cV:a=b
   .subst cV;exact Mu _
   .obtain⟨its,io,ta,_⟩:=I.tuple ha
    obtain⟨cM,k_,tb,_⟩:=I.tuple hb;refine Vb cV ?_;have l3:=io.length;have l4:=k_.length;have dv:=SeqAt.RcAt.tuples (A:=A) (s:=s) (e:=fun _=>true) (show s.heap.IsTuple a its.toArray from ta) (show s.heap.IsTuple b cM.toArray from tb) (by omega) (Y8 hl io k_ fun j x' y' u' v' e1 e2 r1 r2=>yN I n A.in1 x' y' u' v' (by show A.units+1+n < cLine;omega) (hj j x' y' e1 e2) r1 r2);have e:((cE (min its.toArray.size cM.toArray.size)).all (fun _=>true) && its.toArray.size == cM.toArray.size)=true:=by
     have:its.toArray.size=cM.toArray.size:=by simp;omega
     rw[this];simp
    rw[e]at dv;exact dv
  .cases ru;cases rv
   by_cases cV:a=b
   .subst cV;exact Mu _
   .obtain⟨its,io,ta,_⟩:=I.list ha
    obtain⟨cM,k_,tb,_⟩:=I.list hb;refine Vb cV ?_;have l3:=io.length;have l4:=k_.length;have dv:=U8 (A:=A) (s:=s) (e:=fun _=>true) ta.isList tb.isList (by simp;omega) (by omega) (Y8 hl io k_ fun j x' y' u' v' e1 e2 r1 r2=>yN I n A.in1 x' y' u' v' (by show A.units+1+n < cLine;omega) (hj j x' y' e1 e2) r1 r2);have e:(cE its.toArray.size).all (fun _=>true)=true:=by simp
    rw[e]at dv;exact dv
end
def TKF(H H':Hp):Prop:=(∀b xs,H b=some (.tup xs)->H' b=some (.tup xs))/\∀b o u,H b=some (.frz o u)->H' b=some (.frz o u)
theorem TKF.same{H':Hp}(h:Same H H'):TKF H H':=⟨fun b xs e=>h b _ e,fun b o u e=>h b _ e⟩
section
variable {prog:aF}{w:aE}{A:aR}{E:ac->av->Prop}{s:av}
theorem jeS{t b:aa}{vs ws:List ac}{Q:ac->av->Prop}(ht:IsTup s.heap t vs.toArray)(hb:IsTup s.heap b ws.toArray)(hv:vs=[])(h:Q (.ref b) s):aw (aA prog w) A (fj .Add (.ref t) (.ref b)) Q E s:=by
 obtain⟨⟨cls,dd,data,sl⟩,ho,hc,n,hd⟩:=id ht;obtain⟨⟨Sy,nY,data2,wS⟩,lE,iJ,n2,gT⟩:=id hb;simp only at hc hd iJ gT;subst hc hd iJ gT;exact L8 ⟨_,ho,rfl⟩ ⟨_,lE,rfl⟩ LV LQ My MA (MB _ _)
   (tuple_addW0 t b vs.toArray ws.toArray n n2 dd nY sl wS (by simp[hv])) ⟨ho,lE,h⟩
end
def jga:R2:=fun x y H Q=>∃a b xs ys,x=.ref a/\y=.ref b/\H a=some (.tup xs)/\H b=some (.tup ys)/\xs.length+ys.length<=aP/\∀p H',Same H H'->H' p=some (.tup (xs++ys))->Q (.ref p) H'
theorem qg:OpR X (fj .Add) jga:=by
 intro ah s σ H x y v u Q I rx ry h;obtain⟨a,b,xs,ys,rfl,rfl,ha,hb,hz,q⟩:=h;by_cases hx:xs=[]
 .cases rx
  cases ry
  obtain⟨its,r1,p1,_⟩:=I.tuple (SqT.of ha);obtain⟨cM,r2,p2,_⟩:=I.tuple (SqT.of hb);subst hx;exact jeS p1 p2 (r1.nil_iff.mpr rfl) ⟨.ref b,H,I,rfl,q b H (Same.refl _) hb⟩
 .refine jfj ah s σ H (.ref a) (.ref b) v u Q I rx ry ⟨a,b,xs,ys,rfl,rfl,SqT.of ha,SqT.of hb,hx,hz,fun hy=>q a H (Same.refl _) (by rw[hy,cv];exact ha),fun _ p hp=>q p _ (fun c o e=>by rw[jw (jr e hp)];exact e) jd⟩
def jgR(t:TS):TS:=fun D σ H=>∃J:St->Hp->Prop,t { D with nx:=J } σ H/\∀σ' H',J σ' H'->D.nx σ' H'
end L2
namespace LW
open PySem L2
mutual
theorem jb6{H H':Hp}(e:∀b xs,H b=some (.tup xs)->H' b=some (.tup xs)):∀{d:D} {v:V},Held H d v->Held H' d v
 | .int i,v,h=>by unfold Held at h |-;exact h
 | .str x,v,h=>by unfold Held at h |-;exact h
 | .tup ds,v,h=>by
  unfold Held at h |-;obtain⟨a,xs,e1,e2,e3⟩:=h;exact⟨a,xs,e1,e a _ e2,heldL_tk e e3⟩
theorem heldL_tk{H H':Hp}(e:∀b xs,H b=some (.tup xs)->H' b=some (.tup xs)):∀{ds:List D} {vs:List V},HeldL H ds vs->HeldL H' ds vs
 | [],vs,h=>by unfold HeldL at h |-;exact h
 | d :: ds,vs,h=>by
  unfold HeldL at h |-;obtain⟨v,r,e1,e2,e3⟩:=h;exact⟨v,r,e1,jb6 e e2,heldL_tk e e3⟩
end
def TK(G G':Hp):Prop:=∀b xs,G b=some (.tup xs)->G' b=some (.tup xs)
variable {G:Hp}
theorem TK.trans{G1 G2:Hp}(h:TK G G1)(h':TK G1 G2):TK G G2:=fun b xs e=>h' b xs (h b xs e)
variable {G':Hp}
theorem TK.same(h:Same G G'):TK G G':=fun b xs e=>h b _ e
theorem TK.upd{a:aa}{o u:HO}(h:G a=some o)(hn:∀xs,o≠.tup xs):TK G (L2.upd G a u):=fun b xs e=>by
 rw[jw (jfR e h (fun z=>hn xs z.symm))];exact e
theorem TK.heldL(h:TK G G'){d:List D}{v:List V}(x:HeldL G d v):HeldL G' d v:=heldL_tk h x
theorem TK.held(h:TK G G'){d:D}{v:V}(x:Held G d v):Held G' d v:=jb6 h x
inductive SO(H:Hp):List (Option D)->List V->Prop where
 | nil:SO H [] []
 | non {os:List (Option D)} {vs:List V} (r:SO H os vs):SO H (none :: os) (.non :: vs)
 | tree {d:D} {v:V} {os:List (Option D)} {vs:List V} (h:Held H d v) (r:SO H os vs):SO H (some d :: os) (v :: vs)
theorem SO.tk{H H':Hp}(e:TK H H'){os:List (Option D)}{vs:List V}(h:SO H os vs):SO H' os vs:=by
 induction h with
 | nil=>exact .nil
 | non _ ih=>exact .non ih
 | tree h _ ih=>exact .tree (e.held h) ih
end LW
namespace L2
open PySem PySem.Spec PyProof.Rows PySem.W
abbrev RD:=St->Hp->D->Prop
abbrev RDL:=St->Hp->List D->Prop
def tHD(R:RD):TE:=fun σ H Q=>∃d,R σ H d/\∀v H',Same H H'->Held H' d v->Q v H'
def jhA(R:RDL):TA:=fun σ H Q=>∃ds,R σ H ds/\∀vs H',Same H H'->HeldL H' ds vs->Q vs H'
structure PD(X:Cx)(e:ay)(R:RD):Prop where
 h:PE X e (tHD R)
 m:∀{σ H H' d},Same H H'->R σ H d->R σ H' d
structure PDs(X:Cx)(es:List ay)(R:RDL):Prop where
 h:PA X es (jhA R)
 m:∀{σ H H' d},Same H H'->R σ H d->R σ H' d
def rV(i:Nat):RD:=fun σ H d=>∃v,σ[i]?=some (some v)/\Held H d v
def rK(c:D):RD:=fun _ _ d=>d=c
def rN:RDL:=fun _ _ ds=>ds=[]
def rC(R:RD)(Rs:RDL):RDL:=fun σ H ds=>∃d r,ds=d :: r/\R σ H d/\Rs σ H r
def rT(R:RDL):RD:=fun σ H d=>∃ds,d=.tup ds/\ds.length<=1000/\R σ H ds
def rE(t:TE):RD:=fun σ H d=>∀G,Same H G->∀Q:VK,(∀v G',Same G G'->Held G' d v->Q v G')->t σ G Q
variable {X:Cx}{e:ay}
theorem PE.weak{t t':TE}(h:PE X e t)(w:∀σ H Q,t' σ H Q->t σ H Q):PE X e t':=fun ah s σ H Q I q=>h ah s σ H Q I (w σ H Q q)
variable {es:List ay}
theorem PA.weak{t t':TA}(h:PA X es t)(w:∀σ H Q,t' σ H Q->t σ H Q):PA X es t':=fun pos ah s σ H Q I q=>h pos ah s σ H Q I (w σ H Q q)
theorem fQ{a b c}(h:FnScope a b c:=by exact⟨rfl,rfl,rfl,by decide +kernel,rfl,by decide +kernel,by decide +kernel⟩):FnScope a b c:=h
theorem oQ{p q:Prop}(h:p\/q:=by first|exact .inl rfl|exact .inr rfl):p\/q:=h
variable {H:Hp}
theorem jhS{i:Nat}{v:V}{σ σ':St}{Q:St->Hp->Prop}(e:σ.set i (some v)=σ')(h:Q σ' H):qh i v σ H Q:=by subst e;exact h
theorem gQ{i:Nat}{v:V}{σ σ':St}{Q:St->Hp->Prop}(h:Q σ' H)(e:σ.set i (some v)=σ':=by simp only[List.set_cons_succ,List.set_cons_zero];rfl):qh i v σ H Q:=jhS e h
theorem jP{t:TS}{D:Ends}{σ σ':St}(e:σ=σ')(h:t D σ' H):t D σ H:=by subst e;exact h
theorem je{p:aa}(h:H p=none)(o:HO):Same H (upd H p o):=fun b u q=>by rw[jw (jr q h)];exact q
theorem zP(H:Hp):Same H H:=fun _ _ e=>e
section
theorem jbb(i:Nat){x:Str}{pos:Pos}(hN:X.N[i]?=some x:=by rfl)(hv:Vis X.env.scope x:=by first | exact Or.inl rfl | exact Or.inr (Or.inl rfl) | exact Or.inr (Or.inr rfl))(hd:(x == ("__debug__" : Str))=false:=by decide)
  (dz:(x == ("__classdict__" : Str))=false:=by decide):PD X (.Name x pos) (rV i):=
 ⟨(jdV hN hv hd dz).weak fun σ H Q ⟨d,⟨v,e,hv⟩,q⟩=>⟨v,e,q v H (zP H) hv⟩,fun s ⟨v,e,h⟩=>⟨v,e,h.mono s⟩⟩
theorem jgb{i j pos}:PD X (.Constant (.int i) j pos) (rK (.int i)):=⟨jdY.weak fun σ H Q ⟨d,e,q⟩=>by cases e;exact q _ H (zP H) jX,fun _ h=>h⟩
theorem Zk{x j pos}:PD X (.Constant (.str x) j pos) (rK (.str x)):=⟨jdX.weak fun σ H Q ⟨d,e,q⟩=>by cases e;exact q _ H (zP H) jl,fun _ h=>h⟩
theorem jg8{t:TE}(h:PE X e t):PD X e (rE t):=⟨h.weak fun σ H Q ⟨d,r,q⟩=>r H (zP H) Q q,fun s r G sG Q q=>r G (s.trans sG) Q q⟩
theorem Zj:PDs X [] rN:=⟨jd3.weak fun σ H Q ⟨d,e,q⟩=>by cases e;exact q _ H (zP H) jj,fun _ h=>h⟩
theorem qw{R:RD}{Rs:RDL}(h:PD X e R)(hs:PDs X es Rs)(hp:qb e=true:=by rfl):PDs X (e :: es) (rC R Rs):=by
 refine⟨(jhb h.h hs.h hp).weak fun σ H Q ⟨ds,⟨d,r,e,h1,h2⟩,q⟩=>?_,fun s ⟨d,r,e,h1,h2⟩=>⟨d,r,e,h.m s h1,hs.m s h2⟩⟩;subst e;exact⟨d,h1,fun v H1 s1 hv=>⟨r,hs.m s1 h2,fun vs H2 s2 xx=>q _ _ (s1.trans s2) (jb (hv.mono s2) xx)⟩⟩
theorem jbc{R:RDL}{x1}{pos:Pos}(h:PDs X es R):PD X (.Tuple es x1 pos) (rT R):=by
 refine⟨(jdW h.h).weak fun σ H Q ⟨d,⟨ds,e,hl,hr⟩,q⟩=>?_,fun s ⟨ds,e,hl,hr⟩=>⟨ds,e,hl,h.m s hr⟩⟩;subst e;refine⟨ds,hr,fun vs H1 s1 xx=>⟨?_,fun p hp=>?_⟩⟩
 .rw[<- xx.length]
  exact cu (jz hl)
 .exact q _ _ (s1.trans (je hp _)) (Jx jd (xx.mono (je hp _)))
structure QA(X:Cx)(es:List ay)(t:TA):Prop where
 h:PA X es t
structure QE(X:Cx)(e:ay)(t:TE):Prop where
 h:PE X e t
end
end L2
namespace PySem
section
variable {prog:aF}{w:aE}{A:aR}{E:ac->av->Prop}{s:av}
abbrev yh(h:aB)(z TI TO:aa)(f0:ac)(b:Bool):Prop:=
 h.get? z=some { cls:=.type "zip",dict:=none,data:=.fields #[f0,.bool b,.bool false,.ref TI,.ref TO],slots:=#[] }
theorem Ks{z TI TO i1 i2 l1 T:aa}{oT:Obj}{bb:Bool}{k1:Nat}{xs:Array ac}{Q:Fin->av->Prop}(hh:A.handled=none)
  (n1:i1≠z) (m1:l1≠z) (hz:yh s.heap z TI TO (cb T) bb) (hT:s.heap.get? T=some oT) (iM:cT s.heap TI (.ref i1) (.ref i2)) (h1:s.heap.IsTupleIter i1 l1 k1) (bJ:s.heap.IsTuple l1 xs) (hx:xs[k1]?=none)
  (hE:∀h' e,(∀c o,c≠z->c≠i1->s.heap.get? c=some o->h'.get? c=some o)->(∃o,h'.get? e=some o/\o.cls=.type "StopIteration")->E (.ref e) { s with heap:=h' }) :
  aw (aA prog w) A (Builtin.«zip.__next__» ⟨[.ref z],[]⟩) Q E s:=by
 show aw _ _ (field (.ref z) 2 >>= _) _ _ _
 refine am (cD hz rfl (x:=.bool false) rfl ?_)
 show aw _ _ (field (.ref z) 3 >>= _) _ _ _
 refine am (cD hz rfl (x:=.ref TI) rfl ?_)
 refine am (lR iM rfl ?_)
 show aw _ _ (m7 (.ref z) >>= _) _ _ _
 refine am ?_
 unfold m7
 refine am (cD hz rfl (x:=cb T) rfl ?_)
 show aw _ _ (loadIfAlive ((T:Int).toNat) >>= _) _ _ _
 rw[oE]
 refine am (W.kdx_alive hT ?_)
 simp only[V4,oF,if_false]
 refine am (cD hz rfl (x:=.bool bb) rfl ?_)
 cases bb with
 | true=>
  rw[WT (show ¬((Value.bool true != Value.bool true)=true) from bY)]
  refine az ?_
  simp only[oF,if_false,<- wz,q_,oB]
  refine am (am (am (dD ?_)))
  show aw _ _ (gC (.ref i1) >>= _) _ _ _
  exact am (zh hh (h1) (bJ) hx fun h2 e b2 he=>hE h2 e (fun c o c1 c3 x=>b2 _ _ c3 (x)) he)
 | false=>
  rw[WU (show (Value.bool false != Value.bool true)=true from rfl)]
  refine am (hV hz (by simp) fun gr e1 b1=>?_)
  replace b1:dj z s.heap gr:=b1
  refine az ?_
  simp only[oF,if_false,<- wz,q_,oB]
  refine am (am (am (dD ?_)))
  show aw _ _ (gC (.ref i1) >>= _) _ _ _
  exact am (zh hh (h1.extBut b1.extBut n1) (bJ.extBut b1.extBut m1) hx fun h2 e b2 he=>hE h2 e (fun c o c1 c3 x=>b2 _ _ c3 (b1.extBut _ _ c1 x)) he)
theorem yR{z TI TO i1 i2 l1:aa}{k1:Nat}{xs:Array ac}{Q:Fin->av->Prop}(hh:A.handled=none)
  (n1:i1≠z) (m1:l1≠z) (hz:IsZip s.heap z TI TO .none) (iM:cT s.heap TI (.ref i1) (.ref i2)) (h1:s.heap.IsTupleIter i1 l1 k1) (bJ:s.heap.IsTuple l1 xs) (hx:xs[k1]?=none)
  (hE:∀h' e,(∀c o,c≠z->c≠i1->s.heap.get? c=some o->h'.get? c=some o)->(∃o,h'.get? e=some o/\o.cls=.type "StopIteration")->E (.ref e) { s with heap:=h' }) :
  aw (aA prog w) A (Builtin.«zip.__next__» ⟨[.ref z],[]⟩) Q E s:=by
 show aw _ _ (field (.ref z) 2 >>= _) _ _ _
 refine am (cD hz rfl (x:=.bool false) rfl ?_)
 show aw _ _ (field (.ref z) 3 >>= _) _ _ _
 refine am (cD hz rfl (x:=.ref TI) rfl ?_)
 refine am (lR iM rfl ?_)
 show aw _ _ (m7 (.ref z) >>= _) _ _ _
 refine am ?_
 unfold m7
 refine am (cD hz rfl (x:=.none) rfl (az ?_))
 simp only[if_true]
 refine am (lS ?_)
 refine am (cD hz rfl (x:=.ref TO) rfl ?_)
 refine am (hV hz (by simp) fun g1 z1 b1=>?_)
 replace z1:IsZip g1 z TI TO .ellipsis:=z1
 refine am ?_
 simp only[Wh,Wg,q_,oB]
 refine am (am (Ef ?_))
 show aw _ _ (gC (.ref i1) >>= _) _ _ _
 refine am (zh hh (h1.extBut b1.extBut n1) (bJ.extBut b1.extBut m1) hx fun g2 e b2 he=>?_)
 obtain⟨oe,o_,HL⟩:=he
 have z2:IsZip g2 z TI TO .ellipsis:=b2 _ _ n1.symm z1
 have Rg:e≠z:=fun x=>by subst x;rw[z2]at o_;cases o_;simp at HL
 exact hV z2 (by simp) fun g3 _ b3=>hE g3 e (fun c o c1 c3 x=>b3.extBut _ _ c1 (b2 _ _ c3 (b1.extBut _ _ c1 x))) ⟨oe,b3.extBut _ _ Rg o_,HL⟩
end
open Sem (wp)
namespace F
theorem lk_zip_keys:v9 (.type "zip") "keys" = pure none:=by rw[LJ,Md];kernel_rfl
theorem lk_zip_getattr:v9 (.type "zip") "__getattr__" = pure none:=by rw[LJ,Md];kernel_rfl
theorem entry_zip_ga:AC table "zip.__getattribute__" = some Builtin.«object.__getattribute__»:=L6 (id':="object.__getattribute__") (by kernel_rfl) (by first | rfl | decide +kernel) (by decide +kernel) (by kernel_rfl)
end F
section
variable {prog:aF}{w:aE}{A:aR}{E:ac->av->Prop}{h:aB}{g:Array AG}{d:Drawn}{t:Nat}{os:OsState}{a:aa}{its:Array ac}{n:Nat}{sl:Array (Option ac)}
theorem jfu:(bu (Av "'"++Av ((Manifest.find? "zip").elim "zip" fun x=>x.tpName)++Av "' object has no attribute '")++bu "keys"++bu "'").length<=aP:=by
 rw[fX];decide +kernel
theorem Ym{tk:Tok}{Q:Fin->av->Prop}(hh:A.handled=none)(hx:h.get? a=some { cls:=.type "zip",dict:=none,data:=.fields its,slots:=sl })
   (hq:∀h' t' e,(∀b u,h.get? b=some u->h'.get? b=some u)->(∃oe,h'.get? e=some oe/\oe.cls=.type "AttributeError")->E (.ref e) ⟨h',g,d,t',os⟩) :
  aw (aA prog w) A (Builtin.«object.__getattribute__» ⟨[.ref a,.str "keys" tk],[]⟩) Q E ⟨h,g,d,t,os⟩:=by
 have hT:(⟨h,g,d,t,os⟩:av).TypeIs (.ref a) "zip":=⟨_,hx,rfl⟩
 have f4:=F.lk_zip_keys
 repeat (any_goals (first | assumption | wp_step))
 exact jby jfu hh hq
theorem Zs{tk:Tok}{R:l7->av->Prop}(hh:A.handled=none)(hx:h.get? a=some { cls:=.type "zip",dict:=none,data:=.fields its,slots:=sl })
   (hq:∀h' t' e,(∀b u,h.get? b=some u->h'.get? b=some u)->(∃oe,h'.get? e=some oe/\oe.cls=.type "AttributeError")->R (.error (.ref e)) ⟨h',g,d,t',os⟩) :
  eU (aA prog w) A (.call (.builtin "zip.__getattribute__") ⟨[.ref a,.str "keys" tk],[]⟩) R ⟨h,g,d,t,os⟩:=
 Ep EG.plain F.entry_zip_ga (EG.check _ _ _ _ _ _ _ _ (show (⟨h,g,d,t,os⟩:av).TypeIs (.ref a) "zip" from⟨_,hx,rfl⟩) (F.args_zip_getattribute_2 _ _) (Ym hh hx hq))
theorem jbh{tk:Tok}{Q:ac->av->Prop}(hh:A.handled=none)(hx:h.get? a=some { cls:=.type "zip",dict:=none,data:=.fields its,slots:=sl })
   (hq:∀h' t' e,(∀b u,h.get? b=some u->h'.get? b=some u)->(∃oe,h'.get? e=some oe/\oe.cls=.type "AttributeError")->E (.ref e) ⟨h',g,d,t',os⟩) :
  aw (aA prog w) A (getAttrBy (.ref a) (.str "keys" tk) false) Q E ⟨h,g,d,t,os⟩:=by
 have hT:(⟨h,g,d,t,os⟩:av).TypeIs (.ref a) "zip":=⟨_,hx,rfl⟩
 have f2:=EG.lookup
 have f3:=EG.bind (.ref a)
 have f4:=F.lk_zip_getattr
 repeat (any_goals (first | assumption | wp_step))
 refine Zs hh hx fun h' t' e k o_=>?_
 obtain⟨oe,e1,e2⟩:=o_
 have Dd:(⟨h',g,d,t',os⟩:av).TypeIs (.ref e) "AttributeError":=⟨_,e1,e2⟩
 show aw (aA prog w) A (Us (Value.ref a) (Value.str (bu "keys") tk) (Value.type "zip") (.ref e) none false false) Q E _
 unfold Us
 refine am (lT Dd F.sub_attr_attr ?_)
 rw[WU rfl]
 refine am ?_
 show aw _ _ (v9 (.type "zip") "__getattr__") _ _ _
 rw[f4]
 refine az ?_
 show aw _ _ (UG _ _ _ false false) _ _ _
 unfold UG
 dsimp only
 rw[WU (show (!false)=true from rfl)]
 refine am (Ed ?_)
 exact hq h' t' e k ⟨oe,e1,e2⟩
theorem nokeysZ{s:av}{Q:Option ac->av->Prop}(hh:A.handled=none)(hx:s.heap.get? a=some { cls:=.type "zip",dict:=none,data:=.fields its,slots:=sl })
   (hq:∀h' t',(∀b u,s.heap.get? b=some u->h'.get? b=some u)->Q none { s with heap:=h',toks:=t' }) :
  aw (aA prog w) A (En (.ref a) "keys") Q E s:=by
 obtain⟨h,g,d,t,os⟩:=s
 unfold En getAttrBy?
 refine am (Lx (am (mU ?_)))
 refine jbh hh hx fun h' t' e k o_=>?_
 obtain⟨oe,e1,e2⟩:=o_
 have Dd:(⟨h',g,d,t',os⟩:av).TypeIs (.ref e) "AttributeError":=⟨_,e1,e2⟩
 dsimp only
 refine am (lT Dd F.sub_attr_attr ?_)
 rw[WU rfl]
 exact az (hq h' t' k)
end
section
variable {prog:aF}{w:aE}{A:aR}{E:ac->av->Prop}{s:av}
theorem jag{T:aa}{x y:ac}{Q:List ac->av->Prop}(h:cT s.heap T x y)(hq:Q [x,y] s):aw (aA prog w) A (VR (.ref T)) Q E s:=by
 unfold VR;refine am (vX (T:="tuple") ⟨_,h,rfl⟩ ?_);rw[WU (by decide)];refine am ?_;unfold wb;refine am (vZ h ?_);exact az (az hq)
end
end PySem
namespace L2
open PySem PySem.Spec PyProof.Rows PySem.W
def zKV(names:List Str)(vs:List V):List (Key×V):=(names.zip vs).map fun q=>(Sum.inr q.1,q.2)
theorem nlt{x y:Nat}(h:x < y\/y < x):x≠y:=by omega
theorem Yr{S a b:Nat}(ha:a < S)(hb:b < S):pS (S+4) (S+2) (S+3) S (S+1) a b:=by
 constructor <;> exact nlt (by omega)
theorem jeT:dW "zip" = some (.type "zip"):=by decide +kernel
structure MkFn(P:aF)(w:aE)(K:aC)(mg:Str->Option ac)(base:aB)(k:Nat)(x:Str)(C:aa)(ps:List Str)(sp:Sp):Prop where
 ex:∃f fd,Mk K C f/\FnOk P w K mg base CX0 k f fd ps sp/\Binds K fd ps []/\mg x=some (.ref C)
theorem K2{env:Env}(kx vx gens scope pos):eval (.DictComp kx vx gens scope pos) env=comprehension (.DictComp kx vx gens scope pos) scope env (L4 gens pos) newDict (firstAsync gens) (firstIter gens env):=rfl
theorem Yn{prog:aF}{w:aE}{A:aR}{s:av}{kx vx target iter:ay}{ifs:List ay}{scope:cS}{pos:Pos}{it:ac}{D:aa}{env:Env}{R:l7->av->Prop}(I:Nat->av->Prop)
  (ii:∀n s,I n s->aw (aA prog w) A (cL it) (fun r s1=>match r with
   | none=>R (.ok .next) s1
   | some v=>aw (aA prog w) A (Az target it v) (fun _ ua=>aw (aA prog w) A (assign target env v) (fun _ s2=>
     aw (aA prog w) A (forIn ifs true fun c r=>if r=true then do let ok <- isTrue c env (eval c env);pure (ForInStep.yield ok) else pure (ForInStep.yield r)) (fun ok s3=>
      if ok=true then aw (aA prog w) A (eval kx env) (fun kv s4=>aw (aA prog w) A (eval vx env) (fun vv s5=>
       aw (aA prog w) A (dictSet D kv vv) (fun _ s6=>∃m,m < n/\I m s6) (fun _ _=>False) s5) (fun _ _=>False) s4) (fun _ _=>False) s3
      else ∃m,m < n/\I m s3) (fun _ _=>False) s2) (fun _ _=>False) ua) (fun _ _=>False) s1) (fun _ _=>False) s)
  (n:Nat) (h:I n s):eU (aA prog w) A (.compLoop (.DictComp kx vx [⟨target,iter,ifs,0⟩] scope pos) 0 it (.ref D) env) R s:=by
 have no:∀(x:ac) (s':av),False->notedBy (aA prog w) A env (fun e s'=>R (.error e) s') x s':=fun _ _ z=>z.elim
 refine codeAny_loop rfl I (fun n s hI=>?_) n h
 show aw _ A ((compTurn (.DictComp kx vx [⟨target,iter,ifs,0⟩] scope pos) 0 it (.ref D) env).onRaise (fun x=>do LU x env;theTreesLotGoes x)) _ _ s
 refine wpAny_noted ?_
 rw[compTurn_dict]
 refine am (sD (am (cY (ii n s hI) (fun r s1 h1=>?_) no)))
 cases r with
 | none=>exact az h1
 | some v=>
  refine am (cY h1 (fun _ ua gr=>?_) no)
  refine am (cY gr (fun _ s2 h2=>am (cY h2 (fun ok s3 h3=>?_) no)) no)
  cases ok with
  | false=>exact az ⟨rfl,h3⟩
  | true=>
   exact am (am (cY h3 (fun kv s4 h4=>am (dD (cY h4 (fun vv s5 h5=>am (sD (dD (cY h5 (fun _ s6 h6=>az ⟨rfl,h6⟩) no)))) no))) no))
def jch(J:It)(p:aa)(g:TG)(tt:TT)(tk tv:TE)(Q:VK)(σ:St)(H:Hp):Prop:=∃W:Nat->Nat->St->Hp->Prop,(∃m,W 0 m σ H)/\
 ∀i m σ' H',W i m σ' H'->(J.stop i H'/\Q (.ref p) H')\/(J.go i H'/\∃N:St->Hp->Prop,(∀σ3 H3,N σ3 H3->∃m',m' < m/\W (i+1) m' σ3 H3)/\∀x H2,J.yld i H' x H2->g x σ' H2 fun σ3 H3=>tt σ3 H3 fun c H4=>
  if c=true then tk σ3 H4 fun ky H5=>tv σ3 H5 fun y H6=>∃kvs k,ky=kV k/\H6 p=some (.dK kvs)/\kvs.length < aP/\N σ3 (upd H6 p (.dK (kq kvs k y))) else N σ3 H4)
def jaZ(own:List Str)(fr:List Nat)(wi:TI)(g:TG)(tt:TT)(tk tv:TE):TE:=fun σ H Q=>wi σ H fun J H1=>∀p,H1 p=none->jch J p g tt tk tv Q (jdb own fr σ) (upd H1 p (.dK []))
theorem jc7{X:Cx}{scope:cS}{own:List Str}{fr:List Nat}{kx vx tg iter:ay}{ifs:List ay}{pos:Pos}{wi:TI}{g:TG}{tt:TT}{tk tv:TE}{use:Option (ac->Sem Unit)}(hc:X.calm=true)(O:CompOk X scope fr)(hi:PI X tg iter wi)
  (hb:∀s H ex,PG (blk X scope own fr s H ex) tg g/\PTs (blk X scope own fr s H ex) ifs tt/\PE (blk X scope own fr s H ex) kx tk/\PE (blk X scope own fr s H ex) vx tv)
  (hs:∀x,oj iter X.env x=pure x) {ah:List (aa×Obj)} {s:av} {σ:St} {H:Hp} {Q:VK} {R:ac->av->Prop} (I:Inv X ah σ H s) (h:jaZ own fr wi g tt tk tv σ H Q) (hx:∀e s',X.xe e s'↔False)
  (bE:∀(p C:aa) (H':Hp) (s':av) (m:Str->Option ac),s'.heap.Ns C m->H' C=none->C≠X.env.locals->(∀x c,X.env.cells.lookup x=some c->c≠C)->Inv X ah σ H' s'->(∀h',dj C s'.heap h'->Inv X ah σ H' { s' with heap:=h' })->Q (.ref p) H'->
   Eo (aA X.prog X.w) X.A X.xe use R (.ref p) C (.ok .next) s') :
  aw (aA X.prog X.w) X.A (comprehension (.DictComp kx vx [⟨tg,iter,ifs,0⟩] scope pos) scope X.env (L4 [⟨tg,iter,ifs,0⟩] pos) newDict false (eval iter X.env) use) R X.xe s:=by
 have uN:∀x∈scope.names,x.2=.free->(X.env.cells.lookup x.1).isSome=true:=fun x bq e=>by
  obtain⟨c,hc⟩:=I.ok.has x.1 (O.frees x bq e);rw[hc];rfl
 have no:∀(E:ac->av->Prop) (x:ac) (s':av),X.xe x s'->E x s':=fun E x s' z=>((hx x s').mp z).elim
 refine TD (cl:=yD X.env.cells scope.names []) rfl hs (K8 uN) O.kind O.loc ?_
 refine thn (hi ah s σ H _ I h) fun v s1 h1=>thn h1 fun xu s2 h2=>?_
 obtain⟨it,fp,tn,J,H2,e,I2,T,oM,f2,q2⟩:=h2
 subst e
 unfold newDict
 refine fi ?_
 have nw:H2 s2.heap.objs.size=none:=I2.fresh
 obtain⟨W,⟨m0,w0⟩,ii⟩:=q2 _ nw
 generalize hp:s2.heap.objs.size=p at *
 have I3:Inv X ah σ (upd H2 p (.dK [])) { s2 with heap:=s2.heap.push { cls:=.type "dict",data:=.dict #[] } }:=by
  have:=I2.laid (a:=s2.heap.objs.size) (o:=.dK []) (t':=s2.toks) (fun _ _ q=>bo { cls:=.type "dict",data:=.dict #[] } q) (aL _) (jaJ s2.heap I2.big);rw[hp]at this;exact this
 have ux:∀b∈fp,b < s2.heap.objs.size:=fun b hb=>by
  obtain⟨o,ho,_⟩:=T.obj _ _ oM b hb;exact aS ho
 have vF:∀b∈fp,(upd H2 p (.dK [])) b=none:=fun b hb=>by
  rw[jw (by rw[<- hp];exact bv (ux b hb))];exact (f2 b hb).1
 generalize hs3:({ s2 with heap:=s2.heap.push { cls:=.type "dict",data:=.dict #[] } }:av)=s3 at *
 have Ba:s3.heap.objs.size=p+1:=by
  rw[<- hs3];show (s2.heap.push _).objs.size=_;rw[fZ,hp]
 have mj:tn 0 s3.heap:=T.keep 0 _ _ oM fun b hb o e=>by
  rw[<- hs3];exact bo _ e
 refine Ty O.nocell (by intro y hy;simp at hy) (fun h4 uW Ca=>?_) O.kind
 have k4:∀b o,s3.heap.get? b=some o->h4.get? b=some o:=fun b o e=>Ca.extBut b o (bv (aS e)) (bo _ e)
 have Cr:h4.Ns s3.heap.objs.size fun _=>none:=by
  have z:(fun x:Str=>([]:List (Str×ac)).reverse.lookup x)=fun _=>none:=by funext x;rfl
  rw[z]at uW;exact uW
 have fo:∀b∈fp,Kc X ah (upd H2 p (.dK [])) b/\b < s3.heap.objs.size:=fun b hb=>⟨⟨vF b hb,(f2 b hb).2⟩,by rw[Ba,<- hp];exact MY (ux b hb)⟩
 have I4:=jb1 (own:=own) (fr:=fr) (t1:=s3.toks+([]:List (Str×ac)).length) I3 O fo Cr k4
 have oK:tn 0 h4:=T.keep 0 _ _ mj fun b hb o e=>k4 b o e
 obtain⟨hg,ht,pj,uI⟩:=hb s3 (upd H2 p (.dK [])) fp
 have il:∀{H':Hp} {pn:List (aa×Obj)} {s':av} {σ':St},Inv (blk X scope own fr s3 (upd H2 p (.dK [])) fp) [] σ' H' s'->(∀b∈fp,H' b=none)->∀b∈fp,Kc (blk X scope own fr s3 (upd H2 p (.dK [])) fp) [] H' b:=fun {H' pn s' σ'} J hn b bQ=>
  ⟨hn b bQ,(J.ok.exf b bQ).1,J.ok.exfs b bQ,.inl bQ,(J.ok.exf b bQ).2,fun p hp=>absurd hp (by simp[blk])⟩
 have Bw:∀x c,X.env.cells.lookup x=some c->c≠s3.heap.objs.size:=fun x c e=>by
  obtain⟨v,q⟩:=I3.cell x c e;exact bv q.lt
 have loop:∀s5:av,s5={ s3 with heap:=h4,toks:=s3.toks+([]:List (Str×ac)).length }->
   eU (aA X.prog X.w) X.A (.compLoop (.DictComp kx vx [⟨tg,iter,ifs,0⟩] scope pos) 0 (.ref it) (.ref p) (blk X scope own fr s3 (upd H2 p (.dK [])) fp).env) (Eo (aA X.prog X.w) X.A X.xe use R (.ref p) s3.heap.objs.size) s5:=by
  rintro s5 rfl
  refine Yn (fun n s'=>∃i σ' H',Inv (blk X scope own fr s3 (upd H2 p (.dK [])) fp) [] σ' H' s'/\tn i s'.heap/\(∀b∈fp,H' b=none)/\W i n σ' H') ?_ m0 ⟨0,_,_,I4,oK,vF,w0⟩
  rintro n s6 ⟨i,σ6,H6,I6,tV,vE,w6⟩
  rcases ii i n σ6 H6 w6 with⟨stop,qn⟩ | ⟨go,N,hN,step⟩
  .refine thn (T.done (blk X scope own fr s3 (upd H2 p (.dK [])) fp) rfl rfl rfl hc i [] s6 σ6 H6 _ I6 (il (pn:=[]) I6 vE) tV stop) fun r s7 ⟨hr,I7⟩=>?_
   subst hr
   obtain⟨m,hm,_⟩:=I7.loc
   exact bE p _ H6 s7 m hm I7.free (m9 I3.lt) Bw (JF I3 fo I7 (pY ..)) (fun h' eL=>JF I3 fo I7 eL) qn
  .refine thn (T.item (blk X scope own fr s3 (upd H2 p (.dK [])) fp) rfl rfl rfl hc i [] s6 σ6 H6 _ I6 (il (pn:=[]) I6 vE) tV go) fun r s7 ⟨u,hr,h7⟩=>?_
   subst hr
   refine thn h7 fun _ s8 hM=>?_
   obtain⟨x,H8,I8,r8,y8,oJ,Dt⟩:=hM
   have DZ:=I8.pinned (il (pn:=[]) I8 Dt) (T.obj _ _ oJ)
   refine thn (hg _ s8 σ6 H8 x u _ DZ r8 (step x H8 y8)) fun _ s9 hM=>?_
   obtain⟨σ9,H9,I9,q9⟩:=hM
   refine thn (ht _ s9 σ9 H9 _ I9 q9) fun ok dZ hM=>?_
   obtain⟨dP,vU,mq⟩:=hM
   have again:∀{cq:Hp} {dY:av},Inv (blk X scope own fr s3 (upd H2 p (.dK [])) fp) ([]++Jc fp s8.heap) σ9 cq dY->(∃m',m' < n/\W (i+1) m' σ9 cq)->
     ∃m,m < n/\∃i σ' H',Inv (blk X scope own fr s3 (upd H2 p (.dK [])) fp) [] σ' H' dY/\tn i dY.heap/\(∀b∈fp,H' b=none)/\W i m σ' H':=fun {cq dY} iR ⟨m',hm,A6⟩=>by
    refine⟨m',hm,i+1,σ9,cq,iR.unpinned,T.keep _ _ _ oJ fun b bQ o e=>(iR.pin (b,o) (fq _ (fq _ (qT bQ e)))).1,fun b bQ=>?_,A6⟩
    obtain⟨o,e,d⟩:=T.obj _ _ oJ b bQ
    exact (iR.pin (b,o) (fq _ (fq _ (qT bQ e)))).2.1
   cases ok with
   | false=>
    rw[WT bY]at mq |-
    exact again vU (hN _ _ mq)
   | true=>
    rw[WU rfl]at mq |-
    refine thn (pj _ dZ σ9 dP _ vU mq) fun kv dY hM=>?_
    obtain⟨ky,cq,iR,uc,Br⟩:=hM
    refine thn (uI _ dY σ9 cq _ iR Br) fun vv aQ hM=>?_
    obtain⟨y,hU,An,Bo,kvs,k,ek,fL,hlen,Bq⟩:=hM
    subst ek
    obtain⟨z,hd,vs,da,dd⟩:=jeQ An.hok fL
    have hl:(kq kvs k y).length<=aP:=by have:=zH kvs k y;omega
    refine TC (KR uc) dd (fun h' lN eL=>?_) (by rw[<- da.length];exact z)
    have Rh:∃q,h'.get? p=some q:=let ⟨q,_,_,hq,_⟩:=lN;⟨q,hq⟩
    exact again (Kk (t':=aQ.toks+1) An (by rw[fL];exact True.intro) eL Rh (ZH hl hd (da.put k Bo) lN)) (hN _ _ Bq)
 refine codeAny_compStart_dict (loop _ rfl) (T.self X.A 0 _ _ _ oK (loop _ rfl))
theorem jdZ{X:Cx}{scope:cS}{kx vx tg iter:ay}{ifs:List ay}{pos:Pos}{wi:TI}{g:TG}{tt:TT}{tk tv:TE}(own:List Str)(fr:List Nat)(hc:X.calm=true)(O:CompOk X scope fr)(hi:PI X.nox tg iter wi)
  (hb:∀s H ex,PG (blk X.nox scope own fr s H ex) tg g/\PTs (blk X.nox scope own fr s H ex) ifs tt/\PE (blk X.nox scope own fr s H ex) kx tk/\PE (blk X.nox scope own fr s H ex) vx tv)
  (hs:∀x,oj iter X.env x=pure x:=by intro _;rfl):PE X.nox (.DictComp kx vx [⟨tg,iter,ifs,0⟩] scope pos) (jaZ own fr wi g tt tk tv):=by
 intro ah s σ H Q I h
 rw[K2]
 refine jc7 (X:=X.nox) (use:=none) (Q:=Q) hc ⟨O.kind,O.nocell,O.loc,O.frees,O.fr⟩ hi hb hs I h (fun _ _=>Iff.rfl) fun p C H' s' m hm hC _ _ I' back q=>?_
 exact⟨m,hm,fun h' eL=>⟨.ref p,H',back h' eL,rfl,q⟩⟩
section
variable {p:aa}{g:TG}{tt:TT}{tk tv:TE}{σ:St}{H:Hp}{Q:VK}
theorem jc6{K:aC}{a:aa}{xs:List V}(Pv:Nat->St->Hp->Prop)(h0:Pv 0 σ H)(hl:∀i σ' H',i<=xs.length->Pv i σ' H'->SqT K H' a xs)
  (hs:∀i x σ' H',xs[i]?=some x->Pv i σ' H'->g x σ' H' fun σ3 H3=>tt σ3 H3 fun c H4=>if c=true then tk σ3 H4 fun ky H5=>tv σ3 H5 fun y H6=>∃kvs k,ky=kV k/\H6 p=some (.dK kvs)/\kvs.length < aP/\Pv (i+1) σ3 (upd H6 p (.dK (kq kvs k y))) else Pv (i+1) σ3 H4)
  (hd:∀σ' H',Pv xs.length σ' H'->Q (.ref p) H'):jch (Itt K a) p g tt tk tv Q σ H:=by
 refine⟨fun i m σ H=>m=xs.length - i/\i<=xs.length/\Pv i σ H,⟨xs.length,by simp,cy _,h0⟩,?_⟩
 rintro i m σ1 H1 ⟨rfl,hi,pv⟩
 have q:=hl i σ1 H1 hi pv
 by_cases bz:i < xs.length
 .refine .inr ⟨⟨xs,xs[i],q,by simp[bz]⟩,Pv (i+1),fun σ3 H3 q=>⟨xs.length - (i+1),by omega,rfl,bz,q⟩,fun x H2 y=>?_⟩
  obtain⟨e1,e2⟩:=y
  subst e1
  exact hs i x σ1 _ (e2 xs q) pv
 .have e:i=xs.length:=by omega
  subst e
  exact .inl ⟨⟨xs,q,aL _⟩,hd σ1 H1 pv⟩
end
end L2
namespace HT
open PySem PySem.Spec PyProof.Rows L2
open PySem.SeqAt
open PySem.AutoSeq1 (wpAny_loadPart')
open PySem.MeetsSeq PySem.MeetsSeq2 PySem.MeetsSeq3
end HT
namespace L2
open PySem PySem.Spec PyProof.Rows
variable {X:Cx}{X:Cx}{pos:Pos}
def jgO(i j l:Nat)(ta:TA):TS:=fun D σ H=>ta σ H fun vs H1=>∃v w u,vs=[v,w,u]/\D.nx (((σ.set i (some v)).set j (some w)).set l (some u)) H1
theorem Js(kvs:List (Key×V))(k:Key)(v:V):(kq kvs k v).length<=kvs.length+1:=by
 unfold kq;split
 .rw[ax];omega
 .rw[aG];simp
structure QT(X:Cx)(e:ay)(t:TT):Prop where
 h:PT X e t
structure QW(X:Cx)(e:ay)(t:TT):Prop where
 h:PW X e t
structure QG(X:Cx)(e:ay)(t:TG):Prop where
 h:PG X e t
structure QGs(X:Cx)(e:List ay)(t:TGs):Prop where
 h:PGs X e t
structure QI(X:Cx)(tg e:ay)(t:TI):Prop where
 h:PI X tg e t
structure QO(X:Cx)(e:Option ay)(t:TO):Prop where
 h:PO X e t
structure QTs(X:Cx)(e:List ay)(t:TT):Prop where
 h:PTs X e t
structure QPs(X:Cx)(pos:Pos)(ks:List (Option ay))(vs:List ay)(t:List (TE×TE)):Prop where
 h:PPs X pos ks vs t
variable {e:ay}
theorem QW.pt{X:Cx}{t:TT}(h:QW X e t):QT X e t:=⟨h.h.pt⟩
theorem jeY{X:Cx}{t:TE}(h:QE X e t)(he:∀wF,isTrue e X.env wF=(do let v <- wF;standAt e.pos;holding [v] (truthy v)):=by intro _;rfl):QT X e (tB t):=⟨by
 intro ah s σ H Q I hw;refine isTrue_plain (thn (h.h ah s σ H _ I hw) fun v s1 hM=>?_) (he _);obtain⟨x,H1,I1,r1,q1⟩:=hM;obtain⟨d,rfl,q⟩:=q1
 cases r1
 exact Ec ⟨H1,I1,q⟩⟩
variable {x:Str}
theorem zpv{X:Cx}(i:Nat){pos:Pos}(h1:X.N[i]?=some x:=by rfl)(h2:Vis (h_ X.env) x:=by first | exact Or.inl rfl | exact Or.inr (Or.inl rfl) | exact Or.inr (Or.inr rfl))(h3:(x == bu "__debug__")=false:=by decide)(h4:(x == bu "__classdict__")=false:=by decide):QE X (Expr.Name x pos) (jfZ i):=
 ⟨@pv _ i _ _ h1 h2 h3 h4⟩
variable {j:Nat}
theorem jf{X:Cx}{i:Int}{pos:Pos}:QE X (Expr.Constant (Const.int i) j pos) (tC (V.int i)):=
 ⟨@jdY _ _ _ _⟩
theorem jm{X:Cx}{pos:Pos}:QE X (Expr.Constant (Const.str x) j pos) (tC (V.str x)):=
 ⟨@jdX _ _ _ _⟩
theorem jfU{X:Cx}{b:Bool}{pos:Pos}:QE X (Expr.Constant (Const.bool b) j pos) (tC (V.bl b)):=⟨fun _ _ _ H _ I h=>Constant_bool ⟨.bl b,H,I,rfl,h⟩⟩
theorem qy{X:Cx}{pos:Pos}:QE X (Expr.Constant Const.none j pos) (tC V.non):=⟨fun _ _ _ H _ I h=>Constant_none ⟨.non,H,I,rfl,h⟩⟩
theorem jdi{X:Cx}{v:V}{u:ac}{pos:Pos}(hg:Gl X x)(hm:X.mg x=none)(hv:dW x=some u)(r:RelV v u)(hn:x≠bu "__name__":=by decide)(hd:(x == bu "__debug__")=false:=by decide):QE X (Expr.Name x pos) (tC v):=⟨fun _ _ _ H _ I h=>yc I hg hm hv ⟨v,H,I,r,h⟩ hn hd⟩
variable {a b:ay}{ta tb:TE}{r:R2}
theorem jn{X:Cx}{pos:Pos}{op:Operator}(ho:OpR X (fj op) r)(ha:QE X a ta)(hb:QE X b tb):QE X (ay.BinOp a op b pos) (tOp r ta tb):=⟨by
 intro ah s σ H Q I h;exact wpAny_BinOp (jgF ha.h hb.h I h fun v u s2 x y H2 I2 rx ry q=>ho ah s2 σ H2 x y v u Q I2 rx ry q)⟩
theorem je0{X:Cx}{pos:Pos}(ha:QE X a ta):QE X (ay.UnaryOp UnaryOp.Not a pos) (jgP ta):=⟨by
 intro ah s σ H Q I h;refine UnaryOp_ (thn (ha.h ah s σ H _ I h) fun v s1 hM=>?_);obtain⟨x,H1,I1,r1,q1⟩:=hM;obtain⟨c,rfl,q1⟩:=q1
 cases r1
 exact not_of (Ec ⟨.bl (!c),H1,I1,rfl,q1⟩)⟩
theorem ZX{X:Cx}{pos:Pos}{op:CmpOp}(ho:OpR X (hX op) r)(ha:QE X a ta)(hb:QE X b tb)(hm:Es op b=false):QE X (Expr.Compare a [op] [b] pos) (tOp r ta tb):=⟨by
 intro ah s σ H Q I h;exact wpAny_Compare1 (jgF ha.h hb.h I h fun v u s2 x y H2 I2 rx ry q=>ho ah s2 σ H2 x y v u Q I2 rx ry q) hm⟩
theorem jeZ{X:Cx}{pos:Pos}{op:BoolOp}{t:TE}(h:QE X a t):QE X (Expr.BoolOp op [a] pos) t:=⟨fun ah s σ H Q I hw=>BoolOp_one (h.h ah s σ H Q I hw)⟩
theorem je2{X:Cx}{pos:Pos}{qP:List ay}(ha:QE X a ta)(hb:QE X (Expr.BoolOp BoolOp.And (b :: qP) pos) tb):QE X (Expr.BoolOp BoolOp.And (a :: b :: qP) pos) (jgX ta tb):=⟨by
 intro ah s σ H Q I h;refine BoolOp_and (thn (ha.h ah s σ H _ I h) fun v s1 hM=>?_);obtain⟨x,H1,I1,r1,q1⟩:=hM;obtain⟨c,rfl,q1⟩:=q1
 cases r1
 refine Ec ?_
 cases c with
 | true=>exact hb.h ah s1 σ H1 Q I1 q1
 | false=>exact⟨.bl false,H1,I1,rfl,q1⟩⟩
variable {te:TE}
theorem j5{X:Cx}{lo hi:Option ay}{tl th:TO}{pos p2:Pos}{r:V->Option Int->Option Int->Hp->VK->Prop}(hr:SlR X r)(he:QE X e te)(hl:QO X lo tl)(hu:QO X hi th):QE X (Expr.Subscript e (ay.Slice lo hi none p2) pos) (tSl r te tl th):=⟨by
 intro ah s σ H Q I h;refine MS (thn (he.h ah s σ H _ I h) fun v s1 hM=>?_);obtain⟨x,H1,I1,r1,q1⟩:=hM;refine wpAny_Slice (thn (hl.h ah s1 σ H1 _ I1 q1) fun vl s2 ⟨l,H2,I2,pl,q2⟩=>thn (hu.h ah s2 σ H2 _ I2 q2) fun vu s3 hM=>?_);obtain⟨u,H3,I3,pu,q3⟩:=hM;rw[evalPart_none];refine az ?_;have I4:Inv X ah σ H3 { s3 with heap:=s3.heap.push { cls:=.type "slice",data:=.fields #[vl,vu,.none] } }:=I3.kept (t':=s3.toks) fun b ob q=>bo _ q
 obtain⟨T,id,hT,ht,hg⟩:=hr ah { s3 with heap:=s3.heap.push { cls:=.type "slice",data:=.fields #[vl,vu,.none] } } σ H3 x v vl vu l u s3.heap.objs.size Q I4 r1 (aB.IsSliceOf.new ..) pl pu q3;show aw (aA X.prog X.w) X.A (MO e (.Slice lo hi none p2) v (.ref s3.heap.objs.size)) (EP X ah σ Q) X.xe { s3 with heap:=s3.heap.push { cls:=.type "slice",data:=.fields #[vl,vu,.none] } };exact tail_any (ops:=[.ref s3.heap.objs.size,v]) ht hT hg (by with_unfolding_all rfl)⟩
variable {o:ay}{td ty:TE}
theorem Kr{X:Cx}{i:ay}{pos:Pos}(hu:MM X.A+1 < cLine)(ho:QE X o td)(hi:QE X i ty)(hs:jhu i):QE X (Expr.Subscript o i pos) (jgW td ty):=⟨by
 intro ah s σ H Q I h;refine je9 PySem.F.slot_dict_getitem.lookup hs (thn (ho.h ah s σ H _ I h) fun u s1 ⟨x,H1,I1,rx,q1⟩=>thn (hi.h ah s1 σ H1 _ I1 q1) fun iv s2 hM=>?_);obtain⟨y,H2,I2,ry,a,v,ex,g,q2⟩:=hM;subst ex;obtain rfl:u=Value.ref a:=rx;exact⟨jaK I2 g,jc9 hu I2 g ry fun w' s3 I3 gc=>⟨v,H2,I3,gc,q2⟩⟩⟩
theorem jk{X:Cx}{pos:Pos}(hr:IxR X r)(ha:QE X a ta)(hb:QE X b tb)(hs:jfJ b):QE X (Expr.Subscript a b pos) (tOp r ta tb):=⟨by
 intro ah s σ H Q I h;exact MS (jgF ha.h hb.h I h fun v u s2 x y H2 I2 rx ry q=>hr a b ah s2 σ H2 x y v u Q I2 rx ry q (hs _ _))⟩
variable {es:List ay}
theorem jF{X:Cx}{t:TA}{pos:Pos}(h:QA X es t):QE X (ay.List es pos) (jhy t):=⟨by
 intro ah s σ H Q I hq;refine wpAny_List_spliced (thn (h.h pos ah s σ H _ I hq) fun us s1 ⟨xs,H1,I1,r,z,q⟩=>⟨by rw[<- r.length];exact z,?_⟩);have hf:H1 s1.heap.objs.size=none:=I1.hok.fresh (aL _);refine⟨.ref s1.heap.objs.size,upd H1 s1.heap.objs.size (.lst xs),I1.laid (t':=s1.toks) (fun b u e=>bo _ e) (aL _) ?_,rfl,q _ hf⟩;exact⟨z,us,0,r,cg _ rfl⟩⟩
variable {x1:Nat}
theorem js{X:Cx}{t:TA}{pos:Pos}(h1:QA X es t):QE X (Expr.Tuple es x1 pos) (jgL t):=
 ⟨@jdW _ _ _ _ _ h1.h⟩
theorem jdh{X:Cx}{pos:Pos}{keys:List (Option ay)}{tQ:List ay}{mi:List (TE×TE)}(h:QPs X pos keys tQ mi)(gU:(List.all keys fun x=>V3 x)=true)(hl:tz keys=tz tQ)(h0:keys≠[])(R9:tz keys<=15):QE X (ay.Dict keys tQ pos) (jgV mi):=⟨by
 intro ah s σ H Q I q;have hn:=I.hok.fresh (aL s.heap.objs.size);have I1:=I.laid (a:=s.heap.objs.size) (o:=.dK []) (h':=s.heap.push { cls:=.type "dict",data:=.dict #[] }) (t':=s.toks) (fun _ _ q=>bo _ q) (aL _) (jaJ s.heap I.big);refine wpAny_Dict_walk (knd:=kf X.prog X.w) gU hl h0 R9 (thn (h.h ah _ σ _ _ I1 (q _ hn)) fun ws s2 hM=>?_);obtain⟨ps,H2,I2,da,e,kvs,ep,lk,q2⟩:=hM;subst ep;obtain⟨rs,c,rk⟩:=K9 (P:=X.prog) (w:=X.w) da;obtain⟨z,hd,vs0,r0,dd⟩:=jeQ I2.hok e
 cases r0
 refine⟨rs,c,dd,fun h' lN hs=>⟨.ref s.heap.objs.size,_,?_,rfl,q2⟩⟩;have hz:(yy [] kvs).length<=aP:=by
  have h1:=yT kvs [];rw[oz]at h1;rw[fX];omega
 have he:∃q,h'.get? s.heap.objs.size=some q:=let ⟨q,_,_,hq,_⟩:=lN;⟨q,hq⟩;exact Kk I2 (by rw[e];exact True.intro) hs he (ZH hz hd (rk.merge .nil) lN)⟩
theorem jdd{X:Cx}{pos:Pos}:QPs X pos [] [] []:=⟨fun ah s σ H Q I h=>pairTrees_nil_walk ⟨[],H,I,.nil,h⟩⟩
variable {tv:TE}
theorem jcm{X:Cx}{pos:Pos}{k v:ay}{ks:List (Option ay)}{vs:List ay}{tk:TE}{mi:List (TE×TE)}(hk:QE X k tk)(hv:QE X v tv)(hr:QPs X pos ks vs mi):QPs X pos (some k :: ks) (v :: vs) ((tk,tv) :: mi):=⟨fun ah s σ H Q I h=>
 pairTrees_cons_walk (thn (hk.h ah s σ H _ I h) fun u s1 ⟨x,H1,I1,rx,q1⟩=>thn (hv.h ah s1 σ H1 _ I1 q1) fun w2 s2 ⟨y,H2,I2,ry,q2⟩=>
  thn (hr.h ah s2 σ H2 _ I2 q2) fun ws s3 ⟨ps,H3,I3,da,q3⟩=>⟨(x,y) :: ps,H3,I3,.cons ⟨rx,ry⟩ da,q3⟩)⟩
variable {scope:cS}{tg iter:ay}{ifs:List ay}{g:TG}{tt:TT}
theorem kM{X:Cx}{dh:ay}{pos:Pos}{wi:TI}(own:List Str)(fr:List Nat)(h1:X.calm=true)(h2:CompOk X scope fr)(h3:QI X.nox tg iter wi)(h4:∀(s:av) (H:Hp) (ex:List aa),QG (blk X.nox scope own fr s H ex) tg g/\QTs (blk X.nox scope own fr s H ex) ifs tt/\QE (blk X.nox scope own fr s H ex) dh te)(h5:∀(x:ac),oj iter X.env x=pure x:=by intro _;rfl):QE X.nox (Expr.ListComp dh [{ target:=tg,iter:=iter,ifs:=ifs,is_async:=0 }] scope pos) (Z6 own fr wi g tt te):=
 ⟨@jfg _ _ _ _ _ _ _ _ _ _ _ own fr h1 h2 h3.h (fun s H ex=>⟨(h4 s H ex).1.h,(h4 s H ex).2.1.h,(h4 s H ex).2.2.h⟩) h5⟩
theorem jcp{X:Cx}{kx vx:ay}{pos:Pos}{wi:TI}{tk:TE}(own:List Str)(fr:List Nat)(h1:X.calm=true)(h2:CompOk X scope fr)(h3:QI X.nox tg iter wi)(h4:∀(s:av) (H:Hp) (ex:List aa),QG (blk X.nox scope own fr s H ex) tg g/\QTs (blk X.nox scope own fr s H ex) ifs tt/\QE (blk X.nox scope own fr s H ex) kx tk/\QE (blk X.nox scope own fr s H ex) vx tv)(h5:∀(x:ac),oj iter X.env x=pure x:=by intro _;rfl):QE X.nox (ay.DictComp kx vx [{ target:=tg,iter:=iter,ifs:=ifs,is_async:=0 }] scope pos) (jaZ own fr wi g tt tk tv):=
 ⟨@jdZ _ _ _ _ _ _ _ _ _ _ _ _ _ own fr h1 h2 h3.h (fun s H ex=>⟨(h4 s H ex).1.h,(h4 s H ex).2.1.h,(h4 s H ex).2.2.1.h,(h4 s H ex).2.2.2.h⟩) h5⟩
theorem Jk{X:Cx}{f:Str}{pos:Pos}(he:QE X e ta)(hb:AD e f X.env (eval e X.env)=eval e X.env):QE X (Expr.Attribute e f pos) (jhD X.K ta f):=⟨by
 intro ah s σ H Q I h;refine jfH hb (thn (he.h ah s σ H _ I h) fun u s1 hM=>?_);obtain⟨x,H1,I1,rx,a,C,dx,fs,v,ex,ea,c,n,l,q⟩:=hM;subst ex;obtain rfl:u=Value.ref a:=rx;exact jbr I1 ea c n l fun u' s2 I2 ru=>⟨v,H1,I2,ru,q⟩⟩
variable {p:Pos}
theorem jA{X:Cx}{k k':Nat}{ps:List Str}{sp:Sp}{t:TA}{pos:Pos}(h1:Fn X.prog X.w X.K X.mg X.base k x ps sp)(h2:Room k' X.A)(h3:QA X (e :: es) t)(h4:k<=k':=by decide)(h5:Gl X x:=by rfl)(h6:(x == bu "__debug__")=false:=by decide)(h7:List.all (e :: es) qb=true:=by rfl):QE X (Expr.Call (Expr.Name x p) (e :: es) [] pos) (Z7 sp [] E0 t):=
 ⟨@jfO _ _ _ _ _ _ _ _ _ _ _ h1 h2 h3.h h4 h5 h6 h7⟩
variable {id:String}
theorem kb{X:Cx}{pos:Pos}{t:TA}{r:List V->Hp->VK->Prop}(hc:zg X (Value.builtin id) r)(hg:Gl X x)(hm:X.mg x=none)(hv:dW x=some (Value.builtin id))(ha:QA X (e :: es) t)(hp:List.all (e :: es) qb=true:=by rfl)(hn:x≠bu "__name__":=by decide)(iI:(x == bu "__debug__")=false:=by decide):QE X (Expr.Call (Expr.Name x p) (e :: es) [] pos) (tCB r t):=⟨by
 rw[md,cO]at hp;exact jd0 hc hg hm hv ha.h hn iI (qo hp.1 es X.env) (zL pos X.env es hp.2)⟩
variable {T:String}
theorem qI{X:Cx}{pos:Pos}{t:TA}{r:List V->Hp->VK->Prop}(hc:zg X (Value.type T) r)(hg:Gl X x)(hm:X.mg x=none)(hv:dW x=some (Value.type T))(ha:QA X (e :: es) t)(hp:List.all (e :: es) qb=true:=by rfl)(hn:x≠bu "__name__":=by decide)(iI:(x == bu "__debug__")=false:=by decide):QE X (Expr.Call (Expr.Name x p) (e :: es) [] pos) (tCB r t):=⟨by
 rw[md,cO]at hp;exact jcD hc hg hm hv ha.h hn iI (qo hp.1 es X.env) (zL pos X.env es hp.2)⟩
variable {g_ cX:Pos}
theorem Yq{X:Cx}{f:ay}{tx:TE}(hu:MM X.A+1 < cLine)(ho:QE X o td)(he:QE X e ty)(hf:QE X f tx)(m:M2 X o (bu "get") g_ e f cX):QE X (Expr.Call (Expr.Attribute o (bu "get") g_) [e,f] [] cX) (jf3 td ty tx):=⟨by
 intro ah s σ H Q I h;refine wpAny_Call_method m.base m.few m.line PySem.F.plainAttrs_dict Mz PySem.F.type_dict_get (thn (ho.h ah s σ H _ I h) fun u s1 hM=>?_);obtain⟨x,H1,I1,rx,a,ex,d,q1⟩:=hM;subst ex;obtain rfl:u=Value.ref a:=rx;obtain⟨t1,t2,_⟩:=jgv I1 d;refine⟨t1,t2,?_⟩;rw[m.trees];refine MG rfl (MF (EK (thn (he.h ah s1 σ H1 _ I1 q1) fun iv s2 ⟨y,H2,I2,ry,q2⟩=>
  EK (thn (hf.h ah s2 σ H2 _ I2 q2) fun fv s3 ⟨z,H3,I3,rz,ov,g,q3⟩=>ME ?_))))
 exact jgD hu I3 g ry rz fun w' s4 I4 gc=>⟨_,H3,I4,gc,q3⟩⟩
theorem qu{X:Cx}{to:TE}{t:TA}{name:Str}{r:V->List V->Hp->VK->Prop}(pa:PlainAttrs T)(slot:Slot T name id)(B7:typeOf (Value.builtin id)=pure (Value.type "method_descriptor"))(hm:MtR X id r)(ho:QE X o to)(ha:QA X (e :: es) t)(rY:AD o name X.env (eval o X.env)=eval o X.env:=by rfl)(lG:(((List.all (hZ cX (cr (e :: es) X.env)) fun x=>!Prod.fst x) && List.all (backToKw cX (keywordEach [] X.env)) fun x=>V3 (Prod.fst x)) && decide ((tz (e :: es)+tz ([]:List Vj)+if List.isEmpty ([]:List Vj)=true then 0 else 1) < 30))=true:=by rfl)(CG:(Pos.endLine g_ == oo cX)=true:=by rfl)(hs:cr (e :: es) X.env=(false,eval e X.env) :: cr es X.env:=by rfl)(P1:(List.any (hZ cX (cr es X.env)) fun x=>Prod.fst x)=false:=by rfl):QE X (Expr.Call (Expr.Attribute o name g_) (e :: es) [] cX) (tBM X.K T r to t):=⟨by
 intro ah s σ H Q I h;refine wpAny_Call_method_late rY lG CG rfl (thn (ho.h ah s σ H _ I h) fun v s1 hM=>?_);obtain⟨x,H1,I1,r1,ty,q1⟩:=hM;obtain⟨h1,h2⟩:=jdy I1 r1 ty;refine⟨T,id,pa,slot,B7,h1,h2,?_⟩;have hA:=ha.h cX ah s1 σ H1 _ I1 q1;rw[hs]at hA |-;refine MG (by show (false || (hZ cX (cr es X.env)).any (·.1))=false;rw[P1] <;> rfl) (MF ?_);exact thn hA fun us s2 ⟨vs,H2,I2,r2,q2⟩=>hm ah s2 σ H2 x vs v us Q I2 r1 r2 q2⟩
theorem jbG{X:Cx}{to:TE}{name:Str}{r:V->List V->Hp->VK->Prop}(pa:PlainAttrs T)(slot:Slot T name id)(B7:typeOf (Value.builtin id)=pure (Value.type "method_descriptor"))(hm:MtR X id r)(ho:QE X o to)(rY:AD o name X.env (eval o X.env)=eval o X.env:=by rfl)(CG:(Pos.endLine g_ == oo cX)=true:=by rfl):QE X (Expr.Call (Expr.Attribute o name g_) [] [] cX) (jhF X.K T r to):=⟨by
 intro ah s σ H Q I h;refine wpAny_Call_method0_late rY CG (thn (ho.h ah s σ H _ I h) fun v s1 hM=>?_);obtain⟨x,H1,I1,r1,ty,q1⟩:=hM;obtain⟨h1,h2⟩:=jdy I1 r1 ty;exact⟨T,id,pa,slot,B7,h1,h2,MG rfl (PySem.evalArgs_none (hm ah s1 σ H1 x [] v [] Q I1 r1 .nil q1))⟩⟩
theorem jx{X:Cx}{pos:Pos}{op:CmpOp}(ho:OpR X (hX op) r)(ha:QE X a ta)(hb:QE X b tb)(hm:Es op b=false):QT X (Expr.Compare a [op] [b] pos) (jgM (tOp r ta tb)):=⟨by
 intro ah s σ H Q I h;refine wpAny_isTrue_Compare1 (thn (ha.h ah s σ H _ I h) fun v s1 ⟨x,H1,I1,r1,q1⟩=>thn (hb.h ah s1 σ H1 _ I1 q1) fun u s2 ⟨y,H2,I2,r2,q2⟩=>
  thn (ho ah s2 σ H2 x y v u _ I2 r1 r2 q2) fun c s3 ⟨z,H3,I3,r3,k,e,q3⟩=>?_) hm
 subst e
 cases r3
 exact Ec ⟨H3,I3,q3⟩⟩
variable {tA:TT}
theorem zU{X:Cx}{pos:Pos}{rj:TT}{qP:List ay}(ha:QT X a tA)(hb:QW X (Expr.BoolOp BoolOp.And (b :: qP) pos) rj):QW X (Expr.BoolOp BoolOp.And (a :: b :: qP) pos) (jhG tA rj):=⟨by
 intro wh ah s σ H Q I h;refine isTrue_and (thn (ha.h ah s σ H _ I h) fun c s1 hM=>?_);obtain⟨H1,I1,q1⟩:=hM
 cases c with
 | true=>exact hb.h wh ah s1 σ H1 Q I1 q1
 | false=>exact⟨H1,I1,q1⟩⟩
theorem zt{X:Cx}{pos:Pos}(ha:QT X a tA):QW X (Expr.BoolOp BoolOp.And [a] pos) tA:=⟨by
 intro wh ah s σ H Q I h;refine isTrue_and (thn (ha.h ah s σ H Q I h) fun c s1 e=>?_)
 cases c with
 | true=>exact isTrue_and_nil e
 | false=>exact e⟩
theorem Kq{X:Cx}{pos:Pos}{rj:TT}{qP:List ay}(ha:QT X a tA)(hb:QW X (Expr.BoolOp BoolOp.Or (b :: qP) pos) rj):QW X (Expr.BoolOp BoolOp.Or (a :: b :: qP) pos) (tOr tA rj):=⟨by
 intro wh ah s σ H Q I h;refine isTrue_or (thn (ha.h ah s σ H _ I h) fun c s1 hM=>?_);obtain⟨H1,I1,q1⟩:=hM
 cases c with
 | true=>exact⟨H1,I1,q1⟩
 | false=>exact hb.h wh ah s1 σ H1 Q I1 q1⟩
theorem Ji{X:Cx}{pos:Pos}(ha:QT X a tA):QW X (Expr.BoolOp BoolOp.Or [a] pos) tA:=⟨by
 intro wh ah s σ H Q I h;refine isTrue_or (thn (ha.h ah s σ H Q I h) fun c s1 e=>?_)
 cases c with
 | false=>exact isTrue_or_nil e
 | true=>exact e⟩
theorem kL{X:Cx}:QO X none je6:=⟨by
 intro ah s σ H Q I h;rw[evalPart_none];exact az ⟨none,H,I,.none,h⟩⟩
theorem j0{X:Cx}(h:QE X e te):QO X (some e) (jgN te):=⟨by
 intro ah s σ H Q I hw;rw[evalPart_some];refine thn (h.h ah s σ H _ I hw) fun u s1 hM=>?_
 obtain⟨x,H1,I1,r1,q1⟩:=hM;obtain⟨i,rfl,q⟩:=q1;obtain⟨t,rfl⟩:=r1;exact⟨some i,H1,I1,.int i t,q⟩⟩
theorem yV{X:Cx}{ta:TA}{pos:Pos}(hg:Gl X (bu "range"))(hm:X.mg (bu "range")=none)(ha:QA X [a] ta)(hs:cr [a] X.env=[(false,eval a X.env)]:=by rfl):QI X tg (Expr.Call (Expr.Name (bu "range") p) [a] [] pos) (jhl ta):=⟨by
 intro ah s σ H R I h;refine Call_ (yc I hg hm boot_range (sX (thn (ha.h pos ah s σ H _ I h) fun us s1 hM=>?_) hs rfl));obtain⟨vs,H1,I1,r1,q1⟩:=hM;obtain⟨j,e,q1,q2,q⟩:=q1;subst e
 cases r1 with
 | cons r rr=>
  cases rr
  obtain⟨t,rfl⟩:=r;exact call_range_1 (jdP I1 (by omega) (by omega) q1 q2 (by simpa using q))⟩
theorem ql{X:Cx}{l:ay}{tl:TE}(hl:QE X l tl):QI X tg l (jhm X.K tl):=⟨by
 intro ah s σ H R I h;refine thn (hl.h ah s σ H _ I h) fun v s1 hM=>?_
 obtain⟨x,H1,I1,r1,q1⟩:=hM;obtain⟨a,e,⟨xs,hq⟩,q⟩:=q1;subst e
 cases r1
 obtain⟨its,rv,p,hz⟩:=I1.list hq;refine Tw p.isList ?_;refine⟨s1.heap.objs.size,[s1.heap.objs.size],_,_,H1,rfl,I1.kept (t':=s1.toks) fun b o e=>bo _ e,jcx a _,⟨_,cg _ rfl,rfl,rfl⟩,fun b hb=>?_,q⟩;have e:b=s1.heap.objs.size:=by simpa using hb
 subst e;exact I1.fpOk (aL _) (I1.hok.fresh (aL _))⟩
theorem kT{X:Cx}{l:ay}{tl:TE}(hl:QE X l tl):QI X tg l (jhR X.K tl):=⟨by
 intro ah s σ H R I h;refine thn (hl.h ah s σ H _ I h) fun v s1 hM=>?_
 obtain⟨x,H1,I1,r1,q1⟩:=hM;obtain⟨a,e,⟨xs,hq⟩,q⟩:=q1;subst e
 cases r1
 obtain⟨its,rv,p,hz⟩:=I1.tuple hq;refine sE (show s1.heap.IsTuple a its.toArray from p) ?_;refine⟨s1.heap.objs.size,[s1.heap.objs.size],_,_,H1,rfl,I1.kept (t':=s1.toks) fun b o e=>bo _ e,jaV a _,⟨_,cg _ rfl,rfl,rfl⟩,fun b hb=>?_,q⟩;have e:b=s1.heap.objs.size:=by simpa using hb
 subst e;exact I1.fpOk (aL _) (I1.hok.fresh (aL _))⟩
theorem jde{X:Cx}{eQ:List ay}{tp:Pos}{ta:TA}{pos:Pos}(hg:Gl X (bu "enumerate"))(hm:X.mg (bu "enumerate")=none)(ha:QA X [a] ta)(hs:cr [a] X.env=[(false,eval a X.env)]:=by rfl):QI X (Expr.Tuple eQ x1 tp) (Expr.Call (Expr.Name (bu "enumerate") p) [a] [] pos) (jhn X.K ta):=⟨by
 intro ah s σ H R I h;refine Call_ (yc I hg hm JE (sX (thn (ha.h pos ah s σ H _ I h) fun us s1 hM=>?_) hs rfl));obtain⟨vs,H1,I1,r1,q1⟩:=hM;obtain⟨l,e,⟨xs,hq⟩,q⟩:=q1;subst e;obtain⟨u,rfl,rx⟩:=J1 r1
 cases rx
 obtain⟨its,rv,pl,hz⟩:=I1.list hq;refine call_enumerate_list pl.isList fun h' g1 g2 g3 g4=>?_
 refine Ee (s:={ s1 with heap:=h' }) g1 ?_;have I2:Inv X ah σ H1 { s1 with heap:=h' }:=I1.kept (t':=s1.toks) g4;refine⟨s1.heap.objs.size+1,[s1.heap.objs.size+1,s1.heap.objs.size],_,_,_,rfl,I2,jcy l _ _ (V9 _),⟨⟨_,g1⟩,g2⟩,fun b hb=>?_,q⟩;rcases aM.mp hb with rfl | hb
 .exact I1.fpOk (AS _) (I1.hok.fresh (AS _))
 .rw[aN.mp hb]
  exact I1.fpOk (aL _) (I1.hok.fresh (aL _))⟩
theorem zn{X:Cx}{eQ:List ay}{tp:Pos}{ta:TA}{pos:Pos}(hg:Gl X (bu "enumerate"))(hm:X.mg (bu "enumerate")=none)(ha:QA X [a] ta)(hs:cr [a] X.env=[(false,eval a X.env)]:=by rfl):QI X (Expr.Tuple eQ x1 tp) (Expr.Call (Expr.Name (bu "enumerate") p) [a] [] pos) (jgw X.K ta):=⟨by
 intro ah s σ H R I h;refine Call_ (yc I hg hm JE (sX (thn (ha.h pos ah s σ H _ I h) fun us s1 hM=>?_) hs rfl));obtain⟨vs,H1,I1,r1,q1⟩:=hM;obtain⟨l,e,⟨xs,hq⟩,q⟩:=q1;subst e;obtain⟨u,rfl,rx⟩:=J1 r1
 cases rx
 obtain⟨its,rv,pl,hz⟩:=I1.tuple hq;refine jbw (show s1.heap.IsTuple l its.toArray from pl) fun h' g1 g2 g3 g4=>?_
 refine Ee (s:={ s1 with heap:=h' }) g1 ?_;have I2:Inv X ah σ H1 { s1 with heap:=h' }:=I1.kept (t':=s1.toks) g4;refine⟨s1.heap.objs.size+1,[s1.heap.objs.size+1,s1.heap.objs.size],_,_,_,rfl,I2,jaX l _ _ (V9 _),⟨⟨_,g1⟩,g2⟩,fun b hb=>?_,q⟩;rcases aM.mp hb with rfl | hb
 .exact I1.fpOk (AS _) (I1.hok.fresh (AS _))
 .rw[aN.mp hb]
  exact I1.fpOk (aL _) (I1.hok.fresh (aL _))⟩
variable {i:Nat}{nn:Pos}
theorem ju{X:Cx}{pos:Pos}(hN:dk X.N)(hi:X.N[i]?=some x)(hx:L2.Loc (h_ X.env) x)(he:QE X e te)(hs:pO e (some (Expr.Name x nn)) (oo pos) X.env=pure false:=by rfl)(hf:X.fn x=true\/ib x (wg (h_ X.env))=some NameKind.local:=by first | exact .inl rfl | exact .inr rfl | assumption):QS X (Stmt.Assign [Expr.Name x nn] e pos) (je8 te (qh i)):=⟨by
 intro ah s σ H D I h;refine TM (thn (he.h ah s σ H _ I h) fun v s1 hM=>?_) hs;obtain⟨y,H1,I1,r1,q1⟩:=hM;exact q8 I1 hN hi hx r1 (fun s2 I2=>⟨_,H1,I2,q1⟩) hf⟩
theorem zD{X:Cx}{dh:ay}{pos:Pos}{wi:TI}{y:Str}{py tW:Pos}(h1:dk X.N)(h2:X.N[i]?=some y)(h3:L2.Loc (h_ X.env) y)(own:List Str)(fr:List Nat)(h4:X.calm=true)(h5:CompOk X scope fr)(h6:QI X.nox tg iter wi)(h7:∀(s:av) (H:Hp) (ex:List aa),QG (blk X.nox scope own fr s H ex) tg g/\QTs (blk X.nox scope own fr s H ex) ifs tt/\QE (blk X.nox scope own fr s H ex) dh te)(h8:∀(x:ac),oj iter X.env x=pure x:=by intro _;rfl)(h9:pO (Expr.ListComp dh [{ target:=tg,iter:=iter,ifs:=ifs,is_async:=0 }] scope pos) (some (Expr.Name y py)) (oo tW) X.env=pure true:=by rfl)(R_:X.fn y=true\/ib y (wg (h_ X.env))=some NameKind.local:=by first | exact .inl rfl | exact .inr rfl | assumption):QS X.nox (Stmt.Assign [Expr.Name y py] (Expr.ListComp dh [{ target:=tg,iter:=iter,ifs:=ifs,is_async:=0 }] scope pos) tW) (je8 (Z6 own fr wi g tt te) (qh i)):=
 ⟨@ja8 _ _ _ _ _ _ _ _ _ _ _ _ _ _ _ h1 h2 h3 own fr h4 h5 h6.h (fun s H ex=>⟨(h7 s H ex).1.h,(h7 s H ex).2.1.h,(h7 s H ex).2.2.h⟩) h8 h9 R_⟩
theorem yk{X:Cx}{i value:ay}{pos:Pos}(hu:MM X.A+1 < cLine)(ho:QE X o td)(hi:QE X i ty)(hv:QE X value tv)(hs:pO value (some (Expr.Subscript o i nn)) (oo pos) X.env=pure false):QS X (Stmt.Assign [Expr.Subscript o i nn] value pos) (jg2 td ty tv):=⟨by
 intro ah s σ H D I h;refine wpAny_Assign_Subscript (thn (hv.h ah s σ H _ I h) fun r s1 ⟨v,H1,I1,rv,q1⟩=>thn (ho.h ah s1 σ H1 _ I1 q1) fun u s2 ⟨x,H2,I2,rx,q2⟩=>thn (hi.h ah s2 σ H2 _ I2 q2) fun iv s3 hM=>?_) hs;obtain⟨y,H3,I3,ry,a,H4,ex,g,q3⟩:=hM;subst ex;obtain rfl:u=Value.ref a:=rx;exact jc8 hu I3 g ry rv fun s4 I4=>⟨σ,H4,I4,q3⟩⟩
theorem Y5{X:Cx}{value:ay}{f:Str}{pos:Pos}(ha:QE X o ta)(hv:QE X value tv)(hs:pO value (some (Expr.Attribute o f nn)) (oo pos) X.env=pure false):QS X (Stmt.Assign [Expr.Attribute o f nn] value pos) (jhH X.K ta tv f):=⟨by
 intro ah s σ H D I h;refine plainObj_wpAny_Assign_Attribute (thn (hv.h ah s σ H _ I h) fun u s1 ⟨y,H1,I1,ry,q⟩=>thn (ha.h ah s1 σ H1 _ I1 q) fun ov s2 hM=>?_) hs;obtain⟨x,H2,I2,rx,a,C,dx,fs,ex,ea,c,n,l,q2⟩:=hM;subst ex;obtain rfl:ov=Value.ref a:=rx;exact ja0 I2 ea c n l ry fun s3 I3=>⟨σ,_,I3,q2⟩⟩
theorem qY{X:Cx}{pos:Pos}(he:QE X e te)(hg:QG X tg g)(hs:swapsWithSole [tg] e (oo pos) X.env=pure false:=by rfl)(hw:swappedStores [tg] e X.env=pure none:=by rfl)(h1:iZ (fun x=>Prod.snd x) (wf [tg] X.env)=[assign tg X.env]:=by rfl):QS X (Stmt.Assign [tg] e pos) (je8 te g):=⟨by
 intro ah s σ H D I h;refine wpAny_Assign_stores (thn (he.h ah s σ H _ I h) fun v s1 hM=>?_) hs hw;obtain⟨x,H1,I1,r1,q1⟩:=hM;rw[h1];exact thn (hg.h ah s1 σ H1 x v _ I1 r1 q1) fun _ s2 q=>q⟩
theorem jv{X:Cx}{pos:Pos}(he:QE X e te):QS X (aJ.Return (some e) pos) (jhx te):=⟨by
 intro ah s σ H D I h;exact wpAny_Return_some (thn (he.h ah s σ H _ I h) fun v s1 ⟨x,H1,I1,r1,q1⟩=>⟨x,σ,H1,I1,r1,q1⟩)⟩
variable {c:ay}
theorem jJ{X:Cx}{t u:TS}{pos:Pos}{a b:List aJ}{tc:TT}(hc:QT X c tc)(ha:QSs X a t)(hb:QSs X b u):QS X (aJ.If c a b pos) (jhz tc t u):=⟨by
 intro ah s σ H D I h;refine wpAny_If (thn (hc.h ah s σ H _ I h) fun d s1 hM=>?_);obtain⟨H1,I1,q1⟩:=hM
 cases d with
 | true=>exact ha.h ah s1 σ H1 D I1 q1
 | false=>exact hb.h ah s1 σ H1 D I1 q1⟩
theorem kg{X:Cx}{body:List aJ}{wi:TI}{tb:TS}{pos:Pos}(hp:Ez (aA X.prog X.w) X.A X.env X.xe)(hc:X.calm=true)(hi:QI X tg iter wi)(hg:QG X tg g)(hb:QSs X body tb)(hs:∀(x:ac),oj iter X.env x=pure x:=by intro _;rfl):QS X (aJ.For tg iter body [] pos) (jhB wi g tb):=⟨by
 have hb:=hb.h;have hg:=hg.h;have hi:=hi.h;intro ah s σ H D I h;refine wpAny_For (thn (hi ah s σ H _ I h) fun v s1 h1=>thn h1 fun xu s2 h2=>?_) hs;obtain⟨it,fp,tn,J,H2,e,I2,T,oM,f2,W,⟨m0,w0⟩,ii⟩:=h2;subst e;have il:∀{H':Hp},(∀b∈fp,H' b=none)->∀b∈fp,Kc X ah H' b:=fun hn b hb=>⟨hn b hb,(f2 b hb).2⟩
 refine codeAny_forLoop_any (fun n s'=>∃i σ' H',Inv X ah σ' H' s'/\tn i s'.heap/\(∀b∈fp,H' b=none)/\W i n σ' H') ?_ m0 ⟨0,σ,H2,I2,oM,fun b hb=>(f2 b hb).1,w0⟩;rintro n s3 ⟨i,σ3,H3,I3,mj,IA,w3⟩;rcases ii i n σ3 H3 w3 with⟨stop,qn⟩ | ⟨go,N,hN,step⟩
 .refine sF hp (thn (T.done X rfl rfl rfl hc i ah s3 σ3 H3 X.xe I3 (il IA) mj stop) fun r s4 ⟨hr,I4⟩=>?_)
  subst hr;exact v8 ⟨σ3,H3,I4,qn⟩
 .refine sF hp (thn (T.item X rfl rfl rfl hc i ah s3 σ3 H3 X.xe I3 (il IA) mj go) fun r s4 ⟨u,hr,h4⟩=>?_)
  subst hr;refine sF hp (thn h4 fun _ s5 hM=>?_);obtain⟨x,H5,I5,r5,y5,Bb,Sd⟩:=hM;have Tc:=I5.pinned (il Sd) (T.obj _ _ Bb);refine sF hp (thn (hg _ s5 σ3 H5 x u _ Tc r5 (step x H5 y5)) fun _ s6 hM=>?_);obtain⟨σ6,H6,I6,q6⟩:=hM;refine sF hp (thn (hb _ s6 σ6 H6 _ I6 q6) fun f s7 q7=>?_);have again:∀{σ7:St} {H7:Hp},Inv X (ah++Jc fp s5.heap) σ7 H7 s7->N σ7 H7->∃m,m < n/\∃i σ' H',Inv X ah σ' H' s7/\tn i s7.heap/\(∀b∈fp,H' b=none)/\W i m σ' H':=fun {σ7 H7} I7 n7=>by
   obtain⟨m',hm,w7⟩:=hN σ7 H7 n7;refine⟨m',hm,i+1,σ7,H7,I7.unpinned,T.keep _ _ _ Bb fun b hb o e=>(I7.pin (b,o) (fq _ (fq _ (qT hb e)))).1,fun b hb=>?_,w7⟩;obtain⟨o,e,d⟩:=T.obj _ _ Bb b hb;exact (I7.pin (b,o) (fq _ (fq _ (qT hb e)))).2.1
  cases f with
  | next=>obtain⟨σ7,H7,I7,n7⟩:=q7;exact again I7 n7
  | cont=>obtain⟨σ7,H7,I7,n7⟩:=q7;exact again I7 n7
  | brk=>obtain⟨σ7,H7,I7,q7⟩:=q7;exact⟨σ7,H7,I7.unpinned,q7⟩
  | ret v=>obtain⟨x7,σ7,H7,I7,r7,q7⟩:=q7;exact⟨x7,σ7,H7,I7.unpinned,r7,q7⟩⟩
theorem JH{X:Cx}{pos:Pos}{body:List aJ}{tc:TT}{tb:TS}(hp:Ez (aA X.prog X.w) X.A X.env X.xe)(hc:QT X c tc)(hb:QSs X body tb):QS X (aJ.While c body [] pos) (jdB tc tb):=⟨by
 intro ah s σ H D I h;obtain⟨W,⟨m0,w0⟩,ii⟩:=h;refine wpAny_While (codeAny_whileLoop (fun n s'=>∃σ' H',Inv X ah σ' H' s'/\W n σ' H') ?_ m0 ⟨σ,H,I,w0⟩);rintro n s1 ⟨σ1,H1,I1,w1⟩;refine sF hp (thn (hc.h ah s1 σ1 H1 _ I1 (ii n σ1 H1 w1)) fun b s2 hM=>?_);obtain⟨H2,I2,q2⟩:=hM
 cases b with
 | true=>
  obtain⟨N,hN,q2⟩:=q2;rw[WU rfl];refine sF hp (thn (hb.h ah s2 σ1 H2 _ I2 q2) fun f s3 q3=>?_)
  cases f with
  | next=>
   obtain⟨σ3,H3,I3,n3⟩:=q3;obtain⟨m',hm,w3⟩:=hN σ3 H3 n3;exact⟨m',hm,σ3,H3,I3,w3⟩
  | cont=>
   obtain⟨σ3,H3,I3,n3⟩:=q3;obtain⟨m',hm,w3⟩:=hN σ3 H3 n3;exact⟨m',hm,σ3,H3,I3,w3⟩
  | brk=>exact q3
  | ret v=>exact q3
 | false=>
  rw[WT bY];exact v8 ⟨σ1,H2,I2,q2⟩⟩
theorem jW{X:Cx}{pos:Pos}(he:QE X e te)(hs:pO e none (oo pos) X.env=pure false:=by rfl):QS X (aJ.Expr e pos) (jgU te):=⟨by
 intro ah s σ H D I h;exact wpAny_Expr_any (thn (he.h ah s σ H _ I h) fun v s1 ⟨x,H1,I1,r1,q1⟩=>⟨σ,H1,I1,q1⟩) I.quiet hs⟩
theorem jt{X:Cx}{pos:Pos}(hN:dk X.N)(hi:X.N[i]?=some x)(hx:L2.Loc (h_ X.env) x)(hf:X.fn x=true\/ib x (wg (h_ X.env))=some NameKind.local:=by first | exact .inl rfl | exact .inr rfl | assumption):QG X (Expr.Name x pos) (qh i):=⟨by
 intro ah s σ H v u Q I r h;exact TF (q8 I hN hi hx r (fun s' I'=>⟨_,H,I',h⟩) hf)⟩
theorem kn{X:Cx}{pos:Pos}{k:Nat}{t:TGs}{n:Nat}(hc:X.calm=true)(h:QGs X es t)(hn:tz (wf es X.env)=n:=by rfl)(df:E3 (fun x=>Prod.fst x) (wf es X.env)=none:=by rfl):QG X (Expr.Tuple es k pos) (jhT X.K n t):=⟨by
 intro ah s σ H v u Q I r hw;obtain⟨a,xs,e1,hq,hl,hw⟩:=hw;subst e1
 cases r
 obtain⟨its,rv,ht,hz⟩:=I.tuple hq;refine assign_Tuple_tuple (I.ok.hd hc) ht (by simp[hn,<- hl,rv.length]) df fun h' hx=>?_
 have I1:Inv X ah σ H { s with heap:=h' }:=I.kept (t':=s.toks) fun b o e=>hx b o (bv (aS e)) e
 exact h.h ah _ σ H xs _ Q I1 (by simpa using rv) hw⟩
theorem j9{X:Cx}:QGs X [] jhU:=⟨by
 intro ah s σ H vs us Q I r h;obtain⟨e,h⟩:=h;subst e
 cases r
 exact V1 ⟨σ,H,I,h⟩⟩
theorem jy{X:Cx}{t:TG}{u:TGs}(h1:QG X e t)(h2:QGs X es u)(hs:iZ (fun x=>Prod.snd x) (wf (e :: es) X.env)=assign e X.env :: iZ (fun x=>Prod.snd x) (wf es X.env):=by rfl):QGs X (e :: es) (jhp t u):=⟨by
 intro ah s σ H vs us Q I r h;obtain⟨v,vr,e1,h⟩:=h;subst e1
 cases r with
 | cons r rr=>
  rw[hs];refine EO (thn (h1.h ah s σ H _ _ _ I r h) fun _ s1 hM=>?_);obtain⟨σ1,H1,I1,q1⟩:=hM;exact h2.h ah s1 σ1 H1 _ _ Q I1 rr q1⟩
theorem jC{X:Cx}:QSs X [] jgQ:=⟨fun _ _ σ H _ I h=>v8 ⟨σ,H,I,h⟩⟩
variable {st:aJ}
theorem jh{X:Cx}{t:TS}(h1:QS X st t):QSs X [st] t:=⟨by
 intro ah s σ H D I h;refine LF (thn (h1.h ah s σ H D I h) fun f s1 q=>?_)
 cases f with
 | next=>exact v8 q
 | ret v=>exact q
 | brk=>exact q
 | cont=>exact q⟩
theorem jg{X:Cx}{qP:List aJ}{t u:TS}(h1:QS X st t)(h2:QSs X qP u):QSs X (st :: qP) (jH t u):=⟨by
 intro ah s σ H D I h;refine LF (thn (h1.h ah s σ H { D with nx:=u D } I h) fun f s1 q=>?_)
 cases f with
 | next=>
  obtain⟨σ',H',I',q⟩:=q;exact h2.h ah s1 σ' H' D I' q
 | ret v=>exact q
 | brk=>exact q
 | cont=>exact q⟩
theorem kD{X:Cx}:QTs X [] yP:=⟨fun _ _ _ H _ I h=>wpAny_tests_nil ⟨H,I,h⟩⟩
theorem Jj{X:Cx}{t:TT}(h:QT X c t):QTs X [c] t:=⟨fun ah s σ H Q I q=>wpAny_tests_one (h.h ah s σ H Q I q)⟩
theorem jc{X:Cx}:QA X [] jf1:=
 ⟨@jd3 _⟩
theorem ja{X:Cx}{t:TA}(h1:QE X e te)(h2:QA X es t)(h3:qb e=true:=by rfl):QA X (e :: es) (jdD te t):=
 ⟨@jhb _ _ _ _ _ h1.h h2.h h3⟩
theorem jdc{X:Cx}{pos:Pos}{l:Nat}{y z:Str}{ta:TA}{px py pz pt:Pos}{kt k2:Nat}{Bs:Pos}(hc:X.calm=true)(hN:dk X.N)(hi:X.N[i]?=some x)(hj:X.N[j]?=some y)(hl:X.N[l]?=some z)(CV:i≠j)(Q7:i≠l)(QZ:j≠l)(hx:L2.Loc (h_ X.env) x)(hy:L2.Loc (h_ X.env) y)(hz:L2.Loc (h_ X.env) z)(ha:QA X [a,b,c] ta)(hw:swappedStores [Expr.Tuple [Expr.Name x px,Expr.Name y py,Expr.Name z pz] kt pt] (Expr.Tuple [a,b,c] k2 Bs) X.env=pure (some [x,y,z]))(fx:X.fn x=true\/ib x (wg (h_ X.env))=some NameKind.local)(fy:X.fn y=true\/ib y (wg (h_ X.env))=some NameKind.local)(fz:X.fn z=true\/ib z (wg (h_ X.env))=some NameKind.local)(hs:swapsWithSole [Expr.Tuple [Expr.Name x px,Expr.Name y py,Expr.Name z pz] kt pt] (Expr.Tuple [a,b,c] k2 Bs) (oo pos) X.env=pure false:=by rfl):QS X (Stmt.Assign [Expr.Tuple [Expr.Name x px,Expr.Name y py,Expr.Name z pz] kt pt] (Expr.Tuple [a,b,c] k2 Bs) pos) (jgO i j l ta):=⟨by
 intro ah s σ H D I h;rw[exec_Assign_arm];refine am (sD ?_);rw[hs];refine am (az ?_);rw[WT (by decide)];refine am (Tuple_ (thn (ha.h _ ah s σ H _ I h) fun us s1 hM=>?_));obtain⟨vs,H1,I1,r1,q1⟩:=hM;obtain⟨v,w,u,e1,q1⟩:=q1;subst e1;obtain⟨u1,u2,u3,rfl,rv,gc,ru⟩:∃u1 u2 u3,us=[u1,u2,u3]/\RelV v u1/\RelV w u2/\RelV u u3:=by
  cases r1 with
  | cons p q=>
   cases q with
   | cons p' q'=>
    cases q' with
    | cons p2 q2=>
     cases q2
     exact⟨_,_,_,rfl,p,p',p2⟩
 refine fi ?_ (by show 3<=aP;decide);have I2:Inv X ah σ H1 { s1 with heap:=s1.heap.push { cls:=.type "tuple",data:=.seq [u1,u2,u3].toArray } }:=I1.kept (t':=s1.toks) fun b o e=>bo _ e
 rw[hw];refine am (az ?_);show aw (aA X.prog X.w) X.A (do rule "assign.swapped-stores";let items <- unpackItems (.ref s1.heap.objs.size) 3 none;Mf [fun v=>sQ X.env z v,fun v=>sQ X.env y v,fun v=>sQ X.env x v] items.reverse;pure Flow.next) _ _ _;refine am (lS (am (unpackItems_tuple (items:=#[u1,u2,u3]) (I.ok.hd hc) (EQ s1.heap _) fun h' bq=>?_)));have I3:=I2.kept (h':=h') (t':=s1.toks) fun b o e=>bq b o (bv (aS e)) e
 show aw _ _ (Mf [fun v=>sQ X.env z v,fun v=>sQ X.env y v,fun v=>sQ X.env x v] [u3,u2,u1] >>= fun _=>pure Flow.next) _ _ _;refine am (EO (Ei (q8 I3 hN hl hz ru (fun s2 I4=>?_) fz)));refine EO (Ei (q8 I4 hN hj hy gc (fun s3 I5=>?_) fy));refine EO (Ei (q8 I5 hN hi hx rv (fun s4 I6=>V1 (az ?_)) fx));have e:((σ.set l (some u)).set j (some w)).set i (some v)=((σ.set i (some v)).set j (some w)).set l (some u):=by
  rw[M5 _ _ (bB QZ),M5 _ _ (bB Q7),M5 _ _ (bB CV)]
 rw[e]at I6;exact⟨_,H1,I6,q1⟩⟩
theorem ym{X:Cx}{v:V}{u:ac}{pos:Pos}(hg:Gl X x)(hm:X.mg x=some u)(r:RelV v u)(hd:(x == bu "__debug__")=false:=by decide):QE X (Expr.Name x pos) (tC v):=⟨fun _ _ _ H _ I h=>yL I hg hm ⟨v,H,I,r,h⟩ hd⟩
theorem jck{X:Cx}:QS X st jf2:=⟨fun _ _ _ _ _ _ h=>h.elim⟩
theorem yj{X:Cx}{t:TS}(h:QS X st t):QS X st (jgR t):=⟨by
 intro ah s σ H D I q;obtain⟨J,q,k⟩:=q;refine thn (h.h ah s σ H _ I q) fun f s1 q1=>?_
 cases f with
 | next=>
  obtain⟨σ',H',I',e⟩:=q1;exact⟨σ',H',I',k _ _ e⟩
 | cont=>exact q1
 | brk=>exact q1
 | ret v=>exact q1⟩
variable {w:aE}
theorem Fun.okZ{P:aF}{K:aC}{mg:Str->Option ac}{base:aB}{bA:Str}{f:aa}{fd:aO}{N ps:List Str}{k:Nat}{sp:Sp}(F:Fun K x bA st f fd)(S:FnScope N ps (jp st))(mP:∀(aH:ac) (A:aR) (outer:List Env) (s:av) (H:Hp) (vs:List V) (Q:VK) (E:XK),Room k (A.deeper (envOfC bA (jp st) s.heap.objs.size f aH))->sp vs H Q E->
   ∃t,QSs (j7 CX0 P w K mg base N bA (jp st) f aH A outer s H E).nox (qA st) t/\t { nx:=fun _ H'=>Q .non H',rt:=Q } (yn N vs) H)(len:∀vs H Q E,sp vs H Q E->vs.length=ps.length:=by intro _ _ _ _ h;first|(cases h;subst_vars;rfl)|repeat first|(obtain⟨rfl,_⟩:=h;rfl)|(obtain⟨_,h⟩:=h)):FnOk P w K mg base CX0 (k+1) f fd ps sp:=
 F.ok S len fun aH A outer s H vs Q E hr h=>let ⟨t,a,b⟩:=mP aH A outer s H vs Q E hr h;⟨t,a.h,b⟩
theorem jfV{X:Cx}{t:TE}(h:QE X e t):PD X e (rE t):=jg8 h.h
theorem zpd{X:Cx}{R:RD}(h:PD X e R):QE X e (tHD R):=⟨h.h⟩
open PySem PySem.Spec PyProof.Rows PySem.W
def SetAtS(prog:aF)(w:aE)(h:aB)(a:aa)(led:Bool)(σ:List Str):Prop:=∃(es:Array (Int×ac)) (ep:Nat) (t:bH),
 h.get? a=some { cls:=.type "set",dict:=none,data:=.set es ep t }/\EJ (dE prog w) es.toList/\(∃l:List Str,StrsAre (es.toList.map (·.2)) l/\l.Perm σ)/\es.size < fY/\t.fits es.size=true/\TabOk led t
variable {prog:aF}{led:Bool}{σ:List Str}
theorem SetAtS.kept{h h':aB}{a:aa}(x:SetAtS prog w h a led σ)(k:∀o,h.get? a=some o->h'.get? a=some o):SetAtS prog w h' a led σ:=by
 obtain⟨es,ep,t,e,r⟩:=x;exact⟨es,ep,t,k _ e,r⟩
variable {v:Str}
theorem Ky{vs:List ac}{l:List Str}(h:StrsAre vs l):v∈l↔∃t,Value.str v t∈vs:=by
 induction h with
 | nil=>simp
 | cons n t h ih=>
  constructor
  .intro hv
   rcases aM.mp hv with rfl | hv
   .exact⟨t,bt⟩
   .obtain⟨t',ht⟩:=ih.mp hv
    exact⟨t',aZ _ ht⟩
  .rintro⟨t',ht⟩
   rcases aM.mp ht with e | ht
   .cases e
    exact bt
   .exact aZ _ (ih.mpr ⟨t',ht⟩)
theorem Yw:∀{vs:List ac} {l:List Str} {v:Str} {t:Tok},StrsAre vs l->StrsAre (vs++[.str v t]) (l++[v])
 | _,_,v,t,.nil=>.cons v t .nil
 | _,_,v,t,.cons n t' h=>.cons n t' (Yw h)
theorem yI{vs dR:List ac}{l:List Str}(h:StrsAre vs l)(p:dR.Perm vs):∃l',StrsAre dR l'/\l'.Perm l:=by
 refine⟨dR.map strOf,strsAre_map dR fun v hv=>h.all v (p.mem_iff.mp hv),?_⟩;rw[<- h.strs];exact p.map _
section
variable {A:aR}{E:ac->av->Prop}{s:av}
theorem YB{es:Array (Int×ac)}{l:List Str}(hI:StrsAre (es.toList.map (·.2)) l):(∃j,E3 (fun e=>(dE prog w).is v e.2) es.toList=some j)↔v∈l:=by
 rw[Ky hI];constructor
 .rintro⟨j,hj⟩
  obtain⟨bz,h1,_⟩:=List.findIdx?_eq_some_iff_getElem.mp hj;obtain⟨x,t,e⟩:=hI.all es.toList[j].2 (ci.mpr ⟨_,ft bz,rfl⟩);have:v=x:=by
   rw[e]at h1;exact (dE prog w).inj _ _ _ h1 (sL _ _ _ _)
  subst this;exact⟨t,ci.mpr ⟨_,ft bz,e⟩⟩
 .rintro⟨t,ht⟩
  obtain⟨e,he,e2⟩:=ci.mp ht
  cases hf:E3 (fun e=>(dE prog w).is v e.2) es.toList with
  | some j=>exact⟨j,rfl⟩
  | none=>
   have:=List.findIdx?_eq_none_iff.mp hf e he;rw[e2,sL]at this
   cases this
theorem KC{a:aa}{es bW:Array (Int×ac)}{ep:Nat}{t t':bH}{h:aB}(ho:h.get? a=some { cls:=.type "set",dict:=none,data:=.set es ep t })
  (iH:EJ (dE prog w) bW.toList) (hl:∃l:List Str,StrsAre (bW.toList.map (·.2)) l/\l.Perm σ) (hb:bW.size < fY) (hf:t'.fits bW.size=true) (ht:TabOk led t') :
  (h.update a (sW bW t')).get? a=some { cls:=.type "set",dict:=none,data:=.set bW (ep+1) t' }/\SetAtS prog w (h.update a (sW bW t')) a led σ:=by
 have hg:(h.update a (sW bW t')).get? a=some { cls:=.type "set",dict:=none,data:=.set bW (ep+1) t' }:=by
  have:=ED (sW bW t') ho (by rw[Ek bW t' rfl];rfl);rw[Ek bW t' rfl]at this;exact this
 exact⟨hg,bW,ep+1,t',hg,iH,hl,hb,hf,ht⟩
theorem KD{a:aa}{tk:Tok}{Q:Bool->av->Prop}(hS:SetAtS prog w s.heap a led σ)(GF:σ.length+1 < fY)
  (h:∀b h',dj a s.heap h'->SetAtS prog w h' a led (if v∈σ then σ else σ++[v])->Q b { s with heap:=h' }):aw (aA prog w) A (setAddHashed a (.str v tk) ((dE prog w).hash v)) Q E s:=by
 obtain⟨es,ep,t,ho,iH,⟨l,hI,hp⟩,hb,hf,ht⟩:=hS
 have hsz:es.size=σ.length:=by
  have h1:=hI.length;have h2:=hp.length_eq;rw[ax,dQ]at h1;omega
 unfold setAddHashed setAddHashedIn
 refine dD (am (dC ho rfl hf ?_))
 dsimp only
 rw[byScan_of (knd:=dE prog w) rfl hb iH]
 simp only[↓reduceIte]
 unfold setAddByScan
 refine am (am (lS (am (wpAny_setScan_of (knd:=dE prog w) (sL _ _ _ _) ho rfl hf iH ?_))))
 cases hr:E3 (fun e=>(dE prog w).is v e.2) es.toList with
 | some j=>
  have hv:v∈σ:=hp.mem_iff.mp ((YB hI).mp ⟨j,hr⟩)
  dsimp only
  refine az (az ?_)
  have:=h false s.heap (pY a s.heap) (by rw[WU hv];exact⟨es,ep,t,ho,iH,⟨l,hI,hp⟩,hb,hf,ht⟩)
  exact this
 | none=>
  have hv:¬v∈σ:=fun z=>by
   obtain⟨j,hj⟩:=(YB (prog:=prog) (w:=w) hI).mpr (hp.mem_iff.mpr z);rw[hr]at hj
   cases hj
  rw[WT hv]at h
  dsimp only
  have gw:∀(b:Bool) {s₁:av} {Q':Unit->av->Prop},Q' () s₁->aw (aA prog w) A (match b with | true=>rule "set.scan.the-table-gave-way" | false=>pure ()) Q' E s₁:=fun b s₁ Q' hq=>by
   cases b
   .exact az hq
   .exact lS hq
  have p1:=layNew_perm t es ((dE prog w).hash v) (.str v tk)
  have f1:=layNew_fits t es ((dE prog w).hash v) (.str v tk)
  have k1:=jcV ht es ((dE prog w).hash v) (.str v tk)
  generalize layNew t es ((dE prog w).hash v) (.str v tk)=L at p1 f1 k1 |-
  obtain⟨cW,t1,wd,gv⟩:=L
  dsimp only at p1 f1 k1 |-
  rw[WL]at p1
  have HF:EJ (dE prog w) cW.toList:=(iH.push (sL _ _ _ _) rfl).perm p1
  have Ik:∃l:List Str,StrsAre (cW.toList.map (·.2)) l/\l.Perm (σ++[v]):=by
   have pm:=p1.map (·.2);rw[aW]at pm;obtain⟨l',i1,i2⟩:=yI (Yw (t:=tk) hI) pm;exact⟨l',i1,i2.trans (hp.append_right _)⟩
  have uO:cW.size=es.size+1:=by
   have:=p1.length_eq;rw[aG,dQ,dQ]at this;simpa using this
  have HV:cW.size < fY:=by omega
  refine am (gw _ ?_)
  have bE:∀t2:bH,t2.fits cW.size=true->TabOk led t2->aw (aA prog w) A (do
    storeSet a cW t2
    if (!wd && t2.tooFull)=true then do
      (match (wc t2 cW (sV cW.size)).2.2 with | true=>rule "set.scan.the-table-gave-way" | false=>pure ():Sem Unit)
      storeSet a (wc t2 cW (sV cW.size)).1 (wc t2 cW (sV cW.size)).2.1
      pure (some true)
     else pure (some true)) (fun S4 s'=>aw (aA prog w) A (match S4 with | some S2=>pure S2 | none=>setAddHashedIn a (.str v tk) ((dE prog w).hash v) 99999) Q E s') E s:=by
   intro t2 f2 k2
   refine am (vY ho rfl ?_ (Uv HV))
   obtain⟨mG,pE⟩:=KC (prog:=prog) (w:=w) (σ:=σ++[v]) ho HF Ik HV f2 k2
   have oN:=pX s.heap a (sW cW t2)
   split
   .have p2:=relayAll_perm t2 cW (sV cW.size)
    have f3:=relayAll_fits t2 cW (sV cW.size)
    have k3:=jdO k2 cW (sV cW.size)
    generalize wc t2 cW (sV cW.size)=L at p2 f3 k3 |-
    obtain⟨Dx,t3,gv2⟩:=L
    dsimp only at p2 f3 k3 |-
    have o0:Dx.size=cW.size:=by rw[<- dQ,p2.length_eq,dQ]
    have RS:∃l:List Str,StrsAre (Dx.toList.map (·.2)) l/\l.Perm (σ++[v]):=by
     obtain⟨l1,i1,i2⟩:=Ik;obtain⟨l',j1,j2⟩:=yI i1 (p2.map (·.2));exact⟨l',j1,j2.trans i2⟩
    refine am (gw _ (am (vY mG rfl ?_ (Uv (by omega)))))
    obtain⟨_,gX⟩:=KC (prog:=prog) (w:=w) (σ:=σ++[v]) mG (HF.perm p2) RS (by omega) f3 k3
    exact az (az (h true _ (oN.trans (pX _ a _)) gX))
   .exact az (az (h true _ oN pE))
  split
  .refine am ?_
   rw[hashByValue_scannable 8 rfl]
   refine az ?_
   refine bE _ ?_ ?_
   .split
    .exact f1
    .exact bH.fits_plain_off f1
   .split
    .exact k1
    .exact jcC k1
  .refine am (az ?_)
   simp only[↓reduceIte]
   exact bE _ f1 k1
end
def dedupS(ns:List Str):List Str:=ns.foldl (fun σ v=>if v∈σ then σ else σ++[v]) []
theorem J6(ns:List Str)(v:Str):dedupS (ns++[v])=if v∈dedupS ns then dedupS ns else dedupS ns++[v]:=by unfold dedupS;rw[List.foldl_append];rfl
theorem zq(ns:List Str):(dedupS ns).Nodup/\(dedupS ns).length<=ns.length/\∀x,x∈dedupS ns↔x∈ns:=by
 have dv:∀(l:List Str),(dedupS l.reverse).Nodup/\(dedupS l.reverse).length<=l.reverse.length/\∀x,x∈dedupS l.reverse↔x∈l.reverse:=by
  intro l;induction l with
  | nil=>exact⟨iY,aL _,fun x=>Iff.rfl⟩
  | cons v l ih=>
   rw[M6,J6];obtain⟨h1,h2,h3⟩:=ih;split
   .next h=>
    refine⟨h1,by rw[aG];omega,fun x=>?_⟩;rw[aT,h3];constructor
    .exact .inl
    .rintro (z | z)
     .exact z
     .rw[aN.mp z]
      exact (h3 v).mp h
   .next h=>
    refine⟨?_,by rw[aG,aG];simp;simpa using h2,fun x=>by rw[aT,aT,h3]⟩;rw[ia];refine⟨h1,by simp,fun x hx y hy e=>?_⟩;rw[aN]at hy;subst hy e;exact h hx
 have:=dv ns.reverse;rw[List.reverse_reverse]at this;exact this
section
variable {A:aR}{E:ac->av->Prop}{R:l7->av->Prop}
theorem set_loopB{b:Bool}{S it l:aa}{led:Bool}{its:List ac}{ns:List Str}(hh:A.handled=none)(hI:StrsAre its ns)(RM:S≠l)(De:S≠it)(G_:l≠it)(hz:ns.length+1 < fY):
  ∀(k i:Nat) (s:av),i+k=ns.length->(bif b then s.heap.IsTupleIter it l i else s.heap.IsListIter it l i)->(bif b then s.heap.IsTuple l its.toArray else s.heap.IsList l its.toArray)->SetAtS prog w s.heap S led (dedupS (ns.take i))->
   (∀h' tk,(∀b o,b≠S->b≠it->s.heap.get? b=some o->h'.get? b=some o)->SetAtS prog w h' S led (dedupS ns)->R (.ok (.ret .none)) { s with heap:=h',toks:=tk })->
   eU (aA prog w) A (.builtin "set.update.loop" ⟨[.ref S,.ref it],[]⟩) R s:=by
 cases b <;> dsimp only[cond]
 all_goals
  intro k
  induction k with
  | zero=>
   intro i s hk cF ht hS hR
   have hl:=hI.length
   refine lX V2 ?_
   rw[ou MT _]
   show aw _ A.in1 (cL (.ref it) >>= _) _ _ s
   first | refine am (Tv (A:=A.in1) hh cF ht (by simp;omega) fun h1 rU=>?_) | refine am (Tt (A:=A.in1) hh cF ht (by simp;omega) fun h1 rU=>?_)
   show aw _ A.in1 (ret Value.none) _ _ _
   refine az ?_
   rw[show ns.take i=ns from wr (by omega)]at hS
   exact hR h1 s.toks (fun b o _ hb e=>rU b o hb e) (hS.kept fun o e=>rU S o De e)
  | succ k ih=>
   intro i s hk cF ht hS hR
   have hl:=hI.length
   have bz:i < ns.length:=by omega
   have HA:its.toArray[i]?=some its[i]:=by simp[hl,bz]
   obtain⟨t,et⟩:∃t,its[i]=.str ns[i] t:=by
    obtain⟨t,ht⟩:=hI.get i ns[i] (by simp[bz]);exact⟨t,by rw[aI (by omega)]at ht;exact eW ht⟩
   refine lX V2 ?_
   rw[ou MT _]
   show aw _ A.in1 (cL (.ref it) >>= _) _ _ s
   first | refine am (Tu cF ht HA fun h1 Hv uO=>?_) | refine am (Ts cF ht HA fun h1 Hv uO=>?_)
   have bS:=ht.extBut uO.extBut G_
   have pE:SetAtS prog w h1 S led (dedupS (ns.take i)):=hS.kept fun o e=>(uO.2 S De).trans e
   rw[et]
   show aw _ A.in1 (holding [Value.str ns[i] t] (setAdd S (.str ns[i] t)) >>= _) _ _ _
   refine am (dD ?_)
   unfold setAdd
   refine dD ?_
   refine am ((dE prog w).pyHash (k:=ns[i]) (sL _ _ _ _) ?_)
   have GF:(dedupS (ns.take i)).length+1 < fY:=by
    have:=(zq (ns.take i)).2.1;rw[bK]at this;omega
   refine KD (s:={ s with heap:=h1,toks:=s.toks+1 }) pE GF fun b h2 o0 gX=>?_
   have e2:dedupS (ns.take (i+1))=if ns[i]∈dedupS (ns.take i) then dedupS (ns.take i) else dedupS (ns.take i)++[ns[i]]:=by
    rw[bP,aI bz];exact J6 _ _
   rw[<- e2]at gX
   have fP:∀b o,b≠S->h1.get? b=some o->h2.get? b=some o:=fun b o hb e=>(o0.2 b hb).trans e
   refine az ⟨pP MT _,ih (i+1) _ (by omega) ?_ ?_ gX fun h' tk pj eA=>hR h' tk (fun b o b1 b2 e=>pj b o b1 b2 (fP b o b1 ((uO.2 b b2).trans e))) eA⟩
   .obtain⟨oi,z1,z2⟩:=Hv
    exact⟨oi,fP it oi De.symm z1,z2⟩
   .obtain⟨oi,z1,z2⟩:=bS
    exact⟨oi,fP l oi RM.symm z1,z2⟩
end
end L2
namespace PySem
section
variable {prog:aF}{w:aE}{A:aR}{E:ac->av->Prop}{s:av}
set_option maxHeartbeats 3200000 in
theorem set_ofB{b:Bool}{l:aa}{its:List ac}{ns:List Str}{nl:Nat}{sl:Array (Option ac)}{dd:Option aa}{Q:ac->av->Prop}(hh:A.handled=none)(nE:s.heap.get? l=some { cls:=.type (bif b then "tuple" else "list"),dict:=dd,data:=.seq its.toArray nl,slots:=sl })(hi:PyProof.Rows.StrsAre its ns)(hb:ns.length+1 < fY)
  (h:∀(h':aB) (tk:Nat),L2.SetAtS prog w h' s.heap.objs.size (L2.ledOf w) (L2.dedupS ns)->(∀b o,s.heap.get? b=some o->h'.get? b=some o)->Q (.ref s.heap.objs.size) { s with heap:=h',toks:=tk }) :
  aw (aA prog w) A (call (.type "set") [.ref l]) Q E s:=by
 have SL:=fun {A R}=>@L2.set_loopB w prog A R b
 cases b <;> dsimp only[cond]at SL nE
 all_goals
  obtain⟨c,tl,hmro⟩:=pZ.mro
  have hmade:=pZ.made
  have uM:=pZ.sub
  refine Eh (codeAny_of_tree ?_)
  show aw _ _ (callAny (.type "set") _) _ _ _
  refine az ⟨VE _ (by decide +kernel),lX F.entry_type_call ?_⟩
  rw[aR.under_plain (weight_type_call_type "set" [.ref l] []) rfl]
  have h1:=pZ.notType
  have h2:=pZ.canCreate
  have hct:=F.typeCall_set_1 (.ref l)
  repeat (any_goals (first | assumption | wp_step))
  refine sO (jac (.ref l) (E:=E) (Q₁:=fun obj s₁=>obj=.ref s.heap.objs.size/\s₁={ s with heap:=s.heap.push { cls:=.type "set",dict:=none,data:=.set #[] 0 (.fresh 0 0 (L2.ledOf w)) } }) ⟨rfl,rfl⟩) fun r s₁ hr=>?_
  cases r with
  | error e=>exact hr
  | ok fl=>
   cases fl with
   | ret obj=>
    obtain⟨rfl,rfl⟩:=hr
    have hS:(s.heap.push { cls:=.type "set",dict:=none,data:=.set #[] 0 (.fresh 0 0 (L2.ledOf w)) }).get? s.heap.objs.size=some { cls:=.type "set",dict:=none,data:=.set #[] 0 (.fresh 0 0 (L2.ledOf w)) }:=cg _ rfl
    have hT:av.TypeIs { s with heap:=s.heap.push { cls:=.type "set",dict:=none,data:=.set #[] 0 (.fresh 0 0 (L2.ledOf w)) } } (.ref s.heap.objs.size) "set":=⟨_,hS,rfl⟩
    have G_:=pZ.init.lookup
    have xY:=pZ.init.bind (.ref s.heap.objs.size)
    repeat (any_goals (first | assumption | wp_step))
    refine sO (Ep (R:=wants (fun r s₂=>r=.none/\∃h' tk,s₂={ s with heap:=h',toks:=tk }/\L2.SetAtS prog w h' s.heap.objs.size (L2.ledOf w) (L2.dedupS ns)/\
      (∀b o,s.heap.get? b=some o->h'.get? b=some o)) E) pZ.init.plain F.entry_set_init (check_set_init_1 hT ?_)) fun r₂ s₂ Cb=>?_
    .have Ck:=bo { cls:=.type "set",dict:=none,data:=.set #[] 0 (.fresh 0 0 (L2.ledOf w)) } nE
     have hsls:=F.sub_list_set
     have hslf:=F.sub_list_frozenset
     have bM:(Value.type "list" == Value.type "dict")=false:=by decide
     have hsl2:=F.sub_tuple_set
     have hsl3:=F.sub_tuple_frozenset
     have hne2:(Value.type "tuple" == Value.type "dict")=false:=by decide
     unfold Builtin.«set.__init__» noKeywords VN
     generalize hPI:Ay=PI
     wp_walk
     subst hPI
     first | refine Tw (items:=its.toArray) ⟨_,Ck,rfl,nl,rfl⟩ ?_ | refine sE (items:=its.toArray) ⟨_,Ck,rfl,nl,rfl⟩ ?_
     refine am (wpAny_runValue ?_)
     have Hn:l < s.heap.objs.size:=aS nE
     have Q_:A.in1.in1.handled=none:=by simp[hh]
     have BK:s.heap.objs.size < (s.heap.push { cls:=.type "set",dict:=none,data:=.set #[] 0 (.fresh 0 0 (L2.ledOf w)) }).objs.size:=aS hS
     refine SL (its:=its) (ns:=ns) (led:=L2.ledOf w) Q_ hi (m9 Hn) (bv BK) (bv (ow Hn BK)) hb ns.length 0 _ (by omega) ?_ ?_ ?_ ?_
     .exact⟨_,cg _ rfl,rfl,rfl⟩
     .exact⟨_,bo _ Ck,rfl,nl,rfl⟩
     .refine⟨#[],0,.fresh 0 0 (L2.ledOf w),?_,fun e he=>by simp at he,⟨[],.nil,.nil⟩,by decide,rfl,⟨rfl,rfl,List.Pairwise.nil⟩⟩
      exact bo _ hS
     .intro h' tk hk eA
      show aw _ _ _ _ _ _
      refine az ?_
      show aw _ _ (ret Value.none) _ _ _
      refine az ⟨rfl,h',tk,rfl,eA,fun b o e=>?_⟩
      have x8:=aS e
      exact hk b o (bv x8) (bv (ow x8 BK)) (bo _ (bo _ e))
    .cases r₂ with
     | error e=>exact Cb
     | ok fl₂=>
      cases fl₂ with
      | ret r=>
       obtain⟨rfl,h',tk,rfl,eA,pj⟩:=Cb
       repeat (any_goals (first | assumption | wp_step))
       exact h _ _ eA pj
      | _=>exact Cb.elim
   | _=>exact hr.elim
end
end PySem
namespace L2
open PySem PySem.Spec PySem.Calls PyProof.Rows PySem.W
abbrev KG(X:Cx)(v:aa)(σ:List Str):HO:=.ext fun h=>SetAtS X.prog X.w h v (ledOf X.w) σ
theorem Kx:∀{xs:List Str} {us:List ac},Vals (xs.map V.str) us->StrsAre us xs
 | [],us,h=>by cases h;exact .nil
 | x :: r,us,h=>by
  cases h with
  | cons h1 h2=>
   obtain⟨t,rfl⟩:=h1;exact .cons x t (Kx h2)
variable {X:Cx}
theorem Yo(hc:X.calm=true):zg X (.type "set") (fun xs H Q=>∃(p:aa) (ns:List Str),xs=[.ref p]/\SqL X.K H p (ns.map V.str)/\ns.length<=1000/\∀v,H v=none->Q (.ref v) (upd H v (KG X v (dedupS ns)))):=by
 intro ah s σ H xs us Q I r h;obtain⟨p,ns,rfl,hq,hz,q⟩:=h;obtain⟨u,rfl,rx⟩:=J1 r
 cases rx
 obtain⟨its,rv,⟨⟨c1,d1,t1,l1⟩,n1,o1,z1,z2,z3⟩,ir⟩:=I.list hq;simp only at z1 z2 z3;subst z1 z2 z3;refine PySem.set_ofB (b:=false) (I.ok.hd hc) o1 (Kx rv) (by unfold fY;omega) fun h' tk hS hk=>?_
 have eA:=hS;obtain⟨es,ep,t,e,_⟩:=eA;refine⟨.ref s.heap.objs.size,_,I.laid (t':=tk) hk (aL _) (show ObjOk X.prog X.w _ _ _ (KG X s.heap.objs.size (dedupS ns)) from⟨hS,⟨_,e⟩,fun h1 h2 x k=>x.kept k⟩),rfl,q _ (I.hok.fresh (aL _))⟩
theorem JV(hc:X.calm=true):zg X (.builtin "sorted") (fun xs H Q=>∃(p:aa) (τ:List Str),xs=[.ref p]/\H p=some (KG X p τ)/\τ.length < 64/\∀(l:aa) (ns:List Str),H l=none->ns.Perm τ->sortedS ns=true->Q (.ref l) (upd H l (.lst (ns.map V.str)))):=by
 intro ah s σ H xs us Q I r h;obtain⟨p,τ,rfl,hp,h64,q⟩:=h;obtain⟨u,rfl,rx⟩:=J1 r
 cases rx
 obtain⟨⟨es,ep,t,ho,iH,⟨l0,Il,Ci⟩,hb,hf,ht⟩,_⟩:=I.hok p _ hp;have hz:es.size=τ.length:=by
  have h1:=Il.length;rw[ax,dQ]at h1;rw[h1,Ci.length_eq]
 refine Calls.call_function_entry kind_sorted plain_sorted entry_sorted (args_sorted1 _) ?_;unfold Builtin.«sorted»;refine am (m:=checkCount "sorted" 1 1 _) (az (am ?_));refine jaM (A:=X.A.in1) (show X.A.in1.handled=none from I.ok.hd hc) ho hf ht (by omega) fun h' d' aX hv hk=>?_
 obtain⟨dS,hI,dM⟩:=yI Il hv;have hl:aX.length=τ.length:=by rw[hI.length,dM.length_eq,Ci.length_eq]
 refine am (wpAny_newList ?_ (by rw[hl];exact aV (by omega) jex));have rP:(h'.push (AN "list" aX.toArray 0)).get? h'.objs.size=some (AN "list" aX.toArray 0):=cg _ rfl;refine am (dD (gA slot_list_sort ⟨_,rP,rfl⟩ entry_list_sort (list_sort_treeK strKind_oneLt rP hI.keysOf (fun v₁ v₂ qP e=>keyKind_strs (by rw[<- e];exact hI)) (by omega) fun i7 a1 a2=>⟨_,rfl,?_⟩) (args_list_sort _)));refine az ⟨_,rfl,?_⟩;obtain⟨ss,b1,b2,b3⟩:=sorted_out_str hI a1 a2;have I1:Inv X ah σ H { s with heap:=h',drawn:=d' }:=I.drawn hk;obtain⟨e,he⟩:=sortedHeap_at (out:=(arrOf i7).map (·.2)) rP;refine⟨.ref h'.objs.size,_,I1.laid (t':=s.toks) (a:=h'.objs.size) (fun b o hb=>?_) (aL _) (show ObjOk X.prog X.w _ _ _ (.lst (ss.map V.str)) from⟨?_,_,e,Yt b1,?_⟩),rfl,q _ _ (I1.hok.fresh (aL _)) (b2.trans (dM.trans Ci)) b3⟩
 .have bz:=aS hb
  rw[sortedHeap_old (bv bz) (by rw[size_push'];exact MY bz)];exact bo _ hb
 .rw[ax,b2.length_eq,<- hI.length,hl]
  exact aV (by omega) jex
 .rw[Array.toArray_toList]
  exact he
theorem Yb(hc:X.calm=true):zg X (.type "set") (fun xs H Q=>∃(p:aa) (ns:List Str),xs=[.ref p]/\SqT X.K H p (ns.map V.str)/\ns.length<=1000/\∀v,H v=none->Q (.ref v) (upd H v (KG X v (dedupS ns)))):=by
 intro ah s σ H xs us Q I r h;obtain⟨p,ns,rfl,hq,hz,q⟩:=h;obtain⟨u,rfl,rx⟩:=J1 r
 cases rx
 obtain⟨its,rv,tp,ir⟩:=I.tuple hq;obtain⟨⟨c1,d1,t1,l1⟩,o1,z1,n1,z2⟩:=tp;simp only at z1 z2;subst z1 z2;refine PySem.set_ofB (b:=true) (I.ok.hd hc) o1 (Kx rv) (by unfold fY;omega) fun h' tk hS hk=>?_
 have eA:=hS;obtain⟨es,ep,t,e,_⟩:=eA;refine⟨.ref s.heap.objs.size,_,I.laid (t':=tk) hk (aL _) (show ObjOk X.prog X.w _ _ _ (KG X s.heap.objs.size (dedupS ns)) from⟨hS,⟨_,e⟩,fun h1 h2 x k=>x.kept k⟩),rfl,q _ (I.hok.fresh (aL _))⟩
def jgZ(mask i:Nat):Nat:=(i * 5+1) % (mask+1)
def jbW(mask:Nat):Nat->Nat->Nat->Bool
 | 0,_,_=>false
 | f+1,i,j=>i == j || jbW mask f (jgZ mask i) j
def qG(m:Nat):Prop:=m=7\/m=15\/m=31\/m=63
theorem jcT{mask:Nat}(h:qG mask):∀i,i < mask+1->∀j,j < mask+1->jbW mask (mask+1) i j=true:=by
 rcases h with rfl | rfl | rfl | rfl
 .decide +kernel
 .decide +kernel
 .decide +kernel
 .decide +kernel
theorem YQ{mask:Nat}{owner:Array (Option Nat)}{j:Nat}(hj:(owner.getD j (some 0)).isNone=true):∀(f i:Nat),jbW mask f i j=true->∃k,lZ mask owner f i 0=some k/\(owner.getD k (some 0)).isNone=true
 | 0,i,h=>by cases h
 | f+1,i,h=>by
  unfold lZ
  cases hf:(cE (Mr mask i+1 - i)).find? fun k=>(owner.getD (i+k) (some 0)).isNone with
  | some k=>exact⟨i+k,rfl,by have:=WC hf;exact this⟩
  | none=>
   unfold jbW at h;rw[ww]at h;rcases h with h | h
   .have e:i=j:=by simpa using h
    subst e;have:=List.find?_eq_none.mp hf 0 (p9.mpr (by unfold Mr;split <;> omega));rw[M3,hj]at this;exact absurd rfl this
   .show ∃k,lZ mask owner f ((i * 5+1+0 / 32) % (mask+1)) (0 / 32)=some k/\_
    exact YQ hj f _ h
theorem YR{mask:Nat}(hm:qG mask){owner:Array (Option Nat)}{j:Nat}(hj:(owner.getD j (some 0)).isNone=true)(Hu:j < mask+1):∀(n i p:Nat),i < mask+1->p < 32 ^ n->∃k,lZ mask owner (mask+1+n) i p=some k/\(owner.getD k (some 0)).isNone=true
 | 0,i,p,hi,hp=>by
  have:p=0:=by simpa using hp
  subst this;exact YQ hj _ i (jcT hm i hi j Hu)
 | n+1,i,p,hi,hp=>by
  show ∃k,lZ mask owner (mask+1+n+1) i p=some k/\_;unfold lZ
  cases hf:(cE (Mr mask i+1 - i)).find? fun k=>(owner.getD (i+k) (some 0)).isNone with
  | some k=>exact⟨i+k,rfl,by have:=WC hf;exact this⟩
  | none=>
   show ∃k,lZ mask owner (mask+1+n) ((i * 5+1+p / 32) % (mask+1)) (p / 32)=some k/\_;exact YR hm hj Hu n _ _ (ES _ (V8 _)) (by rw[Nat.pow_succ]at hp;omega)
def yu(owner:Array (Option Nat))(l:List Nat):List Nat:=l.filterMap fun j=>owner.getD j none
theorem jah{owner:Array (Option Nat)}{j k:Nat}(hj:j < owner.size)(hn:owner.getD j (some 0)=none):∀l:List Nat,l.Nodup->(j ∉ l->yu (owner.setIfInBounds j (some k)) l=yu owner l)/\(j∈l->(yu (owner.setIfInBounds j (some k)) l).Perm (k :: yu owner l))
 | [],_=>⟨fun _=>rfl,fun h=>by cases h⟩
 | a :: l,nd=>by
  obtain⟨n1,n2⟩:=p7.mp nd;obtain⟨i1,i2⟩:=jah hj hn l n2;have FS:a≠j->(owner.setIfInBounds j (some k)).getD a none=owner.getD a none:=fun bM=>by
   rw[tH,tH,Array.getElem?_setIfInBounds_ne (bB bM)]
  have SY:(owner.setIfInBounds j (some k)).getD j none=some k:=by
   rw[tH,Array.getElem?_setIfInBounds_self_of_lt hj];rfl
  have N4:owner.getD j none=none:=by
   rw[tH]at hn |-;rw[tG hj]at hn |-;exact hn
  refine⟨fun h=>?_,fun h=>?_⟩
  .have bM:a≠j:=fun z=>h (by rw[z];exact bt)
   unfold yu at i1 |-;rw[dG,dG,FS bM,i1 (fun z=>h (aZ _ z))]
  .by_cases e:a=j
   .subst e
    unfold yu at i1 |-;rw[dG,dG,SY,N4,i1 n1]
   .have hm:j∈l:=(aM.mp h).resolve_left (fun z=>e z.symm)
    have:=i2 hm;unfold yu at this |-;rw[dG,dG,FS e]
    cases owner.getD a none with
    | none=>exact this
    | some x=>exact (this.cons x).trans (List.Perm.swap k x _)
theorem jcE{owner:Array (Option Nat)}{m:Nat}(hs:owner.size=m)(h:(yu owner (cE m)).length < m):∃j,j < m/\(owner.getD j (some 0)).isNone=true:=by
 apply Classical.byContradiction;intro nF;have all:∀j,j < m->∃k,owner.getD j none=some k:=fun j hj=>by
  have h1:¬(owner.getD j (some 0)).isNone=true:=fun z=>nF ⟨j,hj,z⟩
  rw[tH,tG (by omega)]at h1 |-
  cases hx:owner[j]'(by omega+splitNatSub) with
  | none=>rw[hx]at h1;exact absurd rfl h1
  | some k=>exact⟨k,by rw[Option.getD_some]⟩
 have dv:∀l:List Nat,(∀j∈l,j < m)->(yu owner l).length=l.length:=by
  intro l;induction l with
  | nil=>intro _;rfl
  | cons a l ih=>
   intro hl;obtain⟨k,hk⟩:=all a (hl a bt);have:=ih fun j hj=>hl j (aZ _ hj)
   unfold yu at this |-;rw[dG,hk];show (k :: List.filterMap _ l).length=_;rw[bR,this,bR]
 rw[dv _ (fun j hj=>p9.mp hj),tj]at h;omega
theorem jav{mask:Nat}(hm:qG mask):∀(hs:List Int) (owner:Array (Option Nat)) (k:Nat),owner.size=mask+1->(yu owner (cE (mask+1))).Perm (cE k)->k+hs.length<=mask+1->
  ∃Bu,(hs.foldl (fun (bp:Option (Array (Option Nat)×Nat)) h=>bp.bind fun (owner,k)=>(lZ mask owner (Mq mask) (mZ h % (mask+1)) (mZ h)).bind fun j=>some (owner.setIfInBounds j (some k),k+1)) (some (owner,k)))=some (Bu,k+hs.length)/\Bu.size=mask+1/\(yu Bu (cE (mask+1))).Perm (cE (k+hs.length))
 | [],owner,k,h1,h2,_=>⟨owner,rfl,h1,h2⟩
 | h :: hs,owner,k,h1,h2,h3=>by
  rw[bR]at h3;obtain⟨j,hj,QY⟩:=jcE h1 (by rw[h2.length_eq,tj];omega);have hb:mZ h < 32 ^ 14:=by
   unfold mZ;have a:=gE h (b:=(2 ^ 64:Int)) (by decide);have b:=fu h (b:=(2 ^ 64:Int)) (by decide);have:(32:Nat) ^ 14=1180591620717411303424:=by decide
   omega
  obtain⟨x,hx,xv⟩:=YR hm QY hj 14 (mZ h % (mask+1)) (mZ h) (ES _ (V8 _)) hb;have O4:x < owner.size:=by
   rcases wq x owner.size with z | z
   .exact z
   .rw[tH,Array.getElem?_eq_none z]at xv
    cases xv
  have O3:owner.getD x (some 0)=none:=by
   cases e:owner.getD x (some 0) with
   | none=>rfl
   | some y=>rw[e]at xv;cases xv
  have hp:=(jah (k:=k) O4 O3 (cE (mask+1)) Wn).2 (p9.mpr (by omega));have sg:(yu (owner.setIfInBounds x (some k)) (cE (mask+1))).Perm (cE (k+1)):=by
   refine hp.trans ((h2.cons k).trans ?_);rw[Wl];exact (List.perm_append_singleton _ _).symm
  obtain⟨o',e1,e2,e3⟩:=jav hm hs (owner.setIfInBounds x (some k)) (k+1) (by rw[Array.size_setIfInBounds];exact h1) sg (by omega);refine⟨o',?_,e2,?_⟩
  .rw[WB]
   have:(some (owner,k)).bind (fun (p:Array (Option Nat)×Nat)=>(lZ mask p.1 (Mq mask) (mZ h % (mask+1)) (mZ h)).bind fun j=>some (p.1.setIfInBounds j (some p.2),p.2+1))=some (owner.setIfInBounds x (some k),k+1):=by
    show (lZ mask owner (mask+15) _ _).bind _=_;rw[show mask+15=mask+1+14 from rfl,hx];rfl
   rw[bR,show k+(hs.length+1)=k+1+hs.length by omega];refine Eq.trans ?_ e1;exact WW (fun z=>hs.foldl _ z) this
  .rw[bR,show k+(hs.length+1)=k+1+hs.length by omega]
   exact e3
theorem jai(n:Nat):∀l:List Nat,yu (E8 n none) l=[]
 | []=>rfl
 | a :: l=>by
  have:=jai n l;unfold yu at this |-;rw[dG];have e:(E8 n (none:Option Nat)).getD a none=none:=by
   rw[tH,Array.getElem?_replicate];split <;> rfl
  rw[e];exact this
theorem KQ(owner:Array (Option Nat)):∀l:List Nat,(l.filterMap fun j=>(owner.getD j none).map (fun k=>(j,k))).map (·.2)=yu owner l
 | []=>rfl
 | a :: l=>by
  have:=KQ owner l;unfold yu at this |-;rw[dG,dG]
  cases owner.getD a none with
  | none=>exact this
  | some k=>show k :: iZ _ _=_;rw[this]
variable {led:Bool}
theorem YI{mask finger moves:Nat}{plain:Bool}(hm:qG mask)(hs:Array Int)(h:hs.size<=mask+1):∃t o,sU mask finger moves led plain hs=some (t,o)/\o.toList.Perm (cE hs.size)/\t.place.size=hs.size/\t.mask=mask/\TabOk led t:=by
 obtain⟨owner,e1,e2,e3⟩:=jav hm hs.toList (E8 (mask+1) none) 0 Array.size_replicate (by rw[jai];exact tE _) (by rw[dQ];omega);have hc:Ms mask hs=some owner:=by
  unfold Ms;rw[<- Array.foldl_toList];have:(hs.toList.foldl (fun (bp:Option (Array (Option Nat)×Nat)) h=>bp.bind fun (owner,k)=>(lZ mask owner (Mq mask) (mZ h % (mask+1)) (mZ h)).bind fun j=>some (owner.setIfInBounds j (some k),k+1)) (some (E8 (mask+1) none,0))).map (·.1)=some owner:=by rw[e1];rfl
  exact this
 have hl:sU mask finger moves led plain hs=some ({ mask,place:=(((cE (mask+1)).filterMap fun j=>(owner.getD j none).map (fun k=>(j,k))).map (·.1)).toArray,dummies:=#[],finger,led,moves,plain },(((cE (mask+1)).filterMap fun j=>(owner.getD j none).map (fun k=>(j,k))).map (·.2)).toArray):=by
  unfold sU;rw[hc];rfl
 refine⟨_,_,hl,?_,?_,rfl,jbZ hl⟩
 .rw[KQ]
  rw[dQ,AR]at e3;exact e3
 .have h1:=e3.length_eq
  rw[<- KQ,ax,tj,dQ,AR]at h1;show (iZ _ _).toArray.size=_;rw[cA,ax];exact h1
theorem jba{α:Type}(es:Array α):(cE es.size).filterMap (es[·]?)=es.toList:=by
 apply List.ext_getElem?;intro i;have dv:∀n,n<=es.size->(cE n).filterMap (es[·]?)=es.toList.take n:=by
  intro n;induction n with
  | zero=>intro _;rfl
  | succ n ih=>
   intro hn;rw[Wl,List.filterMap_append,ih (by omega),bP];simp[tG (show n < es.size by omega)]
 rw[dv _ (aL _),wr (by rw[dQ];exact aL _)]
theorem Jq{α:Type}{es:Array α}{o:Array Nat}(h:o.toList.Perm (cE es.size)):(o.filterMap (es[·]?)).toList.Perm es.toList/\(o.filterMap (es[·]?)).size=es.size:=by
 have e:(o.filterMap (es[·]?)).toList=o.toList.filterMap (es[·]?):=Array.toList_filterMap;have p:(o.filterMap (es[·]?)).toList.Perm es.toList:=by
  rw[e,<- jba es];exact h.filterMap _
 exact⟨p,by have:=p.length_eq;rw[dQ,dQ]at this;exact this⟩
theorem jab:∀n,n < 63->qG (on n - 1)/\n < on n/\on n<=64:=by
 intro n hn;unfold qG;have:∀n,n < 63->((on n=8\/on n=16\/on n=32\/on n=64)/\n < on n):=by decide +kernel
 obtain⟨h,h2⟩:=this n hn;omega
structure SmS(prog:aF)(w:aE)(h:aB)(a:aa)(led:Bool)(σ:List Str)(es:Array (Int×ac))(ep:Nat)(t:bH):Prop where
 o:h.get? a=some (ko es ep t)
 el:EJ (dE prog w) es.toList
 pm:∃l:List Str,StrsAre (es.toList.map (·.2)) l/\l.Perm σ
 fit:t.fits es.size=true
 tab:TabOk led t
 sm:qG t.mask
variable {prog:aF}{w:aE}{h:aB}{a:aa}{σ:List Str}{es:Array (Int×ac)}{ep:Nat}
theorem SmS.len{t:bH}(x:SmS prog w h a led σ es ep t):es.size=σ.length:=by
 obtain⟨l,h1,h2⟩:=x.pm;have:=h1.length;rw[ax,dQ]at this;rw[this,h2.length_eq]
theorem SmS.set{t:bH}(x:SmS prog w h a led σ es ep t)(hb:σ.length < fY):SetAtS prog w h a led σ:=⟨es,ep,t,x.o,x.el,x.pm,by rw[x.len];exact hb,x.fit,x.tab⟩
theorem jaC{t:bH}{n:Nat}(h1:t.place.size=n)(h2:t.dummies=#[])(h3:n<=t.mask):t.fits n=true:=by
 unfold Ey Mt;simp[h1,h2,h3]
theorem jbQ{bW:Array (Int×ac)}(p:bW.toList.Perm es.toList)(h:∃l:List Str,StrsAre (es.toList.map (·.2)) l/\l.Perm σ):∃l:List Str,StrsAre (bW.toList.map (·.2)) l/\l.Perm σ:=by
 obtain⟨l,h1,h2⟩:=h;obtain⟨l',j1,j2⟩:=yI h1 (p.map (·.2));exact⟨l',j1,j2.trans h2⟩
variable {A:aR}{E:ac->av->Prop}{s:av}
section
theorem Zi{bW:Array (Int×ac)}{t t':bH}(ho:h.get? a=some (ko es ep t)):(h.update a (sW bW t')).get? a=some (ko bW (ep+1) t'):=by
 have:=ED (sW bW t') ho (by rw[Ek bW t' rfl];rfl);rw[Ek bW t' rfl]at this;exact this
theorem jdN{more:Nat}{t:bH}{Q:Unit->av->Prop}(x:SmS prog w s.heap a led σ es ep t)(hz:σ.length+more<=15)
  (h:∀h' bW gu t',dj a s.heap h'->SmS prog w h' a led σ bW gu t'->σ.length+more<=t'.mask->t'.fill=σ.length->Q () { s with heap:=h' }):aw (aA prog w) A (setRoomFor a more) Q E s:=by
 have hlen:=x.len
 have nP:t.fill=es.size:=by
  have:=x.fit;unfold Ey at this;rw[cO]at this;have h1:t.place.size=es.size:=by simpa using this.1
  unfold Mt;rw[x.tab.none_,h1];rfl
 unfold setRoomFor
 refine am (dC x.o rfl x.fit ?_)
 dsimp only
 cases hr:t.roomFor more with
 | none=>
  dsimp only
  refine az (h s.heap es ep t (pY a s.heap) x ?_ (by rw[nP,hlen]))
  unfold U5 at hr
  split at hr
  .cases hr
  .rename_i hn
   rw[nP,hlen]at hn
   omega
 | some wanted=>
  dsimp only
  have hw:wanted=(es.size+more) * 2:=by
   unfold U5 at hr;split at hr
   .have:t.place.size=es.size:=by
     have:=x.fit;unfold Ey at this;rw[cO]at this;simpa using this.1
    rw[this]at hr;exact (eW hr).symm
   .cases hr
  obtain⟨m1,m2,m3⟩:=jab wanted (by omega)
  obtain⟨t',o,e1,e2,e3,e4,e5⟩:=YI (finger:=t.finger) (moves:=t.movedTo (on wanted - 1)) (led:=t.led) (plain:=t.plain) m1 (es.map (·.1)) (by rw[E7];omega)
  rw[E7]at e2 e3
  rw[x.tab.led_]at e5
  obtain⟨p1,p2⟩:=Jq e2
  unfold setRelay
  refine am (dC x.o rfl x.fit ?_)
  dsimp only
  rw[WT (by rw[fX];omega)]
  show aw _ _ ((match t.relaid (es.map (·.1)) wanted with | some (t,oR)=>(if ((oR.filterMap (es[·]?)).size != es.size)=true then unsupported "internal:set-table-lost-an-element" >>= fun _=>pure (oR.filterMap (es[·]?),t) else pure (oR.filterMap (es[·]?),t)) | _=>unsupported "internal:set-table-without-room") >>= _) _ _ _
  rw[show t.relaid (es.map (·.1)) wanted=some (t',o) from e1]
  dsimp only
  rw[WT (by rw[p2];simp)]
  refine am (az ?_)
  dsimp only
  refine vY x.o rfl ?_ (by rw[p2,hlen,fX];omega)
  refine h _ _ _ _ (pX s.heap a _) ⟨Zi x.o,x.el.perm p1,jbQ p1 x.pm,jaC (by rw[e3,p2]) e5.none_ (by rw[p2,e4];omega),e5,by rw[e4];exact m1⟩ (by rw[e4];omega) ?_
  unfold Mt
  rw[e3,e5.none_,hlen]
  rfl
end
section
theorem jaP{Q:Bool->av->Prop}(h:Q (w.params.followText "set-order") s):aw (aA prog w) A Ax Q E s:=by
 unfold Ax;exact am (sI (az h))
theorem jds{t:bH}{Q:Array (Int×ac)->av->Prop}(ho:s.heap.get? a=some (ko es ep t))(hf:t.fits es.size=true)(ht:TabOk (ledOf w) t)(hd:w.params.followText "set-order" = true\/yf es t=false)
  (h:∀g9:Array (Int×ac),g9.toList.Perm es.toList->Q g9 s):aw (aA prog w) A (Ej a) Q E s:=by
 unfold Ej
 refine am (dC ho rfl hf ?_)
 dsimp only
 refine am (jaP ?_)
 cases hb:w.params.followText "set-order" with
 | true=>
  simp only[if_true]
  exact am (sI (az (h _ (YE _ _))))
 | false=>
  rcases hd with hd | hd
  .rw[hb]at hd;cases hd
  rw[WT bY]
  show aw _ _ (if yf es t=true then _ else _) _ _ _
  rw[hd,WT bY]
  have hl:t.led=true:=by rw[ht.led_];unfold ledOf;rw[hb];rfl
  show aw _ _ ((if (!t.led && decide (es.size > 1))=true then unsupported "set:maker-not-led" else pure ()) >>= fun _=>pure es) _ _ _
  rw[hl,WT (by simp)]
  exact am (az (az (h es (tE _))))
theorem jae:∀(tX:List aa) {Q:Bool->av->Prop},(∀a∈tX,∃es ep t,s.heap.get? a=some (ko es ep t)/\t.fits es.size=true/\∀e∈es.toList,∃x k,e.2=.str x k)->Q true s->aw (aA prog w) A (setsQuiet tX) Q E s:=by
 intro tX Q hs h;unfold setsQuiet;refine am ?_;refine LD _ (fun qP r s'=>r.1=none/\s'=s/\∀a∈qP,a∈tX) _ ?_ ?_ tX _ ⟨rfl,rfl,fun a h=>h⟩
 .rintro a qP r s' ⟨hr,rfl,gU⟩
  obtain⟨es,ep,t,ho,hf,iH⟩:=hs a (gU a bt);unfold LO;refine am (am (dC ho rfl hf (az ?_)));dsimp only;refine am ?_;rw[<- wz];refine LD _ (fun FO r' im=>r'.1=none/\im=s'/\∀e∈FO,e∈es.toList) _ ?_ ?_ es.toList _ ⟨rfl,rfl,fun e h=>h⟩
  .rintro e FO r' im ⟨bL,rfl,x9⟩
   obtain⟨x,k,ex⟩:=iH e (x9 e bt);obtain⟨e1,e2⟩:=e;dsimp only at ex;subst ex;refine az ?_;exact⟨rfl,rfl,fun e h=>x9 e (aZ _ h)⟩
  .rintro⟨r1,r2⟩ im ⟨bL,rfl,_⟩
   dsimp only at bL;subst bL;exact az ⟨rfl,rfl,fun a h=>gU a (aZ _ h)⟩
 .rintro⟨r1,r2⟩ s' ⟨hr,rfl,_⟩
  dsimp only at hr;subst hr;exact az h
theorem Jg{l:List Str}(h:StrsAre (es.toList.map (·.2)) l):∀e∈es.toList,∃x k,e.2=.str x k:=fun e he=>h.all e.2 (ci.mpr ⟨e,he,rfl⟩)
end
section
theorem Z0{S o:aa}{σs σo:List Str}{eo:Array (Int×ac)}{eq:Nat}{t to:bH}{Q:Array (Int×ac)->av->Prop}(bM:S≠o)(x:SmS prog w s.heap S (ledOf w) σs es ep t)(ho:s.heap.get? o=some (ko eo eq to))(nO:to.fits eo.size=true)(oZ:TabOk (ledOf w) to)(PR:StrsAre (eo.toList.map (·.2)) σo)(hz:σs.length < 1000)
  (h:∀g9 h' gu t',g9.toList.Perm eo.toList->dj S s.heap h'->SmS prog w h' S (ledOf w) σs es gu t'->Q g9 { s with heap:=h' }):aw (aA prog w) A (setWalkUnseen o [S] (some S)) Q E s:=by
 unfold setWalkUnseen
 refine am (dC ho rfl nO ?_)
 dsimp only
 refine am (jaP ?_)
 by_cases hc:(w.params.followText "set-order" || (to.led && to.plain) || decide (eo.size<=1))=true
 .rw[WU hc]
  refine jds ho nO oZ ?_ fun g9 ha=>h g9 s.heap ep t ha (pY S s.heap) x
  rw[ww,ww]at hc
  rcases hc with (hc | hc) | hc
  .exact .inl hc
  .right
   rw[cO]at hc
   unfold yf
   rw[hc.2]
   rfl
  .right
   have:=WP hc
   unfold yf
   rw[WR (by omega),Na]
 .rw[WT hc]
  refine am (jae [o,S] (fun a ha=>?_) ?_)
  .rcases aM.mp ha with rfl | ha
   .exact⟨eo,eq,to,ho,nO,Jg PR⟩
   .rw[aN.mp ha]
    obtain⟨l,hl,_⟩:=x.pm
    exact⟨es,ep,t,x.o,x.fit,Jg hl⟩
  rw[WT (by decide)]
  refine am (lS ?_)
  try dsimp only
  refine am (dC x.o rfl x.fit ?_)
  dsimp only
  split
  .refine am (vY x.o rfl ?_ (by rw[x.len,fX];omega))
   refine az (h eo _ (ep+1) { t with led:=t.led && to.led,plain:=t.plain && to.plain } (tE _) (pX s.heap S _) ⟨Zi x.o,x.el,x.pm,x.fit,⟨?_,x.tab.none_,x.tab.up⟩,x.sm⟩)
   show (t.led && to.led)=_
   rw[x.tab.led_,oZ.led_]
   cases ledOf w <;> rfl
  .exact az (h eo s.heap ep t (tE _) (pY S s.heap) x)
theorem KO{S o:aa}{σs σo:List Str}{t:bH}{each:Sem Unit}{Q:Unit->av->Prop}(bM:S≠o)(x:SmS prog w s.heap S (ledOf w) σs es ep t)(ho:SetAtS prog w s.heap o (ledOf w) σo)(ul:σs.Nodup)(Op:σo.Nodup)(hz:σs.length+σo.length<=15)
  (Rj:∀(s':av) {Q':Unit->av->Prop},(∀ob,s.heap.get? o=some ob->s'.heap.get? o=some ob)->Q' () s'->aw (aA prog w) A each Q' E s')
  (h:∀h' σ',dj S s.heap h'->SetAtS prog w h' S (ledOf w) σ'->σ'.Nodup->(∀y,y∈σ'↔y∈σs\/y∈σo)->((σs=[]\/σo=[])->∃bW gu t',SmS prog w h' S (ledOf w) σ' bW gu t')->Q () { s with heap:=h' }):aw (aA prog w) A (setMerge S o each) Q E s:=by
 obtain⟨eo,eq,to,mG,C4,⟨lo,nJ,uS⟩,hbo,nO,oZ⟩:=ho
 have hlen:eo.size=σo.length:=by
  have h1:=nJ.length;rw[ax,dQ]at h1;rw[h1,uS.length_eq]
 unfold setMerge
 rw[WT (by simpa using bM)]
 refine am (dC mG rfl nO ?_)
 dsimp only
 by_cases he:eo.isEmpty=true
 .rw[WU he]
  have h0:σo=[]:=by
   have:eo.size=0:=by simpa using he
   exact AX.mp (by omega)
  subst h0
  exact az (h s.heap σs (pY S s.heap) (x.set (by unfold fY;omega)) ul (fun y=>by simp) fun _=>⟨es,ep,t,x⟩)
 rw[WT he]
 refine am (jdN (more:=eo.size) x (by omega) fun h1 cW ep1 t1 oN x1 u_ HD=>?_)
 have lE:h1.get? o=some (ko eo eq to):=(oN.2 o (bB bM)).trans mG
 refine am (dC (s:={ s with heap:=h1 }) x1.o rfl x1.fit ?_)
 dsimp only
 have Gf:(t1.led && to.led)=ledOf w:=by rw[x1.tab.led_,oZ.led_];cases ledOf w <;> rfl
 unfold bH.road
 by_cases nP:(t1.fill != 0)=true
 .rw[WU nP]
  dsimp only
  refine am (Z0 (s:={ s with heap:=h1 }) bM x1 lE nO oZ nJ (by omega) fun g9 h2 Sh t2 ha wV x2=>?_)
  have P8:h2.get? o=some (ko eo eq to):=(wV.2 o (bB bM)).trans lE
  have Nk:=x2.set (by unfold fY;omega)
  have iB:∀e∈g9.toList,∃v k,v∈σo/\e.2=.str v k/\e.1=(dE prog w).hash v:=fun e mM=>by
   have cI:=ha.mem_iff.mp mM;obtain⟨v,k,ev⟩:=Jg nJ e cI;obtain⟨⟨kk,Hs,xT⟩,_⟩:=C4 e cI;rw[ev]at Hs;have:v=kk:=(dE prog w).inj _ _ _ (sL prog w v k) Hs;subst this;refine⟨v,k,uS.mem_iff.mp ((Ky nJ).mpr ⟨k,?_⟩),ev,xT⟩;rw[<- ev];exact ci.mpr ⟨e,cI,rfl⟩
  have h9:g9.toList.length=σo.length:=by rw[ha.length_eq,dQ,hlen]
  refine am ?_
  rw[<- wz]
  refine LD _ (fun qP _ s'=>∃h' σ',s'={ s with heap:=h' }/\dj S h2 h'/\SetAtS prog w h' S (ledOf w) σ'/\σ'.Nodup/\(∀y∈σs,y∈σ')/\(∀y∈σ',y∈σs\/y∈σo)/\(∃done,g9.toList=done++qP/\(∀e∈done,∀v k,e.2=.str v k->v∈σ'))/\σ'.length+qP.length<=30) _ ?_ ?_ g9.toList _ ⟨h2,σs,rfl,pY S h2,Nk,ul,fun y hy=>hy,fun y hy=>.inl hy,⟨[],rfl,fun e mM=>by cases mM⟩,by omega⟩
  .rintro⟨hh,v0⟩ qP _ s' ⟨h',σ',rfl,wW,eA,uq,a1,a2,⟨done,ed,a3⟩,al⟩
   obtain⟨v,k,hv,ev,eh⟩:=iB (hh,v0) (by rw[ed];exact fq _ bt)
   dsimp only at ev eh
   subst ev eh
   dsimp only
   rw[bR]at al
   refine am (dD (KD (s:={ s with heap:=h' }) eA (by unfold fY;omega) fun b h3 wU se=>?_))
   have GN:h3.get? o=some (ko eo eq to):=(wU.2 o (bB bM)).trans ((wW.2 o (bB bM)).trans P8)
   refine am (Rj { s with heap:=h3 } (fun ob e=>by rw[mG]at e;cases e;exact GN) ?_)
   refine am (dC (s:={ s with heap:=h3 }) GN rfl nO ?_)
   dsimp only
   rw[WT (by simp)]
   refine az ?_
   refine⟨h3,_,rfl,wW.trans wU,se,?_,fun y hy=>?_,fun y hy=>?_,⟨done++[((dE prog w).hash v,.str v k)],by rw[ed,dH];rfl,fun e mM v' k' Dw=>?_⟩,?_⟩
   .split
    .exact uq
    .rename_i hn
     exact ia.mpr ⟨uq,by simp,fun a nT b bQ=>by rw[aN.mp bQ];intro z;exact hn (by rw[<- z];exact nT)⟩
   .split
    .exact a1 y hy
    .exact EX _ (a1 y hy)
   .split at hy
    .exact a2 y hy
    .rcases aT.mp hy with g | g
     .exact a2 y g
     .rw[aN.mp g];exact .inr hv
   .rcases aT.mp mM with g | g
    .have:=a3 e g v' k' Dw
     split
     .exact this
     .exact EX _ this
    .rw[aN.mp g]at Dw
     cases Dw
     split
     .assumption
     .exact fq _ (aN.mpr rfl)
   .split
    .omega
    .rw[aG];simp only[bR,oz];omega
  .rintro _ s' ⟨h',σ',rfl,wW,eA,uq,a1,a2,⟨done,ed,a3⟩,_⟩
   rw[cv]at ed
   refine az (h h' σ' (oN.trans (wV.trans wW)) eA uq (fun y=>⟨a2 y,fun g=>?_⟩) fun g=>?_)
   .rcases g with g | g
    .exact a1 y g
    .obtain⟨k,hk⟩:=(Ky nJ).mp (uS.mem_iff.mpr g)
     obtain⟨e,mM,ee⟩:=ci.mp hk
     exact a3 e (by rw[<- ed];exact ha.mem_iff.mpr mM) y k ee
   .rcases g with g | g
    .rw[g]at HD
     rw[HD]at nP
     cases nP
    .rw[g]at hlen
     exact absurd (by simpa using hlen) he
 .rw[WT nP]
  have PZ:σs=[]:=by
   have:t1.fill=0:=by simpa using nP
   exact AX.mp (by omega)
  subst PZ
  have bE:∀h' bW gu t',dj S s.heap h'->SmS prog w h' S (ledOf w) σo bW gu t'->Q () { s with heap:=h' }:=fun h' bW gu t' sb x'=>h h' σo sb (x'.set (by unfold fY;omega)) Op (fun y=>by simp) fun _=>⟨bW,gu,t',x'⟩
  rw[oz,AR]at u_
  by_cases hmask:(t1.mask == to.mask && to.dummies.isEmpty)=true
  .rw[WU hmask]
   dsimp only
   have Qk:t1.mask=to.mask:=by
    rw[cO]at hmask;simpa using hmask.1
   refine vY (s:={ s with heap:=h1 }) x1.o rfl ?_ (by rw[hlen,fX];omega)
   exact bE _ eo _ { to with finger:=t1.finger,led:=t1.led && to.led,moves:=t1.moves,plain:=t1.plain && to.plain } (oN.trans (pX h1 S _)) ⟨Zi x1.o,C4,⟨lo,nJ,uS⟩,nO,⟨Gf,oZ.none_,oZ.up⟩,by show qG to.mask;rw[<- Qk];exact x1.sm⟩
  .rw[WT hmask]
   dsimp only
   obtain⟨t',od,e1,e2,e3,e4,e5⟩:=YI (finger:=t1.finger) (moves:=t1.moves) (led:=t1.led && to.led) (plain:=t1.plain && to.plain) x1.sm (eo.map (·.1)) (by rw[E7];omega)
   rw[E7]at e2 e3
   rw[Gf]at e5
   obtain⟨p1,p2⟩:=Jq e2
   show aw _ _ ((match sU t1.mask t1.finger t1.moves (t1.led && to.led) (t1.plain && to.plain) (eo.map (·.1)) with | some (t,oR)=>(if ((oR.filterMap (eo[·]?)).size != eo.size)=true then unsupported "internal:set-table-lost-an-element" >>= fun _=>pure (oR.filterMap (eo[·]?),t) else pure (oR.filterMap (eo[·]?),t)) | _=>unsupported "internal:set-table-without-room") >>= _) _ _ _
   rw[e1]
   dsimp only
   rw[WT (by rw[p2];simp)]
   refine am (az ?_)
   dsimp only
   refine vY (s:={ s with heap:=h1 }) x1.o rfl ?_ (by rw[p2,hlen,fX];omega)
   exact bE _ _ _ _ (oN.trans (pX h1 S _)) ⟨Zi x1.o,C4.perm p1,jbQ p1 ⟨lo,nJ,uS⟩,jaC (by rw[e3,p2]) e5.none_ (by rw[p2,e4];omega),e5,by rw[e4];exact x1.sm⟩
end
end L2
namespace PySem.F
theorem entry_set_or:AC table "set.__or__" = some Builtin.«frozenset.__or__»:=
 L6 (id':="frozenset.__or__") (by kernel_rfl) (by first | rfl | decide +kernel | (unfold String.splitOn;simp +decide [String.splitOnAux])) (by decide +kernel) (by kernel_rfl)
end PySem.F
namespace L2
open PySem PySem.Spec PyProof.Rows PySem.W
theorem YG{α:Type}[DecidableEq α]:∀{l l':List α},l.Nodup->(∀y∈l,y∈l')->l.length<=l'.length
 | [],_,_,_=>cy _
 | a :: l,l',nd,h=>by
  obtain⟨n1,n2⟩:=p7.mp nd;have ha:=h a bt;have:=YG (l':=l'.erase a) n2 fun y hy=>(Wq (fun z=>n1 (by rw[<- z];exact hy))).mpr (h y (aZ _ hy))
  have e:=Wu ha;have hp:0 < l'.length:=Wt ha;rw[bR];omega
variable {a:aa}{Q:ac->av->Prop}
section
variable {prog:aF}{w:aE}{A:aR}{E:ac->av->Prop}{s:av}
theorem ZS{Q:Bool->av->Prop}(h:s.TypeIs (.ref a) "set")(q:Q true s):aw (aA prog w) A (ML (.ref a)) Q E s:=by
 unfold ML;refine am (lT (T:="set") (b:=true) h Vq ?_);exact az q
theorem jeU(h:s.TypeIs (.ref a) "set")(q:Q (.type "set") s):aw (aA prog w) A (VP a) Q E s:=by
 unfold VP;refine am (lT (T:="set") (b:=true) h Vq ?_);exact az q
theorem jbV(q:Q (.ref s.heap.objs.size) { s with heap:=s.heap.push (ko #[] 0 (.fresh 0 0 (ledOf w))) }):aw (aA prog w) A (newSet (.type "set")) Q E s:=by
 unfold newSet Ax;refine am (am (sI (az ?_)));dsimp only;simp only[newObj];exact am (wpAny_alloc (az q))
theorem jaz{h:aB}(e:h.get? a=some (ko #[] 0 (.fresh 0 0 (ledOf w)))):SmS prog w h a (ledOf w) [] #[] 0 (.fresh 0 0 (ledOf w)):=
 ⟨e,fun e he=>by simp at he,⟨[],.nil,.nil⟩,rfl,⟨rfl,rfl,List.Pairwise.nil⟩,.inl rfl⟩
theorem ZT{Q:aa->av->Prop}(q:Q a s):aw (aA prog w) A (Builtin.Frozenset.addrOf (.ref a)) Q E s:=az q
theorem YA{es:Array (Int×ac)}{ep:Nat}{t:bH}{Q:Nat->av->Prop}(ho:s.heap.get? a=some (ko es ep t))(hf:t.fits es.size=true)(q:Q ep s):aw (aA prog w) A (setEpoch a) Q E s:=by
 unfold setEpoch;exact am (dC ho rfl hf (az q))
theorem SetAtS.type{h:aB}{led:Bool}{σ:List Str}(x:SetAtS prog w h a led σ):∃es ep t,h.get? a=some (ko es ep t)/\t.fits es.size=true:=by
 obtain⟨es,ep,t,e,_,_,_,hf,_⟩:=x;exact⟨es,ep,t,e,hf⟩
theorem jf7{b:aa}{σ1 σ2:List Str}(ha:SetAtS prog w s.heap a (ledOf w) σ1)(hb:SetAtS prog w s.heap b (ledOf w) σ2)(n1:σ1.Nodup)(n2:σ2.Nodup)(hz:σ1.length+σ2.length<=15)
  (h:∀h' σ',(∀c o,s.heap.get? c=some o->h'.get? c=some o)->SetAtS prog w h' s.heap.objs.size (ledOf w) σ'->σ'.Nodup->(∀y,y∈σ'↔y∈σ1\/y∈σ2)->Q (.ref s.heap.objs.size) { s with heap:=h' }):aw (aA prog w) A (call (.builtin "set.__or__") [.ref a,.ref b]) (fun v s'=>v≠.notImplemented/\Q v s') E s:=by
 obtain⟨ea,pa,ta,oa,fa⟩:=ha.type
 obtain⟨eb,pb,tb,ob,fb⟩:=hb.type
 have Ta:s.TypeIs (.ref a) "set":=⟨_,oa,rfl⟩
 have Tb:s.TypeIs (.ref b) "set":=⟨_,ob,rfl⟩
 refine gA Vr Ta PySem.F.entry_set_or ?_ (PySem.F.args_set_or_2 _ _)
 show aw _ _ (Builtin.Frozenset.slot1 "__or__" ⟨[.ref a,.ref b],[]⟩ >>= _) _ _ _
 refine am (Aw (a:=(Value.ref a,Value.ref b)) rfl ?_)
 simp only[oF,if_false]
 refine am ?_
 unfold andM
 refine am (ZS Ta ?_)
 show aw _ _ (ML (.ref b)) _ _ _
 refine ZS Tb ?_
 rw[WT (by decide)]
 show aw _ _ ((VO a >>= _) >>= _) _ _ _
 refine am (am ?_)
 unfold VO
 refine am (jeU Ta ?_)
 refine am (jbV ?_)
 have eS:(s.heap.push (ko #[] 0 (.fresh 0 0 (ledOf w)))).get? s.heap.objs.size=some (ko #[] 0 (.fresh 0 0 (ledOf w))):=cg _ rfl
 have uf:∀c o,s.heap.get? c=some o->(s.heap.push (ko #[] 0 (.fresh 0 0 (ledOf w)))).get? c=some o:=fun c o e=>bo _ e
 have OR:s.heap.objs.size≠a:=fun z=>absurd (aS oa) (by rw[z];exact iX _)
 have OQ:s.heap.objs.size≠b:=fun z=>absurd (aS ob) (by rw[z];exact iX _)
 generalize s.heap.push (ko #[] 0 (.fresh 0 0 (ledOf w)))=h1 at *
 refine am (ZT ?_)
 refine am (KO (s:={ s with heap:=h1 }) (each:=pure ()) OR (jaz eS) (ha.kept fun o e=>uf a o e) iY n1 (by rw[oz];omega) (fun s' Q' _ q=>az q) fun h2 σ' wV _ mt m2 NC=>?_)
 obtain⟨Dx,Sh,t2,x2⟩:=NC (.inl rfl)
 refine az ?_
 have BJ:∀y,y∈σ'↔y∈σ1:=fun y=>by rw[m2];simp
 have l2:σ'.length<=σ1.length:=YG mt fun y hy=>(BJ y).mp hy
 have ip:∀c o,s.heap.get? c=some o->h2.get? c=some o:=fun c o e=>(wV.2 c (bv (aS e))).trans (uf c o e)
 by_cases cV:((Value.ref b != Value.ref a)=true)
 .show aw _ _ (if (Value.ref b != Value.ref a)=true then _ else _) _ _ _
  rw[WU cV]
  refine am (ZT ?_)
  refine am (dD ?_)
  unfold VN
  refine am (ZS (s:={ s with heap:=h2 }) ⟨_,ip _ _ ob,rfl⟩ ?_)
  rw[WU rfl]
  refine am (ZT ?_)
  unfold Builtin.Frozenset.merge
  refine am (YA (s:={ s with heap:=h2 }) (ip _ _ ob) fb ?_)
  refine KO (s:={ s with heap:=h2 }) OQ x2 (hb.kept fun o e=>ip b o e) mt n2 (by omega) (fun s' Q' hk q=>?_) fun h3 σ3 wU se um m3 _=>?_
  .unfold Builtin.Frozenset.unchanged
   refine am (YA (hk _ (ip _ _ ob)) fb ?_)
   rw[WT (by simp)]
   exact az q
  .refine az (az ⟨_,rfl,(fun z=>by cases z),h h3 σ3 (fun c o e=>(wU.2 c (bv (aS e))).trans (ip c o e)) se um fun y=>by rw[m3,BJ]⟩)
 .show aw _ _ (if (Value.ref b != Value.ref a)=true then _ else _) _ _ _
  rw[WT cV]
  have e:b=a:=by simpa using cV
  subst e
  have:σ2.Perm σ1:=by
   obtain⟨_,_,_,z1,_,⟨l1,k1,p1⟩,_⟩:=ha;obtain⟨_,_,_,z2,_,⟨Gi,k2,p2⟩,_⟩:=hb;rw[z1]at z2
   cases z2
   have e1:=k1.strs;have e2:=k2.strs;rw[e1]at e2;subst e2;exact p2.symm.trans p1
  refine az (az ⟨_,rfl,(fun z=>by cases z),h h2 σ' ip (x2.set (by unfold fY;omega)) mt fun y=>by rw[BJ,this.mem_iff];simp⟩)
end
theorem jgg{X:Cx}:OpR X (fj .BitOr) (fun x y H Q=>∃(a b:aa) (σ1 σ2:List Str),x=.ref a/\y=.ref b/\H a=some (KG X a σ1)/\H b=some (KG X b σ2)/\σ1.Nodup/\σ2.Nodup/\σ1.length+σ2.length<=15/\∀v σ',H v=none->σ'.Nodup->(∀z,z∈σ'↔z∈σ1\/z∈σ2)->Q (.ref v) (upd H v (KG X v σ'))):=by
 intro ah s σ H x y v u Q I rx ry h;obtain⟨a,b,σ1,σ2,rfl,rfl,ha,hb,n1,n2,hz,q⟩:=h
 cases rx
 cases ry
 have sa:SetAtS X.prog X.w s.heap a (ledOf X.w) σ1:=(I.hok a _ ha).1;have sb:SetAtS X.prog X.w s.heap b (ledOf X.w) σ2:=(I.hok b _ hb).1;obtain⟨ea,pa,ta,oa,_⟩:=sa.type;obtain⟨eb,pb,tb,ob,_⟩:=sb.type;refine wpAny_binaryOp_same (T:="set") ⟨_,oa,rfl⟩ ⟨_,ob,rfl⟩ PySem.F.fills_set_or Vr (jf7 sa sb n1 n2 hz fun h' σ' hk hS nd m=>?_);have eA:=hS;obtain⟨es,ep,t,e,_⟩:=eA;exact⟨.ref s.heap.objs.size,_,I.laid (t':=s.toks) hk (aL _) (show ObjOk X.prog X.w _ _ _ (KG X s.heap.objs.size σ') from⟨hS,⟨_,e⟩,fun h1 h2 x k=>x.kept k⟩),rfl,q _ _ (I.hok.fresh (aL _)) nd m⟩
theorem jaw{K:aC}{cd:ac}{q:Str}(h:pV K cd q=true):AE K cd=true:=by
 unfold pV at h;unfold AE;split at h
 .split at h
  .rename_i e
   dsimp only;rw[e]
  .cases h
 .cases h
theorem Fun.okC{P:aF}{w:aE}{K:aC}{mg:Str->Option ac}{base:aB}{x bA:Str}{st:aJ}{f:aa}{fd:aO}{N ps:List Str}{k:Nat}{sp:Sp}(F:Fun K x bA st f fd)(S:FnScope N ps (jp st))(len:∀vs H Q E,sp vs H Q E->vs.length=ps.length)
  (mP:∀(aH:ac) (A:aR) (outer:List Env) (s:av) (H:Hp) (vs:List V) (Q:VK) (E:XK),AE K aH=true->Room k (A.deeper (envOfC bA (jp st) s.heap.objs.size f aH))->sp vs H Q E->
   ∃t,QSs (j7 CX0 P w K mg base N bA (jp st) f aH A outer s H E).nox (qA st) t/\t { nx:=fun _ H'=>Q .non H',rt:=Q } (yn N vs) H):FnOk P w K mg base CX0 (k+1) f fd ps sp:=by
 obtain⟨oc,od,kV,di,pm,an,aH,ct,lh,rfl,lk,dz⟩:=F.ex
 refine jeJ lk dz S len fun A outer s H vs Q E hr gO=>?_
 obtain⟨t,h,q⟩:=mP aH A outer s H vs Q E (jaw dz) hr gO
 exact⟨t,h.h.nox,q⟩
theorem jdf{X:Cx}{z:Str}{j:Nat}{p1 pos:Pos}(hc:AE X.K X.env.code=true):QE X (.Set [.Constant (.str z) j p1] 0 pos) (fun _ H Q=>∀v,H v=none->Q (.ref v) (upd H v (KG X v [z]))):=⟨by
 intro ah s σ H Q I q;rw[arm_eval_Set];refine am (sD ?_);refine am (kds_main I.kIn hc fun b=>?_);show aw _ _ (setDisplay .oneByOne b [(false,do let v <- eval (.Constant (.str z) j p1) X.env;standAt pos;pure v)]) _ _ _;unfold setDisplay;rw[WT (by decide)];refine am (jbV ?_);have eS:(s.heap.push (ko #[] 0 (.fresh 0 0 (ledOf X.w)))).get? s.heap.objs.size=some (ko #[] 0 (.fresh 0 0 (ledOf X.w))):=cg _ rfl;dsimp only;refine am (dD ?_);refine am (wpAny_evalAll_cons (am (wpAny_Constant_str (am (sD (az (wpAny_evalAll_nil ?_)))))));refine am (dD ?_);refine am ?_;rw[q_];refine am ?_;refine am ?_;unfold setAdd;refine dD ?_;refine am ((dE X.prog X.w).pyHash (k:=z) (sL _ _ _ _) ?_);refine KD (prog:=X.prog) (w:=X.w) (σ:=[]) ((jaz (prog:=X.prog) (w:=X.w) eS).set (by decide)) (by decide) fun b' h' sb hS=>?_
 rw[WT (by simp)]at hS;refine az ?_;dsimp only;rw[oB];refine az ?_;rw[WT (by decide)];refine az ?_;show aw _ _ (forIn ([]:List (Bool×Sem ac)) PUnit.unit _ >>= _) _ _ _;rw[oB];refine am (az (az (az ?_)));have eA:=hS;obtain⟨es,ep,t,e,_⟩:=eA;exact⟨.ref s.heap.objs.size,_,I.laid (fun c o eo=>(sb.2 c (bv (aS eo))).trans (bo _ eo)) (aL _) (show ObjOk X.prog X.w _ _ _ (KG X s.heap.objs.size [z]) from⟨hS,⟨_,e⟩,fun h1 h2 x k=>x.kept k⟩),rfl,q _ (I.hok.fresh (aL _))⟩⟩
end L2
namespace LW
open PySem L2
variable {n:Nat}
theorem jY(h:n<=1000):n<=aP:=cu (jz h)
theorem sm(h:n.ble 1000=true):n<=aP:=jY (cf h)
def je7:TE:=fun _ _ _=>False
theorem kW{X:Cx}{e:ay}:QE X e je7:=⟨fun _ _ _ _ _ _ h=>h.elim⟩
inductive Tm where
 | is (x:Str) | at_ (r x:Str) (d:Int)
inductive Bd where
 | is (x:Str) | row (r:Str)
inductive Cl where
 | least (a b:Tm) (c:Int) | each (t:Str) (td:Int) (u:Str) (ud:Int) (r way:Str) (b:Bd) (c:Int) | rise (t:Str) (td:Int) (u:Str) (ud:Int) (r:Str)
inductive Sm where
 | set (x:Str) (t:Tm) (c:Int) | put (r x:Str) (d:Int) (t:Tm) (c:Int) | any (x:Str) | claim (C:Cl) | call (x f:Str) (as rs:List Str)
def plD(x:Str)(d:Int):D:=.tup [.str x,.int d]
def Tm.toD:Tm->D
 | .is x=>.tup [.str "is",.str x]
 | .at_ r x d=>.tup [.str "at",.str r,plD x d]
def Bd.toD:Bd->D
 | .is x=>.tup [.str "is",.str x]
 | .row r=>.tup [.str "row",.str r]
def Cl.toD:Cl->D
 | .least a b c=>.tup [.str "least",a.toD,b.toD,.int c]
 | .each t td u ud r way b c=>.tup [.str "each",plD t td,plD u ud,.str r,.str way,b.toD,.int c]
 | .rise t td u ud r=>.tup [.str "rise",plD t td,plD u ud,.str r]
def Sm.toD:Sm->D
 | .set x t c=>.tup [.str "set",.str x,t.toD,.int c]
 | .put r x d t c=>.tup [.str "put",.str r,plD x d,t.toD,.int c]
 | .any x=>.tup [.str "any",.str x]
 | .claim C=>.tup [.str "claim",C.toD]
 | .call x f as rs=>.tup [.str "call",.str x,.str f,.tup (as.map D.str),.tup (rs.map D.str)]
def Tm.ns:Tm->List Str
 | .is x=>[x]
 | .at_ _ x _=>[x]
def Cl.ns:Cl->List Str
 | .least a b _=>a.ns++b.ns
 | .each t _ u _ _ _ b _=>[t,u]++(match b with | .is x=>[x] | .row _=>[])
 | .rise t _ u _ _=>[t,u]
def Sm.ns:Sm->List Str
 | .set x t _=>[x]++t.ns
 | .put _ x _ t _=>[x]++t.ns
 | .any x=>[x]
 | .claim C=>C.ns
 | .call x _ as _=>[x]++as
theorem Cl.ns_len:∀C:Cl,C.ns.length<=3
 | .least a b _=>by cases a <;> cases b <;> exact cf rfl
 | .each _ _ _ _ _ _ b _=>by cases b <;> (unfold Cl.ns;simp)
 | .rise _ _ _ _ _=>by unfold Cl.ns;simp
def Sm.few:Sm->Prop
 | .call _ _ as rs=>as.length<=6/\rs.length<=6
 | _=>True
variable {H:Hp}{v:V}
theorem qe{x:Int}(h:Held H (.int x) v):v=.int x:=by unfold Held at h;exact h
theorem jE{ds:List D}(h:Held H (.tup ds) v):∃a xs,v=.ref a/\H a=some (.tup xs)/\HeldL H ds xs:=by unfold Held at h;exact h
theorem jK{vs:List V}(h:HeldL H [] vs):vs=[]:=by unfold HeldL at h;exact h
theorem ji{d:D}{ds:List D}{vs:List V}(h:HeldL H (d :: ds) vs):∃v r,vs=v :: r/\Held H d v/\HeldL H ds r:=by unfold HeldL at h;exact h
variable {x:Str}
theorem jD(h:Held H (.str x) v):v=.str x:=by unfold Held at h;exact h
variable {d:Int}
theorem zZ(h:Held H (plD x d) v):∃a,v=.ref a/\H a=some (.tup [.str x,.int d]):=by
 obtain⟨a,xs,rfl,ha,h1⟩:=jE h;obtain⟨v1,r1,rfl,e1,h2⟩:=ji h1;obtain⟨v2,r2,rfl,e2,h3⟩:=ji h2
 cases jK h3
 cases jD e1
 cases qe e2
 exact⟨a,rfl,ha⟩
variable {y:Str}
theorem qK(h:Held H (.tup [.str x,.str y]) v):∃a,v=.ref a/\H a=some (.tup [.str x,.str y]):=by
 obtain⟨a,xs,rfl,ha,h1⟩:=jE h;obtain⟨v1,r1,rfl,e1,h2⟩:=ji h1;obtain⟨v2,r2,rfl,e2,h3⟩:=ji h2
 cases jK h3
 cases jD e1
 cases jD e2
 exact⟨a,rfl,ha⟩
variable {r:Str}
theorem jbA(h:Held H (Tm.at_ r x d).toD v):∃a b,v=.ref a/\H a=some (.tup [.str "at",.str r,.ref b])/\H b=some (.tup [.str x,.int d]):=by
 obtain⟨a,xs,rfl,ha,h1⟩:=jE h;obtain⟨v1,r1,rfl,e1,h2⟩:=ji h1;obtain⟨v2,r2,rfl,e2,h3⟩:=ji h2;obtain⟨v3,r3,rfl,e3,h4⟩:=ji h3
 cases jK h4
 cases jD e1
 cases jD e2
 obtain⟨b,rfl,hb⟩:=zZ e3;exact⟨a,b,rfl,ha,hb⟩
variable {a b:Tm}{c:Int}
theorem zR(h:Held H (Cl.least a b c).toD v):∃t va vb,v=.ref t/\H t=some (.tup [.str "least",va,vb,.int c])/\Held H a.toD va/\Held H b.toD vb:=by
 obtain⟨t,xs,rfl,ht,h1⟩:=jE h;obtain⟨v1,r1,rfl,e1,h2⟩:=ji h1;obtain⟨v2,r2,rfl,e2,h3⟩:=ji h2;obtain⟨v3,r3,rfl,e3,h4⟩:=ji h3;obtain⟨v4,r4,rfl,e4,h5⟩:=ji h4
 cases jK h5
 cases jD e1
 cases qe e4
 exact⟨t,v2,v3,rfl,ht,e2,e3⟩
theorem KK{e:Int}(h:Held H (Cl.rise x d y e r).toD v):∃t a b,v=.ref t/\H t=some (.tup [.str "rise",.ref a,.ref b,.str r])/\H a=some (.tup [.str x,.int d])/\H b=some (.tup [.str y,.int e]):=by
 obtain⟨t,xs,rfl,ht,h1⟩:=jE h;obtain⟨v1,r1,rfl,e1,h2⟩:=ji h1;obtain⟨v2,r2,rfl,e2,h3⟩:=ji h2;obtain⟨v3,r3,rfl,e3,h4⟩:=ji h3;obtain⟨v4,r4,rfl,e4,h5⟩:=ji h4
 cases jK h5
 cases jD e1
 cases jD e4
 obtain⟨a,rfl,ha⟩:=zZ e2;obtain⟨b,rfl,hb⟩:=zZ e3;exact⟨t,a,b,rfl,ht,ha,hb⟩
theorem jaF{way:Str}{e:Int}{bd:Bd}(h:Held H (Cl.each x d y e r way bd c).toD v):∃t a b vb,v=.ref t/\H t=some (.tup [.str "each",.ref a,.ref b,.str r,.str way,.ref vb,.int c])/\H a=some (.tup [.str x,.int d])/\H b=some (.tup [.str y,.int e])/\H vb=some (.tup (match bd with | .is z=>[.str "is",.str z] | .row z=>[.str "row",.str z])):=by
 obtain⟨t,xs,rfl,ht,h1⟩:=jE h;obtain⟨v1,r1,rfl,e1,h2⟩:=ji h1;obtain⟨v2,r2,rfl,e2,h3⟩:=ji h2;obtain⟨v3,r3,rfl,e3,h4⟩:=ji h3;obtain⟨v4,r4,rfl,e4,h5⟩:=ji h4;obtain⟨v5,r5,rfl,e5,h6⟩:=ji h5;obtain⟨v6,r6,rfl,e6,h7⟩:=ji h6;obtain⟨v7,r7,rfl,e7,h8⟩:=ji h7
 cases jK h8
 cases jD e1
 cases jD e4
 cases jD e5
 cases qe e7
 obtain⟨a,rfl,ha⟩:=zZ e2;obtain⟨b,rfl,hb⟩:=zZ e3
 cases bd with
 | is z=>
  obtain⟨vb,rfl,iw⟩:=qK e6;exact⟨t,a,b,vb,rfl,ht,ha,hb,iw⟩
 | row z=>
  obtain⟨vb,rfl,iw⟩:=qK e6;exact⟨t,a,b,vb,rfl,ht,ha,hb,iw⟩
abbrev jet(H:Hp)(Q:VK)(xs:List Str):Prop:=∀l H',Same H H'->H l=none->H' l=some (.lst (xs.map V.str))->Q (.ref l) H'
def Zc:Sp:=fun vs H Q _=>∃(v:V) (t:Tm),vs=[v]/\Held H t.toD v/\jet H Q t.ns
def jaa:Sp:=fun vs H Q _=>∃(v:V) (C:Cl),vs=[v]/\Held H C.toD v/\jet H Q C.ns
def JJ:Sp:=fun vs H Q _=>∃(a:aa) (dR:List V) (Cs:List Cl),vs=[.ref a]/\H a=some (.tup dR)/\HeldL H (Cs.map Cl.toD) dR/\Cs.length<=100/\jet H Q (Cs.flatMap Cl.ns)
theorem Zd(h:n<=10000):n < aP:=MZ h (by decide)
theorem jf5(h:n<=10000):n<=aP:=cu (Zd h)
inductive Fo(α:Type) where
 | leaf (S:Sm) | ite (a b:Tm) (c:Int) (x y:List α) | whl (a b:Tm) (c:Int) (ks:List Cl) (x:List α)
def StN:Nat->Type
 | 0=>Empty
 | n+1=>Fo (StN n)
inductive Nd where
 | leaf (S:Sm) | ite (a b:Tm) (c:Int) (x y:List D) | whl (a b:Tm) (c:Int) (ks:List Cl) (x:List D)
def Nd.toD:Nd->D
 | .leaf S=>S.toD
 | .ite a b c x y=>.tup [.str "if",(Cl.least a b c).toD,.tup x,.tup y]
 | .whl a b c ks x=>.tup [.str "while",(Cl.least a b c).toD,.tup (ks.map Cl.toD),.tup x]
def Nd.ns:Nd->List Str
 | .leaf S=>S.ns
 | .ite a b c _ _=>(Cl.least a b c).ns
 | .whl a b c ks _=>(Cl.least a b c :: ks).flatMap Cl.ns
def Nd.bods:Nd->List (List D)
 | .leaf _=>[]
 | .ite _ _ _ x y=>[x,y]
 | .whl _ _ _ _ x=>[x]
def Nd.few:Nd->Prop
 | .leaf S=>S.few
 | .whl _ _ _ ks _=>ks.length<=20
 | _=>True
def Fo.nd{α:Type}(f:α->D):Fo α->Nd
 | .leaf S=>.leaf S
 | .ite a b c x y=>.ite a b c (x.map f) (y.map f)
 | .whl a b c ks x=>.whl a b c ks (x.map f)
def Fo.bods{α:Type}:Fo α->List (List α)
 | .leaf _=>[]
 | .ite _ _ _ x y=>[x,y]
 | .whl _ _ _ _ x=>[x]
theorem Fo.nd_bods{α:Type}(f:α->D):∀s:Fo α,(s.nd f).bods=s.bods.map fun x=>x.map f
 | .leaf _=>rfl
 | .ite _ _ _ _ _=>rfl
 | .whl _ _ _ _ _=>rfl
def stD:(n:Nat)->StN n->D
 | 0=>fun e=>nomatch (show Empty from e)
 | n+1=>fun s=>(Fo.nd (stD n) s).toD
def Zb{n:Nat}(s:StN (n+1)):Nd:=Fo.nd (stD n) s
def qa{n:Nat}(s:StN (n+1)):List (List (StN n)):=Fo.bods s
theorem jcz(s:StN (n+1)):(Zb s).bods=(qa s).map fun x=>x.map (stD n):=Fo.nd_bods (stD n) s
def kr:(n:Nat)->List (StN n)->List Nd
 | 0=>fun _=>[]
 | n+1=>fun l=>l.flatMap fun (s:StN (n+1))=>Zb s :: (qa s).flatMap (kr n)
theorem Z8{l:List (StN 0)}:l=[]:=by
 cases l with
 | nil=>rfl
 | cons e _=>exact nomatch (show Empty from e)
theorem qX(s:StN (n+1))(l:List (StN (n+1))):kr (n+1) (s :: l)=(Zb s :: (qa s).flatMap (kr n))++kr (n+1) l:=rfl
theorem jaR{n:Nat}:∀(l r:List (StN (n+1))),kr (n+1) (l++r)=kr (n+1) l++kr (n+1) r
 | [],r=>rfl
 | s :: l,r=>by rw[rb,qX,qX,jaR l r,dH]
theorem Y4{l:List (StN (n+1))}{i:Nat}(hi:i < l.length):kr (n+1) (l.take (i+1))=kr (n+1) (l.take i)++(Zb l[i] :: (qa l[i]).flatMap (kr n)):=by
 rw[show l.take (i+1)=l.take i++[l[i]] by rw[bP,aI hi];rfl,jaR,qX];exact WW _ (cv _)
theorem zj{α β:Type}(f:α->List β):∀(l:List α) (i:Nat),((l.take i).flatMap f).length<=(l.flatMap f).length
 | [],i=>by simp
 | a :: l,0=>by simp
 | a :: l,i+1=>by
  rw[List.take_succ_cons,dX,dX,aG,aG];have:=zj f l i;omega
theorem jaQ{n:Nat}:∀l:List (StN (n+1)),l.length<=(kr (n+1) l).length
 | []=>cy _
 | s :: l=>by
  have h:=jaQ l;rw[qX,aG,bR,bR];omega
theorem yd{x y:List D}(h:Held H (Nd.ite a b c x y).toD v):∃t u p q xs ys,v=.ref t/\H t=some (.tup [.str "if",u,.ref p,.ref q])/\Held H (Cl.least a b c).toD u/\H p=some (.tup xs)/\HeldL H x xs/\H q=some (.tup ys)/\HeldL H y ys:=by
 obtain⟨t,us,rfl,ht,h1⟩:=jE h;obtain⟨v1,r1,rfl,e1,h2⟩:=ji h1;obtain⟨v2,r2,rfl,e2,h3⟩:=ji h2;obtain⟨v3,r3,rfl,e3,h4⟩:=ji h3;obtain⟨v4,r4,rfl,e4,h5⟩:=ji h4
 cases jK h5
 cases jD e1
 obtain⟨p,xs,rfl,hp,hx⟩:=jE e3;obtain⟨q,ys,rfl,hq,hy⟩:=jE e4;exact⟨t,v2,p,q,xs,ys,rfl,ht,e2,hp,hx,hq,hy⟩
theorem zV{ks:List Cl}{x:List D}(h:Held H (Nd.whl a b c ks x).toD v):∃t u p q xs ys,v=.ref t/\H t=some (.tup [.str "while",u,.ref p,.ref q])/\Held H (Cl.least a b c).toD u/\H p=some (.tup xs)/\HeldL H (ks.map Cl.toD) xs/\H q=some (.tup ys)/\HeldL H x ys:=by
 obtain⟨t,us,rfl,ht,h1⟩:=jE h;obtain⟨v1,r1,rfl,e1,h2⟩:=ji h1;obtain⟨v2,r2,rfl,e2,h3⟩:=ji h2;obtain⟨v3,r3,rfl,e3,h4⟩:=ji h3;obtain⟨v4,r4,rfl,e4,h5⟩:=ji h4
 cases jK h5
 cases jD e1
 obtain⟨p,xs,rfl,hp,hx⟩:=jE e3;obtain⟨q,ys,rfl,hq,hy⟩:=jE e4;exact⟨t,v2,p,q,xs,ys,rfl,ht,e2,hp,hx,hq,hy⟩
def Nd.cls:Nd->List Cl
 | .leaf (.claim C)=>[C]
 | .leaf _=>[]
 | .ite a b c _ _=>[.least a b c]
 | .whl a b c ks _=>.least a b c :: ks
inductive spNamedN(vs:List V)(H:Hp)(Q:VK)(E:XK):Prop
 | mk (v:V) (N:Nd) (_:vs=[v]) (_:Held H N.toD v) (_:N.few) (_:jet H Q N.ns)
end LW
namespace L2
open PySem
variable {t1 t2 u:TS}{H:Hp}
theorem J5{D:Ends}{σ:St}(h:let r2:=u;let r1:=jH t2 r2;jH t1 r1 D σ H):(jH t1 (jH t2 u)) D σ H:=h
variable {t3:TS}
theorem jeG{D:Ends}{σ:St}(h:let r3:=u;let r2:=jH t3 r3;let r1:=jH t2 r2;jH t1 r1 D σ H):(jH t1 (jH t2 (jH t3 u))) D σ H:=h
variable {t4:TS}
theorem jay{D:Ends}{σ:St}(h:let r4:=u;let r3:=jH t4 r4;let r2:=jH t3 r3;let r1:=jH t2 r2;jH t1 r1 D σ H):(jH t1 (jH t2 (jH t3 (jH t4 u)))) D σ H:=h
variable {t5:TS}
theorem jb5{D:Ends}{σ:St}(h:let r5:=u;let r4:=jH t5 r5;let r3:=jH t4 r4;let r2:=jH t3 r3;let r1:=jH t2 r2;jH t1 r1 D σ H):(jH t1 (jH t2 (jH t3 (jH t4 (jH t5 u))))) D σ H:=h
variable {t6:TS}
theorem jfT{D:Ends}{σ:St}(h:let r6:=u;let r5:=jH t6 r6;let r4:=jH t5 r5;let r3:=jH t4 r4;let r2:=jH t3 r3;let r1:=jH t2 r2;jH t1 r1 D σ H):(jH t1 (jH t2 (jH t3 (jH t4 (jH t5 (jH t6 u)))))) D σ H:=h
variable {t7:TS}
theorem jeF{D:Ends}{σ:St}(h:let r7:=u;let r6:=jH t7 r7;let r5:=jH t6 r6;let r4:=jH t5 r5;let r3:=jH t4 r4;let r2:=jH t3 r3;let r1:=jH t2 r2;jH t1 r1 D σ H):(jH t1 (jH t2 (jH t3 (jH t4 (jH t5 (jH t6 (jH t7 u))))))) D σ H:=h
variable {t8:TS}
theorem jho{D:Ends}{σ:St}(h:let r8:=u;let r7:=jH t8 r8;let r6:=jH t7 r7;let r5:=jH t6 r6;let r4:=jH t5 r5;let r3:=jH t4 r4;let r2:=jH t3 r3;let r1:=jH t2 r2;jH t1 r1 D σ H):(jH t1 (jH t2 (jH t3 (jH t4 (jH t5 (jH t6 (jH t7 (jH t8 u)))))))) D σ H:=h
theorem jfS{t9:TS}{D:Ends}{σ:St}(h:let r9:=u;let r8:=jH t9 r9;let r7:=jH t8 r8;let r6:=jH t7 r7;let r5:=jH t6 r6;let r4:=jH t5 r5;let r3:=jH t4 r4;let r2:=jH t3 r3;let r1:=jH t2 r2;jH t1 r1 D σ H):(jH t1 (jH t2 (jH t3 (jH t4 (jH t5 (jH t6 (jH t7 (jH t8 (jH t9 u))))))))) D σ H:=h
theorem jgy{t9 eY f_ Fx Fw eE Fv Fu Ft Fs Fq Fp:TS}{D:Ends}{σ:St}(h:let NP:=u;let NQ:=jH Fp NP;let NR:=jH Fq NQ;let NS:=jH Fs NR;let NT:=jH Ft NS;let NU:=jH Fu NT;let NV:=jH Fv NU;let NW:=jH eE NV;let Bo:=jH Fw NW;let uc:=jH Fx Bo;let NX:=jH f_ uc;let r9:=jH eY NX;let r8:=jH t9 r9;let r7:=jH t8 r8;let r6:=jH t7 r7;let r5:=jH t6 r6;let r4:=jH t5 r5;let r3:=jH t4 r4;let r2:=jH t3 r3;let r1:=jH t2 r2;jH t1 r1 D σ H):(jH t1 (jH t2 (jH t3 (jH t4 (jH t5 (jH t6 (jH t7 (jH t8 (jH t9 (jH eY (jH f_ (jH Fx (jH Fw (jH eE (jH Fv (jH Fu (jH Ft (jH Fs (jH Fq (jH Fp u)))))))))))))))))))) D σ H:=h
theorem yB{g:TG}{x:V}{σ:St}{b:TS}{D:Ends}(h:let E:=D;g x σ H fun σ2 H2=>b E σ2 H2):g x σ H (fun σ2 H2=>b D σ2 H2):=h
end L2
namespace LW
open PySem L2
def top(i:Nat):aJ:=PySem.Challenge.pw_outlineward_k62_duties_of_ifs_and_loops.main.body.getD i (.Pass ⟨0,0,0,0⟩)
abbrev zM:aJ:=top 12
abbrev zx:aJ:=top 11
abbrev ze:aJ:=top 10
variable {P:aF}{w:aE}{K:aC}{mg:Str->Option ac}{base:aB}{f:aa}{fd:aO}
section
theorem jea(F:Fun K "term_numbers" "term_numbers" zM f fd):FnOk P w K mg base CX0 1 f fd ["term"] Zc:=by
 have sc:FnScope ["term"] ["term"] (jp zM):=fQ;refine F.okZ sc (fun aH A outer s H vs Q E hr h=>?_);obtain⟨v,t,rfl,ht,q⟩:=h;refine⟨_,(jg (jJ (jx j4 (jk jq (zpv 0) jf (fun _ _=>rfl)) jm (jB _)) (jh (jv (jF (ja (jk jq (zpv 0) jf (fun _ _=>rfl)) jc)))) jC)
   (jh (jv (jF (ja (jk jq (jk jq (zpv 0) jf (fun _ _=>rfl)) jf (fun _ _=>rfl)) jc))))),?_⟩
 try dsimp only[j7]
 cases t with
 | is x=>
  obtain⟨a,rfl,ha⟩:=qK ht;refine⟨_,rfl,a,_,_,_,rfl,rfl,SqT.of ha,rfl,rfl,_,rfl,jQ (fun _=>?_) (fun d=>absurd (WQ rfl) d)⟩;exact⟨_,rfl,a,_,_,_,rfl,rfl,SqT.of ha,rfl,sm rfl,fun l hl=>q l _ (je hl _) hl jd⟩
 | at_ r x d=>
  obtain⟨a,b,rfl,ha,hb⟩:=jbA ht;refine⟨_,rfl,a,_,_,_,rfl,rfl,SqT.of ha,rfl,rfl,_,rfl,jQ (fun d=>absurd (WP d) (by decide)) (fun _=>?_)⟩;exact⟨_,rfl,a,_,_,_,rfl,rfl,SqT.of ha,rfl,b,_,_,_,rfl,rfl,SqT.of hb,rfl,sm rfl,fun l hl=>q l _ (je hl _) hl jd⟩
theorem jcM(F:Fun K "claim_numbers" "claim_numbers" zx f fd)(og:Fn P w K mg base 1 "term_numbers" ["term"] Zc):FnOk P w K mg base CX0 2 f fd ["claim"] jaa:=by
 have sc:FnScope ["claim","ends"] ["claim"] (jp zx):=fQ;refine F.okZ sc (fun aH A outer s H vs Q E hr h=>?_);obtain⟨v,C,rfl,hC,q⟩:=h;refine⟨_,(jg (jJ (jx j4 (jk jq (zpv 0) jf (fun _ _=>rfl)) jm (jB _)) (jh (jv (jn kd (jA og hr (ja (jk jq (zpv 0) jf (fun _ _=>rfl)) jc)) (jA og hr (ja (jk jq (zpv 0) jf (fun _ _=>rfl)) jc))))) jC)
   (jg (ju (i:=1) sc.nd rfl oQ (jF (ja (jk jq (jk jq (zpv 0) jf (fun _ _=>rfl)) jf (fun _ _=>rfl)) (ja (jk jq (jk jq (zpv 0) jf (fun _ _=>rfl)) jf (fun _ _=>rfl)) jc))))
   (jg (yj (jJ (zU (jx j4 (jk jq (zpv 0) jf (fun _ _=>rfl)) jm (jB _)) (zt (jx j4 (jk jq (jk jq (zpv 0) jf (fun _ _=>rfl)) jf (fun _ _=>rfl)) jm (jB _)))).pt (jh (jv (jn kd (zpv 1) (jF (ja (jk jq (jk jq (zpv 0) jf (fun _ _=>rfl)) jf (fun _ _=>rfl)) jc))))) jC))
   (jh (jv (zpv 1)))))),?_⟩
 refine jP (σ':=[some v,none]) rfl ?_
 try dsimp only[j7]
 refine jeG ?_;intro _ _ _;have tR:∀t:Tm,t.ns.length=1:=fun t=>by cases t <;> rfl
 cases C with
 | least a b c=>
  obtain⟨t,va,vb,rfl,ht,ha,hb⟩:=zR hC;refine⟨_,rfl,t,_,_,_,rfl,rfl,SqT.of ht,rfl,rfl,_,rfl,jQ (fun _=>?_) (fun d=>absurd (WQ rfl) d)⟩;refine⟨_,rfl,t,_,_,_,rfl,rfl,SqT.of ht,rfl,va,a,rfl,ha,fun l1 H1 s1 n1 e1=>?_⟩;refine⟨_,rfl,t,_,_,_,rfl,rfl,SqT.of (s1 _ _ ht),rfl,vb,b,rfl,hb.mono s1,fun l2 H2 s2 n2 e2=>?_⟩;refine⟨l1,l2,_,_,rfl,rfl,s2 _ _ e1,e2,aV (by rw[ax,ax,tR,tR];exact (by decide:1+1<=1000)) (jY (aL 1000)),fun l3 bT=>?_⟩;refine q l3 _ (s1.trans (s2.trans (je bT _))) (s1.free (s2.free bT)) ?_;rw[jd,<- aW];rfl
 | rise x d y e r=>
  obtain⟨t,a,b,rfl,ht,ha,hb⟩:=KK hC;refine⟨_,rfl,t,_,_,_,rfl,rfl,SqT.of ht,rfl,rfl,_,rfl,jQ (fun d=>absurd (WP d) (by decide)) (fun _=>?_)⟩;refine⟨_,rfl,t,_,_,_,rfl,rfl,SqT.of ht,rfl,a,_,_,_,rfl,rfl,SqT.of ha,rfl,_,rfl,t,_,_,_,rfl,rfl,SqT.of ht,rfl,b,_,_,_,rfl,rfl,SqT.of hb,rfl,sm rfl,fun l hl=>?_⟩;have s1:=je hl (.lst [V.str x,V.str y]);have e1:upd H l (.lst [V.str x,V.str y]) l=some (.lst [V.str x,V.str y]):=jd;generalize upd H l (.lst [V.str x,V.str y])=H1 at *;refine gQ ?_;refine⟨fun σ' G=>σ'=[some (.ref t),some (.ref l)]/\G=H1,?_,?_⟩
  .exact⟨_,rfl,t,_,_,_,rfl,rfl,SqT.of (s1 _ _ ht),rfl,rfl,_,rfl,jQ (fun d=>absurd (WP d) (by decide)) (fun _=>qU ⟨rfl,rfl⟩)⟩
  .rintro σ' G ⟨rfl,rfl⟩
   exact⟨_,rfl,q l _ s1 hl e1⟩
 | each x d y e r way bd c=>
  obtain⟨t,a,b,vb,rfl,ht,ha,hb,iw⟩:=jaF hC;refine⟨_,rfl,t,_,_,_,rfl,rfl,SqT.of ht,rfl,rfl,_,rfl,jQ (fun d=>absurd (WP d) (by decide)) (fun _=>?_)⟩;refine⟨_,rfl,t,_,_,_,rfl,rfl,SqT.of ht,rfl,a,_,_,_,rfl,rfl,SqT.of ha,rfl,_,rfl,t,_,_,_,rfl,rfl,SqT.of ht,rfl,b,_,_,_,rfl,rfl,SqT.of hb,rfl,sm rfl,fun l hl=>?_⟩;have s1:=je hl (.lst [V.str x,V.str y]);have e1:upd H l (.lst [V.str x,V.str y]) l=some (.lst [V.str x,V.str y]):=jd;generalize upd H l (.lst [V.str x,V.str y])=H1 at *;refine gQ ?_;refine⟨fun σ' G=>σ'=[some (.ref t),some (.ref l)]/\G=H1/\∃z,bd=.row z,?_,?_⟩
  .refine⟨_,rfl,t,_,_,_,rfl,rfl,SqT.of (s1 _ _ ht),rfl,rfl,_,rfl,jQ (fun _=>?_) (fun d=>absurd (WQ rfl) d)⟩
   cases bd with
   | row z=>exact⟨_,rfl,t,_,_,_,rfl,rfl,SqT.of (s1 _ _ ht),rfl,vb,_,_,_,rfl,rfl,SqT.of (s1 _ _ iw),rfl,rfl,_,rfl,jQ (fun d=>absurd (WP d) (by decide)) (fun _=>⟨rfl,rfl,z,rfl⟩)⟩
   | is z=>
    refine⟨_,rfl,t,_,_,_,rfl,rfl,SqT.of (s1 _ _ ht),rfl,vb,_,_,_,rfl,rfl,SqT.of (s1 _ _ iw),rfl,rfl,_,rfl,jQ (fun _=>?_) (fun d=>absurd (WQ rfl) d)⟩;refine⟨_,rfl,_,rfl,t,_,_,_,rfl,rfl,SqT.of (s1 _ _ ht),rfl,vb,_,_,_,rfl,rfl,SqT.of (s1 _ _ iw),rfl,sm rfl,fun l2 a_=>?_⟩;have s2:=je a_ (.lst [V.str z]);refine⟨l,l2,_,_,rfl,rfl,s2 _ _ e1,jd,aV (cf rfl) (jY (aL 1000)),fun l3 bT=>?_⟩;exact q l3 _ (s1.trans (s2.trans (je bT _))) (s1.free (s2.free bT)) jd
  .rintro σ' G ⟨rfl,rfl,z,rfl⟩
   exact⟨_,rfl,q l _ s1 hl e1⟩
theorem jbg(F:Fun K "claims_numbers" "claims_numbers" ze f fd)(Eb:Fn P w K mg base 2 "claim_numbers" ["claim"] jaa):FnOk P w K mg base CX0 3 f fd ["claims"] JJ:=by
 have sc:FnScope ["claims","told","claim"] ["claims"] (jp ze):=fQ;refine F.okZ sc (fun aH A outer s H vs Q E hr h=>?_);obtain⟨a,us,Cs,rfl,ha,fT,hlen,q⟩:=h;refine⟨_,(jg (ju (i:=1) sc.nd rfl oQ (jF jc))
   (jg (kg dF rfl (kT (zpv 0)) (jt (i:=2) sc.nd rfl oQ) (jh (jW (qu eD AI AH zQ (zpv 1) (ja (jA Eb hr (ja (zpv 2) jc)) jc)))))
   (jh (jv (zpv 1))))),?_⟩
 refine jP (σ':=[some (.ref a),none,none]) rfl ?_
 try dsimp only[j7]
 refine J5 ?_;intro _ _;refine⟨sm rfl,fun l hl=>?_⟩;have s1:=je hl (.lst []);have e1:upd H l (.lst []) l=some (.lst []):=jd;generalize upd H l (.lst [])=H1 at *;refine gQ ?_;have dw:=fT.length;rw[ax]at dw;refine⟨_,rfl,a,rfl,⟨_,SqT.of (s1 _ _ ha)⟩,?_⟩;refine yM (xs:=us) (fun i σ G=>∃u2,σ=[some (.ref a),some (.ref l),u2]/\Same H G/\G l=some (.lst (((Cs.take i).flatMap Cl.ns).map V.str))) ⟨none,rfl,s1,e1⟩ ?_ ?_ ?_
 .rintro i σ G _ ⟨u2,rfl,sG,_⟩
  exact SqT.of (sG _ _ ha)
 .rintro i x σ G hx ⟨u2,rfl,sG,hG⟩
  have hi:i < Cs.length:=by have:=(bN.mp hx).1;omega
  obtain⟨x',bq,cw⟩:=fT.get (show (Cs.map Cl.toD)[i]?=some Cs[i].toD by rw[bF,aI hi];rfl);rw[hx]at bq
  cases bq
  have gS:((Cs.take i).flatMap Cl.ns).length<=3 * i:=by
   have:∀l:List Cl,(l.flatMap Cl.ns).length<=3 * l.length:=fun l=>by
    induction l with
    | nil=>exact cy _
    | cons c r ih=>rw[dX,aG,bR];have:=c.ns_len;omega
   have h1:=this (Cs.take i);rw[bK]at h1;omega
  refine yB ?_;intro _;refine gQ ?_;refine⟨_,rfl,.inl ⟨rfl,_,SqL.of hG⟩,_,rfl,x,Cs[i],rfl,cw.mono sG,fun l2 G2 s2 n2 e2=>?_⟩;have aY:=s2 _ _ hG;have hn3:=Cs[i].ns_len;refine⟨l,l2,_,_,rfl,rfl,aY,e2,aV (by rw[ax,ax];omega) (jY (aL 1000)),?_⟩;refine⟨_,rfl,fun b o e=>?_,?_⟩
  .rw[jw (jr e hl)];exact s2 _ _ (sG _ _ e)
  .rw[jd,bP,aI hi,oC,aW]
   simp
 rintro σ G ⟨u2,rfl,sG,hG⟩;have et:Cs.take us.length=Cs:=by rw[<- dw,bX]
 rw[et]at hG;exact⟨_,rfl,q l G sG hl hG⟩
end
abbrev yr:aJ:=top 8
abbrev zw:aJ:=top 9
abbrev Jb:aJ:=top 7
abbrev kJ:aJ:=top 6
def Nd.asks:Nd->Prop
 | .leaf (.claim _)=>True
 | .leaf _=>False
 | _=>True
inductive spOwn(vs:List V)(H:Hp)(Q:VK)(E:XK):Prop
 | mk (v:V) (N:Nd) (_:vs=[v]) (_:Held H N.toD v) (_:N.asks) (_:N.few) (_:∀t us H',Same H H'->H' t=some (.tup us)->HeldL H' (N.cls.map Cl.toD) us->Q (.ref t) H')
inductive spBodies(vs:List V)(H:Hp)(Q:VK)(E:XK):Prop
 | mk (v:V) (N:Nd) (_:vs=[v]) (_:Held H N.toD v) (_:∀t us H',Same H H'->H' t=some (.tup us)->HeldL H' (N.bods.map D.tup) us->Q (.ref t) H')
inductive spAll(n:Nat)(vs:List V)(H:Hp)(Q:VK)(E:XK):Prop
 | mk (a:aa) (us:List V) (Ss:List (StN n)) (_:vs=[.ref a]) (_:H a=some (.tup us)) (_:HeldL H (Ss.map (stD n)) us) (_:(kr n Ss).length<=100) (_:∀l cG H',Same H H'->H l=none->H' l=some (.lst cG)->HeldL H' ((kr n Ss).map Nd.toD) cG->Q (.ref l) H')
variable {H:Hp}{x:Str}{v:V}
theorem jbN{t:Tm}{c:Int}(h:Held H (Sm.set x t c).toD v):∃a u,v=.ref a/\H a=some (.tup [.str "set",.str x,u,.int c])/\Held H t.toD u:=by
 obtain⟨a,xs,rfl,ha,h1⟩:=jE h;obtain⟨v1,r1,rfl,e1,h2⟩:=ji h1;obtain⟨v2,r2,rfl,e2,h3⟩:=ji h2;obtain⟨v3,r3,rfl,e3,h4⟩:=ji h3;obtain⟨v4,r4,rfl,e4,h5⟩:=ji h4
 cases jK h5
 cases jD e1
 cases jD e2
 cases qe e4
 exact⟨a,v3,rfl,ha,e3⟩
theorem jbP{r:Str}{d:Int}{t:Tm}{c:Int}(h:Held H (Sm.put r x d t c).toD v):∃a b u,v=.ref a/\H a=some (.tup [.str "put",.str r,.ref b,u,.int c])/\H b=some (.tup [.str x,.int d])/\Held H t.toD u:=by
 obtain⟨a,xs,rfl,ha,h1⟩:=jE h;obtain⟨v1,r1,rfl,e1,h2⟩:=ji h1;obtain⟨v2,r2,rfl,e2,h3⟩:=ji h2;obtain⟨v3,r3,rfl,e3,h4⟩:=ji h3;obtain⟨v4,r4,rfl,e4,h5⟩:=ji h4;obtain⟨v5,r5,rfl,e5,h6⟩:=ji h5
 cases jK h6
 cases jD e1
 cases jD e2
 cases qe e5
 obtain⟨b,rfl,hb⟩:=zZ e3;exact⟨a,b,v4,rfl,ha,hb,e4⟩
theorem zT{C:Cl}(h:Held H (Sm.claim C).toD v):∃a u,v=.ref a/\H a=some (.tup [.str "claim",u])/\Held H C.toD u:=by
 obtain⟨a,xs,rfl,ha,h1⟩:=jE h;obtain⟨v1,r1,rfl,e1,h2⟩:=ji h1;obtain⟨v2,r2,rfl,e2,h3⟩:=ji h2
 cases jK h3
 cases jD e1
 exact⟨a,v2,rfl,ha,e2⟩
theorem qr{H:Hp}:∀{xs:List Str} {vs:List V},HeldL H (xs.map D.str) vs->vs=xs.map V.str
 | [],_,h=>jK h
 | _ :: _,_,h=>by
  obtain⟨v,r,rfl,h1,h2⟩:=ji h
  cases jD h1
  rw[qr h2];rfl
theorem JC{f:Str}{as rs:List Str}(h:Held H (Sm.call x f as rs).toD v):∃a b c,v=.ref a/\H a=some (.tup [.str "call",.str x,.str f,.ref b,.ref c])/\H b=some (.tup (as.map V.str))/\H c=some (.tup (rs.map V.str)):=by
 obtain⟨a,xs,rfl,ha,h1⟩:=jE h;obtain⟨v1,r1,rfl,e1,h2⟩:=ji h1;obtain⟨v2,r2,rfl,e2,h3⟩:=ji h2;obtain⟨v3,r3,rfl,e3,h4⟩:=ji h3;obtain⟨v4,r4,rfl,e4,h5⟩:=ji h4;obtain⟨v5,r5,rfl,e5,h6⟩:=ji h5
 cases jK h6
 cases jD e1
 cases jD e2
 cases jD e3
 obtain⟨b,xb,rfl,hb,bQ⟩:=jE e4;obtain⟨c,xc,rfl,hc,aU⟩:=jE e5
 cases qr bQ
 cases qr aU
 exact⟨a,b,c,rfl,ha,hb,hc⟩
theorem Sm.head{S:Sm}(h:Held H S.toD v):∃a k r,v=.ref a/\H a=some (.tup (.str k :: r))/\k≠"if"/\k≠"while"/\(k = "call"↔∃x f as rs,S=.call x f as rs)/\(k = "claim"↔∃C,S=.claim C):=by
 cases S with
 | set x t c=>obtain⟨a,u,rfl,ha,_⟩:=jbN h;exact⟨a,_,_,rfl,ha,by decide,by decide,⟨fun z=>absurd z (by decide),fun⟨_,_,_,_,z⟩=>by cases z⟩,⟨fun z=>absurd z (by decide),fun⟨_,z⟩=>by cases z⟩⟩
 | put r x d t c=>obtain⟨a,b,u,rfl,ha,_⟩:=jbP h;exact⟨a,_,_,rfl,ha,by decide,by decide,⟨fun z=>absurd z (by decide),fun⟨_,_,_,_,z⟩=>by cases z⟩,⟨fun z=>absurd z (by decide),fun⟨_,z⟩=>by cases z⟩⟩
 | any x=>obtain⟨a,rfl,ha⟩:=qK h;exact⟨a,_,_,rfl,ha,by decide,by decide,⟨fun z=>absurd z (by decide),fun⟨_,_,_,_,z⟩=>by cases z⟩,⟨fun z=>absurd z (by decide),fun⟨_,z⟩=>by cases z⟩⟩
 | claim C=>obtain⟨a,u,rfl,ha,_⟩:=zT h;exact⟨a,_,_,rfl,ha,by decide,by decide,⟨fun z=>absurd z (by decide),fun⟨_,_,_,_,z⟩=>by cases z⟩,⟨fun _=>⟨C,rfl⟩,fun _=>rfl⟩⟩
 | call x f as rs=>obtain⟨a,b,c,rfl,ha,_⟩:=JC h;exact⟨a,_,_,rfl,ha,by decide,by decide,⟨fun _=>⟨x,f,as,rs,rfl⟩,fun _=>rfl⟩,⟨fun z=>absurd z (by decide),fun⟨_,z⟩=>by cases z⟩⟩
section
theorem jgi(F:Fun K "own_claims" "own_claims" yr f fd):FnOk P w K mg base CX0 1 f fd ["statement"] spOwn:=by
 have sc:FnScope ["statement"] ["statement"] (jp yr):=fQ;refine F.okZ sc (fun aH A outer s H vs Q E hr h=>?_);obtain⟨v,N,rfl,hN,RF,lG,q⟩:=h;refine⟨_,(jg (jJ (jx j4 (jk jq (zpv 0) jf (fun _ _=>rfl)) jm (jB _)) (jh (jv (jn qg (j5 qL (zpv 0) (j0 jf) (j0 jf)) (jk jq (zpv 0) jf (fun _ _=>rfl))))) jC)
   (jh (jv (j5 qL (zpv 0) (j0 jf) (j0 jf))))),?_⟩
 try dsimp only[j7]
 cases N with
 | leaf S=>
  cases S with
  | claim C=>
   obtain⟨a,u,rfl,ha,hu⟩:=zT hN;refine⟨_,rfl,a,_,_,_,rfl,rfl,SqT.of ha,rfl,rfl,_,rfl,jQ (fun d=>absurd (WP d) (by decide)) (fun _=>?_)⟩;refine⟨_,rfl,_,rfl,_,rfl,a,_,rfl,SqT.of ha,(fun h=>absurd h.1 (by show ¬(HT.sIx 2 0 (some 1)=0);decide)),fun t ht=>?_⟩;exact q t [u] _ (je ht _) jd (jb (hu.mono (je ht _)) jj)
  | _=>exact RF.elim
 | ite a b c x y=>
  obtain⟨t,u,p,r,xs,ys,rfl,ht,hu,hp,hx,bL,hy⟩:=yd hN;refine⟨_,rfl,t,_,_,_,rfl,rfl,SqT.of ht,rfl,rfl,_,rfl,jQ (fun d=>absurd (WP d) (by decide)) (fun _=>?_)⟩;refine⟨_,rfl,_,rfl,_,rfl,t,_,rfl,SqT.of ht,(fun h=>absurd h.1 (by show ¬(HT.sIx 4 0 (some 1)=0);decide)),fun t' cU=>?_⟩;exact q t' [u] _ (je cU _) jd (jb (hu.mono (je cU _)) jj)
 | whl a b c ks x=>
  obtain⟨t,u,p,r,xs,ys,rfl,ht,hu,hp,hx,bL,hy⟩:=zV hN;have hl:=hx.length;rw[ax]at hl;have CQ:ks.length<=20:=lG;refine⟨_,rfl,t,_,_,_,rfl,rfl,SqT.of ht,rfl,rfl,_,rfl,jQ (fun _=>?_) (fun d=>absurd (WQ rfl) d)⟩;refine⟨_,rfl,_,rfl,_,rfl,t,_,rfl,SqT.of ht,(fun h=>absurd h.1 (by show ¬(HT.sIx 4 0 (some 1)=0);decide)),fun t' cU=>?_⟩;have s1:=je cU (.tup (kI [.str "while",u,.ref p,.ref r] (some 1) (some 2)));have e1:upd H t' (.tup (kI [.str "while",u,.ref p,.ref r] (some 1) (some 2))) t'=some (.tup [u]):=jd;generalize upd H t' (.tup (kI [.str "while",u,.ref p,.ref r] (some 1) (some 2)))=H1 at *;refine⟨_,rfl,t,_,_,_,rfl,rfl,SqT.of (s1 _ _ ht),rfl,t',p,_,_,rfl,rfl,e1,s1 _ _ hp,jY (by show 1+xs.length<=1000;omega),fun t2 H2 s2 dq=>?_⟩;have aQ:=s1.trans s2;exact q t2 _ H2 aQ dq (jb (hu.mono aQ) (hx.mono aQ))
theorem jei(F:Fun K "numbers_named" "numbers_named" zw f fd)(B:Free0 mg)(og:Fn P w K mg base 1 "term_numbers" ["term"] Zc)(sA:Fn P w K mg base 3 "claims_numbers" ["claims"] JJ)(D5:Fn P w K mg base 1 "own_claims" ["statement"] spOwn):FnOk P w K mg base CX0 4 f fd ["statement"] spNamedN:=by
 have sc:FnScope ["statement","kind"] ["statement"] (jp zw):=fQ;refine F.okZ sc (fun aH A outer s H vs Q E hr h=>?_);obtain⟨v,N,rfl,hN,hf,q⟩:=h;refine⟨_,(jg (ju (i:=1) sc.nd rfl oQ (jk jq (zpv 0) jf (fun _ _=>rfl)))
   (jg (jJ (jx j4 (zpv 1) jm (jB _)) (jh (jv (jn kd (jF (ja (jk jq (zpv 0) jf (fun _ _=>rfl)) jc)) (jA og hr (ja (jk jq (zpv 0) jf (fun _ _=>rfl)) jc))))) jC)
   (jg (jJ (jx j4 (zpv 1) jm (jB _)) (jh (jv (jn kd (jF (ja (jk jq (jk jq (zpv 0) jf (fun _ _=>rfl)) jf (fun _ _=>rfl)) jc)) (jA og hr (ja (jk jq (zpv 0) jf (fun _ _=>rfl)) jc))))) jC)
   (jg (jJ (jx j4 (zpv 1) jm (jB _)) (jh (jv (jF (ja (jk jq (zpv 0) jf (fun _ _=>rfl)) jc)))) jC)
   (jg (jJ (jx j4 (zpv 1) jm (jB _)) (jh (jv (jn kd (jF (ja (jk jq (zpv 0) jf (fun _ _=>rfl)) jc)) (qI zm (by rfl) B.list_ Ko (ja (jk jq (zpv 0) jf (fun _ _=>rfl)) jc))))) jC)
   (jh (jv (jA sA hr (ja (jA D5 hr (ja (zpv 0) jc)) jc))))))))),?_⟩
 refine jP (σ':=[some v,none]) rfl ?_
 try dsimp only[j7]
 refine jb5 ?_;intro _ _ _ _ _;have tR:∀t:Tm,t.ns.length=1:=fun t=>by cases t <;> rfl
 cases N with
 | leaf S=>
  have hS:Held H S.toD v:=hN
  cases S with
  | set x t c=>
   obtain⟨a,u,rfl,ha,hu⟩:=jbN hS;refine⟨_,rfl,a,_,_,_,rfl,rfl,SqT.of ha,rfl,?_⟩;refine gQ ?_;refine⟨_,rfl,rfl,_,rfl,jQ (fun _=>?_) (fun d=>absurd (WQ rfl) d)⟩;refine⟨_,rfl,a,_,_,_,rfl,rfl,SqT.of ha,rfl,sm rfl,fun l hl=>?_⟩;have s1:=je hl (.lst [V.str x]);have e1:upd H l (.lst [V.str x]) l=some (.lst [V.str x]):=jd;generalize upd H l (.lst [V.str x])=H1 at *;refine⟨_,rfl,a,_,_,_,rfl,rfl,SqT.of (s1 _ _ ha),rfl,u,t,rfl,hu.mono s1,fun l2 H2 s2 n2 e2=>?_⟩;refine⟨l,l2,_,_,rfl,rfl,s2 _ _ e1,e2,aV (by rw[ax,tR];exact (by decide:1+1<=1000)) (jY (aL 1000)),fun l3 bT=>?_⟩;exact q l3 _ (s1.trans (s2.trans (je bT _))) (s1.free (s2.free bT)) jd
  | put r x d t c=>
   obtain⟨a,b,u,rfl,ha,hb,hu⟩:=jbP hS;refine⟨_,rfl,a,_,_,_,rfl,rfl,SqT.of ha,rfl,?_⟩;refine gQ ?_;refine⟨_,rfl,rfl,_,rfl,jQ (fun d=>absurd (WP d) (by decide)) (fun _=>?_)⟩;refine⟨_,rfl,rfl,_,rfl,jQ (fun _=>?_) (fun d=>absurd (WQ rfl) d)⟩;refine⟨_,rfl,a,_,_,_,rfl,rfl,SqT.of ha,rfl,b,_,_,_,rfl,rfl,SqT.of hb,rfl,sm rfl,fun l hl=>?_⟩;have s1:=je hl (.lst [V.str x]);have e1:upd H l (.lst [V.str x]) l=some (.lst [V.str x]):=jd;generalize upd H l (.lst [V.str x])=H1 at *;refine⟨_,rfl,a,_,_,_,rfl,rfl,SqT.of (s1 _ _ ha),rfl,u,t,rfl,hu.mono s1,fun l2 H2 s2 n2 e2=>?_⟩;refine⟨l,l2,_,_,rfl,rfl,s2 _ _ e1,e2,aV (by rw[ax,tR];exact (by decide:1+1<=1000)) (jY (aL 1000)),fun l3 bT=>?_⟩;exact q l3 _ (s1.trans (s2.trans (je bT _))) (s1.free (s2.free bT)) jd
  | any x=>
   obtain⟨a,rfl,ha⟩:=qK hS;refine⟨_,rfl,a,_,_,_,rfl,rfl,SqT.of ha,rfl,?_⟩;refine gQ ?_;refine⟨_,rfl,rfl,_,rfl,jQ (fun d=>absurd (WP d) (by decide)) (fun _=>?_)⟩;refine⟨_,rfl,rfl,_,rfl,jQ (fun d=>absurd (WP d) (by decide)) (fun _=>?_)⟩;refine⟨_,rfl,rfl,_,rfl,jQ (fun _=>?_) (fun d=>absurd (WQ rfl) d)⟩;exact⟨_,rfl,a,_,_,_,rfl,rfl,SqT.of ha,rfl,sm rfl,fun l hl=>q l _ (je hl _) hl jd⟩
  | claim C=>
   obtain⟨a,u,rfl,ha,hu⟩:=zT hS;refine⟨_,rfl,a,_,_,_,rfl,rfl,SqT.of ha,rfl,?_⟩;refine gQ ?_;refine⟨_,rfl,rfl,_,rfl,jQ (fun d=>absurd (WP d) (by decide)) (fun _=>?_)⟩;refine⟨_,rfl,rfl,_,rfl,jQ (fun d=>absurd (WP d) (by decide)) (fun _=>?_)⟩;refine⟨_,rfl,rfl,_,rfl,jQ (fun d=>absurd (WP d) (by decide)) (fun _=>?_)⟩;refine⟨_,rfl,rfl,_,rfl,jQ (fun d=>absurd (WP d) (by decide)) (fun _=>?_)⟩;refine⟨_,rfl,_,.leaf (.claim C),rfl,hN,trivial,trivial,fun t us H1 s1 ht dm=>?_⟩;refine⟨t,us,[C],rfl,ht,dm,cf rfl,fun l H2 s2 n2 e2=>?_⟩;refine q l H2 (s1.trans s2) (s1.free n2) ?_;rw[e2];simp[Nd.ns,Sm.ns]
  | call x f as rs=>
   obtain⟨a,b,c,rfl,ha,hb,hc⟩:=JC hS;refine⟨_,rfl,a,_,_,_,rfl,rfl,SqT.of ha,rfl,?_⟩;refine gQ ?_;refine⟨_,rfl,rfl,_,rfl,jQ (fun d=>absurd (WP d) (by decide)) (fun _=>?_)⟩;refine⟨_,rfl,rfl,_,rfl,jQ (fun d=>absurd (WP d) (by decide)) (fun _=>?_)⟩;refine⟨_,rfl,rfl,_,rfl,jQ (fun d=>absurd (WP d) (by decide)) (fun _=>?_)⟩;refine⟨_,rfl,rfl,_,rfl,jQ (fun _=>?_) (fun d=>absurd (WQ rfl) d)⟩;refine⟨_,rfl,a,_,_,_,rfl,rfl,SqT.of ha,rfl,sm rfl,fun l hl=>?_⟩;have s1:=je hl (.lst [V.str x]);have e1:upd H l (.lst [V.str x]) l=some (.lst [V.str x]):=jd;generalize upd H l (.lst [V.str x])=H1 at *;refine⟨_,rfl,a,_,_,_,rfl,rfl,SqT.of (s1 _ _ ha),rfl,b,_,rfl,.inr (SqT.of (s1 _ _ hb)),fun l2 a_=>?_⟩;have s2:=je a_ (.lst (as.map V.str));have e2:upd H1 l2 (.lst (as.map V.str)) l2=some (.lst (as.map V.str)):=jd;generalize upd H1 l2 (.lst (as.map V.str))=H2 at *;have has:=hf.1;refine⟨l,l2,_,_,rfl,rfl,s2 _ _ e1,e2,aV (by rw[ax];exact aV (We has 1) (by decide:1+6<=1000)) (jY (aL 1000)),fun l3 bT=>?_⟩;exact q l3 _ (s1.trans (s2.trans (je bT _))) (s1.free (s2.free bT)) jd
 | ite a b c x y=>
  obtain⟨t,u,p,r,xs,ys,rfl,ht,hu,hp,hx,bL,hy⟩:=yd hN;refine⟨_,rfl,t,_,_,_,rfl,rfl,SqT.of ht,rfl,?_⟩;refine gQ ?_;refine⟨_,rfl,rfl,_,rfl,jQ (fun d=>absurd (WP d) (by decide)) (fun _=>?_)⟩;refine⟨_,rfl,rfl,_,rfl,jQ (fun d=>absurd (WP d) (by decide)) (fun _=>?_)⟩;refine⟨_,rfl,rfl,_,rfl,jQ (fun d=>absurd (WP d) (by decide)) (fun _=>?_)⟩;refine⟨_,rfl,rfl,_,rfl,jQ (fun d=>absurd (WP d) (by decide)) (fun _=>?_)⟩;refine⟨_,rfl,_,.ite a b c x y,rfl,hN,trivial,trivial,fun t us H1 s1 ht dm=>?_⟩;refine⟨t,us,[.least a b c],rfl,ht,dm,cf rfl,fun l H2 s2 n2 e2=>?_⟩;refine q l H2 (s1.trans s2) (s1.free n2) ?_;rw[e2];simp[Nd.ns]
 | whl a b c ks x=>
  obtain⟨t,u,p,r,xs,ys,rfl,ht,hu,hp,hx,bL,hy⟩:=zV hN;have CQ:ks.length<=20:=hf;refine⟨_,rfl,t,_,_,_,rfl,rfl,SqT.of ht,rfl,?_⟩;refine gQ ?_;refine⟨_,rfl,rfl,_,rfl,jQ (fun d=>absurd (WP d) (by decide)) (fun _=>?_)⟩;refine⟨_,rfl,rfl,_,rfl,jQ (fun d=>absurd (WP d) (by decide)) (fun _=>?_)⟩;refine⟨_,rfl,rfl,_,rfl,jQ (fun d=>absurd (WP d) (by decide)) (fun _=>?_)⟩;refine⟨_,rfl,rfl,_,rfl,jQ (fun d=>absurd (WP d) (by decide)) (fun _=>?_)⟩;refine⟨_,rfl,_,.whl a b c ks x,rfl,hN,trivial,hf,fun t us H1 s1 ht dm=>?_⟩;refine⟨t,us,.least a b c :: ks,rfl,ht,dm,by rw[bR];omega,fun l H2 s2 n2 e2=>?_⟩;exact q l H2 (s1.trans s2) (s1.free n2) e2
theorem jcP(F:Fun K "bodies_of" "bodies_of" Jb f fd):FnOk P w K mg base CX0 1 f fd ["statement"] spBodies:=by
 have sc:FnScope ["statement"] ["statement"] (jp Jb):=fQ;refine F.okZ sc (fun aH A outer s H vs Q E hr h=>?_);obtain⟨v,N,rfl,hN,q⟩:=h;refine⟨_,(jg (jJ (jx j4 (jk jq (zpv 0) jf (fun _ _=>rfl)) jm (jB _)) (jh (jv (j5 qL (zpv 0) (j0 jf) kL))) jC)
   (jg (jJ (jx j4 (jk jq (zpv 0) jf (fun _ _=>rfl)) jm (jB _)) (jh (jv (j5 qL (zpv 0) (j0 jf) kL))) jC)
   (jh (jv (js jc))))),?_⟩
 try dsimp only[j7]
 refine J5 ?_;intro _ _
 cases N with
 | leaf S=>
  obtain⟨a,k,r,rfl,ha,h1,h2,_⟩:=Sm.head (S:=S) hN;refine⟨_,rfl,a,_,_,V.str k,rfl,rfl,SqT.of ha,kU (j:=0) rfl,rfl,_,rfl,jQ (fun d=>absurd (WP d) (fun z=>h1 (by injection z))) (fun _=>?_)⟩;refine⟨_,rfl,a,_,_,V.str k,rfl,rfl,SqT.of ha,kU (j:=0) rfl,rfl,_,rfl,jQ (fun d=>absurd (WP d) (fun z=>h2 (by injection z))) (fun _=>?_)⟩;exact⟨sm rfl,fun t ht=>q t [] _ (je ht _) jd jj⟩
 | ite a b c x y=>
  obtain⟨t,u,p,r,xs,ys,rfl,ht,hu,hp,hx,bL,hy⟩:=yd hN;refine⟨_,rfl,t,_,_,_,rfl,rfl,SqT.of ht,rfl,rfl,_,rfl,jQ (fun _=>?_) (fun d=>absurd (WQ rfl) d)⟩;refine⟨_,rfl,_,rfl,t,_,rfl,SqT.of ht,(fun h=>absurd h.1 (by show ¬(HT.sIx 4 0 (some 2)=0);decide)),fun t' cU=>?_⟩;have s1:=je cU (.tup (kI [.str "if",u,.ref p,.ref r] (some 2) none));exact q t' [.ref p,.ref r] _ s1 jd (jb (Jx (s1 _ _ hp) (hx.mono s1)) (jb (Jx (s1 _ _ bL) (hy.mono s1)) jj))
 | whl a b c ks x=>
  obtain⟨t,u,p,r,xs,ys,rfl,ht,hu,hp,hx,bL,hy⟩:=zV hN;refine⟨_,rfl,t,_,_,_,rfl,rfl,SqT.of ht,rfl,rfl,_,rfl,jQ (fun d=>absurd (WP d) (by decide)) (fun _=>?_)⟩;refine⟨_,rfl,t,_,_,_,rfl,rfl,SqT.of ht,rfl,rfl,_,rfl,jQ (fun _=>?_) (fun d=>absurd (WQ rfl) d)⟩;refine⟨_,rfl,_,rfl,t,_,rfl,SqT.of ht,(fun h=>absurd h.1 (by show ¬(HT.sIx 4 0 (some 3)=0);decide)),fun t' cU=>?_⟩;have s1:=je cU (.tup (kI [.str "while",u,.ref p,.ref r] (some 3) none));exact q t' [.ref r] _ s1 jd (jb (Jx (s1 _ _ bL) (hy.mono s1)) jj)
end
theorem jL{H:Hp}:∀{ds vN:List D} {vs dR:List V},HeldL H ds vs->HeldL H vN dR->HeldL H (ds++vN) (vs++dR)
 | [],_,_,_,h,h'=>by cases jK h;exact h'
 | _ :: _,_,_,_,h,h'=>by
  obtain⟨v,r,rfl,h1,h2⟩:=ji h;exact jb h1 (jL h2 h')
section
theorem jfs(F:Fun K "all_statements" "all_statements" kJ f fd):FnOk P w K mg base CX0 2 f fd ["body"] (spAll 0):=by
 have sc:FnScope ["body","told","statement","inner"] ["body"] (jp kJ):=fQ;refine F.okZ sc (fun aH A outer s H vs Q E hr h=>?_);obtain⟨a,us,Ss,rfl,ha,Ac,hlen,q⟩:=h
 cases Z8 (l:=Ss)
 cases jK Ac
 refine⟨_,(jg (ju (i:=1) sc.nd rfl oQ (jF jc))
   (jg (kg dF rfl (kT (zpv 0)) (jt (i:=2) sc.nd rfl oQ) (jg (jW (qu eD l_ l8 kK (zpv 1) (ja (zpv 2) jc)))
   (jh (kg dF rfl (kT kW) (jt (i:=3) sc.nd rfl oQ) (jh (jW (qu eD AI AH zQ (zpv 1) (ja kW jc))))))))
   (jh (jv (zpv 1))))),?_⟩
 refine jP (σ':=[some (.ref a),none,none,none]) rfl ?_
 try dsimp only[j7]
 refine J5 ?_;intro _ _;refine⟨sm rfl,fun l hl=>?_⟩;have s1:=je hl (.lst []);have e1:upd H l (.lst []) l=some (.lst []):=jd;generalize upd H l (.lst [])=H1 at *;refine gQ ?_;refine⟨_,rfl,a,rfl,⟨_,SqT.of (s1 _ _ ha)⟩,?_⟩;refine yM (xs:=[]) (fun i σ G=>∃u2 u3,σ=[some (.ref a),some (.ref l),u2,u3]/\G=H1) ⟨none,none,rfl,rfl⟩ ?_ ?_ ?_
 .rintro i σ G _ ⟨u2,u3,rfl,rfl⟩
  exact SqT.of (s1 _ _ ha)
 .rintro i x σ G hx _
  simp at hx
 rintro σ G ⟨u2,u3,rfl,rfl⟩;exact⟨_,rfl,q l [] G s1 hl e1 jj⟩
theorem jgm{n:Nat}(F:Fun K "all_statements" "all_statements" kJ f fd)(sC:Fn P w K mg base 1 "bodies_of" ["statement"] spBodies)(vW:Fn P w K mg base (n+2) "all_statements" ["body"] (spAll n)):FnOk P w K mg base CX0 (n+2+1) f fd ["body"] (spAll (n+1)):=by
 have sc:FnScope ["body","told","statement","inner"] ["body"] (jp kJ):=fQ;refine F.okZ sc (fun aH A outer s H vs Q E hr h=>?_);obtain⟨a,us,Ss,rfl,ha,Ac,hlen,q⟩:=h;refine⟨_,(jg (ju (i:=1) sc.nd rfl oQ (jF jc))
   (jg (kg dF rfl (kT (zpv 0)) (jt (i:=2) sc.nd rfl oQ) (jg (jW (qu eD l_ l8 kK (zpv 1) (ja (zpv 2) jc)))
   (jh (kg dF rfl (kT (jA sC hr (ja (zpv 2) jc) (by omega))) (jt (i:=3) sc.nd rfl oQ) (jh (jW (qu eD AI AH zQ (zpv 1) (ja (jA vW hr (ja (zpv 3) jc) (by omega)) jc))))))))
   (jh (jv (zpv 1))))),?_⟩
 refine jP (σ':=[some (.ref a),none,none,none]) rfl ?_
 try dsimp only[j7]
 refine J5 ?_;intro _ _;refine⟨sm rfl,fun l hl=>?_⟩;have s1:=je hl (.lst []);have e1:upd H l (.lst []) l=some (.lst []):=jd;generalize upd H l (.lst [])=H1 at *;refine gQ ?_;have dw:=Ac.length;rw[ax]at dw;refine⟨_,rfl,a,rfl,⟨_,SqT.of (s1 _ _ ha)⟩,?_⟩;have Nu:∀i,(kr (n+1) (Ss.take i)).length<=100:=fun i=>aV (zj _ Ss i) hlen
 refine yM (xs:=us) (fun i σ G=>∃u2 u3 ws,σ=[some (.ref a),some (.ref l),u2,u3]/\Same H G/\G l=some (.lst ws)/\HeldL G ((kr (n+1) (Ss.take i)).map Nd.toD) ws) ⟨none,none,[],rfl,s1,e1,by rw[eX];exact jj⟩ ?_ ?_ ?_
 .rintro i σ G _ ⟨u2,u3,ws,rfl,sG,_⟩
  exact SqT.of (sG _ _ ha)
 .rintro i x σ G hx ⟨u2,u3,ws,rfl,sG,hG,uG⟩
  have hi:i < Ss.length:=by have:=(bN.mp hx).1;omega
  obtain⟨x',bq,cw⟩:=Ac.get (show (Ss.map (stD (n+1)))[i]?=some (Zb Ss[i]).toD by rw[bF,aI hi];rfl);rw[hx]at bq
  cases bq
  have OI:=uG.length;rw[ax]at OI;have P9:=Nu (i+1);rw[Y4 hi,aG,bR]at P9;refine yB ?_;intro _;refine gQ ?_;refine⟨_,rfl,.inl ⟨rfl,_,SqL.of hG⟩,_,rfl,l,_,x,rfl,rfl,hG,jz (by omega),?_⟩;have Nv:TK G (upd G l (.lst (ws++[x]))):=TK.upd hG (fun _ z=>by cases z);have s2:Same H (upd G l (.lst (ws++[x]))):=fun b o e=>by rw[jw (jr e hl)];exact sG _ _ e
  have e2:upd G l (.lst (ws++[x])) l=some (.lst (ws++[x])):=jd;have Pb:=jL (Nv.heldL uG) (jb (cw.mono s2) jj);generalize upd G l (.lst (ws++[x]))=G2 at *;refine⟨_,rfl,x,Zb Ss[i],rfl,cw.mono s2,fun t bs G3 s3 ht hbs=>?_⟩;refine⟨t,rfl,⟨_,SqT.of ht⟩,?_⟩;rw[jcz,M8]at hbs;have Gh:=hbs.length;rw[ax]at Gh;have j_:=s2.trans s3;refine yM (xs:=bs) (fun j σ G'=>∃u2 u3 i5,σ=[some (.ref a),some (.ref l),u2,u3]/\Same H G'/\TK G3 G'/\G' l=some (.lst i5)/\HeldL G' ((kr (n+1) (Ss.take i)).map Nd.toD++((Zb Ss[i]).toD :: ((((qa Ss[i]).take j).flatMap (kr n)).map Nd.toD))) i5) ⟨_,_,_,rfl,j_,(fun _ _ e=>e),s3 _ _ e2,by rw[eX];exact Pb.mono s3⟩ ?_ ?_ ?_
  .rintro j σ G' _ ⟨_,_,i5,rfl,bC,ri,_⟩
   exact SqT.of (ri _ _ ht)
  .rintro j y σ G' hy ⟨Fg,Ff,i5,rfl,bC,ri,dN,cH⟩
   have hj:j < (qa Ss[i]).length:=by have:=(bN.mp hy).1;omega
   obtain⟨y',ck,iu⟩:=hbs.get (show ((qa Ss[i]).map (D.tup ∘ fun x=>x.map (stD n)))[j]?=some (D.tup ((qa Ss[i])[j].map (stD n))) by rw[bF,aI hj];rfl);rw[hy]at ck
   cases ck
   obtain⟨b,ys,rfl,hb,mD⟩:=jE iu;have IE:(qa Ss[i]).take (j+1)=(qa Ss[i]).take j++[(qa Ss[i])[j]]:=by rw[bP,aI hj];rfl
   have nK:=zj (kr n) (qa Ss[i]) (j+1);have elj:(((qa Ss[i]).take (j+1)).flatMap (kr n)).length=(((qa Ss[i]).take j).flatMap (kr n)).length+(kr n (qa Ss[i])[j]).length:=by rw[IE,oC,aG];simp
   have OK:=cH.length;rw[aG,ax,bR,ax]at OK;refine yB ?_;intro _;refine gQ ?_;refine⟨_,rfl,.inl ⟨rfl,_,SqL.of dN⟩,_,rfl,b,ys,(qa Ss[i])[j],rfl,ri _ _ hb,ri.heldL mD,by omega,fun l3 Nl G4 s4 n4 e4 xw=>?_⟩;have OJ:=xw.length;rw[ax]at OJ;have dy:=s4 _ _ dN;refine⟨l,l3,_,_,rfl,rfl,dy,e4,aV (by omega) (jY (aL 1000)),?_⟩;have ij:TK G4 (upd G4 l (.lst (i5++Nl))):=TK.upd dy (fun _ z=>by cases z);refine⟨_,_,_,rfl,fun b o e=>by rw[jw (jr e hl)];exact s4 _ _ (bC _ _ e),fun b o e=>ij _ _ (s4 _ _ (ri _ _ e)),jd,?_⟩;rw[show ((kr (n+1) (Ss.take i)).map Nd.toD++((Zb Ss[i]).toD :: ((((qa Ss[i]).take (j+1)).flatMap (kr n)).map Nd.toD)))=((kr (n+1) (Ss.take i)).map Nd.toD++((Zb Ss[i]).toD :: ((((qa Ss[i]).take j).flatMap (kr n)).map Nd.toD)))++(kr n (qa Ss[i])[j]).map Nd.toD by rw[IE,oC,aW];simp];exact ij.heldL (jL (cH.mono s4) xw)
  .rintro σ G' ⟨Fg,Ff,i5,rfl,bC,ri,dN,cH⟩
   rw[<- Gh,bX]at cH;exact⟨Fg,Ff,i5,rfl,bC,dN,by rw[Y4 hi,aW,ce];exact cH⟩
 rintro σ G ⟨u2,u3,ws,rfl,sG,hG,uG⟩;rw[<- dw,bX]at uG;exact⟨_,rfl,q l ws G sG hl hG uG⟩
theorem Y3{f1:aa}{fU:aO}(U1:Fun K "all_statements" "all_statements" kJ f1 fU)(b1:Binds K fU ["body"] [])(m1:mg "all_statements" = some (.ref f1))(sC:Fn P w K mg base 1 "bodies_of" ["statement"] spBodies):∀n,Fn P w K mg base (n+2) "all_statements" ["body"] (spAll n)
 | 0=>Fn.mk' U1 b1 m1 (jfs U1)
 | n+1=>Fn.mk' U1 b1 m1 (jgm U1 sC (Y3 U1 b1 m1 sC n))
end
end LW
namespace L2
open PySem PySem.Spec PyProof.Rows
structure Fly(h0:aB)(H:Hp)(cls:ac)(e:aa)(h:aB):Prop where
 he:H e=none
 ne:h0.get? e=none
 tr:∃oe vs T oT ts a0,h.get? e=some oe/\oe.cls=cls/\oe.data=.fields vs/\vs[0]?=some a0/\vs[1]?=some (.ref T)/\T≠e/\h.get? T=some oT/\oT.data=.fields ts/\ts[3]?=some .none/\H T=none/\h0.get? T=none
structure Left(fs:List aa)(h0:aB)(H:Hp)(h h':aB):Prop where
 keep:∀b o,h.get? b=some o->b ∉ fs->(H b≠none\/∃u,h0.get? b=some u)->h'.get? b=some o
 slot:∀b o,h.get? b=some o->b∈fs->∃sl,h'.get? b=some { cls:=o.cls,dict:=o.dict,data:=o.data,slots:=sl }
theorem JR{h base:aB}:∀{l:List Env},h.FunFrames base l->∀b∈frs l,∃o,h.get? b=some o/\∀vs:Array ac,o.data≠.fields vs
 | [],_,b,hb=>by cases hb
 | env :: l,hf,b,hb=>by
  obtain⟨_,⟨L,o,e1,_,e3,e4⟩,hr⟩:=hf;unfold frs at hb;rw[dG,e1]at hb;rcases aM.mp hb with rfl | hb
  .exact⟨o,e3,e4⟩
  .exact JR hr b hb
theorem qf{h base B:aB}:∀{l:List Env},h.FunFrames base l->(∀b∈frs l,B.get? b=none)->h.FunFrames B l
 | [],_,_=>trivial
 | env :: l,hf,hB=>by
  obtain⟨k,⟨L,o,e1,_,e3,e4⟩,hr⟩:=hf;have hm:L∈frs (env :: l):=by unfold frs;rw[dG,e1];exact bt
  refine⟨k,⟨L,o,e1,hB L hm,e3,e4⟩,qf hr fun b hb=>hB b ?_⟩;unfold frs at hb |-;rw[dG,e1];exact aZ _ hb
variable {M:ot}{A:aR}{s:av}{base h0 h':aB}{e:aa}{H:Hp}{Q:Unit->av->Prop}
section
variable {E:ac->av->Prop}{env:Env}{outer:List Env}{L:aa}{cls:ac}
theorem ZE{B:aB}{l:List Env}{hs:List aa}{a0:ac}(he:H e=none)(ne:h0.get? e=none)(hB:B=mX s.heap hs)(hl:∀b∈hs,H b=none/\(b∈frs l\/h0.get? b=none))(hfr:h'.FunFrames base l)(hH:∀b,s.heap.get? b=none->H b=none/\h0.get? b=none)(tw:h'.TracedW B e cls a0):Fly h0 H cls e h':=by
 obtain⟨oe,vs,T,oT,ts,t1,⟨t2,t3⟩,t4,t5,t6,t7,t8,t9,eY⟩:=tw;have hT:H T=none/\h0.get? T=none:=by
  rcases eL:s.heap.get? T with _ | o
  .exact hH T eL
  .by_cases hm:T∈hs
   .refine⟨(hl T hm).1,?_⟩
    rcases (hl T hm).2 with hf | hf
    .obtain⟨o',e1,e2⟩:=JR hfr T hf
     rw[t8]at e1
     cases e1
     exact absurd t9 (e2 ts)
    .exact hf
   .rw[hB,W.hideAll_get hs eL hm]at t6
    cases t6
 exact⟨he,ne,oe,vs,T,oT,ts,a0,t1,t2,t4,t3,t5,t7,t8,t9,eY,hT.1,hT.2⟩
theorem Kh{B:aB}{l:List Env}{hs:List aa}(hB:B=mX s.heap hs)(hl:∀b∈hs,b ∉ frs l->H b=none/\h0.get? b=none)(st:B.StaysIn h')(hfr:s.heap.FunFrames base l)
  (ks:∀b o,s.heap.get? b=some o->(∀vs:Array ac,o.data≠.fields vs)->∃sl,h'.get? b=some { cls:=o.cls,dict:=o.dict,data:=o.data,slots:=sl }):Left (frs l) h0 H s.heap h':=by
 refine⟨fun b o hb hf ho=>?_,fun b o hb hf=>?_⟩
 .by_cases hm:b∈hs
  .obtain⟨h1,h2⟩:=hl b hm hf
   rcases ho with ho | ⟨u,hu⟩
   .exact absurd h1 ho
   .rw[h2]at hu;cases hu
  .exact st b o (by rw[hB];exact W.hideAll_get hs hb hm)
 .obtain⟨o',e1,e2⟩:=JR hfr b hf
  rw[hb]at e1
  cases e1
  exact ks b o hb e2
theorem jbo(hA:A.frames=some (env :: outer))(hfr:s.heap.FunFrames base (env :: outer))(hL:env.frame=some L)(hF:Fly h0 H cls e s.heap)(pq:∀b∈frs (env :: outer),H b=none)(hH:∀b,s.heap.get? b=none->H b=none/\h0.get? b=none)
  (hQ:∀h',Left (frs (env :: outer)) h0 H s.heap h'->Fly h0 H cls e h'->h'.FunFrames base (env :: outer)->Q () { s with heap:=h' }) (hbs:∀b o,base.get? b=some o->b ∉ frs (env :: outer)/\∃u,h0.get? b=some u):aw M A (leaving env (.ref e)) Q E s:=by
 obtain⟨oe,vs,T,oT,ts,a0,t1,t2,t3,t4,t5,t6,t7,t8,t9,eY,f_⟩:=hF.tr
 have gq:∀b∈e :: T :: frs (env :: outer),(mX s.heap (e :: T :: frs (env :: outer))).get? b=none:=fun b hb=>Ev _ hb
 refine wpAny_leaving_nextW (base:=mX s.heap (e :: T :: frs (env :: outer))) (cls:=cls) (a0:=a0) hA (qf hfr fun b hb=>gq b (aZ _ (aZ _ hb))) hL ⟨oe,vs,T,oT,ts,t1,⟨t2,t4⟩,t3,t5,gq T (aZ _ bt),t6,t7,t8,t9⟩ (fun b o hb=>Eu _ hb) (gq e bt) ?_
 rintro h' ⟨l1,l2,l3,l4⟩
 have iG:h'.FunFrames base (env :: outer):=qf l2 fun b hb=>by
  rcases hh:base.get? b with _ | o
  .rfl
  .exact absurd hb (hbs b o hh).1
 refine hQ h' (Kh rfl (fun b hb hf=>?_) l1 hfr l4) (ZE (s:=s) (l:=env :: outer) hF.he hF.ne rfl (fun b hb=>?_) iG hH l3) iG
 .rcases aM.mp hb with rfl | hb
  .exact⟨hF.he,hF.ne⟩
  .rcases aM.mp hb with rfl | hb
   .exact⟨eY,f_⟩
   .exact absurd hb hf
 .rcases aM.mp hb with rfl | hb
  .exact⟨hF.he,.inr hF.ne⟩
  .rcases aM.mp hb with rfl | hb
   .exact⟨eY,.inr f_⟩
   .exact⟨pq b hb,.inl hb⟩
theorem jau{oe:Obj}{vs:Array ac}{a0:ac}(hA:A.frames=some (env :: outer))(hfr:s.heap.FunFrames base (env :: outer))(hL:env.frame=some L)(he:H e=none)(ne:h0.get? e=none)(ho:s.heap.get? e=some oe)(hc:oe.cls=cls)(hd:oe.data=.fields vs)(h1:vs[1]?=some .none)(ha:vs[0]?=some a0)(pq:∀b∈frs (env :: outer),H b=none)(hH:∀b,s.heap.get? b=none->H b=none/\h0.get? b=none)
  (hQ:∀h',Left (frs (env :: outer)) h0 H s.heap h'->Fly h0 H cls e h'->h'.FunFrames base (env :: outer)->Q () { s with heap:=h' }) (hbs:∀b o,base.get? b=some o->b ∉ frs (env :: outer)/\∃u,h0.get? b=some u):aw M A (leaving env (.ref e)) Q E s:=by
 subst hc
 have gq:∀b∈e :: frs (env :: outer),(mX s.heap (e :: frs (env :: outer))).get? b=none:=fun b hb=>Ev _ hb
 refine wpAny_leaving_firstW (base:=mX s.heap (e :: frs (env :: outer))) hA (qf hfr fun b hb=>gq b (aZ _ hb)) hL ho (fun b o hb=>Eu _ hb) (gq e bt) hd h1 ha ?_
 rintro h' ⟨l1,l2,l3,l4⟩
 have iG:h'.FunFrames base (env :: outer):=qf l2 fun b hb=>by
  rcases hh:base.get? b with _ | o
  .rfl
  .exact absurd hb (hbs b o hh).1
 refine hQ h' (Kh rfl (fun b hb hf=>?_) l1 hfr l4) (ZE (s:=s) (l:=env :: outer) he ne rfl (fun b hb=>?_) iG hH l3) iG
 .rcases aM.mp hb with rfl | hb
  .exact⟨he,ne⟩
  .exact absurd hb hf
 .rcases aM.mp hb with rfl | hb
  .exact⟨he,.inr ne⟩
  .exact⟨pq b hb,.inl hb⟩
end
variable {P:aF}{w:aE}{h:aB}{o:HO}
theorem ObjOk.ex{a:aa}(x:ObjOk P w H h a o):∃u,h.get? a=some u:=by
 cases o with
 | lst xs=>obtain⟨_,_,_,_,e⟩:=x;exact⟨_,e⟩
 | tup xs=>obtain⟨_,_,_,⟨u,e,_⟩⟩:=x;exact⟨_,e⟩
 | dK kvs=>obtain⟨_,_,_,_,o,_,_,e,_⟩:=x;exact⟨_,e⟩
 | dT kvs=>obtain⟨_,_,_,_,o,_,_,e,_⟩:=x;exact⟨_,e⟩
 | set S n=>obtain⟨o,_,_,_,e,_⟩:=x;exact⟨_,e⟩
 | ins C dx fs=>obtain⟨_,_,_,e,_⟩:=x;exact⟨_,e⟩
 | own y=>exact x
 | xd fs=>obtain⟨_,⟨_,_,_,e,_⟩,_⟩:=x;exact⟨_,e⟩
 | rng lo hi=>obtain⟨_,_,_,e⟩:=x;exact⟨_,e⟩
 | frz o u=>exact⟨_,x.1⟩
 | tbl ps=>exact⟨_,x⟩
 | met f y=>exact⟨_,x⟩
 | ext φ=>exact x.2.1
def CX1(P:aF)(w:aE):CXT:=fun outer H s E e s'=>∃ea cls H',e=.ref ea/\s'.os=s.os/\m8 s'.gens/\Un (frs outer) [] H H' s.heap s'.heap/\HOk P w H' s'.heap/\Fly s.heap H' cls ea s'.heap/\E cls none H'
variable {X:Cx}{ah:List (aa×Obj)}{E:XK}{H':Hp}
section
variable {σ:St}{cls:ac}
structure XW(X:Cx)(E:XK):Prop where
 env:X.stack=X.env :: X.outer
 fr:X.env.frame=some X.env.locals
 ex:X.ex=[]
 xe:X.xe=fun e s'=>aw (aA X.prog X.w) X.A (leaving X.env e) (fun _ im=>CX1 X.prog X.w X.outer X.H₀ X.s₀ E e im) (fun e' im=>CX1 X.prog X.w X.outer X.H₀ X.s₀ E e' im) s'
theorem XW.left(W:XW X E)(I:Inv X ah σ H s)(l:Left (frs (X.env :: X.outer)) X.s₀.heap H s.heap h')(f:Fly X.s₀.heap H cls e h')(hE:E cls none H):CX1 X.prog X.w X.outer X.H₀ X.s₀ E (.ref e) { s with heap:=h' }:=by
 have hb:=I.base;rw[W.ex]at hb;have nL:∀b o,X.s₀.heap.get? b=some o->b ∉ frs X.outer->b ∉ frs (X.env :: X.outer):=fun b o e hn hm=>by
  unfold frs at hm;rw[dG,W.fr]at hm;rcases aM.mp hm with rfl | hm
  .exact absurd (aS e) (Nat.not_lt.mpr I.ok.above)
  .exact hn hm
 have O1:∀b,b∈frs X.outer->b∈frs (X.env :: X.outer):=fun b hm=>by
  unfold frs at hm |-;rw[dG,W.fr];exact aZ _ hm
 have stk:=I.stkFree;rw[W.env]at stk;refine⟨e,cls,H,rfl,I.os,I.bare,⟨fun b o h1 h2 h3 h4=>?_,fun b o h1 h2 h3 h4=>?_,fun b o h1 h2 h3=>hb.free b o h1 h2 h3,fun b o h1 h2=>?_,hb.tups,hb.frzs,hb.tbls,fun b o xs q h1 h3 h4=>l.keep b o (hb.stay b o xs q h1 h3 h4) (nL b o h1 h3) (.inr ⟨o,h1⟩)⟩,fun a o ho=>?_,f,hE⟩
 .exact l.keep b o (hb.keep b o h1 h2 h3 h4) (nL b o h1 h3) (.inr ⟨o,h1⟩)
 .obtain⟨sl,h5⟩:=hb.slot b o h1 h2 h3 h4
  obtain⟨mm,h6⟩:=l.slot b _ h5 (O1 b h3);exact⟨mm,h6⟩
 .obtain⟨o',h5⟩:=hb.there b o h1 h2
  by_cases hm:b∈frs (X.env :: X.outer)
  .obtain⟨mm,h6⟩:=l.slot b _ h5 hm
   exact⟨_,h6⟩
  .exact⟨o',l.keep b o' h5 hm (.inr ⟨o,h1⟩)⟩
 .refine (I.hok a o ho).stay (fun b u pB q=>?_) (fun _ q=>q) fun _ _ q=>q
  have bM:H b≠none:=by
   rcases pB with rfl | pB
   .rw[ho];simp
   .rw[pB];simp
  exact l.keep b u q (fun hm=>bM (stk b hm)) (.inl bM)
theorem XW.hH(W:XW X E)(I:Inv X ah σ H s):∀b,s.heap.get? b=none->H b=none/\X.s₀.heap.get? b=none:=fun b hb=>by
 refine⟨?_,?_⟩
 .rcases hh:H b with _ | o
  .rfl
  .obtain⟨u,hu⟩:=(I.hok b o hh).ex
   rw[hu]at hb;cases hb
 .rcases hh:X.s₀.heap.get? b with _ | o
  .rfl
  .have rY:=I.base
   rw[W.ex]at rY;obtain⟨o',h5⟩:=rY.there b o hh (by simp);rw[h5]at hb;cases hb
theorem XW.hbs(W:XW X E)(I:Inv X ah σ H s):∀b o,X.base.get? b=some o->b ∉ frs (X.env :: X.outer)/\∃u,X.s₀.heap.get? b=some u:=fun b o hb=>by
 refine⟨fun hm=>?_,⟨o,(I.ok.bs b o hb).1⟩⟩;have hs:=I.stack;rw[W.env]at hs;have:∀{l:List Env},s.heap.FunFrames X.base l->b∈frs l->False:=by
  intro l;induction l with
  | nil=>intro _ h;cases h
  | cons env l ih=>
   intro hf hm;obtain⟨_,⟨L,o',e1,e2,_,_⟩,hr⟩:=hf;unfold frs at hm;rw[dG,e1]at hm;rcases aM.mp hm with rfl | hm
   .rw[e2]at hb;cases hb
   .exact ih hr hm
 exact this hs hm
theorem XW.next(W:XW X E)(I:Inv X ah σ H s)(F:Fly X.s₀.heap H cls e s.heap)(hE:E cls none H):X.xe (.ref e) s:=by
 have stk:=I.stkFree;have hs:=I.stack;have hf:=I.ok.frames;rw[W.env]at stk hs hf;rw[W.xe];exact jbo hf hs W.fr F stk (W.hH I) (fun h' l f _=>W.left I l f hE) (W.hbs I)
theorem XW.first(W:XW X E)(I:Inv X ah σ H s){oe:Obj}{vs:Array ac}{a0:ac}(he:H e=none)(ne:X.s₀.heap.get? e=none)(ho:s.heap.get? e=some oe)(hc:oe.cls=cls)(hd:oe.data=.fields vs)(h1:vs[1]?=some .none)(ha:vs[0]?=some a0)(hE:E cls none H):X.xe (.ref e) s:=by
 have stk:=I.stkFree;have hs:=I.stack;have hf:=I.ok.frames;rw[W.env]at stk hs hf;rw[W.xe];exact jau hf hs W.fr he ne ho hc hd h1 ha stk (W.hH I) (fun h' l f _=>W.left I l f hE) (W.hbs I)
theorem Inv.raised{s':av}{ev:ac}(I:Inv X ah σ H s)(h:CX1 X.prog X.w X.stack H s E ev s'):∃ea cls H',ev=.ref ea/\Inv X ah σ H' s'/\Fly s.heap H' cls ea s'.heap/\E cls none H':=by
 obtain⟨ea,cls,H',rfl,os,bare,un,hok,Dv,hE⟩:=h;obtain⟨hh,g,d,t,Bv⟩:=s';obtain rfl:Bv=s.os:=os;exact⟨ea,cls,H',rfl,I.call (h':=hh) (g':=g) (d':=d) (t':=t) (ch:=[]) un hok bare (fun b z=>absurd z (by simp)),Dv,hE⟩
theorem Fly.back{s':av}(W:XW X E)(I:Inv X ah σ H s)(F:Fly s.heap H' cls e s'.heap):Fly X.s₀.heap H' cls e s'.heap:=by
 obtain⟨oe,vs,T,oT,ts,a0,t1,t2,t3,t4,t5,t6,t7,t8,t9,eY,f_⟩:=F.tr;exact⟨F.he,(W.hH I e F.ne).2,oe,vs,T,oT,ts,a0,t1,t2,t3,t4,t5,t6,t7,t8,t9,eY,(W.hH I T f_).2⟩
theorem XW.passes(W:XW X E):JY (CX1 X.prog X.w) X E:=fun ah σ H s ev s' I h=>by
 obtain⟨ea,cls,H',rfl,I',F,hE⟩:=I.raised h;exact W.next I' (Fly.back W I F) hE
end
structure FnX(P:aF)(w:aE)(K:aC)(mg:Str->Option ac)(base:aB)(k:Nat)(x:Str)(ps:List Str)(sp:Sp):Prop where
 ex:∃f fd,FnOk P w K mg base (CX1 P w) k f fd ps sp/\Binds K fd ps []/\mW K (.ref f)=true/\mg x=some (.ref f)
variable {K:aC}{x:Str}{ps:List Str}{sp:Sp}{f:aa}{fd:aO}
theorem FnX.mk'{mg:Str->Option ac}{k:Nat}{st:aJ}(F:Fun K x x st f fd)(b:Binds K fd ps [])(m:mg x=some (.ref f))(G:FnOk P w K mg base (CX1 P w) k f fd ps sp):FnX P w K mg base k x ps sp:=⟨f,fd,G,b,F.kp,m⟩
theorem Fun.okX{mg:Str->Option ac}{bA:Str}{st:aJ}{N:List Str}{k:Nat}(F:Fun K x bA st f fd)(S:FnScope N ps (jp st))(len:∀vs H Q E,sp vs H Q E->vs.length=ps.length)
  (mP:∀(aH:ac) (A:aR) (outer:List Env) (s:av) (H:Hp) (vs:List V) (Q:VK) (E:XK),Room k (A.deeper (envOfC bA (jp st) s.heap.objs.size f aH))->XW (j7 (CX1 P w) P w K mg base N bA (jp st) f aH A outer s H E) E->sp vs H Q E->
   ∃t,QSs (j7 (CX1 P w) P w K mg base N bA (jp st) f aH A outer s H E) (qA st) t/\t { nx:=fun _ H'=>Q .non H',rt:=Q } (yn N vs) H):FnOk P w K mg base (CX1 P w) (k+1) f fd ps sp:=by
 obtain⟨oc,od,kV,di,pm,an,aH,ct,lh,rfl,lk,dz⟩:=F.ex
 refine jeJ lk dz S len fun A outer s H vs Q E hr gO=>?_
 obtain⟨t,h,q⟩:=mP aH A outer s H vs Q E hr ⟨rfl,rfl,rfl,rfl⟩ gO
 exact⟨t,h.h,q⟩
theorem JA{C:aa}{bmB:List ac}{FZ:String}(X:K.In h)(e:pU K C bmB FZ=true):∃bm N nm q bs hdct sn sub ab col dd k0 k1 k2 k3 k5 mN,
  h.get? C=some (excClassObj nm q C N bs bm hdct sn sub ab col dd k0 k1 k2 k3 k5 FZ)/\h.Ns N mN/\mN (bu "__init__")=none/\OwnTail h bmB bm:=by
 unfold pU at e
 split at e
 .rename_i Ag cd sl hl
  split at e
  .rename_i C' bm a0 a1 a2 a3 n a5 hm hs
   simp only[cO,beq_iff_eq,Bool.not_eq_true']at e
   obtain⟨⟨⟨⟨⟨e1,e2⟩,e3⟩,e4⟩,e5⟩,e6⟩:=e
   subst e1 e2
   have eL:sl=#[a0,a1,a2,a3,some (.builtin n),a5]:=by
    apply WM.mp;rw[hs]
   obtain⟨c1,c2,c3,c4,c5,c6,c7,c8,c9,c10,c11⟩:=cd
   dsimp only at hm e3 e4 e5 e6
   subst hm eL e3
   exact⟨bm,c4,_,_,_,_,_,_,_,_,_,_,_,_,_,_,h.nsMap c4,X _ _ hl,aB.Ns.of_isNs (W.isNs_of_in X e5),W.nsMap_none_of_in X e5 e6,W.tail_of_in X e4⟩
  .cases e
 .cases e
theorem Yk{bmB:List ac}(k:∀b o,h.get? b=some o->h'.get? b=some o):∀{l:List ac},OwnTail h bmB l->OwnTail h' bmB l:=by
 intro l t;induction t with
 | base=>exact .base
 | own h1 h2 h3 _ ih=>exact .own (k _ _ h1) (h2.keeps k) h3 ih
def valB:List ac:=[.type "ValueError",.type "Exception",.type "BaseException",.type "object"]
def jf0(C:aa)(E:XK)(t:TA):TS:=fun _ σ H=>t σ H fun vs H1=>vs.length<=1000/\E (.ref C) none H1
section
variable {E:ac->av->Prop}{env:Env}{outer:List Env}{L:aa}{cls:ac}
theorem jcW(hA:A.frames=some (env :: outer))(hfr:s.heap.FunFrames base (env :: outer))(hL:env.frame=some L)(hF:Fly h0 H cls e s.heap)(pq:∀b∈frs (env :: outer),H b=none)(hH:∀b,s.heap.get? b=none->H b=none/\h0.get? b=none)
  (hQ:∀h',Left (frs (env :: outer)) h0 H s.heap h'->Fly h0 H cls e h'->h'.FunFrames base (env :: outer)->Q () { s with heap:=h' }) (hbs:∀b o,base.get? b=some o->b ∉ frs (env :: outer)/\∃u,h0.get? b=some u) :
  aw M A (LU (.ref e) env) (fun _ s2=>aw M A (setFlight (.ref e) none) Q E s2) E s:=by
 obtain⟨oe,vs,T,oT,ts,a0,t1,t2,t3,t4,t5,t6,t7,t8,t9,eY,f_⟩:=hF.tr
 have gq:∀b∈e :: T :: frs (env :: outer),(mX s.heap (e :: T :: frs (env :: outer))).get? b=none:=fun b hb=>Ev _ hb
 refine wpAny_noteFrame_onW (base:=mX s.heap (e :: T :: frs (env :: outer))) (cls:=cls) (a0:=a0) hA (qf hfr fun b hb=>gq b (aZ _ (aZ _ hb))) hL ⟨oe,vs,T,oT,ts,t1,⟨t2,t4⟩,t3,t5,gq T (aZ _ bt),t6,t7,t8,t9⟩ (fun b o hb=>Eu _ hb) (gq e bt) ?_
 rintro h1 ⟨k1,k2,k3,k4⟩
 refine Tq k1 k2 k3 fun h' l1 l2 l3 l5=>?_
 have l4:∀b o,s.heap.get? b=some o->(∀vs:Array ac,o.data≠.fields vs)->∃sl,h'.get? b=some { cls:=o.cls,dict:=o.dict,data:=o.data,slots:=sl }:=fun b o hb hn=>by
  obtain⟨sl,q⟩:=k4 b o hb hn;exact⟨sl,l5 b _ q hn⟩
 have iG:h'.FunFrames base (env :: outer):=qf l2 fun b hb=>by
  rcases hh:base.get? b with _ | o
  .rfl
  .exact absurd hb (hbs b o hh).1
 refine hQ h' (Kh rfl (fun b hb hf=>?_) l1 hfr l4) (ZE (s:=s) (l:=env :: outer) hF.he hF.ne rfl (fun b hb=>?_) iG hH l3) iG
 .rcases aM.mp hb with rfl | hb
  .exact⟨hF.he,hF.ne⟩
  .rcases aM.mp hb with rfl | hb
   .exact⟨eY,f_⟩
   .exact absurd hb hf
 .rcases aM.mp hb with rfl | hb
  .exact⟨hF.he,.inr hF.ne⟩
  .rcases aM.mp hb with rfl | hb
   .exact⟨eY,.inr f_⟩
   .exact⟨pq b hb,.inl hb⟩
theorem jbp(hfr:s.heap.FunFrames base (env :: outer))(hF:Fly h0 H cls e s.heap)(pq:∀b∈frs (env :: outer),H b=none)(hH:∀b,s.heap.get? b=none->H b=none/\h0.get? b=none)
  (hQ:∀h',Left (frs (env :: outer)) h0 H s.heap h'->Fly h0 H cls e h'->h'.FunFrames base (env :: outer)->Q () { s with heap:=h' }) (hbs:∀b o,base.get? b=some o->b ∉ frs (env :: outer)/\∃u,h0.get? b=some u) :
  aw M A (setFlight (.ref e) none) Q E s:=by
 obtain⟨oe,vs,T,oT,ts,a0,t1,t2,t3,t4,t5,t6,t7,t8,t9,eY,f_⟩:=hF.tr
 have gq:∀b∈e :: T :: frs (env :: outer),(mX s.heap (e :: T :: frs (env :: outer))).get? b=none:=fun b hb=>Ev _ hb
 refine Tq (base:=mX s.heap (e :: T :: frs (env :: outer))) (l:=env :: outer) (cls:=cls) (a0:=a0) (fl:=.none) (fun b o hb=>Eu _ hb) (qf hfr fun b hb=>gq b (aZ _ (aZ _ hb))) ⟨oe,vs,T,oT,ts,t1,⟨t2,t4⟩,t3,t5,gq T (aZ _ bt),t6,t7,t8,t9⟩ fun h' l1 l2 l3 l5=>?_
 have l4:∀b o,s.heap.get? b=some o->(∀vs:Array ac,o.data≠.fields vs)->∃sl,h'.get? b=some { cls:=o.cls,dict:=o.dict,data:=o.data,slots:=sl }:=fun b o hb hn=>⟨o.slots,l5 b _ hb hn⟩
 have iG:h'.FunFrames base (env :: outer):=qf l2 fun b hb=>by
  rcases hh:base.get? b with _ | o
  .rfl
  .exact absurd hb (hbs b o hh).1
 refine hQ h' (Kh rfl (fun b hb hf=>?_) l1 hfr l4) (ZE (s:=s) (l:=env :: outer) hF.he hF.ne rfl (fun b hb=>?_) iG hH l3) iG
 .rcases aM.mp hb with rfl | hb
  .exact⟨hF.he,hF.ne⟩
  .rcases aM.mp hb with rfl | hb
   .exact⟨eY,f_⟩
   .exact absurd hb hf
 .rcases aM.mp hb with rfl | hb
  .exact⟨hF.he,.inr hF.ne⟩
  .rcases aM.mp hb with rfl | hb
   .exact⟨eY,.inr f_⟩
   .exact⟨pq b hb,.inl hb⟩
end
variable {h1:aB}
theorem Un.left{fs:List aa}{h2:aB}{P:aF}{w:aE}(u:Un fs [] H H' h h1)(l:Left fs h H' h1 h2):Un fs [] H H' h h2 where
 keep:=fun b o h1 h2 h3 h4=>l.keep b o (u.keep b o h1 h2 h3 h4) h3 (.inr ⟨o,h1⟩)
 slot:=fun b o h1 h2 h3 h4=>by
  obtain⟨sl,h5⟩:=u.slot b o h1 h2 h3 h4;obtain⟨mm,h6⟩:=l.slot b _ h5 h3;exact⟨mm,h6⟩
 free:=u.free
 there:=fun b o h1 h2=>by
  obtain⟨o',h5⟩:=u.there b o h1 h2;by_cases hm:b∈fs
  .obtain⟨mm,h6⟩:=l.slot b _ h5 hm
   exact⟨_,h6⟩
  .exact⟨o',l.keep b o' h5 hm (.inr ⟨o,h1⟩)⟩
 tups:=u.tups
 frzs:=u.frzs
 tbls:=u.tbls
 stay:=fun b o xs q h1 h3 h4=>l.keep b o (u.stay b o xs q h1 h3 h4) h3 (.inr ⟨o,h1⟩)
theorem HOk.left{fs:List aa}{h2:aB}(k:HOk P w H h1)(ff:∀b∈fs,H b=none)(l:Left fs h0 H h1 h2):HOk P w H h2:=fun a o ho=>by
 refine (k a o ho).stay (fun b u pB q=>?_) (fun _ q=>q) fun _ _ q=>q
 have bM:H b≠none:=by
  rcases pB with rfl | pB
  .rw[ho];simp
  .rw[pB];simp
 exact l.keep b u q (fun hm=>bM (ff b hm)) (.inl bM)
def JZ(cls:ac)(e:aa):HO:=.ext fun h=>∃oe vs,h.get? e=some oe/\oe.cls=cls/\oe.data=.fields vs
theorem Un.track{fs:List aa}(u:Un fs [] H H' h h1)(he:H' e=none)(hn:h.get? e=none):Un fs [] H (upd H' e o) h h1 where
 keep:=u.keep
 slot:=u.slot
 free:=fun b ob h1 h2 h3=>by
  rw[jw fun z=>by rw[z,hn]at h1;cases h1];exact u.free b ob h1 h2 h3
 there:=u.there
 tups:=fun b xs q=>by
  have:=u.tups b xs q;rw[jw fun z=>by rw[z,he]at this;cases this];exact this
 frzs:=fun b ob xs q=>by
  have:=u.frzs b ob xs q;rw[jw fun z=>by rw[z,he]at this;cases this];exact this
 tbls:=fun b ps q=>by
  obtain⟨m,this⟩:=u.tbls b ps q;exact⟨m,by rw[jw fun z=>by rw[z,he]at this;cases this];exact this⟩
 stay:=u.stay
theorem HOk.track(k:HOk P w H h)(he:H e=none)(ho:ObjOk P w (upd H e o) h e o):HOk P w (upd H e o) h:=fun a u hu=>by
 by_cases z:a=e
 .subst z
  rw[jd]at hu
  cases hu
  exact ho
 .rw[jw z]at hu
  refine (k a u hu).stay (fun b v _ q=>q) (fun b q=>?_) fun b xs q=>?_
  .rw[jw fun z=>by rw[z,he]at q;cases q];exact q
  .rw[jw fun z=>by rw[z,he]at q;cases q];exact q
theorem jfD{cls:ac}(F:Fly h0 H cls e h):ObjOk P w (upd H e (JZ cls e)) h e (JZ cls e):=by
 obtain⟨oe,vs,T,oT,ts,a0,t1,t2,t3,_⟩:=F.tr;exact⟨⟨oe,vs,t1,t2,t3⟩,⟨oe,t1⟩,fun h1 h2 ⟨o,v,q1,q2,q3⟩ k=>⟨o,v,k o q1,q2,q3⟩⟩
abbrev Cx.hush(X:Cx)(e:aa):Cx:={ X with A:=X.A.mark (some (.ref e)),calm:=false,xe:=fun _ _=>False }
section
variable {σ:St}
theorem Inv.hush(I:Inv X ah σ H s)(e:aa):Inv (X.hush e) ah σ H s:=
 ⟨⟨I.ok.mod,I.ok.kind,I.ok.glob,I.ok.blt,I.ok.above,I.ok.inj,I.ok.has,I.ok.cab,fun z=>(by cases z),I.ok.frames,I.ok.stk,I.ok.exf,I.ok.bs,I.ok.bsz,I.ok.noex,I.ok.exfs,I.ok.funs,I.ok.frf⟩,I.os,I.bare,I.base,I.loc,I.cell,I.free,I.freeC,I.pin,I.hok,I.len⟩
theorem Inv.unhush(ok:X.Ok)(I:Inv (X.hush e) ah σ H s):Inv X ah σ H s:=
 ⟨ok,I.os,I.bare,I.base,I.loc,I.cell,I.free,I.freeC,I.pin,I.hok,I.len⟩
theorem Ki{E:ac->av->Prop}{i:Nat}{v:V}{pos:Pos}(I:Inv X ah σ H s)(hN:X.N.Nodup)(hi:X.N[i]?=some x)(hx:X.env.scope.names.lookup x=some .local)
  (h:∀s',Inv X ah (σ.set i none) H s'->Q () s'):aw M A (do sQ X.env x .none;TQ X.env x pos) Q E s:=by
 have C8:(X.env.scope.kind == .class || (X.env.scope.kind == .module && X.env.locals != X.env.globals))=false:=by rw[I.ok.kind];rfl
 refine am (Ei (q8 (v:=.non) (u:=.none) I hN hi (.inl hx) rfl (fun s1 I1=>?_) (.inr hx)))
 unfold TQ
 refine Ef ?_
 obtain⟨m,hn,hl⟩:=id I1.loc
 have vh:i < σ.length:=by rw[I.len];exact (bN.mp hi).1
 obtain⟨u,_,q⟩:=hl i x .non hi (E1 vh) (.inl hx)
 have hm:∃v,m x=some v:=by
  rcases q with⟨_,q⟩ | ⟨q,_⟩
  .exact⟨_,q⟩
  .have hk:X.env.kindOf x=some .local:=hx
   rcases q with q | q <;> (rw[hk]at q;cases q)
 obtain⟨v,hm⟩:=hm
 refine wpAny_unbindName_local hx hn hm C8 fun h' u uY hs=>?_
 obtain⟨oL,_,_,rP,_⟩:=id hn
 have cne:=I1.cne
 refine h _ ⟨I1.ok,I1.os,I1.bare,⟨fun b o e n hb hx=>?_,fun b o e n hb hx=>?_,I1.base.free,fun b o e hx=>?_,I1.base.tups,I1.base.frzs,I1.base.tbls,fun b o xs q e hb hx=>(hs.2 b (bv (cz (aS e) I1.ok.above))).trans (I1.base.stay b o xs q e hb hx)⟩,⟨_,uY,fun j y v' e1 e2 e3=>?_⟩,fun y c e=>?_,I1.free,I1.freeC,fun p hp=>?_,fun b ob e=>?_,by simpa using I.len⟩
 .exact (hs.2 b (bv (cz (aS e) I1.ok.above))).trans (I1.base.keep b o e n hb hx)
 .obtain⟨sl,e1⟩:=I1.base.slot b o e n hb hx
  exact⟨sl,(hs.2 b (bv (cz (aS e) I1.ok.above))).trans e1⟩
 .obtain⟨o',e1⟩:=I1.base.there b o e hx
  exact⟨o',(hs.2 b (bv (cz (aS e) I1.ok.above))).trans e1⟩
 .by_cases hj:j=i
  .subst hj
   rw[E1 vh]at e2
   cases e2
  .rw[E2 (bB hj)]at e2
   have lM:(σ.set i (some V.non))[j]?=some (some v'):=by rw[E2 (bB hj)];exact e2
   obtain⟨u',r',q⟩:=hl j y v' e1 lM e3
   refine⟨u',r',?_⟩
   rcases q with⟨k,e⟩ | ⟨k,c,e,z⟩
   .refine .inl ⟨k,?_⟩
    have:y≠x:=fun e=>hj (KM hN e1 (e ▸ hi))
    simp[this,e]
   .exact .inr ⟨k,c,e,z.sameBut hs (cne y c e)⟩
 .obtain⟨w',z⟩:=I1.cell y c e
  exact⟨w',z.sameBut hs (cne y c e)⟩
 .obtain⟨e,n,ne,nf,d⟩:=I1.pin p hp
  exact⟨(hs.2 p.1 ne).trans e,n,ne,nf,d⟩
 .refine (I1.hok b ob e).stay (fun c w' hc q=>(hs.2 c ?_).trans q) (fun _ q=>q) fun _ _ q=>q
  rintro rfl
  rcases hc with rfl | hc
  .rw[I1.free]at e;cases e
  .rw[I1.free]at hc;cases hc
end
theorem jfc{CX:CXT}{k:Nat}{dB:List V}{ds:List ac}{σ:St}{Q:VK}{us:List ac}{vs:List V}(F:FnOk X.prog X.w X.K X.mg X.base CX k f fd ps sp)(hr:Room k X.A)(hb:Binds X.K fd ps ds)(hd:Vals dB ds)
  (I:Inv X ah σ H s) (r:Vals vs us) (h:sp (vs++dB) H Q E):aw (aA X.prog X.w) X.A (call (.ref f) us) (EP X ah σ Q) (fun e s'=>CX X.stack H s E e s') s:=by
 have r2:Vals (vs++dB) (us++ds):=r.append hd
 have hl:(us++ds).length=ps.length:=by rw[<- r2.length];exact F.len _ _ _ _ h
 refine Eh (sO (F.run X.A X.stack s H ⟨us,[]⟩ (us++ds) (vs++dB) Q E hr I.env0 (hb s us I.kIn hl) r2 h) fun r s' hq=>?_)
 cases r with
 | error e=>exact hq
 | ok fl=>
  cases fl with
  | ret u=>exact I.after hq
  | next=>exact fw hq
  | brk=>exact fw hq
  | cont=>exact fw hq
def Ends.gone(D:Ends)(i:Nat):Ends:={ nx:=fun σ H=>D.nx (σ.set i none) H,rt:=D.rt,bk:=fun σ H=>D.bk (σ.set i none) H,ct:=fun σ H=>D.ct (σ.set i none) H }
def jdC(sp:Sp)(C:aa)(iy i:Nat)(t:TA)(ts:TS):TS:=fun D σ H=>t σ H fun vs H1=>sp (vs++[]) H1 (fun v H2=>D.nx (σ.set iy (some v)) H2) fun cls _ H2=>cls=.ref C/\∀e,H2 e=none->ts (D.gone i) (σ.set i (some (.ref e))) (upd H2 e (JZ (.ref C) e))
theorem jdT{k k':Nat}{c y n:Str}{C:aa}{e:ay}{es:List ay}{t:TA}{ts:TS}{iy i:Nat}{p cp np yp ap hp pos:Pos}{b0:aJ}{tU:List aJ}
  (F:FnX X.prog X.w X.K X.mg X.base k x ps sp) (df:X.stack=X.env :: X.outer) (hfr:X.env.frame=some X.env.locals) (hr:Room k' X.A) (ha:PA X.nox (e :: es) t) (hs:∀e,PSs (X.hush e) (b0 :: tU) ts)
  (hN:X.N.Nodup) (CS:X.N[iy]?=some y) (hy:Loc X.env.scope y) (hi:X.N[i]?=some n) (hn:X.env.scope.names.lookup n=some .local)
  (C1:Gl X c) (CA:X.mg c=some (.ref C)) (hx:pU X.K C valB "ValueError.__new__" = true)
  (hk:k<=k':=by decide) (hg:Gl X x:=by rfl) (hf:X.fn y=true\/X.env.scope.names.lookup y=some .local:=by first | exact .inl rfl | exact .inr rfl | assumption)
  (hd:(x == ("__debug__" : Str))=false:=by decide) (C7:(c == ("__debug__" : Str))=false:=by decide) (fJ:(e :: es).all qb=true:=by rfl) (uL:pO (.Call (.Name x p) (e :: es) [] cp) (some (.Name y yp)) ap.line X.env=pure false:=by rfl) :
  PS X (.Try [.Assign [.Name y yp] (.Call (.Name x p) (e :: es) [] cp) ap] [.ExceptHandler (some (.Name c np)) (some n) (b0 :: tU) hp] [] [] pos) (jdC sp C iy i t ts):=by
 obtain⟨f,fd,G,b,kp,m⟩:=F.ex
 rw[md,cO]at fJ
 have he:=qo fJ.1 es X.env
 have cC:=zL cp X.env es fJ.2
 intro ah s σ H D I h
 refine wpAny_Try_except (LF ?_)
 refine TM (sJ (yL I hg m ?_ hd)) uL
 refine W.callWith_K (h₀:=X.base) I.ok.mod.kin kp (cY (ha cp ah s σ H _ (I.wish _) h) (fun us s1 ⟨vs,H1,I1,r,q⟩=>⟨I1.unwish.kIn,?_⟩) fun _ _ z=>z.elim) he cC
 replace I1:=I1.unwish
 refine cY (jfc G (hr.mono hk) b .nil I1 r q) (fun u s2 ⟨v,H2,I2,rv,q2⟩=>?_) fun ev s2 gM=>?_
 .refine q8 I2 hN CS hy rv (fun s3 I3=>?_) hf
  exact v8 (v8 ⟨_,H2,I3,q2⟩)
 .obtain⟨ea,cls,H',rfl,os,bare,un,hok,Dv,rfl,hE⟩:=gM
  have I2:Inv X ah σ H' s2:=I1.call' os un hok bare (fun b z=>absurd z (by simp))
  have stk:=I2.stkFree
  rw[df]at stk un
  have hbs:∀b o,X.base.get? b=some o->b ∉ frs (X.env :: X.outer)/\∃u,s1.heap.get? b=some u:=fun b o hb=>by
   refine⟨fun hm=>?_,⟨o,I1.bk b o hb⟩⟩;have hs:=I1.stack;rw[df]at hs;have:∀{l:List Env},s1.heap.FunFrames X.base l->b∈frs l->False:=by
    intro l;induction l with
    | nil=>intro _ h;cases h
    | cons env l ih=>
     intro hf hm;obtain⟨_,⟨L,o',e1,e2,_,_⟩,hr⟩:=hf;unfold frs at hm;rw[dG,e1]at hm;rcases aM.mp hm with rfl | hm
     .rw[e2]at hb;cases hb
     .exact ih hr hm
   exact this hs hm
  have hH:∀{h2:aB},Un (frs (X.env :: X.outer)) [] H1 H' s1.heap h2->HOk X.prog X.w H' h2->∀b,h2.get? b=none->H' b=none/\s1.heap.get? b=none:=fun {h2} u k b hb=>by
   refine⟨?_,?_⟩
   .rcases hh:H' b with _ | o
    .rfl
    .obtain⟨u,hu⟩:=(k b o hh).ex
     rw[hu]at hb;cases hb
   .rcases hh:s1.heap.get? b with _ | o
    .rfl
    .obtain⟨o',h5⟩:=u.there b o hh (by simp)
     rw[h5]at hb;cases hb
  have Iz:=I2.stack
  rw[df]at Iz
  refine jcW (by rw[I2.ok.frames,df]) Iz hfr Dv stk (hH un hok) (fun h3 l3 IB Sa=>?_) hbs
  have A9:=un.left (P:=X.prog) (w:=X.w) l3
  have Cm:=hok.left stk l3
  have I3:Inv X ah σ H' { s2 with heap:=h3 }:=I1.call' os (by rw[df];exact A9) Cm bare (fun b z=>absurd z (by simp))
  refine wpAny_handleBy_cons (codeAny_handlers_test (yL (I3.hush ea) C1 CA ?_ C7)) (by intro q;cases q)
  obtain⟨bm,N,nm,qn,bs,hdct,sn,sub,ab,col,dd,k0,k1,k2,k3,k5,mN,o1,o2,o3,o4⟩:=JA I3.mod.kin hx
  have iK:bm.contains (.type "BaseException")=true:=Vh o4 AK.hasBase
  obtain⟨oe,ves,T,oT,tts,a0,t1,t2,t3,_⟩:=IB.tr
  refine wpAny_excMatches_sub_self (I3.bk _ _ o1) t1 t2 iK (codeAny_handlers_suite_as ?_)
  refine jbp Sa IB stk (hH A9 Cm) (fun h4 l4 vG fs4=>?_) hbs
  have Nr:=(A9.left (P:=X.prog) (w:=X.w) l4).track (o:=JZ (.ref C) ea) vG.he vG.ne
  have P3:=(Cm.left stk l4).track vG.he (jfD vG)
  have I4:Inv X ah σ (upd H' ea (JZ (.ref C) ea)) { s2 with heap:=h4 }:=I1.call' os (by rw[df];exact Nr) P3 bare (fun b z=>absurd z (by simp))
  refine q8 (v:=.ref ea) I4 hN hi (.inl hn) rfl (fun s5 I5=>?_) (.inr hn)
  refine cY (hs ea ah s5 _ _ (D.gone i) (I5.hush ea) (hE ea vG.he)) (fun fl s6 h6=>?_) fun _ _ z=>z.elim
  cases fl with
  | next=>
   obtain⟨σ',H6,I6,q6⟩:=h6
   exact Ki (v:=.non) (I6.unhush I5.ok) hN hi hn fun s7 I7=>⟨_,H6,I7,q6⟩
  | brk=>
   obtain⟨σ',H6,I6,q6⟩:=h6
   exact Ki (v:=.non) (I6.unhush I5.ok) hN hi hn fun s7 I7=>⟨_,H6,I7,q6⟩
  | cont=>
   obtain⟨σ',H6,I6,q6⟩:=h6
   exact Ki (v:=.non) (I6.unhush I5.ok) hN hi hn fun s7 I7=>⟨_,H6,I7,q6⟩
  | ret u=>
   obtain⟨v,σ',H6,I6,r6,q6⟩:=h6
   exact Ki (v:=.non) (I6.unhush I5.ok) hN hi hn fun s7 I7=>⟨v,_,H6,I7,r6,q6⟩
end L2
namespace PySem.W
open PySem PySem.Spec PySem.Calls PyProof.Rows Builtin Builtin.ObjectAttr Builtin.Getset_descriptor
section
variable {prog:aF}{w:aE}{A:aR}{E:ac->av->Prop}{h:aB}{g:Array AG}{d:Drawn}{t:Nat}{os:OsState}{a C:aa}{o:Obj}{K:Frag}
theorem jfL{M:ot}(hx:h.get? a=some o)(hc:o.cls=.ref C):Looks M h (typeOf (.ref a)) (.ref C):=hc ▸ (Looks.ld hx).andThen .now
structure XCls(K:Frag)(C:aa):Prop where
 cl:(clsIn K C).isSome=true
 ga:findIn K (.ref C) "__getattribute__" = some (some (.builtin "BaseException.__getattribute__"))
 gt:findIn K (.ref C) "__getattr__" = some none
 cc:findIn K (.ref C) "__class__" = some (some (.builtin "object.__class__"))
 ob:mroIn K C (.type "object")=some true
 be:mroIn K C (.type "BaseException")=some true
theorem jfW{R:l7->av->Prop}(Z:XCls K C)(X:K.In h)(hx:h.get? a=some o)(hc:o.cls=.ref C)(hq:R (.ok (.ret (.ref C))) ⟨h,g,d,t,os⟩):
  eU (aA prog w) A (.call (.builtin "getset_descriptor.__get__") ⟨[.builtin "object.__class__",.ref a,.ref C],[]⟩) R ⟨h,g,d,t,os⟩:=by
 have L0:=jfL (M:=aA prog w) hx hc
 have L1:=looks_mroIn (M:=aA prog w) X Z.ob
 refine Ep KF.slot_gs.plain KF.entry_gs (KF.slot_gs.check _ _ _ _ _ _ _ _ Mo (KF.args_gs _ _ _) ?_)
 unfold Builtin.«getset_descriptor.__get__» descrGet
 rw[dga_obj]
 refine am (az ?_)
 unfold descrGetter descrCheckInstance descrNameAndClass isInstance
 simp only[KF.owner_class]
 repeat lk
 refine⟨VE _ (by decide +kernel),lX KF.entry_class ?_⟩
 unfold Builtin.«object.__class__» shownTypeOf
 repeat lk
 exact hq
theorem jdl{tk:Tok}{Q:Fin->av->Prop}(Z:XCls K C)(X:K.In h)(hx:h.get? a=some o)(hc:o.cls=.ref C)(hq:Q (.done (.ret (.ref C))) ⟨h,g,d,t,os⟩):
  aw (aA prog w) A (Builtin.«object.__getattribute__» ⟨[.ref a,.str "__class__" tk],[]⟩) Q E ⟨h,g,d,t,os⟩:=by
 have hT5:(⟨h,g,d,t,os⟩:av).TypeIs (.builtin "object.__class__") "getset_descriptor":=Mo
 have f5:=Mo
 have f6:=F.slot_gs_get.lookup
 have f7:=F.slot_gs_set.lookup
 have L:=looks_findIn (M:=aA prog w) X Z.cc
 repeat (any_goals (first | assumption | (with_reducible refine Ly hx ?_;rw[hc]) | with_reducible refine L.at ?_ | wp_step))
 refine jfW Z X hx hc ?_
 repeat (any_goals (first | assumption | wp_step))
theorem jdm{M:ot}{F5:ac}{Q:Unit->av->Prop}(Z:XCls K C)(X:K.In h)(hx:h.get? a=some o)(hc:o.cls=.ref C)(hq:Q () ⟨h,g,d,t,os⟩):aw M A (L9 "BaseException.__getattribute__" ⟨[.ref a,F5],[]⟩) Q E ⟨h,g,d,t,os⟩:=by
 have hk:builtinKind "BaseException.__getattribute__" = some .slot:=by decide +kernel
 have PP:splitId "BaseException.__getattribute__" = some ("BaseException","__getattribute__"):=by decide +kernel
 have L:=looks_mroIn (M:=M) X Z.be;have ha:=F.args_bexc_ga (.ref a) F5;simp only[L9,hk,PP];refine am ?_
 .unfold isInstance
  repeat (first | (with_reducible refine Ly hx ?_;rw[hc]) | with_reducible refine L.at ?_ | wp_step)
  exact hq
theorem je4{tk:Tok}{R:l7->av->Prop}(Z:XCls K C)(X:K.In h)(hx:h.get? a=some o)(hc:o.cls=.ref C)(hq:R (.ok (.ret (.ref C))) ⟨h,g,d,t,os⟩):
  eU (aA prog w) A (.call (.builtin "BaseException.__getattribute__") ⟨[.ref a,.str "__class__" tk],[]⟩) R ⟨h,g,d,t,os⟩:=
 Ep Vz.ga.plain F.entry_bexc_ga (jdm Z X hx hc (jdl Z X hx hc hq))
theorem jgJ{tk:Tok}{fill vJ:Bool}{Q:ac->av->Prop}(Z:XCls K C)(X:K.In h)(hx:h.get? a=some o)(hc:o.cls=.ref C)(hq:Q (.ref C) ⟨h,g,d,t,os⟩):
  aw (aA prog w) A (getAttrBy (.ref a) (.str "__class__" tk) fill vJ) Q E ⟨h,g,d,t,os⟩:=by
 have f3:=Vz.ga.bind (.ref a)
 have hx0:(vJ && onTheHeap (Value.builtin "BaseException.__getattribute__"))=false:=by cases vJ <;> rfl
 have gM:(Value.builtin "BaseException.__getattribute__" == Value.builtin "object.__getattribute__")=false:=by decide +kernel
 have hx1:(onTheHeap (Value.ref C) && Value.builtin "BaseException.__getattribute__" == Value.builtin "object.__getattribute__")=false:=by rw[gM];rfl
 have L1:=looks_findIn (M:=aA prog w) X Z.ga
 have L2:=looks_findIn (M:=aA prog w) X Z.gt
 repeat (any_goals (first | assumption | (with_reducible refine Ly hx ?_;rw[hc]) | with_reducible refine L1.at ?_ | with_reducible refine L2.at ?_ | wp_step))
 refine je4 Z X hx hc ?_
 repeat (any_goals (first | assumption | wp_step))
theorem je5{s:av}{Q:Option ac->av->Prop}(Z:XCls K C)(X:K.In s.heap)(hx:s.heap.get? a=some o)(hc:o.cls=.ref C)(hq:Q (some (.ref C)) { s with toks:=s.toks+1 }):
  aw (aA prog w) A (En (.ref a) "__class__") Q E s:=by
 obtain⟨hh,g,d,t,os⟩:=s
 unfold En getAttrBy?
 refine am (Lx (am (mU (jgJ Z X hx hc ?_))))
 exact az hq
theorem kitx_exc(Z:XCls K C):KitX K (.ref a) (.ref C) (fun h=>∃o,h.get? a=some o/\o.cls=.ref C) where
 ty:=fun _ _ _ ⟨o,hx,hc⟩=>jfL hx hc
 it:=fun _ _ X _=>by
  have mO:=Z.cl;unfold clsIn at mO;split at mO
  .rename_i c' d' Sz mm ho
   intro A' Q' E' s' k q;unfold isType loadHead;exact am (wpAny_loadPart (k _ _ (X _ _ ho)) (az q))
  .cases mO
 ne:=fun h tp dd its n sl X xB=>by
  have mO:=Z.cl;refine Bool.eq_false_iff.mpr fun q=>?_
  have e:C=tp:=Value.ref.inj (beq_iff_eq.mp q);subst e;unfold clsIn at mO;split at mO
  .rename_i c' d' Sz mm ho
   have z:=(X _ _ ho).symm.trans xB
   cases z
  .cases mO
 ca:=fun X ⟨o,hx,hc⟩ k=>je5 Z X hx hc k
end
end PySem.W
namespace L2
open PySem PySem.Spec PyProof.Rows
variable {X:Cx}{C:aa}
theorem jdk{ah:List (aa×Obj)}{σ:St}{H:Hp}{s:av}{A:aR}{E:ac->av->Prop}{Q:ac->av->Prop}{c:ac}{b:Bool}{a:aa}(I:Inv X ah σ H s)(ha:H a=some (JZ (.ref C) a))(Z:PySem.W.XCls X.K C)(e:iU X.K (.ref C) c=some b)(h:∀tk,Q (.bool b) { s with toks:=tk }):
  aw (aA X.prog X.w) A (call (.builtin "isinstance") [.ref a,c]) Q E s:=by
 obtain⟨⟨oe,vs,t1,t2,t3⟩,_⟩:=(show ObjOk X.prog X.w H s.heap a (JZ (.ref C) a) from I.hok a _ ha)
 exact W.kia_one (W.kitx_exc Z) I.kIn ⟨oe,t1,t2⟩ e (fun z=>nomatch z) h
abbrev TJ:=St->Hp->Str->(Str->Hp->Prop)->Prop
structure QJ(X:Cx)(es:List ay)(t:TJ):Prop where
 h:∀(ah:List (aa×Obj)) (s:av) (σ:St) (H:Hp) (out:Str) (Q:Str->Hp->Prop),Inv X ah σ H s->t σ H out Q->Joins (aA X.prog X.w) X.A X.xe (evalEach es X.env) out (fun o s'=>∃H',Inv X ah σ H' s'/\Q o H') s
def jhP:TJ:=fun _ H out Q=>Q out H
def jhk(te:TE)(t:TJ):TJ:=fun σ H out Q=>te σ H fun x H1=>∃y,x=.str y/\(out++y).length<=aP/\t σ H1 (out++y) Q
variable {e:ay}{es:List ay}{te:TE}{pos:Pos}
section
theorem jdR:QJ X [] jhP:=⟨fun ah s σ H out Q I h=>Joins_nil ⟨H,I,h⟩⟩
theorem zY{t:TJ}(he:QE X e te)(ht:QJ X es t):QJ X (e :: es) (jhk te t):=⟨fun ah s σ H out Q I h=>by
 refine Joins_cons (thn (he.h ah s σ H _ I h) fun v s1 hM=>?_);obtain⟨x,H1,I1,r,y,e1,hl,q⟩:=hM;subst e1;obtain⟨tk,rfl⟩:=r;exact⟨y,tk,rfl,hl,ht.h ah s1 σ H1 _ Q I1 q⟩⟩
def jhC(te:TE):TE:=fun σ H Q=>te σ H fun x H1=>∃y,x=.str y/\y.length<=aP/\Q (.str y) H1
theorem Y7(he:QE X e te):QE X (.FormattedValue e (-1) none pos) (jhC te):=⟨fun ah s σ H Q I h=>by
 refine TL (thn (he.h ah s σ H _ I h) fun v s1 hM=>?_);obtain⟨x,H1,I1,r,y,e1,hl,q⟩:=hM;subst e1;obtain⟨tk,rfl⟩:=r;exact wpAny_formatField_str ⟨.str y,H1,I1,⟨_,rfl⟩,q⟩ ⟨.str y,H1,I1.tok _,⟨_,rfl⟩,q⟩ hl⟩
def jgT(te:TE):TE:=fun σ H Q=>te σ H fun x H1=>∃i:Int,x=.int i/\i.natAbs < 2 ^ 100/\Q (.str (bu (Av i))) H1
theorem jdg(he:QE X e te):QE X (.FormattedValue e (-1) none pos) (jgT te):=⟨fun ah s σ H Q I h=>by
 refine TL (thn (he.h ah s σ H _ I h) fun v s1 hM=>?_);obtain⟨x,H1,I1,r,i,e1,hl,q⟩:=hM;subst e1;obtain⟨tk,rfl⟩:=r;refine wpAny_formatField_int ?_ ⟨.str _,H1,I1.tok _,⟨_,rfl⟩,q⟩;by_cases h0:i.natAbs=0
 .rw[h0];decide
 .exact cz ((Nat.log2_lt h0).mpr hl) (by decide)⟩
def jgS(t:TJ):TE:=fun σ H Q=>t σ H sS fun o H1=>o.length<=aP/\Q (.str o) H1
theorem ZW{v1 v2:ay}{qP:List ay}{t:TJ}(h:QJ X (v1 :: v2 :: qP) t):QE X (.JoinedStr (v1 :: v2 :: qP) pos) (jgS t):=⟨fun ah s σ H Q I hw=>by
 refine wpAny_JoinedStr ?_;have hh:=h.h ah s σ H sS _ I hw;have mono:∀(l:List ay) (bp:Str) (s:av) (Q Q':Str->av->Prop),(∀o s,Q o s->Q' o s)->Joins (aA X.prog X.w) X.A X.xe (evalEach l X.env) bp Q s->Joins (aA X.prog X.w) X.A X.xe (evalEach l X.env) bp Q' s:=by
  intro l;induction l with
  | nil=>intro bp s Q Q' hq h;exact hq _ _ h
  | cons e r ih=>
   intro bp s Q Q' hq h;refine Joins_cons (thn (show aw _ _ (eval e X.env) _ _ _ from h) fun v s1 ⟨y,tk,e1,hl,q⟩=>⟨y,tk,e1,hl,ih _ _ _ _ hq q⟩)
 refine mono _ _ _ _ _ (fun o s' ⟨H',I',hl,q⟩=>⟨hl,.str o,H',I'.tok _,⟨_,rfl⟩,q⟩) hh⟩
end
variable {E:XK}
theorem XW.own(W:XW X E):Ez (aA X.prog X.w) X.A X.env X.xe:=by
 rw[W.xe];exact Ez.leaving
variable {k':Nat}{x:Str}{ps:List Str}{sp:Sp}
theorem zE{k:Nat}{t:TA}{p pos:Pos}(F:FnX X.prog X.w X.K X.mg X.base k x ps sp)(W:XW X E)(hr:Room k' X.A)(ha:QA X (e :: es) t)(hk:k<=k':=by first | decide | omega)(hg:Gl X x:=by rfl)
  (hd:(x == ("__debug__" : Str))=false:=by decide) (hp:(e :: es).all qb=true:=by rfl):QE X (.Call (.Name x p) (e :: es) [] pos) (Z7 sp [] E t):=⟨by
 obtain⟨f,fd,G,b,kp,m⟩:=F.ex
 rw[md,cO]at hp
 exact jbR G (hr.mono hk) hg m kp b .nil W.passes ha.h hd (qo hp.1 es X.env) (zL pos X.env es hp.2)⟩
theorem jcj{np cX:Pos}{t:TA}(W:XW X E)(hc:X.calm=true)(hg:Gl X x)(hm:X.mg x=some (.ref C))(hx:PySem.W.excIn X.K C valB "ValueError.__new__" = true)(ha:QA X (e :: es) t)(hd:(x == ("__debug__" : Str))=false:=by decide)(hp:(e :: es).all qb=true:=by rfl):
  QS X (.Raise (some (.Call (.Name x np) (e :: es) [] cX)) none pos) (jf0 C E t):=⟨by
 intro ah s σ H D I h
 rw[md,cO]at hp
 have he:=qo hp.1 es X.env
 have cC:=zL cX X.env es hp.2
 obtain⟨bm,N,nm,q,bs,hdct,sn,sub,ab,col,dd,k0,k1,k2,k3,k5,mN,o1,o2,o3,o4⟩:=JA I.mod.kin hx
 have iK:bm.contains (.type "BaseException")=true:=Vh o4 AK.hasBase
 refine wpAny_Raise_call_subU (nm:=nm) (q:=q) (C:=C) (N:=N) (bs:=bs) (bm:=bm) (bmB:=valB) (hdct:=hdct) (sn:=sn) (sub:=sub) (ab:=ab) (col:=col) (dd:=dd) (k0:=k0) (k1:=k1) (k2:=k2) (k3:=k3) (k5:=k5) (mN:=mN) AK (show valB.contains (.type "ValueError")=true from AK.hasB) AK iK (I.ok.hd hc) ?_ o3 (yL I hg hm ⟨rfl,?_⟩ hd)
 .rw[he];exact cC
 .have nT:=ha.h cX ah s σ H _ I h
  rw[he]at nT |-
  refine MF (thn nT fun us s2 hM=>?_)
  obtain⟨vs,H2,I2,r,hlen,hE⟩:=hM
  refine⟨rfl,?_,I2.bk _ _ o1,o2.keeps I2.bk,Yk I2.bk o4,fun h' ea me=>?_⟩
  .show us.length<=aP
   rw[<- r.length]
   exact cu (jz hlen)
  .obtain⟨tt,m1,m2,m3⟩:=me.there
   obtain⟨n1,n2⟩:=W.hH I2 ea me.new
   have I3:Inv X ah σ H2 { s2 with heap:=h' }:=I2.kept (t':=s2.toks) me.keeps
   exact W.first I3 (cls:=.ref C) n1 n2 m1 rfl rfl rfl rfl hE⟩
theorem jci{k:Nat}{c y n:Str}{t:TA}{ts:TS}{iy i:Nat}{p cp np yp ap hp pos:Pos}{b0:aJ}{tU:List aJ}
  (F:FnX X.prog X.w X.K X.mg X.base k x ps sp) (df:X.stack=X.env :: X.outer) (hfr:X.env.frame=some X.env.locals) (hr:Room k' X.A) (ha:QA X.nox (e :: es) t) (hs:∀e,QSs (X.hush e) (b0 :: tU) ts)
  (hN:X.N.Nodup) (CS:X.N[iy]?=some y) (hy:Loc X.env.scope y) (hi:X.N[i]?=some n) (hn:X.env.scope.names.lookup n=some .local)
  (C1:Gl X c) (CA:X.mg c=some (.ref C)) (hx:pU X.K C valB "ValueError.__new__" = true)
  (hk:k<=k':=by decide) (hg:Gl X x:=by rfl) (hf:X.fn y=true\/X.env.scope.names.lookup y=some .local:=by first | exact .inl rfl | exact .inr rfl | assumption)
  (hd:(x == ("__debug__" : Str))=false:=by decide) (C7:(c == ("__debug__" : Str))=false:=by decide) (fJ:(e :: es).all qb=true:=by rfl) (uL:pO (.Call (.Name x p) (e :: es) [] cp) (some (.Name y yp)) ap.line X.env=pure false:=by rfl) :
  QS X (.Try [.Assign [.Name y yp] (.Call (.Name x p) (e :: es) [] cp) ap] [.ExceptHandler (some (.Name c np)) (some n) (b0 :: tU) hp] [] [] pos) (jdC sp C iy i t ts):=
 ⟨jdT F df hfr hr ha.h (fun e=>(hs e).h) hN CS hy hi hn C1 CA hx hk hg hf hd C7 fJ uL⟩
theorem ZP:zg X (.builtin "isinstance") (fun xs H Q=>∃a C D b,xs=[.ref a,.ref D]/\H a=some (JZ (.ref C) a)/\PySem.W.XCls X.K C/\iU X.K (.ref C) (.ref D)=some b/\Q (.bl b) H):=by
 intro ah s σ H xs us Q I r h;obtain⟨a,C,D,b,rfl,ha,Z,e,q⟩:=h;obtain⟨u,v,rfl,ru,rv⟩:=jbI r
 cases ru
 cases rv
 exact jdk I ha Z e fun tk=>⟨.bl b,H,I.tok _,rfl,q⟩
variable {p:Pos}
theorem jO{k:Nat}{t:TA}(h1:Fn X.prog X.w X.K X.mg X.base k x ps sp)(h2:Room k' X.A)(h3:QA X (e :: es) t)(h4:k<=k':=by omega)(h5:Gl X x:=by rfl)(h6:(x == bu "__debug__")=false:=by decide)(h7:List.all (e :: es) qb=true:=by rfl):QE X (Expr.Call (Expr.Name x p) (e :: es) [] pos) (Z7 sp [] E0 t):=
 ⟨@jfO _ _ _ _ _ _ _ _ _ _ _ h1 h2 h3.h h4 h5 h6 h7⟩
theorem je1{k:Nat}{t:TA}(F:MkFn X.prog X.w X.K X.mg X.base k x C ps sp)(hr:Room k' X.A)(ha:QA X (e :: es) t)(hk:k+1<=k':=by omega)(hg:Gl X x:=by rfl)(hd:(x == bu "__debug__")=false:=by decide)(hp:List.all (e :: es) qb=true:=by rfl):QE X (Expr.Call (Expr.Name x p) (e :: es) [] pos) (jfM C sp [] E0 t):=⟨by
 obtain⟨f,fd,M,G,b,m⟩:=F.ex;rw[md,cO]at hp;exact jff M G (hr.mono hk) hg m b .nil jfP ha.h hd (qo hp.1 es X.env) (zL pos X.env es hp.2)⟩
open PySem PySem.Spec PyProof.Rows PySem.W
abbrev kF(P:aF)(w:aE)(v:aa)(σ:List Str):HO:=.ext fun h=>SetAtS P w h v (ledOf w) σ
variable {P:aF}{w:aE}{K:aC}
theorem yE(hc:X.calm=true)(h1:X.prog=P:=by rfl)(h2:X.w=w:=by rfl)(h3:X.K=K:=by rfl):zg X (.type "set") (fun xs H Q=>∃(p:aa) (ns:List Str),xs=[.ref p]/\SqL K H p (ns.map V.str)/\ns.length<=1000/\∀v,H v=none->Q (.ref v) (upd H v (kF P w v (dedupS ns)))):=by subst h1 h2 h3;exact Yo hc
theorem Kb(hc:X.calm=true)(h1:X.prog=P:=by rfl)(h2:X.w=w:=by rfl)(h3:X.K=K:=by rfl):zg X (.type "set") (fun xs H Q=>∃(p:aa) (ns:List Str),xs=[.ref p]/\SqT K H p (ns.map V.str)/\ns.length<=1000/\∀v,H v=none->Q (.ref v) (upd H v (kF P w v (dedupS ns)))):=by subst h1 h2 h3;exact Yb hc
theorem zJ(hc:X.calm=true)(h1:X.prog=P:=by rfl)(h2:X.w=w:=by rfl):zg X (.builtin "sorted") (fun xs H Q=>∃(p:aa) (τ:List Str),xs=[.ref p]/\H p=some (kF P w p τ)/\τ.length < 64/\∀(l:aa) (ns:List Str),H l=none->ns.Perm τ->sortedS ns=true->Q (.ref l) (upd H l (.lst (ns.map V.str)))):=by subst h1 h2;exact JV hc
theorem jbU(h1:X.prog=P:=by rfl)(h2:X.w=w:=by rfl):OpR X (fj .BitOr) (fun x y H Q=>∃(a b:aa) (σ1 σ2:List Str),x=.ref a/\y=.ref b/\H a=some (kF P w a σ1)/\H b=some (kF P w b σ2)/\σ1.Nodup/\σ2.Nodup/\σ1.length+σ2.length<=15/\∀v σ',H v=none->σ'.Nodup->(∀z,z∈σ'↔z∈σ1\/z∈σ2)->Q (.ref v) (upd H v (kF P w v σ'))):=by subst h1 h2;exact jgg
theorem jcn{z:Str}{j:Nat}{p1:Pos}(hc:AE X.K X.env.code=true)(h1:X.prog=P:=by rfl)(h2:X.w=w:=by rfl):QE X (.Set [.Constant (.str z) j p1] 0 pos) (fun _ H Q=>∀v,H v=none->Q (.ref v) (upd H v (kF P w v [z]))):=by subst h1 h2;exact jdf hc
theorem yS(h:X.K=K:=by rfl):OpR X (hX .NotIn) (rIn K true):=by subst h;exact Zn
theorem Jd(h:X.K=K:=by rfl):OpR X (hX .In) (rIn K false):=by subst h;exact jcF
theorem qq(x:Str):∀ys:List Str,inV (.str x) (ys.map V.str)=decide (x∈ys)
 | []=>by simp[inV]
 | y :: ys=>by
  have ih:=qq x ys;unfold inV at ih |-;rw[ce,tD,ih];have e:eqV (.str y) (.str x)=decide (x=y):=by
   show (y == x)=_;by_cases h:x=y
   .subst h;simp
   .rw[WR h];simpa using fun z=>h z.symm
  rw[e];simp[aM]
theorem qW:∀ys:List Str,(ys.map V.str).all Jz=true
 | []=>rfl
 | y :: ys=>by rw[ce,md,qW ys];rfl
theorem lt_trans{a b c:List Nat}(h1:ltCps a b=true)(h2:ltCps b c=true):ltCps a c=true:=by
 induction a generalizing b c with
 | nil=>cases c with
  | nil=>cases b <;> simp[ltCps]at h1 h2
  | cons _ _=>rfl
 | cons x a ih=>
  cases b with
  | nil=>simp[ltCps]at h1
  | cons y b=>cases c with
   | nil=>simp[ltCps]at h2
   | cons z c=>
    simp only[ltCps,ww,cO,decide_eq_true_eq,beq_iff_eq]at h1 h2 |-;rcases h1 with h1 | ⟨h1,gr⟩
    .rcases h2 with h2 | ⟨h2,sg⟩
     .left;omega
     .left;omega
    .rcases h2 with h2 | ⟨h2,sg⟩
     .left;omega
     .right;exact⟨by omega,ih gr sg⟩
abbrev ltT(a b:Str):Prop:=ltCps a.cps.toList b.cps.toList=true
theorem jew(a:List Nat):ltCps a a=false:=by
 induction a with
 | nil=>rfl
 | cons x a ih=>simp only[ltCps,iX,decide_false,WK,ih,Na]
theorem jbl:∀{a b:List Nat},ltCps a b=false->a≠b->ltCps b a=true
 | [],[],_,h=>absurd rfl h
 | [],_ :: _,h,_=>by simp[ltCps]at h
 | _ :: _,[],_,_=>rfl
 | x :: a,y :: b,h,bM=>by
  simp only[ltCps,Bool.or_eq_false_iff,Bool.and_eq_false_iff,decide_eq_false_iff_not]at h;simp only[ltCps,ww,cO,decide_eq_true_eq,beq_iff_eq];by_cases e:x=y
  .subst e
   right;refine⟨rfl,jbl ?_ fun z=>bM (by rw[z])⟩;rcases h.2 with g | g
   .exact absurd g (by simp)
   .exact g
  .left;omega
theorem jbL{a b:Str}(h:a.cps.toList=b.cps.toList):a=b:=by
 cases a;cases b
 congr 1;exact Array.ext' h
theorem YD:∀(p:Str) (l:List Str),risingS p l=true->(p :: l).Nodup->(p :: l).Pairwise ltT
 | p,[],_,_=>by simp
 | p,x :: r,h,nd=>by
  have h':(!ltCps x.cps.toList p.cps.toList && risingS x r)=true:=h;rw[cO]at h';obtain⟨n1,n2⟩:=p7.mp nd;have ih:=YD x r h'.2 n2;have o8:ltT p x:=jbl (by simpa using h'.1) fun z=>n1 (by rw[<- jbL z];exact bt)
  refine p6.mpr ⟨fun y hy=>?_,ih⟩;rcases aM.mp hy with rfl | hy
  .exact o8
  .exact lt_trans o8 ((p6.mp ih).1 y hy)
theorem Yz{l:List Str}(h:sortedS l=true)(nd:l.Nodup):l.Pairwise ltT:=by
 cases l with
 | nil=>exact .nil
 | cons p r=>exact YD p r h nd
theorem yK:∀{l l':List Str},l.Pairwise ltT->l'.Pairwise ltT->(∀x,x∈l↔x∈l')->l=l'
 | [],[],_,_,_=>rfl
 | [],y :: _,_,_,h=>by have:=(h y).mpr bt;cases this
 | x :: _,[],_,_,h=>by have:=(h x).mp bt;cases this
 | x :: l,y :: l',h1,h2,h=>by
  obtain⟨a1,a2⟩:=p6.mp h1;obtain⟨b1,b2⟩:=p6.mp h2;have BW:∀z:Str,¬ltT z z:=fun z hz=>by have:=jew z.cps.toList;unfold ltT at hz;rw[this]at hz;cases hz
  have e:x=y:=by
   rcases aM.mp ((h x).mp bt) with e | hx
   .exact e
   rcases aM.mp ((h y).mpr bt) with e | hy
   .exact e.symm
   .exact absurd (lt_trans (b1 x hx) (a1 y hy)) (BW y)
  subst e;congr 1;refine yK a2 b2 fun z=>⟨fun hz=>?_,fun hz=>?_⟩
  .rcases aM.mp ((h z).mp (aZ _ hz)) with rfl | g
   .exact absurd (a1 _ hz) (BW _)
   .exact g
  .rcases aM.mp ((h z).mpr (aZ _ hz)) with rfl | g
   .exact absurd (b1 _ hz) (BW _)
   .exact g
end L2
namespace LW
open PySem L2
abbrev zG:aJ:=top 5
structure Pc where
 f:Str
 ps:List Str
 rs:List Str
 nd:List Cl
 gv:List Cl
 lv:Nat
 bd:List (StN lv)
def Pc.toD(p:Pc):D:=.tup [.str "proc",.str p.f,.tup (p.ps.map D.str),.tup (p.rs.map D.str),.tup (p.nd.map Cl.toD),.tup (p.gv.map Cl.toD),.tup (p.bd.map (stD p.lv))]
def Pc.named(p:Pc):List Str:=(p.nd++p.gv).flatMap Cl.ns++(kr p.lv p.bd).flatMap Nd.ns
def zf(rs:List Str)(x:Str):Bool:=!decide (x=("" : Str)) && !decide (x∈rs)
def Pc.others(p:Pc):List Str:=p.named.filter (zf p.rs)
structure PcOk(p:Pc):Prop where
 nd:p.nd.length<=20
 gv:p.gv.length<=20
 bd:(kr p.lv p.bd).length<=100
 nm:p.named.length<=420
 few:(dedupS p.others).length+(dedupS p.ps).length<=14
 ps:p.ps.length<=100
 sm:∀N∈kr p.lv p.bd,N.few
variable {H:Hp}
theorem zy{p:Pc}{v:V}(h:Held H p.toD v):∃a ap ar an ag ab vn vg vb,v=.ref a/\H a=some (.tup [.str "proc",.str p.f,.ref ap,.ref ar,.ref an,.ref ag,.ref ab])/\H ap=some (.tup (p.ps.map V.str))/\H ar=some (.tup (p.rs.map V.str))/\H an=some (.tup vn)/\HeldL H (p.nd.map Cl.toD) vn/\H ag=some (.tup vg)/\HeldL H (p.gv.map Cl.toD) vg/\H ab=some (.tup vb)/\HeldL H (p.bd.map (stD p.lv)) vb:=by
 obtain⟨a,xs,rfl,ha,h1⟩:=jE h;obtain⟨v1,r1,rfl,e1,h2⟩:=ji h1;obtain⟨v2,r2,rfl,e2,h3⟩:=ji h2;obtain⟨v3,r3,rfl,e3,h4⟩:=ji h3;obtain⟨v4,r4,rfl,e4,h5⟩:=ji h4;obtain⟨v5,r5,rfl,e5,h6⟩:=ji h5;obtain⟨v6,r6,rfl,e6,h7⟩:=ji h6;obtain⟨v7,r7,rfl,e7,h8⟩:=ji h7
 cases jK h8
 cases jD e1
 cases jD e2
 obtain⟨ap,xp,rfl,hp,Cj⟩:=jE e3;obtain⟨ar,xr,rfl,hr,bL⟩:=jE e4;obtain⟨an,vn,rfl,hn,uY⟩:=jE e5;obtain⟨ag,vg,rfl,hg,Re⟩:=jE e6;obtain⟨ab,vb,rfl,hb,bQ⟩:=jE e7
 cases qr Cj
 cases qr bL
 exact⟨a,ap,ar,an,ag,ab,vn,vg,vb,rfl,ha,hp,hr,hn,uY,hg,Re,hb,bQ⟩
theorem Kn(l:List Cl):(l.flatMap Cl.ns).length<=3 * l.length:=by
 induction l with
 | nil=>exact cy _
 | cons c r ih=>rw[dX,aG,bR];have:=c.ns_len;omega
theorem Je:∀{l m:List Str},l.Nodup->(∀x∈l,x∈m)->l.length<=m.length
 | [],_,_,_=>cy _
 | x :: l,m,nd,h=>by
  obtain⟨n1,n2⟩:=p7.mp nd;have hx:=h x bt;have:=Je (m:=m.erase x) n2 fun y hy=>(Wq (show y≠x from fun z=>n1 (by rw[<- z];exact hy))).mpr (h y (aZ _ hy))
  rw[Wu hx]at this;have:0 < m.length:=Wt hx;rw[bR];omega
inductive spNumbersOf(n:Nat)(vs:List V)(H:Hp)(Q:VK)(E:XK):Prop
 | mk (v:V) (p:Pc) (_:vs=[v]) (_:p.lv=n) (_:Held H p.toD v) (_:PcOk p) (_:∀(l:aa) (ns:List Str) (H':Hp),Same H H'->H l=none->H' l=some (.lst (ns.map V.str))->ns.Pairwise ltT->ns.length<=15->(∀x,x∈ns↔x∈p.others\/x∈p.ps\/x = "out")->Q (.ref l) H')
variable {P:aF}{w:aE}{K:aC}{mg:Str->Option ac}{base:aB}{f:aa}{fd:aO}
section
theorem Zq{n:Nat}(F:Fun K "numbers_of" "numbers_of" zG f fd)(B:Free0 mg)(sA:Fn P w K mg base 3 "claims_numbers" ["claims"] JJ)(vW:Fn P w K mg base (n+2) "all_statements" ["body"] (spAll n))(D8:Fn P w K mg base 4 "numbers_named" ["statement"] spNamedN):FnOk P w K mg base CX0 (n+4+1) f fd ["proc"] (spNumbersOf n):=by
 have sc:FnScope ["proc","params","rows","needs","gives","body","named","statement","others"] ["proc"] (jp zG):=fQ;refine F.okC sc (fun vs H Q E h=>?_) (fun aH A outer s H vs Q E dz hr h=>?_)
 .obtain⟨v,p,rfl,_⟩:=h
  rfl
 obtain⟨v,p,rfl,rfl,hv,hp,q⟩:=h;refine⟨_,(jg (qY (j5 qL (zpv 0) (j0 jf) kL) (kn rfl (jy (jt (i:=1) sc.nd rfl oQ) (jy (jt (i:=2) sc.nd rfl oQ) (jy (jt (i:=3) sc.nd rfl oQ) (jy (jt (i:=4) sc.nd rfl oQ) (jy (jt (i:=5) sc.nd rfl oQ) j9)))))))
   (jg (ju (i:=6) sc.nd rfl oQ (jO sA hr (ja (jn qg (zpv 3) (zpv 4)) jc)))
   (jg (kg dF rfl (ql (jO vW hr (ja (zpv 5) jc))) (jt (i:=7) sc.nd rfl oQ) (jh (jW (qu eD AI AH zQ (zpv 6) (ja (jO D8 hr (ja (zpv 7) jc)) jc)))))
   (jg (zD (i:=8) sc.nd rfl oQ ["x"] [2] rfl (ku (sc:=jp zG) (N:=["proc","params","rows","needs","gives","body","named","statement","others"]) rfl rfl (by decide +kernel)) (ql (zpv 6)) (fun s H ex=>⟨(jt (i:=0) (show dk (["x","rows"]:List Str) by decide +kernel) rfl oQ),(Jj (zU (jx jfQ (zpv 0) jm (jB _)) (zt (jx (yS (K:=K)) (zpv 0) (zpv 1) rfl))).pt),(zpv 0)⟩))
   (jh (jv (kb (zJ (P:=P) (w:=w) rfl) (by rfl) B.sorted_ YY (ja (jn (jbU (P:=P) (w:=w)) (jn (jbU (P:=P) (w:=w)) (qI (yE (P:=P) (w:=w) (K:=K) rfl) (by rfl) B.set_ jbx (ja (zpv 8) jc)) (qI (Kb (P:=P) (w:=w) (K:=K) rfl) (by rfl) B.set_ jbx (ja (zpv 1) jc))) (jcn (P:=P) (w:=w) dz)) jc)))))))),?_⟩
 refine jP (σ':=[some v,none,none,none,none,none,none,none,none]) rfl ?_
 try dsimp only[j7]
 refine jay ?_;intro _ _ _ _;obtain⟨a,ap,ar,an,ag,ab,vn,vg,vb,rfl,ha,lJ,em,fc,hn,fR,hg,cV,hb⟩:=zy hv;refine⟨_,rfl,_,rfl,a,_,rfl,SqT.of ha,(fun h=>absurd h.1 (by show ¬(HT.sIx 7 0 (some 2)=0);decide)),fun t ht=>?_⟩;have s1:=je ht (.tup (kI [.str "proc",.str p.f,.ref ap,.ref ar,.ref an,.ref ag,.ref ab] (some 2) none));have e1:upd H t (.tup (kI [.str "proc",.str p.f,.ref ap,.ref ar,.ref an,.ref ag,.ref ab] (some 2) none)) t=some (.tup [.ref ap,.ref ar,.ref an,.ref ag,.ref ab]):=jd;generalize upd H t (.tup (kI [.str "proc",.str p.f,.ref ap,.ref ar,.ref an,.ref ag,.ref ab] (some 2) none))=H1 at *;refine⟨t,_,rfl,SqT.of e1,rfl,_,_,rfl,_,_,rfl,_,_,rfl,_,_,rfl,_,_,rfl,rfl,?_⟩;refine jP (σ':=[some (.ref a),some (.ref ap),some (.ref ar),some (.ref an),some (.ref ag),some (.ref ab),none,none,none]) rfl ?_;refine⟨_,rfl,_,rfl,an,ag,_,_,rfl,rfl,s1 _ _ fc,s1 _ _ fR,?_,fun t2 H2 s2 dq=>?_⟩
 .have l1:=hn.length;have l2:=hg.length
  rw[ax]at l1 l2;have:=hp.nd;have:=hp.gv;exact jY (by omega)
 have aQ:=s1.trans s2;refine⟨t2,_,p.nd++p.gv,rfl,dq,by rw[aW];exact jL (hn.mono aQ) (hg.mono aQ),by rw[aG];have:=hp.nd;have:=hp.gv;omega,fun l H3 s3 n3 e3=>?_⟩;have bG:=aQ.trans s3;refine gQ ?_;refine⟨_,rfl,ab,vb,p.bd,rfl,bG _ _ cV,hb.mono bG,by have:=hp.bd;omega,fun l2 vb H4 s4 n4 e4 hb=>?_⟩;have nX:=s4 _ _ e3;have dI:=bG.trans s4;have hl:H l=none:=aQ.free n3;have Oo:l2≠l:=fun z=>by rw[z]at n4;rw[e3]at n4;cases n4
 have cK:=hb.length;rw[ax]at cK;have hb40:=hp.bd;have hn20:=hp.nd;have hg20:=hp.gv;have HJ:=Kn (p.nd++p.gv);rw[aG]at HJ;refine⟨l2,rfl,⟨_,SqL.of e4⟩,?_⟩;refine K1 (xs:=vb) (fun i σ G=>∃u7,σ=[some (.ref a),some (.ref ap),some (.ref ar),some (.ref an),some (.ref ag),some (.ref ab),some (.ref l),u7,none]/\Same H G/\TK H4 G/\G l2=some (.lst vb)/\G l=some (.lst (((p.nd++p.gv).flatMap Cl.ns++((kr p.lv p.bd).take i).flatMap Nd.ns).map V.str))) ⟨none,rfl,dI,(fun _ _ e=>e),e4,by rw[nX];simp⟩ ?_ ?_ ?_
 .rintro i σ G _ ⟨u7,rfl,sG,wL,aY,_⟩
  exact SqL.of aY
 .rintro i x σ G hx ⟨u7,rfl,sG,wL,aY,hG⟩
  have hi:i < (kr p.lv p.bd).length:=by have:=(bN.mp hx).1;omega
  obtain⟨x',bq,cw⟩:=hb.get (show ((kr p.lv p.bd).map Nd.toD)[i]?=some (kr p.lv p.bd)[i].toD by rw[bF,aI hi];rfl);rw[hx]at bq
  cases bq
  have GQ:=hp.nm;have gS:=zj Nd.ns (kr p.lv p.bd) (i+1);have eM:(kr p.lv p.bd).take (i+1)=(kr p.lv p.bd).take i++[(kr p.lv p.bd)[i]]:=by rw[bP,aI hi];rfl
  rw[eM,oC,aG,dX,wu,cv]at gS;unfold Pc.named at GQ;rw[aG]at GQ;refine yB ?_;intro _;refine gQ ?_;refine⟨_,rfl,.inl ⟨rfl,_,SqL.of hG⟩,_,rfl,x,(kr p.lv p.bd)[i],rfl,wL.held cw,hp.sm _ (ft hi),fun l3 G2 s5 n5 e5=>?_⟩;have Im:=s5 _ _ hG;refine⟨l,l3,_,_,rfl,rfl,Im,e5,aV (by rw[ax,ax,aG];omega) (jY (aL 1000)),?_⟩;refine⟨_,rfl,fun b o e=>?_,fun b o e=>(TK.upd Im (fun _ z=>by cases z)) _ _ (s5 _ _ (wL _ _ e)),?_,?_⟩
  .rw[jw (jr e hl)];exact s5 _ _ (sG _ _ e)
  .rw[jw Oo];exact s5 _ _ aY
  .rw[jd,eM]
   simp only[oC,dX,wu,cv,aW,dH]
 rintro σ G ⟨u7,rfl,sG,wL,aY,hG⟩;have et:(kr p.lv p.bd).take vb.length=kr p.lv p.bd:=by rw[<- cK,bX]
 rw[et]at hG;have eN:(p.nd++p.gv).flatMap Cl.ns++(kr p.lv p.bd).flatMap Nd.ns=p.named:=rfl;rw[eN]at hG;have cm:p.named.length<=420:=hp.nm;refine⟨_,rfl,l,rfl,⟨_,SqL.of hG⟩,fun pp fJ=>?_⟩;have s6:=je fJ (.lst []);refine qF (xs:=p.named.map V.str) (fun i σ' G'=>∃u,σ'=[u,some (.ref ar)]/\Same G G'/\G' pp=some (.lst (((p.named.take i).filter (zf p.rs)).map V.str))) ⟨none,rfl,s6,jd⟩ ?_ ?_ ?_
 .rintro i σ' G' _ ⟨u,rfl,bC,_⟩
  exact SqL.of (bC _ _ hG)
 .rintro i x σ' G' hx ⟨u,rfl,bC,Dh⟩
  have hi:i < p.named.length:=by
   have:=(bN.mp hx).1;rw[ax]at this;exact this
  rw[bF,aI hi]at hx
  cases hx
  have gS:((p.named.take i).filter (zf p.rs)).length<=420:=by
   have:=oA (zf p.rs) (p.named.take i);rw[bK]at this;omega
  have et:(p.named.take (i+1)).filter (zf p.rs)=(p.named.take i).filter (zf p.rs)++(if zf p.rs p.named[i]=true then [p.named[i]] else []):=by
   rw[bP,aI hi,AZ];congr 1;show E4 _ [p.named[i]]=_;rw[AY];rfl
  unfold qh;have eS:∀x:Str,decide (V.str x=V.str ("" : Str))=decide (x=("" : Str)):=fun x=>by
   by_cases h:x=("" : Str)
   .rw[WQ h,WQ (WW V.str h)]
   .rw[WR h,WR (fun z=>h (by injection z))]
  refine⟨_,rfl,rfl,_,rfl,jQ (fun d1=>?_) (fun d1=>?_)⟩
  .rw[eS]at d1
   refine⟨_,rfl,_,rfl,ar,p.rs.map V.str,rfl,.inr (SqT.of (bC _ _ (sG _ _ em))),rfl,qW _,_,rfl,jQ (fun d2=>?_) (fun d2=>?_)⟩
   .have iP:(!inV (.str p.named[i]) (p.rs.map V.str))=true:=d2
    rw[qq]at iP;have ek:zf p.rs p.named[i]=true:=by unfold zf;rw[d1,iP];rfl
    refine⟨_,rfl,_,Dh,jz (by rw[ax];omega),_,rfl,fun z o e=>?_,?_⟩
    .rw[jw (jr e fJ)];exact bC _ _ e
    .rw[jd,et,WU ek,aW];rfl
   .have iP:¬(!inV (.str p.named[i]) (p.rs.map V.str))=true:=d2
    rw[qq]at iP;have ek:¬zf p.rs p.named[i]=true:=by unfold zf;rw[d1];exact iP
    exact⟨_,rfl,bC,by rw[et,WT ek,cv];exact Dh⟩
  .rw[eS]at d1
   have ek:¬zf p.rs p.named[i]=true:=fun z=>d1 (by unfold zf at z;rw[cO]at z;exact z.1)
   exact qU ⟨_,rfl,bC,by rw[et,WT ek,cv];exact Dh⟩
 rintro σ' G6 ⟨u,rfl,NE,vB⟩;rw[ax,bX]at vB;have eO:(p.named.filter (zf p.rs))=p.others:=rfl;rw[eO]at vB;have nE:p.others.length<=420:=aV (oA _ _) cm;obtain⟨d1,_,d2⟩:=zq p.others;obtain⟨d3,_,d4⟩:=zq p.ps;have lG:=hp.few;have rO:=hp.ps;have FD:Same H G6:=sG.trans NE;refine gQ ?_;refine⟨_,rfl,pp,p.others,rfl,SqL.of vB,by omega,fun v1 rL=>?_⟩;have s7:=je rL (kF P w v1 (dedupS p.others));have e7:upd G6 v1 (kF P w v1 (dedupS p.others)) v1=some (kF P w v1 (dedupS p.others)):=jd;generalize upd G6 v1 (kF P w v1 (dedupS p.others))=G7 at *;refine⟨_,rfl,ap,p.ps,rfl,SqT.of (s7 _ _ (FD _ _ lJ)),by omega,fun v2 oX=>?_⟩;have s8:=je oX (kF P w v2 (dedupS p.ps));have e8:upd G7 v2 (kF P w v2 (dedupS p.ps)) v2=some (kF P w v2 (dedupS p.ps)):=jd;generalize upd G7 v2 (kF P w v2 (dedupS p.ps))=G8 at *;refine⟨v1,v2,_,_,rfl,rfl,s8 _ _ e7,e8,d1,d3,by omega,fun v3 τ3 Po F6 m3=>?_⟩;have s9:=je Po (kF P w v3 τ3);have e9:upd G8 v3 (kF P w v3 τ3) v3=some (kF P w v3 τ3):=jd;generalize upd G8 v3 (kF P w v3 τ3)=G9 at *;intro v4 Pn;have dZ:=je Pn (kF P w v4 ["out"]);have vL:upd G9 v4 (kF P w v4 ["out"]) v4=some (kF P w v4 ["out"]):=jd;generalize upd G9 v4 (kF P w v4 ["out"])=G10 at *;have l3:τ3.length<=14:=by
  have:=Je (m:=dedupS p.others++dedupS p.ps) F6 (fun x hx=>aT.mpr ((m3 x).mp hx));rw[aG]at this;omega
 refine⟨v3,v4,_,_,rfl,rfl,dZ _ _ e9,vL,F6,by simp,by show τ3.length+1<=15;omega,fun v5 τ5 Pm n5 m5=>?_⟩;have dY:=je Pm (kF P w v5 τ5);have DD:upd G10 v5 (kF P w v5 τ5) v5=some (kF P w v5 τ5):=jd;generalize upd G10 v5 (kF P w v5 τ5)=pL at *;have l5:τ5.length<=15:=by
  have:=Je (m:=τ3++([("out" : Str)]:List Str)) n5 (fun x hx=>aT.mpr ((m5 x).mp hx));rw[aG]at this;exact aV this (by show τ3.length+1<=15;omega)
 refine⟨v5,τ5,rfl,DD,by omega,fun l9 ns lF Ch PQ=>?_⟩;have sT:Same H pL:=FD.trans (s7.trans (s8.trans (s9.trans (dZ.trans dY))));refine q l9 ns _ (sT.trans (je lF _)) (sT.free lF) jd (Yz PQ (Ch.nodup_iff.mpr n5)) (by rw[Ch.length_eq];exact l5) fun x=>?_
 rw[Ch.mem_iff,m5,m3,d2,d4,aN,or_assoc]
end
abbrev zv:aJ:=top 26
abbrev yY:aJ:=top 27
abbrev zX:aJ:=top 25
abbrev zi:aJ:=top 28
def qc(x:Str):D:=.tup [.str "set",.str x,.tup [.str "is",.str ""],.int 0]
def jG(C:Cl):D:=.tup [.str "know",C.toD]
def Pc.wayD(p:Pc)(ns:List Str):List D:=(ns.filter fun x=>!decide (x∈p.ps)).map qc++p.nd.map jG
structure NumsOf(p:Pc)(ns:List Str):Prop where
 up:ns.Pairwise ltT
 few:ns.length<=15
 mem:∀x,x∈ns↔x∈p.others\/x∈p.ps\/x = "out"
def Z9:Sp:=fun vs H Q _=>∃x:Str,vs=[.str x]/\∀u H',Same H H'->Held H' (qc x) u->Q u H'
inductive spKnown(vs:List V)(H:Hp)(Q:VK)(E:XK):Prop
 | mk (a:aa) (us:List V) (Cs:List Cl) (_:vs=[.ref a]) (_:H a=some (.tup us)) (_:HeldL H (Cs.map Cl.toD) us) (_:Cs.length<=100) (_:∀l ks H',Same H H'->H l=none->H' l=some (.lst ks)->HeldL H' (Cs.map jG) ks->Q (.ref l) H')
inductive spKnownL(vs:List V)(H:Hp)(Q:VK)(E:XK):Prop
 | mk (a:aa) (us:List V) (Cs:List Cl) (_:vs=[.ref a]) (_:H a=some (.lst us)) (_:HeldL H (Cs.map Cl.toD) us) (_:Cs.length<=100) (_:∀l ks H',Same H H'->H l=none->H' l=some (.lst ks)->HeldL H' (Cs.map jG) ks->Q (.ref l) H')
inductive spFirst(n:Nat)(vs:List V)(H:Hp)(Q:VK)(E:XK):Prop
 | mk (v:V) (p:Pc) (_:vs=[v]) (_:p.lv=n) (_:Held H p.toD v) (_:PcOk p) (_:∀(l:aa) (us:List V) (ns:List Str) (H':Hp),NumsOf p ns->Same H H'->H l=none->H' l=some (.lst us)->HeldL H' (p.wayD ns) us->Q (.ref l) H')
theorem YN{t:aa}{d e:D}{x y:V}(h:H t=some (.tup [x,y]))(h1:Held H d x)(h2:Held H e y):Held H (.tup [d,e]) (.ref t):=by
 unfold Held;exact⟨t,_,rfl,h,jb h1 (jb h2 jj)⟩
section
theorem jcJ(F:Fun K "set_to_nought" "set_to_nought" zv f fd):FnOk P w K mg base CX0 1 f fd ["x"] Z9:=by
 have sc:FnScope ["x"] ["x"] (jp zv):=fQ;refine F.okZ sc (fun aH A outer s H vs Q E hr h=>?_);obtain⟨x,rfl,q⟩:=h;refine⟨_,(jh (jv (zpd (jbc (qw Zk (qw (jbb 0) (qw (jbc (qw Zk (qw Zk Zj))) (qw jgb Zj)))))))),?_⟩
 try dsimp only[j7]
 exact⟨qc x,⟨_,rfl,cf rfl,_,_,rfl,rfl,_,_,rfl,⟨_,rfl,jl⟩,_,_,rfl,⟨_,rfl,cf rfl,_,_,rfl,rfl,_,_,rfl,rfl,rfl⟩,_,_,rfl,rfl,rfl⟩,fun v H' s h=>q v H' s h⟩
theorem jek(F:Fun K "known" "known" yY f fd):FnOk P w K mg base CX0 1 f fd ["claims"] spKnown:=by
 have sc:FnScope ["claims"] ["claims"] (jp yY):=fQ;refine F.okZ sc (fun aH A outer s H vs Q E hr h=>?_);obtain⟨a,us,Cs,rfl,ha,fT,hlen,q⟩:=h;refine⟨_,(jh (jv (kM ["claim"] [] rfl (ku (sc:=jp yY) (N:=["claims"]) rfl rfl (by decide +kernel)) (kT (zpv 0)) (fun s H ex=>⟨(jt (i:=0) (show dk (["claim"]:List Str) by decide +kernel) rfl oQ),kD,(js (ja jm (ja (zpv 0) jc)))⟩)))),?_⟩;refine jP (σ':=[some (.ref a)]) rfl ?_
 try dsimp only[j7]
 have dw:=fT.length;rw[ax]at dw;refine⟨_,rfl,a,rfl,⟨_,SqT.of ha⟩,fun l hl=>?_⟩;refine zc (xs:=us) (fun i σ' G=>∃u ks,σ'=[u]/\Same H G/\G l=some (.lst ks)/\HeldL G ((Cs.take i).map jG) ks) ⟨none,[],rfl,je hl _,jd,jj⟩ ?_ ?_ ?_
 .rintro i σ' G _ ⟨u,ks,rfl,sG,_⟩
  exact SqT.of (sG _ _ ha)
 .rintro i x σ' G hx ⟨u,ks,rfl,sG,hG,hk⟩
  have hi:i < Cs.length:=by have:=(bN.mp hx).1;omega
  obtain⟨x',bq,cw⟩:=fT.get (show (Cs.map Cl.toD)[i]?=some Cs[i].toD by rw[bF,aI hi];rfl);rw[hx]at bq
  cases bq
  have cN:=hk.length;rw[ax,bK]at cN;unfold qh yP;refine qB ?_;refine⟨_,rfl,sm rfl,fun t ht=>?_⟩;have s2:=je ht (.tup [V.str "know",x]);have e2:upd G t (.tup [V.str "know",x]) t=some (.tup [V.str "know",x]):=jd;generalize upd G t (.tup [V.str "know",x])=G2 at *;have aY:=s2 _ _ hG;have tk:TK G2 (upd G2 l (.lst (ks++[.ref t]))):=TK.upd aY (fun _ z=>by cases z);refine⟨ks,aY,jz (by omega),_,_,rfl,fun b o e=>?_,jd,?_⟩
  .rw[jw (jr e hl)];exact s2 _ _ (sG _ _ e)
  .rw[show Cs.take (i+1)=Cs.take i++[Cs[i]] by rw[bP,aI hi];rfl,aW]
   exact jL (tk.heldL (hk.mono s2)) (jb (tk.held (YN (d:=.str "know") (e:=Cs[i].toD) e2 jl (cw.mono (sG.trans s2)))) jj)
 rintro σ' G ⟨u,ks,rfl,sG,hG,hk⟩;rw[show Cs.take us.length=Cs by rw[<- dw,bX]]at hk;exact q l ks G sG hl hG hk
theorem YF(F:Fun K "known" "known" yY f fd):FnOk P w K mg base CX0 1 f fd ["claims"] spKnownL:=by
 have sc:FnScope ["claims"] ["claims"] (jp yY):=fQ;refine F.okZ sc (fun aH A outer s H vs Q E hr h=>?_);obtain⟨a,us,Cs,rfl,ha,fT,hlen,q⟩:=h;refine⟨_,(jh (jv (kM ["claim"] [] rfl (ku (sc:=jp yY) (N:=["claims"]) rfl rfl (by decide +kernel)) (ql (zpv 0)) (fun s H ex=>⟨(jt (i:=0) (show dk (["claim"]:List Str) by decide +kernel) rfl oQ),kD,(js (ja jm (ja (zpv 0) jc)))⟩)))),?_⟩;refine jP (σ':=[some (.ref a)]) rfl ?_
 try dsimp only[j7]
 have dw:=fT.length;rw[ax]at dw;refine⟨_,rfl,a,rfl,⟨_,SqL.of ha⟩,fun l hl=>?_⟩;refine qF (xs:=us) (fun i σ' G=>∃u ks,σ'=[u]/\Same H G/\G l=some (.lst ks)/\HeldL G ((Cs.take i).map jG) ks) ⟨none,[],rfl,je hl _,jd,jj⟩ ?_ ?_ ?_
 .rintro i σ' G _ ⟨u,ks,rfl,sG,_⟩
  exact SqL.of (sG _ _ ha)
 .rintro i x σ' G hx ⟨u,ks,rfl,sG,hG,hk⟩
  have hi:i < Cs.length:=by have:=(bN.mp hx).1;omega
  obtain⟨x',bq,cw⟩:=fT.get (show (Cs.map Cl.toD)[i]?=some Cs[i].toD by rw[bF,aI hi];rfl);rw[hx]at bq
  cases bq
  have cN:=hk.length;rw[ax,bK]at cN;unfold qh yP;refine qB ?_;refine⟨_,rfl,sm rfl,fun t ht=>?_⟩;have s2:=je ht (.tup [V.str "know",x]);have e2:upd G t (.tup [V.str "know",x]) t=some (.tup [V.str "know",x]):=jd;generalize upd G t (.tup [V.str "know",x])=G2 at *;have aY:=s2 _ _ hG;have tk:TK G2 (upd G2 l (.lst (ks++[.ref t]))):=TK.upd aY (fun _ z=>by cases z);refine⟨ks,aY,jz (by omega),_,_,rfl,fun b o e=>?_,jd,?_⟩
  .rw[jw (jr e hl)];exact s2 _ _ (sG _ _ e)
  .rw[show Cs.take (i+1)=Cs.take i++[Cs[i]] by rw[bP,aI hi];rfl,aW]
   exact jL (tk.heldL (hk.mono s2)) (jb (tk.held (YN (d:=.str "know") (e:=Cs[i].toD) e2 jl (cw.mono (sG.trans s2)))) jj)
 rintro σ' G ⟨u,ks,rfl,sG,hG,hk⟩;rw[show Cs.take us.length=Cs by rw[<- dw,bX]]at hk;exact q l ks G sG hl hG hk
theorem jel{n:Nat}(F:Fun K "first_way" "first_way" zX f fd)(D7:Fn P w K mg base (n+4+1) "numbers_of" ["proc"] (spNumbersOf n))(D3:Fn P w K mg base 1 "set_to_nought" ["x"] Z9)(eT:Fn P w K mg base 1 "known" ["claims"] spKnown):FnOk P w K mg base CX0 (n+5+1) f fd ["proc"] (spFirst n):=by
 have sc:FnScope ["proc","params","needs"] ["proc"] (jp zX):=fQ;refine F.okZ sc (fun aH A outer s H vs Q E hr h=>?_);obtain⟨v,p,rfl,rfl,hv,hp,q⟩:=h;refine⟨_,(jg (qY (js (ja (jk jq (zpv 0) jf (fun _ _=>rfl)) (ja (jk jq (zpv 0) jf (fun _ _=>rfl)) jc))) (kn rfl (jy (jt (i:=1) sc.nd rfl oQ) (jy (jt (i:=2) sc.nd rfl oQ) j9))))
   (jh (jv (jn kd (kM ["x"] [1] rfl (ku (sc:=jp zX) (N:=["proc","params","needs"]) rfl rfl (by decide +kernel)) (ql (jO D7 hr (ja (zpv 0) jc))) (fun s H ex=>⟨(jt (i:=0) (show dk (["x","params"]:List Str) by decide +kernel) rfl oQ),(Jj (jx (yS (K:=K)) (zpv 0) (zpv 1) rfl)),(jO D3 hr (ja (zpv 0) jc))⟩)) (jO eT hr (ja (zpv 2) jc)))))),?_⟩
 refine jP (σ':=[some v,none,none]) rfl ?_
 try dsimp only[j7]
 obtain⟨a,ap,ar,an,ag,ab,vn,vg,vb,rfl,ha,lJ,em,fc,hn,fR,hg,cV,hb⟩:=zy hv;refine⟨_,rfl,a,_,_,_,rfl,rfl,SqT.of ha,rfl,_,rfl,a,_,_,_,rfl,rfl,SqT.of ha,rfl,sm rfl,fun t ht=>?_⟩;have s1:=je ht (.tup [.ref ap,.ref an]);have e1:upd H t (.tup [.ref ap,.ref an]) t=some (.tup [.ref ap,.ref an]):=jd;generalize upd H t (.tup [.ref ap,.ref an])=H1 at *;refine⟨t,_,rfl,SqT.of e1,rfl,_,_,rfl,_,_,rfl,rfl,?_⟩;refine jP (σ':=[some (.ref a),some (.ref ap),some (.ref an)]) rfl ?_;refine⟨_,rfl,.ref a,p,rfl,rfl,hv.mono s1,hp,fun l ns H2 s2 n2 e2 up few mem=>?_⟩;have aQ:=s1.trans s2;refine⟨l,rfl,⟨_,SqL.of e2⟩,fun pp fJ=>?_⟩;refine qF (xs:=ns.map V.str) (fun i σ' G=>∃u ks,σ'=[u,some (.ref ap)]/\Same H2 G/\G pp=some (.lst ks)/\HeldL G (((ns.take i).filter fun x=>!decide (x∈p.ps)).map qc) ks) ⟨none,[],rfl,je fJ _,jd,jj⟩ ?_ ?_ ?_
 .rintro i σ' G _ ⟨u,ks,rfl,sG,_⟩
  exact SqL.of (sG _ _ e2)
 .rintro i x σ' G hx ⟨u,ks,rfl,sG,hG,hk⟩
  have hi:i < ns.length:=by
   have:=(bN.mp hx).1;rw[ax]at this;exact this
  rw[bF,aI hi]at hx
  cases hx
  have et:(ns.take (i+1)).filter (fun x=>!decide (x∈p.ps))=(ns.take i).filter (fun x=>!decide (x∈p.ps))++(if (!decide (ns[i]∈p.ps))=true then [ns[i]] else []):=by
   rw[bP,aI hi,AZ];congr 1;show E4 _ [ns[i]]=_;rw[AY];rfl
  have cN:=hk.length;rw[ax]at cN;have gS:=oA (fun x=>!decide (x∈p.ps)) (ns.take i);rw[bK]at gS;unfold qh;refine⟨_,rfl,_,rfl,ap,p.ps.map V.str,rfl,.inr (SqT.of (sG _ _ (aQ _ _ lJ))),rfl,qW _,_,rfl,jQ (fun d2=>?_) (fun d2=>?_)⟩
  .have iP:(!inV (.str ns[i]) (p.ps.map V.str))=true:=d2
   rw[qq]at iP;refine⟨_,rfl,_,rfl,fun z G2 s3 hz=>?_⟩;have aY:=s3 _ _ hG;have tk:TK G2 (upd G2 pp (.lst (ks++[z]))):=TK.upd aY (fun _ z=>by cases z);refine⟨ks,aY,jz (by omega),_,_,rfl,fun b o e=>?_,jd,?_⟩
   .rw[jw (jr e fJ)];exact s3 _ _ (sG _ _ e)
   .rw[et,WU iP,aW]
    exact jL (tk.heldL (hk.mono s3)) (jb (tk.held hz) jj)
  .have iP:¬(!inV (.str ns[i]) (p.ps.map V.str))=true:=d2
   rw[qq]at iP;exact⟨_,ks,rfl,sG,hG,by rw[et,WT iP,cv];exact hk⟩
 rintro σ' G ⟨u,ks,rfl,sG,hG,hk⟩;rw[ax,bX]at hk;have wY:=aQ.trans sG;refine⟨_,rfl,an,vn,p.nd,rfl,wY _ _ fc,hn.mono wY,by have:=hp.nd;omega,fun l2 e_ H4 s4 n4 e4 xT=>?_⟩;have cN:=hk.length;have QR:=xT.length;rw[ax]at cN QR;have gS:=oA (fun x=>!decide (x∈p.ps)) ns;refine⟨pp,l2,ks,e_,rfl,rfl,s4 _ _ hG,e4,aV (by have:=hp.nd;omega) (jY (aL 1000)),fun l3 bT=>?_⟩;have s5:=je bT (.lst (ks++e_));exact q l3 _ ns _ ⟨up,few,mem⟩ (wY.trans (s4.trans s5)) (wY.free (s4.free bT)) jd (jL (hk.mono (s4.trans s5)) (xT.mono s5))
end
abbrev qZ:aJ:=jfA (top 21) 0
abbrev jdK:aJ:=top 29
structure ClsW(K:aC)(C:aa):Prop where
 c:Cls K C
 n1:NoAttr K C "f"
 n2:NoAttr K C "procs"
 n3:NoAttr K C "met"
def jfX(f:Str)(vp:V)(ml:aa):List (Str×V):=[("f",.str f),("procs",vp),("met",.ref ml)]
structure Du where
 f:Str
 kind:Str
 path:List Int
 k:Int
 way:List D
 goal:Cl
def DuAt(G:Hp)(d:Du)(v:V)(wl:aa):Prop:=∃t pt us gv,v=.ref t/\G t=some (.tup [.str d.f,.str d.kind,.ref pt,.int d.k,.ref wl,gv])/\G pt=some (.tup (d.path.map V.int))/\G wl=some (.lst us)/\HeldL G d.way us/\Held G d.goal.toD gv
def DutsAt(G:Hp):List Du->List V->List aa->Prop
 | [],[],[]=>True
 | d :: ds,v :: vs,wl :: aD=>DuAt G d v wl/\DutsAt G ds vs aD
 | _,_,_=>False
variable {xs:List V}
theorem jR{G G':Hp}{ml:aa}(k:∀b o,b≠ml->G b=some o->G' b=some o)(h:G ml=some (.lst xs)):TK G G':=fun b ys e=>k b _ (fun z=>by rw[z,h]at e;cases e) e
theorem DuAt.keep{G G':Hp}{ml:aa}(k:∀b o,b≠ml->G b=some o->G' b=some o)(h:G ml=some (.lst xs)){d:Du}{v:V}{wl:aa}(hd:DuAt G d v wl)(hn:wl≠ml):DuAt G' d v wl:=by
 obtain⟨t,pt,us,gv,rfl,h1,h2,h3,h4,h5⟩:=hd;have tk:=jR k h;exact⟨t,pt,us,gv,rfl,tk _ _ h1,tk _ _ h2,k _ _ hn h3,tk.heldL h4,tk.held h5⟩
theorem DutsAt.keep{G G':Hp}{ml:aa}{xs:List V}(k:∀b o,b≠ml->G b=some o->G' b=some o)(h:G ml=some (.lst xs)):∀{ds:List Du} {vs:List V} {aD:List aa},DutsAt G ds vs aD->ml ∉ aD->DutsAt G' ds vs aD
 | [],[],[],_,_=>trivial
 | d :: ds,v :: vs,wl :: aD,hd,hn=>⟨hd.1.keep k h (fun z=>hn (by rw[z];exact bt)),DutsAt.keep k h hd.2 (fun z=>hn (aZ _ z))⟩
 | [],[],_ :: _,hd,_=>hd.elim
 | [],_ :: _,_,hd,_=>hd.elim
 | _ :: _,[],_,hd,_=>hd.elim
 | _ :: _,_ :: _,[],hd,_=>hd.elim
theorem DutsAt.app{G:Hp}:∀{ds vN:List Du} {vs dR:List V} {aD oI:List aa},DutsAt G ds vs aD->DutsAt G vN dR oI->DutsAt G (ds++vN) (vs++dR) (aD++oI)
 | [],_,[],_,[],_,_,h=>h
 | d :: ds,_,v :: vs,_,wl :: aD,_,hd,h=>⟨hd.1,DutsAt.app hd.2 h⟩
 | [],_,[],_,_ :: _,_,hd,_=>hd.elim
 | [],_,_ :: _,_,_,_,hd,_=>hd.elim
 | _ :: _,_,[],_,_,_,hd,_=>hd.elim
 | _ :: _,_,_ :: _,_,[],_,hd,_=>hd.elim
theorem DutsAt.len{G:Hp}:∀{ds:List Du} {vs:List V} {aD:List aa},DutsAt G ds vs aD->vs.length=ds.length
 | [],[],[],_=>rfl
 | d :: ds,v :: vs,wl :: aD,hd=>by rw[bR,bR,DutsAt.len hd.2]
 | [],[],_ :: _,hd=>hd.elim
 | [],_ :: _,_,hd=>hd.elim
 | _ :: _,[],_,hd=>hd.elim
 | _ :: _,_ :: _,[],hd=>hd.elim
theorem kj{G:Hp}:∀{ds:List Du} {vs:List V} {aD:List aa},DutsAt G ds vs aD->∀x∈aD,G x≠none
 | [],[],[],_,x,hx=>by cases hx
 | d :: ds,v :: vs,wl :: aD,hd,x,hx=>by
  rcases aM.mp hx with rfl | hx
  .obtain⟨_,_,us,_,_,_,_,h,_⟩:=hd.1
   rw[h];simp
  .exact kj hd.2 x hx
 | [],[],_ :: _,hd,_,_=>hd.elim
 | [],_ :: _,_,hd,_,_=>hd.elim
 | _ :: _,[],_,hd,_,_=>hd.elim
 | _ :: _,_ :: _,[],hd,_,_=>hd.elim
def ya(f kind:Str)(path:List Int)(way:List D)(Cs:List Cl):List Du:=Cs.zipIdx.map fun c=>⟨f,kind,path,c.2,way,c.1⟩
theorem JO(f kind:Str)(path:List Int)(way:List D){Cs:List Cl}{i:Nat}(hi:i < Cs.length):ya f kind path way (Cs.take (i+1))=ya f kind path way (Cs.take i)++[⟨f,kind,path,i,way,Cs[i]⟩]:=by
 unfold ya;rw[show Cs.take (i+1)=Cs.take i++[Cs[i]] by rw[bP,aI hi];rfl,List.zipIdx_append,aW,bK,p3 (cu hi)];simp
theorem jao(f kind:Str)(path:List Int)(way:List D)(Cs:List Cl):(ya f kind path way Cs).length=Cs.length:=by unfold ya;rw[ax,List.length_zipIdx]
inductive spWalk(CW:aa)(vs:List V)(H:Hp)(Q:VK)(E:XK):Prop
 | mk (wo dx:aa) (f:Str) (vp:V) (_:vs=[.ref wo,.str f,vp]) (_:H wo=some (.ins CW dx [])) (_:∀ml H',(∀b o,b≠wo->H b=some o->H' b=some o)->H ml=none->H' wo=some (.ins CW dx (jfX f vp ml))->H' ml=some (.lst [])->Q .non H')
def WayL(G:Hp)(ml:aa):List (List D)->List aa->Prop
 | [],[]=>True
 | w :: ws,a :: as=>(a≠ml/\∃us,G a=some (.lst us)/\HeldL G w us)/\WayL G ml ws as
 | _,_=>False
theorem WayL.keep{G G':Hp}{ml:aa}{xs:List V}(k:∀b o,b≠ml->G b=some o->G' b=some o)(h:G ml=some (.lst xs)):∀{ws:List (List D)} {as:List aa},WayL G ml ws as->WayL G' ml ws as
 | [],[],_=>trivial
 | w :: ws,a :: as,hd=>by
  obtain⟨⟨n,us,e,hh⟩,hr⟩:=hd;exact⟨⟨n,us,k _ _ n e,(jR k h).heldL hh⟩,WayL.keep k h hr⟩
 | [],_ :: _,hd=>hd.elim
 | _ :: _,[],hd=>hd.elim
theorem WayL.mono{G G':Hp}{ml:aa}(s:Same G G'):∀{ws:List (List D)} {as:List aa},WayL G ml ws as->WayL G' ml ws as
 | [],[],_=>trivial
 | w :: ws,a :: as,hd=>by
  obtain⟨⟨n,us,e,hh⟩,hr⟩:=hd;exact⟨⟨n,us,s _ _ e,hh.mono s⟩,WayL.mono s hr⟩
 | [],_ :: _,hd=>hd.elim
 | _ :: _,[],hd=>hd.elim
theorem WayL.len{G:Hp}{ml:aa}:∀{ws:List (List D)} {as:List aa},WayL G ml ws as->as.length=ws.length
 | [],[],_=>rfl
 | w :: ws,a :: as,hd=>by rw[bR,bR,WayL.len hd.2]
 | [],_ :: _,hd=>hd.elim
 | _ :: _,[],hd=>hd.elim
theorem WayL.get{G:Hp}{ml:aa}:∀{ws:List (List D)} {as:List aa} {i:Nat} {w:List D} {a:aa},WayL G ml ws as->ws[i]?=some w->as[i]?=some a->a≠ml/\∃us,G a=some (.lst us)/\HeldL G w us
 | [],[],_,_,_,_,h,_=>by simp at h
 | w :: ws,a :: as,0,_,_,hd,h,h'=>by simp at h h';subst h h';exact hd.1
 | w :: ws,a :: as,i+1,_,_,hd,h,h'=>WayL.get hd.2 (by simpa using h) (by simpa using h')
 | [],_ :: _,_,_,_,hd,_,_=>hd.elim
 | _ :: _,[],_,_,_,hd,_,_=>hd.elim
theorem WayL.app{G:Hp}{ml:aa}:∀{ws i5:List (List D)} {as IR:List aa},WayL G ml ws as->WayL G ml i5 IR->WayL G ml (ws++i5) (as++IR)
 | [],_,[],_,_,h=>h
 | w :: ws,_,a :: as,_,hd,h=>⟨hd.1,WayL.app hd.2 h⟩
 | [],_,_ :: _,_,hd,_=>hd.elim
 | _ :: _,_,[],_,hd,_=>hd.elim
def ki(f kind:Str)(path:List Int)(aq:List (List D))(Cs:List Cl):List Du:=aq.flatMap fun way=>ya f kind path way Cs
theorem kZ(f kind:Str)(path:List Int)(Cs:List Cl):∀aq:List (List D),(ki f kind path aq Cs).length=aq.length * Cs.length
 | []=>by unfold ki;simp
 | w :: ws=>by
  have:=kZ f kind path Cs ws;unfold ki at this |-;rw[dX,aG,jao,this,bR,MW];omega
theorem KN(f kind:Str)(path:List Int)(Cs:List Cl){aq:List (List D)}{i:Nat}(hi:i < aq.length):ki f kind path (aq.take (i+1)) Cs=ki f kind path (aq.take i) Cs++ya f kind path aq[i] Cs:=by
 unfold ki;rw[show aq.take (i+1)=aq.take i++[aq[i]] by rw[bP,aI hi];rfl,oC];simp
def SqB(b:Bool)(K:aC)(H:Hp)(a:aa)(xs:List V):Prop:=cond b (SqT K H a xs) (SqL K H a xs)
theorem SqB.of{b:Bool}{a:aa}(h:H a=some (cond b (.tup xs) (.lst xs))):SqB b K H a xs:=by
 cases b
 .exact SqL.of h
 .exact SqT.of h
def jfK(b:Bool)(K:aC)(l:aa):It:=
 ⟨fun i H=>∃xs x,SqB b K H l xs/\xs[i]?=some x,fun i H x H'=>∃t y,H t=none/\(∀xs,SqB b K H l xs->xs[i]?=some y)/\x=.ref t/\H'=upd H t (.tup [.int i,y]),fun i H=>∃xs,SqB b K H l xs/\xs.length<=i⟩
def jgx(b:Bool)(K:aC)(ta:TA):TI:=fun σ H R=>ta σ H fun vs H1=>∃l,vs=[.ref l]/\(∃xs,SqB b K H1 l xs)/\R (jfK b K l) H1
theorem qV{b:Bool}{l:aa}{g:TG}{tb:TS}{D:Ends}{σ:St}(Pv:Nat->St->Hp->Prop)(h0:Pv 0 σ H)(hl:∀i σ H,i<=xs.length->Pv i σ H->SqB b K H l xs)
  (hs:∀i y σ H t,xs[i]?=some y->Pv i σ H->H t=none->g (.ref t) σ (upd H t (.tup [.int i,y])) fun σ2 H2=>tb { D with nx:=Pv (i+1),ct:=Pv (i+1),bk:=D.nx } σ2 H2) (hd:∀σ H,Pv xs.length σ H->D.nx σ H) :
  ∃W:Nat->Nat->St->Hp->Prop,(∃m,W 0 m σ H)/\∀i m σ H,W i m σ H->
   ((jfK b K l).stop i H/\D.nx σ H)\/((jfK b K l).go i H/\∃N:St->Hp->Prop,(∀σ' H',N σ' H'->∃m',m' < m/\W (i+1) m' σ' H')/\∀x H',(jfK b K l).yld i H x H'->g x σ H' fun σ2 H2=>tb { D with nx:=N,ct:=N,bk:=D.nx } σ2 H2):=by
 refine⟨fun i m σ H=>m=xs.length - i/\i<=xs.length/\Pv i σ H,⟨xs.length,by simp,cy _,h0⟩,?_⟩
 rintro i m σ H ⟨rfl,hi,p⟩
 have q:=hl i σ H hi p
 by_cases bz:i < xs.length
 .refine .inr ⟨⟨xs,xs[i],q,by simp[bz]⟩,Pv (i+1),fun σ' H' p'=>⟨xs.length - (i+1),by omega,rfl,bz,p'⟩,fun x H' y=>?_⟩
  obtain⟨t,z,ht,hz,rfl,rfl⟩:=y
  exact hs i z σ H t (hz xs q) p ht
 .have:i=xs.length:=by omega
  subst this
  exact .inl ⟨⟨xs,q,aL _⟩,hd σ H p⟩
theorem Yp(b:Bool){X:Cx}{eQ:List ay}{x1:Nat}{tp:Pos}{a:ay}{ta:TA}{p pos:Pos}(hg:Gl X (bu "enumerate"))(hm:X.mg (bu "enumerate")=none)(ha:QA X [a] ta)(hs:cr [a] X.env=[(false,eval a X.env)]:=by rfl):QI X (Expr.Tuple eQ x1 tp) (Expr.Call (Expr.Name (bu "enumerate") p) [a] [] pos) (jgx b X.K ta):=by
 cases b
 .exact jde hg hm ha hs
 .exact zn hg hm ha hs
inductive spMeetB(b:Bool)(CW:aa)(vs:List V)(H:Hp)(Q:VK)(E:XK):Prop
 | mk (wo dx ml pt wy ca:aa) (was:List aa) (f kind:Str) (vp:V) (ms cs:List V) (path:List Int) (aq:List (List D)) (Cs:List Cl) (_:vs=[.ref wo,.str kind,.ref pt,.ref wy,.ref ca]) (_:H wo=some (.ins CW dx (jfX f vp ml))) (_:H ml=some (.lst ms)) (_:H pt=some (.tup (path.map V.int))) (_:H wy=some (.lst (was.map V.ref))) (_:WayL H ml aq was) (_:H ca=some (cond b (.tup cs) (.lst cs))) (_:HeldL H (Cs.map Cl.toD) cs) (_:wy≠ml) (_:ca≠ml) (_:aq.length<=40) (_:ms.length+aq.length * Cs.length<=9000) (_:∀aK aD H',(∀b o,b≠ml->H b=some o->H' b=some o)->H' ml=some (.lst (ms++aK))->DutsAt H' (ki f kind path aq Cs) aK aD->aD.Nodup->(∀x∈aD,H x=none)->Q .non H')
section
theorem jfl{CW:aa}(T:ClsW K CW)(F:Fun K "__init__" "Walk.__init__" qZ f fd):FnOk P w K mg base CX0 1 f fd ["self","f","procs"] (spWalk CW):=by
 have sc:FnScope ["self","f","procs"] ["self","f","procs"] (jp qZ):=fQ;refine F.okZ sc (fun aH A outer s H vs Q E hr h=>?_);obtain⟨wo,dx,f,vp,rfl,hwo,q⟩:=h;refine⟨_,(jg (Y5 (zpv 0) (zpv 1) rfl)
   (jg (Y5 (zpv 0) (zpv 2) rfl)
   (jh (Y5 (zpv 0) (jF jc) rfl)))),?_⟩
 try dsimp only[j7]
 refine J5 ?_;intro _ _;refine⟨_,rfl,_,rfl,wo,CW,dx,[],rfl,hwo,T.c,T.n1,by show 0 < 1000;decide,?_⟩;refine⟨_,rfl,_,rfl,wo,CW,dx,_,rfl,jd,T.c,T.n2,by show 1 < 1000;decide,?_⟩;refine⟨sm rfl,fun ml hml=>?_⟩;have nm:ml≠wo:=fun z=>by rw[z,jd]at hml;cases hml
 refine⟨_,rfl,wo,CW,dx,_,rfl,(by rw[jw (bB nm)];exact jd),T.c,T.n3,by show 2 < 1000;decide,?_⟩;rw[jw nm,jw nm]at hml;refine q ml _ (fun b o hb e=>?_) hml jd ?_
 .rw[jw hb,jw (jr e hml),jw hb,jw hb];exact e
 .rw[jw nm];exact jd
theorem jal(b:Bool){CW:aa}(T:ClsW K CW)(F:Fun K "meet" "meet" jdK f fd)(B:Free0 mg)(cx:mg "enumerate" = none):FnOk P w K mg base CX0 1 f fd ["walk","kind","path","ways","claims"] (spMeetB b CW):=by
 have sc:FnScope ["walk","kind","path","ways","claims","way","k","claim"] ["walk","kind","path","ways","claims"] (jp jdK):=fQ;refine F.okZ sc (fun aH A outer s H vs Q E hr h=>?_);obtain⟨wo,dx,ml,pt,wy,ca,was,f,kind,vp,ms,cs,path,aq,Cs,rfl,hwo,hml,bO,hwy,hW,cJ,fT,nwy,uv,mJ,hlen,q⟩:=h;refine⟨_,(jh (kg dF rfl (ql (zpv 3)) (jt (i:=5) sc.nd rfl oQ) (jh (kg dF rfl (Yp b (by rfl) cx (ja (zpv 4) jc)) (kn rfl (jy (jt (i:=6) sc.nd rfl oQ) (jy (jt (i:=7) sc.nd rfl oQ) j9))) (jh (jW (qu eD l_ l8 kK (Jk (zpv 0) rfl) (ja (js (ja (Jk (zpv 0) rfl) (ja (zpv 1) (ja (zpv 2) (ja (zpv 6) (ja (qI zm (by rfl) B.list_ Ko (ja (zpv 5) jc)) (ja (zpv 7) jc))))))) jc)))))))),?_⟩;refine jP (σ':=[some (.ref wo),some (.str kind),some (.ref pt),some (.ref wy),some (.ref ca),none,none,none]) rfl ?_
 try dsimp only[j7]
 have ur:=fT.length;rw[ax]at ur;have mv:=hW.len;have nwo:wo≠ml:=fun z=>by rw[z,hml]at hwo;cases hwo
 have lj:pt≠ml:=fun z=>by rw[z,hml]at bO;cases bO
 have Fm:∀{G:Hp},(∀b o,b≠ml->H b=some o->G b=some o)->TK H G:=fun k=>jR k hml
 refine⟨_,rfl,wy,rfl,⟨_,SqL.of hwy⟩,?_⟩;refine K1 (xs:=was.map V.ref) (fun i σ G=>∃u5 u6 u7 aK aD,σ=[some (.ref wo),some (.str kind),some (.ref pt),some (.ref wy),some (.ref ca),u5,u6,u7]/\(∀b o,b≠ml->H b=some o->G b=some o)/\G ml=some (.lst (ms++aK))/\DutsAt G (ki f kind path (aq.take i) Cs) aK aD/\aD.Nodup/\∀x∈aD,H x=none) ⟨none,none,none,[],[],rfl,fun _ _ _ e=>e,by rw[cv];exact hml,by rw[eX];trivial,iY,fun _ z=>by cases z⟩ ?_ ?_ ?_
 .rintro i σ G _ ⟨u5,u6,u7,aK,aD,rfl,kG,_⟩
  exact SqL.of (kG _ _ nwy hwy)
 .rintro i x σ G hx ⟨u5,u6,u7,fD,tL,rfl,kG,hG,pH,bV,bI⟩
  have fN:i < was.length:=by have:=(bN.mp hx).1;rw[ax]at this;exact this
  have hi:i < aq.length:=by omega
  rw[bF,aI fN]at hx
  cases hx
  obtain⟨li,us,cP,de⟩:=hW.get (aI hi) (aI fN);have uy:=pH.len;rw[kZ,bK,p3 (cu hi)]at uy;have x8:fD.length+Cs.length<=aq.length * Cs.length:=by
   rw[uy,<- MW];exact m_ _ hi
  rw[KN f kind path Cs hi];generalize was[i]=wl at *;generalize aq[i]=way at *;generalize ki f kind path (aq.take i) Cs=ds0 at *;refine yB ?_;intro _;refine gQ ?_;refine⟨_,rfl,ca,rfl,⟨_,SqB.of (kG _ _ uv cJ)⟩,?_⟩;refine qV (b:=b) (xs:=cs) (fun j σ G=>∃u6 u7 aK aD,σ=[some (.ref wo),some (.str kind),some (.ref pt),some (.ref wy),some (.ref ca),some (.ref wl),u6,u7]/\(∀b o,b≠ml->H b=some o->G b=some o)/\G ml=some (.lst (ms++aK))/\aK.length=fD.length+j/\DutsAt G (ds0++ya f kind path way (Cs.take j)) aK aD/\aD.Nodup/\∀x∈aD,H x=none) ⟨u6,u7,fD,tL,rfl,kG,hG,rfl,by rw[eX,show ya f kind path way []=[] from rfl,cv];exact pH,bV,bI⟩ ?_ ?_ ?_
  .rintro j σ G _ ⟨u6,u7,aK,aD,rfl,kG,_⟩
   exact SqB.of (kG _ _ uv cJ)
  .clear hG pH bV bI kG
   rintro j y σ G t hy ⟨u6,u7,aK,aD,rfl,kG,hG,BL,hD,bV,bI⟩ ht;have hj:j < Cs.length:=by have:=(bN.mp hy).1;omega
   obtain⟨y',ck,iu⟩:=fT.get (show (Cs.map Cl.toD)[j]?=some Cs[j].toD by rw[bF,aI hj];rfl);rw[hy]at ck
   cases ck
   have s1:=je ht (.tup [V.int j,y]);have e1:upd G t (.tup [V.int j,y]) t=some (.tup [V.int j,y]):=jd;generalize upd G t (.tup [V.int j,y])=G1 at *;refine⟨t,_,rfl,SqT.of e1,rfl,_,_,rfl,_,_,rfl,rfl,?_⟩;refine jP (σ':=[some (.ref wo),some (.str kind),some (.ref pt),some (.ref wy),some (.ref ca),some (.ref wl),some (.int j),some y]) rfl ?_;have k1:∀b o,b≠ml->H b=some o->G1 b=some o:=fun b o hb e=>s1 _ _ (kG b o hb e)
   have vD:=s1 _ _ hG;refine⟨_,rfl,wo,CW,dx,_,_,rfl,k1 _ _ nwo hwo,T.c,T.n3,rfl,.inl ⟨rfl,_,SqL.of vD⟩,?_⟩;refine⟨_,rfl,wo,CW,dx,_,_,rfl,k1 _ _ nwo hwo,T.c,T.n1,rfl,_,rfl,_,rfl,_,rfl,_,rfl,wl,us,rfl,.inl (SqL.of (k1 _ _ li cP)),fun nl cm=>?_⟩;have s2:=je cm (.lst us);have e2:upd G1 nl (.lst us) nl=some (.lst us):=jd;generalize upd G1 nl (.lst us)=G2 at *;refine⟨_,rfl,sm rfl,fun t2 dq=>?_⟩;have s3:=je dq (.tup [V.str f,.str kind,.ref pt,.int j,.ref nl,y]);have e3:upd G2 t2 (.tup [V.str f,.str kind,.ref pt,.int j,.ref nl,y]) t2=some (.tup [V.str f,.str kind,.ref pt,.int j,.ref nl,y]):=jd;generalize upd G2 t2 (.tup [V.str f,.str kind,.ref pt,.int j,.ref nl,y])=G3 at *;have bG:=s1.trans (s2.trans s3);have vC:=bG _ _ hG;have k3:∀b o,b≠ml->H b=some o->G3 b=some o:=fun b o hb e=>bG _ _ (kG b o hb e)
   have ui:nl≠ml:=fun z=>by rw[z,vD]at cm;cases cm
   have Ds:∀b,b≠ml->G1 b=none->H b=none:=fun b hb hz=>by
    rcases hh:H b with _ | o
    .rfl
    .rw[k1 b o hb hh]at hz;cases hz
   refine⟨ml,_,_,rfl,rfl,vC,Zd (by rw[aG];omega),?_⟩;have k4:∀b o,b≠ml->G3 b=some o->upd G3 ml (.lst (ms++aK++[.ref t2])) b=some o:=fun b o hb e=>by rw[jw hb];exact e
   have nH:ml ∉ aD:=fun z=>by have:=bI _ z;rw[hml]at this;cases this
   refine⟨_,_,aK++[.ref t2],aD++[nl],rfl,fun b o hb e=>k4 b o hb (k3 b o hb e),by rw[jd,dH],by rw[aG,BL];rfl,?_,?_,?_⟩
   .rw[JO f kind path way hj,<- dH]
    refine DutsAt.app (DutsAt.keep (fun b o hb e=>k4 b o hb (bG _ _ e)) hG hD nH) ⟨?_,trivial⟩;refine DuAt.keep k4 vC ?_ ui;exact⟨t2,pt,us,y,rfl,e3,k3 _ _ lj bO,s3 _ _ e2,(Fm k3).heldL de,(Fm k3).held iu⟩
   .refine ia.mpr ⟨bV,by simp,fun a ha b hb=>?_⟩
    rw[aN.mp hb];rintro rfl;have:G1 a≠none:=kj (DutsAt.keep (G:=G) (G':=G1) (ml:=ml) (fun b o _ e=>s1 b o e) hG hD nH) a ha;exact this cm
   .intro x hx
    rcases aT.mp hx with hx | hx
    .exact bI x hx
    .rw[aN.mp hx]
     exact Ds nl ui cm
  .rintro σ G ⟨u6,u7,aK,aD,rfl,kG,hG,_,hD,bV,bI⟩
   rw[<- ur,bX]at hD;exact⟨_,_,_,aK,aD,rfl,kG,hG,hD,bV,bI⟩
 .rintro σ G ⟨u5,u6,u7,aK,aD,rfl,kG,hG,hD,bV,bI⟩
  rw[ax,mv,bX]at hD;exact q aK aD G kG hG hD bV bI
end
abbrev jdI:aJ:=top 15
abbrev yX:aJ:=top 16
abbrev yo:aJ:=top 17
abbrev yW:aJ:=top 18
def Tm.say(N:Str->Str):Tm->Tm
 | .is x=>.is (N x)
 | .at_ r x d=>.at_ (N r) (N x) d
def Bd.say(N:Str->Str):Bd->Bd
 | .is x=>.is (N x)
 | .row x=>.row (N x)
def Cl.say(N:Str->Str):Cl->Cl
 | .least a b c=>.least (a.say N) (b.say N) c
 | .each t td u ud r way b c=>.each (N t) td (N u) ud (N r) way (b.say N) c
 | .rise t td u ud r=>.rise (N t) td (N u) ud (N r)
theorem jo{t:aa}{ds:List D}(h:H t=some (.tup xs))(h1:HeldL H ds xs):Held H (.tup ds) (.ref t):=by
 unfold Held;exact⟨t,_,rfl,h,h1⟩
structure NmOk(kvs:List (Key×V))(N:Str->Str):Prop where
 e:N "" = ""
 g:∀x:Str,x≠""->(qt kvs (Sum.inr x)).getD (.str x)=.str (N x)
inductive spName_said(vs:List V)(H:Hp)(Q:VK)(E:XK):Prop
 | mk (x:Str) (m:aa) (kvs:List (Key×V)) (N:Str->Str) (_:vs=[.str x,.ref m]) (_:H m=some (.dK kvs)) (_:NmOk kvs N) (_:Q (.str (N x)) H)
inductive spPlace_said(vs:List V)(H:Hp)(Q:VK)(E:XK):Prop
 | mk (v:V) (x:Str) (d:Int) (m:aa) (kvs:List (Key×V)) (N:Str->Str) (_:vs=[v,.ref m]) (_:Held H (plD x d) v) (_:H m=some (.dK kvs)) (_:NmOk kvs N) (_:∀r H',Same H H'->Held H' (plD (N x) d) r->Q r H')
inductive spTerm_said(vs:List V)(H:Hp)(Q:VK)(E:XK):Prop
 | mk (v:V) (p:Tm) (m:aa) (kvs:List (Key×V)) (N:Str->Str) (_:vs=[v,.ref m]) (_:Held H p.toD v) (_:H m=some (.dK kvs)) (_:NmOk kvs N) (_:∀r H',Same H H'->Held H' (p.say N).toD r->Q r H')
inductive spSaid(vs:List V)(H:Hp)(Q:VK)(E:XK):Prop
 | mk (v:V) (p:Cl) (m:aa) (kvs:List (Key×V)) (N:Str->Str) (_:vs=[v,.ref m]) (_:Held H p.toD v) (_:H m=some (.dK kvs)) (_:NmOk kvs N) (_:∀r H',Same H H'->Held H' (p.say N).toD r->Q r H')
section
theorem Zr(F:Fun K "name_said" "name_said" yX f fd):FnOk P w K mg base CX0 1 f fd ["name","names"] spName_said:=by
 have sc:FnScope ["name","names"] ["name","names"] (jp yX):=fQ;refine F.okZ sc (fun aH A outer s H vs Q E hr h=>?_);obtain⟨x,m,kvs,N,rfl,hm,o,q⟩:=h;have hu:=jb4 hr;refine⟨_,(jg (jJ (jx j4 (zpv 0) jm (jB _)) (jh (jv jm)) jC)
   (jh (jv (Yq hu (zpv 1) (zpv 0) (zpv 0) ⟨rfl,rfl,rfl,rfl⟩)))),?_⟩
 try dsimp only[j7]
 refine⟨_,rfl,rfl,_,rfl,jQ (fun c=>?_) (fun c=>?_)⟩
 .have c':x = "":=by
   have:=WP c;injection this
  subst c';rw[o.e]at q;exact q
 .refine⟨_,rfl,m,rfl,.inl ⟨kvs,.inl hm⟩,_,rfl,_,rfl,_,DGet.k (k:=Sum.inr x) hm,?_⟩
  rw[o.g x fun z=>c (WQ (by rw[z]))];exact q
theorem Yl(F:Fun K "place_said" "place_said" yo f fd)(iT:Fn P w K mg base 1 "name_said" ["name","names"] spName_said):FnOk P w K mg base CX0 2 f fd ["place","names"] spPlace_said:=by
 have sc:FnScope ["place","names","x","d"] ["place","names"] (jp yo):=fQ;refine F.okZ sc (fun aH A outer s H vs Q E hr h=>?_);obtain⟨v,x,d,m,kvs,N,rfl,hx,hm,o,q⟩:=h;obtain⟨a,rfl,ha⟩:=zZ hx;refine⟨_,(jg (qY (zpv 0) (kn rfl (jy (jt (i:=2) sc.nd rfl oQ) (jy (jt (i:=3) sc.nd rfl oQ) j9))))
   (jh (jv (js (ja (jA iT hr (ja (zpv 2) (ja (zpv 1) jc))) (ja (zpv 3) jc)))))),?_⟩
 refine jP (σ':=[some (.ref a),some (.ref m),none,none]) rfl ?_
 try dsimp only[j7]
 refine⟨_,rfl,a,_,rfl,SqT.of ha,rfl,_,_,rfl,_,_,rfl,rfl,?_⟩;refine jP (σ':=[some (.ref a),some (.ref m),some (.str x),some (.int d)]) rfl ?_;refine⟨_,rfl,_,rfl,x,m,kvs,N,rfl,hm,o,_,rfl,sm rfl,fun r bL=>?_⟩;exact q _ _ (je bL _) (jo jd (jb jl (jb jX jj)))
theorem Zp(F:Fun K "term_said" "term_said" yW f fd)(iT:Fn P w K mg base 1 "name_said" ["name","names"] spName_said)(pM:Fn P w K mg base 2 "place_said" ["place","names"] spPlace_said):FnOk P w K mg base CX0 3 f fd ["term","names"] spTerm_said:=by
 have sc:FnScope ["term","names"] ["term","names"] (jp yW):=fQ;refine F.okZ sc (fun aH A outer s H vs Q E hr h=>?_);obtain⟨v,p,m,kvs,N,rfl,hx,hm,o,q⟩:=h;refine⟨_,(jg (jJ (jx j4 (jk jq (zpv 0) jf (fun _ _=>rfl)) jm (jB _)) (jh (jv (js (ja jm (ja (jA iT hr (ja (jk jq (zpv 0) jf (fun _ _=>rfl)) (ja (zpv 1) jc))) jc))))) jC)
   (jh (jv (js (ja jm (ja (jA iT hr (ja (jk jq (zpv 0) jf (fun _ _=>rfl)) (ja (zpv 1) jc))) (ja (jA pM hr (ja (jk jq (zpv 0) jf (fun _ _=>rfl)) (ja (zpv 1) jc))) jc))))))),?_⟩
 refine jP (σ':=[some v,some (.ref m)]) rfl ?_
 try dsimp only[j7]
 cases p with
 | is y=>
  obtain⟨a,rfl,ha⟩:=qK hx;refine⟨_,rfl,a,_,_,_,rfl,rfl,SqT.of ha,rfl,rfl,_,rfl,jQ (fun _=>?_) (fun d=>absurd (WQ rfl) d)⟩;refine⟨_,rfl,a,_,_,_,rfl,rfl,SqT.of ha,rfl,_,rfl,y,m,kvs,N,rfl,hm,o,sm rfl,fun r bL=>?_⟩;exact q _ _ (je bL _) (jo jd (jb jl (jb jl jj)))
 | at_ r x d=>
  obtain⟨a,b,rfl,ha,hb⟩:=jbA hx;refine⟨_,rfl,a,_,_,_,rfl,rfl,SqT.of ha,rfl,rfl,_,rfl,jQ (fun d=>absurd (WP d) (by decide)) (fun _=>?_)⟩;refine⟨_,rfl,a,_,_,_,rfl,rfl,SqT.of ha,rfl,_,rfl,r,m,kvs,N,rfl,hm,o,_,rfl,a,_,_,_,rfl,rfl,SqT.of ha,rfl,_,rfl,.ref b,x,d,m,kvs,N,rfl,jo hb (jb jl (jb jX jj)),hm,o,fun u H1 s1 e4=>?_⟩;refine⟨sm rfl,fun z hz=>?_⟩;exact q _ _ (s1.trans (je hz _)) (jo jd (jb jl (jb jl (jb (e4.mono (je hz _)) jj))))
theorem jfo(F:Fun K "said" "said" jdI f fd)(iT:Fn P w K mg base 1 "name_said" ["name","names"] spName_said)(pM:Fn P w K mg base 2 "place_said" ["place","names"] spPlace_said)
  (Ar:Fn P w K mg base 3 "term_said" ["term","names"] spTerm_said):FnOk P w K mg base CX0 4 f fd ["claim","names"] spSaid:=by
 have sc:FnScope ["claim","names","a","b","c","t","u","r","way"] ["claim","names"] (jp jdI):=fQ
 refine F.okZ sc (fun aH A outer s H vs Q E hr h=>?_);obtain⟨v,p,m,kvs,N,rfl,hx,hm,o,q⟩:=h
 refine⟨_,(jg (jJ (jx j4 (jk jq (zpv 0) jf (fun _ _=>rfl)) jm (jB _)) (jg (qY (j5 qL (zpv 0) (j0 jf) kL) (kn rfl (jy (jt (i:=2) sc.nd rfl oQ) (jy (jt (i:=3) sc.nd rfl oQ) (jy (jt (i:=4) sc.nd rfl oQ) j9)))))
   (jh (jv (js (ja jm (ja (jA Ar hr (ja (zpv 2) (ja (zpv 1) jc))) (ja (jA Ar hr (ja (zpv 3) (ja (zpv 1) jc))) (ja (zpv 4) jc)))))))) jC)
   (jg (ju (i:=5) sc.nd rfl oQ (jA pM hr (ja (jk jq (zpv 0) jf (fun _ _=>rfl)) (ja (zpv 1) jc))))
   (jg (ju (i:=6) sc.nd rfl oQ (jA pM hr (ja (jk jq (zpv 0) jf (fun _ _=>rfl)) (ja (zpv 1) jc))))
   (jg (ju (i:=7) sc.nd rfl oQ (jA iT hr (ja (jk jq (zpv 0) jf (fun _ _=>rfl)) (ja (zpv 1) jc))))
   (jg (jJ (jx j4 (jk jq (zpv 0) jf (fun _ _=>rfl)) jm (jB _)) (jh (jv (js (ja jm (ja (zpv 5) (ja (zpv 6) (ja (zpv 7) jc))))))) jC)
   (jg (qY (j5 qL (zpv 0) (j0 jf) kL) (kn rfl (jy (jt (i:=8) sc.nd rfl oQ) (jy (jt (i:=3) sc.nd rfl oQ) (jy (jt (i:=4) sc.nd rfl oQ) j9)))))
   (jh (jv (js (ja jm (ja (zpv 5) (ja (zpv 6) (ja (zpv 7) (ja (zpv 8) (ja (js (ja (jk jq (zpv 3) jf (fun _ _=>rfl)) (ja (jA iT hr (ja (jk jq (zpv 3) jf (fun _ _=>rfl)) (ja (zpv 1) jc))) jc))) (ja (zpv 4) jc)))))))))))))))),?_⟩
 refine jP (σ':=[some v,some (.ref m),none,none,none,none,none,none,none]) rfl ?_
 try dsimp only[j7]
 refine jfT ?_
 intro _ _ _ _ _ _
 cases p with
 | least ta tb c=>
  obtain⟨a,va,vb,rfl,ha,h1,h2⟩:=zR hx
  refine⟨_,rfl,a,_,_,_,rfl,rfl,SqT.of ha,rfl,rfl,_,rfl,jQ (fun _=>?_) (fun d=>absurd (WQ rfl) d)⟩
  refine⟨_,rfl,_,rfl,a,_,rfl,SqT.of ha,(fun h=>absurd h.1 (by show ¬(HT.sIx 4 0 (some 1)=0);decide)),fun p hp=>?_⟩
  have s1:=je hp (.tup (kI [V.str "least",va,vb,V.int c] (some 1) none))
  have y1:upd H p (.tup (kI [V.str "least",va,vb,V.int c] (some 1) none)) p=some (.tup [va,vb,V.int c]):=jd
  generalize upd H p (.tup (kI [V.str "least",va,vb,V.int c] (some 1) none))=H1 at *
  refine⟨p,_,rfl,SqT.of y1,rfl,_,_,rfl,_,_,rfl,_,_,rfl,rfl,?_⟩
  refine jP (σ':=[some (.ref a),some (.ref m),some va,some vb,some (.int c),none,none,none,none]) rfl ?_
  refine⟨_,rfl,_,rfl,va,ta,m,kvs,N,rfl,h1.mono s1,s1 _ _ hm,o,fun u H2 s2 g2=>?_⟩
  refine⟨_,rfl,_,rfl,vb,tb,m,kvs,N,rfl,h2.mono (s1.trans s2),s2 _ _ (s1 _ _ hm),o,fun u' H3 s3 g3=>?_⟩
  refine⟨_,rfl,sm rfl,fun z hz=>?_⟩
  have s4:=je hz (.tup [V.str "least",u,u',V.int c])
  exact q _ _ (s1.trans (s2.trans (s3.trans s4))) (jo jd (jb jl (jb (g2.mono (s3.trans s4)) (jb (g3.mono s4) (jb jX jj)))))
 | rise t td u ud r=>
  obtain⟨a,dr,au,rfl,ha,gh,mE⟩:=KK hx
  refine⟨_,rfl,a,_,_,_,rfl,rfl,SqT.of ha,rfl,rfl,_,rfl,jQ (fun d=>absurd (WP d) (by decide)) (fun _=>?_)⟩
  refine⟨_,rfl,a,_,_,_,rfl,rfl,SqT.of ha,rfl,_,rfl,.ref dr,t,td,m,kvs,N,rfl,jo gh (jb jl (jb jX jj)),hm,o,fun y2 H2 s2 g2=>?_⟩
  refine gQ ?_
  refine⟨_,rfl,a,_,_,_,rfl,rfl,SqT.of (s2 _ _ ha),rfl,_,rfl,.ref au,u,ud,m,kvs,N,rfl,jo (s2 _ _ mE) (jb jl (jb jX jj)),s2 _ _ hm,o,fun y3 H3 s3 g3=>?_⟩
  refine gQ ?_
  refine⟨_,rfl,a,_,_,_,rfl,rfl,SqT.of (s3 _ _ (s2 _ _ ha)),rfl,_,rfl,r,m,kvs,N,rfl,s3 _ _ (s2 _ _ hm),o,?_⟩
  refine gQ ?_
  refine⟨_,rfl,a,_,_,_,rfl,rfl,SqT.of (s3 _ _ (s2 _ _ ha)),rfl,rfl,_,rfl,jQ (fun _=>?_) (fun d=>absurd (WQ rfl) d)⟩
  refine⟨_,rfl,_,rfl,_,rfl,sm rfl,fun z hz=>?_⟩
  have s4:=je hz (.tup [V.str "rise",y2,y3,V.str (N r)])
  exact q _ _ (s2.trans (s3.trans s4)) (jo jd (jb jl (jb (g2.mono (s3.trans s4)) (jb (g3.mono s4) (jb jl jj)))))
 | each t td u ud r way b c=>
  obtain⟨a,dr,au,ab,rfl,ha,gh,mE,dg⟩:=jaF hx
  obtain⟨bk,bx,HU,hbs⟩:∃bk bx:Str,H ab=some (.tup [.str bk,.str bx])/\(b.say N).toD=.tup [.str bk,.str (N bx)]:=by
   cases b with
   | is x=>exact⟨_,_,dg,rfl⟩
   | row x=>exact⟨_,_,dg,rfl⟩
  refine⟨_,rfl,a,_,_,_,rfl,rfl,SqT.of ha,rfl,rfl,_,rfl,jQ (fun d=>absurd (WP d) (by decide)) (fun _=>?_)⟩
  refine⟨_,rfl,a,_,_,_,rfl,rfl,SqT.of ha,rfl,_,rfl,.ref dr,t,td,m,kvs,N,rfl,jo gh (jb jl (jb jX jj)),hm,o,fun y2 H2 s2 g2=>?_⟩
  refine gQ ?_
  refine⟨_,rfl,a,_,_,_,rfl,rfl,SqT.of (s2 _ _ ha),rfl,_,rfl,.ref au,u,ud,m,kvs,N,rfl,jo (s2 _ _ mE) (jb jl (jb jX jj)),s2 _ _ hm,o,fun y3 H3 s3 g3=>?_⟩
  refine gQ ?_
  have j_:=s2.trans s3
  refine⟨_,rfl,a,_,_,_,rfl,rfl,SqT.of (j_ _ _ ha),rfl,_,rfl,r,m,kvs,N,rfl,j_ _ _ hm,o,?_⟩
  refine gQ ?_
  refine⟨_,rfl,a,_,_,_,rfl,rfl,SqT.of (j_ _ _ ha),rfl,rfl,_,rfl,jQ (fun d=>absurd (WP d) (by decide)) (fun _=>?_)⟩
  refine⟨_,rfl,_,rfl,a,_,rfl,SqT.of (j_ _ _ ha),(fun h=>absurd h.1 (by show ¬(HT.sIx 7 0 (some 4)=0);decide)),fun p hp=>?_⟩
  have s4:=je hp (.tup (kI [V.str "each",.ref dr,.ref au,.str r,.str way,.ref ab,V.int c] (some 4) none))
  have y1:upd H3 p (.tup (kI [V.str "each",.ref dr,.ref au,.str r,.str way,.ref ab,V.int c] (some 4) none)) p=some (.tup [.str way,.ref ab,V.int c]):=jd
  generalize upd H3 p (.tup (kI [V.str "each",.ref dr,.ref au,.str r,.str way,.ref ab,V.int c] (some 4) none))=H4 at *
  have ni:=j_.trans s4
  refine⟨p,_,rfl,SqT.of y1,rfl,_,_,rfl,_,_,rfl,_,_,rfl,rfl,?_⟩
  refine gQ ?_
  refine⟨_,rfl,_,rfl,_,rfl,_,rfl,_,rfl,ab,_,_,_,rfl,rfl,SqT.of (ni _ _ HU),rfl,_,rfl,ab,_,_,_,rfl,rfl,SqT.of (ni _ _ HU),rfl,_,rfl,bx,m,kvs,N,rfl,ni _ _ hm,o,sm rfl,fun z1 ir=>?_⟩
  have s5:=je ir (.tup [V.str bk,.str (N bx)])
  have y5:upd H4 z1 (.tup [V.str bk,.str (N bx)]) z1=some (.tup [V.str bk,.str (N bx)]):=jd
  generalize upd H4 z1 (.tup [V.str bk,.str (N bx)])=H5 at *
  refine⟨_,rfl,sm rfl,fun z hz=>?_⟩
  have s6:=je hz (.tup [V.str "each",y2,y3,V.str (N r),.str way,.ref z1,.int c])
  refine q _ _ (ni.trans (s5.trans s6)) (jo jd (jb jl (jb (g2.mono (s3.trans (s4.trans (s5.trans s6)))) (jb (g3.mono (s4.trans (s5.trans s6))) (jb jl (jb jl (jb ?_ (jb jX jj))))))))
  rw[hbs]
  exact jo (s6 _ _ y5) (jb jl (jb jl jj))
end
end LW
namespace PySem
variable {prog:aF}{w:aE}{A:aR}{E Q:ac->av->Prop}{s:av}{z i1 i2 l1 l2:aa}{xs ys:Array ac}{x y:ac}
section
theorem ZY{TI TO T:aa}{oT:Obj}{bb:Bool}{k1 k2:Nat}
  (n1:i1≠z) (n2:i2≠z) (xi:i1≠i2) (m1:l1≠z) (m2:l2≠z) (F8:l2≠i1) (nTz:T≠z) (xh:TI≠z)
  (hz:yh s.heap z TI TO (cb T) bb) (hT:s.heap.get? T=some oT) (iM:cT s.heap TI (.ref i1) (.ref i2))
  (h1:s.heap.IsTupleIter i1 l1 k1) (Iy:s.heap.IsTupleIter i2 l2 k2) (bJ:s.heap.IsTuple l1 xs) (a_:s.heap.IsTuple l2 ys) (hx:xs[k1]?=some x) (hy:ys[k2]?=some y)
  (hQ:∀h',yh h' z TI TO (cb T) true->h'.IsTupleIter i1 l1 (k1+1)->h'.IsTupleIter i2 l2 (k2+1)->cT h' s.heap.objs.size x y->h'.objs.size=s.heap.objs.size+1->
   (∀c o,c≠z->c≠i1->c≠i2->s.heap.get? c=some o->h'.get? c=some o)->Q (.ref s.heap.objs.size) { s with heap:=h' }) :
  aw (aA prog w) A (Builtin.«zip.__next__» ⟨[.ref z],[]⟩) (fun bE s'=>∃v,bE=.done (.ret v)/\Q v s') E s:=by
 show aw _ _ (field (.ref z) 2 >>= _) _ _ _
 refine am (cD hz rfl (x:=.bool false) rfl ?_)
 show aw _ _ (field (.ref z) 3 >>= _) _ _ _
 refine am (cD hz rfl (x:=.ref TI) rfl ?_)
 refine am (lR iM rfl ?_)
 show aw _ _ (m7 (.ref z) >>= _) _ _ _
 refine am ?_
 unfold m7
 refine am (cD hz rfl (x:=cb T) rfl ?_)
 show aw _ _ (loadIfAlive ((T:Int).toNat) >>= _) _ _ _
 rw[oE]
 refine am (W.kdx_alive hT ?_)
 simp only[V4,oF,if_false]
 refine am (cD hz rfl (x:=.bool bb) rfl ?_)
 cases bb with
 | true=>
  rw[WT (show ¬((Value.bool true != Value.bool true)=true) from bY)]
  refine az ?_
  simp only[oF,if_false,<- wz,q_,oB]
  refine am (am (am (dD ?_)))
  show aw _ _ (gC (.ref i1) >>= _) _ _ _
  refine am (zu (h1) (bJ) hx fun h2 t2 b2=>az (az ?_))
  dsimp only
  refine am (am (dD ?_))
  show aw _ _ (gC (.ref i2) >>= _) _ _ _
  refine am (zu (Iy.extBut b2.extBut xi.symm) (a_.extBut b2.extBut F8) hy fun h3 t3 b3=>az (az (az ?_)))
  dsimp only
  refine am (Eg (hsz:=by show 2<=aP;decide) (az ⟨_,rfl,?_⟩))
  have sz:h3.objs.size=s.heap.objs.size:=by rw[b3.1,b2.1]
  show Q (.ref h3.objs.size) _
  have BX:yh h3 z TI TO (cb T) true:=b3.extBut _ _ n2.symm (b2.extBut _ _ n1.symm hz)
  have kk:∀c o,c≠z->c≠i1->c≠i2->s.heap.get? c=some o->h3.get? c=some o:=fun c o c1 c2 c3 e=>b3.extBut _ _ c3 (b2.extBut _ _ c2 (e))
  have tT:h3.IsTupleIter i1 l1 (k1+1):=t2.extBut b3.extBut xi
  have pp:∀c o,h3.get? c=some o->(h3.push { cls:=.type "tuple",data:=.seq #[x,y] }).get? c=some o:=fun c o e=>bo _ e
  have np:cT (h3.push { cls:=.type "tuple",data:=.seq #[x,y] }) h3.objs.size x y:=cg _ rfl
  have zp:(h3.push { cls:=.type "tuple",data:=.seq #[x,y] }).objs.size=s.heap.objs.size+1:=by rw[fZ,sz]
  rw[sz]at np |-
  exact hQ _ (pp _ _ BX) (tT.at fun o e=>pp _ o e) (t3.at fun o e=>pp _ o e) np zp fun c o c1 c2 c3 e=>pp _ _ (kk c o c1 c2 c3 e)
 | false=>
  rw[WU (show (Value.bool false != Value.bool true)=true from rfl)]
  refine am (hV hz (by simp) fun gr e1 b1=>?_)
  replace b1:dj z s.heap gr:=b1
  replace e1:yh gr z TI TO (cb T) true:=e1
  refine az ?_
  simp only[oF,if_false,<- wz,q_,oB]
  refine am (am (am (dD ?_)))
  show aw _ _ (gC (.ref i1) >>= _) _ _ _
  refine am (zu (h1.extBut b1.extBut n1) (bJ.extBut b1.extBut m1) hx fun h2 t2 b2=>az (az ?_))
  dsimp only
  refine am (am (dD ?_))
  show aw _ _ (gC (.ref i2) >>= _) _ _ _
  refine am (zu ((Iy.extBut b1.extBut n2).extBut b2.extBut xi.symm) ((a_.extBut b1.extBut m2).extBut b2.extBut F8) hy fun h3 t3 b3=>az (az (az ?_)))
  dsimp only
  refine am (Eg (hsz:=by show 2<=aP;decide) (az ⟨_,rfl,?_⟩))
  have sz:h3.objs.size=s.heap.objs.size:=by rw[b3.1,b2.1,b1.1]
  show Q (.ref h3.objs.size) _
  have BX:yh h3 z TI TO (cb T) true:=b3.extBut _ _ n2.symm (b2.extBut _ _ n1.symm e1)
  have kk:∀c o,c≠z->c≠i1->c≠i2->s.heap.get? c=some o->h3.get? c=some o:=fun c o c1 c2 c3 e=>b3.extBut _ _ c3 (b2.extBut _ _ c2 (b1.extBut _ _ c1 e))
  have tT:h3.IsTupleIter i1 l1 (k1+1):=t2.extBut b3.extBut xi
  have pp:∀c o,h3.get? c=some o->(h3.push { cls:=.type "tuple",data:=.seq #[x,y] }).get? c=some o:=fun c o e=>bo _ e
  have np:cT (h3.push { cls:=.type "tuple",data:=.seq #[x,y] }) h3.objs.size x y:=cg _ rfl
  have zp:(h3.push { cls:=.type "tuple",data:=.seq #[x,y] }).objs.size=s.heap.objs.size+1:=by rw[fZ,sz]
  rw[sz]at np |-
  exact hQ _ (pp _ _ BX) (tT.at fun o e=>pp _ o e) (t3.at fun o e=>pp _ o e) np zp fun c o c1 c2 c3 e=>pp _ _ (kk c o c1 c2 c3 e)
theorem Kt{TI TO:aa}{k1 k2:Nat}{a b:ac}(D:pS z TI TO i1 i2 l1 l2)
  (hz:IsZip s.heap z TI TO .none) (iM:cT s.heap TI (.ref i1) (.ref i2)) (mQ:cT s.heap TO a b)
  (h1:s.heap.IsTupleIter i1 l1 k1) (h2:s.heap.IsTupleIter i2 l2 k2) (bJ:s.heap.IsTuple l1 xs) (a_:s.heap.IsTuple l2 ys) (hx:xs[k1]?=some x) (hy:ys[k2]?=some y)
  (hQ:∀h',yh h' z TI TO (cb s.heap.objs.size) false->h'.IsTupleIter i1 l1 (k1+1)->h'.IsTupleIter i2 l2 (k2+1)->cT h' s.heap.objs.size x y->h'.objs.size=s.heap.objs.size+1->cT h' TO x y->
   (∀c o,c≠z->c≠TO->c≠i1->c≠i2->s.heap.get? c=some o->h'.get? c=some o)->Q (.ref s.heap.objs.size) { s with heap:=h' }) :
  aw (aA prog w) A (Builtin.«zip.__next__» ⟨[.ref z],[]⟩) (fun bE s'=>∃v,bE=.done (.ret v)/\Q v s') E s:=by
 show aw _ _ (field (.ref z) 2 >>= _) _ _ _
 refine am (cD hz rfl (x:=.bool false) rfl ?_)
 show aw _ _ (field (.ref z) 3 >>= _) _ _ _
 refine am (cD hz rfl (x:=.ref TI) rfl ?_)
 refine am (lR iM rfl ?_)
 show aw _ _ (m7 (.ref z) >>= _) _ _ _
 refine am ?_
 unfold m7
 refine am (cD hz rfl (x:=.none) rfl (az ?_))
 simp only[if_true]
 refine am (lS ?_)
 refine am (cD hz rfl (x:=.ref TO) rfl ?_)
 refine am (hV hz (by simp) fun g1 z1 b1=>?_)
 replace z1:IsZip g1 z TI TO .ellipsis:=z1
 refine am ?_
 simp only[Wh,Wg,q_,oB]
 refine am (am (Ef ?_))
 show aw _ _ (gC (.ref i1) >>= _) _ _ _
 refine am (zu (h1.extBut b1.extBut D.i1z) (bJ.extBut b1.extBut D.l1z) hx fun g2 t2 b2=>az ?_)
 have o2:cT g2 TO a b:=b2.extBut _ _ D.TOi1 (b1.extBut _ _ D.TOz mQ)
 refine am (lR o2 rfl ?_)
 refine am (To o2 fun g3 o3 b3=>?_)
 replace o3:cT g3 TO x b:=o3
 refine am (Lz (az ?_))
 refine am (am (Ef ?_))
 show aw _ _ (gC (.ref i2) >>= _) _ _ _
 refine am (zu (((h2.extBut b1.extBut D.i2z).extBut b2.extBut D.i12.symm).extBut b3.extBut D.TOi2.symm) (((a_.extBut b1.extBut D.l2z).extBut b2.extBut D.l2i1).extBut b3.extBut D.l2TO) hy fun g4 t4 b4=>az ?_)
 have o4:cT g4 TO x b:=b4.extBut _ _ D.TOi2 o3
 refine am (lR o4 rfl ?_)
 refine am (To o4 fun g5 o5 b5=>?_)
 replace o5:cT g5 TO x y:=o5
 refine am (Lz (az (az ?_)))
 refine am (lR o5 rfl ?_)
 refine am (Eg ?_)
 have sz:g5.objs.size=s.heap.objs.size:=by rw[b5.1,b4.1,b3.1,b2.1,b1.1]
 have z5:IsZip g5 z TI TO .ellipsis:=b5.extBut _ _ D.TOz.symm (b4.extBut _ _ D.i2z.symm (b3.extBut _ _ D.TOz.symm (b2.extBut _ _ D.i1z.symm z1)))
 have k5:∀c o,c≠z->c≠TO->c≠i1->c≠i2->s.heap.get? c=some o->g5.get? c=some o:=fun c o c1 c2 c3 c4 e=>b5.extBut _ _ c2 (b4.extBut _ _ c4 (b3.extBut _ _ c2 (b2.extBut _ _ c3 (b1.extBut _ _ c1 e))))
 have tT:g5.IsTupleIter i1 l1 (k1+1):=((t2.extBut b3.extBut D.TOi1.symm).extBut b4.extBut D.i12).extBut b5.extBut D.TOi1.symm
 have NB:g5.IsTupleIter i2 l2 (k2+1):=t4.extBut b5.extBut D.TOi2.symm
 have E9:z < g5.objs.size:=aS z5
 show aw _ _ (EM (.ref z) (.ref g5.objs.size) >>= _) _ _ _
 refine am ?_
 unfold EM
 have z6:IsZip (g5.push { cls:=.type "tuple",data:=.seq #[x,y] }) z TI TO .ellipsis:=bo _ z5
 refine am (hV z6 (by simp) fun g7 z7 b7=>?_)
 replace z7:IsZip g7 z TI TO (cb g5.objs.size):=z7
 refine hV z7 (by simp) fun g8 z8 b8=>?_
 replace z8:yh g8 z TI TO (cb g5.objs.size) false:=z8
 have up:∀c o,c≠z->g5.get? c=some o->g8.get? c=some o:=fun c o c1 e=>b8.extBut _ _ c1 (b7.extBut _ _ c1 (bo _ e))
 have p8:cT g8 g5.objs.size x y:=b8.extBut _ _ (m9 E9) (b7.extBut _ _ (m9 E9) (cg _ rfl))
 have s8:g8.objs.size=g5.objs.size+1:=by rw[b8.1,b7.1,fZ]
 rw[sz]at z8 p8 s8
 refine az ⟨_,rfl,?_⟩
 show Q (.ref g5.objs.size) _
 rw[sz]
 exact hQ g8 z8 (tT.at fun o e=>up _ o D.i1z e) (NB.at fun o e=>up _ o D.i2z e) p8 s8 (up _ _ D.TOz o5) fun c o c1 c2 c3 c4 e=>up c o c1 (k5 c o c1 c2 c3 c4 e)
end
abbrev jbF(h:aB)(l1:aa):aB:=h.push { cls:=.type "tuple_iterator",data:=.fields #[.ref l1,.int 0 0] }
abbrev jbE(h:aB)(l1 l2:aa):aB:=(jbF h l1).push { cls:=.type "tuple_iterator",data:=.fields #[.ref l2,.int 0 0] }
abbrev jbD(h:aB)(l1 l2:aa):aB:=(jbE h l1 l2).push { cls:=.type "tuple",data:=.seq #[.ref h.objs.size,.ref (jbF h l1).objs.size] }
abbrev jbC(h:aB)(l1 l2:aa):aB:=(jbD h l1 l2).push { cls:=.type "tuple",data:=.seq #[.none,.none] }
abbrev Kp(h:aB)(l1 l2:aa):aB:=(jbC h l1 l2).push { cls:=.type "zip",data:=.fields #[.none,.bool false,.bool false,.ref (jbE h l1 l2).objs.size,.ref (jbD h l1 l2).objs.size] }
theorem jcq(l1 l2:aa)(xs ys:Array ac):
  Meets (Builtin.«zip.__new__» ⟨[.type "zip",.ref l1,.ref l2],[]⟩) (fun _ R s=>s.heap.IsTuple l1 xs/\s.heap.IsTuple l2 ys/\R (.ok (.ret (.ref (jbC s.heap l1 l2).objs.size))) { s with heap:=Kp s.heap l1 l2 }):=
 .of_wp fun prog w A R s h=>by
  obtain⟨hp,g,d,tk,os⟩:=s;obtain⟨bJ,a_,h⟩:=h;have uM:=sub_zip;have RR:EF (Mp ⟨hp,g,d,tk,os⟩) l1 xs:=bJ;have RQ:EF (Mp ⟨hp.push { cls:=.type "tuple_iterator",data:=.fields #[.ref l1,.int 0 0] },g,d,tk,os⟩) l2 ys:=EF.push a_ _;wp_walk using sE RR,sE RQ;exact⟨_,rfl,h⟩
section
theorem Ya(bJ:s.heap.IsTuple l1 xs)(a_:s.heap.IsTuple l2 ys)
  (h:∀h',IsZip h' (s.heap.objs.size+4) (s.heap.objs.size+2) (s.heap.objs.size+3) .none->cT h' (s.heap.objs.size+2) (.ref s.heap.objs.size) (.ref (s.heap.objs.size+1))->
   cT h' (s.heap.objs.size+3) .none .none->h'.IsTupleIter s.heap.objs.size l1 0->h'.IsTupleIter (s.heap.objs.size+1) l2 0->h'.objs.size=s.heap.objs.size+5->
   (∀c o,s.heap.get? c=some o->h'.get? c=some o)->Q (.ref (s.heap.objs.size+4)) { s with heap:=h' }) :
  aw (aA prog w) A (call (.type "zip") [.ref l1,.ref l2]) Q E s:=by
 refine callType_new F.called_zip (by decide) (F.typeCall_zip_2 _ _) (F.newCall_zip_2 _ _) (fun obj=>F.args_object_init_3 obj _ _) F.entry_zip_new (jcq l1 l2 xs ys) ⟨bJ,a_,?_⟩
 have z1:(jbF s.heap l1).objs.size=s.heap.objs.size+1:=fZ ..
 have z2:(jbE s.heap l1 l2).objs.size=s.heap.objs.size+2:=by rw[fZ,z1]
 have z3:(jbD s.heap l1 l2).objs.size=s.heap.objs.size+3:=by rw[fZ,z2]
 have z4:(jbC s.heap l1 l2).objs.size=s.heap.objs.size+4:=by rw[fZ,z3]
 have z5:(Kp s.heap l1 l2).objs.size=s.heap.objs.size+5:=by rw[fZ,z4]
 have up:∀(h:aB) (o:Obj) c u,h.get? c=some u->(h.push o).get? c=some u:=fun h o c u e=>bo _ e
 have g5:(Kp s.heap l1 l2).get? (jbC s.heap l1 l2).objs.size=some _:=cg _ rfl
 have g4:(Kp s.heap l1 l2).get? (jbD s.heap l1 l2).objs.size=some _:=up _ _ _ _ (cg _ rfl)
 have g3:(Kp s.heap l1 l2).get? (jbE s.heap l1 l2).objs.size=some _:=up _ _ _ _ (up _ _ _ _ (cg _ rfl))
 have g2:(Kp s.heap l1 l2).get? (jbF s.heap l1).objs.size=some _:=up _ _ _ _ (up _ _ _ _ (up _ _ _ _ (cg _ rfl)))
 have g1:(Kp s.heap l1 l2).get? s.heap.objs.size=some _:=up _ _ _ _ (up _ _ _ _ (up _ _ _ _ (up _ _ _ _ (cg _ rfl))))
 show _/\_
 rw[z2,z3,z4]at g5
 rw[z1,z2]at g3
 rw[z3]at g4
 rw[z1]at g2
 rw[z4]
 exact⟨⟨_,g5,rfl⟩,h _ g5 g3 g4 ⟨_,g1,rfl,rfl⟩ ⟨_,g2,rfl,rfl⟩ z5 fun c o x=>up _ _ _ _ (up _ _ _ _ (up _ _ _ _ (up _ _ _ _ (up _ _ _ _ x))))⟩
end
structure ZipSt2(h:aB)(z TI TO i1 i2 l1 l2:aa)(i:Nat):Prop where
 ti:cT h TI (.ref i1) (.ref i2)
 a:h.IsTupleIter i1 l1 i
 b:h.IsTupleIter i2 l2 i
 c:(IsZip h z TI TO .none/\∃a b,cT h TO a b)\/∃(T:aa) (oT:Obj) (bb:Bool),yh h z TI TO (cb T) bb/\h.get? T=some oT/\T≠z/\T≠i1/\T≠i2
section
theorem jaS{TI TO:aa}{i:Nat}{Q:Option ac->av->Prop}(D:pS z TI TO i1 i2 l1 l2)(Z:ZipSt2 s.heap z TI TO i1 i2 l1 l2 i)(bJ:s.heap.IsTuple l1 xs)(a_:s.heap.IsTuple l2 ys)(hx:xs[i]?=some x)(hy:ys[i]?=some y)
  (hQ:∀h',ZipSt2 h' z TI TO i1 i2 l1 l2 (i+1)->cT h' s.heap.objs.size x y->(∀c o,c≠z->c≠TO->c≠i1->c≠i2->s.heap.get? c=some o->h'.get? c=some o)->Q (some (.ref s.heap.objs.size)) { s with heap:=h' }) :
  aw (aA prog w) A (cL (.ref z)) Q E s:=by
 have lt:∀{c o},s.heap.get? c=some o->s.heap.objs.size≠c:=fun e=>m9 (aS e)
 have OU:s.heap.objs.size≠i1:=by obtain⟨_,e,_⟩:=Z.a;exact lt e
 have Gi:s.heap.objs.size≠i2:=by obtain⟨_,e,_⟩:=Z.b;exact lt e
 rcases Z.c with⟨hz,a,b,mQ⟩ | ⟨T,oT,bb,hz,hT,t1,t2,t3⟩
 .have hT:s.TypeIs (.ref z) "zip":=⟨_,hz,rfl⟩
  unfold cL
  refine am (mU (lU (name:=bu "__next__") hT m6 (gA m6 hT AL ?_ (AM _))))
  exact Kt D hz Z.ti mQ Z.a Z.b bJ a_ hx hy fun h' a1 a2 a3 a4 a5 _ k=>az (hQ h' ⟨k _ _ D.TIz D.TITO D.TIi1 D.TIi2 Z.ti,a2,a3,.inr ⟨_,_,false,a1,a4,lt hz,OU,Gi⟩⟩ a4 k)
 .have nV:s.TypeIs (.ref z) "zip":=⟨_,hz,rfl⟩
  unfold cL
  refine am (mU (lU (name:=bu "__next__") nV m6 (gA m6 nV AL ?_ (AM _))))
  exact ZY D.i1z D.i2z D.i12 D.l1z D.l2z D.l2i1 t1 D.TIz hz hT Z.ti Z.a Z.b bJ a_ hx hy fun h' a1 a2 a3 a4 a5 k=>az (hQ h' ⟨k _ _ D.TIz D.TIi1 D.TIi2 Z.ti,a2,a3,.inr ⟨T,oT,true,a1,k _ _ t1 t2 t3 hT,t1,t2,t3⟩⟩ a4 fun c o c1 _ c3 c4 e=>k c o c1 c3 c4 e)
theorem jcr{TI TO:aa}{i:Nat}{Q:Option ac->av->Prop}(hh:A.handled=none)(D:pS z TI TO i1 i2 l1 l2)(Z:ZipSt2 s.heap z TI TO i1 i2 l1 l2 i)(bJ:s.heap.IsTuple l1 xs)(hx:xs[i]?=none)
  (hQ:∀h',(∀c o,c≠z->c≠i1->s.heap.get? c=some o->h'.get? c=some o)->Q none { s with heap:=h' }):aw (aA prog w) A (cL (.ref z)) Q E s:=by
 have nV:s.TypeIs (.ref z) "zip":=by
  rcases Z.c with⟨hz,_⟩ | ⟨T,oT,bb,hz,_⟩
  .exact⟨_,hz,rfl⟩
  .exact⟨_,hz,rfl⟩
 unfold cL
 refine am (mU (lU (name:=bu "__next__") nV m6 (gA m6 nV AL ?_ (AM _))))
 rcases Z.c with⟨hz,_⟩ | ⟨T,oT,bb,hz,hT,t1,t2,t3⟩
 .refine yR hh D.i1z D.l1z hz Z.ti Z.a bJ hx fun h' e k he=>?_
  obtain⟨o,ho,hc⟩:=he
  refine am (lT (T:="StopIteration") (b:=true) ⟨o,ho,hc⟩ AA ?_)
  exact az (hQ _ k)
 .refine Ks hh D.i1z D.l1z hz hT Z.ti Z.a bJ hx fun h' e k he=>?_
  obtain⟨o,ho,hc⟩:=he
  refine am (lT (T:="StopIteration") (b:=true) ⟨o,ho,hc⟩ AA ?_)
  exact az (hQ _ k)
end
end PySem
namespace L2
open PySem PySem.Spec PyProof.Rows PySem.W
theorem ZipSt2.keepD{h h':aB}{z TI TO i1 i2 l1 l2 d:aa}{i:Nat}(Z:ZipSt2 h z TI TO i1 i2 l1 l2 i)(xh:TI≠d)(n1:i1≠d)(n2:i2≠d)(nz:z≠d)(xg:TO≠d)(hd:∃o,h'.get? d=some o)(k:∀b o,b≠d->h.get? b=some o->h'.get? b=some o):ZipSt2 h' z TI TO i1 i2 l1 l2 i:=by
 refine⟨k _ _ xh Z.ti,Z.a.at fun o e=>k _ o n1 e,Z.b.at fun o e=>k _ o n2 e,?_⟩;rcases Z.c with⟨hz,a,b,mQ⟩ | ⟨T,oT,bb,hz,hT,t1,t2,t3⟩
 .exact .inl ⟨k _ _ nz hz,a,b,k _ _ xg mQ⟩
 .refine .inr ⟨T,?_⟩
  by_cases e:T=d
  .obtain⟨o,ho⟩:=hd
   exact⟨o,bb,k _ _ nz hz,by rw[e];exact ho,t1,t2,t3⟩
  .exact⟨oT,bb,k _ _ nz hz,k _ _ e hT,t1,t2,t3⟩
section
variable {prog:aF}{w:aE}{A:aR}{E:ac->av->Prop}{R:l7->av->Prop}
theorem jaU{d z TI TO i1 i2 l1 l2:aa}{xs ys:List ac}{names:List Str}{vs:List V}(hh:A.handled=none)(D:pS z TI TO i1 i2 l1 l2)(xh:TI≠d)(n1:i1≠d)(n2:i2≠d)(nz:z≠d)(xg:TO≠d)(m1:l1≠d)(m2:l2≠d)
  (rx:Vals (names.map V.str) xs) (ry:Vals vs ys) (hl:names.length=vs.length) (nd:names.Nodup) (hz:names.length<=aP) :
  ∀(k i:Nat) (s:av) (bp:List (Key×ac)),i+k=names.length->ZipSt2 s.heap z TI TO i1 i2 l1 l2 i->s.heap.IsTuple l1 xs.toArray->s.heap.IsTuple l2 ys.toArray->s.heap.DictOf (kf prog w) d bp->KV (zKV (names.take i) (vs.take i)) bp->
   (∀h' tk vP,(∀b o,b≠d->b≠z->b≠TO->b≠i1->b≠i2->s.heap.get? b=some o->h'.get? b=some o)->h'.DictOf (kf prog w) d vP->KV (zKV names vs) vP->R (.ok (.ret .none)) { s with heap:=h',toks:=tk })->
   ∀c:Int,eU (aA prog w) A (.builtin "dict.update.loop" ⟨[.ref d,.ref z,cb c,.none],[]⟩) R s:=by
 intro k
 have lx:=rx.length
 have ly:=ry.length
 rw[ax]at lx
 induction k with
 | zero=>
  intro i s bp hk Z ht a_ hd fL hR c
  have cI:i=names.length:=by omega
  refine lX yC ?_
  rw[ou qN _]
  show aw _ A.in1 (cL (.ref z) >>= _) _ _ s
  refine am (jcr (A:=A.in1) hh D Z ht (by simp;omega) fun h1 rU=>?_)
  show aw _ A.in1 (Builtin.Dict.addKeywords d [] >>= _) _ _ _
  refine am (az (az ?_))
  obtain⟨o,es,ep,ho,x⟩:=hd
  subst cI
  rw[bX,hl,bX]at fL
  exact hR h1 s.toks bp (fun b o _ b2 _ b4 _ e=>rU b o b2 b4 e) ⟨o,es,ep,rU d o (bB nz) (bB n1) ho,x⟩ fL
 | succ k ih=>
  intro i s bp hk Z ht a_ hd fL hR c
  have bz:i < names.length:=by omega
  have oV:(names.map V.str)[i]?=some (.str names[i]):=by rw[bF,aI bz];rfl
  have ny:vs[i]?=some (vs[i]'(by omega+splitNatSub)):=aI (by omega)
  obtain⟨x,ex,NK⟩:=rx.get oV
  obtain⟨y,ey,NJ⟩:=ry.get ny
  refine lX yC ?_
  rw[ou qN _]
  show aw _ A.in1 (cL (.ref z) >>= _) _ _ s
  refine am (jaS D Z ht a_ (x:=x) (y:=y) (by simpa using ex) (by simpa using ey) fun h1 Z1 dM k1=>?_)
  have bS:h1.IsTuple l1 xs.toArray:=ht.at fun o e=>k1 _ o D.l1z D.l1TO D.l1i1 D.l1i2 e
  have QL:h1.IsTuple l2 ys.toArray:=a_.at fun o e=>k1 _ o D.l2z D.l2TO D.l2i1 D.l2i2 e
  have Rn:h1.DictOf (kf prog w) d bp:=by
   obtain⟨o,es,ep,ho,x⟩:=hd;exact⟨o,es,ep,k1 d o (bB nz) (bB xg) (bB n1) (bB n2) ho,x⟩
  dsimp only
  refine am (dD (am (wpAny_tryCatch (jag dM ?_))))
  dsimp only
  have hal:bp.length=i:=by
   have:=EB fL;unfold zKV at this;rw[ax,tf,bK,bK]at this;omega
  refine dD (TC (k:=(Sum.inr names[i]:Key)) (KR (k:=Sum.inr names[i]) NK) Rn (fun h2 gT o0=>?_) (by omega))
  refine az ⟨pP qN _,?_⟩
  have fP:∀b o,b≠d->h1.get? b=some o->h2.get? b=some o:=fun b o hb e=>(o0.2 b hb).trans e
  have fresh:(bp.any fun kv=>decide (kv.1=(Sum.inr names[i]:Key)))=false:=by
   rw[WH];intro kv hm;have h1:kv.1∈bp.map (·.1):=ci.mpr ⟨kv,hm,rfl⟩;rw[jfy fL]at h1;unfold zKV at h1;rw[M8]at h1;obtain⟨q,hq,e⟩:=ci.mp h1;intro zz;have z':kv.1=Sum.inr names[i]:=WP zz;rw[<- e]at z';have Cg:q.1=names[i]:=mT z';have iB:names[i]∈names.take i:=by
    rw[<- Cg];exact (EW hq).1
   obtain⟨j,hj,vf⟩:=AW.mp iB;rw[bK]at hj;rw[EZ]at vf;exact (EV.mp nd) j i (by omega) bz (by omega) vf
  have df:stored bp (Sum.inr names[i]) y=bp++[((Sum.inr names[i]:Key),y)]:=by
   unfold stored;rw[fresh,WT bY]
  rw[df]at gT
  have QP:KV (zKV (names.take (i+1)) (vs.take (i+1))) (bp++[((Sum.inr names[i]:Key),y)]):=by
   have e1:zKV (names.take (i+1)) (vs.take (i+1))=zKV (names.take i) (vs.take i)++[((Sum.inr names[i]:Key),vs[i]'(by omega+splitNatSub))]:=by
    unfold zKV;rw[bP,aI bz,bP,ny,EU (by rw[bK,bK];omega),aW];rfl
   rw[e1];exact jfx fL NJ
  have C5:∃o,h2.get? d=some o:=by obtain⟨o,es,ep,ho,_⟩:=gT;exact⟨o,ho⟩
  exact ih (i+1) { s with heap:=h2,toks:=_ } _ (by omega) (ZipSt2.keepD Z1 xh n1 n2 nz xg C5 fP) (bS.at fun o e=>fP _ o m1 e) (QL.at fun o e=>fP _ o m2 e) gT QP (fun h' tk vP pj gm CP=>hR h' tk vP (fun b o b1 b2 b3 b4 b5 e=>pj b o b1 b2 b3 b4 b5 (fP b o b1 (k1 b o b2 b3 b4 b5 e))) gm CP) (c+1)
end
def jhE(K:aC)(t:TA):TE:=fun σ H Q=>t σ H fun vs H1=>∃(a b:aa) (names:List Str) (ys:List V),vs=[.ref a,.ref b]/\SqT K H1 a (names.map V.str)/\SqT K H1 b ys/\names.length=ys.length/\names.Nodup/\names.length<=1000/\
 ∀l:aa,H1 l=none->Q (.ref l) (upd H1 l (.dK (zKV names ys)))
end L2
namespace PySem
section
variable {prog:aF}{w:aE}{A:aR}{E:ac->av->Prop}{s:av}
structure ZipFo(h:aB)(z TI TO i1 i2 l1 l2:aa)(i:Nat):Prop where
 zz:IsZip h z TI TO .none
 ti:cT h TI (.ref i1) (.ref i2)
 to:∃a b,cT h TO a b
 a:h.IsTupleIter i1 l1 i
 b:h.IsTupleIter i2 l2 i
theorem jcs{z TI TO i1 i2 l1 l2:aa}{i:Nat}{xs ys:Array ac}{x y:ac}{Q:Option ac->av->Prop}(D:pS z TI TO i1 i2 l1 l2)(Z:ZipFo s.heap z TI TO i1 i2 l1 l2 i)(bJ:s.heap.IsTuple l1 xs)(a_:s.heap.IsTuple l2 ys)(hx:xs[i]?=some x)(hy:ys[i]?=some y)
  (hQ:∀h',IsZip h' z TI TO (cb s.heap.objs.size)->h'.IsTupleIter i1 l1 (i+1)->h'.IsTupleIter i2 l2 (i+1)->cT h' s.heap.objs.size x y->h'.objs.size=s.heap.objs.size+1->(∃a b,cT h' TO a b)->(∀c o,c≠z->c≠TO->c≠i1->c≠i2->s.heap.get? c=some o->h'.get? c=some o)->Q (some (.ref s.heap.objs.size)) { s with heap:=h' }) :
  aw (aA prog w) A (cL (.ref z)) Q E s:=by
 have hz:=Z.zz
 obtain⟨a,b,mQ⟩:=Z.to
 have hT:s.TypeIs (.ref z) "zip":=⟨_,hz,rfl⟩
 unfold cL
 refine am (mU (lU (name:=bu "__next__") hT m6 (gA m6 hT AL ?_ (AM _))))
 exact Kt D hz Z.ti mQ Z.a Z.b bJ a_ hx hy fun h' a1 a2 a3 a4 a5 a6 k=>az (hQ h' a1 a2 a3 a4 a5 ⟨x,y,a6⟩ k)
theorem jdj{z TI TO i1 i2 l1 l2:aa}{i:Nat}{xs:Array ac}{Q:Option ac->av->Prop}(hh:A.handled=none)(D:pS z TI TO i1 i2 l1 l2)(Z:ZipFo s.heap z TI TO i1 i2 l1 l2 i)(bJ:s.heap.IsTuple l1 xs)(hx:xs[i]?=none)
  (hQ:∀h',(∀c o,c≠z->c≠i1->s.heap.get? c=some o->h'.get? c=some o)->Q none { s with heap:=h' }):aw (aA prog w) A (cL (.ref z)) Q E s:=by
 have hz:=Z.zz
 have nV:s.TypeIs (.ref z) "zip":=⟨_,hz,rfl⟩
 unfold cL
 refine am (mU (lU (name:=bu "__next__") nV m6 (gA m6 nV AL ?_ (AM _))))
 refine yR hh D.i1z D.l1z hz Z.ti Z.a bJ hx fun h' e k he=>?_
 obtain⟨o,ho,hc⟩:=he
 refine am (lT (T:="StopIteration") (b:=true) ⟨o,ho,hc⟩ AA ?_)
 exact az (hQ _ k)
end
end PySem
namespace L2
open PySem PySem.Spec PyProof.Rows
def jeX(K:aC)(l1 l2:aa):It:=
 ⟨fun i H=>∃xs ys x y,SqT K H l1 xs/\SqT K H l2 ys/\xs[i]?=some x/\ys[i]?=some y,fun i H x H'=>∃t a b,H t=none/\(∀xs,SqT K H l1 xs->xs[i]?=some a)/\(∀ys,SqT K H l2 ys->ys[i]?=some b)/\x=.ref t/\H'=upd H t (.tup [a,b]),fun i H=>∃xs,SqT K H l1 xs/\xs.length<=i⟩
variable {eQ:List ay}{x1:Nat}{tp:Pos}
theorem jdz{P:aF}{w:aE}{K:aC}(l1 l2 z TI TO i1 i2:aa)(D:pS z TI TO i1 i2 l1 l2):Turn P w K (.Tuple eQ x1 tp) (jeX K l1 l2) [z,TI,TO,i1,i2] z (fun i h=>ZipFo h z TI TO i1 i2 l1 l2 i) where
 mem:=by simp
 obj:=fun i h st b hb=>by
  obtain⟨zz,ti,⟨a,b',to⟩,⟨o1,e1,c1,d1⟩,⟨o2,e2,c2,d2⟩⟩:=st;simp only[aM,AV,or_false]at hb;rcases hb with rfl | rfl | rfl | rfl | rfl
  .exact⟨_,zz,fun v z=>by cases z⟩
  .exact⟨_,ti,fun v z=>by cases z⟩
  .exact⟨_,to,fun v z=>by cases z⟩
  .exact⟨o1,e1,fun v z=>by rw[d1]at z;cases z⟩
  .exact⟨o2,e2,fun v z=>by rw[d2]at z;cases z⟩
 keep:=fun i h h' st k=>by
  obtain⟨zz,ti,⟨a,b',to⟩,⟨o1,e1,c1,d1⟩,⟨o2,e2,c2,d2⟩⟩:=st;exact⟨k z (by simp) _ zz,k TI (by simp) _ ti,⟨a,b',k TO (by simp) _ to⟩,⟨o1,k i1 (by simp) o1 e1,c1,d1⟩,⟨o2,k i2 (by simp) o2 e2,c2,d2⟩⟩
 item:=by
  intro X hP hw hK hc i ah s σ H E I hf st hg;subst hP hw hK;obtain⟨xs,ys,x,y,xG,uQ,hx,hy⟩:=hg;obtain⟨BV,FN,p1,ir⟩:=I.tuple xG;obtain⟨cM,FM,p2,uE⟩:=I.tuple uQ;obtain⟨u1,xA,NN⟩:=FN.get hx;obtain⟨u2,nA,NM⟩:=FM.get hy;obtain⟨a0,a1,a2,a3,a4,a5⟩:=hf z (by simp);obtain⟨b0,b1,b2,b3,b4,b5⟩:=hf TO (by simp);obtain⟨c0,c1,c2,c3,c4,c5⟩:=hf i1 (by simp);obtain⟨d0,d1,d2,d3,d4,d5⟩:=hf i2 (by simp);obtain⟨t0,_⟩:=hf TI (by simp);refine jcs D st (show s.heap.IsTuple l1 BV.toArray from p1) (show s.heap.IsTuple l2 cM.toArray from p2) (x:=u1) (y:=u2) (by simpa using xA) (by simpa using nA) fun h' o1 o2 o3 o4 o5 o6 ok=>?_
  refine⟨_,rfl,wpAny_letOwnedTupleGo_zip (s:={ s with heap:=h' }) o1 fun h2 g1 g2=>?_⟩;have hfr:H s.heap.objs.size=none:=I.hok.fresh (aL _);have kp:∀b o,b≠z->b≠TO->b≠i1->b≠i2->s.heap.get? b=some o->h2.get? b=some o:=fun b o e1 e2 e3 e4 q=>(g2.2 b e1).trans (ok b o e1 e2 e3 e4 q)
  have nt:∀b o,s.heap.get? b=some o->b≠s.heap.objs.size:=fun b o q=>bv (aS q)
  have ne:∀b v,H b=some v->b≠z/\b≠TO/\b≠i1/\b≠i2:=fun b v q=>⟨fun t=>(by rw[t,a0]at q;cases q),fun t=>(by rw[t,b0]at q;cases q),fun t=>(by rw[t,c0]at q;cases q),fun t=>(by rw[t,d0]at q;cases q)⟩
  have pw:s.heap.objs.size≠z:=fun e=>absurd (aS st.zz) (by rw[<- e];exact iX _)
  have kc:∀b o,b ∉ [z,TO,i1,i2]->s.heap.get? b=some o->h2.get? b=some o:=fun b o aU q=>kp b o (fun z=>aU (by simp[z])) (fun z=>aU (by simp[z])) (fun z=>aU (by simp[z])) (fun z=>aU (by simp[z])) q
  have I1:Inv X ah σ (upd H s.heap.objs.size (.tup [x,y])) { s with heap:=h2,gens:=s.gens,drawn:=s.drawn,toks:=s.toks }:=by
   refine I.step (g':=s.gens) (d':=s.drawn) (ch:=[z,TO,i1,i2]) (fun b hb=>?_) (fun b o _ _ aU q _=>kc b o aU q) (fun b o _ _ aU q _=>⟨o.slots,kc b o aU q⟩)
    (fun b o _ q n=>by rw[jw (nt b o q)];exact n) (fun b o aU q=>⟨o,kc b o aU q⟩) (fun b ys q=>by rw[jw (jr q hfr)];exact q) (fun b o z q=>by rw[jw (jr q hfr)];exact q)
    (fun b ps q=>⟨#[],by rw[jw (jr q hfr),q];simp⟩) (fun m hm=>?_) (fun b v q=>?_) I.bare
   .simp only[aM,AV,or_false]at hb
    rcases hb with rfl | rfl | rfl | rfl
    .exact⟨a3,a1,a4,a5⟩
    .exact⟨b3,b1,b4,b5⟩
    .exact⟨c3,c1,c4,c5⟩
    .exact⟨d3,d1,d4,d5⟩
   .obtain⟨o,es,ep,ho,r⟩:=hm
    exact⟨o,es,ep,kp _ o (bB a1) (bB b1) (bB c1) (bB d1) ho,r⟩
   .by_cases hb:b=s.heap.objs.size
    .subst hb
     rw[jd]at q
     cases q
     refine⟨?_,[u1,u2],.cons NN (.cons NM .nil),_,(g2.2 _ pw).trans o4,rfl,0,rfl⟩;show 2<=aP;rw[fX];decide
    .rw[jw hb]at q
     refine (I.hok b v q).stay (fun c v' aU q'=>?_) (fun c q'=>by rw[jw (jr q' hfr)];exact q') fun c ys q'=>by rw[jw (jr q' hfr)];exact q'
     rcases aU with rfl | aU
     .obtain⟨n1,n2,n3,n4⟩:=ne c v q
      exact kp c v' n1 n2 n3 n4 q'
     .obtain⟨n1,n2,n3,n4⟩:=ne c _ aU
      exact kp c v' n1 n2 n3 n4 q'
  have nz:∀b,b≠z->∀o,h'.get? b=some o->h2.get? b=some o:=fun b hb o q=>(g2.2 b hb).trans q
  obtain⟨q1,q2,mQ⟩:=o6;refine⟨.ref s.heap.objs.size,_,I1,rfl,⟨_,x,y,hfr,fun Ng ck=>by rw[I.tuple_inj ck xG];exact hx,fun Ng ck=>by rw[I.tuple_inj ck uQ];exact hy,rfl,rfl⟩,⟨g1,?_,⟨q1,q2,nz TO D.TOz _ mQ⟩,o2.at fun o e=>nz _ D.i1z o e,o3.at fun o e=>nz _ D.i2z o e⟩,fun b hb=>?_⟩
  .exact kp TI _ D.TIz D.TITO D.TIi1 D.TIi2 st.ti
  .have bz:∀b,H b=none->(∃o,s.heap.get? b=some o)->upd H s.heap.objs.size (.tup [x,y]) b=none:=fun b h1 ⟨o,h2⟩=>by rw[jw (nt b o h2)];exact h1
   simp only[aM,AV,or_false]at hb;obtain⟨s1,s2,⟨a',b',s3⟩,⟨p,s4,_⟩,⟨p',s5,_⟩⟩:=st;rcases hb with rfl | rfl | rfl | rfl | rfl
   .exact bz _ a0 ⟨_,s1⟩
   .exact bz _ t0 ⟨_,s2⟩
   .exact bz _ b0 ⟨_,s3⟩
   .exact bz _ c0 ⟨_,s4⟩
   .exact bz _ d0 ⟨_,s5⟩
 done:=by
  intro X hP hw hK hc i ah s σ H E I hf st hg;subst hP hw hK;obtain⟨xs,hq,hx⟩:=hg;obtain⟨its,rv,p,hz⟩:=I.tuple hq;obtain⟨a0,a1,a2,a3,a4,a5⟩:=hf z (by simp);obtain⟨c0,c1,c2,c3,c4,c5⟩:=hf i1 (by simp);have hl:=rv.length;refine jdj (I.ok.hd hc) D st (show s.heap.IsTuple l1 its.toArray from p) (by simp;omega) fun h' eb=>⟨rfl,?_⟩
  have kc:∀b o,b ∉ [z,i1]->s.heap.get? b=some o->h'.get? b=some o:=fun b o aU q=>eb b o (fun z=>aU (by simp[z])) (fun z=>aU (by simp[z])) q
  have ne:∀b v,H b=some v->b≠z/\b≠i1:=fun b v q=>⟨fun t=>(by rw[t,a0]at q;cases q),fun t=>(by rw[t,c0]at q;cases q)⟩
  refine I.step (t':=s.toks) (g':=s.gens) (d':=s.drawn) (ch:=[z,i1]) (fun b hb=>?_) (fun b o _ _ aU q _=>kc b o aU q) (fun b o _ _ aU q _=>⟨o.slots,kc b o aU q⟩)
    (fun b o _ q n=>n) (fun b o aU q=>⟨o,kc b o aU q⟩) (fun b ys q=>q) (fun b o z q=>q) (fun b ps q=>⟨#[],by rw[q];simp⟩) (fun m hm=>?_) (fun b v q=>?_) I.bare
  .simp only[aM,AV,or_false]at hb
   rcases hb with rfl | rfl
   .exact⟨a3,a1,a4,a5⟩
   .exact⟨c3,c1,c4,c5⟩
  .obtain⟨o,es,ep,ho,r⟩:=hm
   exact⟨o,es,ep,eb _ o (bB a1) (bB c1) ho,r⟩
  .refine (I.hok b v q).stay (fun c v' aU q'=>?_) (fun c q'=>q') fun c ys q'=>q'
   rcases aU with rfl | aU
   .exact eb c v' (ne c v q).1 (ne c v q).2 q'
   .exact eb c v' (ne c _ aU).1 (ne c _ aU).2 q'
 self:=fun _ _ _ _ _ st h=>Lw st.zz h
variable {X:Cx}
section
def jhQ(K:aC)(ta:TA):TI:=fun σ H R=>ta σ H fun vs H1=>∃l1 l2,vs=[.ref l1,.ref l2]/\(∃xs,SqT K H1 l1 xs)/\(∃ys,SqT K H1 l2 ys)/\R (jeX K l1 l2) H1
theorem ZD{K:aC}{l1 l2:aa}{xs ys:List V}{g:TG}{tb:TS}{D:Ends}{σ:St}{H:Hp}(Pv:Nat->St->Hp->Prop)(hlen:xs.length=ys.length)(h0:Pv 0 σ H)(hl:∀i σ H,i<=xs.length->Pv i σ H->SqT K H l1 xs/\SqT K H l2 ys)
  (hs:∀i x y σ H t,xs[i]?=some x->ys[i]?=some y->Pv i σ H->H t=none->g (.ref t) σ (upd H t (.tup [x,y])) fun σ2 H2=>tb { D with nx:=Pv (i+1),ct:=Pv (i+1),bk:=D.nx } σ2 H2) (hd:∀σ H,Pv xs.length σ H->D.nx σ H) :
  ∃W:Nat->Nat->St->Hp->Prop,(∃m,W 0 m σ H)/\∀i m σ H,W i m σ H->
   ((jeX K l1 l2).stop i H/\D.nx σ H)\/((jeX K l1 l2).go i H/\∃N:St->Hp->Prop,(∀σ' H',N σ' H'->∃m',m' < m/\W (i+1) m' σ' H')/\∀x H',(jeX K l1 l2).yld i H x H'->g x σ H' fun σ2 H2=>tb { D with nx:=N,ct:=N,bk:=D.nx } σ2 H2):=by
 refine⟨fun i m σ H=>m=xs.length - i/\i<=xs.length/\Pv i σ H,⟨xs.length,by simp,cy _,h0⟩,?_⟩
 rintro i m σ H ⟨rfl,hi,p⟩
 obtain⟨q1,q2⟩:=hl i σ H hi p
 by_cases bz:i < xs.length
 .refine .inr ⟨⟨xs,ys,xs[i],ys[i]'(by omega+splitNatSub),q1,q2,by simp[bz],aI _⟩,Pv (i+1),fun σ' H' p'=>⟨xs.length - (i+1),by omega,rfl,bz,p'⟩,fun x H' y=>?_⟩
  obtain⟨t,a,b,ht,ha,hb,rfl,rfl⟩:=y
  exact hs i a b σ H t (ha xs q1) (hb ys q2) p ht
 .have:i=xs.length:=by omega
  subst this
  exact .inl ⟨⟨xs,q1,aL _⟩,hd σ H p⟩
end
theorem jco{p pos p2 Bt:Pos}{e1 e2:ay}{t:TA}(hc:X.calm=true)(hg:Gl X "dict")(hm:X.mg "dict" = none)(hv:dW "dict" = some (.type "dict"))(C2:Gl X "zip")(xO:X.mg "zip" = none)(oX:dW "zip" = some (.type "zip"))(ha:QA X [e1,e2] t)(dM:qb e1=true:=by rfl)(uT:qb e2=true:=by rfl):
  QE X (.Call (.Name "dict" p) [.Call (.Name "zip" p2) [e1,e2] [] Bt] [] pos) (jhE X.K t):=⟨by
 intro ah s σ H Q I h
 refine sJ (yc I hg hm hv ?_)
 refine sX ?_ rfl rfl
 show aw _ _ (spliced [(false,eval (.Call (.Name "zip" p2) [e1,e2] [] Bt) X.env)]) _ _ s
 refine EK ?_
 refine sJ (yc I C2 xO oX ?_)
 refine sX (thn (ha.h Bt ah s σ H _ I h) fun us s1 z=>?_) (qo dM _ _) (zL _ _ [e2] (by simp[uT]))
 obtain⟨vs,H1,I1,r1,a,b,names,ys,rfl,gh,hb,hl,nd,hz,q⟩:=z
 clear I h
 obtain⟨u1,u2,rfl,Bn,Bm⟩:=jbI r1
 cases Bn
 cases Bm
 obtain⟨xs,rx,B8,_⟩:=I1.tuple gh
 obtain⟨its,ry,CF,_⟩:=I1.tuple hb
 refine Ya B8 CF fun h' zz zp zo Nc Nb zs zk=>?_
 refine ME ?_
 have HR:(h'.objs.size == lV)=false:=by
  have:=I1.big;exact WV.mpr (by rw[zs];exact m9 (cz this (p4 _ _)))
 refine callType_codes (Q₁:=fun obj s₁=>obj=.ref h'.objs.size/\s₁={ s1 with heap:=h'.push { cls:=.type "dict",data:=.dict #[] } }) PySem.F.kt_called_dict (PySem.F.kt_typeCall_dict_1 _) PySem.F.entry_dict_init (PySem.kt_code_dict_new _ ⟨rfl,rfl⟩) ?_
 rintro obj s₁ ⟨rfl,rfl⟩
 have bI:(h'.push { cls:=.type "dict",data:=.dict #[] }).DictOf (kf X.prog X.w) h'.objs.size []:=Vp h'
 have dM:∀b o,h'.get? b=some o->(h'.push { cls:=.type "dict",data:=.dict #[] }).get? b=some o:=fun b o e=>bo _ e
 refine⟨bI.typeIs,PySem.F.args_dict_init_2 _ _,?_⟩
 unfold Builtin.«dict.__init__»
 refine am ?_
 unfold Builtin.Dict.selfAndRest
 refine am (wpAny_notOrdered_dict bI.typeIs ?_)
 show aw _ _ (pure (h'.objs.size,[Value.ref (s1.heap.objs.size+4)])) _ _ _
 refine az ?_
 show aw _ _ (VQ "dict.__init__" h'.objs.size (.ref (s1.heap.objs.size+4)) [] .none) _ _ _
 unfold VQ
 have mG:=dM _ _ zz
 refine am (vX (T:="zip") ⟨_,mG,rfl⟩ ?_)
 rw[WU (by decide)]
 refine am (PySem.nokeysZ (show X.A.in1.in1.handled=none from I1.ok.hd hc) mG fun h2 t2 k2=>?_)
 rw[WU (show (none:Option ac).isNone=true from rfl)]
 have mz:∀c o,h'.get? c=some o->h2.get? c=some o:=fun c o e=>k2 c o (dM c o e)
 refine am (lS (am (Lw (show IsZip h2 _ _ _ .none from mz _ _ zz) ?_)))
 refine az ⟨pP qN _,?_⟩
 have gT:h2.DictOf (kf X.prog X.w) h'.objs.size []:=by
  obtain⟨o,es,ep,ho,x⟩:=bI;exact⟨o,es,ep,k2 _ _ ho,x⟩
 have xk:a < s1.heap.objs.size:=by obtain⟨o,e,_⟩:=B8;exact aS e
 have xj:b < s1.heap.objs.size:=by obtain⟨o,e,_⟩:=CF;exact aS e
 generalize hS:s1.heap.objs.size=S at *
 have D:=Yr xk xj
 rw[zs]at gT HR |-
 refine jaU (A:=X.A.in1) (xs:=xs) (ys:=its) (names:=names) (vs:=ys) (show X.A.in1.handled=none from I1.ok.hd hc) D (nlt (by omega)) (nlt (by omega)) (nlt (by omega)) (nlt (by omega)) (nlt (by omega)) (bv (cz xk (p4 _ _))) (bv (cz xj (p4 _ _))) rx ry hl nd (cu (jz hz)) names.length 0 _ [] (by omega) ⟨mz _ _ zp,Nc.at fun o e=>mz _ o e,Nb.at fun o e=>mz _ o e,.inl ⟨mz _ _ zz,_,_,mz _ _ zo⟩⟩ (Heap.IsTuple.at B8 fun o e=>mz _ o (zk _ o e)) (Heap.IsTuple.at CF fun o e=>mz _ o (zk _ o e)) gT .nil ?_ 0
 intro h3 tk vP hk gm CP
 refine⟨rfl,.ref (S+5),_,I1.laid (t':=tk) (fun c o e=>?_) (by omega) (ZH (kvs:=zKV names ys) ?_ HR CP gm),rfl,q _ (I1.hok.fresh (by omega))⟩
 .have lc:=aS e
  rw[hS]at lc
  have g:∀k,c≠S+k:=fun k=>bv (cz lc (p4 _ _))
  exact hk c o (g 5) (g 4) (g 3) (g 0) (g 1) (mz _ _ (zk _ _ e))
 .unfold zKV
  rw[ax,tf,<- hl,Nat.min_self]
  exact cu (jz hz)⟩
theorem Y6{a b:ay}{ta:TA}{p pos:Pos}(hg:Gl X "zip")(hm:X.mg "zip" = none)(ha:QA X [a,b] ta)(dM:qb a=true:=by rfl)(uT:qb b=true:=by rfl):QI X (.Tuple eQ x1 tp) (.Call (.Name "zip" p) [a,b] [] pos) (jhQ X.K ta):=⟨by
 intro ah s σ H R I h;refine Call_ (yc I hg hm jeT (sX (thn (ha.h pos ah s σ H _ I h) fun us s1 hM=>?_) (qo dM _ _) (zL _ _ [b] (by simp[uT]))));obtain⟨vs,H1,I1,r1,q1⟩:=hM;obtain⟨l1,l2,e,⟨xs,xG⟩,⟨ys,uQ⟩,q⟩:=q1;subst e;obtain⟨u1,u2,rfl,Bn,Bm⟩:=jbI r1
 cases Bn
 cases Bm
 obtain⟨BV,FN,p1,ir⟩:=I1.tuple xG;obtain⟨cM,FM,p2,uE⟩:=I1.tuple uQ;have xk:l1 < s1.heap.objs.size:=by obtain⟨o,e,_⟩:=p1;exact aS e
 have xj:l2 < s1.heap.objs.size:=by obtain⟨o,e,_⟩:=p2;exact aS e
 refine Ya (show s1.heap.IsTuple l1 BV.toArray from p1) (show s1.heap.IsTuple l2 cM.toArray from p2) fun h' g1 g2 g3 g4 g5 g6 g7=>?_
 refine Lw (s:={ s1 with heap:=h' }) g1 ?_;have I2:Inv X ah σ H1 { s1 with heap:=h' }:=I1.kept (t':=s1.toks) g7;refine⟨s1.heap.objs.size+4,[s1.heap.objs.size+4,s1.heap.objs.size+2,s1.heap.objs.size+3,s1.heap.objs.size,s1.heap.objs.size+1],_,_,_,rfl,I2,jdz l1 l2 _ _ _ _ _ (Yr xk xj),⟨g1,g2,⟨_,_,g3⟩,g4,g5⟩,fun b hb=>?_,q⟩;have bQ:s1.heap.objs.size<=b:=by
  simp only[aM,AV,or_false]at hb;rcases hb with rfl | rfl | rfl | rfl | rfl
  .exact p4 _ _
  .exact p4 _ _
  .exact p4 _ _
  .exact aL _
  .exact p4 _ _
 exact I1.fpOk bQ (I1.hok.fresh bQ)⟩
end L2
namespace LW
open PySem L2
abbrev qz:aJ:=top 31
abbrev qR:aJ:=top 34
abbrev qS:aJ:=top 30
def jas(r:Str):D:=.tup [.str "lose",.str r]
def jgH(x:Str):D:=.tup [.str "any",.str x]
def jad(y a:Str):D:=.tup [.str "set",.str y,.tup [.str "is",.str a],.int 0]
def qj(f y:Str):Str:=f++("." : Str)++y
def zC(g:Str)(p:Pc)(rows:List Str)(x:Str):Str:=if x = "" then "" else if x∈p.ps then qj g x else ((p.rs.zip rows).lookup x).getD x
def JD(g:Str)(p:Pc)(rows:List Str)(x0 x:Str):Str:=if x = "out" then x0 else zC g p rows x
def jU(g:Str)(ps as:List Str):List D:=(ps.zip as).map fun q=>jad (qj g q.1) q.2
def zO(g:Str)(p:Pc)(rows:List Str)(x0:Str):List D:=rows.map jas++[jgH x0]++(p.gv.map (Cl.say (JD g p rows x0))).map jG
def Sm.walk(f:Str)(pr:Str->Pc)(path:List Int)(aq:List (List D)):Sm->List Du×List (List D)
 | .claim C=>(ki f "claim" path aq [C],aq)
 | .call x g as rows=>(ki f "need" path (aq.map (·++jU g (pr g).ps as)) ((pr g).nd.map (Cl.say (zC g (pr g) rows))),(aq.map (·++jU g (pr g).ps as)).map (·++zO g (pr g) rows x))
 | S=>([],aq.map (·++[S.toD]))
structure CalOk(g:Str)(p:Pc):Prop where
 rs:p.rs.Nodup
 psl:p.ps.length<=6
 rsl:p.rs.length<=6
 nd:p.nd.length<=20
 gv:p.gv.length<=10
 gl:g.length<=100
 yl:∀y∈p.ps,y.length<=100
 ye:∀y∈p.ps,y≠""
def ProcsAt(G:Hp)(dp:aa)(gs:List Str)(pr:Str->Pc):Prop:=∃kvs,G dp=some (.dK kvs)/\∀g∈gs,∃v,qt kvs (Sum.inr g)=some v/\Held G (pr g).toD v
variable {dp ml:aa}{gs:List Str}{pr:Str->Pc}
theorem ProcsAt.keep{G G':Hp}{xs:List V}(k:∀b o,b≠ml->G b=some o->G' b=some o)(h:G ml=some (.lst xs))(hp:ProcsAt G dp gs pr):ProcsAt G' dp gs pr:=by
 obtain⟨kvs,e,hh⟩:=hp;refine⟨kvs,k _ _ (fun z=>by rw[z,h]at e;cases e) e,fun g hg=>?_⟩;obtain⟨v,e1,e2⟩:=hh g hg;exact⟨v,e1,(jR k h).held e2⟩
theorem ProcsAt.mono{G G':Hp}(s:Same G G')(hp:ProcsAt G dp gs pr):ProcsAt G' dp gs pr:=by
 obtain⟨kvs,e,hh⟩:=hp;refine⟨kvs,s _ _ e,fun g hg=>?_⟩;obtain⟨v,e1,e2⟩:=hh g hg;exact⟨v,e1,e2.mono s⟩
def Sm.fit(gs:List Str)(pr:Str->Pc):Sm->Prop
 | .call _ g as rows=>g∈gs/\CalOk g (pr g)/\(pr g).ps.length=as.length/\(pr g).rs.length=rows.length
 | _=>True
structure WkAt(CW:aa)(H:Hp)(wo dx ml dp:aa)(f:Str)(gs:List Str)(pr:Str->Pc)(ms:List V)(wy:aa)(aq:List (List D)):Prop where
 hwo:H wo=some (.ins CW dx (jfX f (.ref dp) ml))
 hml:H ml=some (.lst ms)
 hp:ProcsAt H dp gs pr
 hwy:∃was,H wy=some (.lst (was.map V.ref))/\WayL H ml aq was
 nwy:wy≠ml
variable {CW wo dx wy:aa}{H:Hp}{f:Str}{ms:List V}
theorem WkAt.mono{H':Hp}{aq:List (List D)}(W:WkAt CW H wo dx ml dp f gs pr ms wy aq)(s:Same H H'):WkAt CW H' wo dx ml dp f gs pr ms wy aq:=by
 obtain⟨was,e,h⟩:=W.hwy;exact⟨s _ _ W.hwo,s _ _ W.hml,W.hp.mono s,⟨was,s _ _ e,h.mono s⟩,W.nwy⟩
theorem WkAt.nwo{aq:List (List D)}(W:WkAt CW H wo dx ml dp f gs pr ms wy aq):wo≠ml:=fun z=>by have:=W.hwo;rw[z,W.hml]at this;cases this
theorem WkAt.keep{H':Hp}{aK:List V}{aq:List (List D)}(W:WkAt CW H wo dx ml dp f gs pr ms wy aq)(k:∀b o,b≠ml->H b=some o->H' b=some o)(h:H' ml=some (.lst aK)):WkAt CW H' wo dx ml dp f gs pr aK wy aq:=by
 obtain⟨was,e,hw⟩:=W.hwy;exact⟨k _ _ W.nwo W.hwo,h,W.hp.keep k W.hml,⟨was,k _ _ W.nwy e,hw.keep k W.hml⟩,W.nwy⟩
inductive spBehind(vs:List V)(H:Hp)(Q:VK)(E:XK):Prop
 | mk (wy ml rw:aa) (was:List aa) (ms rs:List V) (aq:List (List D)) (rows:List D) (_:vs=[.ref wy,.ref rw]) (_:H wy=some (.lst (was.map V.ref))) (_:H ml=some (.lst ms)) (_:WayL H ml aq was) (_:H rw=some (.lst rs)) (_:HeldL H rows rs) (_:aq.length<=40) (_:(∀w∈aq,w.length+rows.length<=900)) (_:∀l as H',Same H H'->H l=none->H' l=some (.lst (as.map V.ref))->WayL H' ml (aq.map (·++rows)) as->Q (.ref l) H')
inductive spWalkC(CW:aa)(vs:List V)(H:Hp)(Q:VK)(E:XK):Prop
 | mk (wo dx ml dp pt wy:aa) (sv:V) (f:Str) (gs:List Str) (pr:Str->Pc) (ms:List V) (path:List Int) (aq:List (List D)) (x g:Str) (as rows:List Str) (_:vs=[.ref wo,sv,.ref wy,.ref pt]) (_:WkAt CW H wo dx ml dp f gs pr ms wy aq) (_:H pt=some (.tup (path.map V.int))) (_:Held H (Sm.call x g as rows).toD sv) (_:(Sm.call x g as rows).fit gs pr) (_:(Sm.call x g as rows).few) (_:ms.length+aq.length * 20<=9000) (_:aq.length<=40) (_:(∀w∈aq,w.length<=800)) (_:∀aK aD bh H',(∀b o,b≠ml->H b=some o->H' b=some o)->WkAt CW H' wo dx ml dp f gs pr (ms++aK) bh ((Sm.call x g as rows).walk f pr path aq).2->DutsAt H' ((Sm.call x g as rows).walk f pr path aq).1 aK aD->aD.Nodup->(∀x∈aD,H x=none)->Q (.ref bh) H')
theorem jV{d:D}{v:V}(h:Held H d v):HeldL H [d] [v]:=jb h jj
section
variable {P:aF}{w:aE}{K:aC}{mg:Str->Option ac}{base:aB}
theorem jcQ{f:aa}{fd:aO}(F:Fun K "behind_each" "behind_each" zi f fd):FnOk P w K mg base CX0 1 f fd ["ways","rows"] spBehind:=by
 have sc:FnScope ["ways","rows"] ["ways","rows"] (jp zi):=fQ;refine F.okZ sc (fun aH A outer s H vs Q E hr h=>?_);obtain⟨wy,ml,rw,was,ms,rs,aq,rows,rfl,hwy,hml,hW,P0,nB,mJ,hlen,q⟩:=h;have mv:=hW.len;refine⟨_,(jh (jv (kM ["way"] [1] rfl (ku (sc:=jp zi) (N:=["ways","rows"]) rfl rfl (by decide +kernel)) (ql (zpv 0)) (fun s H ex=>⟨(jt (i:=0) (show dk (["way","rows"]:List Str) by decide +kernel) rfl oQ),kD,(jn kd (zpv 0) (zpv 1))⟩)))),?_⟩;refine jP (σ':=[some (.ref wy),some (.ref rw)]) rfl ?_
 try dsimp only[j7]
 refine⟨_,rfl,wy,rfl,⟨_,SqL.of hwy⟩,fun l hl=>?_⟩;refine qF (xs:=was.map V.ref) (fun i σ' G=>∃u as,σ'=[u,some (.ref rw)]/\Same H G/\G l=some (.lst (as.map V.ref))/\as.length=i/\l ∉ as/\WayL G ml ((aq.take i).map (·++rows)) as) ⟨none,[],rfl,je hl _,jd,rfl,wt,by rw[eX];trivial⟩ ?_ ?_ ?_
 .rintro i σ' G _ ⟨u,as,rfl,sG,_⟩
  exact SqL.of (sG _ _ hwy)
 .rintro i x σ' G hx ⟨u,as,rfl,sG,hG,mw,nl,hA⟩
  have fN:i < was.length:=by have:=(bN.mp hx).1;rw[ax]at this;exact this
  have hi:i < aq.length:=by omega
  rw[bF,aI fN]at hx
  cases hx
  obtain⟨li,us,cP,de⟩:=hW.get (aI hi) (aI fN);have hb:=hlen _ (ft hi);have e1:=de.length;have e2:=nB.length;unfold qh yP;refine qB ?_;refine⟨_,rfl,_,rfl,_,rw,us,rs,rfl,rfl,sG _ _ cP,sG _ _ P0,aV (by omega) (jY (by decide:900<=1000)),fun l2 a_=>?_⟩;have s2:=je a_ (.lst (us++rs));have e3:upd G l2 (.lst (us++rs)) l2=some (.lst (us++rs)):=jd;have n2:l2≠l:=fun z=>by rw[z,hG]at a_;cases a_
  have n3:l2≠ml:=fun z=>by rw[z,sG _ _ hml]at a_;cases a_
  generalize upd G l2 (.lst (us++rs))=G2 at *;have aY:=s2 _ _ hG;have k5:∀b o,b≠l->G2 b=some o->upd G2 l (.lst (as.map V.ref++[.ref l2])) b=some o:=fun b o hb e=>by rw[jw hb];exact e
  have ij:=jR k5 aY;refine⟨_,aY,jz (by rw[ax];omega),_,as++[l2],rfl,fun b o e=>k5 b o (jr e hl) (s2 _ _ (sG _ _ e)),by rw[jd,aW];rfl,by rw[aG,mw];rfl,?_,?_⟩
  .intro z
   rcases aT.mp z with z | z
   .exact nl z
   .exact n2 (aN.mp z).symm
  .rw[show aq.take (i+1)=aq.take i++[aq[i]] by rw[bP,aI hi];rfl,aW]
   refine WayL.app ?_ ⟨⟨n3,us++rs,k5 _ _ n2 e3,?_⟩,trivial⟩
   .have Dr:=hA.mono s2
    generalize upd G2 l (.lst (as.map V.ref++[.ref l2]))=G3 at *;clear aY hG hA e3 mw;generalize (aq.take i).map (·++rows)=ws at *;induction ws generalizing as with
    | nil=>cases as with
     | nil=>trivial
     | cons _ _=>exact Dr.elim
    | cons w ws ih=>cases as with
     | nil=>exact Dr.elim
     | cons a as=>
      obtain⟨⟨m1,cG,m2,m3⟩,m4⟩:=Dr;exact⟨⟨m1,cG,k5 _ _ (fun z=>nl (by rw[z];exact bt)) m2,ij.heldL m3⟩,ih as (fun z=>nl (aZ _ z)) m4⟩
   .exact ij.heldL (jL (de.mono (sG.trans s2)) (nB.mono (sG.trans s2)))
 rintro σ' G ⟨u,as,rfl,sG,hG,mw,nl,hA⟩;rw[ax,mv,bX]at hA;exact q l as G sG hl hG hA
end
end LW
namespace L2
open PySem PySem.Spec PyProof.Rows
def K6(z:Str)(lo hi:Option Int):Str:=⟨((z.cps.toList.drop (HT.sIx z.length 0 lo)).take (HT.sIx z.length z.length hi - HT.sIx z.length 0 lo)).toArray⟩
theorem Kz{a b:Str}(h:a.cps.toList=b.cps.toList):a=b:=by
 cases a;cases b
 congr 1;exact WM.mp h
theorem JU(z:Str)(lo hi:Option Int):(K6 z lo hi).cps.toList=(z.cps.toList.drop (HT.sIx z.length 0 lo)).take (HT.sIx z.length z.length hi - HT.sIx z.length 0 lo):=rfl
theorem ZL(z:Str)(lo hi:Option Int):(K6 z lo hi).length<=z.length:=by
 show ((z.cps.toList.drop (HT.sIx z.length 0 lo)).take (HT.sIx z.length z.length hi - HT.sIx z.length 0 lo)).toArray.size<=z.length;rw[cA,bK,EY];have:z.cps.toList.length=z.length:=by simp[Ew]
 omega
theorem jgY(lo hi:Option Int)(n:Nat):MH lo hi 1 n=(cE (HT.sIx n n hi - HT.sIx n 0 lo)).map (HT.sIx n 0 lo+·):=by
 have e:MH lo hi 1 n=sliceRange ((HT.sIx n 0 lo:Nat):Int) ((HT.sIx n n hi:Nat):Int) 1:=by
  unfold MH
  cases lo with
  | none=>
   cases hi with
   | none=>simp[HT.sIx]
   | some i=>
    simp only[HT.sIx,show (1:Int) > 0 by decide,if_true];congr 1;by_cases h:i < 0
    .simp only[h,if_true];omega
    .simp only[h,if_false];omega
  | some j=>
   have ej:max 0 (min (if j < 0 then j+(n:Int) else j) (n:Int))=((HT.sIx n 0 (some j):Nat):Int):=by
    simp only[HT.sIx];by_cases h:j < 0
    .simp only[h,if_true];omega
    .simp only[h,if_false];omega
   cases hi with
   | none=>
    simp only[show (1:Int) > 0 by decide,if_true,HT.sIx_none];rw[ej]
   | some i=>
    have ei:max 0 (min (if i < 0 then i+(n:Int) else i) (n:Int))=((HT.sIx n n (some i):Nat):Int):=by
     simp only[HT.sIx];by_cases h:i < 0
     .simp only[h,if_true];omega
     .simp only[h,if_false];omega
    simp only[show (1:Int) > 0 by decide,if_true];rw[ej,ei]
 rw[e,sliceRange_one]
theorem jdF{X:Cx}:SlR X (fun x lo hi H Q=>∃z,x=.str z/\z.length<=aP/\Q (.str (K6 z lo hi)) H):=by
 intro ah s σ H x v vl vu lo hi sl Q I rx hs pl pu h;obtain⟨z,rfl,hz,q⟩:=h;obtain⟨t,rfl⟩:=rx;obtain⟨l,bJ,a_⟩:∃l:Option (Int×Tok),vl=partValue l/\l.map (·.1)=lo:=by
  cases pl with
  | none=>exact⟨none,rfl,rfl⟩
  | int i t=>exact⟨some (i,t),rfl,rfl⟩
 obtain⟨u,xA,nA⟩:∃l:Option (Int×Tok),vu=partValue l/\l.map (·.1)=hi:=by
  cases pu with
  | none=>exact⟨none,rfl,rfl⟩
  | int i t=>exact⟨some (i,t),rfl,rfl⟩
 refine⟨"str",_,VU.lookup,LK s z t,?_⟩;obtain⟨o,h1,h2,h3⟩:=hs;have PU:s.heap.IsSlice sl l u none:=⟨o,h1,h2,by rw[h3,bJ,xA];rfl⟩
 refine wpAny_getItem_str_slice PU rfl ?_;have hp:slicePicked z l u none=(cE (HT.sIx z.length z.length hi - HT.sIx z.length 0 lo)).map (HT.sIx z.length 0 lo+·):=by
  unfold slicePicked;rw[a_,nA];exact jgY lo hi z.length
 have hn:z.cps.toList.length=z.length:=by simp[Ew]
 unfold sliceMade;split
 .rename_i hc
  rw[cO]at hc;have iJ:=E5 hc.2;rw[hp,ax,tj]at iJ;have nK:=HT.sIx_le z.length z.length (aL _) hi;have Rp:K6 z lo hi=z:=by
   refine Kz ?_;rw[JU];rw[iJ];by_cases h0:HT.sIx z.length 0 lo=0
   .rw[h0,WE,<- hn,bX]
   .have:z.length=0:=by omega
    have:z.cps.toList=[]:=AX.mp (by omega);rw[this];simp
  rw[Rp]at q;exact⟨.str z,H,I,⟨t,rfl⟩,q⟩
 .rw[hp,pick_run]
  exact⟨aV (ZL z lo hi) hz,⟨.str (K6 z lo hi),H,I.tok _,⟨_,rfl⟩,q⟩⟩
end L2
namespace LW
open PySem L2
theorem zb(z:Str):z.length=z.cps.toList.length:=by simp[Ew]
theorem yF(x y:Str):(x++y).cps.toList=x.cps.toList++y.cps.toList:=by
 show (x.cps++y.cps).toList=_;simp
theorem zK(x y:Str):(x++y).length=x.length+y.length:=by rw[zb,zb,zb,yF,aG]
theorem zS(x:Str):sS++x=x:=Kz (by rw[yF];rfl)
theorem je3(rows:List Str):∀(names:List Str) (x:Str),qt (zKV names (rows.map V.str)) (Sum.inr x)=((names.zip rows).lookup x).map V.str:=by
 induction rows with
 | nil=>intro names x;unfold zKV;simp[qt]
 | cons r rows ih=>
  intro names x
  cases names with
  | nil=>unfold zKV;simp[qt]
  | cons n names=>
   have ih:=ih names x;unfold zKV at ih |-;rw[ce,M4,ce,M4,gD];by_cases h:x=n
   .subst h
    rw[kX rfl];simp
   .rw[kY (fun z=>h (mT z).symm),ih]
    have:(x == n)=false:=by simpa using h
    rw[this]
structure NmAt(kvs:List (Key×V))(g:Str)(p:Pc)(rows:List Str)(i:Nat):Prop where
 v:∀x:Str,qt kvs (Sum.inr x)=if x∈p.ps.take i then some (.str (qj g x)) else ((p.rs.zip rows).lookup x).map V.str
 l:kvs.length<=6+i
variable {kvs:List (Key×V)}{g:Str}{p:Pc}{i:Nat}
theorem NmAt.ok{rows:List Str}(h:NmAt kvs g p rows i)(hi:p.ps.length<=i):NmOk kvs (zC g p rows):=by
 refine⟨by unfold zC;rw[WU rfl],fun x hx=>?_⟩;rw[h.v,wr hi];unfold zC;rw[WT hx];by_cases hp:x∈p.ps
 .rw[WU hp,WU hp];rfl
 .rw[WT hp,WT hp]
  cases (p.rs.zip rows).lookup x <;> rfl
theorem NmAt.out{rows:List Str}(h:NmAt kvs g p rows i)(hi:p.ps.length<=i)(x0:Str):NmOk (kq kvs (Sum.inr "out") (.str x0)) (JD g p rows x0):=by
 have ho:=h.ok hi;have ne:¬(("" : Str) = "out"):=by decide
 refine⟨by unfold JD;rw[WT ne];exact ho.e,fun x hx=>?_⟩;rw[qJ];unfold JD;by_cases hp:x = "out"
 .rw[WU hp,WU (by rw[hp])];rfl
 .rw[WT hp,WT (fun z=>hp (mT z))]
  exact ho.g x hx
theorem WayL.keepL{G G':Hp}{ml:aa}(k:∀b xs,G b=some (.lst xs)->G' b=some (.lst xs))(tk:TK G G'):∀{ws:List (List D)} {as:List aa},WayL G ml ws as->WayL G' ml ws as
 | [],[],_=>trivial
 | w :: ws,a :: as,hd=>by
  obtain⟨⟨n,us,e,hh⟩,hr⟩:=hd;exact⟨⟨n,us,k _ _ e,tk.heldL hh⟩,WayL.keepL k tk hr⟩
 | [],_ :: _,hd=>hd.elim
 | _ :: _,[],hd=>hd.elim
theorem DutsAt.keepL{G G':Hp}(k:∀b xs,G b=some (.lst xs)->G' b=some (.lst xs))(tk:TK G G'):∀{ds:List Du} {vs:List V} {aD:List aa},DutsAt G ds vs aD->DutsAt G' ds vs aD
 | [],[],[],_=>trivial
 | d :: ds,v :: vs,wl :: aD,hd=>by
  obtain⟨⟨t,pt,us,gv,rfl,h1,h2,h3,h4,h5⟩,h⟩:=hd;exact⟨⟨t,pt,us,gv,rfl,tk _ _ h1,tk _ _ h2,k _ _ h3,tk.heldL h4,tk.held h5⟩,DutsAt.keepL k tk h⟩
 | [],[],_ :: _,hd=>hd.elim
 | [],_ :: _,_,hd=>hd.elim
 | _ :: _,[],_,hd=>hd.elim
 | _ :: _,_ :: _,[],hd=>hd.elim
variable {G:Hp}
theorem DutsAt.mono{G':Hp}(s:Same G G'){ds:List Du}{vs:List V}{aD:List aa}(h:DutsAt G ds vs aD):DutsAt G' ds vs aD:=DutsAt.keepL (fun b xs e=>s _ _ e) (fun b ys e=>s _ _ e) h
theorem qd{a b:aa}{xs:List V}{ys:List V}(h1:G a=some (.tup ys))(h2:G b=some (.lst xs)):a≠b:=fun z=>by rw[z,h2]at h1;cases h1
variable {P:aF}{w:aE}{K:aC}{mg:Str->Option ac}{base:aB}{CW f:aa}{fd:aO}
section
theorem jd8(T:ClsW K CW)(F:Fun K "walk_call" "walk_call" qR f fd)(B:Free0 mg)(n8:mg "zip" = none)(fh:Fn P w K mg base 1 "meet" ["walk","kind","path","ways","claims"] (spMeetB false CW))(fW:Fn P w K mg base 1 "behind_each" ["ways","rows"] spBehind)(iS:Fn P w K mg base 4 "said" ["claim","names"] spSaid)(eT:Fn P w K mg base 1 "known" ["claims"] spKnownL):FnOk P w K mg base CX0 5 f fd ["walk","statement","ways","path"] (spWalkC CW):=by
 have sc:FnScope ["walk","statement","ways","path","x","f","args","rows","params","own_rows","needs","gives","names","handed","y","arg","told"] ["walk","statement","ways","path"] (jp qR):=fQ;refine F.okZ sc (fun aH A outer s H vs Q E hr h=>?_);obtain⟨wo,dx,ml,dp,pt,wy,sv,f,gs,pr,ms,path,aq,x,g,as,rows,rfl,W,bO,hS,vj,lG,hm,mJ,uH,q⟩:=h;have hu:=jb4 hr;refine⟨_,(jg (qY (j5 qL (zpv 1) (j0 jf) kL) (kn rfl (jy (jt (i:=4) sc.nd rfl oQ) (jy (jt (i:=5) sc.nd rfl oQ) (jy (jt (i:=6) sc.nd rfl oQ) (jy (jt (i:=7) sc.nd rfl oQ) j9))))))
   (jg (qY (j5 qL (Kr hu (Jk (zpv 0) rfl) (zpv 5) (fun _ _=>rfl)) (j0 jf) (j0 jf)) (kn rfl (jy (jt (i:=8) sc.nd rfl oQ) (jy (jt (i:=9) sc.nd rfl oQ) (jy (jt (i:=10) sc.nd rfl oQ) (jy (jt (i:=11) sc.nd rfl oQ) j9))))))
   (jg (ju (i:=12) sc.nd rfl oQ (jco rfl (by rfl) B.dict_ jfG (by rfl) n8 jeT (ja (zpv 9) (ja (zpv 7) jc))))
   (jg (ju (i:=13) sc.nd rfl oQ (jF jc))
   (jg (kg dF rfl (Y6 (by rfl) n8 (ja (zpv 8) (ja (zpv 6) jc))) (kn rfl (jy (jt (i:=14) sc.nd rfl oQ) (jy (jt (i:=15) sc.nd rfl oQ) j9))) (jg (yk hu (zpv 12) (zpv 14) (ZW (zY (Y7 (zpv 5)) (zY jm (zY (Y7 (zpv 14)) jdR)))) rfl)
   (jh (jW (qu eD l_ l8 kK (zpv 13) (ja (js (ja jm (ja (Kr hu (zpv 12) (zpv 14) (fun _ _=>rfl)) (ja (js (ja jm (ja (zpv 15) jc))) (ja jf jc))))) jc))))))
   (jg (ju (i:=2) sc.nd rfl oQ (jA fW hr (ja (zpv 2) (ja (zpv 13) jc))))
   (jg (jW (jA fh hr (ja (zpv 0) (ja jm (ja (zpv 3) (ja (zpv 2) (ja (kM ["need"] [12] rfl (ku (sc:=jp qR) (N:=["walk","statement","ways","path","x","f","args","rows","params","own_rows","needs","gives","names","handed","y","arg","told"]) rfl rfl (by decide +kernel)) (kT (zpv 10)) (fun s H ex=>⟨(jt (i:=0) (show dk (["need","names"]:List Str) by decide +kernel) rfl oQ),kD,(jA iS hr (ja (zpv 0) (ja (zpv 1) jc)))⟩)) jc)))))))
   (jg (yk hu (zpv 12) jm (zpv 4) rfl)
   (jg (ju (i:=16) sc.nd rfl oQ (jA eT hr (ja (kM ["give"] [12] rfl (ku (sc:=jp qR) (N:=["walk","statement","ways","path","x","f","args","rows","params","own_rows","needs","gives","names","handed","y","arg","told"]) rfl rfl (by decide +kernel)) (kT (zpv 11)) (fun s H ex=>⟨(jt (i:=0) (show dk (["give","names"]:List Str) by decide +kernel) rfl oQ),kD,(jA iS hr (ja (zpv 0) (ja (zpv 1) jc)))⟩)) jc)))
   (jh (jv (jA fW hr (ja (zpv 2) (ja (jn kd (jn kd (kM ["r"] [] rfl (ku (sc:=jp qR) (N:=["walk","statement","ways","path","x","f","args","rows","params","own_rows","needs","gives","names","handed","y","arg","told"]) rfl rfl (by decide +kernel)) (kT (zpv 7)) (fun s H ex=>⟨(jt (i:=0) (show dk (["r"]:List Str) by decide +kernel) rfl oQ),kD,(js (ja jm (ja (zpv 0) jc)))⟩)) (jF (ja (js (ja jm (ja (zpv 4) jc))) jc))) (zpv 16)) jc)))))))))))))),?_⟩
 refine jP (σ':=[some (.ref wo),some sv,some (.ref wy),some (.ref pt),none,none,none,none,none,none,none,none,none,none,none,none,none]) rfl ?_
 try dsimp only[j7]
 refine jfS ?_;intro _ _ _ _ _ _ _ _ _;obtain⟨a,ba,ca,rfl,ha,dg,cJ⟩:=JC hS;obtain⟨hg,d_,GZ,iE⟩:=vj;have rR:=lG.1;have hfr:=lG.2;refine⟨_,rfl,_,rfl,a,_,rfl,SqT.of ha,(fun h=>absurd h.1 (by show ¬(HT.sIx 5 0 (some 1)=0);decide)),fun t ht=>?_⟩;have s1:=je ht (.tup (kI [V.str "call",.str x,.str g,.ref ba,.ref ca] (some 1) none));have e1:upd H t (.tup (kI [V.str "call",.str x,.str g,.ref ba,.ref ca] (some 1) none)) t=some (.tup [.str x,.str g,.ref ba,.ref ca]):=jd;generalize upd H t (.tup (kI [V.str "call",.str x,.str g,.ref ba,.ref ca] (some 1) none))=H1 at *;refine⟨t,_,rfl,SqT.of e1,rfl,_,_,rfl,_,_,rfl,_,_,rfl,_,_,rfl,rfl,?_⟩;refine jP (σ':=[some (.ref wo),some (.ref a),some (.ref wy),some (.ref pt),some (.str x),some (.str g),some (.ref ba),some (.ref ca),none,none,none,none,none,none,none,none,none]) rfl ?_;have W1:=W.mono s1;obtain⟨kvs,Rk,uR⟩:=W.hp;obtain⟨pv',lD,hP⟩:=uR g hg;obtain⟨pa,ap,ar,an,ag,ab,vn,vg,vb,rfl,fK,lJ,em,fc,hn,fR,Hz,cV,HS⟩:=zy hP;refine⟨_,rfl,wo,CW,dx,_,_,rfl,W1.hwo,T.c,T.n2,rfl,_,rfl,dp,_,rfl,(by have:=DGet.k (k:=Sum.inr g) (s1 _ _ Rk);rw[lD]at this;exact this),?_⟩;refine⟨_,rfl,_,rfl,pa,_,rfl,SqT.of (s1 _ _ fK),(fun h=>absurd h.1 (by show ¬(HT.sIx 7 0 (some 2)=0);decide)),fun t2 dq=>?_⟩;have s2:=je dq (.tup (kI [V.str "proc",.str (pr g).f,.ref ap,.ref ar,.ref an,.ref ag,.ref ab] (some 2) (some 6)));have e2:upd H1 t2 (.tup (kI [V.str "proc",.str (pr g).f,.ref ap,.ref ar,.ref an,.ref ag,.ref ab] (some 2) (some 6))) t2=some (.tup [.ref ap,.ref ar,.ref an,.ref ag]):=jd;generalize upd H1 t2 (.tup (kI [V.str "proc",.str (pr g).f,.ref ap,.ref ar,.ref an,.ref ag,.ref ab] (some 2) (some 6)))=H2 at *;refine⟨t2,_,rfl,SqT.of e2,rfl,_,_,rfl,_,_,rfl,_,_,rfl,_,_,rfl,rfl,?_⟩;refine jP (σ':=[some (.ref wo),some (.ref a),some (.ref wy),some (.ref pt),some (.str x),some (.str g),some (.ref ba),some (.ref ca),some (.ref ap),some (.ref ar),some (.ref an),some (.ref ag),none,none,none,none,none]) rfl ?_;have aQ:=s1.trans s2;refine⟨_,rfl,_,rfl,ar,ca,(pr g).rs,rows.map V.str,rfl,SqT.of (aQ _ _ em),SqT.of (aQ _ _ cJ),by rw[ax];exact iE,d_.rs,aV d_.rsl (by decide),fun dn pA=>?_⟩;have s3:=je pA (.dK (zKV (pr g).rs (rows.map V.str)));have e3:upd H2 dn (.dK (zKV (pr g).rs (rows.map V.str))) dn=some (.dK (zKV (pr g).rs (rows.map V.str))):=jd;generalize upd H2 dn (.dK (zKV (pr g).rs (rows.map V.str)))=H3 at *;have bG:=aQ.trans s3;refine gQ ?_;refine⟨sm rfl,fun hl Hw=>?_⟩;have s4:=je Hw (.lst []);have e4:upd H3 hl (.lst []) hl=some (.lst []):=jd;generalize upd H3 hl (.lst [])=H4 at *;have dI:=bG.trans s4;have nX:=s4 _ _ e3;have BC:dn≠hl:=fun z=>by rw[z,e4]at nX;cases nX
 have lH:H dn=none:=aQ.free pA;have Q8:H hl=none:=bG.free Hw;have W4:=W.mono dI;refine gQ ?_;refine⟨_,rfl,_,rfl,ap,ba,rfl,⟨_,SqT.of (dI _ _ lJ)⟩,⟨_,SqT.of (dI _ _ dg)⟩,?_⟩;have GP:NmAt (zKV (pr g).rs (rows.map V.str)) g (pr g) rows 0:=⟨fun z=>by rw[je3,eX];simp,by unfold zKV;rw[ax,tf,ax];have:=d_.rsl;omega⟩
 have hlP:(pr g).ps.length<=6:=d_.psl;refine ZD (xs:=(pr g).ps.map V.str) (ys:=as.map V.str) (fun i σ G=>∃wJ wI kvs hs,σ=[some (.ref wo),some (.ref a),some (.ref wy),some (.ref pt),some (.str x),some (.str g),some (.ref ba),some (.ref ca),some (.ref ap),some (.ref ar),some (.ref an),some (.ref ag),some (.ref dn),some (.ref hl),wJ,wI,none]/\Same H G/\G dn=some (.dK kvs)/\NmAt kvs g (pr g) rows i/\G hl=some (.lst hs)/\HeldL G (jU g ((pr g).ps.take i) (as.take i)) hs/\hs.length=i) (by rw[ax,ax];exact GZ) ⟨none,none,_,[],rfl,dI,nX,GP,e4,by rw[eX,eX];exact jj,rfl⟩ ?_ ?_ ?_
 .rintro i σ G _ ⟨wJ,wI,kvs,hs,rfl,sG,_⟩
  exact⟨SqT.of (sG _ _ lJ),SqT.of (sG _ _ dg)⟩
 .rintro i vx vy σ G t3 hx hy ⟨wJ,wI,kvs,hs,rfl,sG,fe,hN,Di,hH,lhs⟩ eJ
  have iF:i < (pr g).ps.length:=by have:=(bN.mp hx).1;rw[ax]at this;exact this
  have nN:i < as.length:=by omega
  rw[bF,aI iF]at hx;rw[bF,aI nN]at hy
  cases hx
  cases hy
  have eM:(pr g).ps.take (i+1)=(pr g).ps.take i++[(pr g).ps[i]]:=by rw[bP,aI iF];rfl
  have Sf:as.take (i+1)=as.take i++[as[i]]:=by rw[bP,aI nN];rfl
  have hhd:jU g ((pr g).ps.take (i+1)) (as.take (i+1))=jU g ((pr g).ps.take i) (as.take i)++[jad (qj g (pr g).ps[i]) as[i]]:=by
   unfold jU;rw[eM,Sf,EU (by rw[bK,bK];omega),aW];rfl
  have Gn:=d_.yl _ (ft iF);have mL:=d_.gl;rw[hhd];have RO:=hN.v;have iB:∀z,z∈(pr g).ps.take (i+1)↔z∈(pr g).ps.take i\/z=(pr g).ps[i]:=fun z=>by rw[eM,aT,aN]
  generalize (pr g).ps[i]=y at *;generalize as[i]=arg at *;have z1:=je eJ (.tup [V.str y,.str arg]);have y1:upd G t3 (.tup [V.str y,.str arg]) t3=some (.tup [V.str y,.str arg]):=jd;generalize upd G t3 (.tup [V.str y,.str arg])=G1 at *;refine yB ?_;intro _;refine⟨t3,_,rfl,SqT.of y1,rfl,_,_,rfl,_,_,rfl,rfl,?_⟩;refine jP (σ':=[some (.ref wo),some (.ref a),some (.ref wy),some (.ref pt),some (.str x),some (.str g),some (.ref ba),some (.ref ca),some (.ref ap),some (.ref ar),some (.ref an),some (.ref ag),some (.ref dn),some (.ref hl),some (.str y),some (.str arg),none]) rfl ?_;have dl:("." : Str).length=1:=by decide +kernel
  refine⟨_,rfl,g,rfl,aV mL (jY (by decide)),g,rfl,(by rw[zS];exact aV mL (jY (by decide))),".",rfl,(by rw[zS,zK,dl];exact aV (ET mL 1) (jY (by decide))),_,rfl,y,rfl,aV Gn (jY (by decide)),y,rfl,(by rw[zS,zK,zK,dl];exact jY (by omega)),(by rw[zS,zK,zK,dl];exact jY (by omega)),?_⟩;rw[show sS++g++("." : Str)++y=qj g y by rw[zS];rfl];have vz:=z1 _ _ fe;have ph:=hN.l;refine⟨_,rfl,_,rfl,dn,_,rfl,DPut.k (k:=Sum.inr y) vz (jz (by omega)),?_⟩;have k2:∀b o,b≠dn->G1 b=some o->upd G1 dn (.dK (kq kvs (Sum.inr y) (.str (qj g y)))) b=some o:=fun b o hb e=>by rw[jw hb];exact e
  have ik:TK G1 (upd G1 dn (.dK (kq kvs (Sum.inr y) (.str (qj g y))))):=fun b ys e=>k2 b _ (fun z=>by rw[z,vz]at e;cases e) e
  have y2:upd G1 dn (.dK (kq kvs (Sum.inr y) (.str (qj g y)))) dn=some (.dK (kq kvs (Sum.inr y) (.str (qj g y)))):=jd;have vq:NmAt (kq kvs (Sum.inr y) (.str (qj g y))) g (pr g) rows (i+1):=⟨fun z=>by
   rw[qJ];by_cases hz:z=y
   .rw[WU (by rw[hz]),WU ((iB z).mpr (.inr hz)),hz]
   .rw[WT (fun e=>hz (mT e)),RO z]
    by_cases hp:z∈(pr g).ps.take i
    .rw[WU hp,WU ((iB z).mpr (.inl hp))]
    .rw[WT hp,WT (fun e=>((iB z).mp e).elim hp hz)],by have:=Js kvs (Sum.inr y) (.str (qj g y));omega⟩
  have oX:qt (kq kvs (Sum.inr y) (.str (qj g y))) (Sum.inr y)=some (.str (qj g y)):=by rw[qJ,WU rfl]
  generalize kq kvs (Sum.inr y) (.str (qj g y))=fE at *;generalize upd G1 dn (.dK fE)=G2 at *;have Ip:=k2 _ _ (bB BC) (z1 _ _ Di);refine⟨_,rfl,.inl ⟨rfl,_,SqL.of Ip⟩,?_⟩;refine⟨_,rfl,_,rfl,dn,_,rfl,(by have:=DGet.k (k:=Sum.inr y) y2;rw[oX]at this;exact this),?_⟩;refine⟨_,rfl,sm rfl,fun t4 rM=>?_⟩;have z3:=je rM (.tup [V.str "is",.str arg]);have y3:upd G2 t4 (.tup [V.str "is",.str arg]) t4=some (.tup [V.str "is",.str arg]):=jd;generalize upd G2 t4 (.tup [V.str "is",.str arg])=G3 at *;refine⟨sm rfl,fun t5 iA=>?_⟩;have z4:=je iA (.tup [V.str "set",.str (qj g y),.ref t4,.int 0]);have y4:upd G3 t5 (.tup [V.str "set",.str (qj g y),.ref t4,.int 0]) t5=some (.tup [V.str "set",.str (qj g y),.ref t4,.int 0]):=jd;generalize upd G3 t5 (.tup [V.str "set",.str (qj g y),.ref t4,.int 0])=G4 at *;have i0:=z3.trans z4;have Io:=i0 _ _ Ip;have hz:Held G4 (jad (qj g y) arg) (.ref t5):=jo y4 (jb jl (jb jl (jb (jo (z4 _ _ y3) (jb jl (jb jl jj))) (jb jX jj))));have tk:TK G4 (upd G4 hl (.lst (hs++[.ref t5]))):=TK.upd Io (fun _ z=>by cases z);refine⟨hl,_,_,rfl,rfl,Io,jz (by omega),_,_,fE,hs++[.ref t5],rfl,fun b o e=>?_,?_,vq,jd,?_,by rw[aG,lhs];rfl⟩
  .rw[jw (jr e Q8)]
   exact i0 _ _ (k2 _ _ (jr e lH) (z1 _ _ (sG _ _ e)))
  .rw[jw BC];exact i0 _ _ y2
  .exact jL (tk.heldL ((ik.heldL (hH.mono z1)).mono i0)) (jV (tk.held hz))
 clear e4 nX GP;rintro σ G ⟨wJ,wI,fE,hs,rfl,sG,fe,hN,Di,hH,lhs⟩;rw[ax]at hN hH lhs;rw[bX,GZ,bX]at hH;have WG:=W.mono sG;have nw:∀w∈aq,w.length+(jU g (pr g).ps as).length<=900:=fun w hw=>by
  have:=uH w hw;have e:(jU g (pr g).ps as).length<=6:=by unfold jU;rw[ax,tf];omega
  omega
 have hlhd:(jU g (pr g).ps as).length<=6:=by unfold jU;rw[ax,tf];omega
 obtain⟨was,hwy,hW⟩:=WG.hwy;refine⟨_,rfl,_,rfl,wy,ml,hl,was,ms,hs,aq,jU g (pr g).ps as,rfl,hwy,WG.hml,hW,Di,hH,mJ,nw,fun fB rh G1 z1 FV nv nU=>?_⟩;have eF:=sG.trans z1;have vz:=z1 _ _ fe;have P6:=hN.ok (aL _);have cm:=hn.length;rw[ax]at cm;have mL:=Hz.length;rw[ax]at mL;have Cv:=d_.nd;have Ra:=d_.gv;have FT:fB≠ml:=fun z=>by rw[z,WG.hml]at FV;cases FV
 refine gQ ?_;refine⟨_,rfl,_,rfl,_,rfl,_,rfl,an,rfl,⟨_,SqT.of (eF _ _ fc)⟩,fun ln gR=>?_⟩;refine zc (xs:=vn) (fun i σ' G'=>∃u ks,σ'=[u,some (.ref dn)]/\Same G1 G'/\G' ln=some (.lst ks)/\HeldL G' ((((pr g).nd.take i).map (Cl.say (zC g (pr g) rows))).map Cl.toD) ks) ⟨none,[],rfl,je gR _,jd,jj⟩ ?_ ?_ ?_
 .rintro i σ' G' _ ⟨u,ks,rfl,bC,_⟩
  exact SqT.of (bC _ _ (eF _ _ fc))
 .rintro i v σ' G' hx ⟨u,ks,rfl,bC,dN,hk⟩
  have hi:i < (pr g).nd.length:=by have:=(bN.mp hx).1;omega
  obtain⟨x',bq,cw⟩:=hn.get (show ((pr g).nd.map Cl.toD)[i]?=some (pr g).nd[i].toD by rw[bF,aI hi];rfl);rw[hx]at bq
  cases bq
  have cN:=hk.length;rw[ax,ax,bK]at cN;unfold qh yP;refine qB ?_;refine⟨_,rfl,_,rfl,v,(pr g).nd[i],dn,fE,_,rfl,cw.mono (eF.trans bC),bC _ _ vz,P6,fun r G2 z2 bL=>?_⟩;have aY:=z2 _ _ dN;have tk:TK G2 (upd G2 ln (.lst (ks++[r]))):=TK.upd aY (fun _ z=>by cases z);refine⟨ks,aY,jz (by omega),_,_,rfl,fun b o e=>?_,jd,?_⟩
  .rw[jw (jr e gR)];exact z2 _ _ (bC _ _ e)
  .rw[show (pr g).nd.take (i+1)=(pr g).nd.take i++[(pr g).nd[i]] by rw[bP,aI hi];rfl,aW,aW]
   exact jL (tk.heldL (hk.mono z2)) (jV (tk.held bL))
 rintro σ' G2 ⟨u,ks,rfl,z2,aY,hk⟩;rw[show (pr g).nd.take vn.length=(pr g).nd by rw[<- cm,bX]]at hk;have eZ:=eF.trans z2;have Bx:ln≠ml:=fun z=>by rw[z,z1 _ _ WG.hml]at gR;cases gR
 have W2:=W.mono eZ;have uw:(aq.map (·++jU g (pr g).ps as)).length<=40:=by rw[ax];exact mJ
 refine⟨wo,dx,ml,pt,fB,ln,rh,f,"need",.ref dp,ms,ks,path,_,(pr g).nd.map (Cl.say (zC g (pr g) rows)),rfl,W2.hwo,W2.hml,eZ _ _ bO,z2 _ _ nv,nU.mono z2,aY,hk,FT,Bx,uw,?_,fun aK aD G3 k3 mH lL um Bz=>?_⟩
 .rw[ax,ax]
  have:aq.length * (pr g).nd.length<=aq.length * 20:=Wa _ Cv;omega
 have kA:∀b o,b≠ml->H b=some o->G3 b=some o:=fun b o hb e=>k3 b o hb (eZ _ _ e)
 have W3:=W.keep kA mH;have BB:dn≠ml:=fun z=>by rw[z,W.hml]at lH;cases lH
 have nW:=k3 _ _ BB (z2 _ _ vz);have rJ:=k3 _ _ FT (z2 _ _ nv);have rZ:=(nU.mono z2).keep k3 W2.hml;have HZ:=qd fR W.hml;have HM:=qd cJ W.hml;have ph:=hN.l;refine⟨_,rfl,_,rfl,dn,_,rfl,DPut.k (k:=Sum.inr "out") nW (jz (by omega)),?_⟩;have Co:=hN.out (aL _) x;have k4:∀b o,b≠dn->G3 b=some o->upd G3 dn (.dK (kq fE (Sum.inr "out") (.str x))) b=some o:=fun b o hb e=>by rw[jw hb];exact e
 have y4:upd G3 dn (.dK (kq fE (Sum.inr "out") (.str x))) dn=some (.dK (kq fE (Sum.inr "out") (.str x))):=jd;generalize kq fE (Sum.inr "out") (.str x)=kvs3 at *;generalize upd G3 dn (.dK kvs3)=G4 at *;have ll:∀b xs,G3 b=some (.lst xs)->G4 b=some (.lst xs):=fun b xs e=>k4 b _ (fun z=>by rw[z,nW]at e;cases e) e
 have rG:TK G3 G4:=fun b ys e=>k4 b _ (fun z=>by rw[z,nW]at e;cases e) e
 have kB:∀b o,b≠ml->H b=some o->G4 b=some o:=fun b o hb e=>k4 _ _ (jr e lH) (kA b o hb e)
 have rQ:=ll _ _ mH;have fS:DutsAt G4 (ki f "need" path (aq.map (·++jU g (pr g).ps as)) ((pr g).nd.map (Cl.say (zC g (pr g) rows)))) aK aD:=DutsAt.keepL ll rG lL;have nu:=ll _ _ rJ;have gW:=rZ.keepL ll rG;have CZ:=(jR kB W.hml).heldL Hz;refine⟨_,rfl,ag,rfl,⟨_,SqT.of (kB _ _ HZ fR)⟩,fun lg mI=>?_⟩;refine zc (xs:=vg) (fun i σ' G'=>∃u ks,σ'=[u,some (.ref dn)]/\Same G4 G'/\G' lg=some (.lst ks)/\HeldL G' ((((pr g).gv.take i).map (Cl.say (JD g (pr g) rows x))).map Cl.toD) ks) ⟨none,[],rfl,je mI _,jd,jj⟩ ?_ ?_ ?_
 .rintro i σ' G' _ ⟨u,ks,rfl,bC,_⟩
  exact SqT.of (bC _ _ (kB _ _ HZ fR))
 .rintro i v σ' G' hx ⟨u,ks,rfl,bC,dN,hk⟩
  have hi:i < (pr g).gv.length:=by have:=(bN.mp hx).1;omega
  obtain⟨x',bq,cw⟩:=CZ.get (show ((pr g).gv.map Cl.toD)[i]?=some (pr g).gv[i].toD by rw[bF,aI hi];rfl);rw[hx]at bq
  cases bq
  have cN:=hk.length;rw[ax,ax,bK]at cN;unfold qh yP;refine qB ?_;refine⟨_,rfl,_,rfl,v,(pr g).gv[i],dn,kvs3,_,rfl,cw.mono bC,bC _ _ y4,Co,fun r G2 z2 bL=>?_⟩;have aY:=z2 _ _ dN;have tk:TK G2 (upd G2 lg (.lst (ks++[r]))):=TK.upd aY (fun _ z=>by cases z);refine⟨ks,aY,jz (by omega),_,_,rfl,fun b o e=>?_,jd,?_⟩
  .rw[jw (jr e mI)];exact z2 _ _ (bC _ _ e)
  .rw[show (pr g).gv.take (i+1)=(pr g).gv.take i++[(pr g).gv[i]] by rw[bP,aI hi];rfl,aW,aW]
   exact jL (tk.heldL (hk.mono z2)) (jV (tk.held bL))
 rintro σ' G5 ⟨u',e_,rfl,z5,RT,ve⟩;rw[show (pr g).gv.take vg.length=(pr g).gv by rw[<- mL,bX]]at ve;refine⟨lg,e_,(pr g).gv.map (Cl.say (JD g (pr g) rows x)),rfl,RT,ve,by rw[ax];omega,fun lk uB G6 z6 nlk Qu xS=>?_⟩;have wB:=z5.trans z6;refine gQ ?_;refine⟨_,rfl,_,rfl,ca,rfl,⟨_,SqT.of (wB _ _ (kB _ _ HM cJ))⟩,fun lr iE=>?_⟩;have z46:=wB;have Qz:=xS.length;rw[ax,ax]at Qz;refine zc (xs:=rows.map V.str) (fun i σ' G'=>∃u ks,σ'=[u]/\Same G6 G'/\G' lr=some (.lst ks)/\HeldL G' ((rows.take i).map jas) ks) ⟨none,[],rfl,je iE _,jd,jj⟩ ?_ ?_ ?_
 .rintro i σ' G' _ ⟨u,ks,rfl,bC,_⟩
  exact SqT.of (bC _ _ (wB _ _ (kB _ _ HM cJ)))
 .rintro i v σ' G' hx ⟨u,ks,rfl,bC,dN,hk⟩
  have hi:i < rows.length:=by have:=(bN.mp hx).1;rw[ax]at this;exact this
  rw[bF,aI hi]at hx
  cases hx
  have cN:=hk.length;rw[ax,bK]at cN;unfold qh yP;refine qB ?_;refine⟨_,rfl,sm rfl,fun t7 uK=>?_⟩;have z2:=je uK (.tup [V.str "lose",.str rows[i]]);have y2:upd G' t7 (.tup [V.str "lose",.str rows[i]]) t7=some (.tup [V.str "lose",.str rows[i]]):=jd;generalize upd G' t7 (.tup [V.str "lose",.str rows[i]])=G2 at *;have aY:=z2 _ _ dN;have tk:TK G2 (upd G2 lr (.lst (ks++[.ref t7]))):=TK.upd aY (fun _ z=>by cases z);refine⟨ks,aY,jz (by omega),_,_,rfl,fun b o e=>?_,jd,?_⟩
  .rw[jw (jr e iE)];exact z2 _ _ (bC _ _ e)
  .rw[show rows.take (i+1)=rows.take i++[rows[i]] by rw[bP,aI hi];rfl,aW]
   exact jL (tk.heldL (hk.mono z2)) (jV (tk.held (jo y2 (jb jl (jb jl jj)))))
 rintro σ' G7 ⟨u7,db,rfl,z7,pG,fM⟩;rw[ax,bX]at fM;have vc:=fM.length;rw[ax]at vc;refine⟨_,rfl,sm rfl,fun t8 iz=>?_⟩;have z8:=je iz (.tup [V.str "any",.str x]);have y8:upd G7 t8 (.tup [V.str "any",.str x]) t8=some (.tup [V.str "any",.str x]):=jd;generalize upd G7 t8 (.tup [V.str "any",.str x])=G8 at *;refine⟨sm rfl,fun l9 lF=>?_⟩;have z9:=je lF (.lst [V.ref t8]);have y9:upd G8 l9 (.lst [V.ref t8]) l9=some (.lst [V.ref t8]):=jd;generalize upd G8 l9 (.lst [V.ref t8])=G9 at *;have oG:=z8.trans z9;refine⟨lr,l9,_,_,rfl,rfl,oG _ _ pG,y9,aV (by show db.length+1<=1000;omega) (jY (aL 1000)),fun gL CM=>?_⟩;have mh:=je CM (.lst (db++[V.ref t8]));have wD:upd G9 gL (.lst (db++[V.ref t8])) gL=some (.lst (db++[V.ref t8])):=jd;generalize upd G9 gL (.lst (db++[V.ref t8]))=G10 at *;have E_:=z7.trans (oG.trans mh);refine⟨_,rfl,gL,lk,_,_,rfl,rfl,wD,E_ _ _ Qu,aV (by rw[aG];show db.length+1+_<=1000;omega) (jY (aL 1000)),fun xm CL=>?_⟩;have nb:=je CL (.lst (db++[V.ref t8]++uB));have Nj:upd G10 xm (.lst (db++[V.ref t8]++uB)) xm=some (.lst (db++[V.ref t8]++uB)):=jd;generalize upd G10 xm (.lst (db++[V.ref t8]++uB))=pL at *;have Fa:=E_.trans nb;have tI:=wB.trans Fa;have nB:HeldL pL (zO g (pr g) rows x) (db++[V.ref t8]++uB):=jL (jL (fM.mono (oG.trans (mh.trans nb))) (jV (jo ((z9.trans (mh.trans nb)) _ _ y8) (jb jl (jb jl jj))))) (xS.mono Fa);have Qr:(zO g (pr g) rows x).length<=30:=by
  have:=nB.length;rw[this,aG,aG];show db.length+1+_<=30;omega
 refine⟨fB,ml,xm,rh,_,_,_,zO g (pr g) rows x,rfl,tI _ _ nu,tI _ _ rQ,gW.mono tI,Nj,nB,uw,fun w hw=>?_,fun c_ No Ap rg FU O_ Aa=>?_⟩
 .obtain⟨w',cH,rfl⟩:=ci.mp hw
  have:=uH w' cH;rw[aG];omega
 have mf:=tI.trans rg;have vQ:=(W.keep kB rQ).mono mf;refine q aK aD c_ Ap (fun b o hb e=>mf _ _ (kB b o hb e)) ⟨vQ.hwo,vQ.hml,vQ.hp,⟨No,O_,Aa⟩,?_⟩ (fS.mono mf) um fun b hb=>eZ.free (Bz b hb)
 exact fun z=>by rw[z,tI _ _ rQ]at FU;cases FU
end
abbrev Wk:=List Du×List (List D)
def goO{α:Type}(wk:List Int->List (List D)->α->Option Wk)(ar:List Int):Nat->List (List D)->List α->Option Wk
 | _,aq,[]=>some ([],aq)
 | k,aq,s :: r=>match wk (ar++[(k:Int)]) aq s with
  | none=>none
  | some r1=>if r1.2.length<=16 then (match goO wk ar (k+1) r1.2 r with
   | none=>none
   | some r2=>some (r1.1++r2.1,r2.2)) else none
def Fo.walk{α:Type}(wk:List Int->List (List D)->α->Option Wk)(f:Str)(pr:Str->Pc)(path:List Int)(aq:List (List D)):Fo α->Option Wk
 | .leaf S=>some (S.walk f pr path aq)
 | .ite a b c x y=>match goO wk (path++[0]) 0 (aq.map (·++[jG (.least a b c)])) x with
  | none=>none
  | some r1=>(match goO wk (path++[1]) 0 (aq.map (·++[jG (.least b a (1 - c))])) y with
   | none=>none
   | some r2=>some (r1.1++r2.1,r1.2++r2.2))
 | .whl a b c ks x=>match goO wk (path++[0]) 0 [ks.map jG++[jG (.least a b c)]] x with
  | none=>none
  | some r1=>some (ki f "enter" path aq ks++(r1.1++ki f "keep" path r1.2 ks),[ks.map jG++[jG (.least b a (1 - c))]])
def j6(f:Str)(pr:Str->Pc):(n:Nat)->List Int->List (List D)->StN n->Option Wk
 | 0=>fun _ _ _=>none
 | n+1=>fun path aq s=>Fo.walk (j6 f pr n) f pr path aq s
abbrev goN(f:Str)(pr:Str->Pc)(n:Nat)(ar:List Int)(aq:List (List D))(l:List (StN n)):Option Wk:=goO (j6 f pr n) ar 0 aq l
def Sm.cost:Sm->Nat
 | .claim _=>16
 | .call _ _ _ _=>320
 | _=>0
def Sm.len:Sm->Nat
 | .claim _=>0
 | .call _ _ _ _=>23
 | _=>1
def Fo.cost{α:Type}(g:α->Nat):Fo α->Nat
 | .leaf S=>S.cost
 | .ite _ _ _ x y=>(x.map g).sum+(y.map g).sum
 | .whl _ _ _ ks x=>32 * ks.length+(x.map g).sum
def Fo.len{α:Type}(g:α->Nat):Fo α->Nat
 | .leaf S=>S.len
 | .ite _ _ _ x y=>1+(x.map g).sum+(y.map g).sum
 | .whl _ _ _ ks x=>ks.length+1+(x.map g).sum
def Fo.ok{α:Type}(g:α->Prop)(gs:List Str)(pr:Str->Pc):Fo α->Prop
 | .leaf S=>S.fit gs pr/\S.few
 | .ite _ _ _ x y=>x.length<=100/\y.length<=100/\(∀s∈x,g s)/\∀s∈y,g s
 | .whl _ _ _ ks x=>ks.length<=20/\x.length<=100/\∀s∈x,g s
def km:(n:Nat)->StN n->Nat
 | 0=>fun _=>0
 | n+1=>fun s=>Fo.cost (km n) s
def kQ:(n:Nat)->StN n->Nat
 | 0=>fun _=>0
 | n+1=>fun s=>Fo.len (kQ n) s
def okN(gs:List Str)(pr:Str->Pc):(n:Nat)->StN n->Prop
 | 0=>fun _=>False
 | n+1=>fun s=>Fo.ok (okN gs pr n) gs pr s
structure Bnd(r:Wk)(cost len most:Nat)(aq:List (List D)):Prop where
 c:r.1.length<=cost
 w:r.2.length<=most
 l:∀m,(∀v∈aq,v.length+len<=m)->len<=m->∀v∈r.2,v.length<=m
variable {gs:List Str}{pr:Str->Pc}{path:List Int}{S:Sm}
theorem jey{f:Str}{aq:List (List D)}(hf:S.fit gs pr)(hw:S.few)(dO:aq.length<=16):Bnd (S.walk f pr path aq) S.cost S.len 32 aq:=by
 cases S with
 | claim C=>
  refine⟨?_,aV dO (by decide),fun m h _ v hv=>h v hv⟩;show (ki f "claim" path aq [C]).length<=16;rw[kZ];show aq.length * 1<=16;omega
 | call x g as rows=>
  refine⟨?_,?_,fun m h _ v hv=>?_⟩
  .show (ki f "need" path (aq.map (·++jU g (pr g).ps as)) ((pr g).nd.map (Cl.say (zC g (pr g) rows)))).length<=320
   rw[kZ,ax,ax];have:=hf.2.1.nd;exact aV (Nat.mul_le_mul dO this) (by decide)
  .show ((aq.map (·++jU g (pr g).ps as)).map (·++zO g (pr g) rows x)).length<=32
   rw[ax,ax];omega
  .obtain⟨w1,h1,rfl⟩:=ci.mp (show v∈(aq.map (·++jU g (pr g).ps as)).map (·++zO g (pr g) rows x) from hv)
   obtain⟨w2,h2,rfl⟩:=ci.mp h1;have h3:=h w2 h2;have h4:(jU g (pr g).ps as).length<=6:=by unfold jU;rw[ax,tf];have:=hf.2.1.psl;omega
   have h5:(zO g (pr g) rows x).length<=17:=by
    unfold zO;rw[aG,aG,ax,ax,ax];have:=hf.2.1.gv;have:=hw.2;show rows.length+1+(pr g).gv.length<=17;omega
   have h6:(Sm.call x g as rows).len=23:=rfl;rw[aG,aG];omega
 | set x t c=>
  refine⟨cy _,?_,fun m h _ v hv=>?_⟩
  .show (aq.map (·++[(Sm.set x t c).toD])).length<=32
   rw[ax];omega
  .obtain⟨w1,h1,rfl⟩:=ci.mp (show v∈aq.map (·++[(Sm.set x t c).toD]) from hv)
   rw[aG];exact h w1 h1
 | put r x d t c=>
  refine⟨cy _,?_,fun m h _ v hv=>?_⟩
  .show (aq.map (·++[(Sm.put r x d t c).toD])).length<=32
   rw[ax];omega
  .obtain⟨w1,h1,rfl⟩:=ci.mp (show v∈aq.map (·++[(Sm.put r x d t c).toD]) from hv)
   rw[aG];exact h w1 h1
 | any x=>
  refine⟨cy _,?_,fun m h _ v hv=>?_⟩
  .show (aq.map (·++[(Sm.any x).toD])).length<=32
   rw[ax];omega
  .obtain⟨w1,h1,rfl⟩:=ci.mp (show v∈aq.map (·++[(Sm.any x).toD]) from hv)
   rw[aG];exact h w1 h1
theorem jbq{α:Type}{wk:List Int->List (List D)->α->Option Wk}{c ln:α->Nat}{ok:α->Prop}(fI:∀s path aq r,ok s->aq.length<=16->wk path aq s=some r->Bnd r (c s) (ln s) 32 aq):∀(l:List α) (k:Nat) (ar:List Int) (aq:List (List D)) (r:Wk),(∀s∈l,ok s)->aq.length<=16->goO wk ar k aq l=some r->Bnd r (l.map c).sum (l.map ln).sum 16 aq
 | [],k,ar,aq,r,_,dO,h=>by
  unfold goO at h
  cases h
  exact⟨cy _,dO,fun m h _ v hv=>h v hv⟩
 | s :: l,k,ar,aq,r,hok,dO,h=>by
  unfold goO at h;split at h
  .cases h
  .rename_i r1 e1
   have b1:=fI s _ _ r1 (hok s bt) dO e1;split at h
   .rename_i R8
    split at h
    .cases h
    .rename_i r2 e2
     cases h
     have b2:=jbq fI l _ _ _ r2 (fun t ht=>hok t (aZ _ ht)) R8 e2;refine⟨?_,b2.w,fun m hm hl v hv=>?_⟩
     .show (r1.1++r2.1).length<=_
      rw[aG,ce,AT];have:=b1.c;have:=b2.c;omega
     .rw[ce,AT]at hm hl
      refine b2.l m (fun u hu=>?_) (by omega) v hv;have:=b1.l (m - (l.map ln).sum) (fun t ht=>by have:=hm t ht;omega) (by omega) u hu;omega
   .cases h
theorem Z2{f:Str}{gs:List Str}{pr:Str->Pc}:∀(n:Nat) (s:StN n) (path:List Int) (aq:List (List D)) (r:Wk),okN gs pr n s->aq.length<=16->j6 f pr n path aq s=some r->Bnd r (km n s) (kQ n s) 32 aq
 | 0,s,_,_,_,h,_,_=>h.elim
 | n+1,s,path,aq,r,hok,dO,h=>by
  have ih:=jbq (c:=km n) (ln:=kQ n) (ok:=okN gs pr n) (wk:=j6 f pr n) fun s path aq r=>Z2 n s path aq r
  have hm:∀d:D,(aq.map (·++[d])).length<=16:=fun d=>by rw[ax];exact dO
  match s,hok,h with
  | .leaf S,hok,h=>
   cases h
   exact jey hok.1 hok.2 dO
  | .ite a b c x y,hok,h=>
   obtain⟨_,_,hx,hy⟩:=hok;unfold j6 Fo.walk at h;dsimp only at h;split at h
   .cases h
   .rename_i r1 e1
    split at h
    .cases h
    .rename_i r2 e2
     cases h
     have b1:=ih x _ _ _ r1 hx (hm _) e1;have b2:=ih y _ _ _ r2 hy (hm _) e2;refine⟨?_,?_,fun m hm hl v hv=>?_⟩
     .show (r1.1++r2.1).length<=(x.map (km n)).sum+(y.map (km n)).sum
      rw[aG];exact Wf b1.c b2.c
     .show (r1.2++r2.2).length<=32
      rw[aG];exact Wf b1.w b2.w
     .have hm:∀v∈aq,v.length+(1+(x.map (kQ n)).sum+(y.map (kQ n)).sum)<=m:=hm
      have hl:1+(x.map (kQ n)).sum+(y.map (kQ n)).sum<=m:=hl;rcases aT.mp (show v∈r1.2++r2.2 from hv) with hv | hv
      .refine b1.l m (fun u hu=>?_) (by omega) v hv
       obtain⟨u',dm,rfl⟩:=ci.mp hu;have:=hm u' dm;rw[aG];show u'.length+1+_<=m;omega
      .refine b2.l m (fun u hu=>?_) (by omega) v hv
       obtain⟨u',dm,rfl⟩:=ci.mp hu;have:=hm u' dm;rw[aG];show u'.length+1+_<=m;omega
  | .whl a b c ks x,hok,h=>
   obtain⟨_,_,hx⟩:=hok;unfold j6 Fo.walk at h;dsimp only at h;split at h
   .cases h
   .rename_i r1 e1
    cases h
    have b1:=ih x _ _ [ks.map jG++[jG (.least a b c)]] r1 hx (show 1<=16 by decide) e1;refine⟨?_,?_,fun m hm hl v hv=>?_⟩
    .show (ki f "enter" path aq ks++(r1.1++ki f "keep" path r1.2 ks)).length<=32 * ks.length+(x.map (km n)).sum
     rw[aG,aG,kZ,kZ];have h1:=b1.c;have h2:aq.length * ks.length<=16 * ks.length:=m_ _ dO;have h3:r1.2.length * ks.length<=16 * ks.length:=m_ _ b1.w;omega
    .show 1<=32
     decide
    .have hl:ks.length+1+(x.map (kQ n)).sum<=m:=hl
     rw[aN.mp (show v∈[ks.map jG++[jG (.least b a (1 - c))]] from hv),aG,ax];show ks.length+1<=m;omega
variable {n:Nat}
theorem qO{f:Str}{l:List (StN n)}{k:Nat}{ar:List Int}{aq:List (List D)}{r:Wk}(hok:∀s∈l,okN gs pr n s)(dO:aq.length<=16)(h:goO (j6 f pr n) ar k aq l=some r):Bnd r (l.map (km n)).sum (l.map (kQ n)).sum 16 aq:=
 jbq (fun s path aq r=>Z2 n s path aq r) l k ar aq r hok dO h
theorem KY{α:Type}{wk:List Int->List (List D)->α->Option Wk}{ar:List Int}(s:α):∀(l:List α) (k:Nat) (aq:List (List D)),goO wk ar k aq (l++[s])=(match goO wk ar k aq l with
  | none=>none
  | some r1=>match wk (ar++[((k+l.length:Nat):Int)]) r1.2 s with
   | none=>none
   | some r2=>if r2.2.length<=16 then some (r1.1++r2.1,r2.2) else none)
 | [],k,aq=>by
  rw[sZ];unfold goO;dsimp only;rw[oz,M3]
  cases wk (ar++[(k:Int)]) aq s with
  | none=>rfl
  | some r=>
   dsimp only;split
   .unfold goO
    simp
   .rfl
 | t :: l,k,aq=>by
  rw[rb,goO,goO]
  cases wk (ar++[(k:Int)]) aq t with
  | none=>rfl
  | some r=>
   dsimp only;split
   .rw[KY s l (k+1) r.2,bR,show k+1+l.length=k+(l.length+1) by omega]
    cases goO wk ar (k+1) r.2 l with
    | none=>rfl
    | some r2=>
     dsimp only
     cases wk (ar++[((k+(l.length+1):Nat):Int)]) r2.2 s with
     | none=>rfl
     | some r3=>
      dsimp only;by_cases h3:r3.2.length<=16
      .rw[WU h3,WU h3]
       simp
      .rw[WT h3,WT h3]
   .rfl
theorem KZ{α:Type}{wk:List Int->List (List D)->α->Option Wk}{ar:List Int}:∀(l r:List α) (k:Nat) (aq:List (List D)),goO wk ar k aq l=none->goO wk ar k aq (l++r)=none
 | [],r,k,aq,h=>by cases h
 | t :: l,r,k,aq,h=>by
  rw[rb];rw[goO]at h |-
  cases e:wk (ar++[(k:Int)]) aq t with
  | none=>rfl
  | some r1=>
   rw[e]at h;dsimp only at h |-;split
   .rename_i dO
    rw[WU dO]at h
    cases e2:goO wk ar (k+1) r1.2 l with
    | none=>rw[KZ l r (k+1) r1.2 e2]
    | some r2=>rw[e2]at h;cases h
   .rfl
abbrev Zf:aJ:=top 14
abbrev Jp:aJ:=top 32
abbrev zF:aJ:=top 33
inductive spTurned(vs:List V)(H:Hp)(Q:VK)(E:XK):Prop
 | mk (v:V) (a b:Tm) (c:Int) (_:vs=[v]) (_:Held H (Cl.least a b c).toD v) (_:∀u H',Same H H'->Held H' (Cl.least b a (1 - c)).toD u->Q u H')
structure PreW(f:Str)(ms:List V)(path:List Int)(aq:List (List D))(d cost len:Nat):Prop where
 fl:f.length<=100
 w16:aq.length<=16
 hms:ms.length+cost<=9000
 hlen:∀w∈aq,w.length+len<=800
 len0:len<=760
 hpath:path.length+d<=90
def jcf(CW CT:aa)(H:Hp)(wo dx ml dp:aa)(f:Str)(gs:List Str)(pr:Str->Pc)(ms:List V)(r:Option Wk)(Q:VK)(E:XK):Prop:=
 (∀r' aK aD bh H',r=some r'->(∀b o,b≠ml->H b=some o->H' b=some o)->WkAt CW H' wo dx ml dp f gs pr (ms++aK) bh r'.2->DutsAt H' r'.1 aK aD->aD.Nodup->(∀x∈aD,H x=none)->Q (.ref bh) H')/\
 (r=none->∀H',(∀b o,b≠ml->H b=some o->H' b=some o)->E (.ref CT) none H')
inductive spStat(CW CT:aa)(n:Nat)(vs:List V)(H:Hp)(Q:VK)(E:XK):Prop
 | mk (wo dx ml dp pt wy:aa) (sv:V) (f:Str) (gs:List Str) (pr:Str->Pc) (ms:List V) (path:List Int) (aq:List (List D)) (S:StN (n+1)) (_:vs=[.ref wo,sv,.ref wy,.ref pt]) (_:WkAt CW H wo dx ml dp f gs pr ms wy aq) (_:H pt=some (.tup (path.map V.int))) (_:Held H (stD (n+1) S) sv) (_:okN gs pr (n+1) S) (_:PreW f ms path aq (2 * n+1) (km (n+1) S) (kQ (n+1) S)) (_:jcf CW CT H wo dx ml dp f gs pr ms (j6 f pr (n+1) path aq S) Q E)
inductive spBody(CW CT:aa)(n:Nat)(vs:List V)(H:Hp)(Q:VK)(E:XK):Prop
 | mk (wo dx ml dp ar wy ba:aa) (f:Str) (gs:List Str) (pr:Str->Pc) (ms bs:List V) (path:List Int) (aq:List (List D)) (bd:List (StN n)) (_:vs=[.ref wo,.ref ba,.ref wy,.ref ar]) (_:WkAt CW H wo dx ml dp f gs pr ms wy aq) (_:H ar=some (.tup (path.map V.int))) (_:H ba=some (.tup bs)) (_:HeldL H (bd.map (stD n)) bs) (_:(∀S∈bd,okN gs pr n S)) (_:bd.length<=100) (_:PreW f ms path aq (2 * n) (bd.map (km n)).sum (bd.map (kQ n)).sum) (_:jcf CW CT H wo dx ml dp f gs pr ms (goN f pr n path aq bd) Q E)
variable {CT:aa}
section
theorem jcH(F:Fun K "turned" "turned" Zf f fd):FnOk P w K mg base CX0 1 f fd ["least"] spTurned:=by
 have sc:FnScope ["least","a","b","c"] ["least"] (jp Zf):=fQ;refine F.okZ sc (fun aH A outer s H vs Q E hr h=>?_);obtain⟨v,a,b,c,rfl,hv,q⟩:=h;refine⟨_,(jg (qY (j5 qL (zpv 0) (j0 jf) kL) (kn rfl (jy (jt (i:=1) sc.nd rfl oQ) (jy (jt (i:=2) sc.nd rfl oQ) (jy (jt (i:=3) sc.nd rfl oQ) j9)))))
   (jh (jv (zpd (jbc (qw Zk (qw (jbb 2) (qw (jbb 1) (qw (jfV (jn Zm jf (zpv 3))) Zj))))))))),?_⟩
 refine jP (σ':=[some v,none,none,none]) rfl ?_
 try dsimp only[j7]
 obtain⟨t,va,vb,rfl,ht,ha,hb⟩:=zR hv;refine⟨_,rfl,_,rfl,t,_,rfl,SqT.of ht,(fun h=>absurd h.1 (by show ¬(HT.sIx 4 0 (some 1)=0);decide)),fun t' cU=>?_⟩;have s1:=je cU (.tup (kI [.str "least",va,vb,.int c] (some 1) none));have e1:upd H t' (.tup (kI [.str "least",va,vb,.int c] (some 1) none)) t'=some (.tup [va,vb,.int c]):=jd;generalize upd H t' (.tup (kI [.str "least",va,vb,.int c] (some 1) none))=H1 at *;refine⟨t',_,rfl,SqT.of e1,rfl,_,_,rfl,_,_,rfl,_,_,rfl,rfl,?_⟩;refine jP (σ':=[some (.ref t),some va,some vb,some (.int c)]) rfl ?_;refine⟨(Cl.least b a (1 - c)).toD,⟨_,rfl,cf rfl,_,_,rfl,rfl,_,_,rfl,⟨_,rfl,(hb.mono s1)⟩,_,_,rfl,⟨_,rfl,(ha.mono s1)⟩,_,_,rfl,(fun G sG Q q=>?_),rfl⟩,fun v H' s h=>q v H' (s1.trans s) h⟩;exact⟨_,rfl,1,c,rfl,rfl,q _ _ (fun _ _ e=>e) (by unfold Held;rfl)⟩
theorem jeo{td:Tok}(F:Fun K "walk_body" "walk_body" qS f fd)(B:Free0 mg)(cx:mg "enumerate" = none)(lP:mg "MOST_WAYS" = some (.int 16 td)):FnOk P w K mg base (CX1 P w) 7 f fd ["walk","body","ways","around"] (spBody CW CT 0):=by
 have sc:FnScope ["walk","body","ways","around","k","statement"] ["walk","body","ways","around"] (jp qS):=fQ;refine F.okX sc (fun vs H Q E h=>?_) (fun aH A outer s H vs Q E hr W h=>?_)
 .obtain⟨wo,dx,ml,dp,ar,wy,ba,f,gs,pr,ms,bs,path,aq,bd,rfl,_⟩:=h
  rfl
 obtain⟨wo,dx,ml,dp,ar,wy,ba,f,gs,pr,ms,bs,path,aq,bd,rfl,U,em,dg,iL,hok,hl,hp,q⟩:=h
 cases Z8 (l:=bd)
 cases jK iL
 refine⟨_,(jg (kg W.own rfl (zn (by rfl) cx (ja (zpv 1) jc)) (kn rfl (jy (jt (i:=4) sc.nd rfl oQ) (jy (jt (i:=5) sc.nd rfl oQ) j9))) (jg (ju (i:=2) sc.nd rfl oQ kW)
   (jh (jJ (jx Jt (kb jI (by rfl) B.len_ kz (ja (zpv 2) jc)) (ym (v:=.int 16) (by rfl) lP ⟨_,rfl⟩) (jB _)) (jh jck) jC))))
   (jh (jv (zpv 2)))),?_⟩
 refine jP (σ':=[some (.ref wo),some (.ref ba),some (.ref wy),some (.ref ar),none,none]) rfl ?_
 try dsimp only[j7]
 refine⟨_,rfl,ba,rfl,⟨_,SqT.of dg⟩,?_⟩;refine qV (b:=true) (xs:=[]) (fun i σ G=>∃u4 u5,σ=[some (.ref wo),some (.ref ba),some (.ref wy),some (.ref ar),u4,u5]/\G=H) ⟨none,none,rfl,rfl⟩ ?_ ?_ ?_
 .rintro i σ G _ ⟨u4,u5,rfl,rfl⟩
  exact SqT.of dg
 .rintro i y σ G t hy _ _
  simp at hy
 rintro σ G ⟨u4,u5,rfl,rfl⟩;exact⟨_,rfl,q.1 ([],aq) [] [] wy G rfl (fun _ _ _ e=>e) (by rw[cv];exact U) trivial iY fun _ z=>by cases z⟩
theorem jfq{td:Tok}(F:Fun K "walk_body" "walk_body" qS f fd)(T:ClsW K CW)(B:Free0 mg)(cx:mg "enumerate" = none)(lP:mg "MOST_WAYS" = some (.int 16 td))(pK:mg "TooMany" = some (.ref CT))(Al:pU K CT valB "ValueError.__new__" = true)(Th:FnX P w K mg base (3 * n+9) "walk_statement" ["walk","statement","ways","path"] (spStat CW CT n)):FnOk P w K mg base (CX1 P w) (3 * n+9+1) f fd ["walk","body","ways","around"] (spBody CW CT (n+1)):=by
 have sc:FnScope ["walk","body","ways","around","k","statement"] ["walk","body","ways","around"] (jp qS):=fQ;refine F.okX sc (fun vs H Q E h=>?_) (fun aH A outer s H vs Q E hr W h=>?_)
 .obtain⟨wo,dx,ml,dp,ar,wy,ba,f,gs,pr,ms,bs,path,aq,bd,rfl,_⟩:=h
  rfl
 obtain⟨wo,dx,ml,dp,ar,wy,ba,f,gs,pr,ms,bs,path,aq,bd,rfl,U,em,dg,iL,hok,QN,hp,q⟩:=h;refine⟨_,(jg (kg W.own rfl (zn (by rfl) cx (ja (zpv 1) jc)) (kn rfl (jy (jt (i:=4) sc.nd rfl oQ) (jy (jt (i:=5) sc.nd rfl oQ) j9))) (jg (ju (i:=2) sc.nd rfl oQ (zE Th W hr (ja (zpv 0) (ja (zpv 5) (ja (zpv 2) (ja (jn qg (zpv 3) (js (ja (zpv 4) jc))) jc))))))
   (jh (jJ (jx Jt (kb jI (by rfl) B.len_ kz (ja (zpv 2) jc)) (ym (v:=.int 16) (by rfl) lP ⟨_,rfl⟩) (jB _)) (jh (jcj W rfl (by rfl) pK Al (ja (ZW (zY jm (zY (jdg (ym (v:=.int 16) (by rfl) lP ⟨_,rfl⟩)) (zY jm (zY (Y7 (Jk (zpv 0) rfl)) jdR))))) jc))) jC))))
   (jh (jv (zpv 2)))),?_⟩
 refine jP (σ':=[some (.ref wo),some (.ref ba),some (.ref wy),some (.ref ar),none,none]) rfl ?_
 try dsimp only[j7]
 have cK:=iL.length;rw[ax]at cK;have BG:=qd em U.hml;have BF:=qd dg U.hml;refine⟨_,rfl,ba,rfl,⟨_,SqT.of dg⟩,?_⟩;refine qV (b:=true) (xs:=bs) (fun i σ G=>∃u4 u5 aK aD bh r,goN f pr (n+1) path aq (bd.take i)=some r/\σ=[some (.ref wo),some (.ref ba),some (.ref bh),some (.ref ar),u4,u5]/\(∀b o,b≠ml->H b=some o->G b=some o)/\WkAt CW G wo dx ml dp f gs pr (ms++aK) bh r.2/\DutsAt G r.1 aK aD/\aD.Nodup/\∀x∈aD,H x=none) ⟨none,none,[],[],wy,([],aq),rfl,rfl,fun _ _ _ e=>e,by rw[cv];exact U,trivial,iY,fun _ z=>by cases z⟩ ?_ ?_ ?_
 .rintro i σ G _ ⟨u4,u5,aK,aD,bh,r,er,rfl,kG,_⟩
  exact SqT.of (kG _ _ BF dg)
 .rintro i y σ G t hy ⟨u4,u5,aK,aD,bh,r,er,rfl,kG,U',hD,bV,bI⟩ ht
  have hi:i < bd.length:=by have:=(bN.mp hy).1;omega
  obtain⟨y',ck,iu⟩:=iL.get (show (bd.map (stD (n+1)))[i]?=some (stD (n+1) bd[i]) by rw[bF,aI hi];rfl);rw[hy]at ck
  cases ck
  have eM:bd.take (i+1)=bd.take i++[bd[i]]:=by rw[bP,aI hi];rfl
  have Dy:bd=bd.take (i+1)++bd.drop (i+1):=(sY _ _).symm;have bn:=qO (gs:=gs) (fun S hS=>hok S (M7 hS)) hp.w16 er;have BM:=hD.len;have eK:=KY (wk:=j6 f pr (n+1)) (ar:=path) bd[i] (bd.take i) 0 aq;rw[<- eM,show goO (j6 f pr (n+1)) path 0 aq (bd.take i)=some r from er]at eK;dsimp only at eK;rw[bK,p3 (cu hi),AR]at eK;have lB:∀g:StN (n+1)->Nat,((bd.take i).map g).sum+g bd[i]<=(bd.map g).sum:=fun g=>by
   have h1:(bd.map g).sum=((bd.take (i+1)).map g).sum+((bd.drop (i+1)).map g).sum:=by rw[<- p5,<- aW,sY]
   rw[h1,eM,aW,p5];simp
  have hc:=lB (km (n+1));have gR:=lB (kQ (n+1));have hms:=hp.hms;have gk:=hp.len0;have fK:=hp.hpath;have bc:=bn.c;have mK:=hok _ (ft hi);have uX:∀r2,j6 f pr (n+1) (path++[(i:Int)]) r.2 bd[i]=r2->(r2=none\/∃r3,r2=some r3/\¬r3.2.length<=16)->goN f pr (n+1) path aq bd=none:=fun r2 e h=>by
   rw[Dy];refine KZ _ _ _ _ ?_;rw[eK,e];rcases h with rfl | ⟨r3,rfl,h3⟩
   .rfl
   .dsimp only
    rw[WT h3]
  have s1:=je ht (.tup [V.int i,y]);have e1:upd G t (.tup [V.int i,y]) t=some (.tup [V.int i,y]):=jd;generalize upd G t (.tup [V.int i,y])=G1 at *;refine yB ?_;intro _;refine⟨t,_,rfl,SqT.of e1,rfl,_,_,rfl,_,_,rfl,rfl,?_⟩;refine jP (σ':=[some (.ref wo),some (.ref ba),some (.ref bh),some (.ref ar),some (.int i),some y]) rfl ?_;have k1:∀b o,b≠ml->H b=some o->G1 b=some o:=fun b o hb e=>s1 _ _ (kG b o hb e)
  refine⟨_,rfl,_,rfl,_,rfl,_,rfl,_,rfl,sm rfl,fun t1 bS=>?_⟩;have s2:=je bS (.tup [V.int i]);have e2:upd G1 t1 (.tup [V.int i]) t1=some (.tup [V.int i]):=jd;generalize upd G1 t1 (.tup [V.int i])=G2 at *;refine⟨ar,t1,_,_,rfl,rfl,s2 _ _ (k1 _ _ BG em),e2,aV (by rw[ax];show path.length+1<=1000;omega) (jY (aL 1000)),fun t2 G3 s3 e3=>?_⟩;have bG:=s1.trans (s2.trans s3);have k3:∀b o,b≠ml->H b=some o->G3 b=some o:=fun b o hb e=>bG _ _ (kG b o hb e)
  have U3:=U'.mono bG;refine⟨wo,dx,ml,dp,t2,bh,y,f,gs,pr,ms++aK,path++[(i:Int)],r.2,bd[i],rfl,U3,by rw[aW];exact e3,(jR k3 U.hml).held iu,mK,⟨hp.fl,bn.w,by rw[aG];omega,fun w cH=>?_,by omega,by rw[aG];show path.length+1+_<=90;omega⟩,fun r2 cj bZ c_ G4 cn k4 U4 fS mr iq=>?_,fun cn G4 k4=>?_⟩
  .have:=bn.l (800 - kQ (n+1) bd[i]) (fun u hu=>by have:=hp.hlen u hu;omega) (by omega) w cH
   omega
  .obtain⟨A4,nu,gW⟩:=U4.hwy
   have l4:=gW.len;refine gQ ?_;refine⟨_,rfl,c_,_,rfl,.inl (SqL.of nu),_,_,rfl,rfl,_,rfl,jQ (fun d=>?_) (fun d=>?_)⟩
   .have nZ:¬r2.2.length<=16:=fun z=>by
     have d':=WP d;rw[ax,l4]at d';have d':(16:Int) < (r2.2.length:Int):=d';omega
    have hE:=q.2 (uX _ cn (.inr ⟨r2,rfl,nZ⟩)) G4 fun b o hb e=>k4 b o hb (k3 b o hb e)
    have gS:=hp.fl;have La:∀{x y:Str} {k m:Nat},x.length<=k->y.length<=m->(x++y).length<=k+m:=fun hx hy=>by rw[zK];omega
    have l1:(sS++("more than " : Str)).length<=10:=by decide +kernel
    have l2:(bu (Av (16:Int))).length<=2:=by decide +kernel
    have l3:(" ways in " : Str).length<=9:=by decide +kernel
    have m2:=La l1 l2;have m3:=La m2 l3;have m4:=La m3 gS;exact⟨_,rfl,jY (aV l1 (by decide)),16,rfl,by decide,_,rfl,jY (aV m2 (by decide)),_,rfl,jY (aV m3 (by decide)),_,rfl,wo,CW,dx,_,_,rfl,U4.hwo,T.c,T.n1,rfl,f,rfl,jY (aV gS (by decide)),f,rfl,jY (aV m4 (by decide)),jY (aV m4 (by decide)),(show 1<=1000 by decide),hE⟩
   .have nZ:r2.2.length<=16:=by
     have d':¬((16:Int) < ((A4.map V.ref).length:Int)):=fun z=>d (WQ z)
     rw[ax,l4]at d';omega
    have kA:∀b o,b≠ml->G b=some o->G4 b=some o:=fun b o hb e=>k4 b o hb (bG _ _ e)
    have nG:ml ∉ aD:=fun z=>by have:=bI _ z;rw[U.hml]at this;cases this
    refine⟨_,_,aK++cj,aD++bZ,c_,(r.1++r2.1,r2.2),?_,rfl,fun b o hb e=>k4 b o hb (k3 b o hb e),by rw[<- dH];exact U4,DutsAt.app (DutsAt.keep kA U'.hml hD nG) fS,?_,?_⟩
    .show goO (j6 f pr (n+1)) path 0 aq (bd.take (i+1))=_
     rw[eK,cn];dsimp only;rw[WU nZ]
    .refine ia.mpr ⟨bV,mr,fun b hb c hc=>?_⟩
     rintro rfl;have:=kj (hD.mono bG) b hb;exact this (iq b hc)
    .intro b hb
     rcases aT.mp hb with hb | hb
     .exact bI b hb
     .have hn:=iq b hb
      have iK:b≠ml:=fun z=>by rw[z,U3.hml]at hn;cases hn
      rcases hh:H b with _ | o
      .rfl
      .rw[k3 b o iK hh]at hn;cases hn
  .exact q.2 (uX _ cn (.inl rfl)) G4 fun b o hb e=>k4 b o hb (k3 b o hb e)
 rintro σ G ⟨u4,u5,aK,aD,bh,r,er,rfl,kG,U',hD,bV,bI⟩;rw[<- cK,bX]at er;exact⟨_,rfl,q.1 r aK aD bh G er kG U' hD bV bI⟩
end
inductive spIf(CW CT:aa)(n:Nat)(vs:List V)(H:Hp)(Q:VK)(E:XK):Prop
 | mk (wo dx ml dp pt wy:aa) (sv:V) (f:Str) (gs:List Str) (pr:Str->Pc) (ms:List V) (path:List Int) (aq:List (List D)) (a b:Tm) (c:Int) (x y:List (StN n)) (_:vs=[.ref wo,sv,.ref wy,.ref pt]) (_:WkAt CW H wo dx ml dp f gs pr ms wy aq) (_:H pt=some (.tup (path.map V.int))) (_:Held H (Nd.ite a b c (x.map (stD n)) (y.map (stD n))).toD sv) (_:x.length<=100) (_:y.length<=100) (_:(∀s∈x,okN gs pr n s)) (_:(∀s∈y,okN gs pr n s)) (_:PreW f ms path aq (2 * n+1) ((x.map (km n)).sum+(y.map (km n)).sum) (1+(x.map (kQ n)).sum+(y.map (kQ n)).sum)) (_:jcf CW CT H wo dx ml dp f gs pr ms (Fo.walk (j6 f pr n) f pr path aq (.ite a b c x y)) Q E)
inductive spWhile(CW CT:aa)(n:Nat)(vs:List V)(H:Hp)(Q:VK)(E:XK):Prop
 | mk (wo dx ml dp pt wy:aa) (sv:V) (f:Str) (gs:List Str) (pr:Str->Pc) (ms:List V) (path:List Int) (aq:List (List D)) (a b:Tm) (c:Int) (ks:List Cl) (x:List (StN n)) (_:vs=[.ref wo,sv,.ref wy,.ref pt]) (_:WkAt CW H wo dx ml dp f gs pr ms wy aq) (_:H pt=some (.tup (path.map V.int))) (_:Held H (Nd.whl a b c ks (x.map (stD n))).toD sv) (_:ks.length<=20) (_:x.length<=100) (_:(∀s∈x,okN gs pr n s)) (_:PreW f ms path aq (2 * n+1) (32 * ks.length+(x.map (km n)).sum) (ks.length+1+(x.map (kQ n)).sum)) (_:jcf CW CT H wo dx ml dp f gs pr ms (Fo.walk (j6 f pr n) f pr path aq (.whl a b c ks x)) Q E)
variable {a b:Tm}{c:Int}{r1:Wk}
theorem jdt{f:Str}{aq:List (List D)}{x y:List (StN n)}{r2:Wk}(e1:goN f pr n (path++[0]) (aq.map (·++[jG (.least a b c)])) x=some r1)(e2:goN f pr n (path++[1]) (aq.map (·++[jG (.least b a (1 - c))])) y=some r2):Fo.walk (j6 f pr n) f pr path aq (.ite a b c x y)=some (r1.1++r2.1,r1.2++r2.2):=by
 unfold Fo.walk;dsimp only;rw[show goO (j6 f pr n) (path++[0]) 0 (aq.map (·++[jG (.least a b c)])) x=some r1 from e1];dsimp only;rw[show goO (j6 f pr n) (path++[1]) 0 (aq.map (·++[jG (.least b a (1 - c))])) y=some r2 from e2]
theorem jcw{f:Str}{aq:List (List D)}{x y:List (StN n)}(e1:goN f pr n (path++[0]) (aq.map (·++[jG (.least a b c)])) x=none):Fo.walk (j6 f pr n) f pr path aq (.ite a b c x y)=none:=by
 unfold Fo.walk;dsimp only;rw[show goO (j6 f pr n) (path++[0]) 0 (aq.map (·++[jG (.least a b c)])) x=none from e1]
theorem jcv{f:Str}{aq:List (List D)}{x y:List (StN n)}(e1:goN f pr n (path++[0]) (aq.map (·++[jG (.least a b c)])) x=some r1)(e2:goN f pr n (path++[1]) (aq.map (·++[jG (.least b a (1 - c))])) y=none):Fo.walk (j6 f pr n) f pr path aq (.ite a b c x y)=none:=by
 unfold Fo.walk;dsimp only;rw[show goO (j6 f pr n) (path++[0]) 0 (aq.map (·++[jG (.least a b c)])) x=some r1 from e1];dsimp only;rw[show goO (j6 f pr n) (path++[1]) 0 (aq.map (·++[jG (.least b a (1 - c))])) y=none from e2]
theorem jdr{f:Str}{aq:List (List D)}{ks:List Cl}{x:List (StN n)}(e1:goN f pr n (path++[0]) [ks.map jG++[jG (.least a b c)]] x=some r1):Fo.walk (j6 f pr n) f pr path aq (.whl a b c ks x)=some (ki f "enter" path aq ks++(r1.1++ki f "keep" path r1.2 ks),[ks.map jG++[jG (.least b a (1 - c))]]):=by
 unfold Fo.walk;dsimp only;rw[show goO (j6 f pr n) (path++[0]) 0 [ks.map jG++[jG (.least a b c)]] x=some r1 from e1]
theorem jcu{f:Str}{aq:List (List D)}{ks:List Cl}{x:List (StN n)}(e1:goN f pr n (path++[0]) [ks.map jG++[jG (.least a b c)]] x=none):Fo.walk (j6 f pr n) f pr path aq (.whl a b c ks x)=none:=by
 unfold Fo.walk;dsimp only;rw[show goO (j6 f pr n) (path++[0]) 0 [ks.map jG++[jG (.least a b c)]] x=none from e1]
variable {H:Hp}{ms:List V}
theorem jes{ml:aa}(k:∀b o,b≠ml->H b=some o->G b=some o)(hm:G ml=some (.lst ms)){b:aa}(hb:G b=none):H b=none:=by
 have iK:b≠ml:=fun z=>by rw[z,hm]at hb;cases hb
 rcases hh:H b with _ | o
 .rfl
 .rw[k b o iK hh]at hb;cases hb
theorem JS{G':Hp}{ml:aa}{d1 d2:List Du}{m1 m2:List V}{w1 w2:List aa}(k:∀b o,b≠ml->H b=some o->G b=some o)(k':∀b o,b≠ml->G b=some o->G' b=some o)(hm:G ml=some (.lst ms))(hH:H ml≠none)(D1:DutsAt G d1 m1 w1)(n1:w1.Nodup)(f1:∀x∈w1,H x=none)(D2:DutsAt G' d2 m2 w2)(n2:w2.Nodup)(f2:∀x∈w2,G x=none):
  DutsAt G' (d1++d2) (m1++m2) (w1++w2)/\(w1++w2).Nodup/\∀x∈w1++w2,H x=none:=by
 refine⟨DutsAt.app (DutsAt.keep k' hm D1 fun z=>hH (f1 _ z)) D2,ia.mpr ⟨n1,n2,fun b hb c hc=>?_⟩,fun b hb=>?_⟩
 .rintro rfl
  exact kj D1 b hb (f2 b hc)
 .rcases aT.mp hb with hb | hb
  .exact f1 b hb
  .exact jes k hm (f2 b hb)
section
theorem jhf{k:Nat}(F:Fun K "walk_if" "walk_if" Jp f fd)(eT:Fn P w K mg base 1 "known" ["claims"] spKnownL)(eB:Fn P w K mg base 1 "turned" ["least"] spTurned)(fW:Fn P w K mg base 1 "behind_each" ["ways","rows"] spBehind)(n9:FnX P w K mg base (3 * n+7) "walk_body" ["walk","body","ways","around"] (spBody CW CT n)):FnOk P w K mg base (CX1 P w) (3 * n+7+1) f fd ["walk","statement","ways","path"] (spIf CW CT n):=by
 have sc:FnScope ["walk","statement","ways","path","least","body","other","first","second"] ["walk","statement","ways","path"] (jp Jp):=fQ;refine F.okX sc (fun vs H Q E h=>?_) (fun aH A outer s H vs Q E hr W h=>?_)
 .obtain⟨wo,dx,ml,dp,pt,wy,sv,f,gs,pr,ms,path,aq,a,b,c,x,y,rfl,_⟩:=h
  rfl
 obtain⟨wo,dx,ml,dp,pt,wy,sv,f,gs,pr,ms,path,aq,a,b,c,x,y,rfl,U,bO,hS,oW,BY,hx,hy,hp,q⟩:=h;refine⟨_,(jg (qY (j5 qL (zpv 1) (j0 jf) kL) (kn rfl (jy (jt (i:=4) sc.nd rfl oQ) (jy (jt (i:=5) sc.nd rfl oQ) (jy (jt (i:=6) sc.nd rfl oQ) j9)))))
   (jg (ju (i:=7) sc.nd rfl oQ (zE n9 W hr (ja (zpv 0) (ja (zpv 5) (ja (jO fW hr (ja (zpv 2) (ja (jO eT hr (ja (jF (ja (zpv 4) jc)) jc)) jc))) (ja (jn qg (zpv 3) (js (ja jf jc))) jc))))))
   (jg (ju (i:=8) sc.nd rfl oQ (zE n9 W hr (ja (zpv 0) (ja (zpv 6) (ja (jO fW hr (ja (zpv 2) (ja (jO eT hr (ja (jF (ja (jO eB hr (ja (zpv 4) jc)) jc)) jc)) jc))) (ja (jn qg (zpv 3) (js (ja jf jc))) jc))))))
   (jh (jv (jn kd (zpv 7) (zpv 8))))))),?_⟩
 refine jP (σ':=[some (.ref wo),some sv,some (.ref wy),some (.ref pt),none,none,none,none,none]) rfl ?_
 try dsimp only[j7]
 refine jeG ?_;intro _ _ _;obtain⟨t,u,p,r,xs,ys,rfl,ht,hu,dM,ls,Cf,mD⟩:=yd hS;have hms:=hp.hms;have gk:=hp.len0;have fK:=hp.hpath;have gN:=hp.w16;refine⟨_,rfl,_,rfl,t,_,rfl,SqT.of ht,(fun h=>absurd h.1 (by show ¬(HT.sIx 4 0 (some 1)=0);decide)),fun t' cU=>?_⟩;have s1:=je cU (.tup (kI [.str "if",u,.ref p,.ref r] (some 1) none));have e1:upd H t' (.tup (kI [.str "if",u,.ref p,.ref r] (some 1) none)) t'=some (.tup [u,.ref p,.ref r]):=jd;generalize upd H t' (.tup (kI [.str "if",u,.ref p,.ref r] (some 1) none))=H1 at *;refine⟨t',_,rfl,SqT.of e1,rfl,_,_,rfl,_,_,rfl,_,_,rfl,rfl,?_⟩;refine jP (σ':=[some (.ref wo),some (.ref t),some (.ref wy),some (.ref pt),some u,some (.ref p),some (.ref r),none,none]) rfl ?_;refine⟨_,rfl,_,rfl,_,rfl,_,rfl,sm rfl,fun l1 bJ=>?_⟩;have s2:=je bJ (.lst [u]);have e2:upd H1 l1 (.lst [u]) l1=some (.lst [u]):=jd;generalize upd H1 l1 (.lst [u])=H2 at *;have aQ:=s1.trans s2;refine⟨l1,[u],[.least a b c],rfl,e2,jV (hu.mono aQ),(show 1<=100 by decide),fun l2 e_ H3 s3 n3 e3 nM=>?_⟩;have bG:=aQ.trans s3;have U3:=U.mono bG;obtain⟨was,rJ,rZ⟩:=U3.hwy;have lk3:=nM.length;refine⟨wy,ml,l2,was,ms,e_,aq,[jG (.least a b c)],rfl,rJ,U3.hml,rZ,e3,nM,by omega,fun w hw=>by have:=hp.hlen w hw;show w.length+1<=900;omega,fun l3 SZ H4 s4 n4 e4 gW=>?_⟩;refine⟨_,rfl,sm rfl,fun t1 bS=>?_⟩;have s5:=je bS (.tup [V.int 0]);have e5:upd H4 t1 (.tup [V.int 0]) t1=some (.tup [V.int 0]):=jd;generalize upd H4 t1 (.tup [V.int 0])=H5 at *;have mn:=bG.trans (s4.trans s5);refine⟨pt,t1,_,_,rfl,rfl,mn _ _ bO,e5,jY (by rw[ax];show path.length+1<=1000;omega),fun t2 H6 s6 e6=>?_⟩;have nk:=mn.trans s6;have s46:=s4.trans (s5.trans s6);have U6:=U.mono nk;have xM:=U6.hml;have BH:l3≠ml:=fun z=>by rw[z,U3.hml]at n4;cases n4
 have Qy:∀w∈aq.map (·++[jG (.least a b c)]),w.length+(x.map (kQ n)).sum<=800:=fun w hw=>by
  obtain⟨w',cH,rfl⟩:=ci.mp hw;have:=hp.hlen w' cH;rw[aG];show w'.length+1+_<=800;omega
 have Qx:∀w∈aq.map (·++[jG (.least b a (1 - c))]),w.length+(y.map (kQ n)).sum<=800:=fun w hw=>by
  obtain⟨w',cH,rfl⟩:=ci.mp hw;have:=hp.hlen w' cH;rw[aG];show w'.length+1+_<=800;omega
 refine⟨wo,dx,ml,dp,t2,l3,p,f,gs,pr,ms,xs,path++[0],aq.map (·++[jG (.least a b c)]),x,rfl,⟨U6.hwo,U6.hml,U6.hp,⟨SZ,s6 _ _ (s5 _ _ e4),gW.mono (s5.trans s6)⟩,BH⟩,by rw[aW];exact e6,nk _ _ dM,ls.mono nk,hx,oW,⟨hp.fl,by rw[ax];exact gN,by omega,Qy,by omega,by rw[aG];show path.length+1+_<=90;omega⟩,fun r1 dJ fC fB H7 eP k7 U7 Iw Os Ol=>?_,fun eP H7 k7=>q.2 (jcw eP) H7 fun b o hb e=>k7 b o hb (nk _ _ e)⟩;have mC:∀b o,b≠ml->H b=some o->H7 b=some o:=fun b o hb e=>k7 b o hb (nk _ _ e)
 have nh:=jR mC U.hml;have b1:=qO (gs:=gs) hx (by rw[ax];exact gN) eP;have ld7:=Iw.len;have SE:=b1.c;have IP:=b1.w;have V7:WkAt CW H7 wo dx ml dp f gs pr (ms++dJ) wy aq:=U.keep mC U7.hml;have lj:=qd bO U.hml;refine gQ ?_;refine⟨_,rfl,_,rfl,_,rfl,_,rfl,u,a,b,c,rfl,nh.held hu,fun u2 H8 s8 nA=>⟨sm rfl,fun l4 dy=>?_⟩⟩;have s9:=je dy (.lst [u2]);have e9:upd H8 l4 (.lst [u2]) l4=some (.lst [u2]):=jd;generalize upd H8 l4 (.lst [u2])=H9 at *;have tZ:=s8.trans s9;refine⟨l4,[u2],[.least b a (1 - c)],rfl,e9,jV (nA.mono s9),(show 1<=100 by decide),fun l5 OV dP dZ BI vL xW=>?_⟩;have FF:=tZ.trans dZ;have DV:=V7.mono FF;obtain⟨A3,uF,pD⟩:=DV.hwy;refine⟨wy,ml,l5,A3,ms++dJ,OV,aq,[jG (.least b a (1 - c))],rfl,uF,DV.hml,pD,vL,xW,by omega,fun w hw=>by have:=hp.hlen w hw;show w.length+1<=900;omega,fun l6 DJ cq dY F7 DD Ab=>?_⟩;have NG:=FF.trans dY;refine⟨_,rfl,sm rfl,fun t3 eJ=>?_⟩;have Bk:=je eJ (.tup [V.int 1]);have DC:upd cq t3 (.tup [V.int 1]) t3=some (.tup [V.int 1]):=jd;generalize upd cq t3 (.tup [V.int 1])=hU at *;have FE:=NG.trans Bk;refine⟨pt,t3,_,_,rfl,rfl,FE _ _ (mC _ _ lj bO),DC,jY (by rw[ax];show path.length+1<=1000;omega),fun t4 Ao Bi DB=>?_⟩;have ro:=FE.trans Bi;have DU:=V7.mono ro;have Oz:l6≠ml:=fun z=>by rw[z,DV.hml]at F7;cases F7
 refine⟨wo,dx,ml,dp,t4,l6,r,f,gs,pr,ms++dJ,ys,path++[1],aq.map (·++[jG (.least b a (1 - c))]),y,rfl,⟨DU.hwo,DU.hml,DU.hp,⟨DJ,Bi _ _ (Bk _ _ DD),Ab.mono (Bk.trans Bi)⟩,Oz⟩,by rw[aW];exact DB,ro _ _ (nh _ _ Cf),(nh.heldL mD).mono ro,hy,BY,⟨hp.fl,by rw[ax];exact gN,by rw[aG];omega,Qx,by omega,by rw[aG];show path.length+1+_<=90;omega⟩,fun r2 cj bZ c_ gx cn BT Am RY Ov On=>?_,fun cn gx BT=>q.2 (jcv eP cn) gx fun b o hb e=>BT b o hb (ro _ _ (mC b o hb e))⟩;have BQ:∀b o,b≠ml->H7 b=some o->gx b=some o:=fun b o hb e=>BT b o hb (ro _ _ e)
 have b2:=qO (gs:=gs) hy (by rw[ax];exact gN) cn;have bw2:=b2.w;have S8:WkAt CW gx wo dx ml dp f gs pr (ms++dJ++cj) fB r1.2:=U7.keep BQ Am.hml;obtain⟨tP,Ph,Ia⟩:=S8.hwy;obtain⟨tO,Pg,H_⟩:=Am.hwy;have uw:=Ia.len;have lw2:=H_.len;refine gQ ?_;refine⟨_,rfl,_,rfl,fB,c_,_,_,rfl,rfl,Ph,Pg,jY (by rw[ax,ax];omega),fun l hl=>?_⟩;have gb:=je hl (.lst (tP.map V.ref++tO.map V.ref));have vK:upd gx l (.lst (tP.map V.ref++tO.map V.ref)) l=some (.lst (tP.map V.ref++tO.map V.ref)):=jd;generalize upd gx l (.lst (tP.map V.ref++tO.map V.ref))=H15 at *;obtain⟨j1,j2,j3⟩:=JS (G':=H15) (H:=H) mC (fun b o hb e=>gb _ _ (BQ b o hb e)) U7.hml (by rw[U.hml];simp) Iw Os (fun z hz=>nk.free (Ol z hz)) (RY.mono gb) Ov (fun z hz=>ro.free (On z hz));have DX:=Am.mono gb;refine q.1 _ (dJ++cj) (fC++bZ) l H15 (jdt eP cn) (fun b o hb e=>gb _ _ (BQ b o hb (mC b o hb e))) ⟨DX.hwo,by rw[<- dH];exact DX.hml,DX.hp,⟨tP++tO,by rw[aW];exact vK,WayL.app (Ia.mono gb) (H_.mono gb)⟩,fun z=>by rw[z,Am.hml]at hl;cases hl⟩ j1 j2 j3
end
section
theorem jd6(F:Fun K "walk_while" "walk_while" zF f fd)(fh:Fn P w K mg base 1 "meet" ["walk","kind","path","ways","claims"] (spMeetB true CW))(At:Fn P w K mg base 1 "known" ["claims"] spKnown)(eT:Fn P w K mg base 1 "known" ["claims"] spKnownL)(eB:Fn P w K mg base 1 "turned" ["least"] spTurned)(n9:FnX P w K mg base (3 * n+7) "walk_body" ["walk","body","ways","around"] (spBody CW CT n)):FnOk P w K mg base (CX1 P w) (3 * n+7+1) f fd ["walk","statement","ways","path"] (spWhile CW CT n):=by
 have sc:FnScope ["walk","statement","ways","path","least","keeps","body","head","rounds"] ["walk","statement","ways","path"] (jp zF):=fQ;refine F.okX sc (fun vs H Q E h=>?_) (fun aH A outer s H vs Q E hr W h=>?_)
 .obtain⟨wo,dx,ml,dp,pt,wy,sv,f,gs,pr,ms,path,aq,a,b,c,ks,x,rfl,_⟩:=h
  rfl
 obtain⟨wo,dx,ml,dp,pt,wy,sv,f,gs,pr,ms,path,aq,a,b,c,ks,x,rfl,U,bO,hS,CQ,oW,hx,hp,q⟩:=h;refine⟨_,(jg (qY (j5 qL (zpv 1) (j0 jf) kL) (kn rfl (jy (jt (i:=4) sc.nd rfl oQ) (jy (jt (i:=5) sc.nd rfl oQ) (jy (jt (i:=6) sc.nd rfl oQ) j9)))))
   (jg (jW (jO fh hr (ja (zpv 0) (ja jm (ja (zpv 3) (ja (zpv 2) (ja (zpv 5) jc)))))))
   (jg (ju (i:=7) sc.nd rfl oQ (jO At hr (ja (zpv 5) jc)))
   (jg (ju (i:=8) sc.nd rfl oQ (zE n9 W hr (ja (zpv 0) (ja (zpv 6) (ja (jF (ja (jn kd (zpv 7) (jO eT hr (ja (jF (ja (zpv 4) jc)) jc))) jc)) (ja (jn qg (zpv 3) (js (ja jf jc))) jc))))))
   (jg (jW (jO fh hr (ja (zpv 0) (ja jm (ja (zpv 3) (ja (zpv 8) (ja (zpv 5) jc)))))))
   (jh (jv (jF (ja (jn kd (zpv 7) (jO eT hr (ja (jF (ja (jO eB hr (ja (zpv 4) jc)) jc)) jc))) jc))))))))),?_⟩
 refine jP (σ':=[some (.ref wo),some sv,some (.ref wy),some (.ref pt),none,none,none,none,none]) rfl ?_
 try dsimp only[j7]
 refine jb5 ?_;intro _ _ _ _ _;obtain⟨t,u,p,r,xs,ys,rfl,ht,hu,dM,ls,Cf,mD⟩:=zV hS;have hms:=hp.hms;have gk:=hp.len0;have fK:=hp.hpath;have gN:=hp.w16;have OH:=ls.length;rw[ax]at OH;refine⟨_,rfl,_,rfl,t,_,rfl,SqT.of ht,(fun h=>absurd h.1 (by show ¬(HT.sIx 4 0 (some 1)=0);decide)),fun t' cU=>?_⟩;have s1:=je cU (.tup (kI [.str "while",u,.ref p,.ref r] (some 1) none));have e1:upd H t' (.tup (kI [.str "while",u,.ref p,.ref r] (some 1) none)) t'=some (.tup [u,.ref p,.ref r]):=jd;generalize upd H t' (.tup (kI [.str "while",u,.ref p,.ref r] (some 1) none))=H1 at *;refine⟨t',_,rfl,SqT.of e1,rfl,_,_,rfl,_,_,rfl,_,_,rfl,rfl,?_⟩;refine jP (σ':=[some (.ref wo),some (.ref t),some (.ref wy),some (.ref pt),some u,some (.ref p),some (.ref r),none,none]) rfl ?_;have U1:=U.mono s1;obtain⟨rh,nv,nU⟩:=U1.hwy;have np:=qd dM U.hml;have lj:=qd bO U.hml;have u_:aq.length * ks.length<=16 * ks.length:=m_ _ gN;refine⟨_,rfl,_,rfl,_,rfl,_,rfl,wo,dx,ml,pt,wy,p,rh,f,"enter",.ref dp,ms,xs,path,aq,ks,rfl,U1.hwo,U1.hml,s1 _ _ bO,nv,nU,s1 _ _ dM,ls.mono s1,U1.nwy,np,by omega,by omega,fun fD tL H2 k2 xO mS mt oS=>?_⟩;have fF:∀b o,b≠ml->H b=some o->H2 b=some o:=fun b o hb e=>k2 b o hb (s1 _ _ e)
 have ik:=jR fF U.hml;have U2:WkAt CW H2 wo dx ml dp f gs pr (ms++fD) wy aq:=U.keep fF xO;have BN:=mS.len;rw[kZ]at BN;refine⟨_,rfl,p,xs,ks,rfl,fF _ _ np dM,ik.heldL ls,by omega,fun hd kh H3 s3 n3 e3 nM=>?_⟩;have OM:=nM.length;rw[ax]at OM;refine gQ ?_;refine⟨_,rfl,_,rfl,_,rfl,_,rfl,sm rfl,fun l1 bJ=>?_⟩;have s4:=je bJ (.lst [u]);have e4:upd H3 l1 (.lst [u]) l1=some (.lst [u]):=jd;generalize upd H3 l1 (.lst [u])=H4 at *;have ni:=s3.trans s4;refine⟨l1,[u],[.least a b c],rfl,e4,jV ((ik.held hu).mono ni),(show 1<=100 by decide),fun l2 kl H5 s5 n5 e5 ve=>?_⟩;have F_:=ve.length;have F_:1=kl.length:=F_;have gI:=s4.trans s5;refine⟨hd,l2,kh,kl,rfl,rfl,gI _ _ e3,e5,jY (by omega),fun l3 bT=>?_⟩;have s6:=je bT (.lst (kh++kl));have e6:upd H5 l3 (.lst (kh++kl)) l3=some (.lst (kh++kl)):=jd;generalize upd H5 l3 (.lst (kh++kl))=H6 at *;have de:HeldL H6 (ks.map jG++[jG (.least a b c)]) (kh++kl):=jL (nM.mono (gI.trans s6)) (ve.mono s6);refine⟨sm rfl,fun wl cP=>?_⟩;have s7:=je cP (.lst [V.ref l3]);have e7:upd H6 wl (.lst [V.ref l3]) wl=some (.lst [V.ref l3]):=jd;generalize upd H6 wl (.lst [V.ref l3])=H7 at *;have Bg:=ni.trans (s5.trans (s6.trans s7));refine⟨_,rfl,sm rfl,fun t1 bS=>?_⟩;have s8:=je bS (.tup [V.int 0]);have e8:upd H7 t1 (.tup [V.int 0]) t1=some (.tup [V.int 0]):=jd;generalize upd H7 t1 (.tup [V.int 0])=H8 at *;have rp:=Bg.trans s8;refine⟨pt,t1,_,_,rfl,rfl,rp _ _ (fF _ _ lj bO),e8,jY (by rw[ax];show path.length+1<=1000;omega),fun t2 H9 s9 e9=>?_⟩;have i_:=rp.trans s9;have tZ:=s8.trans s9;have U9:=U2.mono i_;have Cz:H5 ml=some (.lst (ms++fD)):=(U2.mono (ni.trans s5)).hml;have BH:l3≠ml:=fun z=>by rw[z,Cz]at bT;cases bT
 have xM:=s6 _ _ Cz;have li:wl≠ml:=fun z=>by rw[z,xM]at cP;cases cP
 have F9:(ks.map jG++[jG (.least a b c)]).length=ks.length+1:=by rw[aG,ax];rfl
 refine⟨wo,dx,ml,dp,t2,wl,r,f,gs,pr,ms++fD,ys,path++[0],[ks.map jG++[jG (.least a b c)]],x,rfl,⟨U9.hwo,U9.hml,U9.hp,⟨[l3],tZ _ _ e7,⟨⟨BH,_,tZ _ _ (s7 _ _ e6),de.mono (s7.trans tZ)⟩,trivial⟩⟩,li⟩,by rw[aW];exact e9,i_ _ _ (ik _ _ Cf),(ik.heldL mD).mono i_,hx,oW,⟨hp.fl,(show 1<=16 by decide),by rw[aG];omega,fun w hw=>by rw[aN.mp hw,F9];omega,by omega,by rw[aG];show path.length+1+_<=90;omega⟩,fun r1 dJ fC fB dP eP lm vT sf BE uj=>?_,fun eP dP lm=>q.2 (jcu eP) dP fun b o hb e=>lm b o hb (i_ _ _ (fF b o hb e))⟩;have b1:=qO (gs:=gs) hx (show [ks.map jG++[jG (.least a b c)]].length<=16 from (show 1<=16 by decide)) eP;have SE:=b1.c;have IP:=b1.w;have BS:∀b o,b≠ml->H2 b=some o->dP b=some o:=fun b o hb e=>lm b o hb (i_ _ _ e)
 have fG:∀b o,b≠ml->H b=some o->dP b=some o:=fun b o hb e=>BS b o hb (fF b o hb e)
 have ld10:=sf.len;have hm3:r1.2.length * ks.length<=16 * ks.length:=m_ _ IP;obtain⟨A5,uF,pD⟩:=vT.hwy;have A_:=jR fG U.hml;refine gQ ?_;refine⟨_,rfl,_,rfl,_,rfl,_,rfl,wo,dx,ml,pt,fB,p,A5,f,"keep",.ref dp,ms++fD++dJ,xs,path,r1.2,ks,rfl,vT.hwo,vT.hml,fG _ _ lj bO,uF,pD,fG _ _ np dM,A_.heldL ls,vT.nwy,np,by omega,by rw[aG,aG];omega,fun cj bZ cq mB GY Dp BD xf=>?_⟩;have lq:∀b o,b≠ml->H b=some o->cq b=some o:=fun b o hb e=>mB b o hb (fG b o hb e)
 have O0:∀b o,b≠ml->H2 b=some o->cq b=some o:=fun b o hb e=>mB b o hb (BS b o hb e)
 have NA:=jR lq U.hml;have nhd:hd≠ml:=fun z=>by rw[z,U2.hml]at n3;cases n3
 have Gm:∀b o,b≠ml->H3 b=some o->cq b=some o:=fun b o hb e=>mB b o hb (lm b o hb (s9 _ _ (s8 _ _ (s7 _ _ (s6 _ _ (s5 _ _ (s4 _ _ e)))))))
 have mH:=s3 _ _ U2.hml;refine⟨_,rfl,_,rfl,u,a,b,c,rfl,NA.held hu,fun u2 hU aQ nA=>⟨sm rfl,fun l4 dy=>?_⟩⟩;have bG:=je dy (.lst [u2]);have DB:upd hU l4 (.lst [u2]) l4=some (.lst [u2]):=jd;generalize upd hU l4 (.lst [u2])=Ao at *;refine⟨l4,[u2],[.least b a (1 - c)],rfl,DB,jV (nA.mono bG),(show 1<=100 by decide),fun l5 oU gx dI n14 DA xU=>?_⟩;have Ge:=xU.length;have Ge:1=oU.length:=Ge;have Bl:=aQ.trans (bG.trans dI);refine⟨hd,l5,kh,oU,rfl,rfl,Bl _ _ (Gm _ _ nhd e3),DA,jY (by omega),fun l6 gj=>?_⟩;have gb:=je gj (.lst (kh++oU));have vK:upd gx l6 (.lst (kh++oU)) l6=some (.lst (kh++oU)):=jd;generalize upd gx l6 (.lst (kh++oU))=H15 at *;have GX:=Bl _ _ GY;have n6:l6≠ml:=fun z=>by rw[z,GX]at gj;cases gj
 refine⟨sm rfl,fun l hl=>?_⟩;have nj:=je hl (.lst [V.ref l6]);have Dz:upd H15 l (.lst [V.ref l6]) l=some (.lst [V.ref l6]):=jd;generalize upd H15 l (.lst [V.ref l6])=H16 at *;have rA:=Bl.trans (gb.trans nj);have Qi:=gb _ _ GX;have nl:l≠ml:=fun z=>by rw[z,Qi]at hl;cases hl
 have Pe:HeldL H16 (ks.map jG++[jG (.least b a (1 - c))]) (kh++oU):=jL (((jR Gm mH).heldL nM).mono rA) (xU.mono (gb.trans nj));have S_:WkAt CW cq wo dx ml dp f gs pr (ms++fD++dJ++cj) wy aq:=U.keep lq GY;have DW:=S_.mono rA;obtain⟨j1,j2,j3⟩:=JS (H:=H2) (G:=dP) (G':=H16) BS (fun b o hb e=>rA _ _ (mB b o hb e)) vT.hml (by rw[U2.hml];simp) sf BE (fun z hz=>i_.free (uj z hz)) (Dp.mono rA) BD xf;obtain⟨i1,i2,i3⟩:=JS (H:=H) (G:=H2) (G':=H16) fF (fun b o hb e=>rA _ _ (O0 b o hb e)) U2.hml (by rw[U.hml];simp) mS mt (fun z hz=>s1.free (oS z hz)) j1 j2 j3;exact q.1 _ (fD++(dJ++cj)) (tL++(fC++bZ)) l H16 (jdr eP) (fun b o hb e=>rA _ _ (lq b o hb e)) ⟨DW.hwo,by rw[<- dH,<- dH];exact DW.hml,DW.hp,⟨[l6],Dz,⟨⟨n6,_,nj _ _ vK,Pe⟩,trivial⟩⟩,nl⟩ i1 i2 i3
end
section
theorem jfn(F:Fun K "walk_statement" "walk_statement" qz f fd)(fh:Fn P w K mg base 1 "meet" ["walk","kind","path","ways","claims"] (spMeetB true CW))(fW:Fn P w K mg base 1 "behind_each" ["ways","rows"] spBehind)(sx:Fn P w K mg base 5 "walk_call" ["walk","statement","ways","path"] (spWalkC CW))(Ti:FnX P w K mg base (3 * n+8) "walk_if" ["walk","statement","ways","path"] (spIf CW CT n))(Tg:FnX P w K mg base (3 * n+8) "walk_while" ["walk","statement","ways","path"] (spWhile CW CT n)):FnOk P w K mg base (CX1 P w) (3 * n+8+1) f fd ["walk","statement","ways","path"] (spStat CW CT n):=by
 have sc:FnScope ["walk","statement","ways","path","kind"] ["walk","statement","ways","path"] (jp qz):=fQ;refine F.okX sc (fun vs H Q E h=>?_) (fun aH A outer s H vs Q E hr Wx h=>?_)
 .obtain⟨wo,dx,ml,dp,pt,wy,sv,f,gs,pr,ms,path,aq,S,rfl,_⟩:=h
  rfl
 obtain⟨wo,dx,ml,dp,pt,wy,sv,f,gs,pr,ms,path,aq,S,rfl,W,bO,hS,hok,hp,q⟩:=h;refine⟨_,(jg (ju (i:=4) sc.nd rfl oQ (jk jq (zpv 1) jf (fun _ _=>rfl)))
   (jg (jJ (jx j4 (zpv 4) jm (jB _)) (jg (jW (jO fh hr (ja (zpv 0) (ja jm (ja (zpv 3) (ja (zpv 2) (ja (j5 qL (zpv 1) (j0 jf) kL) jc)))))))
   (jh (jv (zpv 2)))) jC)
   (jg (jJ (jx j4 (zpv 4) jm (jB _)) (jh (jv (zE Ti Wx hr (ja (zpv 0) (ja (zpv 1) (ja (zpv 2) (ja (zpv 3) jc))))))) jC)
   (jg (jJ (jx j4 (zpv 4) jm (jB _)) (jh (jv (zE Tg Wx hr (ja (zpv 0) (ja (zpv 1) (ja (zpv 2) (ja (zpv 3) jc))))))) jC)
   (jg (jJ (jx j4 (zpv 4) jm (jB _)) (jh (jv (jO sx hr (ja (zpv 0) (ja (zpv 1) (ja (zpv 2) (ja (zpv 3) jc))))))) jC)
   (jh (jv (jO fW hr (ja (zpv 2) (ja (jF (ja (zpv 1) jc)) jc)))))))))),?_⟩
 refine jP (σ':=[some (.ref wo),some sv,some (.ref wy),some (.ref pt),none]) rfl ?_
 try dsimp only[j7]
 refine jb5 ?_;intro _ _ _ _ _;have hms:=hp.hms;have gk:=hp.len0;have gN:=hp.w16;match S,hS,hok,hp,hms,gk,q with
 | .ite a b c x y,hS,hok,hp,hms,gk,q=>
  obtain⟨t,u,p,r,xs,ys,rfl,ht,_⟩:=yd (show Held H (Nd.ite a b c (x.map (stD n)) (y.map (stD n))).toD sv from hS);refine⟨_,rfl,t,_,_,_,rfl,rfl,SqT.of ht,rfl,?_⟩;refine gQ ?_;refine⟨_,rfl,rfl,_,rfl,jQ (fun d=>absurd (WP d) (by decide)) (fun _=>?_)⟩;refine⟨_,rfl,rfl,_,rfl,jQ (fun _=>?_) (fun d=>absurd (WQ rfl) d)⟩;exact⟨_,rfl,_,rfl,_,rfl,_,rfl,wo,dx,ml,dp,pt,wy,_,f,gs,pr,ms,path,aq,a,b,c,x,y,rfl,W,bO,hS,hok.1,hok.2.1,hok.2.2.1,hok.2.2.2,hp,q⟩
 | .whl a b c ks x,hS,hok,hp,hms,gk,q=>
  obtain⟨t,u,p,r,xs,ys,rfl,ht,_⟩:=zV (show Held H (Nd.whl a b c ks (x.map (stD n))).toD sv from hS);refine⟨_,rfl,t,_,_,_,rfl,rfl,SqT.of ht,rfl,?_⟩;refine gQ ?_;refine⟨_,rfl,rfl,_,rfl,jQ (fun d=>absurd (WP d) (by decide)) (fun _=>?_)⟩;refine⟨_,rfl,rfl,_,rfl,jQ (fun d=>absurd (WP d) (by decide)) (fun _=>?_)⟩;refine⟨_,rfl,rfl,_,rfl,jQ (fun _=>?_) (fun d=>absurd (WQ rfl) d)⟩;exact⟨_,rfl,_,rfl,_,rfl,_,rfl,wo,dx,ml,dp,pt,wy,_,f,gs,pr,ms,path,aq,a,b,c,ks,x,rfl,W,bO,hS,hok.1,hok.2.1,hok.2.2,hp,q⟩
 | .leaf S,hS,hok,hp,hms,gk,q=>
  have hS:Held H S.toD sv:=hS;obtain⟨vj,lG⟩:=(show S.fit gs pr/\S.few from hok)
  have hms:ms.length+S.cost<=9000:=hms;have iD:∀w∈aq,w.length<=800:=fun w hw=>by have:=hp.hlen w hw;omega
  have q1:=fun aK aD bh H'=>q.1 (S.walk f pr path aq) aK aD bh H' rfl
  obtain⟨a,k,r,rfl,ha,h1,h2,h3,h4⟩:=Sm.head hS;obtain⟨was,hwy,hW⟩:=W.hwy;refine⟨_,rfl,a,_,_,V.str k,rfl,rfl,SqT.of ha,kU (j:=0) rfl,?_⟩;refine gQ ?_;refine⟨_,rfl,rfl,_,rfl,jQ (fun d=>?_) (fun d=>?_)⟩
  .have ek:k = "claim":=by have:=WP d;injection this
   obtain⟨C,rfl⟩:=h4.mp ek;clear ha h4 h3 h2 h1 d;obtain⟨a',u,ea,ha,dm⟩:=zT hS
   cases ea
   refine⟨_,rfl,_,rfl,_,rfl,_,rfl,_,rfl,a,_,rfl,SqT.of ha,(fun h=>absurd h.1 (by show ¬(HT.sIx 2 0 (some 1)=0);decide)),fun t ht=>?_⟩;have s1:=je ht (.tup (kI [.str "claim",u] (some 1) none));have e1:upd H t (.tup (kI [.str "claim",u] (some 1) none)) t=some (.tup [u]):=jd;have N8:t≠ml:=fun z=>by rw[z,W.hml]at ht;cases ht
   generalize upd H t (.tup (kI [.str "claim",u] (some 1) none))=H1 at *;have hms:ms.length+16<=9000:=hms;refine⟨wo,dx,ml,pt,wy,t,was,f,"claim",.ref dp,ms,[u],path,aq,[C],rfl,s1 _ _ W.hwo,s1 _ _ W.hml,s1 _ _ bO,s1 _ _ hwy,hW.mono s1,e1,jV (dm.mono s1),W.nwy,N8,by omega,by show ms.length+aq.length * 1<=9000;omega,fun aK aD H' k' Qo hD bV bI=>?_⟩;have kk:∀b o,b≠ml->H b=some o->H' b=some o:=fun b o hb e=>k' b o hb (s1 _ _ e)
   exact⟨_,rfl,q1 aK aD wy H' kk (W.keep kk Qo) hD bV fun x hx=>s1.free (bI x hx)⟩
  .have nC:∀C,S≠.claim C:=fun C z=>d (WQ (WW V.str (h4.mpr ⟨C,z⟩)))
   refine⟨_,rfl,rfl,_,rfl,jQ (fun d=>absurd (WP d) (fun z=>h1 (by injection z))) (fun _=>?_)⟩;refine⟨_,rfl,rfl,_,rfl,jQ (fun d=>absurd (WP d) (fun z=>h2 (by injection z))) (fun _=>?_)⟩;refine⟨_,rfl,rfl,_,rfl,jQ (fun d=>?_) (fun d=>?_)⟩
   .have ek:k = "call":=by have:=WP d;injection this
    obtain⟨x,g,as,rows,rfl⟩:=h3.mp ek;have hms:ms.length+320<=9000:=hms;exact⟨_,rfl,_,rfl,_,rfl,_,rfl,wo,dx,ml,dp,pt,wy,_,f,gs,pr,ms,path,aq,x,g,as,rows,rfl,W,bO,hS,vj,lG,by omega,by omega,iD,q1⟩
   have nL:∀x g as rows,S≠.call x g as rows:=fun x g as rows z=>d (WQ (WW V.str (h3.mpr ⟨x,g,as,rows,z⟩)))
   have ew:S.walk f pr path aq=([],aq.map (·++[S.toD])):=by cases S <;> first | rfl | exact absurd rfl (nC _) | exact absurd rfl (nL _ _ _ _)
   refine⟨_,rfl,_,rfl,sm rfl,fun rl Ce=>?_⟩;have s1:=je Ce (.lst [.ref a]);have e1:upd H rl (.lst [.ref a]) rl=some (.lst [.ref a]):=jd;generalize upd H rl (.lst [.ref a])=H1 at *;refine⟨wy,ml,rl,was,ms,[.ref a],aq,[S.toD],rfl,s1 _ _ hwy,s1 _ _ W.hml,hW.mono s1,e1,jV (hS.mono s1),by omega,fun w hw=>by have:=iD w hw;show w.length+1<=900;omega,fun l as H' s2 n1 e2 RK=>?_⟩;have aQ:=s1.trans s2;have W2:=W.mono aQ;have Qj:=s1 _ _ W.hml;refine q1 [] [] l H' (fun b o _ e=>aQ _ _ e) ⟨W2.hwo,by rw[cv];exact W2.hml,W2.hp,⟨as,e2,by rw[ew];exact RK⟩,(fun z=>by rw[z,Qj]at n1;cases n1)⟩ (by rw[ew];trivial) iY fun _ z=>by cases z
theorem Ku{CW CT:aa}{td:Tok}{f1 f2 f3 f4:aa}{fU vI vH IC:aO}(U1:Fun K "walk_body" "walk_body" qS f1 fU)(b1:Binds K fU ["walk","body","ways","around"] [])(m1:mg "walk_body" = some (.ref f1))(U2:Fun K "walk_statement" "walk_statement" qz f2 vI)(b2:Binds K vI ["walk","statement","ways","path"] [])(m2:mg "walk_statement" = some (.ref f2))(U3:Fun K "walk_if" "walk_if" Jp f3 vH)(b3:Binds K vH ["walk","statement","ways","path"] [])(m3:mg "walk_if" = some (.ref f3))(U4:Fun K "walk_while" "walk_while" zF f4 IC)(b4:Binds K IC ["walk","statement","ways","path"] [])(m4:mg "walk_while" = some (.ref f4))
  (T:ClsW K CW) (B:Free0 mg) (cx:mg "enumerate" = none) (lP:mg "MOST_WAYS" = some (.int 16 td)) (pK:mg "TooMany" = some (.ref CT)) (Al:pU K CT valB "ValueError.__new__" = true)
  (fh:Fn P w K mg base 1 "meet" ["walk","kind","path","ways","claims"] (spMeetB true CW)) (fW:Fn P w K mg base 1 "behind_each" ["ways","rows"] spBehind) (sx:Fn P w K mg base 5 "walk_call" ["walk","statement","ways","path"] (spWalkC CW)) (At:Fn P w K mg base 1 "known" ["claims"] spKnown) (eT:Fn P w K mg base 1 "known" ["claims"] spKnownL) (eB:Fn P w K mg base 1 "turned" ["least"] spTurned):∀n,FnX P w K mg base (3 * n+7) "walk_body" ["walk","body","ways","around"] (spBody CW CT n)
 | 0=>FnX.mk' U1 b1 m1 (jeo U1 B cx lP)
 | n+1=>
  have ih:=Ku U1 b1 m1 U2 b2 m2 U3 b3 m3 U4 b4 m4 T B cx lP pK Al fh fW sx At eT eB n
  have hi:=FnX.mk' U3 b3 m3 (jhf (k:=0) U3 eT eB fW ih)
  have hw:=FnX.mk' U4 b4 m4 (jd6 U4 fh At eT eB ih)
  have hs:=FnX.mk' U2 b2 m2 (jfn U2 fh fW sx hi hw)
  FnX.mk' U1 b1 m1 (jfq U1 T B cx lP pK Al hs)
end
abbrev yZ:aJ:=top 24
abbrev qM:aJ:=top 23
abbrev Zh:aJ:=top 22
def Pc.dus(p:Pc)(pr:Str->Pc)(ns:List Str):Option (List Du):=match goN p.f pr p.lv [] [p.wayD ns] p.bd with
 | none=>none
 | some r=>some (r.1++ki p.f "give" [] r.2 p.gv)
structure PcFit(gs:List Str)(pr:Str->Pc)(p:Pc):Prop where
 ok:PcOk p
 fit:∀S∈p.bd,okN gs pr p.lv S
 bd:p.bd.length<=100
 cost:(p.bd.map (km p.lv)).sum+16 * p.gv.length<=8900
 len:(p.bd.map (kQ p.lv)).sum<=700
 fl:p.f.length<=100
 lv:p.lv<=40
inductive spDutiesOf(CT:aa)(n:Nat)(vs:List V)(H:Hp)(Q:VK)(E:XK):Prop
 | mk (v:V) (dp:aa) (p:Pc) (gs:List Str) (pr:Str->Pc) (_:vs=[v,.ref dp]) (_:p.lv=n) (_:Held H p.toD v) (_:PcFit gs pr p) (_:ProcsAt H dp gs pr) (_:(∀(ml:aa) (ms:List V) (aD:List aa) (ns:List Str) (ds:List Du) (H':Hp),NumsOf p ns->p.dus pr ns=some ds->Same H H'->H ml=none->H' ml=some (.lst ms)->DutsAt H' ds ms aD->aD.Nodup->(∀x∈aD,H x=none)->ml ∉ aD->Q (.ref ml) H')/\
 (∀ns H',NumsOf p ns->p.dus pr ns=none->Same H H'->E (.ref CT) none H'))
theorem ZZ{ns:List Str}(hp:PcOk p)(hn:NumsOf p ns):(p.wayD ns).length<=35:=by
 unfold Pc.wayD;have h1:=oA (fun x=>!decide (x∈p.ps)) ns;have h2:=hn.few;have h3:=hp.nd;rw[aG,ax,ax];omega
section
theorem jam(T:ClsW K CW)(F:Fun K "duties_of" "duties_of" yZ f fd)(DY:MkFn P w K mg base 1 "Walk" CW ["self","f","procs"] (spWalk CW))(D9:Fn P w K mg base (n+5+1) "first_way" ["proc"] (spFirst n))(n9:FnX P w K mg base (3 * n+7) "walk_body" ["walk","body","ways","around"] (spBody CW CT n))(fh:Fn P w K mg base 1 "meet" ["walk","kind","path","ways","claims"] (spMeetB true CW)):FnOk P w K mg base (CX1 P w) (3 * n+7+1) f fd ["proc","procs"] (spDutiesOf CT n):=by
 have sc:FnScope ["proc","procs","f","gives","body","walk","ways"] ["proc","procs"] (jp yZ):=fQ;refine F.okX sc (fun vs H Q E h=>?_) (fun aH A outer s H vs Q E hr W h=>?_)
 .obtain⟨v,dp,p,gs,pr,rfl,_⟩:=h
  rfl
 obtain⟨v,dp,p,gs,pr,rfl,rfl,hv,nD,uR,q⟩:=h;have hp:=nD.ok;refine⟨_,(jg (jdc (i:=2) (j:=3) (l:=4) rfl sc.nd rfl rfl rfl (by decide) (by decide) (by decide) oQ oQ oQ (ja (jk jq (zpv 0) jf (fun _ _=>rfl)) (ja (jk jq (zpv 0) jf (fun _ _=>rfl)) (ja (jk jq (zpv 0) jf (fun _ _=>rfl)) jc))) (by rfl) oQ oQ oQ)
   (jg (ju (i:=5) sc.nd rfl oQ (je1 DY hr (ja (zpv 2) (ja (zpv 1) jc))))
   (jg (ju (i:=6) sc.nd rfl oQ (zE n9 W hr (ja (zpv 5) (ja (zpv 4) (ja (jF (ja (jO D9 hr (ja (zpv 0) jc)) jc)) (ja (js jc) jc))))))
   (jg (jW (jO fh hr (ja (zpv 5) (ja jm (ja (js jc) (ja (zpv 6) (ja (zpv 3) jc)))))))
   (jh (jv (Jk (zpv 5) rfl))))))),?_⟩
 refine jP (σ':=[some v,some (.ref dp),none,none,none,none,none]) rfl ?_
 try dsimp only[j7]
 refine jay ?_;intro _ _ _ _;obtain⟨a,ap,ar0,an,ag,ab,vn,vg,vb,rfl,ha,lJ,har0,fc,hn,fR,hg,cV,hb⟩:=zy hv;refine⟨_,rfl,a,_,_,_,rfl,rfl,SqT.of ha,rfl,_,rfl,a,_,_,_,rfl,rfl,SqT.of ha,rfl,_,rfl,a,_,_,_,rfl,rfl,SqT.of ha,rfl,_,_,_,rfl,?_⟩;refine jP (σ':=[some (.ref a),some (.ref dp),some (.str p.f),some (.ref ag),some (.ref ab),none,none]) rfl ?_;refine⟨_,rfl,_,rfl,fun wo dx hwo C5 ndx=>?_⟩;have s1:Same H (upd (upd H dx (.own wo)) wo (.ins CW dx [])):=fun b o z=>by rw[jw (jr z hwo),jw (jr z C5)];exact z
 have c1:upd (upd H dx (.own wo)) wo (.ins CW dx []) wo=some (.ins CW dx []):=jd;generalize upd (upd H dx (.own wo)) wo (.ins CW dx [])=H1 at *;refine⟨wo,dx,p.f,.ref dp,rfl,c1,fun ml H2 k2 hml c2 e2=>⟨rfl,?_⟩⟩;have s2:Same H H2:=fun b o z=>k2 b o (jr z hwo) (s1 _ _ z)
 have xN:H ml=none:=s1.free hml;refine gQ ?_;refine⟨_,rfl,_,rfl,_,rfl,.ref a,p,rfl,rfl,hv.mono s2,hp,fun wl us ns H3 gP s3 n3 e3 de=>⟨sm rfl,fun wy hwy=>?_⟩⟩;have s4:=je hwy (.lst [.ref wl]);have e4:upd H3 wy (.lst [.ref wl]) wy=some (.lst [.ref wl]):=jd;generalize upd H3 wy (.lst [.ref wl])=H4 at *;refine⟨sm rfl,fun ar em=>?_⟩;have s5:=je em (.tup []);have e5:upd H4 ar (.tup []) ar=some (.tup []):=jd;generalize upd H4 ar (.tup [])=H5 at *;have gJ:=s3.trans (s4.trans s5);have mn:=s2.trans gJ;have nq:=de.length;have F9:=ZZ hp gP;have lbd:=hp.bd;have lgv:=hp.gv;have mH:=s3 _ _ e2;have N6:wl≠ml:=fun z=>by rw[z,e2]at n3;cases n3
 have Cz:H5 ml=some (.lst []):=gJ _ _ e2;have Rq:=nD.cost;have hlen:=nD.len;have xR:=nD.lv;refine⟨wo,dx,ml,dp,ar,wy,ab,p.f,gs,pr,[],vb,[],[p.wayD ns],p.bd,rfl,⟨gJ _ _ c2,gJ _ _ e2,uR.mono mn,⟨[wl],s5 _ _ e4,⟨⟨N6,us,s5 _ _ (s4 _ _ e3),de.mono (s4.trans s5)⟩,trivial⟩⟩,(fun z=>by rw[z,mH]at hwy;cases hwy)⟩,e5,mn _ _ cV,hb.mono mn,nD.fit,nD.bd,⟨nD.fl,(show 1<=16 by decide),by show 0+_<=9000;omega,fun w hw=>by rw[aN.mp hw];omega,by omega,by show 0+_<=90;omega⟩,fun r aK aD bh H6 er k6 W6 hD bV bI=>?_,fun er H6 k6=>q.2 ns H6 gP (by unfold Pc.dus;rw[er]) fun b o z=>k6 b o (jr z xN) (mn _ _ z)⟩;rw[sZ]at W6;have BM:=hD.len;have bn:=qO (gs:=gs) nD.fit (show [p.wayD ns].length<=16 from (show 1<=16 by decide)) er;have bc:=bn.c;have bw:=bn.w;have Qf:r.2.length * p.gv.length<=16 * p.gv.length:=m_ _ bw;have Si:p.dus pr ns=some (r.1++ki p.f "give" [] r.2 p.gv):=by unfold Pc.dus;rw[er]
 have nk:Same H H6:=fun b o z=>k6 b o (jr z xN) (mn _ _ z)
 refine gQ ?_;refine⟨_,rfl,sm rfl,fun pt bO=>?_⟩;have s7:=je bO (.tup []);have e7:upd H6 pt (.tup []) pt=some (.tup []):=jd;generalize upd H6 pt (.tup [])=H7 at *;have W7:=W6.mono s7;obtain⟨A3,O8,RI⟩:=W7.hwy;have ub:=nk.trans s7;have Oy:=qd (ub _ _ fR) W7.hml;refine⟨_,rfl,_,rfl,wo,dx,ml,pt,bh,ag,A3,p.f,"give",.ref dp,aK,vg,[],_,p.gv,rfl,W7.hwo,W7.hml,e7,O8,RI,ub _ _ fR,hg.mono ub,W7.nwy,Oy,by omega,by omega,fun cj bZ H8 k8 Ql RV Oq By=>?_⟩;have NI:Same H H8:=fun b o z=>k8 b o (jr z xN) (ub _ _ z)
 have nwo:wo≠ml:=fun z=>by have:=W7.hwo;rw[z,W7.hml]at this;cases this
 have Qm:H5 ml=some (.lst []):=gJ _ _ e2;have nH:ml ∉ aD:=fun z=>by have:=bI _ z;rw[Qm]at this;cases this
 have Qg:ml ∉ bZ:=fun z=>by have:=By _ z;rw[W7.hml]at this;cases this
 refine⟨_,rfl,wo,CW,dx,_,_,rfl,k8 _ _ nwo W7.hwo,T.c,T.n3,rfl,q.1 ml _ (aD++bZ) ns _ H8 gP Si NI xN Ql ?_ ?_ ?_ ?_⟩
 .exact DutsAt.app (DutsAt.keep (G:=H6) (G':=H8) (fun b o hb e=>k8 b o hb (s7 _ _ e)) W6.hml hD nH) RV
 .refine ia.mpr ⟨bV,Oq,fun x hx y hy=>?_⟩
  rintro rfl;have h1:=kj hD x hx;rcases hh:H6 x with _ | o
  .exact h1 hh
  .have:=By x hy
   rw[s7 _ _ hh]at this
   cases this
 .intro x hx
  rcases aT.mp hx with hx | hx
  .exact mn.free (bI x hx)
  .exact ub.free (By x hx)
 .intro z
  rcases aT.mp z with z | z
  .exact nH z
  .exact Qg z
inductive spProcs(vs:List V)(H:Hp)(Q:VK)(E:XK):Prop
 | mk (a:aa) (us:List V) (prog:List Pc) (pr:Str->Pc) (_:vs=[.ref a]) (_:H a=some (.tup us)) (_:HeldL H (prog.map Pc.toD) us) (_:prog.length<=100) (_:(prog.map Pc.f).Nodup) (_:(∀p∈prog,pr p.f=p)/\∀d H',Same H H'->H d=none->ProcsAt H' d (prog.map Pc.f) pr->Q (.ref d) H')
theorem jee(F:Fun K "procs_by_name" "procs_by_name" qM f fd):FnOk P w K mg base CX0 1 f fd ["program"] spProcs:=by
 have sc:FnScope ["program"] ["program"] (jp qM):=fQ;refine F.okZ sc (fun aH A outer s H vs Q E hr h=>?_);obtain⟨a,us,prog,pr,rfl,ha,lD,hl,bV,uR,q⟩:=h;have cC:=lD.length;rw[ax]at cC;refine⟨_,(jh (jv (jcp ["proc"] [] rfl (ku (sc:=jp qM) (N:=["program"]) rfl rfl (by decide +kernel)) (kT (zpv 0)) (fun s H ex=>⟨(jt (i:=0) (show dk (["proc"]:List Str) by decide +kernel) rfl oQ),kD,(jk (ZA (K:=K)) (zpv 0) jf (fun _ _=>rfl)),(zpv 0)⟩)))),?_⟩
 try dsimp only[j7]
 refine⟨_,rfl,a,rfl,⟨_,SqT.of ha⟩,fun d hd=>?_⟩;refine jc6 (xs:=us) (fun i σ' G=>(∃u,σ'=[u])/\Same H G/\∃kv,G d=some (.dK kv)/\kv.length<=i/\∀p∈prog.take i,∃v,qt kv (Sum.inr p.f)=some v/\Held H p.toD v) ⟨⟨none,rfl⟩,je hd _,[],jd,aL _,fun p hp=>by cases hp⟩ ?_ ?_ ?_
 .rintro i σ' G _ ⟨_,sG,_⟩
  exact SqT.of (sG _ _ ha)
 .rintro i x σ' G hx ⟨⟨u,rfl⟩,sG,kv,eG,cN,fL⟩
  have hi:i < prog.length:=by have:=(bN.mp hx).1;omega
  obtain⟨x',bq,cw⟩:=lD.get (show (prog.map Pc.toD)[i]?=some prog[i].toD by rw[bF,aI hi];rfl);rw[hx]at bq
  cases bq
  have O6:=cw;obtain⟨b,ap,ar,an,ag,ab,vn,vg,vb,rfl,hb,_⟩:=zy cw;unfold qh yP;refine qB ?_;refine⟨_,rfl,b,_,_,_,rfl,rfl,SqT.of (sG _ _ hb),rfl,_,rfl,kv,Sum.inr prog[i].f,rfl,eG,jz (by omega),⟨_,rfl⟩,fun b o e=>?_,_,jd,?_,fun p hp=>?_⟩
  .rw[jw (jr e hd)];exact sG _ _ e
  .exact aV (Js _ _ _) (by omega)
  .rw[show prog.take (i+1)=prog.take i++[prog[i]] by rw[bP,aI hi];rfl]at hp
   rcases aT.mp hp with hp | hp
   .obtain⟨v,e1,e2⟩:=fL p hp
    refine⟨v,?_,e2⟩;rw[qJ,WT,e1];intro e;have e:=mT e;obtain⟨j,hj,vf⟩:=AW.mp hp;rw[bK]at hj;rw[EZ]at vf;have:=(EV.mp bV) j i (by rw[ax];omega) (by rw[ax];omega) (by omega);rw[Wy,Wy,vf]at this;exact this e
   .rw[aN.mp hp]
    exact⟨_,by rw[qJ,WU rfl],O6⟩
 .rintro σ' G ⟨_,sG,kv,eG,_,fL⟩
  rw[<- cC,bX]at fL;refine q d G sG hd ⟨kv,eG,fun g hg=>?_⟩;obtain⟨p,hp,rfl⟩:=ci.mp hg;obtain⟨v,e1,e2⟩:=fL p hp;exact⟨v,e1,by rw[uR p hp];exact e2.mono sG⟩
end
def zl(pr:Str->Pc)(bD:Pc->List Str):List Pc->Option (List Du)
 | []=>some []
 | p :: r=>match p.dus pr (bD p) with
  | none=>none
  | some d=>match zl pr bD r with
   | none=>none
   | some e=>some (d++e)
theorem YU(pr:Str->Pc)(bD:Pc->List Str)(p:Pc):∀l:List Pc,zl pr bD (l++[p])=(match zl pr bD l with
  | none=>none
  | some d=>match p.dus pr (bD p) with
   | none=>none
   | some e=>some (d++e))
 | []=>by
  show zl pr bD [p]=_;unfold zl;dsimp only[zl]
  cases p.dus pr (bD p) with
  | none=>rfl
  | some e=>simp
 | x :: l=>by
  rw[rb];rw[zl,zl,YU pr bD p l]
  cases x.dus pr (bD x) with
  | none=>rfl
  | some d=>
   dsimp only
   cases zl pr bD l with
   | none=>rfl
   | some d'=>
    dsimp only
    cases p.dus pr (bD p) with
    | none=>rfl
    | some e=>simp
theorem YV(pr:Str->Pc)(bD:Pc->List Str):∀l r:List Pc,zl pr bD l=none->zl pr bD (l++r)=none
 | [],r,h=>by cases h
 | x :: l,r,h=>by
  rw[rb];rw[zl]at h |-
  cases e:x.dus pr (bD x) with
  | none=>rfl
  | some d=>
   rw[e]at h;dsimp only at h |-
   cases e2:zl pr bD l with
   | none=>rw[YV pr bD l r e2]
   | some d'=>rw[e2]at h;cases h
theorem NumsOf.uniq{ns FW:List Str}(h:NumsOf p ns)(h':NumsOf p FW):ns=FW:=yK h.up h'.up fun x=>by rw[h.mem,h'.mem]
def Pc.most(p:Pc):Nat:=(p.bd.map (km p.lv)).sum+16 * p.gv.length
theorem jaG{ns:List Str}{ds:List Du}(hp:PcFit gs pr p)(h:p.dus pr ns=some ds):ds.length<=p.most:=by
 unfold Pc.dus at h;split at h
 .cases h
 .rename_i r er
  cases h
  have bn:=qO (gs:=gs) hp.fit (show [p.wayD ns].length<=16 from (show 1<=16 by decide)) er;have Qf:r.2.length * p.gv.length<=16 * p.gv.length:=m_ _ bn.w;have:=bn.c;unfold Pc.most;rw[aG,kZ];omega
theorem YW{gs:List Str}{pr:Str->Pc}{bD:Pc->List Str}:∀{l:List Pc} {ds:List Du},(∀p∈l,PcFit gs pr p)->zl pr bD l=some ds->ds.length<=(l.map Pc.most).sum
 | [],ds,_,h=>by
  unfold zl at h
  cases h
  exact cy _
 | p :: l,ds,hp,h=>by
  rw[zl]at h;split at h
  .cases h
  .rename_i d e1
   split at h
   .cases h
   .rename_i d' e2
    cases h
    have h1:=jaG (hp p bt) e1;have h2:=YW (fun x hx=>hp x (aZ _ hx)) e2;rw[aG,ce,AT];omega
inductive spDuties(CT:aa)(n:Nat)(vs:List V)(H:Hp)(Q:VK)(E:XK):Prop
 | mk (a:aa) (us:List V) (prog:List Pc) (pr:Str->Pc) (bD:Pc->List Str) (_:vs=[.ref a]) (_:H a=some (.tup us)) (_:HeldL H (prog.map Pc.toD) us) (_:prog.length<=20) (_:(prog.map Pc.f).Nodup) (_:(∀p∈prog,p.lv=n/\pr p.f=p/\PcFit (prog.map Pc.f) pr p/\NumsOf p (bD p))/\(prog.map Pc.most).sum<=9000/\
 (∀(ml:aa) (ms:List V) (aD:List aa) (ds:List Du) (H':Hp),zl pr bD prog=some ds->Same H H'->H ml=none->H' ml=some (.lst ms)->DutsAt H' ds ms aD->aD.Nodup->(∀x∈aD,H x=none)->ml ∉ aD->Q (.ref ml) H')/\
 (zl pr bD prog=none->∀H',Same H H'->E (.ref CT) none H'))
section
theorem jcL(F:Fun K "duties" "duties" Zh f fd)(D4:Fn P w K mg base 1 "procs_by_name" ["program"] spProcs)(D_:FnX P w K mg base (3 * n+8) "duties_of" ["proc","procs"] (spDutiesOf CT n)):FnOk P w K mg base (CX1 P w) (3 * n+8+1) f fd ["program"] (spDuties CT n):=by
 have sc:FnScope ["program","procs","told","proc"] ["program"] (jp Zh):=fQ;refine F.okX sc (fun vs H Q E h=>?_) (fun aH A outer s H vs Q E hr W h=>?_)
 .obtain⟨a,us,prog,pr,bD,rfl,_⟩:=h
  rfl
 obtain⟨a,us,prog,pr,bD,rfl,ha,lD,Ho,Ct,hok,Cy,q⟩:=h;refine⟨_,(jg (ju (i:=1) sc.nd rfl oQ (jO D4 hr (ja (zpv 0) jc)))
   (jg (ju (i:=2) sc.nd rfl oQ (jF jc))
   (jg (kg W.own rfl (kT (zpv 0)) (jt (i:=3) sc.nd rfl oQ) (jh (jW (qu eD AI AH zQ (zpv 2) (ja (zE D_ W hr (ja (zpv 3) (ja (zpv 1) jc))) jc)))))
   (jh (jv (zpv 2)))))),?_⟩
 refine jP (σ':=[some (.ref a),none,none,none]) rfl ?_
 try dsimp only[j7]
 refine jeG ?_;intro _ _ _;have dw:=lD.length;rw[ax]at dw;refine⟨_,rfl,a,us,prog,pr,rfl,ha,lD,by omega,Ct,fun p hp=>(hok p hp).2.1,fun d H1 s1 hd hP=>?_⟩;refine gQ ?_;refine⟨sm rfl,fun l hl=>?_⟩;have s2:=je hl (.lst []);have e2:upd H1 l (.lst []) l=some (.lst []):=jd;generalize upd H1 l (.lst [])=H2 at *;have gk:=s1.free hl;refine gQ ?_;have aQ:=s1.trans s2;refine⟨_,rfl,a,rfl,⟨_,SqT.of (aQ _ _ ha)⟩,?_⟩;refine yM (xs:=us) (fun i σ G=>∃u3 ms aD ds,zl pr bD (prog.take i)=some ds/\σ=[some (.ref a),some (.ref d),some (.ref l),u3]/\Same H G/\ProcsAt G d (prog.map Pc.f) pr/\G l=some (.lst ms)/\DutsAt G ds ms aD/\aD.Nodup/\(∀x∈aD,H x=none)/\l ∉ aD) ⟨none,[],[],[],rfl,rfl,aQ,hP.mono s2,e2,trivial,iY,(fun _ z=>by cases z),wt⟩ ?_ ?_ ?_
 .rintro i σ G _ ⟨u3,ms,aD,ds,ed,rfl,sG,_⟩
  exact SqT.of (sG _ _ ha)
 .rintro i x σ G hx ⟨u3,ms,aD,ds,ed,rfl,sG,Df,hG,hD,bV,bI,cm⟩
  have hi:i < prog.length:=by have:=(bN.mp hx).1;omega
  obtain⟨x',bq,cw⟩:=lD.get (show (prog.map Pc.toD)[i]?=some prog[i].toD by rw[bF,aI hi];rfl);rw[hx]at bq
  cases bq
  obtain⟨xR,_,hp,hn⟩:=hok _ (ft hi);have eM:prog.take (i+1)=prog.take i++[prog[i]]:=by rw[bP,aI hi];rfl
  have eK:=YU pr bD prog[i] (prog.take i);rw[<- eM,ed]at eK;dsimp only at eK;have ld:=hD.len;have BN:=YW (fun p hp=>(hok p (M7 hp)).2.2.1) ed;have lB:((prog.take i).map Pc.most).sum+prog[i].most<=(prog.map Pc.most).sum:=by
   have h1:(prog.map Pc.most).sum=((prog.take (i+1)).map Pc.most).sum+((prog.drop (i+1)).map Pc.most).sum:=by rw[<- p5,<- aW,sY]
   rw[h1,eM,aW,p5];simp
  refine yB ?_;intro _;refine gQ ?_;refine⟨_,rfl,.inl ⟨rfl,_,SqL.of hG⟩,_,rfl,_,rfl,x,d,prog[i],prog.map Pc.f,pr,rfl,xR,cw.mono sG,hp,Df,fun ml cj bZ ns Sl G2 gP Af s3 n3 e3 mS mt oS N9=>?_,fun ns G2 gP Af s3=>?_⟩
  .have en:=gP.uniq hn
   subst en;have ld3:=mS.len;have ld4:=jaG hp Af;have aY:=s3 _ _ hG;refine⟨l,ml,_,_,rfl,rfl,aY,e3,aV (by omega) (jf5 (aL 10000)),?_⟩;have k4:∀b o,b≠l->G2 b=some o->upd G2 l (.lst (ms++cj)) b=some o:=fun b o hb e=>by rw[jw hb];exact e
   have GR:l ∉ bZ:=fun z=>by have:=oS _ z;rw[hG]at this;cases this
   refine⟨_,ms++cj,aD++bZ,ds++Sl,by rw[eK,Af],rfl,fun b o e=>k4 b o (jr e gk) (s3 _ _ (sG _ _ e)),(Df.mono s3).keep k4 aY,jd,?_,?_,?_,?_⟩
   .exact DutsAt.app (DutsAt.keep (G:=G) (fun b o hb e=>k4 b o hb (s3 _ _ e)) hG hD cm) (DutsAt.keep k4 aY mS GR)
   .refine ia.mpr ⟨bV,mt,fun x hx y hy=>?_⟩
    rintro rfl;exact kj hD x hx (oS x hy)
   .intro x hx
    rcases aT.mp hx with hx | hx
    .exact bI x hx
    .exact sG.free (oS x hx)
   .intro z
    rcases aT.mp z with z | z
    .exact cm z
    .exact GR z
  .have en:=gP.uniq hn
   subst en;refine q.2 ?_ G2 (sG.trans s3);rw[show prog=prog.take (i+1)++prog.drop (i+1) from (sY _ _).symm];exact YV pr bD _ _ (by rw[eK,Af])
 rintro σ G ⟨u3,ms,aD,ds,ed,rfl,sG,Df,hG,hD,bV,bI,cm⟩;rw[<- dw,bX]at ed;exact⟨_,rfl,q.1 l ms aD ds G ed sG gk hG hD bV bI cm⟩
end
abbrev jdL:aJ:=top 36
abbrev jf8:aJ:=top 39
abbrev ja3:aJ:=top 40
abbrev jdH:aJ:=top 41
theorem jeV{ns:List Int}{k:Int}(h0:0<=k)(h:k < (ns.length:Int)):atI (ns.map V.int) k=some (.int (ns.getD k.toNat 0)):=by
 have hk:k.toNat < ns.length:=by omega
 have:=kU (xs:=ns.map V.int) (j:=k.toNat) (v:=.int (ns.getD k.toNat 0)) (by rw[bF,WA,aI hk];rfl);rw[show ((k.toNat:Nat):Int)=k by omega]at this;exact this
def za:Str:="abcdefghijklmnopqrstuvwxyz"
theorem Zx:za.cps.toList=(cE 26).map (·+97):=by decide +kernel
def jbn(i:Int):Nat:=i.toNat+97
theorem YH{i:Int}(h0:0<=i)(h1:i < 26):atI za.cps.toList i=some (jbn i):=by
 have hk:i.toNat < 26:=by omega
 have:=kU (xs:=za.cps.toList) (j:=i.toNat) (v:=jbn i) (by rw[Zx,bF,List.getElem?_range hk];rfl);rw[show ((i.toNat:Nat):Int)=i by omega]at this;exact this
inductive spCell(K:aC)(vs:List V)(H:Hp)(Q:VK)(E:XK):Prop
 | mk (a:aa) (ns:List Int) (k:Int) (_:vs=[.ref a,.int k]) (_:SqL K H a (ns.map V.int)) (_:0<=k) (_:k<=1000) (_:∀c:Int,Q (.int c) H)
def Yy:Sp:=fun vs H Q _=>∃c:Int,vs=[.int c]/\∀d:Int,Q (.int d) H
section
theorem jgl(F:Fun K "_law_far" "_law_far" jf8 f fd):FnOk P w K mg base CX0 1 f fd ["_law_cell_here"] Yy:=by
 have sc:FnScope ["_law_cell_here"] ["_law_cell_here"] (jp jf8):=fQ;refine F.okZ sc (fun aH A outer s H vs Q E hr h=>?_);obtain⟨c,rfl,q⟩:=h;refine⟨_,(jg (jJ (jx j4 (jn jZ (zpv 0) jf) jf (jB _)) (jh (jv (jn Zm (jn jZ (jn jM (zpv 0) jf) (jn qp (jn yw jf (jn jd4 jf jf)) jf)) (jn jd4 jf jf)))) jC)
   (jh (jv (jn Zm (jn jZ (jn jM (zpv 0) jf) jf) jf)))),?_⟩
 try dsimp only[j7]
 have z1:((10:Int) ^ (18:Int).toNat)=1000000000000000000:=by decide
 refine⟨_,rfl,_,_,rfl,rfl,(by show (0:Int) < 3;decide),rfl,_,rfl,jQ (fun _=>?_) (fun _=>?_)⟩
 .exact⟨_,rfl,_,_,rfl,rfl,⟨by decide,by decide⟩,_,_,rfl,rfl,⟨by decide,by decide,by decide⟩,_,_,rfl,rfl,.inl ⟨by decide,by decide⟩,_,_,rfl,rfl,_,_,rfl,rfl,(by show (0:Int) < 2 * (10:Int) ^ (18:Int).toNat+1;rw[z1];decide),_,_,rfl,rfl,⟨by decide,by decide,by decide⟩,_,_,rfl,rfl,q _⟩
 .exact⟨_,rfl,_,_,rfl,rfl,⟨by decide,by decide⟩,_,_,rfl,rfl,(by show (0:Int) < 11;decide),_,_,rfl,rfl,q _⟩
theorem jfp(F:Fun K "_law_cell" "_law_cell" jdL f fd)(B:Free0 mg):FnOk P w K mg base CX0 1 f fd ["_law_script","_law_k"] (spCell K):=by
 have sc:FnScope ["_law_script","_law_k","_law_number"] ["_law_script","_law_k"] (jp jdL):=fQ;refine F.okZ sc (fun aH A outer s H vs Q E hr h=>?_);obtain⟨a,ns,k,rfl,hS,h0,h1,q⟩:=h;have hl:(ns.map V.int).length=ns.length:=ax _;refine⟨_,(jg (jJ (jx jaj (zpv 1) (kb jI (by rfl) B.len_ kz (ja (zpv 0) jc)) (jB _)) (jh (jv (jk jS (zpv 0) (zpv 1) (fun _ _=>rfl)))) jC)
   (jg (ju (i:=2) sc.nd rfl oQ (jn qp (jn yw (zpv 1) jf) jf))
   (jg (yj (jJ (jx Jt (kb jI (by rfl) B.len_ kz (ja (zpv 0) jc)) jf (jB _)) (jh (ju (i:=2) sc.nd rfl oQ (jn jZ (jn qp (jn yw (jk jS (zpv 0) (jn jZ (jn yw (zpv 1) jf) (kb jI (by rfl) B.len_ kz (ja (zpv 0) jc))) (fun _ _=>rfl)) jf) (jn yw (zpv 1) jf)) jf))) jC))
   (jg (ju (i:=2) sc.nd rfl oQ (jn qp (jn jZ (jn yw (zpv 2) (zpv 2)) jf) jf))
   (jh (jv (jn jZ (jn yw (zpv 2) (zpv 2)) jf))))))),?_⟩
 refine jP (σ':=[some (.ref a),some (.int k),none]) rfl ?_
 try dsimp only[j7]
 refine jay ?_;intro _ _ _ _;refine⟨_,rfl,_,rfl,a,_,rfl,.inl hS,_,_,rfl,rfl,_,rfl,jQ (fun c=>?_) (fun c=>?_)⟩
 .have c':k < (ns.length:Int):=by
   have:=WP c;rw[hl]at this;exact this
  exact⟨_,rfl,_,rfl,a,_,_,_,rfl,rfl,hS,jeV h0 c',q _⟩
 .refine⟨_,rfl,_,_,rfl,rfl,.inr ⟨by decide,by decide⟩,_,_,rfl,rfl,?_⟩
  refine gQ ?_;refine⟨fun σ' G=>∃z:Int,σ'=[some (.ref a),some (.int k),some (.int z)]/\G=H/\0<=z/\z < 2147483647,?_,?_⟩
  .refine⟨_,rfl,a,_,rfl,.inl hS,_,_,rfl,rfl,_,rfl,jQ (fun d=>?_) (fun d=>?_)⟩
   .have d':0 < ns.length:=by
     have:=WP d;rw[hl]at this;omega
    have Qn:0<=k * 7 % (ns.length:Int):=fu _ (by omega);have u_:k * 7 % (ns.length:Int) < (ns.length:Int):=gE _ (by omega);have pC:atI (ns.map V.int) (k * 7 % (((ns.map V.int).length:Nat):Int))=some (.int (ns.getD (k * 7 % (ns.length:Int)).toNat 0)):=by
     rw[hl];exact jeV Qn u_
    refine⟨_,rfl,_,rfl,_,_,rfl,rfl,.inr ⟨by decide,by decide⟩,_,rfl,a,_,rfl,.inl hS,_,_,rfl,rfl,(by rw[hl];omega),a,_,_,_,rfl,rfl,hS,pC,_,_,rfl,rfl,.inr ⟨by decide,by decide⟩,_,rfl,_,_,rfl,rfl,.inr ⟨by decide,by decide⟩,_,_,rfl,rfl,_,_,rfl,rfl,(by show (0:Int) < 2147483647;decide),?_⟩;exact⟨_,rfl,rfl,fu _ (by decide),gE _ (by decide)⟩
   .exact⟨_,rfl,rfl,by omega,by omega⟩
  .rintro σ' G ⟨z,rfl,rfl,z0,z1⟩
   refine⟨_,rfl,_,rfl,_,_,rfl,rfl,.inl ⟨by omega,by omega⟩,_,_,rfl,rfl,(by show (0:Int) < 2147483629;decide),_,_,rfl,rfl,?_⟩;refine gQ ?_;have y0:=fu (z * z) (b:=2147483629) (by decide);have y1:=gE (z * z) (b:=2147483629) (by decide);exact⟨_,rfl,_,rfl,_,_,rfl,rfl,.inl ⟨by omega,by omega⟩,_,_,rfl,rfl,(by show (0:Int) < 2147483587;decide),q _⟩
end
abbrev InE(xs:List Str)(x:Str):Prop:=x∈xs\/x = ""
def Tm.In(xs rs:List Str):Tm->Prop
 | .is x=>InE xs x
 | .at_ r x _=>r∈rs/\InE xs x
inductive spPlaceL(vs:List V)(H:Hp)(Q:VK)(E:XK):Prop
 | mk (c:Int) (a:aa) (xs:List Str) (_:vs=[.int c,.ref a]) (_:H a=some (.lst (xs.map V.str))) (_:xs.length<=100) (_:∀(u:V) (x:Str) (d:Int) (H':Hp),InE xs x->Same H H'->Held H' (plD x d) u->Q u H')
inductive spTermL(vs:List V)(H:Hp)(Q:VK)(E:XK):Prop
 | mk (c:Int) (a b:aa) (xs rs:List Str) (_:vs=[.int c,.ref a,.ref b]) (_:H a=some (.lst (xs.map V.str))) (_:H b=some (.lst (rs.map V.str))) (_:xs.length<=100) (_:∀(u:V) (t:Tm) (H':Hp),t.In xs rs->Same H H'->Held H' t.toD u->Q u H')
variable {xs:List Str}
theorem ZQ:∃x,InE xs x/\atI (xs.map V.str++[V.str ("" : Str)]) (c % (((xs.map V.str).length:Int)+1))=some (.str x):=by
 have h0:=fu c (b:=((xs.map V.str).length:Int)+1) (by omega);have h1:=gE c (b:=((xs.map V.str).length:Int)+1) (by omega);rw[ax]at h0 h1 |-;have e:xs.map V.str++[V.str ("" : Str)]=(xs++[("" : Str)]).map V.str:=by rw[aW];rfl
 have hl:(c % ((xs.length:Int)+1)).toNat < (xs++[("" : Str)]).length:=by rw[aG];show _ < xs.length+1;omega
 refine⟨(xs++[("" : Str)])[(c % ((xs.length:Int)+1)).toNat],?_,?_⟩
 .have:=ft hl
  rcases aT.mp this with h | h
  .exact .inl h
  .exact .inr (aN.mp h)
 .rw[e]
  have:=kU (xs:=(xs++[("" : Str)]).map V.str) (j:=(c % ((xs.length:Int)+1)).toNat) (v:=.str (xs++[("" : Str)])[(c % ((xs.length:Int)+1)).toNat]) (by rw[bF,aI hl];rfl);rw[show (((c % ((xs.length:Int)+1)).toNat:Nat):Int)=c % ((xs.length:Int)+1) by omega]at this;exact this
theorem JW(h:0 < xs.length):∃x,x∈xs/\atI (xs.map V.str) (c % ((xs.map V.str).length:Int))=some (.str x):=by
 rw[ax];have h0:=fu c (b:=(xs.length:Int)) (by omega);have h1:=gE c (b:=(xs.length:Int)) (by omega);have hl:(c % (xs.length:Int)).toNat < xs.length:=by omega
 refine⟨xs[(c % (xs.length:Int)).toNat],ft hl,?_⟩;have:=kU (xs:=xs.map V.str) (j:=(c % (xs.length:Int)).toNat) (v:=.str xs[(c % (xs.length:Int)).toNat]) (by rw[bF,aI hl];rfl);rw[show (((c % (xs.length:Int)).toNat:Nat):Int)=c % (xs.length:Int) by omega]at this;exact this
section
theorem jcI(F:Fun K "_law_place" "_law_place" ja3 f fd)(B:Free0 mg)(eC:Fn P w K mg base 1 "_law_far" ["_law_cell_here"] Yy):FnOk P w K mg base CX0 2 f fd ["_law_cell_here","_law_nums"] spPlaceL:=by
 have sc:FnScope ["_law_cell_here","_law_nums"] ["_law_cell_here","_law_nums"] (jp ja3):=fQ;refine F.okZ sc (fun aH A outer s H vs Q E hr h=>?_);obtain⟨c,a,xs,rfl,ha,hx,q⟩:=h;refine⟨_,(jh (jv (js (ja (jk jS (jn kd (zpv 1) (jF (ja jm jc))) (jn jZ (zpv 0) (jn qp (kb jI (by rfl) B.len_ kz (ja (zpv 1) jc)) jf)) (fun _ _=>rfl)) (ja (jA eC hr (ja (jn jM (zpv 0) jf) jc)) jc))))),?_⟩;refine jP (σ':=[some (.int c),some (.ref a)]) rfl ?_
 try dsimp only[j7]
 refine⟨_,rfl,sm rfl,fun l1 bJ=>?_⟩;have s1:=je bJ (.lst [V.str ("" : Str)]);have e1:upd H l1 (.lst [V.str ("" : Str)]) l1=some (.lst [V.str ("" : Str)]):=jd;generalize upd H l1 (.lst [V.str ("" : Str)])=H1 at *;refine⟨a,l1,_,_,rfl,rfl,s1 _ _ ha,e1,aV (by rw[ax];exact aV (ET hx 1) (by decide:100+1<=1000)) (jY (aL 1000)),fun l2 a_=>?_⟩;have s2:=je a_ (.lst (xs.map V.str++[V.str ("" : Str)]));have e2:upd H1 l2 (.lst (xs.map V.str++[V.str ("" : Str)])) l2=some (.lst (xs.map V.str++[V.str ("" : Str)])):=jd;generalize upd H1 l2 (.lst (xs.map V.str++[V.str ("" : Str)]))=H2 at *;have aQ:=s1.trans s2;obtain⟨x,oV,pC⟩:=ZQ (xs:=xs) (c:=c);refine⟨_,rfl,_,rfl,a,_,rfl,.inl (SqL.of (aQ _ _ ha)),_,_,rfl,rfl,_,_,rfl,rfl,(by show (0:Int) < ((xs.map V.str).length:Int)+1;omega),l2,_,_,_,rfl,rfl,SqL.of e2,pC,?_⟩;refine⟨_,rfl,_,_,rfl,rfl,⟨by decide,by decide⟩,_,rfl,fun d=>⟨sm rfl,fun t ht=>?_⟩⟩;exact q (.ref t) x d _ oV (aQ.trans (je ht _)) (jo jd (jb jl (jb jX jj)))
theorem jeb(F:Fun K "_law_term" "_law_term" jdH f fd)(B:Free0 mg)(lQ:Fn P w K mg base 2 "_law_place" ["_law_cell_here","_law_nums"] spPlaceL):FnOk P w K mg base CX0 3 f fd ["_law_cell_here","_law_nums","_law_rows"] spTermL:=by
 have sc:FnScope ["_law_cell_here","_law_nums","_law_rows"] ["_law_cell_here","_law_nums","_law_rows"] (jp jdH):=fQ;refine F.okZ sc (fun aH A outer s H vs Q E hr h=>?_);obtain⟨c,a,b,xs,rs,rfl,ha,hb,hx,q⟩:=h;refine⟨_,(jg (yj (jJ (zU (jx j4 (jn jZ (zpv 0) jf) jf (jB _)) (zt (jx Jt (kb jI (by rfl) B.len_ kz (ja (zpv 2) jc)) jf (jB _)))).pt (jh (jv (js (ja jm (ja (jk jS (zpv 2) (jn jZ (jn jM (zpv 0) jf) (kb jI (by rfl) B.len_ kz (ja (zpv 2) jc))) (fun _ _=>rfl)) (ja (jA lQ hr (ja (jn jM (zpv 0) jf) (ja (zpv 1) jc))) jc)))))) jC))
   (jh (jv (js (ja jm (ja (jk jS (jn kd (zpv 1) (jF (ja jm jc))) (jn jZ (jn jM (zpv 0) jf) (jn qp (kb jI (by rfl) B.len_ kz (ja (zpv 1) jc)) jf)) (fun _ _=>rfl)) jc)))))),?_⟩
 refine jP (σ':=[some (.int c),some (.ref a),some (.ref b)]) rfl ?_
 try dsimp only[j7]
 refine⟨fun σ' G=>σ'=[some (.int c),some (.ref a),some (.ref b)]/\G=H,?_,?_⟩
 .refine⟨_,rfl,_,_,rfl,rfl,(by show (0:Int) < 4;decide),rfl,_,rfl,jQ (fun _=>?_) (fun _=>qU ⟨rfl,rfl⟩)⟩
  refine⟨_,rfl,b,_,rfl,.inl (SqL.of hb),_,_,rfl,rfl,_,rfl,jQ (fun d=>?_) (fun _=>⟨rfl,rfl⟩)⟩;have d':0 < rs.length:=by
   have:=WP d;rw[ax]at this;omega
  obtain⟨r,bL,pC⟩:=JW (c:=c / 4) d';refine⟨_,rfl,_,rfl,_,_,rfl,rfl,⟨by decide,by decide⟩,_,rfl,b,_,rfl,.inl (SqL.of hb),_,_,rfl,rfl,(by rw[ax];omega),b,_,_,_,rfl,rfl,SqL.of hb,pC,?_⟩;refine⟨_,rfl,_,_,rfl,rfl,⟨by decide,by decide⟩,_,rfl,_,a,xs,rfl,ha,hx,fun u x d H1 oV s1 hu=>⟨sm rfl,fun t ht=>?_⟩⟩;have s2:=je ht (.tup [V.str "at",.str r,u]);exact q (.ref t) (.at_ r x d) _ ⟨bL,oV⟩ (s1.trans s2) (jo jd (jb jl (jb jl (jb (hu.mono s2) jj))))
 .rintro σ' G ⟨rfl,rfl⟩
  refine⟨_,rfl,sm rfl,fun l1 bJ=>?_⟩;have s1:=je bJ (.lst [V.str ("" : Str)]);have e1:upd G l1 (.lst [V.str ("" : Str)]) l1=some (.lst [V.str ("" : Str)]):=jd;generalize upd G l1 (.lst [V.str ("" : Str)])=H1 at *;refine⟨a,l1,_,_,rfl,rfl,s1 _ _ ha,e1,aV (by rw[ax];exact aV (ET hx 1) (by decide:100+1<=1000)) (jY (aL 1000)),fun l2 a_=>?_⟩;have s2:=je a_ (.lst (xs.map V.str++[V.str ("" : Str)]));have e2:upd H1 l2 (.lst (xs.map V.str++[V.str ("" : Str)])) l2=some (.lst (xs.map V.str++[V.str ("" : Str)])):=jd;generalize upd H1 l2 (.lst (xs.map V.str++[V.str ("" : Str)]))=H2 at *;have aQ:=s1.trans s2;obtain⟨x,oV,pC⟩:=ZQ (xs:=xs) (c:=c / 4);refine⟨_,rfl,_,_,rfl,rfl,⟨by decide,by decide⟩,_,rfl,a,_,rfl,.inl (SqL.of (aQ _ _ ha)),_,_,rfl,rfl,_,_,rfl,rfl,(by show (0:Int) < ((xs.map V.str).length:Int)+1;omega),l2,_,_,_,rfl,rfl,SqL.of e2,pC,?_⟩;refine⟨sm rfl,fun t ht=>?_⟩;exact q (.ref t) (.is x) _ oV (aQ.trans (je ht _)) (jo jd (jb jl (jb jl jj)))
end
abbrev ja6:aJ:=top 42
def Bd.In(xs rs:List Str):Bd->Prop
 | .is x=>InE xs x
 | .row r=>r∈rs
def Cl.In(xs rs:List Str):Cl->Prop
 | .least a b _=>a.In xs rs/\b.In xs rs
 | .each t _ u _ r way b _=>InE xs t/\InE xs u/\r∈rs/\(way = ">="\/way = "<=")/\b.In xs rs
 | .rise t _ u _ r=>InE xs t/\InE xs u/\r∈rs
inductive spClaimL(vs:List V)(H:Hp)(Q:VK)(E:XK):Prop
 | mk (c:Int) (a b:aa) (xs rs:List Str) (_:vs=[.int c,.ref a,.ref b]) (_:H a=some (.lst (xs.map V.str))) (_:H b=some (.lst (rs.map V.str))) (_:xs.length<=100) (_:∀(u:V) (C:Cl) (H':Hp),C.In xs rs->Same H H'->Held H' C.toD u->Q u H')
theorem jbz{x y:V}:∃z,(z=x\/z=y)/\atI [x,y] (c % 2)=some z:=by
 have h0:=fu c (b:=2) (by decide);have h1:=gE c (b:=2) (by decide);by_cases h:c % 2=0
 .rw[h];exact⟨x,.inl rfl,rfl⟩
 .rw[show c % 2=1 by omega];exact⟨y,.inr rfl,rfl⟩
section
theorem jcN(F:Fun K "_law_claim" "_law_claim" ja6 f fd)(B:Free0 mg)(eC:Fn P w K mg base 1 "_law_far" ["_law_cell_here"] Yy)(lQ:Fn P w K mg base 2 "_law_place" ["_law_cell_here","_law_nums"] spPlaceL)(gy:Fn P w K mg base 3 "_law_term" ["_law_cell_here","_law_nums","_law_rows"] spTermL):FnOk P w K mg base CX0 4 f fd ["_law_cell_here","_law_nums","_law_rows"] spClaimL:=by
 have sc:FnScope ["_law_cell_here","_law_nums","_law_rows","_law_which","_law_one","_law_r","_law_t","_law_u","_law_b"] ["_law_cell_here","_law_nums","_law_rows"] (jp ja6):=fQ;refine F.okZ sc (fun aH A outer s H vs Q E hr h=>?_);obtain⟨c0,a,b,xs,rs,rfl,ha,hb,hx,q⟩:=h;refine⟨_,(jg (ju (i:=3) sc.nd rfl oQ (jn jZ (zpv 0) jf))
   (jg (ju (i:=0) sc.nd rfl oQ (jn jM (zpv 0) jf))
   (jg (yj (jJ (Kq (jx jaj (zpv 3) jf (jB _)) (Ji (jx j4 (kb jI (by rfl) B.len_ kz (ja (zpv 2) jc)) jf (jB _)))).pt (jg (ju (i:=4) sc.nd rfl oQ (jA gy hr (ja (zpv 0) (ja (zpv 1) (ja (zpv 2) jc)))))
   (jh (jv (js (ja jm (ja (zpv 4) (ja (jA gy hr (ja (jn qp (jn jM (zpv 0) jf) jf) (ja (zpv 1) (ja (zpv 2) jc)))) (ja (jA eC hr (ja (jn jM (zpv 0) jf) jc)) jc)))))))) jC))
   (jg (ju (i:=5) sc.nd rfl oQ (jk jS (zpv 2) (jn jZ (zpv 0) (kb jI (by rfl) B.len_ kz (ja (zpv 2) jc))) (fun _ _=>rfl)))
   (jg (ju (i:=6) sc.nd rfl oQ (jA lQ hr (ja (jn jM (zpv 0) jf) (ja (zpv 1) jc))))
   (jg (ju (i:=7) sc.nd rfl oQ (jA lQ hr (ja (jn jM (zpv 0) jf) (ja (zpv 1) jc))))
   (jg (jJ (jx j4 (zpv 3) jf (jB _)) (jh (jv (js (ja jm (ja (zpv 6) (ja (zpv 7) (ja (zpv 5) jc))))))) jC)
   (jg (ju (i:=8) sc.nd rfl oQ (jk jS (jF (ja (js (ja jm (ja (jk jS (jn kd (zpv 1) (jF (ja jm jc))) (jn jZ (jn jM (zpv 0) jf) (jn qp (kb jI (by rfl) B.len_ kz (ja (zpv 1) jc)) jf)) (fun _ _=>rfl)) jc))) (ja (js (ja jm (ja (jk jS (zpv 2) (jn jZ (jn jM (zpv 0) jf) (kb jI (by rfl) B.len_ kz (ja (zpv 2) jc))) (fun _ _=>rfl)) jc))) jc))) (jn jZ (jn jM (zpv 0) jf) jf) (fun _ _=>rfl)))
   (jh (jv (js (ja jm (ja (zpv 6) (ja (zpv 7) (ja (zpv 5) (ja (jk jS (jF (ja jm (ja jm jc))) (jn jZ (jn jM (zpv 0) jf) jf) (fun _ _=>rfl)) (ja (zpv 8) (ja (jA eC hr (ja (jn jM (zpv 0) jf) jc)) jc)))))))))))))))))),?_⟩
 refine jP (σ':=[some (.int c0),some (.ref a),some (.ref b),none,none,none,none,none,none]) rfl ?_
 try dsimp only[j7]
 refine jho ?_;intro _ _ _ _ _ _ _ _;refine⟨_,rfl,_,_,rfl,rfl,(by show (0:Int) < 4;decide),?_⟩;refine gQ ?_;refine⟨_,rfl,_,_,rfl,rfl,⟨by decide,by decide⟩,?_⟩;refine gQ ?_;generalize c0 % 4=wh;generalize c0 / 4=c;refine⟨fun σ' G=>σ'=[some (.int c),some (.ref a),some (.ref b),some (.int wh),none,none,none,none,none]/\G=H/\0 < rs.length,?_,?_⟩
 .refine⟨_,rfl,_,_,rfl,rfl,_,rfl,jQ (fun _=>qB ?_) (fun _=>⟨_,rfl,b,_,rfl,.inl (SqL.of hb),rfl,_,rfl,jQ (fun _=>?_) (fun d=>⟨rfl,rfl,?_⟩)⟩)⟩
  rotate_right
  .rw[ax]at d
   rcases M1 rs.length with z | z
   .exact absurd (WQ (by rw[z];rfl)) d
   .exact z
  all_goals
   refine⟨_,rfl,_,rfl,_,rfl,c,a,b,xs,rs,rfl,ha,hb,hx,fun u1 t1 H1 i1 s1 h1=>?_⟩
   refine jP (σ':=[some (.int c),some (.ref a),some (.ref b),some (.int wh),some u1,none,none,none,none]) rfl ?_
   refine⟨_,rfl,_,rfl,_,_,rfl,rfl,⟨by decide,by decide⟩,_,_,rfl,rfl,_,rfl,_,rfl,_,a,b,xs,rs,rfl,s1 _ _ ha,s1 _ _ hb,hx,fun u2 t2 H2 i2 s2 h2=>?_⟩
   refine⟨_,rfl,_,_,rfl,rfl,⟨by decide,by decide⟩,_,rfl,fun d=>⟨sm rfl,fun t ht=>?_⟩⟩
   have s3:=je ht (.tup [V.str "least",u1,u2,.int d])
   exact q (.ref t) (.least t1 t2 d) _ ⟨i1,i2⟩ (s1.trans (s2.trans s3)) (jo jd (jb jl (jb (h1.mono (s2.trans s3)) (jb (h2.mono s3) (jb jX jj)))))
 .rintro σ' G ⟨rfl,rfl,GK⟩
  have GJ:(0:Int) < ((rs.map V.str).length:Int):=by rw[ax];omega
  obtain⟨r,bL,RE⟩:=JW (c:=c) GK;refine⟨_,rfl,_,rfl,_,rfl,b,_,rfl,.inl (SqL.of hb),_,_,rfl,rfl,GJ,b,_,_,_,rfl,rfl,SqL.of hb,RE,?_⟩;refine gQ ?_;refine⟨_,rfl,_,_,rfl,rfl,⟨by decide,by decide⟩,_,rfl,_,a,xs,rfl,ha,hx,fun vt x dt H1 i1 s1 h1=>?_⟩;refine gQ ?_;refine⟨_,rfl,_,_,rfl,rfl,⟨by decide,by decide⟩,_,rfl,_,a,xs,rfl,s1 _ _ ha,hx,fun vu y du H2 i2 s2 h2=>?_⟩;refine gQ ?_;have aQ:=s1.trans s2;refine⟨_,rfl,rfl,_,rfl,jQ (fun _=>?_) (fun _=>?_)⟩
  .refine⟨_,rfl,_,rfl,_,rfl,sm rfl,fun t ht=>?_⟩
   have s3:=je ht (.tup [V.str "rise",vt,vu,.str r]);exact q (.ref t) (.rise x dt y du r) _ ⟨i1,i2,bL⟩ (aQ.trans s3) (jo jd (jb jl (jb (h1.mono (s2.trans s3)) (jb (h2.mono s3) (jb jl jj)))))
  have y_:=aQ _ _ ha;have fP:=aQ _ _ hb;refine⟨_,rfl,sm rfl,fun l1 bJ=>?_⟩;have s3:=je bJ (.lst [V.str ("" : Str)]);have e3:upd H2 l1 (.lst [V.str ("" : Str)]) l1=some (.lst [V.str ("" : Str)]):=jd;generalize upd H2 l1 (.lst [V.str ("" : Str)])=H3 at *;refine⟨a,l1,_,_,rfl,rfl,s3 _ _ y_,e3,aV (by rw[ax];exact aV (ET hx 1) (by decide:100+1<=1000)) (jY (aL 1000)),fun l2 a_=>?_⟩;have s4:=je a_ (.lst (xs.map V.str++[V.str ("" : Str)]));have e4:upd H3 l2 (.lst (xs.map V.str++[V.str ("" : Str)])) l2=some (.lst (xs.map V.str++[V.str ("" : Str)])):=jd;generalize upd H3 l2 (.lst (xs.map V.str++[V.str ("" : Str)]))=H4 at *;have t_:=s3.trans s4;obtain⟨bx,Rw,RC⟩:=ZQ (xs:=xs) (c:=c / 11);refine⟨_,rfl,_,_,rfl,rfl,⟨by decide,by decide⟩,_,rfl,a,_,rfl,.inl (SqL.of (t_ _ _ y_)),_,_,rfl,rfl,_,_,rfl,rfl,(by show (0:Int) < ((xs.map V.str).length:Int)+1;omega),l2,_,_,_,rfl,rfl,SqL.of e4,RC,?_⟩;refine⟨sm rfl,fun t1 bS=>?_⟩;have s5:=je bS (.tup [V.str "is",.str bx]);have e5:upd H4 t1 (.tup [V.str "is",.str bx]) t1=some (.tup [V.str "is",.str bx]):=jd;generalize upd H4 t1 (.tup [V.str "is",.str bx])=H5 at *;have gI:=t_.trans s5;obtain⟨br,Rx,RB⟩:=JW (c:=c / 13) GK;refine⟨_,rfl,_,rfl,_,_,rfl,rfl,⟨by decide,by decide⟩,_,rfl,b,_,rfl,.inl (SqL.of (gI _ _ fP)),_,_,rfl,rfl,GJ,b,_,_,_,rfl,rfl,SqL.of (gI _ _ fP),RB,?_⟩;refine⟨sm rfl,fun t2 dq=>?_⟩;have s6:=je dq (.tup [V.str "row",.str br]);have e6:upd H5 t2 (.tup [V.str "row",.str br]) t2=some (.tup [V.str "row",.str br]):=jd;generalize upd H5 t2 (.tup [V.str "row",.str br])=H6 at *;refine⟨sm rfl,fun lb QF=>?_⟩;have s7:=je QF (.lst [V.ref t1,.ref t2]);have e7:upd H6 lb (.lst [V.ref t1,.ref t2]) lb=some (.lst [V.ref t1,.ref t2]):=jd;generalize upd H6 lb (.lst [V.ref t1,.ref t2])=H7 at *;obtain⟨vb,iw,RA⟩:=jbz (x:=.ref t1) (y:=.ref t2) (c:=c / 3);refine⟨_,rfl,_,_,rfl,rfl,⟨by decide,by decide⟩,_,_,rfl,rfl,(by show (0:Int) < 2;decide),lb,_,_,_,rfl,rfl,SqL.of e7,RA,?_⟩;refine gQ ?_;have hB:∃bd:Bd,bd.In xs rs/\Held H7 bd.toD vb:=by
   rcases iw with rfl | rfl
   .exact⟨.is bx,Rw,jo ((s6.trans s7) _ _ e5) (jb jl (jb jl jj))⟩
   .exact⟨.row br,Rx,jo (s7 _ _ e6) (jb jl (jb jl jj))⟩
  obtain⟨bd,iL,R4⟩:=hB;have Bg:=gI.trans (s6.trans s7);refine⟨_,rfl,_,rfl,_,rfl,sm rfl,fun lw iD=>?_⟩;have s8:=je iD (.lst [V.str ">=",.str "<="]);have e8:upd H7 lw (.lst [V.str ">=",.str "<="]) lw=some (.lst [V.str ">=",.str "<="]):=jd;generalize upd H7 lw (.lst [V.str ">=",.str "<="])=H8 at *;obtain⟨vw,Pi,Rz⟩:=jbz (x:=.str ">=") (y:=.str "<=") (c:=c / 7);refine⟨_,rfl,_,_,rfl,rfl,⟨by decide,by decide⟩,_,_,rfl,rfl,(by show (0:Int) < 2;decide),lw,_,_,_,rfl,rfl,SqL.of e8,Rz,?_⟩;refine⟨_,rfl,_,rfl,_,_,rfl,rfl,⟨by decide,by decide⟩,_,rfl,fun d=>⟨sm rfl,fun t ht=>?_⟩⟩;have hW:∃wy:Str,vw=.str wy/\(wy = ">="\/wy = "<="):=by
   rcases Pi with rfl | rfl
   .exact⟨_,rfl,.inl rfl⟩
   .exact⟨_,rfl,.inr rfl⟩
  obtain⟨wy,rfl,hwy⟩:=hW;have s9:=je ht (.tup [V.str "each",vt,vu,.str r,.str wy,vb,.int d]);have i_:=Bg.trans (s8.trans s9);exact q (.ref t) (.each x dt y du r wy bd d) _ ⟨i1,i2,bL,hwy,iL⟩ (aQ.trans i_) (jo jd (jb jl (jb (h1.mono (s2.trans i_)) (jb (h2.mono i_) (jb jl (jb jl (jb (R4.mono (s8.trans s9)) (jb jX jj))))))))
end
abbrev YC:aJ:=top 43
mutual
def lvD:D->List Str
 | .int _=>[]
 | .str x=>[x]
 | .tup ds=>lvL ds
def lvL:List D->List Str
 | []=>[]
 | d :: ds=>lvD d++lvL ds
end
theorem jT:lvL []=[]:=by unfold lvL;rfl
theorem jN(d:D)(ds:List D):lvL (d :: ds)=lvD d++lvL ds:=by rw[lvL]
theorem Kf:∀(ds es:List D),lvL (ds++es)=lvL ds++lvL es
 | [],es=>by rw[sZ,jT,sZ]
 | d :: ds,es=>by rw[rb,jN,jN,Kf ds es,dH]
theorem Zv(d:D):lvL [d]=lvD d:=by rw[jN,jT,cv]
def DepL:Nat->List D->Prop
 | 0,_=>False
 | n+1,ds=>∀d∈ds,∀es,d=.tup es->DepL n es
def JI(xs:List Str)(l:List Str):List Str:=l.filter fun x=>decide (x∈xs)
theorem jdw(xs l m:List Str):JI xs (l++m)=JI xs l++JI xs m:=AZ ..
theorem Kw(xs l:List Str):(JI xs l).length<=l.length:=oA _ _
inductive spUsed(n:Nat)(vs:List V)(H:Hp)(Q:VK)(E:XK):Prop
 | mk (a b:aa) (us:List V) (ds:List D) (xs:List Str) (_:vs=[.ref a,.ref b]) (_:H a=some (.tup us)) (_:HeldL H ds us) (_:DepL n ds) (_:H b=some (.lst (xs.map V.str))) (_:(lvL ds).length<=900) (_:jet H Q (JI xs (lvL ds)))
theorem jb3(i:Int):∀ys:List Str,inV (.int i) (ys.map V.str)=false
 | []=>rfl
 | y :: ys=>by
  have ih:=jb3 i ys;unfold inV at ih |-;rw[ce,tD,ih];rfl
theorem jhj{ds:List D}(hi:i < ds.length):(lvL (ds.take i)).length+(lvD ds[i]).length<=(lvL ds).length:=by
 have e:ds=ds.take i++([ds[i]]++ds.drop (i+1)):=by
  rw[<- dH,show ds.take i++[ds[i]]=ds.take (i+1) by rw[bP,aI hi];rfl,sY]
 have:(lvL ds).length=(lvL (ds.take i)).length+((lvD ds[i]).length+(lvL (ds.drop (i+1))).length):=by
  rw[<- Zv ds[i],<- aG,<- aG,<- Kf,<- Kf,<- e]
 omega
section
theorem jfm{k:Nat}(F:Fun K "_law_used" "_law_used" YC f fd)(B:Free0 mg)(vV:Fn P w K mg base k "_law_used" ["_law_thing","_law_nums"] (spUsed n)):FnOk P w K mg base CX0 (k+1) f fd ["_law_thing","_law_nums"] (spUsed (n+1)):=by
 have sc:FnScope ["_law_thing","_law_nums","_law_found","_law_one"] ["_law_thing","_law_nums"] (jp YC):=fQ;refine F.okZ sc (fun aH A outer s H vs Q E hr h=>?_);obtain⟨a,b,us,ds,xs,rfl,ha,nQ,DE,hb,hlen,q⟩:=h;refine⟨_,(jg (ju (i:=2) sc.nd rfl oQ (jF jc))
   (jg (kg dF rfl (kT (zpv 0)) (jt (i:=3) sc.nd rfl oQ) (jh (jJ (jeY (kb jaO (by rfl) B.isinstance_ zN (ja (zpv 3) (ja (jdi (v:=.ty "tuple") (by rfl) B.tuple_ zd (by rfl)) jc)))) (jh (ju (i:=2) sc.nd rfl oQ (jn kd (zpv 2) (jA vV hr (ja (zpv 3) (ja (zpv 1) jc)) (h4:=aL _))))) (jh (jJ (jx (Jd (K:=K)) (zpv 3) (zpv 1) rfl) (jh (jW (qu eD l_ l8 kK (zpv 2) (ja (zpv 3) jc)))) jC)))))
   (jh (jv (zpv 2))))),?_⟩
 refine jP (σ':=[some (.ref a),some (.ref b),none,none]) rfl ?_
 try dsimp only[j7]
 refine J5 ?_;intro _ _;refine⟨sm rfl,fun l hl=>?_⟩;have s1:=je hl (.lst []);have e1:upd H l (.lst []) l=some (.lst []):=jd;generalize upd H l (.lst [])=H1 at *;refine gQ ?_;have dw:=nQ.length;refine⟨_,rfl,a,rfl,⟨_,SqT.of (s1 _ _ ha)⟩,?_⟩;refine yM (xs:=us) (fun i σ G=>∃l u3,σ=[some (.ref a),some (.ref b),some (.ref l),u3]/\Same H G/\H l=none/\G l=some (.lst ((JI xs (lvL (ds.take i))).map V.str))) ⟨l,none,rfl,s1,hl,by rw[eX,e1];unfold lvL;rfl⟩ ?_ ?_ ?_
 .rintro i σ G _ ⟨l,u3,rfl,sG,_⟩
  exact SqT.of (sG _ _ ha)
 .rintro i x σ G hx ⟨l,u3,rfl,sG,hl,hG⟩
  have hi:i < ds.length:=by have:=(bN.mp hx).1;omega
  obtain⟨x',bq,cw⟩:=nQ.get (aI hi);rw[hx]at bq
  cases bq
  have eM:lvL (ds.take (i+1))=lvL (ds.take i)++lvD ds[i]:=by rw[show ds.take (i+1)=ds.take i++[ds[i]] by rw[bP,aI hi];rfl,Kf,Zv]
  have nK:=jhj hi;have xA:=Kw xs (lvL (ds.take i));have Rl:=DE ds[i] (ft hi);refine gQ ?_;rw[eM,jdw,aW];generalize ds[i]=d at *
  cases d with
  | int z=>
   cases qe cw
   refine⟨_,rfl,_,_,_,_,rfl,TyOf.int z,jgq K,_,rfl,qU ?_⟩;refine⟨_,rfl,_,rfl,b,_,rfl,.inl (SqL.of (sG _ _ hb)),rfl,qW _,_,rfl,?_⟩;rw[show (if false=true then !inV (V.int z) (iZ V.str xs) else inV (V.int z) (iZ V.str xs))=false from jb3 z xs];refine qU ⟨l,_,rfl,sG,hl,?_⟩;rw[hG];unfold lvD;simp[JI]
  | str z=>
   cases jD cw
   refine⟨_,rfl,_,_,_,_,rfl,TyOf.str z,jgp K,_,rfl,qU ?_⟩;refine⟨_,rfl,_,rfl,b,_,rfl,.inl (SqL.of (sG _ _ hb)),rfl,qW _,_,rfl,jQ (fun d=>?_) (fun d=>?_)⟩
   .have d':inV (.str z) (xs.map V.str)=true:=d
    rw[qq]at d';refine⟨_,rfl,.inl ⟨rfl,_,SqL.of hG⟩,_,rfl,l,_,_,rfl,rfl,hG,jz (by rw[ax];omega),l,_,rfl,fun c o e=>?_,hl,?_⟩
    .rw[jw (jr e hl)];exact sG _ _ e
    .rw[jd];unfold lvD;simp[JI,WP d']
   .have d':¬inV (.str z) (xs.map V.str)=true:=d
    rw[qq]at d';refine⟨l,_,rfl,sG,hl,?_⟩;have nz:¬z∈xs:=fun h=>d' (WQ h)
    rw[hG];unfold lvD;simp[JI,nz]
  | tup es=>
   obtain⟨t,ys,rfl,ht,Ri⟩:=jE cw;have xR:lvD (.tup es)=lvL es:=by unfold lvD;rfl
   rw[xR]at nK |-;refine⟨_,rfl,_,_,_,_,rfl,TyOf.tup (sG _ _ ht),jgo K,_,rfl,qB ?_⟩;refine⟨_,rfl,_,rfl,_,rfl,t,b,ys,es,xs,rfl,sG _ _ ht,Ri.mono sG,Rl es rfl,sG _ _ hb,by omega,fun l2 G2 s2 n2 e2=>?_⟩;have nA:=Kw xs (lvL es);refine⟨l,l2,_,_,rfl,rfl,s2 _ _ hG,e2,aV (by rw[ax,ax];omega) (jY (aL 1000)),fun l3 bT=>?_⟩;exact⟨l3,_,rfl,sG.trans (s2.trans (je bT _)),sG.free (s2.free bT),jd⟩
 rintro σ G ⟨l,u3,rfl,sG,hl,hG⟩;rw[<- dw,bX]at hG;exact⟨_,rfl,q l G sG hl hG⟩
end
abbrev jdG:aJ:=top 37
def KL(n a:Nat)(m o:Nat):List Nat:=ox a m++o :: ox (n - 1 - a) m
def wN(c:Int):Nat:=(1+c % 7).toNat
def qQ(c:Int):Int:=c / 7 % 1000000007
def wA(c:Int):Nat:=(qQ c / 26 % (1+c % 7)).toNat
def wM(c:Int):Nat:=jbn (qQ c % 26)
def wO(c:Int):Nat:=jbn (qQ c / 182 % 26)
def yi(c:Int):Str:=⟨(KL (wN c) (wA c) (wM c) (wO c)).toArray⟩
def kw4:List Str:=["is","at","if","to"]
def qm(c:Int):Str:=if yi c∈kw4 then yi c++("x" : Str) else yi c
def jdE:Sp:=fun vs H Q _=>∃c:Int,vs=[.int c]/\∀H',Same H H'->Q (.str (qm c)) H'
theorem jaB(m:Nat):∀(n:Nat) (b:Array Nat),(List.foldl (fun x1 x2=>x1++x2) b (ox n #[m])).toList=b.toList++ox n m
 | 0,b=>by simp
 | n+1,b=>by rw[AU,WB,jaB m n,AU];simp
theorem jan(m:Nat){j:Int}(h:1<=j):(sR ⟨#[m]⟩ j).cps.toList=ox j.toNat m:=by
 unfold sR;rw[WT (by omega)];split
 .rename_i hc
  rw[ww]at hc;rcases hc with hc | hc
  .rw[E5 hc];rfl
  .cases hc
 .rw[jaB];rfl
theorem Z3(c:Int):1<=wN c/\wN c<=7/\((wN c:Nat):Int)=1+c % 7:=by
 unfold wN;have h0:=fu c (b:=7) (by decide);have h1:=gE c (b:=7) (by decide);omega
theorem Z4(c:Int):wA c < wN c/\((wA c:Nat):Int)=qQ c / 26 % (1+c % 7):=by
 obtain⟨h1,h2,h3⟩:=Z3 c;unfold wA;have h0:=fu (qQ c / 26) (b:=1+c % 7) (by omega);have h4:=gE (qQ c / 26) (b:=1+c % 7) (by omega);omega
theorem jdo(c:Int)(y:Str)(hy:y=sR ⟨#[wM c]⟩ (1+c % 7)):K6 y none (some (qQ c / 26 % (1+c % 7)))++⟨#[wO c]⟩++K6 y (some (qQ c / 26 % (1+c % 7)+1)) none=yi c:=by
 obtain⟨h1,h2,h3⟩:=Z3 c;obtain⟨h4,h5⟩:=Z4 c;have hl:y.cps.toList=ox (wN c) (wM c):=by rw[hy,jan _ (by omega)];rfl
 have hn:y.length=wN c:=by rw[zb,hl,M9]
 refine Kz ?_;rw[yF,yF,JU,JU,hl,hn,<- h5];rw[show ((wA c:Int)+1)=((wA c+1:Nat):Int) by omega,HT.sIx_none,HT.sIx_none,HT.sIx_nat,HT.sIx_nat];rw[p3 (cu h4),p3 (by omega),WE,Nat.sub_zero,Wj,List.drop_replicate,Wj,p3 (cu h4)];unfold yi KL;rw[show min (wN c - (wA c+1)) (wN c - (wA c+1))=wN c - 1 - wA c by omega];simp
theorem yG(c:Int):(yi c).length=wN c:=by
 obtain⟨h1,h2,h3⟩:=Z3 c;obtain⟨h4,h5⟩:=Z4 c;rw[zb];unfold yi KL;simp;omega
section
theorem jfk(F:Fun K "_law_word" "_law_word" jdG f fd)(B:Free0 mg):FnOk P w K mg base CX0 1 f fd ["_law_cell_here"] jdE:=by
 have sc:FnScope ["_law_cell_here","_law_letters","_law_size","_law_left","_law_word_here","_law_at"] ["_law_cell_here"] (jp jdG):=fQ;refine F.okZ sc (fun aH A outer s H vs Q E hr h=>?_);obtain⟨c,rfl,q⟩:=h;refine⟨_,(jg (ju (i:=1) sc.nd rfl oQ jm)
   (jg (ju (i:=2) sc.nd rfl oQ (jn qp jf (jn jZ (zpv 0) jf)))
   (jg (ju (i:=3) sc.nd rfl oQ (jn jZ (jn jM (zpv 0) jf) jf))
   (jg (ju (i:=4) sc.nd rfl oQ (jn jbe (jk jeB (zpv 1) (jn jZ (zpv 3) jf) (fun _ _=>rfl)) (zpv 2)))
   (jg (ju (i:=5) sc.nd rfl oQ (jn jZ (jn jM (zpv 3) jf) (zpv 2)))
   (jg (ju (i:=4) sc.nd rfl oQ (jn zA (jn zA (j5 jdF (zpv 4) kL (j0 (zpv 5))) (jk jeB (zpv 1) (jn jZ (jn jM (zpv 3) jf) jf) (fun _ _=>rfl))) (j5 jdF (zpv 4) (j0 (jn qp (zpv 5) jf)) kL)))
   (jg (jJ (jx (Jd (K:=K)) (zpv 4) (jF (ja jm (ja jm (ja jm (ja jm jc))))) rfl) (jh (jv (jn zA (zpv 4) jm))) jC)
   (jh (jv (zpv 4)))))))))),?_⟩
 refine jP (σ':=[some (.int c),none,none,none,none,none]) rfl ?_
 try dsimp only[j7]
 refine jeF ?_;intro _ _ _ _ _ _ _;obtain⟨h1,h2,h3⟩:=Z3 c;obtain⟨h4,h5⟩:=Z4 c;have ph:za.length<=aP:=cu (jz (by decide +kernel));refine gQ ?_;refine⟨_,rfl,_,_,rfl,rfl,(by show (0:Int) < 7;decide),_,_,rfl,rfl,?_⟩;refine gQ ?_;refine⟨_,rfl,_,_,rfl,rfl,⟨by decide,by decide⟩,_,_,rfl,rfl,(by show (0:Int) < 1000000007;decide),?_⟩;refine gQ ?_;have hm:atI za.cps.toList (qQ c % 26)=some (wM c):=YH (fu _ (by decide)) (gE _ (by decide));have ho:atI za.cps.toList (qQ c / 182 % 26)=some (wO c):=YH (fu _ (by decide)) (gE _ (by decide));refine⟨_,rfl,_,rfl,_,_,rfl,rfl,(by show (0:Int) < 26;decide),za,_,_,rfl,rfl,ph,hm,?_⟩;refine⟨_,rfl,_,_,rfl,rfl,(by show 1<=16;decide),by omega,by omega,?_⟩;have hy:=jdo c _ rfl;have Gn:(sR ⟨#[wM c]⟩ (1+c % 7)).length<=7:=by rw[zb,jan _ (by omega),M9];omega
 generalize sR ⟨#[wM c]⟩ (1+c % 7)=y at *;refine gQ ?_;refine⟨_,rfl,_,_,rfl,rfl,⟨by decide,by decide⟩,_,rfl,_,_,rfl,rfl,(by show (0:Int) < 1+c % 7;omega),?_⟩;refine gQ ?_;refine⟨_,rfl,_,rfl,_,rfl,y,rfl,cu (jz (by omega)),?_⟩;refine⟨_,rfl,_,rfl,_,_,rfl,rfl,⟨by decide,by decide⟩,_,_,rfl,rfl,(by show (0:Int) < 26;decide),za,_,_,rfl,rfl,ph,ho,?_⟩;have k1:=ZL y none (some (qQ c / 26 % (1+c % 7)));have k2:=ZL y (some (qQ c / 26 % (1+c % 7)+1)) none;have k3:(⟨#[wO c]⟩:Str).length=1:=rfl;refine⟨_,_,rfl,rfl,cu (jz (by rw[k3];unfold qQ at k1;omega)),?_⟩;refine⟨_,rfl,_,rfl,_,_,rfl,rfl,_,rfl,y,rfl,cu (jz (by omega)),?_⟩;have k4:(K6 y none (some (qQ c / 26 % (1+c % 7)))++(⟨#[wO c]⟩:Str)).length=(K6 y none (some (qQ c / 26 % (1+c % 7)))).length+1:=by
  rw[zb,yF,aG,<- zb];rfl
 refine⟨_,_,rfl,rfl,cu (jz (by unfold qQ at k1 k2 k4;omega)),?_⟩;have ck:K6 y none (some (c / 7 % 1000000007 / 26 % (1+c % 7)))++⟨#[wO c]⟩++K6 y (some (c / 7 % 1000000007 / 26 % (1+c % 7)+1)) none=yi c:=hy;rw[ck];refine gQ ?_;refine⟨_,rfl,sm rfl,fun l hl=>?_⟩;have e1:upd H l (.lst [V.str "is",.str "at",.str "if",.str "to"]) l=some (.lst (kw4.map V.str)):=jd;have s1:=je hl (.lst [V.str "is",.str "at",.str "if",.str "to"]);generalize upd H l (.lst [V.str "is",.str "at",.str "if",.str "to"])=H1 at *;refine⟨l,_,rfl,.inl (SqL.of e1),rfl,qW _,_,rfl,jQ (fun d=>?_) (fun d=>?_)⟩
 .have d':inV (.str (yi c)) (kw4.map V.str)=true:=d
  rw[qq]at d';refine⟨_,rfl,_,_,rfl,rfl,cu (jz (by rw[yG];show wN c+1<=1000;omega)),?_⟩;have:=q H1 s1;unfold qm at this;rw[WU (WP d')]at this;exact this
 .have d':¬inV (.str (yi c)) (kw4.map V.str)=true:=d
  rw[qq]at d';have:=q H1 s1;unfold qm at this;rw[WT (fun h=>d' (WQ h))]at this;exact⟨_,rfl,this⟩
end
abbrev ja1:aJ:=top 38
def gB:List Nat->Bool
 | []=>false
 | [_]=>true
 | [x,y]=>decide (97<=x) && decide (97<=y)
 | x :: y :: z :: _=>decide (x=y) || decide (x=z) || decide (y=z)
def jev(l:List Nat):Option Nat:=if l[0]?=l[1]? then l[0]? else l[2]?
variable {o:Nat}
theorem jha{a m:Nat}(h:a < n)(h3:3<=n):∃r,KL n a m o=o :: m :: m :: r\/KL n a m o=m :: o :: m :: r\/KL n a m o=m :: m :: o :: r\/KL n a m o=m :: m :: m :: r:=by
 unfold KL;match a,h with
 | 0,h=>
  refine⟨ox (n - 3) m,.inl ?_⟩;rw[show n - 1 - 0=(n - 3)+1+1 by omega,AU,AU];rfl
 | 1,h=>
  refine⟨ox (n - 3) m,.inr (.inl ?_)⟩;rw[show n - 1 - 1=(n - 3)+1 by omega,AU];rfl
 | 2,h=>exact⟨_,.inr (.inr (.inl rfl))⟩
 | a+3,h=>exact⟨_,.inr (.inr (.inr rfl))⟩
theorem jg9{a m:Nat}(h:a < n)(hm:97<=m)(ho:97<=o):gB (KL n a m o)=true:=by
 by_cases h3:3<=n
 .obtain⟨r,e | e | e | e⟩:=jha (m:=m) (o:=o) h h3 <;> rw[e] <;> simp[gB]
 .have:n=1\/n=2:=by omega
  rcases this with rfl | rfl
  .have:a=0:=by omega
   subst this;rfl
  .have:a=0\/a=1:=by omega
   rcases this with rfl | rfl
   .show (decide (97<=o) && decide (97<=m))=true
    simp[hm,ho]
   .show (decide (97<=m) && decide (97<=o))=true
    simp[hm,ho]
theorem jd1{a m:Nat}(h:a < n)(h3:3<=n):jev (KL n a m o)=some m:=by
 obtain⟨r,e | e | e | e⟩:=jha (m:=m) (o:=o) h h3 <;> rw[e] <;> unfold jev
 .simp
 .simp
 .simp
 .simp
def kwL:List Str:=["is","at","row","least","each","rise",">=","<=","set","put","any","claim","call","if","while"]
def noL:List Str:=("" : Str) :: ("out" : Str) :: kwL
theorem jhh:∀k∈noL,k∈kw4\/gB k.cps.toList=false:=by decide +kernel
theorem jhg:∀k∈kw4,k++("x" : Str) ∉ noL:=by decide +kernel
theorem jct(c:Int):qm c ∉ noL:=by
 unfold qm;split
 .rename_i h
  exact jhg _ h
 .rename_i h
  intro h2;rcases jhh _ h2 with h3 | h3
  .exact h h3
  .have:=jg9 (m:=wM c) (o:=wO c) (Z4 c).1 (by unfold wM jbn;omega) (by unfold wO jbn;omega)
   rw[show (yi c).cps.toList=KL (wN c) (wA c) (wM c) (wO c) from rfl,this]at h3
   cases h3
theorem jaT(c:Int):(qm c).length<=8:=by
 obtain⟨h1,h2,h3⟩:=Z3 c;unfold qm;split
 .rw[zK,yG];show wN c+1<=8;omega
 .rw[yG];omega
theorem jfw:∀k∈kw4,k.length=2:=by decide +kernel
theorem Ys(h:c % 7=6):jev (qm c).cps.toList=some (wM c):=by
 have hn:wN c=7:=by unfold wN;omega
 have:yi c ∉ kw4:=fun h=>by
  have:=jfw _ h;rw[yG]at this;omega
 unfold qm;rw[WT this];exact jd1 (Z4 c).1 (by omega)
theorem jdn(c0:Int)(ws:List Str)(hl:ws.length<=11)(h:∀c,c0<=c->c < c0+250->qm c∈ws):False:=by
 have h0:=fu c0 (b:=7) (by decide);have h1:=gE c0 (b:=7) (by decide);have dv:∃B R:Int,B % 7=6/\c0<=B/\B<=c0+100/\0<=R/\∀i:Nat,i < 12->qQ (B+7 * (i:Int))=R+(i:Int):=by
  unfold qQ;by_cases hr:c0 / 7 % 1000000007+12<=1000000007
  .refine⟨c0+6 - c0 % 7,c0 / 7 % 1000000007,by omega,by omega,by omega,by omega,fun i hi=>?_⟩
   have:(c0+6 - c0 % 7+7 * (i:Int)) / 7=c0 / 7+(i:Int):=by omega
   rw[this];omega
  .refine⟨c0+90 - c0 % 7,c0 / 7 % 1000000007+12 - 1000000007,by omega,by omega,by omega,by omega,fun i hi=>?_⟩
   have:(c0+90 - c0 % 7+7 * (i:Int)) / 7=c0 / 7+12+(i:Int):=by omega
   rw[this];omega
 obtain⟨B,R,b1,b2,b3,r0,hB⟩:=dv;have nd:((cE 12).map fun i:Nat=>qm (B+7 * (i:Int))).Nodup:=by
  refine List.pairwise_map.mpr ?_;refine WI.imp_of_mem ?_ (Wn (n:=12));intro i j hi hj bM e;have hi:=p9.mp hi;have hj:=p9.mp hj;have e1:=Ys (c:=B+7 * (i:Int)) (by omega);have e2:=Ys (c:=B+7 * (j:Int)) (by omega);rw[e,e2]at e1;have e3:=eW e1;unfold wM jbn at e3;rw[hB i hi,hB j hj]at e3;have:=fu (R+(i:Int)) (b:=26) (by decide);have:=fu (R+(j:Int)) (b:=26) (by decide);omega
 have:=Je (m:=ws) nd (fun x hx=>by
  obtain⟨i,hi,rfl⟩:=ci.mp hx;have hi:=p9.mp hi;exact h _ (by omega) (by omega))
 rw[ax,tj]at this;omega
inductive spWords(K:aC)(vs:List V)(H:Hp)(Q:VK)(E:XK):Prop
 | mk (a:aa) (ns:List Int) (_:vs=[.ref a,.int 36,.int 11]) (_:(∀H',Same H H'->SqL K H' a (ns.map V.int))/\∀(l:aa) (ws:List Str) (H':Hp),ws.length=11->ws.Nodup->(∀x∈ws,x ∉ noL/\x.length<=8)->Same H H'->H' l=some (.lst (ws.map V.str))->Q (.ref l) H')
section
theorem jd5(F:Fun K "_law_words" "_law_words" ja1 f fd)(B:Free0 mg)(fV:Fn P w K mg base 1 "_law_cell" ["_law_script","_law_k"] (spCell K))(Aq:Fn P w K mg base 1 "_law_word" ["_law_cell_here"] jdE):FnOk P w K mg base CX0 2 f fd ["_law_script","_law_start","_law_many"] (spWords K):=by
 have sc:FnScope ["_law_script","_law_start","_law_many","_law_words_here","_law_k","_law_cell_here"] ["_law_script","_law_start","_law_many"] (jp ja1):=fQ;refine F.okZ sc (fun aH A outer s H vs Q E hr h=>?_);obtain⟨a,ns,rfl,hS,q⟩:=h;refine⟨_,(jg (ju (i:=3) sc.nd rfl oQ (jF jc))
   (jg (kg dF rfl (yV (by rfl) B.range_ (ja (zpv 2) jc)) (jt (i:=4) sc.nd rfl oQ) (jg (ju (i:=5) sc.nd rfl oQ (jA fV hr (ja (zpv 0) (ja (jn qp (zpv 1) (zpv 4)) jc))))
   (jg (JH dF (jx (Jd (K:=K)) (jA Aq hr (ja (zpv 5) jc)) (zpv 3) rfl) (jh (ju (i:=5) sc.nd rfl oQ (jn qp (zpv 5) jf))))
   (jh (jW (qu eD l_ l8 kK (zpv 3) (ja (jA Aq hr (ja (zpv 5) jc)) jc)))))))
   (jh (jv (zpv 3))))),?_⟩
 refine jP (σ':=[some (.ref a),some (.int 36),some (.int 11),none,none,none]) rfl ?_
 try dsimp only[j7]
 refine J5 ?_;intro _ _;refine⟨sm rfl,fun l hl=>?_⟩;have s1:=je hl (.lst []);have e1:upd H l (.lst []) l=some (.lst []):=jd;generalize upd H l (.lst [])=H1 at *;refine gQ ?_;refine⟨_,rfl,11,rfl,by decide,by decide,?_⟩;refine jc4 (n:=11) (fun i σ G=>∃(u4 u5:Option V) (ws:List Str),σ=[some (.ref a),some (.int 36),some (.int 11),some (.ref l),u4,u5]/\Same H G/\G l=some (.lst (ws.map V.str))/\ws.length=i/\ws.Nodup/\∀x∈ws,x ∉ noL/\x.length<=8) ⟨none,none,[],rfl,s1,e1,rfl,iY,fun _ z=>by cases z⟩ ?_ ?_
 .rintro i σ G hi ⟨u4,u5,ws,rfl,sG,hG,lw,nd,ok⟩
  refine yB ?_;intro _;refine gQ ?_;refine⟨_,rfl,_,rfl,_,rfl,_,_,rfl,rfl,a,ns,_,rfl,hS _ sG,by omega,by omega,fun c0=>?_⟩;refine gQ ?_;refine jdp (fun σ G'=>∃(c:Int),σ=[some (.ref a),some (.int 36),some (.int 11),some (.ref l),some (.int (0+(i:Int))),some (.int c)]/\Same G G'/\c0<=c/\∀c',c0<=c'->c' < c->qm c'∈ws)
   (fun σ _=>match σ with | [_,_,_,_,_,some (.int c)]=>(c0+250 - c).toNat | _=>0) ?_ ?_ ?_
  .exact⟨c0,rfl,Same.refl _,Int.le_refl _,fun _ _ _=>by omega⟩
  .rintro σ G' ⟨c,rfl,bC,hc,gU⟩
   refine⟨_,rfl,c,rfl,fun G2 s2=>?_⟩;have eZ:=bC.trans s2;refine⟨_,rfl,l,_,rfl,.inl (SqL.of (eZ _ _ hG)),rfl,qW _,_,rfl,jQ (fun d=>?_) (fun d=>?_)⟩
   .have d':inV (.str (qm c)) (ws.map V.str)=true:=d
    rw[qq]at d';have Su:=WP d';have x9:∀c',c0<=c'->c' < c+1->qm c'∈ws:=fun c' h1 h2=>by
     by_cases h:c' < c
     .exact gU c' h1 h
     .rw[show c'=c by omega];exact Su
    have bz:c < c0+250:=by
     by_cases h:c < c0+250
     .exact h
     .exact (jdn c0 ws (by omega) fun c' h1 h2=>gU c' h1 (by omega)).elim
    refine⟨_,rfl,_,_,rfl,rfl,⟨c+1,rfl,eZ,by omega,x9⟩,?_⟩;show (c0+250 - (c+1)).toNat < (c0+250 - c).toNat;omega
   .have d':¬inV (.str (qm c)) (ws.map V.str)=true:=d
    rw[qq]at d';have hn:qm c ∉ ws:=fun h=>d' (WQ h)
    refine⟨_,rfl,.inl ⟨rfl,_,SqL.of (eZ _ _ hG)⟩,_,rfl,c,rfl,fun G3 s3=>?_⟩;have tY:=eZ.trans s3;refine⟨l,_,_,rfl,rfl,tY _ _ hG,jz (by rw[ax];omega),_,_,ws++[qm c],rfl,fun z o e=>?_,?_,by rw[aG,lw];rfl,?_,fun x hx=>?_⟩
    .rw[jw (jr e hl)];exact tY _ _ (sG _ _ e)
    .rw[jd,aW];rfl
    .refine ia.mpr ⟨nd,by simp,fun x hx y hy=>?_⟩
     rw[aN.mp hy];intro e;rw[e]at hx;exact hn hx
    .rcases aT.mp hx with hx | hx
     .exact ok x hx
     .rw[aN.mp hx];exact⟨jct c,jaT c⟩
  .intro σ G1 Q1 Q2 hm h
   obtain⟨v1,e1,c,e2,h⟩:=h;refine⟨v1,e1,c,e2,fun G2 s2=>?_⟩;obtain⟨v2,e3,l',xs,e4,e5,e6,e7,k,e8,h⟩:=h G2 s2;exact⟨v2,e3,l',xs,e4,e5,e6,e7,k,e8,hm _ _ h⟩
 rintro σ G ⟨u4,u5,ws,rfl,sG,hG,lw,nd,ok⟩;exact⟨_,rfl,q l ws G lw nd ok sG hG⟩
end
abbrev ja5:aJ:=top 50
abbrev KI:aJ:=top 51
def NmL(kvs:List (Key×V))(N:Str->Str):Prop:=∀x:Str,(qt kvs (Sum.inr x)).getD (.str x)=.str (N x)
inductive spNamedL(vs:List V)(H:Hp)(Q:VK)(E:XK):Prop
 | mk (x:Str) (m:aa) (kvs:List (Key×V)) (N:Str->Str) (_:vs=[.ref m,.str x]) (_:H m=some (.dK kvs)) (_:NmL kvs N) (_:Q (.str (N x)) H)
inductive Sg where
 | tm (t:Tm) | bd (b:Bd)
def Sg.toD:Sg->D
 | .tm t=>t.toD
 | .bd b=>b.toD
def Sg.say(N:Str->Str):Sg->Sg
 | .tm t=>.tm (t.say N)
 | .bd b=>.bd (b.say N)
inductive spSaidS(vs:List V)(H:Hp)(Q:VK)(E:XK):Prop
 | mk (v:V) (p:Sg) (m:aa) (kvs:List (Key×V)) (N:Str->Str) (_:vs=[v,.ref m]) (_:Held H p.toD v) (_:H m=some (.dK kvs)) (_:NmL kvs N) (_:∀r H',Same H H'->Held H' (p.say N).toD r->Q r H')
inductive spSaidC(vs:List V)(H:Hp)(Q:VK)(E:XK):Prop
 | mk (v:V) (p:Cl) (m:aa) (kvs:List (Key×V)) (N:Str->Str) (_:vs=[v,.ref m]) (_:Held H p.toD v) (_:H m=some (.dK kvs)) (_:NmL kvs N) (_:∀r H',Same H H'->Held H' (p.say N).toD r->Q r H')
section
theorem jcK(F:Fun K "_law_named" "_law_named" ja5 f fd):FnOk P w K mg base CX0 1 f fd ["_law_names","_law_word_here"] spNamedL:=by
 have sc:FnScope ["_law_names","_law_word_here"] ["_law_names","_law_word_here"] (jp ja5):=fQ;refine F.okZ sc (fun aH A outer s H vs Q E hr h=>?_);obtain⟨x,m,kvs,N,rfl,hm,o,q⟩:=h;have hu:=jb4 hr;refine⟨_,(jh (jv (Yq hu (zpv 0) (zpv 1) (zpv 1) ⟨rfl,rfl,rfl,rfl⟩))),?_⟩
 try dsimp only[j7]
 refine⟨_,rfl,m,rfl,.inl ⟨kvs,.inl hm⟩,_,rfl,_,rfl,_,DGet.k (k:=Sum.inr x) hm,?_⟩;rw[o x];exact q
theorem jec(F:Fun K "_law_said" "_law_said" KI f fd)(eR:Fn P w K mg base 1 "_law_named" ["_law_names","_law_word_here"] spNamedL):FnOk P w K mg base CX0 2 f fd ["_law_thing","_law_names"] spSaidS:=by
 have sc:FnScope ["_law_thing","_law_names","_law_t","_law_u","_law_r"] ["_law_thing","_law_names"] (jp KI):=fQ;refine F.okZ sc (fun aH A outer s H vs Q E hr h=>?_);obtain⟨v,p,m,kvs,N,rfl,hx,hm,o,q⟩:=h;refine⟨_,(jg (jJ (Kq (jx j4 (jk jq (zpv 0) jf (fun _ _=>rfl)) jm (jB _)) (Ji (jx j4 (jk jq (zpv 0) jf (fun _ _=>rfl)) jm (jB _)))).pt (jh (jv (js (ja (jk jq (zpv 0) jf (fun _ _=>rfl)) (ja (jA eR hr (ja (zpv 1) (ja (jk jq (zpv 0) jf (fun _ _=>rfl)) jc))) jc))))) jC)
   (jg (jJ (jx j4 (jk jq (zpv 0) jf (fun _ _=>rfl)) jm (jB _)) (jh (jv (js (ja jm (ja (jA eR hr (ja (zpv 1) (ja (jk jq (zpv 0) jf (fun _ _=>rfl)) jc))) (ja (js (ja (jA eR hr (ja (zpv 1) (ja (jk jq (jk jq (zpv 0) jf (fun _ _=>rfl)) jf (fun _ _=>rfl)) jc))) (ja (jk jq (jk jq (zpv 0) jf (fun _ _=>rfl)) jf (fun _ _=>rfl)) jc))) jc)))))) jC)
   (jg (jJ (jx j4 (jk jq (zpv 0) jf (fun _ _=>rfl)) jm (jB _)) (jh (jv (js (ja jm (ja kW (ja kW (ja (jk jq (zpv 0) jf (fun _ _=>rfl)) jc))))))) jC)
   (jg (ju (i:=2) sc.nd rfl oQ (js (ja (jA eR hr (ja (zpv 1) (ja (jk jq (jk jq (zpv 0) jf (fun _ _=>rfl)) jf (fun _ _=>rfl)) jc))) (ja (jk jq (jk jq (zpv 0) jf (fun _ _=>rfl)) jf (fun _ _=>rfl)) jc))))
   (jg (ju (i:=3) sc.nd rfl oQ (js (ja (jA eR hr (ja (zpv 1) (ja (jk jq (jk jq (zpv 0) jf (fun _ _=>rfl)) jf (fun _ _=>rfl)) jc))) (ja (jk jq (jk jq (zpv 0) jf (fun _ _=>rfl)) jf (fun _ _=>rfl)) jc))))
   (jg (ju (i:=4) sc.nd rfl oQ (jA eR hr (ja (zpv 1) (ja (jk jq (zpv 0) jf (fun _ _=>rfl)) jc))))
   (jg (jJ (jx j4 (jk jq (zpv 0) jf (fun _ _=>rfl)) jm (jB _)) (jh (jv (js (ja jm (ja (zpv 2) (ja (zpv 3) (ja (zpv 4) jc))))))) jC)
   (jh (jv (js (ja jm (ja (zpv 2) (ja (zpv 3) (ja (zpv 4) (ja (jk jq (zpv 0) jf (fun _ _=>rfl)) (ja kW (ja (jk jq (zpv 0) jf (fun _ _=>rfl)) jc))))))))))))))))),?_⟩
 refine jP (σ':=[some v,some (.ref m),none,none,none]) rfl ?_
 try dsimp only[j7]
 refine jeF ?_;intro _ _ _ _ _ _ _
 cases p with
 | tm t=>
  cases t with
  | is y=>
   obtain⟨a,rfl,ha⟩:=qK hx;refine⟨_,rfl,a,_,_,_,rfl,rfl,SqT.of ha,rfl,rfl,_,rfl,qB ?_⟩;refine⟨_,rfl,a,_,_,_,rfl,rfl,SqT.of ha,rfl,_,rfl,_,rfl,a,_,_,_,rfl,rfl,SqT.of ha,rfl,y,m,kvs,N,rfl,hm,o,sm rfl,fun r bL=>?_⟩;exact q _ _ (je bL _) (jo jd (jb jl (jb jl jj)))
  | at_ r x d=>
   obtain⟨a,b,rfl,ha,hb⟩:=jbA hx;refine⟨_,rfl,a,_,_,_,rfl,rfl,SqT.of ha,rfl,rfl,_,rfl,qU ?_⟩;refine⟨_,rfl,a,_,_,_,rfl,rfl,SqT.of ha,rfl,rfl,_,rfl,qU ?_⟩;refine⟨_,rfl,a,_,_,_,rfl,rfl,SqT.of ha,rfl,rfl,_,rfl,qB ?_⟩;refine⟨_,rfl,_,rfl,a,_,_,_,rfl,rfl,SqT.of ha,rfl,r,m,kvs,N,rfl,hm,o,_,rfl,_,rfl,a,_,_,_,rfl,rfl,SqT.of ha,rfl,b,_,_,_,rfl,rfl,SqT.of hb,rfl,x,m,kvs,N,rfl,hm,o,?_⟩;refine⟨_,rfl,a,_,_,_,rfl,rfl,SqT.of ha,rfl,b,_,_,_,rfl,rfl,SqT.of hb,rfl,sm rfl,fun z1 ir=>?_⟩;have s1:=je ir (.tup [V.str (N x),.int d]);have e1:upd H z1 (.tup [V.str (N x),.int d]) z1=some (.tup [V.str (N x),.int d]):=jd;generalize upd H z1 (.tup [V.str (N x),.int d])=H1 at *;refine⟨sm rfl,fun z hz=>?_⟩;have s2:=je hz (.tup [V.str "at",.str (N r),.ref z1]);exact q _ _ (s1.trans s2) (jo jd (jb jl (jb jl (jb (jo (s2 _ _ e1) (jb jl (jb jX jj))) jj))))
 | bd b=>
  cases b with
  | is y=>
   obtain⟨a,rfl,ha⟩:=qK hx;refine⟨_,rfl,a,_,_,_,rfl,rfl,SqT.of ha,rfl,rfl,_,rfl,qB ?_⟩;refine⟨_,rfl,a,_,_,_,rfl,rfl,SqT.of ha,rfl,_,rfl,_,rfl,a,_,_,_,rfl,rfl,SqT.of ha,rfl,y,m,kvs,N,rfl,hm,o,sm rfl,fun r bL=>?_⟩;exact q _ _ (je bL _) (jo jd (jb jl (jb jl jj)))
  | row y=>
   obtain⟨a,rfl,ha⟩:=qK hx;refine⟨_,rfl,a,_,_,_,rfl,rfl,SqT.of ha,rfl,rfl,_,rfl,qU ?_⟩;refine⟨_,rfl,a,_,_,_,rfl,rfl,SqT.of ha,rfl,rfl,_,rfl,qB ?_⟩;refine⟨_,rfl,a,_,_,_,rfl,rfl,SqT.of ha,rfl,_,rfl,_,rfl,a,_,_,_,rfl,rfl,SqT.of ha,rfl,y,m,kvs,N,rfl,hm,o,sm rfl,fun r bL=>?_⟩;exact q _ _ (je bL _) (jo jd (jb jl (jb jl jj)))
theorem jed(F:Fun K "_law_said" "_law_said" KI f fd)(eR:Fn P w K mg base 1 "_law_named" ["_law_names","_law_word_here"] spNamedL)(iS:Fn P w K mg base 2 "_law_said" ["_law_thing","_law_names"] spSaidS):FnOk P w K mg base CX0 3 f fd ["_law_thing","_law_names"] spSaidC:=by
 have sc:FnScope ["_law_thing","_law_names","_law_t","_law_u","_law_r"] ["_law_thing","_law_names"] (jp KI):=fQ;refine F.okZ sc (fun aH A outer s H vs Q E hr h=>?_);obtain⟨v,p,m,kvs,N,rfl,hx,hm,o,q⟩:=h;refine⟨_,(jg (jJ (Kq (jx j4 (jk jq (zpv 0) jf (fun _ _=>rfl)) jm (jB _)) (Ji (jx j4 (jk jq (zpv 0) jf (fun _ _=>rfl)) jm (jB _)))).pt (jh (jv (js (ja (jk jq (zpv 0) jf (fun _ _=>rfl)) (ja (jA eR hr (ja (zpv 1) (ja (jk jq (zpv 0) jf (fun _ _=>rfl)) jc))) jc))))) jC)
   (jg (jJ (jx j4 (jk jq (zpv 0) jf (fun _ _=>rfl)) jm (jB _)) (jh (jv (js (ja jm (ja (jA eR hr (ja (zpv 1) (ja (jk jq (zpv 0) jf (fun _ _=>rfl)) jc))) (ja (js (ja (jA eR hr (ja (zpv 1) (ja (jk jq (jk jq (zpv 0) jf (fun _ _=>rfl)) jf (fun _ _=>rfl)) jc))) (ja (jk jq (jk jq (zpv 0) jf (fun _ _=>rfl)) jf (fun _ _=>rfl)) jc))) jc)))))) jC)
   (jg (jJ (jx j4 (jk jq (zpv 0) jf (fun _ _=>rfl)) jm (jB _)) (jh (jv (js (ja jm (ja (jA iS hr (ja (jk jq (zpv 0) jf (fun _ _=>rfl)) (ja (zpv 1) jc))) (ja (jA iS hr (ja (jk jq (zpv 0) jf (fun _ _=>rfl)) (ja (zpv 1) jc))) (ja (jk jq (zpv 0) jf (fun _ _=>rfl)) jc))))))) jC)
   (jg (ju (i:=2) sc.nd rfl oQ (js (ja (jA eR hr (ja (zpv 1) (ja (jk jq (jk jq (zpv 0) jf (fun _ _=>rfl)) jf (fun _ _=>rfl)) jc))) (ja (jk jq (jk jq (zpv 0) jf (fun _ _=>rfl)) jf (fun _ _=>rfl)) jc))))
   (jg (ju (i:=3) sc.nd rfl oQ (js (ja (jA eR hr (ja (zpv 1) (ja (jk jq (jk jq (zpv 0) jf (fun _ _=>rfl)) jf (fun _ _=>rfl)) jc))) (ja (jk jq (jk jq (zpv 0) jf (fun _ _=>rfl)) jf (fun _ _=>rfl)) jc))))
   (jg (ju (i:=4) sc.nd rfl oQ (jA eR hr (ja (zpv 1) (ja (jk jq (zpv 0) jf (fun _ _=>rfl)) jc))))
   (jg (jJ (jx j4 (jk jq (zpv 0) jf (fun _ _=>rfl)) jm (jB _)) (jh (jv (js (ja jm (ja (zpv 2) (ja (zpv 3) (ja (zpv 4) jc))))))) jC)
   (jh (jv (js (ja jm (ja (zpv 2) (ja (zpv 3) (ja (zpv 4) (ja (jk jq (zpv 0) jf (fun _ _=>rfl)) (ja (jA iS hr (ja (jk jq (zpv 0) jf (fun _ _=>rfl)) (ja (zpv 1) jc))) (ja (jk jq (zpv 0) jf (fun _ _=>rfl)) jc))))))))))))))))),?_⟩
 refine jP (σ':=[some v,some (.ref m),none,none,none]) rfl ?_
 try dsimp only[j7]
 refine jeF ?_;intro _ _ _ _ _ _ _
 cases p with
 | least ta tb c=>
  obtain⟨a,va,vb,rfl,ha,h1,h2⟩:=zR hx;refine⟨_,rfl,a,_,_,_,rfl,rfl,SqT.of ha,rfl,rfl,_,rfl,qU ?_⟩;refine⟨_,rfl,a,_,_,_,rfl,rfl,SqT.of ha,rfl,rfl,_,rfl,qU ?_⟩;refine⟨_,rfl,a,_,_,_,rfl,rfl,SqT.of ha,rfl,rfl,_,rfl,qU ?_⟩;refine⟨_,rfl,a,_,_,_,rfl,rfl,SqT.of ha,rfl,rfl,_,rfl,qB ?_⟩;refine⟨_,rfl,a,_,_,_,rfl,rfl,SqT.of ha,rfl,_,rfl,va,.tm ta,m,kvs,N,rfl,h1,hm,o,fun u H2 s2 g2=>?_⟩;refine⟨_,rfl,a,_,_,_,rfl,rfl,SqT.of (s2 _ _ ha),rfl,_,rfl,vb,.tm tb,m,kvs,N,rfl,h2.mono s2,s2 _ _ hm,o,fun u' H3 s3 g3=>?_⟩;have j_:=s2.trans s3;refine⟨_,rfl,a,_,_,_,rfl,rfl,SqT.of (j_ _ _ ha),rfl,sm rfl,fun z hz=>?_⟩;have s4:=je hz (.tup [V.str "least",u,u',V.int c]);exact q _ _ (j_.trans s4) (jo jd (jb jl (jb (g2.mono (s3.trans s4)) (jb (g3.mono s4) (jb jX jj)))))
 | rise t td u ud r=>
  obtain⟨a,dr,au,rfl,ha,gh,mE⟩:=KK hx;refine⟨_,rfl,a,_,_,_,rfl,rfl,SqT.of ha,rfl,rfl,_,rfl,qU ?_⟩;refine⟨_,rfl,a,_,_,_,rfl,rfl,SqT.of ha,rfl,rfl,_,rfl,qU ?_⟩;refine⟨_,rfl,a,_,_,_,rfl,rfl,SqT.of ha,rfl,rfl,_,rfl,qU ?_⟩;refine⟨_,rfl,a,_,_,_,rfl,rfl,SqT.of ha,rfl,rfl,_,rfl,qU ?_⟩;refine⟨_,rfl,_,rfl,a,_,_,_,rfl,rfl,SqT.of ha,rfl,dr,_,_,_,rfl,rfl,SqT.of gh,rfl,t,m,kvs,N,rfl,hm,o,_,rfl,a,_,_,_,rfl,rfl,SqT.of ha,rfl,dr,_,_,_,rfl,rfl,SqT.of gh,rfl,sm rfl,fun z1 ir=>?_⟩;have s1:=je ir (.tup [V.str (N t),.int td]);have e1:upd H z1 (.tup [V.str (N t),.int td]) z1=some (.tup [V.str (N t),.int td]):=jd;generalize upd H z1 (.tup [V.str (N t),.int td])=H1 at *;refine gQ ?_;refine⟨_,rfl,_,rfl,a,_,_,_,rfl,rfl,SqT.of (s1 _ _ ha),rfl,au,_,_,_,rfl,rfl,SqT.of (s1 _ _ mE),rfl,u,m,kvs,N,rfl,s1 _ _ hm,o,_,rfl,a,_,_,_,rfl,rfl,SqT.of (s1 _ _ ha),rfl,au,_,_,_,rfl,rfl,SqT.of (s1 _ _ mE),rfl,sm rfl,fun z2 uE=>?_⟩;have s2:=je uE (.tup [V.str (N u),.int ud]);have e2:upd H1 z2 (.tup [V.str (N u),.int ud]) z2=some (.tup [V.str (N u),.int ud]):=jd;generalize upd H1 z2 (.tup [V.str (N u),.int ud])=H2 at *;have aQ:=s1.trans s2;refine gQ ?_;refine⟨_,rfl,_,rfl,a,_,_,_,rfl,rfl,SqT.of (aQ _ _ ha),rfl,r,m,kvs,N,rfl,aQ _ _ hm,o,?_⟩;refine gQ ?_;refine⟨_,rfl,a,_,_,_,rfl,rfl,SqT.of (aQ _ _ ha),rfl,rfl,_,rfl,qB ?_⟩;refine⟨_,rfl,_,rfl,_,rfl,sm rfl,fun z hz=>?_⟩;have s3:=je hz (.tup [V.str "rise",.ref z1,.ref z2,.str (N r)]);exact q _ _ (aQ.trans s3) (jo jd (jb jl (jb (jo ((s2.trans s3) _ _ e1) (jb jl (jb jX jj))) (jb (jo (s3 _ _ e2) (jb jl (jb jX jj))) (jb jl jj)))))
 | each t td u ud r way b c=>
  have O5:∃vb,Held H b.toD vb/\∃a dr au,v=.ref a/\H a=some (.tup [.str "each",.ref dr,.ref au,.str r,.str way,vb,.int c])/\H dr=some (.tup [.str t,.int td])/\H au=some (.tup [.str u,.int ud]):=by
   obtain⟨t',xs,rfl,ht,h1⟩:=jE hx;obtain⟨v1,r1,rfl,e1,h2⟩:=ji h1;obtain⟨v2,r2,rfl,e2,h3⟩:=ji h2;obtain⟨v3,r3,rfl,e3,h4⟩:=ji h3;obtain⟨v4,r4,rfl,e4,h5⟩:=ji h4;obtain⟨v5,r5,rfl,e5,h6⟩:=ji h5;obtain⟨v6,r6,rfl,e6,h7⟩:=ji h6;obtain⟨v7,r7,rfl,e7,h8⟩:=ji h7
   cases jK h8
   cases jD e1
   cases jD e4
   cases jD e5
   cases qe e7
   obtain⟨a',rfl,nT⟩:=zZ e2;obtain⟨b',rfl,bQ⟩:=zZ e3;exact⟨v6,e6,t',a',b',rfl,ht,nT,bQ⟩
  obtain⟨vb,iw,a,dr,au,rfl,ha,gh,mE⟩:=O5;refine⟨_,rfl,a,_,_,_,rfl,rfl,SqT.of ha,rfl,rfl,_,rfl,qU ?_⟩;refine⟨_,rfl,a,_,_,_,rfl,rfl,SqT.of ha,rfl,rfl,_,rfl,qU ?_⟩;refine⟨_,rfl,a,_,_,_,rfl,rfl,SqT.of ha,rfl,rfl,_,rfl,qU ?_⟩;refine⟨_,rfl,a,_,_,_,rfl,rfl,SqT.of ha,rfl,rfl,_,rfl,qU ?_⟩;refine⟨_,rfl,_,rfl,a,_,_,_,rfl,rfl,SqT.of ha,rfl,dr,_,_,_,rfl,rfl,SqT.of gh,rfl,t,m,kvs,N,rfl,hm,o,_,rfl,a,_,_,_,rfl,rfl,SqT.of ha,rfl,dr,_,_,_,rfl,rfl,SqT.of gh,rfl,sm rfl,fun z1 ir=>?_⟩;have s1:=je ir (.tup [V.str (N t),.int td]);have e1:upd H z1 (.tup [V.str (N t),.int td]) z1=some (.tup [V.str (N t),.int td]):=jd;generalize upd H z1 (.tup [V.str (N t),.int td])=H1 at *;refine gQ ?_;refine⟨_,rfl,_,rfl,a,_,_,_,rfl,rfl,SqT.of (s1 _ _ ha),rfl,au,_,_,_,rfl,rfl,SqT.of (s1 _ _ mE),rfl,u,m,kvs,N,rfl,s1 _ _ hm,o,_,rfl,a,_,_,_,rfl,rfl,SqT.of (s1 _ _ ha),rfl,au,_,_,_,rfl,rfl,SqT.of (s1 _ _ mE),rfl,sm rfl,fun z2 uE=>?_⟩;have s2:=je uE (.tup [V.str (N u),.int ud]);have e2:upd H1 z2 (.tup [V.str (N u),.int ud]) z2=some (.tup [V.str (N u),.int ud]):=jd;generalize upd H1 z2 (.tup [V.str (N u),.int ud])=H2 at *;have aQ:=s1.trans s2;refine gQ ?_;refine⟨_,rfl,_,rfl,a,_,_,_,rfl,rfl,SqT.of (aQ _ _ ha),rfl,r,m,kvs,N,rfl,aQ _ _ hm,o,?_⟩;refine gQ ?_;refine⟨_,rfl,a,_,_,_,rfl,rfl,SqT.of (aQ _ _ ha),rfl,rfl,_,rfl,qU ?_⟩;refine⟨_,rfl,_,rfl,_,rfl,?_⟩;refine⟨_,rfl,a,_,_,_,rfl,rfl,SqT.of (aQ _ _ ha),rfl,_,rfl,a,_,_,_,rfl,rfl,SqT.of (aQ _ _ ha),rfl,_,rfl,vb,.bd b,m,kvs,N,rfl,iw.mono aQ,aQ _ _ hm,o,fun y3 H3 s3 g3=>?_⟩;have bG:=aQ.trans s3;refine⟨_,rfl,a,_,_,_,rfl,rfl,SqT.of (bG _ _ ha),rfl,sm rfl,fun z hz=>?_⟩;have s4:=je hz (.tup [V.str "each",.ref z1,.ref z2,.str (N r),.str way,y3,.int c]);have t_:=s3.trans s4;exact q _ _ (bG.trans s4) (jo jd (jb jl (jb (jo ((s2.trans t_) _ _ e1) (jb jl (jb jX jj))) (jb (jo (t_ _ _ e2) (jb jl (jb jX jj))) (jb jl (jb jl (jb (g3.mono s4) (jb jX jj))))))))
end
structure NmP(kvs:List (Key×V))(g:Str)(p:Pc)(i:Nat):Prop where
 v:∀x:Str,qt kvs (Sum.inr x)=if x∈p.ps.take i then some (.str (qj g x)) else if x = "" then some (.str "") else none
 l:kvs.length<=1+i
structure NmR(kvs:List (Key×V))(g:Str)(p:Pc)(rows:List Str)(j:Nat):Prop where
 v:∀x:Str,qt kvs (Sum.inr x)=match ((p.rs.take j).zip (rows.take j)).lookup x with
  | some r=>some (.str r)
  | none=>if x∈p.ps then some (.str (qj g x)) else if x = "" then some (.str "") else none
 l:kvs.length<=7+j
theorem NmP.put(h:NmP kvs g p i)(hi:i < p.ps.length):NmP (kq kvs (Sum.inr p.ps[i]) (.str (qj g p.ps[i]))) g p (i+1):=by
 refine⟨fun z=>?_,by have:=Js kvs (Sum.inr p.ps[i]) (.str (qj g p.ps[i]));have:=h.l;omega⟩;have hm:z∈p.ps.take (i+1)↔z∈p.ps.take i\/z=p.ps[i]:=by
  rw[show p.ps.take (i+1)=p.ps.take i++[p.ps[i]] by rw[bP,aI hi];rfl,aT,aN]
 rw[qJ];by_cases hz:z=p.ps[i]
 .rw[WU (by rw[hz]),WU (hm.mpr (.inr hz)),hz]
 .rw[WT (fun e=>hz (mT e)),h.v z]
  by_cases hp:z∈p.ps.take i
  .rw[WU hp,WU (hm.mpr (.inl hp))]
  .rw[WT hp,WT (fun e=>(hm.mp e).elim hp hz)]
theorem NmP.toR(h:NmP kvs g p i)(hi:p.ps.length<=i)(h6:i<=6)(rows:List Str):NmR kvs g p rows 0:=by
 refine⟨fun x=>?_,by have:=h.l;omega⟩;rw[h.v,wr hi];rfl
theorem jat{l:List (Str×Str)}{r y:Str}(x:Str)(hn:l.lookup r=none):(l++[(r,y)]).lookup x=if x=r then some y else l.lookup x:=by
 induction l with
 | nil=>
  rw[sZ,gD];by_cases h:x=r
  .subst h;simp
  .have:(x == r)=false:=by simpa using h
   rw[this,WT h]
 | cons q l ih=>
  rw[gD]at hn;rw[rb,gD,gD];by_cases hq:r=q.1
  .have:(r == q.1)=true:=by simpa using hq
   rw[this]at hn
   cases hn
  .have o7:(r == q.1)=false:=by simpa using hq
   rw[o7]at hn;by_cases h:x=q.1
   .have hx:(x == q.1)=true:=by simpa using h
    rw[hx,WT (fun z=>hq (by rw[<- z];exact h))]
   .have hx:(x == q.1)=false:=by simpa using h
    rw[hx];exact ih hn
variable {x:Str}
theorem J3{ks vs:List Str}(h:x ∉ ks):(ks.zip vs).lookup x=none:=by
 induction ks generalizing vs with
 | nil=>simp
 | cons k ks ih=>
  cases vs with
  | nil=>simp
  | cons v vs=>
   rw[M4,gD];have:(x == k)=false:=by simpa using fun z=>h (by rw[z];exact bt)
   rw[this];exact ih fun z=>h (aZ _ z)
theorem jbm{ks vs:List Str}{r:Str}(h:(ks.zip vs).lookup x=some r):x∈ks:=by
 by_cases hx:x∈ks
 .exact hx
 .rw[J3 hx]at h;cases h
theorem NmR.put{rows:List Str}{j:Nat}(h:NmR kvs g p rows j)(nd:p.rs.Nodup)(hj:j < p.rs.length)(Q0:j < rows.length):NmR (kq kvs (Sum.inr p.rs[j]) (.str rows[j])) g p rows (j+1):=by
 refine⟨fun z=>?_,by have:=Js kvs (Sum.inr p.rs[j]) (.str rows[j]);have:=h.l;omega⟩;have hn:p.rs[j] ∉ p.rs.take j:=by
  intro hm;obtain⟨k,hk,e⟩:=AW.mp hm;rw[bK]at hk;rw[EZ]at e;exact (EV.mp nd) k j (by omega) hj (by omega) e
 rw[show p.rs.take (j+1)=p.rs.take j++[p.rs[j]] by rw[bP,aI hj];rfl,show rows.take (j+1)=rows.take j++[rows[j]] by rw[bP,aI Q0];rfl,EU (by rw[bK,bK];omega),show [p.rs[j]].zip [rows[j]]=[(p.rs[j],rows[j])] from rfl,jat z (J3 hn),qJ];by_cases hz:z=p.rs[j]
 .rw[WU (by rw[hz]),WU hz]
 .rw[WT (fun e=>hz (mT e)),WT hz,h.v z]
structure NoClash(p:Pc):Prop where
 pe:("" : Str) ∉ p.ps
 re:("" : Str) ∉ p.rs
 ap:∀x∈p.ps,x ∉ p.rs
theorem NmR.ok{rows:List Str}{j:Nat}(h:NmR kvs g p rows j)(hp:p.rs.length<=j)(hr:rows.length<=j)(nc:NoClash p):NmL kvs (zC g p rows):=by
 intro x;rw[h.v,wr hp,wr hr];unfold zC
 cases e:(p.rs.zip rows).lookup x with
 | some r=>
  have hm:=jbm e;dsimp only;rw[WT (fun z=>nc.re (by rw[<- z];exact hm)),WT (fun z=>nc.ap x z hm)];rfl
 | none=>
  by_cases hx:x∈p.ps
  .dsimp only
   rw[WU hx,WT (fun z=>nc.pe (by rw[<- z];exact hx)),WU hx];rfl
  .dsimp only
   rw[WT hx];by_cases he:x = ""
   .rw[WU he,WU he];rfl
   .rw[WT he,WT he,WT hx];rfl
theorem NmL.out{rows:List Str}(h:NmL kvs (zC g p rows))(x0:Str):NmL (kq kvs (Sum.inr "out") (.str x0)) (JD g p rows x0):=by
 intro x;rw[qJ];unfold JD;by_cases hp:x = "out"
 .rw[WU hp,WU (by rw[hp])];rfl
 .rw[WT hp,WT (fun z=>hp (mT z))]
  exact h x
theorem jhN(g:Str)(p:Pc):NmP [(Sum.inr "",V.str "")] g p 0:=by
 refine⟨fun x=>?_,aL _⟩;rw[eX,WT wt];by_cases h:x = ""
 .rw[WU h,h,kX rfl]
 .rw[WT h,kY (fun z=>h (mT z).symm),jdv]
abbrev ja4:aJ:=top 44
abbrev KH:aJ:=top 47
abbrev jbO:aJ:=top 49
abbrev jdJ:aJ:=top 48
theorem WayL.keepO{G G':Hp}{ml l:aa}:∀{ws:List (List D)} {as:List aa},WayL G ml ws as->(∀b o,b≠l->G b=some o->G' b=some o)->TK G G'->l ∉ as->WayL G' ml ws as
 | [],[],_,_,_,_=>trivial
 | w :: ws,a :: as,hd,k,tk,nl=>by
  obtain⟨⟨m1,cG,m2,m3⟩,m4⟩:=hd;exact⟨⟨m1,cG,k _ _ (fun z=>nl (by rw[z];exact bt)) m2,tk.heldL m3⟩,WayL.keepO m4 k tk fun z=>nl (aZ _ z)⟩
 | [],_ :: _,hd,_,_,_=>hd.elim
 | _ :: _,[],hd,_,_,_=>hd.elim
inductive spOrder(vs:List V)(H:Hp)(Q:VK)(E:XK):Prop
 | mk (b:aa) (c:Int) (r0 r1:Str) (_:vs=[.ref b,.int c]) (_:H b=some (.lst [.str r0,.str r1])) (_:∀(t:aa) (rs:List Str) (H':Hp),(rs=[r0,r1]\/rs=[r1,r0])->Same H H'->H' t=some (.tup (rs.map V.str))->Q (.ref t) H')
inductive spBehL(vs:List V)(H:Hp)(Q:VK)(E:XK):Prop
 | mk (wy ml:aa) (v:V) (d:D) (was:List aa) (ms:List V) (aq:List (List D)) (_:vs=[.ref wy,v]) (_:H wy=some (.lst (was.map V.ref))) (_:H ml=some (.lst ms)) (_:WayL H ml aq was) (_:Held H d v) (_:aq.length<=40) (_:(∀w∈aq,w.length+1<=900)/\∀l as H',Same H H'->H l=none->H' l=some (.lst (as.map V.ref))->WayL H' ml (aq.map (·++[d])) as->Q (.ref l) H')
inductive spNoteB(b:Bool)(vs:List V)(H:Hp)(Q:VK)(E:XK):Prop
 | mk (dl hd pt wy ca:aa) (was:List aa) (f kind:Str) (ms cs:List V) (path:List Int) (aq:List (List D)) (Cs:List Cl) (_:vs=[.ref dl,.ref hd,.ref ca,.ref wy]) (_:H hd=some (.tup [.str f,.str kind,.ref pt])) (_:H dl=some (.lst ms)) (_:H pt=some (.tup (path.map V.int))) (_:H wy=some (.lst (was.map V.ref))) (_:WayL H dl aq was) (_:H ca=some (cond b (.tup cs) (.lst cs))) (_:HeldL H (Cs.map Cl.toD) cs) (_:wy≠dl) (_:ca≠dl) (_:aq.length<=40) (_:ms.length+aq.length * Cs.length<=9000) (_:∀aK aD H',(∀b o,b≠dl->H b=some o->H' b=some o)->H' dl=some (.lst (ms++aK))->DutsAt H' (ki f kind path aq Cs) aK aD->aD.Nodup->(∀x∈aD,H x=none)->Q .non H')
section
theorem jeh(F:Fun K "_law_order" "_law_order" ja4 f fd)(B:Free0 mg):FnOk P w K mg base CX0 1 f fd ["_law_rows","_law_cell_here"] spOrder:=by
 have sc:FnScope ["_law_rows","_law_cell_here"] ["_law_rows","_law_cell_here"] (jp ja4):=fQ;refine F.okZ sc (fun aH A outer s H vs Q E hr h=>?_);obtain⟨b,c,r0,r1,rfl,hb,q⟩:=h;refine⟨_,(jg (jJ (jx j4 (jn jZ (zpv 1) jf) jf (jB _)) (jh (jv (js (ja (jk jS (zpv 0) jf (fun _ _=>rfl)) (ja (jk jS (zpv 0) jf (fun _ _=>rfl)) jc))))) jC)
   (jh (jv (qI kR (by rfl) B.tuple_ zd (ja (zpv 0) jc))))),?_⟩
 refine jP (σ':=[some (.ref b),some (.int c)]) rfl ?_
 try dsimp only[j7]
 refine⟨_,rfl,c,2,rfl,rfl,(show (0:Int) < 2 by decide),rfl,_,rfl,jQ (fun d=>?_) (fun d=>?_)⟩
 .refine⟨_,rfl,b,_,_,_,rfl,rfl,SqL.of hb,rfl,_,rfl,b,_,_,_,rfl,rfl,SqL.of hb,rfl,sm rfl,fun t ht=>?_⟩
  exact q t [r1,r0] _ (.inr rfl) (je ht _) jd
 .refine⟨_,rfl,b,_,rfl,.inl ⟨SqL.of hb,fun t ht=>?_⟩⟩
  exact q t [r0,r1] _ (.inl rfl) (je ht _) jd
theorem jbf(F:Fun K "_law_turned" "_law_turned" KH f fd):FnOk P w K mg base CX0 1 f fd ["_law_least"] spTurned:=by
 have sc:FnScope ["_law_least"] ["_law_least"] (jp KH):=fQ;refine F.okZ sc (fun aH A outer s H vs Q E hr h=>?_);obtain⟨v,a,b,c,rfl,hv,q⟩:=h;refine⟨_,(jh (jv (js (ja jm (ja (jk jq (zpv 0) jf (fun _ _=>rfl)) (ja (jk jq (zpv 0) jf (fun _ _=>rfl)) (ja (jn Zm jf (jk jq (zpv 0) jf (fun _ _=>rfl))) jc))))))),?_⟩;refine jP (σ':=[some v]) rfl ?_
 try dsimp only[j7]
 obtain⟨t,va,vb,rfl,ht,ha,hb⟩:=zR hv;refine⟨_,rfl,t,_,_,_,rfl,rfl,SqT.of ht,rfl,_,rfl,t,_,_,_,rfl,rfl,SqT.of ht,rfl,_,rfl,t,_,_,_,rfl,rfl,SqT.of ht,rfl,_,_,rfl,rfl,sm rfl,fun z hz=>?_⟩;have s1:=je hz (.tup [V.str "least",vb,va,.int (1 - c)]);exact q _ _ s1 (jo jd (jb jl (jb (hb.mono s1) (jb (ha.mono s1) (jb jX jj)))))
theorem jfr(F:Fun K "_law_behind" "_law_behind" jbO f fd):FnOk P w K mg base CX0 1 f fd ["_law_ways","_law_row"] spBehL:=by
 have sc:FnScope ["_law_ways","_law_row"] ["_law_ways","_law_row"] (jp jbO):=fQ;refine F.okZ sc (fun aH A outer s H vs Q E hr h=>?_);obtain⟨wy,ml,v,d,was,ms,aq,rfl,hwy,hml,hW,hv,mJ,hlen,q⟩:=h;have mv:=hW.len;refine⟨_,(jh (jv (kM ["_law_way"] [1] rfl (ku (sc:=jp jbO) (N:=["_law_ways","_law_row"]) rfl rfl (by decide +kernel)) (ql (zpv 0)) (fun s H ex=>⟨(jt (i:=0) (show dk (["_law_way","_law_row"]:List Str) by decide +kernel) rfl oQ),kD,(jn kd (zpv 0) (jF (ja (zpv 1) jc)))⟩)))),?_⟩;refine jP (σ':=[some (.ref wy),some v]) rfl ?_
 try dsimp only[j7]
 refine⟨_,rfl,wy,rfl,⟨_,SqL.of hwy⟩,fun l hl=>?_⟩;refine qF (xs:=was.map V.ref) (fun i σ' G=>∃u as,σ'=[u,some v]/\Same H G/\G l=some (.lst (as.map V.ref))/\as.length=i/\l ∉ as/\WayL G ml ((aq.take i).map (·++[d])) as) ⟨none,[],rfl,je hl _,jd,rfl,wt,by rw[eX];trivial⟩ ?_ ?_ ?_
 .rintro i σ' G _ ⟨u,as,rfl,sG,_⟩
  exact SqL.of (sG _ _ hwy)
 .rintro i x σ' G hx ⟨u,as,rfl,sG,hG,mw,nl,hA⟩
  have fN:i < was.length:=by have:=(bN.mp hx).1;rw[ax]at this;exact this
  have hi:i < aq.length:=by omega
  rw[bF,aI fN]at hx
  cases hx
  obtain⟨li,us,cP,de⟩:=hW.get (aI hi) (aI fN);have hb:=hlen _ (ft hi);have e1:=de.length;unfold qh yP;refine qB ?_;refine⟨_,rfl,_,rfl,sm rfl,fun l1 bJ=>?_⟩;have s1:=je bJ (.lst [v]);have e0:upd G l1 (.lst [v]) l1=some (.lst [v]):=jd;generalize upd G l1 (.lst [v])=G1 at *;refine⟨_,l1,us,[v],rfl,rfl,s1 _ _ (sG _ _ cP),e0,jY (by show us.length+1<=1000;omega),fun l2 a_=>?_⟩;have aQ:=s1.trans (je a_ (.lst (us++[v])));have e3:upd G1 l2 (.lst (us++[v])) l2=some (.lst (us++[v])):=jd;have n2:l2≠l:=fun z=>by rw[z,s1 _ _ hG]at a_;cases a_
  have n3:l2≠ml:=fun z=>by rw[z,s1 _ _ (sG _ _ hml)]at a_;cases a_
  generalize upd G1 l2 (.lst (us++[v]))=G2 at *;have aY:=aQ _ _ hG;have k5:∀b o,b≠l->G2 b=some o->upd G2 l (.lst (as.map V.ref++[.ref l2])) b=some o:=fun b o hb e=>by rw[jw hb];exact e
  have ij:=jR k5 aY;refine⟨_,aY,jz (by rw[ax];omega),_,as++[l2],rfl,fun b o e=>k5 b o (jr e hl) (aQ _ _ (sG _ _ e)),by rw[jd,aW];rfl,by rw[aG,mw];rfl,?_,?_⟩
  .intro z
   rcases aT.mp z with z | z
   .exact nl z
   .exact n2 (aN.mp z).symm
  .rw[show aq.take (i+1)=aq.take i++[aq[i]] by rw[bP,aI hi];rfl,aW]
   refine WayL.app (WayL.keepO (hA.mono aQ) k5 ij nl) ⟨⟨n3,us++[v],k5 _ _ n2 e3,?_⟩,trivial⟩;exact ij.heldL (jL (de.mono (sG.trans aQ)) (jV (hv.mono (sG.trans aQ))))
 rintro σ' G ⟨u,as,rfl,sG,hG,mw,nl,hA⟩;rw[ax,mv,bX]at hA;exact q l as G sG hl hG hA
theorem jak(b:Bool)(F:Fun K "_law_note" "_law_note" jdJ f fd)(B:Free0 mg)(cx:mg "enumerate" = none):FnOk P w K mg base CX0 1 f fd ["_law_due","_law_head","_law_claims","_law_ways"] (spNoteB b):=by
 have sc:FnScope ["_law_due","_law_head","_law_claims","_law_ways","_law_way","_law_k","_law_claim_here"] ["_law_due","_law_head","_law_claims","_law_ways"] (jp jdJ):=fQ;refine F.okZ sc (fun aH A outer s H vs Q E hr h=>?_);obtain⟨ml,hd,pt,wy,ca,was,f,kind,ms,cs,path,aq,Cs,rfl,hhd,hml,bO,hwy,hW,cJ,fT,nwy,uv,mJ,hlen,q⟩:=h;refine⟨_,(jh (kg dF rfl (ql (zpv 3)) (jt (i:=4) sc.nd rfl oQ) (jh (kg dF rfl (Yp b (by rfl) cx (ja (zpv 2) jc)) (kn rfl (jy (jt (i:=5) sc.nd rfl oQ) (jy (jt (i:=6) sc.nd rfl oQ) j9))) (jh (jW (qu eD l_ l8 kK (zpv 0) (ja (jn qg (zpv 1) (js (ja (zpv 5) (ja (qI zm (by rfl) B.list_ Ko (ja (zpv 4) jc)) (ja (zpv 6) jc))))) jc)))))))),?_⟩;refine jP (σ':=[some (.ref ml),some (.ref hd),some (.ref ca),some (.ref wy),none,none,none]) rfl ?_
 try dsimp only[j7]
 have ur:=fT.length;rw[ax]at ur;have mv:=hW.len;have lj:pt≠ml:=qd bO hml;have nhd:hd≠ml:=qd hhd hml;refine⟨_,rfl,wy,rfl,⟨_,SqL.of hwy⟩,?_⟩;refine K1 (xs:=was.map V.ref) (fun i σ G=>∃u5 u6 u7 aK aD,σ=[some (.ref ml),some (.ref hd),some (.ref ca),some (.ref wy),u5,u6,u7]/\(∀b o,b≠ml->H b=some o->G b=some o)/\G ml=some (.lst (ms++aK))/\DutsAt G (ki f kind path (aq.take i) Cs) aK aD/\aD.Nodup/\∀x∈aD,H x=none) ⟨none,none,none,[],[],rfl,fun _ _ _ e=>e,by rw[cv];exact hml,by rw[eX];trivial,iY,fun _ z=>by cases z⟩ ?_ ?_ ?_
 .rintro i σ G _ ⟨u5,u6,u7,aK,aD,rfl,kG,_⟩
  exact SqL.of (kG _ _ nwy hwy)
 .rintro i x σ G hx ⟨u5,u6,u7,fD,tL,rfl,kG,hG,pH,bV,bI⟩
  have fN:i < was.length:=by have:=(bN.mp hx).1;rw[ax]at this;exact this
  have hi:i < aq.length:=by omega
  rw[bF,aI fN]at hx
  cases hx
  obtain⟨li,us,cP,de⟩:=hW.get (aI hi) (aI fN);have uy:=pH.len;rw[kZ,bK,p3 (cu hi)]at uy;have x8:fD.length+Cs.length<=aq.length * Cs.length:=by
   rw[uy,<- MW];exact m_ _ hi
  rw[KN f kind path Cs hi];generalize was[i]=wl at *;generalize aq[i]=way at *;generalize ki f kind path (aq.take i) Cs=ds0 at *;refine yB ?_;intro _;refine gQ ?_;refine⟨_,rfl,ca,rfl,⟨_,SqB.of (kG _ _ uv cJ)⟩,?_⟩;refine qV (b:=b) (xs:=cs) (fun j σ G=>∃u6 u7 aK aD,σ=[some (.ref ml),some (.ref hd),some (.ref ca),some (.ref wy),some (.ref wl),u6,u7]/\(∀b o,b≠ml->H b=some o->G b=some o)/\G ml=some (.lst (ms++aK))/\aK.length=fD.length+j/\DutsAt G (ds0++ya f kind path way (Cs.take j)) aK aD/\aD.Nodup/\∀x∈aD,H x=none) ⟨u6,u7,fD,tL,rfl,kG,hG,rfl,by rw[eX,show ya f kind path way []=[] from rfl,cv];exact pH,bV,bI⟩ ?_ ?_ ?_
  .rintro j σ G _ ⟨u6,u7,aK,aD,rfl,kG,_⟩
   exact SqB.of (kG _ _ uv cJ)
  .clear hG pH bV bI kG
   rintro j y σ G t hy ⟨u6,u7,aK,aD,rfl,kG,hG,BL,hD,bV,bI⟩ ht;have hj:j < Cs.length:=by have:=(bN.mp hy).1;omega
   obtain⟨y',ck,iu⟩:=fT.get (show (Cs.map Cl.toD)[j]?=some Cs[j].toD by rw[bF,aI hj];rfl);rw[hy]at ck
   cases ck
   have s1:=je ht (.tup [V.int j,y]);have e1:upd G t (.tup [V.int j,y]) t=some (.tup [V.int j,y]):=jd;generalize upd G t (.tup [V.int j,y])=G1 at *;refine⟨t,_,rfl,SqT.of e1,rfl,_,_,rfl,_,_,rfl,rfl,?_⟩;refine jP (σ':=[some (.ref ml),some (.ref hd),some (.ref ca),some (.ref wy),some (.ref wl),some (.int j),some y]) rfl ?_;have k1:∀b o,b≠ml->H b=some o->G1 b=some o:=fun b o hb e=>s1 _ _ (kG b o hb e)
   have vD:=s1 _ _ hG;refine⟨_,rfl,.inl ⟨rfl,_,SqL.of vD⟩,?_⟩;refine⟨_,rfl,_,rfl,_,rfl,wl,us,rfl,.inl (SqL.of (k1 _ _ li cP)),fun nl cm=>?_⟩;have s2:=je cm (.lst us);have e2:upd G1 nl (.lst us) nl=some (.lst us):=jd;generalize upd G1 nl (.lst us)=G2 at *;refine⟨_,rfl,sm rfl,fun t1 bS=>?_⟩;have FJ:=s2.trans (je bS (.tup [V.int j,.ref nl,y]));have lM:upd G2 t1 (.tup [V.int j,.ref nl,y]) nl=some (.lst us):=je bS _ _ _ e2;have Sj:upd G2 t1 (.tup [V.int j,.ref nl,y]) t1=some (.tup [V.int j,.ref nl,y]):=jd;generalize upd G2 t1 (.tup [V.int j,.ref nl,y])=G2' at *;refine⟨hd,t1,_,_,rfl,rfl,FJ _ _ (k1 _ _ nhd hhd),Sj,sm rfl,fun t2 G3 s3 e3=>?_⟩;have bG:=s1.trans (FJ.trans s3);have vC:=bG _ _ hG;have k3:∀b o,b≠ml->H b=some o->G3 b=some o:=fun b o hb e=>bG _ _ (kG b o hb e)
   have ui:nl≠ml:=fun z=>by rw[z,vD]at cm;cases cm
   have Ds:∀b,b≠ml->G1 b=none->H b=none:=fun b hb hz=>by
    rcases hh:H b with _ | o
    .rfl
    .rw[k1 b o hb hh]at hz;cases hz
   refine⟨ml,_,_,rfl,rfl,vC,Zd (by rw[aG];omega),?_⟩;have k4:∀b o,b≠ml->G3 b=some o->upd G3 ml (.lst (ms++aK++[.ref t2])) b=some o:=fun b o hb e=>by rw[jw hb];exact e
   have nH:ml ∉ aD:=fun z=>by have:=bI _ z;rw[hml]at this;cases this
   refine⟨_,_,aK++[.ref t2],aD++[nl],rfl,fun b o hb e=>k4 b o hb (k3 b o hb e),by rw[jd,dH],by rw[aG,BL];rfl,?_,?_,?_⟩
   .rw[JO f kind path way hj,<- dH]
    refine DutsAt.app (DutsAt.keep (fun b o hb e=>k4 b o hb (bG _ _ e)) hG hD nH) ⟨?_,trivial⟩;refine DuAt.keep k4 vC ?_ ui;exact⟨t2,pt,us,y,rfl,e3,k3 _ _ lj bO,s3 _ _ lM,(jR k3 hml).heldL de,(jR k3 hml).held iu⟩
   .refine ia.mpr ⟨bV,by simp,fun a ha b hb=>?_⟩
    rw[aN.mp hb];rintro rfl;have:G1 a≠none:=kj (DutsAt.keep (G:=G) (G':=G1) (ml:=ml) (fun b o _ e=>s1 b o e) hG hD nH) a ha;exact this cm
   .intro x hx
    rcases aT.mp hx with hx | hx
    .exact bI x hx
    .rw[aN.mp hx]
     exact Ds nl ui cm
  .rintro σ G ⟨u6,u7,aK,aD,rfl,kG,hG,_,hD,bV,bI⟩
   rw[<- ur,bX]at hD;exact⟨_,_,_,aK,aD,rfl,kG,hG,hD,bV,bI⟩
 .rintro σ G ⟨u5,u6,u7,aK,aD,rfl,kG,hG,hD,bV,bI⟩
  rw[ax,mv,bX]at hD;exact q aK aD G kG hG hD bV bI
end
abbrev yt:aJ:=top 52
structure LkAt(H:Hp)(hd dl:aa)(p0 p1:Pc)(ms:List V)(wy:aa)(aq:List (List D)):Prop where
 hhd:∃v0 v1,H hd=some (.lst [v0,v1])/\Held H p0.toD v0/\Held H p1.toD v1
 nhd:hd≠dl
 hdl:H dl=some (.lst ms)
 hwy:∃was,H wy=some (.lst (was.map V.ref))/\WayL H dl aq was
 nwy:wy≠dl
variable {hd dl wy:aa}{p0 p1:Pc}
theorem LkAt.mono{H':Hp}{aq:List (List D)}(W:LkAt H hd dl p0 p1 ms wy aq)(s:Same H H'):LkAt H' hd dl p0 p1 ms wy aq:=by
 obtain⟨was,e,h⟩:=W.hwy;obtain⟨v0,v1,e1,h0,h1⟩:=W.hhd;exact⟨⟨v0,v1,s _ _ e1,h0.mono s,h1.mono s⟩,W.nhd,s _ _ W.hdl,⟨was,s _ _ e,h.mono s⟩,W.nwy⟩
abbrev KB(dl:aa)(H H':Hp):Prop:=∀b o,b≠dl->H b=some o->H' b=some o
theorem LkAt.keep{H':Hp}{aK:List V}{aq:List (List D)}(W:LkAt H hd dl p0 p1 ms wy aq)(k:KB dl H H')(h:H' dl=some (.lst aK)):LkAt H' hd dl p0 p1 aK wy aq:=by
 obtain⟨was,e,hw⟩:=W.hwy;obtain⟨v0,v1,e1,h0,h1⟩:=W.hhd;have tk:=jR k W.hdl;exact⟨⟨v0,v1,k _ _ W.nhd e1,tk.held h0,tk.held h1⟩,W.nhd,h,⟨was,k _ _ W.nwy e,hw.keep k W.hdl⟩,W.nwy⟩
theorem LkAt.at{bh:aa}{aq Fd:List (List D)}{was:List aa}(W:LkAt H hd dl p0 p1 ms wy aq)(e:H bh=some (.lst (was.map V.ref)))(h:WayL H dl Fd was)(n:bh≠dl):LkAt H hd dl p0 p1 ms bh Fd:=⟨W.hhd,W.nhd,W.hdl,⟨was,e,h⟩,n⟩
def jcg(H:Hp)(hd dl:aa)(p0 p1:Pc)(ms:List V)(r:Option Wk)(Q:VK):Prop:=
 (∀r' aK aD bh H',r=some r'->KB dl H H'->LkAt H' hd dl p0 p1 (ms++aK) bh r'.2->DutsAt H' r'.1 aK aD->aD.Nodup->(∀x∈aD,H x=none)->Q (.ref bh) H')/\
 (r=none->∀H',KB dl H H'->Q .non H')
def Yc(f:Str)(p:Pc)(path:List Int)(aq:List (List D))(x:Str)(as rs:List Str):Wk:=(ki f "need" path (aq.map (·++jU p.f p.ps as)) (p.nd.map (Cl.say (zC p.f p rs))),(aq.map (·++jU p.f p.ps as)).map (·++zO p.f p rs x))
structure CalL(p:Pc)(as rs:List Str):Prop where
 nc:NoClash p
 rn:p.rs.Nodup
 la:as.length=p.ps.length
 lr:rs.length=p.rs.length
 l6p:p.ps.length<=6
 l6r:p.rs.length<=6
 nd:p.nd.length<=20
 gv:p.gv.length<=20
 fl:p.f.length<=100
 yl:∀y∈p.ps,y.length<=100
inductive spCallL(vs:List V)(H:Hp)(Q:VK)(E:XK):Prop
 | mk (hd pt wy dl:aa) (sv:V) (p0 p1 p:Pc) (x:Str) (as rs:List Str) (ms:List V) (path:List Int) (aq:List (List D)) (_:vs=[.ref hd,sv,.ref pt,.ref wy,.ref dl]) (_:LkAt H hd dl p0 p1 ms wy aq) (_:p0.f≠p1.f) (_:(p=p0\/p=p1)) (_:CalL p as rs) (_:Held H (Sm.call x p.f as rs).toD sv) (_:H pt=some (.tup (path.map V.int))) (_:aq.length<=40) (_:ms.length+aq.length * 20<=9000) (_:(∀w∈aq,w.length<=800)/\jcg H hd dl p0 p1 ms (some (Yc p0.f p path aq x as rs)) Q)
theorem KU{f:Str}{ps as:List Str}(h:ps.length<=6):(jU f ps as).length<=6:=by unfold jU;rw[ax,tf];omega
section
theorem jem(F:Fun K "_law_call" "_law_call" yt f fd)(B:Free0 mg)(n8:mg "zip" = none)(gz:Fn P w K mg base 1 "_law_behind" ["_law_ways","_law_row"] spBehL)(fg:Fn P w K mg base 1 "_law_note" ["_law_due","_law_head","_law_claims","_law_ways"] (spNoteB false))(iS:Fn P w K mg base 3 "_law_said" ["_law_thing","_law_names"] spSaidC):FnOk P w K mg base CX0 4 f fd ["_law_heads","_law_statement","_law_at","_law_ways","_law_due"] spCallL:=by
 have sc:FnScope ["_law_heads","_law_statement","_law_at","_law_ways","_law_due","_law_head","_law_x","_law_names","_law_y","_law_arg","_law_r","_law_given","_law_rows"] ["_law_heads","_law_statement","_law_at","_law_ways","_law_due"] (jp yt):=fQ;refine F.okZ sc (fun aH A outer s H vs Q E hr h=>?_);obtain⟨hd,pt,wy,dl,sv,p0,p1,p,x,as,rs,ms,path,aq,rfl,W,bM,hp,C,hS,bO,mJ,hms,uH,q⟩:=h;have hu:=jb4 hr;refine⟨_,(jg (ju (i:=5) sc.nd rfl oQ (jk jS (kM ["_law_one"] [1] rfl (ku (sc:=jp yt) (N:=["_law_heads","_law_statement","_law_at","_law_ways","_law_due","_law_head","_law_x","_law_names","_law_y","_law_arg","_law_r","_law_given","_law_rows"]) rfl rfl (by decide +kernel)) (ql (zpv 0)) (fun s H ex=>⟨(jt (i:=0) (show dk (["_law_one","_law_statement"]:List Str) by decide +kernel) rfl oQ),(Jj (jx j4 (jk (ZA (K:=K)) (zpv 0) jf (fun _ _=>rfl)) (jk (ZA (K:=K)) (zpv 1) jf (fun _ _=>rfl)) (jB _))),(zpv 0)⟩)) jf (fun _ _=>rfl)))
   (jg (ju (i:=6) sc.nd rfl oQ (jk jq (zpv 1) jf (fun _ _=>rfl)))
   (jg (ju (i:=7) sc.nd rfl oQ (jdh (jcm jm jm jdd) rfl rfl (by simp) (by decide)))
   (jg (kg dF rfl (Y6 (by rfl) n8 (ja (jk jq (zpv 5) jf (fun _ _=>rfl)) (ja (jk jq (zpv 1) jf (fun _ _=>rfl)) jc))) (kn rfl (jy (jt (i:=8) sc.nd rfl oQ) (jy (jt (i:=9) sc.nd rfl oQ) j9))) (jg (yk hu (zpv 7) (zpv 8) (jn zA (jn zA (jk jq (zpv 5) jf (fun _ _=>rfl)) jm) (zpv 8)) rfl)
   (jh (ju (i:=3) sc.nd rfl oQ (jA gz hr (ja (zpv 3) (ja (js (ja jm (ja (Kr hu (zpv 7) (zpv 8) (fun _ _=>rfl)) (ja (js (ja jm (ja (zpv 9) jc))) (ja jf jc))))) jc)))))))
   (jg (kg dF rfl (Y6 (by rfl) n8 (ja (jk jq (zpv 5) jf (fun _ _=>rfl)) (ja (jk jq (zpv 1) jf (fun _ _=>rfl)) jc))) (kn rfl (jy (jt (i:=10) sc.nd rfl oQ) (jy (jt (i:=11) sc.nd rfl oQ) j9))) (jh (yk hu (zpv 7) (zpv 10) (zpv 11) rfl)))
   (jg (jW (jA fg hr (ja (zpv 4) (ja (js (ja (jk jq (jk jS (zpv 0) jf (fun _ _=>rfl)) jf (fun _ _=>rfl)) (ja jm (ja (zpv 2) jc)))) (ja (kM ["_law_need"] [7] rfl (ku (sc:=jp yt) (N:=["_law_heads","_law_statement","_law_at","_law_ways","_law_due","_law_head","_law_x","_law_names","_law_y","_law_arg","_law_r","_law_given","_law_rows"]) rfl rfl (by decide +kernel)) (kT (jk jq (zpv 5) jf (fun _ _=>rfl))) (fun s H ex=>⟨(jt (i:=0) (show dk (["_law_need","_law_names"]:List Str) by decide +kernel) rfl oQ),kD,(jA iS hr (ja (zpv 0) (ja (zpv 1) jc)))⟩)) (ja (zpv 3) jc))))))
   (jg (yk hu (zpv 7) jm (zpv 6) rfl)
   (jg (ju (i:=12) sc.nd rfl oQ (jn kd (kM ["_law_given"] [] rfl (ku (sc:=jp yt) (N:=["_law_heads","_law_statement","_law_at","_law_ways","_law_due","_law_head","_law_x","_law_names","_law_y","_law_arg","_law_r","_law_given","_law_rows"]) rfl rfl (by decide +kernel)) (kT (jk jq (zpv 1) jf (fun _ _=>rfl))) (fun s H ex=>⟨(jt (i:=0) (show dk (["_law_given"]:List Str) by decide +kernel) rfl oQ),kD,(js (ja jm (ja (zpv 0) jc)))⟩)) (jF (ja (js (ja jm (ja (zpv 6) jc))) jc))))
   (jg (ju (i:=12) sc.nd rfl oQ (jn kd (zpv 12) (kM ["_law_give"] [7] rfl (ku (sc:=jp yt) (N:=["_law_heads","_law_statement","_law_at","_law_ways","_law_due","_law_head","_law_x","_law_names","_law_y","_law_arg","_law_r","_law_given","_law_rows"]) rfl rfl (by decide +kernel)) (kT (jk jq (zpv 5) jf (fun _ _=>rfl))) (fun s H ex=>⟨(jt (i:=0) (show dk (["_law_give","_law_names"]:List Str) by decide +kernel) rfl oQ),kD,(js (ja jm (ja (jA iS hr (ja (zpv 0) (ja (zpv 1) jc))) jc)))⟩))))
   (jh (jv (kM ["_law_way"] [12] rfl (ku (sc:=jp yt) (N:=["_law_heads","_law_statement","_law_at","_law_ways","_law_due","_law_head","_law_x","_law_names","_law_y","_law_arg","_law_r","_law_given","_law_rows"]) rfl rfl (by decide +kernel)) (ql (zpv 3)) (fun s H ex=>⟨(jt (i:=0) (show dk (["_law_way","_law_rows"]:List Str) by decide +kernel) rfl oQ),kD,(jn kd (zpv 0) (zpv 1))⟩))))))))))))),?_⟩
 refine jP (σ':=[some (.ref hd),some sv,some (.ref pt),some (.ref wy),some (.ref dl),none,none,none,none,none,none,none,none]) rfl ?_
 try dsimp only[j7]
 refine jfS ?_;intro _ _ _ _ _ _ _ _ _;obtain⟨a,ba,ca,rfl,ha,dg,cJ⟩:=JC hS;obtain⟨v0,v1,hhd,oY,rL⟩:=W.hhd;refine⟨_,rfl,hd,rfl,⟨_,SqL.of hhd⟩,fun l hl=>?_⟩;let qs:List (Pc×V):=[(p0,v0),(p1,v1)]
 have hq:∀q∈qs,Held H q.1.toD q.2:=fun q hq=>by
  rcases aM.mp hq with rfl | hq
  .exact oY
  .rw[aN.mp hq];exact rL
 refine qF (xs:=qs.map (·.2)) (fun i σ' G=>∃u,σ'=[u,some (.ref a)]/\Same H G/\G l=some (.lst (((qs.take i).filter fun q=>decide (q.1.f=p.f)).map (·.2)))) ⟨none,rfl,je hl _,jd⟩ ?_ ?_ ?_
 .rintro i σ' G _ ⟨u,rfl,sG,_⟩
  exact SqL.of (sG _ _ hhd)
 .rintro i v σ' G hx ⟨u,rfl,sG,hG⟩
  have hi:i < qs.length:=by have:=(bN.mp hx).1;rw[ax]at this;exact this
  rw[bF,aI hi]at hx
  cases hx
  have Cg:=hq _ (ft hi);have et:(qs.take (i+1)).filter (fun q=>decide (q.1.f=p.f))=(qs.take i).filter (fun q=>decide (q.1.f=p.f))++(if decide (qs[i].1.f=p.f)=true then [qs[i]] else []):=by
   rw[bP,aI hi,AZ];congr 1;show E4 _ [qs[i]]=_;rw[AY];rfl
  have Rf:=oA (fun q:Pc×V=>decide (q.1.f=p.f)) (qs.take i);rw[bK]at Rf;have uQ:qs.length=2:=rfl;rw[et];generalize qs[i]=qi at *;obtain⟨pi,vi⟩:=qi;obtain⟨b,_,_,_,_,_,_,_,_,ID,hb,_⟩:=zy Cg;dsimp only at ID;subst ID;unfold qh;have eS:decide (V.str pi.f=V.str p.f)=decide (pi.f=p.f):=by
   by_cases h:pi.f=p.f
   .rw[WQ h,WQ (WW V.str h)]
   .rw[WR h,WR (fun z=>h (by injection z))]
  refine⟨_,rfl,b,_,_,_,rfl,rfl,SqT.of (sG _ _ hb),rfl,_,rfl,a,_,_,_,rfl,rfl,SqT.of (sG _ _ ha),rfl,rfl,_,rfl,?_⟩;rw[eS];refine jQ (fun d=>?_) (fun d=>?_)
  .refine⟨_,rfl,_,hG,jz (by rw[ax];omega),_,rfl,fun z o e=>?_,?_⟩
   .rw[jw (jr e hl)];exact sG _ _ e
   .rw[jd,WU d,aW];rfl
  .exact⟨_,rfl,sG,by rw[WT d,cv];exact hG⟩
 rintro σ' G0 ⟨u,rfl,s0,Dk⟩;obtain⟨vp,BZ,IF⟩:∃vp,Held H p.toD vp/\((qs.take (qs.map (·.2)).length).filter fun q=>decide (q.1.f=p.f)).map (·.2)=[vp]:=by
  rcases hp with rfl | rfl
  .refine⟨v0,oY,?_⟩
   show ((qs.take 2).filter fun q=>decide (q.1.f=p.f)).map (·.2)=_;simp[qs,bB bM]
  .refine⟨v1,rL,?_⟩
   show ((qs.take 2).filter fun q=>decide (q.1.f=p.f)).map (·.2)=_;simp[qs,bM]
 rw[IF]at Dk;clear hq IF;clear qs;obtain⟨pa,ap,ar,an,ag,ab,vn,vg,vb,rfl,fK,lJ,em,fc,hn,fR,hg,_,_⟩:=zy BZ;refine⟨l,_,_,_,rfl,rfl,SqL.of Dk,kU (j:=0) rfl,?_⟩;refine gQ ?_;refine⟨_,rfl,a,_,_,_,rfl,rfl,SqT.of (s0 _ _ ha),rfl,?_⟩;refine gQ ?_;refine fun dn pA=>?_
 refine⟨jd,[(Sum.inr "",V.str "")],rfl,cf rfl,?_⟩;have s1:Same G0 (upd (upd G0 dn (.dK [])) dn (.dK (yy [] [(Sum.inr "",V.str "")]))):=fun b o e=>by rw[jw (jr e pA),jw (jr e pA)];exact e
 have e1:upd (upd G0 dn (.dK [])) dn (.dK (yy [] [(Sum.inr "",V.str "")])) dn=some (.dK [(Sum.inr "",V.str "")]):=jd;generalize upd (upd G0 dn (.dK [])) dn (.dK (yy [] [(Sum.inr "",V.str "")]))=G1 at *;have mo:=s0.trans s1;have lH:H dn=none:=s0.free pA;clear s0 s1 Dk pA;refine gQ ?_;obtain⟨was,hwy,hW⟩:=W.hwy;have hdl:=W.hdl;refine⟨_,rfl,pa,_,_,_,rfl,rfl,SqT.of (mo _ _ fK),rfl,_,rfl,a,_,_,_,rfl,rfl,SqT.of (mo _ _ ha),rfl,ap,ba,rfl,⟨_,SqT.of (mo _ _ lJ)⟩,⟨_,SqT.of (mo _ _ dg)⟩,?_⟩;refine ZD (xs:=p.ps.map V.str) (ys:=as.map V.str) (fun i σ G=>∃u8 u9 kvs bh ig,σ=[some (.ref hd),some (.ref a),some (.ref pt),some (.ref bh),some (.ref dl),some (.ref pa),some (.str x),some (.ref dn),u8,u9,none,none,none]/\Same H G/\G dn=some (.dK kvs)/\NmP kvs p.f p i/\G bh=some (.lst (ig.map V.ref))/\bh≠dl/\WayL G dl (aq.map (·++jU p.f (p.ps.take i) (as.take i))) ig) (by rw[ax,ax,C.la]) ⟨none,none,_,wy,was,rfl,mo,e1,jhN _ _,mo _ _ hwy,W.nwy,by rw[eX,eX,show jU p.f [] []=[] from rfl];simpa using hW.mono mo⟩ ?_ ?_ ?_
 .rintro i σ G _ ⟨u8,u9,kvs,bh,ig,rfl,sG,_⟩
  exact⟨SqT.of (sG _ _ lJ),SqT.of (sG _ _ dg)⟩
 .clear e1 mo
  rintro i vx vy σ G t3 hx hy ⟨u8,u9,kvs,bh,ig,rfl,sG,fe,hN,iN,nw,gV⟩ eJ;have iF:i < p.ps.length:=by have:=(bN.mp hx).1;rw[ax]at this;exact this
  have nN:i < as.length:=by have:=C.la;omega
  rw[bF,aI iF]at hx;rw[bF,aI nN]at hy
  cases hx
  cases hy
  have Q9:jU p.f (p.ps.take (i+1)) (as.take (i+1))=jU p.f (p.ps.take i) (as.take i)++[jad (qj p.f p.ps[i]) as[i]]:=by
   unfold jU;rw[show p.ps.take (i+1)=p.ps.take i++[p.ps[i]] by rw[bP,aI iF];rfl,show as.take (i+1)=as.take i++[as[i]] by rw[bP,aI nN];rfl,EU (by rw[bK,bK];omega),aW];rfl
  have hyl':=C.yl _ (ft iF);have vq:=hN.put iF;have Qw:(jU p.f (p.ps.take i) (as.take i)).length<=6:=KU (by rw[bK];have:=C.l6p;omega);have gS:=C.fl;have gj:=C.l6p;rw[Q9,show aq.map (·++(jU p.f (p.ps.take i) (as.take i)++[jad (qj p.f p.ps[i]) as[i]]))=(aq.map (·++jU p.f (p.ps.take i) (as.take i))).map (·++[jad (qj p.f p.ps[i]) as[i]]) by rw[M8];exact List.map_congr_left fun w _=>(dH _ _ _).symm];generalize p.ps[i]=y at *;generalize as[i]=arg at *;have z1:=je eJ (.tup [V.str y,.str arg]);have y1:upd G t3 (.tup [V.str y,.str arg]) t3=some (.tup [V.str y,.str arg]):=jd;generalize upd G t3 (.tup [V.str y,.str arg])=G2 at *;refine⟨t3,_,rfl,SqT.of y1,rfl,_,_,rfl,_,_,rfl,rfl,?_⟩;refine jP (σ':=[some (.ref hd),some (.ref a),some (.ref pt),some (.ref bh),some (.ref dl),some (.ref pa),some (.str x),some (.ref dn),some (.str y),some (.str arg),none,none,none]) rfl ?_;have IK:("." : Str).length=1:=by decide +kernel
  have P2:=z1 _ _ (sG _ _ fK);refine⟨_,rfl,pa,_,_,_,rfl,rfl,SqT.of P2,rfl,_,_,rfl,rfl,(by rw[IK];exact jY (by omega)),_,rfl,_,_,rfl,rfl,(by rw[zK,IK];exact jY (by omega)),?_⟩;rw[show p.f++("." : Str)++y=qj p.f y from rfl];have pF:=z1 _ _ fe;have ph:=hN.l;refine⟨_,rfl,_,rfl,dn,_,rfl,DPut.k (k:=Sum.inr y) pF (jz (by omega)),?_⟩;have k2:∀b o,b≠dn->G2 b=some o->upd G2 dn (.dK (kq kvs (Sum.inr y) (.str (qj p.f y)))) b=some o:=fun b o hb e=>by rw[jw hb];exact e
  have y2:upd G2 dn (.dK (kq kvs (Sum.inr y) (.str (qj p.f y)))) dn=some (.dK (kq kvs (Sum.inr y) (.str (qj p.f y)))):=jd;have oX:qt (kq kvs (Sum.inr y) (.str (qj p.f y))) (Sum.inr y)=some (.str (qj p.f y)):=by rw[qJ,WU rfl]
  generalize kq kvs (Sum.inr y) (.str (qj p.f y))=fE at *;generalize upd G2 dn (.dK fE)=G3 at *;have uC:∀b xs,G2 b=some (.lst xs)->G3 b=some (.lst xs):=fun b xs e=>k2 b _ (fun z=>by rw[z,pF]at e;cases e) e
  have BR:TK G2 G3:=fun b ys e=>k2 b _ (fun z=>by rw[z,pF]at e;cases e) e
  have tY:Same H G3:=fun b o e=>k2 _ _ (jr e lH) (z1 _ _ (sG _ _ e))
  refine⟨_,rfl,_,rfl,_,rfl,dn,_,rfl,(by have:=DGet.k (k:=Sum.inr y) y2;rw[oX]at this;exact this),?_⟩;refine⟨_,rfl,sm rfl,fun t4 rM=>?_⟩;have z3:=je rM (.tup [V.str "is",.str arg]);have y3:upd G3 t4 (.tup [V.str "is",.str arg]) t4=some (.tup [V.str "is",.str arg]):=jd;generalize upd G3 t4 (.tup [V.str "is",.str arg])=G4 at *;refine⟨sm rfl,fun t5 iA=>?_⟩;have z4:=je iA (.tup [V.str "set",.str (qj p.f y),.ref t4,.int 0]);have y4:upd G4 t5 (.tup [V.str "set",.str (qj p.f y),.ref t4,.int 0]) t5=some (.tup [V.str "set",.str (qj p.f y),.ref t4,.int 0]):=jd;generalize upd G4 t5 (.tup [V.str "set",.str (qj p.f y),.ref t4,.int 0])=G5 at *;have i0:=z3.trans z4;have hz:Held G5 (jad (qj p.f y) arg) (.ref t5):=jo y4 (jb jl (jb jl (jb (jo (z4 _ _ y3) (jb jl (jb jl jj))) (jb jX jj))));have HG:=i0 _ _ (tY _ _ hdl);refine⟨bh,dl,.ref t5,_,ig,ms,_,rfl,i0 _ _ (uC _ _ (z1 _ _ iN)),HG,((gV.mono z1).keepL uC BR).mono i0,hz,by rw[ax];exact mJ,fun w' cH=>?_,fun l6 DJ G6 z6 n6 e6 RJ=>?_⟩
  .obtain⟨w1,h1,rfl⟩:=ci.mp cH
   have:=uH w1 h1;rw[aG];omega
  exact⟨some (.str y),some (.str arg),fE,l6,DJ,rfl,fun b o e=>z6 _ _ (i0 _ _ (tY _ _ e)),z6 _ _ (i0 _ _ y2),vq,e6,(fun z=>by rw[z,HG]at n6;cases n6),RJ⟩
 clear e1 mo;rintro σ G ⟨u8,u9,kvs,bh,ig,rfl,sG,fe,hN,iN,nw,gV⟩;rw[ax,bX,<- C.la,bX]at gV;rw[ax]at hN;have Dg:=hN.toR (aL _) C.l6p rs;have Qw:(jU p.f p.ps as).length<=6:=KU C.l6p;refine⟨_,rfl,pa,_,_,_,rfl,rfl,SqT.of (sG _ _ fK),rfl,_,rfl,a,_,_,_,rfl,rfl,SqT.of (sG _ _ ha),rfl,ar,ca,rfl,⟨_,SqT.of (sG _ _ em)⟩,⟨_,SqT.of (sG _ _ cJ)⟩,?_⟩;have l6r:=C.l6r;have iE:=C.lr;refine ZD (xs:=p.rs.map V.str) (ys:=rs.map V.str) (fun j σ G=>∃gH gG kvs,σ=[some (.ref hd),some (.ref a),some (.ref pt),some (.ref bh),some (.ref dl),some (.ref pa),some (.str x),some (.ref dn),u8,u9,gH,gG,none]/\Same H G/\G dn=some (.dK kvs)/\NmR kvs p.f p rs j/\G bh=some (.lst (ig.map V.ref))/\WayL G dl (aq.map (·++jU p.f p.ps as)) ig) (by rw[ax,ax,C.lr]) ⟨none,none,kvs,rfl,sG,fe,Dg,iN,gV⟩ ?_ ?_ ?_
 .rintro i σ G _ ⟨gH,gG,kvs,rfl,sG,_⟩
  exact⟨SqT.of (sG _ _ em),SqT.of (sG _ _ cJ)⟩
 .clear fe Dg iN gV sG hN
  rintro j vx vy σ G t3 hx hy ⟨gH,gG,kvs,rfl,sG,fe,hN,iN,gV⟩ eJ;have iF:j < p.rs.length:=by have:=(bN.mp hx).1;rw[ax]at this;exact this
  have nN:j < rs.length:=by omega
  rw[bF,aI iF]at hx;rw[bF,aI nN]at hy
  cases hx
  cases hy
  have vq:=hN.put C.rn iF nN;generalize p.rs[j]=y at *;generalize rs[j]=gv at *;have z1:=je eJ (.tup [V.str y,.str gv]);have y1:upd G t3 (.tup [V.str y,.str gv]) t3=some (.tup [V.str y,.str gv]):=jd;generalize upd G t3 (.tup [V.str y,.str gv])=G2 at *;refine⟨t3,_,rfl,SqT.of y1,rfl,_,_,rfl,_,_,rfl,rfl,?_⟩;refine jP (σ':=[some (.ref hd),some (.ref a),some (.ref pt),some (.ref bh),some (.ref dl),some (.ref pa),some (.str x),some (.ref dn),u8,u9,some (.str y),some (.str gv),none]) rfl ?_;have pF:=z1 _ _ fe;have ph:=hN.l;refine⟨_,rfl,_,rfl,_,rfl,dn,_,rfl,DPut.k (k:=Sum.inr y) pF (jz (by omega)),?_⟩;have k2:∀b o,b≠dn->G2 b=some o->upd G2 dn (.dK (kq kvs (Sum.inr y) (.str gv))) b=some o:=fun b o hb e=>by rw[jw hb];exact e
  have y2:upd G2 dn (.dK (kq kvs (Sum.inr y) (.str gv))) dn=some (.dK (kq kvs (Sum.inr y) (.str gv))):=jd;generalize kq kvs (Sum.inr y) (.str gv)=fE at *;generalize upd G2 dn (.dK fE)=G3 at *;have uC:∀b xs,G2 b=some (.lst xs)->G3 b=some (.lst xs):=fun b xs e=>k2 b _ (fun z=>by rw[z,pF]at e;cases e) e
  have BR:TK G2 G3:=fun b ys e=>k2 b _ (fun z=>by rw[z,pF]at e;cases e) e
  exact⟨_,_,fE,rfl,fun b o e=>k2 _ _ (jr e lH) (z1 _ _ (sG _ _ e)),y2,vq,uC _ _ (z1 _ _ iN),(gV.mono z1).keepL uC BR⟩
 clear fe Dg iN gV sG hN;rintro σ G ⟨gH,gG,uA,rfl,sG,fe,hN,iN,gV⟩;rw[ax]at hN;have Ih:=hN.ok (aL _) (by omega) C.nc;have ph:=hN.l;have cm:=hn.length;rw[ax]at cm;have mL:=hg.length;rw[ax]at mL;have Cv:=C.nd;have Ra:=C.gv;obtain⟨rB,_,_,_,_,_,_,_,_,rfl,o9,_⟩:=zy oY;refine⟨_,rfl,_,rfl,hd,_,_,_,rfl,rfl,SqL.of (sG _ _ hhd),kU (j:=0) rfl,rB,_,_,_,rfl,rfl,SqT.of (sG _ _ o9),rfl,_,rfl,sm rfl,fun th lz=>?_⟩;have z0:=je lz (.tup [V.str p0.f,.str "need",.ref pt]);have y0:upd G th (.tup [V.str p0.f,.str "need",.ref pt]) th=some (.tup [V.str p0.f,.str "need",.ref pt]):=jd;generalize upd G th (.tup [V.str p0.f,.str "need",.ref pt])=G1 at *;have eF:=sG.trans z0;refine⟨_,rfl,pa,_,_,_,rfl,rfl,SqT.of (eF _ _ fK),rfl,an,rfl,⟨_,SqT.of (eF _ _ fc)⟩,fun ln gR=>?_⟩;refine zc (xs:=vn) (fun i σ' G'=>∃u ks,σ'=[u,some (.ref dn)]/\Same G1 G'/\G' ln=some (.lst ks)/\HeldL G' (((p.nd.take i).map (Cl.say (zC p.f p rs))).map Cl.toD) ks) ⟨none,[],rfl,je gR _,jd,jj⟩ ?_ ?_ ?_
 .rintro i σ' G' _ ⟨u,ks,rfl,bC,_⟩
  exact SqT.of (bC _ _ (eF _ _ fc))
 .rintro i v σ' G' hx ⟨u,ks,rfl,bC,dN,hk⟩
  have hi:i < p.nd.length:=by have:=(bN.mp hx).1;omega
  obtain⟨x',bq,cw⟩:=hn.get (show (p.nd.map Cl.toD)[i]?=some p.nd[i].toD by rw[bF,aI hi];rfl);rw[hx]at bq
  cases bq
  have cN:=hk.length;rw[ax,ax,bK]at cN;unfold qh yP;refine qB ?_;refine⟨_,rfl,_,rfl,v,p.nd[i],dn,uA,_,rfl,cw.mono (eF.trans bC),bC _ _ (z0 _ _ fe),Ih,fun r G2 z2 bL=>?_⟩;have aY:=z2 _ _ dN;have tk:TK G2 (upd G2 ln (.lst (ks++[r]))):=TK.upd aY (fun _ z=>by cases z);refine⟨ks,aY,jz (by omega),_,_,rfl,fun b o e=>?_,jd,?_⟩
  .rw[jw (jr e gR)];exact z2 _ _ (bC _ _ e)
  .rw[show p.nd.take (i+1)=p.nd.take i++[p.nd[i]] by rw[bP,aI hi];rfl,aW,aW]
   exact jL (tk.heldL (hk.mono z2)) (jV (tk.held bL))
 rintro σ' G2 ⟨u,ks,rfl,z2,aY,hk⟩;rw[show p.nd.take vn.length=p.nd by rw[<- cm,bX]]at hk;have eZ:=eF.trans z2;have Bx:ln≠dl:=fun z=>by rw[z,eF _ _ hdl]at gR;cases gR
 have uw:(aq.map (·++jU p.f p.ps as)).length<=40:=by rw[ax];exact mJ
 have tK:=z0.trans z2;refine⟨_,rfl,dl,th,pt,bh,ln,ig,p0.f,"need",ms,ks,path,_,p.nd.map (Cl.say (zC p.f p rs)),rfl,z2 _ _ y0,eZ _ _ hdl,eZ _ _ bO,tK _ _ iN,gV.mono tK,aY,hk,nw,Bx,uw,?_,fun aK aD G3 k3 mH lL um Bz=>?_⟩
 .rw[ax,ax]
  have:aq.length * p.nd.length<=aq.length * 20:=Wa _ Cv;omega
 have kA:KB dl H G3:=fun b o hb e=>k3 b o hb (eZ _ _ e)
 have W3:=W.keep kA mH;have BB:dn≠dl:=fun z=>by rw[z,hdl]at lH;cases lH
 have nW:=k3 _ _ BB (tK _ _ fe);have rJ:=k3 _ _ nw (tK _ _ iN);have rZ:=(gV.mono tK).keep k3 (eZ _ _ hdl);have nt:∀{b:aa} {ys:List V},H b=some (.tup ys)->b≠dl:=fun e=>qd e hdl
 refine⟨_,rfl,_,rfl,dn,_,rfl,DPut.k (k:=Sum.inr "out") nW (jz (by omega)),?_⟩;have Co:=Ih.out x;have k4:∀b o,b≠dn->G3 b=some o->upd G3 dn (.dK (kq uA (Sum.inr "out") (.str x))) b=some o:=fun b o hb e=>by rw[jw hb];exact e
 have y4:upd G3 dn (.dK (kq uA (Sum.inr "out") (.str x))) dn=some (.dK (kq uA (Sum.inr "out") (.str x))):=jd;generalize kq uA (Sum.inr "out") (.str x)=kvs3 at *;generalize upd G3 dn (.dK kvs3)=G4 at *;have ll:∀b xs,G3 b=some (.lst xs)->G4 b=some (.lst xs):=fun b xs e=>k4 b _ (fun z=>by rw[z,nW]at e;cases e) e
 have rG:TK G3 G4:=fun b ys e=>k4 b _ (fun z=>by rw[z,nW]at e;cases e) e
 have kB:KB dl H G4:=fun b o hb e=>k4 _ _ (jr e lH) (kA b o hb e)
 have rQ:=ll _ _ mH;have fS:=DutsAt.keepL ll rG lL;have nu:=ll _ _ rJ;have gW:=rZ.keepL ll rG;have CZ:=(jR kB hdl).heldL hg;clear lL rJ rZ nW ll rG k4 iN gV fe;refine⟨_,rfl,a,_,_,_,rfl,rfl,SqT.of (kB _ _ (nt ha) ha),rfl,ca,rfl,⟨_,SqT.of (kB _ _ (nt cJ) cJ)⟩,fun lr iE=>?_⟩;refine zc (xs:=rs.map V.str) (fun i σ' G'=>∃u ks,σ'=[u]/\Same G4 G'/\G' lr=some (.lst ks)/\HeldL G' ((rs.take i).map jas) ks) ⟨none,[],rfl,je iE _,jd,jj⟩ ?_ ?_ ?_
 .rintro i σ' G' _ ⟨u,ks,rfl,bC,_⟩
  exact SqT.of (bC _ _ (kB _ _ (nt cJ) cJ))
 .rintro i v σ' G' hx ⟨u,ks,rfl,bC,dN,hk⟩
  have hi:i < rs.length:=by have:=(bN.mp hx).1;rw[ax]at this;exact this
  rw[bF,aI hi]at hx
  cases hx
  have cN:=hk.length;rw[ax,bK]at cN;unfold qh yP;refine qB ?_;refine⟨_,rfl,sm rfl,fun t7 uK=>?_⟩;have z2:=je uK (.tup [V.str "lose",.str rs[i]]);have y2:upd G' t7 (.tup [V.str "lose",.str rs[i]]) t7=some (.tup [V.str "lose",.str rs[i]]):=jd;generalize upd G' t7 (.tup [V.str "lose",.str rs[i]])=G2 at *;have aY:=z2 _ _ dN;have tk:TK G2 (upd G2 lr (.lst (ks++[.ref t7]))):=TK.upd aY (fun _ z=>by cases z);refine⟨ks,aY,jz (by omega),_,_,rfl,fun b o e=>?_,jd,?_⟩
  .rw[jw (jr e iE)];exact z2 _ _ (bC _ _ e)
  .rw[show rs.take (i+1)=rs.take i++[rs[i]] by rw[bP,aI hi];rfl,aW]
   exact jL (tk.heldL (hk.mono z2)) (jV (tk.held (jo y2 (jb jl (jb jl jj)))))
 rintro σ' G7 ⟨u7,db,rfl,z7,pG,fM⟩;rw[ax,bX]at fM;have vc:=fM.length;rw[ax]at vc;refine⟨_,rfl,sm rfl,fun t8 iz=>?_⟩;have z8:=je iz (.tup [V.str "any",.str x]);have y8:upd G7 t8 (.tup [V.str "any",.str x]) t8=some (.tup [V.str "any",.str x]):=jd;generalize upd G7 t8 (.tup [V.str "any",.str x])=G8 at *;refine⟨sm rfl,fun l9 lF=>?_⟩;have z9:=je lF (.lst [V.ref t8]);have y9:upd G8 l9 (.lst [V.ref t8]) l9=some (.lst [V.ref t8]):=jd;generalize upd G8 l9 (.lst [V.ref t8])=G9 at *;have oG:=z8.trans z9;refine⟨lr,l9,_,_,rfl,rfl,oG _ _ pG,y9,jY (by show db.length+1<=1000;omega),fun gL CM=>?_⟩;have mh:=je CM (.lst (db++[V.ref t8]));have wD:upd G9 gL (.lst (db++[V.ref t8])) gL=some (.lst (db++[V.ref t8])):=jd;generalize upd G9 gL (.lst (db++[V.ref t8]))=G10 at *;have wC:=z7.trans (oG.trans mh);have xW:HeldL G10 (rs.map jas++[jgH x]) (db++[V.ref t8]):=jL (fM.mono (oG.trans mh)) (jV (jo ((z9.trans mh) _ _ y8) (jb jl (jb jl jj))));clear fM pG y8 y9 lF iz;have hl10':(db++[V.ref t8]).length<=7:=by rw[aG];show db.length+1<=7;omega
 generalize db++[V.ref t8]=ks8 at *;have kC:KB dl H G10:=fun b o hb e=>wC _ _ (kB b o hb e)
 refine gQ ?_;refine⟨_,rfl,_,rfl,pa,_,_,_,rfl,rfl,SqT.of (kC _ _ (nt fK) fK),rfl,ag,rfl,⟨_,SqT.of (kC _ _ (nt fR) fR)⟩,fun lg mI=>?_⟩;refine zc (xs:=vg) (fun i σ' G'=>∃u ks,σ'=[u,some (.ref dn)]/\Same G10 G'/\G' lg=some (.lst ks)/\HeldL G' (((p.gv.take i).map (Cl.say (JD p.f p rs x))).map jG) ks) ⟨none,[],rfl,je mI _,jd,jj⟩ ?_ ?_ ?_
 .rintro i σ' G' _ ⟨u,ks,rfl,bC,_⟩
  exact SqT.of (bC _ _ (kC _ _ (nt fR) fR))
 .rintro i v σ' G' hx ⟨u,ks,rfl,bC,dN,hk⟩
  have hi:i < p.gv.length:=by have:=(bN.mp hx).1;omega
  obtain⟨x',bq,cw⟩:=CZ.get (show (p.gv.map Cl.toD)[i]?=some p.gv[i].toD by rw[bF,aI hi];rfl);rw[hx]at bq
  cases bq
  have cN:=hk.length;rw[ax,ax,bK]at cN;unfold qh yP;refine qB ?_;refine⟨_,rfl,_,rfl,v,p.gv[i],dn,kvs3,_,rfl,cw.mono (wC.trans bC),bC _ _ (wC _ _ y4),Co,fun r G2 z2 bL=>?_⟩;refine⟨sm rfl,fun t6 B_=>?_⟩;have z3:=je B_ (.tup [V.str "know",r]);have y3:upd G2 t6 (.tup [V.str "know",r]) t6=some (.tup [V.str "know",r]):=jd;generalize upd G2 t6 (.tup [V.str "know",r])=G3' at *;have A1:=z2.trans z3;have aY:=A1 _ _ dN;have tk:TK G3' (upd G3' lg (.lst (ks++[.ref t6]))):=TK.upd aY (fun _ z=>by cases z);refine⟨ks,aY,jz (by omega),_,_,rfl,fun b o e=>?_,jd,?_⟩
  .rw[jw (jr e mI)];exact A1 _ _ (bC _ _ e)
  .rw[show p.gv.take (i+1)=p.gv.take i++[p.gv[i]] by rw[bP,aI hi];rfl,aW,aW]
   exact jL (tk.heldL (hk.mono A1)) (jV (tk.held (jo y3 (jb jl (jb (bL.mono z3) jj)))))
 rintro σ' pL ⟨u',e_,rfl,nb,Iu,xV⟩;rw[show p.gv.take vg.length=p.gv by rw[<- mL,bX]]at xV;have CL:=xV.length;rw[ax,ax]at CL;refine⟨gL,lg,_,_,rfl,rfl,nb _ _ wD,Iu,jY (by omega),fun rF Hq=>?_⟩;have rg:=nb.trans (je Hq (.lst (ks8++e_)));have Ni:upd pL rF (.lst (ks8++e_)) rF=some (.lst (ks8++e_)):=jd;have nB:HeldL (upd pL rF (.lst (ks8++e_))) (zO p.f p rs x) (ks8++e_):=jL (xW.mono rg) (xV.mono (je Hq _));generalize upd pL rF (.lst (ks8++e_))=Ap at *;have Qr:(zO p.f p rs x).length<=30:=by
  have:=nB.length;rw[this,aG];omega
 have hltk:(ks8++e_).length<=30:=by rw[aG];omega
 generalize ks8++e_=ks12 at *;have mf:=wC.trans rg;have kE:KB dl H Ap:=fun b o hb e=>mf _ _ (kB b o hb e)
 have Go:=mf _ _ nu;have Aa:=gW.mono mf;have pd:=mf _ _ rQ;have Do:=fS.mono mf;clear fS rQ gW nu xW xV Iu wD y4;refine gQ ?_;refine⟨_,rfl,bh,rfl,⟨_,SqL.of Go⟩,fun l hl=>?_⟩;have mv:=Aa.len;generalize hw2:aq.map (·++jU p.f p.ps as)=ways2 at *;have QB:∀w∈ways2,w.length<=806:=fun w' cH=>by
  rw[<- hw2]at cH;obtain⟨w1,h1,rfl⟩:=ci.mp cH;have:=uH w1 h1;rw[aG];omega
 refine qF (xs:=ig.map V.ref) (fun i σ' G=>∃u as,σ'=[u,some (.ref rF)]/\Same Ap G/\G l=some (.lst (as.map V.ref))/\as.length=i/\l ∉ as/\WayL G dl ((ways2.take i).map (·++zO p.f p rs x)) as) ⟨none,[],rfl,je hl _,jd,rfl,wt,by rw[eX];trivial⟩ ?_ ?_ ?_
 .rintro i σ' G _ ⟨u,as,rfl,sG,_⟩
  exact SqL.of (sG _ _ Go)
 .rintro i x σ' G hx ⟨u,as,rfl,sG,hG,mw,nl,hA⟩
  have fN:i < ig.length:=by have:=(bN.mp hx).1;rw[ax]at this;exact this
  have hi:i < ways2.length:=by omega
  rw[bF,aI fN]at hx
  cases hx
  obtain⟨li,us,cP,de⟩:=Aa.get (aI hi) (aI fN);have hb:=QB _ (ft hi);have e1:=de.length;unfold qh yP;refine qB ?_;refine⟨_,rfl,_,rfl,_,rF,us,_,rfl,rfl,sG _ _ cP,sG _ _ Ni,jY (by omega),fun l2 a_=>?_⟩;have s2:=je a_ (.lst (us++ks12));have e3:upd G l2 (.lst (us++ks12)) l2=some (.lst (us++ks12)):=jd;have n2:l2≠l:=fun z=>by rw[z,hG]at a_;cases a_
  have n3:l2≠dl:=fun z=>by rw[z,sG _ _ pd]at a_;cases a_
  generalize upd G l2 (.lst (us++ks12))=G2 at *;have aY:=s2 _ _ hG;have k5:∀b o,b≠l->G2 b=some o->upd G2 l (.lst (as.map V.ref++[.ref l2])) b=some o:=fun b o hb e=>by rw[jw hb];exact e
  have ij:=jR k5 aY;refine⟨_,aY,jz (by rw[ax];omega),_,as++[l2],rfl,fun b o e=>k5 b o (jr e hl) (s2 _ _ (sG _ _ e)),by rw[jd,aW];rfl,by rw[aG,mw];rfl,?_,?_⟩
  .intro z
   rcases aT.mp z with z | z
   .exact nl z
   .exact n2 (aN.mp z).symm
  .rw[show ways2.take (i+1)=ways2.take i++[ways2[i]] by rw[bP,aI hi];rfl,aW]
   refine WayL.app (WayL.keepO (hA.mono s2) k5 ij nl) ⟨⟨n3,us++ks12,k5 _ _ n2 e3,?_⟩,trivial⟩;exact ij.heldL (jL (de.mono (sG.trans s2)) (nB.mono (sG.trans s2)))
 rintro σ' Tf ⟨u,as13,rfl,rf,RU,mw,nl,hA⟩;rw[ax,mv,bX]at hA;have Of:l≠dl:=fun z=>by rw[z,pd]at hl;cases hl
 have WF:=(W.keep (fun b o hb e=>rf _ _ (kE b o hb e)) (rf _ _ pd)).at RU hA Of;exact q.1 _ aK aD l Tf rfl (fun b o hb e=>rf _ _ (kE b o hb e)) (by unfold Yc;rw[hw2];exact WF) (by unfold Yc;rw[hw2];exact Do.mono rf) um fun b hb=>eZ.free (Bz b hb)
end
abbrev jfb:aJ:=top 53
abbrev KJ:aJ:=top 54
abbrev JM:aJ:=top 55
structure LC(p0 p1:Pc)(pr:Str->Pc):Prop where
 ne:p0.f≠p1.f
 e0:pr p0.f=p0
 e1:pr p1.f=p1
 n0:NoClash p0
 n1:NoClash p1
abbrev gsL(p0 p1:Pc):List Str:=[p0.f,p1.f]
inductive spWalkL(n:Nat)(vs:List V)(H:Hp)(Q:VK)(E:XK):Prop
 | mk (hd ba ar wy dl:aa) (p0 p1:Pc) (pr:Str->Pc) (ms bs:List V) (path:List Int) (aq:List (List D)) (bd:List (StN n)) (_:vs=[.ref hd,.ref ba,.ref ar,.ref wy,.ref dl]) (_:LC p0 p1 pr) (_:LkAt H hd dl p0 p1 ms wy aq) (_:H ar=some (.tup (path.map V.int))) (_:H ba=some (.tup bs)) (_:HeldL H (bd.map (stD n)) bs) (_:(∀S∈bd,okN (gsL p0 p1) pr n S)/\bd.length<=100/\PreW p0.f ms path aq (2 * n) (bd.map (km n)).sum (bd.map (kQ n)).sum/\jcg H hd dl p0 p1 ms (goN p0.f pr n path aq bd) Q)
inductive spIfL(n:Nat)(vs:List V)(H:Hp)(Q:VK)(E:XK):Prop
 | mk (hd pt wy dl:aa) (sv:V) (p0 p1:Pc) (pr:Str->Pc) (ms:List V) (path:List Int) (aq:List (List D)) (a b:Tm) (c:Int) (x y:List (StN n)) (_:vs=[.ref hd,sv,.ref pt,.ref wy,.ref dl]) (_:LC p0 p1 pr) (_:LkAt H hd dl p0 p1 ms wy aq) (_:H pt=some (.tup (path.map V.int))) (_:Held H (stD (n+1) (Fo.ite a b c x y)) sv) (_:okN (gsL p0 p1) pr (n+1) (Fo.ite a b c x y)) (_:PreW p0.f ms path aq (2 * n+1) (km (n+1) (Fo.ite a b c x y)) (kQ (n+1) (Fo.ite a b c x y))) (_:jcg H hd dl p0 p1 ms (j6 p0.f pr (n+1) path aq (Fo.ite a b c x y)) Q)
inductive spLoopL(n:Nat)(vs:List V)(H:Hp)(Q:VK)(E:XK):Prop
 | mk (hd pt wy dl:aa) (sv:V) (p0 p1:Pc) (pr:Str->Pc) (ms:List V) (path:List Int) (aq:List (List D)) (a b:Tm) (c:Int) (ks:List Cl) (x:List (StN n)) (_:vs=[.ref hd,sv,.ref pt,.ref wy,.ref dl]) (_:LC p0 p1 pr) (_:LkAt H hd dl p0 p1 ms wy aq) (_:H pt=some (.tup (path.map V.int))) (_:Held H (stD (n+1) (Fo.whl a b c ks x)) sv) (_:okN (gsL p0 p1) pr (n+1) (Fo.whl a b c ks x)) (_:PreW p0.f ms path aq (2 * n+1) (km (n+1) (Fo.whl a b c ks x)) (kQ (n+1) (Fo.whl a b c ks x))) (_:jcg H hd dl p0 p1 ms (j6 p0.f pr (n+1) path aq (Fo.whl a b c ks x)) Q)
section
theorem jgk(F:Fun K "_law_if" "_law_if" jfb f fd)(eB:Fn P w K mg base 1 "_law_turned" ["_law_least"] spTurned)(gz:Fn P w K mg base 1 "_law_behind" ["_law_ways","_law_row"] spBehL)(n_:Fn P w K mg base (2 * n+5) "_law_walk" ["_law_heads","_law_body_here","_law_before","_law_ways","_law_due"] (spWalkL n)):FnOk P w K mg base CX0 (2 * n+5+1) f fd ["_law_heads","_law_statement","_law_at","_law_ways","_law_due"] (spIfL n):=by
 have sc:FnScope ["_law_heads","_law_statement","_law_at","_law_ways","_law_due","_law_yes","_law_no"] ["_law_heads","_law_statement","_law_at","_law_ways","_law_due"] (jp jfb):=fQ;refine F.okZ sc (fun aH A outer s H vs Q E hr h=>?_);obtain⟨hd,pt,wy,dl,sv,p0,p1,pr,ms,path,aq,a,b,c,x,y,rfl,L,W,bO,hS,hok,hp,q⟩:=h;refine⟨_,(jg (ju (i:=5) sc.nd rfl oQ (jO n_ hr (ja (zpv 0) (ja (jk jq (zpv 1) jf (fun _ _=>rfl)) (ja (jn qg (zpv 2) (js (ja jf jc))) (ja (jO gz hr (ja (zpv 3) (ja (js (ja jm (ja (jk jq (zpv 1) jf (fun _ _=>rfl)) jc))) jc))) (ja (zpv 4) jc)))))))
   (jg (jJ (jx JN (zpv 5) qy (jB _)) (jh (jv qy)) jC)
   (jg (ju (i:=6) sc.nd rfl oQ (jO n_ hr (ja (zpv 0) (ja (jk jq (zpv 1) jf (fun _ _=>rfl)) (ja (jn qg (zpv 2) (js (ja jf jc))) (ja (jO gz hr (ja (zpv 3) (ja (js (ja jm (ja (jO eB hr (ja (jk jq (zpv 1) jf (fun _ _=>rfl)) jc)) jc))) jc))) (ja (zpv 4) jc)))))))
   (jg (jJ (jx JN (zpv 6) qy (jB _)) (jh (jv qy)) jC)
   (jh (jv (jn kd (zpv 5) (zpv 6)))))))),?_⟩
 refine jP (σ':=[some (.ref hd),some sv,some (.ref pt),some (.ref wy),some (.ref dl),none,none]) rfl ?_
 try dsimp only[j7]
 refine jay ?_;intro _ _ _ _;obtain⟨t,u,px,py,xs,ys,rfl,ht,dm,o8,ls,GH,mD⟩:=yd (show Held H (Nd.ite a b c (x.map (stD n)) (y.map (stD n))).toD sv from hS);obtain⟨oW,BY,uV,GL⟩:=hok;obtain⟨was,hwy,hW⟩:=W.hwy;have hdl:=W.hdl;have lj:=qd bO hdl;have hms:ms.length+((x.map (km n)).sum+(y.map (km n)).sum)<=9000:=hp.hms;have gk:1+(x.map (kQ n)).sum+(y.map (kQ n)).sum<=760:=hp.len0;have hlen:∀w∈aq,w.length+(1+(x.map (kQ n)).sum+(y.map (kQ n)).sum)<=800:=hp.hlen;have fK:=hp.hpath;have dO:=hp.w16;have gN:∀d:D,(aq.map (·++[d])).length<=16:=fun d=>by rw[ax];exact dO
 have cP:∀(d:D) (m:Nat),(m=(x.map (kQ n)).sum\/m=(y.map (kQ n)).sum)->∀w∈aq.map (·++[d]),w.length+m<=800:=fun d m hm w' cH=>by
  obtain⟨w1,h1,rfl⟩:=ci.mp cH;have:=hlen w1 h1;rw[aG];show w1.length+1+m<=800;rcases hm with rfl | rfl <;> omega
 refine⟨_,rfl,_,rfl,t,_,_,_,rfl,rfl,SqT.of ht,rfl,_,rfl,sm rfl,fun t1 bS=>?_⟩;have s1:=je bS (.tup [V.int 0]);have e1:upd H t1 (.tup [V.int 0]) t1=some (.tup [V.int 0]):=jd;generalize upd H t1 (.tup [V.int 0])=H1 at *;refine⟨pt,t1,_,_,rfl,rfl,s1 _ _ bO,e1,jY (by rw[ax];show path.length+1<=1000;omega),fun t2 H2 s2 e2=>?_⟩;have aQ:=s1.trans s2;refine⟨_,rfl,_,rfl,t,_,_,_,rfl,rfl,SqT.of (aQ _ _ ht),rfl,sm rfl,fun t3 eJ=>?_⟩;have s3:=je eJ (.tup [V.str "know",u]);have e3:upd H2 t3 (.tup [V.str "know",u]) t3=some (.tup [V.str "know",u]):=jd;generalize upd H2 t3 (.tup [V.str "know",u])=H3 at *;have bG:=aQ.trans s3;have nM:Held H3 (jG (.least a b c)) (.ref t3):=jo e3 (jb jl (jb (dm.mono bG) jj));refine⟨wy,dl,.ref t3,_,was,ms,aq,rfl,bG _ _ hwy,bG _ _ hdl,hW.mono bG,nM,by omega,fun w hw=>by have:=hlen w hw;omega,fun l4 as4 H4 s4 n4 e4 gW=>?_⟩;have dI:=bG.trans s4;have w_:l4≠dl:=fun z=>by rw[z,bG _ _ hdl]at n4;cases n4
 refine⟨_,rfl,hd,px,t2,l4,dl,p0,p1,pr,ms,xs,path++[0],_,x,rfl,L,(W.mono dI).at e4 gW w_,by rw[aW];exact (s3.trans s4) _ _ e2,dI _ _ o8,ls.mono dI,uV,oW,⟨hp.fl,gN _,by omega,cP _ _ (.inl rfl),by omega,by rw[aG];show path.length+1+_<=90;omega⟩,fun r1 dJ fC fB H5 eP k5 W5 Dn Ou F0=>?_,fun eP H5 k5=>?_⟩
 .have rH:KB dl H H5:=fun b o hb e=>k5 b o hb (dI _ _ e)
  obtain⟨tM,O9,z_⟩:=W5.hwy;refine gQ ?_;refine⟨_,rfl,rfl,_,rfl,qU ?_⟩;have bn:=qO (gs:=gsL p0 p1) uV (gN _) eP;have bc:=bn.c;have BM:=Dn.len;refine⟨_,rfl,_,rfl,t,_,_,_,rfl,rfl,SqT.of (rH _ _ (qd ht hdl) ht),rfl,_,rfl,sm rfl,fun t6 B_=>?_⟩;have s6:=je B_ (.tup [V.int 1]);have e6:upd H5 t6 (.tup [V.int 1]) t6=some (.tup [V.int 1]):=jd;generalize upd H5 t6 (.tup [V.int 1])=H6 at *;refine⟨pt,t6,_,_,rfl,rfl,s6 _ _ (rH _ _ lj bO),e6,jY (by rw[ax];show path.length+1<=1000;omega),fun t7 H7 s7 e7=>?_⟩;have FG:=s6.trans s7;have mC:KB dl H H7:=fun b o hb e=>FG _ _ (rH b o hb e)
  have Nx:=jR mC hdl;refine⟨_,rfl,_,rfl,t,_,_,_,rfl,rfl,SqT.of (mC _ _ (qd ht hdl) ht),rfl,u,a,b,c,rfl,Nx.held dm,fun u8 H8 s8 Px=>⟨sm rfl,fun t9 uJ=>?_⟩⟩;have s9:=je uJ (.tup [V.str "know",u8]);have e9:upd H8 t9 (.tup [V.str "know",u8]) t9=some (.tup [V.str "know",u8]):=jd;generalize upd H8 t9 (.tup [V.str "know",u8])=H9 at *;have wX:=FG.trans (s8.trans s9);have QX:Held H9 (jG (.least b a (1 - c))) (.ref t9):=jo e9 (jb jl (jb (Px.mono s9) jj));have nr:KB dl H H9:=fun b o hb e=>wX _ _ (rH b o hb e)
  have W9:=(W.keep rH W5.hdl).mono wX;have O7:=nr _ _ W.nwy hwy;have Dc:=(hW.keep rH hdl).mono wX;refine⟨wy,dl,.ref t9,_,was,ms++dJ,aq,rfl,O7,W9.hdl,Dc,QX,by omega,fun w hw=>by have:=hlen w hw;omega,fun gL as10 dP dZ BI vL pD=>?_⟩;have FH:=wX.trans dZ;have Og:gL≠dl:=fun z=>by rw[z,W9.hdl]at BI;cases BI
  have fG:KB dl H dP:=fun b o hb e=>dZ _ _ (nr b o hb e)
  have A_:=jR fG hdl;have nG:dl ∉ fC:=fun z=>by have:=F0 _ z;rw[dI _ _ hdl]at this;cases this
  refine⟨_,rfl,hd,py,t7,gL,dl,p0,p1,pr,ms++dJ,ys,path++[1],_,y,rfl,L,(W9.mono dZ).at vL pD Og,by rw[aW];exact (s8.trans (s9.trans dZ)) _ _ e7,fG _ _ (qd GH hdl) GH,A_.heldL mD,GL,BY,⟨hp.fl,gN _,by rw[aG];omega,cP _ _ (.inr rfl),by omega,by rw[aG];show path.length+1+_<=90;omega⟩,fun r2 cj bZ c_ cq cn mB DT Dp BD xf=>?_,fun cn cq mB=>?_⟩
  .obtain⟨tN,Pa,Ab⟩:=DT.hwy
   have SD:=qO (gs:=gsL p0 p1) GL (gN _) cn;refine gQ ?_;refine⟨_,rfl,rfl,_,rfl,qU ?_⟩;have kA:KB dl H5 cq:=fun b o hb e=>mB b o hb (FH _ _ e)
   have nv:=kA _ _ W5.nwy O9;have nU:=z_.keep kA W5.hdl;have l1:=z_.len;have l2:=Ab.len;have w1:=bn.w;have w2:=SD.w;refine⟨_,rfl,_,rfl,fB,c_,_,_,rfl,rfl,nv,Pa,jY (by rw[ax,ax];omega),fun l hl=>?_⟩;have aQ:=je hl (.lst (tM.map V.ref++tN.map V.ref));have DC:upd cq l (.lst (tM.map V.ref++tN.map V.ref)) l=some (.lst (tM.map V.ref++tN.map V.ref)):=jd;generalize upd cq l (.lst (tM.map V.ref++tN.map V.ref))=hU at *;have nl:l≠dl:=fun z=>by rw[z,DT.hdl]at hl;cases hl
   refine q.1 (r1.1++r2.1,r1.2++r2.2) (dJ++cj) (fC++bZ) l hU ?_ (fun b o hb e=>aQ _ _ (mB b o hb (fG b o hb e))) (by rw[<- dH];exact (DT.mono aQ).at (was:=tM++tN) (by rw[aW];exact DC) (WayL.app (nU.mono aQ) (Ab.mono aQ)) nl) (DutsAt.app ((DutsAt.keep kA W5.hdl Dn nG).mono aQ) (Dp.mono aQ)) ?_ ?_
   .show Fo.walk (j6 p0.f pr n) p0.f pr path aq (.ite a b c x y)=_
    unfold Fo.walk;dsimp only;rw[show goO (j6 p0.f pr n) (path++[0]) 0 (aq.map (·++[jG (.least a b c)])) x=some r1 from eP];dsimp only;rw[show goO (j6 p0.f pr n) (path++[1]) 0 (aq.map (·++[jG (.least b a (1 - c))])) y=some r2 from cn]
   .refine ia.mpr ⟨Ou,BD,fun b hb c hc=>?_⟩
    rintro rfl;exact kj (Dn.mono FH) b hb (xf b hc)
   .intro b hb
    rcases aT.mp hb with hb | hb
    .exact dI.free (F0 b hb)
    .have hn:=xf b hb
     have iK:b≠dl:=fun z=>by rw[z,(W9.mono dZ).hdl]at hn;cases hn
     rcases hh:H b with _ | o
     .rfl
     .rw[fG b o iK hh]at hn;cases hn
  .refine gQ ?_
   refine⟨_,rfl,rfl,_,rfl,qB ?_⟩;refine q.2 ?_ cq fun b o hb e=>mB b o hb (fG b o hb e)
   show Fo.walk (j6 p0.f pr n) p0.f pr path aq (.ite a b c x y)=_;unfold Fo.walk;dsimp only;rw[show goO (j6 p0.f pr n) (path++[0]) 0 (aq.map (·++[jG (.least a b c)])) x=some r1 from eP];dsimp only;rw[show goO (j6 p0.f pr n) (path++[1]) 0 (aq.map (·++[jG (.least b a (1 - c))])) y=none from cn]
 .refine gQ ?_
  refine⟨_,rfl,rfl,_,rfl,qB ?_⟩;refine q.2 ?_ H5 fun b o hb e=>k5 b o hb (dI _ _ e)
  show Fo.walk (j6 p0.f pr n) p0.f pr path aq (.ite a b c x y)=_;unfold Fo.walk;dsimp only;rw[show goO (j6 p0.f pr n) (path++[0]) 0 (aq.map (·++[jG (.least a b c)])) x=none from eP]
end
section
theorem jej(F:Fun K "_law_loop" "_law_loop" KJ f fd)(eB:Fn P w K mg base 1 "_law_turned" ["_law_least"] spTurned)(fg:Fn P w K mg base 1 "_law_note" ["_law_due","_law_head","_law_claims","_law_ways"] (spNoteB true))(n_:Fn P w K mg base (2 * n+5) "_law_walk" ["_law_heads","_law_body_here","_law_before","_law_ways","_law_due"] (spWalkL n)):FnOk P w K mg base CX0 (2 * n+5+1) f fd ["_law_heads","_law_statement","_law_at","_law_ways","_law_due"] (spLoopL n):=by
 have sc:FnScope ["_law_heads","_law_statement","_law_at","_law_ways","_law_due","_law_anew","_law_ends"] ["_law_heads","_law_statement","_law_at","_law_ways","_law_due"] (jp KJ):=fQ;refine F.okZ sc (fun aH A outer s H vs Q E hr h=>?_);obtain⟨hd,pt,wy,dl,sv,p0,p1,pr,ms,path,aq,a,b,c,ks,x,rfl,L,W,bO,hS,hok,hp,q⟩:=h;refine⟨_,(jg (jW (jO fg hr (ja (zpv 4) (ja (js (ja (jk jq (jk jS (zpv 0) jf (fun _ _=>rfl)) jf (fun _ _=>rfl)) (ja jm (ja (zpv 2) jc)))) (ja (jk jq (zpv 1) jf (fun _ _=>rfl)) (ja (zpv 3) jc))))))
   (jg (zD (i:=5) sc.nd rfl oQ ["_law_keep"] [] rfl (ku (sc:=jp KJ) (N:=["_law_heads","_law_statement","_law_at","_law_ways","_law_due","_law_anew","_law_ends"]) rfl rfl (by decide +kernel)) (kT (jk jq (zpv 1) jf (fun _ _=>rfl))) (fun s H ex=>⟨(jt (i:=0) (show dk (["_law_keep"]:List Str) by decide +kernel) rfl oQ),kD,(js (ja jm (ja (zpv 0) jc)))⟩))
   (jg (ju (i:=6) sc.nd rfl oQ (jO n_ hr (ja (zpv 0) (ja (jk jq (zpv 1) jf (fun _ _=>rfl)) (ja (jn qg (zpv 2) (js (ja jf jc))) (ja (jF (ja (jn kd (zpv 5) (jF (ja (js (ja jm (ja (jk jq (zpv 1) jf (fun _ _=>rfl)) jc))) jc))) jc)) (ja (zpv 4) jc)))))))
   (jg (jJ (jx JN (zpv 6) qy (jB _)) (jh (jv qy)) jC)
   (jg (jW (jO fg hr (ja (zpv 4) (ja (js (ja (jk jq (jk jS (zpv 0) jf (fun _ _=>rfl)) jf (fun _ _=>rfl)) (ja jm (ja (zpv 2) jc)))) (ja (jk jq (zpv 1) jf (fun _ _=>rfl)) (ja (zpv 6) jc))))))
   (jh (jv (jF (ja (jn kd (zpv 5) (jF (ja (js (ja jm (ja (jO eB hr (ja (jk jq (zpv 1) jf (fun _ _=>rfl)) jc)) jc))) jc))) jc))))))))),?_⟩
 refine jP (σ':=[some (.ref hd),some sv,some (.ref pt),some (.ref wy),some (.ref dl),none,none]) rfl ?_
 try dsimp only[j7]
 refine jb5 ?_;intro _ _ _ _ _;obtain⟨t,u,pk,px,A7,xs,rfl,ht,dm,mF,xy,o8,ls⟩:=zV (show Held H (Nd.whl a b c ks (x.map (stD n))).toD sv from hS);obtain⟨CQ,oW,uV⟩:=hok;obtain⟨was,hwy,hW⟩:=W.hwy;obtain⟨v0,v1,hhd,oY,rL⟩:=W.hhd;obtain⟨rB,_,_,_,_,_,_,_,_,rfl,o9,_⟩:=zy oY;have hdl:=W.hdl;have nt:∀{b:aa} {ys:List V},H b=some (.tup ys)->b≠dl:=fun e=>qd e hdl
 have hms:ms.length+(32 * ks.length+(x.map (km n)).sum)<=9000:=hp.hms;have gk:ks.length+1+(x.map (kQ n)).sum<=760:=hp.len0;have fK:=hp.hpath;have dO:=hp.w16;have cN:=xy.length;rw[ax]at cN;refine⟨_,rfl,_,rfl,hd,_,_,_,rfl,rfl,SqL.of hhd,kU (j:=0) rfl,rB,_,_,_,rfl,rfl,SqT.of o9,rfl,_,rfl,sm rfl,fun th lz=>?_⟩;have z0:=je lz (.tup [V.str p0.f,.str "enter",.ref pt]);have y0:upd H th (.tup [V.str p0.f,.str "enter",.ref pt]) th=some (.tup [V.str p0.f,.str "enter",.ref pt]):=jd;generalize upd H th (.tup [V.str p0.f,.str "enter",.ref pt])=H1 at *;have u_:aq.length * ks.length<=16 * ks.length:=m_ _ dO;refine⟨_,rfl,t,_,_,_,rfl,rfl,SqT.of (z0 _ _ ht),rfl,_,rfl,dl,th,pt,wy,pk,was,p0.f,"enter",ms,A7,path,aq,ks,rfl,y0,z0 _ _ hdl,z0 _ _ bO,z0 _ _ hwy,hW.mono z0,z0 _ _ mF,xy.mono z0,W.nwy,nt mF,by omega,by omega,fun dJ fC H2 k2 Qh mS mt oS=>?_⟩;have fF:KB dl H H2:=fun b o hb e=>k2 b o hb (z0 _ _ e)
 have W2:=W.keep fF Qh;have Fl:=jR fF hdl;have Gg:=mS.len;rw[kZ]at Gg;refine⟨_,rfl,t,_,_,_,rfl,rfl,SqT.of (fF _ _ (nt ht) ht),rfl,pk,rfl,⟨_,SqT.of (fF _ _ (nt mF) mF)⟩,fun an fc=>?_⟩;refine zc (xs:=A7) (fun i σ' G=>∃u us,σ'=[u]/\Same H2 G/\G an=some (.lst us)/\HeldL G ((ks.take i).map jG) us) ⟨none,[],rfl,je fc _,jd,jj⟩ ?_ ?_ ?_
 .rintro i σ' G _ ⟨u,us,rfl,sG,_⟩
  exact SqT.of (sG _ _ (fF _ _ (nt mF) mF))
 .rintro i v σ' G hx ⟨u,us,rfl,sG,hG,dL⟩
  have hi:i < ks.length:=by have:=(bN.mp hx).1;omega
  obtain⟨x',bq,cw⟩:=(Fl.heldL xy).get (show (ks.map Cl.toD)[i]?=some ks[i].toD by rw[bF,aI hi];rfl);rw[hx]at bq
  cases bq
  have dw:=dL.length;rw[ax,bK]at dw;unfold qh yP;refine qB ?_;refine⟨_,rfl,sm rfl,fun t7 uK=>?_⟩;have z2:=je uK (.tup [V.str "know",v]);have y2:upd G t7 (.tup [V.str "know",v]) t7=some (.tup [V.str "know",v]):=jd;generalize upd G t7 (.tup [V.str "know",v])=G2 at *;have aY:=z2 _ _ hG;have tk:TK G2 (upd G2 an (.lst (us++[.ref t7]))):=TK.upd aY (fun _ z=>by cases z);refine⟨us,aY,jz (by omega),_,_,rfl,fun b o e=>?_,jd,?_⟩
  .rw[jw (jr e fc)];exact z2 _ _ (sG _ _ e)
  .rw[show ks.take (i+1)=ks.take i++[ks[i]] by rw[bP,aI hi];rfl,aW]
   exact jL (tk.heldL (dL.mono z2)) (jV (tk.held (jo y2 (jb jl (jb (cw.mono (sG.trans z2)) jj)))))
 rintro σ' H3 ⟨u3,gF,rfl,s3,HX,xz⟩;rw[<- cN,bX]at xz;have nq:=xz.length;rw[ax]at nq;have Ox:an≠dl:=fun z=>by rw[z,W2.hdl]at fc;cases fc
 have uD:KB dl H H3:=fun b o hb e=>s3 _ _ (fF b o hb e)
 have Ny:=jR uD hdl;have W3:=W2.mono s3;have lL:=mS.mono s3;have F1:∀b∈fC,H b=none:=fun b hb=>z0.free (oS b hb)
 have uZ:dl ∉ fC:=fun z=>by have:=F1 _ z;rw[hdl]at this;cases this
 clear mS W2 Fl z0 y0 lz;refine gQ ?_;refine⟨_,rfl,_,rfl,t,_,_,_,rfl,rfl,SqT.of (uD _ _ (nt ht) ht),rfl,_,rfl,sm rfl,fun t1 bS=>?_⟩;have s4:=je bS (.tup [V.int 0]);have e4:upd H3 t1 (.tup [V.int 0]) t1=some (.tup [V.int 0]):=jd;generalize upd H3 t1 (.tup [V.int 0])=H4 at *;refine⟨pt,t1,_,_,rfl,rfl,s4 _ _ (uD _ _ (nt bO) bO),e4,jY (by rw[ax];show path.length+1<=1000;omega),fun t2 H5 s5 e5=>?_⟩;have gI:=s4.trans s5;refine⟨_,rfl,_,rfl,t,_,_,_,rfl,rfl,SqT.of (gI _ _ (uD _ _ (nt ht) ht)),rfl,sm rfl,fun t3 eJ=>?_⟩;have s6:=je eJ (.tup [V.str "know",u]);have e6:upd H5 t3 (.tup [V.str "know",u]) t3=some (.tup [V.str "know",u]):=jd;generalize upd H5 t3 (.tup [V.str "know",u])=H6 at *;have oP:=gI.trans s6;have xS:Held H6 (jG (.least a b c)) (.ref t3):=jo e6 (jb jl (jb ((Ny.held dm).mono oP) jj));refine⟨sm rfl,fun l4 dy=>?_⟩;have s7:=je dy (.lst [V.ref t3]);have e7:upd H6 l4 (.lst [V.ref t3]) l4=some (.lst [V.ref t3]):=jd;generalize upd H6 l4 (.lst [V.ref t3])=H7 at *;have Bf:=oP.trans s7;refine⟨an,l4,_,_,rfl,rfl,Bf _ _ HX,e7,jY (by show gF.length+1<=1000;omega),fun l5 vd=>?_⟩;have s8:=je vd (.lst (gF++[V.ref t3]));have e8:upd H7 l5 (.lst (gF++[V.ref t3])) l5=some (.lst (gF++[V.ref t3])):=jd;generalize upd H7 l5 (.lst (gF++[V.ref t3]))=H8 at *;have FI:=Bf.trans s8;have n5:l5≠dl:=fun z=>by rw[z,Bf _ _ W3.hdl]at vd;cases vd
 refine⟨sm rfl,fun l6 gj=>?_⟩;have s9:=je gj (.lst [V.ref l5]);have e9:upd H8 l6 (.lst [V.ref l5]) l6=some (.lst [V.ref l5]):=jd;generalize upd H8 l6 (.lst [V.ref l5])=H9 at *;have n6:l6≠dl:=fun z=>by rw[z,FI _ _ W3.hdl]at gj;cases gj
 have i9:=FI.trans s9;have nr:KB dl H H9:=fun b o hb e=>i9 _ _ (uD b o hb e)
 have Nw:=jR nr hdl;have de:HeldL H9 (ks.map jG++[jG (.least a b c)]) (gF++[V.ref t3]):=jL (xz.mono i9) (jV (xS.mono (s7.trans (s8.trans s9))));have Dc:WayL H9 dl [ks.map jG++[jG (.least a b c)]] [l5]:=⟨⟨n5,_,s9 _ _ e8,de⟩,trivial⟩
 refine⟨_,rfl,hd,px,t2,l6,dl,p0,p1,pr,ms++dJ,xs,path++[0],_,x,rfl,L,(W3.mono i9).at (was:=[l5]) e9 Dc n6,by rw[aW];exact (s6.trans (s7.trans (s8.trans s9))) _ _ e5,nr _ _ (nt o8) o8,Nw.heldL ls,uV,oW,⟨hp.fl,(show 1<=16 by decide),by rw[aG];omega,fun w hw=>?_,by omega,by rw[aG];show path.length+1+_<=90;omega⟩,fun r1 cj bZ c_ dP er lm vR sf BE uj=>?_,fun er dP lm=>?_⟩
 .rw[aN.mp hw,aG,ax]
  show ks.length+1+_<=800;omega
 .have bn:=qO (gs:=gsL p0 p1) uV (show [ks.map jG++[jG (.least a b c)]].length<=16 from (show 1<=16 by decide)) er
  have bc:=bn.c;have bw:=bn.w;have BN:=sf.len;obtain⟨A5,uF,pD⟩:=vR.hwy;have fG:KB dl H dP:=fun b o hb e=>lm b o hb (nr b o hb e)
  refine gQ ?_;refine⟨_,rfl,rfl,_,rfl,qU ?_⟩;refine⟨_,rfl,_,rfl,hd,_,_,_,rfl,rfl,SqL.of (fG _ _ W.nhd hhd),kU (j:=0) rfl,rB,_,_,_,rfl,rfl,SqT.of (fG _ _ (nt o9) o9),rfl,_,rfl,sm rfl,fun tk lz=>?_⟩;have z0:=je lz (.tup [V.str p0.f,.str "keep",.ref pt]);have y0:upd dP tk (.tup [V.str p0.f,.str "keep",.ref pt]) tk=some (.tup [V.str p0.f,.str "keep",.ref pt]):=jd;generalize upd dP tk (.tup [V.str p0.f,.str "keep",.ref pt])=cq at *;have lq:KB dl H cq:=fun b o hb e=>z0 _ _ (fG b o hb e)
  have xO:r1.2.length * ks.length<=16 * ks.length:=m_ _ bw;refine⟨_,rfl,t,_,_,_,rfl,rfl,SqT.of (lq _ _ (nt ht) ht),rfl,_,rfl,dl,tk,pt,c_,pk,A5,p0.f,"keep",_,A7,path,r1.2,ks,rfl,y0,z0 _ _ vR.hdl,lq _ _ (nt bO) bO,z0 _ _ uF,pD.mono z0,lq _ _ (nt mF) mF,(jR lq hdl).heldL xy,vR.nwy,nt mF,by omega,by rw[aG,aG];omega,fun OF Nn hU BU pd Do Ow xa=>?_⟩;have BP:KB dl H9 hU:=fun b o hb e=>BU b o hb (z0 _ _ (lm b o hb e))
  have xt:KB dl H hU:=fun b o hb e=>BU b o hb (lq b o hb e)
  have Nz:=jR xt hdl;have xL:dl ∉ bZ:=fun z=>by have:=uj _ z;rw[i9 _ _ W3.hdl]at this;cases this
  have vQ:=W.keep xt pd;have RH:=BP _ _ Ox (i9 _ _ HX);have Pt:=(jR BP (i9 _ _ W3.hdl)).heldL (xz.mono i9);refine⟨_,rfl,_,rfl,t,_,_,_,rfl,rfl,SqT.of (xt _ _ (nt ht) ht),rfl,u,a,b,c,rfl,Nz.held dm,fun wK Ao bG PB=>⟨sm rfl,fun eE PM=>?_⟩⟩;have dI:=je PM (.tup [V.str "know",wK]);have DA:upd Ao eE (.tup [V.str "know",wK]) eE=some (.tup [V.str "know",wK]):=jd;generalize upd Ao eE (.tup [V.str "know",wK])=gx at *;have xU:Held gx (jG (.least b a (1 - c))) (.ref eE):=jo DA (jb jl (jb (PB.mono dI) jj));have NH:=bG.trans dI;refine⟨sm rfl,fun xl QM=>?_⟩;have gb:=je QM (.lst [V.ref eE]);have vK:upd gx xl (.lst [V.ref eE]) xl=some (.lst [V.ref eE]):=jd;generalize upd gx xl (.lst [V.ref eE])=H15 at *;have Bj:=NH.trans gb;refine⟨an,xl,_,_,rfl,rfl,Bj _ _ RH,vK,jY (by show gF.length+1<=1000;omega),fun mx CK=>?_⟩;have nj:=je CK (.lst (gF++[V.ref eE]));have Dz:upd H15 mx (.lst (gF++[V.ref eE])) mx=some (.lst (gF++[V.ref eE])):=jd;generalize upd H15 mx (.lst (gF++[V.ref eE]))=H16 at *;have FL:=Bj.trans nj;have OB:mx≠dl:=fun z=>by rw[z,Bj _ _ pd]at CK;cases CK
  refine⟨sm rfl,fun uz CJ=>?_⟩;have Bh:=je CJ (.lst [V.ref mx]);have Sk:upd H16 uz (.lst [V.ref mx]) uz=some (.lst [V.ref mx]):=jd;generalize upd H16 uz (.lst [V.ref mx])=H17 at *;have rq:=FL.trans Bh;have OA:uz≠dl:=fun z=>by rw[z,FL _ _ pd]at CJ;cases CJ
  have Pf:HeldL H17 (ks.map jG++[jG (.least b a (1 - c))]) (gF++[V.ref eE]):=jL (Pt.mono rq) (jV (xU.mono (gb.trans (nj.trans Bh))));have RX:=DutsAt.keep BP (i9 _ _ W3.hdl) (lL.mono i9) uZ;have RZ:=DutsAt.keep (fun b o hb e=>BU b o hb (z0 _ _ e)) vR.hdl sf xL;have Sc:∀b,b≠dl->H9 b=none->H b=none:=fun b hb hz=>by
   rcases hh:H b with _ | o
   .rfl
   .rw[nr b o hb hh]at hz;cases hz
  have Se:∀b,b≠dl->cq b=none->H b=none:=fun b hb hz=>by
   rcases hh:H b with _ | o
   .rfl
   .rw[lq b o hb hh]at hz;cases hz
  refine q.1 (ki p0.f "enter" path aq ks++(r1.1++ki p0.f "keep" path r1.2 ks),[ks.map jG++[jG (.least b a (1 - c))]]) (dJ++(cj++OF)) (fC++(bZ++Nn)) uz H17 ?_ (fun b o hb e=>rq _ _ (xt b o hb e)) (by rw[<- dH,<- dH];exact (vQ.mono rq).at (was:=[mx]) Sk ⟨⟨OB,_,Bh _ _ Dz,Pf⟩,trivial⟩ OA) (DutsAt.app (RX.mono rq) (DutsAt.app (RZ.mono rq) (Do.mono rq))) ?_ ?_
  .show Fo.walk (j6 p0.f pr n) p0.f pr path aq (.whl a b c ks x)=_
   unfold Fo.walk;dsimp only;rw[show goO (j6 p0.f pr n) (path++[0]) 0 [ks.map jG++[jG (.least a b c)]] x=some r1 from er]
  .refine ia.mpr ⟨mt,ia.mpr ⟨BE,Ow,fun b hb c hc=>?_⟩,fun b hb c hc=>?_⟩
   .rintro rfl
    exact kj (sf.mono z0) b hb (xa b hc)
   .rintro rfl
    have bT:=kj (lL.mono i9) b hb;rcases aT.mp hc with hc | hc
    .exact bT (uj b hc)
    .rcases hh:H9 b with _ | o
     .exact bT hh
     .have:=xa b hc
      rw[z0 _ _ (lm b o (fun z=>uZ (z ▸ hb)) hh)]at this
      cases this
  .intro b hb
   rcases aT.mp hb with hb | hb
   .exact F1 b hb
   .rcases aT.mp hb with hb | hb
    .exact Sc b (fun z=>xL (z ▸ hb)) (uj b hb)
    .exact Se b (fun z=>by have:=xa b hb;rw[z,z0 _ _ vR.hdl]at this;cases this) (xa b hb)
 .refine gQ ?_
  refine⟨_,rfl,rfl,_,rfl,qB ?_⟩;refine q.2 ?_ dP fun b o hb e=>lm b o hb (nr b o hb e)
  show Fo.walk (j6 p0.f pr n) p0.f pr path aq (.whl a b c ks x)=_;unfold Fo.walk;dsimp only;rw[show goO (j6 p0.f pr n) (path++[0]) 0 [ks.map jG++[jG (.least a b c)]] x=none from er]
end
def jhZ(R:Option Wk)(no:Prop)(Nh:Wk->Prop):Prop:=match R with
 | none=>no
 | some r=>Nh r
section
theorem jcG(F:Fun K "_law_walk" "_law_walk" JM f fd)(B:Free0 mg)(cx:mg "enumerate" = none):FnOk P w K mg base CX0 5 f fd ["_law_heads","_law_body_here","_law_before","_law_ways","_law_due"] (spWalkL 0):=by
 have sc:FnScope ["_law_heads","_law_body_here","_law_before","_law_ways","_law_due","_law_n","_law_statement","_law_at"] ["_law_heads","_law_body_here","_law_before","_law_ways","_law_due"] (jp JM):=fQ;refine F.okZ sc (fun aH A outer s H vs Q E hr h=>?_);obtain⟨hd,ba,ar,wy,dl,p0,p1,pr,ms,bs,path,aq,bd,rfl,L,U,em,dg,iL,hok,hl,hp,q⟩:=h
 cases Z8 (l:=bd)
 cases jK iL
 refine⟨_,(jg (kg dF rfl (zn (by rfl) cx (ja (zpv 1) jc)) (kn rfl (jy (jt (i:=5) sc.nd rfl oQ) (jy (jt (i:=6) sc.nd rfl oQ) j9))) (jg (ju (i:=7) sc.nd rfl oQ (jn qg (zpv 2) (js (ja (zpv 5) jc))))
   (jg (jJ (jx j4 (jk jq (zpv 6) jf (fun _ _=>rfl)) jm (jB _)) (jh (ju (i:=3) sc.nd rfl oQ kW)) (jh (jJ (jx j4 (jk jq (zpv 6) jf (fun _ _=>rfl)) jm (jB _)) (jh (ju (i:=3) sc.nd rfl oQ kW)) (jh (jJ (jx j4 (jk jq (zpv 6) jf (fun _ _=>rfl)) jm (jB _)) (jh (jW kW)) (jh (jJ (jx j4 (jk jq (zpv 6) jf (fun _ _=>rfl)) jm (jB _)) (jh (ju (i:=3) sc.nd rfl oQ kW)) (jh (ju (i:=3) sc.nd rfl oQ kW)))))))))
   (jh (jJ (Kq (jx JN (zpv 3) qy (jB _)) (Ji (jx Jt (kb jI (by rfl) B.len_ kz (ja (zpv 3) jc)) jf (jB _)))).pt (jh (jv qy)) jC)))))
   (jh (jv (zpv 3)))),?_⟩
 refine jP (σ':=[some (.ref hd),some (.ref ba),some (.ref ar),some (.ref wy),some (.ref dl),none,none,none]) rfl ?_
 try dsimp only[j7]
 refine⟨_,rfl,ba,rfl,⟨_,SqT.of dg⟩,?_⟩;refine qV (b:=true) (xs:=[]) (fun i σ G=>∃u4 u5 u6,σ=[some (.ref hd),some (.ref ba),some (.ref ar),some (.ref wy),some (.ref dl),u4,u5,u6]/\G=H) ⟨none,none,none,rfl,rfl⟩ ?_ ?_ ?_
 .rintro i σ G _ ⟨u4,u5,u6,rfl,rfl⟩
  exact SqT.of dg
 .rintro i y σ G t hy _ _
  simp at hy
 rintro σ G ⟨u4,u5,u6,rfl,rfl⟩;exact⟨_,rfl,q.1 ([],aq) [] [] wy G rfl (fun _ _ _ e=>e) (by rw[cv];exact U) trivial iY fun _ z=>by cases z⟩
theorem jd7(F:Fun K "_law_walk" "_law_walk" JM f fd)(B:Free0 mg)(cx:mg "enumerate" = none)(Tn:Fn P w K mg base (2 * n+6) "_law_if" ["_law_heads","_law_statement","_law_at","_law_ways","_law_due"] (spIfL n))(Tl:Fn P w K mg base (2 * n+6) "_law_loop" ["_law_heads","_law_statement","_law_at","_law_ways","_law_due"] (spLoopL n))(fg:Fn P w K mg base 1 "_law_note" ["_law_due","_law_head","_law_claims","_law_ways"] (spNoteB false))(sB:Fn P w K mg base 4 "_law_call" ["_law_heads","_law_statement","_law_at","_law_ways","_law_due"] spCallL)(gz:Fn P w K mg base 1 "_law_behind" ["_law_ways","_law_row"] spBehL):FnOk P w K mg base CX0 (2 * n+6+1) f fd ["_law_heads","_law_body_here","_law_before","_law_ways","_law_due"] (spWalkL (n+1)):=by
 have sc:FnScope ["_law_heads","_law_body_here","_law_before","_law_ways","_law_due","_law_n","_law_statement","_law_at"] ["_law_heads","_law_body_here","_law_before","_law_ways","_law_due"] (jp JM):=fQ;refine F.okZ sc (fun aH A outer s H vs Q E hr h=>?_);obtain⟨hd,ba,ar,wy,dl,p0,p1,pr,ms,bs,path,aq,bd,rfl,L,U,em,dg,iL,hok,QN,hp,q⟩:=h;refine⟨_,(jg (kg dF rfl (zn (by rfl) cx (ja (zpv 1) jc)) (kn rfl (jy (jt (i:=5) sc.nd rfl oQ) (jy (jt (i:=6) sc.nd rfl oQ) j9))) (jg (ju (i:=7) sc.nd rfl oQ (jn qg (zpv 2) (js (ja (zpv 5) jc))))
   (jg (yj (jJ (jx j4 (jk jq (zpv 6) jf (fun _ _=>rfl)) jm (jB _)) (jh (ju (i:=3) sc.nd rfl oQ (jO Tn hr (ja (zpv 0) (ja (zpv 6) (ja (zpv 7) (ja (zpv 3) (ja (zpv 4) jc)))))))) (jh (jJ (jx j4 (jk jq (zpv 6) jf (fun _ _=>rfl)) jm (jB _)) (jh (ju (i:=3) sc.nd rfl oQ (jO Tl hr (ja (zpv 0) (ja (zpv 6) (ja (zpv 7) (ja (zpv 3) (ja (zpv 4) jc)))))))) (jh (jJ (jx j4 (jk jq (zpv 6) jf (fun _ _=>rfl)) jm (jB _)) (jh (jW (jO fg hr (ja (zpv 4) (ja (js (ja (jk jq (jk jS (zpv 0) jf (fun _ _=>rfl)) jf (fun _ _=>rfl)) (ja jm (ja (zpv 7) jc)))) (ja (jF (ja (jk jq (zpv 6) jf (fun _ _=>rfl)) jc)) (ja (zpv 3) jc))))))) (jh (jJ (jx j4 (jk jq (zpv 6) jf (fun _ _=>rfl)) jm (jB _)) (jh (ju (i:=3) sc.nd rfl oQ (jO sB hr (ja (zpv 0) (ja (zpv 6) (ja (zpv 7) (ja (zpv 3) (ja (zpv 4) jc)))))))) (jh (ju (i:=3) sc.nd rfl oQ (jO gz hr (ja (zpv 3) (ja (zpv 6) jc)))))))))))))
   (jh (jJ (Kq (jx JN (zpv 3) qy (jB _)) (Ji (jx Jt (kb jI (by rfl) B.len_ kz (ja (zpv 3) jc)) jf (jB _)))).pt (jh (jv qy)) jC)))))
   (jh (jv (zpv 3)))),?_⟩
 refine jP (σ':=[some (.ref hd),some (.ref ba),some (.ref ar),some (.ref wy),some (.ref dl),none,none,none]) rfl ?_
 try dsimp only[j7]
 have cK:=iL.length;rw[ax]at cK;have hdl:=U.hdl;have BG:=qd em hdl;have BF:=qd dg hdl;refine⟨_,rfl,ba,rfl,⟨_,SqT.of dg⟩,?_⟩;refine qV (b:=true) (xs:=bs) (fun i σ G=>∃u4 u5 u6 aK aD bh r,goN p0.f pr (n+1) path aq (bd.take i)=some r/\σ=[some (.ref hd),some (.ref ba),some (.ref ar),some (.ref bh),some (.ref dl),u4,u5,u6]/\KB dl H G/\LkAt G hd dl p0 p1 (ms++aK) bh r.2/\DutsAt G r.1 aK aD/\aD.Nodup/\∀x∈aD,H x=none) ⟨none,none,none,[],[],wy,([],aq),rfl,rfl,fun _ _ _ e=>e,by rw[cv];exact U,trivial,iY,fun _ z=>by cases z⟩ ?_ ?_ ?_
 .rintro i σ G _ ⟨u4,u5,u6,aK,aD,bh,r,er,rfl,kG,_⟩
  exact SqT.of (kG _ _ BF dg)
 .rintro i y σ G t hy ⟨u4,u5,u6,aK,aD,bh,r,er,rfl,kG,U',hD,bV,bI⟩ ht
  have hi:i < bd.length:=by have:=(bN.mp hy).1;omega
  obtain⟨y',ck,iu⟩:=iL.get (show (bd.map (stD (n+1)))[i]?=some (stD (n+1) bd[i]) by rw[bF,aI hi];rfl);rw[hy]at ck
  cases ck
  have eM:bd.take (i+1)=bd.take i++[bd[i]]:=by rw[bP,aI hi];rfl
  have Dy:bd=bd.take (i+1)++bd.drop (i+1):=(sY _ _).symm;have bn:=qO (gs:=gsL p0 p1) (fun S hS=>hok S (M7 hS)) hp.w16 er;have BM:=hD.len;have eK:=KY (wk:=j6 p0.f pr (n+1)) (ar:=path) bd[i] (bd.take i) 0 aq;rw[<- eM,show goO (j6 p0.f pr (n+1)) path 0 aq (bd.take i)=some r from er]at eK;dsimp only at eK;rw[bK,p3 (cu hi),AR]at eK;have lB:∀g:StN (n+1)->Nat,((bd.take i).map g).sum+g bd[i]<=(bd.map g).sum:=fun g=>by
   have h1:(bd.map g).sum=((bd.take (i+1)).map g).sum+((bd.drop (i+1)).map g).sum:=by rw[<- p5,<- aW,sY]
   rw[h1,eM,aW,p5];simp
  have hc:=lB (km (n+1));have gR:=lB (kQ (n+1));have hms:=hp.hms;have gk:=hp.len0;have fK:=hp.hpath;have bc:=bn.c;have mK:=hok _ (ft hi);have uX:∀r2,j6 p0.f pr (n+1) (path++[(i:Int)]) r.2 bd[i]=r2->(r2=none\/∃r3,r2=some r3/\¬r3.2.length<=16)->goN p0.f pr (n+1) path aq bd=none:=fun r2 e h=>by
   rw[Dy];refine KZ _ _ _ _ ?_;rw[eK,e];rcases h with rfl | ⟨r3,rfl,h3⟩
   .rfl
   .dsimp only
    rw[WT h3]
  have xw:∀w'∈r.2,w'.length+kQ (n+1) bd[i]<=800:=fun w' cH=>by
   have:=bn.l (800 - kQ (n+1) bd[i]) (fun u hu=>by have:=hp.hlen u hu;omega) (by omega) w' cH;omega
  have lK:PreW p0.f (ms++aK) (path++[(i:Int)]) r.2 (2 * n+1) (km (n+1) bd[i]) (kQ (n+1) bd[i]):=⟨hp.fl,bn.w,by rw[aG];omega,xw,by omega,by rw[aG];show path.length+1+_<=90;omega⟩
  have s1:=je ht (.tup [V.int i,y]);have e1:upd G t (.tup [V.int i,y]) t=some (.tup [V.int i,y]):=jd;generalize upd G t (.tup [V.int i,y])=G1 at *;refine yB ?_;intro _;refine⟨t,_,rfl,SqT.of e1,rfl,_,_,rfl,_,_,rfl,rfl,?_⟩;refine jP (σ':=[some (.ref hd),some (.ref ba),some (.ref ar),some (.ref bh),some (.ref dl),some (.int i),some y,u6]) rfl ?_;have k1:KB dl H G1:=fun b o hb e=>s1 _ _ (kG b o hb e)
  refine⟨_,rfl,_,rfl,sm rfl,fun t1 bS=>?_⟩;have s2:=je bS (.tup [V.int i]);have e2:upd G1 t1 (.tup [V.int i]) t1=some (.tup [V.int i]):=jd;generalize upd G1 t1 (.tup [V.int i])=G2 at *;refine⟨ar,t1,_,_,rfl,rfl,s2 _ _ (k1 _ _ BG em),e2,jY (by rw[ax];show path.length+1<=1000;omega),fun t2 G3 s3 e3=>?_⟩;have bG:=s1.trans (s2.trans s3);have k3:KB dl H G3:=fun b o hb e=>bG _ _ (kG b o hb e)
  have U3:=U'.mono bG;have e3:G3 t2=some (.tup ((path++[(i:Int)]).map V.int)):=by rw[aW];exact e3
  have fH:=(jR k3 hdl).held iu;have lL:=hD.mono bG;have nG:dl ∉ aD:=fun z=>by have:=bI _ z;rw[hdl]at this;cases this
  generalize hS:bd[i]=S at *;generalize fI:j6 p0.f pr (n+1) (path++[(i:Int)]) r.2 S=R at *;clear e1 ht bS e2 s1 s2 s3 k1 lB;refine gQ ?_;refine⟨fun σ' G'=>KB dl G3 G'/\jhZ R (σ'=[some (.ref hd),some (.ref ba),some (.ref ar),some .non,some (.ref dl),some (.int i),some y,some (.ref t2)]) (fun r2=>∃cj bZ c_,σ'=[some (.ref hd),some (.ref ba),some (.ref ar),some (.ref c_),some (.ref dl),some (.int i),some y,some (.ref t2)]/\LkAt G' hd dl p0 p1 (ms++aK++cj) c_ r2.2/\DutsAt G' r2.1 cj bZ/\bZ.Nodup/\∀x∈bZ,G3 x=none),?_,?_⟩
  .match S,fH,mK,lK,fI with
   | .ite a b c x' y',fH,mK,lK,fI=>
    obtain⟨t',u,px,py,xs,ys,rfl,cU,_⟩:=yd (show Held G3 (Nd.ite a b c (x'.map (stD n)) (y'.map (stD n))).toD y from fH);refine⟨_,rfl,t',_,_,_,rfl,rfl,SqT.of cU,rfl,rfl,_,rfl,qB ?_⟩;refine⟨_,rfl,_,rfl,_,rfl,_,rfl,_,rfl,hd,t2,bh,dl,_,p0,p1,pr,_,_,_,a,b,c,x',y',rfl,L,U3,e3,fH,mK,lK,fun r2 cj bZ c_ G4 cn k4 U4 fS mr iq=>?_,fun cn G4 k4=>?_⟩
    .rw[fI]at cn
     subst cn;exact⟨k4,cj,bZ,c_,rfl,U4,fS,mr,iq⟩
    .rw[fI]at cn
     subst cn;exact⟨k4,rfl⟩
   | .whl a b c ks x',fH,mK,lK,fI=>
    obtain⟨t',u,px,py,xs,ys,rfl,cU,_⟩:=zV (show Held G3 (Nd.whl a b c ks (x'.map (stD n))).toD y from fH);refine⟨_,rfl,t',_,_,_,rfl,rfl,SqT.of cU,rfl,rfl,_,rfl,qU ?_⟩;refine⟨_,rfl,t',_,_,_,rfl,rfl,SqT.of cU,rfl,rfl,_,rfl,qB ?_⟩;refine⟨_,rfl,_,rfl,_,rfl,_,rfl,_,rfl,hd,t2,bh,dl,_,p0,p1,pr,_,_,_,a,b,c,ks,x',rfl,L,U3,e3,fH,mK,lK,fun r2 cj bZ c_ G4 cn k4 U4 fS mr iq=>?_,fun cn G4 k4=>?_⟩
    .rw[fI]at cn
     subst cn;exact⟨k4,cj,bZ,c_,rfl,U4,fS,mr,iq⟩
    .rw[fI]at cn
     subst cn;exact⟨k4,rfl⟩
   | .leaf S,fH,mK,lK,fI=>
    have fH:Held G3 S.toD y:=fH;obtain⟨vj,lG⟩:=(show S.fit (gsL p0 p1) pr/\S.few from mK)
    have fI:some (S.walk p0.f pr (path++[(i:Int)]) r.2)=R:=fI;subst fI;have hms:(ms++aK).length+S.cost<=9000:=lK.hms;have dO:=lK.w16;have iD:∀w∈r.2,w.length<=800:=fun w hw=>by have:=lK.hlen w hw;omega
    have Qq:∀w∈r.2,w.length+S.len<=800:=lK.hlen;obtain⟨a,k,rr,rfl,ha,h1,h2,h3,h4⟩:=Sm.head fH;refine⟨_,rfl,a,_,_,V.str k,rfl,rfl,SqT.of ha,kU (j:=0) rfl,rfl,_,rfl,jQ (fun d=>absurd (WP d) (fun z=>h1 (by injection z))) (fun _=>?_)⟩;refine⟨_,rfl,a,_,_,V.str k,rfl,rfl,SqT.of ha,kU (j:=0) rfl,rfl,_,rfl,jQ (fun d=>absurd (WP d) (fun z=>h2 (by injection z))) (fun _=>?_)⟩;refine⟨_,rfl,a,_,_,V.str k,rfl,rfl,SqT.of ha,kU (j:=0) rfl,rfl,_,rfl,jQ (fun d=>?_) (fun d=>?_)⟩
    .have ek:k = "claim":=by have:=WP d;injection this
     obtain⟨C,rfl⟩:=h4.mp ek;clear h4 h3 h2 h1 d;obtain⟨a',u,ea,nT,dm⟩:=zT fH
     cases ea
     obtain⟨v0,v1,hhd,oY,rL⟩:=U3.hhd;obtain⟨rB,_,_,_,_,_,_,_,_,rfl,o9,_⟩:=zy oY;obtain⟨was,hwy,hW⟩:=U3.hwy;refine⟨_,rfl,_,rfl,hd,_,_,_,rfl,rfl,SqL.of hhd,kU (j:=0) rfl,rB,_,_,_,rfl,rfl,SqT.of o9,rfl,_,rfl,sm rfl,fun th lz=>?_⟩;have z0:=je lz (.tup [V.str p0.f,.str "claim",.ref t2]);have y0:upd G3 th (.tup [V.str p0.f,.str "claim",.ref t2]) th=some (.tup [V.str p0.f,.str "claim",.ref t2]):=jd;generalize upd G3 th (.tup [V.str p0.f,.str "claim",.ref t2])=G4 at *;refine⟨_,rfl,a,_,_,_,rfl,rfl,SqT.of (z0 _ _ nT),rfl,sm rfl,fun lc CI=>?_⟩;have z1:=je CI (.lst [u]);have y1:upd G4 lc (.lst [u]) lc=some (.lst [u]):=jd;generalize upd G4 lc (.lst [u])=G5 at *;have oH:=z0.trans z1;have Od:lc≠dl:=fun z=>by rw[z,z0 _ _ U3.hdl]at CI;cases CI
     have hms:(ms++aK).length+16<=9000:=hms;refine⟨_,rfl,dl,th,t2,bh,lc,was,p0.f,"claim",_,[u],path++[(i:Int)],r.2,[C],rfl,z1 _ _ y0,oH _ _ U3.hdl,oH _ _ e3,oH _ _ hwy,hW.mono oH,y1,jV (dm.mono oH),U3.nwy,Od,by omega,by show _+r.2.length * 1<=9000;omega,fun cj bZ G6 k6 xM RW Ot Om=>?_⟩;have Gk:KB dl G3 G6:=fun b o hb e=>k6 b o hb (oH _ _ e)
     exact⟨Gk,cj,bZ,bh,rfl,U3.keep Gk xM,RW,Ot,fun b hb=>oH.free (Om b hb)⟩
    .have nC:∀C,S≠.claim C:=fun C z=>d (WQ (WW V.str (h4.mpr ⟨C,z⟩)))
     refine⟨_,rfl,a,_,_,V.str k,rfl,rfl,SqT.of ha,kU (j:=0) rfl,rfl,_,rfl,jQ (fun d=>?_) (fun d=>?_)⟩
     .have ek:k = "call":=by have:=WP d;injection this
      obtain⟨x',g,as,rows,rfl⟩:=h3.mp ek;have hms:(ms++aK).length+320<=9000:=hms;obtain⟨hg,d_,Hm,iE⟩:=vj;obtain⟨p,Cj,IG,ef,Qa⟩:∃p,(p=p0\/p=p1)/\pr g=p/\p.f=g/\NoClash p:=by
       rcases aM.mp hg with rfl | hg
       .exact⟨p0,.inl rfl,L.e0,rfl,L.n0⟩
       .rw[aN.mp hg];exact⟨p1,.inr rfl,L.e1,rfl,L.n1⟩
      subst ef;have ew:(Sm.call x' p.f as rows).walk p0.f pr (path++[(i:Int)]) r.2=Yc p0.f p (path++[(i:Int)]) r.2 x' as rows:=by unfold Sm.walk Yc;dsimp only;rw[IG]
      rw[ew];rw[IG]at d_ Hm iE;refine⟨_,rfl,_,rfl,_,rfl,_,rfl,_,rfl,hd,t2,bh,dl,_,p0,p1,p,x',as,rows,_,_,_,rfl,U3,L.ne,Cj,⟨Qa,d_.rs,Hm.symm,iE.symm,d_.psl,d_.rsl,d_.nd,aV d_.gv (by decide),d_.gl,d_.yl⟩,fH,e3,by omega,by omega,iD,fun r2 cj bZ c_ G4 cn k4 U4 fS mr iq=>?_,fun cn=>by cases cn⟩
      cases cn
      exact⟨k4,cj,bZ,c_,rfl,U4,fS,mr,iq⟩
     .have nL:∀x g as rows,S≠.call x g as rows:=fun x g as rows z=>d (WQ (WW V.str (h3.mpr ⟨x,g,as,rows,z⟩)))
      have ew:S.walk p0.f pr (path++[(i:Int)]) r.2=([],r.2.map (·++[S.toD])):=by cases S <;> first | rfl | exact absurd rfl (nC _) | exact absurd rfl (nL _ _ _ _)
      have el:S.len=1:=by cases S <;> first | rfl | exact absurd rfl (nC _) | exact absurd rfl (nL _ _ _ _)
      rw[ew];obtain⟨was,hwy,hW⟩:=U3.hwy;refine⟨_,rfl,_,rfl,bh,dl,_,_,was,_,r.2,rfl,hwy,U3.hdl,hW,fH,by omega,fun w hw=>by have:=Qq w hw;omega,fun l5 as5 G5 s5 n5 e5 z_=>?_⟩;have Oe:l5≠dl:=fun z=>by rw[z,U3.hdl]at n5;cases n5
      exact⟨fun b o _ e=>s5 _ _ e,[],[],l5,rfl,by rw[cv];exact (U3.mono s5).at e5 z_ Oe,trivial,iY,fun _ z=>by cases z⟩
  .rintro σ' G4 ⟨k4,hJ⟩
   cases R with
   | none=>
    have hJ:σ'=[some (.ref hd),some (.ref ba),some (.ref ar),some .non,some (.ref dl),some (.int i),some y,some (.ref t2)]:=hJ;subst hJ;refine⟨_,rfl,rfl,_,rfl,qB ?_⟩;exact q.2 (uX _ rfl (.inl rfl)) G4 fun b o hb e=>k4 b o hb (k3 b o hb e)
   | some r2=>
    obtain⟨cj,bZ,c_,rfl,U4,fS,mr,iq⟩:=(show ∃_ _ _,_ from hJ)
    obtain⟨A4,nu,gW⟩:=U4.hwy;have l4:=gW.len;refine⟨_,rfl,rfl,_,rfl,qU ?_⟩;refine⟨_,rfl,c_,_,rfl,.inl (SqL.of nu),_,_,rfl,rfl,_,rfl,jQ (fun d=>?_) (fun d=>?_)⟩
    .have nZ:¬r2.2.length<=16:=fun z=>by
      have d':=WP d;rw[ax,l4]at d';omega
     exact q.2 (uX _ rfl (.inr ⟨r2,rfl,nZ⟩)) G4 fun b o hb e=>k4 b o hb (k3 b o hb e)
    .have nZ:r2.2.length<=16:=by
      have d':¬((16:Int) < ((A4.map V.ref).length:Int)):=fun z=>d (WQ z)
      rw[ax,l4]at d';omega
     refine⟨_,_,_,aK++cj,aD++bZ,c_,(r.1++r2.1,r2.2),?_,rfl,fun b o hb e=>k4 b o hb (k3 b o hb e),by rw[<- dH];exact U4,DutsAt.app (DutsAt.keep k4 U3.hdl lL nG) fS,?_,?_⟩
     .show goO (j6 p0.f pr (n+1)) path 0 aq (bd.take (i+1))=_
      rw[eK];dsimp only;rw[WU nZ]
     .refine ia.mpr ⟨bV,mr,fun b hb c hc=>?_⟩
      rintro rfl;exact kj lL b hb (iq b hc)
     .intro b hb
      rcases aT.mp hb with hb | hb
      .exact bI b hb
      .have hn:=iq b hb
       have iK:b≠dl:=fun z=>by rw[z,U3.hdl]at hn;cases hn
       rcases hh:H b with _ | o
       .rfl
       .rw[k3 b o iK hh]at hn;cases hn
 rintro σ G ⟨u4,u5,u6,aK,aD,bh,r,er,rfl,kG,U',hD,bV,bI⟩;rw[<- cK,bX]at er;exact⟨_,rfl,q.1 r aK aD bh G er kG U' hD bV bI⟩
theorem J0{f1 f2 f3:aa}{fU vI vH:aO}(U1:Fun K "_law_walk" "_law_walk" JM f1 fU)(b1:Binds K fU ["_law_heads","_law_body_here","_law_before","_law_ways","_law_due"] [])(m1:mg "_law_walk" = some (.ref f1))(U2:Fun K "_law_if" "_law_if" jfb f2 vI)(b2:Binds K vI ["_law_heads","_law_statement","_law_at","_law_ways","_law_due"] [])(m2:mg "_law_if" = some (.ref f2))(U3:Fun K "_law_loop" "_law_loop" KJ f3 vH)(b3:Binds K vH ["_law_heads","_law_statement","_law_at","_law_ways","_law_due"] [])(m3:mg "_law_loop" = some (.ref f3))(B:Free0 mg)(cx:mg "enumerate" = none)(Ls:Fn P w K mg base 1 "_law_note" ["_law_due","_law_head","_law_claims","_law_ways"] (spNoteB true))(fg:Fn P w K mg base 1 "_law_note" ["_law_due","_law_head","_law_claims","_law_ways"] (spNoteB false))(sB:Fn P w K mg base 4 "_law_call" ["_law_heads","_law_statement","_law_at","_law_ways","_law_due"] spCallL)(gz:Fn P w K mg base 1 "_law_behind" ["_law_ways","_law_row"] spBehL)(eB:Fn P w K mg base 1 "_law_turned" ["_law_least"] spTurned):∀n,Fn P w K mg base (2 * n+5) "_law_walk" ["_law_heads","_law_body_here","_law_before","_law_ways","_law_due"] (spWalkL n)
 | 0=>Fn.mk' U1 b1 m1 (jcG U1 B cx)
 | n+1=>
  have ih:=J0 U1 b1 m1 U2 b2 m2 U3 b3 m3 B cx Ls fg sB gz eB n
  have hi:=Fn.mk' U2 b2 m2 (jgk U2 eB gz ih)
  have hw:=Fn.mk' U3 b3 m3 (jej U3 eB Ls ih)
  Fn.mk' U1 b1 m1 (jd7 U1 B cx hi hw fg sB gz)
end
structure Nm where
 f0:Str
 f1:Str
 rs:List Str
 nums:List Str
 free:List Str
def Sm.inn(X:Nm):Sm->Prop
 | .set x t _=>x∈X.free/\t.In X.nums X.rs
 | .put r x _ t _=>r∈X.rs/\InE X.nums x/\t.In X.nums X.rs
 | .any x=>x∈X.free
 | .claim C=>C.In X.nums X.rs
 | .call x g as rows=>x∈X.free/\(∀a∈as,a∈X.nums)/\((g=X.f0/\as.length=1)\/(g=X.f1/\as.length=2))/\rows.length=2/\∀r∈rows,r∈X.rs
def Fo.inn{α:Type}(g:α->Prop)(X:Nm):Fo α->Prop
 | .leaf S=>S.inn X
 | .ite a b c x y=>(Cl.least a b c).In X.nums X.rs/\x.length<=5/\y.length<=5/\(∀s∈x,g s)/\∀s∈y,g s
 | .whl a b c ks x=>(Cl.least a b c).In X.nums X.rs/\ks.length<=3/\(∀C∈ks,C.In X.nums X.rs)/\x.length<=5/\∀s∈x,g s
def inN(X:Nm):(n:Nat)->StN n->Prop
 | 0=>fun _=>False
 | n+1=>fun s=>Fo.inn (inN X n) X s
def Fo.cnt{α:Type}(g:α->Nat):Fo α->Nat
 | .leaf _=>1
 | .ite _ _ _ x y=>1+(x.map g).sum+(y.map g).sum
 | .whl _ _ _ _ x=>1+(x.map g).sum
def qH:(n:Nat)->StN n->Nat
 | 0=>fun _=>0
 | n+1=>fun s=>Fo.cnt (qH n) s
def qx(n:Nat)(l:List (StN n)):Nat:=(l.map (qH n)).sum
theorem zW{α:Type}{f g:α->Nat}{k:Nat}:∀{l:List α},(∀s∈l,f s<=k * g s)->(l.map f).sum<=k * (l.map g).sum
 | [],_=>cy _
 | s :: l,h=>by
  have h1:=h s bt;have h2:=zW (l:=l) fun t ht=>h t (aZ _ ht)
  rw[ce,ce,AT,AT,Nat.mul_add];omega
theorem Kl{X:Nm}:∀(n:Nat) (s:StN n),inN X n s->km n s<=320 * qH n s
 | 0,s,h=>h.elim
 | n+1,.leaf S,h=>by
  show S.cost<=320 * 1
  cases S <;> simp[Sm.cost]
 | n+1,.ite a b c x y,h=>by
  obtain⟨_,_,_,hx,hy⟩:=h;have h1:=zW (f:=km n) (g:=qH n) (k:=320) fun s hs=>Kl n s (hx s hs)
  have h2:=zW (f:=km n) (g:=qH n) (k:=320) fun s hs=>Kl n s (hy s hs)
  show (x.map (km n)).sum+(y.map (km n)).sum<=320 * (1+(x.map (qH n)).sum+(y.map (qH n)).sum);omega
 | n+1,.whl a b c ks x,h=>by
  obtain⟨_,hk,_,_,hx⟩:=h;have h1:=zW (f:=km n) (g:=qH n) (k:=320) fun s hs=>Kl n s (hx s hs)
  show 32 * ks.length+(x.map (km n)).sum<=320 * (1+(x.map (qH n)).sum);omega
theorem Zy{X:Nm}:∀(n:Nat) (s:StN n),inN X n s->kQ n s<=23 * qH n s
 | 0,s,h=>h.elim
 | n+1,.leaf S,h=>by
  show S.len<=23 * 1
  cases S <;> simp[Sm.len]
 | n+1,.ite a b c x y,h=>by
  obtain⟨_,_,_,hx,hy⟩:=h;have h1:=zW (f:=kQ n) (g:=qH n) (k:=23) fun s hs=>Zy n s (hx s hs)
  have h2:=zW (f:=kQ n) (g:=qH n) (k:=23) fun s hs=>Zy n s (hy s hs)
  show 1+(x.map (kQ n)).sum+(y.map (kQ n)).sum<=23 * (1+(x.map (qH n)).sum+(y.map (qH n)).sum);omega
 | n+1,.whl a b c ks x,h=>by
  obtain⟨_,hk,_,_,hx⟩:=h;have h1:=zW (f:=kQ n) (g:=qH n) (k:=23) fun s hs=>Zy n s (hx s hs)
  show ks.length+1+(x.map (kQ n)).sum<=23 * (1+(x.map (qH n)).sum);omega
structure Fits(X:Nm)(gs:List Str)(pr:Str->Pc):Prop where
 g0:X.f0∈gs
 g1:X.f1∈gs
 c0:CalOk X.f0 (pr X.f0)
 c1:CalOk X.f1 (pr X.f1)
 a0:(pr X.f0).ps.length=1
 a1:(pr X.f1).ps.length=2
 r0:(pr X.f0).rs.length=2
 r1:(pr X.f1).rs.length=2
theorem ZF{X:Nm}{gs:List Str}{pr:Str->Pc}(F:Fits X gs pr):∀(n:Nat) (s:StN n),inN X n s->okN gs pr n s
 | 0,s,h=>h.elim
 | n+1,.leaf S,h=>by
  show S.fit gs pr/\S.few;have h:S.inn X:=h
  cases S with
  | call x g as rows=>
   obtain⟨_,_,h3,h4,_⟩:=h;rcases h3 with⟨rfl,e⟩ | ⟨rfl,e⟩
   .exact⟨⟨F.g0,F.c0,by rw[F.a0,e],by rw[F.r0,h4]⟩,by omega,by omega⟩
   .exact⟨⟨F.g1,F.c1,by rw[F.a1,e],by rw[F.r1,h4]⟩,by omega,by omega⟩
  | _=>exact⟨trivial,trivial⟩
 | n+1,.ite a b c x y,h=>by
  obtain⟨_,h1,h2,hx,hy⟩:=h;exact⟨by omega,by omega,fun s hs=>ZF F n s (hx s hs),fun s hs=>ZF F n s (hy s hs)⟩
 | n+1,.whl a b c ks x,h=>by
  obtain⟨_,hk,_,h1,hx⟩:=h;exact⟨by omega,by omega,fun s hs=>ZF F n s (hx s hs)⟩
variable {rs:List Str}
theorem jbK{t:Tm}(h:t.In xs rs):∀x∈t.ns,InE xs x:=by
 cases t with
 | is y=>intro x hx;rw[aN.mp hx];exact h
 | at_ r y d=>intro x hx;rw[aN.mp hx];exact h.2
variable {C:Cl}
theorem jcd(h:C.In xs rs):∀x∈C.ns,InE xs x:=by
 intro x hx
 cases C with
 | least a b c=>
  rcases aT.mp hx with hx | hx
  .exact jbK h.1 x hx
  .exact jbK h.2 x hx
 | each t td u ud r way b c=>
  obtain⟨h1,h2,_,_,h5⟩:=h;rcases aT.mp hx with hx | hx
  .rcases aM.mp hx with rfl | hx
   .exact h1
   .rw[aN.mp hx];exact h2
  .cases b with
   | is y=>rw[aN.mp hx];exact h5
   | row y=>cases hx
 | rise t td u ud r=>
  rcases aM.mp hx with rfl | hx
  .exact h.1
  .rw[aN.mp hx];exact h.2.1
theorem jgE{l:List Cl}(h:∀C∈l,C.In xs rs):∀x∈l.flatMap Cl.ns,InE xs x:=fun x hx=>by
 obtain⟨C,hC,hx⟩:=s_.mp hx;exact jcd (h C hC) x hx
theorem jg0{X:Nm}(hf:∀x∈X.free,x∈X.nums)(h:S.inn X):S.few/\S.ns.length<=3/\∀x∈S.ns,InE X.nums x:=by
 cases S with
 | set y t c=>exact⟨trivial,by cases t <;> exact cf rfl,fun x hx=>by
   rcases aT.mp hx with hx | hx
   .rw[aN.mp hx];exact .inl (hf _ h.1)
   .exact jbK h.2 x hx⟩
 | put r y d t c=>exact⟨trivial,by cases t <;> exact cf rfl,fun x hx=>by
   rcases aT.mp hx with hx | hx
   .rw[aN.mp hx];exact h.2.1
   .exact jbK h.2.2 x hx⟩
 | any y=>exact⟨trivial,cf rfl,fun x hx=>by rw[aN.mp hx];exact .inl (hf _ h)⟩
 | claim C=>exact⟨trivial,C.ns_len,jcd h⟩
 | call y g as rows=>
  obtain⟨h1,h2,h3,h4,_⟩:=h;have h2l:as.length<=2:=by omega
  refine⟨⟨by omega,by omega⟩,by show ([y]++as).length<=3;rw[aG];show 1+_<=3;omega,fun x hx=>?_⟩;rcases aT.mp hx with hx | hx
  .rw[aN.mp hx];exact .inl (hf _ h1)
  .exact .inl (h2 x hx)
def NdG(X:Nm)(N:Nd):Prop:=N.few/\N.ns.length<=11/\∀x∈N.ns,InE X.nums x
theorem yO:∀(n:Nat) (l:List (StN n)),(kr n l).length=qx n l
 | 0,l=>by cases Z8 (l:=l);rfl
 | n+1,[]=>rfl
 | n+1,s :: l=>by
  have ih:=yO (n+1) l;rw[qX,aG,ih,bR];show _+qx (n+1) l=qH (n+1) s+qx (n+1) l;congr 1;match s with
  | .leaf S=>rfl
  | .ite a b c x y=>
   show (([x,y]:List (List (StN n))).flatMap (kr n)).length+1=1+(x.map (qH n)).sum+(y.map (qH n)).sum;rw[dX,dX,wu,cv,aG,yO n x,yO n y];unfold qx;omega
  | .whl a b c ks x=>
   show (([x]:List (List (StN n))).flatMap (kr n)).length+1=1+(x.map (qH n)).sum;rw[dX,wu,cv,yO n x];unfold qx;omega
theorem JX{X:Nm}(hf:∀x∈X.free,x∈X.nums):∀(n:Nat) (l:List (StN n)),(∀s∈l,inN X n s)->∀N∈kr n l,NdG X N
 | 0,l,h,N,hN=>by cases Z8 (l:=l);cases hN
 | n+1,[],h,N,hN=>by cases hN
 | n+1,s :: l,h,N,hN=>by
  have hs:=h s bt;rw[qX]at hN;rcases aT.mp hN with hN | hN
  .match s,hs,hN with
   | .leaf S,hs,hN=>
    rw[aN.mp (show N∈[Nd.leaf S] from hN)];obtain⟨h1,h2,h3⟩:=jg0 hf (show S.inn X from hs);exact⟨h1,aV h2 (by decide),h3⟩
   | .ite a b c x y,hs,hN=>
    obtain⟨h1,_,_,hx,hy⟩:=hs;rcases aM.mp hN with rfl | hN
    .exact⟨trivial,aV (Cl.least a b c).ns_len (by decide),jcd h1⟩
    .obtain⟨z,hz,Ad⟩:=s_.mp hN
     rcases aM.mp (show z∈[x,y] from hz) with e | hz
     .rw[e]at Ad
      exact JX hf n _ hx N Ad
     .rw[aN.mp hz]at Ad
      exact JX hf n _ hy N Ad
   | .whl a b c ks x,hs,hN=>
    obtain⟨h1,hk,hC,_,hx⟩:=hs;rcases aM.mp hN with rfl | hN
    .refine⟨(show ks.length<=20 by omega),?_,jgE (rs:=X.rs) (l:=Cl.least a b c :: ks) fun C pI=>?_⟩
     .show ((Cl.least a b c :: ks).flatMap Cl.ns).length<=11
      have e:(Cl.least a b c).ns.length=2:=by cases a <;> cases b <;> rfl
      have:=Kn ks;rw[dX,aG,e];omega
     .rcases aM.mp pI with rfl | pI
      .exact h1
      .exact hC C pI
    .obtain⟨z,hz,hN⟩:=s_.mp hN
     rw[aN.mp (show z∈[x] from hz)]at hN;exact JX hf n _ hx N hN
  .exact JX hf (n+1) l (fun t ht=>h t (aZ _ ht)) N hN
theorem ke(x:Str):lvD (.str x)=[x]:=by rw[lvD]
theorem yb(i:Int):lvD (.int i)=[]:=by rw[lvD]
theorem ka(ds:List D):lvD (.tup ds)=lvL ds:=by rw[lvD]
theorem Ju(x:Str)(d:Int):lvD (plD x d)=[x]:=by unfold plD;simp[ka,jN,jT,ke,yb]
def Bd.ns:Bd->List Str
 | .is x=>[x]
 | .row _=>[]
abbrev LvOk(rs ns:List Str)(l:List Str):Prop:=(∀x∈l,x∈ns\/x∈kwL\/x∈rs)/\∀x∈ns,x∈l
theorem kw(x:Str)(h:x∈kwL){A B:Prop}:A\/x∈kwL\/B:=.inr (.inl h)
theorem jbX{t:Tm}(h:t.In xs rs):LvOk rs t.ns (lvD t.toD):=by
 cases t with
 | is x=>
  have e:lvD (Tm.is x).toD=[("is" : Str),x]:=by unfold Tm.toD;simp[ka,jN,jT,ke]
  rw[e];refine⟨fun y hy=>?_,fun y hy=>aZ _ hy⟩;rcases aM.mp hy with rfl | hy
  .exact kw _ (by decide)
  .exact .inl hy
 | at_ r x d=>
  have e:lvD (Tm.at_ r x d).toD=[("at" : Str),r,x]:=by unfold Tm.toD;simp[ka,jN,jT,ke,Ju]
  rw[e];refine⟨fun y hy=>?_,fun y hy=>aZ _ (aZ _ hy)⟩;rcases aM.mp hy with rfl | hy
  .exact kw _ (by decide)
  rcases aM.mp hy with rfl | hy
  .exact .inr (.inr h.1)
  .exact .inl hy
theorem LvOk.app{n m l k:List Str}(h:LvOk rs n l)(h':LvOk rs m k):LvOk rs (n++m) (l++k):=by
 refine⟨fun x hx=>?_,fun x hx=>?_⟩
 .rcases aT.mp hx with hx | hx
  .exact (h.1 x hx).imp (fun z=>aT.mpr (.inl z)) id
  .exact (h'.1 x hx).imp (fun z=>aT.mpr (.inr z)) id
 .rcases aT.mp hx with hx | hx
  .exact aT.mpr (.inl (h.2 x hx))
  .exact aT.mpr (.inr (h'.2 x hx))
theorem LvOk.kw{n l:List Str}(h:LvOk rs n l)(hx:x∈kwL):LvOk rs n (x :: l):=by
 refine⟨fun y hy=>?_,fun y hy=>aZ _ (h.2 y hy)⟩;rcases aM.mp hy with rfl | hy
 .exact .inr (.inl hx)
 .exact h.1 y hy
theorem LvOk.row{n l:List Str}(h:LvOk rs n l)(hx:x∈rs):LvOk rs n (x :: l):=by
 refine⟨fun y hy=>?_,fun y hy=>aZ _ (h.2 y hy)⟩;rcases aM.mp hy with rfl | hy
 .exact .inr (.inr hx)
 .exact h.1 y hy
theorem LvOk.one{n l:List Str}(h:LvOk rs n l)(x:Str):LvOk rs (x :: n) (x :: l):=LvOk.app (n:=[x]) (l:=[x]) ⟨fun y hy=>.inl hy,fun y hy=>hy⟩ h
theorem LvOk.nil:LvOk rs [] []:=⟨fun y hy=>(by cases hy),fun y hy=>(by cases hy)⟩
theorem jbY(h:C.In xs rs):LvOk rs C.ns (lvD C.toD):=by
 cases C with
 | least a b c=>
  have e:lvD (Cl.least a b c).toD=("least" : Str) :: (lvD a.toD++lvD b.toD):=by unfold Cl.toD;simp[ka,jN,jT,ke,yb]
  rw[e];exact LvOk.kw (LvOk.app (jbX h.1) (jbX h.2)) (by decide)
 | rise t td u ud r=>
  have e:lvD (Cl.rise t td u ud r).toD=[("rise" : Str),t,u,r]:=by unfold Cl.toD;simp[ka,jN,jT,ke,Ju]
  rw[e];exact LvOk.kw (LvOk.one (LvOk.one (LvOk.row LvOk.nil h.2.2) u) t) (by decide)
 | each t td u ud r way b c=>
  obtain⟨h1,h2,h3,h4,h5⟩:=h;have e:lvD (Cl.each t td u ud r way b c).toD=("each" : Str) :: t :: u :: r :: way :: lvD b.toD:=by unfold Cl.toD;simp[ka,jN,jT,ke,Ju,yb]
  rw[e];have hb:LvOk rs b.ns (lvD b.toD):=by
   cases b with
   | is x=>
    have e:lvD (Bd.is x).toD=[("is" : Str),x]:=by unfold Bd.toD;simp[ka,jN,jT,ke]
    rw[e];exact LvOk.kw (LvOk.one LvOk.nil x) (by decide)
   | row x=>
    have e:lvD (Bd.row x).toD=[("row" : Str),x]:=by unfold Bd.toD;simp[ka,jN,jT,ke]
    rw[e];exact LvOk.kw (LvOk.row LvOk.nil h5) (by decide)
  have hw:way∈kwL:=by rcases h4 with rfl | rfl <;> decide
  have hh:=LvOk.kw (x:=("each" : Str)) (LvOk.one (LvOk.one (LvOk.row (LvOk.kw hb hw) h3) u) t) (by decide);have en:(Cl.each t td u ud r way b c).ns=t :: u :: b.ns:=by cases b <;> rfl
  rw[en];exact hh
theorem DepL.succ:∀{n:Nat} {ds:List D},DepL n ds->DepL (n+1) ds
 | 0,_,h=>h.elim
 | n+1,ds,h=>fun d hd es e=>DepL.succ (h d hd es e)
theorem DepL.le{ds:List D}(h:DepL n ds):∀{m:Nat},n<=m->DepL m ds:=by
 intro m hm;induction hm with
 | refl=>exact h
 | step _ ih=>exact ih.succ
theorem DepL.nil:DepL (n+1) []:=fun d hd=>by cases hd
theorem DepL.cons{n:Nat}{d:D}{ds:List D}(h:∀es,d=.tup es->DepL n es)(h2:DepL (n+1) ds):DepL (n+1) (d :: ds):=fun d' gm es e=>by
 rcases aM.mp gm with rfl | gm
 .exact h es e
 .exact h2 d' gm es e
theorem kS{ds:List D}(h:DepL (n+1) ds):DepL (n+1) (.str x :: ds):=DepL.cons (fun es e=>by cases e) h
theorem jaL{x:Int}{ds:List D}(h:DepL (n+1) ds):DepL (n+1) (.int x :: ds):=DepL.cons (fun es e=>by cases e) h
theorem qk{es ds:List D}(h1:DepL n es)(h:DepL (n+1) ds):DepL (n+1) (.tup es :: ds):=DepL.cons (fun bW e=>by cases e;exact h1) h
theorem JT{d:Int}{ds:List D}(h:DepL (n+2) ds):DepL (n+2) (plD x d :: ds):=qk (kS (jaL DepL.nil)) h
theorem ZI{t:Tm}{ds:List D}(h:DepL (n+3) ds):DepL (n+3) (t.toD :: ds):=by
 cases t with
 | is x=>exact qk (kS (kS DepL.nil)) h
 | at_ r x d=>exact qk (kS (kS (JT DepL.nil))) h
theorem jgC{t:Bd}{ds:List D}(h:DepL (n+2) ds):DepL (n+2) (t.toD :: ds):=by
 cases t with
 | is x=>exact qk (kS (kS DepL.nil)) h
 | row x=>exact qk (kS (kS DepL.nil)) h
theorem ZJ{ds:List D}(h:DepL (n+4) ds):DepL (n+4) (C.toD :: ds):=by
 cases C with
 | least a b c=>exact qk (kS (ZI (ZI (jaL DepL.nil)))) h
 | each t td u ud r way b c=>exact qk (kS (JT (JT (kS (kS (jgC (jaL DepL.nil))))))) h
 | rise t td u ud r=>exact qk (kS (JT (JT (kS DepL.nil)))) h
theorem K5{n:Nat}:∀xs:List Str,DepL (n+1) (xs.map D.str)
 | []=>DepL.nil
 | _ :: xs=>kS (K5 xs)
theorem Zt:∀xs:List Str,lvL (xs.map D.str)=xs
 | []=>jT
 | x :: xs=>by rw[ce,jN,ke,Zt xs];rfl
theorem jgB{ds:List D}(h:DepL (n+5) ds):DepL (n+5) (S.toD :: ds):=by
 cases S with
 | set x t c=>exact qk (kS (kS (ZI (jaL DepL.nil)))) h
 | put r x d t c=>exact qk (kS (kS (JT (ZI (jaL DepL.nil))))) h
 | any x=>exact qk (kS (kS DepL.nil)) h
 | claim C=>exact qk (kS (ZJ DepL.nil)) h
 | call x f as rs=>exact qk (kS (kS (kS (qk (K5 as) (qk (K5 rs) DepL.nil))))) h
theorem Kj{n:Nat}:∀{l:List Cl},DepL (n+4) (l.map Cl.toD)
 | []=>DepL.nil
 | _ :: _=>ZJ Kj
theorem Y9(t:Tm):(lvD t.toD).length<=3:=by
 cases t <;> unfold Tm.toD <;> simp[ka,jN,jT,ke,Ju]
theorem jgG(t:Bd):(lvD t.toD).length<=3:=by
 cases t <;> unfold Bd.toD <;> simp[ka,jN,jT,ke,Ju]
theorem ZO(C:Cl):(lvD C.toD).length<=8:=by
 cases C with
 | least a b c=>have:=Y9 a;have:=Y9 b;unfold Cl.toD;simp[ka,jN,jT,ke,yb];omega
 | each t td u ud r way b c=>have:=jgG b;unfold Cl.toD;simp[ka,jN,jT,ke,yb,Ju];omega
 | rise t td u ud r=>unfold Cl.toD;simp[ka,jN,jT,ke,Ju]
theorem jf6(hf:S.few):(lvD S.toD).length<=15:=by
 cases S with
 | call x f as rs=>have:=hf.1;have:=hf.2;unfold Sm.toD;simp[ka,jN,jT,ke,Zt];omega
 | set x t c=>have:=Y9 t;unfold Sm.toD;simp[ka,jN,jT,ke,yb];omega
 | put r x d t c=>have:=Y9 t;unfold Sm.toD;simp[ka,jN,jT,ke,yb,Ju];omega
 | any x=>unfold Sm.toD;simp[ka,jN,jT,ke]
 | claim C=>have:=ZO C;unfold Sm.toD;simp[ka,jN,jT,ke];omega
theorem Km:∀l:List Cl,(lvL (l.map Cl.toD)).length<=8 * l.length
 | []=>by rw[oy,jT];exact cy _
 | C :: l=>by have:=ZO C;have:=Km l;rw[ce,jN,aG,bR];omega
theorem Zu{xs rs:List Str}:∀{l:List Cl},(∀C∈l,C.In xs rs)->LvOk rs (l.flatMap Cl.ns) (lvL (l.map Cl.toD))
 | [],_=>by rw[oy,jT];exact LvOk.nil
 | C :: l,h=>by
  rw[ce,jN,dX];exact LvOk.app (jbY (h C bt)) (Zu fun D hD=>h D (aZ _ hD))
theorem jdq{ns us:List Str}(hn:NumsOf p ns)(hu:us.Pairwise ltT)(hm:∀x,x∈us↔x∈p.others\/x = "out"):us.filter (fun x=>!decide (x∈p.ps))=ns.filter (fun x=>!decide (x∈p.ps)):=by
 refine yK (hu.filter _) (hn.up.filter _) fun x=>?_
 rw[ma,ma,hn.mem,hm];constructor
 .rintro⟨h | h,g⟩
  .exact⟨.inl h,g⟩
  .exact⟨.inr (.inr h),g⟩
 .rintro⟨h | h | h,g⟩
  .exact⟨.inl h,g⟩
  .rw[WQ h]at g;cases g
  .exact⟨.inr h,g⟩
def jax(x:Str):List Str->List Str
 | []=>[x]
 | y :: r=>if Spec.ltCps x.cps.toList y.cps.toList=true then x :: y :: r else if x=y then y :: r else y :: jax x r
theorem KS(x:Str):∀l z,z∈jax x l↔z=x\/z∈l
 | [],z=>by simp[jax]
 | y :: r,z=>by
  rw[jax];split
  .simp
  .split
   .rename_i h;subst h;simp
   .rw[aM,KS x r z,aM]
    constructor
    .rintro (h | h | h)
     .exact .inr (.inl h)
     .exact .inl h
     .exact .inr (.inr h)
    .rintro (h | h | h)
     .exact .inr (.inl h)
     .exact .inl h
     .exact .inr (.inr h)
theorem jb2(x:Str):∀l:List Str,l.Pairwise ltT->(jax x l).Pairwise ltT
 | [],_=>by simp[jax]
 | y :: r,h=>by
  obtain⟨a1,a2⟩:=p6.mp h;rw[jax];split
  .rename_i g
   refine p6.mpr ⟨fun z hz=>?_,h⟩;rcases aM.mp hz with rfl | hz
   .exact g
   .exact lt_trans g (a1 z hz)
  .rename_i g
   split
   .exact h
   .rename_i ne
    refine p6.mpr ⟨fun z hz=>?_,jb2 x r a2⟩;rcases (KS x r z).mp hz with rfl | hz
    .exact jbl (by simpa using g) fun e=>ne (jbL e)
    .exact a1 z hz
theorem jbM:∀l:List Str,∃ns:List Str,ns.Pairwise ltT/\∀x,x∈ns↔x∈l
 | []=>⟨[],.nil,fun x=>Iff.rfl⟩
 | y :: l=>by
  obtain⟨ns,h1,h2⟩:=jbM l;exact⟨jax y ns,jb2 y ns h1,fun x=>by rw[KS,h2,aM]⟩
theorem jgK{l:List Str}(h:l.Pairwise ltT):l.Nodup:=h.imp fun {a b} cV e=>by
 subst e;have:=jew a.cps.toList;unfold ltT at cV;rw[this]at cV
 cases cV
theorem LvOk.names{fs n l:List Str}(h:LvOk fs n l):∀xs:List Str,LvOk fs (xs++n) (xs++l)
 | []=>h
 | x :: xs=>LvOk.one (LvOk.names h xs) x
theorem LvOk.rows{fs n l:List Str}(h:LvOk fs n l):∀{xs:List Str},(∀x∈xs,x∈fs)->LvOk fs n (xs++l)
 | [],_=>h
 | x :: xs,hx=>LvOk.row (LvOk.rows h fun y hy=>hx y (aZ _ hy)) (hx x bt)
theorem Kd{fs:List Str}(hr:∀r∈rs,r∈fs){t:Tm}(ht:t.In xs rs):t.In xs fs:=by
 cases t with
 | is x=>exact ht
 | at_ r x d=>exact⟨hr _ ht.1,ht.2⟩
theorem cl_mono{fs:List Str}(hr:∀r∈rs,r∈fs)(hC:C.In xs rs):C.In xs fs:=by
 cases C with
 | least a b c=>exact⟨Kd hr hC.1,Kd hr hC.2⟩
 | each t td u ud r way b c=>
  obtain⟨a1,a2,a3,a4,a5⟩:=hC;refine⟨a1,a2,hr _ a3,a4,?_⟩
  cases b with
  | is x=>exact a5
  | row x=>exact hr _ a5
 | rise t td u ud r=>exact⟨hC.1,hC.2.1,hr _ hC.2.2⟩
structure FarOk(X:Nm)(fs:List Str):Prop where
 rs:∀r∈X.rs,r∈fs
 f0:X.f0∈fs
 f1:X.f1∈fs
theorem jhi{X:Nm}{fs:List Str}(F:FarOk X fs)(h:S.inn X):LvOk fs S.ns (lvD S.toD):=by
 cases S with
 | set y t c=>
  have e:lvD (Sm.set y t c).toD=("set" : Str) :: y :: lvD t.toD:=by unfold Sm.toD;simp[ka,jN,jT,ke,yb]
  rw[e];exact LvOk.kw (LvOk.one (jbX (Kd F.rs h.2)) y) (by decide)
 | put r y d t c=>
  have e:lvD (Sm.put r y d t c).toD=("put" : Str) :: r :: y :: lvD t.toD:=by unfold Sm.toD;simp[ka,jN,jT,ke,yb,Ju]
  rw[e];exact LvOk.kw (LvOk.row (LvOk.one (jbX (Kd F.rs h.2.2)) y) (F.rs _ h.1)) (by decide)
 | any y=>
  have e:lvD (Sm.any y).toD=[("any" : Str),y]:=by unfold Sm.toD;simp[ka,jN,jT,ke]
  rw[e];exact LvOk.kw (LvOk.one LvOk.nil y) (by decide)
 | claim C=>
  have e:lvD (Sm.claim C).toD=("claim" : Str) :: lvD C.toD:=by unfold Sm.toD;simp[ka,jN,jT,ke]
  rw[e];exact LvOk.kw (jbY (cl_mono F.rs (show C.In X.nums X.rs from h))) (by decide)
 | call x g as rs=>
  obtain⟨_,_,h3,_,h5⟩:=h;have e:lvD (Sm.call x g as rs).toD=("call" : Str) :: x :: g :: (as++(rs++[])):=by unfold Sm.toD;simp[ka,jN,jT,ke,Zt]
  have hg:g∈fs:=by
   rcases h3 with h | h
   .rw[h.1];exact F.f0
   .rw[h.1];exact F.f1
  rw[e];have hn:(Sm.call x g as rs).ns=x :: (as++[]):=by show [x]++as=_;simp
  rw[hn];exact LvOk.kw (LvOk.one (LvOk.row (LvOk.names (LvOk.rows LvOk.nil fun r bL=>F.rs r (h5 r bL)) as) hg) x) (by decide)
theorem KP{X:Nm}{fs:List Str}(F:FarOk X fs):∀(n:Nat) (l:List (StN n)),(∀s∈l,inN X n s)->LvOk fs ((kr n l).flatMap Nd.ns) (lvL (l.map (stD n)))
 | 0,l,_=>by cases Z8 (l:=l);rw[oy,jT];exact LvOk.nil
 | n+1,[],_=>by rw[oy,jT];exact LvOk.nil
 | n+1,s :: l,h=>by
  rw[qX,ce,jN,oC];refine LvOk.app ?_ (KP F (n+1) l fun t ht=>h t (aZ _ ht));match s,h s bt with
  | .leaf S,hs=>
   show LvOk fs ([Nd.leaf S].flatMap Nd.ns) (lvD S.toD);have e:[Nd.leaf S].flatMap Nd.ns=S.ns:=cv _;rw[e];exact jhi F hs
  | .ite a b c x y,hs=>
   obtain⟨h1,_,_,hx,hy⟩:=hs;have e:lvD (stD (n+1) (Fo.ite a b c x y))=("if" : Str) :: (lvD (Cl.least a b c).toD++(lvL (x.map (stD n))++lvL (y.map (stD n)))):=by
    show lvD (Nd.ite a b c (x.map (stD n)) (y.map (stD n))).toD=_;unfold Nd.toD;simp[ka,jN,jT,ke]
   rw[e,dX];refine LvOk.kw (LvOk.app (jbY (cl_mono F.rs h1)) ?_) (by decide);show LvOk fs ((([x,y]:List (List (StN n))).flatMap (kr n)).flatMap Nd.ns) _;rw[dX,dX,wu,cv,oC];exact LvOk.app (KP F n x hx) (KP F n y hy)
  | .whl a b c ks x,hs=>
   obtain⟨h1,_,hC,_,hx⟩:=hs;have e:lvD (stD (n+1) (Fo.whl a b c ks x))=("while" : Str) :: ((lvD (Cl.least a b c).toD++lvL (ks.map Cl.toD))++lvL (x.map (stD n))):=by
    show lvD (Nd.whl a b c ks (x.map (stD n))).toD=_;unfold Nd.toD;simp[ka,jN,jT,ke]
   rw[e,dX];have hk:LvOk fs ((Cl.least a b c :: ks).flatMap Cl.ns) (lvD (Cl.least a b c).toD++lvL (ks.map Cl.toD)):=by
    rw[dX];exact LvOk.app (jbY (cl_mono F.rs h1)) (Zu (xs:=X.nums) fun C pI=>cl_mono F.rs (hC C pI))
   refine LvOk.kw (LvOk.app hk ?_) (by decide);show LvOk fs ((([x]:List (List (StN n))).flatMap (kr n)).flatMap Nd.ns) _;rw[dX,wu,cv];exact KP F n x hx
theorem JB:∀(n:Nat) (l:List (StN n)),DepL (2 * n+5) (l.map (stD n))
 | 0,l=>by cases Z8 (l:=l);exact DepL.nil
 | n+1,[]=>DepL.nil
 | n+1,s :: l=>by
  have ih:=JB (n+1) l;rw[ce];rw[show 2 * (n+1)+5=2 * n+6+1 by omega]at ih |-;match s with
  | .leaf S=>exact jgB (n:=2 * n+2) ih
  | .ite a b c x y=>exact qk (kS (ZJ (n:=2 * n+2) (qk (JB n x) (qk (JB n y) DepL.nil)))) ih
  | .whl a b c ks x=>exact qk (kS (ZJ (n:=2 * n+2) (qk (n:=2 * n+5) (DepL.le (Kj (n:=0)) (by omega)) (qk (JB n x) DepL.nil)))) ih
theorem Jm{X:Nm}:∀(n:Nat) (l:List (StN n)),(∀s∈l,inN X n s)->(lvL (l.map (stD n))).length<=33 * qx n l
 | 0,l,_=>by cases Z8 (l:=l);rw[oy,jT];exact cy _
 | n+1,[],_=>by rw[oy,jT];exact cy _
 | n+1,s :: l,h=>by
  have ih:=Jm (n+1) l fun t ht=>h t (aZ _ ht)
  rw[ce,jN,aG];have e:qx (n+1) (s :: l)=qH (n+1) s+qx (n+1) l:=rfl;have hs:(lvD (stD (n+1) s)).length<=33 * qH (n+1) s:=by
   match s,h s bt with
   | .leaf S,hs=>
    have hf:S.few:=by
     have hs:S.inn X:=hs
     cases S with
     | call x g as rs=>obtain⟨_,_,h3,h4,_⟩:=hs;exact⟨by omega,by omega⟩
     | _=>trivial
    exact aV (jf6 hf) (show 15<=33 * 1 by decide)
   | .ite a b c x y,hs=>
    obtain⟨_,_,_,hx,hy⟩:=hs;have h1:=Jm n x hx;have h2:=Jm n y hy;have h3:=ZO (Cl.least a b c);show (lvD (Nd.ite a b c (x.map (stD n)) (y.map (stD n))).toD).length<=33 * (1+(x.map (qH n)).sum+(y.map (qH n)).sum);unfold qx at h1 h2;unfold Nd.toD;simp[ka,jN,jT,ke];omega
   | .whl a b c ks x,hs=>
    obtain⟨_,hk,_,_,hx⟩:=hs;have h1:=Jm n x hx;have h3:=ZO (Cl.least a b c);have h4:=Km ks;show (lvD (Nd.whl a b c ks (x.map (stD n))).toD).length<=33 * (1+(x.map (qH n)).sum);unfold qx at h1;unfold Nd.toD;simp[ka,jN,jT,ke];omega
  omega
end LW
namespace L2
open PySem PySem.Spec PyProof.Rows
theorem LikeV.tup{K:aC}{H:Hp}{n:Nat}{a b:aa}{xs ys:List V}(ha:H a=some (.tup xs))(hb:H b=some (.tup ys))(hl:xs.length=ys.length)(h:∀(j:Nat) x' y',xs[j]?=some x'->ys[j]?=some y'->LikeV K H n x' y'):LikeV K H (n+1) (.ref a) (.ref b):=.inr (.inl ⟨a,b,xs,ys,rfl,rfl,SqT.of ha,SqT.of hb,hl,h⟩)
theorem LikeV.lst{K:aC}{H:Hp}{n:Nat}{a b:aa}{xs ys:List V}(ha:H a=some (.lst xs))(hb:H b=some (.lst ys))(hl:xs.length=ys.length)(h:∀(j:Nat) x' y',xs[j]?=some x'->ys[j]?=some y'->LikeV K H n x' y'):LikeV K H (n+1) (.ref a) (.ref b):=.inr (.inr ⟨a,b,xs,ys,rfl,rfl,SqL.of ha,SqL.of hb,hl,h⟩)
def LikeL(K:aC)(H:Hp)(n:Nat)(xs ys:List V):Prop:=xs.length=ys.length/\∀(j:Nat) x' y',xs[j]?=some x'->ys[j]?=some y'->LikeV K H n x' y'
theorem LikeL.nil{K:aC}{H:Hp}{n:Nat}:LikeL K H n [] []:=⟨rfl,fun j x y h _=>by simp at h⟩
theorem LikeL.cons{K:aC}{H:Hp}{n:Nat}{x y:V}{xs ys:List V}(h:LikeV K H n x y)(t:LikeL K H n xs ys):LikeL K H n (x :: xs) (y :: ys):=⟨by rw[bR,bR,t.1],fun j x' y' e1 e2=>by
 cases j with
 | zero=>simp at e1 e2;subst e1 e2;exact h
 | succ j=>exact t.2 j x' y' (by simpa using e1) (by simpa using e2)⟩
mutual
theorem YO{K:aC}{H:Hp}:∀{n:Nat} {d:D} {x y:V},d.depth<=n->Held H d x->Held H d y->LikeV K H n x y
 | n,.int i,x,y,_,h,h'=>by unfold Held at h h';subst h h';exact Jw _ _
 | n,.str i,x,y,_,h,h'=>by unfold Held at h h';subst h h';exact Jv _ _
 | n,.tup ds,x,y,hn,h,h'=>by
  unfold Held at h h';obtain⟨a,xs,rfl,ha,h1⟩:=h;obtain⟨b,ys,rfl,hb,h2⟩:=h';unfold D.depth at hn
  cases n with
  | zero=>omega
  | succ n=>
   have hl:=heldL_like (K:=K) (n:=n) (by omega) h1 h2;exact LikeV.tup ha hb hl.1 hl.2
theorem heldL_like{K:aC}{H:Hp}:∀{n:Nat} {ds:List D} {xs ys:List V},D.depthL ds<=n->HeldL H ds xs->HeldL H ds ys->LikeL K H n xs ys
 | n,[],xs,ys,_,h,h'=>by unfold HeldL at h h';subst h h';exact .nil
 | n,d :: ds,xs,ys,hn,h,h'=>by
  unfold HeldL at h h';obtain⟨v,r,rfl,e1,e2⟩:=h;obtain⟨v',r',rfl,vM,lM⟩:=h';unfold D.depthL at hn;exact .cons (YO (by omega) e1 vM) (heldL_like (by omega) e2 lM)
end
section
variable {X:Cx}
theorem jfi(n:Nat)(hu:X.A.units+1+n < cLine):OpR X (hX .Eq) (fun x y H Q=>∃a b xs ys,x=.ref a/\y=.ref b/\SqL X.K H a xs/\SqL X.K H b ys/\LikeL X.K H n xs ys/\Q (.bl true) H):=by
 intro ah s σ H x y v u Q I rx ry h;obtain⟨a,b,xs,ys,rfl,rfl,ha,hb,⟨hl,hj⟩,q⟩:=h
 cases rx;cases ry
 obtain⟨its,io,ta,_⟩:=I.list ha;obtain⟨cM,k_,tb,_⟩:=I.list hb;have l3:=io.length;have l4:=k_.length;have dv:=U8 (A:=X.A) (s:=s) (e:=fun _=>true) ta.isList tb.isList (by simp;omega) (by omega) (Y8 hl io k_ fun j x' y' u' v' e1 e2 r1 r2=>yN I n X.A.in1 x' y' u' v' (by show X.A.units+1+n < cLine;exact hu) (hj j x' y' e1 e2) r1 r2);have e:(cE its.toArray.size).all (fun _=>true)=true:=by simp
 rw[e]at dv;exact dv X.prog X.w X.xe _ ⟨.bl true,H,I,rfl,q⟩
end
end L2
namespace LW
open PySem L2
theorem K4(x:Str)(d:Int):(plD x d).depth=1:=rfl
theorem qv(x:Str):(D.str x).depth=0:=rfl
theorem Jh(x:Int):(D.int x).depth=0:=rfl
theorem qD(ds:List D):(D.tup ds).depth=D.depthL ds+1:=by first | rfl | (rw[D.depth]) | (rw[D.depth,Nat.add_comm])
theorem qE:D.depthL []=0:=rfl
theorem kP(d:D)(ds:List D):D.depthL (d :: ds)=max d.depth (D.depthL ds):=by first | rfl | rw[D.depthL]
theorem jb8(t:Tm):t.toD.depth<=2:=by
 cases t <;> unfold Tm.toD <;> simp only[qD,kP,qv,K4,qE] <;> omega
theorem jht(t:Bd):t.toD.depth<=2:=by
 cases t <;> unfold Bd.toD <;> simp only[qD,kP,qv,K4,qE] <;> omega
theorem jeO(C:Cl):C.toD.depth<=3:=by
 cases C with
 | least a b c=>have:=jb8 a;have:=jb8 b;unfold Cl.toD;simp only[qD,kP,qv,K4,qE,Jh];omega
 | each t td u ud r way b c=>have:=jht b;unfold Cl.toD;simp only[qD,kP,qv,K4,qE,Jh];omega
 | rise t td u ud r=>unfold Cl.toD;simp only[qD,kP,qv,K4,qE,Jh];omega
theorem ZG:∀xs:List Str,D.depthL (xs.map D.str)=0
 | []=>rfl
 | x :: xs=>by rw[ce,kP,qv,ZG xs];rfl
theorem jhs(S:Sm):S.toD.depth<=4:=by
 cases S with
 | set x t c=>have:=jb8 t;unfold Sm.toD;simp only[qD,kP,qv,K4,qE,Jh];omega
 | put r x d t c=>have:=jb8 t;unfold Sm.toD;simp only[qD,kP,qv,K4,qE,Jh];omega
 | any x=>unfold Sm.toD;simp only[qD,kP,qv,qE];omega
 | claim C=>have:=jeO C;unfold Sm.toD;simp only[qD,kP,qv,qE];omega
 | call x f as rs=>have:=ZG as;have:=ZG rs;unfold Sm.toD;simp only[qD,kP,qv,qE];omega
theorem jeP{n:Nat}:∀{l:List D},(∀d∈l,d.depth<=n)->D.depthL l<=n
 | [],_=>cy _
 | d :: l,h=>by
  have h1:=h d bt;have h2:=jeP (l:=l) fun x hx=>h x (aZ _ hx)
  rw[kP];omega
def ZU(d:Du):Prop:=∀x∈d.way,x.depth<=4
def WOk(aq:List (List D)):Prop:=∀w∈aq,∀x∈w,x.depth<=4
theorem WOk.app{aq:List (List D)}{r:List D}(h:WOk aq)(hr:∀x∈r,x.depth<=4):WOk (aq.map (·++r)):=by
 intro w hw x hx;obtain⟨w',cH,rfl⟩:=ci.mp hw;rcases aT.mp hx with hx | hx
 .exact h w' cH x hx
 .exact hr x hx
theorem yx{f kind:Str}{path:List Int}{aq:List (List D)}{Cs:List Cl}(h:WOk aq):∀d∈ki f kind path aq Cs,ZU d:=by
 intro d hd;obtain⟨w,hw,hd⟩:=s_.mp hd;obtain⟨c,_,rfl⟩:=ci.mp hd;exact h w hw
theorem yA(C:Cl):(jG C).depth<=4:=by
 have:=jeO C;unfold jG;simp only[qD,kP,qv,qE];omega
theorem KW(g:Str)(ps as:List Str):∀x∈jU g ps as,x.depth<=4:=by
 intro x hx;obtain⟨q,_,rfl⟩:=ci.mp hx;unfold jad;simp only[qD,kP,qv,qE,Jh];omega
theorem jdA(g:Str)(p:Pc)(rows:List Str)(x0:Str):∀x∈zO g p rows x0,x.depth<=4:=by
 intro x hx;rcases aT.mp hx with hx | hx
 .rcases aT.mp hx with hx | hx
  .obtain⟨r,_,rfl⟩:=ci.mp hx
   unfold jas;simp only[qD,kP,qv,qE];omega
  .rw[aN.mp hx]
   unfold jgH;simp only[qD,kP,qv,qE];omega
 .obtain⟨C,_,rfl⟩:=ci.mp hx
  exact yA C
theorem Zo(S:Sm):∀x∈[S.toD],x.depth<=4:=fun x hx=>by rw[aN.mp hx];exact jhs S
variable {pr:Str->Pc}
theorem jdu{f:Str}{path:List Int}{aq:List (List D)}(S:Sm)(h:WOk aq):(∀d∈(S.walk f pr path aq).1,ZU d)/\WOk (S.walk f pr path aq).2:=by
 cases S with
 | claim C=>exact⟨yx h,h⟩
 | call x g as rows=>exact⟨yx (h.app (KW _ _ _)),(h.app (KW _ _ _)).app (jdA _ _ _ _)⟩
 | set x t c=>exact⟨fun _ z=>(by cases z),h.app (Zo _)⟩
 | put r x d t c=>exact⟨fun _ z=>(by cases z),h.app (Zo _)⟩
 | any x=>exact⟨fun _ z=>(by cases z),h.app (Zo _)⟩
theorem jbH(p:Pc)(ns:List Str):WOk [p.wayD ns]:=by
 intro w hw x hx;rw[aN.mp hw]at hx;rcases aT.mp hx with hx | hx
 .obtain⟨y,_,rfl⟩:=ci.mp hx
  unfold qc;simp only[qD,kP,qv,qE,Jh];omega
 .obtain⟨C,_,rfl⟩:=ci.mp hx
  exact yA C
theorem Jy{α:Type}{wk:List Int->List (List D)->α->Option Wk}(hw:∀path aq s r,WOk aq->wk path aq s=some r->(∀d∈r.1,ZU d)/\WOk r.2){ar:List Int}:∀(l:List α) (k:Nat) (aq:List (List D)) (r:Wk),WOk aq->goO wk ar k aq l=some r->(∀d∈r.1,ZU d)/\WOk r.2
 | [],k,aq,r,h,e=>by
  unfold goO at e
  cases e
  exact⟨fun _ z=>(by cases z),h⟩
 | s :: l,k,aq,r,h,e=>by
  rw[goO]at e;split at e
  .cases e
  .rename_i r1 e1
   split at e
   .split at e
    .cases e
    .rename_i r2 e2
     cases e
     obtain⟨h1,h2⟩:=hw _ _ _ _ h e1;obtain⟨h3,h4⟩:=Jy hw l (k+1) _ _ h2 e2;refine⟨fun d hd=>?_,h4⟩;rcases aT.mp hd with hd | hd
     .exact h1 d hd
     .exact h3 d hd
   .cases e
theorem jb0{aq:List (List D)}(h:WOk aq)(C:Cl):WOk (aq.map (·++[jG C])):=h.app fun x hx=>by rw[aN.mp hx];exact yA C
theorem jce(ks:List Cl)(C:Cl):WOk [ks.map jG++[jG C]]:=by
 intro w hw x hx;rw[aN.mp hw]at hx;rcases aT.mp hx with hx | hx
 .obtain⟨D,_,rfl⟩:=ci.mp hx
  exact yA D
 .rw[aN.mp hx];exact yA C
theorem yH{f:Str}{pr:Str->Pc}:∀(n:Nat) (path:List Int) (aq:List (List D)) (s:StN n) (r:Wk),WOk aq->j6 f pr n path aq s=some r->(∀d∈r.1,ZU d)/\WOk r.2
 | 0,_,_,_,_,_,e=>by cases e
 | n+1,path,aq,.leaf S,r,h,e=>by
  cases e
  exact jdu S h
 | n+1,path,aq,.ite a b c x y,r,h,e=>by
  unfold j6 Fo.walk at e;dsimp only at e;split at e
  .cases e
  .rename_i r1 e1
   split at e
   .cases e
   .rename_i r2 e2
    cases e
    obtain⟨h1,h2⟩:=Jy (yH n) x 0 _ _ (jb0 h _) e1;obtain⟨h3,h4⟩:=Jy (yH n) y 0 _ _ (jb0 h _) e2;refine⟨fun d hd=>?_,fun w hw=>?_⟩
    .rcases aT.mp hd with hd | hd
     .exact h1 d hd
     .exact h3 d hd
    .rcases aT.mp hw with hw | hw
     .exact h2 w hw
     .exact h4 w hw
 | n+1,path,aq,.whl a b c ks x,r,h,e=>by
  unfold j6 Fo.walk at e;dsimp only at e;split at e
  .cases e
  .rename_i r1 e1
   cases e
   obtain⟨h1,h2⟩:=Jy (yH n) x 0 _ _ (jce ks _) e1;refine⟨fun d hd=>?_,jce ks _⟩;rcases aT.mp hd with hd | hd
   .exact yx h d hd
   .rcases aT.mp hd with hd | hd
    .exact h1 d hd
    .exact yx h2 d hd
theorem jgA(p:Pc)(pr:Str->Pc)(ns:List Str){ds:List Du}(e:p.dus pr ns=some ds):∀d∈ds,ZU d:=by
 unfold Pc.dus at e;split at e
 .cases e
 .rename_i r e1
  cases e
  obtain⟨h1,h2⟩:=Jy (yH p.lv) p.bd 0 _ _ (jbH p ns) e1;intro d hd;rcases aT.mp hd with hd | hd
  .exact h1 d hd
  .exact yx h2 d hd
theorem YM{K:aC}{H:Hp}{n:Nat}:∀l:List Int,LikeL K H n (l.map V.int) (l.map V.int)
 | []=>.nil
 | x :: l=>.cons (Jw x n) (YM l)
variable {K:aC}{H:Hp}
theorem jfF{d:Du}{v v':V}{wl Fc:aa}(o:ZU d)(h:DuAt H d v wl)(h':DuAt H d v' Fc):LikeV K H 6 v v':=by
 obtain⟨t,pt,us,gv,rfl,h1,h2,h3,h4,h5⟩:=h;obtain⟨t',pt',cG,gv',rfl,gr,sg,R7,R6,R5⟩:=h';have lw:=heldL_like (K:=K) (n:=4) (jeP o) h4 R6;have lp:=YM (K:=K) (H:=H) (n:=4) d.path;have l:=LikeL.cons (K:=K) (H:=H) (Jv d.f 5) (.cons (Jv d.kind 5) (.cons (LikeV.tup h2 sg lp.1 lp.2) (.cons (Jw d.k 5) (.cons (LikeV.lst h3 R7 lw.1 lw.2) (.cons (YO (n:=5) (aV (jeO _) (by decide)) h5 R5) .nil)))));exact LikeV.tup h1 gr l.1 l.2
theorem YT{K:aC}{H:Hp}:∀{ds:List Du} {vs dR:List V} {aD oI:List aa},(∀d∈ds,ZU d)->DutsAt H ds vs aD->DutsAt H ds dR oI->LikeL K H 6 vs dR
 | [],[],[],[],[],_,_,_=>.nil
 | d :: ds,v :: vs,v' :: dR,wl :: aD,Fc :: oI,o,h,h'=>.cons (jfF (o d bt) h.1 h'.1) (YT (fun x hx=>o x (aZ _ hx)) h.2 h'.2)
 | [],_ :: _,_,_,_,_,h,_=>h.elim
 | [],[],_,_ :: _,_,_,h,_=>h.elim
 | [],[],_ :: _,[],_,_,_,h=>h.elim
 | [],[],[],[],_ :: _,_,_,h=>h.elim
 | _ :: _,[],_,_,_,_,h,_=>h.elim
 | _ :: _,_ :: _,_,[],_,_,h,_=>h.elim
 | _ :: _,_ :: _,[],_ :: _,_,_,_,h=>h.elim
 | _ :: _,_ :: _,_ :: _,_ :: _,[],_,_,h=>h.elim
abbrev ja2:aJ:=top 45
structure NmH(X:Nm)(H:Hp)(fa na fr ra:aa):Prop where
 hf:H fa=some (.lst [.str X.f0,.str X.f1])
 hn:H na=some (.lst (X.nums.map V.str))
 hfr:H fr=some (.lst (X.free.map V.str))
 hr:H ra=some (.lst (X.rs.map V.str))
 ln:0 < X.nums.length/\X.nums.length<=100
 lf:0 < X.free.length
 lr:∃r0 r1,X.rs=[r0,r1]
 sub:∀x∈X.free,x∈X.nums
variable {X:Nm}{fa na ra:aa}
theorem NmH.mono{H':Hp}{fr:aa}(N:NmH X H fa na fr ra)(s:Same H H'):NmH X H' fa na fr ra:=⟨s _ _ N.hf,s _ _ N.hn,s _ _ N.hfr,s _ _ N.hr,N.ln,N.lf,N.lr,N.sub⟩
theorem qC{H:Hp}:∀xs:List Str,HeldL H (xs.map D.str) (xs.map V.str)
 | []=>jj
 | _ :: xs=>jb jl (qC xs)
inductive spPlain(vs:List V)(H:Hp)(Q:VK)(E:XK):Prop
 | mk (c:Int) (fa na fr ra:aa) (X:Nm) (_:vs=[.int c,.ref fa,.ref na,.ref fr,.ref ra]) (_:NmH X H fa na fr ra) (_:∀(u:V) (S:Sm) (H':Hp),S.inn X->Same H H'->Held H' S.toD u->Q u H')
variable {w:aE}{mg:Str->Option ac}{base:aB}{f:aa}{fd:aO}
section
variable {P:aF}
theorem jef(F:Fun K "_law_plain" "_law_plain" ja2 f fd)(B:Free0 mg)(eC:Fn P w K mg base 1 "_law_far" ["_law_cell_here"] Yy)(lQ:Fn P w K mg base 2 "_law_place" ["_law_cell_here","_law_nums"] spPlaceL)(gy:Fn P w K mg base 3 "_law_term" ["_law_cell_here","_law_nums","_law_rows"] spTermL)(dU:Fn P w K mg base 4 "_law_claim" ["_law_cell_here","_law_nums","_law_rows"] spClaimL)(As:Fn P w K mg base 1 "_law_order" ["_law_rows","_law_cell_here"] spOrder):FnOk P w K mg base CX0 5 f fd ["_law_cell_here","_law_f","_law_nums","_law_free","_law_rows"] spPlain:=by
 have sc:FnScope ["_law_cell_here","_law_f","_law_nums","_law_free","_law_rows","_law_x","_law_args"] ["_law_cell_here","_law_f","_law_nums","_law_free","_law_rows"] (jp ja2):=fQ;refine F.okZ sc (fun aH A outer s H vs Q E hr h=>?_);obtain⟨c,fa,na,fr,ra,X,rfl,N,q⟩:=h;refine⟨_,(jg (ju (i:=5) sc.nd rfl oQ (jk jS (zpv 3) (jn jZ (zpv 0) (kb jI (by rfl) B.len_ kz (ja (zpv 3) jc))) (fun _ _=>rfl)))
   (jg (jJ (jx j4 (jn jZ (zpv 0) jf) jf (jB _)) (jh (jv (js (ja jm (ja (zpv 5) jc))))) jC)
   (jg (jJ (jx j4 (jn jZ (zpv 0) jf) jf (jB _)) (jh (jv (js (ja jm (ja (jk jS (zpv 4) (jn jZ (jn jM (zpv 0) jf) jf) (fun _ _=>rfl)) (ja (jA lQ hr (ja (jn jM (zpv 0) jf) (ja (zpv 2) jc))) (ja (js (ja jm (ja (zpv 5) jc))) (ja (jA eC hr (ja (jn jM (zpv 0) jf) jc)) jc)))))))) jC)
   (jg (jJ (jx j4 (jn jZ (zpv 0) jf) jf (jB _)) (jh (jv (js (ja jm (ja (zpv 5) (ja (jA gy hr (ja (jn jM (zpv 0) jf) (ja (zpv 2) (ja (zpv 4) jc)))) (ja (jA eC hr (ja (jn jM (zpv 0) jf) jc)) jc))))))) jC)
   (jg (jJ (zU (jx j4 (jn jZ (zpv 0) jf) jf (jB _)) (zt (jx j4 (jn jZ (jn jM (zpv 0) jf) jf) jf (jB _)))).pt (jh (jv (js (ja jm (ja (zpv 5) (ja (jk jS (zpv 1) jf (fun _ _=>rfl)) (ja (js (ja (jk jS (zpv 2) (jn jZ (jn jM (zpv 0) jf) (kb jI (by rfl) B.len_ kz (ja (zpv 2) jc))) (fun _ _=>rfl)) jc)) (ja (jA As hr (ja (zpv 4) (ja (jn jM (zpv 0) jf) jc))) jc)))))))) jC)
   (jg (jJ (jx j4 (jn jZ (zpv 0) jf) jf (jB _)) (jg (ju (i:=6) sc.nd rfl oQ (js (ja (jk jS (zpv 2) (jn jZ (jn jM (zpv 0) jf) (kb jI (by rfl) B.len_ kz (ja (zpv 2) jc))) (fun _ _=>rfl)) (ja (jk jS (zpv 2) (jn jZ (jn jM (zpv 0) jf) (kb jI (by rfl) B.len_ kz (ja (zpv 2) jc))) (fun _ _=>rfl)) jc))))
   (jh (jv (js (ja jm (ja (zpv 5) (ja (jk jS (zpv 1) jf (fun _ _=>rfl)) (ja (zpv 6) (ja (jA As hr (ja (zpv 4) (ja (jn jM (zpv 0) jf) jc))) jc))))))))) jC)
   (jh (jv (js (ja jm (ja (jA dU hr (ja (jn jM (zpv 0) jf) (ja (zpv 2) (ja (zpv 4) jc)))) jc))))))))))),?_⟩
 refine jP (σ':=[some (.int c),some (.ref fa),some (.ref na),some (.ref fr),some (.ref ra),none,none]) rfl ?_
 try dsimp only[j7]
 refine jfT ?_;intro _ _ _ _ _ _;obtain⟨x,hx,ex⟩:=JW (xs:=X.free) (c:=c) N.lf;obtain⟨r0,r1,Cd⟩:=N.lr;have uP:H ra=some (.lst [.str r0,.str r1]):=by have:=N.hr;rw[Cd]at this;exact this
 have lf:=N.lf;have ln:=N.ln;have iO:(0:Int) < 5:=by decide
 refine⟨_,rfl,_,rfl,_,rfl,fr,_,rfl,.inl (SqL.of N.hfr),_,_,rfl,rfl,(by rw[ax];omega),fr,_,_,_,rfl,rfl,SqL.of N.hfr,ex,?_⟩;refine gQ ?_;refine⟨_,rfl,c,5,rfl,rfl,iO,rfl,_,rfl,jQ (fun d=>?_) (fun d=>?_)⟩
 .refine⟨_,rfl,sm rfl,fun t ht=>?_⟩
  exact q _ (.any x) _ hx (je ht _) (jo jd (jb jl (jb jl jj)))
 refine⟨_,rfl,c,5,rfl,rfl,iO,rfl,_,rfl,jQ (fun d=>?_) (fun d=>?_)⟩
 .obtain⟨z,hz,ez⟩:=jbz (x:=V.str r0) (y:=V.str r1) (c:=c / 5)
  obtain⟨r,rfl,bL⟩:∃r,z=V.str r/\r∈X.rs:=by
   rw[Cd];rcases hz with rfl | rfl
   .exact⟨r0,rfl,bt⟩
   .exact⟨r1,rfl,aZ _ bt⟩
  refine⟨_,rfl,_,rfl,c,5,rfl,rfl,⟨by decide,by decide⟩,c / 5,2,rfl,rfl,(show (0:Int) < 2 by decide),ra,_,_,_,rfl,rfl,SqL.of uP,ez,?_⟩;refine⟨_,rfl,c,5,rfl,rfl,⟨by decide,by decide⟩,_,rfl,c / 5,na,X.nums,rfl,N.hn,ln.2,fun u y dd H1 hy s1 hu=>?_⟩;refine⟨_,rfl,sm rfl,fun t1 bS=>?_⟩;have s2:=je bS (.tup [V.str "is",.str x]);have e2:upd H1 t1 (.tup [V.str "is",.str x]) t1=some (.tup [V.str "is",.str x]):=jd;generalize upd H1 t1 (.tup [V.str "is",.str x])=H2 at *;refine⟨_,rfl,c,9,rfl,rfl,⟨by decide,by decide⟩,c / 9,rfl,fun nY=>⟨sm rfl,fun t ht=>?_⟩⟩;exact q _ (.put r y dd (.is x) nY) _ ⟨bL,hy,.inl (N.sub x hx)⟩ (s1.trans (s2.trans (je ht _))) (jo jd (jb jl (jb jl (jb (hu.mono (s2.trans (je ht _))) (jb (jo ((je ht _) _ _ e2) (jb jl (jb jl jj))) (jb jX jj))))))
 refine⟨_,rfl,c,5,rfl,rfl,iO,rfl,_,rfl,jQ (fun d=>?_) (fun d=>?_)⟩
 .refine⟨_,rfl,_,rfl,c,5,rfl,rfl,⟨by decide,by decide⟩,_,rfl,_,rfl,c / 5,na,ra,X.nums,X.rs,rfl,N.hn,N.hr,ln.2,fun u t H1 cU s1 hu=>?_⟩
  refine⟨_,rfl,c,7,rfl,rfl,⟨by decide,by decide⟩,c / 7,rfl,fun nY=>⟨sm rfl,fun t2 dq=>?_⟩⟩;exact q _ (.set x t nY) _ ⟨hx,cU⟩ (s1.trans (je dq _)) (jo jd (jb jl (jb jl (jb (hu.mono (je dq _)) (jb jX jj)))))
 have GD:∀rs:List Str,(rs=[r0,r1]\/rs=[r1,r0])->rs.length=2/\∀r∈rs,r∈X.rs:=fun rs h=>by
  rw[Cd];rcases h with rfl | rfl
  .exact⟨rfl,fun r hr=>hr⟩
  .refine⟨rfl,fun r hr=>?_⟩
   rcases aM.mp hr with rfl | hr
   .exact aZ _ bt
   .rw[aN.mp hr];exact bt
 have Cw:∀c:Int,∃y,y∈X.nums/\atI (X.nums.map V.str) (c % ((X.nums.map V.str).length:Int))=some (.str y):=fun c=>JW ln.1
 have cm:(0:Int) < ((X.nums.map V.str).length:Int):=by rw[ax];omega
 refine⟨_,rfl,c,5,rfl,rfl,iO,rfl,_,rfl,jQ (fun d=>?_) (fun d=>?_)⟩
 .refine⟨_,rfl,c,5,rfl,rfl,⟨by decide,by decide⟩,c / 5,2,rfl,rfl,(show (0:Int) < 2 by decide),rfl,_,rfl,jQ (fun d2=>?_) (fun d2=>?_)⟩
  .obtain⟨y,hy,ey⟩:=Cw (c / 10)
   refine⟨_,rfl,_,rfl,fa,_,_,_,rfl,rfl,SqL.of N.hf,rfl,_,rfl,_,rfl,c,10,rfl,rfl,⟨by decide,by decide⟩,_,rfl,na,_,rfl,.inl (SqL.of N.hn),_,_,rfl,rfl,cm,na,_,_,_,rfl,rfl,SqL.of N.hn,ey,sm rfl,fun t1 bS=>?_⟩;have s1:=je bS (.tup [V.str y]);have e1:upd H t1 (.tup [V.str y]) t1=some (.tup [V.str y]):=jd;generalize upd H t1 (.tup [V.str y])=H1 at *;refine⟨_,rfl,_,rfl,c,40,rfl,rfl,⟨by decide,by decide⟩,ra,c / 40,r0,r1,rfl,s1 _ _ uP,fun t2 rs H2 Cc s2 e2=>⟨sm rfl,fun t ht=>?_⟩⟩;obtain⟨g1,g2⟩:=GD rs Cc;have s3:=je ht (.tup [V.str "call",.str x,.str X.f0,.ref t1,.ref t2]);exact q _ (.call x X.f0 [y] rs) _ ⟨hx,(fun a ha=>by rw[aN.mp ha];exact hy),.inl ⟨rfl,rfl⟩,g1,g2⟩ (s1.trans (s2.trans s3)) (jo jd (jb jl (jb jl (jb jl (jb (jo (s3 _ _ (s2 _ _ e1)) (jb jl jj)) (jb (jo (s3 _ _ e2) (qC rs)) jj))))))
  .refine⟨_,rfl,c,5,rfl,rfl,iO,rfl,_,rfl,jQ (fun _=>?_) (fun d3=>absurd d d3)⟩
   obtain⟨y,hy,ey⟩:=Cw (c / 10);obtain⟨z,hz,ez⟩:=Cw (c / 40);refine⟨_,rfl,_,rfl,c,10,rfl,rfl,⟨by decide,by decide⟩,_,rfl,na,_,rfl,.inl (SqL.of N.hn),_,_,rfl,rfl,cm,na,_,_,_,rfl,rfl,SqL.of N.hn,ey,_,rfl,_,rfl,c,40,rfl,rfl,⟨by decide,by decide⟩,_,rfl,na,_,rfl,.inl (SqL.of N.hn),_,_,rfl,rfl,cm,na,_,_,_,rfl,rfl,SqL.of N.hn,ez,sm rfl,fun t1 bS=>?_⟩;have s1:=je bS (.tup [V.str y,.str z]);have e1:upd H t1 (.tup [V.str y,.str z]) t1=some (.tup [V.str y,.str z]):=jd;generalize upd H t1 (.tup [V.str y,.str z])=H1 at *;refine gQ ?_;refine⟨_,rfl,_,rfl,fa,_,_,_,rfl,rfl,SqL.of (s1 _ _ N.hf),rfl,_,rfl,?_⟩;refine⟨_,rfl,_,rfl,c,160,rfl,rfl,⟨by decide,by decide⟩,ra,c / 160,r0,r1,rfl,s1 _ _ uP,fun t2 rs H2 Cc s2 e2=>⟨sm rfl,fun t ht=>?_⟩⟩;obtain⟨g1,g2⟩:=GD rs Cc;have s3:=je ht (.tup [V.str "call",.str x,.str X.f1,.ref t1,.ref t2]);exact q _ (.call x X.f1 [y,z] rs) _ ⟨hx,(fun a ha=>by
    rcases aM.mp ha with rfl | ha
    .exact hy
    .rw[aN.mp ha];exact hz),.inr ⟨rfl,rfl⟩,g1,g2⟩ (s1.trans (s2.trans s3)) (jo jd (jb jl (jb jl (jb jl (jb (jo (s3 _ _ (s2 _ _ e1)) (jb jl (jb jl jj))) (jb (jo (s3 _ _ e2) (qC rs)) jj))))))
 refine⟨_,rfl,c,5,rfl,rfl,iO,rfl,_,rfl,jQ (fun d3=>absurd d3 d) (fun _=>?_)⟩;refine⟨_,rfl,c,5,rfl,rfl,⟨by decide,by decide⟩,_,rfl,_,rfl,c / 5,na,ra,X.nums,X.rs,rfl,N.hn,N.hr,ln.2,fun u C H1 hC s1 hu=>⟨sm rfl,fun t ht=>?_⟩⟩;exact q _ (.claim C) _ hC (s1.trans (je ht _)) (jo jd (jb jl (jb (hu.mono (je ht _)) jj)))
end
abbrev Ja:aJ:=top 46
theorem jcl{X:Cx}{pos:Pos}:QS X (.Break pos) jf4:=⟨fun _ _ σ H _ I h=>wpAny_Break ⟨σ,H,I,h⟩⟩
structure NeC(ca fa na fr ra:aa):Prop where
 f:fa≠ca
 n:na≠ca
 r:fr≠ca
 w:ra≠ca
theorem NmH.keep{H':Hp}{ca fr:aa}(N:NmH X H fa na fr ra)(k:KB ca H H')(e:NeC ca fa na fr ra):NmH X H' fa na fr ra:=⟨k _ _ e.f N.hf,k _ _ e.n N.hn,k _ _ e.r N.hfr,k _ _ e.w N.hr,N.ln,N.lf,N.lr,N.sub⟩
inductive spBodyG(n:Nat)(vs:List V)(H:Hp)(Q:VK)(E:XK):Prop
 | mk (ca fa na fr ra:aa) (X:Nm) (cs:List Int) (_:vs=[.ref ca,.ref fa,.ref na,.ref fr,.ref ra,.int (3 - n)]) (_:NmH X H fa na fr ra) (_:NeC ca fa na fr ra) (_:H ca=some (.lst (cs.map V.int))) (_:cs.length<=100) (_:∀(t:aa) (us:List V) (bd:List (StN (n+1))) (b_:List Int) (H':Hp),KB ca H H'->H' ca=some (.lst (b_.map V.int))->H' t=some (.tup us)->HeldL H' (bd.map (stD (n+1))) us->(∀s∈bd,inN X (n+1) s)->bd.length<=5->qx (n+1) bd+b_.length<=cs.length->(cs≠[]->b_.length < cs.length)->Q (.ref t) H')
def Jo:Nat->Sp
 | 0=>fun vs _ _ _=>vs.length=6/\False
 | n+1=>spBodyG n
theorem jda{n:Nat}(l:List (StN n))(s:StN n):qx n (l++[s])=qx n l+qH n s:=by unfold qx;rw[aW,p5];simp
theorem Kg{n:Nat}(l:List (StN (n+1))):l.length<=qx (n+1) l:=by rw[<- yO];exact jaQ l
theorem jfv{cs:List Int}(h:0 < cs.length):∃c,(cs.map V.int)[(cs.map V.int).length - 1]?=some (.int c)/\(cs.map V.int).dropLast=cs.dropLast.map V.int:=by
 refine⟨cs[cs.length - 1]'(by omega+splitNatSub),?_,by rw[List.map_dropLast]⟩;rw[ax,bF,aI (by omega)];rfl
abbrev bSt(ca fa na fr ra bl:aa)(n:Nat)(u7 u8 u9 gH gG:Option V):St:=[some (.ref ca),some (.ref fa),some (.ref na),some (.ref fr),some (.ref ra),some (.int (3 - n)),some (.ref bl),u7,u8,u9,gH,gG]
def ZV(n:Nat)(H:Hp)(ca fa na fr ra bl:aa)(X:Nm)(cs:List Int)(m:Nat)(σ:St)(G:Hp):Prop:=∃u7 u8 u9 gH gG us bd b_,m=b_.length/\σ=bSt ca fa na fr ra bl n u7 u8 u9 gH gG/\KB ca H G/\G ca=some (.lst (b_.map V.int))/\G bl=some (.lst us)/\HeldL G (bd.map (stD (n+1))) us/\(∀s∈bd,inN X (n+1) s)/\bd.length<=5/\qx (n+1) bd+b_.length<=cs.length/\(bd=[]->b_=cs)
theorem zr{n:Nat}{G:Hp}{ca fr bl:aa}{cs Ah:List Int}{us:List V}{bd:List (StN (n+1))}{v:V}{S:StN (n+1)}(cK:H bl=none)(gK:bl≠ca)(k:KB ca H G)(hc:G ca=some (.lst (Ah.map V.int)))(hb:G bl=some (.lst us))(dL:HeldL G (bd.map (stD (n+1))) us)(hv:Held G (stD (n+1) S) v)(cI:∀s∈bd,inN X (n+1) s)(hS:inN X (n+1) S)(h5:bd.length < 5)(rX:qx (n+1) bd+qH (n+1) S+Ah.length<=cs.length)(u7 u8 u9 gH gG:Option V):ZV n H ca fa na fr ra bl X cs Ah.length (bSt ca fa na fr ra bl n u7 u8 u9 gH gG) (upd G bl (.lst (us++[v]))):=by
 have tk:TK G (upd G bl (.lst (us++[v]))):=TK.upd hb (fun _ z=>by cases z);refine⟨u7,u8,u9,gH,gG,us++[v],bd++[S],Ah,rfl,rfl,fun b o bQ e=>?_,?_,jd,?_,fun s hs=>?_,?_,?_,fun z=>by simp at z⟩
 .rw[jw (jr e cK)];exact k b o bQ e
 .rw[jw (bB gK)];exact hc
 .rw[aW];exact jL (tk.heldL dL) (jV (tk.held hv))
 .rcases aT.mp hs with hs | hs
  .exact cI s hs
  .rw[aN.mp hs];exact hS
 .rw[aG];show bd.length+1<=5;omega
 .rw[jda];omega
section
variable {P:aF}
theorem jcO(F:Fun K "_law_body" "_law_body" Ja f fd):FnOk P w K mg base CX0 6 f fd ["_law_cells","_law_f","_law_nums","_law_free","_law_rows","_law_deep"] (Jo 0):=by
 have sc:FnScope ["_law_cells","_law_f","_law_nums","_law_free","_law_rows","_law_deep","_law_body_here","_law_cell_here","_law_one","_law_least","_law_first","_law_keeps"] ["_law_cells","_law_f","_law_nums","_law_free","_law_rows","_law_deep"] (jp Ja):=fQ;refine F.okZ sc (fun aH A outer s H vs Q E hr h=>h.2.elim) (fun vs H Q E h=>h.2.elim)
theorem jen{n:Nat}(F:Fun K "_law_body" "_law_body" Ja f fd)(B:Free0 mg)(eC:Fn P w K mg base 1 "_law_far" ["_law_cell_here"] Yy)(gy:Fn P w K mg base 3 "_law_term" ["_law_cell_here","_law_nums","_law_rows"] spTermL)(dU:Fn P w K mg base 4 "_law_claim" ["_law_cell_here","_law_nums","_law_rows"] spClaimL)(sy:Fn P w K mg base 5 "_law_plain" ["_law_cell_here","_law_f","_law_nums","_law_free","_law_rows"] spPlain)(pN:Fn P w K mg base (n+6) "_law_body" ["_law_cells","_law_f","_law_nums","_law_free","_law_rows","_law_deep"] (Jo n)):FnOk P w K mg base CX0 (n+6+1) f fd ["_law_cells","_law_f","_law_nums","_law_free","_law_rows","_law_deep"] (Jo (n+1)):=by
 have sc:FnScope ["_law_cells","_law_f","_law_nums","_law_free","_law_rows","_law_deep","_law_body_here","_law_cell_here","_law_one","_law_least","_law_first","_law_keeps"] ["_law_cells","_law_f","_law_nums","_law_free","_law_rows","_law_deep"] (jp Ja):=fQ;refine F.okZ sc (fun aH A outer s H vs Q E hr h=>?_);obtain⟨ca,fa,na,fr,ra,X,cs,rfl,N,ne,cJ,HJ,q⟩:=h;refine⟨_,(jg (ju (i:=6) sc.nd rfl oQ (jF jc))
   (jg (JH dF (zU (jx Jt (kb jI (by rfl) B.len_ kz (ja (zpv 0) jc)) jf (jB _)) (zt (jx jaj (kb jI (by rfl) B.len_ kz (ja (zpv 6) jc)) jf (jB _)))).pt (jg (ju (i:=7) sc.nd rfl oQ (jbG eD PySem.F.slot_list_pop PySem.F.type_list_pop jgn (zpv 0)))
   (jh (jJ (zU (jx jaj (jn jZ (zpv 7) jf) jf (jB _)) (zt (jx jaj (zpv 5) jf (jB _)))).pt (jg (ju (i:=8) sc.nd rfl oQ (js (ja jm (ja (jk jS (zpv 2) (jn jZ (jn jM (zpv 7) jf) (kb jI (by rfl) B.len_ kz (ja (zpv 2) jc))) (fun _ _=>rfl)) jc))))
   (jg (ju (i:=9) sc.nd rfl oQ (js (ja jm (ja (zpv 8) (ja (jO gy hr (ja (jn jM (zpv 7) jf) (ja (zpv 2) (ja (zpv 4) jc)))) (ja (jO eC hr (ja (jn jM (zpv 7) jf) jc)) jc))))))
   (jh (jJ (jx j4 (jn jZ (zpv 7) jf) jf (jB _)) (jg (ju (i:=10) sc.nd rfl oQ (jO pN hr (ja (zpv 0) (ja (zpv 1) (ja (zpv 2) (ja (zpv 3) (ja (zpv 4) (ja (jn qp (zpv 5) jf) jc))))))))
   (jh (jW (qu eD l_ l8 kK (zpv 6) (ja (js (ja jm (ja (zpv 9) (ja (zpv 10) (ja (jO pN hr (ja (zpv 0) (ja (zpv 1) (ja (zpv 2) (ja (zpv 3) (ja (zpv 4) (ja (jn qp (zpv 5) jf) jc))))))) jc))))) jc))))) (jg (zD (i:=11) sc.nd rfl oQ ["_law_k"] [2,4,7] rfl (ku (sc:=jp Ja) (N:=["_law_cells","_law_f","_law_nums","_law_free","_law_rows","_law_deep","_law_body_here","_law_cell_here","_law_one","_law_least","_law_first","_law_keeps"]) rfl rfl (by decide +kernel)) (yV (by rfl) B.range_ (ja (jn jZ (jn jM (zpv 7) jf) jf) jc)) (fun s H ex=>⟨(jt (i:=0) (show dk (["_law_k","_law_nums","_law_rows","_law_cell_here"]:List Str) by decide +kernel) rfl oQ),kD,(jO dU hr (ja (jn jM (zpv 3) (jn qp jf (jn yw jf (zpv 0)))) (ja (zpv 1) (ja (zpv 2) jc))))⟩))
   (jh (jW (qu eD l_ l8 kK (zpv 6) (ja (js (ja jm (ja (zpv 9) (ja (qI kR (by rfl) B.tuple_ zd (ja (zpv 11) jc)) (ja (jO pN hr (ja (zpv 0) (ja (zpv 1) (ja (zpv 2) (ja (zpv 3) (ja (zpv 4) (ja (jn qp (zpv 5) jf) jc))))))) jc))))) jc))))))))) (jh (jJ (zU (jx j4 (jn jZ (zpv 7) jf) jf (jB _)) (zt (jx Jt (kb jI (by rfl) B.len_ kz (ja (zpv 6) jc)) jf (jB _)))).pt (jh jcl) (jh (jW (qu eD l_ l8 kK (zpv 6) (ja (jO sy hr (ja (jn jM (zpv 7) jf) (ja (zpv 1) (ja (zpv 2) (ja (zpv 3) (ja (zpv 4) jc)))))) jc))))))))))
   (jh (jv (qI kR (by rfl) B.tuple_ zd (ja (zpv 6) jc)))))),?_⟩
 refine jP (σ':=[some (.ref ca),some (.ref fa),some (.ref na),some (.ref fr),some (.ref ra),some (.int (3 - n)),none,none,none,none,none,none]) rfl ?_
 try dsimp only[j7]
 refine J5 ?_;intro _ _;refine⟨sm rfl,fun bl cK=>?_⟩;have s1:=je cK (.lst []);have e1:upd H bl (.lst []) bl=some (.lst []):=jd;generalize upd H bl (.lst [])=H1 at *;refine gQ ?_;have gK:bl≠ca:=fun z=>by rw[z,cJ]at cK;cases cK
 refine⟨ZV n H ca fa na fr ra bl X cs,⟨cs.length,none,none,none,none,none,[],[],cs,rfl,rfl,fun b o _ e=>s1 _ _ e,s1 _ _ cJ,e1,jj,(fun _ z=>by cases z),cy _,by show 0+_<=_;omega,fun _=>rfl⟩,?_⟩;rintro m σ G ⟨u7,u8,u9,gH,gG,us,bd,b_,rfl,rfl,kG,gp,mR,dL,cI,xZ,rX,hemp⟩;have nq:=dL.length;rw[ax]at nq;refine⟨_,rfl,ca,_,rfl,.inl (SqL.of gp),_,_,rfl,rfl,_,rfl,jQ (fun d=>?_) (fun d=>?_)⟩
 .have d0:0 < b_.length:=by
   have:=WP d;rw[ax]at this;omega
  refine⟨_,rfl,bl,_,rfl,.inl (SqL.of mR),_,_,rfl,rfl,_,rfl,jQ (fun d=>?_) (fun d=>?_)⟩
  .have d5:bd.length < 5:=by
    have:=WP d;omega
   refine⟨fun σ' G'=>∃m',m' < b_.length/\ZV n H ca fa na fr ra bl X cs m' σ' G',fun _ _ h=>h,?_⟩;obtain⟨c,hc,IH⟩:=jfv d0;refine⟨_,rfl,.inl ⟨rfl,_,SqL.of gp⟩,ca,_,.int c,rfl,rfl,gp,hc,?_⟩;rw[IH];have k2:KB ca G (upd G ca (.lst (b_.dropLast.map V.int))):=fun b o hb e=>by rw[jw hb];exact e
   have e2:upd G ca (.lst (b_.dropLast.map V.int)) ca=some (.lst (b_.dropLast.map V.int)):=jd;have ik:=jR k2 gp;have dA:=k2 _ _ gK mR;have ix:=ik.heldL dL;have my:KB ca H (upd G ca (.lst (b_.dropLast.map V.int))):=fun b o hb e=>k2 b o hb (kG b o hb e)
   generalize upd G ca (.lst (b_.dropLast.map V.int))=G2 at *;have ldl:b_.dropLast.length=b_.length - 1:=Ww;generalize b_.dropLast=gZ at *;have N2:=N.keep my ne;clear kG mR dL gp ik k2 hc IH;refine gQ ?_;have iO:(0:Int) < 5:=by decide
   have ln:=N2.ln;have cm:(0:Int) < ((X.nums.map V.str).length:Int):=by rw[ax];omega
   refine⟨_,rfl,c,5,rfl,rfl,iO,_,_,rfl,rfl,_,rfl,jQ (fun d2=>?_) (fun d2=>?_)⟩
   .refine⟨_,rfl,_,_,rfl,rfl,_,rfl,jQ (fun d3=>?_) (fun d3=>?_)⟩
    .obtain⟨m,rfl⟩:∃m,n=m+1:=by
      have:=WP d3;exact⟨n - 1,by omega⟩
     obtain⟨y,hy,ey⟩:=JW (xs:=X.nums) (c:=c / 5) ln.1;refine⟨_,rfl,_,rfl,c,5,rfl,rfl,⟨by decide,by decide⟩,_,rfl,na,_,rfl,.inl (SqL.of N2.hn),_,_,rfl,rfl,cm,na,_,_,_,rfl,rfl,SqL.of N2.hn,ey,sm rfl,fun t1 bS=>?_⟩;have s3:=je bS (.tup [V.str "is",.str y]);have e3:upd G2 t1 (.tup [V.str "is",.str y]) t1=some (.tup [V.str "is",.str y]):=jd;generalize upd G2 t1 (.tup [V.str "is",.str y])=G3 at *;have N3:=N2.mono s3;refine gQ ?_;refine⟨_,rfl,_,rfl,c,7,rfl,rfl,⟨by decide,by decide⟩,_,rfl,_,rfl,c / 7,na,ra,X.nums,X.rs,rfl,N3.hn,N3.hr,ln.2,fun u t G4 cU s4 hu=>?_⟩;refine⟨_,rfl,c,11,rfl,rfl,⟨by decide,by decide⟩,c / 11,rfl,fun dd=>⟨sm rfl,fun t5 iA=>?_⟩⟩;have s5:=je iA (.tup [V.str "least",.ref t1,u,.int dd]);have e5:upd G4 t5 (.tup [V.str "least",.ref t1,u,.int dd]) t5=some (.tup [V.str "least",.ref t1,u,.int dd]):=jd;generalize upd G4 t5 (.tup [V.str "least",.ref t1,u,.int dd])=G5 at *;have nK:Held G5 (Cl.least (.is y) t dd).toD (.ref t5):=jo e5 (jb jl (jb (jo ((s4.trans s5) _ _ e3) (jb jl (jb jl jj))) (jb (hu.mono s5) (jb jX jj))));have Ij:(Cl.least (.is y) t dd).In X.nums X.rs:=⟨.inl hy,cU⟩
     have gJ:=s3.trans (s4.trans s5);have BO:KB ca H G5:=fun b o hb e=>gJ _ _ (my b o hb e)
     have vA:=gJ _ _ e2;have Dj:=gJ _ _ dA;have Gu:=ix.mono gJ;have N5:=N2.mono gJ;clear N3 e3 e5 bS iA s3 s4 s5 hu gJ N2 ix dA e2 my;have C6:∀k:Nat,(3 - ((k+1:Nat):Int)+1)=3 - (k:Int):=fun k=>by omega
     refine gQ ?_;refine⟨_,rfl,c,5,rfl,rfl,iO,rfl,_,rfl,jQ (fun d4=>?_) (fun d4=>?_)⟩
     .refine⟨_,rfl,_,rfl,_,rfl,_,rfl,_,rfl,_,rfl,_,_,rfl,rfl,ca,fa,na,fr,ra,X,gZ,WW (fun z=>[V.ref ca,.ref fa,.ref na,.ref fr,.ref ra,.int z]) (C6 m),N5,ne,vA,by omega,fun t6 us6 DH Sx G6 k6 HP e6 Ps Q5 gj hcnt6 _=>?_⟩
      have Gj:KB ca H G6:=fun b o hb e=>k6 b o hb (BO b o hb e)
      have Fk:=jR k6 vA;have Ae:=k6 _ _ gK Dj;refine gQ ?_;refine⟨_,rfl,.inl ⟨rfl,_,SqL.of Ae⟩,_,rfl,_,rfl,_,rfl,_,rfl,_,rfl,_,rfl,_,rfl,_,rfl,_,_,rfl,rfl,ca,fa,na,fr,ra,X,Sx,WW (fun z=>[V.ref ca,.ref fa,.ref na,.ref fr,.ref ra,.int z]) (C6 m),N5.keep k6 ne,ne,HP,by omega,fun t7 us7 DG Sw G7 k7 Rt e7 Pr Q4 vc hcnt7 _=>⟨sm rfl,fun t8 iz=>?_⟩⟩;have OX:KB ca H G7:=fun b o hb e=>k7 b o hb (Gj b o hb e)
      have nh:=jR k7 HP;have Ir:=k7 _ _ gK Ae;have s8:=je iz (.tup [V.str "if",.ref t5,.ref t6,.ref t7]);have e8:upd G7 t8 (.tup [V.str "if",.ref t5,.ref t6,.ref t7]) t8=some (.tup [V.str "if",.ref t5,.ref t6,.ref t7]):=jd;generalize upd G7 t8 (.tup [V.str "if",.ref t5,.ref t6,.ref t7])=G8 at *;refine⟨bl,_,_,rfl,rfl,s8 _ _ Ir,jz (by omega),Sw.length,by omega,?_⟩;have hx:Held G8 (.tup (DH.map (stD (m+1)))) (.ref t6):=jo ((nh.trans (fun b ys e=>s8 _ _ e)) _ _ e6) ((nh.heldL Ps).mono s8);have ck:Held G8 (.tup (DG.map (stD (m+1)))) (.ref t7):=jo (s8 _ _ e7) (Pr.mono s8);have QD:=(nh.held (Fk.held nK)).mono s8;exact zr (S:=Fo.ite (.is y) t dd DH DG) cK gK (fun b o hb e=>s8 _ _ (OX b o hb e)) (s8 _ _ Rt) (s8 _ _ Ir) ((nh.heldL (Fk.heldL Gu)).mono s8) (jo e8 (jb jl (jb QD (jb hx (jb ck jj))))) cI ⟨Ij,gj,vc,Q5,Q4⟩ d5 (by show qx _ bd+(1+qx (m+1) DH+qx (m+1) DG)+_<=_;omega) _ _ _ _ _
     .obtain⟨k4,Hr⟩:∃k4,k4=c / 5 % 4:=⟨_,rfl⟩
      have k40:0<=k4:=by rw[Hr];exact fu _ (by decide)
      have k41:k4<=3:=by
       have:=gE (c / 5) (b:=4) (by decide);omega
      refine⟨_,rfl,c,5,rfl,rfl,⟨by decide,by decide⟩,c / 5,4,rfl,rfl,(show (0:Int) < 4 by decide),k4,by rw[Hr],by omega,by omega,fun pl cC=>?_⟩;refine K7 (n:=k4.toNat) (fun i σ' G=>∃(u:Option V) (us:List V) (Cs:List Cl),σ'=[u,some (.ref na),some (.ref ra),some (.int c)]/\Same G5 G/\G pl=some (.lst us)/\HeldL G (Cs.map Cl.toD) us/\Cs.length=i/\∀C∈Cs,C.In X.nums X.rs) ⟨none,[],[],rfl,je cC _,jd,jj,rfl,fun _ z=>by cases z⟩ ?_ ?_
      .rintro i σ' G hi ⟨u,us,Cs,rfl,sG,hG,hC,lC,iC⟩
       have nq:=hC.length;rw[ax]at nq;unfold qh yP;refine qB ?_;refine⟨_,rfl,_,rfl,_,_,rfl,rfl,.inl ⟨by decide,by decide⟩,_,_,rfl,rfl,_,_,rfl,rfl,⟨by omega,Int.lt_of_lt_of_le (show 9+4 * (0+(i:Int)) < 100 by omega) (by decide)⟩,_,rfl,_,rfl,_,na,ra,X.nums,X.rs,rfl,sG _ _ N5.hn,sG _ _ N5.hr,ln.2,fun u C G' R0 s' hu=>?_⟩;have dN:=s' _ _ hG;have tk:TK G' (upd G' pl (.lst (us++[u]))):=TK.upd dN (fun _ z=>by cases z);refine⟨_,dN,jz (by omega),_,us++[u],Cs++[C],rfl,fun z o e=>?_,jd,?_,by rw[aG,lC];rfl,fun C' pI=>?_⟩
       .rw[jw (jr e cC)];exact s' _ _ (sG _ _ e)
       .rw[aW];exact jL (tk.heldL (hC.mono s')) (jV (tk.held hu))
       .rcases aT.mp pI with h | h
        .exact iC C' h
        .rw[aN.mp h];exact R0
      rintro σ' G6 ⟨u,xn,Cs,rfl,s6,vB,R3,lC,iC⟩;have npl:pl≠ca:=fun z=>by rw[z,vA]at cC;cases cC
      have Gj:KB ca H G6:=fun b o hb e=>s6 _ _ (BO b o hb e)
      have Ae:=s6 _ _ Dj;refine gQ ?_;refine⟨_,rfl,.inl ⟨rfl,_,SqL.of Ae⟩,_,rfl,_,rfl,pl,_,rfl,.inl ⟨SqL.of vB,fun tk xC=>?_⟩⟩;have s7:=je xC (.tup xn);have e7:upd G6 tk (.tup xn) tk=some (.tup xn):=jd;generalize upd G6 tk (.tup xn)=G7 at *;have oO:=s6.trans s7;refine⟨_,rfl,_,rfl,_,rfl,_,rfl,_,rfl,_,rfl,_,_,rfl,rfl,ca,fa,na,fr,ra,X,gZ,WW (fun z=>[V.ref ca,.ref fa,.ref na,.ref fr,.ref ra,.int z]) (C6 m),N5.mono oO,ne,oO _ _ vA,by omega,fun t8 us8 DF Sv G8 k8 Rr e8 Pq Q3 QK hcnt8 _=>⟨sm rfl,fun t9 uJ=>?_⟩⟩;have wP:=jR k8 (oO _ _ vA);have Iq:=k8 _ _ gK (oO _ _ Dj);have s9:=je uJ (.tup [V.str "while",.ref t5,.ref tk,.ref t8]);have e9:upd G8 t9 (.tup [V.str "while",.ref t5,.ref tk,.ref t8]) t9=some (.tup [V.str "while",.ref t5,.ref tk,.ref t8]):=jd;generalize upd G8 t9 (.tup [V.str "while",.ref t5,.ref tk,.ref t8])=G9 at *;refine⟨bl,_,_,rfl,rfl,s9 _ _ Iq,jz (by omega),Sv.length,by omega,?_⟩;have QQ:Held G9 (.tup (Cs.map Cl.toD)) (.ref tk):=jo (s9 _ _ (wP _ _ e7)) ((wP.heldL (R3.mono s7)).mono s9);have hx:Held G9 (.tup (DF.map (stD (m+1)))) (.ref t8):=jo (s9 _ _ e8) (Pq.mono s9);have QC:=(wP.held (nK.mono oO)).mono s9;exact zr (S:=Fo.whl (.is y) t dd Cs DF) cK gK (fun b o hb e=>s9 _ _ (k8 b o hb (oO _ _ (BO b o hb e)))) (s9 _ _ Rr) (s9 _ _ Iq) ((wP.heldL (Gu.mono oO)).mono s9) (jo e9 (jb jl (jb QC (jb QQ (jb hx jj))))) cI ⟨Ij,by omega,iC,QK,Q3⟩ d5 (by show qx _ bd+(1+qx (m+1) DF)+_<=_;omega) _ _ _ _ _
    .refine⟨_,rfl,c,5,rfl,rfl,iO,rfl,_,rfl,jQ (fun d4=>?_) (fun d4=>?_)⟩
     .refine⟨_,rfl,bl,_,rfl,.inl (SqL.of dA),_,_,rfl,rfl,_,rfl,jQ (fun d6=>?_) (fun d6=>?_)⟩
      .refine⟨_,rfl,bl,_,rfl,.inl ⟨SqL.of dA,fun t ht=>?_⟩⟩
       exact q t us bd gZ _ (fun b o hb e=>(je ht _) _ _ (my b o hb e)) ((je ht _) _ _ e2) jd (ix.mono (je ht _)) cI xZ (by omega) fun _=>by omega
      .refine⟨_,rfl,.inl ⟨rfl,_,SqL.of dA⟩,_,rfl,c,5,rfl,rfl,⟨by decide,by decide⟩,_,rfl,_,rfl,_,rfl,_,rfl,c / 5,fa,na,fr,ra,X,rfl,N2,fun u S G3 hS s3 hu=>⟨bl,_,_,rfl,rfl,s3 _ _ dA,jz (by omega),gZ.length,by omega,?_⟩⟩
       exact zr (S:=Fo.leaf S) cK gK (fun b o hb e=>s3 _ _ (my b o hb e)) (s3 _ _ e2) (s3 _ _ dA) (ix.mono s3) hu cI hS d5 (by show _+1+_<=_;omega) _ _ _ _ _
     .refine⟨_,rfl,.inl ⟨rfl,_,SqL.of dA⟩,_,rfl,c,5,rfl,rfl,⟨by decide,by decide⟩,_,rfl,_,rfl,_,rfl,_,rfl,c / 5,fa,na,fr,ra,X,rfl,N2,fun u S G3 hS s3 hu=>⟨bl,_,_,rfl,rfl,s3 _ _ dA,jz (by omega),gZ.length,by omega,?_⟩⟩
      exact zr (S:=Fo.leaf S) cK gK (fun b o hb e=>s3 _ _ (my b o hb e)) (s3 _ _ e2) (s3 _ _ dA) (ix.mono s3) hu cI hS d5 (by show _+1+_<=_;omega) _ _ _ _ _
   .refine⟨_,rfl,c,5,rfl,rfl,iO,rfl,_,rfl,jQ (fun d4=>?_) (fun d4=>?_)⟩
    .refine⟨_,rfl,bl,_,rfl,.inl (SqL.of dA),_,_,rfl,rfl,_,rfl,jQ (fun d6=>?_) (fun d6=>?_)⟩
     .refine⟨_,rfl,bl,_,rfl,.inl ⟨SqL.of dA,fun t ht=>?_⟩⟩
      exact q t us bd gZ _ (fun b o hb e=>(je ht _) _ _ (my b o hb e)) ((je ht _) _ _ e2) jd (ix.mono (je ht _)) cI xZ (by omega) fun _=>by omega
     .refine⟨_,rfl,.inl ⟨rfl,_,SqL.of dA⟩,_,rfl,c,5,rfl,rfl,⟨by decide,by decide⟩,_,rfl,_,rfl,_,rfl,_,rfl,c / 5,fa,na,fr,ra,X,rfl,N2,fun u S G3 hS s3 hu=>⟨bl,_,_,rfl,rfl,s3 _ _ dA,jz (by omega),gZ.length,by omega,?_⟩⟩
      exact zr (S:=Fo.leaf S) cK gK (fun b o hb e=>s3 _ _ (my b o hb e)) (s3 _ _ e2) (s3 _ _ dA) (ix.mono s3) hu cI hS d5 (by show _+1+_<=_;omega) _ _ _ _ _
    .refine⟨_,rfl,.inl ⟨rfl,_,SqL.of dA⟩,_,rfl,c,5,rfl,rfl,⟨by decide,by decide⟩,_,rfl,_,rfl,_,rfl,_,rfl,c / 5,fa,na,fr,ra,X,rfl,N2,fun u S G3 hS s3 hu=>⟨bl,_,_,rfl,rfl,s3 _ _ dA,jz (by omega),gZ.length,by omega,?_⟩⟩
     exact zr (S:=Fo.leaf S) cK gK (fun b o hb e=>s3 _ _ (my b o hb e)) (s3 _ _ e2) (s3 _ _ dA) (ix.mono s3) hu cI hS d5 (by show _+1+_<=_;omega) _ _ _ _ _
  .have hge:5<=bd.length:=by
    have:¬((us.length:Int) < 5):=fun z=>d (WQ z)
    omega
   refine⟨_,rfl,bl,_,rfl,.inl ⟨SqL.of mR,fun t ht=>?_⟩⟩;have:=Kg bd;exact q t us bd b_ _ (fun b o hb e=>(je ht _) _ _ (kG b o hb e)) ((je ht _) _ _ gp) jd (dL.mono (je ht _)) cI xZ rX fun _=>by omega
 .have h0:b_=[]:=by
   have:¬((0:Int) < ((b_.map V.int).length:Int)):=fun z=>d (WQ z)
   rw[ax]at this;exact WD (by omega)
  subst h0;refine⟨_,rfl,bl,_,rfl,.inl ⟨SqL.of mR,fun t ht=>?_⟩⟩;exact q t us bd [] _ (fun b o hb e=>(je ht _) _ _ (kG b o hb e)) ((je ht _) _ _ gp) jd (dL.mono (je ht _)) cI xZ rX fun h=>List.length_pos_iff.mpr h
end
abbrev Zg:aJ:=top 57
abbrev ja7:aJ:=top 56
def kH(g:Str)(ps rs:List Str)(n g1 g2:Cl):Pc:={ f:=g,ps:=ps,rs:=rs,nd:=[n],gv:=[g1,g2],lv:=4,bd:=[] }
inductive spOther(K:aC)(vs:List V)(H:Hp)(Q:VK)(E:XK):Prop
 | mk (a b:aa) (ns:List Int) (g p1 p2 r1 r2:Str) (_:vs=[.ref a,.ref b]) (_:(∀H',Same H H'->SqL K H' a (ns.map V.int))/\H b=some (.lst [.str g,.str p1,.str p2,.str r1,.str r2])/\∀(u:V) (n g1 g2:Cl) (H':Hp),n.In [p1,p2] [r1,r2]->g1.In [p1,p2,"out"] [r1,r2]->g2.In [p1,p2] [r1,r2]->Same H H'->Held H' (kH g [p1,p2] [r1,r2] n g1 g2).toD u->Q u H')
inductive spAsked(CT:aa)(n:Nat)(vs:List V)(H:Hp)(Q:VK)(E:XK):Prop
 | mk (v:V) (_:vs=[v]) (_:spDuties CT n [v] H Q (fun cls _ H'=>cls=.ref CT/\∀e,H' e=none->Q (.bl true) (upd H' e (JZ (.ref CT) e))))
theorem jgh{X:Cx}:OpR X (hX .Is) (fun x y H Q=>∃i j,x=.bl i/\y=.bl j/\Q (.bl (i == j)) H):=by
 intro ah s σ H x y v u Q I rx ry h;obtain⟨i,j,rfl,rfl,q⟩:=h
 cases rx;cases ry
 refine wpAny_is_plain rfl ?_;have e:(Value.bool i == Value.bool j)=(i == j):=by cases i <;> cases j <;> rfl
 rw[e];exact⟨.bl (i == j),H,I,rfl,q⟩
theorem yU{X:Cx}(hK:X.K=K:=by rfl):zg X (.builtin "isinstance") (fun xs H Q=>∃a C D b,xs=[.ref a,.ref D]/\H a=some (JZ (.ref C) a)/\PySem.W.XCls K C/\iU K (.ref C) (.ref D)=some b/\Q (.bl b) H):=by
 subst hK;exact ZP
variable {CT:aa}
theorem Yg{n:Nat}{vs:List V}{Q Q':VK}{E E':XK}(hQ:∀v H',Q v H'->Q' v H')(hE:∀H',E (.ref CT) none H'->E' (.ref CT) none H')(h:spDuties CT n vs H Q E):spDuties CT n vs H Q' E':=by
 obtain⟨a,us,prog,pr,bD,rfl,ha,lD,Ho,Ct,hok,Cy,q1,q2⟩:=h;exact⟨a,us,prog,pr,bD,rfl,ha,lD,Ho,Ct,hok,Cy,fun ml ms aD ds H' e1 e2 e3 e4 e5 e6 e7 e8=>hQ _ _ (q1 ml ms aD ds H' e1 e2 e3 e4 e5 e6 e7 e8),fun e H' s=>hE _ (q2 e H' s)⟩
section
variable {P:aF}
theorem jeg(F:Fun K "_law_other" "_law_other" Zg f fd)(B:Free0 mg)(fV:Fn P w K mg base 1 "_law_cell" ["_law_script","_law_k"] (spCell K))(dU:Fn P w K mg base 4 "_law_claim" ["_law_cell_here","_law_nums","_law_rows"] spClaimL):FnOk P w K mg base CX0 5 f fd ["_law_script","_law_words_here"] (spOther K):=by
 have sc:FnScope ["_law_script","_law_words_here","_law_params","_law_rows","_law_need","_law_gives"] ["_law_script","_law_words_here"] (jp Zg):=fQ;refine F.okZ sc (fun aH A outer s H vs Q E hr h=>?_);obtain⟨a,b,ns,g,p1,p2,r1,r2,rfl,hS,hb,q⟩:=h;refine⟨_,(jg (ju (i:=2) sc.nd rfl oQ (j5 Ke (zpv 1) (j0 jf) (j0 jf)))
   (jg (ju (i:=3) sc.nd rfl oQ (j5 Ke (zpv 1) (j0 jf) (j0 jf)))
   (jg (ju (i:=4) sc.nd rfl oQ (jA dU hr (ja (jA fV hr (ja (zpv 0) (ja jf jc))) (ja (zpv 2) (ja (zpv 3) jc)))))
   (jg (ju (i:=5) sc.nd rfl oQ (js (ja (jA dU hr (ja (jA fV hr (ja (zpv 0) (ja jf jc))) (ja (jn kd (zpv 2) (jF (ja jm jc))) (ja (zpv 3) jc)))) (ja (jA dU hr (ja (jA fV hr (ja (zpv 0) (ja jf jc))) (ja (zpv 2) (ja (zpv 3) jc)))) jc))))
   (jh (jv (js (ja jm (ja (jk jS (zpv 1) jf (fun _ _=>rfl)) (ja (qI kR (by rfl) B.tuple_ zd (ja (zpv 2) jc)) (ja (qI kR (by rfl) B.tuple_ zd (ja (zpv 3) jc)) (ja (js (ja (zpv 4) jc)) (ja (zpv 5) (ja (js jc) jc)))))))))))))),?_⟩
 refine jP (σ':=[some (.ref a),some (.ref b),none,none,none,none]) rfl ?_
 try dsimp only[j7]
 refine jay ?_;intro _ _ _ _;refine⟨_,rfl,_,rfl,_,rfl,b,_,rfl,SqL.of hb,fun pl cC=>?_⟩;have s1:=je cC (.lst (kI [.str g,.str p1,.str p2,.str r1,.str r2] (some 1) (some 3)));have e1:upd H pl (.lst (kI [.str g,.str p1,.str p2,.str r1,.str r2] (some 1) (some 3))) pl=some (.lst ([p1,p2].map V.str)):=jd;generalize upd H pl (.lst (kI [.str g,.str p1,.str p2,.str r1,.str r2] (some 1) (some 3)))=H1 at *;refine gQ ?_;refine⟨_,rfl,_,rfl,_,rfl,b,_,rfl,SqL.of (s1 _ _ hb),fun rl Ce=>?_⟩;have s2:=je Ce (.lst (kI [.str g,.str p1,.str p2,.str r1,.str r2] (some 3) (some 5)));have e2:upd H1 rl (.lst (kI [.str g,.str p1,.str p2,.str r1,.str r2] (some 3) (some 5))) rl=some (.lst ([r1,r2].map V.str)):=jd;generalize upd H1 rl (.lst (kI [.str g,.str p1,.str p2,.str r1,.str r2] (some 3) (some 5)))=H2 at *;have aQ:=s1.trans s2;have e1:=s2 _ _ e1;refine gQ ?_;refine⟨_,rfl,a,ns,3,rfl,hS _ aQ,by decide,by decide,fun c3=>?_⟩;refine⟨_,rfl,_,rfl,c3,pl,rl,[p1,p2],[r1,r2],rfl,e1,e2,cf rfl,fun u3 n H3 hn s3 Pz=>?_⟩;have bG:=aQ.trans s3;refine gQ ?_;refine⟨_,rfl,a,ns,4,rfl,hS _ bG,by decide,by decide,fun c4=>?_⟩;refine⟨_,rfl,sm rfl,fun l4 dy=>?_⟩;have s4:=je dy (.lst [V.str "out"]);have e4:upd H3 l4 (.lst [V.str "out"]) l4=some (.lst [V.str "out"]):=jd;generalize upd H3 l4 (.lst [V.str "out"])=H4 at *;refine⟨pl,l4,_,_,rfl,rfl,s4 _ _ (s3 _ _ e1),e4,sm rfl,fun l5 vd=>?_⟩;have s5:=je vd (.lst ([p1,p2].map V.str++[V.str "out"]));have e5:upd H4 l5 (.lst ([p1,p2].map V.str++[V.str "out"])) l5=some (.lst ([p1,p2,("out" : Str)].map V.str)):=jd;generalize upd H4 l5 (.lst ([p1,p2].map V.str++[V.str "out"]))=H5 at *;have gI:=s3.trans (s4.trans s5);refine⟨_,rfl,c4,l5,rl,[p1,p2,"out"],[r1,r2],rfl,e5,gI _ _ e2,cf rfl,fun u6 g1 H6 Rc s6 B6=>?_⟩;have oP:=gI.trans s6;have nj:=aQ.trans oP;refine⟨_,rfl,a,ns,5,rfl,hS _ nj,by decide,by decide,fun c5=>?_⟩;refine⟨_,rfl,_,rfl,c5,pl,rl,[p1,p2],[r1,r2],rfl,oP _ _ e1,oP _ _ e2,cf rfl,fun u7 g2 H7 C2 s7 Py=>⟨sm rfl,fun t8 iz=>?_⟩⟩;have s8:=je iz (.tup [u6,u7]);have e8:upd H7 t8 (.tup [u6,u7]) t8=some (.tup [u6,u7]):=jd;generalize upd H7 t8 (.tup [u6,u7])=H8 at *;have rp:=oP.trans (s7.trans s8);have Rb:Held H8 (.tup ([g1,g2].map Cl.toD)) (.ref t8):=jo e8 (jb (B6.mono (s7.trans s8)) (jb (Py.mono s8) jj));have Qc:=Pz.mono ((s4.trans s5).trans (s6.trans (s7.trans s8)));have FK:=aQ.trans rp;refine gQ ?_;refine⟨_,rfl,b,_,_,_,rfl,rfl,SqL.of (FK _ _ hb),rfl,_,rfl,pl,_,rfl,.inl ⟨SqL.of (rp _ _ e1),fun t9 uJ=>?_⟩⟩;have s9:=je uJ (.tup ([p1,p2].map V.str));have e9:upd H8 t9 (.tup ([p1,p2].map V.str)) t9=some (.tup ([p1,p2].map V.str)):=jd;generalize upd H8 t9 (.tup ([p1,p2].map V.str))=H9 at *;refine⟨_,rfl,rl,_,rfl,.inl ⟨SqL.of (s9 _ _ (rp _ _ e2)),fun ta gh=>?_⟩⟩;have sa:=je gh (.tup ([r1,r2].map V.str));have ea:upd H9 ta (.tup ([r1,r2].map V.str)) ta=some (.tup ([r1,r2].map V.str)):=jd;generalize upd H9 ta (.tup ([r1,r2].map V.str))=Ha at *;refine⟨_,rfl,sm rfl,fun tb PL=>?_⟩;have sb:=je PL (.tup [u3]);have eb:upd Ha tb (.tup [u3]) tb=some (.tup [u3]):=jd;generalize upd Ha tb (.tup [u3])=Hb at *;refine⟨_,rfl,sm rfl,fun tc PK=>?_⟩;have wT:=je PK (.tup []);have ec:upd Hb tc (.tup []) tc=some (.tup []):=jd;generalize upd Hb tc (.tup [])=Hc at *;have NF:=s9.trans (sa.trans (sb.trans wT));refine⟨sm rfl,fun td PJ=>?_⟩;have sd:=je PJ (.tup [V.str "proc",.str g,.ref t9,.ref ta,.ref tb,.ref t8,.ref tc]);have Be:=NF.trans sd;refine q _ n g1 g2 _ hn Rc C2 (FK.trans Be) (jo jd (jb jl (jb jl (jb (jo ((sa.trans (sb.trans (wT.trans sd))) _ _ e9) (qC [p1,p2])) (jb (jo ((sb.trans (wT.trans sd)) _ _ ea) (qC [r1,r2])) (jb (jo ((wT.trans sd) _ _ eb) (jb (Qc.mono Be) jj)) (jb (Rb.mono Be) (jb (jo (sd _ _ ec) jj) jj))))))))
theorem jep{n:Nat}{CO CN:aa}(F:Fun K "_law_asked" "_law_asked" ja7 f fd)(B:Free0 mg)(G1:mg "TooMany" = some (.ref CT))(G2:mg "OutlineError" = some (.ref CO))(G4:mg "NoCount" = some (.ref CN))(X1:pU K CT valB "ValueError.__new__" = true)(Z1:PySem.W.XCls K CT)(t2:iU K (.ref CT) (.ref CO)=some true)(t4:iU K (.ref CT) (.ref CN)=some false)(Ea:FnX P w K mg base (3 * n+9) "duties" ["program"] (spDuties CT n)):FnOk P w K mg base CX0 (3 * n+9+1) f fd ["_law_program"] (spAsked CT n):=by
 have sc:FnScope ["_law_program","_law_found","e"] ["_law_program"] (jp ja7):=fQ;refine F.ok sc (fun vs H Q E h=>?_) (fun aH A outer s H vs Q E hr h=>?_)
 .obtain⟨v,rfl,_⟩:=h
  rfl
 obtain⟨v,rfl,h⟩:=h;refine⟨_,QSs.h (jg (ju (i:=1) sc.nd rfl oQ qy) (jg (jci (iy:=1) (i:=2) Ea rfl rfl hr (ja (zpv 0) jc) (fun e=>jh (ju (i:=1) sc.nd rfl oQ (je2 (kb (yU (K:=K)) (by rfl) B.isinstance_ zN (ja (zpv 2) (ja (ym (v:=.ref CO) (by rfl) G2 rfl) jc))) (jeZ (je0 (kb (yU (K:=K)) (by rfl) B.isinstance_ zN (ja (zpv 2) (ja (ym (v:=.ref CN) (by rfl) G4 rfl) jc)))))))) sc.nd rfl oQ rfl rfl (by rfl) G1 X1 (by omega)) (jh (jv (zpv 1))))),?_⟩;refine jP (σ':=[some v,none,none]) rfl ?_;refine gQ ?_;refine⟨_,rfl,?_⟩;unfold jf1;refine Yg (fun v' H' q=>?_) (fun H' q=>⟨rfl,fun e he=>?_⟩) h
 .exact⟨_,rfl,q⟩
 .have q:=q.2 e he
  refine jP (σ':=[some v,some V.non,some (.ref e)]) rfl ?_;have e1:upd H' e (JZ (.ref CT) e) e=some (JZ (.ref CT) e):=jd;generalize upd H' e (JZ (.ref CT) e)=H1 at *;refine⟨_,rfl,e,CT,CO,true,rfl,e1,Z1,t2,true,rfl,qB ⟨_,rfl,e,CT,CN,false,rfl,e1,Z1,t4,false,rfl,?_⟩⟩;exact⟨_,rfl,q⟩
end
structure Ws(w0 w1 w2 w3 w4 w5 w6 w7 w8 w9 wa:Str):Prop where
 nd:[w0,w1,w2,w3,w4,w5,w6,w7,w8,w9,wa].Nodup
 no:∀x∈[w0,w1,w2,w3,w4,w5,w6,w7,w8,w9,wa],x ∉ noL/\x.length<=8
theorem jhw{ws:List Str}(h:ws.length=11):∃w0 w1 w2 w3 w4 w5 w6 w7 w8 w9 wa,ws=[w0,w1,w2,w3,w4,w5,w6,w7,w8,w9,wa]:=by
 match ws,h with
 | [w0,w1,w2,w3,w4,w5,w6,w7,w8,w9,wa],_=>exact⟨w0,w1,w2,w3,w4,w5,w6,w7,w8,w9,wa,rfl⟩
theorem jfE:("" : Str)∈noL:=bt
theorem jbd:("out" : Str)∈noL:=aZ _ bt
theorem jeA{x:Str}(h:x∈kwL):x∈noL:=aZ _ (aZ _ h)
theorem jgf:("out" : Str) ∉ kwL:=by decide +kernel
theorem jge:("" : Str)≠"out":=by decide +kernel
abbrev JP(w0 w1 w2 w3 w4 w5 w6:Str):Nm:=⟨w0,w6,[w4,w5],[w1,w2,w3,"out"],[w2,w3,"out"]⟩
def kN(w0 w1 w4 w5:Str)(n g:Cl)(bd:List (StN 4)):Pc:={ f:=w0,ps:=[w1],rs:=[w4,w5],nd:=[n],gv:=[g],lv:=4,bd:=bd }
def Pc.part(p:Pc):List D:=[.tup (p.nd.map Cl.toD),.tup (p.gv.map Cl.toD),.tup (p.bd.map (stD p.lv))]
theorem jd2(p:Pc):DepL (2 * p.lv+6) p.part:=qk (n:=2 * p.lv+5) (DepL.le (Kj (n:=0)) (by omega)) (qk (n:=2 * p.lv+5) (DepL.le (Kj (n:=0)) (by omega)) (qk (JB p.lv p.bd) DepL.nil))
theorem jbS(p:Pc):lvL p.part=lvL (p.nd.map Cl.toD)++(lvL (p.gv.map Cl.toD)++lvL (p.bd.map (stD p.lv))):=by
 unfold Pc.part;rw[jN,jN,Zv,ka,ka,ka]
theorem cl_sub{xs ys rs:List Str}(h:∀x∈xs,x∈ys){C:Cl}(hC:C.In xs rs):∀x∈C.ns,InE ys x:=fun x hx=>(jcd hC x hx).imp (h x) id
structure Pool(p:Pc)(gf:List Str):Prop where
 named:∀x∈p.named,InE gf x
 ps:∀x∈p.ps,x∈gf
 out:("out" : Str)∈gf
 len:gf.length<=5
variable {p:Pc}{gf:List Str}
theorem Pool.others(h:Pool p gf):∀x∈p.others,x∈gf:=by
 intro x hx;obtain⟨hx,hk⟩:=ma.mp hx;unfold zf at hk;rw[cO]at hk;rcases h.named x hx with hi | hi
 .exact hi
 .exact absurd hi (by simpa using hk.1)
theorem Pool.nums(h:Pool p gf):∃ns,NumsOf p ns:=by
 obtain⟨ns,h1,h2⟩:=jbM (p.others++(p.ps++[("out" : Str)]));have h3:∀x,x∈ns↔x∈p.others\/x∈p.ps\/x = "out":=fun x=>by rw[h2,aT,aT,aN]
 refine⟨ns,h1,?_,h3⟩;have:=Je (m:=gf) (jgK h1) fun x hx=>by
  rcases (h3 x).mp hx with g | g | g
  .exact h.others x g
  .exact h.ps x g
  .rw[g];exact h.out
 have:=h.len;omega
theorem Pool.few(h:Pool p gf)(hp:p.ps.length<=5):(dedupS p.others).length+(dedupS p.ps).length<=14:=by
 obtain⟨d1,_,d2⟩:=zq p.others;obtain⟨d3,d4,_⟩:=zq p.ps;have l1:=Je (m:=gf) d1 fun x hx=>h.others x ((d2 x).mp hx)
 have:=h.len;omega
variable {w0 w1 w4 w5:Str}{n g g1 g2:Cl}{bd:List (StN 4)}
section
variable {w2 w3 w6 w7 w8 w9 wa:Str}
theorem YS{X:Nm}:∀{l:List Nd},(∀N∈l,NdG X N)->(l.flatMap Nd.ns).length<=11 * l.length
 | [],_=>cy _
 | N :: l,h=>by
  have h1:=(h N bt).2.1;have h2:=YS (l:=l) fun M hM=>h M (aZ _ hM)
  rw[dX,aG,bR];omega
theorem K0:∀x∈(JP w0 w1 w2 w3 w4 w5 w6).free,x∈(JP w0 w1 w2 w3 w4 w5 w6).nums:=fun x hx=>aZ _ hx
theorem Zl(hn:n.In [w1] [w4,w5])(hg:g.In [w1,"out"] [w4,w5])(hb:∀s∈bd,inN (JP w0 w1 w2 w3 w4 w5 w6) 4 s):Pool (kN w0 w1 w4 w5 n g bd) [w1,w2,w3,"out"]:=by
 refine⟨fun x hx=>?_,fun x hx=>?_,by simp,cf rfl⟩
 .rcases aT.mp hx with hx | hx
  .obtain⟨C,hC,gM⟩:=s_.mp hx
   rcases aM.mp (show C∈[n,g] from hC) with rfl | hC
   .exact cl_sub (fun x hx=>by rw[aN.mp hx];exact bt) hn x gM
   .rw[aN.mp hC]at gM
    refine cl_sub (fun x hx=>?_) hg x gM;rcases aM.mp hx with rfl | hx
    .exact bt
    .rw[aN.mp hx];simp
  .obtain⟨N,hN,hx⟩:=s_.mp hx
   exact (JX K0 4 bd hb N hN).2.2 x hx
 .rw[aN.mp hx];exact bt
theorem jbT(hn:n.In [w7,w8] [w9,wa])(h1:g1.In [w7,w8,"out"] [w9,wa])(h2:g2.In [w7,w8] [w9,wa]):Pool (kH w6 [w7,w8] [w9,wa] n g1 g2) [w7,w8,"out"]:=by
 have sub:∀x∈[w7,w8],x∈[w7,w8,("out" : Str)]:=fun x hx=>by
  rcases aM.mp hx with rfl | hx
  .simp
  .rw[aN.mp hx];simp
 refine⟨fun x hx=>?_,sub,by simp,cf rfl⟩;rcases aT.mp hx with hx | hx
 .obtain⟨C,hC,gM⟩:=s_.mp hx
  rcases aM.mp (show C∈[n,g1,g2] from hC) with rfl | hC
  .exact cl_sub sub hn x gM
  rcases aM.mp hC with rfl | hC
  .exact cl_sub (fun x hx=>hx) h1 x gM
  .rw[aN.mp hC]at gM
   exact cl_sub sub h2 x gM
 .cases hx
theorem jhc(hn:n.In [w1] [w4,w5])(hg:g.In [w1,"out"] [w4,w5])(hb:∀s∈bd,inN (JP w0 w1 w2 w3 w4 w5 w6) 4 s):LvOk [w4,w5,w0,w6] (kN w0 w1 w4 w5 n g bd).named (lvL (kN w0 w1 w4 w5 n g bd).part):=by
 have F:FarOk (JP w0 w1 w2 w3 w4 w5 w6) [w4,w5,w0,w6]:=⟨fun r hr=>by
  rcases aM.mp hr with rfl | hr
  .simp
  .rw[aN.mp hr];simp,by simp,by simp⟩
 have sub:∀r∈[w4,w5],r∈[w4,w5,w0,w6]:=F.rs;rw[jbS];show LvOk _ (([n]++[g]).flatMap Cl.ns++(kr 4 bd).flatMap Nd.ns) (lvL ([n].map Cl.toD)++(lvL ([g].map Cl.toD)++lvL (bd.map (stD 4))));rw[oC,dH];exact LvOk.app (Zu (xs:=[w1]) (l:=[n]) fun C hC=>by rw[aN.mp hC];exact cl_mono sub hn) (LvOk.app (Zu (xs:=[w1,"out"]) (l:=[g]) fun C hC=>by rw[aN.mp hC];exact cl_mono sub hg) (KP F 4 bd hb))
theorem jgd(W:Ws w0 w1 w2 w3 w4 w5 w6 w7 w8 w9 wa)(hn:n.In [w1] [w4,w5])(hg:g.In [w1,"out"] [w4,w5])(hb:∀s∈bd,inN (JP w0 w1 w2 w3 w4 w5 w6) 4 s)(x:Str):x∈JI [w1,w2,w3,"out"] (lvL (kN w0 w1 w4 w5 n g bd).part)↔x∈(kN w0 w1 w4 w5 n g bd).others:=by
 have lv:=jhc hn hg hb;have pl:=Zl hn hg hb;have nd:=W.nd;have no:=W.no;unfold JI;constructor
 .intro hx
  obtain⟨h1,h2⟩:=ma.mp hx;have h2:=WP h2;have nF:∀y∈[w0,w1,w2,w3,w4,w5,w6,w7,w8,w9,wa],y≠"out":=fun y hy z=>(no y hy).1 (by rw[z];exact jbd)
  have h3:x ∉ [w4,w5,w0,w6]/\x ∉ kwL/\x≠"":=by
   rcases aM.mp h2 with rfl | h2
   .refine⟨fun z=>?_,fun z=>(no x (by simp)).1 (jeA z),fun z=>(no x (by simp)).1 (by rw[z];exact jfE)⟩
    simp at nd z;rcases z with z | z | z | z <;> simp_all
   rcases aM.mp h2 with rfl | h2
   .refine⟨fun z=>?_,fun z=>(no x (by simp)).1 (jeA z),fun z=>(no x (by simp)).1 (by rw[z];exact jfE)⟩
    simp at nd z;rcases z with z | z | z | z <;> simp_all
   rcases aM.mp h2 with rfl | h2
   .refine⟨fun z=>?_,fun z=>(no x (by simp)).1 (jeA z),fun z=>(no x (by simp)).1 (by rw[z];exact jfE)⟩
    simp at nd z;rcases z with z | z | z | z <;> simp_all
   .rw[aN.mp h2]
    refine⟨fun z=>?_,jgf,fun z=>jge z.symm⟩;simp only[aM,wt,or_false]at z;rcases z with z | z | z | z
    .exact nF w4 (by simp) z.symm
    .exact nF w5 (by simp) z.symm
    .exact nF w0 (by simp) z.symm
    .exact nF w6 (by simp) z.symm
  obtain⟨h3,h4,h5⟩:=h3;unfold Pc.others zf;have h6:x ∉ (kN w0 w1 w4 w5 n g bd).rs:=fun z=>h3 (by
   rcases aM.mp (show x∈[w4,w5] from z) with rfl | z
   .simp
   .rw[aN.mp z];simp)
  refine ma.mpr ⟨?_,by rw[WR h5,WR h6];rfl⟩;rcases lv.1 x h1 with g | g | g
  .exact g
  .exact absurd g h4
  .exact absurd g h3
 .intro hx
  exact ma.mpr ⟨lv.2 x (ma.mp hx).1,WQ (pl.others x hx)⟩
def Yj(p0 p1:Pc)(g:Str):Pc:=if g=p0.f then p0 else p1
theorem jg7(p0 p1:Pc):Yj p0 p1 p0.f=p0:=WU rfl
theorem jg6{p0 p1:Pc}(h:p0.f≠p1.f):Yj p0 p1 p1.f=p1:=WT fun z=>h z.symm
structure Two(p0 p1:Pc)(pr:Str->Pc)(dS gg:List Str):Prop where
 lc:LC p0 p1 pr
 f0:PcFit (gsL p0 p1) pr p0
 f1:PcFit (gsL p0 p1) pr p1
 n0:NumsOf p0 dS
 n1:NumsOf p1 gg
 most:p0.most+p1.most<=8000
theorem jgc(W:Ws w0 w1 w2 w3 w4 w5 w6 w7 w8 w9 wa)(hn:n.In [w7,w8] [w9,wa])(h1:g1.In [w7,w8,"out"] [w9,wa])(h2:g2.In [w7,w8] [w9,wa]){ns:List Str}(h:NumsOf (kH w6 [w7,w8] [w9,wa] n g1 g2) ns):(kH w6 [w7,w8] [w9,wa] n g1 g2).wayD ns=[qc "out",jG n]:=by
 have pl:=jbT (w6:=w6) hn h1 h2;have e:ns.filter (fun x=>!decide (x∈[w7,w8]))=[("out" : Str)]:=by
  refine yK (h.up.filter _) (by simp) fun x=>?_
  rw[ma,h.mem,aN];have ho:("out" : Str) ∉ [w7,w8]:=fun z=>by
   rcases aM.mp z with z | z
   .exact (W.no w7 (by simp)).1 (by rw[<- z];exact jbd)
   .exact (W.no w8 (by simp)).1 (by rw[<- aN.mp z];exact jbd)
  constructor
  .rintro⟨g,d⟩
   have d:x ∉ [w7,w8]:=by simpa using d
   rcases g with g | g | g
   .have:=pl.others x g
    rcases aM.mp this with z | z
    .exact absurd (by rw[z];exact bt) d
    rcases aM.mp z with z | z
    .exact absurd (by rw[z];exact aZ _ bt) d
    .exact aN.mp z
   .exact absurd g d
   .exact g
  .rintro rfl
   exact⟨.inr (.inr rfl),by rw[WR ho];rfl⟩
 show (ns.filter (fun x=>!decide (x∈[w7,w8]))).map qc++[jG n]=_;rw[e];rfl
theorem jfY(W:Ws w0 w1 w2 w3 w4 w5 w6 w7 w8 w9 wa){m:Cl}(hn:n.In [w1] [w4,w5])(hg:g.In [w1,"out"] [w4,w5])(hb:∀s∈bd,inN (JP w0 w1 w2 w3 w4 w5 w6) 4 s)(hc:qx 4 bd<=24)(hm:m.In [w7,w8] [w9,wa])(h1:g1.In [w7,w8,"out"] [w9,wa])(h2:g2.In [w7,w8] [w9,wa]):∃pr dS gg,Two (kN w0 w1 w4 w5 n g bd) (kH w6 [w7,w8] [w9,wa] m g1 g2) pr dS gg:=by
 have q0:=Zl hn hg hb;have q1:=jbT (w6:=w6) hm h1 h2;obtain⟨dS,Qe⟩:=q0.nums;obtain⟨gg,Qd⟩:=q1.nums;have nd:=W.nd;have no:=W.no;have ne:(kN w0 w1 w4 w5 n g bd).f≠(kH w6 [w7,w8] [w9,wa] m g1 g2).f:=by
  show w0≠w6;intro z;simp[z]at nd
 have sh:∀x∈[w0,w1,w2,w3,w4,w5,w6,w7,w8,w9,wa],x.length<=100/\x≠"":=fun x hx=>⟨aV (no x hx).2 (by decide),fun z=>(no x hx).1 (by rw[z];exact jfE)⟩
 have c0:CalOk w0 (kN w0 w1 w4 w5 n g bd):=by
  refine⟨?_,cf rfl,cf rfl,cf rfl,cf rfl,(sh w0 (by simp)).1,fun y hy=>?_,fun y hy=>?_⟩
  .show [w4,w5].Nodup
   simp at nd |-;simp_all
  .rw[aN.mp (show y∈[w1] from hy)];exact (sh w1 (by simp)).1
  .rw[aN.mp (show y∈[w1] from hy)];exact (sh w1 (by simp)).2
 have c1:CalOk w6 (kH w6 [w7,w8] [w9,wa] m g1 g2):=by
  have Ix:∀y∈[w7,w8],y.length<=100/\y≠"":=fun y hy=>by
   rcases aM.mp hy with rfl | hy
   .exact sh _ (by simp)
   .rw[aN.mp hy];exact sh _ (by simp)
  refine⟨?_,by show 2<=6;decide,by show 2<=6;decide,by show 1<=20;decide,by show 2<=10;decide,(sh w6 (by simp)).1,fun y hy=>(Ix y hy).1,fun y hy=>(Ix y hy).2⟩;show [w9,wa].Nodup;simp at nd |-;simp_all
 generalize hP0:kN w0 w1 w4 w5 n g bd=p0 at *;generalize hP1:kH w6 [w7,w8] [w9,wa] m g1 g2=p1 at *;have sj:p0.f=w0:=by rw[<- hP0];rfl
 have si:p1.f=w6:=by rw[<- hP1];rfl
 have e0:=jg7 p0 p1;have e1:=jg6 ne;have F:Fits (JP w0 w1 w2 w3 w4 w5 w6) (gsL p0 p1) (Yj p0 p1):=by
  refine⟨by show w0∈[p0.f,p1.f];rw[sj];simp,by show w6∈[p0.f,p1.f];rw[si];simp,?_,?_,?_,?_,?_,?_⟩
  .show CalOk w0 (Yj p0 p1 w0);rw[<- sj,e0,sj];exact c0
  .show CalOk w6 (Yj p0 p1 w6);rw[<- si,e1,si];exact c1
  .show (Yj p0 p1 w0).ps.length=1;rw[<- sj,e0,<- hP0];rfl
  .show (Yj p0 p1 w6).ps.length=2;rw[<- si,e1,<- hP1];rfl
  .show (Yj p0 p1 w0).rs.length=2;rw[<- sj,e0,<- hP0];rfl
  .show (Yj p0 p1 w6).rs.length=2;rw[<- si,e1,<- hP1];rfl
 have al:(kr 4 bd).length<=24:=by rw[yO];exact hc
 have ul:=JX (X:=JP w0 w1 w2 w3 w4 w5 w6) K0 4 bd hb;have Rq:=zW (f:=km 4) (g:=qH 4) (k:=320) fun s hs=>Kl 4 s (hb s hs)
 have hlen:=zW (f:=kQ 4) (g:=qH 4) (k:=23) fun s hs=>Zy 4 s (hb s hs)
 have aU:(bd.map (qH 4)).sum<=24:=hc;have cK:bd.length<=qx 4 bd:=Kg (n:=3) bd;have Oa:p0.named.length<=420:=by
  rw[<- hP0];show (([n]++[g]).flatMap Cl.ns++(kr 4 bd).flatMap Nd.ns).length<=420;have h3:=YS ul;have h4:=Kn ([n]++[g]);rw[aG];simp only[aG,bR,oz]at h4;omega
 have N_:p1.named.length<=420:=by
  rw[<- hP1];show (([m]++[g1,g2]).flatMap Cl.ns++[]).length<=420;have h4:=Kn ([m]++[g1,g2]);simp only[aG,bR,oz]at h4;rw[cv];omega
 have k0:PcOk p0:=by
  refine⟨by rw[<- hP0];exact cf rfl,by rw[<- hP0];exact cf rfl,by rw[<- hP0];exact aV al (by decide),Oa,q0.few (by rw[<- hP0];exact cf rfl),by rw[<- hP0];exact cf rfl,?_⟩;rw[<- hP0];exact fun N hN=>(ul N hN).1
 have k1:PcOk p1:=by
  refine⟨by rw[<- hP1];exact cf rfl,by rw[<- hP1];exact cf rfl,by rw[<- hP1];exact cf rfl,N_,q1.few (by rw[<- hP1];show 2<=5;decide),by rw[<- hP1];show 2<=100;decide,?_⟩;rw[<- hP1];exact fun N hN=>by cases hN
 have m0:p0.most<=7696:=by
  rw[<- hP0];show (bd.map (km 4)).sum+16 * 1<=7696;omega
 have m1:p1.most=32:=by rw[<- hP1];rfl
 refine⟨Yj p0 p1,dS,gg,⟨ne,e0,e1,?_,?_⟩,⟨k0,?_,?_,?_,?_,?_,?_⟩,⟨k1,?_,?_,?_,?_,?_,?_⟩,Qe,Qd,by omega⟩
 .rw[<- hP0]
  refine⟨fun z=>?_,fun z=>?_,fun x hx z=>?_⟩
  .exact (sh w1 (by simp)).2 (aN.mp (show ("" : Str)∈[w1] from z)).symm
  .rcases aM.mp (show ("" : Str)∈[w4,w5] from z) with z | z
   .exact (sh w4 (by simp)).2 z.symm
   .exact (sh w5 (by simp)).2 (aN.mp z).symm
  .have hx:=aN.mp (show x∈[w1] from hx)
   have z:x∈[w4,w5]:=z;subst hx;simp at nd z;rcases z with z | z <;> simp_all
 .rw[<- hP1]
  refine⟨fun z=>?_,fun z=>?_,fun x hx z=>?_⟩
  .rcases aM.mp (show ("" : Str)∈[w7,w8] from z) with z | z
   .exact (sh w7 (by simp)).2 z.symm
   .exact (sh w8 (by simp)).2 (aN.mp z).symm
  .rcases aM.mp (show ("" : Str)∈[w9,wa] from z) with z | z
   .exact (sh w9 (by simp)).2 z.symm
   .exact (sh wa (by simp)).2 (aN.mp z).symm
  .have z:x∈[w9,wa]:=z
   have hx:x∈[w7,w8]:=hx;simp at nd z hx;rcases hx with hx | hx <;> rcases z with z | z <;> simp_all
 .rw[<- hP0]
  exact fun S hS=>by
   have:=ZF F 4 S (hb S hS);rw[<- hP0]at this;exact this
 .rw[<- hP0];show bd.length<=100;omega
 .rw[<- hP0];show (bd.map (km 4)).sum+16 * 1<=8900;omega
 .rw[<- hP0];show (bd.map (kQ 4)).sum<=700;omega
 .rw[sj];exact (sh w0 (by simp)).1
 .rw[<- hP0];show 4<=40;decide
 .rw[<- hP1];exact fun S hS=>by cases hS
 .rw[<- hP1];exact cy _
 .rw[<- hP1];show 0+16 * 2<=8900;decide
 .rw[<- hP1];exact cy _
 .rw[si];exact (sh w6 (by simp)).1
 .rw[<- hP1];show 4<=40;decide
end
abbrev Yi:aJ:=top 58
inductive spLaw(K:aC)(vs:List V)(H:Hp)(Q:VK)(E:XK):Prop
 | mk (a:aa) (ns:List Int) (_:vs=[.ref a]) (_:SqL K H a (ns.map V.int)) (_:ns.length<=63) (_:∀H',Q (.bl true) H')
def jeW(E:aa->St)(H7:Hp)(ca:aa)(X:Nm)(m:Nat)(σ:St)(G:Hp):Prop:=∃(bl:aa) (us:List V) (bd:List (StN 4)) (b_:List Int),m=b_.length/\σ=E bl/\Same H7 G/\G ca=some (.lst (b_.map V.int))/\G bl=some (.lst us)/\HeldL G (bd.map (stD 4)) us/\(∀s∈bd,inN X 4 s)/\qx 4 bd+b_.length<=24/\bl≠ca
theorem jeK{α:Type}(f:α->Bool){l:List α}{i:Nat}(hi:i < l.length):(l.take (i+1)).filter f=(l.take i).filter f++(if f l[i]=true then [l[i]] else []):=by
 rw[bP,aI hi,AZ];congr 1;show E4 _ [l[i]]=_;rw[AY];rfl
theorem jhq{ns:List Str}{r:Wk}(er:goN w0 pr 4 [] [(kN w0 w1 w4 w5 n g bd).wayD ns] bd=some r):(kN w0 w1 w4 w5 n g bd).dus pr ns=some (r.1++ki w0 "give" [] r.2 [g]):=by
 unfold Pc.dus;rw[show goN (kN w0 w1 w4 w5 n g bd).f pr (kN w0 w1 w4 w5 n g bd).lv [] [(kN w0 w1 w4 w5 n g bd).wayD ns] (kN w0 w1 w4 w5 n g bd).bd=some r from er];rfl
theorem jhW{p1:Pc}{bD:Pc->List Str}{ns:List Str}(hn:bD (kN w0 w1 w4 w5 n g bd)=ns)(er:goN w0 pr 4 [] [(kN w0 w1 w4 w5 n g bd).wayD ns] bd=none):zl pr bD [kN w0 w1 w4 w5 n g bd,p1]=none:=by
 rw[zl,hn];unfold Pc.dus;rw[show goN (kN w0 w1 w4 w5 n g bd).f pr (kN w0 w1 w4 w5 n g bd).lv [] [(kN w0 w1 w4 w5 n g bd).wayD ns] (kN w0 w1 w4 w5 n g bd).bd=none from er]
theorem jhV{p0:Pc}{w6:Str}{ps rs:List Str}{m:Cl}{bD:Pc->List Str}{dS gg:List Str}{ds:List Du}{way:List D}(h0:bD p0=dS)(h1:bD (kH w6 ps rs m g1 g2)=gg)(e0:p0.dus pr dS=some ds)(e1:(kH w6 ps rs m g1 g2).wayD gg=way):zl pr bD [p0,kH w6 ps rs m g1 g2]=some (ds++ya w6 "give" [] way [g1,g2]):=by
 have e2:(kH w6 ps rs m g1 g2).dus pr gg=some (ya w6 "give" [] way [g1,g2]):=by
  unfold Pc.dus;rw[e1];show some ([]++ki w6 "give" [] [way] [g1,g2])=_;unfold ki;simp
 rw[zl,h0,e0,zl,h1,e2];show some (ds++(ya w6 "give" [] way [g1,g2]++[]))=_;rw[cv]
section
variable {P:aF}
theorem jgj(F:Fun K "law" "law" Yi f fd)(B:Free0 mg)(cx:mg "enumerate" = none)(fV:Fn P w K mg base 1 "_law_cell" ["_law_script","_law_k"] (spCell K))(D0:Fn P w K mg base 2 "_law_words" ["_law_script","_law_start","_law_many"] (spWords K))(dU:Fn P w K mg base 4 "_law_claim" ["_law_cell_here","_law_nums","_law_rows"] spClaimL)(pN:Fn P w K mg base 10 "_law_body" ["_law_cells","_law_f","_law_nums","_law_free","_law_rows","_law_deep"] (Jo 4))(D6:Fn P w K mg base 5 "_law_other" ["_law_script","_law_words_here"] (spOther K))(vV:Fn P w K mg base 15 "_law_used" ["_law_thing","_law_nums"] (spUsed 14))(n_:Fn P w K mg base 13 "_law_walk" ["_law_heads","_law_body_here","_law_before","_law_ways","_law_due"] (spWalkL 4))(fg:Fn P w K mg base 1 "_law_note" ["_law_due","_law_head","_law_claims","_law_ways"] (spNoteB false))(Au:Fn P w K mg base 22 "_law_asked" ["_law_program"] (spAsked CT 4)):FnOk P w K mg base CX0 23 f fd ["_law_script"] (spLaw K):=by
 have sc:FnScope ["_law_script","_law_words_here","_law_free","_law_nums","_law_rows","_law_many","_law_cells","_law_body_here","_law_need","_law_give","_law_proc","_law_other_here","_law_used_here","_law_way","_law_due","_law_ways","_law_k","_law_claim_here"] ["_law_script"] (jp Yi):=fQ;refine F.okZ sc (fun aH A outer s H vs Q E hr h=>?_);obtain⟨a,ns,rfl,hS,gR,q⟩:=h;have B6:(A.deeper (PyProof.Rows.envOfC "law" (jp Yi) s.heap.objs.size f aH)).units+1+6 < cLine:=by have:=hr.units;omega
 refine⟨_,(jg (ju (i:=1) sc.nd rfl oQ (jA D0 hr (ja (zpv 0) (ja jf (ja jf jc)))))
   (jg (ju (i:=2) sc.nd rfl oQ (jn kd (j5 Ke (zpv 1) (j0 jf) (j0 jf)) (jF (ja jm jc))))
   (jg (ju (i:=3) sc.nd rfl oQ (jn kd (jF (ja (jk jS (zpv 1) jf (fun _ _=>rfl)) jc)) (zpv 2)))
   (jg (ju (i:=4) sc.nd rfl oQ (jF (ja (jk jS (zpv 1) jf (fun _ _=>rfl)) (ja (jk jS (zpv 1) jf (fun _ _=>rfl)) jc))))
   (jg (ju (i:=5) sc.nd rfl oQ (jn jZ (jA fV hr (ja (zpv 0) (ja jf jc))) jf))
   (jg (zD (i:=6) sc.nd rfl oQ ["_law_k"] [0] rfl (ku (sc:=jp Yi) (N:=["_law_script","_law_words_here","_law_free","_law_nums","_law_rows","_law_many","_law_cells","_law_body_here","_law_need","_law_give","_law_proc","_law_other_here","_law_used_here","_law_way","_law_due","_law_ways","_law_k","_law_claim_here"]) rfl rfl (by decide +kernel)) (yV (by rfl) B.range_ (ja (zpv 5) jc)) (fun s H ex=>⟨(jt (i:=0) (show dk (["_law_k","_law_script"]:List Str) by decide +kernel) rfl oQ),kD,(jA fV hr (ja (zpv 1) (ja (jn qp jf (zpv 0)) jc)))⟩))
   (jg (jW (jbG eD PySem.F.slot_list_reverse PySem.F.type_list_reverse jbi (zpv 6)))
   (jg (ju (i:=7) sc.nd rfl oQ (jF jc))
   (jg (JH dF (jx Jt (kb jI (by rfl) B.len_ kz (ja (zpv 6) jc)) jf (jB _)) (jh (ju (i:=7) sc.nd rfl oQ (jn kd (zpv 7) (qI zm (by rfl) B.list_ Ko (ja (jA pN hr (ja (zpv 6) (ja (jF (ja (jk jS (zpv 1) jf (fun _ _=>rfl)) (ja (jk jS (zpv 1) jf (fun _ _=>rfl)) jc))) (ja (zpv 3) (ja (zpv 2) (ja (zpv 4) (ja jf jc))))))) jc))))))
   (jg (ju (i:=8) sc.nd rfl oQ (jA dU hr (ja (jA fV hr (ja (zpv 0) (ja jf jc))) (ja (jF (ja (jk jS (zpv 1) jf (fun _ _=>rfl)) jc)) (ja (zpv 4) jc)))))
   (jg (ju (i:=9) sc.nd rfl oQ (jA dU hr (ja (jA fV hr (ja (zpv 0) (ja jf jc))) (ja (jF (ja (jk jS (zpv 1) jf (fun _ _=>rfl)) (ja jm jc))) (ja (zpv 4) jc)))))
   (jg (ju (i:=10) sc.nd rfl oQ (js (ja jm (ja (jk jS (zpv 1) jf (fun _ _=>rfl)) (ja (js (ja (jk jS (zpv 1) jf (fun _ _=>rfl)) jc)) (ja (qI kR (by rfl) B.tuple_ zd (ja (zpv 4) jc)) (ja (js (ja (zpv 8) jc)) (ja (js (ja (zpv 9) jc)) (ja (qI kR (by rfl) B.tuple_ zd (ja (zpv 7) jc)) jc)))))))))
   (jg (ju (i:=11) sc.nd rfl oQ (jA D6 hr (ja (zpv 0) (ja (j5 Ke (zpv 1) (j0 jf) kL) jc))))
   (jg (ju (i:=12) sc.nd rfl oQ (kb (zJ (P:=P) (w:=w) rfl) (by rfl) B.sorted_ YY (ja (qI (yE (P:=P) (w:=w) (K:=K) rfl) (by rfl) B.set_ jbx (ja (jn kd (jA vV hr (ja (j5 qL (zpv 10) (j0 jf) kL) (ja (zpv 3) jc))) (jF (ja jm jc))) jc)) jc)))
   (jg (ju (i:=13) sc.nd rfl oQ (jn kd (kM ["_law_x"] [1] rfl (ku (sc:=jp Yi) (N:=["_law_script","_law_words_here","_law_free","_law_nums","_law_rows","_law_many","_law_cells","_law_body_here","_law_need","_law_give","_law_proc","_law_other_here","_law_used_here","_law_way","_law_due","_law_ways","_law_k","_law_claim_here"]) rfl rfl (by decide +kernel)) (ql (zpv 12)) (fun s H ex=>⟨(jt (i:=0) (show dk (["_law_x","_law_words_here"]:List Str) by decide +kernel) rfl oQ),(Jj (jx jfQ (zpv 0) (jk (jeC (K:=K)) (zpv 1) jf (fun _ _=>rfl)) (jB _))),(js (ja jm (ja (zpv 0) (ja (js (ja jm (ja jm jc))) (ja jf jc)))))⟩)) (jF (ja (js (ja jm (ja (zpv 8) jc))) jc))))
   (jg (ju (i:=14) sc.nd rfl oQ (jF jc))
   (jg (ju (i:=15) sc.nd rfl oQ (jA n_ hr (ja (jF (ja (zpv 10) (ja (zpv 11) jc))) (ja (jk jq (zpv 10) jf (fun _ _=>rfl)) (ja (js jc) (ja (jF (ja (zpv 13) jc)) (ja (zpv 14) jc)))))))
   (jg (jJ (jx JN (zpv 15) qy (jB _)) (jh (jv (ZX jgh (jA Au hr (ja (js (ja (zpv 10) (ja (zpv 11) jc))) jc)) jfU (jB _)))) jC)
   (jg (jW (jA fg hr (ja (zpv 14) (ja (js (ja (jk jS (zpv 1) jf (fun _ _=>rfl)) (ja jm (ja (js jc) jc)))) (ja (jF (ja (zpv 9) jc)) (ja (zpv 15) jc))))))
   (jg (kg dF rfl (zn (by rfl) cx (ja (jk jq (zpv 11) jf (fun _ _=>rfl)) jc)) (kn rfl (jy (jt (i:=16) sc.nd rfl oQ) (jy (jt (i:=17) sc.nd rfl oQ) j9))) (jh (jW (qu eD l_ l8 kK (zpv 14) (ja (js (ja (jk jq (zpv 11) jf (fun _ _=>rfl)) (ja jm (ja (js jc) (ja (zpv 16) (ja (jF (ja (js (ja jm (ja jm (ja (js (ja jm (ja jm jc))) (ja jf jc))))) (ja (js (ja jm (ja (jk jq (jk jq (zpv 11) jf (fun _ _=>rfl)) jf (fun _ _=>rfl)) jc))) jc))) (ja (zpv 17) jc))))))) jc)))))
   (jh (jv (ZX (jfi 6 B6) (jA Au hr (ja (js (ja (zpv 10) (ja (zpv 11) jc))) jc)) (zpv 14) (jB _)))))))))))))))))))))))),?_⟩
 refine jP (σ':=[some (.ref a),none,none,none,none,none,none,none,none,none,none,none,none,none,none,none,none,none]) rfl ?_
 try dsimp only[j7]
 refine jgy ?_;intro _ _ _ _ _ _ _ _ _ _ _ _ _ _ _ _ _ _ _ _;have r_:∀H',Same H H'->SqL K H' a (ns.map V.int):=fun H' s'=>s'.seq hS
 refine⟨_,rfl,a,ns,rfl,r_,fun lw ws H1 cP Pd hwo s1 iD=>?_⟩;obtain⟨w0,w1,w2,w3,w4,w5,w6,w7,w8,w9,wa,rfl⟩:=jhw cP;have WS:Ws w0 w1 w2 w3 w4 w5 w6 w7 w8 w9 wa:=⟨Pd,hwo⟩
 have iD:H1 lw=some (.lst [V.str w0,.str w1,.str w2,.str w3,.str w4,.str w5,.str w6,.str w7,.str w8,.str w9,.str wa]):=iD;refine gQ ?_;refine⟨_,rfl,_,rfl,_,rfl,lw,_,rfl,SqL.of iD,fun l1 bJ=>?_⟩;rw[show kI [V.str w0,.str w1,.str w2,.str w3,.str w4,.str w5,.str w6,.str w7,.str w8,.str w9,.str wa] (some 2) (some 4)=[V.str w2,.str w3] from rfl];have x1:=je bJ (.lst [V.str w2,.str w3]);have y1:upd H1 l1 (.lst [V.str w2,.str w3]) l1=some (.lst [V.str w2,.str w3]):=jd;generalize upd H1 l1 (.lst [V.str w2,.str w3])=H2 at *;refine⟨sm rfl,fun l2 a_=>?_⟩;have x2:=je a_ (.lst [V.str "out"]);have y2:upd H2 l2 (.lst [V.str "out"]) l2=some (.lst [V.str "out"]):=jd;generalize upd H2 l2 (.lst [V.str "out"])=H3 at *;refine⟨l1,l2,_,_,rfl,rfl,x2 _ _ y1,y2,sm rfl,fun fr hfr=>?_⟩;rw[show [V.str w2,.str w3]++[V.str "out"]=[V.str w2,.str w3,.str "out"] from rfl];have x3:=je hfr (.lst [V.str w2,.str w3,.str "out"]);have y3:upd H3 fr (.lst [V.str w2,.str w3,.str "out"]) fr=some (.lst [V.str w2,.str w3,.str "out"]):=jd;generalize upd H3 fr (.lst [V.str w2,.str w3,.str "out"])=H4 at *;have s4:=s1.trans (x1.trans (x2.trans x3));have nI:=(x1.trans (x2.trans x3)) _ _ iD;clear x1 x2 x3 y1 y2;refine gQ ?_;refine⟨_,rfl,lw,_,_,_,rfl,rfl,SqL.of nI,rfl,sm rfl,fun l3 bT=>?_⟩;have x1:=je bT (.lst [V.str w1]);have y1:upd H4 l3 (.lst [V.str w1]) l3=some (.lst [V.str w1]):=jd;generalize upd H4 l3 (.lst [V.str w1])=H5 at *;refine⟨_,rfl,l3,fr,_,_,rfl,rfl,y1,x1 _ _ y3,sm rfl,fun na Qb=>?_⟩;rw[show [V.str w1]++[V.str w2,.str w3,.str "out"]=[V.str w1,.str w2,.str w3,.str "out"] from rfl];have x2:=je Qb (.lst [V.str w1,.str w2,.str w3,.str "out"]);have y2:upd H5 na (.lst [V.str w1,.str w2,.str w3,.str "out"]) na=some (.lst [V.str w1,.str w2,.str w3,.str "out"]):=jd;generalize upd H5 na (.lst [V.str w1,.str w2,.str w3,.str "out"])=H6 at *;have i4:=x1.trans x2;have s6:=s4.trans i4;have pf:=i4 _ _ nI;have HC:=i4 _ _ y3;clear i4 x1 x2 y1 y3 s4 nI;refine gQ ?_;refine⟨_,rfl,lw,_,_,_,rfl,rfl,SqL.of pf,rfl,_,rfl,lw,_,_,_,rfl,rfl,SqL.of pf,rfl,sm rfl,fun ra uP=>?_⟩;have x1:=je uP (.lst [V.str w4,.str w5]);have y1:upd H6 ra (.lst [V.str w4,.str w5]) ra=some (.lst [V.str w4,.str w5]):=jd;generalize upd H6 ra (.lst [V.str w4,.str w5])=H7 at *;have s7:=s6.trans x1;have xQ:=x1 _ _ pf;have C3:=x1 _ _ HC;have xJ:=x1 _ _ y2;have xF:=y1;clear x1 y1 y2 HC pf s6;refine gQ ?_;refine⟨_,rfl,a,ns,0,rfl,r_ _ s7,by decide,by decide,fun c0=>⟨_,_,rfl,rfl,(show (0:Int) < 25 by decide),?_⟩⟩;obtain⟨k0,Ht⟩:∃k0,k0=c0 % 25:=⟨_,rfl⟩
 have k00:0<=k0:=by rw[Ht];exact fu _ (by decide)
 have k01:k0<=24:=by
  have:=gE c0 (b:=25) (by decide);omega
 refine gQ ?_;refine⟨_,rfl,k0,by rw[Ht],by omega,by omega,fun ca cJ=>?_⟩;refine K7 (n:=k0.toNat) (fun i σ' G=>∃(u:Option V) (cs:List Int),σ'=[u,some (.ref a)]/\Same H7 G/\G ca=some (.lst (cs.map V.int))/\cs.length=i) ⟨none,[],rfl,je cJ _,jd,rfl⟩ ?_ ?_
 .rintro i σ' G hi ⟨u,cs,rfl,sG,hG,lC⟩
  unfold qh yP;refine qB ?_;refine⟨_,rfl,_,rfl,_,_,rfl,rfl,a,ns,_,rfl,r_ _ (s7.trans sG),by omega,by omega,fun c=>?_⟩;refine⟨_,hG,jz (by rw[ax];omega),_,cs++[c],rfl,fun z o e=>?_,by rw[jd,aW];rfl,by rw[aG,lC];rfl⟩;rw[jw (jr e cJ)];exact sG _ _ e
 rintro σ' H8 ⟨u,IL,rfl,s8,C_,lcs⟩;have hca7:H ca=none:=s7.free cJ;refine gQ ?_;refine⟨_,rfl,.inl ⟨rfl,_,SqL.of C_⟩,ca,_,rfl,rfl,C_,?_⟩;rw[<- List.map_reverse];have lcs1:IL.reverse.length<=24:=by rw[Wr];omega
 generalize IL.reverse=cs at *;have k9:KB ca H8 (upd H8 ca (.lst (cs.map V.int))):=fun b o hb e=>by rw[jw hb];exact e
 have C9:upd H8 ca (.lst (cs.map V.int)) ca=some (.lst (cs.map V.int)):=jd;generalize upd H8 ca (.lst (cs.map V.int))=H9 at *;have nc:∀{b:aa} {o:HO},H7 b=some o->b≠ca:=fun e z=>by rw[z,cJ]at e;cases e
 have s9:Same H7 H9:=fun b o e=>k9 b o (nc e) (s8 _ _ e)
 clear C_ k9 s8;refine⟨sm rfl,fun bl cK=>?_⟩;have x1:=je cK (.lst []);have y1:upd H9 bl (.lst []) bl=some (.lst []):=jd;generalize upd H9 bl (.lst [])=dP at *;have dZ:=s9.trans x1;have HN:=x1 _ _ C9;refine gQ ?_;refine⟨jeW (fun bl=>[some (.ref a),some (.ref lw),some (.ref fr),some (.ref na),some (.ref ra),some (.int (c0 % 25)),some (.ref ca),some (.ref bl),none,none,none,none,none,none,none,none,none,none]) H7 ca (JP w0 w1 w2 w3 w4 w5 w6),⟨cs.length,bl,[],[],cs,rfl,rfl,dZ,HN,y1,jj,(fun _ z=>by cases z),by show 0+_<=24;omega,fun z=>by rw[z,C9]at cK;cases cK⟩,?_⟩;clear C9 HN y1 x1 dZ cK s9;rintro m σ G ⟨bl,us,bd,b_,rfl,rfl,sG,gp,mR,dL,cI,rX,F4⟩;have nq:=dL.length;rw[ax]at nq;have hbc:bd.length<=qx 4 bd:=Kg (n:=3) bd;refine⟨_,rfl,ca,_,rfl,.inl (SqL.of gp),_,_,rfl,rfl,_,rfl,jQ (fun d=>?_) (fun d=>?_)⟩
 .have d0:0 < b_.length:=by
   have:=WP d;rw[ax]at this;omega
  refine⟨fun σ' G'=>∃m',m' < b_.length/\jeW (fun bl=>[some (.ref a),some (.ref lw),some (.ref fr),some (.ref na),some (.ref ra),some (.int (c0 % 25)),some (.ref ca),some (.ref bl),none,none,none,none,none,none,none,none,none,none]) H7 ca (JP w0 w1 w2 w3 w4 w5 w6) m' σ' G',fun _ _ h=>h,?_⟩;refine⟨_,rfl,_,rfl,_,rfl,lw,_,_,_,rfl,rfl,SqL.of (sG _ _ xQ),rfl,_,rfl,lw,_,_,_,rfl,rfl,SqL.of (sG _ _ xQ),rfl,sm rfl,fun fa rR=>?_⟩;have x1:=je rR (.lst [V.str w0,.str w6]);have y1:upd G fa (.lst [V.str w0,.str w6]) fa=some (.lst [V.str w0,.str w6]):=jd;generalize upd G fa (.lst [V.str w0,.str w6])=G1 at *;have eF:=sG.trans x1;have N:NmH (JP w0 w1 w2 w3 w4 w5 w6) G1 fa na fr ra:=⟨y1,eF _ _ xJ,eF _ _ C3,eF _ _ xF,⟨V6 _,cf rfl⟩,V6 _,⟨w4,w5,rfl⟩,K0⟩
  have Oh:fa≠ca:=fun z=>by rw[z,gp]at rR;cases rR
  refine⟨_,rfl,_,rfl,_,rfl,ca,fa,na,fr,ra,JP w0 w1 w2 w3 w4 w5 w6,b_,rfl,N,⟨Oh,nc xJ,nc C3,nc xF⟩,x1 _ _ gp,by omega,fun t i6 vO gZ G2 k2 iJ dq ix Q6 a_ HI Qs=>?_⟩;have HI:qx 4 vO+gZ.length<=b_.length:=HI;have bz:=Qs (fun z=>by rw[z]at d0;exact absurd d0 (by decide));have hbc2:vO.length<=qx 4 vO:=Kg (n:=3) vO;have OL:=ix.length;rw[ax]at OL;have dA:=k2 _ _ F4 (x1 _ _ mR);have ik:=jR k2 (x1 _ _ gp);refine⟨t,i6,rfl,.inr (SqT.of dq),fun l3 bT=>?_⟩;have x3:=je bT (.lst i6);have y3:upd G2 l3 (.lst i6) l3=some (.lst i6):=jd;generalize upd G2 l3 (.lst i6)=G3 at *;refine⟨bl,l3,_,_,rfl,rfl,x3 _ _ dA,y3,jY (by omega),fun l4 dy=>?_⟩;have x4:=je dy (.lst (us++i6));have y4:upd G3 l4 (.lst (us++i6)) l4=some (.lst (us++i6)):=jd;generalize upd G3 l4 (.lst (us++i6))=G4 at *;have ng:=x3.trans x4;have Ru:=ng _ _ iJ;refine⟨gZ.length,bz,l4,us++i6,bd++vO,gZ,rfl,rfl,fun b o e=>ng _ _ (k2 b o (nc e) (eF _ _ e)),Ru,y4,by rw[aW];exact jL ((ik.heldL (dL.mono x1)).mono ng) (ix.mono ng),fun s hs=>?_,by unfold qx at *;rw[aW,p5];omega,fun z=>by rw[z,x3 _ _ iJ]at dy;cases dy⟩;rcases aT.mp hs with hs | hs
  .exact cI s hs
  .exact Q6 s hs
 have h0:b_=[]:=by
  have:¬((0:Int) < ((b_.map V.int).length:Int)):=fun z=>d (WQ z)
  rw[ax]at this;exact WD (by omega)
 subst h0;have Rv:qx 4 bd<=24:=by
  have:qx 4 bd+0<=24:=rX;omega
 have sH:=s7.trans sG;have xP:=sG _ _ xQ;have GV:=sG _ _ xJ;have xE:=sG _ _ xF;clear gp rX nc F4 xQ C3 xJ xF sG cJ d;refine⟨_,rfl,a,ns,7,rfl,r_ _ sH,by decide,by decide,fun c7=>?_⟩;refine⟨_,rfl,lw,_,_,_,rfl,rfl,SqL.of xP,rfl,sm rfl,fun l1 bJ=>?_⟩;have x1:=je bJ (.lst [V.str w1]);have y1:upd G l1 (.lst [V.str w1]) l1=some (.lst [V.str w1]):=jd;generalize upd G l1 (.lst [V.str w1])=G1 at *;refine⟨_,rfl,c7,l1,ra,[w1],[w4,w5],rfl,y1,x1 _ _ xE,cf rfl,fun un n G2 hn x2 GA=>?_⟩;have i4:=x1.trans x2;refine gQ ?_;refine⟨_,rfl,a,ns,8,rfl,r_ _ (sH.trans i4),by decide,by decide,fun c8=>?_⟩;refine⟨_,rfl,lw,_,_,_,rfl,rfl,SqL.of (i4 _ _ xP),rfl,sm rfl,fun l3 bT=>?_⟩;have x3:=je bT (.lst [V.str w1,.str "out"]);have y3:upd G2 l3 (.lst [V.str w1,.str "out"]) l3=some (.lst [V.str w1,.str "out"]):=jd;generalize upd G2 l3 (.lst [V.str w1,.str "out"])=G3 at *;refine⟨_,rfl,c8,l3,ra,[w1,"out"],[w4,w5],rfl,y3,(i4.trans x3) _ _ xE,cf rfl,fun ug g G4 hg x4 B5=>?_⟩;have ng:=x3.trans x4;have ie:=i4.trans ng;have B4:=GA.mono ng;have FC:=sH.trans ie;have nI:=ie _ _ xP;have GW:=ie _ _ GV;have GG:=ie _ _ xE;have HQ:=ie _ _ mR;have Gv:=dL.mono ie;clear GA ng ie i4 x1 x2 x3 x4 y1 y3 bJ bT dL mR xP GV xE sH;refine gQ ?_;refine⟨_,rfl,lw,_,_,_,rfl,rfl,SqL.of nI,rfl,_,rfl,lw,_,_,_,rfl,rfl,SqL.of nI,rfl,sm rfl,fun t1 bS=>?_⟩;have z1:=je bS (.tup [V.str w1]);have v1:upd G4 t1 (.tup [V.str w1]) t1=some (.tup [V.str w1]):=jd;generalize upd G4 t1 (.tup [V.str w1])=G5 at *;refine⟨_,rfl,ra,_,rfl,.inl ⟨SqL.of (z1 _ _ GG),fun t2 dq=>?_⟩⟩;have z2:=je dq (.tup [V.str w4,.str w5]);have v2:upd G5 t2 (.tup [V.str w4,.str w5]) t2=some (.tup [V.str w4,.str w5]):=jd;generalize upd G5 t2 (.tup [V.str w4,.str w5])=G6 at *;refine⟨_,rfl,sm rfl,fun t3 eJ=>?_⟩;have z3:=je eJ (.tup [un]);have v3:upd G6 t3 (.tup [un]) t3=some (.tup [un]):=jd;generalize upd G6 t3 (.tup [un])=G7 at *;refine⟨_,rfl,sm rfl,fun t4 rM=>?_⟩;have z4:=je rM (.tup [ug]);have v4:upd G7 t4 (.tup [ug]) t4=some (.tup [ug]):=jd;generalize upd G7 t4 (.tup [ug])=G8 at *;have tJ:=z1.trans (z2.trans (z3.trans z4));refine⟨_,rfl,bl,_,rfl,.inl ⟨SqL.of (tJ _ _ HQ),fun t5 iA=>?_⟩⟩;have z5:=je iA (.tup us);have v5:upd G8 t5 (.tup us) t5=some (.tup us):=jd;generalize upd G8 t5 (.tup us)=G9 at *;refine⟨sm rfl,fun tp xB=>?_⟩;have z6:=je xB (.tup [V.str "proc",.str w0,.ref t1,.ref t2,.ref t3,.ref t4,.ref t5]);have v6:upd G9 tp (.tup [V.str "proc",.str w0,.ref t1,.ref t2,.ref t3,.ref t4,.ref t5]) tp=some (.tup [V.str "proc",.str w0,.ref t1,.ref t2,.ref t3,.ref t4,.ref t5]):=jd;generalize upd G9 tp (.tup [V.str "proc",.str w0,.ref t1,.ref t2,.ref t3,.ref t4,.ref t5])=Ga at *;have ic:=tJ.trans (z5.trans z6);have q3:=(z4.trans (z5.trans z6)) _ _ v3;have q4:=(z5.trans z6) _ _ v4;have q5:=z6 _ _ v5;have Cu:HeldL Ga ([n].map Cl.toD) [un]:=jb (B4.mono ic) jj;have CY:HeldL Ga ([g].map Cl.toD) [ug]:=jb (B5.mono ic) jj;have B2:=Gv.mono ic;have Ig:Held Ga (kN w0 w1 w4 w5 n g bd).toD (.ref tp):=jo v6 (jb jl (jb jl (jb (jo ((z2.trans (z3.trans (z4.trans (z5.trans z6)))) _ _ v1) (qC [w1])) (jb (jo ((z3.trans (z4.trans (z5.trans z6))) _ _ v2) (qC [w4,w5])) (jb (jo q3 Cu) (jb (jo q4 CY) (jb (jo q5 B2) jj)))))));have Bc:=FC.trans ic;have CD:=ic _ _ nI;have GU:=ic _ _ GW;have Gz:=B4.mono ic;have GC:=B5.mono ic;clear z1 z2 z3 z4 z5 z6 tJ v1 v2 v3 v4 v5 bS dq eJ rM iA xB B4 B5 Gv HQ GG nI GW FC ic;refine gQ ?_;refine⟨_,rfl,_,rfl,_,rfl,lw,_,rfl,SqL.of CD,fun l6 gj=>?_⟩;rw[show kI [V.str w0,.str w1,.str w2,.str w3,.str w4,.str w5,.str w6,.str w7,.str w8,.str w9,.str wa] (some 6) none=[V.str w6,.str w7,.str w8,.str w9,.str wa] from rfl];have z7:=je gj (.lst [V.str w6,.str w7,.str w8,.str w9,.str wa]);have v7:upd Ga l6 (.lst [V.str w6,.str w7,.str w8,.str w9,.str wa]) l6=some (.lst [V.str w6,.str w7,.str w8,.str w9,.str wa]):=jd;generalize upd Ga l6 (.lst [V.str w6,.str w7,.str w8,.str w9,.str wa])=Gb at *;refine⟨a,l6,ns,w6,w7,w8,w9,wa,rfl,fun H' s'=>r_ _ (Bc.trans (z7.trans s')),v7,fun uo m g1 g2 Gc hm h1 h2 z8 Gx=>?_⟩;have fA:=z7.trans z8;have Ic:=Ig.mono fA;have A8:=fA _ _ v6;have FQ:=fA _ _ q3;have FP:=fA _ _ q4;have Bp:=fA _ _ q5;have GS:=Cu.mono fA;have Hx:=CY.mono fA;have B1:=B2.mono fA;have FA:=Bc.trans fA;have CB:=fA _ _ CD;have GT:=fA _ _ GU;have Gy:=Gz.mono fA;have GB:=GC.mono fA;clear z7 z8 fA v7 Ig v6 q3 q4 q5 Cu CY B2 Bc CD GU Gz GC gj;obtain⟨pr,dS,gg,T⟩:=jfY WS hn hg cI Rv hm h1 h2;have iB:=jgd WS hn hg cI;have hpool:=Zl hn hg cI;have Gp:=jgc WS hm h1 h2 T.n1;refine gQ ?_;refine⟨_,rfl,_,rfl,tp,_,rfl,SqT.of A8,(fun h=>absurd h.1 (by show ¬(HT.sIx 7 0 (some 4)=0);decide)),fun tu PF=>?_⟩;rw[show kI [V.str "proc",.str w0,.ref t1,.ref t2,.ref t3,.ref t4,.ref t5] (some 4) none=[V.ref t3,.ref t4,.ref t5] from rfl];have a1:=je PF (.tup [V.ref t3,.ref t4,.ref t5]);have b1:upd Gc tu (.tup [V.ref t3,.ref t4,.ref t5]) tu=some (.tup [V.ref t3,.ref t4,.ref t5]):=jd;generalize upd Gc tu (.tup [V.ref t3,.ref t4,.ref t5])=H1' at *;have bO:HeldL H1' (kN w0 w1 w4 w5 n g bd).part [.ref t3,.ref t4,.ref t5]:=jb (jo (a1 _ _ FQ) (GS.mono a1)) (jb (jo (a1 _ _ FP) (Hx.mono a1)) (jb (jo (a1 _ _ Bp) (B1.mono a1)) jj));have cC:(lvL (kN w0 w1 w4 w5 n g bd).part).length<=900:=by
  rw[jbS,aG,aG];have e1:=Km [n];have e2:=Km [g];have e3:(lvL (bd.map (stD 4))).length<=33 * qx 4 bd:=Jm 4 bd cI;show (lvL ([n].map Cl.toD)).length+((lvL ([g].map Cl.toD)).length+(lvL (bd.map (stD 4))).length)<=900;simp only[bR,oz]at e1 e2;omega
 refine⟨_,rfl,tu,na,_,(kN w0 w1 w4 w5 n g bd).part,[w1,w2,w3,"out"],rfl,b1,bO,jd2 _,a1 _ _ GT,cC,fun lu Lr a2 n2 e2=>?_⟩;have Gs:∀x∈JI [w1,w2,w3,"out"] (lvL (kN w0 w1 w4 w5 n g bd).part),x∈[w1,w2,w3,("out" : Str)]:=fun x hx=>WP (ma.mp hx).2
 have dw:=Kw [w1,w2,w3,"out"] (lvL (kN w0 w1 w4 w5 n g bd).part);generalize JI [w1,w2,w3,"out"] (lvL (kN w0 w1 w4 w5 n g bd).part)=uu at *;refine⟨sm rfl,fun l2 a_=>?_⟩;have a3:=je a_ (.lst [V.str "out"]);have e3:upd Lr l2 (.lst [V.str "out"]) l2=some (.lst [V.str "out"]):=jd;generalize upd Lr l2 (.lst [V.str "out"])=H3' at *;refine⟨lu,l2,_,_,rfl,rfl,a3 _ _ e2,e3,jY (by rw[ax];show uu.length+1<=1000;omega),fun l3 bT=>?_⟩;rw[show uu.map V.str++[V.str "out"]=(uu++[("out" : Str)]).map V.str by rw[aW];rfl];have a4:=je bT (.lst ((uu++[("out" : Str)]).map V.str));have e4:upd H3' l3 (.lst ((uu++[("out" : Str)]).map V.str)) l3=some (.lst ((uu++[("out" : Str)]).map V.str)):=jd;generalize upd H3' l3 (.lst ((uu++[("out" : Str)]).map V.str))=H4' at *;refine⟨l3,uu++[("out" : Str)],rfl,SqL.of e4,by rw[aG];show uu.length+1<=1000;omega,fun vS Pl=>?_⟩;obtain⟨d1,_,d2⟩:=zq (uu++[("out" : Str)]);generalize dedupS (uu++[("out" : Str)])=τ at *;have hτ:∀x,x∈τ↔x∈(kN w0 w1 w4 w5 n g bd).others\/x = "out":=fun x=>by rw[d2,aT,iB,aN]
 have lτ:τ.length<=5:=Je (m:=[w1,w2,w3,"out"]++[("out" : Str)]) d1 fun x hx=>by
  rcases (hτ x).mp hx with g | g
  .exact aT.mpr (.inl (Gs x ((iB x).mpr g)))
  .rw[g];exact aT.mpr (.inr (aN.mpr rfl))
 have a5:=je Pl (kF P w vS τ);have e5:upd H4' vS (kF P w vS τ) vS=some (kF P w vS τ):=jd;generalize upd H4' vS (kF P w vS τ)=H5' at *;refine⟨vS,τ,rfl,e5,by omega,fun l4 cG dy pm so=>?_⟩;have up:=Yz so (pm.nodup_iff.mpr d1);have lu':cG.length<=5:=by rw[pm.length_eq];exact lτ
 have HE:=jdq T.n0 up fun x=>by rw[pm.mem_iff,hτ]
 have a6:=je dy (.lst (cG.map V.str));have e6:upd H5' l4 (.lst (cG.map V.str)) l4=some (.lst (cG.map V.str)):=jd;generalize upd H5' l4 (.lst (cG.map V.str))=H6' at *;have sr:=a1.trans (a2.trans (a3.trans (a4.trans (a5.trans a6))));have pf:=sr _ _ CB;clear a1 a2 a3 a4 a5 a6 b1 e2 e3 e4 e5 bO iB hτ d2 Gs dw so pm d1 lτ cC;refine gQ ?_;refine⟨_,rfl,l4,rfl,⟨_,SqL.of e6⟩,fun pp fJ=>?_⟩;refine qF (xs:=cG.map V.str) (fun i σ' G=>∃u ks,σ'=[u,some (.ref lw)]/\Same H6' G/\G pp=some (.lst ks)/\HeldL G (((cG.take i).filter fun x=>!decide (x∈[w1])).map qc) ks) ⟨none,[],rfl,je fJ _,jd,jj⟩ ?_ ?_ ?_
 .rintro i σ' G _ ⟨u,ks,rfl,sG,_⟩
  exact SqL.of (sG _ _ e6)
 .rintro i x σ' G hx ⟨u,ks,rfl,sG,hG,hk⟩
  have hi:i < cG.length:=by
   have:=(bN.mp hx).1;rw[ax]at this;exact this
  rw[bF,aI hi]at hx
  cases hx
  have et:=jeK (fun x=>!decide (x∈[w1])) hi;have cN:=hk.length;rw[ax]at cN;have gS:=oA (fun x=>!decide (x∈[w1])) (cG.take i);rw[bK]at gS;have ed:(!decide (V.str cG[i]=V.str w1))=(!decide (cG[i]∈[w1])):=by
   by_cases h:cG[i]=w1
   .rw[WQ (WW V.str h),WQ (aN.mpr h)]
   .rw[WR (fun z=>h (by injection z)),WR (fun z=>h (aN.mp z))]
  unfold qh;refine⟨_,rfl,_,rfl,lw,_,_,_,rfl,rfl,SqL.of (sG _ _ pf),rfl,rfl,_,rfl,?_⟩;rw[ed];refine jQ (fun d2=>?_) (fun d2=>?_)
  .refine⟨_,rfl,sm rfl,fun t1 bS=>?_⟩
   have x1:=je bS (.tup [V.str "is",.str ""]);have y1:upd G t1 (.tup [V.str "is",.str ""]) t1=some (.tup [V.str "is",.str ""]):=jd;generalize upd G t1 (.tup [V.str "is",.str ""])=G1 at *;refine⟨sm rfl,fun t2 dq=>?_⟩;have x2:=je dq (.tup [V.str "set",.str cG[i],.ref t1,.int 0]);have y2:upd G1 t2 (.tup [V.str "set",.str cG[i],.ref t1,.int 0]) t2=some (.tup [V.str "set",.str cG[i],.ref t1,.int 0]):=jd;generalize upd G1 t2 (.tup [V.str "set",.str cG[i],.ref t1,.int 0])=G2 at *;have s3:=x1.trans x2;have aY:=s3 _ _ hG;have hz:Held G2 (qc cG[i]) (.ref t2):=jo y2 (jb jl (jb jl (jb (jo (x2 _ _ y1) (jb jl (jb jl jj))) (jb jX jj))));have tk:TK G2 (upd G2 pp (.lst (ks++[.ref t2]))):=TK.upd aY (fun _ z=>by cases z);refine⟨ks,aY,jz (by omega),_,_,rfl,fun b o e=>?_,jd,?_⟩
   .rw[jw (jr e fJ)];exact s3 _ _ (sG _ _ e)
   .rw[et,WU d2,aW]
    exact jL (tk.heldL (hk.mono s3)) (jb (tk.held hz) jj)
  .exact⟨_,ks,rfl,sG,hG,by rw[et,WT d2,cv];exact hk⟩
 rintro σ' Lq ⟨u',ks,rfl,a7,GI,fM⟩;rw[ax,bX]at fM;rw[show cG.filter (fun x=>!decide (x∈[w1]))=dS.filter (fun x=>!decide (x∈[w1])) from HE]at fM;have Gd:=fM.length;rw[ax]at Gd;have OO:=oA (fun x=>!decide (x∈[w1])) dS;have ln0:=T.n0.few;refine⟨_,rfl,sm rfl,fun t8 iz=>?_⟩;have a8:=je iz (.tup [V.str "know",un]);have b8:upd Lq t8 (.tup [V.str "know",un]) t8=some (.tup [V.str "know",un]):=jd;generalize upd Lq t8 (.tup [V.str "know",un])=H8' at *;refine⟨sm rfl,fun l9 lF=>?_⟩;have a9:=je lF (.lst [V.ref t8]);have b9:upd H8' l9 (.lst [V.ref t8]) l9=some (.lst [V.ref t8]):=jd;generalize upd H8' l9 (.lst [V.ref t8])=H9' at *;have Ai:=a8.trans a9;refine⟨pp,l9,_,_,rfl,rfl,Ai _ _ GI,b9,jY (by show ks.length+1<=1000;omega),fun wl cP=>?_⟩;have ab:=je cP (.lst (ks++[V.ref t8]));have bb:upd H9' wl (.lst (ks++[V.ref t8])) wl=some (.lst (ks++[V.ref t8])):=jd;generalize upd H9' wl (.lst (ks++[V.ref t8]))=Hb at *;have lO:=sr.trans (a7.trans (Ai.trans ab));have de:HeldL Hb ((kN w0 w1 w4 w5 n g bd).wayD dS) (ks++[V.ref t8]):=jL (fM.mono (Ai.trans ab)) (jV (jo ((a9.trans ab) _ _ b8) (jb jl (jb (Gy.mono lO) jj))));have hwln:=de.length;have hwl35:=ZZ T.f0.ok T.n0;have Ie:=Ic.mono lO;have Nq:=lO _ _ A8;have NY:=lO _ _ Bp;have Pp:=B1.mono lO;have FB:=FA.trans lO;have CC:=lO _ _ CB;have Pw:=GB.mono lO;have Gw:=Gx.mono lO;clear a7 a8 a9 Ai ab sr lO fM GI b8 b9 e6 Ic A8 FQ FP Bp GS Hx B1 FA CB GT Gy GB Gx pf up HE Gd OO iz lF;refine gQ ?_;refine⟨sm rfl,fun dl hdl=>?_⟩;have ad:=je hdl (.lst []);have DI:upd Hb dl (.lst []) dl=some (.lst []):=jd;generalize upd Hb dl (.lst [])=Hd at *;refine gQ ?_;refine⟨_,rfl,_,rfl,sm rfl,fun hd hhd=>?_⟩;have ae:=je hhd (.lst [V.ref tp,uo]);have be:upd Hd hd (.lst [V.ref tp,uo]) hd=some (.lst [V.ref tp,uo]):=jd;generalize upd Hd hd (.lst [V.ref tp,uo])=He at *;refine⟨_,rfl,tp,_,_,_,rfl,rfl,SqT.of ((ad.trans ae) _ _ Nq),rfl,sm rfl,fun t0 PN=>?_⟩;have af:=je PN (.tup []);have bf:upd He t0 (.tup []) t0=some (.tup []):=jd;generalize upd He t0 (.tup [])=Hf at *;refine⟨_,rfl,sm rfl,fun wy hwy=>?_⟩;have ag:=je hwy (.lst [V.ref wl]);have bg:upd Hf wy (.lst [V.ref wl]) wy=some (.lst [V.ref wl]):=jd;generalize upd Hf wy (.lst [V.ref wl])=Hg at *;have iQ:=ad.trans (ae.trans (af.trans ag));have nhd:hd≠dl:=fun z=>by rw[z,DI]at hhd;cases hhd
 have nwy:wy≠dl:=fun z=>by rw[z,(ae.trans af) _ _ DI]at hwy;cases hwy
 have li:wl≠dl:=fun z=>by rw[z,hdl]at bb;cases bb
 have nR:=(ae.trans (af.trans ag)) _ _ DI;have RP:LkAt Hg hd dl (kN w0 w1 w4 w5 n g bd) (kH w6 [w7,w8] [w9,wa] m g1 g2) [] wy [(kN w0 w1 w4 w5 n g bd).wayD dS]:=⟨⟨_,_,(af.trans ag) _ _ be,Ie.mono iQ,Gw.mono iQ⟩,nhd,nR,⟨[wl],bg,⟨⟨li,_,iQ _ _ bb,de.mono iQ⟩,trivial⟩⟩,nwy⟩
 have Cy:=T.most;have rW:(bd.map (km 4)).sum+16 * 1<=8900:=T.f0.cost;have hls:(bd.map (kQ 4)).sum<=700:=T.f0.len;have sHg:=FB.trans iQ;have Ib:=Ie.mono iQ;have B3:=Gw.mono iQ;have Pu:=Pw.mono iQ;have Qp:=iQ _ _ CC;have Ob:lw≠dl:=fun z=>by rw[z,hdl]at CC;cases CC
 have hdl0:H dl=none:=FB.free hdl;have F2:w0≠w6:=T.lc.ne;obtain⟨bD,Cq,GO⟩:∃bD:Pc->List Str,bD (kN w0 w1 w4 w5 n g bd)=dS/\bD (kH w6 [w7,w8] [w9,wa] m g1 g2)=gg:=⟨fun p=>if p.f=w0 then dS else gg,WU rfl,WT fun z=>F2 z.symm⟩
 have xI:([kN w0 w1 w4 w5 n g bd,kH w6 [w7,w8] [w9,wa] m g1 g2].map Pc.f).Nodup:=by
  show [w0,w6].Nodup;simp[F2]
 have gU:∀p∈[kN w0 w1 w4 w5 n g bd,kH w6 [w7,w8] [w9,wa] m g1 g2],p.lv=4/\pr p.f=p/\PcFit ([kN w0 w1 w4 w5 n g bd,kH w6 [w7,w8] [w9,wa] m g1 g2].map Pc.f) pr p/\NumsOf p (bD p):=fun p hp=>by
  rcases aM.mp hp with rfl | hp
  .exact⟨rfl,T.lc.e0,T.f0,by rw[Cq];exact T.n0⟩
  .rw[aN.mp hp]
   exact⟨rfl,T.lc.e1,T.f1,by rw[GO];exact T.n1⟩
 have lB:([kN w0 w1 w4 w5 n g bd,kH w6 [w7,w8] [w9,wa] m g1 g2].map Pc.most).sum<=9000:=by
  show (kN w0 w1 w4 w5 n g bd).most+((kH w6 [w7,w8] [w9,wa] m g1 g2).most+0)<=9000;omega
 refine⟨_,rfl,hd,t5,t0,wy,dl,_,_,pr,[],us,[],_,bd,rfl,T.lc,RP,ag _ _ bf,iQ _ _ NY,Pp.mono iQ,T.f0.fit,T.f0.bd,⟨T.f0.fl,(show 1<=16 by decide),by show 0+_<=9000;omega,fun w' cH=>by rw[aN.mp cH];omega,by omega,by show 0+8<=90;decide⟩,fun r dJ fC fB Hh er kh Lh Dl BC Oj=>?_,fun er Hh kh=>?_⟩
 .obtain⟨rh,nv,nU⟩:=Lh.hwy
  have bn:=qO (gs:=gsL (kN w0 w1 w4 w5 n g bd) (kH w6 [w7,w8] [w9,wa] m g1 g2)) T.f0.fit (show [(kN w0 w1 w4 w5 n g bd).wayD dS].length<=16 from (show 1<=16 by decide)) er;have bw:=bn.w;have bc:r.1.length<=(bd.map (km 4)).sum:=bn.c;have Gg:=Dl.len;refine gQ ?_;refine⟨_,rfl,rfl,_,rfl,qU ?_⟩;refine⟨_,rfl,_,rfl,lw,_,_,_,rfl,rfl,SqL.of (kh _ _ Ob Qp),rfl,sm rfl,fun te PH=>?_⟩;have ai:=je PH (.tup []);have bi:upd Hh te (.tup []) te=some (.tup []):=jd;generalize upd Hh te (.tup [])=Hi at *;refine⟨sm rfl,fun th lz=>?_⟩;have aj:=je lz (.tup [V.str w0,.str "give",.ref te]);have bj:upd Hi th (.tup [V.str w0,.str "give",.ref te]) th=some (.tup [V.str w0,.str "give",.ref te]):=jd;generalize upd Hi th (.tup [V.str w0,.str "give",.ref te])=Hj at *;refine⟨_,rfl,sm rfl,fun lg mI=>?_⟩;have ak:=je mI (.lst [ug]);have bk:upd Hj lg (.lst [ug]) lg=some (.lst [ug]):=jd;generalize upd Hj lg (.lst [ug])=Hk at *;have pJ:=ai.trans (aj.trans ak);have Oc:lg≠dl:=fun z=>by rw[z,(ai.trans aj) _ _ Lh.hdl]at mI;cases mI
  refine⟨_,rfl,dl,th,te,fB,lg,rh,w0,"give",_,[ug],[],r.2,[g],rfl,ak _ _ bj,pJ _ _ Lh.hdl,(aj.trans ak) _ _ bi,pJ _ _ nv,nU.mono pJ,bk,jV (((jR kh nR).held Pu).mono pJ),Lh.nwy,Oc,by omega,by show ([]++dJ).length+r.2.length * 1<=9000;rw[sZ];omega,fun cj bZ Hl kl hml Iv ndl Oi=>?_⟩;have xo:KB dl Hg Hl:=fun b o hb e=>kl b o hb (pJ _ _ (kh b o hb e))
  have tkl:=jR xo nR;have uZ:dl ∉ fC:=fun z=>by have:=Oj _ z;rw[nR]at this;cases this
  have xL:dl ∉ bZ:=fun z=>by have:=Oi _ z;rw[pJ _ _ Lh.hdl]at this;cases this
  have Dm:=DutsAt.app (DutsAt.keep (fun b o hb e=>kl b o hb (pJ _ _ e)) Lh.hdl Dl uZ) Iv;have nG:dl ∉ fC++bZ:=fun z=>(aT.mp z).elim uZ xL
  have ldA:=Dm.len;have lA:(r.1++ki w0 "give" [] r.2 [g]).length<=8900:=by
   rw[aG,kZ];show _+r.2.length * 1<=8900;omega
  have hok:∀d∈r.1++ki w0 "give" [] r.2 [g],ZU d:=jgA _ pr dS (jhq (g:=g) (n:=n) er);have HH:=jhV Cq GO (jhq (g:=g) (n:=n) er) Gp;rw[sZ]at hml;generalize r.1++ki w0 "give" [] r.2 [g]=dsA at *;generalize dJ++cj=msA at *;generalize fC++bZ=wlsA at *;obtain⟨ao,S1,S0,IS,IT,S3,Np,Fe,vb1,rfl,nS,hap1,har1,HY,P_,x_,Hy,hab1,hbd1⟩:=zy B3;have nS:Hg ao=some (.tup [.str "proc",.str w6,.ref S1,.ref S0,.ref IS,.ref IT,.ref S3]):=nS;obtain⟨vm,vmr,rfl,Pk,Pj⟩:=ji (show HeldL Hg (m.toD :: []) Np from P_)
  cases jK Pj
  have B0:=Hy.length;have B0:2=Fe.length:=B0;have nt:∀{b:aa} {ys:List V},Hg b=some (.tup ys)->b≠dl:=fun e=>qd e nR
  have RG:=xo _ _ (nt nS) nS;refine⟨_,rfl,ao,_,_,_,rfl,rfl,SqT.of RG,rfl,IT,rfl,⟨_,SqT.of (xo _ _ (nt x_) x_)⟩,?_⟩;refine qV (b:=true) (xs:=Fe) (fun i σ G=>∃wH wG aK aD,σ=[some (.ref a),some (.ref lw),some (.ref fr),some (.ref na),some (.ref ra),some (.int (c0 % 25)),some (.ref ca),some (.ref bl),some un,some ug,some (.ref tp),some (.ref ao),some (.ref l4),some (.ref wl),some (.ref dl),some (.ref fB),wH,wG]/\KB dl Hg G/\G dl=some (.lst aK)/\DutsAt G (dsA++ya w6 "give" [] [qc "out",jG m] ([g1,g2].take i)) aK aD/\dl ∉ aD) ⟨none,none,msA,wlsA,rfl,xo,hml,by rw[eX,show ya w6 "give" [] [qc "out",jG m] []=[] from rfl,cv];exact Dm,nG⟩ ?_ ?_ ?_
  .rintro i σ G _ ⟨wH,wG,aK,aD,rfl,kG,_⟩
   exact SqT.of (kG _ _ (nt x_) x_)
  .clear hml Dm nG Iv Dl
   rintro i y σ G t hy ⟨wH,wG,aK,aD,rfl,kG,hG,hD,Cp⟩ ht;have hi:i < [g1,g2].length:=by
    have:=(bN.mp hy).1;show i < 2;omega
   obtain⟨y',ck,iu⟩:=Hy.get (show ([g1,g2].map Cl.toD)[i]?=some [g1,g2][i].toD by rw[bF,aI hi];rfl);rw[hy]at ck
   cases ck
   have QH:=hD.len;have hlm:(ya w6 "give" [] [qc "out",jG m] ([g1,g2].take i)).length<=2:=by rw[jao,bK];exact Wb _ _
   rw[aG]at QH;rw[JO w6 "give" [] [qc "out",jG m] hi,<- dH];generalize [g1,g2][i]=gi at *;generalize dsA++ya w6 "give" [] [qc "out",jG m] ([g1,g2].take i)=dsB at *;have x1:=je ht (.tup [V.int i,y]);have y1:upd G t (.tup [V.int i,y]) t=some (.tup [V.int i,y]):=jd;generalize upd G t (.tup [V.int i,y])=G1 at *;refine⟨t,_,rfl,SqT.of y1,rfl,_,_,rfl,_,_,rfl,rfl,?_⟩;refine jP (σ':=[some (.ref a),some (.ref lw),some (.ref fr),some (.ref na),some (.ref ra),some (.int (c0 % 25)),some (.ref ca),some (.ref bl),some un,some ug,some (.ref tp),some (.ref ao),some (.ref l4),some (.ref wl),some (.ref dl),some (.ref fB),some (.int i),some y]) rfl ?_;have k1:KB dl Hg G1:=fun b o hb e=>x1 _ _ (kG b o hb e)
   refine⟨_,rfl,.inl ⟨rfl,_,SqL.of (x1 _ _ hG)⟩,_,rfl,ao,_,_,_,rfl,rfl,SqT.of (k1 _ _ (nt nS) nS),rfl,sm rfl,fun tx PC=>?_⟩;have x2:=je PC (.tup []);have y2:upd G1 tx (.tup []) tx=some (.tup []):=jd;generalize upd G1 tx (.tup [])=G2 at *;refine⟨_,rfl,sm rfl,fun t1 bS=>?_⟩;have x3:=je bS (.tup [V.str "is",.str ""]);have y3:upd G2 t1 (.tup [V.str "is",.str ""]) t1=some (.tup [V.str "is",.str ""]):=jd;generalize upd G2 t1 (.tup [V.str "is",.str ""])=G3 at *;refine⟨sm rfl,fun t2 dq=>?_⟩;have x4:=je dq (.tup [V.str "set",.str "out",.ref t1,.int 0]);have y4:upd G3 t2 (.tup [V.str "set",.str "out",.ref t1,.int 0]) t2=some (.tup [V.str "set",.str "out",.ref t1,.int 0]):=jd;generalize upd G3 t2 (.tup [V.str "set",.str "out",.ref t1,.int 0])=G4 at *;have ie:=x1.trans (x2.trans (x3.trans x4));have k4:KB dl Hg G4:=fun b o hb e=>ie _ _ (kG b o hb e)
   refine⟨_,rfl,ao,_,_,_,rfl,rfl,SqT.of (k4 _ _ (nt nS) nS),rfl,IS,_,_,_,rfl,rfl,SqT.of (k4 _ _ (nt HY) HY),rfl,sm rfl,fun t3 eJ=>?_⟩;have x5:=je eJ (.tup [V.str "know",vm]);have y5:upd G4 t3 (.tup [V.str "know",vm]) t3=some (.tup [V.str "know",vm]):=jd;generalize upd G4 t3 (.tup [V.str "know",vm])=G5 at *;refine⟨sm rfl,fun l4 dy=>?_⟩;have x6:=je dy (.lst [V.ref t2,.ref t3]);have y6:upd G5 l4 (.lst [V.ref t2,.ref t3]) l4=some (.lst [V.ref t2,.ref t3]):=jd;generalize upd G5 l4 (.lst [V.ref t2,.ref t3])=G6 at *;refine⟨_,rfl,sm rfl,fun rm iA=>?_⟩;have x7:=je iA (.tup [V.str w6,.str "give",.ref tx,.int i,.ref l4,y]);have y7:upd G6 rm (.tup [V.str w6,.str "give",.ref tx,.int i,.ref l4,y]) rm=some (.tup [V.str w6,.str "give",.ref tx,.int i,.ref l4,y]):=jd;generalize upd G6 rm (.tup [V.str w6,.str "give",.ref tx,.int i,.ref l4,y])=G7 at *;have wE:=x5.trans (x6.trans x7);have A2:=ie.trans wE;have pG:=A2 _ _ hG;have w_:l4≠dl:=fun z=>by rw[z,(ie.trans x5) _ _ hG]at dy;cases dy
   have kk:KB dl Hg G7:=fun b o hb e=>A2 _ _ (kG b o hb e)
   have Fi:=jR kk nR;have k8:KB dl G7 (upd G7 dl (.lst (aK++[.ref rm]))):=fun b o hb e=>by rw[jw hb];exact e
   refine⟨dl,_,_,rfl,rfl,pG,Zd (by omega),some (.int i),some y,aK++[.ref rm],aD++[l4],rfl,fun b o hb e=>k8 b o hb (kk b o hb e),jd,DutsAt.app (DutsAt.keep (fun b o hb e=>k8 b o hb (A2 _ _ e)) hG hD Cp) ⟨DuAt.keep k8 pG ?_ w_,trivial⟩,?_⟩
   .refine⟨rm,tx,[V.ref t2,.ref t3],y,rfl,y7,(x3.trans (x4.trans wE)) _ _ y2,x7 _ _ y6,jb (jo (wE _ _ y4) (jb jl (jb jl (jb (jo ((x4.trans wE) _ _ y3) (jb jl (jb jl jj))) (jb jX jj))))) (jb (jo ((x6.trans x7) _ _ y5) (jb jl (jb (Fi.held Pk) jj))) jj),Fi.held iu⟩
   .intro z
    rcases aT.mp z with z | z
    .exact Cp z
    .exact w_ (aN.mp z).symm
  rintro σ G ⟨wH,wG,aK,aD,rfl,kG,hG,hD,Cp⟩;rw[<- B0]at hD;have hD:DutsAt G (dsA++ya w6 "give" [] [qc "out",jG m] [g1,g2]) aK aD:=hD;refine⟨_,rfl,_,rfl,sm rfl,fun tq B9=>?_⟩;have xq:=je B9 (.tup [V.ref tp,.ref ao]);have yq:upd G tq (.tup [V.ref tp,.ref ao]) tq=some (.tup [V.ref tp,.ref ao]):=jd;generalize upd G tq (.tup [V.ref tp,.ref ao])=Gq at *;have tS:=jR kG nR;refine⟨_,rfl,tq,_,[kN w0 w1 w4 w5 n g bd,kH w6 [w7,w8] [w9,wa] m g1 g2],pr,bD,rfl,yq,jb ((tS.held Ib).mono xq) (jb ((tS.held B3).mono xq) jj),cf rfl,xI,gU,lB,fun ml ms oI ds H' ed s' n' e' D' uq new' N9=>?_,fun ed=>?_⟩
  .rw[HH]at ed
   cases ed
   refine⟨_,rfl,ml,dl,_,_,rfl,rfl,SqL.of e',SqL.of (s' _ _ (xq _ _ hG)),YT (fun d hd=>?_) D' (hD.mono (xq.trans s')),q _⟩;rcases aT.mp hd with hd | hd
   .exact hok d hd
   .obtain⟨c,_,rfl⟩:=ci.mp hd
    exact fun x hx=>jbH (kH w6 [w7,w8] [w9,wa] m g1 g2) gg _ (aN.mpr rfl) x (by rw[Gp];exact hx)
  .rw[HH]at ed
   cases ed
 .refine gQ ?_
  refine⟨_,rfl,rfl,_,rfl,qB ?_⟩;refine⟨_,rfl,_,rfl,sm rfl,fun tq B9=>?_⟩;have xq:=je B9 (.tup [V.ref tp,uo]);have yq:upd Hh tq (.tup [V.ref tp,uo]) tq=some (.tup [V.ref tp,uo]):=jd;generalize upd Hh tq (.tup [V.ref tp,uo])=Gq at *;have tS:=jR kh nR;refine⟨_,rfl,tq,_,[kN w0 w1 w4 w5 n g bd,kH w6 [w7,w8] [w9,wa] m g1 g2],pr,bD,rfl,yq,jb ((tS.held Ib).mono xq) (jb ((tS.held B3).mono xq) jj),cf rfl,xI,gU,lB,fun ml ms oI ds H' ed=>?_,fun ed H' s'=>⟨rfl,fun e he=>⟨true,true,rfl,rfl,q _⟩⟩⟩;rw[jhW Cq er]at ed
  cases ed
end
section
variable {P:aF}
theorem jd9(F:Fun K "_law_used" "_law_used" YC f fd):FnOk P w K mg base CX0 1 f fd ["_law_thing","_law_nums"] (spUsed 0):=by
 have sc:FnScope ["_law_thing","_law_nums","_law_found","_law_one"] ["_law_thing","_law_nums"] (jp YC):=fQ;refine F.okZ sc (fun aH A outer s H vs Q E hr h=>?_);obtain⟨a,b,us,ds,xs,rfl,ha,nQ,DE,_⟩:=h;exact DE.elim
theorem Kv{f1:aa}{fU:aO}(B:Free0 mg)(U1:Fun K "_law_used" "_law_used" YC f1 fU)(b1:Binds K fU ["_law_thing","_law_nums"] [])(m1:mg "_law_used" = some (.ref f1)):∀n,Fn P w K mg base (n+1) "_law_used" ["_law_thing","_law_nums"] (spUsed n)
 | 0=>Fn.mk' U1 b1 m1 (jd9 U1)
 | n+1=>Fn.mk' U1 b1 m1 (jfm U1 B (Kv B U1 b1 m1 n))
theorem J8{f1:aa}{fU:aO}(B:Free0 mg)(U1:Fun K "_law_body" "_law_body" Ja f1 fU)(b1:Binds K fU ["_law_cells","_law_f","_law_nums","_law_free","_law_rows","_law_deep"] [])(m1:mg "_law_body" = some (.ref f1))(eC:Fn P w K mg base 1 "_law_far" ["_law_cell_here"] Yy)(gy:Fn P w K mg base 3 "_law_term" ["_law_cell_here","_law_nums","_law_rows"] spTermL)(dU:Fn P w K mg base 4 "_law_claim" ["_law_cell_here","_law_nums","_law_rows"] spClaimL)(sy:Fn P w K mg base 5 "_law_plain" ["_law_cell_here","_law_f","_law_nums","_law_free","_law_rows"] spPlain):∀n,Fn P w K mg base (n+6) "_law_body" ["_law_cells","_law_f","_law_nums","_law_free","_law_rows","_law_deep"] (Jo n)
 | 0=>Fn.mk' U1 b1 m1 (jcO U1)
 | n+1=>Fn.mk' U1 b1 m1 (jen U1 B eC gy dU sy (J8 B U1 b1 m1 eC gy dU sy n))
end
variable {P:List ac->Prop}
theorem el0(h:P []):∀us:List ac,us.length=0->P us
 | [],_=>h
theorem el1(h:∀a0,P [a0]):∀us:List ac,us.length=1->P us
 | a :: v,e=>el0 (P:=fun v=>P (a :: v)) (h a) v (wn e)
theorem el2(h:∀a0 a1,P [a0,a1]):∀us:List ac,us.length=2->P us
 | a :: v,e=>el1 (P:=fun v=>P (a :: v)) (h a) v (wn e)
theorem el3(h:∀a0 a1 a2,P [a0,a1,a2]):∀us:List ac,us.length=3->P us
 | a :: v,e=>el2 (P:=fun v=>P (a :: v)) (h a) v (wn e)
theorem el4(h:∀a0 a1 a2 a3,P [a0,a1,a2,a3]):∀us:List ac,us.length=4->P us
 | a :: v,e=>el3 (P:=fun v=>P (a :: v)) (h a) v (wn e)
theorem el5(h:∀a0 a1 a2 a3 a4,P [a0,a1,a2,a3,a4]):∀us:List ac,us.length=5->P us
 | a :: v,e=>el4 (P:=fun v=>P (a :: v)) (h a) v (wn e)
theorem el6(h:∀a0 a1 a2 a3 a4 a5,P [a0,a1,a2,a3,a4,a5]):∀us:List ac,us.length=6->P us
 | a :: v,e=>el5 (P:=fun v=>P (a :: v)) (h a) v (wn e)
abbrev LkF(K:aC)(f:aa)(x n:Str)(st:aJ)(oc:ac)(od:Option aa)(kV dc pm:ac)(an:Option aa)(cd ct:ac)(sl:Array (Option ac)):Prop:=K.lookup f=some ⟨oc,od,.func (mY x n (zI st) (qA st) (jp st) .none kV dc pm an cd ct),sl⟩
structure DefK(K:aC)(f:aa)(fd:aO)(x:Str)(st:aJ):Prop where
 a:cQ K bU x=some (some (.ref f))
 u:Fun K x x st f fd
theorem DefK.m{x:Str}{st:aJ}{oc kV dc pm cd ct:ac}{od an:Option aa}{sl:Array (Option ac)}(a:cQ K bU x=some (some (.ref f)))(l:LkF K f x x st oc od kV dc pm an cd ct sl)(c:pV K cd x=true)(k:mW K (.ref f)=true):DefK K f (mY x x (zI st) (qA st) (jp st) .none kV dc pm an cd ct) x st:=⟨a,jbs l c k⟩
theorem mk2{P:aF}{w:aE}{K:aC}{mg:Str->Option ac}{base h:aB}(X:K.In h)(G:h.Ns bU mg){k:Nat}{x:Str}{st:aJ}{f:aa}{fd:aO}{ps:List Str}{sp:Sp}(a:DefK K f fd x st)(ok:FnOk P w K mg base CX0 k f fd ps sp)(b:∀(kV di pm:ac) (an:Option aa) (aH ct:ac) (us:List ac),us.length=ps.length->bindArgs (mY x x (zI st) (qA st) (jp st) .none kV di pm an aH ct) ⟨us,[]⟩=pure (ps.zip us):=by exact fun _ _ _ _ _ _=>by first | exact el0 rfl | exact el1 fun _=>rfl | exact el2 fun _ _=>rfl | exact el3 fun _ _ _=>rfl | exact el4 fun _ _ _ _=>rfl | exact el5 fun _ _ _ _ _=>rfl | exact el6 fun _ _ _ _ _ _=>rfl ):Fn P w K mg base k x ps sp:=Fn.mk' a.u (a.u.binds b) (cZ X G a.a) ok
set_option autoImplicit true in
theorem all_mk{l:Mn}{w:aE}{K:aC}{h:aB}{mg:Str->Option ac}{fa:aa}(X:K.In h)(G:h.Ns bU mg)(rR:mg "law" = some (.ref fa))
  (a0:DefK K f0 d0 "term_numbers" zM)
  (a1:DefK K f1 d1 "claim_numbers" zx)
  (a2:DefK K f2 d2 "claims_numbers" ze)
  (a3:DefK K f3 d3 "own_claims" yr)
  (a4:DefK K f4 d4 "numbers_named" zw)
  (a5:DefK K f5 d5 "bodies_of" Jb)
  (a6:DefK K f6 d6 "all_statements" kJ)
  (a7:DefK K f7 d7 "numbers_of" zG)
  (a8:DefK K f8 d8 "set_to_nought" zv)
  (a9:DefK K f9 d9 "known" yY)
  (Lo:DefK K f10 d10 "first_way" zX)
  (su:DefK K f11 d11 "meet" jdK)
  (Ln:DefK K f12 d12 "behind_each" zi)
  (Lm:DefK K f13 d13 "name_said" yX)
  (Ll:DefK K f14 d14 "place_said" yo)
  (Lk:DefK K f15 d15 "term_said" yW)
  (sr:DefK K f16 nZ "said" jdI)
  (Lj:DefK K f17 d17 "walk_call" qR)
  (Li:DefK K f18 d18 "turned" Zf)
  (DS:DefK K f19 d19 "walk_if" Jp)
  (DR:DefK K f20 d20 "walk_while" zF)
  (DQ:DefK K f21 d21 "walk_statement" qz)
  (DP:DefK K f22 d22 "walk_body" qS)
  (Ak:DefK K f23 d23 "duties_of" yZ)
  (Lg:DefK K f24 d24 "procs_by_name" qM)
  (Aj:DefK K f25 d25 "duties" Zh)
  (Lf:DefK K f26 d26 "_law_cell" jdL)
  (Le:DefK K f27 d27 "_law_word" jdG)
  (Ld:DefK K f28 d28 "_law_words" ja1)
  (Lc:DefK K f29 d29 "_law_far" jf8)
  (Lb:DefK K f30 d30 "_law_place" ja3)
  (K_:DefK K f31 d31 "_law_term" jdH)
  (J_:DefK K f32 d32 "_law_claim" ja6)
  (DO:DefK K f33 d33 "_law_used" YC)
  (I_:DefK K f34 d34 "_law_order" ja4)
  (I0:DefK K f35 d35 "_law_plain" ja2)
  (DN:DefK K f36 d36 "_law_body" Ja)
  (IZ:DefK K f37 d37 "_law_turned" KH)
  (sq:DefK K f38 d38 "_law_note" jdJ)
  (IY:DefK K f39 d39 "_law_behind" jbO)
  (IX:DefK K f40 d40 "_law_named" ja5)
  (sk:DefK K f41 d41 "_law_said" KI)
  (IW:DefK K f42 d42 "_law_call" yt)
  (DM:DefK K f43 d43 "_law_if" jfb)
  (DL:DefK K f44 d44 "_law_loop" KJ)
  (DK:DefK K f45 d45 "_law_walk" JM)
  (IV:DefK K f46 d46 "_law_asked" ja7)
  (IU:DefK K f47 d47 "_law_other" Zg)
  (S7:cQ K bU "law" = some (some (.ref f48)))
  (OT:LkF K f48 "law" "law" Yi oc48 od48 kV48 dc48 pm48 an48 cd48 ct48 sl48) (SC:pV K cd48 "law" = true) (OZ:mW K (.ref f48)=true)
  (S5:cQ K bU "Walk" = some (some (.ref C0))) (S6:fk K (.ref C0) "__init__" = some (some (.ref f49))) (O2:W.isFn K (.ref f49)=true)
  (OS:LkF K f49 "__init__" "Walk.__init__" qZ oc49 od49 kV49 dc49 pm49 an49 cd49 ct49 sl49) (SA:pV K cd49 "Walk.__init__" = true) (OY:mW K (.ref f49)=true)
  (N0:W.plainGet K C0 sS=true) (Ro:W.hasDictIn K C0=true) (NZ:W.plainOver K C0=true) (ND:fk K (.ref C0) "__setattr__" = some (some (.builtin "object.__setattr__"))) (OG:W.makesIn K C0=true) (OW:mW K (.ref C0)=true)
  (OE:fk K (.ref C0) "f" = some none)
  (OD:fk K (.ref C0) "procs" = some none)
  (OC:fk K (.ref C0) "met" = some none)
  {Fj:Tok} {CT CO CN:aa} (Sn:cQ K bU "MOST_WAYS" = some (some (.int 16 Fj))) (So:cQ K bU "TooMany" = some (some (.ref CT))) (Sq:cQ K bU "OutlineError" = some (some (.ref CO))) (Sr:cQ K bU "NoCount" = some (some (.ref CN))) (Fb:pU K CT valB "ValueError.__new__" = true) (y1:W.isClsIn K CT=true) (y2:fk K (.ref CT) "__getattribute__" = some (some (.builtin "BaseException.__getattribute__"))) (y3:fk K (.ref CT) "__getattr__" = some none) (y4:fk K (.ref CT) "__class__" = some (some (.builtin "object.__class__"))) (y5:W.mroIn K CT (.type "object")=some true) (y6:W.mroIn K CT (.type "BaseException")=some true) (t2:iU K (.ref CT) (.ref CO)=some true) (t4:iU K (.ref CT) (.ref CN)=some false)
  (z0:cQ K bU "len" = some none) (z1:cQ K bU "max" = some none) (z2:cQ K bU "min" = some none) (z3:cQ K bU "all" = some none) (z4:cQ K bU "isinstance" = some none) (z5:cQ K bU "abs" = some none) (z6:cQ K bU "sorted" = some none) (z7:cQ K bU "int" = some none) (z8:cQ K bU "str" = some none) (z9:cQ K bU "bool" = some none) (mh:cQ K bU "tuple" = some none) (nb:cQ K bU "list" = some none) (rg:cQ K bU "dict" = some none) (rf:cQ K bU "range" = some none) (tJ:cQ K bU "set" = some none) (Nf:cQ K bU "enumerate" = some none) (ic:cQ K bU "zip" = some none) :
  ∃fd:aO,(∀(s:av) (v:ac),wm s fd ⟨[v],[]⟩ [("_law_script",v)])/\∀base:aB,K.In base->base.Ns bU mg->FnOk l.prog w K mg base CX0 23 fa fd ["_law_script"] (spLaw K):=by
 have e:=rR.symm.trans (cZ X G S7)
 cases e
 have B:Free0 mg:=⟨eV X G z0,eV X G z1,eV X G z2,eV X G z3,eV X G z4,eV X G z5,eV X G z6,eV X G z7,eV X G z8,eV X G z9,eV X G mh,eV X G nb,eV X G rg,eV X G rf,eV X G tJ⟩
 have cx:mg "enumerate" = none:=eV X G Nf
 have n8:mg "zip" = none:=eV X G ic
 have lP:mg "MOST_WAYS" = some (.int 16 Fj):=cZ X G Sn
 have pK:mg "TooMany" = some (.ref CT):=cZ X G So
 have Td:mg "OutlineError" = some (.ref CO):=cZ X G Sq
 have Te:mg "NoCount" = some (.ref CN):=cZ X G Sr
 have b6:=a6.u.binds (ps:=["body"]) fun _ _ _ _ _ _=>el1 (fun _=>rfl)
 have b9:=a9.u.binds (ps:=["claims"]) fun _ _ _ _ _ _=>el1 (fun _=>rfl)
 have SX:=su.u.binds (ps:=["walk","kind","path","ways","claims"]) fun _ _ _ _ _ _=>el5 (fun _ _ _ _ _=>rfl)
 have SW:=DS.u.binds (ps:=["walk","statement","ways","path"]) fun _ _ _ _ _ _=>el4 (fun _ _ _ _=>rfl)
 have SV:=DR.u.binds (ps:=["walk","statement","ways","path"]) fun _ _ _ _ _ _=>el4 (fun _ _ _ _=>rfl)
 have SU:=DQ.u.binds (ps:=["walk","statement","ways","path"]) fun _ _ _ _ _ _=>el4 (fun _ _ _ _=>rfl)
 have SS:=DP.u.binds (ps:=["walk","body","ways","around"]) fun _ _ _ _ _ _=>el4 (fun _ _ _ _=>rfl)
 have SR:=Ak.u.binds (ps:=["proc","procs"]) fun _ _ _ _ _ _=>el2 (fun _ _=>rfl)
 have SQ:=Aj.u.binds (ps:=["program"]) fun _ _ _ _ _ _=>el1 (fun _=>rfl)
 have SN:=DO.u.binds (ps:=["_law_thing","_law_nums"]) fun _ _ _ _ _ _=>el2 (fun _ _=>rfl)
 have SM:=DN.u.binds (ps:=["_law_cells","_law_f","_law_nums","_law_free","_law_rows","_law_deep"]) fun _ _ _ _ _ _=>el6 (fun _ _ _ _ _ _=>rfl)
 have SK:=sq.u.binds (ps:=["_law_due","_law_head","_law_claims","_law_ways"]) fun _ _ _ _ _ _=>el4 (fun _ _ _ _=>rfl)
 have SJ:=sk.u.binds (ps:=["_law_thing","_law_names"]) fun _ _ _ _ _ _=>el2 (fun _ _=>rfl)
 have SI:=DM.u.binds (ps:=["_law_heads","_law_statement","_law_at","_law_ways","_law_due"]) fun _ _ _ _ _ _=>el5 (fun _ _ _ _ _=>rfl)
 have SH:=DL.u.binds (ps:=["_law_heads","_law_statement","_law_at","_law_ways","_law_due"]) fun _ _ _ _ _ _=>el5 (fun _ _ _ _ _=>rfl)
 have SG:=DK.u.binds (ps:=["_law_heads","_law_body_here","_law_before","_law_ways","_law_due"]) fun _ _ _ _ _ _=>el5 (fun _ _ _ _ _=>rfl)
 have S9:=jbs (st:=Yi) OT SC OZ
 have Lp:=jbs (st:=qZ) OS SA OY
 have SF:=Lp.binds (ps:=["self","f","procs"]) fun _ _ _ _ _ _=>el3 (fun _ _ _=>rfl)
 have sw:ClsW K C0:=⟨⟨N0,Ro,NZ,ND⟩,OE,OD,OC⟩
 refine⟨mY "law" "law" (zI Yi) (qA Yi) (jp Yi) .none kV48 dc48 pm48 an48 cd48 ct48,fun s v=>.of_eq rfl,fun base _ _=>?_⟩
 have MK:=@mk2 l.prog w K mg base h X G
 have og:=MK a0 (jea a0.u)
 have Eb:=MK a1 (jcM a1.u og)
 have sA:=MK a2 (jbg a2.u Eb)
 have D5:=MK a3 (jgi a3.u)
 have D8:=MK a4 (jei a4.u B og sA D5)
 have sC:=MK a5 (jcP a5.u)
 have vW:=Y3 (P:=l.prog) (w:=w) (base:=base) a6.u b6 (cZ X G a6.a) sC 4
 have D7:=MK a7 (Zq (n:=4) a7.u B sA vW D8)
 have D3:=MK a8 (jcJ a8.u)
 have eT:=MK a9 (jek a9.u)
 have D9:=MK Lo (jel (n:=4) Lo.u D7 D3 eT)
 have fh:=MK su (jal true sw su.u B cx)
 have fW:=MK Ln (jcQ Ln.u)
 have iT:=MK Lm (Zr Lm.u)
 have pM:=MK Ll (Yl Ll.u iT)
 have Ar:=MK Lk (Zp Lk.u iT pM)
 have iS:=MK sr (jfo sr.u iT pM Ar)
 have sx:=MK Lj (jd8 sw Lj.u B n8 (Fn.mk' su.u SX (cZ X G su.a) (jal false sw su.u B cx)) fW iS (Fn.mk' a9.u b9 (cZ X G a9.a) (YF a9.u)))
 have eB:=MK Li (jcH Li.u)
 have n9:=Ku (P:=l.prog) (w:=w) (base:=base) DP.u SS (cZ X G DP.a) DQ.u SU (cZ X G DQ.a) DS.u SW (cZ X G DS.a) DR.u SV (cZ X G DR.a) sw B cx lP pK Fb fh fW sx eT (Fn.mk' a9.u b9 (cZ X G a9.a) (YF (P:=l.prog) (w:=w) (base:=base) a9.u)) eB 4
 have DY:MkFn l.prog w K mg base _ "Walk" C0 _ _:=⟨f49,_,⟨OG,S6,O2,OW⟩,jfl (P:=l.prog) (w:=w) (base:=base) sw Lp,SF,cZ X G S5⟩
 have D_:=FnX.mk' Ak.u SR (cZ X G Ak.a) (jam (n:=4) (P:=l.prog) (w:=w) (base:=base) sw Ak.u DY D9 n9 fh)
 have D4:=MK Lg (jee Lg.u)
 have Ea:=FnX.mk' Aj.u SQ (cZ X G Aj.a) (jcL (n:=4) (P:=l.prog) (w:=w) (base:=base) Aj.u D4 D_)
 have fV:=MK Lf (jfp Lf.u B)
 have Aq:=MK Le (jfk Le.u B)
 have D0:=MK Ld (jd5 Ld.u B fV Aq)
 have eC:=MK Lc (jgl Lc.u)
 have lQ:=MK Lb (jcI Lb.u B eC)
 have gy:=MK K_ (jeb K_.u B lQ)
 have dU:=MK J_ (jcN J_.u B eC lQ gy)
 have vV:=Kv (P:=l.prog) (w:=w) (base:=base) B DO.u SN (cZ X G DO.a) 14
 have As:=MK I_ (jeh I_.u B)
 have sy:=MK I0 (jef I0.u B eC lQ gy dU As)
 have pN:=J8 (P:=l.prog) (w:=w) (base:=base) B DN.u SM (cZ X G DN.a) eC gy dU sy 4
 have Tj:=MK IZ (jbf IZ.u)
 have fg:=MK sq (jak false sq.u B cx)
 have gz:=MK IY (jfr IY.u)
 have eR:=MK IX (jcK IX.u)
 have Tk:=MK sk (jed sk.u eR (Fn.mk' sk.u SJ (cZ X G sk.a) (jec sk.u eR)))
 have sB:=MK IW (jem IW.u B n8 gz fg Tk)
 have n_:=J0 (P:=l.prog) (w:=w) (base:=base) DK.u SG (cZ X G DK.a) DM.u SI (cZ X G DM.a) DL.u SH (cZ X G DL.a) B cx (Fn.mk' sq.u SK (cZ X G sq.a) (jak true (P:=l.prog) (w:=w) (base:=base) sq.u B cx)) fg sB gz Tj 4
 have Au:=MK IV (jep (n:=4) IV.u B pK Td Te Fb ⟨y1,y2,y3,y4,y5,y6⟩ t2 t4 Ea)
 have D6:=MK IU (jeg IU.u B fV dU)
 exact jgj S9 B cx fV D0 dU pN D6 vV n_ fg Au
theorem walk{l:Mn}{q:aF}{rD:List Str}{XP:(Str->Option ac)->aB->Prop}{YP:aE->aB->Prop}{d:DefRec}{K:Params->aC}(hn:l.most=some 63)(vk:d.params.defaults=[])
  (hY:∀(w:aE) (h:aB),YP w h->(K w.params).In h)
  (F:∀(w:aE) (mg:Str->Option ac) (fa:aa) (h:aB),(K w.params).In h->h.Ns bU mg->mg d.name=some (.ref fa)->
   ∃fd:aO,(∀(s:av) (u:ac),wm s fd ⟨[u],[]⟩ [("_law_script",u)])/\∀base:aB,(K w.params).In base->base.Ns bU mg->FnOk l.prog w (K w.params) mg base CX0 23 fa fd ["_law_script"] (spLaw (K w.params))) :
  UV q rD XP YP l.row.toRowW d [] (fun f vs=>Mb f vs):=
 L2.walk_of (n:=63) (k:=23) (x:="_law_script") (CX:=fun _=>CX0) (sp:=fun w=>spLaw (K w.params)) hn (by decide) vk ⟨rfl,by decide,by decide,rfl⟩ hY F (fun _ _ a ns hl _ hS=>⟨a,ns,rfl,hS,hl,fun _=>rfl⟩) fun _ _ _ _ _ z=>z
end LW
namespace PySem.W.Fast
def tw10151653151802129557:=()
def tw1019049396794602681:=()
def tw10446861637172408516:=()
def tw10516472595650423498:=()
def tw10588466117387763103:=()
def tw10646943278040313245:=()
def tw10774954625595414251:=()
def tw10907816054181957905:=()
def tw10975519058641537195:=()
def tw10990367925197472909:=()
def tw11080035976172595926:=()
def tw11110153878014718708:=()
def tw11170627410183357580:=()
def tw11423805676291624396:=()
def tw11439170769007289973:=()
def tw11476388304106782430:=()
def tw11524015042539986985:=()
def tw11699380709903383851:=()
def tw11820515064310922240:=()
def tw11939896819785281045:=()
def tw12227839852347395919:=()
def tw12239428404862559022:=()
def tw12430151932250082408:=()
def tw12533835724498859031:=()
def tw12570349006146275638:=()
def tw12795224941976660243:=()
def tw12930080607280662272:=()
def tw13154953339509355927:=()
def tw13321645311216777227:=()
def tw13329068768471076492:=()
def tw13336317585837272559:=()
def tw13556451380320637638:=()
def tw13711748728832476642:=()
def tw13716234242058827729:=()
def tw13726064821599271660:=()
def tw13753442277434899431:=()
def tw13790579856290902301:=()
def tw13853527200704904500:=()
def tw13898707607147796401:=()
def tw1420699087358902145:=()
def tw14249639036122465118:=()
def tw14330693682499218101:=()
def tw14332403392330779405:=()
def tw14386221105817552851:=()
def tw14436594482303905703:=()
def tw14485046289978140641:=()
def tw14768386948548090412:=()
def tw14874192565428241538:=()
def tw15051784989324646953:=()
def tw15142299770473865617:=()
def tw15268884797274944990:=()
def tw15322214585181486401:=()
def tw15453279949362669299:=()
def tw15525203420828672845:=()
def tw15533416169336728337:=()
def tw15657037267255874932:=()
def tw15672677933656583507:=()
def tw15703756346292355973:=()
def tw16011926991298310480:=()
def tw16047322803055612468:=()
def tw16135392640261879547:=()
def tw16143039969693473773:=()
def tw16445869991623622492:=()
def tw16446212965654901905:=()
def tw16453433948756411614:=()
def tw16482035902113097297:=()
def tw16562116961626193336:=()
def tw16698917845654705888:=()
def tw16802699203134996199:=()
def tw16911304310698236379:=()
def tw16937779754711292796:=()
def tw1709066012151136394:=()
def tw17205773927473557945:=()
def tw1732764188253323875:=()
def tw1742365105719500110:=()
def tw17569404809143717920:=()
def tw17714228349643553329:=()
def tw17718077790859096502:=()
def tw17792242189191448000:=()
def tw17866642459261536646:=()
def tw17986244869766442342:=()
def tw18411806851239573367:=()
def tw1852594840960922536:=()
def tw2024795758216542711:=()
def tw2291031045643671454:=()
def tw233394725656235767:=()
def tw2696880990191662335:=()
def tw2708950664782999205:=()
def tw2967989262337398388:=()
def tw3095577786537906018:=()
def tw3142567824888701986:=()
def tw3364073410141019732:=()
def tw3530427395200665994:=()
def tw3540224801773095005:=()
def tw3917270460448048611:=()
def tw3984904227886826419:=()
def tw4058122102337819670:=()
def tw4178031068410939818:=()
def tw4204395442350770409:=()
def tw4230202888483569029:=()
def tw4381567575014356397:=()
def tw4521776630876877639:=()
def tw455141228555710526:=()
def tw4697035605615890888:=()
def tw4959733807104049443:=()
def tw5010819105831841699:=()
def tw5049415478099475114:=()
def tw5098228049519657253:=()
def tw535343069072720895:=()
def tw5427090004739800804:=()
def tw5521605016591825919:=()
def tw5761960591936756351:=()
def tw5794012024005855994:=()
def tw6033088342829211646:=()
def tw6186461549685611481:=()
def tw6328965009155367624:=()
def tw6444208094321715755:=()
def tw6475629619668803282:=()
def tw6538120588186072306:=()
def tw6632005803084240716:=()
def tw6894542570813698827:=()
def tw7030724909188811407:=()
def tw7043830625545373231:=()
def tw7058773016405924143:=()
def tw7068128008979045413:=()
def tw7173594397986977074:=()
def tw7311854359202843794:=()
def tw7435373342273815224:=()
def tw7734241939030802845:=()
def tw779413729672773165:=()
def tw7794982742056194126:=()
def tw7805334378397472759:=()
def tw8021039891181221636:=()
def tw80302980153591265:=()
def tw8114749046088753046:=()
def tw8150002787754479677:=()
def tw8150742700350435791:=()
def tw8206411875736134750:=()
def tw8218294793779585255:=()
def tw8422592581026245006:=()
def tw843688635719651587:=()
def tw8546022123703470559:=()
def tw8614675629753326374:=()
def tw9194921454445272118:=()
def tw9238218258120814969:=()
def tw9354607684835747218:=()
def tw9498635181949259238:=()
def tw9536213538512608126:=()
def tw9572985622211404705:=()
def tw9848858189074021200:=()
def tw9884905113569983435:=()
def tw9906285061141485498:=()
def tw9927607765840957329:=()
end PySem.W.Fast
open PySem PySem.W PyProof.Rows
set_option maxRecDepth 100000 in
set_option maxHeartbeats 0 in
theorem PySem.Challenge.cw_outlineward_k62_duties_of_ifs_and_loops_holds : PySem.Challenge.rw_outlineward_k62_duties_of_ifs_and_loops.Holds := by
 w_on;o_law;k_head;(case hw=>w_witness2);k_fill;refine LW.walk (l:=VG) rfl rfl (fun w h Y=>W.kIn_of Y) ?F
 case F=>
  intro w mg fa h KX G u0
  refine' LW.all_mk KX G u0 ..
  all_goals try apply LW.DefK.m
  all_goals try ((try unfold LW.LkF);first | k_is | kit_is | (unfold L2.valB;k_exc) | rfl | decide +kernel)
