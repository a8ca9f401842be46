import PyProof.Rows.All
import Wide.All
import OpenK.AllK
import Wide.FinOn
import Lean
import PyProof.EqAt
import PyProof.EqKinds
import PyProof.TupleCall
import PyProof.NeKinds
import KE.KEqDict
import KE.KDictSum
import PyProof.Rows.StrMul
import PyProof.Rows.SortStr
import PyProof.Rows.SortWalk
import KE.KSortTup
import PyProof.IsiH_list
import KE.KDictOf
import KE.KItemsList
import PyProof.SetKind
import PyProof.Rows.SetFrom
import PyProof.IsRules
import PyProof.EnumStmt
import PyProof.EnumFor
import PyProof.EnumMake
import PyProof.Rows.StrJoin2
import KE.KDictList
import PyProof.ZipIter
import PyProof.DictCompW
import PyProof.DictUpdate
import PyProof.FactsAll.set_2
import KE.KSetDisp
import PyProof.Rows.SortShellK
import PyProof.TupleKey
import PyProof.ReprRoads
import PyProof.Rows.StrNews2
import PyProof.StrCalls
import PyProof.ListIndex
import PyProof.StrLawsChain
import PyProof.StrLawsOcc
import PyProof.StrLawsJoin
import KE.KDictLaws
import PySem.Challenge.RW_outlineward_k45_clauses_of_a_book
set_option Elab.async false
set_option linter.all false
set_option maxRecDepth 100000
set_option maxHeartbeats 4000000
local macro_rules | `(tactic| omega) => `(tactic| first | lia | omega +splitNatSub)
def Qt:=@of_decide_eq_true
def Qu:=@decide_eq_true
def Qv:=@decide_eq_false
def Qw:=@if_neg
def Qx:=@if_pos
def Qy:=@beq_eq_false_iff_ne
def Qz:=@congrArg
open _root_.Array renaming length_toList->dy,getElem_toList->dH,toList_append->fR,getElem?_toList->ir,getElem_extract->nD,perm_iff_toList_perm->vB,toList_reverse->BC,toList_map->BD,getElem?_eq_getElem->Gq,toList_push->Qn,toList_inj->Qo,toArray_toList->Qp,mem_toList_iff->Qq,getD->Qs
open _root_.Array.Perm renaming refl->Gr
open _root_.Bool renaming false_ne_true->c9,false_eq_true->eK,and_eq_true->i4,eq_iff_iff->nC,not_true->vA,false_or->Gk,and_false->Go,or_eq_true->Ql,not_eq_true->Qm
open _root_.Char renaming toNat->Gj
open _root_.Classical renaming choose_spec->Qk
open _root_.False renaming elim->gB
open _root_.Int renaming toNat->fP,emod_nonneg->rZ,emod_lt_of_pos->r_,toNat_natCast->Qh,lt_trans->Qi,lt_irrefl->Qj
open _root_.List renaming length_map->az,getElem?_eq_getElem->aK,mem_singleton->aN,map_cons->aU,map_append->aX,append_assoc->bh,mem_map->bq,getElem?_map->bz,mem_cons->bG,mem_append->bK,getElem?_eq_some_iff->bL,mem_cons_self->bU,length_append->bV,mem_cons_of_mem->ce,length_cons->ck,take_length->cu,length_take->cw,range->cB,cons_append->cC,mem_append_right->cN,getElem_mem->cT,size_toArray->c7,append_nil->dl,take_succ->eI,map_nil->eJ,nodup_cons->fL,map_map->fM,length_nil->fN,Nodup->fO,any_eq_true->gw,lookup_cons->gP,take_zero->io,pairwise_append->ip,mem_flatMap->iq,lookup->iZ,length_filter_le->i0,perm_append_comm->lT,nil_append->lU,mem_of_getElem?->lV,mem_filter->lW,getD_eq_getElem?_getD->lX,take_append_drop->nr,lookup_cons_self->ny,length->nA,flatMap_nil->nB,nodup_nil->oS,length_range->oT,length_drop->oU,mem_iff_getElem->rS,getElem?_append_right->rW,find?_cons->rX,pairwise_singleton->vq,nodup_append->vt,mem_append_left->vx,drop_eq_nil_of_le->vy,append_cancel_left->vz,pairwise_iff_getElem->Bu,mem_of_mem_take->Bv,map->Bw,getElem?_eq_none->Bx,getElem?_append_left->By,filter_cons->Bz,all_cons->BB,zip_cons_cons->FV,of_mem_zip->FW,not_mem_nil->FX,mem_iff_getElem?->FY,map_snd_zip->FZ,map_congr_left->F0,getElem?_drop->F3,filterMap_cons->F4,eq_nil_or_concat->F5,drop_eq_getElem_cons->F6,drop_drop->F7,concat_eq_append->F8,any_cons->F9,all_eq_true->F_,zip_nil_right->PM,zip_nil_left->PN,reverse_cons->PP,pairwise_cons->PQ,not_lt->PR,mem_range->PV,mem_of_mem_drop->PX,mem_map_of_mem->PY,mem_filterMap->PZ,getElem_take->P0,getElem_inj->P1,getElem_drop->P3,getElem?_set_self->P4,getElem?_set_ne->P5,getElem?_range->P6,foldl_cons->P7,flatMap_append->P8,filter_append->P9,ext_getElem?->P_,contains_iff_mem->Qa,Pairwise->Qe
open _root_.List.Perm renaming refl->Qb,append_left->Qc
open _root_.Nat renaming le_refl->aD,le_trans->aJ,le_of_ble_eq_true->bw,zero_le->bT,ne_of_lt->cb,le_of_lt->c6,le_succ->dw,lt_of_lt_of_le->dU,succ_le_succ->gO,ne_of_gt->lS,repr->nl,mul_le_mul_right->nn,lt_irrefl->np,le_of_eq->nq,lt_or_ge->oR,lt_succ_of_lt->rP,lt_of_le_of_lt->rQ,le_succ_of_le->rR,toList_repr->Bq,mul_le_mul_left->Bs,add_sub_cancel_left->Bt,zero_add->FO,one_mul->FP,ofDigitChars_ten_toDigits->FQ,mul_le_mul->FR,max_le->FS,lt_trans->FT,add_mul->FU,toDigits->Pt,min_eq_left->Px,lt_trichotomy->Py,lt_succ_self->Pz,le_add_right->PF,eq_zero_or_pos->PJ,add_assoc->PK
open _root_.Nat.succ renaming inj->Br
open _root_.Ne renaming symm->eG
open _root_.Option renaming isSome_iff_exists->vp,map_some->Bo,map_eq_some_iff->Bp,isSome_map->Pm,isSome->Pn,getD_none->Ps
open _root_.Option.some renaming inj->dk
open _root_.Prod.mk renaming inj->FM
open _root_.PyProof.Rows renaming SortSt->av,wpS_bind->aC,wpS_pure->aG,pendingOf->aV,seqObj->cm,envOfC->cA,wpS_mono->dj,wpS_forRange->eE,failedOf->fK,wpS_modify->gm,wpS_get->gn,SortKind->gq,gallopOf->iX,AllBare->lR,setPending->nh,pairsOf->ni,KK_congr->nj,wpS_lift->oP,reverseSlice'->vn,IntsAre->vo,wpS_reverse->Bh,size_push'->Bi,seqEpoch_at->Bj,pairsOf_toList->Bk,listUpdate_at->Bl,elem'_eq->Bm,subscriptTail->Fy,sortedHeap->Fz,slot_tuple_getitem->FA,pairsOf_size->FB,callWith_type1->FD,assignInOrder_cons->FE,Subscript_->FF,SortedToK->FH,KK_mirror_equal->FI,subscriptTail_builtinR->OX,assignInOrder_nil->Pf,KeyKind->Pl
open _root_.PyProof.Rows.IsTup renaming new->FJ
open _root_.PyProof.Rows.KeyOrd renaming kle_trans->dR,kle_of_klt->iY,kle_refl->lQ,kle_antisymm->Pj
open _root_.PyProof.Rows.SortSt renaming mk'->Bn
open _root_.PySem renaming Addr->ad,Value->ag,Shared->ai,Expr->aj,model->ao,wpAny_bind->aq,Heap->ar,wpAny->au,World->aB,Program->aE,Stmt->aF,wpAny_pure->aH,sizeLine->aI,FuncData->aL,Around->aS,mainGlobals->aT,starEach->cj,wpAny_mono->cI,Scope->cM,bootBuiltins->dE,codeAny->dP,compareOp->fe,backTo->ff,foldedSetIterable->fI,sysModules->gh,attributeBase->gj,wpAny_newObj_type->gL,sizeLine_eq->gM,NameKind->gN,pyNext->ik,assignEach->il,swapsWith->iP,binaryOp->iQ,behindInMarks->iR,DictEntry->iW,wpAny_rule->lI,valueAt->lJ,standAt->lK,SetTable->lN,wpAny_standAt->mU,mem_of_lookup->mV,letOwnedTupleGo->mW,getItem->mX,IsPart->ng,wpAny_holding->oC,tupleKind->oE,sliceBounds->oF,pyIter->oG,callerA->oH,call_meetsIn->oI,BindsTo->oO,wpAny_truthy_bool->rD,wpAny_call_entry->rG,rawInt->rH,compPost->rJ,Result->rM,wpAny_passesOwn->uX,newList->uY,compTurn->uZ,codeAny_mono->u0,wpAny_typeNameOf_keyiter->AL,wpAny_typeNameOfWhole_keyiter->AM,wpAny_newList->AN,wpAny_Call_Name_kw->AO,tupleText->AR,tupleKind_room_in1->AS,swapsWithSole->AT,swappedStores->AU,notedBy->AV,noteFrame->AW,keywordEach->AX,bindName->AY,backToKw->AZ,Within->A1,PlainAttrs->A5,Builtin->Bf,wpAny_noted->EG,wpAny_newFunctionEnv->EH,wpAny_field->EI,wpAny_execs_nil->EJ,wpAny_dictEpoch->EK,wpAny_dictEntries->EL,wpAny_comprehension_free->EM,wpAny_callSpecial?_slot->EN,wpAny_attempt->EO,wpAny_Name->EQ,theTreesLotGoes->ES,firstIterPos->EU,codeAny_loop->EV,codeAny_compStart_list->EW,cellsFrom->EX,call->EZ,builtinsNs->E1,assignInOrder->E3,wpAny_pyIter_values->M0,wpAny_pyIter_keyiter->M3,wpAny_pyIter_enum->M5,wpAny_isTrue_Compare1->Nc,wpAny_isOneOf_keyiter->Nd,wpAny_execs_cons->Ng,wpAny_assign_Name->Nj,wpAny_Dict_empty->Nk,wpAny_Call_method0_late->Nl,wpAny_Call_method->Nm,strKind->Nq,slot_list_getitem->Nu,meets_dict_values->NG,evalArgs_none->NM,Keyword->Ou
open _root_.PySem.Around renaming units->Bg,under->Fx,under_plainId->OV
open _root_.PySem.Builtin.Dict renaming showsAll->OU
open _root_.PySem.Builtin.Dict_items renaming ownsTuple->OT
open _root_.PySem.Builtin.List renaming listTooLong->Fw
open _root_.PySem.Builtin.Slice renaming slicePlaces->Be,sliceAdjust->Fv,sliceApplied->OS
open _root_.PySem.Builtin.Str renaming reprChar->Bc
open _root_.PySem.Builtin.Tuple renaming tupleExact->Bb
open _root_.PySem.Calls renaming spliced_cons->vj,callWith_builtin->vk,spliced_nil->Ft,evalArgs_plain->Fu,call_function_entry->OQ,Name_function_global->OR
open _root_.PySem.Challenge renaming rw_outlineward_k45_clauses_of_a_book->OP
open _root_.PySem.Code renaming isFrame->Fq,frames->OO
open _root_.PySem.Env renaming scope->oN
open _root_.PySem.F renaming plainAttrs_list->cH,type_list_append->dF,slot_list_append->dG,type_list_extend->iU,slot_list_extend->iV,slot_dict_keyiterator_next->vi,slot_dict_values->A_,plainAttrs_dict->Ba,slot_dict_pop->Fm,slot_dict_get->Fo,type_dict_values->OA,slot_dict_iter->OB,slot_dict_delitem->OC,plain_list_iadd->OD,entry_dict_values->OE,entry_dict_pop->OF,entry_dict_keyiterator_next->OG,entry_dict_get->OH,args_dict_values_1->OI,args_dict_pop_3->OJ,args_dict_keyiterator_next_1->OL,args_dict_get_3->OM
open _root_.PySem.Heap renaming lt_size->bH,get?_push_of_some->b_,get?_push_size->dg,SameBut->lP,size_push->vh,get?_push_ne->A9,size_update->Fj,get?_update_other->Fk
open _root_.PySem.Heap.SameBut renaming refl->Fl,update->Ox
open _root_.PySem.Obj renaming mapSeq->fg,mapFields->Os,data_mapFields->Ot
open _root_.PySem.Paired renaming length->A7,snoc->Oq
open _root_.PySem.PassesOwn renaming never->df
open _root_.PySem.Pos renaming line->lO,endLine->Fi
open _root_.PySem.PyData renaming shownAll->oM,depthAll->A4,showableAll->Ff,hasDictAll->Fg,noDict_hsm->Oo
open _root_.PySem.Scope renaming names->Fe
open _root_.PySem.SeqAt renaming EqAt->rL,RcAt->Oe
open _root_.PySem.SeqAt.EqAt renaming str_int->Fc,int_str->Fd,tuple_str->Of,tuple_int->Og,str_tuple->Oh,str_str->Oi,same->Oj,of_refs->Ol,int_tuple->Om,int_int->On
open _root_.PySem.SeqAt.RcAt renaming tuples->Fb
open _root_.PySem.SetTable renaming Probe->Od
open _root_.PySem.Str renaming ofString->bE,join->A3,empty->Fa,cps_append->Oc
open _root_.PySem.Txt renaming join->nc
open _root_.PySem.Unicode renaming isPrintable->Ob
open _root_.PySem.Value renaming isStrOf->N_,isInt->Oa
open _root_.PySem.W renaming Frag->aw,nsIn->bx,findIn->cr,mg_none_of->dQ,keepIn->fJ,kia_one->im,fnOf->iS,codeIn->iT,emptyDict->lM,plainGet->mY,instObj->mZ,hasDictIn->m_,plainOver->oJ,makesIn->oK,specialIn->u_,mg_of->vd,isFn->vf,alongIn->vg,OpenLaw->A2,takerIn->E4,methodObj->E6,lookIn->E7,kitOne->E8,kitx_list->NX,kitx_dict->NY,handedIn->N4,cellsFrom_some->N5,WalkO->N7
open _root_.PySem.W.WShape renaming has->N8
open _root_.String renaming toList_append->AK
open _root_.Sum.inr renaming inj->uW
open _root_.ToString renaming toString->AJ
namespace L2
open PySem PySem.Spec PyProof.Rows
abbrev Key:=Sum Int Str
def YK:Key->ag->Bool
 | .inl k,v=>Oa k v
 | .inr x,v=>N_ x v
def jjW(w:aB):Key->Int
 | .inl k=>hashInt k
 | .inr x=>hashStr w x
theorem kK:∀{k:Key} {v:ag},YK k v=true->(∃i t,k=Sum.inl i/\v=Value.int i t)\/(∃x t,k=Sum.inr x/\v=Value.str x t)
 | .inl i,v,h=>by
  obtain⟨t,e⟩:=ag.isInt_shape (k:=i) (v:=v) h;exact .inl ⟨i,t,rfl,e⟩
 | .inr x,v,h=>by
  obtain⟨t,e⟩:=ag.isStrOf_shape (x:=x) (v:=v) h;exact .inr ⟨x,t,rfl,e⟩
theorem jdF(i:Int)(t:Tok):YK (.inl i) (.int i t)=true:=by simp[YK,Oa]
theorem jdE(x:Str)(t:Tok):YK (.inr x) (.str x t)=true:=by simp[YK,N_]
theorem jiQ(a b:Int):decide ((Sum.inl a:Key)=Sum.inl b)=(a == b):=by
 by_cases e:a=b
 .subst e;simp
 .have h:¬(Sum.inl a:Key)=Sum.inl b:=fun q=>e (Sum.inl.inj q)
  rw[Qv h];exact (Qy.mpr e).symm
theorem jiN(a b:Str):decide ((Sum.inr a:Key)=Sum.inr b)=decide (a=b):=by
 by_cases e:a=b
 .subst e;simp
 .have h:¬(Sum.inr a:Key)=Sum.inr b:=fun q=>e (uW q)
  rw[Qv h,Qv e]
theorem jiP(a:Int)(b:Str):decide ((Sum.inl a:Key)=Sum.inr b)=false:=Qv (fun q=>nomatch q)
theorem jiO(a:Str)(b:Int):decide ((Sum.inr a:Key)=Sum.inl b)=false:=Qv (fun q=>nomatch q)
def j6(prog:aE)(w:aB):PySem.KeyKind prog w Key where
 is:=YK
 hash:=jjW w
 inj:=fun v a b ha hb=>by
  rcases kK ha with⟨i,t,rfl,rfl⟩ | ⟨x,t,rfl,rfl⟩
  .rcases kK hb with⟨j,u,rfl,e⟩ | ⟨y,u,rfl,e⟩
   .injection e with e1 _;rw[e1]
   .exact nomatch e
  .rcases kK hb with⟨j,u,rfl,e⟩ | ⟨y,u,rfl,e⟩
   .exact nomatch e
   .injection e with e1 _;rw[e1]
 byValue:=fun k v h=>by
  rcases kK h with⟨i,t,rfl,rfl⟩ | ⟨x,t,rfl,rfl⟩ <;> rfl
 pyHash:=fun hv h=>by
  rcases kK hv with⟨i,t,rfl,rfl⟩ | ⟨x,t,rfl,rfl⟩
  .exact wpAny_pyHash_int h
  .exact wpAny_pyHash_str h
 eqBool:=fun hu hv h=>by
  rcases kK hu with⟨i,t,rfl,rfl⟩ | ⟨x,t,rfl,rfl⟩
  .rcases kK hv with⟨j,u,rfl,rfl⟩ | ⟨y,u,rfl,rfl⟩
   .rw[jiQ]at h;exact wpAny_eqBool_int h
   .rw[jiP]at h;exact Fd i t y u _ _ _ _ h
  .rcases kK hv with⟨j,u,rfl,rfl⟩ | ⟨y,u,rfl,rfl⟩
   .rw[jiO]at h;exact Fc x t j u _ _ _ _ h
   .rw[jiN]at h;exact wpAny_eqBool_str h
 «strs»:=fun k x t v h=>by
  rcases kK h with⟨i,u,rfl,e⟩ | ⟨y,u,rfl,e⟩
  .exact nomatch e
  .injection e with e1 _
   subst e1
   cases v <;> rfl
theorem ja2(prog:aE)(w:aB)(i:Int)(t:Tok):(j6 prog w).is (.inl i) (.int i t)=true:=jdF i t
theorem ja1(prog:aE)(w:aB)(x:Str)(t:Tok):(j6 prog w).is (.inr x) (.str x t)=true:=jdE x t
inductive V where
 | non | bl (b:Bool) | int (i:Int) | str (x:Str) | byt (b:Array UInt8) | flt (b:UInt64) | ref (a:ad) | ty (n:String)
 deriving DecidableEq
def RelV:V->ag->Prop
 | .non,u=>u=Value.none
 | .bl b,u=>u=Value.bool b
 | .int i,u=>∃t,u=Value.int i t
 | .str x,u=>∃t,u=Value.str x t
 | .byt b,u=>∃t,u=Value.bytes b t
 | .flt b,u=>∃t,u=Value.float b t
 | .ref a,u=>u=Value.ref a
 | .ty n,u=>u=Value.type n
abbrev Vals:List V->List ag->Prop:=Paired RelV
variable {xs:List V}{us:List ag}
theorem Vals.length(r:Vals xs us):xs.length=us.length:=A7 r
theorem Vals.get:∀{xs:List V} {us:List ag} {i:Nat} {x:V},Vals xs us->xs[i]?=some x->∃u,us[i]?=some u/\RelV x u
 | _,_,_,_,.nil,e=>by simp at e
 | _,_,0,_,.cons r _,e=>by simp at e;subst e;exact⟨_,rfl,r⟩
 | _,_,i+1,x,.cons _ t,e=>by
  obtain⟨u,h1,h2⟩:=Vals.get (i:=i) (x:=x) t (by simpa using e);exact⟨u,by simpa using h1,h2⟩
theorem Vals.append:∀{xs ys:List V} {us ws:List ag},Vals xs us->Vals ys ws->Vals (xs++ys) (us++ws)
 | _,_,_,_,.nil,s=>s
 | _,_,_,_,.cons r t,s=>.cons r (Vals.append t s)
theorem Vals.take:∀{xs:List V} {us:List ag} (n:Nat),Vals xs us->Vals (xs.take n) (us.take n)
 | _,_,0,_=>.nil
 | _,_,_+1,.nil=>.nil
 | _,_,n+1,.cons r t=>.cons r (Vals.take n t)
theorem Vals.drop:∀{xs:List V} {us:List ag} (n:Nat),Vals xs us->Vals (xs.drop n) (us.drop n)
 | _,_,0,r=>r
 | _,_,_+1,.nil=>.nil
 | _,_,n+1,.cons _ t=>Vals.drop n t
def RelO:Option V->Option ag->Prop
 | some v,some u=>RelV v u
 | none,none=>True
 | _,_=>False
def KV{κ:Type}:List (κ×V)->List (κ×ag)->Prop:=Paired fun (p:κ×V) (q:κ×ag)=>p.1=q.1/\RelV p.2 q.2
def kV:Key->V
 | .inl i=>.int i
 | .inr x=>.str x
inductive HO where
 | lst (xs:List V)
 | tup (xs:List V)
 | dK (kvs:List (Key×V)) | dT (kvs:List (List Key×V))
 | set (S:Int->Bool) (n:Nat)
 | ins (C dx:ad) (fs:List (Str×V))
 | own (x:ad)
 | xd (fs:List (Str×V))
 | met (f x:ad)
 | rng (lo hi:Int)
 | frz (o:Obj) (u:HO)
 | tbl (ps:Array ag)
 | ext (φ:ar->Prop)
abbrev Hp:=ad->Option HO
def upd(H:Hp)(a:ad)(o:HO):Hp:=fun b=>if b=a then some o else H b
variable {H:Hp}{a:ad}{o:HO}
theorem jf:upd H a o a=some o:=by unfold upd;rw[Qx rfl]
variable {b:ad}
theorem jB(h:b≠a):upd H a o b=H b:=by unfold upd;rw[Qw h]
theorem Jc{u:HO}(h:H a=some o)(h':H b=some u)(d:o≠u):a≠b:=by
 intro e;subst e;rw[h]at h';exact d (dk h')
theorem jp(h:H a=some o)(h':H b=none):a≠b:=by
 intro e;subst e;rw[h]at h';cases h'
section
variable (P:aE)(w:aB)
def ObjOk(H:Hp)(h:ar)(a:ad):HO->Prop
 | .lst xs=>xs.length<=aI/\∃(its:List ag) (n:Nat),Vals xs its/\h.get? a=some { cls:=.type "list",data:=.seq its.toArray n }
 | .tup xs=>xs.length<=aI/\∃its:List ag,Vals xs its/\IsTup h a its.toArray
 | .dK kvs=>kvs.length<=aI/\(a == gh)=false/\∃vs,KV kvs vs/\h.DictOf (j6 P w) a vs
 | .dT kvs=>kvs.length<=aI/\(a == gh)=false/\∃xs:List (List Key×ad×ag),
   Paired (fun (p:List Key×V) (q:List Key×ad×ag)=>p.1=q.1/\H q.2.1=some (.tup (p.1.map kV))/\RelV p.2 q.2.2) kvs xs/\
   ∃o es ep,h.get? a=some o/\o.ExactDict/\o.data=.dict es ep/\es.toList=xs.map (entryOfKey (oE (j6 P w)))/\(xs.map (·.1)).Nodup
 | .set S n=>h.SetOf (intKind P w) a S n
 | .ins C dx fs=>H dx=some (.own a)/\fs.length<=1000/\dx≠a/\h.get? a=some (mZ C dx)/\
   ∃mA,h.Ns1 dx mA/\(∀f,RelO (fs.lookup f) (mA f))/\A1 mA (fs.map (·.1))
 | .own _=>∃o,h.get? a=some o
 | .xd fs=>∃mA,h.Ns1 a mA/\∀f,RelO (fs.lookup f) (mA f)
 | .rng lo hi=>∃t u v,h.get? a=some { cls:=.type "range",data:=.fields #[.int lo t,.int hi u,.int 1 v] }
 | .frz o u=>h.get? a=some o/\ObjOk H h a u
 | .tbl ps=>h.get? a=some { cls:=.none,data:=.fields ps }
 | .met f x=>h.get? a=some (E6 (.ref f) (.ref x))
 | .ext φ=>φ h/\(∃o,h.get? a=some o)/\∀h1 h2:ar,φ h1->(∀o,h1.get? a=some o->h2.get? a=some o)->φ h2
def HOk(H:Hp)(h:ar):Prop:=∀a o,H a=some o->ObjOk P w H h a o
end
variable {P:aE}{w:aB}{H':Hp}{h h':ar}
section
theorem ObjOk.lt(x:ObjOk P w H h a o):a < h.objs.size:=by
 cases o with
 | lst xs=>obtain⟨_,_,_,_,e⟩:=x;exact bH e
 | tup xs=>obtain⟨_,_,_,p⟩:=x;exact p.lt
 | dK kvs=>obtain⟨_,_,_,_,o,_,_,e,_⟩:=x;exact bH e
 | dT kvs=>obtain⟨_,_,_,_,o,_,_,e,_⟩:=x;exact bH e
 | set S n=>obtain⟨o,_,_,_,e,_⟩:=x;exact bH e
 | ins C dx fs=>obtain⟨_,_,_,e,_⟩:=x;exact bH e
 | own y=>obtain⟨_,e⟩:=x;exact bH e
 | xd fs=>obtain⟨_,⟨_,_,_,e,_⟩,_⟩:=x;exact bH e
 | rng lo hi=>obtain⟨_,_,_,e⟩:=x;exact bH e
 | frz ob u=>obtain⟨e,_⟩:=x;exact bH e
 | tbl ps=>exact bH (show h.get? a=some _ from x)
 | met f y=>exact bH (show h.get? a=some _ from x)
 | ext φ=>obtain⟨_,⟨_,e⟩,_⟩:=x;exact bH e
theorem Paired.mapP{α β:Type}{F G:α->β->Prop}:∀{l₁:List α} {l₂:List β},Paired F l₁ l₂->(∀a b,F a b->G a b)->Paired G l₁ l₂
 | _,_,.nil,_=>.nil
 | _,_,.cons r t,f=>.cons (f _ _ r) (Paired.mapP t f)
theorem ObjOk.stay(x:ObjOk P w H h a o)(k:∀b u,(b=a\/H b=some (.own a))->h.get? b=some u->h'.get? b=some u)
  (ho:∀b,H b=some (.own a)->H' b=some (.own a)) (ht:∀b xs,H b=some (.tup xs)->H' b=some (.tup xs)):ObjOk P w H' h' a o:=by
 induction o with
 | lst xs=>obtain⟨z,its,n,r,e⟩:=x;exact⟨z,its,n,r,k _ _ (.inl rfl) e⟩
 | tup xs=>obtain⟨z,its,r,ob,e,c⟩:=x;exact⟨z,its,r,ob,k _ _ (.inl rfl) e,c⟩
 | dK kvs=>obtain⟨z,y,vs,r,ob,es,ep,e,c⟩:=x;exact⟨z,y,vs,r,ob,es,ep,k _ _ (.inl rfl) e,c⟩
 | dT kvs=>
  obtain⟨z,y,xs,r,ob,es,ep,e,c⟩:=x
  exact⟨z,y,xs,Paired.mapP r fun p q z=>⟨z.1,ht _ _ z.2.1,z.2.2⟩,ob,es,ep,k _ _ (.inl rfl) e,c⟩
 | set S n=>obtain⟨ob,es,ep,t,e,c⟩:=x;exact⟨ob,es,ep,t,k _ _ (.inl rfl) e,c⟩
 | ins C dx fs=>
  obtain⟨d,z,ne,e,mA,⟨od,es,ep,e2,c⟩,r⟩:=x
  exact⟨ho _ d,z,ne,k _ _ (.inl rfl) e,mA,⟨od,es,ep,k _ _ (.inr d) e2,c⟩,r⟩
 | own y=>obtain⟨ob,e⟩:=x;exact⟨ob,k _ _ (.inl rfl) e⟩
 | xd fs=>obtain⟨mA,⟨od,es,ep,e,c⟩,r⟩:=x;exact⟨mA,⟨od,es,ep,k _ _ (.inl rfl) e,c⟩,r⟩
 | rng lo hi=>obtain⟨t,u,v,e⟩:=x;exact⟨t,u,v,k _ _ (.inl rfl) e⟩
 | frz ob u ih=>obtain⟨e,q⟩:=x;exact⟨k _ _ (.inl rfl) e,ih q⟩
 | tbl ps=>
  have e:h.get? a=some { cls:=.none,data:=.fields ps }:=x
  show h'.get? a=some { cls:=.none,data:=.fields ps }
  exact k a _ (.inl rfl) e
 | met f y=>
  have e:h.get? a=some (E6 (.ref f) (.ref y)):=x
  show h'.get? a=some (E6 (.ref f) (.ref y))
  exact k a _ (.inl rfl) e
 | ext φ=>obtain⟨p,⟨o,e⟩,st⟩:=x;exact⟨st _ _ p fun o q=>k _ _ (.inl rfl) q,⟨o,k _ _ (.inl rfl) e⟩,st⟩
theorem HOk.lt(x:HOk P w H h)(e:H a=some o):a < h.objs.size:=(x a o e).lt
theorem HOk.fresh(x:HOk P w H h)(e:h.objs.size<=a):H a=none:=by
 cases q:H a with
 | none=>rfl
 | some u=>exact absurd (dU (x.lt q) e) (np _)
theorem HOk.kept(x:HOk P w H h)(k:∀b u,h.get? b=some u->h'.get? b=some u):HOk P w H h':=fun a o e=>
 (x a o e).stay (fun b u _ q=>k b u q) (fun _ q=>q) fun _ _ q=>q
theorem HOk.laid(x:HOk P w H h)(k:∀b u,h.get? b=some u->h'.get? b=some u)(hp:h.objs.size<=a)(new:ObjOk P w (upd H a o) h' a o):HOk P w (upd H a o) h':=fun b u e=>by
 have hn:=x.fresh hp;by_cases hb:b=a
 .subst hb;rw[jf]at e;cases e;exact new
 .rw[jB hb]at e
  exact (x b u e).stay (fun c v _ q=>k c v q) (fun c q=>by rw[jB (jp q hn)];exact q) fun c xs q=>by rw[jB (jp q hn)];exact q
end
def Rd(H:Hp)(a:ad)(u:HO):Prop:=H a=some u\/∃o,H a=some (.frz o u)
theorem Rd.ok{u:HO}(r:Rd H a u)(x:HOk P w H h):ObjOk P w H h a u:=by
 rcases r with r | ⟨o,r⟩
 .exact x a u r
 .obtain⟨_,q⟩:=x a _ r
  exact q
def Mut:Option HO->Prop
 | some (.lst _)=>True
 | some (.dK _)=>True
 | some (.dT _)=>True
 | some (.set _ _)=>True
 | some (.ins _ _ _)=>True
 | some (.ext _)=>True
 | _=>False
section
variable {x e:ad}{o':HO}
theorem HOk.write(ok:HOk P w H h)(mu:Mut (H x))(he:e=x\/H e=some (.own x))(k:∀b u,b≠e->h.get? b=some u->h'.get? b=some u)(n_:∃u,h'.get? e=some u)
  (new:ObjOk P w (upd H x o') h' x o'):HOk P w (upd H x o') h':=fun b u q=>by
 have Cc:∀c y,H c=some (.own y)->c≠x:=fun c y r z=>by subst z;rw[r]at mu;exact mu
 have Hd:∀c xs,H c=some (.tup xs)->c≠x:=fun c xs r z=>by subst z;rw[r]at mu;exact mu
 by_cases hb:b=x
 .subst hb;rw[jf]at q;cases q;exact new
 .rw[jB hb]at q
  by_cases iG:b=e
  .have q':H b=some (.own x):=by
    rcases he with z | z
    .exact absurd (iG.trans z) hb
    .rw[iG];exact z
   rw[q]at q';cases q';obtain⟨v,hv⟩:=n_;exact⟨v,by rw[iG];exact hv⟩
  .refine (ok b u q).stay (fun c v hc r=>k c v ?_ r) (fun c r=>by rw[jB (Cc c b r)];exact r) fun c xs r=>by rw[jB (Hd c xs r)];exact r
   rcases hc with rfl | hc
   .exact iG
   .rintro rfl
    rcases he with z | z
    .exact Cc c b hc z
    .rw[hc]at z;cases z;exact hb rfl
end
structure Un(fs ex:List ad)(H H':Hp)(h h':ar):Prop where
 keep:∀b o,h.get? b=some o->H b=none->b ∉ fs->b ∉ ex->h'.get? b=some o
 slot:∀b o,h.get? b=some o->H b=none->b∈fs->b ∉ ex->∃sl,h'.get? b=some { o with slots:=sl }
 free:∀b o,h.get? b=some o->H b=none->b ∉ ex->H' b=none
 there:∀b o,h.get? b=some o->b ∉ ex->∃o',h'.get? b=some o'
 tups:∀b xs,H b=some (.tup xs)->H' b=some (.tup xs)
 frzs:∀b o u,H b=some (.frz o u)->H' b=some (.frz o u)
 tbls:∀b ps,H b=some (.tbl ps)->∃more,H' b=some (.tbl (ps++more))
 stay:∀b o xs,H b=some (.tup xs)->h.get? b=some o->b ∉ fs->b ∉ ex->h'.get? b=some o
section
variable {fs tV ex ex':List ad}{H1 H2:Hp}{h1 h2:ar}{x e:ad}
theorem Un.any(u:Un fs ex H H1 h h1){ob:Obj}(q:h.get? b=some ob)(n:H b=none)(hx:b ∉ ex):∃sl,h1.get? b=some { ob with slots:=sl }:=by
 by_cases hb:b∈fs
 .exact u.slot b ob q n hb hx
 .exact⟨ob.slots,u.keep b ob q n hb hx⟩
theorem Un.kept(k:∀b u,h.get? b=some u->h'.get? b=some u):Un fs ex H H h h':=
 ⟨fun b ob q _ _ _=>k b ob q,fun b ob q _ _ _=>⟨ob.slots,k b ob q⟩,fun _ _ _ n _=>n,fun b ob q _=>⟨ob,k b ob q⟩,fun _ _ q=>q,fun _ _ _ q=>q,fun _ ps q=>⟨#[],by rw[q];simp⟩,fun b ob _ _ q _ _=>k b ob q⟩
theorem Un.refl:Un fs ex H H h h:=Un.kept fun _ _ q=>q
theorem Un.laid(k:∀b u,h.get? b=some u->h'.get? b=some u)(hp:h.objs.size<=a)(hn:H a=none):Un fs ex H (upd H a o) h h' where
 keep:=fun b u q _ _ _=>k b u q
 slot:=fun b u q _ _ _=>⟨u.slots,k b u q⟩
 free:=fun b u q n _=>by rw[jB (cb (dU (bH q) hp))];exact n
 there:=fun b u q _=>⟨u,k b u q⟩
 tups:=fun b xs q=>by rw[jB (jp q hn)];exact q
 frzs:=fun b u xs q=>by rw[jB (jp q hn)];exact q
 tbls:=fun b ps q=>⟨#[],by rw[jB (jp q hn),q];simp⟩
 stay:=fun b u _ _ q _ _=>k b u q
theorem Un.write(mu:Mut (H x))(he:e=x\/H e=some (.own x))(k:∀b u,b≠e->h.get? b=some u->h'.get? b=some u)(n_:∃u,h'.get? e=some u):Un fs ex H (upd H x o) h h':=by
 have hx:∀b,H b=none->b≠x:=fun b n z=>by subst z;rw[n]at mu;exact mu
 have hb:∀b,H b=none->b≠e:=fun b n z=>by
  subst z;rcases he with r | r
  .exact hx b n r
  .rw[n]at r;cases r
 have hm:∀b u,H b=some u->¬Mut (some u)->b≠x:=fun b u q nm z=>by subst z;rw[q]at mu;exact nm mu
 refine⟨fun b u q n _ _=>k b u (hb b n) q,fun b u q n _ _=>⟨u.slots,k b u (hb b n) q⟩,fun b u q n _=>by rw[jB (hx b n)];exact n,fun b u q _=>?_,
  fun b xs q=>by rw[jB (hm b _ q fun z=>z)];exact q,fun b u xs q=>by rw[jB (hm b _ q fun z=>z)];exact q,fun b ps q=>⟨#[],by rw[jB (hm b _ q fun z=>z),q];simp⟩,fun b u xs q e' _ _=>k b u (fun z=>by
   subst z;rcases he with r | r
   .exact hm b _ q (fun z=>z) r
   .rw[q]at r;cases r) e'⟩
 by_cases iG:b=e
 .subst iG;exact n_
 .exact⟨u,k b u iG q⟩
end
def trk(h:ar)(H:Hp):List ad:=(cB h.objs.size).filter fun a=>(H a).isSome
def jal(h:ar)(H:Hp):ar:=PySem.W.hideAll h (trk h H)
theorem jdK(h:ar)(H:Hp):(jal h H).objs.size=h.objs.size:=PySem.W.hideAll_size _ _
theorem jfC{o:Obj}(e:h.get? b=some o)(n:H b=none):(jal h H).get? b=some o:=
 PySem.W.hideAll_get _ e fun hm=>by
  have q:(H b).isSome=true:=(lW.mp hm).2;rw[n]at q;simp at q
theorem jg6{o:Obj}(e:(jal h H).get? b=some o):h.get? b=some o/\H b=none:=by
 have e':h.get? b=some o:=PySem.W.of_hideAll (trk h H) e;refine⟨e',?_⟩
 cases q:H b with
 | none=>rfl
 | some x=>
  have hm:b∈trk h H:=lW.mpr ⟨PV.mpr (bH e'),by simp[q]⟩;have z:(jal h H).get? b=none:=PySem.W.hideAll_none (trk h H) hm;rw[z]at e;cases e
def jht(g h:ar)(L:ad):List (ad×Obj):=(cB h.objs.size).filterMap fun a=>if a=L\/(g.get? a).isSome=true then none else (h.get? a).map fun o=>(a,o)
def zF(g h:ar)(L d:ad):List (ad×Obj):=(jht g h L).filter fun p=>decide (p.1≠d)
structure Mod(K:aw)(mg:Str->Option ag)(base:ar):Prop where
 kin:K.In base
 glob:base.Ns aT mg
 blt:∃mb,base.Ns E1 mb/\∀x:Str,x≠"__name__"->mb x=dE x
 nolimit:base.NoLimit
structure Cx where
 prog:aE
 w:aB
 K:aw
 mg:Str->Option ag
 base:ar
 A:aS
 N:List Str
 s₀:ai
 H₀:Hp
 env:Env
 outer:List Env
 stack:List Env
 ex:List ad
 fn:Str->Bool
 calm:Bool
 pn:List (ad×Obj)
 xe:ag->ai->Prop
def frs(l:List Env):List ad:=l.filterMap (·.frame)
abbrev Cx.fs(X:Cx):List ad:=frs X.outer
def Vis(sc:cM)(x:Str):Prop:=sc.names.lookup x=some .local\/sc.names.lookup x=some .cell\/sc.names.lookup x=some .free
def Loc(sc:cM)(x:Str):Prop:=sc.names.lookup x=some .local\/sc.names.lookup x=some .cell
def jj3(env:Env)(h:ar)(m:Str->Option ag)(x:Str)(u:ag):Prop:=
 (env.kindOf x=some .local/\m x=some u)\/((env.kindOf x=some .cell\/env.kindOf x=some .free)/\∃c,env.cells.lookup x=some c/\h.IsCell c (some u))
structure Cx.Ok(X:Cx):Prop where
 mod:Mod X.K X.mg X.base
 kind:X.env.scope.kind=.function
 glob:X.env.globals=aT
 blt:X.env.builtins=E1
 above:X.s₀.heap.objs.size<=X.env.locals
 inj:∀x y c,X.env.cells.lookup x=some c->X.env.cells.lookup y=some c->x=y
 has:∀x,(X.env.kindOf x=some .cell\/X.env.kindOf x=some .free)->∃c,X.env.cells.lookup x=some c
 cab:∀x c,X.fn x=true->X.env.cells.lookup x=some c->X.s₀.heap.objs.size<=c
 hd:X.calm=true->X.A.handled=none
 frames:X.A.frames=some X.stack
 stk:X.stack=X.outer\/(X.stack=X.env :: X.outer/\X.env.frame=some X.env.locals)
 exf:∀b∈X.ex,b≠X.env.locals/\∀x c,X.env.cells.lookup x=some c->c≠b
 bs:∀b o,X.base.get? b=some o->X.s₀.heap.get? b=some o/\X.H₀ b=none
 bsz:X.base.objs.size<=X.s₀.heap.objs.size
 noex:∀b o,X.base.get? b=some o->b ∉ X.ex
 exfs:∀b∈X.ex,b ∉ X.fs
 funs:X.s₀.heap.FunFrames X.base X.outer
 frf:∀b∈X.fs,X.H₀ b=none
structure Inv(X:Cx)(ae:List (ad×Obj))(σ:List (Option V))(H:Hp)(s:ai):Prop where
 ok:X.Ok
 os:s.os=X.s₀.os
 bare:lR s.gens
 base:Un X.fs X.ex X.H₀ H X.s₀.heap s.heap
 loc:∃m,s.heap.Ns X.env.locals m/\∀(i:Nat) (x:Str) (v:V),X.N[i]?=some x->σ[i]?=some (some v)->Vis X.env.scope x->∃u,RelV v u/\jj3 X.env s.heap m x u
 cell:∀x c,X.env.cells.lookup x=some c->∃v,s.heap.IsCell c v
 free:H X.env.locals=none
 freeC:∀x c,X.env.cells.lookup x=some c->H c=none
 pin:∀p∈X.pn++ae,s.heap.get? p.1=some p.2/\H p.1=none/\p.1≠X.env.locals/\p.1 ∉ X.fs/\∀v,p.2.data≠.cell v
 hok:HOk X.prog X.w H s.heap
 len:σ.length=X.N.length
variable {X:Cx}{ae:List (ad×Obj)}{s s':ai}{t' i j:Nat}{ch:List ad}{x:Str}{v:V}{u:ag}
section
variable {σ:List (Option V)}
theorem Cx.Ok.nofr(ok:X.Ok){o:Obj}(e:X.base.get? b=some o):b ∉ X.fs:=fun hb=>by
 have:=(ok.funs.mem hb).1;rw[e]at this;cases this
theorem Inv.bs(I:Inv X ae σ H s):∀b o,X.base.get? b=some o->s.heap.get? b=some o/\H b=none:=fun b o e=>
 ⟨I.base.keep b o (I.ok.bs b o e).1 (I.ok.bs b o e).2 (I.ok.nofr e) (I.ok.noex b o e),I.base.free b o (I.ok.bs b o e).1 (I.ok.bs b o e).2 (I.ok.noex b o e)⟩
theorem Inv.bk(I:Inv X ae σ H s):∀b o,X.base.get? b=some o->s.heap.get? b=some o:=fun b o e=>(I.bs b o e).1
theorem Inv.mod(I:Inv X ae σ H s):Mod X.K X.mg X.base:=I.ok.mod
theorem Inv.kIn(I:Inv X ae σ H s):X.K.In s.heap:=I.ok.mod.kin.keeps I.bk
theorem Inv.nolimit(I:Inv X ae σ H s):s.heap.NoLimit:=I.ok.mod.nolimit.keeps I.bk
theorem Inv.fr(I:Inv X ae σ H s):∃m,Fr X.base X.env.locals s.heap m:=
 let ⟨m,hn,_⟩:=I.loc
 ⟨m,hn,I.bk,aJ I.ok.bsz I.ok.above⟩
theorem Inv.lt(I:Inv X ae σ H s):X.env.locals < s.heap.objs.size:=let ⟨_,hn,_⟩:=I.loc;hn.lt
theorem Inv.sz(I:Inv X ae σ H s):X.s₀.heap.objs.size<=s.heap.objs.size:=aJ I.ok.above (c6 I.lt)
theorem Inv.nofs(I:Inv X ae σ H s)(h:s.heap.objs.size<=a):a ∉ X.fs:=fun hb=>by
 obtain⟨_,o,ho,_⟩:=I.ok.funs.mem hb;exact absurd (dU (bH ho) (aJ I.sz h)) (np _)
theorem Inv.cne(I:Inv X ae σ H s):∀x c,X.env.cells.lookup x=some c->c≠X.env.locals:=fun x c e z=>by
 obtain⟨v,o,ho,hd⟩:=I.cell x c e;obtain⟨m,⟨o',es,ep,mz,mH,_⟩,_⟩:=I.loc;rw[z,mz]at ho;cases ho;rw[mH]at hd;cases hd
theorem Inv.funs(I:Inv X ae σ H s):s.heap.FunFrames X.base X.outer:=by
 have all:∀(l:List Env),(∀b∈frs l,b∈X.fs)->X.s₀.heap.FunFrames X.base l->s.heap.FunFrames X.base l:=by
  intro l;induction l with
  | nil=>intro _ _;trivial
  | cons env r ih=>
   intro hs hl;obtain⟨hk,⟨L,o,hf,hn,ho,hd⟩,hr⟩:=hl;have hL:L∈X.fs:=hs L (by unfold frs;rw[F4,hf];exact bU);obtain⟨sl,e⟩:=I.base.slot L o ho (I.ok.frf L hL) hL fun z=>I.ok.exfs L z hL
   exact⟨hk,⟨L,_,hf,hn,e,hd⟩,ih (fun b hb=>hs b (by unfold frs;rw[F4,hf];exact ce _ hb)) hr⟩
 exact all X.outer (fun _ hb=>hb) I.ok.funs
theorem Inv.stack(I:Inv X ae σ H s):s.heap.FunFrames X.base X.stack:=by
 rcases I.ok.stk with e | ⟨e,hf⟩
 .rw[e];exact I.funs
 .rw[e]
  obtain⟨m,hn,_⟩:=I.loc;refine .cons (by rw[I.ok.kind];decide) hf hn ?_ I.funs;exact ar.get?_none_of_le (aJ I.ok.bsz I.ok.above)
theorem Inv.stkSub(I:Inv X ae σ H s):∀b∈frs X.stack,b∈X.env.locals :: X.fs:=fun b hb=>by
 rcases I.ok.stk with e | ⟨e,hf⟩
 .rw[e]at hb;exact ce _ hb
 .rw[e]at hb
  unfold frs at hb;rw[F4,hf]at hb;exact hb
theorem Inv.stkFree(I:Inv X ae σ H s):∀b∈frs X.stack,H b=none:=fun b hb=>by
 rcases bG.mp (I.stkSub b hb) with e | hb
 .rw[e];exact I.free
 .obtain⟨_,o,ho,_⟩:=I.ok.funs.mem hb
  exact I.base.free b o ho (I.ok.frf b hb) fun z=>I.ok.exfs b z hb
theorem Inv.step{g':Array GenState}{d':Drawn}(I:Inv X ae σ H s)
  (ft:∀b∈ch,(b∈X.ex\/X.s₀.heap.objs.size<=b)/\b≠X.env.locals/\(∀x c,X.env.cells.lookup x=some c->c≠b)/\∀p∈X.pn++ae,p.1≠b)
  (keep:∀b o,b≠X.env.locals->b ∉ X.fs->b ∉ ch->s.heap.get? b=some o->(H b=none\/∃xs,H b=some (.tup xs))->h'.get? b=some o)
  (slot:∀b o,b≠X.env.locals->b∈X.fs->b ∉ ch->s.heap.get? b=some o->H b=none->∃sl,h'.get? b=some { o with slots:=sl }) (free:∀b o,b ∉ ch->s.heap.get? b=some o->H b=none->H' b=none)
  (there:∀b o,b ∉ ch->s.heap.get? b=some o->∃o',h'.get? b=some o')
  (tups:∀b xs,H b=some (.tup xs)->H' b=some (.tup xs)) (frzs:∀b o u,H b=some (.frz o u)->H' b=some (.frz o u)) (tbls:∀b ps,H b=some (.tbl ps)->∃more,H' b=some (.tbl (ps++more)))
  (ns:∀m,s.heap.Ns X.env.locals m->h'.Ns X.env.locals m) (hok:HOk X.prog X.w H' h') (hg:lR g') :
  Inv X ae σ H' { s with heap:=h',gens:=g',drawn:=d',toks:=t' }:=by
 have wv:∀b o,X.s₀.heap.get? b=some o->b≠X.env.locals:=fun b o e=>cb (dU (bH e) I.ok.above)
 have pi:∀b o,X.s₀.heap.get? b=some o->b ∉ X.ex->b ∉ ch:=fun b o e hx hb=>by
  rcases (ft b hb).1 with z | z
  .exact hx z
  .exact absurd (dU (bH e) z) (np _)
 have Ew:∀x c,X.env.cells.lookup x=some c->∀v,s.heap.IsCell c v->h'.IsCell c v:=fun x c e v ⟨o,ho,hd⟩=>by
  have pk:c ∉ ch:=fun z=>(ft c z).2.2.1 x c e rfl
  by_cases hc:c∈X.fs
  .obtain⟨sl,q⟩:=slot c o (I.cne x c e) hc pk ho (I.freeC x c e)
   exact⟨_,q,hd⟩
  .exact⟨o,keep c o (I.cne x c e) hc pk ho (.inl (I.freeC x c e)),hd⟩
 have GF:=I.base.tups
 refine⟨I.ok,I.os,hg,⟨fun b o e n hb hx=>?_,fun b o e n hb hx=>?_,fun b o e n hx=>?_,fun b o e hx=>?_,fun b xs e=>tups b xs (I.base.tups b xs e),fun b o xs e=>frzs b o xs (I.base.frzs b o xs e),fun b ps e=>?_,fun b o xs q e hb hx=>keep b o (wv b o e) hb (pi b o e hx) (I.base.stay b o xs q e hb hx) (.inr ⟨xs,GF b xs q⟩)⟩,?_,fun x c e=>?_,?_,fun x c e=>?_,fun p hp=>?_,hok,I.len⟩
 .exact keep b o (wv b o e) hb (pi b o e hx) (I.base.keep b o e n hb hx) (.inl (I.base.free b o e n hx))
 .obtain⟨sl,e1⟩:=I.base.slot b o e n hb hx
  obtain⟨vV,e2⟩:=slot b _ (wv b o e) hb (pi b o e hx) e1 (I.base.free b o e n hx)
  exact⟨vV,e2⟩
 .obtain⟨o',e1⟩:=I.base.there b o e hx
  exact free b o' (pi b o e hx) e1 (I.base.free b o e n hx)
 .obtain⟨o',e1⟩:=I.base.there b o e hx
  exact there b o' (pi b o e hx) e1
 .obtain⟨m1,e1⟩:=I.base.tbls b ps e
  obtain⟨m2,e2⟩:=tbls b _ e1
  exact⟨m1++m2,by rw[e2,Array.append_assoc]⟩
 .obtain⟨m,hn,hl⟩:=I.loc
  refine⟨m,ns m hn,fun i x v e1 e2 e3=>?_⟩
  obtain⟨u,r,l⟩:=hl i x v e1 e2 e3
  refine⟨u,r,?_⟩
  rcases l with l | ⟨k,c,e,z⟩
  .exact .inl l
  .exact .inr ⟨k,c,e,Ew x c e _ z⟩
 .obtain⟨v,z⟩:=I.cell x c e
  exact⟨v,Ew x c e v z⟩
 .obtain⟨m,⟨o,_,_,ho,_⟩,_⟩:=I.loc
  exact free _ o (fun z=>(ft _ z).2.1 rfl) ho I.free
 .obtain⟨v,o,ho,hd⟩:=I.cell x c e
  exact free c o (fun z=>(ft c z).2.2.1 x c e rfl) ho (I.freeC x c e)
 .obtain⟨e,n,ne,nf,d⟩:=I.pin p hp
  have pk:p.1 ∉ ch:=fun z=>(ft p.1 z).2.2.2 p hp rfl
  exact⟨keep p.1 p.2 ne nf pk e (.inl n),free p.1 p.2 pk e n,ne,nf,d⟩
theorem Inv.un(I:Inv X ae σ H s)(u:Un X.fs [] H H' s.heap h')(hok:HOk X.prog X.w H' h'):Inv X ae σ H' { s with heap:=h',toks:=t' }:=by
 obtain⟨m,⟨o,es,ep,ho,r⟩,_⟩:=id I.loc;obtain⟨sl,hL⟩:=u.any ho I.free (by simp);exact I.step (g':=s.gens) (d':=s.drawn) (ch:=[]) (fun _ z=>nomatch z) (fun b o _ hb _ e n=>n.elim (fun n=>u.keep b o e n hb (by simp)) fun⟨xs,n⟩=>u.stay b o xs n e hb (by simp)) (fun b o _ hb _ e n=>u.slot b o e n hb (by simp)) (fun b o _ e n=>u.free b o e n (by simp)) (fun b o _ e=>u.there b o e (by simp)) u.tups u.frzs u.tbls (fun m' hm=>by
  obtain⟨o',gK,rj,mz,r'⟩:=hm;rw[ho]at mz;cases mz;exact⟨_,gK,rj,hL,r'⟩) hok I.bare
theorem Inv.call{g':Array GenState}{d':Drawn}(I:Inv X ae σ H s)(u:Un (frs X.stack) ch H H' s.heap h')(hok:HOk X.prog X.w H' h')(hg:lR g')
  (ft:∀b∈ch,(b∈X.ex\/X.s₀.heap.objs.size<=b)/\b≠X.env.locals/\(∀x c,X.env.cells.lookup x=some c->c≠b)/\∀p∈X.pn++ae,p.1≠b) :
  Inv X ae σ H' { s with heap:=h',gens:=g',drawn:=d',toks:=t' }:=by
 obtain⟨m,⟨o,es,ep,ho,r⟩,_⟩:=id I.loc
 obtain⟨sl,hL⟩:=u.any ho I.free fun z=>(ft _ z).2.1 rfl
 exact I.step (ch:=ch) ft (fun b o hL hb hc e n=>n.elim (fun n=>u.keep b o e n (fun z=>(bG.mp (I.stkSub b z)).elim hL hb) hc) fun⟨xs,n⟩=>u.stay b o xs n e (fun z=>(bG.mp (I.stkSub b z)).elim hL hb) hc) (fun b o _ _ hc e n=>u.any e n hc) (fun b o hc e n=>u.free b o e n hc) (fun b o hc e=>u.there b o e hc) u.tups u.frzs u.tbls (fun m' hm=>by
  obtain⟨o',gK,rj,mz,r'⟩:=hm;rw[ho]at mz;cases mz;exact⟨_,gK,rj,hL,r'⟩) hok hg
theorem Inv.turned{it:ad}(I:Inv X ae σ H s)(k:∀b o,b≠it->s.heap.get? b=some o->h'.get? b=some o)(hn:H it=none)(hL:it≠X.env.locals)
  (h1:it∈X.ex\/X.s₀.heap.objs.size<=it) (h2:∀x c,X.env.cells.lookup x=some c->c≠it) (h3:∀p∈X.pn++ae,p.1≠it):Inv X ae σ H { s with heap:=h',toks:=t' }:=by
 have Cf:∀b u,H b=some u->b≠it:=fun b u e z=>by rw[z,hn]at e;cases e
 refine I.step (g':=s.gens) (d':=s.drawn) (ch:=[it]) (fun b hb=>?_) (fun b o _ _ hc e _=>k b o (fun z=>hc (by simp[z])) e) (fun b o _ _ hc e _=>⟨o.slots,k b o (fun z=>hc (by simp[z])) e⟩) (fun _ _ _ _ n=>n)
  (fun b o hc e=>⟨o,k b o (fun z=>hc (by simp[z])) e⟩) (fun _ _ e=>e) (fun _ _ _ e=>e) (fun b ps e=>⟨#[],by rw[e];simp⟩) (fun m hm=>?_) (fun b u e=>?_) I.bare
 .have e:b=it:=by simpa using hb
  subst e
  exact⟨h1,hL,h2,h3⟩
 .obtain⟨o,es,ep,ho,r⟩:=hm
  exact⟨o,es,ep,k _ o (eG hL) ho,r⟩
 .refine (I.hok b u e).stay (fun c v hc q=>k c v ?_ q) (fun _ q=>q) fun _ _ q=>q
  rcases hc with z | z
  .rw[z];exact Cf b u e
  .exact Cf c _ z
theorem Inv.tok(I:Inv X ae σ H s)(t:Nat):Inv X ae σ H { s with toks:=t }:=I.un (h':=s.heap) (t':=t) Un.refl I.hok
theorem Inv.kept(I:Inv X ae σ H s)(k:∀b u,s.heap.get? b=some u->h'.get? b=some u):Inv X ae σ H { s with heap:=h',toks:=t' }:=I.un (Un.kept k) (I.hok.kept k)
theorem Inv.laid(I:Inv X ae σ H s)(k:∀b u,s.heap.get? b=some u->h'.get? b=some u)(hp:s.heap.objs.size<=a)(new:ObjOk X.prog X.w (upd H a o) h' a o):
  Inv X ae σ (upd H a o) { s with heap:=h',toks:=t' }:=I.un (Un.laid k hp (I.hok.fresh hp)) (I.hok.laid k hp new)
theorem Inv.write{x e:ad}(I:Inv X ae σ H s)(mu:Mut (H x))(he:e=x\/H e=some (.own x))(k:∀b u,b≠e->s.heap.get? b=some u->h'.get? b=some u)(n_:∃u,h'.get? e=some u)
  (new:ObjOk X.prog X.w (upd H x o) h' x o):Inv X ae σ (upd H x o) { s with heap:=h',toks:=t' }:=I.un (Un.write mu he k n_) (I.hok.write mu he k n_ new)
theorem Inv.pins_of{B5:List (ad×Obj)}(I:Inv X ae σ H s)(h:∀p∈B5,s.heap.get? p.1=some p.2/\H p.1=none/\p.1≠X.env.locals/\p.1 ∉ X.fs/\∀v,p.2.data≠.cell v):Inv X B5 σ H s:=
 ⟨I.ok,I.os,I.bare,I.base,I.loc,I.cell,I.free,I.freeC,fun p hp=>(bK.mp hp).elim (fun z=>I.pin p (vx _ z)) (h p),I.hok,I.len⟩
theorem ja0{N:List Str}(hN:N.Nodup)(a:N[i]?=some x)(b:N[j]?=some x):i=j:=by
 obtain⟨h1,e1⟩:=bL.mp a;obtain⟨h2,e2⟩:=bL.mp b;exact (P1 hN).mp (e1.trans e2.symm)
theorem Zi{M:Model}{A:aS}{E:ag->ai->Prop}{Q:Unit->ai->Prop}(I:Inv X ae σ H s)(hN:X.N.Nodup)(hi:X.N[i]?=some x)(hx:Loc X.env.scope x)(r:RelV v u)
  (h:∀s',Inv X ae (σ.set i (some v)) H s'->(∃a,lP a s.heap s'.heap/\(a=X.env.locals\/X.env.cells.lookup x=some a))->Q () s') (hf:X.fn x=true\/X.env.scope.names.lookup x=some .local:=by first | exact .inl rfl | exact .inr rfl | assumption):au M A (storeName X.env x u) Q E s:=by
 obtain⟨m,hn,hl⟩:=id I.loc
 have Ls:(X.env.scope.kind == .class || (X.env.scope.kind == .module && X.env.locals != X.env.globals))=false:=by rw[I.ok.kind];rfl
 have Dx:i < σ.length:=by rw[I.len];exact (bL.mp hi).1
 have cne:=I.cne
 have BG:∀{a:ad} {h':ar},(∃o,s.heap.get? a=some o/\H a=none)->lP a s.heap h'->HOk X.prog X.w H h':=fun {a h'} ha hs b ob e=>by
  obtain⟨_,_,DB⟩:=ha;refine (I.hok b ob e).stay (fun c w' hc q=>(hs.2 c ?_).trans q) (fun _ q=>q) fun _ _ q=>q
  rintro rfl;rcases hc with rfl | hc
  .rw[DB]at e;cases e
  .rw[DB]at hc;cases hc
 rcases hx with hk | hk
 .refine wpAny_storeName_local hk hn (fun h' IR hs=>?_) Ls
  obtain⟨oL,_,_,lx,_⟩:=id hn
  refine h _ ⟨I.ok,I.os,I.bare,⟨fun b o e n hb hx=>?_,fun b o e n hb hx=>?_,I.base.free,fun b o e hx=>?_,I.base.tups,I.base.frzs,I.base.tbls,fun b o xs q e hb hx=>(hs.2 b (cb (dU (bH e) I.ok.above))).trans (I.base.stay b o xs q e hb hx)⟩,⟨_,IR,fun j y v' e1 e2 e3=>?_⟩,fun y c e=>?_,I.free,I.freeC,fun p hp=>?_,BG ⟨oL,lx,I.free⟩ hs,by simpa using I.len⟩ ⟨_,hs,.inl rfl⟩
  .exact (hs.2 b (cb (dU (bH e) I.ok.above))).trans (I.base.keep b o e n hb hx)
  .obtain⟨sl,e1⟩:=I.base.slot b o e n hb hx
   exact⟨sl,(hs.2 b (cb (dU (bH e) I.ok.above))).trans e1⟩
  .obtain⟨o',e1⟩:=I.base.there b o e hx
   exact⟨o',(hs.2 b (cb (dU (bH e) I.ok.above))).trans e1⟩
  .by_cases hj:j=i
   .subst hj
    rw[hi]at e1;cases e1
    rw[P4 Dx]at e2
    cases e2
    exact⟨u,r,.inl ⟨hk,by simp⟩⟩
   .rw[P5 (eG hj)]at e2
    obtain⟨u',r',q⟩:=hl j y v' e1 e2 e3
    refine⟨u',r',?_⟩
    rcases q with⟨k,e⟩ | ⟨k,c,e,z⟩
    .refine .inl ⟨k,?_⟩
     have:y≠x:=fun e=>hj (ja0 hN e1 (e ▸ hi))
     simp[this,e]
    .exact .inr ⟨k,c,e,z.sameBut hs (cne y c e)⟩
  .obtain⟨w',z⟩:=I.cell y c e
   exact⟨w',z.sameBut hs (cne y c e)⟩
  .obtain⟨e,n,ne,nf,d⟩:=I.pin p hp
   exact⟨(hs.2 p.1 ne).trans e,n,ne,nf,d⟩
 .have tM:X.fn x=true:=by
   rcases hf with z | z
   .exact z
   .rw[z]at hk;cases hk
  obtain⟨c,hc⟩:=I.ok.has x (.inl hk);obtain⟨w',z⟩:=I.cell x c hc;refine wpAny_storeName_cell I.ok.kind hk hc z (fun h' du hs=>?_);obtain⟨oc,De,IM⟩:=id z;refine h { s with heap:=h' } ⟨I.ok,I.os,I.bare,⟨fun b o e n hb hx=>?_,fun b o e n hb hx=>?_,I.base.free,fun b o e hx=>?_,I.base.tups,I.base.frzs,I.base.tbls,fun b o xs q e hb hx=>(hs.2 b (cb (dU (bH e) (I.ok.cab x c tM hc)))).trans (I.base.stay b o xs q e hb hx)⟩,⟨m,hn.sameBut hs (eG (cne x c hc)),fun j y v' e1 e2 e3=>?_⟩,fun y c' e=>?_,I.free,I.freeC,fun p hp=>?_,BG ⟨oc,De,I.freeC x c hc⟩ hs,by simpa using I.len⟩ ⟨c,hs,.inr hc⟩
  .exact (hs.2 b (cb (dU (bH e) (I.ok.cab x c tM hc)))).trans (I.base.keep b o e n hb hx)
  .obtain⟨sl,e1⟩:=I.base.slot b o e n hb hx
   exact⟨sl,(hs.2 b (cb (dU (bH e) (I.ok.cab x c tM hc)))).trans e1⟩
  .obtain⟨o',e1⟩:=I.base.there b o e hx
   exact⟨o',(hs.2 b (cb (dU (bH e) (I.ok.cab x c tM hc)))).trans e1⟩
  .by_cases hj:j=i
   .subst hj
    rw[hi]at e1;cases e1;rw[P4 Dx]at e2
    cases e2
    exact⟨u,r,.inr ⟨.inl hk,c,hc,du⟩⟩
   .rw[P5 (eG hj)]at e2
    obtain⟨u',r',q⟩:=hl j y v' e1 e2 e3;refine⟨u',r',?_⟩;rcases q with q | ⟨k,c',e,z'⟩
    .exact .inl q
    .refine .inr ⟨k,c',e,z'.sameBut hs ?_⟩
     rintro rfl;exact hj (ja0 hN e1 (I.ok.inj _ _ _ e hc ▸ hi))
  .by_cases hcc:c'=c
   .subst hcc;exact⟨_,du⟩
   .obtain⟨w2,z2⟩:=I.cell y c' e
    exact⟨w2,z2.sameBut hs hcc⟩
  .obtain⟨e,n,ne,nf,d⟩:=I.pin p hp
   refine⟨(hs.2 p.1 ?_).trans e,n,ne,nf,d⟩;intro q;rw[q,De]at e;have q':oc=p.2:=dk e;exact d w' (by rw[<- q'];exact IM)
theorem JO{M:Model}{A:aS}{E:ag->ai->Prop}{Q:Unit->ai->Prop}(I:Inv X ae σ H s)(hN:X.N.Nodup)(hi:X.N[i]?=some x)(hx:Loc X.env.scope x)(r:RelV v u)
  (h:∀s',Inv X ae (σ.set i (some v)) H s'->Q () s') (hf:X.fn x=true\/X.env.scope.names.lookup x=some .local:=by first | exact .inl rfl | exact .inr rfl | assumption):au M A (storeName X.env x u) Q E s:=
 Zi I hN hi hx r (fun s' I' _=>h s' I') hf
theorem Inv.call'(I:Inv X ae σ H s)(ho:s'.os=s.os)(u:Un (frs X.stack) ch H H' s.heap s'.heap)(hok:HOk X.prog X.w H' s'.heap)(hg:lR s'.gens)
  (ft:∀b∈ch,(b∈X.ex\/X.s₀.heap.objs.size<=b)/\b≠X.env.locals/\(∀x c,X.env.cells.lookup x=some c->c≠b)/\∀p∈X.pn++ae,p.1≠b):Inv X ae σ H' s':=by
 obtain⟨h',g',d',t',o'⟩:=s'
 have e:o'=s.os:=ho
 subst e
 exact I.call (g':=g') (t':=t') (d':=d') u hok hg ft
end
abbrev XK:=ag->Option ad->Hp->Prop
abbrev St:=List (Option V)
abbrev VK:=V->Hp->Prop
abbrev TE:=St->Hp->VK->Prop
abbrev TT:=St->Hp->(Bool->Hp->Prop)->Prop
abbrev TA:=St->Hp->(List V->Hp->Prop)->Prop
structure Ends where
 nx:St->Hp->Prop
 rt:VK
 bk:St->Hp->Prop:=fun _ _=>False
 ct:St->Hp->Prop:=fun _ _=>False
abbrev TS:=Ends->St->Hp->Prop
def EP(X:Cx)(ae:List (ad×Obj))(σ:St)(Q:VK)(u:ag)(s':ai):Prop:=∃v H',Inv X ae σ H' s'/\RelV v u/\Q v H'
def TP(X:Cx)(ae:List (ad×Obj))(σ:St)(Q:Bool->Hp->Prop)(b:Bool)(s':ai):Prop:=∃H',Inv X ae σ H' s'/\Q b H'
def AP(X:Cx)(ae:List (ad×Obj))(σ:St)(Q:List V->Hp->Prop)(us:List ag)(s':ai):Prop:=∃vs H',Inv X ae σ H' s'/\Vals vs us/\Q vs H'
def SP(X:Cx)(ae:List (ad×Obj))(D:Ends)(f:Flow)(s':ai):Prop:=
 match f with
 | .next=>∃σ' H',Inv X ae σ' H' s'/\D.nx σ' H'
 | .brk=>∃σ' H',Inv X ae σ' H' s'/\D.bk σ' H'
 | .cont=>∃σ' H',Inv X ae σ' H' s'/\D.ct σ' H'
 | .ret u=>∃v σ' H',Inv X ae σ' H' s'/\RelV v u/\D.rt v H'
def PE(X:Cx)(e:aj)(t:TE):Prop:=
 ∀(ae:List (ad×Obj)) (s:ai) (σ:St) (H:Hp) (Q:VK),Inv X ae σ H s->t σ H Q->au (ao X.prog X.w) X.A (eval e X.env) (EP X ae σ Q) X.xe s
def PT(X:Cx)(e:aj)(t:TT):Prop:=
 ∀(ae:List (ad×Obj)) (s:ai) (σ:St) (H:Hp) (Q:Bool->Hp->Prop),Inv X ae σ H s->t σ H Q->au (ao X.prog X.w) X.A (isTrue e X.env (eval e X.env)) (TP X ae σ Q) X.xe s
def PW(X:Cx)(e:aj)(t:TT):Prop:=
 ∀(fB:Sem ag) (ae:List (ad×Obj)) (s:ai) (σ:St) (H:Hp) (Q:Bool->Hp->Prop),Inv X ae σ H s->t σ H Q->au (ao X.prog X.w) X.A (isTrue e X.env fB) (TP X ae σ Q) X.xe s
variable {e:aj}
theorem PW.pt{t:TT}(h:PW X e t):PT X e t:=h _
def PA(X:Cx)(es:List aj)(t:TA):Prop:=
 ∀(pos:Pos) (ae:List (ad×Obj)) (s:ai) (σ:St) (H:Hp) (Q:List V->Hp->Prop),Inv X ae σ H s->t σ H Q->au (ao X.prog X.w) X.A (spliced (ff pos (cj es X.env))) (AP X ae σ Q) X.xe s
def PS(X:Cx)(st:aF)(t:TS):Prop:=
 ∀(ae:List (ad×Obj)) (s:ai) (σ:St) (H:Hp) (D:Ends),Inv X ae σ H s->t D σ H->au (ao X.prog X.w) X.A (exec st X.env) (SP X ae D) X.xe s
def PSs(X:Cx)(st:List aF)(t:TS):Prop:=
 ∀(ae:List (ad×Obj)) (s:ai) (σ:St) (H:Hp) (D:Ends),Inv X ae σ H s->t D σ H->au (ao X.prog X.w) X.A (execs st X.env) (SP X ae D) X.xe s
variable {M:Model}{A:aS}{E:ag->ai->Prop}
theorem thn{α:Type}{t:Sem α}{Q Q':α->ai->Prop}(h:au M A t Q E s)(hQ:∀a s,Q a s->Q' a s):au M A t Q' E s:=cI h hQ fun _ _ x=>x
variable {ta tb:TE}{σ:St}{pos:Pos}{Q:ag->ai->Prop}
section
theorem bin{a b:aj}(ha:PE X a ta)(hb:PE X b tb){R:V->V->Hp->Prop}(I:Inv X ae σ H s)(h:ta σ H fun x H1=>tb σ H1 fun y H2=>R x y H2)
  {α:Type} {Q:α->ai->Prop} {f:ag->ag->Sem α}
  (hf:∀v u s2 x y H2,Inv X ae σ H2 s2->RelV x v->RelV y u->R x y H2->au (ao X.prog X.w) X.A (f v u) Q X.xe s2) :
  au (ao X.prog X.w) X.A (eval a X.env) (fun v s₁=>au (ao X.prog X.w) X.A (eval b X.env) (fun u s₂=>au (ao X.prog X.w) X.A (f v u) Q X.xe s₂) X.xe s₁) X.xe s:=by
 refine thn (ha ae s σ H _ I h) fun v s1 hM=>?_
 obtain⟨x,H1,I1,r1,q1⟩:=hM
 refine thn (hb ae s1 σ H1 _ I1 q1) fun u s2 hM=>?_
 obtain⟨y,H2,I2,r2,q2⟩:=hM
 exact hf v u s2 x y H2 I2 r1 r2 q2
def jdh(i:Nat):TE:=fun σ H Q=>∃v,σ[i]?=some (some v)/\Q v H
def tC(v:V):TE:=fun _ H Q=>Q v H
theorem jeT(hN:X.N[i]?=some x)(hv:Vis X.env.scope x)(hd:(x == ("__debug__" : Str))=false:=by decide)(fG:(x == ("__classdict__" : Str))=false:=by decide):PE X (.Name x pos) (jdh i):=by
 intro ae s σ H Q I h;obtain⟨v,e,h⟩:=h;obtain⟨m,hn,hl⟩:=I.loc;obtain⟨u,r,l⟩:=hl i x v hN e hv;have fin:EP X ae σ Q u s:=⟨v,H,I,r,h⟩
 rcases l with⟨hk,hm⟩ | ⟨hk,c,hc,DK⟩
 .exact EQ (wpAny_loadName_local I.ok.kind hk hn hm fin) hd
 .rcases hk with hk | hk
  .exact EQ (wpAny_loadName_cell I.ok.kind hk hc DK fin) hd
  .exact EQ (wpAny_loadName_free I.ok.kind hk hc DK fin fG) hd
theorem jeY{i j pos}:PE X (.Constant (.int i) j pos) (tC (.int i)):=fun _ _ _ H _ I h=>wpAny_Constant_int ⟨.int i,H,I.tok _,⟨_,rfl⟩,h⟩
theorem jjs{b j pos}:PE X (.Constant (.bool b) j pos) (tC (.bl b)):=fun _ _ _ H _ I h=>Constant_bool ⟨.bl b,H,I,rfl,h⟩
theorem jeV{x j pos}:PE X (.Constant (.str x) j pos) (tC (.str x)):=fun _ _ _ H _ I h=>Calls.Constant_str ⟨.str x,H,I.tok _,⟨_,rfl⟩,h⟩
def Gl(X:Cx)(x:Str):Prop:=X.env.kindOf x=some .globalImplicit
theorem jag{E:ag->ai->Prop}{pos:Pos}(I:Inv X ae σ H s)(hg:Gl X x)(hm:X.mg x=some u)(h:Q u s)
  (hd:(x == ("__debug__" : Str))=false:=by decide):au (ao X.prog X.w) X.A (eval (.Name x pos) X.env) Q E s:=
 OR I.ok.kind hg (Calls.loadGlobal_global (by rw[I.ok.glob];exact I.mod.glob.keeps I.bk) hm h) hd
theorem YI{E:ag->ai->Prop}{pos:Pos}(I:Inv X ae σ H s)(hg:Gl X x)(hm:X.mg x=none)(hv:dE x=some u)(h:Q u s)
  (hn:x≠"__name__":=by decide) (hd:(x == ("__debug__" : Str))=false:=by decide):au (ao X.prog X.w) X.A (eval (.Name x pos) X.env) Q E s:=by
 obtain⟨mb,h1,h2⟩:=I.mod.blt
 exact OR I.ok.kind hg (Calls.loadGlobal_builtin (by rw[I.ok.glob];exact I.mod.glob.keeps I.bk) hm (by rw[I.ok.blt];exact h1.keeps I.bk) ((h2 x hn).trans hv) h) hd
theorem jgC{x:Str}{v:V}{u:ag}{pos:Pos}(hg:Gl X x)(hm:X.mg x=some u)(r:RelV v u)(hd:(x == ("__debug__" : Str))=false:=by decide):PE X (.Name x pos) (tC v):=
 fun _ _ _ H _ I h=>jag I hg hm ⟨v,H,I,r,h⟩ hd
theorem jgJ{x:Str}{v:V}{u:ag}{pos:Pos}(hg:Gl X x)(hm:X.mg x=none)(hv:dE x=some u)(r:RelV v u)(hn:x≠"__name__":=by decide)(hd:(x == ("__debug__" : Str))=false:=by decide):PE X (.Name x pos) (tC v):=
 fun _ _ _ H _ I h=>YI I hg hm hv ⟨v,H,I,r,h⟩ hn hd
variable {a b:aj}
def PC(X:Cx)(op:CmpOp)(a b:aj)(t:TE):Prop:=
 ∀(ae:List (ad×Obj)) (s:ai) (σ:St) (H:Hp) (Q:VK),Inv X ae σ H s->t σ H Q->
  au (ao X.prog X.w) X.A (eval a X.env) (fun v s₁=>au (ao X.prog X.w) X.A (eval b X.env) (fun u s₂=>au (ao X.prog X.w) X.A (fe op v u) (EP X ae σ Q) X.xe s₂) X.xe s₁) X.xe s
theorem jfo(b:aj){op:CmpOp}(h:op≠.In)(h2:op≠.NotIn):iR op b=false:=by
 have e1:(op == CmpOp.In)=false:=by cases op <;> first | rfl | exact absurd rfl h
 have e2:(op == CmpOp.NotIn)=false:=by cases op <;> first | rfl | exact absurd rfl h2
 cases b <;> simp[iR,e1,e2]
def tB(t:TE):TT:=fun σ H Q=>t σ H fun x H1=>∃c,x=.bl c/\Q c H1
theorem jij{op:CmpOp}{t:TE}(h:PC X op a b t)(h1:iR op b=false:=by first | exact jfo _ (by decide) (by decide) | rfl):PT X (.Compare a [op] [b] pos) (tB t):=by
 intro ae s σ H Q I hw;refine Nc (thn (h ae s σ H _ I hw) fun v s1 h1=>thn h1 fun u s2 h2=>thn h2 fun c s3 hM=>?_) h1;obtain⟨x,H1,I1,r1,q1⟩:=hM;obtain⟨d,rfl,q⟩:=q1
 cases r1
 exact rD ⟨H1,I1,q⟩
theorem jih{t:TE}(h:PE X e t)(he:∀fB,isTrue e X.env fB=(do let v <- fB;lK e.pos;holding [v] (truthy v)):=by intro _;rfl):PT X e (tB t):=by
 intro ae s σ H Q I hw;refine isTrue_plain (thn (h ae s σ H _ I hw) fun v s1 hM=>?_) (he _);obtain⟨x,H1,I1,r1,q1⟩:=hM;obtain⟨d,rfl,q⟩:=q1
 cases r1
 exact rD ⟨H1,I1,q⟩
variable {tA oW:TT}{zF:List aj}
def tOr(t u:TT):TT:=fun σ H Q=>t σ H fun c H1=>if c=true then Q true H1 else u σ H1 Q
def jja(t:TT):TT:=fun σ H Q=>t σ H fun c H1=>Q (!c) H1
theorem jid(ha:PT X a tA):PW X (.BoolOp .Or [a] pos) tA:=by
 intro wh ae s σ H Q I h;refine isTrue_or (thn (ha ae s σ H Q I h) fun c s1 e=>?_)
 cases c with
 | false=>exact isTrue_or_nil e
 | true=>exact e
theorem jjj(ha:PT X a tA)(hb:PW X (.BoolOp .Or (b :: zF) pos) oW):PW X (.BoolOp .Or (a :: b :: zF) pos) (tOr tA oW):=by
 intro wh ae s σ H Q I h;refine isTrue_or (thn (ha ae s σ H _ I h) fun c s1 hM=>?_);obtain⟨H1,I1,q1⟩:=hM
 cases c with
 | true=>exact⟨H1,I1,q1⟩
 | false=>exact hb wh ae s1 σ H1 Q I1 q1
theorem jii(ha:PT X a tA):PT X (.UnaryOp .Not a pos) (jja tA):=by
 intro ae s σ H Q I h;exact isTrue_not (ha ae s σ H (fun c H1=>Q (!c) H1) I h)
def jhI(ta tb:TE):TE:=fun σ H Q=>ta σ H fun x H1=>∃c,x=.bl c/\if c=true then tb σ H1 Q else Q (.bl false) H1
theorem jir{op}{t:TE}(h:PE X a t):PE X (.BoolOp op [a] pos) t:=fun ae s σ H Q I hw=>BoolOp_one (h ae s σ H Q I hw)
theorem jiu(ha:PE X a ta)(hb:PE X (.BoolOp .And (b :: zF) pos) tb):PE X (.BoolOp .And (a :: b :: zF) pos) (jhI ta tb):=by
 intro ae s σ H Q I h;refine BoolOp_and (thn (ha ae s σ H _ I h) fun v s1 hM=>?_);obtain⟨x,H1,I1,r1,q1⟩:=hM;obtain⟨c,rfl,q1⟩:=q1
 cases r1
 refine rD ?_
 cases c with
 | true=>exact hb ae s1 σ H1 Q I1 q1
 | false=>exact⟨.bl false,H1,I1,rfl,q1⟩
end
def SqL(K:aw)(H:Hp)(a:ad)(xs:List V):Prop:=
 Rd H a (.lst xs)\/
  ∃(o:Obj) (its:Array ag) (n:Nat),K.lookup a=some o/\o.cls=.type "list"/\o.dict=none/\o.data=.seq its n/\its.size<=aI/\Vals xs its.toList
def SqT(K:aw)(H:Hp)(a:ad)(xs:List V):Prop:=
 Rd H a (.tup xs)\/
  ∃(o:Obj) (its:Array ag) (n:Nat),K.lookup a=some o/\o.cls=.type "tuple"/\o.data=.seq its n/\its.size<=aI/\Vals xs its.toList
def jjZ:ag->Option V
 | .none=>some .non
 | .bool b=>some (.bl b)
 | .int i _=>some (.int i)
 | .str x _=>some (.str x)
 | .bytes b _=>some (.byt b)
 | .float b _=>some (.flt b)
 | .ref a=>some (.ref a)
 | .type n=>some (.ty n)
 | _=>none
theorem RelV.abs{x:V}(r:RelV x u):jjZ u=some x:=by
 cases x with
 | non=>cases r;rfl
 | bl _=>cases r;rfl
 | int _=>obtain⟨t,rfl⟩:=r;rfl
 | str _=>obtain⟨t,rfl⟩:=r;rfl
 | byt _=>obtain⟨t,rfl⟩:=r;rfl
 | flt _=>obtain⟨t,rfl⟩:=r;rfl
 | ref _=>cases r;rfl
 | ty _=>cases r;rfl
variable {y:V}
theorem RelV.inj{x:V}(r:RelV x u)(q:RelV y u):x=y:=dk (r.abs.symm.trans q.abs)
theorem Vals.inj:∀{xs ys:List V} {us:List ag},Vals xs us->Vals ys us->xs=ys
 | _,_,_,.nil,.nil=>rfl
 | _,_,_,.cons r t,.cons r' t'=>by rw[r.inj r',Vals.inj t t']
variable {K:aw}
section
variable {ys:List V}
theorem SqL.of(h:H a=some (.lst xs)):SqL K H a xs:=.inl (.inl h)
theorem SqT.of(h:H a=some (.tup xs)):SqT K H a xs:=.inl (.inl h)
theorem Inv.list(I:Inv X ae σ H s)(h:SqL X.K H a xs):∃its:List ag,Vals xs its/\PlainL s.heap a its.toArray/\xs.length<=aI:=by
 rcases h with h | ⟨o,its,n,hk,hc,hd,hs,hz,r⟩
 .obtain⟨z,its,n,r,e⟩:=h.ok I.hok
  exact⟨its,r,⟨_,n,e,rfl,rfl,rfl⟩,z⟩
 .refine⟨its.toList,r,⟨o,n,I.kIn a o hk,hc,hd,by simpa using hs⟩,?_⟩
  have e:=r.length;simp only[dy]at e;omega
theorem Inv.tuple(I:Inv X ae σ H s)(h:SqT X.K H a xs):∃its:List ag,Vals xs its/\IsTup s.heap a its.toArray/\xs.length<=aI:=by
 rcases h with h | ⟨o,its,n,hk,hc,hs,hz,r⟩
 .obtain⟨z,its,r,p⟩:=h.ok I.hok
  exact⟨its,r,p,z⟩
 .refine⟨its.toList,r,⟨o,I.kIn a o hk,hc,n,by simpa using hs⟩,?_⟩
  have e:=r.length;simp only[dy]at e;omega
theorem Inv.list_inj(I:Inv X ae σ H s)(h:SqL X.K H a xs)(h':SqL X.K H a ys):xs=ys:=by
 obtain⟨its,r,⟨o,n,e,_,_,d⟩,_⟩:=I.list h;obtain⟨its',r',⟨o',n',e',_,_,d'⟩,_⟩:=I.list h';rw[e]at e';cases e';rw[d]at d';injection d' with d1 _;have:its=its':=by simpa using Qz Array.toList d1
 subst this;exact r.inj r'
end
abbrev Cx.wish(X:Cx)(E:ag->ai->Prop):Cx:={ X with xe:=E }
abbrev Cx.nox(X:Cx):Cx:=X.wish fun _ _=>False
theorem Cx.Ok.wish(ok:X.Ok)(E:ag->ai->Prop):(X.wish E).Ok:=
 ⟨ok.mod,ok.kind,ok.glob,ok.blt,ok.above,ok.inj,ok.has,ok.cab,ok.hd,ok.frames,ok.stk,ok.exf,ok.bs,ok.bsz,ok.noex,ok.exfs,ok.funs,ok.frf⟩
theorem Cx.Ok.unwish(ok:(X.wish E).Ok):X.Ok:=
 ⟨ok.mod,ok.kind,ok.glob,ok.blt,ok.above,ok.inj,ok.has,ok.cab,ok.hd,ok.frames,ok.stk,ok.exf,ok.bs,ok.bsz,ok.noex,ok.exfs,ok.funs,ok.frf⟩
section
theorem Inv.wish(I:Inv X ae σ H s)(E:ag->ai->Prop):Inv (X.wish E) ae σ H s:=⟨I.ok.wish E,I.os,I.bare,I.base,I.loc,I.cell,I.free,I.freeC,I.pin,I.hok,I.len⟩
theorem Inv.unwish(I:Inv (X.wish E) ae σ H s):Inv X ae σ H s:=⟨I.ok.unwish,I.os,I.bare,I.base,I.loc,I.cell,I.free,I.freeC,I.pin,I.hok,I.len⟩
theorem SP.unwish{D:Ends}{f:Flow}(h:SP (X.wish E) ae D f s'):SP X ae D f s':=by
 cases f with
 | next=>obtain⟨σ',H',I,q⟩:=h;exact⟨σ',H',I.unwish,q⟩
 | brk=>obtain⟨σ',H',I,q⟩:=h;exact⟨σ',H',I.unwish,q⟩
 | cont=>obtain⟨σ',H',I,q⟩:=h;exact⟨σ',H',I.unwish,q⟩
 | ret u=>obtain⟨v,σ',H',I,r,q⟩:=h;exact⟨v,σ',H',I.unwish,r,q⟩
theorem PSs.nox{st:List aF}{t:TS}(h:PSs X.nox st t):PSs X st t:=fun ae s σ H D I hw=>
 cI (h ae s σ H D (I.wish _) hw) (fun _ _ q=>q.unwish) fun _ _ z=>gB z
end
section
variable {st:aF}{zF:List aF}{t u:TS}{te:TE}
def jhD:TS:=fun D σ H=>D.nx σ H
def jU(t u:TS):TS:=fun D σ H=>t { D with nx:=u D } σ H
theorem jgn:PSs X [] jhD:=fun _ _ σ H _ I h=>EJ ⟨σ,H,I,h⟩
theorem jeJ(h1:PS X st t)(h2:PSs X zF u):PSs X (st :: zF) (jU t u):=by
 intro ae s σ H D I h;refine Ng (thn (h1 ae s σ H { D with nx:=u D } I h) fun f s1 q=>?_)
 cases f with
 | next=>
  obtain⟨σ',H',I',q⟩:=q;exact h2 ae s1 σ' H' D I' q
 | ret v=>exact q
 | brk=>exact q
 | cont=>exact q
theorem jgm(h1:PS X st t):PSs X [st] t:=by
 intro ae s σ H D I h;refine Ng (thn (h1 ae s σ H D I h) fun f s1 q=>?_)
 cases f with
 | next=>exact EJ q
 | ret v=>exact q
 | brk=>exact q
 | cont=>exact q
theorem Inv.quiet(I:Inv X ae σ H s):interactive X.env=false:=by simp[interactive,I.ok.kind]
def jep(te:TE):TS:=fun D σ H=>te σ H fun _ H1=>D.nx σ H1
theorem jgr(he:PE X e te)(hs:iP e none pos.line X.env=pure false:=by rfl):PS X (.Expr e pos) (jep te):=by
 intro ae s σ H D I h;exact wpAny_Expr_any (thn (he ae s σ H _ I h) fun v s1 ⟨x,H1,I1,r1,q1⟩=>⟨σ,H1,I1,q1⟩) I.quiet hs
def jh6(te:TE):TS:=fun D σ H=>te σ H D.rt
theorem jil(he:PE X e te):PS X (.Return (some e) pos) (jh6 te):=by
 intro ae s σ H D I h;exact wpAny_Return_some (thn (he ae s σ H _ I h) fun v s1 ⟨x,H1,I1,r1,q1⟩=>⟨x,σ,H1,I1,r1,q1⟩)
def jhB:TS:=fun D _ H=>D.rt .non H
theorem jgp:PS X (.Return none pos) jhB:=fun _ _ σ H _ I h=>wpAny_Return_none ⟨.non,σ,H,I,rfl,h⟩
def jjc(c:TT)(t u:TS):TS:=fun D σ H=>c σ H fun b H1=>if b=true then t D σ H1 else u D σ H1
theorem jjk{c:aj}{a b:List aF}{tc:TT}(hc:PT X c tc)(ha:PSs X a t)(hb:PSs X b u):PS X (.If c a b pos) (jjc tc t u):=by
 intro ae s σ H D I h;refine wpAny_If (thn (hc ae s σ H _ I h) fun d s1 hM=>?_);obtain⟨H1,I1,q1⟩:=hM
 cases d with
 | true=>exact ha ae s1 σ H1 D I1 q1
 | false=>exact hb ae s1 σ H1 D I1 q1
end
abbrev TG:=V->St->Hp->(St->Hp->Prop)->Prop
abbrev TGs:=List V->St->Hp->(St->Hp->Prop)->Prop
def PG(X:Cx)(target:aj)(t:TG):Prop:=
 ∀(ae:List (ad×Obj)) (s:ai) (σ:St) (H:Hp) (v:V) (u:ag) (Q:St->Hp->Prop),Inv X ae σ H s->RelV v u->t v σ H Q->
  au (ao X.prog X.w) X.A (assign target X.env u) (fun _ s'=>∃σ' H',Inv X ae σ' H' s'/\Q σ' H') X.xe s
def PGs(X:Cx)(ts:List aj)(t:TGs):Prop:=
 ∀(ae:List (ad×Obj)) (s:ai) (σ:St) (H:Hp) (vs:List V) (us:List ag) (Q:St->Hp->Prop),Inv X ae σ H s->Vals vs us->t vs σ H Q->
  au (ao X.prog X.w) X.A (E3 ((il ts X.env).map (·.2)) us) (fun _ s'=>∃σ' H',Inv X ae σ' H' s'/\Q σ' H') X.xe s
section
def qq(i:Nat):TG:=fun v σ H Q=>Q (σ.set i (some v)) H
theorem jgB{i:Nat}{x:Str}(hN:X.N.Nodup)(hi:X.N[i]?=some x)(hx:Loc X.env.scope x)(hf:X.fn x=true\/X.env.scope.names.lookup x=some .local:=by first | exact .inl rfl | exact .inr rfl | assumption):PG X (.Name x pos) (qq i):=by
 intro ae s σ H v u Q I r h;exact Nj (JO I hN hi hx r (fun s' I'=>⟨_,H,I',h⟩) hf)
def jjG:TGs:=fun vs σ H Q=>vs=[]/\Q σ H
def jhU(t:TG)(u:TGs):TGs:=fun vs σ H Q=>∃v r,vs=v :: r/\t v σ H fun σ' H'=>u r σ' H' Q
theorem jgA:PGs X [] jjG:=by
 intro ae s σ H vs us Q I r h;obtain⟨e,h⟩:=h;subst e
 cases r
 exact Pf ⟨σ,H,I,h⟩
theorem jeS{e:aj}{es:List aj}{t:TG}{u:TGs}(h1:PG X e t)(h2:PGs X es u)
  (hs:(il (e :: es) X.env).map (·.2)=assign e X.env :: (il es X.env).map (·.2):=by rfl):PGs X (e :: es) (jhU t u):=by
 intro ae s σ H vs us Q I r h
 obtain⟨v,vr,e1,h⟩:=h
 subst e1
 cases r with
 | cons r rr=>
  rw[hs]
  refine FE (thn (h1 ae s σ H _ _ _ I r h) fun _ s1 hM=>?_)
  obtain⟨σ1,H1,I1,q1⟩:=hM
  exact h2 ae s1 σ1 H1 _ _ Q I1 rr q1
def jjF(K:aw)(n:Nat)(t:TGs):TG:=fun v σ H Q=>∃a xs,v=.ref a/\SqT K H a xs/\xs.length=n/\t xs σ H Q
theorem jiq{es:List aj}{k:Nat}{t:TGs}{n:Nat}(hc:X.calm=true)(h:PGs X es t)
  (hn:(il es X.env).length=n:=by rfl) (Ik:(il es X.env).findIdx? (·.1)=none:=by rfl):PG X (.Tuple es k pos) (jjF X.K n t):=by
 intro ae s σ H v u Q I r hw
 obtain⟨a,xs,e1,hq,hl,hw⟩:=hw
 subst e1
 cases r
 obtain⟨its,rv,ht,hz⟩:=I.tuple hq
 refine assign_Tuple_tuple (I.ok.hd hc) ht (by simp[hn,<- hl,rv.length]) Ik fun h' hx=>?_
 have I1:Inv X ae σ H { s with heap:=h' }:=I.kept (t':=s.toks) fun b o e=>hx b o (cb (bH e)) e
 exact h ae _ σ H xs _ Q I1 (by simpa using rv) hw
def ZS(te:TE)(g:TG):TS:=fun D σ H=>te σ H fun x H1=>g x σ H1 D.nx
theorem jip{tg e:aj}{te:TE}{g:TG}(he:PE X e te)(hg:PG X tg g)(hs:AT [tg] e pos.line X.env=pure false:=by rfl)(hw:AU [tg] e X.env=pure none:=by rfl)
  (h1:(il [tg] X.env).map (·.2)=[assign tg X.env]:=by rfl):PS X (.Assign [tg] e pos) (ZS te g):=by
 intro ae s σ H D I h
 refine wpAny_Assign_stores (thn (he ae s σ H _ I h) fun v s1 hM=>?_) hs hw
 obtain⟨x,H1,I1,r1,q1⟩:=hM
 rw[h1]
 exact thn (hg ae s1 σ H1 x v _ I1 r1 q1) fun _ s2 q=>q
theorem jik{i:Nat}{x:Str}{e:aj}{te:TE}{dL:Pos}(hN:X.N.Nodup)(hi:X.N[i]?=some x)(hx:Loc X.env.scope x)(he:PE X e te)(hs:iP e (some (.Name x dL)) pos.line X.env=pure false:=by rfl)(hf:X.fn x=true\/X.env.scope.names.lookup x=some .local:=by first | exact .inl rfl | exact .inr rfl | assumption):
  PS X (.Assign [.Name x dL] e pos) (ZS te (qq i)):=by
 intro ae s σ H D I h
 refine wpAny_Assign_Name (thn (he ae s σ H _ I h) fun v s1 hM=>?_) hs
 obtain⟨y,H1,I1,r1,q1⟩:=hM
 exact JO I1 hN hi hx r1 (fun s2 I2=>⟨_,H1,I2,q1⟩) hf
def ji9(i j:Nat)(ta:TA):TS:=fun D σ H=>ta σ H fun vs H1=>∃v w,vs=[v,w]/\D.nx ((σ.set i (some v)).set j (some w)) H1
theorem jim{y:Str}{a b:aj}{ta:TA}{px py pt:Pos}{kt k2 pt2}(hc:X.calm=true)(hN:X.N.Nodup)(hi:X.N[i]?=some x)(hj:X.N[j]?=some y)(dB:i≠j)
  (hx:X.env.scope.names.lookup x=some .local) (hy:X.env.scope.names.lookup y=some .local) (ha:PA X [a,b] ta)
  (hw:AU [.Tuple [.Name x px,.Name y py] kt pt] (.Tuple [a,b] k2 pt2) X.env=pure (some [x,y]))
  (hs:AT [.Tuple [.Name x px,.Name y py] kt pt] (.Tuple [a,b] k2 pt2) pos.line X.env=pure false:=by rfl) :
  PS X (.Assign [.Tuple [.Name x px,.Name y py] kt pt] (.Tuple [a,b] k2 pt2) pos) (ji9 i j ta):=by
 intro ae s σ H D I h
 rw[exec_Assign_arm]
 refine aq (mU ?_)
 rw[hs]
 refine aq (aH ?_)
 rw[Qw (by decide)]
 refine aq (Tuple_ (thn (ha _ ae s σ H _ I h) fun us s1 hM=>?_))
 obtain⟨vs,H1,I1,r1,q1⟩:=hM
 obtain⟨v,w,e1,q1⟩:=q1
 subst e1
 obtain⟨u1,u2,rfl,rv,dJ⟩:∃u1 u2,us=[u1,u2]/\RelV v u1/\RelV w u2:=by
  cases r1 with
  | cons p q=>
   cases q with
   | cons p' q'=>
    cases q'
    exact⟨_,_,rfl,p,p'⟩
 refine gL ?_ (by show 2<=aI;decide)
 have I2:Inv X ae σ H1 { s1 with heap:=s1.heap.push { cls:=.type "tuple",data:=.seq [u1,u2].toArray } }:=I1.kept (t':=s1.toks) fun b o e=>b_ _ e
 rw[hw]
 refine aq (aH ?_)
 show au (ao X.prog X.w) X.A (do rule "assign.swapped-stores";let items <- unpackItems (.ref s1.heap.objs.size) 2 none;E3 [fun v=>AY X.env y v,fun v=>AY X.env x v] items.reverse;pure Flow.next) _ _ _
 refine aq (lI (aq (unpackItems_tuple (items:=#[u1,u2]) (I.ok.hd hc) (FJ s1.heap _) fun h' cp=>?_)))
 have I3:=I2.kept (h':=h') (t':=s1.toks) fun b o e=>cp b o (cb (bH e)) e
 show au _ _ (E3 [fun v=>AY X.env y v,fun v=>AY X.env x v] [u2,u1] >>= fun _=>pure Flow.next) _ _ _
 refine aq (FE (wpAny_bindName (JO I3 hN hj (.inl hy) dJ (fun s2 I4=>?_) (.inr hy))))
 refine FE (wpAny_bindName (JO I4 hN hi (.inl hx) rv (fun s3 I5=>Pf (aH ?_)) (.inr hx)))
 rw[List.set_comm _ _ (eG dB)]at I5
 exact⟨_,H1,I5,q1⟩
end
structure It where
 go:Nat->Hp->Prop
 yld:Nat->Hp->V->Hp->Prop
 stop:Nat->Hp->Prop
def JK(X:Cx)(ae:List (ad×Obj))(H:Hp)(b:ad):Prop:=
 H b=none/\b≠X.env.locals/\b ∉ X.fs/\(b∈X.ex\/X.s₀.heap.objs.size<=b)/\(∀x c,X.env.cells.lookup x=some c->c≠b)/\∀p∈X.pn++ae,p.1≠b
theorem Inv.fpOk(I:Inv X ae σ H s)(hb:s.heap.objs.size<=b)(hn:H' b=none):JK X ae H' b:=by
 refine⟨hn,lS (dU I.lt hb),I.nofs hb,.inr (aJ I.sz hb),fun x c e z=>?_,fun p hp z=>?_⟩
 .obtain⟨v,q⟩:=I.cell x c e
  exact absurd (dU q.lt (by rw[z];exact hb)) (np _)
 .exact absurd (dU (bH (I.pin p hp).1) (by rw[z];exact hb)) (np _)
structure Turn(P:aE)(w:aB)(K:aw)(tg:aj)(J:It)(fp:List ad)(it:ad)(tn:Nat->ar->Prop):Prop where
 mem:it∈fp
 obj:∀i h,tn i h->∀b∈fp,∃o,h.get? b=some o/\∀v,o.data≠.cell v
 keep:∀i h h',tn i h->(∀b∈fp,∀o,h.get? b=some o->h'.get? b=some o)->tn i h'
 item:∀(X:Cx),X.prog=P->X.w=w->X.K=K->X.calm=true->∀(i:Nat) (ae:List (ad×Obj)) (s:ai) (σ:St) (H:Hp) (E:ag->ai->Prop),Inv X ae σ H s->(∀b∈fp,JK X ae H b)->tn i s.heap->J.go i H->
  au (ao P w) X.A (ik (.ref it)) (fun r s1=>∃u,r=some u/\
   au (ao P w) X.A (mW tg (.ref it) u) (fun _ s2=>∃x H',Inv X ae σ H' s2/\RelV x u/\J.yld i H x H'/\tn (i+1) s2.heap/\∀b∈fp,H' b=none) E s1) E s
 done:∀(X:Cx),X.prog=P->X.w=w->X.K=K->X.calm=true->∀(i:Nat) (ae:List (ad×Obj)) (s:ai) (σ:St) (H:Hp) (E:ag->ai->Prop),Inv X ae σ H s->(∀b∈fp,JK X ae H b)->tn i s.heap->J.stop i H->
  au (ao P w) X.A (ik (.ref it)) (fun r s1=>r=none/\Inv X ae σ H s1) E s
 self:∀(A:aS) (i:Nat) (s:ai) (Q:ag->ai->Prop) (E:ag->ai->Prop),tn i s.heap->Q (.ref it) s->au (ao P w) A (oG (.ref it)) Q E s
abbrev TI:=St->Hp->(It->Hp->Prop)->Prop
def PIE(X:Cx)(ae:List (ad×Obj))(σ:St)(tg:aj)(R:It->Hp->Prop)(pA:ag)(s2:ai):Prop:=
 ∃(it:ad) (fp:List ad) (tn:Nat->ar->Prop) (J:It) (H':Hp),pA=.ref it/\Inv X ae σ H' s2/\Turn X.prog X.w X.K tg J fp it tn/\tn 0 s2.heap/\(∀b∈fp,JK X ae H' b)/\R J H'
def PI(X:Cx)(tg iter:aj)(wi:TI):Prop:=
 ∀(ae:List (ad×Obj)) (s:ai) (σ:St) (H:Hp) (R:It->Hp->Prop),Inv X ae σ H s->wi σ H R->
  au (ao X.prog X.w) X.A (eval iter X.env) (fun v s1=>au (ao X.prog X.w) X.A (oG v) (PIE X ae σ tg R) X.xe s1) X.xe s
variable {tg:aj}
theorem jba{it:ad}{o:Obj}{n:String}{vs:Array ag}{Q:Unit->ai->Prop}(ho:s.heap.get? it=some o)(hc:o.cls=.type n)(hd:o.data=.fields vs)
  (hn:["enumerate","zip","dict_itemiterator","dict_reverseitemiterator","odict_iterator","itertools.zip_longest","itertools.pairwise"].contains n=false) (hQ:Q () s):au M A (mW tg (.ref it) u) Q E s:=by
 unfold mW
 cases tg <;> first
  | exact aH hQ
  | (cases u <;> first
    | exact aH hQ
    | (refine aq (wpAny_load ho ?_)
       rw[hc,hd]
       show au M A (if (["enumerate","zip","dict_itemiterator","dict_reverseitemiterator","odict_iterator","itertools.zip_longest","itertools.pairwise"].contains n && vs[0]? == some (rH _))=true then _ else _) Q E s
       rw[Qw (by intro h;rw[hn,Bool.false_and]at h;cases h)]
       exact aH hQ))
def Itl(K:aw)(a:ad):It:=
 ⟨fun i H=>∃xs x,SqL K H a xs/\xs[i]?=some x,fun i H x H'=>H'=H/\∀xs,SqL K H a xs->xs[i]?=some x,fun i H=>∃xs,SqL K H a xs/\xs.length<=i⟩
def Itr(lo:Int)(n:Nat):It:=⟨fun i _=>i < n,fun i H x H'=>H'=H/\x=.int (lo+i),fun i _=>n<=i⟩
theorem jdd(a it:ad):Turn P w K tg (Itl K a) [it] it (fun i h=>h.IsListIter it a i) where
 mem:=by simp
 obj:=fun i h st b hb=>by
  have e:b=it:=by simpa using hb
  subst e;obtain⟨o,e,c,d⟩:=st;exact⟨o,e,fun v z=>by rw[d]at z;cases z⟩
 keep:=fun i h h' st k=>st.at fun o e=>k it (by simp) o e
 item:=by
  intro X hP hw hK hc i ae s σ H E I hf st hg;subst hP hw hK;obtain⟨xs,x,hq,hx⟩:=hg;obtain⟨its,rv,p,hz⟩:=I.list hq;obtain⟨u,hu,ru⟩:=rv.get hx;obtain⟨f0,f1,f2,f3,f4,f5⟩:=hf it (by simp);refine wpAny_pyNext_list_item st p.isList (x:=u) (by simpa using hu) fun h' aA sb=>?_
  have I1:Inv X ae σ H { s with heap:=h' }:=I.turned (t':=s.toks) (fun b o hb e=>(sb.2 b hb).trans e) f0 f1 f3 f4 f5;obtain⟨o,e,c,d⟩:=id aA;exact⟨u,rfl,jba (s:={ s with heap:=h' }) e c d (by decide) ⟨x,H,I1,ru,⟨rfl,fun ys hy=>by rw[I.list_inj hy hq];exact hx⟩,aA,fun b hb=>(hf b hb).1⟩⟩
 done:=by
  intro X hP hw hK hc i ae s σ H E I hf st hg;subst hP hw hK;obtain⟨xs,hq,hx⟩:=hg;obtain⟨its,rv,p,hz⟩:=I.list hq;obtain⟨f0,f1,f2,f3,f4,f5⟩:=hf it (by simp);have hl:=rv.length;exact wpAny_pyNext_list_end (I.ok.hd hc) st p.isList (by simp;omega) fun h' eb=>⟨rfl,I.turned (t':=s.toks) (fun b o hb e=>eb b o hb e) f0 f1 f3 f4 f5⟩
 self:=fun _ _ _ _ _ st h=>wpAny_pyIter_listiter st h
theorem jbv(it:ad)(lo:Int)(n:Nat):Turn P w K tg (Itr lo n) [it] it (fun i h=>IsRangeIter h it (lo+(i:Nat) * 1) ((n:Int) - (i:Nat)) 1) where
 mem:=by simp
 obj:=fun i h st b hb=>by
  have e:b=it:=by simpa using hb
  subst e;exact⟨_,st,fun v z=>by
   have z':Data.fields _=Data.cell v:=z
   cases z'⟩
 keep:=fun i h h' st k=>k it (by simp) _ st
 item:=by
  intro X hP hw hK hc i ae s σ H E I hf st hg;subst hP hw hK;obtain⟨f0,f1,f2,f3,f4,f5⟩:=hf it (by simp);have W:=Walks.range (prog:=X.prog) (w:=X.w) (I.ok.hd hc) it lo 1 n;refine W.item i s _ _ hg st fun v h' tk hv aA kk=>?_
  obtain⟨t,rfl⟩:=hv;have I1:Inv X ae σ H { s with heap:=h',toks:=tk }:=I.turned (fun b o hb e=>kk b o (by simpa using hb) e) f0 f1 f3 f4 f5;refine⟨_,rfl,jba (s:={ s with heap:=h',toks:=tk }) (n:="range_iterator") aA rfl rfl (by decide) ⟨.int (lo+i),H,I1,⟨t,?_⟩,⟨rfl,rfl⟩,aA,fun b hb=>(hf b hb).1⟩⟩;rw[Int.mul_one]
 done:=by
  intro X hP hw hK hc i ae s σ H E I hf st hg;subst hP hw hK;obtain⟨f0,f1,f2,f3,f4,f5⟩:=hf it (by simp);exact wpAny_pyNext_range_end (I.ok.hd hc) st (by have:n<=i:=hg;omega) fun h' eb=>⟨rfl,I.turned (t':=s.toks) (fun b o hb e=>eb b o hb e) f0 f1 f3 f4 f5⟩
 self:=fun _ _ _ _ _ st h=>wpAny_pyIter_rangeiter st h
variable {fp:List ad}
section
def Zz(K:aw)(tl:TE):TI:=fun σ H R=>tl σ H fun x H1=>∃a,x=.ref a/\(∃xs,SqL K H1 a xs)/\R (Itl K a) H1
theorem jgx{l:aj}{tl:TE}(hl:PE X l tl):PI X tg l (Zz X.K tl):=by
 intro ae s σ H R I h;refine thn (hl ae s σ H _ I h) fun v s1 hM=>?_
 obtain⟨x,H1,I1,r1,q1⟩:=hM;obtain⟨a,e,⟨xs,hq⟩,q⟩:=q1;subst e
 cases r1
 obtain⟨its,rv,p,hz⟩:=I1.list hq;refine wpAny_pyIter_list p.isList ?_;refine⟨s1.heap.objs.size,[s1.heap.objs.size],_,_,H1,rfl,I1.kept (t':=s1.toks) fun b o e=>b_ _ e,jdd a _,⟨_,dg _ rfl,rfl,rfl⟩,fun b hb=>?_,q⟩;have e:b=s1.heap.objs.size:=by simpa using hb
 subst e;exact I1.fpOk (aD _) (I1.hok.fresh (aD _))
theorem jeH{R:It->Hp->Prop}{lo hi:Int}{t u v:Tok}{tk:Nat}(I:Inv X ae σ H s)(h1:-(2 ^ 62)<=lo)(h2:lo < 2 ^ 62)(h3:-(2 ^ 62)<=hi)(h4:hi < 2 ^ 62)
  (q:R (Itr lo (hi - lo).toNat) H):au (ao X.prog X.w) X.A (oG (.ref s.heap.objs.size)) (PIE X ae σ tg R) E { s with heap:=s.heap.push { cls:=.type "range",data:=.fields #[.int lo t,.int hi u,.int 1 v] },toks:=tk }:=by
 refine wpAny_pyIter_range (IsRange.new ..) (small_one h1 h2 h3 h4) ?_
 have I1:Inv X ae σ H { s with heap:=s.heap.push { cls:=.type "range",data:=.fields #[.int lo t,.int hi u,.int 1 v] },toks:=tk }:=I.kept fun b o e=>b_ _ e
 refine⟨(s.heap.push { cls:=.type "range",data:=.fields #[.int lo t,.int hi u,.int 1 v] }).objs.size,[(s.heap.push { cls:=.type "range",data:=.fields #[.int lo t,.int hi u,.int 1 v] }).objs.size],_,_,H,rfl,
  I1.kept (t':=tk) fun b o e=>b_ _ e,jbv _ lo (hi - lo).toNat,?_,fun b hb=>?_,q⟩
 .have e1:lo+((0:Nat):Int) * 1=lo:=by simp
  have e2:(((hi - lo).toNat:Nat):Int) - ((0:Nat):Int)=Builtin.Range.rangeSize lo hi 1:=by rw[rangeSize_one];split <;> omega
  show IsRangeIter _ _ (lo+((0:Nat):Int) * 1) ((((hi - lo).toNat:Nat):Int) - ((0:Nat):Int)) 1
  rw[e1,e2]
  exact dg _ rfl
 .have e:b=(s.heap.push { cls:=.type "range",data:=.fields #[.int lo t,.int hi u,.int 1 v] }).objs.size:=by simpa using hb
  subst e
  exact I1.fpOk (aD _) (I1.hok.fresh (aD _))
def jhO(ta:TA):TI:=fun σ H R=>ta σ H fun vs H1=>∃j:Int,vs=[.int j]/\-(2 ^ 62)<=j/\j < 2 ^ 62/\R (Itr 0 j.toNat) H1
theorem jdm{a:aj}{ta:TA}{p pos:Pos}(hg:Gl X "range")(hm:X.mg "range" = none)(ha:PA X [a] ta)(hs:cj [a] X.env=[(false,eval a X.env)]:=by rfl):PI X tg (.Call (.Name "range" p) [a] [] pos) (jhO ta):=by
 intro ae s σ H R I h;refine Call_ (YI I hg hm boot_range (FD (thn (ha pos ae s σ H _ I h) fun us s1 hM=>?_) hs rfl));obtain⟨vs,H1,I1,r1,q1⟩:=hM;obtain⟨j,e,q1,q2,q⟩:=q1;subst e
 cases r1 with
 | cons r rr=>
  cases rr
  obtain⟨t,rfl⟩:=r;exact call_range_1 (jeH I1 (by omega) (by omega) q1 q2 (by simpa using q))
def jjd(wi:TI)(g:TG)(tb:TS):TS:=fun D σ H=>wi σ H fun J H1=>∃W:Nat->Nat->St->Hp->Prop,(∃m,W 0 m σ H1)/\∀i m σ H,W i m σ H->
 (J.stop i H/\D.nx σ H)\/(J.go i H/\∃N:St->Hp->Prop,(∀σ' H',N σ' H'->∃m',m' < m/\W (i+1) m' σ' H')/\∀x H',J.yld i H x H'->g x σ H' fun σ2 H2=>tb { D with nx:=N,ct:=N,bk:=D.nx } σ2 H2)
def zm(fp:List ad)(h:ar):List (ad×Obj):=fp.filterMap fun b=>(h.get? b).map fun o=>(b,o)
theorem kQ{o:Obj}(hb:b∈fp)(e:h.get? b=some o):(b,o)∈zm fp h:=PZ.mpr ⟨b,hb,by rw[e];rfl⟩
theorem jdy{p:ad×Obj}(hp:p∈zm fp h):p.1∈fp/\h.get? p.1=some p.2:=by
 obtain⟨b,hb,e⟩:=PZ.mp hp
 cases q:h.get? b with
 | none=>rw[q]at e;cases e
 | some o=>
  rw[q]at e;have e':(b,o)=p:=dk e;subst e';exact⟨hb,q⟩
theorem Inv.pinned(I:Inv X ae σ H s)(hf:∀b∈fp,JK X ae H b)(ho:∀b∈fp,∃o,s.heap.get? b=some o/\∀v,o.data≠.cell v):Inv X (ae++zm fp s.heap) σ H s:=
 I.pins_of fun p hp=>(bK.mp hp).elim (fun z=>I.pin p (cN _ z)) fun z=>by
  obtain⟨hb,e⟩:=jdy z;obtain⟨f0,f1,f2,_⟩:=hf p.1 hb;obtain⟨o,e',d⟩:=ho p.1 hb;rw[e]at e';cases e';exact⟨e,f0,f1,f2,d⟩
theorem Inv.unpinned{pl:List (ad×Obj)}(I:Inv X (ae++pl) σ H s):Inv X ae σ H s:=I.pins_of fun p hp=>I.pin p (cN _ (vx _ hp))
theorem jin{iter:aj}{body:List aF}{wi:TI}{g:TG}{tb:TS}{pos:Pos}(hp:PassesOwn (ao X.prog X.w) X.A X.env X.xe)(hc:X.calm=true)(hi:PI X tg iter wi)(hg:PG X tg g)(hb:PSs X body tb)
  (hs:∀x,fI iter X.env x=pure x:=by intro _;rfl):PS X (.For tg iter body [] pos) (jjd wi g tb):=by
 intro ae s σ H D I h
 refine wpAny_For (thn (hi ae s σ H _ I h) fun v s1 h1=>thn h1 fun pA s2 h2=>?_) hs
 obtain⟨it,fp,tn,J,H2,e,I2,T,cE,f2,W,⟨m0,w0⟩,turn⟩:=h2
 subst e
 have eM:∀{H':Hp},(∀b∈fp,H' b=none)->∀b∈fp,JK X ae H' b:=fun hn b hb=>⟨hn b hb,(f2 b hb).2⟩
 refine codeAny_forLoop_any (fun n s'=>∃i σ' H',Inv X ae σ' H' s'/\tn i s'.heap/\(∀b∈fp,H' b=none)/\W i n σ' H') ?_ m0 ⟨0,σ,H2,I2,cE,fun b hb=>(f2 b hb).1,w0⟩
 rintro n s3 ⟨i,σ3,H3,I3,gT,Ef,w3⟩
 rcases turn i n σ3 H3 w3 with⟨stop,qn⟩ | ⟨go,N,hN,step⟩
 .refine uX hp (thn (T.done X rfl rfl rfl hc i ae s3 σ3 H3 X.xe I3 (eM Ef) gT stop) fun r s4 ⟨hr,I4⟩=>?_)
  subst hr
  exact EJ ⟨σ3,H3,I4,qn⟩
 .refine uX hp (thn (T.item X rfl rfl rfl hc i ae s3 σ3 H3 X.xe I3 (eM Ef) gT go) fun r s4 ⟨u,hr,h4⟩=>?_)
  subst hr
  refine uX hp (thn h4 fun _ s5 hM=>?_)
  obtain⟨x,H5,I5,r5,y5,nF,Mm⟩:=hM
  have uV:=I5.pinned (eM Mm) (T.obj _ _ nF)
  refine uX hp (thn (hg _ s5 σ3 H5 x u _ uV r5 (step x H5 y5)) fun _ s6 hM=>?_)
  obtain⟨σ6,H6,I6,q6⟩:=hM
  refine uX hp (thn (hb _ s6 σ6 H6 _ I6 q6) fun f s7 q7=>?_)
  have again:∀{σ7:St} {H7:Hp},Inv X (ae++zm fp s5.heap) σ7 H7 s7->N σ7 H7->∃m,m < n/\∃i σ' H',Inv X ae σ' H' s7/\tn i s7.heap/\(∀b∈fp,H' b=none)/\W i m σ' H':=fun {σ7 H7} I7 n7=>by
   obtain⟨m',hm,w7⟩:=hN σ7 H7 n7;refine⟨m',hm,i+1,σ7,H7,I7.unpinned,T.keep _ _ _ nF fun b hb o e=>(I7.pin (b,o) (cN _ (cN _ (kQ hb e)))).1,fun b hb=>?_,w7⟩;obtain⟨o,e,d⟩:=T.obj _ _ nF b hb;exact (I7.pin (b,o) (cN _ (cN _ (kQ hb e)))).2.1
  cases f with
  | next=>obtain⟨σ7,H7,I7,n7⟩:=q7;exact again I7 n7
  | cont=>obtain⟨σ7,H7,I7,n7⟩:=q7;exact again I7 n7
  | brk=>obtain⟨σ7,H7,I7,q7⟩:=q7;exact⟨σ7,H7,I7.unpinned,q7⟩
  | ret v=>obtain⟨x7,σ7,H7,I7,r7,q7⟩:=q7;exact⟨x7,σ7,H7,I7.unpinned,r7,q7⟩
end
theorem kG{g:TG}{tb:TS}{D:Ends}(Pv:Nat->St->Hp->Prop)(h0:Pv 0 σ H)(hl:∀i σ H,i<=xs.length->Pv i σ H->SqL K H a xs)
  (hs:∀i x σ H,xs[i]?=some x->Pv i σ H->g x σ H fun σ2 H2=>tb { D with nx:=Pv (i+1),ct:=Pv (i+1),bk:=D.nx } σ2 H2) (hd:∀σ H,Pv xs.length σ H->D.nx σ H) :
  ∃W:Nat->Nat->St->Hp->Prop,(∃m,W 0 m σ H)/\∀i m σ H,W i m σ H->
   ((Itl K a).stop i H/\D.nx σ H)\/((Itl K a).go i H/\∃N:St->Hp->Prop,(∀σ' H',N σ' H'->∃m',m' < m/\W (i+1) m' σ' H')/\∀x H',(Itl K a).yld i H x H'->g x σ H' fun σ2 H2=>tb { D with nx:=N,ct:=N,bk:=D.nx } σ2 H2):=by
 refine⟨fun i m σ H=>m=xs.length - i/\i<=xs.length/\Pv i σ H,⟨xs.length,by simp,bT _,h0⟩,?_⟩
 rintro i m σ H ⟨rfl,hi,p⟩
 have q:=hl i σ H hi p
 by_cases aP:i < xs.length
 .refine .inr ⟨⟨xs,xs[i],q,by simp[aP]⟩,Pv (i+1),fun σ' H' p'=>⟨xs.length - (i+1),by omega,rfl,aP,p'⟩,fun x H' y=>?_⟩
  obtain⟨e,y⟩:=y
  subst e
  exact hs i x σ _ (y xs q) p
 .have e:i=xs.length:=by omega
  subst e
  exact .inl ⟨⟨xs,q,aD _⟩,hd σ H p⟩
theorem jdM{lo:Int}{n:Nat}{g:TG}{tb:TS}{D:Ends}(Pv:Nat->St->Hp->Prop)(h0:Pv 0 σ H)
  (hs:∀i σ H,i < n->Pv i σ H->g (.int (lo+i)) σ H fun σ2 H2=>tb { D with nx:=Pv (i+1),ct:=Pv (i+1),bk:=D.nx } σ2 H2) (hd:∀σ H,Pv n σ H->D.nx σ H) :
  ∃W:Nat->Nat->St->Hp->Prop,(∃m,W 0 m σ H)/\∀i m σ H,W i m σ H->
   ((Itr lo n).stop i H/\D.nx σ H)\/((Itr lo n).go i H/\∃N:St->Hp->Prop,(∀σ' H',N σ' H'->∃m',m' < m/\W (i+1) m' σ' H')/\∀x H',(Itr lo n).yld i H x H'->g x σ H' fun σ2 H2=>tb { D with nx:=N,ct:=N,bk:=D.nx } σ2 H2):=by
 refine⟨fun i m σ H=>m=n - i/\i<=n/\Pv i σ H,⟨n,by simp,bT _,h0⟩,?_⟩
 rintro i m σ H ⟨rfl,hi,p⟩
 by_cases aP:i < n
 .refine .inr ⟨aP,Pv (i+1),fun σ' H' p'=>⟨n - (i+1),by omega,rfl,aP,p'⟩,fun x H' y=>?_⟩
  obtain⟨e,y⟩:=y
  subst e y
  exact hs i σ _ aP p
 .have e:i=n:=by omega
  subst e
  exact .inl ⟨aD _,hd σ H p⟩
abbrev R2:=V->V->Hp->VK->Prop
def OpR(X:Cx)(f:ag->ag->Sem ag)(r:R2):Prop:=
 ∀(ae:List (ad×Obj)) (s:ai) (σ:St) (H:Hp) (x y:V) (v u:ag) (Q:VK),Inv X ae σ H s->RelV x v->RelV y u->r x y H Q->
  au (ao X.prog X.w) X.A (f v u) (EP X ae σ Q) X.xe s
def UnR(X:Cx)(f:ag->Sem ag)(r:V->Hp->VK->Prop):Prop:=
 ∀(ae:List (ad×Obj)) (s:ai) (σ:St) (H:Hp) (x:V) (v:ag) (Q:VK),Inv X ae σ H s->RelV x v->r x H Q->
  au (ao X.prog X.w) X.A (f v) (EP X ae σ Q) X.xe s
def zp(X:Cx)(f:ag)(r:List V->Hp->VK->Prop):Prop:=
 ∀(ae:List (ad×Obj)) (s:ai) (σ:St) (H:Hp) (xs:List V) (us:List ag) (Q:VK),Inv X ae σ H s->Vals xs us->r xs H Q->
  au (ao X.prog X.w) X.A (call f us) (EP X ae σ Q) X.xe s
def jj0(X:Cx)(r:V->Hp->(Bool->Hp->Prop)->Prop):Prop:=
 ∀(ae:List (ad×Obj)) (s:ai) (σ:St) (H:Hp) (x:V) (v:ag) (Q:Bool->Hp->Prop),Inv X ae σ H s->RelV x v->r x H Q->
  au (ao X.prog X.w) X.A (truthy v) (TP X ae σ Q) X.xe s
def tOp(r:R2)(ta tb:TE):TE:=fun σ H Q=>ta σ H fun x H1=>tb σ H1 fun y H2=>r x y H2 Q
def tUn(r:V->Hp->VK->Prop)(ta:TE):TE:=fun σ H Q=>ta σ H fun x H1=>r x H1 Q
def rI(C:Int->Int->Prop)(g:Int->Int->V):R2:=fun x y H Q=>∃i j,x=.int i/\y=.int j/\C i j/\Q (g i j) H
def rI0(g:Int->Int->V):R2:=fun x y H Q=>∃i j,x=.int i/\y=.int j/\Q (g i j) H
def rU(g:Int->V):V->Hp->VK->Prop:=fun x H Q=>∃i,x=.int i/\Q (g i) H
section
variable {a b c:aj}{tc:TE}
theorem jiX(ha:PE X a ta)(hb:PE X b tb){R:V->V->Hp->Prop}(I:Inv X ae σ H s)
  (h:ta σ H fun x H1=>tb σ H1 fun y H2=>R x y H2) {Q:ag->ai->Prop} {f:ag->ag->Sem ag}
  (hf:∀v u s2 x y H2,Inv X ae σ H2 s2->RelV x v->RelV y u->R x y H2->au (ao X.prog X.w) X.A (f v u) Q X.xe s2) :
  au (ao X.prog X.w) X.A (eval a X.env) (fun v s₁=>au (ao X.prog X.w) X.A (eval b X.env) (fun u s₂=>au (ao X.prog X.w) X.A (f v u) Q X.xe s₂) X.xe s₁) X.xe s:=by
 refine thn (ha ae s σ H _ I h) fun v s1 hM=>?_
 obtain⟨x,H1,I1,r1,q1⟩:=hM
 refine thn (hb ae s1 σ H1 _ I1 q1) fun u s2 hM=>?_
 obtain⟨y,H2,I2,r2,q2⟩:=hM
 exact hf v u s2 x y H2 I2 r1 r2 q2
theorem jjm{op:Operator}{r:R2}(ho:OpR X (iQ op) r)(ha:PE X a ta)(hb:PE X b tb):PE X (.BinOp a op b pos) (tOp r ta tb):=by
 intro ae s σ H Q I h;exact wpAny_BinOp (jiX ha hb I h fun v u s2 x y H2 I2 rx ry q=>ho ae s2 σ H2 x y v u Q I2 rx ry q)
theorem jjl{op:UnaryOp}{r:V->Hp->VK->Prop}(ho:UnR X (unaryOp op) r)(ha:PE X a ta):PE X (.UnaryOp op a pos) (tUn r ta):=by
 intro ae s σ H Q I h;exact UnaryOp_ (thn (ha ae s σ H _ I h) fun v s1 ⟨x,H1,I1,r1,q1⟩=>ho ae s1 σ H1 x v Q I1 r1 q1)
theorem opI{f:ag->ag->Sem ag}{C:Int->Int->Prop}{g:Int->Int->Int}
  (rule:∀(i j:Int) (t u:Tok) (s:ai) (Q:ag->ai->Prop) (E:ag->ai->Prop),C i j->Q (.int (g i j) s.toks) { s with toks:=s.toks+1 }->au (ao X.prog X.w) X.A (f (.int i t) (.int j u)) Q E s) :
  OpR X f (rI C fun i j=>.int (g i j)):=by
 intro ae s σ H x y v u Q I rx ry h
 obtain⟨i,j,rfl,rfl,hc,q⟩:=h
 obtain⟨t,rfl⟩:=rx
 obtain⟨t',rfl⟩:=ry
 exact rule i j t t' s _ _ hc ⟨.int (g i j),H,I.tok _,⟨_,rfl⟩,q⟩
theorem jjw{f:ag->ag->Sem ag}{g:Int->Int->Int}
  (rule:∀(i j:Int) (t u:Tok) (s:ai) (Q:ag->ai->Prop) (E:ag->ai->Prop),Q (.int (g i j) s.toks) { s with toks:=s.toks+1 }->au (ao X.prog X.w) X.A (f (.int i t) (.int j u)) Q E s) :
  OpR X f (rI0 fun i j=>.int (g i j)):=by
 intro ae s σ H x y v u Q I rx ry h
 obtain⟨i,j,rfl,rfl,q⟩:=h
 obtain⟨t,rfl⟩:=rx
 obtain⟨t',rfl⟩:=ry
 exact rule i j t t' s _ _ ⟨.int (g i j),H,I.tok _,⟨_,rfl⟩,q⟩
theorem jjx{f:ag->ag->Sem ag}{g:Int->Int->Bool}
  (rule:∀(i j:Int) (t u:Tok) (s:ai) (Q:ag->ai->Prop) (E:ag->ai->Prop),Q (.bool (g i j)) s->au (ao X.prog X.w) X.A (f (.int i t) (.int j u)) Q E s) :
  OpR X f (rI0 fun i j=>.bl (g i j)):=by
 intro ae s σ H x y v u Q I rx ry h
 obtain⟨i,j,rfl,rfl,q⟩:=h
 obtain⟨t,rfl⟩:=rx
 obtain⟨t',rfl⟩:=ry
 exact rule i j t t' s _ _ ⟨.bl (g i j),H,I,rfl,q⟩
def jj6(i j:Int):Prop:=0<=j/\j<=1000000/\i.natAbs < 2 ^ 64
def CMul(i j:Int):Prop:=(-(2 ^ 64) < i/\i < 2 ^ 64)\/(-(2 ^ 64) < j/\j < 2 ^ 64)
theorem CMul.ok{i j:Int}(h:CMul i j):IntMulOk i j:=by
 rcases h with⟨h1,h2⟩ | ⟨h1,h2⟩
 .exact .of_left (intBits_le_64 h1 h2)
 .exact .of_right (intBits_le_64 h1 h2)
theorem qr:OpR X (iQ .Add) (rI0 fun i j=>.int (i+j)):=jjw fun _ _ _ _ _ _ _ q=>add_int q
theorem zo:OpR X (iQ .Sub) (rI0 fun i j=>.int (i - j)):=jjw fun _ _ _ _ _ _ _ q=>sub_int q
theorem qk:OpR X (iQ .Mult) (rI CMul fun i j=>.int (i * j)):=opI fun _ _ _ _ _ _ _ hc q=>mul_int q hc.ok
theorem jZ:OpR X (iQ .Mod) (rI (fun _ j=>0 < j) fun i j=>.int (i % j)):=opI fun i j _ _ _ _ _ hc q=>by
 have h1:(0:Int) < j:=hc;exact mod_int' (by omega) (by rw[Int.fmod_eq_emod_of_nonneg i (by omega)];exact q)
theorem JE:OpR X (iQ .Pow) (rI jj6 fun i j=>.int (i ^ j.toNat)):=opI fun _ _ _ _ _ _ _ hc q=>pow_int_small hc.1 hc.2.1 hc.2.2 q
theorem unI{f:ag->Sem ag}{g:Int->Int}
  (rule:∀(i:Int) (t:Tok) (s:ai) (Q:ag->ai->Prop) (E:ag->ai->Prop),Q (.int (g i) s.toks) { s with toks:=s.toks+1 }->au (ao X.prog X.w) X.A (f (.int i t)) Q E s) :
  UnR X f (rU fun i=>.int (g i)):=by
 intro ae s σ H x v Q I rx h
 obtain⟨i,rfl,q⟩:=h
 obtain⟨t,rfl⟩:=rx
 exact rule i t s _ _ ⟨.int (g i),H,I.tok _,⟨_,rfl⟩,q⟩
theorem ZP:UnR X (unaryOp .USub) (rU fun i=>.int (-i)):=unI fun _ _ _ _ _ q=>neg_int q
end
def jjf:V->V->Bool
 | .non,.non=>true | .non,.int _=>true | .int _,.non=>true | .non,.bl _=>true | .bl _,.non=>true | .non,.str _=>true | .str _,.non=>true
 | .int _,.int _=>true | .bl _,.bl _=>true | .str _,.str _=>true | .byt _,.byt _=>true
 | .int _,.str _=>true | .str _,.int _=>true | .bl _,.str _=>true | .str _,.bl _=>true
 | _,_=>false
def rEq:R2:=fun x y H Q=>jjf x y=true/\Q (.bl (decide (x=y))) H
def rNe:R2:=fun x y H Q=>jjf x y=true/\Q (.bl (!decide (x=y))) H
theorem jcQ{i j:Int}:decide (V.int i=V.int j)=(i == j):=by
 rw[nC];simp
theorem jfJ{i j:Bool}:decide (V.bl i=V.bl j)=(i == j):=by
 rw[nC];simp
theorem jcP{i j:Str}:decide (V.str i=V.str j)=(i == j):=by
 rw[nC];simp
theorem jcR{i j:Array UInt8}:decide (V.byt i=V.byt j)=(i.toList == j.toList):=by
 rw[nC]
 cases i
 cases j
 simp
section
variable {a b c:aj}{tc:TE}
theorem ko{Q:VK}{k k':Bool}(I:Inv X ae σ H s)(q:Q (.bl k) H)(e:k=k'):EP X ae σ Q (.bool k') s:=by
 subst e;exact⟨.bl k,H,I,rfl,q⟩
theorem ku:OpR X (fe .Eq) rEq:=by
 intro ae s σ H x y v u Q I rx ry h;obtain⟨hs,q⟩:=h
 cases x with
 | non=>
  cases rx
  cases y with
  | non=>cases ry;exact PySem.EqNone.eq_none_none (ko I q (by simp))
  | bl j=>cases ry;exact PySem.EqNone.eq_none_bool (ko I q (by simp))
  | int j=>obtain⟨t',rfl⟩:=ry;exact PySem.EqNone.eq_none_int (ko I q (by simp))
  | str j=>obtain⟨t',rfl⟩:=ry;exact PySem.EqNone.eq_none_str (ko I q (by simp))
  | _=>exact absurd (show false=true from hs) c9
 | bl i=>
  cases rx
  cases y with
  | non=>cases ry;exact PySem.EqNone.eq_bool_none (ko I q (by simp))
  | bl j=>cases ry;exact eq_bool (ko I q jfJ)
  | str j=>obtain⟨t',rfl⟩:=ry;exact PySem.EqMixed.eq_bool_str (ko I q (by simp))
  | _=>exact absurd (show false=true from hs) c9
 | int i=>
  obtain⟨t,rfl⟩:=rx
  cases y with
  | non=>cases ry;exact PySem.EqNone.eq_int_none (ko I q (by simp))
  | int j=>obtain⟨t',rfl⟩:=ry;exact eq_int (ko I q jcQ)
  | str j=>obtain⟨t',rfl⟩:=ry;exact PySem.EqMixed.eq_int_str (ko I q (by simp))
  | _=>exact absurd (show false=true from hs) c9
 | str i=>
  obtain⟨t,rfl⟩:=rx
  cases y with
  | non=>cases ry;exact PySem.EqNone.eq_str_none (ko I q (by simp))
  | bl j=>cases ry;exact PySem.EqMixed.eq_str_bool (ko I q (by simp))
  | int j=>obtain⟨t',rfl⟩:=ry;exact PySem.EqMixed.eq_str_int (ko I q (by simp))
  | str j=>obtain⟨t',rfl⟩:=ry;exact eq_str (ko I q jcP)
  | _=>exact absurd (show false=true from hs) c9
 | byt i=>
  obtain⟨t,rfl⟩:=rx
  cases y with
  | byt j=>obtain⟨t',rfl⟩:=ry;exact PySem.W.eq_bytes (ko I q jcR)
  | _=>exact absurd (show false=true from hs) c9
 | _=>cases y <;> exact absurd (show false=true from hs) c9
theorem jhM:OpR X (fe .NotEq) rNe:=by
 intro ae s σ H x y v u Q I rx ry h;obtain⟨hs,q⟩:=h
 cases x with
 | non=>
  cases rx
  cases y with
  | non=>cases ry;exact PySem.EqNone.ne_none_none (ko I q (by simp))
  | bl j=>cases ry;exact PySem.EqNone.ne_none_bool (ko I q (by simp))
  | int j=>obtain⟨t',rfl⟩:=ry;exact PySem.EqNone.ne_none_int (ko I q (by simp))
  | str j=>obtain⟨t',rfl⟩:=ry;exact PySem.EqNone.ne_none_str (ko I q (by simp))
  | _=>exact absurd (show false=true from hs) c9
 | bl i=>
  cases rx
  cases y with
  | non=>cases ry;exact PySem.EqNone.ne_bool_none (ko I q (by simp))
  | bl j=>cases ry;exact ne_bool (ko I q (Qz not jfJ))
  | str j=>obtain⟨t',rfl⟩:=ry;exact PySem.EqMixed.ne_bool_str (ko I q (by simp))
  | _=>exact absurd (show false=true from hs) c9
 | int i=>
  obtain⟨t,rfl⟩:=rx
  cases y with
  | non=>cases ry;exact PySem.EqNone.ne_int_none (ko I q (by simp))
  | int j=>obtain⟨t',rfl⟩:=ry;exact ne_int (ko I q (Qz not jcQ))
  | str j=>obtain⟨t',rfl⟩:=ry;exact PySem.EqMixed.ne_int_str (ko I q (by simp))
  | _=>exact absurd (show false=true from hs) c9
 | str i=>
  obtain⟨t,rfl⟩:=rx
  cases y with
  | non=>cases ry;exact PySem.EqNone.ne_str_none (ko I q (by simp))
  | bl j=>cases ry;exact PySem.EqMixed.ne_str_bool (ko I q (by simp))
  | int j=>obtain⟨t',rfl⟩:=ry;exact PySem.EqMixed.ne_str_int (ko I q (by simp))
  | str j=>obtain⟨t',rfl⟩:=ry;exact ne_str (ko I q (Qz not jcP))
  | _=>exact absurd (show false=true from hs) c9
 | byt i=>
  obtain⟨t,rfl⟩:=rx
  cases y with
  | byt j=>obtain⟨t',rfl⟩:=ry;exact PySem.W.ne_bytes (ko I q (Qz not jcR))
  | _=>exact absurd (show false=true from hs) c9
 | _=>cases y <;> exact absurd (show false=true from hs) c9
theorem Zq:OpR X (fe .Lt) (rI0 fun i j=>.bl (decide (i < j))):=jjx fun _ _ _ _ _ _ _ q=>lt_int q
theorem jjv:OpR X (fe .Gt) (rI0 fun i j=>.bl (decide (j < i))):=jjx fun _ _ _ _ _ _ _ q=>gt_int q
theorem jI(b:aj){op:CmpOp}(h:op≠.In:=by decide)(h2:op≠.NotIn:=by decide):iR op b=false:=by
 have e1:(op == CmpOp.In)=false:=by cases op <;> first | rfl | exact absurd rfl h
 have e2:(op == CmpOp.NotIn)=false:=by cases op <;> first | rfl | exact absurd rfl h2
 cases b <;> simp[iR,e1,e2]
theorem jgH{op:CmpOp}{r:R2}(ho:OpR X (fe op) r)(ha:PE X a ta)(hb:PE X b tb)(hm:iR op b=false):PE X (.Compare a [op] [b] pos) (tOp r ta tb):=by
 intro ae s σ H Q I h;exact wpAny_Compare1 (jiX ha hb I h fun v u s2 x y H2 I2 rx ry q=>ho ae s2 σ H2 x y v u Q I2 rx ry q) hm
def jhA(t:TE):TT:=fun σ H Q=>t σ H fun x H'=>∃k,x=.bl k/\Q k H'
theorem jgl{op:CmpOp}{r:R2}(ho:OpR X (fe op) r)(ha:PE X a ta)(hb:PE X b tb)(hm:iR op b=false):PT X (.Compare a [op] [b] pos) (jhA (tOp r ta tb)):=by
 intro ae s σ H Q I h;refine Nc (thn (ha ae s σ H _ I h) fun v s1 ⟨x,H1,I1,r1,q1⟩=>thn (hb ae s1 σ H1 _ I1 q1) fun u s2 ⟨y,H2,I2,r2,q2⟩=>
  thn (ho ae s2 σ H2 x y v u _ I2 r1 r2 q2) fun c s3 ⟨z,H3,I3,r3,k,e,q3⟩=>?_) hm
 subst e
 cases r3
 exact rD ⟨H3,I3,q3⟩
def jhu(K:aw)(x:V)(H:Hp)(k:Bool):Prop:=
 match x with
 | .non=>k=false
 | .bl b=>k=b
 | .int i=>k=(i != 0)
 | .str y=>y.length<=aI/\k=((y.length:Int) != 0)
 | .byt y=>y.size<=aI/\k=((y.size:Int) != 0)
 | .ref p=>(∃xs,SqL K H p xs/\k=!xs.isEmpty)\/(∃xs,SqT K H p xs/\k=!xs.isEmpty)\/∃kvs,H p=some (.dK kvs)/\k=!kvs.isEmpty
 | _=>False
theorem jbX{κ:Type}{kvs:List (κ×V)}{vs:List (κ×ag)}(r:KV kvs vs):(!vs.isEmpty)=!kvs.isEmpty:=by
 cases r <;> rfl
theorem YL{its:List ag}(r:Vals xs its):(!its.toArray.isEmpty)=!xs.isEmpty:=by
 cases r <;> simp
theorem YG:(aI:Nat) < 2 ^ 63:=by rw[gM];decide
theorem jh5:jj0 X (fun x H Q=>∃k,jhu X.K x H k/\Q k H):=by
 intro ae s σ H x v Q I rx h;obtain⟨k,e,q⟩:=h;have hl:=YG;have hs:aI=16777216:=gM
 cases x with
 | non=>
  cases rx
  have e':k=false:=e;subst e';exact truthy_none ⟨H,I,q⟩
 | bl b=>
  cases rx
  have e':k=b:=e;subst e';exact rD ⟨H,I,q⟩
 | int i=>
  obtain⟨t,rfl⟩:=rx;have e':k=(i != 0):=e;subst e';exact PySem.P.truthy_int ⟨H,I,q⟩
 | str y=>
  obtain⟨t,rfl⟩:=rx;obtain⟨hy,e'⟩:y.length<=aI/\k=((y.length:Int) != 0):=e;subst e';exact PySem.P.truthy_str (by omega) ⟨H,I.tok _,q⟩
 | byt y=>
  obtain⟨t,rfl⟩:=rx;obtain⟨hy,e'⟩:y.size<=aI/\k=((y.size:Int) != 0):=e;subst e';exact PySem.W.truthy_bytes (by omega) ⟨H,I.tok _,q⟩
 | ref p=>
  cases rx
  have e':(∃xs,SqL X.K H p xs/\k=!xs.isEmpty)\/(∃xs,SqT X.K H p xs/\k=!xs.isEmpty)\/∃kvs,H p=some (.dK kvs)/\k=!kvs.isEmpty:=e;rcases e' with⟨xs,hx,e'⟩ | ⟨xs,hx,e'⟩ | ⟨kvs,hx,e'⟩
  .subst e'
   obtain⟨its,r,pl,hz⟩:=I.list hx;have bu:=r.length;exact wpAny_truthy_list pl.isList (by simp only[c7];omega) ⟨H,I.tok _,by rw[YL r];exact q⟩
  .subst e'
   obtain⟨its,r,pl,hz⟩:=I.tuple hx;have bu:=r.length;exact truthy_tuple pl (by simp only[c7];omega) ⟨H,I.tok _,by rw[YL r];exact q⟩
  .subst e'
   obtain⟨hz,hS,vs,r,m⟩:kvs.length<=aI/\(p == gh)=false/\∃vs,KV kvs vs/\s.heap.DictOf (j6 X.prog X.w) p vs:=I.hok p _ hx;have bu:kvs.length=vs.length:=A7 r;exact wpAny_truthy_dict hS m (by omega) ⟨H,I.tok _,by rw[jbX r];exact q⟩
 | _=>exact (show False from e).elim
theorem jeI(ha:PE X a ta)(he:∀fB,isTrue a X.env fB=(do let v <- fB;lK a.pos;holding [v] (truthy v))):
  PT X a (fun σ H Q=>ta σ H fun x H'=>∃k,jhu X.K x H' k/\Q k H'):=by
 intro ae s σ H Q I h
 exact isTrue_plain (thn (ha ae s σ H _ I h) fun v s1 ⟨x,H1,I1,r1,q1⟩=>jh5 ae s1 σ H1 x v Q I1 r1 q1) (he _)
theorem jbM:OpR X (iQ .Add) (fun x y H Q=>∃i j,x=.str i/\y=.str j/\i.length+j.length<=aI/\Q (.str (i++j)) H):=by
 intro ae s σ H x y v u Q I rx ry h;obtain⟨i,j,rfl,rfl,hz,q⟩:=h;obtain⟨t,rfl⟩:=rx;obtain⟨t',rfl⟩:=ry;exact add_str (fun t' tk=>⟨.str (i++j),H,I.tok _,⟨_,rfl⟩,q⟩) hz
theorem yU{x:V}(r:Vals [x] us):∃u,us=[u]/\RelV x u:=by
 cases r with
 | cons r1 r2=>cases r2;exact⟨_,rfl,r1⟩
theorem jhx{x:V}(r:Vals [x,y] us):∃u w',us=[u,w']/\RelV x u/\RelV y w':=by
 cases r with
 | cons r1 r2=>
  cases r2 with
  | cons r3 r4=>cases r4;exact⟨_,_,rfl,r1,r3⟩
theorem zw:zp X (.type "int") (fun xs H Q=>(∃i,xs=[.int i]/\Q (.int i) H)\/∃k,xs=[.bl k]/\Q (.int (if k then 1 else 0)) H):=by
 intro ae s σ H xs us Q I r h;rcases h with⟨i,rfl,q⟩ | ⟨k,rfl,q⟩
 .obtain⟨u,rfl,t,rfl⟩:=yU r
  exact call_int_int ⟨.int i,H,I,⟨_,rfl⟩,q⟩
 .obtain⟨u,rfl,r1⟩:=yU r
  cases r1
  exact call_int_bool ⟨.int (if k then 1 else 0),H,I.tok _,⟨_,rfl⟩,q⟩
end
structure ObjM(h:ar)(x dx C:ad)(mA:Str->Option ag):Prop where
 obj:h.get? x=some (mZ C dx)
 ns:h.Ns1 dx mA
 ne:dx≠x
variable {dx:ad}{mA:Str->Option ag}
theorem jdB(n:h.Ns1 dx mA):∃od,h.get? dx=some od/\∀name,E7 name od=some (mA name):=by
 obtain⟨o,es,ep,ho,hd,hk,_,hm⟩:=n;refine⟨o,ho,fun name=>?_⟩;have e:=hm name;unfold nsFind findBy at e;rw[<- Array.find?_toList]at e;unfold E7;rw[hd];dsimp only;split
 .rename_i y q
  rw[q]at e;exact Qz some e
 .rename_i q
  rw[q]at e;have a:es.toList.any (·.refKey)=false:=by
   rw[List.any_eq_false];intro y hy;obtain⟨z,t,xF⟩:=hk y (Qq.mp hy);simp[iW.refKey,xF]
  have a':¬es.toList.any (·.refKey)=true:=by rw[a];exact c9
  rw[Qw a'];exact Qz some e
variable {C:ad}
theorem ObjM.look{x:ad}(I:ObjM h x dx C mA):∃od,PySem.W.InstAt h x (mZ C dx) C (some od)/\∀name,E7 name od=some (mA name):=
 let ⟨od,ho,hl⟩:=jdB I.ns
 ⟨od,⟨I.obj,rfl,rfl,ho⟩,hl⟩
variable {f:ad}{kw:List (Str×ag)}
section
variable {prog:aE}{x:ad}{name:Str}{v:ag}
theorem jhj{Mo:Bool}(X:K.In s.heap)(I:ObjM s.heap x dx C mA)(hg:mY K C name=true)(hh:m_ K C=true)
  (ha:cr K (.ref C) name=some none) (hv:mA name=some v) (mm:N4 v=true) (h:Q v { s with toks:=s.toks+1 }) :
  au (ao prog w) A (getAttr (.ref x) name Mo) Q E s:=by
 obtain⟨od,J,hl⟩:=I.look
 exact PySem.W.get_value X J (PySem.W.plainGet_of hg).1 (PySem.W.findObj_own hh ha rfl (by rw[hl,hv])) mm h
theorem jgd{ns:List Str}{Q:Unit->ai->Prop}(X:K.In s.heap)(I:ObjM s.heap x dx C mA)
  (hs:cr K (.ref C) "__setattr__" = some (some (.builtin "object.__setattr__"))) (hp:oJ K C=true) (ht:E4 K C name=some none) (hh:m_ K C=true)
  (hw:A1 mA ns) (hsz:ns.length<=aI)
  (h:∀h',ObjM h' x dx C (fun y=>if y=name then some v else mA y)->lP dx s.heap h'->Q () { s with heap:=h',toks:=s.toks+2 }) :
  au (ao prog w) A (setAttr (.ref x) name v) Q E s:=by
 obtain⟨od,J,hl⟩:=I.look
 refine PySem.W.set_plain X J hs (PySem.W.osa_open (s:={ s with toks:=s.toks+1 }) (r:=none) X J hp ht fun b=>?_)
 obtain⟨cd,hc,mH⟩:=PySem.W.any_some hh
 have hx:s.heap.get? x=some ⟨.ref C,some dx,.plain,#[]⟩:=I.obj
 refine aq (aH (aq (aq (wpAny_loadPart hx (aq (PySem.W.Looks.here (s:={ s with toks:=s.toks+1 }) (PySem.W.looks_clsIn X hc) ?_))))))
 rw[mH]
 refine aH (a:=some dx) (aq (aH (aq ?_)))
 refine wpAny_nsSet1 (s:={ s with toks:=s.toks+1 }) I.ns fun h' hZ gH=>?_
 obtain⟨oD,esD,epD,IN,Lq,Lv⟩:=hZ.count (A1.cons name v hw)
 refine aq (wpAny_lookBehind IN (by rw[Lq];exact pastItsLine_dict (aJ Lv (by rw[ck];omega))) ?_)
 exact aH (h _ ⟨(gH.2 _ (eG I.ne)).trans I.obj,hZ,I.ne⟩ gH)
theorem jfr{R:rM->ai->Prop}{vs:List ag}(X:K.In s.heap)(hm:oK K C=true)
  (hi:cr K (.ref C) "__init__" = some (some (.ref f))) (hf:PySem.W.typeIn K (.ref f)=some (.type "function"))
  (h:dP (ao prog w) (A.under (.builtin "type.__call__" ⟨.ref C :: vs,kw⟩)) (.call (.ref f) ⟨.ref (s.heap.objs.size+1) :: vs,kw⟩) (PySem.W.InitBack (s.heap.objs.size+1) R)
   { s with heap:=(s.heap.push lM).push (mZ C s.heap.objs.size) }) :
  dP (ao prog w) A (.call (.ref C) ⟨vs,kw⟩) R s:=by
 obtain⟨hh,g,d,t,os⟩:=s
 exact PySem.W.make_core (PySem.W.makes_of X hm) (PySem.W.looks_findIn X hi) (fun self=>PySem.W.bind_fn X self hf) (.inl rfl) h
end
def yG(f:Str)(v:V):List (Str×V)->List (Str×V)
 | []=>[(f,v)]
 | (g,x) :: r=>if g=f then (g,v) :: r else (g,x) :: yG f v r
theorem KS(f g:Str)(v:V):∀fs:List (Str×V),(yG f v fs).lookup g=if g=f then some v else fs.lookup g
 | []=>by
  show iZ g [(f,v)]=_;by_cases h:g=f
  .have hb:(g == f)=true:=beq_iff_eq.mpr h
   simp only[iZ,hb,Qx h]
  .have hb:(g == f)=false:=Qy.mpr h
   simp only[iZ,hb,Qw h]
 | (k,x) :: r=>by
  have ih:=KS f g v r;rw[show yG f v ((k,x) :: r)=(if k=f then (k,v) :: r else (k,x) :: yG f v r) from rfl];by_cases hk:k=f
  .rw[Qx hk]
   by_cases h:g=k
   .have hb:(g == k)=true:=beq_iff_eq.mpr h
    simp only[iZ,hb,Qx (h.trans hk)]
   .have hb:(g == k)=false:=Qy.mpr h
    simp only[iZ,hb,Qw (fun e:g=f=>h (e.trans hk.symm))]
  .rw[Qw hk]
   by_cases h:g=k
   .have hb:(g == k)=true:=beq_iff_eq.mpr h
    simp only[iZ,hb,Qw (fun e:g=f=>hk (h.symm.trans e))]
   .have hb:(g == k)=false:=Qy.mpr h
    simp only[iZ,hb];exact ih
theorem KF(f:Str)(v:V):∀fs:List (Str×V),f∈(yG f v fs).map (·.1)/\∀g,g∈fs.map (·.1)->g∈(yG f v fs).map (·.1)
 | []=>⟨by simp[yG],fun g h=>by simp at h⟩
 | (k,x) :: r=>by
  obtain⟨i1,i2⟩:=KF f v r;rw[show yG f v ((k,x) :: r)=(if k=f then (k,v) :: r else (k,x) :: yG f v r) from rfl];by_cases hk:k=f
  .rw[Qx hk]
   subst hk;exact⟨by simp,fun g h=>by simpa using h⟩
  .rw[Qw hk]
   refine⟨?_,fun g h=>?_⟩
   .rw[aU]
    exact ce _ i1
   .rw[aU]at h |-
    rcases bG.mp h with e | e
    .exact bG.mpr (.inl e)
    .exact ce _ (i2 g e)
theorem KU(f:Str)(v:V):∀fs:List (Str×V),(yG f v fs).length<=fs.length+1
 | []=>by simp[yG]
 | (k,x) :: r=>by
  have ih:=KU f v r;rw[show yG f v ((k,x) :: r)=(if k=f then (k,v) :: r else (k,x) :: yG f v r) from rfl];by_cases hk:k=f
  .rw[Qx hk,ck,ck];omega
  .rw[Qw hk,ck,ck];omega
theorem RelO.some_of{o:Option ag}(r:RelO (some v) o):∃u,o=some u/\RelV v u:=by
 cases o with
 | none=>exact (show False from r).elim
 | some u=>exact⟨u,rfl,r⟩
theorem RelO.none_of{o:Option ag}(r:RelO none o):o=none:=by
 cases o with
 | none=>rfl
 | some u=>exact (show False from r).elim
theorem jdL(r:RelV v u):N4 u=true:=by
 cases v with
 | non=>cases (show u=Value.none from r);rfl
 | bl b=>cases (show u=Value.bool b from r);rfl
 | int i=>obtain⟨t,e⟩:=(show ∃t,u=Value.int i t from r);cases e;rfl
 | str x=>obtain⟨t,e⟩:=(show ∃t,u=Value.str x t from r);cases e;rfl
 | byt b=>obtain⟨t,e⟩:=(show ∃t,u=Value.bytes b t from r);cases e;rfl
 | flt b=>obtain⟨t,e⟩:=(show ∃t,u=Value.float b t from r);cases e;rfl
 | ref a=>cases (show u=Value.ref a from r);rfl
 | ty n=>cases (show u=Value.type n from r);rfl
section
variable {fs tV:List (Str×V)}
theorem jak(hok:HOk P w H h)(e:H a=some (.ins C dx fs)):∃mA,ObjM h a dx C mA/\(∀f,RelO (fs.lookup f) (mA f))/\A1 mA (fs.map (·.1))/\fs.length<=1000/\H dx=some (.own a):=by
 obtain⟨d,z,ne,ob,mA,n,r,q⟩:=(show ObjOk P w H h a (.ins C dx fs) from hok a _ e)
 exact⟨mA,⟨ob,n,ne⟩,r,q,z,d⟩
end
structure Cls(K:aw)(C:ad):Prop where
 pg:mY K C Fa=true
 hd:m_ K C=true
 po:oJ K C=true
 sa:cr K (.ref C) "__setattr__" = some (some (.builtin "object.__setattr__"))
theorem Cls.get(c:Cls K C)(f:Str):mY K C f=true:=c.pg
def NoAttr(K:aw)(C:ad)(f:Str):Prop:=cr K (.ref C) f=some none
theorem NoAttr.taker{f:Str}(n:NoAttr K C f):E4 K C f=some none:=by
 unfold E4;rw[show cr K (.ref C) f=some none from n];rfl
section
variable {fs:List (Str×V)}{f:Str}
theorem jb1{b:Bool}(I:Inv X ae σ H s)(e:H a=some (.ins C dx fs))(c:Cls X.K C)(n:NoAttr X.K C f)(l:fs.lookup f=some v)
  (h:∀u s',Inv X ae σ H s'->RelV v u->Q u s'):au (ao X.prog X.w) A (getAttr (.ref a) f b) Q E s:=by
 obtain⟨mA,O,r,_,_,_⟩:=jak I.hok e
 obtain⟨u,hu,ru⟩:=RelO.some_of (v:=v) (o:=mA f) (by rw[<- l];exact r f)
 exact jhj I.kIn O (c.get f) c.hd n hu (jdL ru) (h u _ (I.tok _) ru)
theorem jbG{Q:Unit->ai->Prop}(I:Inv X ae σ H s)(e:H a=some (.ins C dx fs))(c:Cls X.K C)(n:NoAttr X.K C f)(hl:fs.length < 1000)(ry:RelV y u)
  (h:∀s',Inv X ae σ (upd H a (.ins C dx (yG f y fs))) s'->Q () s'):au (ao X.prog X.w) A (setAttr (.ref a) f u) Q E s:=by
 obtain⟨mA,O,r,wi,_,ho⟩:=jak I.hok e
 have hz:(fs.map (·.1)).length<=aI:=by rw[az,gM];omega
 refine jgd I.kIn O c.sa c.po n.taker c.hd wi hz fun h' O' sb=>h _ ?_
 have hd:∃o,h'.get? dx=some o:=let ⟨o,_,_,e',_⟩:=O'.ns;⟨o,e'⟩
 refine I.write (x:=a) (e:=dx) (by rw[e];exact True.intro) (.inr ho) (fun b q hb z=>(sb.2 b hb).trans z) hd ?_
 refine⟨by rw[jB O.ne];exact ho,?_,O.ne,O'.obj,_,O'.ns,fun g=>?_,fun g hg=>?_⟩
 .have:=KU f y fs;omega
 .show RelO ((yG f y fs).lookup g) (if g=f then some u else mA g)
  rw[KS]
  by_cases q:g=f
  .rw[Qx q,Qx q];exact ry
  .rw[Qw q,Qw q];exact r g
 .by_cases q:g=f
  .rw[q];exact (KF f y fs).1
  .refine (KF f y fs).2 g (wi g fun z=>hg ?_)
   show (if g=f then some u else mA g)=none
   rw[Qw q];exact z
theorem Inv.made(I:Inv X ae σ H s):Inv X ae σ (upd (upd H s.heap.objs.size (.own (s.heap.objs.size+1))) (s.heap.objs.size+1) (.ins C s.heap.objs.size []))
  { s with heap:=(s.heap.push lM).push (mZ C s.heap.objs.size) }:=by
 have e1:(s.heap.push lM).get? s.heap.objs.size=some lM:=dg s.heap rfl
 have e2:((s.heap.push lM).push (mZ C s.heap.objs.size)).get? (s.heap.objs.size+1)=some (mZ C s.heap.objs.size):=by
  have:=dg (s.heap.push lM) (o:=mZ C s.heap.objs.size) rfl;rwa [vh]at this
 have e3:(s.heap.push lM).Ns s.heap.objs.size (fun _=>none):=⟨lM,#[],_,e1,rfl,(fun e he=>absurd he (by simp)),fun _=>rfl⟩
 have I1:=I.laid (a:=s.heap.objs.size) (o:=.own (s.heap.objs.size+1)) (h':=s.heap.push lM) (t':=s.toks) (fun b u q=>b_ _ q) (aD _) ⟨_,e1⟩
 refine I1.laid (a:=s.heap.objs.size+1) (o:=.ins C s.heap.objs.size []) (t':=s.toks) (fun b u q=>b_ _ q) (nq (vh _ _)) ?_
 have ne:s.heap.objs.size≠s.heap.objs.size+1:=cb (Pz _)
 refine⟨by rw[jB ne,jf],bT _,ne,e2,fun _=>none,(ar.Ns1.of_empty e3).at fun o q=>b_ _ q,fun _=>True.intro,fun y hy=>absurd rfl hy⟩
theorem jhq{prog:aE}{env:Env}{f:Str}(hb:gj e f env (eval e env)=eval e env)
  (h:au (ao prog w) A (eval e env) (fun o s₁=>au (ao prog w) A (getAttr o f true) Q E s₁) E s):au (ao prog w) A (eval (.Attribute e f pos) env) Q E s:=
 Attribute_any_ h (by rw[arm_eval_Attribute,hb])
end
def jf9(K:aw)(ta:TE)(f:Str):TE:=fun σ H Q=>ta σ H fun x H1=>∃a C dx fs v,x=.ref a/\H1 a=some (.ins C dx fs)/\Cls K C/\NoAttr K C f/\fs.lookup f=some v/\Q v H1
def jjg(K:aw)(ta tv:TE)(f:Str):TS:=fun D σ H=>tv σ H fun y H1=>ta σ H1 fun x H2=>∃a C dx fs,x=.ref a/\H2 a=some (.ins C dx fs)/\Cls K C/\NoAttr K C f/\fs.length < 1000/\
 D.nx σ (upd H2 a (.ins C dx (yG f y fs)))
section
variable {o value:aj}{f:Str}{dL GG:Pos}{tv:TE}
theorem jeZ(he:PE X e ta)(hb:gj e f X.env (eval e X.env)=eval e X.env):PE X (.Attribute e f pos) (jf9 X.K ta f):=by
 intro ae s σ H Q I h;refine jhq hb (thn (he ae s σ H _ I h) fun u s1 hM=>?_);obtain⟨x,H1,I1,rx,a,C,dx,fs,v,ex,ea,c,n,l,q⟩:=hM;subst ex;obtain rfl:u=Value.ref a:=rx;exact jb1 I1 ea c n l fun u' s2 I2 ru=>⟨v,H1,I2,ru,q⟩
theorem jio(ha:PE X o ta)(hv:PE X value tv)(hs:iP value (some (.Attribute o f dL)) pos.line X.env=pure false):PS X (.Assign [.Attribute o f dL] value pos) (jjg X.K ta tv f):=by
 intro ae s σ H D I h;refine plainObj_wpAny_Assign_Attribute (thn (hv ae s σ H _ I h) fun u s1 ⟨y,H1,I1,ry,q⟩=>thn (ha ae s1 σ H1 _ I1 q) fun ov s2 hM=>?_) hs;obtain⟨x,H2,I2,rx,a,C,dx,fs,ex,ea,c,n,l,q2⟩:=hM;subst ex;obtain rfl:ov=Value.ref a:=rx;exact jbG I2 ea c n l ry fun s3 I3=>⟨σ,_,I3,q2⟩
end
section
variable {c:ag}{b:Bool}
inductive TyOf(K:aw)(H:Hp):V->ag->Prop where
 | non:TyOf K H .non (.type "NoneType")
 | bl (x:Bool):TyOf K H (.bl x) (.type "bool")
 | int (i:Int):TyOf K H (.int i) (.type "int")
 | str (x:Str):TyOf K H (.str x) (.type "str")
 | flt (x:UInt64):TyOf K H (.flt x) (.type "float")
 | lst {a:ad} {xs:List V} (e:H a=some (.lst xs)):TyOf K H (.ref a) (.type "list")
 | frz {a:ad} {o:Obj} {xs:List V} (e:H a=some (.frz o (.lst xs))):TyOf K H (.ref a) (.type "list")
 | tup {a:ad} {xs:List V} (e:H a=some (.tup xs)):TyOf K H (.ref a) (.type "tuple")
 | dK {a:ad} {kvs:List (Key×V)} (e:H a=some (.dK kvs)):TyOf K H (.ref a) (.type "dict")
 | dT {a:ad} {kvs:List (List Key×V)} (e:H a=some (.dT kvs)):TyOf K H (.ref a) (.type "dict")
 | ins {a C dx:ad} {fs:List (Str×V)} (e:H a=some (.ins C dx fs)) (cl:Cls K C) (ha:cr K (.ref C) "__class__" = some (some (.builtin "object.__class__")))
   (hn:PySem.W.specialIn K (.builtin "object.__class__") "__get__" = some (some (.builtin "getset_descriptor.__get__"))) (nP:PySem.W.takesIn K (.builtin "object.__class__")=some true)
   (hm:PySem.W.mroIn K C (.type "object")=some true):TyOf K H (.ref a) (.ref C)
theorem jdH{x:V}{t:ag}(I:Inv X ae σ H s)(rx:RelV x u)(ty:TyOf X.K H x t)(e:E8 X.K t c=some b)(h:∀tk,Q (.bool b) { s with toks:=tk }):
  au (ao X.prog X.w) A (call (.builtin "isinstance") [u,c]) Q E s:=by
 cases ty with
 | non=>cases (show u=Value.none from rx);exact im PySem.W.kitx_none I.kIn True.intro e (fun z=>nomatch z) h
 | bl y=>cases (show u=Value.bool y from rx);exact im PySem.W.kitx_bool I.kIn True.intro e (fun z=>nomatch z) h
 | int i=>obtain⟨t,q⟩:=(show ∃t,u=Value.int i t from rx);cases q;exact im PySem.W.kitx_int I.kIn True.intro e (fun z=>nomatch z) h
 | str y=>obtain⟨t,q⟩:=(show ∃t,u=Value.str y t from rx);cases q;exact im PySem.W.kitx_str I.kIn True.intro e (fun z=>nomatch z) h
 | flt y=>obtain⟨t,q⟩:=(show ∃t,u=Value.float y t from rx);cases q;exact im PySem.W.kitx_float I.kIn True.intro e (fun z=>nomatch z) h
 | @lst a xs ea=>
  cases (show u=Value.ref a from rx)
  obtain⟨_,_,n,_,h1⟩:=(show ObjOk X.prog X.w H s.heap a (.lst xs) from I.hok a _ ea)
  exact im NX I.kIn ⟨_,h1,rfl⟩ e (fun z=>nomatch z) h
 | @frz a ob xs ea=>
  cases (show u=Value.ref a from rx)
  obtain⟨_,_,_,n,_,h1⟩:=(show ObjOk X.prog X.w H s.heap a (.frz ob (.lst xs)) from I.hok a _ ea)
  exact im NX I.kIn ⟨_,h1,rfl⟩ e (fun z=>nomatch z) h
 | @tup a xs ea=>
  cases (show u=Value.ref a from rx)
  obtain⟨_,_,_,p⟩:=(show ObjOk X.prog X.w H s.heap a (.tup xs) from I.hok a _ ea)
  obtain⟨o,h1,h2,_⟩:=p
  exact im PySem.W.kitx_tuple I.kIn ⟨o,h1,h2⟩ e (fun z=>nomatch z) h
 | @dK a kvs ea=>
  cases (show u=Value.ref a from rx)
  obtain⟨_,_,vs,_,p⟩:=(show ObjOk X.prog X.w H s.heap a (.dK kvs) from I.hok a _ ea)
  obtain⟨o,es,ep,h1,h2,_⟩:=p
  exact im NY I.kIn ⟨o,h1,h2.1⟩ e (fun z=>nomatch z) h
 | @dT a kvs ea=>
  cases (show u=Value.ref a from rx)
  obtain⟨_,_,xs,_,o,es,ep,h1,h2,_⟩:=(show ObjOk X.prog X.w H s.heap a (.dT kvs) from I.hok a _ ea)
  exact im NY I.kIn ⟨o,h1,h2.1⟩ e (fun z=>nomatch z) h
 | @ins a C dx fs ea cl ha hn nP hm=>
  cases (show u=Value.ref a from rx)
  obtain⟨mA,O,_⟩:=jak I.hok ea
  obtain⟨od,J,_⟩:=O.look
  exact im (PySem.W.kitx_own (cl.get _) cl.hd ha hn nP hm) I.kIn J e (fun z=>nomatch z) h
end
structure Room(k:Nat)(A:aS):Prop where
 hd:A.handled=none
 dp:A.depth+3 * k+5 < recursionLimit
 un:A.units+16 * k+200 < cLine
 gd:A.guards=some []
theorem Room.mono{k:Nat}(r:Room k A)(h:j<=k):Room j A:=⟨r.hd,by have:=r.dp;omega,by have:=r.un;omega,r.gd⟩
theorem Room.deeper{k:Nat}(r:Room (k+1) A)(env:Env):Room k (A.deeper env):=
 ⟨r.hd,by have:=r.dp;show A.depth+1+3 * k+5 < _;omega,by have:=r.un;show A.units+3+16 * k+200 < _;omega,r.gd⟩
theorem Room.in1{k:Nat}(r:Room (k+1) A):Room k A.in1:=
 ⟨r.hd,by have:=r.dp;show A.depth+3 * k+5 < _;omega,by have:=r.un;show A.units+1+16 * k+200 < _;omega,r.gd⟩
theorem jbS:(A.under (.builtin "type.__call__" ⟨.ref C :: us,kw⟩)).depth=A.depth+1:=by
 first | rfl | simp[Fx,Code.weight,Code.isCreation,Code.isGuard,Code.isCaller,OO,Fq,guardIds]
theorem jbR:(A.under (.builtin "type.__call__" ⟨.ref C :: us,kw⟩)).units=A.units+1:=by
 first | rfl | simp[Fx,Code.cUnits,OO,Fq]
theorem ja6:(A.under (.builtin "type.__call__" ⟨.ref C :: us,kw⟩)).guards=A.guards:=by
 first | rfl | (cases A with | mk a b c d e=>cases d <;> rfl)
theorem Room.make{k:Nat}(r:Room (k+1) A)(C:ad)(us:List ag)(kw:List (Str×ag)):Room k (A.under (.builtin "type.__call__" ⟨.ref C :: us,kw⟩)):=
 ⟨r.hd,by have:=r.dp;rw[jbS];omega,by have:=r.un;rw[jbR];omega,by rw[ja6];exact r.gd⟩
theorem Room.depth{k:Nat}(r:Room k A):A.depth < recursionLimit:=by have:=r.dp;omega
theorem Room.units{k:Nat}(r:Room k A):A.units+64 < cLine:=by have:=r.un;omega
def jeo:TA:=fun _ H Q=>Q [] H
def jcu(ta:TE)(tr:TA):TA:=fun σ H Q=>ta σ H fun x H1=>tr σ H1 fun xs H2=>Q (x :: xs) H2
variable {es:List aj}
section
variable {te:TE}{t:TA}
theorem je5:PA X [] jeo:=fun _ _ _ _ H Q I h=>Ft ⟨[],H,I,.nil,h⟩
theorem jgK(ha:PE X e te)(hr:PA X es t)(hs:cj (e :: es) X.env=(false,eval e X.env) :: cj es X.env:=by rfl):PA X (e :: es) (jcu te t):=by
 intro pos ae s σ H Q I h;rw[hs];show au _ _ (spliced ((false,eval e X.env) :: ff pos (cj es X.env))) _ _ s;refine vj (thn (ha ae s σ H _ I h) fun u s1 hM=>?_);obtain⟨x,H1,I1,r1,q1⟩:=hM;exact thn (hr pos ae s1 σ H1 _ I1 q1) fun us s2 ⟨xs,H2,I2,r2,q2⟩=>⟨x :: xs,H2,I2,.cons r1 r2,q2⟩
def ji7(t:TA):TE:=fun σ H Q=>t σ H fun xs H1=>xs.length<=aI/\∀p,H1 p=none->Q (.ref p) (upd H1 p (.tup xs))
def jjb(t:TA):TE:=fun σ H Q=>t σ H fun xs H1=>xs.length<=aI/\∀p,H1 p=none->Q (.ref p) (upd H1 p (.lst xs))
theorem jeU{x1}(h:PA X es t):PE X (.Tuple es x1 pos) (ji7 t):=by
 intro ae s σ H Q I hq;refine wpAny_Tuple_spliced (thn (h pos ae s σ H _ I hq) fun us s1 ⟨xs,H1,I1,r,z,q⟩=>⟨by rw[<- r.length];exact z,?_⟩);have hf:H1 s1.heap.objs.size=none:=I1.hok.fresh (aD _);refine⟨.ref s1.heap.objs.size,upd H1 s1.heap.objs.size (.tup xs),I1.laid (t':=s1.toks) (fun b u e=>b_ _ e) (aD _) ?_,rfl,q _ hf⟩;exact⟨z,us,r,⟨_,dg _ rfl,rfl,_,rfl⟩⟩
theorem jis(h:PA X es t):PE X (.List es pos) (jjb t):=by
 intro ae s σ H Q I hq;refine wpAny_List_spliced (thn (h pos ae s σ H _ I hq) fun us s1 ⟨xs,H1,I1,r,z,q⟩=>⟨by rw[<- r.length];exact z,?_⟩);have hf:H1 s1.heap.objs.size=none:=I1.hok.fresh (aD _);refine⟨.ref s1.heap.objs.size,upd H1 s1.heap.objs.size (.lst xs),I1.laid (t':=s1.toks) (fun b u e=>b_ _ e) (aD _) ?_,rfl,q _ hf⟩;exact⟨z,us,0,r,dg _ rfl⟩
end
abbrev Sp:=List V->Hp->VK->XK->Prop
abbrev CXT:=List Env->Hp->ai->XK->ag->ai->Prop
structure Env0(P:aE)(w:aB)(K:aw)(mg:Str->Option ag)(base:ar)(A:aS)(outer:List Env)(s:ai)(H:Hp):Prop where
 frames:A.frames=some outer
 mod:Mod K mg base
 bs:∀b o,base.get? b=some o->s.heap.get? b=some o/\H b=none
 bsz:base.objs.size<=s.heap.objs.size
 funs:s.heap.FunFrames base outer
 frf:∀b∈frs outer,H b=none
 hok:HOk P w H s.heap
 bare:lR s.gens
def CE(outer:List Env)(P:aE)(w:aB)(H:Hp)(s:ai)(Q:VK)(u:ag)(s':ai):Prop:=
 ∃v H',s'.os=s.os/\lR s'.gens/\Un (frs outer) [] H H' s.heap s'.heap/\HOk P w H' s'.heap/\RelV v u/\Q v H'
def CR(CX:CXT)(outer:List Env)(P:aE)(w:aB)(H:Hp)(s:ai)(Q:VK)(E:XK)(r:rM)(s':ai):Prop:=
 match r with
 | .ok (.ret u)=>CE outer P w H s Q u s'
 | .ok _=>False
 | .error e=>CX outer H s E e s'
structure FnOk(P:aE)(w:aB)(K:aw)(mg:Str->Option ag)(base:ar)(CX:CXT)(k:Nat)(f:ad)(fd:aL)(ps:List Str)(sp:Sp):Prop where
 len:∀vs H Q E,sp vs H Q E->vs.length=ps.length
 run:∀(A:aS) (outer:List Env) (s:ai) (H:Hp) (args:Args) (us:List ag) (vs:List V) (Q:VK) (E:XK),Room k A->Env0 P w K mg base A outer s H->oO s fd args (ps.zip us)->Vals vs us->sp vs H Q E->
  dP (ao P w) A (.call (.ref f) args) (CR CX outer P w H s Q E) s
variable {mg:Str->Option ag}{base:ar}{CX:CXT}{fd:aL}{ps:List Str}
theorem FnOk.imp{k:Nat}{sp bW:Sp}(F:FnOk P w K mg base CX k f fd ps sp)
  (h:∀vs H Q E,bW vs H Q E->sp vs H Q E):FnOk P w K mg base CX k f fd ps bW:=
 ⟨fun vs H Q E q=>F.len vs H Q E (h _ _ _ _ q),fun A outer s H args us vs Q E hr he hb hv hs=>F.run A outer s H args us vs Q E hr he hb hv (h _ _ _ _ hs)⟩
variable {outer:List Env}
theorem Env0.make(e:Env0 P w K mg base A outer s H)(C:ad)(us:List ag)(kw:List (Str×ag)):
  Env0 P w K mg base (A.under (.builtin "type.__call__" ⟨.ref C :: us,kw⟩)) outer s H:=⟨by first | exact e.frames | (simpa[Fx,Code.envs,Fq,pushEnvs]using e.frames),e.mod,e.bs,e.bsz,e.funs,e.frf,e.hok,e.bare⟩
theorem Env0.in1(e:Env0 P w K mg base A outer s H):
  Env0 P w K mg base A.in1 outer s H:=⟨e.frames,e.mod,e.bs,e.bsz,e.funs,e.frf,e.hok,e.bare⟩
section
theorem Inv.env0(I:Inv X ae σ H s):Env0 X.prog X.w X.K X.mg X.base X.A X.stack s H:=
 ⟨I.ok.frames,I.ok.mod,I.bs,aJ I.ok.bsz I.sz,I.stack,I.stkFree,I.hok,I.bare⟩
theorem Inv.after{Q:VK}(I:Inv X ae σ H s)(h:CE X.stack X.prog X.w H s Q u s'):EP X ae σ Q u s':=by
 obtain⟨v,H',os,bare,un,hok,r,q⟩:=h;obtain⟨hh,g,d,t,wl⟩:=s';obtain rfl:wl=s.os:=os;exact⟨v,H',I.call (h':=hh) (g':=g) (d':=d) (t':=t) (ch:=[]) un hok bare (fun b z=>absurd z (by simp)),r,q⟩
end
def jeu(sp:Sp)(eY:List V)(E:XK)(t:TA):TE:=fun σ H Q=>t σ H fun vs H1=>sp (vs++eY) H1 Q E
def jhE(C:ad)(sp:Sp)(eY:List V)(E:XK)(t:TA):TE:=fun σ H Q=>t σ H fun vs H1=>∀x dx,H1 x=none->H1 dx=none->dx≠x->
 sp (.ref x :: (vs++eY)) (upd (upd H1 dx (.own x)) x (.ins C dx [])) (fun v H2=>v=.non/\Q (.ref x) H2) E
def Binds(K:aw)(fd:aL)(ps:List Str)(ds:List ag):Prop:=
 ∀(s:ai) (us:List ag),K.In s.heap->(us++ds).length=ps.length->oO s fd ⟨us,[]⟩ (ps.zip (us++ds))
theorem Binds.all(h:∀us:List ag,us.length=ps.length->bindArgs fd ⟨us,[]⟩=pure (ps.zip us)):Binds K fd ps []:=fun s us _ hl=>by
 rw[dl]at hl |-;exact .of_eq (h us hl)
def YY(CX:CXT)(X:Cx)(E:XK):Prop:=∀(ae:List (ad×Obj)) (σ:St) (H:Hp) (s:ai) (e:ag) (s':ai),Inv X ae σ H s->CX X.stack H s E e s'->X.xe e s'
variable {vs:List V}
section
variable {k:Nat}{sp:Sp}{eY:List V}{ds:List ag}{E:XK}{m:Str}{p cy:Pos}{o:aj}{t:TA}
theorem jia{Q:VK}(F:FnOk X.prog X.w X.K X.mg X.base CX k f fd ps sp)(hr:Room k X.A)(hb:Binds X.K fd ps ds)(hd:Vals eY ds)(hx:YY CX X E)
  (I:Inv X ae σ H s) (r:Vals vs us) (h:sp (vs++eY) H Q E):au (ao X.prog X.w) X.A (call (.ref f) us) (EP X ae σ Q) X.xe s:=by
 have r2:Vals (vs++eY) (us++ds):=r.append hd
 have hl:(us++ds).length=ps.length:=by rw[<- r2.length];exact F.len _ _ _ _ h
 refine wpAny_call (u0 (F.run X.A X.stack s H ⟨us,[]⟩ (us++ds) (vs++eY) Q E hr I.env0 (hb s us I.kIn hl) r2 h) fun r s' hq=>?_)
 cases r with
 | error e=>exact hx ae σ H s e s' I hq
 | ok fl=>
  cases fl with
  | ret u=>exact I.after hq
  | next=>exact gB hq
  | brk=>exact gB hq
  | cont=>exact gB hq
theorem jgI(F:FnOk X.prog X.w X.K X.mg X.base CX k f fd ps sp)(hr:Room k X.A)(hg:Gl X x)(hm:X.mg x=some (.ref f))(hk:fJ X.K (.ref f)=true)(hb:Binds X.K fd ps ds)(hd:Vals eY ds)(hx:YY CX X E)
  (ha:PA X (e :: es) t) (gI:(x == ("__debug__" : Str))=false:=by decide) (he:cj (e :: es) X.env=(false,eval e X.env) :: cj es X.env:=by rfl) (lu:(ff pos (cj es X.env)).any (·.1)=false:=by rfl) :
  PE X (.Call (.Name x p) (e :: es) [] pos) (jeu sp eY E t):=by
 intro ae s σ H Q I h
 refine AO (jag I hg hm ?_ gI)
 refine PySem.W.callWith_K (h₀:=X.base) I.ok.mod.kin hk (thn (ha pos ae s σ H _ I h) fun us s1 ⟨vs,H1,I1,r,q⟩=>⟨I1.kIn,?_⟩) he lu
 exact jia F hr hb hd hx I1 r q
structure Mk(K:aw)(C f:ad):Prop where
 makes:oK K C=true
 init:cr K (.ref C) "__init__" = some (some (.ref f))
 fn:PySem.W.isFn K (.ref f)=true
 kp:fJ K (.ref C)=true
theorem jeE{Q:VK}(M:Mk X.K C f)(F:FnOk X.prog X.w X.K X.mg X.base CX k f fd ps sp)(hr:Room (k+1) X.A)(hb:Binds X.K fd ps ds)(hd:Vals eY ds)
  (hx:YY CX X E) (I:Inv X ae σ H s) (r:Vals vs us)
  (h:∀x dx,H x=none->H dx=none->dx≠x->sp (.ref x :: (vs++eY)) (upd (upd H dx (.own x)) x (.ins C dx [])) (fun v H2=>v=.non/\Q (.ref x) H2) E) :
  au (ao X.prog X.w) X.A (call (.ref C) us) (EP X ae σ Q) X.xe s:=by
 have hq:=h (s.heap.objs.size+1) s.heap.objs.size (I.hok.fresh (dw _)) (I.hok.fresh (aD _)) (cb (Pz _))
 have I2:=Inv.made (C:=C) I
 have r2:Vals (V.ref (s.heap.objs.size+1) :: (vs++eY)) (Value.ref (s.heap.objs.size+1) :: (us++ds)):=.cons rfl (r.append hd)
 have hl:(Value.ref (s.heap.objs.size+1) :: us++ds).length=ps.length:=by
  have e:=r2.length;rw[F.len _ _ _ _ hq]at e;exact e.symm
 refine wpAny_call (jfr (f:=f) I.kIn M.makes M.init (beq_iff_eq.mp M.fn) (u0 (F.run _ X.stack _ _ ⟨Value.ref (s.heap.objs.size+1) :: us,[]⟩ (Value.ref (s.heap.objs.size+1) :: (us++ds)) _ _ E (hr.make C us [])
  (I2.env0.make C us []) (hb _ (Value.ref (s.heap.objs.size+1) :: us) I2.kIn hl) r2 hq) fun r s' lp=>?_))
 cases r with
 | error e=>exact hx ae σ _ _ e s' I2 lp
 | ok fl=>
  cases fl with
  | ret u=>
   obtain⟨v,H',I3,rv,ev,q3⟩:=I2.after lp
   subst ev
   exact⟨rv,⟨V.ref (s.heap.objs.size+1),H',I3,rfl,q3⟩⟩
  | next=>exact gB lp
  | brk=>exact gB lp
  | cont=>exact gB lp
theorem jeX(M:Mk X.K C f)(F:FnOk X.prog X.w X.K X.mg X.base CX k f fd ps sp)(hr:Room (k+1) X.A)(hg:Gl X x)(hm:X.mg x=some (.ref C))(hb:Binds X.K fd ps ds)(hd:Vals eY ds)(hx:YY CX X E)
  (gI:(x == ("__debug__" : Str))=false:=by decide):PE X (.Call (.Name x p) [] [] pos) (jhE C sp eY E jeo):=by
 intro ae s σ H Q I h
 refine AO (jag I hg hm ?_ gI)
 exact PySem.W.callWith_K0 I.kIn M.kp (jeE (us:=[]) M F hr hb hd hx I .nil h)
end
structure FnScope(N P:List Str)(sc:cM):Prop where
 kind:sc.kind=.function
 co:sc.isCoroutine=false
 gen:sc.isGenerator=false
 nd:N.Nodup
 pre:N.take P.length=P
 par:∀x∈P,sc.names.lookup x=some .local\/sc.names.lookup x=some .cell
 nofree:∀y∈sc.names,y.2≠.free
theorem ZF{kindOf:Str->Option gN}{x:Str}:∀{binds:List (Str×ag)} {m:Str->Option ag},(∀v,(x,v) ∉ binds)->bindL kindOf binds m x=m x
 | [],_,_=>rfl
 | (n,v) :: r,m,h=>by
  unfold bindL;rw[ZF fun w hw=>h w (ce _ hw)];split
  .have:x≠n:=by rintro rfl;exact h v bU
   simp[this]
  .rfl
theorem ZH{kindOf:Str->Option gN}{x:Str}:∀{binds:List (Str×ag)} {m:Str->Option ag},(∀v,(x,v) ∉ binds)->bindC kindOf binds m x=m x
 | [],_,_=>rfl
 | (n,v) :: r,m,h=>by
  unfold bindC;rw[ZH fun w hw=>h w (ce _ hw)];split
  .rfl
  .have:x≠n:=by rintro rfl;exact h v bU
   simp[this]
theorem ZG{kindOf:Str->Option gN}{x:Str}{v:ag}:∀{P:List Str} {vs:List ag} {i:Nat} {m:Str->Option ag},P.Nodup->P[i]?=some x->vs[i]?=some v->kindOf x=some .local->
  bindL kindOf (P.zip vs) m x=some v
 | [],_,_,_,_,h,_,_=>by simp at h
 | _ :: _,[],_,_,_,_,h,_=>by simp at h
 | p :: P,w :: vs,0,m,nd,h1,h2,hk=>by
  simp at h1 h2;subst h1;subst h2;show bindL kindOf ((p,w) :: P.zip vs) m p=_;unfold bindL;rw[ZF fun v hv=>(fL.mp nd).1 (FW hv).1,Qx hk];simp
 | p :: P,w :: vs,i+1,m,nd,h1,h2,hk=>by
  show bindL kindOf ((p,w) :: P.zip vs) m x=_;unfold bindL;exact ZG (i:=i) (fL.mp nd).2 (by simpa using h1) (by simpa using h2) hk
theorem ZI{kindOf:Str->Option gN}{x:Str}{v:ag}:∀{P:List Str} {vs:List ag} {i:Nat} {m:Str->Option ag},P.Nodup->P[i]?=some x->vs[i]?=some v->kindOf x≠some .local->
  bindC kindOf (P.zip vs) m x=some v
 | [],_,_,_,_,h,_,_=>by simp at h
 | _ :: _,[],_,_,_,_,h,_=>by simp at h
 | p :: P,w :: vs,0,m,nd,h1,h2,hk=>by
  simp at h1 h2;subst h1;subst h2;show bindC kindOf ((p,w) :: P.zip vs) m p=_;unfold bindC;rw[ZH fun v hv=>(fL.mp nd).1 (FW hv).1,Qw hk];simp
 | p :: P,w :: vs,i+1,m,nd,h1,h2,hk=>by
  show bindC kindOf ((p,w) :: P.zip vs) m x=_;unfold bindC;exact ZI (i:=i) (fL.mp nd).2 (by simpa using h1) (by simpa using h2) hk
def start(N:List Str)(vs:List V):St:=vs.map some++List.replicate (N.length - vs.length) none
def kx(CX:CXT)(P:aE)(w:aB)(K:aw)(mg:Str->Option ag)(base:ar)(N:List Str)(bX:Str)(scope:cM)(f:ad)(cd:ag)(A:aS)(outer:List Env)(s:ai)(H:Hp)(E:XK):Cx where
 prog:=P
 w:=w
 K:=K
 mg:=mg
 base:=base
 A:=A.deeper (envOfC bX scope s.heap.objs.size f cd)
 N:=N
 s₀:=s
 H₀:=H
 env:=envOfC bX scope s.heap.objs.size f cd
 outer:=outer
 stack:=envOfC bX scope s.heap.objs.size f cd :: outer
 ex:=[]
 calm:=true
 fn:=fun _=>true
 pn:=[]
 xe:=fun e s'=>au (ao P w) (A.deeper (envOfC bX scope s.heap.objs.size f cd)) (leaving (envOfC bX scope s.heap.objs.size f cd) e) (fun _ v9=>CX outer H s E e v9) (fun e' v9=>CX outer H s E e' v9) s'
theorem jbn{sc:cM}{n:Nat}(h:sc.names.lookup x=some .cell):∃c,(EX n sc.names []).lookup x=some c:=by
 have q:=N5 sc.names n [] (.inl h);exact vp.mp q
theorem jdJ{N:List Str}{bX:Str}{scope:cM}{cd:ag}{s1:ai}{E:XK}
  (S:FnScope N ps scope) (hd:A.handled=none) (e0:Env0 P w K mg base A outer s H) (hl:vs.length=ps.length) (r:Vals vs us)
  (x:InCallC s s.heap.objs.size (bindL (envOfC bX scope s.heap.objs.size f cd).kindOf (ps.zip us) fun _=>none) (EX (s.heap.objs.size+1) scope.names []) (bindC (envOfC bX scope s.heap.objs.size f cd).kindOf (ps.zip us) fun _=>none) s1) :
  Inv (kx CX P w K mg base N bX scope f cd A outer s H E) [] (start N vs) H s1:=by
 have lu:ps.length<=N.length:=by have:=Qz nA S.pre;rw[cw]at this;omega
 obtain⟨h1,tk,rfl,hk⟩:=x.done
 have ph:∀b:ad,b ∉ (kx CX P w K mg base N bX scope f cd A outer s H E).ex:=fun b z=>absurd (show b∈([]:List ad) from z) (by simp)
 refine⟨⟨e0.mod,S.kind,rfl,rfl,aD _,fun y z c h1 h2=>?_,fun y hy=>?_,fun y c _ h=>?_,fun _=>hd,aS.frames_deeper e0.frames,.inr ⟨rfl,rfl⟩,fun b z=>absurd z (ph b),e0.bs,e0.bsz,fun b _ _=>ph b,fun b z=>absurd z (ph b),e0.funs,e0.frf⟩,
  rfl,e0.bare,Un.kept hk,⟨_,x.toInCall.ns,fun i y v h1 h2 h3=>?_⟩,fun y c h=>⟨_,x.cell y c h⟩,e0.hok.fresh (aD _),fun y c h=>?_,fun p hp=>absurd (show p∈([]:List (ad×Obj)) from hp) (by simp),e0.hok.kept hk,?_⟩
 .exact name_of_addr x.apart (mV h1) (mV h2)
 .have hy:scope.names.lookup y=some .cell\/scope.names.lookup y=some .free:=hy
  rcases hy with hy | hy
  .exact jbn hy
  .exact absurd rfl (S.nofree _ (mV hy))
 .exact c6 (x.above y c (mV h))
 .have hi:i < vs.length:=by
   unfold start at h2;by_cases hi:i < vs.length
   .exact hi
   .rw[rW (by simpa using hi)]at h2
    rw[List.getElem?_replicate]at h2;split at h2 <;> cases h2
  have ha:vs[i]?=some v:=by
   unfold start at h2;rw[By (by simpa using hi),bz]at h2
   cases e:vs[i]? with
   | none=>rw[e]at h2;cases h2
   | some a=>rw[e]at h2;cases h2;rfl
  obtain⟨u,hu,rv⟩:=r.get ha;have hp:ps[i]?=some y:=by
   rw[<- S.pre,List.getElem?_take_of_lt (by omega)];exact h1
  have Cg:ps.Nodup:=by rw[<- S.pre];exact S.nd.sublist (List.take_sublist _ _)
  refine⟨u,rv,?_⟩;rcases S.par y (lV hp) with k | k
  .exact .inl ⟨k,ZG Cg hp hu k⟩
  .obtain⟨c,e⟩:=jbn (n:=s.heap.objs.size+1) k
   refine .inr ⟨.inl k,c,e,?_⟩;have q:=x.cell y c e;rw[ZI Cg hp hu (by show scope.names.lookup y≠_;rw[k];decide)]at q;exact q
 .exact e0.hok.fresh (c6 (x.above y c (mV h)))
 .unfold start
  show _=N.length
  rw[bV,az,List.length_replicate]
  omega
theorem jjH{k:Nat}{name bX:Str}{params:Arguments}{body:List aF}{scope:cM}{dV kV cW pm ax ct oc:ag}{an od:Option ad}
  {gY:Array (Option ag)} {N ps:List Str} {sp:Sp} (lk:K.lookup f=some ⟨oc,od,.func (iS name bX params body scope dV kV cW pm an ax ct),gY⟩) (fG:iT K ax bX=true) (S:FnScope N ps scope)
  (len:∀vs H Q E,sp vs H Q E->vs.length=ps.length)
  (pY:∀(A:aS) (outer:List Env) (s:ai) (H:Hp) (vs:List V) (Q:VK) (E:XK),Room k (A.deeper (envOfC bX scope s.heap.objs.size f ax))->sp vs H Q E->
   ∃t,PSs (kx CX P w K mg base N bX scope f ax A outer s H E) body t/\t { nx:=fun _ H'=>Q .non H',rt:=Q } (start N vs) H) :
  FnOk P w K mg base CX (k+1) f (iS name bX params body scope dV kV cW pm an ax ct) ps sp:=by
 refine⟨len,fun A outer s H args us vs Q E hr e0 hb r aY=>?_⟩
 have hl:=len _ _ _ _ aY
 have KX:K.In s.heap:=e0.mod.kin.keeps fun b o e=>(e0.bs b o e).1
 have Hm:s.heap.NoLimit:=e0.mod.nolimit.keeps fun b o e=>(e0.bs b o e).1
 have K_:∀y∈ps.zip us,scope.names.lookup y.1=some .local\/(scope.names.lookup y.1=some .cell/\((EX (s.heap.objs.size+1) scope.names []).lookup y.1).isSome=true):=fun⟨n,v⟩ hy=>by
  rcases S.par n (FW hy).1 with q | q
  .exact .inl q
  .exact .inr ⟨q,N5 _ _ _ (.inl q)⟩
 refine codeAny_call_function hr.depth (KX _ _ lk) rfl S.co S.gen rfl (PySem.W.codeRec_of KX fG) (hb _ _ _ _ ?_)
 refine wpAny_newFunctionEnv_cells S.kind K_ fun env he s1 x=>?_
 subst he
 refine⟨Hm.keeps x.toInCall.keep,codeAny_func ?_⟩
 obtain⟨t,ht,hq⟩:=pY A outer s H vs Q E (hr.deeper _) aY
 have I:Inv (kx CX P w K mg base N bX scope f ax A outer s H E) [] (start N vs) H s1:=jdJ S hr.hd e0 hl r x
 refine cI (ht [] s1 (start N vs) H _ I hq) (fun fl s' hs=>?_) fun e s' hs=>hs
 have fin:∀{σ':St} {H':Hp} {v:V} {u:ag},Inv (kx CX P w K mg base N bX scope f ax A outer s H E) [] σ' H' s'->RelV v u->Q v H'->CE outer P w H s Q u s':=
  fun {σ' H' v u} J rv q=>⟨v,H',J.os,J.bare,J.base,J.hok,rv,q⟩
 cases fl with
 | ret u=>
  obtain⟨v,σ',H',J,rv,q⟩:=hs
  exact fin J rv q
 | next=>
  obtain⟨σ',H',J,q⟩:=hs
  exact fin (v:=V.non) (u:=Value.none) J rfl q
 | brk=>
  obtain⟨_,_,_,q⟩:=hs
  exact gB q
 | cont=>
  obtain⟨_,_,_,q⟩:=hs
  exact gB q
section
variable {p:Pos}{t:TA}{id T:String}{r:List V->Hp->VK->Prop}
def tCB(r:List V->Hp->VK->Prop)(t:TA):TE:=fun σ H Q=>t σ H fun vs H1=>r vs H1 Q
theorem je4(hc:zp X (.builtin id) r)(hg:Gl X x)(hm:X.mg x=none)(hv:dE x=some (.builtin id))(ha:PA X (e :: es) t)(hn:x≠"__name__":=by decide)(gI:(x == ("__debug__" : Str))=false:=by decide)
  (he:cj (e :: es) X.env=(false,eval e X.env) :: cj es X.env:=by rfl) (lu:(ff pos (cj es X.env)).any (·.1)=false:=by rfl):PE X (.Call (.Name x p) (e :: es) [] pos) (tCB r t):=by
 intro ae s σ H Q I h
 refine AO (YI I hg hm hv ?_ hn gI)
 exact PyProof.Rows.callWith_builtin1 (thn (ha pos ae s σ H _ I h) fun us s1 ⟨vs,H1,I1,r1,q1⟩=>hc ae s1 σ H1 vs us Q I1 r1 q1) he lu
theorem jdo(hc:zp X (.type T) r)(hg:Gl X x)(hm:X.mg x=none)(hv:dE x=some (.type T))(ha:PA X (e :: es) t)(hn:x≠"__name__":=by decide)(gI:(x == ("__debug__" : Str))=false:=by decide)
  (he:cj (e :: es) X.env=(false,eval e X.env) :: cj es X.env:=by rfl) (lu:(ff pos (cj es X.env)).any (·.1)=false:=by rfl):PE X (.Call (.Name x p) (e :: es) [] pos) (tCB r t):=by
 intro ae s σ H Q I h
 refine AO (YI I hg hm hv ?_ hn gI)
 exact FD (thn (ha pos ae s σ H _ I h) fun us s1 ⟨vs,H1,I1,r1,q1⟩=>hc ae s1 σ H1 vs us Q I1 r1 q1) he lu
end
end L2
namespace HT
open PySem PyProof.Rows
section
variable {prog:aE}{w:aB}{A:aS}{E:ag->ai->Prop}{s:ai}
def sIx(n d:Nat):Option Int->Nat
 | none=>d
 | some v=>if v < 0 then (v+(n:Int)).toNat else min v.toNat n
theorem jh9(n d:Nat)(hd:d<=n)(o:Option Int):sIx n d o<=n:=by
 cases o with
 | none=>exact hd
 | some v=>
  show (if v < 0 then (v+(n:Int)).toNat else min v.toNat n)<=n;by_cases hv:v < 0
  .rw[Qx hv];omega
  .rw[Qw hv];exact Nat.min_le_right _ _
theorem jcT(v:Int)(n d:Nat):(if v < 0 then max (v+(n:Int)) 0 else min v (n:Int))=((sIx n d (some v):Nat):Int):=by
 show (if v < 0 then max (v+(n:Int)) 0 else min v (n:Int))=(((if v < 0 then (v+(n:Int)).toNat else min v.toNat n):Nat):Int);by_cases hv:v < 0
 .simp only[Qx hv];omega
 .simp only[Qw hv];omega
theorem jcd(lo hi:Option Int)(n:Nat):Fv lo hi 1 (n:Int)=(((sIx n 0 lo:Nat):Int),((sIx n n hi:Nat):Int)):=by
 have h1:¬((1:Int) < 0):=by omega
 unfold Fv;simp only[h1,if_false];refine Prod.ext ?_ ?_
 .cases lo with
  | none=>rfl
  | some v=>exact jcT v n 0
 .cases hi with
  | none=>rfl
  | some v=>exact jcT v n n
theorem jbJ(i j:Nat):Be (i:Int) (j:Int) 1=j - i:=by
 unfold Be;have h1:(1:Int) > 0:=by omega
 simp only[h1,if_true,Int.ediv_one];split <;> omega
theorem Yw{v:ag}{o:Option Int}{Q:Option Int->ai->Prop}(p:ng v o)(h:Q o s):au (ao prog w) A (Builtin.Slice.slicePartIndex v) Q E s:=by
 cases p with
 | none=>exact slicePart_none h
 | int i t=>exact slicePart_int h
theorem Kz{sl:ad}{vl vu:ag}{lo hi:Option Int}{n:Nat}{Q:Int×Int×Nat->ai->Prop}(hs:s.heap.IsSliceOf sl vl vu .none)(pl:ng vl lo)(pu:ng vu hi)
  (h:Q (((sIx n 0 lo:Nat):Int),1,sIx n n hi - sIx n 0 lo) s):au (ao prog w) A (OS (.ref sl) (pure (n:Int))) Q E s:=by
 obtain⟨os,pM,fY,dC⟩:=id hs
 unfold OS Builtin.Slice.sliceFields
 refine aq (aq (EI pM dC (x:=vl) rfl (aq (EI pM dC (x:=vu) rfl (aq (EI pM dC (x:=.none) rfl (aH ?_)))))))
 refine aq (slicePart_none ?_)
 show au _ _ (if ((1:Int) == 0)=true then _ else _) _ _ s
 rw[Qw (by decide)]
 refine aq (Yw pl (aq (Yw pu (aq (aH ?_)))))
 show au _ _ (match Fv lo hi 1 (n:Int) with | (lo,hi)=>pure (lo,(1:Int),Be lo hi 1)) _ _ s
 rw[jcd lo hi n]
 show au _ _ (pure (((sIx n 0 lo:Nat):Int),(1:Int),Be ((sIx n 0 lo:Nat):Int) ((sIx n n hi:Nat):Int) 1)) _ _ s
 rw[jbJ]
 exact aH h
theorem jeP(xs:Array ag)(i k:Nat):((cB k).filterMap fun (m:Nat)=>xs[((i:Int)+(m:Int) * 1).toNat]?).toArray=((xs.toList.drop i).take k).toArray:=by
 have e:(fun (m:Nat)=>xs[((i:Int)+(m:Int) * 1).toNat]?)=fun m=>xs[i+m]?:=by
  funext m;have:((i:Int)+(m:Int) * 1).toNat=i+m:=by omega
  rw[this]
 rw[e];have:=pick_run xs i k;rw[List.filterMap_map]at this;have e2:((fun x=>xs[x]?) ∘ fun x=>i+x)=fun m=>xs[i+m]?:=rfl
 rw[e2]at this;rw[this]
theorem getItem_tuple_cut{t sl:ad}{items:Array ag}{vl vu:ag}{lo hi:Option Int}{Q:ag->ai->Prop}(ht:IsTup s.heap t items)(hs:s.heap.IsSliceOf sl vl vu .none)(pl:ng vl lo)(pu:ng vu hi)
  (hw:¬(sIx items.size 0 lo=0/\sIx items.size items.size hi=items.size))
  (h:Q (.ref s.heap.objs.size) { s with heap:=s.heap.push { cls:=.type "tuple",data:=.seq ((items.toList.drop (sIx items.size 0 lo)).take (sIx items.size items.size hi - sIx items.size 0 lo)).toArray } })
  (hsz:items.size<=aI):au (ao prog w) A (mX (.ref t) (.ref sl)) Q E s:=by
 have s_:sizeOk (.seq ((items.toList.drop (sIx items.size 0 lo)).take (sIx items.size items.size hi - sIx items.size 0 lo)).toArray):=by
  show ((items.toList.drop (sIx items.size 0 lo)).take (sIx items.size items.size hi - sIx items.size 0 lo)).toArray.size<=aI;rw[c7,cw,oU,dy];omega
 have hj:sIx items.size items.size hi<=items.size:=jh9 _ _ (aD _) hi
 obtain⟨os,pM,fY,dC⟩:=id hs
 have LK:s.TypeIs (.ref sl) "slice":=⟨os,pM,fY⟩
 unfold mX
 try with_reducible refine oC ?_
 first | refine aq (aH ?_) | skip
 refine aq (wpAny_sequenceKey ht.typeIs (by decide) ?_)
 refine aq (EN (name:=bE "__getitem__") ht.typeIs FA
  (rG FA ht.typeIs entry_tuple_getitem ?_ (args_tuple_getitem _ _)))
 show au _ _ (Builtin.Tuple.tupleItemsOf (.ref t) >>= _) _ _ s
 refine aq (tupleItemsOf_ ht ?_)
 refine aq (wpAny_typeOf LK ?_)
 rw[Qx (by decide)]
 refine aq (Kz hs pl pu ?_)
 have IP:¬((((sIx items.size 0 lo:Nat):Int) == 0 && (1:Int) == 1 && (sIx items.size items.size hi - sIx items.size 0 lo) == items.size)=true):=by
  intro q;rw[i4,i4]at q;have q1:((sIx items.size 0 lo:Nat):Int)=0:=eq_of_beq q.1.1;have q2:sIx items.size items.size hi - sIx items.size 0 lo=items.size:=eq_of_beq q.2;exact hw ⟨by omega,by omega⟩
 show au _ _ (if (((sIx items.size 0 lo:Nat):Int) == 0 && (1:Int) == 1 && (sIx items.size items.size hi - sIx items.size 0 lo) == items.size)=true then _ else _) _ _ s
 rw[Qw IP,jeP]
 first
  | exact aq (m:=Bb _) (gL (aH ⟨_,rfl,aH h⟩) s_)
  | exact aq (m:=Bb _) (gL (aq (aH (aH ⟨_,rfl,aH h⟩))) s_)
  | exact aq (aq (m:=Bb _) (gL (aH (aH ⟨_,rfl,aH h⟩)) s_))
  | exact aq (aq (m:=Bb _) (gL (aH ⟨_,rfl,aH h⟩) s_))
end
end HT
namespace L2
open PySem PySem.Spec PyProof.Rows
abbrev TO:=St->Hp->(Option Int->Hp->Prop)->Prop
def PO(X:Cx)(e:Option aj)(t:TO):Prop:=
 ∀(ae:List (ad×Obj)) (s:ai) (σ:St) (H:Hp) (Q:Option Int->Hp->Prop),Inv X ae σ H s->t σ H Q->
  au (ao X.prog X.w) X.A (evalPart e X.env) (fun u s'=>∃o H',Inv X ae σ H' s'/\ng u o/\Q o H') X.xe s
def jcs:TO:=fun _ H Q=>Q none H
def jhC(t:TE):TO:=fun σ H Q=>t σ H fun x H1=>∃i,x=.int i/\Q (some i) H1
variable {X:Cx}{e:aj}{pos:Pos}
section
variable {te:TE}{lo hi:Option aj}{tl th:TO}{p2:Pos}
theorem jgv:PO X none jcs:=by
 intro ae s σ H Q I h;rw[evalPart_none];exact aH ⟨none,H,I,.none,h⟩
theorem jgu(h:PE X e te):PO X (some e) (jhC te):=by
 intro ae s σ H Q I hw;rw[evalPart_some];refine thn (h ae s σ H _ I hw) fun u s1 hM=>?_
 obtain⟨x,H1,I1,r1,q1⟩:=hM;obtain⟨i,rfl,q⟩:=q1;obtain⟨t,rfl⟩:=r1;exact⟨some i,H1,I1,.int i t,q⟩
def SlR(X:Cx)(r:V->Option Int->Option Int->Hp->VK->Prop):Prop:=
 ∀(ae:List (ad×Obj)) (s:ai) (σ:St) (H:Hp) (x:V) (v vl vu:ag) (lo hi:Option Int) (sl:ad) (Q:VK),Inv X ae σ H s->RelV x v->s.heap.IsSliceOf sl vl vu .none->ng vl lo->ng vu hi->r x lo hi H Q->
  ∃T id,typeLookup (.type T) "__getitem__" = pure (some (.builtin id))/\s.TypeIs v T/\au (ao X.prog X.w) X.A (mX v (.ref sl)) (EP X ae σ Q) X.xe s
def tSl(r:V->Option Int->Option Int->Hp->VK->Prop)(te:TE)(tl th:TO):TE:=fun σ H Q=>te σ H fun x H1=>tl σ H1 fun l H2=>th σ H2 fun u H3=>r x l u H3 Q
theorem jeW{r:V->Option Int->Option Int->Hp->VK->Prop}(hr:SlR X r)(he:PE X e te)(hl:PO X lo tl)(hu:PO X hi th):PE X (.Subscript e (.Slice lo hi none p2) pos) (tSl r te tl th):=by
 intro ae s σ H Q I h;refine FF (thn (he ae s σ H _ I h) fun v s1 hM=>?_);obtain⟨x,H1,I1,r1,q1⟩:=hM;refine wpAny_Slice (thn (hl ae s1 σ H1 _ I1 q1) fun vl s2 ⟨l,H2,I2,pl,q2⟩=>thn (hu ae s2 σ H2 _ I2 q2) fun vu s3 hM=>?_);obtain⟨u,H3,I3,pu,q3⟩:=hM;rw[evalPart_none];refine aH ?_;have I4:Inv X ae σ H3 { s3 with heap:=s3.heap.push { cls:=.type "slice",data:=.fields #[vl,vu,.none] } }:=I3.kept (t':=s3.toks) fun b ob q=>b_ _ q
 obtain⟨T,id,hT,ht,hg⟩:=hr ae { s3 with heap:=s3.heap.push { cls:=.type "slice",data:=.fields #[vl,vu,.none] } } σ H3 x v vl vu l u s3.heap.objs.size Q I4 r1 (ar.IsSliceOf.new ..) pl pu q3;show au (ao X.prog X.w) X.A (Fy e (.Slice lo hi none p2) v (.ref s3.heap.objs.size)) (EP X ae σ Q) X.xe { s3 with heap:=s3.heap.push { cls:=.type "slice",data:=.fields #[vl,vu,.none] } };exact tail_any (ops:=[.ref s3.heap.objs.size,v]) ht hT hg (by with_unfolding_all rfl)
def zZ(xs:List V)(lo hi:Option Int):List V:=(xs.drop (HT.sIx xs.length 0 lo)).take (HT.sIx xs.length xs.length hi - HT.sIx xs.length 0 lo)
theorem KZ(xs:List V)(lo hi:Option Int):(zZ xs lo hi).length<=xs.length:=by
 unfold zZ;rw[cw,oU];omega
def jjQ(K:aw):V->Option Int->Option Int->Hp->VK->Prop:=fun x lo hi H Q=>∃a xs,x=.ref a/\SqT K H a xs/\
 ¬(HT.sIx xs.length 0 lo=0/\HT.sIx xs.length xs.length hi=xs.length)/\∀p,H p=none->Q (.ref p) (upd H p (.tup (zZ xs lo hi)))
theorem ZX:SlR X (jjQ X.K):=by
 intro ae s σ H x v vl vu lo hi sl Q I rx hs pl pu h;obtain⟨a,xs,rfl,hx,hw,q⟩:=h
 cases rx
 obtain⟨its,r,ht,hz⟩:=I.tuple hx;have bu:its.toArray.size=xs.length:=by rw[c7];exact r.length.symm
 refine⟨"tuple",_,FA.lookup,ht.typeIs,?_⟩;refine HT.getItem_tuple_cut ht hs pl pu (by rw[bu];exact hw) ?_ (by rw[bu];exact hz);rw[bu];refine⟨.ref s.heap.objs.size,_,I.laid (t':=s.toks) (o:=.tup (zZ xs lo hi)) (fun b ob q=>b_ _ q) (aD _) ?_,rfl,q _ (I.hok.fresh (aD _))⟩;exact⟨aJ (KZ xs lo hi) hz,_,(r.drop (HT.sIx xs.length 0 lo)).take (HT.sIx xs.length xs.length hi - HT.sIx xs.length 0 lo),FJ _ _⟩
end
def ixN(n:Nat)(i:Int):Option Nat:=if 0<=i then (if i < n then some i.toNat else none) else if -(n:Int)<=i then some (i+n).toNat else none
def atI{α:Type}(xs:List α)(i:Int):Option α:=(ixN xs.length i).bind fun j=>xs[j]?
variable {n:Nat}
theorem jhh{i:Int}{j:Nat}(h:ixN n i=some j):seqIndex? i n=some j/\j < n/\-(n:Int)<=i/\i < n:=by
 unfold ixN at h;by_cases h0:0<=i
 .rw[Qx h0]at h
  by_cases h1:i < n
  .rw[Qx h1]at h
   have e:i.toNat=j:=dk h;exact⟨by rw[seqIndex_of h0 h1,e],by omega,by omega,h1⟩
  .rw[Qw h1]at h;cases h
 .rw[Qw h0]at h
  by_cases h1:-(n:Int)<=i
  .rw[Qx h1]at h
   have e:(i+n).toNat=j:=dk h;exact⟨by rw[seqIndex_neg (by omega) h1,e],by omega,h1,by omega⟩
  .rw[Qw h1]at h;cases h
theorem jaB{α:Type}{xs:List α}{i:Int}{v:α}(h:atI xs i=some v):∃j,seqIndex? i xs.length=some j/\xs[j]?=some v/\j < xs.length/\-(xs.length:Int)<=i/\i < xs.length:=by
 unfold atI at h
 cases e:ixN xs.length i with
 | none=>rw[e]at h;cases h
 | some j=>
  rw[e]at h;obtain⟨h1,h2,h3,h4⟩:=jhh e;exact⟨j,h1,h,h2,h3,h4⟩
theorem jh{α:Type}{xs:List α}{j:Nat}{v:α}(h:xs[j]?=some v):atI xs (j:Int)=some v:=by
 have hj:j < xs.length:=(bL.mp h).1;have e:ixN xs.length (j:Int)=some j:=by
  unfold ixN;rw[Qx (by omega),Qx (by omega)];simp
 unfold atI;rw[e];exact h
theorem jfT{α:Type}(xs:List α)(v:α):atI (xs++[v]) (-1)=some v:=by
 have hl:(xs++[v]).length=xs.length+1:=by simp
 have e:ixN (xs++[v]).length (-1)=some xs.length:=by
  unfold ixN;rw[hl,Qw (by decide),Qx (by omega)];congr 1;omega
 unfold atI;rw[e];show (xs++[v])[xs.length]?=some v;simp
def jcY(b:aj):Prop:=∀o i,subscripted b false o i=operate [o,i] (mX o i)
def IxR(X:Cx)(r:R2):Prop:=
 ∀(value gU:aj) (ae:List (ad×Obj)) (s:ai) (σ:St) (H:Hp) (x y:V) (v u:ag) (Q:VK),Inv X ae σ H s->RelV x v->RelV y u->r x y H Q->
  subscripted gU false v u=operate [v,u] (mX v u)->au (ao X.prog X.w) X.A (Fy value gU v u) (EP X ae σ Q) X.xe s
def MtR(X:Cx)(id:String)(r:V->List V->Hp->VK->Prop):Prop:=
 ∀(ae:List (ad×Obj)) (s:ai) (σ:St) (H:Hp) (x:V) (xs:List V) (v:ag) (us:List ag) (Q:VK),Inv X ae σ H s->RelV x v->Vals xs us->r x xs H Q->
  au (ao X.prog X.w) X.A (call (.builtin id) (v :: us)) (EP X ae σ Q) X.xe s
variable {ae:List (ad×Obj)}{σ:St}{H:Hp}{s:ai}{T:String}{x:V}
section
variable {a b:aj}{ta tb:TE}
theorem jjn{r:R2}(hr:IxR X r)(ha:PE X a ta)(hb:PE X b tb)(hs:jcY b):PE X (.Subscript a b pos) (tOp r ta tb):=by
 intro ae s σ H Q I h;exact FF (jiX ha hb I h fun v u s2 x y H2 I2 rx ry q=>hr a b ae s2 σ H2 x y v u Q I2 rx ry q (hs _ _))
def jjh(K:aw):R2:=fun x y H Q=>∃p xs i v,x=.ref p/\y=.int i/\SqL K H p xs/\atI xs i=some v/\Q v H
def jjS(K:aw):R2:=fun x y H Q=>∃p xs i v,x=.ref p/\y=.int i/\SqT K H p xs/\atI xs i=some v/\Q v H
def jjT:R2:=fun x y H Q=>∃z i c,x=.str z/\y=.int i/\z.length<=aI/\atI z.cps.toList i=some c/\Q (.str ⟨#[c]⟩) H
theorem j8:IxR X (jjh X.K):=by
 intro value gU ae s σ H x y v u Q I rx ry h hs;obtain⟨p,xs,i,z,rfl,rfl,hq,he,q⟩:=h
 cases rx
 obtain⟨t,rfl⟩:=ry;obtain⟨its,r,pl,hz⟩:=I.list hq;obtain⟨j,h1,h2,h3,h4,h5⟩:=jaB he;obtain⟨w,ew,dJ⟩:=r.get h2;have hl:=r.length;have hn:=YG;have fin:EP X ae σ Q w s:=⟨z,H,I,dJ,q⟩
 by_cases h0:0<=i
 .have hj:i.toNat=j:=by
   rw[seqIndex_of h0 h5]at h1;exact dk h1
  exact item_listR pl.isList h0 (by omega) (by rw[hj];simpa using ew) fin hs
 .have hj:(i+(its.toArray.size:Int)).toNat=j:=by
   rw[seqIndex_neg (by omega) h4]at h1;rw[c7,<- hl];exact dk h1
  exact OX (x:=w) pl.isList.typeIs Nu.lookup
   (wpAny_getItem_list_neg (Q:=fun r s'=>r=w/\EP X ae σ Q r s') pl.isList (by omega) (by rw[c7] <;> omega) (by omega) (by rw[hj];simpa using ew) ⟨rfl,fin⟩) hs
theorem jw:IxR X (jjS X.K):=by
 intro value gU ae s σ H x y v u Q I rx ry h hs;obtain⟨p,xs,i,z,rfl,rfl,hq,he,q⟩:=h
 cases rx
 obtain⟨t,rfl⟩:=ry;obtain⟨its,r,pl,hz⟩:=I.tuple hq;obtain⟨j,h1,h2,h3,h4,h5⟩:=jaB he;obtain⟨w,ew,dJ⟩:=r.get h2;have hl:=r.length;have hn:=YG;have fin:EP X ae σ Q w s:=⟨z,H,I,dJ,q⟩
 exact OX (x:=w) pl.typeIs slot_tuple_getitem.lookup
  (getItem_tuple (j:=j) (Q:=fun r s'=>r=w/\EP X ae σ Q r s') pl (by omega) (by omega) (by rw[c7,<- hl];exact h1) (by simpa using ew) ⟨rfl,fin⟩) hs
theorem jbW:IxR X jjT:=by
 intro value gU ae s σ H x y v u Q I rx ry h hs;obtain⟨z,i,c,rfl,rfl,hz,he,q⟩:=h;obtain⟨t,rfl⟩:=rx;obtain⟨t',rfl⟩:=ry;obtain⟨j,h1,h2,h3,h4,h5⟩:=jaB he;have hl:z.cps.toList.length=z.length:=by simp[Str.length]
 rw[hl]at h1 h4 h5;have hn:=YG;exact tail_any (typeIs_str s z t) slot_str_getitem.lookup (getItem_str (c:=c) (by
  have e1:decide (i < -(2 ^ 63:Int))=false:=Qv (by omega);have e2:decide (i >= 2 ^ 63)=false:=Qv (by omega);rw[e1,e2,Bool.or_false]) (by rw[h1];simpa using h2) ⟨.str ⟨#[c]⟩,H,I.tok _,⟨_,rfl⟩,q⟩) hs
theorem Inv.lst{ae:List (ad×Obj)}{σ:St}{H:Hp}{s:ai}{p:ad}{xs:List V}(I:Inv X ae σ H s)(h:H p=some (.lst xs)):
  ∃(its:List ag) (n:Nat),Vals xs its/\s.heap.get? p=some { cls:=.type "list",data:=.seq its.toArray n }/\xs.length<=aI:=by
 obtain⟨z,its,n,r,e⟩:=I.hok p _ h
 exact⟨its,n,r,e,z⟩
theorem ZW(lo hi:Option Int)(n:Nat):(oF lo hi none n).1=((HT.sIx n 0 lo:Nat):Int)/\(oF lo hi none n).2.1=((HT.sIx n n hi:Nat):Int)/\(oF lo hi none n).2.2=1:=by
 refine⟨?_,?_,rfl⟩
 .cases lo with
  | none=>simp[oF,HT.sIx]
  | some i=>
   simp only[oF,HT.sIx,Ps,show (1:Int) > 0 by decide,if_true];by_cases h:i < 0
   .simp only[h,if_true] <;> omega
   .simp only[h,if_false] <;> omega
 .cases hi with
  | none=>simp[oF,HT.sIx]
  | some i=>
   simp only[oF,HT.sIx,Ps,show (1:Int) > 0 by decide,if_true];by_cases h:i < 0
   .simp only[h,if_true] <;> omega
   .simp only[h,if_false] <;> omega
theorem Y1(its:List ag)(lo hi:Option Int):slicePick its.toArray lo hi none=((its.drop (HT.sIx its.length 0 lo)).take (HT.sIx its.length its.length hi - HT.sIx its.length 0 lo)).toArray:=by
 obtain⟨h1,h2,h3⟩:=ZW lo hi its.toArray.size;unfold slicePick;rw[h1,h2,h3];simp only[sliceRange_one,pick_run,c7] <;> rfl
def jjR(K:aw):V->Option Int->Option Int->Hp->VK->Prop:=fun x lo hi H Q=>∃a xs,x=.ref a/\SqL K H a xs/\∀p,H p=none->Q (.ref p) (upd H p (.lst (zZ xs lo hi)))
theorem ZY:SlR X (jjR X.K):=by
 intro ae s σ H x v vl vu lo hi sl Q I rx hs pl pu h;obtain⟨a,xs,rfl,hx,q⟩:=h
 cases rx
 obtain⟨its,r,ht,hz⟩:=I.list hx;have bu:=r.length;refine⟨"list",_,Nu.lookup,ht.isList.typeIs,?_⟩;refine wpAny_getItem_list_slice ht.isList hs pl pu .none (by simp) ?_ (by rw[c7] <;> omega);rw[Y1,<- bu];refine⟨.ref s.heap.objs.size,_,I.laid (t':=s.toks) (o:=.lst (zZ xs lo hi)) (fun b ob q=>b_ _ q) (aD _) ?_,rfl,q _ (I.hok.fresh (aD _))⟩;exact⟨aJ (KZ xs lo hi) hz,_,0,(r.drop (HT.sIx xs.length 0 lo)).take (HT.sIx xs.length xs.length hi - HT.sIx xs.length 0 lo),dg _ rfl⟩
theorem qp:zp X (.builtin "len") (fun xs H Q=>∃p ys,xs=[.ref p]/\(SqL X.K H p ys\/SqT X.K H p ys)/\Q (.int ys.length) H):=by
 intro ae s σ H xs us Q I r h;obtain⟨p,ys,rfl,hq,q⟩:=h;obtain⟨u,rfl,rx⟩:=yU r
 cases rx
 have hn:=YG;rcases hq with hq | hq
 .obtain⟨its,r',pl,hz⟩:=I.list hq
  have bu:=r'.length;exact Calls.call_len_list pl.isList (by simp only[c7] <;> omega) ⟨.int ys.length,H,I.tok _,⟨s.toks+1,by rw[c7,bu]⟩,q⟩
 .obtain⟨its,r',pl,hz⟩:=I.tuple hq
  have bu:=r'.length;exact len_tuple pl (by simp only[c7] <;> omega) ⟨.int ys.length,H,I.tok _,⟨s.toks+1,by rw[c7,bu]⟩,q⟩
theorem jaw:zp X (.type "list") (fun xs H Q=>∃p ys,xs=[.ref p]/\(SqL X.K H p ys\/SqT X.K H p ys)/\∀l,H l=none->Q (.ref l) (upd H l (.lst ys))):=by
 intro ae s σ H xs us Q I r h;obtain⟨p,ys,rfl,hq,q⟩:=h;obtain⟨u,rfl,rx⟩:=yU r
 cases rx
 have fin:∀(its:List ag),Vals ys its->ys.length<=aI->∀(h':ar) (c':Nat),(∀b o',s.heap.get? b=some o'->h'.get? b=some o')->
   h'.get? s.heap.objs.size=some { cls:=.type "list",dict:=none,data:=.seq its.toArray c',slots:=#[] }->EP X ae σ Q (.ref s.heap.objs.size) { s with heap:=h' }:=fun its r' hz h' c' kp e=>
  ⟨.ref s.heap.objs.size,_,I.laid (t':=s.toks) kp (aD _) (show ObjOk X.prog X.w _ h' _ (.lst ys) from⟨hz,its,c',r',e⟩),rfl,q _ (I.hok.fresh (aD _))⟩
 rcases hq with hq | hq
 .obtain⟨its,r',pl,hz⟩:=I.list hq
  have bu:=r'.length;obtain⟨o,ho,hc,n,hd⟩:=pl.isList;exact call_list_seq p (.inl rfl) ho hc hd (fun h' c' kp e=>fin its r' hz h' c' kp e) (by simp only[c7] <;> omega)
 .obtain⟨its,r',pl,hz⟩:=I.tuple hq
  have bu:=r'.length;obtain⟨o,ho,hc,n,hd⟩:=pl;exact call_list_seq p (.inr rfl) ho hc hd (fun h' c' kp e=>fin its r' hz h' c' kp e) (by simp only[c7] <;> omega)
theorem Y7:zp X (.type "tuple") (fun xs H Q=>∃p ys,xs=[.ref p]/\((SqL X.K H p ys/\∀l,H l=none->Q (.ref l) (upd H l (.tup ys)))\/(SqT X.K H p ys/\Q (.ref p) H))):=by
 intro ae s σ H xs us Q I r h;obtain⟨p,ys,rfl,h⟩:=h;obtain⟨u,rfl,rx⟩:=yU r
 cases rx
 rcases h with⟨hq,q⟩ | ⟨hq,q⟩
 .obtain⟨its,r',pl,hz⟩:=I.list hq
  have bu:=r'.length;refine call_tuple_list pl.isList (fun h' kp=>?_) (by simp only[c7] <;> omega);have I1:Inv X ae σ H { s with heap:=h' }:=I.kept (t':=s.toks) kp;have I2:Inv X ae σ (upd H h'.objs.size (.tup ys)) { s with heap:=h'.push { cls:=.type "tuple",data:=.seq its.toArray } }:=
   I1.laid (t':=s.toks) (fun b o e=>b_ _ e) (aD _) (show ObjOk X.prog X.w _ _ _ (.tup ys) from⟨hz,its,r',FJ _ _⟩)
  exact⟨.ref h'.objs.size,_,I2,rfl,q _ (I1.hok.fresh (aD _))⟩
 .obtain⟨its,r',pl,hz⟩:=I.tuple hq
  exact call_tuple_same pl ⟨.ref p,H,I,rfl,q⟩
def tyV(K:aw)(T:String)(x:V)(H:Hp):Prop:=match x with
 | .str _=>T = "str"
 | .int _=>T = "int"
 | .ref p=>(T = "list"/\∃xs,SqL K H p xs)\/(T = "tuple"/\∃o,K.lookup p=some o/\o.cls=.type "tuple"/\o.dict=none)\/
   (T = "dict"/\((∃kvs,H p=some (.dK kvs))\/∃kvs,H p=some (.dT kvs)))\/(T = "set"/\∃S n,H p=some (.set S n))
 | _=>False
theorem jee{v:ag}(I:Inv X ae σ H s)(r:RelV x v)(ty:tyV X.K T x H):
  s.TypeIs v T/\∀a,v=.ref a->∃ob,s.heap.get? a=some ob/\ob.dict=none:=by
 cases x with
 | str z=>
  obtain⟨t,rfl⟩:=r
  cases (show T = "str" from ty)
  exact⟨typeIs_str s z t,fun _ e=>nomatch e⟩
 | int i=>
  obtain⟨t,rfl⟩:=r
  cases (show T = "int" from ty)
  exact⟨typeIs_int s i t,fun _ e=>nomatch e⟩
 | ref p=>
  cases r
  rcases ty with⟨rfl,xs,hq⟩ | ⟨rfl,o,hk,hc,hd⟩ | ⟨rfl,hk⟩ | ⟨rfl,S,n,hk⟩
  .obtain⟨its,_,pl,_⟩:=I.list hq
   refine⟨pl.isList.typeIs,fun a e=>?_⟩
   cases e
   obtain⟨o,n,e,c,hd,_⟩:=pl
   exact⟨o,e,hd⟩
  .refine⟨⟨o,I.kIn p o hk,hc⟩,fun a e=>?_⟩
   cases e
   exact⟨o,I.kIn _ o hk,hd⟩
  .have z:∃o,s.heap.get? p=some o/\o.ExactDict:=by
    rcases hk with⟨kvs,hk⟩ | ⟨kvs,hk⟩
    .obtain⟨_,_,_,_,o,_,_,e,ex,_⟩:=I.hok p _ hk
     exact⟨o,e,ex⟩
    .obtain⟨_,_,_,_,o,_,_,e,ex,_⟩:=I.hok p _ hk
     exact⟨o,e,ex⟩
   obtain⟨o,e,ex⟩:=z;refine⟨⟨o,e,ex.1⟩,fun a e2=>?_⟩
   cases e2
   exact⟨o,e,ex.2.1⟩
  .obtain⟨o,_,_,_,e,ex,_⟩:=I.hok p _ hk
   refine⟨⟨o,e,ex.1⟩,fun a e2=>?_⟩
   cases e2
   exact⟨o,e,ex.2.1⟩
 | _=>exact gB ty
def jje(K:aw)(T:String)(r:V->List V->Hp->VK->Prop)(to:TE):TE:=fun σ H Q=>to σ H fun x H1=>tyV K T x H1/\r x [] H1 Q
def tBM(K:aw)(T:String)(r:V->List V->Hp->VK->Prop)(to:TE)(t:TA):TE:=fun σ H Q=>to σ H fun x H1=>tyV K T x H1/\t σ H1 fun xs H2=>r x xs H2 Q
variable {o:aj}{es:List aj}{to:TE}{t:TA}{name:Str}{cy bN:Pos}{id:String}{r:V->List V->Hp->VK->Prop}
theorem jit(pa:A5 T)(slot:Slot T name id)(xj:typeOf (.builtin id)=pure (.type "method_descriptor"))(hm:MtR X id r)(ho:PE X o to)
  (pZ:gj o name X.env (eval o X.env)=eval o X.env:=by rfl) (pS:(cy.endLine == bN.line)=true:=by rfl):PE X (.Call (.Attribute o name cy) [] [] bN) (jje X.K T r to):=by
 intro ae s σ H Q I h
 refine Nl pZ pS (thn (ho ae s σ H _ I h) fun v s1 hM=>?_)
 obtain⟨x,H1,I1,r1,ty,q1⟩:=hM
 obtain⟨h1,h2⟩:=jee I1 r1 ty
 exact⟨T,id,pa,slot,xj,h1,h2,vk rfl (NM (hm ae s1 σ H1 x [] v [] Q I1 r1 .nil q1))⟩
theorem jjr(pa:A5 T)(slot:Slot T name id)(xj:typeOf (.builtin id)=pure (.type "method_descriptor"))(hm:MtR X id r)(ho:PE X o to)(ha:PA X (e :: es) t)
  (pZ:gj o name X.env (eval o X.env)=eval o X.env:=by rfl)
  (Li:((ff bN (cj (e :: es) X.env)).all (fun x=>!x.1) && (AZ bN (AX [] X.env)).all (fun x=>x.1.isSome)
   && decide ((e :: es).length+([]:List Keyword).length+(if ([]:List Keyword).isEmpty then 0 else 1) < 30))=true:=by rfl)
  (pS:(cy.endLine == bN.line)=true:=by rfl) (hs:cj (e :: es) X.env=(false,eval e X.env) :: cj es X.env:=by rfl) (II:(ff bN (cj es X.env)).any (·.1)=false:=by rfl) :
  PE X (.Call (.Attribute o name cy) (e :: es) [] bN) (tBM X.K T r to t):=by
 intro ae s σ H Q I h
 refine wpAny_Call_method_late pZ Li pS rfl (thn (ho ae s σ H _ I h) fun v s1 hM=>?_)
 obtain⟨x,H1,I1,r1,ty,q1⟩:=hM
 obtain⟨h1,h2⟩:=jee I1 r1 ty
 refine⟨T,id,pa,slot,xj,h1,h2,?_⟩
 have hA:=ha bN ae s1 σ H1 _ I1 q1
 rw[hs]at hA |-
 refine vk (by show (false || (ff bN (cj es X.env)).any (·.1))=false;rw[II] <;> rfl) (Fu ?_)
 exact thn hA fun us s2 ⟨vs,H2,I2,r2,q2⟩=>hm ae s2 σ H2 x vs v us Q I2 r1 r2 q2
end
def MtM(X:Cx)(id:String)(r:V->List V->Hp->VK->Prop):Prop:=
 ∀(ae:List (ad×Obj)) (s:ai) (σ:St) (H:Hp) (x:V) (xs:List V) (v:ag) (us:List ag) (Q:VK),Inv X ae σ H s->RelV x v->Vals xs us->r x xs H Q->
  au (ao X.prog X.w) X.A (call (.builtin id) (v :: us)) (EP X ae σ Q) X.xe s
variable {us:List ag}
theorem Vals.one(h:Vals [x] us):∃u,us=[u]/\RelV x u:=by
 cases h with
 | cons r t=>cases t;exact⟨_,rfl,r⟩
variable {y:V}
theorem Vals.two(h:Vals [x,y] us):∃u v,us=[u,v]/\RelV x u/\RelV y v:=by
 cases h with
 | cons r t=>cases t with
  | cons q t=>cases t;exact⟨_,_,rfl,r,q⟩
theorem Vals.eraseIdx:∀{xs:List V} {us:List ag} (i:Nat),Vals xs us->Vals (xs.eraseIdx i) (us.eraseIdx i)
 | _,_,_,.nil=>.nil
 | _,_,0,.cons _ t=>t
 | _,_,i+1,.cons r t=>.cons r (Vals.eraseIdx i t)
theorem Vals.reverse{xs:List V}(h:Vals xs us):Vals xs.reverse us.reverse:=by
 induction h with
 | nil=>exact .nil
 | cons r t ih=>rw[PP,PP];exact Vals.append ih (.cons r .nil)
variable {b:ad}{t':Nat}
section
variable {l:ad}{xs ys zs:List V}
theorem Inv.lset{its its':List ag}{f:Array ag->Array ag}(I:Inv X ae σ H s)(hH:H l=some (.lst xs))
  (e:s.heap.get? l=some { cls:=.type "list",data:=.seq its.toArray n }) (hf:f its.toArray=its'.toArray) (hv:Vals ys its') (hz:ys.length<=aI) :
  Inv X ae σ (upd H l (.lst ys)) { s with heap:=s.heap.update l (fg f),toks:=t' }:=by
 have q:=PySem.IsL.update e f
 rw[hf]at q
 refine I.write (x:=l) (e:=l) (by rw[hH];exact trivial) (.inl rfl) (fun b' u hb hu=>(Fk s.heap (fg f) (eG hb)).trans hu) ⟨_,q⟩ ?_
 exact⟨hz,its',_,hv,q⟩
theorem Inv.lnew{its:List ag}(I:Inv X ae σ H s)(hv:Vals ys its)(hz:ys.length<=aI):
  Inv X ae σ (upd H s.heap.objs.size (.lst ys)) { s with heap:=s.heap.push { cls:=.type "list",data:=.seq its.toArray },toks:=t' }:=
 I.laid (fun _ _ q=>b_ _ q) (aD _) ⟨hz,its,0,hv,dg _ rfl⟩
theorem Inv.fresh(I:Inv X ae σ H s):H s.heap.objs.size=none:=I.hok.fresh (aD _)
theorem Inv.lstM(I:Inv X ae σ H s)(hH:H l=some (.lst xs)):xs.length<=aI/\∃(its:List ag) (n:Nat),Vals xs its/\xs.length=its.length/\s.heap.get? l=some { cls:=.type "list",data:=.seq its.toArray n }:=by
 obtain⟨z,its,n,r,e⟩:=I.hok l _ hH;exact⟨z,its,n,r,r.length,e⟩
theorem jfn(h:n<=aI):Fw n=false:=by
 unfold Fw;exact Qv (by omega)
end
section
def jcA:V->List V->Hp->VK->Prop:=fun x vs H Q=>∃l xs y,x=.ref l/\vs=[y]/\H l=some (.lst xs)/\xs.length < aI/\Q .non (upd H l (.lst (xs++[y])))
theorem j0:MtM X "list.append" jcA:=by
 intro ae s σ H x vs v us Q I rx rv h;obtain⟨l,xs,y,rfl,rfl,hH,hz,q⟩:=h
 cases rx
 obtain⟨u,rfl,ru⟩:=rv.one;obtain⟨z,its,n,r,hl,e⟩:=I.lstM hH;refine call_meets F.slot_list_append ⟨_,e,rfl⟩ F.entry_list_append (F.args_list_append_2 _ _) (PySem.list_append l its.toArray n u (by rw[c7];omega)) ⟨e,?_⟩;refine⟨.non,_,I.lset (its':=its++[u]) hH e (by simp) (r.append (.cons ru .nil)) ?_,rfl,q⟩;rw[bV,List.length_singleton];omega
def jgi:V->List V->Hp->VK->Prop:=fun x vs H Q=>∃l b xs zs,x=.ref l/\vs=[.ref b]/\H l=some (.lst xs)/\H b=some (.lst zs)/\xs.length+zs.length<=aI/\Q .non (upd H l (.lst (xs++zs)))
theorem qa:MtM X "list.extend" jgi:=by
 intro ae s σ H x vs v us Q I rx rv h;obtain⟨l,b,xs,zs,rfl,rfl,hH,hB,hz,q⟩:=h
 cases rx
 obtain⟨u,rfl,ru⟩:=rv.one
 cases ru
 obtain⟨z,its,n,r,hl,e⟩:=I.lstM hH;obtain⟨z2,bF,n2,r2,nW,e2⟩:=I.lstM hB;have hsz:its.toArray.size+bF.toArray.size<=aI:=by rw[c7,c7];omega
 have IU:¬(!its.toArray.isEmpty && Fw (its.toArray.size+bF.toArray.size))=true:=by
  rw[jfn hsz,Go];exact c9
 refine call_meets F.slot_list_extend ⟨_,e,rfl⟩ F.entry_list_extend (F.args_list_extend_2 _ _)
  (AutoSeq1.list_extend_list_list_0 l its.toArray n b bF.toArray n2 IU (by rw[c7];omega) (by omega)) ⟨e,e2,?_⟩
 refine⟨.non,_,I.lset (its':=its++bF) hH e (by simp) (r.append r2) ?_,rfl,q⟩;rw[bV];omega
def jjU:R2:=fun x y H Q=>∃l b xs zs,x=.ref l/\y=.ref b/\H l=some (.lst xs)/\H b=some (.lst zs)/\xs.length+zs.length<=aI/\∀p,H p=none->Q (.ref p) (upd H p (.lst (xs++zs)))
theorem jab:OpR X (iQ .Add) jjU:=by
 intro ae s σ H x y v u Q I rx ry h;obtain⟨l,b,xs,zs,rfl,rfl,hH,hB,hz,q⟩:=h
 cases rx
 cases ry
 obtain⟨z,its,n,r,hl,e⟩:=I.lstM hH;obtain⟨z2,bF,n2,r2,nW,e2⟩:=I.lstM hB;refine PySem.P.add_list e e2 ?_ (by rw[c7,c7];omega);have ea:its.toArray++bF.toArray=(its++bF).toArray:=by simp
 rw[ea];exact⟨.ref _,_,I.lnew (t':=s.toks) (r.append r2) (by rw[bV];omega),rfl,q _ I.fresh⟩
end
variable {o:Option V}{u:ag}
section
variable {κ:Type}[DecidableEq κ]
def qH(kvs:List (κ×V))(k:κ):Option V:=(kvs.find? fun kv=>decide (kv.1=k)).map (·.2)
def j4(kvs:List (κ×V))(k:κ)(v:V):List (κ×V):=
 if (kvs.any fun kv=>decide (kv.1=k))=true then kvs.map (fun kv=>if kv.1=k then (kv.1,v) else kv) else kvs++[(k,v)]
def ZC(kvs:List (κ×V))(k:κ):List (κ×V):=kvs.filter fun kv=>decide (kv.1≠k)
theorem qg{p:κ×V}{r:List (κ×V)}{k:κ}(e:p.1=k):qH (p :: r) k=some p.2:=by simp[qH,rX,e]
theorem qh{p:κ×V}{r:List (κ×V)}{k:κ}(e:¬p.1=k):qH (p :: r) k=qH r k:=by simp[qH,rX,e]
theorem JN(k:κ):∀kvs:List (κ×V),(kvs.any fun kv=>decide (kv.1=k))=(qH kvs k).isSome
 | []=>rfl
 | p :: r=>by
  rw[F9];by_cases e:p.1=k
  .simp only[qg e,Qu e,Bool.true_or,Option.isSome_some]
  .rw[qh e,Qv e,Gk];exact JN k r
theorem jaN(k j:κ)(y:V):∀kvs:List (κ×V),qH (kvs.map fun kv=>if kv.1=k then (kv.1,y) else kv) j=(qH kvs j).map fun x=>if j=k then y else x
 | []=>rfl
 | p :: r=>by
  have ih:=jaN k j y r;rw[aU];by_cases h:p.1=k
  .rw[Qx h]
   by_cases e:p.1=j
   .rw[qg (p:=(p.1,y)) e,qg e,Bo,Qx (e.symm.trans h)]
   .rw[qh (p:=(p.1,y)) e,qh e,ih]
  .rw[Qw h]
   by_cases e:p.1=j
   .rw[qg (p:=p) e,qg e,Bo,Qw (fun z=>h (e.trans z))]
   .rw[qh (p:=p) e,qh e,ih]
theorem Zd(k j:κ)(y:V):∀kvs:List (κ×V),qH kvs k=none->qH (kvs++[(k,y)]) j=if j=k then some y else qH kvs j
 | [],_=>by
  by_cases e:k=j
  .rw[Qx e.symm];exact qg (p:=(k,y)) e
  .rw[Qw (fun z=>e z.symm)];exact qh (p:=(k,y)) e
 | p :: r,hn=>by
  rw[cC];have hk:¬p.1=k:=fun z=>by rw[qg z]at hn;cases hn
  rw[qh hk]at hn;have ih:=Zd k j y r hn;by_cases e:p.1=j
  .rw[qg e,qg e,Qw (fun z=>hk (e.trans z))]
  .rw[qh e,qh e,ih]
theorem jed(kvs:List (κ×V))(k j:κ)(y:V):qH (j4 kvs k y) j=if j=k then some y else qH kvs j:=by
 unfold j4;by_cases a:(kvs.any fun kv=>decide (kv.1=k))=true
 .rw[Qx a,jaN]
  rw[JN]at a;by_cases e:j=k
  .obtain⟨x,hx⟩:=vp.mp a
   rw[Qx e,e,hx,Bo,Qx rfl]
  .rw[Qw e]
   cases qH kvs j with
   | none=>rfl
   | some x=>rw[Bo,Qw e]
 .rw[Qw a]
  refine Zd k j y kvs ?_;rw[JN]at a
  cases q:qH kvs k with
  | none=>rfl
  | some x=>rw[q]at a;exact (a rfl).elim
theorem kP(kvs:List (κ×V))(k:κ)(v:V):(j4 kvs k v).length<=kvs.length+1:=by
 unfold j4;split
 .rw[az];omega
 .rw[bV,ck,fN];omega
theorem RelO.isSome_eq{u:Option ag}(r:RelO o u):o.isSome=u.isSome:=by
 cases o with
 | none=>cases u with
  | none=>rfl
  | some _=>exact (show False from r).elim
 | some _=>cases u with
  | none=>exact (show False from r).elim
  | some _=>rfl
theorem RelO.getD{u:Option ag}{d:V}{d':ag}(r:RelO o u)(rd:RelV d d'):RelV (o.getD d) (u.getD d'):=by
 cases o with
 | none=>cases u with
  | none=>exact rd
  | some _=>exact (show False from r).elim
 | some _=>cases u with
  | none=>exact (show False from r).elim
  | some _=>exact r
theorem KV.val{kvs:List (κ×V)}{vs:List (κ×ag)}(r:KV kvs vs)(k:κ):RelO (qH kvs k) (lJ vs k):=by
 unfold KV at r;induction r with
 | nil=>exact True.intro
 | @cons p q ps qs h t ih=>
  obtain⟨h1,h2⟩:=h;by_cases e:p.1=k
  .have e':q.1=k:=h1.symm.trans e
   have b:lJ (q :: qs) k=some q.2:=by simp[lJ,rX,e']
   rw[qg e,b];exact h2
  .have e':¬q.1=k:=fun z=>e (h1.trans z)
   have b:lJ (q :: qs) k=lJ qs k:=by simp[lJ,rX,e']
   rw[qh e,b];exact ih
theorem KV.any{kvs:List (κ×V)}{vs:List (κ×ag)}(r:KV kvs vs)(k:κ):(kvs.any fun kv=>decide (kv.1=k))=vs.any fun kv=>decide (kv.1=k):=by
 unfold KV at r;induction r with
 | nil=>rfl
 | cons h t ih=>rw[F9,F9,ih,h.1]
theorem KV.repl{kvs:List (κ×V)}{vs:List (κ×ag)}(r:KV kvs vs)(k:κ)(ry:RelV y u):
  KV (kvs.map fun kv=>if kv.1=k then (kv.1,y) else kv) (vs.map fun kv=>if kv.1=k then (kv.1,u) else kv):=by
 unfold KV at r |-
 induction r with
 | nil=>exact .nil
 | @cons p q ps qs h t ih=>
  rw[aU,aU]
  refine .cons ?_ ih
  obtain⟨h1,h2⟩:=h
  by_cases e:p.1=k
  .rw[Qx e,Qx (h1.symm.trans e)];exact⟨h1,ry⟩
  .rw[Qw e,Qw (fun z=>e (h1.trans z))];exact⟨h1,h2⟩
theorem KV.put{kvs:List (κ×V)}{vs:List (κ×ag)}(r:KV kvs vs)(k:κ)(ry:RelV y u):KV (j4 kvs k y) (stored vs k u):=by
 unfold j4 stored;rw[r.any k];by_cases e:(vs.any fun kv=>decide (kv.1=k))=true
 .rw[Qx e,Qx e];exact r.repl k ry
 .rw[Qw e,Qw e];exact Oq r ⟨rfl,ry⟩
theorem KV.drop{kvs:List (κ×V)}{vs:List (κ×ag)}(r:KV kvs vs)(k:κ):KV (ZC kvs k) (without vs k):=by
 unfold KV at r |-;unfold ZC without;induction r with
 | nil=>exact .nil
 | @cons p q ps qs h t ih=>
  obtain⟨h1,h2⟩:=h;rw[Bz,Bz];by_cases e:p.1=k
  .have a:¬decide (p.1≠k)=true:=by simp[e]
   have b:¬decide (q.1≠k)=true:=by simp[h1.symm.trans e]
   rw[Qw a,Qw b];exact ih
  .have e':¬q.1=k:=fun z=>e (h1.trans z)
   have a:decide (p.1≠k)=true:=by simp[e]
   have b:decide (q.1≠k)=true:=by simp[e']
   rw[Qx a,Qx b];exact .cons ⟨h1,h2⟩ ih
theorem KV.keys{kvs:List (κ×V)}{vs:List (κ×ag)}(r:KV kvs vs):kvs.map (·.1)=vs.map (·.1):=by
 unfold KV at r;induction r with
 | nil=>rfl
 | cons h t ih=>rw[aU,aU,ih,h.1]
theorem KV.length{kvs:List (κ×V)}{vs:List (κ×ag)}(r:KV kvs vs):kvs.length=vs.length:=A7 r
theorem jbc(kvs:List (κ×V))(k:κ):(ZC kvs k).length<=kvs.length:=i0 _ _
end
variable {P:aE}{w:aB}
theorem Kh{k:Key}(r:RelV (kV k) u):(j6 P w).is k u=true:=by
 cases k with
 | inl i=>obtain⟨t,e⟩:=(show ∃t,u=Value.int i t from r);subst e;exact ja2 P w i t
 | inr x=>obtain⟨t,e⟩:=(show ∃t,u=Value.str x t from r);subst e;exact ja1 P w x t
theorem Zx{P:aE}{w:aB}:∀{ks:List Key} {us:List ag},Vals (ks.map kV) us->ItemsAre (j6 P w) ks us
 | [],_,r=>by rw[eJ]at r;cases r;exact .nil
 | k :: ks,_,r=>by
  rw[aU]at r
  cases r with
  | cons h t=>exact .cons (Kh h) (Zx t)
abbrev KT(H:Hp):List (List Key×V)->List (List Key×ad×ag)->Prop:=Paired fun p q=>p.1=q.1/\H q.2.1=some (.tup (p.1.map kV))/\RelV p.2 q.2.2
variable {kvs:List (List Key×V)}{xs:List (List Key×ad×ag)}
theorem KT.val(r:KT H kvs xs)(k:List Key):RelO (qH kvs k) ((atKey xs k).map (·.2)):=by
 induction r with
 | nil=>exact True.intro
 | @cons p q ps qs h t ih=>
  obtain⟨h1,_,h2⟩:=h;by_cases e:p.1=k
  .have e':q.1=k:=h1.symm.trans e
   have b:atKey (q :: qs) k=some q.2:=by simp[atKey,rX,e']
   rw[qg e,b];exact h2
  .have e':¬q.1=k:=fun z=>e (h1.trans z)
   have b:atKey (q :: qs) k=atKey qs k:=by simp[atKey,rX,e']
   rw[qh e,b];exact ih
theorem KT.repl(r:KT H kvs xs)(k:List Key)(ry:RelV y u):
  KT H (kvs.map fun kv=>if kv.1=k then (kv.1,y) else kv) (xs.map (putAt k u)):=by
 induction r with
 | nil=>exact .nil
 | @cons p q ps qs h t ih=>
  rw[aU,aU]
  refine .cons ?_ ih
  obtain⟨h1,h2,h3⟩:=h
  unfold putAt
  by_cases e:p.1=k
  .rw[Qx e,Qx (h1.symm.trans e)];exact⟨h1,h2,ry⟩
  .rw[Qw e,Qw (fun z=>e (h1.trans z))];exact⟨h1,h2,h3⟩
theorem KT.put(r:KT H kvs xs)(k:List Key)(hb:H b=some (.tup (k.map kV)))(ry:RelV y u):
  KT H (j4 kvs k y) (storedH xs k b u):=by
 have e:(kvs.any fun kv=>decide (kv.1=k))=(atKey xs k).isSome:=by
  rw[JN,(r.val k).isSome_eq,Pm]
 unfold j4 storedH
 rw[e]
 by_cases q:(atKey xs k).isSome=true
 .rw[Qx q,Qx q];exact r.repl k ry
 .rw[Qw q,Qw q];exact Oq r ⟨rfl,hb,ry⟩
variable {H':Hp}
theorem KT.keeps(r:KT H kvs xs)(ht:∀b ys,H b=some (.tup ys)->H' b=some (.tup ys)):KT H' kvs xs:=
 Paired.mapP r fun _ _ z=>⟨z.1,ht _ _ z.2.1,z.2.2⟩
variable {a:ad}
section
variable {h:ar}
theorem jhK{u:HO}(ok:HOk P w H h)(e:Rd H a u):ObjOk P w H h a u:=e.ok ok
theorem KY{kvs:List (Key×V)}(ok:HOk P w H h)(e:Rd H a (.dK kvs)):kvs.length<=aI/\(a == gh)=false/\∃vs,KV kvs vs/\h.DictOf (j6 P w) a vs:=
 show ObjOk P w H h a (.dK kvs) from jhK ok e
theorem jbf{kvs:List (Key×V)}(ok:HOk P w H h)(e:H a=some (.dK kvs)):kvs.length<=aI/\(a == gh)=false/\∃vs,KV kvs vs/\h.DictOf (j6 P w) a vs:=KY ok (.inl e)
theorem YJ{ks:List Key}(ok:HOk P w H h)(e:H a=some (.tup (ks.map kV))):(oE (j6 P w)).is h ks a:=by
 obtain⟨_,its,r,o,h1,h2,n,h3⟩:=(show ObjOk P w H h a (.tup (ks.map kV)) from ok a _ e)
 exact⟨o,its.toArray,n,h1,h2,h3,by simpa using Zx r⟩
theorem ZB(ok:HOk P w H h)(e:Rd H a (.dT kvs)):kvs.length<=aI/\(a == gh)=false/\
  ∃xs,KT H kvs xs/\h.DictOfH (oE (j6 P w)) a xs:=by
 obtain⟨z,y,xs,r,o,es,ep,h1,h2,h3,h4,h5⟩:=(show ObjOk P w H h a (.dT kvs) from jhK ok e)
 refine⟨z,y,xs,r,o,es,ep,h1,h2,h3,h4,fun x hx=>?_,h5⟩
 have all:∀{l:List (List Key×V)} {m:List (List Key×ad×ag)},KT H l m->∀x∈m,(oE (j6 P w)).is h x.1 x.2.1:=by
  intro l m q;induction q with
  | nil=>intro x hx;exact nomatch hx
  | @cons p q ps qs hq t ih=>
   intro x hx;rcases bG.mp hx with e | hx
   .subst e
    exact YJ ok (by rw[<- hq.1];exact hq.2.1)
   .exact ih x hx
 exact all r x hx
theorem jjI(ok:HOk P w H h)(e:H a=some (.dT kvs)):kvs.length<=aI/\(a == gh)=false/\
  ∃xs,KT H kvs xs/\h.DictOfH (oE (j6 P w)) a xs:=ZB ok (.inl e)
end
def DGet(H:Hp)(a:ad)(y:V)(r:Option V):Prop:=
 (∃kvs k,Rd H a (.dK kvs)/\y=kV k/\r=qH kvs k)\/∃kvs k b,Rd H a (.dT kvs)/\y=.ref b/\H b=some (.tup (k.map kV))/\r=qH kvs k
def DPut(H:Hp)(a:ad)(y v:V)(H':Hp):Prop:=
 (∃kvs k,H a=some (.dK kvs)/\y=kV k/\kvs.length < aI/\H'=upd H a (.dK (j4 kvs k v)))\/
 ∃kvs k b,H a=some (.dT kvs)/\y=.ref b/\H b=some (.tup (k.map kV))/\kvs.length < aI/\H'=upd H a (.dT (j4 kvs k v))
theorem DGet.k{kvs:List (Key×V)}{k:Key}(e:H a=some (.dK kvs)):DGet H a (kV k) (qH kvs k):=.inl ⟨kvs,k,.inl e,rfl,rfl⟩
variable {v:V}
theorem DPut.k{kvs:List (Key×V)}{k:Key}(e:H a=some (.dK kvs))(hl:kvs.length < aI):DPut H a (kV k) v (upd H a (.dK (j4 kvs k v))):=.inl ⟨kvs,k,e,rfl,hl,rfl⟩
theorem DPut.t{k:List Key}(e:H a=some (.dT kvs))(eb:H b=some (.tup (k.map kV)))(hl:kvs.length < aI):
  DPut H a (.ref b) v (upd H a (.dT (j4 kvs k v))):=.inr ⟨kvs,k,b,e,rfl,eb,hl,rfl⟩
variable {r:ag}{A:aS}{E Q:ag->ai->Prop}
section
theorem Inv.big(I:Inv X ae σ H s):gh < s.heap.objs.size:=by
 have h:aT < s.heap.objs.size:=(I.mod.glob.keeps I.bk).lt;exact FT (by decide) h
theorem jdQ(hu:A.units+1 < cLine)(I:Inv X ae σ H s)(g:DGet H a y (some v))(ry:RelV y u)(h:∀w' s',Inv X ae σ H s'->RelV v w'->Q w' s'):
  au (ao X.prog X.w) A (mX (.ref a) u) Q E s:=by
 rcases g with⟨kvs,k,e,ey,l⟩ | ⟨kvs,k,b,e,ey,eb,l⟩
 .subst ey
  obtain⟨z,hd,vs,bR,dd⟩:=KY I.hok e
  obtain⟨w',hw,dJ⟩:=RelO.some_of (v:=v) (o:=lJ vs k) (by rw[l];exact bR.val k)
  exact wpAny_getItem_of (Kh ry) dd.mapOf hw (h w' _ (I.tok _) dJ)
 .subst ey
  cases (show u=Value.ref b from ry)
  obtain⟨z,hd,xs,bR,dd⟩:=ZB I.hok e
  obtain⟨w',hw,dJ⟩:=RelO.some_of (v:=v) (o:=(atKey xs k).map (·.2)) (by rw[l];exact bR.val k)
  obtain⟨p,hp,fW⟩:=Bp.mp hw
  refine wpAny_getItem_heap (AS hu) (YJ I.hok eb) dd hp ?_
  rw[fW]
  exact h w' _ (I.tok _) dJ
theorem jho(hu:A.units+1 < cLine)(I:Inv X ae σ H s)(g:DGet H a y o)(ry:RelV y u)(h:∀s',Inv X ae σ H s'->Q (.bool (!o.isSome)) s'):
  au (ao X.prog X.w) A (fe .NotIn u (.ref a)) Q E s:=by
 rcases g with⟨kvs,k,e,ey,l⟩ | ⟨kvs,k,b,e,ey,eb,l⟩
 .subst ey
  obtain⟨z,hd,vs,bR,dd⟩:=KY I.hok e
  refine wpAny_notIn_of (Kh ry) hd dd.mapOf ?_
  rw[<- (bR.val k).isSome_eq,<- l]
  exact h _ (I.tok _)
 .subst ey
  cases (show u=Value.ref b from ry)
  obtain⟨z,hd,xs,bR,dd⟩:=ZB I.hok e
  refine wpAny_notIn_heap (AS hu) (YJ I.hok eb) hd dd ?_
  have q:=(bR.val k).isSome_eq
  rw[Pm]at q
  rw[<- q,<- l]
  exact h _ (I.tok _)
theorem Kn{h':ar}{ob:HO}(I:Inv X ae σ H s)(mu:Mut (H a))(hs:lP a s.heap h')(he:∃q,h'.get? a=some q)(new:ObjOk X.prog X.w (upd H a ob) h' a ob):
  Inv X ae σ (upd H a ob) { s with heap:=h',toks:=t' }:=
 I.write (x:=a) (e:=a) mu (.inl rfl) (fun b q hb z=>(hs.2 b hb).trans z) he new
theorem jas{h':ar}{kvs:List (Key×V)}{vs:List (Key×ag)}(z:kvs.length<=aI)(hd:(a == gh)=false)(bR:KV kvs vs)(dd:h'.DictOf (j6 P w) a vs):
  ObjOk P w H' h' a (.dK kvs):=⟨z,hd,vs,bR,dd⟩
theorem jdP{Q:Unit->ai->Prop}(hu:A.units+1 < cLine)(I:Inv X ae σ H s)(g:DPut H a y v H')(ry:RelV y u)(rv:RelV v r)(h:∀s',Inv X ae σ H' s'->Q () s'):
  au (ao X.prog X.w) A (setItem (.ref a) u r) Q E s:=by
 rcases g with⟨kvs,k,e,ey,l,eH⟩ | ⟨kvs,k,b,e,ey,eb,l,eH⟩
 .subst ey eH
  obtain⟨z,hd,vs,bR,dd⟩:=jbf I.hok e
  have hz:vs.length<=aI:=by rw[<- bR.length];exact z
  have hl:(j4 kvs k v).length<=aI:=by have:=kP kvs k v;omega
  refine wpAny_setItem_pairs (hsz:=hz) (Kh ry) dd fun h' fH hs=>h _ ?_
  have he:∃q,h'.get? a=some q:=let ⟨q,_,_,hq,_⟩:=fH;⟨q,hq⟩
  exact Kn I (by rw[e];exact True.intro) hs he (jas hl hd (bR.put k rv) fH)
 .subst ey eH
  cases (show u=Value.ref b from ry)
  obtain⟨z,hd,xs,bR,dd⟩:=jjI I.hok e
  have hz:xs.length<=aI:=by rw[<- A7 bR];exact z
  have hl:(j4 kvs k v).length<=aI:=by have:=kP kvs k v;omega
  refine wpAny_setItem_heap (hsz:=hz) (AS hu) (YJ I.hok eb) dd fun h' fH hs=>h _ ?_
  obtain⟨q,es,ep,hq,h2,h3,h4,_,h5⟩:=fH
  refine Kn I (by rw[e];exact True.intro) hs ⟨q,hq⟩ ⟨hl,hd,_,(bR.put k eb rv).keeps fun c ys ec=>?_,q,es,ep,hq,h2,h3,h4,h5⟩
  rw[jB (Jc ec e (fun z=>nomatch z))]
  exact ec
end
section
variable {kvs:List (Key×V)}{k:Key}
theorem ji5{Q:Unit->ai->Prop}(I:Inv X ae σ H s)(e:H a=some (.dK kvs))(ry:RelV (kV k) u)(l:(qH kvs k).isSome=true)(h:∀s',Inv X ae σ (upd H a (.dK (ZC kvs k))) s'->Q () s'):
  au (ao X.prog X.w) A (delItem (.ref a) u) Q E s:=by
 obtain⟨z,hd,vs,bR,dd⟩:=jbf I.hok e
 refine wpAny_delItem_slot dd.typeIs (by decide) OC
  (oI OC dd.typeIs PySem.F.entry_dict_delitem (PySem.F.args_dict_delitem_2 _ _) (meets_dict_delitem_pairs (j6 X.prog X.w) a (Kh ry)) ⟨vs,dd,by rw[<- bR.length];exact z,by rw[<- (bR.val k).isSome_eq];exact l,fun h' fH hs=>h _ ?_⟩)
 have he:∃q,h'.get? a=some q:=let ⟨q,_,_,hq,_⟩:=fH;⟨q,hq⟩
 exact Kn I (by rw[e];exact True.intro) hs he (jas (aJ (jbc kvs k) z) hd (bR.drop k) fH)
theorem jjJ{more:List ag}(I:Inv X ae σ H s)(e:H a=some (.dK kvs))(ry:RelV (kV k) u)(l:qH kvs k=some v)(hm:more=[]\/∃x,more=[x])
  (h:∀w' s',Inv X ae σ (upd H a (.dK (ZC kvs k))) s'->RelV v w'->Q w' s'):au (ao X.prog X.w) A (call (.builtin "dict.pop") (.ref a :: u :: more)) Q E s:=by
 obtain⟨z,hd,vs,bR,dd⟩:=jbf I.hok e
 obtain⟨w',hw,dJ⟩:=RelO.some_of (v:=v) (o:=lJ vs k) (by rw[<- l];exact bR.val k)
 have hp:(keyPart u).isSome=true:=by
  cases k with
  | inl i=>obtain⟨t,q⟩:=(show ∃t,u=Value.int i t from ry);subst q;rfl
  | inr x=>obtain⟨t,q⟩:=(show ∃t,u=Value.str x t from ry);subst q;rfl
 have ha:argsOk "dict.pop" ⟨.ref a :: u :: more,[]⟩:=by
  rcases hm with q | ⟨x,q⟩
  .subst q;exact PySem.F.args_dict_pop_2 _ _
  .subst q;exact OJ _ _ _
 refine oI Fm dd.typeIs OF ha (meets_dict_pop_there (j6 X.prog X.w) a (Kh ry) more hm hp)
  ⟨vs,w',dd,by rw[<- bR.length];exact z,hw,fun h' fH hs=>h w' _ ?_ dJ⟩
 have he:∃q,h'.get? a=some q:=let ⟨q,_,_,hq,_⟩:=fH;⟨q,hq⟩
 exact Kn I (by rw[e];exact True.intro) hs he (jas (aJ (jbc kvs k) z) hd (bR.drop k) fH)
theorem jiU(I:Inv X ae σ H s)(e:H a=some (.dK kvs))(ry:RelV (kV k) u)(l:qH kvs k=none)(h:∀s',Inv X ae σ H s'->Q r s'):
  au (ao X.prog X.w) A (call (.builtin "dict.pop") [.ref a,u,r]) Q E s:=by
 obtain⟨z,hd,vs,bR,dd⟩:=jbf I.hok e
 have hn:lJ vs k=none:=RelO.none_of (by rw[<- l];exact bR.val k)
 have hp:(keyPart u).isSome=true:=by
  cases k with
  | inl i=>obtain⟨t,q⟩:=(show ∃t,u=Value.int i t from ry);subst q;rfl
  | inr x=>obtain⟨t,q⟩:=(show ∃t,u=Value.str x t from ry);subst q;rfl
 exact oI Fm dd.typeIs OF (OJ _ _ _) (meets_dict_pop_default (j6 X.prog X.w) a (Kh ry) hd hp r) ⟨vs,dd,hn,h _ (I.tok _)⟩
end
def ji1(i:aj):Prop:=∀ov iv,subscripted i false ov iv=operate [ov,iv] (mX ov iv)
theorem jga{prog:aE}{env:Env}{value gU:aj}{id:String}
  (hl:typeLookup (.type T) "__getitem__" = pure (some (.builtin id))) (hs:ji1 gU)
  (h:au (ao prog w) A (eval value env) (fun o s₁=>au (ao prog w) A (eval gU env) (fun i s₂=>s₂.TypeIs o T/\au (ao prog w) A (mX o i) Q E s₂) E s₁) E s) :
  au (ao prog w) A (eval (.Subscript value gU pos) env) Q E s:=by
 refine FF (cI h (fun o s₁ h₁=>cI h₁ (fun i s₂ h₂=>?_) fun _ _ x=>x) fun _ _ x=>x)
 obtain⟨hT,h₂⟩:=h₂
 unfold Fy
 refine aq ?_
 rw[getitemInPython_of_ne hT.not_modules]
 refine aq (wpAny_specialOf hT hl ?_)
 have fin:au (ao prog w) A (subscripted gU false o i) (fun r s₃=>au (ao prog w) A (letTemporaryGo value o r >>= fun _=>pure r) Q E s₃) E s₂:=by
  rw[hs o i];exact wpAny_operating (cI h₂ (fun r s₃ h₃=>aq (wpAny_letTemporaryGo (aH h₃))) fun _ _ x=>x)
 first
  | exact aH (aq fin)
  | exact aq (aH (aq fin))
  | exact aq fin
theorem jbh(I:Inv X ae σ H s)(g:DGet H a y o):s.TypeIs (.ref a) "dict":=by
 rcases g with⟨kvs,k,e,_,_⟩ | ⟨kvs,k,b,e,_,_,_⟩
 .obtain⟨_,_,vs,_,dd⟩:=KY I.hok e
  exact dd.typeIs
 .obtain⟨_,_,xs,_,dd⟩:=ZB I.hok e
  exact dd.typeIs
def jhH(td ty:TE):TE:=fun σ H Q=>td σ H fun x H1=>ty σ H1 fun y H2=>∃a v,x=.ref a/\DGet H2 a y (some v)/\Q v H2
def jct(ty td:TE):TE:=fun σ H Q=>ty σ H fun y H1=>td σ H1 fun x H2=>∃a o,x=.ref a/\DGet H2 a y o/\Q (.bl (!o.isSome)) H2
def jhJ(td ty tv:TE):TS:=fun D σ H=>tv σ H fun v H1=>td σ H1 fun x H2=>ty σ H2 fun y H3=>∃a H4,x=.ref a/\DPut H3 a y v H4/\D.nx σ H4
section
variable {o i value:aj}{dL GG:Pos}{td ty tv:TE}
theorem jgF(hu:X.A.units+1 < cLine)(ho:PE X o td)(hi:PE X i ty)(hs:ji1 i):PE X (.Subscript o i pos) (jhH td ty):=by
 intro ae s σ H Q I h;refine jga PySem.F.slot_dict_getitem.lookup hs (thn (ho ae s σ H _ I h) fun u s1 ⟨x,H1,I1,rx,q1⟩=>thn (hi ae s1 σ H1 _ I1 q1) fun iv s2 hM=>?_);obtain⟨y,H2,I2,ry,a,v,ex,g,q2⟩:=hM;subst ex;obtain rfl:u=Value.ref a:=rx;exact⟨jbh I2 g,jdQ hu I2 g ry fun w' s3 I3 dJ=>⟨v,H2,I3,dJ,q2⟩⟩
theorem jdp(hu:X.A.units+1 < cLine)(hi:PE X i ty)(ho:PE X o td):PC X .NotIn i o (jct ty td):=by
 intro ae s σ H Q I h;refine thn (hi ae s σ H _ I h) fun iv s1 ⟨y,H1,I1,ry,q1⟩=>thn (ho ae s1 σ H1 _ I1 q1) fun u s2 hM=>?_
 obtain⟨x,H2,I2,rx,a,ov,ex,g,q2⟩:=hM;subst ex;obtain rfl:u=Value.ref a:=rx;exact jho hu I2 g ry fun s3 I3=>⟨.bl (!ov.isSome),H2,I3,rfl,q2⟩
theorem jgs(hu:X.A.units+1 < cLine)(ho:PE X o td)(hi:PE X i ty)(hv:PE X value tv)(hs:iP value (some (.Subscript o i dL)) pos.line X.env=pure false):
  PS X (.Assign [.Subscript o i dL] value pos) (jhJ td ty tv):=by
 intro ae s σ H D I h
 refine wpAny_Assign_Subscript (thn (hv ae s σ H _ I h) fun r s1 ⟨v,H1,I1,rv,q1⟩=>thn (ho ae s1 σ H1 _ I1 q1) fun u s2 ⟨x,H2,I2,rx,q2⟩=>thn (hi ae s2 σ H2 _ I2 q2) fun iv s3 hM=>?_) hs
 obtain⟨y,H3,I3,ry,a,H4,ex,g,q3⟩:=hM
 subst ex
 obtain rfl:u=Value.ref a:=rx
 exact jdP hu I3 g ry rv fun s4 I4=>⟨σ,H4,I4,q3⟩
end
theorem jbg(h:ar)(hb:gh < h.objs.size):ObjOk P w H (h.push { cls:=.type "dict",data:=.dict #[] }) h.objs.size (.dK []):=
 ⟨bT _,Qy.mpr (eG (cb hb)),[],.nil,ar.DictOf.new h⟩
theorem jfH(h:ar)(hb:gh < h.objs.size):ObjOk P w H (h.push { cls:=.type "dict",data:=.dict #[] }) h.objs.size (.dT []):=
 ⟨bT _,Qy.mpr (eG (cb hb)),[],.nil,_,#[],0,dg _ rfl,⟨rfl,rfl,rfl⟩,rfl,rfl,oS⟩
def jer:TE:=fun _ H Q=>∀p,H p=none->Q (.ref p) (upd H p (.dK []))
def jeq:TE:=fun _ H Q=>∀p,H p=none->Q (.ref p) (upd H p (.dT []))
section
theorem je2:PE X (.Dict [] [] pos) jer:=fun ae s σ H Q I h=>
 Nk ⟨.ref s.heap.objs.size,_,I.laid (a:=s.heap.objs.size) (o:=.dK []) (t':=s.toks) (fun _ _ q=>b_ _ q) (aD _) (jbg s.heap I.big),rfl,h _ (I.hok.fresh (aD _))⟩
theorem je1:PE X (.Dict [] [] pos) jeq:=fun ae s σ H Q I h=>
 Nk ⟨.ref s.heap.objs.size,_,I.laid (a:=s.heap.objs.size) (o:=.dT []) (t':=s.toks) (fun _ _ q=>b_ _ q) (aD _) (jfH s.heap I.big),rfl,h _ (I.hok.fresh (aD _))⟩
end
def jbB:List (TE×TE)->St->Hp->(List (V×V)->Hp->Prop)->Prop
 | [],_,H,Q=>Q [] H
 | (tk,tv) :: r,σ,H,Q=>tk σ H fun x H1=>tv σ H1 fun y H2=>jbB r σ H2 fun ps H3=>Q ((x,y) :: ps) H3
abbrev VV:List (V×V)->List (ag×ag)->Prop:=Paired fun p q=>RelV p.1 q.1/\RelV p.2 q.2
def PPs(X:Cx)(pos:Pos)(keys:List (Option aj))(iw:List aj)(eL:List (TE×TE)):Prop:=
 ∀(ae:List (ad×Obj)) (s:ai) (σ:St) (H:Hp) (Q:List (V×V)->Hp->Prop),Inv X ae σ H s->jbB eL σ H Q->
  au (ao X.prog X.w) X.A (evalPairs (pairTrees keys iw X.env pos)) (fun vs s'=>∃ps H',Inv X ae σ H' s'/\VV ps vs/\Q ps H') X.xe s
theorem jgt{X:Cx}{pos:Pos}:PPs X pos [] [] []:=fun ae s σ H Q I h=>pairTrees_nil_walk ⟨[],H,I,.nil,h⟩
theorem jeO{X:Cx}{pos:Pos}{k v:aj}{ks:List (Option aj)}{vs:List aj}{tk tv:TE}{eL:List (TE×TE)}(hk:PE X k tk)(hv:PE X v tv)(hr:PPs X pos ks vs eL):
  PPs X pos (some k :: ks) (v :: vs) ((tk,tv) :: eL):=fun ae s σ H Q I h=>
 pairTrees_cons_walk (thn (hk ae s σ H _ I h) fun u s1 ⟨x,H1,I1,rx,q1⟩=>thn (hv ae s1 σ H1 _ I1 q1) fun w2 s2 ⟨y,H2,I2,ry,q2⟩=>
  thn (hr ae s2 σ H2 _ I2 q2) fun ws s3 ⟨ps,H3,I3,bR,q3⟩=>⟨(x,y) :: ps,H3,I3,.cons ⟨rx,ry⟩ bR,q3⟩)
def KC(kvs more:List (Key×V)):List (Key×V):=more.foldl (fun aR kv=>j4 aR kv.1 kv.2) kvs
theorem KV.merge:∀{more:List (Key×V)} {rs:List (Key×ag)} {kvs:List (Key×V)} {vs:List (Key×ag)},KV more rs->KV kvs vs->KV (KC kvs more) (merged vs rs):=by
 intro more rs kvs vs r;unfold KV at r;induction r generalizing kvs vs with
 | nil=>intro q;exact q
 | @cons p q ps qs h t ih=>
  intro r0;have e:KV (j4 kvs p.1 p.2) (stored vs q.1 q.2):=by
   have:=r0.put p.1 h.2;rw[<- h.1];exact this
  exact ih e
theorem Ju:∀(more kvs:List (Key×V)),(KC kvs more).length<=kvs.length+more.length
 | [],kvs=>by show kvs.length<=kvs.length+0;omega
 | p :: r,kvs=>by
  have h1:=Ju r (j4 kvs p.1 p.2);have h2:=kP kvs p.1 p.2;show (KC (j4 kvs p.1 p.2) r).length<=_;rw[ck];omega
theorem YW{P:aE}{w:aB}:∀{kvs:List (Key×V)} {ws:List (ag×ag)},VV (kvs.map fun kv=>(kV kv.1,kv.2)) ws->∃rs,Carries (j6 P w) ws rs/\KV kvs rs
 | [],_,r=>by rw[eJ]at r;cases r;exact⟨[],True.intro,.nil⟩
 | p :: kvs,_,r=>by
  rw[aU]at r
  cases r with
  | @cons a b as bs h t=>
   obtain⟨rs,c,q⟩:=YW (P:=P) (w:=w) t;obtain⟨b1,b2⟩:=b;exact⟨(p.1,b2) :: rs,⟨Kh h.1,rfl,c⟩,.cons ⟨rfl,h.2⟩ q⟩
def jhG(eL:List (TE×TE)):TE:=fun σ H Q=>∀p,H p=none->jbB eL σ (upd H p (.dK [])) fun ps H2=>H2 p=some (.dK [])/\∃kvs:List (Key×V),ps=kvs.map (fun kv=>(kV kv.1,kv.2))/\kvs.length<=15/\Q (.ref p) (upd H2 p (.dK (KC [] kvs)))
theorem jgE{X:Cx}{pos:Pos}{keys:List (Option aj)}{iw:List aj}{eL:List (TE×TE)}(h:PPs X pos keys iw eL)(xP:keys.all (·.isSome)=true)(hl:keys.length=iw.length)(h0:keys≠[])
  (Ma:keys.length<=15):PE X (.Dict keys iw pos) (jhG eL):=by
 intro ae s σ H Q I q
 have hn:=I.hok.fresh (aD s.heap.objs.size)
 have I1:=I.laid (a:=s.heap.objs.size) (o:=.dK []) (h':=s.heap.push { cls:=.type "dict",data:=.dict #[] }) (t':=s.toks) (fun _ _ q=>b_ _ q) (aD _) (jbg s.heap I.big)
 refine wpAny_Dict_walk (knd:=j6 X.prog X.w) xP hl h0 Ma (thn (h ae _ σ _ _ I1 (q _ hn)) fun ws s2 hM=>?_)
 obtain⟨ps,H2,I2,bR,e,kvs,ep,lk,q2⟩:=hM
 subst ep
 obtain⟨rs,c,rk⟩:=YW (P:=X.prog) (w:=X.w) bR
 obtain⟨z,hd,vs0,r0,dd⟩:=jbf I2.hok e
 cases r0
 refine⟨rs,c,dd,fun h' fH hs=>⟨.ref s.heap.objs.size,_,?_,rfl,q2⟩⟩
 have hz:(KC [] kvs).length<=aI:=by
  have h1:=Ju kvs [];rw[fN]at h1;rw[gM];omega
 have he:∃q,h'.get? s.heap.objs.size=some q:=let ⟨q,_,_,hq,_⟩:=fH;⟨q,hq⟩
 exact Kn I2 (by rw[e];exact True.intro) hs he (jas hz hd (rk.merge .nil) fH)
structure M1(X:Cx)(o:aj)(m:Str)(cy:Pos)(e:aj)(bN:Pos):Prop where
 base:gj o m X.env (eval o X.env)=eval o X.env
 few:((ff bN (cj [e] X.env)).all (fun x=>!x.1) && (AZ bN (AX [] X.env)).all (fun x=>x.1.isSome)
  && decide (([e]:List aj).length+([]:List Keyword).length+(if ([]:List Keyword).isEmpty then 0 else 1) < 30))=true
 line:(cy.endLine == bN.line)=true
 trees:ff bN (cj [e] X.env)=[(false,eval e X.env)]
structure M2(X:Cx)(o:aj)(m:Str)(cy:Pos)(e f:aj)(bN:Pos):Prop where
 base:gj o m X.env (eval o X.env)=eval o X.env
 few:((ff bN (cj [e,f] X.env)).all (fun x=>!x.1) && (AZ bN (AX [] X.env)).all (fun x=>x.1.isSome)
  && decide (([e,f]:List aj).length+([]:List Keyword).length+(if ([]:List Keyword).isEmpty then 0 else 1) < 30))=true
 line:(cy.endLine == bN.line)=true
 trees:ff bN (cj [e,f] X.env)=[(false,eval e X.env),(false,eval f X.env)]
def IsD(H:Hp)(a:ad):Prop:=(∃kvs,Rd H a (.dK kvs))\/∃kvs,Rd H a (.dT kvs)
theorem jfx(I:Inv X ae σ H s)(d:IsD H a):
  s.TypeIs (.ref a) "dict"/\(∀b,Value.ref a=.ref b->∃ob,s.heap.get? b=some ob/\ob.dict=none)/\(a == gh)=false:=by
 rcases d with⟨kvs,e⟩ | ⟨kvs,e⟩
 .obtain⟨_,hd,vs,_,dd⟩:=KY I.hok e
  refine⟨dd.typeIs,fun b q=>?_,hd⟩
  cases q
  obtain⟨ob,_,_,h1,h2,_⟩:=dd
  exact⟨ob,h1,h2.2.1⟩
 .obtain⟨_,hd,xs,_,dd⟩:=ZB I.hok e
  refine⟨dd.typeIs,fun b q=>?_,hd⟩
  cases q
  obtain⟨ob,_,_,h1,h2,_⟩:=dd
  exact⟨ob,h1,h2.2.1⟩
section
variable {d:V}
theorem jiV(hu:A.units+1 < cLine)(I:Inv X ae σ H s)(g:DGet H a y o)(ry:RelV y u)(rd:RelV d r)(h:∀w' s',Inv X ae σ H s'->RelV (o.getD d) w'->Q w' s'):
  au (ao X.prog X.w) A (call (.builtin "dict.get") [.ref a,u,r]) Q E s:=by
 rcases g with⟨kvs,k,e,ey,l⟩ | ⟨kvs,k,b,e,ey,eb,l⟩
 .subst ey
  obtain⟨z,hd,vs,bR,dd⟩:=KY I.hok e
  refine oI Fo dd.typeIs OH (OM _ _ _) (meets_dict_get_default (j6 X.prog X.w) a (Kh ry) hd r) ⟨_,dd.mapOf,h _ _ (I.tok _) ?_⟩
  rw[l]
  exact (bR.val k).getD rd
 .subst ey
  cases (show u=Value.ref b from ry)
  obtain⟨z,hd,xs,bR,dd⟩:=ZB I.hok e
  refine oI Fo dd.typeIs OH (OM _ _ _) (meetsH_dict_get_default (oE (j6 X.prog X.w)) a b hd r) ⟨AS hu,k,xs,YJ I.hok eb,dd,h _ _ (I.tok _) ?_⟩
  rw[l]
  exact (bR.val k).getD rd
end
def jes(td ty tx:TE):TE:=fun σ H Q=>td σ H fun x H1=>∃a,x=.ref a/\IsD H1 a/\ty σ H1 fun y H2=>tx σ H2 fun z H3=>∃o,DGet H3 a y o/\Q (o.getD z) H3
def jh7(td ty tx:TE):TE:=fun σ H Q=>td σ H fun x H1=>∃a,x=.ref a/\IsD H1 a/\ty σ H1 fun y H2=>tx σ H2 fun z H3=>∃kvs k,H3 a=some (.dK kvs)/\y=kV k/\
 (∀v,qH kvs k=some v->Q v (upd H3 a (.dK (ZC kvs k))))/\(qH kvs k=none->Q z H3)
section
variable {o f:aj}{cy bN:Pos}{td ty tx:TE}
theorem je3(hu:X.A.units+1 < cLine)(ho:PE X o td)(he:PE X e ty)(hf:PE X f tx)(m:M2 X o "get" cy e f bN):PE X (.Call (.Attribute o "get" cy) [e,f] [] bN) (jes td ty tx):=by
 intro ae s σ H Q I h;refine Nm m.base m.few m.line Ba Fo PySem.F.type_dict_get (thn (ho ae s σ H _ I h) fun u s1 hM=>?_);obtain⟨x,H1,I1,rx,a,ex,d,q1⟩:=hM;subst ex;obtain rfl:u=Value.ref a:=rx;obtain⟨t1,t2,_⟩:=jfx I1 d;refine⟨t1,t2,?_⟩;rw[m.trees];refine vk rfl (Fu (vj (thn (he ae s1 σ H1 _ I1 q1) fun iv s2 ⟨y,H2,I2,ry,q2⟩=>
  vj (thn (hf ae s2 σ H2 _ I2 q2) fun fv s3 ⟨z,H3,I3,rz,ov,g,q3⟩=>Ft ?_))))
 exact jiV hu I3 g ry rz fun w' s4 I4 dJ=>⟨_,H3,I4,dJ,q3⟩
theorem je0(ho:PE X o td)(he:PE X e ty)(hf:PE X f tx)(m:M2 X o "pop" cy e f bN):PE X (.Call (.Attribute o "pop" cy) [e,f] [] bN) (jh7 td ty tx):=by
 intro ae s σ H Q I h;refine Nm m.base m.few m.line Ba Fm PySem.F.type_dict_pop (thn (ho ae s σ H _ I h) fun u s1 hM=>?_);obtain⟨x,H1,I1,rx,a,ex,d,q1⟩:=hM;subst ex;obtain rfl:u=Value.ref a:=rx;obtain⟨t1,t2,_⟩:=jfx I1 d;refine⟨t1,t2,?_⟩;rw[m.trees];refine vk rfl (Fu (vj (thn (he ae s1 σ H1 _ I1 q1) fun iv s2 ⟨y,H2,I2,ry,q2⟩=>
  vj (thn (hf ae s2 σ H2 _ I2 q2) fun fv s3 ⟨z,H3,I3,rz,kvs,k,ea,ey,q3,q4⟩=>Ft ?_))))
 subst ey
 cases l:qH kvs k with
 | some v=>exact jjJ I3 ea ry l (.inr ⟨fv,rfl⟩) fun w' s4 I4 dJ=>⟨v,_,I4,dJ,q3 v l⟩
 | none=>exact jiU I3 ea ry l fun s4 I4=>⟨z,H3,I4,rz,q4 l⟩
end
end L2
namespace Att
open PySem PySem.W PySem.Calls PyProof.Rows
theorem K3{P:Params}{h:ar}:∀(ns:List Int) (vs:List ag),WellAll P h vs (ns.map WData.int)->vo vs ns:=by
 intro ns;induction ns with
 | nil=>
  intro vs w;rw[eJ]at w
  cases w
  exact .nil
 | cons n ns ih=>
  intro vs w;rw[aU]at w
  cases w with
  | cons a b=>
   cases a
   exact .cons _ _ (ih _ b)
theorem jdk{l:OpenLaw}{n:Nat}(hn:l.most=some n){P:Params}{h:ar}{args:List WData}{si:List ag}
  (tw:l.row.toRowW.claim.pre args=true) (xc:WellAll P h si args) :
  ∃a vs ns,si=[Value.ref a]/\args=[WData.list (ns.map WData.int)]/\h.get? a=some { cls:=.type "list",data:=.seq vs.toArray }/\vo vs ns/\ns.length<=n:=by
 have xp:WShape.hasAll [] args [.list .int]=true:=(pre_splitW tw).1
 have hc:l.pre.holds [] { args:=args }=true:=(pre_splitW tw).2
 obtain⟨d,r,rfl,h1,h2⟩:=hasAllW_cons xp
 obtain rfl:=hasAllW_nil h2
 obtain⟨xs,rfl,h3⟩:=hasW_list h1
 obtain⟨ns,rfl⟩:=items_int h3
 have bu:ns.length<=n:=by
  unfold OpenLaw.pre at hc;have h4:(WTm.not (.lt (.lit (.int (n:Int))) (.len (.arg 0)))).holds [] { args:=[.list (ns.map .int)] }=true:=by
   have h4:=(holds_andW hc).1;rw[hn]at h4;exact h4
  have h5:=condW_of h4 (w_not (w_lt w_lit (w_len_list (w_arg rfl))));rw[az]at h5;refine Nat.le_of_not_lt fun q=>?_
  have q':(n:Int) < ((ns.length:Nat):Int):=by omega
  first
   | (rw[Qu q']at h5;exact absurd h5 (by decide))
   | (simp at h5;omega)
 cases xc with
 | cons w1 w2=>
  cases w2
  cases w1 with
  | list ho xP=>exact⟨_,_,ns,rfl,rfl,ho,K3 ns _ xP,bu⟩
theorem jdl(l:OpenLaw)(args:List WData):l.row.toRowW.claim.post args (.bool true) args=true:=
 postW_of (r:=l.row.toRowW) (X:=(true == true))
  (show N8 [] (.bool true) .bool=true by first | rfl | decide | simp[N8,WShape.arms,WShape.armsAll])
  (show (WTm.eq .res (.lit (.bool true))).value [] { args:=args,res:=some (.bool true),after:=args }=some (.bool (true == true)) from w_eq_bool (w_res rfl) w_lit) rfl
theorem attach_call{l:OpenLaw}{n:Nat}{q:aE}{nK:List Str}{XP:(Str->Option ag)->ar->Prop}{YP:aB->ar->Prop}{d:DefRec}
  (hn:l.most=some n) (pW:d.params.defaults=[])
  (call:∀(w:aB) (s₀ s₁:ai) (mg mb:Str->Option ag) (fa:ad) (o:Obj) (pm cd cW:ag) (a:ad) (vs:List ag) (ns:List Int),
   Ground q nK [] XP w s₀ mg mb s₁.heap->YP w s₁.heap->
   s₁.heap.get? fa=some o->o.data=.func (docDef d.name d.params d.body d.scope pm cd cW)->s₁.heap.CodeRec cd d.name->mg d.name=some (.ref fa)->
   s₁.heap.get? a=some { cls:=.type "list",data:=.seq vs.toArray }->vo vs ns->ns.length<=n->s₁.gens=#[]->
   dP (ao l.prog w) oH (.call (.ref fa) ⟨[.ref a],[]⟩) (fun r s'=>r=.ok (.ret (.bool true))/\OldK s₁.heap s'.heap/\s'.os=s₁.os/\lR s'.gens) s₁) :
  WalkO q nK XP YP l.row.toRowW d [] (fun f vs=>EZ f vs):=by
 intro w s₀ s₁ mg mb G Y fa o pm cd cW dV kV ho hd fG hD pP hg args si as tw hlay hrd xc fX
 obtain rfl:dV=.none:=Dflts.none hD pW
 obtain rfl:kV=.none:=Dflts.noKw hD
 obtain⟨a,vs,ns,rfl,rfl,xx,xH,bu⟩:=jdk hn tw xc
 refine enter_call (u0 (call w s₀ s₁ mg mb fa o pm cd cW a vs ns G Y ho (fd_plain hd) fG pP xx xH bu hg) fun r s' hq=>?_)
 obtain⟨rfl,h2,h3,h4⟩:=hq
 exact⟨.inl ⟨.bool true,.bool true,[],rfl,fun _=>rfl,.bool true,jdl l _,fun _=>⟨List.Pairwise.nil,fun _ hm=>(nomatch hm)⟩⟩,h2,h3,h4⟩
end Att
namespace L2
open PySem PySem.Spec PyProof.Rows
theorem Zc:∀{vs:List ag} {ns:List Int},vo vs ns->Vals (ns.map V.int) vs
 | _,_,.nil=>.nil
 | _,_,.cons n t h=>.cons ⟨t,rfl⟩ (Zc h)
def jhi(s:aF)(j:Nat):aF:=match s with
 | .ClassDef _ _ _ body _ _ _ _ _ _ _=>body.getD j (.Pass ⟨0,0,0,0⟩)
 | _=>.Pass ⟨0,0,0,0⟩
def zW(s:aF):Arguments:=match s with
 | .FunctionDef _ a _ _ _ _ _ _ _ _=>a
 | _=>{ posonlyargs:=[],args:=[],vararg:=none,kwonlyargs:=[],kw_defaults:=[],kwarg:=none,defaults:=[] }
def qY(s:aF):List aF:=match s with
 | .FunctionDef _ _ b _ _ _ _ _ _ _=>b
 | _=>[]
def jm(s:aF):cM:=match s with
 | .FunctionDef _ _ _ _ _ _ sc _ _ _=>sc
 | _=>{ kind:=.function,names:=[],isGenerator:=false,isCoroutine:=false }
abbrev CX0:CXT:=fun _ _ _ _ _ _=>False
abbrev E0:XK:=fun _ _ _=>False
variable {X:Cx}
theorem jhL:YY CX0 X E0:=fun _ _ _ _ _ _ _ h=>h.elim
structure Fun(K:aw)(x bX:Str)(st:aF)(f:ad)(fd:aL):Prop where
 ex:∃(oc:ag) (od:Option ad) (kV cW pm:ag) (an:Option ad) (ax ct:ag) (gY:Array (Option ag)),
  fd=iS x bX (zW st) (qY st) (jm st) .none kV cW pm an ax ct/\K.lookup f=some ⟨oc,od,.func fd,gY⟩/\iT K ax bX=true
 kp:fJ K (.ref f)=true
variable {w:aB}{K:aw}{x bX:Str}{st:aF}{f:ad}{fd:aL}{ps:List Str}
section
variable {P:aE}{mg:Str->Option ag}{base:ar}
theorem Fun.ok{N:List Str}{k:Nat}{sp:Sp}(F:Fun K x bX st f fd)(S:FnScope N ps (jm st))(len:∀vs H Q E,sp vs H Q E->vs.length=ps.length)
  (pY:∀(ax:ag) (A:aS) (outer:List Env) (s:ai) (H:Hp) (vs:List V) (Q:VK) (E:XK),Room k (A.deeper (envOfC bX (jm st) s.heap.objs.size f ax))->sp vs H Q E->
   ∃t,PSs (kx CX0 P w K mg base N bX (jm st) f ax A outer s H E).nox (qY st) t/\t { nx:=fun _ H'=>Q .non H',rt:=Q } (start N vs) H):FnOk P w K mg base CX0 (k+1) f fd ps sp:=by
 obtain⟨oc,od,kV,cW,pm,an,ax,ct,gY,rfl,lk,fG⟩:=F.ex
 refine jjH lk fG S len fun A outer s H vs Q E hr aY=>?_
 obtain⟨t,h,q⟩:=pY ax A outer s H vs Q E hr aY
 exact⟨t,h.nox,q⟩
theorem Fun.binds(F:Fun K x bX st f fd)
  (h:∀(kV cW pm:ag) (an:Option ad) (ax ct:ag) (us:List ag),us.length=ps.length->bindArgs (iS x bX (zW st) (qY st) (jm st) .none kV cW pm an ax ct) ⟨us,[]⟩=pure (ps.zip us)):Binds K fd ps []:=by
 obtain⟨oc,od,kV,cW,pm,an,ax,ct,gY,rfl,lk,fG⟩:=F.ex
 exact .all (h kV cW pm an ax ct)
theorem jb3{oc:ag}{od an:Option ad}{gY:Array (Option ag)}{kV cW pm ax ct:ag}(l:K.lookup f=some ⟨oc,od,.func (iS x bX (zW st) (qY st) (jm st) .none kV cW pm an ax ct),gY⟩)
  (c:iT K ax bX=true) (k:fJ K (.ref f)=true):Fun K x bX st f (iS x bX (zW st) (qY st) (jm st) .none kV cW pm an ax ct):=⟨⟨oc,od,kV,cW,pm,an,ax,ct,gY,rfl,l,c⟩,k⟩
end
theorem jJ{n:Nat}(h:n<=1000):n < aI:=rQ h (by decide)
section
theorem pv(i:Nat){x:Str}{pos:Pos}(hN:X.N[i]?=some x:=by rfl)(hv:Vis X.env.scope x:=by first | exact Or.inl rfl | exact Or.inr (Or.inl rfl) | exact Or.inr (Or.inr rfl))(hd:(x == ("__debug__" : Str))=false:=by decide)
  (fG:(x == ("__classdict__" : Str))=false:=by decide):PE X (.Name x pos) (jdh i):=jeT hN hv hd fG
end
variable {A B:Prop}
theorem kA(h:B):if false=true then A else B:=by
 rw[Qw c9];exact h
theorem kR(h:A):if true=true then A else B:=by
 rw[Qx rfl];exact h
theorem yK{c:Prop}[Decidable c](h1:c->A)(h2:¬c->B):if c then A else B:=by
 by_cases h:c
 .rw[Qx h]
  exact h1 h
 .rw[Qw h]
  exact h2 h
def Same(H H':Hp):Prop:=∀b o,H b=some o->H' b=some o
theorem Same.refl(H:Hp):Same H H:=fun _ _ h=>h
variable {H:Hp}
theorem Same.trans{H1 H2:Hp}(a:Same H H1)(b:Same H1 H2):Same H H2:=fun c o h=>b c o (a c o h)
theorem Same.free{H':Hp}(e:Same H H'){l:ad}(h:H' l=Option.none):H l=Option.none:=by
 cases q:H l with
 | none=>rfl
 | some o=>
  rw[e l o q]at h
  cases h
variable {s:ai}{scope:cM}
theorem Kp{prog:aE}{A:aS}{bv target iter:aj}{ifs:List aj}{pos:Pos}{it aR:ag}{env:Env}{R:rM->ai->Prop}(I:Nat->ai->Prop)
  (turn:∀n s,I n s->au (ao prog w) A (ik it) (fun r s1=>match r with
   | none=>R (.ok .next) s1
   | some v=>au (ao prog w) A (mW target it v) (fun _ i8=>au (ao prog w) A (assign target env v) (fun _ s2=>
     au (ao prog w) A (forIn ifs true fun c r=>if r=true then do let ok <- isTrue c env (eval c env);pure (ForInStep.yield ok) else pure (ForInStep.yield r)) (fun ok s3=>
      if ok=true then au (ao prog w) A (eval bv env) (fun x s4=>
       au (ao prog w) A (call (.builtin "list.append") [aR,x]) (fun _ s5=>∃m,m < n/\I m s5) (fun _ _=>False) s4) (fun _ _=>False) s3
      else ∃m,m < n/\I m s3) (fun _ _=>False) s2) (fun _ _=>False) i8) (fun _ _=>False) s1) (fun _ _=>False) s)
  (n:Nat) (h:I n s):dP (ao prog w) A (.compLoop (.ListComp bv [⟨target,iter,ifs,0⟩] scope pos) 0 it aR env) R s:=by
 have no:∀(x:ag) (s':ai),False->AV (ao prog w) A env (fun e s'=>R (.error e) s') x s':=fun _ _ z=>z.elim
 refine EV rfl I (fun n s hI=>?_) n h
 show au _ A ((uZ (.ListComp bv [⟨target,iter,ifs,0⟩] scope pos) 0 it aR env).onRaise (fun x=>do AW x env;ES x)) _ _ s
 refine EG ?_
 rw[compTurn_list]
 refine aq (mU (aq (cI (turn n s hI) (fun r s1 h1=>?_) no)))
 cases r with
 | none=>exact aH h1
 | some v=>
  refine aq (cI h1 (fun _ i8 cv=>?_) no)
  refine aq (cI cv (fun _ s2 h2=>aq (cI h2 (fun ok s3 h3=>?_) no)) no)
  cases ok with
  | false=>exact aH ⟨rfl,h3⟩
  | true=>
   exact aq (aq (cI h3 (fun x s4 h4=>aq (cI h4 (fun _ s5 h5=>aH (aH ⟨rfl,h5⟩)) no)) no))
theorem jfG:(NameKind.free == NameKind.free)=true:=rfl
def yQ(cells:List (Str×ad)):List (Str×gN)->List (Str×ad)->List (Str×ad)
 | [],aR=>aR
 | (n,k) :: r,aR=>if k == .free then yQ cells r ((n,(cells.lookup n).getD 0) :: aR) else yQ cells r aR
theorem jbb{env:Env}:∀(names:List (Str×gN)) (aR:List (Str×ad)),(∀x∈names,x.2=.free->(env.cells.lookup x.1).isSome=true)->
  (forIn names aR fun x (cs:List (Str×ad))=>(match x with | (name,kind)=>if (kind == NameKind.free)=true then do let c <- cellOf env name;pure (ForInStep.yield ((name,c) :: cs)) else pure (ForInStep.yield cs):Sem (ForInStep (List (Str×ad)))))=(pure (yQ env.cells names aR):Sem (List (Str×ad)))
 | [],aR,_=>by simp only[List.forIn_nil];rfl
 | (n,k) :: r,aR,h=>by
  have ih:=fun a=>jbb (env:=env) r a fun x hx=>h x (ce _ hx)
  rw[List.forIn_cons];by_cases hk:k=.free
  .subst hk
   have q:=h (n,.free) bU rfl;obtain⟨c,hc⟩:=vp.mp q;have e:cellOf env n=pure c:=by unfold cellOf;rw[show env.cells.lookup n=some c from hc]
   simp only[beq_self_eq_true,if_true,e,pure_bind];rw[ih];show _=pure (if (NameKind.free == NameKind.free)=true then yQ env.cells r ((n,(env.cells.lookup n).getD 0) :: aR) else _);rw[Qx jfG,show env.cells.lookup n=some c from hc];rfl
  .have hb:(k == NameKind.free)=false:=by simpa using hk
   simp only[hb,eK,if_false,pure_bind];rw[ih];show _=pure (if (k == NameKind.free)=true then _ else yQ env.cells r aR);rw[hb];rfl
theorem JJ{env:Env}(h:∀x∈scope.names,x.2=.free->(env.cells.lookup x.1).isSome=true):closureFor scope env=pure (yQ env.cells scope.names []):=by
 unfold closureFor;have e:=jbb (env:=env) scope.names [] h;simp only[bind_pure]at *;exact e
theorem jb5{cells:List (Str×ad)}:∀(names:List (Str×gN)) (aR:List (Str×ad)),(∀x∈names,x.2=.free->(cells.lookup x.1).isSome=true)->(∀x c,aR.lookup x=some c->cells.lookup x=some c)->
  ∀x c,(yQ cells names aR).lookup x=some c->cells.lookup x=some c
 | [],aR,_,ha=>ha
 | (n,k) :: r,aR,h,ha=>by
  unfold yQ;by_cases hk:k=.free
  .subst hk
   rw[Qx jfG];refine jb5 r _ (fun x hx=>h x (ce _ hx)) fun x c e=>?_
   by_cases hx:x=n
   .subst hx
    rw[ny]at e;obtain⟨d,hd⟩:=vp.mp (h (x,.free) bU rfl);have mH:cells.lookup x=some d:=hd;rw[mH]at e |-;exact e
   .rw[gP,Qy.mpr hx]at e
    exact ha x c e
  .rw[Qw (by simpa using hk)]
   exact jb5 r _ (fun x hx=>h x (ce _ hx)) ha
theorem jav{cells:List (Str×ad)}:∀(names:List (Str×gN)) (aR:List (Str×ad)) (x:Str),(aR.lookup x).isSome=true->((yQ cells names aR).lookup x).isSome=true
 | [],aR,_,ha=>ha
 | (n,k) :: r,aR,x,ha=>by
  unfold yQ;split
  .refine jav r _ x ?_
   rw[gP];split
   .rfl
   .exact ha
  .exact jav r _ x ha
theorem jb6{cells:List (Str×ad)}:∀(names:List (Str×gN)) (aR:List (Str×ad)) (x:Str),(x,NameKind.free)∈names->((yQ cells names aR).lookup x).isSome=true
 | [],_,_,h=>by simp at h
 | (n,k) :: r,aR,x,h=>by
  unfold yQ;rcases bG.mp h with e | h
  .obtain⟨e1,e2⟩:=FM e
   subst e1 e2;rw[Qx jfG];refine jav r _ _ ?_;rw[ny];rfl
  .split
   .exact jb6 r _ x h
   .exact jb6 r _ x h
theorem zI{env:Env}:∀{names:List (Str×gN)} {x:Str} {k:gN},
  (names.map fun (n,k)=>if (k == NameKind.free && env.scope.kind == .function && env.kindOf n == some .cell) then (n,NameKind.cell) else (n,k)).lookup x=some k->
   names.lookup x=some k\/(k=.cell/\names.lookup x=some .free)
 | [],_,_,h=>by simp at h
 | (n,k') :: r,x,k,h=>by
  rw[aU]at h;by_cases hx:x=n
  .subst hx
   rw[ny];by_cases hc:(k' == NameKind.free && env.scope.kind == .function && env.kindOf x == some .cell)=true
   .simp only[hc,if_true]at h
    rw[ny]at h;have hk:k'=.free:=by
     simp only[i4,beq_iff_eq]at hc;exact hc.1.1
    exact .inr ⟨(dk h).symm,by rw[hk]⟩
   .simp only[hc]at h
    rw[Qw (by simp),ny]at h;exact .inl h
  .have e:(x == n)=false:=Qy.mpr hx
   have h':(r.map fun (n,k)=>if (k == NameKind.free && env.scope.kind == .function && env.kindOf n == some .cell) then (n,NameKind.cell) else (n,k)).lookup x=some k:=by
    by_cases hc:(k' == NameKind.free && env.scope.kind == .function && env.kindOf n == some .cell)=true
    .simp only[hc,if_true]at h
     rw[gP,e]at h;exact h
    .simp only[hc]at h
     rw[Qw (by simp),gP,e]at h;exact h
   have ih:=@zI env r x k h';rw[gP,e];exact ih
theorem Kb{env:Env}:∀{names:List (Str×gN)} {x:Str},names.lookup x=some .free->
  (names.map fun (n,k)=>if (k == NameKind.free && env.scope.kind == .function && env.kindOf n == some .cell) then (n,NameKind.cell) else (n,k)).lookup x=some .cell\/
  (names.map fun (n,k)=>if (k == NameKind.free && env.scope.kind == .function && env.kindOf n == some .cell) then (n,NameKind.cell) else (n,k)).lookup x=some .free
 | [],_,h=>by simp at h
 | (n,k') :: r,x,h=>by
  rw[aU];by_cases hx:x=n
  .subst hx
   rw[ny]at h
   cases h
   by_cases hc:(NameKind.free == NameKind.free && env.scope.kind == .function && env.kindOf x == some .cell)=true
   .simp only[hc,if_true]
    exact .inl ny
   .simp only[hc]
    rw[Qw (by simp)];exact .inr ny
  .have e:(x == n)=false:=Qy.mpr hx
   rw[gP,e]at h;have ih:=@Kb env r x h;by_cases hc:(k' == NameKind.free && env.scope.kind == .function && env.kindOf n == some .cell)=true
   .simp only[hc,if_true]
    rw[gP,e];exact ih
   .simp only[hc]
    rw[Qw (by simp),gP,e];exact ih
def blk(X:Cx)(scope:cM)(own:List Str)(fr:List Nat)(s:ai)(H:Hp)(ex:List ad):Cx where
 prog:=X.prog
 w:=X.w
 K:=X.K
 mg:=X.mg
 base:=X.base
 A:=X.A
 N:=own++fr.map fun j=>X.N.getD j (bE "")
 s₀:=s
 H₀:=H
 env:=compEnvC scope (yQ X.env.cells scope.names []) s.heap.objs.size X.env
 outer:=X.stack
 stack:=X.stack
 ex:=ex
 fn:=fun _=>false
 calm:=X.calm
 pn:=[]
 xe:=fun _ _=>False
def jdV(own:List Str)(fr:List Nat)(σ:St):St:=own.map (fun _=>none)++fr.map fun j=>(σ[j]?).join
structure CompOk(X:Cx)(scope:cM)(fr:List Nat):Prop where
 kind:scope.kind=.function
 nocell:∀y∈scope.names,y.2≠.cell
 loc:∀y∈scope.names,y.2=.local->scope.names.lookup y.1=some .local
 frees:∀y∈scope.names,y.2=.free->X.env.scope.names.lookup y.1=some .cell\/X.env.scope.names.lookup y.1=some .free
 fr:∀j∈fr,scope.names.lookup (X.N.getD j (bE ""))=some .free
variable {own:List Str}{σ:St}
theorem jaj{fr:List Nat}{ae:List (ad×Obj)}{ex:List ad}{h1:ar}{t1:Nat}(I:Inv X ae σ H s)(O:CompOk X scope fr)
  (hex:∀b∈ex,JK X ae H b/\b < s.heap.objs.size) (tF:h1.Ns s.heap.objs.size fun _=>none) (hk:∀b o,s.heap.get? b=some o->h1.get? b=some o) :
  Inv (blk X scope own fr s H ex) [] (jdV own fr σ) H { s with heap:=h1,toks:=t1 }:=by
 have mt:∀x∈scope.names,x.2=.free->(X.env.cells.lookup x.1).isSome=true:=fun x hx e=>by
  obtain⟨c,hc⟩:=I.ok.has x.1 (O.frees x hx e);rw[hc];rfl
 have sub:∀x c,(yQ X.env.cells scope.names []).lookup x=some c->X.env.cells.lookup x=some c:=jb5 scope.names [] mt fun x c e=>by simp at e
 have xO:∀x,scope.names.lookup x=some .free->∃c,(yQ X.env.cells scope.names []).lookup x=some c:=fun x e=>vp.mp (jb6 scope.names [] x (mV e))
 have hcne:∀x c,X.env.cells.lookup x=some c->c < s.heap.objs.size:=fun x c e=>by
  obtain⟨v,q⟩:=I.cell x c e;exact q.lt
 have hN:σ.length=X.N.length:=I.len
 refine⟨⟨I.ok.mod,O.kind,I.ok.glob,I.ok.blt,aD _,fun x y c e1 e2=>I.ok.inj x y c (sub x c e1) (sub y c e2),fun x hx=>?_,fun x c z=>absurd z (by simp[blk]),I.ok.hd,I.ok.frames,.inl rfl,fun b hb=>⟨cb (hex b hb).2,fun x c e=>(hex b hb).1.2.2.2.2.1 x c (sub x c e)⟩,
  fun b o e=>I.bs b o e,aJ I.ok.bsz I.sz,fun b o e hb=>?_,fun b hb z=>?_,I.stack,I.stkFree⟩,
  rfl,I.bare,Un.kept hk,⟨_,tF,fun i x v e1 e2 e3=>?_⟩,fun x c e=>?_,I.fresh,fun x c e=>I.freeC x c (sub x c e),fun p hp=>absurd hp (by simp[blk]),I.hok.kept hk,?_⟩
 .have cp:(relabel scope X.env).names.lookup x=some .cell\/(relabel scope X.env).names.lookup x=some .free:=hx
  rcases cp with hx | hx
  .rcases zI hx with q | ⟨_,q⟩
   .exact absurd rfl (O.nocell _ (mV q))
   .exact xO x q
  .rcases zI hx with q | ⟨q,_⟩
   .exact xO x q
   .cases q
 .rcases (hex b hb).1.2.2.2.1 with z | z
  .exact I.ok.noex b o e z
  .exact absurd (dU (bH e) (aJ I.ok.bsz z)) (np _)
 .obtain⟨_,f1,f2,_⟩:=(hex b hb).1
  rcases bG.mp (I.stkSub b z) with q | q
  .exact f1 q
  .exact f2 q
 .have fZ:(own++fr.map fun j=>X.N.getD j (bE ""))[i]?=some x:=e1
  unfold jdV at e2
  have hi:own.length<=i:=by
   by_cases h:own.length<=i
   .exact h
   .rw[By (by simpa using Nat.lt_of_not_le h),bz]at e2
    cases q:own[i]? with
    | none=>rw[q]at e2;cases e2
    | some z=>rw[q]at e2;cases e2
  rw[rW hi,bz]at fZ
  rw[rW (by simpa using hi),bz,az]at e2
  cases q:fr[i - own.length]? with
  | none=>rw[q]at e2;cases e2
  | some j=>
   rw[q]at fZ e2
   have tY:X.N.getD j (bE "")=x:=dk fZ
   have iK:(σ[j]?).join=some v:=dk e2
   have Er:σ[j]?=some (some v):=by
    cases z:σ[j]? with
    | none=>rw[z]at iK;cases iK
    | some y=>rw[z]at iK;rw[<- iK];rfl
   have hj:j < X.N.length:=by rw[<- hN];exact (bL.mp Er).1
   have MF:X.N[j]?=some x:=by
    rw[aK hj,<- tY,lX,aK hj];rfl
   have hf:=O.fr j (lV q)
   rw[tY]at hf
   have hv:=O.frees _ (mV hf) rfl
   obtain⟨m,_,hl⟩:=I.loc
   obtain⟨u,ru,lk⟩:=hl j x v MF Er (.inr hv)
   refine⟨u,ru,.inr ⟨?_,?_⟩⟩
   .exact Kb hf
   .obtain⟨c,hc⟩:=xO x hf
    refine⟨c,hc,?_⟩
    rcases lk with⟨k,_⟩ | ⟨_,c',du,z⟩
    .have k':X.env.scope.names.lookup x=some .local:=k
     rcases hv with hv | hv <;> · rw[k']at hv;cases hv
    .have:=sub x c hc
     rw[du]at this
     cases this
     obtain⟨o,ho,hd⟩:=z
     exact⟨o,hk _ _ ho,hd⟩
 .obtain⟨v,o,ho,hd⟩:=I.cell x c (sub x c e)
  exact⟨v,o,hk _ _ ho,hd⟩
 .show (jdV own fr σ).length=(own++fr.map fun j=>X.N.getD j (bE "")).length
  unfold jdV
  rw[bV,bV,az,az,az]
theorem yy{fr:List Nat}{ae:List (ad×Obj)}{σ':St}{H':Hp}{s':ai}{ex:List ad}(I:Inv X ae σ H s)(hex:∀b∈ex,JK X ae H b/\b < s.heap.objs.size)
  (J:Inv (blk X scope own fr s H ex) [] σ' H' s') {h':ar} (hs:lP s.heap.objs.size s'.heap h'):Inv X ae σ H' { s' with heap:=h' }:=by
 have hC:H' s.heap.objs.size=none:=J.free
 have u:Un (frs X.stack) ex H H' s.heap s'.heap:=J.base
 have ne:∀b o,s.heap.get? b=some o->b≠s.heap.objs.size:=fun b o e=>cb (bH e)
 have ro:∀b o,b≠s.heap.objs.size->s'.heap.get? b=some o->h'.get? b=some o:=fun b o hb e=>(hs.2 b hb).trans e
 refine I.call' (ch:=ex) J.os ⟨fun b o e n hb hx=>?_,fun b o e n hb hx=>?_,u.free,fun b o e hx=>?_,u.tups,u.frzs,u.tbls,fun b o xs q e hb hx=>ro b o (ne b o e) (u.stay b o xs q e hb hx)⟩ (fun b o e=>?_) J.bare fun b hb=>?_
 .exact ro b o (ne b o e) (u.keep b o e n hb hx)
 .obtain⟨sl,q⟩:=u.slot b o e n hb hx
  exact⟨sl,ro b _ (ne b o e) q⟩
 .obtain⟨o',q⟩:=u.there b o e hx
  exact⟨o',ro b _ (ne b o e) q⟩
 .refine (J.hok b o e).stay (fun c v hc q=>ro c v ?_ q) (fun _ q=>q) fun _ _ q=>q
  rintro z
  rcases hc with y | y
  .rw[y]at z;rw[z,hC]at e;cases e
  .rw[z,hC]at y;cases y
 .obtain⟨f0,f1,f2,f3,f4,f5⟩:=(hex b hb).1
  exact⟨f3,f1,f4,f5⟩
def PTs(X:Cx)(ifs:List aj)(t:TT):Prop:=
 ∀(ae:List (ad×Obj)) (s:ai) (σ:St) (H:Hp) (Q:Bool->Hp->Prop),Inv X ae σ H s->t σ H Q->
  au (ao X.prog X.w) X.A (forIn ifs true fun c r=>if r=true then do let ok <- isTrue c X.env (eval c X.env);pure (ForInStep.yield ok) else pure (ForInStep.yield r)) (TP X ae σ Q) X.xe s
def ZR:TT:=fun _ H Q=>Q true H
theorem jgk{X:Cx}:PTs X [] ZR:=fun _ _ _ H _ I h=>wpAny_tests_nil ⟨H,I,h⟩
theorem jgj{X:Cx}{c:aj}{t:TT}(h:PT X c t):PTs X [c] t:=fun ae s σ H Q I q=>wpAny_tests_one (h ae s σ H Q I q)
def YZ(J:It)(p:ad)(g:TG)(tt:TT)(te:TE)(Q:VK)(σ:St)(H:Hp):Prop:=∃W:Nat->Nat->St->Hp->Prop,(∃m,W 0 m σ H)/\
 ∀i m σ' H',W i m σ' H'->(J.stop i H'/\Q (.ref p) H')\/(J.go i H'/\∃N:St->Hp->Prop,(∀σ3 H3,N σ3 H3->∃m',m' < m/\W (i+1) m' σ3 H3)/\∀x H2,J.yld i H' x H2->g x σ' H2 fun σ3 H3=>tt σ3 H3 fun c H4=>
  if c=true then te σ3 H4 fun y H5=>∃ys,H5 p=some (.lst ys)/\ys.length < aI/\N σ3 (upd H5 p (.lst (ys++[y]))) else N σ3 H4)
def Zh(own:List Str)(fr:List Nat)(wi:TI)(g:TG)(tt:TT)(te:TE):TE:=fun σ H Q=>wi σ H fun J H1=>∀p,H1 p=none->YZ J p g tt te Q (jdV own fr σ) (upd H1 p (.lst []))
theorem jfM{fr:List Nat}{bv tg iter:aj}{ifs:List aj}{pos:Pos}{wi:TI}{g:TG}{tt:TT}{te:TE}{use:Option (ag->Sem Unit)}(hc:X.calm=true)(O:CompOk X scope fr)(hi:PI X tg iter wi)
  (hb:∀s H ex,PG (blk X scope own fr s H ex) tg g/\PTs (blk X scope own fr s H ex) ifs tt/\PE (blk X scope own fr s H ex) bv te)
  (hs:∀x,fI iter X.env x=pure x) {ae:List (ad×Obj)} {s:ai} {σ:St} {H:Hp} {Q:VK} {R:ag->ai->Prop} (I:Inv X ae σ H s) (h:Zh own fr wi g tt te σ H Q) (hx:∀e s',X.xe e s'↔False)
  (fin:∀(p C:ad) (H':Hp) (s':ai) (m:Str->Option ag),s'.heap.Ns C m->H' C=none->C≠X.env.locals->(∀x c,X.env.cells.lookup x=some c->c≠C)->Inv X ae σ H' s'->(∀h',lP C s'.heap h'->Inv X ae σ H' { s' with heap:=h' })->Q (.ref p) H'->
   rJ (ao X.prog X.w) X.A X.xe use R (.ref p) C (.ok .next) s') :
  au (ao X.prog X.w) X.A (comprehension (.ListComp bv [⟨tg,iter,ifs,0⟩] scope pos) scope X.env (EU [⟨tg,iter,ifs,0⟩] pos) (uY []) false (eval iter X.env) use) R X.xe s:=by
 have mt:∀x∈scope.names,x.2=.free->(X.env.cells.lookup x.1).isSome=true:=fun x cp e=>by
  obtain⟨c,hc⟩:=I.ok.has x.1 (O.frees x cp e);rw[hc];rfl
 have no:∀(E:ag->ai->Prop) (x:ag) (s':ai),X.xe x s'->E x s':=fun E x s' z=>((hx x s').mp z).elim
 refine EM (cl:=yQ X.env.cells scope.names []) rfl hs (JJ mt) O.kind O.loc ?_
 refine thn (hi ae s σ H _ I h) fun v s1 h1=>thn h1 fun pA s2 h2=>?_
 obtain⟨it,fp,tn,J,H2,e,I2,T,cE,f2,q2⟩:=h2
 subst e
 refine gL ?_
 have nw:H2 s2.heap.objs.size=none:=I2.fresh
 obtain⟨W,⟨m0,w0⟩,turn⟩:=q2 _ nw
 generalize hp:s2.heap.objs.size=p at *
 have I3:Inv X ae σ (upd H2 p (.lst [])) { s2 with heap:=s2.heap.push { cls:=.type "list",dict:=none,data:=.seq ([]:List ag).toArray } }:=by
  have:=I2.lnew (ys:=[]) (its:=[]) (t':=s2.toks) .nil (bT _);rw[hp]at this;exact this
 have j_:∀b∈fp,b < s2.heap.objs.size:=fun b hb=>by
  obtain⟨o,ho,_⟩:=T.obj _ _ cE b hb;exact bH ho
 have lD:∀b∈fp,(upd H2 p (.lst [])) b=none:=fun b hb=>by
  rw[jB (by rw[<- hp];exact cb (j_ b hb))];exact (f2 b hb).1
 generalize hJ:({ s2 with heap:=s2.heap.push { cls:=.type "list",dict:=none,data:=.seq ([]:List ag).toArray } }:ai)=s3 at *
 have oY:s3.heap.objs.size=p+1:=by
  rw[<- hJ];show (s2.heap.push _).objs.size=_;rw[vh,hp]
 have gT:tn 0 s3.heap:=T.keep 0 _ _ cE fun b hb o e=>by
  rw[<- hJ];exact b_ _ e
 refine EH O.nocell (by intro y hy;simp at hy) (fun h4 ly pJ=>?_) O.kind
 have k4:∀b o,s3.heap.get? b=some o->h4.get? b=some o:=fun b o e=>pJ.extBut b o (cb (bH e)) (b_ _ e)
 have pO:h4.Ns s3.heap.objs.size fun _=>none:=by
  have z:(fun x:Str=>([]:List (Str×ag)).reverse.lookup x)=fun _=>none:=by funext x;rfl
  rw[z]at ly;exact ly
 have fo:∀b∈fp,JK X ae (upd H2 p (.lst [])) b/\b < s3.heap.objs.size:=fun b hb=>⟨⟨lD b hb,(f2 b hb).2⟩,by rw[oY,<- hp];exact rP (j_ b hb)⟩
 have I4:=jaj (own:=own) (fr:=fr) (t1:=s3.toks+([]:List (Str×ag)).length) I3 O fo pO k4
 have aW:tn 0 h4:=T.keep 0 _ _ gT fun b hb o e=>k4 b o e
 obtain⟨hg,ht,he⟩:=hb s3 (upd H2 p (.lst [])) fp
 have eM:∀{H':Hp} {pn:List (ad×Obj)} {s':ai} {σ':St},Inv (blk X scope own fr s3 (upd H2 p (.lst [])) fp) [] σ' H' s'->(∀b∈fp,H' b=none)->∀b∈fp,JK (blk X scope own fr s3 (upd H2 p (.lst [])) fp) [] H' b:=fun {H' pn s' σ'} J hn b bg=>
  ⟨hn b bg,(J.ok.exf b bg).1,J.ok.exfs b bg,.inl bg,(J.ok.exf b bg).2,fun p hp=>absurd hp (by simp[blk])⟩
 have pe:∀x c,X.env.cells.lookup x=some c->c≠s3.heap.objs.size:=fun x c e=>by
  obtain⟨v,q⟩:=I3.cell x c e;exact cb q.lt
 have k_:∀s5:ai,s5={ s3 with heap:=h4,toks:=s3.toks+([]:List (Str×ag)).length }->
   dP (ao X.prog X.w) X.A (.compLoop (.ListComp bv [⟨tg,iter,ifs,0⟩] scope pos) 0 (.ref it) (.ref p) (blk X scope own fr s3 (upd H2 p (.lst [])) fp).env) (rJ (ao X.prog X.w) X.A X.xe use R (.ref p) s3.heap.objs.size) s5:=by
  rintro s5 rfl
  refine Kp (fun n s'=>∃i σ' H',Inv (blk X scope own fr s3 (upd H2 p (.lst [])) fp) [] σ' H' s'/\tn i s'.heap/\(∀b∈fp,H' b=none)/\W i n σ' H') ?_ m0 ⟨0,_,_,I4,aW,lD,w0⟩
  rintro n s6 ⟨i,σ6,H6,I6,i5,lC,w6⟩
  rcases turn i n σ6 H6 w6 with⟨stop,qn⟩ | ⟨go,N,hN,step⟩
  .refine thn (T.done (blk X scope own fr s3 (upd H2 p (.lst [])) fp) rfl rfl rfl hc i [] s6 σ6 H6 _ I6 (eM (pn:=[]) I6 lC) i5 stop) fun r s7 ⟨hr,I7⟩=>?_
   subst hr
   obtain⟨m,hm,_⟩:=I7.loc
   exact fin p _ H6 s7 m hm I7.free (lS I3.lt) pe (yy I3 fo I7 (Fl ..)) (fun h' ed=>yy I3 fo I7 ed) qn
  .refine thn (T.item (blk X scope own fr s3 (upd H2 p (.lst [])) fp) rfl rfl rfl hc i [] s6 σ6 H6 _ I6 (eM (pn:=[]) I6 lC) i5 go) fun r s7 ⟨u,hr,h7⟩=>?_
   subst hr
   refine thn h7 fun _ s8 hM=>?_
   obtain⟨x,H8,I8,r8,y8,gD,rg⟩:=hM
   have rq:=I8.pinned (eM (pn:=[]) I8 rg) (T.obj _ _ gD)
   refine thn (hg _ s8 σ6 H8 x u _ rq r8 (step x H8 y8)) fun _ s9 hM=>?_
   obtain⟨σ9,H9,I9,q9⟩:=hM
   refine thn (ht _ s9 σ9 H9 _ I9 q9) fun ok dm hM=>?_
   obtain⟨mQ,ii,ix⟩:=hM
   have again:∀{cG:Hp} {bI:ai},Inv (blk X scope own fr s3 (upd H2 p (.lst [])) fp) ([]++zm fp s8.heap) σ9 cG bI->(∃m',m' < n/\W (i+1) m' σ9 cG)->
     ∃m,m < n/\∃i σ' H',Inv (blk X scope own fr s3 (upd H2 p (.lst [])) fp) [] σ' H' bI/\tn i bI.heap/\(∀b∈fp,H' b=none)/\W i m σ' H':=fun {cG bI} cz ⟨m',hm,lY⟩=>by
    refine⟨m',hm,i+1,σ9,cG,cz.unpinned,T.keep _ _ _ gD fun b bg o e=>(cz.pin (b,o) (cN _ (cN _ (kQ bg e)))).1,fun b bg=>?_,lY⟩
    obtain⟨o,e,d⟩:=T.obj _ _ gD b bg
    exact (cz.pin (b,o) (cN _ (cN _ (kQ bg e)))).2.1
   cases ok with
   | false=>
    rw[Qw c9]at ix |-
    exact again ii (hN _ _ ix)
   | true=>
    rw[Qx rfl]at ix |-
    refine thn (he _ dm σ9 mQ _ ii ix) fun yv bI hM=>?_
    obtain⟨y,cG,cz,wb,ys,cx,bu,wd⟩:=hM
    have ap:=j0 (X:=blk X scope own fr s3 (upd H2 p (.lst [])) fp) ([]++zm fp s8.heap) bI σ9 cG (.ref p) [y] (.ref p) [yv] (fun _ iM=>∃m',m' < n/\W (i+1) m' σ9 iM) cz rfl (.cons wb .nil) ⟨p,ys,y,rfl,rfl,cx,bu,hN _ _ wd⟩
    exact thn ap fun _ cF ⟨_,iM,fw,_,wc⟩=>again fw wc
 refine EW (k_ _ rfl) (T.self X.A 0 _ _ _ aW (k_ _ rfl))
theorem jgG{X:Cx}{scope:cM}{bv tg iter:aj}{ifs:List aj}{pos:Pos}{wi:TI}{g:TG}{tt:TT}{te:TE}(own:List Str)(fr:List Nat)(hc:X.calm=true)(O:CompOk X scope fr)(hi:PI X.nox tg iter wi)
  (hb:∀s H ex,PG (blk X.nox scope own fr s H ex) tg g/\PTs (blk X.nox scope own fr s H ex) ifs tt/\PE (blk X.nox scope own fr s H ex) bv te)
  (hs:∀x,fI iter X.env x=pure x:=by intro _;rfl):PE X.nox (.ListComp bv [⟨tg,iter,ifs,0⟩] scope pos) (Zh own fr wi g tt te):=by
 intro ae s σ H Q I h
 rw[eval_ListComp]
 refine jfM (X:=X.nox) (use:=none) (Q:=Q) hc ⟨O.kind,O.nocell,O.loc,O.frees,O.fr⟩ hi hb hs I h (fun _ _=>Iff.rfl) fun p C H' s' m hm hC _ _ I' back q=>?_
 exact⟨m,hm,fun h' ed=>⟨.ref p,H',back h' ed,rfl,q⟩⟩
section
variable {p:ad}{g:TG}{tt:TT}{te:TE}{Q:VK}
theorem Yg(J:It)(n:Nat)(Pv:Nat->St->Hp->Prop)(h0:Pv 0 σ H)(stop:∀σ' H',Pv n σ' H'->J.stop n H')(go:∀i σ' H',i < n->Pv i σ' H'->J.go i H')
  (hs:∀i σ' H',i < n->Pv i σ' H'->∀x H2,J.yld i H' x H2->g x σ' H2 fun σ3 H3=>tt σ3 H3 fun c H4=>if c=true then te σ3 H4 fun y H5=>∃ys,H5 p=some (.lst ys)/\ys.length < aI/\Pv (i+1) σ3 (upd H5 p (.lst (ys++[y]))) else Pv (i+1) σ3 H4)
  (hd:∀σ' H',Pv n σ' H'->Q (.ref p) H'):YZ J p g tt te Q σ H:=by
 refine⟨fun i m σ H=>m=n - i/\i<=n/\Pv i σ H,⟨n,by simp,bT _,h0⟩,?_⟩
 rintro i m σ1 H1 ⟨rfl,hi,pv⟩
 by_cases aP:i < n
 .exact .inr ⟨go i σ1 H1 aP pv,Pv (i+1),fun σ3 H3 q=>⟨n - (i+1),by omega,rfl,aP,q⟩,hs i σ1 H1 aP pv⟩
 .have e:i=n:=by omega
  subst e
  exact .inl ⟨stop σ1 H1 pv,hd σ1 H1 pv⟩
theorem JH{lo:Int}{n:Nat}(Pv:Nat->St->Hp->Prop)(h0:Pv 0 σ H)
  (hs:∀i σ' H',i < n->Pv i σ' H'->g (.int (lo+i)) σ' H' fun σ3 H3=>tt σ3 H3 fun c H4=>if c=true then te σ3 H4 fun y H5=>∃ys,H5 p=some (.lst ys)/\ys.length < aI/\Pv (i+1) σ3 (upd H5 p (.lst (ys++[y]))) else Pv (i+1) σ3 H4)
  (hd:∀σ' H',Pv n σ' H'->Q (.ref p) H'):YZ (Itr lo n) p g tt te Q σ H:=
 Yg (Itr lo n) n Pv h0 (fun _ _ _=>aD _) (fun i _ _ h _=>h) (fun i σ' H' h pv x H2 y=>by
  obtain⟨e1,e2⟩:=y;subst e1 e2;exact hs i σ' _ h pv) hd
theorem Js{a:ad}{xs:List V}(Pv:Nat->St->Hp->Prop)(h0:Pv 0 σ H)(hl:∀i σ' H',i<=xs.length->Pv i σ' H'->SqL K H' a xs)
  (hs:∀i x σ' H',xs[i]?=some x->Pv i σ' H'->g x σ' H' fun σ3 H3=>tt σ3 H3 fun c H4=>if c=true then te σ3 H4 fun y H5=>∃ys,H5 p=some (.lst ys)/\ys.length < aI/\Pv (i+1) σ3 (upd H5 p (.lst (ys++[y]))) else Pv (i+1) σ3 H4)
  (hd:∀σ' H',Pv xs.length σ' H'->Q (.ref p) H'):YZ (Itl K a) p g tt te Q σ H:=
 Yg (Itl K a) xs.length Pv h0 (fun σ' H' pv=>⟨xs,hl _ σ' H' (aD _) pv,aD _⟩) (fun i σ' H' h pv=>⟨xs,xs[i],hl i σ' H' (c6 h) pv,by simp[h]⟩) (fun i σ' H' h pv x H2 y=>by
  obtain⟨e1,e2⟩:=y;subst e1;exact hs i x σ' _ (e2 xs (hl i σ' _ (c6 h) pv)) pv) hd
end
inductive D where
 | int (i:Int) | str (x:Str) | tup (ds:List D)
mutual
def Held(H:Hp):D->V->Prop
 | .int i,v=>v=.int i
 | .str x,v=>v=.str x
 | .tup ds,v=>∃a xs,v=.ref a/\H a=some (.tup xs)/\HeldL H ds xs
def HeldL(H:Hp):List D->List V->Prop
 | [],vs=>vs=[]
 | d :: ds,vs=>∃v r,vs=v :: r/\Held H d v/\HeldL H ds r
end
mutual
theorem Held.mono{H H':Hp}(e:Same H H'):∀{d:D} {v:V},Held H d v->Held H' d v
 | .int i,v,h=>by unfold Held at h |-;exact h
 | .str x,v,h=>by unfold Held at h |-;exact h
 | .tup ds,v,h=>by
  unfold Held at h |-;obtain⟨a,xs,e1,e2,e3⟩:=h;exact⟨a,xs,e1,e a _ e2,HeldL.mono e e3⟩
theorem HeldL.mono{H H':Hp}(e:Same H H'):∀{ds:List D} {vs:List V},HeldL H ds vs->HeldL H' ds vs
 | [],vs,h=>by unfold HeldL at h |-;exact h
 | d :: ds,vs,h=>by
  unfold HeldL at h |-;obtain⟨v,r,e1,e2,e3⟩:=h;exact⟨v,r,e1,Held.mono e e2,HeldL.mono e e3⟩
end
theorem jP{i:Int}:Held H (.int i) (.int i):=by unfold Held;rfl
theorem jF:Held H (.str x) (.str x):=by unfold Held;rfl
theorem jK{a:ad}{xs:List V}{ds:List D}(e:H a=some (.tup xs))(h:HeldL H ds xs):Held H (.tup ds) (.ref a):=by unfold Held;exact⟨a,xs,rfl,e,h⟩
theorem jl:HeldL H [] []:=by unfold HeldL;rfl
theorem jc{d:D}{ds:List D}{v:V}{r:List V}(h:Held H d v)(t:HeldL H ds r):HeldL H (d :: ds) (v :: r):=by unfold HeldL;exact⟨v,r,rfl,h,t⟩
theorem HeldL.length{H:Hp}:∀{ds:List D} {vs:List V},HeldL H ds vs->ds.length=vs.length
 | [],vs,h=>by unfold HeldL at h;subst h;rfl
 | d :: ds,vs,h=>by
  unfold HeldL at h;obtain⟨v,r,e1,_,e3⟩:=h;subst e1;rw[ck,ck,HeldL.length e3]
theorem HeldL.get{H:Hp}:∀{ds:List D} {vs:List V} {j:Nat} {d:D},HeldL H ds vs->ds[j]?=some d->∃v,vs[j]?=some v/\Held H d v
 | [],_,_,_,_,e=>by simp at e
 | d :: ds,vs,0,d',h,e=>by
  unfold HeldL at h;obtain⟨v,r,e1,e2,e3⟩:=h;simp at e;subst e e1;exact⟨v,rfl,e2⟩
 | d :: ds,vs,j+1,d',h,e=>by
  unfold HeldL at h;obtain⟨v,r,e1,e2,e3⟩:=h;subst e1;obtain⟨w,h1,h2⟩:=HeldL.get (j:=j) (d:=d') e3 (by simpa using e);exact⟨w,by simpa using h1,h2⟩
mutual
def D.depth:D->Nat
 | .int _=>0
 | .str _=>0
 | .tup ds=>D.depthL ds+1
def D.depthL:List D->Nat
 | []=>0
 | d :: ds=>max (D.depth d) (D.depthL ds)
end
theorem D.depthL_get:∀{ds:List D} {j:Nat} {d:D},ds[j]?=some d->d.depth<=D.depthL ds
 | [],_,_,e=>by simp at e
 | d :: ds,0,d',e=>by simp at e;subst e;unfold D.depthL;exact Nat.le_max_left _ _
 | d :: ds,j+1,d',e=>by unfold D.depthL;exact aJ (D.depthL_get (j:=j) (by simpa using e)) (Nat.le_max_right _ _)
theorem j5:OpR X (iQ .FloorDiv) (rI (fun _ j=>0 < j/\j < 2 ^ 200) fun i j=>.int (i / j)):=opI fun i j _ _ _ _ _ hc q=>by
 refine floordiv_int (by omega) ?_ (.inl (PyProof.noPylong_of_log2 ?_))
 .rw[Int.fdiv_eq_ediv_of_nonneg _ (by omega)]
  exact q
 .have h0:j.natAbs≠0:=by omega
  exact FT ((Nat.log2_lt h0).mpr (show j.natAbs < 2 ^ 200 by omega)) (by decide)
theorem K0:zp X (.builtin "isinstance") (fun xs H Q=>∃x t T b,xs=[x,.ty T]/\TyOf X.K H x t/\E8 X.K t (.type T)=some b/\Q (.bl b) H):=by
 intro ae s σ H xs us Q I r h;obtain⟨x,t,T,b,rfl,ty,e,q⟩:=h;obtain⟨u,v,rfl,ru,rv⟩:=jhx r
 cases rv
 exact jdH I ru ty e fun tk=>⟨.bl b,H,I.tok _,rfl,q⟩
theorem jiL(K:aw):E8 K (.type "tuple") (.type "tuple")=some true:=rfl
def zG:aj->Bool
 | .Starred _ _=>false
 | _=>true
theorem yY{e:aj}(h:zG e=true)(zF:List aj)(env:Env):cj (e :: zF) env=(false,eval e env) :: cj zF env:=by
 cases e <;> first | rfl | cases h
theorem Z0(pos:Pos)(env:Env):∀es:List aj,es.all zG=true->(ff pos (cj es env)).any (·.1)=false
 | [],_=>rfl
 | e :: es,h=>by
  rw[BB,i4]at h;rw[yY h.1];have ih:=Z0 pos env es h.2;show (false || (ff pos (cj es env)).any (·.1))=false;rw[ih];rfl
theorem jju{X:Cx}{e:aj}{es:List aj}{te:TE}{t:TA}(ha:PE X e te)(hr:PA X es t)(hp:zG e=true:=by rfl):PA X (e :: es) (jcu te t):=jgK ha hr (yY hp es X.env)
theorem jjq{X:Cx}{x:Str}{p pos:Pos}{e:aj}{es:List aj}{t:TA}{id:String}{r:List V->Hp->VK->Prop}(hc:zp X (.builtin id) r)(hg:Gl X x)(hm:X.mg x=none)(hv:dE x=some (.builtin id))(ha:PA X (e :: es) t)(hp:(e :: es).all zG=true:=by rfl)(hn:x≠"__name__":=by decide)(gI:(x == ("__debug__" : Str))=false:=by decide):
  PE X (.Call (.Name x p) (e :: es) [] pos) (tCB r t):=by
 rw[BB,i4]at hp
 exact je4 hc hg hm hv ha hn gI (yY hp.1 es X.env) (Z0 pos X.env es hp.2)
theorem jjp{X:Cx}{x:Str}{p pos:Pos}{e:aj}{es:List aj}{t:TA}{T:String}{r:List V->Hp->VK->Prop}(hc:zp X (.type T) r)(hg:Gl X x)(hm:X.mg x=none)(hv:dE x=some (.type T))(ha:PA X (e :: es) t)(hp:(e :: es).all zG=true:=by rfl)(hn:x≠"__name__":=by decide)(gI:(x == ("__debug__" : Str))=false:=by decide):
  PE X (.Call (.Name x p) (e :: es) [] pos) (tCB r t):=by
 rw[BB,i4]at hp
 exact jdo hc hg hm hv ha hn gI (yY hp.1 es X.env) (Z0 pos X.env es hp.2)
structure Fn(P:aE)(w:aB)(K:aw)(mg:Str->Option ag)(base:ar)(k:Nat)(x:Str)(ps:List Str)(sp:Sp):Prop where
 ex:∃f fd,FnOk P w K mg base CX0 k f fd ps sp/\Binds K fd ps []/\fJ K (.ref f)=true/\mg x=some (.ref f)
theorem jjo{X:Cx}{k k':Nat}{x:Str}{ps:List Str}{sp:Sp}{e:aj}{es:List aj}{t:TA}{p pos:Pos}(F:Fn X.prog X.w X.K X.mg X.base k x ps sp)(hr:Room k' X.A)(ha:PA X (e :: es) t)(hk:k<=k':=by decide)(hg:Gl X x:=by rfl)
  (hd:(x == ("__debug__" : Str))=false:=by decide) (hp:(e :: es).all zG=true:=by rfl):PE X (.Call (.Name x p) (e :: es) [] pos) (jeu sp [] E0 t):=by
 obtain⟨f,fd,G,b,kp,m⟩:=F.ex
 rw[BB,i4]at hp
 exact jgI G (hr.mono hk) hg m kp b .nil jhL ha hd (yY hp.1 es X.env) (Z0 pos X.env es hp.2)
theorem Fn.mk'{P:aE}{mg:Str->Option ag}{base:ar}{k:Nat}{sp:Sp}(F:Fun K x x st f fd)(b:Binds K fd ps [])(m:mg x=some (.ref f))(G:FnOk P w K mg base CX0 k f fd ps sp):Fn P w K mg base k x ps sp:=⟨f,fd,G,b,F.kp,m⟩
theorem qZ{fr:List Nat}{sc:cM}{N:List Str}(h1:X.env.scope=sc)(h2:X.N=N) (h:scope.kind=.function/\(∀y∈scope.names,y.2≠.cell)/\(∀y∈scope.names,y.2=.local->scope.names.lookup y.1=some .local)/\
  (∀y∈scope.names,y.2=.free->sc.names.lookup y.1=some .cell\/sc.names.lookup y.1=some .free)/\∀j∈fr,scope.names.lookup (N.getD j (bE ""))=some .free):CompOk X scope fr:=by
 obtain⟨a,b,c,d,e⟩:=h
 exact⟨a,b,c,by rw[h1];exact d,by rw[h2];exact e⟩
theorem KM:dE "len" = some (.builtin "len"):=by decide +kernel
theorem Jz:dE "isinstance" = some (.builtin "isinstance"):=by decide +kernel
theorem ZE:dE "sorted" = some (.builtin "sorted"):=by decide +kernel
theorem KN:dE "int" = some (.type "int"):=by decide +kernel
theorem YX:dE "tuple" = some (.type "tuple"):=by decide +kernel
theorem jcW:dE "list" = some (.type "list"):=by decide +kernel
structure Free0(mg:Str->Option ag):Prop where
 len_:mg "len" = none
 max_:mg "max" = none
 min_:mg "min" = none
 all_:mg "all" = none
 isinstance_:mg "isinstance" = none
 abs_:mg "abs" = none
 sorted_:mg "sorted" = none
 int_:mg "int" = none
 str_:mg "str" = none
 bool_:mg "bool" = none
 tuple_:mg "tuple" = none
 list_:mg "list" = none
 dict_:mg "dict" = none
 range_:mg "range" = none
 set_:mg "set" = none
theorem jfv(h:X.K=K:=by rfl):IxR X (jjh K):=by subst h;exact j8
structure QS(X:Cx)(st:aF)(t:TS):Prop where
 h:PS X st t
structure QSs(X:Cx)(st:List aF)(t:TS):Prop where
 h:PSs X st t
theorem qs{t:TS}(h:PS X st t):QS X st t:=⟨h⟩
open PySem PySem.Spec PyProof.Rows PySem.W
section
variable {N:Nat}{f:Nat->Int}{p:Array Nat}
def gk(f:Nat->Int)(p:Array Nat)(i:Nat):Int:=f (p.getD i 0)
end
end L2
namespace PySem
open Sem (wp)
namespace F
end F
end PySem
namespace L2
open PySem PySem.Spec PyProof.Rows PySem.W
theorem Inv.more{X:Cx}{ae:List (ad×Obj)}{σ:St}{H H':Hp}{s:ai}{h':ar}{t':Nat}(I:Inv X ae σ H s)(k:∀b u,s.heap.get? b=some u->h'.get? b=some u)(same:Same H H')
  (new:∀b o,H b=none->H' b=some o->s.heap.objs.size<=b/\ObjOk X.prog X.w H' h' b o):Inv X ae σ H' { s with heap:=h',toks:=t' }:=by
 refine I.un ⟨fun b u q _ _ _=>k b u q,fun b u q _ _ _=>⟨u.slots,k b u q⟩,fun b u q n _=>?_,fun b u q _=>⟨u,k b u q⟩,fun b xs q=>same _ _ q,fun b u xs q=>same _ _ q,fun b ps q=>⟨#[],by rw[same _ _ q];simp⟩,fun b u _ _ q _ _=>k b u q⟩ fun b o e=>?_
 .cases e:H' b with
  | none=>rfl
  | some o=>exact absurd (bH q) (Nat.not_lt.mpr (new b o n e).1)
 .cases q:H b with
  | none=>exact (new b o q e).2
  | some u=>
   have:=same _ _ q
   rw[e]at this
   cases this
   exact (I.hok b o q).stay (fun c v _ q=>k c v q) (fun c q=>same _ _ q) fun c xs q=>same _ _ q
abbrev Up(xs:Array Nat):Prop:=xs.toList.Pairwise (· < ·)
structure TabOk(led:Bool)(t:lN):Prop where
 led_:t.led=led
 Cd:t.dummies=#[]
 up:Up t.place
end L2
namespace PySem
namespace F
end F
end PySem
namespace L2
open PySem PySem.Spec PyProof.Rows PySem.W
abbrev jeB(es:Array (Int×ag))(ep:Nat)(t:lN):Obj:={ cls:=.type "set",dict:=none,data:=.set es ep t }
open PySem PySem.Spec PySem.Calls PyProof.Rows PySem.W
variable {X:Cx}{σ:St}{H:Hp}
theorem Inv.drawn{ae:List (ad×Obj)}{s:ai}{h':ar}{d':Drawn}(I:Inv X ae σ H s)(k:∀b u,s.heap.get? b=some u->h'.get? b=some u):Inv X ae σ H { s with heap:=h',drawn:=d' }:=
 I.call (g':=s.gens) (t':=s.toks) (d':=d') (ch:=[]) (Un.kept k) (I.hok.kept k) I.bare fun _ z=>nomatch z
theorem jdS{scope:cM}{own:List Str}{fr:List Nat}{bv tg iter:aj}{ifs:List aj}{pos:Pos}{wi:TI}{g:TG}{tt:TT}{te:TE}{use:Option (ag->Sem Unit)}(hc:X.calm=true)(O:CompOk X scope fr)(hi:PI X tg iter wi)
  (hb:∀s H ex,PG (blk X scope own fr s H ex) tg g/\PTs (blk X scope own fr s H ex) ifs tt/\PE (blk X scope own fr s H ex) bv te)
  (hs:∀x,fI iter X.env x=pure x) {ae:List (ad×Obj)} {s:ai} {σ:St} {H:Hp} {Q:VK} {R:ag->ai->Prop} (I:Inv X ae σ H s) (h:Zh own fr wi g tt te σ H Q) (hx:∀e s',X.xe e s'↔False)
  (fin:∀(p C:ad) (H':Hp) (s':ai) (m:Str->Option ag),s'.heap.Ns C m->H' C=none->C≠X.env.locals->(∀x c,X.env.cells.lookup x=some c->c≠C)->X.s₀.heap.objs.size<=C->(∀p∈X.pn++ae,p.1≠C)->Inv X ae σ H' s'->(∀h',lP C s'.heap h'->Inv X ae σ H' { s' with heap:=h' })->Q (.ref p) H'->
   rJ (ao X.prog X.w) X.A X.xe use R (.ref p) C (.ok .next) s') :
  au (ao X.prog X.w) X.A (comprehension (.ListComp bv [⟨tg,iter,ifs,0⟩] scope pos) scope X.env (EU [⟨tg,iter,ifs,0⟩] pos) (uY []) false (eval iter X.env) use) R X.xe s:=by
 have mt:∀x∈scope.names,x.2=.free->(X.env.cells.lookup x.1).isSome=true:=fun x cp e=>by
  obtain⟨c,hc⟩:=I.ok.has x.1 (O.frees x cp e);rw[hc];rfl
 have no:∀(E:ag->ai->Prop) (x:ag) (s':ai),X.xe x s'->E x s':=fun E x s' z=>((hx x s').mp z).elim
 refine EM (cl:=yQ X.env.cells scope.names []) rfl hs (JJ mt) O.kind O.loc ?_
 refine thn (hi ae s σ H _ I h) fun v s1 h1=>thn h1 fun pA s2 h2=>?_
 obtain⟨it,fp,tn,J,H2,e,I2,T,cE,f2,q2⟩:=h2
 subst e
 refine gL ?_
 have nw:H2 s2.heap.objs.size=none:=I2.fresh
 obtain⟨W,⟨m0,w0⟩,turn⟩:=q2 _ nw
 generalize hp:s2.heap.objs.size=p at *
 have I3:Inv X ae σ (upd H2 p (.lst [])) { s2 with heap:=s2.heap.push { cls:=.type "list",dict:=none,data:=.seq ([]:List ag).toArray } }:=by
  have:=I2.lnew (ys:=[]) (its:=[]) (t':=s2.toks) .nil (bT _);rw[hp]at this;exact this
 have j_:∀b∈fp,b < s2.heap.objs.size:=fun b hb=>by
  obtain⟨o,ho,_⟩:=T.obj _ _ cE b hb;exact bH ho
 have lD:∀b∈fp,(upd H2 p (.lst [])) b=none:=fun b hb=>by
  rw[jB (by rw[<- hp];exact cb (j_ b hb))];exact (f2 b hb).1
 generalize hJ:({ s2 with heap:=s2.heap.push { cls:=.type "list",dict:=none,data:=.seq ([]:List ag).toArray } }:ai)=s3 at *
 have oY:s3.heap.objs.size=p+1:=by
  rw[<- hJ];show (s2.heap.push _).objs.size=_;rw[vh,hp]
 have gT:tn 0 s3.heap:=T.keep 0 _ _ cE fun b hb o e=>by
  rw[<- hJ];exact b_ _ e
 refine EH O.nocell (by intro y hy;simp at hy) (fun h4 ly pJ=>?_) O.kind
 have k4:∀b o,s3.heap.get? b=some o->h4.get? b=some o:=fun b o e=>pJ.extBut b o (cb (bH e)) (b_ _ e)
 have pO:h4.Ns s3.heap.objs.size fun _=>none:=by
  have z:(fun x:Str=>([]:List (Str×ag)).reverse.lookup x)=fun _=>none:=by funext x;rfl
  rw[z]at ly;exact ly
 have fo:∀b∈fp,JK X ae (upd H2 p (.lst [])) b/\b < s3.heap.objs.size:=fun b hb=>⟨⟨lD b hb,(f2 b hb).2⟩,by rw[oY,<- hp];exact rP (j_ b hb)⟩
 have I4:=jaj (own:=own) (fr:=fr) (t1:=s3.toks+([]:List (Str×ag)).length) I3 O fo pO k4
 have aW:tn 0 h4:=T.keep 0 _ _ gT fun b hb o e=>k4 b o e
 obtain⟨hg,ht,he⟩:=hb s3 (upd H2 p (.lst [])) fp
 have eM:∀{H':Hp} {pn:List (ad×Obj)} {s':ai} {σ':St},Inv (blk X scope own fr s3 (upd H2 p (.lst [])) fp) [] σ' H' s'->(∀b∈fp,H' b=none)->∀b∈fp,JK (blk X scope own fr s3 (upd H2 p (.lst [])) fp) [] H' b:=fun {H' pn s' σ'} J hn b bg=>
  ⟨hn b bg,(J.ok.exf b bg).1,J.ok.exfs b bg,.inl bg,(J.ok.exf b bg).2,fun p hp=>absurd hp (by simp[blk])⟩
 have pe:∀x c,X.env.cells.lookup x=some c->c≠s3.heap.objs.size:=fun x c e=>by
  obtain⟨v,q⟩:=I3.cell x c e;exact cb q.lt
 have k_:∀s5:ai,s5={ s3 with heap:=h4,toks:=s3.toks+([]:List (Str×ag)).length }->
   dP (ao X.prog X.w) X.A (.compLoop (.ListComp bv [⟨tg,iter,ifs,0⟩] scope pos) 0 (.ref it) (.ref p) (blk X scope own fr s3 (upd H2 p (.lst [])) fp).env) (rJ (ao X.prog X.w) X.A X.xe use R (.ref p) s3.heap.objs.size) s5:=by
  rintro s5 rfl
  refine Kp (fun n s'=>∃i σ' H',Inv (blk X scope own fr s3 (upd H2 p (.lst [])) fp) [] σ' H' s'/\tn i s'.heap/\(∀b∈fp,H' b=none)/\W i n σ' H') ?_ m0 ⟨0,_,_,I4,aW,lD,w0⟩
  rintro n s6 ⟨i,σ6,H6,I6,i5,lC,w6⟩
  rcases turn i n σ6 H6 w6 with⟨stop,qn⟩ | ⟨go,N,hN,step⟩
  .refine thn (T.done (blk X scope own fr s3 (upd H2 p (.lst [])) fp) rfl rfl rfl hc i [] s6 σ6 H6 _ I6 (eM (pn:=[]) I6 lC) i5 stop) fun r s7 ⟨hr,I7⟩=>?_
   subst hr
   obtain⟨m,hm,_⟩:=I7.loc
   exact fin p _ H6 s7 m hm I7.free (lS I3.lt) pe I3.sz (fun p hp=>cb (bH (I3.pin p hp).1)) (yy I3 fo I7 (Fl ..)) (fun h' ed=>yy I3 fo I7 ed) qn
  .refine thn (T.item (blk X scope own fr s3 (upd H2 p (.lst [])) fp) rfl rfl rfl hc i [] s6 σ6 H6 _ I6 (eM (pn:=[]) I6 lC) i5 go) fun r s7 ⟨u,hr,h7⟩=>?_
   subst hr
   refine thn h7 fun _ s8 hM=>?_
   obtain⟨x,H8,I8,r8,y8,gD,rg⟩:=hM
   have rq:=I8.pinned (eM (pn:=[]) I8 rg) (T.obj _ _ gD)
   refine thn (hg _ s8 σ6 H8 x u _ rq r8 (step x H8 y8)) fun _ s9 hM=>?_
   obtain⟨σ9,H9,I9,q9⟩:=hM
   refine thn (ht _ s9 σ9 H9 _ I9 q9) fun ok dm hM=>?_
   obtain⟨mQ,ii,ix⟩:=hM
   have again:∀{cG:Hp} {bI:ai},Inv (blk X scope own fr s3 (upd H2 p (.lst [])) fp) ([]++zm fp s8.heap) σ9 cG bI->(∃m',m' < n/\W (i+1) m' σ9 cG)->
     ∃m,m < n/\∃i σ' H',Inv (blk X scope own fr s3 (upd H2 p (.lst [])) fp) [] σ' H' bI/\tn i bI.heap/\(∀b∈fp,H' b=none)/\W i m σ' H':=fun {cG bI} cz ⟨m',hm,lY⟩=>by
    refine⟨m',hm,i+1,σ9,cG,cz.unpinned,T.keep _ _ _ gD fun b bg o e=>(cz.pin (b,o) (cN _ (cN _ (kQ bg e)))).1,fun b bg=>?_,lY⟩
    obtain⟨o,e,d⟩:=T.obj _ _ gD b bg
    exact (cz.pin (b,o) (cN _ (cN _ (kQ bg e)))).2.1
   cases ok with
   | false=>
    rw[Qw c9]at ix |-
    exact again ii (hN _ _ ix)
   | true=>
    rw[Qx rfl]at ix |-
    refine thn (he _ dm σ9 mQ _ ii ix) fun yv bI hM=>?_
    obtain⟨y,cG,cz,wb,ys,cx,bu,wd⟩:=hM
    have ap:=j0 (X:=blk X scope own fr s3 (upd H2 p (.lst [])) fp) ([]++zm fp s8.heap) bI σ9 cG (.ref p) [y] (.ref p) [yv] (fun _ iM=>∃m',m' < n/\W (i+1) m' σ9 iM) cz rfl (.cons wb .nil) ⟨p,ys,y,rfl,rfl,cx,bu,hN _ _ wd⟩
    exact thn ap fun _ cF ⟨_,iM,fw,_,wc⟩=>again fw wc
 refine EW (k_ _ rfl) (T.self X.A 0 _ _ _ aW (k_ _ rfl))
theorem jbH{X:Cx}{scope:cM}{bv tg iter:aj}{ifs:List aj}{pos:Pos}{wi:TI}{g:TG}{tt:TT}{te:TE}{i:Nat}{y:Str}{py oZ:Pos}(hN:X.N.Nodup)(mE:X.N[i]?=some y)(hy:Loc X.env.scope y)(own:List Str)(fr:List Nat)(hc:X.calm=true)(O:CompOk X scope fr)(hi:PI X.nox tg iter wi)
  (hb:∀s H ex,PG (blk X.nox scope own fr s H ex) tg g/\PTs (blk X.nox scope own fr s H ex) ifs tt/\PE (blk X.nox scope own fr s H ex) bv te)
  (hs:∀x,fI iter X.env x=pure x:=by intro _;rfl)
  (Ij:iP (.ListComp bv [⟨tg,iter,ifs,0⟩] scope pos) (some (.Name y py)) oZ.line X.env=pure true:=by rfl)
  (hf:X.fn y=true\/X.env.scope.names.lookup y=some .local:=by first | exact .inl rfl | exact .inr rfl | assumption) :
  PS X.nox (.Assign [.Name y py] (.ListComp bv [⟨tg,iter,ifs,0⟩] scope pos) oZ) (ZS (Zh own fr wi g tt te) (qq i)):=by
 intro ae s σ H D I h
 rw[exec_Assign_Name_used _ _ _ _ Ij]
 refine aq (mU (aq ?_))
 show au _ _ (do let _ <- comprehension (.ListComp bv [⟨tg,iter,ifs,0⟩] scope pos) scope X.nox.env _ (uY []) false (eval iter X.nox.env) (some (assign (.Name y py) X.nox.env))) _ _ s
 refine aq (cI (jdS (X:=X.nox) (use:=some (assign (.Name y py) X.nox.env)) (R:=fun _ s'=>SP X.nox ae D .next s') hc ⟨O.kind,O.nocell,O.loc,O.frees,O.fr⟩ hi hb hs I h (fun _ _=>Iff.rfl)
  fun p C H' s' m hm hC hL fY hz hU I' back q=>?_) (fun _ s' hq=>aH (aH hq)) fun _ _ e=>e)
 show au _ _ (assign (.Name y py) X.nox.env (.ref p)) _ _ _
 refine Nj (Zi (v:=.ref p) I' hN mE hy rfl (fun s2 I2 Io=>?_) hf)
 obtain⟨a,xq,ha⟩:=Io
 have LY:C≠a:=by
  rcases ha with rfl | e
  .exact hL
  .exact fun z=>fY _ _ e z.symm
 refine⟨m,hm.sameBut xq LY,fun h' ed=>?_⟩
 exact⟨_,H',I2.turned (t':=s2.toks) (fun b o hb e=>(ed.2 b hb).trans e) hC hL (.inr hz) fY hU,q⟩
variable {P:aE}{w:aB}{K:aw}
section
variable {ae:List (ad×Obj)}{s:ai}{tg:aj}
theorem Inv.relabel{a:ad}{u v:HO}(I:Inv X ae σ H s)(hu:H a=some u)(h1:∀xs,u≠.tup xs)(h2:∀ps,u≠.tbl ps)(h3:∀o z,X.H₀ a≠some (.frz o z))(h4:∀x,u≠.own x)(hv:ObjOk X.prog X.w (upd H a v) s.heap a v):Inv X ae σ (upd H a v) s:=by
 have ne:∀b,H b=none->b≠a:=fun b n z=>by rw[z,hu]at n;cases n
 have nt:∀b xs,H b=some (.tup xs)->b≠a:=fun b xs n z=>by rw[z,hu]at n;exact h1 xs (dk n)
 have no:∀b x,H b=some (.own x)->b≠a:=fun b x n z=>by rw[z,hu]at n;exact h4 x (dk n)
 refine⟨I.ok,I.os,I.bare,⟨I.base.keep,I.base.slot,fun b o e n hx=>?_,I.base.there,fun b xs e=>?_,fun b o z e=>?_,fun b ps e=>?_,I.base.stay⟩,I.loc,I.cell,?_,fun x c e=>?_,fun p hp=>?_,fun b o e=>?_,I.len⟩
 .have q:=I.base.free b o e n hx
  rw[jB (ne b q)];exact q
 .have q:=I.base.tups b xs e
  rw[jB (nt b xs q)];exact q
 .have hb:b≠a:=fun z'=>by subst z';exact h3 _ _ e
  rw[jB hb];exact I.base.frzs b o z e
 .obtain⟨m,q⟩:=I.base.tbls b ps e
  have hb:b≠a:=fun z'=>by rw[z',hu]at q;exact h2 _ (dk q)
  exact⟨m,by rw[jB hb];exact q⟩
 .rw[jB (ne _ I.free)];exact I.free
 .rw[jB (ne _ (I.freeC x c e))];exact I.freeC x c e
 .obtain⟨q1,q2,q3⟩:=I.pin p hp
  exact⟨q1,by rw[jB (ne _ q2)];exact q2,q3⟩
 .by_cases hb:b=a
  .subst hb
   rw[jf]at e
   cases e
   exact hv
  .rw[jB hb]at e
   exact (I.hok b o e).stay (fun _ _ _ q=>q) (fun c q=>by rw[jB (no c _ q)];exact q) fun c xs q=>by rw[jB (nt c xs q)];exact q
def Itd(a:ad)(o:Obj)(kvs:List (Key×V)):It:=
 ⟨fun i H=>H a=some (.frz o (.dK kvs))/\i < kvs.length,fun i H x H'=>H'=H/\∃k v,kvs[i]?=some (k,v)/\x=kV k,fun i H=>H a=some (.frz o (.dK kvs))/\kvs.length<=i⟩
theorem jcH:∀{kvs:List (Key×V)} {vs:List (Key×ag)},KV kvs vs->∀{i:Nat} {k:Key} {v:V},kvs[i]?=some (k,v)->∃u,vs[i]?=some (k,u)
 | [],[],_,i,k,v,e=>by simp at e
 | p :: r,q :: t,h,i,k,v,e=>by
  unfold KV at h
  cases h with
  | cons h1 h2=>
   cases i with
   | zero=>
    have:p=(k,v):=by simpa using e
    subst this;obtain⟨q1,q2⟩:=q;have e1:k=q1:=h1.1;subst e1;exact⟨q2,by simp⟩
   | succ j=>
    obtain⟨u,e2⟩:=jcH (kvs:=r) (vs:=t) h2 (i:=j) (k:=k) (v:=v) (by simpa using e);exact⟨u,by simpa using e2⟩
theorem Ye{h:ar}{a:ad}{o:Obj}{kvs:List (Key×V)}{eB:Array iW}{ep:Nat}(hd:o.data=.dict eB ep)(x:ObjOk P w H h a (.frz o (.dK kvs))):∃vs,KV kvs vs/\h.DictAt (j6 P w) a vs ep:=by
 obtain⟨e,_,_,vs,r,o',es,rj,e',c1,c2,c3⟩:=x;rw[e]at e'
 cases e'
 rw[hd]at c2
 cases c2
 exact⟨vs,r,o,_,e,c1,hd,c3⟩
theorem jdf(a it:ad){o:Obj}{kvs:List (Key×V)}{eB:Array iW}{ep:Nat}(hd:o.data=.dict eB ep):Turn P w K tg (Itd a o kvs) [it] it (fun i h=>h.IsKeyIter it a i kvs.length ep) where
 mem:=by simp
 obj:=fun i h st b hb=>by
  have e:b=it:=by simpa using hb
  subst e;obtain⟨o,e,c,d⟩:=st;exact⟨o,e,fun v z=>by rw[d]at z;cases z⟩
 keep:=fun i h h' st k=>by
  obtain⟨o,e,c,d⟩:=st;exact⟨o,k it (by simp) o e,c,d⟩
 item:=by
  intro X hP hw hK hc i ae s σ H E I hf st hg;subst hP hw hK;obtain⟨hq,hi⟩:=hg;obtain⟨vs,rv,da⟩:=Ye hd (I.hok a _ hq);obtain⟨k,v⟩:∃kv,kvs[i]?=some kv:=⟨_,aK hi⟩
  obtain⟨k,v'⟩:=k;obtain⟨u,hu⟩:=jcH rv v;obtain⟨f0,f1,f2,f3,f4,f5⟩:=hf it (by simp);have hl:kvs.length=vs.length:=rv.length;rw[hl]at st;refine wpAny_pyNext_dict_item st da hu fun key h' hk aA sb=>?_
  have I1:Inv X ae σ H { s with heap:=h' }:=I.turned (t':=s.toks) (fun b o hb e=>(sb.2 b hb).trans e) f0 f1 f3 f4 f5;obtain⟨ob,e,c,d⟩:=id aA;have rk:RelV (kV k) key:=by
   rcases kK (show YK k key=true from hk) with⟨j,t,rfl,rfl⟩ | ⟨y,t,rfl,rfl⟩
   .exact⟨t,rfl⟩
   .exact⟨t,rfl⟩
  rw[<- hl]at aA;exact⟨key,rfl,jba (s:={ s with heap:=h' }) e c d (by decide) ⟨kV k,H,I1,rk,⟨rfl,k,v',v,rfl⟩,aA,fun b hb=>(hf b hb).1⟩⟩
 done:=by
  intro X hP hw hK hc i ae s σ H E I hf st hg;subst hP hw hK;obtain⟨hq,hi⟩:=hg;obtain⟨vs,rv,da⟩:=Ye hd (I.hok a _ hq);obtain⟨f0,f1,f2,f3,f4,f5⟩:=hf it (by simp);have hl:kvs.length=vs.length:=rv.length;rw[hl]at st;exact wpAny_pyNext_dict_end (I.ok.hd hc) st da (Bx (by omega)) fun h' eb=>⟨rfl,I.turned (t':=s.toks) (fun b o hb e=>eb b o hb e) f0 f1 f3 f4 f5⟩
 self:=fun _ _ _ _ _ st h=>M3 st h
def jhQ(tl:TE):TI:=fun σ H R=>tl σ H fun x H1=>∃a kvs,x=.ref a/\H1 a=some (.dK kvs)/\∀o,R (Itd a o kvs) (upd H1 a (.frz o (.dK kvs)))
theorem jgz{l:aj}{tl:TE}(hl:PE X l tl):PI X tg l (jhQ tl):=by
 intro ae s σ H R I h;refine thn (hl ae s σ H _ I h) fun v s1 hM=>?_
 obtain⟨x,H1,I1,r1,q1⟩:=hM;obtain⟨a,kvs,e,hq,q⟩:=q1;subst e
 cases r1
 have ok:=I1.hok a _ hq;obtain⟨z1,z2,vs,rv,o,es,ep,e1,c1,c2,c3⟩:=id ok;have da:s1.heap.DictAt (j6 X.prog X.w) a vs ep:=⟨o,es,e1,c1,c2,c3⟩
 have I2:Inv X ae σ (upd H1 a (.frz o (.dK kvs))) s1:=I1.relabel hq (fun _ z=>by cases z) (fun _ z=>by cases z) (fun o' z' e'=>by
  have:=I1.base.frzs a o' z' e';rw[hq]at this
  cases this) (fun _ z=>by cases z) ⟨e1,ok.stay (fun _ _ _ q=>q) (fun c q=>by rw[jB (Jc q hq (by intro z;cases z))];exact q) fun c xs q=>by rw[jB (Jc q hq (by intro z;cases z))];exact q⟩
 refine wpAny_pyIter_dict z2 da ?_;have bu:kvs.length=vs.length:=rv.length;refine⟨s1.heap.objs.size,[s1.heap.objs.size],_,_,_,rfl,I2.kept (t':=s1.toks) fun b o e=>b_ _ e,jdf a _ c2,⟨_,dg _ rfl,rfl,by rw[<- bu];rfl⟩,fun b hb=>?_,q o⟩;have e:b=s1.heap.objs.size:=by simpa using hb
 subst e;exact I2.fpOk (aD _) (I2.hok.fresh (aD _))
def jhz(H₀:Hp)(t:TS):TS:=fun D σ H=>t { D with nx:=fun σ' H'=>∃a o kvs,H' a=some (.frz o (.dK kvs))/\(∀o z,H₀ a≠some (.frz o z))/\D.nx σ' (upd H' a (.dK kvs)) } σ H
theorem jgo{st:aF}{t:TS}(h:PS X st t):PS X st (jhz X.H₀ t):=by
 intro ae s σ H D I q;refine thn (h ae s σ H _ I q) fun f s1 q1=>?_
 cases f with
 | next=>
  obtain⟨σ',H',I',a,o,kvs,e,hn,q'⟩:=q1;have ok:=I'.hok a _ e;exact⟨σ',_,I'.relabel e (fun _ z=>by cases z) (fun _ z=>by cases z) hn (fun _ z=>by cases z) (ok.2.stay (fun _ _ _ q=>q) (fun c q=>by rw[jB (Jc q e (by intro z;cases z))];exact q) fun c xs q=>by rw[jB (Jc q e (by intro z;cases z))];exact q),q'⟩
 | cont=>exact q1
 | brk=>exact q1
 | ret v=>exact q1
end
theorem jay:dE "enumerate" = some (.type "enumerate"):=by decide +kernel
def Ite(K:aw)(l:ad):It:=
 ⟨fun i H=>∃xs x,SqL K H l xs/\xs[i]?=some x,fun i H x H'=>∃t y,H t=none/\(∀xs,SqL K H l xs->xs[i]?=some y)/\x=.ref t/\H'=upd H t (.tup [.int i,y]),fun i H=>∃xs,SqL K H l xs/\xs.length<=i⟩
theorem jde{rm:List aj}{x1:Nat}{tp:Pos}(l e it:ad)(tH:e≠it):Turn P w K (.Tuple rm x1 tp) (Ite K l) [e,it] e (fun i h=>(∃gZ,IsEnum h e it i gZ)/\h.IsListIter it l i) where
 mem:=by simp
 obj:=fun i h st b hb=>by
  obtain⟨⟨gZ,h1⟩,o,e2,c,d⟩:=st;rcases bG.mp hb with rfl | hb
  .exact⟨_,h1,fun v z=>by cases z⟩
  .rw[aN.mp hb]
   exact⟨o,e2,fun v z=>by rw[d]at z;cases z⟩
 keep:=fun i h h' st k=>by
  obtain⟨⟨gZ,h1⟩,o,e2,c,d⟩:=st;exact⟨⟨gZ,k e (by simp) _ h1⟩,o,k it (by simp) o e2,c,d⟩
 item:=by
  intro X hP hw hK hc i ae s σ H E I hf st hg;subst hP hw hK;obtain⟨xs,x,hq,hx⟩:=hg;obtain⟨⟨gZ,hE⟩,de⟩:=st;obtain⟨its,rv,p,hz⟩:=I.list hq;obtain⟨u,hu,ru⟩:=rv.get hx;obtain⟨a0,a1,a2,a3,a4,a5⟩:=hf e (by simp);obtain⟨f0,f1,f2,f3,f4,f5⟩:=hf it (by simp);refine wpAny_pyNext_enum_item hE de p.isList (x:=u) (by simpa using hu) tH fun h' o1 o2 o3 o4 o5=>?_
  refine⟨_,rfl,wpAny_letOwnedTupleGo_enum (s:={ s with heap:=h',toks:=s.toks+1 }) o1 fun h2 g1 g2=>?_⟩;have nY:H s.heap.objs.size=none:=I.hok.fresh (aD _);have kp:∀b o,b≠e->b≠it->s.heap.get? b=some o->h2.get? b=some o:=fun b o hb bg q=>(g2.2 b hb).trans (o5 b o hb bg q)
  have nt:∀b o,s.heap.get? b=some o->b≠s.heap.objs.size:=fun b o q=>cb (bH q)
  have ne:∀b z,H b=some z->b≠e/\b≠it:=fun b z q=>⟨fun t=>(by rw[t,a0]at q;cases q),fun t=>(by rw[t,f0]at q;cases q)⟩
  have DE:s.heap.objs.size≠e:=fun z=>absurd (bH hE) (by rw[<- z];exact np _)
  have I1:Inv X ae σ (upd H s.heap.objs.size (.tup [.int i,x])) { s with heap:=h2,gens:=s.gens,drawn:=s.drawn,toks:=s.toks+1 }:=by
   refine I.step (g':=s.gens) (d':=s.drawn) (ch:=[e,it]) (fun b hb=>?_) (fun b o _ _ du q _=>kp b o (fun z=>du (by simp[z])) (fun z=>du (by simp[z])) q) (fun b o _ _ du q _=>⟨o.slots,kp b o (fun z=>du (by simp[z])) (fun z=>du (by simp[z])) q⟩)
    (fun b o _ q n=>by rw[jB (nt b o q)];exact n) (fun b o du q=>⟨o,kp b o (fun z=>du (by simp[z])) (fun z=>du (by simp[z])) q⟩) (fun b ys q=>by rw[jB (jp q nY)];exact q) (fun b o z q=>by rw[jB (jp q nY)];exact q)
    (fun b ps q=>⟨#[],by rw[jB (jp q nY),q];simp⟩) (fun m hm=>?_) (fun b z q=>?_) I.bare
   .rcases bG.mp hb with rfl | hb
    .exact⟨a3,a1,a4,a5⟩
    .rw[aN.mp hb];exact⟨f3,f1,f4,f5⟩
   .obtain⟨o,es,ep,ho,r⟩:=hm
    exact⟨o,es,ep,kp _ o (eG a1) (eG f1) ho,r⟩
   .by_cases hb:b=s.heap.objs.size
    .subst hb
     rw[jf]at q
     cases q
     refine⟨?_,[Value.int (i:Int) s.toks,u],.cons ⟨_,rfl⟩ (.cons ru .nil),_,(g2.2 _ DE).trans o3,rfl,0,rfl⟩;show 2<=aI;rw[gM];decide
    .rw[jB hb]at q
     refine (I.hok b z q).stay (fun c v du q'=>?_) (fun c q'=>by rw[jB (jp q' nY)];exact q') fun c ys q'=>by rw[jB (jp q' nY)];exact q'
     rcases du with rfl | du
     .exact kp c v (ne c z q).1 (ne c z q).2 q'
     .exact kp c v (ne c _ du).1 (ne c _ du).2 q'
  refine⟨.ref s.heap.objs.size,_,I1,rfl,⟨_,x,nY,fun ys hy=>by rw[I.list_inj hy hq];exact hx,rfl,rfl⟩,⟨⟨_,g1⟩,?_⟩,fun b hb=>?_⟩
  .obtain⟨o,z1,z2,z3⟩:=o2
   exact⟨o,(g2.2 it (eG tH)).trans z1,z2,z3⟩
  .rcases bG.mp hb with rfl | hb
   .rw[jB (eG DE)];exact a0
   .rw[aN.mp hb]
    have:it≠s.heap.objs.size:=by
     obtain⟨o,z1,_⟩:=de;exact nt it o z1
    rw[jB this];exact f0
 done:=by
  intro X hP hw hK hc i ae s σ H E I hf st hg;subst hP hw hK;obtain⟨xs,hq,hx⟩:=hg;obtain⟨⟨gZ,hE⟩,de⟩:=st;obtain⟨its,rv,p,hz⟩:=I.list hq;obtain⟨f0,f1,f2,f3,f4,f5⟩:=hf it (by simp);have hl:=rv.length;exact wpAny_pyNext_enum_end (I.ok.hd hc) hE de p.isList (by simp;omega) fun h' eb=>⟨rfl,I.turned (t':=s.toks) (fun b o hb e=>eb b o hb e) f0 f1 f3 f4 f5⟩
 self:=fun _ _ _ _ _ st h=>by
  obtain⟨⟨gZ,hE⟩,_⟩:=st;exact M5 hE h
section
variable {rm:List aj}{x1:Nat}{tp:Pos}
def jhP(K:aw)(ta:TA):TI:=fun σ H R=>ta σ H fun vs H1=>∃l,vs=[.ref l]/\(∃xs,SqL K H1 l xs)/\R (Ite K l) H1
theorem jgy{a:aj}{ta:TA}{p pos:Pos}(hg:Gl X "enumerate")(hm:X.mg "enumerate" = none)(ha:PA X [a] ta)(hs:cj [a] X.env=[(false,eval a X.env)]:=by rfl):PI X (.Tuple rm x1 tp) (.Call (.Name "enumerate" p) [a] [] pos) (jhP X.K ta):=by
 intro ae s σ H R I h;refine Call_ (YI I hg hm jay (FD (thn (ha pos ae s σ H _ I h) fun us s1 hM=>?_) hs rfl));obtain⟨vs,H1,I1,r1,q1⟩:=hM;obtain⟨l,e,⟨xs,hq⟩,q⟩:=q1;subst e;obtain⟨u,rfl,rx⟩:=yU r1
 cases rx
 obtain⟨its,rv,pl,hz⟩:=I1.list hq;refine call_enumerate_list pl.isList fun h' g1 g2 g3 g4=>?_
 refine M5 (s:={ s1 with heap:=h' }) g1 ?_;have I2:Inv X ae σ H1 { s1 with heap:=h' }:=I1.kept (t':=s1.toks) g4;refine⟨s1.heap.objs.size+1,[s1.heap.objs.size+1,s1.heap.objs.size],_,_,_,rfl,I2,jde l _ _ (Nat.succ_ne_self _),⟨⟨_,g1⟩,g2⟩,fun b hb=>?_,q⟩;rcases bG.mp hb with rfl | hb
 .exact I1.fpOk (dw _) (I1.hok.fresh (dw _))
 .rw[aN.mp hb]
  exact I1.fpOk (aD _) (I1.hok.fresh (aD _))
theorem YS{l:ad}{xs:List V}{g:TG}{tb:TS}{D:Ends}(Pv:Nat->St->Hp->Prop)(h0:Pv 0 σ H)(hl:∀i σ H,i<=xs.length->Pv i σ H->SqL K H l xs)
  (hs:∀i y σ H t,xs[i]?=some y->Pv i σ H->H t=none->g (.ref t) σ (upd H t (.tup [.int i,y])) fun σ2 H2=>tb { D with nx:=Pv (i+1),ct:=Pv (i+1),bk:=D.nx } σ2 H2) (hd:∀σ H,Pv xs.length σ H->D.nx σ H) :
  ∃W:Nat->Nat->St->Hp->Prop,(∃m,W 0 m σ H)/\∀i m σ H,W i m σ H->
   ((Ite K l).stop i H/\D.nx σ H)\/((Ite K l).go i H/\∃N:St->Hp->Prop,(∀σ' H',N σ' H'->∃m',m' < m/\W (i+1) m' σ' H')/\∀x H',(Ite K l).yld i H x H'->g x σ H' fun σ2 H2=>tb { D with nx:=N,ct:=N,bk:=D.nx } σ2 H2):=by
 refine⟨fun i m σ H=>m=xs.length - i/\i<=xs.length/\Pv i σ H,⟨xs.length,by simp,bT _,h0⟩,?_⟩
 rintro i m σ H ⟨rfl,hi,p⟩
 have q:=hl i σ H hi p
 by_cases aP:i < xs.length
 .refine .inr ⟨⟨xs,xs[i],q,by simp[aP]⟩,Pv (i+1),fun σ' H' p'=>⟨xs.length - (i+1),by omega,rfl,aP,p'⟩,fun x H' y=>?_⟩
  obtain⟨t,z,ht,hz,rfl,rfl⟩:=y
  exact hs i z σ H t (hz xs q) p ht
 .have:i=xs.length:=by omega
  subst this
  exact .inl ⟨⟨xs,q,aD _⟩,hd σ H p⟩
end
end L2
namespace PySem
open AutoSeq1 (wpAny_loadPart')
end PySem
namespace L2
open PySem PySem.Spec PyProof.Rows
open PySem PySem.Spec PyProof.Rows PySem.W
mutual
def dEq:D->D->Bool
 | .int i,.int j=>i == j
 | .str x,.str y=>x == y
 | .tup a,.tup b=>dEqL a b
 | _,_=>false
def dEqL:List D->List D->Bool
 | [],[]=>true
 | a :: as,b :: bs=>dEq a b && dEqL as bs
 | _,_=>false
end
mutual
theorem kI:∀{a b:D},dEq a b=true↔a=b
 | .int i,.int j=>by unfold dEq;rw[beq_iff_eq];exact⟨(fun h=>by rw[h]),(fun h=>by injection h)⟩
 | .str i,.str j=>by unfold dEq;rw[beq_iff_eq];exact⟨(fun h=>by rw[h]),(fun h=>by injection h)⟩
 | .tup a,.tup b=>by unfold dEq;rw[dEqL_iff];exact⟨(fun h=>by rw[h]),(fun h=>by injection h)⟩
 | .int i,.str j=>by unfold dEq;exact⟨(fun h=>by cases h),(fun h=>by cases h)⟩
 | .int i,.tup j=>by unfold dEq;exact⟨(fun h=>by cases h),(fun h=>by cases h)⟩
 | .str i,.int j=>by unfold dEq;exact⟨(fun h=>by cases h),(fun h=>by cases h)⟩
 | .str i,.tup j=>by unfold dEq;exact⟨(fun h=>by cases h),(fun h=>by cases h)⟩
 | .tup i,.int j=>by unfold dEq;exact⟨(fun h=>by cases h),(fun h=>by cases h)⟩
 | .tup i,.str j=>by unfold dEq;exact⟨(fun h=>by cases h),(fun h=>by cases h)⟩
theorem dEqL_iff:∀{a b:List D},dEqL a b=true↔a=b
 | [],[]=>by unfold dEqL;exact⟨(fun _=>rfl),(fun _=>rfl)⟩
 | a :: as,b :: bs=>by
  unfold dEqL;rw[i4,kI,dEqL_iff];exact⟨(fun h=>by rw[h.1,h.2]),(fun h=>by injection h with h1 h2;exact⟨h1,h2⟩)⟩
 | [],b :: bs=>by unfold dEqL;exact⟨(fun h=>by cases h),(fun h=>by cases h)⟩
 | a :: as,[]=>by unfold dEqL;exact⟨(fun h=>by cases h),(fun h=>by cases h)⟩
end
instance:DecidableEq D:=fun a b=>if h:dEq a b=true then isTrue (kI.mp h) else isFalse fun e=>h (kI.mpr e)
theorem jcS(a b:D):dEq a b=decide (a=b):=by
 apply nC.mpr;rw[kI,decide_eq_true_iff]
theorem YU(a b:List D):dEqL a b=decide (a=b):=by
 apply nC.mpr;rw[dEqL_iff,decide_eq_true_iff]
mutual
theorem Kj{H:Hp}:∀{d d':D} {v:V},Held H d v->Held H d' v->d=d'
 | .int i,.int j,v,h,h'=>by unfold Held at h h';subst h;injection h' with h';rw[h']
 | .str i,.str j,v,h,h'=>by unfold Held at h h';subst h;injection h' with h';rw[h']
 | .tup a,.tup b,v,h,h'=>by
  unfold Held at h h';obtain⟨p,xs,rfl,e,h⟩:=h;obtain⟨p',xs',e0,e',h'⟩:=h';injection e0 with e0;subst e0;rw[e]at e';injection e' with e';injection e' with e';subst e';rw[heldL_inj h h']
 | .int i,.str j,v,h,h'=>by unfold Held at h h';subst h;cases h'
 | .int i,.tup j,v,h,h'=>by unfold Held at h h';subst h;obtain⟨p,xs,e,_⟩:=h';cases e
 | .str i,.int j,v,h,h'=>by unfold Held at h h';subst h;cases h'
 | .str i,.tup j,v,h,h'=>by unfold Held at h h';subst h;obtain⟨p,xs,e,_⟩:=h';cases e
 | .tup i,.int j,v,h,h'=>by unfold Held at h h';subst h';obtain⟨p,xs,e,_⟩:=h;cases e
 | .tup i,.str j,v,h,h'=>by unfold Held at h h';subst h';obtain⟨p,xs,e,_⟩:=h;cases e
theorem heldL_inj{H:Hp}:∀{d d':List D} {v:List V},HeldL H d v->HeldL H d' v->d=d'
 | [],[],_,_,_=>rfl
 | a :: as,b :: bs,v,h,h'=>by
  unfold HeldL at h h';obtain⟨u,r,rfl,h1,h2⟩:=h;obtain⟨u',r',e,cv,eh⟩:=h';injection e with e1 e2;subst e1 e2;rw[Kj h1 cv,heldL_inj h2 eh]
 | [],b :: bs,v,h,h'=>by unfold HeldL at h h';subst h;obtain⟨u',r',e,_⟩:=h';cases e
 | a :: as,[],v,h,h'=>by unfold HeldL at h h';subst h';obtain⟨u',r',e,_⟩:=h;cases e
end
theorem Jd:∀(a b:List D),((cB (min a.length b.length)).all (fun j=>dEq (a.getD j (.int 0)) (b.getD j (.int 0))) && a.length == b.length)=dEqL a b:=by
 intro a b;apply nC.mpr;rw[dEqL_iff,i4,F_,beq_iff_eq];constructor
 .rintro⟨h1,h2⟩
  apply List.ext_getElem h2;intro j hj eQ;have:=h1 j (PV.mpr (by omega));rw[kI]at this;simpa[hj,eQ]using this
 .rintro rfl
  exact⟨fun j _=>kI.mpr rfl,rfl⟩
variable {X:Cx}{H:Hp}
section
variable {ae:List (ad×Obj)}{σ:St}{s:ai}
theorem jcO(I:Inv X ae σ H s):∀(n:Nat) (A:aS) (d d':D) (x y:V) (u v:ag),d.depth<=n->A.units+n < cLine->Held H d x->Held H d' y->RelV x u->RelV y v->rL A s u v (dEq d d'):=by
 intro n;induction n with
 | zero=>
  intro A d d' x y u v hd hA hx hy ru rv;have gJ:A.units < cLine:=by omega
  cases d with
  | int i=>
   unfold Held at hx;subst hx;obtain⟨t,rfl⟩:=ru
   cases d' with
   | int j=>
    unfold Held at hy;subst hy;obtain⟨t',rfl⟩:=rv;unfold dEq;exact On i t j t'
   | str j=>
    unfold Held at hy;subst hy;obtain⟨t',rfl⟩:=rv;unfold dEq;exact Fd i t j t'
   | tup ds=>
    unfold Held at hy;obtain⟨b,ys,rfl,hb,_⟩:=hy
    cases rv
    obtain⟨its,_,tb,_⟩:=I.tuple (SqT.of hb);unfold dEq;exact Om i t (show s.heap.IsTuple b its.toArray from tb) gJ
  | str i=>
   unfold Held at hx;subst hx;obtain⟨t,rfl⟩:=ru
   cases d' with
   | int j=>
    unfold Held at hy;subst hy;obtain⟨t',rfl⟩:=rv;unfold dEq;exact Fc i t j t'
   | str j=>
    unfold Held at hy;subst hy;obtain⟨t',rfl⟩:=rv;unfold dEq;exact Oi i t j t'
   | tup ds=>
    unfold Held at hy;obtain⟨b,ys,rfl,hb,_⟩:=hy
    cases rv
    obtain⟨its,_,tb,_⟩:=I.tuple (SqT.of hb);unfold dEq;exact Oh i t (show s.heap.IsTuple b its.toArray from tb) gJ
  | tup ds=>unfold D.depth at hd;omega
 | succ n ih=>
  intro A d d' x y u v hd hA hx hy ru rv;have gJ:A.units < cLine:=by omega
  cases d with
  | int i=>exact ih A (.int i) d' x y u v (by unfold D.depth;omega) (by omega) hx hy ru rv
  | str z=>exact ih A (.str z) d' x y u v (by unfold D.depth;omega) (by omega) hx hy ru rv
  | tup ds=>
   have pC:=hx;unfold Held at hx;obtain⟨a,xs,rfl,ha,ci⟩:=hx
   cases ru
   obtain⟨its,dX,ta,_⟩:=I.tuple (SqT.of ha)
   cases d' with
   | int j=>
    unfold Held at hy;subst hy;obtain⟨t',rfl⟩:=rv;unfold dEq;exact Og j t' (show s.heap.IsTuple a its.toArray from ta) gJ
   | str j=>
    unfold Held at hy;subst hy;obtain⟨t',rfl⟩:=rv;unfold dEq;exact Of j t' (show s.heap.IsTuple a its.toArray from ta) gJ
   | tup aO=>
    have xa:=hy;unfold Held at hy;obtain⟨b,ys,rfl,hb,cx⟩:=hy
    cases rv
    by_cases iH:a=b
    .subst iH
     rw[kI.mpr (Kj pC xa)];exact Oj _
    .obtain⟨bF,fh,tb,_⟩:=I.tuple (SqT.of hb)
     refine Ol iH ?_;have l1:=ci.length;have l2:=cx.length;have l3:=dX.length;have l4:=fh.length;have key:=Fb (A:=A) (s:=s) (e:=fun j=>dEq (ds.getD j (.int 0)) (aO.getD j (.int 0))) (show s.heap.IsTuple a its.toArray from ta) (show s.heap.IsTuple b bF.toArray from tb) (by omega) (fun j h1 h2=>by
      have hj:j < ds.length:=by
       have:j < its.length:=by simpa using h1
       omega
      have eQ:j < aO.length:=by
       have:j < bF.length:=by simpa using h2
       omega
      have ej:ds[j]?=some ds[j]:=aK hj;obtain⟨x',cp,gx⟩:=ci.get ej;obtain⟨y',fE,gy⟩:=cx.get (aK eQ);obtain⟨u',pH,wa⟩:=dX.get cp;obtain⟨v',mm,v_⟩:=fh.get fE;have eu:its.toArray[j]=u':=by
       have:=(bL.mp pH).2;simpa using this
      have ev:bF.toArray[j]=v':=by
       have:=(bL.mp mm).2;simpa using this
      rw[eu,ev];unfold D.depth at hd;have g1:ds.getD j (.int 0)=ds[j]:=by simp[hj]
      have g2:aO.getD j (.int 0)=aO[j]:=by simp[eQ]
      rw[g1,g2];exact ih A.in1 ds[j] aO[j] x' y' u' v' (by have:=D.depthL_get ej;omega) (by show A.units+1+n < cLine;omega) gx gy wa v_)
     have e:((cB (min its.toArray.size bF.toArray.size)).all (fun j=>dEq (ds.getD j (.int 0)) (aO.getD j (.int 0))) && its.toArray.size == bF.toArray.size)=dEqL ds aO:=by
      have e1:its.toArray.size=ds.length:=by simp;omega
      have e2:bF.toArray.size=aO.length:=by simp;omega
      rw[e1,e2];exact Jd ds aO
     rw[e]at key;unfold dEq;exact key
theorem JG(I:Inv X ae σ H s){n:Nat}{A:aS}{ds aO:List D}{xs ys:List V}{its bF:List ag}(hd:D.depthL ds<=n)(hA:A.units+n < cLine)(ci:HeldL H ds xs)(cx:HeldL H aO ys)(dX:Vals xs its)(fh:Vals ys bF):
  ∀j (h1:j < its.toArray.size) (h2:j < bF.toArray.size),rL A s its.toArray[j] bF.toArray[j] (dEq (ds.getD j (.int 0)) (aO.getD j (.int 0))):=fun j h1 h2=>by
 have l1:=ci.length
 have l2:=cx.length
 have l3:=dX.length
 have l4:=fh.length
 have hj:j < ds.length:=by
  have:j < its.length:=by simpa using h1
  omega
 have eQ:j < aO.length:=by
  have:j < bF.length:=by simpa using h2
  omega
 have ej:ds[j]?=some ds[j]:=aK hj
 obtain⟨x',cp,gx⟩:=ci.get ej
 obtain⟨y',fE,gy⟩:=cx.get (aK eQ)
 obtain⟨u',pH,wa⟩:=dX.get cp
 obtain⟨v',mm,v_⟩:=fh.get fE
 have eu:its.toArray[j]=u':=by
  have:=(bL.mp pH).2;simpa using this
 have ev:bF.toArray[j]=v':=by
  have:=(bL.mp mm).2;simpa using this
 rw[eu,ev]
 have g1:ds.getD j (.int 0)=ds[j]:=by simp[hj]
 have g2:aO.getD j (.int 0)=aO[j]:=by simp[eQ]
 rw[g1,g2]
 exact jcO I n A ds[j] aO[j] x' y' u' v' (by have:=D.depthL_get ej;omega) hA gx gy wa v_
theorem jjO(n:Nat)(hu:X.A.units+1+n < cLine):OpR X (fe .Eq) (fun x y H Q=>∃a b xs ys ds aO,x=.ref a/\y=.ref b/\H a=some (.tup xs)/\H b=some (.tup ys)/\D.depthL ds<=n/\HeldL H ds xs/\HeldL H aO ys/\Q (.bl (decide (ds=aO))) H):=by
 intro ae s σ H x y v u Q I rx ry h;obtain⟨a,b,xs,ys,ds,aO,rfl,rfl,ha,hb,hd,ci,cx,q⟩:=h
 cases rx;cases ry
 obtain⟨its,dX,ta,_⟩:=I.tuple (SqT.of ha);obtain⟨bF,fh,tb,_⟩:=I.tuple (SqT.of hb);have l1:=ci.length;have l2:=cx.length;have l3:=dX.length;have l4:=fh.length;have key:=Fb (A:=X.A) (s:=s) (e:=fun j=>dEq (ds.getD j (.int 0)) (aO.getD j (.int 0))) (show s.heap.IsTuple a its.toArray from ta) (show s.heap.IsTuple b bF.toArray from tb) (by omega) (JG I (A:=X.A.in1) hd (by show X.A.units+1+n < cLine;exact hu) ci cx dX fh);have e:((cB (min its.toArray.size bF.toArray.size)).all (fun j=>dEq (ds.getD j (.int 0)) (aO.getD j (.int 0))) && its.toArray.size == bF.toArray.size)=decide (ds=aO):=by
  have e1:its.toArray.size=ds.length:=by simp;omega
  have e2:bF.toArray.size=aO.length:=by simp;omega
  rw[e1,e2,Jd,YU]
 rw[e]at key;exact key X.prog X.w X.xe _ ⟨.bl (decide (ds=aO)),H,I,rfl,q⟩
theorem yI(n:Nat)(hu:X.A.units+1+n < cLine):OpR X (fe .NotEq) (fun x y H Q=>∃a b xs ys ds aO,x=.ref a/\y=.ref b/\H a=some (.tup xs)/\H b=some (.tup ys)/\D.depthL ds<=n/\HeldL H ds xs/\HeldL H aO ys/\Q (.bl (!decide (ds=aO))) H):=by
 intro ae s σ H x y v u Q I rx ry h;obtain⟨a,b,xs,ys,ds,aO,rfl,rfl,ha,hb,hd,ci,cx,q⟩:=h
 cases rx;cases ry
 obtain⟨its,dX,ta,_⟩:=I.tuple (SqT.of ha);obtain⟨bF,fh,tb,_⟩:=I.tuple (SqT.of hb);have l1:=ci.length;have l2:=cx.length;have l3:=dX.length;have l4:=fh.length;have key:=SeqAt.RcNeAt.tuples (A:=X.A) (s:=s) (e:=fun j=>dEq (ds.getD j (.int 0)) (aO.getD j (.int 0))) (show s.heap.IsTuple a its.toArray from ta) (show s.heap.IsTuple b bF.toArray from tb) (by omega) (JG I (A:=X.A.in1) hd (by show X.A.units+1+n < cLine;exact hu) ci cx dX fh);have e:(!((cB (min its.toArray.size bF.toArray.size)).all (fun j=>dEq (ds.getD j (.int 0)) (aO.getD j (.int 0))) && its.toArray.size == bF.toArray.size))=!decide (ds=aO):=by
  have e1:its.toArray.size=ds.length:=by simp;omega
  have e2:bF.toArray.size=aO.length:=by simp;omega
  rw[e1,e2,Jd,YU]
 rw[e]at key;exact key X.prog X.w X.xe _ ⟨.bl (!decide (ds=aO)),H,I,rfl,q⟩
theorem jhs{ds aO:List D}(h:ds.length=aO.length):((cB ds.length).all fun j=>dEq (ds.getD j (.int 0)) (aO.getD j (.int 0)))=decide (ds=aO):=by
 have:=Jd ds aO;rw[<- h,Nat.min_self,beq_self_eq_true,Bool.and_true,YU]at this;exact this
theorem jaa(n:Nat)(hu:X.A.units+1+n < cLine):OpR X (fe .Eq) (fun x y H Q=>∃a b xs ys ds aO,x=.ref a/\y=.ref b/\H a=some (.lst xs)/\H b=some (.lst ys)/\D.depthL ds<=n/\HeldL H ds xs/\HeldL H aO ys/\Q (.bl (decide (ds=aO))) H):=by
 intro ae s σ H x y v u Q I rx ry h;obtain⟨a,b,xs,ys,ds,aO,rfl,rfl,ha,hb,hd,ci,cx,q⟩:=h
 cases rx;cases ry
 obtain⟨its,dX,ta,_⟩:=I.list (SqL.of ha);obtain⟨bF,fh,tb,_⟩:=I.list (SqL.of hb);have l1:=ci.length;have l2:=cx.length;have l3:=dX.length;have l4:=fh.length;have e1:its.toArray.size=ds.length:=by simp;omega
 have e2:bF.toArray.size=aO.length:=by simp;omega
 by_cases hl:ds.length=aO.length
 .have key:=Oe.lists (A:=X.A) (s:=s) (e:=fun j=>dEq (ds.getD j (.int 0)) (aO.getD j (.int 0))) ta.isList tb.isList (by rw[e1,e2,hl]) (by omega) (JG I (A:=X.A.in1) hd (by show X.A.units+1+n < cLine;exact hu) ci cx dX fh)
  rw[e1,jhs hl]at key;exact key X.prog X.w X.xe _ ⟨.bl (decide (ds=aO)),H,I,rfl,q⟩
 .have key:=Oe.lists_lengths (A:=X.A) (s:=s) ta.isList tb.isList (by rw[e1,e2];simpa using hl) (by omega)
  rw[Qv (fun z=>hl (by rw[z]))]at q;exact key X.prog X.w X.xe _ ⟨.bl false,H,I,rfl,q⟩
end
def LikeV(K:aw)(H:Hp):Nat->V->V->Prop
 | 0,x,y=>(∃i,x=.int i/\y=.int i)\/∃z,x=.str z/\y=.str z
 | n+1,x,y=>LikeV K H n x y\/
  (∃a b xs ys,x=.ref a/\y=.ref b/\SqT K H a xs/\SqT K H b ys/\xs.length=ys.length/\∀(j:Nat) x' y',xs[j]?=some x'->ys[j]?=some y'->LikeV K H n x' y')\/
  ∃a b xs ys,x=.ref a/\y=.ref b/\SqL K H a xs/\SqL K H b ys/\xs.length=ys.length/\∀(j:Nat) x' y',xs[j]?=some x'->ys[j]?=some y'->LikeV K H n x' y'
theorem LikeV.up{K:aw}{n m:Nat}{x y:V}(h:LikeV K H n x y)(hm:n<=m):LikeV K H m x y:=by
 induction hm with
 | refl=>exact h
 | step _ ih=>exact .inl ih
theorem jaR:∀{ys:List Str} {its:List ag},Vals (ys.map V.str) its->StrsAre its ys
 | [],_,r=>by cases r;exact .nil
 | y :: ys,_,r=>by
  cases r with
  | cons h t=>
   obtain⟨k,rfl⟩:=h;exact .cons y k (jaR t)
theorem jg8:MtR X "str.join" (fun x xs H Q=>∃(o6:Str) (l:ad) (ys:List Str),x=.str o6/\xs=[.ref l]/\SqL X.K H l (ys.map V.str)/\(ys.map (·.length)).sum+ys.length * o6.length<=16777216/\Q (.str (nc o6 ys)) H):=by
 intro ae s σ H x xs v us Q I rx rs h;obtain⟨o6,l,ys,rfl,rfl,hl,hb,q⟩:=h;obtain⟨t,rfl⟩:=rx;obtain⟨u,rfl,ru⟩:=yU rs
 cases ru
 obtain⟨its,rv,pl,hz⟩:=I.list hl;refine join_list pl.isList (by simpa using jaR rv) hb fun t' k=>?_
 exact⟨.str (nc o6 ys),H,I.kept (t':=k) fun b o e=>e,⟨t',rfl⟩,q⟩
abbrev kE(v d:ad):HO:=.ext fun h=>h.IsValuesView v d
theorem jdz:MtR X "dict.values" (fun x xs H Q=>∃(d:ad) (kvs:List (Key×V)),x=.ref d/\xs=[]/\H d=some (.dK kvs)/\∀v,H v=none->Q (.ref v) (upd H v (kE v d))):=by
 intro ae s σ H x xs v us Q I rx rs h;obtain⟨d,kvs,rfl,rfl,hd,q⟩:=h
 cases rx
 cases rs
 obtain⟨hz,lo,vs,bR,hD⟩:=I.hok d _ hd;refine oI A_ hD.typeIs OE (OI _) (NG (j6 X.prog X.w) d lo) ⟨⟨vs,hD⟩,?_⟩;refine⟨.ref s.heap.objs.size,_,I.laid (t':=s.toks) (fun b u e=>b_ _ e) (aD _) (show ObjOk X.prog X.w _ _ _ (kE s.heap.objs.size d) from⟨⟨_,dg _ rfl,rfl,rfl⟩,⟨_,dg _ rfl⟩,fun h1 h2 x k=>?_⟩),rfl,q _ (I.hok.fresh (aD _))⟩;obtain⟨o,e1,e2⟩:=x;exact⟨o,k o e1,e2⟩
variable {kvs:List (Key×V)}
theorem jhf{vs:List (Key×ag)}(h:KV kvs vs):Vals (kvs.map (·.2)) (vs.map (·.2)):=by
 unfold KV at h;induction h with
 | nil=>exact .nil
 | cons h1 _ ih=>exact .cons h1.2 ih
def Itv(a:ad)(o:Obj)(kvs:List (Key×V)):It:=
 ⟨fun i H=>H a=some (.frz o (.dK kvs))/\i < kvs.length,fun i H x H'=>H'=H/\∃k,kvs[i]?=some (k,x),fun i H=>H a=some (.frz o (.dK kvs))/\kvs.length<=i⟩
theorem jhg{vs:List (Key×ag)}(h:KV kvs vs):∀{i:Nat} {k:Key} {v:V},kvs[i]?=some (k,v)->∃u,vs[i]?=some (k,u)/\RelV v u:=by
 unfold KV at h;induction h with
 | nil=>intro i k v e;simp at e
 | @cons p q r t h1 _ ih=>
  intro i k v e
  cases i with
  | zero=>
   have:p=(k,v):=by simpa using e
   subst this;obtain⟨q1,q2⟩:=q;have e1:k=q1:=h1.1;subst e1;exact⟨q2,by simp,h1.2⟩
  | succ j=>exact ih (by simpa using e)
theorem Zf{P:aE}{w:aB}{K:aw}{tg:aj}(a it:ad){o:Obj}{eB:Array iW}{ep:Nat}(hd:o.data=.dict eB ep):Turn P w K tg (Itv a o kvs) [it] it (fun i h=>h.IsValIter it a i kvs.length ep) where
 mem:=by simp
 obj:=fun i h st b hb=>by
  have e:b=it:=by simpa using hb
  subst e;obtain⟨o,e,c,d⟩:=st;exact⟨o,e,fun v z=>by rw[d]at z;cases z⟩
 keep:=fun i h h' st k=>by
  obtain⟨o,e,c,d⟩:=st;exact⟨o,k it (by simp) o e,c,d⟩
 item:=by
  intro X hP hw hK hc i ae s σ H E I hf st hg;subst hP hw hK;obtain⟨hq,hi⟩:=hg;obtain⟨vs,rv,da⟩:=Ye hd (I.hok a _ hq);obtain⟨kv,h_⟩:∃kv,kvs[i]?=some kv:=⟨_,aK hi⟩
  obtain⟨k,v'⟩:=kv;obtain⟨u,hu,ru⟩:=jhg rv h_;obtain⟨f0,f1,f2,f3,f4,f5⟩:=hf it (by simp);have hl:kvs.length=vs.length:=rv.length;rw[hl]at st;refine wpAny_pyNext_values_item st da hu fun h' aA sb=>?_
  have I1:Inv X ae σ H { s with heap:=h' }:=I.turned (t':=s.toks) (fun b o hb e=>(sb.2 b hb).trans e) f0 f1 f3 f4 f5;obtain⟨ob,e,c,d⟩:=id aA;rw[<- hl]at aA;exact⟨u,rfl,jba (s:={ s with heap:=h' }) e c d (by decide) ⟨v',H,I1,ru,⟨rfl,k,h_⟩,aA,fun b hb=>(hf b hb).1⟩⟩
 done:=by
  intro X hP hw hK hc i ae s σ H E I hf st hg;subst hP hw hK;obtain⟨hq,hi⟩:=hg;obtain⟨vs,rv,da⟩:=Ye hd (I.hok a _ hq);obtain⟨f0,f1,f2,f3,f4,f5⟩:=hf it (by simp);have hl:kvs.length=vs.length:=rv.length;rw[hl]at st;exact wpAny_pyNext_values_end (I.ok.hd hc) st da (Bx (by omega)) fun h' eb=>⟨rfl,I.turned (t':=s.toks) (fun b o hb e=>eb b o hb e) f0 f1 f3 f4 f5⟩
 self:=fun _ _ _ _ _ st h=>wpAny_pyIter_valiter st h
section
variable {tg:aj}
def jhN(tl:TE):TI:=fun σ H R=>tl σ H fun x H1=>∃v a kvs,x=.ref v/\H1 v=some (kE v a)/\H1 a=some (.dK kvs)/\∀o,R (Itv a o kvs) (upd H1 a (.frz o (.dK kvs)))
theorem jgw{l:aj}{tl:TE}(hl:PE X l tl):PI X tg l (jhN tl):=by
 intro ae s σ H R I h;refine thn (hl ae s σ H _ I h) fun v s1 hM=>?_
 obtain⟨x,H1,I1,r1,q1⟩:=hM;obtain⟨vw,a,kvs,e,hv,hq,q⟩:=q1;subst e
 cases r1
 obtain⟨pF,_⟩:=I1.hok vw _ hv;have ok:=I1.hok a _ hq;obtain⟨z1,z2,vs,rv,o,es,ep,e1,c1,c2,c3⟩:=id ok;have da:s1.heap.DictAt (j6 X.prog X.w) a vs ep:=⟨o,es,e1,c1,c2,c3⟩
 have I2:Inv X ae σ (upd H1 a (.frz o (.dK kvs))) s1:=I1.relabel hq (fun _ z=>by cases z) (fun _ z=>by cases z) (fun o' z' e'=>by
  have:=I1.base.frzs a o' z' e';rw[hq]at this
  cases this) (fun _ z=>by cases z) ⟨e1,ok.stay (fun _ _ _ q=>q) (fun c q=>by rw[jB (Jc q hq (by intro z;cases z))];exact q) fun c xs q=>by rw[jB (Jc q hq (by intro z;cases z))];exact q⟩
 refine M0 pF da ?_;have bu:kvs.length=vs.length:=rv.length;refine⟨s1.heap.objs.size,[s1.heap.objs.size],_,_,_,rfl,I2.kept (t':=s1.toks) fun b o e=>b_ _ e,Zf a _ c2,⟨_,dg _ rfl,rfl,by rw[<- bu];rfl⟩,fun b hb=>?_,q o⟩;have e:b=s1.heap.objs.size:=by simpa using hb
 subst e;exact I2.fpOk (aD _) (I2.hok.fresh (aD _))
theorem jfF{a:ad}{o:Obj}{g:TG}{tb:TS}{D:Ends}{σ:St}(Pv:Nat->St->Hp->Prop)(h0:Pv 0 σ H)(hl:∀i σ H,i<=kvs.length->Pv i σ H->H a=some (.frz o (.dK kvs)))
  (hs:∀i k v σ H,kvs[i]?=some (k,v)->Pv i σ H->g v σ H fun σ2 H2=>tb { D with nx:=Pv (i+1),ct:=Pv (i+1),bk:=D.nx } σ2 H2) (hd:∀σ H,Pv kvs.length σ H->D.nx σ H) :
  ∃W:Nat->Nat->St->Hp->Prop,(∃m,W 0 m σ H)/\∀i m σ H,W i m σ H->
   ((Itv a o kvs).stop i H/\D.nx σ H)\/((Itv a o kvs).go i H/\∃N:St->Hp->Prop,(∀σ' H',N σ' H'->∃m',m' < m/\W (i+1) m' σ' H')/\∀x H',(Itv a o kvs).yld i H x H'->g x σ H' fun σ2 H2=>tb { D with nx:=N,ct:=N,bk:=D.nx } σ2 H2):=by
 refine⟨fun i m σ H=>m=kvs.length - i/\i<=kvs.length/\Pv i σ H,⟨kvs.length,by simp,bT _,h0⟩,?_⟩
 rintro i m σ H ⟨rfl,hi,p⟩
 have q:=hl i σ H hi p
 by_cases aP:i < kvs.length
 .refine .inr ⟨⟨q,aP⟩,Pv (i+1),fun σ' H' p'=>⟨kvs.length - (i+1),by omega,rfl,aP,p'⟩,fun x H' y=>?_⟩
  obtain⟨rfl,k,e⟩:=y
  exact hs i k x σ _ e p
 .have:i=kvs.length:=by omega
  subst this
  exact .inl ⟨⟨q,aD _⟩,hd σ H p⟩
end
def jhF(t:TS):TS:=fun D σ H=>∃J:St->Hp->Prop,t { D with nx:=J } σ H/\∀σ' H',J σ' H'->D.nx σ' H'
theorem jgq{st:aF}{t:TS}(h:PS X st t):PS X st (jhF t):=by
 intro ae s σ H D I q;obtain⟨J,q,k⟩:=q;refine thn (h ae s σ H _ I q) fun f s1 q1=>?_
 cases f with
 | next=>
  obtain⟨σ',H',I',e⟩:=q1;exact⟨σ',H',I',k _ _ e⟩
 | cont=>exact q1
 | brk=>exact q1
 | ret v=>exact q1
end L2
namespace LW
open PySem L2
mutual
theorem jcM{H H':Hp}(e:∀b xs,H b=some (.tup xs)->H' b=some (.tup xs)):∀{d:D} {v:V},Held H d v->Held H' d v
 | .int i,v,h=>by unfold Held at h |-;exact h
 | .str x,v,h=>by unfold Held at h |-;exact h
 | .tup ds,v,h=>by
  unfold Held at h |-;obtain⟨a,xs,e1,e2,e3⟩:=h;exact⟨a,xs,e1,e a _ e2,heldL_tk e e3⟩
theorem heldL_tk{H H':Hp}(e:∀b xs,H b=some (.tup xs)->H' b=some (.tup xs)):∀{ds:List D} {vs:List V},HeldL H ds vs->HeldL H' ds vs
 | [],vs,h=>by unfold HeldL at h |-;exact h
 | d :: ds,vs,h=>by
  unfold HeldL at h |-;obtain⟨v,r,e1,e2,e3⟩:=h;exact⟨v,r,e1,jcM e e2,heldL_tk e e3⟩
end
def TK(G G':Hp):Prop:=∀b xs,G b=some (.tup xs)->G' b=some (.tup xs)
variable {G:Hp}
theorem TK.trans{G1 G2:Hp}(h:TK G G1)(h':TK G1 G2):TK G G2:=fun b xs e=>h' b xs (h b xs e)
variable {G':Hp}
theorem TK.same(h:Same G G'):TK G G':=fun b xs e=>h b _ e
theorem TK.heldL(h:TK G G'){d:List D}{v:List V}(x:HeldL G d v):HeldL G' d v:=heldL_tk h x
theorem TK.held(h:TK G G'){d:D}{v:V}(x:Held G d v):Held G' d v:=jcM h x
end LW
namespace L2
open PySem PySem.Spec PyProof.Rows PySem.W
abbrev RD:=St->Hp->D->Prop
abbrev RDL:=St->Hp->List D->Prop
def tHD(R:RD):TE:=fun σ H Q=>∃d,R σ H d/\∀v H',Same H H'->Held H' d v->Q v H'
def jjP(R:RDL):TA:=fun σ H Q=>∃ds,R σ H ds/\∀vs H',Same H H'->HeldL H' ds vs->Q vs H'
structure PD(X:Cx)(e:aj)(R:RD):Prop where
 h:PE X e (tHD R)
 m:∀{σ H H' d},Same H H'->R σ H d->R σ H' d
structure PDs(X:Cx)(es:List aj)(R:RDL):Prop where
 h:PA X es (jjP R)
 m:∀{σ H H' d},Same H H'->R σ H d->R σ H' d
def rV(i:Nat):RD:=fun σ H d=>∃v,σ[i]?=some (some v)/\Held H d v
def rK(c:D):RD:=fun _ _ d=>d=c
def rN:RDL:=fun _ _ ds=>ds=[]
def rC(R:RD)(Rs:RDL):RDL:=fun σ H ds=>∃d r,ds=d :: r/\R σ H d/\Rs σ H r
def rT(R:RDL):RD:=fun σ H d=>∃ds,d=.tup ds/\ds.length<=1000/\R σ H ds
def rE(t:TE):RD:=fun σ H d=>∀G,Same H G->∀Q:VK,(∀v G',Same G G'->Held G' d v->Q v G')->t σ G Q
variable {X:Cx}{e:aj}
theorem PE.weak{t t':TE}(h:PE X e t)(w:∀σ H Q,t' σ H Q->t σ H Q):PE X e t':=fun ae s σ H Q I q=>h ae s σ H Q I (w σ H Q q)
variable {es:List aj}
theorem PA.weak{t t':TA}(h:PA X es t)(w:∀σ H Q,t' σ H Q->t σ H Q):PA X es t':=fun pos ae s σ H Q I q=>h pos ae s σ H Q I (w σ H Q q)
theorem fQ{a b c}(h:FnScope a b c:=by exact⟨rfl,rfl,rfl,by decide +kernel,rfl,by decide +kernel,by decide +kernel⟩):FnScope a b c:=h
theorem oQ{p q:Prop}(h:p\/q:=by first|exact .inl rfl|exact .inr rfl):p\/q:=h
variable {σ σ':St}{H:Hp}
theorem jjY{i:Nat}{v:V}{Q:St->Hp->Prop}(e:σ.set i (some v)=σ')(h:Q σ' H):qq i v σ H Q:=by subst e;exact h
theorem gQ{i:Nat}{v:V}{Q:St->Hp->Prop}(h:Q σ' H)(e:σ.set i (some v)=σ':=by simp only[List.set_cons_succ,List.set_cons_zero];rfl):qq i v σ H Q:=jjY e h
theorem jH{t:TS}{D:Ends}(e:σ=σ')(h:t D σ' H):t D σ H:=by subst e;exact h
theorem jj{p:ad}(h:H p=none)(o:HO):Same H (upd H p o):=fun b u q=>by rw[jB (jp q h)];exact q
theorem yh(H:Hp):Same H H:=fun _ _ e=>e
section
theorem kB(i:Nat){x:Str}{pos:Pos}(hN:X.N[i]?=some x:=by rfl)(hv:Vis X.env.scope x:=by first | exact Or.inl rfl | exact Or.inr (Or.inl rfl) | exact Or.inr (Or.inr rfl))(hd:(x == ("__debug__" : Str))=false:=by decide)
  (fG:(x == ("__classdict__" : Str))=false:=by decide):PD X (.Name x pos) (rV i):=
 ⟨(jeT hN hv hd fG).weak fun σ H Q ⟨d,⟨v,e,hv⟩,q⟩=>⟨v,e,q v H (yh H) hv⟩,fun s ⟨v,e,h⟩=>⟨v,e,h.mono s⟩⟩
theorem zn{i j pos}:PD X (.Constant (.int i) j pos) (rK (.int i)):=⟨jeY.weak fun σ H Q ⟨d,e,q⟩=>by cases e;exact q _ H (yh H) jP,fun _ h=>h⟩
theorem qb{x j pos}:PD X (.Constant (.str x) j pos) (rK (.str x)):=⟨jeV.weak fun σ H Q ⟨d,e,q⟩=>by cases e;exact q _ H (yh H) jF,fun _ h=>h⟩
theorem jjt{t:TE}(h:PE X e t):PD X e (rE t):=⟨h.weak fun σ H Q ⟨d,r,q⟩=>r H (yh H) Q q,fun s r G sG Q q=>r G (s.trans sG) Q q⟩
theorem jR:PDs X [] rN:=⟨je5.weak fun σ H Q ⟨d,e,q⟩=>by cases e;exact q _ H (yh H) jl,fun _ h=>h⟩
theorem jt{R:RD}{Rs:RDL}(h:PD X e R)(hs:PDs X es Rs)(hp:zG e=true:=by rfl):PDs X (e :: es) (rC R Rs):=by
 refine⟨(jju h.h hs.h hp).weak fun σ H Q ⟨ds,⟨d,r,e,h1,h2⟩,q⟩=>?_,fun s ⟨d,r,e,h1,h2⟩=>⟨d,r,e,h.m s h1,hs.m s h2⟩⟩;subst e;exact⟨d,h1,fun v H1 s1 hv=>⟨r,hs.m s1 h2,fun vs H2 s2 pE=>q _ _ (s1.trans s2) (jc (hv.mono s2) pE)⟩⟩
theorem j9{R:RDL}{x1}{pos:Pos}(h:PDs X es R):PD X (.Tuple es x1 pos) (rT R):=by
 refine⟨(jeU h.h).weak fun σ H Q ⟨d,⟨ds,e,hl,hr⟩,q⟩=>?_,fun s ⟨ds,e,hl,hr⟩=>⟨ds,e,hl,h.m s hr⟩⟩;subst e;refine⟨ds,hr,fun vs H1 s1 pE=>⟨?_,fun p hp=>?_⟩⟩
 .rw[<- pE.length]
  exact c6 (jJ hl)
 .exact q _ _ (s1.trans (jj hp _)) (jK jf (pE.mono (jj hp _)))
structure QA(X:Cx)(es:List aj)(t:TA):Prop where
 h:PA X es t
structure QE(X:Cx)(e:aj)(t:TE):Prop where
 h:PE X e t
end
end L2
namespace PySem
open Sem (wp)
namespace F
end F
end PySem
namespace L2
open PySem PySem.Spec PyProof.Rows PySem.W
structure MkFn(P:aE)(w:aB)(K:aw)(mg:Str->Option ag)(base:ar)(k:Nat)(x:Str)(C:ad)(ps:List Str)(sp:Sp):Prop where
 ex:∃f fd,Mk K C f/\FnOk P w K mg base CX0 k f fd ps sp/\Binds K fd ps []/\mg x=some (.ref C)
end L2
namespace HT
open PySem PySem.Spec PyProof.Rows L2
open PySem.SeqAt
open PySem.AutoSeq1 (wpAny_loadPart')
open PySem.MeetsSeq PySem.MeetsSeq2 PySem.MeetsSeq3
end HT
namespace L2
open PySem PySem.Spec PyProof.Rows
variable {X:Cx}{X:Cx}{pos:Pos}
theorem jgD{X:Cx}{K:aw}{e:aj}{f:Str}{pos:Pos}{ta:TE}(h:PE X e ta)(hb:gj e f X.env (eval e X.env)=eval e X.env)(hK:X.K=K:=by rfl):PE X (.Attribute e f pos) (jf9 K ta f):=by subst hK;exact jeZ h hb
structure QT(X:Cx)(e:aj)(t:TT):Prop where
 h:PT X e t
structure QW(X:Cx)(e:aj)(t:TT):Prop where
 h:PW X e t
structure QG(X:Cx)(e:aj)(t:TG):Prop where
 h:PG X e t
structure QGs(X:Cx)(e:List aj)(t:TGs):Prop where
 h:PGs X e t
structure QI(X:Cx)(tg e:aj)(t:TI):Prop where
 h:PI X tg e t
structure QO(X:Cx)(e:Option aj)(t:TO):Prop where
 h:PO X e t
structure QC(X:Cx)(op:CmpOp)(a b:aj)(t:TE):Prop where
 h:PC X op a b t
structure QTs(X:Cx)(e:List aj)(t:TT):Prop where
 h:PTs X e t
structure QPs(X:Cx)(pos:Pos)(ks:List (Option aj))(vs:List aj)(t:List (TE×TE)):Prop where
 h:PPs X pos ks vs t
variable {e:aj}
theorem QW.pt{X:Cx}{t:TT}(h:QW X e t):QT X e t:=⟨h.h.pt⟩
theorem jck{X:Cx}{t:TE}(h:QE X e t)(he:∀fB,isTrue e X.env fB=(do let v <- fB;lK e.pos;holding [v] (truthy v)):=by intro _;rfl):QT X e (tB t):=⟨jih h.h he⟩
variable {x:Str}
theorem zpv{X:Cx}(i:Nat){pos:Pos}(h1:(Cx.N X)[i]?=some x:=by rfl)(h2:Vis (oN (Cx.env X)) x:=by first | exact Or.inl rfl | exact Or.inr (Or.inl rfl) | exact Or.inr (Or.inr rfl))(h3:(x == bE "__debug__")=false:=by decide)(h4:(x == bE "__classdict__")=false:=by decide):QE X (Expr.Name x pos) (jdh i):=
 ⟨@pv _ i _ _ h1 h2 h3 h4⟩
variable {j:Nat}
theorem je{X:Cx}{i:Int}{pos:Pos}:QE X (Expr.Constant (Const.int i) j pos) (tC (V.int i)):=
 ⟨@jeY _ _ _ _⟩
theorem jq{X:Cx}{pos:Pos}:QE X (Expr.Constant (Const.str x) j pos) (tC (V.str x)):=
 ⟨@jeV _ _ _ _⟩
theorem yB{X:Cx}{b:Bool}{pos:Pos}:QE X (Expr.Constant (Const.bool b) j pos) (tC (V.bl b)):=
 ⟨@jjs _ _ _ _⟩
theorem jaF{X:Cx}{v:V}{u:ag}{pos:Pos}(h1:Gl X x)(h2:Cx.mg X x=none)(h3:dE x=some u)(h4:RelV v u)(h5:x≠bE "__name__":=by decide)(h6:(x == bE "__debug__")=false:=by decide):QE X (Expr.Name x pos) (tC v):=
 ⟨@jgJ _ _ _ _ _ h1 h2 h3 h4 h5 h6⟩
variable {a b:aj}{ta tb:TE}{r:R2}
theorem js{X:Cx}{pos:Pos}{op:Operator}(h1:OpR X (iQ op) r)(h2:QE X a ta)(h3:QE X b tb):QE X (aj.BinOp a op b pos) (tOp r ta tb):=
 ⟨@jjm _ _ _ _ _ _ _ _ h1 h2.h h3.h⟩
theorem ZM{X:Cx}{pos:Pos}{op:UnaryOp}{r:V->Hp->VK->Prop}(h1:UnR X (unaryOp op) r)(h2:QE X a ta):QE X (Expr.UnaryOp op a pos) (tUn r ta):=
 ⟨@jjl _ _ _ _ _ _ h1 h2.h⟩
variable {op:CmpOp}
theorem zC{X:Cx}{pos:Pos}(h1:OpR X (fe op) r)(h2:QE X a ta)(h3:QE X b tb)(h4:iR op b=false):QE X (Expr.Compare a [op] [b] pos) (tOp r ta tb):=
 ⟨@jgH _ _ _ _ _ _ _ _ h1 h2.h h3.h h4⟩
theorem jfY{X:Cx}{pos:Pos}{op:BoolOp}{t:TE}(h1:QE X a t):QE X (Expr.BoolOp op [a] pos) t:=
 ⟨@jir _ _ _ _ _ h1.h⟩
theorem jf1{X:Cx}{pos:Pos}{zF:List aj}(h1:QE X a ta)(h2:QE X (Expr.BoolOp BoolOp.And (b :: zF) pos) tb):QE X (Expr.BoolOp BoolOp.And (a :: b :: zF) pos) (jhI ta tb):=
 ⟨@jiu _ _ _ _ _ _ _ h1.h h2.h⟩
variable {te:TE}
theorem qP{X:Cx}{lo hi:Option aj}{tl th:TO}{pos p2:Pos}{r:V->Option Int->Option Int->Hp->VK->Prop}(h1:SlR X r)(h2:QE X e te)(h3:QO X lo tl)(h4:QO X hi th):QE X (Expr.Subscript e (aj.Slice lo hi none p2) pos) (tSl r te tl th):=
 ⟨@jeW _ _ _ _ _ _ _ _ _ _ h1 h2.h h3.h h4.h⟩
variable {o i:aj}{td ty:TE}
theorem jO{X:Cx}{pos:Pos}(h1:Bg (Cx.A X)+1 < cLine)(h2:QE X o td)(h3:QE X i ty)(h4:ji1 i):QE X (Expr.Subscript o i pos) (jhH td ty):=
 ⟨@jgF _ _ _ _ _ _ h1 h2.h h3.h h4⟩
theorem jr{X:Cx}{pos:Pos}(h1:IxR X r)(h2:QE X a ta)(h3:QE X b tb)(h4:jcY b):QE X (Expr.Subscript a b pos) (tOp r ta tb):=
 ⟨@jjn _ _ _ _ _ _ _ h1 h2.h h3.h h4⟩
variable {es:List aj}
theorem jG{X:Cx}{t:TA}{pos:Pos}(h1:QA X es t):QE X (aj.List es pos) (jjb t):=
 ⟨@jis _ _ _ _ h1.h⟩
theorem jQ{X:Cx}{t:TA}{pos:Pos}{x1:Nat}(h1:QA X es t):QE X (Expr.Tuple es x1 pos) (ji7 t):=
 ⟨@jeU _ _ _ _ _ h1.h⟩
theorem k9{X:Cx}{pos:Pos}:QE X (Expr.Dict [] [] pos) jer:=
 ⟨@je2 _ _⟩
theorem jd6{X:Cx}{pos:Pos}{keys:List (Option aj)}{iw:List aj}{eL:List (TE×TE)}(h1:QPs X pos keys iw eL)(h2:(List.all keys fun x=>Pn x)=true)(h3:nA keys=nA iw)(h4:keys≠[])(h5:nA keys<=15):QE X (Expr.Dict keys iw pos) (jhG eL):=
 ⟨@jgE _ _ _ _ _ h1.h h2 h3 h4 h5⟩
theorem jd2{X:Cx}{pos:Pos}:QPs X pos [] [] []:=
 ⟨@jgt _ _⟩
variable {tv:TE}
theorem zr{X:Cx}{pos:Pos}{k v:aj}{ks:List (Option aj)}{vs:List aj}{tk:TE}{eL:List (TE×TE)}(h1:QE X k tk)(h2:QE X v tv)(h3:QPs X pos ks vs eL):QPs X pos (some k :: ks) (v :: vs) ((tk,tv) :: eL):=
 ⟨@jeO _ _ _ _ _ _ _ _ _ h1.h h2.h h3.h⟩
variable {tg iter:aj}{wi:TI}{g:TG}
theorem yd{X:Cx}{scope:cM}{bv:aj}{ifs:List aj}{pos:Pos}{tt:TT}(own:List Str)(fr:List Nat)(h1:Cx.calm X=true)(h2:CompOk X scope fr)(h3:QI (Cx.nox X) tg iter wi)(h4:∀(s:ai) (H:Hp) (ex:List ad),QG (blk (Cx.nox X) scope own fr s H ex) tg g/\QTs (blk (Cx.nox X) scope own fr s H ex) ifs tt/\QE (blk (Cx.nox X) scope own fr s H ex) bv te)(h5:∀(x:ag),fI iter (Cx.env X) x=pure x:=by intro _;rfl):QE (Cx.nox X) (Expr.ListComp bv [{ target:=tg,iter:=iter,ifs:=ifs,is_async:=0 }] scope pos) (Zh own fr wi g tt te):=
 ⟨@jgG _ _ _ _ _ _ _ _ _ _ _ own fr h1 h2 h3.h (fun s H ex=>⟨(h4 s H ex).1.h,(h4 s H ex).2.1.h,(h4 s H ex).2.2.h⟩) h5⟩
variable {f:Str}
theorem jY{X:Cx}{pos:Pos}(h1:QE X e ta)(h2:gj e f (Cx.env X) (eval e (Cx.env X))=eval e (Cx.env X)):QE X (Expr.Attribute e f pos) (jf9 (Cx.K X) ta f):=
 ⟨@jeZ _ _ _ _ _ h1.h h2⟩
variable {p:Pos}
theorem jg{X:Cx}{k k':Nat}{ps:List Str}{sp:Sp}{t:TA}{pos:Pos}(h1:Fn (Cx.prog X) (Cx.w X) (Cx.K X) (Cx.mg X) (Cx.base X) k x ps sp)(h2:Room k' (Cx.A X))(h3:QA X (e :: es) t)(h4:k<=k':=by decide)(h5:Gl X x:=by rfl)(h6:(x == bE "__debug__")=false:=by decide)(h7:List.all (e :: es) zG=true:=by rfl):QE X (Expr.Call (Expr.Name x p) (e :: es) [] pos) (jeu sp [] E0 t):=
 ⟨@jjo _ _ _ _ _ _ _ _ _ _ _ h1 h2 h3.h h4 h5 h6 h7⟩
variable {id:String}
theorem zh{X:Cx}{pos:Pos}{t:TA}{r:List V->Hp->VK->Prop}(h1:zp X (Value.builtin id) r)(h2:Gl X x)(h3:Cx.mg X x=none)(h4:dE x=some (Value.builtin id))(h5:QA X (e :: es) t)(h6:List.all (e :: es) zG=true:=by rfl)(h7:x≠bE "__name__":=by decide)(h8:(x == bE "__debug__")=false:=by decide):QE X (Expr.Call (Expr.Name x p) (e :: es) [] pos) (tCB r t):=
 ⟨@jjq _ _ _ _ _ _ _ _ _ h1 h2 h3 h4 h5.h h6 h7 h8⟩
variable {T:String}
theorem yA{X:Cx}{pos:Pos}{t:TA}{r:List V->Hp->VK->Prop}(h1:zp X (Value.type T) r)(h2:Gl X x)(h3:Cx.mg X x=none)(h4:dE x=some (Value.type T))(h5:QA X (e :: es) t)(h6:List.all (e :: es) zG=true:=by rfl)(h7:x≠bE "__name__":=by decide)(h8:(x == bE "__debug__")=false:=by decide):QE X (Expr.Call (Expr.Name x p) (e :: es) [] pos) (tCB r t):=
 ⟨@jjp _ _ _ _ _ _ _ _ _ h1 h2 h3 h4 h5.h h6 h7 h8⟩
variable {cy bN:Pos}
theorem Jk{X:Cx}{f:aj}{tx:TE}(h1:Bg (Cx.A X)+1 < cLine)(h2:QE X o td)(h3:QE X e ty)(h4:QE X f tx)(h5:M2 X o (bE "get") cy e f bN):QE X (Expr.Call (Expr.Attribute o (bE "get") cy) [e,f] [] bN) (jes td ty tx):=
 ⟨@je3 _ _ _ _ _ _ _ _ _ h1 h2.h h3.h h4.h h5⟩
theorem km{X:Cx}{to:TE}{t:TA}{name:Str}{r:V->List V->Hp->VK->Prop}(h1:A5 T)(h2:Slot T name id)(h3:typeOf (Value.builtin id)=pure (Value.type "method_descriptor"))(h4:MtR X id r)(h5:QE X o to)(h6:QA X (e :: es) t)(h7:gj o name (Cx.env X) (eval o (Cx.env X))=eval o (Cx.env X):=by rfl)(h8:(((List.all (ff bN (cj (e :: es) (Cx.env X))) fun x=>!Prod.fst x) && List.all (AZ bN (AX [] (Cx.env X))) fun x=>Pn (Prod.fst x)) && decide ((nA (e :: es)+nA ([]:List Ou)+if List.isEmpty ([]:List Ou)=true then 0 else 1) < 30))=true:=by rfl)(h9:(Fi cy == lO bN)=true:=by rfl)(mP:cj (e :: es) (Cx.env X)=(false,eval e (Cx.env X)) :: cj es (Cx.env X):=by rfl)(Mb:(List.any (ff bN (cj es (Cx.env X))) fun x=>Prod.fst x)=false:=by rfl):QE X (Expr.Call (Expr.Attribute o name cy) (e :: es) [] bN) (tBM (Cx.K X) T r to t):=
 ⟨@jjr _ _ _ _ _ _ _ _ _ _ _ _ h1 h2 h3 h4 h5.h h6.h h7 h8 h9 mP Mb⟩
theorem jf0{X:Cx}{to:TE}{name:Str}{r:V->List V->Hp->VK->Prop}(h1:A5 T)(h2:Slot T name id)(h3:typeOf (Value.builtin id)=pure (Value.type "method_descriptor"))(h4:MtR X id r)(h5:QE X o to)(h6:gj o name (Cx.env X) (eval o (Cx.env X))=eval o (Cx.env X):=by rfl)(h7:(Fi cy == lO bN)=true:=by rfl):QE X (Expr.Call (Expr.Attribute o name cy) [] [] bN) (jje (Cx.K X) T r to):=
 ⟨@jit _ _ _ _ _ _ _ _ _ h1 h2 h3 h4 h5.h h6 h7⟩
variable {tA:TT}
theorem ZL{X:Cx}{pos:Pos}(h1:QT X a tA):QT X (Expr.UnaryOp UnaryOp.Not a pos) (jja tA):=
 ⟨@jii _ _ _ _ h1.h⟩
theorem jD{X:Cx}{pos:Pos}(h1:OpR X (fe op) r)(h2:QE X a ta)(h3:QE X b tb)(h4:iR op b=false):QT X (Expr.Compare a [op] [b] pos) (jhA (tOp r ta tb)):=
 ⟨@jgl _ _ _ _ _ _ _ _ h1 h2.h h3.h h4⟩
theorem jfX{X:Cx}{pos:Pos}{t:TE}(h1:QC X op a b t)(h2:iR op b=false:=by rfl):QT X (Expr.Compare a [op] [b] pos) (tB t):=
 ⟨@jij _ _ _ _ _ _ h1.h h2⟩
theorem ZK{X:Cx}{pos:Pos}{oW:TT}{zF:List aj}(h1:QT X a tA)(h2:QW X (Expr.BoolOp BoolOp.Or (b :: zF) pos) oW):QW X (Expr.BoolOp BoolOp.Or (a :: b :: zF) pos) (tOr tA oW):=
 ⟨@jjj _ _ _ _ _ _ _ h1.h h2.h⟩
theorem ZJ{X:Cx}{pos:Pos}(h1:QT X a tA):QW X (Expr.BoolOp BoolOp.Or [a] pos) tA:=
 ⟨@jid _ _ _ _ h1.h⟩
theorem yc{X:Cx}:QO X none jcs:=
 ⟨@jgv _⟩
theorem q0{X:Cx}(h1:QE X e te):QO X (some e) (jhC te):=
 ⟨@jgu _ _ _ h1.h⟩
theorem jbp{X:Cx}(h1:Bg (Cx.A X)+1 < cLine)(h2:QE X i ty)(h3:QE X o td):QC X CmpOp.NotIn i o (jct ty td):=
 ⟨@jdp _ _ _ _ _ h1 h2.h h3.h⟩
theorem yz{X:Cx}{ta:TA}{pos:Pos}(h1:Gl X (bE "range"))(h2:Cx.mg X (bE "range")=none)(h3:QA X [a] ta)(h4:cj [a] (Cx.env X)=[(false,eval a (Cx.env X))]:=by rfl):QI X tg (Expr.Call (Expr.Name (bE "range") p) [a] [] pos) (jhO ta):=
 ⟨@jdm _ _ _ _ _ _ h1 h2 h3.h h4⟩
variable {tl:TE}
theorem ke{X:Cx}{l:aj}(h1:QE X l tl):QI X tg l (Zz (Cx.K X) tl):=
 ⟨@jgx _ _ _ _ h1.h⟩
theorem Yj{X:Cx}{rm:List aj}{x1:Nat}{tp:Pos}{ta:TA}{pos:Pos}(h1:Gl X (bE "enumerate"))(h2:Cx.mg X (bE "enumerate")=none)(h3:QA X [a] ta)(h4:cj [a] (Cx.env X)=[(false,eval a (Cx.env X))]:=by rfl):QI X (Expr.Tuple rm x1 tp) (Expr.Call (Expr.Name (bE "enumerate") p) [a] [] pos) (jhP (Cx.K X) ta):=
 ⟨@jgy _ _ _ _ _ _ _ _ h1 h2 h3.h h4⟩
theorem jd4{X:Cx}{l:aj}(h1:QE X l tl):QI X tg l (jhQ tl):=
 ⟨@jgz _ _ _ _ h1.h⟩
variable {dL:Pos}
theorem jy{X:Cx}{pos:Pos}{i:Nat}(h1:fO (Cx.N X))(h2:(Cx.N X)[i]?=some x)(h3:L2.Loc (oN (Cx.env X)) x)(h4:QE X e te)(h5:iP e (some (Expr.Name x dL)) (lO pos) (Cx.env X)=pure false:=by rfl)(h6:Cx.fn X x=true\/iZ x (Fe (oN (Cx.env X)))=some NameKind.local:=by first | exact .inl rfl | exact .inr rfl | assumption):QS X (Stmt.Assign [Expr.Name x dL] e pos) (ZS te (qq i)):=
 ⟨@jik _ _ _ _ _ _ _ h1 h2 h3 h4.h h5 h6⟩
theorem yR{X:Cx}{scope:cM}{bv:aj}{ifs:List aj}{pos:Pos}{tt:TT}{i:Nat}{y:Str}{py oZ:Pos}(h1:fO (Cx.N X))(h2:(Cx.N X)[i]?=some y)(h3:L2.Loc (oN (Cx.env X)) y)(own:List Str)(fr:List Nat)(h4:Cx.calm X=true)(h5:CompOk X scope fr)(h6:QI (Cx.nox X) tg iter wi)(h7:∀(s:ai) (H:Hp) (ex:List ad),QG (blk (Cx.nox X) scope own fr s H ex) tg g/\QTs (blk (Cx.nox X) scope own fr s H ex) ifs tt/\QE (blk (Cx.nox X) scope own fr s H ex) bv te)(h8:∀(x:ag),fI iter (Cx.env X) x=pure x:=by intro _;rfl)(h9:iP (Expr.ListComp bv [{ target:=tg,iter:=iter,ifs:=ifs,is_async:=0 }] scope pos) (some (Expr.Name y py)) (lO oZ) (Cx.env X)=pure true:=by rfl)(mP:Cx.fn X y=true\/iZ y (Fe (oN (Cx.env X)))=some NameKind.local:=by first | exact .inl rfl | exact .inr rfl | assumption):QS (Cx.nox X) (Stmt.Assign [Expr.Name y py] (Expr.ListComp bv [{ target:=tg,iter:=iter,ifs:=ifs,is_async:=0 }] scope pos) oZ) (ZS (Zh own fr wi g tt te) (qq i)):=
 ⟨@jbH _ _ _ _ _ _ _ _ _ _ _ _ _ _ _ h1 h2 h3 own fr h4 h5 h6.h (fun s H ex=>⟨(h7 s H ex).1.h,(h7 s H ex).2.1.h,(h7 s H ex).2.2.h⟩) h8 h9 mP⟩
theorem kC{X:Cx}{value:aj}{pos:Pos}(h1:Bg (Cx.A X)+1 < cLine)(h2:QE X o td)(h3:QE X i ty)(h4:QE X value tv)(h5:iP value (some (Expr.Subscript o i dL)) (lO pos) (Cx.env X)=pure false):QS X (Stmt.Assign [Expr.Subscript o i dL] value pos) (jhJ td ty tv):=
 ⟨@jgs _ _ _ _ _ _ _ _ _ h1 h2.h h3.h h4.h h5⟩
theorem qT{X:Cx}{value:aj}{pos:Pos}(h1:QE X o ta)(h2:QE X value tv)(h3:iP value (some (Expr.Attribute o f dL)) (lO pos) (Cx.env X)=pure false):QS X (Stmt.Assign [Expr.Attribute o f dL] value pos) (jjg (Cx.K X) ta tv f):=
 ⟨@jio _ _ _ _ _ _ _ _ h1.h h2.h h3⟩
theorem zN{X:Cx}{pos:Pos}(h1:QE X e te)(h2:QG X tg g)(h3:AT [tg] e (lO pos) (Cx.env X)=pure false:=by rfl)(h4:AU [tg] e (Cx.env X)=pure none:=by rfl)(h5:Bw (fun x=>Prod.snd x) (il [tg] (Cx.env X))=[assign tg (Cx.env X)]:=by rfl):QS X (Stmt.Assign [tg] e pos) (ZS te g):=
 ⟨@jip _ _ _ _ _ _ h1.h h2.h h3 h4 h5⟩
theorem jC{X:Cx}{pos:Pos}(h1:QE X e te):QS X (aF.Return (some e) pos) (jh6 te):=
 ⟨@jil _ _ _ _ h1.h⟩
theorem jN{X:Cx}{t u:TS}{pos:Pos}{c:aj}{a b:List aF}{tc:TT}(h1:QT X c tc)(h2:QSs X a t)(h3:QSs X b u):QS X (aF.If c a b pos) (jjc tc t u):=
 ⟨@jjk _ _ _ _ _ _ _ _ h1.h h2.h h3.h⟩
theorem ky{X:Cx}{body:List aF}{tb:TS}{pos:Pos}(h1:PassesOwn (ao (Cx.prog X) (Cx.w X)) (Cx.A X) (Cx.env X) (Cx.xe X))(h2:Cx.calm X=true)(h3:QI X tg iter wi)(h4:QG X tg g)(h5:QSs X body tb)(h6:∀(x:ag),fI iter (Cx.env X) x=pure x:=by intro _;rfl):QS X (aF.For tg iter body [] pos) (jjd wi g tb):=
 ⟨@jin _ _ _ _ _ _ _ _ h1 h2 h3.h h4.h h5.h h6⟩
variable {st:aF}
theorem jaD{X:Cx}{t:TS}(h1:QS X st t):QS X st (jhz (Cx.H₀ X) t):=
 ⟨@jgo _ _ _ h1.h⟩
theorem jA{X:Cx}{pos:Pos}(h1:QE X e te)(h2:iP e none (lO pos) (Cx.env X)=pure false:=by rfl):QS X (aF.Expr e pos) (jep te):=
 ⟨@jgr _ _ _ _ h1.h h2⟩
theorem ju{X:Cx}{pos:Pos}{i:Nat}(h1:fO (Cx.N X))(h2:(Cx.N X)[i]?=some x)(h3:L2.Loc (oN (Cx.env X)) x)(h4:Cx.fn X x=true\/iZ x (Fe (oN (Cx.env X)))=some NameKind.local:=by first | exact .inl rfl | exact .inr rfl | assumption):QG X (Expr.Name x pos) (qq i):=
 ⟨@jgB _ _ _ _ h1 h2 h3 h4⟩
theorem kH{X:Cx}{pos:Pos}{k:Nat}{t:TGs}{n:Nat}(h1:Cx.calm X=true)(h2:QGs X es t)(h3:nA (il es (Cx.env X))=n:=by rfl)(h4:List.findIdx? (fun x=>Prod.fst x) (il es (Cx.env X))=none:=by rfl):QG X (Expr.Tuple es k pos) (jjF (Cx.K X) n t):=
 ⟨@jiq _ _ _ _ _ _ h1 h2.h h3 h4⟩
theorem kr{X:Cx}:QGs X [] jjG:=
 ⟨@jgA _⟩
theorem jz{X:Cx}{t:TG}{u:TGs}(h1:QG X e t)(h2:QGs X es u)(h3:Bw (fun x=>Prod.snd x) (il (e :: es) (Cx.env X))=assign e (Cx.env X) :: Bw (fun x=>Prod.snd x) (il es (Cx.env X)):=by rfl):QGs X (e :: es) (jhU t u):=
 ⟨@jeS _ _ _ _ _ h1.h h2.h h3⟩
theorem jL{X:Cx}:QSs X [] jhD:=
 ⟨@jgn _⟩
theorem ji{X:Cx}{t:TS}(h1:QS X st t):QSs X [st] t:=
 ⟨@jgm _ _ _ h1.h⟩
theorem jd{X:Cx}{zF:List aF}{t u:TS}(h1:QS X st t)(h2:QSs X zF u):QSs X (st :: zF) (jU t u):=
 ⟨@jeJ _ _ _ _ _ h1.h h2.h⟩
theorem zx{X:Cx}:QTs X [] ZR:=
 ⟨@jgk _⟩
theorem Yh{X:Cx}{c:aj}{t:TT}(h1:QT X c t):QTs X [c] t:=
 ⟨@jgj _ _ _ h1.h⟩
theorem jb{X:Cx}:QA X [] jeo:=
 ⟨@je5 _⟩
theorem ja{X:Cx}{t:TA}(h1:QE X e te)(h2:QA X es t)(h3:zG e=true:=by rfl):QA X (e :: es) (jcu te t):=
 ⟨@jju _ _ _ _ _ h1.h h2.h h3⟩
theorem jd3{X:Cx}{l:aj}(h1:QE X l tl):QI X tg l (jhN tl):=
 ⟨@jgw _ _ _ _ h1.h⟩
theorem jd5{X:Cx}{K:aw}{pos:Pos}(h1:QE X e ta)(h2:gj e f (Cx.env X) (eval e (Cx.env X))=eval e (Cx.env X))(h3:Cx.K X=K:=by rfl):QE X (Expr.Attribute e f pos) (jf9 K ta f):=
 ⟨@jgD _ _ _ _ _ _ h1.h h2 h3⟩
theorem jaE{X:Cx}{v:V}{u:ag}{pos:Pos}(h1:Gl X x)(h2:Cx.mg X x=some u)(h3:RelV v u)(h4:(x == bE "__debug__")=false:=by decide):QE X (Expr.Name x pos) (tC v):=
 ⟨@jgC _ _ _ _ _ h1 h2 h3 h4⟩
theorem Yi{X:Cx}{t:TS}(h:QS X st t):QS X st (jhF t):=⟨jgq h.h⟩
theorem Fun.okZ{P:aE}{w:aB}{K:aw}{mg:Str->Option ag}{base:ar}{bX:Str}{f:ad}{fd:aL}{N ps:List Str}{k:Nat}{sp:Sp}(F:Fun K x bX st f fd)(S:FnScope N ps (jm st))(pY:∀(ax:ag) (A:aS) (outer:List Env) (s:ai) (H:Hp) (vs:List V) (Q:VK) (E:XK),Room k (A.deeper (envOfC bX (jm st) s.heap.objs.size f ax))->sp vs H Q E->
   ∃t,QSs (kx CX0 P w K mg base N bX (jm st) f ax A outer s H E).nox (qY st) t/\t { nx:=fun _ H'=>Q .non H',rt:=Q } (start N vs) H)(len:∀vs H Q E,sp vs H Q E->vs.length=ps.length:=by intro _ _ _ _ h;first|(cases h;subst_vars;rfl)|repeat first|(obtain⟨rfl,_⟩:=h;rfl)|(obtain⟨_,h⟩:=h)):FnOk P w K mg base CX0 (k+1) f fd ps sp:=
 F.ok S len fun ax A outer s H vs Q E hr h=>let ⟨t,a,b⟩:=pY ax A outer s H vs Q E hr h;⟨t,a.h,b⟩
theorem zD{X:Cx}{t:TE}(h:QE X e t):PD X e (rE t):=jjt h.h
theorem zpd{X:Cx}{R:RD}(h:PD X e R):QE X e (tHD R):=⟨h.h⟩
open PySem PySem.Spec PyProof.Rows PySem.W
def SetAtS(prog:aE)(w:aB)(h:ar)(a:ad)(led:Bool)(σ:List Str):Prop:=∃(es:Array (Int×ag)) (ep:Nat) (t:lN),
 h.get? a=some { cls:=.type "set",dict:=none,data:=.set es ep t }/\ElemsOf (Nq prog w) es.toList/\(∃l:List Str,StrsAre (es.toList.map (·.2)) l/\l.Perm σ)/\es.size < scanBound/\t.fits es.size=true/\TabOk led t
end L2
namespace PySem
end PySem
namespace L2
open PySem PySem.Spec PySem.Calls PyProof.Rows PySem.W
end L2
namespace PySem
end PySem
namespace L2
open PySem PySem.Spec PySem.Calls PyProof.Rows PySem.W
def jdX(m:Nat):Prop:=m=7\/m=15\/m=31\/m=63
structure SmS(prog:aE)(w:aB)(h:ar)(a:ad)(led:Bool)(σ:List Str)(es:Array (Int×ag))(ep:Nat)(t:lN):Prop where
 o:h.get? a=some (jeB es ep t)
 el:ElemsOf (Nq prog w) es.toList
 pm:∃l:List Str,StrsAre (es.toList.map (·.2)) l/\l.Perm σ
 fit:t.fits es.size=true
 tab:TabOk led t
 sm:jdX t.mask
theorem SmS.len{prog:aE}{w:aB}{h:ar}{a:ad}{led:Bool}{σ:List Str}{es:Array (Int×ag)}{ep:Nat}{t:lN}(x:SmS prog w h a led σ es ep t):es.size=σ.length:=by
 obtain⟨l,h1,h2⟩:=x.pm;have:=h1.length;rw[az,dy]at this;rw[this,h2.length_eq]
end L2
namespace PySem.F
end PySem.F
namespace L2
open PySem PySem.Spec PyProof.Rows PySem.W
section
variable {prog:aE}{w:aB}{A:aS}{E:ag->ai->Prop}{s:ai}
theorem SetAtS.type{h:ar}{a:ad}{led:Bool}{σ:List Str}(x:SetAtS prog w h a led σ):∃es ep t,h.get? a=some (jeB es ep t)/\t.fits es.size=true:=by
 obtain⟨es,ep,t,e,_,_,_,hf,_⟩:=x;exact⟨es,ep,t,e,hf⟩
end
end L2
namespace LW
open PySem L2
theorem Yv{n:Nat}(h:n<=1000):n<=aI:=c6 (jJ h)
theorem sm{n:Nat}(h:n.ble 1000=true):n<=aI:=Yv (bw h)
inductive Tm where
 | is (x:Str) | at_ (r x:Str) (d:Int)
inductive Bd where
 | is (x:Str) | row (r:Str)
inductive Cl where
 | least (a b:Tm) (c:Int) | each (t:Str) (td:Int) (u:Str) (ud:Int) (r way:Str) (b:Bd) (c:Int) | rise (t:Str) (td:Int) (u:Str) (ud:Int) (r:Str)
inductive Sm where
 | set (x:Str) (t:Tm) (c:Int) | put (r x:Str) (d:Int) (t:Tm) (c:Int) | any (x:Str) | claim (C:Cl) | call (x f:Str) (as rs:List Str)
def plD(x:Str)(d:Int):D:=.tup [.str x,.int d]
def Tm.toD:Tm->D
 | .is x=>.tup [.str "is",.str x]
 | .at_ r x d=>.tup [.str "at",.str r,plD x d]
def Bd.toD:Bd->D
 | .is x=>.tup [.str "is",.str x]
 | .row r=>.tup [.str "row",.str r]
def Cl.toD:Cl->D
 | .least a b c=>.tup [.str "least",a.toD,b.toD,.int c]
 | .each t td u ud r way b c=>.tup [.str "each",plD t td,plD u ud,.str r,.str way,b.toD,.int c]
 | .rise t td u ud r=>.tup [.str "rise",plD t td,plD u ud,.str r]
def Tm.ns:Tm->List Str
 | .is x=>[x]
 | .at_ _ x _=>[x]
def Cl.ns:Cl->List Str
 | .least a b _=>a.ns++b.ns
 | .each t _ u _ _ _ b _=>[t,u]++(match b with | .is x=>[x] | .row _=>[])
 | .rise t _ u _ _=>[t,u]
def Sm.ns:Sm->List Str
 | .set x t _=>[x]++t.ns
 | .put _ x _ t _=>[x]++t.ns
 | .any x=>[x]
 | .claim C=>C.ns
 | .call x _ as _=>[x]++as
def Sm.few:Sm->Prop
 | .call _ _ as rs=>as.length<=6/\rs.length<=6
 | _=>True
variable {H:Hp}{v:V}
theorem kg{x:Int}(h:Held H (.int x) v):v=.int x:=by unfold Held at h;exact h
theorem jE{ds:List D}(h:Held H (.tup ds) v):∃a xs,v=.ref a/\H a=some (.tup xs)/\HeldL H ds xs:=by unfold Held at h;exact h
theorem jM{vs:List V}(h:HeldL H [] vs):vs=[]:=by unfold HeldL at h;exact h
theorem jo{d:D}{ds:List D}{vs:List V}(h:HeldL H (d :: ds) vs):∃v r,vs=v :: r/\Held H d v/\HeldL H ds r:=by unfold HeldL at h;exact h
variable {x:Str}
theorem jx(h:Held H (.str x) v):v=.str x:=by unfold Held at h;exact h
variable {d:Int}
theorem JC(h:Held H (plD x d) v):∃a,v=.ref a/\H a=some (.tup [.str x,.int d]):=by
 obtain⟨a,xs,rfl,ha,h1⟩:=jE h;obtain⟨v1,r1,rfl,e1,h2⟩:=jo h1;obtain⟨v2,r2,rfl,e2,h3⟩:=jo h2
 cases jM h3
 cases jx e1
 cases kg e2
 exact⟨a,rfl,ha⟩
variable {y:Str}
theorem jaS(h:Held H (.tup [.str x,.str y]) v):∃a,v=.ref a/\H a=some (.tup [.str x,.str y]):=by
 obtain⟨a,xs,rfl,ha,h1⟩:=jE h;obtain⟨v1,r1,rfl,e1,h2⟩:=jo h1;obtain⟨v2,r2,rfl,e2,h3⟩:=jo h2
 cases jM h3
 cases jx e1
 cases jx e2
 exact⟨a,rfl,ha⟩
theorem zv{a b:Tm}{c:Int}(h:Held H (Cl.least a b c).toD v):∃t va vb,v=.ref t/\H t=some (.tup [.str "least",va,vb,.int c])/\Held H a.toD va/\Held H b.toD vb:=by
 obtain⟨t,xs,rfl,ht,h1⟩:=jE h;obtain⟨v1,r1,rfl,e1,h2⟩:=jo h1;obtain⟨v2,r2,rfl,e2,h3⟩:=jo h2;obtain⟨v3,r3,rfl,e3,h4⟩:=jo h3;obtain⟨v4,r4,rfl,e4,h5⟩:=jo h4
 cases jM h5
 cases jx e1
 cases kg e4
 exact⟨t,v2,v3,rfl,ht,e2,e3⟩
theorem J7{r:Str}{e:Int}(h:Held H (Cl.rise x d y e r).toD v):∃t a b,v=.ref t/\H t=some (.tup [.str "rise",.ref a,.ref b,.str r])/\H a=some (.tup [.str x,.int d])/\H b=some (.tup [.str y,.int e]):=by
 obtain⟨t,xs,rfl,ht,h1⟩:=jE h;obtain⟨v1,r1,rfl,e1,h2⟩:=jo h1;obtain⟨v2,r2,rfl,e2,h3⟩:=jo h2;obtain⟨v3,r3,rfl,e3,h4⟩:=jo h3;obtain⟨v4,r4,rfl,e4,h5⟩:=jo h4
 cases jM h5
 cases jx e1
 cases jx e4
 obtain⟨a,rfl,ha⟩:=JC e2;obtain⟨b,rfl,hb⟩:=JC e3;exact⟨t,a,b,rfl,ht,ha,hb⟩
theorem yt{r way:Str}{e c:Int}{bd:Bd}(h:Held H (Cl.each x d y e r way bd c).toD v):∃t a b vb,v=.ref t/\H t=some (.tup [.str "each",.ref a,.ref b,.str r,.str way,.ref vb,.int c])/\H a=some (.tup [.str x,.int d])/\H b=some (.tup [.str y,.int e])/\H vb=some (.tup (match bd with | .is z=>[.str "is",.str z] | .row z=>[.str "row",.str z])):=by
 obtain⟨t,xs,rfl,ht,h1⟩:=jE h;obtain⟨v1,r1,rfl,e1,h2⟩:=jo h1;obtain⟨v2,r2,rfl,e2,h3⟩:=jo h2;obtain⟨v3,r3,rfl,e3,h4⟩:=jo h3;obtain⟨v4,r4,rfl,e4,h5⟩:=jo h4;obtain⟨v5,r5,rfl,e5,h6⟩:=jo h5;obtain⟨v6,r6,rfl,e6,h7⟩:=jo h6;obtain⟨v7,r7,rfl,e7,h8⟩:=jo h7
 cases jM h8
 cases jx e1
 cases jx e4
 cases jx e5
 cases kg e7
 obtain⟨a,rfl,ha⟩:=JC e2;obtain⟨b,rfl,hb⟩:=JC e3
 cases bd with
 | is z=>
  obtain⟨vb,rfl,xf⟩:=jaS e6;exact⟨t,a,b,vb,rfl,ht,ha,hb,xf⟩
 | row z=>
  obtain⟨vb,rfl,xf⟩:=jaS e6;exact⟨t,a,b,vb,rfl,ht,ha,hb,xf⟩
end LW
namespace L2
open PySem
def ltS(a b:Str):Bool:=decide (a.cps.toList < b.cps.toList)
mutual
def dLt:D->D->Bool
 | .int a,.int b=>decide (a < b)
 | .int _,.str _=>true
 | .int _,.tup _=>true
 | .str _,.int _=>false
 | .str a,.str b=>ltS a b
 | .str _,.tup _=>true
 | .tup _,.int _=>false
 | .tup _,.str _=>false
 | .tup a,.tup b=>dLtL a b
def dLtL:List D->List D->Bool
 | [],[]=>false
 | [],_ :: _=>true
 | _ :: _,[]=>false
 | x :: xs,y :: ys=>if dEq x y=true then dLtL xs ys else dLt x y
end
mutual
def Cmp:D->D->Prop
 | .int _,.int _=>True
 | .str _,.str _=>True
 | .tup a,.tup b=>CmpL a b
 | .int _,.str _=>False
 | .int _,.tup _=>False
 | .str _,.int _=>False
 | .str _,.tup _=>False
 | .tup _,.int _=>False
 | .tup _,.str _=>False
def CmpL:List D->List D->Prop
 | [],_=>True
 | _ :: _,[]=>True
 | x :: xs,y :: ys=>(dEq x y=true->CmpL xs ys)/\(dEq x y=false->Cmp x y)
end
theorem yx(x y:D)(xs ys:List D):dLtL (x :: xs) (y :: ys)=if dEq x y=true then dLtL xs ys else dLt x y:=by rw[dLtL]
theorem jhc(a:Str):ltS a a=false:=Qv (List.lt_irrefl _)
variable {a b:Str}
theorem jdA{c:Str}(h:ltS a b=true)(h':ltS b c=true):ltS a c=true:=Qu (List.lt_trans (Qt h) (Qt h'))
theorem jew(h:a.cps.toList=b.cps.toList):a=b:=by
 cases a;cases b
 congr 1;exact Qo.mp h
theorem jhb(h:ltS a b=false)(h':ltS b a=false):a=b:=jew (List.le_antisymm (PR.mp (of_decide_eq_false h')) (PR.mp (of_decide_eq_false h)))
mutual
theorem jat:∀a:D,dLt a a=false
 | .int a=>by unfold dLt;exact Qv (Qj a)
 | .str a=>by unfold dLt;exact jhc a
 | .tup a=>by unfold dLt;exact dLtL_irr a
theorem dLtL_irr:∀a:List D,dLtL a a=false
 | []=>by unfold dLtL;rfl
 | x :: xs=>by rw[yx,Qx (kI.mpr rfl)];exact dLtL_irr xs
end
mutual
theorem Ko:∀a b:D,dLt a b=false->dLt b a=false->a=b
 | .int a,.int b,h,h'=>by
  unfold dLt at h h';have:=of_decide_eq_false h;have:=of_decide_eq_false h';rw[show a=b by omega]
 | .str a,.str b,h,h'=>by unfold dLt at h h';rw[jhb h h']
 | .tup a,.tup b,h,h'=>by unfold dLt at h h';rw[dLtL_tot a b h h']
 | .int a,.str b,h,h'=>by unfold dLt at h;cases h
 | .int a,.tup b,h,h'=>by unfold dLt at h;cases h
 | .str a,.int b,h,h'=>by unfold dLt at h';cases h'
 | .str a,.tup b,h,h'=>by unfold dLt at h;cases h
 | .tup a,.int b,h,h'=>by unfold dLt at h';cases h'
 | .tup a,.str b,h,h'=>by unfold dLt at h';cases h'
theorem dLtL_tot:∀a b:List D,dLtL a b=false->dLtL b a=false->a=b
 | [],[],_,_=>rfl
 | [],y :: ys,h,_=>by unfold dLtL at h;cases h
 | x :: xs,[],_,h=>by unfold dLtL at h;cases h
 | x :: xs,y :: ys,h,h'=>by
  rw[yx]at h h';by_cases e:x=y
  .subst e
   rw[Qx (kI.mpr rfl)]at h h';rw[dLtL_tot xs ys h h']
  .rw[Qw (fun z=>e (kI.mp z))]at h
   rw[Qw (fun z=>e (kI.mp z).symm)]at h';exact absurd (Ko x y h h') e
end
mutual
theorem yw:∀a b c:D,dLt a b=true->dLt b c=true->dLt a c=true
 | .int a,.int b,.int c,h,h'=>by
  unfold dLt at h h' |-;exact Qu (Qi (Qt h) (Qt h'))
 | .str a,.str b,.str c,h,h'=>by unfold dLt at h h' |-;exact jdA h h'
 | .tup a,.tup b,.tup c,h,h'=>by unfold dLt at h h' |-;exact dLtL_trans a b c h h'
 | .int a,.int b,.str c,_,_=>by unfold dLt;rfl
 | .int a,.int b,.tup c,_,_=>by unfold dLt;rfl
 | .int a,.str b,.str c,_,_=>by unfold dLt;rfl
 | .int a,.str b,.tup c,_,_=>by unfold dLt;rfl
 | .int a,.tup b,.tup c,_,_=>by unfold dLt;rfl
 | .str a,.str b,.tup c,_,_=>by unfold dLt;rfl
 | .str a,.tup b,.tup c,_,_=>by unfold dLt;rfl
 | .str a,.int b,_,h,_=>by unfold dLt at h;cases h
 | .tup a,.int b,_,h,_=>by unfold dLt at h;cases h
 | .tup a,.str b,_,h,_=>by unfold dLt at h;cases h
 | _,.str b,.int c,_,h=>by unfold dLt at h;cases h
 | _,.tup b,.int c,_,h=>by unfold dLt at h;cases h
 | _,.tup b,.str c,_,h=>by unfold dLt at h;cases h
theorem dLtL_trans:∀a b c:List D,dLtL a b=true->dLtL b c=true->dLtL a c=true
 | [],[],_,h,_=>by unfold dLtL at h;cases h
 | [],_ :: _,[],_,h=>by unfold dLtL at h;cases h
 | [],_ :: _,_ :: _,_,_=>by unfold dLtL;rfl
 | _ :: _,[],_,h,_=>by unfold dLtL at h;cases h
 | _ :: _,_ :: _,[],_,h=>by unfold dLtL at h;cases h
 | x :: xs,y :: ys,z :: zs,h,h'=>by
  rw[yx]at h h' |-;by_cases e:x=y
  .subst e
   rw[Qx (kI.mpr rfl)]at h;by_cases e':x=z
   .subst e'
    rw[Qx (kI.mpr rfl)]at h' |-;exact dLtL_trans xs ys zs h h'
   .rw[Qw (fun q=>e' (kI.mp q))]at h' |-
    exact h'
  .rw[Qw (fun q=>e (kI.mp q))]at h
   by_cases e':y=z
   .subst e'
    rw[Qw (fun q=>e (kI.mp q))];exact h
   .rw[Qw (fun q=>e' (kI.mp q))]at h'
    have h3:=yw x y z h h';by_cases e2:x=z
    .subst e2
     have:=jat x;rw[h3]at this
     cases this
    .rw[Qw (fun q=>e2 (kI.mp q))]
     exact h3
end
theorem jhp(a b c:D)(h:dLt a c=true):dLt a b=true\/dLt b c=true:=by
 cases h1:dLt a b with
 | true=>exact .inl rfl
 | false=>
  cases h2:dLt b a with
  | true=>exact .inr (yw b a c h2 h)
  | false=>
   rw[Ko a b h1 h2]at h;exact .inr h
open PySem PySem.Spec PyProof.Rows PySem.W
mutual
def TrAt(h:ar):D->ag->Prop
 | .int i,v=>∃t,v=.int i t
 | .str x,v=>∃t,v=.str x t
 | .tup ds,v=>∃a its,v=.ref a/\h.IsTuple a its/\TrAtL h ds its.toList
def TrAtL(h:ar):List D->List ag->Prop
 | [],vs=>vs=[]
 | d :: ds,vs=>∃v r,vs=v :: r/\TrAt h d v/\TrAtL h ds r
end
theorem TrAtL.length{h:ar}:∀{ds:List D} {vs:List ag},TrAtL h ds vs->ds.length=vs.length
 | [],vs,x=>by unfold TrAtL at x;rw[x];rfl
 | d :: ds,vs,x=>by
  unfold TrAtL at x;obtain⟨v,r,rfl,_,h2⟩:=x;rw[ck,ck,TrAtL.length h2]
theorem TrAtL.get{h:ar}:∀{ds:List D} {vs:List ag} {i:Nat} {d:D},TrAtL h ds vs->ds[i]?=some d->∃v,vs[i]?=some v/\TrAt h d v
 | [],_,_,_,_,e=>by simp at e
 | d :: ds,vs,0,_,x,e=>by
  unfold TrAtL at x;obtain⟨v,r,rfl,h1,_⟩:=x;simp at e;subst e;exact⟨v,by simp,h1⟩
 | d :: ds,vs,i+1,_,x,e=>by
  unfold TrAtL at x;obtain⟨v,r,rfl,_,h2⟩:=x;obtain⟨v',e1,e2⟩:=TrAtL.get (i:=i) h2 (by simpa using e);exact⟨v',by simpa using e1,e2⟩
theorem ja9{h:ar}{a:ad}{xs ys:Array ag}(h1:h.IsTuple a xs)(h2:h.IsTuple a ys):xs=ys:=by
 obtain⟨o,e1,e2,n,e3⟩:=h1;obtain⟨o',f1,f2,n',f3⟩:=h2;rw[e1]at f1
 cases f1
 rw[e3]at f3;injection f3
mutual
theorem jby{h:ar}:∀{d d':D} {v:ag},TrAt h d v->TrAt h d' v->d=d'
 | .int i,.int j,v,x,y=>by unfold TrAt at x y;obtain⟨t,rfl⟩:=x;obtain⟨t',e⟩:=y;injection e with e;rw[e]
 | .str i,.str j,v,x,y=>by unfold TrAt at x y;obtain⟨t,rfl⟩:=x;obtain⟨t',e⟩:=y;injection e with e;rw[e]
 | .tup a,.tup b,v,x,y=>by
  unfold TrAt at x y;obtain⟨p,xs,rfl,e,hx⟩:=x;obtain⟨q,ys,e',f,hy⟩:=y;injection e' with e';subst e';rw[ja9 f e]at hy;rw[trL_inj hx hy]
 | .int i,.str j,v,x,y=>by unfold TrAt at x y;obtain⟨t,rfl⟩:=x;obtain⟨t',e⟩:=y;cases e
 | .int i,.tup j,v,x,y=>by unfold TrAt at x y;obtain⟨t,rfl⟩:=x;obtain⟨_,_,e,_⟩:=y;cases e
 | .str i,.int j,v,x,y=>by unfold TrAt at x y;obtain⟨t,rfl⟩:=x;obtain⟨t',e⟩:=y;cases e
 | .str i,.tup j,v,x,y=>by unfold TrAt at x y;obtain⟨t,rfl⟩:=x;obtain⟨_,_,e,_⟩:=y;cases e
 | .tup i,.int j,v,x,y=>by unfold TrAt at x y;obtain⟨t,rfl⟩:=y;obtain⟨_,_,e,_⟩:=x;cases e
 | .tup i,.str j,v,x,y=>by unfold TrAt at x y;obtain⟨t,rfl⟩:=y;obtain⟨_,_,e,_⟩:=x;cases e
theorem trL_inj{h:ar}:∀{d d':List D} {v:List ag},TrAtL h d v->TrAtL h d' v->d=d'
 | [],[],_,_,_=>rfl
 | a :: as,b :: bs,v,x,y=>by
  unfold TrAtL at x y;obtain⟨u,r,rfl,h1,h2⟩:=x;obtain⟨u',r',e,cv,eh⟩:=y;injection e with e1 e2;subst e1 e2;rw[jby h1 cv,trL_inj h2 eh]
 | [],b :: bs,v,x,y=>by unfold TrAtL at x y;subst x;obtain⟨_,_,e,_⟩:=y;cases e
 | a :: as,[],v,x,y=>by unfold TrAtL at x y;subst y;obtain⟨_,_,e,_⟩:=x;cases e
end
mutual
theorem TrAt.kept{h h':ar}(k:∀a xs,h.IsTuple a xs->h'.IsTuple a xs):∀{d:D} {v:ag},TrAt h d v->TrAt h' d v
 | .int i,v,x=>by unfold TrAt at x |-;exact x
 | .str i,v,x=>by unfold TrAt at x |-;exact x
 | .tup ds,v,x=>by
  unfold TrAt at x |-;obtain⟨a,its,rfl,e,hx⟩:=x;exact⟨a,its,rfl,k a its e,TrAtL.kept k hx⟩
theorem TrAtL.kept{h h':ar}(k:∀a xs,h.IsTuple a xs->h'.IsTuple a xs):∀{ds:List D} {vs:List ag},TrAtL h ds vs->TrAtL h' ds vs
 | [],vs,x=>by unfold TrAtL at x |-;exact x
 | d :: ds,vs,x=>by
  unfold TrAtL at x |-;obtain⟨v,r,e,h1,h2⟩:=x;exact⟨v,r,e,TrAt.kept k h1,TrAtL.kept k h2⟩
end
section
variable {s:ai}
theorem jcN:∀(n:Nat) (A:aS) (d d':D) (u v:ag),d.depth<=n->A.units+n < cLine->TrAt s.heap d u->TrAt s.heap d' v->rL A s u v (dEq d d'):=by
 intro n;induction n with
 | zero=>
  intro A d d' u v hd hA hx hy;have gJ:A.units < cLine:=by omega
  cases d with
  | int i=>
   unfold TrAt at hx;obtain⟨t,rfl⟩:=hx
   cases d' with
   | int j=>unfold TrAt at hy;obtain⟨t',rfl⟩:=hy;unfold dEq;exact On i t j t'
   | str j=>unfold TrAt at hy;obtain⟨t',rfl⟩:=hy;unfold dEq;exact Fd i t j t'
   | tup ds=>unfold TrAt at hy;obtain⟨b,ys,rfl,hb,_⟩:=hy;unfold dEq;exact Om i t hb gJ
  | str i=>
   unfold TrAt at hx;obtain⟨t,rfl⟩:=hx
   cases d' with
   | int j=>unfold TrAt at hy;obtain⟨t',rfl⟩:=hy;unfold dEq;exact Fc i t j t'
   | str j=>unfold TrAt at hy;obtain⟨t',rfl⟩:=hy;unfold dEq;exact Oi i t j t'
   | tup ds=>unfold TrAt at hy;obtain⟨b,ys,rfl,hb,_⟩:=hy;unfold dEq;exact Oh i t hb gJ
  | tup ds=>unfold D.depth at hd;omega
 | succ n ih=>
  intro A d d' u v hd hA hx hy;have gJ:A.units < cLine:=by omega
  cases d with
  | int i=>exact ih A (.int i) d' u v (by unfold D.depth;omega) (by omega) hx hy
  | str z=>exact ih A (.str z) d' u v (by unfold D.depth;omega) (by omega) hx hy
  | tup ds=>
   have pC:=hx;unfold TrAt at hx;obtain⟨a,its,rfl,ta,ci⟩:=hx
   cases d' with
   | int j=>unfold TrAt at hy;obtain⟨t',rfl⟩:=hy;unfold dEq;exact Og j t' ta gJ
   | str j=>unfold TrAt at hy;obtain⟨t',rfl⟩:=hy;unfold dEq;exact Of j t' ta gJ
   | tup aO=>
    have xa:=hy;unfold TrAt at hy;obtain⟨b,bF,rfl,tb,cx⟩:=hy;by_cases iH:a=b
    .subst iH
     rw[kI.mpr (jby pC xa)];exact Oj _
    .refine Ol iH ?_
     have l1:ds.length=its.size:=by have:=ci.length;simpa using this
     have l2:aO.length=bF.size:=by have:=cx.length;simpa using this
     have key:=Fb (A:=A) (s:=s) (e:=fun j=>dEq (ds.getD j (.int 0)) (aO.getD j (.int 0))) ta tb (by omega) (fun j h1 h2=>by
      have hj:j < ds.length:=by omega
      have eQ:j < aO.length:=by omega
      have ej:ds[j]?=some ds[j]:=aK hj;obtain⟨x',cp,gx⟩:=ci.get ej;obtain⟨y',fE,gy⟩:=cx.get (aK eQ);have eu:its[j]=x':=by
       have:=(bL.mp cp).2;simpa using this
      have ev:bF[j]=y':=by
       have:=(bL.mp fE).2;simpa using this
      rw[eu,ev];unfold D.depth at hd;have g1:ds.getD j (.int 0)=ds[j]:=by simp[hj]
      have g2:aO.getD j (.int 0)=aO[j]:=by simp[eQ]
      rw[g1,g2];exact ih A.in1 ds[j] aO[j] x' y' (by have:=D.depthL_get ej;omega) (by show A.units+1+n < cLine;omega) gx gy)
     have e:((cB (min its.size bF.size)).all (fun j=>dEq (ds.getD j (.int 0)) (aO.getD j (.int 0))) && its.size == bF.size)=dEqL ds aO:=by
      rw[<- l1,<- l2];exact Jd ds aO
     rw[e]at key;unfold dEq;exact key
def jdY(A:aS)(s:ai)(u v:ag)(r:Bool):Prop:=∀(prog:aE) (w:aB) (E:ag->ai->Prop) (Q:ag->ai->Prop),Q (.bool r) s->au (ao prog w) A (richCompare .Lt u v) Q E s
theorem jeF(A:aS)(s:ai)(a:Str)(t:Tok)(c:Str)(u:Tok):jdY A s (.str a t) (.str c u) (ltS a c):=fun prog w E Q h=>
 (PyProof.Rows.lt_str h:au (ao prog w) A (fe .Lt (.str a t) (.str c u)) Q E s)
theorem jeG(A:aS)(s:ai)(a:Int)(t:Tok)(c:Int)(u:Tok):jdY A s (.int a t) (.int c u) (decide (a < c)):=fun prog w E Q h=>
 (PyProof.Rows.lt_int h:au (ao prog w) A (fe .Lt (.int a t) (.int c u)) Q E s)
inductive LexAt(A:aS)(s:ai):List D->List D->List ag->List ag->Prop
 | nilL {ys:List D} {vs:List ag}:ys.length=vs.length->LexAt A s [] ys [] vs
 | nilR {xs:List D} {vs:List ag}:xs.length=vs.length->LexAt A s xs [] vs []
 | cons {x y:D} {xs ys:List D} {u v:ag} {us vs:List ag}:xs.length=us.length->ys.length=vs.length->rL A s u v (dEq x y)->(dEq x y=true->LexAt A s xs ys us vs)->(dEq x y=false->jdY A s u v (dLt x y))->LexAt A s (x :: xs) (y :: ys) (u :: us) (v :: vs)
end
section
open PySem.SeqAt
open PySem.AutoSeq1 (wpAny_loadPart')
open PySem.MeetsSeq PySem.MeetsSeq2 PySem.MeetsSeq3
theorem jaO(l b:ad)(items nO:Array ag)(n n2:Nat)(dd Af:Option ad)(sl vU:Array (Option ag))(ds es:List D)(h1:ds.length=items.size)(h2:es.length=nO.size):
  Meets (Builtin.«tuple.__lt__» ⟨[.ref l,.ref b],[]⟩)
   (fun A R s=>s.heap.get? l=some { cls:=.type "tuple",dict:=dd,data:=.seq items n,slots:=sl }/\s.heap.get? b=some { cls:=.type "tuple",dict:=Af,data:=.seq nO n2,slots:=vU }/\LexAt A.in1 s ds es items.toList nO.toList/\
    R (.ok (.ret (.bool (dLtL ds es)))) s):=
 .of_wp fun prog w A R s h=>by
  obtain⟨hp,g,d,tk,os⟩:=s;obtain⟨hl,hb,hL,h⟩:=h;have f2:=AutoSeq1.sub_tuple_tuple;wp_walk using wpAny_loadPart' hl,wpAny_loadPart' hb,wpAny_forIn_list _ (fun zF b s'=>b.1=none/\s'=⟨hp,g,d,tk,os⟩/\∃(vs ws:List ag) (aO gK:List D),zF=vs.zip ws/\
   LexAt A.in1 ⟨hp,g,d,tk,os⟩ aO gK vs ws/\aO.length+nO.size=gK.length+items.size/\R (.ok (.ret (.bool (dLtL aO gK)))) ⟨hp,g,d,tk,os⟩) _
  case turn=>
   rintro⟨y,x⟩ zF b s' ⟨bg,rfl,vs,ws,aO,gK,hz,xU,bu,hR⟩
   cases xU with
   | nilL e=>rw[PN]at hz;cases hz
   | nilR e=>rw[PM]at hz;cases hz
   | @cons x0 y0 _ _ _ _ _ _ e1 e2 he hy hn=>
    rw[FV]at hz;injection hz with HH Iu;injection HH with fE cp;subst fE cp;rw[yx]at hR;simp only[ck]at bu;refine aq (he prog w _ _ ?_)
    cases hE:dEq x0 y0 with
    | true=>
     rw[Qx hE]at hR;wp_walk;exact⟨rfl,rfl,_,_,_,_,Iu,hy hE,by omega,hR⟩
    | false=>
     rw[Qw (by rw[hE];exact c9)]at hR;have pK:=hn hE prog w;wp_walk using pK;exact⟨_,rfl,by simpa using hR⟩
  case fin=>
   rintro⟨b1,b2⟩ s' ⟨bg,rfl,vs,ws,aO,gK,hz,xU,bu,hR⟩
   simp only at bg
   subst bg
   have hv:dLtL aO gK=decide (items.size < nO.size):=by
    cases xU with
    | nilL e=>
     cases gK with
     | nil=>
      simp only[fN]at bu;unfold dLtL;exact (Qv (by omega)).symm
     | cons c u=>
      simp only[fN,ck]at bu;unfold dLtL;exact (Qu (by omega)).symm
    | nilR e=>
     cases aO with
     | nil=>
      simp only[fN]at bu;unfold dLtL;exact (Qv (by omega)).symm
     | cons c u=>
      simp only[fN,ck]at bu;unfold dLtL;exact (Qv (by omega)).symm
    | cons _ _ _ _ _=>
     rw[FV]at hz
     cases hz
   rw[hv]at hR
   wp_walk
   exact⟨_,rfl,by simpa[Builtin.Tuple.tupleCompareSizes]using hR⟩
  case h=>
   exact⟨rfl,rfl,items.toList,nO.toList,ds,es,rfl,hL,by omega,h⟩
end
end L2
namespace Tm
open PySem PyProof.Rows
def qX:Bool->Keyed->Array Keyed->Nat->Nat->Nat->StateT av Sem (Option Nat):=sortPriv% PySem.Builtin.gallop
def qu:Nat->StateT av Sem Unit:=sortPriv% PySem.Builtin.setMinGallop
def zY(left:Bool)(key:Keyed)(arr:Array Keyed)(base:Nat)(i:Nat):StateT av Sem (Option Bool):=do
 let x <- elem' arr (base+i)
 if left then lt' x key else return (<- lt' key x).map (!·)
abbrev GT:Type:=Option (Option Nat)×Nat×Nat
def ZA(left:Bool)(key:Keyed)(arr:Array Keyed)(base n lo hi:Nat):StateT av Sem (Option Nat):=do
 let r <- forIn [0:n] ((none,lo,hi):GT) fun _ c=>
  if c.2.1 >= c.2.2 then pure (.done (none,c.2.1,c.2.2)) else do
   match <- zY left key arr base (c.2.1+(c.2.2 - c.2.1) / 2) with
   | some yes=>if yes=true then pure (.yield (none,c.2.1+(c.2.2 - c.2.1) / 2+1,c.2.2)) else pure (.yield (none,c.2.1,c.2.1+(c.2.2 - c.2.1) / 2))
   | _=>pure (.done (some none,c.2.1,c.2.2))
 match r.1 with
 | some r=>pure r
 | none=>pure (some r.2.2)
def gup(left:Bool)(key:Keyed)(arr:Array Keyed)(base n aZ:Nat):StateT av Sem (Option Nat):=do
 let r <- forIn [0:n] ((none,0,1):GT) fun _ c=>
  if c.2.2 >= n - aZ then pure (.done (none,c.2.1,c.2.2)) else do
   match <- zY left key arr base (aZ+c.2.2) with
   | some yes=>if (!yes)=true then pure (.done (none,c.2.1,c.2.2)) else pure (.yield (none,c.2.2,2 * c.2.2+1))
   | _=>pure (.done (some none,c.2.1,c.2.2))
 match r.1 with
 | some r=>pure r
 | none=>ZA left key arr base n (aZ+r.2.1+1) (aZ+min r.2.2 (n - aZ))
def jfE(left:Bool)(key:Keyed)(arr:Array Keyed)(base n aZ:Nat):StateT av Sem (Option Nat):=do
 let r <- forIn [0:n] ((none,0,1):GT) fun _ c=>
  if c.2.2 >= aZ+1 then pure (.done (none,c.2.1,c.2.2)) else do
   match <- zY left key arr base (aZ - c.2.2) with
   | some yes=>if yes=true then pure (.done (none,c.2.1,c.2.2)) else pure (.yield (none,c.2.2,2 * c.2.2+1))
   | _=>pure (.done (some none,c.2.1,c.2.2))
 match r.1 with
 | some r=>pure r
 | none=>ZA left key arr base n (aZ+1 - min r.2.2 (aZ+1)) (aZ - r.2.1)
theorem jb2(left:Bool)(key:Keyed)(arr:Array Keyed)(base n aZ:Nat):qX left key arr base n aZ=(zY left key arr base aZ >>= fun o=>match o with
  | some right=>if right=true then gup left key arr base n aZ else jfE left key arr base n aZ
  | _=>pure none):=by
 have e0:qX left key arr base n aZ=(zY left key arr base aZ >>= (_:Option Bool->StateT av Sem (Option Nat))):=rfl
 rw[e0]
 congr 1
 funext o
 cases o with
 | none=>rfl
 | some right=>
  dsimp only
  congr 1
  .unfold gup
   congr 1
   funext c
   obtain⟨c1,c2,c3⟩:=c
   cases c1 with
   | some r=>rfl
   | none=>
    dsimp only
    unfold ZA
    congr 1
    funext d
    obtain⟨d1,d2,d3⟩:=d
    cases d1 <;> rfl
  .unfold jfE
   congr 1
   funext c
   obtain⟨c1,c2,c3⟩:=c
   cases c1 with
   | some r=>rfl
   | none=>
    dsimp only
    unfold ZA
    congr 1
    funext d
    obtain⟨d1,d2,d3⟩:=d
    cases d1 <;> rfl
variable {prog:aE}{w:aB}{A:aS}{E:ag->ai->Prop}{s:ai}{κ:KeyKind}{knd:gq}{st:av}{x y:Keyed}{left:Bool}{arr:Array Keyed}{base i n:Nat}{Q:Option Nat->av->Prop}
section
def kq(κ:KeyKind)(p:Keyed):κ.α:=(κ.keyOf p.1).getD κ.dflt
def qd(κ:KeyKind)(p:Keyed):Prop:=∃a,κ.keyOf p.1=some a
def LtAt(prog:aE)(w:aB)(A:aS)(E:ag->ai->Prop)(s:ai)(knd:gq)(κ:KeyKind):Prop:=∀(st:av) (x y:Keyed) (Q:Option Bool->av->Prop),kindOf st=knd->qd κ x->qd κ y->Q (some (κ.blt (kq κ x) (kq κ y))) st->wpS (ao prog w) A E s (lt' x y) Q st
theorem ZN{Q:Option Bool->av->Prop}(hO:LtAt prog w A E s knd κ)(hk:kindOf st=knd)(hx:qd κ x)(hy:qd κ y)(h:Q (some (κ.blt (kq κ x) (kq κ y))) st):wpS (ao prog w) A E s (lt' x y) Q st:=hO st x y Q hk hx hy h
def bey(κ:KeyKind)(left:Bool)(key x:Keyed):Bool:=if left then κ.blt (kq κ x) (kq κ key) else !(κ.blt (kq κ key) (kq κ x))
theorem jbt{key:Keyed}{Q:Option Bool->av->Prop}(hO:LtAt prog w A E s knd κ)(hk:kindOf st=knd)(hx:qd κ key)(hi:base+i < arr.size)(hy:qd κ arr[base+i])
  (h:Q (some (bey κ left key arr[base+i])) st):wpS (ao prog w) A E s (zY left key arr base i) Q st:=by
 unfold zY
 rw[Bm,getElem?_pos arr (base+i) hi]
 refine aC (aG ?_)
 cases left with
 | true=>
  simp only[if_true]
  exact ZN hO hk hy hx h
 | false=>
  simp only[eK,if_false]
  refine aC (ZN hO hk hx hy ?_)
  exact aG h
def Turn(b:Nat->Bool)(n k:Nat):Prop:=k<=n/\(∀i,i < k->b i=true)/\∀i,k<=i->i < n->b i=false
theorem jbr{key:Keyed}{aZ:Nat}(hO:LtAt prog w A E s knd κ)(hk:kindOf st=knd)(hx:qd κ key)(hn:base+n<=arr.size)(hh:aZ < n)(hy:∀i (h:i < arr.size),qd κ arr[i])
  (b:Nat->Bool) (hb:∀i (h:base+i < arr.size),i < n->b i=bey κ left key arr[base+i]) (mono:∀i j,i<=j->j < n->b j=true->b i=true) (h:∀k,Turn b n k->Q (some k) st):wpS (ao prog w) A E s (qX left key arr base n aZ) Q st:=by
 have ask:∀{Q:Option Bool->av->Prop} (i:Nat),i < n->Q (some (b i)) st->wpS (ao prog w) A E s (zY left key arr base i) Q st:=fun {Q} i hi q=>
  jbt hO hk hx (by omega) (hy _ (by omega)) (by rw[<- hb i (by omega) hi];exact q)
 have Eh:∀(lo hi:Nat),lo<=hi->hi<=n->(∀i,i < lo->b i=true)->(∀i,hi<=i->i < n->b i=false)->
   wpS (ao prog w) A E s (ZA left key arr base n lo hi) Q st:=by
  intro lo hi h1 h2 h3 h4
  unfold ZA
  refine aC (dj (eE (I:=fun x c aA=>aA=st/\∃l r,c=(none,l,r)/\l<=r/\r<=n/\r - l<=n - x/\(∀i,i < l->b i=true)/\(∀i,r<=i->i < n->b i=false))
   (Q:=fun c aA=>aA=st/\∃r,c=(none,r,r)/\Turn b n r) ?step ?fin ⟨rfl,lo,hi,rfl,h1,h2,by omega,h3,h4⟩) ?post)
  case fin=>
   rintro c aA ⟨rfl,l,r,rfl,g1,g2,g3,g4,g5⟩
   have:l=r:=by omega
   subst this
   exact⟨rfl,l,rfl,g2,g4,g5⟩
  case step=>
   rintro x c aA _ CH ⟨rfl,l,r,rfl,g1,g2,g3,g4,g5⟩
   dsimp only
   by_cases dt:l >= r
   .rw[Qx dt]
    have:l=r:=by omega
    subst this
    exact aG ⟨rfl,l,rfl,g2,g4,g5⟩
   .rw[Qw dt]
    refine aC (ask (l+(r - l) / 2) (by omega) ?_)
    dsimp only
    cases dh:b (l+(r - l) / 2) with
    | true=>
     simp only[if_true]
     exact aG ⟨rfl,_,_,rfl,by omega,g2,by omega,fun i hi=>mono i _ (by omega) (by omega) dh,g5⟩
    | false=>
     simp only[eK,if_false]
     refine aG ⟨rfl,_,_,rfl,by omega,by omega,by omega,g4,fun i hi eR=>?_⟩
     cases e:b i with
     | false=>rfl
     | true=>
      have:=mono (l+(r - l) / 2) i hi eR e
      rw[dh]at this
      cases this
  case post=>
   rintro c aA ⟨rfl,r,rfl,g⟩
   exact aG (h r g)
 rw[jb2]
 refine aC (ask aZ hh ?_)
 dsimp only
 cases hbh:b aZ with
 | true=>
  simp only[if_true]
  unfold gup
  refine aC (dj (eE (I:=fun x c aA=>aA=st/\∃l o,c=(none,l,o)/\l < o/\x+1<=o/\aZ+l < n/\b (aZ+l)=true)
   (Q:=fun c aA=>aA=st/\∃l o,c=(none,l,o)/\l < o/\aZ+l < n/\b (aZ+l)=true/\(n<=aZ+o\/b (aZ+o)=false)) ?step ?fin ⟨rfl,0,1,rfl,by omega,by omega,by omega,hbh⟩) ?post)
  case fin=>
   rintro c aA ⟨rfl,l,o,rfl,h1,h2,h3,h4⟩
   exact⟨rfl,l,o,rfl,h1,h3,h4,.inl (by omega)⟩
  case step=>
   rintro x c aA _ CH ⟨rfl,l,o,rfl,h1,h2,h3,h4⟩
   dsimp only
   by_cases dt:o >= n - aZ
   .rw[Qx dt]
    exact aG ⟨rfl,l,o,rfl,h1,h3,h4,.inl (by omega)⟩
   .rw[Qw dt]
    refine aC (ask (aZ+o) (by omega) ?_)
    dsimp only
    cases dh:b (aZ+o) with
    | true=>
     simp only[vA,eK,if_false]
     exact aG ⟨rfl,o,2 * o+1,rfl,by omega,by omega,by omega,dh⟩
    | false=>
     simp only[Bool.not_false,if_true]
     exact aG ⟨rfl,l,o,rfl,h1,h3,h4,.inr dh⟩
  case post=>
   rintro c aA ⟨rfl,l,o,rfl,h1,h3,h4,h5⟩
   dsimp only
   refine Eh (aZ+l+1) (aZ+min o (n - aZ)) (by omega) (by omega) (fun i hi=>mono i (aZ+l) (by omega) (by omega) h4) (fun i hi eR=>?_)
   rcases h5 with h5 | h5
   .omega
   .cases e:b i with
    | false=>rfl
    | true=>
     have:=mono (aZ+o) i (by omega) eR e
     rw[h5]at this
     cases this
 | false=>
  simp only[eK,if_false]
  unfold jfE
  refine aC (dj (eE (I:=fun x c aA=>aA=st/\∃l o,c=(none,l,o)/\l < o/\x+1<=o/\l<=aZ/\b (aZ - l)=false)
   (Q:=fun c aA=>aA=st/\∃l o,c=(none,l,o)/\l < o/\l<=aZ/\b (aZ - l)=false/\(aZ < o\/b (aZ - o)=true)) ?step ?fin ⟨rfl,0,1,rfl,by omega,by omega,by omega,hbh⟩) ?post)
  case fin=>
   rintro c aA ⟨rfl,l,o,rfl,h1,h2,h3,h4⟩
   exact⟨rfl,l,o,rfl,h1,h3,h4,.inl (by omega)⟩
  case step=>
   rintro x c aA _ CH ⟨rfl,l,o,rfl,h1,h2,h3,h4⟩
   dsimp only
   by_cases dt:o >= aZ+1
   .rw[Qx dt]
    exact aG ⟨rfl,l,o,rfl,h1,h3,h4,.inl (by omega)⟩
   .rw[Qw dt]
    refine aC (ask (aZ - o) (by omega) ?_)
    dsimp only
    cases dh:b (aZ - o) with
    | true=>
     simp only[if_true]
     exact aG ⟨rfl,l,o,rfl,h1,h3,h4,.inr dh⟩
    | false=>
     simp only[eK,if_false]
     exact aG ⟨rfl,o,2 * o+1,rfl,by omega,by omega,by omega,dh⟩
  case post=>
   rintro c aA ⟨rfl,l,o,rfl,h1,h3,h4,h5⟩
   dsimp only
   refine Eh (aZ+1 - min o (aZ+1)) (aZ - l) (by omega) (by omega) (fun i hi=>?_) (fun i hi eR=>?_)
   .rcases h5 with h5 | h5
    .omega
    .exact mono i (aZ - o) (by omega) (by omega) h5
   .cases e:b i with
    | false=>rfl
    | true=>
     have:=mono (aZ - l) i (by omega) eR e
     rw[h4]at this
     cases this
end
def Kd:Array Keyed->Array Keyed->StateT av Sem (Array Keyed):=sortPriv% PySem.Builtin.mergeLo
def Ke:Array Keyed->Array Keyed->StateT av Sem (Array Keyed):=sortPriv% PySem.Builtin.mergeHi
abbrev qB(st:av)(g:Nat):av:=Bn (kindOf st) (arrOf st) (aV st) g (fK st)
theorem qo(g:Nat):qu g=modify fun s=>qB s g:=rfl
abbrev SL(κ:KeyKind)(l:List Keyed):Prop:=l.Pairwise fun p q=>κ.kle (kq κ p) (kq κ q)
abbrev Le(κ:KeyKind)(p q:Keyed):Prop:=κ.kle (kq κ p) (kq κ q)
variable {ia ib:Nat}
section
variable {A B L:List Keyed}
structure LoI(κ:KeyKind)(A B L:List Keyed)(ia ib:Nat):Prop where
 perm:L.Perm (A.take ia++B.take ib)
 srt:SL κ L
 ba:∀x∈L,∀y∈A.drop ia,Le κ x y
 bb:∀x∈L,∀y∈B.drop ib,Le κ x y
theorem yM{l:List Keyed}(h:i < l.length):l.drop i=l[i] :: l.drop (i+1):=F6 h
theorem LoI.pushA(I:LoI κ A B L ia ib)(sa:SL κ A)(hi:ia < A.length)(h:∀y∈B.drop ib,Le κ A[ia] y):LoI κ A B (L++[A[ia]]) (ia+1) ib:=by
 have hm:A[ia]∈A.drop ia:=by rw[yM hi];exact bU
 refine⟨?_,?_,fun x hx y hy=>?_,fun x hx y hy=>?_⟩
 .rw[eI,aK hi]
  refine (I.perm.append_right _).trans ?_;show (A.take ia++B.take ib++[A[ia]]).Perm (A.take ia++[A[ia]]++B.take ib);rw[bh,bh];exact lT.append_left _
 .exact ip.mpr ⟨I.srt,vq _ _,fun x hx y hy=>by
   cases aN.mp hy
   exact I.ba x hx _ hm⟩
 .rcases bK.mp hx with hx | hx
  .exact I.ba x hx y (by rw[yM hi];exact ce _ hy)
  .cases aN.mp hx
   have:=sa.drop (i:=ia);rw[yM hi]at this;exact (PQ.mp this).1 y hy
 .rcases bK.mp hx with hx | hx
  .exact I.bb x hx y hy
  .cases aN.mp hx
   exact h y hy
theorem LoI.swap(I:LoI κ A B L ia ib):LoI κ B A L ib ia:=⟨I.perm.trans lT,I.srt,I.bb,I.ba⟩
theorem LoI.pushB(I:LoI κ A B L ia ib)(sb:SL κ B)(hi:ib < B.length)(h:∀y∈A.drop ia,Le κ B[ib] y):LoI κ A B (L++[B[ib]]) ia (ib+1):=(I.swap.pushA sb hi h).swap
theorem LoI.runA(I:LoI κ A B L ia ib)(sa:SL κ A):∀k,ia+k<=A.length->(∀i (h:i < A.length),ia<=i->i < ia+k->∀y∈B.drop ib,Le κ A[i] y)->LoI κ A B (L++(A.drop ia).take k) (ia+k) ib
 | 0,_,_=>by
  rw[io,dl];exact I
 | k+1,hk,h=>by
  have ih:=LoI.runA I sa k (by omega) fun i hi h1 h2=>h i hi h1 (by omega)
  have hi:ia+k < A.length:=by omega
  have:=ih.pushA sa hi (h _ hi (by omega) (by omega));rw[bh]at this;rw[eI,F3,aK hi];exact this
theorem LoI.runB(I:LoI κ A B L ia ib)(sb:SL κ B)(k:Nat)(hk:ib+k<=B.length)(h:∀i (h:i < B.length),ib<=i->i < ib+k->∀y∈A.drop ia,Le κ B[i] y):LoI κ A B (L++(B.drop ib).take k) ia (ib+k):=(I.swap.runA sb k hk h).swap
def qm(κ:KeyKind)(A B M:List Keyed):Prop:=M.Perm (A++B)/\SL κ M
theorem LoI.done(I:LoI κ A B L ia ib)(sa:SL κ A)(sb:SL κ B)(h:∀x∈A.drop ia,∀y∈B.drop ib,Le κ x y):qm κ A B (L++A.drop ia++B.drop ib):=by
 refine⟨?_,?_⟩
 .have e1:=nr ia A
  have e2:=nr ib B;have h1:(L++A.drop ia++B.drop ib).Perm ((A.take ia++B.take ib)++(A.drop ia++B.drop ib)):=by
   rw[bh];exact I.perm.append_right _
  refine h1.trans ?_;have h2:((A.take ia++B.take ib)++(A.drop ia++B.drop ib)).Perm ((A.take ia++A.drop ia)++(B.take ib++B.drop ib)):=by
   rw[bh,bh];refine Qc _ ?_;rw[<- bh,<- bh];exact lT.append_right _
  rw[e1,e2]at h2;exact h2
 .refine ip.mpr ⟨ip.mpr ⟨I.srt,sa.drop,I.ba⟩,sb.drop,fun x hx y hy=>?_⟩
  rcases bK.mp hx with hx | hx
  .exact I.bb x hx y hy
  .exact h x hx y hy
theorem LoI.last(I:LoI κ A B L ia ib)(sa:SL κ A)(sb:SL κ B)(h:∀x∈B.drop ib,∀y∈A.drop ia,Le κ x y):qm κ A B (L++B.drop ib++A.drop ia):=by
 obtain⟨h1,h2⟩:=I.swap.done sb sa h;exact⟨h1.trans lT,h2⟩
end
variable {a:Array Keyed}{j:Nat}
theorem zg:(a.extract i j).toList=(a.toList.drop i).take (j - i):=by
 simp
theorem Yd:(a.extract i a.size).toList=a.toList.drop i:=by
 rw[zg,List.take_of_length_le (by rw[oU];simp)]
abbrev LoT:Type:=Option (Array Keyed)×Array Keyed×Nat×Nat×Nat×Nat×Nat
abbrev zK(a b out:Array Keyed)(ia ib:Nat):Array Keyed:=out++a.extract ia a.size++b.extract ib b.size
abbrev JF(a b out:Array Keyed)(ia ib:Nat):Array Keyed:=out++b.extract ib b.size++a.extract ia a.size
def jcG(a b out:Array Keyed)(ia ib mg ac bc:Nat):StateT av Sem (ForInStep LoT):=do
 let x <- elem' a ia
 if ia+1+1 == a.size then return .done (some (JF a b (out.push x) (ia+1) ib),out.push x,ia+1,ib,mg,ac,bc)
 else if (decide (ac < 7) && decide (bc < 7))=true then return .done (none,out.push x,ia+1,ib,mg,ac,bc)
 else return .yield (none,out.push x,ia+1,ib,mg,ac,bc)
def jbU(a b out:Array Keyed)(ia ib mg ac k:Nat):StateT av Sem (ForInStep LoT):=
 if k > 0 then
  if ib+k == b.size then return .done (some (zK a b (out++b.extract ib (ib+k)) ia (ib+k)),out++b.extract ib (ib+k),ia,ib+k,mg,ac,k)
  else jcG a b (out++b.extract ib (ib+k)) ia (ib+k) mg ac k
 else jcG a b out ia ib mg ac k
def jae(a b out:Array Keyed)(ia ib mg ac bc:Nat):StateT av Sem (ForInStep LoT):=do
 let y <- elem' b ib
 if ib+1 == b.size then return .done (some (zK a b (out.push y) ia (ib+1)),out.push y,ia,ib+1,mg,ac,bc)
 else do
  let x <- elem' a ia
  let r <- qX true x b (ib+1) (b.size - (ib+1)) 0
  match r with
  | some k=>jbU a b (out.push y) ia (ib+1) mg ac k
  | _=>return .done (some (zK a b (out.push y) ia (ib+1)),out.push y,ia,ib+1,mg,ac,bc)
def jcF(a b out:Array Keyed)(ia ib mg ac bc:Nat):StateT av Sem (ForInStep LoT):=do
 qu mg
 let y <- elem' b ib
 let r <- qX false y a ia (a.size - ia) 0
 match r with
 | some k=>
  if k > 0 then
   if ia+k+1 == a.size then return .done (some (JF a b (out++a.extract ia (ia+k)) (ia+k) ib),out++a.extract ia (ia+k),ia+k,ib,mg,k,bc)
   else if ia+k == a.size then return .done (some (zK a b (out++a.extract ia (ia+k)) (ia+k) ib),out++a.extract ia (ia+k),ia+k,ib,mg,k,bc)
   else jae a b (out++a.extract ia (ia+k)) (ia+k) ib mg k bc
  else jae a b out ia ib mg k bc
 | _=>return .done (some (zK a b out ia ib),out,ia,ib,mg,ac,bc)
abbrev jcf:Type:=Option (Array Keyed)×Array Keyed×Nat×Nat×Nat×Nat
def jfs(a b:Array Keyed)(mg:Nat)(c:jcf):StateT av Sem (ForInStep jcf):=do
 let y <- elem' b c.2.2.2.1
 let x <- elem' a c.2.2.1
 let r <- lt' y x
 match r with
 | some bWins=>
  if bWins=true then do
   let y <- elem' b c.2.2.2.1
   if c.2.2.2.1+1 == b.size then return .done (some (zK a b (c.2.1.push y) c.2.2.1 (c.2.2.2.1+1)),c.2.1.push y,c.2.2.1,c.2.2.2.1+1,0,c.2.2.2.2.2+1)
   else if c.2.2.2.2.2+1 >= mg then return .done (none,c.2.1.push y,c.2.2.1,c.2.2.2.1+1,0,c.2.2.2.2.2+1)
   else return .yield (none,c.2.1.push y,c.2.2.1,c.2.2.2.1+1,0,c.2.2.2.2.2+1)
  else do
   let x <- elem' a c.2.2.1
   if c.2.2.1+1+1 == a.size then return .done (some (JF a b (c.2.1.push x) (c.2.2.1+1) c.2.2.2.1),c.2.1.push x,c.2.2.1+1,c.2.2.2.1,c.2.2.2.2.1+1,0)
   else if c.2.2.2.2.1+1 >= mg then return .done (none,c.2.1.push x,c.2.2.1+1,c.2.2.2.1,c.2.2.2.2.1+1,0)
   else return .yield (none,c.2.1.push x,c.2.2.1+1,c.2.2.2.1,c.2.2.2.2.1+1,0)
 | _=>return .done (some (zK a b c.2.1 c.2.2.1 c.2.2.2.1),c.2.1,c.2.2.1,c.2.2.2.1,c.2.2.2.2.1,c.2.2.2.2.2)
abbrev jcg:Type:=Option (Array Keyed)×Array Keyed×Nat×Nat×Nat
def jad(a b:Array Keyed)(c:jcg):StateT av Sem (ForInStep jcg):=do
 let d <- forIn [0:a.size+b.size] ((none,c.2.1,c.2.2.1,c.2.2.2.1,0,0):jcf) fun _ d=>jfs a b c.2.2.2.2 d
 match d.1 with
 | some r=>return .done (some r,d.2.1,d.2.2.1,d.2.2.2.1,c.2.2.2.2)
 | none=>do
  rule "list.sort.gallop"
  let e <- forIn [0:a.size+b.size] ((none,d.2.1,d.2.2.1,d.2.2.2.1,c.2.2.2.2+1,d.2.2.2.2.1,d.2.2.2.2.2):LoT) fun _ e=>
   if e.2.2.2.2.1 > 1 then jcF a b e.2.1 e.2.2.1 e.2.2.2.1 (e.2.2.2.2.1 - 1) e.2.2.2.2.2.1 e.2.2.2.2.2.2
   else jcF a b e.2.1 e.2.2.1 e.2.2.2.1 e.2.2.2.2.1 e.2.2.2.2.2.1 e.2.2.2.2.2.2
  match e.1 with
  | some r=>return .done (some r,e.2.1,e.2.2.1,e.2.2.2.1,e.2.2.2.2.1)
  | none=>do
   qu (e.2.2.2.2.1+1)
   return .yield (none,e.2.1,e.2.2.1,e.2.2.2.1,e.2.2.2.2.1+1)
set_option maxHeartbeats 4000000 in
theorem ja4(a b:Array Keyed):Kd a b=(do
 rule "list.sort.merge-lo"
 let y <- elem' b 0
 if 1 == b.size then return zK a b #[y] 0 1
 else if 0+1 == a.size then return JF a b #[y] 0 1
 else do
  let s <- get
  let c <- forIn [0:a.size+b.size] ((none,#[y],0,1,iX s):jcg) fun _ c=>jad a b c
  match c.1 with
  | some r=>pure r
  | none=>unsupported "internal:list.sort.merge-bound"):=by
 have e0:Kd a b=((_:StateT av Sem Unit) >>= (_:Unit->StateT av Sem (Array Keyed))):=rfl
 rw[e0]
 congr 1;funext u
 dsimp only
 congr 1;funext y
 congr 1
 congr 1
 congr 1;funext s
 congr 1
 rotate_left
 .funext c
  obtain⟨c1,c2,c3,c4,c5⟩:=c
  cases c1 <;> rfl
 congr 1
 funext x c
 unfold jad
 congr 1
 funext d
 obtain⟨d1,d2,d3,d4,d5,d6⟩:=d
 cases d1 with
 | some r=>rfl
 | none=>
  dsimp only
  congr 1;funext _
  congr 1
  funext e
  obtain⟨e1,e2,e3,e4,e5,e6,e7⟩:=e
  cases e1 <;> rfl
variable {out:Array Keyed}{mg ac bc g:Nat}
section
variable {b:Array Keyed}
theorem yq{l:Array Keyed}(h:y∈l.toList.drop i):∃j,∃h:j < l.size,i<=j/\y=l[j]:=by
 obtain⟨n,hn,rfl⟩:=rS.mp h;rw[oU]at hn;refine⟨i+n,by simp at hn;omega,by omega,?_⟩;rw[P3,dH]
theorem yN{l:Array Keyed}(h:SL κ l.toList)(hi:i < l.size)(hj:j < l.size)(dB:i<=j):Le κ l[i] l[j]:=by
 rcases oR i j with k | k
 .have:=Bu.mp h i j (by simpa using hi) (by simpa using hj) k
  rw[dH,dH]at this;exact this
 .have:i=j:=by omega
  subst this;exact lQ _
structure MC(κ:KeyKind)(a b:Array Keyed):Prop where
 ka:∀i (h:i < a.size),qd κ a[i]
 kb:∀i (h:i < b.size),qd κ b[i]
 sa:SL κ a.toList
 sb:SL κ b.toList
 last:∀j (h:j < b.size) (h':a.size - 1 < a.size),Le κ b[j] a[a.size - 1]
structure Alive(κ:KeyKind)(a b:Array Keyed)(N:Nat)(out:Array Keyed)(ia ib:Nat):Prop where
 inv:LoI κ a.toList b.toList out.toList ia ib
 la:ia+1 < a.size
 lb:ib < b.size
 many:N<=ia+ib
def PL(κ:KeyKind)(a b:Array Keyed)(st:av)(N:Nat)(r:ForInStep LoT)(aA:av):Prop:=(∃g,aA=qB st g)/\match r with
 | .done c=>(match c.1 with | some m=>qm κ a.toList b.toList m.toList | none=>Alive κ a b N c.2.1 c.2.2.1 c.2.2.2.1)
 | .yield c=>c.1=none/\Alive κ a b N c.2.1 c.2.2.1 c.2.2.2.1
theorem jdO:(zK a b out ia ib).toList=out.toList++a.toList.drop ia++b.toList.drop ib:=by
 unfold zK;rw[fR,fR,Yd,Yd]
theorem jdD:(JF a b out ia ib).toList=out.toList++b.toList.drop ib++a.toList.drop ia:=by
 unfold JF;rw[fR,fR,Yd,Yd]
theorem MC.fin(C:MC κ a b)(I:LoI κ a.toList b.toList out.toList ia ib)(h:ia=a.size\/ib=b.size):qm κ a.toList b.toList (zK a b out ia ib).toList:=by
 rw[jdO];refine I.done C.sa C.sb fun x hx y hy=>?_
 rcases h with rfl | rfl
 .rw[vy (by simp)]at hx;cases hx
 .rw[vy (by simp)]at hy;cases hy
theorem MC.fin2(C:MC κ a b)(I:LoI κ a.toList b.toList out.toList ia ib)(h:ia+1=a.size):qm κ a.toList b.toList (JF a b out ia ib).toList:=by
 rw[jdD];refine I.last C.sa C.sb fun x hx y hy=>?_
 obtain⟨j,hj,_,rfl⟩:=yq hx;obtain⟨i,hi,h1,rfl⟩:=yq hy;have:i=a.size - 1:=by omega
 subst this;exact C.last j hj hi
theorem zR:(out.push x).toList=out.toList++[x]:=by simp
theorem MC.pushA(C:MC κ a b)(I:LoI κ a.toList b.toList out.toList ia ib)(hi:ia < a.size)(h:∀j (hj:j < b.size),ib<=j->Le κ a[ia] b[j]):LoI κ a.toList b.toList (out.push a[ia]).toList (ia+1) ib:=by
 have:=I.pushA C.sa (by simpa using hi) fun y hy=>by
  obtain⟨j,hj,h1,rfl⟩:=yq hy;rw[dH];exact h j hj h1
 rw[dH]at this;rw[zR];exact this
theorem MC.pushB(C:MC κ a b)(I:LoI κ a.toList b.toList out.toList ia ib)(hi:ib < b.size)(h:∀j (hj:j < a.size),ia<=j->Le κ b[ib] a[j]):LoI κ a.toList b.toList (out.push b[ib]).toList ia (ib+1):=by
 have:=I.pushB C.sb (by simpa using hi) fun y hy=>by
  obtain⟨j,hj,h1,rfl⟩:=yq hy;rw[dH];exact h j hj h1
 rw[dH]at this;rw[zR];exact this
theorem MC.runA{k:Nat}(C:MC κ a b)(I:LoI κ a.toList b.toList out.toList ia ib)(hk:ia+k<=a.size)(h:∀i (hi:i < a.size),ia<=i->i < ia+k->∀j (hj:j < b.size),ib<=j->Le κ a[i] b[j]):LoI κ a.toList b.toList (out++a.extract ia (ia+k)).toList (ia+k) ib:=by
 have:=I.runA C.sa k (by simpa using hk) fun i hi h1 h2 y hy=>by
  obtain⟨j,hj,h3,rfl⟩:=yq hy;rw[dH];exact h i (by simpa using hi) h1 h2 j hj h3
 rw[fR,zg,Bt];exact this
theorem MC.runB{k:Nat}(C:MC κ a b)(I:LoI κ a.toList b.toList out.toList ia ib)(hk:ib+k<=b.size)(h:∀i (hi:i < b.size),ib<=i->i < ib+k->∀j (hj:j < a.size),ia<=j->Le κ b[i] a[j]):LoI κ a.toList b.toList (out++b.extract ib (ib+k)).toList ia (ib+k):=by
 have:=I.runB C.sb k (by simpa using hk) fun i hi h1 h2 y hy=>by
  obtain⟨j,hj,h3,rfl⟩:=yq hy;rw[dH];exact h i (by simpa using hi) h1 h2 j hj h3
 rw[fR,zg,Bt];exact this
variable {N:Nat}
theorem kh{l:Array Keyed}{Q:Keyed->av->Prop}(hi:i < l.size)(h:Q l[i] st):wpS (ao prog w) A E s (elem' l i) Q st:=by
 rw[Bm,getElem?_pos l i hi];exact aG h
theorem Jl{key:Keyed}{aZ:Nat}(hO:LtAt prog w A E s knd κ)(hk:kindOf st=knd)(hx:qd κ key)(hn:base+n<=arr.size)(hh:aZ < n)(hy:∀i (h:i < arr.size),qd κ arr[i])
  (hs:∀i j (hi:i < arr.size) (hj:j < arr.size),base<=i->i<=j->j < base+n->Le κ arr[i] arr[j])
  (h:∀k,k<=n->(∀i (hi:i < arr.size),base<=i->i < base+k->bey κ left key arr[i]=true)->(∀i (hi:i < arr.size),base+k<=i->i < base+n->bey κ left key arr[i]=false)->Q (some k) st):wpS (ao prog w) A E s (qX left key arr base n aZ) Q st:=by
 refine jbr (κ:=κ) hO hk hx hn hh hy (fun i=>if h:base+i < arr.size then bey κ left key arr[base+i] else false) (fun i hi _=>by rw[dif_pos hi]) (fun i j dB hj bg=>?_) fun k hk=>?_
 .rw[dif_pos (by omega)]at bg |-
  have l1:=hs (base+i) (base+j) (by omega) (by omega) (by omega) (by omega) (by omega)
  cases left with
  | true=>exact KeyOrd.klt_of_kle_of_klt l1 (show κ.klt _ _ from bg)
  | false=>
   have cV:κ.blt (kq κ key) (kq κ arr[base+j])=false:=by simpa[bey]using bg
   have:κ.blt (kq κ key) (kq κ arr[base+i])=false:=dR l1 (show κ.kle _ _ from cV)
   simpa[bey]using this
 .obtain⟨k1,k2,k3⟩:=hk
  refine h k k1 (fun i hi g1 g2=>?_) fun i hi g1 g2=>?_
  .have:=k2 (i - base) (by omega)
   dsimp only at this
   have e:base+(i - base)=i:=by omega
   simp only[e]at this
   rw[dif_pos hi]at this
   exact this
  .have:=k3 (i - base) (by omega) (by omega)
   dsimp only at this
   have e:base+(i - base)=i:=by omega
   simp only[e]at this
   rw[dif_pos hi]at this
   exact this
theorem jb8{key:Keyed}(h:bey κ true key x=true):Le κ x key:=iY (show κ.klt _ _ from h)
theorem jb9{key:Keyed}(h:bey κ true key x=false):Le κ key x:=h
theorem jca{key:Keyed}(h:bey κ false key x=true):Le κ x key:=by
 have:κ.blt (kq κ key) (kq κ x)=false:=by simpa[bey]using h
 exact this
theorem jcb{key:Keyed}(h:bey κ false key x=false):κ.klt (kq κ key) (kq κ x):=by
 have:κ.blt (kq κ key) (kq κ x)=true:=by simpa[bey]using h
 exact this
theorem jaH(C:MC κ a b)(I:LoI κ a.toList b.toList out.toList ia ib)(ha:ia+1 < a.size)(hb:ib < b.size)(hN:N<=ia+1+ib)(h:∀j (hj:j < b.size),ib<=j->Le κ a[ia] b[j]):
  wpS (ao prog w) A E s (jcG a b out ia ib mg ac bc) (PL κ a b st N) (qB st g):=by
 unfold jcG
 refine aC (kh (by omega) ?_)
 have I2:=C.pushA I (by omega) h
 by_cases h1:ia+1+1=a.size
 .rw[Qx (by simpa using h1)]
  exact aG ⟨⟨g,rfl⟩,C.fin2 I2 h1⟩
 .rw[Qw (by simpa using h1)]
  split
  .exact aG ⟨⟨g,rfl⟩,I2,(by show ia+1+1 < a.size;omega),hb,hN⟩
  .exact aG ⟨⟨g,rfl⟩,rfl,I2,(by show ia+1+1 < a.size;omega),hb,hN⟩
theorem jc7(C:MC κ a b){k:Nat}(I:LoI κ a.toList b.toList out.toList ia ib)(ha:ia+1 < a.size)(hb:ib < b.size)(hN:N<=ia+1+ib)(hk:ib+k<=b.size)
  (aP:∀i (hi:i < b.size),ib<=i->i < ib+k->Le κ b[i] a[ia]) (dt:∀j (hj:j < b.size),ib+k<=j->Le κ a[ia] b[j]) :
  wpS (ao prog w) A E s (jbU a b out ia ib mg ac k) (PL κ a b st N) (qB st g):=by
 unfold jbU
 by_cases h0:k > 0
 .rw[Qx h0]
  have I2:=C.runB I hk fun i hi h1 h2 j hj h3=>dR (aP i hi h1 h2) (yN C.sa (by omega) hj h3)
  by_cases h1:ib+k=b.size
  .rw[Qx (by simpa using h1)]
   exact aG ⟨⟨g,rfl⟩,C.fin I2 (.inr h1)⟩
  .rw[Qw (by simpa using h1)]
   exact jaH C I2 ha (by omega) (by omega) dt
 .rw[Qw h0]
  have:k=0:=by omega
  subst this
  exact jaH C I ha hb hN dt
theorem Y8(hO:LtAt prog w A E s knd κ)(cK:kindOf st=knd)(C:MC κ a b)(I:LoI κ a.toList b.toList out.toList ia ib)(ha:ia+1 < a.size)(hb:ib < b.size)(hN:N<=ia+ib)(h:∀j (hj:j < a.size),ia<=j->Le κ b[ib] a[j]):
  wpS (ao prog w) A E s (jae a b out ia ib mg ac bc) (PL κ a b st N) (qB st g):=by
 unfold jae
 refine aC (kh hb ?_)
 have I2:=C.pushB I hb h
 by_cases h1:ib+1=b.size
 .rw[Qx (by simpa using h1)]
  exact aG ⟨⟨g,rfl⟩,C.fin I2 (.inr h1)⟩
 .rw[Qw (by simpa using h1)]
  have fu:ia < a.size:=by omega
  refine aC (kh fu ?_)
  refine aC (Jl (κ:=κ) hO cK (C.ka _ fu) (by omega) (by omega) C.kb (fun i j hi hj _ dB _=>yN C.sb hi hj dB) fun k k1 k2 k3=>?_)
  exact jc7 C I2 ha (by omega) (by omega) (by omega) (fun i hi g1 g2=>jb8 (k2 i hi g1 g2)) fun j hj g1=>jb9 (k3 j hj g1 (by omega))
theorem jd9(hO:LtAt prog w A E s knd κ)(cK:kindOf st=knd)(C:MC κ a b)(L:Alive κ a b N out ia ib):wpS (ao prog w) A E s (jcF a b out ia ib mg ac bc) (PL κ a b st N) (qB st g):=by
 obtain⟨I,ha,hb,hN⟩:=L;unfold jcF;rw[qo];refine aC (gm ?_);refine aC (kh hb ?_);refine aC (Jl (κ:=κ) hO cK (C.kb _ hb) (by omega) (by omega) C.ka (fun i j hi hj _ dB _=>yN C.sa hi hj dB) fun k k1 k2 k3=>?_)
 .have le:∀i (hi:i < a.size),ia<=i->i < ia+k->Le κ a[i] b[ib]:=fun i hi g1 g2=>jca (k2 i hi g1 g2)
  have gt:∀i (hi:i < a.size),ia+k<=i->Le κ b[ib] a[i]:=fun i hi g1=>iY (jcb (k3 i hi g1 (by omega)))
  dsimp only;by_cases h0:k > 0
  .rw[Qx h0]
   have I2:=C.runA I (k:=k) (by omega) fun i hi g1 g2 j hj g3=>dR (le i hi g1 g2) (yN C.sb hb hj g3)
   by_cases h1:ia+k+1=a.size
   .rw[Qx (by simpa using h1)]
    exact aG ⟨⟨mg,rfl⟩,C.fin2 I2 h1⟩
   .rw[Qw (by simpa using h1)]
    by_cases h2:ia+k=a.size
    .rw[Qx (by simpa using h2)]
     exact aG ⟨⟨mg,rfl⟩,C.fin I2 (.inl h2)⟩
    .rw[Qw (by simpa using h2)]
     exact Y8 (st:=st) (g:=mg) hO cK C I2 (by omega) hb (by omega) gt
  .rw[Qw h0]
   have:k=0:=by omega
   subst this;exact Y8 (st:=st) (g:=mg) hO cK C I ha hb hN gt
theorem Alive.le{M:Nat}(h:Alive κ a b N out ia ib)(hm:M<=N):Alive κ a b M out ia ib:=⟨h.inv,h.la,h.lb,aJ hm h.many⟩
def PL1(κ:KeyKind)(a b:Array Keyed)(st:av)(N:Nat)(r:ForInStep jcf)(aA:av):Prop:=aA=st/\match r with
 | .done c=>(match c.1 with | some m=>qm κ a.toList b.toList m.toList | none=>Alive κ a b N c.2.1 c.2.2.1 c.2.2.2.1)
 | .yield c=>c.1=none/\Alive κ a b N c.2.1 c.2.2.1 c.2.2.2.1
theorem jd8(hO:LtAt prog w A E s knd κ)(cK:kindOf st=knd)(C:MC κ a b){c:jcf}(L:Alive κ a b N c.2.1 c.2.2.1 c.2.2.2.1):wpS (ao prog w) A E s (jfs a b mg c) (PL1 κ a b st (N+1)) st:=by
 obtain⟨r,out,ia,ib,ac,bc⟩:=c;obtain⟨I,ha,hb,hN⟩:=L;dsimp only at I ha hb hN;unfold jfs;dsimp only;have fu:ia < a.size:=by omega
 refine aC (kh hb ?_);refine aC (kh fu ?_);refine aC (ZN hO cK (C.kb _ hb) (C.ka _ fu) ?_);dsimp only
 cases hw:κ.blt (kq κ b[ib]) (kq κ a[ia]) with
 | true=>
  simp only[if_true];refine aC (kh hb ?_);have I2:=C.pushB I hb fun j hj h1=>dR (iY (show κ.klt _ _ from hw)) (yN C.sa fu hj h1)
  by_cases h1:ib+1=b.size
  .rw[Qx (by simpa using h1)]
   exact aG ⟨rfl,C.fin I2 (.inr h1)⟩
  .rw[Qw (by simpa using h1)]
   split
   .exact aG ⟨rfl,I2,ha,(by show ib+1 < b.size;omega),(by show N+1<=ia+(ib+1);omega)⟩
   .exact aG ⟨rfl,rfl,I2,ha,(by show ib+1 < b.size;omega),(by show N+1<=ia+(ib+1);omega)⟩
 | false=>
  simp only[eK,if_false];refine aC (kh fu ?_);have I2:=C.pushA I fu fun j hj h1=>dR (show κ.kle _ _ from hw) (yN C.sb hb hj h1)
  by_cases h1:ia+1+1=a.size
  .rw[Qx (by simpa using h1)]
   exact aG ⟨rfl,C.fin2 I2 h1⟩
  .rw[Qw (by simpa using h1)]
   split
   .exact aG ⟨rfl,I2,(by show ia+1+1 < a.size;omega),hb,(by show N+1<=ia+1+ib;omega)⟩
   .exact aG ⟨rfl,rfl,I2,(by show ia+1+1 < a.size;omega),hb,(by show N+1<=ia+1+ib;omega)⟩
def PL0(κ:KeyKind)(a b:Array Keyed)(st:av)(N:Nat)(r:ForInStep jcg)(aA:av):Prop:=(∃g,aA=qB st g)/\match r with
 | .done c=>∃m,c.1=some m/\qm κ a.toList b.toList m.toList
 | .yield c=>c.1=none/\Alive κ a b N c.2.1 c.2.2.1 c.2.2.2.1
theorem jc6(hO:LtAt prog w A E s knd κ)(cK:kindOf st=knd)(C:MC κ a b){c:jcg}(L:Alive κ a b N c.2.1 c.2.2.1 c.2.2.2.1):wpS (ao prog w) A E s (jad a b c) (PL0 κ a b st (N+1)) (qB st g):=by
 obtain⟨r,out,ia,ib,mg⟩:=c;dsimp only at L;unfold jad;dsimp only;have Ie:0 < a.size+b.size:=by have:=L.lb;omega
 refine aC (dj (eE (I:=fun (x:Nat) (d:jcf) (aA:av)=>aA=qB st g/\d.1=none/\Alive κ a b (N+min x 1) d.2.1 d.2.2.1 d.2.2.2.1)
  (Q:=fun (d:jcf) (aA:av)=>aA=qB st g/\match d.1 with | some m=>qm κ a.toList b.toList m.toList | none=>Alive κ a b (N+1) d.2.1 d.2.2.1 d.2.2.2.1) ?step ?fin ⟨rfl,rfl,L⟩) ?post)
 case fin=>
  rintro d aA ⟨rfl,hd,L'⟩
  refine⟨rfl,?_⟩
  rw[hd]
  exact L'.le (by omega)
 case step=>
  rintro x d aA _ hx ⟨rfl,hd,L'⟩
  refine dj (jd8 (st:=qB st g) hO cK C L') fun r cE hr=>?_
  obtain⟨rfl,hr⟩:=hr
  cases r with
  | done e=>
   refine⟨rfl,?_⟩;dsimp only at hr |-
   cases he:e.1 with
   | some m=>rw[he]at hr;exact hr
   | none=>rw[he]at hr;exact Alive.le hr (by omega)
  | yield e=>exact⟨rfl,hr.1,hr.2.le (by omega)⟩
 case post=>
  rintro⟨d1,d2,d3,d4,d5,d6⟩ aA ⟨rfl,hd⟩
  cases d1 with
  | some m=>exact aG ⟨⟨g,rfl⟩,m,rfl,hd⟩
  | none=>
   dsimp only at hd |-;refine aC (oP (lI ⟨rfl,?_⟩));refine aC (dj (eE (I:=fun (x:Nat) (e:LoT) (aA:av)=>(∃g',aA=qB st g')/\e.1=none/\Alive κ a b (N+1) e.2.1 e.2.2.1 e.2.2.2.1)
    (Q:=fun (e:LoT) (aA:av)=>(∃g',aA=qB st g')/\match e.1 with | some m=>qm κ a.toList b.toList m.toList | none=>Alive κ a b (N+1) e.2.1 e.2.2.1 e.2.2.2.1) ?step2 ?fin2 ⟨⟨g,rfl⟩,rfl,hd⟩) ?post2)
   case fin2=>
    rintro e aA ⟨hg,he,L'⟩
    refine⟨hg,?_⟩
    rw[he]
    exact L'
   case step2=>
    rintro x e aA _ hx ⟨⟨g',rfl⟩,he,L'⟩
    split
    all_goals
     refine dj (jd9 (st:=st) hO cK C L') fun r cE hr=>?_
     obtain⟨hg,hr⟩:=hr
     cases r with
     | done e=>exact⟨hg,hr⟩
     | yield e=>exact⟨hg,hr⟩
   case post2=>
    rintro⟨e1,e2,e3,e4,e5,e6,e7⟩ aA ⟨⟨g',rfl⟩,he⟩
    cases e1 with
    | some m=>exact aG ⟨⟨g',rfl⟩,m,rfl,he⟩
    | none=>
     dsimp only at he |-;rw[qo];exact aC (gm (aG ⟨⟨_,rfl⟩,rfl,he⟩))
theorem jaJ{Q:Array Keyed->av->Prop}(hO:LtAt prog w A E s knd κ)(cK:kindOf st=knd)(C:MC κ a b)(ha:0 < a.size)(hb:0 < b.size)(h1:∀i (h:i < a.size),Le κ b[0] a[i])
  (h:∀m g,qm κ a.toList b.toList m.toList->Q m (qB st g)):wpS (ao prog w) A E s (Kd a b) Q st:=by
 rw[ja4]
 refine aC (oP (lI ⟨rfl,?_⟩))
 refine aC (kh hb ?_)
 have I:LoI κ a.toList b.toList (#[b[0]]:Array Keyed).toList 0 1:=by
  have I0:LoI κ a.toList b.toList (#[]:Array Keyed).toList 0 0:=⟨Qb _,List.Pairwise.nil,fun x hx=>(by cases hx),fun x hx=>(by cases hx)⟩
  exact C.pushB I0 hb fun j hj _=>h1 j hj
 by_cases dD:1=b.size
 .rw[Qx (by simpa using dD)]
  exact aG (h _ (iX st) (C.fin I (.inr dD)))
 .rw[Qw (by simpa using dD)]
  by_cases ha1:0+1=a.size
  .rw[Qx (by simpa using ha1)]
   exact aG (h _ (iX st) (C.fin2 I ha1))
  .rw[Qw (by simpa using ha1)]
   refine aC (gn ?_)
   refine aC (dj (eE (I:=fun (x:Nat) (c:jcg) (aA:av)=>(∃g,aA=qB st g)/\c.1=none/\Alive κ a b x c.2.1 c.2.2.1 c.2.2.2.1)
    (Q:=fun (c:jcg) (aA:av)=>(∃g,aA=qB st g)/\∃m,c.1=some m/\qm κ a.toList b.toList m.toList) ?step ?fin ⟨⟨iX st,rfl⟩,rfl,I,(by show 0+1 < a.size;omega),(by show 1 < b.size;omega),bT _⟩) ?post)
   case fin=>
    rintro c aA ⟨hg,hc,L⟩
    have:=L.many
    have:=L.la
    have:=L.lb
    omega
   case step=>
    rintro x c aA _ hx ⟨⟨g,rfl⟩,hc,L⟩
    refine dj (jc6 (st:=st) hO cK C L) fun r cE hr=>?_
    obtain⟨hg,hr⟩:=hr
    cases r with
    | done e=>exact⟨hg,hr⟩
    | yield e=>exact⟨hg,hr⟩
   case post=>
    rintro⟨c1,c2⟩ aA ⟨⟨g,rfl⟩,m,hm,hg⟩
    dsimp only at hm
    subst hm
    exact aG (h m g hg)
end
variable {na nb:Nat}
section
variable {A B L:List Keyed}
structure HiI(κ:KeyKind)(A B L:List Keyed)(na nb:Nat):Prop where
 perm:L.Perm (A.drop na++B.drop nb)
 srt:L.Pairwise fun p q=>Le κ q p
 ba:∀x∈L,∀y∈A.take na,Le κ y x
 bb:∀x∈L,∀y∈B.take nb,Le κ y x
theorem HiI.swap(I:HiI κ A B L na nb):HiI κ B A L nb na:=⟨I.perm.trans lT,I.srt,I.bb,I.ba⟩
theorem HiI.pushA(I:HiI κ A B L (na+1) nb)(sa:SL κ A)(hi:na < A.length)(h:∀y∈B.take nb,Le κ y A[na]):HiI κ A B (L++[A[na]]) na nb:=by
 have et:A.take (na+1)=A.take na++[A[na]]:=by rw[eI,aK hi];rfl
 refine⟨?_,?_,fun x hx y hy=>?_,fun x hx y hy=>?_⟩
 .rw[yM hi]
  refine (I.perm.append_right _).trans ?_;exact lT
 .exact ip.mpr ⟨I.srt,vq _ _,fun x hx y hy=>by
   cases aN.mp hy
   exact I.ba x hx _ (by rw[et];exact cN _ (aN.mpr rfl))⟩
 .rcases bK.mp hx with hx | hx
  .exact I.ba x hx y (by rw[et];exact vx _ hy)
  .cases aN.mp hx
   have:=sa.take (i:=na+1);rw[et]at this;exact (ip.mp this).2.2 y hy _ (by simp)
 .rcases bK.mp hx with hx | hx
  .exact I.bb x hx y hy
  .cases aN.mp hx
   exact h y hy
theorem HiI.runA(sa:SL κ A){at_:Nat}:∀k {L:List Keyed},HiI κ A B L (at_+k) nb->at_+k<=A.length->(∀i (h:i < A.length),at_<=i->i < at_+k->∀y∈B.take nb,Le κ y A[i])->HiI κ A B (L++((A.drop at_).take k).reverse) at_ nb
 | 0,L,I,_,_=>by
  rw[io,List.reverse_nil,dl];exact I
 | k+1,L,I,hk,h=>by
  have hi:at_+k < A.length:=by omega
  have I2:HiI κ A B (L++[A[at_+k]]) (at_+k) nb:=HiI.pushA I sa hi (h _ hi (by omega) (by omega));have ih:=HiI.runA sa k I2 (by omega) fun i hi h1 h2=>h i hi h1 (by omega)
  rw[bh]at ih;rw[eI,F3,aK hi,List.reverse_append];exact ih
theorem HiI.done(I:HiI κ A B L na nb)(sa:SL κ A)(sb:SL κ B)(h:∀x∈A.take na,∀y∈B.take nb,Le κ x y):qm κ A B (A.take na++B.take nb++L.reverse):=by
 refine⟨?_,?_⟩
 .have e1:=nr na A
  have e2:=nr nb B;have h1:(A.take na++B.take nb++L.reverse).Perm ((A.take na++B.take nb)++(A.drop na++B.drop nb)):=((List.reverse_perm L).trans I.perm).append_left _;refine h1.trans ?_;have h2:((A.take na++B.take nb)++(A.drop na++B.drop nb)).Perm ((A.take na++A.drop na)++(B.take nb++B.drop nb)):=by
   rw[bh,bh];refine Qc _ ?_;rw[<- bh,<- bh];exact lT.append_right _
  rw[e1,e2]at h2;exact h2
 .refine ip.mpr ⟨ip.mpr ⟨sa.take,sb.take,h⟩,List.pairwise_reverse.mpr I.srt,fun x hx y hy=>?_⟩
  have fE:=List.mem_reverse.mp hy;rcases bK.mp hx with hx | hx
  .exact I.ba y fE x hx
  .exact I.bb y fE x hx
theorem HiI.first(I:HiI κ A B L na nb)(sa:SL κ A)(sb:SL κ B)(h:∀x∈B.take nb,∀y∈A.take na,Le κ x y):qm κ A B (B.take nb++A.take na++L.reverse):=by
 obtain⟨h1,h2⟩:=I.swap.done sb sa h;exact⟨h1.trans lT,h2⟩
end
abbrev zL(a b out:Array Keyed)(na nb:Nat):Array Keyed:=a.extract 0 na++b.extract 0 nb++out.reverse
abbrev yL(a b out:Array Keyed)(na nb:Nat):Array Keyed:=b.extract 0 nb++a.extract 0 na++out.reverse
abbrev HiT:Type:=Option (Array Keyed)×Nat×Nat×Array Keyed×Nat×Nat×Nat
abbrev jch:Type:=Option (Array Keyed)×Nat×Nat×Array Keyed×Nat×Nat
abbrev jci:Type:=Option (Array Keyed)×Nat×Nat×Array Keyed×Nat
def jcL(a b:Array Keyed)(na nb:Nat)(out:Array Keyed)(mg ac bc:Nat):StateT av Sem (ForInStep HiT):=do
 let x <- elem' a (na - 1)
 if na - 1 == 0 then return .done (some (zL a b (out.push x) (na - 1) nb),na - 1,nb,out.push x,mg,ac,bc)
 else if (decide (ac < 7) && decide (bc < 7))=true then return .done (none,na - 1,nb,out.push x,mg,ac,bc)
 else return .yield (none,na - 1,nb,out.push x,mg,ac,bc)
def jbY(a b:Array Keyed)(na nb:Nat)(out:Array Keyed)(mg ac at_:Nat):StateT av Sem (ForInStep HiT):=
 if nb - at_ > 0 then
  if at_ == 1 then return .done (some (yL a b (out++(b.extract at_ nb).reverse) na at_),na,at_,out++(b.extract at_ nb).reverse,mg,ac,nb - at_)
  else if at_ == 0 then return .done (some (zL a b (out++(b.extract at_ nb).reverse) na at_),na,at_,out++(b.extract at_ nb).reverse,mg,ac,nb - at_)
  else jcL a b na at_ (out++(b.extract at_ nb).reverse) mg ac (nb - at_)
 else jcL a b na nb out mg ac (nb - at_)
def jan(a b:Array Keyed)(na nb:Nat)(out:Array Keyed)(mg ac bc:Nat):StateT av Sem (ForInStep HiT):=do
 let y <- elem' b (nb - 1)
 if nb - 1 == 1 then return .done (some (yL a b (out.push y) na (nb - 1)),na,nb - 1,out.push y,mg,ac,bc)
 else do
  let x <- elem' a (na - 1)
  let r <- qX true x b 0 (nb - 1) (nb - 1 - 1)
  match r with
  | some at_=>jbY a b na (nb - 1) (out.push y) mg ac at_
  | _=>return .done (some (zL a b (out.push y) na (nb - 1)),na,nb - 1,out.push y,mg,ac,bc)
def jcK(a b:Array Keyed)(na nb:Nat)(out:Array Keyed)(mg ac bc:Nat):StateT av Sem (ForInStep HiT):=do
 qu mg
 let y <- elem' b (nb - 1)
 let r <- qX false y a 0 na (na - 1)
 match r with
 | some at_=>
  if na - at_ > 0 then
   if at_ == 0 then return .done (some (zL a b (out++(a.extract at_ na).reverse) at_ nb),at_,nb,out++(a.extract at_ na).reverse,mg,na - at_,bc)
   else jan a b at_ nb (out++(a.extract at_ na).reverse) mg (na - at_) bc
  else jan a b na nb out mg (na - at_) bc
 | _=>return .done (some (zL a b out na nb),na,nb,out,mg,ac,bc)
def jfD(a b:Array Keyed)(mg:Nat)(c:jch):StateT av Sem (ForInStep jch):=do
 let y <- elem' b (c.2.2.1 - 1)
 let x <- elem' a (c.2.1 - 1)
 let r <- lt' y x
 match r with
 | some aWins=>
  if aWins=true then do
   let x <- elem' a (c.2.1 - 1)
   if c.2.1 - 1 == 0 then return .done (some (zL a b (c.2.2.2.1.push x) (c.2.1 - 1) c.2.2.1),c.2.1 - 1,c.2.2.1,c.2.2.2.1.push x,c.2.2.2.2.1+1,0)
   else if c.2.2.2.2.1+1 >= mg then return .done (none,c.2.1 - 1,c.2.2.1,c.2.2.2.1.push x,c.2.2.2.2.1+1,0)
   else return .yield (none,c.2.1 - 1,c.2.2.1,c.2.2.2.1.push x,c.2.2.2.2.1+1,0)
  else do
   let y <- elem' b (c.2.2.1 - 1)
   if c.2.2.1 - 1 == 1 then return .done (some (yL a b (c.2.2.2.1.push y) c.2.1 (c.2.2.1 - 1)),c.2.1,c.2.2.1 - 1,c.2.2.2.1.push y,0,c.2.2.2.2.2+1)
   else if c.2.2.2.2.2+1 >= mg then return .done (none,c.2.1,c.2.2.1 - 1,c.2.2.2.1.push y,0,c.2.2.2.2.2+1)
   else return .yield (none,c.2.1,c.2.2.1 - 1,c.2.2.2.1.push y,0,c.2.2.2.2.2+1)
 | _=>return .done (some (zL a b c.2.2.2.1 c.2.1 c.2.2.1),c.2.1,c.2.2.1,c.2.2.2.1,c.2.2.2.2.1,c.2.2.2.2.2)
def jam(a b:Array Keyed)(c:jci):StateT av Sem (ForInStep jci):=do
 let d <- forIn [0:a.size+b.size] ((none,c.2.1,c.2.2.1,c.2.2.2.1,0,0):jch) fun _ d=>jfD a b c.2.2.2.2 d
 match d.1 with
 | some r=>return .done (some r,d.2.1,d.2.2.1,d.2.2.2.1,c.2.2.2.2)
 | none=>do
  rule "list.sort.gallop"
  let e <- forIn [0:a.size+b.size] ((none,d.2.1,d.2.2.1,d.2.2.2.1,c.2.2.2.2+1,d.2.2.2.2.1,d.2.2.2.2.2):HiT) fun _ e=>
   if e.2.2.2.2.1 > 1 then jcK a b e.2.1 e.2.2.1 e.2.2.2.1 (e.2.2.2.2.1 - 1) e.2.2.2.2.2.1 e.2.2.2.2.2.2
   else jcK a b e.2.1 e.2.2.1 e.2.2.2.1 e.2.2.2.2.1 e.2.2.2.2.2.1 e.2.2.2.2.2.2
  match e.1 with
  | some r=>return .done (some r,e.2.1,e.2.2.1,e.2.2.2.1,e.2.2.2.2.1)
  | none=>do
   qu (e.2.2.2.2.1+1)
   return .yield (none,e.2.1,e.2.2.1,e.2.2.2.1,e.2.2.2.2.1+1)
set_option maxHeartbeats 4000000 in
theorem ja5(a b:Array Keyed):Ke a b=(do
 rule "list.sort.merge-hi"
 let y <- elem' a (a.size - 1)
 if a.size - 1 == 0 then return zL a b #[y] (a.size - 1) b.size
 else if b.size == 1 then return yL a b #[y] (a.size - 1) b.size
 else do
  let s <- get
  let c <- forIn [0:a.size+b.size] ((none,a.size - 1,b.size,#[y],iX s):jci) fun _ c=>jam a b c
  match c.1 with
  | some r=>pure r
  | none=>unsupported "internal:list.sort.merge-bound"):=by
 have e0:Ke a b=((_:StateT av Sem Unit) >>= (_:Unit->StateT av Sem (Array Keyed))):=rfl
 rw[e0]
 congr 1;funext u
 dsimp only
 congr 1;funext y
 congr 1
 congr 1
 congr 1;funext s
 congr 1
 rotate_left
 .funext c
  obtain⟨c1,c2,c3,c4,c5⟩:=c
  cases c1 <;> rfl
 congr 1
 funext x c
 unfold jam
 congr 1
 funext d
 obtain⟨d1,d2,d3,d4,d5,d6⟩:=d
 cases d1 with
 | some r=>rfl
 | none=>
  dsimp only
  congr 1;funext _
  congr 1
  funext e
  obtain⟨e1,e2,e3,e4,e5,e6,e7⟩:=e
  cases e1 <;> rfl
section
variable {b:Array Keyed}
theorem yp{l:Array Keyed}(h:y∈l.toList.take n):∃j,∃h:j < l.size,j < n/\y=l[j]:=by
 obtain⟨i,hi,rfl⟩:=rS.mp h;rw[cw]at hi;refine⟨i,by simp at hi;omega,by omega,?_⟩;rw[P0,dH]
theorem Kl{l:Array Keyed}:(l.extract 0 n).toList=l.toList.take n:=by
 rw[zg,List.drop_zero,Nat.sub_zero]
theorem jbe:(zL a b out na nb).toList=a.toList.take na++b.toList.take nb++out.toList.reverse:=by
 unfold zL;rw[fR,fR,Kl,Kl,BC]
theorem jap:(yL a b out na nb).toList=b.toList.take nb++a.toList.take na++out.toList.reverse:=by
 unfold yL;rw[fR,fR,Kl,Kl,BC]
structure MD(κ:KeyKind)(a b:Array Keyed):Prop where
 ka:∀i (h:i < a.size),qd κ a[i]
 kb:∀i (h:i < b.size),qd κ b[i]
 sa:SL κ a.toList
 sb:SL κ b.toList
 first:∀i (h:i < a.size) (h':0 < b.size),Le κ b[0] a[i]
structure AliveH(κ:KeyKind)(a b:Array Keyed)(N:Nat)(out:Array Keyed)(na nb:Nat):Prop where
 inv:HiI κ a.toList b.toList out.toList na nb
 la:0 < na
 la2:na<=a.size
 lb:1 < nb
 lb2:nb<=b.size
 many:N+na+nb<=a.size+b.size
theorem MD.fin(C:MD κ a b)(I:HiI κ a.toList b.toList out.toList na nb)(h:na=0\/nb=0):qm κ a.toList b.toList (zL a b out na nb).toList:=by
 rw[jbe];refine I.done C.sa C.sb fun x hx y hy=>?_
 rcases h with rfl | rfl
 .cases hx
 .cases hy
theorem MD.fin2(C:MD κ a b)(I:HiI κ a.toList b.toList out.toList na nb)(h:nb=1):qm κ a.toList b.toList (yL a b out na nb).toList:=by
 rw[jap];refine I.first C.sa C.sb fun x hx y hy=>?_
 obtain⟨j,hj,g1,rfl⟩:=yp hx;obtain⟨i,hi,g2,rfl⟩:=yp hy;have:j=0:=by omega
 subst this;exact C.first i hi hj
theorem MD.pushA(C:MD κ a b)(I:HiI κ a.toList b.toList out.toList na nb)(h0:0 < na)(hi:na - 1 < a.size)(h:∀j (hj:j < b.size),j < nb->Le κ b[j] a[na - 1]):HiI κ a.toList b.toList (out.push a[na - 1]).toList (na - 1) nb:=by
 obtain⟨n,rfl⟩:∃n,na=n+1:=⟨na - 1,by omega⟩
 have:=I.pushA C.sa (by simpa using hi) fun y hy=>by
  obtain⟨j,hj,h1,rfl⟩:=yp hy;rw[dH];exact h j hj h1
 rw[dH]at this;rw[zR];exact this
theorem MD.pushB(C:MD κ a b)(I:HiI κ a.toList b.toList out.toList na nb)(h0:0 < nb)(hi:nb - 1 < b.size)(h:∀j (hj:j < a.size),j < na->Le κ a[j] b[nb - 1]):HiI κ a.toList b.toList (out.push b[nb - 1]).toList na (nb - 1):=by
 obtain⟨n,rfl⟩:∃n,nb=n+1:=⟨nb - 1,by omega⟩
 have:=I.swap.pushA C.sb (by simpa using hi) fun y hy=>by
  obtain⟨j,hj,h1,rfl⟩:=yp hy;rw[dH];exact h j hj h1
 rw[dH]at this;rw[zR];exact this.swap
theorem MD.runA{at_:Nat}(C:MD κ a b)(I:HiI κ a.toList b.toList out.toList na nb)(hk:at_<=na)(hn:na<=a.size)(h:∀i (hi:i < a.size),at_<=i->i < na->∀j (hj:j < b.size),j < nb->Le κ b[j] a[i]):HiI κ a.toList b.toList (out++(a.extract at_ na).reverse).toList at_ nb:=by
 obtain⟨k,rfl⟩:∃k,na=at_+k:=⟨na - at_,by omega⟩
 have:=HiI.runA C.sa k I (by simpa using hn) fun i hi h1 h2 y hy=>by
  obtain⟨j,hj,h3,rfl⟩:=yp hy;rw[dH];exact h i (by simpa using hi) h1 h2 j hj h3
 rw[fR,BC,zg,Bt];exact this
theorem MD.runB{at_:Nat}(C:MD κ a b)(I:HiI κ a.toList b.toList out.toList na nb)(hk:at_<=nb)(hn:nb<=b.size)(h:∀i (hi:i < b.size),at_<=i->i < nb->∀j (hj:j < a.size),j < na->Le κ a[j] b[i]):HiI κ a.toList b.toList (out++(b.extract at_ nb).reverse).toList na at_:=by
 obtain⟨k,rfl⟩:∃k,nb=at_+k:=⟨nb - at_,by omega⟩
 have:=HiI.runA C.sb k I.swap (by simpa using hn) fun i hi h1 h2 y hy=>by
  obtain⟨j,hj,h3,rfl⟩:=yp hy;rw[dH];exact h i (by simpa using hi) h1 h2 j hj h3
 rw[fR,BC,zg,Bt];exact this.swap
variable {N:Nat}
def PH(κ:KeyKind)(a b:Array Keyed)(st:av)(N:Nat)(r:ForInStep HiT)(aA:av):Prop:=(∃g,aA=qB st g)/\match r with
 | .done c=>(match c.1 with | some m=>qm κ a.toList b.toList m.toList | none=>AliveH κ a b N c.2.2.2.1 c.2.1 c.2.2.1)
 | .yield c=>c.1=none/\AliveH κ a b N c.2.2.2.1 c.2.1 c.2.2.1
theorem jaI(C:MD κ a b)(I:HiI κ a.toList b.toList out.toList na nb)(ha:0 < na)(eU:na<=a.size)(hb:1 < nb)(cV:nb<=b.size)(hN:N+na+nb<=a.size+b.size+1)(h:∀j (hj:j < b.size),j < nb->Le κ b[j] (a[na - 1]'(by omega+splitNatSub))):
  wpS (ao prog w) A E s (jcL a b na nb out mg ac bc) (PH κ a b st N) (qB st g):=by
 unfold jcL
 refine aC (kh (by omega) ?_)
 have I2:=C.pushA I ha (by omega) h
 by_cases h1:na - 1=0
 .rw[Qx (by simpa using h1)]
  exact aG ⟨⟨g,rfl⟩,C.fin I2 (.inl h1)⟩
 .rw[Qw (by simpa using h1)]
  have L:AliveH κ a b N (out.push (a[na - 1]'(by omega+splitNatSub))) (na - 1) nb:=⟨I2,by omega,by omega,hb,cV,by omega⟩
  split
  .exact aG ⟨⟨g,rfl⟩,L⟩
  .exact aG ⟨⟨g,rfl⟩,rfl,L⟩
theorem jc9(C:MD κ a b){at_:Nat}(I:HiI κ a.toList b.toList out.toList na nb)(ha:0 < na)(eU:na<=a.size)(hb:1 < nb)(cV:nb<=b.size)(hN:N+na+nb<=a.size+b.size+1)(hk:at_<=nb)
  (aP:∀i (hi:i < b.size),i < at_->Le κ b[i] (a[na - 1]'(by omega+splitNatSub))) (dt:∀j (hj:j < b.size),at_<=j->j < nb->Le κ (a[na - 1]'(by omega+splitNatSub)) b[j]) :
  wpS (ao prog w) A E s (jbY a b na nb out mg ac at_) (PH κ a b st N) (qB st g):=by
 unfold jbY
 by_cases h0:nb - at_ > 0
 .rw[Qx h0]
  have I2:=C.runB I (at_:=at_) (by omega) cV fun i hi h1 h2 j hj h3=>dR (yN C.sa hj (by omega) (by omega)) (dt i hi h1 h2)
  by_cases h1:at_=1
  .rw[Qx (by simpa using h1)]
   exact aG ⟨⟨g,rfl⟩,C.fin2 I2 h1⟩
  .rw[Qw (by simpa using h1)]
   by_cases h2:at_=0
   .rw[Qx (by simpa using h2)]
    exact aG ⟨⟨g,rfl⟩,C.fin I2 (.inr h2)⟩
   .rw[Qw (by simpa using h2)]
    exact jaI C I2 ha eU (by omega) (by omega) (by omega) fun j hj h3=>aP j hj h3
 .rw[Qw h0]
  exact jaI C I ha eU hb cV hN fun j hj h3=>aP j hj (by omega)
theorem Y9(hO:LtAt prog w A E s knd κ)(cK:kindOf st=knd)(C:MD κ a b)(I:HiI κ a.toList b.toList out.toList na nb)(ha:0 < na)(eU:na<=a.size)(hb:1 < nb)(cV:nb<=b.size)(hN:N+na+nb<=a.size+b.size)
  (h:∀j (hj:j < a.size),j < na->Le κ a[j] (b[nb - 1]'(by omega+splitNatSub))):wpS (ao prog w) A E s (jan a b na nb out mg ac bc) (PH κ a b st N) (qB st g):=by
 unfold jan
 refine aC (kh (by omega) ?_)
 have I2:=C.pushB I (by omega) (by omega) h
 by_cases h1:nb - 1=1
 .rw[Qx (by simpa using h1)]
  exact aG ⟨⟨g,rfl⟩,C.fin2 I2 h1⟩
 .rw[Qw (by simpa using h1)]
  refine aC (kh (by omega) ?_)
  refine aC (Jl (κ:=κ) hO cK (C.ka _ (by omega)) (by omega) (by omega) C.kb (fun i j hi hj _ dB _=>yN C.sb hi hj dB) fun k k1 k2 k3=>?_)
  exact jc9 C I2 ha eU (by omega) (by omega) (by omega) k1 (fun i hi g2=>jb8 (k2 i hi (bT _) (by omega))) fun j hj g1 g2=>jb9 (k3 j hj (by omega) (by omega))
theorem jeb(hO:LtAt prog w A E s knd κ)(cK:kindOf st=knd)(C:MD κ a b)(L:AliveH κ a b N out na nb):wpS (ao prog w) A E s (jcK a b na nb out mg ac bc) (PH κ a b st N) (qB st g):=by
 obtain⟨I,ha,eU,hb,cV,hN⟩:=L;unfold jcK;rw[qo];refine aC (gm ?_);refine aC (kh (by omega) ?_);refine aC (Jl (κ:=κ) hO cK (C.kb _ (by omega)) (by omega) (by omega) C.ka (fun i j hi hj _ dB _=>yN C.sa hi hj dB) fun k k1 k2 k3=>?_);have le:∀i (hi:i < a.size),i < k->Le κ a[i] (b[nb - 1]'(by omega+splitNatSub)):=fun i hi g2=>jca (k2 i hi (bT _) (by omega))
 have gt:∀i (hi:i < a.size),k<=i->i < na->Le κ (b[nb - 1]'(by omega+splitNatSub)) a[i]:=fun i hi g1 g2=>iY (jcb (k3 i hi (by omega) (by omega)))
 dsimp only;by_cases h0:na - k > 0
 .rw[Qx h0]
  have I2:=C.runA I (at_:=k) (by omega) eU fun i hi g1 g2 j hj g3=>dR (yN C.sb hj (by omega) (by omega)) (gt i hi g1 g2)
  by_cases h1:k=0
  .rw[Qx (by simpa using h1)]
   exact aG ⟨⟨mg,rfl⟩,C.fin I2 (.inl h1)⟩
  .rw[Qw (by simpa using h1)]
   exact Y9 (st:=st) (g:=mg) hO cK C I2 (by omega) (by omega) hb cV (by omega) fun j hj g1=>le j hj g1
 .rw[Qw h0]
  exact Y9 (st:=st) (g:=mg) hO cK C I ha eU hb cV hN fun j hj g1=>le j hj (by omega)
theorem AliveH.le{M:Nat}(h:AliveH κ a b N out na nb)(hm:M<=N):AliveH κ a b M out na nb:=⟨h.inv,h.la,h.la2,h.lb,h.lb2,by have:=h.many;omega⟩
def PH1(κ:KeyKind)(a b:Array Keyed)(st:av)(N:Nat)(r:ForInStep jch)(aA:av):Prop:=aA=st/\match r with
 | .done c=>(match c.1 with | some m=>qm κ a.toList b.toList m.toList | none=>AliveH κ a b N c.2.2.2.1 c.2.1 c.2.2.1)
 | .yield c=>c.1=none/\AliveH κ a b N c.2.2.2.1 c.2.1 c.2.2.1
theorem jea(hO:LtAt prog w A E s knd κ)(cK:kindOf st=knd)(C:MD κ a b){c:jch}(L:AliveH κ a b N c.2.2.2.1 c.2.1 c.2.2.1):wpS (ao prog w) A E s (jfD a b mg c) (PH1 κ a b st (N+1)) st:=by
 obtain⟨r,na,nb,out,ac,bc⟩:=c;obtain⟨I,ha,eU,hb,cV,hN⟩:=L;dsimp only at I ha eU hb cV hN;unfold jfD;dsimp only;have fu:na - 1 < a.size:=by omega
 have bg:nb - 1 < b.size:=by omega
 refine aC (kh bg ?_);refine aC (kh fu ?_);refine aC (ZN hO cK (C.kb _ bg) (C.ka _ fu) ?_);dsimp only
 cases hw:κ.blt (kq κ b[nb - 1]) (kq κ a[na - 1]) with
 | true=>
  simp only[if_true];refine aC (kh fu ?_);have I2:=C.pushA I ha fu fun j hj h1=>dR (yN C.sb hj bg (by omega)) (iY (show κ.klt _ _ from hw))
  by_cases h1:na - 1=0
  .rw[Qx (by simpa using h1)]
   exact aG ⟨rfl,C.fin I2 (.inl h1)⟩
  .rw[Qw (by simpa using h1)]
   have L2:AliveH κ a b (N+1) (out.push a[na - 1]) (na - 1) nb:=⟨I2,by omega,by omega,hb,cV,by omega⟩
   split
   .exact aG ⟨rfl,L2⟩
   .exact aG ⟨rfl,rfl,L2⟩
 | false=>
  simp only[eK,if_false];refine aC (kh bg ?_);have I2:=C.pushB I (by omega) bg fun j hj h1=>dR (yN C.sa hj fu (by omega)) (show κ.kle _ _ from hw)
  by_cases h1:nb - 1=1
  .rw[Qx (by simpa using h1)]
   exact aG ⟨rfl,C.fin2 I2 h1⟩
  .rw[Qw (by simpa using h1)]
   have L2:AliveH κ a b (N+1) (out.push b[nb - 1]) na (nb - 1):=⟨I2,ha,eU,by omega,by omega,by omega⟩
   split
   .exact aG ⟨rfl,L2⟩
   .exact aG ⟨rfl,rfl,L2⟩
def PH0(κ:KeyKind)(a b:Array Keyed)(st:av)(N:Nat)(r:ForInStep jci)(aA:av):Prop:=(∃g,aA=qB st g)/\match r with
 | .done c=>∃m,c.1=some m/\qm κ a.toList b.toList m.toList
 | .yield c=>c.1=none/\AliveH κ a b N c.2.2.2.1 c.2.1 c.2.2.1
theorem jc8(hO:LtAt prog w A E s knd κ)(cK:kindOf st=knd)(C:MD κ a b){c:jci}(L:AliveH κ a b N c.2.2.2.1 c.2.1 c.2.2.1):wpS (ao prog w) A E s (jam a b c) (PH0 κ a b st (N+1)) (qB st g):=by
 obtain⟨r,na,nb,out,mg⟩:=c;dsimp only at L;unfold jam;dsimp only;have Ie:0 < a.size+b.size:=by have:=L.lb;have:=L.lb2;omega
 refine aC (dj (eE (I:=fun (x:Nat) (d:jch) (aA:av)=>aA=qB st g/\d.1=none/\AliveH κ a b (N+min x 1) d.2.2.2.1 d.2.1 d.2.2.1)
  (Q:=fun (d:jch) (aA:av)=>aA=qB st g/\match d.1 with | some m=>qm κ a.toList b.toList m.toList | none=>AliveH κ a b (N+1) d.2.2.2.1 d.2.1 d.2.2.1) ?step ?fin ⟨rfl,rfl,L⟩) ?post)
 case fin=>
  rintro d aA ⟨rfl,hd,L'⟩
  refine⟨rfl,?_⟩
  rw[hd]
  exact L'.le (by omega)
 case step=>
  rintro x d aA _ hx ⟨rfl,hd,L'⟩
  refine dj (jea (st:=qB st g) hO cK C L') fun r cE hr=>?_
  obtain⟨rfl,hr⟩:=hr
  cases r with
  | done e=>
   refine⟨rfl,?_⟩;dsimp only at hr |-
   cases he:e.1 with
   | some m=>rw[he]at hr;exact hr
   | none=>rw[he]at hr;exact AliveH.le hr (by omega)
  | yield e=>exact⟨rfl,hr.1,hr.2.le (by omega)⟩
 case post=>
  rintro⟨d1,d2,d3,d4,d5,d6⟩ aA ⟨rfl,hd⟩
  cases d1 with
  | some m=>exact aG ⟨⟨g,rfl⟩,m,rfl,hd⟩
  | none=>
   dsimp only at hd |-;refine aC (oP (lI ⟨rfl,?_⟩));refine aC (dj (eE (I:=fun (x:Nat) (e:HiT) (aA:av)=>(∃g',aA=qB st g')/\e.1=none/\AliveH κ a b (N+1) e.2.2.2.1 e.2.1 e.2.2.1)
    (Q:=fun (e:HiT) (aA:av)=>(∃g',aA=qB st g')/\match e.1 with | some m=>qm κ a.toList b.toList m.toList | none=>AliveH κ a b (N+1) e.2.2.2.1 e.2.1 e.2.2.1) ?step2 ?fin2 ⟨⟨g,rfl⟩,rfl,hd⟩) ?post2)
   case fin2=>
    rintro e aA ⟨hg,he,L'⟩
    refine⟨hg,?_⟩
    rw[he]
    exact L'
   case step2=>
    rintro x e aA _ hx ⟨⟨g',rfl⟩,he,L'⟩
    split
    all_goals
     refine dj (jeb (st:=st) hO cK C L') fun r cE hr=>?_
     obtain⟨hg,hr⟩:=hr
     cases r with
     | done e=>exact⟨hg,hr⟩
     | yield e=>exact⟨hg,hr⟩
   case post2=>
    rintro⟨e1,e2,e3,e4,e5,e6,e7⟩ aA ⟨⟨g',rfl⟩,he⟩
    cases e1 with
    | some m=>exact aG ⟨⟨g',rfl⟩,m,rfl,he⟩
    | none=>
     dsimp only at he |-;rw[qo];exact aC (gm (aG ⟨⟨_,rfl⟩,rfl,he⟩))
theorem jaK{Q:Array Keyed->av->Prop}(hO:LtAt prog w A E s knd κ)(cK:kindOf st=knd)(C:MD κ a b)(ha:0 < a.size)(hb:0 < b.size)(h1:∀j (h:j < b.size),Le κ b[j] (a[a.size - 1]'(by omega+splitNatSub)))
  (h:∀m g,qm κ a.toList b.toList m.toList->Q m (qB st g)):wpS (ao prog w) A E s (Ke a b) Q st:=by
 rw[ja5]
 refine aC (oP (lI ⟨rfl,?_⟩))
 refine aC (kh (by omega) ?_)
 have I:HiI κ a.toList b.toList (#[a[a.size - 1]'(by omega+splitNatSub)]:Array Keyed).toList (a.size - 1) b.size:=by
  have I0:HiI κ a.toList b.toList (#[]:Array Keyed).toList a.size b.size:=⟨by rw[vy (by simp),vy (by simp)];exact Qb _,List.Pairwise.nil,fun x hx=>(by cases hx),fun x hx=>(by cases hx)⟩
  exact C.pushA I0 ha (by omega) fun j hj _=>h1 j hj
 by_cases dD:a.size - 1=0
 .rw[Qx (by simpa using dD)]
  exact aG (h _ (iX st) (C.fin I (.inl dD)))
 .rw[Qw (by simpa using dD)]
  by_cases ha1:b.size=1
  .rw[Qx (by simpa using ha1)]
   exact aG (h _ (iX st) (C.fin2 I ha1))
  .rw[Qw (by simpa using ha1)]
   refine aC (gn ?_)
   refine aC (dj (eE (I:=fun (x:Nat) (c:jci) (aA:av)=>(∃g,aA=qB st g)/\c.1=none/\AliveH κ a b x c.2.2.2.1 c.2.1 c.2.2.1)
    (Q:=fun (c:jci) (aA:av)=>(∃g,aA=qB st g)/\∃m,c.1=some m/\qm κ a.toList b.toList m.toList) ?step ?fin ⟨⟨iX st,rfl⟩,rfl,I,(by show 0 < a.size - 1;omega),(by show a.size - 1<=a.size;omega),(by show 1 < b.size;omega),aD _,(by show 0+(a.size - 1)+b.size<=_;omega)⟩) ?post)
   case fin=>
    rintro c aA ⟨hg,hc,L⟩
    have:=L.many
    have:=L.la
    have:=L.lb
    omega
   case step=>
    rintro x c aA _ hx ⟨⟨g,rfl⟩,hc,L⟩
    refine dj (jc8 (st:=st) hO cK C L) fun r cE hr=>?_
    obtain⟨hg,hr⟩:=hr
    cases r with
    | done e=>exact⟨hg,hr⟩
    | yield e=>exact⟨hg,hr⟩
   case post=>
    rintro⟨c1,c2⟩ aA ⟨⟨g,rfl⟩,m,hm,hg⟩
    dsimp only at hm
    subst hm
    exact aG (h m g hg)
end
def qe(sa:Nat)(M:List Keyed)(arr:Array Keyed):Array Keyed:=M.zipIdx.foldl (fun a (p,j)=>a.setIfInBounds (sa+j) p) arr
def jjz(arr:Array Keyed)(sa na sb nb:Nat):StateT av Sem Bool:=do
 let m <- if na<=nb then Kd (arr.extract sa sb) (arr.extract sb (sb+nb)) else Ke (arr.extract sa sb) (arr.extract sb (sb+nb))
 modify fun s=>setArr s (qe sa m.toList (arrOf s))
 return (fK (<- get)).isNone
def jiJ(arr:Array Keyed)(sa na sb nb:Nat):StateT av Sem Bool:=
 if (na == 0)=true then pure true else do
  let x <- elem' arr (sa+na - 1)
  match <- qX true x arr sb nb (nb - 1) with
  | some m=>if (m == 0)=true then pure true else jjz arr sa na sb m
  | _=>pure false
def jjA(arr:Array Keyed)(sa na sb nb:Nat):StateT av Sem Bool:=do
 let y <- elem' arr sb
 match <- qX false y arr sa na 0 with
 | some k=>jiJ arr (sa+k) (na - k) sb nb
 | _=>pure false
theorem jaG(sa:Nat):∀(M:List Keyed) (n:Nat) (arr:Array Keyed),sa+n+M.length<=arr.size->
  ((M.zipIdx n).foldl (fun a (p,j)=>a.setIfInBounds (sa+j) p) arr).toList=arr.toList.take (sa+n)++M++arr.toList.drop (sa+n+M.length)
 | [],n,arr,h=>by simp
 | x :: M,n,arr,h=>by
  rw[ck]at h;rw[List.zipIdx_cons,P7];have ih:=jaG sa M (n+1) (arr.setIfInBounds (sa+n) x) (by rw[Array.size_setIfInBounds];omega);have hl:sa+n < arr.toList.length:=by rw[dy];omega
  have e:(arr.setIfInBounds (sa+n) x).toList=(arr.toList.take (sa+n)++[x])++arr.toList.drop (sa+n+1):=by
   rw[Array.toList_setIfInBounds,List.set_eq_take_append_cons_drop,Qx hl,bh];rfl
  have l1:(arr.toList.take (sa+n)++[x]).length=sa+n+1:=by
   rw[bV,cw];show min _ _+1=_;omega
  rw[ih,e];have e1:sa+(n+1)=sa+n+1:=rfl;rw[e1,List.take_left' l1,List.drop_append,l1];have e2:List.drop (sa+n+1+M.length) (arr.toList.take (sa+n)++[x])=[]:=vy (by omega);have e3:sa+n+1+M.length - (sa+n+1)=M.length:=by omega
  rw[e2,e3,F7,ck];have e4:sa+n+1+M.length=sa+n+(M.length+1):=by omega
  rw[e4];simp
variable {sa:Nat}{M:List Keyed}
theorem Yl(h:sa+M.length<=arr.size):(qe sa M arr).toList=arr.toList.take sa++M++arr.toList.drop (sa+M.length):=jaG sa M 0 arr h
theorem JL(h:sa+M.length<=arr.size)(k:Nat):(qe sa M arr)[k]?=if sa<=k/\k < sa+M.length then M[k - sa]? else arr[k]?:=by
 rw[<- ir,Yl h];have hl:(arr.toList.take sa).length=sa:=by rw[cw,dy];omega
 by_cases h1:k < sa
 .rw[Qw (by omega),bh,By (by omega),List.getElem?_take,Qx h1,ir]
 .by_cases h2:k < sa+M.length
  .rw[Qx ⟨by omega,h2⟩,bh,rW (by omega),hl,By (by omega)]
  .rw[Qw (by omega),bh,rW (by omega),hl,rW (by omega),F3,ir]
   congr 1;omega
theorem jbq(h:sa+M.length<=arr.size)(hp:M.Perm ((arr.toList.drop sa).take M.length)):(qe sa M arr).Perm arr:=by
 rw[vB,Yl h];have e:arr.toList=arr.toList.take sa++(arr.toList.drop sa).take M.length++arr.toList.drop (sa+M.length):=by
  rw[bh,<- F7,nr,nr]
 refine List.Perm.trans ?_ (List.Perm.of_eq e.symm);exact (hp.append_left _).append_right _
variable {lo hi:Nat}
section
def Seg(κ:KeyKind)(arr:Array Keyed)(lo hi:Nat):Prop:=∀i j,lo<=i->i<=j->j < hi->κ.kle (KK κ arr i) (KK κ arr j)
theorem Ku(h:i < arr.size):KK κ arr i=kq κ arr[i]:=by
 unfold KK kq;rw[getElem?_pos arr i h]
theorem jeC(h:Seg κ arr lo hi)(hh:hi<=arr.size):SL κ (arr.extract lo hi).toList:=by
 refine Bu.mpr ?_;intro i j mE eQ dB;have e1:(arr.extract lo hi).toList.length=hi - lo:=by simp;omega
 rw[dH,dH,nD,nD];have:=h (lo+i) (lo+j) (by omega) (by omega) (by omega);rw[Ku (by omega),Ku (by omega)]at this;exact this
theorem jf3{Q:PUnit->av->Prop}{cE:av}(h:Q ⟨⟩ cE):wpS (ao prog w) A E s (set cE:StateT av Sem PUnit) Q st:=by
 unfold wpS;rw[StateT.run_set];exact aH ⟨rfl,h⟩
abbrev jdi(st:av)(arr:Array Keyed)(pend:Array (Nat×Nat×Nat))(g:Nat):av:=Bn (kindOf st) arr pend g (fK st)
theorem jaL{Q:Bool->av->Prop}{pw G_:Nat}(hO:LtAt prog w A E s knd κ)(hk:kindOf st=knd)(hf:fK st=none)(hy:∀i (h:i < (arrOf st).size),qd κ (arrOf st)[i])(IJ:(aV st)[i]?=some (sa,na,pw))(fW:(aV st)[i+1]?=some (sa+na,nb,G_))
  (h0:0 < na) (h1:0 < nb) (hz:sa+na+nb<=(arrOf st).size) (S1:Seg κ (arrOf st) sa (sa+na)) (S2:Seg κ (arrOf st) (sa+na) (sa+na+nb))
  (h:∀ig g,ig.Perm (arrOf st)->Seg κ ig sa (sa+na+nb)->(∀k,k < sa\/sa+na+nb<=k->ig[k]?=(arrOf st)[k]?)->Q true (jdi st ig (((aV st).setIfInBounds i (sa,na+nb,pw)).eraseIdxIfInBounds (i+1)) g)) :
  wpS (ao prog w) A E s (mergeAt' i) Q st:=by
 have e0:mergeAt' i=((get:StateT av Sem av) >>= (_:av->StateT av Sem Bool)):=rfl
 rw[e0]
 refine aC (gn ?_)
 rw[IJ,fW]
 show wpS _ _ _ _ (set (nh st (((aV st).setIfInBounds i (sa,na+nb,pw)).eraseIdxIfInBounds (i+1))) >>= fun _=>jjA (arrOf st) sa na (sa+na) nb) Q st
 refine aC (jf3 ?_)
 unfold jjA
 refine aC (kh (by omega) ?_)
 generalize hP:((aV st).setIfInBounds i (sa,na+nb,pw)).eraseIdxIfInBounds (i+1)=P at *
 have GN:∀i j (hi:i < (arrOf st).size) (hj:j < (arrOf st).size),sa<=i->i<=j->j < sa+na->Le κ (arrOf st)[i] (arrOf st)[j]:=fun i j hi hj g1 g2 g3=>by
  have:=S1 i j g1 g2 g3;rw[Ku hi,Ku hj]at this;exact this
 have GM:∀i j (hi:i < (arrOf st).size) (hj:j < (arrOf st).size),sa+na<=i->i<=j->j < sa+na+nb->Le κ (arrOf st)[i] (arrOf st)[j]:=fun i j hi hj g1 g2 g3=>by
  have:=S2 i j g1 g2 g3;rw[Ku hi,Ku hj]at this;exact this
 refine aC (Jl (st:=nh st P) (κ:=κ) hO hk (hy _ (by omega)) (by omega) h0 hy GN fun k k1 k2 k3=>?_)
 have kk:∀i (hi:i < (arrOf st).size),KK κ (arrOf st) i=kq κ (arrOf st)[i]:=fun i hi=>Ku hi
 have F1:∀i,sa<=i->i < sa+k->κ.kle (KK κ (arrOf st) i) (KK κ (arrOf st) (sa+na)):=fun i g1 g2=>by
  rw[kk i (by omega),kk (sa+na) (by omega)];exact jca (k2 i (by omega) g1 g2)
 show wpS _ _ _ _ (jiJ (arrOf st) (sa+k) (na - k) (sa+na) nb) Q _
 unfold jiJ
 by_cases hk0:na - k=0
 .rw[Qx (by simpa using hk0)]
  refine aG (h (arrOf st) (iX st) (Gr _) (fun i j g1 g2 g3=>?_) fun _ _=>rfl)
  by_cases hj:j < sa+na
  .exact S1 i j g1 g2 hj
  .by_cases hi:i < sa+na
   .exact dR (F1 i g1 (by omega)) (S2 (sa+na) j (by omega) (by omega) g3)
   .exact S2 i j (by omega) g2 g3
 .rw[Qw (by simpa using hk0)]
  have Mw:sa+k+(na - k) - 1=sa+na - 1:=by omega
  rw[Mw]
  refine aC (kh (by omega) ?_)
  refine aC (Jl (st:=nh st P) (κ:=κ) hO hk (hy _ (by omega)) (by omega) (by omega) hy GM fun m m1 m2 m3=>?_)
  have F2:∀j,sa+na+m<=j->j < sa+na+nb->κ.kle (KK κ (arrOf st) (sa+na - 1)) (KK κ (arrOf st) j):=fun j g1 g2=>by
   rw[kk j (by omega),kk (sa+na - 1) (by omega)];exact jb9 (m3 j (by omega) g1 g2)
  dsimp only
  by_cases tJ:m=0
  .rw[Qx (by simpa using tJ)]
   refine aG (h (arrOf st) (iX st) (Gr _) (fun i j g1 g2 g3=>?_) fun _ _=>rfl)
   by_cases hj:j < sa+na
   .exact S1 i j g1 g2 hj
   .by_cases hi:i < sa+na
    .exact dR (S1 i (sa+na - 1) g1 (by omega) (by omega)) (F2 j (by omega) g3)
    .exact S2 i j (by omega) g2 g3
  .rw[Qw (by simpa using tJ)]
   unfold jjz
   have sx:((arrOf st).extract (sa+k) (sa+na)).size=na - k:=by simp;omega
   have sy:((arrOf st).extract (sa+na) (sa+na+m)).size=m:=by simp;omega
   have SX:SL κ ((arrOf st).extract (sa+k) (sa+na)).toList:=jeC (fun i j g1 g2 g3=>S1 i j (by omega) g2 g3) (by omega)
   have SY:SL κ ((arrOf st).extract (sa+na) (sa+na+m)).toList:=jeC (fun i j g1 g2 g3=>S2 i j g1 g2 (by omega)) (by omega)
   have fin:∀(M:Array Keyed) (g:Nat),qm κ ((arrOf st).extract (sa+k) (sa+na)).toList ((arrOf st).extract (sa+na) (sa+na+m)).toList M.toList->Q true (jdi st (qe (sa+k) M.toList (arrOf st)) P g):=by
    rintro M g ⟨tD,iD⟩;have bu:M.toList.length=na - k+m:=by
     rw[tD.length_eq,bV,dy,dy,sx,sy]
    have hb:sa+k+M.toList.length<=(arrOf st).size:=by omega
    have Mz:((arrOf st).extract (sa+k) (sa+na)).toList++((arrOf st).extract (sa+na) (sa+na+m)).toList=((arrOf st).toList.drop (sa+k)).take M.toList.length:=by
     rw[zg,zg,bu,List.take_add,F7];have e1:sa+na - (sa+k)=na - k:=by omega
     have e2:sa+na+m - (sa+na)=m:=by omega
     have e3:sa+k+(na - k)=sa+na:=by omega
     rw[e1,e2,e3]
    rw[Mz]at tD;have BE:∀i,sa+k<=i->i < sa+na+m->∃p,sa+k<=p/\p < sa+na+m/\KK κ (qe (sa+k) M.toList (arrOf st)) i=KK κ (arrOf st) p:=fun i g1 g2=>by
     have hi:i - (sa+k) < M.toList.length:=by omega
     have hw:=JL hb i;rw[Qx ⟨g1,by omega⟩,aK hi]at hw;have xz:=tD.mem_iff.mp (cT hi);obtain⟨q,hq,eq⟩:=rS.mp xz;have lp:q < M.toList.length:=by
      have:=hq;rw[cw]at this;omega
     refine⟨sa+k+q,by omega,by omega,nj ?_⟩;rw[hw,<- eq,P0,P3,dH,getElem?_pos (arrOf st) (sa+k+q) (by omega)]
    have B_:∀i,i < sa+k\/sa+na+m<=i->(qe (sa+k) M.toList (arrOf st))[i]?=(arrOf st)[i]?:=fun i g1=>by
     rw[JL hb,Qw (by omega)]
    have nH:∀i,i < sa+k\/sa+na+m<=i->KK κ (qe (sa+k) M.toList (arrOf st)) i=KK κ (arrOf st) i:=fun i g1=>nj (B_ i g1)
    refine h _ g (jbq hb tD) (fun i j g1 g2 g3=>?_) fun i g1=>B_ i (by omega)
    by_cases zi:i < sa+k
    .rw[nH i (.inl zi)]
     by_cases zj:j < sa+k
     .rw[nH j (.inl zj)]
      exact S1 i j g1 g2 (by omega)
     .by_cases zj2:j < sa+na+m
      .obtain⟨p,p1,p2,ep⟩:=BE j (by omega) zj2
       rw[ep];by_cases hp:p < sa+na
       .exact S1 i p g1 (by omega) hp
       .exact dR (F1 i g1 zi) (S2 (sa+na) p (by omega) (by omega) (by omega))
      .rw[nH j (.inr (by omega))]
       exact dR (F1 i g1 zi) (S2 (sa+na) j (by omega) (by omega) g3)
    .by_cases zi2:i < sa+na+m
     .by_cases zj2:j < sa+na+m
      .have hi:i - (sa+k) < M.toList.length:=by omega
       have hj:j - (sa+k) < M.toList.length:=by omega
       have wi:=JL hb i;have wj:=JL hb j;rw[Qx ⟨by omega,by omega⟩,aK hi]at wi;rw[Qx ⟨by omega,by omega⟩,aK hj]at wj;have ki:KK κ (qe (sa+k) M.toList (arrOf st)) i=kq κ (M.toList[i - (sa+k)]):=by unfold KK kq;rw[wi]
       have kj:KK κ (qe (sa+k) M.toList (arrOf st)) j=kq κ (M.toList[j - (sa+k)]):=by unfold KK kq;rw[wj]
       rw[ki,kj];rcases oR i j with aP | dt
       .exact Bu.mp iD _ _ hi hj (by omega)
       .have:i=j:=by omega
        subst this;exact lQ _
      .obtain⟨p,p1,p2,ep⟩:=BE i (by omega) zi2
       rw[ep,nH j (.inr (by omega))];by_cases hp:p < sa+na
       .exact dR (S1 p (sa+na - 1) (by omega) (by omega) (by omega)) (F2 j (by omega) g3)
       .exact S2 p j (by omega) (by omega) g3
     .rw[nH i (.inr (by omega)),nH j (.inr (by omega))]
      exact S2 i j (by omega) g2 g3
   have kX:∀i (h:i < ((arrOf st).extract (sa+k) (sa+na)).size),qd κ ((arrOf st).extract (sa+k) (sa+na))[i]:=fun i hi=>by
    rw[nD];exact hy _ _
   have kY:∀i (h:i < ((arrOf st).extract (sa+na) (sa+na+m)).size),qd κ ((arrOf st).extract (sa+na) (sa+na+m))[i]:=fun i hi=>by
    rw[nD];exact hy _ _
   have Cm:∀j (hj:j < ((arrOf st).extract (sa+na) (sa+na+m)).size) (h':((arrOf st).extract (sa+k) (sa+na)).size - 1 < ((arrOf st).extract (sa+k) (sa+na)).size),Le κ ((arrOf st).extract (sa+na) (sa+na+m))[j] ((arrOf st).extract (sa+k) (sa+na))[((arrOf st).extract (sa+k) (sa+na)).size - 1]:=fun j hj h'=>by
    rw[nD,nD];have e:sa+k+(((arrOf st).extract (sa+k) (sa+na)).size - 1)=sa+na - 1:=by omega
    have:=jb8 (m2 (sa+na+j) (by omega) (by omega) (by omega));simp only[e];exact this
   have Eg:∀i (hi:i < ((arrOf st).extract (sa+k) (sa+na)).size) (h':0 < ((arrOf st).extract (sa+na) (sa+na+m)).size),Le κ ((arrOf st).extract (sa+na) (sa+na+m))[0] ((arrOf st).extract (sa+k) (sa+na))[i]:=fun i hi h'=>by
    rw[nD,nD];exact iY (jcb (k3 (sa+k+i) (by omega) (by omega) (by omega)))
   split
   .refine aC (jaJ (st:=nh st P) hO hk ⟨kX,kY,SX,SY,Cm⟩ (by omega) (by omega) (fun i hi=>Eg i hi (by omega)) fun M g hM=>?_)
    refine aC (gm ?_)
    refine aC (gn ?_)
    refine aG ?_
    have:=fin M g hM
    have ef:(fK (jdi st (qe (sa+k) M.toList (arrOf st)) P g)).isNone=true:=by show (fK st).isNone=true;rw[hf];rfl
    show Q (fK (jdi st (qe (sa+k) M.toList (arrOf st)) P g)).isNone _
    rw[ef]
    exact this
   .refine aC (jaK (st:=nh st P) hO hk ⟨kX,kY,SX,SY,Eg⟩ (by omega) (by omega) (fun j hj=>Cm j hj (by omega)) fun M g hM=>?_)
    refine aC (gm ?_)
    refine aC (gn ?_)
    refine aG ?_
    have:=fin M g hM
    have ef:(fK (jdi st (qe (sa+k) M.toList (arrOf st)) P g)).isNone=true:=by show (fK st).isNone=true;rw[hf];rfl
    show Q (fK (jdi st (qe (sa+k) M.toList (arrOf st)) P g)).isNone _
    rw[ef]
    exact this
end
def jhr(lo a br:Nat):StateT av Sem AscSt:=
 forIn [a:br] ((none,a):AscSt) fun _ c=>do
  let x <- ltAt' (lo+c.snd) (lo+c.snd - 1)
  match x with
  | some smaller=>if smaller=true then pure (ForInStep.done (none,c.snd)) else pure (ForInStep.yield (none,c.snd+1))
  | _=>pure (ForInStep.done (some none,c.snd))
def jcq(lo n br:Nat):StateT av Sem (Option Nat):=do
 vn lo (lo+n)
 let c <- jhr lo n br
 match c.fst with
 | some r=>pure r
 | none=>pure (some c.snd)
def jfI(lo n br:Nat):StateT av Sem DescSt:=
 forIn [n:br] ((none,n,0):DescSt) fun _ c=>do
  let x <- ltAt' (lo+c.snd.fst) (lo+c.snd.fst - 1)
  match x with
  | some smaller=>
   if smaller=true then
    if c.snd.snd > 0 then do
     vn (lo+c.snd.fst - (c.snd.snd+1)) (lo+c.snd.fst)
     pure (ForInStep.yield (none,c.snd.fst+1,0))
    else pure (ForInStep.yield (none,c.snd.fst+1,0))
   else do
    let x <- ltAt' (lo+c.snd.fst - 1) (lo+c.snd.fst)
    match x with
    | some larger=>
     if larger=true then pure (ForInStep.done (none,c.snd.fst,c.snd.snd))
     else pure (ForInStep.yield (none,c.snd.fst+1,c.snd.snd+1))
    | _=>pure (ForInStep.done (some none,c.snd.fst,c.snd.snd))
  | _=>pure (ForInStep.done (some none,c.snd.fst,c.snd.snd))
def jcD(lo n br:Nat):StateT av Sem (Option Nat):=do
 liftM (rule "list.sort.descending-run")
 let c <- jfI lo (n+1) br
 match c.fst with
 | some r=>pure r
 | none=>
  if c.snd.snd > 0 then do
   vn (lo+c.snd.fst - (c.snd.snd+1)) (lo+c.snd.fst)
   jcq lo c.snd.fst br
  else jcq lo c.snd.fst br
theorem jau(lo br:Nat):countRun' lo br=(do
  let c <- jhr lo 1 br
  match c.fst with
  | some r=>pure r
  | none=>
   if (c.snd == br)=true then pure (some c.snd)
   else if c.snd > 1 then do
    let x <- ltAt' lo (lo+c.snd - 1)
    match x with
    | some rose=>if rose=true then pure (some c.snd) else do
      vn lo (lo+c.snd)
      jcD lo c.snd br
    | _=>pure none
   else jcD lo c.snd br):=by
 rw[countRun'_eq]
 dsimp only
 unfold jcD jcq jfI jhr
 congr 1
 funext c
 obtain⟨r,n⟩:=c
 cases r with
 | some r=>rfl
 | none=>
  dsimp only
  split
  .rfl
  .split
   .congr 1
    funext x
    cases x with
    | none=>rfl
    | some rose=>
     dsimp only
     split
     .rfl
     .congr 1
      funext _r
      congr 1
      funext u1
      congr 1
      congr 1
      funext d
      obtain⟨d1,d2,d3⟩:=d
      cases d1 with
      | some _=>rfl
      | none=>
       dsimp only
       split
       .congr 1
        funext u2
        congr 1
        funext u3
        congr 1
        funext e
        obtain⟨e1,e2⟩:=e
        cases e1 <;> rfl
       .congr 1
        funext u3
        congr 1
        funext e
        obtain⟨e1,e2⟩:=e
        cases e1 <;> rfl
   .congr 1
    funext u1
    congr 1
    congr 1
    funext d
    obtain⟨d1,d2,d3⟩:=d
    cases d1 with
    | some _=>rfl
    | none=>
     dsimp only
     split
     .congr 1
      funext u2
      congr 1
      funext u3
      congr 1
      funext e
      obtain⟨e1,e2⟩:=e
      cases e1 <;> rfl
     .congr 1
      funext u3
      congr 1
      funext e
      obtain⟨e1,e2⟩:=e
      cases e1 <;> rfl
variable {br:Nat}
section
variable {a₀ cL:Array Keyed}{P:Array (Nat×Nat×Nat)}
structure TB(knd:gq)(a₀:Array Keyed)(P:Array (Nat×Nat×Nat))(lo:Nat)(cL:Array Keyed)(st:av):Prop where
 perm:(arrOf st).Perm a₀
 kind:kindOf st=knd
 failed:fK st=none
 pend:aV st=P
 low:∀k,k < lo->(arrOf st)[k]?=cL[k]?
theorem TB.size(h:TB knd a₀ P lo cL st):(arrOf st).size=a₀.size:=h.perm.size_eq
theorem TB.setArr(h:TB knd a₀ P lo cL st){xs:Array Keyed}(hp:xs.Perm (arrOf st))(hl:∀k,k < lo->xs[k]?=(arrOf st)[k]?):TB knd a₀ P lo cL (setArr st xs):=
 ⟨hp.trans h.perm,h.kind,h.failed,h.pend,fun k hk=>(hl k hk).trans (h.low k hk)⟩
theorem TB.mir(h:TB knd a₀ P lo cL st)(hi:lo<=i)(hj:j<=a₀.size):TB knd a₀ P lo cL (PyProof.Rows.setArr st (mirror (arrOf st) i j ((j - i) / 2))):=
 h.setArr (mirror_perm _ _ _ _) fun k hk=>by rw[getElem?_mirror_all (by rw[h.size];exact hj),Qw (by omega)]
theorem TB.key(T:TB knd a₀ P lo cL st)(keys:KeysOf κ a₀)(lG:i < a₀.size):∃li:i < (arrOf st).size,qd κ ((arrOf st)[i]):=
 ⟨by rw[T.size];exact lG,keys _ ((vB.mp T.perm).mem_iff.mp (Array.getElem_mem_toList _))⟩
theorem jda{Q:Option Bool->av->Prop}(hx:(arrOf st)[i]?=some x)(hy:(arrOf st)[j]?=some y)(h:wpS (ao prog w) A E s (lt' x y) Q st):wpS (ao prog w) A E s (ltAt' i j) Q st:=by
 rw[ltAt'_eq];refine aC (gn ?_);dsimp only;rw[Bm,hx];refine aC (aG ?_);rw[Bm,hy];exact aC (aG h)
theorem JM{Q:Option Bool->av->Prop}(hO:LtAt prog w A E s knd κ)(T:TB knd a₀ P lo cL st)(keys:KeysOf κ a₀)(bi:i < a₀.size)(bj:j < a₀.size)(q:Q (some (κ.blt (KK κ (arrOf st) i) (KK κ (arrOf st) j))) st):
  wpS (ao prog w) A E s (ltAt' i j) Q st:=by
 obtain⟨li,hx⟩:=T.key keys bi
 obtain⟨lj,hy⟩:=T.key keys bj
 rw[Ku li,Ku lj]at q
 exact jda (getElem?_pos _ i li) (getElem?_pos _ j lj) (hO _ _ _ _ T.kind hx hy q)
def Dsg(κ:KeyKind)(arr:Array Keyed)(lo hi:Nat):Prop:=∀i j,lo<=i->i<=j->j < hi->κ.kle (KK κ arr j) (KK κ arr i)
theorem jhT{R:Nat->Nat->Prop}(refl:∀i,R i i)(trans:∀i j k,R i j->R j k->R i k){top:Nat}(low:lo < top)(gZ:∀i j,lo<=i->i<=j->j < top->R i j)(new:R (top - 1) top):∀i j,lo<=i->i<=j->j < top+1->R i j:=fun i j a b c=>by
 rcases oR j top with d | d
 .exact gZ i j a b d
 have ej:j=top:=by omega
 rcases oR i j with f | f
 .rw[ej];exact trans _ _ _ (gZ i (top - 1) a (by omega) (by omega)) new
 .rw[show i=j by omega];exact refl j
theorem Seg.grow{top:Nat}(low:lo < top)(g:Seg κ arr lo top)(n:κ.kle (KK κ arr (top - 1)) (KK κ arr top)):Seg κ arr lo (top+1):=
 jhT (R:=fun i j=>κ.kle (KK κ arr i) (KK κ arr j)) (fun _=>lQ _) (fun _ _ _=>dR) low g n
theorem Dsg.grow{top:Nat}(low:lo < top)(g:Dsg κ arr lo top)(n:κ.kle (KK κ arr top) (KK κ arr (top - 1))):Dsg κ arr lo (top+1):=
 jhT (R:=fun i j=>κ.kle (KK κ arr j) (KK κ arr i)) (fun _=>lQ _) (fun _ _ _ a b=>dR b a) low g n
theorem Seg.one:Seg κ arr lo (lo+1):=fun i j a b c=>by rw[show i=j by omega];exact lQ _
theorem Dsg.one:Dsg κ arr lo (lo+1):=fun i j a b c=>by rw[show i=j by omega];exact lQ _
theorem Dsg.like{ys:Array Keyed}(g:Dsg κ arr lo hi)(e:∀k,KK κ ys k=KK κ arr k):Dsg κ ys lo hi:=fun i j a b c=>by rw[e i,e j];exact g i j a b c
abbrev jfW(knd:gq)(a₀:Array Keyed)(κ:KeyKind)(P:Array (Nat×Nat×Nat))(lo:Nat)(cL:Array Keyed)(br:Nat)(Q:Option Nat->av->Prop):Prop:=
 ∀(m:Nat) (sn:av),TB knd a₀ P lo cL sn->1<=m->m<=br->Seg κ (arrOf sn) lo (lo+m)->Q (some m) sn
theorem jaM{a:Nat}{Q:AscSt->av->Prop}(hO:LtAt prog w A E s knd κ)(keys:KeysOf κ a₀)(fC:lo+br<=a₀.size)(pos:0 < a)(le:a<=br)(T:TB knd a₀ P lo cL st)(G:Seg κ (arrOf st) lo (lo+a))
  (q:∀n,a<=n->n<=br->Seg κ (arrOf st) lo (lo+n)->(n < br->κ.klt (KK κ (arrOf st) (lo+n)) (KK κ (arrOf st) (lo+n - 1)))->Q (none,n) st):wpS (ao prog w) A E s (jhr lo a br) Q st:=by
 refine eE (I:=fun n c sn=>sn=st/\c=(none,n)/\Seg κ (arrOf st) lo (lo+n)) (fun n c sn an bn J=>?_) (fun c sn J=>?_) ⟨rfl,rfl,G⟩
 .obtain⟨rfl,rfl,Gn⟩:=J
  refine aC (JM hO T keys (i:=lo+n) (j:=lo+n - 1) (by omega) (by omega) ?_)
  cases c:κ.blt (KK κ (arrOf sn) (lo+n)) (KK κ (arrOf sn) (lo+n - 1)) with
  | true=>exact aG (q n an (c6 bn) Gn fun _=>c)
  | false=>exact aG ⟨rfl,rfl,Seg.grow (top:=lo+n) (by omega) Gn c⟩
 .obtain⟨rfl,rfl,Gn⟩:=J
  have e:max a br=br:=by omega
  rw[e]at Gn |-
  exact q br le (aD _) Gn fun z=>absurd z (np _)
theorem Za(hO:LtAt prog w A E s knd κ)(keys:KeysOf κ a₀)(fC:lo+br<=a₀.size)(pos:0 < n)(le:n<=br)(T:TB knd a₀ P lo cL st)(D:Dsg κ (arrOf st) lo (lo+n))
  (q:jfW knd a₀ κ P lo cL br Q):wpS (ao prog w) A E s (jcq lo n br) Q st:=by
 have T1:=T.mir (i:=lo) (j:=lo+n) (aD _) (by omega)
 have z:lo+n<=(arrOf st).size:=by rw[T.size];omega
 refine aC (Bh (aC (jaM hO keys fC pos le T1 (fun i j a b c=>?_) fun m am bm Gm _=>aG (q m _ T1 (by omega) bm Gm))))
 have em:=fun k=>KK_mirror (κ:=κ) (i:=lo) z k
 have ei:=em i
 have ej:=em j
 rw[Qx ⟨a,by omega⟩]at ei
 rw[Qx ⟨by omega,c⟩]at ej
 exact ei ▸ ej ▸ D (lo+(lo+n) - 1 - j) (lo+(lo+n) - 1 - i) (by omega) (by omega) (by omega)
def ji3(κ:KeyKind)(arr:Array Keyed)(top c_:Nat):Prop:=∀k,top - (c_+1)<=k->k < top->KK κ arr k=KK κ arr (top - 1)
theorem jdb{Q:DescSt->av->Prop}(hO:LtAt prog w A E s knd κ)(keys:KeysOf κ a₀)(fC:lo+br<=a₀.size)(pos:0 < n)(le:n<=br)(T:TB knd a₀ P lo cL st)(D:Dsg κ (arrOf st) lo (lo+n))
  (q:∀m c_ sn,TB knd a₀ P lo cL sn->n<=m->m<=br->Dsg κ (arrOf sn) lo (lo+m)->c_ < m->ji3 κ (arrOf sn) (lo+m) c_->Q (none,m,c_) sn):wpS (ao prog w) A E s (jfI lo n br) Q st:=by
 have Aa:∀(arr:Array Keyed) (t:Nat),ji3 κ arr t 0:=fun arr t k a b=>by rw[show k=t - 1 by omega]
 refine eE (I:=fun m c sn=>∃c_,c=(none,m,c_)/\TB knd a₀ P lo cL sn/\Dsg κ (arrOf sn) lo (lo+m)/\c_ < m/\ji3 κ (arrOf sn) (lo+m) c_) (fun m c sn am bm J=>?_) (fun c sn J=>?_) ⟨0,rfl,T,D,pos,Aa _ _⟩
 .obtain⟨c_,rfl,Tn,Dn,ln,fl⟩:=J
  have z:lo+m<=(arrOf sn).size:=by rw[Tn.size];omega
  refine aC (JM hO Tn keys (i:=lo+m) (j:=lo+m - 1) (by omega) (by omega) ?_)
  cases c:κ.blt (KK κ (arrOf sn) (lo+m)) (KK κ (arrOf sn) (lo+m - 1)) with
  | true=>
   have D1:=Dsg.grow (top:=lo+m) (by omega) Dn (iY (show κ.klt _ _ from c))
   have T1:=Tn.mir (i:=lo+m - (c_+1)) (j:=lo+m) (by omega) (by omega)
   by_cases more:c_ > 0
   .show wpS _ _ _ _ (if c_ > 0 then _ else _) _ _
    rw[Qx more]
    exact aC (Bh (aG ⟨0,rfl,T1,D1.like (FI z fl),by omega,Aa _ _⟩))
   .show wpS _ _ _ _ (if c_ > 0 then _ else _) _ _
    rw[Qw more]
    exact aG ⟨0,rfl,Tn,D1,by omega,Aa _ _⟩
  | false=>
   show wpS _ _ _ _ (ltAt' (lo+m - 1) (lo+m) >>= _) _ _
   refine aC (JM hO Tn keys (i:=lo+m - 1) (j:=lo+m) (by omega) (by omega) ?_)
   cases d:κ.blt (KK κ (arrOf sn) (lo+m - 1)) (KK κ (arrOf sn) (lo+m)) with
   | true=>exact aG (q m c_ sn Tn am (by omega) Dn ln fl)
   | false=>
    have eq:KK κ (arrOf sn) (lo+m)=KK κ (arrOf sn) (lo+m - 1):=Pj d c
    refine aG ⟨c_+1,rfl,Tn,Dsg.grow (top:=lo+m) (by omega) Dn d,by omega,fun k a b=>?_⟩
    show _=KK κ (arrOf sn) (lo+m)
    rcases oR k (lo+m) with f | f
    .rw[eq];exact fl k (by omega) f
    .rw[show k=lo+m by omega]
 .obtain⟨c_,rfl,Tn,Dn,ln,fl⟩:=J
  have e:max n br=br:=by omega
  rw[e]at Dn ln fl |-
  exact q br c_ sn Tn le (aD _) Dn ln fl
theorem Zb(hO:LtAt prog w A E s knd κ)(keys:KeysOf κ a₀)(fC:lo+br<=a₀.size)(le:n+1<=br)(T:TB knd a₀ P lo cL st)(D:Dsg κ (arrOf st) lo (lo+n+1))
  (q:jfW knd a₀ κ P lo cL br Q):wpS (ao prog w) A E s (jcD lo n br) Q st:=by
 refine aC (oP (lI ⟨rfl,aC (jdb hO keys fC (Nat.succ_pos n) le T D fun m c_ sn Tn am bm Dn ln fl=>?_)⟩))
 have z:lo+m<=(arrOf sn).size:=by rw[Tn.size];omega
 have m0:0 < m:=by omega
 have T1:=Tn.mir (i:=lo+m - (c_+1)) (j:=lo+m) (by omega) (by omega)
 show wpS _ _ _ _ (if c_ > 0 then _ else _) _ _
 split
 .exact aC (Bh (Za (n:=m) hO keys fC m0 bm T1 (Dn.like (FI z fl)) q))
 .exact Za (n:=m) hO keys fC m0 bm Tn Dn q
theorem jbs(hO:LtAt prog w A E s knd κ)(keys:KeysOf κ a₀)(fC:lo+br<=a₀.size)(pos:1<=br)(T:TB knd a₀ P lo cL st)
  (q:jfW knd a₀ κ P lo cL br Q):wpS (ao prog w) A E s (countRun' lo br) Q st:=by
 rw[jau]
 refine aC (jaM hO keys fC Nat.one_pos pos T Seg.one fun n an bn Gn ends=>?_)
 show wpS _ _ _ _ (if (n == br)=true then _ else if n > 1 then _ else _) _ _
 by_cases all:n=br
 .rw[Qx (beq_iff_eq.mpr all)]
  exact aG (q n st T an bn Gn)
 rw[Qw (fun z=>all (beq_iff_eq.mp z))]
 have Ei:=ends (by omega)
 have z:lo+n<=(arrOf st).size:=by rw[T.size];omega
 by_cases more:n > 1
 .rw[Qx more]
  refine aC (JM hO T keys (i:=lo) (j:=lo+n - 1) (by omega) (by omega) ?_)
  cases c:κ.blt (KK κ (arrOf st) lo) (KK κ (arrOf st) (lo+n - 1)) with
  | true=>exact aG (q n st T an bn Gn)
  | false=>
   have Aj:∀k,lo<=k->k < lo+n->KK κ (arrOf st) k=KK κ (arrOf st) (lo+n - 1):=fun k a b=>
    Pj (Gn k (lo+n - 1) a (by omega) (by omega)) (dR (show κ.kle _ _ from c) (Gn lo k (aD _) a b))
   have D0:Dsg κ (arrOf st) lo (lo+n):=fun i j a b d=>by rw[Aj i a (by omega),Aj j (by omega) d];exact lQ _
   show wpS _ _ _ _ (vn lo (lo+n) >>= _) _ _
   exact aC (Bh (Zb hO keys fC (by omega) (T.mir (aD _) (by omega)) ((D0.grow (by omega) (iY Ei)).like (FI z Aj)) q))
 .rw[Qw more]
  have e:n=1:=by omega
  subst e
  exact Zb hO keys fC (by omega) T (Dsg.one.grow (by omega) (iY Ei)) q
theorem jec{ok:Nat}{Q:Bool->av->Prop}(hO:LtAt prog w A E s knd κ)(keys:KeysOf κ a₀)(fC:lo+n<=a₀.size)(le:ok<=n)(T:TB knd a₀ P lo cL st)(G:Seg κ (arrOf st) lo (lo+ok))
  (q:∀sn,TB knd a₀ P lo cL sn->Seg κ (arrOf sn) lo (lo+n)->Q true sn):wpS (ao prog w) A E s (binarySort' lo n ok) Q st:=by
 rw[binarySort'_eq]
 refine aC (dj (eE (I:=fun k c sn=>c=(none,())/\TB knd a₀ P lo cL sn/\Seg κ (arrOf sn) lo (lo+min k n)) (Q:=fun c sn=>c=(none,())/\TB knd a₀ P lo cL sn/\Seg κ (arrOf sn) lo (lo+n)) (fun k c sn ak bk J=>?_) (fun c sn J=>?_) ⟨rfl,T,fun i j a b c=>?_⟩) fun c sn J=>?_)
 .obtain⟨rfl,Tn,Gn⟩:=J
  have e:min k n=k:=by omega
  rw[e]at Gn
  have z:lo+k < (arrOf sn).size:=by rw[Tn.size];omega
  refine aC (dj (eE (I:=fun y d sm=>sm=sn/\∃l r,d=(none,l,r)/\l<=r/\r<=k/\r - l+y<=k/\(∀i,lo<=i->i < lo+l->κ.kle (KK κ (arrOf sn) i) (KK κ (arrOf sn) (lo+k)))/\∀i,lo+r<=i->i < lo+k->κ.klt (KK κ (arrOf sn) (lo+k)) (KK κ (arrOf sn) i))
   (Q:=fun d sm=>sm=sn/\∃l,d=(none,l,l)/\l<=k/\(∀i,lo<=i->i < lo+l->κ.kle (KK κ (arrOf sn) i) (KK κ (arrOf sn) (lo+k)))/\∀i,lo+l<=i->i < lo+k->κ.klt (KK κ (arrOf sn) (lo+k)) (KK κ (arrOf sn) i))
   (fun y d sm ay bY J=>?_) (fun d sm J=>?_) ⟨rfl,0,k,rfl,bT _,aD _,by omega,fun i a b=>by omega,fun i a b=>by omega⟩) fun d sm J=>?_)
  .obtain⟨rfl,l,r,rfl,lr,rk,Mj,lG,above⟩:=J
   show wpS _ _ _ _ (if l >= r then _ else _) _ _
   by_cases meet:l >= r
   .rw[Qx meet]
    have e:l=r:=by omega
    subst e
    exact aG ⟨rfl,l,rfl,rk,lG,above⟩
   rw[Qw meet]
   refine aC (JM hO Tn keys (i:=lo+k) (j:=lo+(l+r) / 2) (by omega) (by omega) ?_)
   cases c:κ.blt (KK κ (arrOf sm) (lo+k)) (KK κ (arrOf sm) (lo+(l+r) / 2)) with
   | true=>exact aG ⟨rfl,l,(l+r) / 2,rfl,by omega,by omega,by omega,lG,fun i a b=>KeyOrd.klt_of_klt_of_kle (show κ.klt _ _ from c) (Gn _ i (by omega) a b)⟩
   | false=>exact aG ⟨rfl,(l+r) / 2+1,r,rfl,by omega,rk,by omega,fun i a b=>dR (Gn i _ a (by omega) (by omega)) (show κ.kle _ _ from c),above⟩
  .obtain⟨rfl,l,r,rfl,lr,rk,Mj,lG,above⟩:=J
   have e:l=r:=by omega
   subst e
   exact⟨rfl,l,rfl,rk,lG,above⟩
  .obtain⟨rfl,l,rfl,lk,lG,above⟩:=J
   show wpS _ _ _ _ (moveDown' (lo+k) (lo+l) >>= fun _=>pure (ForInStep.yield (none,()))) _ _
   rw[moveDown'_eq]
   have BM:lo+k - (lo+l)<=lo+k:=Nat.sub_le _ _
   have Hq:lo+k - (lo+k - (lo+l))=lo+l:=by omega
   refine aC (gm (aG ⟨rfl,Tn.setArr (bubble_perm _ _ _) (fun i a=>?_),fun i j a b c=>?_⟩))
   .rw[getElem?_bubble z _ BM,Qw (by omega),Qw (by omega)]
   have e1:min (k+1) n=k+1:=by omega
   rw[e1]at c
   have at_:=fun p=>KK_bubble (κ:=κ) z BM p
   rw[Hq]at at_
   have ki:=at_ i
   have kj:=at_ j
   show κ.kle (KK κ (bubble (arrOf sm) (lo+k) (lo+k - (lo+l))) i) (KK κ (bubble (arrOf sm) (lo+k) (lo+k - (lo+l))) j)
   rw[ki,kj]
   rcases Py i (lo+l) with f | f | f
   .rw[Qw (cb f),Qw (by omega)]
    rcases Py j (lo+l) with g | g | g
    .rw[Qw (cb g),Qw (by omega)]
     exact Gn i j a b (by omega)
    .rw[Qx g]
     exact lG i a f
    .rw[Qw (lS g),Qx ⟨g,by omega⟩]
     exact Gn i (j - 1) a (by omega) (by omega)
   .rw[Qx f]
    rcases oR i j with g | g
    .rw[Qw (by omega),Qx (by omega)]
     exact iY (above (j - 1) (by omega) (by omega))
    .rw[Qx (by omega)]
     exact lQ _
   .rw[Qw (lS f),Qx ⟨f,by omega⟩,Qw (by omega),Qx (by omega)]
    exact Gn (i - 1) (j - 1) (by omega) (by omega) (by omega)
 .obtain⟨rfl,Tn,Gn⟩:=J
  have e:min (max (max ok 1) n) n=n:=by omega
  rw[e]at Gn
  exact⟨rfl,Tn,Gn⟩
 .rcases PJ ok with e | e
  .rw[show i=j by omega];exact lQ _
  .exact G i j a b (by omega)
 .obtain⟨rfl,Tn,Gn⟩:=J
  exact aG (q sn Tn Gn)
end
section
variable {a₀:Array Keyed}
def qO(κ:KeyKind)(arr:Array Keyed):Nat->List (Nat×Nat×Nat)->Nat->Prop
 | lo,[],hi=>lo=hi
 | lo,p :: r,hi=>p.1=lo/\0 < p.2.1/\Seg κ arr lo (lo+p.2.1)/\qO κ arr (lo+p.2.1) r hi
theorem zq{arr:Array Keyed}:∀{p q:List (Nat×Nat×Nat)} {lo hi:Nat},qO κ arr lo (p++q) hi↔∃dn,qO κ arr lo p dn/\qO κ arr dn q hi
 | [],q,lo,hi=>by
  show qO κ arr lo q hi↔∃dn,lo=dn/\qO κ arr dn q hi;constructor
  .intro h;exact⟨lo,rfl,h⟩
  .rintro⟨_,rfl,h⟩;exact h
 | x :: p,q,lo,hi=>by
  have ih:=zq (arr:=arr) (p:=p) (q:=q) (lo:=lo+x.2.1) (hi:=hi);show (x.1=lo/\0 < x.2.1/\Seg κ arr lo (lo+x.2.1)/\qO κ arr (lo+x.2.1) (p++q) hi)↔∃dn,(x.1=lo/\0 < x.2.1/\Seg κ arr lo (lo+x.2.1)/\qO κ arr (lo+x.2.1) p dn)/\qO κ arr dn q hi;rw[ih];constructor
  .rintro⟨h1,h2,h3,dn,h4,h5⟩;exact⟨dn,⟨h1,h2,h3,h4⟩,h5⟩
  .rintro⟨dn,⟨h1,h2,h3,h4⟩,h5⟩;exact⟨h1,h2,h3,dn,h4,h5⟩
theorem Jh{arr:Array Keyed}:∀{p:List (Nat×Nat×Nat)} {lo hi:Nat},qO κ arr lo p hi->lo+p.length<=hi
 | [],lo,hi,h=>by have:lo=hi:=h;simp;omega
 | x :: p,lo,hi,h=>by
  obtain⟨_,h2,_,h4⟩:=h;have:=Jh h4;rw[ck];omega
theorem zX{arr ig:Array Keyed}:∀{p:List (Nat×Nat×Nat)} {lo hi:Nat},(∀k,lo<=k->k < hi->ig[k]?=arr[k]?)->qO κ arr lo p hi->qO κ ig lo p hi
 | [],lo,hi,_,h=>h
 | x :: p,lo,hi,e,h=>by
  obtain⟨h1,h2,h3,h4⟩:=h;have hl:=Jh h4;refine⟨h1,h2,fun i j g1 g2 g3=>?_,zX (fun k g1 g2=>e k (by omega) g2) h4⟩;rw[nj (e i g1 (by omega)),nj (e j (by omega) (by omega))];exact h3 i j g1 g2 g3
structure SInv(knd:gq)(κ:KeyKind)(a₀:Array Keyed)(hi:Nat)(st:av):Prop where
 perm:(arrOf st).Perm a₀
 kind:kindOf st=knd
 failed:fK st=none
 chain:qO κ (arrOf st) 0 (aV st).toList hi
theorem jex{α:Type}{l:List α}(h:i+1 < l.length):l=l.take i++l[i] :: l[i+1] :: l.drop (i+2):=by
 have e1:=nr i l;rw[F6 (by omega),F6 h]at e1;exact e1.symm
theorem ja3{α:Type}{P:Array α}{v:α}(h:i+1 < P.size):((P.setIfInBounds i v).eraseIdxIfInBounds (i+1)).toList=P.toList.take i++v :: P.toList.drop (i+2):=by
 have hl:i+1 < P.toList.length:=by simpa using h
 have e:=jex hl;have e1:((P.setIfInBounds i v).eraseIdxIfInBounds (i+1)).toList=(P.toList.set i v).eraseIdx (i+1):=by
  simp
 rw[e1];have lt:(P.toList.take i).length=i:=by rw[cw];omega
 have e2:P.toList.set i v=P.toList.take i++v :: P.toList[i+1] :: P.toList.drop (i+2):=by
  conv=>lhs;rw[e]
  rw[List.set_append_right _ _ (by omega),lt,Nat.sub_self];rfl
 rw[e2,List.eraseIdx_append_of_length_le (by omega),lt];have:i+1 - i=1:=by omega
 rw[this];rfl
theorem Ym{Q:Bool->av->Prop}(hO:LtAt prog w A E s knd κ)(h0:KeysOf κ a₀)(S:SInv knd κ a₀ hi st)(hz:hi<=a₀.size)(h1:i+1 < (aV st).size)
  (h:∀aA,SInv knd κ a₀ hi aA->(aV aA).size+1=(aV st).size->(∀k,hi<=k->(arrOf aA)[k]?=(arrOf st)[k]?)->Q true aA):wpS (ao prog w) A E s (mergeAt' i) Q st:=by
 have hl:i+1 < (aV st).toList.length:=by simpa using h1
 have C:=S.chain
 have eP:=jex hl
 rw[eP]at C
 obtain⟨dn,c1,c2⟩:=zq.mp C
 obtain⟨s1,l1,g1,c2⟩:=c2
 obtain⟨s2,l2,g2,c3⟩:=c2
 have sz:(arrOf st).size=a₀.size:=S.perm.size_eq
 have hc3:=Jh c3
 have ht:(aV st)[i]?=some (dn,(aV st).toList[i].2.1,(aV st).toList[i].2.2):=by
  rw[<- ir,aK (by omega),<- s1]
 have iC:(aV st)[i+1]?=some (dn+(aV st).toList[i].2.1,(aV st).toList[i+1].2.1,(aV st).toList[i+1].2.2):=by
  rw[<- ir,aK hl,<- s2]
 refine jaL hO S.kind S.failed (fun j hj=>?_) ht iC l1 l2 (by omega) g1 g2 fun ig g hp hs ho=>?_
 .exact h0 _ ((vB.mp S.perm).mem_iff.mp (by simp))
 .have el:=ja3 (v:=(dn,(aV st).toList[i].2.1+(aV st).toList[i+1].2.1,(aV st).toList[i].2.2)) h1
  refine h _ ⟨hp.trans S.perm,S.kind,S.failed,?_⟩ ?_ fun k hk=>ho k (.inr (by omega))
  .show qO κ ig 0 _ hi
   show qO κ ig 0 (((aV st).setIfInBounds i (dn,(aV st).toList[i].2.1+(aV st).toList[i+1].2.1,(aV st).toList[i].2.2)).eraseIdxIfInBounds (i+1)).toList hi
   rw[el]
   have hmid:=Jh c1
   refine zq.mpr ⟨dn,zX (fun k _ g2=>ho k (.inl g2)) c1,rfl,?_,?_,?_⟩
   .show 0 < _+_
    omega
   .rw[<- PK]
    exact hs
   .rw[<- PK]
    exact zX (fun k g1 _=>ho k (.inr g1)) c3
  .show (((aV st).setIfInBounds i (dn,(aV st).toList[i].2.1+(aV st).toList[i+1].2.1,(aV st).toList[i].2.2)).eraseIdxIfInBounds (i+1)).size+1=_
   rw[<- dy,el,bV,ck,cw,oU,dy]
   omega
theorem KJ{arr:Array Keyed}:∀{p q:List (Nat×Nat×Nat)} {lo hi:Nat},p.map (fun z=>(z.1,z.2.1))=q.map (fun z=>(z.1,z.2.1))->qO κ arr lo p hi->qO κ arr lo q hi
 | [],[],_,_,_,h=>h
 | [],_ :: _,_,_,e,_=>by simp at e
 | _ :: _,[],_,_,e,_=>by simp at e
 | x :: p,y :: q,lo,hi,e,h=>by
  rw[aU,aU]at e;injection e with e1 e2;have e3:x.1=y.1:=(FM e1).1;have e4:x.2.1=y.2.1:=(FM e1).2;obtain⟨h1,h2,h3,h4⟩:=h;rw[e4]at h2 h3 h4;exact⟨e3.symm.trans h1,h2,h3,KJ e2 h4⟩
theorem YE{P:Array (Nat×Nat×Nat)}{f:Nat×Nat×Nat->Nat×Nat×Nat}(hf:∀z,(f z).1=z.1/\(f z).2.1=z.2.1):P.toList.map (fun z=>(z.1,z.2.1))=(P.modify i f).toList.map (fun z=>(z.1,z.2.1)):=by
 refine P_ fun k=>?_
 rw[bz,bz,ir,ir,Array.getElem?_modify];split
 .cases P[k]? with
  | none=>rfl
  | some z=>
   obtain⟨h1,h2⟩:=hf z;show some (z.1,z.2.1)=some ((f z).1,(f z).2.1);rw[h1,h2]
 .rfl
theorem SInv.push(S:SInv knd κ a₀ lo st)(h:Seg κ (arrOf st) lo (lo+n))(hn:0 < n):SInv knd κ a₀ (lo+n) (nh st ((aV st).push (lo,n,0))):=by
 refine⟨S.perm,S.kind,S.failed,?_⟩;show qO κ (arrOf st) 0 ((aV st).push (lo,n,0)).toList (lo+n);rw[Qn];exact zq.mpr ⟨lo,S.chain,rfl,hn,h,rfl⟩
theorem wpS_sortAll{Q:Unit->av->Prop}(hO:LtAt prog w A E s knd κ)(h0:KeysOf κ a₀)(S:SInv knd κ a₀ 0 st)(h1:1<=a₀.size)
  (q:∀sn,(arrOf sn).Perm a₀->fK sn=none->FH κ (arrOf sn) a₀.size->Q () sn):wpS (ao prog w) A E s sortRuns' Q st:=by
 rw[sortRuns'_eq]
 refine aC (gn ?_)
 dsimp only
 rw[S.perm.size_eq]
 generalize minRun' a₀.size a₀.size 0=mr
 refine aC (dj (eE (I:=fun (x:Nat) (c:Option Unit×Nat) (aA:av)=>c.1=none/\x<=c.2/\c.2<=a₀.size/\SInv knd κ a₀ c.2 aA)
  (Q:=fun (c:Option Unit×Nat) (aA:av)=>c.1=none/\SInv knd κ a₀ a₀.size aA) ?step ?fin ⟨rfl,aD _,bT _,S⟩) ?post)
 case fin=>
  rintro⟨c1,lo⟩ aA ⟨hc,g1,g2,S'⟩
  dsimp only at hc g1 g2 S'
  have:lo=a₀.size:=by omega
  subst this
  exact⟨hc,S'⟩
 case step=>
  rintro x ⟨c1,lo⟩ aA _ hx ⟨hc,g1,g2,S'⟩
  dsimp only at hc g1 g2 S' |-
  subst hc
  by_cases dt:lo >= a₀.size
  .rw[Qx dt]
   have:lo=a₀.size:=by omega
   subst this
   exact aG ⟨rfl,S'⟩
  .rw[Qw dt]
   have T0:TB knd a₀ (aV aA) lo (arrOf aA) aA:=⟨S'.perm,S'.kind,S'.failed,rfl,fun _ _=>rfl⟩
   refine aC (jbs hO h0 (by omega) (by omega) T0 fun m cE T2 Dk hm2 gH=>?_)
   dsimp only
   have back:∀{cE:av},TB knd a₀ (aV aA) lo (arrOf aA) cE->SInv knd κ a₀ lo cE:=fun {cE} T2=>by
    refine⟨T2.perm,T2.kind,T2.failed,?_⟩;rw[T2.pend];exact zX (fun k _ g=>T2.low k g) S'.chain
   split
   .refine aC (oP (lI ⟨rfl,?_⟩))
    refine aC (jec hO h0 (n:=min (a₀.size - lo) mr) (by omega) (by omega) T2 gH fun gT T3 hJ=>?_)
    simp only[vA,eK,if_false]
    have mC:0 < min (a₀.size - lo) mr:=by omega
    have hZ:lo+min (a₀.size - lo) mr<=a₀.size:=by omega
    generalize min (a₀.size - lo) mr=n at *
    have S3:=back T3
    have G3:=hJ
    refine aC (gn ?_)
    cases hbk:(aV gT).back? with
    | none=>
     dsimp only
     exact aC (gm (aG ⟨rfl,by show x+1<=lo+n;omega,hZ,S3.push G3 mC⟩))
    | some z=>
     obtain⟨s1,n1,p1⟩:=z
     dsimp only
     generalize power' a₀.size (2 * s1+n1) (2 * s1+n1+n1+n) a₀.size=pw
     refine aC (dj (eE (I:=fun (_:Nat) (c:Option Unit×Unit) (aW:av)=>c=(none,())/\SInv knd κ a₀ lo aW/\Seg κ (arrOf aW) lo (lo+n))
      (Q:=fun (c:Option Unit×Unit) (aW:av)=>c=(none,())/\SInv knd κ a₀ lo aW/\Seg κ (arrOf aW) lo (lo+n)) ?step2 (fun _ _ hh=>hh) ⟨rfl,S3,G3⟩) ?post2)
     case step2=>
      rintro y c aW _ hy ⟨rfl,S4,G4⟩
      refine aC (gn ?_)
      by_cases h2:(aV aW).size > 1
      .rw[Qx h2,getElem?_pos (aV aW) ((aV aW).size - 2) (by omega)]
       generalize (aV aW)[(aV aW).size - 2]=z
       obtain⟨z1,z2,z3⟩:=z
       dsimp only
       split
       .exact aG ⟨rfl,S4,G4⟩
       .refine aC (Ym hO h0 S4 (by omega) (by omega) fun nF S5 _ ho=>?_)
        simp only[vA,eK,if_false]
        refine aG ⟨rfl,S5,fun i j q1 q2 q3=>?_⟩
        rw[nj (ho i q1),nj (ho j (by omega))]
        exact G4 i j q1 q2 q3
      .rw[Qw h2]
       exact aG ⟨rfl,S4,G4⟩
     case post2=>
      rintro c aW ⟨rfl,S4,G4⟩
      dsimp only
      refine aC (gm (aC (gm (aG ⟨rfl,by show x+1<=lo+n;omega,hZ,?_⟩))))
      refine SInv.push (st:=nh aW ((aV aW).modify ((aV aW).size - 1) fun z=>(z.1,z.2.1,pw))) ⟨S4.perm,S4.kind,S4.failed,?_⟩ G4 mC
      exact KJ (YE fun z=>⟨rfl,rfl⟩) S4.chain
   .have mC:0 < m:=by omega
    have hZ:lo+m<=a₀.size:=by omega
    have S3:=back T2
    have G3:=gH
    refine aC (gn ?_)
    cases hbk:(aV cE).back? with
    | none=>
     dsimp only
     exact aC (gm (aG ⟨rfl,by show x+1<=lo+m;omega,hZ,S3.push G3 mC⟩))
    | some z=>
     obtain⟨s1,n1,p1⟩:=z
     dsimp only
     generalize power' a₀.size (2 * s1+n1) (2 * s1+n1+n1+m) a₀.size=pw
     refine aC (dj (eE (I:=fun (_:Nat) (c:Option Unit×Unit) (aW:av)=>c=(none,())/\SInv knd κ a₀ lo aW/\Seg κ (arrOf aW) lo (lo+m))
      (Q:=fun (c:Option Unit×Unit) (aW:av)=>c=(none,())/\SInv knd κ a₀ lo aW/\Seg κ (arrOf aW) lo (lo+m)) ?step3 (fun _ _ hh=>hh) ⟨rfl,S3,G3⟩) ?post3)
     case step3=>
      rintro y c aW _ hy ⟨rfl,S4,G4⟩
      refine aC (gn ?_)
      by_cases h2:(aV aW).size > 1
      .rw[Qx h2,getElem?_pos (aV aW) ((aV aW).size - 2) (by omega)]
       generalize (aV aW)[(aV aW).size - 2]=z
       obtain⟨z1,z2,z3⟩:=z
       dsimp only
       split
       .exact aG ⟨rfl,S4,G4⟩
       .refine aC (Ym hO h0 S4 (by omega) (by omega) fun nF S5 _ ho=>?_)
        simp only[vA,eK,if_false]
        refine aG ⟨rfl,S5,fun i j q1 q2 q3=>?_⟩
        rw[nj (ho i q1),nj (ho j (by omega))]
        exact G4 i j q1 q2 q3
      .rw[Qw h2]
       exact aG ⟨rfl,S4,G4⟩
     case post3=>
      rintro c aW ⟨rfl,S4,G4⟩
      dsimp only
      refine aC (gm (aC (gm (aG ⟨rfl,by show x+1<=lo+m;omega,hZ,?_⟩))))
      refine SInv.push (st:=nh aW ((aV aW).modify ((aV aW).size - 1) fun z=>(z.1,z.2.1,pw))) ⟨S4.perm,S4.kind,S4.failed,?_⟩ G4 mC
      exact KJ (YE fun z=>⟨rfl,rfl⟩) S4.chain
 case post=>
  rintro⟨c1,lo⟩ aA ⟨hc,S'⟩
  dsimp only at hc |-
  subst hc
  dsimp only
  have hp:=Jh S'.chain
  rw[dy]at hp
  refine aC (dj (eE (I:=fun (x:Nat) (c:Option Unit×Unit) (aW:av)=>c=(none,())/\SInv knd κ a₀ a₀.size aW/\(aV aW).size+x<=a₀.size)
   (Q:=fun (c:Option Unit×Unit) (aW:av)=>c=(none,())/\SInv knd κ a₀ a₀.size aW/\(aV aW).size<=1) ?step4 ?fin4 ⟨rfl,S',by omega⟩) ?post4)
  case fin4=>
   rintro c aW ⟨rfl,S4,hz⟩
   exact⟨rfl,S4,by omega⟩
  case step4=>
   rintro x c aW _ hx ⟨rfl,S4,hz⟩
   refine aC (gn ?_)
   by_cases h2:(aV aW).size<=1
   .rw[Qx h2]
    exact aG ⟨rfl,S4,h2⟩
   .rw[Qw h2]
    have Lb:∀c:Prop,[Decidable c]->(if c then (aV aW).size - 2 - 1 else (aV aW).size - 2)+1 < (aV aW).size:=fun c _=>by split <;> omega
    refine aC (Ym hO h0 S4 (aD _) (Lb _) fun nF S5 hs5 _=>?_)
    simp only[vA,eK,if_false]
    exact aG ⟨rfl,S5,by omega⟩
  case post4=>
   rintro c aW ⟨rfl,S4,hz⟩
   dsimp only
   refine aG (q aW S4.perm S4.failed ?_)
   have C:=S4.chain
   have hl:(aV aW).toList.length<=1:=by rw[dy];exact hz
   generalize (aV aW).toList=L at *
   match L,C,hl with
   | [],C,_=>
    have:(0:Nat)=a₀.size:=C
    omega
   | [p],C,_=>
    obtain⟨_,_,g3,g4⟩:=C
    have g4:0+p.2.1=a₀.size:=g4
    rw[g4]at g3
    exact fun i j dB hj=>g3 i j (bT _) dB hj
end
end Tm
namespace L2
open PySem PySem.Spec PyProof.Rows PySem.W
variable {s:ai}
section
theorem YH{A:aS}:∀{xs ys:List D} {us vs:List ag},TrAtL s.heap xs us->TrAtL s.heap ys vs->CmpL xs ys->(∀x∈xs,∀(y:D) (u v:ag),TrAt s.heap x u->TrAt s.heap y v->rL A s u v (dEq x y))->(∀x∈xs,∀(y:D) (u v:ag),TrAt s.heap x u->TrAt s.heap y v->Cmp x y->jdY A s u v (dLt x y))->LexAt A s xs ys us vs
 | [],ys,us,vs,hx,hy,_,_,_=>by
  have:=hy.length;unfold TrAtL at hx;subst hx;exact .nilL this
 | x :: xs,[],us,vs,hx,hy,_,_,_=>by
  have:=hx.length;unfold TrAtL at hy;subst hy;exact .nilR this
 | x :: xs,y :: ys,us,vs,hx,hy,hc,he,hl=>by
  unfold TrAtL at hx hy;obtain⟨u,ur,rfl,h1,h2⟩:=hx;obtain⟨v,vr,rfl,g1,g2⟩:=hy;unfold CmpL at hc;exact .cons h2.length g2.length (he x bU y u v h1 g1) (fun e=>YH h2 g2 (hc.1 e) (fun z hz=>he z (ce _ hz)) fun z hz=>hl z (ce _ hz)) fun e=>hl x bU y u v h1 g1 (hc.2 e)
theorem Jr{ds:List D}{d:D}(h:d∈ds):d.depth<=D.depthL ds:=by
 obtain⟨i,hi,rfl⟩:=rS.mp h;exact D.depthL_get (aK hi)
theorem jgh:∀(n:Nat) (A:aS) (d d':D) (u v:ag),d.depth<=n->A.units+n < cLine->TrAt s.heap d u->TrAt s.heap d' v->Cmp d d'->jdY A s u v (dLt d d'):=by
 intro n;induction n with
 | zero=>
  intro A d d' u v hd hA hx hy hc
  cases d with
  | int i=>
   cases d' with
   | int j=>unfold TrAt at hx hy;obtain⟨t,rfl⟩:=hx;obtain⟨t',rfl⟩:=hy;unfold dLt;exact jeG A s i t j t'
   | str j=>unfold Cmp at hc;exact hc.elim
   | tup j=>unfold Cmp at hc;exact hc.elim
  | str i=>
   cases d' with
   | str j=>unfold TrAt at hx hy;obtain⟨t,rfl⟩:=hx;obtain⟨t',rfl⟩:=hy;unfold dLt;exact jeF A s i t j t'
   | int j=>unfold Cmp at hc;exact hc.elim
   | tup j=>unfold Cmp at hc;exact hc.elim
  | tup ds=>unfold D.depth at hd;omega
 | succ n ih=>
  intro A d d' u v hd hA hx hy hc
  cases d with
  | int i=>exact ih A (.int i) d' u v (by unfold D.depth;omega) (by omega) hx hy hc
  | str i=>exact ih A (.str i) d' u v (by unfold D.depth;omega) (by omega) hx hy hc
  | tup ds=>
   cases d' with
   | int j=>unfold Cmp at hc;exact hc.elim
   | str j=>unfold Cmp at hc;exact hc.elim
   | tup es=>
    unfold TrAt at hx hy;unfold Cmp at hc;unfold D.depth at hd;obtain⟨a,its,rfl,ta,ci⟩:=hx;obtain⟨b,bF,rfl,tb,cx⟩:=hy;have l1:ds.length=its.size:=by have:=ci.length;simpa using this
    have l2:es.length=bF.size:=by have:=cx.length;simpa using this
    unfold dLt;intro prog w E Q h;have hL:LexAt A.in1 s ds es its.toList bF.toList:=YH ci cx hc (fun x hx y u v h1 h2=>jcN n A.in1 x y u v (by have:=Jr hx;omega) (by show A.units+1+n < cLine;omega) h1 h2) (fun x hx y u v h1 h2 h3=>ih A.in1 x y u v (by have:=Jr hx;omega) (by show A.units+1+n < cLine;omega) h1 h2 h3);obtain⟨⟨cls,dd,data,sl⟩,ho,mI,m,tO⟩:=ta;obtain⟨⟨cls2,Af,data2,vU⟩,fq,xM,m2,tN⟩:=tb;simp only at mI tO xM tN;subst mI tO xM tN;exact richCompare_meets_room (op:=.Lt) ⟨_,ho,rfl⟩ ⟨_,fq,rfl⟩ PySem.F.slot_tuple_lt PySem.F.entry_tuple_lt (PySem.F.args_tuple_lt_2 _ _) (jaO a b its bF m m2 dd Af sl vU ds es l1 l2)
     ⟨ho,fq,hL,show Value.bool (dLtL ds es)≠ag.notImplemented/\Q (.bool (dLtL ds es)) s from⟨(fun x=>nomatch x),h⟩⟩ (by omega)
end
variable {prog:aE}{w:aB}{A:aS}{E:ag->ai->Prop}{Q:Bool->ai->Prop}{v:ag}{n:Nat}{h:ar}
section
theorem jek{b:Bool}(h:Q b s):au (ao prog w) A (truthOfDropped (.bool b)) Q E s:=by
 unfold truthOfDropped;show au (ao prog w) A (truthy (.bool b)) Q E s
 first | exact aH h | exact rD h | (unfold truthy;exact aH h)
theorem jiz{u:ag}{r:Bool}(hl:jdY A s u v r)(h:Q r s):au (ao prog w) A (oneLt' false u v) Q E s:=by
 rw[oneLt'_eq];simp only[eK,if_false];exact aq (hl prog w _ _ (jek h))
theorem jdG{m:Nat}:∀{xs ys:List D} {us vs:List ag} (i:Nat),LexAt A s xs ys us vs->xs.length+m=ys.length+n->Q (dLtL xs ys) s->KatLex prog w A false (decide (n < m)) Q (us.zip vs) i s:=by
 intro xs ys us vs i h;induction h generalizing i with
 | @nilL ys vs e=>
  intro hl q;rw[PN];refine kat_nil ?_
  cases ys with
  | nil=>
   simp only[fN]at hl;unfold dLtL at q;rw[Qv (by omega)];exact q
  | cons c u=>
   simp only[fN,ck]at hl;unfold dLtL at q;rw[Qu (by omega)];exact q
 | @nilR xs vs e=>
  intro hl q;rw[PM];refine kat_nil ?_
  cases xs with
  | nil=>
   simp only[fN]at hl;unfold dLtL at q;rw[Qv (by omega)];exact q
  | cons c u=>
   simp only[fN,ck]at hl;unfold dLtL at q;rw[Qv (by omega)];exact q
 | @cons x y xs ys u v us vs e1 e2 he hy hn ih=>
  intro hl q;rw[FV];rw[yx]at q;simp only[ck]at hl;refine kat_cons (he prog w _ _ ?_)
  cases hE:dEq x y with
  | true=>
   rw[Qx hE]at q;exact kat_yes (ih hE (i+1) (by omega) q)
  | false=>
   rw[Qw (by rw[hE];exact c9)]at q;exact kat_no (jiz (hn hE) q)
structure Trees(L:List D)(n:Nat):Prop where
 cmp:∀d∈L,∀e∈L,Cmp d e
 dep:∀d∈L,d.depth<=n
 tup:∀d∈L,∃ds,d=.tup ds
open Classical in
noncomputable def Jm(h:ar)(L:List D)(v:ag):Option D:=if x:∃d,d∈L/\TrAt h d v then some (choose x) else none
theorem Yo{L:List D}{d:D}(hd:d∈L)(ht:TrAt h d v):Jm h L v=some d:=by
 unfold Jm;have x:∃d,d∈L/\TrAt h d v:=⟨d,hd,ht⟩
 rw[dif_pos x];rw[jby (Qk x).2 ht]
theorem KP{L:List D}{d:D}(e:Jm h L v=some d):d∈L/\TrAt h d v:=by
 unfold Jm at e;split at e
 .rename_i x
  injection e with e;rw[<- e];exact Qk x
 .cases e
noncomputable def zE(h:ar)(L:List D):Pl where
 α:=D
 blt:=dLt
 irrefl:=jat
 trans:=yw
 negTrans:=jhp
 total:=Ko
 keyOf:=Jm h L
 dflt:=.int 0
theorem jbx{L:List D}(T:Trees L n)(hA:A.units+n < cLine):Tm.LtAt prog w A E s (tuples' false) (zE s.heap L):=by
 intro st x y Q hk hx hy h;obtain⟨d,hd⟩:=hx;obtain⟨e,he⟩:=hy;obtain⟨d1,d2⟩:=KP hd;obtain⟨e1,e2⟩:=KP he;have k1:Tm.kq (zE s.heap L) x=d:=by unfold Tm.kq;rw[hd];rfl
 have k2:Tm.kq (zE s.heap L) y=e:=by unfold Tm.kq;rw[he];rfl
 rw[k1,k2]at h;have hc:=T.cmp d d1 e e1;have dN:=T.dep d d1;obtain⟨ds,rfl⟩:=T.tup d d1;obtain⟨es,rfl⟩:=T.tup e e1;rw[lt'_eq];refine aC (gn ?_);rw[hk];unfold TrAt at d2 e2;obtain⟨a,its,ea,ta,ci⟩:=d2;obtain⟨b,bF,eb,tb,cx⟩:=e2;have l1:ds.length=its.size:=by have:=ci.length;simpa using this
 have l2:es.length=bF.size:=by have:=cx.length;simpa using this
 unfold Cmp at hc;have hdp':D.depthL ds+1<=n:=by unfold D.depth at dN;omega
 have hL:LexAt A s ds es its.toList bF.toList:=YH ci cx hc (fun x hx y u v h1 h2=>jcN n A x y u v (by have:=Jr hx;omega) hA h1 h2) (fun x hx y u v h1 h2 h3=>jgh n A x y u v (by have:=Jr hx;omega) hA h1 h2 h3);obtain⟨o,ho,mI,m,tO⟩:=ta;obtain⟨o2,fq,xM,m2,tN⟩:=tb;rw[ea,eb];refine aC (oP (EO (kat_lt ho tO fq tN (jdG 0 hL (by omega) ⟨rfl,?_⟩))));have h:Q (some (dLt (D.tup ds) (D.tup es))) st:=h;unfold dLt at h;exact aG h
end
variable {vs:List ag}
theorem Yq{gC:List ag}(p:gC.Perm vs):∀{ds:List D},TrAtL h ds vs->∃ms:List D,TrAtL h ms gC/\ms.Perm ds:=by
 induction p with
 | nil=>intro ds x;exact⟨ds,x,.refl _⟩
 | cons v _ ih=>
  intro ds x
  cases ds with
  | nil=>unfold TrAtL at x;cases x
  | cons d ds=>
   unfold TrAtL at x;obtain⟨v',r,e,h1,h2⟩:=x;injection e with e1 e2;subst e1 e2;obtain⟨ms,g1,g2⟩:=ih h2;exact⟨d :: ms,by unfold TrAtL;exact⟨_,_,rfl,h1,g1⟩,g2.cons d⟩
 | swap a b l=>
  intro ds x
  cases ds with
  | nil=>unfold TrAtL at x;cases x
  | cons d ds=>
   unfold TrAtL at x;obtain⟨v',r,e,h1,h2⟩:=x;injection e with e1 e2;subst e1 e2
   cases ds with
   | nil=>unfold TrAtL at h2;cases h2
   | cons d2 ds=>
    unfold TrAtL at h2;obtain⟨v2,r2,e,g1,g2⟩:=h2;injection e with e1 e2;subst e1 e2;refine⟨d2 :: d :: ds,?_,.swap _ _ _⟩;unfold TrAtL;refine⟨_,_,rfl,g1,?_⟩;unfold TrAtL;exact⟨_,_,rfl,h1,g2⟩
 | trans p1 p2 ih1 ih2=>
  intro ds x;obtain⟨ms,g1,g2⟩:=ih2 x;obtain⟨ns,g3,g4⟩:=ih1 g1;exact⟨ns,g3,g4.trans g2⟩
theorem jco{h:ar}:∀{ds:List D} {vs:List ag} {v:ag},TrAtL h ds vs->v∈vs->∃d∈ds,TrAt h d v
 | [],vs,v,x,hv=>by unfold TrAtL at x;subst x;cases hv
 | d :: ds,vs,v,x,hv=>by
  unfold TrAtL at x;obtain⟨u,r,rfl,h1,h2⟩:=x;rcases bG.mp hv with rfl | hv
  .exact⟨d,bU,h1⟩
  .obtain⟨e,he,ht⟩:=jco h2 hv
   exact⟨e,ce _ he,ht⟩
theorem jcp{h:ar}:∀{ds:List D} {vs:List ag},TrAtL h ds vs->∀(i:Nat) (d:D),ds[i]?=some d->∃v,vs[i]?=some v/\TrAt h d v
 | [],vs,x,i,d,e=>by simp at e
 | c :: ds,vs,x,i,d,e=>by
  unfold TrAtL at x;obtain⟨u,r,rfl,h1,h2⟩:=x
  cases i with
  | zero=>simp only[List.getElem?_cons_zero,Option.some.injEq]at e;subst e;exact⟨u,rfl,h1⟩
  | succ i=>exact jcp h2 i d (by simpa using e)
theorem ZV{ds:List D}(I:TrAtL h ds vs){xs:Array Keyed}(hp:xs.Perm (ni vs))(hs:FH (zE h ds) xs (ni vs).size):
  ∃ms,TrAtL h ms (xs.map (·.2)).toList/\ms.Perm ds/\ms.Pairwise (fun a b=>dLt b a=false):=by
 have hl:xs.toList.Perm (vs.zip vs):=by rw[<- Bk];exact vB.mp hp
 have xz:∀p,p∈xs.toList->p.1=p.2/\p.1∈vs:=fun p xw=>mem_zip_self (hl.mem_iff.mp xw)
 have e:(xs.map (·.2)).toList.Perm vs:=by
  rw[BD];have:=hl.map (·.2);rwa [FZ (aD _)]at this
 obtain⟨ms,h1,h2⟩:=Yq e I
 refine⟨ms,h1,h2,?_⟩
 have key:∀i d,ms[i]?=some d->KK (zE h ds) xs i=d:=by
  intro i d hd;obtain⟨v,hv,ht⟩:=jcp h1 i d hd;rw[BD,bz,ir]at hv;unfold KK
  cases hx:xs[i]? with
  | none=>rw[hx]at hv;cases hv
  | some p=>
   rw[hx]at hv;injection hv with hv;have hm:p∈xs.toList:=by
    rw[<- ir]at hx;exact lV hx
   have e1:p.1=v:=by rw[(xz p hm).1];exact hv
   show (Jm h ds p.1).getD _=d;rw[e1,Yo (h2.mem_iff.mp (lV hd)) ht];rfl
 have bu:ms.length=(ni vs).size:=by
  rw[h1.length,e.length_eq,FB]
 rw[Bu]
 intro i j hi hj dB
 have:=hs i j (c6 dB) (by omega)
 rw[key i _ (aK hi),key j _ (aK hj)]at this
 exact this
structure SortT(ds:List D)(n:Nat):Prop extends Trees ds n where
 fst:∀d∈ds,∃es r,d=.tup (.tup es :: r)
variable {ep:Nat}{P:Fin->ai->Prop}
section
theorem Yn{h:ar}:∀{ds:List D} {vs:List ag},TrAtL h ds vs->(∀d∈ds,∃es r,d=.tup (.tup es :: r))->∃fs,KatTups h vs fs/\fs.length=vs.length/\∀v∈fs,∃a o,v=Value.ref a/\h.get? a=some o/\o.cls=.type "tuple"
 | [],vs,x,_=>by unfold TrAtL at x;subst x;exact⟨[],KatTups.nil,rfl,fun v hv=>absurd hv (by simp)⟩
 | d :: ds,vs,x,hd=>by
  unfold TrAtL at x;obtain⟨v,r,rfl,h1,h2⟩:=x;obtain⟨fs,g1,g2,g3⟩:=Yn h2 fun e he=>hd e (ce _ he)
  obtain⟨es,rr,rfl⟩:=hd d bU;unfold TrAt at h1;obtain⟨a,its,rfl,⟨o,ho,hc,n,Lo⟩,hL⟩:=h1;unfold TrAtL at hL;obtain⟨f,fr,ef,hf,_⟩:=hL;unfold TrAt at hf;obtain⟨b,bF,rfl,⟨o2,fq,mJ,_⟩,_⟩:=hf;refine⟨.ref b :: fs,KatTups.cons ho hc Lo ?_ g1,by simp[g2],fun v hv=>?_⟩
  .rw[<- ir,ef];rfl
  .rcases bG.mp hv with rfl | hv
   .exact⟨b,o2,rfl,fq,mJ⟩
   .exact g3 v hv
theorem jbV{ds:List D}{Q:gq->ai->Prop}(hx:TrAtL s.heap ds vs)(hf:∀d∈ds,∃es r,d=.tup (.tup es :: r))(hp:0 < vs.length)(q:Q (tuples' false) s):au (ao prog w) A (keyKind' vs.toArray) Q E s:=by
 obtain⟨fs,g1,g2,g3⟩:=Yn hx hf;refine kat_kind (T:=.type "tuple") g1 (by omega) (fun v hv=>?_) (by decide) (by simpa using q);obtain⟨a,o,rfl,ho,hc⟩:=g3 v hv;intro A' Q' E' s' k q';exact wpAny_typeOf (s:=s') ⟨o,k _ _ ho,hc⟩ q'
theorem jbE{l:ad}{ds:List D}(at_:s.heap.get? l=some (cm "list" vs.toArray ep))(I:TrAtL s.heap ds vs)(S:SortT ds n)(hA:A.units+n < cLine)(most:vs.length<=aI)(two:2<=vs.length)
  (q:∀(out:Array ag) (ms:List D),out.toList.Perm vs->TrAtL s.heap ms out.toList->ms.Perm ds->ms.Pairwise (fun a b=>dLt b a=false)->P (.done (.ret .none)) { s with heap:=Fz s.heap l vs out }):au (ao prog w) A (Builtin.«list.sort» ⟨[.ref l],[]⟩) P E s:=by
 have lt:l < s.heap.objs.size:=bH at_
 obtain⟨v,u,r,rfl⟩:∃v u r,vs=v :: u :: r:=match vs,two with | v :: u :: r,_=>⟨v,u,r,rfl⟩
 have nE:¬(v :: u :: r).toArray.size < 2:=by show ¬(v :: u :: r).length < 2;omega
 generalize pE:v :: u :: r=vs at *
 rw[list_sort_plain]
 refine aq (listItems_at at_ rfl (aq (Bl at_ rfl ?_)))
 have bare:∃e1,(s.heap.update l (fg fun _=>#[])).get? l=some (cm "list" #[] e1):=⟨_,get?_update_seq at_ (fun _=>#[])⟩
 obtain⟨e1,bare⟩:=bare
 refine aq (Bj bare rfl (aq (wpAny_newTuple (aq (AN (oC ?_))))))
 have sq:(((s.heap.update l (fg fun _=>#[])).push (cm "tuple" vs.toArray 0)).push (cm "list" #[] 0)).get? l=some (cm "list" #[] e1):=by
  have z1:(s.heap.update l (fg fun _=>#[])).objs.size=s.heap.objs.size:=Fj ..;rw[A9,A9]
  .exact bare
  .rw[z1];exact cb lt
  .rw[Bi,z1];exact cb (rP lt)
 have kp:∀a xs,s.heap.IsTuple a xs->(((s.heap.update l (fg fun _=>#[])).push (cm "tuple" vs.toArray 0)).push (cm "list" #[] 0)).IsTuple a xs:=by
  rintro a xs ⟨o,ho,hc,m,hd⟩;have ww:a≠l:=by
   rintro rfl;rw[at_]at ho
   cases ho
   injection hc with hc;exact absurd hc (by decide)
  refine⟨o,b_ _ (b_ _ ?_),hc,m,hd⟩;rw[Fk _ _ (eG ww)];exact ho
 have I':=I.kept kp
 show au (ao prog w) A _ P E ({ s with heap:=((s.heap.update l (fg fun _=>#[])).push (cm "tuple" vs.toArray 0)).push (cm "list" #[] 0) }:ai)
 generalize ed:({ s with heap:=((s.heap.update l (fg fun _=>#[])).push (cm "tuple" vs.toArray 0)).push (cm "list" #[] 0) }:ai)=s'
 have I2:TrAtL s'.heap ds vs:=by rw[<- ed];exact I'
 dsimp only
 rw[Qw nE,Qw nE]
 refine aq (jbV I2 S.fst (by omega) ?_)
 have keys:KeysOf (zE s'.heap ds) (ni vs):=by
  intro p hp;rw[Bk]at hp;obtain⟨d,hd,ht⟩:=jco I2 (mem_zip_self hp).2;exact⟨d,Yo hd ht⟩
 have BL:s'.heap.get? l=some (cm "list" #[] e1):=by rw[<- ed];exact sq
 refine aq (cI (Tm.wpS_sortAll (st:=Bn (tuples' false) (ni vs) #[] 7 none) (jbx S.toTrees hA) keys ⟨Gr _,rfl,rfl,rfl⟩ (by rw[FB];omega) (Q:=fun _ sn=>(arrOf sn).Perm (ni vs)/\fK sn=none/\FH (zE s'.heap ds) (arrOf sn) (ni vs).size) fun sn a b c=>⟨a,b,c⟩) (fun o sh J=>?_) fun _ _ e=>e)
 obtain⟨⟨⟩,sn⟩:=o
 obtain⟨rfl,perm,Cd,up⟩:=J
 obtain⟨ms,h1,h2,h3⟩:=ZV I2 perm up
 have fits:((arrOf sn).map (·.2)).size<=aI:=by
  rw[Array.size_map,perm.size_eq,FB];exact most
 dsimp only
 refine aq (Bj BL rfl (aq (Bl BL rfl ?_ (hsz2:=rR fits))))
 rw[Cd]
 simp only[bne_self_eq_false,eK,if_false]
 have e2:(((arrOf sn).map (·.2)).toList).Perm vs:=by
  have hl:(arrOf sn).toList.Perm (vs.zip vs):=by rw[<- Bk];exact vB.mp perm
  rw[BD];have:=hl.map (·.2);rwa [FZ (aD _)]at this
 obtain⟨Ci,cv,eh⟩:=Yq e2 I
 have em:Ci=ms:=trL_inj (cv.kept kp) (by rw[<- ed]at h1;exact h1)
 rw[em]at cv
 rw[<- ed]
 exact aH (q _ ms e2 cv h2 h3)
end
section
theorem jez{l:ad}(at_:s.heap.get? l=some (cm "list" vs.toArray ep))(few:vs.length < 2)
  (q:P (.done (.ret .none)) { s with heap:=Fz s.heap l vs vs.toArray }):au (ao prog w) A (Builtin.«list.sort» ⟨[.ref l],[]⟩) P E s:=by
 have lt:l < s.heap.objs.size:=bH at_
 have nE:vs.toArray.size < 2:=by show vs.length < 2;omega
 rw[list_sort_plain]
 refine aq (listItems_at at_ rfl (aq (Bl at_ rfl ?_)))
 have bare:∃e1,(s.heap.update l (fg fun _=>#[])).get? l=some (cm "list" #[] e1):=⟨_,get?_update_seq at_ (fun _=>#[])⟩
 obtain⟨e1,bare⟩:=bare
 refine aq (Bj bare rfl (aq (wpAny_newTuple (aq (AN (oC ?_))))))
 have sq:(((s.heap.update l (fg fun _=>#[])).push (cm "tuple" vs.toArray 0)).push (cm "list" #[] 0)).get? l=some (cm "list" #[] e1):=by
  have z1:(s.heap.update l (fg fun _=>#[])).objs.size=s.heap.objs.size:=Fj ..;rw[A9,A9]
  .exact bare
  .rw[z1];exact cb lt
  .rw[Bi,z1];exact cb (rP lt)
 show au (ao prog w) A _ P E ({ s with heap:=((s.heap.update l (fg fun _=>#[])).push (cm "tuple" vs.toArray 0)).push (cm "list" #[] 0) }:ai)
 dsimp only
 rw[Qx nE,Qx nE]
 refine aq (aH (aq (aH ?_)))
 dsimp only
 have eA:Array.map (fun x=>x.2) (arrOf (Bn general' (vs.toArray.zip vs.toArray) #[] 7 none))=vs.toArray:=by
  show Array.map (fun x=>x.2) (vs.toArray.zip vs.toArray)=vs.toArray;apply Array.ext';rw[BD,show (vs.toArray.zip vs.toArray)=ni vs from rfl,Bk,FZ (aD _)]
 rw[eA]
 refine aq (Bj sq rfl (aq (Bl sq rfl ?_ (hsz2:=rR ?_))))
 .simp only[bne_self_eq_false,eK,if_false]
  exact aH q
 .rw[gM]
  exact aJ (c6 nE) (by decide)
theorem jie{r:D->D->Prop}:∀{ds:List D},ds.length < 2->ds.Pairwise r
 | [],_=>.nil
 | [_],_=>vq ..
 | _ :: _ :: _,h=>absurd h (by simp only[ck];omega)
theorem KQ{l:ad}{ds:List D}(at_:s.heap.get? l=some (cm "list" vs.toArray ep))(I:TrAtL s.heap ds vs)(S:SortT ds n)(hA:A.units+n < cLine)(most:vs.length<=aI)
  (q:∀(out:Array ag) (ms:List D),out.toList.Perm vs->TrAtL s.heap ms out.toList->ms.Perm ds->ms.Pairwise (fun a b=>dLt b a=false)->P (.done (.ret .none)) { s with heap:=Fz s.heap l vs out }):au (ao prog w) A (Builtin.«list.sort» ⟨[.ref l],[]⟩) P E s:=by
 rcases oR vs.length 2 with few | two
 .refine jez at_ few (q vs.toArray ds (.refl _) I (.refl _) ?_)
  have:ds.length < 2:=by rw[I.length];exact few
  exact jie this
 .exact jbE at_ I S hA most two q
end
def orb(M:Nat):Nat->Nat->Nat
 | 0,a=>a
 | n+1,a=>orb M n ((a * 5+1) % M)
def jj5(M:Nat):Prop:=(∀e,e < M->∃k,k < M/\orb M k 0=e)/\orb M M 0=0
def seq(t:lN)(p:Od):Nat->Od
 | 0=>p
 | n+1=>t.advance (seq t p n)
structure TabIn(led:Bool)(t:lN):Prop where
 ok:TabOk led t
 full:jj5 (t.mask+1)
 odd:t.mask % 2=1
 le:∀j∈t.place.toList,j<=t.mask
 fC:t.place.size<=t.mask
theorem getD_none{wk:Array (Option Nat)}{j:Nat}(h:wk.getD j (some 0)=none):wk[j]?=some none:=by
 by_cases hj:j < wk.size
 .rw[Gq hj]
  simp[Qs,hj]at h;rw[h]
 .simp[Qs,hj]at h
end L2
namespace PySem
end PySem
namespace L2
open PySem PySem.Spec PyProof.Rows PySem.W
def DTr(h:ar)(d:D)(a:ad):Prop:=TrAt h d (.ref a)/\d.depth<=8
variable {h:ar}{es:Array (Int×ag)}
theorem jgc{a:ad}{ep:Nat}{t:lN}(ho:h.get? a=some { cls:=.type "set",dict:=none,data:=.set es ep t }):∀o,h.get? a=some o->o.cls≠.type "tuple":=fun o e z=>by
 rw[ho]at e
 cases e
 injection z with z;exact absurd z (by decide)
section
variable {prog:aE}{w:aB}{A:aS}{E:ag->ai->Prop}{s:ai}
def ElD(h:ar)(L:List D)(e:Int×ag):Prop:=∃k b,e.2=.ref b/\DTr h k b/\k∈L
def jj2(n mask:Nat):Prop:=(mask=7/\n<=4)\/(mask=31/\n<=18)\/(mask=127/\n<=76)\/(mask=511/\n<=306)\/(mask=2047/\n<=1228)
def ElsD(h:ar)(L:List (D×ad))(es:Array (Int×ag)):Prop:=(es.toList.map (·.2)).Perm (L.map fun p=>Value.ref p.2)/\∀p∈L,DTr h p.1 p.2
theorem ElsD.el{L:List (D×ad)}(x:ElsD h L es):∀e∈es.toList,ElD h (L.map (·.1)) e:=fun e he=>by
 have:=x.1.mem_iff.mp (PY (f:=(·.2)) he);obtain⟨p,hp,e2⟩:=bq.mp this;exact⟨p.1,p.2,e2.symm,x.2 p hp,PY hp⟩
theorem ElsD.more{L:List (D×ad)}{tX:Array (Int×ag)}{ks:D}{x:ad}{hh:Int}{p:Nat}(y:ElsD h L es)(hk:DTr h ks x)(iF:tX.toList=es.toList.take p++(hh,Value.ref x) :: es.toList.drop p):ElsD h (L++[(ks,x)]) tX:=by
 refine⟨?_,fun q hq=>?_⟩
 .rw[iF,aX,aU,aX,aU,eJ]
  refine List.perm_middle.trans (List.Perm.trans ?_ (lT (l₁:=[Value.ref x])));refine List.Perm.cons _ ?_;rw[<- aX,nr];exact y.1
 .rcases bK.mp hq with hq | hq
  .exact y.2 q hq
  .rw[aN.mp hq];exact hk
def DSetAt(h:ar)(a:ad)(led:Bool)(L:List (D×ad)):Prop:=∃(es:Array (Int×ag)) (ep:Nat) (t:lN),h.get? a=some { cls:=.type "set",dict:=none,data:=.set es ep t }/\ElsD h L es/\es.size=L.length/\TabIn led t/\t.place.size=es.size/\jj2 es.size t.mask
end
section
variable {prog:aE}{w:aB}{A:aS}{E:ag->ai->Prop}{R:rM->ai->Prop}
theorem DSetAt.not{a:ad}{led:Bool}{L:List (D×ad)}(x:DSetAt h a led L):∀o,h.get? a=some o->o.cls≠.type "tuple":=by
 obtain⟨es,ep,t,e,_⟩:=x;exact jgc e
end
end L2
namespace PySem
end PySem
namespace Tim
open PySem PyProof.Rows
abbrev GT:Type:=Option (Option Nat)×Nat×Nat
def jiH:ag->Option Int
 | .int n _=>some n
 | _=>none
@[reducible] def intKind:Pl where
 α:=Int
 blt a b:=decide (a < b)
 irrefl a:=Qv (Qj a)
 trans a b c h1 h2:=Qu (Qi (Qt h1) (Qt h2))
 negTrans a b c h:=by
  have:=Qt h;by_cases x:a < b
  .exact .inl (Qu x)
  .exact .inr (Qu (by omega))
 total a b h1 h2:=by
  have:=of_decide_eq_false h1;have:=of_decide_eq_false h2;omega
 keyOf:=jiH
 dflt:=0
end Tim
namespace L2
open PySem PySem.Spec PyProof.Rows PySem.W
variable {σ:St}{H:Hp}
section
variable {X:Cx}{ae:List (ad×Obj)}{s:ai}
mutual
theorem Ki(I:Inv X ae σ H s):∀{d:D} {x:V} {u:ag},Held H d x->RelV x u->TrAt s.heap d u
 | .int i,x,u,h,r=>by unfold Held at h;subst h;obtain⟨t,rfl⟩:=r;unfold TrAt;exact⟨t,rfl⟩
 | .str i,x,u,h,r=>by unfold Held at h;subst h;obtain⟨t,rfl⟩:=r;unfold TrAt;exact⟨t,rfl⟩
 | .tup ds,x,u,h,r=>by
  unfold Held at h;obtain⟨a,xs,rfl,ha,ci⟩:=h
  cases r
  obtain⟨its,dX,ta,_⟩:=I.tuple (SqT.of ha);unfold TrAt;exact⟨a,its.toArray,rfl,ta,by simpa using heldL_tr I ci dX⟩
theorem heldL_tr(I:Inv X ae σ H s):∀{ds:List D} {xs:List V} {us:List ag},HeldL H ds xs->Vals xs us->TrAtL s.heap ds us
 | [],xs,us,h,r=>by unfold HeldL at h;subst h;cases r;unfold TrAtL;rfl
 | d :: ds,xs,us,h,r=>by
  unfold HeldL at h;obtain⟨v,q,rfl,h1,h2⟩:=h
  cases r with
  | cons h r=>unfold TrAtL;exact⟨_,_,rfl,Ki I h1 h,heldL_tr I h2 r⟩
end
end
theorem Zn{α β:Type}{f:α->β}{m l:List β}(p:m.Perm l):∀{ps:List α},ps.map f=m->∃qs:List α,qs.Perm ps/\qs.map f=l:=by
 induction p with
 | nil=>intro ps e;exact⟨ps,.refl _,e⟩
 | cons x _ ih=>
  intro ps e
  cases ps with
  | nil=>cases e
  | cons y ps=>
   rw[aU]at e;injection e with e1 e2;obtain⟨qs,h1,h2⟩:=ih e2;exact⟨y :: qs,h1.cons y,by rw[aU,h2,e1]⟩
 | swap x y l=>
  intro ps e;match ps,e with
  | a :: b :: ps,e=>
   simp only[aU,List.cons.injEq]at e;obtain⟨e1,e2,e3⟩:=e;exact⟨b :: a :: ps,.swap _ _ _,by simp only[aU,e1,e2,e3]⟩
 | trans _ _ ih1 ih2=>
  intro ps e;obtain⟨qs,h1,h2⟩:=ih1 e;obtain⟨rs,h3,h4⟩:=ih2 h2;exact⟨rs,h3.trans h1,h4⟩
theorem Yr{h:ar}:∀{qs:List (D×ad)},(∀q∈qs,TrAt h q.1 (.ref q.2))->TrAtL h (qs.map (·.1)) (qs.map fun p=>Value.ref p.2)
 | [],_=>by unfold TrAtL;rfl
 | q :: qs,hq=>by
  rw[aU,aU];unfold TrAtL;exact⟨_,_,rfl,hq q bU,Yr fun r hr=>hq r (ce _ hr)⟩
theorem Kv:∀{as:List ad} {us:List ag},Vals (as.map V.ref) us->us=as.map Value.ref
 | [],us,r=>by cases r;rfl
 | a :: as,us,r=>by
  cases r with
  | cons h r=>cases h;rw[Kv r];rfl
theorem KA:∀(as:List ad),Vals (as.map V.ref) (as.map Value.ref)
 | []=>.nil
 | a :: as=>.cons rfl (KA as)
variable {n:Nat}
theorem SortT.perm{ds es:List D}(x:SortT ds n)(p:es.Perm ds):SortT es n:=⟨⟨fun d hd e he=>x.cmp d (p.mem_iff.mp hd) e (p.mem_iff.mp he),fun d hd=>x.dep d (p.mem_iff.mp hd),fun d hd=>x.tup d (p.mem_iff.mp hd)⟩,fun d hd=>x.fst d (p.mem_iff.mp hd)⟩
mutual
def D.py:D->PyData
 | .int i=>.int i
 | .str x=>.str x
 | .tup ds=>.tuple (D.pyL ds)
def D.pyL:List D->List PyData
 | []=>[]
 | d :: ds=>D.py d :: D.pyL ds
end
mutual
def OkD:D->Prop
 | .int i=>i.natAbs < 10 ^ 39
 | .str x=>∀c∈x.cps.toList,(97<=c/\c<=122)\/c=46
 | .tup ds=>OkDL ds
def OkDL:List D->Prop
 | []=>True
 | d :: ds=>OkD d/\OkDL ds
end
def sgn(d:D):List Nat:=d.py.shown.cps.toList
def jn:List (List Nat)->List Nat
 | []=>[]
 | [t]=>t
 | t :: u :: r=>t++44 :: 32 :: jn (u :: r)
theorem qi(x y:Str):(x++y).cps.toList=x.cps.toList++y.cps.toList:=by
 show (x.cps++y.cps).toList=_;simp
theorem Yc:∀ts:List Str,(A3 ", " ts).cps.toList=jn (ts.map fun t=>t.cps.toList)
 | []=>rfl
 | [t]=>by
  show (A3 ", " [t]).cps.toList=t.cps.toList
  first | rfl | simp[A3]
 | t :: u :: r=>by
  rw[join_cons_cons,qi,qi,signs_sep,Yc (u :: r)];simp only[aU,jn,bh,cC,lU]
theorem JQ(i:Int):sgn (.int i)=(AJ i).toList.map Gj:=by
 show ((AJ i:String):Str).cps.toList=_;rw[signs_ofString]
theorem jcB:∀ds:List D,(oM (D.pyL ds)).length=ds.length
 | []=>rfl
 | d :: ds=>by
  show (_ :: oM (D.pyL ds)).length=_;rw[ck,jcB ds];rfl
theorem Z7:∀ds:List D,(oM (D.pyL ds)).map (fun t=>t.cps.toList)=ds.map sgn
 | []=>rfl
 | d :: ds=>by
  show (_ :: oM (D.pyL ds)).map _=_;rw[aU,Z7 ds];rfl
def jb4(n:Nat):List Nat:=if n=1 then [44,41] else [41]
theorem qA(ds:List D):sgn (.tup ds)=40 :: (jn (ds.map sgn)++jb4 ds.length):=by
 show (AR (oM (D.pyL ds))).cps.toList=_;unfold AR;rw[qi,qi,signs_lparen,Yc,Z7,jcB];unfold jb4;by_cases h:ds.length=1
 .rw[Qx h,Qx (by rw[h];rfl)]
  rfl
 .rw[Qw h,Qw (by simpa using h)]
  rfl
theorem K2{c:Nat}(h1:(97<=c/\c<=122)\/c=46):Bc 39 c=[c]:=by
 unfold Bc;have hp:Ob c=true:=by
  have:∀c,c < 128->(97<=c/\c<=122)\/c=46->Ob c=true:=by decide +kernel
  exact this c (by omega) h1
 simp only[beq_iff_eq,Ql];rw[Qw (by omega),Qw (by omega),Qw (by omega),Qw (by omega),Qx hp]
theorem Jv:∀(l:List Nat) (aR:Array Nat),(∀c∈l,(97<=c/\c<=122)\/c=46)->(l.foldl (fun out c=>out++(Bc 39 c).toArray) aR).toList=aR.toList++l
 | [],aR,_=>by simp
 | c :: l,aR,h=>by
  rw[P7,K2 (h c bU),Jv l _ fun d hd=>h d (ce _ hd)];simp
theorem zO{x:Str}(h:∀c∈x.cps.toList,(97<=c/\c<=122)\/c=46):sgn (.str x)=39 :: (x.cps.toList++[39]):=by
 show (reprText x).cps.toList=_;have hq:reprQuote x=39:=by
  unfold reprQuote;have:x.cps.contains 39=false:=by
   rw[Array.contains_eq_mem,decide_eq_false_iff_not];intro hm;have:=h 39 (Qq.mpr hm);omega
  rw[this];rfl
 unfold reprText;rw[hq];show ((x.cps.foldl (fun out c=>out++(Bc 39 c).toArray) #[39]).push 39).toList=_;rw[Qn,<- Array.foldl_toList,Jv _ _ h];rfl
theorem Yu{P:Nat->Prop}:∀{a b p q:List Nat},(∀c∈a,P c)->(∀c∈b,P c)->(∀c r,p=c :: r->¬P c)->(∀c r,q=c :: r->¬P c)->a++p=b++q->a=b/\p=q
 | [],[],p,q,_,_,_,_,e=>⟨rfl,e⟩
 | [],c :: b,p,q,_,hb,hp,_,e=>absurd (hb c bU) (hp c (b++q) e)
 | c :: a,[],p,q,ha,_,_,hq,e=>absurd (ha c bU) (hq c (a++p) e.symm)
 | c :: a,d :: b,p,q,ha,hb,hp,hq,e=>by
  rw[cC,cC]at e;injection e with e1 e2;obtain⟨h1,h2⟩:=Yu (fun x hx=>ha x (ce _ hx)) (fun x hx=>hb x (ce _ hx)) hp hq e2;exact⟨by rw[e1,h1],h2⟩
def jhv(p:List Nat):Prop:=∀c r,p=c :: r->c=41\/c=44
def jaC(c:Nat):Prop:=c=45\/(48<=c/\c<=57)
theorem qR(i:Int):∀c∈sgn (.int i),jaC c:=by
 intro c hc;have:=fun h=>int_text_free' c h i (by rw[signs_ofString,<- JQ];exact hc)
 unfold jaC;by_cases h1:c=45
 .exact .inl h1
 .by_cases h2:48<=c/\c<=57
  .exact .inr h2
  .exact absurd ⟨h1,by omega⟩ this
theorem Ka{m:Nat}(h:(nl m).toList=(nl n).toList):m=n:=by
 rw[Bq,Bq]at h;rw[<- FQ (n:=m),h,FQ]
theorem YM(i:Int):∃c r,sgn (.int i)=c :: r:=by
 rw[JQ]
 cases i with
 | ofNat m=>
  show ∃c r,(nl m).toList.map Gj=c :: r;rw[Bq]
  cases h:Pt 10 m with
  | nil=>have:=FQ (n:=m);exact absurd h (by simp)
  | cons c r=>exact⟨_,_,rfl⟩
 | negSucc m=>
  show ∃c r,("-"++nl (m+1):String).toList.map Gj=c :: r;rw[AK];exact⟨_,_,rfl⟩
theorem Kw{i j:Int}(h:sgn (.int i)=sgn (.int j)):i=j:=by
 rw[JQ,JQ]at h;have h:(AJ i).toList=(AJ j).toList:=by
  have:=Qz (Bw Char.ofNat) h;simpa[fM,Function.comp_def]using this
 have neg:∀m n:Nat,(nl m).toList≠("-"++nl (n+1):String).toList:=by
  intro m n e;rw[AK,Bq]at e;have hm:'-'∈Pt 10 m:=by rw[e];exact vx _ (by decide)
  exact absurd (Nat.isDigit_of_mem_toDigits (by decide) (by decide) hm) (by decide)
 cases i with
 | ofNat m=>
  cases j with
  | ofNat n=>exact Qz _ (Ka h)
  | negSucc n=>exact absurd h (neg m n)
 | negSucc m=>
  cases j with
  | ofNat n=>exact absurd h.symm (neg n m)
  | negSucc n=>
   have h:("-"++nl (m+1):String).toList=("-"++nl (n+1):String).toList:=h;rw[AK,AK]at h;have:=Ka (vz h);have:m=n:=by omega
   rw[this]
theorem JR(d:D)(h:OkD d):∃c r,sgn d=c :: r/\c≠41:=by
 cases d with
 | int i=>
  obtain⟨c,r,e⟩:=YM i;refine⟨c,r,e,?_⟩;have:=qR i c (by rw[e];exact bU);unfold jaC at this;omega
 | str x=>unfold OkD at h;exact⟨39,_,zO h,by decide⟩
 | tup ds=>exact⟨40,_,qA ds,by decide⟩
theorem qM(t:List Nat)(r:List (List Nat)):jn (t :: r)=t++(if r=[] then [] else 44 :: 32 :: jn r):=by
 cases r with
 | nil=>simp[jn]
 | cons u r=>simp[jn]
def jcj(t:List Nat):Prop:=∃r,t=41 :: r\/t=44 :: 41 :: r
theorem Zy{p:List Nat}(h:jhv p):∀c r,p=c :: r->¬jaC c:=fun c r e z=>by
 have:=h c r e;unfold jaC at z;omega
theorem Zj{t:List Nat}{r:List (List Nat)}(h:jcj t):jhv ((if r=[] then [] else 44 :: 32 :: jn r)++t):=by
 intro c q e;split at e
 .obtain⟨z,h | h⟩:=h
  .rw[h]at e;injection e with e;exact .inl e.symm
  .rw[h]at e;injection e with e;exact .inr e.symm
 .injection e with e;exact .inr e.symm
mutual
theorem jeA:∀(d e:D) (p q:List Nat),OkD d->OkD e->jhv p->jhv q->sgn d++p=sgn e++q->d=e/\p=q
 | .int i,.int j,p,q,_,_,hp,hq,h=>by
  obtain⟨h1,h2⟩:=Yu (qR i) (qR j) (Zy hp) (Zy hq) h;exact⟨by rw[Kw h1],h2⟩
 | .int i,.str y,p,q,_,hy,hp,hq,h=>by
  unfold OkD at hy;obtain⟨c,r,e⟩:=YM i;have hc:=qR i c (by rw[e];exact bU);rw[e,zO hy,cC,cC]at h;injection h with h;unfold jaC at hc;omega
 | .int i,.tup es,p,q,_,hy,hp,hq,h=>by
  obtain⟨c,r,e⟩:=YM i;have hc:=qR i c (by rw[e];exact bU);rw[e,qA,cC,cC]at h;injection h with h;unfold jaC at hc;omega
 | .str x,.int j,p,q,hx,_,hp,hq,h=>by
  unfold OkD at hx;obtain⟨c,r,e⟩:=YM j;have hc:=qR j c (by rw[e];exact bU);rw[e,zO hx,cC,cC]at h;injection h with h;unfold jaC at hc;omega
 | .str x,.str y,p,q,hx,hy,hp,hq,h=>by
  unfold OkD at hx hy;rw[zO hx,zO hy,cC,cC]at h;injection h with _ h;rw[bh,bh]at h;obtain⟨h1,h2⟩:=Yu (P:=fun c=>(97<=c/\c<=122)\/c=46) hx hy (fun c r e=>by injection e with e;omega) (fun c r e=>by injection e with e;omega) h;injection h2 with _ h2;exact⟨by rw[Str.ext' (Qo.mp h1)],h2⟩
 | .str x,.tup es,p,q,hx,_,hp,hq,h=>by
  unfold OkD at hx;rw[zO hx,qA,cC,cC]at h;injection h with h;omega
 | .tup ds,.int j,p,q,_,_,hp,hq,h=>by
  obtain⟨c,r,e⟩:=YM j;have hc:=qR j c (by rw[e];exact bU);rw[e,qA,cC,cC]at h;injection h with h;unfold jaC at hc;omega
 | .tup ds,.str y,p,q,_,hy,hp,hq,h=>by
  unfold OkD at hy;rw[zO hy,qA,cC,cC]at h;injection h with h;omega
 | .tup ds,.tup es,p,q,hx,hy,hp,hq,h=>by
  unfold OkD at hx hy;rw[qA,qA,cC,cC]at h;injection h with _ h;rw[bh,bh]at h;have et:∀n p,jcj (jb4 n++p):=fun n p=>by
   unfold jb4 jcj;split
   .exact⟨p,.inr rfl⟩
   .exact⟨p,.inl rfl⟩
  cases ds with
  | nil=>
   cases es with
   | nil=>exact⟨rfl,vz h⟩
   | cons e es=>
    unfold OkDL at hy;obtain⟨c,r,e1,e2⟩:=JR e hy.1;rw[aU,qM,e1]at h;injection h with h;exact absurd h.symm e2
  | cons d ds=>
   cases es with
   | nil=>
    unfold OkDL at hx;obtain⟨c,r,e1,e2⟩:=JR d hx.1;rw[aU,qM,e1]at h;injection h with h;exact absurd h e2
   | cons e es=>
    obtain⟨h1,h2⟩:=shL_inj (d :: ds) (e :: es) _ _ hx hy (by simp) (by simp) (et _ _) (et _ _) h;rw[h1]at h2;exact⟨by rw[h1],vz h2⟩
theorem shL_inj:∀(ds es:List D) (t u:List Nat),OkDL ds->OkDL es->ds≠[]->es≠[]->jcj t->jcj u->jn (ds.map sgn)++t=jn (es.map sgn)++u->ds=es/\t=u
 | [],_,_,_,_,_,h,_,_,_,_=>absurd rfl h
 | _ :: _,[],_,_,_,_,_,h,_,_,_=>absurd rfl h
 | d :: ds,e :: es,t,u,hx,hy,_,_,ht,hu,h=>by
  unfold OkDL at hx hy;rw[aU,aU,qM,qM,bh,bh]at h;obtain⟨h1,h2⟩:=jeA d e _ _ hx.1 hy.1 (Zj ht) (Zj hu) h
  cases ds with
  | nil=>
   cases es with
   | nil=>exact⟨by rw[h1],h2⟩
   | cons e2 es=>
    simp only[eJ,aU,if_true,lU,reduceCtorEq,if_false]at h2;obtain⟨r,z | z⟩:=ht
    .rw[z]at h2;simp at h2
    .rw[z]at h2;simp at h2
  | cons d2 ds=>
   cases es with
   | nil=>
    simp only[eJ,aU,if_true,lU,reduceCtorEq,if_false]at h2;obtain⟨r,z | z⟩:=hu
    .rw[z]at h2;simp at h2
    .rw[z]at h2;simp at h2
   | cons e2 es=>
    have eh:44 :: 32 :: (jn ((d2 :: ds).map sgn)++t)=44 :: 32 :: (jn ((e2 :: es).map sgn)++u):=by
     simpa only[aU,reduceCtorEq,if_false,cC]using h2
    injection eh with _ h3;injection h3 with _ h3;obtain⟨h4,h5⟩:=shL_inj (d2 :: ds) (e2 :: es) t u hx.2 hy.2 (by simp) (by simp) ht hu h3;exact⟨by rw[h1,h4],h5⟩
end
theorem Zk{d e:D}(hd:OkD d)(he:OkD e)(h:d.py.shown=e.py.shown):d=e:=
 (jeA d e [] [] hd he (fun c r z=>by cases z) (fun c r z=>by cases z) (by unfold sgn;rw[h])).1
mutual
theorem Yp{h:ar}:∀{d:D} {v:ag},TrAt h d v->∃as,Reads h v d.py as
 | .int i,v,x=>by unfold TrAt at x;obtain⟨t,rfl⟩:=x;exact⟨_,.int i t⟩
 | .str i,v,x=>by unfold TrAt at x;obtain⟨t,rfl⟩:=x;exact⟨_,.str i t⟩
 | .tup ds,v,x=>by
  unfold TrAt at x;obtain⟨a,its,rfl,⟨o,h1,h2,n,h3⟩,hL⟩:=x;obtain⟨as,r⟩:=trL_reads hL;exact⟨as,.tuple h1 h2 h3 r⟩
theorem trL_reads{h:ar}:∀{ds:List D} {vs:List ag},TrAtL h ds vs->∃as,ReadsAll h vs (D.pyL ds) as
 | [],vs,x=>by unfold TrAtL at x;subst x;exact⟨_,.nil⟩
 | d :: ds,vs,x=>by
  unfold TrAtL at x;obtain⟨v,r,rfl,h1,h2⟩:=x;obtain⟨as,a1⟩:=Yp h1;obtain⟨bs,a2⟩:=trL_reads h2;exact⟨_,.cons a1 a2⟩
end
mutual
theorem y9:∀(d:D),OkD d->d.py.showable=true
 | .int i,h=>by
  unfold OkD at h;show decide (i.natAbs.log2 < 1920)=true;refine Qu ?_;rcases PJ i.natAbs with z | z
  .rw[z];decide
  .exact (Nat.log2_lt (by omega)).mpr (FT h (by decide))
 | .str x,h=>rfl
 | .tup ds,h=>by unfold OkD at h;exact pyL_showable ds h
theorem pyL_showable:∀(ds:List D),OkDL ds->Ff (D.pyL ds)=true
 | [],_=>rfl
 | d :: ds,h=>by
  unfold OkDL at h;show (d.py.showable && Ff (D.pyL ds))=true;rw[y9 d h.1,pyL_showable ds h.2];rfl
end
mutual
theorem KB:∀(d:D),d.py.hasDict=false
 | .int i=>rfl
 | .str x=>rfl
 | .tup ds=>pyL_noDict ds
theorem pyL_noDict:∀(ds:List D),Fg (D.pyL ds)=false
 | []=>rfl
 | d :: ds=>by
  show (d.py.hasDict || Fg (D.pyL ds))=false;rw[KB d,pyL_noDict ds];rfl
end
mutual
theorem YB:∀(d:D),d.py.depth=d.depth
 | .int i=>rfl
 | .str x=>rfl
 | .tup ds=>by
  show A4 (D.pyL ds)+1=_;rw[pyL_depth ds];exact (D.depth.eq_3 ds).symm
theorem pyL_depth:∀(ds:List D),A4 (D.pyL ds)=D.depthL ds
 | []=>rfl
 | d :: ds=>by
  show max d.py.depth (A4 (D.pyL ds))=_;rw[YB d,pyL_depth ds];exact (D.depthL.eq_2 d ds).symm
end
mutual
def D.big:D->Nat
 | .int _=>40
 | .str x=>x.length+2
 | .tup ds=>D.bigL ds+3
def D.bigL:List D->Nat
 | []=>0
 | d :: ds=>D.big d+2+D.bigL ds
end
mutual
theorem ZZ:∀(d:D),OkD d->(sgn d).length<=d.big
 | .int i,h=>by
  unfold OkD at h;have:=int_text_length_le10 (k:=39) (by decide) h;rw[JQ,az,String.length_toList];unfold D.big;omega
 | .str x,h=>by
  unfold OkD at h;rw[zO h];unfold D.big;rw[ck,bV,dy];show x.cps.size+1+1<=x.cps.size+2;omega
 | .tup ds,h=>by
  unfold OkD at h;rw[qA];unfold D.big jb4;have:=sgnL_big ds h;rw[ck,bV];split <;> simp only[ck,fN] <;> omega
theorem sgnL_big:∀(ds:List D),OkDL ds->(jn (ds.map sgn)).length<=D.bigL ds
 | [],_=>bT _
 | d :: ds,h=>by
  unfold OkDL at h;have h1:=ZZ d h.1;have h2:=sgnL_big ds h.2;rw[aU,qM];unfold D.bigL;rw[bV];split
  .rw[fN];omega
  .rw[ck,ck];omega
end
theorem jbF{d:D}(h:OkD d)(hb:d.big<=100000):d.py.shown.length<=aI:=by
 have:=ZZ d h;unfold sgn at this;rw[dy]at this;rw[gM];show d.py.shown.cps.size<=_;omega
theorem jdT{X:Cx}(hg:X.A.guards=some [])(hu:X.A.units+2+n < cLine):zp X (.builtin "repr") (fun xs H Q=>∃(a:ad) (d:D),xs=[.ref a]/\Held H d (.ref a)/\d.depth<=n/\OkD d/\d.big<=100000/\Q (.str d.py.shown) H):=by
 intro ae s σ H xs us Q I r h;obtain⟨a,d,rfl,hh,hd,hok,hb,q⟩:=h;obtain⟨u,rfl,rx⟩:=yU r
 cases rx
 obtain⟨as,rd⟩:=Yp (Ki I hh rfl);refine repr_of_reads' rd (y9 d hok) (Oo (KB d)) hg (by rw[YB];omega) (fun _ _ e=>e) (fun h' u tk hk=>?_) (jbF hok hb);exact⟨.str d.py.shown,H,I.kept hk,⟨u,rfl⟩,q⟩
variable {t1 t2 u:TS}
theorem YO{D:Ends}(h:let r2:=u;let r1:=jU t2 r2;jU t1 r1 D σ H):(jU t1 (jU t2 u)) D σ H:=h
theorem YN{t3:TS}{D:Ends}(h:let r3:=u;let r2:=jU t3 r3;let r1:=jU t2 r2;jU t1 r1 D σ H):(jU t1 (jU t2 (jU t3 u))) D σ H:=h
variable {t4:TS}
theorem jhS{t3:TS}{D:Ends}(h:let r4:=u;let r3:=jU t4 r4;let r2:=jU t3 r3;let r1:=jU t2 r2;jU t1 r1 D σ H):(jU t1 (jU t2 (jU t3 (jU t4 u)))) D σ H:=h
variable {t5:TS}
theorem jhR{t3:TS}{D:Ends}(h:let r5:=u;let r4:=jU t5 r5;let r3:=jU t4 r4;let r2:=jU t3 r3;let r1:=jU t2 r2;jU t1 r1 D σ H):(jU t1 (jU t2 (jU t3 (jU t4 (jU t5 u))))) D σ H:=h
variable {t6:TS}
theorem jfB{t3:TS}{D:Ends}(h:let r6:=u;let r5:=jU t6 r6;let r4:=jU t5 r5;let r3:=jU t4 r4;let r2:=jU t3 r3;let r1:=jU t2 r2;jU t1 r1 D σ H):(jU t1 (jU t2 (jU t3 (jU t4 (jU t5 (jU t6 u)))))) D σ H:=h
theorem jcJ{t3 t7 t8:TS}{D:Ends}(h:let r8:=u;let r7:=jU t8 r8;let r6:=jU t7 r7;let r5:=jU t6 r6;let r4:=jU t5 r5;let r3:=jU t4 r4;let r2:=jU t3 r3;let r1:=jU t2 r2;jU t1 r1 D σ H):(jU t1 (jU t2 (jU t3 (jU t4 (jU t5 (jU t6 (jU t7 (jU t8 u)))))))) D σ H:=h
theorem jjE{t3 t7 t8 t9:TS}{D:Ends}(h:let r9:=u;let r8:=jU t9 r9;let r7:=jU t8 r8;let r6:=jU t7 r7;let r5:=jU t6 r6;let r4:=jU t5 r5;let r3:=jU t4 r4;let r2:=jU t3 r3;let r1:=jU t2 r2;jU t1 r1 D σ H):(jU t1 (jU t2 (jU t3 (jU t4 (jU t5 (jU t6 (jU t7 (jU t8 (jU t9 u))))))))) D σ H:=h
theorem qN{g:TG}{x:V}{b:TS}{D:Ends}(h:let E:=D;g x σ H fun σ2 H2=>b E σ2 H2):g x σ H (fun σ2 H2=>b D σ2 H2):=h
end L2
namespace LW
open PySem L2
theorem zy{X:Cx}{pos:Pos}:QS X (.Return none pos) jhB:=⟨jgp⟩
variable {i:Nat}{x:Str}
theorem jcl{X:Cx}{pos:Pos}{j:Nat}{y:Str}{a b:aj}{ta:TA}{px py pt:Pos}{kt k2 pt2}(hc:X.calm=true)(hN:X.N.Nodup)(hi:X.N[i]?=some x)(hj:X.N[j]?=some y)(dB:i≠j)
  (hx:X.env.scope.names.lookup x=some .local) (hy:X.env.scope.names.lookup y=some .local) (ha:QA X [a,b] ta)
  (hw:AU [.Tuple [.Name x px,.Name y py] kt pt] (.Tuple [a,b] k2 pt2) X.env=pure (some [x,y]))
  (hs:AT [.Tuple [.Name x px,.Name y py] kt pt] (.Tuple [a,b] k2 pt2) pos.line X.env=pure false:=by rfl) :
  QS X (.Assign [.Tuple [.Name x px,.Name y py] kt pt] (.Tuple [a,b] k2 pt2) pos) (ji9 i j ta):=⟨jim hc hN hi hj dB hx hy ha.h hw hs⟩
abbrev P2:Type:=Prod D Int
def p2(p:P2):D:=.tup [p.1,.int p.2]
def mor(p:P2)(d:Int):P2:=(p.1,p.2+d)
def kT(a b:P2):D:=.tup [a.1,b.1,.int (b.2 - a.2)]
def jW(v:D)(s:P2):P2:=(.tup [.str "entry",v,p2 s],0)
def Yb:P2:=(.tup [.str "nought"],0)
def ZT(x:Str):P2:=(.tup [.str "start",.str x],0)
def jcC(n:Nat):P2:=(.tup [.str "pick",.int n],0)
def jV(i:Int):P2:=(.tup [.str "own",.int i],0)
def yl(r:Str):D:=.tup [.str "row",.str r]
def Kg(n:Nat):D:=.tup [.str "lost",.int n]
def ym(n:Nat):D:=.tup [.str "put",.int n]
structure Cs where
 nu:Str->Option P2
 ve:Str->Option D
 na:List Str
 l:Nat->List D
def yg{α:Type}(f:Str->Option α)(x:Str)(d:α):Str->Option α:=fun y=>if y=x then some d else f y
def ji0(l:Nat->List D)(i:Nat)(ds:List D):Nat->List D:=fun j=>if j=i then l j++ds else l j
def jce(xs:List Str)(r:Str):List Str:=if r∈xs then xs else xs++[r]
def Cs.add(c:Cs)(i:Nat)(ds:List D):Cs:={ c with l:=ji0 c.l i ds }
def Cs.num(c:Cs)(x:Str):P2:=if x = "" then Yb else (c.nu x).getD (ZT x)
def Cs.spot(c:Cs)(x:Str)(d:Int):P2:=mor (c.num x) d
def Cs.ver(c:Cs)(r:Str):D:=(c.ve r).getD (yl r)
def Cs.name(c:Cs)(r:Str):Cs:={ c with na:=jce c.na r }
def Cs.stand(c:Cs):Tm->P2×Cs
 | .is x=>(c.num x,c)
 | .at_ r x d=>(jW (c.ver r) (c.spot x d),(c.add 2 [p2 (c.spot x d)]).name r)
def Cs.least(c:Cs)(a b:Tm)(k:Int):D×Cs:=
 let s:=c.stand b
 let t:=s.2.stand a
 (kT (mor s.1 k) t.1,t.2)
def jfR(v:D)(way:Str)(b:D)(k:Int):D:=.tup [v,.str way,b,.int k]
def Cs.body(c:Cs)(r way:Str)(b:Bd)(k:Int):D×Cs:=match b with
 | .row q=>(jfR (c.ver r) way (.tup [.str "row",c.ver q]) k,(c.name r).name q)
 | .is x=>(jfR (c.ver r) way (.tup [.str "is",p2 (c.num x)]) k,c.name r)
def Cs.know(c:Cs):Cl->Cs
 | .least a b k=>(c.least a b k).2.add 1 [(c.least a b k).1]
 | .each t td u ud r way b k=>
  let e:=(c.add 2 [p2 (c.spot t td)]).body r way b k
  e.2.add 4 [.tup [p2 (c.spot t td),p2 (c.spot u ud),e.1]]
 | .rise t td u ud r=>((c.add 2 [p2 (c.spot t td)]).name r).add 5 [.tup [p2 (c.spot t td),p2 (c.spot u ud),c.ver r]]
def qw(v:D)(way:Str)(b:P2)(k:Int)(s:P2):D:=if way = ">=" then kT (mor b k) (jW v s) else kT (jW v s) (mor b k)
def Cs.bnd(c:Cs)(b:Bd)(s:P2):P2:=match b with
 | .row q=>jW (c.ver q) s
 | .is x=>c.num x
def KO:D->D
 | .tup [x,y,.int c]=>.tup [y,x,.int (-1 - c)]
 | d=>d
def Cs.deny(c:Cs):Cl->Cs
 | .least a b k=>(c.least b a (1 - k)).2.add 1 [(c.least b a (1 - k)).1]
 | .each t td u ud r way b k=>
  let e:=c.body r way b k
  (e.2.add 2 [p2 (jV 0)]).add 1 [kT (c.spot t td) (jV 0),kT (jV 0) (c.spot u ud),KO (qw (c.ver r) way (c.bnd b (jV 0)) k (jV 0))]
 | .rise t td u ud r=>((c.name r).add 2 [p2 (jV 0),p2 (jV 1)]).add 1 [kT (c.spot t td) (jV 0),kT (jV 0) (jV 1),kT (jV 1) (c.spot u ud),kT (mor (jW (c.ver r) (jV 1)) 1) (jW (c.ver r) (jV 0))]
inductive Rw where
 | set (x:Str) (t:Tm) (c:Int) | put (r x:Str) (d:Int) (t:Tm) (c:Int) | any (x:Str) | lose (r:Str) | know (C:Cl)
def Rw.toD:Rw->D
 | .set x t c=>.tup [.str "set",.str x,t.toD,.int c]
 | .put r x d t c=>.tup [.str "put",.str r,plD x d,t.toD,.int c]
 | .any x=>.tup [.str "any",.str x]
 | .lose r=>.tup [.str "lose",.str r]
 | .know C=>.tup [.str "know",C.toD]
def Cs.setn(c:Cs)(x:Str)(p:P2):Cs:={ c with nu:=yg c.nu x p }
def Cs.setv(c:Cs)(r:Str)(d:D):Cs:={ c with ve:=yg c.ve r d }
def Cs.take(c:Cs)(n:Nat):Rw->Cs
 | .set x t k=>(c.stand t).2.setn x (mor (c.stand t).1 k)
 | .put r x d t k=>
  let s:=c.spot x d
  let v:=mor (c.stand t).1 k
  (((((c.stand t).2.name r).add 2 [p2 s]).add 3 [.tup [p2 s,(c.stand t).2.ver r,p2 v,ym n]]).add 1 [kT (jW (ym n) s) v,kT v (jW (ym n) s)]).setv r (ym n)
 | .any x=>c.setn x (jcC n)
 | .lose r=>((c.name r).setv r (Kg n)).add 0 [Kg n]
 | .know C=>c.know C
def Cs.none:Cs:=⟨fun _=>Option.none,fun _=>Option.none,[],fun _=>[]⟩
def Cs.rows(c:Cs):List Rw->Nat->Cs
 | [],_=>c
 | r :: R,n=>(c.take n r).rows R (n+1)
def top(i:Nat):aF:=PySem.Challenge.pw_outlineward_k45_clauses_of_a_book.main.body.getD i (.Pass ⟨0,0,0,0⟩)
structure CA where
 o:ad
 dx:ad
 nu:ad
 ve:ad
 na:ad
 l:Nat->ad
def jjL(A:CA):List (Str×V):=[("numbers",.ref A.nu),("versions",.ref A.ve),("named",.ref A.na),("lost",.ref (A.l 0)),("ties",.ref (A.l 1)),("spots",.ref (A.l 2)),("puts",.ref (A.l 3)),("eaches",.ref (A.l 4)),("rises",.ref (A.l 5))]
def DAt(n:Nat)(f:Str->Option D)(H:Hp)(a:ad):Prop:=∃kvs:List (Key×V),H a=some (.dK kvs)/\kvs.length<=n/\∀x,(f x=none->qH kvs (.inr x)=none)/\∀d,f x=some d->∃v,qH kvs (.inr x)=some v/\Held H d v
def NAt(n:Nat)(xs:List Str)(H:Hp)(a:ad):Prop:=∃kvs:List (Key×V),H a=some (.dK kvs)/\kvs.length<=n/\kvs.map (·.1)=xs.map Sum.inr
def LAt(n:Nat)(ds:List D)(H:Hp)(a:ad):Prop:=∃xs,H a=some (.lst xs)/\HeldL H ds xs/\xs.length<=n
structure CsAt(C:ad)(n:Nat)(A:CA)(c:Cs)(H:Hp):Prop where
 o:H A.o=some (.ins C A.dx (jjL A))
 n1:A.nu≠A.ve
 n2:A.nu≠A.na
 n3:A.ve≠A.na
 inj:∀i j,i < 6->j < 6->A.l i=A.l j->i=j
 nu:DAt n (fun x=>(c.nu x).map p2) H A.nu
 ve:DAt n c.ve H A.ve
 na:NAt n c.na H A.na
 l:∀i,i < 6->LAt n (c.l i) H (A.l i)
def Mv(A:CA)(H H':Hp):Prop:=∀b o,b≠A.nu->b≠A.ve->b≠A.na->(∀i,i < 6->b≠A.l i)->H b=some o->H' b=some o
theorem jT{H:Hp}:∀{ds aO:List D} {vs gC:List V},HeldL H ds vs->HeldL H aO gC->HeldL H (ds++aO) (vs++gC)
 | [],_,_,_,h,h'=>by cases jM h;exact h'
 | _ :: _,_,_,_,h,h'=>by
  obtain⟨v,r,rfl,h1,h2⟩:=jo h;exact jc h1 (jT h2 h')
variable {P:aE}{w:aB}{K:aw}{mg:Str->Option ag}{base:ar}{A:CA}{H H':Hp}
theorem Mv.same(s:Same H H'):Mv A H H':=fun b o _ _ _ _ e=>s b o e
theorem Mv.trans{H1 H2:Hp}(h:Mv A H H1)(k:Mv A H1 H2):Mv A H H2:=fun b o a1 a2 a3 a4 e=>k b o a1 a2 a3 a4 (h b o a1 a2 a3 a4 e)
variable {n:Nat}{a:ad}
theorem DAt.tk{f:Str->Option D}(h:DAt n f H a)(t:TK H H')(e:∀o,H a=some o->H' a=some o):DAt n f H' a:=by
 obtain⟨kvs,h1,h2,h3⟩:=h;refine⟨kvs,e _ h1,h2,fun x=>⟨(h3 x).1,fun d hd=>?_⟩⟩;obtain⟨v,k1,k2⟩:=(h3 x).2 d hd;exact⟨v,k1,t.held k2⟩
theorem LAt.tk{ds:List D}(h:LAt n ds H a)(t:TK H H')(e:∀o,H a=some o->H' a=some o):LAt n ds H' a:=by
 obtain⟨xs,h1,h2,h3⟩:=h;exact⟨xs,e _ h1,t.heldL h2,h3⟩
theorem NAt.tk{xs:List Str}(h:NAt n xs H a)(e:∀o,H a=some o->H' a=some o):NAt n xs H' a:=by
 obtain⟨kvs,h1,h2,h3⟩:=h;exact⟨kvs,e _ h1,h2,h3⟩
variable {C:ad}{c:Cs}
theorem CsAt.same(I:CsAt C n A c H)(s:Same H H'):CsAt C n A c H':=
 ⟨s _ _ I.o,I.n1,I.n2,I.n3,I.inj,I.nu.tk (.same s) fun o=>s _ o,I.ve.tk (.same s) fun o=>s _ o,I.na.tk fun o=>s _ o,fun i hi=>(I.l i hi).tk (.same s) fun o=>s _ o⟩
theorem CsAt.mono{m:Nat}(I:CsAt C n A c H)(h:n<=m):CsAt C m A c H:=by
 obtain⟨a1,a2,a3,a4,a5,⟨k1,h1,l1,m1⟩,⟨k2,h2,l2,m2⟩,⟨k3,h3,l3,m3⟩,a9⟩:=I;refine⟨a1,a2,a3,a4,a5,⟨k1,h1,aJ l1 h,m1⟩,⟨k2,h2,aJ l2 h,m2⟩,⟨k3,h3,aJ l3 h,m3⟩,fun i hi=>?_⟩;obtain⟨xs,e1,e2,e3⟩:=a9 i hi;exact⟨xs,e1,e2,aJ e3 h⟩
theorem CsAt.tk(I:CsAt C n A c H)(m:Mv A H H'):TK H H':=fun b xs e=>by
 obtain⟨k1,h1,_⟩:=I.nu;obtain⟨k2,h2,_⟩:=I.ve;obtain⟨k3,h3,_⟩:=I.na;refine m b _ (fun z=>?_) (fun z=>?_) (fun z=>?_) (fun i hi z=>?_) e
 .rw[z,h1]at e;cases e
 .rw[z,h2]at e;cases e
 .rw[z,h3]at e;cases e
 .obtain⟨ys,h4,_⟩:=I.l i hi
  rw[z,h4]at e;cases e
theorem jv{b:ad}{x y:HO}(h:H a=some x)(k:H b=some y)(n:x≠y):a≠b:=fun e=>by
 rw[e,k]at h;exact n (dk h).symm
theorem jk{b:ad}{o u:HO}(h:b≠a)(e:H b=some u):upd H a o b=some u:=by rw[jB h];exact e
theorem CsAt.app(I:CsAt C n A c H)(hi:i < 6){ds:List D}{vs xs:List V}(hd:HeldL H ds vs)(e:H (A.l i)=some (.lst xs)):
  Mv A H (upd H (A.l i) (.lst (xs++vs)))/\CsAt C (n+vs.length) A (c.add i ds) (upd H (A.l i) (.lst (xs++vs))):=by
 have mv:Mv A H (upd H (A.l i) (.lst (xs++vs))):=fun b o _ _ _ h4 eb=>jk (h4 i hi) eb
 have t:=I.tk mv
 obtain⟨k1,h1,_⟩:=I.nu
 obtain⟨k2,h2,_⟩:=I.ve
 obtain⟨k3,h3,_⟩:=I.na
 obtain⟨ys,h4,h5,h6⟩:=I.l i hi
 obtain rfl:xs=ys:=by rw[h4]at e;cases e;rfl
 have J:=I.mono (PF n vs.length)
 refine⟨mv,jk (jv I.o e (by intro z;cases z)) I.o,I.n1,I.n2,I.n3,I.inj,J.nu.tk t fun o=>jk (jv h1 e (by intro z;cases z)),J.ve.tk t fun o=>jk (jv h2 e (by intro z;cases z)),J.na.tk fun o=>jk (jv h3 e (by intro z;cases z)),fun j hj=>?_⟩
 show LAt _ (ji0 c.l i ds j) _ _
 unfold ji0
 by_cases z:j=i
 .rw[Qx z,z]
  exact⟨_,jf,jT (t.heldL h5) (t.heldL hd),by rw[bV];omega⟩
 .rw[Qw z]
  exact (J.l j hj).tk t fun o=>jk fun q=>z (I.inj j i hj hi q)
variable {v:V}
theorem CsAt.app1(I:CsAt C n A c H)(hi:i < 6){d:D}{xs:List V}(hd:Held H d v)(e:H (A.l i)=some (.lst xs)):
  Mv A H (upd H (A.l i) (.lst (xs++[v])))/\CsAt C (n+1) A (c.add i [d]) (upd H (A.l i) (.lst (xs++[v]))):=I.app hi (jc hd jl) e
variable {kvs:List (Key×V)}
theorem Yf{f:Str->Option D}{d:D}(h:DAt n f H a)(e:H a=some (.dK kvs))(hv:Held H d v):TK H (upd H a (.dK (j4 kvs (.inr x) v)))/\DAt (n+1) (yg f x d) (upd H a (.dK (j4 kvs (.inr x) v))) a:=by
 have t:TK H (upd H a (.dK (j4 kvs (.inr x) v))):=fun b xs eb=>jk (jv eb e (by intro z;cases z)) eb
 obtain⟨k1,h1,h2,h3⟩:=h;obtain rfl:k1=kvs:=by rw[h1]at e;cases e;rfl
 refine⟨t,_,jf,aJ (kP _ _ _) (gO h2),fun y=>?_⟩;unfold yg;rw[jed];by_cases z:y=x
 .rw[Qx z,Qx (by rw[z])]
  exact⟨(by intro q;cases q),fun d' hd=>by cases hd;exact⟨v,rfl,t.held hv⟩⟩
 .rw[Qw z,Qw (fun q=>z (uW q))]
  refine⟨(h3 y).1,fun d' hd=>?_⟩;obtain⟨u,q1,q2⟩:=(h3 y).2 d' hd;exact⟨u,q1,t.held q2⟩
theorem jah{k:Key}(v:V)(h:k∈kvs.map (·.1)):(j4 kvs k v).map (·.1)=kvs.map (·.1):=by
 unfold j4;rw[Qx ?_,fM]
 .refine F0 fun p _=>?_
  show (if p.1=k then (p.1,v) else p).1=p.1;split <;> rfl
 .obtain⟨p,h1,h2⟩:=bq.mp h
  exact gw.mpr ⟨p,h1,Qu h2⟩
theorem jfu{k:Key}(v:V)(h:k ∉ kvs.map (·.1)):(j4 kvs k v).map (·.1)=kvs.map (·.1)++[k]:=by
 unfold j4;rw[Qw ?_,aX]
 .rfl
 .intro z
  obtain⟨p,h1,h2⟩:=gw.mp z;exact h (bq.mpr ⟨p,h1,Qt h2⟩)
theorem CsAt.setn(I:CsAt C n A c H){p:P2}(hv:Held H (p2 p) v)(e:H A.nu=some (.dK kvs)):
  Mv A H (upd H A.nu (.dK (j4 kvs (.inr x) v)))/\CsAt C (n+1) A (c.setn x p) (upd H A.nu (.dK (j4 kvs (.inr x) v))):=by
 obtain⟨t,d⟩:=Yf (x:=x) I.nu e hv
 have J:=I.mono (dw n)
 refine⟨fun b o h1 _ _ _ eb=>jk h1 eb,jk (jv I.o e (by intro z;cases z)) I.o,I.n1,I.n2,I.n3,I.inj,?_,J.ve.tk t fun o=>jk I.n1.symm,J.na.tk fun o=>jk I.n2.symm,fun i hi=>?_⟩
 .have:(fun y=>((yg c.nu x p) y).map p2)=yg (fun y=>(c.nu y).map p2) x (p2 p):=by
   funext y;unfold yg;split <;> rfl
  show DAt _ (fun y=>((yg c.nu x p) y).map p2) _ _;rw[this];exact d
 .obtain⟨ys,h4,_⟩:=I.l i hi
  exact (J.l i hi).tk t fun o=>jk (jv h4 e (by intro z;cases z))
theorem CsAt.setv(I:CsAt C n A c H){r:Str}{d:D}(hv:Held H d v)(e:H A.ve=some (.dK kvs)):
  Mv A H (upd H A.ve (.dK (j4 kvs (.inr r) v)))/\CsAt C (n+1) A (c.setv r d) (upd H A.ve (.dK (j4 kvs (.inr r) v))):=by
 obtain⟨t,d⟩:=Yf (x:=r) I.ve e hv
 have J:=I.mono (dw n)
 refine⟨fun b o _ h1 _ _ eb=>jk h1 eb,jk (jv I.o e (by intro z;cases z)) I.o,I.n1,I.n2,I.n3,I.inj,J.nu.tk t fun o=>jk I.n1,d,J.na.tk fun o=>jk I.n3.symm,fun i hi=>?_⟩
 obtain⟨ys,h4,_⟩:=I.l i hi
 exact (J.l i hi).tk t fun o=>jk (jv h4 e (by intro z;cases z))
theorem CsAt.named(I:CsAt C n A c H){r:Str}(e:H A.na=some (.dK kvs)):
  Mv A H (upd H A.na (.dK (j4 kvs (.inr r) v)))/\CsAt C (n+1) A (c.name r) (upd H A.na (.dK (j4 kvs (.inr r) v))):=by
 have t:TK H (upd H A.na (.dK (j4 kvs (.inr r) v))):=fun b xs eb=>jk (jv eb e (by intro z;cases z)) eb
 have J:=I.mono (dw n)
 refine⟨fun b o _ _ h1 _ eb=>jk h1 eb,jk (jv I.o e (by intro z;cases z)) I.o,I.n1,I.n2,I.n3,I.inj,J.nu.tk t fun o=>jk I.n2,J.ve.tk t fun o=>jk I.n3,?_,fun i hi=>?_⟩
 .obtain⟨k1,h1,h2,h3⟩:=I.na
  obtain rfl:k1=kvs:=by rw[h1]at e;cases e;rfl
  refine⟨_,jf,aJ (kP _ _ _) (gO h2),?_⟩
  show _=(jce c.na r).map Sum.inr
  unfold jce
  by_cases z:r∈c.na
  .rw[Qx z,jah _ (by rw[h3];exact bq.mpr ⟨r,z,rfl⟩),h3]
  .rw[Qw z,jfu _ (by rw[h3];intro q;obtain⟨y,y1,y2⟩:=bq.mp q;cases y2;exact z y1),aX,h3]
   rfl
 .obtain⟨ys,h4,_⟩:=I.l i hi
  exact (J.l i hi).tk t fun o=>jk (jv h4 e (by intro z;cases z))
abbrev yE:aF:=top 20
abbrev JZ:aF:=top 21
abbrev Jo:aF:=top 19
abbrev Z6:aF:=top 22
abbrev zP:aF:=top 3
theorem JD{p:P2}(h:Held H (p2 p) v):∃t x,v=.ref t/\H t=some (.tup [x,.int p.2])/\Held H p.1 x:=by
 obtain⟨t,xs,rfl,ht,hx⟩:=jE h;obtain⟨x,r,rfl,h1,h2⟩:=jo hx;obtain⟨y,r,rfl,h3,h4⟩:=jo h2
 cases kg h3
 cases jM h4
 exact⟨t,x,rfl,ht,h1⟩
inductive spMore(vs:List V)(H:Hp)(Q:VK)(E:XK):Prop
 | mk (v:V) (d:Int) (p:P2) (_:vs=[v,.int d]) (_:Held H (p2 p) v) (_:∀v' H',Same H H'->Held H' (p2 (mor p d)) v'->Q v' H')
inductive spAtM(vs:List V)(H:Hp)(Q:VK)(E:XK):Prop
 | mk (v u:V) (p q:P2) (_:vs=[v,u]) (_:Held H (p2 p) v) (_:Held H (p2 q) u) (_:∀v' H',Same H H'->Held H' (kT p q) v'->Q v' H')
inductive spEnt(vs:List V)(H:Hp)(Q:VK)(E:XK):Prop
 | mk (v u:V) (d:D) (p:P2) (_:vs=[v,u]) (_:Held H d v) (_:Held H (p2 p) u) (_:∀v' H',Same H H'->Held H' (p2 (jW d p)) v'->Q v' H')
inductive spLike(vs:List V)(H:Hp)(Q:VK)(E:XK):Prop
 | mk (v u:V) (p q:P2) (_:vs=[v,u]) (_:Held H (p2 p) v) (_:Held H (p2 q) u) (_:∀l x y H',Same H H'->H l=none->H' l=some (.lst [x,y])->Held H' (kT p q) x->Held H' (kT q p) y->Q (.ref l) H')
inductive spTurnT(vs:List V)(H:Hp)(Q:VK)(E:XK):Prop
 | mk (v:V) (x y:D) (c:Int) (_:vs=[v]) (_:Held H (.tup [x,y,.int c]) v) (_:∀v' H',Same H H'->Held H' (.tup [y,x,.int (-1 - c)]) v'->Q v' H')
variable {f:ad}{fd:aL}
section
variable {P:aE}{w:aB}{K:aw}{mg:Str->Option ag}{base:ar}
theorem jgV(F:Fun K "more_than" "more_than" yE f fd):FnOk P w K mg base CX0 1 f fd ["stood_for","d"] spMore:=by
 have sc:FnScope ["stood_for","d","source","more"] ["stood_for","d"] (jm yE):=fQ;refine F.okZ sc (fun ax A outer s H vs Q E hr h=>?_);obtain⟨v,d,p,rfl,hv,q⟩:=h;refine⟨_,(jd (zN (zpv 0) (kH rfl (jz (ju (i:=2) sc.nd rfl oQ) (jz (ju (i:=3) sc.nd rfl oQ) kr))))
   (ji (jC (zpd (j9 (jt (kB 2) (jt (zD (js qr (zpv 3) (zpv 1))) jR))))))),?_⟩
 refine jH (σ':=[some v,some (.int d),none,none]) rfl ?_
 try dsimp only[kx]
 obtain⟨t,x,rfl,ht,hx⟩:=JD hv;refine⟨_,rfl,t,_,rfl,SqT.of ht,rfl,_,_,rfl,_,_,rfl,rfl,?_⟩;refine jH (σ':=[some (.ref t),some (.int d),some x,some (.int p.2)]) rfl ?_;refine⟨p2 (mor p d),⟨_,rfl,bw rfl,_,_,rfl,⟨_,rfl,hx⟩,_,_,rfl,(fun G sG Q q=>?_),rfl⟩,fun v H' s h=>q v H' s h⟩;exact⟨_,rfl,_,rfl,_,_,rfl,rfl,q _ _ (fun _ _ e=>e) jP⟩
theorem jiG(F:Fun K "at_most" "at_most" JZ f fd):FnOk P w K mg base CX0 1 f fd ["one","other"] spAtM:=by
 have sc:FnScope ["one","other"] ["one","other"] (jm JZ):=fQ;refine F.okZ sc (fun ax A outer s H vs Q E hr h=>?_);obtain⟨v,u,p,q,rfl,hv,hu,k⟩:=h;refine⟨_,(ji (jC (zpd (j9 (jt (zD (jr jw (zpv 0) je (fun _ _=>rfl))) (jt (zD (jr jw (zpv 1) je (fun _ _=>rfl))) (jt (zD (js zo (jr jw (zpv 1) je (fun _ _=>rfl)) (jr jw (zpv 0) je (fun _ _=>rfl)))) jR))))))),?_⟩;refine jH (σ':=[some v,some u]) rfl ?_
 try dsimp only[kx]
 obtain⟨t,x,rfl,ht,hx⟩:=JD hv;obtain⟨t',y,rfl,d_,hy⟩:=JD hu;refine⟨kT p q,⟨_,rfl,bw rfl,_,_,rfl,(fun G sG Q q=>?_),_,_,rfl,(fun G sG Q q=>?_),_,_,rfl,(fun G sG Q q=>?_),rfl⟩,fun v H' s h=>k v H' s h⟩
 .exact⟨_,rfl,t,_,_,_,rfl,rfl,SqT.of (sG _ _ ht),jh (j:=0) rfl,q _ _ (fun _ _ e=>e) (hx.mono sG)⟩
 .exact⟨_,rfl,t',_,_,_,rfl,rfl,SqT.of (sG _ _ d_),jh (j:=0) rfl,q _ _ (fun _ _ e=>e) (hy.mono sG)⟩
 .exact⟨_,rfl,t',_,_,_,rfl,rfl,SqT.of (sG _ _ d_),jh (j:=1) rfl,_,rfl,t,_,_,_,rfl,rfl,SqT.of (sG _ _ ht),jh (j:=1) rfl,_,_,rfl,rfl,q _ _ (fun _ _ e=>e) jP⟩
theorem jiF(F:Fun K "entry_of" "entry_of" Jo f fd):FnOk P w K mg base CX0 1 f fd ["version","spot"] spEnt:=by
 have sc:FnScope ["version","spot"] ["version","spot"] (jm Jo):=fQ;refine F.okZ sc (fun ax A outer s H vs Q E hr h=>?_);obtain⟨v,u,d,p,rfl,hv,hu,k⟩:=h;refine⟨_,(ji (jC (zpd (j9 (jt (j9 (jt qb (jt (kB 0) (jt (kB 1) jR)))) (jt zn jR)))))),?_⟩;refine jH (σ':=[some v,some u]) rfl ?_
 try dsimp only[kx]
 exact⟨p2 (jW d p),⟨_,rfl,bw rfl,_,_,rfl,⟨_,rfl,bw rfl,_,_,rfl,rfl,_,_,rfl,⟨_,rfl,hv⟩,_,_,rfl,⟨_,rfl,hu⟩,rfl⟩,_,_,rfl,rfl,rfl⟩,fun v H' s h=>k v H' s h⟩
theorem jgW(F:Fun K "alike" "alike" Z6 f fd)(bQ:Fn P w K mg base 1 "at_most" ["one","other"] spAtM):FnOk P w K mg base CX0 2 f fd ["one","other"] spLike:=by
 have sc:FnScope ["one","other"] ["one","other"] (jm Z6):=fQ;refine F.okZ sc (fun ax A outer s H vs Q E hr h=>?_);obtain⟨v,u,p,q,rfl,hv,hu,k⟩:=h;refine⟨_,(ji (jC (jG (ja (jg bQ hr (ja (zpv 0) (ja (zpv 1) jb))) (ja (jg bQ hr (ja (zpv 1) (ja (zpv 0) jb))) jb))))),?_⟩;refine jH (σ':=[some v,some u]) rfl ?_
 try dsimp only[kx]
 refine⟨_,rfl,_,rfl,v,u,p,q,rfl,hv,hu,fun x H1 s1 hx=>⟨_,rfl,_,rfl,u,v,q,p,rfl,hu.mono s1,hv.mono s1,fun y H2 s2 hy=>⟨sm rfl,fun l hl=>?_⟩⟩⟩;have s3:=jj hl (.lst [x,y]);exact k l x y _ ((s1.trans s2).trans s3) ((s1.trans s2).free hl) jf ((hx.mono s2).mono s3) (hy.mono s3)
theorem jfa(F:Fun K "turned_tie" "turned_tie" zP f fd):FnOk P w K mg base CX0 1 f fd ["tie"] spTurnT:=by
 have sc:FnScope ["tie","x","y","c"] ["tie"] (jm zP):=fQ;refine F.okZ sc (fun ax A outer s H vs Q E hr h=>?_);obtain⟨v,x,y,c,rfl,hv,k⟩:=h;refine⟨_,(jd (zN (zpv 0) (kH rfl (jz (ju (i:=1) sc.nd rfl oQ) (jz (ju (i:=2) sc.nd rfl oQ) (jz (ju (i:=3) sc.nd rfl oQ) kr)))))
   (ji (jC (zpd (j9 (jt (kB 2) (jt (kB 1) (jt (zD (js zo (ZM ZP je) (zpv 3))) jR)))))))),?_⟩
 refine jH (σ':=[some v,none,none,none]) rfl ?_
 try dsimp only[kx]
 obtain⟨t,xs,rfl,ht,hx⟩:=jE hv;obtain⟨a,r,rfl,h1,h2⟩:=jo hx;obtain⟨b,r,rfl,h3,h4⟩:=jo h2;obtain⟨z,r,rfl,h5,h6⟩:=jo h4
 cases kg h5
 cases jM h6
 refine⟨_,rfl,t,_,rfl,SqT.of ht,rfl,_,_,rfl,_,_,rfl,_,_,rfl,rfl,?_⟩;refine jH (σ':=[some (.ref t),some a,some b,some (.int c)]) rfl ?_;refine⟨.tup [y,x,.int (-1 - c)],⟨_,rfl,bw rfl,_,_,rfl,⟨_,rfl,h3⟩,_,_,rfl,⟨_,rfl,h1⟩,_,_,rfl,(fun G sG Q q=>?_),rfl⟩,fun v H' s h=>k v H' s h⟩;exact⟨1,rfl,_,rfl,_,_,rfl,rfl,q _ _ (fun _ _ e=>e) jP⟩
end
abbrev kN:aF:=top 15
abbrev JS:aF:=top 17
abbrev q8:aF:=top 18
abbrev zQ:aF:=top 16
structure ClsC(K:aw)(C:ad):Prop where
 c:Cls K C
 n1:NoAttr K C "numbers"
 n2:NoAttr K C "versions"
 n3:NoAttr K C "named"
 n4:NoAttr K C "lost"
 n5:NoAttr K C "ties"
 n6:NoAttr K C "spots"
 n7:NoAttr K C "puts"
 n8:NoAttr K C "eaches"
 n9:NoAttr K C "rises"
inductive spNum(C:ad)(vs:List V)(H:Hp)(Q:VK)(E:XK):Prop
 | mk (n:Nat) (A:CA) (c:Cs) (x:Str) (_:vs=[.ref A.o,.str x]) (_:CsAt C n A c H) (_:∀v H',Same H H'->Held H' (p2 (c.num x)) v->Q v H')
inductive spSpot(C:ad)(vs:List V)(H:Hp)(Q:VK)(E:XK):Prop
 | mk (n:Nat) (A:CA) (c:Cs) (x:Str) (d:Int) (v:V) (_:vs=[.ref A.o,v]) (_:CsAt C n A c H) (_:Held H (plD x d) v) (_:∀v H',Same H H'->Held H' (p2 (c.spot x d)) v->Q v H')
inductive spVer(C:ad)(vs:List V)(H:Hp)(Q:VK)(E:XK):Prop
 | mk (n:Nat) (A:CA) (c:Cs) (r:Str) (_:vs=[.ref A.o,.str r]) (_:CsAt C n A c H) (_:n<=900) (_:∀v H',Mv A H H'->CsAt C (n+1) A (c.name r) H'->Held H' (c.ver r) v->Q v H')
inductive spStand(C:ad)(vs:List V)(H:Hp)(Q:VK)(E:XK):Prop
 | mk (n:Nat) (A:CA) (c:Cs) (t:Tm) (v:V) (_:vs=[.ref A.o,v]) (_:CsAt C n A c H) (_:n<=880) (_:Held H t.toD v) (_:∀v H',Mv A H H'->CsAt C (n+2) A (c.stand t).2 H'->Held H' (p2 (c.stand t).1) v->Q v H')
theorem qj(h:n<=900):n < aI:=jJ (by omega)
section
variable {P:aE}{w:aB}{K:aw}{mg:Str->Option ag}{base:ar}
theorem jiC(T:ClsC K C)(F:Fun K "number_stands_for" "number_stands_for" kN f fd):FnOk P w K mg base CX0 1 f fd ["case","x"] (spNum C):=by
 have sc:FnScope ["case","x"] ["case","x"] (jm kN):=fQ;refine F.okZ sc (fun ax A outer s H vs Q E hr h=>?_);have hu:(A.deeper (cA "number_stands_for" (jm kN) s.heap.objs.size f ax)).units+1 < cLine:=by have:=hr.units;omega
 obtain⟨n,B,c,x,rfl,I,q⟩:=h;refine⟨_,(jd (jN (jD ku (zpv 1) jq (jI _)) (ji (jC (zpd (j9 (jt (j9 (jt qb jR)) (jt zn jR)))))) jL)
   (ji (jC (Jk hu (jY (zpv 0) rfl) (zpv 1) (zpd (j9 (jt (j9 (jt qb (jt (kB 1) jR))) (jt zn jR)))) ⟨rfl,rfl,rfl,rfl⟩)))),?_⟩
 refine jH (σ':=[some (.ref B.o),some (.str x)]) rfl ?_
 try dsimp only[kx]
 obtain⟨kvs,h1,_,h3⟩:=I.nu;unfold Cs.num at q;refine⟨_,rfl,rfl,_,rfl,yK (fun d=>?_) (fun d=>?_)⟩
 .rw[Qx (V.str.inj (Qt d))]at q
  exact⟨p2 Yb,⟨_,rfl,bw rfl,_,_,rfl,⟨_,rfl,bw rfl,_,_,rfl,rfl,rfl⟩,_,_,rfl,rfl,rfl⟩,fun v H' s h=>q v H' s h⟩
 .rw[Qw (fun e=>d (Qu (Qz V.str e)))]at q
  refine⟨_,rfl,B.o,C,B.dx,_,_,rfl,I.o,T.c,T.n1,rfl,B.nu,rfl,.inl ⟨kvs,.inl h1⟩,_,rfl,p2 (ZT x),⟨_,rfl,bw rfl,_,_,rfl,⟨_,rfl,bw rfl,_,_,rfl,rfl,_,_,rfl,⟨_,rfl,jF⟩,rfl⟩,_,_,rfl,rfl,rfl⟩,fun v H' s h=>⟨_,.k (k:=.inr x) (s _ _ h1),?_⟩⟩
  cases e:c.nu x with
  | none=>
   rw[(h3 x).1 (by show (c.nu x).map p2=none;rw[e];rfl)];rw[e]at q;exact q _ _ s h
  | some p=>
   obtain⟨u,u1,u2⟩:=(h3 x).2 (p2 p) (by show (c.nu x).map p2=_;rw[e];rfl);rw[u1];rw[e]at q;exact q _ _ s (u2.mono s)
theorem jgR(F:Fun K "spot_of" "spot_of" JS f fd)(iO:Fn P w K mg base 1 "number_stands_for" ["case","x"] (spNum C))(cR:Fn P w K mg base 1 "more_than" ["stood_for","d"] spMore):FnOk P w K mg base CX0 2 f fd ["case","place"] (spSpot C):=by
 have sc:FnScope ["case","place","x","d"] ["case","place"] (jm JS):=fQ;refine F.okZ sc (fun ax A outer s H vs Q E hr h=>?_);obtain⟨n,A,c,x,d,v,rfl,I,hv,q⟩:=h;refine⟨_,(jd (zN (zpv 1) (kH rfl (jz (ju (i:=2) sc.nd rfl oQ) (jz (ju (i:=3) sc.nd rfl oQ) kr))))
   (ji (jC (jg cR hr (ja (jg iO hr (ja (zpv 0) (ja (zpv 2) jb))) (ja (zpv 3) jb)))))),?_⟩
 refine jH (σ':=[some (.ref A.o),some v,none,none]) rfl ?_
 try dsimp only[kx]
 obtain⟨t,rfl,ht⟩:=JC hv;refine⟨_,rfl,t,_,rfl,SqT.of ht,rfl,_,_,rfl,_,_,rfl,rfl,?_⟩;refine jH (σ':=[some (.ref A.o),some (.ref t),some (.str x),some (.int d)]) rfl ?_;exact⟨_,rfl,_,rfl,n,A,c,x,rfl,I,fun v H1 s1 h1=>⟨_,rfl,v,d,_,rfl,h1,fun v H2 s2 h2=>q v H2 (s1.trans s2) h2⟩⟩
theorem jiA(T:ClsC K C)(F:Fun K "version_of" "version_of" q8 f fd):FnOk P w K mg base CX0 1 f fd ["case","r"] (spVer C):=by
 have sc:FnScope ["case","r"] ["case","r"] (jm q8):=fQ;refine F.okZ sc (fun ax A outer s H vs Q E hr h=>?_);have hu:(A.deeper (cA "version_of" (jm q8) s.heap.objs.size f ax)).units+1 < cLine:=by have:=hr.units;omega
 obtain⟨n,B,c,r,rfl,I,hn,q⟩:=h;refine⟨_,(jd (kC hu (jY (zpv 0) rfl) (zpv 1) yB rfl)
   (ji (jC (Jk hu (jY (zpv 0) rfl) (zpv 1) (zpd (j9 (jt qb (jt (kB 1) jR)))) ⟨rfl,rfl,rfl,rfl⟩)))),?_⟩
 refine jH (σ':=[some (.ref B.o),some (.str r)]) rfl ?_
 try dsimp only[kx]
 obtain⟨ks,h1,h2,_⟩:=I.na;refine⟨_,rfl,B.o,C,B.dx,_,_,rfl,I.o,T.c,T.n3,rfl,_,rfl,B.na,_,rfl,.k (k:=.inr r) h1 (qj (aJ h2 hn)),?_⟩;obtain⟨m1,I1⟩:=I.named (r:=r) (v:=.bl true) h1;generalize upd H B.na _=H1 at *;obtain⟨kvs,k1,_,k3⟩:=I1.ve;refine⟨_,rfl,B.o,C,B.dx,_,_,rfl,I1.o,T.c,T.n2,rfl,B.ve,rfl,.inl ⟨kvs,.inl k1⟩,_,rfl,yl r,⟨_,rfl,bw rfl,_,_,rfl,rfl,_,_,rfl,⟨_,rfl,jF⟩,rfl⟩,fun v H' s h=>⟨_,.k (k:=.inr r) (s _ _ k1),?_⟩⟩;have m2:=m1.trans (.same s)
 cases e:c.ve r with
 | none=>
  rw[(k3 r).1 e];exact q _ _ m2 (I1.same s) (by unfold Cs.ver;rw[e];exact h)
 | some d=>
  obtain⟨u,u1,u2⟩:=(k3 r).2 d e;rw[u1];exact q _ _ m2 (I1.same s) (by unfold Cs.ver;rw[e];exact u2.mono s)
theorem jel{t:Tm}(h:Held H t.toD v):(∃x a,t=.is x/\v=.ref a/\H a=some (.tup [.str "is",.str x]))\/∃r x d a u,t=.at_ r x d/\v=.ref a/\H a=some (.tup [.str "at",.str r,u])/\Held H (plD x d) u:=by
 cases t with
 | is x=>
  obtain⟨t,xs,rfl,ht,hx⟩:=jE h;obtain⟨a,r,rfl,h1,h2⟩:=jo hx;obtain⟨b,r,rfl,h3,h4⟩:=jo h2
  cases jx h1
  cases jx h3
  cases jM h4
  exact .inl ⟨x,t,rfl,rfl,ht⟩
 | at_ r x d=>
  obtain⟨t,xs,rfl,ht,hx⟩:=jE h;obtain⟨a,l,rfl,h1,h2⟩:=jo hx;obtain⟨b,l,rfl,h3,h4⟩:=jo h2;obtain⟨e,l,rfl,h5,h6⟩:=jo h4
  cases jx h1
  cases jx h3
  cases jM h6
  exact .inr ⟨r,x,d,t,e,rfl,rfl,ht,h5⟩
theorem jfc(T:ClsC K C)(F:Fun K "stands_for" "stands_for" zQ f fd)(iO:Fn P w K mg base 1 "number_stands_for" ["case","x"] (spNum C))(fx:Fn P w K mg base 2 "spot_of" ["case","place"] (spSpot C))(eC:Fn P w K mg base 1 "version_of" ["case","r"] (spVer C))(cJ:Fn P w K mg base 1 "entry_of" ["version","spot"] spEnt):FnOk P w K mg base CX0 3 f fd ["case","term"] (spStand C):=by
 have sc:FnScope ["case","term","spot"] ["case","term"] (jm zQ):=fQ;refine F.okZ sc (fun ax A outer s H vs Q E hr h=>?_);obtain⟨n,B,c,t,v,rfl,I,hn,hv,q⟩:=h;refine⟨_,(jd (jN (jD ku (jr jw (zpv 1) je (fun _ _=>rfl)) jq (jI _)) (ji (jC (jg iO hr (ja (zpv 0) (ja (jr jw (zpv 1) je (fun _ _=>rfl)) jb))))) jL)
   (jd (jy (i:=2) sc.nd rfl oQ (jg fx hr (ja (zpv 0) (ja (jr jw (zpv 1) je (fun _ _=>rfl)) jb))))
   (jd (jA (km cH dG dF j0 (jY (zpv 0) rfl) (ja (zpv 2) jb)))
   (ji (jC (jg cJ hr (ja (jg eC hr (ja (zpv 0) (ja (jr jw (zpv 1) je (fun _ _=>rfl)) jb))) (ja (zpv 2) jb)))))))),?_⟩
 refine jH (σ':=[some (.ref B.o),some v,none]) rfl ?_
 try dsimp only[kx]
 refine YN ?_;intro _ _ _;rcases jel hv with⟨x,a,rfl,rfl,ha⟩ | ⟨r,x,d,a,u,rfl,rfl,ha,hu⟩
 .refine⟨_,rfl,a,_,_,_,rfl,rfl,SqT.of ha,jh (j:=0) rfl,rfl,_,rfl,kR ?_⟩
  exact⟨_,rfl,_,rfl,a,_,_,_,rfl,rfl,SqT.of ha,jh (j:=1) rfl,n,B,c,x,rfl,I,fun v H' s h=>q v H' (.same s) ((I.same s).mono (by omega)) h⟩
 .refine⟨_,rfl,a,_,_,_,rfl,rfl,SqT.of ha,jh (j:=0) rfl,rfl,_,rfl,kA ?_⟩
  refine⟨_,rfl,_,rfl,a,_,_,_,rfl,rfl,SqT.of ha,jh (j:=2) rfl,n,B,c,x,d,u,rfl,I,hu,fun v H1 s1 hv=>?_⟩;refine jH (σ':=[some (.ref B.o),some (.ref a),some v]) rfl ?_;have I1:=I.same s1;obtain⟨xs,l1,l2,l3⟩:=I1.l 2 (by decide);refine⟨_,rfl,B.o,C,B.dx,_,_,rfl,I1.o,T.c,T.n6,rfl,.inl ⟨rfl,_,SqL.of l1⟩,_,rfl,B.l 2,xs,v,rfl,rfl,l1,qj (by omega),?_⟩;obtain⟨m2,I2⟩:=I1.app1 (i:=2) (by decide) hv l1;have t2:=I1.tk m2;have ml:=t2.held hv;have eU:=t2 _ _ (s1 _ _ ha);generalize upd H1 (B.l 2) _=H2 at *;refine⟨_,rfl,_,rfl,a,_,_,_,rfl,rfl,SqT.of eU,jh (j:=1) rfl,n+1,B,_,r,rfl,I2,by omega,fun u H3 m3 I3 pG=>?_⟩;have t3:=I2.tk m3;refine⟨_,rfl,u,v,_,_,rfl,pG,t3.held ml,fun y H4 s4 h4=>?_⟩;exact q y H4 (((Mv.same s1).trans m2).trans (m3.trans (.same s4))) (I3.same s4) h4
end
abbrev yF:aF:=top 23
abbrev JY:aF:=top 24
abbrev Jp:aF:=top 25
abbrev K4:aF:=top 1
inductive spTurned(vs:List V)(H:Hp)(Q:VK)(E:XK):Prop
 | mk (v:V) (a b:Tm) (c:Int) (_:vs=[v]) (_:Held H (Cl.least a b c).toD v) (_:∀u H',Same H H'->Held H' (Cl.least b a (1 - c)).toD u->Q u H')
inductive spLeastT(C:ad)(vs:List V)(H:Hp)(Q:VK)(E:XK):Prop
 | mk (n:Nat) (A:CA) (c:Cs) (a b:Tm) (k:Int) (v:V) (_:vs=[.ref A.o,v]) (_:CsAt C n A c H) (_:n<=860) (_:Held H (Cl.least a b k).toD v) (_:∀v H',Mv A H H'->CsAt C (n+4) A (c.least a b k).2 H'->Held H' (c.least a b k).1 v->Q v H')
inductive spBodyO(C:ad)(vs:List V)(H:Hp)(Q:VK)(E:XK):Prop
 | mk (n:Nat) (A:CA) (c:Cs) (t u:Str) (td ud:Int) (r way:Str) (b:Bd) (k:Int) (v:V) (_:vs=[.ref A.o,v]) (_:CsAt C n A c H) (_:n<=860) (_:Held H (Cl.each t td u ud r way b k).toD v) (_:∀v H',Mv A H H'->CsAt C (n+2) A (c.body r way b k).2 H'->Held H' (c.body r way b k).1 v->Q v H')
inductive spBodyT(vs:List V)(H:Hp)(Q:VK)(E:XK):Prop
 | mk (c:Cs) (r way:Str) (b:Bd) (k:Int) (s:P2) (v u:V) (_:vs=[v,u]) (_:Held H (c.body r way b k).1 v) (_:Held H (p2 s) u) (_:∀v H',Same H H'->Held H' (qw (c.ver r) way (c.bnd b s) k s) v->Q v H')
section
variable {P:aE}{w:aB}{K:aw}{mg:Str->Option ag}{base:ar}
theorem jdr(F:Fun K "turned" "turned" K4 f fd):FnOk P w K mg base CX0 1 f fd ["least"] spTurned:=by
 have sc:FnScope ["least","a","b","c"] ["least"] (jm K4):=fQ;refine F.okZ sc (fun ax A outer s H vs Q E hr h=>?_);obtain⟨v,a,b,c,rfl,hv,q⟩:=h;refine⟨_,(jd (zN (qP ZX (zpv 0) (q0 je) yc) (kH rfl (jz (ju (i:=1) sc.nd rfl oQ) (jz (ju (i:=2) sc.nd rfl oQ) (jz (ju (i:=3) sc.nd rfl oQ) kr)))))
   (ji (jC (zpd (j9 (jt qb (jt (kB 2) (jt (kB 1) (jt (zD (js zo je (zpv 3))) jR))))))))),?_⟩
 refine jH (σ':=[some v,none,none,none]) rfl ?_
 try dsimp only[kx]
 obtain⟨t,va,vb,rfl,ht,ha,hb⟩:=zv hv;refine⟨_,rfl,_,rfl,t,_,rfl,SqT.of ht,(fun h=>absurd h.1 (by show ¬(HT.sIx 4 0 (some 1)=0);decide)),fun t' d_=>?_⟩;have s1:=jj d_ (.tup (zZ [.str "least",va,vb,.int c] (some 1) none));have e1:upd H t' (.tup (zZ [.str "least",va,vb,.int c] (some 1) none)) t'=some (.tup [va,vb,.int c]):=jf;generalize upd H t' (.tup (zZ [.str "least",va,vb,.int c] (some 1) none))=H1 at *;refine⟨t',_,rfl,SqT.of e1,rfl,_,_,rfl,_,_,rfl,_,_,rfl,rfl,?_⟩;refine jH (σ':=[some (.ref t),some va,some vb,some (.int c)]) rfl ?_;refine⟨(Cl.least b a (1 - c)).toD,⟨_,rfl,bw rfl,_,_,rfl,rfl,_,_,rfl,⟨_,rfl,(hb.mono s1)⟩,_,_,rfl,⟨_,rfl,(ha.mono s1)⟩,_,_,rfl,(fun G sG Q q=>?_),rfl⟩,fun v H' s h=>q v H' (s1.trans s) h⟩;exact⟨_,rfl,1,c,rfl,rfl,q _ _ (fun _ _ e=>e) (by unfold Held;rfl)⟩
theorem jdu(F:Fun K "least_tie" "least_tie" yF f fd)(ij:Fn P w K mg base 3 "stands_for" ["case","term"] (spStand C))(cR:Fn P w K mg base 1 "more_than" ["stood_for","d"] spMore)(bQ:Fn P w K mg base 1 "at_most" ["one","other"] spAtM):FnOk P w K mg base CX0 4 f fd ["case","least"] (spLeastT C):=by
 have sc:FnScope ["case","least","a","b","c"] ["case","least"] (jm yF):=fQ;refine F.okZ sc (fun ax A outer s H vs Q E hr h=>?_);obtain⟨n,B,c,a,b,k,v,rfl,I,hn,hv,q⟩:=h;refine⟨_,(jd (zN (qP ZX (zpv 1) (q0 je) yc) (kH rfl (jz (ju (i:=2) sc.nd rfl oQ) (jz (ju (i:=3) sc.nd rfl oQ) (jz (ju (i:=4) sc.nd rfl oQ) kr)))))
   (ji (jC (jg bQ hr (ja (jg cR hr (ja (jg ij hr (ja (zpv 0) (ja (zpv 3) jb))) (ja (zpv 4) jb))) (ja (jg ij hr (ja (zpv 0) (ja (zpv 2) jb))) jb)))))),?_⟩
 refine jH (σ':=[some (.ref B.o),some v,none,none,none]) rfl ?_
 try dsimp only[kx]
 obtain⟨t,va,vb,rfl,ht,ha,hb⟩:=zv hv;refine⟨_,rfl,_,rfl,t,_,rfl,SqT.of ht,(fun h=>absurd h.1 (by show ¬(HT.sIx 4 0 (some 1)=0);decide)),fun t' d_=>?_⟩;have s1:=jj d_ (.tup (zZ [.str "least",va,vb,.int k] (some 1) none));have e1:upd H t' (.tup (zZ [.str "least",va,vb,.int k] (some 1) none)) t'=some (.tup [va,vb,.int k]):=jf;generalize upd H t' (.tup (zZ [.str "least",va,vb,.int k] (some 1) none))=H1 at *;refine⟨t',_,rfl,SqT.of e1,rfl,_,_,rfl,_,_,rfl,_,_,rfl,rfl,?_⟩;refine jH (σ':=[some (.ref B.o),some (.ref t),some va,some vb,some (.int k)]) rfl ?_;refine⟨_,rfl,_,rfl,n,B,c,b,vb,rfl,I.same s1,by omega,hb.mono s1,fun x H2 m2 I2 hx=>?_⟩;have t2:=(I.same s1).tk m2;refine⟨_,rfl,x,k,_,rfl,hx,fun y H3 s3 hy=>?_⟩;refine⟨_,rfl,_,rfl,n+2,B,_,a,va,rfl,I2.same s3,by omega,(t2.held (ha.mono s1)).mono s3,fun z H4 m4 I4 hz=>?_⟩;have t4:=(I2.same s3).tk m4;refine⟨y,z,_,_,rfl,t4.held hy,hz,fun u H5 s5 hu=>?_⟩;exact q u H5 (((Mv.same s1).trans m2).trans (((Mv.same s3).trans m4).trans (.same s5))) (I4.same s5) hu
theorem jfl(F:Fun K "body_of" "body_of" JY f fd)(eC:Fn P w K mg base 1 "version_of" ["case","r"] (spVer C))(iO:Fn P w K mg base 1 "number_stands_for" ["case","x"] (spNum C)):FnOk P w K mg base CX0 2 f fd ["case","claim"] (spBodyO C):=by
 have sc:FnScope ["case","claim","r","way","b","c","version"] ["case","claim"] (jm JY):=fQ;refine F.okZ sc (fun ax A outer s H vs Q E hr h=>?_);obtain⟨n,B,c,t,u,td,ud,r,way,b,k,v,rfl,I,hn,hv,q⟩:=h;refine⟨_,(jd (zN (qP ZX (zpv 1) (q0 je) yc) (kH rfl (jz (ju (i:=2) sc.nd rfl oQ) (jz (ju (i:=3) sc.nd rfl oQ) (jz (ju (i:=4) sc.nd rfl oQ) (jz (ju (i:=5) sc.nd rfl oQ) kr))))))
   (jd (jy (i:=6) sc.nd rfl oQ (jg eC hr (ja (zpv 0) (ja (zpv 2) jb))))
   (jd (jN (jD ku (jr jw (zpv 4) je (fun _ _=>rfl)) jq (jI _)) (ji (jC (jQ (ja (zpv 6) (ja (zpv 3) (ja (jQ (ja jq (ja (jg eC hr (ja (zpv 0) (ja (jr jw (zpv 4) je (fun _ _=>rfl)) jb))) jb))) (ja (zpv 5) jb))))))) jL)
   (ji (jC (jQ (ja (zpv 6) (ja (zpv 3) (ja (jQ (ja jq (ja (jg iO hr (ja (zpv 0) (ja (jr jw (zpv 4) je (fun _ _=>rfl)) jb))) jb))) (ja (zpv 5) jb)))))))))),?_⟩
 refine jH (σ':=[some (.ref B.o),some v,none,none,none,none,none]) rfl ?_
 try dsimp only[kx]
 refine YN ?_;intro _ _ _;obtain⟨t,va,vb,x,rfl,ht,_,_,hb⟩:=yt hv;refine⟨_,rfl,_,rfl,t,_,rfl,SqT.of ht,(fun h=>absurd h.1 (by show ¬(HT.sIx 7 0 (some 3)=0);decide)),fun t' d_=>?_⟩;have s1:=jj d_ (.tup (zZ [.str "each",.ref va,.ref vb,.str r,.str way,.ref x,.int k] (some 3) none));have e1:upd H t' (.tup (zZ [.str "each",.ref va,.ref vb,.str r,.str way,.ref x,.int k] (some 3) none)) t'=some (.tup [.str r,.str way,.ref x,.int k]):=jf;generalize upd H t' (.tup (zZ [.str "each",.ref va,.ref vb,.str r,.str way,.ref x,.int k] (some 3) none))=H1 at *;refine⟨t',_,rfl,SqT.of e1,rfl,_,_,rfl,_,_,rfl,_,_,rfl,_,_,rfl,rfl,?_⟩;refine jH (σ':=[some (.ref B.o),some (.ref t),some (.str r),some (.str way),some (.ref x),some (.int k),none]) rfl ?_;refine⟨_,rfl,_,rfl,n,B,c,r,rfl,I.same s1,by omega,fun y H2 m2 I2 hy=>?_⟩;refine jH (σ':=[some (.ref B.o),some (.ref t),some (.str r),some (.str way),some (.ref x),some (.int k),some y]) rfl ?_;have t2:=(I.same s1).tk m2;have M2:=(Mv.same s1).trans m2;have ha:=t2 _ _ (s1 _ _ hb);rcases b with x' | r'
 .refine⟨_,rfl,x,_,_,_,rfl,rfl,SqT.of ha,jh (j:=0) rfl,rfl,_,rfl,kA ?_⟩
  refine⟨_,rfl,_,rfl,_,rfl,_,rfl,x,_,_,_,rfl,rfl,SqT.of ha,jh (j:=1) rfl,n+1,B,_,x',rfl,I2,fun z H3 s3 hz=>⟨sm rfl,fun p hp=>⟨_,rfl,sm rfl,fun o ho=>?_⟩⟩⟩;have s4:=jj hp (.tup [.str "is",z]);have s5:=jj ho (.tup [y,.str way,.ref p,.int k]);have S:=(s3.trans s4).trans s5;exact q _ _ (M2.trans (.same S)) ((I2.same S).mono (by omega)) (jK jf (jc (hy.mono S) (jc jF (jc (jK (s5 _ _ jf) (jc jF (jc (hz.mono (s4.trans s5)) jl))) (jc jP jl)))))
 .refine⟨_,rfl,x,_,_,_,rfl,rfl,SqT.of ha,jh (j:=0) rfl,rfl,_,rfl,kR ?_⟩
  refine⟨_,rfl,_,rfl,_,rfl,_,rfl,x,_,_,_,rfl,rfl,SqT.of ha,jh (j:=1) rfl,n+1,B,_,r',rfl,I2,by omega,fun z H3 m3 I3 hz=>⟨sm rfl,fun p hp=>⟨_,rfl,sm rfl,fun o ho=>?_⟩⟩⟩;have t3:=I2.tk m3;have s4:=jj hp (.tup [.str "row",z]);have s5:=jj ho (.tup [y,.str way,.ref p,.int k]);have S:=s4.trans s5;exact q _ _ (M2.trans (m3.trans (.same S))) (I3.same S) (jK jf (jc ((t3.held hy).mono S) (jc jF (jc (jK (s5 _ _ jf) (jc jF (jc (hz.mono S) jl))) (jc jP jl)))))
theorem zJ{a b c d:D}(h:Held H (.tup [a,b,c,d]) v):∃t x y z u,v=.ref t/\H t=some (.tup [x,y,z,u])/\Held H a x/\Held H b y/\Held H c z/\Held H d u:=by
 obtain⟨t,xs,rfl,ht,hx⟩:=jE h;obtain⟨x,r,rfl,h1,h2⟩:=jo hx;obtain⟨y,r,rfl,h3,h4⟩:=jo h2;obtain⟨z,r,rfl,h5,h6⟩:=jo h4;obtain⟨u,r,rfl,h7,h8⟩:=jo h6
 cases jM h8
 exact⟨t,x,y,z,u,rfl,ht,h1,h3,h5,h7⟩
theorem qI{a b:D}(h:Held H (.tup [a,b]) v):∃t x y,v=.ref t/\H t=some (.tup [x,y])/\Held H a x/\Held H b y:=by
 obtain⟨t,xs,rfl,ht,hx⟩:=jE h;obtain⟨x,r,rfl,h1,h2⟩:=jo hx;obtain⟨y,r,rfl,h3,h4⟩:=jo h2
 cases jM h4
 exact⟨t,x,y,rfl,ht,h1,h3⟩
theorem jfk(F:Fun K "body_tie" "body_tie" Jp f fd)(cJ:Fn P w K mg base 1 "entry_of" ["version","spot"] spEnt)(cR:Fn P w K mg base 1 "more_than" ["stood_for","d"] spMore)(bQ:Fn P w K mg base 1 "at_most" ["one","other"] spAtM):FnOk P w K mg base CX0 2 f fd ["body","spot"] spBodyT:=by
 have sc:FnScope ["body","spot","version","way","b","c","held","bound"] ["body","spot"] (jm Jp):=fQ;refine F.okZ sc (fun ax A outer s H vs Q E hr h=>?_);obtain⟨c,r,way,b,k,p,v,u,rfl,hv,hu,q⟩:=h;refine⟨_,(jd (zN (zpv 0) (kH rfl (jz (ju (i:=2) sc.nd rfl oQ) (jz (ju (i:=3) sc.nd rfl oQ) (jz (ju (i:=4) sc.nd rfl oQ) (jz (ju (i:=5) sc.nd rfl oQ) kr))))))
   (jd (jy (i:=6) sc.nd rfl oQ (jg cJ hr (ja (zpv 2) (ja (zpv 1) jb))))
   (jd (jy (i:=7) sc.nd rfl oQ (jr jw (zpv 4) je (fun _ _=>rfl)))
   (jd (Yi (jN (jD ku (jr jw (zpv 4) je (fun _ _=>rfl)) jq (jI _)) (ji (jy (i:=7) sc.nd rfl oQ (jg cJ hr (ja (jr jw (zpv 4) je (fun _ _=>rfl)) (ja (zpv 1) jb))))) jL))
   (jd (jN (jD ku (zpv 3) jq (jI _)) (ji (jC (jg bQ hr (ja (jg cR hr (ja (zpv 7) (ja (zpv 5) jb))) (ja (zpv 6) jb))))) jL)
   (ji (jC (jg bQ hr (ja (zpv 6) (ja (jg cR hr (ja (zpv 7) (ja (zpv 5) jb))) jb)))))))))),?_⟩
 refine jH (σ':=[some v,some u,none,none,none,none,none,none]) rfl ?_
 try dsimp only[kx]
 refine jhR ?_;intro _ _ _ _ _;have key:∃bd,(c.body r way b k).1=jfR (c.ver r) way bd k/\((bd=.tup [.str "is",p2 (c.bnd b p)] )\/∃d,bd=.tup [.str "row",d]/\c.bnd b p=jW d p):=by
  cases b with
  | is x=>exact⟨_,rfl,.inl rfl⟩
  | row x=>exact⟨_,rfl,.inr ⟨_,rfl,rfl⟩⟩
 obtain⟨bd,e0,Ly⟩:=key;rw[e0]at hv;obtain⟨t,x1,x2,x3,x4,rfl,ht,g1,g2,g3,g4⟩:=zJ hv
 cases jx g2
 cases kg g4
 refine⟨_,rfl,t,_,rfl,SqT.of ht,rfl,_,_,rfl,_,_,rfl,_,_,rfl,_,_,rfl,rfl,?_⟩;refine jH (σ':=[some (.ref t),some u,some x1,some (.str way),some x3,some (.int k),none,none]) rfl ?_;refine⟨_,rfl,_,rfl,x1,u,_,_,rfl,g1,hu,fun y H1 s1 hy=>?_⟩;refine jH (σ':=[some (.ref t),some u,some x1,some (.str way),some x3,some (.int k),some y,none]) rfl ?_;have two:∃t3 a x5,x3=.ref t3/\H t3=some (.tup [.str a,x5])/\((a = "is"/\Held H (p2 (c.bnd b p)) x5)\/(a = "row"/\∃d,Held H d x5/\c.bnd b p=jW d p)):=by
  rcases Ly with rfl | ⟨d,rfl,e⟩ <;> obtain⟨t3,a,x5,e1,e2,e3,e4⟩:=qI g3 <;> cases jx e3
  .exact⟨t3,_,x5,e1,e2,.inl ⟨rfl,e4⟩⟩
  .exact⟨t3,_,x5,e1,e2,.inr ⟨rfl,d,e4,e⟩⟩
 obtain⟨t3,a,x5,rfl,h3,IK⟩:=two;refine⟨_,rfl,t3,_,_,_,rfl,rfl,SqT.of (s1 _ _ h3),jh (j:=1) rfl,?_⟩;refine jH (σ':=[some (.ref t),some u,some x1,some (.str way),some (.ref t3),some (.int k),some y,some x5]) rfl ?_;refine⟨fun σ' G=>∃z,σ'=[some (.ref t),some u,some x1,some (.str way),some (.ref t3),some (.int k),some y,some z]/\Same H1 G/\Held G (p2 (c.bnd b p)) z,?_,?_⟩
 .rcases IK with⟨rfl,h5⟩ | ⟨rfl,d,h5,e5⟩
  .exact⟨_,rfl,t3,_,_,_,rfl,rfl,SqT.of (s1 _ _ h3),jh (j:=0) rfl,rfl,_,rfl,kA ⟨x5,rfl,fun _ _ e=>e,h5.mono s1⟩⟩
  .refine⟨_,rfl,t3,_,_,_,rfl,rfl,SqT.of (s1 _ _ h3),jh (j:=0) rfl,rfl,_,rfl,kR ?_⟩
   exact⟨_,rfl,t3,_,_,_,rfl,rfl,SqT.of (s1 _ _ h3),jh (j:=1) rfl,_,rfl,x5,u,d,p,rfl,h5.mono s1,hu.mono s1,fun z G sG hz=>⟨z,rfl,sG,by rw[e5];exact hz⟩⟩
 .rintro σ' G ⟨z,rfl,sG,hz⟩
  have fE:=hy.mono sG;unfold qw at q;refine⟨_,rfl,rfl,_,rfl,yK (fun d=>?_) (fun d=>?_)⟩
  .rw[Qx (V.str.inj (Qt d))]at q
   exact⟨_,rfl,_,rfl,z,k,_,rfl,hz,fun v G1 s2 hv=>⟨_,rfl,v,y,_,_,rfl,hv,fE.mono s2,fun r G2 s3 hr=>q r G2 (s1.trans (sG.trans (s2.trans s3))) hr⟩⟩
  .rw[Qw (fun e=>d (Qu (Qz V.str e)))]at q
   exact⟨_,rfl,_,rfl,_,rfl,z,k,_,rfl,hz,fun v G1 s2 hv=>⟨y,v,_,_,rfl,fE.mono s2,hv,fun r G2 s3 hr=>q r G2 (s1.trans (sG.trans (s2.trans s3))) hr⟩⟩
end
abbrev yj:aF:=top 12
abbrev jcw:aF:=top 13
inductive spPut(C:ad)(vs:List V)(H:Hp)(Q:VK)(E:XK):Prop
 | mk (n:Nat) (A:CA) (c:Cs) (i:Nat) (r x:Str) (d:Int) (t:Tm) (k:Int) (v:V) (_:vs=[.ref A.o,.int (i:Nat),v]) (_:CsAt C n A c H) (_:n<=840) (_:Held H (Rw.put r x d t k).toD v) (_:∀H',Mv A H H'->CsAt C (n+8) A (c.take i (.put r x d t k)) H'->Q .non H')
inductive spKnow(C:ad)(vs:List V)(H:Hp)(Q:VK)(E:XK):Prop
 | mk (n:Nat) (A:CA) (c:Cs) (K:Cl) (v:V) (_:vs=[.ref A.o,v]) (_:CsAt C n A c H) (_:n<=840) (_:Held H K.toD v) (_:∀H',Mv A H H'->CsAt C (n+8) A (c.know K) H'->Q .non H')
theorem Kk{a b c d e:D}(h:Held H (.tup [a,b,c,d,e]) v):∃t x y z u w,v=.ref t/\H t=some (.tup [x,y,z,u,w])/\Held H a x/\Held H b y/\Held H c z/\Held H d u/\Held H e w:=by
 obtain⟨t,xs,rfl,ht,hx⟩:=jE h;obtain⟨x,r,rfl,h1,h2⟩:=jo hx;obtain⟨y,r,rfl,h3,h4⟩:=jo h2;obtain⟨z,r,rfl,h5,h6⟩:=jo h4;obtain⟨u,r,rfl,h7,h8⟩:=jo h6;obtain⟨w,r,rfl,h9,mP⟩:=jo h8
 cases jM mP
 exact⟨t,x,y,z,u,w,rfl,ht,h1,h3,h5,h7,h9⟩
section
variable {P:aE}{w:aB}{K:aw}{mg:Str->Option ag}{base:ar}
theorem jgP(T:ClsC K C)(F:Fun K "take_put" "take_put" yj f fd)(fx:Fn P w K mg base 2 "spot_of" ["case","place"] (spSpot C))(ij:Fn P w K mg base 3 "stands_for" ["case","term"] (spStand C))(cR:Fn P w K mg base 1 "more_than" ["stood_for","d"] spMore)(eC:Fn P w K mg base 1 "version_of" ["case","r"] (spVer C))(cJ:Fn P w K mg base 1 "entry_of" ["version","spot"] spEnt)(mT:Fn P w K mg base 2 "alike" ["one","other"] spLike):FnOk P w K mg base CX0 4 f fd ["case","n","row"] (spPut C):=by
 have sc:FnScope ["case","n","row","r","place","a","c","spot","value","ahead","behind"] ["case","n","row"] (jm yj):=fQ;refine F.okZ sc (fun ax A outer s H vs Q E hr h=>?_);have hu:(A.deeper (cA "take_put" (jm yj) s.heap.objs.size f ax)).units+1 < cLine:=by have:=hr.units;omega
 obtain⟨n,B,c,i,r,x,d,t,k,v,rfl,I,hn,hv,q⟩:=h;refine⟨_,(jd (zN (qP ZX (zpv 2) (q0 je) yc) (kH rfl (jz (ju (i:=3) sc.nd rfl oQ) (jz (ju (i:=4) sc.nd rfl oQ) (jz (ju (i:=5) sc.nd rfl oQ) (jz (ju (i:=6) sc.nd rfl oQ) kr))))))
   (jd (jy (i:=7) sc.nd rfl oQ (jg fx hr (ja (zpv 0) (ja (zpv 4) jb))))
   (jd (jy (i:=8) sc.nd rfl oQ (jg cR hr (ja (jg ij hr (ja (zpv 0) (ja (zpv 5) jb))) (ja (zpv 6) jb))))
   (jd (jy (i:=9) sc.nd rfl oQ (jg eC hr (ja (zpv 0) (ja (zpv 3) jb))))
   (jd (jy (i:=10) sc.nd rfl oQ (zpd (j9 (jt qb (jt (kB 1) jR)))))
   (jd (jA (km cH dG dF j0 (jY (zpv 0) rfl) (ja (zpv 7) jb)))
   (jd (jA (km cH dG dF j0 (jY (zpv 0) rfl) (ja (zpd (j9 (jt (kB 7) (jt (kB 9) (jt (kB 8) (jt (kB 10) jR)))))) jb)))
   (jd (jA (km cH iV iU qa (jY (zpv 0) rfl) (ja (jg mT hr (ja (jg cJ hr (ja (zpv 10) (ja (zpv 7) jb))) (ja (zpv 8) jb))) jb)))
   (ji (kC hu (jY (zpv 0) rfl) (zpv 3) (zpv 10) rfl)))))))))),?_⟩
 refine jH (σ':=[some (.ref B.o),some (.int i),some v,none,none,none,none,none,none,none,none]) rfl ?_
 try dsimp only[kx]
 refine jcJ ?_;intro _ _ _ _ _ _ _ _;obtain⟨t0,x0,x1,x2,x3,x4,rfl,ht,h0,h1,h2,h3,h4⟩:=Kk hv
 cases jx h0
 cases jx h1
 cases kg h4
 refine⟨_,rfl,_,rfl,t0,_,rfl,SqT.of ht,(fun h=>absurd h.1 (by show ¬(HT.sIx 5 0 (some 1)=0);decide)),fun t' d_=>?_⟩;have s1:=jj d_ (.tup (zZ [.str "put",.str r,x2,x3,.int k] (some 1) none));have e1:upd H t' (.tup (zZ [.str "put",.str r,x2,x3,.int k] (some 1) none)) t'=some (.tup [.str r,x2,x3,.int k]):=jf;generalize upd H t' (.tup (zZ [.str "put",.str r,x2,x3,.int k] (some 1) none))=H1 at *;refine⟨t',_,rfl,SqT.of e1,rfl,_,_,rfl,_,_,rfl,_,_,rfl,_,_,rfl,rfl,?_⟩;refine jH (σ':=[some (.ref B.o),some (.int i),some (.ref t0),some (.str r),some x2,some x3,some (.int k),none,none,none,none]) rfl ?_;have I1:=I.same s1;refine⟨_,rfl,_,rfl,n,B,c,x,d,x2,rfl,I1,h2.mono s1,fun sp H2 s2 aY=>?_⟩;refine jH (σ':=[some (.ref B.o),some (.int i),some (.ref t0),some (.str r),some x2,some x3,some (.int k),some sp,none,none,none]) rfl ?_;have I2:=I1.same s2;refine⟨_,rfl,_,rfl,n,B,c,t,x3,rfl,I2,by omega,(h3.mono s1).mono s2,fun y H3 m3 I3 hy=>⟨_,rfl,y,k,_,rfl,hy,fun va H4 s4 CS=>?_⟩⟩;refine jH (σ':=[some (.ref B.o),some (.int i),some (.ref t0),some (.str r),some x2,some x3,some (.int k),some sp,some va,none,none]) rfl ?_;have C6:=((I2.tk m3).held aY).mono s4;have M4:=((Mv.same (A:=B) s1).trans (.same s2)).trans (m3.trans (.same s4));have I4:=I3.same s4;refine⟨_,rfl,_,rfl,n+2,B,_,r,rfl,I4,by omega,fun ah H5 m5 I5 DP=>?_⟩;refine jH (σ':=[some (.ref B.o),some (.int i),some (.ref t0),some (.str r),some x2,some x3,some (.int k),some sp,some va,some ah,none]) rfl ?_;have t5:=I4.tk m5;refine⟨ym i,⟨_,rfl,bw rfl,_,_,rfl,rfl,_,_,rfl,⟨_,rfl,jP⟩,rfl⟩,fun be H6 s6 iG=>?_⟩;refine jH (σ':=[some (.ref B.o),some (.int i),some (.ref t0),some (.str r),some x2,some x3,some (.int k),some sp,some va,some ah,some be]) rfl ?_;have I6:=I5.same s6;have nT:=(t5.held C6).mono s6;have CQ:=(t5.held CS).mono s6;have DO:=DP.mono s6;have M6:=M4.trans (m5.trans (.same s6));clear aY C6 CS DP M4 I5 I4;obtain⟨xs,l1,_,l3⟩:=I6.l 2 (by decide);refine⟨_,rfl,B.o,C,B.dx,_,_,rfl,I6.o,T.c,T.n6,rfl,.inl ⟨rfl,_,SqL.of l1⟩,_,rfl,B.l 2,xs,sp,rfl,rfl,l1,qj (by omega),?_⟩;obtain⟨m7,I7⟩:=I6.app1 (i:=2) (by decide) nT l1;have t7:=I6.tk m7;generalize upd H6 (B.l 2) _=H7 at *;have xm:=t7.held nT;have xg:=t7.held CQ;have DN:=t7.held DO;have xN:=t7.held iG;obtain⟨ys,l4,_,l6⟩:=I7.l 3 (by decide);refine⟨_,rfl,B.o,C,B.dx,_,_,rfl,I7.o,T.c,T.n7,rfl,.inl ⟨rfl,_,SqL.of l4⟩,.tup [p2 (c.spot x d),(c.stand t).2.ver r,p2 (mor (c.stand t).1 k),ym i],⟨_,rfl,bw rfl,_,_,rfl,⟨_,rfl,xm⟩,_,_,rfl,⟨_,rfl,DN⟩,_,_,rfl,⟨_,rfl,xg⟩,_,_,rfl,⟨_,rfl,xN⟩,rfl⟩,fun u H8 s8 xi=>⟨B.l 3,ys,u,rfl,rfl,s8 _ _ l4,qj (by omega),?_⟩⟩;have I8:=I7.same s8;obtain⟨m9,I9⟩:=I8.app1 (i:=3) (by decide) xi (s8 _ _ l4);have t9:=(TK.same s8).trans (I8.tk m9);generalize upd H8 (B.l 3) _=H9 at *;have Il:=t9.held xm;have HW:=t9.held xg;have DL:=t9.held xN;have M9:=M6.trans (m7.trans ((Mv.same s8).trans m9));clear xm xg DN xN nT CQ DO M6 I6 I7 I8;obtain⟨zs,l7,_,l9⟩:=I9.l 1 (by decide);refine⟨_,rfl,B.o,C,B.dx,_,_,rfl,I9.o,T.c,T.n5,rfl,.inl ⟨rfl,_,SqL.of l7⟩,_,rfl,_,rfl,be,sp,_,_,rfl,DL,Il,fun e1 mQ dm he=>⟨_,rfl,e1,va,_,_,rfl,he,HW.mono dm,fun lk z1 z2 cG bI _ lA wY Cw=>?_⟩⟩;have cF:=dm.trans bI;have cz:=I9.same cF;refine⟨B.l 1,lk,zs,_,rfl,rfl,cF _ _ l7,lA,Yv (by show zs.length+2<=1000;omega),?_⟩;obtain⟨g8,fw⟩:=cz.app (i:=1) (by decide) (jc wY (jc Cw jl)) (cF _ _ l7);have Lx:=((TK.same cF).trans (cz.tk g8)).held DL;generalize upd cG (B.l 1) _=iM at *;obtain⟨kvs,k1,k2,_⟩:=fw.ve;have k3:kvs.length<=900:=by
  have:kvs.length<=n+2+1+1+1+2:=k2;omega
 refine⟨_,rfl,_,rfl,B.o,C,B.dx,_,_,rfl,fw.o,T.c,T.n2,rfl,_,rfl,B.ve,_,rfl,.k (k:=.inr r) k1 (qj k3),?_⟩;obtain⟨Hl,rA⟩:=fw.setv (r:=r) Lx k1;exact q _ (M9.trans ((Mv.same cF).trans (g8.trans Hl))) rA
end
theorem kS{d:Int}(h:H a=some (.tup [.str x,.int d])):Held H (plD x d) (.ref a):=jK h (jc jF (jc jP jl))
section
variable {P:aE}{w:aB}{K:aw}{mg:Str->Option ag}{base:ar}
theorem jgX(T:ClsC K C)(F:Fun K "know" "know" jcw f fd)(oq:Fn P w K mg base 4 "least_tie" ["case","least"] (spLeastT C))(fx:Fn P w K mg base 2 "spot_of" ["case","place"] (spSpot C))(oy:Fn P w K mg base 2 "body_of" ["case","claim"] (spBodyO C))(eC:Fn P w K mg base 1 "version_of" ["case","r"] (spVer C)):FnOk P w K mg base CX0 5 f fd ["case","claim"] (spKnow C):=by
 have sc:FnScope ["case","claim","t","u"] ["case","claim"] (jm jcw):=fQ;refine F.okZ sc (fun ax A outer s H vs Q E hr h=>?_);obtain⟨n,B,c,k,v,rfl,I,hn,hv,q⟩:=h;refine⟨_,(jd (jN (jD ku (jr jw (zpv 1) je (fun _ _=>rfl)) jq (jI _)) (jd (jA (km cH dG dF j0 (jY (zpv 0) rfl) (ja (jg oq hr (ja (zpv 0) (ja (zpv 1) jb))) jb)))
   (ji zy)) jL)
   (jd (jcl (i:=2) (j:=3) rfl sc.nd rfl rfl (by decide) rfl rfl (ja (jg fx hr (ja (zpv 0) (ja (jr jw (zpv 1) je (fun _ _=>rfl)) jb))) (ja (jg fx hr (ja (zpv 0) (ja (jr jw (zpv 1) je (fun _ _=>rfl)) jb))) jb)) rfl)
   (jd (jA (km cH dG dF j0 (jY (zpv 0) rfl) (ja (zpv 2) jb)))
   (ji (jN (jD ku (jr jw (zpv 1) je (fun _ _=>rfl)) jq (jI _)) (ji (jA (km cH dG dF j0 (jY (zpv 0) rfl) (ja (jQ (ja (zpv 2) (ja (zpv 3) (ja (jg oy hr (ja (zpv 0) (ja (zpv 1) jb))) jb)))) jb)))) (ji (jA (km cH dG dF j0 (jY (zpv 0) rfl) (ja (jQ (ja (zpv 2) (ja (zpv 3) (ja (jg eC hr (ja (zpv 0) (ja (jr jw (zpv 1) je (fun _ _=>rfl)) jb))) jb)))) jb))))))))),?_⟩
 refine jH (σ':=[some (.ref B.o),some v,none,none]) rfl ?_
 try dsimp only[kx]
 refine YN ?_;intro _ _ _;rcases k with⟨a,b,k⟩ | ⟨x,d,y,e,r,way,b,k⟩ | ⟨x,d,y,e,r⟩
 .obtain⟨t,va,vb,rfl,ht,_,_⟩:=zv hv
  refine⟨_,rfl,t,_,_,_,rfl,rfl,SqT.of ht,jh (j:=0) rfl,rfl,_,rfl,kR ?_⟩;obtain⟨xs,l1,_,_⟩:=I.l 1 (by decide);refine⟨_,rfl,B.o,C,B.dx,_,_,rfl,I.o,T.c,T.n5,rfl,.inl ⟨rfl,_,SqL.of l1⟩,_,rfl,_,rfl,n,B,c,a,b,k,_,rfl,I,by omega,hv,fun y H1 m1 I1 hy=>?_⟩;obtain⟨ys,l2,_,l3⟩:=I1.l 1 (by decide);obtain⟨m2,I2⟩:=I1.app1 (i:=1) (by decide) hy l2;exact⟨B.l 1,ys,y,rfl,rfl,l2,qj (by omega),q _ (m1.trans m2) (I2.mono (by omega))⟩
 .obtain⟨t,va,vb,vc,rfl,ht,ha,hb,hc⟩:=yt hv
  refine⟨_,rfl,t,_,_,_,rfl,rfl,SqT.of ht,jh (j:=0) rfl,rfl,_,rfl,kA ?_⟩;refine⟨_,rfl,_,rfl,t,_,_,_,rfl,rfl,SqT.of ht,jh (j:=1) rfl,n,B,c,x,d,_,rfl,I,kS ha,fun sp H1 s1 aY=>?_⟩;refine⟨_,rfl,_,rfl,t,_,_,_,rfl,rfl,SqT.of (s1 _ _ ht),jh (j:=2) rfl,n,B,c,y,e,_,rfl,I.same s1,kS (s1 _ _ hb),fun su H2 s2 eO=>⟨sp,su,rfl,?_⟩⟩;refine jH (σ':=[some (.ref B.o),some (.ref t),some sp,some su]) rfl ?_;have s3:=s1.trans s2;have I2:=I.same s3;have dM:=aY.mono s2;obtain⟨xs,l1,_,l3⟩:=I2.l 2 (by decide);refine⟨_,rfl,B.o,C,B.dx,_,_,rfl,I2.o,T.c,T.n6,rfl,.inl ⟨rfl,_,SqL.of l1⟩,_,rfl,B.l 2,xs,sp,rfl,rfl,l1,qj (by omega),?_⟩;obtain⟨m4,I4⟩:=I2.app1 (i:=2) (by decide) dM l1;have t4:=I2.tk m4;generalize upd H2 (B.l 2) _=H4 at *;have iA:=t4 _ _ (s3 _ _ ht);refine⟨_,rfl,t,_,_,_,rfl,rfl,SqT.of iA,jh (j:=0) rfl,rfl,_,rfl,kR ?_⟩;obtain⟨ys,l4,_,_⟩:=I4.l 4 (by decide);refine⟨_,rfl,B.o,C,B.dx,_,_,rfl,I4.o,T.c,T.n8,rfl,.inl ⟨rfl,_,SqL.of l4⟩,_,rfl,_,rfl,_,rfl,_,rfl,n+1,B,_,x,y,d,e,r,way,b,k,_,rfl,I4,by omega,t4.held (hv.mono s3),fun bo H5 m5 I5 dh=>⟨sm rfl,fun p hp=>?_⟩⟩;have t5:=I4.tk m5;have s6:=jj hp (.tup [sp,su,bo]);have h6:Held (upd H5 p (.tup [sp,su,bo])) (.tup [p2 (c.spot x d),p2 (c.spot y e),((c.add 2 [p2 (c.spot x d)]).body r way b k).1]) (.ref p):=jK jf (jc ((t5.held (t4.held dM)).mono s6) (jc ((t5.held (t4.held eO)).mono s6) (jc (dh.mono s6) jl)));have I6:=I5.same s6;obtain⟨zs,l5,_,l6⟩:=I6.l 4 (by decide);obtain⟨m7,I7⟩:=I6.app1 (i:=4) (by decide) h6 l5;exact⟨B.l 4,zs,_,rfl,rfl,l5,qj (by omega),q _ (((Mv.same s3).trans m4).trans (m5.trans ((Mv.same s6).trans m7))) (I7.mono (by omega))⟩
 .obtain⟨t,va,vb,rfl,ht,ha,hb⟩:=J7 hv
  refine⟨_,rfl,t,_,_,_,rfl,rfl,SqT.of ht,jh (j:=0) rfl,rfl,_,rfl,kA ?_⟩;refine⟨_,rfl,_,rfl,t,_,_,_,rfl,rfl,SqT.of ht,jh (j:=1) rfl,n,B,c,x,d,_,rfl,I,kS ha,fun sp H1 s1 aY=>?_⟩;refine⟨_,rfl,_,rfl,t,_,_,_,rfl,rfl,SqT.of (s1 _ _ ht),jh (j:=2) rfl,n,B,c,y,e,_,rfl,I.same s1,kS (s1 _ _ hb),fun su H2 s2 eO=>⟨sp,su,rfl,?_⟩⟩;refine jH (σ':=[some (.ref B.o),some (.ref t),some sp,some su]) rfl ?_;have s3:=s1.trans s2;have I2:=I.same s3;have dM:=aY.mono s2;obtain⟨xs,l1,_,l3⟩:=I2.l 2 (by decide);refine⟨_,rfl,B.o,C,B.dx,_,_,rfl,I2.o,T.c,T.n6,rfl,.inl ⟨rfl,_,SqL.of l1⟩,_,rfl,B.l 2,xs,sp,rfl,rfl,l1,qj (by omega),?_⟩;obtain⟨m4,I4⟩:=I2.app1 (i:=2) (by decide) dM l1;have t4:=I2.tk m4;generalize upd H2 (B.l 2) _=H4 at *;have iA:=t4 _ _ (s3 _ _ ht);refine⟨_,rfl,t,_,_,_,rfl,rfl,SqT.of iA,jh (j:=0) rfl,rfl,_,rfl,kA ?_⟩;obtain⟨ys,l4,_,_⟩:=I4.l 5 (by decide);refine⟨_,rfl,B.o,C,B.dx,_,_,rfl,I4.o,T.c,T.n9,rfl,.inl ⟨rfl,_,SqL.of l4⟩,_,rfl,_,rfl,_,rfl,_,rfl,t,_,_,_,rfl,rfl,SqT.of iA,jh (j:=3) rfl,n+1,B,_,r,rfl,I4,by omega,fun bo H5 m5 I5 dh=>⟨sm rfl,fun p hp=>?_⟩⟩;have t5:=I4.tk m5;have s6:=jj hp (.tup [sp,su,bo]);have h6:Held (upd H5 p (.tup [sp,su,bo])) (.tup [p2 (c.spot x d),p2 (c.spot y e),c.ver r]) (.ref p):=jK jf (jc ((t5.held (t4.held dM)).mono s6) (jc ((t5.held (t4.held eO)).mono s6) (jc (dh.mono s6) jl)));have I6:=I5.same s6;obtain⟨zs,l5,_,l6⟩:=I6.l 5 (by decide);obtain⟨m7,I7⟩:=I6.app1 (i:=5) (by decide) h6 l5;exact⟨B.l 5,zs,_,rfl,rfl,l5,qj (by omega),q _ (((Mv.same s3).trans m4).trans (m5.trans ((Mv.same s6).trans m7))) (I7.mono (by omega))⟩
end
abbrev jcy:aF:=top 14
abbrev yi:aF:=top 11
def Own(H:Hp)(o1 o2:ad):Prop:=Held H (p2 (jV 0)) (.ref o1)/\Held H (p2 (jV 1)) (.ref o2)
theorem Own.tk{o1 o2:ad}(h:Own H o1 o2)(t:TK H H'):Own H' o1 o2:=⟨t.held h.1,t.held h.2⟩
inductive spDeny(C o1 o2:ad)(vs:List V)(H:Hp)(Q:VK)(E:XK):Prop
 | mk (n:Nat) (A:CA) (c:Cs) (K:Cl) (v:V) (_:vs=[.ref A.o,v]) (_:CsAt C n A c H) (_:n<=840) (_:Own H o1 o2) (_:Held H K.toD v) (_:∀H',Mv A H H'->CsAt C (n+10) A (c.deny K) H'->Q .non H')
inductive spTake(C:ad)(vs:List V)(H:Hp)(Q:VK)(E:XK):Prop
 | mk (n:Nat) (A:CA) (c:Cs) (i:Nat) (R:Rw) (v:V) (_:vs=[.ref A.o,.int (i:Nat),v]) (_:CsAt C n A c H) (_:n<=840) (_:Held H R.toD v) (_:∀H',Mv A H H'->CsAt C (n+8) A (c.take i R) H'->Q .non H')
theorem Zg(v:D)(way:Str)(b:P2)(k:Int)(s:P2):∃x y c,qw v way b k s=.tup [x,y,.int c]:=by
 unfold qw;split <;> exact⟨_,_,_,rfl⟩
section
variable {P:aE}{w:aB}{K:aw}{mg:Str->Option ag}{base:ar}{o1 o2:ad}
theorem jg3(T:ClsC K C)(G1:mg "OWN_PLACE" = some (.ref o1))(G2:mg "OTHER_OWN_PLACE" = some (.ref o2))(F:Fun K "deny" "deny" jcy f fd)(At:Fn P w K mg base 1 "turned" ["least"] spTurned)(oq:Fn P w K mg base 4 "least_tie" ["case","least"] (spLeastT C))(fx:Fn P w K mg base 2 "spot_of" ["case","place"] (spSpot C))(oy:Fn P w K mg base 2 "body_of" ["case","claim"] (spBodyO C))(ow:Fn P w K mg base 2 "body_tie" ["body","spot"] spBodyT)(bQ:Fn P w K mg base 1 "at_most" ["one","other"] spAtM)(As:Fn P w K mg base 1 "turned_tie" ["tie"] spTurnT)(eC:Fn P w K mg base 1 "version_of" ["case","r"] (spVer C))(cR:Fn P w K mg base 1 "more_than" ["stood_for","d"] spMore)(cJ:Fn P w K mg base 1 "entry_of" ["version","spot"] spEnt):FnOk P w K mg base CX0 5 f fd ["case","goal"] (spDeny C o1 o2):=by
 have sc:FnScope ["case","goal","t","u","first","said","second","version","less"] ["case","goal"] (jm jcy):=fQ;refine F.okZ sc (fun ax A outer s H vs Q E hr h=>?_);obtain⟨n,B,c,k,v,rfl,I,hn,ho,hv,q⟩:=h;refine⟨_,(jd (jN (jD ku (jr jw (zpv 1) je (fun _ _=>rfl)) jq (jI _)) (jd (jA (km cH dG dF j0 (jY (zpv 0) rfl) (ja (jg oq hr (ja (zpv 0) (ja (jg At hr (ja (zpv 1) jb)) jb))) jb)))
   (ji zy)) jL)
   (jd (jcl (i:=2) (j:=3) rfl sc.nd rfl rfl (by decide) rfl rfl (ja (jg fx hr (ja (zpv 0) (ja (jr jw (zpv 1) je (fun _ _=>rfl)) jb))) (ja (jg fx hr (ja (zpv 0) (ja (jr jw (zpv 1) je (fun _ _=>rfl)) jb))) jb)) rfl)
   (jd (jy (i:=4) sc.nd rfl oQ (jaE (v:=.ref o1) (by rfl) G1 rfl))
   (jd (jN (jD ku (jr jw (zpv 1) je (fun _ _=>rfl)) jq (jI _)) (jd (jy (i:=5) sc.nd rfl oQ (jg ow hr (ja (jg oy hr (ja (zpv 0) (ja (zpv 1) jb))) (ja (zpv 4) jb))))
   (jd (jA (km cH dG dF j0 (jY (zpv 0) rfl) (ja (zpv 4) jb)))
   (jd (jA (km cH iV iU qa (jY (zpv 0) rfl) (ja (jG (ja (jg bQ hr (ja (zpv 2) (ja (zpv 4) jb))) (ja (jg bQ hr (ja (zpv 4) (ja (zpv 3) jb))) (ja (jg As hr (ja (zpv 5) jb)) jb)))) jb)))
   (ji zy)))) jL)
   (jd (jy (i:=6) sc.nd rfl oQ (jaE (v:=.ref o2) (by rfl) G2 rfl))
   (jd (jy (i:=7) sc.nd rfl oQ (jg eC hr (ja (zpv 0) (ja (jr jw (zpv 1) je (fun _ _=>rfl)) jb))))
   (jd (jy (i:=8) sc.nd rfl oQ (jg bQ hr (ja (jg cR hr (ja (jg cJ hr (ja (zpv 7) (ja (zpv 6) jb))) (ja je jb))) (ja (jg cJ hr (ja (zpv 7) (ja (zpv 4) jb))) jb))))
   (jd (jA (km cH iV iU qa (jY (zpv 0) rfl) (ja (jG (ja (zpv 4) (ja (zpv 6) jb))) jb)))
   (ji (jA (km cH iV iU qa (jY (zpv 0) rfl) (ja (jG (ja (jg bQ hr (ja (zpv 2) (ja (zpv 4) jb))) (ja (jg bQ hr (ja (zpv 4) (ja (zpv 6) jb))) (ja (jg bQ hr (ja (zpv 6) (ja (zpv 3) jb))) (ja (zpv 8) jb))))) jb)))))))))))),?_⟩
 refine jH (σ':=[some (.ref B.o),some v,none,none,none,none,none,none,none]) rfl ?_
 try dsimp only[kx]
 refine jcJ ?_;intro r8 r7 r6 r5 r4 r3 r2 r1;rcases k with⟨a,b,k⟩ | ⟨x,d,y,e,r,way,b,k⟩ | ⟨x,d,y,e,r⟩
 .obtain⟨t,va,vb,rfl,ht,_,_⟩:=zv hv
  refine⟨_,rfl,t,_,_,_,rfl,rfl,SqT.of ht,jh (j:=0) rfl,rfl,_,rfl,kR ?_⟩;obtain⟨xs,l1,_,_⟩:=I.l 1 (by decide);refine⟨_,rfl,B.o,C,B.dx,_,_,rfl,I.o,T.c,T.n5,rfl,.inl ⟨rfl,_,SqL.of l1⟩,_,rfl,_,rfl,_,a,b,k,rfl,hv,fun u H1 s1 hu=>⟨n,B,c,b,a,1 - k,u,rfl,I.same s1,by omega,hu,fun y H2 m2 I2 hy=>?_⟩⟩;obtain⟨ys,l2,_,l3⟩:=I2.l 1 (by decide);obtain⟨m3,I3⟩:=I2.app1 (i:=1) (by decide) hy l2;exact⟨B.l 1,ys,y,rfl,rfl,l2,qj (by omega),q _ ((Mv.same s1).trans (m2.trans m3)) (I3.mono (by omega))⟩
 .obtain⟨t,va,vb,vc,rfl,ht,ha,hb,hc⟩:=yt hv
  refine⟨_,rfl,t,_,_,_,rfl,rfl,SqT.of ht,jh (j:=0) rfl,rfl,_,rfl,kA ?_⟩;refine⟨_,rfl,_,rfl,t,_,_,_,rfl,rfl,SqT.of ht,jh (j:=1) rfl,n,B,c,x,d,_,rfl,I,kS ha,fun sp H1 s1 aY=>?_⟩;refine⟨_,rfl,_,rfl,t,_,_,_,rfl,rfl,SqT.of (s1 _ _ ht),jh (j:=2) rfl,n,B,c,y,e,_,rfl,I.same s1,kS (s1 _ _ hb),fun su H2 s2 eO=>⟨sp,su,rfl,?_⟩⟩;refine gQ ?_;have s3:=s1.trans s2;have I2:=I.same s3;have dM:=aY.mono s2;have fq:=ho.tk (.same s3);show jU (ZS (tC (V.ref o1)) (qq 4)) r3 _ _ _;refine gQ ?_;refine⟨_,rfl,t,_,_,_,rfl,rfl,SqT.of (s3 _ _ ht),jh (j:=0) rfl,rfl,_,rfl,kR ?_⟩;refine⟨_,rfl,_,rfl,n,B,c,x,y,d,e,r,way,b,k,_,rfl,I2,by omega,hv.mono s3,fun bo H4 m4 I4 dh=>⟨_,rfl,c,r,way,b,k,jV 0,bo,.ref o1,rfl,dh,(fq.tk (I2.tk m4)).1,fun sa H5 s5 xq=>?_⟩⟩;refine gQ ?_;have I5:=I4.same s5;have t5:=(I2.tk m4).trans (TK.same s5);have tE:=fq.tk t5;obtain⟨xs,l1,_,l3⟩:=I5.l 2 (by decide);refine⟨_,rfl,B.o,C,B.dx,_,_,rfl,I5.o,T.c,T.n6,rfl,.inl ⟨rfl,_,SqL.of l1⟩,_,rfl,B.l 2,xs,_,rfl,rfl,l1,qj (by omega),?_⟩;obtain⟨m6,I6⟩:=I5.app1 (i:=2) (by decide) tE.1 l1;have t6:=t5.trans (I5.tk m6);have C7:=(I5.tk m6).held xq;generalize upd H5 (B.l 2) _=H6 at *;have my:=fq.tk t6;obtain⟨x',y',c',et⟩:=Zg (c.ver r) way (c.bnd b (jV 0)) k (jV 0);rw[et]at C7;obtain⟨zs,l4,_,l6⟩:=I6.l 1 (by decide);refine⟨_,rfl,B.o,C,B.dx,_,_,rfl,I6.o,T.c,T.n5,rfl,.inl ⟨rfl,_,SqL.of l4⟩,_,rfl,_,rfl,sp,_,_,_,rfl,t6.held dM,my.1,fun a1 G1 g1 h1=>⟨_,rfl,_,rfl,_,su,_,_,rfl,(my.tk (.same g1)).1,(t6.held eO).mono g1,fun a2 G2 g2 h2=>⟨_,rfl,sa,x',y',c',rfl,C7.mono (g1.trans g2),fun a3 G3 g3 h3=>⟨sm rfl,fun l hl=>?_⟩⟩⟩⟩;have g4:=jj hl (.lst [a1,a2,a3]);have g:=(g1.trans g2).trans (g3.trans g4);have I7:=I6.same g;refine⟨B.l 1,l,zs,_,rfl,rfl,g _ _ l4,jf,Yv (by show zs.length+3<=1000;omega),?_⟩;obtain⟨m8,I8⟩:=I7.app (i:=1) (by decide) (jc (h1.mono (g2.trans (g3.trans g4))) (jc (h2.mono (g3.trans g4)) (jc (h3.mono g4) jl))) (g _ _ l4);refine q _ (((Mv.same s3).trans (m4.trans (.same s5))).trans (m6.trans ((Mv.same g).trans m8))) ?_;have e9:KO (qw (c.ver r) way (c.bnd b (jV 0)) k (jV 0))=.tup [y',x',.int (-1 - c')]:=by rw[et];rfl
  show CsAt C (n+10) B (((c.body r way b k).2.add 2 [p2 (jV 0)]).add 1 [kT (c.spot x d) (jV 0),kT (jV 0) (c.spot y e),KO (qw (c.ver r) way (c.bnd b (jV 0)) k (jV 0))]) _;rw[e9];exact I8.mono (by show n+2+1+3<=n+10;omega)
 .obtain⟨t,va,vb,rfl,ht,ha,hb⟩:=J7 hv
  refine⟨_,rfl,t,_,_,_,rfl,rfl,SqT.of ht,jh (j:=0) rfl,rfl,_,rfl,kA ?_⟩;refine⟨_,rfl,_,rfl,t,_,_,_,rfl,rfl,SqT.of ht,jh (j:=1) rfl,n,B,c,x,d,_,rfl,I,kS ha,fun sp H1 s1 aY=>?_⟩;refine⟨_,rfl,_,rfl,t,_,_,_,rfl,rfl,SqT.of (s1 _ _ ht),jh (j:=2) rfl,n,B,c,y,e,_,rfl,I.same s1,kS (s1 _ _ hb),fun su H2 s2 eO=>⟨sp,su,rfl,?_⟩⟩;refine gQ ?_;have s3:=s1.trans s2;have I2:=I.same s3;have dM:=aY.mono s2;have fq:=ho.tk (.same s3);show jU (ZS (tC (V.ref o1)) (qq 4)) r3 _ _ _;refine gQ ?_;refine⟨_,rfl,t,_,_,_,rfl,rfl,SqT.of (s3 _ _ ht),jh (j:=0) rfl,rfl,_,rfl,kA ?_⟩;show jU (ZS (tC (V.ref o2)) (qq 6)) r5 _ _ _;refine gQ ?_;refine⟨_,rfl,_,rfl,t,_,_,_,rfl,rfl,SqT.of (s3 _ _ ht),jh (j:=3) rfl,n,B,c,r,rfl,I2,by omega,fun vv H4 m4 I4 sR=>?_⟩;refine gQ ?_;have t4:=I2.tk m4;have Df:=fq.tk t4;refine⟨_,rfl,_,rfl,vv,_,_,_,rfl,sR,Df.2,fun e1 G1 g1 h1=>⟨e1,1,_,rfl,h1,fun e2 G2 g2 h2=>⟨_,rfl,_,rfl,vv,_,_,_,rfl,sR.mono (g1.trans g2),(Df.tk (.same (g1.trans g2))).1,fun e3 G3 g3 h3=>⟨e2,e3,_,_,rfl,h2.mono g3,h3,fun le H5 g5 IX=>?_⟩⟩⟩⟩;refine gQ ?_;have gA:=((g1.trans g2).trans g3).trans g5;have I5:=I4.same gA;have t5:=t4.trans (TK.same gA);have tE:=fq.tk t5;obtain⟨xs,l1,_,l3⟩:=I5.l 2 (by decide);refine⟨_,rfl,B.o,C,B.dx,_,_,rfl,I5.o,T.c,T.n6,rfl,.inl ⟨rfl,_,SqL.of l1⟩,_,rfl,_,rfl,sm rfl,fun l hl=>?_⟩;have gl:=jj hl (.lst [.ref o1,.ref o2]);have uV:=I5.same gl;refine⟨B.l 2,l,xs,_,rfl,rfl,gl _ _ l1,jf,Yv (by show xs.length+2<=1000;omega),?_⟩;obtain⟨m6,I6⟩:=uV.app (i:=2) (by decide) (jc (tE.1.mono gl) (jc (tE.2.mono gl) jl)) (gl _ _ l1);have BK:=(TK.same gl).trans (uV.tk m6);have t6:=t5.trans BK;have IW:=BK.held IX;generalize upd (upd H5 l _) (B.l 2) _=H6 at *;have my:=fq.tk t6;obtain⟨zs,l4,_,l6⟩:=I6.l 1 (by decide);have l6:zs.length<=n+1+2:=l6;refine⟨_,rfl,B.o,C,B.dx,_,_,rfl,I6.o,T.c,T.n5,rfl,.inl ⟨rfl,_,SqL.of l4⟩,_,rfl,_,rfl,sp,_,_,_,rfl,t6.held dM,my.1,fun a1 G1 g1 h1=>⟨_,rfl,_,rfl,_,_,_,_,rfl,(my.tk (.same g1)).1,(my.tk (.same g1)).2,fun a2 G2 g2 h2=>⟨_,rfl,_,rfl,_,su,_,_,rfl,(my.tk (.same (g1.trans g2))).2,(t6.held eO).mono (g1.trans g2),fun a3 G3 g3 h3=>⟨_,rfl,sm rfl,fun p hp=>?_⟩⟩⟩⟩;have g4:=jj hp (.lst [a1,a2,a3,le]);have g:=(g1.trans g2).trans (g3.trans g4);have I7:=I6.same g;refine⟨B.l 1,p,zs,_,rfl,rfl,g _ _ l4,jf,Yv (by show zs.length+4<=1000;omega),?_⟩;obtain⟨m8,I8⟩:=I7.app (i:=1) (by decide) (jc (h1.mono (g2.trans (g3.trans g4))) (jc (h2.mono (g3.trans g4)) (jc (h3.mono g4) (jc (IW.mono g) jl)))) (g _ _ l4);exact q _ (((Mv.same s3).trans (m4.trans (.same gA))).trans (((Mv.same gl).trans m6).trans ((Mv.same g).trans m8))) (I8.mono (by show n+1+2+4<=n+10;omega))
theorem jgO(T:ClsC K C)(F:Fun K "take_row" "take_row" yi f fd)(cR:Fn P w K mg base 1 "more_than" ["stood_for","d"] spMore)(ij:Fn P w K mg base 3 "stands_for" ["case","term"] (spStand C))(Av:Fn P w K mg base 4 "take_put" ["case","n","row"] (spPut C))(AA:Fn P w K mg base 5 "know" ["case","claim"] (spKnow C)):FnOk P w K mg base CX0 6 f fd ["case","n","row"] (spTake C):=by
 have sc:FnScope ["case","n","row","kind"] ["case","n","row"] (jm yi):=fQ;refine F.okZ sc (fun ax A outer s H vs Q E hr h=>?_);have hu:(A.deeper (cA "take_row" (jm yi) s.heap.objs.size f ax)).units+1 < cLine:=by have:=hr.units;omega
 obtain⟨n,B,c,i,R,v,rfl,I,hn,hv,q⟩:=h;refine⟨_,(jd (jy (i:=3) sc.nd rfl oQ (jr jw (zpv 2) je (fun _ _=>rfl)))
   (ji (jN (jD ku (zpv 3) jq (jI _)) (ji (kC hu (jY (zpv 0) rfl) (jr jw (zpv 2) je (fun _ _=>rfl)) (jg cR hr (ja (jg ij hr (ja (zpv 0) (ja (jr jw (zpv 2) je (fun _ _=>rfl)) jb))) (ja (jr jw (zpv 2) je (fun _ _=>rfl)) jb))) rfl)) (ji (jN (jD ku (zpv 3) jq (jI _)) (ji (jA (jg Av hr (ja (zpv 0) (ja (zpv 1) (ja (zpv 2) jb)))))) (ji (jN (jD ku (zpv 3) jq (jI _)) (ji (kC hu (jY (zpv 0) rfl) (jr jw (zpv 2) je (fun _ _=>rfl)) (zpd (j9 (jt (j9 (jt qb (jt (kB 1) jR))) (jt zn jR)))) rfl)) (ji (jN (jD ku (zpv 3) jq (jI _)) (jd (kC hu (jY (zpv 0) rfl) (jr jw (zpv 2) je (fun _ _=>rfl)) yB rfl)
   (jd (kC hu (jY (zpv 0) rfl) (jr jw (zpv 2) je (fun _ _=>rfl)) (zpd (j9 (jt qb (jt (kB 1) jR)))) rfl)
   (ji (jA (km cH dG dF j0 (jY (zpv 0) rfl) (ja (zpd (j9 (jt qb (jt (kB 1) jR)))) jb)))))) (ji (jA (jg AA hr (ja (zpv 0) (ja (jr jw (zpv 2) je (fun _ _=>rfl)) jb)))))))))))))),?_⟩
 refine jH (σ':=[some (.ref B.o),some (.int i),some v,none]) rfl ?_;rcases R with⟨x,tm,k⟩ | ⟨r,x,d,tm,k⟩ | ⟨x⟩ | ⟨r⟩ | ⟨K⟩
 .obtain⟨t,y0,y1,y2,y3,rfl,ht,h0,h1,h2,h3⟩:=zJ hv
  cases jx h0
  cases jx h1
  cases kg h3
  refine⟨_,rfl,t,_,_,_,rfl,rfl,SqT.of ht,jh (j:=0) rfl,?_⟩;refine jH (σ':=[some (.ref B.o),some (.int i),some (.ref t),some (.str "set")]) rfl ?_;refine⟨_,rfl,rfl,_,rfl,kR ?_⟩;refine⟨_,rfl,_,rfl,t,_,_,_,rfl,rfl,SqT.of ht,jh (j:=2) rfl,n,B,c,tm,y2,rfl,I,by omega,h2,fun y H1 m1 I1 hy=>?_⟩;have nS:=I.tk m1 _ _ ht;refine⟨_,rfl,t,_,_,_,rfl,rfl,SqT.of nS,jh (j:=3) rfl,y,k,_,rfl,hy,fun z H2 s2 hz=>?_⟩;have I2:=I1.same s2;obtain⟨kvs,k1,k2,_⟩:=I2.nu;refine⟨_,rfl,B.o,C,B.dx,_,_,rfl,I2.o,T.c,T.n1,rfl,_,rfl,t,_,_,_,rfl,rfl,SqT.of (s2 _ _ nS),jh (j:=1) rfl,B.nu,_,rfl,.k (k:=.inr x) k1 (qj (by omega)),?_⟩;obtain⟨m3,I3⟩:=I2.setn (x:=x) hz k1;exact q _ (m1.trans ((Mv.same s2).trans m3)) (I3.mono (by omega))
 .obtain⟨t,y0,y1,y2,y3,y4,rfl,ht,h0,_⟩:=Kk hv
  cases jx h0
  refine⟨_,rfl,t,_,_,_,rfl,rfl,SqT.of ht,jh (j:=0) rfl,?_⟩;refine jH (σ':=[some (.ref B.o),some (.int i),some (.ref t),some (.str "put")]) rfl ?_;refine⟨_,rfl,rfl,_,rfl,kA ?_⟩;refine⟨_,rfl,rfl,_,rfl,kR ?_⟩;exact⟨_,rfl,_,rfl,_,rfl,n,B,c,i,r,x,d,tm,k,_,rfl,I,hn,hv,fun H1 m1 I1=>q H1 m1 I1⟩
 .obtain⟨t,y0,y1,rfl,ht,h0,h1⟩:=qI hv
  cases jx h0
  cases jx h1
  refine⟨_,rfl,t,_,_,_,rfl,rfl,SqT.of ht,jh (j:=0) rfl,?_⟩;refine jH (σ':=[some (.ref B.o),some (.int i),some (.ref t),some (.str "any")]) rfl ?_;refine⟨_,rfl,rfl,_,rfl,kA ?_⟩;refine⟨_,rfl,rfl,_,rfl,kA ?_⟩;refine⟨_,rfl,rfl,_,rfl,kR ?_⟩;refine⟨p2 (jcC i),⟨_,rfl,bw rfl,_,_,rfl,⟨_,rfl,bw rfl,_,_,rfl,rfl,_,_,rfl,⟨_,rfl,jP⟩,rfl⟩,_,_,rfl,rfl,rfl⟩,fun z H2 s2 hz=>?_⟩;have I2:=I.same s2;obtain⟨kvs,k1,k2,_⟩:=I2.nu;refine⟨_,rfl,B.o,C,B.dx,_,_,rfl,I2.o,T.c,T.n1,rfl,_,rfl,t,_,_,_,rfl,rfl,SqT.of (s2 _ _ ht),jh (j:=1) rfl,B.nu,_,rfl,.k (k:=.inr x) k1 (qj (by omega)),?_⟩;obtain⟨m3,I3⟩:=I2.setn (x:=x) hz k1;exact q _ ((Mv.same s2).trans m3) (I3.mono (by omega))
 .obtain⟨t,y0,y1,rfl,ht,h0,h1⟩:=qI hv
  cases jx h0
  cases jx h1
  refine⟨_,rfl,t,_,_,_,rfl,rfl,SqT.of ht,jh (j:=0) rfl,?_⟩;refine jH (σ':=[some (.ref B.o),some (.int i),some (.ref t),some (.str "lose")]) rfl ?_;refine⟨_,rfl,rfl,_,rfl,kA ?_⟩;refine⟨_,rfl,rfl,_,rfl,kA ?_⟩;refine⟨_,rfl,rfl,_,rfl,kA ?_⟩;refine⟨_,rfl,rfl,_,rfl,kR ?_⟩;obtain⟨ks,j1,j2,_⟩:=I.na;refine⟨_,rfl,B.o,C,B.dx,_,_,rfl,I.o,T.c,T.n3,rfl,_,rfl,t,_,_,_,rfl,rfl,SqT.of ht,jh (j:=1) rfl,B.na,_,rfl,.k (k:=.inr r) j1 (qj (by omega)),?_⟩;obtain⟨m1,I1⟩:=I.named (r:=r) (v:=.bl true) j1;have nS:=I.tk m1 _ _ ht;generalize upd H B.na _=H1 at *;refine⟨Kg i,⟨_,rfl,bw rfl,_,_,rfl,rfl,_,_,rfl,⟨_,rfl,jP⟩,rfl⟩,fun z H2 s2 hz=>?_⟩;have I2:=I1.same s2;obtain⟨kvs,k1,k2,_⟩:=I2.ve;refine⟨_,rfl,B.o,C,B.dx,_,_,rfl,I2.o,T.c,T.n2,rfl,_,rfl,t,_,_,_,rfl,rfl,SqT.of (s2 _ _ nS),jh (j:=1) rfl,B.ve,_,rfl,.k (k:=.inr r) k1 (qj (by omega)),?_⟩;obtain⟨m3,I3⟩:=I2.setv (r:=r) hz k1;generalize upd H2 B.ve _=H3 at *;obtain⟨xs,l1,_,l3⟩:=I3.l 0 (by decide);refine⟨_,rfl,B.o,C,B.dx,_,_,rfl,I3.o,T.c,T.n4,rfl,.inl ⟨rfl,_,SqL.of l1⟩,Kg i,⟨_,rfl,bw rfl,_,_,rfl,rfl,_,_,rfl,⟨_,rfl,jP⟩,rfl⟩,fun u H4 s4 HY=>⟨B.l 0,xs,u,rfl,rfl,s4 _ _ l1,qj (by omega),?_⟩⟩;obtain⟨m5,I5⟩:=(I3.same s4).app1 (i:=0) (by decide) HY (s4 _ _ l1);exact q _ ((m1.trans ((Mv.same s2).trans m3)).trans ((Mv.same s4).trans m5)) (I5.mono (by omega))
 .obtain⟨t,y0,y1,rfl,ht,h0,h1⟩:=qI hv
  cases jx h0
  refine⟨_,rfl,t,_,_,_,rfl,rfl,SqT.of ht,jh (j:=0) rfl,?_⟩;refine jH (σ':=[some (.ref B.o),some (.int i),some (.ref t),some (.str "know")]) rfl ?_;refine⟨_,rfl,rfl,_,rfl,kA ?_⟩;refine⟨_,rfl,rfl,_,rfl,kA ?_⟩;refine⟨_,rfl,rfl,_,rfl,kA ?_⟩;refine⟨_,rfl,rfl,_,rfl,kA ?_⟩;exact⟨_,rfl,_,rfl,t,_,_,_,rfl,rfl,SqT.of ht,jh (j:=1) rfl,n,B,c,K,y1,rfl,I,hn,h1,fun H1 m1 I1=>q H1 m1 I1⟩
end
end LW
namespace L2
open PySem PySem.Spec PyProof.Rows PySem.W
variable {n:Nat}
section
variable {prog:aE}{w:aB}{A:aS}{E:ag->ai->Prop}{s:ai}
theorem Y0{l:ad}{vs:List ag}{ds:List D}{Q:ag->ai->Prop}(hl:s.heap.IsList l vs.toArray)(hI:TrAtL s.heap ds vs)(hS:SortT ds n)(hA:A.units+3+n < cLine)(most:vs.length<=aI)
  (h:∀(out:Array ag) (ms:List D),out.toList.Perm vs->TrAtL s.heap ms out.toList->ms.Perm ds->ms.Pairwise (fun a b=>dLt b a=false)->Q (.ref (s.heap.objs.size+1)) { s with heap:=sortedAll s.heap vs out }) :
  au (ao prog w) A (call (.builtin "sorted") [.ref l]) Q E s:=by
 refine OQ kind_sorted plain_sorted entry_sorted (args_sorted1 _) ?_
 unfold Builtin.«sorted»
 refine aq (m:=checkCount "sorted" 1 1 _) (aH ?_)
 refine aq (collect_list hl ?_)
 refine aq (AN ?_ (by show vs.length<=_;exact most))
 have hsz:((s.heap.push (cm "list" #[] 0)).update s.heap.objs.size (fg (·++vs.toArray))).objs.size=s.heap.objs.size+1:=by
  rw[Fj,Bi]
 have lx:(((s.heap.push (cm "list" #[] 0)).update s.heap.objs.size (fg (·++vs.toArray))).push (cm "list" vs.toArray 0)).get? (s.heap.objs.size+1)=some (cm "list" vs.toArray 0):=by
  rw[<- hsz];exact dg _ rfl
 have kt:∀b xs,s.heap.IsTuple b xs->(((s.heap.push (cm "list" #[] 0)).update s.heap.objs.size (fg (·++vs.toArray))).push (cm "list" vs.toArray 0)).IsTuple b xs:=fun b xs ⟨o,z1,z2⟩=>⟨o,by
  refine b_ _ ?_;rw[Fk _ _ (lS (bH z1))];exact b_ _ z1,z2⟩
 show au _ _ _ _ _ { s with heap:=((s.heap.push (cm "list" #[] 0)).update s.heap.objs.size (fg (·++vs.toArray))).push (cm "list" vs.toArray 0) }
 rw[hsz]
 refine aq (oC (rG slot_list_sort ⟨_,lx,rfl⟩ entry_list_sort (KQ (n:=n) lx (hI.kept kt) hS (by show A.units+1+1+n < cLine;omega) most fun out ms a0 a1 a2 a3=>⟨_,rfl,?_⟩) (args_list_sort _)))
 have hk:TrAtL s.heap ms out.toList:=by
  obtain⟨Ci,b1,b2⟩:=Yq a0 hI;have:=trL_inj (b1.kept kt) a1;rw[<- this];exact b1
 exact aH ⟨_,rfl,h out ms a0 hk a2 a3⟩
end
theorem qK:11000000<=aI:=by rw[gM];decide
theorem kc(h:n<=11000000):n < aI:=rQ h (by rw[gM];decide)
theorem Kq{X:Cx}(hu:X.A.units+3+n < cLine):zp X (.builtin "sorted") (fun xs H Q=>∃(p:ad) (ps:List (D×ad)),xs=[.ref p]/\H p=some (.lst ((ps.map (·.2)).map V.ref))/\(∀q∈ps,Held H q.1 (.ref q.2))/\SortT (ps.map (·.1)) n/\ps.length<=11000000/\
  ∀(l:ad) (qs:List (D×ad)),H l=none->qs.Perm ps->(qs.map (·.1)).Pairwise (fun a b=>dLt b a=false)->Q (.ref l) (upd H l (.lst ((qs.map (·.2)).map V.ref)))):=by
 intro ae s σ H xs us Q I r h
 obtain⟨p,ps,rfl,hp,hk,hS,most,q⟩:=h
 obtain⟨u,rfl,rx⟩:=yU r
 cases rx
 obtain⟨its,rv,pl,hz⟩:=I.list (SqL.of (K:=X.K) hp)
 obtain rfl:=Kv rv
 have hT:∀q∈ps,TrAt s.heap q.1 (.ref q.2):=fun q hq=>Ki I (u:=.ref q.2) (hk q hq) rfl
 have hI:TrAtL s.heap (ps.map (·.1)) ((ps.map (·.2)).map Value.ref):=by
  rw[fM];exact Yr hT
 refine Y0 pl.isList hI hS hu (by rw[az,az];exact aJ most qK) fun out ms a0 a1 a2 a3=>?_
 rw[fM]at a0
 obtain⟨qs,q1,q2⟩:=Zn (f:=fun p:D×ad=>Value.ref p.2) a0.symm rfl
 have em:ms=qs.map (·.1):=trL_inj a1 (by
  have:=Yr (qs:=qs) fun q hq=>hT q (q1.mem_iff.mp hq)
  rw[q2]at this;exact this)
 rw[em]at a3
 obtain⟨e,he⟩:=sortedAll_at s.heap ((ps.map (·.2)).map Value.ref) out
 refine⟨.ref (s.heap.objs.size+1),_,I.laid (t':=s.toks) (fun b o=>sortedAll_old) (dw _) (show ObjOk X.prog X.w _ _ _ (.lst ((qs.map (·.2)).map V.ref)) from⟨?_,out.toList,e,?_,?_⟩),rfl,q _ qs (I.hok.fresh (dw _)) q1 a3⟩
 .rw[az,az,q1.length_eq]
  exact aJ most qK
 .rw[<- q2,show qs.map (fun p:D×ad=>Value.ref p.2)=(qs.map (·.2)).map Value.ref by rw[fM];rfl]
  exact KA _
 .rw[Qp]
  exact he
end L2
namespace LW
open PySem L2
abbrev qv:aF:=jhi (top 7) 0
abbrev qQ:aF:=top 9
abbrev Jn:aF:=top 10
structure Ini(H:Hp)(b C dx:ad)(fs:List (Str×V))(os:List (Prod ad HO))(G:Hp):Prop where
 hb:G b=some (.ins C dx fs)
 k:∀a o,a≠b->H a=some o->G a=some o
 o:∀p∈os,G p.1=some p.2/\H p.1=none
 ne:∀p∈os,p.1≠b
 nd:(os.map (·.1)).Nodup
 f:∀a,G a=none->H a=none
theorem Ini.step{H:Hp}{b C dx:ad}{fs:List (Str×V)}{os:List (Prod ad HO)}{G:Hp}(I:Ini H b C dx fs os G){p:ad}(hp:G p=none)(o:HO)(tV:List (Str×V)):Ini H b C dx tV (os++[(p,o)]) (upd (upd G p o) b (.ins C dx tV)):=by
 have pb:p≠b:=(jp I.hb hp).symm;refine⟨jf,fun a u iH ha=>?_,fun q hq=>?_,fun q hq=>?_,?_,fun a ha=>?_⟩
 .rw[jB iH,jB (jp (I.k a u iH ha) hp)]
  exact I.k a u iH ha
 .rcases bK.mp hq with hq | hq
  .obtain⟨h1,h2⟩:=I.o q hq
   exact⟨by rw[jB (I.ne q hq),jB (jp h1 hp)];exact h1,h2⟩
  .cases aN.mp hq
   exact⟨by rw[jB pb,jf],I.f _ hp⟩
 .rcases bK.mp hq with hq | hq
  .exact I.ne q hq
  .cases aN.mp hq
   exact pb
 .rw[aX,vt]
  refine⟨I.nd,by simp,fun x hx y hy=>?_⟩
  cases aN.mp hy
  obtain⟨q,q1,rfl⟩:=bq.mp hx;exact jp (I.o q q1).1 hp
 .by_cases z:a=b
  .rw[z,jf]at ha;cases ha
  .rw[jB z]at ha
   by_cases y:a=p
   .rw[y];exact I.f _ hp
   .rw[jB y]at ha;exact I.f _ ha
theorem jhl{l:List ad}{i:Nat}{d:ad}(h:i < l.length):l.getD i d∈l:=by
 rw[lX,aK h];exact cT h
theorem jg7{l:List ad}{i j:Nat}{d:ad}(n:l.Nodup)(hi:i < l.length)(hj:j < l.length)(e:l.getD i d=l.getD j d):i=j:=by
 rw[lX,aK hi,lX,aK hj]at e;exact (P1 n).mp e
def jj1(A:CA)(H:Hp):Prop:=H A.nu=none/\H A.ve=none/\H A.na=none/\∀i,i < 6->H (A.l i)=none
inductive spCase(C:ad)(vs:List V)(H:Hp)(Q:VK)(E:XK):Prop
 | mk (b dx:ad) (_:vs=[.ref b]) (_:H b=some (.ins C dx [])) (_:∀A H',A.o=b->(∀a o,a≠b->H a=some o->H' a=some o)->jj1 A H->CsAt C 0 A Cs.none H'->Q .non H')
section
variable {P:aE}{w:aB}{K:aw}{mg:Str->Option ag}{base:ar}{C:ad}
theorem jg5{f:ad}{fd:aL}(T:ClsC K C)(F:Fun K "__init__" "Case.__init__" qv f fd):FnOk P w K mg base CX0 1 f fd ["self"] (spCase C):=by
 have sc:FnScope ["self"] ["self"] (jm qv):=fQ;refine F.okZ sc (fun ax A outer s H vs Q E hr h=>?_);obtain⟨b,dx,rfl,hb,q⟩:=h;refine⟨_,(jd (qT (zpv 0) k9 rfl)
   (jd (qT (zpv 0) k9 rfl)
   (jd (qT (zpv 0) k9 rfl)
   (jd (qT (zpv 0) (jG jb) rfl)
   (jd (qT (zpv 0) (jG jb) rfl)
   (jd (qT (zpv 0) (jG jb) rfl)
   (jd (qT (zpv 0) (jG jb) rfl)
   (jd (qT (zpv 0) (jG jb) rfl)
   (ji (qT (zpv 0) (jG jb) rfl)))))))))),?_⟩
 refine jH (σ':=[some (.ref b)]) rfl ?_
 try dsimp only[kx]
 refine jcJ ?_;intro _ _ _ _ _ _ _ _;have I0:Ini H b C dx [] [] H:=⟨hb,fun _ _ _ e=>e,fun _ h=>(nomatch h),fun _ h=>(nomatch h),oS,fun _ e=>e⟩
 refine fun p1 h1=>⟨_,rfl,b,C,dx,_,rfl,jk (jp I0.hb h1) I0.hb,T.c,T.n1,by show 0 < 1000;decide,?_⟩
 have I1:=I0.step h1 (.dK []) [("numbers",.ref p1)];refine (?_:jU _ _ _ _ (upd (upd H p1 (.dK [])) b (.ins C dx [("numbers",.ref p1)])));generalize upd (upd H p1 (.dK [])) b (.ins C dx [("numbers",.ref p1)])=G1 at *;refine fun p2 h2=>⟨_,rfl,b,C,dx,_,rfl,jk (jp I1.hb h2) I1.hb,T.c,T.n2,by show 1 < 1000;decide,?_⟩
 have I2:=I1.step h2 (.dK []) [("numbers",.ref p1),("versions",.ref p2)];refine (?_:jU _ _ _ _ (upd (upd G1 p2 (.dK [])) b (.ins C dx [("numbers",.ref p1),("versions",.ref p2)])));generalize upd (upd G1 p2 (.dK [])) b (.ins C dx [("numbers",.ref p1),("versions",.ref p2)])=G2 at *;refine fun p3 h3=>⟨_,rfl,b,C,dx,_,rfl,jk (jp I2.hb h3) I2.hb,T.c,T.n3,by show 2 < 1000;decide,?_⟩
 have I3:=I2.step h3 (.dK []) [("numbers",.ref p1),("versions",.ref p2),("named",.ref p3)];refine (?_:jU _ _ _ _ (upd (upd G2 p3 (.dK [])) b (.ins C dx [("numbers",.ref p1),("versions",.ref p2),("named",.ref p3)])));generalize upd (upd G2 p3 (.dK [])) b (.ins C dx [("numbers",.ref p1),("versions",.ref p2),("named",.ref p3)])=G3 at *;refine⟨sm rfl,fun p4 h4=>⟨_,rfl,b,C,dx,_,rfl,jk (jp I3.hb h4) I3.hb,T.c,T.n4,by show 3 < 1000;decide,?_⟩⟩;have I4:=I3.step h4 (.lst []) [("numbers",.ref p1),("versions",.ref p2),("named",.ref p3),("lost",.ref p4)];refine (?_:jU _ _ _ _ (upd (upd G3 p4 (.lst [])) b (.ins C dx [("numbers",.ref p1),("versions",.ref p2),("named",.ref p3),("lost",.ref p4)])));generalize upd (upd G3 p4 (.lst [])) b (.ins C dx [("numbers",.ref p1),("versions",.ref p2),("named",.ref p3),("lost",.ref p4)])=G4 at *;refine⟨sm rfl,fun p5 h5=>⟨_,rfl,b,C,dx,_,rfl,jk (jp I4.hb h5) I4.hb,T.c,T.n5,by show 4 < 1000;decide,?_⟩⟩;have I5:=I4.step h5 (.lst []) [("numbers",.ref p1),("versions",.ref p2),("named",.ref p3),("lost",.ref p4),("ties",.ref p5)];refine (?_:jU _ _ _ _ (upd (upd G4 p5 (.lst [])) b (.ins C dx [("numbers",.ref p1),("versions",.ref p2),("named",.ref p3),("lost",.ref p4),("ties",.ref p5)])));generalize upd (upd G4 p5 (.lst [])) b (.ins C dx [("numbers",.ref p1),("versions",.ref p2),("named",.ref p3),("lost",.ref p4),("ties",.ref p5)])=G5 at *;refine⟨sm rfl,fun p6 h6=>⟨_,rfl,b,C,dx,_,rfl,jk (jp I5.hb h6) I5.hb,T.c,T.n6,by show 5 < 1000;decide,?_⟩⟩;have I6:=I5.step h6 (.lst []) [("numbers",.ref p1),("versions",.ref p2),("named",.ref p3),("lost",.ref p4),("ties",.ref p5),("spots",.ref p6)];refine (?_:jU _ _ _ _ (upd (upd G5 p6 (.lst [])) b (.ins C dx [("numbers",.ref p1),("versions",.ref p2),("named",.ref p3),("lost",.ref p4),("ties",.ref p5),("spots",.ref p6)])));generalize upd (upd G5 p6 (.lst [])) b (.ins C dx [("numbers",.ref p1),("versions",.ref p2),("named",.ref p3),("lost",.ref p4),("ties",.ref p5),("spots",.ref p6)])=G6 at *;refine⟨sm rfl,fun p7 h7=>⟨_,rfl,b,C,dx,_,rfl,jk (jp I6.hb h7) I6.hb,T.c,T.n7,by show 6 < 1000;decide,?_⟩⟩;have I7:=I6.step h7 (.lst []) [("numbers",.ref p1),("versions",.ref p2),("named",.ref p3),("lost",.ref p4),("ties",.ref p5),("spots",.ref p6),("puts",.ref p7)];refine (?_:jU _ _ _ _ (upd (upd G6 p7 (.lst [])) b (.ins C dx [("numbers",.ref p1),("versions",.ref p2),("named",.ref p3),("lost",.ref p4),("ties",.ref p5),("spots",.ref p6),("puts",.ref p7)])));generalize upd (upd G6 p7 (.lst [])) b (.ins C dx [("numbers",.ref p1),("versions",.ref p2),("named",.ref p3),("lost",.ref p4),("ties",.ref p5),("spots",.ref p6),("puts",.ref p7)])=G7 at *;refine⟨sm rfl,fun p8 h8=>⟨_,rfl,b,C,dx,_,rfl,jk (jp I7.hb h8) I7.hb,T.c,T.n8,by show 7 < 1000;decide,?_⟩⟩;have I8:=I7.step h8 (.lst []) [("numbers",.ref p1),("versions",.ref p2),("named",.ref p3),("lost",.ref p4),("ties",.ref p5),("spots",.ref p6),("puts",.ref p7),("eaches",.ref p8)];rw[show yG "eaches" (V.ref p8) [("numbers",V.ref p1),("versions",V.ref p2),("named",V.ref p3),("lost",V.ref p4),("ties",V.ref p5),("spots",V.ref p6),("puts",V.ref p7)]=([("numbers",V.ref p1),("versions",V.ref p2),("named",V.ref p3),("lost",V.ref p4),("ties",V.ref p5),("spots",V.ref p6),("puts",V.ref p7),("eaches",V.ref p8)]:List (Str×V)) from rfl];generalize upd (upd G7 p8 (.lst [])) b (.ins C dx [("numbers",.ref p1),("versions",.ref p2),("named",.ref p3),("lost",.ref p4),("ties",.ref p5),("spots",.ref p6),("puts",.ref p7),("eaches",.ref p8)])=G8 at *;refine⟨sm rfl,fun p9 h9=>⟨_,rfl,b,C,dx,_,rfl,jk (jp I8.hb h9) I8.hb,T.c,T.n9,by show 8 < 1000;decide,?_⟩⟩;have I9:=I8.step h9 (.lst []) [("numbers",.ref p1),("versions",.ref p2),("named",.ref p3),("lost",.ref p4),("ties",.ref p5),("spots",.ref p6),("puts",.ref p7),("eaches",.ref p8),("rises",.ref p9)];rw[show yG "rises" (V.ref p9) [("numbers",V.ref p1),("versions",V.ref p2),("named",V.ref p3),("lost",V.ref p4),("ties",V.ref p5),("spots",V.ref p6),("puts",V.ref p7),("eaches",V.ref p8)]=([("numbers",V.ref p1),("versions",V.ref p2),("named",V.ref p3),("lost",V.ref p4),("ties",V.ref p5),("spots",V.ref p6),("puts",V.ref p7),("eaches",V.ref p8),("rises",V.ref p9)]:List (Str×V)) from rfl];generalize upd (upd G8 p9 (.lst [])) b (.ins C dx _)=G9 at *;have hd:∀p∈[p1,p2,p3],G9 p=some (.dK [])/\H p=none:=fun p hp=>I9.o (p,.dK []) (by simp at hp |-;exact hp)
 have hl:∀p∈[p4,p5,p6,p7,p8,p9],G9 p=some (.lst [])/\H p=none:=fun p hp=>I9.o (p,.lst []) (by simp at hp |-;exact hp)
 have nd:=I9.nd;simp only[aX,aU,eJ,lU,cC]at nd;have n6:[p4,p5,p6,p7,p8,p9].Nodup:=((fL.mp (fL.mp (fL.mp nd).2).2).2)
 have g:∀i,i < 6->[p4,p5,p6,p7,p8,p9].getD i p9∈[p4,p5,p6,p7,p8,p9]:=fun i hi=>jhl hi
 have z:∀f:Str->Option D,(∀x,f x=none)->∀p∈[p1,p2,p3],DAt 0 f G9 p:=fun f hf p hp=>⟨[],(hd p hp).1,aD _,fun x=>⟨fun _=>rfl,fun d e=>by rw[hf x]at e;cases e⟩⟩
 have m1:p1∈[p1,p2,p3]:=by simp
 have m2:p2∈[p1,p2,p3]:=by simp
 have m3:p3∈[p1,p2,p3]:=by simp
 refine q ⟨b,dx,p1,p2,p3,fun i=>[p4,p5,p6,p7,p8,p9].getD i p9⟩ G9 rfl I9.k ⟨(hd _ m1).2,(hd _ m2).2,(hd _ m3).2,fun i hi=>(hl _ (g i hi)).2⟩ ⟨I9.hb,?_,?_,?_,fun i j hi hj e=>jg7 n6 hi hj e,z _ (fun _=>rfl) _ m1,z _ (fun _=>rfl) _ m2,⟨[],(hd _ m3).1,aD _,rfl⟩,fun i hi=>⟨[],(hl _ (g i hi)).1,jl,aD _⟩⟩
 .exact fun e=>(fL.mp nd).1 (by rw[show p1=p2 from e];simp)
 .exact fun e=>(fL.mp nd).1 (by rw[show p1=p3 from e];simp)
 .exact fun e=>(fL.mp (fL.mp nd).2).1 (by rw[show p2=p3 from e];simp)
end
end LW
namespace L2
open PySem PySem.Spec PyProof.Rows PySem.W PySem.Builtin PySem.Builtin.Str
section
variable {X:Cx}
def ji8(K:aw)(ta:TE):TT:=fun σ H Q=>ta σ H fun x H'=>∃k,jhu K x H' k/\Q k H'
theorem jd1{a:aj}{ta:TE}(ha:QE X a ta)(he:∀fB,isTrue a X.env fB=(do let v <- fB;lK a.pos;holding [v] (truthy v)):=by intro _;rfl):QT X a (ji8 X.K ta):=⟨jeI ha.h he⟩
theorem ji6{K:aw}{H:Hp}{a:ad}{xs:List V}(h:H a=some (.lst xs)):jhu K (.ref a) H (!xs.isEmpty):=.inl ⟨xs,SqL.of h,rfl⟩
theorem jfZ{k k':Nat}{x:Str}{C:ad}{ps:List Str}{sp:Sp}{p pos:Pos}(F:MkFn X.prog X.w X.K X.mg X.base k x C ps sp)(hr:Room k' X.A)(hk:k+1<=k':=by decide)(hg:Gl X x:=by rfl)(hd:(x == ("__debug__" : Str))=false:=by decide):QE X (.Call (.Name x p) [] [] pos) (jhE C sp [] E0 jeo):=by
 obtain⟨f,fd,M,G,b,m⟩:=F.ex;exact⟨jeX M G (hr.mono hk) hg m b .nil jhL hd⟩
end
end L2
namespace LW
open PySem L2
abbrev DA:Type:=Prod D ad
def zS(T:List DA)(p:DA):List DA:=match T.getLast? with
 | none=>[p]
 | some l=>if l.1=p.1 then T else T++[p]
def qf(ps:List DA):List DA:=ps.foldl zS []
inductive spOnce(vs:List V)(H:Hp)(Q:VK)(E:XK):Prop
 | mk (a:ad) (ps:List DA) (_:vs=[.ref a]) (_:H a=some (.lst ((ps.map (·.2)).map V.ref))) (_:(∀q∈ps,Held H q.1 (.ref q.2))) (_:SortT (ps.map (·.1)) 200) (_:ps.length<=11000000) (_:∀l qs H',Same H H'->H l=none->qs.Perm ps->(qs.map (·.1)).Pairwise (fun a b=>dLt b a=false)->H' l=some (.lst (((qf qs).map (·.2)).map V.ref))->Q (.ref l) H')
theorem je6{T:List DA}{p:DA}:∀q∈zS T p,q∈T\/q=p:=by
 unfold zS;intro q hq;split at hq
 .exact .inr (aN.mp hq)
 .split at hq
  .exact .inl hq
  .rcases bK.mp hq with h | h
   .exact .inl h
   .exact .inr (aN.mp h)
theorem YD(ps:List DA)(p:DA):qf (ps++[p])=zS (qf ps) p:=by
 unfold qf;rw[List.foldl_append];rfl
theorem yn(ps:List DA):∀q∈qf ps,q∈ps:=by
 have:∀(ps T:List DA),∀q∈ps.foldl zS T,q∈T\/q∈ps:=by
  intro ps;induction ps with
  | nil=>intro T q hq;exact .inl hq
  | cons p ps ih=>
   intro T q hq;rcases ih _ q hq with h | h
   .rcases je6 q h with h | h
    .exact .inl h
    .exact .inr (by rw[h];exact bU ..)
   .exact .inr (ce _ h)
 intro q hq;rcases this ps [] q hq with h | h
 .cases h
 .exact h
theorem Zr(ps:List DA):(qf ps).length<=ps.length:=by
 have:∀(ps T:List DA),(ps.foldl zS T).length<=T.length+ps.length:=by
  intro ps;induction ps with
  | nil=>intro T;exact aD _
  | cons p ps ih=>
   intro T;refine aJ (ih _) ?_;have:(zS T p).length<=T.length+1:=by
    unfold zS;split
    .simp
    .split
     .omega
     .simp
   simp only[ck];omega
 have:=this ps [];simp only[fN,FO]at this;exact this
variable {P:aE}{w:aB}{K:aw}{mg:Str->Option ag}{base:ar}{f:ad}{fd:aL}
section
theorem jgU(F:Fun K "each_once" "each_once" qQ f fd)(B:Free0 mg):FnOk P w K mg base CX0 14 f fd ["things"] spOnce:=by
 have sc:FnScope ["things","told","thing"] ["things"] (jm qQ):=fQ;refine F.okZ sc (fun ax A outer s H vs Q E hr h=>?_);have pG:(A.deeper (cA "each_once" (jm qQ) s.heap.objs.size f ax)).units+3+200 < cLine:=by have:=hr.un;omega
 have dZ:(A.deeper (cA "each_once" (jm qQ) s.heap.objs.size f ax)).units+1+200 < cLine:=by omega
 obtain⟨a,ps,rfl,ha,hk,hS,hl,q⟩:=h;refine⟨_,(jd (jy (i:=1) sc.nd rfl oQ (jG jb))
   (jd (ky df rfl (ke (zh (Kq (n:=200) pG) (by rfl) B.sorted_ ZE (ja (zpv 0) jb))) (ju (i:=2) sc.nd rfl oQ) (ji (jN (ZK (ZL (jd1 (zpv 1))) (ZJ (jD (yI 200 dZ) (jr j8 (zpv 1) (ZM ZP je) (fun _ _=>rfl)) (zpv 2) (jI _)))).pt (ji (jA (km cH dG dF j0 (zpv 1) (ja (zpv 2) jb)))) jL)))
   (ji (jC (zpv 1))))),?_⟩
 refine jH (σ':=[some (.ref a),none,none]) rfl ?_
 try dsimp only[kx]
 refine YO ?_;intro _ _;refine⟨sm rfl,fun l0 h0=>?_⟩;refine gQ ?_;have s1:=jj h0 (.lst []);have e1:upd H l0 (.lst []) l0=some (.lst []):=jf;generalize upd H l0 (.lst [])=H1 at *;refine⟨_,rfl,a,ps,rfl,s1 _ _ ha,fun q hq=>(hk q hq).mono s1,hS,hl,fun ls qs Dr hp hs=>?_⟩;have s2:=jj Dr (.lst ((qs.map (·.2)).map V.ref));have e2:upd H1 ls (.lst ((qs.map (·.2)).map V.ref)) ls=some (.lst ((qs.map (·.2)).map V.ref)):=jf;generalize upd H1 ls (.lst ((qs.map (·.2)).map V.ref))=H2 at *;have n1:l0≠ls:=jp e1 Dr;have xG:∀q∈qs,Held H2 q.1 (.ref q.2):=fun q hq=>((hk q (hp.mem_iff.mp hq)).mono s1).mono s2
 have hq:qs.length<=11000000:=by rw[hp.length_eq];exact hl
 let Pv:Nat->St->Hp->Prop:=fun i σ G=>∃u,σ=[some (.ref a),some (.ref l0),u]/\(∀b o,b≠l0->H2 b=some o->G b=some o)/\G l0=some (.lst (((qf (qs.take i)).map (·.2)).map V.ref))
 refine⟨ls,rfl,⟨_,SqL.of e2⟩,?_⟩;refine kG (xs:=(qs.map (·.2)).map V.ref) Pv ⟨none,rfl,fun _ _ _ e=>e,s2 _ _ e1⟩ ?_ ?_ ?_
 .rintro i σ G _ ⟨u,rfl,k,_⟩
  exact SqL.of (k _ _ n1.symm e2)
 .rintro i x σ G hx ⟨u,rfl,k,hT⟩
  have hi:i < qs.length:=by have:=(bL.mp hx).1;simpa using this
  have ex:x=.ref qs[i].2:=by
   rw[bz,bz,aK hi]at hx;exact (dk hx).symm
  subst ex;refine qN ?_;intro _;refine gQ ?_;have GI:∀q∈qs,Held G q.1 (.ref q.2):=fun q hq=>(show TK H2 G from fun b xs e=>k b _ (jv e (s2 _ _ e1) (by intro z;cases z)) e).held (xG q hq)
  have hm:qs[i]∈qs:=cT hi;have et:qs.take (i+1)=qs.take i++[qs[i]]:=by rw[eI,aK hi];rfl
  have C3:=yn (qs.take i);have bu:=Zr (qs.take i);have hU:qf (qs.take (i+1))=zS (qf (qs.take i)) qs[i]:=by rw[et,YD]
  generalize qs[i]=p at *;generalize hTT:qf (qs.take i)=T at *;have DR:T.length<=11000000:=aJ bu (by rw[cw];omega);have app:zS T p=T++[p]->(jep (tBM K "list" jcA (jdh 1) (jcu (jdh 2) jeo))) { nx:=Pv (i+1),rt:=Q,ct:=Pv (i+1),bk:=jh6 (jdh 1) { nx:=fun x H'=>Q V.non H',rt:=Q } } [some (.ref a),some (.ref l0),some (.ref p.2)] G:=fun e=>by
   refine⟨_,rfl,.inl ⟨rfl,_,SqL.of hT⟩,_,rfl,l0,_,_,rfl,rfl,hT,kc (by rw[az,az];exact DR),⟨_,rfl,fun b o hb eb=>jk hb (k b o hb eb),?_⟩⟩;rw[jf,hU,e,aX,aX];rfl
  rcases F5 T with rfl | ⟨T',l,rfl⟩
  .exact⟨_,rfl,_,ji6 hT,kR (kR (app rfl))⟩
  .rw[F8]at hT C3 hU app DR bu
   have hg:(T'++[l]).getLast?=some l:=by simp
   have DT:G l0=some (.lst ((T'.map (·.2)).map V.ref++[.ref l.2])):=by rw[hT,aX,aX];rfl
   have nW:l∈qs:=Bv (C3 l (by simp));have tr:∀q∈qs,∃ds xs,q.1=.tup ds/\G q.2=some (.tup xs)/\HeldL G ds xs/\D.depthL ds<=200:=fun q hq=>by
    have Dl:q.1∈ps.map (·.1):=bq.mpr ⟨q,hp.mem_iff.mp hq,rfl⟩;obtain⟨ds,e⟩:=hS.tup _ Dl;have hd:=hS.dep _ Dl;have hh:=GI q hq;rw[e]at hd hh;obtain⟨b,xs,eb,h1,h2⟩:=jE hh
    cases eb
    exact⟨ds,xs,e,h1,h2,aJ (dw _) hd⟩
   obtain⟨d1,x1,f1,g1,k1,j1⟩:=tr l nW;obtain⟨d2,x2,f2,g2,k2,_⟩:=tr p hm;have zt:=ji6 (K:=K) DT;rw[show (!((T'.map (·.2)).map V.ref++[V.ref l.2]).isEmpty)=true by simp]at zt;refine⟨_,rfl,true,zt,kA ?_⟩;refine⟨_,rfl,1,rfl,l0,_,-1,.ref l.2,rfl,rfl,SqL.of DT,jfT _ _,_,rfl,l.2,p.2,x1,x2,d1,d2,rfl,rfl,g1,g2,j1,k1,k2,_,rfl,?_⟩;have ec:zS (T'++[l]) p=if d1=d2 then T'++[l] else (T'++[l])++[p]:=by
    unfold zS;rw[hg];show (if l.1=p.1 then _ else _)=_;by_cases z:d1=d2
    .rw[Qx z,Qx (by rw[f1,f2,z])]
    .rw[Qw z,Qw (by rw[f1,f2];exact fun e=>z (by cases e;rfl))]
   by_cases z:d1=d2
   .rw[Qu z]
    exact kA ⟨_,rfl,k,by rw[hU,ec,Qx z];exact hT⟩
   .rw[Qv z]
    exact kR (app (by rw[ec,Qw z]))
 .rintro σ G ⟨u,rfl,k,hT⟩
  refine⟨_,rfl,?_⟩;rw[az,az,cu]at hT;exact q l0 qs G (fun b o e=>k b o (jp e h0) (s2 _ _ (s1 _ _ e))) h0 hp hs hT
end
theorem Zm(R:List Rw)(r:Rw):∀(c:Cs) (n:Nat),c.rows (R++[r]) n=(c.rows R n).take (n+R.length) r:=by
 induction R with
 | nil=>intro c n;rfl
 | cons q R ih=>
  intro c n;show (c.take n q).rows (R++[r]) (n+1)=((c.take n q).rows R (n+1)).take (n+(R.length+1)) r;rw[ih,show n+1+R.length=n+(R.length+1) by omega]
def kF(R:List Rw)(k:Cl):Cs:=(Cs.none.rows R 0).deny k
theorem ze{H:Hp}:∀{ds:List D} {xs:List V},HeldL H ds xs->(∀d∈ds,∃es,d=.tup es)->∃ps:List DA,ps.map (·.1)=ds/\xs=(ps.map (·.2)).map V.ref/\∀q∈ps,Held H q.1 (.ref q.2)
 | [],_,h,_=>⟨[],rfl,jM h,fun _ z=>nomatch z⟩
 | d :: ds,_,h,ht=>by
  obtain⟨v,r,rfl,h1,h2⟩:=jo h;obtain⟨ps,e1,e2,e3⟩:=ze h2 fun d hd=>ht d (ce _ hd)
  obtain⟨es,rfl⟩:=ht d (bU ..);obtain⟨a,xs,rfl,_,_⟩:=jE h1;refine⟨(.tup es,a) :: ps,by rw[aU,e1],by rw[aU,aU,e2],fun q hq=>?_⟩;rcases bG.mp hq with rfl | hq
  .exact h1
  .exact e3 q hq
theorem j7{H:Hp}:∀{ds:List D} {xs:List V} {i:Nat} {d:D} {x:V},HeldL H ds xs->ds[i]?=some d->xs[i]?=some x->Held H d x
 | [],_,i,_,_,_,e,_=>by simp at e
 | d :: ds,_,i,_,_,h,e,f=>by
  obtain⟨v,r,rfl,h1,h2⟩:=jo h
  cases i with
  | zero=>cases e;cases f;exact h1
  | succ i=>exact j7 h2 e f
theorem zd{H:Hp}:∀{ps:List DA},(∀q∈ps,Held H q.1 (.ref q.2))->HeldL H (ps.map (·.1)) ((ps.map (·.2)).map V.ref)
 | [],_=>jl
 | p :: ps,h=>jc (h p (bU ..)) (zd fun q hq=>h q (ce _ hq))
def Cs.once(c:Cs)(es:List D):Cs:={ c with l:=fun i=>if i=2 then es else c.l i }
inductive spGath(C o1 o2:ad)(vs:List V)(H:Hp)(Q:VK)(E:XK):Prop
 | mk (a:ad) (R:List Rw) (rs:List V) (k:Cl) (v:V) (_:vs=[.ref a,v]) (_:H a=some (.lst rs)) (_:HeldL H (R.map Rw.toD) rs) (_:R.length<=40) (_:Own H o1 o2) (_:Held H k.toD v) (_:SortT ((kF R k).l 2) 200) (_:∀(A:CA) (ps qs:List DA) (H':Hp),Same H H'->H (A.l 2)=none->ps.map (·.1)=(kF R k).l 2->qs.Perm ps->(qs.map (·.1)).Pairwise (fun a b=>dLt b a=false)->CsAt C (8 * R.length+10) A ((kF R k).once ((qf qs).map (·.1))) H'->Q (.ref A.o) H')
section
variable {C o1 o2:ad}
theorem jgZ(T:ClsC K C)(F:Fun K "gathered" "gathered" Jn f fd)(B:Free0 mg)(iL:mg "enumerate" = none)(An:MkFn P w K mg base 1 "Case" C ["self"] (spCase C))(Au:Fn P w K mg base 6 "take_row" ["case","n","row"] (spTake C))(AF:Fn P w K mg base 5 "deny" ["case","goal"] (spDeny C o1 o2))(mS:Fn P w K mg base 14 "each_once" ["things"] spOnce):FnOk P w K mg base CX0 15 f fd ["rows","goal"] (spGath C o1 o2):=by
 have sc:FnScope ["rows","goal","case","n","row"] ["rows","goal"] (jm Jn):=fQ;refine F.okZ sc (fun ax A outer s H vs Q E hr h=>?_);obtain⟨a,R,rs,k,v,rfl,ha,cq,hl,ho,hv,hS,q⟩:=h;refine⟨_,(jd (jy (i:=2) sc.nd rfl oQ (jfZ An hr))
   (jd (ky df rfl (Yj (by rfl) iL (ja (zpv 0) jb)) (kH rfl (jz (ju (i:=3) sc.nd rfl oQ) (jz (ju (i:=4) sc.nd rfl oQ) kr))) (ji (jA (jg Au hr (ja (zpv 2) (ja (zpv 3) (ja (zpv 4) jb)))))))
   (jd (jA (jg AF hr (ja (zpv 2) (ja (zpv 1) jb))))
   (jd (qT (zpv 2) (jg mS hr (ja (jY (zpv 2) rfl) jb)) rfl)
   (ji (jC (zpv 2))))))),?_⟩
 refine jH (σ':=[some (.ref a),some v,none,none,none]) rfl ?_
 try dsimp only[kx]
 refine jhS ?_;intro r4 r3 r2 r1;refine (fun x dx hx DG tH=>⟨x,dx,rfl,jf,fun B0 H2 eo k2 hn I2=>⟨rfl,?_⟩⟩);subst eo;have fresh:∀b,upd (upd H dx (.own B0.o)) B0.o (.ins C dx []) b=none->H b=none:=fun b hb=>by
  by_cases z:b=B0.o
  .rw[z,jf]at hb;cases hb
  by_cases z2:b=dx
  .rw[jB z,z2,jf]at hb;cases hb
  .rw[jB z,jB z2]at hb;exact hb
 have s2:Same H H2:=fun b o e=>k2 _ _ (jp e hx) (by rw[jB (jp e hx),jB (jp e DG)];exact e)
 obtain⟨n1,n2,n3,n4⟩:=hn;have pp:∀{G:Hp},Mv B0 H2 G->Same H G:=fun m b o e=>m b o (fun z=>by rw[z,fresh _ n1]at e;cases e) (fun z=>by rw[z,fresh _ n2]at e;cases e) (fun z=>by rw[z,fresh _ n3]at e;cases e) (fun i hi z=>by rw[z,fresh _ (n4 i hi)]at e;cases e) (s2 b o e)
 have l2n:=fresh _ (n4 2 (by decide));clear fresh DG tH k2 n1 n2 n3 n4;refine gQ ?_;have fk:=cq.length;rw[az]at fk;let Pv:Nat->St->Hp->Prop:=fun i σ G=>∃u3 u4,σ=[some (.ref a),some v,some (.ref B0.o),u3,u4]/\Mv B0 H2 G/\CsAt C (8 * i) B0 (Cs.none.rows (R.take i) 0) G
 refine⟨_,rfl,a,rfl,⟨_,SqL.of (s2 _ _ ha)⟩,?_⟩;refine YS (xs:=rs) Pv ⟨none,none,rfl,.same (fun _ _ e=>e),I2⟩ ?_ ?_ ?_
 .rintro i σ G _ ⟨u3,u4,rfl,m,_⟩
  exact SqL.of (pp m _ _ ha)
 .rintro i y σ G t hy ⟨u3,u4,rfl,m,I⟩ ht
  have hi:i < R.length:=by rw[fk];exact (bL.mp hy).1
  have bZ:Held H R[i].toD y:=j7 cq (by rw[bz,aK hi];rfl) hy;have s3:=jj ht (.tup [.int i,y]);have e3:upd G t (.tup [.int i,y]) t=some (.tup [.int i,y]):=jf;have I':=I.same s3;generalize upd G t (.tup [.int i,y])=G1 at *;refine qN ?_;intro _;refine⟨t,_,rfl,SqT.of e3,rfl,_,_,rfl,_,_,rfl,rfl,?_⟩;refine jH (σ':=[some (.ref a),some v,some (.ref B0.o),some (.int i),some y]) rfl ?_;refine⟨_,rfl,_,rfl,_,rfl,8 * i,B0,_,i,R[i],y,rfl,I',by omega,(bZ.mono (pp m)).mono s3,fun G2 m2 I2=>⟨_,_,rfl,m.trans ((Mv.same s3).trans m2),?_⟩⟩;rw[eI,aK hi];show CsAt C (8 * (i+1)) B0 (Cs.none.rows (R.take i++[R[i]]) 0) G2;rw[Zm,cw,Px (c6 hi),FO];exact I2.mono (by omega)
 .rintro σ G ⟨u3,u4,rfl,m,I⟩
  rw[<- fk,cu]at I;have sG:=pp m;refine⟨_,rfl,_,rfl,8 * R.length,B0,_,k,v,rfl,I,by omega,ho.tk (.same sG),hv.mono sG,fun G1 m1 I1=>?_⟩;have I1:CsAt C (8 * R.length+10) B0 (kF R k) G1:=I1;obtain⟨xs,l1,l2,l3⟩:=I1.l 2 (by decide);obtain⟨ps,p1,rfl,p3⟩:=ze l2 hS.tup;have l4:ps.length<=11000000:=by
   rw[az,az]at l3;omega
  refine⟨_,rfl,B0.o,C,B0.dx,_,_,rfl,I1.o,T.c,T.n6,rfl,B0.l 2,ps,rfl,l1,p3,by rw[p1];exact hS,l4,fun lo qs G2 g2 fX hp hs D6=>?_⟩;have I3:=I1.same g2;refine⟨_,rfl,B0.o,C,B0.dx,_,rfl,I3.o,T.c,T.n6,by show 9 < 1000;decide,?_⟩;refine⟨_,rfl,q { B0 with l:=fun i=>if i=2 then lo else B0.l i } ps qs _ ?_ ?_ p1 hp hs ?_⟩
  .exact fun b o e=>jk (jp e hx) (g2 _ _ (pp (m.trans m1) _ _ e))
  .show H lo=none
   cases z:H lo with
   | none=>rfl
   | some o=>rw[pp (m.trans m1) _ _ z]at fX;cases fX
  .have t4:TK G2 (upd G2 B0.o (.ins C B0.dx (yG "spots" (V.ref lo) (jjL B0)))):=fun b ys e=>jk (jv e I3.o (by intro z;cases z)) e
   have J:=I3.mono (show 8 * R.length+10<=8 * R.length+10 by omega);obtain⟨k1,h1,_⟩:=I3.nu;obtain⟨k2,h2,_⟩:=I3.ve;obtain⟨k3,h3,_⟩:=I3.na;have fT:∀j,j < 6->lo≠B0.l j:=fun j hj z=>by
    obtain⟨ys,y1,_⟩:=I1.l j hj;rw[z,y1]at fX
    cases fX
   refine⟨jf,I3.n1,I3.n2,I3.n3,fun i j hi hj e=>?_,J.nu.tk t4 fun o=>jk (jv h1 I3.o (by intro z;cases z)),J.ve.tk t4 fun o=>jk (jv h2 I3.o (by intro z;cases z)),J.na.tk fun o=>jk (jv h3 I3.o (by intro z;cases z)),fun i hi=>?_⟩
   .have e:(if i=2 then lo else B0.l i)=if j=2 then lo else B0.l j:=e
    by_cases a1:i=2
    .by_cases a2:j=2
     .rw[a1,a2]
     .rw[Qx a1,Qw a2]at e
      exact absurd e (fT j hj)
    .by_cases a2:j=2
     .rw[Qw a1,Qx a2]at e
      exact absurd e.symm (fT i hi)
     .rw[Qw a1,Qw a2]at e
      exact I3.inj i j hi hj e
   .show LAt (8 * R.length+10) (if i=2 then (qf qs).map (·.1) else (kF R k).l i) _ (if i=2 then lo else B0.l i)
    by_cases a1:i=2
    .rw[Qx a1,Qx a1]
     refine⟨_,jk (jv D6 I3.o (by intro z;cases z)) D6,t4.heldL ((TK.same g2).heldL (zd fun p xw=>p3 p (hp.mem_iff.mp (yn qs p xw)))),?_⟩;rw[az,az]at l3 |-;have:=Zr qs;rw[hp.length_eq]at this;omega
    .rw[Qw a1,Qw a1]
     obtain⟨ys,y1,_⟩:=I3.l i hi;exact (J.l i hi).tk t4 fun o=>jk (jv y1 I3.o (by intro z;cases z))
end
def jdj:D->D
 | .tup [_,u,_]=>u
 | d=>d
def Cs.ends(c:Cs):List D:=(c.l 4++c.l 5).map jdj
def jhw(R:List Rw)(k:Cl)(es:List D):Prop:=∃ps qs:List DA,ps.map (·.1)=(kF R k).l 2/\qs.Perm ps/\(qs.map (·.1)).Pairwise (fun a b=>dLt b a=false)/\es=(qf qs).map (·.1)
theorem jey{R:List Rw}{k:Cl}{es:List D}(h:jhw R k es):∀d∈es,d∈(kF R k).l 2:=by
 obtain⟨ps,qs,h1,h2,_,rfl⟩:=h;intro d hd;obtain⟨q,q1,rfl⟩:=bq.mp hd;rw[<- h1];exact bq.mpr ⟨q,h2.mem_iff.mp (yn _ _ q1),rfl⟩
abbrev jge:aF:=top 41
abbrev jcv:aF:=top 42
abbrev Z4:aF:=top 47
def Wd(x:Str):Prop:=(∀c∈x.cps.toList,(97<=c/\c<=122)\/c=46)/\x.length<=40
inductive Ver:D->Prop
 | row {r:Str} (h:Wd r):Ver (yl r)
 | lost {n:Nat} (h:n<=1000):Ver (Kg n)
 | put {n:Nat} (h:n<=1000):Ver (ym n)
inductive Src:Nat->D->Prop
 | nought {m:Nat}:Src m Yb.1
 | start {m:Nat} {x:Str} (h:Wd x):Src m (ZT x).1
 | pick {m n:Nat} (h:n<=1000):Src m (jcC n).1
 | own {m:Nat} {i:Int} (h:i.natAbs<=1000):Src m (jV i).1
 | ent {m:Nat} {v d:D} {c:Int} (hv:Ver v) (hd:Src m d) (hc:c.natAbs < 10 ^ 30):Src (m+1) (jW v (d,c)).1
theorem Src.mono{m:Nat}{d:D}(h:Src m d):∀{n:Nat},m<=n->Src n d:=by
 induction h with
 | nought=>intro n _;exact .nought
 | start h=>intro n _;exact .start h
 | pick h=>intro n _;exact .pick h
 | own h=>intro n _;exact .own h
 | @ent m v d c hv hd hc ih=>
  intro n hn;obtain⟨k,rfl⟩:∃k,n=k+1:=⟨n - 1,by omega⟩
  exact .ent hv (ih (by omega)) hc
variable {x:Str}
theorem yS(h:x.cps.toList.all (fun c=>decide (97<=c/\c<=122))=true):OkD (.str x):=fun c hc=>.inl (Qt (F_.mp h c hc))
theorem i39{i:Int}(h:i.natAbs < 10 ^ 30):OkD (.int i):=dU h (by decide)
variable {n:Nat}
theorem n39(h:n<=1000):OkD (.int (n:Int)):=by
 show (n:Int).natAbs < 10 ^ 39;exact rQ (by omega:(n:Int).natAbs<=1000) (by decide)
theorem Ver.ok{v:D}(h:Ver v):OkD v/\v.depth<=1/\v.big<=100:=by
 cases h with
 | @row r h=>exact⟨⟨yS (by decide +kernel),h.1,trivial⟩,(by show max 0 (max 0 0)+1<=1;decide),by
   show ((bE "row").length+2)+2+(r.length+2+2+0)+3<=100;have:=h.2;have e:(bE "row").length=3:=rfl;omega⟩
 | lost h=>exact⟨⟨yS (by decide +kernel),n39 h,trivial⟩,(by show max 0 (max 0 0)+1<=1;decide),by show ((bE "lost").length+2)+2+(40+2+0)+3<=100;decide +kernel⟩
 | put h=>exact⟨⟨yS (by decide +kernel),n39 h,trivial⟩,(by show max 0 (max 0 0)+1<=1;decide),by show ((bE "put").length+2)+2+(40+2+0)+3<=100;decide +kernel⟩
theorem Src.ok{m:Nat}{d:D}(h:Src m d):OkD d/\d.depth<=2 * m+1/\d.big<=200 * m+100:=by
 induction h with
 | nought=>exact⟨⟨yS (by decide +kernel),trivial⟩,(by show max 0 0+1<=_;simp),by show ((bE "nought").length+2)+2+0+3<=_;have e:(bE "nought").length=6:=rfl;omega⟩
 | @start m x h=>exact⟨⟨yS (by decide +kernel),h.1,trivial⟩,(by show max 0 (max 0 0)+1<=_;simp),by
   show ((bE "start").length+2)+2+(x.length+2+2+0)+3<=_;have:=h.2;have e:(bE "start").length=5:=rfl;omega⟩
 | pick h=>exact⟨⟨yS (by decide +kernel),n39 h,trivial⟩,(by show max 0 (max 0 0)+1<=_;simp),by show ((bE "pick").length+2)+2+(40+2+0)+3<=_;have e:(bE "pick").length=4:=rfl;omega⟩
 | own h=>exact⟨⟨yS (by decide +kernel),(rQ h (by decide):_ < 10 ^ 39),trivial⟩,(by show max 0 (max 0 0)+1<=_;simp),by show ((bE "own").length+2)+2+(40+2+0)+3<=_;have e:(bE "own").length=3:=rfl;omega⟩
 | @ent m v d c hv hd hc ih=>
  obtain⟨i1,i2,i3⟩:=ih;obtain⟨v1,v2,v3⟩:=hv.ok;refine⟨⟨yS (by decide +kernel),v1,⟨i1,i39 hc,trivial⟩,trivial⟩,?_,?_⟩
  .show max 0 (max v.depth (max (max d.depth (max 0 0)+1) 0))+1<=_
   omega
  .show ((bE "entry").length+2)+2+(v.big+2+((d.big+2+(40+2+0)+3)+2+0))+3<=_
   have e:(bE "entry").length=5:=rfl;omega
def Gp(m:Nat)(p:P2):Prop:=Src m p.1/\p.2.natAbs < 10 ^ 30
def Shw(d:D):Prop:=OkD d/\d.depth<=200/\d.big<=100000
variable {p:P2}
theorem Gp.shw{m:Nat}(h:Gp m p)(hm:m<=90):Shw (p2 p):=by
 obtain⟨a,b,c⟩:=h.1.ok;refine⟨⟨a,i39 h.2,trivial⟩,?_,?_⟩
 .show max p.1.depth (max 0 0)+1<=200
  omega
 .show p.1.big+2+(40+2+0)+3<=100000
  omega
theorem qx{m:Nat}{q:P2}(h:Gp m p)(k:Gp m q)(hm:m<=90):Shw (kT p q):=by
 obtain⟨a,b,c⟩:=h.1.ok;obtain⟨a',b',c'⟩:=k.1.ok;refine⟨⟨a,a',?_,trivial⟩,?_,?_⟩
 .show (q.2 - p.2).natAbs < 10 ^ 39
  have:=h.2;have:=k.2;omega
 .show max p.1.depth (max q.1.depth (max 0 0))+1<=200
  omega
 .show p.1.big+2+(q.1.big+2+(40+2+0))+3<=100000
  omega
section
theorem jgQ(F:Fun K "_law_tie" "_law_tie" jge f fd):FnOk P w K mg base CX0 1 f fd ["_law_one","_law_other"] spAtM:=by
 have sc:FnScope ["_law_one","_law_other"] ["_law_one","_law_other"] (jm jge):=fQ;refine F.okZ sc (fun ax A outer s H vs Q E hr h=>?_);obtain⟨v,u,p,q,rfl,hv,hu,k⟩:=h;refine⟨_,(ji (jC (zpd (j9 (jt (zD (jr jw (zpv 0) je (fun _ _=>rfl))) (jt (zD (jr jw (zpv 1) je (fun _ _=>rfl))) (jt (zD (js zo (jr jw (zpv 1) je (fun _ _=>rfl)) (jr jw (zpv 0) je (fun _ _=>rfl)))) jR))))))),?_⟩;refine jH (σ':=[some v,some u]) rfl ?_
 try dsimp only[kx]
 obtain⟨t,x,rfl,ht,hx⟩:=JD hv;obtain⟨t',y,rfl,d_,hy⟩:=JD hu;refine⟨kT p q,⟨_,rfl,bw rfl,_,_,rfl,(fun G sG Q q=>?_),_,_,rfl,(fun G sG Q q=>?_),_,_,rfl,(fun G sG Q q=>?_),rfl⟩,fun v H' s h=>k v H' s h⟩
 .exact⟨_,rfl,t,_,_,_,rfl,rfl,SqT.of (sG _ _ ht),jh (j:=0) rfl,q _ _ (fun _ _ e=>e) (hx.mono sG)⟩
 .exact⟨_,rfl,t',_,_,_,rfl,rfl,SqT.of (sG _ _ d_),jh (j:=0) rfl,q _ _ (fun _ _ e=>e) (hy.mono sG)⟩
 .exact⟨_,rfl,t',_,_,_,rfl,rfl,SqT.of (sG _ _ d_),jh (j:=1) rfl,_,rfl,t,_,_,_,rfl,rfl,SqT.of (sG _ _ ht),jh (j:=1) rfl,_,_,rfl,rfl,q _ _ (fun _ _ e=>e) jP⟩
theorem jfg(F:Fun K "_law_more" "_law_more" jcv f fd):FnOk P w K mg base CX0 1 f fd ["_law_one","_law_more_here"] spMore:=by
 have sc:FnScope ["_law_one","_law_more_here"] ["_law_one","_law_more_here"] (jm jcv):=fQ;refine F.okZ sc (fun ax A outer s H vs Q E hr h=>?_);obtain⟨v,d,p,rfl,hv,k⟩:=h;refine⟨_,(ji (jC (zpd (j9 (jt (zD (jr jw (zpv 0) je (fun _ _=>rfl))) (jt (zD (js qr (jr jw (zpv 0) je (fun _ _=>rfl)) (zpv 1))) jR)))))),?_⟩;refine jH (σ':=[some v,some (.int d)]) rfl ?_
 try dsimp only[kx]
 obtain⟨t,x,rfl,ht,hx⟩:=JD hv;refine⟨p2 (mor p d),⟨_,rfl,bw rfl,_,_,rfl,(fun G sG Q q=>?_),_,_,rfl,(fun G sG Q q=>?_),rfl⟩,fun v H' s h=>k v H' s h⟩
 .exact⟨_,rfl,t,_,_,_,rfl,rfl,SqT.of (sG _ _ ht),jh (j:=0) rfl,q _ _ (fun _ _ e=>e) (hx.mono sG)⟩
 .exact⟨_,rfl,t,_,_,_,rfl,rfl,SqT.of (sG _ _ ht),jh (j:=1) rfl,_,rfl,_,_,rfl,rfl,q _ _ (fun _ _ e=>e) jP⟩
theorem jg0(F:Fun K "_law_entry" "_law_entry" Z4 f fd):FnOk P w K mg base CX0 1 f fd ["_law_version_here","_law_spot_here"] spEnt:=by
 have sc:FnScope ["_law_version_here","_law_spot_here"] ["_law_version_here","_law_spot_here"] (jm Z4):=fQ;refine F.okZ sc (fun ax A outer s H vs Q E hr h=>?_);obtain⟨v,u,d,p,rfl,hv,hu,k⟩:=h;refine⟨_,(ji (jC (zpd (j9 (jt (j9 (jt qb (jt (kB 0) (jt (kB 1) jR)))) (jt zn jR)))))),?_⟩;refine jH (σ':=[some v,some u]) rfl ?_
 try dsimp only[kx]
 exact⟨p2 (jW d p),⟨_,rfl,bw rfl,_,_,rfl,⟨_,rfl,bw rfl,_,_,rfl,rfl,_,_,rfl,⟨_,rfl,hv⟩,_,_,rfl,⟨_,rfl,hu⟩,rfl⟩,_,_,rfl,rfl,rfl⟩,fun v H' s h=>k v H' s h⟩
end
abbrev Zl:aF:=top 45
abbrev Yy:aF:=top 43
abbrev Z2:aF:=top 44
abbrev y7:aF:=top 46
def TAt(n:Nat)(L:List D)(H:Hp)(a:ad):Prop:=∃(ds:List D) (kvs:List (Key×V)),H a=some (.dK kvs)/\kvs.map (·.1)=ds.map (fun d=>Sum.inr d.py.shown)/\HeldL H ds (kvs.map (·.2))/\ds.Nodup/\(∀d,d∈ds↔d∈L)/\(∀d∈ds,OkD d)/\kvs.length<=n
variable {H H':Hp}{a:ad}
theorem TAt.tk{L:List D}(h:TAt n L H a)(t:TK H H')(e:∀o,H a=some o->H' a=some o):TAt n L H' a:=by
 obtain⟨ds,kvs,h1,h2,h3,h4,h5,h6,h7⟩:=h;exact⟨ds,kvs,e _ h1,h2,t.heldL h3,h4,h5,h6,h7⟩
theorem TAt.congr{m:Nat}{L L':List D}(h:TAt n L H a)(hn:n<=m)(e:∀d,d∈L↔d∈L'):TAt m L' H a:=by
 obtain⟨ds,kvs,h1,h2,h3,h4,h5,h6,h7⟩:=h;exact⟨ds,kvs,h1,h2,h3,h4,fun d=>(h5 d).trans (e d),h6,aJ h7 hn⟩
theorem KG{H:Hp}{k:Key}{d:D}{v:V}(hv:Held H d v):∀{ds:List D} {kvs:List (Key×V)},HeldL H ds (kvs.map (·.2))->(∀(i:Nat) (e:D) (p:Key×V),ds[i]?=some e->kvs[i]?=some p->p.1=k->e=d)->HeldL H ds ((kvs.map fun kv=>if kv.1=k then (kv.1,v) else kv).map (·.2))
 | [],[],h,_=>h
 | [],_ :: _,h,_=>by cases jM h
 | e :: ds,[],h,_=>by obtain⟨_,_,z,_⟩:=jo h;cases z
 | e :: ds,p :: kvs,h,hs=>by
  obtain⟨x,r,z,h1,h2⟩:=jo h
  cases z
  rw[aU,aU];refine jc ?_ (KG hv h2 fun i e p a b=>hs (i+1) e p a b);by_cases c:p.1=k
  .rw[Qx c,hs 0 e p rfl rfl c]
   exact hv
  .rw[Qw c]
   exact h1
variable {kvs:List (Key×V)}{v:V}
theorem TAt.put{L:List D}{d:D}(h:TAt n L H a)(e:H a=some (.dK kvs))(hv:Held H d v)(hd:OkD d):TAt (n+1) (L++[d]) (upd H a (.dK (j4 kvs (.inr d.py.shown) v))) a:=by
 have t:TK H (upd H a (.dK (j4 kvs (.inr d.py.shown) v))):=fun b xs eb=>jk (jv eb e (by intro z;cases z)) eb
 obtain⟨ds,k1,h1,h2,h3,h4,h5,h6,h7⟩:=h;obtain rfl:k1=kvs:=by rw[h1]at e;cases e;rfl
 have eR:∀q,q∈L++[d]↔q∈L\/q=d:=fun q=>by rw[bK,aN]
 by_cases z:d∈ds
 .have kin:(Sum.inr d.py.shown:Key)∈k1.map (·.1):=by rw[h2];exact bq.mpr ⟨d,z,rfl⟩
  refine⟨ds,_,jf,(jah _ kin).trans h2,?_,h4,fun q=>?_,h6,aJ (kP _ _ _) (gO h7)⟩
  .obtain⟨p,p1,gX⟩:=bq.mp kin
   refine t.heldL ?_;unfold j4;rw[Qx (gw.mpr ⟨p,p1,Qu gX⟩)];refine KG hv h3 fun i x p a b c=>?_
   have:(k1.map (·.1))[i]?=some p.1:=by rw[bz,b];rfl
   rw[h2,bz,a]at this;have:Sum.inr x.py.shown=p.1:=dk this;rw[c]at this;exact Zk (h6 x (lV a)) hd (uW this)
  .rw[eR,<- h5]
   exact⟨.inl,fun w=>w.elim id fun y=>by rw[y];exact z⟩
 .have wP:(Sum.inr d.py.shown:Key) ∉ k1.map (·.1):=fun y=>by
   rw[h2]at y;obtain⟨x,x1,x2⟩:=bq.mp y;have:=Zk (h6 x x1) hd (uW x2);rw[this]at x1;exact z x1
  have ep:j4 k1 (Sum.inr d.py.shown) v=k1++[(Sum.inr d.py.shown,v)]:=by
   unfold j4;refine Qw fun y=>?_
   obtain⟨p,p1,gX⟩:=gw.mp y;exact wP (bq.mpr ⟨p,p1,Qt gX⟩)
  rw[ep]at t |-;refine⟨ds++[d],_,jf,by rw[aX,aX,h2];rfl,?_,?_,fun q=>?_,fun q hq=>?_,by rw[bV];exact gO h7⟩
  .rw[aX]
   exact t.heldL (jT h3 (jc hv jl))
  .rw[vt]
   exact⟨h4,by simp,fun x hx y hy=>by cases aN.mp hy;exact fun w=>z (by rw[<- w];exact hx)⟩
  .rw[eR,<- h5,bK,aN]
  .rcases bK.mp hq with hq | hq
   .exact h6 q hq
   .rw[aN.mp hq];exact hd
structure BA where
 o:ad
 st:ad
 nw:ad
 vs:ad
 t:Nat->ad
 l:Nat->ad
def zM(A:BA):List (Key×V):=[(.inr "stands",.ref A.st),(.inr "now",.ref A.nw),(.inr "versions",.ref A.vs),(.inr "spots",.ref (A.t 0)),(.inr "ends",.ref (A.t 1)),(.inr "ties",.ref (A.t 2)),(.inr "each",.ref (A.l 0)),(.inr "rise",.ref (A.l 1)),(.inr "puts",.ref (A.l 2))]
def tOf(c:Cs)(i:Nat):List D:=if i=0 then c.l 2 else if i=1 then c.ends else c.l 1
structure BxAt(n:Nat)(A:BA)(c:Cs)(H:Hp):Prop where
 o:H A.o=some (.dK (zM A))
 nd:[A.o,A.st,A.nw,A.t 0,A.t 1,A.t 2].Nodup
 inj:∀i j,i < 3->j < 3->A.l i=A.l j->i=j
 st:DAt n (fun x=>(c.nu x).map p2) H A.st
 nw:DAt n c.ve H A.nw
 vs:∃kvs:List (List Key×V),H A.vs=some (.dT kvs)/\kvs.length<=n
 t:∀i,i < 3->TAt n (tOf c i) H (A.t i)
 l:∀i,i < 3->∃xs,H (A.l i)=some (.lst xs)/\xs.length<=n
def MvB(A:BA)(H H':Hp):Prop:=∀b o,b≠A.st->b≠A.nw->b≠A.vs->(∀i,i < 3->b≠A.t i)->(∀i,i < 3->b≠A.l i)->H b=some o->H' b=some o
variable {A:BA}
theorem MvB.same(s:Same H H'):MvB A H H':=fun b o _ _ _ _ _ e=>s b o e
theorem MvB.trans{H1 H2:Hp}(h:MvB A H H1)(k:MvB A H1 H2):MvB A H H2:=fun b o a1 a2 a3 a4 a5 e=>k b o a1 a2 a3 a4 a5 (h b o a1 a2 a3 a4 a5 e)
theorem DAt.mono{m:Nat}{f:Str->Option D}(h:DAt n f H a)(k:n<=m):DAt m f H a:=by
 obtain⟨kvs,h1,h2,h3⟩:=h;exact⟨kvs,h1,aJ h2 k,h3⟩
variable {c:Cs}
theorem BxAt.keep{m:Nat}(I:BxAt n A c H)(hm:n<=m)(t:TK H H')(e:∀a o,H a=some o->(∀xs,o≠.tup xs)->H' a=some o):BxAt m A c H':=by
 obtain⟨k1,h1,_⟩:=I.st;obtain⟨k2,h2,_⟩:=I.nw;obtain⟨k3,h3,h4⟩:=I.vs;refine⟨e _ _ I.o (by intro _ z;cases z),I.nd,I.inj,(I.st.tk t fun o ho=>by rw[h1]at ho;cases ho;exact e _ _ h1 (by intro _ z;cases z)).mono hm,(I.nw.tk t fun o ho=>by rw[h2]at ho;cases ho;exact e _ _ h2 (by intro _ z;cases z)).mono hm,⟨k3,e _ _ h3 (by intro _ z;cases z),aJ h4 hm⟩,fun i hi=>?_,fun i hi=>?_⟩
 .have:=I.t i hi
  refine (this.tk t fun o ho=>?_).congr hm fun _=>Iff.rfl
  obtain⟨_,kv,q,_⟩:=this;rw[q]at ho;cases ho;exact e _ _ q (by intro _ z;cases z)
 .obtain⟨xs,q1,q2⟩:=I.l i hi
  exact⟨xs,e _ _ q1 (by intro _ z;cases z),aJ q2 hm⟩
theorem BxAt.same(I:BxAt n A c H)(s:Same H H'):BxAt n A c H':=I.keep (aD _) (.same s) fun a o e _=>s a o e
theorem BxAt.mono{m:Nat}(I:BxAt n A c H)(h:n<=m):BxAt m A c H:=I.keep h (fun _ _ e=>e) fun _ _ e _=>e
theorem BxAt.tk(I:BxAt n A c H)(m:MvB A H H'):TK H H':=fun b xs e=>by
 obtain⟨k1,h1,_⟩:=I.st;obtain⟨k2,h2,_⟩:=I.nw;obtain⟨k3,h3,_⟩:=I.vs;refine m b _ (fun z=>?_) (fun z=>?_) (fun z=>?_) (fun i hi z=>?_) (fun i hi z=>?_) e
 .rw[z,h1]at e;cases e
 .rw[z,h2]at e;cases e
 .rw[z,h3]at e;cases e
 .obtain⟨_,_,h4,_⟩:=I.t i hi
  rw[z,h4]at e;cases e
 .obtain⟨_,h4,_⟩:=I.l i hi
  rw[z,h4]at e;cases e
variable {c':Cs}
theorem BxAt.congr{m:Nat}(I:BxAt n A c H)(hm:n<=m)(h1:c'.nu=c.nu)(h2:c'.ve=c.ve)(h3:∀i,i < 3->∀d,d∈tOf c i↔d∈tOf c' i):BxAt m A c' H:=by
 have J:=I.mono hm;exact⟨J.o,J.nd,J.inj,by rw[h1];exact J.st,by rw[h2];exact J.nw,J.vs,fun i hi=>(J.t i hi).congr (aD _) (h3 i hi),J.l⟩
theorem BxAt.ne(I:BxAt n A c H):A.o≠A.st/\A.o≠A.nw/\A.st≠A.nw/\(∀i,i < 3->A.o≠A.t i/\A.st≠A.t i/\A.nw≠A.t i)/\∀i j,i < 3->j < 3->A.t i=A.t j->i=j:=by
 have h:=I.nd;simp only[fL,bG,FX,or_false,not_or,oS,and_true,not_false_eq_true]at h;obtain⟨⟨a1,a2,a3,a4,a5⟩,⟨b1,b2,b3,b4⟩,⟨c1,c2,c3⟩,⟨d1,d2⟩,e1⟩:=h;refine⟨a1,a2,b1,fun i hi=>?_,fun i j hi hj e=>?_⟩
 .have:i=0\/i=1\/i=2:=by omega
  rcases this with rfl | rfl | rfl
  .exact⟨a3,b2,c1⟩
  .exact⟨a4,b3,c2⟩
  .exact⟨a5,b4,c3⟩
 .have Ld:i=0\/i=1\/i=2:=by omega
  have La:j=0\/j=1\/j=2:=by omega
  rcases Ld with rfl | rfl | rfl <;> rcases La with rfl | rfl | rfl <;> first | rfl | exact absurd e d1 | exact absurd e d2 | exact absurd e e1 | exact absurd e.symm d1 | exact absurd e.symm d2 | exact absurd e.symm e1
variable {i:Nat}
theorem BxAt.put{d:D}(I:BxAt n A c H)(hi:i < 3)(e:H (A.t i)=some (.dK kvs))(hv:Held H d v)(hd:OkD d)(h1:c'.nu=c.nu)(h2:c'.ve=c.ve)(h3:∀x,x∈tOf c i++[d]↔x∈tOf c' i)(h4:∀j,j < 3->j≠i->∀x,x∈tOf c j↔x∈tOf c' j):
  MvB A H (upd H (A.t i) (.dK (j4 kvs (.inr d.py.shown) v)))/\BxAt (n+1) A c' (upd H (A.t i) (.dK (j4 kvs (.inr d.py.shown) v))):=by
 obtain⟨sJ,sI,pj,iy,sH⟩:=I.ne
 have mv:MvB A H (upd H (A.t i) (.dK (j4 kvs (.inr d.py.shown) v))):=fun b o _ _ _ h _ eb=>jk (h i hi) eb
 have t:=I.tk mv
 have J:=I.mono (dw n)
 obtain⟨k3,v3,v4⟩:=J.vs
 refine⟨mv,jk (iy i hi).1 I.o,I.nd,I.inj,by rw[h1];exact J.st.tk t fun o=>jk (iy i hi).2.1,by rw[h2];exact J.nw.tk t fun o=>jk (iy i hi).2.2,⟨k3,jk (jv v3 e (by intro z;cases z)) v3,v4⟩,fun j hj=>?_,fun j hj=>?_⟩
 .by_cases z:j=i
  .subst z
   exact ((I.t j hi).put e hv hd).congr (aD _) h3
  .exact ((J.t j hj).tk t fun o=>jk fun q=>z (sH j i hj hi q)).congr (aD _) (h4 j hj z)
 .obtain⟨xs,q1,q2⟩:=J.l j hj
  exact⟨xs,jk (jv q1 e (by intro z;cases z)) q1,q2⟩
theorem BxAt.setst(I:BxAt n A c H)(e:H A.st=some (.dK kvs))(hv:Held H (p2 p) v):
  MvB A H (upd H A.st (.dK (j4 kvs (.inr x) v)))/\BxAt (n+1) A (c.setn x p) (upd H A.st (.dK (j4 kvs (.inr x) v))):=by
 obtain⟨sJ,sI,pj,iy,sH⟩:=I.ne
 obtain⟨t,d⟩:=Yf (x:=x) I.st e hv
 have J:=I.mono (dw n)
 obtain⟨k3,v3,v4⟩:=J.vs
 refine⟨fun b o h _ _ _ _ eb=>jk h eb,jk sJ I.o,I.nd,I.inj,?_,J.nw.tk t fun o=>jk pj.symm,⟨k3,jk (jv v3 e (by intro z;cases z)) v3,v4⟩,fun j hj=>(J.t j hj).tk t fun o=>jk (iy j hj).2.1.symm,fun j hj=>?_⟩
 .have:(fun y=>((yg c.nu x p) y).map p2)=yg (fun y=>(c.nu y).map p2) x (p2 p):=by
   funext y;unfold yg;split <;> rfl
  show DAt _ (fun y=>((yg c.nu x p) y).map p2) _ _;rw[this];exact d
 .obtain⟨xs,q1,q2⟩:=J.l j hj
  exact⟨xs,jk (jv q1 e (by intro z;cases z)) q1,q2⟩
variable {r:Str}
theorem BxAt.setnw{d:D}(I:BxAt n A c H)(e:H A.nw=some (.dK kvs))(hv:Held H d v):
  MvB A H (upd H A.nw (.dK (j4 kvs (.inr r) v)))/\BxAt (n+1) A (c.setv r d) (upd H A.nw (.dK (j4 kvs (.inr r) v))):=by
 obtain⟨sJ,sI,pj,iy,sH⟩:=I.ne
 obtain⟨t,d⟩:=Yf (x:=r) I.nw e hv
 have J:=I.mono (dw n)
 obtain⟨k3,v3,v4⟩:=J.vs
 refine⟨fun b o _ h _ _ _ eb=>jk h eb,jk sI I.o,I.nd,I.inj,J.st.tk t fun o=>jk pj,d,⟨k3,jk (jv v3 e (by intro z;cases z)) v3,v4⟩,fun j hj=>(J.t j hj).tk t fun o=>jk (iy j hj).2.2.symm,fun j hj=>?_⟩
 obtain⟨xs,q1,q2⟩:=J.l j hj
 exact⟨xs,jk (jv q1 e (by intro z;cases z)) q1,q2⟩
theorem BxAt.setvs{kvs:List (List Key×V)}{k:List Key}(I:BxAt n A c H)(e:H A.vs=some (.dT kvs))(hl:kvs.length<=n):
  MvB A H (upd H A.vs (.dT (j4 kvs k v)))/\BxAt (n+1) A c (upd H A.vs (.dT (j4 kvs k v))):=by
 have mv:MvB A H (upd H A.vs (.dT (j4 kvs k v))):=fun b o _ _ h _ _ eb=>jk h eb
 have t:=I.tk mv
 have J:=I.mono (dw n)
 obtain⟨k1,h1,_⟩:=I.st
 obtain⟨k2,h2,_⟩:=I.nw
 refine⟨mv,jk (jv I.o e (by intro z;cases z)) I.o,I.nd,I.inj,J.st.tk t fun o=>jk (jv h1 e (by intro z;cases z)),J.nw.tk t fun o=>jk (jv h2 e (by intro z;cases z)),⟨_,jf,aJ (kP _ _ _) (gO hl)⟩,fun j hj=>?_,fun j hj=>?_⟩
 .obtain⟨_,_,q1,_⟩:=I.t j hj
  exact (J.t j hj).tk t fun o=>jk (jv q1 e (by intro z;cases z))
 .obtain⟨xs,q1,q2⟩:=J.l j hj
  exact⟨xs,jk (jv q1 e (by intro z;cases z)) q1,q2⟩
theorem BxAt.addl{xs:List V}(I:BxAt n A c H)(hi:i < 3)(e:H (A.l i)=some (.lst xs))(hl:xs.length<=n):
  MvB A H (upd H (A.l i) (.lst (xs++[v])))/\BxAt (n+1) A c (upd H (A.l i) (.lst (xs++[v]))):=by
 have mv:MvB A H (upd H (A.l i) (.lst (xs++[v]))):=fun b o _ _ _ _ h eb=>jk (h i hi) eb
 have t:=I.tk mv
 have J:=I.mono (dw n)
 obtain⟨k1,h1,_⟩:=I.st
 obtain⟨k2,h2,_⟩:=I.nw
 obtain⟨k3,v3,v4⟩:=J.vs
 refine⟨mv,jk (jv I.o e (by intro z;cases z)) I.o,I.nd,I.inj,J.st.tk t fun o=>jk (jv h1 e (by intro z;cases z)),J.nw.tk t fun o=>jk (jv h2 e (by intro z;cases z)),⟨k3,jk (jv v3 e (by intro z;cases z)) v3,v4⟩,fun j hj=>?_,fun j hj=>?_⟩
 .obtain⟨_,_,q1,_⟩:=I.t j hj
  exact (J.t j hj).tk t fun o=>jk (jv q1 e (by intro z;cases z))
 .obtain⟨ys,q1,q2⟩:=J.l j hj
  by_cases z:j=i
  .rw[z]
   exact⟨_,jf,by rw[bV];exact gO hl⟩
  .exact⟨ys,jk (fun q=>z (I.inj j i hj hi q)) q1,q2⟩
abbrev JT:aF:=top 48
theorem jcV:dE "repr" = some (.builtin "repr"):=by decide +kernel
theorem jax(h:H A.o=some (.dK (zM A)))(e:qH (zM A) (.inr x)=some v):DGet H A.o (.str x) (some v):=.inl ⟨_,.inr x,.inl h,rfl,e.symm⟩
theorem jfO(h:H A.o=some (.dK (zM A))):DGet H A.o (.str "stands") (some (.ref A.st)):=jax h (by rfl)
theorem jfP(h:H A.o=some (.dK (zM A))):DGet H A.o (.str "now") (some (.ref A.nw)):=jax h (by rfl)
theorem jfN(h:H A.o=some (.dK (zM A))):DGet H A.o (.str "versions") (some (.ref A.vs)):=jax h (by rfl)
theorem Kr(h:H A.o=some (.dK (zM A))):DGet H A.o (.str "spots") (some (.ref (A.t 0))):=jax h (by rfl)
theorem jhV(h:H A.o=some (.dK (zM A))):DGet H A.o (.str "ends") (some (.ref (A.t 1))):=jax h (by rfl)
theorem Jy(h:H A.o=some (.dK (zM A))):DGet H A.o (.str "ties") (some (.ref (A.t 2))):=jax h (by rfl)
theorem jhY(h:H A.o=some (.dK (zM A))):DGet H A.o (.str "each") (some (.ref (A.l 0))):=jax h (by rfl)
theorem jhX(h:H A.o=some (.dK (zM A))):DGet H A.o (.str "rise") (some (.ref (A.l 1))):=jax h (by rfl)
theorem jhW(h:H A.o=some (.dK (zM A))):DGet H A.o (.str "puts") (some (.ref (A.l 2))):=jax h (by rfl)
theorem jf8{j:Nat}{ds:List D}(hj:j < 3)(hi:j≠i)(h:i=0):∀x,x∈tOf c j↔x∈tOf ((c.add 2 ds).name r) j:=by
 subst h;intro x;unfold tOf;rw[Qw hi,Qw hi];exact Iff.rfl
inductive spKept(vs:List V)(H:Hp)(Q:VK)(E:XK):Prop
 | mk (a:ad) (v:V) (kvs:List (Key×V)) (d:D) (_:vs=[.ref a,v]) (_:H a=some (.dK kvs)) (_:kvs.length<=990) (_:Held H d v) (_:(∃es,d=.tup es)) (_:Shw d) (_:Q .non (upd H a (.dK (j4 kvs (.inr d.py.shown) v))))
inductive spStandL(vs:List V)(H:Hp)(Q:VK)(E:XK):Prop
 | mk (n:Nat) (A:BA) (c:Cs) (x:Str) (_:vs=[.ref A.o,.str x]) (_:BxAt n A c H) (_:∀v H',Same H H'->Held H' (p2 (c.num x)) v->Q v H')
inductive spSpotL(vs:List V)(H:Hp)(Q:VK)(E:XK):Prop
 | mk (n:Nat) (A:BA) (c:Cs) (x:Str) (d:Int) (v:V) (_:vs=[.ref A.o,v]) (_:BxAt n A c H) (_:Held H (plD x d) v) (_:∀v H',Same H H'->Held H' (p2 (c.spot x d)) v->Q v H')
def jar:D->D
 | .tup [t,u,.tup [v,w,.tup [_,b],k]]=>.tup [t,u,.tup [v,w,b,k]]
 | d=>d
def Z8:D->D
 | .tup [s,a,v,b]=>.tup [b,a,s,v]
 | d=>d
def lL(e:Cs)(i:Nat):List D:=if i=0 then (e.l 4).map jar else if i=1 then e.l 5 else (e.l 3).map Z8
def yP(e:Cs):List D:=e.na.map yl++e.l 0
def kyD:Key->D
 | .inl i=>.int i
 | .inr s=>.str s
def kD(k:List Key):D:=.tup (k.map kyD)
structure XE(A:BA)(e:Cs)(H:Hp):Prop where
 vs:∃kvs:List (List Key×V),H A.vs=some (.dT kvs)/\(kvs.map (·.1)).Nodup/\∀d,d∈(kvs.map (·.1)).map kD↔d∈yP e
 l:∀i,i < 3->∃xs,H (A.l i)=some (.lst xs)/\HeldL H (lL e i) xs
variable {e:Cs}
theorem XE.keep(X:XE A e H)(t:TK H H')(k:∀a o,H a=some o->(a=A.vs\/∃i,i < 3/\a=A.l i)->H' a=some o):XE A e H':=by
 obtain⟨kvs,h1,h2,h3⟩:=X.vs;refine⟨⟨kvs,k _ _ h1 (.inl rfl),h2,h3⟩,fun i hi=>?_⟩;obtain⟨xs,h4,h5⟩:=X.l i hi;exact⟨xs,k _ _ h4 (.inr ⟨i,hi,rfl⟩),t.heldL h5⟩
theorem XE.same(X:XE A e H)(s:Same H H'):XE A e H':=X.keep (.same s) fun a o h _=>s a o h
variable {e':Cs}
theorem XE.congr(X:XE A e H)(h1:∀d,d∈yP e↔d∈yP e')(h2:∀i,i < 3->lL e i=lL e' i):XE A e' H:=by
 obtain⟨kvs,k1,k2,k3⟩:=X.vs;refine⟨⟨kvs,k1,k2,fun d=>(k3 d).trans (h1 d)⟩,fun i hi=>?_⟩;rw[<- h2 i hi];exact X.l i hi
theorem XE.put{Co:List (Key×V)}(X:XE A e H)(h:H a=some (.dK kvs)):XE A e (upd H a (.dK Co)):=by
 refine X.keep (fun b xs eb=>jk (jv eb h (by intro z;cases z)) eb) fun b o eb hb=>jk (fun z=>?_) eb
 subst z;rcases hb with rfl | ⟨i,hi,rfl⟩
 .obtain⟨_,k1,_⟩:=X.vs
  rw[k1]at h;cases h
 .obtain⟨_,k1,_⟩:=X.l i hi
  rw[k1]at h;cases h
theorem ja7{kvs:List (List Key×V)}{k:List Key}(v:V)(h:k∈kvs.map (·.1)):(j4 kvs k v).map (·.1)=kvs.map (·.1):=by
 unfold j4;rw[Qx ?_,fM]
 .refine F0 fun p _=>?_
  show (if p.1=k then (p.1,v) else p).1=p.1;split <;> rfl
 .obtain⟨p,h1,h2⟩:=bq.mp h
  exact gw.mpr ⟨p,h1,Qu h2⟩
theorem Zv{kvs:List (List Key×V)}{k:List Key}(v:V)(h:k ∉ kvs.map (·.1)):(j4 kvs k v).map (·.1)=kvs.map (·.1)++[k]:=by
 unfold j4;rw[Qw ?_,aX]
 .rfl
 .intro z
  obtain⟨p,h1,h2⟩:=gw.mp z;exact h (bq.mpr ⟨p,h1,Qt h2⟩)
theorem XE.setvs{kvs:List (List Key×V)}{k:List Key}(X:XE A e H)(h:H A.vs=some (.dT kvs))(h1:∀d,d∈yP e'↔d∈yP e\/d=kD k)(h2:∀i,i < 3->lL e i=lL e' i):XE A e' (upd H A.vs (.dT (j4 kvs k v))):=by
 obtain⟨ks,k1,k2,k3⟩:=X.vs;obtain rfl:ks=kvs:=by rw[k1]at h;cases h;rfl
 refine⟨⟨_,jf,?_,fun d=>?_⟩,fun i hi=>?_⟩
 .by_cases z:k∈ks.map (·.1)
  .rw[ja7 _ z];exact k2
  .rw[Zv _ z,vt]
   exact⟨k2,by simp,fun x hx y hy=>by cases aN.mp hy;exact fun w=>z (by rw[<- w];exact hx)⟩
 .rw[h1,<- k3]
  by_cases z:k∈ks.map (·.1)
  .rw[ja7 _ z]
   exact⟨.inl,fun w=>w.elim id fun y=>by rw[y];exact bq.mpr ⟨k,z,rfl⟩⟩
  .rw[Zv _ z,aX,bK]
   exact or_congr Iff.rfl (by rw[aU,eJ,aN])
 .obtain⟨xs,q1,q2⟩:=X.l i hi
  refine⟨xs,jk (jv q1 h (by intro z;cases z)) q1,?_⟩;rw[<- h2 i hi];exact TK.heldL (fun b xs eb=>jk (jv eb h (by intro z;cases z)) eb) q2
theorem XE.addl{xs:List V}{d:D}(X:XE A e H)(inj:∀i j,i < 3->j < 3->A.l i=A.l j->i=j)(hi:i < 3)(h:H (A.l i)=some (.lst xs))(hv:Held H d v)(h0:∀z,z∈yP e↔z∈yP e')(h1:lL e' i=lL e i++[d])(h2:∀j,j < 3->j≠i->lL e j=lL e' j):XE A e' (upd H (A.l i) (.lst (xs++[v]))):=by
 have t:TK H (upd H (A.l i) (.lst (xs++[v]))):=fun b ws eb=>jk (jv eb h (by intro z;cases z)) eb
 obtain⟨ks,k1,k2,k3⟩:=X.vs;refine⟨⟨ks,jk (jv k1 h (by intro z;cases z)) k1,k2,fun d=>(k3 d).trans (h0 d)⟩,fun j hj=>?_⟩;by_cases z:j=i
 .subst z
  obtain⟨ys,q1,q2⟩:=X.l j hj;obtain rfl:ys=xs:=by rw[q1]at h;cases h;rfl
  rw[h1];exact⟨_,jf,jT (t.heldL q2) (jc (t.held hv) jl)⟩
 .obtain⟨ys,q1,q2⟩:=X.l j hj
  rw[<- h2 j hj z];exact⟨ys,jk (fun w=>z (inj j i hj hi w)) q1,t.heldL q2⟩
theorem BxAt.putX{d:D}(I:BxAt n A c H)(X:XE A e H)(hi:i < 3)(h:H (A.t i)=some (.dK kvs))(hv:Held H d v)(hd:OkD d)(h1:c'.nu=c.nu)(h2:c'.ve=c.ve)(h3:∀x,x∈tOf c i++[d]↔x∈tOf c' i)(h4:∀j,j < 3->j≠i->∀x,x∈tOf c j↔x∈tOf c' j):
  MvB A H (upd H (A.t i) (.dK (j4 kvs (.inr d.py.shown) v)))/\BxAt (n+1) A c' (upd H (A.t i) (.dK (j4 kvs (.inr d.py.shown) v)))/\XE A e (upd H (A.t i) (.dK (j4 kvs (.inr d.py.shown) v))):=⟨(I.put hi h hv hd h1 h2 h3 h4).1,(I.put hi h hv hd h1 h2 h3 h4).2,X.put h⟩
theorem Kf{d:D}:d∈yP (e.name r)↔d∈yP e\/d=yl r:=by
 show d∈(jce e.na r).map yl++e.l 0↔d∈e.na.map yl++e.l 0\/d=yl r;unfold jce;split
 .rename_i h
  refine⟨.inl,fun w=>w.elim id fun y=>?_⟩;rw[y];exact vx _ (bq.mpr ⟨r,h,rfl⟩)
 .rw[aX]
  simp only[bK,aU,eJ,aN];constructor
  .rintro ((h | h) | h)
   .exact .inl (.inl h)
   .exact .inr h
   .exact .inl (.inr h)
  .rintro ((h | h) | h)
   .exact .inl (.inl h)
   .exact .inr h
   .exact .inl (.inr h)
inductive spVerL(vs:List V)(H:Hp)(Q:VK)(E:XK):Prop
 | mk (n:Nat) (A:BA) (c e:Cs) (r:Str) (_:vs=[.ref A.o,.str r]) (_:BxAt n A c H) (_:XE A e H) (_:n<=980) (_:∀v H',MvB A H H'->BxAt (n+1) A c H'->XE A (e.name r) H'->Held H' (c.ver r) v->Q v H')
inductive spSrc(vs:List V)(H:Hp)(Q:VK)(E:XK):Prop
 | mk (n m:Nat) (A:BA) (c e:Cs) (t:Tm) (v:V) (_:vs=[.ref A.o,v]) (_:BxAt n A c H) (_:XE A e H) (_:n<=970) (_:Held H t.toD v) (_:m<=90) (_:(∀r x d,t=.at_ r x d->Gp m (c.spot x d))) (_:∀v H',MvB A H H'->BxAt (n+2) A (c.stand t).2 H'->XE A (e.stand t).2 H'->Held H' (p2 (c.stand t).1) v->Q v H')
section
theorem jgY(F:Fun K "_law_kept" "_law_kept" Zl f fd)(oj:mg "repr" = none):FnOk P w K mg base CX0 14 f fd ["_law_some","_law_one"] spKept:=by
 have sc:FnScope ["_law_some","_law_one"] ["_law_some","_law_one"] (jm Zl):=fQ;refine F.okZ sc (fun ax A outer s H vs Q E hr h=>?_);have hu:(A.deeper (cA "_law_kept" (jm Zl) s.heap.objs.size f ax)).units+1 < cLine:=by have:=hr.un;omega
 have dZ:(A.deeper (cA "_law_kept" (jm Zl) s.heap.objs.size f ax)).units+2+200 < cLine:=by have:=hr.un;omega
 obtain⟨a,v,kvs,d,rfl,ha,hl,hv,⟨es,rfl⟩,hw,q⟩:=h;refine⟨_,(ji (kC hu (zpv 0) (zh (jdT hr.gd (n:=200) dZ) (by rfl) oj jcV (ja (zpv 1) jb)) (zpv 1) rfl)),?_⟩;refine jH (σ':=[some (.ref a),some v]) rfl ?_
 try dsimp only[kx]
 obtain⟨t,xs,rfl,ht,hx⟩:=jE hv;exact⟨_,rfl,_,rfl,_,rfl,t,_,rfl,hv,hw.2.1,hw.1,hw.2.2,a,_,rfl,.k (k:=.inr _) ha (jJ (by omega)),q⟩
theorem jds(F:Fun K "_law_stand" "_law_stand" Yy f fd):FnOk P w K mg base CX0 1 f fd ["_law_box","_law_x"] spStandL:=by
 have sc:FnScope ["_law_box","_law_x"] ["_law_box","_law_x"] (jm Yy):=fQ;refine F.okZ sc (fun ax A outer s H vs Q E hr h=>?_);have hu:(A.deeper (cA "_law_stand" (jm Yy) s.heap.objs.size f ax)).units+1 < cLine:=by have:=hr.units;omega
 obtain⟨n,B,c,x,rfl,I,q⟩:=h;refine⟨_,(jd (jN (jD ku (zpv 1) jq (jI _)) (ji (jC (zpd (j9 (jt (j9 (jt qb jR)) (jt zn jR)))))) jL)
   (ji (jC (Jk hu (jO hu (zpv 0) jq (fun _ _=>rfl)) (zpv 1) (zpd (j9 (jt (j9 (jt qb (jt (kB 1) jR))) (jt zn jR)))) ⟨rfl,rfl,rfl,rfl⟩)))),?_⟩
 refine jH (σ':=[some (.ref B.o),some (.str x)]) rfl ?_
 try dsimp only[kx]
 obtain⟨kvs,h1,_,h3⟩:=I.st;unfold Cs.num at q;refine⟨_,rfl,rfl,_,rfl,yK (fun d=>?_) (fun d=>?_)⟩
 .rw[Qx (V.str.inj (Qt d))]at q
  exact⟨p2 Yb,⟨_,rfl,bw rfl,_,_,rfl,⟨_,rfl,bw rfl,_,_,rfl,rfl,rfl⟩,_,_,rfl,rfl,rfl⟩,fun v H' s h=>q v H' s h⟩
 .rw[Qw (fun e=>d (Qu (Qz V.str e)))]at q
  refine⟨_,rfl,B.o,_,rfl,jfO I.o,B.st,rfl,.inl ⟨kvs,.inl h1⟩,_,rfl,p2 (ZT x),⟨_,rfl,bw rfl,_,_,rfl,⟨_,rfl,bw rfl,_,_,rfl,rfl,_,_,rfl,⟨_,rfl,jF⟩,rfl⟩,_,_,rfl,rfl,rfl⟩,fun v H' s h=>⟨_,.k (k:=.inr x) (s _ _ h1),?_⟩⟩
  cases e:c.nu x with
  | none=>
   rw[(h3 x).1 (by show (c.nu x).map p2=none;rw[e];rfl)];rw[e]at q;exact q _ _ s h
  | some p=>
   obtain⟨u,u1,u2⟩:=(h3 x).2 (p2 p) (by show (c.nu x).map p2=_;rw[e];rfl);rw[u1];rw[e]at q;exact q _ _ s (u2.mono s)
theorem jfd(F:Fun K "_law_spot" "_law_spot" Z2 f fd)(iN:Fn P w K mg base 1 "_law_stand" ["_law_box","_law_x"] spStandL)(cY:Fn P w K mg base 1 "_law_more" ["_law_one","_law_more_here"] spMore):FnOk P w K mg base CX0 2 f fd ["_law_box","_law_place_here"] spSpotL:=by
 have sc:FnScope ["_law_box","_law_place_here"] ["_law_box","_law_place_here"] (jm Z2):=fQ;refine F.okZ sc (fun ax A outer s H vs Q E hr h=>?_);obtain⟨n,A,c,x,d,v,rfl,I,hv,q⟩:=h;refine⟨_,(ji (jC (jg cY hr (ja (jg iN hr (ja (zpv 0) (ja (jr jw (zpv 1) je (fun _ _=>rfl)) jb))) (ja (jr jw (zpv 1) je (fun _ _=>rfl)) jb))))),?_⟩;refine jH (σ':=[some (.ref A.o),some v]) rfl ?_
 try dsimp only[kx]
 obtain⟨t,rfl,ht⟩:=JC hv;exact⟨_,rfl,_,rfl,t,_,_,_,rfl,rfl,SqT.of ht,jh (j:=0) rfl,n,A,c,x,rfl,I,fun v H1 s1 h1=>⟨_,rfl,t,_,_,_,rfl,rfl,SqT.of (s1 _ _ ht),jh (j:=1) rfl,v,d,_,rfl,h1,fun v H2 s2 h2=>q v H2 (s1.trans s2) h2⟩⟩
theorem jgN(F:Fun K "_law_version" "_law_version" y7 f fd):FnOk P w K mg base CX0 1 f fd ["_law_box","_law_r"] spVerL:=by
 have sc:FnScope ["_law_box","_law_r"] ["_law_box","_law_r"] (jm y7):=fQ;refine F.okZ sc (fun ax A outer s H vs Q E hr h=>?_);have hu:(A.deeper (cA "_law_version" (jm y7) s.heap.objs.size f ax)).units+1 < cLine:=by have:=hr.units;omega
 obtain⟨n,B,c,e,r,rfl,I,X,hn,q⟩:=h;refine⟨_,(jd (kC hu (jO hu (zpv 0) jq (fun _ _=>rfl)) (jQ (ja jq (ja (zpv 1) jb))) yB rfl)
   (ji (jC (Jk hu (jO hu (zpv 0) jq (fun _ _=>rfl)) (zpv 1) (jQ (ja jq (ja (zpv 1) jb))) ⟨rfl,rfl,rfl,rfl⟩)))),?_⟩
 refine jH (σ':=[some (.ref B.o),some (.str r)]) rfl ?_
 try dsimp only[kx]
 obtain⟨ks,j1,j2⟩:=I.vs;refine⟨_,rfl,B.o,_,rfl,jfN I.o,_,rfl,sm rfl,fun p hp=>?_⟩;have s1:=jj hp (.tup [.str "row",.str r]);have e1:upd H p (.tup [.str "row",.str r]) p=some (.tup (([.inr "row",.inr r]:List Key).map kV)):=jf;have I1:=I.same s1;have X1:=X.same s1;generalize upd H p (.tup [.str "row",.str r])=H1 at *;refine⟨B.vs,_,rfl,.t (k:=[.inr "row",.inr r]) (s1 _ _ j1) e1 (jJ (by omega)),?_⟩;obtain⟨m2,I2⟩:=I1.setvs (k:=[.inr "row",.inr r]) (v:=.bl true) (s1 _ _ j1) j2;have X2:XE B (e.name r) _:=X1.setvs (k:=[.inr "row",.inr r]) (v:=.bl true) (s1 _ _ j1) (fun d=>Kf) (fun _ _=>rfl);generalize upd H1 B.vs _=H2 at *;have M2:=(MvB.same s1).trans m2;obtain⟨kvs,k1,_,k3⟩:=I2.nw;refine⟨_,rfl,B.o,_,rfl,jfP I2.o,B.nw,rfl,.inl ⟨kvs,.inl k1⟩,_,rfl,_,rfl,sm rfl,fun p hp=>?_⟩;have s3:=jj hp (.tup [.str "row",.str r]);refine⟨_,.k (k:=.inr r) (s3 _ _ k1),?_⟩;have m3:=M2.trans (.same s3)
 cases e':c.ve r with
 | none=>
  rw[(k3 r).1 e'];exact q _ _ m3 (I2.same s3) (X2.same s3) (by unfold Cs.ver;rw[e'];exact jK jf (jc jF (jc jF jl)))
 | some d=>
  obtain⟨u,u1,u2⟩:=(k3 r).2 d e';rw[u1];exact q _ _ m3 (I2.same s3) (X2.same s3) (by unfold Cs.ver;rw[e'];exact u2.mono s3)
theorem jiB(F:Fun K "_law_source" "_law_source" JT f fd)(iN:Fn P w K mg base 1 "_law_stand" ["_law_box","_law_x"] spStandL)(e_:Fn P w K mg base 2 "_law_spot" ["_law_box","_law_place_here"] spSpotL)(cS:Fn P w K mg base 14 "_law_kept" ["_law_some","_law_one"] spKept)(dO:Fn P w K mg base 1 "_law_version" ["_law_box","_law_r"] spVerL)(cZ:Fn P w K mg base 1 "_law_entry" ["_law_version_here","_law_spot_here"] spEnt):FnOk P w K mg base CX0 15 f fd ["_law_box","_law_term_here"] spSrc:=by
 have sc:FnScope ["_law_box","_law_term_here","_law_spot_here"] ["_law_box","_law_term_here"] (jm JT):=fQ;refine F.okZ sc (fun ax A outer s H vs Q E hr h=>?_);have hu:(A.deeper (cA "_law_source" (jm JT) s.heap.objs.size f ax)).units+1 < cLine:=by have:=hr.units;omega
 obtain⟨n,m,B,c,e,t,v,rfl,I,X,hn,hv,hm,hg,q⟩:=h;refine⟨_,(jd (jN (jD ku (jr jw (zpv 1) je (fun _ _=>rfl)) jq (jI _)) (ji (jC (jg iN hr (ja (zpv 0) (ja (jr jw (zpv 1) je (fun _ _=>rfl)) jb))))) jL)
   (jd (jy (i:=2) sc.nd rfl oQ (jg e_ hr (ja (zpv 0) (ja (jr jw (zpv 1) je (fun _ _=>rfl)) jb))))
   (jd (jA (jg cS hr (ja (jO hu (zpv 0) jq (fun _ _=>rfl)) (ja (zpv 2) jb))))
   (ji (jC (jg cZ hr (ja (jg dO hr (ja (zpv 0) (ja (jr jw (zpv 1) je (fun _ _=>rfl)) jb))) (ja (zpv 2) jb)))))))),?_⟩
 refine jH (σ':=[some (.ref B.o),some v,none]) rfl ?_
 try dsimp only[kx]
 refine YN ?_;intro _ _ _;rcases jel hv with⟨x,a,rfl,rfl,ha⟩ | ⟨r,x,d,a,u,rfl,rfl,ha,pH⟩
 .refine⟨_,rfl,a,_,_,_,rfl,rfl,SqT.of ha,jh (j:=0) rfl,rfl,_,rfl,kR ?_⟩
  exact⟨_,rfl,_,rfl,a,_,_,_,rfl,rfl,SqT.of ha,jh (j:=1) rfl,n,B,c,x,rfl,I,fun v H' s h=>q v H' (.same s) ((I.same s).mono (by omega)) (X.same s) h⟩
 .refine⟨_,rfl,a,_,_,_,rfl,rfl,SqT.of ha,jh (j:=0) rfl,rfl,_,rfl,kA ?_⟩
  refine⟨_,rfl,_,rfl,a,_,_,_,rfl,rfl,SqT.of ha,jh (j:=2) rfl,n,B,c,x,d,u,rfl,I,pH,fun v H1 s1 hv=>?_⟩;refine jH (σ':=[some (.ref B.o),some (.ref a),some v]) rfl ?_;have I1:=I.same s1;have X1:=X.same s1;have ht:=I1.t 0 (by decide);obtain⟨ds,kvs,l1,_,_,_,_,_,l3⟩:=ht;have hs:=(hg r x d rfl).shw hm;refine⟨_,rfl,B.o,_,rfl,Kr I1.o,_,rfl,B.t 0,v,kvs,_,rfl,l1,by omega,hv,⟨_,rfl⟩,hs,?_⟩;obtain⟨m2,I2,X2⟩:=I1.putX X1 (c':=(c.stand (.at_ r x d)).2) (i:=0) (by decide) l1 hv hs.1 rfl rfl (fun _=>Iff.rfl) (fun j hj mD=>jf8 hj mD rfl);have t2:=I1.tk m2;have ml:=t2.held hv;have eU:=t2 _ _ (s1 _ _ ha);generalize upd H1 (B.t 0) _=H2 at *;refine⟨_,rfl,_,rfl,a,_,_,_,rfl,rfl,SqT.of eU,jh (j:=1) rfl,n+1,B,_,e,r,rfl,I2,X2,by omega,fun u H3 m3 I3 X3 pG=>?_⟩;have t3:=I2.tk m3;refine⟨_,rfl,u,v,_,_,rfl,pG,t3.held ml,fun y H4 s4 h4=>?_⟩;exact q y H4 (((MvB.same s1).trans m2).trans (m3.trans (.same s4))) (I3.same s4) (XE.same (XE.congr (e':=(e.stand (.at_ r x d)).2) X3 (fun _=>Iff.rfl) (fun _ _=>rfl)) s4) h4
end
end LW
namespace L2
open PySem PySem.Spec PyProof.Rows
variable {X:Cx}{ae:List (ad×Obj)}{s:ai}{σ:St}{H:Hp}
theorem Vals.back:∀{xs:List V} {us:List ag} {i:Nat} {u:ag},Vals xs us->us[i]?=some u->∃x,xs[i]?=some x/\RelV x u
 | _,_,_,_,.nil,e=>by simp at e
 | _,_,0,_,.cons r _,e=>by simp at e;subst e;exact⟨_,rfl,r⟩
 | _,_,i+1,_,.cons _ t,e=>by simp only[List.getElem?_cons_succ]at e |-;exact Vals.back t e
open Classical in
theorem jjX(I:Inv X ae σ H s){n:Nat}{A:aS}{d:D}{ds:List D}{x:V}{v:ag}{xs:List V}{its:List ag}(hd:D.depthL ds<=n)(hA:A.units+n < cLine)(hx:Held H d x)(ci:HeldL H ds xs)(rx:RelV x v)(rv:Vals xs its):
  ∃f:ag->Bool,(∀u∈its,rL A s u v (f u))/\its.any f=decide (d∈ds):=by
 have l1:=ci.length
 have l3:=rv.length
 have one:∀(j:Nat) u,its[j]?=some u->∃d' x',ds[j]?=some d'/\Held H d' x'/\RelV x' u:=by
  intro j u e;obtain⟨x',h1,h2⟩:=rv.back e;have hj:j < ds.length:=by
   have:=(bL.mp h1).1;omega
  obtain⟨x'',g1,g2⟩:=ci.get (aK hj);rw[g1]at h1
  cases h1
  exact⟨_,_,aK hj,g2,h2⟩
 refine⟨fun u=>decide (∃x',RelV x' u/\Held H d x'),fun u hu=>?_,?_⟩
 .obtain⟨j,hj,e⟩:=rS.mp hu
  obtain⟨d',x',h1,h2,h3⟩:=one j u (bL.mpr ⟨hj,e⟩)
  have key:=jcO I n A d' d x' x u v (by have:=D.depthL_get h1;omega) hA h2 hx h3 rx
  have:dEq d' d=decide (∃x',RelV x' u/\Held H d x'):=by
   rw[jcS];by_cases h:d'=d
   .subst h
    rw[Qu rfl,Qu ⟨x',h3,h2⟩]
   .rw[Qv h,Qv]
    rintro⟨x2,g1,g2⟩;rw[RelV.inj g1 h3]at g2;exact h (Kj h2 g2)
  rw[this]at key
  exact key
 .apply nC.mpr
  rw[gw,decide_eq_true_iff]
  constructor
  .rintro⟨u,hu,h⟩
   obtain⟨x2,g1,g2⟩:=Qt h
   obtain⟨j,hj,e⟩:=rS.mp hu
   obtain⟨d',x',h1,h2,h3⟩:=one j u (bL.mpr ⟨hj,e⟩)
   rw[RelV.inj g1 h3]at g2
   rw[Kj g2 h2]
   exact FY.mpr ⟨j,h1⟩
  .intro h
   obtain⟨j,hj⟩:=FY.mp h
   obtain⟨x',g1,g2⟩:=ci.get hj
   obtain⟨u,g3,g4⟩:=rv.get g1
   exact⟨u,FY.mpr ⟨j,g3⟩,Qu ⟨x',g4,g2⟩⟩
variable {X:Cx}
theorem jgM(n:Nat)(hu:X.A.units+1+n < cLine):OpR X (fe .In) (fun x y H Q=>∃p xs d ds,y=.ref p/\H p=some (.tup xs)/\D.depthL ds<=n/\Held H d x/\HeldL H ds xs/\Q (.bl (decide (d∈ds))) H):=by
 intro ae s σ H x y v u Q I rx ry h;obtain⟨p,xs,d,ds,rfl,hp,hd,hx,ci,q⟩:=h
 cases ry
 obtain⟨its,r,pl,hz⟩:=I.tuple (SqT.of hp);obtain⟨f,h1,h2⟩:=jjX I (A:=X.A.in1) hd (by show X.A.units+1+n < cLine;exact hu) hx ci rx r;refine SeqAt.in_tupleAt f pl (fun w hw=>h1 w (by simpa using hw)) ⟨.bl _,H,I,rfl,?_⟩;rw[show its.toArray.any f=its.any f by simp,h2];exact q
end L2
namespace LW
open PySem L2
abbrev J0:aF:=top 49
abbrev YA:aF:=top 50
def Cs.facing(c:Cs):Bd->D
 | .is x=>p2 (c.num x)
 | .row q=>c.ver q
def agD(c:Cs)(r way:Str)(b:Bd)(k:Int):D:=.tup [c.ver r,.str way,c.facing b,.int k]
inductive spAgainst(vs:List V)(H:Hp)(Q:VK)(E:XK):Prop
 | mk (n:Nat) (A:BA) (c e:Cs) (t u:Str) (td ud:Int) (r way:Str) (b:Bd) (k:Int) (v:V) (_:vs=[.ref A.o,v]) (_:BxAt n A c H) (_:XE A e H) (_:n<=970) (_:Held H (Cl.each t td u ud r way b k).toD v) (_:∀v H',MvB A H H'->BxAt (n+2) A c H'->XE A (e.body r way b k).2 H'->Held H' (agD c r way b k) v->Q v H')
inductive spBodyL(vs:List V)(H:Hp)(Q:VK)(E:XK):Prop
 | mk (ab:Bool) (c:Cs) (r way:Str) (b:Bd) (k:Int) (s:P2) (v u:V) (_:vs=[v,u,.bl ab]) (_:Held H (agD c r way b k) v) (_:Held H (p2 s) u) (_:(∀q,b=.row q->Ver (c.ver q))) (_:(∀x,b=.is x->∃es,(c.num x).1=.tup es)) (_:∀v H',Same H H'->Held H' (if ab=true then KO (qw (c.ver r) way (c.bnd b s) k s) else qw (c.ver r) way (c.bnd b s) k s) v->Q v H')
theorem Ver.shape{v:D}(h:Ver v):∃a e,v=.tup [.str a,e]/\(.str a:D)∈[D.str "row",.str "lost",.str "put"]:=by
 cases h with
 | row h=>exact⟨_,_,rfl,by simp⟩
 | lost h=>exact⟨_,_,rfl,by simp⟩
 | put h=>exact⟨_,_,rfl,by simp⟩
theorem jej(v:D)(b s:P2)(k:Int):KO (kT (mor b k) (jW v s))=kT (jW v s) (mor b (k - 1)):=by
 show D.tup [_,_,D.int (-1 - (0 - (b.2+k)))]=D.tup [_,_,D.int (b.2+(k - 1) - 0)];rw[show -1 - (0 - (b.2+k))=b.2+(k - 1) - 0 by omega];rfl
theorem jei(v:D)(b s:P2)(k:Int):KO (kT (jW v s) (mor b k))=kT (mor b (k+1)) (jW v s):=by
 show D.tup [_,_,D.int (-1 - (b.2+k - 0))]=D.tup [_,_,D.int (0 - (b.2+(k+1)))];rw[show -1 - (b.2+k - 0)=0 - (b.2+(k+1)) by omega];rfl
variable {P:aE}{w:aB}{K:aw}{mg:Str->Option ag}{base:ar}{f:ad}{fd:aL}
section
theorem jbP(F:Fun K "_law_against" "_law_against" J0 f fd)(dO:Fn P w K mg base 1 "_law_version" ["_law_box","_law_r"] spVerL)(iN:Fn P w K mg base 1 "_law_stand" ["_law_box","_law_x"] spStandL):FnOk P w K mg base CX0 2 f fd ["_law_box","_law_claim_here"] spAgainst:=by
 have sc:FnScope ["_law_box","_law_claim_here"] ["_law_box","_law_claim_here"] (jm J0):=fQ;refine F.okZ sc (fun ax A outer s H vs Q E hr h=>?_);obtain⟨n,B,c,e,t,u,td,ud,r,way,b,k,v,rfl,I,X,hn,hv,q⟩:=h;refine⟨_,(jd (jN (jD ku (jr jw (jr jw (zpv 1) je (fun _ _=>rfl)) je (fun _ _=>rfl)) jq (jI _)) (ji (jC (jQ (ja (jg dO hr (ja (zpv 0) (ja (jr jw (zpv 1) je (fun _ _=>rfl)) jb))) (ja (jr jw (zpv 1) je (fun _ _=>rfl)) (ja (jg iN hr (ja (zpv 0) (ja (jr jw (jr jw (zpv 1) je (fun _ _=>rfl)) je (fun _ _=>rfl)) jb))) (ja (jr jw (zpv 1) je (fun _ _=>rfl)) jb))))))) jL)
   (ji (jC (jQ (ja (jg dO hr (ja (zpv 0) (ja (jr jw (zpv 1) je (fun _ _=>rfl)) jb))) (ja (jr jw (zpv 1) je (fun _ _=>rfl)) (ja (jg dO hr (ja (zpv 0) (ja (jr jw (jr jw (zpv 1) je (fun _ _=>rfl)) je (fun _ _=>rfl)) jb))) (ja (jr jw (zpv 1) je (fun _ _=>rfl)) jb)))))))),?_⟩
 refine jH (σ':=[some (.ref B.o),some v]) rfl ?_
 try dsimp only[kx]
 obtain⟨t,va,vb,x,rfl,ht,_,_,hb⟩:=yt hv;have fin:∀{y z:V} {G:Hp},MvB B H G->BxAt (n+2) B c G->XE B (e.body r way b k).2 G->Held G (c.ver r) y->Held G (c.facing b) z->∀o,G o=none->Q (.ref o) (upd G o (.tup [y,.str way,z,.int k])):=fun {y z G} m J JX hy hz o ho=>by
  have s5:=jj ho (.tup [y,.str way,z,.int k]);exact q _ _ (m.trans (.same s5)) (J.same s5) (JX.same s5) (jK jf (jc (hy.mono s5) (jc jF (jc (hz.mono s5) (jc jP jl)))))
 rcases b with x' | r'
 .refine⟨_,rfl,t,_,_,_,rfl,rfl,SqT.of ht,jh (j:=5) rfl,x,_,_,_,rfl,rfl,SqT.of hb,jh (j:=0) rfl,rfl,_,rfl,kR ?_⟩
  refine⟨_,rfl,_,rfl,t,_,_,_,rfl,rfl,SqT.of ht,jh (j:=3) rfl,n,B,c,e,r,rfl,I,X,by omega,fun y H1 m1 I1 X1 hy=>?_⟩;have t1:=I.tk m1;refine⟨_,rfl,t,_,_,_,rfl,rfl,SqT.of (t1 _ _ ht),jh (j:=4) rfl,_,rfl,_,rfl,t,_,_,_,rfl,rfl,SqT.of (t1 _ _ ht),jh (j:=5) rfl,x,_,_,_,rfl,rfl,SqT.of (t1 _ _ hb),jh (j:=1) rfl,n+1,B,c,x',rfl,I1,fun z H2 s2 hz=>?_⟩;exact⟨_,rfl,t,_,_,_,rfl,rfl,SqT.of (s2 _ _ (t1 _ _ ht)),jh (j:=6) rfl,sm rfl,fun o ho=>fin (m1.trans (.same s2)) ((I1.same s2).mono (by omega)) (X1.same s2) (hy.mono s2) hz o ho⟩
 .refine⟨_,rfl,t,_,_,_,rfl,rfl,SqT.of ht,jh (j:=5) rfl,x,_,_,_,rfl,rfl,SqT.of hb,jh (j:=0) rfl,rfl,_,rfl,kA ?_⟩
  refine⟨_,rfl,_,rfl,t,_,_,_,rfl,rfl,SqT.of ht,jh (j:=3) rfl,n,B,c,e,r,rfl,I,X,by omega,fun y H1 m1 I1 X1 hy=>?_⟩;have t1:=I.tk m1;refine⟨_,rfl,t,_,_,_,rfl,rfl,SqT.of (t1 _ _ ht),jh (j:=4) rfl,_,rfl,_,rfl,t,_,_,_,rfl,rfl,SqT.of (t1 _ _ ht),jh (j:=5) rfl,x,_,_,_,rfl,rfl,SqT.of (t1 _ _ hb),jh (j:=1) rfl,n+1,B,c,_,r',rfl,I1,X1,by omega,fun z H2 m2 I2 X2 hz=>?_⟩;have t2:=I1.tk m2;exact⟨_,rfl,t,_,_,_,rfl,rfl,SqT.of (t2 _ _ (t1 _ _ ht)),jh (j:=6) rfl,sm rfl,fun o ho=>fin (m1.trans m2) I2 X2 (t2.held hy) hz o ho⟩
theorem jfm(F:Fun K "_law_body" "_law_body" YA f fd)(B:Free0 mg)(cZ:Fn P w K mg base 1 "_law_entry" ["_law_version_here","_law_spot_here"] spEnt)(cY:Fn P w K mg base 1 "_law_more" ["_law_one","_law_more_here"] spMore)(cg:Fn P w K mg base 1 "_law_tie" ["_law_one","_law_other"] spAtM):FnOk P w K mg base CX0 2 f fd ["_law_body_here","_law_spot_here","_law_about"] spBodyL:=by
 have sc:FnScope ["_law_body_here","_law_spot_here","_law_about","_law_here","_law_there"] ["_law_body_here","_law_spot_here","_law_about"] (jm YA):=fQ;refine F.okZ sc (fun ax A outer s H vs Q E hr h=>?_);have dZ:(A.deeper (cA "_law_body" (jm YA) s.heap.objs.size f ax)).units+1+8 < cLine:=by have:=hr.units;omega
 obtain⟨ab,c,r,way,b,k,p,v,u,rfl,hv,hu,hb,cV,q⟩:=h;refine⟨_,(jd (jy (i:=3) sc.nd rfl oQ (jg cZ hr (ja (jr jw (zpv 0) je (fun _ _=>rfl)) (ja (zpv 1) jb))))
   (jd (jy (i:=4) sc.nd rfl oQ (jr jw (zpv 0) je (fun _ _=>rfl)))
   (jd (Yi (jN (jD (jgM 8 dZ) (jr jw (zpv 4) je (fun _ _=>rfl)) (jQ (ja jq (ja jq (ja jq jb)))) rfl) (ji (jy (i:=4) sc.nd rfl oQ (jg cZ hr (ja (zpv 4) (ja (zpv 1) jb))))) jL))
   (jd (jN (jD jhM (zC ku (jr jw (zpv 0) je (fun _ _=>rfl)) jq (jI _)) (zpv 2) (jI _)) (ji (jC (jg cg hr (ja (jg cY hr (ja (zpv 4) (ja (js qr (jr jw (zpv 0) je (fun _ _=>rfl)) (yA zw (by rfl) B.int_ KN (ja (zpv 2) jb))) jb))) (ja (zpv 3) jb))))) jL)
   (ji (jC (jg cg hr (ja (zpv 3) (ja (jg cY hr (ja (zpv 4) (ja (js zo (jr jw (zpv 0) je (fun _ _=>rfl)) (yA zw (by rfl) B.int_ KN (ja (zpv 2) jb))) jb))) jb))))))))),?_⟩
 refine jH (σ':=[some v,some u,some (.bl ab),none,none]) rfl ?_
 try dsimp only[kx]
 refine jhS ?_;intro _ _ _ _;obtain⟨t,x1,x2,x3,x4,rfl,ht,g1,g2,g3,g4⟩:=zJ hv
 cases jx g2
 cases kg g4
 refine⟨_,rfl,t,_,_,_,rfl,rfl,SqT.of ht,jh (j:=0) rfl,_,rfl,x1,u,_,_,rfl,g1,hu,fun y H1 s1 hy=>?_⟩;refine gQ ?_;refine⟨_,rfl,t,_,_,_,rfl,rfl,SqT.of (s1 _ _ ht),jh (j:=2) rfl,?_⟩;refine gQ ?_;have nS:=s1 _ _ ht;have HZ:=hu.mono s1;have tU:=g3.mono s1;refine⟨fun σ' G=>∃z,σ'=[some (.ref t),some u,some (.bl ab),some y,some z]/\Same H1 G/\Held G (p2 (c.bnd b p)) z,?_,?_⟩
 .have BI:∀{G:Hp},HeldL G [.str "row",.str "lost",.str "put"] [.str "row",.str "lost",.str "put"]:=jc jF (jc jF (jc jF jl))
  rcases b with x | r'
  .obtain⟨es,he⟩:=cV x rfl
   obtain⟨t3,y3,rfl,h3,hs⟩:=JD tU;refine⟨_,rfl,t3,_,_,_,rfl,rfl,SqT.of h3,jh (j:=0) rfl,sm rfl,fun o ho=>?_⟩;have s2:=jj ho (.tup [.str "row",.str "lost",.str "put"]);refine⟨o,_,_,[.str "row",.str "lost",.str "put"],rfl,jf,(by show max 0 (max 0 (max 0 0))<=8;decide),hs.mono s2,BI,_,rfl,?_⟩;rw[Qv (by rw[he];simp)];exact kA ⟨_,rfl,s2,tU.mono s2⟩
  .obtain⟨a,e,ea,eR⟩:=(hb r' rfl).shape
   have Mi:Held H1 (.tup [.str a,e]) x3:=by rw[<- ea];exact tU
   obtain⟨t3,y3,y4,rfl,h3,hs,_⟩:=qI Mi
   cases jx hs
   refine⟨_,rfl,t3,_,_,_,rfl,rfl,SqT.of h3,jh (j:=0) rfl,sm rfl,fun o ho=>?_⟩;have s2:=jj ho (.tup [.str "row",.str "lost",.str "put"]);refine⟨o,_,.str a,[.str "row",.str "lost",.str "put"],rfl,jf,(by show max 0 (max 0 (max 0 0))<=8;decide),jF,BI,_,rfl,?_⟩;rw[Qu eR];exact kR ⟨_,rfl,_,rfl,_,u,c.ver r',p,rfl,tU.mono s2,HZ.mono s2,fun z G sG hz=>⟨z,rfl,s2.trans sG,hz⟩⟩
 .rintro σ' G ⟨z,rfl,sG,hz⟩
  have iC:=sG _ _ nS;have sQ:=hy.mono sG;refine⟨_,rfl,t,_,_,_,rfl,rfl,SqT.of iC,jh (j:=1) rfl,rfl,_,rfl,rfl,_,rfl,?_⟩;unfold qw at q;have k0:k+0=k:=Int.add_zero k;have k1:k - 0=k:=Int.sub_zero k;by_cases hw:way = ">="
  .rw[Qx hw]at q
   rw[Qu (Qz V.str hw)]
   cases ab with
   | true=>
    refine kA ?_;refine⟨_,rfl,_,rfl,_,rfl,t,_,_,_,rfl,rfl,SqT.of iC,jh (j:=3) rfl,_,rfl,.inr ⟨true,rfl,k,1,rfl,rfl,z,k - 1,_,rfl,hz,fun v G1 s2 hv=>⟨y,v,_,_,rfl,sQ.mono s2,hv,fun x G2 s3 hx=>q x G2 (s1.trans (sG.trans (s2.trans s3))) (by rw[Qx rfl,jej];exact hx)⟩⟩⟩
   | false=>
    refine kR ?_;refine⟨_,rfl,_,rfl,t,_,_,_,rfl,rfl,SqT.of iC,jh (j:=3) rfl,_,rfl,.inr ⟨false,rfl,k,0,rfl,rfl,z,k+0,_,rfl,hz,fun v G1 s2 hv=>⟨_,rfl,v,y,_,_,rfl,hv,sQ.mono s2,fun x G2 s3 hx=>q x G2 (s1.trans (sG.trans (s2.trans s3))) (by rw[Qw (by decide)];rw[k0]at hx;exact hx)⟩⟩⟩
  .rw[Qw hw]at q
   rw[Qv (fun e=>hw (V.str.inj e))]
   cases ab with
   | true=>
    refine kR ?_;refine⟨_,rfl,_,rfl,t,_,_,_,rfl,rfl,SqT.of iC,jh (j:=3) rfl,_,rfl,.inr ⟨true,rfl,k,1,rfl,rfl,z,k+1,_,rfl,hz,fun v G1 s2 hv=>⟨_,rfl,v,y,_,_,rfl,hv,sQ.mono s2,fun x G2 s3 hx=>q x G2 (s1.trans (sG.trans (s2.trans s3))) (by rw[Qx rfl,jei];exact hx)⟩⟩⟩
   | false=>
    refine kA ?_;refine⟨_,rfl,_,rfl,_,rfl,t,_,_,_,rfl,rfl,SqT.of iC,jh (j:=3) rfl,_,rfl,.inr ⟨false,rfl,k,0,rfl,rfl,z,k - 0,_,rfl,hz,fun v G1 s2 hv=>⟨y,v,_,_,rfl,sQ.mono s2,hv,fun x G2 s3 hx=>q x G2 (s1.trans (sG.trans (s2.trans s3))) (by rw[Qw (by decide)];rw[k1]at hx;exact hx)⟩⟩⟩
end
abbrev Yz:aF:=top 51
def NmG(x:Str):Prop:=x = ""\/Wd x
def TmG:Tm->Prop
 | .is x=>NmG x
 | .at_ r x d=>Wd r/\NmG x/\d.natAbs<=10 ^ 20
def BdG:Bd->Prop
 | .is x=>NmG x
 | .row q=>Wd q
def ClG:Cl->Prop
 | .least a b k=>TmG a/\TmG b/\k.natAbs<=10 ^ 19
 | .each t td u ud r _ b k=>NmG t/\td.natAbs<=10 ^ 20/\NmG u/\ud.natAbs<=10 ^ 20/\Wd r/\BdG b/\k.natAbs<=10 ^ 19
 | .rise t td u ud r=>NmG t/\td.natAbs<=10 ^ 20/\NmG u/\ud.natAbs<=10 ^ 20/\Wd r
def Gs(m:Nat)(p:P2):Prop:=Src m p.1/\p.2.natAbs<=m * 10 ^ 20
variable {p:P2}
theorem Gs.gp{m:Nat}(h:Gs m p)(hm:m<=90):Gp m p:=⟨h.1,rQ h.2 (rQ (nn _ hm) (by decide))⟩
theorem Gs.mono{m k:Nat}(h:Gs m p)(hm:m<=k):Gs k p:=⟨h.1.mono hm,aJ h.2 (nn _ hm)⟩
variable {d:Int}
theorem Gs.mor{m:Nat}(h:Gs m p)(hd:d.natAbs<=10 ^ 20):Gs (m+1) (mor p d):=⟨h.1.mono (dw _),by
 show (p.2+d).natAbs<=(m+1) * 10 ^ 20;have:=h.2;omega⟩
structure St(m:Nat)(c:Cs):Prop where
 nu:∀x p,c.nu x=some p->Gs m p
 ve:∀r d,c.ve r=some d->Ver d
variable {c:Cs}{x:Str}
theorem St.num{m:Nat}(S:St m c)(h:NmG x):Gs m (c.num x):=by
 unfold Cs.num;split
 .exact⟨.nought,bT _⟩
 .rename_i n
  cases e:c.nu x with
  | none=>exact⟨.start (h.resolve_left n),bT _⟩
  | some p=>exact S.nu x p e
theorem St.spot{m:Nat}(S:St m c)(h:NmG x)(hd:d.natAbs<=10 ^ 20):Gs (m+1) (c.spot x d):=(S.num h).mor hd
variable {r:Str}
theorem St.ver{m:Nat}(S:St m c)(h:Wd r):Ver (c.ver r):=by
 unfold Cs.ver
 cases e:c.ve r with
 | none=>exact .row h
 | some d=>exact S.ve r d e
theorem St.stand{m:Nat}(S:St m c)(hm:m<=88){t:Tm}(h:TmG t):Gs (m+1) (c.stand t).1:=by
 cases t with
 | is x=>exact (S.num h).mono (dw _)
 | at_ r x d=>exact⟨.ent (S.ver h.1) (S.num h.2.1).1 (((S.spot h.2.1 h.2.2).gp (by omega)).2),bT _⟩
theorem Yt(c:Cs)(t:Tm):(c.stand t).2.nu=c.nu:=by cases t <;> rfl
theorem Ys(c:Cs)(t:Tm):(c.stand t).2.ve=c.ve:=by cases t <;> rfl
theorem St.congr{m:Nat}{c':Cs}(S:St m c)(h1:c'.nu=c.nu)(h2:c'.ve=c.ve):St m c':=⟨by rw[h1];exact S.nu,by rw[h2];exact S.ve⟩
theorem Kx(c:Cs)(a b:Tm):((c.stand a).2.stand b).1=(c.stand b).1:=by cases a <;> cases b <;> rfl
theorem JP{m:Nat}{d:D}(h:Src m d):∃es,d=.tup es:=by cases h <;> exact⟨_,rfl⟩
inductive spKnown(vs:List V)(H:Hp)(Q:VK)(E:XK):Prop
 | mk (n m:Nat) (A:BA) (c:Cs) (k:Cl) (v:V) (_:vs=[.ref A.o,v]) (_:BxAt n A c H) (_:XE A c H) (_:n<=950) (_:St m c) (_:m<=82) (_:ClG k) (_:Held H k.toD v) (_:∀H',MvB A H H'->BxAt (n+8) A (c.know k) H'->XE A (c.know k) H'->Q .non H')
theorem jfq{l:List D}{p q x:D}:x∈l++[p]++[q]↔x∈l++[q]++[p]:=by
 simp only[bK,aN,or_assoc,or_comm (a:=x=p)]
theorem yf(c:Cs)(a b:Tm):(∀x,x∈((c.stand a).2.stand b).2.l 2↔x∈((c.stand b).2.stand a).2.l 2)/\(∀j,j≠2->((c.stand a).2.stand b).2.l j=c.l j):=by
 refine⟨fun x=>?_,fun j hj=>?_⟩
 .cases a <;> cases b <;> first | exact Iff.rfl | exact jfq
 .cases a <;> cases b <;> first | rfl | exact Qw hj | exact (Qw hj).trans (Qw hj)
theorem yJ(c:Cs)(a b:Tm)(k:Int):(c.know (.least a b k)).nu=((c.stand a).2.stand b).2.nu/\(c.know (.least a b k)).ve=((c.stand a).2.stand b).2.ve/\(∀x,x∈tOf ((c.stand a).2.stand b).2 2++[kT (mor (c.stand b).1 k) (c.stand a).1]↔x∈tOf (c.know (.least a b k)) 2)/\∀j,j < 3->j≠2->∀x,x∈tOf ((c.stand a).2.stand b).2 j↔x∈tOf (c.know (.least a b k)) j:=by
 refine⟨by cases a <;> cases b <;> rfl,by cases a <;> cases b <;> rfl,fun x=>?_,fun j hj h2 x=>?_⟩
 .show x∈((c.stand a).2.stand b).2.l 1++[_]↔x∈((c.stand b).2.stand a).2.l 1++[kT (mor (c.stand b).1 k) ((c.stand b).2.stand a).1]
  rw[(yf c a b).2 1 (by decide),(yf c b a).2 1 (by decide),Kx]
 .have:j=0\/j=1:=by omega
  rcases this with rfl | rfl
  .exact (yf c a b).1 x
  .show x∈(((c.stand a).2.stand b).2.l 4++((c.stand a).2.stand b).2.l 5).map jdj↔x∈(((c.stand b).2.stand a).2.l 4++((c.stand b).2.stand a).2.l 5).map jdj
   rw[(yf c a b).2 4 (by decide),(yf c b a).2 4 (by decide),(yf c a b).2 5 (by decide),(yf c b a).2 5 (by decide)]
theorem jcE{f:D->D}{a b:List D}{t x:D}:x∈(a++b).map f++[f t]↔x∈((a++[t])++b).map f:=by
 simp only[aX,aU,eJ,bK,aN,or_assoc,or_comm (a:=x=f t)]
theorem jg9{f:D->D}{a b:List D}{t x:D}:x∈(a++b).map f++[f t]↔x∈(a++(b++[t])).map f:=by
 simp only[aX,aU,eJ,bK,aN,or_assoc]
theorem ZQ{j i:Nat}(hj:j < 3)(h:j≠i):(i=0->j=1\/j=2)/\(i=1->j=0\/j=2):=by omega
theorem Ky(c:Cs)(d:D)(j:Nat)(hj:j < 3)(h:j≠0)(x:D):x∈tOf c j↔x∈tOf (c.add 2 [d]) j:=by
 rcases (ZQ hj h).1 rfl with rfl | rfl <;> exact Iff.rfl
theorem Zu(c:Cs)(x:Str)(d:Int)(y:Str)(e:Int)(r way:Str)(b:Bd)(k:Int):(∀z,z∈tOf (c.add 2 [p2 (c.spot x d)]) 1++[p2 (c.spot y e)]↔z∈tOf (c.know (.each x d y e r way b k)) 1)/\∀j,j < 3->j≠1->∀z,z∈tOf (c.add 2 [p2 (c.spot x d)]) j↔z∈tOf (c.know (.each x d y e r way b k)) j:=by
 refine⟨fun z=>?_,fun j hj h z=>?_⟩
 .cases b with
  | is q=>exact jcE (f:=jdj) (a:=c.l 4) (b:=c.l 5) (t:=.tup [p2 (c.spot x d),p2 (c.spot y e),((c.add 2 [p2 (c.spot x d)]).body r way (.is q) k).1])
  | row q=>exact jcE (f:=jdj) (a:=c.l 4) (b:=c.l 5) (t:=.tup [p2 (c.spot x d),p2 (c.spot y e),((c.add 2 [p2 (c.spot x d)]).body r way (.row q) k).1])
 .rcases (ZQ hj h).2 rfl with rfl | rfl <;> cases b <;> exact Iff.rfl
theorem Zt(c:Cs)(x:Str)(d:Int)(y:Str)(e:Int)(r:Str):(∀z,z∈tOf (c.add 2 [p2 (c.spot x d)]) 1++[p2 (c.spot y e)]↔z∈tOf (c.know (.rise x d y e r)) 1)/\∀j,j < 3->j≠1->∀z,z∈tOf (c.add 2 [p2 (c.spot x d)]) j↔z∈tOf (c.know (.rise x d y e r)) j:=by
 refine⟨fun z=>?_,fun j hj h z=>?_⟩
 .exact jg9 (f:=jdj) (a:=c.l 4) (b:=c.l 5) (t:=.tup [p2 (c.spot x d),p2 (c.spot y e),c.ver r])
 .rcases (ZQ hj h).2 rfl with rfl | rfl <;> exact Iff.rfl
theorem ye{t:Tm}{d:D}:d∈yP (c.stand t).2↔d∈yP c\/∃r x e,t=.at_ r x e/\d=yl r:=by
 cases t with
 | is x=>exact⟨.inl,fun h=>h.elim id fun⟨_,_,_,h,_⟩=>by cases h⟩
 | at_ r x e=>exact (Kf (e:=c.add 2 [p2 (c.spot x e)])).trans (or_congr Iff.rfl ⟨fun h=>⟨_,_,_,rfl,h⟩,fun⟨_,_,_,h,h2⟩=>by cases h;exact h2⟩)
variable {b:Tm}
theorem jh4{a:Tm}{d:D}:d∈yP ((c.stand a).2.stand b).2↔d∈yP ((c.stand b).2.stand a).2:=by
 rw[ye,ye,ye,ye,or_assoc,or_assoc,or_comm (a:=∃r x e,a=_/\_)]
variable {A:BA}{H:Hp}
theorem jd7{a:Tm}{d:D}(X:XE A ((c.stand a).2.stand b).2 H):XE A (((c.stand b).2.stand a).2.add 1 [d]) H:=
 X.congr (fun z=>jh4) fun i hi=>by
  have h:i=0\/i=1\/i=2:=by omega
  rcases h with rfl | rfl | rfl
  .show (((c.stand a).2.stand b).2.l 4).map jar=(((c.stand b).2.stand a).2.l 4).map jar
   rw[(yf c a b).2 4 (by decide),(yf c b a).2 4 (by decide)]
  .show ((c.stand a).2.stand b).2.l 5=((c.stand b).2.stand a).2.l 5
   rw[(yf c a b).2 5 (by decide),(yf c b a).2 5 (by decide)]
  .show (((c.stand a).2.stand b).2.l 3).map Z8=(((c.stand b).2.stand a).2.l 3).map Z8
   rw[(yf c a b).2 3 (by decide),(yf c b a).2 3 (by decide)]
section
theorem jfi(F:Fun K "_law_known" "_law_known" Yz f fd)(f_:Fn P w K mg base 15 "_law_source" ["_law_box","_law_term_here"] spSrc)(cS:Fn P w K mg base 14 "_law_kept" ["_law_some","_law_one"] spKept)(cg:Fn P w K mg base 1 "_law_tie" ["_law_one","_law_other"] spAtM)(cY:Fn P w K mg base 1 "_law_more" ["_law_one","_law_more_here"] spMore)(e_:Fn P w K mg base 2 "_law_spot" ["_law_box","_law_place_here"] spSpotL)(oB:Fn P w K mg base 2 "_law_against" ["_law_box","_law_claim_here"] spAgainst)(dO:Fn P w K mg base 1 "_law_version" ["_law_box","_law_r"] spVerL):FnOk P w K mg base CX0 16 f fd ["_law_box","_law_claim_here"] spKnown:=by
 have sc:FnScope ["_law_box","_law_claim_here","_law_a","_law_b","_law_t","_law_u"] ["_law_box","_law_claim_here"] (jm Yz):=fQ;refine F.okZ sc (fun ax A outer s H vs Q E hr h=>?_);have hu:(A.deeper (cA "_law_known" (jm Yz) s.heap.objs.size f ax)).units+1 < cLine:=by have:=hr.units;omega
 obtain⟨n,m,B,c,k,v,rfl,I,X,hn,S,hm,hG,hv,q⟩:=h;refine⟨_,(jd (jN (jD ku (jr jw (zpv 1) je (fun _ _=>rfl)) jq (jI _)) (jd (jy (i:=2) sc.nd rfl oQ (jg f_ hr (ja (zpv 0) (ja (jr jw (zpv 1) je (fun _ _=>rfl)) jb))))
   (jd (jy (i:=3) sc.nd rfl oQ (jg f_ hr (ja (zpv 0) (ja (jr jw (zpv 1) je (fun _ _=>rfl)) jb))))
   (jd (jA (jg cS hr (ja (jO hu (zpv 0) jq (fun _ _=>rfl)) (ja (jg cg hr (ja (jg cY hr (ja (zpv 3) (ja (jr jw (zpv 1) je (fun _ _=>rfl)) jb))) (ja (zpv 2) jb))) jb))))
   (ji zy)))) jL)
   (jd (jy (i:=4) sc.nd rfl oQ (jg e_ hr (ja (zpv 0) (ja (jr jw (zpv 1) je (fun _ _=>rfl)) jb))))
   (jd (jy (i:=5) sc.nd rfl oQ (jg e_ hr (ja (zpv 0) (ja (jr jw (zpv 1) je (fun _ _=>rfl)) jb))))
   (jd (jA (jg cS hr (ja (jO hu (zpv 0) jq (fun _ _=>rfl)) (ja (zpv 4) jb))))
   (jd (jA (jg cS hr (ja (jO hu (zpv 0) jq (fun _ _=>rfl)) (ja (zpv 5) jb))))
   (ji (jN (jD ku (jr jw (zpv 1) je (fun _ _=>rfl)) jq (jI _)) (ji (jA (km cH dG dF j0 (jO hu (zpv 0) jq (fun _ _=>rfl)) (ja (jQ (ja (zpv 4) (ja (zpv 5) (ja (jg oB hr (ja (zpv 0) (ja (zpv 1) jb))) jb)))) jb)))) (ji (jA (km cH dG dF j0 (jO hu (zpv 0) jq (fun _ _=>rfl)) (ja (jQ (ja (zpv 4) (ja (zpv 5) (ja (jg dO hr (ja (zpv 0) (ja (jr jw (zpv 1) je (fun _ _=>rfl)) jb))) jb)))) jb))))))))))),?_⟩
 refine jH (σ':=[some (.ref B.o),some v,none,none,none,none]) rfl ?_
 try dsimp only[kx]
 refine jhR ?_;intro _ _ _ _ _;rcases k with⟨a,b,k⟩ | ⟨x,d,y,e,r,way,b,k⟩ | ⟨x,d,y,e,r⟩
 .obtain⟨g1,g2,g3⟩:=hG
  obtain⟨t,va,vb,rfl,ht,ha,hb⟩:=zv hv;refine⟨_,rfl,t,_,_,_,rfl,rfl,SqT.of ht,jh (j:=0) rfl,rfl,_,rfl,kR ?_⟩;have lB:∀{c':Cs} {u:Tm},c'.nu=c.nu->c'.ve=c.ve->TmG u->∀r x d,u=.at_ r x d->Gp (m+1) (c'.spot x d):=fun h1 h2 hu r x d eu=>by
   subst eu;exact ((S.congr h1 h2).spot hu.2.1 hu.2.2).gp (by omega)
  refine⟨_,rfl,_,rfl,t,_,_,_,rfl,rfl,SqT.of ht,jh (j:=1) rfl,n,m+1,B,c,c,a,va,rfl,I,X,by omega,ha,by omega,lB rfl rfl g1,fun ya H1 m1 I1 X1 w8=>?_⟩;refine gQ ?_;have t1:=I.tk m1;refine⟨_,rfl,_,rfl,t,_,_,_,rfl,rfl,SqT.of (t1 _ _ ht),jh (j:=2) rfl,n+2,m+1,B,_,_,b,vb,rfl,I1,X1,by omega,t1.held hb,by omega,lB (Yt c a) (Ys c a) g2,fun yb H2 m2 I2 X2 sO=>?_⟩;refine gQ ?_;have t2:=I1.tk m2;have wZ:=t2.held w8;rw[Kx]at sO;refine⟨_,rfl,B.o,_,rfl,Jy I2.o,_,rfl,_,rfl,t,_,_,_,rfl,rfl,SqT.of (t2 _ _ (t1 _ _ ht)),jh (j:=3) rfl,yb,k,_,rfl,sO,fun z H3 s3 hz=>⟨_,rfl,z,ya,_,_,rfl,hz,wZ.mono s3,fun x H4 s4 hx=>?_⟩⟩;have I4:=I2.same (s3.trans s4);obtain⟨ds,kvs,l1,_,_,_,_,_,l3⟩:=I4.t 2 (by decide);have hs:=qx (((S.stand (by omega) g2).mor (d:=k) (by omega)).gp (by omega)) (((S.stand (by omega) g1).mono (dw _)).gp (by omega)) (by omega);obtain⟨m5,I5,X5⟩:=I4.putX (X2.same (s3.trans s4)) (c':=c.know (.least a b k)) (i:=2) (by decide) l1 hx hs.1 (yJ c a b k).1 (yJ c a b k).2.1 (yJ c a b k).2.2.1 (yJ c a b k).2.2.2;refine⟨B.t 2,x,kvs,_,rfl,l1,by omega,hx,⟨_,rfl⟩,hs,?_⟩;exact q _ ((m1.trans m2).trans ((MvB.same (s3.trans s4)).trans m5)) (I5.mono (by omega)) (jd7 X5)
 .obtain⟨g1,g2,g3,g4,g5,g6,g7⟩:=hG
  obtain⟨t,va,vb,vc,rfl,ht,ha,hb,hc⟩:=yt hv;refine⟨_,rfl,t,_,_,_,rfl,rfl,SqT.of ht,jh (j:=0) rfl,rfl,_,rfl,kA ?_⟩;refine⟨_,rfl,_,rfl,t,_,_,_,rfl,rfl,SqT.of ht,jh (j:=1) rfl,n,B,c,x,d,_,rfl,I,kS ha,fun sp H1 s1 aY=>?_⟩;refine gQ ?_;refine⟨_,rfl,_,rfl,t,_,_,_,rfl,rfl,SqT.of (s1 _ _ ht),jh (j:=2) rfl,n,B,c,y,e,_,rfl,I.same s1,kS (s1 _ _ hb),fun su H2 s2 eO=>?_⟩;refine gQ ?_;have s3:=s1.trans s2;have I2:=I.same s3;have dM:=aY.mono s2;obtain⟨ds,kvs,l1,_,_,_,_,_,l3⟩:=I2.t 0 (by decide);have w1:=((S.spot g1 g2).gp (by omega)).shw (by omega);have w2:=((S.spot g3 g4).gp (by omega)).shw (by omega);obtain⟨m3,I3,X3⟩:=I2.putX (X.same s3) (c':=c.add 2 [p2 (c.spot x d)]) (i:=0) (by decide) l1 dM w1.1 rfl rfl (fun _=>Iff.rfl) (Ky c _);refine⟨_,rfl,B.o,_,rfl,Kr I2.o,_,rfl,B.t 0,sp,kvs,_,rfl,l1,by omega,dM,⟨_,rfl⟩,w1,?_⟩;have t3:=I2.tk m3;generalize upd H2 (B.t 0) _=H3 at *;have mq:=t3.held eO;have iB:=t3 _ _ (s3 _ _ ht);have mj:=t3.held (hv.mono s3);obtain⟨MH,fj,l4,_,_,_,_,_,l6⟩:=I3.t 1 (by decide);obtain⟨m4,I4,X4⟩:=I3.putX X3 (c':=c.know (.each x d y e r way b k)) (i:=1) (by decide) l4 mq w2.1 (by cases b <;> rfl) (by cases b <;> rfl) (Zu c x d y e r way b k).1 (Zu c x d y e r way b k).2;refine⟨_,rfl,B.o,_,rfl,jhV I3.o,_,rfl,B.t 1,su,fj,_,rfl,l4,by omega,mq,⟨_,rfl⟩,w2,?_⟩;have t4:=I3.tk m4;generalize upd H3 (B.t 1) _=H4 at *;have iA:=t4 _ _ iB;refine⟨_,rfl,t,_,_,_,rfl,rfl,SqT.of iA,jh (j:=0) rfl,rfl,_,rfl,kR ?_⟩;obtain⟨ls,l7,l8⟩:=I4.l 0 (by decide);refine⟨_,rfl,B.o,_,rfl,jhY I4.o,.inl ⟨rfl,_,SqL.of l7⟩,_,rfl,_,rfl,_,rfl,_,rfl,n+1+1,B,_,_,x,y,d,e,r,way,b,k,_,rfl,I4,X4,by omega,t4.held mj,fun bo H5 m5 I5 X5 dh=>⟨sm rfl,fun p hp=>?_⟩⟩;have s6:=jj hp (.tup [sp,su,bo]);have I6:=I5.same s6;obtain⟨zs,l9,fD⟩:=I6.l 0 (by decide);have k3:Held (upd H5 p (.tup [sp,su,bo])) (.tup [p2 (c.spot x d),p2 (c.spot y e),agD c r way b k]) (.ref p):=jK jf (jc (((I4.tk m5).held (t4.held (t3.held dM))).mono s6) (jc (((I4.tk m5).held (t4.held mq)).mono s6) (jc ((show Held H5 (agD c r way b k) bo from by cases b <;> exact dh).mono s6) jl)));have X7:XE B (c.know (.each x d y e r way b k)) _:=(X5.same s6).addl I6.inj (i:=0) (by decide) l9 k3 (fun z=>by cases b <;> exact Iff.rfl) (by cases b <;> exact aX) (fun j hj mD=>by
   have h:j=0\/j=1\/j=2:=by omega
   rcases h with rfl | rfl | rfl <;> first | exact absurd rfl mD | (cases b <;> rfl))
  obtain⟨m7,I7⟩:=I6.addl (i:=0) (v:=.ref p) (by decide) l9 fD;exact⟨B.l 0,zs,_,rfl,rfl,l9,jJ (by omega),q _ (((MvB.same s3).trans m3).trans (m4.trans (m5.trans ((MvB.same s6).trans m7)))) (I7.mono (by omega)) X7⟩
 .obtain⟨g1,g2,g3,g4,g5⟩:=hG
  obtain⟨t,va,vb,rfl,ht,ha,hb⟩:=J7 hv;refine⟨_,rfl,t,_,_,_,rfl,rfl,SqT.of ht,jh (j:=0) rfl,rfl,_,rfl,kA ?_⟩;refine⟨_,rfl,_,rfl,t,_,_,_,rfl,rfl,SqT.of ht,jh (j:=1) rfl,n,B,c,x,d,_,rfl,I,kS ha,fun sp H1 s1 aY=>?_⟩;refine gQ ?_;refine⟨_,rfl,_,rfl,t,_,_,_,rfl,rfl,SqT.of (s1 _ _ ht),jh (j:=2) rfl,n,B,c,y,e,_,rfl,I.same s1,kS (s1 _ _ hb),fun su H2 s2 eO=>?_⟩;refine gQ ?_;have s3:=s1.trans s2;have I2:=I.same s3;have dM:=aY.mono s2;obtain⟨ds,kvs,l1,_,_,_,_,_,l3⟩:=I2.t 0 (by decide);have w1:=((S.spot g1 g2).gp (by omega)).shw (by omega);have w2:=((S.spot g3 g4).gp (by omega)).shw (by omega);obtain⟨m3,I3,X3⟩:=I2.putX (X.same s3) (c':=c.add 2 [p2 (c.spot x d)]) (i:=0) (by decide) l1 dM w1.1 rfl rfl (fun _=>Iff.rfl) (Ky c _);refine⟨_,rfl,B.o,_,rfl,Kr I2.o,_,rfl,B.t 0,sp,kvs,_,rfl,l1,by omega,dM,⟨_,rfl⟩,w1,?_⟩;have t3:=I2.tk m3;generalize upd H2 (B.t 0) _=H3 at *;have mq:=t3.held eO;have iB:=t3 _ _ (s3 _ _ ht);obtain⟨MH,fj,l4,_,_,_,_,_,l6⟩:=I3.t 1 (by decide);obtain⟨m4,I4,X4⟩:=I3.putX X3 (c':=c.know (.rise x d y e r)) (i:=1) (by decide) l4 mq w2.1 rfl rfl (Zt c x d y e r).1 (Zt c x d y e r).2;refine⟨_,rfl,B.o,_,rfl,jhV I3.o,_,rfl,B.t 1,su,fj,_,rfl,l4,by omega,mq,⟨_,rfl⟩,w2,?_⟩;have t4:=I3.tk m4;generalize upd H3 (B.t 1) _=H4 at *;have iA:=t4 _ _ iB;refine⟨_,rfl,t,_,_,_,rfl,rfl,SqT.of iA,jh (j:=0) rfl,rfl,_,rfl,kA ?_⟩;obtain⟨ls,l7,l8⟩:=I4.l 1 (by decide);refine⟨_,rfl,B.o,_,rfl,jhX I4.o,.inl ⟨rfl,_,SqL.of l7⟩,_,rfl,_,rfl,_,rfl,_,rfl,t,_,_,_,rfl,rfl,SqT.of iA,jh (j:=3) rfl,n+1+1,B,_,_,r,rfl,I4,X4,by omega,fun bo H5 m5 I5 X5 dh=>⟨sm rfl,fun p hp=>?_⟩⟩;have s6:=jj hp (.tup [sp,su,bo]);have I6:=I5.same s6;obtain⟨zs,l9,fD⟩:=I6.l 1 (by decide);have k3:Held (upd H5 p (.tup [sp,su,bo])) (.tup [p2 (c.spot x d),p2 (c.spot y e),c.ver r]) (.ref p):=jK jf (jc (((I4.tk m5).held (t4.held (t3.held dM))).mono s6) (jc (((I4.tk m5).held (t4.held mq)).mono s6) (jc ((show Held H5 (c.ver r) bo from dh).mono s6) jl)));have X7:XE B (c.know (.rise x d y e r)) _:=(X5.same s6).addl I6.inj (i:=1) (by decide) l9 k3 (fun z=>Iff.rfl) (rfl) (fun j hj mD=>by
   have h:j=0\/j=1\/j=2:=by omega
   rcases h with rfl | rfl | rfl <;> first | exact absurd rfl mD | rfl)
  obtain⟨m7,I7⟩:=I6.addl (i:=1) (v:=.ref p) (by decide) l9 fD;exact⟨B.l 1,zs,_,rfl,rfl,l9,jJ (by omega),q _ (((MvB.same s3).trans m3).trans (m4.trans (m5.trans ((MvB.same s6).trans m7)))) (I7.mono (by omega)) X7⟩
end
abbrev JU:aF:=top 52
inductive spDenied(vs:List V)(H:Hp)(Q:VK)(E:XK):Prop
 | mk (n m:Nat) (A:BA) (c:Cs) (k:Cl) (v:V) (_:vs=[.ref A.o,v]) (_:BxAt n A c H) (_:XE A c H) (_:n<=940) (_:St m c) (_:m<=82) (_:ClG k) (_:Held H k.toD v) (_:∀H',MvB A H H'->BxAt (n+12) A (c.deny k) H'->XE A (c.deny k) H'->Q .non H')
theorem jem(c:Cs)(d:D)(j:Nat)(hj:j < 3)(h:j≠2)(x:D):x∈tOf c j↔x∈tOf (c.add 1 [d]) j:=by
 have:j=0\/j=1:=by omega
 rcases this with rfl | rfl <;> exact Iff.rfl
variable {n:Nat}{kvs:List (Key×V)}{v:V}
theorem BxAt.tie{d:D}(I:BxAt n A c H)(e:H (A.t 2)=some (.dK kvs))(hv:Held H d v)(hd:OkD d):MvB A H (upd H (A.t 2) (.dK (j4 kvs (.inr d.py.shown) v)))/\BxAt (n+1) A (c.add 1 [d]) (upd H (A.t 2) (.dK (j4 kvs (.inr d.py.shown) v))):=
 I.put (i:=2) (by decide) e hv hd rfl rfl (fun _=>Iff.rfl) (jem c d)
theorem BxAt.spot{d:D}(I:BxAt n A c H)(e:H (A.t 0)=some (.dK kvs))(hv:Held H d v)(hd:OkD d):MvB A H (upd H (A.t 0) (.dK (j4 kvs (.inr d.py.shown) v)))/\BxAt (n+1) A (c.add 2 [d]) (upd H (A.t 0) (.dK (j4 kvs (.inr d.py.shown) v))):=
 I.put (i:=0) (by decide) e hv hd rfl rfl (fun _=>Iff.rfl) (Ky c d)
theorem BxAt.tieX{e:Cs}{d:D}(I:BxAt n A c H)(X:XE A e H)(h:H (A.t 2)=some (.dK kvs))(hv:Held H d v)(hd:OkD d):MvB A H (upd H (A.t 2) (.dK (j4 kvs (.inr d.py.shown) v)))/\BxAt (n+1) A (c.add 1 [d]) (upd H (A.t 2) (.dK (j4 kvs (.inr d.py.shown) v)))/\XE A e (upd H (A.t 2) (.dK (j4 kvs (.inr d.py.shown) v))):=
 ⟨(I.tie h hv hd).1,(I.tie h hv hd).2,X.put h⟩
theorem BxAt.spotX{e:Cs}{d:D}(I:BxAt n A c H)(X:XE A e H)(h:H (A.t 0)=some (.dK kvs))(hv:Held H d v)(hd:OkD d):MvB A H (upd H (A.t 0) (.dK (j4 kvs (.inr d.py.shown) v)))/\BxAt (n+1) A (c.add 2 [d]) (upd H (A.t 0) (.dK (j4 kvs (.inr d.py.shown) v)))/\XE A e (upd H (A.t 0) (.dK (j4 kvs (.inr d.py.shown) v))):=
 ⟨(I.spot h hv hd).1,(I.spot h hv hd).2,X.put h⟩
theorem Z9(i:Int)(h:i.natAbs<=1000)(m:Nat):Gs m (jV i):=⟨.own h,bT _⟩
theorem BxAt.kv(I:BxAt n A c H)(i:Nat)(hi:i < 3):∃kvs,H (A.t i)=some (.dK kvs)/\kvs.length<=n:=by
 obtain⟨_,kvs,h,_,_,_,_,_,l⟩:=I.t i hi;exact⟨kvs,h,l⟩
variable {i:Int}
theorem jaq{m:Nat}{v:D}(hv:Ver v)(hi:i.natAbs<=1000):Gs (m+1) (jW v (jV i)):=⟨.ent hv (.own hi) (by decide),bT _⟩
theorem St.bnd{m:Nat}(S:St m c){b:Bd}(h:BdG b):Gs (m+1) (c.bnd b (jV 0)):=by
 cases b with
 | is x=>exact (S.num h).mono (dw _)
 | row q=>exact jaq (S.ver h) (by decide)
theorem jeh{m:Nat}{v:D}{way:Str}{b s:P2}{k:Int}(hm:m+1<=90)(h1:Gs (m+1) (jW v s))(h2:Gs m b)(hk:k.natAbs<=10 ^ 19):Shw (KO (qw v way b k s)):=by
 unfold qw;split
 .rw[jej]
  exact qx (h1.gp hm) ((h2.mor (d:=k - 1) (by omega)).gp hm) hm
 .rw[jei]
  exact qx ((h2.mor (d:=k+1) (by omega)).gp hm) (h1.gp hm) hm
theorem jeg(v:D)(way:Str)(b:P2)(k:Int)(s:P2):∃es,KO (qw v way b k s)=.tup es:=by
 obtain⟨x,y,c,e⟩:=Zg v way b k s;exact⟨_,by rw[e];rfl⟩
section
theorem jdv(F:Fun K "_law_denied" "_law_denied" JU f fd)(f_:Fn P w K mg base 15 "_law_source" ["_law_box","_law_term_here"] spSrc)(cS:Fn P w K mg base 14 "_law_kept" ["_law_some","_law_one"] spKept)(cg:Fn P w K mg base 1 "_law_tie" ["_law_one","_law_other"] spAtM)(cY:Fn P w K mg base 1 "_law_more" ["_law_one","_law_more_here"] spMore)(e_:Fn P w K mg base 2 "_law_spot" ["_law_box","_law_place_here"] spSpotL)(oB:Fn P w K mg base 2 "_law_against" ["_law_box","_law_claim_here"] spAgainst)(oA:Fn P w K mg base 2 "_law_body" ["_law_body_here","_law_spot_here","_law_about"] spBodyL)(dO:Fn P w K mg base 1 "_law_version" ["_law_box","_law_r"] spVerL)(cZ:Fn P w K mg base 1 "_law_entry" ["_law_version_here","_law_spot_here"] spEnt):FnOk P w K mg base CX0 16 f fd ["_law_box","_law_goal"] spDenied:=by
 have sc:FnScope ["_law_box","_law_goal","_law_a","_law_b","_law_one","_law_two","_law_version_here","_law_tie_here"] ["_law_box","_law_goal"] (jm JU):=fQ;refine F.okZ sc (fun ax A outer s H vs Q E hr h=>?_);have hu:(A.deeper (cA "_law_denied" (jm JU) s.heap.objs.size f ax)).units+1 < cLine:=by have:=hr.units;omega
 obtain⟨n,m,B,c,k,v,rfl,I,X,hn,S,hm,hG,hv,q⟩:=h;refine⟨_,(jd (jN (jD ku (jr jw (zpv 1) je (fun _ _=>rfl)) jq (jI _)) (jd (jy (i:=2) sc.nd rfl oQ (jg f_ hr (ja (zpv 0) (ja (jr jw (zpv 1) je (fun _ _=>rfl)) jb))))
   (jd (jy (i:=3) sc.nd rfl oQ (jg f_ hr (ja (zpv 0) (ja (jr jw (zpv 1) je (fun _ _=>rfl)) jb))))
   (jd (jA (jg cS hr (ja (jO hu (zpv 0) jq (fun _ _=>rfl)) (ja (jg cg hr (ja (jg cY hr (ja (zpv 2) (ja (js zo je (jr jw (zpv 1) je (fun _ _=>rfl))) jb))) (ja (zpv 3) jb))) jb))))
   (ji zy)))) jL)
   (jd (jy (i:=4) sc.nd rfl oQ (zpd (j9 (jt (j9 (jt qb (jt zn jR))) (jt zn jR)))))
   (jd (jy (i:=5) sc.nd rfl oQ (zpd (j9 (jt (j9 (jt qb (jt zn jR))) (jt zn jR)))))
   (jd (jA (jg cS hr (ja (jO hu (zpv 0) jq (fun _ _=>rfl)) (ja (zpv 4) jb))))
   (jd (jA (jg cS hr (ja (jO hu (zpv 0) jq (fun _ _=>rfl)) (ja (jg cg hr (ja (jg e_ hr (ja (zpv 0) (ja (jr jw (zpv 1) je (fun _ _=>rfl)) jb))) (ja (zpv 4) jb))) jb))))
   (jd (jN (jD ku (jr jw (zpv 1) je (fun _ _=>rfl)) jq (jI _)) (jd (jA (jg cS hr (ja (jO hu (zpv 0) jq (fun _ _=>rfl)) (ja (jg cg hr (ja (zpv 4) (ja (jg e_ hr (ja (zpv 0) (ja (jr jw (zpv 1) je (fun _ _=>rfl)) jb))) jb))) jb))))
   (jd (jA (jg cS hr (ja (jO hu (zpv 0) jq (fun _ _=>rfl)) (ja (jg oA hr (ja (jg oB hr (ja (zpv 0) (ja (zpv 1) jb))) (ja (zpv 4) (ja yB jb)))) jb))))
   (ji zy))) jL)
   (jd (jA (jg cS hr (ja (jO hu (zpv 0) jq (fun _ _=>rfl)) (ja (zpv 5) jb))))
   (jd (jy (i:=6) sc.nd rfl oQ (jg dO hr (ja (zpv 0) (ja (jr jw (zpv 1) je (fun _ _=>rfl)) jb))))
   (jd (ky df rfl (ke (jG (ja (jg cg hr (ja (zpv 4) (ja (zpv 5) jb))) (ja (jg cg hr (ja (zpv 5) (ja (jg e_ hr (ja (zpv 0) (ja (jr jw (zpv 1) je (fun _ _=>rfl)) jb))) jb))) jb)))) (ju (i:=7) sc.nd rfl oQ) (ji (jA (jg cS hr (ja (jO hu (zpv 0) jq (fun _ _=>rfl)) (ja (zpv 7) jb))))))
   (ji (jA (jg cS hr (ja (jO hu (zpv 0) jq (fun _ _=>rfl)) (ja (jg cg hr (ja (jg cY hr (ja (jg cZ hr (ja (zpv 6) (ja (zpv 5) jb))) (ja je jb))) (ja (jg cZ hr (ja (zpv 6) (ja (zpv 4) jb))) jb))) jb)))))))))))))),?_⟩
 refine jH (σ':=[some (.ref B.o),some v,none,none,none,none,none,none]) rfl ?_
 try dsimp only[kx]
 refine jjE ?_;intro _ _ _ _ _ _ _ _ _;have O0:∀m,Gs m (jV 0):=Z9 0 (by decide);have O1:∀m,Gs m (jV 1):=Z9 1 (by decide);rcases k with⟨a,b,k⟩ | ⟨x,d,y,e,r,way,b,k⟩ | ⟨x,d,y,e,r⟩
 .obtain⟨g1,g2,g3⟩:=hG
  obtain⟨t,va,vb,rfl,ht,ha,hb⟩:=zv hv;refine⟨_,rfl,t,_,_,_,rfl,rfl,SqT.of ht,jh (j:=0) rfl,rfl,_,rfl,kR ?_⟩;have lB:∀{c':Cs} {u:Tm},c'.nu=c.nu->c'.ve=c.ve->TmG u->∀r x d,u=.at_ r x d->Gp (m+1) (c'.spot x d):=fun h1 h2 hu r x d eu=>by
   subst eu;exact ((S.congr h1 h2).spot hu.2.1 hu.2.2).gp (by omega)
  refine⟨_,rfl,_,rfl,t,_,_,_,rfl,rfl,SqT.of ht,jh (j:=1) rfl,n,m+1,B,c,c,a,va,rfl,I,X,by omega,ha,by omega,lB rfl rfl g1,fun ya H1 m1 I1 X1 w8=>?_⟩;refine gQ ?_;have t1:=I.tk m1;refine⟨_,rfl,_,rfl,t,_,_,_,rfl,rfl,SqT.of (t1 _ _ ht),jh (j:=2) rfl,n+2,m+1,B,_,_,b,vb,rfl,I1,X1,by omega,t1.held hb,by omega,lB (Yt c a) (Ys c a) g2,fun yb H2 m2 I2 X2 sO=>?_⟩;refine gQ ?_;have t2:=I1.tk m2;have wZ:=t2.held w8;refine⟨_,rfl,B.o,_,rfl,Jy I2.o,_,rfl,_,rfl,t,_,_,_,rfl,rfl,SqT.of (t2 _ _ (t1 _ _ ht)),jh (j:=3) rfl,1,k,rfl,rfl,ya,1 - k,_,rfl,wZ,fun z H3 s3 hz=>⟨_,rfl,z,yb,_,_,rfl,hz,sO.mono s3,fun x H4 s4 hx=>?_⟩⟩;have I4:=I2.same (s3.trans s4);obtain⟨kvs,l1,l3⟩:=I4.kv 2 (by decide);have hs:Shw (kT (mor (c.stand a).1 (1 - k)) ((c.stand a).2.stand b).1):=by
   rw[Kx];exact qx (((S.stand (by omega) g1).mor (d:=1 - k) (by omega)).gp (by omega)) (((S.stand (by omega) g2).mono (dw _)).gp (by omega)) (by omega)
  obtain⟨m5,I5,X5⟩:=I4.tieX (X2.same (s3.trans s4)) l1 hx hs.1;exact⟨B.t 2,x,kvs,_,rfl,l1,by omega,hx,⟨_,rfl⟩,hs,q _ ((m1.trans m2).trans ((MvB.same (s3.trans s4)).trans m5)) (I5.mono (by omega)) (X5.congr (fun _=>Iff.rfl) (fun _ _=>rfl))⟩
 .obtain⟨g1,g2,g3,g4,g5,g6,g7⟩:=hG
  obtain⟨t,va,vb,vc,rfl,ht,ha,hb,hc⟩:=yt hv;refine⟨_,rfl,t,_,_,_,rfl,rfl,SqT.of ht,jh (j:=0) rfl,rfl,_,rfl,kA ?_⟩;refine⟨p2 (jV 0),⟨_,rfl,bw rfl,_,_,rfl,⟨_,rfl,bw rfl,_,_,rfl,rfl,_,_,rfl,rfl,rfl⟩,_,_,rfl,rfl,rfl⟩,fun o1 H1 s1 h1=>?_⟩;refine gQ ?_;refine⟨p2 (jV 1),⟨_,rfl,bw rfl,_,_,rfl,⟨_,rfl,bw rfl,_,_,rfl,rfl,_,_,rfl,rfl,rfl⟩,_,_,rfl,rfl,rfl⟩,fun o2 H2 s2 h2=>?_⟩;refine gQ ?_;have s3:=s1.trans s2;have I2:=I.same s3;have mO:=h1.mono s2;obtain⟨kvs,l1,l3⟩:=I2.kv 0 (by decide);have w1:=((O0 m).gp (by omega)).shw (by omega);obtain⟨m3,I3,X3⟩:=I2.spotX (X.same s3) l1 mO w1.1;refine⟨_,rfl,B.o,_,rfl,Kr I2.o,_,rfl,B.t 0,o1,kvs,_,rfl,l1,by omega,mO,⟨_,rfl⟩,w1,?_⟩;have t3:=I2.tk m3;generalize upd H2 (B.t 0) _=H3 at *;have rc:=t3.held mO;have iB:=t3 _ _ (s3 _ _ ht);have xQ:=t3 _ _ (s3 _ _ ha);have ic:=t3 _ _ (s3 _ _ hb);refine⟨_,rfl,B.o,_,rfl,Jy I3.o,_,rfl,_,rfl,t,_,_,_,rfl,rfl,SqT.of iB,jh (j:=1) rfl,n+1,B,_,x,d,_,rfl,I3,kS xQ,fun sp H4 s4 aY=>⟨_,rfl,sp,o1,_,_,rfl,aY,rc.mono s4,fun ti H5 s5 g_=>?_⟩⟩;have I5:=I3.same (s4.trans s5);obtain⟨fj,l4,l6⟩:=I5.kv 2 (by decide);have w2:=qx ((S.spot g1 g2).gp (by omega)) ((O0 (m+1)).gp (by omega)) (by omega);obtain⟨m6,I6,X6⟩:=I5.tieX (X3.same (s4.trans s5)) l4 g_ w2.1;refine⟨B.t 2,ti,fj,_,rfl,l4,by omega,g_,⟨_,rfl⟩,w2,?_⟩;have t6:=(TK.same (s4.trans s5)).trans (I5.tk m6);generalize upd H5 (B.t 2) _=H6 at *;have tS:=t6.held rc;have lm:=t6 _ _ iB;have mK:=t6 _ _ ic;refine⟨_,rfl,t,_,_,_,rfl,rfl,SqT.of lm,jh (j:=0) rfl,rfl,_,rfl,kR ?_⟩;refine⟨_,rfl,B.o,_,rfl,Jy I6.o,_,rfl,_,rfl,_,rfl,t,_,_,_,rfl,rfl,SqT.of lm,jh (j:=2) rfl,n+1+1,B,_,y,e,_,rfl,I6,kS mK,fun su H7 s7 eO=>⟨o1,su,_,_,rfl,tS.mono s7,eO,fun tj H8 s8 C1=>?_⟩⟩;have I8:=I6.same (s7.trans s8);obtain⟨pz,l7,l9⟩:=I8.kv 2 (by decide);have w3:=qx ((O0 (m+1)).gp (by omega)) ((S.spot g3 g4).gp (by omega)) (by omega);obtain⟨m9,I9,X9⟩:=I8.tieX (X6.same (s7.trans s8)) l7 C1 w3.1;refine⟨B.t 2,tj,pz,_,rfl,l7,by omega,C1,⟨_,rfl⟩,w3,?_⟩;have t9:=(TK.same (s7.trans s8)).trans (I8.tk m9);generalize upd H8 (B.t 2) _=H9 at *;have L_:=t9.held tS;have HX:=t9.held (t6.held (t3.held (hv.mono s3)));refine⟨_,rfl,B.o,_,rfl,Jy I9.o,_,rfl,_,rfl,n+1+1+1,B,_,_,x,y,d,e,r,way,b,k,_,rfl,I9,X9,by omega,HX,fun bo mQ Cj ii MQ dh=>⟨_,rfl,true,c,r,way,b,k,jV 0,bo,o1,rfl,(by cases b <;> exact dh),(I9.tk Cj).held L_,(fun z ez=>S.ver (by subst ez;exact g6)),(fun z ez=>by subst ez;exact JP (S.num g6).1),fun tb cG bI gG=>?_⟩⟩;have cz:=ii.same bI;obtain⟨fi,fD,pr⟩:=cz.kv 2 (by decide);have w4:=jeh (m:=m+1) (v:=c.ver r) (way:=way) (s:=jV 0) (by omega) ((jaq (m:=m) (S.ver g5) (by decide)).mono (by omega)) (S.bnd g6) g7;obtain⟨g8,fw,rp⟩:=cz.tieX (MQ.same bI) fD gG w4.1;refine⟨B.t 2,tb,fi,_,rfl,fD,by omega,gG,jeg _ _ _ _ _,w4,?_⟩;refine q _ ((((MvB.same s3).trans m3).trans ((MvB.same (s4.trans s5)).trans m6)).trans (((MvB.same (s7.trans s8)).trans m9).trans ((Cj.trans (.same bI)).trans g8))) (fw.congr (by omega) (by cases b <;> rfl) (by cases b <;> rfl) fun j hj z=>?_) (rp.congr (fun _=>by cases b <;> exact Iff.rfl) (fun _ _=>by cases b <;> rfl));have h3:j=0\/j=1\/j=2:=by omega
  rcases h3 with rfl | rfl | rfl
  .cases b <;> exact Iff.rfl
  .cases b <;> exact Iff.rfl
  .have:∀(L:List D) (p q r:D),z∈L++[p]++[q]++[r]↔z∈L++[p,q,r]:=fun L p q r=>by simp only[bh,cC,lU]
   cases b <;> exact this _ _ _ _
 .obtain⟨g1,g2,g3,g4,g5⟩:=hG
  obtain⟨t,va,vb,rfl,ht,ha,hb⟩:=J7 hv;refine⟨_,rfl,t,_,_,_,rfl,rfl,SqT.of ht,jh (j:=0) rfl,rfl,_,rfl,kA ?_⟩;refine⟨p2 (jV 0),⟨_,rfl,bw rfl,_,_,rfl,⟨_,rfl,bw rfl,_,_,rfl,rfl,_,_,rfl,rfl,rfl⟩,_,_,rfl,rfl,rfl⟩,fun o1 H1 s1 h1=>?_⟩;refine gQ ?_;refine⟨p2 (jV 1),⟨_,rfl,bw rfl,_,_,rfl,⟨_,rfl,bw rfl,_,_,rfl,rfl,_,_,rfl,rfl,rfl⟩,_,_,rfl,rfl,rfl⟩,fun o2 H2 s2 h2=>?_⟩;refine gQ ?_;have s3:=s1.trans s2;have I2:=I.same s3;have mO:=h1.mono s2;obtain⟨kvs,l1,l3⟩:=I2.kv 0 (by decide);have w1:=((O0 m).gp (by omega)).shw (by omega);obtain⟨m3,I3,X3⟩:=I2.spotX (X.same s3) l1 mO w1.1;refine⟨_,rfl,B.o,_,rfl,Kr I2.o,_,rfl,B.t 0,o1,kvs,_,rfl,l1,by omega,mO,⟨_,rfl⟩,w1,?_⟩;have t3:=I2.tk m3;generalize upd H2 (B.t 0) _=H3 at *;have rc:=t3.held mO;have iB:=t3 _ _ (s3 _ _ ht);have xQ:=t3 _ _ (s3 _ _ ha);have ic:=t3 _ _ (s3 _ _ hb);refine⟨_,rfl,B.o,_,rfl,Jy I3.o,_,rfl,_,rfl,t,_,_,_,rfl,rfl,SqT.of iB,jh (j:=1) rfl,n+1,B,_,x,d,_,rfl,I3,kS xQ,fun sp H4 s4 aY=>⟨_,rfl,sp,o1,_,_,rfl,aY,rc.mono s4,fun ti H5 s5 g_=>?_⟩⟩;have I5:=I3.same (s4.trans s5);obtain⟨fj,l4,l6⟩:=I5.kv 2 (by decide);have w2:=qx ((S.spot g1 g2).gp (by omega)) ((O0 (m+1)).gp (by omega)) (by omega);obtain⟨m6,I6,X6⟩:=I5.tieX (X3.same (s4.trans s5)) l4 g_ w2.1;refine⟨B.t 2,ti,fj,_,rfl,l4,by omega,g_,⟨_,rfl⟩,w2,?_⟩;have t6:=(TK.same (s4.trans s5)).trans (I5.tk m6);generalize upd H5 (B.t 2) _=H6 at *;have tS:=t6.held rc;have lm:=t6 _ _ iB;have mK:=t6 _ _ ic;have x9:=t6.held (t3.held h2);refine⟨_,rfl,t,_,_,_,rfl,rfl,SqT.of lm,jh (j:=0) rfl,rfl,_,rfl,kA ?_⟩;obtain⟨pz,l7,l9⟩:=I6.kv 0 (by decide);have w3:=((O1 m).gp (by omega)).shw (by omega);obtain⟨m7,I7,X7⟩:=I6.spotX X6 l7 x9 w3.1;refine⟨_,rfl,B.o,_,rfl,Kr I6.o,_,rfl,B.t 0,o2,pz,_,rfl,l7,by omega,x9,⟨_,rfl⟩,w3,?_⟩;have t7:=I6.tk m7;generalize upd H6 (B.t 0) _=H7 at *;have xl:=t7 _ _ lm;refine⟨_,rfl,_,rfl,t,_,_,_,rfl,rfl,SqT.of xl,jh (j:=3) rfl,n+1+1+1,B,_,c,r,rfl,I7,X7,by omega,fun vv H8 m8 I8 X8 sR=>?_⟩;refine gQ ?_;have t8:=t7.trans (I7.tk m8);have Ea:=t8.held tS;have x6:=t8.held x9;have M8:=(((MvB.same s3).trans m3).trans ((MvB.same (s4.trans s5)).trans m6)).trans (m7.trans m8);refine⟨_,rfl,_,rfl,o1,o2,_,_,rfl,Ea,x6,fun v1 G1 b1 k1=>⟨_,rfl,_,rfl,_,rfl,t,_,_,_,rfl,rfl,SqT.of (b1 _ _ (t8 _ _ lm)),jh (j:=2) rfl,n+1+1+1+1,B,_,y,e,_,rfl,I8.same b1,kS (b1 _ _ (t8 _ _ mK)),fun su G2 b2 eO=>⟨o2,su,_,_,rfl,x6.mono (b1.trans b2),eO,fun v2 G3 b3 k2=>⟨sm rfl,fun l hl=>?_⟩⟩⟩⟩;have b4:=jj hl (.lst [v1,v2]);have e4:upd G3 l (.lst [v1,v2]) l=some (.lst [v1,v2]):=jf;generalize upd G3 l (.lst [v1,v2])=G4 at *;have bb:=(b1.trans b2).trans (b3.trans b4);obtain⟨c8,oa⟩:∃c8,c8=((c.add 2 [p2 (jV 0)]).add 1 [kT (c.spot x d) (jV 0)]).add 2 [p2 (jV 1)]:=⟨_,rfl⟩
  have I9:BxAt (n+1+1+1+1) B c8 G4:=by rw[oa];exact I8.same bb
  have dC:HeldL G4 [kT (jV 0) (jV 1),kT (jV 1) (c.spot y e)] [v1,v2]:=jc (k1.mono (b2.trans (b3.trans b4))) (jc (k2.mono b4) jl);have BF:∀d∈[kT (jV 0) (jV 1),kT (jV 1) (c.spot y e)],Shw d/\∃es,d=.tup es:=fun d hd=>by
   rcases bG.mp hd with rfl | hd
   .exact⟨qx ((O0 m).gp (by omega)) ((O1 m).gp (by omega)) (by omega),_,rfl⟩
   .cases aN.mp hd
    exact⟨qx ((O1 (m+1)).gp (by omega)) ((S.spot g3 g4).gp (by omega)) (by omega),_,rfl⟩
  generalize hT:[kT (jV 0) (jV 1),kT (jV 1) (c.spot y e)]=T at dC BF;have fT:∀i,i < 3->l≠B.l i:=fun i hi z=>by
   obtain⟨ys,y1,_⟩:=(I8.same (b1.trans (b2.trans b3))).l i hi;rw[z,y1]at hl
   cases hl
  have Hs:∀{G:Hp},MvB B G4 G->G l=some (.lst [v1,v2]):=fun mv=>by
   obtain⟨_,q1,_⟩:=I9.st;obtain⟨_,q2,_⟩:=I9.nw;obtain⟨_,q3,_⟩:=I9.vs;refine mv _ _ (jv e4 q1 (by intro z;cases z)) (jv e4 q2 (by intro z;cases z)) (jv e4 q3 (by intro z;cases z)) (fun i hi=>?_) fT e4;obtain⟨_,q4,_⟩:=I9.kv i hi;exact jv e4 q4 (by intro z;cases z)
  have TL:T.length=2:=by rw[<- hT];rfl
  let Pv:Nat->L2.St->Hp->Prop:=fun i σ G=>∃u,σ=[some (.ref B.o),some (.ref t),none,none,some o1,some o2,some vv,u]/\MvB B G4 G/\BxAt (n+4+i) B (c8.add 1 (T.take i)) G/\XE B (c.name r) G
  refine⟨l,rfl,⟨_,SqL.of e4⟩,?_⟩;refine kG (xs:=[v1,v2]) Pv ⟨none,rfl,.same (fun _ _ e=>e),I9.congr (by omega) rfl rfl fun j hj z=>?_,X8.same bb⟩ ?_ ?_ ?_
  .have h3:j=0\/j=1\/j=2:=by omega
   rcases h3 with rfl | rfl | rfl
   .exact Iff.rfl
   .exact Iff.rfl
   .show z∈c8.l 1↔z∈c8.l 1++[]
    rw[dl]
  .rintro i σ G _ ⟨u,rfl,mv,_⟩
   exact SqL.of (Hs mv)
  .rintro i z σ G hz ⟨u,rfl,mv,J,JX⟩
   refine qN ?_;intro _;refine gQ ?_;have hi:i < T.length:=by rw[TL];exact (bL.mp hz).1
   have hd:=(I9.tk mv).held (j7 dC (aK hi) hz);obtain⟨w5,w6⟩:=BF T[i] (cT hi);obtain⟨fi,fD,pr⟩:=J.kv 2 (by decide);obtain⟨m9,J9,X9⟩:=J.tieX JX fD hd w5.1;refine⟨_,rfl,B.o,_,rfl,Jy J.o,_,rfl,B.t 2,z,fi,_,rfl,fD,by omega,hd,w6,w5,⟨_,rfl,mv.trans m9,J9.congr (by omega) rfl rfl fun j hj z=>?_,X9⟩⟩;have h3:j=0\/j=1\/j=2:=by omega
   rcases h3 with rfl | rfl | rfl
   .exact Iff.rfl
   .exact Iff.rfl
   .show z∈c8.l 1++T.take i++[T[i]]↔z∈c8.l 1++T.take (i+1)
    rw[eI,aK hi,bh];exact Iff.rfl
  .rintro σ G ⟨u,rfl,mv,J,JX⟩
   have tz:=(TK.same bb).trans (I9.tk mv);have CO:=tz.held sR;refine⟨_,rfl,B.o,_,rfl,Jy J.o,_,rfl,_,rfl,vv,o2,_,_,rfl,CO,tz.held x6,fun e1 G5 a1 k5=>⟨e1,1,_,rfl,k5,fun e2 G6 a2 k6=>⟨_,rfl,_,rfl,vv,o1,_,_,rfl,CO.mono (a1.trans a2),(tz.held Ea).mono (a1.trans a2),fun e3 G7 a3 k7=>⟨e2,e3,_,_,rfl,k6.mono a3,k7,fun tl G8 a4 k8=>?_⟩⟩⟩⟩;have aa:=(a1.trans a2).trans (a3.trans a4);have J8:=J.same aa;obtain⟨fi,fD,pr⟩:=J8.kv 2 (by decide);have CP:Ver (c.ver r):=S.ver g5;have w7:Shw (kT (mor (jW (c.ver r) (jV 1)) 1) (jW (c.ver r) (jV 0))):=qx (((jaq (m:=m) CP (by decide)).mor (d:=1) (by decide)).gp (by omega)) (((jaq (m:=m) CP (by decide)).mono (dw _)).gp (by omega)) (by omega);have k8:Held G8 (kT (mor (jW (c.ver r) (jV 1)) 1) (jW (c.ver r) (jV 0))) tl:=k8;obtain⟨g8,fw,rp⟩:=J8.tieX (JX.same aa) fD k8 w7.1;have pr:fi.length<=n+4+2:=pr;refine⟨B.t 2,tl,fi,_,rfl,fD,by omega,k8,⟨_,rfl⟩,w7,?_⟩;refine q _ ((M8.trans (.same bb)).trans (mv.trans ((MvB.same aa).trans g8))) (fw.congr (show n+4+2+1<=n+12 by omega) (by rw[oa];rfl) (by rw[oa];rfl) fun j hj z=>?_) (rp.congr (fun _=>Iff.rfl) (fun _ _=>rfl));have h3:j=0\/j=1\/j=2:=by omega
   rcases h3 with rfl | rfl | rfl
   .show z∈c8.l 2↔z∈c.l 2++[p2 (jV 0),p2 (jV 1)]
    rw[oa];show z∈c.l 2++[p2 (jV 0)]++[p2 (jV 1)]↔_;rw[bh];exact Iff.rfl
   .rw[oa]
    exact Iff.rfl
   .show z∈c8.l 1++T.take 2++[_]↔z∈c.l 1++_
    rw[oa,<- hT];show z∈c.l 1++[kT (c.spot x d) (jV 0)]++[kT (jV 0) (jV 1),kT (jV 1) (c.spot y e)]++[_]↔_;simp only[bh,cC,lU]
end
theorem jaY:∀(n:Nat) (qs:List DA),qs.length=n->(∀d,d∈(qf qs).map (·.1)↔d∈qs.map (·.1))/\((qf qs).getLast?.map (·.1)=qs.getLast?.map (·.1))/\((qs.map (·.1)).Pairwise (fun a b=>dLt b a=false)->((qf qs).map (·.1)).Pairwise (fun a b=>dLt a b=true)):=by
 intro n;induction n with
 | zero=>
  intro qs h;obtain rfl:qs=[]:=List.eq_nil_of_length_eq_zero h;exact⟨fun d=>Iff.rfl,rfl,fun _=>.nil⟩
 | succ n ih=>
  intro qs h;rcases F5 qs with rfl | ⟨ps,p,rfl⟩
  .cases h
  rw[F8]at h |-;rw[bV]at h;obtain⟨i1,i2,i3⟩:=ih ps (by simpa using h);rw[YD];generalize qf ps=T at *;have hl:(ps++[p]).getLast?=some p:=by simp
  rw[hl];rcases F5 T with rfl | ⟨T',l,rfl⟩
  .have e:ps=[]:=by
    cases ps with
    | nil=>rfl
    | cons q r=>exact absurd ((i1 q.1).mpr (bq.mpr ⟨q,bU ..,rfl⟩)) (by simp)
   subst e;exact⟨fun d=>Iff.rfl,rfl,fun _=>vq _ _⟩
  .rw[F8]at *
   have hg:(T'++[l]).getLast?=some l:=by simp
   have eo:zS (T'++[l]) p=if l.1=p.1 then T'++[l] else T'++[l]++[p]:=by
    unfold zS;rw[hg]
   rw[eo];by_cases z:l.1=p.1
   .rw[Qx z]
    refine⟨fun d=>?_,by rw[hg];exact Qz some z,fun hp=>?_⟩
    .rw[i1,aX,bK]
     refine⟨.inl,fun w=>w.elim id fun y=>?_⟩;rw[<- i1];rw[aU,eJ,aN]at y;rw[y,<- z,aX];exact cN _ (aN.mpr rfl)
    .rw[aX,ip]at hp
     exact i3 hp.1
   .rw[Qw z]
    refine⟨fun d=>?_,by simp,fun hp=>?_⟩
    .rw[aX,bK,i1,aX,bK]
    .rw[aX,ip]at hp
     obtain⟨p1,_,p3⟩:=hp;have r1:=i3 p1;rw[aX (l₁:=T'++[l]),ip];refine⟨r1,vq _ _,fun a ha b hb=>?_⟩;rw[aU,eJ,aN]at hb;subst hb;have Ds:dLt l.1 p.1=true:=by
      have f1:dLt p.1 l.1=false:=p3 l.1 ((i1 _).mp (by rw[aX];exact cN _ (aN.mpr rfl))) p.1 (aN.mpr rfl)
      cases f2:dLt l.1 p.1 with
      | true=>rfl
      | false=>exact absurd (Ko _ _ f2 f1) z
     rw[aX,ip]at r1;rw[aX,bK]at ha;rcases ha with ha | ha
     .exact yw _ _ _ (r1.2.2 a ha l.1 (aN.mpr rfl)) Ds
     .rw[aN.mp ha]
      exact Ds
theorem jaX(qs:List DA)(d:D):d∈(qf qs).map (·.1)↔d∈qs.map (·.1):=(jaY _ qs rfl).1 d
theorem jdq{qs:List DA}(h:(qs.map (·.1)).Pairwise (fun a b=>dLt b a=false)):((qf qs).map (·.1)).Pairwise (fun a b=>dLt a b=true):=(jaY _ qs rfl).2.2 h
theorem jcz:∀{a b:List D},a.Pairwise (fun x y=>dLt x y=true)->b.Pairwise (fun x y=>dLt x y=true)->(∀d,d∈a↔d∈b)->a=b
 | [],[],_,_,_=>rfl
 | [],y :: b,_,_,h=>absurd ((h y).mpr (bU ..)) (by simp)
 | x :: a,[],_,_,h=>absurd ((h x).mp (bU ..)) (by simp)
 | x :: a,y :: b,ha,hb,h=>by
  rw[PQ]at ha hb;have wV:∀d,dLt d d=true->False:=fun d e=>by rw[jat]at e;cases e
  have Mn:x=y:=by
   rcases bG.mp ((h x).mp (bU ..)) with e | e
   .exact e
   .rcases bG.mp ((h y).mpr (bU ..)) with e' | e'
    .exact e'.symm
    .exact (wV x (yw _ _ _ (ha.1 y e') (hb.1 x e))).elim
  subst Mn;rw[jcz ha.2 hb.2 fun d=>?_];constructor
  .intro hd
   rcases bG.mp ((h d).mp (ce _ hd)) with e | e
   .rw[e]at hd;exact (wV x (ha.1 x hd)).elim
   .exact e
  .intro hd
   rcases bG.mp ((h d).mpr (ce _ hd)) with e | e
   .rw[e]at hd;exact (wV x (hb.1 x hd)).elim
   .exact e
theorem jgg{a:List D}(h:a.Pairwise (fun x y=>dLt y x=false))(n:a.Nodup):a.Pairwise (fun x y=>dLt x y=true):=by
 refine (Qe.and h n).imp fun {x y} q=>?_
 cases e:dLt x y with
 | true=>rfl
 | false=>exact absurd (Ko _ _ e q.1) q.2
theorem Jw(a b:Str):Cmp (.str a) (.str b):=by unfold Cmp;trivial
theorem ZD(a b:Int):Cmp (.int a) (.int b):=by unfold Cmp;trivial
theorem kZ(ys:List D):CmpL [] ys:=by unfold CmpL;trivial
theorem kJ{x y:D}{xs ys:List D}(h:Cmp x y)(t:CmpL xs ys):CmpL (x :: xs) (y :: ys):=by
 unfold CmpL;exact⟨fun _=>t,fun _=>h⟩
theorem Jt{a b:Str}{xs ys:List D}(h:decide (a=b)=false):CmpL (.str a :: xs) (.str b :: ys):=by
 unfold CmpL;refine⟨fun e=>?_,fun _=>Jw a b⟩;rw[jcS]at e;have:=Qt e
 cases this
 rw[Qu rfl]at h
 cases h
theorem yO{a b:List D}(h:CmpL a b):Cmp (.tup a) (.tup b):=by unfold Cmp;exact h
theorem jf4{v u:D}(h:Ver v)(k:Ver u):Cmp v u:=by
 cases h <;> cases k <;> refine yO ?_ <;> first
  | exact kJ (Jw _ _) (kJ (Jw _ _) (kZ _))
  | exact kJ (Jw _ _) (kJ (ZD _ _) (kZ _))
  | exact Jt (by decide +kernel)
theorem ZU{m:Nat}{d:D}(h:Src m d):∀{k:Nat} {e:D},Src k e->Cmp d e:=by
 induction h with
 | @ent m v d c hv hd hc ih=>
  intro k e he
  cases he with
  | @ent k v' d' c' mm mH du=>exact yO (kJ (Jw _ _) (kJ (jf4 hv mm) (kJ (yO (kJ (ih mH) (kJ (ZD _ _) (kZ _)))) (kZ _))))
  | _=>exact yO (Jt (by decide +kernel))
 | nought=>
  intro k e he
  cases he <;> refine yO ?_ <;> first
   | exact kJ (Jw _ _) (kZ _)
   | exact Jt (by decide +kernel)
 | start _=>
  intro k e he
  cases he <;> refine yO ?_ <;> first
   | exact kJ (Jw _ _) (kJ (Jw _ _) (kZ _))
   | exact Jt (by decide +kernel)
 | pick _=>
  intro k e he
  cases he <;> refine yO ?_ <;> first
   | exact kJ (Jw _ _) (kJ (ZD _ _) (kZ _))
   | exact Jt (by decide +kernel)
 | own _=>
  intro k e he
  cases he <;> refine yO ?_ <;> first
   | exact kJ (Jw _ _) (kJ (ZD _ _) (kZ _))
   | exact Jt (by decide +kernel)
theorem jgb{ds:List D}(h:∀d∈ds,∃p:P2,d=p2 p/\Gs 90 p):SortT ds 200:=by
 refine⟨⟨fun d hd e he=>?_,fun d hd=>?_,fun d hd=>?_⟩,fun d hd=>?_⟩
 .obtain⟨p,rfl,g⟩:=h d hd
  obtain⟨q,rfl,k⟩:=h e he;exact yO (kJ (ZU g.1 k.1) (kJ (ZD _ _) (kZ _)))
 .obtain⟨p,rfl,g⟩:=h d hd
  exact ((g.gp (aD _)).shw (aD _)).2.1
 .obtain⟨p,rfl,g⟩:=h d hd
  exact⟨_,rfl⟩
 .obtain⟨p,rfl,g⟩:=h d hd
  obtain⟨es,e⟩:=JP g.1;exact⟨es,[.int p.2],by unfold p2;rw[e]⟩
def RwG:Rw->Prop
 | .set x t k=>Wd x/\TmG t/\k.natAbs<=10 ^ 20
 | .put r x d t k=>Wd r/\NmG x/\d.natAbs<=10 ^ 20/\TmG t/\k.natAbs<=10 ^ 20
 | .any x=>Wd x
 | .lose r=>Wd r
 | .know C=>ClG C
structure CG(m:Nat)(c:Cs):Prop where
 s:St m c
 l2:∀d∈c.l 2,∃p:P2,d=p2 p/\Gs 90 p
 l4:∀d∈c.l 4,∃x u y,d=.tup [x,p2 u,y]/\Gs 90 u
 l5:∀d∈c.l 5,∃x u y,d=.tup [x,p2 u,y]/\Gs 90 u
theorem CG.add2{m:Nat}(G:CG m c)(h:Gs 90 p):CG m (c.add 2 [p2 p]):=⟨G.s.congr rfl rfl,fun d hd=>by
 have hd:d∈c.l 2++[p2 p]:=hd;rcases bK.mp hd with hd | hd
 .exact G.l2 d hd
 .exact⟨p,aN.mp hd,h⟩,G.l4,G.l5⟩
theorem CG.name{m:Nat}(G:CG m c)(r:Str):CG m (c.name r):=⟨G.s.congr rfl rfl,G.l2,G.l4,G.l5⟩
theorem CG.add1{m:Nat}(G:CG m c)(ds:List D):CG m (c.add 1 ds):=⟨G.s.congr rfl rfl,G.l2,G.l4,G.l5⟩
theorem CG.add3{m:Nat}(G:CG m c)(ds:List D):CG m (c.add 3 ds):=⟨G.s.congr rfl rfl,G.l2,G.l4,G.l5⟩
theorem CG.add0{m:Nat}(G:CG m c)(ds:List D):CG m (c.add 0 ds):=⟨G.s.congr rfl rfl,G.l2,G.l4,G.l5⟩
theorem CG.add4{m:Nat}(G:CG m c){x y:D}{u:P2}(h:Gs 90 u):CG m (c.add 4 [.tup [x,p2 u,y]]):=⟨G.s.congr rfl rfl,G.l2,fun d hd=>by
 have hd:d∈c.l 4++[.tup [x,p2 u,y]]:=hd;rcases bK.mp hd with hd | hd
 .exact G.l4 d hd
 .exact⟨x,u,y,aN.mp hd,h⟩,G.l5⟩
theorem CG.add5{m:Nat}(G:CG m c){x y:D}{u:P2}(h:Gs 90 u):CG m (c.add 5 [.tup [x,p2 u,y]]):=⟨G.s.congr rfl rfl,G.l2,G.l4,fun d hd=>by
 have hd:d∈c.l 5++[.tup [x,p2 u,y]]:=hd;rcases bK.mp hd with hd | hd
 .exact G.l5 d hd
 .exact⟨x,u,y,aN.mp hd,h⟩⟩
theorem CG.mono{m k:Nat}(G:CG m c)(h:m<=k):CG k c:=⟨⟨fun x p e=>(G.s.nu x p e).mono h,G.s.ve⟩,G.l2,G.l4,G.l5⟩
theorem CG.setn{m:Nat}(G:CG m c)(h:Gs m p):CG m (c.setn x p):=⟨⟨fun y q e=>by
 have e:yg c.nu x p y=some q:=e;unfold yg at e;split at e
 .cases e;exact h
 .exact G.s.nu y q e,G.s.ve⟩,G.l2,G.l4,G.l5⟩
theorem CG.setv{m:Nat}(G:CG m c){d:D}(h:Ver d):CG m (c.setv r d):=⟨⟨G.s.nu,fun y q e=>by
 have e:yg c.ve r d y=some q:=e;unfold yg at e;split at e
 .cases e;exact h
 .exact G.s.ve y q e⟩,G.l2,G.l4,G.l5⟩
theorem CG.stand{m:Nat}(G:CG m c)(hm:m<=85){t:Tm}(h:TmG t):CG m (c.stand t).2:=by
 cases t with
 | is x=>exact G
 | at_ r x d=>exact (G.add2 ((G.s.spot h.2.1 h.2.2).mono (by omega))).name r
theorem CG.body{m:Nat}(G:CG m c)(r way:Str)(b:Bd)(k:Int):CG m (c.body r way b k).2:=by
 cases b with
 | is x=>exact G.name r
 | row q=>exact (G.name r).name q
theorem CG.least{m:Nat}(G:CG m c)(hm:m<=85){a:Tm}(h:TmG a)(k:TmG b)(j:Int):CG m (c.least a b j).2:=(G.stand hm k).stand hm h
theorem CG.know{m:Nat}(G:CG m c)(hm:m<=85){k:Cl}(h:ClG k):CG m (c.know k):=by
 cases k with
 | least a b j=>exact (G.least hm h.1 h.2.1 j).add1 _
 | each t td u ud r way b j=>
  obtain⟨g1,g2,g3,g4,_⟩:=h;exact ((G.add2 ((G.s.spot g1 g2).mono (by omega))).body r way b j).add4 ((G.s.spot g3 g4).mono (by omega))
 | rise t td u ud r=>
  obtain⟨g1,g2,g3,g4,_⟩:=h;exact ((G.add2 ((G.s.spot g1 g2).mono (by omega))).name r).add5 ((G.s.spot g3 g4).mono (by omega))
theorem CG.take{m:Nat}(G:CG m c)(hm:m<=85)(hn:n<=1000){r:Rw}(h:RwG r):CG (m+2) (c.take n r):=by
 cases r with
 | set x t k=>exact ((G.stand hm h.2.1).mono (by omega)).setn ((G.s.stand (by omega) h.2.1).mor h.2.2)
 | put r x d t k=>
  obtain⟨g1,g2,g3,g4,g5⟩:=h;exact (((((G.stand hm g4).name r).add2 ((G.s.spot g2 g3).mono (by omega))).add3 _).add1 _).setv (.put hn) |>.mono (by omega)
 | any x=>exact (G.mono (by omega)).setn ⟨.pick hn,bT _⟩
 | lose r=>exact (((G.name r).setv (.lost hn)).add0 _).mono (by omega)
 | know C=>exact (G.know hm h).mono (by omega)
theorem CG.none:CG 0 Cs.none:=⟨⟨fun _ _ e=>(nomatch e),fun _ _ e=>(nomatch e)⟩,fun _ h=>(nomatch h),fun _ h=>(nomatch h),fun _ h=>(nomatch h)⟩
theorem CG.rows:∀{R:List Rw} {m n:Nat} {c:Cs},CG m c->m+2 * R.length<=85->n+R.length<=1000->(∀r∈R,RwG r)->CG (m+2 * R.length) (c.rows R n)
 | [],m,n,c,G,_,_,_=>G
 | r :: R,m,n,c,G,h1,h2,h3=>by
  rw[ck]at h1 h2 |-;have:=CG.rows (R:=R) (n:=n+1) (G.take (n:=n) (by omega) (by omega) (h3 r (bU ..))) (by omega) (by omega) fun q hq=>h3 q (ce _ hq)
  rw[show m+2 * (R.length+1)=m+2+2 * R.length by omega];exact this
abbrev Yx:aF:=top 53
theorem jc4{X:Cx}{pos:Pos}:QE X (Expr.Dict [] [] pos) jeq:=⟨je1⟩
def ji2(A:BA)(H:Hp):Prop:=H A.o=none/\H A.st=none/\H A.nw=none/\H A.vs=none/\(∀i,i < 3->H (A.t i)=none)/\∀i,i < 3->H (A.l i)=none
inductive spWalkL(vs:List V)(H:Hp)(Q:VK)(E:XK):Prop
 | mk (a:ad) (R:List Rw) (rs:List V) (k:Cl) (v:V) (_:vs=[.ref a,v]) (_:H a=some (.lst rs)) (_:HeldL H (R.map Rw.toD) rs) (_:R.length<=40) (_:(∀r∈R,RwG r)) (_:ClG k) (_:Held H k.toD v) (_:∀(A:BA) (H':Hp),Same H H'->ji2 A H->BxAt (8 * R.length+12) A (kF R k) H'->XE A (kF R k) H'->Q (.ref A.o) H')
structure Lay(H:Hp)(os:List (Prod ad HO))(G:Hp):Prop where
 s:Same H G
 o:∀p∈os,G p.1=some p.2/\H p.1=none
 nd:(os.map (·.1)).Nodup
 f:∀a,G a=none->H a=none
theorem Lay.zero(H:Hp):Lay H [] H:=⟨fun _ _ e=>e,fun _ h=>(nomatch h),oS,fun _ e=>e⟩
variable {G:Hp}
theorem Lay.step{os:List (Prod ad HO)}(L:Lay H os G){p:ad}(hp:G p=none)(o:HO):Lay H (os++[(p,o)]) (upd G p o):=by
 refine⟨L.s.trans (jj hp o),fun q hq=>?_,?_,fun a ha=>?_⟩
 .rcases bK.mp hq with hq | hq
  .exact⟨jj hp o _ _ (L.o q hq).1,(L.o q hq).2⟩
  .cases aN.mp hq
   exact⟨jf,L.f _ hp⟩
 .rw[aX,vt]
  refine⟨L.nd,by simp,fun x hx y hy=>?_⟩
  cases aN.mp hy
  obtain⟨q,q1,rfl⟩:=bq.mp hx;exact jp (L.o q q1).1 hp
 .by_cases y:a=p
  .rw[y,jf]at ha;cases ha
  .rw[jB y]at ha;exact L.f _ ha
variable {a:ad}
theorem Lay.set{os:List (Prod ad HO)}{u:HO}(L:Lay H ((a,u) :: os) G)(u':HO):Lay H ((a,u') :: os) (upd G a u'):=by
 have ha:=L.o _ (bU ..);have hn:=fL.mp L.nd;refine⟨fun b o e=>jk (jp e ha.2) (L.s b o e),fun q hq=>?_,L.nd,fun b hb=>?_⟩
 .rcases bG.mp hq with rfl | hq
  .exact⟨jf,ha.2⟩
  .have h2:=L.o q (ce _ hq)
   exact⟨jk (fun e=>hn.1 (bq.mpr ⟨q,hq,e⟩)) h2.1,h2.2⟩
 .by_cases y:b=a
  .rw[y,jf]at hb;cases hb
  .rw[jB y]at hb;exact L.f _ hb
def jdU(o a1 a2 a3 a4 a5 a6 a7 a8 a9:ad):BA:=⟨o,a1,a2,a3,fun i=>if i=0 then a4 else if i=1 then a5 else a6,fun i=>if i=0 then a7 else if i=1 then a8 else a9⟩
theorem qy{i:Nat}(h:i < 3):i=0\/i=1\/i=2:=by omega
def kv6(a1 a2 a3 a4 a5 a6:ad):List (Key×V):=[(Sum.inr "stands",V.ref a1),(Sum.inr "now",V.ref a2),(Sum.inr "versions",V.ref a3),(Sum.inr "spots",V.ref a4),(Sum.inr "ends",V.ref a5),(Sum.inr "ties",V.ref a6)]
def os6(a1 a2 a3 a4 a5 a6:ad):List (Prod ad HO):=[(a1,HO.dK []),(a2,HO.dK []),(a3,HO.dT []),(a4,HO.dK []),(a5,HO.dK []),(a6,HO.dK [])]
def kv7(a1 a2 a3 a4 a5 a6 a7:ad):List (Key×V):=kv6 a1 a2 a3 a4 a5 a6++([(Sum.inr "each",V.ref a7)]:List (Key×V))
def os7(a1 a2 a3 a4 a5 a6 a7:ad):List (Prod ad HO):=os6 a1 a2 a3 a4 a5 a6++[(a7,HO.lst [])]
def kv8(a1 a2 a3 a4 a5 a6 a7 a8:ad):List (Key×V):=kv7 a1 a2 a3 a4 a5 a6 a7++([(Sum.inr "rise",V.ref a8)]:List (Key×V))
def os8(a1 a2 a3 a4 a5 a6 a7 a8:ad):List (Prod ad HO):=os7 a1 a2 a3 a4 a5 a6 a7++[(a8,HO.lst [])]
def kv9(a1 a2 a3 a4 a5 a6 a7 a8 a9:ad):List (Key×V):=kv8 a1 a2 a3 a4 a5 a6 a7 a8++([(Sum.inr "puts",V.ref a9)]:List (Key×V))
def os9(a1 a2 a3 a4 a5 a6 a7 a8 a9:ad):List (Prod ad HO):=os8 a1 a2 a3 a4 a5 a6 a7 a8++[(a9,HO.lst [])]
theorem jhd{o a1 a2 a3 a4 a5 a6 a7 a8 a9:ad}(L:Lay H [(o,.dK (zM (jdU o a1 a2 a3 a4 a5 a6 a7 a8 a9))),(a1,.dK []),(a2,.dK []),(a3,.dT []),(a4,.dK []),(a5,.dK []),(a6,.dK []),(a7,.lst []),(a8,.lst []),(a9,.lst [])] G):BxAt 0 (jdU o a1 a2 a3 a4 a5 a6 a7 a8 a9) Cs.none G/\XE (jdU o a1 a2 a3 a4 a5 a6 a7 a8 a9) Cs.none G/\ji2 (jdU o a1 a2 a3 a4 a5 a6 a7 a8 a9) H:=by
 have h:=L.o;simp only[List.forall_mem_cons]at h;obtain⟨⟨b0,n0⟩,⟨b1,n1⟩,⟨b2,n2⟩,⟨b3,n3⟩,⟨b4,n4⟩,⟨b5,n5⟩,⟨b6,n6⟩,⟨b7,n7⟩,⟨b8,n8⟩,⟨b9,n9⟩,_⟩:=h;have nd:[o,a1,a2,a3,a4,a5,a6,a7,a8,a9].Nodup:=L.nd;have Ac:∀(a:ad) (i:Nat),i < 3->G a=some (.dK [])->TAt 0 (tOf Cs.none i) G a:=fun a i hi e=>⟨[],[],e,rfl,jl,oS,fun d=>by
  rcases qy hi with rfl | rfl | rfl <;> exact Iff.rfl,fun _ z=>(nomatch z),aD _⟩
 refine⟨⟨b0,?_,fun i j hi hj e=>?_,⟨[],b1,aD _,fun x=>⟨fun _=>rfl,fun _ z=>(nomatch z)⟩⟩,⟨[],b2,aD _,fun x=>⟨fun _=>rfl,fun _ z=>(nomatch z)⟩⟩,⟨[],b3,aD _⟩,fun i hi=>?_,fun i hi=>?_⟩,⟨⟨[],b3,oS,fun d=>Iff.rfl⟩,fun i hi=>?_⟩,n0,n1,n2,n3,fun i hi=>?_,fun i hi=>?_⟩
 .show [o,a1,a2,a4,a5,a6].Nodup
  exact nd.sublist (.cons₂ _ (.cons₂ _ (.cons₂ _ (.cons _ (.cons₂ _ (.cons₂ _ (.cons₂ _ (List.nil_sublist _))))))))
 .simp only[fL,bG,FX,or_false,not_or]at nd
  obtain⟨_,_,_,_,_,_,_,⟨x1,x2⟩,x3,_⟩:=nd;rcases qy hi with rfl | rfl | rfl <;> rcases qy hj with rfl | rfl | rfl <;> first | rfl | exact absurd e x1 | exact absurd e x2 | exact absurd e x3 | exact absurd e.symm x1 | exact absurd e.symm x2 | exact absurd e.symm x3
 .rcases qy hi with rfl | rfl | rfl
  .exact Ac _ _ hi b4
  .exact Ac _ _ hi b5
  .exact Ac _ _ hi b6
 .rcases qy hi with rfl | rfl | rfl
  .exact⟨_,b7,aD _⟩
  .exact⟨_,b8,aD _⟩
  .exact⟨_,b9,aD _⟩
 .rcases qy hi with rfl | rfl | rfl
  .exact⟨_,b7,jl⟩
  .exact⟨_,b8,jl⟩
  .exact⟨_,b9,jl⟩
 .rcases qy hi with rfl | rfl | rfl
  .exact n4
  .exact n5
  .exact n6
 .rcases qy hi with rfl | rfl | rfl
  .exact n7
  .exact n8
  .exact n9
theorem Kc{G':Hp}(N:ji2 A H)(s:Same H G)(m:MvB A G G'):Same H G':=fun b o e=>by
 obtain⟨_,n1,n2,n3,n4,n5⟩:=N;exact m b o (jp e n1) (jp e n2) (jp e n3) (fun i hi=>jp e (n4 i hi)) (fun i hi=>jp e (n5 i hi)) (s b o e)
theorem JA{k:Int}{t:Tm}:let s:=c.spot x d;let v:=mor (c.stand t).1 k;let c':=((((c.stand t).2.add 2 [p2 s]).add 1 [kT (jW (ym n) s) v]).add 1 [kT v (jW (ym n) s)]).setv r (ym n)
  (c.take n (.put r x d t k)).nu=c'.nu/\(c.take n (.put r x d t k)).ve=c'.ve/\∀i,i < 3->∀z,z∈tOf c' i↔z∈tOf (c.take n (.put r x d t k)) i:=by
 refine⟨rfl,rfl,fun i hi z=>?_⟩
 rcases qy hi with rfl | rfl | rfl
 .exact Iff.rfl
 .exact Iff.rfl
 .show z∈((c.stand t).2.l 1++[_])++[_]↔z∈(c.stand t).2.l 1++[_,_]
  rw[bh]
  exact Iff.rfl
theorem jh2{k:Int}{t:Tm}{xs:List V}(X:XE A ((c.name r).stand t).2 H)(inj:∀i j,i < 3->j < 3->A.l i=A.l j->i=j)(h:H (A.l 2)=some (.lst xs))(hv:Held H (.tup [ym n,c.ver r,p2 (c.spot x d),p2 (mor (c.stand t).1 k)]) v):XE A (c.take n (.put r x d t k)) (upd H (A.l 2) (.lst (xs++[v]))):=
 X.addl inj (i:=2) (by decide) h hv (fun z=>by
  rw[ye,Kf,or_right_comm];show _↔z∈yP ((c.stand t).2.name r);rw[Kf,ye])
  (by cases t <;> exact aX) (fun j hj mD=>by
   rcases qy hj with rfl | rfl | rfl <;> first | exact absurd rfl mD | (cases t <;> rfl))
theorem jf2{kvs:List (List Key×V)}(X:XE A (c.name r) H)(h:H A.vs=some (.dT kvs)):XE A (c.take n (.lose r)) (upd H A.vs (.dT (j4 kvs [.inr "lost",.inl n] v))):=
 X.setvs h (fun d=>by
  show d∈(c.name r).na.map yl++((c.name r).l 0++[Kg n])↔d∈(c.name r).na.map yl++(c.name r).l 0\/d=Kg n;rw[<- bh,bK,aN]) (fun j hj=>by rcases qy hj with rfl | rfl | rfl <;> rfl)
section
theorem je8(F:Fun K "_law_walk" "_law_walk" Yx f fd)(B:Free0 mg)(iL:mg "enumerate" = none)(Az:Fn P w K mg base 16 "_law_known" ["_law_box","_law_claim_here"] spKnown)(AG:Fn P w K mg base 16 "_law_denied" ["_law_box","_law_goal"] spDenied)(f_:Fn P w K mg base 15 "_law_source" ["_law_box","_law_term_here"] spSrc)(cS:Fn P w K mg base 14 "_law_kept" ["_law_some","_law_one"] spKept)(cg:Fn P w K mg base 1 "_law_tie" ["_law_one","_law_other"] spAtM)(cY:Fn P w K mg base 1 "_law_more" ["_law_one","_law_more_here"] spMore)(e_:Fn P w K mg base 2 "_law_spot" ["_law_box","_law_place_here"] spSpotL)(dO:Fn P w K mg base 1 "_law_version" ["_law_box","_law_r"] spVerL)(cZ:Fn P w K mg base 1 "_law_entry" ["_law_version_here","_law_spot_here"] spEnt):FnOk P w K mg base CX0 17 f fd ["_law_straight_here","_law_goal"] spWalkL:=by
 have sc:FnScope ["_law_straight_here","_law_goal","_law_box","_law_n","_law_row","_law_old","_law_here","_law_worth","_law_new"] ["_law_straight_here","_law_goal"] (jm Yx):=fQ;refine F.okZ sc (fun ax A outer s H vs Q E hr h=>?_);have hu:(A.deeper (cA "_law_walk" (jm Yx) s.heap.objs.size f ax)).units+1 < cLine:=by have:=hr.units;omega
 obtain⟨a,R,rs,k,v,rfl,ha,cq,hl,hG,hk,hv,q⟩:=h;refine⟨_,(jd (jy (i:=2) sc.nd rfl oQ (jd6 (zr jq k9 (zr jq k9 (zr jq jc4 (zr jq k9 (zr jq k9 (zr jq k9 jd2)))))) rfl rfl (by simp) (by decide)))
   (jd (kC hu (zpv 2) jq (jG jb) rfl)
   (jd (kC hu (zpv 2) jq (jG jb) rfl)
   (jd (kC hu (zpv 2) jq (jG jb) rfl)
   (jd (ky df rfl (Yj (by rfl) iL (ja (zpv 0) jb)) (kH rfl (jz (ju (i:=3) sc.nd rfl oQ) (jz (ju (i:=4) sc.nd rfl oQ) kr))) (ji (jN (jD ku (jr jw (zpv 4) je (fun _ _=>rfl)) jq (jI _)) (ji (jA (jg Az hr (ja (zpv 2) (ja (jr jw (zpv 4) je (fun _ _=>rfl)) jb))))) (ji (jN (jD ku (jr jw (zpv 4) je (fun _ _=>rfl)) jq (jI _)) (ji (kC hu (jO hu (zpv 2) jq (fun _ _=>rfl)) (jr jw (zpv 4) je (fun _ _=>rfl)) (jg cY hr (ja (jg f_ hr (ja (zpv 2) (ja (jr jw (zpv 4) je (fun _ _=>rfl)) jb))) (ja (jr jw (zpv 4) je (fun _ _=>rfl)) jb))) rfl)) (ji (jN (jD ku (jr jw (zpv 4) je (fun _ _=>rfl)) jq (jI _)) (ji (kC hu (jO hu (zpv 2) jq (fun _ _=>rfl)) (jr jw (zpv 4) je (fun _ _=>rfl)) (zpd (j9 (jt (j9 (jt qb (jt (kB 3) jR))) (jt zn jR)))) rfl)) (jd (jy (i:=5) sc.nd rfl oQ (jg dO hr (ja (zpv 2) (ja (jr jw (zpv 4) je (fun _ _=>rfl)) jb))))
   (jd (jN (jD ku (jr jw (zpv 4) je (fun _ _=>rfl)) jq (jI _)) (ji (kC hu (jO hu (zpv 2) jq (fun _ _=>rfl)) (jQ (ja jq (ja (zpv 3) jb))) yB rfl)) (jd (jy (i:=6) sc.nd rfl oQ (jg e_ hr (ja (zpv 2) (ja (jr jw (zpv 4) je (fun _ _=>rfl)) jb))))
   (jd (jy (i:=7) sc.nd rfl oQ (jg cY hr (ja (jg f_ hr (ja (zpv 2) (ja (jr jw (zpv 4) je (fun _ _=>rfl)) jb))) (ja (jr jw (zpv 4) je (fun _ _=>rfl)) jb))))
   (jd (jA (jg cS hr (ja (jO hu (zpv 2) jq (fun _ _=>rfl)) (ja (zpv 6) jb))))
   (jd (jA (km cH dG dF j0 (jO hu (zpv 2) jq (fun _ _=>rfl)) (ja (zpd (j9 (jt (j9 (jt qb (jt (kB 3) jR))) (jt (kB 5) (jt (kB 6) (jt (kB 7) jR)))))) jb)))
   (jd (jy (i:=8) sc.nd rfl oQ (jg cZ hr (ja (zpd (j9 (jt qb (jt (kB 3) jR)))) (ja (zpv 6) jb))))
   (jd (jA (jg cS hr (ja (jO hu (zpv 2) jq (fun _ _=>rfl)) (ja (jg cg hr (ja (zpv 8) (ja (zpv 7) jb))) jb))))
   (ji (jA (jg cS hr (ja (jO hu (zpv 2) jq (fun _ _=>rfl)) (ja (jg cg hr (ja (zpv 7) (ja (zpv 8) jb))) jb))))))))))))
   (ji (kC hu (jO hu (zpv 2) jq (fun _ _=>rfl)) (jr jw (zpv 4) je (fun _ _=>rfl)) (jr j8 (jG (ja (jQ (ja jq (ja (zpv 3) jb))) (ja (zpd (j9 (jt qb (jt (kB 3) jR)))) jb))) (yA zw (by rfl) B.int_ KN (ja (zC ku (jr jw (zpv 4) je (fun _ _=>rfl)) jq (jI _)) jb)) (fun _ _=>rfl)) rfl)))))))))))
   (jd (jA (jg AG hr (ja (zpv 2) (ja (zpv 1) jb))))
   (ji (jC (zpv 2))))))))),?_⟩
 refine jH (σ':=[some (.ref a),some v,none,none,none,none,none,none,none]) rfl ?_
 try dsimp only[kx]
 refine jfB ?_;intro _ _ _ _ _ _;have L:=(Lay.zero H)
 refine fun o h0=>?_
 have L0:=L.step h0 (.dK []);generalize upd H o (.dK [])=G0 at *;refine fun a1 h1=>?_
 have L1:=L0.step h1 (.dK []);generalize upd G0 a1 (.dK [])=G1 at *;refine fun a2 h2=>?_
 have L2:=L1.step h2 (.dK []);generalize upd G1 a2 (.dK [])=G2 at *;refine fun a3 h3=>?_
 have L3:=L2.step h3 (.dT []);generalize upd G2 a3 (.dT [])=G3 at *;refine fun a4 h4=>?_
 have L4:=L3.step h4 (.dK []);generalize upd G3 a4 (.dK [])=G4 at *;refine fun a5 h5=>?_
 have L5:=L4.step h5 (.dK []);generalize upd G4 a5 (.dK [])=G5 at *;refine fun a6 h6=>?_
 have L6:=L5.step h6 (.dK []);generalize upd G5 a6 (.dK [])=G6 at *;refine⟨(L6.o (o,.dK []) (by simp)).1,(kv6 a1 a2 a3 a4 a5 a6),rfl,by show 6<=15;decide,?_⟩;refine gQ ?_;rw[show KC [] (kv6 a1 a2 a3 a4 a5 a6)=((kv6 a1 a2 a3 a4 a5 a6):List (Key×V)) from rfl];have M6:=Lay.set (os:=(os6 a1 a2 a3 a4 a5 a6)) (show Lay H ((o,HO.dK []) :: os6 a1 a2 a3 a4 a5 a6) G6 from L6) (.dK (kv6 a1 a2 a3 a4 a5 a6));generalize upd G6 o (.dK (kv6 a1 a2 a3 a4 a5 a6))=K6 at *;refine⟨sm rfl,fun a7 h7=>⟨_,rfl,o,_,rfl,.k (k:=.inr "each") (kvs:=(kv6 a1 a2 a3 a4 a5 a6)) ((M6.step h7 (.lst [])).o (o,.dK (kv6 a1 a2 a3 a4 a5 a6)) (by simp)).1 (by show 6 < aI;exact jJ (by decide)),?_⟩⟩;rw[show j4 (κ:=Key) (kv6 a1 a2 a3 a4 a5 a6) (Sum.inr "each") (V.ref a7)=((kv7 a1 a2 a3 a4 a5 a6 a7):List (Key×V)) from rfl];have M7:=Lay.set (os:=(os7 a1 a2 a3 a4 a5 a6 a7)) (show Lay H ((o,HO.dK (kv6 a1 a2 a3 a4 a5 a6)) :: os7 a1 a2 a3 a4 a5 a6 a7) _ from M6.step h7 (.lst [])) (.dK (kv7 a1 a2 a3 a4 a5 a6 a7));generalize upd (upd K6 a7 (.lst [])) o (.dK (kv7 a1 a2 a3 a4 a5 a6 a7))=K7 at *;refine⟨sm rfl,fun a8 h8=>⟨_,rfl,o,_,rfl,.k (k:=.inr "rise") (kvs:=(kv7 a1 a2 a3 a4 a5 a6 a7)) ((M7.step h8 (.lst [])).o (o,.dK (kv7 a1 a2 a3 a4 a5 a6 a7)) (by simp)).1 (by show 7 < aI;exact jJ (by decide)),?_⟩⟩;rw[show j4 (κ:=Key) (kv7 a1 a2 a3 a4 a5 a6 a7) (Sum.inr "rise") (V.ref a8)=((kv8 a1 a2 a3 a4 a5 a6 a7 a8):List (Key×V)) from rfl];have M8:=Lay.set (os:=(os8 a1 a2 a3 a4 a5 a6 a7 a8)) (show Lay H ((o,HO.dK (kv7 a1 a2 a3 a4 a5 a6 a7)) :: os8 a1 a2 a3 a4 a5 a6 a7 a8) _ from M7.step h8 (.lst [])) (.dK (kv8 a1 a2 a3 a4 a5 a6 a7 a8));generalize upd (upd K7 a8 (.lst [])) o (.dK (kv8 a1 a2 a3 a4 a5 a6 a7 a8))=K8 at *;refine⟨sm rfl,fun a9 h9=>⟨_,rfl,o,_,rfl,.k (k:=.inr "puts") (kvs:=(kv8 a1 a2 a3 a4 a5 a6 a7 a8)) ((M8.step h9 (.lst [])).o (o,.dK (kv8 a1 a2 a3 a4 a5 a6 a7 a8)) (by simp)).1 (by show 8 < aI;exact jJ (by decide)),?_⟩⟩;rw[show j4 (κ:=Key) (kv8 a1 a2 a3 a4 a5 a6 a7 a8) (Sum.inr "puts") (V.ref a9)=((kv9 a1 a2 a3 a4 a5 a6 a7 a8 a9):List (Key×V)) from rfl];have M9:=Lay.set (os:=(os9 a1 a2 a3 a4 a5 a6 a7 a8 a9)) (show Lay H ((o,HO.dK (kv8 a1 a2 a3 a4 a5 a6 a7 a8)) :: os9 a1 a2 a3 a4 a5 a6 a7 a8 a9) _ from M8.step h9 (.lst [])) (.dK (kv9 a1 a2 a3 a4 a5 a6 a7 a8 a9));generalize upd (upd K8 a9 (.lst [])) o (.dK (kv9 a1 a2 a3 a4 a5 a6 a7 a8 a9))=K9 at *;obtain⟨I0,X0,N0⟩:=jhd (show Lay H ((o,.dK (zM (jdU o a1 a2 a3 a4 a5 a6 a7 a8 a9))) :: os9 a1 a2 a3 a4 a5 a6 a7 a8 a9) K9 from M9);have s9:=M9.s;obtain⟨A0,eA⟩:∃A0,A0=jdU o a1 a2 a3 a4 a5 a6 a7 a8 a9:=⟨_,rfl⟩
 rw[<- eA]at I0 X0 N0;obtain rfl:o=A0.o:=by rw[eA];rfl
 clear eA M9 M8 M7 M6 L6 L5 L4 L3 L2 L1 L0 L h0 h1 h2 h3 h4 h5 h6 h7 h8 h9;have fk:=cq.length;rw[az]at fk;let Pv:Nat->L2.St->Hp->Prop:=fun i σ G=>∃u3 u4 u5 u6 u7 u8,σ=[some (.ref a),some v,some (.ref A0.o),u3,u4,u5,u6,u7,u8]/\MvB A0 K9 G/\BxAt (8 * i) A0 (Cs.none.rows (R.take i) 0) G/\XE A0 (Cs.none.rows (R.take i) 0) G
 refine⟨_,rfl,a,rfl,⟨_,SqL.of (s9 _ _ ha)⟩,?_⟩;refine YS (xs:=rs) Pv ⟨none,none,none,none,none,none,rfl,.same (fun _ _ e=>e),I0,X0⟩ ?_ ?_ ?_
 .rintro i σ G _ ⟨u3,u4,u5,u6,u7,u8,rfl,m,_⟩
  exact SqL.of (Kc N0 s9 m _ _ ha)
 .rintro i y σ G t hy ⟨u3,u4,u5,u6,u7,u8,rfl,m,I,X⟩ ht
  have hi:i < R.length:=by rw[fk];exact (bL.mp hy).1
  have bZ:Held H R[i].toD y:=j7 cq (by rw[bz,aK hi];rfl) hy;have xS:=hG R[i] (cT hi);have S:=(CG.none.rows (n:=0) (R:=R.take i) (by rw[cw];omega) (by rw[cw];omega) fun r hr=>hG r (Bv hr)).s;have s3:=jj ht (.tup [.int i,y]);have e3:upd G t (.tup [.int i,y]) t=some (.tup [.int i,y]):=jf;have I':=I.same s3;have X':=X.same s3;have mj:=(bZ.mono (Kc N0 s9 m)).mono s3;have md:∀σ' G',(∃u3 u4 u5 u6 u7 u8,σ'=[some (.ref a),some v,some (.ref A0.o),u3,u4,u5,u6,u7,u8])->MvB A0 (upd G t (.tup [.int i,y])) G'->BxAt (8 * i+8) A0 ((Cs.none.rows (R.take i) 0).take i R[i]) G'->XE A0 ((Cs.none.rows (R.take i) 0).take i R[i]) G'->Pv (i+1) σ' G':=fun σ' G' ⟨u3,u4,u5,u6,u7,u8,e⟩ m' MV MR=>⟨u3,u4,u5,u6,u7,u8,e,m.trans ((MvB.same s3).trans m'),by
   rw[eI,aK hi];show BxAt (8 * (i+1)) A0 (Cs.none.rows (R.take i++[R[i]]) 0) G'/\XE A0 (Cs.none.rows (R.take i++[R[i]]) 0) G';rw[Zm,cw,Px (c6 hi),FO];exact⟨MV.mono (by omega),MR⟩⟩
  generalize upd G t (.tup [.int i,y])=G1 at *;generalize Cs.none.rows (R.take i) 0=c at *;have hm:0+2 * (R.take i).length<=80:=by rw[cw];omega
  generalize 0+2 * (R.take i).length=m1 at *;have hi40:i < 40:=by omega
  refine qN ?_;intro _;refine⟨t,_,rfl,SqT.of e3,rfl,_,_,rfl,_,_,rfl,rfl,?_⟩;refine jH (σ':=[some (.ref a),some v,some (.ref A0.o),some (.int i),some y,u5,u6,u7,u8]) rfl ?_;generalize R[i]=rw at *;clear bZ I ht e3 hy;clear_value Pv;rcases rw with⟨x,tm,k'⟩ | ⟨r,x,d,tm,k'⟩ | ⟨x⟩ | ⟨r⟩ | ⟨C⟩
  .obtain⟨g1,g2,g3⟩:=xS
   obtain⟨b,y0,y1,y2,y3,rfl,hb,h0,h1,h2,h3⟩:=zJ mj
   cases jx h0
   cases jx h1
   cases kg h3
   refine⟨_,rfl,b,_,_,_,rfl,rfl,SqT.of hb,jh (j:=0) rfl,rfl,_,rfl,kA ?_⟩;refine⟨_,rfl,b,_,_,_,rfl,rfl,SqT.of hb,jh (j:=0) rfl,rfl,_,rfl,kR ?_⟩;refine⟨_,rfl,_,rfl,b,_,_,_,rfl,rfl,SqT.of hb,jh (j:=2) rfl,8 * i,m1+1,A0,c,c,tm,y2,rfl,I',X',by omega,h2,by omega,fun r x d e=>by subst e;exact (S.spot g2.2.1 g2.2.2).gp (by omega),fun y H1 m2 I2 X2 hy=>?_⟩;have dD:=I'.tk m2 _ _ hb;refine⟨_,rfl,b,_,_,_,rfl,rfl,SqT.of dD,jh (j:=3) rfl,y,k',_,rfl,hy,fun z H2 s2 hz=>?_⟩;have I3:=I2.same s2;obtain⟨kvs,k1,k2,_⟩:=I3.st;refine⟨_,rfl,A0.o,_,rfl,jfO I3.o,_,rfl,b,_,_,_,rfl,rfl,SqT.of (s2 _ _ dD),jh (j:=1) rfl,A0.st,_,rfl,.k (k:=.inr x) k1 (jJ (by omega)),?_⟩;obtain⟨m3,I4⟩:=I3.setst (x:=x) k1 hz;exact md _ _ ⟨_,_,_,_,_,_,rfl⟩ (m2.trans ((MvB.same s2).trans m3)) (I4.mono (by omega)) (((X2.same s2).put k1).congr (fun _=>Iff.rfl) (fun _ _=>rfl))
  .obtain⟨g1,g2,g3,g4,g5⟩:=xS
   obtain⟨b,y0,y1,y2,y3,y4,rfl,hb,h0,h1,h2,h3,h4⟩:=Kk mj
   cases jx h0
   cases jx h1
   cases kg h4
   refine⟨_,rfl,b,_,_,_,rfl,rfl,SqT.of hb,jh (j:=0) rfl,rfl,_,rfl,kA ?_⟩;refine⟨_,rfl,b,_,_,_,rfl,rfl,SqT.of hb,jh (j:=0) rfl,rfl,_,rfl,kA ?_⟩;refine⟨_,rfl,b,_,_,_,rfl,rfl,SqT.of hb,jh (j:=0) rfl,rfl,_,rfl,kA ?_⟩;refine⟨_,rfl,_,rfl,b,_,_,_,rfl,rfl,SqT.of hb,jh (j:=1) rfl,8 * i,A0,c,c,r,rfl,I',X',by omega,fun z H1 m2 I2 X2 hz=>?_⟩;refine gQ ?_;have dD:=I'.tk m2 _ _ hb;refine⟨_,rfl,b,_,_,_,rfl,rfl,SqT.of dD,jh (j:=0) rfl,rfl,_,rfl,kA ?_⟩;refine⟨_,rfl,_,rfl,b,_,_,_,rfl,rfl,SqT.of dD,jh (j:=2) rfl,8 * i+1,A0,c,x,d,_,rfl,I2,(I'.tk m2).held h2,fun sp H2 s2 aY=>?_⟩;refine gQ ?_;have cV:=s2 _ _ dD;refine⟨_,rfl,_,rfl,b,_,_,_,rfl,rfl,SqT.of cV,jh (j:=3) rfl,8 * i+1,m1+1,A0,c,_,tm,y3,rfl,I2.same s2,X2.same s2,by omega,((I'.tk m2).held h3).mono s2,by omega,fun r x d e=>by subst e;exact (S.spot g4.2.1 g4.2.2).gp (by omega),fun y H3 m4 I4 X4 hy=>?_⟩;have t4:=(I2.same s2).tk m4;have ic:=t4 _ _ cV;refine⟨_,rfl,b,_,_,_,rfl,rfl,SqT.of ic,jh (j:=4) rfl,y,k',_,rfl,hy,fun wo H5 s5 HS=>?_⟩;refine gQ ?_;have I5:=I4.same s5;have LB:=s5 _ _ ic;have xn:=(t4.held aY).mono s5;have wX:=(t4.held (hz.mono s2)).mono s5;obtain⟨kvs,l1,l3⟩:=I5.kv 0 (by decide);have w1:=((S.spot g2 g3).gp (by omega)).shw (by omega);obtain⟨m6,I6,X6⟩:=I5.spotX (X4.same s5) l1 xn w1.1;refine⟨_,rfl,A0.o,_,rfl,Kr I5.o,_,rfl,A0.t 0,sp,kvs,_,rfl,l1,by omega,xn,⟨_,rfl⟩,w1,?_⟩;have t6:=I5.tk m6;generalize upd H5 (A0.t 0) _=H6 at *;have nT:=t6.held xn;have CL:=t6.held HS;have Hz:=t6.held wX;have mK:=t6 _ _ LB;obtain⟨ls,l7,l8⟩:=I6.l 2 (by decide);refine⟨_,rfl,A0.o,_,rfl,jhW I6.o,.inl ⟨rfl,_,SqL.of l7⟩,.tup [ym i,c.ver r,p2 (c.spot x d),p2 (mor (c.stand tm).1 k')],⟨_,rfl,bw rfl,_,_,rfl,⟨_,rfl,bw rfl,_,_,rfl,rfl,_,_,rfl,⟨_,rfl,jP⟩,rfl⟩,_,_,rfl,⟨_,rfl,Hz⟩,_,_,rfl,⟨_,rfl,nT⟩,_,_,rfl,⟨_,rfl,CL⟩,rfl⟩,fun Hb H7 s7 Iz=>?_⟩;have I7:=I6.same s7;obtain⟨m8,I8⟩:=I7.addl (i:=2) (v:=Hb) (by decide) (s7 _ _ l7) (aJ l8 (aD _));have X8:=jh2 (n:=i) (X6.same s7) I7.inj (s7 _ _ l7) Iz;refine⟨A0.l 2,ls,_,rfl,rfl,s7 _ _ l7,jJ (by omega),?_⟩;have t8:=I7.tk m8;generalize upd H7 (A0.l 2) _=H8 at *;have Im:=t8.held (nT.mono s7);have HQ:=t8.held (CL.mono s7);have LA:=t8 _ _ (s7 _ _ mK);refine⟨ym i,⟨_,rfl,bw rfl,_,_,rfl,rfl,_,_,rfl,⟨_,rfl,jP⟩,rfl⟩,fun pw H9 l_ Iy=>⟨_,rfl,pw,sp,_,_,rfl,Iy,Im.mono l_,fun en mQ dm DF=>?_⟩⟩;refine gQ ?_;have ii:=I8.same (l_.trans dm);have CM:=HQ.mono (l_.trans dm);have LF:=(l_.trans dm) _ _ LA;refine⟨_,rfl,A0.o,_,rfl,Jy ii.o,_,rfl,_,rfl,en,wo,_,_,rfl,DF,CM,fun x1 cG bI fU=>?_⟩;have cz:=ii.same bI;have gv:Gp (m1+2) (mor (c.stand tm).1 k'):=((S.stand (by omega) g4).mor g5).gp (by omega);have ge:Gp (m1+2) (jW (ym i) (c.spot x d)):=(show Gs (m1+2) (jW (ym i) (c.spot x d)) from⟨.ent (.put (by omega)) ((S.spot g2 g3).1) (((S.spot g2 g3).gp (by omega)).2),bT _⟩).gp (by omega);have w2:=qx ge gv (by omega);have w3:=qx gv ge (by omega);obtain⟨fj,l9,fD⟩:=cz.kv 2 (by decide);obtain⟨g8,fw,rp⟩:=cz.tieX ((X8.same (l_.trans dm)).same bI) l9 fU w2.1;refine⟨A0.t 2,x1,fj,_,rfl,l9,by omega,fU,⟨_,rfl⟩,w2,?_⟩;have vQ:=cz.tk g8;generalize upd cG (A0.t 2) _=iM at *;have Lk:=vQ.held (DF.mono bI);have HR:=vQ.held (CM.mono bI);have LD:=vQ _ _ (bI _ _ LF);refine⟨_,rfl,A0.o,_,rfl,Jy fw.o,_,rfl,_,rfl,wo,en,_,_,rfl,HR,Lk,fun x2 MW cP lc=>?_⟩;have rA:=fw.same cP;obtain⟨pz,Cn,pr⟩:=rA.kv 2 (by decide);obtain⟨wK,MU,MP⟩:=rA.tieX (rp.same cP) Cn lc w3.1;refine⟨A0.t 2,x2,pz,_,rfl,Cn,by omega,lc,⟨_,rfl⟩,w3,?_⟩;have GK:=rA.tk wK;generalize upd MW (A0.t 2) _=H14 at *;have LC:=GK _ _ (cP _ _ LD);have Hk:=m2.trans ((MvB.same s2).trans (m4.trans ((MvB.same s5).trans (m6.trans ((MvB.same s7).trans (m8.trans ((MvB.same (l_.trans dm)).trans ((MvB.same bI).trans (g8.trans ((MvB.same cP).trans wK))))))))));clear m2 s2 m4 s5 m6 s7 m8 l_ dm bI g8 cP wK;refine⟨_,rfl,sm rfl,fun q1 n1=>⟨ym i,⟨_,rfl,bw rfl,_,_,rfl,rfl,_,_,rfl,⟨_,rfl,jP⟩,rfl⟩,fun u G6 s6 CZ=>⟨sm rfl,fun q2 n2=>?_⟩⟩⟩;have I7:=MU.same ((jj n1 (.tup [.str "lost",.int i])).trans (s6.trans (jj n2 (.lst [.ref q1,u]))));have p0:=jj n2 (.lst [.ref q1,u]) _ _ (s6 _ _ (jj n1 (.tup [.str "lost",.int i]) _ _ LC));have xD:upd G6 q2 (.lst [.ref q1,u]) q2=some (.lst [.ref q1,u]):=jf;have s7:=(jj n1 (.tup [.str "lost",.int i])).trans (s6.trans (jj n2 (.lst [.ref q1,u])));have xv:=CZ.mono (jj n2 (.lst [.ref q1,u]));generalize upd G6 q2 (.lst [.ref q1,u])=G7 at *;obtain⟨kvs,k1,k2,_⟩:=I7.nw;obtain⟨m8,I8⟩:=I7.setnw (r:=r) k1 xv;refine⟨_,rfl,b,_,_,_,rfl,rfl,SqT.of p0,jh (j:=0) rfl,rfl,.inr ⟨true,rfl,q2,_,_,_,rfl,rfl,SqL.of xD,jh (j:=1) rfl,_,rfl,A0.o,_,rfl,jfP I7.o,_,rfl,b,_,_,_,rfl,rfl,SqT.of p0,jh (j:=1) rfl,A0.nw,_,rfl,.k (k:=.inr r) k1 (jJ (by omega)),?_⟩⟩;exact md _ _ ⟨_,_,_,_,_,_,rfl⟩ (Hk.trans ((MvB.same s7).trans m8)) (I8.congr (by omega) JA.1 JA.2.1 JA.2.2) ((MP.same s7).put k1)
  .obtain⟨b,y0,y1,rfl,hb,h0,h1⟩:=qI mj
   cases jx h0
   cases jx h1
   refine⟨_,rfl,b,_,_,_,rfl,rfl,SqT.of hb,jh (j:=0) rfl,rfl,_,rfl,kA ?_⟩;refine⟨_,rfl,b,_,_,_,rfl,rfl,SqT.of hb,jh (j:=0) rfl,rfl,_,rfl,kA ?_⟩;refine⟨_,rfl,b,_,_,_,rfl,rfl,SqT.of hb,jh (j:=0) rfl,rfl,_,rfl,kR ?_⟩;refine⟨p2 (jcC i),⟨_,rfl,bw rfl,_,_,rfl,⟨_,rfl,bw rfl,_,_,rfl,rfl,_,_,rfl,⟨_,rfl,jP⟩,rfl⟩,_,_,rfl,rfl,rfl⟩,fun z H2 s2 hz=>?_⟩;have I3:=I'.same s2;obtain⟨kvs,k1,k2,_⟩:=I3.st;refine⟨_,rfl,A0.o,_,rfl,jfO I3.o,_,rfl,b,_,_,_,rfl,rfl,SqT.of (s2 _ _ hb),jh (j:=1) rfl,A0.st,_,rfl,.k (k:=.inr x) k1 (jJ (by omega)),?_⟩;obtain⟨m3,I4⟩:=I3.setst (x:=x) k1 hz;exact md _ _ ⟨_,_,_,_,_,_,rfl⟩ ((MvB.same s2).trans m3) (I4.mono (by omega)) (((X'.same s2).put k1).congr (fun _=>Iff.rfl) (fun _ _=>rfl))
  .obtain⟨b,y0,y1,rfl,hb,h0,h1⟩:=qI mj
   cases jx h0
   cases jx h1
   refine⟨_,rfl,b,_,_,_,rfl,rfl,SqT.of hb,jh (j:=0) rfl,rfl,_,rfl,kA ?_⟩;refine⟨_,rfl,b,_,_,_,rfl,rfl,SqT.of hb,jh (j:=0) rfl,rfl,_,rfl,kA ?_⟩;refine⟨_,rfl,b,_,_,_,rfl,rfl,SqT.of hb,jh (j:=0) rfl,rfl,_,rfl,kA ?_⟩;refine⟨_,rfl,_,rfl,b,_,_,_,rfl,rfl,SqT.of hb,jh (j:=1) rfl,8 * i,A0,c,c,r,rfl,I',X',by omega,fun z H1 m2 I2 X2 hz=>?_⟩;refine gQ ?_;have dD:=I'.tk m2 _ _ hb;refine⟨_,rfl,b,_,_,_,rfl,rfl,SqT.of dD,jh (j:=0) rfl,rfl,_,rfl,kR ?_⟩;obtain⟨ks,j1,j2⟩:=I2.vs;refine⟨_,rfl,A0.o,_,rfl,jfN I2.o,_,rfl,sm rfl,fun p hp=>?_⟩;have s3:=jj hp (.tup [.str "lost",.int i]);have e1:upd H1 p (.tup [.str "lost",.int i]) p=some (.tup (([.inr "lost",.inl i]:List Key).map kV)):=jf;have I3:=I2.same s3;have ic:=s3 _ _ dD;generalize upd H1 p (.tup [.str "lost",.int i])=H2 at *;refine⟨A0.vs,_,rfl,.t (k:=[.inr "lost",.inl i]) (s3 _ _ j1) e1 (jJ (by omega)),?_⟩;obtain⟨m4,I4⟩:=I3.setvs (k:=[.inr "lost",.inl i]) (v:=.bl true) (s3 _ _ j1) j2;have DM:=I3.tk m4 _ _ ic;have X4:=jf2 (n:=i) (v:=.bl true) (X2.same s3) (s3 _ _ j1);generalize upd H2 A0.vs _=H4 at *;refine⟨_,rfl,sm rfl,fun q1 n1=>⟨ym i,⟨_,rfl,bw rfl,_,_,rfl,rfl,_,_,rfl,⟨_,rfl,jP⟩,rfl⟩,fun u G6 s6 CZ=>⟨sm rfl,fun q2 n2=>?_⟩⟩⟩;have I7:=I4.same ((jj n1 (.tup [.str "lost",.int i])).trans (s6.trans (jj n2 (.lst [.ref q1,u]))));have p0:=jj n2 (.lst [.ref q1,u]) _ _ (s6 _ _ (jj n1 (.tup [.str "lost",.int i]) _ _ DM));have xD:upd G6 q2 (.lst [.ref q1,u]) q2=some (.lst [.ref q1,u]):=jf;have s7:=(jj n1 (.tup [.str "lost",.int i])).trans (s6.trans (jj n2 (.lst [.ref q1,u])));have xv:Held (upd G6 q2 (.lst [.ref q1,u])) (Kg i) (.ref q1):=(jK (s6 _ _ jf) (jc jF (jc jP jl)):Held G6 (Kg i) (.ref q1)).mono (jj n2 _);generalize upd G6 q2 (.lst [.ref q1,u])=G7 at *;obtain⟨kvs,k1,k2,_⟩:=I7.nw;obtain⟨m8,I8⟩:=I7.setnw (r:=r) k1 xv;refine⟨_,rfl,b,_,_,_,rfl,rfl,SqT.of p0,jh (j:=0) rfl,rfl,.inr ⟨false,rfl,q2,_,_,_,rfl,rfl,SqL.of xD,jh (j:=0) rfl,_,rfl,A0.o,_,rfl,jfP I7.o,_,rfl,b,_,_,_,rfl,rfl,SqT.of p0,jh (j:=1) rfl,A0.nw,_,rfl,.k (k:=.inr r) k1 (jJ (by omega)),?_⟩⟩;exact md _ _ ⟨_,_,_,_,_,_,rfl⟩ (m2.trans ((MvB.same s3).trans (m4.trans ((MvB.same s7).trans m8)))) (I8.congr (by omega) rfl rfl fun i hi z=>by rcases qy hi with rfl | rfl | rfl <;> exact Iff.rfl) ((X4.same s7).put k1)
  .obtain⟨b,y0,y1,rfl,hb,h0,h1⟩:=qI mj
   cases jx h0
   refine⟨_,rfl,b,_,_,_,rfl,rfl,SqT.of hb,jh (j:=0) rfl,rfl,_,rfl,kR ?_⟩;exact⟨_,rfl,_,rfl,b,_,_,_,rfl,rfl,SqT.of hb,jh (j:=1) rfl,8 * i,m1,A0,c,C,y1,rfl,I',X',by omega,S,by omega,xS,h1,fun G2 m2 I2 X2=>md _ _ ⟨_,_,_,_,_,_,rfl⟩ m2 I2 X2⟩
 .rintro σ G ⟨u3,u4,u5,u6,u7,u8,rfl,m,I,X⟩
  rw[<- fk,cu]at I X;have S:=(CG.none.rows (n:=0) (R:=R) (by omega) (by omega) hG).s;have sG:=Kc N0 s9 m;refine⟨_,rfl,_,rfl,8 * R.length,0+2 * R.length,A0,_,k,v,rfl,I,X,by omega,S,by omega,hk,hv.mono sG,fun G1 m1 I1 X1=>?_⟩;exact⟨_,rfl,q A0 G1 (Kc N0 s9 (m.trans m1)) N0 (I1.mono (by omega)) X1⟩
end
abbrev jgf:aF:=top 34
abbrev JW:aF:=top 33
abbrev yZ:aF:=top 35
theorem jfS{ns:List Int}{k:Int}(h0:0<=k)(h:k < (ns.length:Int)):atI (ns.map V.int) k=some (.int (ns.getD k.toNat 0)):=by
 have hk:k.toNat < ns.length:=by omega
 have:=jh (xs:=ns.map V.int) (j:=k.toNat) (v:=.int (ns.getD k.toNat 0)) (by rw[bz,lX,aK hk];rfl);rw[show ((k.toNat:Nat):Int)=k by omega]at this;exact this
theorem jaA{xs:List Str}(h0:0<=i)(h:i < (xs.length:Int)):atI (xs.map V.str) i=some (.str (xs.getD i.toNat "")):=by
 have hk:i.toNat < xs.length:=by omega
 have:=jh (xs:=xs.map V.str) (j:=i.toNat) (v:=.str (xs.getD i.toNat "")) (by rw[bz,lX,aK hk];rfl);rw[show ((i.toNat:Nat):Int)=i by omega]at this;exact this
theorem ja8:∀ys:List Nat,(nc "" (ys.map fun c=>(⟨#[c]⟩:Str))).cps.toList=ys:=by
 intro ys;have e:nc "" (ys.map fun c=>(⟨#[c]⟩:Str))=("" : Str).join (ys.map fun c=>(⟨#[c]⟩:Str)):=PySem.StrLaws.glued_eq_join _ _;rw[e];clear e;induction ys with
 | nil=>rfl
 | cons y r ih=>
  cases r with
  | nil=>rfl
  | cons z r=>
   show (((⟨#[y]⟩:Str)++("" : Str))++("" : Str).join ((z :: r).map fun c=>(⟨#[c]⟩:Str))).cps.toList=_;rw[Oc,fR,ih];rfl
def qL:Str:="abcdefghijklmnopqrstuvwxyz"
theorem jaf:qL.cps.toList=(cB 26).map (·+97):=by decide +kernel
def KD(i:Int):Nat:=i.toNat+97
theorem Zs(h0:0<=i)(h1:i < 26):atI qL.cps.toList i=some (KD i):=by
 have hk:i.toNat < 26:=by omega
 have:=jh (xs:=qL.cps.toList) (j:=i.toNat) (v:=KD i) (by rw[jaf,bz,P6 hk];rfl);rw[show ((i.toNat:Nat):Int)=i by omega]at this;exact this
def qzS:Str:="qz"
def qzC(i:Int):Nat:=if i=0 then 113 else 122
theorem jji(h0:0<=i)(h1:i < 2):atI qzS.cps.toList i=some (qzC i):=by
 have:i=0\/i=1:=by omega
 rcases this with rfl | rfl
 .decide +kernel
 .decide +kernel
def jaW:List Str:=["row","is","at","set","put","know","lose","start","entry","own","nought","pick","least","lost"]
def jiw(c:Int)(k:Nat):Str:=jaW.getD ((c / 7+(0+(k:Int))) % 14).toNat ""
def jiy(c:Int)(k:Nat):Str:=⟨#[KD ((c / 8+(0+(k:Int))) % 26)]⟩
def bsW(c spot:Int)(k j:Nat):Int:=c / 432+7 * (0+(j:Int)) * (0+(j:Int))+(0+(k:Int)) * (if decide (V.int (0+(j:Int))=V.int spot)=true then 1 else 0)
def lgW(c size spot:Int)(k:Nat):Str:=(⟨#[qzC (c / 144 % 2)]⟩:Str)++nc "" (((cB size.toNat).map fun j=>KD (bsW c spot k j % 26)).map fun ch=>(⟨#[ch]⟩:Str))
def W10(x:Str):Prop:=(∀c∈x.cps.toList,97<=c/\c<=122)/\x.length<=10
theorem jgL:∀x∈("" : Str) :: jaW,x.cps.toList.all (fun c=>decide (97<=c/\c<=122))=true/\x.length<=10:=by decide +kernel
theorem jhk{xs:List Str}{i:Nat}:xs.getD i ""∈("" : Str) :: xs:=by
 rw[lX]
 cases e:xs[i]? with
 | none=>exact bU ..
 | some x=>exact ce _ (lV e)
theorem jft(h0:0<=i)(h1:i < 26):97<=KD i/\KD i<=122:=by
 unfold KD;omega
theorem jiv{c:Int}:((cB n).map (jiw c)).length=n/\∀x∈(cB n).map (jiw c),W10 x:=by
 refine⟨by simp,fun x hx=>?_⟩;obtain⟨k,_,rfl⟩:=bq.mp hx;have:=jgL _ (jhk (xs:=jaW) (i:=((c / 7+(0+(k:Int))) % 14).toNat));exact⟨fun ch h=>Qt (F_.mp this.1 ch h),this.2⟩
theorem jix{c:Int}:((cB n).map (jiy c)).length=n/\∀x∈(cB n).map (jiy c),W10 x:=by
 refine⟨by simp,fun x hx=>?_⟩;obtain⟨k,_,rfl⟩:=bq.mp hx;exact⟨fun ch h=>by cases aN.mp h;exact jft (rZ _ (by decide)) (r_ _ (by decide)),by show 1<=10;decide⟩
theorem jjB{c size spot:Int}(h:size < 8):((cB n).map (lgW c size spot)).length=n/\∀x∈(cB n).map (lgW c size spot),W10 x:=by
 refine⟨by simp,fun x hx=>?_⟩;obtain⟨k,_,rfl⟩:=bq.mp hx;have e:(lgW c size spot k).cps.toList=qzC (c / 144 % 2) :: ((cB size.toNat).map fun j=>KD (bsW c spot k j % 26)):=by
  unfold lgW;rw[Oc,fR,ja8];rfl
 refine⟨fun ch h=>?_,?_⟩
 .rw[e]at h
  rcases bG.mp h with rfl | h
  .unfold qzC
   split <;> decide
  .obtain⟨j,_,rfl⟩:=bq.mp h
   exact jft (rZ _ (by decide)) (r_ _ (by decide))
 .show (lgW c size spot k).cps.size<=10
  rw[<- dy,e];simp;omega
inductive spCell(K:aw)(vs:List V)(H:Hp)(Q:VK)(E:XK):Prop
 | mk (a:ad) (ns:List Int) (k:Int) (_:vs=[.ref a,.int k]) (_:SqL K H a (ns.map V.int)) (_:0<=k) (_:k<=1000) (_:∀c:Int,Q (.int c) H)
inductive spMix(vs:List V)(H:Hp)(Q:VK)(E:XK):Prop
 | mk (s k:Int) (_:vs=[.int s,.int k]) (_:∀c:Int,Q (.int c) H)
inductive spWords(vs:List V)(H:Hp)(Q:VK)(E:XK):Prop
 | mk (c:Int) (n:Nat) (_:vs=[.int c,.int n]) (_:n<=14) (_:∀(l:ad) (ws:List Str) (H':Hp),ws.length=n/\(∀x∈ws,W10 x)->Same H H'->H l=none->H' l=some (.lst (ws.map V.str))->Q (.ref l) H')
theorem jaU{α:Type}(f:Nat->α)(i:Nat):(cB (i+1)).map f=(cB i).map f++[f i]:=by rw[List.range_succ,aX];rfl
section
theorem jg4(F:Fun K "_law_cell_at" "_law_cell_at" JW f fd)(B:Free0 mg):FnOk P w K mg base CX0 1 f fd ["_law_script","_law_k"] (spCell K):=by
 have sc:FnScope ["_law_script","_law_k","_law_number"] ["_law_script","_law_k"] (jm JW):=fQ;refine F.okZ sc (fun ax A outer s H vs Q E hr h=>?_);obtain⟨a,ns,k,rfl,hS,h0,h1,q⟩:=h;have hl:(ns.map V.int).length=ns.length:=az _;refine⟨_,(jd (jN (jD Zq (zpv 1) (zh qp (by rfl) B.len_ KM (ja (zpv 0) jb)) (jI _)) (ji (jC (jr j8 (zpv 0) (zpv 1) (fun _ _=>rfl)))) jL)
   (jd (jy (i:=2) sc.nd rfl oQ (js qr (js qk je (zpv 1)) je))
   (jd (jN (jD jjv (zh qp (by rfl) B.len_ KM (ja (zpv 0) jb)) je (jI _)) (ji (jy (i:=2) sc.nd rfl oQ (js qr (js qk (js jZ (jr j8 (zpv 0) (js jZ (zpv 1) (zh qp (by rfl) B.len_ KM (ja (zpv 0) jb))) (fun _ _=>rfl)) je) je) (js qk (js qk je (zpv 1)) (zpv 1))))) jL)
   (ji (jC (js jZ (zpv 2) je)))))),?_⟩
 try dsimp only[kx]
 refine YN ?_;intro _ _ _;refine⟨_,rfl,_,rfl,a,_,rfl,.inl hS,_,_,rfl,rfl,_,rfl,yK (fun c=>?_) (fun c=>?_)⟩
 .have c':k < (ns.length:Int):=by
   have:=Qt c;rw[hl]at this;exact this
  exact⟨_,rfl,_,rfl,a,_,_,_,rfl,rfl,hS,jfS h0 c',q _⟩
 .refine⟨_,rfl,_,_,rfl,rfl,.inl ⟨by decide,by decide⟩,_,_,rfl,rfl,?_⟩
  refine⟨_,rfl,a,_,rfl,.inl hS,_,_,rfl,rfl,_,rfl,yK (fun d=>?_) (fun d=>?_)⟩
  .have d':0 < ns.length:=by
    have:=Qt d;rw[hl]at this;omega
   have tJ:0<=k % (ns.length:Int):=rZ _ (by omega);have Dk:k % (ns.length:Int) < (ns.length:Int):=r_ _ (by omega);have mL:atI (ns.map V.int) (k % (((ns.map V.int).length:Nat):Int))=some (.int (ns.getD (k % (ns.length:Int)).toNat 0)):=by
    rw[hl];exact jfS tJ Dk
   refine⟨_,rfl,_,rfl,_,rfl,a,_,rfl,.inl hS,_,_,rfl,rfl,(by rw[hl];omega),a,_,_,_,rfl,rfl,hS,mL,_,_,rfl,rfl,(by show (0:Int) < _;decide),_,_,rfl,rfl,.inr ⟨by decide,by decide⟩,_,rfl,_,_,rfl,rfl,.inl ⟨by decide,by decide⟩,_,rfl,_,_,rfl,rfl,.inr ⟨by omega,by omega⟩,_,_,rfl,rfl,?_⟩;exact⟨_,rfl,_,_,rfl,rfl,(by show (0:Int) < _;decide),q _⟩
  .exact⟨_,rfl,_,_,rfl,rfl,(by show (0:Int) < _;decide),q _⟩
theorem je7(F:Fun K "_law_words" "_law_words" yZ f fd)(B:Free0 mg):FnOk P w K mg base CX0 1 f fd ["_law_cell","_law_many"] spWords:=by
 have sc:FnScope ["_law_cell","_law_many","_law_letters","_law_own","_law_size","_law_spot_here","_law_words_here","_law_k","_law_base"] ["_law_cell","_law_many"] (jm yZ):=fQ;refine F.okZ sc (fun ax A outer s H vs Q E hr h=>?_);obtain⟨c,n,rfl,hn,q⟩:=h;refine⟨_,(jd (jy (i:=2) sc.nd rfl oQ jq)
   (jd (jy (i:=3) sc.nd rfl oQ (jG (ja jq (ja jq (ja jq (ja jq (ja jq (ja jq (ja jq (ja jq (ja jq (ja jq (ja jq (ja jq (ja jq (ja jq jb))))))))))))))))
   (jd (jN (jD ku (js jZ (zpv 0) je) je (jI _)) (ji (jC (yd ["_law_k"] [0,3] rfl (qZ (sc:=jm yZ) (N:=["_law_cell","_law_many","_law_letters","_law_own","_law_size","_law_spot_here","_law_words_here","_law_k","_law_base"]) rfl rfl (by decide +kernel)) (yz (by rfl) B.range_ (ja (zpv 1) jb)) (fun s H ex=>⟨(ju (i:=0) (show fO (["_law_k","_law_cell","_law_own"]:List Str) by decide +kernel) rfl oQ),zx,(jr (jfv (K:=K)) (zpv 2) (js jZ (js qr (js j5 (zpv 1) je) (zpv 0)) je) (fun _ _=>rfl))⟩)))) jL)
   (jd (jy (i:=4) sc.nd rfl oQ (js jZ (zpv 0) je))
   (jd (jN (jD ku (zpv 4) je (jI _)) (ji (jC (yd ["_law_k"] [0,2] rfl (qZ (sc:=jm yZ) (N:=["_law_cell","_law_many","_law_letters","_law_own","_law_size","_law_spot_here","_law_words_here","_law_k","_law_base"]) rfl rfl (by decide +kernel)) (yz (by rfl) B.range_ (ja (zpv 1) jb)) (fun s H ex=>⟨(ju (i:=0) (show fO (["_law_k","_law_cell","_law_letters"]:List Str) by decide +kernel) rfl oQ),zx,(jr jbW (zpv 2) (js jZ (js qr (js j5 (zpv 1) je) (zpv 0)) je) (fun _ _=>rfl))⟩)))) jL)
   (jd (jy (i:=5) sc.nd rfl oQ (js jZ (js j5 (zpv 0) je) (zpv 4)))
   (jd (jy (i:=6) sc.nd rfl oQ (jG jb))
   (jd (ky df rfl (yz (by rfl) B.range_ (ja (zpv 1) jb)) (ju (i:=7) sc.nd rfl oQ) (jd (yR (i:=8) sc.nd rfl oQ ["_law_j"] [0,5,7] rfl (qZ (sc:=jm yZ) (N:=["_law_cell","_law_many","_law_letters","_law_own","_law_size","_law_spot_here","_law_words_here","_law_k","_law_base"]) rfl rfl (by decide +kernel)) (yz (by rfl) B.range_ (ja (zpv 4) jb)) (fun s H ex=>⟨(ju (i:=0) (show fO (["_law_j","_law_cell","_law_spot_here","_law_k"]:List Str) by decide +kernel) rfl oQ),zx,(js qr (js qr (js j5 (zpv 1) je) (js qk (js qk je (zpv 0)) (zpv 0))) (js qk (zpv 3) (yA zw (by rfl) B.int_ KN (ja (zC ku (zpv 0) (zpv 2) (jI _)) jb))))⟩))
   (ji (jA (km cH dG dF j0 (zpv 6) (ja (js jbM (jr jbW jq (js jZ (js j5 (zpv 0) je) je) (fun _ _=>rfl)) (km PySem.F.plainAttrs_str PySem.F.slot_str_join PySem.F.type_str_join jg8 jq (ja (yd ["_law_each"] [2] rfl (qZ (sc:=jm yZ) (N:=["_law_cell","_law_many","_law_letters","_law_own","_law_size","_law_spot_here","_law_words_here","_law_k","_law_base"]) rfl rfl (by decide +kernel)) (ke (zpv 8)) (fun s H ex=>⟨(ju (i:=0) (show fO (["_law_each","_law_letters"]:List Str) by decide +kernel) rfl oQ),zx,(jr jbW (zpv 1) (js jZ (zpv 0) je) (fun _ _=>rfl))⟩)) jb))) jb))))))
   (ji (jC (zpv 6))))))))))),?_⟩
 try dsimp only[kx]
 refine jcJ ?_;intro _ _ _ _ _ _ _ _;refine⟨sm rfl,fun lo fX=>?_⟩;have s1:=jj fX (.lst [V.str "row",V.str "is",V.str "at",V.str "set",V.str "put",V.str "know",V.str "lose",V.str "start",V.str "entry",V.str "own",V.str "nought",V.str "pick",V.str "least",V.str "lost"]);have e1:upd H lo (.lst [V.str "row",V.str "is",V.str "at",V.str "set",V.str "put",V.str "know",V.str "lose",V.str "start",V.str "entry",V.str "own",V.str "nought",V.str "pick",V.str "least",V.str "lost"]) lo=some (.lst (jaW.map V.str)):=jf;generalize upd H lo (.lst [V.str "row",V.str "is",V.str "at",V.str "set",V.str "put",V.str "know",V.str "lose",V.str "start",V.str "entry",V.str "own",V.str "nought",V.str "pick",V.str "least",V.str "lost"])=H1 at *;have nJ:∀{x y:Int},0 < y->0<=x % y/\x % y < y:=fun h=>⟨rZ _ (by omega),r_ _ h⟩
 have Du:qL.length<=aI:=by show 26<=aI;rw[gM];decide
 have mw:qzS.length<=aI:=by show 2<=aI;rw[gM];decide
 refine⟨_,rfl,_,_,rfl,rfl,(by show (0:Int) < _;decide),rfl,_,rfl,yK (fun d=>?_) (fun d=>?_)⟩
 .refine⟨_,rfl,(n:Int),rfl,by omega,by omega,fun p hp=>?_⟩
  have s2:=jj hp (.lst []);refine JH (fun i σ' G'=>∃(u:Option V),σ'=[u,some (.int c),some (.ref lo)]/\Same H1 G'/\G' p=some (.lst (((cB i).map (jiw c)).map V.str))) ?_ ?_ ?_
  .exact⟨none,rfl,s2,jf⟩
  .rintro i σ' G' hi ⟨u,rfl,aQ,eX⟩
   unfold qq ZR;refine kR ?_;have hb:=nJ (x:=c / 7+(0+(i:Int))) (y:=14) (by decide);have mL:=jaA (xs:=jaW) (i:=(c / 7+(0+(i:Int))) % 14) hb.1 (by show _ < (14:Int);exact hb.2);refine⟨_,rfl,_,rfl,_,_,rfl,rfl,⟨by decide,by decide⟩,_,rfl,_,_,rfl,rfl,_,_,rfl,rfl,(by show (0:Int) < _;decide),lo,_,_,_,rfl,rfl,SqL.of (aQ _ _ e1),mL,?_⟩;have Lc:i < n:=by simpa using hi
   refine⟨_,eX,jJ (by rw[az,az,oT];omega),_,rfl,fun z o e=>?_,?_⟩
   .rw[jB (jp e hp)];exact aQ _ _ e
   .rw[jf,jaU,aX];rfl
  .rintro σ' G' ⟨u,rfl,aQ,eX⟩
   rw[show ((n:Int)).toNat=n from rfl]at eX;exact q p _ G' (jiv) (s1.trans aQ) (s1.free hp) eX
 refine⟨_,rfl,_,_,rfl,rfl,(by show (0:Int) < _;decide),?_⟩;have hsz:=nJ (x:=c) (y:=8) (by decide);dsimp only;generalize c % 8=size at *;refine⟨_,rfl,rfl,_,rfl,yK (fun d2=>?_) (fun d2=>?_)⟩
 .refine⟨_,rfl,(n:Int),rfl,by omega,by omega,fun p hp=>?_⟩
  have s2:=jj hp (.lst []);refine JH (fun i σ' G'=>∃(u:Option V),σ'=[u,some (.int c),some (.str qL)]/\Same H1 G'/\G' p=some (.lst (((cB i).map (jiy c)).map V.str))) ?_ ?_ ?_
  .exact⟨none,rfl,s2,jf⟩
  .rintro i σ' G' hi ⟨u,rfl,aQ,eX⟩
   unfold qq ZR;refine kR ?_;have hb:=nJ (x:=c / 8+(0+(i:Int))) (y:=26) (by decide);have ft:=Zs hb.1 hb.2;refine⟨_,rfl,_,rfl,_,_,rfl,rfl,⟨by decide,by decide⟩,_,rfl,_,_,rfl,rfl,_,_,rfl,rfl,(by show (0:Int) < _;decide),qL,_,_,rfl,rfl,Du,ft,?_⟩;have Lc:i < n:=by simpa using hi
   refine⟨_,eX,jJ (by rw[az,az,oT];omega),_,rfl,fun z o e=>?_,?_⟩
   .rw[jB (jp e hp)];exact aQ _ _ e
   .rw[jf,jaU,aX];rfl
  .rintro σ' G' ⟨u,rfl,aQ,eX⟩
   rw[show ((n:Int)).toNat=n from rfl]at eX;exact q p _ G' (jix) (s1.trans aQ) (s1.free hp) eX
 have d2':¬size=0:=fun e=>d2 (Qu (Qz V.int e))
 refine⟨_,rfl,_,_,rfl,rfl,⟨by decide,by decide⟩,_,rfl,_,_,rfl,rfl,(by show (0:Int) < size;omega),?_⟩;dsimp only;have aY:=nJ (x:=c / 8) (y:=size) (by omega);generalize c / 8 % size=spot at *;refine⟨sm rfl,fun lw Do=>?_⟩;have s2:=jj Do (.lst []);have e2:upd H1 lw (.lst []) lw=some (.lst []):=jf;have Dm:H lw=none:=s1.free Do;generalize upd H1 lw (.lst [])=H2 at *;have GV:=s1.trans s2;refine⟨_,rfl,(n:Int),rfl,by omega,by omega,?_⟩;refine jdM (n:=n) (fun i σ G=>∃(x7 x8:Option V),σ=[some (.int c),some (.int n),some (.str qL),some (.ref lo),some (.int size),some (.int spot),some (.ref lw),x7,x8]/\Same H G/\G lw=some (.lst (((cB i).map (lgW c size spot)).map V.str))) ?_ ?_ ?_
 .exact⟨none,none,rfl,GV,e2⟩
 .rintro i σ G hi ⟨x7,x8,rfl,sG,ra⟩
  refine⟨_,rfl,size,rfl,by omega,by omega,fun p hp=>?_⟩;have s3:=jj hp (.lst []);have npw:lw≠p:=jp ra hp;refine JH (fun j σ' G'=>∃(u:Option V),σ'=[u,some (.int c),some (.int spot),some (.int (0+(i:Int)))]/\Same G G'/\G' p=some (.lst (((cB j).map (bsW c spot i)).map V.int))) ?_ ?_ ?_
  .exact⟨none,rfl,s3,jf⟩
  .rintro j σ' G' hj ⟨u,rfl,aQ,eX⟩
   have hj8:j < size.toNat:=by simpa using hj
   unfold qq ZR;refine kR ?_;refine⟨_,rfl,_,_,rfl,rfl,⟨by decide,by decide⟩,_,rfl,_,_,rfl,rfl,.inl ⟨by decide,by decide⟩,_,rfl,_,_,rfl,rfl,.inr ⟨by omega,by omega⟩,_,_,rfl,rfl,_,rfl,_,rfl,_,rfl,rfl,.inr ⟨_,rfl,?_⟩⟩;refine⟨_,_,rfl,rfl,.inr ⟨by split <;> decide,by split <;> decide⟩,_,_,rfl,rfl,?_⟩;refine⟨_,eX,jJ (by rw[az,az,oT];omega),_,rfl,fun z o e=>?_,?_⟩
   .rw[jB (jp e hp)];exact aQ _ _ e
   .rw[jf,jaU,aX];rfl
  rintro σ' G1 ⟨u,rfl,i6,D7⟩;have hb:=nJ (x:=c / 144) (y:=2) (by decide);have Iw:=jji hb.1 hb.2;refine⟨_,rfl,.inl ⟨rfl,_,SqL.of (i6 _ _ ra)⟩,?_⟩;refine⟨_,rfl,_,_,rfl,rfl,⟨by decide,by decide⟩,_,_,rfl,rfl,(by show (0:Int) < _;decide),qzS,_,_,rfl,rfl,mw,Iw,?_⟩;refine⟨rfl,_,rfl,p,rfl,⟨_,SqL.of D7⟩,fun p2 fW=>?_⟩;have s4:=jj fW (.lst []);refine Js (xs:=((cB size.toNat).map (bsW c spot i)).map V.int) (fun j σ' G'=>∃(u:Option V),σ'=[u,some (.str qL)]/\Same G1 G'/\G' p2=some (.lst ((((cB j).map fun j=>KD (bsW c spot i j % 26)).map fun ch=>(⟨#[ch]⟩:Str)).map V.str))) ?_ ?_ ?_ ?_
  .exact⟨none,rfl,s4,jf⟩
  .rintro j σ' G' _ ⟨u,rfl,aQ,_⟩
   exact SqL.of (aQ _ _ D7)
  .rintro j x σ' G' hx ⟨u,rfl,aQ,eX⟩
   have hj:j < size.toNat:=by
    have:=(bL.mp hx).1;rw[az,az,oT]at this;exact this
   rw[bz,bz,P6 hj]at hx
   cases hx
   unfold qq ZR;refine kR ?_;have cV:=nJ (x:=bsW c spot i j) (y:=26) (by decide);have ft:=Zs cV.1 cV.2;refine⟨_,rfl,_,rfl,_,_,rfl,rfl,(by show (0:Int) < _;decide),qL,_,_,rfl,rfl,Du,ft,?_⟩;refine⟨_,eX,jJ (by rw[az,az,az,oT];omega),_,rfl,fun z o e=>?_,?_⟩
   .rw[jB (jp e fW)];exact aQ _ _ e
   .rw[jf,jaU,aX,aX];rfl
  rintro σ' G2 ⟨u,rfl,BV,xZ⟩;rw[az,az,oT]at xZ;have wY:∀y∈((cB size.toNat).map fun j=>KD (bsW c spot i j % 26)).map fun ch=>(⟨#[ch]⟩:Str),y.length=1:=fun y hy=>by
   obtain⟨ch,_,rfl⟩:=bq.mp hy;rfl
  have iD:((((cB size.toNat).map fun j=>KD (bsW c spot i j % 26)).map fun ch=>(⟨#[ch]⟩:Str)).map (·.length)).sum=size.toNat:=by
   rw[fM];rw[show ((fun x:Str=>x.length) ∘ fun ch=>(⟨#[ch]⟩:Str))=fun _=>1 from rfl];generalize hL:(cB size.toNat).map (fun j=>KD (bsW c spot i j % 26))=L;have hl:L.length=size.toNat:=by rw[<- hL];simp
   rw[<- hl];clear hL hl xZ;induction L with
   | nil=>rfl
   | cons y r ih=>rw[aU,List.sum_cons,ih,ck];omega
  refine⟨"",p2,_,rfl,rfl,SqL.of xZ,(by rw[iD];show size.toNat+_ * 0<=_;omega),?_⟩;have hjl:(nc "" (((cB size.toNat).map fun j=>KD (bsW c spot i j % 26)).map fun ch=>(⟨#[ch]⟩:Str))).length<=7:=by
   show (nc "" _).cps.size<=7;rw[<- dy,ja8];simp;omega
  refine⟨_,_,rfl,rfl,?_,?_⟩
  .have:∀qc,(⟨#[qc]⟩:Str).length=1:=fun _=>rfl
   rw[this];exact aJ (by omega:1+(nc "" _).length<=1000) (Yv (aD _))
  have LS:=BV _ _ (i6 _ _ ra);refine⟨lw,_,_,rfl,rfl,LS,jJ (by rw[az,az,oT];omega),?_⟩;refine⟨some (.int (0+(i:Int))),some (.ref p),rfl,fun z o e=>?_,?_⟩
  .rw[jB (jp e Dm)];exact BV _ _ (i6 _ _ (sG _ _ e))
  .rw[jf,jaU,aX];rfl
 .rintro σ G ⟨x7,x8,rfl,sG,ra⟩
  exact⟨_,rfl,q lw _ G (jjB (by omega)) sG Dm ra⟩
theorem jiD(F:Fun K "_law_mix" "_law_mix" jgf f fd):FnOk P w K mg base CX0 1 f fd ["_law_seed","_law_k"] spMix:=by
 have sc:FnScope ["_law_seed","_law_k","_law_number"] ["_law_seed","_law_k"] (jm jgf):=fQ;refine F.okZ sc (fun ax A outer s H vs Q E hr h=>?_);obtain⟨s,k,rfl,q⟩:=h;refine⟨_,(jd (jy (i:=2) sc.nd rfl oQ (js jZ (js qr (js qr (js qk (zpv 0) je) (js qk (zpv 1) je)) je) je))
   (ji (jC (js jZ (js qk (zpv 2) (zpv 2)) je)))),?_⟩
 try dsimp only[kx]
 refine⟨_,rfl,_,_,rfl,rfl,.inr ⟨by decide,by decide⟩,_,rfl,_,_,rfl,rfl,.inr ⟨by decide,by decide⟩,_,_,rfl,rfl,_,_,rfl,rfl,_,_,rfl,rfl,(by show (0:Int) < _;decide),?_⟩;have h0:0<=(s * 48271+k * 40692+1) % 2147483647:=rZ _ (by decide);have h1:(s * 48271+k * 40692+1) % 2147483647 < 2147483647:=r_ _ (by decide);dsimp only;generalize (s * 48271+k * 40692+1) % 2147483647=x at *;exact⟨_,rfl,_,rfl,_,_,rfl,rfl,.inr ⟨by omega,by omega⟩,_,_,rfl,rfl,(by show (0:Int) < _;decide),q _⟩
end
abbrev K5:aF:=top 36
abbrev Z1:aF:=top 37
abbrev jcx:aF:=top 39
structure Ws(H:Hp)(a:ad)(ws:List Str):Prop where
 at_:H a=some (.lst (ws.map V.str))
 len:ws.length=6
 ok:∀x∈ws,Wd x
variable {ws:List Str}
theorem Ws.mono{H':Hp}(h:Ws H a ws)(s:Same H H'):Ws H' a ws:=⟨s _ _ h.at_,h.len,h.ok⟩
theorem Ws.get(h:Ws H a ws)(h0:0<=i)(h1:i < 6):∃x,atI (ws.map V.str) i=some (.str x)/\Wd x:=by
 have hk:i.toNat < ws.length:=by rw[h.len];omega
 refine⟨_,jaA h0 (by rw[h.len];exact h1),h.ok _ ?_⟩;rw[lX,aK hk];exact cT hk
theorem jao{y z:Str}(hx:Wd x)(hy:Wd y)(hz:Wd z)(h0:0<=i)(h1:i < 4):∃u,atI [V.str "",V.str x,V.str y,V.str z] i=some (.str u)/\NmG u:=by
 have:i=0\/i=1\/i=2\/i=3:=by omega
 rcases this with rfl | rfl | rfl | rfl
 .exact⟨_,rfl,.inl rfl⟩
 .exact⟨_,rfl,.inr hx⟩
 .exact⟨_,rfl,.inr hy⟩
 .exact⟨_,rfl,.inr hz⟩
theorem ql{x y:Int}(h:0 < y):0<=x % y/\x % y < y:=⟨rZ _ (by omega),r_ _ h⟩
theorem jjy(k:Bool):-(2:Int) ^ 64 < (if k=true then (1:Int) else 0)/\(if k=true then (1:Int) else 0) < 2 ^ 64:=by cases k <;> decide
theorem jjV{k:Bool}{x bM:Int}(hc:0<=x/\x < 5)(hn:bM.natAbs<=10 ^ 17):(x - 2+bM * (if k=true then (1:Int) else 0)).natAbs<=10 ^ 18:=by
 cases k
 .rw[Qw (by decide)];omega
 .rw[Qx rfl];omega
theorem jf7{z:Int}(hz:z.natAbs<=10 ^ 17)(h0:0<=i)(h1:i < 3):∃u,atI [V.int 0,V.int 3,V.int z] i=some (.int u)/\u.natAbs<=10 ^ 17:=by
 have:i=0\/i=1\/i=2:=by omega
 rcases this with rfl | rfl | rfl
 .exact⟨_,rfl,by decide⟩
 .exact⟨_,rfl,by decide⟩
 .exact⟨_,rfl,hz⟩
inductive spPlaceL(vs:List V)(H:Hp)(Q:VK)(E:XK):Prop
 | mk (s bM:Int) (a:ad) (ws:List Str) (_:vs=[.int s,.ref a,.int bM]) (_:Ws H a ws) (_:bM.natAbs<=10 ^ 17) (_:∀(x:Str) (d:Int) (v:V) (H':Hp),Same H H'->NmG x->d.natAbs<=10 ^ 18->Held H' (plD x d) v->Q v H')
inductive spTermL(vs:List V)(H:Hp)(Q:VK)(E:XK):Prop
 | mk (s bM:Int) (a:ad) (ws:List Str) (_:vs=[.int s,.ref a,.int bM]) (_:Ws H a ws) (_:bM.natAbs<=10 ^ 17) (_:∀(t:Tm) (v:V) (H':Hp),Same H H'->TmG t->Held H' t.toD v->Q v H')
inductive spEndL(vs:List V)(H:Hp)(Q:VK)(E:XK):Prop
 | mk (s bM:Int) (a:ad) (ws:List Str) (_:vs=[.int s,.ref a,.int bM]) (_:Ws H a ws) (_:bM.natAbs<=10 ^ 17) (_:∀(x:Str) (d:Int) (v:V) (H':Hp),Same H H'->NmG x->d.natAbs<=10 ^ 19->Held H' (plD x d) v->Q v H')
section
theorem jdt(F:Fun K "_law_place" "_law_place" K5 f fd)(B:Free0 mg):FnOk P w K mg base CX0 1 f fd ["_law_seed","_law_w","_law_near"] spPlaceL:=by
 have sc:FnScope ["_law_seed","_law_w","_law_near","_law_x"] ["_law_seed","_law_w","_law_near"] (jm K5):=fQ;refine F.okZ sc (fun ax A outer s H vs Q E hr h=>?_);obtain⟨s,bM,a,ws,rfl,hw,hn,q⟩:=h;refine⟨_,(jd (jy (i:=3) sc.nd rfl oQ (jr j8 (jG (ja jq (ja (jr j8 (zpv 1) je (fun _ _=>rfl)) (ja (jr j8 (zpv 1) je (fun _ _=>rfl)) (ja (jr j8 (zpv 1) je (fun _ _=>rfl)) jb))))) (js jZ (zpv 0) je) (fun _ _=>rfl)))
   (ji (jC (jQ (ja (zpv 3) (ja (js qr (js zo (js jZ (js j5 (zpv 0) je) je) je) (js qk (zpv 2) (yA zw (by rfl) B.int_ KN (ja (zC ku (zpv 3) jq (jI _)) jb)))) jb)))))),?_⟩
 refine jH (σ':=[some (.int s),some (.ref a),some (.int bM),none]) rfl ?_
 try dsimp only[kx]
 obtain⟨x0,e0,o0⟩:=hw.get (i:=0) (by decide) (by decide);obtain⟨x1,e1,o1⟩:=hw.get (i:=1) (by decide) (by decide);obtain⟨x2,e2,o2⟩:=hw.get (i:=2) (by decide) (by decide);refine⟨_,rfl,a,_,_,_,rfl,rfl,SqL.of hw.at_,e0,_,rfl,a,_,_,_,rfl,rfl,SqL.of hw.at_,e1,_,rfl,a,_,_,_,rfl,rfl,SqL.of hw.at_,e2,sm rfl,fun p hp=>?_⟩;have s1:=jj hp (.lst [V.str "",V.str x0,V.str x1,V.str x2]);have u1:upd H p (.lst [V.str "",V.str x0,V.str x1,V.str x2]) p=_:=jf;generalize upd H p (.lst [V.str "",V.str x0,V.str x1,V.str x2])=H1 at *;have hb:=ql (x:=s) (y:=4) (by decide);obtain⟨u,e3,o3⟩:=jao o0 o1 o2 hb.1 hb.2;refine⟨_,rfl,_,_,rfl,rfl,(by show (0:Int) < _;decide),p,_,_,_,rfl,rfl,SqL.of u1,e3,?_⟩;refine gQ ?_;have hc:=ql (x:=s / 4) (y:=5) (by decide);refine⟨_,rfl,_,rfl,_,_,rfl,rfl,⟨by decide,by decide⟩,_,_,rfl,rfl,(by show (0:Int) < _;decide),_,_,rfl,rfl,_,rfl,_,rfl,rfl,.inr ⟨_,rfl,_,_,rfl,rfl,.inr (jjy _),_,_,rfl,rfl,sm rfl,fun p2 fW=>?_⟩⟩;exact q u _ _ _ (s1.trans (jj fW _)) o3 (jjV hc hn) (jK jf (jc jF (jc jP jl)))
theorem jg1(F:Fun K "_law_end" "_law_end" jcx f fd)(gg:Fn P w K mg base 1 "_law_place" ["_law_seed","_law_w","_law_near"] spPlaceL):FnOk P w K mg base CX0 2 f fd ["_law_seed","_law_w","_law_near"] spEndL:=by
 have sc:FnScope ["_law_seed","_law_w","_law_near","_law_place_here"] ["_law_seed","_law_w","_law_near"] (jm jcx):=fQ;refine F.okZ sc (fun ax A outer s H vs Q E hr h=>?_);obtain⟨s,bM,a,ws,rfl,hw,hn,q⟩:=h;refine⟨_,(jd (jy (i:=3) sc.nd rfl oQ (jg gg hr (ja (zpv 0) (ja (zpv 1) (ja (zpv 2) jb)))))
   (ji (jC (jQ (ja (jr jw (zpv 3) je (fun _ _=>rfl)) (ja (js qr (jr jw (zpv 3) je (fun _ _=>rfl)) (jr j8 (jG (ja je (ja je (ja (js JE je je) jb)))) (js jZ (js j5 (zpv 0) je) je) (fun _ _=>rfl))) jb)))))),?_⟩
 refine jH (σ':=[some (.int s),some (.ref a),some (.int bM),none]) rfl ?_
 try dsimp only[kx]
 refine⟨_,rfl,_,rfl,_,rfl,s,bM,a,ws,rfl,hw,hn,fun x d v H1 s1 hx hd hv=>?_⟩;refine gQ ?_;obtain⟨t,rfl,ht⟩:=JC hv;refine⟨_,rfl,t,_,_,_,rfl,rfl,SqT.of ht,jh (j:=0) rfl,_,rfl,t,_,_,_,rfl,rfl,SqT.of ht,jh (j:=1) rfl,_,_,rfl,rfl,⟨by decide,by decide⟩,sm rfl,fun p hp=>?_⟩;have hb:=ql (x:=s / 20) (y:=3) (by decide);obtain⟨u,e3,o3⟩:=jf7 (z:=10 ^ fP 17) (by decide) hb.1 hb.2;have s2:=jj hp (.lst [V.int 0,V.int 3,V.int (10 ^ fP 17)]);refine⟨_,rfl,_,_,rfl,rfl,⟨by decide,by decide⟩,_,_,rfl,rfl,(by show (0:Int) < _;decide),p,_,_,_,rfl,rfl,SqL.of jf,e3,_,_,rfl,rfl,sm rfl,fun p2 fW=>?_⟩;exact q x _ _ _ (s1.trans (s2.trans (jj fW _))) hx (by omega) (jK jf (jc jF (jc jP jl)))
theorem jfb(F:Fun K "_law_term" "_law_term" Z1 f fd)(gg:Fn P w K mg base 1 "_law_place" ["_law_seed","_law_w","_law_near"] spPlaceL):FnOk P w K mg base CX0 2 f fd ["_law_seed","_law_w","_law_near"] spTermL:=by
 have sc:FnScope ["_law_seed","_law_w","_law_near"] ["_law_seed","_law_w","_law_near"] (jm Z1):=fQ;refine F.okZ sc (fun ax A outer s H vs Q E hr h=>?_);obtain⟨s,bM,a,ws,rfl,hw,hn,q⟩:=h;refine⟨_,(jd (jN (jD Zq (js jZ (zpv 0) je) je (jI _)) (ji (jC (jQ (ja jq (ja (jr j8 (jG (ja jq (ja (jr j8 (zpv 1) je (fun _ _=>rfl)) (ja (jr j8 (zpv 1) je (fun _ _=>rfl)) (ja (jr j8 (zpv 1) je (fun _ _=>rfl)) jb))))) (js jZ (js j5 (zpv 0) je) je) (fun _ _=>rfl)) jb))))) jL)
   (ji (jC (jQ (ja jq (ja (jr j8 (zpv 1) (js qr je (js jZ (js j5 (zpv 0) je) je)) (fun _ _=>rfl)) (ja (jg gg hr (ja (js j5 (zpv 0) je) (ja (zpv 1) (ja (zpv 2) jb)))) jb))))))),?_⟩
 refine jH (σ':=[some (.int s),some (.ref a),some (.int bM)]) rfl ?_
 try dsimp only[kx]
 refine⟨_,rfl,_,_,rfl,rfl,(by show (0:Int) < _;decide),_,_,rfl,rfl,_,rfl,yK (fun c=>?_) (fun c=>?_)⟩
 .obtain⟨x0,e0,o0⟩:=hw.get (i:=0) (by decide) (by decide)
  obtain⟨x1,e1,o1⟩:=hw.get (i:=1) (by decide) (by decide);obtain⟨x2,e2,o2⟩:=hw.get (i:=2) (by decide) (by decide);refine⟨_,rfl,a,_,_,_,rfl,rfl,SqL.of hw.at_,e0,_,rfl,a,_,_,_,rfl,rfl,SqL.of hw.at_,e1,_,rfl,a,_,_,_,rfl,rfl,SqL.of hw.at_,e2,sm rfl,fun p hp=>?_⟩;have s1:=jj hp (.lst [V.str "",V.str x0,V.str x1,V.str x2]);have u1:upd H p (.lst [V.str "",V.str x0,V.str x1,V.str x2]) p=_:=jf;generalize upd H p (.lst [V.str "",V.str x0,V.str x1,V.str x2])=H1 at *;have hb:=ql (x:=s / 3) (y:=4) (by decide);obtain⟨u,e3,o3⟩:=jao o0 o1 o2 hb.1 hb.2;refine⟨_,rfl,_,_,rfl,rfl,⟨by decide,by decide⟩,_,_,rfl,rfl,(by show (0:Int) < _;decide),p,_,_,_,rfl,rfl,SqL.of u1,e3,sm rfl,fun p2 fW=>?_⟩;exact q (.is u) _ _ (s1.trans (jj fW _)) o3 (jK jf (jc jF (jc jF jl)))
 .have hb:=ql (x:=s / 3) (y:=3) (by decide)
  obtain⟨r,e3,o3⟩:=hw.get (i:=3+s / 3 % 3) (by omega) (by omega);refine⟨_,rfl,_,rfl,_,_,rfl,rfl,⟨by decide,by decide⟩,_,_,rfl,rfl,(by show (0:Int) < _;decide),_,_,rfl,rfl,a,_,_,_,rfl,rfl,SqL.of hw.at_,e3,?_⟩;refine⟨_,rfl,_,_,rfl,rfl,⟨by decide,by decide⟩,_,rfl,_,rfl,_,bM,a,ws,rfl,hw,hn,fun x d v H1 s1 hx hd hv=>⟨sm rfl,fun p hp=>?_⟩⟩;exact q (.at_ r x d) _ _ (s1.trans (jj hp _)) ⟨o3,hx,by omega⟩ (jK jf (jc jF (jc jF (jc (hv.mono (jj hp _)) jl))))
end
abbrev Z5:aF:=top 38
inductive spDrawn(vs:List V)(H:Hp)(Q:VK)(E:XK):Prop
 | mk (s bM:Int) (a:ad) (ws:List Str) (_:vs=[.int s,.ref a,.int bM]) (_:Ws H a ws) (_:bM.natAbs<=10 ^ 17) (_:∀(r:Rw) (v:V) (H':Hp),Same H H'->RwG r->(∀C,r≠.know C)->Held H' r.toD v->Q v H')
theorem jhy{x y:Int}(hx:x.natAbs<=10 ^ 16)(hy:y.natAbs<=10 ^ 16)(h0:0<=i)(h1:i < 2):∃u,atI [V.int x,V.int y] i=some (.int u)/\u.natAbs<=10 ^ 16:=by
 have:i=0\/i=1:=by omega
 rcases this with rfl | rfl
 .exact⟨_,rfl,hx⟩
 .exact⟨_,rfl,hy⟩
theorem jh0(x:Int):(x % (2 * 10 ^ fP 15) - 10 ^ fP 15).natAbs<=10 ^ 16:=by
 have:=ql (x:=x) (y:=2 * 10 ^ 15) (by decide);show (x % (2 * 10 ^ 15) - 10 ^ 15).natAbs<=10 ^ 16;omega
theorem jjD(k:Bool):0<=(if k=true then (1:Int) else 0)/\(if k=true then (1:Int) else 0) < 2:=by cases k <;> decide
section
theorem jfj(F:Fun K "_law_drawn" "_law_drawn" Z5 f fd)(B:Free0 mg)(mR:Fn P w K mg base 2 "_law_term" ["_law_seed","_law_w","_law_near"] spTermL)(fb:Fn P w K mg base 1 "_law_mix" ["_law_seed","_law_k"] spMix)(gg:Fn P w K mg base 1 "_law_place" ["_law_seed","_law_w","_law_near"] spPlaceL):FnOk P w K mg base CX0 3 f fd ["_law_seed","_law_w","_law_near"] spDrawn:=by
 have sc:FnScope ["_law_seed","_law_w","_law_near","_law_kind","_law_more_here","_law_term_here"] ["_law_seed","_law_w","_law_near"] (jm Z5):=fQ;refine F.okZ sc (fun ax A outer s H vs Q E hr h=>?_);obtain⟨s,bM,a,ws,rfl,hw,hn,q⟩:=h;refine⟨_,(jd (jy (i:=3) sc.nd rfl oQ (js jZ (zpv 0) je))
   (jd (jy (i:=4) sc.nd rfl oQ (jr j8 (jG (ja (js zo (js jZ (js j5 (zpv 0) je) je) je) (ja (js zo (js jZ (js qk (zpv 0) je) (js qk je (js JE je je))) (js JE je je)) jb))) (yA zw (by rfl) B.int_ KN (ja (zC ku (js jZ (js j5 (zpv 0) je) je) je (jI _)) jb)) (fun _ _=>rfl)))
   (jd (jy (i:=5) sc.nd rfl oQ (jg mR hr (ja (jg fb hr (ja (zpv 0) (ja je jb))) (ja (zpv 1) (ja (zpv 2) jb)))))
   (jd (jN (jD Zq (zpv 3) je (jI _)) (ji (jC (jQ (ja jq (ja (jr j8 (zpv 1) (js jZ (js j5 (zpv 0) je) je) (fun _ _=>rfl)) (ja (zpv 5) (ja (zpv 4) jb))))))) jL)
   (jd (jN (jD Zq (zpv 3) je (jI _)) (ji (jC (jQ (ja jq (ja (jr j8 (zpv 1) (js qr je (js jZ (js j5 (zpv 0) je) je)) (fun _ _=>rfl)) (ja (jg gg hr (ja (jg fb hr (ja (zpv 0) (ja je jb))) (ja (zpv 1) (ja (zpv 2) jb)))) (ja (zpv 5) (ja (zpv 4) jb)))))))) jL)
   (jd (jN (jD ku (zpv 3) je (jI _)) (ji (jC (jQ (ja jq (ja (jr j8 (zpv 1) (js jZ (js j5 (zpv 0) je) je) (fun _ _=>rfl)) jb))))) jL)
   (ji (jC (jQ (ja jq (ja (jr j8 (zpv 1) (js qr je (js jZ (js j5 (zpv 0) je) je)) (fun _ _=>rfl)) jb))))))))))),?_⟩
 refine jH (σ':=[some (.int s),some (.ref a),some (.int bM),none,none,none]) rfl ?_;refine jfB ?_;intro _ _ _ _ _ _;refine⟨_,rfl,_,_,rfl,rfl,(by show (0:Int) < _;decide),?_⟩;refine gQ ?_;refine⟨_,rfl,_,_,rfl,rfl,⟨by decide,by decide⟩,_,_,rfl,rfl,(by show (0:Int) < _;decide),_,_,rfl,rfl,_,rfl,_,_,rfl,rfl,.inr ⟨by decide,by decide⟩,_,_,rfl,rfl,⟨by decide,by decide,by decide⟩,_,_,rfl,rfl,.inl ⟨by decide,by decide⟩,_,_,rfl,rfl,(by show (0:Int) < _;decide),_,_,rfl,rfl,⟨by decide,by decide,by decide⟩,_,_,rfl,rfl,sm rfl,fun l1 tK=>?_⟩;dsimp only;have b1:=ql (x:=s / 6) (y:=7) (by decide);have b2:=jh0 (s * 7919);have b3:(s / 6 % 7 - 3).natAbs<=10 ^ 16:=by omega
 generalize s / 6 % 7 - 3=c1 at *;generalize s * 7919 % (2 * 10 ^ fP 15) - 10 ^ fP 15=c2 at *;have s1:=jj tK (.lst [V.int c1,V.int c2]);have e1:upd H l1 (.lst [V.int c1,V.int c2]) l1=some (.lst [V.int c1,V.int c2]):=jf;generalize upd H l1 (.lst [V.int c1,V.int c2])=H1 at *;refine⟨_,rfl,_,_,rfl,rfl,⟨by decide,by decide⟩,_,_,rfl,rfl,(by show (0:Int) < _;decide),rfl,.inr ⟨_,rfl,?_⟩⟩;obtain⟨mo,iE,bm⟩:=jhy b3 b2 (jjD (decide (V.int (s / 42 % 3)=V.int 1))).1 (jjD (decide (V.int (s / 42 % 3)=V.int 1))).2;refine⟨l1,_,_,_,rfl,rfl,SqL.of e1,iE,?_⟩;refine gQ ?_;refine⟨_,rfl,s,1,rfl,fun s3=>⟨_,rfl,_,rfl,s3,bM,a,ws,rfl,hw.mono s1,hn,fun tm v H2 s2 ht hv=>?_⟩⟩;refine gQ ?_;have cF:=s1.trans s2;have dz:=hw.mono cF;have b4:=ql (x:=s / 6) (y:=3) (by decide);obtain⟨x,ex,ox⟩:=dz.get (i:=s / 6 % 3) (by omega) (by omega);obtain⟨r,er,B6⟩:=dz.get (i:=3+s / 6 % 3) (by omega) (by omega);refine⟨_,rfl,_,_,rfl,rfl,_,rfl,yK (fun d=>?_) (fun d=>?_)⟩
 .refine⟨_,rfl,_,rfl,_,_,rfl,rfl,⟨by decide,by decide⟩,_,_,rfl,rfl,(by show (0:Int) < _;decide),a,_,_,_,rfl,rfl,SqL.of dz.at_,ex,_,rfl,_,rfl,sm rfl,fun p hp=>?_⟩
  exact q (.set x tm mo) _ _ (cF.trans (jj hp _)) ⟨ox,ht,by omega⟩ (fun _ z=>by cases z) (jK jf (jc jF (jc jF (jc (hv.mono (jj hp _)) (jc jP jl)))))
 refine⟨_,rfl,_,_,rfl,rfl,_,rfl,yK (fun d=>?_) (fun d=>?_)⟩
 .refine⟨_,rfl,_,rfl,_,_,rfl,rfl,⟨by decide,by decide⟩,_,_,rfl,rfl,(by show (0:Int) < _;decide),_,_,rfl,rfl,a,_,_,_,rfl,rfl,SqL.of dz.at_,er,?_⟩
  refine⟨_,rfl,s,2,rfl,fun s4=>⟨_,rfl,_,rfl,s4,bM,a,ws,rfl,dz,hn,fun y d v2 H3 s3 hy hd ml=>⟨_,rfl,_,rfl,sm rfl,fun p hp=>?_⟩⟩⟩;exact q (.put r y d tm mo) _ _ (cF.trans (s3.trans (jj hp _))) ⟨B6,hy,by omega,ht,by omega⟩ (fun _ z=>by cases z) (jK jf (jc jF (jc jF (jc (ml.mono (jj hp _)) (jc (hv.mono (s3.trans (jj hp _))) (jc jP jl))))))
 refine⟨_,rfl,rfl,_,rfl,yK (fun d=>?_) (fun d=>?_)⟩
 .refine⟨_,rfl,_,rfl,_,_,rfl,rfl,⟨by decide,by decide⟩,_,_,rfl,rfl,(by show (0:Int) < _;decide),a,_,_,_,rfl,rfl,SqL.of dz.at_,ex,sm rfl,fun p hp=>?_⟩
  exact q (.any x) _ _ (cF.trans (jj hp _)) ox (fun _ z=>by cases z) (jK jf (jc jF (jc jF jl)))
 .refine⟨_,rfl,_,rfl,_,_,rfl,rfl,⟨by decide,by decide⟩,_,_,rfl,rfl,(by show (0:Int) < _;decide),_,_,rfl,rfl,a,_,_,_,rfl,rfl,SqL.of dz.at_,er,sm rfl,fun p hp=>?_⟩
  exact q (.lose r) _ _ (cF.trans (jj hp _)) B6 (fun _ z=>by cases z) (jK jf (jc jF (jc jF jl)))
end
abbrev JV:aF:=top 40
structure Fs(H:Hp)(a:ad)(fs:List Str):Prop where
 at_:H a=some (.lst (fs.map V.str))
 len:fs.length<=6
 ok:∀x∈fs,Wd x
theorem Fs.mono{H':Hp}(h:Fs H a ws)(s:Same H H'):Fs H' a ws:=⟨s _ _ h.at_,h.len,h.ok⟩
theorem Fs.get{fs:List Str}(h:Fs H a fs)(hp:0 < fs.length)(x:Int):0 < ((fs.map V.str).length:Int)/\∃r,atI (fs.map V.str) (x % ((fs.map V.str).length:Int))=some (.str r)/\Wd r:=by
 have lz:((fs.map V.str).length:Int)=fs.length:=by rw[az]
 rw[lz];have b:=ql (x:=x) (y:=(fs.length:Int)) (by omega);have hk:(x % (fs.length:Int)).toNat < fs.length:=by omega
 refine⟨by omega,_,jaA b.1 b.2,h.ok _ ?_⟩;rw[lX,aK hk];exact cT hk
inductive spClaimL(vs:List V)(H:Hp)(Q:VK)(E:XK):Prop
 | mk (s bM:Int) (a fr:ad) (ws fs:List Str) (_:vs=[.int s,.ref a,.int bM,.ref fr]) (_:Ws H a ws) (_:bM.natAbs<=10 ^ 17) (_:Fs H fr fs) (_:∀(k:Cl) (v:V) (H':Hp),Same H H'->ClG k->Held H' k.toD v->Q v H')
theorem YT:∀ws:List Str,D.depthL (ws.map D.str)=0
 | []=>rfl
 | x :: r=>by show max (D.str x).depth (D.depthL (r.map D.str))=0;rw[YT r];rfl
theorem YQ{H:Hp}:∀ws:List Str,HeldL H (ws.map D.str) (ws.map V.str)
 | []=>jl
 | _ :: r=>jc jF (YQ r)
theorem jef(h0:0<=i)(h1:i < 2):∃w:Str,atI [V.str ">=",V.str "<="] i=some (.str w):=by
 have:i=0\/i=1:=by omega
 rcases this with rfl | rfl
 .exact⟨_,rfl⟩
 .exact⟨_,rfl⟩
theorem jcX{o:ad}:∀{b:Bd},(∃kd x,b.toD=.tup [.str kd,.str x]/\H o=some (.tup [.str kd,.str x]))->Held H b.toD (.ref o):=fun⟨kd,x,e,h⟩=>by
 rw[e];exact jK h (jc jF (jc jF jl))
section
theorem jdw(F:Fun K "_law_claim" "_law_claim" JV f fd)(B:Free0 mg)(fb:Fn P w K mg base 1 "_law_mix" ["_law_seed","_law_k"] spMix)(gg:Fn P w K mg base 1 "_law_place" ["_law_seed","_law_w","_law_near"] spPlaceL)(mR:Fn P w K mg base 2 "_law_term" ["_law_seed","_law_w","_law_near"] spTermL)(AC:Fn P w K mg base 2 "_law_end" ["_law_seed","_law_w","_law_near"] spEndL):FnOk P w K mg base CX0 3 f fd ["_law_seed","_law_w","_law_near","_law_free"] spClaimL:=by
 have sc:FnScope ["_law_seed","_law_w","_law_near","_law_free","_law_more_here","_law_t","_law_u","_law_r","_law_facing"] ["_law_seed","_law_w","_law_near","_law_free"] (jm JV):=fQ;refine F.okZ sc (fun ax A outer s H vs Q E hr h=>?_);have H_:(A.deeper (cA "_law_claim" (jm JV) s.heap.objs.size f ax)).units+1+0 < cLine:=by have:=hr.units;omega
 obtain⟨sd,n,a,fr,ws,fs,rfl,hw,hn,hf,q⟩:=h;refine⟨_,(jd (jy (i:=4) sc.nd rfl oQ (jr j8 (jG (ja (js zo (js jZ (js j5 (zpv 0) je) je) je) (ja (js zo (js jZ (js qk (zpv 0) je) (js qk je (js JE je je))) (js JE je je)) jb))) (js jZ (js j5 (zpv 0) je) je) (fun _ _=>rfl)))
   (jd (jN (ZK (jD ku (js jZ (zpv 0) je) je (jI _)) (ZJ (jD (jaa 0 H_) (zpv 3) (jG jb) (jI _)))).pt (ji (jC (jQ (ja jq (ja (jg mR hr (ja (jg fb hr (ja (zpv 0) (ja je jb))) (ja (zpv 1) (ja (zpv 2) jb)))) (ja (jg mR hr (ja (jg fb hr (ja (zpv 0) (ja je jb))) (ja (zpv 1) (ja (zpv 2) jb)))) (ja (zpv 4) jb))))))) jL)
   (jd (jy (i:=5) sc.nd rfl oQ (jg gg hr (ja (jg fb hr (ja (zpv 0) (ja je jb))) (ja (zpv 1) (ja (zpv 2) jb)))))
   (jd (jy (i:=6) sc.nd rfl oQ (jg AC hr (ja (jg fb hr (ja (zpv 0) (ja je jb))) (ja (zpv 1) (ja (zpv 2) jb)))))
   (jd (jy (i:=7) sc.nd rfl oQ (jr j8 (zpv 3) (js jZ (js j5 (zpv 0) je) (zh qp (by rfl) B.len_ KM (ja (zpv 3) jb))) (fun _ _=>rfl)))
   (jd (jN (jD ku (js jZ (zpv 0) je) je (jI _)) (jd (jy (i:=8) sc.nd rfl oQ (jQ (ja jq (ja (jr j8 (jG (ja jq (ja (jr j8 (zpv 1) je (fun _ _=>rfl)) (ja (jr j8 (zpv 1) je (fun _ _=>rfl)) (ja (jr j8 (zpv 1) je (fun _ _=>rfl)) jb))))) (js jZ (js j5 (zpv 0) je) je) (fun _ _=>rfl)) jb))))
   (jd (Yi (jN (jD ku (js jZ (js j5 (zpv 0) je) je) je (jI _)) (ji (jy (i:=8) sc.nd rfl oQ (jQ (ja jq (ja (jr j8 (zpv 3) (js jZ (js j5 (zpv 0) je) (zh qp (by rfl) B.len_ KM (ja (zpv 3) jb))) (fun _ _=>rfl)) jb))))) jL))
   (ji (jC (jQ (ja jq (ja (zpv 5) (ja (zpv 6) (ja (zpv 7) (ja (jr j8 (jG (ja jq (ja jq jb))) (js jZ (js j5 (zpv 0) je) je) (fun _ _=>rfl)) (ja (zpv 8) (ja (zpv 4) jb)))))))))))) jL)
   (ji (jC (jQ (ja jq (ja (zpv 5) (ja (zpv 6) (ja (zpv 7) jb))))))))))))),?_⟩
 refine jH (σ':=[some (.int sd),some (.ref a),some (.int n),some (.ref fr),none,none,none,none,none]) rfl ?_;refine jfB ?_;intro _ _ _ _ _ _;refine⟨_,rfl,_,_,rfl,rfl,⟨by decide,by decide⟩,_,_,rfl,rfl,(by show (0:Int) < _;decide),_,_,rfl,rfl,_,rfl,_,_,rfl,rfl,.inr ⟨by decide,by decide⟩,_,_,rfl,rfl,⟨by decide,by decide,by decide⟩,_,_,rfl,rfl,.inl ⟨by decide,by decide⟩,_,_,rfl,rfl,(by show (0:Int) < _;decide),_,_,rfl,rfl,⟨by decide,by decide,by decide⟩,_,_,rfl,rfl,sm rfl,fun l1 tK=>?_⟩;dsimp only;have b1:=ql (x:=sd / 6) (y:=7) (by decide);have b2:=jh0 (sd * 7919);have b3:(sd / 6 % 7 - 3).natAbs<=10 ^ 16:=by omega
 generalize sd / 6 % 7 - 3=c1 at *;generalize sd * 7919 % (2 * 10 ^ fP 15) - 10 ^ fP 15=c2 at *;have s1:=jj tK (.lst [V.int c1,V.int c2]);have e1:upd H l1 (.lst [V.int c1,V.int c2]) l1=some (.lst [V.int c1,V.int c2]):=jf;generalize upd H l1 (.lst [V.int c1,V.int c2])=H1 at *;refine⟨_,rfl,_,_,rfl,rfl,⟨by decide,by decide⟩,_,_,rfl,rfl,(by show (0:Int) < _;decide),?_⟩;obtain⟨mo,iE,bm⟩:=jhy b3 b2 (i:=sd / 42 % 2) (ql (by decide)).1 (ql (by decide)).2;refine⟨l1,_,_,_,rfl,rfl,SqL.of e1,iE,?_⟩;refine gQ ?_;clear iE e1 tK;refine⟨_,rfl,_,_,rfl,rfl,(by show (0:Int) < _;decide),rfl,_,rfl,?_⟩;refine yK (fun d=>?ga) (fun d=>?gb)
 case' gb=>
  refine⟨_,rfl,sm rfl,fun l2 nW=>?_⟩
  have s2:=jj nW (.lst [])
  have e2:upd H1 l2 (.lst []) l2=some (.lst []):=jf
  generalize upd H1 l2 (.lst [])=H2 at *
  have cF:=s1.trans s2
  clear s1 s2 nW
  refine⟨fr,l2,_,_,fs.map D.str,[],rfl,rfl,cF _ _ hf.at_,e2,nq (YT fs),YQ fs,jl,_,rfl,yK (fun dd=>?gc) (fun dd=>?gd)⟩
 case' ga=>
  have cF:=s1
  clear s1
  generalize H1=H2 at *
 case' gd=>
  have Lh:fs≠[]:=fun z=>dd (Qu (by rw[z];rfl))
  have DD:0 < fs.length:=List.length_pos_iff.mpr Lh
  refine⟨_,rfl,sd,3,rfl,fun s3=>?_⟩
  refine⟨_,rfl,_,rfl,s3,n,a,ws,rfl,hw.mono cF,hn,fun tx td ta H3 t3 gx gd dA=>?_⟩
  refine gQ ?_
  have cP:=cF.trans t3
  refine⟨_,rfl,sd,4,rfl,fun s4=>?_⟩
  refine⟨_,rfl,_,rfl,s4,n,a,ws,rfl,hw.mono cP,hn,fun ux ud ua H4 t4 gu ge CY=>?_⟩
  refine gQ ?_
  have dI:=cP.trans t4
  have C2:=dA.mono t4
  have pT:=hf.mono dI
  have ld:=hw.mono dI
  clear t3 t4 dA cF cP hf hw e2
  obtain⟨lz,r,dr,gr⟩:=pT.get DD (sd / 3)
  obtain⟨_,rr,lp,Mf⟩:=pT.get DD (sd / 1512)
  refine⟨_,rfl,_,rfl,_,_,rfl,rfl,⟨by decide,by decide⟩,_,rfl,fr,_,rfl,.inl (SqL.of pT.at_),_,_,rfl,rfl,lz,fr,_,_,_,rfl,rfl,SqL.of pT.at_,dr,?_⟩
  refine gQ ?_
  refine⟨_,rfl,_,_,rfl,rfl,(by show (0:Int) < _;decide),rfl,_,rfl,yK (fun e=>?ge) (fun e=>?gf)⟩
 case' gf=>
  refine⟨_,rfl,_,rfl,_,rfl,sm rfl,fun t ht=>?_⟩
  have s5:=jj ht (.tup [V.str "rise",ta,ua,V.str r])
  exact q (.rise tx td ux ud r) _ _ (dI.trans s5) ⟨gx,by omega,gu,by omega,gr⟩ (jK jf (jc jF (jc (C2.mono s5) (jc (CY.mono s5) (jc jF jl)))))
 case' ge=>
  obtain⟨x0,pC,o0⟩:=ld.get (i:=0) (by decide) (by decide)
  obtain⟨x1,fU,o1⟩:=ld.get (i:=1) (by decide) (by decide)
  obtain⟨x2,lc,o2⟩:=ld.get (i:=2) (by decide) (by decide)
  refine⟨_,rfl,a,_,_,_,rfl,rfl,SqL.of ld.at_,pC,_,rfl,a,_,_,_,rfl,rfl,SqL.of ld.at_,fU,_,rfl,a,_,_,_,rfl,rfl,SqL.of ld.at_,lc,sm rfl,fun l3 xE=>?_⟩
  have s5:=jj xE (.lst [V.str "",V.str x0,V.str x1,V.str x2])
  have e5:upd H4 l3 (.lst [V.str "",V.str x0,V.str x1,V.str x2]) l3=some (.lst [V.str "",V.str x0,V.str x1,V.str x2]):=jf
  generalize upd H4 l3 (.lst [V.str "",V.str x0,V.str x1,V.str x2])=H5 at *
  obtain⟨z,hz,oz⟩:=jao o0 o1 o2 (i:=sd / 126 % 4) (ql (by decide)).1 (ql (by decide)).2
  refine⟨_,rfl,_,_,rfl,rfl,⟨by decide,by decide⟩,_,_,rfl,rfl,(by show (0:Int) < _;decide),l3,_,_,_,rfl,rfl,SqL.of e5,hz,sm rfl,fun t6 lm=>?_⟩
  have s6:=jj lm (.tup [V.str "is",V.str z])
  have e6:upd H5 t6 (.tup [V.str "is",V.str z]) t6=some (.tup [V.str "is",V.str z]):=jf
  generalize upd H5 t6 (.tup [V.str "is",V.str z])=H6 at *
  refine gQ ?_
  have BY:=s5.trans s6
  refine⟨fun σ G=>∃o b,σ=[some (.int sd),some (.ref a),some (.int n),some (.ref fr),some (.int mo),some ta,some ua,some (.str r),some (.ref o)]/\Same H6 G/\BdG b/\Held G b.toD (.ref o),?_,?_⟩
  .refine⟨_,rfl,_,_,rfl,rfl,⟨by decide,by decide⟩,_,_,rfl,rfl,(by show (0:Int) < _;decide),rfl,_,rfl,yK (fun e=>?_) (fun e=>?_)⟩
   .have DC:=BY _ _ pT.at_
    refine⟨_,rfl,_,rfl,_,_,rfl,rfl,⟨by decide,by decide⟩,_,rfl,fr,_,rfl,.inl (SqL.of DC),_,_,rfl,rfl,lz,fr,_,_,_,rfl,rfl,SqL.of DC,lp,sm rfl,fun t7 xl=>?_⟩
    exact⟨t7,.row rr,rfl,jj xl _,Mf,jcX ⟨_,_,rfl,jf⟩⟩
   .exact⟨t6,.is z,rfl,Same.refl _,oz,jcX ⟨_,_,rfl,e6⟩⟩
  rintro σ G ⟨o,b,rfl,sG,gb,ho⟩
  refine⟨_,rfl,_,rfl,_,rfl,sm rfl,fun l8 xC=>?_⟩
  have s8:=jj xC (.lst [V.str ">=",V.str "<="])
  have e8:upd G l8 (.lst [V.str ">=",V.str "<="]) l8=some (.lst [V.str ">=",V.str "<="]):=jf
  generalize upd G l8 (.lst [V.str ">=",V.str "<="])=H8 at *
  obtain⟨way,HU⟩:=jef (i:=sd / 84 % 2) (ql (by decide)).1 (ql (by decide)).2
  refine⟨_,rfl,_,_,rfl,rfl,⟨by decide,by decide⟩,_,_,rfl,rfl,(by show (0:Int) < _;decide),l8,_,_,_,rfl,rfl,SqL.of e8,HU,_,rfl,_,rfl,sm rfl,fun t9 Ii=>?_⟩
  have s9:=jj Ii (.tup [V.str "each",ta,ua,V.str r,V.str way,V.ref o,V.int mo])
  have sZ:=BY.trans (sG.trans (s8.trans s9))
  exact q (.each tx td ux ud r way b mo) _ _ (dI.trans sZ) ⟨gx,by omega,gu,by omega,gr,gb,by omega⟩ (jK jf (jc jF (jc (C2.mono sZ) (jc (CY.mono sZ) (jc jF (jc jF (jc (ho.mono (s8.trans s9)) (jc jP jl))))))))
 all_goals
  refine⟨_,rfl,sd,1,rfl,fun s3=>?_⟩
  refine⟨_,rfl,_,rfl,s3,n,a,ws,rfl,hw.mono cF,hn,fun tm u H3 t3 g1 hu=>?_⟩
  refine⟨_,rfl,sd,2,rfl,fun s4=>?_⟩
  refine⟨_,rfl,_,rfl,s4,n,a,ws,rfl,hw.mono (cF.trans t3),hn,fun GH u2 H4 t4 g2 sX=>?_⟩
  refine⟨_,rfl,sm rfl,fun t ht=>?_⟩
  have s5:=jj ht (.tup [V.str "least",u,u2,V.int mo])
  exact q (.least tm GH mo) _ _ (cF.trans (t3.trans (t4.trans s5))) ⟨g1,g2,by omega⟩ (jK jf (jc jF (jc (hu.mono (t4.trans s5)) (jc (sX.mono s5) (jc jP jl)))))
end
end LW
namespace L2
open PySem PySem.Spec PyProof.Rows PySem.W
theorem lt_trans{a b c:List Nat}(h1:ltCps a b=true)(h2:ltCps b c=true):ltCps a c=true:=by
 induction a generalizing b c with
 | nil=>cases c with
  | nil=>cases b <;> simp[ltCps]at h1 h2
  | cons _ _=>rfl
 | cons x a ih=>
  cases b with
  | nil=>simp[ltCps]at h1
  | cons y b=>cases c with
   | nil=>simp[ltCps]at h2
   | cons z c=>
    simp only[ltCps,Ql,i4,decide_eq_true_eq,beq_iff_eq]at h1 h2 |-;rcases h1 with h1 | ⟨h1,cv⟩
    .rcases h2 with h2 | ⟨h2,eh⟩
     .left;omega
     .left;omega
    .rcases h2 with h2 | ⟨h2,eh⟩
     .left;omega
     .right;exact⟨by omega,ih cv eh⟩
end L2
namespace PySem.W
open PySem PySem.Calls PyProof.Rows PyProof.V PySem.Spec
section
variable {prog:aE}{w:aB}{A:aS}{E:ag->ai->Prop}{s:ai}{T:String}{r d:ad}{n:Nat}{P:Nat->ag->Prop}{OK:ar->Prop}
theorem jfy{R:rM->ai->Prop}(K:KdlSrc prog w T r d n P OK)(hh:A.handled=none)(hok:OK s.heap)(hn:n<=aI)(S:ad)(LN:S≠r)(LO:S≠d)(c₀:Nat)(hS:s.heap.get? S=some { cls:=.type "list",data:=.seq #[] c₀ })
  (hR:∀h' tk tZ c',(∀b o,b≠S->s.heap.get? b=some o->h'.get? b=some o)->h'.get? S=some { cls:=.type "list",dict:=none,data:=.seq tZ c',slots:=#[] }->ItemsOf P tZ n->R (.ok (.ret (.ref S))) { s with heap:=h',toks:=tk }) :
  dP (ao prog w) A (.builtin "list.__iadd__" ⟨[.ref S,.ref r],[]⟩) R s:=by
 refine codeAny_builtin F.entry_list_iadd ?_
 rw[OV OD _]
 exact kdl_extend K hh hok S LN LO _ c₀ hS hR hn
theorem jbk{Q:List ag->ai->Prop}(K:KdlSrc prog w T r d n P OK)(hh:A.handled=none)(hok:OK s.heap)(hn:n<=aI)
  (hQ:∀h' tk aR,(∀b o,s.heap.get? b=some o->h'.get? b=some o)->ItemsOf P aR n->Q aR.toList { s with heap:=h',toks:=tk }) :
  au (ao prog w) A (collect (.ref r)) Q E s:=by
 have aP:=K.there _ hok
 unfold collect
 refine aq (wpAny_runValue (codeAny_builtin F.entry_proto_collect ?_))
 rw[OV F.plain_proto_collect _]
 show au _ A.in1 (uY [] >>= fun l=>again (.builtin "list.__iadd__" ⟨[l,.ref r],[]⟩)) _ _ s
 refine aq (gL ?_)
 have hS:(s.heap.push { cls:=.type "list",data:=.seq ([]:List ag).toArray }).get? s.heap.objs.size=some { cls:=.type "list",data:=.seq #[] 0 }:=dg _ rfl
 refine aH ⟨plainId_quiet OD _,jfy (A:=A) (s:=({ s with heap:=s.heap.push { cls:=.type "list",data:=.seq ([]:List ag).toArray } }:ai)) K hh (K.keep _ _ hok fun b _ o e=>b_ _ e) hn s.heap.objs.size (lS aP.1) (lS aP.2) 0 hS fun h' tk tZ c' hk LP LG=>?_⟩
 show au _ A (load s.heap.objs.size >>= _) _ _ _
 refine aq (wpAny_load LP ?_)
 exact aH (hQ h' tk tZ (fun b o e=>hk b o (cb (bH e)) (b_ _ e)) LG)
end
end PySem.W
namespace L2
open PySem PySem.Spec PyProof.Rows PySem.W
theorem KL{X:Cx}{n:Nat}(hc:X.calm=true)(hu:X.A.units+3+n < cLine):zp X (.builtin "sorted") (fun xs H Q=>∃(v d:ad) (kvs:List (Key×V)) (ps:List (D×ad)),xs=[.ref v]/\H v=some (kE v d)/\H d=some (.dK kvs)/\kvs.map (·.2)=(ps.map (·.2)).map V.ref/\(∀q∈ps,Held H q.1 (.ref q.2))/\SortT (ps.map (·.1)) n/\ps.length<=11000000/\
  ∀(l:ad) (qs:List (D×ad)),H l=none->qs.Perm ps->(qs.map (·.1)).Pairwise (fun a b=>dLt b a=false)->Q (.ref l) (upd H l (.lst ((qs.map (·.2)).map V.ref)))):=by
 intro ae s σ H xs us Q I r h
 obtain⟨v,d,kvs,ps,rfl,hv,hd,IH,hk,hS,most,q⟩:=h
 obtain⟨u,rfl,rx⟩:=yU r
 cases rx
 obtain⟨hz,lo,vs,bR,hD⟩:=I.hok d _ hd
 obtain⟨pF,_⟩:=I.hok v _ hv
 obtain⟨ep,mL⟩:=hD.dictAt
 have bu:kvs.length=vs.length:=bR.length
 have ev:vs.map (·.2)=ps.map fun p=>Value.ref p.2:=by
  have:=jhf bR;rw[IH]at this;rw[Kv this,fM];rfl
 refine OQ kind_sorted plain_sorted entry_sorted (args_sorted1 _) ?_
 unfold Builtin.«sorted»
 refine aq (m:=checkCount "sorted" 1 1 _) (aH (aq (jbk (A:=X.A.in1) (kdl_values (knd:=j6 X.prog X.w) (kvs:=vs) (ep:=ep)) (show X.A.in1.handled=none from I.ok.hd hc) ⟨pF,mL⟩ (by rw[<- bu];exact hz) fun h' tk aR J_ ha=>?_)))
 have My:aR.toList=ps.map fun p=>Value.ref p.2:=by
  rw[<- ev];apply P_;intro j;rw[bz];by_cases hj:j < aR.size
  .have e1:aR[j]?=some aR[j]:=by simp[hj]
   obtain⟨k,e2⟩:=ha.2 j _ e1;rw[e2];simp[hj]
  .have h1:aR.toList[j]?=none:=Bx (by simp;omega)
   have h2:vs[j]?=none:=Bx (by have:=ha.1;omega);rw[h1,h2];rfl
 generalize aR.toList=si at *
 subst My
 have hl:(ps.map fun p=>Value.ref p.2).length=ps.length:=az _
 have I1:Inv X ae σ H { s with heap:=h',toks:=tk }:=I.kept J_
 refine aq (AN ?_ (by rw[hl];exact aJ most qK))
 have lx:(h'.push (cm "list" (ps.map fun p=>Value.ref p.2).toArray 0)).get? h'.objs.size=some (cm "list" (ps.map fun p=>Value.ref p.2).toArray 0):=dg _ rfl
 have kt:∀b xs,h'.IsTuple b xs->(h'.push (cm "list" (ps.map fun p=>Value.ref p.2).toArray 0)).IsTuple b xs:=fun b xs ⟨o,z1,z2⟩=>⟨o,b_ _ z1,z2⟩
 have hT:∀q∈ps,TrAt (h'.push (cm "list" (ps.map fun p=>Value.ref p.2).toArray 0)) q.1 (.ref q.2):=fun q hq=>(Ki I1 (u:=.ref q.2) (hk q hq) rfl).kept kt
 have hI:TrAtL (h'.push (cm "list" (ps.map fun p=>Value.ref p.2).toArray 0)) (ps.map (·.1)) (ps.map fun p=>Value.ref p.2):=Yr (qs:=ps) hT
 refine aq (oC (rG slot_list_sort ⟨_,lx,rfl⟩ entry_list_sort (KQ (n:=n) lx hI hS (by show X.A.units+1+1+n < cLine;omega) (by rw[hl];exact aJ most qK) fun out ms a0 a1 a2 a3=>⟨_,rfl,aH ⟨_,rfl,?_⟩⟩) (args_list_sort _)))
 obtain⟨qs,q1,q2⟩:=Zn (f:=fun p:D×ad=>Value.ref p.2) a0.symm rfl
 have em:ms=qs.map (·.1):=trL_inj a1 (by
  have:=Yr (qs:=qs) fun q hq=>hT q (q1.mem_iff.mp hq)
  rw[q2]at this;exact this)
 rw[em]at a3
 obtain⟨e,he⟩:=sortedHeap_at (out:=out) lx
 refine⟨.ref h'.objs.size,_,I1.laid (t':=tk) (a:=h'.objs.size) (fun b o hb=>?_) (aD _) (show ObjOk X.prog X.w _ _ _ (.lst ((qs.map (·.2)).map V.ref)) from⟨?_,_,e,KA _,?_⟩),rfl,q _ qs (I1.hok.fresh (aD _)) q1 a3⟩
 .have aP:=bH hb
  rw[sortedHeap_old (cb aP) (by rw[Bi];exact rP aP)]
  exact b_ _ hb
 .rw[az,az,q1.length_eq]
  exact aJ most qK
 .have:((qs.map (·.2)).map Value.ref).toArray=out:=by
   rw[fM];show (qs.map fun p=>Value.ref p.2).toArray=out;rw[q2,Qp]
  rw[this];exact he
end L2
namespace LW
open PySem L2
abbrev zu:aF:=top 54
inductive spStraight(K:aw)(vs:List V)(H:Hp)(Q:VK)(E:XK):Prop
 | mk (cs:ad) (ns:List Int) (bM:Int) (a:ad) (ws:List Str) (_:vs=[.ref cs,.ref a,.int bM]) (_:SqL K H cs (ns.map V.int)) (_:ns.length<=40) (_:Ws H a ws) (_:bM.natAbs<=10 ^ 17) (_:∀(l:ad) (R:List Rw) (rs:List V) (H':Hp),Same H H'->H l=none->H' l=some (.lst rs)->HeldL H' (R.map Rw.toD) rs->R.length<=ns.length->(∀r∈R,RwG r)->Q (.ref l) H')
def SInv(H:Hp)(l p:ad)(i:Nat)(G:Hp):Prop:=Same H G/\∃(R:List Rw) (rs:List V) (kvs:List (Key×V)),G l=some (.lst rs)/\HeldL G (R.map Rw.toD) rs/\R.length<=i/\(∀r∈R,RwG r)/\G p=some (.dK kvs)/\kvs.length<=i
theorem yW{K:aw}{H G:Hp}{a:ad}{xs:List V}(h:SqL K H a xs)(s:Same H G):SqL K G a xs:=by
 rcases h with (h | ⟨o,h⟩) | h
 .exact .inl (.inl (s _ _ h))
 .exact .inl (.inr ⟨o,s _ _ h⟩)
 .exact .inr h
theorem jjK{ws:List Str}(h:ws.length=6):zZ (ws.map V.str) (some 3) none=(ws.drop 3).map V.str:=by
 match ws,h with
 | [a,b,c,d,e,f],_=>rfl
theorem jbZ{H:Hp}{a:ad}{xs ys:List V}{ds:List D}{vs:List V}(h:HeldL H ds vs)(e:H a=some (.lst xs)):HeldL (upd H a (.lst ys)) ds vs:=
 TK.heldL (fun b zs eb=>jk (jv eb e (by intro z;cases z)) eb) h
section
variable {P:aE}{w:aB}{K:aw}{mg:Str->Option ag}{base:ar}
theorem jaZ{f:ad}{fd:aL}(F:Fun K "_law_straight" "_law_straight" zu f fd)(B:Free0 mg)(iL:mg "enumerate" = none)(fb:Fn P w K mg base 1 "_law_mix" ["_law_seed","_law_k"] spMix)(ou:Fn P w K mg base 3 "_law_claim" ["_law_seed","_law_w","_law_near","_law_free"] spClaimL)(AE:Fn P w K mg base 3 "_law_drawn" ["_law_seed","_law_w","_law_near"] spDrawn):FnOk P w K mg base CX0 4 f fd ["_law_cells","_law_w","_law_near"] (spStraight K):=by
 have sc:FnScope ["_law_cells","_law_w","_law_near","_law_straight_here","_law_put","_law_k","_law_cell","_law_seed","_law_free","_law_row"] ["_law_cells","_law_w","_law_near"] (jm zu):=fQ;refine F.okZ sc (fun ax A outer s H vs Q E hr h=>?_);have hu:(A.deeper (cA "_law_straight" (jm zu) s.heap.objs.size f ax)).units+1 < cLine:=by have:=hr.units;omega
 obtain⟨cs,ns,bM,a,ws,rfl,fY,Dg,hw,hn,q⟩:=h;refine⟨_,(jd (jy (i:=3) sc.nd rfl oQ (jG jb))
   (jd (jy (i:=4) sc.nd rfl oQ k9)
   (jd (ky df rfl (Yj (by rfl) iL (ja (zpv 0) jb)) (kH rfl (jz (ju (i:=5) sc.nd rfl oQ) (jz (ju (i:=6) sc.nd rfl oQ) kr))) (jd (jy (i:=7) sc.nd rfl oQ (jg fb hr (ja (js jZ (zpv 6) je) (ja (zpv 5) jb))))
   (ji (jN (jD ku (js jZ (js j5 (zpv 7) je) je) je (jI _)) (jd (yR (i:=8) sc.nd rfl oQ ["_law_r"] [4] rfl (qZ (sc:=jm zu) (N:=["_law_cells","_law_w","_law_near","_law_straight_here","_law_put","_law_k","_law_cell","_law_seed","_law_free","_law_row"]) rfl rfl (by decide +kernel)) (ke (qP ZY (zpv 1) (q0 je) yc)) (fun s H ex=>⟨(ju (i:=0) (show fO (["_law_r","_law_put"]:List Str) by decide +kernel) rfl oQ),(Yh (jfX (jbp hu (zpv 0) (zpv 1)))),(zpv 0)⟩))
   (ji (jA (km cH dG dF j0 (zpv 3) (ja (jQ (ja jq (ja (jg ou hr (ja (jg fb hr (ja (zpv 7) (ja je jb))) (ja (zpv 1) (ja (zpv 2) (ja (zpv 8) jb))))) jb))) jb))))) (jd (jy (i:=9) sc.nd rfl oQ (jg AE hr (ja (jg fb hr (ja (zpv 7) (ja je jb))) (ja (zpv 1) (ja (zpv 2) jb)))))
   (jd (jA (km cH dG dF j0 (zpv 3) (ja (zpv 9) jb)))
   (jd (jN (jD ku (jr jw (zpv 9) je (fun _ _=>rfl)) jq (jI _)) (ji (kC hu (zpv 4) (jr jw (zpv 9) je (fun _ _=>rfl)) yB rfl)) jL)
   (ji (jN (jD ku (jr jw (zpv 9) je (fun _ _=>rfl)) jq (jI _)) (ji (jA ⟨je0 (zpv 4).h (jr jw (zpv 9) je (fun _ _=>rfl)).h yB.h ⟨rfl,rfl,rfl,rfl⟩⟩)) jL)))))))))
   (ji (jC (zpv 3)))))),?_⟩
 refine jH (σ':=[some (.ref cs),some (.ref a),some (.int bM),none,none,none,none,none,none,none]) rfl ?_
 try dsimp only[kx]
 refine YN ?_;intro _ _ _;refine⟨sm rfl,fun l hl=>?_⟩;have s1:=jj hl (.lst []);have e1:upd H l (.lst []) l=some (.lst []):=jf;generalize upd H l (.lst [])=H1 at *;refine fun p hp=>?_
 have s2:=jj hp (.dK []);have e2:upd H1 p (.dK []) p=some (.dK []):=jf;have fZ:=s2 _ _ e1;have wq:l≠p:=jp e1 hp;have pL:H p=none:=s1.free hp;generalize upd H1 p (.dK [])=H2 at *;have cF:=s1.trans s2;refine gQ ?_;refine⟨_,rfl,cs,rfl,⟨_,yW fY cF⟩,?_⟩;let Pv:Nat->L2.St->Hp->Prop:=fun i σ G=>∃u5 u6 u7 u8 u9,σ=[some (.ref cs),some (.ref a),some (.int bM),some (.ref l),some (.ref p),u5,u6,u7,u8,u9]/\SInv H l p i G
 refine YS (xs:=ns.map V.int) Pv ⟨none,none,none,none,none,rfl,cF,[],[],[],fZ,jl,aD _,fun _ z=>(nomatch z),e2,aD _⟩ ?_ ?_ ?_
 .rintro i σ G _ ⟨u5,u6,u7,u8,u9,rfl,sG,_⟩
  exact yW fY sG
 .rintro i y σ G t hy ⟨u5,u6,u7,u8,u9,rfl,sG,R,rs,kvs,oe,hR,iI,iJ,eX,nX⟩ ht
  obtain⟨c,rfl⟩:∃c,y=.int c:=by
   rw[bz]at hy;obtain⟨c,_,e⟩:=Bp.mp hy;exact⟨c,e.symm⟩
  have hi:i < 40:=by
   have:=(bL.mp hy).1;rw[az]at this;omega
  have s3:=jj ht (.tup [.int i,.int c]);have e3:upd G t (.tup [.int i,.int c]) t=some (.tup [.int i,.int c]):=jf;generalize upd G t (.tup [.int i,.int c])=G1 at *;have i6:=sG.trans s3;have mN:=s3 _ _ oe;have xV:=s3 _ _ eX;have q_:=hR.mono s3;refine qN ?_;intro _;refine⟨t,_,rfl,SqT.of e3,rfl,_,_,rfl,_,_,rfl,rfl,?_⟩;refine gQ ?_;refine⟨_,rfl,_,_,rfl,rfl,(by show (0:Int) < _;decide),_,rfl,_,_,rfl,fun sd=>?_⟩;refine gQ ?_;refine⟨_,rfl,_,_,rfl,rfl,⟨by decide,by decide⟩,_,_,rfl,rfl,(by show (0:Int) < _;decide),rfl,_,rfl,yK (fun d=>?_) (fun d=>?_)⟩
  .have fF:=hw.mono i6
   refine⟨_,rfl,_,rfl,a,_,rfl,SqL.of fF.at_,fun p5 h5=>⟨p5,rfl,⟨_,SqL.of jf⟩,fun lf xB=>?_⟩⟩;rw[jjK fF.len]at xB |-;have s5:=jj h5 (.lst ((ws.drop 3).map V.str));have e5:upd G1 p5 (.lst ((ws.drop 3).map V.str)) p5=some (.lst ((ws.drop 3).map V.str)):=jf;generalize upd G1 p5 (.lst ((ws.drop 3).map V.str))=G2 at *;have s6:=jj xB (.lst []);have LV:=s5 _ _ xV;have DJ:(ws.drop 3).length=3:=by rw[oU,fF.len]
   refine Js (xs:=(ws.drop 3).map V.str) (fun j σ' G'=>∃(u:Option V) (fs:List Str),σ'=[u,some (.ref p)]/\Same G2 G'/\G' lf=some (.lst (fs.map V.str))/\fs.length<=j/\∀x∈fs,Wd x) ⟨none,[],rfl,s6,jf,aD _,fun _ z=>(nomatch z)⟩ ?_ ?_ ?_
   .rintro j σ' G' _ ⟨u,fs,rfl,aQ,_⟩
    exact SqL.of (aQ _ _ e5)
   .rintro j x σ' G' hx ⟨u,fs,rfl,aQ,D4,nZ,tL⟩
    have hj:j < 3:=by
     have:=(bL.mp hx).1;rw[az,DJ]at this;exact this
    obtain⟨z,rfl,hz⟩:∃z,x=.str z/\Wd z:=by
     rw[bz]at hx;obtain⟨z,hz,e⟩:=Bp.mp hx;exact⟨z,e.symm,hw.ok z (PX (lV hz))⟩
    unfold qq;refine⟨_,rfl,_,rfl,p,_,rfl,.k (k:=.inr z) (aQ _ _ LV),_,rfl,?_⟩;refine yK (fun c=>?_) (fun c=>?_)
    .refine⟨_,rfl,_,D4,jJ (by rw[az];omega),_,fs++[z],rfl,fun b o e=>?_,?_,by rw[bV];exact gO nZ,fun y hy=>?_⟩
     .rw[jB (jp e xB)]
      exact aQ _ _ e
     .rw[jf,aX]
      rfl
     .rcases bK.mp hy with hy | hy
      .exact tL y hy
      .cases aN.mp hy
       exact hz
    .exact⟨_,fs,rfl,aQ,D4,rR nZ,tL⟩
   rintro σ' G3 ⟨u,fs,rfl,GS,LX,nZ,tL⟩;have nZ:fs.length<=6:=by rw[az,DJ]at nZ;omega
   refine gQ ?_;have cP:=s5.trans GS;have xW:=cP _ _ mN;refine⟨_,rfl,.inl ⟨rfl,_,SqL.of xW⟩,?_⟩;refine⟨_,rfl,sd,1,rfl,fun v8=>?_⟩;refine⟨_,rfl,_,rfl,_,rfl,v8,bM,a,lf,ws,fs,rfl,(fF.mono cP),hn,⟨LX,nZ,tL⟩,fun k v G4 s4 gk hv=>⟨sm rfl,fun t2 iC=>?_⟩⟩;have s7:=jj iC (.tup [V.str "know",v]);have e7:upd G4 t2 (.tup [V.str "know",v]) t2=some (.tup [V.str "know",v]):=jf;generalize upd G4 t2 (.tup [V.str "know",v])=G5 at *;have gF:=cP.trans (s4.trans s7);have sA:=i6.trans gF;refine⟨l,rs,_,rfl,rfl,gF _ _ mN,jJ (by rw[<- hR.length,az];omega),?_⟩;exact⟨_,_,_,_,_,rfl,fun b o e=>jk (jp e hl) (sA _ _ e),R++[.know k],_,kvs,jf,by
    rw[aX];exact jbZ (jT (q_.mono gF) (jc (jK e7 (jc jF (jc (hv.mono s7) jl))) jl)) (gF _ _ mN),by rw[bV];exact gO iI,fun r hr=>(bK.mp hr).elim (iJ r) fun z=>by cases aN.mp z;exact gk,jk wq.symm (gF _ _ xV),rR nX⟩
  .have fF:=hw.mono i6
   refine⟨_,rfl,sd,2,rfl,fun v8=>⟨_,rfl,_,rfl,v8,bM,a,ws,rfl,fF,hn,fun r v G4 s4 gr nk hv=>?_⟩⟩;refine gQ ?_;have mM:=s4 _ _ mN;have LU:=s4 _ _ xV;have sA:=i6.trans s4;refine⟨_,rfl,.inl ⟨rfl,_,SqL.of mM⟩,_,rfl,l,rs,_,rfl,rfl,mM,jJ (by rw[<- hR.length,az];omega),?_⟩;have s5:Same H (upd G4 l (.lst (rs++[v]))):=fun b o e=>jk (jp e hl) (sA _ _ e)
   have k5:TK G4 (upd G4 l (.lst (rs++[v]))):=fun b zs eb=>jk (jv eb mM (by intro z;cases z)) eb
   have Dv:upd G4 l (.lst (rs++[v])) l=some (.lst (rs++[v])):=jf;have nU:upd G4 l (.lst (rs++[v])) p=some (.dK kvs):=jk wq.symm LU;have LQ:=jT (k5.heldL (q_.mono s4)) (jc (k5.held hv) jl);have sU:=k5.held hv;generalize upd G4 l (.lst (rs++[v]))=G5 at *;have DX:HeldL G5 ((R++[r]).map Rw.toD) (rs++[v]):=by rw[aX];exact LQ
   have DU:(R++[r]).length<=i+1:=by rw[bV];exact gO iI
   have DV:∀q∈R++[r],RwG q:=fun q hq=>(bK.mp hq).elim (iJ q) fun z=>by cases aN.mp z;exact gr
   have wm:∀u9,Pv (i+1) [some (.ref cs),some (.ref a),some (.int bM),some (.ref l),some (.ref p),some (.int i),some (.int c),some (.int sd),u8,u9] G5:=fun u9=>⟨_,_,_,_,_,rfl,s5,_,_,kvs,Dv,DX,DU,DV,nU,rR nX⟩
   have Ca:∀u9 fj,fj.length<=i+1->Pv (i+1) [some (.ref cs),some (.ref a),some (.int bM),some (.ref l),some (.ref p),some (.int i),some (.int c),some (.int sd),u8,u9] (upd G5 p (.dK fj)):=fun u9 fj xG=>⟨_,_,_,_,_,rfl,fun b o e=>jk (jp e pL) (s5 _ _ e),_,_,fj,jk wq Dv,TK.heldL (fun b zs eb=>jk (jv eb nU (by intro z;cases z)) eb) DX,DU,DV,jf,xG⟩
   clear_value Pv;rcases r with⟨x,tm,k'⟩ | ⟨r,x,d,tm,k'⟩ | ⟨x⟩ | ⟨r⟩ | ⟨C⟩
   .obtain⟨b,y0,y1,y2,y3,rfl,hb,h0,h1,h2,h3⟩:=zJ sU
    cases jx h0
    refine⟨_,rfl,b,_,_,_,rfl,rfl,SqT.of hb,jh (j:=0) rfl,rfl,_,rfl,kA ?_⟩;exact⟨_,rfl,b,_,_,_,rfl,rfl,SqT.of hb,jh (j:=0) rfl,rfl,_,rfl,kA (wm _)⟩
   .obtain⟨b,y0,y1,y2,y3,y4,rfl,hb,h0,h1,h2,h3,h4⟩:=Kk sU
    cases jx h0
    cases jx h1
    refine⟨_,rfl,b,_,_,_,rfl,rfl,SqT.of hb,jh (j:=0) rfl,rfl,_,rfl,kR ?_⟩;refine⟨_,rfl,_,rfl,b,_,_,_,rfl,rfl,SqT.of hb,jh (j:=1) rfl,p,_,rfl,.k (k:=.inr r) nU (jJ (by omega)),?_⟩;have mK:upd G5 p (.dK (j4 kvs (.inr r) (.bl true))) b=_:=jk (jv hb nU (by intro z;cases z)) hb;exact⟨_,rfl,b,_,_,_,rfl,rfl,SqT.of mK,jh (j:=0) rfl,rfl,_,rfl,kA (Ca _ _ (aJ (kP _ _ _) (gO nX)))⟩
   .obtain⟨b,y0,y1,rfl,hb,h0,h1⟩:=qI sU
    cases jx h0
    refine⟨_,rfl,b,_,_,_,rfl,rfl,SqT.of hb,jh (j:=0) rfl,rfl,_,rfl,kA ?_⟩;exact⟨_,rfl,b,_,_,_,rfl,rfl,SqT.of hb,jh (j:=0) rfl,rfl,_,rfl,kA (wm _)⟩
   .obtain⟨b,y0,y1,rfl,hb,h0,h1⟩:=qI sU
    cases jx h0
    cases jx h1
    refine⟨_,rfl,b,_,_,_,rfl,rfl,SqT.of hb,jh (j:=0) rfl,rfl,_,rfl,kA ?_⟩;refine⟨_,rfl,b,_,_,_,rfl,rfl,SqT.of hb,jh (j:=0) rfl,rfl,_,rfl,kR ?_⟩;exact⟨_,rfl,p,rfl,.inl ⟨_,.inl nU⟩,_,rfl,b,_,_,_,rfl,rfl,SqT.of hb,jh (j:=1) rfl,kvs,.inr r,nU,rfl,fun v e=>Ca _ _ (rR (aJ (i0 _ _) nX)),fun e=>wm _⟩
   .exact absurd rfl (nk C)
 .rintro σ G ⟨u5,u6,u7,u8,u9,rfl,sG,R,rs,kvs,oe,hR,iI,iJ,_⟩
  rw[az]at iI;exact⟨_,rfl,q l R rs G sG hl oe hR (by omega) iJ⟩
end
end LW
namespace L2
open PySem PySem.Spec PyProof.Rows
variable {X:Cx}{tg:aj}
theorem jc2{l:aj}{tl:TE}{K:aw}(h1:QE X l tl)(h:X.K=K:=by rfl):QI X tg l (Zz K tl):=by subst h;exact ke h1
variable {bv:aj}{ifs:List aj}{scope:cM}{pos:Pos}
section
variable {prog:aE}{w:aB}{A:aS}{s:ai}{t1 i1 t2 i2:aj}{it aR:ag}{env:Env}{R:rM->ai->Prop}
theorem Y4:uZ (.ListComp bv [⟨t1,i1,[],0⟩,⟨t2,i2,ifs,0⟩] scope pos) 0 it aR env=(do
   lK i1.pos
   match <- ik it with
   | none=>pure (.done .next)
   | some v=>
    mW t1 it v
    assign t1 env v
    let mut ok:=true
    for c in ([]:List aj) do
     if ok then ok <- isTrue c env (eval c env)
    if ok then
     let x <- eval i2 env
     lK i2.pos
     let x <- fI i2 env x
     let _ <- runOwn (.compStart (.ListComp bv [⟨t1,i1,[],0⟩,⟨t2,i2,ifs,0⟩] scope pos) 1 (<- holding [x] (oG x)) aR env) env
    again (.compLoop (.ListComp bv [⟨t1,i1,[],0⟩,⟨t2,i2,ifs,0⟩] scope pos) 0 it aR env)):=by rfl
theorem Y3:uZ (.ListComp bv [⟨t1,i1,[],0⟩,⟨t2,i2,ifs,0⟩] scope pos) 1 it aR env=(do
   lK i2.pos
   match <- ik it with
   | none=>pure (.done .next)
   | some v=>
    mW t2 it v
    assign t2 env v
    let mut ok:=true
    for c in ifs do
     if ok then ok <- isTrue c env (eval c env)
    if ok then
     (do let _ <- call (.builtin "list.append") [aR,<- eval bv env])
    again (.compLoop (.ListComp bv [⟨t1,i1,[],0⟩,⟨t2,i2,ifs,0⟩] scope pos) 1 it aR env)):=by rfl
theorem Y5(I:Nat->ai->Prop)
  (turn:∀n s,I n s->au (ao prog w) A (ik it) (fun r s1=>match r with
   | none=>R (.ok .next) s1
   | some v=>au (ao prog w) A (mW t2 it v) (fun _ i8=>au (ao prog w) A (assign t2 env v) (fun _ s2=>
     au (ao prog w) A (forIn ifs true fun c r=>if r=true then do let ok <- isTrue c env (eval c env);pure (ForInStep.yield ok) else pure (ForInStep.yield r)) (fun ok s3=>
      if ok=true then au (ao prog w) A (eval bv env) (fun x s4=>
       au (ao prog w) A (call (.builtin "list.append") [aR,x]) (fun _ s5=>∃m,m < n/\I m s5) (fun _ _=>False) s4) (fun _ _=>False) s3
      else ∃m,m < n/\I m s3) (fun _ _=>False) s2) (fun _ _=>False) i8) (fun _ _=>False) s1) (fun _ _=>False) s)
  (n:Nat) (h:I n s):dP (ao prog w) A (.compLoop (.ListComp bv [⟨t1,i1,[],0⟩,⟨t2,i2,ifs,0⟩] scope pos) 1 it aR env) R s:=by
 have no:∀(x:ag) (s':ai),False->AV (ao prog w) A env (fun e s'=>R (.error e) s') x s':=fun _ _ z=>z.elim
 refine EV rfl I (fun n s hI=>?_) n h
 show au _ A ((uZ (.ListComp bv [⟨t1,i1,[],0⟩,⟨t2,i2,ifs,0⟩] scope pos) 1 it aR env).onRaise (fun x=>do AW x env;ES x)) _ _ s
 refine EG ?_
 rw[Y3]
 refine aq (mU (aq (cI (turn n s hI) (fun r s1 h1=>?_) no)))
 cases r with
 | none=>exact aH h1
 | some v=>
  refine aq (cI h1 (fun _ i8 cv=>?_) no)
  refine aq (cI cv (fun _ s2 h2=>aq (cI h2 (fun ok s3 h3=>?_) no)) no)
  cases ok with
  | false=>exact aH ⟨rfl,h3⟩
  | true=>
   exact aq (aq (cI h3 (fun x s4 h4=>aq (cI h4 (fun _ s5 h5=>aH (aH ⟨rfl,h5⟩)) no)) no))
theorem YV 
  (h0:dP (ao prog w) A (.compLoop (.ListComp bv [⟨t1,i1,[],0⟩,⟨t2,i2,ifs,0⟩] scope pos) 1 it aR env) R s)
  (h:au (ao prog w) A (oG it) (fun wU s'=>dP (ao prog w) A (.compLoop (.ListComp bv [⟨t1,i1,[],0⟩,⟨t2,i2,ifs,0⟩] scope pos) 1 wU aR env) R s')
   (AV (ao prog w) A env fun x s'=>R (.error x) s') s) :
  dP (ao prog w) A (.compStart (.ListComp bv [⟨t1,i1,[],0⟩,⟨t2,i2,ifs,0⟩] scope pos) 1 it aR env) R s:=by
 refine codeAny_of_tree ?_
 show au _ _ ((compStart (.ListComp bv [⟨t1,i1,[],0⟩,⟨t2,i2,ifs,0⟩] scope pos) 1 it aR env).onRaise (fun x=>do AW x env;lK theWindowsPlace)) _ _ s
 refine wpAny_notedAt ?_
 unfold compStart
 show au _ _ (ask >>= _) _ _ s
 refine aq (wpAny_askSetting (wpAny_ite ?_))
 split
 .first
   | exact aq (aH (aH (And.intro rfl h0)))
   | exact aH (And.intro rfl h0)
 .first
   | exact aq (lI (aq (mU (aq (cI h (fun wU s' h'=>aH (And.intro rfl h')) fun _ _ x=>x)))))
   | (refine aq (lI ?_);show au _ _ (lK i2.pos >>= _) _ _ s;exact aq (mU (aq (cI h (fun wU s' h'=>aH (And.intro rfl h')) fun _ _ x=>x))))
theorem Y6(gH:∀x,fI i2 env x=pure x)(I:Nat->ai->Prop)
  (turn:∀n s,I n s->au (ao prog w) A (ik it) (fun r s1=>match r with
   | none=>R (.ok .next) s1
   | some v=>au (ao prog w) A (mW t1 it v) (fun _ i8=>au (ao prog w) A (assign t1 env v) (fun _ s2=>
     au (ao prog w) A (eval i2 env) (fun x s3=>au (ao prog w) A (oG x) (fun sL s4=>
      dP (ao prog w) A (.compStart (.ListComp bv [⟨t1,i1,[],0⟩,⟨t2,i2,ifs,0⟩] scope pos) 1 sL aR env) (fun r s5=>match r with | .ok f=>∃m,m < n/\I m s5 | .error _=>False) s4) (fun _ _=>False) s3) (fun _ _=>False) s2) (fun _ _=>False) i8) (fun _ _=>False) s1) (fun _ _=>False) s)
  (n:Nat) (h:I n s):dP (ao prog w) A (.compLoop (.ListComp bv [⟨t1,i1,[],0⟩,⟨t2,i2,ifs,0⟩] scope pos) 0 it aR env) R s:=by
 have no:∀(x:ag) (s':ai),False->AV (ao prog w) A env (fun e s'=>R (.error e) s') x s':=fun _ _ z=>z.elim
 refine EV rfl I (fun n s hI=>?_) n h
 show au _ A ((uZ (.ListComp bv [⟨t1,i1,[],0⟩,⟨t2,i2,ifs,0⟩] scope pos) 0 it aR env).onRaise (fun x=>do AW x env;ES x)) _ _ s
 refine EG ?_
 rw[Y4]
 refine aq (mU (aq (cI (turn n s hI) (fun r s1 h1=>?_) no)))
 cases r with
 | none=>exact aH h1
 | some v=>
  refine aq (cI h1 (fun _ i8 cv=>?_) no)
  refine aq (cI cv (fun _ s2 h2=>aq (cI (wpAny_tests_nil (Q:=fun ok s3=>ok=true/\s3=s2) ⟨rfl,rfl⟩) (fun ok s3 h3=>?_) fun _ _ h'=>h')) no)
  obtain⟨rfl,rfl⟩:=h3
  rw[Qx rfl]
  refine aq (cI h2 (fun x s4 h4=>aq (mU (aq (wpAny_of_eq (gH x) (aq (oC (cI h4 (fun sL s5 h5=>?_) no))))))) no)
  refine aq (wpAny_runOwn (u0 h5 fun r s6 h6=>?_))
  cases r with
  | ok f=>exact aH ⟨rfl,h6⟩
  | error e=>exact h6.elim
end
def jj4(J:It)(p:ad)(g:TG)(tt:TT)(te:TE)(F:St->Hp->Prop)(σ:St)(H:Hp):Prop:=∃W:Nat->Nat->St->Hp->Prop,(∃m,W 0 m σ H)/\
 ∀i m σ' H',W i m σ' H'->(J.stop i H'/\F σ' H')\/(J.go i H'/\∃N:St->Hp->Prop,(∀σ3 H3,N σ3 H3->∃m',m' < m/\W (i+1) m' σ3 H3)/\∀x H2,J.yld i H' x H2->g x σ' H2 fun σ3 H3=>tt σ3 H3 fun c H4=>
  if c=true then te σ3 H4 fun y H5=>∃ys,H5 p=some (.lst ys)/\ys.length < aI/\N σ3 (upd H5 p (.lst (ys++[y]))) else N σ3 H4)
def jcZ(J:It)(p:ad)(g:TG)(iu:TI)(g2:TG)(tt:TT)(te:TE)(Q:VK)(σ:St)(H:Hp):Prop:=∃W:Nat->Nat->St->Hp->Prop,(∃m,W 0 m σ H)/\
 ∀i m σ' H',W i m σ' H'->(J.stop i H'/\Q (.ref p) H')\/(J.go i H'/\∃N:St->Hp->Prop,(∀σ3 H3,N σ3 H3->∃m',m' < m/\W (i+1) m' σ3 H3)/\∀x H2,J.yld i H' x H2->g x σ' H2 fun σ3 H3=>iu σ3 H3 fun J2 H4=>jj4 J2 p g2 tt te N σ3 H4)
def jet(own:List Str)(fr:List Nat)(wi:TI)(g:TG)(iu:TI)(g2:TG)(tt:TT)(te:TE):TE:=fun σ H Q=>wi σ H fun J H1=>∀p,H1 p=none->jcZ J p g iu g2 tt te Q (jdV own fr σ) (upd H1 p (.lst []))
variable {g g2:TG}{tt:TT}{te:TE}
theorem jfL{own:List Str}{fr:List Nat}{iter gS g9:aj}{wi iu:TI}{use:Option (ag->Sem Unit)}(hc:X.calm=true)(O:CompOk X scope fr)(hi:PI X tg iter wi)
  (hb:∀s H ex,PG (blk X scope own fr s H ex) tg g/\PI (blk X scope own fr s H ex) gS g9 iu/\PG (blk X scope own fr s H ex) gS g2/\PTs (blk X scope own fr s H ex) ifs tt/\PE (blk X scope own fr s H ex) bv te)
  (hs:∀x,fI iter X.env x=pure x) (gH:∀env x,fI g9 env x=pure x) {ae:List (ad×Obj)} {s:ai} {σ:St} {H:Hp} {Q:VK} {R:ag->ai->Prop} (I:Inv X ae σ H s) (h:jet own fr wi g iu g2 tt te σ H Q) (hx:∀e s',X.xe e s'↔False)
  (fin:∀(p C:ad) (H':Hp) (s':ai) (m:Str->Option ag),s'.heap.Ns C m->H' C=none->C≠X.env.locals->(∀x c,X.env.cells.lookup x=some c->c≠C)->Inv X ae σ H' s'->(∀h',lP C s'.heap h'->Inv X ae σ H' { s' with heap:=h' })->Q (.ref p) H'->
   rJ (ao X.prog X.w) X.A X.xe use R (.ref p) C (.ok .next) s') :
  au (ao X.prog X.w) X.A (comprehension (.ListComp bv [⟨tg,iter,[],0⟩,⟨gS,g9,ifs,0⟩] scope pos) scope X.env (EU [⟨tg,iter,[],0⟩,⟨gS,g9,ifs,0⟩] pos) (uY []) false (eval iter X.env) use) R X.xe s:=by
 have mt:∀x∈scope.names,x.2=.free->(X.env.cells.lookup x.1).isSome=true:=fun x cp e=>by
  obtain⟨c,hc⟩:=I.ok.has x.1 (O.frees x cp e);rw[hc];rfl
 have no:∀(E:ag->ai->Prop) (x:ag) (s':ai),X.xe x s'->E x s':=fun E x s' z=>((hx x s').mp z).elim
 refine EM (cl:=yQ X.env.cells scope.names []) rfl hs (JJ mt) O.kind O.loc ?_
 refine thn (hi ae s σ H _ I h) fun v s1 h1=>thn h1 fun pA s2 h2=>?_
 obtain⟨it,fp,tn,J,H2,e,I2,T,cE,f2,q2⟩:=h2
 subst e
 refine gL ?_
 have nw:H2 s2.heap.objs.size=none:=I2.fresh
 obtain⟨W,⟨m0,w0⟩,turn⟩:=q2 _ nw
 generalize hp:s2.heap.objs.size=p at *
 have I3:Inv X ae σ (upd H2 p (.lst [])) { s2 with heap:=s2.heap.push { cls:=.type "list",dict:=none,data:=.seq ([]:List ag).toArray } }:=by
  have:=I2.lnew (ys:=[]) (its:=[]) (t':=s2.toks) .nil (bT _);rw[hp]at this;exact this
 have j_:∀b∈fp,b < s2.heap.objs.size:=fun b hb=>by
  obtain⟨o,ho,_⟩:=T.obj _ _ cE b hb;exact bH ho
 have lD:∀b∈fp,(upd H2 p (.lst [])) b=none:=fun b hb=>by
  rw[jB (by rw[<- hp];exact cb (j_ b hb))];exact (f2 b hb).1
 generalize hJ:({ s2 with heap:=s2.heap.push { cls:=.type "list",dict:=none,data:=.seq ([]:List ag).toArray } }:ai)=s3 at *
 have oY:s3.heap.objs.size=p+1:=by
  rw[<- hJ];show (s2.heap.push _).objs.size=_;rw[vh,hp]
 have gT:tn 0 s3.heap:=T.keep 0 _ _ cE fun b hb o e=>by
  rw[<- hJ];exact b_ _ e
 refine EH O.nocell (by intro y hy;simp at hy) (fun h4 ly pJ=>?_) O.kind
 have k4:∀b o,s3.heap.get? b=some o->h4.get? b=some o:=fun b o e=>pJ.extBut b o (cb (bH e)) (b_ _ e)
 have pO:h4.Ns s3.heap.objs.size fun _=>none:=by
  have z:(fun x:Str=>([]:List (Str×ag)).reverse.lookup x)=fun _=>none:=by funext x;rfl
  rw[z]at ly;exact ly
 have fo:∀b∈fp,JK X ae (upd H2 p (.lst [])) b/\b < s3.heap.objs.size:=fun b hb=>⟨⟨lD b hb,(f2 b hb).2⟩,by rw[oY,<- hp];exact rP (j_ b hb)⟩
 have I4:=jaj (own:=own) (fr:=fr) (t1:=s3.toks+([]:List (Str×ag)).length) I3 O fo pO k4
 have aW:tn 0 h4:=T.keep 0 _ _ gT fun b hb o e=>k4 b o e
 obtain⟨hg,Lf,Lg,ht,he⟩:=hb s3 (upd H2 p (.lst [])) fp
 have eM:∀{H':Hp} {pn:List (ad×Obj)} {s':ai} {σ':St},Inv (blk X scope own fr s3 (upd H2 p (.lst [])) fp) [] σ' H' s'->(∀b∈fp,H' b=none)->∀b∈fp,JK (blk X scope own fr s3 (upd H2 p (.lst [])) fp) [] H' b:=fun {H' pn s' σ'} J hn b bg=>
  ⟨hn b bg,(J.ok.exf b bg).1,J.ok.exfs b bg,.inl bg,(J.ok.exf b bg).2,fun p hp=>absurd hp (by simp[blk])⟩
 have pe:∀x c,X.env.cells.lookup x=some c->c≠s3.heap.objs.size:=fun x c e=>by
  obtain⟨v,q⟩:=I3.cell x c e;exact cb q.lt
 have k_:∀s5:ai,s5={ s3 with heap:=h4,toks:=s3.toks+([]:List (Str×ag)).length }->
   dP (ao X.prog X.w) X.A (.compLoop (.ListComp bv [⟨tg,iter,[],0⟩,⟨gS,g9,ifs,0⟩] scope pos) 0 (.ref it) (.ref p) (blk X scope own fr s3 (upd H2 p (.lst [])) fp).env) (rJ (ao X.prog X.w) X.A X.xe use R (.ref p) s3.heap.objs.size) s5:=by
  rintro s5 rfl
  refine Y6 (fun x=>gH _ x) (fun n s'=>∃i σ' H',Inv (blk X scope own fr s3 (upd H2 p (.lst [])) fp) [] σ' H' s'/\tn i s'.heap/\(∀b∈fp,H' b=none)/\W i n σ' H') ?_ m0 ⟨0,_,_,I4,aW,lD,w0⟩
  rintro n s6 ⟨i,σ6,H6,I6,i5,lC,w6⟩
  rcases turn i n σ6 H6 w6 with⟨stop,qn⟩ | ⟨go,N,hN,step⟩
  .refine thn (T.done (blk X scope own fr s3 (upd H2 p (.lst [])) fp) rfl rfl rfl hc i [] s6 σ6 H6 _ I6 (eM (pn:=[]) I6 lC) i5 stop) fun r s7 ⟨hr,I7⟩=>?_
   subst hr
   obtain⟨m,hm,_⟩:=I7.loc
   exact fin p _ H6 s7 m hm I7.free (lS I3.lt) pe (yy I3 fo I7 (Fl ..)) (fun h' ed=>yy I3 fo I7 ed) qn
  .refine thn (T.item (blk X scope own fr s3 (upd H2 p (.lst [])) fp) rfl rfl rfl hc i [] s6 σ6 H6 _ I6 (eM (pn:=[]) I6 lC) i5 go) fun r s7 ⟨u,hr,h7⟩=>?_
   subst hr
   refine thn h7 fun _ s8 hM=>?_
   obtain⟨x,H8,I8,r8,y8,gD,rg⟩:=hM
   have rq:=I8.pinned (eM (pn:=[]) I8 rg) (T.obj _ _ gD)
   refine thn (hg _ s8 σ6 H8 x u _ rq r8 (step x H8 y8)) fun _ s9 hM=>?_
   obtain⟨σ9,H9,I9,q9⟩:=hM
   have again:∀{σ11:St} {cG:Hp} {bI:ai},Inv (blk X scope own fr s3 (upd H2 p (.lst [])) fp) ([]++zm fp s8.heap) σ11 cG bI->(∃m',m' < n/\W (i+1) m' σ11 cG)->
     ∃m,m < n/\∃i σ' H',Inv (blk X scope own fr s3 (upd H2 p (.lst [])) fp) [] σ' H' bI/\tn i bI.heap/\(∀b∈fp,H' b=none)/\W i m σ' H':=fun {σ11 cG bI} cz ⟨m',hm,lY⟩=>by
    refine⟨m',hm,i+1,σ11,cG,cz.unpinned,T.keep _ _ _ gD fun b bg o e=>(cz.pin (b,o) (cN _ (cN _ (kQ bg e)))).1,fun b bg=>?_,lY⟩
    obtain⟨o,e,d⟩:=T.obj _ _ gD b bg
    exact (cz.pin (b,o) (cN _ (cN _ (kQ bg e)))).2.1
   generalize ([]++zm fp s8.heap)=pinsO at *
   refine thn (Lf _ s9 σ9 H9 _ I9 q9) fun v2 dm mP=>thn mP fun itv2 sA hA=>?_
   obtain⟨sL,og,BH,J2,HA,e2,IA,T2,BO,fA,WA,⟨mA,wA⟩,GD⟩:=hA
   subst e2
   have vR:∀{H':Hp},(∀b∈og,H' b=none)->∀b∈og,JK (blk X scope own fr s3 (upd H2 p (.lst [])) fp) pinsO H' b:=fun hn b hb=>⟨hn b hb,(fA b hb).2⟩
   have Ck:dP (ao X.prog X.w) X.A (.compLoop (.ListComp bv [⟨tg,iter,[],0⟩,⟨gS,g9,ifs,0⟩] scope pos) 1 (.ref sL) (.ref p) (blk X scope own fr s3 (upd H2 p (.lst [])) fp).env) (fun r s5=>match r with
     | .ok f=>∃m,m < n/\∃i σ' H',Inv (blk X scope own fr s3 (upd H2 p (.lst [])) fp) [] σ' H' s5/\tn i s5.heap/\(∀b∈fp,H' b=none)/\W i m σ' H'
     | .error _=>False) sA:=by
    refine Y5 (fun n2 s'=>∃j σ' H',Inv (blk X scope own fr s3 (upd H2 p (.lst [])) fp) pinsO σ' H' s'/\BH j s'.heap/\(∀b∈og,H' b=none)/\WA j n2 σ' H') ?_ mA ⟨0,_,_,IA,BO,fun b hb=>(fA b hb).1,wA⟩
    rintro n2 sB ⟨j,σB,HB,IB,BN,Ee,wB⟩
    rcases GD j n2 σB HB wB with⟨stop,qn⟩ | ⟨rf,N2,tP,step2⟩
    .refine thn (T2.done (blk X scope own fr s3 (upd H2 p (.lst [])) fp) rfl rfl rfl hc j pinsO sB σB HB _ IB (vR Ee) BN stop) fun r s7 ⟨hr,I7⟩=>?_
     subst hr
     exact again I7 (hN _ _ qn)
    .refine thn (T2.item (blk X scope own fr s3 (upd H2 p (.lst [])) fp) rfl rfl rfl hc j pinsO sB σB HB _ IB (vR Ee) BN rf) fun r s7 ⟨u2,hr,h7⟩=>?_
     subst hr
     refine thn h7 fun _ sC hM=>?_
     obtain⟨x2,HC,IC,rC,yC,stC,Ml⟩:=hM
     have MT:=IC.pinned (vR Ml) (T2.obj _ _ stC)
     refine thn (Lg _ sC σB HC x2 u2 _ MT rC (step2 x2 HC yC)) fun _ sD hM=>?_
     obtain⟨σD,HD,ID,qD⟩:=hM
     refine thn (ht _ sD σD HD _ ID qD) fun ok sE hM=>?_
     obtain⟨HE,IE,qE⟩:=hM
     have Ey:∀{cG:Hp} {bI:ai},Inv (blk X scope own fr s3 (upd H2 p (.lst [])) fp) (pinsO++zm og sC.heap) σD cG bI->(∃m',m' < n2/\WA (j+1) m' σD cG)->
       ∃m,m < n2/\∃i σ' H',Inv (blk X scope own fr s3 (upd H2 p (.lst [])) fp) pinsO σ' H' bI/\BH i bI.heap/\(∀b∈og,H' b=none)/\WA i m σ' H':=fun {cG bI} cz ⟨m',hm,lY⟩=>by
      refine⟨m',hm,j+1,σD,cG,cz.unpinned,T2.keep _ _ _ stC fun b bg o e=>(cz.pin (b,o) (cN _ (cN _ (kQ bg e)))).1,fun b bg=>?_,lY⟩
      obtain⟨o,e,d⟩:=T2.obj _ _ stC b bg
      exact (cz.pin (b,o) (cN _ (cN _ (kQ bg e)))).2.1
     cases ok with
     | false=>
      rw[Qw c9]at qE |-
      exact Ey IE (tP _ _ qE)
     | true=>
      rw[Qx rfl]at qE |-
      refine thn (he _ sE σD HE _ IE qE) fun yv sF hM=>?_
      obtain⟨y,HF,IF,rF,ys,cx,bu,qF⟩:=hM
      have ap:=j0 (X:=blk X scope own fr s3 (upd H2 p (.lst [])) fp) (pinsO++zm og sC.heap) sF σD HF (.ref p) [y] (.ref p) [yv] (fun _ iM=>∃m',m' < n2/\WA (j+1) m' σD iM) IF rfl (.cons rF .nil) ⟨p,ys,y,rfl,rfl,cx,bu,tP _ _ qF⟩
      exact thn ap fun _ sG ⟨_,HG,IG,_,qG⟩=>Ey IG qG
   exact YV Ck (T2.self X.A 0 _ _ _ BO Ck)
 refine EW (k_ _ rfl) (T.self X.A 0 _ _ _ aW (k_ _ rfl))
theorem jc5{iter gS g9:aj}{pos:Pos}{wi iu:TI}(own:List Str)(fr:List Nat)(hc:X.calm=true)(O:CompOk X scope fr)(hi:QI X.nox tg iter wi)
  (hb:∀s H ex,QG (blk X.nox scope own fr s H ex) tg g/\QI (blk X.nox scope own fr s H ex) gS g9 iu/\QG (blk X.nox scope own fr s H ex) gS g2/\QTs (blk X.nox scope own fr s H ex) ifs tt/\QE (blk X.nox scope own fr s H ex) bv te)
  (hs:∀x,fI iter X.env x=pure x:=by intro _;rfl) (gH:∀env x,fI g9 env x=pure x:=by intro _ _;rfl):QE X.nox (.ListComp bv [⟨tg,iter,[],0⟩,⟨gS,g9,ifs,0⟩] scope pos) (jet own fr wi g iu g2 tt te):=by
 refine⟨?_⟩
 intro ae s σ H Q I h
 rw[eval_ListComp]
 refine jfL (X:=X.nox) (use:=none) (Q:=Q) hc ⟨O.kind,O.nocell,O.loc,O.frees,O.fr⟩ hi.h (fun s H ex=>⟨(hb s H ex).1.h,(hb s H ex).2.1.h,(hb s H ex).2.2.1.h,(hb s H ex).2.2.2.1.h,(hb s H ex).2.2.2.2.h⟩) hs gH I h (fun _ _=>Iff.rfl) fun p C H' s' m hm hC _ _ I' back q=>?_
 exact⟨m,hm,fun h' ed=>⟨.ref p,H',back h' ed,rfl,q⟩⟩
theorem jbj{K:aw}{a b p:ad}{xs ys:List V}{tl:TE}{σ:St}{H:Hp}{Q:VK}(Po:Nat->St->Hp->Prop)(Pi:Nat->Nat->St->Hp->Prop)(h0:Po 0 σ H)(fX:∀i σ' H',Po i σ' H'->SqL K H' a xs)(Dt:∀i j σ' H',Pi i j σ' H'->SqL K H' b ys)
  (IT:∀{x:V} {σ':St} {H':Hp} {R R':St->Hp->Prop},(∀σ3 H3,R σ3 H3->R' σ3 H3)->g x σ' H' R->g x σ' H' R') (IS:∀{σ':St} {H':Hp} {R R':VK},(∀v H3,R v H3->R' v H3)->tl σ' H' R->tl σ' H' R')
  (ho:∀i x σ' H',xs[i]?=some x->Po i σ' H'->g x σ' H' fun σ3 H3=>tl σ3 H3 fun v H4=>v=.ref b/\Pi i 0 σ3 H4)
  (eR:∀i x j y σ' H',xs[i]?=some x->ys[j]?=some y->Pi i j σ' H'->g2 y σ' H' fun σ3 H3=>tt σ3 H3 fun c H4=>if c=true then te σ3 H4 fun z H5=>∃zs,H5 p=some (.lst zs)/\zs.length < aI/\Pi i (j+1) σ3 (upd H5 p (.lst (zs++[z]))) else Pi i (j+1) σ3 H4)
  (hn:∀i σ' H',i < xs.length->Pi i ys.length σ' H'->Po (i+1) σ' H') (hd:∀σ' H',Po xs.length σ' H'->Q (.ref p) H'):jcZ (Itl K a) p g (Zz K tl) g2 tt te Q σ H:=by
 refine⟨fun i m σ H=>m=xs.length - i/\i<=xs.length/\Po i σ H,⟨xs.length,by simp,bT _,h0⟩,?_⟩
 rintro i m σ1 H1 ⟨rfl,hi,pv⟩
 have q:=fX _ _ _ pv
 by_cases aP:i < xs.length
 .refine .inr ⟨⟨xs,xs[i],q,by simp[aP]⟩,Po (i+1),fun σ3 H3 q=>⟨xs.length - (i+1),by omega,rfl,aP,q⟩,fun x H2 y=>?_⟩
  obtain⟨e1,e2⟩:=y
  subst e1
  have hx:xs[i]?=some x:=e2 xs q
  refine IT (fun σ3 H3 h3=>?_) (ho i x σ1 _ hx pv)
  show Zz K tl σ3 H3 _
  unfold Zz
  refine IS (fun v H4 h4=>?_) h3
  obtain⟨rfl,B4⟩:=h4
  have q4:=Dt _ _ _ _ B4
  refine⟨b,rfl,⟨_,q4⟩,?_⟩
  refine⟨fun j m σ H=>m=ys.length - j/\j<=ys.length/\Pi i j σ H,⟨ys.length,by simp,bT _,B4⟩,?_⟩
  rintro j m σ5 H5 ⟨rfl,hj,we⟩
  have q5:=Dt _ _ _ _ we
  by_cases hlt2:j < ys.length
  .refine .inr ⟨⟨ys,ys[j],q5,by simp[hlt2]⟩,Pi i (j+1),fun σ3 H3 q=>⟨ys.length - (j+1),by omega,rfl,hlt2,q⟩,fun y H6 y6=>?_⟩
   obtain⟨e3,e4⟩:=y6
   subst e3
   exact eR i x j y σ5 _ hx (e4 ys q5) we
  .have e:j=ys.length:=by omega
   subst e
   exact .inl ⟨⟨ys,q5,aD _⟩,hn i _ _ aP we⟩
 .have e:i=xs.length:=by omega
  subst e
  exact .inl ⟨⟨xs,q,aD _⟩,hd _ _ pv⟩
end L2
namespace LW
open PySem L2
abbrev yk:aF:=top 26
abbrev T3:Type:=Prod D (Prod D Int)
def t3(t:T3):D:=.tup [t.1,t.2.1,.int t.2.2]
def atM(a b:P2):T3:=(a.1,b.1,b.2 - a.2)
def jaz(g:T3):Bool:=decide (g.1=g.2.1) && decide (g.2.2 < 0)
def zV(gs:List T3):List T3:=gs.filter fun g=>decide (g.1≠g.2.1)
def clD(ks:List T3)(t:T3):D:=.tup [.tup (ks.map t3),t3 t]
def kz(gs ts:List T3):List D:=if gs.any jaz then [] else ts.map (clD (zV gs))
def ji4(g:T3):Prop:=∃ds es,g.1=.tup ds/\g.2.1=.tup es/\D.depthL ds<=200
inductive spGuarded(vs:List V)(H:Hp)(Q:VK)(E:XK):Prop
 | mk (g t:ad) (gs ts:List T3) (xs ys:List V) (_:vs=[.ref g,.ref t]) (_:H g=some (.lst xs)) (_:HeldL H (gs.map t3) xs) (_:H t=some (.lst ys)) (_:HeldL H (ts.map t3) ys) (_:(∀q∈gs,ji4 q)) (_:gs.length<=1000) (_:ts.length<=1000) (_:∀(l:ad) (zs:List V) (H':Hp),Same H H'->H l=none->H' l=some (.lst zs)->HeldL H' (kz gs ts) zs->Q (.ref l) H')
theorem jbo{α:Type}{p:α->Bool}{xs:List α}{i:Nat}(hi:i < xs.length):(xs.take (i+1)).any p=((xs.take i).any p || p xs[i]):=by
 rw[eI,aK hi,List.any_append];simp
theorem Zw{gs:List T3}{i:Nat}(hi:i < gs.length):zV (gs.take (i+1))=zV (gs.take i)++(if gs[i].1≠gs[i].2.1 then [gs[i]] else []):=by
 unfold zV;rw[eI,aK hi,P9];congr 1;by_cases z:gs[i].1=gs[i].2.1
 .simp[z]
 .simp[z]
theorem Jj{X:Cx}{K:aw}(h:X.K=K:=by rfl):zp X (.type "tuple") (fun xs H Q=>∃p ys,xs=[.ref p]/\((SqL K H p ys/\∀l,H l=none->Q (.ref l) (upd H l (.tup ys)))\/(SqT K H p ys/\Q (.ref p) H))):=by subst h;exact Y7
theorem jev{H:Hp}{t:T3}{v:V}(h:Held H (t3 t) v):∃a x y,v=.ref a/\H a=some (.tup [x,y,.int t.2.2])/\Held H t.1 x/\Held H t.2.1 y:=by
 obtain⟨a,xs,rfl,ha,hx⟩:=jE h;obtain⟨x,r,rfl,h1,h2⟩:=jo hx;obtain⟨y,r,rfl,h3,h4⟩:=jo h2;obtain⟨z,r,rfl,h5,h6⟩:=jo h4
 cases jM h6
 cases kg h5
 exact⟨a,x,y,rfl,ha,h1,h3⟩
section
variable {P:aE}{w:aB}{K:aw}{mg:Str->Option ag}{base:ar}
theorem jbN{f:ad}{fd:aL}(F:Fun K "guarded" "guarded" yk f fd)(B:Free0 mg):FnOk P w K mg base CX0 14 f fd ["guards","ties"] spGuarded:=by
 have sc:FnScope ["guards","ties","kept","guard"] ["guards","ties"] (jm yk):=fQ;refine F.okZ sc (fun ax A outer s H vs Q E hr h=>?_);have dZ:(A.deeper (cA "guarded" (jm yk) s.heap.objs.size f ax)).units+1+200 < cLine:=by have:=hr.un;omega
 obtain⟨g,t,gs,ts,xs,ys,rfl,hg,mG,ht,fV,Lu,Dz,Ig,q⟩:=h;refine⟨_,(jd (jy (i:=2) sc.nd rfl oQ (jG jb))
   (jd (ky df rfl (ke (zpv 0)) (ju (i:=3) sc.nd rfl oQ) (ji (jN (jD (yI 200 dZ) (jr jw (zpv 3) je (fun _ _=>rfl)) (jr jw (zpv 3) je (fun _ _=>rfl)) (jI _)) (ji (jA (km cH dG dF j0 (zpv 2) (ja (zpv 3) jb)))) (ji (jN (jD Zq (jr jw (zpv 3) je (fun _ _=>rfl)) je (jI _)) (ji (jC (jG jb))) jL)))))
   (ji (jC (yd ["tie"] [2] rfl (qZ (sc:=jm yk) (N:=["guards","ties","kept","guard"]) rfl rfl (by decide +kernel)) (ke (zpv 1)) (fun s H ex=>⟨(ju (i:=0) (show fO (["tie","kept"]:List Str) by decide +kernel) rfl oQ),zx,(jQ (ja (yA (Jj (K:=K)) (by rfl) B.tuple_ YX (ja (zpv 1) jb)) (ja (zpv 0) jb)))⟩)))))),?_⟩
 refine jH (σ':=[some (.ref g),some (.ref t),none,none]) rfl ?_
 try dsimp only[kx]
 refine YO ?_;intro _ _;have mF:=mG.length;rw[az]at mF;have mn:=fV.length;rw[az]at mn;refine⟨sm rfl,fun lk lA=>?_⟩;refine gQ ?_;have s1:=jj lA (.lst []);have e1:upd H lk (.lst []) lk=some (.lst []):=jf;generalize upd H lk (.lst [])=H1 at *;refine⟨_,rfl,g,rfl,⟨_,SqL.of (s1 _ _ hg)⟩,?_⟩;let Pv:Nat->L2.St->Hp->Prop:=fun i σ G=>∃u,σ=[some (.ref g),some (.ref t),some (.ref lk),u]/\Same H G/\(gs.take i).any jaz=false/\∃zs,G lk=some (.lst zs)/\HeldL G ((zV (gs.take i)).map t3) zs
 refine kG (xs:=xs) Pv ⟨none,rfl,s1,rfl,[],e1,jl⟩ ?_ ?_ ?_
 .rintro i σ G _ ⟨u,rfl,sG,_⟩
  exact SqL.of (sG _ _ hg)
 .rintro i x σ G hx ⟨u,rfl,sG,hb,zs,hz,cf⟩
  have hi:i < gs.length:=by rw[mF];exact (bL.mp hx).1
  have dY:Held G (t3 gs[i]) x:=(j7 mG (by rw[bz,aK hi];rfl) hx).mono sG;have ca:=Lu _ (cT hi);have ea:=jbo (p:=jaz) hi;have ek:=Zw hi;rw[hb,Gk]at ea;generalize gs[i]=gi at *;obtain⟨a,u1,u2,rfl,ha,h1,h2⟩:=jev dY;obtain⟨⟨d1,d2,c⟩,xK⟩:∃q:T3,q=gi:=⟨_,rfl⟩
  subst xK;obtain⟨ds,es,rfl,rfl,hd⟩:=ca;obtain⟨b1,x1,rfl,k1,k2⟩:=jE h1;obtain⟨b2,x2,rfl,k3,k4⟩:=jE h2;have sM:zs.length<=1000:=by
   rw[<- cf.length,az];exact aJ (i0 _ _) (by rw[cw];omega)
  refine qN ?_;intro _;refine gQ ?_;refine⟨_,rfl,a,_,_,_,rfl,rfl,SqT.of ha,jh (j:=0) rfl,_,rfl,a,_,_,_,rfl,rfl,SqT.of ha,jh (j:=1) rfl,b1,b2,x1,x2,ds,es,rfl,rfl,k1,k3,hd,k2,k4,_,rfl,?_⟩;by_cases z:ds=es
  .rw[Qu z]
   refine kA ?_;refine⟨_,rfl,a,_,_,_,rfl,rfl,SqT.of ha,jh (j:=2) rfl,_,_,rfl,rfl,_,rfl,yK (fun w=>?_) (fun w=>?_)⟩
   .refine⟨sm rfl,fun l hl=>?_⟩
    have sl:=jj hl (.lst []);have Ai:gs.any jaz=true:=by
     have:(gs.take (i+1)).any jaz=true:=by
      rw[ea];show (decide (D.tup ds=D.tup es) && decide (c < 0))=true;rw[Qu (Qz D.tup z),Qt w |> Qu];rfl
     obtain⟨y,y1,y2⟩:=gw.mp this;exact gw.mpr ⟨y,Bv y1,y2⟩
    refine q l [] _ (sG.trans sl) (sG.free hl) jf ?_;unfold kz;rw[Qx Ai];exact jl
   .refine⟨_,rfl,sG,?_,zs,hz,?_⟩
    .rw[ea]
     show (decide (D.tup ds=D.tup es) && decide (c < 0))=false;rw[show decide (c < 0)=false from Qv fun y=>w (Qu y),Go]
    .rw[ek,Qw (fun y=>y (Qz D.tup z)),dl]
     exact cf
  .rw[Qv z]
   refine kR ?_;have zz:¬(D.tup ds=D.tup es):=fun y=>z (by injection y)
   refine⟨_,rfl,.inl ⟨rfl,_,SqL.of hz⟩,_,rfl,lk,zs,_,rfl,rfl,hz,jJ sM,?_⟩;have kt:TK G (upd G lk (.lst (zs++[.ref a]))):=fun b ws eb=>jk (jv eb hz (by intro z;cases z)) eb
   refine⟨_,rfl,fun b o e=>jk (jp e lA) (sG _ _ e),?_,_,jf,?_⟩
   .rw[ea]
    show (decide (D.tup ds=D.tup es) && decide (c < 0))=false;rw[Qv zz];rfl
   .rw[ek,Qx zz,aX]
    exact jT (kt.heldL cf) (jc (kt.held dY) jl)
 .rintro σ G ⟨u,rfl,sG,hb,zs,hz,cf⟩
  rw[<- mF,cu]at hb cf;have d_:=sG _ _ ht;refine⟨_,rfl,t,rfl,⟨_,SqL.of d_⟩,fun p hp=>?_⟩;have s2:=jj hp (.lst []);refine Js (xs:=ys) (fun j σ' G'=>∃u rs,σ'=[u,some (.ref lk)]/\Same G G'/\G' p=some (.lst rs)/\HeldL G' ((ts.take j).map (clD (zV gs))) rs) ⟨none,[],rfl,s2,jf,jl⟩ ?_ ?_ ?_
  .rintro j σ' G' _ ⟨u,rs,rfl,aQ,_⟩
   exact SqL.of (aQ _ _ d_)
  .rintro j y σ' G' hy ⟨u,rs,rfl,aQ,dr,cq⟩
   have hj:j < ts.length:=by rw[mn];exact (bL.mp hy).1
   have bZ:Held G' (t3 ts[j]) y:=((j7 fV (by rw[bz,aK hj];rfl) hy).mono sG).mono aQ;have et:(ts.take (j+1)).map (clD (zV gs))=(ts.take j).map (clD (zV gs))++[clD (zV gs) ts[j]]:=by rw[eI,aK hj,aX];rfl
   have fk:rs.length<=1000:=by
    rw[<- cq.length,az,cw];omega
   generalize ts[j]=tj at *;unfold qq ZR;refine kR ?_;refine⟨_,rfl,lk,zs,rfl,.inl ⟨SqL.of (aQ _ _ hz),fun tk nP=>?_⟩⟩;have s3:=jj nP (.tup zs);have e3:upd G' tk (.tup zs) tk=some (.tup zs):=jf;generalize upd G' tk (.tup zs)=G2 at *;refine⟨_,rfl,sm rfl,fun tq pI=>?_⟩;have s4:=jj pI (.tup [.ref tk,y]);have e4:upd G2 tq (.tup [.ref tk,y]) tq=some (.tup [.ref tk,y]):=jf;generalize upd G2 tq (.tup [.ref tk,y])=G3 at *;have o8:=s3.trans s4;have Dc:=o8 _ _ dr;have kt:TK G3 (upd G3 p (.lst (rs++[.ref tq]))):=fun b ws eb=>jk (jv eb Dc (by intro z;cases z)) eb
   refine⟨_,Dc,jJ fk,_,_,rfl,fun b o e=>jk (jp e hp) (o8 _ _ (aQ _ _ e)),jf,?_⟩;rw[et];refine jT (kt.heldL (cq.mono o8)) (jc ?_ jl);exact kt.held (jK e4 (jc (jK (s4 _ _ e3) ((cf.mono aQ).mono o8)) (jc (bZ.mono o8) jl)))
  .rintro σ' G' ⟨u,rs,rfl,aQ,dr,cq⟩
   rw[<- mn,cu]at cq;refine q p rs G' (sG.trans aQ) (sG.free hp) dr ?_;unfold kz;rw[Qw (by rw[hb];decide)];exact cq
end
end LW
namespace L2
open PySem PySem.Spec PyProof.Rows PySem.W
def ltP(ds:List D)(d:D):PyData:=.tuple [.list (D.pyL ds),d.py]
theorem jbT(ds:List D)(d:D):(ltP ds d).shown.cps.toList=40 :: 91 :: (jn (ds.map sgn)++93 :: 44 :: 32 :: (sgn d++[41])):=by
 show (AR [listText (oM (D.pyL ds)),d.py.shown]).cps.toList=_;unfold AR;rw[qi,qi,signs_lparen,Yc,listText_eq_join];show 40 :: ((((("[" : Str)++A3 ", " (oM (D.pyL ds)))++"]").cps.toList++44 :: 32 :: jn [d.py.shown.cps.toList]))++_=_;rw[qi,qi,Yc,Z7];show 40 :: (((91 :: jn (ds.map sgn))++[93])++44 :: 32 :: sgn d)++[41]=_;simp only[cC,bh,lU]
theorem jcn{ds es:List D}{p q:List Nat}(hx:OkDL ds)(hy:OkDL es)(h:sgn (.tup ds)++p=sgn (.tup es)++q):ds=es/\p=q:=by
 rw[qA,qA,cC,cC]at h;injection h with _ h;rw[bh,bh]at h;have et:∀n p,jcj (jb4 n++p):=fun n p=>by
  unfold jb4 jcj;split
  .exact⟨p,.inr rfl⟩
  .exact⟨p,.inl rfl⟩
 cases ds with
 | nil=>
  cases es with
  | nil=>exact⟨rfl,vz h⟩
  | cons e es=>
   unfold OkDL at hy;obtain⟨c,r,e1,e2⟩:=JR e hy.1;rw[aU,qM,e1]at h;injection h with h;exact absurd h.symm e2
 | cons d ds=>
  cases es with
  | nil=>
   unfold OkDL at hx;obtain⟨c,r,e1,e2⟩:=JR d hx.1;rw[aU,qM,e1]at h;injection h with h;exact absurd h e2
  | cons e es=>
   obtain⟨h1,h2⟩:=shL_inj (d :: ds) (e :: es) _ _ hx hy (by simp) (by simp) (et _ _) (et _ _) h;rw[h1]at h2;exact⟨by rw[h1],vz h2⟩
theorem jcI:∀{ds es:List (List D)} {t u:List Nat},(∀d∈ds,OkDL d)->(∀e∈es,OkDL e)->jn (ds.map fun d=>sgn (.tup d))++93 :: t=jn (es.map fun e=>sgn (.tup e))++93 :: u->ds=es/\t=u
 | [],[],t,u,_,_,h=>⟨rfl,by injection h⟩
 | [],e :: es,t,u,_,_,h=>by
  rw[aU,qM,qA]at h;injection h with h;exact absurd h (by decide)
 | d :: ds,[],t,u,_,_,h=>by
  rw[aU,qM,qA]at h;injection h with h;exact absurd h (by decide)
 | d :: ds,e :: es,t,u,hd,he,h=>by
  rw[aU,aU,qM,qM,bh,bh]at h;obtain⟨h1,h2⟩:=jcn (hd d (bU ..)) (he e (bU ..)) h
  cases ds with
  | nil=>
   cases es with
   | nil=>exact⟨by rw[h1],by injection h2⟩
   | cons e2 es=>
    simp only[eJ,aU,if_true,lU,reduceCtorEq,if_false,cC]at h2;injection h2 with h2;exact absurd h2 (by decide)
  | cons d2 ds=>
   cases es with
   | nil=>
    simp only[eJ,aU,if_true,lU,reduceCtorEq,if_false,cC]at h2;injection h2 with h2;exact absurd h2 (by decide)
   | cons e2 es=>
    have h3:44 :: 32 :: (jn ((d2 :: ds).map fun d=>sgn (.tup d))++93 :: t)=44 :: 32 :: (jn ((e2 :: es).map fun d=>sgn (.tup d))++93 :: u):=by
     simpa only[aU,reduceCtorEq,if_false,cC]using h2
    injection h3 with _ h3;injection h3 with _ h3;obtain⟨h4,h5⟩:=jcI (fun x hx=>hd x (ce _ hx)) (fun x hx=>he x (ce _ hx)) h3;exact⟨by rw[h1,h4],h5⟩
theorem jiK{ds es:List (List D)}{x y:List D}(hd:∀d∈ds,OkDL d)(he:∀e∈es,OkDL e)(hx:OkDL x)(hy:OkDL y)(h:(ltP (ds.map D.tup) (.tup x)).shown=(ltP (es.map D.tup) (.tup y)).shown):ds=es/\x=y:=by
 have h:(ltP (ds.map D.tup) (.tup x)).shown.cps.toList=(ltP (es.map D.tup) (.tup y)).shown.cps.toList:=by rw[h]
 rw[jbT,jbT,fM,fM]at h;injection h with _ h;injection h with _ h;obtain⟨h1,h2⟩:=jcI hd he h;injection h2 with _ h2;injection h2 with _ h2;exact⟨h1,(jcn hx hy h2).1⟩
theorem jha{ds:List D}{d:D}(h:OkDL ds)(k:OkD d)(hb:D.bigL ds+d.big<=90000):(ltP ds d).shown.length<=aI:=by
 have h1:=sgnL_big ds h;have h2:=ZZ d k;rw[gM];show (ltP ds d).shown.cps.size<=_;rw[<- dy,jbT];simp only[ck,bV,fN];omega
theorem jb7{X:Cx}(hg:X.A.guards=some []){n:Nat}(hu:X.A.units+2+n < cLine):zp X (.builtin "repr") (fun xs H Q=>∃(a l:ad) (zs:List V) (v:V) (ds:List D) (d:D),xs=[.ref a]/\H a=some (.tup [.ref l,v])/\H l=some (.lst zs)/\HeldL H ds zs/\Held H d v/\max (D.depthL ds+1) d.depth+1<=n/\OkDL ds/\OkD d/\D.bigL ds+d.big<=90000/\Q (.str (ltP ds d).shown) H):=by
 intro ae s σ H xs us Q I r h;obtain⟨a,l,zs,v,ds,d,rfl,ha,hl,hz,hv,hd,B9,B8,hb,q⟩:=h;obtain⟨u,rfl,rx⟩:=yU r
 cases rx
 obtain⟨its,rv,⟨o,e1,e2,n1,e3⟩,_⟩:=I.tuple (SqT.of ha);obtain⟨u1,u2,rfl,r1,r2⟩:=jhx rv
 cases r1
 obtain⟨jts,n2,rz,e4,_⟩:=I.lst hl;obtain⟨as1,a1⟩:=trL_reads (heldL_tr I hz rz);obtain⟨as2,a2⟩:=Yp (Ki I hv r2);have rd:Reads s.heap (.ref a) (ltP ds d) _:=.tuple e1 e2 e3 (.cons (.list e4 rfl rfl (by simpa using a1)) (.cons a2 .nil));have xp:(ltP ds d).showable=true:=by
  show (Ff (D.pyL ds) && (d.py.showable && true))=true;rw[pyL_showable ds B9,y9 d B8];rfl
 have IQ:(ltP ds d).hasDict=false:=by
  show (Fg (D.pyL ds) || (d.py.hasDict || false))=false;rw[pyL_noDict ds,KB d];rfl
 have dN:(ltP ds d).depth=max (D.depthL ds+1) d.depth+1:=by
  show max (A4 (D.pyL ds)+1) (max d.py.depth 0)+1=_;rw[pyL_depth,YB,Nat.max_eq_left (bT _)]
 refine repr_of_reads' rd xp (Oo IQ) hg (by rw[dN];omega) (fun _ _ e=>e) (fun h' u tk hk=>?_) (jha B9 B8 hb);exact⟨.str (ltP ds d).shown,H,I.kept hk,⟨u,rfl⟩,q⟩
end L2
namespace LW
open PySem L2
abbrev JB:aF:=top 55
abbrev Z3:aF:=top 56
def TiS(t:T3):Prop:=Src 50 t.1/\Src 50 t.2.1/\t.2.2.natAbs < 10 ^ 39
abbrev CC:Type:=Prod (List T3) T3
def cD(c:CC):D:=clD c.1 c.2
def cKy(c:CC):Key:=.inr (ltP (c.1.map t3) (t3 c.2)).shown
def OkC(c:CC):Prop:=(∀k∈c.1,TiS k)/\TiS c.2/\c.1.length<=3
variable {u:T3}
theorem jbC{t:T3}(h:t3 t=t3 u):t=u:=by
 obtain⟨a,b,c⟩:=t;obtain⟨a',b',c'⟩:=u;unfold t3 at h
 cases h
 rfl
theorem YF{α β:Type}{f:α->β}(hf:∀a b,f a=f b->a=b):∀{l m:List α},l.map f=m.map f->l=m
 | [],[],_=>rfl
 | [],_ :: _,h=>by cases h
 | _ :: _,[],h=>by cases h
 | a :: l,b :: m,h=>by
  rw[aU,aU]at h;injection h with h1 h2;rw[hf a b h1,YF hf h2]
theorem jiW{c d:CC}(h:cD c=cD d):c=d:=by
 obtain⟨ks,t⟩:=c;obtain⟨ls,u⟩:=d;unfold cD clD at h;injection h with h;injection h with h1 h;injection h1 with h1;injection h with h2 _;have h1:ks.map t3=ls.map t3:=h1;have h2:t3 t=t3 u:=h2;rw[YF (fun a b=>jbC) h1,jbC h2]
def un3(t:T3):List D:=[t.1,t.2.1,.int t.2.2]
theorem jcm{t:T3}(h:un3 t=un3 u):t=u:=jbC (Qz D.tup h)
theorem TiS.ok{t:T3}(h:TiS t):OkDL (un3 t)/\(t3 t).depth<=110/\(t3 t).big<=20400:=by
 obtain⟨a,b,c⟩:=h.1.ok;obtain⟨a',b',c'⟩:=h.2.1.ok;refine⟨⟨a,a',h.2.2,trivial⟩,?_,?_⟩
 .show max t.1.depth (max t.2.1.depth (max 0 0))+1<=110
  omega
 .show t.1.big+2+(t.2.1.big+2+(40+2+0))+3<=20400
  omega
theorem jcU{c d:CC}(hc:OkC c)(hd:OkC d)(h:cKy c=cKy d):c=d:=by
 obtain⟨ks,t⟩:=c;obtain⟨ls,u⟩:=d;have h:(ltP (ks.map t3) (t3 t)).shown=(ltP (ls.map t3) (t3 u)).shown:=uW h;have e:∀l:List T3,l.map t3=(l.map un3).map D.tup:=fun l=>by rw[fM];rfl
 rw[e,e]at h;obtain⟨h1,h2⟩:=jiK (x:=un3 t) (y:=un3 u) (fun x hx=>by
  obtain⟨k,hk,rfl⟩:=bq.mp hx;exact (hc.1 k hk).ok.1) (fun x hx=>by
  obtain⟨k,hk,rfl⟩:=bq.mp hx;exact (hd.1 k hk).ok.1) hc.2.1.ok.1 hd.2.1.ok.1 h
 rw[YF (fun a b=>jcm) h1,jcm h2]
theorem jaT{m:Nat}{d:D}(h:Src m d):∃es,d=.tup es:=by cases h <;> exact⟨_,rfl⟩
theorem TiS.can{t:T3}(h:TiS t):ji4 t:=by
 obtain⟨ds,e⟩:=jaT h.1;obtain⟨es,e2⟩:=jaT h.2.1;refine⟨ds,es,e,e2,?_⟩;have:=h.1.ok.2.1;rw[e]at this;have:D.depthL ds+1<=2 * 50+1:=this;omega
theorem jaQ:∀{ks:List T3},(∀k∈ks,TiS k)->OkDL (ks.map t3)/\D.depthL (ks.map t3)<=110/\D.bigL (ks.map t3)<=20402 * ks.length
 | [],_=>⟨trivial,bT _,bT _⟩
 | k :: ks,h=>by
  obtain⟨a,b,c⟩:=(h k (bU ..)).ok;obtain⟨a',b',c'⟩:=jaQ fun x hx=>h x (ce _ hx)
  refine⟨⟨a,a'⟩,FS.mpr ⟨b,b'⟩,?_⟩;show (t3 k).big+2+D.bigL (ks.map t3)<=20402 * (ks.length+1);omega
def DueAt(n:Nat)(L:List D)(H:Hp)(a:ad):Prop:=∃(cs:List CC) (kvs:List (Key×V)),H a=some (.dK kvs)/\kvs.map (·.1)=cs.map cKy/\HeldL H (cs.map cD) (kvs.map (·.2))/\cs.Nodup/\(∀d,d∈cs.map cD↔d∈L)/\(∀c∈cs,OkC c)/\kvs.length<=n
def MvD(a:ad)(H H':Hp):Prop:=∀b o,b≠a->H b=some o->H' b=some o
variable {a:ad}{H H':Hp}
theorem MvD.same(s:Same H H'):MvD a H H':=fun b o _ e=>s b o e
theorem MvD.trans{G G':Hp}(h:MvD a H G)(k:MvD a G G'):MvD a H G':=fun b o n e=>k b o n (h b o n e)
theorem MvD.tk{kvs:List (Key×V)}(m:MvD a H H')(e:H a=some (.dK kvs)):TK H H':=fun b xs eb=>m b _ (jv eb e (by intro z;cases z)) eb
variable {n:Nat}
theorem DueAt.same{L:List D}(h:DueAt n L H a)(s:Same H H'):DueAt n L H' a:=by
 obtain⟨cs,kvs,h1,h2,h3,h4,h5,h6,h7⟩:=h;exact⟨cs,kvs,s _ _ h1,h2,(TK.same s).heldL h3,h4,h5,h6,h7⟩
theorem DueAt.congr{m:Nat}{L L':List D}(h:DueAt n L H a)(hn:n<=m)(e:∀d,d∈L↔d∈L'):DueAt m L' H a:=by
 obtain⟨cs,kvs,h1,h2,h3,h4,h5,h6,h7⟩:=h;exact⟨cs,kvs,h1,h2,h3,h4,fun d=>(h5 d).trans (e d),h6,aJ h7 hn⟩
variable {v:V}
theorem DueAt.put{L:List D}{kvs:List (Key×V)}{c:CC}(h:DueAt n L H a)(e:H a=some (.dK kvs))(hv:Held H (cD c) v)(hd:OkC c):DueAt (n+1) (L++[cD c]) (upd H a (.dK (j4 kvs (cKy c) v))) a:=by
 have t:TK H (upd H a (.dK (j4 kvs (cKy c) v))):=fun b xs eb=>jk (jv eb e (by intro z;cases z)) eb
 obtain⟨cs,k1,h1,h2,h3,h4,h5,h6,h7⟩:=h;obtain rfl:k1=kvs:=by rw[h1]at e;cases e;rfl
 have eR:∀q,q∈L++[cD c]↔q∈L\/q=cD c:=fun q=>by rw[bK,aN]
 by_cases z:c∈cs
 .have kin:cKy c∈k1.map (·.1):=by rw[h2];exact bq.mpr ⟨c,z,rfl⟩
  refine⟨cs,_,jf,(jah _ kin).trans h2,?_,h4,fun q=>?_,h6,aJ (kP _ _ _) (gO h7)⟩
  .obtain⟨p,p1,gX⟩:=bq.mp kin
   refine t.heldL ?_;unfold j4;rw[Qx (gw.mpr ⟨p,p1,Qu gX⟩)];refine KG hv h3 fun i x p a b k=>?_
   have:(k1.map (·.1))[i]?=some p.1:=by rw[bz,b];rfl
   rw[bz]at a;obtain⟨x',a1,rfl⟩:=Bp.mp a;rw[h2,bz,a1]at this;have:cKy x'=p.1:=dk this;rw[k]at this;rw[jcU (h6 x' (lV a1)) hd this]
  .rw[eR,<- h5]
   exact⟨.inl,fun w=>w.elim id fun y=>by rw[y];exact bq.mpr ⟨c,z,rfl⟩⟩
 .have wP:cKy c ∉ k1.map (·.1):=fun y=>by
   rw[h2]at y;obtain⟨x,x1,x2⟩:=bq.mp y;have:=jcU (h6 x x1) hd x2;rw[this]at x1;exact z x1
  have ep:j4 k1 (cKy c) v=k1++[(cKy c,v)]:=by
   unfold j4;refine Qw fun y=>?_
   obtain⟨p,p1,gX⟩:=gw.mp y;exact wP (bq.mpr ⟨p,p1,Qt gX⟩)
  rw[ep]at t |-;refine⟨cs++[c],_,jf,by rw[aX,aX,h2];rfl,?_,?_,fun q=>?_,fun q hq=>?_,by rw[bV];exact gO h7⟩
  .rw[aX,aX]
   exact t.heldL (jT h3 (jc hv jl))
  .rw[vt]
   exact⟨h4,by simp,fun x hx y hy=>by cases aN.mp hy;exact fun w=>z (by rw[<- w];exact hx)⟩
  .rw[eR,<- h5,aX,bK,aU,eJ,aN]
  .rcases bK.mp hq with hq | hq
   .exact h6 q hq
   .rw[aN.mp hq];exact hd
inductive spNoted(vs:List V)(H:Hp)(Q:VK)(E:XK):Prop
 | mk (a g t:ad) (n:Nat) (L:List D) (gs ts:List T3) (xs ys:List V) (_:vs=[.ref a,.ref g,.ref t]) (_:DueAt n L H a) (_:n+ts.length<=1000000) (_:H g=some (.lst xs)) (_:HeldL H (gs.map t3) xs) (_:H t=some (.lst ys)) (_:HeldL H (ts.map t3) ys) (_:(∀q∈gs,TiS q)) (_:(∀q∈ts,TiS q)) (_:gs.length<=3) (_:ts.length<=4) (_:∀H',MvD a H H'->DueAt (n+ts.length) (L++kz gs ts) H' a->Q .non H')
variable {P:aE}{w:aB}{K:aw}{mg:Str->Option ag}{base:ar}{f:ad}{fd:aL}
section
theorem jfh(F:Fun K "_law_like" "_law_like" Z3 f fd)(cg:Fn P w K mg base 1 "_law_tie" ["_law_one","_law_other"] spAtM):FnOk P w K mg base CX0 2 f fd ["_law_one","_law_other"] spLike:=by
 have sc:FnScope ["_law_one","_law_other"] ["_law_one","_law_other"] (jm Z3):=fQ;refine F.okZ sc (fun ax A outer s H vs Q E hr h=>?_);obtain⟨v,u,p,q,rfl,hv,hu,k⟩:=h;refine⟨_,(ji (jC (jG (ja (jg cg hr (ja (zpv 0) (ja (zpv 1) jb))) (ja (jg cg hr (ja (zpv 1) (ja (zpv 0) jb))) jb))))),?_⟩;refine jH (σ':=[some v,some u]) rfl ?_
 try dsimp only[kx]
 refine⟨_,rfl,_,rfl,v,u,p,q,rfl,hv,hu,fun x H1 s1 hx=>⟨_,rfl,_,rfl,u,v,q,p,rfl,hu.mono s1,hv.mono s1,fun y H2 s2 hy=>⟨sm rfl,fun l hl=>?_⟩⟩⟩;have s3:=jj hl (.lst [x,y]);exact k l x y _ (s1.trans (s2.trans s3)) ((s1.trans s2).free hl) jf ((hx.mono s2).mono s3) (hy.mono s3)
theorem jff(F:Fun K "_law_noted" "_law_noted" JB f fd)(B:Free0 mg)(oj:mg "repr" = none):FnOk P w K mg base CX0 14 f fd ["_law_due","_law_guards","_law_ties"] spNoted:=by
 have sc:FnScope ["_law_due","_law_guards","_law_ties","_law_kept_here","_law_tie_here"] ["_law_due","_law_guards","_law_ties"] (jm JB):=fQ;refine F.okZ sc (fun ax A outer s H vs Q E hr h=>?_);have hu:(A.deeper (cA "_law_noted" (jm JB) s.heap.objs.size f ax)).units+1 < cLine:=by have:=hr.un;omega
 have dZ:(A.deeper (cA "_law_noted" (jm JB) s.heap.objs.size f ax)).units+1+200 < cLine:=by have:=hr.un;omega
 have xi:(A.deeper (cA "_law_noted" (jm JB) s.heap.objs.size f ax)).units+2+200 < cLine:=by have:=hr.un;omega
 obtain⟨a,g,t,n,L,gs,ts,xs,ys,rfl,hD,hn,hg,mG,ht,fV,hG,hT,Dz,Ig,q⟩:=h;refine⟨_,(jd (jy (i:=3) sc.nd rfl oQ (jG jb))
   (jd (ky df rfl (ke (zpv 1)) (ju (i:=4) sc.nd rfl oQ) (ji (jN (jD (yI 200 dZ) (jr jw (zpv 4) je (fun _ _=>rfl)) (jr jw (zpv 4) je (fun _ _=>rfl)) (jI _)) (ji (jA (km cH dG dF j0 (zpv 3) (ja (zpv 4) jb)))) (ji (jN (jD Zq (jr jw (zpv 4) je (fun _ _=>rfl)) je (jI _)) (ji zy) jL)))))
   (ji (ky df rfl (ke (zpv 2)) (ju (i:=4) sc.nd rfl oQ) (ji (kC hu (zpv 0) (zh (jb7 hr.gd (n:=200) xi) (by rfl) oj jcV (ja (jQ (ja (zpv 3) (ja (zpv 4) jb))) jb)) (jQ (ja (yA (Jj (K:=K)) (by rfl) B.tuple_ YX (ja (zpv 3) jb)) (ja (zpv 4) jb))) rfl)))))),?_⟩
 refine jH (σ':=[some (.ref a),some (.ref g),some (.ref t),none,none]) rfl ?_
 try dsimp only[kx]
 refine YO ?_;intro _ _;have mF:=mG.length;rw[az]at mF;have mn:=fV.length;rw[az]at mn;refine⟨sm rfl,fun lk lA=>?_⟩;refine gQ ?_;have s1:=jj lA (.lst []);have e1:upd H lk (.lst []) lk=some (.lst []):=jf;generalize upd H lk (.lst [])=H1 at *;refine⟨_,rfl,g,rfl,⟨_,SqL.of (s1 _ _ hg)⟩,?_⟩;let Pv:Nat->L2.St->Hp->Prop:=fun i σ G=>∃u,σ=[some (.ref a),some (.ref g),some (.ref t),some (.ref lk),u]/\Same H G/\(gs.take i).any jaz=false/\∃zs,G lk=some (.lst zs)/\HeldL G ((zV (gs.take i)).map t3) zs
 refine kG (xs:=xs) Pv ⟨none,rfl,s1,rfl,[],e1,jl⟩ ?_ ?_ ?_
 .rintro i σ G _ ⟨u,rfl,sG,_⟩
  exact SqL.of (sG _ _ hg)
 .rintro i x σ G hx ⟨u,rfl,sG,hb,zs,hz,cf⟩
  have hi:i < gs.length:=by rw[mF];exact (bL.mp hx).1
  have dY:Held G (t3 gs[i]) x:=(j7 mG (by rw[bz,aK hi];rfl) hx).mono sG;have ca:=(hG _ (cT hi)).can;have ea:=jbo (p:=jaz) hi;have ek:=Zw hi;rw[hb,Gk]at ea;generalize gs[i]=gi at *;obtain⟨b,u1,u2,rfl,ha,h1,h2⟩:=jev dY;obtain⟨⟨d1,d2,c⟩,xK⟩:∃q:T3,q=gi:=⟨_,rfl⟩
  subst xK;obtain⟨ds,es,rfl,rfl,hd⟩:=ca;obtain⟨b1,x1,rfl,k1,k2⟩:=jE h1;obtain⟨b2,x2,rfl,k3,k4⟩:=jE h2;have sM:zs.length<=1000:=by
   rw[<- cf.length,az];exact aJ (i0 _ _) (by rw[cw];omega)
  refine qN ?_;intro _;refine gQ ?_;refine⟨_,rfl,b,_,_,_,rfl,rfl,SqT.of ha,jh (j:=0) rfl,_,rfl,b,_,_,_,rfl,rfl,SqT.of ha,jh (j:=1) rfl,b1,b2,x1,x2,ds,es,rfl,rfl,k1,k3,hd,k2,k4,_,rfl,?_⟩;by_cases z:ds=es
  .rw[Qu z]
   refine kA ?_;refine⟨_,rfl,b,_,_,_,rfl,rfl,SqT.of ha,jh (j:=2) rfl,_,_,rfl,rfl,_,rfl,yK (fun w=>?_) (fun w=>?_)⟩
   .have Ai:gs.any jaz=true:=by
     have:(gs.take (i+1)).any jaz=true:=by
      rw[ea];show (decide (D.tup ds=D.tup es) && decide (c < 0))=true;rw[Qu (Qz D.tup z),Qt w |> Qu];rfl
     obtain⟨y,y1,y2⟩:=gw.mp this;exact gw.mpr ⟨y,Bv y1,y2⟩
    refine q G (.same sG) ((hD.same sG).congr (PF _ _) fun d=>?_);unfold kz;rw[Qx Ai,dl]
   .refine⟨_,rfl,sG,?_,zs,hz,?_⟩
    .rw[ea]
     show (decide (D.tup ds=D.tup es) && decide (c < 0))=false;rw[show decide (c < 0)=false from Qv fun y=>w (Qu y),Go]
    .rw[ek,Qw (fun y=>y (Qz D.tup z)),dl]
     exact cf
  .rw[Qv z]
   refine kR ?_;have zz:¬(D.tup ds=D.tup es):=fun y=>z (by injection y)
   refine⟨_,rfl,.inl ⟨rfl,_,SqL.of hz⟩,_,rfl,lk,zs,_,rfl,rfl,hz,jJ sM,?_⟩;have kt:TK G (upd G lk (.lst (zs++[.ref b]))):=fun b ws eb=>jk (jv eb hz (by intro z;cases z)) eb
   refine⟨_,rfl,fun b o e=>jk (jp e lA) (sG _ _ e),?_,_,jf,?_⟩
   .rw[ea]
    show (decide (D.tup ds=D.tup es) && decide (c < 0))=false;rw[Qv zz];rfl
   .rw[ek,Qx zz,aX]
    exact jT (kt.heldL cf) (jc (kt.held dY) jl)
 .rintro σ G ⟨u,rfl,sG,hb,zs,hz,cf⟩
  rw[<- mF,cu]at hb cf;have eF:kz gs ts=ts.map (clD (zV gs)):=by unfold kz;rw[Qw (by rw[hb];decide)]
  rw[eF]at q;have nX:(zV gs).length<=3:=aJ (i0 _ _) Dz;have Dw:∀k∈zV gs,TiS k:=fun k hk=>hG k (lW.mp hk).1
  generalize zV gs=ks at *;obtain⟨Ht,kb2,kb3⟩:=jaQ Dw;obtain⟨kvs0,tQ⟩:∃kvs,H a=some (.dK kvs):=by
   obtain⟨_,kvs,h1,_⟩:=hD;exact⟨kvs,h1⟩
  have dA:t≠a:=jv ht tQ (by intro z;cases z);have IY:lk≠a:=(jp tQ lA).symm;refine⟨_,rfl,t,rfl,⟨_,SqL.of (sG _ _ ht)⟩,?_⟩;let Pw:Nat->L2.St->Hp->Prop:=fun i σ G'=>∃u,σ=[some (.ref a),some (.ref g),some (.ref t),some (.ref lk),u]/\MvD a G G'/\DueAt (n+i) (L++(ts.take i).map (clD ks)) G' a
  refine kG (xs:=ys) Pw ⟨u,rfl,.same fun _ _ e=>e,(hD.same sG).congr (aD _) fun d=>by rw[io,eJ,dl]⟩ ?_ ?_ ?_
  .rintro i σ G' _ ⟨u,rfl,m,_⟩
   exact SqL.of (m _ _ dA (sG _ _ ht))
  .rintro i y σ G' hy ⟨u,rfl,m,J⟩
   have hi:i < ts.length:=by rw[mn];exact (bL.mp hy).1
   have tG:=(TK.same sG).trans (m.tk (sG _ _ tQ));have bZ:Held G' (t3 ts[i]) y:=tG.held (j7 fV (by rw[bz,aK hi];rfl) hy);have DS:=hT _ (cT hi);have et:L++(ts.take (i+1)).map (clD ks)=(L++(ts.take i).map (clD ks))++[cD (ks,ts[i])]:=by rw[eI,aK hi,aX,<- bh];rfl
   generalize ts[i]=ti at *;have Cy:=m _ _ IY hz;have db:=(m.tk (sG _ _ tQ)).heldL cf;refine qN ?_;intro _;refine gQ ?_;refine⟨_,rfl,lk,zs,rfl,.inl ⟨SqL.of Cy,fun tk nP=>?_⟩⟩;have s3:=jj nP (.tup zs);have e3:upd G' tk (.tup zs) tk=some (.tup zs):=jf;have J3:=J.same s3;have Cv:=s3 _ _ Cy;have Cq:=db.mono s3;have CD:=bZ.mono s3;generalize upd G' tk (.tup zs)=G2 at *;refine⟨_,rfl,sm rfl,fun tq pI=>?_⟩;have s4:=jj pI (.tup [.ref tk,y]);have e4:Held (upd G2 tq (.tup [.ref tk,y])) (cD (ks,ti)) (.ref tq):=jK jf (jc (jK (s4 _ _ e3) (Cq.mono s4)) (jc (CD.mono s4) jl));have J4:=J3.same s4;have Cu:=s4 _ _ Cv;have Hw:=Cq.mono s4;have HJ:=CD.mono s4;generalize upd G2 tq (.tup [.ref tk,y])=G3 at *;refine⟨_,rfl,_,rfl,_,rfl,sm rfl,fun tr Ic=>?_⟩;have s5:=jj Ic (.tup [.ref lk,y]);have e5:upd G3 tr (.tup [.ref lk,y]) tr=some (.tup [.ref lk,y]):=jf;have J5:=J4.same s5;have wX:=s5 _ _ Cu;have Hv:=Hw.mono s5;have HI:=HJ.mono s5;have ME:=e4.mono s5;generalize upd G3 tr (.tup [.ref lk,y])=G4 at *;obtain⟨GJ,tb2,tb3⟩:=DS.ok;obtain⟨kvs,j1,j2⟩:∃kvs,G4 a=some (.dK kvs)/\kvs.length<=n+i:=by
    obtain⟨_,kvs,h1,_,_,_,_,_,h7⟩:=J5;exact⟨kvs,h1,h7⟩
   refine⟨tr,lk,zs,y,ks.map t3,t3 ti,rfl,e5,wX,Hv,HI,by omega,Ht,GJ,by omega,?_⟩;have nG:=s3.trans (s4.trans s5);refine⟨a,_,rfl,.k (k:=cKy (ks,ti)) j1 (kc (by omega)),_,rfl,m.trans ((MvD.same nG).trans fun b o nb eb=>jk nb eb),?_⟩;rw[et];exact J5.put j1 ME ⟨Dw,DS,nX⟩
  .rintro σ G' ⟨u,rfl,m,J⟩
   rw[<- mn,cu]at J;exact q G' ((MvD.same sG).trans m) J
end
abbrev qC:aF:=top 27
abbrev kL:aF:=top 28
def kO(sp S:List P2):List (Prod P2 P2):=S.flatMap fun s=>(sp.filter fun z=>decide (s≠z)).map fun z=>(s,z)
def kn(sp:List P2):List (Prod P2 P2):=kO sp sp
theorem Zo(sp:List P2):(kn sp).length<=sp.length * sp.length:=by
 have:∀S:List P2,(kO sp S).length<=S.length * sp.length:=fun S=>by
  induction S with
  | nil=>exact bT _
  | cons s S ih=>
   show (((sp.filter fun z=>decide (s≠z)).map fun z=>(s,z))++kO sp S).length<=(S.length+1) * sp.length;rw[bV,az,FU,FP];have:=i0 (fun z=>decide (s≠z)) sp;omega
 exact this sp
def KR(q:Prod P2 P2):D:=.tup [p2 q.1,p2 q.2]
inductive spPairs(C:ad)(vs:List V)(H:Hp)(Q:VK)(E:XK):Prop
 | mk (n:Nat) (A:CA) (c:Cs) (sp:List P2) (_:vs=[.ref A.o]) (_:CsAt C n A c H) (_:n<=200) (_:c.l 2=sp.map p2) (_:(∀p∈sp,p.1.depth<=190)) (_:∀(l:ad) (zs:List V) (H':Hp),Same H H'->H l=none->H' l=some (.lst zs)->HeldL H' ((kn sp).map KR) zs->Q (.ref l) H')
variable {sp:List P2}{i:Nat}
theorem jbK(hi:i < sp.length):kO sp (sp.take (i+1))=kO sp (sp.take i)++((sp.filter fun z=>decide (sp[i]≠z)).map fun z=>(sp[i],z)):=by
 unfold kO;rw[eI,aK hi,P8];simp
theorem KW{α:Type}{p:α->Bool}{xs:List α}(hi:i < xs.length):(xs.take (i+1)).filter p=(xs.take i).filter p++(if p xs[i]=true then [xs[i]] else []):=by
 rw[eI,aK hi,P9];congr 1
 cases e:p xs[i] <;> simp[e]
variable {p q:P2}
theorem yH(h:p2 p=p2 q):p=q:=by
 obtain⟨a,b⟩:=p;obtain⟨c,d⟩:=q;unfold p2 at h
 cases h
 rfl
variable {C:ad}
section
theorem jfe(T:ClsC K C)(F:Fun K "spot_pairs" "spot_pairs" qC f fd):FnOk P w K mg base CX0 14 f fd ["case"] (spPairs C):=by
 have sc:FnScope ["case"] ["case"] (jm qC):=fQ;refine F.okZ sc (fun ax A outer s H vs Q E hr h=>?_);have dZ:(A.deeper (cA "spot_pairs" (jm qC) s.heap.objs.size f ax)).units+1+200 < cLine:=by have:=hr.un;omega
 obtain⟨n,B,c,sp,rfl,I,hn,aY,dN,q⟩:=h;refine⟨_,(ji (jC (jc5 ["s","z"] [0] rfl (qZ (sc:=jm qC) (N:=["case"]) rfl rfl (by decide +kernel)) (ke (jY (zpv 0) rfl)) (fun s H ex=>⟨(ju (i:=0) (show fO (["s","z","case"]:List Str) by decide +kernel) rfl oQ),jc2 (K:=K) (jd5 (K:=K) (zpv 2) rfl),(ju (i:=1) (show fO (["s","z","case"]:List Str) by decide +kernel) rfl oQ),(Yh (jD (yI 200 dZ) (zpv 0) (zpv 1) (jI _))),(jQ (ja (zpv 0) (ja (zpv 1) jb)))⟩)))),?_⟩
 try dsimp only[kx]
 obtain⟨xs,l1,l2,l3⟩:=I.l 2 (by decide);rw[aY]at l2;have dq:=l2.length;rw[az]at dq;refine⟨_,rfl,B.o,C,B.dx,_,_,rfl,I.o,T.c,T.n6,rfl,B.l 2,rfl,⟨_,SqL.of l1⟩,fun p hp=>?_⟩;have s1:=jj hp (.lst []);let In:Nat->Nat->List (Prod P2 P2):=fun i j=>kO sp (sp.take i)++(match sp[i]? with | some s=>((sp.take j).filter fun z=>decide (s≠z)).map fun z=>(s,z) | none=>[])
 have Ho:∀i,(kO sp (sp.take i)).length<=200 * 200:=fun i=>by
  have h1:(kO sp (sp.take i)).length<=(sp.take i).length * sp.length:=by
   generalize sp.take i=S;induction S with
   | nil=>exact bT _
   | cons s S ih=>
    show (((sp.filter fun z=>decide (s≠z)).map fun z=>(s,z))++kO sp S).length<=(S.length+1) * sp.length;rw[bV,az,FU,FP];have:=i0 (fun z=>decide (s≠z)) sp;omega
  have h2:(sp.take i).length<=200:=by rw[cw];omega
  exact aJ h1 (FR h2 (by omega))
 refine jbj (xs:=xs) (ys:=xs) (a:=B.l 2) (b:=B.l 2) (fun i σ' G=>∃u w zs,σ'=[u,w,some (.ref B.o)]/\Same H G/\G p=some (.lst zs)/\HeldL G ((kO sp (sp.take i)).map KR) zs) (fun i j σ' G=>∃x w zs,σ'=[some x,w,some (.ref B.o)]/\xs[i]?=some x/\Same H G/\G p=some (.lst zs)/\HeldL G ((In i j).map KR) zs) ⟨none,none,[],rfl,s1,jf,jl⟩ ?_ ?_ ?_ ?_ ?_ ?_ ?_ ?_
 .rintro i σ' G ⟨u,w,zs,rfl,sG,_⟩
  exact SqL.of (sG _ _ l1)
 .rintro i j σ' G ⟨u,w,zs,rfl,_,sG,_⟩
  exact SqL.of (sG _ _ l1)
 .intro x σ' H' R R' k h
  exact k _ _ h
 .rintro σ' H' R R' k ⟨v,hv,a,C',dx,fs,v',e1,e2,e3,e4,e5,h⟩
  exact⟨v,hv,a,C',dx,fs,v',e1,e2,e3,e4,e5,k _ _ h⟩
 .rintro i x σ' G hx ⟨u,w,zs,rfl,sG,hG,hz⟩
  have hi:i < sp.length:=by rw[dq];exact (bL.mp hx).1
  unfold qq;refine⟨_,rfl,B.o,C,B.dx,_,_,rfl,sG _ _ I.o,T.c,T.n6,rfl,rfl,x,w,zs,rfl,hx,sG,hG,?_⟩;show HeldL G ((kO sp (sp.take i)++(match sp[i]? with | some s=>((sp.take 0).filter fun z=>decide (s≠z)).map fun z=>(s,z) | none=>[])).map KR) zs;rw[aK hi];show HeldL G ((kO sp (sp.take i)++[]).map KR) zs;rw[dl];exact hz
 .rintro i x j y σ' G hx hy ⟨x',w,zs,rfl,cp,sG,hG,hz⟩
  obtain rfl:x=x':=by rw[hx]at cp;cases cp;rfl
  have hi:i < sp.length:=by rw[dq];exact (bL.mp hx).1
  have hj:j < sp.length:=by rw[dq];exact (bL.mp hy).1
  have dY:Held G (p2 sp[i]) x:=(j7 l2 (by rw[bz,aK hi];rfl) hx).mono sG;have bZ:Held G (p2 sp[j]) y:=(j7 l2 (by rw[bz,aK hj];rfl) hy).mono sG;have ei:In i (j+1)=In i j++(if sp[i]≠sp[j] then [(sp[i],sp[j])] else []):=by
   show kO sp (sp.take i)++(match sp[i]? with | some s=>((sp.take (j+1)).filter fun z=>decide (s≠z)).map fun z=>(s,z) | none=>[])=(kO sp (sp.take i)++(match sp[i]? with | some s=>((sp.take j).filter fun z=>decide (s≠z)).map fun z=>(s,z) | none=>[]))++_;rw[aK hi];dsimp only;rw[KW hj,aX,bh];congr 2;by_cases z:sp[i]=sp[j] <;> simp[z]
  have sM:zs.length<=50000:=by
   rw[<- hz.length,az];show (kO sp (sp.take i)++(match sp[i]? with | some s=>((sp.take j).filter fun z=>decide (s≠z)).map fun z=>(s,z) | none=>[])).length<=50000;rw[aK hi];dsimp only;rw[bV,az];have:=Ho i;have h2:=i0 (fun z=>decide (sp[i]≠z)) (sp.take j);rw[cw]at h2;omega
  have di:=dN _ (cT hi);generalize sp[i]=s at *;generalize sp[j]=z at *;obtain⟨tx,u1,rfl,k1,k2⟩:=jE (show Held G (.tup [s.1,.int s.2]) x from dY);obtain⟨ty,u2,rfl,k3,k4⟩:=jE (show Held G (.tup [z.1,.int z.2]) y from bZ);unfold qq;refine⟨_,rfl,_,rfl,tx,ty,u1,u2,_,_,rfl,rfl,k1,k3,?_,k2,k4,_,rfl,?_⟩
  .show max s.1.depth (max 0 0)<=200
   omega
  by_cases e:s=z
  .rw[Qu (show [s.1,D.int s.2]=[z.1,D.int z.2] by rw[e])]
   refine kA ⟨_,_,_,rfl,hx,sG,hG,?_⟩;rw[ei,Qw (fun y=>y e),dl];exact hz
  .rw[Qv (show ¬[s.1,D.int s.2]=[z.1,D.int z.2] from fun y=>e (yH (Qz D.tup y)))]
   refine kR ⟨_,rfl,_,rfl,sm rfl,fun tq pI=>?_⟩;have s4:=jj pI (.tup [.ref tx,.ref ty]);have rb:=s4 _ _ hG;have kt:TK (upd G tq (.tup [.ref tx,.ref ty])) (upd (upd G tq (.tup [.ref tx,.ref ty])) p (.lst (zs++[.ref tq]))):=fun b ws eb=>jk (jv eb rb (by intro z;cases z)) eb
   refine⟨_,rb,kc (by omega),_,_,_,rfl,hx,fun b o e=>jk (jp e hp) (s4 _ _ (sG _ _ e)),jf,?_⟩;rw[ei,Qx e,aX];exact jT (kt.heldL (hz.mono s4)) (jc (kt.held (jK jf (jc (dY.mono s4) (jc (bZ.mono s4) jl)))) jl)
 .rintro i σ' G hi ⟨x,w,zs,rfl,hx,sG,hG,hz⟩
  refine⟨_,_,zs,rfl,sG,hG,?_⟩;rw[<- dq]at hi;rw[jbK hi];have:In i xs.length=kO sp (sp.take i)++((sp.filter fun z=>decide (sp[i]≠z)).map fun z=>(sp[i],z)):=by
   show kO sp (sp.take i)++(match sp[i]? with | some s=>((sp.take xs.length).filter fun z=>decide (s≠z)).map fun z=>(s,z) | none=>[])=_;rw[aK hi,<- dq,cu]
  rw[<- this];exact hz
 .rintro σ' G ⟨u,w,zs,rfl,sG,hG,hz⟩
  rw[<- dq,cu]at hz;exact q p zs G sG hp hG hz
end
def SpG(p:P2):Prop:=∃ds,p.1=.tup ds/\D.depthL ds<=180
theorem SpG.dep(h:SpG p):p.1.depth<=190:=by
 obtain⟨ds,e,hd⟩:=h;rw[e];show D.depthL ds+1<=190;omega
theorem SpG.can(h:SpG p)(k:SpG q):ji4 (atM p q):=by
 obtain⟨ds,e,hd⟩:=h;obtain⟨es,e2,_⟩:=k;exact⟨ds,es,e,e2,by omega⟩
def ZO(vs:List D)(q:Prod P2 P2):List T3:=vs.map fun v=>atM (jW v q.1) (jW v q.2)
def jdc(vs:List D)(q:Prod P2 P2):List D:=kz [atM q.1 q.2,atM q.2 q.1] (ZO vs q)
def jbu(vs:List D)(qs:List (Prod P2 P2)):List D:=qs.flatMap (jdc vs)
theorem kW(gs ts:List T3):(kz gs ts).length<=ts.length:=by
 unfold kz;split
 .exact bT _
 .rw[az]
  exact aD _
theorem zf{α β:Type}{f:α->List β}{m:Nat}:∀{l:List α},(∀x∈l,(f x).length<=m)->(l.flatMap f).length<=l.length * m
 | [],_=>bT _
 | x :: l,h=>by
  rw[List.flatMap_cons,bV,ck,FU,FP];have:=h x (bU ..);have:=zf fun y hy=>h y (ce _ hy)
  omega
theorem kM{α β:Type}{f:α->List β}{l:List α}(hi:i < l.length):(l.take (i+1)).flatMap f=(l.take i).flatMap f++f l[i]:=by
 rw[eI,aK hi,P8];simp
inductive spCl(C:ad)(pre:Cs->List P2->List D->Prop)(vs:List V)(H:Hp)(Q:VK)(E:XK):Prop
 | mk (n:Nat) (A:CA) (c:Cs) (sp:List P2) (ds:List D) (_:vs=[.ref A.o]) (_:CsAt C n A c H) (_:n<=110) (_:c.l 2=sp.map p2) (_:(∀p∈sp,SpG p)) (_:pre c sp ds) (_:∀(l:ad) (zs:List V) (H':Hp),Same H H'->H l=none->H' l=some (.lst zs)->HeldL H' ds zs->ds.length<=2700000->Q (.ref l) H')
def jbI(c:Cs)(sp:List P2)(ds:List D):Prop:=ds=jbu (c.na.map yl++c.l 0) (kn sp)
theorem Jq{q:Prod P2 P2}(h:q∈kn sp):q.1∈sp/\q.2∈sp:=by
 obtain⟨s,h1,h2⟩:=iq.mp h;obtain⟨z,h3,rfl⟩:=bq.mp h2;exact⟨h1,(lW.mp h3).1⟩
theorem jaV{q:Prod P2 P2}(h:Held H (KR q) v):∃a x y,v=.ref a/\H a=some (.tup [x,y])/\Held H (p2 q.1) x/\Held H (p2 q.2) y:=qI h
section
theorem je9(T:ClsC K C)(F:Fun K "version_clauses" "version_clauses" kL f fd)(on:Fn P w K mg base 14 "spot_pairs" ["case"] (spPairs C))(bQ:Fn P w K mg base 1 "at_most" ["one","other"] spAtM)(cJ:Fn P w K mg base 1 "entry_of" ["version","spot"] spEnt)(fy:Fn P w K mg base 14 "guarded" ["guards","ties"] spGuarded):FnOk P w K mg base CX0 15 f fd ["case"] (spCl C jbI):=by
 have sc:FnScope ["case","versions","told","s","z","ties"] ["case"] (jm kL):=fQ;refine F.okZ sc (fun ax A outer s H vs Q E hr h=>?_);obtain⟨n,B,c,sp,ds,rfl,I,hn,aY,dN,dC,q⟩:=h;refine⟨_,(jd (jaD (jy (i:=1) sc.nd rfl oQ (js jab (yd ["r"] [] rfl (qZ (sc:=jm kL) (N:=["case","versions","told","s","z","ties"]) rfl rfl (by decide +kernel)) (jd4 (jY (zpv 0) rfl)) (fun s H ex=>⟨(ju (i:=0) (show fO (["r"]:List Str) by decide +kernel) rfl oQ),zx,(jQ (ja jq (ja (zpv 0) jb)))⟩)) (jY (zpv 0) rfl))))
   (jd (jy (i:=2) sc.nd rfl oQ (jG jb))
   (jd (ky df rfl (ke (jg on hr (ja (zpv 0) jb))) (kH rfl (jz (ju (i:=3) sc.nd rfl oQ) (jz (ju (i:=4) sc.nd rfl oQ) kr))) (jd (yR (i:=5) sc.nd rfl oQ ["version"] [3,4] rfl (qZ (sc:=jm kL) (N:=["case","versions","told","s","z","ties"]) rfl rfl (by decide +kernel)) (ke (zpv 1)) (fun s H ex=>⟨(ju (i:=0) (show fO (["version","s","z"]:List Str) by decide +kernel) rfl oQ),zx,(jg bQ hr (ja (jg cJ hr (ja (zpv 0) (ja (zpv 1) jb))) (ja (jg cJ hr (ja (zpv 0) (ja (zpv 2) jb))) jb)))⟩))
   (ji (jA (km cH iV iU qa (zpv 2) (ja (jg fy hr (ja (jG (ja (jg bQ hr (ja (zpv 3) (ja (zpv 4) jb))) (ja (jg bQ hr (ja (zpv 4) (ja (zpv 3) jb))) jb))) (ja (zpv 5) jb))) jb))))))
   (ji (jC (zpv 2)))))),?_⟩
 refine jH (σ':=[some (.ref B.o),none,none,none,none,none]) rfl ?_
 try dsimp only[kx]
 refine YN ?_;intro _ _ _;obtain⟨kvs,k1,k2,k3⟩:=I.na;obtain⟨iz,j1,j2,j3⟩:=I.l 0 (by decide);have Hj:B.o≠B.na:=jv I.o k1 (by intro z;cases z);have ww:B.l 0≠B.na:=jv j1 k1 (by intro z;cases z);refine⟨_,rfl,B.o,C,B.dx,_,_,rfl,I.o,T.c,T.n3,rfl,B.na,kvs,rfl,k1,fun ob p hp=>?_⟩;have hU:p≠B.na:=by
  intro z;rw[z,jf]at hp
  cases hp
 have pL:H p=none:=by rw[<- hp,jB hU]
 have kl:kvs.length=c.na.length:=by
  have:=Qz nA k3;rw[az,az]at this;exact this
 refine Yg (Itd B.na ob kvs) kvs.length (fun i σ' G=>∃u rs,σ'=[u]/\G B.na=some (.frz ob (.dK kvs))/\(∀b o,b≠B.na->H b=some o->G b=some o)/\G p=some (.lst rs)/\HeldL G ((c.na.take i).map yl) rs) ⟨none,[],rfl,by rw[jB (eG hU),jf],fun b o hb e=>by rw[jB (jp e pL),jB hb];exact e,jf,jl⟩ ?_ ?_ ?_ ?_
 .rintro σ' G ⟨u,rs,rfl,e,_⟩
  exact⟨e,aD _⟩
 .rintro i σ' G hi ⟨u,rs,rfl,e,_⟩
  exact⟨e,hi⟩
 .rintro i σ' G hi ⟨u,rs,rfl,e,sG,hG,cq⟩ x H2 ⟨rfl,k,v,e1,rfl⟩
  have mE:i < c.na.length:=by omega
  have ek:k=.inr c.na[i]:=by
   have:(kvs.map (·.1))[i]?=some k:=by rw[bz,e1];rfl
   rw[k3,bz,aK mE]at this;exact (dk this).symm
  subst ek;have et:(c.na.take (i+1)).map yl=(c.na.take i).map yl++[yl c.na[i]]:=by rw[eI,aK mE,aX];rfl
  generalize c.na[i]=r at *;unfold qq ZR;refine kR ?_;refine⟨_,rfl,sm rfl,fun t ht=>?_⟩;have s4:=jj ht (.tup [.str "row",.str r]);have rb:=s4 _ _ hG;have kt:TK (upd H2 t (.tup [.str "row",.str r])) (upd (upd H2 t (.tup [.str "row",.str r])) p (.lst (rs++[.ref t]))):=fun b ws eb=>jk (jv eb rb (by intro z;cases z)) eb
  have fk:rs.length<=1000:=by
   rw[<- cq.length,az,cw];omega
  refine⟨_,rb,jJ fk,_,_,rfl,jk (eG hU) (s4 _ _ e),fun b o hb eb=>jk (jp eb pL) (s4 _ _ (sG b o hb eb)),jf,?_⟩;rw[et];exact jT (kt.heldL (cq.mono s4)) (jc (kt.held (jK jf (jc jF (jc jF jl)))) jl)
 rintro σ' G ⟨u,rs,rfl,eF,sG,hG,cq⟩;rw[kl,cu]at cq;have fk:rs.length<=110:=by
  rw[<- cq.length,az];omega
 have fX:HeldL G (c.l 0) iz:=(show TK H G from fun b xs e=>sG b _ (jv e k1 (by intro z;cases z)) e).heldL j2;refine⟨_,rfl,B.o,C,B.dx,_,_,rfl,sG _ _ Hj I.o,T.c,T.n4,rfl,p,B.l 0,rs,iz,rfl,rfl,hG,sG _ _ ww j1,Yv (by omega),fun lv nV=>?_⟩;have sS:lv≠B.na:=fun z=>by rw[z,eF]at nV;cases nV
 have wu:∀(o:Obj) (z:HO),H B.na≠some (.frz o z):=fun o z e=>by rw[k1]at e;cases e
 refine⟨B.na,ob,kvs,(jB (eG sS)).trans eF,wu,?_⟩;have Dp:H lv=none:=by
  cases z:H lv with
  | none=>rfl
  | some o=>rw[sG lv o sS z]at nV;cases nV
 have hV:HeldL G (c.na.map yl++c.l 0) (rs++iz):=jT cq fX;have sT:(c.na.map yl++c.l 0).length<=220:=by
  rw[hV.length,bV];omega
 have s1:Same H (upd (upd G lv (.lst (rs++iz))) B.na (.dK kvs)):=fun b o e=>by
  by_cases z:b=B.na
  .rw[z,jf,<- k1,<- z]
   exact e
  .rw[jB z,jB (jp e Dp)]
   exact sG b o z e
 have tG:TK G (upd (upd G lv (.lst (rs++iz))) B.na (.dK kvs)):=fun b xs e=>by
  rw[jB (jv e eF (by intro z;cases z)),jB (jp e nV)];exact e
 have LJ:=tG.heldL hV;have e1:upd (upd G lv (.lst (rs++iz))) B.na (.dK kvs) lv=some (.lst (rs++iz)):=by rw[jB sS,jf]
 generalize upd (upd G lv (.lst (rs++iz))) B.na (.dK kvs)=H1 at *;generalize rs++iz=us at *;have DH:ds=jbu (c.na.map yl++c.l 0) (kn sp):=dC;generalize (c.na.map yl++c.l 0)=vs at *;clear cq fX hV tG nV Dp sS eF sG hG hp pL hU;refine gQ ?_;refine⟨sm rfl,fun lt aP=>?_⟩;refine gQ ?_;have s2:=jj aP (.lst []);have e2:upd H1 lt (.lst []) lt=some (.lst []):=jf;have fZ:=s2 _ _ e1;have LI:=LJ.mono s2;generalize upd H1 lt (.lst [])=H2 at *;have cF:=s1.trans s2;have Dq:H lt=none:=s1.free aP;refine⟨_,rfl,n,B,c,sp,rfl,I.same cF,by omega,aY,fun p hp=>(dN p hp).dep,fun lq qz H3 s3 pQ pR mw=>?_⟩;have cP:=cF.trans s3;have tY:=s3 _ _ fZ;have iK:=s3 _ _ e2;have LH:=LI.mono s3;have mx:=mw.length;rw[az]at mx;have iD:sp.length<=110:=by
  obtain⟨xs,_,a2,a3⟩:=I.l 2 (by decide);rw[aY]at a2;have:=a2.length;rw[az]at this;omega
 have lu:(kn sp).length<=12100:=aJ (Zo sp) (aJ (FR iD iD) (by decide));have cl:∀q,(jdc vs q).length<=220:=fun q=>aJ (kW _ _) (by unfold ZO;rw[az];exact sT)
 have Ev:∀i,((((kn sp).take i).flatMap (jdc vs)).length)<=2662000:=fun i=>by
  refine aJ (zf (m:=220) fun q _=>cl q) ?_;have:((kn sp).take i).length<=12100:=by rw[cw];omega
  exact aJ (nn 220 this) (by decide)
 refine⟨lq,rfl,⟨_,SqL.of pR⟩,?_⟩;have wn:lq≠lt:=fun z=>by rw[z,e2]at pQ;cases pQ
 let Pv:Nat->L2.St->Hp->Prop:=fun i σ G=>∃u3 u4 u5 zs,σ=[some (.ref B.o),some (.ref lv),some (.ref lt),u3,u4,u5]/\(∀b o,b≠lt->H3 b=some o->G b=some o)/\G lt=some (.lst zs)/\HeldL G (((kn sp).take i).flatMap (jdc vs)) zs
 refine kG (xs:=qz) Pv ⟨none,none,none,[],rfl,fun _ _ _ e=>e,iK,jl⟩ ?_ ?_ ?_
 .rintro i σ G _ ⟨u3,u4,u5,zs,rfl,sG,_⟩
  exact SqL.of (sG _ _ wn pR)
 .rintro i x σ G hx ⟨u3,u4,u5,zs,rfl,sG,hG,cf⟩
  have hi:i < (kn sp).length:=by rw[mx];exact (bL.mp hx).1
  have tk:TK H3 G:=fun b xs e=>sG b _ (jv e iK (by intro z;cases z)) e
  have dY:Held G (KR (kn sp)[i]) x:=tk.held (j7 mw (by rw[bz,aK hi];rfl) hx);have et:=kM (f:=jdc vs) hi;have mJ:=Jq (cT hi);have c1:=dN _ mJ.1;have c2:=dN _ mJ.2;generalize (kn sp)[i]=pq at *;obtain⟨a,x1,x2,rfl,ha,h1,h2⟩:=jaV dY;refine qN ?_;intro _;refine⟨a,_,rfl,SqT.of ha,rfl,x1,_,rfl,x2,_,rfl,rfl,?_⟩;refine gQ ?_;have Cb:lv≠lt:=jp e1 aP;have DQ:=tk.heldL LH;have Ek:G lv=some (.lst us):=sG _ _ Cb tY;have CW:=DQ.length;refine⟨_,rfl,lv,rfl,⟨_,SqL.of Ek⟩,fun p hp=>?_⟩;have s4:=jj hp (.lst []);refine Js (xs:=us) (fun j σ' G'=>∃u ts,σ'=[u,some x1,some x2]/\Same G G'/\G' p=some (.lst ts)/\HeldL G' ((ZO (vs.take j) pq).map t3) ts) ⟨none,[],rfl,s4,jf,jl⟩ ?_ ?_ ?_
  .rintro j σ' G' _ ⟨u,ts,rfl,aQ,_⟩
   exact SqL.of (aQ _ _ Ek)
  .rintro j y σ' G' hy ⟨u,ts,rfl,aQ,dr,fV⟩
   have hj:j < vs.length:=by rw[CW];exact (bL.mp hy).1
   have bZ:Held G' vs[j] y:=(j7 DQ (aK hj) hy).mono aQ;have et:(ZO (vs.take (j+1)) pq).map t3=(ZO (vs.take j) pq).map t3++[kT (jW vs[j] pq.1) (jW vs[j] pq.2)]:=by unfold ZO;rw[eI,aK hj,aX,aX];rfl
   have Is:ts.length<=1000:=by
    rw[<- fV.length,az];unfold ZO;rw[az,cw];omega
   generalize vs[j]=v at *;unfold qq ZR;refine kR ?_;refine⟨_,rfl,_,rfl,y,x1,v,pq.1,rfl,bZ,h1.mono aQ,fun rl G4 s5 Ln=>?_⟩;refine⟨_,rfl,_,rfl,y,x2,v,pq.2,rfl,bZ.mono s5,(h2.mono aQ).mono s5,fun Ab G5 s6 Lm=>?_⟩;refine⟨rl,Ab,_,_,rfl,Ln.mono s6,Lm,fun tt G6 s7 ht=>?_⟩;have v0:=s5.trans (s6.trans s7);have Db:=v0 _ _ dr;have kt:TK G6 (upd G6 p (.lst (ts++[tt]))):=fun b ws eb=>jk (jv eb Db (by intro z;cases z)) eb
   refine⟨_,Db,jJ Is,_,_,rfl,fun b o e=>jk (jp e hp) (v0 _ _ (aQ _ _ e)),jf,?_⟩;rw[et];exact jT (kt.heldL (fV.mono v0)) (jc (kt.held ht) jl)
  rintro σ' G' ⟨u,ts,rfl,aQ,dr,fV⟩;rw[<- CW,cu]at fV;refine gQ ?_;refine⟨_,rfl,.inl ⟨rfl,_,SqL.of (aQ _ _ hG)⟩,?_⟩;refine⟨_,rfl,_,rfl,x1,x2,pq.1,pq.2,rfl,h1.mono aQ,h2.mono aQ,fun ta Ga sa dA=>?_⟩;have vY:=aQ.trans sa;refine⟨_,rfl,_,rfl,x2,x1,pq.2,pq.1,rfl,h2.mono vY,h1.mono vY,fun tb Gb sb gG=>⟨sm rfl,fun lg cQ=>?_⟩⟩;have eN:=jj cQ (.lst [ta,tb]);have gV:=vY.trans (sb.trans eN);refine⟨_,rfl,lg,p,[atM pq.1 pq.2,atM pq.2 pq.1],ZO vs pq,_,ts,rfl,jf,jc ((dA.mono sb).mono eN) (jc (gG.mono eN) jl),(sa.trans (sb.trans eN)) _ _ dr,fV.mono (sa.trans (sb.trans eN)),fun g hg=>?_,by show 2<=1000;decide,by unfold ZO;rw[az];omega,fun l9 cU G9 s9 mB e9 h9=>?_⟩
  .rcases bG.mp hg with rfl | hg
   .exact c1.can c2
   .rw[aN.mp hg]
    exact c2.can c1
  have gE:=gV.trans s9;have dv:=gE _ _ hG;have z9:cU.length<=220:=by
   rw[<- h9.length];exact cl pq
  have zl:zs.length<=2662000:=by
   rw[<- cf.length];exact Ev i
  refine⟨lt,l9,zs,cU,rfl,rfl,dv,e9,c6 (kc (by omega)),?_⟩;have kt:TK G9 (upd G9 lt (.lst (zs++cU))):=fun b ws eb=>jk (jv eb dv (by intro z;cases z)) eb
  refine⟨_,_,_,_,rfl,fun b o hb e=>jk hb (gE _ _ (sG b o hb e)),jf,?_⟩;rw[et];exact jT (kt.heldL (cf.mono gE)) (kt.heldL h9)
 .rintro σ G ⟨u3,u4,u5,zs,rfl,sG,hG,cf⟩
  rw[<- mx,cu]at cf;have sF:Same H G:=fun b o e=>sG _ _ (fun z=>by rw[z,Dq]at e;cases e) (cP _ _ e)
  refine⟨_,rfl,q lt zs G sF Dq hG (by rw[DH];exact cf) ?_⟩;have:=Ev (kn sp).length;rw[cu]at this;rw[DH];exact aJ this (by decide)
end
abbrev qV:aF:=top 30
abbrev qU:aF:=top 31
structure EaT where
 t:P2
 u:P2
 v:D
 way:Str
 b:Sum D P2
 k:Int
def bD:Sum D P2->D
 | .inl v=>.tup [.str "row",v]
 | .inr p=>.tup [.str "is",p2 p]
def EaT.body(e:EaT):D:=jfR e.v e.way (bD e.b) e.k
def EaT.toD(e:EaT):D:=.tup [p2 e.t,p2 e.u,e.body]
def EaT.at_(e:EaT)(s:P2):P2:=match e.b with
 | .inl v=>jW v s
 | .inr p=>p
def EaT.tie(e:EaT)(s:P2):T3:=if e.way = ">=" then atM (mor (e.at_ s) e.k) (jW e.v s) else atM (jW e.v s) (mor (e.at_ s) e.k)
def eaC(e:EaT)(s:P2):List D:=kz [atM e.t s,atM s e.u] [e.tie s]
def eaF(sp:List P2)(es:List EaT):List D:=es.flatMap fun e=>sp.flatMap (eaC e)
structure RiT where
 t:P2
 u:P2
 v:D
def RiT.toD(e:RiT):D:=.tup [p2 e.t,p2 e.u,e.v]
def riC(e:RiT)(q:Prod P2 P2):List D:=kz [atM e.t q.1,atM q.1 q.2,atM q.2 e.u] [atM (jW e.v q.1) (jW e.v q.2)]
def riF(sp:List P2)(es:List RiT):List D:=es.flatMap fun e=>(kn sp).flatMap (riC e)
def jeN(c:Cs)(sp:List P2)(ds:List D):Prop:=∃es:List EaT,c.l 4=es.map EaT.toD/\(∀e∈es,SpG e.t/\SpG e.u)/\ds=eaF sp es
def jeL(c:Cs)(sp:List P2)(ds:List D):Prop:=∃es:List RiT,c.l 5=es.map RiT.toD/\(∀e∈es,SpG e.t/\SpG e.u)/\ds=riF sp es
theorem yD{a b c:D}(h:Held H (.tup [a,b,c]) v):∃t x y z,v=.ref t/\H t=some (.tup [x,y,z])/\Held H a x/\Held H b y/\Held H c z:=by
 obtain⟨t,xs,rfl,ht,hx⟩:=jE h;obtain⟨x,r,rfl,h1,h2⟩:=jo hx;obtain⟨y,r,rfl,h3,h4⟩:=jo h2;obtain⟨z,r,rfl,h5,h6⟩:=jo h4
 cases jM h6
 exact⟨t,x,y,z,rfl,ht,h1,h3,h5⟩
theorem jfQ{e:EaT}{s:P2}{u:V}{Q:VK}{E:XK}(hb:Held H e.body v)(hs:Held H (p2 s) u)(k:∀v' H',Same H H'->Held H' (t3 (e.tie s)) v'->Q v' H'):spBodyT [v,u] H Q E:=by
 obtain⟨t,u',vv,way,b,kk⟩:=e;have et:∀b':P2,qw vv way b' kk s=t3 (if way = ">=" then atM (mor b' kk) (jW vv s) else atM (jW vv s) (mor b' kk)):=fun b'=>by
  unfold qw;split <;> rfl
 cases b with
 | inl v2=>
  refine⟨⟨fun _=>none,fun x=>if x = "a" then some vv else some v2,[],fun _=>[]⟩,"a",way,.row "b",kk,s,v,u,rfl,hb,hs,fun v' H' s' h=>k v' H' s' ?_⟩;have h:Held H' (qw vv way (jW v2 s) kk s) v':=h;rw[et]at h;exact h
 | inr p=>
  refine⟨⟨fun _=>some p,fun x=>some vv,[],fun _=>[]⟩,"a",way,.is "b",kk,s,v,u,rfl,hb,hs,fun v' H' s' h=>k v' H' s' ?_⟩;have h:Held H' (qw vv way p kk s) v':=h;rw[et]at h;exact h
section
theorem jg2(T:ClsC K C)(F:Fun K "each_clauses" "each_clauses" qV f fd)(bQ:Fn P w K mg base 1 "at_most" ["one","other"] spAtM)(ow:Fn P w K mg base 2 "body_tie" ["body","spot"] spBodyT)(fy:Fn P w K mg base 14 "guarded" ["guards","ties"] spGuarded):FnOk P w K mg base CX0 15 f fd ["case"] (spCl C jeN):=by
 have sc:FnScope ["case","told","t","u","body","s"] ["case"] (jm qV):=fQ;refine F.okZ sc (fun ax A outer s H vs Q E hr h=>?_);obtain⟨n,B,c,sp,ds,rfl,I,hn,aY,dN,⟨es,iF,pU,dC⟩,q⟩:=h;refine⟨_,(jd (jy (i:=1) sc.nd rfl oQ (jG jb))
   (jd (ky df rfl (ke (jY (zpv 0) rfl)) (kH rfl (jz (ju (i:=2) sc.nd rfl oQ) (jz (ju (i:=3) sc.nd rfl oQ) (jz (ju (i:=4) sc.nd rfl oQ) kr)))) (ji (ky df rfl (ke (jY (zpv 0) rfl)) (ju (i:=5) sc.nd rfl oQ) (ji (jA (km cH iV iU qa (zpv 1) (ja (jg fy hr (ja (jG (ja (jg bQ hr (ja (zpv 2) (ja (zpv 5) jb))) (ja (jg bQ hr (ja (zpv 5) (ja (zpv 3) jb))) jb))) (ja (jG (ja (jg ow hr (ja (zpv 4) (ja (zpv 5) jb))) jb)) jb))) jb)))))))
   (ji (jC (zpv 1))))),?_⟩
 refine jH (σ':=[some (.ref B.o),none,none,none,none,none]) rfl ?_
 try dsimp only[kx]
 refine YO ?_;intro _ _;obtain⟨xs,a1,a2,a3⟩:=I.l 4 (by decide);rw[iF]at a2;have dq:=a2.length;rw[az]at dq;obtain⟨ys,b1,b2,b3⟩:=I.l 2 (by decide);rw[aY]at b2;have mh:=b2.length;rw[az]at mh;have cl:∀e s,(eaC e s).length<=1:=fun e s=>kW _ _
 have lF:∀e j,((sp.take j).flatMap (eaC e)).length<=110:=fun e j=>by
  refine aJ (zf (m:=1) fun s _=>cl e s) ?_;rw[cw,Nat.mul_one];omega
 have lE:∀i,((es.take i).flatMap fun e=>sp.flatMap (eaC e)).length<=12100:=fun i=>by
  refine aJ (zf (m:=110) fun e _=>?_) ?_
  .have:=lF e sp.length
   rw[cu]at this;exact this
  .have:(es.take i).length<=110:=by rw[cw];omega
   exact aJ (nn 110 this) (by decide)
 refine⟨sm rfl,fun lt aP=>?_⟩;refine gQ ?_;have s1:=jj aP (.lst []);have e1:upd H lt (.lst []) lt=some (.lst []):=jf;generalize upd H lt (.lst [])=H1 at *;refine⟨_,rfl,B.o,C,B.dx,_,_,rfl,s1 _ _ I.o,T.c,T.n8,rfl,B.l 4,rfl,⟨_,SqL.of (s1 _ _ a1)⟩,?_⟩;have nox:B.l 4≠lt:=jp a1 aP;have me:B.l 2≠lt:=jp b1 aP;have wt:B.o≠lt:=jp I.o aP;let Pv:Nat->L2.St->Hp->Prop:=fun i σ G=>∃u2 u3 u4 u5 zs,σ=[some (.ref B.o),some (.ref lt),u2,u3,u4,u5]/\(∀b o,b≠lt->H1 b=some o->G b=some o)/\G lt=some (.lst zs)/\HeldL G ((es.take i).flatMap fun e=>sp.flatMap (eaC e)) zs
 refine kG (xs:=xs) Pv ⟨none,none,none,none,[],rfl,fun _ _ _ e=>e,e1,jl⟩ ?_ ?_ ?_
 .rintro i σ G _ ⟨u2,u3,u4,u5,zs,rfl,sG,_⟩
  exact SqL.of (sG _ _ nox (s1 _ _ a1))
 .rintro i x σ G hx ⟨u2,u3,u4,u5,zs,rfl,sG,hG,cf⟩
  have hi:i < es.length:=by rw[dq];exact (bL.mp hx).1
  have tk:TK H1 G:=fun b xs e=>sG b _ (jv e e1 (by intro z;cases z)) e
  have dY:Held G es[i].toD x:=tk.held ((j7 a2 (by rw[bz,aK hi];rfl) hx).mono s1);have et:=kM (f:=fun e=>sp.flatMap (eaC e)) hi;have c1:=pU _ (cT hi);have rn:=lF es[i];have Eu:=lE i;generalize es[i]=e at *;obtain⟨a,x1,x2,x3,rfl,ha,h1,h2,h3⟩:=yD dY;refine qN ?_;intro _;refine⟨a,_,rfl,SqT.of ha,rfl,x1,_,rfl,x2,_,rfl,x3,_,rfl,rfl,?_⟩;refine jH (σ':=[some (.ref B.o),some (.ref lt),some x1,some x2,some x3,u5]) rfl ?_;refine⟨_,rfl,B.o,C,B.dx,_,_,rfl,sG _ _ wt (s1 _ _ I.o),T.c,T.n6,rfl,B.l 2,rfl,⟨_,SqL.of (sG _ _ me (s1 _ _ b1))⟩,?_⟩;let Pw:Nat->L2.St->Hp->Prop:=fun j σ G'=>∃u5 zs,σ=[some (.ref B.o),some (.ref lt),some x1,some x2,some x3,u5]/\(∀b o,b≠lt->G b=some o->G' b=some o)/\G' lt=some (.lst zs)/\HeldL G' (((es.take i).flatMap fun e=>sp.flatMap (eaC e))++(sp.take j).flatMap (eaC e)) zs
  refine kG (xs:=ys) Pw ⟨u5,zs,rfl,fun _ _ _ e=>e,hG,by rw[io,nB,dl];exact cf⟩ ?_ ?_ ?_
  .rintro j σ G' _ ⟨u5,zs,rfl,aQ,_⟩
   exact SqL.of (aQ _ _ me (sG _ _ me (s1 _ _ b1)))
  .rintro j y σ G' hy ⟨u5,zs,rfl,aQ,ee,db⟩
   have hj:j < sp.length:=by rw[mh];exact (bL.mp hy).1
   have dW:TK G G':=fun b xs e=>aQ b _ (jv e hG (by intro z;cases z)) e
   have bZ:Held G' (p2 sp[j]) y:=dW.held (tk.held ((j7 b2 (by rw[bz,aK hj];rfl) hy).mono s1));have cv:=dW.held h1;have eh:=dW.held h2;have ie:=dW.held h3;have oh:=kM (f:=eaC e) hj;have c2:=dN _ (cT hj);have Et:=rn j;generalize sp[j]=s at *;refine qN ?_;intro _;refine gQ ?_;refine⟨_,rfl,.inl ⟨rfl,_,SqL.of ee⟩,?_⟩;refine⟨_,rfl,_,rfl,x1,y,e.t,s,rfl,cv,bZ,fun ta Ga sa dA=>?_⟩;refine⟨_,rfl,_,rfl,y,x2,s,e.u,rfl,bZ.mono sa,eh.mono sa,fun tb Gb sb gG=>⟨sm rfl,fun lg cQ=>?_⟩⟩;have eN:=jj cQ (.lst [ta,tb]);have eg:upd Gb lg (.lst [ta,tb]) lg=some (.lst [ta,tb]):=jf;have nR:=(dA.mono sb).mono eN;have nQ:=gG.mono eN;generalize upd Gb lg (.lst [ta,tb])=Gc at *;have gV:=sa.trans (sb.trans eN);refine⟨_,rfl,_,rfl,jfQ (E:=E0) (e:=e) (s:=s) (ie.mono gV) (bZ.mono gV) fun tc Gd sd xk=>⟨sm rfl,fun lh xA=>?_⟩⟩;have se:=jj xA (.lst [tc]);have ss:=sd.trans se;have o7:=gV.trans ss;refine⟨lg,lh,[atM e.t s,atM s e.u],[e.tie s],_,_,rfl,ss _ _ eg,jc (nR.mono ss) (jc (nQ.mono ss) jl),jf,jc (xk.mono se) jl,fun g hg=>?_,by show 2<=1000;decide,by show 1<=1000;decide,fun l9 cU G9 s9 mB e9 h9=>?_⟩
   .rcases bG.mp hg with rfl | hg
    .exact c1.1.can c2
    .rw[aN.mp hg]
     exact c2.can c1.2
   have gE:=o7.trans s9;have dv:=gE _ _ ee;have z9:cU.length<=1:=by
    rw[<- h9.length];exact cl e s
   have zl:zs.length<=13000:=by
    rw[<- db.length,bV];omega
   refine⟨lt,l9,zs,cU,rfl,rfl,dv,e9,c6 (kc (by omega)),?_⟩;have kt:TK G9 (upd G9 lt (.lst (zs++cU))):=fun b ws eb=>jk (jv eb dv (by intro z;cases z)) eb
   refine⟨_,_,rfl,fun b o hb e=>jk hb (gE _ _ (aQ b o hb e)),jf,?_⟩;rw[oh,<- bh];exact jT (kt.heldL (db.mono gE)) (kt.heldL h9)
  .rintro σ G' ⟨u5,zs,rfl,aQ,ee,db⟩
   rw[<- mh,cu]at db;refine⟨_,_,_,_,zs,rfl,fun b o hb eb=>aQ b o hb (sG b o hb eb),ee,?_⟩;rw[et];exact db
 .rintro σ G ⟨u2,u3,u4,u5,zs,rfl,sG,hG,cf⟩
  rw[<- dq,cu]at cf;have sF:Same H G:=fun b o e=>sG _ _ (jp e aP) (s1 _ _ e)
  refine⟨_,rfl,q lt zs G sF aP hG (by rw[dC];exact cf) ?_⟩;have:=lE es.length;rw[cu]at this;rw[dC];exact aJ this (by decide)
theorem jgS(T:ClsC K C)(F:Fun K "rise_clauses" "rise_clauses" qU f fd)(on:Fn P w K mg base 14 "spot_pairs" ["case"] (spPairs C))(bQ:Fn P w K mg base 1 "at_most" ["one","other"] spAtM)(cJ:Fn P w K mg base 1 "entry_of" ["version","spot"] spEnt)(fy:Fn P w K mg base 14 "guarded" ["guards","ties"] spGuarded):FnOk P w K mg base CX0 15 f fd ["case"] (spCl C jeL):=by
 have sc:FnScope ["case","told","t","u","version","s","z","tie"] ["case"] (jm qU):=fQ;refine F.okZ sc (fun ax A outer s H vs Q E hr h=>?_);obtain⟨n,B,c,sp,ds,rfl,I,hn,aY,dN,⟨es,iF,pU,dC⟩,q⟩:=h;refine⟨_,(jd (jy (i:=1) sc.nd rfl oQ (jG jb))
   (jd (ky df rfl (ke (jY (zpv 0) rfl)) (kH rfl (jz (ju (i:=2) sc.nd rfl oQ) (jz (ju (i:=3) sc.nd rfl oQ) (jz (ju (i:=4) sc.nd rfl oQ) kr)))) (ji (ky df rfl (ke (jg on hr (ja (zpv 0) jb))) (kH rfl (jz (ju (i:=5) sc.nd rfl oQ) (jz (ju (i:=6) sc.nd rfl oQ) kr))) (jd (jy (i:=7) sc.nd rfl oQ (jg bQ hr (ja (jg cJ hr (ja (zpv 4) (ja (zpv 5) jb))) (ja (jg cJ hr (ja (zpv 4) (ja (zpv 6) jb))) jb))))
   (ji (jA (km cH iV iU qa (zpv 1) (ja (jg fy hr (ja (jG (ja (jg bQ hr (ja (zpv 2) (ja (zpv 5) jb))) (ja (jg bQ hr (ja (zpv 5) (ja (zpv 6) jb))) (ja (jg bQ hr (ja (zpv 6) (ja (zpv 3) jb))) jb)))) (ja (jG (ja (zpv 7) jb)) jb))) jb))))))))
   (ji (jC (zpv 1))))),?_⟩
 refine jH (σ':=[some (.ref B.o),none,none,none,none,none,none,none]) rfl ?_
 try dsimp only[kx]
 refine YO ?_;intro _ _;obtain⟨xs,a1,a2,a3⟩:=I.l 5 (by decide);rw[iF]at a2;have dq:=a2.length;rw[az]at dq;have iD:sp.length<=110:=by
  obtain⟨xs,_,a2,a3⟩:=I.l 2 (by decide);rw[aY]at a2;have:=a2.length;rw[az]at this;omega
 have lu:(kn sp).length<=12100:=aJ (Zo sp) (aJ (FR iD iD) (by decide));have cl:∀e q,(riC e q).length<=1:=fun e q=>kW _ _
 have lF:∀e j,(((kn sp).take j).flatMap (riC e)).length<=12100:=fun e j=>by
  refine aJ (zf (m:=1) fun s _=>cl e s) ?_;rw[cw,Nat.mul_one];omega
 have lE:∀i,((es.take i).flatMap fun e=>(kn sp).flatMap (riC e)).length<=1331000:=fun i=>by
  refine aJ (zf (m:=12100) fun e _=>?_) ?_
  .have:=lF e (kn sp).length
   rw[cu]at this;exact this
  .have:(es.take i).length<=110:=by rw[cw];omega
   exact aJ (nn 12100 this) (by decide)
 refine⟨sm rfl,fun lt aP=>?_⟩;refine gQ ?_;have s1:=jj aP (.lst []);have e1:upd H lt (.lst []) lt=some (.lst []):=jf;generalize upd H lt (.lst [])=H1 at *;refine⟨_,rfl,B.o,C,B.dx,_,_,rfl,s1 _ _ I.o,T.c,T.n9,rfl,B.l 5,rfl,⟨_,SqL.of (s1 _ _ a1)⟩,?_⟩;have nox:B.l 5≠lt:=jp a1 aP;let Pv:Nat->L2.St->Hp->Prop:=fun i σ G=>∃u2 u3 u4 u5 u6 u7 zs,σ=[some (.ref B.o),some (.ref lt),u2,u3,u4,u5,u6,u7]/\(∀b o,b≠lt->H1 b=some o->G b=some o)/\G lt=some (.lst zs)/\HeldL G ((es.take i).flatMap fun e=>(kn sp).flatMap (riC e)) zs
 refine kG (xs:=xs) Pv ⟨none,none,none,none,none,none,[],rfl,fun _ _ _ e=>e,e1,jl⟩ ?_ ?_ ?_
 .rintro i σ G _ ⟨u2,u3,u4,u5,u6,u7,zs,rfl,sG,_⟩
  exact SqL.of (sG _ _ nox (s1 _ _ a1))
 .rintro i x σ G hx ⟨u2,u3,u4,u5,u6,u7,zs,rfl,sG,hG,cf⟩
  have hi:i < es.length:=by rw[dq];exact (bL.mp hx).1
  have tk:TK H1 G:=fun b xs e=>sG b _ (jv e e1 (by intro z;cases z)) e
  have dY:Held G es[i].toD x:=tk.held ((j7 a2 (by rw[bz,aK hi];rfl) hx).mono s1);have et:=kM (f:=fun e=>(kn sp).flatMap (riC e)) hi;have c1:=pU _ (cT hi);have rn:=lF es[i];have Eu:=lE i;generalize es[i]=e at *;obtain⟨a,x1,x2,x3,rfl,ha,h1,h2,h3⟩:=yD dY;refine qN ?_;intro _;refine⟨a,_,rfl,SqT.of ha,rfl,x1,_,rfl,x2,_,rfl,x3,_,rfl,rfl,?_⟩;refine jH (σ':=[some (.ref B.o),some (.ref lt),some x1,some x2,some x3,u5,u6,u7]) rfl ?_;have GP:Same H G:=fun b o eb=>sG b o (jp eb aP) (s1 _ _ eb)
  refine⟨_,rfl,n,B,c,sp,rfl,I.same GP,by omega,aY,fun p hp=>(dN p hp).dep,fun lq qz G1 s3 pQ pR mw=>?_⟩;have mx:=mw.length;rw[az]at mx;refine⟨lq,rfl,⟨_,SqL.of pR⟩,?_⟩;have wn:lq≠lt:=fun z=>by rw[z,hG]at pQ;cases pQ
  have D8:=s3 _ _ hG;have Hx:=cf.mono s3;have h1:=h1.mono s3;have h2:=h2.mono s3;have h3:=h3.mono s3;let Pw:Nat->L2.St->Hp->Prop:=fun j σ G'=>∃u5 u6 u7 zs,σ=[some (.ref B.o),some (.ref lt),some x1,some x2,some x3,u5,u6,u7]/\(∀b o,b≠lt->G1 b=some o->G' b=some o)/\G' lt=some (.lst zs)/\HeldL G' (((es.take i).flatMap fun e=>(kn sp).flatMap (riC e))++((kn sp).take j).flatMap (riC e)) zs
  refine kG (xs:=qz) Pw ⟨u5,u6,u7,zs,rfl,fun _ _ _ e=>e,D8,by rw[io,nB,dl];exact Hx⟩ ?_ ?_ ?_
  .rintro j σ G' _ ⟨u5,u6,u7,zs,rfl,aQ,_⟩
   exact SqL.of (aQ _ _ wn pR)
  .rintro j y σ G' hy ⟨u5,u6,u7,zs,rfl,aQ,ee,db⟩
   have hj:j < (kn sp).length:=by rw[mx];exact (bL.mp hy).1
   have dW:TK G1 G':=fun b xs e=>aQ b _ (jv e D8 (by intro z;cases z)) e
   have bZ:Held G' (KR (kn sp)[j]) y:=dW.held (j7 mw (by rw[bz,aK hj];rfl) hy);have cv:=dW.held h1;have eh:=dW.held h2;have ie:=dW.held h3;have oh:=kM (f:=riC e) hj;have mJ:=Jq (cT hj);have c2:=dN _ mJ.1;have c3:=dN _ mJ.2;have Et:=rn j;generalize (kn sp)[j]=pq at *;obtain⟨b,y1,y2,rfl,hb,k1,k2⟩:=jaV bZ;refine qN ?_;intro _;refine⟨b,_,rfl,SqT.of hb,rfl,y1,_,rfl,y2,_,rfl,rfl,?_⟩;refine jH (σ':=[some (.ref B.o),some (.ref lt),some x1,some x2,some x3,some y1,some y2,u7]) rfl ?_;refine⟨_,rfl,_,rfl,x3,y1,e.v,pq.1,rfl,ie,k1,fun rl Ga sa Ll=>?_⟩;refine⟨_,rfl,_,rfl,x3,y2,e.v,pq.2,rfl,ie.mono sa,k2.mono sa,fun Ab Gb sb Lj=>?_⟩;refine⟨rl,Ab,_,_,rfl,Ll.mono sb,Lj,fun tt Gc eN Ib=>?_⟩;refine gQ ?_;have gV:=sa.trans (sb.trans eN);refine⟨_,rfl,.inl ⟨rfl,_,SqL.of (gV _ _ ee)⟩,?_⟩;refine⟨_,rfl,_,rfl,x1,y1,e.t,pq.1,rfl,cv.mono gV,k1.mono gV,fun ta Gd sd dA=>?_⟩;have vX:=gV.trans sd;refine⟨_,rfl,_,rfl,y1,y2,pq.1,pq.2,rfl,k1.mono vX,k2.mono vX,fun tb Ge se gG=>?_⟩;have o7:=vX.trans se;refine⟨_,rfl,_,rfl,y2,x2,pq.2,e.u,rfl,k2.mono o7,eh.mono o7,fun tc Gf sf xk=>⟨sm rfl,fun lg cQ=>?_⟩⟩;have sg:=jj cQ (.lst [ta,tb,tc]);have eg:upd Gf lg (.lst [ta,tb,tc]) lg=some (.lst [ta,tb,tc]):=jf;have nR:=(dA.mono se).mono (sf.trans sg);have nQ:=gG.mono (sf.trans sg);have Ih:=xk.mono sg;have Ia:=Ib.mono (sd.trans (se.trans (sf.trans sg)));have GR:=o7.trans (sf.trans sg);generalize upd Gf lg (.lst [ta,tb,tc])=Gg at *;refine⟨_,rfl,sm rfl,fun lh xA=>?_⟩;have sh:=jj xA (.lst [tt]);have GQ:=GR.trans sh;refine⟨lg,lh,[atM e.t pq.1,atM pq.1 pq.2,atM pq.2 e.u],[atM (jW e.v pq.1) (jW e.v pq.2)],_,_,rfl,sh _ _ eg,jc (nR.mono sh) (jc (nQ.mono sh) (jc (Ih.mono sh) jl)),jf,jc (Ia.mono sh) jl,fun g hg=>?_,by show 3<=1000;decide,by show 1<=1000;decide,fun l9 cU G9 s9 mB e9 h9=>?_⟩
   .rcases bG.mp hg with rfl | hg
    .exact c1.1.can c2
    rcases bG.mp hg with rfl | hg
    .exact c2.can c3
    .rw[aN.mp hg]
     exact c3.can c1.2
   have gE:=GQ.trans s9;have dv:=gE _ _ ee;have z9:cU.length<=1:=by
    rw[<- h9.length];exact cl e pq
   have zl:zs.length<=1400000:=by
    rw[<- db.length,bV];omega
   refine⟨lt,l9,zs,cU,rfl,rfl,dv,e9,c6 (kc (by omega)),?_⟩;have kt:TK G9 (upd G9 lt (.lst (zs++cU))):=fun b ws eb=>jk (jv eb dv (by intro z;cases z)) eb
   refine⟨_,_,_,_,rfl,fun b o hb e=>jk hb (gE _ _ (aQ b o hb e)),jf,?_⟩;rw[oh,<- bh];exact jT (kt.heldL (db.mono gE)) (kt.heldL h9)
  .rintro σ G' ⟨u5,u6,u7,zs,rfl,aQ,ee,db⟩
   rw[<- mx,cu]at db;refine⟨_,_,_,_,_,_,zs,rfl,fun b o hb eb=>aQ b o hb (s3 _ _ (sG b o hb eb)),ee,?_⟩;rw[et];exact db
 .rintro σ G ⟨u2,u3,u4,u5,u6,u7,zs,rfl,sG,hG,cf⟩
  rw[<- dq,cu]at cf;have sF:Same H G:=fun b o e=>sG _ _ (jp e aP) (s1 _ _ e)
  refine⟨_,rfl,q lt zs G sF aP hG (by rw[dC];exact cf) ?_⟩;have:=lE es.length;rw[cu]at this;rw[dC];exact aJ this (by decide)
end
abbrev qJ:aF:=top 29
structure PuT where
 s:P2
 a:D
 v:P2
 b:D
def PuT.toD(e:PuT):D:=.tup [p2 e.s,e.a,p2 e.v,e.b]
def puS(e:PuT)(s:P2):List T3:=[atM (jW e.b s) (jW e.a s),atM (jW e.a s) (jW e.b s)]
def puC(e:PuT)(s:P2):List D:=if s=e.s then [] else kz [atM s e.s,atM e.s s] [atM (jW e.b s) e.v,atM e.v (jW e.b s)]++(kz [atM s (mor e.s (-1))] (puS e s)++kz [atM (mor e.s 1) s] (puS e s))
def puF(sp:List P2)(es:List PuT):List D:=es.flatMap fun e=>sp.flatMap (puC e)
def jeM(c:Cs)(sp:List P2)(ds:List D):Prop:=∃es:List PuT,c.l 3=es.map PuT.toD/\(∀e∈es,SpG e.s)/\ds=puF sp es
theorem SpG.mor(h:SpG p)(k:Int):SpG (mor p k):=h
section
theorem jgT(T:ClsC K C)(F:Fun K "put_clauses" "put_clauses" qJ f fd)(bQ:Fn P w K mg base 1 "at_most" ["one","other"] spAtM)(cR:Fn P w K mg base 1 "more_than" ["stood_for","d"] spMore)(cJ:Fn P w K mg base 1 "entry_of" ["version","spot"] spEnt)(mT:Fn P w K mg base 2 "alike" ["one","other"] spLike)(fy:Fn P w K mg base 14 "guarded" ["guards","ties"] spGuarded):FnOk P w K mg base CX0 15 f fd ["case"] (spCl C jeM):=by
 have sc:FnScope ["case","told","spot","ahead","value","behind","s","new","stays"] ["case"] (jm qJ):=fQ;refine F.okZ sc (fun ax A outer s H vs Q E hr h=>?_);have dZ:(A.deeper (cA "put_clauses" (jm qJ) s.heap.objs.size f ax)).units+1+200 < cLine:=by have:=hr.un;omega
 obtain⟨n,B,c,sp,ds,rfl,I,hn,aY,dN,⟨es,iF,pU,dC⟩,q⟩:=h;refine⟨_,(jd (jy (i:=1) sc.nd rfl oQ (jG jb))
   (jd (ky df rfl (ke (jY (zpv 0) rfl)) (kH rfl (jz (ju (i:=2) sc.nd rfl oQ) (jz (ju (i:=3) sc.nd rfl oQ) (jz (ju (i:=4) sc.nd rfl oQ) (jz (ju (i:=5) sc.nd rfl oQ) kr))))) (ji (ky df rfl (ke (jY (zpv 0) rfl)) (ju (i:=6) sc.nd rfl oQ) (ji (jN (jD (yI 200 dZ) (zpv 6) (zpv 2) (jI _)) (jd (jy (i:=7) sc.nd rfl oQ (jg cJ hr (ja (zpv 5) (ja (zpv 6) jb))))
   (jd (jy (i:=8) sc.nd rfl oQ (jg mT hr (ja (zpv 7) (ja (jg cJ hr (ja (zpv 3) (ja (zpv 6) jb))) jb))))
   (jd (jA (km cH iV iU qa (zpv 1) (ja (jg fy hr (ja (jG (ja (jg bQ hr (ja (zpv 6) (ja (zpv 2) jb))) (ja (jg bQ hr (ja (zpv 2) (ja (zpv 6) jb))) jb))) (ja (jg mT hr (ja (zpv 7) (ja (zpv 4) jb))) jb))) jb)))
   (jd (jA (km cH iV iU qa (zpv 1) (ja (jg fy hr (ja (jG (ja (jg bQ hr (ja (zpv 6) (ja (jg cR hr (ja (zpv 2) (ja (ZM ZP je) jb))) jb))) jb)) (ja (zpv 8) jb))) jb)))
   (ji (jA (km cH iV iU qa (zpv 1) (ja (jg fy hr (ja (jG (ja (jg bQ hr (ja (jg cR hr (ja (zpv 2) (ja je jb))) (ja (zpv 6) jb))) jb)) (ja (zpv 8) jb))) jb)))))))) jL)))))
   (ji (jC (zpv 1))))),?_⟩
 refine jH (σ':=[some (.ref B.o),none,none,none,none,none,none,none,none]) rfl ?_
 try dsimp only[kx]
 refine YO ?_;intro _ _;obtain⟨xs,a1,a2,a3⟩:=I.l 3 (by decide);rw[iF]at a2;have dq:=a2.length;rw[az]at dq;obtain⟨ys,b1,b2,b3⟩:=I.l 2 (by decide);rw[aY]at b2;have mh:=b2.length;rw[az]at mh;have cl:∀e s,(puC e s).length<=6:=fun e s=>by
  unfold puC;split
  .exact bT _
  .rw[bV,bV]
   have h1:=kW [atM s e.s,atM e.s s] [atM (jW e.b s) e.v,atM e.v (jW e.b s)];have h2:=kW [atM s (mor e.s (-1))] (puS e s);have h3:=kW [atM (mor e.s 1) s] (puS e s);have h4:(puS e s).length=2:=rfl;have h5:[atM (jW e.b s) e.v,atM e.v (jW e.b s)].length=2:=rfl;omega
 have lF:∀e j,((sp.take j).flatMap (puC e)).length<=660:=fun e j=>by
  refine aJ (zf (m:=6) fun s _=>cl e s) ?_;rw[cw];omega
 have lE:∀i,((es.take i).flatMap fun e=>sp.flatMap (puC e)).length<=72600:=fun i=>by
  refine aJ (zf (m:=660) fun e _=>?_) ?_
  .have:=lF e sp.length
   rw[cu]at this;exact this
  .have:(es.take i).length<=110:=by rw[cw];omega
   exact aJ (nn 660 this) (by decide)
 refine⟨sm rfl,fun lt aP=>?_⟩;refine gQ ?_;have s1:=jj aP (.lst []);have e1:upd H lt (.lst []) lt=some (.lst []):=jf;generalize upd H lt (.lst [])=H1 at *;refine⟨_,rfl,B.o,C,B.dx,_,_,rfl,s1 _ _ I.o,T.c,T.n7,rfl,B.l 3,rfl,⟨_,SqL.of (s1 _ _ a1)⟩,?_⟩;have nox:B.l 3≠lt:=jp a1 aP;have me:B.l 2≠lt:=jp b1 aP;have wt:B.o≠lt:=jp I.o aP;let Pv:Nat->L2.St->Hp->Prop:=fun i σ G=>∃u2 u3 u4 u5 u6 u7 u8 zs,σ=[some (.ref B.o),some (.ref lt),u2,u3,u4,u5,u6,u7,u8]/\(∀b o,b≠lt->H1 b=some o->G b=some o)/\G lt=some (.lst zs)/\HeldL G ((es.take i).flatMap fun e=>sp.flatMap (puC e)) zs
 refine kG (xs:=xs) Pv ⟨none,none,none,none,none,none,none,[],rfl,fun _ _ _ e=>e,e1,jl⟩ ?_ ?_ ?_
 .rintro i σ G _ ⟨u2,u3,u4,u5,u6,u7,u8,zs,rfl,sG,_⟩
  exact SqL.of (sG _ _ nox (s1 _ _ a1))
 .rintro i x σ G hx ⟨u2,u3,u4,u5,u6,u7,u8,zs,rfl,sG,hG,cf⟩
  have hi:i < es.length:=by rw[dq];exact (bL.mp hx).1
  have tk:TK H1 G:=fun b xs e=>sG b _ (jv e e1 (by intro z;cases z)) e
  have dY:Held G es[i].toD x:=tk.held ((j7 a2 (by rw[bz,aK hi];rfl) hx).mono s1);have et:=kM (f:=fun e=>sp.flatMap (puC e)) hi;have c1:=pU _ (cT hi);have rn:=lF es[i];have Eu:=lE i;generalize es[i]=e at *;obtain⟨a,x1,x2,x3,x4,rfl,ha,h1,h2,h3,h4⟩:=zJ dY;refine qN ?_;intro _;refine⟨a,_,rfl,SqT.of ha,rfl,x1,_,rfl,x2,_,rfl,x3,_,rfl,x4,_,rfl,rfl,?_⟩;refine jH (σ':=[some (.ref B.o),some (.ref lt),some x1,some x2,some x3,some x4,u6,u7,u8]) rfl ?_;refine⟨_,rfl,B.o,C,B.dx,_,_,rfl,sG _ _ wt (s1 _ _ I.o),T.c,T.n6,rfl,B.l 2,rfl,⟨_,SqL.of (sG _ _ me (s1 _ _ b1))⟩,?_⟩;let Pw:Nat->L2.St->Hp->Prop:=fun j σ G'=>∃u6 u7 u8 zs,σ=[some (.ref B.o),some (.ref lt),some x1,some x2,some x3,some x4,u6,u7,u8]/\(∀b o,b≠lt->G b=some o->G' b=some o)/\G' lt=some (.lst zs)/\HeldL G' (((es.take i).flatMap fun e=>sp.flatMap (puC e))++(sp.take j).flatMap (puC e)) zs
  refine kG (xs:=ys) Pw ⟨u6,u7,u8,zs,rfl,fun _ _ _ e=>e,hG,by rw[io,nB,dl];exact cf⟩ ?_ ?_ ?_
  .rintro j σ G' _ ⟨u6,u7,u8,zs,rfl,aQ,_⟩
   exact SqL.of (aQ _ _ me (sG _ _ me (s1 _ _ b1)))
  .rintro j y σ G' hy ⟨u6,u7,u8,zs,rfl,aQ,ee,db⟩
   have hj:j < sp.length:=by rw[mh];exact (bL.mp hy).1
   have dW:TK G G':=fun b xs e=>aQ b _ (jv e hG (by intro z;cases z)) e
   have bZ:Held G' (p2 sp[j]) y:=dW.held (tk.held ((j7 b2 (by rw[bz,aK hj];rfl) hy).mono s1));have cv:=dW.held h1;have eh:=dW.held h2;have ie:=dW.held h3;have D9:=dW.held h4;have oh:=kM (f:=puC e) hj;have c2:=dN _ (cT hj);have Et:=rn j;generalize sp[j]=s at *;have zl:zs.length<=74000:=by
    rw[<- db.length,bV];omega
   refine qN ?_;intro _;refine gQ ?_;have dS:=c2.dep;obtain⟨tx,u1,rfl,k1,k2⟩:=jE (show Held G' (.tup [s.1,.int s.2]) y from bZ);obtain⟨ty,Gz,rfl,k3,k4⟩:=jE (show Held G' (.tup [e.s.1,.int e.s.2]) x1 from cv);refine⟨_,rfl,_,rfl,tx,ty,u1,Gz,_,_,rfl,rfl,k1,k3,?_,k2,k4,_,rfl,?_⟩
   .show max s.1.depth (max 0 0)<=200
    omega
   by_cases z:s=e.s
   .rw[Qu (show [s.1,D.int s.2]=[e.s.1,D.int e.s.2] by rw[z])]
    refine kA ⟨_,_,_,zs,rfl,aQ,ee,?_⟩;rw[oh];unfold puC;rw[Qx z,dl];exact db
   rw[Qv (show ¬[s.1,D.int s.2]=[e.s.1,D.int e.s.2] from fun y=>z (yH (Qz D.tup y)))];refine kR ?_;clear k1 k2 k3 k4;refine⟨_,rfl,_,rfl,x4,.ref tx,e.b,s,rfl,D9,bZ,fun nw Ga sa xy=>?_⟩;refine gQ ?_;refine⟨_,rfl,_,rfl,_,rfl,x2,.ref tx,e.a,s,rfl,eh.mono sa,bZ.mono sa,fun nb Gb sb Di=>⟨nw,nb,jW e.b s,jW e.a s,rfl,xy.mono sb,Di,fun ls BP cE Gc eN El Em C5 C4=>?_⟩⟩;refine gQ ?_;have Ce:ls≠lt:=fun z=>by rw[z,sb _ _ (sa _ _ ee)]at El;cases El
   have lZ:=sa.trans (sb.trans eN);have xX:=lZ _ _ ee;have sN:=bZ.mono lZ;have tR:=cv.mono lZ;have D_:=ie.mono lZ;have Dh:=xy.mono (sb.trans eN);have BT:∀b o,b≠lt->G b=some o->Gc b=some o:=fun b o hb eb=>lZ _ _ (aQ b o hb eb)
   have Cr:=db.mono lZ;clear sa sb eN lZ bZ cv eh ie D9 xy Di db aQ ee dW;refine⟨_,rfl,.inl ⟨rfl,_,SqL.of xX⟩,?_⟩;refine⟨_,rfl,_,rfl,.ref tx,.ref ty,s,e.s,rfl,sN,tR,fun ta Gd sd dA=>?_⟩;refine⟨_,rfl,_,rfl,.ref ty,.ref tx,e.s,s,rfl,tR.mono sd,sN.mono sd,fun tb Ge se gG=>⟨sm rfl,fun lg cQ=>?_⟩⟩;have sg:=jj cQ (.lst [ta,tb]);have eg:upd Ge lg (.lst [ta,tb]) lg=some (.lst [ta,tb]):=jf;have nR:=dA.mono (se.trans sg);have nQ:=gG.mono sg;generalize upd Ge lg (.lst [ta,tb])=Gg at *;have sv:=sd.trans (se.trans sg);refine⟨_,rfl,_,rfl,nw,x3,jW e.b s,e.v,rfl,Dh.mono sv,D_.mono sv,fun lh w1 w2 Gh sh _ En fF dz=>?_⟩;refine⟨lg,lh,[atM s e.s,atM e.s s],[atM (jW e.b s) e.v,atM e.v (jW e.b s)],_,_,rfl,sh _ _ eg,jc (nR.mono sh) (jc (nQ.mono sh) jl),En,jc fF (jc dz jl),fun g hg=>?_,by show 2<=1000;decide,by show 2<=1000;decide,fun l9 cU G9 s9 mB e9 h9=>?_⟩
   .rcases bG.mp hg with rfl | hg
    .exact c2.can c1
    .rw[aN.mp hg]
     exact c1.can c2
   have cO:=sv.trans (sh.trans s9);have dv:=cO _ _ xX;have z9:cU.length<=2:=by
    rw[<- h9.length];exact kW _ _
   refine⟨lt,l9,zs,cU,rfl,rfl,dv,e9,c6 (kc (by omega)),?_⟩;have kt:TK G9 (upd G9 lt (.lst (zs++cU))):=fun b ws eb=>jk (jv eb dv (by intro z;cases z)) eb
   have w9:=kt.held (sN.mono cO);have x_:=kt.held (tR.mono cO);have Ad:upd G9 lt (.lst (zs++cU)) ls=some (.lst [BP,cE]):=jk Ce (cO _ _ Em);have xt:=kt.held (C5.mono cO);have xr:=kt.held (C4.mono cO);have xY:upd G9 lt (.lst (zs++cU)) lt=some (.lst (zs++cU)):=jf;have Ct:=jT (kt.heldL (Cr.mono cO)) (kt.heldL h9);have BU:∀b o,b≠lt->G b=some o->upd G9 lt (.lst (zs++cU)) b=some o:=fun b o hb eb=>jk hb (cO _ _ (BT b o hb eb))
   generalize upd G9 lt (.lst (zs++cU))=GA at *;clear kt cO s9 sh sv sg se sd dv e9 h9 mB fF dz En eg nR nQ dA gG cQ sN tR D_ Dh xX Cr BT Em C5 C4;have zA:(zs++cU).length<=74002:=by rw[bV];omega
   generalize zs++cU=za at *;refine⟨_,rfl,.inl ⟨rfl,_,SqL.of xY⟩,?_⟩;refine⟨_,rfl,_,rfl,1,rfl,.ref ty,-1,e.s,rfl,x_,fun vT Gd sd tu=>?_⟩;refine⟨.ref tx,vT,s,mor e.s (-1),rfl,w9.mono sd,tu,fun ta Ge se dA=>⟨sm rfl,fun lg cQ=>?_⟩⟩;have sg:=jj cQ (.lst [ta]);have gW:=sd.trans (se.trans sg);refine⟨_,rfl,lg,ls,[atM s (mor e.s (-1))],puS e s,_,_,rfl,jf,jc (dA.mono sg) jl,gW _ _ Ad,jc (xt.mono gW) (jc (xr.mono gW) jl),fun g hg=>?_,by show 1<=1000;decide,by show 2<=1000;decide,fun l9 gR G9 s9 mB e9 h9=>?_⟩
   .rw[aN.mp hg]
    exact c2.can (c1.mor _)
   have cO:=gW.trans s9;have dv:=cO _ _ xY;have z8:gR.length<=2:=by
    rw[<- h9.length];exact kW _ _
   refine⟨lt,l9,za,gR,rfl,rfl,dv,e9,c6 (kc (by omega)),?_⟩;have kt:TK G9 (upd G9 lt (.lst (za++gR))):=fun b ws eb=>jk (jv eb dv (by intro z;cases z)) eb
   have HL:=kt.held (w9.mono cO);have L9:=kt.held (x_.mono cO);have Ms:upd G9 lt (.lst (za++gR)) ls=some (.lst [BP,cE]):=jk Ce (cO _ _ Ad);have Ir:=kt.held (xt.mono cO);have Iq:=kt.held (xr.mono cO);have D5:upd G9 lt (.lst (za++gR)) lt=some (.lst (za++gR)):=jf;have Hy:=jT (kt.heldL (Ct.mono cO)) (kt.heldL h9);have GO:∀b o,b≠lt->G b=some o->upd G9 lt (.lst (za++gR)) b=some o:=fun b o hb eb=>jk hb (cO _ _ (BU b o hb eb))
   generalize upd G9 lt (.lst (za++gR))=GB at *;clear kt cO s9 gW sg se sd dv e9 h9 mB dA tu cQ w9 x_ xY Ct BU Ad xt xr;have zB:(za++gR).length<=74004:=by rw[bV];omega
   generalize za++gR=zb at *;refine⟨_,rfl,.inl ⟨rfl,_,SqL.of D5⟩,?_⟩;refine⟨_,rfl,.ref ty,1,e.s,rfl,L9,fun vT Gd sd tu=>?_⟩;refine⟨_,rfl,vT,.ref tx,mor e.s 1,s,rfl,tu,HL.mono sd,fun ta Ge se dA=>⟨sm rfl,fun lg cQ=>?_⟩⟩;have sg:=jj cQ (.lst [ta]);have gW:=sd.trans (se.trans sg);refine⟨_,rfl,lg,ls,[atM (mor e.s 1) s],puS e s,_,_,rfl,jf,jc (dA.mono sg) jl,gW _ _ Ms,jc (Ir.mono gW) (jc (Iq.mono gW) jl),fun g hg=>?_,by show 1<=1000;decide,by show 2<=1000;decide,fun l9 vC G9 s9 mB e9 h9=>?_⟩
   .rw[aN.mp hg]
    exact (c1.mor _).can c2
   have cO:=gW.trans s9;have dv:=cO _ _ D5;have z7:vC.length<=2:=by
    rw[<- h9.length];exact kW _ _
   refine⟨lt,l9,zb,vC,rfl,rfl,dv,e9,c6 (kc (by omega)),?_⟩;have kt:TK G9 (upd G9 lt (.lst (zb++vC))):=fun b ws eb=>jk (jv eb dv (by intro z;cases z)) eb
   refine⟨_,_,_,_,rfl,fun b o hb eb=>jk hb (cO _ _ (GO b o hb eb)),jf,?_⟩;rw[oh];unfold puC;rw[Qw z,<- bh,<- bh,<- bh];exact jT (kt.heldL (Hy.mono cO)) (kt.heldL h9)
  .rintro σ G' ⟨u6,u7,u8,zs,rfl,aQ,ee,db⟩
   rw[<- mh,cu]at db;refine⟨_,_,_,_,_,_,_,zs,rfl,fun b o hb eb=>aQ b o hb (sG b o hb eb),ee,?_⟩;rw[et];exact db
 .rintro σ G ⟨u2,u3,u4,u5,u6,u7,u8,zs,rfl,sG,hG,cf⟩
  rw[<- dq,cu]at cf;have sF:Same H G:=fun b o e=>sG _ _ (jp e aP) (s1 _ _ e)
  refine⟨_,rfl,q lt zs G sF aP hG (by rw[dC];exact cf) ?_⟩;have:=lE es.length;rw[cu]at this;rw[dC];exact aJ this (by decide)
end
abbrev Ya:aF:=top 8
def jjM(ds es:List D):Prop:=∃ps qs:List DA,ps.map (·.1)=ds/\qs.Perm ps/\(qs.map (·.1)).Pairwise (fun a b=>dLt b a=false)/\es=(qf qs).map (·.1)
def Jx(R:List Rw)(k:Cl)(es:List D):Cs:={ kF R k with l:=fun i=>if i=2 then es else (kF R k).l i }
def jh1(R:List Rw)(k:Cl)(es ds:List D):Prop:=∃(sp:List P2) (d1 d2 d3 d4:List D),es=sp.map p2/\(∀p∈sp,SpG p)/\jbI (Jx R k es) sp d1/\jeM (Jx R k es) sp d2/\jeN (Jx R k es) sp d3/\jeL (Jx R k es) sp d4/\ds=((d1++d2)++d3)++d4
def jjN(R:List Rw)(k:Cl):Prop:=SortT ((kF R k).l 2) 200/\SortT ((kF R k).l 1) 200/\∀es,jhw R k es->∃ds,jh1 R k es ds/\SortT ds 200
inductive spBook(o1 o2:ad)(vs:List V)(H:Hp)(Q:VK)(E:XK):Prop
 | mk (a:ad) (R:List Rw) (rs:List V) (k:Cl) (v:V) (_:vs=[.ref a,v]) (_:H a=some (.lst rs)) (_:HeldL H (R.map Rw.toD) rs) (_:R.length<=12) (_:Own H o1 o2) (_:Held H k.toD v) (_:jjN R k) (_:∀(t la lb:ad) (es ts ds cs:List D) (xs ys:List V) (H':Hp),Same H H'->H la=none->H lb=none->la≠lb->H' t=some (.tup [.ref la,.ref lb])->jhw R k es->jjM ((kF R k).l 1) ts->H' la=some (.lst xs)->HeldL H' ts xs->jh1 R k es ds->jjM ds cs->H' lb=some (.lst ys)->HeldL H' cs ys->Q (.ref t) H')
section
variable {o1 o2:ad}
theorem jdx(T:ClsC K C)(F:Fun K "booked" "booked" Ya f fd)(AB:Fn P w K mg base 15 "gathered" ["rows","goal"] (spGath C o1 o2))(Ar:Fn P w K mg base 15 "version_clauses" ["case"] (spCl C jbI))(Ay:Fn P w K mg base 15 "put_clauses" ["case"] (spCl C jeM))(AD:Fn P w K mg base 15 "each_clauses" ["case"] (spCl C jeN))(Ax:Fn P w K mg base 15 "rise_clauses" ["case"] (spCl C jeL))(mS:Fn P w K mg base 14 "each_once" ["things"] spOnce):FnOk P w K mg base CX0 16 f fd ["rows","goal"] (spBook o1 o2):=by
 have sc:FnScope ["rows","goal","case","found"] ["rows","goal"] (jm Ya):=fQ;refine F.okZ sc (fun ax A outer s H vs Q E hr h=>?_);obtain⟨a,R,rs,k,v,rfl,ha,cq,hl,ho,hv,⟨BR,vS,mI⟩,q⟩:=h;refine⟨_,(jd (jy (i:=2) sc.nd rfl oQ (jg AB hr (ja (zpv 0) (ja (zpv 1) jb))))
   (jd (jy (i:=3) sc.nd rfl oQ (js jab (js jab (js jab (jg Ar hr (ja (zpv 2) jb)) (jg Ay hr (ja (zpv 2) jb))) (jg AD hr (ja (zpv 2) jb))) (jg Ax hr (ja (zpv 2) jb))))
   (ji (jC (jQ (ja (jg mS hr (ja (jY (zpv 2) rfl) jb)) (ja (jg mS hr (ja (zpv 3) jb)) jb))))))),?_⟩
 refine jH (σ':=[some (.ref a),some v,none,none]) rfl ?_
 try dsimp only[kx]
 refine YO ?_;intro _ _;refine⟨_,rfl,_,rfl,a,R,rs,k,v,rfl,ha,cq,by omega,ho,hv,BR,fun B ps qs H1 s1 hn p1 hp hs I=>?_⟩;refine gQ ?_;have aY:jhw R k ((qf qs).map (·.1)):=⟨ps,qs,p1,hp,hs,rfl⟩
 have I':CsAt C (8 * R.length+10) B (Jx R k ((qf qs).map (·.1))) H1:=I;obtain⟨ds,⟨sp,d1,d2,d3,d4,Ep,hG,g1,g2,g3,g4,rfl⟩,BS⟩:=mI _ aY;have tI:8 * R.length+10<=110:=by omega
 have el2:(Jx R k ((qf qs).map (·.1))).l 2=sp.map p2:=Ep;generalize (qf qs).map (·.1)=es at *;refine⟨_,rfl,_,B,Jx R k es,sp,d1,rfl,I',tI,el2,hG,g1,fun l1 z1 H2 s2 n2 e2 h2 b1=>?_⟩;refine⟨_,rfl,_,B,Jx R k es,sp,d2,rfl,I'.same s2,tI,el2,hG,g2,fun l2 z2 H3 s3 n3 e3 h3 b2=>?_⟩;have wY:=h2.length;have Cw:=h3.length;refine⟨l1,l2,z1,z2,rfl,rfl,s3 _ _ e2,e3,c6 (kc (by omega)),fun l3 xE=>?_⟩;have s4:=jj xE (.lst (z1++z2));have e4:upd H3 l3 (.lst (z1++z2)) l3=some (.lst (z1++z2)):=jf;have h4:=jT ((h2.mono s3).mono s4) (h3.mono s4);generalize upd H3 l3 (.lst (z1++z2))=H4 at *;have dI:=s2.trans (s3.trans s4);refine⟨_,rfl,_,B,Jx R k es,sp,d3,rfl,I'.same dI,tI,el2,hG,g3,fun l5 z3 H5 s5 n5 e5 h5 b3=>?_⟩;have Cv:=h5.length;have L8:=jT (h4.mono s5) h5;refine⟨l3,l5,_,z3,rfl,rfl,s5 _ _ e4,e5,c6 (kc (by rw[bV];omega)),fun l6 I_=>?_⟩;have s6:=jj I_ (.lst (z1++z2++z3));have e6:upd H5 l6 (.lst (z1++z2++z3)) l6=some (.lst (z1++z2++z3)):=jf;have h6:=L8.mono s6;generalize upd H5 l6 (.lst (z1++z2++z3))=H6 at *;have BZ:=dI.trans (s5.trans s6);refine⟨_,rfl,_,B,Jx R k es,sp,d4,rfl,I'.same BZ,tI,el2,hG,g4,fun l7 z4 H7 s7 n7 e7 h7 b4=>?_⟩;have Cu:=h7.length;have L7:=jT (h6.mono s7) h7;refine⟨l6,l7,_,z4,rfl,rfl,s7 _ _ e6,e7,c6 (kc (by rw[bV,bV];omega)),fun l8 xC=>?_⟩;have s8:=jj xC (.lst (z1++z2++z3++z4));have e8:upd H7 l8 (.lst (z1++z2++z3++z4)) l8=some (.lst (z1++z2++z3++z4)):=jf;have h8:=L7.mono s8;generalize upd H7 l8 (.lst (z1++z2++z3++z4))=H8 at *;have i7:=BZ.trans (s7.trans s8);have wL:(z1++z2++z3++z4).length<=11000000:=by rw[bV,bV,bV];omega
 generalize z1++z2++z3++z4=zz at *;refine gQ ?_;obtain⟨ts,t1,t2,sk⟩:=(I'.same i7).l 1 (by decide);have t2:HeldL H8 ((kF R k).l 1) ts:=t2;obtain⟨pt,p3,rfl,p4⟩:=ze t2 vS.tup;refine⟨_,rfl,B.o,C,B.dx,_,_,rfl,i7 _ _ I.o,T.c,T.n5,rfl,B.l 1,pt,rfl,t1,p4,by rw[p3];exact vS,?_,fun la qt H9 s9 n9 w1 w2 w3=>?_⟩
 .rw[az,az]at sk
  omega
 obtain⟨pc,c1,c2,c3⟩:=ze h8 BS.tup;rw[c2]at e8 wL;rw[az,az]at wL;refine⟨_,rfl,l8,pc,rfl,s9 _ _ e8,fun q hq=>(c3 q hq).mono s9,by rw[c1];exact BS,wL,fun lb qc mQ dm Ch w4 w5 w6=>⟨sm rfl,fun t ht=>?_⟩⟩;have bI:=jj ht (.tup [.ref la,.ref lb]);have sA:=s1.trans (i7.trans (s9.trans (dm.trans bI)));refine q t la lb es _ _ _ _ _ _ sA ((s1.trans i7).free n9) ((s1.trans (i7.trans s9)).free Ch) (jp w3 Ch) jf aY ⟨pt,qt,p3,w1,w2,rfl⟩ (bI _ _ (dm _ _ w3)) ((zd fun p hp=>p4 p (w1.mem_iff.mp (yn qt p hp))).mono (s9.trans (dm.trans bI))) ⟨sp,d1,d2,d3,d4,Ep,hG,g1,g2,g3,g4,rfl⟩ ⟨pc,qc,c1,w4,w5,rfl⟩ (bI _ _ w6) ((zd fun p hp=>c3 p (w4.mem_iff.mp (yn qc p hp))).mono (s9.trans (dm.trans bI)))
end
def TiG(t:T3):Prop:=Src 50 t.1/\Src 50 t.2.1
def jd0(d:D):Prop:=∃ks t,d=clD ks t/\(∀k∈ks,TiG k)/\TiG t
theorem jbl:∀{xs ys:List D},(∀x∈xs,∀y∈ys,Cmp x y)->CmpL xs ys
 | [],ys,_=>kZ ys
 | x :: xs,[],_=>by unfold CmpL;trivial
 | x :: xs,y :: ys,h=>kJ (h x (bU ..) y (bU ..)) (jbl fun a ha b hb=>h a (ce _ ha) b (ce _ hb))
theorem jbA{t:T3}(h:TiG t)(k:TiG u):Cmp (t3 t) (t3 u):=yO (kJ (ZU h.1 k.1) (kJ (ZU h.2 k.2) (kJ (ZD _ _) (kZ _))))
theorem jbz{t:T3}(h:TiG t):(t3 t).depth<=110:=by
 have h1:=h.1.ok.2.1;have h2:=h.2.ok.2.1;show max t.1.depth (max t.2.1.depth (max 0 0))+1<=110;omega
theorem jaP:∀{ks:List T3},(∀k∈ks,TiG k)->D.depthL (ks.map t3)<=110
 | [],_=>bT _
 | k :: ks,h=>FS.mpr ⟨jbz (h k (bU ..)),jaP fun x hx=>h x (ce _ hx)⟩
theorem jdg{ds:List D}(h:∀d∈ds,∃t,d=t3 t/\TiG t):SortT ds 200:=by
 refine⟨⟨fun d hd e he=>?_,fun d hd=>?_,fun d hd=>?_⟩,fun d hd=>?_⟩
 .obtain⟨t,rfl,g⟩:=h d hd
  obtain⟨u,rfl,k⟩:=h e he;exact jbA g k
 .obtain⟨t,rfl,g⟩:=h d hd
  exact aJ (jbz g) (by decide)
 .obtain⟨t,rfl,g⟩:=h d hd
  exact⟨_,rfl⟩
 .obtain⟨t,rfl,g⟩:=h d hd
  obtain⟨es,e⟩:=JP g.1;exact⟨es,[t.2.1,.int t.2.2],by unfold t3;rw[e]⟩
theorem jbm{ds:List D}(h:∀d∈ds,jd0 d):SortT ds 200:=by
 refine⟨⟨fun d hd e he=>?_,fun d hd=>?_,fun d hd=>?_⟩,fun d hd=>?_⟩
 .obtain⟨ks,t,rfl,g1,g2⟩:=h d hd
  obtain⟨ks',u,rfl,k1,k2⟩:=h e he;refine yO (kJ (yO (jbl fun x hx y hy=>?_)) (kJ (jbA g2 k2) (kZ _)));obtain⟨a,ha,rfl⟩:=bq.mp hx;obtain⟨b,hb,rfl⟩:=bq.mp hy;exact jbA (g1 a ha) (k1 b hb)
 .obtain⟨ks,t,rfl,g1,g2⟩:=h d hd
  have h1:=jaP g1;have h2:=jbz g2;show max (D.depthL (ks.map t3)+1) (max (t3 t).depth 0)+1<=200;omega
 .obtain⟨ks,t,rfl,g1,g2⟩:=h d hd
  exact⟨_,rfl⟩
 .obtain⟨ks,t,rfl,g1,g2⟩:=h d hd
  exact⟨ks.map t3,[t3 t],rfl⟩
theorem qS{gs ts:List T3}{d:D}(h:d∈kz gs ts)(hg:∀g∈gs,TiG g)(ht:∀t∈ts,TiG t):jd0 d:=by
 unfold kz at h;split at h
 .cases h
 .obtain⟨t,h1,rfl⟩:=bq.mp h
  exact⟨_,t,rfl,fun k hk=>hg k (lW.mp hk).1,ht t h1⟩
theorem Gs.spg{m:Nat}(h:Gs m p)(hm:m<=80):SpG p:=by
 obtain⟨es,e⟩:=JP h.1;have:=h.1.ok.2.1;rw[e]at this;have:D.depthL es+1<=2 * m+1:=this;exact⟨es,e,by omega⟩
theorem Gs.ti{m:Nat}(h:Gs m p)(k:Gs n q)(hm:m<=50)(hn:n<=50):TiG (atM p q):=⟨h.1.mono hm,k.1.mono hn⟩
theorem Gs.ent{m:Nat}{p:P2}{v:D}(hv:Ver v)(h:Gs m p)(hm:m<=85):Gs (m+1) (jW v p):=⟨.ent hv h.1 (h.gp (by omega)).2,bT _⟩
def BoG:Sum D P2->Prop
 | .inl v=>Ver v
 | .inr p=>Gs 40 p
def PuG(e:PuT):Prop:=Gs 40 e.s/\Ver e.a/\Gs 40 e.v/\Ver e.b
def EaG(e:EaT):Prop:=Gs 40 e.t/\Gs 40 e.u/\Ver e.v/\BoG e.b/\e.k.natAbs<=10 ^ 19
def RiG(e:RiT):Prop:=Gs 40 e.t/\Gs 40 e.u/\Ver e.v
structure TG(m:Nat)(c:Cs):Prop where
 s:St m c
 na:∀r∈c.na,Wd r
 l0:∀d∈c.l 0,Ver d
 l1:∀d∈c.l 1,∃t,d=t3 t/\TiG t
 l2:∀d∈c.l 2,∃p:P2,d=p2 p/\Gs 40 p
 l3:∀d∈c.l 3,∃e:PuT,d=e.toD/\PuG e
 l4:∀d∈c.l 4,∃e:EaT,d=e.toD/\EaG e
 l5:∀d∈c.l 5,∃e:RiT,d=e.toD/\RiG e
theorem zH{α:Type}{p:α->Prop}{l l':List α}(h:∀x∈l,p x)(k:∀x∈l',p x):∀x∈l++l',p x:=fun x hx=>(bK.mp hx).elim (h x) (k x)
theorem qW{α:Type}{p:α->Prop}{a:α}(h:p a):∀x∈[a],p x:=fun x hx=>by rw[aN.mp hx];exact h
variable {c:Cs}
theorem TG.mono{m k:Nat}(G:TG m c)(h:m<=k):TG k c:=⟨⟨fun x p e=>(G.s.nu x p e).mono h,G.s.ve⟩,G.na,G.l0,G.l1,G.l2,G.l3,G.l4,G.l5⟩
variable {r:Str}
theorem TG.name{m:Nat}(G:TG m c)(hr:Wd r):TG m (c.name r):=⟨G.s.congr rfl rfl,fun x hx=>by
 have hx:x∈jce c.na r:=hx;unfold jce at hx;split at hx
 .exact G.na x hx
 .exact zH G.na (qW hr) x hx,G.l0,G.l1,G.l2,G.l3,G.l4,G.l5⟩
theorem TG.add0{m:Nat}(G:TG m c){d:D}(h:Ver d):TG m (c.add 0 [d]):=⟨G.s.congr rfl rfl,G.na,zH G.l0 (qW h),G.l1,G.l2,G.l3,G.l4,G.l5⟩
theorem TG.add1{m:Nat}(G:TG m c){ds:List D}(h:∀d∈ds,∃t,d=t3 t/\TiG t):TG m (c.add 1 ds):=⟨G.s.congr rfl rfl,G.na,G.l0,zH G.l1 h,G.l2,G.l3,G.l4,G.l5⟩
theorem TG.add2{m:Nat}(G:TG m c)(h:Gs 40 p):TG m (c.add 2 [p2 p]):=⟨G.s.congr rfl rfl,G.na,G.l0,G.l1,zH G.l2 (qW ⟨p,rfl,h⟩),G.l3,G.l4,G.l5⟩
theorem TG.add3{m:Nat}(G:TG m c){e:PuT}(h:PuG e):TG m (c.add 3 [e.toD]):=⟨G.s.congr rfl rfl,G.na,G.l0,G.l1,G.l2,zH G.l3 (qW ⟨e,rfl,h⟩),G.l4,G.l5⟩
theorem TG.add4{m:Nat}(G:TG m c){e:EaT}(h:EaG e):TG m (c.add 4 [e.toD]):=⟨G.s.congr rfl rfl,G.na,G.l0,G.l1,G.l2,G.l3,zH G.l4 (qW ⟨e,rfl,h⟩),G.l5⟩
theorem TG.add5{m:Nat}(G:TG m c){e:RiT}(h:RiG e):TG m (c.add 5 [e.toD]):=⟨G.s.congr rfl rfl,G.na,G.l0,G.l1,G.l2,G.l3,G.l4,zH G.l5 (qW ⟨e,rfl,h⟩)⟩
theorem TG.setn{m:Nat}(G:TG m c){x:Str}(h:Gs m p):TG m (c.setn x p):=⟨⟨fun y q e=>by
 have e:yg c.nu x p y=some q:=e;unfold yg at e;split at e
 .cases e;exact h
 .exact G.s.nu y q e,G.s.ve⟩,G.na,G.l0,G.l1,G.l2,G.l3,G.l4,G.l5⟩
theorem TG.setv{m:Nat}(G:TG m c){d:D}(h:Ver d):TG m (c.setv r d):=⟨⟨G.s.nu,fun y q e=>by
 have e:yg c.ve r d y=some q:=e;unfold yg at e;split at e
 .cases e;exact h
 .exact G.s.ve y q e⟩,G.na,G.l0,G.l1,G.l2,G.l3,G.l4,G.l5⟩
theorem TG.stand{m:Nat}(G:TG m c)(hm:m<=35){t:Tm}(h:TmG t):TG m (c.stand t).2:=by
 cases t with
 | is x=>exact G
 | at_ r x d=>exact (G.add2 ((G.s.spot h.2.1 h.2.2).mono (by omega))).name h.1
theorem TG.body{m:Nat}(G:TG m c)(hr:Wd r)(way:Str){b:Bd}(hb:BdG b)(k:Int):TG m (c.body r way b k).2:=by
 cases b with
 | is x=>exact G.name hr
 | row q=>exact (G.name hr).name hb
theorem TG.least{m:Nat}(G:TG m c)(hm:m<=35){a b:Tm}(h:TmG a)(k:TmG b)(j:Int)(hj:j.natAbs<=10 ^ 20):TG m (c.least a b j).2/\∃t,(c.least a b j).1=t3 t/\TiG t:=by
 have G1:=G.stand hm k;refine⟨G1.stand hm h,atM (mor (c.stand b).1 j) ((c.stand b).2.stand a).1,rfl,?_⟩;exact ((G.s.stand (by omega) k).mor hj).ti (G1.s.stand (by omega) h) (by omega) (by omega)
theorem TG.know{m:Nat}(G:TG m c)(hm:m<=35){k:Cl}(h:ClG k):TG m (c.know k):=by
 cases k with
 | least a b j=>
  obtain⟨G1,t⟩:=G.least hm h.1 h.2.1 j (by have:=h.2.2;omega);exact G1.add1 (qW t)
 | each t td u ud r way b j=>
  obtain⟨g1,g2,g3,g4,g5,g6,g7⟩:=h;have Gt:=(G.s.spot g1 g2).mono (show m+1<=40 by omega);have Gu:=(G.s.spot g3 g4).mono (show m+1<=40 by omega);have G2:=(G.add2 Gt).body g5 way g6 j
  cases b with
  | is x=>exact G2.add4 (e:=⟨c.spot t td,c.spot u ud,c.ver r,way,.inr (c.num x),j⟩) ⟨Gt,Gu,G.s.ver g5,(G.s.num g6).mono (by omega),g7⟩
  | row q=>exact G2.add4 (e:=⟨c.spot t td,c.spot u ud,c.ver r,way,.inl (c.ver q),j⟩) ⟨Gt,Gu,G.s.ver g5,G.s.ver g6,g7⟩
 | rise t td u ud r=>
  obtain⟨g1,g2,g3,g4,g5⟩:=h;have Gt:=(G.s.spot g1 g2).mono (show m+1<=40 by omega);have Gu:=(G.s.spot g3 g4).mono (show m+1<=40 by omega);exact ((G.add2 Gt).name g5).add5 (e:=⟨c.spot t td,c.spot u ud,c.ver r⟩) ⟨Gt,Gu,G.s.ver g5⟩
theorem jf6{p:D->Prop}{a b:D}(h:p a)(k:p b):∀d∈[a,b],p d:=fun d hd=>by
 rcases bG.mp hd with rfl | hd
 .exact h
 .rw[aN.mp hd];exact k
theorem TG.deny{m:Nat}(G:TG m c)(hm:m<=35){k:Cl}(h:ClG k):TG m (c.deny k):=by
 have O0:=Z9 0 (by decide) 40;have O1:=Z9 1 (by decide) 40
 cases k with
 | least a b j=>
  obtain⟨G1,t⟩:=G.least hm h.2.1 h.1 (1 - j) (by have:=h.2.2;omega);exact G1.add1 (qW t)
 | each t td u ud r way b j=>
  obtain⟨g1,g2,g3,g4,g5,g6,g7⟩:=h;have Gt:=(G.s.spot g1 g2).mono (show m+1<=40 by omega);have Gu:=(G.s.spot g3 g4).mono (show m+1<=40 by omega);have hj:j.natAbs<=10 ^ 20:=by omega
  refine ((G.body g5 way g6 j).add2 O0).add1 fun d hd=>?_
  have en:=Gs.ent (G.s.ver g5) O0 (by decide);have bn:∃n,n<=48/\Gs n (c.bnd b (jV 0)):=by
   cases b with
   | is x=>exact⟨m,by omega,G.s.num g6⟩
   | row q=>exact⟨41,by decide,Gs.ent (G.s.ver g6) O0 (by decide)⟩
  obtain⟨n,hn,bn⟩:=bn;rcases bG.mp hd with rfl | hd
  .exact⟨atM (c.spot t td) (jV 0),rfl,Gt.ti O0 (by decide) (by decide)⟩
  rcases bG.mp hd with rfl | hd
  .exact⟨atM (jV 0) (c.spot u ud),rfl,O0.ti Gu (by decide) (by decide)⟩
  .rw[aN.mp hd]
   unfold qw;split
   .exact⟨((jW (c.ver r) (jV 0)).1,(mor (c.bnd b (jV 0)) j).1,-1 - ((jW (c.ver r) (jV 0)).2 - (mor (c.bnd b (jV 0)) j).2)),rfl,(en.1.mono (by decide)),((bn.mor hj).1.mono (by omega))⟩
   .exact⟨((mor (c.bnd b (jV 0)) j).1,(jW (c.ver r) (jV 0)).1,-1 - ((mor (c.bnd b (jV 0)) j).2 - (jW (c.ver r) (jV 0)).2)),rfl,((bn.mor hj).1.mono (by omega)),(en.1.mono (by decide))⟩
 | rise t td u ud r=>
  obtain⟨g1,g2,g3,g4,g5⟩:=h;have Gt:=(G.s.spot g1 g2).mono (show m+1<=40 by omega);have Gu:=(G.s.spot g3 g4).mono (show m+1<=40 by omega);have Mr:=Gs.ent (G.s.ver g5) O0 (by decide);have rl:=Gs.ent (G.s.ver g5) O1 (by decide);refine TG.add1 (c:=(c.name r).add 2 [p2 (jV 0),p2 (jV 1)]) ?_ fun d hd=>?_
  .have G1:=((G.name g5).add2 O0).add2 O1
   refine⟨G.s.congr rfl rfl,G1.na,G.l0,G.l1,fun d hd=>G1.l2 d ?_,G.l3,G.l4,G.l5⟩;have hd:d∈c.l 2++[p2 (jV 0),p2 (jV 1)]:=hd;show d∈c.l 2++[p2 (jV 0)]++[p2 (jV 1)];rw[bh];exact hd
  rcases bG.mp hd with rfl | hd
  .exact⟨atM (c.spot t td) (jV 0),rfl,Gt.ti O0 (by decide) (by decide)⟩
  rcases bG.mp hd with rfl | hd
  .exact⟨atM (jV 0) (jV 1),rfl,O0.ti O1 (by decide) (by decide)⟩
  rcases bG.mp hd with rfl | hd
  .exact⟨atM (jV 1) (c.spot u ud),rfl,O1.ti Gu (by decide) (by decide)⟩
  .rw[aN.mp hd]
   exact⟨atM (mor (jW (c.ver r) (jV 1)) 1) (jW (c.ver r) (jV 0)),rfl,(rl.mor (d:=1) (by decide)).ti Mr (by decide) (by decide)⟩
theorem TG.take{m:Nat}(G:TG m c)(hm:m<=35)(hn:n<=1000){r:Rw}(h:RwG r):TG (m+2) (c.take n r):=by
 cases r with
 | set x t k=>exact ((G.stand hm h.2.1).mono (by omega)).setn ((G.s.stand (by omega) h.2.1).mor h.2.2)
 | put r x d t k=>
  obtain⟨g1,g2,g3,g4,g5⟩:=h;have Ao:=(G.s.spot g2 g3).mono (show m+1<=40 by omega);have Gv:=((G.s.stand (by omega) g4).mor g5).mono (show m+1+1<=40 by omega);have S2:St m (c.stand t).2:=G.s.congr (Yt c t) (Ys c t);have Gp:=Gs.ent (.put hn) Ao (by decide);refine ((((((G.stand hm g4).name g1).add2 Ao).add3 (e:=⟨c.spot x d,(c.stand t).2.ver r,mor (c.stand t).1 k,ym n⟩) ⟨Ao,S2.ver g1,Gv,.put hn⟩).add1 (jf6 ⟨atM (jW (ym n) (c.spot x d)) (mor (c.stand t).1 k),rfl,Gp.ti Gv (by decide) (by decide)⟩ ⟨atM (mor (c.stand t).1 k) (jW (ym n) (c.spot x d)),rfl,Gv.ti Gp (by decide) (by decide)⟩)).setv (.put hn)).mono (by omega)
 | any x=>exact (G.mono (by omega)).setn ⟨.pick hn,bT _⟩
 | lose r=>exact (((G.name h).setv (.lost hn)).add0 (.lost hn)).mono (by omega)
 | know C=>exact (G.know hm h).mono (by omega)
theorem TG.none:TG 0 Cs.none:=⟨⟨fun _ _ e=>(nomatch e),fun _ _ e=>(nomatch e)⟩,fun _ h=>(nomatch h),fun _ h=>(nomatch h),fun _ h=>(nomatch h),fun _ h=>(nomatch h),fun _ h=>(nomatch h),fun _ h=>(nomatch h),fun _ h=>(nomatch h)⟩
theorem TG.rows:∀{R:List Rw} {m n:Nat} {c:Cs},TG m c->m+2 * R.length<=35->n+R.length<=1000->(∀r∈R,RwG r)->TG (m+2 * R.length) (c.rows R n)
 | [],m,n,c,G,_,_,_=>G
 | r :: R,m,n,c,G,h1,h2,h3=>by
  rw[ck]at h1 h2 |-;have:=TG.rows (R:=R) (n:=n+1) (G.take (n:=n) (by omega) (by omega) (h3 r (bU ..))) (by omega) (by omega) fun q hq=>h3 q (ce _ hq)
  rw[show m+2 * (R.length+1)=m+2+2 * R.length by omega];exact this
theorem Ze{α:Type}{f:α->D}{p:α->Prop}:∀{l:List D},(∀d∈l,∃x,d=f x/\p x)->∃xs:List α,l=xs.map f/\∀x∈xs,p x
 | [],_=>⟨[],rfl,fun _ z=>(nomatch z)⟩
 | d :: l,h=>by
  obtain⟨x,e,hx⟩:=h d (bU ..);obtain⟨xs,e2,ci⟩:=Ze fun d hd=>h d (ce _ hd)
  refine⟨x :: xs,by rw[aU,e,e2],fun y hy=>?_⟩;rcases bG.mp hy with rfl | hy
  .exact hx
  .exact ci y hy
theorem jf5{vs:List D}(hv:∀v∈vs,Ver v)(hs:∀p∈sp,Gs 40 p):∀d∈jbu vs (kn sp),jd0 d:=fun d hd=>by
 obtain⟨q,h1,h2⟩:=iq.mp hd;obtain⟨m1,m2⟩:=Jq h1;have g1:=hs _ m1;have g2:=hs _ m2;refine qS h2 (fun g hg=>?_) fun t ht=>?_
 .rcases bG.mp hg with rfl | hg
  .exact g1.ti g2 (by decide) (by decide)
  .rw[aN.mp hg]
   exact g2.ti g1 (by decide) (by decide)
 .obtain⟨v,CU,rfl⟩:=bq.mp ht
  exact (Gs.ent (hv v CU) g1 (by decide)).ti (Gs.ent (hv v CU) g2 (by decide)) (by decide) (by decide)
theorem jiT{es:List EaT}(he:∀e∈es,EaG e)(hs:∀p∈sp,Gs 40 p):∀d∈eaF sp es,jd0 d:=fun d hd=>by
 obtain⟨e,h1,h2⟩:=iq.mp hd;obtain⟨s,h3,h4⟩:=iq.mp h2;have g:=hs _ h3;obtain⟨e1,e2,e3,e4,_⟩:=he e h1;refine qS h4 (fun q hq=>?_) fun t ht=>?_
 .rcases bG.mp hq with rfl | hq
  .exact e1.ti g (by decide) (by decide)
  .rw[aN.mp hq]
   exact g.ti e2 (by decide) (by decide)
 .rw[aN.mp ht]
  have en:=(Gs.ent e3 g (by decide)).1.mono (show 41<=50 by decide);have bn:Src 50 (e.at_ s).1:=by
   unfold EaT.at_
   cases eb:e.b with
   | inl v=>
    rw[eb]at e4;exact (Gs.ent (show Ver v from e4) g (by decide)).1.mono (by decide)
   | inr p=>
    rw[eb]at e4;exact (show Gs 40 p from e4).1.mono (by decide)
  unfold EaT.tie;split
  .exact⟨bn,en⟩
  .exact⟨en,bn⟩
theorem jic{es:List RiT}(he:∀e∈es,RiG e)(hs:∀p∈sp,Gs 40 p):∀d∈riF sp es,jd0 d:=fun d hd=>by
 obtain⟨e,h1,h2⟩:=iq.mp hd;obtain⟨q,h3,h4⟩:=iq.mp h2;obtain⟨m1,m2⟩:=Jq h3;have g1:=hs _ m1;have g2:=hs _ m2;obtain⟨e1,e2,e3⟩:=he e h1;refine qS h4 (fun q hq=>?_) fun t ht=>?_
 .rcases bG.mp hq with rfl | hq
  .exact e1.ti g1 (by decide) (by decide)
  rcases bG.mp hq with rfl | hq
  .exact g1.ti g2 (by decide) (by decide)
  .rw[aN.mp hq]
   exact g2.ti e2 (by decide) (by decide)
 .rw[aN.mp ht]
  exact (Gs.ent e3 g1 (by decide)).ti (Gs.ent e3 g2 (by decide)) (by decide) (by decide)
theorem jig{es:List PuT}(he:∀e∈es,PuG e)(hs:∀p∈sp,Gs 40 p):∀d∈puF sp es,jd0 d:=fun d hd=>by
 obtain⟨e,h1,h2⟩:=iq.mp hd;obtain⟨s,h3,h4⟩:=iq.mp h2;have g:=hs _ h3;obtain⟨e1,e2,e3,e4⟩:=he e h1;have en:=Gs.ent e4 g (by decide);have ea:=Gs.ent e2 g (by decide);have st:∀t∈puS e s,TiG t:=fun t ht=>by
  rcases bG.mp ht with rfl | ht
  .exact en.ti ea (by decide) (by decide)
  .rw[aN.mp ht]
   exact ea.ti en (by decide) (by decide)
 unfold puC at h4;split at h4
 .cases h4
 rcases bK.mp h4 with h4 | h4
 .refine qS h4 (fun q hq=>?_) fun t ht=>?_
  .rcases bG.mp hq with rfl | hq
   .exact g.ti e1 (by decide) (by decide)
   .rw[aN.mp hq]
    exact e1.ti g (by decide) (by decide)
  .rcases bG.mp ht with rfl | ht
   .exact en.ti e3 (by decide) (by decide)
   .rw[aN.mp ht]
    exact e3.ti en (by decide) (by decide)
 rcases bK.mp h4 with h4 | h4
 .exact qS h4 (qW (g.ti (e1.mor (d:=-1) (by decide)) (by decide) (by decide))) st
 .exact qS h4 (qW ((e1.mor (d:=1) (by decide)).ti g (by decide) (by decide))) st
theorem jhZ{R:List Rw}{k:Cl}(hl:R.length<=12)(hR:∀r∈R,RwG r)(hk:ClG k):jjN R k:=by
 have G:TG (0+2 * R.length) (kF R k):=((TG.none.rows (n:=0) (R:=R) (by omega) (by omega) hR)).deny (by omega) hk;refine⟨(jgb fun d hd=>?_),jdg G.l1,fun es iF=>?_⟩
 .obtain⟨p,e,g⟩:=G.l2 d hd
  exact⟨p,e,g.mono (by decide)⟩
 obtain⟨sp,rfl,aY⟩:=Ze (f:=p2) (p:=Gs 40) (l:=es) fun d hd=>G.l2 d (jey iF d hd)
 obtain⟨pu,e3,C9⟩:=Ze G.l3;obtain⟨ea,e4,xJ⟩:=Ze G.l4;obtain⟨ri,e5,pK⟩:=Ze G.l5;refine⟨_,⟨sp,_,_,_,_,rfl,fun p hp=>(aY p hp).spg (by decide),rfl,⟨pu,e3,fun e he=>(C9 e he).1.spg (by decide),rfl⟩,⟨ea,e4,fun e he=>⟨(xJ e he).1.spg (by decide),(xJ e he).2.1.spg (by decide)⟩,rfl⟩,⟨ri,e5,fun e he=>⟨(pK e he).1.spg (by decide),(pK e he).2.1.spg (by decide)⟩,rfl⟩,rfl⟩,jbm fun d hd=>?_⟩;rcases bK.mp hd with hd | hd
 .rcases bK.mp hd with hd | hd
  .rcases bK.mp hd with hd | hd
   .refine jf5 (fun v hv=>?_) aY d hd
    rcases bK.mp hv with hv | hv
    .obtain⟨r,hr,rfl⟩:=bq.mp hv
     exact .row (G.na r hr)
    .exact G.l0 v hv
   .exact jig C9 aY d hd
  .exact jiT xJ aY d hd
 .exact jic pK aY d hd
end LW
namespace L2
open PySem PySem.Spec PyProof.Rows
variable {w:aB}{d:ad}{o:Obj}{es:Array iW}{ep:Nat}
section
variable {prog:aE}{A:aS}{E:ag->ai->Prop}{s:ai}
theorem jfw{Q:ag->ai->Prop}(hd:(d == gh)=false)(ho:s.heap.get? d=some o)(hc:o.ExactDict)(DI:o.data=.dict es ep)
  (hQ:Q (.ref s.heap.objs.size) { s with heap:=s.heap.push { cls:=.type "dict_keyiterator",data:=.fields #[.ref d,.int 0 0,.int es.size 0,.int ep 0] } }):au (ao prog w) A (oG (.ref d)) Q E s:=by
 have hT:s.TypeIs (.ref d) "dict":=⟨o,ho,hc.1⟩
 refine wpAny_pyIter_slot hT OB (rG OB hT PySem.F.entry_dict_iter ?_ (PySem.F.args_dict_iter_1 _))
 unfold Builtin.«dict.__iter__» Builtin.Dict.dictSlotNone
 refine aq (aq (wpAny_notOrdered_dict hT ?_))
 refine aH (show au _ _ (OU d >>= _) _ _ s from ?_)
 unfold OU
 rw[Qw (by rw[hd];exact c9)]
 refine aq (aH (aq (EL ho DI (aq (EK ho DI ?_)))))
 refine aq (gL (aH ⟨_,rfl,"dict_keyiterator",_,⟨_,dg _ rfl,rfl⟩,vi.lookup,?_⟩))
 simpa[rH]using hQ
theorem jfp{it:ad}{i n:Nat}{od:Obj}{Q:Option ag->ai->Prop}(de:s.heap.IsKeyIter it d i n ep)(pN:s.heap.get? d=some od)(pX:od.data=.dict es ep)(hn:es.size=n)(hi:i < es.size)
  (hQ:∀h',h'.IsKeyIter it d (i+1) n ep->lP it s.heap h'->Q (some es[i].key) { s with heap:=h' }):au (ao prog w) A (ik (.ref it)) Q E s:=by
 obtain⟨o,ho,hc,hd⟩:=id de
 have own:OT "dict_keyiterator" = false:=by decide
 unfold ik
 refine aq (EO (EN (name:=bE "__next__") de.typeIs vi
  (rG vi de.typeIs OG ?_ (OL _))))
 refine aq (aH (aq (aq ?_)))
 first | refine aq (AM de.typeIs (aH ?_)) | refine aq (AL de.typeIs (aH ?_))
 refine aq (wpAny_fieldsOf ho hd ?_)
 simp only[own,eK,if_false]
 show au _ _ (if (Value.ref d == Value.none)=true then _ else _) _ _ s
 rw[Qw (show ¬((Value.ref d == Value.none)=true) from c9)]
 refine aq (aH (aq (EL pN pX ?_)))
 rw[Qw (by rw[hn];simp)]
 refine aq (aH (aq (EK pN pX ?_)))
 rw[Qw (by simp)]
 refine aH ?_
 simp only[show ¬((i:Int) < 0) from by omega,if_false,Qh,Gq hi]
 refine aq ?_
 first | refine aq (AM de.typeIs (aH ?_)) | refine aq (AL de.typeIs (aH ?_))
 refine aq (Nd de.typeIs ?_)
 show au _ _ (setField (.ref it) 1 (rH ((i:Int)+1)) >>= _) _ _ s
 refine aq (wpAny_setField ho hd (by simp) ?_)
 have Dy:(s.heap.update it (Os (·.setIfInBounds 1 (rH ((i:Int)+1))))).IsKeyIter it d (i+1) n ep:=
  ⟨_,ar.get?_update_self _ ho (Obj.isFreed_of_fields (Ot hd _)),(Obj.cls_mapFields ..).trans hc,by rw[Ot hd];simp[rH]⟩
 refine aq (oC (aq (Nd (s:={ s with heap:=s.heap.update it (Os (·.setIfInBounds 1 (rH ((i:Int)+1)))) }) Dy.typeIs ?_)))
 show au _ _ (pure es[i].key) _ _ _
 exact aH (aH ⟨_,rfl,aH (hQ _ Dy (Ox ..))⟩)
theorem jhm{it:ad}{i n:Nat}{od:Obj}{Q:Option ag->ai->Prop}(hh:A.handled=none)(de:s.heap.IsKeyIter it d i n ep)(pN:s.heap.get? d=some od)(pX:od.data=.dict es ep)(hn:es.size=n)(dt:es.size<=i)
  (hQ:∀h',ar.ExtBut it s.heap h'->Q none { s with heap:=h' }):au (ao prog w) A (ik (.ref it)) Q E s:=by
 obtain⟨o,ho,hc,hd⟩:=id de
 have own:OT "dict_keyiterator" = false:=by decide
 unfold ik
 refine aq (EO (EN (name:=bE "__next__") de.typeIs vi
  (rG vi de.typeIs OG ?_ (OL _))))
 refine aq (aH (aq (aq ?_)))
 first | refine aq (AM de.typeIs (aH ?_)) | refine aq (AL de.typeIs (aH ?_))
 refine aq (wpAny_fieldsOf ho hd ?_)
 simp only[own,eK,if_false]
 show au _ _ (if (Value.ref d == Value.none)=true then _ else _) _ _ s
 rw[Qw (show ¬((Value.ref d == Value.none)=true) from c9)]
 refine aq (aH (aq (EL pN pX ?_)))
 rw[Qw (by rw[hn];simp)]
 refine aq (aH (aq (EK pN pX ?_)))
 rw[Qw (by simp)]
 refine aH ?_
 simp only[show ¬((i:Int) < 0) from by omega,if_false,Qh,Array.getElem?_eq_none dt]
 refine aq ?_
 first | refine aq (AM de.typeIs (aH ?_)) | refine aq (AL de.typeIs (aH ?_))
 show au _ _ (setField (.ref it) 0 .none >>= _) _ _ s
 refine aq (wpAny_setField ho hd (by simp) ?_)
 show au _ _ (newExc (.type "StopIteration") [] >>= _) _ _ _
 refine aq ?_
 simp only[newExc,newTuple]
 refine aq (gL ?_ (by size_fits))
 refine aq (m:=firstArgMember _ _) (wpAny_of_eq (a:=Value.none) (by first | rfl | (simp only[firstArgMember];rfl)) ?_)
 refine gL ?_ (by size_fits)
 simp only[raiseNew]
 refine aq (wpAny_handled ?_)
 rw[show A.in1.handled=none from hh]
 refine aq (aH (wpAny_throw ?_))
 refine aq (wpAny_isInstance (T:="StopIteration") (b:=true) ⟨_,dg _ rfl,rfl⟩ isSubtype_stop ?_)
 exact aH (hQ _ (((Ox ..).extBut.push _).push _))
end
variable {X:Cx}{tg:aj}{H:Hp}{a:ad}{kvs:List (List Key×V)}
section
def ItT(a:ad)(o:Obj)(kvs:List (List Key×V)):It:=
 ⟨fun i H=>H a=some (.frz o (.dT kvs))/\i < kvs.length,fun i H x H'=>H'=H/\∃b k v,kvs[i]?=some (k,v)/\x=.ref b/\H b=some (.tup (k.map kV)),fun i H=>H a=some (.frz o (.dT kvs))/\kvs.length<=i⟩
theorem Zp{α β:Type}{F:α->β->Prop}:∀{l:List α} {m:List β},Paired F l m->∀{i:Nat} {a:α},l[i]?=some a->∃b,m[i]?=some b/\F a b
 | _,_,.nil,i,a,e=>by simp at e
 | _,_,.cons r t,0,a,e=>by
  have:=dk (by simpa using e);subst this;exact⟨_,rfl,r⟩
 | _,_,.cons r t,i+1,a,e=>Zp t (i:=i) (by simpa using e)
theorem jbi{P:aE}{h:ar}{eB:Array iW}(hd:o.data=.dict eB ep)(x:ObjOk P w H h a (.frz o (.dT kvs))):
  h.get? a=some o/\eB.size=kvs.length/\∀i (hi:i < eB.size),∃k v b,kvs[i]?=some (k,v)/\eB[i].key=.ref b/\H b=some (.tup (k.map kV)):=by
 obtain⟨e,_,_,xs,r,o',es,rj,e',c1,c2,c3,c4⟩:=x
 rw[e]at e'
 cases e'
 rw[hd]at c2
 cases c2
 have hz:eB.size=kvs.length:=by rw[<- dy,c3,az,r.length]
 refine⟨e,hz,fun i hi=>?_⟩
 obtain⟨⟨k,v⟩,h_⟩:∃kv,kvs[i]?=some kv:=⟨_,aK (by omega)⟩
 obtain⟨q,hq,f1,f2,_⟩:=Zp r h_
 refine⟨k,v,q.2.1,h_,?_,f2⟩
 have h1:eB[i]?=some (entryOfKey (oE (j6 P w)) q):=by
  rw[<- ir,c3,bz,hq];rfl
 rw[Gq hi]at h1
 rw[dk h1]
 rfl
theorem jbw{P:aE}{K:aw}(a it:ad){eB:Array iW}(hd:o.data=.dict eB ep):Turn P w K tg (ItT a o kvs) [it] it (fun i h=>h.IsKeyIter it a i kvs.length ep) where
 mem:=by simp
 obj:=fun i h st b hb=>by
  have e:b=it:=by simpa using hb
  subst e;obtain⟨o,e,c,d⟩:=st;exact⟨o,e,fun v z=>by rw[d]at z;cases z⟩
 keep:=fun i h h' st k=>by
  obtain⟨o,e,c,d⟩:=st;exact⟨o,k it (by simp) o e,c,d⟩
 item:=by
  intro X hP hw hK hc i ae s σ H E I hf st hg;subst hP hw hK;obtain⟨hq,hi⟩:=hg;obtain⟨e0,hz,mL⟩:=jbi hd (I.hok a _ hq);obtain⟨k,v,b,h_,xF,hb⟩:=mL i (by omega);obtain⟨f0,f1,f2,f3,f4,f5⟩:=hf it (by simp);refine jfp st e0 hd hz (by omega) fun h' aA sb=>?_
  have I1:Inv X ae σ H { s with heap:=h' }:=I.turned (t':=s.toks) (fun b o hb e=>(sb.2 b hb).trans e) f0 f1 f3 f4 f5;obtain⟨ob,e,c,d⟩:=id aA;rw[xF];exact⟨.ref b,rfl,jba (s:={ s with heap:=h' }) e c d (by decide) ⟨.ref b,H,I1,rfl,⟨rfl,b,k,v,h_,rfl,hb⟩,aA,fun b hb=>(hf b hb).1⟩⟩
 done:=by
  intro X hP hw hK hc i ae s σ H E I hf st hg;subst hP hw hK;obtain⟨hq,hi⟩:=hg;obtain⟨e0,hz,_⟩:=jbi hd (I.hok a _ hq);obtain⟨f0,f1,f2,f3,f4,f5⟩:=hf it (by simp);exact jhm (I.ok.hd hc) st e0 hd hz (by omega) fun h' eb=>⟨rfl,I.turned (t':=s.toks) (fun b o hb e=>eb b o hb e) f0 f1 f3 f4 f5⟩
 self:=fun _ _ _ _ _ st h=>M3 st h
def jfA(tl:TE):TI:=fun σ H R=>tl σ H fun x H1=>∃a kvs,x=.ref a/\H1 a=some (.dT kvs)/\∀o,R (ItT a o kvs) (upd H1 a (.frz o (.dT kvs)))
theorem jeR{l:aj}{tl:TE}(hl:PE X l tl):PI X tg l (jfA tl):=by
 intro ae s σ H R I h;refine thn (hl ae s σ H _ I h) fun v s1 hM=>?_
 obtain⟨x,H1,I1,r1,q1⟩:=hM;obtain⟨a,kvs,e,hq,q⟩:=q1;subst e
 cases r1
 have ok:=I1.hok a _ hq;obtain⟨z1,z2,xs,rv,o,es,ep,e1,c1,c2,c3,c4⟩:=id ok;have I2:Inv X ae σ (upd H1 a (.frz o (.dT kvs))) s1:=I1.relabel hq (fun _ z=>by cases z) (fun _ z=>by cases z) (fun o' z' e'=>by
  have:=I1.base.frzs a o' z' e';rw[hq]at this
  cases this) (fun _ z=>by cases z) ⟨e1,ok.stay (fun _ _ _ q=>q) (fun c q=>by rw[jB (Jc q hq (by intro z;cases z))];exact q) fun c xs q=>by rw[jB (Jc q hq (by intro z;cases z))];exact q⟩
 refine jfw z2 e1 c1 c2 ?_;have bu:es.size=kvs.length:=by rw[<- dy,c3,az,rv.length]
 refine⟨s1.heap.objs.size,[s1.heap.objs.size],_,_,_,rfl,I2.kept (t':=s1.toks) fun b o e=>b_ _ e,jbw a _ c2,⟨_,dg _ rfl,rfl,by rw[<- bu];rfl⟩,fun b hb=>?_,q o⟩;have e:b=s1.heap.objs.size:=by simpa using hb
 subst e;exact I2.fpOk (aD _) (I2.hok.fresh (aD _))
def jen(H₀:Hp)(t:TS):TS:=fun D σ H=>t { D with nx:=fun σ' H'=>∃a o kvs,H' a=some (.frz o (.dT kvs))/\(∀o z,H₀ a≠some (.frz o z))/\D.nx σ' (upd H' a (.dT kvs)) } σ H
theorem jeK{st:aF}{t:TS}(h:PS X st t):PS X st (jen X.H₀ t):=by
 intro ae s σ H D I q;refine thn (h ae s σ H _ I q) fun f s1 q1=>?_
 cases f with
 | next=>
  obtain⟨σ',H',I',a,o,kvs,e,hn,q'⟩:=q1;have ok:=I'.hok a _ e;exact⟨σ',_,I'.relabel e (fun _ z=>by cases z) (fun _ z=>by cases z) hn (fun _ z=>by cases z) (ok.2.stay (fun _ _ _ q=>q) (fun c q=>by rw[jB (Jc q e (by intro z;cases z))];exact q) fun c xs q=>by rw[jB (Jc q e (by intro z;cases z))];exact q),q'⟩
 | cont=>exact q1
 | brk=>exact q1
 | ret v=>exact q1
theorem jdN{g:TG}{tb:TS}{D:Ends}{σ:St}(Pv:Nat->St->Hp->Prop)(h0:Pv 0 σ H)(hl:∀i σ H,i<=kvs.length->Pv i σ H->H a=some (.frz o (.dT kvs)))
  (hs:∀i k v b σ H,kvs[i]?=some (k,v)->H b=some (.tup (k.map kV))->Pv i σ H->g (.ref b) σ H fun σ2 H2=>tb { D with nx:=Pv (i+1),ct:=Pv (i+1),bk:=D.nx } σ2 H2) (hd:∀σ H,Pv kvs.length σ H->D.nx σ H) :
  ∃W:Nat->Nat->St->Hp->Prop,(∃m,W 0 m σ H)/\∀i m σ H,W i m σ H->
   ((ItT a o kvs).stop i H/\D.nx σ H)\/((ItT a o kvs).go i H/\∃N:St->Hp->Prop,(∀σ' H',N σ' H'->∃m',m' < m/\W (i+1) m' σ' H')/\∀x H',(ItT a o kvs).yld i H x H'->g x σ H' fun σ2 H2=>tb { D with nx:=N,ct:=N,bk:=D.nx } σ2 H2):=by
 refine⟨fun i m σ H=>m=kvs.length - i/\i<=kvs.length/\Pv i σ H,⟨kvs.length,by simp,bT _,h0⟩,?_⟩
 rintro i m σ H ⟨rfl,hi,p⟩
 have q:=hl i σ H hi p
 by_cases aP:i < kvs.length
 .refine .inr ⟨⟨q,aP⟩,Pv (i+1),fun σ' H' p'=>⟨kvs.length - (i+1),by omega,rfl,aP,p'⟩,fun x H' y=>?_⟩
  obtain⟨rfl,b,k,v,e,rfl,hb⟩:=y
  exact hs i k v b σ _ e hb p
 .have:i=kvs.length:=by omega
  subst this
  exact .inl ⟨⟨q,aD _⟩,hd σ H p⟩
theorem jbQ:MtR X "dict.values" (fun x xs H Q=>∃(d:ad) (kvs:List (Key×V)),x=.ref d/\xs=[]/\Rd H d (.dK kvs)/\∀v,H v=none->Q (.ref v) (upd H v (kE v d))):=by
 intro ae s σ H x xs v us Q I rx rs h;obtain⟨d,kvs,rfl,rfl,hd,q⟩:=h
 cases rx
 cases rs
 obtain⟨hz,lo,vs,bR,hD⟩:=KY I.hok hd;refine oI A_ hD.typeIs OE (OI _) (NG (j6 X.prog X.w) d lo) ⟨⟨vs,hD⟩,?_⟩;refine⟨.ref s.heap.objs.size,_,I.laid (t':=s.toks) (fun b u e=>b_ _ e) (aD _) (show ObjOk X.prog X.w _ _ _ (kE s.heap.objs.size d) from⟨⟨_,dg _ rfl,rfl,rfl⟩,⟨_,dg _ rfl⟩,fun h1 h2 x k=>?_⟩),rfl,q _ (I.hok.fresh (aD _))⟩;obtain⟨o,e1,e2⟩:=x;exact⟨o,k o e1,e2⟩
def jfz(tl:TE):TI:=fun σ H R=>tl σ H fun x H1=>∃v a o kvs,x=.ref v/\H1 v=some (kE v a)/\H1 a=some (.frz o (.dK kvs))/\R (Itv a o kvs) H1
theorem jeQ{l:aj}{tl:TE}(hl:PE X l tl):PI X tg l (jfz tl):=by
 intro ae s σ H R I h;refine thn (hl ae s σ H _ I h) fun v s1 hM=>?_
 obtain⟨x,H1,I1,r1,q1⟩:=hM;obtain⟨vw,a,o,kvs,e,hv,hq,q⟩:=q1;subst e
 cases r1
 obtain⟨pF,_⟩:=I1.hok vw _ hv;obtain⟨e1,z1,z2,vs,rv,o',es,ep,fZ,c1,c2,c3⟩:=id (I1.hok a _ hq);rw[e1]at fZ
 cases fZ
 have da:s1.heap.DictAt (j6 X.prog X.w) a vs ep:=⟨o,es,e1,c1,c2,c3⟩
 refine M0 pF da ?_;have bu:kvs.length=vs.length:=rv.length;refine⟨s1.heap.objs.size,[s1.heap.objs.size],_,_,_,rfl,I1.kept (t':=s1.toks) fun b o e=>b_ _ e,Zf a _ c2,⟨_,dg _ rfl,rfl,by rw[<- bu];rfl⟩,fun b hb=>?_,q⟩;have e:b=s1.heap.objs.size:=by simpa using hb
 subst e;exact I1.fpOk (aD _) (I1.hok.fresh (aD _))
end
theorem jc1{l:aj}{tl:TE}(h1:QE X l tl):QI X tg l (jfz tl):=⟨@jeQ _ _ _ _ h1.h⟩
theorem jc3{l:aj}{tl:TE}(h1:QE X l tl):QI X tg l (jfA tl):=⟨@jeR _ _ _ _ h1.h⟩
theorem jc0{st:aF}{t:TS}(h1:QS X st t):QS X st (jen (Cx.H₀ X) t):=⟨@jeK _ _ _ h1.h⟩
def jcr(to:TE):TE:=fun σ H Q=>to σ H fun x H1=>∃d kvs,x=.ref d/\Rd H1 d (.dK kvs)/\∀v,H1 v=none->Q (.ref v) (upd H1 v (kE v d))
theorem jdn{X:Cx}{o:aj}{to:TE}{cy bN:Pos}(ho:PE X o to)(pZ:gj o (bE "values") X.env (eval o X.env)=eval o X.env:=by rfl)(pS:(cy.endLine == bN.line)=true:=by rfl):PE X (.Call (.Attribute o (bE "values") cy) [] [] bN) (jcr to):=by
 intro ae s σ H Q I h;refine Nl pZ pS (thn (ho ae s σ H _ I h) fun v s1 hM=>?_);obtain⟨x,H1,I1,r1,q1⟩:=hM;obtain⟨d,kvs,rfl,hd,q⟩:=q1;have r2:=r1
 cases r1
 obtain⟨_,_,vs,bR,hD⟩:=KY I1.hok hd;obtain⟨ob,es,ep,e,ex,_⟩:=id hD;exact⟨"dict","dict.values",Ba,A_,OA,⟨ob,e,ex.1⟩,fun a e2=>by cases e2;exact⟨ob,e,ex.2.1⟩,vk rfl (NM (jbQ ae s1 σ H1 (.ref d) [] _ [] Q I1 r2 .nil ⟨d,kvs,rfl,rfl,hd,q⟩))⟩
theorem Yk{o:aj}{to:TE}{cy bN:Pos}(h1:QE X o to)(h2:gj o (bE "values") (Cx.env X) (eval o (Cx.env X))=eval o (Cx.env X):=by rfl)(h3:(Fi cy == lO bN)=true:=by rfl):QE X (Expr.Call (Expr.Attribute o (bE "values") cy) [] [] bN) (jcr to):=⟨@jdn _ _ _ _ _ h1.h h2 h3⟩
section
variable {g:TG}{tt:TT}{te:TE}{Q:VK}{p:ad}{σ:St}
theorem jdR{kvs:List (Key×V)}(Pv:Nat->St->Hp->Prop)(h0:Pv 0 σ H)(hl:∀i σ' H',i<=kvs.length->Pv i σ' H'->H' a=some (.frz o (.dK kvs)))
  (hs:∀i k x σ' H',kvs[i]?=some (k,x)->Pv i σ' H'->g x σ' H' fun σ3 H3=>tt σ3 H3 fun c H4=>if c=true then te σ3 H4 fun y H5=>∃ys,H5 p=some (.lst ys)/\ys.length < aI/\Pv (i+1) σ3 (upd H5 p (.lst (ys++[y]))) else Pv (i+1) σ3 H4)
  (hd:∀σ' H',Pv kvs.length σ' H'->Q (.ref p) H'):YZ (Itv a o kvs) p g tt te Q σ H:=
 Yg (Itv a o kvs) kvs.length Pv h0 (fun σ' H' pv=>⟨hl _ σ' H' (aD _) pv,aD _⟩) (fun i σ' H' h pv=>⟨hl i σ' H' (c6 h) pv,h⟩) (fun i σ' H' h pv x H2 y=>by
  obtain⟨e1,k,e2⟩:=y;subst e1;exact hs i k x σ' _ e2 pv) hd
end
end L2
namespace LW
open PySem L2
abbrev zc:aF:=top 57
def vrC(s z:P2)(v:D):List D:=kz [atM s z,atM z s] [atM (jW v s) (jW v z)]
def otF(vs:List D)(bJ:List RiT)(s z:P2):List D:=vs.flatMap (vrC s z)++bJ.flatMap fun e=>riC e (s,z)
def spF(sp:List P2)(vs:List D)(bS:List PuT)(bO:List EaT)(bJ:List RiT)(s:P2):List D:=(bS.flatMap fun e=>puC e s)++((bO.flatMap fun e=>eaC e s)++(sp.filter fun z=>decide (z≠s)).flatMap (otF vs bJ s))
theorem jb0{gs ts:List T3}{d:D}:d∈kz gs ts↔∃t,t∈ts/\d∈kz gs [t]:=by
 unfold kz;split
 .exact⟨fun h=>(nomatch h),fun⟨_,_,h⟩=>(nomatch h)⟩
 .rw[bq]
  constructor
  .rintro⟨t,h1,h2⟩
   exact⟨t,h1,bq.mpr ⟨t,List.mem_singleton_self _,h2⟩⟩
  .rintro⟨t,h1,h2⟩
   obtain⟨u,h3,h4⟩:=bq.mp h2;rw[aN.mp h3]at h4;exact⟨t,h1,h4⟩
theorem jhe{sp bW:List P2}{vs gC:List D}{bS:List PuT}{bO:List EaT}{bJ:List RiT}(hs:∀p,p∈sp↔p∈bW)(hv:∀v,v∈vs↔v∈gC)(d:D):
  d∈sp.flatMap (spF sp vs bS bO bJ)↔d∈((jbu gC (kn bW)++puF bW bS)++eaF bW bO)++riF bW bJ:=by
 have pm:∀q:Prod P2 P2,q∈kn bW↔q.1∈bW/\q.2∈bW/\q.1≠q.2:=fun q=>by
  constructor
  .intro h
   obtain⟨s,h1,h2⟩:=iq.mp h;obtain⟨z,h3,rfl⟩:=bq.mp h2;obtain⟨h4,h5⟩:=lW.mp h3;exact⟨h1,h4,Qt h5⟩
  .rintro⟨h1,h2,h3⟩
   exact iq.mpr ⟨q.1,h1,bq.mpr ⟨q.2,lW.mpr ⟨h2,Qu h3⟩,rfl⟩⟩
 have fm:∀(s z:P2),z∈sp.filter (fun z=>decide (z≠s))↔z∈bW/\z≠s:=fun s z=>by
  rw[lW,hs];exact and_congr Iff.rfl ⟨Qt,Qu⟩
 have vm:∀q:Prod P2 P2,d∈jdc gC q↔∃v,v∈gC/\d∈vrC q.1 q.2 v:=fun q=>by
  show d∈kz _ (gC.map _)↔_;rw[jb0];constructor
  .rintro⟨t,h1,h2⟩
   obtain⟨v,h3,rfl⟩:=bq.mp h1;exact⟨v,h3,h2⟩
  .rintro⟨v,h1,h2⟩
   exact⟨_,bq.mpr ⟨v,h1,rfl⟩,h2⟩
 unfold spF otF jbu puF eaF riF
 simp only[iq,bK,fm,pm,vm,hs,hv]
 constructor
 .rintro⟨s,h1,(⟨e,h2,h3⟩ | ⟨e,h2,h3⟩ | ⟨z,⟨h2,h3⟩,(⟨v,h4,h5⟩ | ⟨e,h4,h5⟩)⟩)⟩
  .exact .inl (.inl (.inr ⟨e,h2,s,h1,h3⟩))
  .exact .inl (.inr ⟨e,h2,s,h1,h3⟩)
  .exact .inl (.inl (.inl ⟨(s,z),⟨h1,h2,fun y=>h3 y.symm⟩,v,h4,h5⟩))
  .exact .inr ⟨e,h4,(s,z),⟨h1,h2,fun y=>h3 y.symm⟩,h5⟩
 .rintro (((⟨q,⟨h1,h2,h3⟩,v,h4,h5⟩ | ⟨e,h2,s,h1,h3⟩) | ⟨e,h2,s,h1,h3⟩) | ⟨e,h4,q,⟨h1,h2,h3⟩,h5⟩)
  .exact⟨q.1,h1,.inr (.inr ⟨q.2,⟨h2,fun y=>h3 y.symm⟩,.inl ⟨v,h4,h5⟩⟩)⟩
  .exact⟨s,h1,.inl ⟨e,h2,h3⟩⟩
  .exact⟨s,h1,.inr (.inl ⟨e,h2,h3⟩)⟩
  .exact⟨q.1,h1,.inr (.inr ⟨q.2,⟨h2,fun y=>h3 y.symm⟩,.inr ⟨e,h4,h5⟩⟩)⟩
theorem kU{a b:Nat}{p q:P2}(h:Gs a p)(k:Gs b q)(ha:a<=50)(hb:b<=50):TiS (atM p q):=by
 refine⟨h.1.mono ha,k.1.mono hb,?_⟩;show (q.2 - p.2).natAbs < 10 ^ 39;have h1:=aJ h.2 (nn (10 ^ 20) ha);have h2:=aJ k.2 (nn (10 ^ 20) hb);omega
theorem jdW{p:T3->Prop}{a b:T3}(h:p a)(k:p b):∀t∈[a,b],p t:=fun t ht=>by
 rcases bG.mp ht with rfl | ht
 .exact h
 .rw[aN.mp ht];exact k
theorem jfU{p:T3->Prop}{a:T3}(h:p a):∀t∈[a],p t:=fun t ht=>by rw[aN.mp ht];exact h
def EaT.fc(e:EaT):D:=match e.b with
 | .inl v=>v
 | .inr p=>p2 p
theorem jhn(e:EaT)(g:EaG e):∃(c:Cs) (r:Str) (b:Bd),agD c r e.way b e.k=.tup [e.v,.str e.way,e.fc,.int e.k]/\(∀s,qw (c.ver r) e.way (c.bnd b s) e.k s=t3 (e.tie s))/\(∀q,b=.row q->Ver (c.ver q))/\∀x,b=.is x->∃es,(c.num x).1=.tup es:=by
 obtain⟨t,u,v,way,b,k⟩:=e;obtain⟨_,_,g3,g4,_⟩:=g;have tie:∀(y:P2) (s:P2),qw v way y k s=t3 (if way = ">=" then atM (mor y k) (jW v s) else atM (jW v s) (mor y k)):=fun y s=>by
  unfold qw;split <;> rfl
 cases b with
 | inl w=>
  refine⟨⟨fun _=>none,fun r=>if r = "a" then some v else some w,[],fun _=>[]⟩,"a",.row "b",rfl,fun s=>tie _ s,fun q hq=>?_,fun x hx=>by cases hx⟩
  cases hq
  exact g4
 | inr p=>
  refine⟨⟨fun _=>some p,fun r=>some v,[],fun _=>[]⟩,"a",.is "x",rfl,fun s=>tie _ s,fun q hq=>(by cases hq),fun x hx=>?_⟩
  cases hx
  exact JP (show Gs 40 p from g4).1
theorem jiR{e:EaT}(g:EaG e){s:P2}(h:Gs 40 s):TiS (e.tie s):=by
 obtain⟨_,_,g3,g4,g5⟩:=g;have en:=Gs.ent g3 h (by decide);have bn:Gs 41 (e.at_ s):=by
  unfold EaT.at_
  cases eb:e.b with
  | inl v=>
   rw[eb]at g4;exact Gs.ent (show Ver v from g4) h (by decide)
  | inr p=>
   rw[eb]at g4;exact (show Gs 40 p from g4).mono (by decide)
 have mb:=bn.mor (d:=e.k) (by omega);unfold EaT.tie;split
 .exact kU mb en (by decide) (by decide)
 .exact kU en mb (by decide) (by decide)
theorem jai:∀{H:Hp} (k:List Key),HeldL H (k.map kyD) (k.map kV)
 | _,[]=>jl
 | _,.inl i :: k=>jc jP (jai k)
 | _,.inr x :: k=>jc jF (jai k)
theorem MvD.thaw{aM a:ad}{u w:HO}{G G':Hp}(e:G a=some u)(m:MvD aM (upd G a w) G'):MvD aM G (upd G' a u):=fun b o nb eb=>by
 by_cases z:b=a
 .subst z
  rw[e]at eb;rw[jf];exact eb
 .rw[jB z]
  exact m _ _ nb (by rw[jB z];exact eb)
theorem DueAt.relab{n:Nat}{L:List D}{G:Hp}{aM a:ad}{u w:HO}(h:DueAt n L G aM)(e:G a=some u)(nt:∀xs,u≠.tup xs)(na:a≠aM):DueAt n L (upd G a w) aM:=by
 obtain⟨cs,kvs,h1,h2,h3,h4,h5,h6,h7⟩:=h;exact⟨cs,kvs,jk na.symm h1,h2,TK.heldL (fun b xs eb=>jk (fun z=>by rw[z,e]at eb;cases eb;exact nt _ rfl) eb) h3,h4,h5,h6,h7⟩
section
variable {P:aE}{w:aB}{K:aw}{mg:Str->Option ag}{base:ar}
inductive spDue(vs:List V)(H:Hp)(Q:VK)(E:XK):Prop
 | mk (n:Nat) (A:BA) (c:Cs) (sp:List P2) (vl:List D) (bS:List PuT) (bO:List EaT) (bJ:List RiT) (_:vs=[.ref A.o]) (_:BxAt n A c H) (_:XE A c H) (_:n<=68) (_:(∀d,d∈c.l 2↔d∈sp.map p2)) (_:(∀p∈sp,Gs 40 p)) (_:(∀d,d∈yP c↔d∈vl)) (_:(∀v∈vl,Ver v)) (_:c.l 3=bS.map PuT.toD) (_:(∀e∈bS,PuG e)) (_:c.l 4=bO.map EaT.toD) (_:(∀e∈bO,EaG e)) (_:c.l 5=bJ.map RiT.toD) (_:(∀e∈bJ,RiG e)) (_:True) (_:∀(l:ad) (xs:List V) (es:List D) (H':Hp),Same H H'->H l=none->H' l=some (.lst xs)->HeldL H' es xs->es.Pairwise (fun a b=>dLt b a=false)->es.Nodup->(∀d∈es,d.depth<=200)->(∀d,d∈es↔d∈((jbu vl (kn sp)++puF sp bS)++eaF sp bO)++riF sp bJ)->Q (.ref l) H')
theorem jbO{f:ad}{fd:aL}(F:Fun K "_law_clauses" "_law_clauses" zc f fd)(B:Free0 mg)(Ez:mg "sorted" = none)(cZ:Fn P w K mg base 1 "_law_entry" ["_law_version_here","_law_spot_here"] spEnt)(cY:Fn P w K mg base 1 "_law_more" ["_law_one","_law_more_here"] spMore)(cg:Fn P w K mg base 1 "_law_tie" ["_law_one","_law_other"] spAtM)(oo:Fn P w K mg base 2 "_law_like" ["_law_one","_law_other"] spLike)(oA:Fn P w K mg base 2 "_law_body" ["_law_body_here","_law_spot_here","_law_about"] spBodyL)(lH:Fn P w K mg base 14 "_law_noted" ["_law_due","_law_guards","_law_ties"] spNoted):FnOk P w K mg base CX0 17 f fd ["_law_box"] spDue:=by
 have sc:FnScope ["_law_box","_law_due","_law_one","_law_new","_law_old","_law_here","_law_worth","_law_after","_law_like_here","_law_t","_law_u","_law_body_here","_law_other","_law_version_here","_law_tie_here","_law_guards"] ["_law_box"] (jm zc):=fQ;refine F.okZ sc (fun ax A outer s H vs Q E hr h=>?_);have hu:(A.deeper (cA "_law_clauses" (jm zc) s.heap.objs.size f ax)).units+1 < cLine:=by have:=hr.un;omega
 have dZ:(A.deeper (cA "_law_clauses" (jm zc) s.heap.objs.size f ax)).units+1+200 < cLine:=by have:=hr.un;omega
 have CV:(A.deeper (cA "_law_clauses" (jm zc) s.heap.objs.size f ax)).units+3+200 < cLine:=by have:=hr.un;omega
 obtain⟨n,BX,c,sp,vl,bS,bO,bJ,rfl,I,X,hn,aY,lB,sT,y_,h3,g3,h4,g4,h5,g5,_,q⟩:=h;refine⟨_,(jd (jy (i:=1) sc.nd rfl oQ k9)
   (jd (jaD (ky df rfl (jd3 (Yk (jO hu (zpv 0) jq (fun _ _=>rfl)))) (ju (i:=2) sc.nd rfl oQ) (jd (ky df rfl (ke (jO hu (zpv 0) jq (fun _ _=>rfl))) (kH rfl (jz (ju (i:=3) sc.nd rfl oQ) (jz (ju (i:=4) sc.nd rfl oQ) (jz (ju (i:=5) sc.nd rfl oQ) (jz (ju (i:=6) sc.nd rfl oQ) kr))))) (jd (jy (i:=7) sc.nd rfl oQ (jg cZ hr (ja (zpv 3) (ja (zpv 2) jb))))
   (ji (jN (jD (yI 200 dZ) (zpv 2) (zpv 5) (jI _)) (jd (jA (jg lH hr (ja (zpv 1) (ja (jg oo hr (ja (zpv 2) (ja (zpv 5) jb))) (ja (jg oo hr (ja (zpv 7) (ja (zpv 6) jb))) jb)))))
   (jd (jy (i:=8) sc.nd rfl oQ (jg oo hr (ja (zpv 7) (ja (jg cZ hr (ja (zpv 4) (ja (zpv 2) jb))) jb))))
   (jd (jA (jg lH hr (ja (zpv 1) (ja (jG (ja (jg cg hr (ja (zpv 2) (ja (jg cY hr (ja (zpv 5) (ja (ZM ZP je) jb))) jb))) jb)) (ja (zpv 8) jb)))))
   (ji (jA (jg lH hr (ja (zpv 1) (ja (jG (ja (jg cg hr (ja (jg cY hr (ja (zpv 5) (ja je jb))) (ja (zpv 2) jb))) jb)) (ja (zpv 8) jb))))))))) jL))))
   (jd (ky df rfl (ke (jO hu (zpv 0) jq (fun _ _=>rfl))) (kH rfl (jz (ju (i:=9) sc.nd rfl oQ) (jz (ju (i:=10) sc.nd rfl oQ) (jz (ju (i:=11) sc.nd rfl oQ) kr)))) (ji (jA (jg lH hr (ja (zpv 1) (ja (jG (ja (jg cg hr (ja (zpv 9) (ja (zpv 2) jb))) (ja (jg cg hr (ja (zpv 2) (ja (zpv 10) jb))) jb))) (ja (jG (ja (jg oA hr (ja (zpv 11) (ja (zpv 2) (ja yB jb)))) jb)) jb)))))))
   (ji (ky df rfl (ke (yd ["_law_spot_here"] [2] rfl (qZ (sc:=jm zc) (N:=["_law_box","_law_due","_law_one","_law_new","_law_old","_law_here","_law_worth","_law_after","_law_like_here","_law_t","_law_u","_law_body_here","_law_other","_law_version_here","_law_tie_here","_law_guards"]) rfl rfl (by decide +kernel)) (jc1 (Yk (jO hu (zpv 0) jq (fun _ _=>rfl)))) (fun s H ex=>⟨(ju (i:=0) (show fO (["_law_spot_here","_law_one"]:List Str) by decide +kernel) rfl oQ),(Yh (jD (yI 200 dZ) (zpv 0) (zpv 1) (jI _))),(zpv 0)⟩))) (ju (i:=12) sc.nd rfl oQ) (jd (jc0 (ky df rfl (jc3 (jO hu (zpv 0) jq (fun _ _=>rfl))) (ju (i:=13) sc.nd rfl oQ) (jd (jy (i:=14) sc.nd rfl oQ (jg cg hr (ja (jg cZ hr (ja (zpv 13) (ja (zpv 2) jb))) (ja (jg cZ hr (ja (zpv 13) (ja (zpv 12) jb))) jb))))
   (ji (jA (jg lH hr (ja (zpv 1) (ja (jg oo hr (ja (zpv 2) (ja (zpv 12) jb))) (ja (jG (ja (zpv 14) jb)) jb)))))))))
   (ji (ky df rfl (ke (jO hu (zpv 0) jq (fun _ _=>rfl))) (kH rfl (jz (ju (i:=9) sc.nd rfl oQ) (jz (ju (i:=10) sc.nd rfl oQ) (jz (ju (i:=13) sc.nd rfl oQ) kr)))) (jd (jy (i:=15) sc.nd rfl oQ (jG (ja (jg cg hr (ja (zpv 9) (ja (zpv 2) jb))) (ja (jg cg hr (ja (zpv 2) (ja (zpv 12) jb))) (ja (jg cg hr (ja (zpv 12) (ja (zpv 10) jb))) jb)))))
   (jd (jy (i:=14) sc.nd rfl oQ (jg cg hr (ja (jg cZ hr (ja (zpv 13) (ja (zpv 2) jb))) (ja (jg cZ hr (ja (zpv 13) (ja (zpv 12) jb))) jb))))
   (ji (jA (jg lH hr (ja (zpv 1) (ja (zpv 15) (ja (jG (ja (zpv 14) jb)) jb)))))))))))))))))
   (ji (jC (zh (KL (n:=200) rfl CV) (by rfl) B.sorted_ ZE (ja (jf0 Ba A_ OA jdz (zpv 1)) jb)))))),?_⟩
 try dsimp only[kx]
 refine jH (σ':=[some (.ref BX.o),none,none,none,none,none,none,none,none,none,none,none,none,none,none,none]) rfl ?_;refine fun aM pV=>?_
 refine gQ ?_;have s0:=jj pV (.dK []);have e0:upd H aM (.dK []) aM=some (.dK []):=jf;have I0:=I.same s0;have X0:=X.same s0;generalize upd H aM (.dK [])=H0 at *;obtain⟨ds,kvs,t1,t2,sk,t4,t5,t6,t7⟩:=I0.t 0 (by decide);refine⟨_,rfl,BX.o,_,rfl,Kr I0.o,BX.t 0,kvs,rfl,.inl t1,fun vw pD=>?_⟩;refine⟨vw,BX.t 0,kvs,rfl,jf,jj pD _ _ _ t1,fun ob=>?_⟩;obtain⟨sJ,sI,pj,iy,sH⟩:=I.ne;obtain⟨_,Co,u1,_⟩:=I.t 0 (by decide);have i_:BX.t 0≠aM:=jp u1 pV;have Hh:BX.o≠aM:=jp I.o pV;have wu:∀o z,H (BX.t 0)≠some (.frz o z):=fun o z e=>by rw[u1]at e;cases e
 obtain⟨Hr,v1,v2,v3⟩:=X0.vs;have i9:BX.vs≠aM:=by
  obtain⟨_,w1,_⟩:=X.vs;exact jp w1 pV
 have Hg:∀o z,H BX.vs≠some (.frz o z):=fun o z e=>by
  obtain⟨_,w1,_⟩:=X.vs;rw[w1]at e
  cases e
 obtain⟨eB,l0,k0⟩:=X0.l 0 (by decide);obtain⟨tX,l1,k1⟩:=X0.l 1 (by decide);obtain⟨Mp,l2,k2⟩:=X0.l 2 (by decide);obtain⟨vN,y0,z0⟩:=I0.l 0 (by decide);obtain⟨vM,y1,z1⟩:=I0.l 1 (by decide);obtain⟨vL,y2,z2⟩:=I0.l 2 (by decide);obtain⟨fz,yT,zT⟩:=I0.vs;obtain rfl:vN=eB:=by rw[l0]at y0;cases y0;rfl
 obtain rfl:vM=tX:=by rw[l1]at y1;cases y1;rfl
 obtain rfl:vL=Mp:=by rw[l2]at y2;cases y2;rfl
 obtain rfl:fz=Hr:=by rw[v1]at yT;cases yT;rfl
 clear y0 y1 y2 yT;have GC:H (BX.t 0)=some (.dK kvs):=by
  have:=s0 _ _ u1;rw[t1]at this
  cases this
  exact u1
 have sV:=jj pD (kE vw (BX.t 0));generalize upd H0 vw (kE vw (BX.t 0))=Ha at *;have GL:=sV _ _ t1;have kp:∀{b o},Ha b=some o->b≠BX.t 0->upd Ha (BX.t 0) (.frz ob (.dK kvs)) b=some o:=fun e n=>jk n e
 have oV:TK H0 (upd Ha (BX.t 0) (.frz ob (.dK kvs))):=fun b xs eb=>kp (sV _ _ eb) (jv eb t1 (by intro z;cases z))
 have hS:∀b o,b≠BX.t 0->H b=some o->upd Ha (BX.t 0) (.frz ob (.dK kvs)) b=some o:=fun b o nb e=>kp (sV _ _ (s0 _ _ e)) nb
 have f1:=kp (sV _ _ I0.o) (iy 0 (by decide)).1;have f2:upd Ha (BX.t 0) (.frz ob (.dK kvs)) (BX.t 0)=some (.frz ob (.dK kvs)):=jf;have f3:=kp (sV _ _ v1) (jv v1 t1 (by intro z;cases z));have f4:=kp (sV _ _ l0) (jv l0 t1 (by intro z;cases z));have f5:=kp (sV _ _ l1) (jv l1 t1 (by intro z;cases z));have f6:=kp (sV _ _ l2) (jv l2 t1 (by intro z;cases z));have f7:=kp (sV _ _ e0) i_.symm;have g0:=oV.heldL k0;have g1:=oV.heldL k1;have g2:=oV.heldL k2;have gd:=oV.heldL sk;generalize upd Ha (BX.t 0) (.frz ob (.dK kvs))=H1 at *;clear kp oV sV GL k0 k1 k2 sk l0 l1 l2 v1 e0 pD I0 X0 u1 t1;obtain⟨bW,rfl,Me⟩:=Ze (f:=p2) (p:=fun p=>p∈sp) (l:=ds) fun d hd=>by
  obtain⟨p,hp,rfl⟩:=bq.mp ((aY d).mp ((t5 d).mp hd));exact⟨p,rfl,hp⟩
 have iK:lL c 2=bS.map fun e:PuT=>D.tup [e.b,e.a,p2 e.s,p2 e.v]:=by
  show (c.l 3).map Z8=_;rw[h3,fM];rfl
 have MG:lL c 0=bO.map fun e:EaT=>D.tup [p2 e.t,p2 e.u,.tup [e.v,.str e.way,e.fc,.int e.k]]:=by
  show (c.l 4).map jar=_;rw[h4,fM];refine F0 fun e he=>?_
  obtain⟨a1,a2,a3,a4,b,a6⟩:=e
  cases b <;> rfl
 have fZ:lL c 1=bJ.map RiT.toD:=h5;rw[iK]at g2;rw[MG]at g0;rw[fZ]at g1;have n2:bS.length<=n:=by rw[<- az (f:=fun e:PuT=>D.tup [e.b,e.a,p2 e.s,p2 e.v]),g2.length];exact z2
 have n0:bO.length<=n:=by rw[<- az (f:=fun e:EaT=>D.tup [p2 e.t,p2 e.u,.tup [e.v,.str e.way,e.fc,.int e.k]]),g0.length];exact z0
 have n1:bJ.length<=n:=by rw[<- az (f:=RiT.toD),g1.length];exact z1
 have ns:bW.length<=n:=by rw[<- az (f:=p2),gd.length,az];exact t7
 have nk:kvs.length=bW.length:=by rw[<- az (f:=p2) (as:=bW),gd.length,az]
 obtain⟨cn,tW⟩:∃cn,cn=(fz.map (·.1)).map kD:=⟨_,rfl⟩
 rw[<- tW]at v3;have nv:cn.length<=n:=by rw[tW,az,az];exact zT
 have Md:∀v∈cn,Ver v:=fun v hv=>y_ v ((sT v).mp ((v3 v).mp hv))
 have re:∀p∈bW,Gs 40 p:=fun p hp=>lB p (Me p hp)
 have M1:MvD aM H1 H1:=fun _ _ _ e=>e
 have D1:DueAt 0 [] H1 aM:=⟨[],[],f7,rfl,jl,oS,fun d=>Iff.rfl,fun _ h=>(nomatch h),aD _⟩
 have sj:∀{G:Hp},MvD aM H1 G->TK H1 G:=fun m=>m.tk f7
 have fT:∀{b:ad} {ws:List V},H1 b=some (.lst ws)->b≠aM:=fun e=>jv e f7 (by intro z;cases z)
 have B1:∀{G:Hp},MvD aM H1 G->G BX.o=some (.dK (zM BX)):=fun m=>m _ _ Hh f1
 let Pv:Nat->L2.St->Hp->Prop:=fun i σ G=>∃u2 u3 u4 u5 u6 u7 u8 u9 bC bA bP bp bf a_,σ=[some (.ref BX.o),some (.ref aM),u2,u3,u4,u5,u6,u7,u8,u9,bC,bA,bP,bp,bf,a_]/\MvD aM H1 G/\DueAt (9724 * i) ((bW.take i).flatMap (spF bW cn bS bO bJ)) G aM
 refine jfF Pv ⟨none,none,none,none,none,none,none,none,none,none,none,none,none,none,rfl,M1,D1⟩ ?_ ?_ ?_
 .rintro i σ G _ ⟨u2,u3,u4,u5,u6,u7,u8,u9,bC,bA,bP,bp,bf,a_,rfl,m,_⟩
  exact m _ _ i_ f2
 .rintro i k x σ G h_ ⟨u2,u3,u4,u5,u6,u7,u8,u9,bC,bA,bP,bp,bf,a_,rfl,m,J⟩
  have hi:i < bW.length:=by rw[<- nk];exact (bL.mp h_).1
  have hx:Held H1 (p2 bW[i]) x:=j7 gd (by rw[bz,aK hi];rfl) (by rw[bz,h_];rfl);have gs:=re _ (cT hi);have ef:=kM (f:=spF bW cn bS bO bJ) hi;have md:∀σ' G',(∃u2 u3 u4 u5 u6 u7 u8 u9 bC bA bP bp bf a_,σ'=[some (.ref BX.o),some (.ref aM),u2,u3,u4,u5,u6,u7,u8,u9,bC,bA,bP,bp,bf,a_])->MvD aM H1 G'->DueAt (9724 * i+9724) ((bW.take i).flatMap (spF bW cn bS bO bJ)++spF bW cn bS bO bJ bW[i]) G' aM->Pv (i+1) σ' G':=fun σ' G' ⟨u2,u3,u4,u5,u6,u7,u8,u9,bC,bA,bP,bp,bf,a_,e⟩ m' J'=>⟨u2,u3,u4,u5,u6,u7,u8,u9,bC,bA,bP,bp,bf,a_,e,m',by rw[ef];exact J'⟩
  clear_value Pv;generalize (bW.take i).flatMap (spF bW cn bS bO bJ)=L at *;have hb:9724 * i<=9724 * 68:=Bs _ (by omega);generalize 9724 * i=N at *;generalize hs:bW[i]=s at *;clear ef;refine qN ?_;intro EE0;refine gQ ?_;refine⟨_,rfl,BX.o,_,rfl,jhW (B1 m),BX.l 2,rfl,⟨_,SqL.of (m _ _ (fT f6) f6)⟩,?_⟩;let Pp:Nat->L2.St->Hp->Prop:=fun j σ' G'=>∃u3 u4 u5 u6 u7 u8 u9 bC bA bP bp bf a_,σ'=[some (.ref BX.o),some (.ref aM),some x,u3,u4,u5,u6,u7,u8,u9,bC,bA,bP,bp,bf,a_]/\MvD aM H1 G'/\DueAt (N+6 * j) (L++(bS.take j).flatMap fun e=>puC e s) G' aM
  refine kG (xs:=vL) Pp ⟨u3,u4,u5,u6,u7,u8,u9,bC,bA,bP,bp,bf,a_,rfl,m,J.congr (aD _) fun d=>by rw[io,nB,dl]⟩ ?_ ?_ ?_
  .rintro j σ' G' _ ⟨u3,u4,u5,u6,u7,u8,u9,bC,bA,bP,bp,bf,a_,rfl,m',_⟩
   exact SqL.of (m' _ _ (fT f6) f6)
  .rintro j y σ' G' hy ⟨u3,u4,u5,u6,u7,u8,u9,bC,bA,bP,bp,bf,a_,rfl,m',J'⟩
   have hj:j < bS.length:=by rw[<- az (f:=fun e:PuT=>D.tup [e.b,e.a,p2 e.s,p2 e.v]),g2.length];exact (bL.mp hy).1
   have bZ:Held H1 (D.tup [bS[j].b,bS[j].a,p2 bS[j].s,p2 bS[j].v]) y:=j7 g2 (by rw[bz,aK hj];rfl) hy;have ge:=g3 _ (cT hj);have ej:(bS.take (j+1)).flatMap (fun e=>puC e s)=(bS.take j).flatMap (fun e=>puC e s)++puC bS[j] s:=kM hj;have nI:∀σ' cX,(∃u3 u4 u5 u6 u7 u8 u9 bC bA bP bp bf a_,σ'=[some (.ref BX.o),some (.ref aM),some x,u3,u4,u5,u6,u7,u8,u9,bC,bA,bP,bp,bf,a_])->MvD aM H1 cX->DueAt (N+6 * j+6) ((L++(bS.take j).flatMap fun e=>puC e s)++puC bS[j] s) cX aM->Pp (j+1) σ' cX:=by rintro σ' cX ⟨u3,u4,u5,u6,u7,u8,u9,bC,bA,bP,bp,bf,a_,e⟩ m2 J2;exact⟨u3,u4,u5,u6,u7,u8,u9,bC,bA,bP,bp,bf,a_,e,m2,J2.congr (nq (by omega)) fun d=>by rw[ej,bh]⟩
   clear_value Pp;generalize (L++(bS.take j).flatMap fun e=>puC e s)=L1 at *;have dD:N+6 * j<=9724 * 68+6 * 68:=by omega
   generalize N+6 * j=N1 at *;generalize bS[j]=e at *;clear ej J;refine qN ?_;intro EE1;obtain⟨tT,Mh,Eb,Mg⟩:=ge;have t':=sj m';obtain⟨tp,x0,x1,x2,x3,rfl,ht,h0,cv,h2,ie⟩:=zJ (t'.held bZ);have cp:=t'.held hx;refine⟨tp,_,rfl,SqT.of ht,rfl,_,_,rfl,_,_,rfl,_,_,rfl,_,_,rfl,rfl,?_⟩;refine jH (σ':=[some (.ref BX.o),some (.ref aM),some x,some x0,some x1,some x2,some x3,u7,u8,u9,bC,bA,bP,bp,bf,a_]) rfl ?_;refine⟨_,rfl,_,rfl,x0,x,e.b,s,rfl,h0,cp,fun af G1 s1 p_=>?_⟩;refine gQ ?_;have m1:=m'.trans (.same s1);have J1:=J'.same s1;have fU:=cp.mono s1;have sK:=cv.mono s1;have nM:=h2.mono s1;have Cp:=ie.mono s1;clear m' J' cp h0 cv h2 ie ht t' bZ;obtain⟨xo,vO,rfl,w1,w2⟩:=jE (show Held G1 (.tup [s.1,.int s.2]) x from fU);obtain⟨xh,Gy,rfl,w3,w4⟩:=jE (show Held G1 (.tup [e.s.1,.int e.s.2]) x2 from nM);have Ae:D.depthL [s.1,.int s.2]<=200:=by
    have:=gs.1.ok.2.1;show max s.1.depth (max 0 0)<=200;omega
   refine⟨_,rfl,_,rfl,xo,xh,vO,Gy,_,_,rfl,rfl,w1,w3,Ae,w2,w4,_,rfl,?_⟩;by_cases z:[s.1,D.int s.2]=[e.s.1,.int e.s.2]
   .rw[Qu z]
    refine kA ?_;have zs:s=e.s:=yH (Qz D.tup z);exact nI _ _ ⟨_,_,_,_,_,_,_,_,_,_,_,_,_,rfl⟩ m1 (J1.congr (by omega) fun d=>by unfold puC;rw[Qx zs,dl])
   rw[Qv z];refine kR ?_;have zs:¬s=e.s:=fun y=>z (by rw[y])
   have en:=Gs.ent Mg gs (by decide);have eo:=Gs.ent Mh gs (by decide);refine⟨_,rfl,_,rfl,_,rfl,.ref xo,.ref xh,s,e.s,rfl,fU,nM,fun l1 p1 r1 G2 s2 _ a2 q1 q2=>⟨_,rfl,_,rfl,af,x3,jW e.b s,e.v,rfl,p_.mono s2,Cp.mono s2,fun l2 p3 r3 G3 s3 _ a3 q3 q4=>?_⟩⟩;refine⟨aM,l1,l2,N1,L1,[atM s e.s,atM e.s s],[atM (jW e.b s) e.v,atM e.v (jW e.b s)],[p1,r1],[p3,r3],rfl,J1.same (s2.trans s3),(by show N1+2<=1000000;omega),s3 _ _ a2,jc (q1.mono s3) (jc (q2.mono s3) jl),a3,jc q3 (jc q4 jl),jdW (kU gs tT (by decide) (by decide)) (kU tT gs (by decide) (by decide)),jdW (kU en Eb (by decide) (by decide)) (kU Eb en (by decide) (by decide)),by show 2<=3;decide,by show 2<=4;decide,fun G4 m4 J4=>?_⟩;have oX:TK G1 G4:=(TK.same (s2.trans s3)).trans (by
    obtain⟨_,fi,b1,_⟩:=J1.same (s2.trans s3);exact m4.tk b1)
   have m1:=m1.trans ((MvD.same (s2.trans s3)).trans m4);have fU:=oX.held fU;have nM:=oX.held nM;have sK:=oX.held sK;have p_:=oX.held p_;have J4:DueAt (N1+2) _ G4 aM:=J4;clear q1 q2 q3 q4 a2 a3 s2 s3 m4 oX J1 w1 w2 w3 w4 Cp;refine⟨_,rfl,_,rfl,_,rfl,x1,.ref xo,e.a,s,rfl,sK,fU,fun ol G5 s5 Dd=>⟨af,ol,jW e.b s,jW e.a s,rfl,p_.mono s5,Dd,fun ll y1 y2 G6 s6 _ al q1 q2=>?_⟩⟩;refine gQ ?_;have m2:=m1.trans (.same (s5.trans s6));have J6:=J4.same (s5.trans s6);have pB:=fU.mono (s5.trans s6);have wT:=nM.mono (s5.trans s6);have xT:HeldL G6 ((puS e s).map t3) [y1,y2]:=jc q1 (jc q2 jl);have BJ:∀t∈puS e s,TiS t:=jdW (kU en eo (by decide) (by decide)) (kU eo en (by decide) (by decide));have nL:(puS e s).length=2:=rfl;clear q1 q2 Dd p_ sK nM fU m1 J4 s5 s6;generalize eLL:puS e s=LL at *;refine⟨_,rfl,_,rfl,_,rfl,_,rfl,.ref xh,-1,e.s,rfl,wT,fun mo G7 s7 iE=>⟨.ref xo,mo,s,mor e.s (-1),rfl,pB.mono s7,iE,fun ti G8 s8 g_=>⟨sm rfl,fun lg cQ=>?_⟩⟩⟩;have s9:=jj cQ (.lst [ti]);have e9:upd G8 lg (.lst [ti]) lg=some (.lst [ti]):=jf;have sY:=g_.mono s9;generalize upd G8 lg (.lst [ti])=G9 at *;have fS:=s7.trans (s8.trans s9);refine⟨_,rfl,aM,lg,ll,N1+2,_,[atM s (mor e.s (-1))],LL,[ti],[y1,y2],rfl,J6.same fS,(by rw[nL];omega),e9,jc sY jl,fS _ _ al,(TK.same fS).heldL xT,jfU (kU gs (tT.mor (d:=-1) (by decide)) (by decide) (by decide)),BJ,by show 1<=3;decide,by rw[nL];decide,fun Ga ma Ja=>?_⟩;rw[nL]at Ja;have ta:TK G6 Ga:=(TK.same fS).trans (by
    obtain⟨_,fi,b1,_⟩:=J6.same fS;exact ma.tk b1)
   have Hf:ll≠aM:=by
    obtain⟨_,fi,b1,_⟩:=J6;exact jv al b1 (by intro z;cases z)
   have wJ:MvD aM G6 Ga:=(MvD.same fS).trans ma;have m3:=m2.trans wJ;have MO:=wJ _ _ Hf al;have HN:=ta.held pB;have Hu:=ta.held wT;have LR:=ta.heldL xT;clear fS s7 s8 s9 ma wJ m2 J6 pB wT xT al g_ sY iE ta e9 cQ;refine⟨_,rfl,_,rfl,.ref xh,1,e.s,rfl,Hu,fun mo G7 s7 iE=>⟨_,rfl,mo,.ref xo,mor e.s 1,s,rfl,iE,HN.mono s7,fun ti G8 s8 g_=>⟨sm rfl,fun lg cQ=>?_⟩⟩⟩;have s9:=jj cQ (.lst [ti]);have e9:upd G8 lg (.lst [ti]) lg=some (.lst [ti]):=jf;have sY:=g_.mono s9;generalize upd G8 lg (.lst [ti])=G9 at *;have fS:=s7.trans (s8.trans s9);refine⟨_,rfl,aM,lg,ll,N1+2+2,_,[atM (mor e.s 1) s],LL,[ti],[y1,y2],rfl,Ja.same fS,(by rw[nL];omega),e9,jc sY jl,fS _ _ MO,(TK.same fS).heldL LR,jfU (kU (tT.mor (d:=1) (by decide)) gs (by decide) (by decide)),BJ,by show 1<=3;decide,by rw[nL];decide,fun Gb mb Jb=>?_⟩;rw[nL]at Jb;refine nI _ _ ⟨_,_,_,_,_,_,_,_,_,_,_,_,_,rfl⟩ (m3.trans ((MvD.same fS).trans mb)) (Jb.congr (by omega) fun d=>?_);unfold puC;rw[Qw zs,eLL,bh,bh]
  .skip
   rintro σ G' ⟨u3,u4,u5,u6,u7,u8,u9,bC,bA,bP,bp,bf,a_,rfl,m',J'⟩;have:bS.length=vL.length:=by rw[<- az (f:=fun e:PuT=>D.tup [e.b,e.a,p2 e.s,p2 e.v]),g2.length]
   rw[<- this,cu]at J';generalize ePU:(bS.flatMap fun e=>puC e s)=PU at *;have cV:N+6 * bS.length<=9724 * 68+6 * 68:=by omega
   have tP:N+6 * bS.length<=N+408:=by omega
   generalize N+6 * bS.length=N2 at *;clear this m J Pp;refine⟨_,rfl,BX.o,_,rfl,jhY (B1 m'),BX.l 0,rfl,⟨_,SqL.of (m' _ _ (fT f4) f4)⟩,?_⟩;let Pe:Nat->L2.St->Hp->Prop:=fun j σ' G'=>∃u3 u4 u5 u6 u7 u8 u9 bC bA bP bp bf a_,σ'=[some (.ref BX.o),some (.ref aM),some x,u3,u4,u5,u6,u7,u8,u9,bC,bA,bP,bp,bf,a_]/\MvD aM H1 G'/\DueAt (N2+j) ((L++PU)++(bO.take j).flatMap fun e=>eaC e s) G' aM
   refine kG (xs:=vN) Pe ⟨u3,u4,u5,u6,u7,u8,u9,bC,bA,bP,bp,bf,a_,rfl,m',J'.congr (aD _) fun d=>by rw[io,nB,dl]⟩ ?_ ?_ ?_
   .rintro j σ' G' _ ⟨u3,u4,u5,u6,u7,u8,u9,bC,bA,bP,bp,bf,a_,rfl,m',_⟩
    exact SqL.of (m' _ _ (fT f4) f4)
   .rintro j y σ' G' hy ⟨u3,u4,u5,u6,u7,u8,u9,bC,bA,bP,bp,bf,a_,rfl,m',J'⟩
    have hj:j < bO.length:=by rw[<- az (f:=fun e:EaT=>D.tup [p2 e.t,p2 e.u,.tup [e.v,.str e.way,e.fc,.int e.k]]),g0.length];exact (bL.mp hy).1
    have bZ:Held H1 (D.tup [p2 bO[j].t,p2 bO[j].u,.tup [bO[j].v,.str bO[j].way,bO[j].fc,.int bO[j].k]]) y:=j7 g0 (by rw[bz,aK hj];rfl) hy;have ge:=g4 _ (cT hj);have ej:(bO.take (j+1)).flatMap (fun e=>eaC e s)=(bO.take j).flatMap (fun e=>eaC e s)++eaC bO[j] s:=kM hj;have nI:∀σ' cX,(∃u3 u4 u5 u6 u7 u8 u9 bC bA bP bp bf a_,σ'=[some (.ref BX.o),some (.ref aM),some x,u3,u4,u5,u6,u7,u8,u9,bC,bA,bP,bp,bf,a_])->MvD aM H1 cX->DueAt (N2+j+1) (((L++PU)++(bO.take j).flatMap fun e=>eaC e s)++eaC bO[j] s) cX aM->Pe (j+1) σ' cX:=by rintro σ' cX ⟨u3,u4,u5,u6,u7,u8,u9,bC,bA,bP,bp,bf,a_,e⟩ m2 J2;exact⟨u3,u4,u5,u6,u7,u8,u9,bC,bA,bP,bp,bf,a_,e,m2,J2.congr (nq (by omega)) fun d=>by rw[ej,bh]⟩
    clear_value Pe;generalize ((L++PU)++(bO.take j).flatMap fun e=>eaC e s)=L1 at *;have ic:N2+j<=9724 * 68+6 * 68+68:=by omega
    generalize N2+j=N1 at *;generalize bO[j]=e at *;clear ej;refine qN ?_;intro EE2;have t':=sj m';obtain⟨tp,x0,x1,x2,rfl,ht,h0,cv,h2⟩:=yD (t'.held bZ);have cp:=t'.held hx;refine⟨tp,_,rfl,SqT.of ht,rfl,_,_,rfl,_,_,rfl,_,_,rfl,rfl,?_⟩;refine jH (σ':=[some (.ref BX.o),some (.ref aM),some x,u3,u4,u5,u6,u7,u8,some x0,some x1,some x2,bP,bp,bf,a_]) rfl ?_;obtain⟨cc,rr,bb,b1,b2,b3,b4⟩:=jhn e ge;refine⟨_,rfl,_,rfl,_,rfl,x0,x,e.t,s,rfl,h0,cp,fun a1 Ga s1 q1=>⟨_,rfl,_,rfl,x,x1,s,e.u,rfl,cp.mono s1,cv.mono s1,fun a2 Gb s2 q2=>⟨sm rfl,fun lg cQ=>?_⟩⟩⟩;have s3:=jj cQ (.lst [a1,a2]);have e3:upd Gb lg (.lst [a1,a2]) lg=some (.lst [a1,a2]):=jf;have GZ:=(q1.mono s2).mono s3;have GY:=q2.mono s3;generalize upd Gb lg (.lst [a1,a2])=Gc at *;have cP:=s1.trans (s2.trans s3);refine⟨_,rfl,_,rfl,false,cc,rr,e.way,bb,e.k,s,x2,x,rfl,by rw[b1];exact h2.mono cP,cp.mono cP,b3,b4,fun bt Gd s4 q3=>⟨sm rfl,fun lt aP=>?_⟩⟩;have s5:=jj aP (.lst [bt]);have e5:upd Gd lt (.lst [bt]) lt=some (.lst [bt]):=jf;have B3:=q3.mono s5;rw[Qw (by decide),b2 s]at B3;generalize upd Gd lt (.lst [bt])=Ge at *;have nG:=s4.trans s5;have gF:=cP.trans nG;refine⟨aM,lg,lt,N1,L1,[atM e.t s,atM s e.u],[e.tie s],[a1,a2],[bt],rfl,J'.same gF,(by show N1+1<=1000000;omega),nG _ _ e3,jc (GZ.mono nG) (jc (GY.mono nG) jl),e5,jc B3 jl,jdW (kU ge.1 gs (by decide) (by decide)) (kU gs ge.2.1 (by decide) (by decide)),jfU (jiR ge gs),by show 2<=3;decide,by show 1<=4;decide,fun Gf mf Jf=>?_⟩;exact nI _ _ ⟨_,_,_,_,_,_,_,_,_,_,_,_,_,rfl⟩ (m'.trans ((MvD.same gF).trans mf)) Jf
   rintro σ G' ⟨u3,u4,u5,u6,u7,u8,u9,bC,bA,bP,bp,bf,a_,rfl,m',J'⟩;have:bO.length=vN.length:=by rw[<- az (f:=fun e:EaT=>D.tup [p2 e.t,p2 e.u,.tup [e.v,.str e.way,e.fc,.int e.k]]),g0.length]
   rw[<- this,cu]at J';generalize eEA:(bO.flatMap fun e=>eaC e s)=EA at *;have ic:N2+bO.length<=9724 * 68+6 * 68+68:=by omega
   have hN3:N2+bO.length<=N+476:=by omega
   generalize N2+bO.length=N3 at *;clear this Pe;have t':=sj m';have Ed:=t'.heldL gd;have cp:=t'.held hx;refine⟨_,rfl,BX.o,_,rfl,Kr (B1 m'),BX.t 0,kvs,rfl,.inr ⟨ob,m' _ _ i_ f2⟩,fun v2 ml=>?_⟩;have sW:=jj ml (kE v2 (BX.t 0));have m2:=m'.trans (.same sW);have J2:=J'.same sW;have Ec:=(TK.same sW).heldL Ed;have lc:=cp.mono sW;have eW:upd G' v2 (kE v2 (BX.t 0)) v2=some (kE v2 (BX.t 0)):=jf;generalize upd G' v2 (kE v2 (BX.t 0))=G2 at *;refine⟨v2,BX.t 0,ob,kvs,rfl,eW,m2 _ _ i_ f2,fun p hp=>?_⟩;clear m' J' Ed cp t' sW eW;obtain⟨xo,vO,rfl,w1,w2⟩:=jE (show Held G2 (.tup [s.1,.int s.2]) x from lc);have sP:=jj hp (.lst []);refine jdR (fun j σ' cX=>∃u rs,σ'=[u,some (.ref xo)]/\Same G2 cX/\cX p=some (.lst rs)/\HeldL cX (((bW.take j).filter fun z=>decide (z≠s)).map p2) rs) ⟨none,[],rfl,sP,jf,jl⟩ ?_ ?_ ?_
   .rintro j σ' cX _ ⟨u,rs,rfl,sG,_⟩
    exact sG _ _ (m2 _ _ i_ f2)
   .rintro j k' y σ' cX hy ⟨u,rs,rfl,sG,dr,cq⟩
    have hj:j < bW.length:=by rw[<- nk];exact (bL.mp hy).1
    have bZ:Held cX (p2 bW[j]) y:=(j7 Ec (by rw[bz,aK hj];rfl) (by rw[bz,hy];rfl)).mono sG;have gy:=re _ (cT hj);have ej:=KW (p:=fun z=>decide (z≠s)) hj;have fk:rs.length<=1000:=by
     rw[<- cq.length,az];exact aJ (i0 _ _) (by rw[cw];omega)
    generalize bW[j]=sy at *;obtain⟨yo,Gw,rfl,w3,w4⟩:=jE (show Held cX (.tup [sy.1,.int sy.2]) y from bZ);have Ae:D.depthL [sy.1,.int sy.2]<=200:=by
     have:=gy.1.ok.2.1;show max sy.1.depth (max 0 0)<=200;omega
    unfold qq;refine⟨_,rfl,_,rfl,yo,xo,Gw,vO,_,_,rfl,rfl,w3,sG _ _ w1,Ae,w4,w2.mono sG,_,rfl,?_⟩;by_cases z:[sy.1,D.int sy.2]=[s.1,.int s.2]
    .rw[Qu z]
     refine kA ⟨_,rs,rfl,sG,dr,?_⟩;rw[ej,Qw (by rw[yH (Qz D.tup z)];simp),dl];exact cq
    .rw[Qv z]
     refine kR ⟨_,rfl,rs,dr,jJ fk,_,_,rfl,fun b o e=>jk (jp e hp) (sG _ _ e),jf,?_⟩;have kt:TK cX (upd cX p (.lst (rs++[.ref yo]))):=fun b ws eb=>jk (jv eb dr (by intro z;cases z)) eb
     rw[ej,Qx (by rw[decide_eq_true_eq];exact fun y=>z (by rw[y])),aX];exact jT (kt.heldL cq) (jc (kt.held bZ) jl)
   .rintro σ' cX ⟨u,rs,rfl,sG,dr,cq⟩
    rw[nk,cu]at cq;have m3:=m2.trans (.same sG);have J3:=J2.same sG;have HP:=lc.mono sG;clear sP sG m2 J2 lc Ec w1 w2 hp;have He:p≠aM:=by
     obtain⟨_,fi,b1,_⟩:=J3;exact jv dr b1 (by intro z;cases z)
    have npt:p≠BX.t 0:=jv dr (m3 _ _ i_ f2) (by intro z;cases z);have npv:p≠BX.vs:=jv dr (m3 _ _ i9 f3) (by intro z;cases z);obtain⟨zs,rh⟩:∃zs,zs=bW.filter fun z=>decide (z≠s):=⟨_,rfl⟩
    have Mc:∀z∈zs,Gs 40 z:=fun z hz=>re z (lW.mp (by rw[rh]at hz;exact hz)).1
    have nz:zs.length<=n:=by rw[rh];exact aJ (i0 _ _) ns
    have eS:spF bW cn bS bO bJ s=PU++(EA++zs.flatMap (otF cn bJ s)):=by rw[rh,<- ePU,<- eEA];rfl
    rw[<- rh]at cq;clear rh;refine⟨p,rfl,⟨_,SqL.of dr⟩,?_⟩;let Po:Nat->L2.St->Hp->Prop:=fun j σ' G'=>∃u3 u4 u5 u6 u7 u8 u9 bC bA bP bp bf a_,σ'=[some (.ref BX.o),some (.ref aM),some (.ref xo),u3,u4,u5,u6,u7,u8,u9,bC,bA,bP,bp,bf,a_]/\MvD aM cX G'/\DueAt (N3+136 * j) (((L++PU)++EA)++(zs.take j).flatMap (otF cn bJ s)) G' aM
    refine kG (xs:=rs) Po ⟨u3,u4,u5,u6,u7,u8,u9,bC,bA,bP,bp,bf,a_,rfl,fun _ _ _ e=>e,J3.congr (aD _) fun d=>by rw[io,nB,dl]⟩ ?_ ?_ ?_
    .rintro j σ' G' _ ⟨u3,u4,u5,u6,u7,u8,u9,bC,bA,bP,bp,bf,a_,rfl,m',_⟩
     exact SqL.of (m' _ _ He dr)
    .rintro j y σ' G' hy ⟨u3,u4,u5,u6,u7,u8,u9,bC,bA,bP,bp,bf,a_,rfl,m',J'⟩
     have hj:j < zs.length:=by rw[<- az (f:=p2),cq.length];exact (bL.mp hy).1
     have m4:=m3.trans m';have vP:TK cX G':=by
      obtain⟨_,fi,b1,_⟩:=J3;exact m'.tk b1
     have bZ:Held G' (p2 zs[j]) y:=vP.held (j7 cq (by rw[bz,aK hj];rfl) hy);have CI:=vP.held HP;have gz:=Mc _ (cT hj);have ej:(zs.take (j+1)).flatMap (otF cn bJ s)=(zs.take j).flatMap (otF cn bJ s)++otF cn bJ s zs[j]:=kM hj;have nI:∀σ' G1,(∃u3 u4 u5 u6 u7 u8 u9 bC bA bP bp bf a_,σ'=[some (.ref BX.o),some (.ref aM),some (.ref xo),u3,u4,u5,u6,u7,u8,u9,bC,bA,bP,bp,bf,a_])->MvD aM G' G1->DueAt (N3+136 * j+136) ((((L++PU)++EA)++(zs.take j).flatMap (otF cn bJ s))++otF cn bJ s zs[j]) G1 aM->Po (j+1) σ' G1:=fun σ' G1 ⟨u3,u4,u5,u6,u7,u8,u9,bC,bA,bP,bp,bf,a_,e⟩ m2 J2=>⟨u3,u4,u5,u6,u7,u8,u9,bC,bA,bP,bp,bf,a_,e,m'.trans m2,J2.congr (nq (by omega)) fun d=>by rw[ej,bh]⟩
     clear_value Po;generalize (((L++PU)++EA)++(zs.take j).flatMap (otF cn bJ s))=L1 at *;have MN:136 * j<=136 * 68:=Bs _ (by omega);have DM:N3+136 * j<=9724 * 68+476+136 * 68:=by omega
     generalize N3+136 * j=N1 at *;generalize zs[j]=z at *;clear ej vP;refine qN ?_;intro EE3;refine gQ ?_;refine⟨_,rfl,BX.o,_,rfl,jfN (B1 m4),BX.vs,fz,rfl,m4 _ _ i9 f3,fun ov=>?_⟩;have eV:=m4 _ _ i9 f3;have Jf:DueAt N1 L1 (upd G' BX.vs (.frz ov (.dT fz))) aM:=J'.relab eV (fun _ z=>by cases z) i9;have tf:TK G' (upd G' BX.vs (.frz ov (.dT fz))):=fun b ws eb=>jk (jv eb eV (by intro z;cases z)) eb
     have CJ:=tf.held CI;have CB:=tf.held bZ;let Pq:Nat->L2.St->Hp->Prop:=fun i σ' G1=>∃bp bf a_,σ'=[some (.ref BX.o),some (.ref aM),some (.ref xo),u3,u4,u5,u6,u7,u8,u9,bC,bA,some y,bp,bf,a_]/\MvD aM (upd G' BX.vs (.frz ov (.dT fz))) G1/\DueAt (N1+i) (L1++(cn.take i).flatMap (vrC s z)) G1 aM
     refine jdN Pq ⟨bp,bf,a_,rfl,fun _ _ _ e=>e,Jf.congr (aD _) fun d=>by rw[io,nB,dl]⟩ ?_ ?_ ?_
     .rintro i σ' G1 _ ⟨bp,bf,a_,rfl,m5,_⟩
      exact m5 _ _ i9 jf
     .rintro i kk vv b σ' G1 hk hb ⟨bp,bf,a_,rfl,m5,J5⟩
      have ek:cn[i]?=some (kD kk):=by rw[tW,bz,bz,hk];rfl
      have mE:i < cn.length:=(bL.mp ek).1;have Mu:cn[i]=kD kk:=(bL.mp ek).2;have gk:Ver (kD kk):=Md _ (lV ek);have ej:(cn.take (i+1)).flatMap (vrC s z)=(cn.take i).flatMap (vrC s z)++vrC s z (kD kk):=by rw[kM mE,Mu]
      have hv:Held G1 (kD kk) (.ref b):=jK hb (jai kk);have t5:TK (upd G' BX.vs (.frz ov (.dT fz))) G1:=by
       obtain⟨_,fi,b1,_⟩:=Jf;exact m5.tk b1
      have CK:=t5.held CJ;have CF:=t5.held CB;have en:=Gs.ent gk gs (by decide);have eo:=Gs.ent gk gz (by decide);refine gQ ?_;refine⟨_,rfl,_,rfl,.ref b,.ref xo,kD kk,s,rfl,hv,CK,fun a1 Ga s1 q1=>⟨_,rfl,_,rfl,.ref b,y,kD kk,z,rfl,hv.mono s1,CF.mono s1,fun a2 Gb s2 q2=>⟨a1,a2,jW (kD kk) s,jW (kD kk) z,rfl,q1.mono s2,q2,fun ti Gc s3 q3=>?_⟩⟩⟩;refine gQ ?_;have cP:=s1.trans (s2.trans s3);refine⟨_,rfl,_,rfl,_,rfl,.ref xo,y,s,z,rfl,CK.mono cP,CF.mono cP,fun l1 p1 r1 Gd s4 _ e4 q4 q5=>⟨_,rfl,sm rfl,fun lt aP=>?_⟩⟩;have s5:=jj aP (.lst [ti]);have e5:upd Gd lt (.lst [ti]) lt=some (.lst [ti]):=jf;have GX:=(q3.mono s4).mono s5;generalize upd Gd lt (.lst [ti])=Ge at *;have gF:=cP.trans (s4.trans s5);refine⟨aM,l1,lt,N1+i,_,[atM s z,atM z s],[atM (jW (kD kk) s) (jW (kD kk) z)],[p1,r1],[ti],rfl,J5.same gF,(by show N1+i+1<=1000000;omega),s5 _ _ e4,jc (q4.mono s5) (jc (q5.mono s5) jl),e5,jc GX jl,jdW (kU gs gz (by decide) (by decide)) (kU gz gs (by decide) (by decide)),jfU (kU en eo (by decide) (by decide)),by show 2<=3;decide,by show 1<=4;decide,fun Gf mf Jg=>?_⟩;exact⟨_,_,_,rfl,m5.trans ((MvD.same gF).trans mf),Jg.congr (nq rfl) fun d=>by rw[ej,<- bh];exact Iff.rfl⟩
     .rintro σ' G1 ⟨bp,bf,a_,rfl,m5,J5⟩
      have:fz.length=cn.length:=by rw[tW,az,az]
      rw[this,cu]at J5;refine⟨BX.vs,ov,fz,m5 _ _ i9 jf,Hg,?_⟩;have eT:G1 BX.vs=some (.frz ov (.dT fz)):=m5 _ _ i9 jf;have m6:MvD aM G' (upd G1 BX.vs (.dT fz)):=MvD.thaw eV m5;have J6:DueAt _ _ (upd G1 BX.vs (.dT fz)) aM:=J5.relab eT (fun _ z=>by cases z) i9;generalize upd G1 BX.vs (.dT fz)=G6 at *;clear m5 J5 eT CJ CB tf Jf Pq;have m7:=m4.trans m6;have t6:TK G' G6:=by
       obtain⟨_,fi,b1,_⟩:=J';exact m6.tk b1
      have pB:=t6.held CI;have HM:=t6.held bZ;have Cb:N1+cn.length<=9724 * 68+476+136 * 68+68:=by omega
      have Mq:otF cn bJ s z=cn.flatMap (vrC s z)++bJ.flatMap fun e=>riC e (s,z):=rfl
      generalize eVC:cn.flatMap (vrC s z)=VC at *;have tP:N1+cn.length<=N1+68:=by omega
      generalize N1+cn.length=N2' at *;refine⟨_,rfl,BX.o,_,rfl,jhX (B1 m7),BX.l 1,rfl,⟨_,SqL.of (m7 _ _ (fT f5) f5)⟩,?_⟩;let Pr:Nat->L2.St->Hp->Prop:=fun i σ' G1=>∃u3 u4 u5 u6 u7 u8 u9 bC bA bp bf a_,σ'=[some (.ref BX.o),some (.ref aM),some (.ref xo),u3,u4,u5,u6,u7,u8,u9,bC,bA,some y,bp,bf,a_]/\MvD aM G6 G1/\DueAt (N2'+i) ((L1++VC)++(bJ.take i).flatMap fun e=>riC e (s,z)) G1 aM
      refine kG (xs:=vM) Pr ⟨u3,u4,u5,u6,u7,u8,u9,bC,bA,bp,bf,a_,rfl,fun _ _ _ e=>e,J6.congr (aD _) fun d=>by rw[io,nB,dl]⟩ ?_ ?_ ?_
      .rintro i σ' G1 _ ⟨u3,u4,u5,u6,u7,u8,u9,bC,bA,bp,bf,a_,rfl,m8,_⟩
       exact SqL.of (m8 _ _ (fT f5) (m7 _ _ (fT f5) f5))
      .rintro i yr σ' G1 Cz ⟨u3,u4,u5,u6,u7,u8,u9,bC,bA,bp,bf,a_,rfl,m8,J8⟩
       have eQ:i < bJ.length:=by rw[<- az (f:=RiT.toD),g1.length];exact (bL.mp Cz).1
       have HK:Held H1 (D.tup [p2 bJ[i].t,p2 bJ[i].u,bJ[i].v]) yr:=j7 g1 (by rw[bz,aK eQ];rfl) Cz;have ge:=g5 _ (cT eQ);have ej:(bJ.take (i+1)).flatMap (fun e=>riC e (s,z))=(bJ.take i).flatMap (fun e=>riC e (s,z))++riC bJ[i] (s,z):=kM eQ;generalize bJ[i]=e at *;have t8:TK G6 G1:=by
        obtain⟨_,fi,b1,_⟩:=J6;exact m8.tk b1
       have xb:=t8.held pB;have w_:=t8.held HM;obtain⟨tp,x0,x1,x2,rfl,ht,h0,cv,h2⟩:=yD ((sj (m7.trans m8)).held HK);refine⟨tp,_,rfl,SqT.of ht,rfl,_,_,rfl,_,_,rfl,_,_,rfl,rfl,?_⟩;refine jH (σ':=[some (.ref BX.o),some (.ref aM),some (.ref xo),u3,u4,u5,u6,u7,u8,some x0,some x1,bA,some y,some x2,bf,a_]) rfl ?_;have en:=Gs.ent ge.2.2 gs (by decide);have eo:=Gs.ent ge.2.2 gz (by decide);refine⟨_,rfl,_,rfl,x0,.ref xo,e.t,s,rfl,h0,xb,fun a1 Ga s1 q1=>⟨_,rfl,_,rfl,.ref xo,y,s,z,rfl,xb.mono s1,w_.mono s1,fun a2 Gb s2 q2=>⟨_,rfl,_,rfl,y,x1,z,e.u,rfl,(w_.mono s1).mono s2,(cv.mono s1).mono s2,fun a3 Gc s3 q3=>⟨sm rfl,fun lg cQ=>?_⟩⟩⟩⟩;refine gQ ?_;have s4:=jj cQ (.lst [a1,a2,a3]);have e4:upd Gc lg (.lst [a1,a2,a3]) lg=some (.lst [a1,a2,a3]):=jf;have mG:HeldL (upd Gc lg (.lst [a1,a2,a3])) ([atM e.t s,atM s z,atM z e.u].map t3) [a1,a2,a3]:=jc (((q1.mono s2).mono s3).mono s4) (jc ((q2.mono s3).mono s4) (jc (q3.mono s4) jl));generalize upd Gc lg (.lst [a1,a2,a3])=Gd at *;have dI:=s1.trans (s2.trans (s3.trans s4));clear q1 q2 q3 cQ;refine⟨_,rfl,_,rfl,x2,.ref xo,e.v,s,rfl,h2.mono dI,xb.mono dI,fun b1 Ge s5 q1=>⟨_,rfl,_,rfl,x2,y,e.v,z,rfl,(h2.mono dI).mono s5,(w_.mono dI).mono s5,fun b2 Gf s6 q2=>⟨b1,b2,jW e.v s,jW e.v z,rfl,q1.mono s6,q2,fun ti Gg s7 q3=>?_⟩⟩⟩;refine gQ ?_;refine⟨_,rfl,_,rfl,_,rfl,sm rfl,fun lt aP=>?_⟩;have s8:=jj aP (.lst [ti]);have e8:upd Gg lt (.lst [ti]) lt=some (.lst [ti]):=jf;have GW:=q3.mono s8;generalize upd Gg lt (.lst [ti])=Gh at *;have vZ:=s5.trans (s6.trans (s7.trans s8));have i7:=dI.trans vZ;refine⟨aM,lg,lt,N2'+i,_,[atM e.t s,atM s z,atM z e.u],[atM (jW e.v s) (jW e.v z)],[a1,a2,a3],[ti],rfl,J8.same i7,(by show N2'+i+1<=1000000;omega),vZ _ _ e4,(TK.same vZ).heldL mG,e8,jc GW jl,fun q hq=>?_,jfU (kU en eo (by decide) (by decide)),by show 3<=3;decide,by show 1<=4;decide,fun Gi mi Ji=>?_⟩
       .rcases bG.mp hq with rfl | hq
        .exact kU ge.1 gs (by decide) (by decide)
        .exact jdW (kU gs gz (by decide) (by decide)) (kU gz ge.2.1 (by decide) (by decide)) q hq
       .exact⟨_,_,_,_,_,_,_,_,_,_,_,_,rfl,m8.trans ((MvD.same i7).trans mi),Ji.congr (nq rfl) fun d=>by rw[ej,<- bh];exact Iff.rfl⟩
      .rintro σ' G1 ⟨u3,u4,u5,u6,u7,u8,u9,bC,bA,bp,bf,a_,rfl,m8,J8⟩
       have:bJ.length=vM.length:=by rw[<- az (f:=RiT.toD),g1.length]
       rw[<- this,cu]at J8;exact nI _ _ ⟨_,_,_,_,_,_,_,_,_,_,_,_,_,rfl⟩ (m6.trans m8) (J8.congr (by omega) fun d=>by rw[Mq,bh])
    .rintro σ' G' ⟨u3,u4,u5,u6,u7,u8,u9,bC,bA,bP,bp,bf,a_,rfl,m',J'⟩
     have:zs.length=rs.length:=by rw[<- cq.length,az]
     rw[<- this,cu]at J';have MN:136 * zs.length<=136 * 68:=Bs _ (by omega);exact md _ _ ⟨_,_,_,_,_,_,_,_,_,_,_,_,_,_,rfl⟩ (m3.trans m') (J'.congr (by omega) fun d=>by rw[eS,bh,bh])
 .rintro σ G ⟨u2,u3,u4,u5,u6,u7,u8,u9,bC,bA,bP,bp,bf,a_,rfl,m,J⟩
  rw[nk,cu]at J;have eD:=m _ _ i_ f2;refine⟨BX.t 0,ob,kvs,eD,wu,?_⟩;have J':DueAt _ _ (upd G (BX.t 0) (.dK kvs)) aM:=J.relab eD (fun _ z=>by cases z) i_;have sF:Same H (upd G (BX.t 0) (.dK kvs)):=fun b o e=>by
   by_cases z:b=BX.t 0
   .subst z
    rw[GC]at e
    cases e
    exact jf
   .exact jk z (m _ _ (jp e pV) (hS b o z e))
  generalize upd G (BX.t 0) (.dK kvs)=G5 at *;have nN:9724 * bW.length<=9724 * 68:=Bs _ (by omega);clear J m eD Pv;obtain⟨cs,wO,d1,d2,d3,d4,d5,d6,d7⟩:=J';have so:SortT (cs.map cD) 200:=jbm fun d hd=>by
   obtain⟨c,hc,rfl⟩:=bq.mp hd;obtain⟨o1,o2,_⟩:=d6 c hc;exact⟨c.1,c.2,rfl,fun k hk=>⟨(o1 k hk).1,(o1 k hk).2.1⟩,o2.1,o2.2.1⟩
  have Hi:(cs.map cD).Nodup:=List.pairwise_map.mpr (Qe.imp (fun h e=>h (jiW e)) d4);obtain⟨ps,p1,gX,p3⟩:=ze d3 fun d hd=>so.tup d hd
  have pl:ps.length<=11000000:=by
   have h1:(wO.map (·.2)).length=ps.length:=by rw[gX,az,az]
   rw[az]at h1;omega
  refine⟨_,rfl,.inr (.inr (.inl ⟨rfl,.inl ⟨_,d1⟩⟩)),aM,wO,rfl,rfl,d1,fun vw pD=>?_⟩;have s8:=jj pD (kE vw aM);refine⟨vw,aM,wO,ps,rfl,jf,s8 _ _ d1,gX,fun q hq=>(p3 q hq).mono s8,by rw[p1];exact so,pl,fun l9 qs h9 C8 Ix=>?_⟩;have s9:=jj h9 (.lst ((qs.map (·.2)).map V.ref));have MA:upd (upd G5 vw (kE vw aM)) l9 (.lst ((qs.map (·.2)).map V.ref)) l9=some (.lst ((qs.map (·.2)).map V.ref)):=jf;have BW:=s8.trans s9;have IZ:H l9=none:=(sF.trans s8).free h9;generalize upd (upd G5 vw (kE vw aM)) l9 (.lst ((qs.map (·.2)).map V.ref))=G6 at *;have Iv:HeldL G6 (qs.map (·.1)) ((qs.map (·.2)).map V.ref):=zd fun q hq=>(p3 q (C8.mem_iff.mp hq)).mono BW
  have xu:(qs.map (·.1)).Perm (cs.map cD):=by rw[<- p1];exact C8.map _
  have Ip:∀p,p∈bW↔p∈sp:=fun p=>by
   have mp:∀l:List P2,p∈l↔p2 p∈l.map p2:=fun l=>⟨fun h=>bq.mpr ⟨p,h,rfl⟩,fun h=>by
    obtain⟨q,h1,h2⟩:=bq.mp h;rw[<- yH h2];exact h1⟩
   rw[mp bW,mp sp,t5,<- aY];exact Iff.rfl
  exact q l9 _ _ G6 (sF.trans BW) IZ MA Iv Ix (xu.nodup_iff.mpr Hi) (fun d hd=>so.dep d (xu.mem_iff.mp hd)) fun d=>by
   rw[xu.mem_iff,d5];exact jhe Ip (fun v=>(v3 v).trans (sT v)) d
end
end LW
namespace L2
open PySem PySem.Spec PyProof.Rows
def jX(os:List ad)(K:aw):aw:=K.filter fun p=>!os.contains p.1
theorem Km{os:List ad}{b:ad}(h:b∈os):∀K:aw,(jX os K).lookup b=none
 | []=>rfl
 | (c,o) :: K=>by
  unfold jX;rw[Bz];by_cases z:os.contains c=true
  .rw[Qw (by simp only[z];decide)]
   exact Km h K
  .rw[Qx (by simp only[Qm]at z;simp only[z];decide),gP]
   have:(b == c)=false:=by
    rw[Qy];intro e;rw[<- e]at z;exact z (Qa.mpr h)
   rw[this];exact Km h K
theorem yu{os:List ad}{b:ad}(h:b ∉ os):∀K:aw,(jX os K).lookup b=K.lookup b
 | []=>rfl
 | (c,o) :: K=>by
  unfold jX;rw[Bz];by_cases z:os.contains c=true
  .rw[Qw (by simp only[z];decide),gP]
   have:(b == c)=false:=by
    rw[Qy];intro e;rw[<- e]at z;exact h (Qa.mp z)
   rw[this];exact yu h K
  .rw[Qx (by simp only[Qm]at z;simp only[z];decide),gP,gP]
   cases b == c
   .exact yu h K
   .rfl
variable {os:List ad}{K:aw}{b:ad}
theorem jbd{o:Obj}(e:(jX os K).lookup b=some o):b ∉ os/\K.lookup b=some o:=by
 by_cases h:b∈os
 .rw[Km h]at e;cases e
 .exact⟨h,(yu h K).symm.trans e⟩
def jfV:ag->V
 | .int i _=>.int i
 | .str s _=>.str s
 | .ref a=>.ref a
 | .bool b=>.bl b
 | _=>.non
def TupsF(K:aw)(os:List ad):Prop:=∀b∈os,∃od its n sl,K.lookup b=some ⟨.type "tuple",od,.seq its n,sl⟩/\its.size<=1000/\Vals (its.toList.map jfV) its.toList
variable {fd:aL}{x:Str}
section
theorem TupsF.or(hs:TupsF K os)(b:ad):(jX os K).lookup b=K.lookup b\/((jX os K).lookup b=none/\∃od its n sl,K.lookup b=some ⟨.type "tuple",od,.seq its n,sl⟩):=by
 by_cases h:b∈os
 .obtain⟨od,its,n,sl,e,_⟩:=hs b h
  exact .inr ⟨Km h K,od,its,n,sl,e⟩
 .exact .inl (yu h K)
theorem jS(hs:TupsF K os)(b:ad)(x:Str):bx (jX os K) b x=bx K b x:=by
 unfold bx;rcases hs.or b with e | ⟨e,od,its,n,sl,e2⟩
 .rw[e]
 .rw[e,e2]
theorem jbL(hs:TupsF K os)(x:Str)(v:ag):W.ownIn (jX os K) x v=W.ownIn K x v:=by
 cases v with
 | ref a=>
  show (match (jX os K).lookup a with | some ⟨_,_,.cls cd,_⟩=>bx (jX os K) cd.ns x | _=>none)=(match K.lookup a with | some ⟨_,_,.cls cd,_⟩=>bx K cd.ns x | _=>none);rcases hs.or a with e | ⟨e,od,its,n,sl,e2⟩
  .rw[e]
   simp only[jS hs]
  .rw[e,e2]
 | _=>rfl
theorem Ks(hs:TupsF K os)(x:Str):∀l:List ag,vg (jX os K) x l=vg K x l
 | []=>rfl
 | c :: r=>by
  unfold vg;rw[jbL hs,Ks hs x r]
theorem kf(hs:TupsF K os)(t:ag)(x:Str):cr (jX os K) t x=cr K t x:=by
 cases t with
 | ref a=>
  show (match (jX os K).lookup a with | some ⟨_,_,.cls cd,_⟩=>vg (jX os K) x cd.mro | _=>none)=(match K.lookup a with | some ⟨_,_,.cls cd,_⟩=>vg K x cd.mro | _=>none);rcases hs.or a with e | ⟨e,od,its,n,sl,e2⟩
  .rw[e]
   simp only[Ks hs]
  .rw[e,e2]
 | _=>rfl
theorem Je(hs:TupsF K os)(cd:ag)(q:Str):iT (jX os K) cd q=iT K cd q:=by
 cases cd with
 | ref a=>
  show (match (jX os K).lookup a with | some ⟨_,_,.fields vs,_⟩=>(match vs.toList with | _ :: .str n _ :: _=>n == q | _=>false) | _=>false)=(match K.lookup a with | some ⟨_,_,.fields vs,_⟩=>(match vs.toList with | _ :: .str n _ :: _=>n == q | _=>false) | _=>false);rcases hs.or a with e | ⟨e,od,its,n,sl,e2⟩
  .rw[e]
  .rw[e,e2]
 | _=>rfl
theorem JI(hs:TupsF K os)(C:ad):W.clsIn (jX os K) C=W.clsIn K C:=by
 unfold W.clsIn;rcases hs.or C with e | ⟨e,od,its,n,sl,e2⟩
 .rw[e]
 .rw[e,e2]
theorem YR(hs:TupsF K os)(C:ad):m_ (jX os K) C=m_ K C:=by unfold m_;rw[JI hs]
theorem YC(hs:TupsF K os)(C:ad):oJ (jX os K) C=oJ K C:=by unfold oJ;rw[JI hs]
theorem Y2(hs:TupsF K os)(C:ad)(x:Str):mY (jX os K) C x=mY K C x:=by unfold mY;rw[kf hs,kf hs]
theorem yV(e:(jX os K).lookup b=K.lookup b):W.typeIn (jX os K) (.ref b)=W.typeIn K (.ref b):=by
 show ((jX os K).lookup b).map _=(K.lookup b).map _;rw[e]
theorem yX(hs:TupsF K os)(e:(jX os K).lookup b=K.lookup b)(x:Str):u_ (jX os K) (.ref b) x=u_ K (.ref b) x:=by
 unfold u_;rw[yV e];simp only[kf hs]
theorem jdI(hs:TupsF K os)(b:ad):vf (jX os K) (.ref b)=vf K (.ref b):=by
 rcases hs.or b with e | ⟨e,od,its,n,sl,e2⟩
 .unfold vf
  rw[yV e]
 .show (((jX os K).lookup b).map (·.cls) == some (Value.type "function"))=((K.lookup b).map (·.cls) == some (Value.type "function"))
  rw[e,e2];show (none == some (Value.type "function"))=(some (Value.type "tuple") == some (Value.type "function"));decide +kernel
theorem zU(hs:TupsF K os)(b:ad):fJ (jX os K) (.ref b)=fJ K (.ref b):=by
 show (match (jX os K).lookup b with | some ⟨_,_,.func _,_⟩=>true | some ⟨_,_,.cls _,_⟩=>u_ (jX os K) (.ref b) "__call__" == some (some (Value.builtin "type.__call__")) | _=>false)=(match K.lookup b with | some ⟨_,_,.func _,_⟩=>true | some ⟨_,_,.cls _,_⟩=>u_ K (.ref b) "__call__" == some (some (Value.builtin "type.__call__")) | _=>false);rcases hs.or b with e | ⟨e,od,its,n,sl,e2⟩
 .rw[e]
  simp only[yX hs e]
 .rw[e,e2]
theorem jbD(hs:TupsF K os)(t c:ag):W.subIn (jX os K) t c=W.subIn K t c:=by
 cases t with
 | ref a=>
  show W.mroIn (jX os K) a c=W.mroIn K a c;unfold W.mroIn;rw[JI hs]
 | _=>rfl
theorem jac(hs:TupsF K os)(C:ad):oK (jX os K) C=oK K C:=by
 unfold oK;rcases hs.or C with e | ⟨e,od,its,n,sl,e2⟩
 .rw[e]
  simp only[yX hs e];unfold W.instIn;rw[yV e];simp only[jbD hs]
 .rw[e,e2]
theorem KH(hs:TupsF K os){f:ad}{oc:ag}{od:Option ad}{sl:Array (Option ag)}(e:K.lookup f=some ⟨oc,od,.func fd,sl⟩):(jX os K).lookup f=some ⟨oc,od,.func fd,sl⟩:=by
 rcases hs.or f with e1 | ⟨_,Hc,its,n,vV,e2⟩
 .rw[e1,e]
 .rw[e]at e2;cases e2
theorem jdZ{h:ar}(X:K.In h):(jX os K).In h:=fun a o e=>X a o (jbd e).2
theorem Fun.drop(hs:TupsF K os){q:Str}{st:aF}{f:ad}(F:Fun K x q st f fd):Fun (jX os K) x q st f fd:=by
 obtain⟨⟨oc,od,kV,cW,pm,an,ax,ct,gY,e1,e2,e3⟩,e4⟩:=F;exact⟨⟨oc,od,kV,cW,pm,an,ax,ct,gY,e1,KH hs e2,by rw[Je hs];exact e3⟩,by rw[zU hs];exact e4⟩
end
def Kt(K:aw)(os:List ad)(H:Hp):Prop:=∀b∈os,∀od its n sl,K.lookup b=some ⟨.type "tuple",od,.seq its n,sl⟩->H b=some (.tup (its.toList.map jfV))
def zk(K:aw)(os:List ad):Hp:=fun b=>if b∈os then (match K.lookup b with | some ⟨_,_,.seq its _,_⟩=>some (.tup (its.toList.map jfV)) | _=>none) else none
theorem jdC{P:aE}{w:aB}{mg mb:Str->Option ag}{CX:CXT}{k:Nat}{fa a:ad}{sp:Sp}{s₁:ai}{vs:List ag}{ns:List Int}
  (KX:K.In s₁.heap) (hs:TupsF K os) (tF:s₁.heap.Ns aT mg) (hb:s₁.heap.Ns E1 mb) (Lz:∀x:Str,x≠"__name__"->mb x=dE x) (IV:s₁.heap.NoLimit) (hg:s₁.gens=#[])
  (ha:s₁.heap.get? a=some { cls:=.type "list",data:=.seq vs.toArray }) (hi:vo vs ns) (hl:ns.length<=aI) (hr:Room k oH)
  (F:∀base:ar,(jX os K).In base->base.Ns aT mg->FnOk P w (jX os K) mg base CX k fa fd [x] sp) (Lw:∀(s:ai) (u:ag),oO s fd ⟨[u],[]⟩ [(x,u)])
  (aY:∀H:Hp,Kt K os H->SqL (jX os K) H a (ns.map V.int)->sp [.ref a] H (fun v _=>v=.bl true) fun _ _ _=>False)
  (LZ:∀H e s',CX [] H s₁ (fun _ _ _=>False) e s'->False) :
  dP (ao P w) oH (.call (.ref fa) ⟨[.ref a],[]⟩) (fun r s'=>r=.ok (.ret (.bool true))/\OldK s₁.heap s'.heap/\s'.os=s₁.os/\lR s'.gens) s₁:=by
 have rv:=Zc hi
 have Hn:=hi.length
 have trk:∀b,b∈os->∃od its n sl,K.lookup b=some ⟨.type "tuple",od,.seq its n,sl⟩/\zk K os b=some (.tup (its.toList.map jfV))/\its.size<=1000/\Vals (its.toList.map jfV) its.toList:=fun b hb=>by
  obtain⟨od,its,n,sl,e1,e2,e3⟩:=hs b hb;refine⟨od,its,n,sl,e1,?_,e2,e3⟩;unfold zk;rw[Qx hb,e1]
 have wr:a ∉ os:=fun z=>by
  obtain⟨od,its,n,sl,e,_⟩:=hs a z;have:=KX a _ e;rw[ha]at this;injection this with t1;injection t1 with t2;injection t2 with t3;revert t3;decide +kernel
 have Es:∀H:Hp,(∀b,b∈os->H b=zk K os b)->SqL (jX os K) H a (ns.map V.int)->HOk P w H s₁.heap->(∀b,H b≠none->b=a\/b∈os)->(H a≠none->K.lookup a=none/\∃o u,H a=some (.frz o u))->
   dP (ao P w) oH (.call (.ref fa) ⟨[.ref a],[]⟩) (fun r s'=>r=.ok (.ret (.bool true))/\OldK s₁.heap s'.heap/\s'.os=s₁.os/\lR s'.gens) s₁:=by
  intro H hT hS hok hA hK
  have Ex:∀{b:ad} {o:Obj},s₁.heap.get? b=some o->H b=none->(jal s₁.heap H).get? b=some o:=fun e n=>jfC e n
  have ph:∀{b:ad} {o:Obj} {es:Array iW} {ep:Nat},s₁.heap.get? b=some o->o.data=.dict es ep->H b=none:=fun {b o es ep} e d=>by
   cases q:H b with
   | none=>rfl
   | some u=>
    rcases hA b (by rw[q];simp) with e' | e'
    .subst e'
     rw[ha]at e;cases e;have d':Data.seq vs.toArray _=Data.dict es ep:=d
     cases d'
    .obtain⟨od,its,n,sl,e1,_⟩:=trk b e'
     rw[KX b _ e1]at e;cases e;have d':Data.seq its n=Data.dict es ep:=d
     cases d'
  have sw:∀{b:ad} {m:Str->Option ag},s₁.heap.Ns b m->(jal s₁.heap H).Ns b m:=fun {b m} ⟨o,es,ep,e,d,r⟩=>⟨o,es,ep,Ex e (ph e d),d,r⟩
  have D2:(jX os K).In (jal s₁.heap H):=fun b o e=>by
   obtain⟨z1,z2⟩:=jbd e;refine Ex (KX b o z2) ?_
   cases q:H b with
   | none=>rfl
   | some u=>
    rcases hA b (by rw[q];simp) with e' | e'
    .subst e'
     rw[(hK (by rw[q];simp)).1]at z2;cases z2
    .exact absurd e' z1
  have hM:Mod (jX os K) mg (jal s₁.heap H):=⟨D2,sw tF,⟨mb,sw hb,Lz⟩,let ⟨mc,h1,h2⟩:=IV;⟨mc,sw h1,h2⟩⟩
  have e0:Env0 P w (jX os K) mg (jal s₁.heap H) oH [] s₁ H:=⟨rfl,hM,fun b o e=>jg6 e,nq (jdK _ _),trivial,fun b hb=>absurd (show b∈([]:List ad) from hb) (by simp),hok,.of_eq hg⟩
  have LM:Kt K os H:=fun b hb od its n sl e=>by
   obtain⟨Hc,its',n',vV,e1,e2,_⟩:=trk b hb;rw[e1]at e
   cases e
   rw[hT b hb,e2]
  refine u0 ((F _ D2 (sw tF)).run oH [] s₁ H ⟨[.ref a],[]⟩ [.ref a] [.ref a] _ _ hr e0 (Lw s₁ (.ref a)) (.cons rfl .nil) (aY H LM hS)) fun r s' h=>?_
  cases r with
  | error e=>exact (LZ H e s' h).elim
  | ok fl=>
   cases fl with
   | next=>exact gB h
   | brk=>exact gB h
   | cont=>exact gB h
   | ret u=>
    obtain⟨v,H',wl,bare,un,IL,r',q⟩:=h
    have q':v=.bl true:=q
    subst q'
    obtain rfl:u=Value.bool true:=r'
    refine⟨rfl,OldK.of_keep fun b o e=>?_,wl,bare⟩
    cases q:H b with
    | none=>exact un.keep b o e q (by intro z;exact absurd (show b∈([]:List ad) from z) (by simp)) (by simp)
    | some u=>
     rcases hA b (by rw[q];simp) with e' | e'
     .subst e'
      obtain⟨_,ob,xs,z⟩:=hK (by rw[q];simp)
      have z2:=un.frzs b ob _ z
      obtain⟨e1,_⟩:=hok b _ z
      obtain⟨e2,_⟩:=IL b _ z2
      rw[e]at e1;cases e1
      exact e2
     .obtain⟨od,its,n,sl,e1,e2,_⟩:=trk b e'
      exact un.stay b o _ ((hT b e').trans e2) e (by intro z;exact absurd (show b∈([]:List ad) from z) (by simp)) (by simp)
 have B7:∀(H:Hp) b u,b∈os->zk K os b=some u->ObjOk P w H s₁.heap b u:=fun H b u hb z=>by
  obtain⟨od,its,n,sl,e1,e2,e3,e4⟩:=trk b hb;rw[e2]at z
  cases z
  exact⟨by rw[az,dy];exact c6 (jJ e3),its.toList,e4,_,KX b _ e1,rfl,n,rfl⟩
 have pd:∀b,b ∉ os->zk K os b=none:=fun b hb=>by unfold zk;rw[Qw hb]
 cases hk:K.lookup a with
 | some o=>
  have e:=KX a o hk
  rw[ha]at e
  cases e
  refine Es (zk K os) (fun _ _=>rfl) (.inr ⟨_,vs.toArray,_,(yu wr K).trans hk,rfl,rfl,rfl,by rw[c7,Hn];exact hl,by simpa using rv⟩) (fun b u z=>?_) (fun b z=>.inr ?_) fun z=>absurd (pd a wr) z
  .by_cases hb:b∈os
   .exact B7 _ b u hb z
   .rw[pd b hb]at z;cases z
  .by_cases hb:b∈os
   .exact hb
   .exact absurd (pd b hb) z
 | none=>
  refine Es (fun b=>if b=a then some (.frz { cls:=.type "list",data:=.seq vs.toArray } (.lst (ns.map V.int))) else zk K os b) (fun b hb=>Qw fun z=>wr (by rw[<- z];exact hb)) (.inl (.inr ⟨{ cls:=.type "list",data:=.seq vs.toArray },Qx rfl⟩)) (fun b u z=>?_) (fun b z=>?_) fun _=>⟨hk,_,_,Qx rfl⟩
  .by_cases hb:b=a
   .have z':=(Qx hb).symm.trans z
    cases z'
    subst hb
    exact⟨ha,by rw[az];exact hl,vs,_,rv,ha⟩
   .have z':zk K os b=some u:=(Qw hb).symm.trans z
    by_cases hc:b∈os
    .exact B7 _ b u hc z'
    .rw[pd b hc]at z';cases z'
  .by_cases hb:b=a
   .exact .inl hb
   .have z':zk K os b≠none:=by
     have e:(if b=a then some (HO.frz { cls:=.type "list",data:=.seq vs.toArray } (.lst (ns.map V.int))) else zk K os b)=zk K os b:=Qw hb;rw[<- e];exact z
    by_cases hc:b∈os
    .exact .inr hc
    .exact absurd (pd b hc) z'
theorem walk_ofT{l:A2}{n k:Nat}{q:aE}{nK:List Str}{XP:(Str->Option ag)->ar->Prop}{YP:aB->ar->Prop}{d:DefRec}{K:Params->aw}
  (hn:l.most=some n) (hZ:n<=aI) (pW:d.params.defaults=[]) (hr:Room k oH)
  (hY:∀(w:aB) (h:ar),YP w h->(K w.params).In h)
  (F:∀(w:aB) (mg:Str->Option ag) (fa:ad) (h:ar),(K w.params).In h->h.Ns aT mg->mg d.name=some (.ref fa)->
   ∃(os:List ad) (fd:aL) (sp:Sp),TupsF (K w.params) os/\(∀(s:ai) (u:ag),oO s fd ⟨[u],[]⟩ [(x,u)])/\
    (∀(H:Hp) (a:ad) (ns:List Int),ns.length<=n->Kt (K w.params) os H->SqL (jX os (K w.params)) H a (ns.map V.int)->sp [.ref a] H (fun v _=>v=.bl true) fun _ _ _=>False)/\
    ∀base:ar,(jX os (K w.params)).In base->base.Ns aT mg->FnOk l.prog w (jX os (K w.params)) mg base CX0 k fa fd [x] sp) :
  N7 q nK XP YP l.row.toRowW d [] (fun f vs=>EZ f vs):=by
 refine Att.attach_call hn pW fun w s₀ s₁ mg mb fa o pm cd cW a vs ns G Y ho hd fG pP xx xH bu hg=>?_
 have KX:=hY w _ Y
 obtain⟨os,fd,sp,hs,hb,aY,hF⟩:=F w mg fa _ KX G.T.g pP
 exact jdC KX hs G.T.g G.T.b G.T.builtins G.T.nolimit hg xx xH (aJ bu hZ) hr hF hb (fun H hT hS=>aY H a ns bu hT hS) fun _ _ _ z=>z
end L2
namespace LW
open PySem L2
abbrev K1:aF:=top 58
inductive spLaw(K:aw)(o1 o2:ad)(vs:List V)(H:Hp)(Q:VK)(E:XK):Prop
 | mk (a:ad) (ns:List Int) (_:vs=[.ref a]) (_:SqL K H a (ns.map V.int)) (_:ns.length<=63) (_:Own H o1 o2) (_:∀H',Q (.bl true) H')
variable {x:Str}
theorem jh3(h:W10 x):Wd x:=⟨fun c hc=>.inl (h.1 c hc),aJ h.2 (by decide)⟩
theorem jeD(r:Rw):r.toD.depth<=200:=by
 rcases r with⟨x,t,k⟩ | ⟨r,x,d,t,k⟩ | ⟨x⟩ | ⟨r⟩ | ⟨C⟩
 .cases t <;> exact bw rfl
 .cases t <;> exact bw rfl
 .exact bw rfl
 .exact bw rfl
 .rcases C with⟨a,b,k⟩ | ⟨t,td,u,ud,r,way,b,k⟩ | ⟨t,td,u,ud,r⟩
  .cases a <;> cases b <;> exact bw rfl
  .cases b <;> exact bw rfl
  .exact bw rfl
theorem KI{n:Nat}:∀{ds:List D},(∀d∈ds,d.depth<=n)->D.depthL ds<=n
 | [],_=>bT _
 | d :: ds,h=>FS.mpr ⟨h d (bU ..),KI fun e he=>h e (ce _ he)⟩
theorem jiI(x:Int):(x % (2 * 10 ^ fP 17) - 10 ^ fP 17).natAbs<=10 ^ 17:=by
 have:=ql (x:=x) (y:=2 * 10 ^ 17) (by decide);show (x % (2 * 10 ^ 17) - 10 ^ 17).natAbs<=10 ^ 17;omega
theorem jfK(ns:List Int):∃ms:List Int,zZ (ns.map V.int) (some 2) (some 9)=ms.map V.int/\ms.length<=7:=by
 refine⟨(ns.drop (HT.sIx (ns.map V.int).length 0 (some 2))).take (HT.sIx (ns.map V.int).length (ns.map V.int).length (some 9) - HT.sIx (ns.map V.int).length 0 (some 2)),by unfold zZ;rw[List.map_take,List.map_drop],?_⟩;rw[cw];generalize (ns.map V.int).length=n;have h:HT.sIx n n (some 9) - HT.sIx n 0 (some 2)<=7:=by
  unfold HT.sIx;dsimp only;rw[Qw (by decide),Qw (by decide)];have e1:fP 9=9:=rfl;have e2:fP 2=2:=rfl;rw[e1,e2];omega
 omega
theorem jiM(K:aw):W.kitOne K (.type "list") (.type "list")=some true:=rfl
theorem jjC{c A B:Prop}[Decidable c](h:¬c)(b:B):if c then A else B:=by rw[Qw h];exact b
theorem jif{e f:PuT}(h:e.toD=f.toD):e=f:=by
 obtain⟨⟨a,b⟩,c,⟨d,i⟩,j⟩:=e;obtain⟨⟨a',b'⟩,c',⟨d',i'⟩,j'⟩:=f;unfold PuT.toD p2 at h
 cases h
 rfl
theorem jib{e f:RiT}(h:e.toD=f.toD):e=f:=by
 obtain⟨⟨a,b⟩,⟨c,d⟩,i⟩:=e;obtain⟨⟨a',b'⟩,⟨c',d'⟩,i'⟩:=f;unfold RiT.toD p2 at h
 cases h
 rfl
theorem jiY{b c:Sum D P2}(h:bD b=bD c):b=c:=by
 have ne:(bE "row")≠bE "is":=by decide +kernel
 rcases b with v | ⟨x,y⟩ <;> rcases c with w | ⟨z,u⟩
 .injection h with h
  injection h with _ h;injection h with h _;rw[h]
 .injection h with h
  injection h with h _;injection h with h;exact absurd h ne
 .injection h with h
  injection h with h _;injection h with h;exact absurd h.symm ne
 .injection h with h
  injection h with _ h;injection h with h _;exact Qz Sum.inr (yH h)
theorem jiS{e f:EaT}(h:e.toD=f.toD):e=f:=by
 obtain⟨a,c,i,y,b,k⟩:=e;obtain⟨a',c',i',y',b',k'⟩:=f;unfold EaT.toD EaT.body jfR at h;injection h with h;injection h with h1 h;injection h with h2 h;injection h with h _;injection h with h;injection h with h3 h;injection h with h4 h;injection h with h5 h;injection h with h6 _;injection h4 with h4;injection h6 with h6;have h3:i=i':=h3;have h4:y=y':=h4;have h6:k=k':=h6;have h1:a=a':=yH h1;have h2:c=c':=yH h2;have h5:b=b':=jiY h5;rw[h1,h2,h3,h4,h5,h6]
theorem jcc{α:Type}{f:α->D}{p:α->Prop}(inj:∀a b,f a=f b->a=b){L:List D}{xs:List α}(e:L=xs.map f)(h:∀d∈L,∃x,d=f x/\p x):∀x∈xs,p x:=fun x hx=>by
 obtain⟨y,h1,h2⟩:=h (f x) (by rw[e];exact bq.mpr ⟨x,hx,rfl⟩);rw[inj _ _ h1];exact h2
variable {w:aB}{K:aw}{mg:Str->Option ag}{f:ad}
section
variable {P:aE}{base:ar}{C o1 o2:ad}
theorem jiE{fd:aL}(F:Fun K "law" "law" K1 f fd)(B:Free0 mg)(rB:Fn P w K mg base 1 "_law_cell_at" ["_law_script","_law_k"] (spCell K))(Ap:Fn P w K mg base 1 "_law_words" ["_law_cell","_law_many"] spWords)(Aw:Fn P w K mg base 4 "_law_straight" ["_law_cells","_law_w","_law_near"] (spStraight K))(ou:Fn P w K mg base 3 "_law_claim" ["_law_seed","_law_w","_law_near","_law_free"] spClaimL)(AH:Fn P w K mg base 17 "_law_clauses" ["_law_box"] spDue)(Aq:Fn P w K mg base 17 "_law_walk" ["_law_straight_here","_law_goal"] spWalkL)(AI:Fn P w K mg base 16 "booked" ["rows","goal"] (spBook o1 o2)):FnOk P w K mg base CX0 18 f fd ["_law_script"] (spLaw K o1 o2):=by
 have sc:FnScope ["_law_script","_law_w","_law_near","_law_straight_here","_law_goal","_law_kept_here","_law_found"] ["_law_script"] (jm K1):=fQ;refine F.okZ sc (fun ax A outer s H vs Q E hr h=>?_);have hun:(A.deeper (cA "law" (jm K1) s.heap.objs.size f ax)).units+16 * 17+200 < cLine:=hr.un;have hu:(A.deeper (cA "law" (jm K1) s.heap.objs.size f ax)).units+1 < cLine:=by omega
 have CV:(A.deeper (cA "law" (jm K1) s.heap.objs.size f ax)).units+3+200 < cLine:=by omega
 have sX:(A.deeper (cA "law" (jm K1) s.heap.objs.size f ax)).units+1+200 < cLine:=by omega
 obtain⟨a,ns,rfl,hS,hl,hO,q⟩:=h;refine⟨_,(jd (jy (i:=1) sc.nd rfl oQ (jg Ap hr (ja (jg rB hr (ja (zpv 0) (ja je jb))) (ja je jb))))
   (jd (jy (i:=2) sc.nd rfl oQ (js zo (js jZ (js qk (jg rB hr (ja (zpv 0) (ja je jb))) je) (js qk je (js JE je je))) (js JE je je)))
   (jd (jy (i:=3) sc.nd rfl oQ (jg Aw hr (ja (qP ZY (zpv 0) (q0 je) (q0 je)) (ja (zpv 1) (ja (zpv 2) jb)))))
   (jd (jy (i:=4) sc.nd rfl oQ (jg ou hr (ja (js jZ (jg rB hr (ja (zpv 0) (ja je jb))) je) (ja (zpv 1) (ja (zpv 2) (ja (qP ZY (zpv 1) (q0 je) yc) jb))))))
   (jd (jy (i:=5) sc.nd rfl oQ (yA jaw (by rfl) B.list_ jcW (ja (zpv 3) jb)))
   (jd (jy (i:=6) sc.nd rfl oQ (jg AI hr (ja (zpv 3) (ja (zpv 4) jb))))
   (jd (jN (ZK (ZL (jck (zh K0 (by rfl) B.isinstance_ Jz (ja (zpv 6) (ja (jaF (v:=.ty "tuple") (by rfl) B.tuple_ YX (by rfl)) jb))))) (ZK (jD jhM (zh qp (by rfl) B.len_ KM (ja (zpv 6) jb)) je (jI _)) (ZJ (ZL (jck (zh K0 (by rfl) B.isinstance_ Jz (ja (jr jw (zpv 6) je (fun _ _=>rfl)) (ja (jaF (v:=.ty "list") (by rfl) B.list_ jcW (by rfl)) jb)))))))).pt (ji (jC yB)) jL)
   (ji (jC (jf1 (zC (jaa 200 sX) (jr jw (zpv 6) je (fun _ _=>rfl)) (jg AH hr (ja (jg Aq hr (ja (zpv 3) (ja (zpv 4) jb))) jb)) (jI _)) (jfY (zC (jaa 200 sX) (zpv 3) (zpv 5) (jI _))))))))))))),?_⟩
 refine jH (σ':=[some (.ref a),none,none,none,none,none,none]) rfl ?_
 try dsimp only[kx]
 refine⟨_,rfl,a,ns,0,rfl,hS,by decide,by decide,fun c0=>?_⟩;refine⟨_,6,rfl,by decide,fun lw w0 H1 ⟨CN,hW⟩ s1 mC e1=>?_⟩;refine gQ ?_;obtain⟨ws,Ej⟩:∃ws,ws=w0:=⟨_,rfl⟩
 have s2:=s1;have hw:Ws H1 lw ws:=by rw[Ej];exact⟨e1,CN,fun x hx=>jh3 (hW x hx)⟩
 generalize H1=G at *;clear s1 e1 mC CN hW Ej;refine⟨_,rfl,a,ns,0,rfl,yW hS s2,by decide,by decide,fun c2=>?_⟩;refine⟨_,_,rfl,rfl,.inr ⟨by decide,by decide⟩,_,_,rfl,rfl,⟨by decide,by decide,by decide⟩,_,_,rfl,rfl,.inl ⟨by decide,by decide⟩,_,_,rfl,rfl,(by show (0:Int) < _;decide),_,_,rfl,rfl,⟨by decide,by decide,by decide⟩,_,_,rfl,rfl,?_⟩;refine gQ ?_;have hn:=jiI (c2 * 998244353);generalize c2 * 998244353 % (2 * 10 ^ fP 17) - 10 ^ fP 17=bM at *;refine⟨_,rfl,_,rfl,_,rfl,a,_,rfl,yW hS s2,fun pc Da=>⟨_,rfl,_,rfl,?_⟩⟩;obtain⟨ms,Dj,lz⟩:=jfK ns;rw[Dj];have s3:=jj Da (.lst (ms.map V.int));have e3:upd G pc (.lst (ms.map V.int)) pc=some (.lst (ms.map V.int)):=jf;generalize upd G pc (.lst (ms.map V.int))=G1 at *;have fF:=hw.mono s3;refine⟨pc,ms,bM,lw,ws,rfl,SqL.of e3,aJ lz (by decide),fF,hn,fun l R rs G2 s4 Dg oe hR iI iJ=>?_⟩;have iI:R.length<=7:=aJ iI lz;refine gQ ?_;have dI:=s2.trans (s3.trans s4);have dz:=fF.mono s4;clear s2 s3 s4 e3 Da hw fF Dj lz Dg;refine⟨_,rfl,a,ns,1,rfl,yW hS dI,by decide,by decide,fun c3=>?_⟩;refine⟨_,_,rfl,rfl,(by show (0:Int) < _;decide),_,rfl,_,rfl,_,rfl,_,rfl,lw,_,rfl,SqL.of dz.at_,fun pf C_=>?_⟩;rw[jjK dz.len];have s5:=jj C_ (.lst ((ws.drop 3).map V.str));have e5:upd G2 pf (.lst ((ws.drop 3).map V.str)) pf=some (.lst ((ws.drop 3).map V.str)):=jf;generalize upd G2 pf (.lst ((ws.drop 3).map V.str))=G3 at *;refine⟨_,bM,lw,pf,ws,ws.drop 3,rfl,dz.mono s5,hn,⟨e5,by rw[oU,dz.len];decide,fun x hx=>dz.ok x (PX hx)⟩,fun k v G4 s6 gk hv=>?_⟩;refine gQ ?_;have o9:=s5.trans s6;have B2:=dI.trans o9;have mM:=o9 _ _ oe;have DY:=hR.mono o9;have HV:=dz;have ld:=HV.mono o9;clear oe hR s5 s6 o9 dI e5 C_ dz;refine⟨_,rfl,l,rs,rfl,.inl (SqL.of mM),fun l6 h6=>?_⟩;have s7:=jj h6 (.lst rs);have e7:upd G4 l6 (.lst rs) l6=some (.lst rs):=jf;have D3:=s7 _ _ mM;have DW:=DY.mono s7;have CT:=hv.mono s7;have GU:=B2.trans s7;generalize upd G4 l6 (.lst rs)=G7 at *;clear mM DY hv B2 s7 h6 ld;refine gQ ?_;have Lp:D.depthL (R.map Rw.toD)<=200:=KI fun d hd=>by
  obtain⟨r,_,rfl⟩:=bq.mp hd;exact jeD r
 have xR:R.length<=12:=aJ iI (by decide);refine⟨_,rfl,_,rfl,l,R,rs,k,v,rfl,D3,DW,xR,hO.tk (.same GU),CT,jhZ xR iJ gk,fun t la lb es ts dc cs xs ys G1 s1 n1 n2 n12 et sp ot ela fV mI oc Eo fY=>?_⟩;refine gQ ?_;refine⟨_,rfl,_,_,_,_,rfl,TyOf.tup et,jiL K,_,rfl,kA ?_⟩;refine⟨_,rfl,t,_,rfl,.inr (SqT.of et),rfl,_,rfl,jjC (by simp) ?_⟩;refine⟨_,rfl,t,_,_,_,rfl,rfl,SqT.of et,jh (j:=1) rfl,_,_,_,_,rfl,TyOf.lst Eo,jiM K,_,rfl,kA ?_⟩;have mN:=s1 _ _ D3;have q_:=DW.mono s1;obtain⟨BR,vS,_⟩:=jhZ xR iJ gk;have om:TG (0+2 * R.length) (kF R k):=((TG.none.rows (n:=0) (R:=R) (by omega) (by omega) iJ)).deny (by omega) gk;obtain⟨sr,d1,d2,d3,d4,rfl,lB,c1,⟨bS,c2,_,ML⟩,⟨bO,c3,_,MJ⟩,⟨bJ,c4,_,MI⟩,rfl⟩:=mI;have c2:(kF R k).l 3=bS.map PuT.toD:=c2;have c3:(kF R k).l 4=bO.map EaT.toD:=c3;have c4:(kF R k).l 5=bJ.map RiT.toD:=c4;have c1:d1=jbu (yP (kF R k)) (kn sr):=c1;have BQ:∀d,d∈(kF R k).l 2↔d∈sr.map p2:=fun d=>by
  obtain⟨ps,qs,e1,e2,e3,e4⟩:=sp;rw[e4,jaX,<- e1,(e2.map (·.1)).mem_iff]
 refine⟨_,rfl,t,_,_,_,rfl,rfl,SqT.of et,jh (j:=1) rfl,?_⟩;refine⟨_,rfl,_,rfl,l,R,rs,k,v,rfl,mN,q_,aJ iI (by decide),iJ,gk,CT.mono s1,fun BX G2 s2 hN hB hX=>?_⟩;have re:∀p∈sr,Gs 40 p:=fun p hp=>by
  obtain⟨q,h1,h2⟩:=om.l2 (p2 p) ((BQ _).mpr (bq.mpr ⟨p,hp,rfl⟩));rw[yH h1];exact h2
 have y_:∀v∈yP (kF R k),Ver v:=fun v hv=>by
  rcases bK.mp hv with hv | hv
  .obtain⟨r,hr,rfl⟩:=bq.mp hv
   exact .row (om.na r hr)
  .exact om.l0 v hv
 refine⟨8 * R.length+12,BX,kF R k,sr,yP (kF R k),bS,bO,bJ,rfl,hB,hX,by omega,BQ,re,fun _=>Iff.rfl,y_,c2,jcc (fun _ _=>jif) c2 om.l3,c3,jcc (fun _ _=>jiS) c3 om.l4,c4,jcc (fun _ _=>jib) c4 om.l5,trivial,fun l9 Gx oi G3 s3 n9 e9 h9 pw nd dp mem=>?_⟩;have Mx:cs=oi:=by
  obtain⟨p1,q1,e1,e2,e3,rfl⟩:=oc;refine jcz (jdq e3) (jgg pw nd) fun d=>?_
  rw[jaX,(e2.map (·.1)).mem_iff,e1,mem d,c1,ML,MJ,MI]
 have fY:HeldL G1 oi ys:=Mx ▸ fY;have o_:=s2.trans s3;have Mt:=o_ _ _ Eo;have Lr:=fY.mono o_;have xW:=o_ _ _ mN;have DZ:=q_.mono o_;have MB:=o_ _ _ (s1 _ _ e7);refine⟨lb,l9,ys,Gx,oi,oi,rfl,rfl,Mt,e9,KI dp,Lr,h9,?_⟩;refine⟨_,rfl,?_⟩;rw[Qu (rfl:oi=oi)];refine kR ?_;refine⟨_,rfl,_,rfl,l,l6,rs,rs,R.map Rw.toD,R.map Rw.toD,rfl,rfl,xW,MB,Lp,DZ,DZ,?_⟩;rw[Qu rfl];exact q _
end
abbrev jh8(o1 o2:ad)(K:aw):Sp:=spLaw K o1 o2
variable {P:List ag->Prop}
theorem el0(h:P []):∀us:List ag,us.length=0->P us
 | [],_=>h
theorem el1(h:∀a0,P [a0]):∀us:List ag,us.length=1->P us
 | a :: v,e=>el0 (P:=fun v=>P (a :: v)) (h a) v (Br e)
theorem el2(h:∀a0 a1,P [a0,a1]):∀us:List ag,us.length=2->P us
 | a :: v,e=>el1 (P:=fun v=>P (a :: v)) (h a) v (Br e)
theorem el3(h:∀a0 a1 a2,P [a0,a1,a2]):∀us:List ag,us.length=3->P us
 | a :: v,e=>el2 (P:=fun v=>P (a :: v)) (h a) v (Br e)
theorem el4(h:∀a0 a1 a2 a3,P [a0,a1,a2,a3]):∀us:List ag,us.length=4->P us
 | a :: v,e=>el3 (P:=fun v=>P (a :: v)) (h a) v (Br e)
abbrev LkF(K:aw)(f:ad)(x n:Str)(st:aF)(oc:ag)(od:Option ad)(kV dc pm:ag)(an:Option ad)(cd ct:ag)(sl:Array (Option ag)):Prop:=K.lookup f=some ⟨oc,od,.func (iS x n (zW st) (qY st) (jm st) .none kV dc pm an cd ct),sl⟩
structure DefK(K:aw)(f:ad)(fd:aL)(x:Str)(st:aF):Prop where
 a:bx K aT x=some (some (.ref f))
 u:Fun K x x st f fd
theorem DefK.m{st:aF}{oc kV dc pm cd ct:ag}{od an:Option ad}{sl:Array (Option ag)}(a:bx K aT x=some (some (.ref f)))(l:LkF K f x x st oc od kV dc pm an cd ct sl)(c:iT K cd x=true)(k:fJ K (.ref f)=true):DefK K f (iS x x (zW st) (qY st) (jm st) .none kV dc pm an cd ct) x st:=⟨a,jb3 l c k⟩
theorem mk2{P:aE}{w:aB}{K:aw}{mg:Str->Option ag}{base h:ar}(X:K.In h)(G:h.Ns aT mg){k:Nat}{x:Str}{st:aF}{f:ad}{fd:aL}{ps:List Str}{sp:Sp}(a:DefK K f fd x st)(ok:FnOk P w K mg base CX0 k f fd ps sp)(b:∀(kV cW pm:ag) (an:Option ad) (ax ct:ag) (us:List ag),us.length=ps.length->bindArgs (iS x x (zW st) (qY st) (jm st) .none kV cW pm an ax ct) ⟨us,[]⟩=pure (ps.zip us):=by exact fun _ _ _ _ _ _=>by first | exact el0 rfl | exact el1 fun _=>rfl | exact el2 fun _ _=>rfl | exact el3 fun _ _ _=>rfl | exact el4 fun _ _ _ _=>rfl ):Fn P w K mg base k x ps sp:=Fn.mk' a.u (a.u.binds b) (vd X G a.a) ok
set_option autoImplicit true in
theorem jiZ{l:A2}{h:ar}{fa:ad}(X:K.In h)(G:h.Ns aT mg)(xI:mg "law" = some (.ref fa))
  (a0:DefK K f0 d0 "more_than" yE)
  (a1:DefK K f1 d1 "at_most" JZ)
  (a2:DefK K f2 d2 "entry_of" Jo)
  (a3:DefK K f3 d3 "alike" Z6)
  (a4:DefK K f4 d4 "turned_tie" zP)
  (a5:DefK K f5 d5 "number_stands_for" kN)
  (a6:DefK K f6 d6 "spot_of" JS)
  (a7:DefK K f7 d7 "version_of" q8)
  (a8:DefK K f8 d8 "stands_for" zQ)
  (a9:DefK K f9 d9 "turned" K4)
  (uU:DefK K f10 d10 "least_tie" yF)
  (uT:DefK K f11 d11 "body_of" JY)
  (uS:DefK K f12 d12 "body_tie" Jp)
  (uR:DefK K f13 d13 "take_put" yj)
  (uQ:DefK K f14 d14 "know" jcw)
  (uP:DefK K f15 d15 "deny" jcy)
  (uO:DefK K f16 d16 "take_row" yi)
  (uN:DefK K f17 d17 "each_once" qQ)
  (uM:DefK K f18 d18 "gathered" Jn)
  (uL:DefK K f19 d19 "guarded" yk)
  (uK:DefK K f20 d20 "spot_pairs" qC)
  (uJ:DefK K f21 d21 "version_clauses" kL)
  (uI:DefK K f22 d22 "put_clauses" qJ)
  (uH:DefK K f23 d23 "each_clauses" qV)
  (uG:DefK K f24 d24 "rise_clauses" qU)
  (uF:DefK K f25 d25 "booked" Ya)
  (uE:DefK K f26 d26 "_law_tie" jge)
  (uD:DefK K f27 d27 "_law_more" jcv)
  (uC:DefK K f28 d28 "_law_entry" Z4)
  (uB:DefK K f29 d29 "_law_kept" Zl)
  (uA:DefK K f30 d30 "_law_stand" Yy)
  (uz:DefK K f31 d31 "_law_spot" Z2)
  (uy:DefK K f32 d32 "_law_version" y7)
  (uw:DefK K f33 d33 "_law_source" JT)
  (uv:DefK K f34 d34 "_law_against" J0)
  (uu:DefK K f35 d35 "_law_body" YA)
  (ut:DefK K f36 d36 "_law_known" Yz)
  (uq:DefK K f37 d37 "_law_denied" JU)
  (uo:DefK K f38 d38 "_law_walk" Yx)
  (um:DefK K f39 d39 "_law_cell_at" JW)
  (ul:DefK K f40 d40 "_law_words" yZ)
  (uk:DefK K f41 d41 "_law_mix" jgf)
  (uj:DefK K f42 d42 "_law_place" K5)
  (ui:DefK K f43 d43 "_law_end" jcx)
  (uh:DefK K f44 d44 "_law_term" Z1)
  (ug:DefK K f45 d45 "_law_drawn" Z5)
  (uf:DefK K f46 d46 "_law_claim" JV)
  (ue:DefK K f47 d47 "_law_straight" zu)
  (uc:DefK K f48 d48 "_law_noted" JB)
  (ub:DefK K f49 d49 "_law_like" Z3)
  (t_:DefK K f50 d50 "_law_clauses" zc)
  (Am:bx K aT "law" = some (some (.ref f51)))
  (wN:LkF K f51 "law" "law" K1 oc51 od51 kV51 dc51 pm51 an51 cd51 ct51 sl51) (Ah:iT K cd51 "law" = true) (wS:fJ K (.ref f51)=true)
  (Ak:bx K aT "Case" = some (some (.ref C0))) (Al:cr K (.ref C0) "__init__" = some (some (.ref f52))) (wW:vf K (.ref f52)=true)
  (wM:LkF K f52 "__init__" "Case.__init__" qv oc52 od52 kV52 dc52 pm52 an52 cd52 ct52 sl52) (Ag:iT K cd52 "Case.__init__" = true) (wR:fJ K (.ref f52)=true)
  (wg:mY K C0 Fa=true) (xL:m_ K C0=true) (wf:oJ K C0=true) (vW:cr K (.ref C0) "__setattr__" = some (some (.builtin "object.__setattr__"))) (wI:oK K C0=true) (wQ:fJ K (.ref C0)=true)
  (wH:cr K (.ref C0) "numbers" = some none)
  (wG:cr K (.ref C0) "versions" = some none)
  (wF:cr K (.ref C0) "named" = some none)
  (wE:cr K (.ref C0) "lost" = some none)
  (wD:cr K (.ref C0) "ties" = some none)
  (wC:cr K (.ref C0) "spots" = some none)
  (wz:cr K (.ref C0) "puts" = some none)
  (wy:cr K (.ref C0) "eaches" = some none)
  (wx:cr K (.ref C0) "rises" = some none)
  (z_:bx K aT "OWN_PLACE" = some (some (.ref o1))) (rf:bx K aT "OTHER_OWN_PLACE" = some (some (.ref o2)))
  (z0:bx K aT "len" = some none) (z1:bx K aT "max" = some none) (z2:bx K aT "min" = some none) (z3:bx K aT "all" = some none) (z4:bx K aT "isinstance" = some none) (z5:bx K aT "abs" = some none) (z6:bx K aT "sorted" = some none) (z7:bx K aT "int" = some none) (z8:bx K aT "str" = some none) (z9:bx K aT "bool" = some none) (vK:bx K aT "tuple" = some none) (vJ:bx K aT "list" = some none) (vI:bx K aT "dict" = some none) (vH:bx K aT "range" = some none) (vG:bx K aT "set" = some none) (vF:bx K aT "enumerate" = some none) (vE:bx K aT "repr" = some none) (vD:bx K aT "sorted" = some none) :
  ∃fd:aL,(∀(s:ai) (v:ag),oO s fd ⟨[v],[]⟩ [("_law_script",v)])/\∀base:ar,K.In base->base.Ns aT mg->FnOk l.prog w K mg base CX0 18 fa fd ["_law_script"] (jh8 o1 o2 K):=by
 have e:=xI.symm.trans (vd X G Am)
 cases e
 have B:Free0 mg:=⟨dQ X G z0,dQ X G z1,dQ X G z2,dQ X G z3,dQ X G z4,dQ X G z5,dQ X G z6,dQ X G z7,dQ X G z8,dQ X G z9,dQ X G vK,dQ X G vJ,dQ X G vI,dQ X G vH,dQ X G vG⟩
 have iL:mg "enumerate" = none:=dQ X G vF
 have oj:mg "repr" = none:=dQ X G vE
 have Ez:mg "sorted" = none:=dQ X G vD
 have G1:=vd X G z_
 have G2:=vd X G rf
 have MS:=jb3 (st:=K1) wN Ah wS
 have EB:=jb3 (st:=qv) wM Ag wR
 have MM:=EB.binds (ps:=["self"]) fun _ _ _ _ _ _=>el1 (fun _=>rfl)
 have eZ:ClsC K C0:=⟨⟨wg,xL,wf,vW⟩,wH,wG,wF,wE,wD,wC,wz,wy,wx⟩
 refine⟨iS "law" "law" (zW K1) (qY K1) (jm K1) .none kV51 dc51 pm51 an51 cd51 ct51,fun s v=>.of_eq rfl,fun base _ _=>?_⟩
 have MK:=@mk2 l.prog w K mg base h X G
 have cR:=MK a0 (jgV a0.u)
 have bQ:=MK a1 (jiG a1.u)
 have cJ:=MK a2 (jiF a2.u)
 have mT:=MK a3 (jgW a3.u bQ)
 have As:=MK a4 (jfa a4.u)
 have iO:=MK a5 (jiC eZ a5.u)
 have fx:=MK a6 (jgR a6.u iO cR)
 have eC:=MK a7 (jiA eZ a7.u)
 have ij:=MK a8 (jfc eZ a8.u iO fx eC cJ)
 have At:=MK a9 (jdr a9.u)
 have oq:=MK uU (jdu uU.u ij cR bQ)
 have oy:=MK uT (jfl uT.u eC iO)
 have ow:=MK uS (jfk uS.u cJ cR bQ)
 have Av:=MK uR (jgP eZ uR.u fx ij cR eC cJ mT)
 have AA:=MK uQ (jgX eZ uQ.u oq fx oy eC)
 have AF:=MK uP (jg3 eZ G1 G2 uP.u At oq fx oy ow bQ As eC cR cJ)
 have Au:=MK uO (jgO eZ uO.u cR ij Av AA)
 have mS:=MK uN (jgU uN.u B)
 have An:MkFn l.prog w K mg base _ "Case" C0 _ _:=⟨f52,_,⟨wI,Al,wW,wQ⟩,jg5 (P:=l.prog) (w:=w) (base:=base) eZ EB,MM,vd X G Ak⟩
 have AB:=MK uM (jgZ eZ uM.u B iL An Au AF mS)
 have fy:=MK uL (jbN uL.u B)
 have on:=MK uK (jfe eZ uK.u)
 have Ar:=MK uJ (je9 eZ uJ.u on bQ cJ fy)
 have Ay:=MK uI (jgT eZ uI.u bQ cR cJ mT fy)
 have AD:=MK uH (jg2 eZ uH.u bQ ow fy)
 have Ax:=MK uG (jgS eZ uG.u on bQ cJ fy)
 have AI:=MK uF (jdx eZ uF.u AB Ar Ay AD Ax mS)
 have cg:=MK uE (jgQ uE.u)
 have cY:=MK uD (jfg uD.u)
 have cZ:=MK uC (jg0 uC.u)
 have cS:=MK uB (jgY uB.u oj)
 have iN:=MK uA (jds uA.u)
 have e_:=MK uz (jfd uz.u iN cY)
 have dO:=MK uy (jgN uy.u)
 have f_:=MK uw (jiB uw.u iN e_ cS dO cZ)
 have oB:=MK uv (jbP uv.u dO iN)
 have oA:=MK uu (jfm uu.u B cZ cY cg)
 have Az:=MK ut (jfi ut.u f_ cS cg cY e_ oB dO)
 have AG:=MK uq (jdv uq.u f_ cS cg cY e_ oB oA dO cZ)
 have Aq:=MK uo (je8 uo.u B iL Az AG f_ cS cg cY e_ dO cZ)
 have rB:=MK um (jg4 um.u B)
 have Ap:=MK ul (je7 ul.u B)
 have fb:=MK uk (jiD uk.u)
 have gg:=MK uj (jdt uj.u B)
 have AC:=MK ui (jg1 ui.u gg)
 have mR:=MK uh (jfb uh.u gg)
 have AE:=MK ug (jfj ug.u B mR fb gg)
 have ou:=MK uf (jdw uf.u B fb gg mR AC)
 have Aw:=MK ue (jaZ ue.u B iL fb ou AE)
 have lH:=MK uc (jff uc.u B oj)
 have oo:=MK ub (jfh ub.u cg)
 have AH:=MK t_ (jbO t_.u B Ez cZ cY cg oo oA lH)
 exact jiE MS B rB Ap Aw ou AH Aq AI
theorem DefK.drop{os:List ad}(hs:TupsF K os){fd:aL}{st:aF}(a:DefK K f fd x st):DefK (jX os K) f fd x st:=⟨(jS hs _ _).trans a.a,a.u.drop hs⟩
set_option autoImplicit true in
theorem all_mk2{l:A2}{h:ar}{fa:ad}(X:K.In h)(G:h.Ns aT mg)(xI:mg "law" = some (.ref fa))
  (a0:DefK K f0 d0 "more_than" yE)
  (a1:DefK K f1 d1 "at_most" JZ)
  (a2:DefK K f2 d2 "entry_of" Jo)
  (a3:DefK K f3 d3 "alike" Z6)
  (a4:DefK K f4 d4 "turned_tie" zP)
  (a5:DefK K f5 d5 "number_stands_for" kN)
  (a6:DefK K f6 d6 "spot_of" JS)
  (a7:DefK K f7 d7 "version_of" q8)
  (a8:DefK K f8 d8 "stands_for" zQ)
  (a9:DefK K f9 d9 "turned" K4)
  (uU:DefK K f10 d10 "least_tie" yF)
  (uT:DefK K f11 d11 "body_of" JY)
  (uS:DefK K f12 d12 "body_tie" Jp)
  (uR:DefK K f13 d13 "take_put" yj)
  (uQ:DefK K f14 d14 "know" jcw)
  (uP:DefK K f15 d15 "deny" jcy)
  (uO:DefK K f16 d16 "take_row" yi)
  (uN:DefK K f17 d17 "each_once" qQ)
  (uM:DefK K f18 d18 "gathered" Jn)
  (uL:DefK K f19 d19 "guarded" yk)
  (uK:DefK K f20 d20 "spot_pairs" qC)
  (uJ:DefK K f21 d21 "version_clauses" kL)
  (uI:DefK K f22 d22 "put_clauses" qJ)
  (uH:DefK K f23 d23 "each_clauses" qV)
  (uG:DefK K f24 d24 "rise_clauses" qU)
  (uF:DefK K f25 d25 "booked" Ya)
  (uE:DefK K f26 d26 "_law_tie" jge)
  (uD:DefK K f27 d27 "_law_more" jcv)
  (uC:DefK K f28 d28 "_law_entry" Z4)
  (uB:DefK K f29 d29 "_law_kept" Zl)
  (uA:DefK K f30 d30 "_law_stand" Yy)
  (uz:DefK K f31 d31 "_law_spot" Z2)
  (uy:DefK K f32 d32 "_law_version" y7)
  (uw:DefK K f33 d33 "_law_source" JT)
  (uv:DefK K f34 d34 "_law_against" J0)
  (uu:DefK K f35 d35 "_law_body" YA)
  (ut:DefK K f36 d36 "_law_known" Yz)
  (uq:DefK K f37 d37 "_law_denied" JU)
  (uo:DefK K f38 d38 "_law_walk" Yx)
  (um:DefK K f39 d39 "_law_cell_at" JW)
  (ul:DefK K f40 d40 "_law_words" yZ)
  (uk:DefK K f41 d41 "_law_mix" jgf)
  (uj:DefK K f42 d42 "_law_place" K5)
  (ui:DefK K f43 d43 "_law_end" jcx)
  (uh:DefK K f44 d44 "_law_term" Z1)
  (ug:DefK K f45 d45 "_law_drawn" Z5)
  (uf:DefK K f46 d46 "_law_claim" JV)
  (ue:DefK K f47 d47 "_law_straight" zu)
  (uc:DefK K f48 d48 "_law_noted" JB)
  (ub:DefK K f49 d49 "_law_like" Z3)
  (t_:DefK K f50 d50 "_law_clauses" zc)
  (Am:bx K aT "law" = some (some (.ref f51)))
  (wN:LkF K f51 "law" "law" K1 oc51 od51 kV51 dc51 pm51 an51 cd51 ct51 sl51) (Ah:iT K cd51 "law" = true) (wS:fJ K (.ref f51)=true)
  (Ak:bx K aT "Case" = some (some (.ref C0))) (Al:cr K (.ref C0) "__init__" = some (some (.ref f52))) (wW:vf K (.ref f52)=true)
  (wM:LkF K f52 "__init__" "Case.__init__" qv oc52 od52 kV52 dc52 pm52 an52 cd52 ct52 sl52) (Ag:iT K cd52 "Case.__init__" = true) (wR:fJ K (.ref f52)=true)
  (wg:mY K C0 Fa=true) (xL:m_ K C0=true) (wf:oJ K C0=true) (vW:cr K (.ref C0) "__setattr__" = some (some (.builtin "object.__setattr__"))) (wI:oK K C0=true) (wQ:fJ K (.ref C0)=true)
  (wH:cr K (.ref C0) "numbers" = some none)
  (wG:cr K (.ref C0) "versions" = some none)
  (wF:cr K (.ref C0) "named" = some none)
  (wE:cr K (.ref C0) "lost" = some none)
  (wD:cr K (.ref C0) "ties" = some none)
  (wC:cr K (.ref C0) "spots" = some none)
  (wz:cr K (.ref C0) "puts" = some none)
  (wy:cr K (.ref C0) "eaches" = some none)
  (wx:cr K (.ref C0) "rises" = some none)
  (z_:bx K aT "OWN_PLACE" = some (some (.ref o1))) (rf:bx K aT "OTHER_OWN_PLACE" = some (some (.ref o2)))
  (z0:bx K aT "len" = some none) (z1:bx K aT "max" = some none) (z2:bx K aT "min" = some none) (z3:bx K aT "all" = some none) (z4:bx K aT "isinstance" = some none) (z5:bx K aT "abs" = some none) (z6:bx K aT "sorted" = some none) (z7:bx K aT "int" = some none) (z8:bx K aT "str" = some none) (z9:bx K aT "bool" = some none) (vK:bx K aT "tuple" = some none) (vJ:bx K aT "list" = some none) (vI:bx K aT "dict" = some none) (vH:bx K aT "range" = some none) (vG:bx K aT "set" = some none) (vF:bx K aT "enumerate" = some none) (vE:bx K aT "repr" = some none) (vD:bx K aT "sorted" = some none)
  (ED:K.lookup o1=some ⟨.type "tuple",odo1,.seq #[.ref i1,.int 0 to11] no1,slo1⟩) (EF:K.lookup i1=some ⟨.type "tuple",odi1,.seq #[.str "own" ti10,.int 0 ti11] ni1,sli1⟩) (EC:K.lookup o2=some ⟨.type "tuple",odo2,.seq #[.ref i2,.int 0 to21] no2,slo2⟩) (EE:K.lookup i2=some ⟨.type "tuple",odi2,.seq #[.str "own" ti20,.int 1 ti21] ni2,sli2⟩) :
  ∃(os:List ad) (fd:aL) (sp:Sp),TupsF K os/\(∀(s:ai) (u:ag),oO s fd ⟨[u],[]⟩ [("_law_script",u)])/\(∀(H:Hp) (a:ad) (ns:List Int),ns.length<=63->Kt K os H->SqL (jX os K) H a (ns.map V.int)->sp [.ref a] H (fun v _=>v=.bl true) fun _ _ _=>False)/\∀base:ar,(jX os K).In base->base.Ns aT mg->FnOk l.prog w (jX os K) mg base CX0 18 fa fd ["_law_script"] sp:=by
 have hs:TupsF K [o1,i1,o2,i2]:=fun b hb=>by
  simp only[bG,FX,or_false]at hb;rcases hb with rfl | rfl | rfl | rfl
  .exact⟨_,_,_,_,ED,bw rfl,(.cons rfl (.cons ⟨_,rfl⟩ .nil))⟩
  .exact⟨_,_,_,_,EF,bw rfl,(.cons ⟨_,rfl⟩ (.cons ⟨_,rfl⟩ .nil))⟩
  .exact⟨_,_,_,_,EC,bw rfl,(.cons rfl (.cons ⟨_,rfl⟩ .nil))⟩
  .exact⟨_,_,_,_,EE,bw rfl,(.cons ⟨_,rfl⟩ (.cons ⟨_,rfl⟩ .nil))⟩
 obtain⟨fd,h1,h2⟩:=jiZ (K:=jX [o1,i1,o2,i2] K) (jdZ X) G xI (DefK.drop hs a0) (DefK.drop hs a1) (DefK.drop hs a2) (DefK.drop hs a3) (DefK.drop hs a4) (DefK.drop hs a5) (DefK.drop hs a6) (DefK.drop hs a7) (DefK.drop hs a8) (DefK.drop hs a9) (DefK.drop hs uU) (DefK.drop hs uT) (DefK.drop hs uS) (DefK.drop hs uR) (DefK.drop hs uQ) (DefK.drop hs uP) (DefK.drop hs uO) (DefK.drop hs uN) (DefK.drop hs uM) (DefK.drop hs uL) (DefK.drop hs uK) (DefK.drop hs uJ) (DefK.drop hs uI) (DefK.drop hs uH) (DefK.drop hs uG) (DefK.drop hs uF) (DefK.drop hs uE) (DefK.drop hs uD) (DefK.drop hs uC) (DefK.drop hs uB) (DefK.drop hs uA) (DefK.drop hs uz) (DefK.drop hs uy) (DefK.drop hs uw) (DefK.drop hs uv) (DefK.drop hs uu) (DefK.drop hs ut) (DefK.drop hs uq) (DefK.drop hs uo) (DefK.drop hs um) (DefK.drop hs ul) (DefK.drop hs uk) (DefK.drop hs uj) (DefK.drop hs ui) (DefK.drop hs uh) (DefK.drop hs ug) (DefK.drop hs uf) (DefK.drop hs ue) (DefK.drop hs uc) (DefK.drop hs ub) (DefK.drop hs t_) ((jS hs _ _).trans Am) (KH hs wN) ((Je hs _ _).trans Ah) ((zU hs _).trans wS) ((jS hs _ _).trans Ak) ((kf hs _ _).trans Al) ((jdI hs _).trans wW) (KH hs wM) ((Je hs _ _).trans Ag) ((zU hs _).trans wR) ((Y2 hs _ _).trans wg) ((YR hs _).trans xL) ((YC hs _).trans wf) ((kf hs _ _).trans vW) ((jac hs _).trans wI) ((zU hs _).trans wQ) ((kf hs _ _).trans wH) ((kf hs _ _).trans wG) ((kf hs _ _).trans wF) ((kf hs _ _).trans wE) ((kf hs _ _).trans wD) ((kf hs _ _).trans wC) ((kf hs _ _).trans wz) ((kf hs _ _).trans wy) ((kf hs _ _).trans wx) ((jS hs _ _).trans z_) ((jS hs _ _).trans rf) ((jS hs _ _).trans z0) ((jS hs _ _).trans z1) ((jS hs _ _).trans z2) ((jS hs _ _).trans z3) ((jS hs _ _).trans z4) ((jS hs _ _).trans z5) ((jS hs _ _).trans z6) ((jS hs _ _).trans z7) ((jS hs _ _).trans z8) ((jS hs _ _).trans z9) ((jS hs _ _).trans vK) ((jS hs _ _).trans vJ) ((jS hs _ _).trans vI) ((jS hs _ _).trans vH) ((jS hs _ _).trans vG) ((jS hs _ _).trans vF) ((jS hs _ _).trans vE) ((jS hs _ _).trans vD)
 exact⟨_,fd,_,hs,h1,fun H a ns hl hT hS=>⟨a,ns,rfl,hS,hl,⟨(jK (hT o1 (by simp) _ _ _ _ ED) (jc (jK (hT i1 (by simp) _ _ _ _ EF) (jc jF (jc jP jl))) (jc jP jl))),(jK (hT o2 (by simp) _ _ _ _ EC) (jc (jK (hT i2 (by simp) _ _ _ _ EE) (jc jF (jc jP jl))) (jc jP jl)))⟩,fun _=>rfl⟩,h2⟩
theorem walk{l:A2}{q:aE}{nK:List Str}{XP:(Str->Option ag)->ar->Prop}{YP:aB->ar->Prop}{d:DefRec}{K:Params->aw}(hn:l.most=some 63)(pW:d.params.defaults=[])
  (hY:∀(w:aB) (h:ar),YP w h->(K w.params).In h)
  (F:∀(w:aB) (mg:Str->Option ag) (fa:ad) (h:ar),(K w.params).In h->h.Ns aT mg->mg d.name=some (.ref fa)->
   ∃(os:List ad) (fd:aL) (sp:Sp),TupsF (K w.params) os/\(∀(s:ai) (u:ag),oO s fd ⟨[u],[]⟩ [("_law_script",u)])/\(∀(H:Hp) (a:ad) (ns:List Int),ns.length<=63->Kt (K w.params) os H->SqL (jX os (K w.params)) H a (ns.map V.int)->sp [.ref a] H (fun v _=>v=.bl true) fun _ _ _=>False)/\∀base:ar,(jX os (K w.params)).In base->base.Ns aT mg->FnOk l.prog w (jX os (K w.params)) mg base CX0 18 fa fd ["_law_script"] sp) :
  N7 q nK XP YP l.row.toRowW d [] (fun f vs=>EZ f vs):=
 L2.walk_ofT (n:=63) (k:=18) (x:="_law_script") hn (by decide) pW ⟨rfl,by decide,by decide,rfl⟩ hY F
end LW
namespace PySem.W.Fast
def tw10171027487490934583:=()
def tw10289069008268922367:=()
def tw10725567762363438765:=()
def tw10815890794907902527:=()
def tw10854057209950289628:=()
def tw10951289272883597410:=()
def tw11068846320882281318:=()
def tw11138817194468206567:=()
def tw11546226677983176349:=()
def tw12350614368848925847:=()
def tw12408825165421936139:=()
def tw12492125831728757299:=()
def tw13250207884124281924:=()
def tw13367879077087778847:=()
def tw13539253029098326545:=()
def tw13758209825552983879:=()
def tw14248264154024978080:=()
def tw14368200607694198572:=()
def tw1469878457968586002:=()
def tw14761878645262315213:=()
def tw14841932541867904518:=()
def tw15086040505212995207:=()
def tw15425488205283008161:=()
def tw15469626949955296058:=()
def tw15469890553393850746:=()
def tw15576530670365985431:=()
def tw15769924061517445251:=()
def tw15773345856272904377:=()
def tw15809299009896936997:=()
def tw15855038927230270453:=()
def tw15920243098797689004:=()
def tw16040544030640338568:=()
def tw16053764443439820490:=()
def tw16072827842044267385:=()
def tw16363124455072483299:=()
def tw1641685136762929812:=()
def tw16454672670936250507:=()
def tw16714258218120462535:=()
def tw16747188440528757386:=()
def tw16747318822193059647:=()
def tw16780506085494536511:=()
def tw16876123384071203681:=()
def tw16962477174778191464:=()
def tw16998121014555214775:=()
def tw17058550739712776564:=()
def tw17173470869077796143:=()
def tw17265245219958105839:=()
def tw17287170234957738342:=()
def tw17409149403834338469:=()
def tw17489568770055425513:=()
def tw17501492807750472775:=()
def tw17558870926282574523:=()
def tw17575006686981502141:=()
def tw17791142465063080152:=()
def tw1802802226902145801:=()
def tw18294176435057747608:=()
def tw225236830768820266:=()
def tw2290851430517716552:=()
def tw2391449890219629943:=()
def tw2402761649154104937:=()
def tw2893446059236003219:=()
def tw2924608490544046237:=()
def tw3342999367726749754:=()
def tw3644859085701163091:=()
def tw3688734787671917755:=()
def tw3709720300697264375:=()
def tw3780993280668876753:=()
def tw3939773594031681846:=()
def tw3986388517383126130:=()
def tw4106704353292750189:=()
def tw4350758571114846719:=()
def tw4360661366341536647:=()
def tw4510049669873127082:=()
def tw490838614341731966:=()
def tw5190761649888059668:=()
def tw530307911328819526:=()
def tw5586297573662714906:=()
def tw5848355304156013921:=()
def tw6022855543788342521:=()
def tw6056824611478245175:=()
def tw6188680166229963705:=()
def tw6281157960126196430:=()
def tw6438364978751144761:=()
def tw648833583237291098:=()
def tw6514853743625337702:=()
def tw6636001838906072248:=()
def tw6672448208755531257:=()
def tw676819795279248979:=()
def tw6838503765209786809:=()
def tw69982104643395205:=()
def tw7055673620306072672:=()
def tw7411207014344036558:=()
def tw741178292033582303:=()
def tw7854421310724623955:=()
def tw8074755967682792212:=()
def tw8241073875025525526:=()
def tw8349946470623062375:=()
def tw8460138792209819484:=()
def tw8509215680712323627:=()
def tw8532260373710051196:=()
def tw8577013960363032844:=()
def tw8705322470600828495:=()
def tw871645291915785922:=()
def tw9358812402602626453:=()
def tw944096856393650809:=()
def tw966919746233610494:=()
def tw9753203409323686141:=()
def tw9791830722961378901:=()
def tw9838260649732668060:=()
def tw9879440268819724907:=()
def tw9886511683170118324:=()
def tw9955784339012342878:=()
end PySem.W.Fast
open PySem PySem.W PyProof.Rows
set_option maxRecDepth 100000 in
set_option maxHeartbeats 0 in
theorem PySem.Challenge.cw_outlineward_k45_clauses_of_a_book_holds : PySem.Challenge.rw_outlineward_k45_clauses_of_a_book.Holds := by
 w_on;o_law;k_head;(case hw=>w_witness2);k_fill;refine LW.walk (l:=OP) rfl rfl (fun w h Y=>W.kIn_of Y) ?F
 case F=>
  intro w mg fa h KX G pP
  refine' LW.all_mk2 KX G pP ..
  all_goals try apply LW.DefK.m
  all_goals try ((try unfold LW.LkF);first | k_is | kit_is | rfl | kernel_rfl)
