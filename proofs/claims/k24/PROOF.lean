import PyProof.Rows.All
import Wide.All
import OpenK.AllK
import Wide.FinOn
import Lean
import PyProof.EqAt
import PyProof.EqKinds
import PyProof.TupleCall
import PyProof.NeKinds
import KE.KEqDict
import KE.KDictSum
import PyProof.Rows.StrMul
import PyProof.Rows.SortStr
import PyProof.Rows.SortWalk
import KE.KSortTup
import PyProof.IsiH_list
import KE.KDictOf
import KE.KItemsList
import PyProof.SetKind
import PyProof.Rows.SetFrom
import PyProof.IsRules
import PyProof.EnumStmt
import PyProof.EnumFor
import PyProof.EnumMake
import PyProof.Rows.StrJoin2
import KE.KDictList
import PyProof.ZipIter
import PyProof.DictCompW
import PyProof.DictUpdate
import PyProof.FactsAll.set_2
import KE.KSetDisp
import PyProof.Rows.StrNews2
import PyProof.StrCalls
import KE.KIntText
import PyProof.StrLawsLast
import PyProof.Rows.StrCut
import PyProof.TupleKey
import PyProof.ListIndex
import PyProof.StrLawsChain
import PyProof.StrLawsOcc
import Wide.Txt
import PyProof.CallType
import PyProof.Rows.CallKwBuiltin
import PyProof.Rows.SortShellK
import PySem.Challenge.RW_outlineward_k24_whole_programs_written_a
set_option Elab.async false
set_option linter.all false
set_option maxRecDepth 100000
set_option maxHeartbeats 4000000
open _root_.Array renaming toList_append->dR,length_toList->gg,all_toList->ll,toList->sv,size_push->sw,getElem?_toList->sx,getD->sy,any_toList->sA
open _root_.Bool renaming false_ne_true->aI,and_eq_true->bg,eq_iff_iff->bI,true_and->lh,not_eq_true'->lj,or_false->sn,or_eq_true->so,not_eq_true->sq,false_and->sr,and_assoc->su
open _root_.Char renaming toNat->fN
open _root_.False renaming elim->cj
open _root_.Int renaming toNat_natCast->bS,emod_nonneg->gY,emod_lt_of_pos->gZ,zero_add->m9
open _root_.LawfulBEq renaming eq_of_beq->m8
open _root_.List renaming length_map->ae,length_append->af,mem_cons->ak,mem_cons_self->am,mem_cons_of_mem->ao,length_cons->aw,mem_append->aB,replicate->aC,getElem?_eq_getElem->aE,append_assoc->aG,map_append->aH,mem_singleton->aJ,nodup_cons->aP,mem_append_right->aT,map_cons->aX,size_toArray->aZ,length_nil->a_,not_mem_nil->bn,getElem?_map->bq,Nodup->br,getElem?_eq_some_iff->bx,mem_append_left->bB,append_nil->bF,all_eq_true->bR,getElem_mem->bW,range->b9,mem_map->b_,getD_eq_getElem?_getD->cg,take_length->cy,mem_of_mem_drop->cz,length_take->cA,length_drop->cB,length->cC,drop_drop->cD,take_succ->cL,map_nil->cM,lookup_cons->cN,cons_append->cO,take_of_length_le->de,nil_append->df,mem_of_getElem?->dh,lookup->dj,flatMap_cons->dk,all->dm,nodup_append->dJ,length_replicate->dM,flatMap_append->dN,find?_cons->dO,filterMap_cons->dP,all_cons->dQ,take_append_drop->eO,nodup_nil->eP,lookup_cons_self->eQ,replicate_succ->fI,mem_range->fJ,isPrefixOf->fK,drop_zero->fL,dropWhile_cons->fM,reverse_cons->gb,isPrefixOf_iff_prefix->gc,filter_cons->ge,any_cons->gf,perm_append_comm->gN,mem_of_getLast?->gO,mem_filter->gP,getLast_mem->gR,getLast?_eq_some_getLast->gS,getElem?_append_right->gT,getElem?_append_left->gU,drop_one->gV,drop_of_length_le->gW,drop_left->gX,sum_cons->i4,replicate_append_replicate->i5,pairwise_append->i6,length_range->i7,length_eq_zero_iff->i8,getLastD_eq_getLast?->i9,getLast?_append->i_,getElem_of_mem->j_,forIn_cons->k_,flatten_cons->ld,dropWhile_sublist->lg,reverse_reverse->mO,range'->mP,of_mem_zip->mQ,mem_reverse->mR,map->mT,length_reverse->mU,isSuffixOf_iff_suffix->mV,foldl->mW,eq_of_mem_replicate->mX,dropLast_concat->mY,drop->mZ,contains_iff_mem->m7,take_left->rm,tail_cons->rq,prefix_iff_eq_take->rz,prefix_append->rA,pairwise_lt_range'->rB,pairwise_cons->rC,mem_range'->rD,mem_flatMap->rE,mem_filterMap->rF,map_replicate->rG,length_pos_iff->rJ,length_dropLast->rK,isEmpty_eq_false_iff->rL,isEmpty->rM,getLast?_eq_getElem?->rN,getElem?_set_self->rO,getElem?_set_ne->rP,getElem?_drop->rQ,filter_nil->rR,filter_append->rS,eraseIdxIfInBounds_toArray->rT,drop_eq_nil_of_le->rV,append_eq_append_iff->rX,any_eq_false->rY
open _root_.List.Perm renaming append_left->r_
open _root_.List.cons renaming inj->eR
open _root_.Nat renaming le_trans->ad,le_refl->av,add_le_add->bh,zero_le->bm,ne_of_lt->bp,le_succ_of_le->bv,le_of_lt->bE,lt_of_lt_of_le->bQ,succ_le_succ->c_,lt_trans->eM,le_succ->eN,lt_irrefl->fG,toDigits->gH,sub_zero->gJ,mod_lt->gK,min_eq_left->gL,le_of_ble_eq_true->gM,succ_mul->iX,not_lt_zero->iY,ne_of_gt->iZ,lt_or_ge->i3,lt_succ_self->mJ,lt_of_le_of_lt->mK,log2_lt->mL,le_of_eq->mM,add_zero->mN,zero_add->pZ,toList_repr->p0,sub_add_cancel->p_,min_eq_right->rb,lt_succ_of_lt->rc,lt_succ_iff_lt_or_eq->re,length_toDigits_le_iff->rf,le_total->rg,eq_zero_or_pos->rh,add_le_add_right->rj
open _root_.Nat.succ renaming inj->gI
open _root_.Ne renaming symm->bH
open _root_.Option renaming isSome_iff_exists->gG,map_some->iV,map_eq_some_iff->iW,isSome->mI,map_map->pX,getD_none->pY
open _root_.Option.some renaming inj->bP
open _root_.Prod renaming fst->gF,snd->mH
open _root_.PyProof.Rows renaming AllBare->cZ,envOfC->gC,SortSt->gD,IntsAre->gE,subscriptTail->mC,slot_tuple_getitem->mD,Subscript_->mF,subscriptTail_builtinR->pO,slot_str_getitem->pP,callWith_type1->pV
open _root_.PySem renaming FuncData->aq,sizeLine->au,wpAny_bind->az,starEach->aK,wpAny_pure->aL,mainGlobals->aQ,bootBuiltins->bu,compareOp->bK,backTo->bL,wpAny_mono->bU,sysModules->cb,call_meets->cn,binaryOp->cq,NameKind->cv,assignEach->cH,SetTable->cJ,IsEnum->cK,swapsWith->cX,wpAny_field->dy,codeAny->dz,behindInMarks->dA,attributeBase->dB,wpAny_truthy_bool->dZ,wpAny_Call_Name_kw->d_,typeIs_str->eo,mem_of_lookup->eB,getItem->eC,foldedSetIterable->eD,IsPart->eG,wpAny_passesOwn->e_,valueAt->fc,sliceBounds->fe,pyNext->fg,callerA->fj,wpAny_newObj_type->fP,wpAny_holding->fR,typeOf->fS,sizeLine_eq->fT,rawInt->fU,codeAny_mono->fV,PlainAttrs->fY,PassesOwn->fZ,BindsTo->ga,wpAny_setField_rec->gj,wpAny_pyIter_list->gk,tupleKind->gm,standAt->gn,wpAny_standAt->iz,wpAny_execs_nil->iA,seqIndex?->iB,letOwnedTupleGo->iC,keywordEach->iD,compPost->iF,backToKw->iG,Within->iH,Keyword->iO,IsEnumOut->iP,wpAny_call_entry->ln,wpAny_callSpecial?_slot->lq,wpAny_call->lu,wpAny_Name->lA,typeLookup->lC,typeIs_int->lE,seqIndex_of->lG,cellsFrom->lM,call->lO,builtinsNs->lP,DictEntry->mr,wpAny_pyIter_enum->nh,wpAny_newFunctionEnv->ni,wpAny_isTrue_Compare1->nj,wpAny_execs_cons->nk,wpAny_comprehension_free->nn,wpAny_assign_Name->nu,wpAny_FormattedValue_plain->nv,tupleKind_room_in1->ny,strKind->nE,slot_list_getitem->nH,codeAny_compStart_list->nY,codeAny_call_builtin->nZ,Shared->oK,Addr->pM
open _root_.PySem.Around renaming under->mB,units->pL
open _root_.PySem.Builtin.List renaming listTooLong->iU
open _root_.PySem.Builtin.Slice renaming slicePlaces->iT,sliceAdjust->mz,sliceApplied->pK
open _root_.PySem.Builtin.SmallTypes renaming ownedTupleIsFree->pI,ownedTupleHandOut->pJ
open _root_.PySem.Builtin.Str renaming strSub->fF,strSliceIndices->mx,occurrences->my
open _root_.PySem.Builtin.Tuple renaming tupleExact->iS
open _root_.PySem.Calls renaming callWith_builtin->pE,Name_function_global->pF
open _root_.PySem.Challenge renaming rw_outlineward_k24_whole_programs_written_a->pD
open _root_.PySem.Code renaming isFrame->mv,frames->pC
open _root_.PySem.Env renaming scope->fE
open _root_.PySem.F renaming plainAttrs_list->aF,type_list_append->aR,slot_list_append->aS,plainAttrs_str->be,type_list_extend->cw,slot_list_extend->cx,type_str_join->eI,slot_str_partition->eJ,slot_str_join->eK,type_str_partition->fD,slot_list_pop->f_,slot_str_split->gB,type_list_pop->iQ,slot_enumerate_next->iR,slot_str_rpartition->mj,entry_str_split->ml,called_enumerate->mn,args_str_split_2->mq,type_str_strip->o8,type_str_startswith->o_,type_str_split->pb,type_str_rpartition->pc,type_str_isascii->pe,type_str_endswith->ph,slot_str_strip->pi,slot_str_startswith->pj,slot_str_isascii->pk,slot_str_endswith->pq,slot_int_rmul->pr,slot_dict_getitem->pw,entry_list_pop->px,entry_enumerate_next->pz,args_enumerate_next_1->pA
open _root_.PySem.Heap renaming lt_size->aM,get?_push_of_some->bc,get?_push_size->bM,SameBut->b0,size_push->fC,get?_update_other->oY
open _root_.PySem.Heap.SameBut renaming refl->oZ
open _root_.PySem.NumText renaming digitsVal->oU
open _root_.PySem.Obj renaming mapSeq->gA
open _root_.PySem.Paired renaming length->iN,snoc->oS
open _root_.PySem.PassesOwn renaming never->cu
open _root_.PySem.Pos renaming line->dI,endLine->mh
open _root_.PySem.PyData renaming keyHash->cf
open _root_.PySem.Scope renaming names->mf
open _root_.PySem.SeqAt renaming EqAt->bA
open _root_.PySem.SeqAt.EqAt renaming str_str->ma,str_int->md,int_str->me,same->oO,int_int->oP
open _root_.PySem.SeqAt.RcAt renaming tuples->oN
open _root_.PySem.SetTable renaming leap->fA,Probe->fB,runEnd->iM,advance->oM
open _root_.PySem.Str renaming ofString->aa,length_append->aU,empty->aV,join->bz,length->fX,cps_append->gw,append_assoc->gz
open _root_.PySem.StrLaws renaming occBody->fv,glued_eq_join->fz,partsFrom->oH
open _root_.PySem.Txt renaming join->bZ,mul->cc,isascii->ce,split->eF,islower->fq,isalpha->fu,rpartition->gt,partition->gu,isdigit->iL,stripChars->lY,startswith->lZ,endswith->l0
open _root_.PySem.Unicode renaming isAlpha->iK,isUpper->lV,isTitle->lX,isLower->oE,isDigit->oF
open _root_.PySem.Value renaming isStrOf->gr,isInt->oC
open _root_.PySem.W renaming Frag->ah,nsIn->bo,findIn->bD,mg_none_of->bN,keepIn->bO,mg_of->bV,kia_one->cI,fnOf->cY,kitOne->dC,emptyDict->dE,instObj->eE,codeIn->fk,hideAll->fW,plainGet->gp,hasDictIn->gq,plainOver->iI,makesIn->iJ,takerIn->lR,methodObj->lS,lookIn->lT,OpenLaw->lU,kitx_list->ol,kitx_dict->om,hideAll_none->oo,handedIn->ot,cellsFrom_some->ou,callWith_K0->ow,callWith_K->ox,WalkO->oz,KeysLit->oB
open _root_.PySem.W.WShape renaming has->oA
open _root_.String renaming toList_append->ng
open _root_.ToString renaming toString->eZ
namespace L2
open PySem PySem.Spec PyProof.Rows
abbrev Key:=Sum Int Str
def jaW:Key->Value->Bool
 | .inl k,v=>oC k v
 | .inr x,v=>gr x v
def jmZ(w:World):Key->Int
 | .inl k=>hashInt k
 | .inr x=>hashStr w x
theorem qv:∀{k:Key} {v:Value},jaW k v=true->(∃i t,k=Sum.inl i/\v=Value.int i t)∨(∃x t,k=Sum.inr x/\v=Value.str x t)
 | .inl i,v,h=>by
  obtain⟨t,e⟩:=Value.isInt_shape (k:=i) (v:=v) h;exact .inl ⟨i,t,rfl,e⟩
 | .inr x,v,h=>by
  obtain⟨t,e⟩:=Value.isStrOf_shape (x:=x) (v:=v) h;exact .inr ⟨x,t,rfl,e⟩
theorem jgq(i:Int)(t:Tok):jaW (.inl i) (.int i t)=true:=by simp[jaW,oC]
theorem jgp(x:Str)(t:Tok):jaW (.inr x) (.str x t)=true:=by simp[jaW,gr]
theorem jlR(a b:Int):decide ((Sum.inl a:Key)=Sum.inl b)=(a == b):=by
 by_cases e:a=b
 ·subst e;simp
 ·have h:¬(Sum.inl a:Key)=Sum.inl b:=fun q=>e (Sum.inl.inj q)
  rw[decide_eq_false h];exact (beq_eq_false_iff_ne.mpr e).symm
theorem jlO(a b:Str):decide ((Sum.inr a:Key)=Sum.inr b)=decide (a=b):=by
 by_cases e:a=b
 ·subst e;simp
 ·have h:¬(Sum.inr a:Key)=Sum.inr b:=fun q=>e (Sum.inr.inj q)
  rw[decide_eq_false h,decide_eq_false e]
theorem jlQ(a:Int)(b:Str):decide ((Sum.inl a:Key)=Sum.inr b)=false:=decide_eq_false (fun q=>nomatch q)
theorem jlP(a:Str)(b:Int):decide ((Sum.inr a:Key)=Sum.inl b)=false:=decide_eq_false (fun q=>nomatch q)
def qB(prog:Program)(w:World):PySem.KeyKind prog w Key where
 is:=jaW
 hash:=jmZ w
 inj:=fun v a b ha hb=>by
  rcases qv ha with⟨i,t,rfl,rfl⟩ | ⟨x,t,rfl,rfl⟩
  ·rcases qv hb with⟨j,u,rfl,e⟩ | ⟨y,u,rfl,e⟩
   ·injection e with e1 _;rw[e1]
   ·exact nomatch e
  ·rcases qv hb with⟨j,u,rfl,e⟩ | ⟨y,u,rfl,e⟩
   ·exact nomatch e
   ·injection e with e1 _;rw[e1]
 byValue:=fun k v h=>by
  rcases qv h with⟨i,t,rfl,rfl⟩ | ⟨x,t,rfl,rfl⟩ <;> rfl
 pyHash:=fun hv h=>by
  rcases qv hv with⟨i,t,rfl,rfl⟩ | ⟨x,t,rfl,rfl⟩
  ·exact wpAny_pyHash_int h
  ·exact wpAny_pyHash_str h
 eqBool:=fun hu hv h=>by
  rcases qv hu with⟨i,t,rfl,rfl⟩ | ⟨x,t,rfl,rfl⟩
  ·rcases qv hv with⟨j,u,rfl,rfl⟩ | ⟨y,u,rfl,rfl⟩
   ·rw[jlR]at h;exact wpAny_eqBool_int h
   ·rw[jlQ]at h;exact me i t y u _ _ _ _ h
  ·rcases qv hv with⟨j,u,rfl,rfl⟩ | ⟨y,u,rfl,rfl⟩
   ·rw[jlP]at h;exact md x t j u _ _ _ _ h
   ·rw[jlO]at h;exact wpAny_eqBool_str h
 «strs»:=fun k x t v h=>by
  rcases qv h with⟨i,u,rfl,e⟩ | ⟨y,u,rfl,e⟩
  ·exact nomatch e
  ·injection e with e1 _
   subst e1
   cases v <;> rfl
theorem jcO(prog:Program)(w:World)(i:Int)(t:Tok):(qB prog w).is (.inl i) (.int i t)=true:=jgq i t
theorem jcN(prog:Program)(w:World)(x:Str)(t:Tok):(qB prog w).is (.inr x) (.str x t)=true:=jgp x t
inductive V where
 | non | bl (b:Bool) | int (i:Int) | str (x:Str) | byt (b:Array UInt8) | flt (b:UInt64) | ref (a:Addr) | ty (n:String)
 deriving DecidableEq
def RelV:V->Value->Prop
 | .non,u=>u=Value.none
 | .bl b,u=>u=Value.bool b
 | .int i,u=>∃t,u=Value.int i t
 | .str x,u=>∃t,u=Value.str x t
 | .byt b,u=>∃t,u=Value.bytes b t
 | .flt b,u=>∃t,u=Value.float b t
 | .ref a,u=>u=Value.ref a
 | .ty n,u=>u=Value.type n
abbrev Vals:List V->List Value->Prop:=Paired RelV
variable {xs:List V}{us:List Value}
theorem Vals.length(r:Vals xs us):xs.length=us.length:=iN r
theorem Vals.get:∀{xs:List V} {us:List Value} {i:Nat} {x:V},Vals xs us->xs[i]?=some x->∃u,us[i]?=some u/\RelV x u
 | _,_,_,_,.nil,e=>by simp at e
 | _,_,0,_,.cons r _,e=>by simp at e;subst e;exact⟨_,rfl,r⟩
 | _,_,i+1,x,.cons _ t,e=>by
  obtain⟨u,h1,h2⟩:=Vals.get (i:=i) (x:=x) t (by simpa using e);exact⟨u,by simpa using h1,h2⟩
theorem Vals.set{x:V}{u:Value}(r:RelV x u):∀{xs:List V} {us:List Value} (i:Nat),Vals xs us->Vals (xs.set i x) (us.set i u)
 | _,_,_,.nil=>.nil
 | _,_,0,.cons _ t=>.cons r t
 | _,_,i+1,.cons q t=>.cons q (Vals.set r i t)
theorem Vals.append:∀{xs ys:List V} {us ws:List Value},Vals xs us->Vals ys ws->Vals (xs++ys) (us++ws)
 | _,_,_,_,.nil,s=>s
 | _,_,_,_,.cons r t,s=>.cons r (Vals.append t s)
theorem Vals.take:∀{xs:List V} {us:List Value} (n:Nat),Vals xs us->Vals (xs.take n) (us.take n)
 | _,_,0,_=>.nil
 | _,_,_+1,.nil=>.nil
 | _,_,n+1,.cons r t=>.cons r (Vals.take n t)
theorem Vals.drop:∀{xs:List V} {us:List Value} (n:Nat),Vals xs us->Vals (xs.drop n) (us.drop n)
 | _,_,0,r=>r
 | _,_,_+1,.nil=>.nil
 | _,_,n+1,.cons _ t=>Vals.drop n t
def RelO:Option V->Option Value->Prop
 | some v,some u=>RelV v u
 | none,none=>True
 | _,_=>False
def KV{κ:Type}:List (κ×V)->List (κ×Value)->Prop:=Paired fun (p:κ×V) (q:κ×Value)=>p.1=q.1/\RelV p.2 q.2
def kV:Key->V
 | .inl i=>.int i
 | .inr x=>.str x
inductive HO where
 | lst (xs:List V)
 | tup (xs:List V)
 | dK (kvs:List (Key×V)) | dT (kvs:List (List Key×V))
 | set (S:Int->Bool) (n:Nat)
 | ins (C dx:Addr) (fs:List (Str×V))
 | own (x:Addr)
 | xd (fs:List (Str×V))
 | met (f x:Addr)
 | rng (lo hi:Int)
 | frz (o:Obj) (u:HO)
 | tbl (ps:Array Value)
 | ext (φ:Heap->Prop)
abbrev Hp:=Addr->Option HO
def upd(H:Hp)(a:Addr)(o:HO):Hp:=fun b=>if b=a then some o else H b
variable {H:Hp}{a:Addr}{o:HO}
theorem jc:upd H a o a=some o:=by unfold upd;rw[if_pos rfl]
variable {b:Addr}
theorem js(h:b≠a):upd H a o b=H b:=by unfold upd;rw[if_neg h]
theorem jjl{u:HO}:upd (upd H a o) a u=upd H a u:=by
 funext b;unfold upd;split <;> rfl
theorem jmA{u:HO}(h:H a=some o)(h':H b=some u)(d:o≠u):a≠b:=by
 intro e;subst e;rw[h]at h';exact d (bP h')
theorem jl(h:H a=some o)(h':H b=none):a≠b:=by
 intro e;subst e;rw[h]at h';cases h'
section
variable (P:Program)(w:World)
def ObjOk(H:Hp)(h:Heap)(a:Addr):HO->Prop
 | .lst xs=>xs.length≤au/\∃(its:List Value) (n:Nat),Vals xs its/\h.get? a=some { cls:=.type "list",data:=.seq its.toArray n }
 | .tup xs=>xs.length≤au/\∃its:List Value,Vals xs its/\IsTup h a its.toArray
 | .dK kvs=>kvs.length≤au/\(a == cb)=false/\∃vs,KV kvs vs/\h.DictOf (qB P w) a vs
 | .dT kvs=>kvs.length≤au/\(a == cb)=false/\∃xs:List (List Key×Addr×Value),
   Paired (fun (p:List Key×V) (q:List Key×Addr×Value)=>p.1=q.1/\H q.2.1=some (.tup (p.1.map kV))/\RelV p.2 q.2.2) kvs xs/\
   ∃o es ep,h.get? a=some o/\o.ExactDict/\o.data=.dict es ep/\es.toList=xs.map (entryOfKey (gm (qB P w)))/\(xs.map (·.1)).Nodup
 | .set S n=>h.SetOf (intKind P w) a S n
 | .ins C dx fs=>H dx=some (.own a)/\fs.length≤1000/\dx≠a/\h.get? a=some (eE C dx)/\
   ∃mA,h.Ns1 dx mA/\(∀f,RelO (fs.lookup f) (mA f))/\iH mA (fs.map (·.1))
 | .own _=>∃o,h.get? a=some o
 | .xd fs=>∃mA,h.Ns1 a mA/\∀f,RelO (fs.lookup f) (mA f)
 | .rng lo hi=>∃t u v,h.get? a=some { cls:=.type "range",data:=.fields #[.int lo t,.int hi u,.int 1 v] }
 | .frz o u=>h.get? a=some o/\ObjOk H h a u
 | .tbl ps=>h.get? a=some { cls:=.none,data:=.fields ps }
 | .met f x=>h.get? a=some (lS (.ref f) (.ref x))
 | .ext φ=>φ h/\(∃o,h.get? a=some o)/\∀h1 h2:Heap,φ h1->(∀o,h1.get? a=some o->h2.get? a=some o)->φ h2
def HOk(H:Hp)(h:Heap):Prop:=∀a o,H a=some o->ObjOk P w H h a o
end
variable {P:Program}{w:World}{H':Hp}{h h':Heap}
section
theorem ObjOk.lt(x:ObjOk P w H h a o):a < h.objs.size:=by
 cases o with
 | lst xs=>obtain⟨_,_,_,_,e⟩:=x;exact aM e
 | tup xs=>obtain⟨_,_,_,p⟩:=x;exact p.lt
 | dK kvs=>obtain⟨_,_,_,_,o,_,_,e,_⟩:=x;exact aM e
 | dT kvs=>obtain⟨_,_,_,_,o,_,_,e,_⟩:=x;exact aM e
 | set S n=>obtain⟨o,_,_,_,e,_⟩:=x;exact aM e
 | ins C dx fs=>obtain⟨_,_,_,e,_⟩:=x;exact aM e
 | own y=>obtain⟨_,e⟩:=x;exact aM e
 | xd fs=>obtain⟨_,⟨_,_,_,e,_⟩,_⟩:=x;exact aM e
 | rng lo hi=>obtain⟨_,_,_,e⟩:=x;exact aM e
 | frz ob u=>obtain⟨e,_⟩:=x;exact aM e
 | tbl ps=>exact aM (show h.get? a=some _ from x)
 | met f y=>exact aM (show h.get? a=some _ from x)
 | ext φ=>obtain⟨_,⟨_,e⟩,_⟩:=x;exact aM e
theorem Paired.mapP{α β:Type}{F G:α->β->Prop}:∀{l₁:List α} {l₂:List β},Paired F l₁ l₂->(∀a b,F a b->G a b)->Paired G l₁ l₂
 | _,_,.nil,_=>.nil
 | _,_,.cons r t,f=>.cons (f _ _ r) (Paired.mapP t f)
theorem ObjOk.stay(x:ObjOk P w H h a o)(k:∀b u,(b=a∨H b=some (.own a))->h.get? b=some u->h'.get? b=some u)
  (ho:∀b,H b=some (.own a)->H' b=some (.own a)) (ht:∀b xs,H b=some (.tup xs)->H' b=some (.tup xs)):ObjOk P w H' h' a o:=by
 induction o with
 | lst xs=>obtain⟨z,its,n,r,e⟩:=x;exact⟨z,its,n,r,k _ _ (.inl rfl) e⟩
 | tup xs=>obtain⟨z,its,r,ob,e,c⟩:=x;exact⟨z,its,r,ob,k _ _ (.inl rfl) e,c⟩
 | dK kvs=>obtain⟨z,y,vs,r,ob,es,ep,e,c⟩:=x;exact⟨z,y,vs,r,ob,es,ep,k _ _ (.inl rfl) e,c⟩
 | dT kvs=>
  obtain⟨z,y,xs,r,ob,es,ep,e,c⟩:=x
  exact⟨z,y,xs,Paired.mapP r fun p q z=>⟨z.1,ht _ _ z.2.1,z.2.2⟩,ob,es,ep,k _ _ (.inl rfl) e,c⟩
 | set S n=>obtain⟨ob,es,ep,t,e,c⟩:=x;exact⟨ob,es,ep,t,k _ _ (.inl rfl) e,c⟩
 | ins C dx fs=>
  obtain⟨d,z,ne,e,mA,⟨od,es,ep,e2,c⟩,r⟩:=x
  exact⟨ho _ d,z,ne,k _ _ (.inl rfl) e,mA,⟨od,es,ep,k _ _ (.inr d) e2,c⟩,r⟩
 | own y=>obtain⟨ob,e⟩:=x;exact⟨ob,k _ _ (.inl rfl) e⟩
 | xd fs=>obtain⟨mA,⟨od,es,ep,e,c⟩,r⟩:=x;exact⟨mA,⟨od,es,ep,k _ _ (.inl rfl) e,c⟩,r⟩
 | rng lo hi=>obtain⟨t,u,v,e⟩:=x;exact⟨t,u,v,k _ _ (.inl rfl) e⟩
 | frz ob u ih=>obtain⟨e,q⟩:=x;exact⟨k _ _ (.inl rfl) e,ih q⟩
 | tbl ps=>
  have e:h.get? a=some { cls:=.none,data:=.fields ps }:=x
  show h'.get? a=some { cls:=.none,data:=.fields ps }
  exact k a _ (.inl rfl) e
 | met f y=>
  have e:h.get? a=some (lS (.ref f) (.ref y)):=x
  show h'.get? a=some (lS (.ref f) (.ref y))
  exact k a _ (.inl rfl) e
 | ext φ=>obtain⟨p,⟨o,e⟩,st⟩:=x;exact⟨st _ _ p fun o q=>k _ _ (.inl rfl) q,⟨o,k _ _ (.inl rfl) e⟩,st⟩
theorem HOk.lt(x:HOk P w H h)(e:H a=some o):a < h.objs.size:=(x a o e).lt
theorem HOk.fresh(x:HOk P w H h)(e:h.objs.size≤a):H a=none:=by
 cases q:H a with
 | none=>rfl
 | some u=>exact absurd (bQ (x.lt q) e) (fG _)
theorem HOk.kept(x:HOk P w H h)(k:∀b u,h.get? b=some u->h'.get? b=some u):HOk P w H h':=fun a o e=>
 (x a o e).stay (fun b u _ q=>k b u q) (fun _ q=>q) fun _ _ q=>q
theorem HOk.laid(x:HOk P w H h)(k:∀b u,h.get? b=some u->h'.get? b=some u)(hp:h.objs.size≤a)(new:ObjOk P w (upd H a o) h' a o):HOk P w (upd H a o) h':=fun b u e=>by
 have hn:=x.fresh hp;by_cases hb:b=a
 ·subst hb;rw[jc]at e;cases e;exact new
 ·rw[js hb]at e
  exact (x b u e).stay (fun c v _ q=>k c v q) (fun c q=>by rw[js (jl q hn)];exact q) fun c xs q=>by rw[js (jl q hn)];exact q
end
def Rd(H:Hp)(a:Addr)(u:HO):Prop:=H a=some u∨∃o,H a=some (.frz o u)
theorem Rd.of{u:HO}(h:H a=some u):Rd H a u:=.inl h
theorem Rd.ok{u:HO}(r:Rd H a u)(x:HOk P w H h):ObjOk P w H h a u:=by
 rcases r with r | ⟨o,r⟩
 ·exact x a u r
 ·obtain⟨_,q⟩:=x a _ r
  exact q
def Mut:Option HO->Prop
 | some (.lst _)=>True
 | some (.dK _)=>True
 | some (.dT _)=>True
 | some (.set _ _)=>True
 | some (.ins _ _ _)=>True
 | some (.ext _)=>True
 | _=>False
section
variable {x e:Addr}{o':HO}
theorem HOk.write(ok:HOk P w H h)(mu:Mut (H x))(he:e=x∨H e=some (.own x))(k:∀b u,b≠e->h.get? b=some u->h'.get? b=some u)(heo:∃u,h'.get? e=some u)
  (new:ObjOk P w (upd H x o') h' x o'):HOk P w (upd H x o') h':=fun b u q=>by
 have nown:∀c y,H c=some (.own y)->c≠x:=fun c y r z=>by subst z;rw[r]at mu;exact mu
 have ntup:∀c xs,H c=some (.tup xs)->c≠x:=fun c xs r z=>by subst z;rw[r]at mu;exact mu
 by_cases hb:b=x
 ·subst hb;rw[jc]at q;cases q;exact new
 ·rw[js hb]at q
  by_cases hbe:b=e
  ·have q':H b=some (.own x):=by
    rcases he with z | z
    ·exact absurd (hbe.trans z) hb
    ·rw[hbe];exact z
   rw[q]at q';cases q';obtain⟨v,hv⟩:=heo;exact⟨v,by rw[hbe];exact hv⟩
  ·refine (ok b u q).stay (fun c v hc r=>k c v ?_ r) (fun c r=>by rw[js (nown c b r)];exact r) fun c xs r=>by rw[js (ntup c xs r)];exact r
   rcases hc with rfl | hc
   ·exact hbe
   ·rintro rfl
    rcases he with z | z
    ·exact nown c b hc z
    ·rw[hc]at z;cases z;exact hb rfl
end
structure Un(fs ex:List Addr)(H H':Hp)(h h':Heap):Prop where
 keep:∀b o,h.get? b=some o->H b=none->b ∉ fs->b ∉ ex->h'.get? b=some o
 slot:∀b o,h.get? b=some o->H b=none->b∈fs->b ∉ ex->∃sl,h'.get? b=some { o with slots:=sl }
 free:∀b o,h.get? b=some o->H b=none->b ∉ ex->H' b=none
 there:∀b o,h.get? b=some o->b ∉ ex->∃o',h'.get? b=some o'
 tups:∀b xs,H b=some (.tup xs)->H' b=some (.tup xs)
 frzs:∀b o u,H b=some (.frz o u)->H' b=some (.frz o u)
 tbls:∀b ps,H b=some (.tbl ps)->∃more,H' b=some (.tbl (ps++more))
section
variable {fs fs' ex ex':List Addr}{H1 H2:Hp}{h1 h2:Heap}{x e:Addr}
theorem Un.any(u:Un fs ex H H1 h h1){ob:Obj}(q:h.get? b=some ob)(n:H b=none)(hx:b ∉ ex):∃sl,h1.get? b=some { ob with slots:=sl }:=by
 by_cases hb:b∈fs
 ·exact u.slot b ob q n hb hx
 ·exact⟨ob.slots,u.keep b ob q n hb hx⟩
theorem Un.kept(k:∀b u,h.get? b=some u->h'.get? b=some u):Un fs ex H H h h':=
 ⟨fun b ob q _ _ _=>k b ob q,fun b ob q _ _ _=>⟨ob.slots,k b ob q⟩,fun _ _ _ n _=>n,fun b ob q _=>⟨ob,k b ob q⟩,fun _ _ q=>q,fun _ _ _ q=>q,fun _ ps q=>⟨#[],by rw[q];simp⟩⟩
theorem Un.refl:Un fs ex H H h h:=Un.kept fun _ _ q=>q
theorem Un.laid(k:∀b u,h.get? b=some u->h'.get? b=some u)(hp:h.objs.size≤a)(hn:H a=none):Un fs ex H (upd H a o) h h' where
 keep:=fun b u q _ _ _=>k b u q
 slot:=fun b u q _ _ _=>⟨u.slots,k b u q⟩
 free:=fun b u q n _=>by rw[js (bp (bQ (aM q) hp))];exact n
 there:=fun b u q _=>⟨u,k b u q⟩
 tups:=fun b xs q=>by rw[js (jl q hn)];exact q
 frzs:=fun b u xs q=>by rw[js (jl q hn)];exact q
 tbls:=fun b ps q=>⟨#[],by rw[js (jl q hn),q];simp⟩
theorem Un.write(mu:Mut (H x))(he:e=x∨H e=some (.own x))(k:∀b u,b≠e->h.get? b=some u->h'.get? b=some u)(heo:∃u,h'.get? e=some u):Un fs ex H (upd H x o) h h':=by
 have hx:∀b,H b=none->b≠x:=fun b n z=>by subst z;rw[n]at mu;exact mu
 have hb:∀b,H b=none->b≠e:=fun b n z=>by
  subst z;rcases he with r | r
  ·exact hx b n r
  ·rw[n]at r;cases r
 have hm:∀b u,H b=some u->¬Mut (some u)->b≠x:=fun b u q nm z=>by subst z;rw[q]at mu;exact nm mu
 refine⟨fun b u q n _ _=>k b u (hb b n) q,fun b u q n _ _=>⟨u.slots,k b u (hb b n) q⟩,fun b u q n _=>by rw[js (hx b n)];exact n,fun b u q _=>?_,
  fun b xs q=>by rw[js (hm b _ q fun z=>z)];exact q,fun b u xs q=>by rw[js (hm b _ q fun z=>z)];exact q,fun b ps q=>⟨#[],by rw[js (hm b _ q fun z=>z),q];simp⟩⟩
 by_cases hbe:b=e
 ·subst hbe;exact heo
 ·exact⟨u,k b u hbe q⟩
end
def trk(h:Heap)(H:Hp):List Addr:=(b9 h.objs.size).filter fun a=>(H a).isSome
def jbS(h:Heap)(H:Hp):Heap:=PySem.W.hideAll h (trk h H)
theorem jgt(h:Heap)(H:Hp):(jbS h H).objs.size=h.objs.size:=PySem.W.hideAll_size _ _
theorem jiF{o:Obj}(e:h.get? b=some o)(n:H b=none):(jbS h H).get? b=some o:=
 PySem.W.hideAll_get _ e fun hm=>by
  have q:(H b).isSome=true:=(gP.mp hm).2;rw[n]at q;simp at q
theorem jj6{o:Obj}(e:(jbS h H).get? b=some o):h.get? b=some o/\H b=none:=by
 have e':h.get? b=some o:=PySem.W.of_hideAll (trk h H) e;refine⟨e',?_⟩
 cases q:H b with
 | none=>rfl
 | some x=>
  have hm:b∈trk h H:=gP.mpr ⟨fJ.mpr (aM e'),by simp[q]⟩;have z:(jbS h H).get? b=none:=PySem.W.hideAll_none (trk h H) hm;rw[z]at e;cases e
def jky(g h:Heap)(L:Addr):List (Addr×Obj):=(b9 h.objs.size).filterMap fun a=>if a=L∨(g.get? a).isSome=true then none else (h.get? a).map fun o=>(a,o)
def qW(g h:Heap)(L d:Addr):List (Addr×Obj):=(jky g h L).filter fun p=>decide (p.1≠d)
structure Mod(K:ah)(mg:Str->Option Value)(base:Heap):Prop where
 kin:K.In base
 glob:base.Ns aQ mg
 blt:∃mb,base.Ns lP mb/\∀x:Str,x≠"__name__"->mb x=bu x
 nolimit:base.NoLimit
structure Cx where
 prog:Program
 w:World
 K:ah
 mg:Str->Option Value
 base:Heap
 A:Around
 N:List Str
 s₀:Shared
 H₀:Hp
 env:Env
 outer:List Env
 stack:List Env
 ex:List Addr
 fn:Str->Bool
 calm:Bool
 pn:List (Addr×Obj)
 xe:Value->Shared->Prop
def frs(l:List Env):List Addr:=l.filterMap (·.frame)
abbrev Cx.fs(X:Cx):List Addr:=frs X.outer
def Vis(sc:Scope)(x:Str):Prop:=sc.names.lookup x=some .local∨sc.names.lookup x=some .cell∨sc.names.lookup x=some .free
def Loc(sc:Scope)(x:Str):Prop:=sc.names.lookup x=some .local∨sc.names.lookup x=some .cell
def jm6(env:Env)(h:Heap)(m:Str->Option Value)(x:Str)(u:Value):Prop:=
 (env.kindOf x=some .local/\m x=some u)∨((env.kindOf x=some .cell∨env.kindOf x=some .free)/\∃c,env.cells.lookup x=some c/\h.IsCell c (some u))
structure Cx.Ok(X:Cx):Prop where
 mod:Mod X.K X.mg X.base
 kind:X.env.scope.kind=.function
 glob:X.env.globals=aQ
 blt:X.env.builtins=lP
 above:X.s₀.heap.objs.size≤X.env.locals
 inj:∀x y c,X.env.cells.lookup x=some c->X.env.cells.lookup y=some c->x=y
 has:∀x,(X.env.kindOf x=some .cell∨X.env.kindOf x=some .free)->∃c,X.env.cells.lookup x=some c
 cab:∀x c,X.fn x=true->X.env.cells.lookup x=some c->X.s₀.heap.objs.size≤c
 hd:X.calm=true->X.A.handled=none
 frames:X.A.frames=some X.stack
 stk:X.stack=X.outer∨(X.stack=X.env :: X.outer/\X.env.frame=some X.env.locals)
 exf:∀b∈X.ex,b≠X.env.locals/\∀x c,X.env.cells.lookup x=some c->c≠b
 bs:∀b o,X.base.get? b=some o->X.s₀.heap.get? b=some o/\X.H₀ b=none
 bsz:X.base.objs.size≤X.s₀.heap.objs.size
 noex:∀b o,X.base.get? b=some o->b ∉ X.ex
 exfs:∀b∈X.ex,b ∉ X.fs
 funs:X.s₀.heap.FunFrames X.base X.outer
 frf:∀b∈X.fs,X.H₀ b=none
structure Inv(X:Cx)(ac:List (Addr×Obj))(σ:List (Option V))(H:Hp)(s:Shared):Prop where
 ok:X.Ok
 os:s.os=X.s₀.os
 bare:cZ s.gens
 base:Un X.fs X.ex X.H₀ H X.s₀.heap s.heap
 loc:∃m,s.heap.Ns X.env.locals m/\∀(i:Nat) (x:Str) (v:V),X.N[i]?=some x->σ[i]?=some (some v)->Vis X.env.scope x->∃u,RelV v u/\jm6 X.env s.heap m x u
 cell:∀x c,X.env.cells.lookup x=some c->∃v,s.heap.IsCell c v
 free:H X.env.locals=none
 freeC:∀x c,X.env.cells.lookup x=some c->H c=none
 pin:∀p∈X.pn++ac,s.heap.get? p.1=some p.2/\H p.1=none/\p.1≠X.env.locals/\p.1 ∉ X.fs/\∀v,p.2.data≠.cell v
 hok:HOk X.prog X.w H s.heap
 len:σ.length=X.N.length
variable {X:Cx}{ac:List (Addr×Obj)}{s s':Shared}{t' i j:Nat}{ch:List Addr}{x:Str}{M:Model}{A:Around}{E:Value->Shared->Prop}{v:V}{u:Value}
section
variable {σ:List (Option V)}
theorem Cx.Ok.nofr(ok:X.Ok){o:Obj}(e:X.base.get? b=some o):b ∉ X.fs:=fun hb=>by
 have:=(ok.funs.mem hb).1;rw[e]at this;cases this
theorem Inv.bs(I:Inv X ac σ H s):∀b o,X.base.get? b=some o->s.heap.get? b=some o/\H b=none:=fun b o e=>
 ⟨I.base.keep b o (I.ok.bs b o e).1 (I.ok.bs b o e).2 (I.ok.nofr e) (I.ok.noex b o e),I.base.free b o (I.ok.bs b o e).1 (I.ok.bs b o e).2 (I.ok.noex b o e)⟩
theorem Inv.bk(I:Inv X ac σ H s):∀b o,X.base.get? b=some o->s.heap.get? b=some o:=fun b o e=>(I.bs b o e).1
theorem Inv.mod(I:Inv X ac σ H s):Mod X.K X.mg X.base:=I.ok.mod
theorem Inv.kIn(I:Inv X ac σ H s):X.K.In s.heap:=I.ok.mod.kin.keeps I.bk
theorem Inv.nolimit(I:Inv X ac σ H s):s.heap.NoLimit:=I.ok.mod.nolimit.keeps I.bk
theorem Inv.fr(I:Inv X ac σ H s):∃m,Fr X.base X.env.locals s.heap m:=
 let ⟨m,hn,_⟩:=I.loc
 ⟨m,hn,I.bk,ad I.ok.bsz I.ok.above⟩
theorem Inv.lt(I:Inv X ac σ H s):X.env.locals < s.heap.objs.size:=let ⟨_,hn,_⟩:=I.loc;hn.lt
theorem Inv.sz(I:Inv X ac σ H s):X.s₀.heap.objs.size≤s.heap.objs.size:=ad I.ok.above (bE I.lt)
theorem Inv.nofs(I:Inv X ac σ H s)(h:s.heap.objs.size≤a):a ∉ X.fs:=fun hb=>by
 obtain⟨_,o,ho,_⟩:=I.ok.funs.mem hb;exact absurd (bQ (aM ho) (ad I.sz h)) (fG _)
theorem Inv.cne(I:Inv X ac σ H s):∀x c,X.env.cells.lookup x=some c->c≠X.env.locals:=fun x c e z=>by
 obtain⟨v,o,ho,hd⟩:=I.cell x c e;obtain⟨m,⟨o',es,ep,ho',hd',_⟩,_⟩:=I.loc;rw[z,ho']at ho;cases ho;rw[hd']at hd;cases hd
theorem Inv.funs(I:Inv X ac σ H s):s.heap.FunFrames X.base X.outer:=by
 have all:∀(l:List Env),(∀b∈frs l,b∈X.fs)->X.s₀.heap.FunFrames X.base l->s.heap.FunFrames X.base l:=by
  intro l;induction l with
  | nil=>intro _ _;trivial
  | cons env r ih=>
   intro hs hl;obtain⟨hk,⟨L,o,hf,hn,ho,hd⟩,hr⟩:=hl;have hL:L∈X.fs:=hs L (by unfold frs;rw[dP,hf];exact am);obtain⟨sl,e⟩:=I.base.slot L o ho (I.ok.frf L hL) hL fun z=>I.ok.exfs L z hL
   exact⟨hk,⟨L,_,hf,hn,e,hd⟩,ih (fun b hb=>hs b (by unfold frs;rw[dP,hf];exact ao _ hb)) hr⟩
 exact all X.outer (fun _ hb=>hb) I.ok.funs
theorem Inv.stack(I:Inv X ac σ H s):s.heap.FunFrames X.base X.stack:=by
 rcases I.ok.stk with e | ⟨e,hf⟩
 ·rw[e];exact I.funs
 ·rw[e]
  obtain⟨m,hn,_⟩:=I.loc;refine .cons (by rw[I.ok.kind];decide) hf hn ?_ I.funs;exact Heap.get?_none_of_le (ad I.ok.bsz I.ok.above)
theorem Inv.stkSub(I:Inv X ac σ H s):∀b∈frs X.stack,b∈X.env.locals :: X.fs:=fun b hb=>by
 rcases I.ok.stk with e | ⟨e,hf⟩
 ·rw[e]at hb;exact ao _ hb
 ·rw[e]at hb
  unfold frs at hb;rw[dP,hf]at hb;exact hb
theorem Inv.stkFree(I:Inv X ac σ H s):∀b∈frs X.stack,H b=none:=fun b hb=>by
 rcases ak.mp (I.stkSub b hb) with e | hb
 ·rw[e];exact I.free
 ·obtain⟨_,o,ho,_⟩:=I.ok.funs.mem hb
  exact I.base.free b o ho (I.ok.frf b hb) fun z=>I.ok.exfs b z hb
theorem Inv.step{g':Array GenState}{d':Drawn}(I:Inv X ac σ H s)
  (hch:∀b∈ch,(b∈X.ex∨X.s₀.heap.objs.size≤b)/\b≠X.env.locals/\(∀x c,X.env.cells.lookup x=some c->c≠b)/\∀p∈X.pn++ac,p.1≠b)
  (keep:∀b o,b≠X.env.locals->b ∉ X.fs->b ∉ ch->s.heap.get? b=some o->H b=none->h'.get? b=some o)
  (slot:∀b o,b≠X.env.locals->b∈X.fs->b ∉ ch->s.heap.get? b=some o->H b=none->∃sl,h'.get? b=some { o with slots:=sl }) (free:∀b o,b ∉ ch->s.heap.get? b=some o->H b=none->H' b=none)
  (there:∀b o,b ∉ ch->s.heap.get? b=some o->∃o',h'.get? b=some o')
  (tups:∀b xs,H b=some (.tup xs)->H' b=some (.tup xs)) (frzs:∀b o u,H b=some (.frz o u)->H' b=some (.frz o u)) (tbls:∀b ps,H b=some (.tbl ps)->∃more,H' b=some (.tbl (ps++more)))
  (ns:∀m,s.heap.Ns X.env.locals m->h'.Ns X.env.locals m) (hok:HOk X.prog X.w H' h') (hg:cZ g') :
  Inv X ac σ H' { s with heap:=h',gens:=g',drawn:=d',toks:=t' }:=by
 have neL:∀b o,X.s₀.heap.get? b=some o->b≠X.env.locals:=fun b o e=>bp (bQ (aM e) I.ok.above)
 have neC:∀b o,X.s₀.heap.get? b=some o->b ∉ X.ex->b ∉ ch:=fun b o e hx hb=>by
  rcases (hch b hb).1 with z | z
  ·exact hx z
  ·exact absurd (bQ (aM e) z) (fG _)
 have cellK:∀x c,X.env.cells.lookup x=some c->∀v,s.heap.IsCell c v->h'.IsCell c v:=fun x c e v ⟨o,ho,hd⟩=>by
  have nch:c ∉ ch:=fun z=>(hch c z).2.2.1 x c e rfl
  by_cases hc:c∈X.fs
  ·obtain⟨sl,q⟩:=slot c o (I.cne x c e) hc nch ho (I.freeC x c e)
   exact⟨_,q,hd⟩
  ·exact⟨o,keep c o (I.cne x c e) hc nch ho (I.freeC x c e),hd⟩
 refine⟨I.ok,I.os,hg,⟨fun b o e n hb hx=>?_,fun b o e n hb hx=>?_,fun b o e n hx=>?_,fun b o e hx=>?_,fun b xs e=>tups b xs (I.base.tups b xs e),fun b o xs e=>frzs b o xs (I.base.frzs b o xs e),fun b ps e=>?_⟩,?_,fun x c e=>?_,?_,fun x c e=>?_,fun p hp=>?_,hok,I.len⟩
 ·exact keep b o (neL b o e) hb (neC b o e hx) (I.base.keep b o e n hb hx) (I.base.free b o e n hx)
 ·obtain⟨sl,e1⟩:=I.base.slot b o e n hb hx
  obtain⟨sl',e2⟩:=slot b _ (neL b o e) hb (neC b o e hx) e1 (I.base.free b o e n hx)
  exact⟨sl',e2⟩
 ·obtain⟨o',e1⟩:=I.base.there b o e hx
  exact free b o' (neC b o e hx) e1 (I.base.free b o e n hx)
 ·obtain⟨o',e1⟩:=I.base.there b o e hx
  exact there b o' (neC b o e hx) e1
 ·obtain⟨m1,e1⟩:=I.base.tbls b ps e
  obtain⟨m2,e2⟩:=tbls b _ e1
  exact⟨m1++m2,by rw[e2,Array.append_assoc]⟩
 ·obtain⟨m,hn,hl⟩:=I.loc
  refine⟨m,ns m hn,fun i x v e1 e2 e3=>?_⟩
  obtain⟨u,r,l⟩:=hl i x v e1 e2 e3
  refine⟨u,r,?_⟩
  rcases l with l | ⟨k,c,e,z⟩
  ·exact .inl l
  ·exact .inr ⟨k,c,e,cellK x c e _ z⟩
 ·obtain⟨v,z⟩:=I.cell x c e
  exact⟨v,cellK x c e v z⟩
 ·obtain⟨m,⟨o,_,_,ho,_⟩,_⟩:=I.loc
  exact free _ o (fun z=>(hch _ z).2.1 rfl) ho I.free
 ·obtain⟨v,o,ho,hd⟩:=I.cell x c e
  exact free c o (fun z=>(hch c z).2.2.1 x c e rfl) ho (I.freeC x c e)
 ·obtain⟨e,n,ne,nf,d⟩:=I.pin p hp
  have nch:p.1 ∉ ch:=fun z=>(hch p.1 z).2.2.2 p hp rfl
  exact⟨keep p.1 p.2 ne nf nch e n,free p.1 p.2 nch e n,ne,nf,d⟩
theorem Inv.un(I:Inv X ac σ H s)(u:Un X.fs [] H H' s.heap h')(hok:HOk X.prog X.w H' h'):Inv X ac σ H' { s with heap:=h',toks:=t' }:=by
 obtain⟨m,⟨o,es,ep,ho,r⟩,_⟩:=id I.loc;obtain⟨sl,hL⟩:=u.any ho I.free (by simp);exact I.step (g':=s.gens) (d':=s.drawn) (ch:=[]) (fun _ z=>nomatch z) (fun b o _ hb _ e n=>u.keep b o e n hb (by simp)) (fun b o _ hb _ e n=>u.slot b o e n hb (by simp)) (fun b o _ e n=>u.free b o e n (by simp)) (fun b o _ e=>u.there b o e (by simp)) u.tups u.frzs u.tbls (fun m' hm=>by
  obtain⟨o',es',ep',ho',r'⟩:=hm;rw[ho]at ho';cases ho';exact⟨_,es',ep',hL,r'⟩) hok I.bare
theorem Inv.call{g':Array GenState}{d':Drawn}(I:Inv X ac σ H s)(u:Un (frs X.stack) ch H H' s.heap h')(hok:HOk X.prog X.w H' h')(hg:cZ g')
  (hch:∀b∈ch,(b∈X.ex∨X.s₀.heap.objs.size≤b)/\b≠X.env.locals/\(∀x c,X.env.cells.lookup x=some c->c≠b)/\∀p∈X.pn++ac,p.1≠b) :
  Inv X ac σ H' { s with heap:=h',gens:=g',drawn:=d',toks:=t' }:=by
 obtain⟨m,⟨o,es,ep,ho,r⟩,_⟩:=id I.loc
 obtain⟨sl,hL⟩:=u.any ho I.free fun z=>(hch _ z).2.1 rfl
 exact I.step (ch:=ch) hch (fun b o hL hb hc e n=>u.keep b o e n (fun z=>(ak.mp (I.stkSub b z)).elim hL hb) hc) (fun b o _ _ hc e n=>u.any e n hc) (fun b o hc e n=>u.free b o e n hc) (fun b o hc e=>u.there b o e hc) u.tups u.frzs u.tbls (fun m' hm=>by
  obtain⟨o',es',ep',ho',r'⟩:=hm;rw[ho]at ho';cases ho';exact⟨_,es',ep',hL,r'⟩) hok hg
theorem Inv.turned{it:Addr}(I:Inv X ac σ H s)(k:∀b o,b≠it->s.heap.get? b=some o->h'.get? b=some o)(hn:H it=none)(hL:it≠X.env.locals)
  (h1:it∈X.ex∨X.s₀.heap.objs.size≤it) (h2:∀x c,X.env.cells.lookup x=some c->c≠it) (h3:∀p∈X.pn++ac,p.1≠it):Inv X ac σ H { s with heap:=h',toks:=t' }:=by
 have nit:∀b u,H b=some u->b≠it:=fun b u e z=>by rw[z,hn]at e;cases e
 refine I.step (g':=s.gens) (d':=s.drawn) (ch:=[it]) (fun b hb=>?_) (fun b o _ _ hc e _=>k b o (fun z=>hc (by simp[z])) e) (fun b o _ _ hc e _=>⟨o.slots,k b o (fun z=>hc (by simp[z])) e⟩) (fun _ _ _ _ n=>n)
  (fun b o hc e=>⟨o,k b o (fun z=>hc (by simp[z])) e⟩) (fun _ _ e=>e) (fun _ _ _ e=>e) (fun b ps e=>⟨#[],by rw[e];simp⟩) (fun m hm=>?_) (fun b u e=>?_) I.bare
 ·have e:b=it:=by simpa using hb
  subst e
  exact⟨h1,hL,h2,h3⟩
 ·obtain⟨o,es,ep,ho,r⟩:=hm
  exact⟨o,es,ep,k _ o (bH hL) ho,r⟩
 ·refine (I.hok b u e).stay (fun c v hc q=>k c v ?_ q) (fun _ q=>q) fun _ _ q=>q
  rcases hc with z | z
  ·rw[z];exact nit b u e
  ·exact nit c _ z
theorem Inv.tok(I:Inv X ac σ H s)(t:Nat):Inv X ac σ H { s with toks:=t }:=I.un (h':=s.heap) (t':=t) Un.refl I.hok
theorem Inv.kept(I:Inv X ac σ H s)(k:∀b u,s.heap.get? b=some u->h'.get? b=some u):Inv X ac σ H { s with heap:=h',toks:=t' }:=I.un (Un.kept k) (I.hok.kept k)
theorem Inv.laid(I:Inv X ac σ H s)(k:∀b u,s.heap.get? b=some u->h'.get? b=some u)(hp:s.heap.objs.size≤a)(new:ObjOk X.prog X.w (upd H a o) h' a o):
  Inv X ac σ (upd H a o) { s with heap:=h',toks:=t' }:=I.un (Un.laid k hp (I.hok.fresh hp)) (I.hok.laid k hp new)
theorem Inv.write{x e:Addr}(I:Inv X ac σ H s)(mu:Mut (H x))(he:e=x∨H e=some (.own x))(k:∀b u,b≠e->s.heap.get? b=some u->h'.get? b=some u)(heo:∃u,h'.get? e=some u)
  (new:ObjOk X.prog X.w (upd H x o) h' x o):Inv X ac σ (upd H x o) { s with heap:=h',toks:=t' }:=I.un (Un.write mu he k heo) (I.hok.write mu he k heo new)
theorem Inv.pins_of{pins':List (Addr×Obj)}(I:Inv X ac σ H s)(h:∀p∈pins',s.heap.get? p.1=some p.2/\H p.1=none/\p.1≠X.env.locals/\p.1 ∉ X.fs/\∀v,p.2.data≠.cell v):Inv X pins' σ H s:=
 ⟨I.ok,I.os,I.bare,I.base,I.loc,I.cell,I.free,I.freeC,fun p hp=>(aB.mp hp).elim (fun z=>I.pin p (bB _ z)) (h p),I.hok,I.len⟩
theorem jcK{N:List Str}(hN:N.Nodup)(a:N[i]?=some x)(b:N[j]?=some x):i=j:=by
 obtain⟨h1,e1⟩:=bx.mp a;obtain⟨h2,e2⟩:=bx.mp b;exact (List.getElem_inj hN).mp (e1.trans e2.symm)
theorem jaF{Q:Unit->Shared->Prop}(I:Inv X ac σ H s)(hN:X.N.Nodup)(hi:X.N[i]?=some x)(hx:Loc X.env.scope x)(r:RelV v u)
  (h:∀s',Inv X ac (σ.set i (some v)) H s'->(∃a,b0 a s.heap s'.heap/\(a=X.env.locals∨X.env.cells.lookup x=some a))->Q () s') (hf:X.fn x=true∨X.env.scope.names.lookup x=some .local:=by first | exact .inl rfl | exact .inr rfl | assumption):wpAny M A (storeName X.env x u) Q E s:=by
 obtain⟨m,hn,hl⟩:=id I.loc
 have hcls:(X.env.scope.kind == .class || (X.env.scope.kind == .module && X.env.locals != X.env.globals))=false:=by rw[I.ok.kind];rfl
 have hiσ:i < σ.length:=by rw[I.len];exact (bx.mp hi).1
 have cne:=I.cne
 have tracked:∀{a:Addr} {h':Heap},(∃o,s.heap.get? a=some o/\H a=none)->b0 a s.heap h'->HOk X.prog X.w H h':=fun {a h'} ha hs b ob e=>by
  obtain⟨_,_,hfree⟩:=ha;refine (I.hok b ob e).stay (fun c w' hc q=>(hs.2 c ?_).trans q) (fun _ q=>q) fun _ _ q=>q
  rintro rfl;rcases hc with rfl | hc
  ·rw[hfree]at e;cases e
  ·rw[hfree]at hc;cases hc
 rcases hx with hk | hk
 ·refine wpAny_storeName_local hk hn (fun h' hn' hs=>?_) hcls
  obtain⟨oL,_,_,hoL,_⟩:=id hn
  refine h _ ⟨I.ok,I.os,I.bare,⟨fun b o e n hb hx=>?_,fun b o e n hb hx=>?_,I.base.free,fun b o e hx=>?_,I.base.tups,I.base.frzs,I.base.tbls⟩,⟨_,hn',fun j y v' e1 e2 e3=>?_⟩,fun y c e=>?_,I.free,I.freeC,fun p hp=>?_,tracked ⟨oL,hoL,I.free⟩ hs,by simpa using I.len⟩ ⟨_,hs,.inl rfl⟩
  ·exact (hs.2 b (bp (bQ (aM e) I.ok.above))).trans (I.base.keep b o e n hb hx)
  ·obtain⟨sl,e1⟩:=I.base.slot b o e n hb hx
   exact⟨sl,(hs.2 b (bp (bQ (aM e) I.ok.above))).trans e1⟩
  ·obtain⟨o',e1⟩:=I.base.there b o e hx
   exact⟨o',(hs.2 b (bp (bQ (aM e) I.ok.above))).trans e1⟩
  ·by_cases hj:j=i
   ·subst hj
    rw[hi]at e1;cases e1
    rw[rO hiσ]at e2
    cases e2
    exact⟨u,r,.inl ⟨hk,by simp⟩⟩
   ·rw[rP (bH hj)]at e2
    obtain⟨u',r',q⟩:=hl j y v' e1 e2 e3
    refine⟨u',r',?_⟩
    rcases q with⟨k,e⟩ | ⟨k,c,e,z⟩
    ·refine .inl ⟨k,?_⟩
     have:y≠x:=fun e=>hj (jcK hN e1 (e ▸ hi))
     simp[this,e]
    ·exact .inr ⟨k,c,e,z.sameBut hs (cne y c e)⟩
  ·obtain⟨w',z⟩:=I.cell y c e
   exact⟨w',z.sameBut hs (cne y c e)⟩
  ·obtain⟨e,n,ne,nf,d⟩:=I.pin p hp
   exact⟨(hs.2 p.1 ne).trans e,n,ne,nf,d⟩
 ·have hfn:X.fn x=true:=by
   rcases hf with z | z
   ·exact z
   ·rw[z]at hk;cases hk
  obtain⟨c,hc⟩:=I.ok.has x (.inl hk);obtain⟨w',z⟩:=I.cell x c hc;refine wpAny_storeName_cell I.ok.kind hk hc z (fun h' hc' hs=>?_);obtain⟨oc,hoc,hocd⟩:=id z;refine h { s with heap:=h' } ⟨I.ok,I.os,I.bare,⟨fun b o e n hb hx=>?_,fun b o e n hb hx=>?_,I.base.free,fun b o e hx=>?_,I.base.tups,I.base.frzs,I.base.tbls⟩,⟨m,hn.sameBut hs (bH (cne x c hc)),fun j y v' e1 e2 e3=>?_⟩,fun y c' e=>?_,I.free,I.freeC,fun p hp=>?_,tracked ⟨oc,hoc,I.freeC x c hc⟩ hs,by simpa using I.len⟩ ⟨c,hs,.inr hc⟩
  ·exact (hs.2 b (bp (bQ (aM e) (I.ok.cab x c hfn hc)))).trans (I.base.keep b o e n hb hx)
  ·obtain⟨sl,e1⟩:=I.base.slot b o e n hb hx
   exact⟨sl,(hs.2 b (bp (bQ (aM e) (I.ok.cab x c hfn hc)))).trans e1⟩
  ·obtain⟨o',e1⟩:=I.base.there b o e hx
   exact⟨o',(hs.2 b (bp (bQ (aM e) (I.ok.cab x c hfn hc)))).trans e1⟩
  ·by_cases hj:j=i
   ·subst hj
    rw[hi]at e1;cases e1;rw[rO hiσ]at e2
    cases e2
    exact⟨u,r,.inr ⟨.inl hk,c,hc,hc'⟩⟩
   ·rw[rP (bH hj)]at e2
    obtain⟨u',r',q⟩:=hl j y v' e1 e2 e3;refine⟨u',r',?_⟩;rcases q with q | ⟨k,c',e,z'⟩
    ·exact .inl q
    ·refine .inr ⟨k,c',e,z'.sameBut hs ?_⟩
     rintro rfl;exact hj (jcK hN e1 (I.ok.inj _ _ _ e hc ▸ hi))
  ·by_cases hcc:c'=c
   ·subst hcc;exact⟨_,hc'⟩
   ·obtain⟨w2,z2⟩:=I.cell y c' e
    exact⟨w2,z2.sameBut hs hcc⟩
  ·obtain⟨e,n,ne,nf,d⟩:=I.pin p hp
   refine⟨(hs.2 p.1 ?_).trans e,n,ne,nf,d⟩;intro q;rw[q,hoc]at e;have q':oc=p.2:=bP e;exact d w' (by rw[← q'];exact hocd)
theorem jco{Q:Unit->Shared->Prop}(I:Inv X ac σ H s)(hN:X.N.Nodup)(hi:X.N[i]?=some x)(hx:Loc X.env.scope x)(r:RelV v u)
  (h:∀s',Inv X ac (σ.set i (some v)) H s'->Q () s') (hf:X.fn x=true∨X.env.scope.names.lookup x=some .local:=by first | exact .inl rfl | exact .inr rfl | assumption):wpAny M A (storeName X.env x u) Q E s:=
 jaF I hN hi hx r (fun s' I' _=>h s' I') hf
theorem Inv.call'(I:Inv X ac σ H s)(ho:s'.os=s.os)(u:Un (frs X.stack) ch H H' s.heap s'.heap)(hok:HOk X.prog X.w H' s'.heap)(hg:cZ s'.gens)
  (hch:∀b∈ch,(b∈X.ex∨X.s₀.heap.objs.size≤b)/\b≠X.env.locals/\(∀x c,X.env.cells.lookup x=some c->c≠b)/\∀p∈X.pn++ac,p.1≠b):Inv X ac σ H' s':=by
 obtain⟨h',g',d',t',o'⟩:=s'
 have e:o'=s.os:=ho
 subst e
 exact I.call (g':=g') (t':=t') (d':=d') u hok hg hch
end
abbrev XK:=Value->Option Addr->Hp->Prop
abbrev St:=List (Option V)
abbrev VK:=V->Hp->Prop
abbrev TE:=St->Hp->VK->Prop
abbrev TT:=St->Hp->(Bool->Hp->Prop)->Prop
abbrev TA:=St->Hp->(List V->Hp->Prop)->Prop
structure Ends where
 nx:St->Hp->Prop
 rt:VK
 bk:St->Hp->Prop:=fun _ _=>False
 ct:St->Hp->Prop:=fun _ _=>False
abbrev TS:=Ends->St->Hp->Prop
def EP(X:Cx)(ac:List (Addr×Obj))(σ:St)(Q:VK)(u:Value)(s':Shared):Prop:=∃v H',Inv X ac σ H' s'/\RelV v u/\Q v H'
def TP(X:Cx)(ac:List (Addr×Obj))(σ:St)(Q:Bool->Hp->Prop)(b:Bool)(s':Shared):Prop:=∃H',Inv X ac σ H' s'/\Q b H'
def AP(X:Cx)(ac:List (Addr×Obj))(σ:St)(Q:List V->Hp->Prop)(us:List Value)(s':Shared):Prop:=∃vs H',Inv X ac σ H' s'/\Vals vs us/\Q vs H'
def SP(X:Cx)(ac:List (Addr×Obj))(D:Ends)(f:Flow)(s':Shared):Prop:=
 match f with
 | .next=>∃σ' H',Inv X ac σ' H' s'/\D.nx σ' H'
 | .brk=>∃σ' H',Inv X ac σ' H' s'/\D.bk σ' H'
 | .cont=>∃σ' H',Inv X ac σ' H' s'/\D.ct σ' H'
 | .ret u=>∃v σ' H',Inv X ac σ' H' s'/\RelV v u/\D.rt v H'
def PE(X:Cx)(e:Expr)(t:TE):Prop:=
 ∀(ac:List (Addr×Obj)) (s:Shared) (σ:St) (H:Hp) (Q:VK),Inv X ac σ H s->t σ H Q->wpAny (model X.prog X.w) X.A (eval e X.env) (EP X ac σ Q) X.xe s
def PT(X:Cx)(e:Expr)(t:TT):Prop:=
 ∀(ac:List (Addr×Obj)) (s:Shared) (σ:St) (H:Hp) (Q:Bool->Hp->Prop),Inv X ac σ H s->t σ H Q->wpAny (model X.prog X.w) X.A (isTrue e X.env (eval e X.env)) (TP X ac σ Q) X.xe s
def PW(X:Cx)(e:Expr)(t:TT):Prop:=
 ∀(whole:Sem Value) (ac:List (Addr×Obj)) (s:Shared) (σ:St) (H:Hp) (Q:Bool->Hp->Prop),Inv X ac σ H s->t σ H Q->wpAny (model X.prog X.w) X.A (isTrue e X.env whole) (TP X ac σ Q) X.xe s
variable {e:Expr}
theorem PW.pt{t:TT}(h:PW X e t):PT X e t:=h _
def PA(X:Cx)(es:List Expr)(t:TA):Prop:=
 ∀(pos:Pos) (ac:List (Addr×Obj)) (s:Shared) (σ:St) (H:Hp) (Q:List V->Hp->Prop),Inv X ac σ H s->t σ H Q->wpAny (model X.prog X.w) X.A (spliced (bL pos (aK es X.env))) (AP X ac σ Q) X.xe s
def PS(X:Cx)(st:Stmt)(t:TS):Prop:=
 ∀(ac:List (Addr×Obj)) (s:Shared) (σ:St) (H:Hp) (D:Ends),Inv X ac σ H s->t D σ H->wpAny (model X.prog X.w) X.A (exec st X.env) (SP X ac D) X.xe s
def PSs(X:Cx)(st:List Stmt)(t:TS):Prop:=
 ∀(ac:List (Addr×Obj)) (s:Shared) (σ:St) (H:Hp) (D:Ends),Inv X ac σ H s->t D σ H->wpAny (model X.prog X.w) X.A (execs st X.env) (SP X ac D) X.xe s
theorem thn{α:Type}{t:Sem α}{Q Q':α->Shared->Prop}(h:wpAny M A t Q E s)(hQ:∀a s,Q a s->Q' a s):wpAny M A t Q' E s:=bU h hQ fun _ _ x=>x
variable {ta tb:TE}{pos:Pos}{Q:Value->Shared->Prop}{op:CmpOp}
section
theorem bin{a b:Expr}(ha:PE X a ta)(hb:PE X b tb){σ:St}{R:V->V->Hp->Prop}(I:Inv X ac σ H s)(h:ta σ H fun x H1=>tb σ H1 fun y H2=>R x y H2)
  {α:Type} {Q:α->Shared->Prop} {f:Value->Value->Sem α}
  (hf:∀v u s2 x y H2,Inv X ac σ H2 s2->RelV x v->RelV y u->R x y H2->wpAny (model X.prog X.w) X.A (f v u) Q X.xe s2) :
  wpAny (model X.prog X.w) X.A (eval a X.env) (fun v s₁=>wpAny (model X.prog X.w) X.A (eval b X.env) (fun u s₂=>wpAny (model X.prog X.w) X.A (f v u) Q X.xe s₂) X.xe s₁) X.xe s:=by
 refine thn (ha ac s σ H _ I h) fun v s1 ⟨x,H1,I1,r1,q1⟩=>?_
 refine thn (hb ac s1 σ H1 _ I1 q1) fun u s2 ⟨y,H2,I2,r2,q2⟩=>?_
 exact hf v u s2 x y H2 I2 r1 r2 q2
def jbk(i:Nat):TE:=fun σ H Q=>∃v,σ[i]?=some (some v)/\Q v H
def tC(v:V):TE:=fun _ H Q=>Q v H
theorem jlr(hN:X.N[i]?=some x)(hv:Vis X.env.scope x)(hd:(x == ("__debug__" : Str))=false:=by decide)(hcd:(x == ("__classdict__" : Str))=false:=by decide):PE X (.Name x pos) (jbk i):=by
 intro ac s σ H Q I h;obtain⟨v,e,h⟩:=h;obtain⟨m,hn,hl⟩:=I.loc;obtain⟨u,r,l⟩:=hl i x v hN e hv;have fin:EP X ac σ Q u s:=⟨v,H,I,r,h⟩
 rcases l with⟨hk,hm⟩ | ⟨hk,c,hc,hcell⟩
 ·exact lA (wpAny_loadName_local I.ok.kind hk hn hm fin) hd
 ·rcases hk with hk | hk
  ·exact lA (wpAny_loadName_cell I.ok.kind hk hc hcell fin) hd
  ·exact lA (wpAny_loadName_free I.ok.kind hk hc hcell fin hcd) hd
theorem kE{i j pos}:PE X (.Constant (.int i) j pos) (tC (.int i)):=fun _ _ _ H _ I h=>wpAny_Constant_int ⟨.int i,H,I.tok _,⟨_,rfl⟩,h⟩
theorem jkU{b j pos}:PE X (.Constant (.bool b) j pos) (tC (.bl b)):=fun _ _ _ H _ I h=>Constant_bool ⟨.bl b,H,I,rfl,h⟩
theorem jlt{x j pos}:PE X (.Constant (.str x) j pos) (tC (.str x)):=fun _ _ _ H _ I h=>Calls.Constant_str ⟨.str x,H,I.tok _,⟨_,rfl⟩,h⟩
def Gl(X:Cx)(x:Str):Prop:=X.env.kindOf x=some .globalImplicit
theorem YG{σ:St}(I:Inv X ac σ H s)(hg:Gl X x)(hm:X.mg x=some u)(h:Q u s)
  (hd:(x == ("__debug__" : Str))=false:=by decide):wpAny (model X.prog X.w) X.A (eval (.Name x pos) X.env) Q E s:=
 pF I.ok.kind hg (Calls.loadGlobal_global (by rw[I.ok.glob];exact I.mod.glob.keeps I.bk) hm h) hd
theorem jaf{σ:St}(I:Inv X ac σ H s)(hg:Gl X x)(hm:X.mg x=none)(hv:bu x=some u)(h:Q u s)
  (hn:x≠"__name__":=by decide) (hd:(x == ("__debug__" : Str))=false:=by decide):wpAny (model X.prog X.w) X.A (eval (.Name x pos) X.env) Q E s:=by
 obtain⟨mb,h1,h2⟩:=I.mod.blt
 exact pF I.ok.kind hg (Calls.loadGlobal_builtin (by rw[I.ok.glob];exact I.mod.glob.keeps I.bk) hm (by rw[I.ok.blt];exact h1.keeps I.bk) ((h2 x hn).trans hv) h) hd
theorem jjQ{x:Str}{v:V}{u:Value}{pos:Pos}(hg:Gl X x)(hm:X.mg x=some u)(r:RelV v u)(hd:(x == ("__debug__" : Str))=false:=by decide):PE X (.Name x pos) (tC v):=
 fun _ _ _ H _ I h=>YG I hg hm ⟨v,H,I,r,h⟩ hd
theorem Kw(hg:Gl X x)(hm:X.mg x=none)(hv:bu x=some u)(r:RelV v u)(hn:x≠"__name__":=by decide)(hd:(x == ("__debug__" : Str))=false:=by decide):PE X (.Name x pos) (tC v):=
 fun _ _ _ H _ I h=>jaf I hg hm hv ⟨v,H,I,r,h⟩ hn hd
variable {a b:Expr}
def PC(X:Cx)(op:CmpOp)(a b:Expr)(t:TE):Prop:=
 ∀(ac:List (Addr×Obj)) (s:Shared) (σ:St) (H:Hp) (Q:VK),Inv X ac σ H s->t σ H Q->
  wpAny (model X.prog X.w) X.A (eval a X.env) (fun v s₁=>wpAny (model X.prog X.w) X.A (eval b X.env) (fun u s₂=>wpAny (model X.prog X.w) X.A (bK op v u) (EP X ac σ Q) X.xe s₂) X.xe s₁) X.xe s
theorem jig(b:Expr)(h:op≠.In)(h2:op≠.NotIn):dA op b=false:=by
 have e1:(op == CmpOp.In)=false:=by cases op <;> first | rfl | exact absurd rfl h
 have e2:(op == CmpOp.NotIn)=false:=by cases op <;> first | rfl | exact absurd rfl h2
 cases b <;> simp[dA,e1,e2]
def tB(t:TE):TT:=fun σ H Q=>t σ H fun x H1=>∃c,x=.bl c/\Q c H1
theorem jmY{t:TE}(h:PC X op a b t)(h1:dA op b=false:=by first | exact jig _ (by decide) (by decide) | rfl):PT X (.Compare a [op] [b] pos) (tB t):=by
 intro ac s σ H Q I hw;refine nj (thn (h ac s σ H _ I hw) fun v s1 h1=>thn h1 fun u s2 h2=>thn h2 fun c s3 ⟨x,H1,I1,r1,q1⟩=>?_) h1;obtain⟨d,rfl,q⟩:=q1
 cases r1
 exact dZ ⟨H1,I1,q⟩
theorem jby{t:TE}(h:PE X e t)(he:∀whole,isTrue e X.env whole=(do let v ← whole;gn e.pos;holding [v] (truthy v)):=by intro _;rfl):PT X e (tB t):=by
 intro ac s σ H Q I hw;refine isTrue_plain (thn (h ac s σ H _ I hw) fun v s1 ⟨x,H1,I1,r1,q1⟩=>?_) (he _);obtain⟨d,rfl,q⟩:=q1
 cases r1
 exact dZ ⟨H1,I1,q⟩
variable {tA tB':TT}{qW:List Expr}
def jml(t u:TT):TT:=fun σ H Q=>t σ H fun c H1=>if c=true then u σ H1 Q else Q false H1
def tOr(t u:TT):TT:=fun σ H Q=>t σ H fun c H1=>if c=true then Q true H1 else u σ H1 Q
def jmf(t:TT):TT:=fun σ H Q=>t σ H fun c H1=>Q (!c) H1
theorem jeR(ha:PT X a tA):PW X (.BoolOp .And [a] pos) tA:=by
 intro wh ac s σ H Q I h;refine isTrue_and (thn (ha ac s σ H Q I h) fun c s1 e=>?_)
 cases c with
 | true=>exact isTrue_and_nil e
 | false=>exact e
theorem jhj(ha:PT X a tA):PW X (.BoolOp .Or [a] pos) tA:=by
 intro wh ac s σ H Q I h;refine isTrue_or (thn (ha ac s σ H Q I h) fun c s1 e=>?_)
 cases c with
 | false=>exact isTrue_or_nil e
 | true=>exact e
theorem jhk(ha:PT X a tA)(hb:PW X (.BoolOp .And (b :: qW) pos) tB'):PW X (.BoolOp .And (a :: b :: qW) pos) (jml tA tB'):=by
 intro wh ac s σ H Q I h;refine isTrue_and (thn (ha ac s σ H _ I h) fun c s1 ⟨H1,I1,q1⟩=>?_)
 cases c with
 | true=>exact hb wh ac s1 σ H1 Q I1 q1
 | false=>exact⟨H1,I1,q1⟩
theorem jkR(ha:PT X a tA)(hb:PW X (.BoolOp .Or (b :: qW) pos) tB'):PW X (.BoolOp .Or (a :: b :: qW) pos) (tOr tA tB'):=by
 intro wh ac s σ H Q I h;refine isTrue_or (thn (ha ac s σ H _ I h) fun c s1 ⟨H1,I1,q1⟩=>?_)
 cases c with
 | true=>exact⟨H1,I1,q1⟩
 | false=>exact hb wh ac s1 σ H1 Q I1 q1
theorem jho(ha:PT X a tA):PT X (.UnaryOp .Not a pos) (jmf tA):=by
 intro ac s σ H Q I h;exact isTrue_not (ha ac s σ H (fun c H1=>Q (!c) H1) I h)
def jg2(ta tb:TE):TE:=fun σ H Q=>ta σ H fun x H1=>∃c,x=.bl c/\if c=true then tb σ H1 Q else Q (.bl false) H1
def jme(ta tb:TE):TE:=fun σ H Q=>ta σ H fun x H1=>∃c,x=.bl c/\if c=true then Q (.bl true) H1 else tb σ H1 Q
def jkG(ta:TE):TE:=fun σ H Q=>ta σ H fun x H1=>∃c,x=.bl c/\Q (.bl (!c)) H1
theorem jdJ{op}{t:TE}(h:PE X a t):PE X (.BoolOp op [a] pos) t:=fun ac s σ H Q I hw=>BoolOp_one (h ac s σ H Q I hw)
theorem jbF(ha:PE X a ta)(hb:PE X (.BoolOp .And (b :: qW) pos) tb):PE X (.BoolOp .And (a :: b :: qW) pos) (jg2 ta tb):=by
 intro ac s σ H Q I h;refine BoolOp_and (thn (ha ac s σ H _ I h) fun v s1 ⟨x,H1,I1,r1,q1⟩=>?_);obtain⟨c,rfl,q1⟩:=q1
 cases r1
 refine dZ ?_
 cases c with
 | true=>exact hb ac s1 σ H1 Q I1 q1
 | false=>exact⟨.bl false,H1,I1,rfl,q1⟩
theorem jmv(ha:PE X a ta)(hb:PE X (.BoolOp .Or (b :: qW) pos) tb):PE X (.BoolOp .Or (a :: b :: qW) pos) (jme ta tb):=by
 intro ac s σ H Q I h;refine BoolOp_or (thn (ha ac s σ H _ I h) fun v s1 ⟨x,H1,I1,r1,q1⟩=>?_);obtain⟨c,rfl,q1⟩:=q1
 cases r1
 refine dZ ?_
 cases c with
 | false=>exact hb ac s1 σ H1 Q I1 q1
 | true=>exact⟨.bl true,H1,I1,rfl,q1⟩
theorem jhC(ha:PE X a ta):PE X (.UnaryOp .Not a pos) (jkG ta):=by
 intro ac s σ H Q I h;refine UnaryOp_ (thn (ha ac s σ H _ I h) fun v s1 ⟨x,H1,I1,r1,q1⟩=>?_);obtain⟨c,rfl,q1⟩:=q1
 cases r1
 exact not_of (dZ ⟨.bl (!c),H1,I1,rfl,q1⟩)
end
def SqL(K:ah)(H:Hp)(a:Addr)(xs:List V):Prop:=
 Rd H a (.lst xs)∨
  ∃(o:Obj) (its:Array Value) (n:Nat),K.lookup a=some o/\o.cls=.type "list"/\o.dict=none/\o.data=.seq its n/\its.size≤au/\Vals xs its.toList
def SqT(K:ah)(H:Hp)(a:Addr)(xs:List V):Prop:=
 Rd H a (.tup xs)∨
  ∃(o:Obj) (its:Array Value) (n:Nat),K.lookup a=some o/\o.cls=.type "tuple"/\o.data=.seq its n/\its.size≤au/\Vals xs its.toList
def jm4:Value->Option V
 | .none=>some .non
 | .bool b=>some (.bl b)
 | .int i _=>some (.int i)
 | .str x _=>some (.str x)
 | .bytes b _=>some (.byt b)
 | .float b _=>some (.flt b)
 | .ref a=>some (.ref a)
 | .type n=>some (.ty n)
 | _=>none
theorem RelV.abs{x:V}(r:RelV x u):jm4 u=some x:=by
 cases x with
 | non=>cases r;rfl
 | bl _=>cases r;rfl
 | int _=>obtain⟨t,rfl⟩:=r;rfl
 | str _=>obtain⟨t,rfl⟩:=r;rfl
 | byt _=>obtain⟨t,rfl⟩:=r;rfl
 | flt _=>obtain⟨t,rfl⟩:=r;rfl
 | ref _=>cases r;rfl
 | ty _=>cases r;rfl
variable {y:V}
theorem RelV.inj{x:V}(r:RelV x u)(q:RelV y u):x=y:=bP (r.abs.symm.trans q.abs)
theorem Vals.inj:∀{xs ys:List V} {us:List Value},Vals xs us->Vals ys us->xs=ys
 | _,_,_,.nil,.nil=>rfl
 | _,_,_,.cons r t,.cons r' t'=>by rw[r.inj r',Vals.inj t t']
variable {K:ah}
section
variable {σ:St}{ys:List V}
theorem SqL.of(h:H a=some (.lst xs)):SqL K H a xs:=.inl (.inl h)
theorem SqT.of(h:H a=some (.tup xs)):SqT K H a xs:=.inl (.inl h)
theorem Inv.list(I:Inv X ac σ H s)(h:SqL X.K H a xs):∃its:List Value,Vals xs its/\PlainL s.heap a its.toArray/\xs.length≤au:=by
 rcases h with h | ⟨o,its,n,hk,hc,hd,hs,hz,r⟩
 ·obtain⟨z,its,n,r,e⟩:=h.ok I.hok
  exact⟨its,r,⟨_,n,e,rfl,rfl,rfl⟩,z⟩
 ·refine⟨its.toList,r,⟨o,n,I.kIn a o hk,hc,hd,by simpa using hs⟩,?_⟩
  have e:=r.length;simp only[gg]at e;omega
theorem Inv.tuple(I:Inv X ac σ H s)(h:SqT X.K H a xs):∃its:List Value,Vals xs its/\IsTup s.heap a its.toArray/\xs.length≤au:=by
 rcases h with h | ⟨o,its,n,hk,hc,hs,hz,r⟩
 ·obtain⟨z,its,r,p⟩:=h.ok I.hok
  exact⟨its,r,p,z⟩
 ·refine⟨its.toList,r,⟨o,I.kIn a o hk,hc,n,by simpa using hs⟩,?_⟩
  have e:=r.length;simp only[gg]at e;omega
theorem Inv.list_inj(I:Inv X ac σ H s)(h:SqL X.K H a xs)(h':SqL X.K H a ys):xs=ys:=by
 obtain⟨its,r,⟨o,n,e,_,_,d⟩,_⟩:=I.list h;obtain⟨its',r',⟨o',n',e',_,_,d'⟩,_⟩:=I.list h';rw[e]at e';cases e';rw[d]at d';injection d' with d1 _;have:its=its':=by simpa using congrArg sv d1
 subst this;exact r.inj r'
theorem Inv.tuple_inj(I:Inv X ac σ H s)(h:SqT X.K H a xs)(h':SqT X.K H a ys):xs=ys:=by
 obtain⟨its,r,⟨o,e,_,n,d⟩,_⟩:=I.tuple h;obtain⟨its',r',⟨o',e',_,n',d'⟩,_⟩:=I.tuple h';rw[e]at e';cases e';rw[d]at d';injection d' with d1 _;have:its=its':=by simpa using congrArg sv d1
 subst this;exact r.inj r'
end
abbrev Cx.wish(X:Cx)(E:Value->Shared->Prop):Cx:={ X with xe:=E }
abbrev Cx.nox(X:Cx):Cx:=X.wish fun _ _=>False
theorem Cx.Ok.wish(ok:X.Ok)(E:Value->Shared->Prop):(X.wish E).Ok:=
 ⟨ok.mod,ok.kind,ok.glob,ok.blt,ok.above,ok.inj,ok.has,ok.cab,ok.hd,ok.frames,ok.stk,ok.exf,ok.bs,ok.bsz,ok.noex,ok.exfs,ok.funs,ok.frf⟩
theorem Cx.Ok.unwish(ok:(X.wish E).Ok):X.Ok:=
 ⟨ok.mod,ok.kind,ok.glob,ok.blt,ok.above,ok.inj,ok.has,ok.cab,ok.hd,ok.frames,ok.stk,ok.exf,ok.bs,ok.bsz,ok.noex,ok.exfs,ok.funs,ok.frf⟩
section
variable {σ:St}
theorem Inv.wish(I:Inv X ac σ H s)(E:Value->Shared->Prop):Inv (X.wish E) ac σ H s:=⟨I.ok.wish E,I.os,I.bare,I.base,I.loc,I.cell,I.free,I.freeC,I.pin,I.hok,I.len⟩
theorem Inv.unwish(I:Inv (X.wish E) ac σ H s):Inv X ac σ H s:=⟨I.ok.unwish,I.os,I.bare,I.base,I.loc,I.cell,I.free,I.freeC,I.pin,I.hok,I.len⟩
theorem SP.unwish{D:Ends}{f:Flow}(h:SP (X.wish E) ac D f s'):SP X ac D f s':=by
 cases f with
 | next=>obtain⟨σ',H',I,q⟩:=h;exact⟨σ',H',I.unwish,q⟩
 | brk=>obtain⟨σ',H',I,q⟩:=h;exact⟨σ',H',I.unwish,q⟩
 | cont=>obtain⟨σ',H',I,q⟩:=h;exact⟨σ',H',I.unwish,q⟩
 | ret u=>obtain⟨v,σ',H',I,r,q⟩:=h;exact⟨v,σ',H',I.unwish,r,q⟩
theorem PSs.nox{st:List Stmt}{t:TS}(h:PSs X.nox st t):PSs X st t:=fun ac s σ H D I hw=>
 bU (h ac s σ H D (I.wish _) hw) (fun _ _ q=>q.unwish) fun _ _ z=>cj z
end
section
variable {st:Stmt}{qW:List Stmt}{t u:TS}{te:TE}
def yo:TS:=fun D σ H=>D.nx σ H
def jZ(t u:TS):TS:=fun D σ H=>t { D with nx:=u D } σ H
theorem yL:PSs X [] yo:=fun _ _ σ H _ I h=>iA ⟨σ,H,I,h⟩
theorem qa(h1:PS X st t)(h2:PSs X qW u):PSs X (st :: qW) (jZ t u):=by
 intro ac s σ H D I h;refine nk (thn (h1 ac s σ H { D with nx:=u D } I h) fun f s1 q=>?_)
 cases f with
 | next=>
  obtain⟨σ',H',I',q⟩:=q;exact h2 ac s1 σ' H' D I' q
 | ret v=>exact q
 | brk=>exact q
 | cont=>exact q
theorem q8(h1:PS X st t):PSs X [st] t:=by
 intro ac s σ H D I h;refine nk (thn (h1 ac s σ H D I h) fun f s1 q=>?_)
 cases f with
 | next=>exact iA q
 | ret v=>exact q
 | brk=>exact q
 | cont=>exact q
theorem Inv.quiet{σ:St}(I:Inv X ac σ H s):interactive X.env=false:=by simp[interactive,I.ok.kind]
def ZL(te:TE):TS:=fun D σ H=>te σ H fun _ H1=>D.nx σ H1
theorem jjE(he:PE X e te)(hs:cX e none pos.line X.env=pure false:=by rfl):PS X (.Expr e pos) (ZL te):=by
 intro ac s σ H D I h;exact wpAny_Expr_any (thn (he ac s σ H _ I h) fun v s1 ⟨x,H1,I1,r1,q1⟩=>⟨σ,H1,I1,q1⟩) I.quiet hs
def jk7(te:TE):TS:=fun D σ H=>te σ H D.rt
theorem yy(he:PE X e te):PS X (.Return (some e) pos) (jk7 te):=by
 intro ac s σ H D I h;exact wpAny_Return_some (thn (he ac s σ H _ I h) fun v s1 ⟨x,H1,I1,r1,q1⟩=>⟨x,σ,H1,I1,r1,q1⟩)
def jdp(c:TT)(t u:TS):TS:=fun D σ H=>c σ H fun b H1=>if b=true then t D σ H1 else u D σ H1
theorem Ze{c:Expr}{a b:List Stmt}{tc:TT}(hc:PT X c tc)(ha:PSs X a t)(hb:PSs X b u):PS X (.If c a b pos) (jdp tc t u):=by
 intro ac s σ H D I h;refine wpAny_If (thn (hc ac s σ H _ I h) fun d s1 ⟨H1,I1,q1⟩=>?_)
 cases d with
 | true=>exact ha ac s1 σ H1 D I1 q1
 | false=>exact hb ac s1 σ H1 D I1 q1
def jg1:TS:=fun _ _ _=>False
theorem jhq:PS X st jg1:=fun _ _ _ _ _ _ h=>h.elim
end
abbrev TG:=V->St->Hp->(St->Hp->Prop)->Prop
abbrev TGs:=List V->St->Hp->(St->Hp->Prop)->Prop
def PG(X:Cx)(target:Expr)(t:TG):Prop:=
 ∀(ac:List (Addr×Obj)) (s:Shared) (σ:St) (H:Hp) (v:V) (u:Value) (Q:St->Hp->Prop),Inv X ac σ H s->RelV v u->t v σ H Q->
  wpAny (model X.prog X.w) X.A (assign target X.env u) (fun _ s'=>∃σ' H',Inv X ac σ' H' s'/\Q σ' H') X.xe s
def PGs(X:Cx)(ts:List Expr)(t:TGs):Prop:=
 ∀(ac:List (Addr×Obj)) (s:Shared) (σ:St) (H:Hp) (vs:List V) (us:List Value) (Q:St->Hp->Prop),Inv X ac σ H s->Vals vs us->t vs σ H Q->
  wpAny (model X.prog X.w) X.A (assignInOrder ((cH ts X.env).map (·.2)) us) (fun _ s'=>∃σ' H',Inv X ac σ' H' s'/\Q σ' H') X.xe s
abbrev jl9:=V->V->V->Hp->(Hp->Prop)->Prop
def jmR(X:Cx)(t:jl9):Prop:=
 ∀(ac:List (Addr×Obj)) (s:Shared) (σ:St) (H:Hp) (o i v:V) (ov iv u:Value) (Q:Hp->Prop),Inv X ac σ H s->RelV o ov->RelV i iv->RelV v u->t o i v H Q->
  wpAny (model X.prog X.w) X.A (setItem ov iv u) (fun _ s'=>∃H',Inv X ac σ H' s'/\Q H') X.xe s
section
def qA(i:Nat):TG:=fun v σ H Q=>Q (σ.set i (some v)) H
theorem jeY{i:Nat}{x:Str}(hN:X.N.Nodup)(hi:X.N[i]?=some x)(hx:Loc X.env.scope x)(hf:X.fn x=true∨X.env.scope.names.lookup x=some .local:=by first | exact .inl rfl | exact .inr rfl | assumption):PG X (.Name x pos) (qA i):=by
 intro ac s σ H v u Q I r h;exact nu (jco I hN hi hx r (fun s' I'=>⟨_,H,I',h⟩) hf)
def jmK:TGs:=fun vs σ H Q=>vs=[]/\Q σ H
def jk2(t:TG)(u:TGs):TGs:=fun vs σ H Q=>∃v r,vs=v :: r/\t v σ H fun σ' H'=>u r σ' H' Q
theorem jjM:PGs X [] jmK:=by
 intro ac s σ H vs us Q I r h;obtain⟨e,h⟩:=h;subst e
 cases r
 exact assignInOrder_nil ⟨σ,H,I,h⟩
theorem jhz{e:Expr}{es:List Expr}{t:TG}{u:TGs}(h1:PG X e t)(h2:PGs X es u)
  (hs:(cH (e :: es) X.env).map (·.2)=assign e X.env :: (cH es X.env).map (·.2):=by rfl):PGs X (e :: es) (jk2 t u):=by
 intro ac s σ H vs us Q I r h
 obtain⟨v,vr,e1,h⟩:=h
 subst e1
 cases r with
 | cons r rr=>
  rw[hs]
  refine assignInOrder_cons (thn (h1 ac s σ H _ _ _ I r h) fun _ s1 ⟨σ1,H1,I1,q1⟩=>?_)
  exact h2 ac s1 σ1 H1 _ _ Q I1 rr q1
def jmJ(K:ah)(n:Nat)(t:TGs):TG:=fun v σ H Q=>∃a xs,v=.ref a/\SqT K H a xs/\xs.length=n/\t xs σ H Q
theorem jlq{es:List Expr}{k:Nat}{t:TGs}{n:Nat}(hc:X.calm=true)(h:PGs X es t)
  (hn:(cH es X.env).length=n:=by rfl) (hst:(cH es X.env).findIdx? (·.1)=none:=by rfl):PG X (.Tuple es k pos) (jmJ X.K n t):=by
 intro ac s σ H v u Q I r hw
 obtain⟨a,xs,e1,hq,hl,hw⟩:=hw
 subst e1
 cases r
 obtain⟨its,rv,ht,hz⟩:=I.tuple hq
 refine assign_Tuple_tuple (I.ok.hd hc) ht (by simp[hn,← hl,rv.length]) hst fun h' hx=>?_
 have I1:Inv X ac σ H { s with heap:=h' }:=I.kept (t':=s.toks) fun b o e=>hx b o (bp (aM e)) e
 exact h ac _ σ H xs _ Q I1 (by simpa using rv) hw
def jm2(to ti:TE)(t:jl9):TG:=fun v σ H Q=>to σ H fun o H1=>ti σ H1 fun i H2=>t o i v H2 fun H3=>Q σ H3
theorem jhA{o i:Expr}{to ti:TE}{t:jl9}(ho:PE X o to)(hi:PE X i ti)(hs:jmR X t)
  (ha:∀v,assign (.Subscript o i pos) X.env v=(do
   let ov ← holding [v] (eval o X.env)
   let iv ← holding [v,ov] (eval i X.env)
   gn pos
   holding [v,ov,iv] (setItem ov iv v)
   release [v,ov,iv] []):=by intro _;rfl):PG X (.Subscript o i pos) (jm2 to ti t):=by
 intro ac s σ H v u Q I r h
 rw[ha]
 refine az (fR (thn (ho ac s σ H _ I h) fun ov s1 ⟨x,H1,I1,r1,q1⟩=>?_))
 refine az (fR (thn (hi ac s1 σ H1 _ I1 q1) fun iv s2 ⟨y,H2,I2,r2,q2⟩=>?_))
 refine az (iz (az (fR (thn (hs ac s2 σ H2 x y v ov iv u _ I2 r1 r2 r q2) fun _ s3 ⟨H3,I3,q3⟩=>?_))))
 exact wpAny_release ⟨σ,H3,I3,q3⟩
def jfM(te:TE)(g:TG):TS:=fun D σ H=>te σ H fun x H1=>g x σ H1 D.nx
theorem jdG{tg e:Expr}{te:TE}{g:TG}(he:PE X e te)(hg:PG X tg g)(hs:swapsWithSole [tg] e pos.line X.env=pure false:=by rfl)(hw:swappedStores [tg] e X.env=pure none:=by rfl)
  (h1:(cH [tg] X.env).map (·.2)=[assign tg X.env]:=by rfl):PS X (.Assign [tg] e pos) (jfM te g):=by
 intro ac s σ H D I h
 refine wpAny_Assign_stores (thn (he ac s σ H _ I h) fun v s1 ⟨x,H1,I1,r1,q1⟩=>?_) hs hw
 rw[h1]
 exact thn (hg ac s1 σ H1 x v _ I1 r1 q1) fun _ s2 q=>q
theorem yS{i:Nat}{x:Str}{e:Expr}{te:TE}{pos':Pos}(hN:X.N.Nodup)(hi:X.N[i]?=some x)(hx:Loc X.env.scope x)(he:PE X e te)(hs:cX e (some (.Name x pos')) pos.line X.env=pure false:=by rfl)(hf:X.fn x=true∨X.env.scope.names.lookup x=some .local:=by first | exact .inl rfl | exact .inr rfl | assumption):
  PS X (.Assign [.Name x pos'] e pos) (jfM te (qA i)):=by
 intro ac s σ H D I h
 refine wpAny_Assign_Name (thn (he ac s σ H _ I h) fun v s1 ⟨y,H1,I1,r1,q1⟩=>?_) hs
 exact jco I1 hN hi hx r1 (fun s2 I2=>⟨_,H1,I2,q1⟩) hf
def jdn(c:TT)(tb:TS):TS:=fun D σ H=>∃W:Nat->St->Hp->Prop,(∃m,W m σ H)/\∀m σ H,W m σ H->
 c σ H fun b H1=>if b=true then ∃N:St->Hp->Prop,(∀σ' H',N σ' H'->∃m',m' < m/\W m' σ' H')/\tb { D with nx:=N,ct:=N,bk:=D.nx } σ H1 else D.nx σ H1
theorem jhp{c:Expr}{body:List Stmt}{tc:TT}{tb:TS}(hp:fZ (model X.prog X.w) X.A X.env X.xe)(hc:PT X c tc)(hb:PSs X body tb):PS X (.While c body [] pos) (jdn tc tb):=by
 intro ac s σ H D I h;obtain⟨W,⟨m0,w0⟩,turn⟩:=h;refine wpAny_While (codeAny_whileLoop (fun n s'=>∃σ' H',Inv X ac σ' H' s'/\W n σ' H') ?_ m0 ⟨σ,H,I,w0⟩);rintro n s1 ⟨σ1,H1,I1,w1⟩;refine e_ hp (thn (hc ac s1 σ1 H1 _ I1 (turn n σ1 H1 w1)) fun b s2 ⟨H2,I2,q2⟩=>?_)
 cases b with
 | true=>
  obtain⟨N,hN,q2⟩:=q2;rw[if_pos rfl];refine e_ hp (thn (hb ac s2 σ1 H2 _ I2 q2) fun f s3 q3=>?_)
  cases f with
  | next=>
   obtain⟨σ3,H3,I3,n3⟩:=q3;obtain⟨m',hm,w3⟩:=hN σ3 H3 n3;exact⟨m',hm,σ3,H3,I3,w3⟩
  | cont=>
   obtain⟨σ3,H3,I3,n3⟩:=q3;obtain⟨m',hm,w3⟩:=hN σ3 H3 n3;exact⟨m',hm,σ3,H3,I3,w3⟩
  | brk=>exact q3
  | ret v=>exact q3
 | false=>
  rw[if_neg aI];exact iA ⟨σ1,H2,I2,q2⟩
end
structure It where
 go:Nat->Hp->Prop
 yld:Nat->Hp->V->Hp->Prop
 stop:Nat->Hp->Prop
def Zq(X:Cx)(ac:List (Addr×Obj))(H:Hp)(b:Addr):Prop:=
 H b=none/\b≠X.env.locals/\b ∉ X.fs/\(b∈X.ex∨X.s₀.heap.objs.size≤b)/\(∀x c,X.env.cells.lookup x=some c->c≠b)/\∀p∈X.pn++ac,p.1≠b
theorem Inv.fpOk{σ:St}(I:Inv X ac σ H s)(hb:s.heap.objs.size≤b)(hn:H' b=none):Zq X ac H' b:=by
 refine⟨hn,iZ (bQ I.lt hb),I.nofs hb,.inr (ad I.sz hb),fun x c e z=>?_,fun p hp z=>?_⟩
 ·obtain⟨v,q⟩:=I.cell x c e
  exact absurd (bQ q.lt (by rw[z];exact hb)) (fG _)
 ·exact absurd (bQ (aM (I.pin p hp).1) (by rw[z];exact hb)) (fG _)
structure Turn(P:Program)(w:World)(K:ah)(tg:Expr)(J:It)(fp:List Addr)(it:Addr)(tn:Nat->Heap->Prop):Prop where
 mem:it∈fp
 obj:∀i h,tn i h->∀b∈fp,∃o,h.get? b=some o/\∀v,o.data≠.cell v
 keep:∀i h h',tn i h->(∀b∈fp,∀o,h.get? b=some o->h'.get? b=some o)->tn i h'
 item:∀(X:Cx),X.prog=P->X.w=w->X.K=K->X.calm=true->∀(i:Nat) (ac:List (Addr×Obj)) (s:Shared) (σ:St) (H:Hp) (E:Value->Shared->Prop),Inv X ac σ H s->(∀b∈fp,Zq X ac H b)->tn i s.heap->J.go i H->
  wpAny (model P w) X.A (fg (.ref it)) (fun r s1=>∃u,r=some u/\
   wpAny (model P w) X.A (iC tg (.ref it) u) (fun _ s2=>∃x H',Inv X ac σ H' s2/\RelV x u/\J.yld i H x H'/\tn (i+1) s2.heap/\∀b∈fp,H' b=none) E s1) E s
 done:∀(X:Cx),X.prog=P->X.w=w->X.K=K->X.calm=true->∀(i:Nat) (ac:List (Addr×Obj)) (s:Shared) (σ:St) (H:Hp) (E:Value->Shared->Prop),Inv X ac σ H s->(∀b∈fp,Zq X ac H b)->tn i s.heap->J.stop i H->
  wpAny (model P w) X.A (fg (.ref it)) (fun r s1=>r=none/\Inv X ac σ H s1) E s
 self:∀(A:Around) (i:Nat) (s:Shared) (Q:Value->Shared->Prop) (E:Value->Shared->Prop),tn i s.heap->Q (.ref it) s->wpAny (model P w) A (pyIter (.ref it)) Q E s
abbrev TI:=St->Hp->(It->Hp->Prop)->Prop
def PIE(X:Cx)(ac:List (Addr×Obj))(σ:St)(tg:Expr)(R:It->Hp->Prop)(itv:Value)(s2:Shared):Prop:=
 ∃(it:Addr) (fp:List Addr) (tn:Nat->Heap->Prop) (J:It) (H':Hp),itv=.ref it/\Inv X ac σ H' s2/\Turn X.prog X.w X.K tg J fp it tn/\tn 0 s2.heap/\(∀b∈fp,Zq X ac H' b)/\R J H'
def PI(X:Cx)(tg iter:Expr)(wi:TI):Prop:=
 ∀(ac:List (Addr×Obj)) (s:Shared) (σ:St) (H:Hp) (R:It->Hp->Prop),Inv X ac σ H s->wi σ H R->
  wpAny (model X.prog X.w) X.A (eval iter X.env) (fun v s1=>wpAny (model X.prog X.w) X.A (pyIter v) (PIE X ac σ tg R) X.xe s1) X.xe s
variable {tg:Expr}
theorem jiG{it:Addr}{o:Obj}{n:String}{vs:Array Value}{Q:Unit->Shared->Prop}(ho:s.heap.get? it=some o)(hc:o.cls=.type n)(hd:o.data=.fields vs)
  (hn:["enumerate","zip","dict_itemiterator","dict_reverseitemiterator","odict_iterator","itertools.zip_longest","itertools.pairwise"].contains n=false) (hQ:Q () s):wpAny M A (iC tg (.ref it) u) Q E s:=by
 unfold iC
 cases tg <;> first
  | exact aL hQ
  | (cases u <;> first
    | exact aL hQ
    | (refine az (wpAny_load ho ?_)
       rw[hc,hd]
       show wpAny M A (if (["enumerate","zip","dict_itemiterator","dict_reverseitemiterator","odict_iterator","itertools.zip_longest","itertools.pairwise"].contains n && vs[0]? == some (fU _))=true then _ else _) Q E s
       rw[if_neg (by intro h;rw[hn,sr]at h;cases h)]
       exact aL hQ))
def Itl(K:ah)(a:Addr):It:=
 ⟨fun i H=>∃xs x,SqL K H a xs/\xs[i]?=some x,fun i H x H'=>H'=H/\∀xs,SqL K H a xs->xs[i]?=some x,fun i H=>∃xs,SqL K H a xs/\xs.length≤i⟩
def Itt(K:ah)(a:Addr):It:=
 ⟨fun i H=>∃xs x,SqT K H a xs/\xs[i]?=some x,fun i H x H'=>H'=H/\∀xs,SqT K H a xs->xs[i]?=some x,fun i H=>∃xs,SqT K H a xs/\xs.length≤i⟩
def Itr(lo:Int)(n:Nat):It:=⟨fun i _=>i < n,fun i H x H'=>H'=H/\x=.int (lo+i),fun i _=>n≤i⟩
theorem jfJ(a it:Addr):Turn P w K tg (Itl K a) [it] it (fun i h=>h.IsListIter it a i) where
 mem:=by simp
 obj:=fun i h st b hb=>by
  have e:b=it:=by simpa using hb
  subst e;obtain⟨o,e,c,d⟩:=st;exact⟨o,e,fun v z=>by rw[d]at z;cases z⟩
 keep:=fun i h h' st k=>st.at fun o e=>k it (by simp) o e
 item:=by
  intro X hP hw hK hc i ac s σ H E I hf st hg;subst hP hw hK;obtain⟨xs,x,hq,hx⟩:=hg;obtain⟨its,rv,p,hz⟩:=I.list hq;obtain⟨u,hu,ru⟩:=rv.get hx;obtain⟨f0,f1,f2,f3,f4,f5⟩:=hf it (by simp);refine wpAny_pyNext_list_item st p.isList (x:=u) (by simpa using hu) fun h' st' sb=>?_
  have I1:Inv X ac σ H { s with heap:=h' }:=I.turned (t':=s.toks) (fun b o hb e=>(sb.2 b hb).trans e) f0 f1 f3 f4 f5;obtain⟨o,e,c,d⟩:=id st';exact⟨u,rfl,jiG (s:={ s with heap:=h' }) e c d (by decide) ⟨x,H,I1,ru,⟨rfl,fun ys hy=>by rw[I.list_inj hy hq];exact hx⟩,st',fun b hb=>(hf b hb).1⟩⟩
 done:=by
  intro X hP hw hK hc i ac s σ H E I hf st hg;subst hP hw hK;obtain⟨xs,hq,hx⟩:=hg;obtain⟨its,rv,p,hz⟩:=I.list hq;obtain⟨f0,f1,f2,f3,f4,f5⟩:=hf it (by simp);have hl:=rv.length;exact wpAny_pyNext_list_end (I.ok.hd hc) st p.isList (by simp;omega) fun h' eb=>⟨rfl,I.turned (t':=s.toks) (fun b o hb e=>eb b o hb e) f0 f1 f3 f4 f5⟩
 self:=fun _ _ _ _ _ st h=>wpAny_pyIter_listiter st h
theorem jdk(a it:Addr):Turn P w K tg (Itt K a) [it] it (fun i h=>h.IsTupleIter it a i) where
 mem:=by simp
 obj:=fun i h st b hb=>by
  have e:b=it:=by simpa using hb
  subst e;obtain⟨o,e,c,d⟩:=st;exact⟨o,e,fun v z=>by rw[d]at z;cases z⟩
 keep:=fun i h h' st k=>st.at fun o e=>k it (by simp) o e
 item:=by
  intro X hP hw hK hc i ac s σ H E I hf st hg;subst hP hw hK;obtain⟨xs,x,hq,hx⟩:=hg;obtain⟨its,rv,p,hz⟩:=I.tuple hq;obtain⟨u,hu,ru⟩:=rv.get hx;obtain⟨f0,f1,f2,f3,f4,f5⟩:=hf it (by simp);refine wpAny_pyNext_tuple_item st (show s.heap.IsTuple a its.toArray from p) (x:=u) (by simpa using hu) fun h' st' sb=>?_
  have I1:Inv X ac σ H { s with heap:=h' }:=I.turned (t':=s.toks) (fun b o hb e=>(sb.2 b hb).trans e) f0 f1 f3 f4 f5;obtain⟨o,e,c,d⟩:=id st';exact⟨u,rfl,jiG (s:={ s with heap:=h' }) e c d (by decide) ⟨x,H,I1,ru,⟨rfl,fun ys hy=>by rw[I.tuple_inj hy hq];exact hx⟩,st',fun b hb=>(hf b hb).1⟩⟩
 done:=by
  intro X hP hw hK hc i ac s σ H E I hf st hg;subst hP hw hK;obtain⟨xs,hq,hx⟩:=hg;obtain⟨its,rv,p,hz⟩:=I.tuple hq;obtain⟨f0,f1,f2,f3,f4,f5⟩:=hf it (by simp);have hl:=rv.length;exact wpAny_pyNext_tuple_end (I.ok.hd hc) st (show s.heap.IsTuple a its.toArray from p) (by simp;omega) fun h' eb=>⟨rfl,I.turned (t':=s.toks) (fun b o hb e=>eb b o hb e) f0 f1 f3 f4 f5⟩
 self:=fun _ _ _ _ _ st h=>wpAny_pyIter_tupleiter st h
theorem jdl(it:Addr)(lo:Int)(n:Nat):Turn P w K tg (Itr lo n) [it] it (fun i h=>IsRangeIter h it (lo+(i:Nat) * 1) ((n:Int) - (i:Nat)) 1) where
 mem:=by simp
 obj:=fun i h st b hb=>by
  have e:b=it:=by simpa using hb
  subst e;exact⟨_,st,fun v z=>by
   have z':Data.fields _=Data.cell v:=z
   cases z'⟩
 keep:=fun i h h' st k=>k it (by simp) _ st
 item:=by
  intro X hP hw hK hc i ac s σ H E I hf st hg;subst hP hw hK;obtain⟨f0,f1,f2,f3,f4,f5⟩:=hf it (by simp);have W:=Walks.range (prog:=X.prog) (w:=X.w) (I.ok.hd hc) it lo 1 n;refine W.item i s _ _ hg st fun v h' tk hv st' kk=>?_
  obtain⟨t,rfl⟩:=hv;have I1:Inv X ac σ H { s with heap:=h',toks:=tk }:=I.turned (fun b o hb e=>kk b o (by simpa using hb) e) f0 f1 f3 f4 f5;refine⟨_,rfl,jiG (s:={ s with heap:=h',toks:=tk }) (n:="range_iterator") st' rfl rfl (by decide) ⟨.int (lo+i),H,I1,⟨t,?_⟩,⟨rfl,rfl⟩,st',fun b hb=>(hf b hb).1⟩⟩;rw[Int.mul_one]
 done:=by
  intro X hP hw hK hc i ac s σ H E I hf st hg;subst hP hw hK;obtain⟨f0,f1,f2,f3,f4,f5⟩:=hf it (by simp);exact wpAny_pyNext_range_end (I.ok.hd hc) st (by have:n≤i:=hg;omega) fun h' eb=>⟨rfl,I.turned (t':=s.toks) (fun b o hb e=>eb b o hb e) f0 f1 f3 f4 f5⟩
 self:=fun _ _ _ _ _ st h=>wpAny_pyIter_rangeiter st h
variable {fp:List Addr}
section
def jk0(K:ah)(tl:TE):TI:=fun σ H R=>tl σ H fun x H1=>∃a,x=.ref a/\(∃xs,SqL K H1 a xs)/\R (Itl K a) H1
def jmG(K:ah)(tl:TE):TI:=fun σ H R=>tl σ H fun x H1=>∃a,x=.ref a/\(∃xs,SqT K H1 a xs)/\R (Itt K a) H1
theorem jjL{l:Expr}{tl:TE}(hl:PE X l tl):PI X tg l (jk0 X.K tl):=by
 intro ac s σ H R I h;refine thn (hl ac s σ H _ I h) fun v s1 ⟨x,H1,I1,r1,q1⟩=>?_
 obtain⟨a,e,⟨xs,hq⟩,q⟩:=q1;subst e
 cases r1
 obtain⟨its,rv,p,hz⟩:=I1.list hq;refine gk p.isList ?_;refine⟨s1.heap.objs.size,[s1.heap.objs.size],_,_,H1,rfl,I1.kept (t':=s1.toks) fun b o e=>bc _ e,jfJ a _,⟨_,bM _ rfl,rfl,rfl⟩,fun b hb=>?_,q⟩;have e:b=s1.heap.objs.size:=by simpa using hb
 subst e;exact I1.fpOk (av _) (I1.hok.fresh (av _))
theorem jlp{l:Expr}{tl:TE}(hl:PE X l tl):PI X tg l (jmG X.K tl):=by
 intro ac s σ H R I h;refine thn (hl ac s σ H _ I h) fun v s1 ⟨x,H1,I1,r1,q1⟩=>?_
 obtain⟨a,e,⟨xs,hq⟩,q⟩:=q1;subst e
 cases r1
 obtain⟨its,rv,p,hz⟩:=I1.tuple hq;refine wpAny_pyIter_tuple (show s1.heap.IsTuple a its.toArray from p) ?_;refine⟨s1.heap.objs.size,[s1.heap.objs.size],_,_,H1,rfl,I1.kept (t':=s1.toks) fun b o e=>bc _ e,jdk a _,⟨_,bM _ rfl,rfl,rfl⟩,fun b hb=>?_,q⟩;have e:b=s1.heap.objs.size:=by simpa using hb
 subst e;exact I1.fpOk (av _) (I1.hok.fresh (av _))
theorem jhi{σ:St}{R:It->Hp->Prop}{lo hi:Int}{t u v:Tok}{tk:Nat}(I:Inv X ac σ H s)(h1:-(2 ^ 62)≤lo)(h2:lo < 2 ^ 62)(h3:-(2 ^ 62)≤hi)(h4:hi < 2 ^ 62)
  (q:R (Itr lo (hi - lo).toNat) H):wpAny (model X.prog X.w) X.A (pyIter (.ref s.heap.objs.size)) (PIE X ac σ tg R) E { s with heap:=s.heap.push { cls:=.type "range",data:=.fields #[.int lo t,.int hi u,.int 1 v] },toks:=tk }:=by
 refine wpAny_pyIter_range (IsRange.new ..) (small_one h1 h2 h3 h4) ?_
 have I1:Inv X ac σ H { s with heap:=s.heap.push { cls:=.type "range",data:=.fields #[.int lo t,.int hi u,.int 1 v] },toks:=tk }:=I.kept fun b o e=>bc _ e
 refine⟨(s.heap.push { cls:=.type "range",data:=.fields #[.int lo t,.int hi u,.int 1 v] }).objs.size,[(s.heap.push { cls:=.type "range",data:=.fields #[.int lo t,.int hi u,.int 1 v] }).objs.size],_,_,H,rfl,
  I1.kept (t':=tk) fun b o e=>bc _ e,jdl _ lo (hi - lo).toNat,?_,fun b hb=>?_,q⟩
 ·have e1:lo+((0:Nat):Int) * 1=lo:=by simp
  have e2:(((hi - lo).toNat:Nat):Int) - ((0:Nat):Int)=Builtin.Range.rangeSize lo hi 1:=by rw[rangeSize_one];split <;> omega
  show IsRangeIter _ _ (lo+((0:Nat):Int) * 1) ((((hi - lo).toNat:Nat):Int) - ((0:Nat):Int)) 1
  rw[e1,e2]
  exact bM _ rfl
 ·have e:b=(s.heap.push { cls:=.type "range",data:=.fields #[.int lo t,.int hi u,.int 1 v] }).objs.size:=by simpa using hb
  subst e
  exact I1.fpOk (av _) (I1.hok.fresh (av _))
def jkZ(ta:TA):TI:=fun σ H R=>ta σ H fun vs H1=>∃j:Int,vs=[.int j]/\-(2 ^ 62)≤j/\j < 2 ^ 62/\R (Itr 0 j.toNat) H1
theorem jaR{a:Expr}{ta:TA}{p pos:Pos}(hg:Gl X "range")(hm:X.mg "range" = none)(ha:PA X [a] ta)(hs:aK [a] X.env=[(false,eval a X.env)]:=by rfl):PI X tg (.Call (.Name "range" p) [a] [] pos) (jkZ ta):=by
 intro ac s σ H R I h;refine Call_ (jaf I hg hm boot_range (pV (thn (ha pos ac s σ H _ I h) fun us s1 ⟨vs,H1,I1,r1,q1⟩=>?_) hs rfl));obtain⟨j,e,q1,q2,q⟩:=q1;subst e
 cases r1 with
 | cons r rr=>
  cases rr
  obtain⟨t,rfl⟩:=r;exact call_range_1 (jhi I1 (by omega) (by omega) q1 q2 (by simpa using q))
def jmh(wi:TI)(g:TG)(tb:TS):TS:=fun D σ H=>wi σ H fun J H1=>∃W:Nat->Nat->St->Hp->Prop,(∃m,W 0 m σ H1)/\∀i m σ H,W i m σ H->
 (J.stop i H/\D.nx σ H)∨(J.go i H/\∃N:St->Hp->Prop,(∀σ' H',N σ' H'->∃m',m' < m/\W (i+1) m' σ' H')/\∀x H',J.yld i H x H'->g x σ H' fun σ2 H2=>tb { D with nx:=N,ct:=N,bk:=D.nx } σ2 H2)
def J6(fp:List Addr)(h:Heap):List (Addr×Obj):=fp.filterMap fun b=>(h.get? b).map fun o=>(b,o)
theorem zI{o:Obj}(hb:b∈fp)(e:h.get? b=some o):(b,o)∈J6 fp h:=rF.mpr ⟨b,hb,by rw[e];rfl⟩
theorem jgi{p:Addr×Obj}(hp:p∈J6 fp h):p.1∈fp/\h.get? p.1=some p.2:=by
 obtain⟨b,hb,e⟩:=rF.mp hp
 cases q:h.get? b with
 | none=>rw[q]at e;cases e
 | some o=>
  rw[q]at e;have e':(b,o)=p:=bP e;subst e';exact⟨hb,q⟩
theorem Inv.pinned{σ:St}(I:Inv X ac σ H s)(hf:∀b∈fp,Zq X ac H b)(ho:∀b∈fp,∃o,s.heap.get? b=some o/\∀v,o.data≠.cell v):Inv X (ac++J6 fp s.heap) σ H s:=
 I.pins_of fun p hp=>(aB.mp hp).elim (fun z=>I.pin p (aT _ z)) fun z=>by
  obtain⟨hb,e⟩:=jgi z;obtain⟨f0,f1,f2,_⟩:=hf p.1 hb;obtain⟨o,e',d⟩:=ho p.1 hb;rw[e]at e';cases e';exact⟨e,f0,f1,f2,d⟩
theorem Inv.unpinned{pl:List (Addr×Obj)}{σ:St}(I:Inv X (ac++pl) σ H s):Inv X ac σ H s:=I.pins_of fun p hp=>I.pin p (aT _ (bB _ hp))
theorem jlk{iter:Expr}{body:List Stmt}{wi:TI}{g:TG}{tb:TS}{pos:Pos}(hp:fZ (model X.prog X.w) X.A X.env X.xe)(hc:X.calm=true)(hi:PI X tg iter wi)(hg:PG X tg g)(hb:PSs X body tb)
  (hs:∀x,eD iter X.env x=pure x:=by intro _;rfl):PS X (.For tg iter body [] pos) (jmh wi g tb):=by
 intro ac s σ H D I h
 refine wpAny_For (thn (hi ac s σ H _ I h) fun v s1 h1=>thn h1 fun itv s2 h2=>?_) hs
 obtain⟨it,fp,tn,J,H2,e,I2,T,st2,f2,W,⟨m0,w0⟩,turn⟩:=h2
 subst e
 have stat:∀{H':Hp},(∀b∈fp,H' b=none)->∀b∈fp,Zq X ac H' b:=fun hn b hb=>⟨hn b hb,(f2 b hb).2⟩
 refine codeAny_forLoop_any (fun n s'=>∃i σ' H',Inv X ac σ' H' s'/\tn i s'.heap/\(∀b∈fp,H' b=none)/\W i n σ' H') ?_ m0 ⟨0,σ,H2,I2,st2,fun b hb=>(f2 b hb).1,w0⟩
 rintro n s3 ⟨i,σ3,H3,I3,st3,fr3,w3⟩
 rcases turn i n σ3 H3 w3 with⟨stop,qn⟩ | ⟨go,N,hN,step⟩
 ·refine e_ hp (thn (T.done X rfl rfl rfl hc i ac s3 σ3 H3 X.xe I3 (stat fr3) st3 stop) fun r s4 ⟨hr,I4⟩=>?_)
  subst hr
  exact iA ⟨σ3,H3,I4,qn⟩
 ·refine e_ hp (thn (T.item X rfl rfl rfl hc i ac s3 σ3 H3 X.xe I3 (stat fr3) st3 go) fun r s4 ⟨u,hr,h4⟩=>?_)
  subst hr
  refine e_ hp (thn h4 fun _ s5 ⟨x,H5,I5,r5,y5,st5,fr5⟩=>?_)
  have I5':=I5.pinned (stat fr5) (T.obj _ _ st5)
  refine e_ hp (thn (hg _ s5 σ3 H5 x u _ I5' r5 (step x H5 y5)) fun _ s6 ⟨σ6,H6,I6,q6⟩=>?_)
  refine e_ hp (thn (hb _ s6 σ6 H6 _ I6 q6) fun f s7 q7=>?_)
  have again:∀{σ7:St} {H7:Hp},Inv X (ac++J6 fp s5.heap) σ7 H7 s7->N σ7 H7->∃m,m < n/\∃i σ' H',Inv X ac σ' H' s7/\tn i s7.heap/\(∀b∈fp,H' b=none)/\W i m σ' H':=fun {σ7 H7} I7 n7=>by
   obtain⟨m',hm,w7⟩:=hN σ7 H7 n7;refine⟨m',hm,i+1,σ7,H7,I7.unpinned,T.keep _ _ _ st5 fun b hb o e=>(I7.pin (b,o) (aT _ (aT _ (zI hb e)))).1,fun b hb=>?_,w7⟩;obtain⟨o,e,d⟩:=T.obj _ _ st5 b hb;exact (I7.pin (b,o) (aT _ (aT _ (zI hb e)))).2.1
  cases f with
  | next=>obtain⟨σ7,H7,I7,n7⟩:=q7;exact again I7 n7
  | cont=>obtain⟨σ7,H7,I7,n7⟩:=q7;exact again I7 n7
  | brk=>obtain⟨σ7,H7,I7,q7⟩:=q7;exact⟨σ7,H7,I7.unpinned,q7⟩
  | ret v=>obtain⟨x7,σ7,H7,I7,r7,q7⟩:=q7;exact⟨x7,σ7,H7,I7.unpinned,r7,q7⟩
end
variable {g:TG}
theorem jmL{tb:TS}{D:Ends}{σ:St}(Pv:Nat->St->Hp->Prop)(h0:Pv 0 σ H)(hl:∀i σ H,i≤xs.length->Pv i σ H->SqL K H a xs)
  (hs:∀i x σ H,xs[i]?=some x->Pv i σ H->g x σ H fun σ2 H2=>tb { D with nx:=Pv (i+1),ct:=Pv (i+1),bk:=D.nx } σ2 H2) (hd:∀σ H,Pv xs.length σ H->D.nx σ H) :
  ∃W:Nat->Nat->St->Hp->Prop,(∃m,W 0 m σ H)/\∀i m σ H,W i m σ H->
   ((Itl K a).stop i H/\D.nx σ H)∨((Itl K a).go i H/\∃N:St->Hp->Prop,(∀σ' H',N σ' H'->∃m',m' < m/\W (i+1) m' σ' H')/\∀x H',(Itl K a).yld i H x H'->g x σ H' fun σ2 H2=>tb { D with nx:=N,ct:=N,bk:=D.nx } σ2 H2):=by
 refine⟨fun i m σ H=>m=xs.length - i/\i≤xs.length/\Pv i σ H,⟨xs.length,by simp,bm _,h0⟩,?_⟩
 rintro i m σ H ⟨rfl,hi,p⟩
 have q:=hl i σ H hi p
 by_cases hlt:i < xs.length
 ·refine .inr ⟨⟨xs,xs[i],q,by simp[hlt]⟩,Pv (i+1),fun σ' H' p'=>⟨xs.length - (i+1),by omega,rfl,hlt,p'⟩,fun x H' y=>?_⟩
  obtain⟨e,y⟩:=y
  subst e
  exact hs i x σ _ (y xs q) p
 ·have e:i=xs.length:=by omega
  subst e
  exact .inl ⟨⟨xs,q,av _⟩,hd σ H p⟩
theorem Ju{tb:TS}{D:Ends}{σ:St}(Pv:Nat->St->Hp->Prop)(h0:Pv 0 σ H)(hl:∀i σ H,i≤xs.length->Pv i σ H->SqT K H a xs)
  (hs:∀i x σ H,xs[i]?=some x->Pv i σ H->g x σ H fun σ2 H2=>tb { D with nx:=Pv (i+1),ct:=Pv (i+1),bk:=D.nx } σ2 H2) (hd:∀σ H,Pv xs.length σ H->D.nx σ H) :
  ∃W:Nat->Nat->St->Hp->Prop,(∃m,W 0 m σ H)/\∀i m σ H,W i m σ H->
   ((Itt K a).stop i H/\D.nx σ H)∨((Itt K a).go i H/\∃N:St->Hp->Prop,(∀σ' H',N σ' H'->∃m',m' < m/\W (i+1) m' σ' H')/\∀x H',(Itt K a).yld i H x H'->g x σ H' fun σ2 H2=>tb { D with nx:=N,ct:=N,bk:=D.nx } σ2 H2):=by
 refine⟨fun i m σ H=>m=xs.length - i/\i≤xs.length/\Pv i σ H,⟨xs.length,by simp,bm _,h0⟩,?_⟩
 rintro i m σ H ⟨rfl,hi,p⟩
 have q:=hl i σ H hi p
 by_cases hlt:i < xs.length
 ·refine .inr ⟨⟨xs,xs[i],q,by simp[hlt]⟩,Pv (i+1),fun σ' H' p'=>⟨xs.length - (i+1),by omega,rfl,hlt,p'⟩,fun x H' y=>?_⟩
  obtain⟨e,y⟩:=y
  subst e
  exact hs i x σ _ (y xs q) p
 ·have e:i=xs.length:=by omega
  subst e
  exact .inl ⟨⟨xs,q,av _⟩,hd σ H p⟩
theorem Y9{lo:Int}{n:Nat}{tb:TS}{D:Ends}{σ:St}(Pv:Nat->St->Hp->Prop)(h0:Pv 0 σ H)
  (hs:∀i σ H,i < n->Pv i σ H->g (.int (lo+i)) σ H fun σ2 H2=>tb { D with nx:=Pv (i+1),ct:=Pv (i+1),bk:=D.nx } σ2 H2) (hd:∀σ H,Pv n σ H->D.nx σ H) :
  ∃W:Nat->Nat->St->Hp->Prop,(∃m,W 0 m σ H)/\∀i m σ H,W i m σ H->
   ((Itr lo n).stop i H/\D.nx σ H)∨((Itr lo n).go i H/\∃N:St->Hp->Prop,(∀σ' H',N σ' H'->∃m',m' < m/\W (i+1) m' σ' H')/\∀x H',(Itr lo n).yld i H x H'->g x σ H' fun σ2 H2=>tb { D with nx:=N,ct:=N,bk:=D.nx } σ2 H2):=by
 refine⟨fun i m σ H=>m=n - i/\i≤n/\Pv i σ H,⟨n,by simp,bm _,h0⟩,?_⟩
 rintro i m σ H ⟨rfl,hi,p⟩
 by_cases hlt:i < n
 ·refine .inr ⟨hlt,Pv (i+1),fun σ' H' p'=>⟨n - (i+1),by omega,rfl,hlt,p'⟩,fun x H' y=>?_⟩
  obtain⟨e,y⟩:=y
  subst e y
  exact hs i σ _ hlt p
 ·have e:i=n:=by omega
  subst e
  exact .inl ⟨av _,hd σ H p⟩
abbrev R2:=V->V->Hp->VK->Prop
def OpR(X:Cx)(f:Value->Value->Sem Value)(r:R2):Prop:=
 ∀(ac:List (Addr×Obj)) (s:Shared) (σ:St) (H:Hp) (x y:V) (v u:Value) (Q:VK),Inv X ac σ H s->RelV x v->RelV y u->r x y H Q->
  wpAny (model X.prog X.w) X.A (f v u) (EP X ac σ Q) X.xe s
def UnR(X:Cx)(f:Value->Sem Value)(r:V->Hp->VK->Prop):Prop:=
 ∀(ac:List (Addr×Obj)) (s:Shared) (σ:St) (H:Hp) (x:V) (v:Value) (Q:VK),Inv X ac σ H s->RelV x v->r x H Q->
  wpAny (model X.prog X.w) X.A (f v) (EP X ac σ Q) X.xe s
def zE(X:Cx)(f:Value)(r:List V->Hp->VK->Prop):Prop:=
 ∀(ac:List (Addr×Obj)) (s:Shared) (σ:St) (H:Hp) (xs:List V) (us:List Value) (Q:VK),Inv X ac σ H s->Vals xs us->r xs H Q->
  wpAny (model X.prog X.w) X.A (call f us) (EP X ac σ Q) X.xe s
def jm5(X:Cx)(r:V->Hp->(Bool->Hp->Prop)->Prop):Prop:=
 ∀(ac:List (Addr×Obj)) (s:Shared) (σ:St) (H:Hp) (x:V) (v:Value) (Q:Bool->Hp->Prop),Inv X ac σ H s->RelV x v->r x H Q->
  wpAny (model X.prog X.w) X.A (truthy v) (TP X ac σ Q) X.xe s
def tOp(r:R2)(ta tb:TE):TE:=fun σ H Q=>ta σ H fun x H1=>tb σ H1 fun y H2=>r x y H2 Q
def tUn(r:V->Hp->VK->Prop)(ta:TE):TE:=fun σ H Q=>ta σ H fun x H1=>r x H1 Q
def rI(C:Int->Int->Prop)(g:Int->Int->V):R2:=fun x y H Q=>∃i j,x=.int i/\y=.int j/\C i j/\Q (g i j) H
def rI0(g:Int->Int->V):R2:=fun x y H Q=>∃i j,x=.int i/\y=.int j/\Q (g i j) H
def rU(g:Int->V):V->Hp->VK->Prop:=fun x H Q=>∃i,x=.int i/\Q (g i) H
section
variable {a b c:Expr}{tc:TE}
theorem jl7(ha:PE X a ta)(hb:PE X b tb){σ:St}{R:V->V->Hp->Prop}(I:Inv X ac σ H s)
  (h:ta σ H fun x H1=>tb σ H1 fun y H2=>R x y H2) {Q:Value->Shared->Prop} {f:Value->Value->Sem Value}
  (hf:∀v u s2 x y H2,Inv X ac σ H2 s2->RelV x v->RelV y u->R x y H2->wpAny (model X.prog X.w) X.A (f v u) Q X.xe s2) :
  wpAny (model X.prog X.w) X.A (eval a X.env) (fun v s₁=>wpAny (model X.prog X.w) X.A (eval b X.env) (fun u s₂=>wpAny (model X.prog X.w) X.A (f v u) Q X.xe s₂) X.xe s₁) X.xe s:=by
 refine thn (ha ac s σ H _ I h) fun v s1 ⟨x,H1,I1,r1,q1⟩=>?_
 refine thn (hb ac s1 σ H1 _ I1 q1) fun u s2 ⟨y,H2,I2,r2,q2⟩=>?_
 exact hf v u s2 x y H2 I2 r1 r2 q2
theorem qO{op:Operator}{r:R2}(ho:OpR X (cq op) r)(ha:PE X a ta)(hb:PE X b tb):PE X (.BinOp a op b pos) (tOp r ta tb):=by
 intro ac s σ H Q I h;exact wpAny_BinOp (jl7 ha hb I h fun v u s2 x y H2 I2 rx ry q=>ho ac s2 σ H2 x y v u Q I2 rx ry q)
theorem jmu{op:UnaryOp}{r:V->Hp->VK->Prop}(ho:UnR X (unaryOp op) r)(ha:PE X a ta):PE X (.UnaryOp op a pos) (tUn r ta):=by
 intro ac s σ H Q I h;exact UnaryOp_ (thn (ha ac s σ H _ I h) fun v s1 ⟨x,H1,I1,r1,q1⟩=>ho ac s1 σ H1 x v Q I1 r1 q1)
theorem opI{f:Value->Value->Sem Value}{C:Int->Int->Prop}{g:Int->Int->Int}
  (rule:∀(i j:Int) (t u:Tok) (s:Shared) (Q:Value->Shared->Prop) (E:Value->Shared->Prop),C i j->Q (.int (g i j) s.toks) { s with toks:=s.toks+1 }->wpAny (model X.prog X.w) X.A (f (.int i t) (.int j u)) Q E s) :
  OpR X f (rI C fun i j=>.int (g i j)):=by
 intro ac s σ H x y v u Q I rx ry h
 obtain⟨i,j,rfl,rfl,hc,q⟩:=h
 obtain⟨t,rfl⟩:=rx
 obtain⟨t',rfl⟩:=ry
 exact rule i j t t' s _ _ hc ⟨.int (g i j),H,I.tok _,⟨_,rfl⟩,q⟩
theorem jmy{f:Value->Value->Sem Value}{g:Int->Int->Int}
  (rule:∀(i j:Int) (t u:Tok) (s:Shared) (Q:Value->Shared->Prop) (E:Value->Shared->Prop),Q (.int (g i j) s.toks) { s with toks:=s.toks+1 }->wpAny (model X.prog X.w) X.A (f (.int i t) (.int j u)) Q E s) :
  OpR X f (rI0 fun i j=>.int (g i j)):=by
 intro ac s σ H x y v u Q I rx ry h
 obtain⟨i,j,rfl,rfl,q⟩:=h
 obtain⟨t,rfl⟩:=rx
 obtain⟨t',rfl⟩:=ry
 exact rule i j t t' s _ _ ⟨.int (g i j),H,I.tok _,⟨_,rfl⟩,q⟩
theorem jjV{f:Value->Value->Sem Value}{g:Int->Int->Bool}
  (rule:∀(i j:Int) (t u:Tok) (s:Shared) (Q:Value->Shared->Prop) (E:Value->Shared->Prop),Q (.bool (g i j)) s->wpAny (model X.prog X.w) X.A (f (.int i t) (.int j u)) Q E s) :
  OpR X f (rI0 fun i j=>.bl (g i j)):=by
 intro ac s σ H x y v u Q I rx ry h
 obtain⟨i,j,rfl,rfl,q⟩:=h
 obtain⟨t,rfl⟩:=rx
 obtain⟨t',rfl⟩:=ry
 exact rule i j t t' s _ _ ⟨.bl (g i j),H,I,rfl,q⟩
def jm7(i j:Int):Prop:=0≤j/\j≤1000000/\i.natAbs < 2 ^ 64
def CMul(i j:Int):Prop:=(-(2 ^ 64) < i/\i < 2 ^ 64)∨(-(2 ^ 64) < j/\j < 2 ^ 64)
theorem CMul.ok{i j:Int}(h:CMul i j):IntMulOk i j:=by
 rcases h with⟨h1,h2⟩ | ⟨h1,h2⟩
 ·exact .of_left (intBits_le_64 h1 h2)
 ·exact .of_right (intBits_le_64 h1 h2)
theorem zy:OpR X (cq .Add) (rI0 fun i j=>.int (i+j)):=jmy fun _ _ _ _ _ _ _ q=>add_int q
theorem jdK:OpR X (cq .Sub) (rI0 fun i j=>.int (i - j)):=jmy fun _ _ _ _ _ _ _ q=>sub_int q
theorem yA:OpR X (cq .Mult) (rI CMul fun i j=>.int (i * j)):=opI fun _ _ _ _ _ _ _ hc q=>mul_int q hc.ok
theorem yW:OpR X (cq .Mod) (rI (fun _ j=>0 < j) fun i j=>.int (i % j)):=opI fun i j _ _ _ _ _ hc q=>by
 have h1:(0:Int) < j:=hc;exact mod_int' (by omega) (by rw[Int.fmod_eq_emod_of_nonneg i (by omega)];exact q)
theorem jlz:OpR X (cq .Pow) (rI jm7 fun i j=>.int (i ^ j.toNat)):=opI fun _ _ _ _ _ _ _ hc q=>pow_int_small hc.1 hc.2.1 hc.2.2 q
theorem unI{f:Value->Sem Value}{g:Int->Int}
  (rule:∀(i:Int) (t:Tok) (s:Shared) (Q:Value->Shared->Prop) (E:Value->Shared->Prop),Q (.int (g i) s.toks) { s with toks:=s.toks+1 }->wpAny (model X.prog X.w) X.A (f (.int i t)) Q E s) :
  UnR X f (rU fun i=>.int (g i)):=by
 intro ac s σ H x v Q I rx h
 obtain⟨i,rfl,q⟩:=h
 obtain⟨t,rfl⟩:=rx
 exact rule i t s _ _ ⟨.int (g i),H,I.tok _,⟨_,rfl⟩,q⟩
theorem JI:UnR X (unaryOp .USub) (rU fun i=>.int (-i)):=unI fun _ _ _ _ _ q=>neg_int q
end
def jmn:V->V->Bool
 | .non,.non=>true | .non,.int _=>true | .int _,.non=>true | .non,.bl _=>true | .bl _,.non=>true | .non,.str _=>true | .str _,.non=>true
 | .int _,.int _=>true | .bl _,.bl _=>true | .str _,.str _=>true | .byt _,.byt _=>true
 | .int _,.str _=>true | .str _,.int _=>true | .bl _,.str _=>true | .str _,.bl _=>true
 | _,_=>false
def rEq:R2:=fun x y H Q=>jmn x y=true/\Q (.bl (decide (x=y))) H
def rNe:R2:=fun x y H Q=>jmn x y=true/\Q (.bl (!decide (x=y))) H
theorem jfq{i j:Int}:decide (V.int i=V.int j)=(i == j):=by
 rw[bI];simp
theorem jiV{i j:Bool}:decide (V.bl i=V.bl j)=(i == j):=by
 rw[bI];simp
theorem jfp{i j:Str}:decide (V.str i=V.str j)=(i == j):=by
 rw[bI];simp
theorem jfr{i j:Array UInt8}:decide (V.byt i=V.byt j)=(i.toList == j.toList):=by
 rw[bI]
 cases i
 cases j
 simp
section
variable {a b c:Expr}{tc:TE}
theorem kN{σ:St}{Q:VK}{k k':Bool}(I:Inv X ac σ H s)(q:Q (.bl k) H)(e:k=k'):EP X ac σ Q (.bool k') s:=by
 subst e;exact⟨.bl k,H,I,rfl,q⟩
theorem j5:OpR X (bK .Eq) rEq:=by
 intro ac s σ H x y v u Q I rx ry h;obtain⟨hs,q⟩:=h
 cases x with
 | non=>
  cases rx
  cases y with
  | non=>cases ry;exact PySem.EqNone.eq_none_none (kN I q (by simp))
  | bl j=>cases ry;exact PySem.EqNone.eq_none_bool (kN I q (by simp))
  | int j=>obtain⟨t',rfl⟩:=ry;exact PySem.EqNone.eq_none_int (kN I q (by simp))
  | str j=>obtain⟨t',rfl⟩:=ry;exact PySem.EqNone.eq_none_str (kN I q (by simp))
  | _=>exact absurd (show false=true from hs) aI
 | bl i=>
  cases rx
  cases y with
  | non=>cases ry;exact PySem.EqNone.eq_bool_none (kN I q (by simp))
  | bl j=>cases ry;exact eq_bool (kN I q jiV)
  | str j=>obtain⟨t',rfl⟩:=ry;exact PySem.EqMixed.eq_bool_str (kN I q (by simp))
  | _=>exact absurd (show false=true from hs) aI
 | int i=>
  obtain⟨t,rfl⟩:=rx
  cases y with
  | non=>cases ry;exact PySem.EqNone.eq_int_none (kN I q (by simp))
  | int j=>obtain⟨t',rfl⟩:=ry;exact eq_int (kN I q jfq)
  | str j=>obtain⟨t',rfl⟩:=ry;exact PySem.EqMixed.eq_int_str (kN I q (by simp))
  | _=>exact absurd (show false=true from hs) aI
 | str i=>
  obtain⟨t,rfl⟩:=rx
  cases y with
  | non=>cases ry;exact PySem.EqNone.eq_str_none (kN I q (by simp))
  | bl j=>cases ry;exact PySem.EqMixed.eq_str_bool (kN I q (by simp))
  | int j=>obtain⟨t',rfl⟩:=ry;exact PySem.EqMixed.eq_str_int (kN I q (by simp))
  | str j=>obtain⟨t',rfl⟩:=ry;exact eq_str (kN I q jfp)
  | _=>exact absurd (show false=true from hs) aI
 | byt i=>
  obtain⟨t,rfl⟩:=rx
  cases y with
  | byt j=>obtain⟨t',rfl⟩:=ry;exact PySem.W.eq_bytes (kN I q jfr)
  | _=>exact absurd (show false=true from hs) aI
 | _=>cases y <;> exact absurd (show false=true from hs) aI
theorem jcF:OpR X (bK .NotEq) rNe:=by
 intro ac s σ H x y v u Q I rx ry h;obtain⟨hs,q⟩:=h
 cases x with
 | non=>
  cases rx
  cases y with
  | non=>cases ry;exact PySem.EqNone.ne_none_none (kN I q (by simp))
  | bl j=>cases ry;exact PySem.EqNone.ne_none_bool (kN I q (by simp))
  | int j=>obtain⟨t',rfl⟩:=ry;exact PySem.EqNone.ne_none_int (kN I q (by simp))
  | str j=>obtain⟨t',rfl⟩:=ry;exact PySem.EqNone.ne_none_str (kN I q (by simp))
  | _=>exact absurd (show false=true from hs) aI
 | bl i=>
  cases rx
  cases y with
  | non=>cases ry;exact PySem.EqNone.ne_bool_none (kN I q (by simp))
  | bl j=>cases ry;exact ne_bool (kN I q (congrArg not jiV))
  | str j=>obtain⟨t',rfl⟩:=ry;exact PySem.EqMixed.ne_bool_str (kN I q (by simp))
  | _=>exact absurd (show false=true from hs) aI
 | int i=>
  obtain⟨t,rfl⟩:=rx
  cases y with
  | non=>cases ry;exact PySem.EqNone.ne_int_none (kN I q (by simp))
  | int j=>obtain⟨t',rfl⟩:=ry;exact ne_int (kN I q (congrArg not jfq))
  | str j=>obtain⟨t',rfl⟩:=ry;exact PySem.EqMixed.ne_int_str (kN I q (by simp))
  | _=>exact absurd (show false=true from hs) aI
 | str i=>
  obtain⟨t,rfl⟩:=rx
  cases y with
  | non=>cases ry;exact PySem.EqNone.ne_str_none (kN I q (by simp))
  | bl j=>cases ry;exact PySem.EqMixed.ne_str_bool (kN I q (by simp))
  | int j=>obtain⟨t',rfl⟩:=ry;exact PySem.EqMixed.ne_str_int (kN I q (by simp))
  | str j=>obtain⟨t',rfl⟩:=ry;exact ne_str (kN I q (congrArg not jfp))
  | _=>exact absurd (show false=true from hs) aI
 | byt i=>
  obtain⟨t,rfl⟩:=rx
  cases y with
  | byt j=>obtain⟨t',rfl⟩:=ry;exact PySem.W.ne_bytes (kN I q (congrArg not jfr))
  | _=>exact absurd (show false=true from hs) aI
 | _=>cases y <;> exact absurd (show false=true from hs) aI
theorem Z5:OpR X (bK .Lt) (rI0 fun i j=>.bl (decide (i < j))):=jjV fun _ _ _ _ _ _ _ q=>lt_int q
theorem jkV:OpR X (bK .LtE) (rI0 fun i j=>.bl (decide (i≤j))):=jjV fun _ _ _ _ _ _ _ q=>le_int q
theorem KI:OpR X (bK .Gt) (rI0 fun i j=>.bl (decide (j < i))):=jjV fun _ _ _ _ _ _ _ q=>gt_int q
theorem jmx:OpR X (bK .GtE) (rI0 fun i j=>.bl (decide (j≤i))):=jjV fun _ _ _ _ _ _ _ q=>ge_int q
theorem jfS:OpR X (bK .In) (fun x y H Q=>∃i j,x=.str i/\y=.str j/\Q (.bl (!(my j i 0 j.length 1).isEmpty)) H):=by
 intro ac s σ H x y v u Q I rx ry h;obtain⟨i,j,rfl,rfl,q⟩:=h;obtain⟨t,rfl⟩:=rx;obtain⟨t',rfl⟩:=ry;exact in_str (kN I q rfl)
theorem jD(b:Expr)(h:op≠.In:=by decide)(h2:op≠.NotIn:=by decide):dA op b=false:=by
 have e1:(op == CmpOp.In)=false:=by cases op <;> first | rfl | exact absurd rfl h
 have e2:(op == CmpOp.NotIn)=false:=by cases op <;> first | rfl | exact absurd rfl h2
 cases b <;> simp[dA,e1,e2]
theorem Zw{op:CmpOp}{r:R2}(ho:OpR X (bK op) r)(ha:PE X a ta)(hb:PE X b tb)(hm:dA op b=false):PE X (.Compare a [op] [b] pos) (tOp r ta tb):=by
 intro ac s σ H Q I h;exact wpAny_Compare1 (jl7 ha hb I h fun v u s2 x y H2 I2 rx ry q=>ho ac s2 σ H2 x y v u Q I2 rx ry q) hm
def jkE(t:TE):TT:=fun σ H Q=>t σ H fun x H'=>∃k,x=.bl k/\Q k H'
theorem Jr{op:CmpOp}{r:R2}(ho:OpR X (bK op) r)(ha:PE X a ta)(hb:PE X b tb)(hm:dA op b=false):PT X (.Compare a [op] [b] pos) (jkE (tOp r ta tb)):=by
 intro ac s σ H Q I h;refine nj (thn (ha ac s σ H _ I h) fun v s1 ⟨x,H1,I1,r1,q1⟩=>thn (hb ac s1 σ H1 _ I1 q1) fun u s2 ⟨y,H2,I2,r2,q2⟩=>
  thn (ho ac s2 σ H2 x y v u _ I2 r1 r2 q2) fun c s3 ⟨z,H3,I3,r3,k,e,q3⟩=>?_) hm
 subst e
 cases r3
 exact dZ ⟨H3,I3,q3⟩
def jgM(K:ah)(x:V)(H:Hp)(k:Bool):Prop:=
 match x with
 | .non=>k=false
 | .bl b=>k=b
 | .int i=>k=(i != 0)
 | .str y=>y.length≤au/\k=((y.length:Int) != 0)
 | .byt y=>y.size≤au/\k=((y.size:Int) != 0)
 | .ref p=>(∃xs,SqL K H p xs/\k=!xs.isEmpty)∨(∃xs,SqT K H p xs/\k=!xs.isEmpty)∨∃kvs,H p=some (.dK kvs)/\k=!kvs.isEmpty
 | _=>False
theorem jd3{κ:Type}{kvs:List (κ×V)}{vs:List (κ×Value)}(r:KV kvs vs):(!vs.isEmpty)=!kvs.isEmpty:=by
 cases r <;> rfl
theorem jag{its:List Value}(r:Vals xs its):(!its.toArray.isEmpty)=!xs.isEmpty:=by
 cases r <;> simp
theorem Ye:(au:Nat) < 2 ^ 63:=by rw[fT];decide
theorem jgX:jm5 X (fun x H Q=>∃k,jgM X.K x H k/\Q k H):=by
 intro ac s σ H x v Q I rx h;obtain⟨k,e,q⟩:=h;have hl:=Ye;have hs:au=16777216:=fT
 cases x with
 | non=>
  cases rx
  have e':k=false:=e;subst e';exact truthy_none ⟨H,I,q⟩
 | bl b=>
  cases rx
  have e':k=b:=e;subst e';exact dZ ⟨H,I,q⟩
 | int i=>
  obtain⟨t,rfl⟩:=rx;have e':k=(i != 0):=e;subst e';exact PySem.P.truthy_int ⟨H,I,q⟩
 | str y=>
  obtain⟨t,rfl⟩:=rx;obtain⟨hy,e'⟩:y.length≤au/\k=((y.length:Int) != 0):=e;subst e';exact PySem.P.truthy_str (by omega) ⟨H,I.tok _,q⟩
 | byt y=>
  obtain⟨t,rfl⟩:=rx;obtain⟨hy,e'⟩:y.size≤au/\k=((y.size:Int) != 0):=e;subst e';exact PySem.W.truthy_bytes (by omega) ⟨H,I.tok _,q⟩
 | ref p=>
  cases rx
  have e':(∃xs,SqL X.K H p xs/\k=!xs.isEmpty)∨(∃xs,SqT X.K H p xs/\k=!xs.isEmpty)∨∃kvs,H p=some (.dK kvs)/\k=!kvs.isEmpty:=e;rcases e' with⟨xs,hx,e'⟩ | ⟨xs,hx,e'⟩ | ⟨kvs,hx,e'⟩
  ·subst e'
   obtain⟨its,r,pl,hz⟩:=I.list hx;have hlen:=r.length;exact wpAny_truthy_list pl.isList (by simp only[aZ];omega) ⟨H,I.tok _,by rw[jag r];exact q⟩
  ·subst e'
   obtain⟨its,r,pl,hz⟩:=I.tuple hx;have hlen:=r.length;exact truthy_tuple pl (by simp only[aZ];omega) ⟨H,I.tok _,by rw[jag r];exact q⟩
  ·subst e'
   obtain⟨hz,hS,vs,r,m⟩:kvs.length≤au/\(p == cb)=false/\∃vs,KV kvs vs/\s.heap.DictOf (qB X.prog X.w) p vs:=I.hok p _ hx;have hlen:kvs.length=vs.length:=iN r;exact wpAny_truthy_dict hS m (by omega) ⟨H,I.tok _,by rw[jd3 r];exact q⟩
 | _=>exact (show False from e).elim
theorem jhm(ha:PE X a ta)(he:∀whole,isTrue a X.env whole=(do let v ← whole;gn a.pos;holding [v] (truthy v))):
  PT X a (fun σ H Q=>ta σ H fun x H'=>∃k,jgM X.K x H' k/\Q k H'):=by
 intro ac s σ H Q I h
 exact isTrue_plain (thn (ha ac s σ H _ I h) fun v s1 ⟨x,H1,I1,r1,q1⟩=>jgX ac s1 σ H1 x v Q I1 r1 q1) (he _)
theorem jq:OpR X (cq .Add) (fun x y H Q=>∃i j,x=.str i/\y=.str j/\i.length+j.length≤au/\Q (.str (i++j)) H):=by
 intro ac s σ H x y v u Q I rx ry h;obtain⟨i,j,rfl,rfl,hz,q⟩:=h;obtain⟨t,rfl⟩:=rx;obtain⟨t',rfl⟩:=ry;exact add_str (fun t' tk=>⟨.str (i++j),H,I.tok _,⟨_,rfl⟩,q⟩) hz
theorem zh{x:V}(r:Vals [x] us):∃u,us=[u]/\RelV x u:=by
 cases r with
 | cons r1 r2=>cases r2;exact⟨_,rfl,r1⟩
theorem jgV{x:V}(r:Vals [x,y] us):∃u w',us=[u,w']/\RelV x u/\RelV y w':=by
 cases r with
 | cons r1 r2=>
  cases r2 with
  | cons r3 r4=>cases r4;exact⟨_,_,rfl,r1,r3⟩
theorem ji4:zE X (.builtin "abs") (fun xs H Q=>∃i,xs=[.int i]/\Q (.int (if i < 0 then -i else i)) H):=by
 intro ac s σ H xs us Q I r h;obtain⟨i,rfl,q⟩:=h;obtain⟨u,rfl,t,rfl⟩:=zh r;exact call_abs_int fun u tk=>⟨.int (if i < 0 then -i else i),H,I.tok _,⟨_,rfl⟩,q⟩
theorem jgK(hc:X.calm=true):zE X (.builtin "max") (fun xs H Q=>∃i j,xs=[.int i,.int j]/\Q (.int (if j > i then j else i)) H):=by
 intro ac s σ H xs us Q I r h;obtain⟨i,j,rfl,q⟩:=h;obtain⟨u,w',rfl,⟨t,rfl⟩,⟨t',rfl⟩⟩:=jgV r;refine max_two_ints (I.ok.hd hc) fun h' tk k=>⟨_,H,I.kept k,?_,q⟩
 by_cases hj:j > i
 ·rw[if_pos hj,if_pos hj];exact⟨_,rfl⟩
 ·rw[if_neg hj,if_neg hj];exact⟨_,rfl⟩
theorem jgJ(hc:X.calm=true):zE X (.builtin "min") (fun xs H Q=>∃i j,xs=[.int i,.int j]/\Q (.int (if j < i then j else i)) H):=by
 intro ac s σ H xs us Q I r h;obtain⟨i,j,rfl,q⟩:=h;obtain⟨u,w',rfl,⟨t,rfl⟩,⟨t',rfl⟩⟩:=jgV r;refine min_two_ints (I.ok.hd hc) fun h' tk k=>⟨_,H,I.kept k,?_,q⟩
 by_cases hj:j < i
 ·rw[if_pos hj,if_pos hj];exact⟨_,rfl⟩
 ·rw[if_neg hj,if_neg hj];exact⟨_,rfl⟩
theorem ja7:zE X (.type "int") (fun xs H Q=>(∃i,xs=[.int i]/\Q (.int i) H)∨∃k,xs=[.bl k]/\Q (.int (if k then 1 else 0)) H):=by
 intro ac s σ H xs us Q I r h;rcases h with⟨i,rfl,q⟩ | ⟨k,rfl,q⟩
 ·obtain⟨u,rfl,t,rfl⟩:=zh r
  exact call_int_int ⟨.int i,H,I,⟨_,rfl⟩,q⟩
 ·obtain⟨u,rfl,r1⟩:=zh r
  cases r1
  exact call_int_bool ⟨.int (if k then 1 else 0),H,I.tok _,⟨_,rfl⟩,q⟩
theorem Jx:zE X (.type "str") (fun xs H Q=>∃i,xs=[.int i]/\i.natAbs.log2 < 1920/\Q (.str (eZ i)) H):=by
 intro ac s σ H xs us Q I r h;obtain⟨i,rfl,hz,q⟩:=h;obtain⟨u,rfl,t,rfl⟩:=zh r;exact PySem.P.str_of_int hz ⟨.str _,H,I.tok _,⟨_,rfl⟩,q⟩
end
structure ObjM(h:Heap)(x dx C:Addr)(mA:Str->Option Value):Prop where
 obj:h.get? x=some (eE C dx)
 ns:h.Ns1 dx mA
 ne:dx≠x
variable {dx:Addr}{mA:Str->Option Value}
theorem jgo(n:h.Ns1 dx mA):∃od,h.get? dx=some od/\∀name,lT name od=some (mA name):=by
 obtain⟨o,es,ep,ho,hd,hk,_,hm⟩:=n;refine⟨o,ho,fun name=>?_⟩;have e:=hm name;unfold nsFind findBy at e;rw[← Array.find?_toList]at e;unfold lT;rw[hd];dsimp only;split
 ·rename_i y q
  rw[q]at e;exact congrArg some e
 ·rename_i q
  rw[q]at e;have a:es.toList.any (·.refKey)=false:=by
   rw[rY];intro y hy;obtain⟨z,t,hkey⟩:=hk y (Array.mem_toList_iff.mp hy);simp[mr.refKey,hkey]
  have a':¬es.toList.any (·.refKey)=true:=by rw[a];exact aI
  rw[if_neg a'];exact congrArg some e
variable {C:Addr}
theorem ObjM.look{x:Addr}(I:ObjM h x dx C mA):∃od,PySem.W.InstAt h x (eE C dx) C (some od)/\∀name,lT name od=some (mA name):=
 let ⟨od,ho,hl⟩:=jgo I.ns
 ⟨od,⟨I.obj,rfl,rfl,ho⟩,hl⟩
variable {f:Addr}{kw:List (Str×Value)}
section
variable {prog:Program}{x:Addr}{name:Str}{v:Value}
theorem jkk{expr:Bool}(X:K.In s.heap)(I:ObjM s.heap x dx C mA)(hg:gp K C name=true)(hh:gq K C=true)
  (ha:bD K (.ref C) name=some none) (hv:mA name=some v) (hv':ot v=true) (h:Q v { s with toks:=s.toks+1 }) :
  wpAny (model prog w) A (getAttr (.ref x) name expr) Q E s:=by
 obtain⟨od,J,hl⟩:=I.look
 exact PySem.W.get_value X J (PySem.W.plainGet_of hg).1 (PySem.W.findObj_own hh ha rfl (by rw[hl,hv])) hv' h
theorem jjt{ns:List Str}{Q:Unit->Shared->Prop}(X:K.In s.heap)(I:ObjM s.heap x dx C mA)
  (hs:bD K (.ref C) "__setattr__" = some (some (.builtin "object.__setattr__"))) (hp:iI K C=true) (ht:lR K C name=some none) (hh:gq K C=true)
  (hw:iH mA ns) (hsz:ns.length≤au)
  (h:∀h',ObjM h' x dx C (fun y=>if y=name then some v else mA y)->b0 dx s.heap h'->Q () { s with heap:=h',toks:=s.toks+2 }) :
  wpAny (model prog w) A (setAttr (.ref x) name v) Q E s:=by
 obtain⟨od,J,hl⟩:=I.look
 refine PySem.W.set_plain X J hs (PySem.W.osa_open (s:={ s with toks:=s.toks+1 }) (r:=none) X J hp ht fun b=>?_)
 obtain⟨cd,hc,hd'⟩:=PySem.W.any_some hh
 have hx:s.heap.get? x=some ⟨.ref C,some dx,.plain,#[]⟩:=I.obj
 refine az (aL (az (az (wpAny_loadPart hx (az (PySem.W.Looks.here (s:={ s with toks:=s.toks+1 }) (PySem.W.looks_clsIn X hc) ?_))))))
 rw[hd']
 refine aL (a:=some dx) (az (aL (az ?_)))
 refine wpAny_nsSet1 (s:={ s with toks:=s.toks+1 }) I.ns fun h' hn2 hs2=>?_
 obtain⟨oD,esD,epD,hoD,hdD,hcD⟩:=hn2.count (iH.cons name v hw)
 refine az (wpAny_lookBehind hoD (by rw[hdD];exact pastItsLine_dict (ad hcD (by rw[aw];omega))) ?_)
 exact aL (h _ ⟨(hs2.2 _ (bH I.ne)).trans I.obj,hn2,I.ne⟩ hs2)
theorem jiq{R:Result->Shared->Prop}{vs:List Value}(X:K.In s.heap)(hm:iJ K C=true)
  (hi:bD K (.ref C) "__init__" = some (some (.ref f))) (hf:PySem.W.typeIn K (.ref f)=some (.type "function"))
  (h:dz (model prog w) (A.under (.builtin "type.__call__" ⟨.ref C :: vs,kw⟩)) (.call (.ref f) ⟨.ref (s.heap.objs.size+1) :: vs,kw⟩) (PySem.W.InitBack (s.heap.objs.size+1) R)
   { s with heap:=(s.heap.push dE).push (eE C s.heap.objs.size) }) :
  dz (model prog w) A (.call (.ref C) ⟨vs,kw⟩) R s:=by
 obtain⟨hh,g,d,t,os⟩:=s
 exact PySem.W.make_core (PySem.W.makes_of X hm) (PySem.W.looks_findIn X hi) (fun self=>PySem.W.bind_fn X self hf) (.inl rfl) h
end
def za(f:Str)(v:V):List (Str×V)->List (Str×V)
 | []=>[(f,v)]
 | (g,x) :: r=>if g=f then (g,v) :: r else (g,x) :: za f v r
theorem Zh(f g:Str)(v:V):∀fs:List (Str×V),(za f v fs).lookup g=if g=f then some v else fs.lookup g
 | []=>by
  show dj g [(f,v)]=_;by_cases h:g=f
  ·have hb:(g == f)=true:=beq_iff_eq.mpr h
   simp only[dj,hb,if_pos h]
  ·have hb:(g == f)=false:=beq_eq_false_iff_ne.mpr h
   simp only[dj,hb,if_neg h]
 | (k,x) :: r=>by
  have ih:=Zh f g v r;rw[show za f v ((k,x) :: r)=(if k=f then (k,v) :: r else (k,x) :: za f v r) from rfl];by_cases hk:k=f
  ·rw[if_pos hk]
   by_cases h:g=k
   ·have hb:(g == k)=true:=beq_iff_eq.mpr h
    simp only[dj,hb,if_pos (h.trans hk)]
   ·have hb:(g == k)=false:=beq_eq_false_iff_ne.mpr h
    simp only[dj,hb,if_neg (fun e:g=f=>h (e.trans hk.symm))]
  ·rw[if_neg hk]
   by_cases h:g=k
   ·have hb:(g == k)=true:=beq_iff_eq.mpr h
    simp only[dj,hb,if_neg (fun e:g=f=>hk (h.symm.trans e))]
   ·have hb:(g == k)=false:=beq_eq_false_iff_ne.mpr h
    simp only[dj,hb];exact ih
theorem Y7(f:Str)(v:V):∀fs:List (Str×V),f∈(za f v fs).map (·.1)/\∀g,g∈fs.map (·.1)->g∈(za f v fs).map (·.1)
 | []=>⟨by simp[za],fun g h=>by simp at h⟩
 | (k,x) :: r=>by
  obtain⟨i1,i2⟩:=Y7 f v r;rw[show za f v ((k,x) :: r)=(if k=f then (k,v) :: r else (k,x) :: za f v r) from rfl];by_cases hk:k=f
  ·rw[if_pos hk]
   subst hk;exact⟨by simp,fun g h=>by simpa using h⟩
  ·rw[if_neg hk]
   refine⟨?_,fun g h=>?_⟩
   ·rw[aX]
    exact ao _ i1
   ·rw[aX]at h ⊢
    rcases ak.mp h with e | e
    ·exact ak.mpr (.inl e)
    ·exact ao _ (i2 g e)
theorem Zi(f:Str)(v:V):∀fs:List (Str×V),(za f v fs).length≤fs.length+1
 | []=>by simp[za]
 | (k,x) :: r=>by
  have ih:=Zi f v r;rw[show za f v ((k,x) :: r)=(if k=f then (k,v) :: r else (k,x) :: za f v r) from rfl];by_cases hk:k=f
  ·rw[if_pos hk,aw,aw];omega
  ·rw[if_neg hk,aw,aw];omega
theorem RelO.some_of{o:Option Value}(r:RelO (some v) o):∃u,o=some u/\RelV v u:=by
 cases o with
 | none=>exact (show False from r).elim
 | some u=>exact⟨u,rfl,r⟩
theorem jgw(r:RelV v u):ot u=true:=by
 cases v with
 | non=>cases (show u=Value.none from r);rfl
 | bl b=>cases (show u=Value.bool b from r);rfl
 | int i=>obtain⟨t,e⟩:=(show ∃t,u=Value.int i t from r);cases e;rfl
 | str x=>obtain⟨t,e⟩:=(show ∃t,u=Value.str x t from r);cases e;rfl
 | byt b=>obtain⟨t,e⟩:=(show ∃t,u=Value.bytes b t from r);cases e;rfl
 | flt b=>obtain⟨t,e⟩:=(show ∃t,u=Value.float b t from r);cases e;rfl
 | ref a=>cases (show u=Value.ref a from r);rfl
 | ty n=>cases (show u=Value.type n from r);rfl
section
variable {fs fs':List (Str×V)}
theorem jbR(hok:HOk P w H h)(e:H a=some (.ins C dx fs)):∃mA,ObjM h a dx C mA/\(∀f,RelO (fs.lookup f) (mA f))/\iH mA (fs.map (·.1))/\fs.length≤1000/\H dx=some (.own a):=by
 obtain⟨d,z,ne,ob,mA,n,r,q⟩:=(show ObjOk P w H h a (.ins C dx fs) from hok a _ e)
 exact⟨mA,⟨ob,n,ne⟩,r,q,z,d⟩
end
structure Cls(K:ah)(C:Addr):Prop where
 pg:gp K C aV=true
 hd:gq K C=true
 po:iI K C=true
 sa:bD K (.ref C) "__setattr__" = some (some (.builtin "object.__setattr__"))
theorem Cls.get(c:Cls K C)(f:Str):gp K C f=true:=c.pg
def NoAttr(K:ah)(C:Addr)(f:Str):Prop:=bD K (.ref C) f=some none
theorem NoAttr.taker{f:Str}(n:NoAttr K C f):lR K C f=some none:=by
 unfold lR;rw[show bD K (.ref C) f=some none from n];rfl
section
variable {σ:St}{fs:List (Str×V)}{f:Str}
theorem jd5{b:Bool}(I:Inv X ac σ H s)(e:H a=some (.ins C dx fs))(c:Cls X.K C)(n:NoAttr X.K C f)(l:fs.lookup f=some v)
  (h:∀u s',Inv X ac σ H s'->RelV v u->Q u s'):wpAny (model X.prog X.w) A (getAttr (.ref a) f b) Q E s:=by
 obtain⟨mA,O,r,_,_,_⟩:=jbR I.hok e
 obtain⟨u,hu,ru⟩:=RelO.some_of (v:=v) (o:=mA f) (by rw[← l];exact r f)
 exact jkk I.kIn O (c.get f) c.hd n hu (jgw ru) (h u _ (I.tok _) ru)
theorem jds{Q:Unit->Shared->Prop}(I:Inv X ac σ H s)(e:H a=some (.ins C dx fs))(c:Cls X.K C)(n:NoAttr X.K C f)(hl:fs.length < 1000)(ry:RelV y u)
  (h:∀s',Inv X ac σ (upd H a (.ins C dx (za f y fs))) s'->Q () s'):wpAny (model X.prog X.w) A (setAttr (.ref a) f u) Q E s:=by
 obtain⟨mA,O,r,wi,_,ho⟩:=jbR I.hok e
 have hz:(fs.map (·.1)).length≤au:=by rw[ae,fT];omega
 refine jjt I.kIn O c.sa c.po n.taker c.hd wi hz fun h' O' sb=>h _ ?_
 have hd:∃o,h'.get? dx=some o:=let ⟨o,_,_,e',_⟩:=O'.ns;⟨o,e'⟩
 refine I.write (x:=a) (e:=dx) (by rw[e];exact True.intro) (.inr ho) (fun b q hb z=>(sb.2 b hb).trans z) hd ?_
 refine⟨by rw[js O.ne];exact ho,?_,O.ne,O'.obj,_,O'.ns,fun g=>?_,fun g hg=>?_⟩
 ·have:=Zi f y fs;omega
 ·show RelO ((za f y fs).lookup g) (if g=f then some u else mA g)
  rw[Zh]
  by_cases q:g=f
  ·rw[if_pos q,if_pos q];exact ry
  ·rw[if_neg q,if_neg q];exact r g
 ·by_cases q:g=f
  ·rw[q];exact (Y7 f y fs).1
  ·refine (Y7 f y fs).2 g (wi g fun z=>hg ?_)
   show (if g=f then some u else mA g)=none
   rw[if_neg q];exact z
theorem Inv.made(I:Inv X ac σ H s):Inv X ac σ (upd (upd H s.heap.objs.size (.own (s.heap.objs.size+1))) (s.heap.objs.size+1) (.ins C s.heap.objs.size []))
  { s with heap:=(s.heap.push dE).push (eE C s.heap.objs.size) }:=by
 have e1:(s.heap.push dE).get? s.heap.objs.size=some dE:=bM s.heap rfl
 have e2:((s.heap.push dE).push (eE C s.heap.objs.size)).get? (s.heap.objs.size+1)=some (eE C s.heap.objs.size):=by
  have:=bM (s.heap.push dE) (o:=eE C s.heap.objs.size) rfl;rwa [fC]at this
 have e3:(s.heap.push dE).Ns s.heap.objs.size (fun _=>none):=⟨dE,#[],_,e1,rfl,(fun e he=>absurd he (by simp)),fun _=>rfl⟩
 have I1:=I.laid (a:=s.heap.objs.size) (o:=.own (s.heap.objs.size+1)) (h':=s.heap.push dE) (t':=s.toks) (fun b u q=>bc _ q) (av _) ⟨_,e1⟩
 refine I1.laid (a:=s.heap.objs.size+1) (o:=.ins C s.heap.objs.size []) (t':=s.toks) (fun b u q=>bc _ q) (mM (fC _ _)) ?_
 have ne:s.heap.objs.size≠s.heap.objs.size+1:=bp (mJ _)
 refine⟨by rw[js ne,jc],bm _,ne,e2,fun _=>none,(Heap.Ns1.of_empty e3).at fun o q=>bc _ q,fun _=>True.intro,fun y hy=>absurd rfl hy⟩
theorem jkw{prog:Program}{env:Env}{f:Str}(hb:dB e f env (eval e env)=eval e env)
  (h:wpAny (model prog w) A (eval e env) (fun o s₁=>wpAny (model prog w) A (getAttr o f true) Q E s₁) E s):wpAny (model prog w) A (eval (.Attribute e f pos) env) Q E s:=
 Attribute_any_ h (by rw[arm_eval_Attribute,hb])
end
def jmi(K:ah)(ta:TE)(f:Str):TE:=fun σ H Q=>ta σ H fun x H1=>∃a C dx fs v,x=.ref a/\H1 a=some (.ins C dx fs)/\Cls K C/\NoAttr K C f/\fs.lookup f=some v/\Q v H1
def jmo(K:ah)(ta tv:TE)(f:Str):TS:=fun D σ H=>tv σ H fun y H1=>ta σ H1 fun x H2=>∃a C dx fs,x=.ref a/\H2 a=some (.ins C dx fs)/\Cls K C/\NoAttr K C f/\fs.length < 1000/\
 D.nx σ (upd H2 a (.ins C dx (za f y fs)))
section
variable {o value:Expr}{f:Str}{pos' tpos:Pos}{tv:TE}
theorem jlu(he:PE X e ta)(hb:dB e f X.env (eval e X.env)=eval e X.env):PE X (.Attribute e f pos) (jmi X.K ta f):=by
 intro ac s σ H Q I h;refine jkw hb (thn (he ac s σ H _ I h) fun u s1 ⟨x,H1,I1,rx,a,C,dx,fs,v,ex,ea,c,n,l,q⟩=>?_);subst ex;obtain rfl:u=Value.ref a:=rx;exact jd5 I1 ea c n l fun u' s2 I2 ru=>⟨v,H1,I2,ru,q⟩
theorem jll(ha:PE X o ta)(hv:PE X value tv)(hs:cX value (some (.Attribute o f pos')) pos.line X.env=pure false):PS X (.Assign [.Attribute o f pos'] value pos) (jmo X.K ta tv f):=by
 intro ac s σ H D I h;refine plainObj_wpAny_Assign_Attribute (thn (hv ac s σ H _ I h) fun u s1 ⟨y,H1,I1,ry,q⟩=>thn (ha ac s1 σ H1 _ I1 q) fun ov s2 ⟨x,H2,I2,rx,a,C,dx,fs,ex,ea,c,n,l,q2⟩=>?_) hs;subst ex;obtain rfl:ov=Value.ref a:=rx;exact jds I2 ea c n l ry fun s3 I3=>⟨σ,_,I3,q2⟩
end
section
variable {σ:St}{c:Value}{b:Bool}
inductive TyOf(K:ah)(H:Hp):V->Value->Prop where
 | non:TyOf K H .non (.type "NoneType")
 | bl (x:Bool):TyOf K H (.bl x) (.type "bool")
 | int (i:Int):TyOf K H (.int i) (.type "int")
 | str (x:Str):TyOf K H (.str x) (.type "str")
 | flt (x:UInt64):TyOf K H (.flt x) (.type "float")
 | lst {a:Addr} {xs:List V} (e:H a=some (.lst xs)):TyOf K H (.ref a) (.type "list")
 | frz {a:Addr} {o:Obj} {xs:List V} (e:H a=some (.frz o (.lst xs))):TyOf K H (.ref a) (.type "list")
 | tup {a:Addr} {xs:List V} (e:H a=some (.tup xs)):TyOf K H (.ref a) (.type "tuple")
 | dK {a:Addr} {kvs:List (Key×V)} (e:H a=some (.dK kvs)):TyOf K H (.ref a) (.type "dict")
 | dT {a:Addr} {kvs:List (List Key×V)} (e:H a=some (.dT kvs)):TyOf K H (.ref a) (.type "dict")
 | ins {a C dx:Addr} {fs:List (Str×V)} (e:H a=some (.ins C dx fs)) (cl:Cls K C) (ha:bD K (.ref C) "__class__" = some (some (.builtin "object.__class__")))
   (hn:PySem.W.specialIn K (.builtin "object.__class__") "__get__" = some (some (.builtin "getset_descriptor.__get__"))) (htk:PySem.W.takesIn K (.builtin "object.__class__")=some true)
   (hm:PySem.W.mroIn K C (.type "object")=some true):TyOf K H (.ref a) (.ref C)
theorem jgr{x:V}{t:Value}(I:Inv X ac σ H s)(rx:RelV x u)(ty:TyOf X.K H x t)(e:dC X.K t c=some b)(h:∀tk,Q (.bool b) { s with toks:=tk }):
  wpAny (model X.prog X.w) A (call (.builtin "isinstance") [u,c]) Q E s:=by
 cases ty with
 | non=>cases (show u=Value.none from rx);exact cI PySem.W.kitx_none I.kIn True.intro e (fun z=>nomatch z) h
 | bl y=>cases (show u=Value.bool y from rx);exact cI PySem.W.kitx_bool I.kIn True.intro e (fun z=>nomatch z) h
 | int i=>obtain⟨t,q⟩:=(show ∃t,u=Value.int i t from rx);cases q;exact cI PySem.W.kitx_int I.kIn True.intro e (fun z=>nomatch z) h
 | str y=>obtain⟨t,q⟩:=(show ∃t,u=Value.str y t from rx);cases q;exact cI PySem.W.kitx_str I.kIn True.intro e (fun z=>nomatch z) h
 | flt y=>obtain⟨t,q⟩:=(show ∃t,u=Value.float y t from rx);cases q;exact cI PySem.W.kitx_float I.kIn True.intro e (fun z=>nomatch z) h
 | @lst a xs ea=>
  cases (show u=Value.ref a from rx)
  obtain⟨_,_,n,_,h1⟩:=(show ObjOk X.prog X.w H s.heap a (.lst xs) from I.hok a _ ea)
  exact cI ol I.kIn ⟨_,h1,rfl⟩ e (fun z=>nomatch z) h
 | @frz a ob xs ea=>
  cases (show u=Value.ref a from rx)
  obtain⟨_,_,_,n,_,h1⟩:=(show ObjOk X.prog X.w H s.heap a (.frz ob (.lst xs)) from I.hok a _ ea)
  exact cI ol I.kIn ⟨_,h1,rfl⟩ e (fun z=>nomatch z) h
 | @tup a xs ea=>
  cases (show u=Value.ref a from rx)
  obtain⟨_,_,_,p⟩:=(show ObjOk X.prog X.w H s.heap a (.tup xs) from I.hok a _ ea)
  obtain⟨o,h1,h2,_⟩:=p
  exact cI PySem.W.kitx_tuple I.kIn ⟨o,h1,h2⟩ e (fun z=>nomatch z) h
 | @dK a kvs ea=>
  cases (show u=Value.ref a from rx)
  obtain⟨_,_,vs,_,p⟩:=(show ObjOk X.prog X.w H s.heap a (.dK kvs) from I.hok a _ ea)
  obtain⟨o,es,ep,h1,h2,_⟩:=p
  exact cI om I.kIn ⟨o,h1,h2.1⟩ e (fun z=>nomatch z) h
 | @dT a kvs ea=>
  cases (show u=Value.ref a from rx)
  obtain⟨_,_,xs,_,o,es,ep,h1,h2,_⟩:=(show ObjOk X.prog X.w H s.heap a (.dT kvs) from I.hok a _ ea)
  exact cI om I.kIn ⟨o,h1,h2.1⟩ e (fun z=>nomatch z) h
 | @ins a C dx fs ea cl ha hn htk hm=>
  cases (show u=Value.ref a from rx)
  obtain⟨mA,O,_⟩:=jbR I.hok ea
  obtain⟨od,J,_⟩:=O.look
  exact cI (PySem.W.kitx_own (cl.get _) cl.hd ha hn htk hm) I.kIn J e (fun z=>nomatch z) h
end
structure Room(k:Nat)(A:Around):Prop where
 hd:A.handled=none
 dp:A.depth+3 * k+5 < recursionLimit
 un:A.units+16 * k+200 < cLine
 gd:A.guards=some []
theorem Room.mono{k:Nat}(r:Room k A)(h:j≤k):Room j A:=⟨r.hd,by have:=r.dp;omega,by have:=r.un;omega,r.gd⟩
theorem Room.deeper{k:Nat}(r:Room (k+1) A)(env:Env):Room k (A.deeper env):=
 ⟨r.hd,by have:=r.dp;show A.depth+1+3 * k+5 < _;omega,by have:=r.un;show A.units+3+16 * k+200 < _;omega,r.gd⟩
theorem Room.in1{k:Nat}(r:Room (k+1) A):Room k A.in1:=
 ⟨r.hd,by have:=r.dp;show A.depth+3 * k+5 < _;omega,by have:=r.un;show A.units+1+16 * k+200 < _;omega,r.gd⟩
theorem jdY:(A.under (.builtin "type.__call__" ⟨.ref C :: us,kw⟩)).depth=A.depth+1:=by
 first | rfl | simp[mB,Code.weight,Code.isCreation,Code.isGuard,Code.isCaller,pC,mv,guardIds]
theorem jdX:(A.under (.builtin "type.__call__" ⟨.ref C :: us,kw⟩)).units=A.units+1:=by
 first | rfl | simp[mB,Code.cUnits,pC,mv]
theorem jcP:(A.under (.builtin "type.__call__" ⟨.ref C :: us,kw⟩)).guards=A.guards:=by
 first | rfl | (cases A with | mk a b c d e=>cases d <;> rfl)
theorem Room.make{k:Nat}(r:Room (k+1) A)(C:Addr)(us:List Value)(kw:List (Str×Value)):Room k (A.under (.builtin "type.__call__" ⟨.ref C :: us,kw⟩)):=
 ⟨r.hd,by have:=r.dp;rw[jdY];omega,by have:=r.un;rw[jdX];omega,by rw[jcP];exact r.gd⟩
theorem Room.depth{k:Nat}(r:Room k A):A.depth < recursionLimit:=by have:=r.dp;omega
theorem Room.units{k:Nat}(r:Room k A):A.units+64 < cLine:=by have:=r.un;omega
def jch:TA:=fun _ H Q=>Q [] H
def Jy(ta:TE)(tr:TA):TA:=fun σ H Q=>ta σ H fun x H1=>tr σ H1 fun xs H2=>Q (x :: xs) H2
variable {es:List Expr}
section
variable {te:TE}{t:TA}
theorem qg:PA X [] jch:=fun _ _ _ _ H Q I h=>Calls.spliced_nil ⟨[],H,I,.nil,h⟩
theorem jjU(ha:PE X e te)(hr:PA X es t)(hs:aK (e :: es) X.env=(false,eval e X.env) :: aK es X.env:=by rfl):PA X (e :: es) (Jy te t):=by
 intro pos ac s σ H Q I h;rw[hs];show wpAny _ _ (spliced ((false,eval e X.env) :: bL pos (aK es X.env))) _ _ s;refine Calls.spliced_cons (thn (ha ac s σ H _ I h) fun u s1 ⟨x,H1,I1,r1,q1⟩=>?_);exact thn (hr pos ac s1 σ H1 _ I1 q1) fun us s2 ⟨xs,H2,I2,r2,q2⟩=>⟨x :: xs,H2,I2,.cons r1 r2,q2⟩
def jmc(t:TA):TE:=fun σ H Q=>t σ H fun xs H1=>xs.length≤au/\∀p,H1 p=none->Q (.ref p) (upd H1 p (.tup xs))
def jmg(t:TA):TE:=fun σ H Q=>t σ H fun xs H1=>xs.length≤au/\∀p,H1 p=none->Q (.ref p) (upd H1 p (.lst xs))
theorem jls{x1}(h:PA X es t):PE X (.Tuple es x1 pos) (jmc t):=by
 intro ac s σ H Q I hq;refine wpAny_Tuple_spliced (thn (h pos ac s σ H _ I hq) fun us s1 ⟨xs,H1,I1,r,z,q⟩=>⟨by rw[← r.length];exact z,?_⟩);have hf:H1 s1.heap.objs.size=none:=I1.hok.fresh (av _);refine⟨.ref s1.heap.objs.size,upd H1 s1.heap.objs.size (.tup xs),I1.laid (t':=s1.toks) (fun b u e=>bc _ e) (av _) ?_,rfl,q _ hf⟩;exact⟨z,us,r,⟨_,bM _ rfl,rfl,_,rfl⟩⟩
theorem jbE(h:PA X es t):PE X (.List es pos) (jmg t):=by
 intro ac s σ H Q I hq;refine wpAny_List_spliced (thn (h pos ac s σ H _ I hq) fun us s1 ⟨xs,H1,I1,r,z,q⟩=>⟨by rw[← r.length];exact z,?_⟩);have hf:H1 s1.heap.objs.size=none:=I1.hok.fresh (av _);refine⟨.ref s1.heap.objs.size,upd H1 s1.heap.objs.size (.lst xs),I1.laid (t':=s1.toks) (fun b u e=>bc _ e) (av _) ?_,rfl,q _ hf⟩;exact⟨z,us,0,r,bM _ rfl⟩
end
abbrev Sp:=List V->Hp->VK->XK->Prop
abbrev CXT:=List Env->Hp->Shared->XK->Value->Shared->Prop
structure Env0(P:Program)(w:World)(K:ah)(mg:Str->Option Value)(base:Heap)(A:Around)(outer:List Env)(s:Shared)(H:Hp):Prop where
 frames:A.frames=some outer
 mod:Mod K mg base
 bs:∀b o,base.get? b=some o->s.heap.get? b=some o/\H b=none
 bsz:base.objs.size≤s.heap.objs.size
 funs:s.heap.FunFrames base outer
 frf:∀b∈frs outer,H b=none
 hok:HOk P w H s.heap
 bare:cZ s.gens
def CE(outer:List Env)(P:Program)(w:World)(H:Hp)(s:Shared)(Q:VK)(u:Value)(s':Shared):Prop:=
 ∃v H',s'.os=s.os/\cZ s'.gens/\Un (frs outer) [] H H' s.heap s'.heap/\HOk P w H' s'.heap/\RelV v u/\Q v H'
def CR(CX:CXT)(outer:List Env)(P:Program)(w:World)(H:Hp)(s:Shared)(Q:VK)(E:XK)(r:Result)(s':Shared):Prop:=
 match r with
 | .ok (.ret u)=>CE outer P w H s Q u s'
 | .ok _=>False
 | .error e=>CX outer H s E e s'
structure FnOk(P:Program)(w:World)(K:ah)(mg:Str->Option Value)(base:Heap)(CX:CXT)(k:Nat)(f:Addr)(fd:aq)(ps:List Str)(sp:Sp):Prop where
 len:∀vs H Q E,sp vs H Q E->vs.length=ps.length
 run:∀(A:Around) (outer:List Env) (s:Shared) (H:Hp) (args:Args) (us:List Value) (vs:List V) (Q:VK) (E:XK),Room k A->Env0 P w K mg base A outer s H->ga s fd args (ps.zip us)->Vals vs us->sp vs H Q E->
  dz (model P w) A (.call (.ref f) args) (CR CX outer P w H s Q E) s
variable {mg:Str->Option Value}{base:Heap}{CX:CXT}{fd:aq}{ps:List Str}
theorem FnOk.mono{k:Nat}{sp:Sp}(F:FnOk P w K mg base CX j f fd ps sp)(h:j≤k):
  FnOk P w K mg base CX k f fd ps sp:=⟨F.len,fun A outer s H args us vs Q E hr=>F.run A outer s H args us vs Q E (hr.mono h)⟩
variable {outer:List Env}
theorem Env0.make(e:Env0 P w K mg base A outer s H)(C:Addr)(us:List Value)(kw:List (Str×Value)):
  Env0 P w K mg base (A.under (.builtin "type.__call__" ⟨.ref C :: us,kw⟩)) outer s H:=⟨by first | exact e.frames | (simpa[mB,Code.envs,mv,pushEnvs]using e.frames),e.mod,e.bs,e.bsz,e.funs,e.frf,e.hok,e.bare⟩
theorem Env0.in1(e:Env0 P w K mg base A outer s H):
  Env0 P w K mg base A.in1 outer s H:=⟨e.frames,e.mod,e.bs,e.bsz,e.funs,e.frf,e.hok,e.bare⟩
section
variable {σ:St}
theorem Inv.env0(I:Inv X ac σ H s):Env0 X.prog X.w X.K X.mg X.base X.A X.stack s H:=
 ⟨I.ok.frames,I.ok.mod,I.bs,ad I.ok.bsz I.sz,I.stack,I.stkFree,I.hok,I.bare⟩
theorem Inv.after{Q:VK}(I:Inv X ac σ H s)(h:CE X.stack X.prog X.w H s Q u s'):EP X ac σ Q u s':=by
 obtain⟨v,H',os,bare,un,hok,r,q⟩:=h;obtain⟨hh,g,d,t,os'⟩:=s';obtain rfl:os'=s.os:=os;exact⟨v,H',I.call (h':=hh) (g':=g) (d':=d) (t':=t) (ch:=[]) un hok bare (fun b z=>absurd z (by simp)),r,q⟩
end
def y6(sp:Sp)(dvs:List V)(E:XK)(t:TA):TE:=fun σ H Q=>t σ H fun vs H1=>sp (vs++dvs) H1 Q E
def jci(C:Addr)(sp:Sp)(dvs:List V)(E:XK)(t:TA):TE:=fun σ H Q=>t σ H fun vs H1=>∀x dx,H1 x=none->H1 dx=none->dx≠x->
 sp (.ref x :: (vs++dvs)) (upd (upd H1 dx (.own x)) x (.ins C dx [])) (fun v H2=>v=.non/\Q (.ref x) H2) E
def Binds(K:ah)(fd:aq)(ps:List Str)(ds:List Value):Prop:=
 ∀(s:Shared) (us:List Value),K.In s.heap->(us++ds).length=ps.length->ga s fd ⟨us,[]⟩ (ps.zip (us++ds))
theorem Binds.all(h:∀us:List Value,us.length=ps.length->bindArgs fd ⟨us,[]⟩=pure (ps.zip us)):Binds K fd ps []:=fun s us _ hl=>by
 rw[bF]at hl ⊢;exact .of_eq (h us hl)
def Yj(CX:CXT)(X:Cx)(E:XK):Prop:=∀(ac:List (Addr×Obj)) (σ:St) (H:Hp) (s:Shared) (e:Value) (s':Shared),Inv X ac σ H s->CX X.stack H s E e s'->X.xe e s'
variable {vs:List V}
section
variable {k:Nat}{sp:Sp}{dvs:List V}{ds:List Value}{E:XK}{m:Str}{p apos:Pos}{o:Expr}{t:TA}
theorem jdB{σ:St}{Q:VK}(F:FnOk X.prog X.w X.K X.mg X.base CX k f fd ps sp)(hr:Room k X.A)(hb:Binds X.K fd ps ds)(hd:Vals dvs ds)(hx:Yj CX X E)
  (I:Inv X ac σ H s) (r:Vals vs us) (h:sp (vs++dvs) H Q E):wpAny (model X.prog X.w) X.A (call (.ref f) us) (EP X ac σ Q) X.xe s:=by
 have r2:Vals (vs++dvs) (us++ds):=r.append hd
 have hl:(us++ds).length=ps.length:=by rw[← r2.length];exact F.len _ _ _ _ h
 refine lu (fV (F.run X.A X.stack s H ⟨us,[]⟩ (us++ds) (vs++dvs) Q E hr I.env0 (hb s us I.kIn hl) r2 h) fun r s' hq=>?_)
 cases r with
 | error e=>exact hx ac σ H s e s' I hq
 | ok fl=>
  cases fl with
  | ret u=>exact I.after hq
  | next=>exact cj hq
  | brk=>exact cj hq
  | cont=>exact cj hq
theorem jjT(F:FnOk X.prog X.w X.K X.mg X.base CX k f fd ps sp)(hr:Room k X.A)(hg:Gl X x)(hm:X.mg x=some (.ref f))(hk:bO X.K (.ref f)=true)(hb:Binds X.K fd ps ds)(hd:Vals dvs ds)(hx:Yj CX X E)
  (ha:PA X (e :: es) t) (hdb:(x == ("__debug__" : Str))=false:=by decide) (he:aK (e :: es) X.env=(false,eval e X.env) :: aK es X.env:=by rfl) (hpl:(bL pos (aK es X.env)).any (·.1)=false:=by rfl) :
  PE X (.Call (.Name x p) (e :: es) [] pos) (y6 sp dvs E t):=by
 intro ac s σ H Q I h
 refine d_ (YG I hg hm ?_ hdb)
 refine ox (h₀:=X.base) I.ok.mod.kin hk (thn (ha pos ac s σ H _ I h) fun us s1 ⟨vs,H1,I1,r,q⟩=>⟨I1.kIn,?_⟩) he hpl
 exact jdB F hr hb hd hx I1 r q
theorem jhG(F:FnOk X.prog X.w X.K X.mg X.base CX k f fd ps sp)(hr:Room k X.A)(hg:Gl X x)(hm:X.mg x=some (.ref f))(hk:bO X.K (.ref f)=true)(hb:Binds X.K fd ps ds)(hd:Vals dvs ds)(hx:Yj CX X E)
  (hdb:(x == ("__debug__" : Str))=false:=by decide):PE X (.Call (.Name x p) [] [] pos) (y6 sp dvs E jch):=by
 intro ac s σ H Q I h
 refine d_ (YG I hg hm ?_ hdb)
 exact ow I.kIn hk (jdB (us:=[]) F hr hb hd hx I .nil h)
structure Mk(K:ah)(C f:Addr):Prop where
 makes:iJ K C=true
 init:bD K (.ref C) "__init__" = some (some (.ref f))
 fn:PySem.W.isFn K (.ref f)=true
 kp:bO K (.ref C)=true
theorem jcv{σ:St}{Q:VK}(M:Mk X.K C f)(F:FnOk X.prog X.w X.K X.mg X.base CX k f fd ps sp)(hr:Room (k+1) X.A)(hb:Binds X.K fd ps ds)(hd:Vals dvs ds)
  (hx:Yj CX X E) (I:Inv X ac σ H s) (r:Vals vs us)
  (h:∀x dx,H x=none->H dx=none->dx≠x->sp (.ref x :: (vs++dvs)) (upd (upd H dx (.own x)) x (.ins C dx [])) (fun v H2=>v=.non/\Q (.ref x) H2) E) :
  wpAny (model X.prog X.w) X.A (call (.ref C) us) (EP X ac σ Q) X.xe s:=by
 have hq:=h (s.heap.objs.size+1) s.heap.objs.size (I.hok.fresh (eN _)) (I.hok.fresh (av _)) (bp (mJ _))
 have I2:=Inv.made (C:=C) I
 have r2:Vals (V.ref (s.heap.objs.size+1) :: (vs++dvs)) (Value.ref (s.heap.objs.size+1) :: (us++ds)):=.cons rfl (r.append hd)
 have hl:(Value.ref (s.heap.objs.size+1) :: us++ds).length=ps.length:=by
  have e:=r2.length;rw[F.len _ _ _ _ hq]at e;exact e.symm
 refine lu (jiq (f:=f) I.kIn M.makes M.init (beq_iff_eq.mp M.fn) (fV (F.run _ X.stack _ _ ⟨Value.ref (s.heap.objs.size+1) :: us,[]⟩ (Value.ref (s.heap.objs.size+1) :: (us++ds)) _ _ E (hr.make C us [])
  (I2.env0.make C us []) (hb _ (Value.ref (s.heap.objs.size+1) :: us) I2.kIn hl) r2 hq) fun r s' hq'=>?_))
 cases r with
 | error e=>exact hx ac σ _ _ e s' I2 hq'
 | ok fl=>
  cases fl with
  | ret u=>
   obtain⟨v,H',I3,rv,ev,q3⟩:=I2.after hq'
   subst ev
   exact⟨rv,⟨V.ref (s.heap.objs.size+1),H',I3,rfl,q3⟩⟩
  | next=>exact cj hq'
  | brk=>exact cj hq'
  | cont=>exact cj hq'
theorem jjO(M:Mk X.K C f)(F:FnOk X.prog X.w X.K X.mg X.base CX k f fd ps sp)(hr:Room (k+1) X.A)(hg:Gl X x)(hm:X.mg x=some (.ref C))(hb:Binds X.K fd ps ds)(hd:Vals dvs ds)(hx:Yj CX X E)
  (ha:PA X (e :: es) t) (hdb:(x == ("__debug__" : Str))=false:=by decide) (he:aK (e :: es) X.env=(false,eval e X.env) :: aK es X.env:=by rfl) (hpl:(bL pos (aK es X.env)).any (·.1)=false:=by rfl) :
  PE X (.Call (.Name x p) (e :: es) [] pos) (jci C sp dvs E t):=by
 intro ac s σ H Q I h
 refine d_ (YG I hg hm ?_ hdb)
 refine ox (h₀:=X.base) I.ok.mod.kin M.kp (thn (ha pos ac s σ H _ I h) fun us s1 ⟨vs,H1,I1,r,q⟩=>⟨I1.kIn,?_⟩) he hpl
 exact jcv M F hr hb hd hx I1 r q
theorem jhD(M:Mk X.K C f)(F:FnOk X.prog X.w X.K X.mg X.base CX k f fd ps sp)(hr:Room (k+1) X.A)(hg:Gl X x)(hm:X.mg x=some (.ref C))(hb:Binds X.K fd ps ds)(hd:Vals dvs ds)(hx:Yj CX X E)
  (hdb:(x == ("__debug__" : Str))=false:=by decide):PE X (.Call (.Name x p) [] [] pos) (jci C sp dvs E jch):=by
 intro ac s σ H Q I h
 refine d_ (YG I hg hm ?_ hdb)
 exact ow I.kIn M.kp (jcv (us:=[]) M F hr hb hd hx I .nil h)
end
structure FnScope(N P:List Str)(sc:Scope):Prop where
 kind:sc.kind=.function
 co:sc.isCoroutine=false
 gen:sc.isGenerator=false
 nd:N.Nodup
 pre:N.take P.length=P
 par:∀x∈P,sc.names.lookup x=some .local∨sc.names.lookup x=some .cell
 nofree:∀y∈sc.names,y.2≠.free
theorem ja9{kindOf:Str->Option cv}{x:Str}:∀{binds:List (Str×Value)} {m:Str->Option Value},(∀v,(x,v) ∉ binds)->bindL kindOf binds m x=m x
 | [],_,_=>rfl
 | (n,v) :: r,m,h=>by
  unfold bindL;rw[ja9 fun w hw=>h w (ao _ hw)];split
  ·have:x≠n:=by rintro rfl;exact h v am
   simp[this]
  ·rfl
theorem jbb{kindOf:Str->Option cv}{x:Str}:∀{binds:List (Str×Value)} {m:Str->Option Value},(∀v,(x,v) ∉ binds)->bindC kindOf binds m x=m x
 | [],_,_=>rfl
 | (n,v) :: r,m,h=>by
  unfold bindC;rw[jbb fun w hw=>h w (ao _ hw)];split
  ·rfl
  ·have:x≠n:=by rintro rfl;exact h v am
   simp[this]
theorem jba{kindOf:Str->Option cv}{x:Str}{v:Value}:∀{P:List Str} {vs:List Value} {i:Nat} {m:Str->Option Value},P.Nodup->P[i]?=some x->vs[i]?=some v->kindOf x=some .local->
  bindL kindOf (P.zip vs) m x=some v
 | [],_,_,_,_,h,_,_=>by simp at h
 | _ :: _,[],_,_,_,_,h,_=>by simp at h
 | p :: P,w :: vs,0,m,nd,h1,h2,hk=>by
  simp at h1 h2;subst h1;subst h2;show bindL kindOf ((p,w) :: P.zip vs) m p=_;unfold bindL;rw[ja9 fun v hv=>(aP.mp nd).1 (mQ hv).1,if_pos hk];simp
 | p :: P,w :: vs,i+1,m,nd,h1,h2,hk=>by
  show bindL kindOf ((p,w) :: P.zip vs) m x=_;unfold bindL;exact jba (i:=i) (aP.mp nd).2 (by simpa using h1) (by simpa using h2) hk
theorem jbc{kindOf:Str->Option cv}{x:Str}{v:Value}:∀{P:List Str} {vs:List Value} {i:Nat} {m:Str->Option Value},P.Nodup->P[i]?=some x->vs[i]?=some v->kindOf x≠some .local->
  bindC kindOf (P.zip vs) m x=some v
 | [],_,_,_,_,h,_,_=>by simp at h
 | _ :: _,[],_,_,_,_,h,_=>by simp at h
 | p :: P,w :: vs,0,m,nd,h1,h2,hk=>by
  simp at h1 h2;subst h1;subst h2;show bindC kindOf ((p,w) :: P.zip vs) m p=_;unfold bindC;rw[jbb fun v hv=>(aP.mp nd).1 (mQ hv).1,if_neg hk];simp
 | p :: P,w :: vs,i+1,m,nd,h1,h2,hk=>by
  show bindC kindOf ((p,w) :: P.zip vs) m x=_;unfold bindC;exact jbc (i:=i) (aP.mp nd).2 (by simpa using h1) (by simpa using h2) hk
def Yp(N:List Str)(vs:List V):St:=vs.map some++aC (N.length - vs.length) none
def qo(CX:CXT)(P:Program)(w:World)(K:ah)(mg:Str->Option Value)(base:Heap)(N:List Str)(qual:Str)(scope:Scope)(f:Addr)(cd:Value)(A:Around)(outer:List Env)(s:Shared)(H:Hp)(E:XK):Cx where
 prog:=P
 w:=w
 K:=K
 mg:=mg
 base:=base
 A:=A.deeper (envOfC qual scope s.heap.objs.size f cd)
 N:=N
 s₀:=s
 H₀:=H
 env:=envOfC qual scope s.heap.objs.size f cd
 outer:=outer
 stack:=envOfC qual scope s.heap.objs.size f cd :: outer
 ex:=[]
 calm:=true
 fn:=fun _=>true
 pn:=[]
 xe:=fun e s'=>wpAny (model P w) (A.deeper (envOfC qual scope s.heap.objs.size f cd)) (leaving (envOfC qual scope s.heap.objs.size f cd) e) (fun _ s''=>CX outer H s E e s'') (fun e' s''=>CX outer H s E e' s'') s'
theorem jdc{sc:Scope}{n:Nat}(h:sc.names.lookup x=some .cell):∃c,(lM n sc.names []).lookup x=some c:=by
 have q:=ou sc.names n [] (.inl h);exact gG.mp q
theorem jgs{N:List Str}{qual:Str}{scope:Scope}{cd:Value}{s1:Shared}{E:XK}
  (S:FnScope N ps scope) (hd:A.handled=none) (e0:Env0 P w K mg base A outer s H) (hl:vs.length=ps.length) (r:Vals vs us)
  (x:InCallC s s.heap.objs.size (bindL (envOfC qual scope s.heap.objs.size f cd).kindOf (ps.zip us) fun _=>none) (lM (s.heap.objs.size+1) scope.names []) (bindC (envOfC qual scope s.heap.objs.size f cd).kindOf (ps.zip us) fun _=>none) s1) :
  Inv (qo CX P w K mg base N qual scope f cd A outer s H E) [] (Yp N vs) H s1:=by
 have hpl:ps.length≤N.length:=by have:=congrArg cC S.pre;rw[cA]at this;omega
 obtain⟨h1,tk,rfl,hk⟩:=x.done
 have noA:∀b:Addr,b ∉ (qo CX P w K mg base N qual scope f cd A outer s H E).ex:=fun b z=>absurd (show b∈([]:List Addr) from z) (by simp)
 refine⟨⟨e0.mod,S.kind,rfl,rfl,av _,fun y z c h1 h2=>?_,fun y hy=>?_,fun y c _ h=>?_,fun _=>hd,Around.frames_deeper e0.frames,.inr ⟨rfl,rfl⟩,fun b z=>absurd z (noA b),e0.bs,e0.bsz,fun b _ _=>noA b,fun b z=>absurd z (noA b),e0.funs,e0.frf⟩,
  rfl,e0.bare,Un.kept hk,⟨_,x.toInCall.ns,fun i y v h1 h2 h3=>?_⟩,fun y c h=>⟨_,x.cell y c h⟩,e0.hok.fresh (av _),fun y c h=>?_,fun p hp=>absurd (show p∈([]:List (Addr×Obj)) from hp) (by simp),e0.hok.kept hk,?_⟩
 ·exact name_of_addr x.apart (eB h1) (eB h2)
 ·have hy:scope.names.lookup y=some .cell∨scope.names.lookup y=some .free:=hy
  rcases hy with hy | hy
  ·exact jdc hy
  ·exact absurd rfl (S.nofree _ (eB hy))
 ·exact bE (x.above y c (eB h))
 ·have hi:i < vs.length:=by
   unfold Yp at h2;by_cases hi:i < vs.length
   ·exact hi
   ·rw[gT (by simpa using hi)]at h2
    rw[List.getElem?_replicate]at h2;split at h2 <;> cases h2
  have ha:vs[i]?=some v:=by
   unfold Yp at h2;rw[gU (by simpa using hi),bq]at h2
   cases e:vs[i]? with
   | none=>rw[e]at h2;cases h2
   | some a=>rw[e]at h2;cases h2;rfl
  obtain⟨u,hu,rv⟩:=r.get ha;have hp:ps[i]?=some y:=by
   rw[← S.pre,List.getElem?_take_of_lt (by omega)];exact h1
  have ndP:ps.Nodup:=by rw[← S.pre];exact S.nd.sublist (List.take_sublist _ _)
  refine⟨u,rv,?_⟩;rcases S.par y (dh hp) with k | k
  ·exact .inl ⟨k,jba ndP hp hu k⟩
  ·obtain⟨c,e⟩:=jdc (n:=s.heap.objs.size+1) k
   refine .inr ⟨.inl k,c,e,?_⟩;have q:=x.cell y c e;rw[jbc ndP hp hu (by show scope.names.lookup y≠_;rw[k];decide)]at q;exact q
 ·exact e0.hok.fresh (bE (x.above y c (eB h)))
 ·unfold Yp
  show _=N.length
  rw[af,ae,dM]
  omega
theorem jmM{k:Nat}{name qual:Str}{params:Arguments}{body:List Stmt}{scope:Scope}{dV kV doc pm aj ct oc:Value}{an od:Option Addr}
  {osl:Array (Option Value)} {N ps:List Str} {sp:Sp} (lk:K.lookup f=some ⟨oc,od,.func (cY name qual params body scope dV kV doc pm an aj ct),osl⟩) (hcd:fk K aj qual=true) (S:FnScope N ps scope)
  (len:∀vs H Q E,sp vs H Q E->vs.length=ps.length)
  (hbody:∀(A:Around) (outer:List Env) (s:Shared) (H:Hp) (vs:List V) (Q:VK) (E:XK),Room k (A.deeper (envOfC qual scope s.heap.objs.size f aj))->sp vs H Q E->
   ∃t,PSs (qo CX P w K mg base N qual scope f aj A outer s H E) body t/\t { nx:=fun _ H'=>Q .non H',rt:=Q } (Yp N vs) H) :
  FnOk P w K mg base CX (k+1) f (cY name qual params body scope dV kV doc pm an aj ct) ps sp:=by
 refine⟨len,fun A outer s H args us vs Q E hr e0 hb r hsp=>?_⟩
 have hl:=len _ _ _ _ hsp
 have KX:K.In s.heap:=e0.mod.kin.keeps fun b o e=>(e0.bs b o e).1
 have lim:s.heap.NoLimit:=e0.mod.nolimit.keeps fun b o e=>(e0.bs b o e).1
 have hkind:∀y∈ps.zip us,scope.names.lookup y.1=some .local∨(scope.names.lookup y.1=some .cell/\((lM (s.heap.objs.size+1) scope.names []).lookup y.1).isSome=true):=fun⟨n,v⟩ hy=>by
  rcases S.par n (mQ hy).1 with q | q
  ·exact .inl q
  ·exact .inr ⟨q,ou _ _ _ (.inl q)⟩
 refine codeAny_call_function hr.depth (KX _ _ lk) rfl S.co S.gen rfl (PySem.W.codeRec_of KX hcd) (hb _ _ _ _ ?_)
 refine wpAny_newFunctionEnv_cells S.kind hkind fun env he s1 x=>?_
 subst he
 refine⟨lim.keeps x.toInCall.keep,codeAny_func ?_⟩
 obtain⟨t,ht,hq⟩:=hbody A outer s H vs Q E (hr.deeper _) hsp
 have I:Inv (qo CX P w K mg base N qual scope f aj A outer s H E) [] (Yp N vs) H s1:=jgs S hr.hd e0 hl r x
 refine bU (ht [] s1 (Yp N vs) H _ I hq) (fun fl s' hs=>?_) fun e s' hs=>hs
 have fin:∀{σ':St} {H':Hp} {v:V} {u:Value},Inv (qo CX P w K mg base N qual scope f aj A outer s H E) [] σ' H' s'->RelV v u->Q v H'->CE outer P w H s Q u s':=
  fun {σ' H' v u} J rv q=>⟨v,H',J.os,J.bare,J.base,J.hok,rv,q⟩
 cases fl with
 | ret u=>
  obtain⟨v,σ',H',J,rv,q⟩:=hs
  exact fin J rv q
 | next=>
  obtain⟨σ',H',J,q⟩:=hs
  exact fin (v:=V.non) (u:=Value.none) J rfl q
 | brk=>
  obtain⟨_,_,_,q⟩:=hs
  exact cj q
 | cont=>
  obtain⟨_,_,_,q⟩:=hs
  exact cj q
section
variable {p:Pos}{t:TA}{id T:String}{r:List V->Hp->VK->Prop}
def tCB(r:List V->Hp->VK->Prop)(t:TA):TE:=fun σ H Q=>t σ H fun vs H1=>r vs H1 Q
theorem jhF(hc:zE X (.builtin id) r)(hg:Gl X x)(hm:X.mg x=none)(hv:bu x=some (.builtin id))(ha:PA X (e :: es) t)(hn:x≠"__name__":=by decide)(hdb:(x == ("__debug__" : Str))=false:=by decide)
  (he:aK (e :: es) X.env=(false,eval e X.env) :: aK es X.env:=by rfl) (hpl:(bL pos (aK es X.env)).any (·.1)=false:=by rfl):PE X (.Call (.Name x p) (e :: es) [] pos) (tCB r t):=by
 intro ac s σ H Q I h
 refine d_ (jaf I hg hm hv ?_ hn hdb)
 exact PyProof.Rows.callWith_builtin1 (thn (ha pos ac s σ H _ I h) fun us s1 ⟨vs,H1,I1,r1,q1⟩=>hc ac s1 σ H1 vs us Q I1 r1 q1) he hpl
theorem jfR(hc:zE X (.type T) r)(hg:Gl X x)(hm:X.mg x=none)(hv:bu x=some (.type T))(ha:PA X (e :: es) t)(hn:x≠"__name__":=by decide)(hdb:(x == ("__debug__" : Str))=false:=by decide)
  (he:aK (e :: es) X.env=(false,eval e X.env) :: aK es X.env:=by rfl) (hpl:(bL pos (aK es X.env)).any (·.1)=false:=by rfl):PE X (.Call (.Name x p) (e :: es) [] pos) (tCB r t):=by
 intro ac s σ H Q I h
 refine d_ (jaf I hg hm hv ?_ hn hdb)
 exact pV (thn (ha pos ac s σ H _ I h) fun us s1 ⟨vs,H1,I1,r1,q1⟩=>hc ac s1 σ H1 vs us Q I1 r1 q1) he hpl
end
end L2
namespace HT
open PySem PyProof.Rows
section
variable {prog:Program}{w:World}{A:Around}{E:Value->Shared->Prop}{s:Shared}
def sIx(n d:Nat):Option Int->Nat
 | none=>d
 | some v=>if v < 0 then (v+(n:Int)).toNat else min v.toNat n
theorem sIx_none(n d:Nat):sIx n d none=d:=rfl
theorem sIx_nat(n d k:Nat):sIx n d (some (k:Int))=min k n:=by
 show (if (k:Int) < 0 then ((k:Int)+(n:Int)).toNat else min (k:Int).toNat n)=min k n;rw[if_neg (by omega),bS]
theorem sIx_le(n d:Nat)(hd:d≤n)(o:Option Int):sIx n d o≤n:=by
 cases o with
 | none=>exact hd
 | some v=>
  show (if v < 0 then (v+(n:Int)).toNat else min v.toNat n)≤n;by_cases hv:v < 0
  ·rw[if_pos hv];omega
  ·rw[if_neg hv];exact Nat.min_le_right _ _
theorem jft(v:Int)(n d:Nat):(if v < 0 then max (v+(n:Int)) 0 else min v (n:Int))=((sIx n d (some v):Nat):Int):=by
 show (if v < 0 then max (v+(n:Int)) 0 else min v (n:Int))=(((if v < 0 then (v+(n:Int)).toNat else min v.toNat n):Nat):Int);by_cases hv:v < 0
 ·simp only[if_pos hv];omega
 ·simp only[if_neg hv];omega
theorem jeo(lo hi:Option Int)(n:Nat):mz lo hi 1 (n:Int)=(((sIx n 0 lo:Nat):Int),((sIx n n hi:Nat):Int)):=by
 have h1:¬((1:Int) < 0):=by omega
 unfold mz;simp only[h1,if_false];refine Prod.ext ?_ ?_
 ·cases lo with
  | none=>rfl
  | some v=>exact jft v n 0
 ·cases hi with
  | none=>rfl
  | some v=>exact jft v n n
theorem jdH(i j:Nat):iT (i:Int) (j:Int) 1=j - i:=by
 unfold iT;have h1:(1:Int) > 0:=by omega
 simp only[h1,if_true,Int.ediv_one];split <;> omega
theorem ZV{v:Value}{o:Option Int}{Q:Option Int->Shared->Prop}(p:eG v o)(h:Q o s):wpAny (model prog w) A (Builtin.Slice.slicePartIndex v) Q E s:=by
 cases p with
 | none=>exact slicePart_none h
 | int i t=>exact slicePart_int h
theorem YU{sl:Addr}{vl vu:Value}{lo hi:Option Int}{n:Nat}{Q:Int×Int×Nat->Shared->Prop}(hs:s.heap.IsSliceOf sl vl vu .none)(pl:eG vl lo)(pu:eG vu hi)
  (h:Q (((sIx n 0 lo:Nat):Int),1,sIx n n hi - sIx n 0 lo) s):wpAny (model prog w) A (pK (.ref sl) (pure (n:Int))) Q E s:=by
 obtain⟨os,hos,hcs,hds⟩:=id hs
 unfold pK Builtin.Slice.sliceFields
 refine az (az (dy hos hds (x:=vl) rfl (az (dy hos hds (x:=vu) rfl (az (dy hos hds (x:=.none) rfl (aL ?_)))))))
 refine az (slicePart_none ?_)
 show wpAny _ _ (if ((1:Int) == 0)=true then _ else _) _ _ s
 rw[if_neg (by decide)]
 refine az (ZV pl (az (ZV pu (az (aL ?_)))))
 show wpAny _ _ (match mz lo hi 1 (n:Int) with | (lo,hi)=>pure (lo,(1:Int),iT lo hi 1)) _ _ s
 rw[jeo lo hi n]
 show wpAny _ _ (pure (((sIx n 0 lo:Nat):Int),(1:Int),iT ((sIx n 0 lo:Nat):Int) ((sIx n n hi:Nat):Int) 1)) _ _ s
 rw[jdH]
 exact aL h
theorem jhx(xs:Array Value)(i k:Nat):((b9 k).filterMap fun (m:Nat)=>xs[((i:Int)+(m:Int) * 1).toNat]?).toArray=((xs.toList.drop i).take k).toArray:=by
 have e:(fun (m:Nat)=>xs[((i:Int)+(m:Int) * 1).toNat]?)=fun m=>xs[i+m]?:=by
  funext m;have:((i:Int)+(m:Int) * 1).toNat=i+m:=by omega
  rw[this]
 rw[e];have:=pick_run xs i k;rw[List.filterMap_map]at this;have e2:((fun x=>xs[x]?) ∘ fun x=>i+x)=fun m=>xs[i+m]?:=rfl
 rw[e2]at this;rw[this]
theorem getItem_tuple_cut{t sl:Addr}{items:Array Value}{vl vu:Value}{lo hi:Option Int}{Q:Value->Shared->Prop}(ht:IsTup s.heap t items)(hs:s.heap.IsSliceOf sl vl vu .none)(pl:eG vl lo)(pu:eG vu hi)
  (hw:¬(sIx items.size 0 lo=0/\sIx items.size items.size hi=items.size))
  (h:Q (.ref s.heap.objs.size) { s with heap:=s.heap.push { cls:=.type "tuple",data:=.seq ((items.toList.drop (sIx items.size 0 lo)).take (sIx items.size items.size hi - sIx items.size 0 lo)).toArray } })
  (hsz:items.size≤au):wpAny (model prog w) A (eC (.ref t) (.ref sl)) Q E s:=by
 have htake:sizeOk (.seq ((items.toList.drop (sIx items.size 0 lo)).take (sIx items.size items.size hi - sIx items.size 0 lo)).toArray):=by
  show ((items.toList.drop (sIx items.size 0 lo)).take (sIx items.size items.size hi - sIx items.size 0 lo)).toArray.size≤au;rw[aZ,cA,cB,gg];omega
 have hj:sIx items.size items.size hi≤items.size:=sIx_le _ _ (av _) hi
 obtain⟨os,hos,hcs,hds⟩:=id hs
 have hTs:s.TypeIs (.ref sl) "slice":=⟨os,hos,hcs⟩
 unfold eC
 try with_reducible refine fR ?_
 first | refine az (aL ?_) | skip
 refine az (wpAny_sequenceKey ht.typeIs (by decide) ?_)
 refine az (lq (name:=aa "__getitem__") ht.typeIs mD
  (ln mD ht.typeIs entry_tuple_getitem ?_ (args_tuple_getitem _ _)))
 show wpAny _ _ (Builtin.Tuple.tupleItemsOf (.ref t) >>= _) _ _ s
 refine az (tupleItemsOf_ ht ?_)
 refine az (wpAny_typeOf hTs ?_)
 rw[if_pos (by decide)]
 refine az (YU hs pl pu ?_)
 have hno:¬((((sIx items.size 0 lo:Nat):Int) == 0 && (1:Int) == 1 && (sIx items.size items.size hi - sIx items.size 0 lo) == items.size)=true):=by
  intro q;rw[bg,bg]at q;have q1:((sIx items.size 0 lo:Nat):Int)=0:=m8 q.1.1;have q2:sIx items.size items.size hi - sIx items.size 0 lo=items.size:=m8 q.2;exact hw ⟨by omega,by omega⟩
 show wpAny _ _ (if (((sIx items.size 0 lo:Nat):Int) == 0 && (1:Int) == 1 && (sIx items.size items.size hi - sIx items.size 0 lo) == items.size)=true then _ else _) _ _ s
 rw[if_neg hno,jhx]
 first
  | exact az (m:=iS _) (fP (aL ⟨_,rfl,aL h⟩) htake)
  | exact az (m:=iS _) (fP (az (aL (aL ⟨_,rfl,aL h⟩))) htake)
  | exact az (az (m:=iS _) (fP (aL (aL ⟨_,rfl,aL h⟩)) htake))
  | exact az (az (m:=iS _) (fP (aL ⟨_,rfl,aL h⟩) htake))
end
end HT
namespace L2
open PySem PySem.Spec PyProof.Rows
abbrev TO:=St->Hp->(Option Int->Hp->Prop)->Prop
def PO(X:Cx)(e:Option Expr)(t:TO):Prop:=
 ∀(ac:List (Addr×Obj)) (s:Shared) (σ:St) (H:Hp) (Q:Option Int->Hp->Prop),Inv X ac σ H s->t σ H Q->
  wpAny (model X.prog X.w) X.A (evalPart e X.env) (fun u s'=>∃o H',Inv X ac σ H' s'/\eG u o/\Q o H') X.xe s
def jeu:TO:=fun _ H Q=>Q none H
def jkF(t:TE):TO:=fun σ H Q=>t σ H fun x H1=>∃i,x=.int i/\Q (some i) H1
variable {X:Cx}{e:Expr}{pos:Pos}
section
variable {te:TE}{lo hi:Option Expr}{tl th:TO}{p2:Pos}
theorem jjK:PO X none jeu:=by
 intro ac s σ H Q I h;rw[evalPart_none];exact aL ⟨none,H,I,.none,h⟩
theorem jjJ(h:PE X e te):PO X (some e) (jkF te):=by
 intro ac s σ H Q I hw;rw[evalPart_some];refine thn (h ac s σ H _ I hw) fun u s1 ⟨x,H1,I1,r1,q1⟩=>?_
 obtain⟨i,rfl,q⟩:=q1;obtain⟨t,rfl⟩:=r1;exact⟨some i,H1,I1,.int i t,q⟩
def SlR(X:Cx)(r:V->Option Int->Option Int->Hp->VK->Prop):Prop:=
 ∀(ac:List (Addr×Obj)) (s:Shared) (σ:St) (H:Hp) (x:V) (v vl vu:Value) (lo hi:Option Int) (sl:Addr) (Q:VK),Inv X ac σ H s->RelV x v->s.heap.IsSliceOf sl vl vu .none->eG vl lo->eG vu hi->r x lo hi H Q->
  ∃T id,lC (.type T) "__getitem__" = pure (some (.builtin id))/\s.TypeIs v T/\wpAny (model X.prog X.w) X.A (eC v (.ref sl)) (EP X ac σ Q) X.xe s
def tSl(r:V->Option Int->Option Int->Hp->VK->Prop)(te:TE)(tl th:TO):TE:=fun σ H Q=>te σ H fun x H1=>tl σ H1 fun l H2=>th σ H2 fun u H3=>r x l u H3 Q
theorem jhB{r:V->Option Int->Option Int->Hp->VK->Prop}(hr:SlR X r)(he:PE X e te)(hl:PO X lo tl)(hu:PO X hi th):PE X (.Subscript e (.Slice lo hi none p2) pos) (tSl r te tl th):=by
 intro ac s σ H Q I h;refine mF (thn (he ac s σ H _ I h) fun v s1 ⟨x,H1,I1,r1,q1⟩=>?_);refine wpAny_Slice (thn (hl ac s1 σ H1 _ I1 q1) fun vl s2 ⟨l,H2,I2,pl,q2⟩=>thn (hu ac s2 σ H2 _ I2 q2) fun vu s3 ⟨u,H3,I3,pu,q3⟩=>?_);rw[evalPart_none];refine aL ?_;have I4:Inv X ac σ H3 { s3 with heap:=s3.heap.push { cls:=.type "slice",data:=.fields #[vl,vu,.none] } }:=I3.kept (t':=s3.toks) fun b ob q=>bc _ q
 obtain⟨T,id,hT,ht,hg⟩:=hr ac { s3 with heap:=s3.heap.push { cls:=.type "slice",data:=.fields #[vl,vu,.none] } } σ H3 x v vl vu l u s3.heap.objs.size Q I4 r1 (Heap.IsSliceOf.new ..) pl pu q3;show wpAny (model X.prog X.w) X.A (mC e (.Slice lo hi none p2) v (.ref s3.heap.objs.size)) (EP X ac σ Q) X.xe { s3 with heap:=s3.heap.push { cls:=.type "slice",data:=.fields #[vl,vu,.none] } };exact tail_any (ops:=[.ref s3.heap.objs.size,v]) ht hT hg (by with_unfolding_all rfl)
def qw(xs:List V)(lo hi:Option Int):List V:=(xs.drop (HT.sIx xs.length 0 lo)).take (HT.sIx xs.length xs.length hi - HT.sIx xs.length 0 lo)
theorem Zl(xs:List V)(lo hi:Option Int):(qw xs lo hi).length≤xs.length:=by
 unfold qw;rw[cA,cB];omega
def jmT(K:ah):V->Option Int->Option Int->Hp->VK->Prop:=fun x lo hi H Q=>∃a xs,x=.ref a/\SqT K H a xs/\
 ¬(HT.sIx xs.length 0 lo=0/\HT.sIx xs.length xs.length hi=xs.length)/\∀p,H p=none->Q (.ref p) (upd H p (.tup (qw xs lo hi)))
theorem Jp:SlR X (jmT X.K):=by
 intro ac s σ H x v vl vu lo hi sl Q I rx hs pl pu h;obtain⟨a,xs,rfl,hx,hw,q⟩:=h
 cases rx
 obtain⟨its,r,ht,hz⟩:=I.tuple hx;have hlen:its.toArray.size=xs.length:=by rw[aZ];exact r.length.symm
 refine⟨"tuple",_,mD.lookup,ht.typeIs,?_⟩;refine HT.getItem_tuple_cut ht hs pl pu (by rw[hlen];exact hw) ?_ (by rw[hlen];exact hz);rw[hlen];refine⟨.ref s.heap.objs.size,_,I.laid (t':=s.toks) (o:=.tup (qw xs lo hi)) (fun b ob q=>bc _ q) (av _) ?_,rfl,q _ (I.hok.fresh (av _))⟩;exact⟨ad (Zl xs lo hi) hz,_,(r.drop (HT.sIx xs.length 0 lo)).take (HT.sIx xs.length xs.length hi - HT.sIx xs.length 0 lo),IsTup.new _ _⟩
end
def ixN(n:Nat)(i:Int):Option Nat:=if 0≤i then (if i < n then some i.toNat else none) else if -(n:Int)≤i then some (i+n).toNat else none
def atI{α:Type}(xs:List α)(i:Int):Option α:=(ixN xs.length i).bind fun j=>xs[j]?
variable {n:Nat}
theorem jfb{i:Int}{j:Nat}(h:ixN n i=some j):iB i n=some j/\j < n/\-(n:Int)≤i/\i < n:=by
 unfold ixN at h;by_cases h0:0≤i
 ·rw[if_pos h0]at h
  by_cases h1:i < n
  ·rw[if_pos h1]at h
   have e:i.toNat=j:=bP h;exact⟨by rw[lG h0 h1,e],by omega,by omega,h1⟩
  ·rw[if_neg h1]at h;cases h
 ·rw[if_neg h0]at h
  by_cases h1:-(n:Int)≤i
  ·rw[if_pos h1]at h
   have e:(i+n).toNat=j:=bP h;exact⟨by rw[seqIndex_neg (by omega) h1,e],by omega,h1,by omega⟩
  ·rw[if_neg h1]at h;cases h
variable {α:Type}
theorem jb7{xs:List α}{i:Int}{v:α}(h:atI xs i=some v):∃j,iB i xs.length=some j/\xs[j]?=some v/\j < xs.length/\-(xs.length:Int)≤i/\i < xs.length:=by
 unfold atI at h
 cases e:ixN xs.length i with
 | none=>rw[e]at h;cases h
 | some j=>
  rw[e]at h;obtain⟨h1,h2,h3,h4⟩:=jfb e;exact⟨j,h1,h,h2,h3,h4⟩
theorem jr{xs:List α}{j:Nat}{v:α}(h:xs[j]?=some v):atI xs (j:Int)=some v:=by
 have hj:j < xs.length:=(bx.mp h).1;have e:ixN xs.length (j:Int)=some j:=by
  unfold ixN;rw[if_pos (by omega),if_pos (by omega)];simp
 unfold atI;rw[e];exact h
theorem ji9(xs:List α)(v:α):atI (xs++[v]) (-1)=some v:=by
 have hl:(xs++[v]).length=xs.length+1:=by simp
 have e:ixN (xs++[v]).length (-1)=some xs.length:=by
  unfold ixN;rw[hl,if_neg (by decide),if_pos (by omega)];congr 1;omega
 unfold atI;rw[e];show (xs++[v])[xs.length]?=some v;simp
def jfD(b:Expr):Prop:=∀o i,subscripted b false o i=operate [o,i] (eC o i)
def IxR(X:Cx)(r:R2):Prop:=
 ∀(value slice:Expr) (ac:List (Addr×Obj)) (s:Shared) (σ:St) (H:Hp) (x y:V) (v u:Value) (Q:VK),Inv X ac σ H s->RelV x v->RelV y u->r x y H Q->
  subscripted slice false v u=operate [v,u] (eC v u)->wpAny (model X.prog X.w) X.A (mC value slice v u) (EP X ac σ Q) X.xe s
def MtR(X:Cx)(id:String)(r:V->List V->Hp->VK->Prop):Prop:=
 ∀(ac:List (Addr×Obj)) (s:Shared) (σ:St) (H:Hp) (x:V) (xs:List V) (v:Value) (us:List Value) (Q:VK),Inv X ac σ H s->RelV x v->Vals xs us->r x xs H Q->
  wpAny (model X.prog X.w) X.A (call (.builtin id) (v :: us)) (EP X ac σ Q) X.xe s
variable {ac:List (Addr×Obj)}{H:Hp}{s:Shared}{xs:List V}{its:List Value}{A:Around}{y x:V}{u:Value}{T:String}
section
variable {a b:Expr}{ta tb:TE}
theorem Jz{r:R2}(hr:IxR X r)(ha:PE X a ta)(hb:PE X b tb)(hs:jfD b):PE X (.Subscript a b pos) (tOp r ta tb):=by
 intro ac s σ H Q I h;exact mF (jl7 ha hb I h fun v u s2 x y H2 I2 rx ry q=>hr a b ac s2 σ H2 x y v u Q I2 rx ry q (hs _ _))
def jms(K:ah):R2:=fun x y H Q=>∃p xs i v,x=.ref p/\y=.int i/\SqL K H p xs/\atI xs i=some v/\Q v H
def jmr(K:ah):R2:=fun x y H Q=>∃p xs i v,x=.ref p/\y=.int i/\SqT K H p xs/\atI xs i=some v/\Q v H
def jmX:R2:=fun x y H Q=>∃z i c,x=.str z/\y=.int i/\z.length≤au/\atI z.cps.toList i=some c/\Q (.str ⟨#[c]⟩) H
theorem j9:IxR X (jms X.K):=by
 intro value slice ac s σ H x y v u Q I rx ry h hs;obtain⟨p,xs,i,z,rfl,rfl,hq,he,q⟩:=h
 cases rx
 obtain⟨t,rfl⟩:=ry;obtain⟨its,r,pl,hz⟩:=I.list hq;obtain⟨j,h1,h2,h3,h4,h5⟩:=jb7 he;obtain⟨w,ew,rw'⟩:=r.get h2;have hl:=r.length;have hn:=Ye;have fin:EP X ac σ Q w s:=⟨z,H,I,rw',q⟩
 by_cases h0:0≤i
 ·have hj:i.toNat=j:=by
   rw[lG h0 h5]at h1;exact bP h1
  exact item_listR pl.isList h0 (by omega) (by rw[hj];simpa using ew) fin hs
 ·have hj:(i+(its.toArray.size:Int)).toNat=j:=by
   rw[seqIndex_neg (by omega) h4]at h1;rw[aZ,← hl];exact bP h1
  exact pO (x:=w) pl.isList.typeIs nH.lookup
   (wpAny_getItem_list_neg (Q:=fun r s'=>r=w/\EP X ac σ Q r s') pl.isList (by omega) (by rw[aZ] <;> omega) (by omega) (by rw[hj];simpa using ew) ⟨rfl,fin⟩) hs
theorem jE:IxR X (jmr X.K):=by
 intro value slice ac s σ H x y v u Q I rx ry h hs;obtain⟨p,xs,i,z,rfl,rfl,hq,he,q⟩:=h
 cases rx
 obtain⟨t,rfl⟩:=ry;obtain⟨its,r,pl,hz⟩:=I.tuple hq;obtain⟨j,h1,h2,h3,h4,h5⟩:=jb7 he;obtain⟨w,ew,rw'⟩:=r.get h2;have hl:=r.length;have hn:=Ye;have fin:EP X ac σ Q w s:=⟨z,H,I,rw',q⟩
 exact pO (x:=w) pl.typeIs slot_tuple_getitem.lookup
  (getItem_tuple (j:=j) (Q:=fun r s'=>r=w/\EP X ac σ Q r s') pl (by omega) (by omega) (by rw[aZ,← hl];exact h1) (by simpa using ew) ⟨rfl,fin⟩) hs
theorem jbM:IxR X jmX:=by
 intro value slice ac s σ H x y v u Q I rx ry h hs;obtain⟨z,i,c,rfl,rfl,hz,he,q⟩:=h;obtain⟨t,rfl⟩:=rx;obtain⟨t',rfl⟩:=ry;obtain⟨j,h1,h2,h3,h4,h5⟩:=jb7 he;have hl:z.cps.toList.length=z.length:=by simp[fX]
 rw[hl]at h1 h4 h5;have hn:=Ye;exact tail_any (eo s z t) pP.lookup (getItem_str (c:=c) (by
  have e1:decide (i < -(2 ^ 63:Int))=false:=decide_eq_false (by omega);have e2:decide (i ≥ 2 ^ 63)=false:=decide_eq_false (by omega);rw[e1,e2,sn]) (by rw[h1];simpa using h2) ⟨.str ⟨#[c]⟩,H,I.tok _,⟨_,rfl⟩,q⟩) hs
theorem jdW(its:List Value)(n j:Nat)(u:Value):gA (·.setIfInBounds j u) { cls:=.type "list",data:=.seq its.toArray n }={ cls:=.type "list",data:=.seq (its.set j u).toArray n }:=by
 simp[gA]
theorem Inv.lst{ac:List (Addr×Obj)}{σ:St}{H:Hp}{s:Shared}{p:Addr}{xs:List V}(I:Inv X ac σ H s)(h:H p=some (.lst xs)):
  ∃(its:List Value) (n:Nat),Vals xs its/\s.heap.get? p=some { cls:=.type "list",data:=.seq its.toArray n }/\xs.length≤au:=by
 obtain⟨z,its,n,r,e⟩:=I.hok p _ h
 exact⟨its,n,r,e,z⟩
theorem Inv.lstUpd{σ:St}{p:Addr}{ys:List V}{its':List Value}{n':Nat}{f:Obj->Obj}(I:Inv X ac σ H s)(h:H p=some (.lst xs))
  (ho:s.heap.get? p=some { cls:=.type "list",data:=.seq its.toArray n }) (hf:f { cls:=.type "list",data:=.seq its.toArray n }={ cls:=.type "list",data:=.seq its'.toArray n' }) (r:Vals ys its') (hz:ys.length≤au) (t:Nat) :
  Inv X ac σ (upd H p (.lst ys)) { s with heap:=s.heap.update p f,toks:=t }:=by
 have e:(s.heap.update p f).get? p=some { cls:=.type "list",data:=.seq its'.toArray n' }:=by
  rw[Heap.get?_update_self f ho (by rw[hf] <;> rfl),hf]
 refine I.write (x:=p) (e:=p) (by rw[h];trivial) (.inl rfl) (fun b u hb q=>(oY _ _ (bH hb)).trans q) ⟨_,e⟩ ?_
 exact⟨hz,its',n',r,e⟩
def jmq:V->V->V->Hp->(Hp->Prop)->Prop:=fun o i v H Q=>∃p xs k j,o=.ref p/\i=.int k/\H p=some (.lst xs)/\ixN xs.length k=some j/\Q (upd H p (.lst (xs.set j v)))
theorem jcr:jmR X jmq:=by
 intro ac s σ H o i v ov iv u Q I ro ri rv h;obtain⟨p,xs,k,j,rfl,rfl,hp,hj,q⟩:=h
 cases ro
 obtain⟨t,rfl⟩:=ri;obtain⟨its,n,r,ho,hz⟩:=I.lst hp;obtain⟨h1,h2,h3,h4⟩:=jfb hj;have hl:=r.length;have hn:=Ye;have I':Inv X ac σ (upd H p (.lst (xs.set j v))) { s with heap:=s.heap.update p (gA (·.setIfInBounds j u)) }:=
  I.lstUpd hp ho (jdW its n j u) (r.set rv j) (by rw[List.length_set];exact hz) s.toks
 by_cases h0:0≤k
 ·have hk:k.toNat=j:=by
   rw[lG h0 h4]at h1;exact bP h1
  exact PySem.W.ki_setAt ho h0 (by omega) (by rw[aZ,← hl];exact h4) (by rw[hk];exact⟨_,I',q⟩)
 ·have hk:(k+(its.toArray.size:Int)).toNat=j:=by
   rw[seqIndex_neg (by omega) h3]at h1;rw[aZ,← hl];exact bP h1
  exact PySem.W.ki_setBack ho (by omega) (by rw[aZ,← hl];exact h3) (by omega) (by rw[hk];exact⟨_,I',q⟩)
theorem jbr(lo hi:Option Int)(n:Nat):(fe lo hi none n).1=((HT.sIx n 0 lo:Nat):Int)/\(fe lo hi none n).2.1=((HT.sIx n n hi:Nat):Int)/\(fe lo hi none n).2.2=1:=by
 refine⟨?_,?_,rfl⟩
 ·cases lo with
  | none=>simp[fe,HT.sIx]
  | some i=>
   simp only[fe,HT.sIx,pY,show (1:Int) > 0 by decide,if_true];by_cases h:i < 0
   ·simp only[h,if_true] <;> omega
   ·simp only[h,if_false] <;> omega
 ·cases hi with
  | none=>simp[fe,HT.sIx]
  | some i=>
   simp only[fe,HT.sIx,pY,show (1:Int) > 0 by decide,if_true];by_cases h:i < 0
   ·simp only[h,if_true] <;> omega
   ·simp only[h,if_false] <;> omega
theorem jay(its:List Value)(lo hi:Option Int):slicePick its.toArray lo hi none=((its.drop (HT.sIx its.length 0 lo)).take (HT.sIx its.length its.length hi - HT.sIx its.length 0 lo)).toArray:=by
 obtain⟨h1,h2,h3⟩:=jbr lo hi its.toArray.size;unfold slicePick;rw[h1,h2,h3];simp only[sliceRange_one,pick_run,aZ] <;> rfl
def jmU(K:ah):V->Option Int->Option Int->Hp->VK->Prop:=fun x lo hi H Q=>∃a xs,x=.ref a/\SqL K H a xs/\∀p,H p=none->Q (.ref p) (upd H p (.lst (qw xs lo hi)))
theorem Zs:SlR X (jmU X.K):=by
 intro ac s σ H x v vl vu lo hi sl Q I rx hs pl pu h;obtain⟨a,xs,rfl,hx,q⟩:=h
 cases rx
 obtain⟨its,r,ht,hz⟩:=I.list hx;have hlen:=r.length;refine⟨"list",_,nH.lookup,ht.isList.typeIs,?_⟩;refine wpAny_getItem_list_slice ht.isList hs pl pu .none (by simp) ?_ (by rw[aZ] <;> omega);rw[jay,← hlen];refine⟨.ref s.heap.objs.size,_,I.laid (t':=s.toks) (o:=.lst (qw xs lo hi)) (fun b ob q=>bc _ q) (av _) ?_,rfl,q _ (I.hok.fresh (av _))⟩;exact⟨ad (Zl xs lo hi) hz,_,0,(r.drop (HT.sIx xs.length 0 lo)).take (HT.sIx xs.length xs.length hi - HT.sIx xs.length 0 lo),bM _ rfl⟩
def YJ:V->Bool
 | .non=>true
 | .bl _=>true
 | .int _=>true
 | .str _=>true
 | _=>false
def eqV:V->V->Bool
 | .non,.non=>true
 | .bl a,.bl b=>a == b
 | .bl a,.int b=>(if a then 1 else 0) == b
 | .int a,.bl b=>a == (if b then 1 else 0)
 | .int a,.int b=>a == b
 | .str a,.str b=>a == b
 | _,_=>false
theorem jlW{v:Value}(ry:RelV y u)(rx:RelV x v)(fy:YJ y=true)(fx:YJ x=true):bA A s u v (eqV y x):=by
 cases y with
 | non=>
  cases ry
  cases x with
  | non=>cases rx;exact oO _
  | bl b=>cases rx;exact bA.none_bool b
  | int b=>obtain⟨t,rfl⟩:=rx;exact bA.none_int b t
  | str b=>obtain⟨t,rfl⟩:=rx;exact bA.none_str b t
  | _=>exact absurd (show false=true from fx) aI
 | bl a=>
  cases ry
  cases x with
  | non=>cases rx;exact bA.bool_none a
  | bl b=>cases rx;exact bA.bool_bool a b
  | int b=>obtain⟨t,rfl⟩:=rx;exact bA.bool_int a b t
  | str b=>obtain⟨t,rfl⟩:=rx;exact bA.bool_str a b t
  | _=>exact absurd (show false=true from fx) aI
 | int a=>
  obtain⟨t',rfl⟩:=ry
  cases x with
  | non=>cases rx;exact bA.int_none a t'
  | bl b=>cases rx;exact bA.int_bool a t' b
  | int b=>obtain⟨t,rfl⟩:=rx;exact oP a t' b t
  | str b=>obtain⟨t,rfl⟩:=rx;exact me a t' b t
  | _=>exact absurd (show false=true from fx) aI
 | str a=>
  obtain⟨t',rfl⟩:=ry
  cases x with
  | non=>cases rx;exact bA.str_none a t'
  | bl b=>cases rx;exact bA.str_bool a t' b
  | int b=>obtain⟨t,rfl⟩:=rx;exact md a t' b t
  | str b=>obtain⟨t,rfl⟩:=rx;exact ma a t' b t
  | _=>exact absurd (show false=true from fx) aI
 | _=>exact absurd (show false=true from fy) aI
def eqU(x:V)(u:Value):Bool:=match u with
 | .none=>eqV .non x
 | .bool b=>eqV (.bl b) x
 | .int i _=>eqV (.int i) x
 | .str z _=>eqV (.str z) x
 | _=>false
theorem jiN(r:RelV y u)(f:YJ y=true):eqU x u=eqV y x:=by
 cases y with
 | non=>cases r;rfl
 | bl b=>cases r;rfl
 | int i=>obtain⟨t,rfl⟩:=r;rfl
 | str z=>obtain⟨t,rfl⟩:=r;rfl
 | _=>exact absurd (show false=true from f) aI
theorem YR{x:V}:∀{xs:List V} {us:List Value},Vals xs us->xs.all YJ=true->us.any (eqU x)=xs.any fun y=>eqV y x
 | _,_,.nil,_=>rfl
 | y :: xs,u :: us,.cons r t,f=>by
  rw[dQ,bg]at f;rw[gf,gf,jiN r f.1,YR t f.2]
theorem Kd{A:Around}{s:Shared}{x:V}{v:Value}(rx:RelV x v)(fx:YJ x=true):∀{xs:List V} {us:List Value},Vals xs us->xs.all YJ=true->∀u∈us,bA A s u v (eqU x u)
 | _,_,.nil,_=>fun u hu=>by cases hu
 | y :: xs,u :: us,.cons r t,f=>fun u' hu=>by
  rw[dQ,bg]at f;rcases ak.mp hu with rfl | hu
  ·rw[jiN r f.1];exact jlW r rx f.1 fx
  ·exact Kd rx fx t f.2 u' hu
def inV(x:V)(xs:List V):Bool:=xs.any fun y=>eqV y x
def rIn(K:ah)(neg:Bool):R2:=fun x y H Q=>∃p xs,y=.ref p/\(SqL K H p xs∨SqT K H p xs)/\YJ x=true/\xs.all YJ=true/\Q (.bl (if neg then !inV x xs else inV x xs)) H
theorem Y2:OpR X (bK .In) (rIn X.K false):=by
 intro ac s σ H x y v u Q I rx ry h;obtain⟨p,xs,rfl,hq,fx,fs,q⟩:=h
 cases ry
 rcases hq with hq | hq
 ·obtain⟨its,r,pl,hz⟩:=I.list hq
  refine SeqAt.in_listAt (eqU x) pl.isList (fun w hw=>Kd rx fx r fs w (by simpa using hw)) ⟨.bl _,H,I,rfl,?_⟩;rw[show its.toArray.any (eqU x)=its.any (eqU x) by simp,YR r fs];exact q
 ·obtain⟨its,r,pl,hz⟩:=I.tuple hq
  refine SeqAt.in_tupleAt (eqU x) pl (fun w hw=>Kd rx fx r fs w (by simpa using hw)) ⟨.bl _,H,I,rfl,?_⟩;rw[show its.toArray.any (eqU x)=its.any (eqU x) by simp,YR r fs];exact q
theorem jbH:OpR X (bK .NotIn) (rIn X.K true):=by
 intro ac s σ H x y v u Q I rx ry h;obtain⟨p,xs,rfl,hq,fx,fs,q⟩:=h
 cases ry
 rcases hq with hq | hq
 ·obtain⟨its,r,pl,hz⟩:=I.list hq
  refine SeqAt.notIn_listAt (eqU x) pl.isList (fun w hw=>Kd rx fx r fs w (by simpa using hw)) ⟨.bl _,H,I,rfl,?_⟩;rw[show its.toArray.any (eqU x)=its.any (eqU x) by simp,YR r fs];exact q
 ·obtain⟨its,r,pl,hz⟩:=I.tuple hq
  refine SeqAt.notIn_tupleAt (eqU x) pl (fun w hw=>Kd rx fx r fs w (by simpa using hw)) ⟨.bl _,H,I,rfl,?_⟩;rw[show its.toArray.any (eqU x)=its.any (eqU x) by simp,YR r fs];exact q
theorem jV:zE X (.builtin "len") (fun xs H Q=>∃p ys,xs=[.ref p]/\(SqL X.K H p ys∨SqT X.K H p ys)/\Q (.int ys.length) H):=by
 intro ac s σ H xs us Q I r h;obtain⟨p,ys,rfl,hq,q⟩:=h;obtain⟨u,rfl,rx⟩:=zh r
 cases rx
 have hn:=Ye;rcases hq with hq | hq
 ·obtain⟨its,r',pl,hz⟩:=I.list hq
  have hlen:=r'.length;exact Calls.call_len_list pl.isList (by simp only[aZ] <;> omega) ⟨.int ys.length,H,I.tok _,⟨s.toks+1,by rw[aZ,hlen]⟩,q⟩
 ·obtain⟨its,r',pl,hz⟩:=I.tuple hq
  have hlen:=r'.length;exact len_tuple pl (by simp only[aZ] <;> omega) ⟨.int ys.length,H,I.tok _,⟨s.toks+1,by rw[aZ,hlen]⟩,q⟩
theorem zD:zE X (.builtin "len") (fun xs H Q=>∃z,xs=[.str z]/\z.length≤au/\Q (.int z.length) H):=by
 intro ac s σ H xs us Q I r h;obtain⟨z,rfl,hz,q⟩:=h;obtain⟨u,rfl,t,rfl⟩:=zh r;have hn:=Ye;exact len_str (by omega) ⟨.int z.length,H,I.tok _,⟨_,rfl⟩,q⟩
theorem qk:zE X (.type "list") (fun xs H Q=>∃p ys,xs=[.ref p]/\(SqL X.K H p ys∨SqT X.K H p ys)/\∀l,H l=none->Q (.ref l) (upd H l (.lst ys))):=by
 intro ac s σ H xs us Q I r h;obtain⟨p,ys,rfl,hq,q⟩:=h;obtain⟨u,rfl,rx⟩:=zh r
 cases rx
 have fin:∀(its:List Value),Vals ys its->ys.length≤au->∀(h':Heap) (c':Nat),(∀b o',s.heap.get? b=some o'->h'.get? b=some o')->
   h'.get? s.heap.objs.size=some { cls:=.type "list",dict:=none,data:=.seq its.toArray c',slots:=#[] }->EP X ac σ Q (.ref s.heap.objs.size) { s with heap:=h' }:=fun its r' hz h' c' kp e=>
  ⟨.ref s.heap.objs.size,_,I.laid (t':=s.toks) kp (av _) (show ObjOk X.prog X.w _ h' _ (.lst ys) from⟨hz,its,c',r',e⟩),rfl,q _ (I.hok.fresh (av _))⟩
 rcases hq with hq | hq
 ·obtain⟨its,r',pl,hz⟩:=I.list hq
  have hlen:=r'.length;obtain⟨o,ho,hc,n,hd⟩:=pl.isList;exact call_list_seq p (.inl rfl) ho hc hd (fun h' c' kp e=>fin its r' hz h' c' kp e) (by simp only[aZ] <;> omega)
 ·obtain⟨its,r',pl,hz⟩:=I.tuple hq
  have hlen:=r'.length;obtain⟨o,ho,hc,n,hd⟩:=pl;exact call_list_seq p (.inr rfl) ho hc hd (fun h' c' kp e=>fin its r' hz h' c' kp e) (by simp only[aZ] <;> omega)
theorem j0:zE X (.type "tuple") (fun xs H Q=>∃p ys,xs=[.ref p]/\((SqL X.K H p ys/\∀l,H l=none->Q (.ref l) (upd H l (.tup ys)))∨(SqT X.K H p ys/\Q (.ref p) H))):=by
 intro ac s σ H xs us Q I r h;obtain⟨p,ys,rfl,h⟩:=h;obtain⟨u,rfl,rx⟩:=zh r
 cases rx
 rcases h with⟨hq,q⟩ | ⟨hq,q⟩
 ·obtain⟨its,r',pl,hz⟩:=I.list hq
  have hlen:=r'.length;refine call_tuple_list pl.isList (fun h' kp=>?_) (by simp only[aZ] <;> omega);have I1:Inv X ac σ H { s with heap:=h' }:=I.kept (t':=s.toks) kp;have I2:Inv X ac σ (upd H h'.objs.size (.tup ys)) { s with heap:=h'.push { cls:=.type "tuple",data:=.seq its.toArray } }:=
   I1.laid (t':=s.toks) (fun b o e=>bc _ e) (av _) (show ObjOk X.prog X.w _ _ _ (.tup ys) from⟨hz,its,r',IsTup.new _ _⟩)
  exact⟨.ref h'.objs.size,_,I2,rfl,q _ (I1.hok.fresh (av _))⟩
 ·obtain⟨its,r',pl,hz⟩:=I.tuple hq
  exact call_tuple_same pl ⟨.ref p,H,I,rfl,q⟩
def tyV(K:ah)(T:String)(x:V)(H:Hp):Prop:=match x with
 | .str _=>T = "str"
 | .int _=>T = "int"
 | .ref p=>(T = "list"/\∃xs,SqL K H p xs)∨(T = "tuple"/\∃o,K.lookup p=some o/\o.cls=.type "tuple"/\o.dict=none)∨
   (T = "dict"/\((∃kvs,H p=some (.dK kvs))∨∃kvs,H p=some (.dT kvs)))∨(T = "set"/\∃S n,H p=some (.set S n))
 | _=>False
theorem jgW{σ:St}{v:Value}(I:Inv X ac σ H s)(r:RelV x v)(ty:tyV X.K T x H):
  s.TypeIs v T/\∀a,v=.ref a->∃ob,s.heap.get? a=some ob/\ob.dict=none:=by
 cases x with
 | str z=>
  obtain⟨t,rfl⟩:=r
  cases (show T = "str" from ty)
  exact⟨eo s z t,fun _ e=>nomatch e⟩
 | int i=>
  obtain⟨t,rfl⟩:=r
  cases (show T = "int" from ty)
  exact⟨lE s i t,fun _ e=>nomatch e⟩
 | ref p=>
  cases r
  rcases ty with⟨rfl,xs,hq⟩ | ⟨rfl,o,hk,hc,hd⟩ | ⟨rfl,hk⟩ | ⟨rfl,S,n,hk⟩
  ·obtain⟨its,_,pl,_⟩:=I.list hq
   refine⟨pl.isList.typeIs,fun a e=>?_⟩
   cases e
   obtain⟨o,n,e,c,hd,_⟩:=pl
   exact⟨o,e,hd⟩
  ·refine⟨⟨o,I.kIn p o hk,hc⟩,fun a e=>?_⟩
   cases e
   exact⟨o,I.kIn _ o hk,hd⟩
  ·have z:∃o,s.heap.get? p=some o/\o.ExactDict:=by
    rcases hk with⟨kvs,hk⟩ | ⟨kvs,hk⟩
    ·obtain⟨_,_,_,_,o,_,_,e,ex,_⟩:=I.hok p _ hk
     exact⟨o,e,ex⟩
    ·obtain⟨_,_,_,_,o,_,_,e,ex,_⟩:=I.hok p _ hk
     exact⟨o,e,ex⟩
   obtain⟨o,e,ex⟩:=z;refine⟨⟨o,e,ex.1⟩,fun a e2=>?_⟩
   cases e2
   exact⟨o,e,ex.2.1⟩
  ·obtain⟨o,_,_,_,e,ex,_⟩:=I.hok p _ hk
   refine⟨⟨o,e,ex.1⟩,fun a e2=>?_⟩
   cases e2
   exact⟨o,e,ex.2.1⟩
 | _=>exact cj ty
def jmk(K:ah)(T:String)(r:V->List V->Hp->VK->Prop)(to:TE):TE:=fun σ H Q=>to σ H fun x H1=>tyV K T x H1/\r x [] H1 Q
def tBM(K:ah)(T:String)(r:V->List V->Hp->VK->Prop)(to:TE)(t:TA):TE:=fun σ H Q=>to σ H fun x H1=>tyV K T x H1/\t σ H1 fun xs H2=>r x xs H2 Q
variable {o:Expr}{es:List Expr}{to:TE}{t:TA}{name:Str}{apos cpos:Pos}{id:String}{r:V->List V->Hp->VK->Prop}
theorem jlx(pa:fY T)(slot:Slot T name id)(hty:fS (.builtin id)=pure (.type "method_descriptor"))(hm:MtR X id r)(ho:PE X o to)
  (hbase:dB o name X.env (eval o X.env)=eval o X.env:=by rfl) (hline:(apos.endLine == cpos.line)=true:=by rfl):PE X (.Call (.Attribute o name apos) [] [] cpos) (jmk X.K T r to):=by
 intro ac s σ H Q I h
 refine wpAny_Call_method0_late hbase hline (thn (ho ac s σ H _ I h) fun v s1 ⟨x,H1,I1,r1,ty,q1⟩=>?_)
 obtain⟨h1,h2⟩:=jgW I1 r1 ty
 exact⟨T,id,pa,slot,hty,h1,h2,pE rfl (PySem.evalArgs_none (hm ac s1 σ H1 x [] v [] Q I1 r1 .nil q1))⟩
theorem jhH(pa:fY T)(slot:Slot T name id)(hty:fS (.builtin id)=pure (.type "method_descriptor"))(hm:MtR X id r)(ho:PE X o to)(ha:PA X (e :: es) t)
  (hbase:dB o name X.env (eval o X.env)=eval o X.env:=by rfl)
  (hfew:((bL cpos (aK (e :: es) X.env)).all (fun x=>!x.1) && (iG cpos (iD [] X.env)).all (fun x=>x.1.isSome)
   && decide ((e :: es).length+([]:List Keyword).length+(if ([]:List Keyword).isEmpty then 0 else 1) < 30))=true:=by rfl)
  (hline:(apos.endLine == cpos.line)=true:=by rfl) (hs:aK (e :: es) X.env=(false,eval e X.env) :: aK es X.env:=by rfl) (hplain:(bL cpos (aK es X.env)).any (·.1)=false:=by rfl) :
  PE X (.Call (.Attribute o name apos) (e :: es) [] cpos) (tBM X.K T r to t):=by
 intro ac s σ H Q I h
 refine wpAny_Call_method_late hbase hfew hline rfl (thn (ho ac s σ H _ I h) fun v s1 ⟨x,H1,I1,r1,ty,q1⟩=>?_)
 obtain⟨h1,h2⟩:=jgW I1 r1 ty
 refine⟨T,id,pa,slot,hty,h1,h2,?_⟩
 have hA:=ha cpos ac s1 σ H1 _ I1 q1
 rw[hs]at hA ⊢
 refine pE (by show (false || (bL cpos (aK es X.env)).any (·.1))=false;rw[hplain] <;> rfl) (Calls.evalArgs_plain ?_)
 exact thn hA fun us s2 ⟨vs,H2,I2,r2,q2⟩=>hm ac s2 σ H2 x vs v us Q I2 r1 r2 q2
end
def MtM(X:Cx)(id:String)(r:V->List V->Hp->VK->Prop):Prop:=
 ∀(ac:List (Addr×Obj)) (s:Shared) (σ:St) (H:Hp) (x:V) (xs:List V) (v:Value) (us:List Value) (Q:VK),Inv X ac σ H s->RelV x v->Vals xs us->r x xs H Q->
  wpAny (model X.prog X.w) X.A (call (.builtin id) (v :: us)) (EP X ac σ Q) X.xe s
theorem Vals.one:∀{x:V} {us:List Value},Vals [x] us->∃u,us=[u]/\RelV x u
 | _,_,.cons r .nil=>⟨_,rfl,r⟩
theorem Vals.zero:∀{us:List Value},Vals [] us->us=[]
 | _,.nil=>rfl
theorem Vals.dropLast{us:List Value}(h:Vals xs us):Vals xs.dropLast us.dropLast:=by
 induction h with
 | nil=>exact .nil
 | cons r t ih=>
  cases t with
  | nil=>exact .nil
  | cons q t'=>exact .cons r ih
theorem Vals.eraseIdx:∀{xs:List V} {us:List Value} (i:Nat),Vals xs us->Vals (xs.eraseIdx i) (us.eraseIdx i)
 | _,_,_,.nil=>.nil
 | _,_,0,.cons _ t=>t
 | _,_,i+1,.cons r t=>.cons r (Vals.eraseIdx i t)
theorem Vals.reverse{us:List Value}(h:Vals xs us):Vals xs.reverse us.reverse:=by
 induction h with
 | nil=>exact .nil
 | cons r t ih=>rw[gb,gb];exact Vals.append ih (.cons r .nil)
theorem Vals.rep{xs:List V}{us:List Value}(h:Vals xs us):∀k:Nat,Vals (aC k xs).flatten (aC k us).flatten
 | 0=>.nil
 | k+1=>by
  rw[fI,fI,ld,ld];exact Vals.append h (Vals.rep h k)
theorem jd7(l:List α):l.eraseIdx (l.length - 1)=l.dropLast:=by
 induction l with
 | nil=>rfl
 | cons a r ih=>
  cases r with
  | nil=>rfl
  | cons b r=>
   have e:(a :: b :: r).length - 1=((b :: r).length - 1)+1:=by
    have h1:(a :: b :: r).length=r.length+2:=rfl;have h2:(b :: r).length=r.length+1:=rfl;omega
   rw[e,List.eraseIdx_cons_succ,ih]
   all_goals rfl
theorem jaU{α:Type}:∀(l:List α) (i:Nat),(l.eraseIdx i).length≤l.length
 | [],_=>av _
 | _ :: _,0=>eN _
 | _ :: r,i+1=>c_ (jaU r i)
theorem ja0(its:List Value):∀(k:Nat) (acc:List Value),
  mW (fun x1 x2=>x1++x2) acc.toArray (aC k its.toArray)=(acc++(aC k its).flatten).toArray
 | 0,acc=>by simp
 | k+1,acc=>by
  have e:acc.toArray++its.toArray=(acc++its).toArray:=by simp
  have e2:(acc++its)++(aC k its).flatten=acc++(aC (k+1) its).flatten:=by
   rw[fI,ld,aG]
  rw[← e2,← ja0 its k (acc++its),← e,fI,List.foldl_cons]
variable {b:Addr}{t':Nat}
section
variable {σ:St}{l:Addr}{ys zs:List V}
theorem Inv.lset{its':List Value}{f:Array Value->Array Value}(I:Inv X ac σ H s)(hH:H l=some (.lst xs))
  (e:s.heap.get? l=some { cls:=.type "list",data:=.seq its.toArray n }) (hf:f its.toArray=its'.toArray) (hv:Vals ys its') (hz:ys.length≤au) :
  Inv X ac σ (upd H l (.lst ys)) { s with heap:=s.heap.update l (gA f),toks:=t' }:=by
 have q:=PySem.IsL.update e f
 rw[hf]at q
 refine I.write (x:=l) (e:=l) (by rw[hH];exact trivial) (.inl rfl) (fun b' u hb hu=>(oY s.heap (gA f) (bH hb)).trans hu) ⟨_,q⟩ ?_
 exact⟨hz,its',_,hv,q⟩
theorem Inv.lnew(I:Inv X ac σ H s)(hv:Vals ys its)(hz:ys.length≤au):
  Inv X ac σ (upd H s.heap.objs.size (.lst ys)) { s with heap:=s.heap.push { cls:=.type "list",data:=.seq its.toArray },toks:=t' }:=
 I.laid (fun _ _ q=>bc _ q) (av _) ⟨hz,its,0,hv,bM _ rfl⟩
theorem Inv.fresh(I:Inv X ac σ H s):H s.heap.objs.size=none:=I.hok.fresh (av _)
theorem Inv.lstM(I:Inv X ac σ H s)(hH:H l=some (.lst xs)):xs.length≤au/\∃(its:List Value) (n:Nat),Vals xs its/\xs.length=its.length/\s.heap.get? l=some { cls:=.type "list",data:=.seq its.toArray n }:=by
 obtain⟨z,its,n,r,e⟩:=I.hok l _ hH;exact⟨z,its,n,r,r.length,e⟩
theorem jcJ(h:n≤au):iU n=false:=by
 unfold iU;exact decide_eq_false (by omega)
end
section
def jjA:V->List V->Hp->VK->Prop:=fun x vs H Q=>∃l xs y,x=.ref l/\vs=[y]/\H l=some (.lst xs)/\xs.length < au/\Q .non (upd H l (.lst (xs++[y])))
theorem jW:MtM X "list.append" jjA:=by
 intro ac s σ H x vs v us Q I rx rv h;obtain⟨l,xs,y,rfl,rfl,hH,hz,q⟩:=h
 cases rx
 obtain⟨u,rfl,ru⟩:=rv.one;obtain⟨z,its,n,r,hl,e⟩:=I.lstM hH;refine cn F.slot_list_append ⟨_,e,rfl⟩ F.entry_list_append (F.args_list_append_2 _ _) (PySem.list_append l its.toArray n u (by rw[aZ];omega)) ⟨e,?_⟩;refine⟨.non,_,I.lset (its':=its++[u]) hH e (by simp) (r.append (.cons ru .nil)) ?_,rfl,q⟩;rw[af,List.length_singleton];omega
def jeQ:V->List V->Hp->VK->Prop:=fun x vs H Q=>∃l b xs zs,x=.ref l/\vs=[.ref b]/\H l=some (.lst xs)/\H b=some (.lst zs)/\xs.length+zs.length≤au/\Q .non (upd H l (.lst (xs++zs)))
theorem qr:MtM X "list.extend" jeQ:=by
 intro ac s σ H x vs v us Q I rx rv h;obtain⟨l,b,xs,zs,rfl,rfl,hH,hB,hz,q⟩:=h
 cases rx
 obtain⟨u,rfl,ru⟩:=rv.one
 cases ru
 obtain⟨z,its,n,r,hl,e⟩:=I.lstM hH;obtain⟨z2,its2,n2,r2,hl2,e2⟩:=I.lstM hB;have hsz:its.toArray.size+its2.toArray.size≤au:=by rw[aZ,aZ];omega
 have hlong:¬(!its.toArray.isEmpty && iU (its.toArray.size+its2.toArray.size))=true:=by
  rw[jcJ hsz,Bool.and_false];exact aI
 refine cn F.slot_list_extend ⟨_,e,rfl⟩ F.entry_list_extend (F.args_list_extend_2 _ _)
  (AutoSeq1.list_extend_list_list_0 l its.toArray n b its2.toArray n2 hlong (by rw[aZ];omega) (by omega)) ⟨e,e2,?_⟩
 refine⟨.non,_,I.lset (its':=its++its2) hH e (by simp) (r.append r2) ?_,rfl,q⟩;rw[af];omega
def jmW:V->List V->Hp->VK->Prop:=fun x vs H Q=>∃l xs y,x=.ref l/\vs=[]/\H l=some (.lst xs)/\xs[xs.length - 1]?=some y/\Q y (upd H l (.lst xs.dropLast))
theorem jik:MtM X "list.pop" jmW:=by
 intro ac s σ H x vs v us Q I rx rv h;obtain⟨l,xs,y,rfl,rfl,hH,hy,q⟩:=h
 cases rx
 have hus:=rv.zero;subst hus;obtain⟨z,its,n,r,hl,e⟩:=I.lstM hH;obtain⟨u,hu,ru⟩:=r.get hy;have hy':its.toArray[its.toArray.size - 1]?=some u:=by
  show its.toArray[its.length - 1]?=some u;rw[← sx,← hl];exact hu
 refine cn f_ ⟨_,e,rfl⟩ px (F.args_list_pop_1 _) (MeetsSeq.list_pop_last l its.toArray n u hy' (by rw[aZ];omega)) ⟨e,?_⟩;refine⟨y,_,I.lset (its':=its.dropLast) hH e ?_ r.dropLast ?_,ru,q⟩
 ·show its.toArray.eraseIdxIfInBounds (its.toArray.size - 1)=its.dropLast.toArray
  rw[aZ,rT,jd7]
 ·rw[rK]
  omega
def jlj:V->List V->Hp->VK->Prop:=fun x vs H Q=>∃l xs i k y,x=.ref l/\vs=[.int i]/\H l=some (.lst xs)/\-(2 ^ 63)≤i/\i < 2 ^ 63/\iB i xs.length=some k/\xs[k]?=some y/\Q y (upd H l (.lst (xs.eraseIdx k)))
theorem jcM:MtM X "list.pop" jlj:=by
 intro ac s σ H x vs v us Q I rx rv h;obtain⟨l,xs,i,k,y,rfl,rfl,hH,h1,h2,hk,hy,q⟩:=h
 cases rx
 obtain⟨u,rfl,ru⟩:=rv.one;obtain⟨t,rfl⟩:=ru;obtain⟨z,its,n,r,hl,e⟩:=I.lstM hH;obtain⟨w,hw,rw'⟩:=r.get hy;refine cn f_ ⟨_,e,rfl⟩ px (F.args_list_pop_2 _ _)
  (MeetsSeq.list_pop_at l its.toArray n i t k w (fitsIndex_both h1 h2) (by rw[aZ,← hl];exact hk) (by rw[← sx];exact hw) (by rw[aZ];omega)) ⟨e,?_⟩
 refine⟨y,_,I.lset (its':=its.eraseIdx k) hH e ?_ (r.eraseIdx k) ?_,rw',q⟩
 ·show its.toArray.eraseIdxIfInBounds k=(its.eraseIdx k).toArray
  rw[rT]
 ·have:=jaU xs k
  omega
def jjz:R2:=fun x y H Q=>∃l b xs zs,x=.ref l/\y=.ref b/\H l=some (.lst xs)/\H b=some (.lst zs)/\xs.length+zs.length≤au/\∀p,H p=none->Q (.ref p) (upd H p (.lst (xs++zs)))
theorem kt:OpR X (cq .Add) jjz:=by
 intro ac s σ H x y v u Q I rx ry h;obtain⟨l,b,xs,zs,rfl,rfl,hH,hB,hz,q⟩:=h
 cases rx
 cases ry
 obtain⟨z,its,n,r,hl,e⟩:=I.lstM hH;obtain⟨z2,its2,n2,r2,hl2,e2⟩:=I.lstM hB;refine PySem.P.add_list e e2 ?_ (by rw[aZ,aZ];omega);have ea:its.toArray++its2.toArray=(its++its2).toArray:=by simp
 rw[ea];exact⟨.ref _,_,I.lnew (t':=s.toks) (r.append r2) (by rw[af];omega),rfl,q _ I.fresh⟩
def jmV:R2:=fun x y H Q=>∃l k xs,x=.ref l/\y=.int k/\H l=some (.lst xs)/\-(2 ^ 63)≤k/\k < 2 ^ 63/\xs.length * k.toNat≤au/\
 ∀p,H p=none->Q (.ref p) (upd H p (.lst (aC k.toNat xs).flatten))
theorem jki(xs:List α)(k:Nat):(aC k xs).flatten.length=k * xs.length:=by
 induction k with
 | zero=>simp
 | succ k ih=>rw[fI,ld,af,ih,iX,Nat.add_comm]
theorem jly:OpR X (cq .Mult) jmV:=by
 intro ac s σ H x y v u Q I rx ry h;obtain⟨l,k,xs,rfl,rfl,hH,h1,h2,hz,q⟩:=h
 cases rx
 obtain⟨t,rfl⟩:=ry;obtain⟨z,its,n,r,hl,e⟩:=I.lstM hH;have hlen:its.toArray.size * k.toNat≤au:=by rw[aZ,← hl];exact hz
 have hcap:¬its.toArray.size * k.toNat > (2 ^ 63 - 1) / 8:=by
  have:(au:Nat)≤(2 ^ 63 - 1) / 8:=by decide
  omega
 have hfit:¬(!Builtin.List.listFitsIndex k)=true:=by
  rw[fitsIndex_both h1 h2];exact aI
 have hlong:¬iU (its.toArray.size * k.toNat)=true:=by
  rw[jcJ hlen];exact aI
 have hnew:mW (fun x1 x2=>x1++x2) #[] (aC (if its.toArray.isEmpty=true then 0 else k.toNat) its.toArray)=(aC k.toNat its).flatten.toArray:=by
  have f0:∀m:Nat,mW (fun x1 x2=>x1++x2) #[] (aC m its.toArray)=(aC m its).flatten.toArray:=fun m=>by
   have:=ja0 its m [];rw[df]at this;exact this
  rw[f0]
  cases its with
  | nil=>simp
  | cons a r'=>rw[if_neg (by simp)]
 refine wpAny_binaryOp_repeat_ref (T:="list") (U:="int") (by decide) ⟨_,e,rfl⟩ (fun s'=>lE s' k t) noFill_list_mul F.fills_int_mul pr repeat_list F.slot_int_index.lookup
  (cn pr (lE s k t) F.entry_int_rmul (F.args_int_rmul_2 _ _) (int___rmul___int_list k t l its.toArray n)
   ⟨e,rfl,⟨_,e,rfl⟩,cn F.slot_list_mul ⟨_,e,rfl⟩ F.entry_list_mul (F.args_list_mul_2 _ _) (AutoListH.list___mul___list_int_3 l its.toArray n k t hfit hcap hlong) ⟨e,?_⟩⟩)
 rw[hnew];exact⟨.ref _,_,I.lnew (t':=s.toks) (r.rep k.toNat) (by rw[jki,Nat.mul_comm];exact hz),rfl,q _ I.fresh⟩
end
variable {o:Option V}
section
variable {κ:Type}[DecidableEq κ]
def zG(kvs:List (κ×V))(k:κ):Option V:=(kvs.find? fun kv=>decide (kv.1=k)).map (·.2)
def zZ(kvs:List (κ×V))(k:κ)(v:V):List (κ×V):=
 if (kvs.any fun kv=>decide (kv.1=k))=true then kvs.map (fun kv=>if kv.1=k then (kv.1,v) else kv) else kvs++[(k,v)]
theorem qT{p:κ×V}{r:List (κ×V)}{k:κ}(e:p.1=k):zG (p :: r) k=some p.2:=by simp[zG,dO,e]
theorem qU{p:κ×V}{r:List (κ×V)}{k:κ}(e:¬p.1=k):zG (p :: r) k=zG r k:=by simp[zG,dO,e]
theorem JH(k:κ):∀kvs:List (κ×V),(kvs.any fun kv=>decide (kv.1=k))=(zG kvs k).isSome
 | []=>rfl
 | p :: r=>by
  rw[gf];by_cases e:p.1=k
  ·simp only[qT e,decide_eq_true e,Bool.true_or,Option.isSome_some]
  ·rw[qU e,decide_eq_false e,Bool.false_or];exact JH k r
theorem jcf(k j:κ)(y:V):∀kvs:List (κ×V),zG (kvs.map fun kv=>if kv.1=k then (kv.1,y) else kv) j=(zG kvs j).map fun x=>if j=k then y else x
 | []=>rfl
 | p :: r=>by
  have ih:=jcf k j y r;rw[aX];by_cases h:p.1=k
  ·rw[if_pos h]
   by_cases e:p.1=j
   ·rw[qT (p:=(p.1,y)) e,qT e,iV,if_pos (e.symm.trans h)]
   ·rw[qU (p:=(p.1,y)) e,qU e,ih]
  ·rw[if_neg h]
   by_cases e:p.1=j
   ·rw[qT (p:=p) e,qT e,iV,if_neg (fun z=>h (e.trans z))]
   ·rw[qU (p:=p) e,qU e,ih]
theorem jaC(k j:κ)(y:V):∀kvs:List (κ×V),zG kvs k=none->zG (kvs++[(k,y)]) j=if j=k then some y else zG kvs j
 | [],_=>by
  by_cases e:k=j
  ·rw[if_pos e.symm];exact qT (p:=(k,y)) e
  ·rw[if_neg (fun z=>e z.symm)];exact qU (p:=(k,y)) e
 | p :: r,hn=>by
  rw[cO];have hk:¬p.1=k:=fun z=>by rw[qT z]at hn;cases hn
  rw[qU hk]at hn;have ih:=jaC k j y r hn;by_cases e:p.1=j
  ·rw[qT e,qT e,if_neg (fun z=>hk (e.trans z))]
  ·rw[qU e,qU e,ih]
theorem JG(kvs:List (κ×V))(k j:κ)(y:V):zG (zZ kvs k y) j=if j=k then some y else zG kvs j:=by
 unfold zZ;by_cases a:(kvs.any fun kv=>decide (kv.1=k))=true
 ·rw[if_pos a,jcf]
  rw[JH]at a;by_cases e:j=k
  ·obtain⟨x,hx⟩:=gG.mp a
   rw[if_pos e,e,hx,iV,if_pos rfl]
  ·rw[if_neg e]
   cases zG kvs j with
   | none=>rfl
   | some x=>rw[iV,if_neg e]
 ·rw[if_neg a]
  refine jaC k j y kvs ?_;rw[JH]at a
  cases q:zG kvs k with
  | none=>rfl
  | some x=>rw[q]at a;exact (a rfl).elim
theorem Kf(kvs:List (κ×V))(k:κ)(v:V):(zZ kvs k v).length≤kvs.length+1:=by
 unfold zZ;split
 ·rw[ae];omega
 ·rw[af,aw,a_];omega
theorem RelO.isSome_eq{u:Option Value}(r:RelO o u):o.isSome=u.isSome:=by
 cases o with
 | none=>cases u with
  | none=>rfl
  | some _=>exact (show False from r).elim
 | some _=>cases u with
  | none=>exact (show False from r).elim
  | some _=>rfl
theorem RelO.getD{u:Option Value}{d:V}{d':Value}(r:RelO o u)(rd:RelV d d'):RelV (o.getD d) (u.getD d'):=by
 cases o with
 | none=>cases u with
  | none=>exact rd
  | some _=>exact (show False from r).elim
 | some _=>cases u with
  | none=>exact (show False from r).elim
  | some _=>exact r
theorem KV.val{kvs:List (κ×V)}{vs:List (κ×Value)}(r:KV kvs vs)(k:κ):RelO (zG kvs k) (fc vs k):=by
 unfold KV at r;induction r with
 | nil=>exact True.intro
 | @cons p q ps qs h t ih=>
  obtain⟨h1,h2⟩:=h;by_cases e:p.1=k
  ·have e':q.1=k:=h1.symm.trans e
   have b:fc (q :: qs) k=some q.2:=by simp[fc,dO,e']
   rw[qT e,b];exact h2
  ·have e':¬q.1=k:=fun z=>e (h1.trans z)
   have b:fc (q :: qs) k=fc qs k:=by simp[fc,dO,e']
   rw[qU e,b];exact ih
theorem KV.any{kvs:List (κ×V)}{vs:List (κ×Value)}(r:KV kvs vs)(k:κ):(kvs.any fun kv=>decide (kv.1=k))=vs.any fun kv=>decide (kv.1=k):=by
 unfold KV at r;induction r with
 | nil=>rfl
 | cons h t ih=>rw[gf,gf,ih,h.1]
theorem KV.repl{kvs:List (κ×V)}{vs:List (κ×Value)}(r:KV kvs vs)(k:κ)(ry:RelV y u):
  KV (kvs.map fun kv=>if kv.1=k then (kv.1,y) else kv) (vs.map fun kv=>if kv.1=k then (kv.1,u) else kv):=by
 unfold KV at r ⊢
 induction r with
 | nil=>exact .nil
 | @cons p q ps qs h t ih=>
  rw[aX,aX]
  refine .cons ?_ ih
  obtain⟨h1,h2⟩:=h
  by_cases e:p.1=k
  ·rw[if_pos e,if_pos (h1.symm.trans e)];exact⟨h1,ry⟩
  ·rw[if_neg e,if_neg (fun z=>e (h1.trans z))];exact⟨h1,h2⟩
theorem KV.put{kvs:List (κ×V)}{vs:List (κ×Value)}(r:KV kvs vs)(k:κ)(ry:RelV y u):KV (zZ kvs k y) (stored vs k u):=by
 unfold zZ stored;rw[r.any k];by_cases e:(vs.any fun kv=>decide (kv.1=k))=true
 ·rw[if_pos e,if_pos e];exact r.repl k ry
 ·rw[if_neg e,if_neg e];exact oS r ⟨rfl,ry⟩
theorem KV.keys{kvs:List (κ×V)}{vs:List (κ×Value)}(r:KV kvs vs):kvs.map (·.1)=vs.map (·.1):=by
 unfold KV at r;induction r with
 | nil=>rfl
 | cons h t ih=>rw[aX,aX,ih,h.1]
theorem KV.length{kvs:List (κ×V)}{vs:List (κ×Value)}(r:KV kvs vs):kvs.length=vs.length:=iN r
end
variable {P:Program}{w:World}
theorem jfa{k:Key}(r:RelV (kV k) u):(qB P w).is k u=true:=by
 cases k with
 | inl i=>obtain⟨t,e⟩:=(show ∃t,u=Value.int i t from r);subst e;exact jcO P w i t
 | inr x=>obtain⟨t,e⟩:=(show ∃t,u=Value.str x t from r);subst e;exact jcN P w x t
theorem jaY{P:Program}{w:World}:∀{ks:List Key} {us:List Value},Vals (ks.map kV) us->ItemsAre (qB P w) ks us
 | [],_,r=>by rw[cM]at r;cases r;exact .nil
 | k :: ks,_,r=>by
  rw[aX]at r
  cases r with
  | cons h t=>exact .cons (jfa h) (jaY t)
abbrev KT(H:Hp):List (List Key×V)->List (List Key×Addr×Value)->Prop:=Paired fun p q=>p.1=q.1/\H q.2.1=some (.tup (p.1.map kV))/\RelV p.2 q.2.2
variable {kvs:List (List Key×V)}
theorem KT.val{xs:List (List Key×Addr×Value)}(r:KT H kvs xs)(k:List Key):RelO (zG kvs k) ((atKey xs k).map (·.2)):=by
 induction r with
 | nil=>exact True.intro
 | @cons p q ps qs h t ih=>
  obtain⟨h1,_,h2⟩:=h;by_cases e:p.1=k
  ·have e':q.1=k:=h1.symm.trans e
   have b:atKey (q :: qs) k=some q.2:=by simp[atKey,dO,e']
   rw[qT e,b];exact h2
  ·have e':¬q.1=k:=fun z=>e (h1.trans z)
   have b:atKey (q :: qs) k=atKey qs k:=by simp[atKey,dO,e']
   rw[qU e,b];exact ih
theorem KT.repl{xs:List (List Key×Addr×Value)}(r:KT H kvs xs)(k:List Key)(ry:RelV y u):
  KT H (kvs.map fun kv=>if kv.1=k then (kv.1,y) else kv) (xs.map (putAt k u)):=by
 induction r with
 | nil=>exact .nil
 | @cons p q ps qs h t ih=>
  rw[aX,aX]
  refine .cons ?_ ih
  obtain⟨h1,h2,h3⟩:=h
  unfold putAt
  by_cases e:p.1=k
  ·rw[if_pos e,if_pos (h1.symm.trans e)];exact⟨h1,h2,ry⟩
  ·rw[if_neg e,if_neg (fun z=>e (h1.trans z))];exact⟨h1,h2,h3⟩
theorem KT.put{xs:List (List Key×Addr×Value)}(r:KT H kvs xs)(k:List Key)(hb:H b=some (.tup (k.map kV)))(ry:RelV y u):
  KT H (zZ kvs k y) (storedH xs k b u):=by
 have e:(kvs.any fun kv=>decide (kv.1=k))=(atKey xs k).isSome:=by
  rw[JH,(r.val k).isSome_eq,Option.isSome_map]
 unfold zZ storedH
 rw[e]
 by_cases q:(atKey xs k).isSome=true
 ·rw[if_pos q,if_pos q];exact r.repl k ry
 ·rw[if_neg q,if_neg q];exact oS r ⟨rfl,hb,ry⟩
variable {H':Hp}
theorem KT.keeps{xs:List (List Key×Addr×Value)}(r:KT H kvs xs)(ht:∀b ys,H b=some (.tup ys)->H' b=some (.tup ys)):KT H' kvs xs:=
 Paired.mapP r fun _ _ z=>⟨z.1,ht _ _ z.2.1,z.2.2⟩
variable {a:Addr}
section
variable {h:Heap}
theorem jkP{u:HO}(ok:HOk P w H h)(e:Rd H a u):ObjOk P w H h a u:=e.ok ok
theorem jiP{kvs:List (Key×V)}(ok:HOk P w H h)(e:Rd H a (.dK kvs)):kvs.length≤au/\(a == cb)=false/\∃vs,KV kvs vs/\h.DictOf (qB P w) a vs:=
 show ObjOk P w H h a (.dK kvs) from jkP ok e
theorem jk4{kvs:List (Key×V)}(ok:HOk P w H h)(e:H a=some (.dK kvs)):kvs.length≤au/\(a == cb)=false/\∃vs,KV kvs vs/\h.DictOf (qB P w) a vs:=jiP ok (.inl e)
theorem jd2{ks:List Key}(ok:HOk P w H h)(e:H a=some (.tup (ks.map kV))):(gm (qB P w)).is h ks a:=by
 obtain⟨_,its,r,o,h1,h2,n,h3⟩:=(show ObjOk P w H h a (.tup (ks.map kV)) from ok a _ e)
 exact⟨o,its.toArray,n,h1,h2,h3,by simpa using jaY r⟩
theorem jiO(ok:HOk P w H h)(e:Rd H a (.dT kvs)):kvs.length≤au/\(a == cb)=false/\
  ∃xs,KT H kvs xs/\h.DictOfH (gm (qB P w)) a xs:=by
 obtain⟨z,y,xs,r,o,es,ep,h1,h2,h3,h4,h5⟩:=(show ObjOk P w H h a (.dT kvs) from jkP ok e)
 refine⟨z,y,xs,r,o,es,ep,h1,h2,h3,h4,fun x hx=>?_,h5⟩
 have all:∀{l:List (List Key×V)} {m:List (List Key×Addr×Value)},KT H l m->∀x∈m,(gm (qB P w)).is h x.1 x.2.1:=by
  intro l m q;induction q with
  | nil=>intro x hx;exact nomatch hx
  | @cons p q ps qs hq t ih=>
   intro x hx;rcases ak.mp hx with e | hx
   ·subst e
    exact jd2 ok (by rw[← hq.1];exact hq.2.1)
   ·exact ih x hx
 exact all r x hx
theorem jmN(ok:HOk P w H h)(e:H a=some (.dT kvs)):kvs.length≤au/\(a == cb)=false/\
  ∃xs,KT H kvs xs/\h.DictOfH (gm (qB P w)) a xs:=jiO ok (.inl e)
end
def DGet(H:Hp)(a:Addr)(y:V)(r:Option V):Prop:=
 (∃kvs k,Rd H a (.dK kvs)/\y=kV k/\r=zG kvs k)∨∃kvs k b,Rd H a (.dT kvs)/\y=.ref b/\H b=some (.tup (k.map kV))/\r=zG kvs k
def DPut(H:Hp)(a:Addr)(y v:V)(H':Hp):Prop:=
 (∃kvs k,H a=some (.dK kvs)/\y=kV k/\kvs.length < au/\H'=upd H a (.dK (zZ kvs k v)))∨
 ∃kvs k b,H a=some (.dT kvs)/\y=.ref b/\H b=some (.tup (k.map kV))/\kvs.length < au/\H'=upd H a (.dT (zZ kvs k v))
theorem DGet.k{kvs:List (Key×V)}{k:Key}(e:H a=some (.dK kvs)):DGet H a (kV k) (zG kvs k):=.inl ⟨kvs,k,.inl e,rfl,rfl⟩
theorem DGet.t{k:List Key}(e:H a=some (.dT kvs))(eb:H b=some (.tup (k.map kV))):DGet H a (.ref b) (zG kvs k):=.inr ⟨kvs,k,b,.inl e,rfl,eb,rfl⟩
variable {v:V}
theorem DPut.k{kvs:List (Key×V)}{k:Key}(e:H a=some (.dK kvs))(hl:kvs.length < au):DPut H a (kV k) v (upd H a (.dK (zZ kvs k v))):=.inl ⟨kvs,k,e,rfl,hl,rfl⟩
theorem DPut.t{k:List Key}(e:H a=some (.dT kvs))(eb:H b=some (.tup (k.map kV)))(hl:kvs.length < au):
  DPut H a (.ref b) v (upd H a (.dT (zZ kvs k v))):=.inr ⟨kvs,k,b,e,rfl,eb,hl,rfl⟩
section
variable {σ:St}{r:Value}{E:Value->Shared->Prop}
theorem Inv.big(I:Inv X ac σ H s):cb < s.heap.objs.size:=by
 have h:aQ < s.heap.objs.size:=(I.mod.glob.keeps I.bk).lt;exact eM (by decide) h
theorem jgG{Q:Value->Shared->Prop}(hu:A.units+1 < cLine)(I:Inv X ac σ H s)(g:DGet H a y (some v))(ry:RelV y u)(h:∀w' s',Inv X ac σ H s'->RelV v w'->Q w' s'):
  wpAny (model X.prog X.w) A (eC (.ref a) u) Q E s:=by
 rcases g with⟨kvs,k,e,ey,l⟩ | ⟨kvs,k,b,e,ey,eb,l⟩
 ·subst ey
  obtain⟨z,hd,vs,rel,dd⟩:=jiP I.hok e
  obtain⟨w',hw,rw'⟩:=RelO.some_of (v:=v) (o:=fc vs k) (by rw[l];exact rel.val k)
  exact wpAny_getItem_of (jfa ry) dd.mapOf hw (h w' _ (I.tok _) rw')
 ·subst ey
  cases (show u=Value.ref b from ry)
  obtain⟨z,hd,xs,rel,dd⟩:=jiO I.hok e
  obtain⟨w',hw,rw'⟩:=RelO.some_of (v:=v) (o:=(atKey xs k).map (·.2)) (by rw[l];exact rel.val k)
  obtain⟨p,hp,hp2⟩:=iW.mp hw
  refine wpAny_getItem_heap (ny hu) (jd2 I.hok eb) dd hp ?_
  rw[hp2]
  exact h w' _ (I.tok _) rw'
theorem jb1{h':Heap}{ob:HO}(I:Inv X ac σ H s)(mu:Mut (H a))(hs:b0 a s.heap h')(he:∃q,h'.get? a=some q)(new:ObjOk X.prog X.w (upd H a ob) h' a ob):
  Inv X ac σ (upd H a ob) { s with heap:=h',toks:=t' }:=
 I.write (x:=a) (e:=a) mu (.inl rfl) (fun b q hb z=>(hs.2 b hb).trans z) he new
theorem jiQ{h':Heap}{kvs:List (Key×V)}{vs:List (Key×Value)}(z:kvs.length≤au)(hd:(a == cb)=false)(rel:KV kvs vs)(dd:h'.DictOf (qB P w) a vs):
  ObjOk P w H' h' a (.dK kvs):=⟨z,hd,vs,rel,dd⟩
theorem jgF{Q:Unit->Shared->Prop}(hu:A.units+1 < cLine)(I:Inv X ac σ H s)(g:DPut H a y v H')(ry:RelV y u)(rv:RelV v r)(h:∀s',Inv X ac σ H' s'->Q () s'):
  wpAny (model X.prog X.w) A (setItem (.ref a) u r) Q E s:=by
 rcases g with⟨kvs,k,e,ey,l,eH⟩ | ⟨kvs,k,b,e,ey,eb,l,eH⟩
 ·subst ey eH
  obtain⟨z,hd,vs,rel,dd⟩:=jk4 I.hok e
  have hz:vs.length≤au:=by rw[← rel.length];exact z
  have hl:(zZ kvs k v).length≤au:=by have:=Kf kvs k v;omega
  refine wpAny_setItem_pairs (hsz:=hz) (jfa ry) dd fun h' dd' hs=>h _ ?_
  have he:∃q,h'.get? a=some q:=let ⟨q,_,_,hq,_⟩:=dd';⟨q,hq⟩
  exact jb1 I (by rw[e];exact True.intro) hs he (jiQ hl hd (rel.put k rv) dd')
 ·subst ey eH
  cases (show u=Value.ref b from ry)
  obtain⟨z,hd,xs,rel,dd⟩:=jmN I.hok e
  have hz:xs.length≤au:=by rw[← iN rel];exact z
  have hl:(zZ kvs k v).length≤au:=by have:=Kf kvs k v;omega
  refine wpAny_setItem_heap (hsz:=hz) (ny hu) (jd2 I.hok eb) dd fun h' dd' hs=>h _ ?_
  obtain⟨q,es,ep,hq,h2,h3,h4,_,h5⟩:=dd'
  refine jb1 I (by rw[e];exact True.intro) hs ⟨q,hq⟩ ⟨hl,hd,_,(rel.put k eb rv).keeps fun c ys ec=>?_,q,es,ep,hq,h2,h3,h4,h5⟩
  rw[js (jmA ec e (fun z=>nomatch z))]
  exact ec
end
def jje(i:Expr):Prop:=∀ov iv,subscripted i false ov iv=operate [ov,iv] (eC ov iv)
theorem jev{prog:Program}{E:Value->Shared->Prop}{env:Env}{value slice:Expr}{id:String}{Q:Value->Shared->Prop}
  (hl:lC (.type T) "__getitem__" = pure (some (.builtin id))) (hs:jje slice)
  (h:wpAny (model prog w) A (eval value env) (fun o s₁=>wpAny (model prog w) A (eval slice env) (fun i s₂=>s₂.TypeIs o T/\wpAny (model prog w) A (eC o i) Q E s₂) E s₁) E s) :
  wpAny (model prog w) A (eval (.Subscript value slice pos) env) Q E s:=by
 refine mF (bU h (fun o s₁ h₁=>bU h₁ (fun i s₂ h₂=>?_) fun _ _ x=>x) fun _ _ x=>x)
 obtain⟨hT,h₂⟩:=h₂
 unfold mC
 refine az ?_
 rw[getitemInPython_of_ne hT.not_modules]
 refine az (wpAny_specialOf hT hl ?_)
 have fin:wpAny (model prog w) A (subscripted slice false o i) (fun r s₃=>wpAny (model prog w) A (letTemporaryGo value o r >>= fun _=>pure r) Q E s₃) E s₂:=by
  rw[hs o i];exact wpAny_operating (bU h₂ (fun r s₃ h₃=>az (wpAny_letTemporaryGo (aL h₃))) fun _ _ x=>x)
 first
  | exact aL (az fin)
  | exact az (aL (az fin))
  | exact az fin
theorem jc7{σ:St}(I:Inv X ac σ H s)(g:DGet H a y o):s.TypeIs (.ref a) "dict":=by
 rcases g with⟨kvs,k,e,_,_⟩ | ⟨kvs,k,b,e,_,_,_⟩
 ·obtain⟨_,_,vs,_,dd⟩:=jiP I.hok e
  exact dd.typeIs
 ·obtain⟨_,_,xs,_,dd⟩:=jiO I.hok e
  exact dd.typeIs
def jkN(td ty:TE):TE:=fun σ H Q=>td σ H fun x H1=>ty σ H1 fun y H2=>∃a v,x=.ref a/\DGet H2 a y (some v)/\Q v H2
def jkO(td ty tv:TE):TS:=fun D σ H=>tv σ H fun v H1=>td σ H1 fun x H2=>ty σ H2 fun y H3=>∃a H4,x=.ref a/\DPut H3 a y v H4/\D.nx σ H4
section
variable {o i value:Expr}{pos' tpos:Pos}{td ty tv:TE}
theorem jjS(hu:X.A.units+1 < cLine)(ho:PE X o td)(hi:PE X i ty)(hs:jje i):PE X (.Subscript o i pos) (jkN td ty):=by
 intro ac s σ H Q I h;refine jev pw.lookup hs (thn (ho ac s σ H _ I h) fun u s1 ⟨x,H1,I1,rx,q1⟩=>thn (hi ac s1 σ H1 _ I1 q1) fun iv s2 ⟨y,H2,I2,ry,a,v,ex,g,q2⟩=>?_);subst ex;obtain rfl:u=Value.ref a:=rx;exact⟨jc7 I2 g,jgG hu I2 g ry fun w' s3 I3 rw'=>⟨v,H2,I3,rw',q2⟩⟩
theorem jjF(hu:X.A.units+1 < cLine)(ho:PE X o td)(hi:PE X i ty)(hv:PE X value tv)(hs:cX value (some (.Subscript o i pos')) pos.line X.env=pure false):
  PS X (.Assign [.Subscript o i pos'] value pos) (jkO td ty tv):=by
 intro ac s σ H D I h
 refine wpAny_Assign_Subscript (thn (hv ac s σ H _ I h) fun r s1 ⟨v,H1,I1,rv,q1⟩=>thn (ho ac s1 σ H1 _ I1 q1) fun u s2 ⟨x,H2,I2,rx,q2⟩=>thn (hi ac s2 σ H2 _ I2 q2) fun iv s3 ⟨y,H3,I3,ry,a,H4,ex,g,q3⟩=>?_) hs
 subst ex
 obtain rfl:u=Value.ref a:=rx
 exact jgF hu I3 g ry rv fun s4 I4=>⟨σ,H4,I4,q3⟩
end
theorem jiR(h:Heap)(hb:cb < h.objs.size):ObjOk P w H (h.push { cls:=.type "dict",data:=.dict #[] }) h.objs.size (.dK []):=
 ⟨bm _,beq_eq_false_iff_ne.mpr (bH (bp hb)),[],.nil,Heap.DictOf.new h⟩
def jdo:List (TE×TE)->St->Hp->(List (V×V)->Hp->Prop)->Prop
 | [],_,H,Q=>Q [] H
 | (tk,tv) :: r,σ,H,Q=>tk σ H fun x H1=>tv σ H1 fun y H2=>jdo r σ H2 fun ps H3=>Q ((x,y) :: ps) H3
abbrev VV:List (V×V)->List (Value×Value)->Prop:=Paired fun p q=>RelV p.1 q.1/\RelV p.2 q.2
def PPs(X:Cx)(pos:Pos)(keys:List (Option Expr))(values:List Expr)(trs:List (TE×TE)):Prop:=
 ∀(ac:List (Addr×Obj)) (s:Shared) (σ:St) (H:Hp) (Q:List (V×V)->Hp->Prop),Inv X ac σ H s->jdo trs σ H Q->
  wpAny (model X.prog X.w) X.A (evalPairs (pairTrees keys values X.env pos)) (fun vs s'=>∃ps H',Inv X ac σ H' s'/\VV ps vs/\Q ps H') X.xe s
theorem jjI{X:Cx}{pos:Pos}:PPs X pos [] [] []:=fun ac s σ H Q I h=>pairTrees_nil_walk ⟨[],H,I,.nil,h⟩
theorem jhr{X:Cx}{pos:Pos}{k v:Expr}{ks:List (Option Expr)}{vs:List Expr}{tk tv:TE}{trs:List (TE×TE)}(hk:PE X k tk)(hv:PE X v tv)(hr:PPs X pos ks vs trs):
  PPs X pos (some k :: ks) (v :: vs) ((tk,tv) :: trs):=fun ac s σ H Q I h=>
 pairTrees_cons_walk (thn (hk ac s σ H _ I h) fun u s1 ⟨x,H1,I1,rx,q1⟩=>thn (hv ac s1 σ H1 _ I1 q1) fun w2 s2 ⟨y,H2,I2,ry,q2⟩=>
  thn (hr ac s2 σ H2 _ I2 q2) fun ws s3 ⟨ps,H3,I3,rel,q3⟩=>⟨(x,y) :: ps,H3,I3,.cons ⟨rx,ry⟩ rel,q3⟩)
def Kc(kvs more:List (Key×V)):List (Key×V):=more.foldl (fun acc kv=>zZ acc kv.1 kv.2) kvs
theorem KV.merge:∀{more:List (Key×V)} {rs:List (Key×Value)} {kvs:List (Key×V)} {vs:List (Key×Value)},KV more rs->KV kvs vs->KV (Kc kvs more) (merged vs rs):=by
 intro more rs kvs vs r;unfold KV at r;induction r generalizing kvs vs with
 | nil=>intro q;exact q
 | @cons p q ps qs h t ih=>
  intro r0;have e:KV (zZ kvs p.1 p.2) (stored vs q.1 q.2):=by
   have:=r0.put p.1 h.2;rw[← h.1];exact this
  exact ih e
theorem yX:∀(more kvs:List (Key×V)),(Kc kvs more).length≤kvs.length+more.length
 | [],kvs=>by show kvs.length≤kvs.length+0;omega
 | p :: r,kvs=>by
  have h1:=yX r (zZ kvs p.1 p.2);have h2:=Kf kvs p.1 p.2;show (Kc (zZ kvs p.1 p.2) r).length≤_;rw[aw];omega
theorem jat{P:Program}{w:World}:∀{kvs:List (Key×V)} {ws:List (Value×Value)},VV (kvs.map fun kv=>(kV kv.1,kv.2)) ws->∃rs,Carries (qB P w) ws rs/\KV kvs rs
 | [],_,r=>by rw[cM]at r;cases r;exact⟨[],True.intro,.nil⟩
 | p :: kvs,_,r=>by
  rw[aX]at r
  cases r with
  | @cons a b as bs h t=>
   obtain⟨rs,c,q⟩:=jat (P:=P) (w:=w) t;obtain⟨b1,b2⟩:=b;exact⟨(p.1,b2) :: rs,⟨jfa h.1,rfl,c⟩,.cons ⟨rfl,h.2⟩ q⟩
def jkM(trs:List (TE×TE)):TE:=fun σ H Q=>∀p,H p=none->jdo trs σ (upd H p (.dK [])) fun ps H2=>H2 p=some (.dK [])/\∃kvs:List (Key×V),ps=kvs.map (fun kv=>(kV kv.1,kv.2))/\kvs.length≤15/\Q (.ref p) (upd H2 p (.dK (Kc [] kvs)))
theorem jjR{X:Cx}{pos:Pos}{keys:List (Option Expr)}{values:List Expr}{trs:List (TE×TE)}(h:PPs X pos keys values trs)(hall:keys.all (·.isSome)=true)(hl:keys.length=values.length)(h0:keys≠[])
  (h15:keys.length≤15):PE X (.Dict keys values pos) (jkM trs):=by
 intro ac s σ H Q I q
 have hn:=I.hok.fresh (av s.heap.objs.size)
 have I1:=I.laid (a:=s.heap.objs.size) (o:=.dK []) (h':=s.heap.push { cls:=.type "dict",data:=.dict #[] }) (t':=s.toks) (fun _ _ q=>bc _ q) (av _) (jiR s.heap I.big)
 refine wpAny_Dict_walk (knd:=qB X.prog X.w) hall hl h0 h15 (thn (h ac _ σ _ _ I1 (q _ hn)) fun ws s2 ⟨ps,H2,I2,rel,e,kvs,ep,lk,q2⟩=>?_)
 subst ep
 obtain⟨rs,c,rk⟩:=jat (P:=X.prog) (w:=X.w) rel
 obtain⟨z,hd,vs0,r0,dd⟩:=jk4 I2.hok e
 cases r0
 refine⟨rs,c,dd,fun h' dd' hs=>⟨.ref s.heap.objs.size,_,?_,rfl,q2⟩⟩
 have hz:(Kc [] kvs).length≤au:=by
  have h1:=yX kvs [];rw[a_]at h1;rw[fT];omega
 have he:∃q,h'.get? s.heap.objs.size=some q:=let ⟨q,_,_,hq,_⟩:=dd';⟨q,hq⟩
 exact jb1 I2 (by rw[e];exact True.intro) hs he (jiQ hz hd (rk.merge .nil) dd')
end L2
namespace Att
open PySem PySem.W PySem.Calls PyProof.Rows
theorem Zo{P:Params}{h:Heap}:∀(ns:List Int) (vs:List Value),WellAll P h vs (ns.map WData.int)->gE vs ns:=by
 intro ns;induction ns with
 | nil=>
  intro vs w;rw[cM]at w
  cases w
  exact .nil
 | cons n ns ih=>
  intro vs w;rw[aX]at w
  cases w with
  | cons a b=>
   cases a
   exact .cons _ _ (ih _ b)
theorem jfP{l:OpenLaw}{n:Nat}(hn:l.most=some n){P:Params}{h:Heap}{args:List WData}{vals:List Value}
  (hpre:l.row.toRowW.claim.pre args=true) (hwl:WellAll P h vals args) :
  ∃a vs ns,vals=[Value.ref a]/\args=[WData.list (ns.map WData.int)]/\h.get? a=some { cls:=.type "list",data:=.seq vs.toArray }/\gE vs ns/\ns.length≤n:=by
 have hsh:WShape.hasAll [] args [.list .int]=true:=(pre_splitW hpre).1
 have hc:l.pre.holds [] { args:=args }=true:=(pre_splitW hpre).2
 obtain⟨d,r,rfl,h1,h2⟩:=hasAllW_cons hsh
 obtain rfl:=hasAllW_nil h2
 obtain⟨xs,rfl,h3⟩:=hasW_list h1
 obtain⟨ns,rfl⟩:=items_int h3
 have hlen:ns.length≤n:=by
  unfold OpenLaw.pre at hc;have h4:(WTm.not (.lt (.lit (.int (n:Int))) (.len (.arg 0)))).holds [] { args:=[.list (ns.map .int)] }=true:=by
   have h4:=(holds_andW hc).1;rw[hn]at h4;exact h4
  have h5:=condW_of h4 (w_not (w_lt w_lit (w_len_list (w_arg rfl))));rw[ae]at h5;refine Nat.le_of_not_lt fun q=>?_
  have q':(n:Int) < ((ns.length:Nat):Int):=by omega
  first
   | (rw[decide_eq_true q']at h5;exact absurd h5 (by decide))
   | (simp at h5;omega)
 cases hwl with
 | cons w1 w2=>
  cases w2
  cases w1 with
  | list ho hall=>exact⟨_,_,ns,rfl,rfl,ho,Zo ns _ hall,hlen⟩
theorem jfQ(l:OpenLaw)(args:List WData):l.row.toRowW.claim.post args (.bool true) args=true:=
 postW_of (r:=l.row.toRowW) (X:=(true == true))
  (show oA [] (.bool true) .bool=true by first | rfl | decide | simp[oA,WShape.arms,WShape.armsAll])
  (show (WTm.eq .res (.lit (.bool true))).value [] { args:=args,res:=some (.bool true),after:=args }=some (.bool (true == true)) from w_eq_bool (w_res rfl) w_lit) rfl
theorem attach_call{l:OpenLaw}{n:Nat}{q:Program}{loose:List Str}{XP:(Str->Option Value)->Heap->Prop}{YP:World->Heap->Prop}{d:DefRec}
  (hn:l.most=some n) (hdf:d.params.defaults=[])
  (call:∀(w:World) (s₀ s₁:Shared) (mg mb:Str->Option Value) (fa:Addr) (o:Obj) (pm cd doc:Value) (a:Addr) (vs:List Value) (ns:List Int),
   Ground q loose [] XP w s₀ mg mb s₁.heap->YP w s₁.heap->
   s₁.heap.get? fa=some o->o.data=.func (docDef d.name d.params d.body d.scope pm cd doc)->s₁.heap.CodeRec cd d.name->mg d.name=some (.ref fa)->
   s₁.heap.get? a=some { cls:=.type "list",data:=.seq vs.toArray }->gE vs ns->ns.length≤n->s₁.gens=#[]->
   dz (model l.prog w) fj (.call (.ref fa) ⟨[.ref a],[]⟩) (fun r s'=>r=.ok (.ret (.bool true))/\OldK s₁.heap s'.heap/\s'.os=s₁.os/\cZ s'.gens) s₁) :
  WalkO q loose XP YP l.row.toRowW d [] (fun f vs=>lO f vs):=by
 intro w s₀ s₁ mg mb G Y fa o pm cd doc dV kV ho hd hcd hD hmg hg args vals as hpre hlay hrd hwl hlo
 obtain rfl:dV=.none:=Dflts.none hD hdf
 obtain rfl:kV=.none:=Dflts.noKw hD
 obtain⟨a,vs,ns,rfl,rfl,hobj,hints,hlen⟩:=jfP hn hpre hwl
 refine enter_call (fV (call w s₀ s₁ mg mb fa o pm cd doc a vs ns G Y ho (fd_plain hd) hcd hmg hobj hints hlen hg) fun r s' hq=>?_)
 obtain⟨rfl,h2,h3,h4⟩:=hq
 exact⟨.inl ⟨.bool true,.bool true,[],rfl,fun _=>rfl,.bool true,jfQ l _,fun _=>⟨List.Pairwise.nil,fun _ hm=>(nomatch hm)⟩⟩,h2,h3,h4⟩
end Att
namespace L2
open PySem PySem.Spec PyProof.Rows
theorem jaB:∀{vs:List Value} {ns:List Int},gE vs ns->Vals (ns.map V.int) vs
 | _,_,.nil=>.nil
 | _,_,.cons n t h=>.cons ⟨t,rfl⟩ (jaB h)
def jma(H:Hp):Prop:=∀b,H b=none∨∃o xs,H b=some (.frz o (.lst xs))
variable {P:Program}{w:World}{K:ah}{mg:Str->Option Value}{a:Addr}{fd:aq}{x:Str}{sp:Sp}
theorem jiw{mb:Str->Option Value}{CX:CXT}{k:Nat}{fa:Addr}{s₁:Shared}{vs:List Value}{ns:List Int}
  (KX:K.In s₁.heap) (hns:s₁.heap.Ns aQ mg) (hb:s₁.heap.Ns lP mb) (hbb:∀x:Str,x≠"__name__"->mb x=bu x) (hlim:s₁.heap.NoLimit) (hg:s₁.gens=#[])
  (ha:s₁.heap.get? a=some { cls:=.type "list",data:=.seq vs.toArray }) (hi:gE vs ns) (hl:ns.length≤au) (hr:Room k fj)
  (F:∀base:Heap,K.In base->base.Ns aQ mg->FnOk P w K mg base CX k fa fd [x] sp) (hbind:∀(s:Shared) (u:Value),ga s fd ⟨[u],[]⟩ [(x,u)])
  (hsp:∀H:Hp,jma H->SqL K H a (ns.map V.int)->sp [.ref a] H (fun v _=>v=.bl true) fun _ _ _=>False)
  (hCX:∀H e s',CX [] H s₁ (fun _ _ _=>False) e s'->False) :
  dz (model P w) fj (.call (.ref fa) ⟨[.ref a],[]⟩) (fun r s'=>r=.ok (.ret (.bool true))/\OldK s₁.heap s'.heap/\s'.os=s₁.os/\cZ s'.gens) s₁:=by
 have rv:=jaB hi
 have lenV:=hi.length
 have core:∀H:Hp,jma H->SqL K H a (ns.map V.int)->HOk P w H s₁.heap->(∀b,H b≠none->b=a)->(H a≠none->K.lookup a=none)->
   dz (model P w) fj (.call (.ref fa) ⟨[.ref a],[]⟩) (fun r s'=>r=.ok (.ret (.bool true))/\OldK s₁.heap s'.heap/\s'.os=s₁.os/\cZ s'.gens) s₁:=by
  intro H hO hS hok hA hK
  have base_of:∀{b:Addr} {o:Obj},s₁.heap.get? b=some o->H b=none->(jbS s₁.heap H).get? b=some o:=fun e n=>jiF e n
  have noA:∀{b:Addr} {o:Obj} {es:Array mr} {ep:Nat},s₁.heap.get? b=some o->o.data=.dict es ep->H b=none:=fun {b o es ep} e d=>by
   cases q:H b with
   | none=>rfl
   | some u=>
    have e':b=a:=hA b (by rw[q];simp);subst e';rw[ha]at e;cases e;have d':Data.seq vs.toArray _=Data.dict es ep:=d
    cases d'
  have nsK:∀{b:Addr} {m:Str->Option Value},s₁.heap.Ns b m->(jbS s₁.heap H).Ns b m:=fun {b m} ⟨o,es,ep,e,d,r⟩=>⟨o,es,ep,base_of e (noA e d),d,r⟩
  have hKb:K.In (jbS s₁.heap H):=fun b o e=>base_of (KX b o e) (by
   cases q:H b with
   | none=>rfl
   | some u=>
    have e':b=a:=hA b (by rw[q];simp);subst e';rw[hK (by rw[q];simp)]at e;cases e)
  have hM:Mod K mg (jbS s₁.heap H):=⟨hKb,nsK hns,⟨mb,nsK hb,hbb⟩,let ⟨mc,h1,h2⟩:=hlim;⟨mc,nsK h1,h2⟩⟩
  have e0:Env0 P w K mg (jbS s₁.heap H) fj [] s₁ H:=⟨rfl,hM,fun b o e=>jj6 e,mM (jgt _ _),trivial,fun b hb=>absurd (show b∈([]:List Addr) from hb) (by simp),hok,.of_eq hg⟩
  refine fV ((F _ hKb (nsK hns)).run fj [] s₁ H ⟨[.ref a],[]⟩ [.ref a] [.ref a] _ _ hr e0 (hbind s₁ (.ref a)) (.cons rfl .nil) (hsp H hO hS)) fun r s' h=>?_
  cases r with
  | error e=>exact (hCX H e s' h).elim
  | ok fl=>
   cases fl with
   | next=>exact cj h
   | brk=>exact cj h
   | cont=>exact cj h
   | ret u=>
    obtain⟨v,H',os,bare,un,hok',r',q⟩:=h
    have q':v=.bl true:=q
    subst q'
    obtain rfl:u=Value.bool true:=r'
    refine⟨rfl,OldK.of_keep fun b o e=>?_,os,bare⟩
    cases q:H b with
    | none=>exact un.keep b o e q (by intro z;exact absurd (show b∈([]:List Addr) from z) (by simp)) (by simp)
    | some u=>
     rcases hO b with z | ⟨ob,xs,z⟩
     ·rw[q]at z;cases z
     ·have z2:=un.frzs b ob _ z
      obtain⟨e1,_⟩:=hok b _ z
      obtain⟨e2,_⟩:=hok' b _ z2
      rw[e]at e1;cases e1
      exact e2
 cases hk:K.lookup a with
 | some o=>
  have e:=KX a o hk
  rw[ha]at e
  cases e
  refine core (fun _=>none) (fun _=>.inl rfl) (.inr ⟨_,vs.toArray,_,hk,rfl,rfl,rfl,by rw[aZ,lenV];exact hl,by simpa using rv⟩) (fun b u z=>by have z':(none:Option HO)=some u:=z;cases z') (fun b z=>absurd rfl z) fun z=>absurd rfl z
 | none=>
  refine core (fun b=>if b=a then some (.frz { cls:=.type "list",data:=.seq vs.toArray } (.lst (ns.map V.int))) else none) (fun b=>?_) (.inl (.inr ⟨{ cls:=.type "list",data:=.seq vs.toArray },if_pos rfl⟩)) (fun b u z=>?_) (fun b z=>?_) fun _=>hk
  ·by_cases hb:b=a
   ·exact .inr ⟨_,_,if_pos hb⟩
   ·exact .inl (if_neg hb)
  ·by_cases hb:b=a
   ·have z':=(if_pos hb).symm.trans z
    cases z'
    subst hb
    exact⟨ha,by rw[ae];exact hl,vs,_,rv,ha⟩
   ·have z':=(if_neg hb).symm.trans z
    cases z'
  ·by_cases hb:b=a
   ·exact hb
   ·exact absurd (if_neg hb) z
variable {n:Nat}
theorem walk_of{l:lU}{k:Nat}{q:Program}{loose:List Str}{XP:(Str->Option Value)->Heap->Prop}{YP:World->Heap->Prop}{d:DefRec}{K:Params->ah}{CX:World->CXT}{sp:World->Sp}
  (hn:l.most=some n) (hn2:n≤au) (hdf:d.params.defaults=[]) (hr:Room k fj)
  (hY:∀(w:World) (h:Heap),YP w h->(K w.params).In h)
  (F:∀(w:World) (mg:Str->Option Value) (fa:Addr) (h:Heap),(K w.params).In h->h.Ns aQ mg->mg d.name=some (.ref fa)->
   ∃fd:aq,(∀(s:Shared) (u:Value),ga s fd ⟨[u],[]⟩ [(x,u)])/\
    ∀base:Heap,(K w.params).In base->base.Ns aQ mg->FnOk l.prog w (K w.params) mg base (CX w) k fa fd [x] (sp w))
  (hsp:∀(w:World) (H:Hp) (a:Addr) (ns:List Int),ns.length≤n->jma H->SqL (K w.params) H a (ns.map V.int)->sp w [.ref a] H (fun v _=>v=.bl true) fun _ _ _=>False)
  (hCX:∀(w:World) (H:Hp) (s:Shared) (e:Value) (s':Shared),CX w [] H s (fun _ _ _=>False) e s'->False) :
  oz q loose XP YP l.row.toRowW d [] (fun f vs=>lO f vs):=by
 refine Att.attach_call hn hdf fun w s₀ s₁ mg mb fa o pm cd doc a vs ns G Y ho hd hcd hmg hobj hints hlen hg=>?_
 have KX:=hY w _ Y
 obtain⟨fd,hb,hF⟩:=F w mg fa _ KX G.T.g hmg
 exact jiw KX G.T.g G.T.b G.T.builtins G.T.nolimit hg hobj hints (ad hlen hn2) hr hF hb (fun H hO hS=>hsp w H a ns hlen hO hS) fun H e s'=>hCX w H s₁ e s'
def jfe(s:Stmt)(j:Nat):Stmt:=match s with
 | .ClassDef _ _ _ body _ _ _ _ _ _ _=>body.getD j (.Pass ⟨0,0,0,0⟩)
 | _=>.Pass ⟨0,0,0,0⟩
def yQ(s:Stmt):Arguments:=match s with
 | .FunctionDef _ a _ _ _ _ _ _ _ _=>a
 | _=>{ posonlyargs:=[],args:=[],vararg:=none,kwonlyargs:=[],kw_defaults:=[],kwarg:=none,defaults:=[] }
def zO(s:Stmt):List Stmt:=match s with
 | .FunctionDef _ _ b _ _ _ _ _ _ _=>b
 | _=>[]
def jn(s:Stmt):Scope:=match s with
 | .FunctionDef _ _ _ _ _ _ sc _ _ _=>sc
 | _=>{ kind:=.function,names:=[],isGenerator:=false,isCoroutine:=false }
abbrev CX0:CXT:=fun _ _ _ _ _ _=>False
abbrev E0:XK:=fun _ _ _=>False
variable {X:Cx}
theorem jcC:Yj CX0 X E0:=fun _ _ _ _ _ _ _ h=>h.elim
structure Fun(K:ah)(x qual:Str)(st:Stmt)(f:Addr)(fd:aq):Prop where
 ex:∃(oc:Value) (od:Option Addr) (kV doc pm:Value) (an:Option Addr) (aj ct:Value) (osl:Array (Option Value)),
  fd=cY x qual (yQ st) (zO st) (jn st) .none kV doc pm an aj ct/\K.lookup f=some ⟨oc,od,.func fd,osl⟩/\fk K aj qual=true
 kp:bO K (.ref f)=true
variable {qual:Str}{st:Stmt}{f:Addr}{ps:List Str}
section
variable {base:Heap}
theorem Fun.ok{N:List Str}{k:Nat}(F:Fun K x qual st f fd)(S:FnScope N ps (jn st))(len:∀vs H Q E,sp vs H Q E->vs.length=ps.length)
  (hbody:∀(aj:Value) (A:Around) (outer:List Env) (s:Shared) (H:Hp) (vs:List V) (Q:VK) (E:XK),Room k (A.deeper (envOfC qual (jn st) s.heap.objs.size f aj))->sp vs H Q E->
   ∃t,PSs (qo CX0 P w K mg base N qual (jn st) f aj A outer s H E).nox (zO st) t/\t { nx:=fun _ H'=>Q .non H',rt:=Q } (Yp N vs) H):FnOk P w K mg base CX0 (k+1) f fd ps sp:=by
 obtain⟨oc,od,kV,doc,pm,an,aj,ct,osl,rfl,lk,hcd⟩:=F.ex
 refine jmM lk hcd S len fun A outer s H vs Q E hr hsp=>?_
 obtain⟨t,h,q⟩:=hbody aj A outer s H vs Q E hr hsp
 exact⟨t,h.nox,q⟩
theorem Fun.binds(F:Fun K x qual st f fd)
  (h:∀(kV doc pm:Value) (an:Option Addr) (aj ct:Value) (us:List Value),us.length=ps.length->bindArgs (cY x qual (yQ st) (zO st) (jn st) .none kV doc pm an aj ct) ⟨us,[]⟩=pure (ps.zip us)):Binds K fd ps []:=by
 obtain⟨oc,od,kV,doc,pm,an,aj,ct,osl,rfl,lk,hcd⟩:=F.ex
 exact .all (h kV doc pm an aj ct)
theorem jbU{oc:Value}{od an:Option Addr}{osl:Array (Option Value)}{kV doc pm aj ct:Value}(l:K.lookup f=some ⟨oc,od,.func (cY x qual (yQ st) (zO st) (jn st) .none kV doc pm an aj ct),osl⟩)
  (c:fk K aj qual=true) (k:bO K (.ref f)=true):Fun K x qual st f (cY x qual (yQ st) (zO st) (jn st) .none kV doc pm an aj ct):=⟨⟨oc,od,kV,doc,pm,an,aj,ct,osl,rfl,l,c⟩,k⟩
end
theorem jk1{A:Around}{k:Nat}(hr:Room k A):A.units+1 < cLine:=mK (Nat.add_le_add_left (by decide:1≤64) _) hr.units
theorem ky(h:n≤1000):n < au:=mK h (by decide)
section
theorem pv(i:Nat){x:Str}{pos:Pos}(hN:X.N[i]?=some x:=by rfl)(hv:Vis X.env.scope x:=by first | exact Or.inl rfl | exact Or.inr (Or.inl rfl) | exact Or.inr (Or.inr rfl))(hd:(x == ("__debug__" : Str))=false:=by decide)
  (hcd:(x == ("__classdict__" : Str))=false:=by decide):PE X (.Name x pos) (jbk i):=jlr hN hv hd hcd
end
variable {A B:Prop}
theorem kB(h:B):if false=true then A else B:=by
 rw[if_neg aI];exact h
theorem kQ(h:A):if true=true then A else B:=by
 rw[if_pos rfl];exact h
theorem qi{c:Prop}[Decidable c](h1:c->A)(h2:¬c->B):if c then A else B:=by
 by_cases h:c
 ·rw[if_pos h]
  exact h1 h
 ·rw[if_neg h]
  exact h2 h
theorem jmE{c:Prop}[Decidable c](hc:c)(h:B):if (!decide c)=true then A else B:=by
 rw[decide_eq_true hc];exact kB h
def Same(H H':Hp):Prop:=∀b o,H b=some o->H' b=some o
theorem Same.refl(H:Hp):Same H H:=fun _ _ h=>h
variable {H:Hp}
theorem Same.trans{H1 H2:Hp}(a:Same H H1)(b:Same H1 H2):Same H H2:=fun c o h=>b c o (a c o h)
variable {H':Hp}
theorem Same.free(e:Same H H'){l:Addr}(h:H' l=Option.none):H l=Option.none:=by
 cases q:H l with
 | none=>rfl
 | some o=>
  rw[e l o q]at h
  cases h
variable {xs:List V}
theorem Same.seq(e:Same H H')(h:SqL K H a xs):SqL K H' a xs:=by
 rcases h with (h | ⟨o,h⟩) | h
 ·exact .inl (.inl (e _ _ h))
 ·exact .inl (.inr ⟨o,e _ _ h⟩)
 ·exact .inr h
variable {s:Shared}{scope:Scope}
theorem YM{prog:Program}{A:Around}{elt target iter:Expr}{ifs:List Expr}{pos:Pos}{it acc:Value}{env:Env}{R:Result->Shared->Prop}(I:Nat->Shared->Prop)
  (turn:∀n s,I n s->wpAny (model prog w) A (fg it) (fun r s1=>match r with
   | none=>R (.ok .next) s1
   | some v=>wpAny (model prog w) A (iC target it v) (fun _ s1'=>wpAny (model prog w) A (assign target env v) (fun _ s2=>
     wpAny (model prog w) A (forIn ifs true fun c r=>if r=true then do let ok ← isTrue c env (eval c env);pure (ForInStep.yield ok) else pure (ForInStep.yield r)) (fun ok s3=>
      if ok=true then wpAny (model prog w) A (eval elt env) (fun x s4=>
       wpAny (model prog w) A (call (.builtin "list.append") [acc,x]) (fun _ s5=>∃m,m < n/\I m s5) (fun _ _=>False) s4) (fun _ _=>False) s3
      else ∃m,m < n/\I m s3) (fun _ _=>False) s2) (fun _ _=>False) s1') (fun _ _=>False) s1) (fun _ _=>False) s)
  (n:Nat) (h:I n s):dz (model prog w) A (.compLoop (.ListComp elt [⟨target,iter,ifs,0⟩] scope pos) 0 it acc env) R s:=by
 have no:∀(x:Value) (s':Shared),False->notedBy (model prog w) A env (fun e s'=>R (.error e) s') x s':=fun _ _ z=>z.elim
 refine codeAny_loop rfl I (fun n s hI=>?_) n h
 show wpAny _ A ((compTurn (.ListComp elt [⟨target,iter,ifs,0⟩] scope pos) 0 it acc env).onRaise (fun x=>do noteFrame x env;theTreesLotGoes x)) _ _ s
 refine wpAny_noted ?_
 rw[compTurn_list]
 refine az (iz (az (bU (turn n s hI) (fun r s1 h1=>?_) no)))
 cases r with
 | none=>exact aL h1
 | some v=>
  refine az (bU h1 (fun _ s1' h1'=>?_) no)
  refine az (bU h1' (fun _ s2 h2=>az (bU h2 (fun ok s3 h3=>?_) no)) no)
  cases ok with
  | false=>exact aL ⟨rfl,h3⟩
  | true=>
   exact az (az (bU h3 (fun x s4 h4=>az (bU h4 (fun _ s5 h5=>aL (aL ⟨rfl,h5⟩)) no)) no))
theorem jiL:(NameKind.free == NameKind.free)=true:=rfl
def Kk(cells:List (Str×Addr)):List (Str×cv)->List (Str×Addr)->List (Str×Addr)
 | [],acc=>acc
 | (n,k) :: r,acc=>if k == .free then Kk cells r ((n,(cells.lookup n).getD 0) :: acc) else Kk cells r acc
theorem jcZ{env:Env}:∀(names:List (Str×cv)) (acc:List (Str×Addr)),(∀x∈names,x.2=.free->(env.cells.lookup x.1).isSome=true)->
  (forIn names acc fun x (cs:List (Str×Addr))=>(match x with | (name,kind)=>if (kind == NameKind.free)=true then do let c ← cellOf env name;pure (ForInStep.yield ((name,c) :: cs)) else pure (ForInStep.yield cs):Sem (ForInStep (List (Str×Addr)))))=(pure (Kk env.cells names acc):Sem (List (Str×Addr)))
 | [],acc,_=>by simp only[List.forIn_nil];rfl
 | (n,k) :: r,acc,h=>by
  have ih:=fun a=>jcZ (env:=env) r a fun x hx=>h x (ao _ hx)
  rw[k_];by_cases hk:k=.free
  ·subst hk
   have q:=h (n,.free) am rfl;obtain⟨c,hc⟩:=gG.mp q;have e:cellOf env n=pure c:=by unfold cellOf;rw[show env.cells.lookup n=some c from hc]
   simp only[beq_self_eq_true,if_true,e,pure_bind];rw[ih];show _=pure (if (NameKind.free == NameKind.free)=true then Kk env.cells r ((n,(env.cells.lookup n).getD 0) :: acc) else _);rw[if_pos jiL,show env.cells.lookup n=some c from hc];rfl
  ·have hb:(k == NameKind.free)=false:=by simpa using hk
   simp only[hb,Bool.false_eq_true,if_false,pure_bind];rw[ih];show _=pure (if (k == NameKind.free)=true then _ else Kk env.cells r acc);rw[hb];rfl
theorem jar{env:Env}(h:∀x∈scope.names,x.2=.free->(env.cells.lookup x.1).isSome=true):closureFor scope env=pure (Kk env.cells scope.names []):=by
 unfold closureFor;have e:=jcZ (env:=env) scope.names [] h;simp only[bind_pure]at *;exact e
theorem jeh{cells:List (Str×Addr)}:∀(names:List (Str×cv)) (acc:List (Str×Addr)),(∀x∈names,x.2=.free->(cells.lookup x.1).isSome=true)->(∀x c,acc.lookup x=some c->cells.lookup x=some c)->
  ∀x c,(Kk cells names acc).lookup x=some c->cells.lookup x=some c
 | [],acc,_,ha=>ha
 | (n,k) :: r,acc,h,ha=>by
  unfold Kk;by_cases hk:k=.free
  ·subst hk
   rw[if_pos jiL];refine jeh r _ (fun x hx=>h x (ao _ hx)) fun x c e=>?_
   by_cases hx:x=n
   ·subst hx
    rw[eQ]at e;obtain⟨d,hd⟩:=gG.mp (h (x,.free) am rfl);have hd':cells.lookup x=some d:=hd;rw[hd']at e ⊢;exact e
   ·rw[cN,beq_eq_false_iff_ne.mpr hx]at e
    exact ha x c e
  ·rw[if_neg (by simpa using hk)]
   exact jeh r _ (fun x hx=>h x (ao _ hx)) ha
theorem jb3{cells:List (Str×Addr)}:∀(names:List (Str×cv)) (acc:List (Str×Addr)) (x:Str),(acc.lookup x).isSome=true->((Kk cells names acc).lookup x).isSome=true
 | [],acc,_,ha=>ha
 | (n,k) :: r,acc,x,ha=>by
  unfold Kk;split
  ·refine jb3 r _ x ?_
   rw[cN];split
   ·rfl
   ·exact ha
  ·exact jb3 r _ x ha
theorem jej{cells:List (Str×Addr)}:∀(names:List (Str×cv)) (acc:List (Str×Addr)) (x:Str),(x,NameKind.free)∈names->((Kk cells names acc).lookup x).isSome=true
 | [],_,_,h=>by simp at h
 | (n,k) :: r,acc,x,h=>by
  unfold Kk;rcases ak.mp h with e | h
  ·obtain⟨e1,e2⟩:=Prod.mk.inj e
   subst e1 e2;rw[if_pos jiL];refine jb3 r _ _ ?_;rw[eQ];rfl
  ·split
   ·exact jej r _ x h
   ·exact jej r _ x h
theorem yC{env:Env}:∀{names:List (Str×cv)} {x:Str} {k:cv},
  (names.map fun (n,k)=>if (k == NameKind.free && env.scope.kind == .function && env.kindOf n == some .cell) then (n,NameKind.cell) else (n,k)).lookup x=some k->
   names.lookup x=some k∨(k=.cell/\names.lookup x=some .free)
 | [],_,_,h=>by simp at h
 | (n,k') :: r,x,k,h=>by
  rw[aX]at h;by_cases hx:x=n
  ·subst hx
   rw[eQ];by_cases hc:(k' == NameKind.free && env.scope.kind == .function && env.kindOf x == some .cell)=true
   ·simp only[hc,if_true]at h
    rw[eQ]at h;have hk:k'=.free:=by
     simp only[bg,beq_iff_eq]at hc;exact hc.1.1
    exact .inr ⟨(bP h).symm,by rw[hk]⟩
   ·simp only[hc]at h
    rw[if_neg (by simp),eQ]at h;exact .inl h
  ·have e:(x == n)=false:=beq_eq_false_iff_ne.mpr hx
   have h':(r.map fun (n,k)=>if (k == NameKind.free && env.scope.kind == .function && env.kindOf n == some .cell) then (n,NameKind.cell) else (n,k)).lookup x=some k:=by
    by_cases hc:(k' == NameKind.free && env.scope.kind == .function && env.kindOf n == some .cell)=true
    ·simp only[hc,if_true]at h
     rw[cN,e]at h;exact h
    ·simp only[hc]at h
     rw[if_neg (by simp),cN,e]at h;exact h
   have ih:=@yC env r x k h';rw[cN,e];exact ih
theorem Yy{env:Env}:∀{names:List (Str×cv)} {x:Str},names.lookup x=some .free->
  (names.map fun (n,k)=>if (k == NameKind.free && env.scope.kind == .function && env.kindOf n == some .cell) then (n,NameKind.cell) else (n,k)).lookup x=some .cell∨
  (names.map fun (n,k)=>if (k == NameKind.free && env.scope.kind == .function && env.kindOf n == some .cell) then (n,NameKind.cell) else (n,k)).lookup x=some .free
 | [],_,h=>by simp at h
 | (n,k') :: r,x,h=>by
  rw[aX];by_cases hx:x=n
  ·subst hx
   rw[eQ]at h
   cases h
   by_cases hc:(NameKind.free == NameKind.free && env.scope.kind == .function && env.kindOf x == some .cell)=true
   ·simp only[hc,if_true]
    exact .inl eQ
   ·simp only[hc]
    rw[if_neg (by simp)];exact .inr eQ
  ·have e:(x == n)=false:=beq_eq_false_iff_ne.mpr hx
   rw[cN,e]at h;have ih:=@Yy env r x h;by_cases hc:(k' == NameKind.free && env.scope.kind == .function && env.kindOf n == some .cell)=true
   ·simp only[hc,if_true]
    rw[cN,e];exact ih
   ·simp only[hc]
    rw[if_neg (by simp),cN,e];exact ih
def blk(X:Cx)(scope:Scope)(own:List Str)(fr:List Nat)(s:Shared)(H:Hp)(ex:List Addr):Cx where
 prog:=X.prog
 w:=X.w
 K:=X.K
 mg:=X.mg
 base:=X.base
 A:=X.A
 N:=own++fr.map fun j=>X.N.getD j (aa "")
 s₀:=s
 H₀:=H
 env:=compEnvC scope (Kk X.env.cells scope.names []) s.heap.objs.size X.env
 outer:=X.stack
 stack:=X.stack
 ex:=ex
 fn:=fun _=>false
 calm:=X.calm
 pn:=[]
 xe:=fun _ _=>False
def ji8(own:List Str)(fr:List Nat)(σ:St):St:=own.map (fun _=>none)++fr.map fun j=>(σ[j]?).join
structure CompOk(X:Cx)(scope:Scope)(fr:List Nat):Prop where
 kind:scope.kind=.function
 nocell:∀y∈scope.names,y.2≠.cell
 loc:∀y∈scope.names,y.2=.local->scope.names.lookup y.1=some .local
 frees:∀y∈scope.names,y.2=.free->X.env.scope.names.lookup y.1=some .cell∨X.env.scope.names.lookup y.1=some .free
 fr:∀j∈fr,scope.names.lookup (X.N.getD j (aa ""))=some .free
theorem jfc{own:List Str}{fr:List Nat}{ac:List (Addr×Obj)}{σ:St}{ex:List Addr}{h1:Heap}{t1:Nat}(I:Inv X ac σ H s)(O:CompOk X scope fr)
  (hex:∀b∈ex,Zq X ac H b/\b < s.heap.objs.size) (hns:h1.Ns s.heap.objs.size fun _=>none) (hk:∀b o,s.heap.get? b=some o->h1.get? b=some o) :
  Inv (blk X scope own fr s H ex) [] (ji8 own fr σ) H { s with heap:=h1,toks:=t1 }:=by
 have hsome:∀x∈scope.names,x.2=.free->(X.env.cells.lookup x.1).isSome=true:=fun x hx e=>by
  obtain⟨c,hc⟩:=I.ok.has x.1 (O.frees x hx e);rw[hc];rfl
 have sub:∀x c,(Kk X.env.cells scope.names []).lookup x=some c->X.env.cells.lookup x=some c:=jeh scope.names [] hsome fun x c e=>by simp at e
 have hasc:∀x,scope.names.lookup x=some .free->∃c,(Kk X.env.cells scope.names []).lookup x=some c:=fun x e=>gG.mp (jej scope.names [] x (eB e))
 have hcne:∀x c,X.env.cells.lookup x=some c->c < s.heap.objs.size:=fun x c e=>by
  obtain⟨v,q⟩:=I.cell x c e;exact q.lt
 have hN:σ.length=X.N.length:=I.len
 refine⟨⟨I.ok.mod,O.kind,I.ok.glob,I.ok.blt,av _,fun x y c e1 e2=>I.ok.inj x y c (sub x c e1) (sub y c e2),fun x hx=>?_,fun x c z=>absurd z (by simp[blk]),I.ok.hd,I.ok.frames,.inl rfl,fun b hb=>⟨bp (hex b hb).2,fun x c e=>(hex b hb).1.2.2.2.2.1 x c (sub x c e)⟩,
  fun b o e=>I.bs b o e,ad I.ok.bsz I.sz,fun b o e hb=>?_,fun b hb z=>?_,I.stack,I.stkFree⟩,
  rfl,I.bare,Un.kept hk,⟨_,hns,fun i x v e1 e2 e3=>?_⟩,fun x c e=>?_,I.fresh,fun x c e=>I.freeC x c (sub x c e),fun p hp=>absurd hp (by simp[blk]),I.hok.kept hk,?_⟩
 ·have hx':(relabel scope X.env).names.lookup x=some .cell∨(relabel scope X.env).names.lookup x=some .free:=hx
  rcases hx' with hx | hx
  ·rcases yC hx with q | ⟨_,q⟩
   ·exact absurd rfl (O.nocell _ (eB q))
   ·exact hasc x q
  ·rcases yC hx with q | ⟨q,_⟩
   ·exact hasc x q
   ·cases q
 ·rcases (hex b hb).1.2.2.2.1 with z | z
  ·exact I.ok.noex b o e z
  ·exact absurd (bQ (aM e) (ad I.ok.bsz z)) (fG _)
 ·obtain⟨_,f1,f2,_⟩:=(hex b hb).1
  rcases ak.mp (I.stkSub b z) with q | q
  ·exact f1 q
  ·exact f2 q
 ·have e1':(own++fr.map fun j=>X.N.getD j (aa ""))[i]?=some x:=e1
  unfold ji8 at e2
  have hi:own.length≤i:=by
   by_cases h:own.length≤i
   ·exact h
   ·rw[gU (by simpa using Nat.lt_of_not_le h),bq]at e2
    cases q:own[i]? with
    | none=>rw[q]at e2;cases e2
    | some z=>rw[q]at e2;cases e2
  rw[gT hi,bq]at e1'
  rw[gT (by simpa using hi),bq,ae]at e2
  cases q:fr[i - own.length]? with
  | none=>rw[q]at e2;cases e2
  | some j=>
   rw[q]at e1' e2
   have e1'':X.N.getD j (aa "")=x:=bP e1'
   have e2':(σ[j]?).join=some v:=bP e2
   have e2'':σ[j]?=some (some v):=by
    cases z:σ[j]? with
    | none=>rw[z]at e2';cases e2'
    | some y=>rw[z]at e2';rw[← e2'];rfl
   have hj:j < X.N.length:=by rw[← hN];exact (bx.mp e2'').1
   have e3':X.N[j]?=some x:=by
    rw[aE hj,← e1'',cg,aE hj];rfl
   have hf:=O.fr j (dh q)
   rw[e1'']at hf
   have hv:=O.frees _ (eB hf) rfl
   obtain⟨m,_,hl⟩:=I.loc
   obtain⟨u,ru,lk⟩:=hl j x v e3' e2'' (.inr hv)
   refine⟨u,ru,.inr ⟨?_,?_⟩⟩
   ·exact Yy hf
   ·obtain⟨c,hc⟩:=hasc x hf
    refine⟨c,hc,?_⟩
    rcases lk with⟨k,_⟩ | ⟨_,c',hc',z⟩
    ·have k':X.env.scope.names.lookup x=some .local:=k
     rcases hv with hv | hv <;> · rw[k']at hv;cases hv
    ·have:=sub x c hc
     rw[hc']at this
     cases this
     obtain⟨o,ho,hd⟩:=z
     exact⟨o,hk _ _ ho,hd⟩
 ·obtain⟨v,o,ho,hd⟩:=I.cell x c (sub x c e)
  exact⟨v,o,hk _ _ ho,hd⟩
 ·show (ji8 own fr σ).length=(own++fr.map fun j=>X.N.getD j (aa "")).length
  unfold ji8
  rw[af,af,ae,ae,ae]
theorem YQ{own:List Str}{fr:List Nat}{ac:List (Addr×Obj)}{σ σ':St}{s':Shared}{ex:List Addr}(I:Inv X ac σ H s)(hex:∀b∈ex,Zq X ac H b/\b < s.heap.objs.size)
  (J:Inv (blk X scope own fr s H ex) [] σ' H' s') {h':Heap} (hs:b0 s.heap.objs.size s'.heap h'):Inv X ac σ H' { s' with heap:=h' }:=by
 have hC:H' s.heap.objs.size=none:=J.free
 have u:Un (frs X.stack) ex H H' s.heap s'.heap:=J.base
 have ne:∀b o,s.heap.get? b=some o->b≠s.heap.objs.size:=fun b o e=>bp (aM e)
 have at':∀b o,b≠s.heap.objs.size->s'.heap.get? b=some o->h'.get? b=some o:=fun b o hb e=>(hs.2 b hb).trans e
 refine I.call' (ch:=ex) J.os ⟨fun b o e n hb hx=>?_,fun b o e n hb hx=>?_,u.free,fun b o e hx=>?_,u.tups,u.frzs,u.tbls⟩ (fun b o e=>?_) J.bare fun b hb=>?_
 ·exact at' b o (ne b o e) (u.keep b o e n hb hx)
 ·obtain⟨sl,q⟩:=u.slot b o e n hb hx
  exact⟨sl,at' b _ (ne b o e) q⟩
 ·obtain⟨o',q⟩:=u.there b o e hx
  exact⟨o',at' b _ (ne b o e) q⟩
 ·refine (J.hok b o e).stay (fun c v hc q=>at' c v ?_ q) (fun _ q=>q) fun _ _ q=>q
  rintro z
  rcases hc with y | y
  ·rw[y]at z;rw[z,hC]at e;cases e
  ·rw[z,hC]at y;cases y
 ·obtain⟨f0,f1,f2,f3,f4,f5⟩:=(hex b hb).1
  exact⟨f3,f1,f4,f5⟩
def PTs(X:Cx)(ifs:List Expr)(t:TT):Prop:=
 ∀(ac:List (Addr×Obj)) (s:Shared) (σ:St) (H:Hp) (Q:Bool->Hp->Prop),Inv X ac σ H s->t σ H Q->
  wpAny (model X.prog X.w) X.A (forIn ifs true fun c r=>if r=true then do let ok ← isTrue c X.env (eval c X.env);pure (ForInStep.yield ok) else pure (ForInStep.yield r)) (TP X ac σ Q) X.xe s
def y4:TT:=fun _ H Q=>Q true H
theorem jeT{X:Cx}:PTs X [] y4:=fun _ _ _ H _ I h=>wpAny_tests_nil ⟨H,I,h⟩
theorem jjC{X:Cx}{c:Expr}{t:TT}(h:PT X c t):PTs X [c] t:=fun ac s σ H Q I q=>wpAny_tests_one (h ac s σ H Q I q)
def Ko(J:It)(p:Addr)(g:TG)(tt:TT)(te:TE)(Q:VK)(σ:St)(H:Hp):Prop:=∃W:Nat->Nat->St->Hp->Prop,(∃m,W 0 m σ H)/\
 ∀i m σ' H',W i m σ' H'->(J.stop i H'/\Q (.ref p) H')∨(J.go i H'/\∃N:St->Hp->Prop,(∀σ3 H3,N σ3 H3->∃m',m' < m/\W (i+1) m' σ3 H3)/\∀x H2,J.yld i H' x H2->g x σ' H2 fun σ3 H3=>tt σ3 H3 fun c H4=>
  if c=true then te σ3 H4 fun y H5=>∃ys,H5 p=some (.lst ys)/\ys.length < au/\N σ3 (upd H5 p (.lst (ys++[y]))) else N σ3 H4)
def jaD(own:List Str)(fr:List Nat)(wi:TI)(g:TG)(tt:TT)(te:TE):TE:=fun σ H Q=>wi σ H fun J H1=>∀p,H1 p=none->Ko J p g tt te Q (ji8 own fr σ) (upd H1 p (.lst []))
theorem ji0{own:List Str}{fr:List Nat}{elt tg iter:Expr}{ifs:List Expr}{pos:Pos}{wi:TI}{g:TG}{tt:TT}{te:TE}{use:Option (Value->Sem Unit)}(hc:X.calm=true)(O:CompOk X scope fr)(hi:PI X tg iter wi)
  (hb:∀s H ex,PG (blk X scope own fr s H ex) tg g/\PTs (blk X scope own fr s H ex) ifs tt/\PE (blk X scope own fr s H ex) elt te)
  (hs:∀x,eD iter X.env x=pure x) {ac:List (Addr×Obj)} {s:Shared} {σ:St} {H:Hp} {Q:VK} {R:Value->Shared->Prop} (I:Inv X ac σ H s) (h:jaD own fr wi g tt te σ H Q) (hx:∀e s',X.xe e s'↔False)
  (fin:∀(p C:Addr) (H':Hp) (s':Shared) (m:Str->Option Value),s'.heap.Ns C m->H' C=none->C≠X.env.locals->(∀x c,X.env.cells.lookup x=some c->c≠C)->Inv X ac σ H' s'->(∀h',b0 C s'.heap h'->Inv X ac σ H' { s' with heap:=h' })->Q (.ref p) H'->
   iF (model X.prog X.w) X.A X.xe use R (.ref p) C (.ok .next) s') :
  wpAny (model X.prog X.w) X.A (comprehension (.ListComp elt [⟨tg,iter,ifs,0⟩] scope pos) scope X.env (firstIterPos [⟨tg,iter,ifs,0⟩] pos) (newList []) false (eval iter X.env) use) R X.xe s:=by
 have hsome:∀x∈scope.names,x.2=.free->(X.env.cells.lookup x.1).isSome=true:=fun x hx' e=>by
  obtain⟨c,hc⟩:=I.ok.has x.1 (O.frees x hx' e);rw[hc];rfl
 have no:∀(E:Value->Shared->Prop) (x:Value) (s':Shared),X.xe x s'->E x s':=fun E x s' z=>((hx x s').mp z).elim
 refine nn (cl:=Kk X.env.cells scope.names []) rfl hs (jar hsome) O.kind O.loc ?_
 refine thn (hi ac s σ H _ I h) fun v s1 h1=>thn h1 fun itv s2 h2=>?_
 obtain⟨it,fp,tn,J,H2,e,I2,T,st2,f2,q2⟩:=h2
 subst e
 refine fP ?_
 have nw:H2 s2.heap.objs.size=none:=I2.fresh
 obtain⟨W,⟨m0,w0⟩,turn⟩:=q2 _ nw
 generalize hp:s2.heap.objs.size=p at *
 have I3:Inv X ac σ (upd H2 p (.lst [])) { s2 with heap:=s2.heap.push { cls:=.type "list",dict:=none,data:=.seq ([]:List Value).toArray } }:=by
  have:=I2.lnew (ys:=[]) (its:=[]) (t':=s2.toks) .nil (bm _);rw[hp]at this;exact this
 have lt2:∀b∈fp,b < s2.heap.objs.size:=fun b hb=>by
  obtain⟨o,ho,_⟩:=T.obj _ _ st2 b hb;exact aM ho
 have fpn:∀b∈fp,(upd H2 p (.lst [])) b=none:=fun b hb=>by
  rw[js (by rw[← hp];exact bp (lt2 b hb))];exact (f2 b hb).1
 generalize hs3:({ s2 with heap:=s2.heap.push { cls:=.type "list",dict:=none,data:=.seq ([]:List Value).toArray } }:Shared)=s3 at *
 have sz3:s3.heap.objs.size=p+1:=by
  rw[← hs3];show (s2.heap.push _).objs.size=_;rw[fC,hp]
 have st3:tn 0 s3.heap:=T.keep 0 _ _ st2 fun b hb o e=>by
  rw[← hs3];exact bc _ e
 refine ni O.nocell (by intro y hy;simp at hy) (fun h4 hns4 hsb4=>?_) O.kind
 have k4:∀b o,s3.heap.get? b=some o->h4.get? b=some o:=fun b o e=>hsb4.extBut b o (bp (aM e)) (bc _ e)
 have hns4':h4.Ns s3.heap.objs.size fun _=>none:=by
  have z:(fun x:Str=>([]:List (Str×Value)).reverse.lookup x)=fun _=>none:=by funext x;rfl
  rw[z]at hns4;exact hns4
 have fo:∀b∈fp,Zq X ac (upd H2 p (.lst [])) b/\b < s3.heap.objs.size:=fun b hb=>⟨⟨fpn b hb,(f2 b hb).2⟩,by rw[sz3,← hp];exact rc (lt2 b hb)⟩
 have I4:=jfc (own:=own) (fr:=fr) (t1:=s3.toks+([]:List (Str×Value)).length) I3 O fo hns4' k4
 have st4:tn 0 h4:=T.keep 0 _ _ st3 fun b hb o e=>k4 b o e
 obtain⟨hg,ht,he⟩:=hb s3 (upd H2 p (.lst [])) fp
 have stat:∀{H':Hp} {pn:List (Addr×Obj)} {s':Shared} {σ':St},Inv (blk X scope own fr s3 (upd H2 p (.lst [])) fp) [] σ' H' s'->(∀b∈fp,H' b=none)->∀b∈fp,Zq (blk X scope own fr s3 (upd H2 p (.lst [])) fp) [] H' b:=fun {H' pn s' σ'} J hn b hb'=>
  ⟨hn b hb',(J.ok.exf b hb').1,J.ok.exfs b hb',.inl hb',(J.ok.exf b hb').2,fun p hp=>absurd hp (by simp[blk])⟩
 have nocells:∀x c,X.env.cells.lookup x=some c->c≠s3.heap.objs.size:=fun x c e=>by
  obtain⟨v,q⟩:=I3.cell x c e;exact bp q.lt
 have loop:∀s5:Shared,s5={ s3 with heap:=h4,toks:=s3.toks+([]:List (Str×Value)).length }->
   dz (model X.prog X.w) X.A (.compLoop (.ListComp elt [⟨tg,iter,ifs,0⟩] scope pos) 0 (.ref it) (.ref p) (blk X scope own fr s3 (upd H2 p (.lst [])) fp).env) (iF (model X.prog X.w) X.A X.xe use R (.ref p) s3.heap.objs.size) s5:=by
  rintro s5 rfl
  refine YM (fun n s'=>∃i σ' H',Inv (blk X scope own fr s3 (upd H2 p (.lst [])) fp) [] σ' H' s'/\tn i s'.heap/\(∀b∈fp,H' b=none)/\W i n σ' H') ?_ m0 ⟨0,_,_,I4,st4,fpn,w0⟩
  rintro n s6 ⟨i,σ6,H6,I6,st6,fr6,w6⟩
  rcases turn i n σ6 H6 w6 with⟨stop,qn⟩ | ⟨go,N,hN,step⟩
  ·refine thn (T.done (blk X scope own fr s3 (upd H2 p (.lst [])) fp) rfl rfl rfl hc i [] s6 σ6 H6 _ I6 (stat (pn:=[]) I6 fr6) st6 stop) fun r s7 ⟨hr,I7⟩=>?_
   subst hr
   obtain⟨m,hm,_⟩:=I7.loc
   exact fin p _ H6 s7 m hm I7.free (iZ I3.lt) nocells (YQ I3 fo I7 (oZ ..)) (fun h' hs'=>YQ I3 fo I7 hs') qn
  ·refine thn (T.item (blk X scope own fr s3 (upd H2 p (.lst [])) fp) rfl rfl rfl hc i [] s6 σ6 H6 _ I6 (stat (pn:=[]) I6 fr6) st6 go) fun r s7 ⟨u,hr,h7⟩=>?_
   subst hr
   refine thn h7 fun _ s8 ⟨x,H8,I8,r8,y8,st8,fr8⟩=>?_
   have I8':=I8.pinned (stat (pn:=[]) I8 fr8) (T.obj _ _ st8)
   refine thn (hg _ s8 σ6 H8 x u _ I8' r8 (step x H8 y8)) fun _ s9 ⟨σ9,H9,I9,q9⟩=>?_
   refine thn (ht _ s9 σ9 H9 _ I9 q9) fun ok s10 ⟨H10,I10,q10⟩=>?_
   have again:∀{H11:Hp} {s11:Shared},Inv (blk X scope own fr s3 (upd H2 p (.lst [])) fp) ([]++J6 fp s8.heap) σ9 H11 s11->(∃m',m' < n/\W (i+1) m' σ9 H11)->
     ∃m,m < n/\∃i σ' H',Inv (blk X scope own fr s3 (upd H2 p (.lst [])) fp) [] σ' H' s11/\tn i s11.heap/\(∀b∈fp,H' b=none)/\W i m σ' H':=fun {H11 s11} I11 ⟨m',hm,w11⟩=>by
    refine⟨m',hm,i+1,σ9,H11,I11.unpinned,T.keep _ _ _ st8 fun b hb' o e=>(I11.pin (b,o) (aT _ (aT _ (zI hb' e)))).1,fun b hb'=>?_,w11⟩
    obtain⟨o,e,d⟩:=T.obj _ _ st8 b hb'
    exact (I11.pin (b,o) (aT _ (aT _ (zI hb' e)))).2.1
   cases ok with
   | false=>
    rw[if_neg aI]at q10 ⊢
    exact again I10 (hN _ _ q10)
   | true=>
    rw[if_pos rfl]at q10 ⊢
    refine thn (he _ s10 σ9 H10 _ I10 q10) fun yv s11 ⟨y,H11,I11,r11,ys,hys,hlen,q11⟩=>?_
    have ap:=jW (X:=blk X scope own fr s3 (upd H2 p (.lst [])) fp) ([]++J6 fp s8.heap) s11 σ9 H11 (.ref p) [y] (.ref p) [yv] (fun _ H12=>∃m',m' < n/\W (i+1) m' σ9 H12) I11 rfl (.cons r11 .nil) ⟨p,ys,y,rfl,rfl,hys,hlen,hN _ _ q11⟩
    exact thn ap fun _ s12 ⟨_,H12,I12,_,q12⟩=>again I12 q12
 refine nY (loop _ rfl) (T.self X.A 0 _ _ _ st4 (loop _ rfl))
theorem jeZ{X:Cx}{scope:Scope}{elt tg iter:Expr}{ifs:List Expr}{pos:Pos}{wi:TI}{g:TG}{tt:TT}{te:TE}(own:List Str)(fr:List Nat)(hc:X.calm=true)(O:CompOk X scope fr)(hi:PI X.nox tg iter wi)
  (hb:∀s H ex,PG (blk X.nox scope own fr s H ex) tg g/\PTs (blk X.nox scope own fr s H ex) ifs tt/\PE (blk X.nox scope own fr s H ex) elt te)
  (hs:∀x,eD iter X.env x=pure x:=by intro _;rfl):PE X.nox (.ListComp elt [⟨tg,iter,ifs,0⟩] scope pos) (jaD own fr wi g tt te):=by
 intro ac s σ H Q I h
 rw[eval_ListComp]
 refine ji0 (X:=X.nox) (use:=none) (Q:=Q) hc ⟨O.kind,O.nocell,O.loc,O.frees,O.fr⟩ hi hb hs I h (fun _ _=>Iff.rfl) fun p C H' s' m hm hC _ _ I' back q=>?_
 exact⟨m,hm,fun h' hs'=>⟨.ref p,H',back h' hs',rfl,q⟩⟩
section
variable {p:Addr}{g:TG}{tt:TT}{te:TE}{σ:St}{Q:VK}
theorem jb2(J:It)(n:Nat)(Pv:Nat->St->Hp->Prop)(h0:Pv 0 σ H)(stop:∀σ' H',Pv n σ' H'->J.stop n H')(go:∀i σ' H',i < n->Pv i σ' H'->J.go i H')
  (hs:∀i σ' H',i < n->Pv i σ' H'->∀x H2,J.yld i H' x H2->g x σ' H2 fun σ3 H3=>tt σ3 H3 fun c H4=>if c=true then te σ3 H4 fun y H5=>∃ys,H5 p=some (.lst ys)/\ys.length < au/\Pv (i+1) σ3 (upd H5 p (.lst (ys++[y]))) else Pv (i+1) σ3 H4)
  (hd:∀σ' H',Pv n σ' H'->Q (.ref p) H'):Ko J p g tt te Q σ H:=by
 refine⟨fun i m σ H=>m=n - i/\i≤n/\Pv i σ H,⟨n,by simp,bm _,h0⟩,?_⟩
 rintro i m σ1 H1 ⟨rfl,hi,pv⟩
 by_cases hlt:i < n
 ·exact .inr ⟨go i σ1 H1 hlt pv,Pv (i+1),fun σ3 H3 q=>⟨n - (i+1),by omega,rfl,hlt,q⟩,hs i σ1 H1 hlt pv⟩
 ·have e:i=n:=by omega
  subst e
  exact .inl ⟨stop σ1 H1 pv,hd σ1 H1 pv⟩
theorem qy{lo:Int}(Pv:Nat->St->Hp->Prop)(h0:Pv 0 σ H)
  (hs:∀i σ' H',i < n->Pv i σ' H'->g (.int (lo+i)) σ' H' fun σ3 H3=>tt σ3 H3 fun c H4=>if c=true then te σ3 H4 fun y H5=>∃ys,H5 p=some (.lst ys)/\ys.length < au/\Pv (i+1) σ3 (upd H5 p (.lst (ys++[y]))) else Pv (i+1) σ3 H4)
  (hd:∀σ' H',Pv n σ' H'->Q (.ref p) H'):Ko (Itr lo n) p g tt te Q σ H:=
 jb2 (Itr lo n) n Pv h0 (fun _ _ _=>av _) (fun i _ _ h _=>h) (fun i σ' H' h pv x H2 y=>by
  obtain⟨e1,e2⟩:=y;subst e1 e2;exact hs i σ' _ h pv) hd
theorem YL(Pv:Nat->St->Hp->Prop)(h0:Pv 0 σ H)(hl:∀i σ' H',i≤xs.length->Pv i σ' H'->SqT K H' a xs)
  (hs:∀i x σ' H',xs[i]?=some x->Pv i σ' H'->g x σ' H' fun σ3 H3=>tt σ3 H3 fun c H4=>if c=true then te σ3 H4 fun y H5=>∃ys,H5 p=some (.lst ys)/\ys.length < au/\Pv (i+1) σ3 (upd H5 p (.lst (ys++[y]))) else Pv (i+1) σ3 H4)
  (hd:∀σ' H',Pv xs.length σ' H'->Q (.ref p) H'):Ko (Itt K a) p g tt te Q σ H:=
 jb2 (Itt K a) xs.length Pv h0 (fun σ' H' pv=>⟨xs,hl _ σ' H' (av _) pv,av _⟩) (fun i σ' H' h pv=>⟨xs,xs[i],hl i σ' H' (bE h) pv,by simp[h]⟩) (fun i σ' H' h pv x H2 y=>by
  obtain⟨e1,e2⟩:=y;subst e1;exact hs i x σ' _ (e2 xs (hl i σ' _ (bE h) pv)) pv) hd
theorem ja5(Pv:Nat->St->Hp->Prop)(h0:Pv 0 σ H)(hl:∀i σ' H',i≤xs.length->Pv i σ' H'->SqL K H' a xs)
  (hs:∀i x σ' H',xs[i]?=some x->Pv i σ' H'->g x σ' H' fun σ3 H3=>tt σ3 H3 fun c H4=>if c=true then te σ3 H4 fun y H5=>∃ys,H5 p=some (.lst ys)/\ys.length < au/\Pv (i+1) σ3 (upd H5 p (.lst (ys++[y]))) else Pv (i+1) σ3 H4)
  (hd:∀σ' H',Pv xs.length σ' H'->Q (.ref p) H'):Ko (Itl K a) p g tt te Q σ H:=
 jb2 (Itl K a) xs.length Pv h0 (fun σ' H' pv=>⟨xs,hl _ σ' H' (av _) pv,av _⟩) (fun i σ' H' h pv=>⟨xs,xs[i],hl i σ' H' (bE h) pv,by simp[h]⟩) (fun i σ' H' h pv x H2 y=>by
  obtain⟨e1,e2⟩:=y;subst e1;exact hs i x σ' _ (e2 xs (hl i σ' _ (bE h) pv)) pv) hd
end
inductive D where
 | int (i:Int) | str (x:Str) | tup (ds:List D)
mutual
def Held(H:Hp):D->V->Prop
 | .int i,v=>v=.int i
 | .str x,v=>v=.str x
 | .tup ds,v=>∃a xs,v=.ref a/\H a=some (.tup xs)/\HeldL H ds xs
def HeldL(H:Hp):List D->List V->Prop
 | [],vs=>vs=[]
 | d :: ds,vs=>∃v r,vs=v :: r/\Held H d v/\HeldL H ds r
end
mutual
theorem Held.mono{H H':Hp}(e:Same H H'):∀{d:D} {v:V},Held H d v->Held H' d v
 | .int i,v,h=>by unfold Held at h ⊢;exact h
 | .str x,v,h=>by unfold Held at h ⊢;exact h
 | .tup ds,v,h=>by
  unfold Held at h ⊢;obtain⟨a,xs,e1,e2,e3⟩:=h;exact⟨a,xs,e1,e a _ e2,HeldL.mono e e3⟩
theorem HeldL.mono{H H':Hp}(e:Same H H'):∀{ds:List D} {vs:List V},HeldL H ds vs->HeldL H' ds vs
 | [],vs,h=>by unfold HeldL at h ⊢;exact h
 | d :: ds,vs,h=>by
  unfold HeldL at h ⊢;obtain⟨v,r,e1,e2,e3⟩:=h;exact⟨v,r,e1,Held.mono e e2,HeldL.mono e e3⟩
end
theorem ke{i:Int}:Held H (.int i) (.int i):=by unfold Held;rfl
theorem jw:Held H (.str x) (.str x):=by unfold Held;rfl
theorem jy{ds:List D}(e:H a=some (.tup xs))(h:HeldL H ds xs):Held H (.tup ds) (.ref a):=by unfold Held;exact⟨a,xs,rfl,e,h⟩
theorem jz:HeldL H [] []:=by unfold HeldL;rfl
theorem je{d:D}{ds:List D}{v:V}{r:List V}(h:Held H d v)(t:HeldL H ds r):HeldL H (d :: ds) (v :: r):=by unfold HeldL;exact⟨v,r,rfl,h,t⟩
theorem HeldL.length{H:Hp}:∀{ds:List D} {vs:List V},HeldL H ds vs->ds.length=vs.length
 | [],vs,h=>by unfold HeldL at h;subst h;rfl
 | d :: ds,vs,h=>by
  unfold HeldL at h;obtain⟨v,r,e1,_,e3⟩:=h;subst e1;rw[aw,aw,HeldL.length e3]
theorem HeldL.get{H:Hp}:∀{ds:List D} {vs:List V} {j:Nat} {d:D},HeldL H ds vs->ds[j]?=some d->∃v,vs[j]?=some v/\Held H d v
 | [],_,_,_,_,e=>by simp at e
 | d :: ds,vs,0,d',h,e=>by
  unfold HeldL at h;obtain⟨v,r,e1,e2,e3⟩:=h;simp at e;subst e e1;exact⟨v,rfl,e2⟩
 | d :: ds,vs,j+1,d',h,e=>by
  unfold HeldL at h;obtain⟨v,r,e1,e2,e3⟩:=h;subst e1;obtain⟨w,h1,h2⟩:=HeldL.get (j:=j) (d:=d') e3 (by simpa using e);exact⟨w,by simpa using h1,h2⟩
mutual
def D.depth:D->Nat
 | .int _=>0
 | .str _=>0
 | .tup ds=>D.depthL ds+1
def D.depthL:List D->Nat
 | []=>0
 | d :: ds=>max (D.depth d) (D.depthL ds)
end
theorem D.depthL_get:∀{ds:List D} {j:Nat} {d:D},ds[j]?=some d->d.depth≤D.depthL ds
 | [],_,_,e=>by simp at e
 | d :: ds,0,d',e=>by simp at e;subst e;unfold D.depthL;exact Nat.le_max_left _ _
 | d :: ds,j+1,d',e=>by unfold D.depthL;exact ad (D.depthL_get (j:=j) (by simpa using e)) (Nat.le_max_right _ _)
theorem J8:OpR X (cq .FloorDiv) (rI (fun _ j=>0 < j/\j < 2 ^ 200) fun i j=>.int (i / j)):=opI fun i j _ _ _ _ _ hc q=>by
 refine floordiv_int (by omega) ?_ (.inl (PyProof.noPylong_of_log2 ?_))
 ·rw[Int.fdiv_eq_ediv_of_nonneg _ (by omega)]
  exact q
 ·have h0:j.natAbs≠0:=by omega
  exact eM ((mL h0).mpr (show j.natAbs < 2 ^ 200 by omega)) (by decide)
theorem ji3(hc:X.calm=true):zE X (.builtin "all") (fun xs H Q=>∃(p:Addr) (ys:List Bool),xs=[.ref p]/\SqL X.K H p (ys.map V.bl)/\Q (.bl (ys.all id)) H):=by
 intro ac s σ H xs us Q I r h;obtain⟨p,ys,rfl,hq,q⟩:=h;obtain⟨u,rfl,ru⟩:=zh r
 cases ru
 obtain⟨its,rv,hp,hz⟩:=I.list hq;refine call_all_walk (gk hp.isList ?_);have hne:p≠s.heap.objs.size:=by
  obtain⟨o,ho,_⟩:=hp.isList;exact bp (aM ho)
 have hl:=rv.length;rw[ae]at hl;refine⟨_,_,_,_,_,_,fun i=>ys.getD i false,rfl,Walks.list (A:=X.A.in1) (show X.A.in1.handled=none from I.ok.hd hc) s.heap.objs.size p hne its.toArray,⟨⟨_,bM _ rfl,rfl,rfl⟩,hp.isList.at fun o e=>bc _ e⟩,?_,?_⟩
 ·intro i v s1 Q1 E1 hv hq1
  have hv':its[i]?=some v:=by simpa using hv
  have hi:i < its.length:=(bx.mp hv').1;have ey:(ys.map V.bl)[i]?=some (.bl (ys[i]'(by omega))):=by rw[bq,aE (by omega)];rfl
  obtain⟨w,hw,rw'⟩:=rv.get ey;rw[hv']at hw;cases hw
  cases rw'
  have:ys.getD i false=ys[i]'(by omega):=by rw[cg,aE (by omega)];rfl
  have hq2:Q1 (ys.getD i false) s1:=hq1;rw[this]at hq2;exact dZ hq2
 ·intro h' tk hk
  have e:((b9 its.toArray.size).all fun i=>ys.getD i false)=ys.all id:=by
   have el:its.toArray.size=ys.length:=by simp;omega
   rw[el];apply bI.mpr;rw[bR,bR];constructor
   ·intro h x hx
    obtain⟨i,hi,rfl⟩:=List.mem_iff_getElem.mp hx;have:=h i (fJ.mpr hi);rw[cg,aE hi]at this;exact this
   ·intro h i hi
    have hi:=fJ.mp hi;rw[cg,aE hi];exact h _ (bW hi)
  rw[e];exact⟨.bl (ys.all id),H,I.kept (t':=tk) fun b o e=>hk b o (by simp;exact bp (aM e)) (bc _ e),rfl,q⟩
theorem zn:zE X (.builtin "isinstance") (fun xs H Q=>∃x t T b,xs=[x,.ty T]/\TyOf X.K H x t/\dC X.K t (.type T)=some b/\Q (.bl b) H):=by
 intro ac s σ H xs us Q I r h;obtain⟨x,t,T,b,rfl,ty,e,q⟩:=h;obtain⟨u,v,rfl,ru,rv⟩:=jgV r
 cases rv
 exact jgr I ru ty e fun tk=>⟨.bl b,H,I.tok _,rfl,q⟩
theorem jix(K:ah):dC K (.type "tuple") (.type "tuple")=some true:=rfl
theorem jlM(K:ah):dC K (.type "int") (.type "tuple")=some false:=rfl
theorem jlJ(K:ah):dC K (.type "str") (.type "tuple")=some false:=rfl
theorem jiy(K:ah):dC K (.type "int") (.type "int")=some true:=rfl
theorem jlL(K:ah):dC K (.type "str") (.type "int")=some false:=rfl
theorem jlN(K:ah):dC K (.type "int") (.type "bool")=some false:=rfl
theorem jlK(K:ah):dC K (.type "str") (.type "str")=some true:=rfl
def zf:Expr->Bool
 | .Starred _ _=>false
 | _=>true
theorem yq{e:Expr}(h:zf e=true)(qW:List Expr)(env:Env):aK (e :: qW) env=(false,eval e env) :: aK qW env:=by
 cases e <;> first | rfl | cases h
theorem YW(pos:Pos)(env:Env):∀es:List Expr,es.all zf=true->(bL pos (aK es env)).any (·.1)=false
 | [],_=>rfl
 | e :: es,h=>by
  rw[dQ,bg]at h;rw[yq h.1];have ih:=YW pos env es h.2;show (false || (bL pos (aK es env)).any (·.1))=false;rw[ih];rfl
theorem qR{X:Cx}{e:Expr}{es:List Expr}{te:TE}{t:TA}(ha:PE X e te)(hr:PA X es t)(hp:zf e=true:=by rfl):PA X (e :: es) (Jy te t):=jjU ha hr (yq hp es X.env)
theorem zF{X:Cx}{x:Str}{p pos:Pos}{e:Expr}{es:List Expr}{t:TA}{id:String}{r:List V->Hp->VK->Prop}(hc:zE X (.builtin id) r)(hg:Gl X x)(hm:X.mg x=none)(hv:bu x=some (.builtin id))(ha:PA X (e :: es) t)(hp:(e :: es).all zf=true:=by rfl)(hn:x≠"__name__":=by decide)(hdb:(x == ("__debug__" : Str))=false:=by decide):
  PE X (.Call (.Name x p) (e :: es) [] pos) (tCB r t):=by
 rw[dQ,bg]at hp
 exact jhF hc hg hm hv ha hn hdb (yq hp.1 es X.env) (YW pos X.env es hp.2)
theorem jkT{X:Cx}{x:Str}{p pos:Pos}{e:Expr}{es:List Expr}{t:TA}{T:String}{r:List V->Hp->VK->Prop}(hc:zE X (.type T) r)(hg:Gl X x)(hm:X.mg x=none)(hv:bu x=some (.type T))(ha:PA X (e :: es) t)(hp:(e :: es).all zf=true:=by rfl)(hn:x≠"__name__":=by decide)(hdb:(x == ("__debug__" : Str))=false:=by decide):
  PE X (.Call (.Name x p) (e :: es) [] pos) (tCB r t):=by
 rw[dQ,bg]at hp
 exact jfR hc hg hm hv ha hn hdb (yq hp.1 es X.env) (YW pos X.env es hp.2)
structure Fn(P:Program)(w:World)(K:ah)(mg:Str->Option Value)(base:Heap)(k:Nat)(x:Str)(ps:List Str)(sp:Sp):Prop where
 ex:∃f fd,FnOk P w K mg base CX0 k f fd ps sp/\Binds K fd ps []/\bO K (.ref f)=true/\mg x=some (.ref f)
theorem jhE{X:Cx}{k k':Nat}{x:Str}{ps:List Str}{sp:Sp}{e:Expr}{es:List Expr}{t:TA}{p pos:Pos}(F:Fn X.prog X.w X.K X.mg X.base k x ps sp)(hr:Room k' X.A)(ha:PA X (e :: es) t)(hk:k≤k':=by decide)(hg:Gl X x:=by rfl)
  (hd:(x == ("__debug__" : Str))=false:=by decide) (hp:(e :: es).all zf=true:=by rfl):PE X (.Call (.Name x p) (e :: es) [] pos) (y6 sp [] E0 t):=by
 obtain⟨f,fd,G,b,kp,m⟩:=F.ex
 rw[dQ,bg]at hp
 exact jjT G (hr.mono hk) hg m kp b .nil jcC ha hd (yq hp.1 es X.env) (YW pos X.env es hp.2)
theorem Fn.mk'{base:Heap}{k:Nat}(F:Fun K x x st f fd)(b:Binds K fd ps [])(m:mg x=some (.ref f))(G:FnOk P w K mg base CX0 k f fd ps sp):Fn P w K mg base k x ps sp:=⟨f,fd,G,b,F.kp,m⟩
theorem qc{fr:List Nat}{sc:Scope}{N:List Str}(h1:X.env.scope=sc)(h2:X.N=N) (h:scope.kind=.function/\(∀y∈scope.names,y.2≠.cell)/\(∀y∈scope.names,y.2=.local->scope.names.lookup y.1=some .local)/\
  (∀y∈scope.names,y.2=.free->sc.names.lookup y.1=some .cell∨sc.names.lookup y.1=some .free)/\∀j∈fr,scope.names.lookup (N.getD j (aa ""))=some .free):CompOk X scope fr:=by
 obtain⟨a,b,c,d,e⟩:=h
 exact⟨a,b,c,by rw[h1];exact d,by rw[h2];exact e⟩
theorem kJ:bu "len" = some (.builtin "len"):=by decide +kernel
theorem jl4:bu "max" = some (.builtin "max"):=by decide +kernel
theorem jl3:bu "min" = some (.builtin "min"):=by decide +kernel
theorem jl5:bu "all" = some (.builtin "all"):=by decide +kernel
theorem qQ:bu "isinstance" = some (.builtin "isinstance"):=by decide +kernel
theorem jl6:bu "abs" = some (.builtin "abs"):=by decide +kernel
theorem Km:bu "int" = some (.type "int"):=by decide +kernel
theorem jb5:bu "str" = some (.type "str"):=by decide +kernel
theorem jkv:bu "bool" = some (.type "bool"):=by decide +kernel
theorem kL:bu "tuple" = some (.type "tuple"):=by decide +kernel
theorem yj:bu "list" = some (.type "list"):=by decide +kernel
structure Free0(mg:Str->Option Value):Prop where
 len_:mg "len" = none
 max_:mg "max" = none
 min_:mg "min" = none
 all_:mg "all" = none
 isinstance_:mg "isinstance" = none
 abs_:mg "abs" = none
 sorted_:mg "sorted" = none
 int_:mg "int" = none
 str_:mg "str" = none
 bool_:mg "bool" = none
 tuple_:mg "tuple" = none
 list_:mg "list" = none
 dict_:mg "dict" = none
 range_:mg "range" = none
 set_:mg "set" = none
theorem jiz(h:X.K=K:=by rfl):IxR X (jms K):=by subst h;exact j9
theorem jbL(h:X.K=K:=by rfl):IxR X (jmr K):=by subst h;exact jE
theorem y0(h:X.K=K:=by rfl):zE X (.builtin "len") (fun xs H Q=>∃p ys,xs=[.ref p]/\(SqL K H p ys∨SqT K H p ys)/\Q (.int ys.length) H):=by subst h;exact jV
structure QS(X:Cx)(st:Stmt)(t:TS):Prop where
 h:PS X st t
structure QSs(X:Cx)(st:List Stmt)(t:TS):Prop where
 h:PSs X st t
theorem qs{t:TS}(h:PS X st t):QS X st t:=⟨h⟩
theorem K9:OpR X (cq .Mult) (fun x y H Q=>∃i j,x=.str i/\y=.int j/\i.length≤16/\0≤j/\j≤1000/\Q (.str (cc i j)) H):=by
 intro ac s σ H x y v u Q I rx ry h;obtain⟨i,j,rfl,rfl,h1,h2,h3,q⟩:=h;obtain⟨t,rfl⟩:=rx;obtain⟨t',rfl⟩:=ry;exact SB.mul (mulOk_of 16 1000 h1 (by omega) (by omega) (by decide) (by decide)) fun t' k=>⟨.str (cc i j),H,I.tok _,⟨_,rfl⟩,q⟩
open PySem PySem.Spec PyProof.Rows PySem.W
def OkP(N:Nat)(p:Array Nat):Prop:=p.toList.Perm (b9 N)
theorem OkP.size{N:Nat}{p:Array Nat}(h:OkP N p):p.size=N:=by
 have:=h.length_eq;rw[i7]at this;simpa using this
end L2
namespace PySem
open Sem (wp)
namespace F
end F
end PySem
namespace L2
open PySem PySem.Spec PyProof.Rows PySem.W
theorem Inv.more{X:Cx}{ac:List (Addr×Obj)}{σ:St}{H H':Hp}{s:Shared}{h':Heap}{t':Nat}(I:Inv X ac σ H s)(k:∀b u,s.heap.get? b=some u->h'.get? b=some u)(same:Same H H')
  (new:∀b o,H b=none->H' b=some o->s.heap.objs.size≤b/\ObjOk X.prog X.w H' h' b o):Inv X ac σ H' { s with heap:=h',toks:=t' }:=by
 refine I.un ⟨fun b u q _ _ _=>k b u q,fun b u q _ _ _=>⟨u.slots,k b u q⟩,fun b u q n _=>?_,fun b u q _=>⟨u,k b u q⟩,fun b xs q=>same _ _ q,fun b u xs q=>same _ _ q,fun b ps q=>⟨#[],by rw[same _ _ q];simp⟩⟩ fun b o e=>?_
 ·cases e:H' b with
  | none=>rfl
  | some o=>exact absurd (aM q) (Nat.not_lt.mpr (new b o n e).1)
 ·cases q:H b with
  | none=>exact (new b o q e).2
  | some u=>
   have:=same _ _ q
   rw[e]at this
   cases this
   exact (I.hok b o q).stay (fun c v _ q=>k c v q) (fun c q=>same _ _ q) fun c xs q=>same _ _ q
abbrev Up(xs:Array Nat):Prop:=xs.toList.Pairwise (· < ·)
structure TabOk(led:Bool)(t:cJ):Prop where
 led_:t.led=led
 none_:t.dummies=#[]
 up:Up t.place
end L2
namespace PySem
namespace F
end F
end PySem
namespace L2
open PySem PySem.Spec PyProof.Rows PySem.W
abbrev jg7(es:Array (Int×Value))(ep:Nat)(t:cJ):Obj:={ cls:=.type "set",dict:=none,data:=.set es ep t }
open PySem PySem.Spec PySem.Calls PyProof.Rows PySem.W
variable {X:Cx}
theorem Inv.drawn{ac:List (Addr×Obj)}{σ:St}{H:Hp}{s:Shared}{h':Heap}{d':Drawn}(I:Inv X ac σ H s)(k:∀b u,s.heap.get? b=some u->h'.get? b=some u):Inv X ac σ H { s with heap:=h',drawn:=d' }:=
 I.call (g':=s.gens) (t':=s.toks) (d':=d') (ch:=[]) (Un.kept k) (I.hok.kept k) I.bare fun _ z=>nomatch z
theorem jgH{scope:Scope}{own:List Str}{fr:List Nat}{elt tg iter:Expr}{ifs:List Expr}{pos:Pos}{wi:TI}{g:TG}{tt:TT}{te:TE}{use:Option (Value->Sem Unit)}(hc:X.calm=true)(O:CompOk X scope fr)(hi:PI X tg iter wi)
  (hb:∀s H ex,PG (blk X scope own fr s H ex) tg g/\PTs (blk X scope own fr s H ex) ifs tt/\PE (blk X scope own fr s H ex) elt te)
  (hs:∀x,eD iter X.env x=pure x) {ac:List (Addr×Obj)} {s:Shared} {σ:St} {H:Hp} {Q:VK} {R:Value->Shared->Prop} (I:Inv X ac σ H s) (h:jaD own fr wi g tt te σ H Q) (hx:∀e s',X.xe e s'↔False)
  (fin:∀(p C:Addr) (H':Hp) (s':Shared) (m:Str->Option Value),s'.heap.Ns C m->H' C=none->C≠X.env.locals->(∀x c,X.env.cells.lookup x=some c->c≠C)->X.s₀.heap.objs.size≤C->(∀p∈X.pn++ac,p.1≠C)->Inv X ac σ H' s'->(∀h',b0 C s'.heap h'->Inv X ac σ H' { s' with heap:=h' })->Q (.ref p) H'->
   iF (model X.prog X.w) X.A X.xe use R (.ref p) C (.ok .next) s') :
  wpAny (model X.prog X.w) X.A (comprehension (.ListComp elt [⟨tg,iter,ifs,0⟩] scope pos) scope X.env (firstIterPos [⟨tg,iter,ifs,0⟩] pos) (newList []) false (eval iter X.env) use) R X.xe s:=by
 have hsome:∀x∈scope.names,x.2=.free->(X.env.cells.lookup x.1).isSome=true:=fun x hx' e=>by
  obtain⟨c,hc⟩:=I.ok.has x.1 (O.frees x hx' e);rw[hc];rfl
 have no:∀(E:Value->Shared->Prop) (x:Value) (s':Shared),X.xe x s'->E x s':=fun E x s' z=>((hx x s').mp z).elim
 refine nn (cl:=Kk X.env.cells scope.names []) rfl hs (jar hsome) O.kind O.loc ?_
 refine thn (hi ac s σ H _ I h) fun v s1 h1=>thn h1 fun itv s2 h2=>?_
 obtain⟨it,fp,tn,J,H2,e,I2,T,st2,f2,q2⟩:=h2
 subst e
 refine fP ?_
 have nw:H2 s2.heap.objs.size=none:=I2.fresh
 obtain⟨W,⟨m0,w0⟩,turn⟩:=q2 _ nw
 generalize hp:s2.heap.objs.size=p at *
 have I3:Inv X ac σ (upd H2 p (.lst [])) { s2 with heap:=s2.heap.push { cls:=.type "list",dict:=none,data:=.seq ([]:List Value).toArray } }:=by
  have:=I2.lnew (ys:=[]) (its:=[]) (t':=s2.toks) .nil (bm _);rw[hp]at this;exact this
 have lt2:∀b∈fp,b < s2.heap.objs.size:=fun b hb=>by
  obtain⟨o,ho,_⟩:=T.obj _ _ st2 b hb;exact aM ho
 have fpn:∀b∈fp,(upd H2 p (.lst [])) b=none:=fun b hb=>by
  rw[js (by rw[← hp];exact bp (lt2 b hb))];exact (f2 b hb).1
 generalize hs3:({ s2 with heap:=s2.heap.push { cls:=.type "list",dict:=none,data:=.seq ([]:List Value).toArray } }:Shared)=s3 at *
 have sz3:s3.heap.objs.size=p+1:=by
  rw[← hs3];show (s2.heap.push _).objs.size=_;rw[fC,hp]
 have st3:tn 0 s3.heap:=T.keep 0 _ _ st2 fun b hb o e=>by
  rw[← hs3];exact bc _ e
 refine ni O.nocell (by intro y hy;simp at hy) (fun h4 hns4 hsb4=>?_) O.kind
 have k4:∀b o,s3.heap.get? b=some o->h4.get? b=some o:=fun b o e=>hsb4.extBut b o (bp (aM e)) (bc _ e)
 have hns4':h4.Ns s3.heap.objs.size fun _=>none:=by
  have z:(fun x:Str=>([]:List (Str×Value)).reverse.lookup x)=fun _=>none:=by funext x;rfl
  rw[z]at hns4;exact hns4
 have fo:∀b∈fp,Zq X ac (upd H2 p (.lst [])) b/\b < s3.heap.objs.size:=fun b hb=>⟨⟨fpn b hb,(f2 b hb).2⟩,by rw[sz3,← hp];exact rc (lt2 b hb)⟩
 have I4:=jfc (own:=own) (fr:=fr) (t1:=s3.toks+([]:List (Str×Value)).length) I3 O fo hns4' k4
 have st4:tn 0 h4:=T.keep 0 _ _ st3 fun b hb o e=>k4 b o e
 obtain⟨hg,ht,he⟩:=hb s3 (upd H2 p (.lst [])) fp
 have stat:∀{H':Hp} {pn:List (Addr×Obj)} {s':Shared} {σ':St},Inv (blk X scope own fr s3 (upd H2 p (.lst [])) fp) [] σ' H' s'->(∀b∈fp,H' b=none)->∀b∈fp,Zq (blk X scope own fr s3 (upd H2 p (.lst [])) fp) [] H' b:=fun {H' pn s' σ'} J hn b hb'=>
  ⟨hn b hb',(J.ok.exf b hb').1,J.ok.exfs b hb',.inl hb',(J.ok.exf b hb').2,fun p hp=>absurd hp (by simp[blk])⟩
 have nocells:∀x c,X.env.cells.lookup x=some c->c≠s3.heap.objs.size:=fun x c e=>by
  obtain⟨v,q⟩:=I3.cell x c e;exact bp q.lt
 have loop:∀s5:Shared,s5={ s3 with heap:=h4,toks:=s3.toks+([]:List (Str×Value)).length }->
   dz (model X.prog X.w) X.A (.compLoop (.ListComp elt [⟨tg,iter,ifs,0⟩] scope pos) 0 (.ref it) (.ref p) (blk X scope own fr s3 (upd H2 p (.lst [])) fp).env) (iF (model X.prog X.w) X.A X.xe use R (.ref p) s3.heap.objs.size) s5:=by
  rintro s5 rfl
  refine YM (fun n s'=>∃i σ' H',Inv (blk X scope own fr s3 (upd H2 p (.lst [])) fp) [] σ' H' s'/\tn i s'.heap/\(∀b∈fp,H' b=none)/\W i n σ' H') ?_ m0 ⟨0,_,_,I4,st4,fpn,w0⟩
  rintro n s6 ⟨i,σ6,H6,I6,st6,fr6,w6⟩
  rcases turn i n σ6 H6 w6 with⟨stop,qn⟩ | ⟨go,N,hN,step⟩
  ·refine thn (T.done (blk X scope own fr s3 (upd H2 p (.lst [])) fp) rfl rfl rfl hc i [] s6 σ6 H6 _ I6 (stat (pn:=[]) I6 fr6) st6 stop) fun r s7 ⟨hr,I7⟩=>?_
   subst hr
   obtain⟨m,hm,_⟩:=I7.loc
   exact fin p _ H6 s7 m hm I7.free (iZ I3.lt) nocells I3.sz (fun p hp=>bp (aM (I3.pin p hp).1)) (YQ I3 fo I7 (oZ ..)) (fun h' hs'=>YQ I3 fo I7 hs') qn
  ·refine thn (T.item (blk X scope own fr s3 (upd H2 p (.lst [])) fp) rfl rfl rfl hc i [] s6 σ6 H6 _ I6 (stat (pn:=[]) I6 fr6) st6 go) fun r s7 ⟨u,hr,h7⟩=>?_
   subst hr
   refine thn h7 fun _ s8 ⟨x,H8,I8,r8,y8,st8,fr8⟩=>?_
   have I8':=I8.pinned (stat (pn:=[]) I8 fr8) (T.obj _ _ st8)
   refine thn (hg _ s8 σ6 H8 x u _ I8' r8 (step x H8 y8)) fun _ s9 ⟨σ9,H9,I9,q9⟩=>?_
   refine thn (ht _ s9 σ9 H9 _ I9 q9) fun ok s10 ⟨H10,I10,q10⟩=>?_
   have again:∀{H11:Hp} {s11:Shared},Inv (blk X scope own fr s3 (upd H2 p (.lst [])) fp) ([]++J6 fp s8.heap) σ9 H11 s11->(∃m',m' < n/\W (i+1) m' σ9 H11)->
     ∃m,m < n/\∃i σ' H',Inv (blk X scope own fr s3 (upd H2 p (.lst [])) fp) [] σ' H' s11/\tn i s11.heap/\(∀b∈fp,H' b=none)/\W i m σ' H':=fun {H11 s11} I11 ⟨m',hm,w11⟩=>by
    refine⟨m',hm,i+1,σ9,H11,I11.unpinned,T.keep _ _ _ st8 fun b hb' o e=>(I11.pin (b,o) (aT _ (aT _ (zI hb' e)))).1,fun b hb'=>?_,w11⟩
    obtain⟨o,e,d⟩:=T.obj _ _ st8 b hb'
    exact (I11.pin (b,o) (aT _ (aT _ (zI hb' e)))).2.1
   cases ok with
   | false=>
    rw[if_neg aI]at q10 ⊢
    exact again I10 (hN _ _ q10)
   | true=>
    rw[if_pos rfl]at q10 ⊢
    refine thn (he _ s10 σ9 H10 _ I10 q10) fun yv s11 ⟨y,H11,I11,r11,ys,hys,hlen,q11⟩=>?_
    have ap:=jW (X:=blk X scope own fr s3 (upd H2 p (.lst [])) fp) ([]++J6 fp s8.heap) s11 σ9 H11 (.ref p) [y] (.ref p) [yv] (fun _ H12=>∃m',m' < n/\W (i+1) m' σ9 H12) I11 rfl (.cons r11 .nil) ⟨p,ys,y,rfl,rfl,hys,hlen,hN _ _ q11⟩
    exact thn ap fun _ s12 ⟨_,H12,I12,_,q12⟩=>again I12 q12
 refine nY (loop _ rfl) (T.self X.A 0 _ _ _ st4 (loop _ rfl))
theorem jdF{X:Cx}{scope:Scope}{elt tg iter:Expr}{ifs:List Expr}{pos:Pos}{wi:TI}{g:TG}{tt:TT}{te:TE}{i:Nat}{y:Str}{py spos:Pos}(hN:X.N.Nodup)(hi':X.N[i]?=some y)(hy:Loc X.env.scope y)(own:List Str)(fr:List Nat)(hc:X.calm=true)(O:CompOk X scope fr)(hi:PI X.nox tg iter wi)
  (hb:∀s H ex,PG (blk X.nox scope own fr s H ex) tg g/\PTs (blk X.nox scope own fr s H ex) ifs tt/\PE (blk X.nox scope own fr s H ex) elt te)
  (hs:∀x,eD iter X.env x=pure x:=by intro _;rfl)
  (hsw:cX (.ListComp elt [⟨tg,iter,ifs,0⟩] scope pos) (some (.Name y py)) spos.line X.env=pure true:=by rfl)
  (hf:X.fn y=true∨X.env.scope.names.lookup y=some .local:=by first | exact .inl rfl | exact .inr rfl | assumption) :
  PS X.nox (.Assign [.Name y py] (.ListComp elt [⟨tg,iter,ifs,0⟩] scope pos) spos) (jfM (jaD own fr wi g tt te) (qA i)):=by
 intro ac s σ H D I h
 rw[exec_Assign_Name_used _ _ _ _ hsw]
 refine az (iz (az ?_))
 show wpAny _ _ (do let _ ← comprehension (.ListComp elt [⟨tg,iter,ifs,0⟩] scope pos) scope X.nox.env _ (newList []) false (eval iter X.nox.env) (some (assign (.Name y py) X.nox.env))) _ _ s
 refine az (bU (jgH (X:=X.nox) (use:=some (assign (.Name y py) X.nox.env)) (R:=fun _ s'=>SP X.nox ac D .next s') hc ⟨O.kind,O.nocell,O.loc,O.frees,O.fr⟩ hi hb hs I h (fun _ _=>Iff.rfl)
  fun p C H' s' m hm hC hL hcs hz hpn I' back q=>?_) (fun _ s' hq=>aL (aL hq)) fun _ _ e=>e)
 show wpAny _ _ (assign (.Name y py) X.nox.env (.ref p)) _ _ _
 refine nu (jaF (v:=.ref p) I' hN hi' hy rfl (fun s2 I2 hsb=>?_) hf)
 obtain⟨a,hsa,ha⟩:=hsb
 have hCa:C≠a:=by
  rcases ha with rfl | e
  ·exact hL
  ·exact fun z=>hcs _ _ e z.symm
 refine⟨m,hm.sameBut hsa hCa,fun h' hs'=>?_⟩
 exact⟨_,H',I2.turned (t':=s2.toks) (fun b o hb e=>(hs'.2 b hb).trans e) hC hL (.inr hz) hcs hpn,q⟩
section
variable {ac:List (Addr×Obj)}{σ:St}{H:Hp}{s:Shared}{tg:Expr}
theorem Inv.relabel{a:Addr}{u v:HO}(I:Inv X ac σ H s)(hu:H a=some u)(h1:∀xs,u≠.tup xs)(h2:∀ps,u≠.tbl ps)(h3:∀o z,X.H₀ a≠some (.frz o z))(h4:∀x,u≠.own x)(hv:ObjOk X.prog X.w (upd H a v) s.heap a v):Inv X ac σ (upd H a v) s:=by
 have ne:∀b,H b=none->b≠a:=fun b n z=>by rw[z,hu]at n;cases n
 have nt:∀b xs,H b=some (.tup xs)->b≠a:=fun b xs n z=>by rw[z,hu]at n;exact h1 xs (bP n)
 have no:∀b x,H b=some (.own x)->b≠a:=fun b x n z=>by rw[z,hu]at n;exact h4 x (bP n)
 refine⟨I.ok,I.os,I.bare,⟨I.base.keep,I.base.slot,fun b o e n hx=>?_,I.base.there,fun b xs e=>?_,fun b o z e=>?_,fun b ps e=>?_⟩,I.loc,I.cell,?_,fun x c e=>?_,fun p hp=>?_,fun b o e=>?_,I.len⟩
 ·have q:=I.base.free b o e n hx
  rw[js (ne b q)];exact q
 ·have q:=I.base.tups b xs e
  rw[js (nt b xs q)];exact q
 ·have hb:b≠a:=fun z'=>by subst z';exact h3 _ _ e
  rw[js hb];exact I.base.frzs b o z e
 ·obtain⟨m,q⟩:=I.base.tbls b ps e
  have hb:b≠a:=fun z'=>by rw[z',hu]at q;exact h2 _ (bP q)
  exact⟨m,by rw[js hb];exact q⟩
 ·rw[js (ne _ I.free)];exact I.free
 ·rw[js (ne _ (I.freeC x c e))];exact I.freeC x c e
 ·obtain⟨q1,q2,q3⟩:=I.pin p hp
  exact⟨q1,by rw[js (ne _ q2)];exact q2,q3⟩
 ·by_cases hb:b=a
  ·subst hb
   rw[jc]at e
   cases e
   exact hv
  ·rw[js hb]at e
   exact (I.hok b o e).stay (fun _ _ _ q=>q) (fun c q=>by rw[js (no c _ q)];exact q) fun c xs q=>by rw[js (nt c xs q)];exact q
end
theorem jb6:bu "enumerate" = some (.type "enumerate"):=by decide +kernel
end L2
namespace PySem
open AutoSeq1 (wpAny_loadPart')
section
variable {prog:Program}{w:World}{A:Around}{E:Value->Shared->Prop}{s:Shared}
theorem jgA{e it:Addr}{i:Nat}{x old:Value}{Q:Value->Shared->Prop}{St:Heap->Prop}(he:cK s.heap e it i old)(hne:e≠it)
  (hin:∀Q':Value->Shared->Prop,(∀h',St h'->b0 it s.heap h'->Q' x { s with heap:=h' })->wpAny (model prog w) A (Builtin.SmallTypes.nextOf (.ref it)) Q' E s)
  (keep:∀h h',St h->(∀o,h.get? it=some o->h'.get? it=some o)->St h')
  (hQ:∀h',iP h' e it ((i:Int)+1) x s.heap.objs.size->St h'->h'.get? s.heap.objs.size=some { cls:=.type "tuple",data:=.seq #[.int i s.toks,x] }->h'.objs.size=s.heap.objs.size+1->
   (∀b o,b≠e->b≠it->s.heap.get? b=some o->h'.get? b=some o)->Q (.ref s.heap.objs.size) { s with heap:=h',toks:=s.toks+1 }) :
  wpAny (model prog w) A (Builtin.«enumerate.__next__» ⟨[.ref e],[]⟩) (fun fin s'=>∃v,fin=.done (.ret v)/\Q v s') E s:=by
 obtain⟨hp,g,d,tk,os⟩:=s
 show wpAny _ _ (field (.ref e) 2 >>= _) _ _ _
 refine az (dy he rfl (x:=.ref it) rfl ?_)
 refine az (hin _ fun h1 st1 b1=>?_)
 replace b1:b0 it hp h1:=b1
 have e1:cK h1 e it i old:=(b1.2 e hne).trans he
 show wpAny _ _ (field (.ref e) 3 >>= _) _ _ ⟨h1,g,d,tk,os⟩
 refine az (dy e1 rfl (x:=fU i) rfl ?_)
 show wpAny _ _ (field (.ref e) 4 >>= _) _ _ ⟨h1,g,d,tk,os⟩
 refine az (dy e1 rfl (x:=.none) rfl ?_)
 show wpAny _ _ (mkInt i >>= _) _ _ ⟨h1,g,d,tk,os⟩
 refine az (wpAny_mkInt ?_)
 show wpAny _ _ (setField (.ref e) 3 (fU ((i:Int)+1)) >>= _) _ _ ⟨h1,g,d,tk+1,os⟩
 refine az (gj e1 (by simp) fun h2 e2 b2=>?_)
 replace b2:b0 e h1 h2:=b2
 replace e2:cK h2 e it ((i:Int)+1) old:=e2
 show wpAny _ _ (setField (.ref e) 4 .none >>= _) _ _ ⟨h2,g,d,tk+1,os⟩
 refine az (gj e2 (by simp) fun h3 e3 b3=>?_)
 replace b3:b0 e h2 h3:=b3
 replace e3:cK h3 e it ((i:Int)+1) old:=e3
 show wpAny _ _ (newTuple [.int i tk,x] >>= _) _ _ ⟨h3,g,d,tk+1,os⟩
 refine az (wpAny_newTuple ?_)
 have hsz:h3.objs.size=hp.objs.size:=by rw[b3.1,b2.1,b1.1]
 have st3:St h3:=keep h1 h3 st1 fun o q=>(b3.2 it (bH hne)).trans ((b2.2 it (bH hne)).trans q)
 have e4:cK (h3.push { cls:=.type "tuple",data:=.seq #[.int i tk,x] }) e it ((i:Int)+1) old:=bc _ e3
 have st4:St (h3.push { cls:=.type "tuple",data:=.seq #[.int i tk,x] }):=keep h3 _ st3 fun o q=>bc _ q
 have t4:(h3.push { cls:=.type "tuple",data:=.seq #[.int i tk,x] }).get? hp.objs.size=some { cls:=.type "tuple",data:=.seq #[.int i tk,x] }:=by rw[← hsz];exact bM _ rfl
 have z4:(h3.push { cls:=.type "tuple",data:=.seq #[.int i tk,x] }).objs.size=hp.objs.size+1:=by rw[fC,hsz]
 have k4:∀b o,b≠e->b≠it->hp.get? b=some o->(h3.push { cls:=.type "tuple",data:=.seq #[.int i tk,x] }).get? b=some o:=fun b o hbe hbi hb=>
  bc _ (b3.extBut b o hbe (b2.extBut b o hbe (b1.extBut b o hbi hb)))
 have hel:e < hp.objs.size:=aM he
 rw[hsz]
 generalize h3.push { cls:=.type "tuple",data:=.seq #[.int i tk,x] }=h4 at *
 clear e3 b3 e2 b2 e1 b1 st1 st3 hsz
 show wpAny _ _ (pI (.ref e) >>= _) _ _ ⟨h4,g,d,tk+1,os⟩
 refine az ?_
 unfold pI
 refine az (dy e4 rfl (x:=.none) rfl (aL ?_))
 simp only[if_true]
 refine az (wpAny_rule ?_)
 refine az (dy e4 rfl (x:=old) rfl ?_)
 refine az (gj e4 (by simp) fun h5 e5 b5=>?_)
 replace b5:b0 e h4 h5:=b5
 replace e5:cK h5 e it ((i:Int)+1) x:=e5
 show wpAny _ _ (pJ (.ref e) (.ref hp.objs.size) >>= _) _ _ ⟨h5,g,d,tk+1,os⟩
 refine az ?_
 unfold pJ
 refine az (gj e5 (by simp) fun h6 e6 b6=>?_)
 replace b6:b0 e h5 h6:=b6
 replace e6:iP h6 e it ((i:Int)+1) x hp.objs.size:=e6
 refine gj e6 (by simp) fun h7 e7 b7=>?_
 replace b7:b0 e h6 h7:=b7
 replace e7:iP h7 e it ((i:Int)+1) x hp.objs.size:=e7
 have k7:∀b o,b≠e->h4.get? b=some o->h7.get? b=some o:=fun b o hb q=>b7.extBut b o hb (b6.extBut b o hb (b5.extBut b o hb q))
 refine az (wpAny_letGo (aL ⟨_,rfl,hQ h7 e7 (keep h4 h7 st4 fun o q=>k7 it o (bH hne) q) (k7 _ _ (iZ hel) t4) (by rw[b7.1,b6.1,b5.1,z4]) fun b o hbe hbi hb=>k7 b o hbe (k4 b o hbe hbi hb)⟩))
end
end PySem
namespace L2
open PySem PySem.Spec PyProof.Rows
open PySem PySem.Spec PyProof.Rows PySem.W
mutual
def dEq:D->D->Bool
 | .int i,.int j=>i == j
 | .str x,.str y=>x == y
 | .tup a,.tup b=>dEqL a b
 | _,_=>false
def dEqL:List D->List D->Bool
 | [],[]=>true
 | a :: as,b :: bs=>dEq a b && dEqL as bs
 | _,_=>false
end
mutual
theorem KD:∀{a b:D},dEq a b=true↔a=b
 | .int i,.int j=>by unfold dEq;rw[beq_iff_eq];exact⟨(fun h=>by rw[h]),(fun h=>by injection h)⟩
 | .str i,.str j=>by unfold dEq;rw[beq_iff_eq];exact⟨(fun h=>by rw[h]),(fun h=>by injection h)⟩
 | .tup a,.tup b=>by unfold dEq;rw[dEqL_iff];exact⟨(fun h=>by rw[h]),(fun h=>by injection h)⟩
 | .int i,.str j=>by unfold dEq;exact⟨(fun h=>by cases h),(fun h=>by cases h)⟩
 | .int i,.tup j=>by unfold dEq;exact⟨(fun h=>by cases h),(fun h=>by cases h)⟩
 | .str i,.int j=>by unfold dEq;exact⟨(fun h=>by cases h),(fun h=>by cases h)⟩
 | .str i,.tup j=>by unfold dEq;exact⟨(fun h=>by cases h),(fun h=>by cases h)⟩
 | .tup i,.int j=>by unfold dEq;exact⟨(fun h=>by cases h),(fun h=>by cases h)⟩
 | .tup i,.str j=>by unfold dEq;exact⟨(fun h=>by cases h),(fun h=>by cases h)⟩
theorem dEqL_iff:∀{a b:List D},dEqL a b=true↔a=b
 | [],[]=>by unfold dEqL;exact⟨(fun _=>rfl),(fun _=>rfl)⟩
 | a :: as,b :: bs=>by
  unfold dEqL;rw[bg,KD,dEqL_iff];exact⟨(fun h=>by rw[h.1,h.2]),(fun h=>by injection h with h1 h2;exact⟨h1,h2⟩)⟩
 | [],b :: bs=>by unfold dEqL;exact⟨(fun h=>by cases h),(fun h=>by cases h)⟩
 | a :: as,[]=>by unfold dEqL;exact⟨(fun h=>by cases h),(fun h=>by cases h)⟩
end
instance:DecidableEq D:=fun a b=>if h:dEq a b=true then isTrue (KD.mp h) else isFalse fun e=>h (KD.mpr e)
theorem jiW(a b:List D):dEqL a b=decide (a=b):=by
 apply bI.mpr;rw[dEqL_iff,decide_eq_true_iff]
mutual
theorem jcX{H:Hp}:∀{d d':D} {v:V},Held H d v->Held H d' v->d=d'
 | .int i,.int j,v,h,h'=>by unfold Held at h h';subst h;injection h' with h';rw[h']
 | .str i,.str j,v,h,h'=>by unfold Held at h h';subst h;injection h' with h';rw[h']
 | .tup a,.tup b,v,h,h'=>by
  unfold Held at h h';obtain⟨p,xs,rfl,e,h⟩:=h;obtain⟨p',xs',e0,e',h'⟩:=h';injection e0 with e0;subst e0;rw[e]at e';injection e' with e';injection e' with e';subst e';rw[heldL_inj h h']
 | .int i,.str j,v,h,h'=>by unfold Held at h h';subst h;cases h'
 | .int i,.tup j,v,h,h'=>by unfold Held at h h';subst h;obtain⟨p,xs,e,_⟩:=h';cases e
 | .str i,.int j,v,h,h'=>by unfold Held at h h';subst h;cases h'
 | .str i,.tup j,v,h,h'=>by unfold Held at h h';subst h;obtain⟨p,xs,e,_⟩:=h';cases e
 | .tup i,.int j,v,h,h'=>by unfold Held at h h';subst h';obtain⟨p,xs,e,_⟩:=h;cases e
 | .tup i,.str j,v,h,h'=>by unfold Held at h h';subst h';obtain⟨p,xs,e,_⟩:=h;cases e
theorem heldL_inj{H:Hp}:∀{d d':List D} {v:List V},HeldL H d v->HeldL H d' v->d=d'
 | [],[],_,_,_=>rfl
 | a :: as,b :: bs,v,h,h'=>by
  unfold HeldL at h h';obtain⟨u,r,rfl,h1,h2⟩:=h;obtain⟨u',r',e,h1',h2'⟩:=h';injection e with e1 e2;subst e1 e2;rw[jcX h1 h1',heldL_inj h2 h2']
 | [],b :: bs,v,h,h'=>by unfold HeldL at h h';subst h;obtain⟨u',r',e,_⟩:=h';cases e
 | a :: as,[],v,h,h'=>by unfold HeldL at h h';subst h';obtain⟨u',r',e,_⟩:=h;cases e
end
theorem jc9:∀(a b:List D),((b9 (min a.length b.length)).all (fun j=>dEq (a.getD j (.int 0)) (b.getD j (.int 0))) && a.length == b.length)=dEqL a b:=by
 intro a b;apply bI.mpr;rw[dEqL_iff,bg,bR,beq_iff_eq];constructor
 ·rintro⟨h1,h2⟩
  apply List.ext_getElem h2;intro j hj hj';have:=h1 j (fJ.mpr (by omega));rw[KD]at this;simpa[hj,hj']using this
 ·rintro rfl
  exact⟨fun j _=>KD.mpr rfl,rfl⟩
variable {X:Cx}
section
variable {ac:List (Addr×Obj)}{σ:St}{H:Hp}{s:Shared}
theorem jkn(I:Inv X ac σ H s):∀(n:Nat) (A:Around) (d d':D) (x y:V) (u v:Value),d.depth≤n->A.units+n < cLine->Held H d x->Held H d' y->RelV x u->RelV y v->bA A s u v (dEq d d'):=by
 intro n;induction n with
 | zero=>
  intro A d d' x y u v hd hA hx hy ru rv;have hA':A.units < cLine:=by omega
  cases d with
  | int i=>
   unfold Held at hx;subst hx;obtain⟨t,rfl⟩:=ru
   cases d' with
   | int j=>
    unfold Held at hy;subst hy;obtain⟨t',rfl⟩:=rv;unfold dEq;exact oP i t j t'
   | str j=>
    unfold Held at hy;subst hy;obtain⟨t',rfl⟩:=rv;unfold dEq;exact me i t j t'
   | tup ds=>
    unfold Held at hy;obtain⟨b,ys,rfl,hb,_⟩:=hy
    cases rv
    obtain⟨its,_,tb,_⟩:=I.tuple (SqT.of hb);unfold dEq;exact bA.int_tuple i t (show s.heap.IsTuple b its.toArray from tb) hA'
  | str i=>
   unfold Held at hx;subst hx;obtain⟨t,rfl⟩:=ru
   cases d' with
   | int j=>
    unfold Held at hy;subst hy;obtain⟨t',rfl⟩:=rv;unfold dEq;exact md i t j t'
   | str j=>
    unfold Held at hy;subst hy;obtain⟨t',rfl⟩:=rv;unfold dEq;exact ma i t j t'
   | tup ds=>
    unfold Held at hy;obtain⟨b,ys,rfl,hb,_⟩:=hy
    cases rv
    obtain⟨its,_,tb,_⟩:=I.tuple (SqT.of hb);unfold dEq;exact bA.str_tuple i t (show s.heap.IsTuple b its.toArray from tb) hA'
  | tup ds=>unfold D.depth at hd;omega
 | succ n ih=>
  intro A d d' x y u v hd hA hx hy ru rv;have hA':A.units < cLine:=by omega
  cases d with
  | int i=>exact ih A (.int i) d' x y u v (by unfold D.depth;omega) (by omega) hx hy ru rv
  | str z=>exact ih A (.str z) d' x y u v (by unfold D.depth;omega) (by omega) hx hy ru rv
  | tup ds=>
   have hx0:=hx;unfold Held at hx;obtain⟨a,xs,rfl,ha,hxs⟩:=hx
   cases ru
   obtain⟨its,rva,ta,_⟩:=I.tuple (SqT.of ha)
   cases d' with
   | int j=>
    unfold Held at hy;subst hy;obtain⟨t',rfl⟩:=rv;unfold dEq;exact bA.tuple_int j t' (show s.heap.IsTuple a its.toArray from ta) hA'
   | str j=>
    unfold Held at hy;subst hy;obtain⟨t',rfl⟩:=rv;unfold dEq;exact bA.tuple_str j t' (show s.heap.IsTuple a its.toArray from ta) hA'
   | tup ds'=>
    have hy0:=hy;unfold Held at hy;obtain⟨b,ys,rfl,hb,hys⟩:=hy
    cases rv
    by_cases hab:a=b
    ·subst hab
     rw[KD.mpr (jcX hx0 hy0)];exact oO _
    ·obtain⟨its2,rvb,tb,_⟩:=I.tuple (SqT.of hb)
     refine bA.of_refs hab ?_;have l1:=hxs.length;have l2:=hys.length;have l3:=rva.length;have l4:=rvb.length;have key:=oN (A:=A) (s:=s) (e:=fun j=>dEq (ds.getD j (.int 0)) (ds'.getD j (.int 0))) (show s.heap.IsTuple a its.toArray from ta) (show s.heap.IsTuple b its2.toArray from tb) (by omega) (fun j h1 h2=>by
      have hj:j < ds.length:=by
       have:j < its.length:=by simpa using h1
       omega
      have hj':j < ds'.length:=by
       have:j < its2.length:=by simpa using h2
       omega
      have ej:ds[j]?=some ds[j]:=aE hj;obtain⟨x',hx',gx⟩:=hxs.get ej;obtain⟨y',hy',gy⟩:=hys.get (aE hj');obtain⟨u',hu',ru'⟩:=rva.get hx';obtain⟨v',hv',rv'⟩:=rvb.get hy';have eu:its.toArray[j]=u':=by
       have:=(bx.mp hu').2;simpa using this
      have ev:its2.toArray[j]=v':=by
       have:=(bx.mp hv').2;simpa using this
      rw[eu,ev];unfold D.depth at hd;have g1:ds.getD j (.int 0)=ds[j]:=by simp[hj]
      have g2:ds'.getD j (.int 0)=ds'[j]:=by simp[hj']
      rw[g1,g2];exact ih A.in1 ds[j] ds'[j] x' y' u' v' (by have:=D.depthL_get ej;omega) (by show A.units+1+n < cLine;omega) gx gy ru' rv')
     have e:((b9 (min its.toArray.size its2.toArray.size)).all (fun j=>dEq (ds.getD j (.int 0)) (ds'.getD j (.int 0))) && its.toArray.size == its2.toArray.size)=dEqL ds ds':=by
      have e1:its.toArray.size=ds.length:=by simp;omega
      have e2:its2.toArray.size=ds'.length:=by simp;omega
      rw[e1,e2];exact jc9 ds ds'
     rw[e]at key;unfold dEq;exact key
theorem jd8(I:Inv X ac σ H s){n:Nat}{A:Around}{ds ds':List D}{xs ys:List V}{its its2:List Value}(hd:D.depthL ds≤n)(hA:A.units+n < cLine)(hxs:HeldL H ds xs)(hys:HeldL H ds' ys)(rva:Vals xs its)(rvb:Vals ys its2):
  ∀j (h1:j < its.toArray.size) (h2:j < its2.toArray.size),bA A s its.toArray[j] its2.toArray[j] (dEq (ds.getD j (.int 0)) (ds'.getD j (.int 0))):=fun j h1 h2=>by
 have l1:=hxs.length
 have l2:=hys.length
 have l3:=rva.length
 have l4:=rvb.length
 have hj:j < ds.length:=by
  have:j < its.length:=by simpa using h1
  omega
 have hj':j < ds'.length:=by
  have:j < its2.length:=by simpa using h2
  omega
 have ej:ds[j]?=some ds[j]:=aE hj
 obtain⟨x',hx',gx⟩:=hxs.get ej
 obtain⟨y',hy',gy⟩:=hys.get (aE hj')
 obtain⟨u',hu',ru'⟩:=rva.get hx'
 obtain⟨v',hv',rv'⟩:=rvb.get hy'
 have eu:its.toArray[j]=u':=by
  have:=(bx.mp hu').2;simpa using this
 have ev:its2.toArray[j]=v':=by
  have:=(bx.mp hv').2;simpa using this
 rw[eu,ev]
 have g1:ds.getD j (.int 0)=ds[j]:=by simp[hj]
 have g2:ds'.getD j (.int 0)=ds'[j]:=by simp[hj']
 rw[g1,g2]
 exact jkn I n A ds[j] ds'[j] x' y' u' v' (by have:=D.depthL_get ej;omega) hA gx gy ru' rv'
theorem je1(n:Nat)(hu:X.A.units+1+n < cLine):OpR X (bK .Eq) (fun x y H Q=>∃a b xs ys ds ds',x=.ref a/\y=.ref b/\H a=some (.tup xs)/\H b=some (.tup ys)/\D.depthL ds≤n/\HeldL H ds xs/\HeldL H ds' ys/\Q (.bl (decide (ds=ds'))) H):=by
 intro ac s σ H x y v u Q I rx ry h;obtain⟨a,b,xs,ys,ds,ds',rfl,rfl,ha,hb,hd,hxs,hys,q⟩:=h
 cases rx;cases ry
 obtain⟨its,rva,ta,_⟩:=I.tuple (SqT.of ha);obtain⟨its2,rvb,tb,_⟩:=I.tuple (SqT.of hb);have l1:=hxs.length;have l2:=hys.length;have l3:=rva.length;have l4:=rvb.length;have key:=oN (A:=X.A) (s:=s) (e:=fun j=>dEq (ds.getD j (.int 0)) (ds'.getD j (.int 0))) (show s.heap.IsTuple a its.toArray from ta) (show s.heap.IsTuple b its2.toArray from tb) (by omega) (jd8 I (A:=X.A.in1) hd (by show X.A.units+1+n < cLine;exact hu) hxs hys rva rvb);have e:((b9 (min its.toArray.size its2.toArray.size)).all (fun j=>dEq (ds.getD j (.int 0)) (ds'.getD j (.int 0))) && its.toArray.size == its2.toArray.size)=decide (ds=ds'):=by
  have e1:its.toArray.size=ds.length:=by simp;omega
  have e2:its2.toArray.size=ds'.length:=by simp;omega
  rw[e1,e2,jc9,jiW]
 rw[e]at key;exact key X.prog X.w X.xe _ ⟨.bl (decide (ds=ds')),H,I,rfl,q⟩
end
def LikeV(K:ah)(H:Hp):Nat->V->V->Prop
 | 0,x,y=>(∃i,x=.int i/\y=.int i)∨∃z,x=.str z/\y=.str z
 | n+1,x,y=>LikeV K H n x y∨
  (∃a b xs ys,x=.ref a/\y=.ref b/\SqT K H a xs/\SqT K H b ys/\xs.length=ys.length/\∀(j:Nat) x' y',xs[j]?=some x'->ys[j]?=some y'->LikeV K H n x' y')∨
  ∃a b xs ys,x=.ref a/\y=.ref b/\SqL K H a xs/\SqL K H b ys/\xs.length=ys.length/\∀(j:Nat) x' y',xs[j]?=some x'->ys[j]?=some y'->LikeV K H n x' y'
theorem LikeV.up{K:ah}{H:Hp}{n m:Nat}{x y:V}(h:LikeV K H n x y)(hm:n≤m):LikeV K H m x y:=by
 induction hm with
 | refl=>exact h
 | step _ ih=>exact .inl ih
theorem jcj:∀{ys:List Str} {its:List Value},Vals (ys.map V.str) its->StrsAre its ys
 | [],_,r=>by cases r;exact .nil
 | y :: ys,_,r=>by
  cases r with
  | cons h t=>
   obtain⟨k,rfl⟩:=h;exact .cons y k (jcj t)
theorem yO:MtR X "str.join" (fun x xs H Q=>∃(sep:Str) (l:Addr) (ys:List Str),x=.str sep/\xs=[.ref l]/\SqL X.K H l (ys.map V.str)/\(ys.map (·.length)).sum+ys.length * sep.length≤16777216/\Q (.str (bZ sep ys)) H):=by
 intro ac s σ H x xs v us Q I rx rs h;obtain⟨sep,l,ys,rfl,rfl,hl,hb,q⟩:=h;obtain⟨t,rfl⟩:=rx;obtain⟨u,rfl,ru⟩:=zh rs
 cases ru
 obtain⟨its,rv,pl,hz⟩:=I.list hl;refine join_list pl.isList (by simpa using jcj rv) hb fun t' k=>?_
 exact⟨.str (bZ sep ys),H,I.kept (t':=k) fun b o e=>e,⟨t',rfl⟩,q⟩
def jkJ(t:TS):TS:=fun D σ H=>∃J:St->Hp->Prop,t { D with nx:=J } σ H/\∀σ' H',J σ' H'->D.nx σ' H'
theorem jjD{st:Stmt}{t:TS}(h:PS X st t):PS X st (jkJ t):=by
 intro ac s σ H D I q;obtain⟨J,q,k⟩:=q;refine thn (h ac s σ H _ I q) fun f s1 q1=>?_
 cases f with
 | next=>
  obtain⟨σ',H',I',e⟩:=q1;exact⟨σ',H',I',k _ _ e⟩
 | cont=>exact q1
 | brk=>exact q1
 | ret v=>exact q1
end L2
namespace LW
open PySem L2
theorem qx{H:Hp}:∀{ds:List D} {vs:List V} {d:D} {v:V},HeldL H ds vs->Held H d v->HeldL H (ds++[d]) (vs++[v])
 | [],vs,d,v,h,hv=>by
  unfold HeldL at h;subst h;exact je hv jz
 | d' :: ds,vs,d,v,h,hv=>by
  unfold HeldL at h;obtain⟨u,r,rfl,h1,h2⟩:=h;exact je h1 (qx h2 hv)
mutual
theorem jff{H H':Hp}(e:∀b xs,H b=some (.tup xs)->H' b=some (.tup xs)):∀{d:D} {v:V},Held H d v->Held H' d v
 | .int i,v,h=>by unfold Held at h ⊢;exact h
 | .str x,v,h=>by unfold Held at h ⊢;exact h
 | .tup ds,v,h=>by
  unfold Held at h ⊢;obtain⟨a,xs,e1,e2,e3⟩:=h;exact⟨a,xs,e1,e a _ e2,heldL_tk e e3⟩
theorem heldL_tk{H H':Hp}(e:∀b xs,H b=some (.tup xs)->H' b=some (.tup xs)):∀{ds:List D} {vs:List V},HeldL H ds vs->HeldL H' ds vs
 | [],vs,h=>by unfold HeldL at h ⊢;exact h
 | d :: ds,vs,h=>by
  unfold HeldL at h ⊢;obtain⟨v,r,e1,e2,e3⟩:=h;exact⟨v,r,e1,jff e e2,heldL_tk e e3⟩
end
def TK(G G':Hp):Prop:=∀b xs,G b=some (.tup xs)->G' b=some (.tup xs)
theorem TK.heldL{G G':Hp}(h:TK G G'){d:List D}{v:List V}(x:HeldL G d v):HeldL G' d v:=heldL_tk h x
theorem TK.held{G G':Hp}(h:TK G G'){d:D}{v:V}(x:Held G d v):Held G' d v:=jff h x
end LW
namespace L2
open PySem PySem.Spec PyProof.Rows PySem.W
theorem fQ{a b c}(h:FnScope a b c:=by exact⟨rfl,rfl,rfl,by decide +kernel,rfl,by decide +kernel,by decide +kernel⟩):FnScope a b c:=h
theorem oQ{p q:Prop}(h:p∨q:=by first|exact .inl rfl|exact .inr rfl):p∨q:=h
variable {H:Hp}
theorem jm1{i:Nat}{v:V}{σ σ':St}{Q:St->Hp->Prop}(e:σ.set i (some v)=σ')(h:Q σ' H):qA i v σ H Q:=by subst e;exact h
theorem gQ{i:Nat}{v:V}{σ σ':St}{Q:St->Hp->Prop}(h:Q σ' H)(e:σ.set i (some v)=σ':=by simp only[List.set_cons_succ,List.set_cons_zero];rfl):qA i v σ H Q:=jm1 e h
theorem jG{t:TS}{D:Ends}{σ σ':St}(e:σ=σ')(h:t D σ' H):t D σ H:=by subst e;exact h
theorem jcu{p:Addr}(h:H p=none)(o:HO):Same H (upd H p o):=fun b u q=>by rw[js (jl q h)];exact q
section
variable {X:Cx}
structure QA(X:Cx)(es:List Expr)(t:TA):Prop where
 h:PA X es t
structure QE(X:Cx)(e:Expr)(t:TE):Prop where
 h:PE X e t
end
end L2
namespace PySem
open Sem (wp)
namespace F
end F
end PySem
namespace L2
open PySem PySem.Spec PyProof.Rows PySem.W
structure MkFn(P:Program)(w:World)(K:ah)(mg:Str->Option Value)(base:Heap)(k:Nat)(x:Str)(C:Addr)(ps:List Str)(sp:Sp):Prop where
 ex:∃f fd,Mk K C f/\FnOk P w K mg base CX0 k f fd ps sp/\Binds K fd ps []/\mg x=some (.ref C)
theorem jmw{X:Cx}{k k':Nat}{x:Str}{C:Addr}{ps:List Str}{sp:Sp}{e:Expr}{es:List Expr}{t:TA}{p pos:Pos}(F:MkFn X.prog X.w X.K X.mg X.base k x C ps sp)(hr:Room k' X.A)(ha:PA X (e :: es) t)(hk:k+1≤k':=by decide)(hg:Gl X x:=by rfl)
  (hd:(x == ("__debug__" : Str))=false:=by decide) (hp:(e :: es).all zf=true:=by rfl):PE X (.Call (.Name x p) (e :: es) [] pos) (jci C sp [] E0 t):=by
 obtain⟨f,fd,M,G,b,m⟩:=F.ex
 rw[dQ,bg]at hp
 exact jjO M G (hr.mono hk) hg m b .nil jcC ha hd (yq hp.1 es X.env) (YW pos X.env es hp.2)
end L2
namespace HT
open PySem PySem.Spec PyProof.Rows L2
open PySem.SeqAt
open PySem.AutoSeq1 (wpAny_loadPart')
open PySem.MeetsSeq PySem.MeetsSeq2 PySem.MeetsSeq3
end HT
namespace L2
open PySem PySem.Spec PyProof.Rows
variable {X:Cx}
theorem jlw{K:ah}{o e:Expr}{es:List Expr}{to:TE}{t:TA}{name:Str}{apos cpos:Pos}{T id:String}{r:V->List V->Hp->VK->Prop}(pa:fY T)(slot:Slot T name id)(hty:fS (.builtin id)=pure (.type "method_descriptor"))(hm:MtR X id r)(ho:PE X o to)(ha:PA X (e :: es) t)
  (hbase:dB o name X.env (eval o X.env)=eval o X.env:=by rfl)
  (hfew:((bL cpos (aK (e :: es) X.env)).all (fun x=>!x.1) && (iG cpos (iD [] X.env)).all (fun x=>x.1.isSome)
   && decide ((e :: es).length+([]:List Keyword).length+(if ([]:List Keyword).isEmpty then 0 else 1) < 30))=true:=by rfl)
  (hline:(apos.endLine == cpos.line)=true:=by rfl) (hs:aK (e :: es) X.env=(false,eval e X.env) :: aK es X.env:=by rfl) (hplain:(bL cpos (aK es X.env)).any (·.1)=false:=by rfl) (hK:X.K=K:=by rfl) :
  PE X (.Call (.Attribute o name apos) (e :: es) [] cpos) (tBM K T r to t):=by
 subst hK
 exact jhH pa slot hty hm ho ha hbase hfew hline hs hplain
variable {X:Cx}{pos:Pos}
structure QT(X:Cx)(e:Expr)(t:TT):Prop where
 h:PT X e t
structure QW(X:Cx)(e:Expr)(t:TT):Prop where
 h:PW X e t
structure QG(X:Cx)(e:Expr)(t:TG):Prop where
 h:PG X e t
structure QGs(X:Cx)(e:List Expr)(t:TGs):Prop where
 h:PGs X e t
structure QI(X:Cx)(tg e:Expr)(t:TI):Prop where
 h:PI X tg e t
structure QO(X:Cx)(e:Option Expr)(t:TO):Prop where
 h:PO X e t
structure QTs(X:Cx)(e:List Expr)(t:TT):Prop where
 h:PTs X e t
structure QPs(X:Cx)(pos:Pos)(ks:List (Option Expr))(vs:List Expr)(t:List (TE×TE)):Prop where
 h:PPs X pos ks vs t
variable {e:Expr}
theorem QW.pt{X:Cx}{t:TT}(h:QW X e t):QT X e t:=⟨h.h.pt⟩
theorem ze{X:Cx}{t:TE}(h:QE X e t)(he:∀whole,isTrue e X.env whole=(do let v ← whole;gn e.pos;holding [v] (truthy v)):=by intro _;rfl):QT X e (tB t):=⟨jby h.h he⟩
variable {x:Str}
theorem zpv{X:Cx}(i:Nat){pos:Pos}(h1:(Cx.N X)[i]?=some x:=by rfl)(h2:Vis (fE (Cx.env X)) x:=by first | exact Or.inl rfl | exact Or.inr (Or.inl rfl) | exact Or.inr (Or.inr rfl))(h3:(x == aa "__debug__")=false:=by decide)(h4:(x == aa "__classdict__")=false:=by decide):QE X (Expr.Name x pos) (jbk i):=
 ⟨@pv _ i _ _ h1 h2 h3 h4⟩
variable {j:Nat}
theorem jg{X:Cx}{i:Int}{pos:Pos}:QE X (Expr.Constant (Const.int i) j pos) (tC (V.int i)):=
 ⟨@kE _ _ _ _⟩
theorem jf{X:Cx}{pos:Pos}:QE X (Expr.Constant (Const.str x) j pos) (tC (V.str x)):=
 ⟨@jlt _ _ _ _⟩
theorem jbg{X:Cx}{b:Bool}{pos:Pos}:QE X (Expr.Constant (Const.bool b) j pos) (tC (V.bl b)):=
 ⟨@jkU _ _ _ _⟩
variable {a b:Expr}{ta tb:TE}{r:R2}
theorem jt{X:Cx}{pos:Pos}{op:Operator}(h1:OpR X (cq op) r)(h2:QE X a ta)(h3:QE X b tb):QE X (Expr.BinOp a op b pos) (tOp r ta tb):=
 ⟨@qO _ _ _ _ _ _ _ _ h1 h2.h h3.h⟩
theorem jjg{X:Cx}{pos:Pos}(h1:QE X a ta):QE X (Expr.UnaryOp UnaryOp.Not a pos) (jkG ta):=
 ⟨@jhC _ _ _ _ h1.h⟩
theorem JD{X:Cx}{pos:Pos}{op:UnaryOp}{r:V->Hp->VK->Prop}(h1:UnR X (unaryOp op) r)(h2:QE X a ta):QE X (Expr.UnaryOp op a pos) (tUn r ta):=
 ⟨@jmu _ _ _ _ _ _ h1 h2.h⟩
theorem kZ{X:Cx}{pos:Pos}{op:CmpOp}(h1:OpR X (bK op) r)(h2:QE X a ta)(h3:QE X b tb)(h4:dA op b=false):QE X (Expr.Compare a [op] [b] pos) (tOp r ta tb):=
 ⟨@Zw _ _ _ _ _ _ _ _ h1 h2.h h3.h h4⟩
theorem zt{X:Cx}{pos:Pos}{op:BoolOp}{t:TE}(h1:QE X a t):QE X (Expr.BoolOp op [a] pos) t:=
 ⟨@jdJ _ _ _ _ _ h1.h⟩
theorem q0{X:Cx}{pos:Pos}{qW:List Expr}(h1:QE X a ta)(h2:QE X (Expr.BoolOp BoolOp.And (b :: qW) pos) tb):QE X (Expr.BoolOp BoolOp.And (a :: b :: qW) pos) (jg2 ta tb):=
 ⟨@jbF _ _ _ _ _ _ _ h1.h h2.h⟩
theorem jk5{X:Cx}{pos:Pos}{qW:List Expr}(h1:QE X a ta)(h2:QE X (Expr.BoolOp BoolOp.Or (b :: qW) pos) tb):QE X (Expr.BoolOp BoolOp.Or (a :: b :: qW) pos) (jme ta tb):=
 ⟨@jmv _ _ _ _ _ _ _ h1.h h2.h⟩
variable {te:TE}
theorem kD{X:Cx}{lo hi:Option Expr}{tl th:TO}{pos p2:Pos}{r:V->Option Int->Option Int->Hp->VK->Prop}(h1:SlR X r)(h2:QE X e te)(h3:QO X lo tl)(h4:QO X hi th):QE X (Expr.Subscript e (Expr.Slice lo hi none p2) pos) (tSl r te tl th):=
 ⟨@jhB _ _ _ _ _ _ _ _ _ _ h1 h2.h h3.h h4.h⟩
variable {o:Expr}
theorem zu{X:Cx}{i:Expr}{pos:Pos}{td ty:TE}(h1:pL (Cx.A X)+1 < cLine)(h2:QE X o td)(h3:QE X i ty)(h4:jje i):QE X (Expr.Subscript o i pos) (jkN td ty):=
 ⟨@jjS _ _ _ _ _ _ h1 h2.h h3.h h4⟩
theorem jv{X:Cx}{pos:Pos}(h1:IxR X r)(h2:QE X a ta)(h3:QE X b tb)(h4:jfD b):QE X (Expr.Subscript a b pos) (tOp r ta tb):=
 ⟨@Jz _ _ _ _ _ _ _ h1 h2.h h3.h h4⟩
variable {es:List Expr}
theorem jT{X:Cx}{t:TA}{pos:Pos}(h1:QA X es t):QE X (Expr.List es pos) (jmg t):=
 ⟨@jbE _ _ _ _ h1.h⟩
theorem jQ{X:Cx}{t:TA}{pos:Pos}{x1:Nat}(h1:QA X es t):QE X (Expr.Tuple es x1 pos) (jmc t):=
 ⟨@jls _ _ _ _ _ h1.h⟩
theorem jgU{X:Cx}{pos:Pos}{keys:List (Option Expr)}{values:List Expr}{trs:List (TE×TE)}(h1:QPs X pos keys values trs)(h2:(dm keys fun x=>mI x)=true)(h3:cC keys=cC values)(h4:keys≠[])(h5:cC keys≤15):QE X (Expr.Dict keys values pos) (jkM trs):=
 ⟨@jjR _ _ _ _ _ h1.h h2 h3 h4 h5⟩
theorem jgS{X:Cx}{pos:Pos}:QPs X pos [] [] []:=
 ⟨@jjI _ _⟩
variable {tv:TE}
theorem y3{X:Cx}{pos:Pos}{k v:Expr}{ks:List (Option Expr)}{vs:List Expr}{tk:TE}{trs:List (TE×TE)}(h1:QE X k tk)(h2:QE X v tv)(h3:QPs X pos ks vs trs):QPs X pos (some k :: ks) (v :: vs) ((tk,tv) :: trs):=
 ⟨@jhr _ _ _ _ _ _ _ _ _ h1.h h2.h h3.h⟩
variable {tg iter:Expr}{wi:TI}{g:TG}
theorem qt{X:Cx}{scope:Scope}{elt:Expr}{ifs:List Expr}{pos:Pos}{tt:TT}(own:List Str)(fr:List Nat)(h1:Cx.calm X=true)(h2:CompOk X scope fr)(h3:QI (Cx.nox X) tg iter wi)(h4:∀(s:oK) (H:Hp) (ex:List pM),QG (blk (Cx.nox X) scope own fr s H ex) tg g/\QTs (blk (Cx.nox X) scope own fr s H ex) ifs tt/\QE (blk (Cx.nox X) scope own fr s H ex) elt te)(h5:∀(x:Value),eD iter (Cx.env X) x=pure x:=by intro _;rfl):QE (Cx.nox X) (Expr.ListComp elt [{ target:=tg,iter:=iter,ifs:=ifs,is_async:=0 }] scope pos) (jaD own fr wi g tt te):=
 ⟨@jeZ _ _ _ _ _ _ _ _ _ _ _ own fr h1 h2 h3.h (fun s H ex=>⟨(h4 s H ex).1.h,(h4 s H ex).2.1.h,(h4 s H ex).2.2.h⟩) h5⟩
theorem j1{X:Cx}{f:Str}{pos:Pos}(h1:QE X e ta)(h2:dB e f (Cx.env X) (eval e (Cx.env X))=eval e (Cx.env X)):QE X (Expr.Attribute e f pos) (jmi (Cx.K X) ta f):=
 ⟨@jlu _ _ _ _ _ h1.h h2⟩
variable {ps:List Str}{sp:Sp}{p:Pos}
theorem jdj{X:Cx}{k k':Nat}{C:Addr}{t:TA}{pos:Pos}(h1:MkFn (Cx.prog X) (Cx.w X) (Cx.K X) (Cx.mg X) (Cx.base X) k x C ps sp)(h2:Room k' (Cx.A X))(h3:QA X (e :: es) t)(h4:k+1≤k':=by decide)(h5:Gl X x:=by rfl)(h6:(x == aa "__debug__")=false:=by decide)(h7:dm (e :: es) zf=true:=by rfl):QE X (Expr.Call (Expr.Name x p) (e :: es) [] pos) (jci C sp [] E0 t):=
 ⟨@jmw _ _ _ _ _ _ _ _ _ _ _ _ h1 h2 h3.h h4 h5 h6 h7⟩
theorem jp{X:Cx}{k k':Nat}{t:TA}{pos:Pos}(h1:Fn (Cx.prog X) (Cx.w X) (Cx.K X) (Cx.mg X) (Cx.base X) k x ps sp)(h2:Room k' (Cx.A X))(h3:QA X (e :: es) t)(h4:k≤k':=by decide)(h5:Gl X x:=by rfl)(h6:(x == aa "__debug__")=false:=by decide)(h7:dm (e :: es) zf=true:=by rfl):QE X (Expr.Call (Expr.Name x p) (e :: es) [] pos) (y6 sp [] E0 t):=
 ⟨@jhE _ _ _ _ _ _ _ _ _ _ _ h1 h2 h3.h h4 h5 h6 h7⟩
variable {id:String}
theorem k9{X:Cx}{pos:Pos}{t:TA}{r:List V->Hp->VK->Prop}(h1:zE X (Value.builtin id) r)(h2:Gl X x)(h3:Cx.mg X x=none)(h4:bu x=some (Value.builtin id))(h5:QA X (e :: es) t)(h6:dm (e :: es) zf=true:=by rfl)(h7:x≠aa "__name__":=by decide)(h8:(x == aa "__debug__")=false:=by decide):QE X (Expr.Call (Expr.Name x p) (e :: es) [] pos) (tCB r t):=
 ⟨@zF _ _ _ _ _ _ _ _ _ h1 h2 h3 h4 h5.h h6 h7 h8⟩
variable {T:String}
theorem kC{X:Cx}{pos:Pos}{t:TA}{r:List V->Hp->VK->Prop}(h1:zE X (Value.type T) r)(h2:Gl X x)(h3:Cx.mg X x=none)(h4:bu x=some (Value.type T))(h5:QA X (e :: es) t)(h6:dm (e :: es) zf=true:=by rfl)(h7:x≠aa "__name__":=by decide)(h8:(x == aa "__debug__")=false:=by decide):QE X (Expr.Call (Expr.Name x p) (e :: es) [] pos) (tCB r t):=
 ⟨@jkT _ _ _ _ _ _ _ _ _ h1 h2 h3 h4 h5.h h6 h7 h8⟩
variable {to:TE}{apos cpos:Pos}
theorem jN{X:Cx}{t:TA}{name:Str}{r:V->List V->Hp->VK->Prop}(h1:fY T)(h2:Slot T name id)(h3:fS (Value.builtin id)=pure (Value.type "method_descriptor"))(h4:MtR X id r)(h5:QE X o to)(h6:QA X (e :: es) t)(h7:dB o name (Cx.env X) (eval o (Cx.env X))=eval o (Cx.env X):=by rfl)(h8:(((dm (bL cpos (aK (e :: es) (Cx.env X))) fun x=>!Prod.fst x) && dm (iG cpos (iD [] (Cx.env X))) fun x=>mI (gF x)) && decide ((cC (e :: es)+cC ([]:List iO)+if rM ([]:List iO)=true then 0 else 1) < 30))=true:=by rfl)(h9:(mh apos == dI cpos)=true:=by rfl)(h10:aK (e :: es) (Cx.env X)=(false,eval e (Cx.env X)) :: aK es (Cx.env X):=by rfl)(h11:(List.any (bL cpos (aK es (Cx.env X))) fun x=>gF x)=false:=by rfl):QE X (Expr.Call (Expr.Attribute o name apos) (e :: es) [] cpos) (tBM (Cx.K X) T r to t):=
 ⟨@jhH _ _ _ _ _ _ _ _ _ _ _ _ h1 h2 h3 h4 h5.h h6.h h7 h8 h9 h10 h11⟩
theorem Jl{X:Cx}{name:Str}{r:V->List V->Hp->VK->Prop}(h1:fY T)(h2:Slot T name id)(h3:fS (Value.builtin id)=pure (Value.type "method_descriptor"))(h4:MtR X id r)(h5:QE X o to)(h6:dB o name (Cx.env X) (eval o (Cx.env X))=eval o (Cx.env X):=by rfl)(h7:(mh apos == dI cpos)=true:=by rfl):QE X (Expr.Call (Expr.Attribute o name apos) [] [] cpos) (jmk (Cx.K X) T r to):=
 ⟨@jlx _ _ _ _ _ _ _ _ _ h1 h2 h3 h4 h5.h h6 h7⟩
variable {tA:TT}
theorem Jk{X:Cx}{pos:Pos}(h1:QT X a tA):QT X (Expr.UnaryOp UnaryOp.Not a pos) (jmf tA):=
 ⟨@jho _ _ _ _ h1.h⟩
theorem jA{X:Cx}{pos:Pos}{op:CmpOp}(h1:OpR X (bK op) r)(h2:QE X a ta)(h3:QE X b tb)(h4:dA op b=false):QT X (Expr.Compare a [op] [b] pos) (jkE (tOp r ta tb)):=
 ⟨@Jr _ _ _ _ _ _ _ _ h1 h2.h h3.h h4⟩
theorem yJ{X:Cx}{pos:Pos}{tB':TT}{qW:List Expr}(h1:QT X a tA)(h2:QW X (Expr.BoolOp BoolOp.And (b :: qW) pos) tB'):QW X (Expr.BoolOp BoolOp.And (a :: b :: qW) pos) (jml tA tB'):=
 ⟨@jhk _ _ _ _ _ _ _ h1.h h2.h⟩
theorem yn{X:Cx}{pos:Pos}(h1:QT X a tA):QW X (Expr.BoolOp BoolOp.And [a] pos) tA:=
 ⟨@jeR _ _ _ _ h1.h⟩
theorem jbf{X:Cx}{pos:Pos}{tB':TT}{qW:List Expr}(h1:QT X a tA)(h2:QW X (Expr.BoolOp BoolOp.Or (b :: qW) pos) tB'):QW X (Expr.BoolOp BoolOp.Or (a :: b :: qW) pos) (tOr tA tB'):=
 ⟨@jkR _ _ _ _ _ _ _ h1.h h2.h⟩
theorem jbe{X:Cx}{pos:Pos}(h1:QT X a tA):QW X (Expr.BoolOp BoolOp.Or [a] pos) tA:=
 ⟨@jhj _ _ _ _ h1.h⟩
theorem kU{X:Cx}:QO X none jeu:=
 ⟨@jjK _⟩
theorem kO{X:Cx}(h1:QE X e te):QO X (some e) (jkF te):=
 ⟨@jjJ _ _ _ h1.h⟩
theorem qe{X:Cx}{ta:TA}{pos:Pos}(h1:Gl X (aa "range"))(h2:Cx.mg X (aa "range")=none)(h3:QA X [a] ta)(h4:aK [a] (Cx.env X)=[(false,eval a (Cx.env X))]:=by rfl):QI X tg (Expr.Call (Expr.Name (aa "range") p) [a] [] pos) (jkZ ta):=
 ⟨@jaR _ _ _ _ _ _ h1 h2 h3.h h4⟩
theorem ZH{X:Cx}{l:Expr}{tl:TE}(h1:QE X l tl):QI X tg l (jk0 (Cx.K X) tl):=
 ⟨@jjL _ _ _ _ h1.h⟩
theorem qS{X:Cx}{l:Expr}{tl:TE}(h1:QE X l tl):QI X tg l (jmG (Cx.K X) tl):=
 ⟨@jlp _ _ _ _ h1.h⟩
variable {i:Nat}{pos':Pos}
theorem ju{X:Cx}{pos:Pos}(h1:br (Cx.N X))(h2:(Cx.N X)[i]?=some x)(h3:L2.Loc (fE (Cx.env X)) x)(h4:QE X e te)(h5:cX e (some (Expr.Name x pos')) (dI pos) (Cx.env X)=pure false:=by rfl)(h6:Cx.fn X x=true∨dj x (mf (fE (Cx.env X)))=some NameKind.local:=by first | exact .inl rfl | exact .inr rfl | assumption):QS X (Stmt.Assign [Expr.Name x pos'] e pos) (jfM te (qA i)):=
 ⟨@yS _ _ _ _ _ _ _ h1 h2 h3 h4.h h5 h6⟩
theorem zQ{X:Cx}{scope:Scope}{elt:Expr}{ifs:List Expr}{pos:Pos}{tt:TT}{y:Str}{py spos:Pos}(h1:br (Cx.N X))(h2:(Cx.N X)[i]?=some y)(h3:L2.Loc (fE (Cx.env X)) y)(own:List Str)(fr:List Nat)(h4:Cx.calm X=true)(h5:CompOk X scope fr)(h6:QI (Cx.nox X) tg iter wi)(h7:∀(s:oK) (H:Hp) (ex:List pM),QG (blk (Cx.nox X) scope own fr s H ex) tg g/\QTs (blk (Cx.nox X) scope own fr s H ex) ifs tt/\QE (blk (Cx.nox X) scope own fr s H ex) elt te)(h8:∀(x:Value),eD iter (Cx.env X) x=pure x:=by intro _;rfl)(h9:cX (Expr.ListComp elt [{ target:=tg,iter:=iter,ifs:=ifs,is_async:=0 }] scope pos) (some (Expr.Name y py)) (dI spos) (Cx.env X)=pure true:=by rfl)(h10:Cx.fn X y=true∨dj y (mf (fE (Cx.env X)))=some NameKind.local:=by first | exact .inl rfl | exact .inr rfl | assumption):QS (Cx.nox X) (Stmt.Assign [Expr.Name y py] (Expr.ListComp elt [{ target:=tg,iter:=iter,ifs:=ifs,is_async:=0 }] scope pos) spos) (jfM (jaD own fr wi g tt te) (qA i)):=
 ⟨@jdF _ _ _ _ _ _ _ _ _ _ _ _ _ _ _ h1 h2 h3 own fr h4 h5 h6.h (fun s H ex=>⟨(h7 s H ex).1.h,(h7 s H ex).2.1.h,(h7 s H ex).2.2.h⟩) h8 h9 h10⟩
theorem jgR{X:Cx}{i value:Expr}{pos:Pos}{td ty:TE}(h1:pL (Cx.A X)+1 < cLine)(h2:QE X o td)(h3:QE X i ty)(h4:QE X value tv)(h5:cX value (some (Expr.Subscript o i pos')) (dI pos) (Cx.env X)=pure false):QS X (Stmt.Assign [Expr.Subscript o i pos'] value pos) (jkO td ty tv):=
 ⟨@jjF _ _ _ _ _ _ _ _ _ h1 h2.h h3.h h4.h h5⟩
theorem zr{X:Cx}{value:Expr}{f:Str}{pos:Pos}(h1:QE X o ta)(h2:QE X value tv)(h3:cX value (some (Expr.Attribute o f pos')) (dI pos) (Cx.env X)=pure false):QS X (Stmt.Assign [Expr.Attribute o f pos'] value pos) (jmo (Cx.K X) ta tv f):=
 ⟨@jll _ _ _ _ _ _ _ _ h1.h h2.h h3⟩
theorem km{X:Cx}{pos:Pos}(h1:QE X e te)(h2:QG X tg g)(h3:swapsWithSole [tg] e (dI pos) (Cx.env X)=pure false:=by rfl)(h4:swappedStores [tg] e (Cx.env X)=pure none:=by rfl)(h5:mT (fun x=>mH x) (cH [tg] (Cx.env X))=[assign tg (Cx.env X)]:=by rfl):QS X (Stmt.Assign [tg] e pos) (jfM te g):=
 ⟨@jdG _ _ _ _ _ _ h1.h h2.h h3 h4 h5⟩
theorem jx{X:Cx}{pos:Pos}(h1:QE X e te):QS X (Stmt.Return (some e) pos) (jk7 te):=
 ⟨@yy _ _ _ _ h1.h⟩
variable {c:Expr}
theorem jM{X:Cx}{t u:TS}{pos:Pos}{a b:List Stmt}{tc:TT}(h1:QT X c tc)(h2:QSs X a t)(h3:QSs X b u):QS X (Stmt.If c a b pos) (jdp tc t u):=
 ⟨@Ze _ _ _ _ _ _ _ _ h1.h h2.h h3.h⟩
theorem zq{X:Cx}{body:List Stmt}{tb:TS}{pos:Pos}(h1:fZ (model (Cx.prog X) (Cx.w X)) (Cx.A X) (Cx.env X) (Cx.xe X))(h2:Cx.calm X=true)(h3:QI X tg iter wi)(h4:QG X tg g)(h5:QSs X body tb)(h6:∀(x:Value),eD iter (Cx.env X) x=pure x:=by intro _;rfl):QS X (Stmt.For tg iter body [] pos) (jmh wi g tb):=
 ⟨@jlk _ _ _ _ _ _ _ _ h1 h2 h3.h h4.h h5.h h6⟩
theorem jfF{X:Cx}{pos:Pos}{body:List Stmt}{tc:TT}{tb:TS}(h1:fZ (model (Cx.prog X) (Cx.w X)) (Cx.A X) (Cx.env X) (Cx.xe X))(h2:QT X c tc)(h3:QSs X body tb):QS X (Stmt.While c body [] pos) (jdn tc tb):=
 ⟨@jhp _ _ _ _ _ _ h1 h2.h h3.h⟩
theorem jC{X:Cx}{pos:Pos}(h1:QE X e te)(h2:cX e none (dI pos) (Cx.env X)=pure false:=by rfl):QS X (Stmt.Expr e pos) (ZL te):=
 ⟨@jjE _ _ _ _ h1.h h2⟩
theorem jm{X:Cx}{pos:Pos}(h1:br (Cx.N X))(h2:(Cx.N X)[i]?=some x)(h3:L2.Loc (fE (Cx.env X)) x)(h4:Cx.fn X x=true∨dj x (mf (fE (Cx.env X)))=some NameKind.local:=by first | exact .inl rfl | exact .inr rfl | assumption):QG X (Expr.Name x pos) (qA i):=
 ⟨@jeY _ _ _ _ h1 h2 h3 h4⟩
theorem kg{X:Cx}{pos:Pos}{k:Nat}{t:TGs}{n:Nat}(h1:Cx.calm X=true)(h2:QGs X es t)(h3:cC (cH es (Cx.env X))=n:=by rfl)(h4:List.findIdx? (fun x=>gF x) (cH es (Cx.env X))=none:=by rfl):QG X (Expr.Tuple es k pos) (jmJ (Cx.K X) n t):=
 ⟨@jlq _ _ _ _ _ _ h1 h2.h h3 h4⟩
theorem j4{X:Cx}:QGs X [] jmK:=
 ⟨@jjM _⟩
theorem jo{X:Cx}{t:TG}{u:TGs}(h1:QG X e t)(h2:QGs X es u)(h3:mT (fun x=>mH x) (cH (e :: es) (Cx.env X))=assign e (Cx.env X) :: mT (fun x=>mH x) (cH es (Cx.env X)):=by rfl):QGs X (e :: es) (jk2 t u):=
 ⟨@jhz _ _ _ _ _ h1.h h2.h h3⟩
theorem jH{X:Cx}:QSs X [] yo:=
 ⟨@yL _⟩
variable {st:Stmt}
theorem jh{X:Cx}{t:TS}(h1:QS X st t):QSs X [st] t:=
 ⟨@q8 _ _ _ h1.h⟩
theorem jd{X:Cx}{qW:List Stmt}{t u:TS}(h1:QS X st t)(h2:QSs X qW u):QSs X (st :: qW) (jZ t u):=
 ⟨@qa _ _ _ _ _ h1.h h2.h⟩
theorem kT{X:Cx}:QTs X [] y4:=
 ⟨@jeT _⟩
theorem jgP{X:Cx}{t:TT}(h1:QT X c t):QTs X [c] t:=
 ⟨@jjC _ _ _ h1.h⟩
theorem jb{X:Cx}:QA X [] jch:=
 ⟨@qg _⟩
theorem ja{X:Cx}{t:TA}(h1:QE X e te)(h2:QA X es t)(h3:zf e=true:=by rfl):QA X (e :: es) (Jy te t):=
 ⟨@qR _ _ _ _ _ h1.h h2.h h3⟩
theorem jjj{X:Cx}{K:ah}{t:TA}{name:Str}{r:V->List V->Hp->VK->Prop}(h1:fY T)(h2:Slot T name id)(h3:fS (Value.builtin id)=pure (Value.type "method_descriptor"))(h4:MtR X id r)(h5:QE X o to)(h6:QA X (e :: es) t)(h7:dB o name (Cx.env X) (eval o (Cx.env X))=eval o (Cx.env X):=by rfl)(h8:(((dm (bL cpos (aK (e :: es) (Cx.env X))) fun x=>!Prod.fst x) && dm (iG cpos (iD [] (Cx.env X))) fun x=>mI (gF x)) && decide ((cC (e :: es)+cC ([]:List iO)+if rM ([]:List iO)=true then 0 else 1) < 30))=true:=by rfl)(h9:(mh apos == dI cpos)=true:=by rfl)(h10:aK (e :: es) (Cx.env X)=(false,eval e (Cx.env X)) :: aK es (Cx.env X):=by rfl)(h11:(List.any (bL cpos (aK es (Cx.env X))) fun x=>gF x)=false:=by rfl)(h12:Cx.K X=K:=by rfl):QE X (Expr.Call (Expr.Attribute o name apos) (e :: es) [] cpos) (tBM K T r to t):=
 ⟨@jlw _ _ _ _ _ _ _ _ _ _ _ _ _ h1 h2 h3 h4 h5.h h6.h h7 h8 h9 h10 h11 h12⟩
theorem JF{X:Cx}{v:V}{u:Value}{pos:Pos}(h1:Gl X x)(h2:Cx.mg X x=some u)(h3:RelV v u)(h4:(x == aa "__debug__")=false:=by decide):QE X (Expr.Name x pos) (tC v):=
 ⟨@jjQ _ _ _ _ _ h1 h2 h3 h4⟩
theorem YT{X:Cx}:QS X st jg1:=⟨jhq⟩
theorem jgQ{X:Cx}{t:TS}(h:QS X st t):QS X st (jkJ t):=⟨jjD h.h⟩
theorem Fun.okZ{P:Program}{w:World}{K:ah}{mg:Str->Option Value}{base:Heap}{qual:Str}{f:Addr}{fd:aq}{N:List Str}{k:Nat}(F:Fun K x qual st f fd)(S:FnScope N ps (jn st))(len:∀vs H Q E,sp vs H Q E->vs.length=ps.length)
  (hbody:∀(aj:Value) (A:Around) (outer:List Env) (s:Shared) (H:Hp) (vs:List V) (Q:VK) (E:XK),Room k (A.deeper (envOfC qual (jn st) s.heap.objs.size f aj))->sp vs H Q E->
   ∃t,QSs (qo CX0 P w K mg base N qual (jn st) f aj A outer s H E).nox (zO st) t/\t { nx:=fun _ H'=>Q .non H',rt:=Q } (Yp N vs) H):FnOk P w K mg base CX0 (k+1) f fd ps sp:=
 F.ok S len fun aj A outer s H vs Q E hr h=>let ⟨t,a,b⟩:=hbody aj A outer s H vs Q E hr h;⟨t,a.h,b⟩
open PySem PySem.Spec PyProof.Rows PySem.W
def SetAtS(prog:Program)(w:World)(h:Heap)(a:Addr)(led:Bool)(σ:List Str):Prop:=∃(es:Array (Int×Value)) (ep:Nat) (t:cJ),
 h.get? a=some { cls:=.type "set",dict:=none,data:=.set es ep t }/\ElemsOf (nE prog w) es.toList/\(∃l:List Str,StrsAre (es.toList.map (·.2)) l/\l.Perm σ)/\es.size < scanBound/\t.fits es.size=true/\TabOk led t
end L2
namespace PySem
end PySem
namespace L2
open PySem PySem.Spec PySem.Calls PyProof.Rows PySem.W
end L2
namespace PySem
end PySem
namespace L2
open PySem PySem.Spec PySem.Calls PyProof.Rows PySem.W
def jgN(m:Nat):Prop:=m=7∨m=15∨m=31∨m=63
structure SmS(prog:Program)(w:World)(h:Heap)(a:Addr)(led:Bool)(σ:List Str)(es:Array (Int×Value))(ep:Nat)(t:cJ):Prop where
 o:h.get? a=some (jg7 es ep t)
 el:ElemsOf (nE prog w) es.toList
 pm:∃l:List Str,StrsAre (es.toList.map (·.2)) l/\l.Perm σ
 fit:t.fits es.size=true
 tab:TabOk led t
 sm:jgN t.mask
theorem SmS.len{prog:Program}{w:World}{h:Heap}{a:Addr}{led:Bool}{σ:List Str}{es:Array (Int×Value)}{ep:Nat}{t:cJ}(x:SmS prog w h a led σ es ep t):es.size=σ.length:=by
 obtain⟨l,h1,h2⟩:=x.pm;have:=h1.length;rw[ae,gg]at this;rw[this,h2.length_eq]
end L2
namespace PySem.F
end PySem.F
namespace L2
open PySem PySem.Spec PyProof.Rows PySem.W
section
variable {prog:Program}{w:World}{A:Around}{E:Value->Shared->Prop}{s:Shared}
theorem SetAtS.type{h:Heap}{a:Addr}{led:Bool}{σ:List Str}(x:SetAtS prog w h a led σ):∃es ep t,h.get? a=some (jg7 es ep t)/\t.fits es.size=true:=by
 obtain⟨es,ep,t,e,_,_,_,hf,_⟩:=x;exact⟨es,ep,t,e,hf⟩
end
end L2
namespace LW
open PySem L2
theorem jL{n:Nat}(h:n≤1000):n≤au:=bE (ky h)
theorem sm{n:Nat}(h:n.ble 1000=true):n≤au:=jL (gM h)
inductive Tm where
 | is (x:Str) | at_ (r x:Str) (d:Int)
inductive Bd where
 | is (x:Str) | row (r:Str)
inductive Cl where
 | least (a b:Tm) (c:Int) | each (t:Str) (td:Int) (u:Str) (ud:Int) (r way:Str) (b:Bd) (c:Int) | rise (t:Str) (td:Int) (u:Str) (ud:Int) (r:Str)
inductive Sm where
 | set (x:Str) (t:Tm) (c:Int) | put (r x:Str) (d:Int) (t:Tm) (c:Int) | any (x:Str) | claim (C:Cl) | call (x f:Str) (as rs:List Str)
def plD(x:Str)(d:Int):D:=.tup [.str x,.int d]
def Tm.toD:Tm->D
 | .is x=>.tup [.str "is",.str x]
 | .at_ r x d=>.tup [.str "at",.str r,plD x d]
def Bd.toD:Bd->D
 | .is x=>.tup [.str "is",.str x]
 | .row r=>.tup [.str "row",.str r]
def Cl.toD:Cl->D
 | .least a b c=>.tup [.str "least",a.toD,b.toD,.int c]
 | .each t td u ud r way b c=>.tup [.str "each",plD t td,plD u ud,.str r,.str way,b.toD,.int c]
 | .rise t td u ud r=>.tup [.str "rise",plD t td,plD u ud,.str r]
def Sm.toD:Sm->D
 | .set x t c=>.tup [.str "set",.str x,t.toD,.int c]
 | .put r x d t c=>.tup [.str "put",.str r,plD x d,t.toD,.int c]
 | .any x=>.tup [.str "any",.str x]
 | .claim C=>.tup [.str "claim",C.toD]
 | .call x f as rs=>.tup [.str "call",.str x,.str f,.tup (as.map D.str),.tup (rs.map D.str)]
def Tm.ns:Tm->List Str
 | .is x=>[x]
 | .at_ _ x _=>[x]
def Cl.ns:Cl->List Str
 | .least a b _=>a.ns++b.ns
 | .each t _ u _ _ _ b _=>[t,u]++(match b with | .is x=>[x] | .row _=>[])
 | .rise t _ u _ _=>[t,u]
def Sm.ns:Sm->List Str
 | .set x t _=>[x]++t.ns
 | .put _ x _ t _=>[x]++t.ns
 | .any x=>[x]
 | .claim C=>C.ns
 | .call x _ as _=>[x]++as
def Sm.few:Sm->Prop
 | .call _ _ as rs=>as.length≤6/\rs.length≤6
 | _=>True
variable {H:Hp}{v:V}
theorem qN{x:Int}(h:Held H (.int x) v):v=.int x:=by unfold Held at h;exact h
theorem jF{ds:List D}(h:Held H (.tup ds) v):∃a xs,v=.ref a/\H a=some (.tup xs)/\HeldL H ds xs:=by unfold Held at h;exact h
theorem jR{vs:List V}(h:HeldL H [] vs):vs=[]:=by unfold HeldL at h;exact h
theorem jk{d:D}{ds:List D}{vs:List V}(h:HeldL H (d :: ds) vs):∃v r,vs=v :: r/\Held H d v/\HeldL H ds r:=by unfold HeldL at h;exact h
variable {x:Str}
theorem jU(h:Held H (.str x) v):v=.str x:=by unfold Held at h;exact h
variable {d:Int}
theorem J5(h:Held H (plD x d) v):∃a,v=.ref a/\H a=some (.tup [.str x,.int d]):=by
 obtain⟨a,xs,rfl,ha,h1⟩:=jF h;obtain⟨v1,r1,rfl,e1,h2⟩:=jk h1;obtain⟨v2,r2,rfl,e2,h3⟩:=jk h2
 cases jR h3
 cases jU e1
 cases qN e2
 exact⟨a,rfl,ha⟩
variable {y:Str}
theorem zc(h:Held H (.tup [.str x,.str y]) v):∃a,v=.ref a/\H a=some (.tup [.str x,.str y]):=by
 obtain⟨a,xs,rfl,ha,h1⟩:=jF h;obtain⟨v1,r1,rfl,e1,h2⟩:=jk h1;obtain⟨v2,r2,rfl,e2,h3⟩:=jk h2
 cases jR h3
 cases jU e1
 cases jU e2
 exact⟨a,rfl,ha⟩
variable {r:Str}
theorem jen(h:Held H (Tm.at_ r x d).toD v):∃a b,v=.ref a/\H a=some (.tup [.str "at",.str r,.ref b])/\H b=some (.tup [.str x,.int d]):=by
 obtain⟨a,xs,rfl,ha,h1⟩:=jF h;obtain⟨v1,r1,rfl,e1,h2⟩:=jk h1;obtain⟨v2,r2,rfl,e2,h3⟩:=jk h2;obtain⟨v3,r3,rfl,e3,h4⟩:=jk h3
 cases jR h4
 cases jU e1
 cases jU e2
 obtain⟨b,rfl,hb⟩:=J5 e3;exact⟨a,b,rfl,ha,hb⟩
variable {a b:Tm}{c:Int}
theorem jaV(h:Held H (Cl.least a b c).toD v):∃t va vb,v=.ref t/\H t=some (.tup [.str "least",va,vb,.int c])/\Held H a.toD va/\Held H b.toD vb:=by
 obtain⟨t,xs,rfl,ht,h1⟩:=jF h;obtain⟨v1,r1,rfl,e1,h2⟩:=jk h1;obtain⟨v2,r2,rfl,e2,h3⟩:=jk h2;obtain⟨v3,r3,rfl,e3,h4⟩:=jk h3;obtain⟨v4,r4,rfl,e4,h5⟩:=jk h4
 cases jR h5
 cases jU e1
 cases qN e4
 exact⟨t,v2,v3,rfl,ht,e2,e3⟩
theorem jcx{e:Int}(h:Held H (Cl.rise x d y e r).toD v):∃t a b,v=.ref t/\H t=some (.tup [.str "rise",.ref a,.ref b,.str r])/\H a=some (.tup [.str x,.int d])/\H b=some (.tup [.str y,.int e]):=by
 obtain⟨t,xs,rfl,ht,h1⟩:=jF h;obtain⟨v1,r1,rfl,e1,h2⟩:=jk h1;obtain⟨v2,r2,rfl,e2,h3⟩:=jk h2;obtain⟨v3,r3,rfl,e3,h4⟩:=jk h3;obtain⟨v4,r4,rfl,e4,h5⟩:=jk h4
 cases jR h5
 cases jU e1
 cases jU e4
 obtain⟨a,rfl,ha⟩:=J5 e2;obtain⟨b,rfl,hb⟩:=J5 e3;exact⟨t,a,b,rfl,ht,ha,hb⟩
theorem jc4{way:Str}{e:Int}{bd:Bd}(h:Held H (Cl.each x d y e r way bd c).toD v):∃t a b vb,v=.ref t/\H t=some (.tup [.str "each",.ref a,.ref b,.str r,.str way,.ref vb,.int c])/\H a=some (.tup [.str x,.int d])/\H b=some (.tup [.str y,.int e])/\H vb=some (.tup (match bd with | .is z=>[.str "is",.str z] | .row z=>[.str "row",.str z])):=by
 obtain⟨t,xs,rfl,ht,h1⟩:=jF h;obtain⟨v1,r1,rfl,e1,h2⟩:=jk h1;obtain⟨v2,r2,rfl,e2,h3⟩:=jk h2;obtain⟨v3,r3,rfl,e3,h4⟩:=jk h3;obtain⟨v4,r4,rfl,e4,h5⟩:=jk h4;obtain⟨v5,r5,rfl,e5,h6⟩:=jk h5;obtain⟨v6,r6,rfl,e6,h7⟩:=jk h6;obtain⟨v7,r7,rfl,e7,h8⟩:=jk h7
 cases jR h8
 cases jU e1
 cases jU e4
 cases jU e5
 cases qN e7
 obtain⟨a,rfl,ha⟩:=J5 e2;obtain⟨b,rfl,hb⟩:=J5 e3
 cases bd with
 | is z=>
  obtain⟨vb,rfl,hvb⟩:=zc e6;exact⟨t,a,b,vb,rfl,ht,ha,hb,hvb⟩
 | row z=>
  obtain⟨vb,rfl,hvb⟩:=zc e6;exact⟨t,a,b,vb,rfl,ht,ha,hb,hvb⟩
inductive Fo(α:Type) where
 | leaf (S:Sm) | ite (a b:Tm) (c:Int) (x y:List α) | whl (a b:Tm) (c:Int) (ks:List Cl) (x:List α)
def StN:Nat->Type
 | 0=>Empty
 | n+1=>Fo (StN n)
inductive Nd where
 | leaf (S:Sm) | ite (a b:Tm) (c:Int) (x y:List D) | whl (a b:Tm) (c:Int) (ks:List Cl) (x:List D)
def Nd.toD:Nd->D
 | .leaf S=>S.toD
 | .ite a b c x y=>.tup [.str "if",(Cl.least a b c).toD,.tup x,.tup y]
 | .whl a b c ks x=>.tup [.str "while",(Cl.least a b c).toD,.tup (ks.map Cl.toD),.tup x]
def Nd.ns:Nd->List Str
 | .leaf S=>S.ns
 | .ite a b c _ _=>(Cl.least a b c).ns
 | .whl a b c ks _=>(Cl.least a b c :: ks).flatMap Cl.ns
def Nd.bods:Nd->List (List D)
 | .leaf _=>[]
 | .ite _ _ _ x y=>[x,y]
 | .whl _ _ _ _ x=>[x]
def Nd.few:Nd->Prop
 | .leaf S=>S.few
 | .whl _ _ _ ks _=>ks.length≤20
 | _=>True
def Fo.nd{α:Type}(f:α->D):Fo α->Nd
 | .leaf S=>.leaf S
 | .ite a b c x y=>.ite a b c (x.map f) (y.map f)
 | .whl a b c ks x=>.whl a b c ks (x.map f)
def Fo.bods{α:Type}:Fo α->List (List α)
 | .leaf _=>[]
 | .ite _ _ _ x y=>[x,y]
 | .whl _ _ _ _ x=>[x]
def stD:(n:Nat)->StN n->D
 | 0=>fun e=>nomatch (show Empty from e)
 | n+1=>fun s=>(Fo.nd (stD n) s).toD
def jmS{n:Nat}(s:StN (n+1)):Nd:=Fo.nd (stD n) s
def jla{n:Nat}(s:StN (n+1)):List (List (StN n)):=Fo.bods s
def jmQ:(n:Nat)->List (StN n)->List Nd
 | 0=>fun _=>[]
 | n+1=>fun l=>l.flatMap fun (s:StN (n+1))=>jmS s :: (jla s).flatMap (jmQ n)
theorem jg3{l:List (StN 0)}:l=[]:=by
 cases l with
 | nil=>rfl
 | cons e _=>exact nomatch (show Empty from e)
theorem jbN{x y:List D}(h:Held H (Nd.ite a b c x y).toD v):∃t u p q xs ys,v=.ref t/\H t=some (.tup [.str "if",u,.ref p,.ref q])/\Held H (Cl.least a b c).toD u/\H p=some (.tup xs)/\HeldL H x xs/\H q=some (.tup ys)/\HeldL H y ys:=by
 obtain⟨t,us,rfl,ht,h1⟩:=jF h;obtain⟨v1,r1,rfl,e1,h2⟩:=jk h1;obtain⟨v2,r2,rfl,e2,h3⟩:=jk h2;obtain⟨v3,r3,rfl,e3,h4⟩:=jk h3;obtain⟨v4,r4,rfl,e4,h5⟩:=jk h4
 cases jR h5
 cases jU e1
 obtain⟨p,xs,rfl,hp,hx⟩:=jF e3;obtain⟨q,ys,rfl,hq,hy⟩:=jF e4;exact⟨t,v2,p,q,xs,ys,rfl,ht,e2,hp,hx,hq,hy⟩
theorem jbh{ks:List Cl}{x:List D}(h:Held H (Nd.whl a b c ks x).toD v):∃t u p q xs ys,v=.ref t/\H t=some (.tup [.str "while",u,.ref p,.ref q])/\Held H (Cl.least a b c).toD u/\H p=some (.tup xs)/\HeldL H (ks.map Cl.toD) xs/\H q=some (.tup ys)/\HeldL H x ys:=by
 obtain⟨t,us,rfl,ht,h1⟩:=jF h;obtain⟨v1,r1,rfl,e1,h2⟩:=jk h1;obtain⟨v2,r2,rfl,e2,h3⟩:=jk h2;obtain⟨v3,r3,rfl,e3,h4⟩:=jk h3;obtain⟨v4,r4,rfl,e4,h5⟩:=jk h4
 cases jR h5
 cases jU e1
 obtain⟨p,xs,rfl,hp,hx⟩:=jF e3;obtain⟨q,ys,rfl,hq,hy⟩:=jF e4;exact⟨t,v2,p,q,xs,ys,rfl,ht,e2,hp,hx,hq,hy⟩
def Nd.cls:Nd->List Cl
 | .leaf (.claim C)=>[C]
 | .leaf _=>[]
 | .ite a b c _ _=>[.least a b c]
 | .whl a b c ks _=>.least a b c :: ks
end LW
namespace L2
open PySem PySem.Spec PyProof.Rows PySem.W PySem.Builtin PySem.Builtin.Str
variable {a b:Str}
section
variable {X:Cx}
def rIs(f:Str->Bool):V->List V->Hp->VK->Prop:=fun x xs H Q=>∃z,x=.str z/\xs=[]/\Q (.bl (f z)) H
def jmt(f:Str->Str->Bool):V->List V->Hp->VK->Prop:=fun x xs H Q=>∃z y,x=.str z/\xs=[.str y]/\Q (.bl (f z y)) H
theorem jad:MtR X "str.isascii" (rIs ce):=by
 intro ac s σ H x xs v us Q I rx rs h;obtain⟨z,rfl,rfl,q⟩:=h;obtain⟨t,rfl⟩:=rx
 cases rs
 exact SC.isascii ⟨.bl _,H,I,rfl,q⟩
theorem jdV:MtR X "str.isalpha" (rIs fu):=by
 intro ac s σ H x xs v us Q I rx rs h;obtain⟨z,rfl,rfl,q⟩:=h;obtain⟨t,rfl⟩:=rx
 cases rs
 exact SC.isalpha ⟨.bl _,H,I,rfl,q⟩
theorem jdT:MtR X "str.islower" (rIs fq):=by
 intro ac s σ H x xs v us Q I rx rs h;obtain⟨z,rfl,rfl,q⟩:=h;obtain⟨t,rfl⟩:=rx
 cases rs
 exact SC.islower ⟨.bl _,H,I,rfl,q⟩
theorem jdU:MtR X "str.isdigit" (rIs iL):=by
 intro ac s σ H x xs v us Q I rx rs h;obtain⟨z,rfl,rfl,q⟩:=h;obtain⟨t,rfl⟩:=rx
 cases rs
 exact SC.isdigit ⟨.bl _,H,I,rfl,q⟩
theorem KK:MtR X "str.startswith" (jmt lZ):=by
 intro ac s σ H x xs v us Q I rx rs h;obtain⟨z,y,rfl,rfl,q⟩:=h;obtain⟨t,rfl⟩:=rx;obtain⟨u,rfl,t',rfl⟩:=zh rs;exact SC.startswith ⟨.bl _,H,I,rfl,q⟩
theorem Zf:MtR X "str.endswith" (jmt l0):=by
 intro ac s σ H x xs v us Q I rx rs h;obtain⟨z,y,rfl,rfl,q⟩:=h;obtain⟨t,rfl⟩:=rx;obtain⟨u,rfl,t',rfl⟩:=zh rs;exact SC.endswith ⟨.bl _,H,I,rfl,q⟩
theorem jaT:MtR X "str.strip" (fun x xs H Q=>∃z y,x=.str z/\xs=[.str y]/\z.length≤au/\Q (.str (lY z y)) H):=by
 intro ac s σ H x xs v us Q I rx rs h;obtain⟨z,y,rfl,rfl,hz,q⟩:=h;obtain⟨t,rfl⟩:=rx;obtain⟨u,rfl,t',rfl⟩:=zh rs;exact SC.stripChars (fun t2 k=>⟨.str _,H,I.kept (t':=k) fun b o e=>e,⟨t2,rfl⟩,q⟩) hz
theorem Yl{ac:List (Addr×Obj)}{σ:St}{H:Hp}{s:Shared}{c:Str}{ta tb tc:Tok}{k:Nat}(I:Inv X ac σ H s):Inv X ac σ (upd H s.heap.objs.size (.tup [.str a,.str b,.str c])) { s with heap:=s.heap.push { cls:=.type "tuple",data:=.seq [Value.str a ta,.str b tb,.str c tc].toArray },toks:=k }:=
 I.laid (fun _ _ q=>bc _ q) (av _) ⟨bE (ky (show 3≤1000 by decide)),_,.cons ⟨_,rfl⟩ (.cons ⟨_,rfl⟩ (.cons ⟨_,rfl⟩ .nil)),⟨_,bM _ rfl,rfl,_,rfl⟩⟩
def jkQ(f:Str->Str->Str×Str×Str):V->List V->Hp->VK->Prop:=fun x xs H Q=>∃z y,x=.str z/\xs=[.str y]/\(y.length == 0)=false/\z.length≤au/\∀p,H p=none->Q (.ref p) (upd H p (.tup [.str (f z y).1,.str (f z y).2.1,.str (f z y).2.2]))
theorem qM:MtR X "str.partition" (jkQ gu):=by
 intro ac s σ H x xs v us Q I rx rs h;obtain⟨z,y,rfl,rfl,hy,hz,q⟩:=h;obtain⟨t,rfl⟩:=rx;obtain⟨u,rfl,t',rfl⟩:=zh rs;refine cn eJ (eo _ _ _) PySem.F.entry_str_partition (PySem.F.args_str_partition_2 _ _) (meets_str_partition z y t t' hy hz) ?_;have q1:=q s.heap.objs.size I.fresh;unfold gu at q1;revert q1
 cases occurrences z y 0 z.length 1 with
 | nil=>intro q1;exact⟨.ref _,_,Yl I,rfl,q1⟩
 | cons i r=>intro q1;exact⟨.ref _,_,Yl I,rfl,q1⟩
theorem KL:MtR X "str.rpartition" (jkQ gt):=by
 intro ac s σ H x xs v us Q I rx rs h;obtain⟨z,y,rfl,rfl,hy,hz,q⟩:=h;obtain⟨t,rfl⟩:=rx;obtain⟨u,rfl,t',rfl⟩:=zh rs;refine cn mj (eo _ _ _) PySem.F.entry_str_rpartition (PySem.F.args_str_rpartition_2 _ _) (meets_str_rpartition z y t t' hy hz) ?_;have q1:=q s.heap.objs.size I.fresh;unfold gt at q1;revert q1
 cases lastOccurrence z y 0 z.length with
 | none=>intro q1;exact⟨.ref _,_,Yl I,rfl,q1⟩
 | some i=>intro q1;exact⟨.ref _,_,Yl I,rfl,q1⟩
end
def yZ(z:Str)(lo hi:Option Int):Str:=⟨((z.cps.toList.drop (HT.sIx z.length 0 lo)).take (HT.sIx z.length z.length hi - HT.sIx z.length 0 lo)).toArray⟩
theorem zR(h:a.cps.toList=b.cps.toList):a=b:=by
 cases a;cases b
 congr 1;exact Array.toList_inj.mp h
theorem zM(z:Str)(lo hi:Option Int):(yZ z lo hi).cps.toList=(z.cps.toList.drop (HT.sIx z.length 0 lo)).take (HT.sIx z.length z.length hi - HT.sIx z.length 0 lo):=rfl
theorem KF(z:Str)(lo hi:Option Int):(yZ z lo hi).length≤z.length:=by
 show ((z.cps.toList.drop (HT.sIx z.length 0 lo)).take (HT.sIx z.length z.length hi - HT.sIx z.length 0 lo)).toArray.size≤z.length;rw[aZ,cA,cB];have:z.cps.toList.length=z.length:=by simp[fX]
 omega
theorem jmm(lo hi:Option Int)(n:Nat):mx lo hi 1 n=(b9 (HT.sIx n n hi - HT.sIx n 0 lo)).map (HT.sIx n 0 lo+·):=by
 have e:mx lo hi 1 n=sliceRange ((HT.sIx n 0 lo:Nat):Int) ((HT.sIx n n hi:Nat):Int) 1:=by
  unfold mx
  cases lo with
  | none=>
   cases hi with
   | none=>simp[HT.sIx]
   | some i=>
    simp only[HT.sIx,show (1:Int) > 0 by decide,if_true];congr 1;by_cases h:i < 0
    ·simp only[h,if_true];omega
    ·simp only[h,if_false];omega
  | some j=>
   have ej:max 0 (min (if j < 0 then j+(n:Int) else j) (n:Int))=((HT.sIx n 0 (some j):Nat):Int):=by
    simp only[HT.sIx];by_cases h:j < 0
    ·simp only[h,if_true];omega
    ·simp only[h,if_false];omega
   cases hi with
   | none=>
    simp only[show (1:Int) > 0 by decide,if_true,HT.sIx_none];rw[ej]
   | some i=>
    have ei:max 0 (min (if i < 0 then i+(n:Int) else i) (n:Int))=((HT.sIx n n (some i):Nat):Int):=by
     simp only[HT.sIx];by_cases h:i < 0
     ·simp only[h,if_true];omega
     ·simp only[h,if_false];omega
    simp only[show (1:Int) > 0 by decide,if_true];rw[ej,ei]
 rw[e,sliceRange_one]
theorem YV{X:Cx}:SlR X (fun x lo hi H Q=>∃z,x=.str z/\z.length≤au/\Q (.str (yZ z lo hi)) H):=by
 intro ac s σ H x v vl vu lo hi sl Q I rx hs pl pu h;obtain⟨z,rfl,hz,q⟩:=h;obtain⟨t,rfl⟩:=rx;obtain⟨l,hl1,hl2⟩:∃l:Option (Int×Tok),vl=partValue l/\l.map (·.1)=lo:=by
  cases pl with
  | none=>exact⟨none,rfl,rfl⟩
  | int i t=>exact⟨some (i,t),rfl,rfl⟩
 obtain⟨u,hu1,hu2⟩:∃l:Option (Int×Tok),vu=partValue l/\l.map (·.1)=hi:=by
  cases pu with
  | none=>exact⟨none,rfl,rfl⟩
  | int i t=>exact⟨some (i,t),rfl,rfl⟩
 refine⟨"str",_,pP.lookup,eo s z t,?_⟩;obtain⟨o,h1,h2,h3⟩:=hs;have hsl:s.heap.IsSlice sl l u none:=⟨o,h1,h2,by rw[h3,hl1,hu1];rfl⟩
 refine wpAny_getItem_str_slice hsl rfl ?_;have hp:slicePicked z l u none=(b9 (HT.sIx z.length z.length hi - HT.sIx z.length 0 lo)).map (HT.sIx z.length 0 lo+·):=by
  unfold slicePicked;rw[hl2,hu2];exact jmm lo hi z.length
 have hn:z.cps.toList.length=z.length:=by simp[fX]
 unfold sliceMade;split
 ·rename_i hc
  rw[bg]at hc;have hc2:=m8 hc.2;rw[hp,ae,i7]at hc2;have hle:=HT.sIx_le z.length z.length (av _) hi;have hcz:yZ z lo hi=z:=by
   refine zR ?_;rw[zM];rw[hc2];by_cases h0:HT.sIx z.length 0 lo=0
   ·rw[h0,fL,← hn,cy]
   ·have:z.length=0:=by omega
    have:z.cps.toList=[]:=i8.mp (by omega);rw[this];simp
  rw[hcz]at q;exact⟨.str z,H,I,⟨t,rfl⟩,q⟩
 ·rw[hp,pick_run]
  exact⟨ad (KF z lo hi) hz,⟨.str (yZ z lo hi),H,I.tok _,⟨_,rfl⟩,q⟩⟩
open PySem PySem.Builtin PySem.Builtin.Str PySem.StrLaws PyProof.Rows
def cd(z:Str):List Nat:=z.cps.toList
def mS(l:List Nat):Str:=⟨l.toArray⟩
theorem qP(z:Str):mS (cd z)=z:=by cases z;rfl
theorem kX(l:List Nat):cd (mS l)=l:=rfl
theorem j3(z:Str):(cd z).length=z.length:=gg
theorem qE(l:List Nat):(mS l).length=l.length:=by simp[mS,fX]
theorem jY(a b:Str):cd (a++b)=cd a++cd b:=by unfold cd;rw[gw,dR]
theorem Kl(h:cd a=cd b):a=b:=by rw[← qP a,h,qP]
def kW(sep:List Nat):List Nat->Option (List Nat×List Nat)
 | []=>none
 | c :: l=>if sep.isPrefixOf (c :: l) then some ([],(c :: l).drop sep.length) else (kW sep l).map fun p=>(c :: p.1,p.2)
def kM(sep:List Nat):List Nat->Option (List Nat×List Nat)
 | []=>none
 | c :: l=>match kM sep l with
  | some p=>some (c :: p.1,p.2)
  | none=>if sep.isPrefixOf (c :: l) then some ([],(c :: l).drop sep.length) else none
theorem jeV{sep:List Nat}(h:sep≠[]){i:Nat}:¬sep <+: ([]:List Nat).drop i:=by
 rw[List.drop_nil];intro ⟨t,e⟩;exact h (List.append_eq_nil_iff.mp e).1
theorem Z4{sep:List Nat}(h:sep≠[]):∀{l:List Nat},kW sep l=none->∀i,¬sep <+: l.drop i
 | [],_,i=>jeV h
 | c :: l,e,i=>by
  unfold kW at e;split at e
  ·cases e
  ·rename_i hn
   cases i with
   | zero=>exact fun z=>hn (gc.mpr z)
   | succ i=>exact Z4 h (Option.map_eq_none_iff.mp e) i
theorem jeW{sep l:List Nat}(h:sep.isPrefixOf l=true):l=sep++l.drop sep.length:=by
 obtain⟨t,rfl⟩:=gc.mp h;rw[gX]
theorem zg{sep:List Nat}:∀{l a b:List Nat},kW sep l=some (a,b)->l=a++sep++b/\∀i < a.length,¬sep <+: l.drop i
 | [],_,_,e=>by cases e
 | c :: l,a,b,e=>by
  unfold kW at e;split at e
  ·rename_i hp
   cases e
   exact⟨jeW hp,fun i hi=>absurd hi (by simp)⟩
  ·rename_i hn
   obtain⟨⟨a',b'⟩,e1,e2⟩:=iW.mp e
   cases e2
   obtain⟨k1,k2⟩:=zg e1;refine⟨by rw[k1];rfl,fun i hi=>?_⟩
   cases i with
   | zero=>exact fun z=>hn (gc.mpr z)
   | succ i=>exact k2 i (by simpa using hi)
theorem J2{sep:List Nat}(h:sep≠[]):∀{l:List Nat},kM sep l=none->∀i,¬sep <+: l.drop i
 | [],_,i=>jeV h
 | c :: l,e,i=>by
  unfold kM at e;split at e
  ·cases e
  ·rename_i e1
   split at e
   ·cases e
   ·rename_i hn
    cases i with
    | zero=>exact fun z=>hn (gc.mpr z)
    | succ i=>exact J2 h e1 i
theorem zj{sep:List Nat}(h:sep≠[]):∀{l a b:List Nat},kM sep l=some (a,b)->l=a++sep++b/\∀i,a.length < i->¬sep <+: l.drop i
 | [],_,_,e=>by cases e
 | c :: l,a,b,e=>by
  unfold kM at e;split at e
  ·rename_i p e1
   cases e
   obtain⟨k1,k2⟩:=zj h (a:=p.1) (b:=p.2) e1;refine⟨by rw[k1];rfl,fun i hi=>?_⟩
   cases i with
   | zero=>exact absurd hi (by simp)
   | succ i=>exact k2 i (by simpa using hi)
  ·rename_i e1
   split at e
   ·rename_i hp
    cases e
    refine⟨jeW hp,fun i hi=>?_⟩
    cases i with
    | zero=>exact absurd hi (by simp)
    | succ i=>exact J2 h e1 i
   ·cases e
variable {x y:Str}
theorem Kn{i:Nat}(h:cd y≠[]):(i+y.length≤x.length/\subAt x y i=true)↔cd y <+: (cd x).drop i:=by
 rw[subAt_eq,rz,beq_iff_eq,show (cd y).length=y.length from j3 y];constructor
 ·rintro⟨h1,h2⟩
  exact h2.symm
 ·intro h2
  have h3:=congrArg cC h2;rw[cA,cB,j3,j3]at h3;have:0 < y.length:=by rw[← j3];exact rJ.mpr h
  exact⟨by omega,h2.symm⟩
theorem jcI(s sub:Str)(hi:Nat):∀(l:List Nat) (st:Array Nat×Nat),st.fst.size=1->(forIn l st (fv s sub hi 1)).run.fst=st.fst
 | [],st,h=>rfl
 | a :: l,st,h=>by
  rw[k_];unfold fv;rw[if_neg (fun z=>by have:=z.1.1.1;omega)];exact jcI s sub hi l _ h
theorem jaS(s sub:Str)(hi i:Nat):∀(l:List Nat) (free:Nat),i∈l->l.Pairwise (· < ·)->(∀k∈l,free≤k)->(i+sub.length≤hi/\subAt s sub i=true)->(∀k∈l,k < i->¬(k+sub.length≤hi/\subAt s sub k=true))->(forIn l ((#[]:Array Nat),free) (fv s sub hi 1)).run.fst=#[i]
 | [],_,h,_,_,_,_=>nomatch h
 | a :: l,free,hm,hp,hf,hA,hn=>by
  rw[k_];have hp':=rC.mp hp;by_cases e:a=i
  ·subst e
   unfold fv;rw[if_pos ⟨⟨⟨by simp,hf a (am ..)⟩,hA.1⟩,hA.2⟩];exact jcI s sub hi l _ rfl
  ·have hm':i∈l:=by
    rcases ak.mp hm with z | z
    ·exact absurd z.symm e
    ·exact z
   have hlt:=hp'.1 i hm';have h0:=hn a (am ..) hlt;unfold fv;rw[if_neg (fun z=>h0 ⟨z.1.2,z.2⟩)];exact jaS s sub hi i l free hm' hp'.2 (fun k hk=>hf k (ao _ hk)) hA fun k hk=>hn k (ao _ hk)
theorem jif(h:cd y≠[]):occurrences x y 0 x.length 1=match kW (cd y) (cd x) with | some p=>[p.1.length] | none=>[]:=by
 cases e:kW (cd y) (cd x) with
 | none=>
  have h0:=Z4 h e;have h1:=found_iff x y
  cases e2:occurrences x y 0 x.length 1 with
  | nil=>rfl
  | cons i r=>
   rw[e2]at h1;obtain⟨j,hj⟩:=h1.mp rfl;exact absurd ((Kn h).mp hj) (h0 j)
 | some p=>
  obtain⟨k1,k2⟩:=zg (a:=p.1) (b:=p.2) e;have hA:cd y <+: (cd x).drop p.1.length:=by rw[k1,aG,gX];exact rA ..
  have hA':=(Kn h).mpr hA;rw[occ_eq,jaS x y x.length p.1.length _ 0 (by rw[rD];exact⟨p.1.length,by omega,by omega⟩) (by simpa using rB (s:=0) (n:=x.length+1 - 0)) (fun _ _=>bm _) hA' fun k _ hk z=>k2 k hk ((Kn h).mp z)]
theorem jdq(x:Str)(i j:Nat):fF x i j=mS (((cd x).drop i).take (j - i)):=Kl (strSub_toList x i j)
theorem ja4{a b:List Nat}(e:cd x=a++cd y++b):fF x 0 a.length=mS a/\fF x (a.length+y.length) x.length=mS b:=by
 rw[jdq,jdq,← j3 x,e];constructor
 ·rw[fL,aG,gJ,rm]
 ·have e1:a.length+y.length=(a++cd y).length:=by rw[af,j3]
  rw[e1,gX,de (by rw[af];omega)]
theorem je0(h:cd y≠[]):gu x y=match kW (cd y) (cd x) with | some p=>(mS p.1,y,mS p.2) | none=>(x,aV,aV):=by
 unfold gu;rw[jif h]
 cases e:kW (cd y) (cd x) with
 | none=>rfl
 | some p=>
  obtain⟨k1,k2⟩:=zg (a:=p.1) (b:=p.2) e;obtain⟨e1,e2⟩:=ja4 k1;show (fF x 0 p.1.length,y,fF x (p.1.length+y.length) x.length)=_;rw[e1,e2]
theorem jcw(h:cd y≠[]):gt x y=match kM (cd y) (cd x) with | some p=>(mS p.1,y,mS p.2) | none=>(aV,aV,x):=by
 unfold gt
 cases e:kM (cd y) (cd x) with
 | none=>
  have h0:=J2 h e;rcases last_spec x y with⟨e1,_⟩ | ⟨i,_,hA,_⟩
  ·rw[e1]
  ·exact absurd ((Kn h).mp hA) (h0 i)
 | some p=>
  obtain⟨k1,k2⟩:=zj h (a:=p.1) (b:=p.2) e;have hA:cd y <+: (cd x).drop p.1.length:=by rw[k1,aG,gX];exact rA ..
  rcases last_spec x y with⟨_,h1⟩ | ⟨i,e1,hI,h1⟩
  ·exact absurd ((Kn h).mpr hA) (h1 _)
  ·have:i=p.1.length:=by
    rcases Nat.lt_trichotomy i p.1.length with z | z | z
    ·exact absurd ((Kn h).mpr hA) (h1 _ z)
    ·exact z
    ·exact absurd ((Kn h).mp hI) (k2 _ z)
   subst this;obtain⟨e2,e3⟩:=ja4 k1;rw[e1];show (fF x 0 p.1.length,y,fF x (p.1.length+y.length) x.length)=_;rw[e2,e3]
def kS(l:List Nat):List Nat:=((l.dropWhile (· == 32)).reverse.dropWhile (· == 32)).reverse
theorem KB{p:Nat->Bool}:∀l:List Nat,l.drop (l.takeWhile p).length=l.dropWhile p
 | []=>rfl
 | a :: l=>by
  rw[List.takeWhile_cons,fM];split
  ·exact KB l
  ·rfl
theorem jg0{p:Nat->Bool}(l:List Nat):l.take (l.length - (l.reverse.takeWhile p).length)=(l.reverse.dropWhile p).reverse:=by
 rw[← KB l.reverse,List.drop_reverse,mO]
theorem jcl(z:Str):lY z (aa " ")=mS (kS (cd z)):=by
 have hg:(aa " ").cps.contains=fun c:Nat=>c == 32:=by
  funext c;show (#[32]:Array Nat).contains c=_;simp;rfl
 unfold lY;rw[hg,PyProof.Rows.stripBy_eq,jdq];unfold stripLo stripHi kS;simp only[if_true];show mS (List.take (z.length - _ - ((cd z).takeWhile _).length) ((cd z).drop ((cd z).takeWhile _).length))=_;rw[← jg0];congr 2
 ·show z.length - ((mZ ((cd z).takeWhile _).length (cd z)).reverse.takeWhile _).length - _=_
  rw[KB,← j3];have h1:(cd z).length=((cd z).takeWhile fun c=>c == 32).length+((cd z).dropWhile fun c=>c == 32).length:=by
   rw[← af,List.takeWhile_append_dropWhile]
  omega
 ·exact KB _
end L2
namespace LW
open PySem L2 PySem.NumText
def zK:List Str:=["each","rise","to","proc","need","give","back","any","claim","if","else","end","while","keep","call"]
def yB(c:Nat):Bool:=decide (97≤c) && decide (c≤122)
def yG(c:Nat):Bool:=decide (48≤c) && decide (c≤57)
def j7(l:List Nat):Bool:=!l.isEmpty && l.all yB && decide (l.length≤8) && !(zK.map cd).contains l
def zV(l:List Nat):Bool:=!l.isEmpty && l.all yG && decide (l.length≤19) && (l == [48] || !(l.head? == some 48))
def Yb(l:List Nat):Bool:=if l.head?=some 45 then zV l.tail && !(l.tail == [48]) else zV l
def jbi(l:List Nat):Int:=if l.head?=some 45 then -((digitsVal l.tail:Nat):Int) else ((digitsVal l:Nat):Int)
def zX(q:Nat)(l:List Nat):Option (List Nat×List Nat):=match kM [32,q,32] l with
 | some p=>if zV p.2 && !(p.2 == [48]) then some p else none
 | none=>none
def qq(l:List Nat):List Nat×Int:=match zX 43 l with
 | some p=>(p.1,((digitsVal p.2:Nat):Int))
 | none=>match zX 45 l with
  | some p=>(p.1,-((digitsVal p.2:Nat):Int))
  | none=>(l,0)
def yU(l:List Nat):Option (Str×Int):=if Yb l then some (aa "",jbi l) else if j7 (qq l).1 then some (mS (qq l).1,(qq l).2) else none
def ya(l:List Nat):Option Tm:=match kW [91] l with
 | none=>if j7 l then some (.is (mS l)) else none
 | some p=>if p.2.getLast? == some 93 then if j7 p.1 then (yU p.2.dropLast).map fun q=>.at_ (mS p.1) q.1 q.2 else none else none
def Yn(l:List Nat):Option (Tm×Int):=if Yb l then some (.is (aa ""),jbi l) else (ya (qq l).1).map fun t=>(t,(qq l).2)
def Yh(l:List Nat):Option (Bd×Int):=
 if Yb l then some (.is (aa ""),jbi l)
 else if [91,93].isSuffixOf (qq l).1 then if j7 ((qq l).1.take ((qq l).1.length - 2)) then some (.row (mS ((qq l).1.take ((qq l).1.length - 2))),(qq l).2) else none
 else if j7 (qq l).1 then some (.is (mS (qq l).1),(qq l).2) else none
def Zd(l:List Nat):Option Tm:=if l=[48] then some (.is (aa "")) else ya l
def prt(sep l:List Nat):List Nat×List Nat:=(kW sep l).getD (l,[])
def Zn(sep l:List Nat):List Nat×List Nat:=(kM sep l).getD ([],l)
structure Rch where
 t:Str×Int
 u:Str×Int
 r:Str
def J4(l:List Nat):Option Rch:=match yU (prt [32,116,111,32] l).1 with
 | none=>none
 | some t=>match yU (Zn [32] (prt [32,116,111,32] l).2).1 with
  | none=>none
  | some u=>if j7 (Zn [32] (prt [32,116,111,32] l).2).2 then some ⟨t,u,mS (Zn [32] (prt [32,116,111,32] l).2).2⟩ else none
def jax(l:List Nat):Str:=if (kW [32,60,61,32] l).isSome then aa "<=" else aa ">="
def jc5(l:List Nat):Option Cl:=match J4 (prt (32 :: (cd (jax l)++[32])) l).1 with
 | none=>none
 | some k=>match Yh (prt (32 :: (cd (jax l)++[32])) l).2 with
  | none=>none
  | some b=>some (.each k.t.1 k.t.2 k.u.1 k.u.2 k.r (jax l) b.1 b.2)
def jaM(l:List Nat):Option Cl:=match J4 l with
 | none=>none
 | some k=>some (.rise k.t.1 k.t.2 k.u.1 k.u.2 k.r)
def yb(l:List Nat):Option Cl:=match Yn (prt [32,62,61,32] l).2 with
 | none=>none
 | some t=>match Zd (prt [32,62,61,32] l).1 with
  | none=>none
  | some x=>some (.least x t.1 t.2)
def qZ(l:List Nat):Option Cl:=
 if (prt [32] l).1=[101,97,99,104] then jc5 (prt [32] l).2
 else if (prt [32] l).1=[114,105,115,101] then jaM (prt [32] l).2
 else yb l
def dg(m:Nat):List Nat:=(gH 10 m).map fN
def Kh(i:Int):List Nat:=if i < 0 then 45 :: dg i.natAbs else dg i.natAbs
def ku(x:List Nat)(c:Int):List Nat:=if x=[] then Kh c else if 0 < c then x++32 :: 43 :: 32 :: dg c.natAbs else if c < 0 then x++32 :: 45 :: 32 :: dg c.natAbs else x
def qh:Tm->List Nat
 | .is x=>if cd x=[] then [48] else cd x
 | .at_ r x d=>cd r++91 :: (ku (cd x) d++[93])
def zi(t:Tm)(c:Int):List Nat:=match t with
 | .is x=>ku (cd x) c
 | .at_ r x d=>ku (qh (.at_ r x d)) c
def yI(b:Bd)(c:Int):List Nat:=match b with
 | .is x=>ku (cd x) c
 | .row r=>ku (cd r++[91,93]) c
def qJ(x:Str)(d:Int)(y:Str)(e:Int)(r:Str):List Nat:=ku (cd x) d++32 :: 116 :: 111 :: 32 :: (ku (cd y) e++32 :: cd r)
def zC:Cl->List Nat
 | .least a b c=>qh a++32 :: 62 :: 61 :: 32 :: zi b c
 | .rise x d y e r=>114 :: 105 :: 115 :: 101 :: 32 :: qJ x d y e r
 | .each x d y e r way b c=>101 :: 97 :: 99 :: 104 :: 32 :: (qJ x d y e r++32 :: (cd way++32 :: yI b c))
theorem jiT(m:Nat):∀c∈dg m,yG c=true:=by
 intro c hc;obtain⟨ch,hch,rfl⟩:=b_.mp hc;have r:=PyProof.Rows.digit_range (Nat.isDigit_of_mem_toDigits (by decide) (by decide) hch);unfold yG;rw[decide_eq_true r.1,decide_eq_true r.2];rfl
theorem jfn(m:Nat):dg m≠[]:=fun h=>Nat.toDigits_ne_nil (List.map_eq_nil_iff.mp h)
theorem jlZ{m:Nat}(h:m < 10 ^ 19):(dg m).length≤19:=by
 unfold dg;rw[ae];exact (rf (b:=10) (by decide) (by decide)).mpr h
theorem jbZ(m:Nat):digitsVal (dg m)=m:=PySem.W.KIN.val_back m
theorem jgE:∀c:Nat,c < 10->0 < c->(Nat.digitChar c).toNat≠48:=by decide
theorem jfo(m:Nat)(h:0 < m):(dg m).head?≠some 48:=by
 induction m using Nat.strongRecOn with
 | _ m ih=>
  by_cases h9:m < 10
  ·unfold dg
   rw[Nat.toDigits_of_lt_base h9];intro e;exact jgE m h9 h (by simpa using e)
  ·have hm:m % 10 < 10:=gK m (by decide)
   have t:gH 10 (m / 10)++gH 10 (m % 10)=gH 10 (10 * (m / 10)+m % 10):=Nat.toDigits_append_toDigits (by decide) (by omega) hm;rw[Nat.div_add_mod]at t;have i:=ih (m / 10) (by omega) (by omega);have n:=jfn (m / 10);unfold dg at i n ⊢;rw[← t,aH]
   cases e:(gH 10 (m / 10)).map fN with
   | nil=>exact absurd e n
   | cons a l=>rw[e]at i;exact i
theorem jee{m:Nat}(h:m < 10 ^ 19):zV (dg m)=true:=by
 unfold zV;rw[bR.mpr (jiT m),decide_eq_true (jlZ h)];have h1:(dg m).isEmpty=false:=by rw[rL];exact jfn m
 rw[h1];rcases rh m with rfl | hp
 ·rfl
 ·rw[show ((dg m).head? == some 48)=false from beq_eq_false_iff_ne.mpr (jfo m hp)]
  simp
theorem jiS{m:Nat}(h:0 < m):(dg m == [48])=false:=beq_eq_false_iff_ne.mpr fun e=>jfo m h (by rw[e];rfl)
variable {c:Nat}
theorem jlY{k:Nat}(h:yG c=true)(hk:yG k=false):c≠k:=fun e=>by rw[e,hk]at h;cases h
theorem zL{m k:Nat}(hk:yG k=false):k ∉ dg m:=fun h=>jlY (jiT m k h) hk rfl
theorem jl0{m k:Nat}(hk:yG k=false):(dg m).head?≠some k:=fun h=>zL hk (List.mem_of_mem_head? h)
theorem jbP{i:Int}(h:i.natAbs < 10 ^ 19):Yb (Kh i)=true/\jbi (Kh i)=i:=by
 unfold Kh Yb jbi;split
 ·rename_i hi
  simp only[List.head?_cons,if_true,rq];rw[jee h,jiS (by omega),jbZ];exact⟨rfl,by omega⟩
 ·rw[if_neg (jl0 rfl),if_neg (jl0 rfl),jee h,jbZ]
  exact⟨rfl,by omega⟩
variable {l:List Nat}
theorem Z8(h:j7 l=true):l≠[]:=by
 rintro rfl;exact absurd h (by decide)
theorem jdR(h:j7 l=true):∀c∈l,yB c=true:=by
 unfold j7 at h;simp only[bg]at h;exact bR.mp h.1.1.2
theorem jdZ{k:Nat}(h:yB c=true)(hk:yB k=false):c≠k:=fun e=>by rw[e,hk]at h;cases h
theorem qL{k:Nat}(h:j7 l=true)(hk:yB k=false):k ∉ l:=fun z=>jdZ (jdR h k z) hk rfl
theorem ZB(h:yB c=true):yG c=false:=by
 unfold yB at h;unfold yG;simp only[bg,decide_eq_true_eq]at h;rw[decide_eq_false (show ¬c≤57 by omega)];simp
theorem jbX(h:c∈l)(hc:yG c=false):zV l=false:=by
 unfold zV;have:l.all yG=false:=by
  rw[List.all_eq_false];exact⟨c,h,by rw[hc];decide⟩
 rw[this];simp
theorem jj7(h:c∈l)(hc:yG c=false)(h45:c≠45):Yb l=false:=by
 unfold Yb;split
 ·rename_i e
  cases l with
  | nil=>cases h
  | cons a l=>
   have e':a=45:=by simpa using e
   rcases ak.mp h with z | z
   ·exact absurd (z.trans e') h45
   ·rw[rq,jbX z hc]
    rfl
 ·exact jbX h hc
theorem jdC{sep:List Nat}{l u v:List Nat}:∀a:List Nat,kM sep l=some (u,v)->kM sep (a++l)=some (a++u,v)
 | [],h=>h
 | c :: a,h=>by
  show (match kM sep (a++l) with | some p=>some (c :: p.1,p.2) | none=>_)=_;rw[jdC a h];rfl
theorem jeM{sep:List Nat}(h:sep≠[])(hc:c∈sep)(hn:c ∉ l):kM sep l=none:=by
 cases e:kM sep l with
 | none=>rfl
 | some p=>
  obtain⟨k1,_⟩:=zj h (a:=p.1) (b:=p.2) e;rw[k1]at hn;exact absurd (bB _ (aT _ hc)) hn
theorem jbz{sep:List Nat}(hc:c∈sep)(hn:c ∉ l):kW sep l=none:=by
 cases e:kW sep l with
 | none=>rfl
 | some p=>
  obtain⟨k1,_⟩:=zg (a:=p.1) (b:=p.2) e;rw[k1]at hn;exact absurd (bB _ (aT _ hc)) hn
variable {b:List Nat}
theorem jlh(h:c ∉ b)(a:List Nat):kM [c] (a++c :: b)=some (a,b):=by
 have:kM [c] (c :: b)=some ([],b):=by
  unfold kM;rw[jeM (by simp) (aJ.mpr rfl) h];simp[fK]
 have:=jdC a this;rwa [bF]at this
variable {q:Nat}
theorem jhg(h:32 ∉ b)(hq:q≠32)(hh:b.head?≠some q)(a:List Nat):kM [32,q,32] (a++32 :: q :: 32 :: b)=some (a,b):=by
 have e0:=jeM (sep:=[32,q,32]) (by simp) (am ..) h;have e1:kM [32,q,32] (32 :: b)=none:=by
  unfold kM;rw[e0]
  cases b with
  | nil=>rfl
  | cons x b=>
   have:(q == x)=false:=beq_eq_false_iff_ne.mpr fun z=>hh (by rw[z];rfl)
   simp[fK,this]
 have e2:kM [32,q,32] (q :: 32 :: b)=none:=by
  unfold kM;rw[e1];have:(32 == q)=false:=beq_eq_false_iff_ne.mpr hq.symm;simp[fK,this]
 have e3:kM [32,q,32] (32 :: q :: 32 :: b)=some ([],b):=by
  unfold kM;rw[e2];simp[fK]
 have:=jdC a e3;rwa [bF]at this
theorem K7{p:Nat}{s l:List Nat}:∀{a:List Nat},p ∉ a->kW (p :: s) (a++l)=(kW (p :: s) l).map fun r=>(a++r.1,r.2)
 | [],_=>by simp
 | c :: a,h=>by
  have hc:(p == c)=false:=beq_eq_false_iff_ne.mpr fun z=>h (by rw[z];exact am ..)
  show (if (p :: s).isPrefixOf (c :: (a++l)) then _ else (kW (p :: s) (a++l)).map _)=_;rw[fK,hc,sr,if_neg aI,K7 (fun z=>h (ao _ z)),pX];rfl
theorem Js{p q:Nat}{s l:List Nat}(hpq:q≠p):∀{a:List Nat},q ∉ a->kW (p :: q :: s) (a++p :: l)=(kW (p :: q :: s) (p :: l)).map fun r=>(a++r.1,r.2)
 | [],_=>by simp
 | c :: a,h=>by
  have hx:∃x m,a++p :: l=x :: m/\(q == x)=false:=by
   cases a with
   | nil=>exact⟨p,l,rfl,beq_eq_false_iff_ne.mpr hpq⟩
   | cons y a=>exact⟨y,a++p :: l,rfl,beq_eq_false_iff_ne.mpr fun z=>h (by rw[z];exact ao _ (am ..))⟩
  obtain⟨x,m,e,hx⟩:=hx;have hf:(p :: q :: s).isPrefixOf (c :: (a++p :: l))=false:=by
   rw[e,fK,fK,hx];simp
  show (if (p :: q :: s).isPrefixOf (c :: (a++p :: l)) then _ else (kW (p :: q :: s) (a++p :: l)).map _)=_;rw[hf,if_neg aI,Js hpq (fun z=>h (ao _ z)),pX];rfl
theorem YA{p:Nat}{s:List Nat}:kW (p :: s) (p :: (s++b))=some ([],b):=by
 unfold kW;rw[if_pos (show (p :: s).isPrefixOf (p :: (s++b))=true from gc.mpr ⟨b,rfl⟩)];show some (([]:List Nat),((p :: s)++b).drop (p :: s).length)=_;rw[gX]
variable {a:List Nat}
theorem jhn(h:c ∉ a):kW [c] (a++c :: b)=some (a,b):=by
 rw[K7 h,show kW [c] (c :: b)=some ([],b) from YA (s:=[])];simp
theorem jaJ(h:l.getLast?=some c)(hc:yG c=false):zX q l=none:=by
 unfold zX
 cases e:kM [32,q,32] l with
 | none=>rfl
 | some p=>
  obtain⟨k1,_⟩:=zj (by simp) (a:=p.1) (b:=p.2) e;have:zV p.2=false:=by
   cases e2:p.2 with
   | nil=>rfl
   | cons x m=>
    refine jbX (c:=c) ?_ hc;rw[k1,e2,i_]at h;have:(x :: m).getLast?=some c:=by
     cases e3:(x :: m).getLast? with
     | none=>simp at e3
     | some y=>rw[e3]at h;exact h
    exact gO this
  show (if zV p.2 && !(p.2 == [48]) then some p else none)=none;rw[this];rfl
theorem jiZ(h:l.getLast?=some c)(hc:yG c=false):qq l=(l,0):=by
 unfold qq;rw[jaJ h hc,jaJ h hc]
theorem jeK{m:Nat}(hq:q=43∨q=45)(h0:0 < m)(h:m < 10 ^ 19)(a:List Nat):zX q (a++32 :: q :: 32 :: dg m)=some (a,dg m):=by
 unfold zX;rw[jhg (zL rfl) (by omega) (jl0 (by rcases hq with rfl | rfl <;> rfl)) a];show (if zV (dg m) && !(dg m == [48]) then some (a,dg m) else none)=_;rw[jee h,jiS h0];rfl
theorem jlX{x y u v:List Nat}(hu:32 ∉ u)(hv:32 ∉ v)(h:x++32 :: u=y++32 :: v):x=y/\u=v:=by
 rcases rX.mp h with⟨c,e1,e2⟩ | ⟨c,e1,e2⟩
 ·cases c with
  | nil=>rw[bF]at e1;cases e2;exact⟨e1.symm,rfl⟩
  | cons z c=>
   cases e2
   exact absurd (aT _ (am ..)) hu
 ·cases c with
  | nil=>rw[bF]at e1;cases e2;exact⟨e1,rfl⟩
  | cons z c=>
   cases e2
   exact absurd (aT _ (am ..)) hv
theorem jfi(h:zV l=true):∀c∈l,yG c=true:=by
 unfold zV at h;simp only[bg]at h;exact bR.mp h.1.1.2
theorem jdt{m:Nat}(a:List Nat):zX 43 (a++32 :: 45 :: 32 :: dg m)=none:=by
 unfold zX
 cases e:kM [32,43,32] (a++32 :: 45 :: 32 :: dg m) with
 | none=>rfl
 | some p=>
  obtain⟨k1,_⟩:=zj (by simp) (a:=p.1) (b:=p.2) e;have:zV p.2=false:=by
   cases e2:zV p.2 with
   | false=>rfl
   | true=>
    have k2:(a++[32,45])++32 :: dg m=(p.1++[32,43])++32 :: p.2:=by
     simpa using k1
    have:=(jlX (zL rfl) (fun z=>by have:=jfi e2 _ z;cases this) k2).1;have:=congrArg List.getLast? this;simp at this
  show (if zV p.2 && !(p.2 == [48]) then some p else none)=none;rw[this];rfl
theorem jkr{m:Nat}(h0:0 < m)(h:m < 10 ^ 19)(a:List Nat):qq (a++32 :: 43 :: 32 :: dg m)=(a,(m:Int)):=by
 unfold qq;rw[jeK (.inl rfl) h0 h a];show (a,((digitsVal (dg m):Nat):Int))=_;rw[jbZ]
theorem jks{m:Nat}(h0:0 < m)(h:m < 10 ^ 19)(a:List Nat):qq (a++32 :: 45 :: 32 :: dg m)=(a,-(m:Int)):=by
 unfold qq;rw[jdt,jeK (.inr rfl) h0 h a];show (a,-((digitsVal (dg m):Nat):Int))=_;rw[jbZ]
theorem Kj{x:List Nat}{c:Int}{k:Nat}(hx:x.getLast?=some k)(hk:yG k=false)(hc:c.natAbs < 10 ^ 19):qq (ku x c)=(x,c):=by
 unfold ku;rw[if_neg (by rintro rfl;cases hx)];split
 ·rw[jkr (by omega) hc]
  congr 1;omega
 split
 ·rw[jks (by omega) hc]
  congr 1;omega
 ·rw[jiZ hx hk]
  congr 1;omega
theorem jio{x:List Nat}(hx:x≠[])(c:Int):∃m,ku x c=x++m:=by
 unfold ku;rw[if_neg hx];split
 ·exact⟨_,rfl⟩
 split
 ·exact⟨_,rfl⟩
 ·exact⟨[],(bF _).symm⟩
theorem Kb{x:List Nat}{k:Nat}(hx:k∈x)(hk:yB k=true)(c:Int):Yb (ku x c)=false:=by
 obtain⟨m,e⟩:=jio (List.ne_nil_of_mem hx) c;rw[e];exact jj7 (bB _ hx) (ZB hk) (jdZ hk rfl)
theorem Zz(h:j7 l=true):∃k,l.getLast?=some k/\yB k=true:=by
 have hn:=Z8 h;exact⟨l.getLast hn,gS hn,jdR h _ (gR hn)⟩
theorem je4(h:j7 l=true):∃k,k∈l/\yB k=true:=by
 obtain⟨k,h1,h2⟩:=Zz h;exact⟨k,gO h1,h2⟩
def NmE(x:Str):Prop:=x=aa ""∨j7 (cd x)=true
def Sml(d:Int):Prop:=d.natAbs < 10 ^ 19
variable {x:Str}{d:Int}
theorem K8(hx:NmE x)(hd:Sml d):yU (ku (cd x) d)=some (x,d):=by
 unfold yU;rcases hx with rfl | hx
 ·obtain⟨e1,e2⟩:=jbP hd
  rw[show ku (cd (aa "")) d=Kh d from rfl,if_pos e1,e2]
 ·obtain⟨k,k1,k2⟩:=Zz hx
  rw[if_neg (by rw[Kb (gO k1) k2];decide),Kj k1 (ZB k2) hd,if_pos hx,qP]
def TmF:Tm->Prop
 | .is x=>NmE x
 | .at_ r x d=>j7 (cd r)=true/\NmE x/\Sml d
def BdF:Bd->Prop
 | .is x=>NmE x
 | .row r=>j7 (cd r)=true
variable {r:Str}
theorem jab(hr:j7 (cd r)=true)(hx:NmE x)(hd:Sml d):ya (qh (.at_ r x d))=some (.at_ r x d):=by
 unfold ya;rw[show qh (.at_ r x d)=cd r++91 :: (ku (cd x) d++[93]) from rfl,jhn (qL hr rfl)];show (if (ku (cd x) d++[93]).getLast? == some 93 then if j7 (cd r) then (yU (ku (cd x) d++[93]).dropLast).map _ else none else none)=_;have hl:((ku (cd x) d++[93]).getLast? == some 93)=true:=by rw[i_];rfl
 rw[if_pos hl,if_pos hr,mY,K8 hx hd,qP];rfl
theorem jaa(hx:j7 (cd x)=true):ya (cd x)=some (.is x):=by
 unfold ya;rw[jbz (aJ.mpr rfl) (qL hx rfl)];show (if j7 (cd x) then some (Tm.is (mS (cd x))) else none)=_;rw[if_pos hx,qP]
theorem jde(r x:Str)(d:Int):(qh (.at_ r x d)).getLast?=some 93:=by
 show (cd r++91 :: (ku (cd x) d++[93])).getLast?=some 93;rw[← cO,← aG,i_];rfl
theorem Kq{t:Tm}{c:Int}(ht:TmF t)(hc:Sml c):Yn (zi t c)=some (t,c):=by
 unfold Yn
 cases t with
 | is x=>
  rcases (show NmE x from ht) with rfl | hx
  ·obtain⟨e1,e2⟩:=jbP hc
   rw[show zi (.is (aa "")) c=Kh c from rfl,if_pos e1,e2]
  ·obtain⟨k,k1,k2⟩:=Zz hx
   rw[show zi (.is x) c=ku (cd x) c from rfl,if_neg (by rw[Kb (gO k1) k2];decide),Kj k1 (ZB k2) hc,jaa hx];rfl
 | at_ r x d=>
  obtain⟨h1,h2,h3⟩:=ht;obtain⟨k,k1,k2⟩:=je4 h1;have hk:k∈qh (.at_ r x d):=bB _ k1;rw[show zi (.at_ r x d) c=ku (qh (.at_ r x d)) c from rfl,if_neg (by rw[Kb hk k2];decide),Kj (jde r x d) rfl hc,jab h1 h2 h3];rfl
theorem jav{t:Tm}(ht:TmF t):Zd (qh t)=some t:=by
 unfold Zd
 cases t with
 | is x=>
  rcases (show NmE x from ht) with rfl | hx
  ·rfl
  ·have e:qh (.is x)=cd x:=if_neg (Z8 hx)
   rw[e,if_neg (fun z=>by have:=qL hx (k:=48) rfl;rw[z]at this;exact this (aJ.mpr rfl)),jaa hx]
 | at_ r x d=>
  obtain⟨h1,h2,h3⟩:=ht;rw[if_neg (fun z=>by have:=jde r x d;rw[z]at this;exact absurd this (by decide)),jab h1 h2 h3]
theorem jel{b:Bd}{c:Int}(hb:BdF b)(hc:Sml c):Yh (yI b c)=some (b,c):=by
 unfold Yh
 cases b with
 | is x=>
  rcases (show NmE x from hb) with rfl | hx
  ·obtain⟨e1,e2⟩:=jbP hc
   rw[show yI (.is (aa "")) c=Kh c from rfl,if_pos e1,e2]
  ·obtain⟨k,k1,k2⟩:=Zz hx
   rw[show yI (.is x) c=ku (cd x) c from rfl,if_neg (by rw[Kb (gO k1) k2];decide),Kj k1 (ZB k2) hc];have:[91,93].isSuffixOf (cd x)=false:=by
    cases e:[91,93].isSuffixOf (cd x) with
    | false=>rfl
    | true=>
     obtain⟨t,e2⟩:=mV.mp e;exact absurd (by rw[← e2];simp) (qL hx (k:=91) rfl)
   rw[this,if_neg aI,if_pos hx,qP]
 | row r=>
  have hr:j7 (cd r)=true:=hb;obtain⟨k,k1,k2⟩:=je4 hr;rw[show yI (.row r) c=ku (cd r++[91,93]) c from rfl,if_neg (by rw[Kb (bB _ k1) k2];decide),Kj (k:=93) (by rw[i_];rfl) rfl hc];have e:(cd r++[91,93]).take ((cd r++[91,93]).length - 2)=cd r:=by
   rw[af,show (cd r).length+[91,93].length - 2=(cd r).length from rfl,rm]
  show (if [91,93].isSuffixOf (cd r++[91,93]) then if j7 ((cd r++[91,93]).take ((cd r++[91,93]).length - 2)) then some (Bd.row (mS ((cd r++[91,93]).take ((cd r++[91,93]).length - 2))),c) else none else _)=_;rw[e,if_pos (mV.mpr ⟨cd r,rfl⟩),if_pos hr,qP]
theorem Kz{i:Int}{k:Nat}(hk:yG k=false)(h45:k≠45):k ∉ Kh i:=by
 unfold Kh;split
 ·intro h
  rcases ak.mp h with z | z
  ·exact h45 z
  ·exact zL hk z
 ·exact zL hk
theorem jjn(hx:NmE x)(d:Int)(l:List Nat):kW [32,116,111,32] (ku (cd x) d++32 :: 116 :: 111 :: 32 :: l)=some (ku (cd x) d,l):=by
 have e0:kW [32,116,111,32] (32 :: 116 :: 111 :: 32 :: l)=some ([],l):=YA (s:=[116,111,32]);rcases hx with rfl | hx
 ·rw[show ku (cd (aa "")) d=Kh d from rfl,Js (by decide) (Kz rfl (by decide)),e0]
  simp
 ·unfold ku
  rw[if_neg (Z8 hx)];have hd:116 ∉ 32 :: 43 :: 32 :: dg d.natAbs:=fun h=>zL (k:=116) rfl (by simpa using h)
  have hd':116 ∉ 32 :: 45 :: 32 :: dg d.natAbs:=fun h=>zL (k:=116) rfl (by simpa using h)
  split
  ·rw[aG,K7 (qL hx rfl),Js (by decide) hd,e0]
   simp
  split
  ·rw[aG,K7 (qL hx rfl),Js (by decide) hd',e0]
   simp
  ·rw[K7 (qL hx rfl),e0]
   simp
variable {y:Str}{e:Int}
theorem Z3(hx:NmE x)(hd:Sml d)(hy:NmE y)(he:Sml e)(hr:j7 (cd r)=true):J4 (qJ x d y e r)=some ⟨(x,d),(y,e),r⟩:=by
 have e1:prt [32,116,111,32] (qJ x d y e r)=(ku (cd x) d,ku (cd y) e++32 :: cd r):=by
  unfold prt qJ;rw[jjn hx];rfl
 have e2:Zn [32] (ku (cd y) e++32 :: cd r)=(ku (cd y) e,cd r):=by
  unfold Zn;rw[jlh (qL hr rfl)];rfl
 unfold J4;rw[e1];dsimp only;rw[e2];dsimp only;rw[K8 hx hd,K8 hy he];dsimp only;rw[if_pos hr,qP]
def Pl(l:List Nat):Prop:=60 ∉ l/\62 ∉ l
theorem Pl.app(h:Pl a)(k:Pl b):Pl (a++b):=⟨fun z=>(aB.mp z).elim h.1 k.1,fun z=>(aB.mp z).elim h.2 k.2⟩
theorem Pl.cons{c:Nat}{a:List Nat}(h:Pl a)(h1:(60 == c)=false:=by decide)(h2:(62 == c)=false:=by decide):Pl (c :: a):=⟨fun z=>(ak.mp z).elim (beq_eq_false_iff_ne.mp h1) h.1,fun z=>(ak.mp z).elim (beq_eq_false_iff_ne.mp h2) h.2⟩
theorem jbC:Pl []:=⟨by simp,by simp⟩
theorem jkS(m:Nat):Pl (dg m):=⟨zL rfl,zL rfl⟩
theorem jlo(i:Int):Pl (Kh i):=⟨Kz rfl (by decide),Kz rfl (by decide)⟩
theorem jeX(h:j7 l=true):Pl l:=⟨qL h rfl,qL h rfl⟩
theorem YB{x:List Nat}(h:Pl x)(c:Int):Pl (ku x c):=by
 unfold ku;split
 ·exact jlo c
 split
 ·exact h.app (jkS _).cons.cons.cons
 split
 ·exact h.app (jkS _).cons.cons.cons
 ·exact h
theorem jhv(h:NmE x):Pl (cd x):=by
 rcases h with rfl | h
 ·exact jbC
 ·exact jeX h
theorem jcB{t:Tm}(h:TmF t):Pl (qh t):=by
 cases t with
 | is x=>
  show Pl (if cd x=[] then [48] else cd x);split
  ·exact jbC.cons
  ·exact jhv h
 | at_ r x d=>exact (jeX h.1).app (((YB (jhv h.2.1) d).app jbC.cons).cons)
theorem jhw{b:Bd}{c:Int}(h:BdF b):Pl (yI b c):=by
 cases b with
 | is x=>exact YB (jhv h) c
 | row r=>exact YB ((jeX h).app jbC.cons.cons) c
theorem jhu(hx:NmE x)(hy:NmE y)(hr:j7 (cd r)=true):Pl (qJ x d y e r):=(YB (jhv hx) d).app ((YB (jhv hy) e).app (jeX hr).cons).cons.cons.cons.cons
def ClF:Cl->Prop
 | .least a b c=>TmF a/\TmF b/\Sml c
 | .rise x d y e r=>NmE x/\Sml d/\NmE y/\Sml e/\j7 (cd r)=true
 | .each x d y e r way b c=>(NmE x/\Sml d/\NmE y/\Sml e/\j7 (cd r)=true)/\(way=aa ">="∨way=aa "<=")/\BdF b/\Sml c
theorem jka(h:j7 l=true):l≠[101,97,99,104]/\l≠[114,105,115,101]:=⟨by rintro rfl;exact absurd h (by decide),by rintro rfl;exact absurd h (by decide)⟩
theorem ym(a b:List Nat)(h:32 ∉ a):prt [32] (a++32 :: b)=(a,b):=by
 unfold prt;rw[jhn h];rfl
theorem jd6{t:Tm}(h:TmF t)(l:List Nat):(prt [32] (qh t++32 :: l)).1≠[101,97,99,104]/\(prt [32] (qh t++32 :: l)).1≠[114,105,115,101]:=by
 have key:∀{r m:List Nat},j7 r=true->(prt [32] (r++91 :: m)).1≠[101,97,99,104]/\(prt [32] (r++91 :: m)).1≠[114,105,115,101]:=by
  intro r m hr;have hm:91∈(prt [32] (r++91 :: m)).1:=by
   unfold prt;rw[K7 (qL hr rfl)]
   cases e:kW [32] (91 :: m) with
   | none=>exact aT _ (am ..)
   | some p=>
    obtain⟨k1,_⟩:=zg (a:=p.1) (b:=p.2) e;show 91∈r++p.1
    cases e2:p.1 with
    | nil=>rw[e2]at k1;cases k1
    | cons z a=>rw[e2]at k1;cases k1;exact aT _ (am ..)
  exact⟨fun z=>by rw[z]at hm;exact absurd hm (by decide),fun z=>by rw[z]at hm;exact absurd hm (by decide)⟩
 cases t with
 | is x=>
  rcases (show NmE x from h) with rfl | hx
  ·rw[show qh (.is (aa ""))=[48] from rfl,ym _ _ (by decide)]
   exact⟨(by decide:[48]≠[101,97,99,104]),(by decide:[48]≠[114,105,115,101])⟩
  ·have e:qh (.is x)=cd x:=if_neg (Z8 hx)
   rw[e,ym _ _ (qL hx rfl)];exact jka hx
 | at_ r x d=>
  have:=key (m:=(ku (cd x) d++[93])++32 :: l) h.1;rwa [← cO,← aG]at this
theorem Zv(hq:q≠32)(h:q ∉ a):prt [32,q,61,32] (a++32 :: q :: 61 :: 32 :: b)=(a,b):=by
 unfold prt;rw[Js hq h,show kW [32,q,61,32] (32 :: q :: 61 :: 32 :: b)=some ([],b) from YA (s:=[q,61,32])];simp
theorem jcU{t:Tm}(h:TmF t)(l:List Nat):qZ (qh t++32 :: 62 :: 61 :: 32 :: l)=match Yn l with | none=>none | some u=>some (.least t u.1 u.2):=by
 obtain⟨n1,n2⟩:=jd6 h (62 :: 61 :: 32 :: l);unfold qZ;rw[if_neg n1,if_neg n2];unfold yb;rw[Zv (by decide) (jcB h).2];dsimp only;rw[jav h]
theorem jeb{way:Str}(hx:NmE x)(hd:Sml d)(hy:NmE y)(he:Sml e)(hr:j7 (cd r)=true)(hw:way=aa ">="∨way=aa "<=")(hl:60 ∉ l):
  qZ (101 :: 97 :: 99 :: 104 :: 32 :: (qJ x d y e r++32 :: (cd way++32 :: l)))=match Yh l with | none=>none | some b=>some (.each x d y e r way b.1 b.2):=by
 have e0:prt [32] (101 :: 97 :: 99 :: 104 :: 32 :: (qJ x d y e r++32 :: (cd way++32 :: l)))=([101,97,99,104],qJ x d y e r++32 :: (cd way++32 :: l)):=ym [101,97,99,104] _ (by decide)
 have hp:=jhu (d:=d) (e:=e) hx hy hr
 have ew:jax (qJ x d y e r++32 :: (cd way++32 :: l))=way:=by
  unfold jax;rcases hw with rfl | rfl
  ·rw[jbz (c:=60) (by decide) (fun z=>(aB.mp z).elim hp.1 fun z=>hl (by simpa[show cd (aa ">=")=[62,61] from rfl]using z))]
   rfl
  ·rw[show 32 :: (cd (aa "<=")++32 :: l)=32 :: 60 :: 61 :: 32 :: l from rfl,Js (by decide) hp.1,show kW [32,60,61,32] (32 :: 60 :: 61 :: 32 :: l)=some ([],l) from YA (s:=[60,61,32])]
   rfl
 have e1:prt (32 :: (cd way++[32])) (qJ x d y e r++32 :: (cd way++32 :: l))=(qJ x d y e r,l):=by
  rcases hw with rfl | rfl
  ·exact Zv (by decide) hp.2
  ·exact Zv (by decide) hp.1
 unfold qZ
 rw[e0]
 dsimp only
 rw[if_pos rfl]
 unfold jc5
 rw[ew,e1]
 dsimp only
 rw[Z3 hx hd hy he hr]
theorem jdD(l:List Nat):qZ (114 :: 105 :: 115 :: 101 :: 32 :: l)=jaM l:=by
 unfold qZ;rw[show prt [32] (114 :: 105 :: 115 :: 101 :: 32 :: l)=([114,105,115,101],l) from ym [114,105,115,101] l (by decide)];dsimp only;rw[if_neg (by decide),if_pos rfl]
theorem Jv{C:Cl}(h:ClF C):qZ (zC C)=some C:=by
 cases C with
 | least a b c=>
  obtain⟨h1,h2,h3⟩:=h;rw[show zC (.least a b c)=qh a++32 :: 62 :: 61 :: 32 :: zi b c from rfl,jcU h1,Kq h2 h3]
 | rise x d y e r=>
  obtain⟨h1,h2,h3,h4,h5⟩:=h;rw[show zC (.rise x d y e r)=114 :: 105 :: 115 :: 101 :: 32 :: qJ x d y e r from rfl,jdD];unfold jaM;rw[Z3 h1 h2 h3 h4 h5]
 | each x d y e r way b c=>
  obtain⟨⟨h1,h2,h3,h4,h5⟩,h6,h7,h8⟩:=h;rw[show zC (.each x d y e r way b c)=101 :: 97 :: 99 :: 104 :: 32 :: (qJ x d y e r++32 :: (cd way++32 :: yI b c)) from rfl,jeb h1 h2 h3 h4 h5 h6 (jhw h7).1,jel h7 h8]
end LW
namespace L2
open PySem PySem.Spec PyProof.Rows
structure Fly(h0:Heap)(H:Hp)(cls:Value)(e:Addr)(h:Heap):Prop where
 he:H e=none
 ne:h0.get? e=none
 tr:∃oe vs T oT ts a0,h.get? e=some oe/\oe.cls=cls/\oe.data=.fields vs/\vs[0]?=some a0/\vs[1]?=some (.ref T)/\T≠e/\h.get? T=some oT/\oT.data=.fields ts/\ts[3]?=some .none/\H T=none/\h0.get? T=none
structure Left(fs:List Addr)(h0:Heap)(H:Hp)(h h':Heap):Prop where
 keep:∀b o,h.get? b=some o->b ∉ fs->(H b≠none∨∃u,h0.get? b=some u)->h'.get? b=some o
 slot:∀b o,h.get? b=some o->b∈fs->∃sl,h'.get? b=some { cls:=o.cls,dict:=o.dict,data:=o.data,slots:=sl }
theorem Y8{h base:Heap}:∀{l:List Env},h.FunFrames base l->∀b∈frs l,∃o,h.get? b=some o/\∀vs:Array Value,o.data≠.fields vs
 | [],_,b,hb=>by cases hb
 | env :: l,hf,b,hb=>by
  obtain⟨_,⟨L,o,e1,_,e3,e4⟩,hr⟩:=hf;unfold frs at hb;rw[dP,e1]at hb;rcases ak.mp hb with rfl | hb
  ·exact⟨o,e3,e4⟩
  ·exact Y8 hr b hb
theorem yE{h base B:Heap}:∀{l:List Env},h.FunFrames base l->(∀b∈frs l,B.get? b=none)->h.FunFrames B l
 | [],_,_=>trivial
 | env :: l,hf,hB=>by
  obtain⟨k,⟨L,o,e1,_,e3,e4⟩,hr⟩:=hf;have hm:L∈frs (env :: l):=by unfold frs;rw[dP,e1];exact am
  refine⟨k,⟨L,o,e1,hB L hm,e3,e4⟩,yE hr fun b hb=>hB b ?_⟩;unfold frs at hb ⊢;rw[dP,e1];exact ao _ hb
variable {H:Hp}{h':Heap}{a0:Value}
section
variable {M:Model}{A:Around}{E:Value->Shared->Prop}{s:Shared}{base h0:Heap}{env:Env}{outer:List Env}{L e:Addr}{cls:Value}{Q:Unit->Shared->Prop}
theorem jiJ{B:Heap}{l:List Env}{hs:List Addr}(he:H e=none)(ne:h0.get? e=none)(hB:B=fW s.heap hs)(hl:∀b∈hs,H b=none/\(b∈frs l∨h0.get? b=none))(hfr:h'.FunFrames base l)(hH:∀b,s.heap.get? b=none->H b=none/\h0.get? b=none)(tw:h'.TracedW B e cls a0):Fly h0 H cls e h':=by
 obtain⟨oe,vs,T,oT,ts,t1,⟨t2,t3⟩,t4,t5,t6,t7,t8,t9,t10⟩:=tw;have hT:H T=none/\h0.get? T=none:=by
  rcases hs':s.heap.get? T with _ | o
  ·exact hH T hs'
  ·by_cases hm:T∈hs
   ·refine⟨(hl T hm).1,?_⟩
    rcases (hl T hm).2 with hf | hf
    ·obtain⟨o',e1,e2⟩:=Y8 hfr T hf
     rw[t8]at e1
     cases e1
     exact absurd t9 (e2 ts)
    ·exact hf
   ·rw[hB,W.hideAll_get hs hs' hm]at t6
    cases t6
 exact⟨he,ne,oe,vs,T,oT,ts,a0,t1,t2,t4,t3,t5,t7,t8,t9,t10,hT.1,hT.2⟩
theorem je7{B:Heap}{l:List Env}{hs:List Addr}(hB:B=fW s.heap hs)(hl:∀b∈hs,b ∉ frs l->H b=none/\h0.get? b=none)(st:B.StaysIn h')(hfr:s.heap.FunFrames base l)
  (ks:∀b o,s.heap.get? b=some o->(∀vs:Array Value,o.data≠.fields vs)->∃sl,h'.get? b=some { cls:=o.cls,dict:=o.dict,data:=o.data,slots:=sl }):Left (frs l) h0 H s.heap h':=by
 refine⟨fun b o hb hf ho=>?_,fun b o hb hf=>?_⟩
 ·by_cases hm:b∈hs
  ·obtain⟨h1,h2⟩:=hl b hm hf
   rcases ho with ho | ⟨u,hu⟩
   ·exact absurd h1 ho
   ·rw[h2]at hu;cases hu
  ·exact st b o (by rw[hB];exact W.hideAll_get hs hb hm)
 ·obtain⟨o',e1,e2⟩:=Y8 hfr b hf
  rw[hb]at e1
  cases e1
  exact ks b o hb e2
theorem jd1(hA:A.frames=some (env :: outer))(hfr:s.heap.FunFrames base (env :: outer))(hL:env.frame=some L)(hF:Fly h0 H cls e s.heap)(hff:∀b∈frs (env :: outer),H b=none)(hH:∀b,s.heap.get? b=none->H b=none/\h0.get? b=none)
  (hQ:∀h',Left (frs (env :: outer)) h0 H s.heap h'->Fly h0 H cls e h'->h'.FunFrames base (env :: outer)->Q () { s with heap:=h' }) (hbs:∀b o,base.get? b=some o->b ∉ frs (env :: outer)/\∃u,h0.get? b=some u):wpAny M A (leaving env (.ref e)) Q E s:=by
 obtain⟨oe,vs,T,oT,ts,a0,t1,t2,t3,t4,t5,t6,t7,t8,t9,t10,t11⟩:=hF.tr
 have hB0:∀b∈e :: T :: frs (env :: outer),(fW s.heap (e :: T :: frs (env :: outer))).get? b=none:=fun b hb=>oo _ hb
 refine wpAny_leaving_nextW (base:=fW s.heap (e :: T :: frs (env :: outer))) (cls:=cls) (a0:=a0) hA (yE hfr fun b hb=>hB0 b (ao _ (ao _ hb))) hL ⟨oe,vs,T,oT,ts,t1,⟨t2,t4⟩,t3,t5,hB0 T (ao _ am),t6,t7,t8,t9⟩ (fun b o hb=>W.of_hideAll _ hb) (hB0 e am) ?_
 rintro h' ⟨l1,l2,l3,l4⟩
 have hfr':h'.FunFrames base (env :: outer):=yE l2 fun b hb=>by
  rcases hh:base.get? b with _ | o
  ·rfl
  ·exact absurd hb (hbs b o hh).1
 refine hQ h' (je7 rfl (fun b hb hf=>?_) l1 hfr l4) (jiJ (s:=s) (l:=env :: outer) hF.he hF.ne rfl (fun b hb=>?_) hfr' hH l3) hfr'
 ·rcases ak.mp hb with rfl | hb
  ·exact⟨hF.he,hF.ne⟩
  ·rcases ak.mp hb with rfl | hb
   ·exact⟨t10,t11⟩
   ·exact absurd hb hf
 ·rcases ak.mp hb with rfl | hb
  ·exact⟨hF.he,.inr hF.ne⟩
  ·rcases ak.mp hb with rfl | hb
   ·exact⟨t10,.inr t11⟩
   ·exact⟨hff b hb,.inl hb⟩
theorem jcT{oe:Obj}{vs:Array Value}(hA:A.frames=some (env :: outer))(hfr:s.heap.FunFrames base (env :: outer))(hL:env.frame=some L)(he:H e=none)(ne:h0.get? e=none)(ho:s.heap.get? e=some oe)(hc:oe.cls=cls)(hd:oe.data=.fields vs)(h1:vs[1]?=some .none)(ha:vs[0]?=some a0)(hff:∀b∈frs (env :: outer),H b=none)(hH:∀b,s.heap.get? b=none->H b=none/\h0.get? b=none)
  (hQ:∀h',Left (frs (env :: outer)) h0 H s.heap h'->Fly h0 H cls e h'->h'.FunFrames base (env :: outer)->Q () { s with heap:=h' }) (hbs:∀b o,base.get? b=some o->b ∉ frs (env :: outer)/\∃u,h0.get? b=some u):wpAny M A (leaving env (.ref e)) Q E s:=by
 subst hc
 have hB0:∀b∈e :: frs (env :: outer),(fW s.heap (e :: frs (env :: outer))).get? b=none:=fun b hb=>oo _ hb
 refine wpAny_leaving_firstW (base:=fW s.heap (e :: frs (env :: outer))) hA (yE hfr fun b hb=>hB0 b (ao _ hb)) hL ho (fun b o hb=>W.of_hideAll _ hb) (hB0 e am) hd h1 ha ?_
 rintro h' ⟨l1,l2,l3,l4⟩
 have hfr':h'.FunFrames base (env :: outer):=yE l2 fun b hb=>by
  rcases hh:base.get? b with _ | o
  ·rfl
  ·exact absurd hb (hbs b o hh).1
 refine hQ h' (je7 rfl (fun b hb hf=>?_) l1 hfr l4) (jiJ (s:=s) (l:=env :: outer) he ne rfl (fun b hb=>?_) hfr' hH l3) hfr'
 ·rcases ak.mp hb with rfl | hb
  ·exact⟨he,ne⟩
  ·exact absurd hb hf
 ·rcases ak.mp hb with rfl | hb
  ·exact⟨he,.inr ne⟩
  ·exact⟨hff b hb,.inl hb⟩
end
variable {P:Program}{w:World}
theorem ObjOk.ex{h:Heap}{a:Addr}{o:HO}(x:ObjOk P w H h a o):∃u,h.get? a=some u:=by
 cases o with
 | lst xs=>obtain⟨_,_,_,_,e⟩:=x;exact⟨_,e⟩
 | tup xs=>obtain⟨_,_,_,⟨u,e,_⟩⟩:=x;exact⟨_,e⟩
 | dK kvs=>obtain⟨_,_,_,_,o,_,_,e,_⟩:=x;exact⟨_,e⟩
 | dT kvs=>obtain⟨_,_,_,_,o,_,_,e,_⟩:=x;exact⟨_,e⟩
 | set S n=>obtain⟨o,_,_,_,e,_⟩:=x;exact⟨_,e⟩
 | ins C dx fs=>obtain⟨_,_,_,e,_⟩:=x;exact⟨_,e⟩
 | own y=>exact x
 | xd fs=>obtain⟨_,⟨_,_,_,e,_⟩,_⟩:=x;exact⟨_,e⟩
 | rng lo hi=>obtain⟨_,_,_,e⟩:=x;exact⟨_,e⟩
 | frz o u=>exact⟨_,x.1⟩
 | tbl ps=>exact⟨_,x⟩
 | met f y=>exact⟨_,x⟩
 | ext φ=>exact x.2.1
def CX1(P:Program)(w:World):CXT:=fun outer H s E e s'=>∃ea cls H',e=.ref ea/\s'.os=s.os/\cZ s'.gens/\Un (frs outer) [] H H' s.heap s'.heap/\HOk P w H' s'.heap/\Fly s.heap H' cls ea s'.heap/\E cls none H'
variable {E:XK}
section
variable {X:Cx}{ac:List (Addr×Obj)}{σ:St}{s:Shared}{cls:Value}{e:Addr}
structure XW(X:Cx)(E:XK):Prop where
 env:X.stack=X.env :: X.outer
 fr:X.env.frame=some X.env.locals
 ex:X.ex=[]
 xe:X.xe=fun e s'=>wpAny (model X.prog X.w) X.A (leaving X.env e) (fun _ s''=>CX1 X.prog X.w X.outer X.H₀ X.s₀ E e s'') (fun e' s''=>CX1 X.prog X.w X.outer X.H₀ X.s₀ E e' s'') s'
theorem XW.left(W:XW X E)(I:Inv X ac σ H s)(l:Left (frs (X.env :: X.outer)) X.s₀.heap H s.heap h')(f:Fly X.s₀.heap H cls e h')(hE:E cls none H):CX1 X.prog X.w X.outer X.H₀ X.s₀ E (.ref e) { s with heap:=h' }:=by
 have hb:=I.base;rw[W.ex]at hb;have nL:∀b o,X.s₀.heap.get? b=some o->b ∉ frs X.outer->b ∉ frs (X.env :: X.outer):=fun b o e hn hm=>by
  unfold frs at hm;rw[dP,W.fr]at hm;rcases ak.mp hm with rfl | hm
  ·exact absurd (aM e) (Nat.not_lt.mpr I.ok.above)
  ·exact hn hm
 have inO:∀b,b∈frs X.outer->b∈frs (X.env :: X.outer):=fun b hm=>by
  unfold frs at hm ⊢;rw[dP,W.fr];exact ao _ hm
 have stk:=I.stkFree;rw[W.env]at stk;refine⟨e,cls,H,rfl,I.os,I.bare,⟨fun b o h1 h2 h3 h4=>?_,fun b o h1 h2 h3 h4=>?_,fun b o h1 h2 h3=>hb.free b o h1 h2 h3,fun b o h1 h2=>?_,hb.tups,hb.frzs,hb.tbls⟩,fun a o ho=>?_,f,hE⟩
 ·exact l.keep b o (hb.keep b o h1 h2 h3 h4) (nL b o h1 h3) (.inr ⟨o,h1⟩)
 ·obtain⟨sl,h5⟩:=hb.slot b o h1 h2 h3 h4
  obtain⟨sl',h6⟩:=l.slot b _ h5 (inO b h3);exact⟨sl',h6⟩
 ·obtain⟨o',h5⟩:=hb.there b o h1 h2
  by_cases hm:b∈frs (X.env :: X.outer)
  ·obtain⟨sl',h6⟩:=l.slot b _ h5 hm
   exact⟨_,h6⟩
  ·exact⟨o',l.keep b o' h5 hm (.inr ⟨o,h1⟩)⟩
 ·refine (I.hok a o ho).stay (fun b u hbu q=>?_) (fun _ q=>q) fun _ _ q=>q
  have hne:H b≠none:=by
   rcases hbu with rfl | hbu
   ·rw[ho];simp
   ·rw[hbu];simp
  exact l.keep b u q (fun hm=>hne (stk b hm)) (.inl hne)
theorem XW.hH(W:XW X E)(I:Inv X ac σ H s):∀b,s.heap.get? b=none->H b=none/\X.s₀.heap.get? b=none:=fun b hb=>by
 refine⟨?_,?_⟩
 ·rcases hh:H b with _ | o
  ·rfl
  ·obtain⟨u,hu⟩:=(I.hok b o hh).ex
   rw[hu]at hb;cases hb
 ·rcases hh:X.s₀.heap.get? b with _ | o
  ·rfl
  ·have hbase:=I.base
   rw[W.ex]at hbase;obtain⟨o',h5⟩:=hbase.there b o hh (by simp);rw[h5]at hb;cases hb
theorem XW.hbs(W:XW X E)(I:Inv X ac σ H s):∀b o,X.base.get? b=some o->b ∉ frs (X.env :: X.outer)/\∃u,X.s₀.heap.get? b=some u:=fun b o hb=>by
 refine⟨fun hm=>?_,⟨o,(I.ok.bs b o hb).1⟩⟩;have hs:=I.stack;rw[W.env]at hs;have:∀{l:List Env},s.heap.FunFrames X.base l->b∈frs l->False:=by
  intro l;induction l with
  | nil=>intro _ h;cases h
  | cons env l ih=>
   intro hf hm;obtain⟨_,⟨L,o',e1,e2,_,_⟩,hr⟩:=hf;unfold frs at hm;rw[dP,e1]at hm;rcases ak.mp hm with rfl | hm
   ·rw[e2]at hb;cases hb
   ·exact ih hr hm
 exact this hs hm
theorem XW.next(W:XW X E)(I:Inv X ac σ H s)(F:Fly X.s₀.heap H cls e s.heap)(hE:E cls none H):X.xe (.ref e) s:=by
 have stk:=I.stkFree;have hs:=I.stack;have hf:=I.ok.frames;rw[W.env]at stk hs hf;rw[W.xe];exact jd1 hf hs W.fr F stk (W.hH I) (fun h' l f _=>W.left I l f hE) (W.hbs I)
theorem XW.first(W:XW X E)(I:Inv X ac σ H s){oe:Obj}{vs:Array Value}(he:H e=none)(ne:X.s₀.heap.get? e=none)(ho:s.heap.get? e=some oe)(hc:oe.cls=cls)(hd:oe.data=.fields vs)(h1:vs[1]?=some .none)(ha:vs[0]?=some a0)(hE:E cls none H):X.xe (.ref e) s:=by
 have stk:=I.stkFree;have hs:=I.stack;have hf:=I.ok.frames;rw[W.env]at stk hs hf;rw[W.xe];exact jcT hf hs W.fr he ne ho hc hd h1 ha stk (W.hH I) (fun h' l f _=>W.left I l f hE) (W.hbs I)
theorem Fly.back{s':Shared}(W:XW X E)(I:Inv X ac σ H s){H':Hp}(F:Fly s.heap H' cls e s'.heap):Fly X.s₀.heap H' cls e s'.heap:=by
 obtain⟨oe,vs,T,oT,ts,a0,t1,t2,t3,t4,t5,t6,t7,t8,t9,t10,t11⟩:=F.tr;exact⟨F.he,(W.hH I e F.ne).2,oe,vs,T,oT,ts,a0,t1,t2,t3,t4,t5,t6,t7,t8,t9,t10,(W.hH I T t11).2⟩
end
theorem Un.left{fs:List Addr}{H':Hp}{h h1 h2:Heap}(u:Un fs [] H H' h h1)(l:Left fs h H' h1 h2):Un fs [] H H' h h2 where
 keep:=fun b o h1 h2 h3 h4=>l.keep b o (u.keep b o h1 h2 h3 h4) h3 (.inr ⟨o,h1⟩)
 slot:=fun b o h1 h2 h3 h4=>by
  obtain⟨sl,h5⟩:=u.slot b o h1 h2 h3 h4;obtain⟨sl',h6⟩:=l.slot b _ h5 h3;exact⟨sl',h6⟩
 free:=u.free
 there:=fun b o h1 h2=>by
  obtain⟨o',h5⟩:=u.there b o h1 h2;by_cases hm:b∈fs
  ·obtain⟨sl',h6⟩:=l.slot b _ h5 hm
   exact⟨_,h6⟩
  ·exact⟨o',l.keep b o' h5 hm (.inr ⟨o,h1⟩)⟩
 tups:=u.tups
 frzs:=u.frzs
 tbls:=u.tbls
theorem HOk.left{fs:List Addr}{h0 h1 h2:Heap}(k:HOk P w H h1)(ff:∀b∈fs,H b=none)(l:Left fs h0 H h1 h2):HOk P w H h2:=fun a o ho=>by
 refine (k a o ho).stay (fun b u hbu q=>?_) (fun _ q=>q) fun _ _ q=>q
 have hne:H b≠none:=by
  rcases hbu with rfl | hbu
  ·rw[ho];simp
  ·rw[hbu];simp
 exact l.keep b u q (fun hm=>hne (ff b hm)) (.inl hne)
end L2
namespace PySem.W
open PySem PySem.Spec PySem.Calls PyProof.Rows Builtin Builtin.ObjectAttr Builtin.Getset_descriptor
end PySem.W
namespace L2
open PySem PySem.Spec PyProof.Rows
abbrev TJ:=St->Hp->Str->(Str->Hp->Prop)->Prop
structure QJ(X:Cx)(es:List Expr)(t:TJ):Prop where
 h:∀(ac:List (Addr×Obj)) (s:Shared) (σ:St) (H:Hp) (out:Str) (Q:Str->Hp->Prop),Inv X ac σ H s->t σ H out Q->Joins (model X.prog X.w) X.A X.xe (evalEach es X.env) out (fun o s'=>∃H',Inv X ac σ H' s'/\Q o H') s
def jmD:TJ:=fun _ H out Q=>Q out H
def jaX(te:TE)(t:TJ):TJ:=fun σ H out Q=>te σ H fun x H1=>∃y,x=.str y/\(out++y).length≤au/\t σ H1 (out++y) Q
variable {X:Cx}{e:Expr}{te:TE}{pos:Pos}
section
theorem qp:QJ X [] jmD:=⟨fun ac s σ H out Q I h=>Joins_nil ⟨H,I,h⟩⟩
theorem jI{es:List Expr}{t:TJ}(he:QE X e te)(ht:QJ X es t):QJ X (e :: es) (jaX te t):=⟨fun ac s σ H out Q I h=>by
 refine Joins_cons (thn (he.h ac s σ H _ I h) fun v s1 ⟨x,H1,I1,r,y,e1,hl,q⟩=>?_);subst e1;obtain⟨tk,rfl⟩:=r;exact⟨y,tk,rfl,hl,ht.h ac s1 σ H1 _ Q I1 q⟩⟩
def jk8(te:TE):TE:=fun σ H Q=>te σ H fun x H1=>∃y,x=.str y/\y.length≤au/\Q (.str y) H1
theorem ki(he:QE X e te):QE X (.FormattedValue e (-1) none pos) (jk8 te):=⟨fun ac s σ H Q I h=>by
 refine nv (thn (he.h ac s σ H _ I h) fun v s1 ⟨x,H1,I1,r,y,e1,hl,q⟩=>?_);subst e1;obtain⟨tk,rfl⟩:=r;exact wpAny_formatField_str ⟨.str y,H1,I1,⟨_,rfl⟩,q⟩ ⟨.str y,H1,I1.tok _,⟨_,rfl⟩,q⟩ hl⟩
def jkL(te:TE):TE:=fun σ H Q=>te σ H fun x H1=>∃i:Int,x=.int i/\i.natAbs < 2 ^ 100/\Q (.str (aa (eZ i))) H1
theorem jcc(he:QE X e te):QE X (.FormattedValue e (-1) none pos) (jkL te):=⟨fun ac s σ H Q I h=>by
 refine nv (thn (he.h ac s σ H _ I h) fun v s1 ⟨x,H1,I1,r,i,e1,hl,q⟩=>?_);subst e1;obtain⟨tk,rfl⟩:=r;refine wpAny_formatField_int ?_ ⟨.str _,H1,I1.tok _,⟨_,rfl⟩,q⟩;by_cases h0:i.natAbs=0
 ·rw[h0];decide
 ·exact bQ ((mL h0).mpr hl) (by decide)⟩
def jkK(t:TJ):TE:=fun σ H Q=>t σ H aV fun o H1=>o.length≤au/\Q (.str o) H1
theorem kF{v1 v2:Expr}{qW:List Expr}{t:TJ}(h:QJ X (v1 :: v2 :: qW) t):QE X (.JoinedStr (v1 :: v2 :: qW) pos) (jkK t):=⟨fun ac s σ H Q I hw=>by
 refine wpAny_JoinedStr ?_;have hh:=h.h ac s σ H aV _ I hw;have mono:∀(l:List Expr) (acc:Str) (s:Shared) (Q Q':Str->Shared->Prop),(∀o s,Q o s->Q' o s)->Joins (model X.prog X.w) X.A X.xe (evalEach l X.env) acc Q s->Joins (model X.prog X.w) X.A X.xe (evalEach l X.env) acc Q' s:=by
  intro l;induction l with
  | nil=>intro acc s Q Q' hq h;exact hq _ _ h
  | cons e r ih=>
   intro acc s Q Q' hq h;refine Joins_cons (thn (show wpAny _ _ (eval e X.env) _ _ _ from h) fun v s1 ⟨y,tk,e1,hl,q⟩=>⟨y,tk,e1,hl,ih _ _ _ _ hq q⟩)
 refine mono _ _ _ _ _ (fun o s' ⟨H',I',hl,q⟩=>⟨hl,.str o,H',I'.tok _,⟨_,rfl⟩,q⟩) hh⟩
end
theorem XW.own{E:XK}(W:XW X E):fZ (model X.prog X.w) X.A X.env X.xe:=by
 rw[W.xe];exact fZ.leaving
theorem jJ{k k':Nat}{x:Str}{ps:List Str}{sp:Sp}{es:List Expr}{t:TA}{p:Pos}(h1:Fn (Cx.prog X) (Cx.w X) (Cx.K X) (Cx.mg X) (Cx.base X) k x ps sp)(h2:Room k' (Cx.A X))(h3:QA X (e :: es) t)(h4:k≤k':=by omega)(h5:Gl X x:=by rfl)(h6:(x == aa "__debug__")=false:=by decide)(h7:dm (e :: es) zf=true:=by rfl):QE X (Expr.Call (Expr.Name x p) (e :: es) [] pos) (y6 sp [] E0 t):=
 ⟨@jhE _ _ _ _ _ _ _ _ _ _ _ h1 h2 h3.h h4 h5 h6 h7⟩
open PySem PySem.Spec PyProof.Rows PySem.W
theorem jdL{K:ah}(h:X.K=K:=by rfl):OpR X (bK .In) (rIn K false):=by subst h;exact Y2
theorem Jd(x:Str):∀ys:List Str,inV (.str x) (ys.map V.str)=decide (x∈ys)
 | []=>by simp[inV]
 | y :: ys=>by
  have ih:=Jd x ys;unfold inV at ih ⊢;rw[aX,gf,ih];have e:eqV (.str y) (.str x)=decide (x=y):=by
   show (y == x)=_;by_cases h:x=y
   ·subst h;simp
   ·rw[decide_eq_false h];simpa using fun z=>h z.symm
  rw[e];simp[ak]
theorem Jg:∀ys:List Str,(ys.map V.str).all YJ=true
 | []=>rfl
 | y :: ys=>by rw[aX,dQ,Jg ys];rfl
theorem lt_trans{a b c:List Nat}(h1:ltCps a b=true)(h2:ltCps b c=true):ltCps a c=true:=by
 induction a generalizing b c with
 | nil=>cases c with
  | nil=>cases b <;> simp[ltCps]at h1 h2
  | cons _ _=>rfl
 | cons x a ih=>
  cases b with
  | nil=>simp[ltCps]at h1
  | cons y b=>cases c with
   | nil=>simp[ltCps]at h2
   | cons z c=>
    simp only[ltCps,so,bg,decide_eq_true_eq,beq_iff_eq]at h1 h2 ⊢;rcases h1 with h1 | ⟨h1,h1'⟩
    ·rcases h2 with h2 | ⟨h2,h2'⟩
     ·left;omega
     ·left;omega
    ·rcases h2 with h2 | ⟨h2,h2'⟩
     ·left;omega
     ·right;exact⟨by omega,ih h1' h2'⟩
variable {t1 t2 u:TS}{H:Hp}
theorem yP{D:Ends}{σ:St}(h:let r2:=u;let r1:=jZ t2 r2;jZ t1 r1 D σ H):(jZ t1 (jZ t2 u)) D σ H:=h
variable {t3 t4:TS}
theorem Zk{D:Ends}{σ:St}(h:let r4:=u;let r3:=jZ t4 r4;let r2:=jZ t3 r3;let r1:=jZ t2 r2;jZ t1 r1 D σ H):(jZ t1 (jZ t2 (jZ t3 (jZ t4 u)))) D σ H:=h
variable {t5:TS}
theorem jiD{D:Ends}{σ:St}(h:let r5:=u;let r4:=jZ t5 r5;let r3:=jZ t4 r4;let r2:=jZ t3 r3;let r1:=jZ t2 r2;jZ t1 r1 D σ H):(jZ t1 (jZ t2 (jZ t3 (jZ t4 (jZ t5 u))))) D σ H:=h
variable {t6:TS}
theorem Zj{D:Ends}{σ:St}(h:let r6:=u;let r5:=jZ t6 r6;let r4:=jZ t5 r5;let r3:=jZ t4 r4;let r2:=jZ t3 r3;let r1:=jZ t2 r2;jZ t1 r1 D σ H):(jZ t1 (jZ t2 (jZ t3 (jZ t4 (jZ t5 (jZ t6 u)))))) D σ H:=h
variable {t7 t8:TS}
theorem jmH{D:Ends}{σ:St}(h:let r8:=u;let r7:=jZ t8 r8;let r6:=jZ t7 r7;let r5:=jZ t6 r6;let r4:=jZ t5 r5;let r3:=jZ t4 r4;let r2:=jZ t3 r3;let r1:=jZ t2 r2;jZ t1 r1 D σ H):(jZ t1 (jZ t2 (jZ t3 (jZ t4 (jZ t5 (jZ t6 (jZ t7 (jZ t8 u)))))))) D σ H:=h
theorem jlT{t9 t10 t11:TS}{D:Ends}{σ:St}(h:let r11:=u;let r10:=jZ t11 r11;let r9:=jZ t10 r10;let r8:=jZ t9 r9;let r7:=jZ t8 r8;let r6:=jZ t7 r7;let r5:=jZ t6 r6;let r4:=jZ t5 r5;let r3:=jZ t4 r4;let r2:=jZ t3 r3;let r1:=jZ t2 r2;jZ t1 r1 D σ H):(jZ t1 (jZ t2 (jZ t3 (jZ t4 (jZ t5 (jZ t6 (jZ t7 (jZ t8 (jZ t9 (jZ t10 (jZ t11 u))))))))))) D σ H:=h
theorem jlS{t9 t10 t11 t12 t13:TS}{D:Ends}{σ:St}(h:let r13:=u;let r12:=jZ t13 r13;let r11:=jZ t12 r12;let r10:=jZ t11 r11;let r9:=jZ t10 r10;let r8:=jZ t9 r9;let r7:=jZ t8 r8;let r6:=jZ t7 r7;let r5:=jZ t6 r6;let r4:=jZ t5 r5;let r3:=jZ t4 r4;let r2:=jZ t3 r3;let r1:=jZ t2 r2;jZ t1 r1 D σ H):(jZ t1 (jZ t2 (jZ t3 (jZ t4 (jZ t5 (jZ t6 (jZ t7 (jZ t8 (jZ t9 (jZ t10 (jZ t11 (jZ t12 (jZ t13 u))))))))))))) D σ H:=h
def jkY(mask:Nat):Nat->Nat×Nat->Nat×Nat
 | 0,p=>p
 | n+1,p=>jkY mask n (fA mask p.1 p.2)
def orb(M:Nat):Nat->Nat->Nat
 | 0,a=>a
 | n+1,a=>orb M n ((a * 5+1) % M)
theorem Zx(M:Nat):∀(a b x:Nat),orb M (a+b) x=orb M b (orb M a x)
 | 0,b,x=>by rw[pZ];rfl
 | a+1,b,x=>by rw[show a+1+b=a+b+1 by omega];exact Zx M a b _
def Full(M:Nat):Prop:=(∀e,e < M->∃k,k < M/\orb M k 0=e)/\orb M M 0=0
theorem Full.reach{M:Nat}(F:Full M){a e:Nat}(ha:a < M)(he:e < M):∃k,k < M/\orb M k a=e:=by
 obtain⟨i,hi,rfl⟩:=F.1 a ha;obtain⟨j,hj,rfl⟩:=F.1 e he;rcases i3 j i with c | c
 ·refine⟨M - i+j,by omega,?_⟩
  rw[← Zx,show i+(M - i+j)=M+j by omega,Zx,F.2]
 ·refine⟨j - i,by omega,?_⟩
  rw[← Zx,show i+(j - i)=j by omega]
def seq(t:cJ)(p:fB):Nat->fB
 | 0=>p
 | n+1=>t.advance (seq t p n)
theorem jeJ(t:cJ)(p:fB)(a:Nat):∀b,seq t p (a+b)=seq t (seq t p a) b
 | 0=>rfl
 | b+1=>by
  show t.advance (seq t p (a+b))=_;rw[jeJ t p a b];rfl
theorem jcs(t:cJ):∀(n:Nat) (p:fB),n≤p.more->seq t p n={ p with j:=p.j+n,more:=p.more - n }
 | 0,p,_=>rfl
 | n+1,p,h=>by
  show t.advance (seq t p n)=_;rw[jcs t n p (by omega)];unfold oM;dsimp only;rw[if_pos (by omega)];congr 1
theorem jlg(mask i:Nat):iM mask i - i≤9:=by
 unfold iM;split <;> omega
def jmb(t:cJ)(p:fB):Prop:=p.j=p.i/\p.more=iM t.mask p.i - p.i
theorem jgv{t:cJ}{p:fB}(h:jmb t p):∃n,n≤10/\jmb t (seq t p n)/\((seq t p n).i,(seq t p n).perturb)=fA t.mask p.i p.perturb:=by
 refine⟨p.more+1,?_,?_⟩
 ·have:=jlg t.mask p.i
  rw[← h.2]at this;omega
 ·have e:seq t p (p.more+1)={ p with j:=(fA t.mask p.i p.perturb).1,more:=iM t.mask (fA t.mask p.i p.perturb).1 - (fA t.mask p.i p.perturb).1,i:=(fA t.mask p.i p.perturb).1,perturb:=(fA t.mask p.i p.perturb).2 }:=by
   show t.advance (seq t p p.more)=_;rw[jcs t p.more p (av _)];unfold oM;dsimp only;rw[if_neg (by omega)]
  rw[e];exact⟨⟨rfl,rfl⟩,rfl⟩
theorem jmI{t:cJ}:∀(n:Nat) {p:fB},jmb t p->∃m,m≤10 * n/\(seq t p m).j=(jkY t.mask n (p.i,p.perturb)).1
 | 0,p,h=>⟨0,av _,h.1⟩
 | n+1,p,h=>by
  obtain⟨a,ha,h1,h2⟩:=jgv h;obtain⟨b,hb,h3⟩:=jmI n h1;refine⟨a+b,by omega,?_⟩;rw[jeJ,h3,h2];rfl
theorem getD_none{owner:Array (Option Nat)}{j:Nat}(h:owner.getD j (some 0)=none):owner[j]?=some none:=by
 by_cases hj:j < owner.size
 ·rw[Array.getElem?_eq_getElem hj]
  simp[sy,hj]at h;rw[h]
 ·simp[sy,hj]at h
section
variable {prog:Program}{w:World}{K:Type}[DecidableEq K]{knd:KeyKind prog w K}{A:Around}{E:Value->Shared->Prop}{s:Shared}
def Msk(n mask:Nat):Prop:=(mask=7/\n≤4)∨(mask=31/\n≤18)∨(mask=127/\n≤76)
theorem Msk.le{n mask:Nat}(h:Msk n mask):n≤mask/\n+1≤mask/\mask≤127:=by unfold Msk at h;omega
end
end L2
namespace PySem
end PySem
namespace L2
open PySem PySem.Spec PyProof.Rows PySem.W
end L2
namespace LW
open PySem L2
def top(i:Nat):Stmt:=PySem.Challenge.pw_outlineward_k24_whole_programs_written_a.main.body.getD i (.Pass ⟨0,0,0,0⟩)
theorem qY{H:Hp}:∀{xs:List Str} {vs:List V},HeldL H (xs.map D.str) vs->vs=xs.map V.str
 | [],_,h=>jR h
 | _ :: _,_,h=>by
  obtain⟨v,r,rfl,h1,h2⟩:=jk h
  cases jU h1
  rw[qY h2];rfl
structure Pc where
 f:Str
 ps:List Str
 rs:List Str
 nd:List Cl
 gv:List Cl
 lv:Nat
 bd:List (StN lv)
def Pc.toD(p:Pc):D:=.tup [.str "proc",.str p.f,.tup (p.ps.map D.str),.tup (p.rs.map D.str),.tup (p.nd.map Cl.toD),.tup (p.gv.map Cl.toD),.tup (p.bd.map (stD p.lv))]
def Pc.named(p:Pc):List Str:=(p.nd++p.gv).flatMap Cl.ns++(jmQ p.lv p.bd).flatMap Nd.ns
variable {H:Hp}
theorem jhI{p:Pc}{v:V}(h:Held H p.toD v):∃a ap ar an ag ab vn vg vb,v=.ref a/\H a=some (.tup [.str "proc",.str p.f,.ref ap,.ref ar,.ref an,.ref ag,.ref ab])/\H ap=some (.tup (p.ps.map V.str))/\H ar=some (.tup (p.rs.map V.str))/\H an=some (.tup vn)/\HeldL H (p.nd.map Cl.toD) vn/\H ag=some (.tup vg)/\HeldL H (p.gv.map Cl.toD) vg/\H ab=some (.tup vb)/\HeldL H (p.bd.map (stD p.lv)) vb:=by
 obtain⟨a,xs,rfl,ha,h1⟩:=jF h;obtain⟨v1,r1,rfl,e1,h2⟩:=jk h1;obtain⟨v2,r2,rfl,e2,h3⟩:=jk h2;obtain⟨v3,r3,rfl,e3,h4⟩:=jk h3;obtain⟨v4,r4,rfl,e4,h5⟩:=jk h4;obtain⟨v5,r5,rfl,e5,h6⟩:=jk h5;obtain⟨v6,r6,rfl,e6,h7⟩:=jk h6;obtain⟨v7,r7,rfl,e7,h8⟩:=jk h7
 cases jR h8
 cases jU e1
 cases jU e2
 obtain⟨ap,xp,rfl,hp,hp'⟩:=jF e3;obtain⟨ar,xr,rfl,hr,hr'⟩:=jF e4;obtain⟨an,vn,rfl,hn,hn'⟩:=jF e5;obtain⟨ag,vg,rfl,hg,hg'⟩:=jF e6;obtain⟨ab,vb,rfl,hb,hb'⟩:=jF e7
 cases qY hp'
 cases qY hr'
 exact⟨a,ap,ar,an,ag,ab,vn,vg,vb,rfl,ha,hp,hr,hn,hn',hg,hg',hb,hb'⟩
theorem jij:∀{l m:List Str},l.Nodup->(∀x∈l,x∈m)->l.length≤m.length
 | [],_,_,_=>bm _
 | x :: l,m,nd,h=>by
  obtain⟨n1,n2⟩:=aP.mp nd;have hx:=h x am;have:=jij (m:=m.erase x) n2 fun y hy=>(List.mem_erase_of_ne (show y≠x from fun z=>n1 (by rw[← z];exact hy))).mpr (h y (ao _ hy))
  rw[List.length_erase_of_mem hx]at this;have:0 < m.length:=List.length_pos_of_mem hx;rw[aw];omega
theorem JL{tt:TT}{ta tb u:TS}{D:Ends}{σ:St}(C:Bool->Hp->Prop)(k:∀b G,C b G->if b=true then ta { D with nx:=u D } σ G else tb { D with nx:=u D } σ G)(h:(∀b G,C b G->if b=true then ta { D with nx:=u D } σ G else tb { D with nx:=u D } σ G)->jdp tt ta tb { D with nx:=u D } σ H):jZ (jdp tt ta tb) u D σ H:=h k
abbrev jhe:Stmt:=top 58
abbrev jhd:Stmt:=top 59
abbrev jhc:Stmt:=top 60
abbrev jbu:Stmt:=top 64
abbrev jha:Stmt:=top 61
abbrev jdw:Stmt:=top 62
def Keep(a:Addr)(H H':Hp):Prop:=∀b o,b≠a->H b=some o->H' b=some o
theorem Keep.upd(a:Addr)(H:Hp)(o:HO):Keep a H (L2.upd H a o):=fun b u hb e=>by rw[js hb];exact e
variable {a:Addr}
theorem Keep.trans{H1 H2:Hp}(h:Keep a H H1)(h':Keep a H1 H2):Keep a H H2:=fun b o hb e=>h' b o hb (h b o hb e)
variable {H':Hp}
theorem Keep.same(h:Same H H'):Keep a H H':=fun b o _ e=>h b o e
theorem ji{p:Addr}(h:H p=none)(o:HO):Same H (upd H p o):=fun b u q=>by rw[js (jl q h)];exact q
abbrev Dl:Type:=Int
def zB(ns:List Int)(k:Int):Int×Int:=
 let w:=if 0 < ns.length then ns.getD 0 0 % 2 else 1
 let n:=if 0 < ns.length then ns.getD (k % (ns.length:Int)).toNat 0 * 48271+7919 * k * k else 7919 * k+11
 if k < (ns.length:Int)/\w=0 then (w,if k=0 then ns.getD k.toNat 0 / 2 else ns.getD k.toNat 0) else (w,n)
def jj(w n m:Int):Int×Int:=
 if w=0 then (n % m,n / m) else
 let n1:=(n * 48271+7919) % 2147483647
 let n2:=(n1 * 40692+104729) % 2147483399
 ((n1 * n1 % 2147483629 * 2147483563+n2 * n2 % 2147483563) % m,n2)
theorem jO(w n:Int){m:Int}(h:0 < m):0≤(jj w n m).1:=by
 unfold jj;split
 ·exact gY _ (by omega)
 ·exact gY _ (by omega)
theorem jK(w n:Int){m:Int}(h:0 < m):(jj w n m).1 < m:=by
 unfold jj;split
 ·exact gZ _ h
 ·exact gZ _ h
def YD(w n:Int):Int×Int:=
 let a:=jj w n 4
 if a.1 < 2 then jj w a.2 (if a.1=0 then 1 else 10)
 else ((5 - 2 * a.1) * (jj w a.2 (10 ^ 18+1)).1,(jj w a.2 (10 ^ 18+1)).2)
theorem jem{ns:List Int}{k:Int}(h0:0≤k)(h:k < (ns.length:Int)):atI (ns.map V.int) k=some (.int (ns.getD k.toNat 0)):=by
 have hk:k.toNat < ns.length:=by omega
 have ek:k=((k.toNat:Nat):Int):=by omega
 have q:atI (ns.map V.int) ((k.toNat:Nat):Int)=some (.int (ns.getD k.toNat 0)):=jr (by rw[bq,aE hk,cg,aE hk] <;> rfl);rw[← ek]at q;exact q
def jbp(K:ah):Sp:=fun vs H Q _=>∃(a:Addr) (ns:List Int) (k:Int),vs=[.ref a,.int k]/\SqL K H a (ns.map V.int)/\ns.length≤63/\0≤k/\k≤100000/\
 ∀(r:Addr) (H':Hp),H r=none->Same H H'->H' r=some (.lst [.int (zB ns k).1,.int (zB ns k).2])->Q (.ref r) H'
def zv:Sp:=fun vs H Q _=>∃(a:Addr) (w n m:Int),vs=[.ref a,.int m]/\H a=some (.lst [.int w,.int n])/\0 < m/\m < 2 ^ 200/\Q (.int (jj w n m).1) (upd H a (.lst [.int w,.int (jj w n m).2]))
def jg4(K:ah):Sp:=fun vs H Q _=>∃(a:Addr) (ns:List Int),vs=[.ref a]/\SqL K H a (ns.map V.int)/\ns.length≤63/\Q (.int (if ns.length=0 then 1 else (ns.length:Nat))) H
def y7:Sp:=fun vs H Q _=>∃(a:Addr) (w n:Int),vs=[.ref a]/\H a=some (.lst [.int w,.int n])/\∀H',Keep a H H'->H' a=some (.lst [.int w,.int (YD w n).2])->Q (.int (YD w n).1) H'
structure DealsAt(H:Hp)(a:Addr)(ds:List Addr)(L:List (Int×Int)):Prop where
 l:H a=some (.lst (ds.map V.ref))
 n:ds.length=L.length
 nd:ds.Nodup
 few:ds.length≤100
 at_:∀(i:Nat) d x,ds[i]?=some d->L[i]?=some x->H d=some (.lst [.int x.1,.int x.2])
def qI:List (Int×Int)->(Int×Int)×List (Int×Int)
 | []=>((1,7),[])
 | x :: L=>(x,L)
def KN:Sp:=fun vs H Q _=>∃(a:Addr) (ds:List Addr) (L:List (Int×Int)),vs=[.ref a]/\DealsAt H a ds L/\∀(r:Addr) (H':Hp),Keep a H H'->(H r=none∨r∈ds)->H' r=some (.lst [.int (qI L).1.1,.int (qI L).1.2])->r ∉ ds.tail->DealsAt H' a ds.tail (qI L).2->Q (.ref r) H'
def jS:List Str:=["each","rise","to","proc","need","give","back","any","claim","if","else","end","while","keep","call","out"]
def jbn:Sp:=fun vs H Q _=>vs=[]/\∀l,H l=none->Q (.ref l) (upd H l (.lst (jS.map V.str)))
variable {P:Program}{w:World}{K:ah}{mg:Str->Option Value}{base:Heap}{f:Addr}{fd:aq}
section
theorem jj4(F:Fun K "_law_deal" "_law_deal" jhe f fd)(B:Free0 mg):FnOk P w K mg base CX0 1 f fd ["_law_script","_law_k"] (jbp K):=by
 have sc:FnScope ["_law_script","_law_k","_law_number_here","_law_way_of"] ["_law_script","_law_k"] (jn jhe):=fQ;refine F.ok sc (fun vs H Q E h=>?_) (fun aj A outer s H vs Q E hr h=>?_)
 ·obtain⟨a,ns,k,rfl,_⟩:=h
  rfl
 obtain⟨a,ns,k,rfl,hS,h63,h0,h1,q⟩:=h;have hu:=jk1 hr;refine⟨_,(qa (yS (i:=2) sc.nd rfl oQ (qO zy (qO yA kE (pv 1)) kE))
   (qa (yS (i:=3) sc.nd rfl oQ kE)
   (qa (Ze (Jr KI (zF jV (by rfl) B.len_ kJ (qR (pv 0) qg)) kE (jD _)) (qa (yS (i:=2) sc.nd rfl oQ (qO zy (qO yA (Jz j9 (pv 0) (qO yW (pv 1) (zF jV (by rfl) B.len_ kJ (qR (pv 0) qg))) (fun _ _=>rfl)) kE) (qO yA (qO yA kE (pv 1)) (pv 1))))
   (q8 (yS (i:=3) sc.nd rfl oQ (qO yW (Jz j9 (pv 0) kE (fun _ _=>rfl)) kE)))) yL)
   (qa (Ze (jhk (Jr Z5 (pv 1) (zF jV (by rfl) B.len_ kJ (qR (pv 0) qg)) (jD _)) (jeR (Jr j5 (pv 3) kE (jD _)))).pt (q8 (yS (i:=2) sc.nd rfl oQ (Jz j9 (jbE (qR (Jz j9 (pv 0) (pv 1) (fun _ _=>rfl)) (qR (qO J8 (Jz j9 (pv 0) (pv 1) (fun _ _=>rfl)) kE) qg))) (jkT ja7 (by rfl) B.int_ Km (qR (Zw j5 (pv 1) kE (jD _)) qg)) (fun _ _=>rfl)))) yL)
   (q8 (yy (jbE (qR (pv 3) (qR (pv 2) qg))))))))),?_⟩
 try dsimp only[qo]
 refine Zk ?_;intro _ _ _ _;have hl:(ns.map V.int).length=ns.length:=ae _;refine⟨_,rfl,_,_,rfl,rfl,.inl ⟨by decide,by decide⟩,_,_,rfl,rfl,?_⟩;refine⟨_,rfl,a,_,rfl,.inl hS,_,_,rfl,rfl,_,rfl,?_⟩;refine qi (fun c=>?_) (fun c=>?_)
 ·have c':0 < ns.length:=by
   have:=of_decide_eq_true c;rw[hl]at this;omega
  have hm0:0≤k % (ns.length:Int):=gY _ (by omega);have hm1:k % (ns.length:Int) < (ns.length:Int):=gZ _ (by omega);have hat:atI (ns.map V.int) (k % (((ns.map V.int).length:Nat):Int))=some (.int (ns.getD (k % (ns.length:Int)).toNat 0)):=by
   rw[hl];exact jem hm0 hm1
  have hat0:atI (ns.map V.int) 0=some (.int (ns.getD 0 0)):=jem (k:=0) (by omega) (by omega);refine⟨_,rfl,_,rfl,_,rfl,a,_,rfl,.inl hS,_,_,rfl,rfl,(by rw[hl];omega),a,_,_,_,rfl,rfl,hS,hat,_,_,rfl,rfl,.inr ⟨by decide,by decide⟩,_,rfl,_,_,rfl,rfl,.inl ⟨by decide,by decide⟩,_,rfl,_,_,rfl,rfl,.inl ⟨by omega,by omega⟩,_,_,rfl,rfl,?_⟩;refine⟨_,rfl,a,_,_,_,rfl,rfl,hS,hat0,_,_,rfl,rfl,(by show (0:Int) < _;decide),?_⟩;refine⟨_,rfl,_,rfl,a,_,rfl,.inl hS,_,_,rfl,rfl,_,rfl,?_⟩;refine qi (fun c1=>?_) (fun c1=>?_)
  ·have c1':k < (ns.length:Int):=by
    have:=of_decide_eq_true c1;rw[hl]at this;exact this
   refine⟨_,rfl,rfl,_,rfl,?_⟩;refine qi (fun c2=>?_) (fun c2=>?_)
   ·have c2':ns.getD 0 0 % 2=0:=by
     have:=of_decide_eq_true c2;injection this
    have hatk:atI (ns.map V.int) k=some (.int (ns.getD k.toNat 0)):=jem h0 c1';refine⟨_,rfl,_,rfl,a,_,_,_,rfl,rfl,hS,hatk,_,rfl,_,rfl,a,_,_,_,rfl,rfl,hS,hatk,_,_,rfl,rfl,⟨by decide,by decide⟩,sm rfl,fun p hp=>?_⟩;have g1:Same H (upd H p (.lst [.int (ns.getD k.toNat 0),.int (ns.getD k.toNat 0 / 2)])):=ji hp _;refine⟨_,rfl,rfl,.inr ⟨_,rfl,?_⟩⟩;have hix:atI [V.int (ns.getD k.toNat 0),V.int (ns.getD k.toNat 0 / 2)] (if decide (V.int k=V.int 0)=true then 1 else 0)=some (.int (if k=0 then ns.getD k.toNat 0 / 2 else ns.getD k.toNat 0)):=by
     by_cases hk:k=0
     ·subst hk;rfl
     ·have:¬(V.int k=V.int 0):=fun e=>hk (by injection e)
      rw[decide_eq_false this,if_neg aI,if_neg hk];rfl
    refine⟨p,_,_,_,rfl,rfl,SqL.of jc,hix,?_⟩;refine⟨_,rfl,_,rfl,sm rfl,fun r hr'=>?_⟩;refine q r _ (g1.free hr') (g1.trans (ji hr' _)) ?_;rw[jc];unfold zB;simp only[c',c1',c2',if_true,and_self]
   ·have c2':¬ns.getD 0 0 % 2=0:=fun e=>c2 (decide_eq_true (congrArg V.int e))
    refine⟨_,rfl,_,rfl,sm rfl,fun r hr'=>?_⟩;refine q r _ hr' (ji hr' _) ?_;rw[jc];unfold zB;simp only[c',if_true,c2',and_false,if_false]
  ·have c1':¬k < (ns.length:Int):=by
    intro e;refine c1 (decide_eq_true ?_);rw[hl];exact e
   refine kB ?_;refine⟨_,rfl,_,rfl,sm rfl,fun r hr'=>?_⟩;refine q r _ hr' (ji hr' _) ?_;rw[jc];unfold zB;simp only[c',if_true,c1',false_and,if_false]
 ·have c':ns=[]:=by
   have:¬(0 < ns.length):=fun e=>c (decide_eq_true (by rw[hl];omega))
   exact i8.mp (by omega)
  subst c';refine⟨_,rfl,_,rfl,a,_,rfl,.inl hS,_,_,rfl,rfl,_,rfl,?_⟩;have c1:¬k < (([]:List Int).map V.int).length:=by
   rw[hl];show ¬k < 0;omega
  rw[decide_eq_false c1];refine kB (kB ?_);refine⟨_,rfl,_,rfl,sm rfl,fun r hr'=>?_⟩;refine q r _ hr' (ji hr' _) ?_;rw[jc];unfold zB;have c2:¬(k < ((([]:List Int).length:Nat):Int)):=by show ¬k < 0;omega
  simp only[c2,false_and,if_false];rfl
theorem jj3(F:Fun K "_law_draw" "_law_draw" jhd f fd):FnOk P w K mg base CX0 1 f fd ["_law_deal_here","_law_many_here"] zv:=by
 have sc:FnScope ["_law_deal_here","_law_many_here","_law_number_here","_law_one","_law_two"] ["_law_deal_here","_law_many_here"] (jn jhd):=fQ;refine F.ok sc (fun vs H Q E h=>?_) (fun aj A outer s H vs Q E hr h=>?_)
 ·obtain⟨a,w,n,m,rfl,_⟩:=h
  rfl
 obtain⟨a,w,n,m,rfl,hS,h0,h1,q⟩:=h;refine⟨_,(qa (yS (i:=2) sc.nd rfl oQ (Jz j9 (pv 0) kE (fun _ _=>rfl)))
   (qa (Ze (Jr j5 (Jz j9 (pv 0) kE (fun _ _=>rfl)) kE (jD _)) (qa (jdG (qO J8 (pv 2) (pv 1)) (jhA (pv 0) kE jcr))
   (q8 (yy (qO yW (pv 2) (pv 1))))) yL)
   (qa (yS (i:=2) sc.nd rfl oQ (qO yW (qO zy (qO yA (pv 2) kE) kE) kE))
   (qa (jdG (qO yW (qO zy (qO yA (pv 2) kE) kE) kE) (jhA (pv 0) kE jcr))
   (qa (yS (i:=3) sc.nd rfl oQ (qO yW (qO yA (pv 2) (pv 2)) kE))
   (qa (yS (i:=4) sc.nd rfl oQ (qO yW (qO yA (Jz j9 (pv 0) kE (fun _ _=>rfl)) (Jz j9 (pv 0) kE (fun _ _=>rfl))) kE))
   (q8 (yy (qO yW (qO zy (qO yA (pv 3) kE) (pv 4)) (pv 1)))))))))),?_⟩
 try dsimp only[qo]
 refine Zj ?_;intro _ _ _ _ _ _;refine⟨_,rfl,a,_,_,_,rfl,rfl,SqL.of hS,rfl,?_⟩;refine⟨_,rfl,a,_,_,_,rfl,rfl,SqL.of hS,rfl,rfl,_,rfl,?_⟩;refine qi (fun c=>?_) (fun c=>?_)
 ·have c':w=0:=by
   have:=of_decide_eq_true c;injection this
  refine⟨_,rfl,_,rfl,_,_,rfl,rfl,⟨h0,h1⟩,_,rfl,a,_,_,1,rfl,rfl,hS,rfl,?_⟩;refine⟨_,rfl,_,rfl,_,_,rfl,rfl,h0,?_⟩;unfold jj at q;rw[if_pos c']at q;exact q
 ·have c':¬w=0:=fun e=>c (decide_eq_true (congrArg V.int e))
  have b1:∀x:Int,0≤x % 2147483647/\x % 2147483647 < 2147483647:=fun x=>⟨gY _ (by decide),gZ _ (by decide)⟩
  have b2:∀x:Int,0≤x % 2147483399/\x % 2147483399 < 2147483399:=fun x=>⟨gY _ (by decide),gZ _ (by decide)⟩
  refine⟨_,rfl,_,_,rfl,rfl,.inr ⟨by decide,by decide⟩,_,_,rfl,rfl,_,_,rfl,rfl,(by show (0:Int) < _;decide),?_⟩;obtain⟨x1,x2⟩:=b1 (n * 48271+7919);unfold jj at q;rw[if_neg c']at q;dsimp only at q;refine⟨_,rfl,_,_,rfl,rfl,.inr ⟨by decide,by decide⟩,_,_,rfl,rfl,_,_,rfl,rfl,(by show (0:Int) < _;decide),_,rfl,a,_,_,1,rfl,rfl,hS,rfl,?_⟩;obtain⟨y1,y2⟩:=b2 ((n * 48271+7919) % 2147483647 * 40692+104729);refine⟨_,rfl,_,rfl,_,_,rfl,rfl,.inl ⟨by omega,by omega⟩,_,_,rfl,rfl,(by show (0:Int) < _;decide),?_⟩;refine⟨_,rfl,a,_,_,_,rfl,rfl,SqL.of jc,rfl,_,rfl,a,_,_,_,rfl,rfl,SqL.of jc,rfl,_,_,rfl,rfl,.inl ⟨by omega,by omega⟩,_,_,rfl,rfl,(by show (0:Int) < _;decide),?_⟩;refine⟨_,rfl,_,_,rfl,rfl,.inr ⟨by decide,by decide⟩,_,rfl,_,_,rfl,rfl,_,rfl,_,_,rfl,rfl,h0,?_⟩;exact q
theorem jj2(F:Fun K "_law_many" "_law_many" jhc f fd)(B:Free0 mg):FnOk P w K mg base CX0 1 f fd ["_law_script"] (jg4 K):=by
 have sc:FnScope ["_law_script"] ["_law_script"] (jn jhc):=fQ;refine F.ok sc (fun vs H Q E h=>?_) (fun aj A outer s H vs Q E hr h=>?_)
 ·obtain⟨a,ns,rfl,_⟩:=h
  rfl
 obtain⟨a,ns,rfl,hS,h63,q⟩:=h;refine⟨_,(q8 (yy (zF (jgK rfl) (by rfl) B.max_ jl4 (qR kE (qR (zF (jgJ rfl) (by rfl) B.min_ jl3 (qR kE (qR (zF jV (by rfl) B.len_ kJ (qR (pv 0) qg)) qg))) qg))))),?_⟩;refine⟨_,rfl,a,_,rfl,.inl hS,_,_,rfl,_,_,rfl,?_⟩;have e:(if (if (((ns.map V.int).length:Nat):Int) < 63 then (((ns.map V.int).length:Nat):Int) else 63) > 1 then (if (((ns.map V.int).length:Nat):Int) < 63 then (((ns.map V.int).length:Nat):Int) else 63) else 1)=(if ns.length=0 then 1 else ((ns.length:Nat):Int)):=by
  rw[ae];split <;> split <;> (try split) <;> omega
 rw[e];exact q
theorem jf4(F:Fun K "_law_number" "_law_number" jbu f fd)(aA:Fn P w K mg base 1 "_law_draw" ["_law_deal_here","_law_many_here"] zv):FnOk P w K mg base CX0 2 f fd ["_law_deal_here"] y7:=by
 have sc:FnScope ["_law_deal_here","_law_form"] ["_law_deal_here"] (jn jbu):=fQ;refine F.okZ sc (fun vs H Q E h=>?_) (fun aj A outer s H vs Q E hr h=>?_)
 ·obtain⟨a,w,n,rfl,_⟩:=h
  rfl
 obtain⟨a,w,n,rfl,hS,q⟩:=h;refine⟨_,(jd (ju (i:=1) sc.nd rfl oQ (jp aA hr (ja (zpv 0) (ja jg jb))))
   (jd (jM (jA Z5 (zpv 1) jg (jD _)) (jh (jx (jp aA hr (ja (zpv 0) (ja (jv j9 (jT (ja jg (ja jg jb))) (zpv 1) (fun _ _=>rfl)) jb))))) jH)
   (jh (jx (jt yA (jt jdK jg (jt yA jg (zpv 1))) (jp aA hr (ja (zpv 0) (ja (jt zy (jt jlz jg jg) jg) jb)))))))),?_⟩
 refine jG (σ':=[some (.ref a),none]) rfl ?_
 try dsimp only[qo]
 refine yP ?_;intro _ _;refine⟨_,rfl,a,w,n,4,rfl,hS,by decide,by decide,?_⟩;have lo:=jO w n (m:=4) (by decide);have hi:=jK w n (m:=4) (by decide);unfold YD at q;dsimp only at q;generalize jj w n 4=x at *;obtain⟨x,n1⟩:=x;dsimp only at lo hi q ⊢;refine gQ ?_;refine⟨_,rfl,_,_,rfl,rfl,_,rfl,qi (fun c=>?_) (fun c=>?_)⟩
 ·have c':=of_decide_eq_true c
  rw[if_pos c']at q;refine⟨_,rfl,sm rfl,fun p hp=>?_⟩;have npa:a≠p:=fun z=>by rw[← z,jc]at hp;cases hp
  refine⟨_,rfl,p,_,_,.int (if x=0 then 1 else 10),rfl,rfl,SqL.of jc,?_,?_⟩
  ·have:x=0∨x=1:=by omega
   rcases this with rfl | rfl <;> rfl
  ·refine⟨a,w,n1,_,rfl,by rw[js npa,jc],by split <;> decide,by split <;> decide,?_⟩
   refine q _ (fun b o hb e=>?_) jc;rw[js hb,js (jl (by rw[js hb];exact e) hp),js hb];exact e
 ·have c':¬x < 2:=fun z=>c (decide_eq_true z)
  rw[if_neg c']at q;refine⟨_,rfl,_,_,rfl,rfl,.inl ⟨by decide,by decide⟩,_,_,rfl,rfl,_,rfl,_,_,rfl,rfl,⟨by decide,by decide,by decide⟩,_,_,rfl,rfl,?_⟩;refine⟨a,w,n1,10 ^ 18+1,rfl,jc,by decide,by decide,_,_,rfl,rfl,.inl ⟨by omega,by omega⟩,?_⟩;rw[jjl];exact q _ (Keep.upd _ _ _) jc
theorem jjZ(F:Fun K "_law_next" "_law_next" jha f fd)(B:Free0 mg):FnOk P w K mg base CX0 1 f fd ["_law_deals"] KN:=by
 have sc:FnScope ["_law_deals"] ["_law_deals"] (jn jha):=fQ;refine F.ok sc (fun vs H Q E h=>?_) (fun aj A outer s H vs Q E hr h=>?_)
 ·obtain⟨a,ds,L,rfl,_⟩:=h
  rfl
 obtain⟨a,ds,L,rfl,D,q⟩:=h;refine⟨_,(qa (Ze (Jr KI (zF jV (by rfl) B.len_ kJ (qR (pv 0) qg)) kE (jD _)) (q8 (yy (jhH aF f_ iQ jcM (pv 0) (qR kE qg)))) yL)
   (q8 (yy (jbE (qR kE (qR kE qg)))))),?_⟩
 refine⟨_,rfl,a,_,rfl,.inl (SqL.of D.l),_,_,rfl,rfl,_,rfl,qi (fun c=>?_) (fun c=>?_)⟩
 ·have c':=of_decide_eq_true c
  rw[ae]at c';have hn:=D.n;obtain _ | ⟨d,ds⟩:=ds
  ·exact absurd c' (by decide)
  obtain _ | ⟨x,L⟩:=L
  ·cases hn
  refine⟨_,rfl,.inl ⟨rfl,_,SqL.of D.l⟩,a,_,0,0,.ref d,rfl,rfl,D.l,by decide,by decide,?_,rfl,?_⟩
  ·unfold iB;simp
  have hd:=D.at_ 0 d x rfl rfl;have nda:=D.nd;rw[aP]at nda;have nd:∀b y z,H b=some (.lst [.int y,.int z])->b≠a:=fun b y z e q=>by rw[q,D.l]at e;cases e
  refine q d _ (Keep.upd a H _) (.inr (am ..)) (by rw[js (nd _ _ _ hd)];exact hd) nda.1 ⟨jc,gI hn,nda.2,ad (eN _) D.few,fun i e y he hy=>?_⟩;have h2:=D.at_ (i+1) e y he hy;rw[js (nd _ _ _ h2)];exact h2
 ·have hz:ds=[]:=by
   have:¬0 < ds.length:=fun z=>c (decide_eq_true (by rw[ae];omega))
   exact i8.mp (by omega)
  subst hz;have hL:L=[]:=i8.mp D.n.symm;subst hL;refine⟨sm rfl,fun p hp=>?_⟩;have s1:=ji hp (.lst [V.int 1,V.int 7]);exact q p _ (Keep.same s1) (.inl hp) jc (fun z=>by cases z) ⟨s1 _ _ D.l,rfl,eP,bm _,fun i d x h=>by cases h⟩
end
section
theorem jjv:FnScope [] [] (jn jdw):=fQ
theorem jhW(F:Fun K "_law_taken" "_law_taken" jdw f fd):FnOk P w K mg base CX0 1 f fd [] jbn:=by
 have sc:=jjv;refine F.okZ sc (fun vs H Q E h=>?_) (fun aj A outer s H vs Q E hr h=>?_)
 ·obtain⟨rfl,_⟩:=h
  rfl
 obtain⟨rfl,q⟩:=h;refine⟨_,(jh (jx (jT (ja jf (ja jf (ja jf (ja jf (ja jf (ja jf (ja jf (ja jf (ja jf (ja jf (ja jf (ja jf (ja jf (ja jf (ja jf (ja jf jb))))))))))))))))))),?_⟩;refine jG (σ':=[]) rfl ?_;exact⟨sm rfl,fun l hl=>q l hl⟩
end
abbrev jbt:Stmt:=top 65
abbrev jdv:Stmt:=top 66
abbrev jbv:Stmt:=top 67
def em(xs:List Str):List Str:=(aa "") :: xs
def zp(xs:List Str)(d:Int):Str:=xs.getD d.toNat ""
variable {xs:List Str}
theorem J7{d:Int}(h0:0≤d)(h1:d < (xs.length:Nat)):zp xs d∈xs:=by
 have:d.toNat < xs.length:=by omega
 unfold zp;rw[cg,aE this];exact bW this
theorem yk{d:Int}(h0:0≤d)(h1:d < (xs.length:Nat)):atI (xs.map V.str) d=some (.str (zp xs d)):=by
 have hk:d.toNat < xs.length:=by omega
 have ek:d=((d.toNat:Nat):Int):=by omega
 have q:atI (xs.map V.str) ((d.toNat:Nat):Int)=some (.str (zp xs d)):=jr (by unfold zp;rw[bq,aE hk,cg,aE hk] <;> rfl);rw[← ek]at q;exact q
theorem Keep.tk(k:Keep a H H'){xs:List V}(ha:H a=some (.lst xs)):TK H H':=fun b ys e=>k b _ (fun z=>by rw[z,ha]at e;cases e) e
theorem Keep.strs{l:Addr}(k:Keep a H H'){w n:Int}(ha:H a=some (.lst [.int w,.int n]))(hl:H l=some (.lst (xs.map V.str))):H' l=some (.lst (xs.map V.str)):=k l _ (fun z=>by
 rw[z,ha]at hl
 cases xs with
 | nil=>cases hl
 | cons x xs=>injection hl with e;injection e with e;injection e with e;cases e) hl
def yz(w n:Int)(xs:List Str):(Str×Int)×Int:=
 let a:=jj w n (((em xs).length:Nat):Int)
 let b:=YD w a.2
 ((zp (em xs) a.1,b.1),b.2)
def qG(w n:Int)(xs rs:List Str):Tm×Int:=
 let a:=jj w n 3
 if a.1=0/\0 < rs.length then
  let b:=jj w a.2 ((rs.length:Nat):Int)
  let p:=yz w b.2 xs
  (.at_ (zp rs b.1) p.1.1 p.1.2,p.2)
 else
  let b:=jj w a.2 (((em xs).length:Nat):Int)
  (.is (zp (em xs) b.1),b.2)
def zJ(w n:Int)(xs rs:List Str):Cl×Int:=
 let a:=qG w n xs rs
 let b:=qG w a.2 xs rs
 let c:=YD w b.2
 (.least a.1 b.1 c.1,c.2)
def JK:Sp:=fun vs H Q _=>∃(d l:Addr) (w n:Int) (xs:List Str),vs=[.ref d,.ref l]/\H d=some (.lst [.int w,.int n])/\H l=some (.lst (xs.map V.str))/\xs.length≤100/\∀u H',Keep d H H'->H' d=some (.lst [.int w,.int (yz w n xs).2])->Held H' (plD (yz w n xs).1.1 (yz w n xs).1.2) u->Q u H'
def Yr:Sp:=fun vs H Q _=>∃(d l r:Addr) (w n:Int) (xs rs:List Str),vs=[.ref d,.ref l,.ref r]/\H d=some (.lst [.int w,.int n])/\H l=some (.lst (xs.map V.str))/\H r=some (.lst (rs.map V.str))/\xs.length≤100/\rs.length≤100/\∀u H',Keep d H H'->H' d=some (.lst [.int w,.int (qG w n xs rs).2])->Held H' (qG w n xs rs).1.toD u->Q u H'
def Yt:Sp:=fun vs H Q _=>∃(d l r:Addr) (w n:Int) (xs rs:List Str),vs=[.ref d,.ref l,.ref r]/\H d=some (.lst [.int w,.int n])/\H l=some (.lst (xs.map V.str))/\H r=some (.lst (rs.map V.str))/\xs.length≤100/\rs.length≤100/\∀u H',Keep d H H'->H' d=some (.lst [.int w,.int (zJ w n xs rs).2])->Held H' (zJ w n xs rs).1.toD u->Q u H'
section
theorem jf2(F:Fun K "_law_place" "_law_place" jbt f fd)(B:Free0 mg)(aA:Fn P w K mg base 1 "_law_draw" ["_law_deal_here","_law_many_here"] zv)(bJ:Fn P w K mg base 2 "_law_number" ["_law_deal_here"] y7):FnOk P w K mg base CX0 3 f fd ["_law_deal_here","_law_numbers"] JK:=by
 have sc:FnScope ["_law_deal_here","_law_numbers","_law_some","_law_x"] ["_law_deal_here","_law_numbers"] (jn jbt):=fQ;refine F.okZ sc (fun vs H Q E h=>?_) (fun aj A outer s H vs Q E hr h=>?_)
 ·obtain⟨d,l,w,n,xs,rfl,_⟩:=h
  rfl
 obtain⟨d,l,w,n,xs,rfl,hd,hl,hz,q⟩:=h;refine⟨_,(jd (ju (i:=2) sc.nd rfl oQ (jt kt (jT (ja jf jb)) (zpv 1)))
   (jd (ju (i:=3) sc.nd rfl oQ (jv j9 (zpv 2) (jp aA hr (ja (zpv 0) (ja (k9 jV (by rfl) B.len_ kJ (ja (zpv 2) jb)) jb))) (fun _ _=>rfl)))
   (jh (jx (jQ (ja (zpv 3) (ja (jp bJ hr (ja (zpv 0) jb)) jb))))))),?_⟩
 refine jG (σ':=[some (.ref d),some (.ref l),none,none]) rfl ?_;refine⟨sm rfl,fun p hp=>?_⟩;have s1:=ji hp (.lst [V.str (aa "")]);have e1:upd H p (.lst [V.str (aa "")]) p=some (.lst [V.str (aa "")]):=jc;generalize upd H p (.lst [V.str (aa "")])=H1 at *;refine⟨_,rfl,p,l,_,_,rfl,rfl,e1,s1 _ _ hl,jL (by rw[ae];simp only[aw,a_];omega),fun t ht=>?_⟩;have s2:=s1.trans (ji ht (.lst ([V.str (aa "")]++xs.map V.str)));have e2:upd H1 t (.lst ([V.str (aa "")]++xs.map V.str)) t=some (.lst ((em xs).map V.str)):=jc;generalize upd H1 t (.lst ([V.str (aa "")]++xs.map V.str))=H2 at *;have lem:(em xs).length=xs.length+1:=rfl;refine gQ ?_;have lo:=jO w n (m:=((em xs).length:Nat)) (by omega);have hi:=jK w n (m:=((em xs).length:Nat)) (by omega);refine⟨_,rfl,_,rfl,_,rfl,t,_,rfl,.inl (SqL.of e2),d,w,n,((em xs).length:Nat),by rw[ae];rfl,s2 _ _ hd,by omega,by omega,t,_,_,_,rfl,rfl,SqL.of ((Keep.upd d H2 _).strs (s2 _ _ hd) e2),yk lo hi,?_⟩;refine gQ ?_;refine⟨_,rfl,_,rfl,d,w,_,rfl,jc,fun H3 k3 d3=>⟨sm rfl,fun p hp=>?_⟩⟩;have s4:=ji hp (.tup [V.str (zp (em xs) (jj w n ((em xs).length:Nat)).1),V.int (YD w (jj w n ((em xs).length:Nat)).2).1]);exact q _ _ ((Keep.same s2).trans ((Keep.upd d H2 _).trans (k3.trans (Keep.same s4)))) (s4 _ _ d3) (jy jc (je jw (je ke jz)))
theorem jhS(F:Fun K "_law_term" "_law_term" jdv f fd)(B:Free0 mg)(aA:Fn P w K mg base 1 "_law_draw" ["_law_deal_here","_law_many_here"] zv)(bY:Fn P w K mg base 3 "_law_place" ["_law_deal_here","_law_numbers"] JK):FnOk P w K mg base CX0 4 f fd ["_law_deal_here","_law_numbers","_law_rows"] Yr:=by
 have sc:FnScope ["_law_deal_here","_law_numbers","_law_rows","_law_r","_law_some"] ["_law_deal_here","_law_numbers","_law_rows"] (jn jdv):=fQ;refine F.okZ sc (fun vs H Q E h=>?_) (fun aj A outer s H vs Q E hr h=>?_)
 ·obtain⟨d,l,r,w,n,xs,rs,rfl,_⟩:=h
  rfl
 obtain⟨d,l,r,w,n,xs,rs,rfl,hd,hl,hr',hz,hz2,q⟩:=h;refine⟨_,(jd (jM (yJ (jA j5 (jp aA hr (ja (zpv 0) (ja jg jb))) jg (jD _)) (yn (jA KI (k9 jV (by rfl) B.len_ kJ (ja (zpv 2) jb)) jg (jD _)))).pt (jd (ju (i:=3) sc.nd rfl oQ (jv j9 (zpv 2) (jp aA hr (ja (zpv 0) (ja (k9 jV (by rfl) B.len_ kJ (ja (zpv 2) jb)) jb))) (fun _ _=>rfl)))
   (jh (jx (jQ (ja jf (ja (zpv 3) (ja (jp bY hr (ja (zpv 0) (ja (zpv 1) jb))) jb))))))) jH)
   (jd (ju (i:=4) sc.nd rfl oQ (jt kt (jT (ja jf jb)) (zpv 1)))
   (jh (jx (jQ (ja jf (ja (jv j9 (zpv 4) (jp aA hr (ja (zpv 0) (ja (k9 jV (by rfl) B.len_ kJ (ja (zpv 4) jb)) jb))) (fun _ _=>rfl)) jb))))))),?_⟩
 refine jG (σ':=[some (.ref d),some (.ref l),some (.ref r),none,none]) rfl ?_;have k0:=Keep.upd d H (.lst [.int w,.int (jj w n 3).2]);have d0:upd H d (.lst [.int w,.int (jj w n 3).2]) d=some (.lst [.int w,.int (jj w n 3).2]):=jc;refine JL (fun b G=>b=decide ((jj w n 3).1=0/\0 < rs.length)/\G=upd H d (.lst [.int w,.int (jj w n 3).2])) (fun b G hb=>?_) (fun kk=>?_);rotate_left
 ·refine⟨_,rfl,d,w,n,3,rfl,hd,by decide,by decide,rfl,_,rfl,qi (fun z=>?_) (fun z=>kk false _ ⟨?_,rfl⟩)⟩
  ·have z':(jj w n 3).1=0:=by have:=of_decide_eq_true z;injection this
   refine⟨_,rfl,r,_,rfl,.inl (SqL.of (k0.strs hd hr')),_,_,rfl,rfl,_,rfl,kk _ _ ⟨?_,rfl⟩⟩;rw[ae];exact decide_eq_decide.mpr ⟨fun h=>⟨z',by omega⟩,fun h=>by omega⟩
  ·exact (decide_eq_false fun h=>z (decide_eq_true (congrArg V.int h.1))).symm
 obtain⟨rfl,rfl⟩:=hb;have hl0:=k0.strs hd hl;have hr0:=k0.strs hd hr';unfold qG at q;dsimp only at q;generalize upd H d (.lst [.int w,.int (jj w n 3).2])=H0 at *;generalize jj w n 3=x at *;obtain⟨x,n1⟩:=x;dsimp only at q d0;by_cases c:x=0/\0 < rs.length
 ·rw[decide_eq_true c]
  refine kQ ?_;rw[if_pos c]at q;have lo:=jO w n1 (m:=(rs.length:Nat)) (by omega);have hi:=jK w n1 (m:=(rs.length:Nat)) (by omega);have k1:=Keep.upd d H0 (.lst [.int w,.int (jj w n1 (rs.length:Nat)).2]);refine⟨_,rfl,_,rfl,_,rfl,r,_,rfl,.inl (SqL.of hr0),d,w,n1,(rs.length:Nat),by rw[ae];rfl,d0,by omega,by omega,r,_,_,_,rfl,rfl,SqL.of (k1.strs d0 hr0),yk lo hi,?_⟩;refine gQ ?_;refine⟨_,rfl,_,rfl,_,rfl,d,l,w,_,xs,rfl,jc,k1.strs d0 hl0,hz,fun u H3 k3 d3 h3=>⟨sm rfl,fun p hp=>?_⟩⟩;have s4:=ji hp (.tup [V.str (aa "at"),V.str (zp rs (jj w n1 (rs.length:Nat)).1),u]);exact q _ _ (k0.trans (k1.trans (k3.trans (Keep.same s4)))) (s4 _ _ d3) (jy jc (je jw (je jw (je (h3.mono s4) jz))))
 rw[decide_eq_false c];refine kB ?_;rw[if_neg c]at q;refine⟨sm rfl,fun p hp=>?_⟩;have s1:=ji hp (.lst [V.str (aa "")]);have e1:upd H0 p (.lst [V.str (aa "")]) p=some (.lst [V.str (aa "")]):=jc;generalize upd H0 p (.lst [V.str (aa "")])=H1 at *;refine⟨_,rfl,p,l,_,_,rfl,rfl,e1,s1 _ _ hl0,jL (by rw[ae];simp only[aw,a_];omega),fun t ht=>?_⟩;have s2:=s1.trans (ji ht (.lst ([V.str (aa "")]++xs.map V.str)));have e2:upd H1 t (.lst ([V.str (aa "")]++xs.map V.str)) t=some (.lst ((em xs).map V.str)):=jc;generalize upd H1 t (.lst ([V.str (aa "")]++xs.map V.str))=H2 at *;have lem:(em xs).length=xs.length+1:=rfl;refine gQ ?_;have lo:=jO w n1 (m:=((em xs).length:Nat)) (by omega);have hi:=jK w n1 (m:=((em xs).length:Nat)) (by omega);have k3:=Keep.upd d H2 (.lst [.int w,.int (jj w n1 ((em xs).length:Nat)).2]);refine⟨_,rfl,_,rfl,_,rfl,t,_,rfl,.inl (SqL.of e2),d,w,n1,((em xs).length:Nat),by rw[ae];rfl,s2 _ _ d0,by omega,by omega,t,_,_,_,rfl,rfl,SqL.of (k3.strs (s2 _ _ d0) e2),yk lo hi,sm rfl,fun p hp=>?_⟩;have s4:=ji hp (.tup [V.str (aa "is"),V.str (zp (em xs) (jj w n1 ((em xs).length:Nat)).1)]);exact q _ _ (k0.trans ((Keep.same s2).trans (k3.trans (Keep.same s4)))) (s4 _ _ jc) (jy jc (je jw (je jw jz)))
theorem jf6(F:Fun K "_law_least" "_law_least" jbv f fd)(bT:Fn P w K mg base 4 "_law_term" ["_law_deal_here","_law_numbers","_law_rows"] Yr)(bJ:Fn P w K mg base 2 "_law_number" ["_law_deal_here"] y7):FnOk P w K mg base CX0 5 f fd ["_law_deal_here","_law_numbers","_law_rows"] Yt:=by
 have sc:FnScope ["_law_deal_here","_law_numbers","_law_rows","_law_one","_law_other"] ["_law_deal_here","_law_numbers","_law_rows"] (jn jbv):=fQ;refine F.okZ sc (fun vs H Q E h=>?_) (fun aj A outer s H vs Q E hr h=>?_)
 ·obtain⟨d,l,r,w,n,xs,rs,rfl,_⟩:=h
  rfl
 obtain⟨d,l,r,w,n,xs,rs,rfl,hd,hl,hr',hz,hz2,q⟩:=h;refine⟨_,(jd (ju (i:=3) sc.nd rfl oQ (jp bT hr (ja (zpv 0) (ja (zpv 1) (ja (zpv 2) jb)))))
   (jd (ju (i:=4) sc.nd rfl oQ (jp bT hr (ja (zpv 0) (ja (zpv 1) (ja (zpv 2) jb)))))
   (jh (jx (jQ (ja jf (ja (zpv 3) (ja (zpv 4) (ja (jp bJ hr (ja (zpv 0) jb)) jb))))))))),?_⟩
 refine jG (σ':=[some (.ref d),some (.ref l),some (.ref r),none,none]) rfl ?_;refine⟨_,rfl,_,rfl,_,rfl,d,l,r,w,n,xs,rs,rfl,hd,hl,hr',hz,hz2,fun u H1 k1 d1 h1=>?_⟩;refine gQ ?_;refine⟨_,rfl,_,rfl,_,rfl,d,l,r,w,_,xs,rs,rfl,d1,k1.strs hd hl,k1.strs hd hr',hz,hz2,fun u2 H2 k2 d2 h2=>?_⟩;refine gQ ?_;refine⟨_,rfl,_,rfl,_,rfl,d,w,_,rfl,d2,fun H3 k3 d3=>⟨sm rfl,fun p hp=>?_⟩⟩;have s4:=ji hp (.tup [V.str "least",u,u2,V.int (YD w (qG w (qG w n xs rs).2 xs rs).2).1]);refine q _ _ (k1.trans (k2.trans (k3.trans (Keep.same s4)))) (s4 _ _ d3) (jy jc (je jw (je ?_ (je ?_ (je ke jz)))))
 ·exact (((k2.tk d1).held h1 |> (k3.tk d2).held)).mono s4
 ·exact ((k3.tk d2).held h2).mono s4
end
abbrev jbx:Stmt:=top 68
theorem jju{tt:TT}{ta tb u:TS}{D:Ends}{σ:St}(J:St->Hp->Prop)(k:∀σ' G,J σ' G->u D σ' G)(h:(∀σ' G,J σ' G->u D σ' G)->jdp tt ta tb { D with nx:=u D } σ H):jZ (jdp tt ta tb) u D σ H:=h k
def jmP:Tm->Bd
 | .is x=>.is x
 | .at_ _ x _=>.is x
theorem jgY(w n:Int)(xs:List Str):(qG w n xs []).1.toD=(jmP (qG w n xs []).1).toD:=by
 unfold qG;dsimp only;rw[if_neg (fun h=>absurd h.2 (by decide))];rfl
def bdN(w n:Int)(xs rs:List Str):Bd×Int:=
 let b:=qG w n xs []
 let e:=jj w b.2 2
 if e.1=0 then
  let k:=jj w e.2 ((rs.length:Nat):Int)
  (.row (zp rs k.1),k.2)
 else (jmP b.1,e.2)
def jfI(d:Int):Str:=if d=0 then ">=" else "<="
def Yf(w n:Int)(xs rs:List Str):Cl×Int:=
 let a:=jj w n 4
 if a.1 < 2∨rs.length=0 then zJ w a.2 xs rs else
 let t:=yz w a.2 xs
 let u:=yz w t.2 xs
 let r:=jj w u.2 ((rs.length:Nat):Int)
 if a.1=2 then (.rise t.1.1 t.1.2 u.1.1 u.1.2 (zp rs r.1),r.2) else
 let b:=bdN w r.2 xs rs
 let y:=jj w b.2 2
 let c:=YD w y.2
 (.each t.1.1 t.1.2 u.1.1 u.1.2 (zp rs r.1) (jfI y.1) b.1 c.1,c.2)
def Yu:Sp:=fun vs H Q _=>∃(d l r:Addr) (w n:Int) (xs rs:List Str),vs=[.ref d,.ref l,.ref r]/\H d=some (.lst [.int w,.int n])/\H l=some (.lst (xs.map V.str))/\H r=some (.lst (rs.map V.str))/\xs.length≤100/\rs.length≤100/\∀u H',Keep d H H'->H' d=some (.lst [.int w,.int (Yf w n xs rs).2])->Held H' (Yf w n xs rs).1.toD u->Q u H'
section
theorem jgb(F:Fun K "_law_claim" "_law_claim" jbx f fd)(B:Free0 mg)(aA:Fn P w K mg base 1 "_law_draw" ["_law_deal_here","_law_many_here"] zv)(bJ:Fn P w K mg base 2 "_law_number" ["_law_deal_here"] y7)(bY:Fn P w K mg base 3 "_law_place" ["_law_deal_here","_law_numbers"] JK)(bT:Fn P w K mg base 4 "_law_term" ["_law_deal_here","_law_numbers","_law_rows"] Yr)(cF:Fn P w K mg base 5 "_law_least" ["_law_deal_here","_law_numbers","_law_rows"] Yt):FnOk P w K mg base CX0 6 f fd ["_law_deal_here","_law_numbers","_law_rows"] Yu:=by
 have sc:FnScope ["_law_deal_here","_law_numbers","_law_rows","_law_form","_law_t","_law_u","_law_r","_law_b","_law_way"] ["_law_deal_here","_law_numbers","_law_rows"] (jn jbx):=fQ;refine F.okZ sc (fun vs H Q E h=>?_) (fun aj A outer s H vs Q E hr h=>?_)
 ·obtain⟨d,l,r,w,n,xs,rs,rfl,_⟩:=h
  rfl
 obtain⟨d,l,r,w,n,xs,rs,rfl,hd,hl,hr',hz,hz2,q⟩:=h;refine⟨_,(jd (ju (i:=3) sc.nd rfl oQ (jp aA hr (ja (zpv 0) (ja jg jb))))
   (jd (jM (jbf (jA Z5 (zpv 3) jg (jD _)) (jbe (jA j5 (k9 jV (by rfl) B.len_ kJ (ja (zpv 2) jb)) jg (jD _)))).pt (jh (jx (jp cF hr (ja (zpv 0) (ja (zpv 1) (ja (zpv 2) jb)))))) jH)
   (jd (ju (i:=4) sc.nd rfl oQ (jp bY hr (ja (zpv 0) (ja (zpv 1) jb))))
   (jd (ju (i:=5) sc.nd rfl oQ (jp bY hr (ja (zpv 0) (ja (zpv 1) jb))))
   (jd (ju (i:=6) sc.nd rfl oQ (jv j9 (zpv 2) (jp aA hr (ja (zpv 0) (ja (k9 jV (by rfl) B.len_ kJ (ja (zpv 2) jb)) jb))) (fun _ _=>rfl)))
   (jd (jM (jA j5 (zpv 3) jg (jD _)) (jh (jx (jQ (ja jf (ja (zpv 4) (ja (zpv 5) (ja (zpv 6) jb))))))) jH)
   (jd (ju (i:=7) sc.nd rfl oQ (jp bT hr (ja (zpv 0) (ja (zpv 1) (ja (jT jb) jb)))))
   (jd (jM (jA j5 (jp aA hr (ja (zpv 0) (ja jg jb))) jg (jD _)) (jh (ju (i:=7) sc.nd rfl oQ (jQ (ja jf (ja (jv j9 (zpv 2) (jp aA hr (ja (zpv 0) (ja (k9 jV (by rfl) B.len_ kJ (ja (zpv 2) jb)) jb))) (fun _ _=>rfl)) jb))))) jH)
   (jd (ju (i:=8) sc.nd rfl oQ (jv j9 (jT (ja jf (ja jf jb))) (jp aA hr (ja (zpv 0) (ja jg jb))) (fun _ _=>rfl)))
   (jh (jx (jQ (ja jf (ja (zpv 4) (ja (zpv 5) (ja (zpv 6) (ja (zpv 8) (ja (zpv 7) (ja (jp bJ hr (ja (zpv 0) jb)) jb))))))))))))))))))),?_⟩
 try dsimp only[qo]
 refine jG (σ':=[some (.ref d),some (.ref l),some (.ref r),none,none,none,none,none,none]) rfl ?_;refine Zj ?_;intro _ _ _ _ _ _;refine⟨_,rfl,d,w,n,4,rfl,hd,by decide,by decide,?_⟩;have k0:=Keep.upd d H (.lst [.int w,.int (jj w n 4).2]);have d0:upd H d (.lst [.int w,.int (jj w n 4).2]) d=some (.lst [.int w,.int (jj w n 4).2]):=jc;have hl0:=k0.strs hd hl;have hr0:=k0.strs hd hr';have lo0:=jO w n (m:=4) (by decide);have hi0:=jK w n (m:=4) (by decide);unfold Yf at q;dsimp only at q;generalize upd H d (.lst [.int w,.int (jj w n 4).2])=H0 at *;generalize jj w n 4=x at *;obtain⟨x,n1⟩:=x;dsimp only at q d0 lo0 hi0 ⊢;refine gQ ?_;refine JL (fun b G=>b=decide (x < 2∨rs.length=0)/\G=H0) (fun b G hb=>?_) (fun kk=>?_);rotate_left
 ·refine⟨_,rfl,_,_,rfl,rfl,_,rfl,qi (fun z=>kk true _ ⟨(decide_eq_true (.inl (of_decide_eq_true z))).symm,rfl⟩) (fun z=>?_)⟩
  refine⟨_,rfl,r,_,rfl,.inl (SqL.of hr0),rfl,_,rfl,kk _ _ ⟨?_,rfl⟩⟩;rw[ae];refine decide_eq_decide.mpr ⟨fun h=>.inr (by injection h;omega),fun h=>?_⟩;rcases h with h | h
  ·exact absurd (decide_eq_true h) z
  ·rw[h];rfl
 obtain⟨rfl,rfl⟩:=hb;by_cases c:x < 2∨rs.length=0
 ·rw[decide_eq_true c]
  refine kQ ?_;rw[if_pos c]at q;exact⟨_,rfl,_,rfl,_,rfl,d,l,r,w,n1,xs,rs,rfl,d0,hl0,hr0,hz,hz2,fun u H1 k1 d1 h1=>q u H1 (k0.trans k1) d1 h1⟩
 rw[decide_eq_false c];refine kB ?_;rw[if_neg c]at q;have hp:0 < rs.length:=by omega
 refine⟨_,rfl,_,rfl,d,l,w,n1,xs,rfl,d0,hl0,hz,fun u1 H1 k1 d1 h1=>?_⟩;have hl1:=k1.strs d0 hl0;have hr1:=k1.strs d0 hr0;generalize yz w n1 xs=t at *;refine gQ ?_;refine⟨_,rfl,_,rfl,d,l,w,t.2,xs,rfl,d1,hl1,hz,fun u2 H2 k2 d2 h2=>?_⟩;have hl2:=k2.strs d1 hl1;have hr2:=k2.strs d1 hr1;have h12:=(k2.tk d1).held h1;generalize yz w t.2 xs=u at *;refine gQ ?_;have lo:=jO w u.2 (m:=(rs.length:Nat)) (by omega);have hi:=jK w u.2 (m:=(rs.length:Nat)) (by omega);have k3:=Keep.upd d H2 (.lst [.int w,.int (jj w u.2 (rs.length:Nat)).2]);have d3:upd H2 d (.lst [.int w,.int (jj w u.2 (rs.length:Nat)).2]) d=some (.lst [.int w,.int (jj w u.2 (rs.length:Nat)).2]):=jc;have hl3:=k3.strs d2 hl2;have hr3:=k3.strs d2 hr2;have h13:=(k3.tk d2).held h12;have h23:=(k3.tk d2).held h2;refine⟨_,rfl,_,rfl,_,rfl,r,_,rfl,.inl (SqL.of hr2),d,w,u.2,(rs.length:Nat),by rw[ae];rfl,d2,by omega,by omega,r,_,_,_,rfl,rfl,SqL.of hr3,yk lo hi,?_⟩;generalize upd H2 d (.lst [.int w,.int (jj w u.2 (rs.length:Nat)).2])=H3 at *;generalize jj w u.2 (rs.length:Nat)=y at *;have k03:=k0.trans (k1.trans (k2.trans k3));refine gQ ?_;refine⟨_,rfl,rfl,_,rfl,qi (fun z=>?_) (fun z=>?_)⟩
 ·have z':x=2:=by have:=of_decide_eq_true z;injection this
  rw[if_pos z']at q;refine⟨_,rfl,_,rfl,_,rfl,sm rfl,fun p hp=>?_⟩;have s4:=ji hp (.tup [V.str (aa "rise"),u1,u2,V.str (zp rs y.1)]);exact q _ _ (k03.trans (Keep.same s4)) (s4 _ _ d3) (jy jc (je jw (je (h13.mono s4) (je (h23.mono s4) (je jw jz)))))
 have z':¬x=2:=fun h=>z (decide_eq_true (congrArg V.int h))
 rw[if_neg z']at q;refine⟨_,rfl,_,rfl,sm rfl,fun p hp=>?_⟩;have s4:=ji hp (.lst []);refine⟨d,l,p,w,y.2,xs,[],rfl,s4 _ _ d3,s4 _ _ hl3,jc,hz,bm _,fun u4 H4 k4 d4 h4=>?_⟩;have k34:Keep d H3 H4:=(Keep.same s4).trans k4;have hr4:=k34.strs d3 hr3;have h14:=(k34.tk d3).held h13;have h24:=(k34.tk d3).held h23;rw[jgY]at h4;refine gQ ?_;dsimp only;refine jju (fun σ G=>∃v,σ=[some (.ref d),some (.ref l),some (.ref r),some (.int x),some u1,some u2,some (.str (zp rs y.1)),some v,none]/\Keep d H4 G/\G d=some (.lst [.int w,.int (bdN w y.2 xs rs).2])/\Held G (bdN w y.2 xs rs).1.toD v) ?_ (fun kk=>?_);rotate_left
 ·unfold bdN at kk
  dsimp only at kk;have k5:=Keep.upd d H4 (.lst [.int w,.int (jj w (qG w y.2 xs []).2 2).2]);have d5:upd H4 d (.lst [.int w,.int (jj w (qG w y.2 xs []).2 2).2]) d=some (.lst [.int w,.int (jj w (qG w y.2 xs []).2 2).2]):=jc;have hr5:=k5.strs d4 hr4;have h45:=(k5.tk d4).held h4;refine⟨_,rfl,d,w,_,2,rfl,d4,by decide,by decide,rfl,_,rfl,?_⟩;generalize upd H4 d (.lst [.int w,.int (jj w (qG w y.2 xs []).2 2).2])=H5 at *;generalize jj w (qG w y.2 xs []).2 2=e at *;refine qi (fun z=>?_) (fun z=>?_)
  ·have z2:e.1=0:=by have:=of_decide_eq_true z;injection this
   rw[if_pos z2]at kk;have lo:=jO w e.2 (m:=(rs.length:Nat)) (by omega);have hi:=jK w e.2 (m:=(rs.length:Nat)) (by omega);have k6:=Keep.upd d H5 (.lst [.int w,.int (jj w e.2 (rs.length:Nat)).2]);refine⟨_,rfl,_,rfl,_,rfl,r,_,rfl,.inl (SqL.of hr5),d,w,e.2,(rs.length:Nat),by rw[ae];rfl,d5,by omega,by omega,r,_,_,_,rfl,rfl,SqL.of (k6.strs d5 hr5),yk lo hi,sm rfl,fun p hp=>?_⟩;have s7:=ji hp (.tup [V.str (aa "row"),V.str (zp rs (jj w e.2 (rs.length:Nat)).1)]);refine gQ ?_;exact kk _ _ ⟨.ref p,rfl,k5.trans (k6.trans (Keep.same s7)),s7 _ _ jc,jy jc (je jw (je jw jz))⟩
  ·have z2:¬e.1=0:=fun h=>z (decide_eq_true (congrArg V.int h))
   rw[if_neg z2]at kk;exact kk _ _ ⟨u4,rfl,k5,d5,h45⟩
 rintro σ G ⟨v,rfl,k5,d5,hv⟩;have h15:=(k5.tk d4).held h14;have h25:=(k5.tk d4).held h24;generalize bdN w y.2 xs rs=b at *;refine⟨sm rfl,fun p hp=>?_⟩;have s6:=ji hp (.lst [V.str (aa ">="),V.str (aa "<=")]);have e6:upd G p (.lst [V.str (aa ">="),V.str (aa "<=")]) p=some (.lst (([aa ">=",aa "<="]:List Str).map V.str)):=jc;generalize upd G p (.lst [V.str (aa ">="),V.str (aa "<=")])=H6 at *;have lo7:=jO w b.2 (m:=2) (by decide);have hi7:=jK w b.2 (m:=2) (by decide);have k7:=Keep.upd d H6 (.lst [.int w,.int (jj w b.2 2).2]);have d7:upd H6 d (.lst [.int w,.int (jj w b.2 2).2]) d=some (.lst [.int w,.int (jj w b.2 2).2]):=jc;have e7:=k7.strs (s6 _ _ d5) e6;refine⟨_,rfl,d,w,b.2,2,rfl,s6 _ _ d5,by decide,by decide,p,_,_,.str (jfI (jj w b.2 2).1),rfl,rfl,SqL.of e7,?_,?_⟩
 ·have:(jj w b.2 2).1=0∨(jj w b.2 2).1=1:=by omega
  rcases this with h | h <;> rw[h] <;> rfl
 have k57:=(Keep.same (a:=d) s6).trans k7;have h17:=(k57.tk d5).held h15;have h27:=(k57.tk d5).held h25;have hv7:=(k57.tk d5).held hv;generalize upd H6 d (.lst [.int w,.int (jj w b.2 2).2])=H7 at *;generalize jj w b.2 2=g at *;refine gQ ?_;refine⟨_,rfl,_,rfl,_,rfl,_,rfl,_,rfl,_,rfl,d,w,g.2,rfl,d7,fun H8 k8 d8=>⟨sm rfl,fun p hp=>?_⟩⟩;have s9:=ji hp (.tup [V.str (aa "each"),u1,u2,V.str (zp rs y.1),V.str (jfI g.1),v,V.int (YD w g.2).1]);have t8:=k8.tk d7;exact q _ _ (k03.trans (k34.trans (k5.trans (k57.trans (k8.trans (Keep.same s9)))))) (s9 _ _ d8) (jy jc (je jw (je ((t8.held h17).mono s9) (je ((t8.held h27).mono s9) (je jw (je jw (je ((t8.held hv7).mono s9) (je ke jz))))))))
end
abbrev Zt:Stmt:=top 69
def Out(S:List Addr)(H H':Hp):Prop:=∀b o,b ∉ S->H b=some o->H' b=some o
variable {ds:List Addr}{L:List (Int×Int)}
theorem DealsAt.keep{r:Addr}{w n:Int}(D:DealsAt H a ds L)(k:Keep r H H')(hr:H r=some (.lst [.int w,.int n]))(nr:r ∉ ds):DealsAt H' a ds L:=by
 refine⟨k _ _ (fun z=>?_) D.l,D.n,D.nd,D.few,fun i d x hd hx=>k _ _ (fun z=>nr (z ▸ dh hd)) (D.at_ i d x hd hx)⟩;have:=D.l;rw[z,hr]at this
 cases ds with
 | nil=>cases this
 | cons d ds=>injection this with e;injection e with e;injection e with e;cases e
theorem DealsAt.same(D:DealsAt H a ds L)(k:Same H H'):DealsAt H' a ds L:=⟨k _ _ D.l,D.n,D.nd,D.few,fun i d x hd hx=>k _ _ (D.at_ i d x hd hx)⟩
theorem DealsAt.put{p:Addr}{o:HO}(D:DealsAt H a ds L)(h:p ∉ a :: ds):DealsAt (upd H p o) a ds L:=⟨(js (fun z=>h (ak.mpr (.inl z.symm)))).trans D.l,D.n,D.nd,D.few,fun i d x hd hx=>(js (a:=p) (b:=d) (fun (z:d=p)=>h (ao _ (z ▸ dh hd)))).trans (D.at_ i d x hd hx)⟩
theorem DealsAt.ne{l:Addr}(D:DealsAt H a ds L)(hl:H l=some (.lst (xs.map V.str)))(h:l≠a):l ∉ a :: ds:=fun z=>by
 rcases ak.mp z with z | z
 ·exact h z
 ·obtain⟨i,hi,e⟩:=j_ z
  have hi2:i < L.length:=by have:=D.n;omega
  have:=D.at_ i l L[i] (by rw[aE hi,e]) (aE hi2);rw[hl]at this
  cases xs with
  | nil=>cases this
  | cons x xs=>injection this with e;injection e with e;injection e with e;cases e
def kY(xs rs:List Str)(L:List (Int×Int)):Nat->List Cl×List (Int×Int)
 | 0=>([],L)
 | i+1=>
  let p:=kY xs rs L i
  let x:=qI p.2
  (p.1++[(Yf x.1.1 x.1.2 xs rs).1],x.2)
def Ks:Sp:=fun vs H Q _=>∃(a l r:Addr) (ds:List Addr) (L:List (Int×Int)) (m:Nat) (xs rs:List Str),vs=[.ref a,.int (m:Nat),.ref l,.ref r]/\DealsAt H a ds L/\H l=some (.lst (xs.map V.str))/\H r=some (.lst (rs.map V.str))/\l≠a/\r≠a/\xs.length≤100/\rs.length≤100/\m≤100/\∀u H',Out (a :: ds) H H'->DealsAt H' a (ds.drop m) (kY xs rs L m).2->Held H' (.tup ((kY xs rs L m).1.map Cl.toD)) u->Q u H'
section
theorem jdO(F:Fun K "_law_claims" "_law_claims" Zt f fd)(B:Free0 mg)(bG:Fn P w K mg base 1 "_law_next" ["_law_deals"] KN)(cW:Fn P w K mg base 6 "_law_claim" ["_law_deal_here","_law_numbers","_law_rows"] Yu):FnOk P w K mg base CX0 7 f fd ["_law_deals","_law_many_here","_law_numbers","_law_rows"] Ks:=by
 have sc:FnScope ["_law_deals","_law_many_here","_law_numbers","_law_rows"] ["_law_deals","_law_many_here","_law_numbers","_law_rows"] (jn Zt):=fQ;refine F.okZ sc (fun vs H Q E h=>?_) (fun aj A outer s H vs Q E hr h=>?_)
 ·obtain⟨a,l,r,ds,L,m,xs,rs,rfl,_⟩:=h
  rfl
 obtain⟨a,l,r,ds,L,m,xs,rs,rfl,D,hl,hr',na,nr,hz,hz2,hm,q⟩:=h;refine⟨_,(jh (jx (kC j0 (by rfl) B.tuple_ kL (ja (qt ["_law_k"] [0,2,3] rfl (qc (sc:=jn Zt) (N:=["_law_deals","_law_many_here","_law_numbers","_law_rows"]) rfl rfl (by decide +kernel)) (qe (by rfl) B.range_ (ja (zpv 1) jb)) (fun s H ex=>⟨(jm (i:=0) (show br (["_law_k","_law_deals","_law_numbers","_law_rows"]:List Str) by decide +kernel) rfl oQ),kT,(jp cW hr (ja (jp bG hr (ja (zpv 1) jb)) (ja (zpv 2) (ja (zpv 3) jb))))⟩)) jb)))),?_⟩
 try dsimp only[qo]
 refine jG (σ':=[some (.ref a),some (.int (m:Nat)),some (.ref l),some (.ref r)]) rfl ?_;refine⟨_,rfl,_,rfl,(by omega),(by omega),fun p hp=>?_⟩;rw[bS];have npS:p ∉ a :: ds:=fun z=>by
  rcases ak.mp z with z | z
  ·rw[z,D.l]at hp;cases hp
  ·obtain⟨i,hi,e⟩:=j_ z
   have hi2:i < L.length:=by have:=D.n;omega
   rw[D.at_ i p L[i] (by rw[aE hi,e]) (aE hi2)]at hp
   cases hp
 have s0:=ji hp (.lst []);let Pv:Nat->St->Hp->Prop:=fun i σ' G=>∃u us,σ'=[u,some (.ref a),some (.ref l),some (.ref r)]/\Out (a :: ds) H G/\DealsAt G a (ds.drop i) (kY xs rs L i).2/\G p=some (.lst us)/\us.length=i/\HeldL G ((kY xs rs L i).1.map Cl.toD) us
 refine qy Pv ⟨none,[],rfl,fun b o _ e=>s0 _ _ e,D.same s0,jc,rfl,jz⟩ ?_ ?_
 ·rintro i σ' G hi ⟨u,us,rfl,oG,DG,hGp,hul,hus⟩
  have hlG:=oG _ _ (D.ne hl na) hl;have hrG:=oG _ _ (D.ne hr' nr) hr';unfold qA y4;refine kQ ?_;refine⟨_,rfl,a,ds.drop i,_,rfl,DG,fun d1 G1 k1 hd1 e1 nd1 D1=>?_⟩;refine⟨_,rfl,_,rfl,d1,l,r,_,_,xs,rs,rfl,e1,k1 _ _ na hlG,k1 _ _ nr hrG,hz,hz2,fun v G2 k2 e2 h2=>?_⟩;have n1:∀b o,b ∉ a :: ds->G b=some o->b≠d1:=fun b o hb e z=>by
   rcases hd1 with h | h
   ·rw[z,h]at e;cases e
   ·exact hb (ao _ (cz (z ▸ h)))
  have na1:∀b,b ∉ a :: ds->b≠a:=fun b hb z=>hb (z ▸ am ..)
  have st:∀b o,b ∉ a :: ds->G b=some o->G2 b=some o:=fun b o hb e=>k2 _ _ (n1 b o hb e) (k1 _ _ (na1 b hb) e)
  have hG2:=st p _ npS hGp;have tk:TK G (upd G2 p (.lst (us++[v]))):=fun b ys e=>by
   rw[js (fun z=>by rw[z,hGp]at e;cases e)];exact k2.tk e1 _ _ (k1.tk DG.l _ _ e)
  refine⟨_,hG2,ky (by omega),_,us++[v],rfl,fun b o hb e=>?_,?_,jc,by rw[af,hul];rfl,?_⟩
  ·rw[js (jl e hp)]
   exact st _ _ hb (oG _ _ hb e)
  ·have D2:=D1.keep k2 e1 nd1
   rw[List.tail_drop]at D2;exact D2.put (fun z=>npS (by
    rcases ak.mp z with z | z
    ·exact z ▸ am ..
    ·exact ao _ (cz z)))
  ·show HeldL _ (((kY xs rs L i).1++[_]).map Cl.toD) _
   rw[aH];refine qx (tk.heldL hus) ?_;refine TK.held (fun b ys e=>?_) h2;rw[js (fun z=>by rw[z,hG2]at e;cases e)];exact e
 ·rintro σ' G ⟨u,us,rfl,oG,DG,hGp,hul,hus⟩
  refine⟨p,us,rfl,.inl ⟨SqL.of hGp,fun t ht=>?_⟩⟩;have s1:=ji ht (.tup us);exact q _ _ (fun b o hb e=>s1 _ _ (oG _ _ hb e)) (DG.same s1) (jy jc (hus.mono s1))
end
abbrev ZY:Stmt:=top 70
abbrev Hd:Type:=Str×Nat×Nat
def hdD(h:Hd):D:=.tup [.str h.1,.int (h.2.1:Nat),.int (h.2.2:Nat)]
theorem jbT{h:Hd}{v:V}(x:Held H (hdD h) v):∃a,v=.ref a/\H a=some (.tup [.str h.1,.int (h.2.1:Nat),.int (h.2.2:Nat)]):=by
 obtain⟨a,xs,rfl,ha,h1⟩:=jF x;obtain⟨v1,r1,rfl,e1,h2⟩:=jk h1;obtain⟨v2,r2,rfl,e2,h3⟩:=jk h2;obtain⟨v3,r3,rfl,e3,h4⟩:=jk h3
 cases jR h4
 cases jU e1
 cases qN e2
 cases qN e3
 exact⟨a,rfl,ha⟩
structure Wd where
 nl:Addr
 fl:Addr
 rl:Addr
 hl:Addr
structure WorldAt(H:Hp)(wd:Addr)(A:Wd)(xs fr rs:List Str)(hds:List Hd)(left:Int):Prop where
 d:∃kvs,H wd=some (.dK kvs)/\kvs.length≤5/\zG kvs (.inr (aa "numbers"))=some (.ref A.nl)/\zG kvs (.inr (aa "free"))=some (.ref A.fl)/\zG kvs (.inr (aa "rows"))=some (.ref A.rl)/\zG kvs (.inr (aa "heads"))=some (.ref A.hl)/\zG kvs (.inr (aa "left"))=some (.int left)
 n:H A.nl=some (.lst (xs.map V.str))
 f:H A.fl=some (.lst (fr.map V.str))
 r:H A.rl=some (.lst (rs.map V.str))
 h:∃hs,H A.hl=some (.lst hs)/\HeldL H (hds.map hdD) hs
def Jh(rs:List Str)(hds:List Hd):List Hd:=hds.filter fun h=>decide (h.2.2≤rs.length)
theorem jgz{rs:List Str}{hds:List Hd}{i:Nat}(hi:i < hds.length):Jh rs (hds.take (i+1))=Jh rs (hds.take i)++if hds[i].2.2≤rs.length then [hds[i]] else []:=by
 unfold Jh;rw[cL,aE hi,rS];congr 1;show List.filter _ [hds[i]]=_;by_cases h:hds[i].2.2≤rs.length
 ·rw[if_pos h,ge,if_pos (decide_eq_true h),rR]
 ·rw[if_neg h,ge,if_neg (by simpa using h),rR]
def zW(w:Int)(xs:List Str)(n:Int):Nat->List Str×Int
 | 0=>([],n)
 | i+1=>
  let p:=zW w xs n i
  let d:=jj w p.2 ((xs.length:Nat):Int)
  (p.1++[zp xs d.1],d.2)
def qz(w:Int)(rs:List Str)(n:Int):Nat->List Str×Int×List Str
 | 0=>([],n,rs)
 | i+1=>
  let p:=qz w rs n i
  let d:=jj w p.2.1 ((p.2.2.length:Nat):Int)
  (p.1++[zp p.2.2 d.1],d.2,p.2.2.eraseIdx d.1.toNat)
theorem jiM{α β:Type}(f:α->β):∀(l:List α) (k:Nat),(l.map f).eraseIdx k=(l.eraseIdx k).map f
 | [],_=>rfl
 | _ :: _,0=>rfl
 | x :: l,k+1=>congrArg (f x :: ·) (jiM f l k)
theorem Je{H:Hp}:∀xs:List Str,HeldL H (xs.map D.str) (xs.map V.str)
 | []=>jz
 | _ :: xs=>je jw (Je xs)
theorem Zc(w:Int)(xs:List Str)(n:Int):∀i,(zW w xs n i).1.length=i
 | 0=>rfl
 | i+1=>by show (_++[_]).length=_;rw[af,Zc w xs n i];rfl
theorem Kv(w:Int)(rs:List Str)(n:Int):∀i,i≤rs.length->(qz w rs n i).1.length=i/\(qz w rs n i).2.2.length=rs.length - i
 | 0,_=>⟨rfl,rfl⟩
 | i+1,h=>by
  obtain⟨h1,h2⟩:=Kv w rs n i (by omega);refine⟨by show (_++[_]).length=_;rw[af,h1];rfl,?_⟩;have hp:(0:Int) < ((qz w rs n i).2.2.length:Nat):=by omega
  have lo:=jO w (qz w rs n i).2.1 hp;have hi:=jK w (qz w rs n i).2.1 hp;show ((qz w rs n i).2.2.eraseIdx _).length=_;rw[List.length_eraseIdx,if_pos (by omega),h2];omega
def ja8(w n:Int)(x:Str)(xs rs:List Str)(hds:List Hd):Sm×Int:=
 if (Jh rs hds).length=0 then (.set x (.is x) 1,n) else
 let d:=jj w n (((Jh rs hds).length:Nat):Int)
 let h:=(Jh rs hds).getD d.1.toNat ("",0,0)
 let a:=zW w xs d.2 h.2.1
 let b:=qz w rs a.2 h.2.2
 (.call x h.1 a.1 b.1,b.2.1)
def jbq:Sp:=fun vs H Q _=>∃(d wd:Addr) (x:Str) (w n:Int) (A:Wd) (xs fr rs:List Str) (hds:List Hd) (left:Int),vs=[.ref d,.str x,.ref wd]/\H d=some (.lst [.int w,.int n])/\WorldAt H wd A xs fr rs hds left/\0 < xs.length/\xs.length≤100/\rs.length≤100/\hds.length≤100/\(∀h∈hds,h.2.1≤100)/\∀u H',Keep d H H'->H' d=some (.lst [.int w,.int (ja8 w n x xs rs hds).2])->Held H' (ja8 w n x xs rs hds).1.toD u->Q u H'
section
theorem jib(F:Fun K "_law_call" "_law_call" ZY f fd)(B:Free0 mg)(aA:Fn P w K mg base 1 "_law_draw" ["_law_deal_here","_law_many_here"] zv):FnOk P w K mg base CX0 2 f fd ["_law_deal_here","_law_x","_law_world"] jbq:=by
 have sc:FnScope ["_law_deal_here","_law_x","_law_world","_law_rows","_law_some","_law_f","_law_many_here","_law_count","_law_numbers","_law_args"] ["_law_deal_here","_law_x","_law_world"] (jn ZY):=fQ;refine F.okZ sc (fun vs H Q E h=>?_) (fun aj A outer s H vs Q E hr h=>?_)
 ·obtain⟨d,wd,x,w,n,Z,xs,fr,rs,hds,left,rfl,_⟩:=h
  rfl
 obtain⟨d,wd,x,w,n,Z,xs,fr,rs,hds,left,rfl,hd,W,hp,hz,hz2,hz3,hm,q⟩:=h;have hu:(A.deeper (gC "_law_call" (jn ZY) s.heap.objs.size f aj)).units+1 < cLine:=by have:=hr.units;omega
 refine⟨_,(jd (ju (i:=3) sc.nd rfl oQ (kC qk (by rfl) B.list_ yj (ja (zu hu (zpv 2) jf (fun _ _=>rfl)) jb)))
   (jd (zQ (i:=4) sc.nd rfl oQ ["_law_head"] [3] rfl (qc (sc:=jn ZY) (N:=["_law_deal_here","_law_x","_law_world","_law_rows","_law_some","_law_f","_law_many_here","_law_count","_law_numbers","_law_args"]) rfl rfl (by decide +kernel)) (ZH (zu hu (zpv 2) jf (fun _ _=>rfl))) (fun s H ex=>⟨(jm (i:=0) (show br (["_law_head","_law_rows"]:List Str) by decide +kernel) rfl oQ),(jgP (jA jkV (jv (jbL (K:=K)) (zpv 0) jg (fun _ _=>rfl)) (k9 (y0 (K:=K)) (by rfl) B.len_ kJ (ja (zpv 1) jb)) (jD _))),(zpv 0)⟩))
   (jd (jM (jA j5 (k9 jV (by rfl) B.len_ kJ (ja (zpv 4) jb)) jg (jD _)) (jh (jx (jQ (ja jf (ja (zpv 1) (ja (jQ (ja jf (ja (zpv 1) jb))) (ja jg jb))))))) jH)
   (jd (km (jv j9 (zpv 4) (jp aA hr (ja (zpv 0) (ja (k9 jV (by rfl) B.len_ kJ (ja (zpv 4) jb)) jb))) (fun _ _=>rfl)) (kg rfl (jo (jm (i:=5) sc.nd rfl oQ) (jo (jm (i:=6) sc.nd rfl oQ) (jo (jm (i:=7) sc.nd rfl oQ) j4)))))
   (jd (ju (i:=8) sc.nd rfl oQ (zu hu (zpv 2) jf (fun _ _=>rfl)))
   (jd (ju (i:=9) sc.nd rfl oQ (kC j0 (by rfl) B.tuple_ kL (ja (qt ["_law_k"] [0,8] rfl (qc (sc:=jn ZY) (N:=["_law_deal_here","_law_x","_law_world","_law_rows","_law_some","_law_f","_law_many_here","_law_count","_law_numbers","_law_args"]) rfl rfl (by decide +kernel)) (qe (by rfl) B.range_ (ja (zpv 6) jb)) (fun s H ex=>⟨(jm (i:=0) (show br (["_law_k","_law_deal_here","_law_numbers"]:List Str) by decide +kernel) rfl oQ),kT,(jv (jiz (K:=K)) (zpv 2) (jp aA hr (ja (zpv 1) (ja (k9 (y0 (K:=K)) (by rfl) B.len_ kJ (ja (zpv 2) jb)) jb))) (fun _ _=>rfl))⟩)) jb)))
   (jh (jx (jQ (ja jf (ja (zpv 1) (ja (zpv 5) (ja (zpv 9) (ja (kC j0 (by rfl) B.tuple_ kL (ja (qt ["_law_k"] [0,3] rfl (qc (sc:=jn ZY) (N:=["_law_deal_here","_law_x","_law_world","_law_rows","_law_some","_law_f","_law_many_here","_law_count","_law_numbers","_law_args"]) rfl rfl (by decide +kernel)) (qe (by rfl) B.range_ (ja (zpv 7) jb)) (fun s H ex=>⟨(jm (i:=0) (show br (["_law_k","_law_deal_here","_law_rows"]:List Str) by decide +kernel) rfl oQ),kT,(jjj (K:=K) aF f_ iQ jcM (zpv 2) (ja (jp aA hr (ja (zpv 1) (ja (k9 (y0 (K:=K)) (by rfl) B.len_ kJ (ja (zpv 2) jb)) jb))) jb))⟩)) jb)) jb)))))))))))))),?_⟩
 try dsimp only[qo]
 obtain⟨kvs,hw,hk5,kn,kf,kr,kh,kl⟩:=W.d;obtain⟨hs,hhs,hHL⟩:=W.h;have hlen:=hHL.length;rw[ae]at hlen;refine jG (σ':=[some (.ref d),some (.str x),some (.ref wd),none,none,none,none,none,none,none]) rfl ?_;refine Zj ?_;intro _ _ _ _ _ _;refine⟨_,rfl,wd,.ref Z.rl,rfl,.inl ⟨kvs,.inr (aa "rows"),Rd.of hw,rfl,kr.symm⟩,Z.rl,_,rfl,.inl (SqL.of W.r),fun t ht=>?_⟩;have s1:=ji ht (.lst (rs.map V.str));have e1:upd H t (.lst (rs.map V.str)) t=some (.lst (rs.map V.str)):=jc;generalize upd H t (.lst (rs.map V.str))=H1 at *;refine gQ ?_;refine⟨_,rfl,wd,.ref Z.hl,rfl,.inl ⟨kvs,.inr (aa "heads"),Rd.of (s1 _ _ hw),rfl,kh.symm⟩,Z.hl,rfl,⟨_,SqL.of (s1 _ _ hhs)⟩,fun p hp=>?_⟩;let Pv:Nat->St->Hp->Prop:=fun i σ' G=>∃u us,σ'=[u,some (.ref t)]/\Same H1 G/\G p=some (.lst us)/\us.length≤i/\HeldL G ((Jh rs (hds.take i)).map hdD) us
 refine ja5 (xs:=hs) Pv ⟨none,[],rfl,ji hp _,jc,av _,jz⟩ ?_ ?_ ?_
 ·rintro i σ' G _ ⟨u,us,rfl,sG,_⟩
  exact SqL.of (sG _ _ (s1 _ _ hhs))
 ·rintro i v σ' G hx ⟨u,us,rfl,sG,hGp,hlu,hus⟩
  have hi:i < hds.length:=by have:=(bx.mp hx).1;omega
  obtain⟨v',e3,e4⟩:=hHL.get (j:=i) (d:=hdD hds[i]) (by rw[bq,aE hi];rfl);rw[hx]at e3
  cases e3
  have fs:=jgz (rs:=rs) hi;obtain⟨b,rfl,hb⟩:=jbT e4;unfold qA;refine⟨_,rfl,b,_,_,_,rfl,rfl,SqT.of (sG _ _ (s1 _ _ hb)),rfl,_,rfl,t,_,rfl,.inl (SqL.of (sG _ _ e1)),_,_,rfl,rfl,_,rfl,qi (fun z=>?_) (fun z=>?_)⟩
  ·have z':hds[i].2.2≤rs.length:=by have:=of_decide_eq_true z;rw[ae]at this;omega
   rw[if_pos z']at fs;refine⟨_,rfl,_,hGp,ky (by omega),_,us++[.ref b],rfl,fun c o e=>?_,jc,by rw[af];exact c_ hlu,?_⟩
   ·rw[js (jl e hp)];exact sG _ _ e
   ·have tk:TK G (upd G p (.lst (us++[.ref b]))):=fun c ys e=>by rw[js (fun z=>by rw[z,hGp]at e;cases e)];exact e
    rw[fs,aH];exact qx (tk.heldL hus) (tk.held ((e4.mono s1).mono sG))
  ·have z':¬hds[i].2.2≤rs.length:=fun h=>z (decide_eq_true (by rw[ae];omega))
   rw[if_neg z',bF]at fs;exact⟨_,us,rfl,sG,hGp,bv hlu,by rw[fs];exact hus⟩
 rintro σ' G ⟨u,us,rfl,sG,hGp,-,hus⟩;rw[← hlen,cy]at hus;have hful:=hus.length;rw[ae]at hful;have sG0:=s1.trans sG;have hfl:(Jh rs hds).length≤100:=ad (List.length_filter_le _ _) hz3;have hfm:∀h∈Jh rs hds,h.2.1≤100/\h.2.2≤rs.length:=fun h hh=>⟨hm h (gP.mp hh).1,of_decide_eq_true (gP.mp hh).2⟩
 unfold ja8 at q;dsimp only at q;generalize Jh rs hds=fh at *;refine gQ ?_;refine⟨_,rfl,p,_,rfl,.inl (SqL.of hGp),rfl,_,rfl,qi (fun z=>?_) (fun z=>?_)⟩
 ·have z':fh.length=0:=by have:=of_decide_eq_true z;injection this;omega
  rw[if_pos z']at q;refine⟨_,rfl,_,rfl,sm rfl,fun t2 ht2=>⟨sm rfl,fun t3 ht3=>?_⟩⟩;have s2:=ji ht2 (.tup [V.str (aa "is"),V.str x]);have s3:=ji ht3 (.tup [V.str (aa "set"),V.str x,V.ref t2,V.int 1]);exact q _ _ (Keep.same (sG0.trans (s2.trans s3))) (s3 _ _ (s2 _ _ (sG0 _ _ hd))) (jy jc (je jw (je jw (je (jy (s3 _ _ jc) (je jw (je jw jz))) (je ke jz)))))
 have z':¬fh.length=0:=fun h=>z (decide_eq_true (by rw[← hful,h];rfl))
 rw[if_neg z']at q;have lo:=jO w n (m:=(fh.length:Nat)) (by omega);have hi:=jK w n (m:=(fh.length:Nat)) (by omega);have hj:(jj w n (fh.length:Nat)).1.toNat < fh.length:=by omega
 obtain⟨v,ev,hv⟩:=hus.get (j:=(jj w n (fh.length:Nat)).1.toNat) (d:=hdD (fh.getD (jj w n (fh.length:Nat)).1.toNat ("",0,0))) (by rw[bq,aE hj,cg,aE hj];rfl);have hmem:fh.getD (jj w n (fh.length:Nat)).1.toNat ("",0,0)∈fh:=by
  rw[cg,aE hj];exact bW hj
 have hat:atI us (jj w n (fh.length:Nat)).1=some v:=by
  have ek:(jj w n (fh.length:Nat)).1=(((jj w n (fh.length:Nat)).1.toNat:Nat):Int):=by omega
  rw[ek];exact jr ev
 have npd:p≠d:=fun z=>by rw[z,s1 _ _ hd]at hp;cases hp
 have hdG:=sG0 _ _ hd;have k2:=Keep.upd d G (.lst [.int w,.int (jj w n (fh.length:Nat)).2]);have d2:upd G d (.lst [.int w,.int (jj w n (fh.length:Nat)).2]) d=some (.lst [.int w,.int (jj w n (fh.length:Nat)).2]):=jc;have hw2:=k2 wd _ (fun z=>by rw[z,hd]at hw;cases hw) (sG0 _ _ hw);have hn2:=k2.strs hdG (sG0 _ _ W.n);have e2:=k2.strs hdG (sG _ _ e1);obtain⟨hc1,hc2⟩:=hfm _ hmem;obtain⟨b,rfl,hb⟩:=jbT hv;have hb2:=k2.tk hdG _ _ hb;refine⟨_,rfl,_,rfl,_,rfl,p,_,rfl,.inl (SqL.of hGp),d,w,n,(fh.length:Nat),by rw[← hful];rfl,hdG,by omega,by omega,p,_,_,.ref b,rfl,rfl,SqL.of (k2 _ _ npd hGp),hat,?_⟩;generalize upd G d (.lst [.int w,.int (jj w n (fh.length:Nat)).2])=H2 at *;generalize fh.getD (jj w n (fh.length:Nat)).1.toNat ("",0,0)=h at *;generalize (jj w n (fh.length:Nat)).2=n2 at *;have k02:Keep d H H2:=(Keep.same sG0).trans k2;refine⟨b,_,rfl,SqT.of hb2,rfl,_,_,rfl,_,_,rfl,_,_,rfl,rfl,?_⟩;refine jG (σ':=[some (.ref d),some (.str x),some (.ref wd),some (.ref t),some (.ref p),some (.str h.1),some (.int (h.2.1:Nat)),some (.int (h.2.2:Nat)),none,none]) rfl ?_;refine⟨_,rfl,wd,.ref Z.nl,rfl,.inl ⟨kvs,.inr (aa "numbers"),Rd.of hw2,rfl,kn.symm⟩,?_⟩;refine gQ ?_;refine⟨_,rfl,_,rfl,(by omega),(by omega),fun p2 hp2=>?_⟩;rw[bS];have n2d:p2≠d:=fun z=>by rw[z,d2]at hp2;cases hp2
 let Pw:Nat->St->Hp->Prop:=fun i σ' G'=>∃u,σ'=[u,some (.ref d),some (.ref Z.nl)]/\Keep d H2 G'/\G' d=some (.lst [.int w,.int (zW w xs n2 i).2])/\G' p2=some (.lst ((zW w xs n2 i).1.map V.str))
 refine qy Pw ⟨none,rfl,Keep.same (ji hp2 _),(by rw[js n2d.symm];exact d2),jc⟩ ?_ ?_
 ·rintro i σ' G' hi' ⟨u,rfl,kG,dG,hGp2⟩
  have hnG:=kG.strs d2 hn2;have lo:=jO w (zW w xs n2 i).2 (m:=(xs.length:Nat)) (by omega);have hi:=jK w (zW w xs n2 i).2 (m:=(xs.length:Nat)) (by omega);have k4:=Keep.upd d G' (.lst [.int w,.int (jj w (zW w xs n2 i).2 (xs.length:Nat)).2]);have al:=Zc w xs n2 i;unfold qA y4;refine kQ ?_;refine⟨_,rfl,_,rfl,_,rfl,Z.nl,_,rfl,.inl (SqL.of hnG),d,w,_,(xs.length:Nat),by rw[ae];rfl,dG,by omega,by omega,Z.nl,_,_,_,rfl,rfl,SqL.of (k4.strs dG hnG),yk lo hi,_,k4 _ _ n2d hGp2,ky (by rw[ae];omega),_,rfl,fun c o hc e=>?_,?_,?_⟩
  ·rw[js (jl e hp2)];exact k4 _ _ hc (kG _ _ hc e)
  ·rw[js n2d.symm];exact jc
  ·rw[jc]
   show _=some (HO.lst (((zW w xs n2 i).1++[_]).map V.str));rw[aH];rfl
 rintro σ' G' ⟨u,rfl,kG,dG,hGp2⟩;refine⟨p2,_,rfl,.inl ⟨SqL.of hGp2,fun t4 ht4=>?_⟩⟩;have s5:=ji ht4 (.tup ((zW w xs n2 h.2.1).1.map V.str));have e5:upd G' t4 (.tup ((zW w xs n2 h.2.1).1.map V.str)) t4=some (.tup ((zW w xs n2 h.2.1).1.map V.str)):=jc;have k25:=kG.trans (Keep.same s5);have d5:=s5 _ _ dG;generalize upd G' t4 (.tup ((zW w xs n2 h.2.1).1.map V.str))=H5 at *;have t5:=k25.strs d2 e2;generalize zW w xs n2 h.2.1=ar at *;refine gQ ?_;refine⟨_,rfl,_,rfl,_,rfl,_,rfl,_,rfl,(by omega),(by omega),fun p3 hp3=>?_⟩;rw[bS];have n3d:p3≠d:=fun z=>by rw[z,d5]at hp3;cases hp3
 have n3t:p3≠t:=fun z=>by rw[z,t5]at hp3;cases hp3
 have ntd:t≠d:=fun z=>by rw[z,hd]at ht;cases ht
 let Px:Nat->St->Hp->Prop:=fun i σ' G=>∃u,σ'=[u,some (.ref d),some (.ref t)]/\(∀b o,b≠d->b≠t->H5 b=some o->G b=some o)/\G d=some (.lst [.int w,.int (qz w rs ar.2 i).2.1])/\G t=some (.lst ((qz w rs ar.2 i).2.2.map V.str))/\G p3=some (.lst ((qz w rs ar.2 i).1.map V.str))
 refine qy Px ⟨none,rfl,fun b o _ _ e=>ji hp3 _ _ _ e,(by rw[js n3d.symm];exact d5),(by rw[js n3t.symm];exact t5),jc⟩ ?_ ?_
 ·rintro i σ' G hi' ⟨u,rfl,kG,dG,tG,hGp3⟩
  obtain⟨pl1,pl2⟩:=Kv w rs ar.2 i (by omega);have es:qz w rs ar.2 (i+1)=((qz w rs ar.2 i).1++[zp (qz w rs ar.2 i).2.2 (jj w (qz w rs ar.2 i).2.1 (((qz w rs ar.2 i).2.2.length:Nat):Int)).1],(jj w (qz w rs ar.2 i).2.1 (((qz w rs ar.2 i).2.2.length:Nat):Int)).2,(qz w rs ar.2 i).2.2.eraseIdx (jj w (qz w rs ar.2 i).2.1 (((qz w rs ar.2 i).2.2.length:Nat):Int)).1.toNat):=rfl;show _;generalize qz w rs ar.2 i=pp at *;obtain⟨dn,mm,lf⟩:=pp;dsimp only at pl1 pl2 dG tG hGp3 es;have lo:=jO w mm (m:=(lf.length:Nat)) (by omega);have hi:=jK w mm (m:=(lf.length:Nat)) (by omega);have k6:=Keep.upd d G (.lst [.int w,.int (jj w mm (lf.length:Nat)).2]);have hk:(jj w mm (lf.length:Nat)).1.toNat < lf.length:=by omega
  unfold qA y4;refine kQ ?_;refine⟨_,rfl,.inl ⟨rfl,_,SqL.of tG⟩,_,rfl,_,rfl,t,_,rfl,.inl (SqL.of tG),d,w,mm,(lf.length:Nat),by rw[ae];rfl,dG,by omega,by omega,?_⟩;refine⟨t,_,_,(jj w mm (lf.length:Nat)).1.toNat,.str (zp lf (jj w mm (lf.length:Nat)).1),rfl,rfl,k6 _ _ ntd tG,by omega,by omega,PySem.StrLaws.seqIndex_nonneg lo (by rw[ae];exact hi),?_,dn.map V.str,?_,ky (by rw[ae];omega),?_⟩
  ·rw[bq,aE hk]
   unfold zp;rw[cg,aE hk];rfl
  ·rw[js n3t];exact k6 _ _ n3d hGp3
  ·refine⟨_,rfl,fun c o hc hc2 e=>?_,?_,?_,?_⟩
   ·rw[js (jl e hp3),js hc2];exact k6 _ _ hc (kG _ _ hc hc2 e)
   ·rw[es,js n3d.symm,js ntd.symm];exact jc
   ·rw[es,js n3t.symm,jc,jiM]
   ·rw[es,jc,aH];rfl
 rintro σ' G ⟨u,rfl,kG,dG,tG,hGp3⟩;refine⟨p3,_,rfl,.inl ⟨SqL.of hGp3,fun t6 ht6=>⟨sm rfl,fun t7 ht7=>?_⟩⟩⟩;have s6:=ji ht6 (.tup ((qz w rs ar.2 h.2.2).1.map V.str));have s7:=ji ht7 (.tup [V.str (aa "call"),V.str x,V.str h.1,V.ref t4,V.ref t6]);refine q _ _ (fun c o hc e=>?_) (s7 _ _ (s6 _ _ dG)) ?_
 ·exact s7 _ _ (s6 _ _ (kG _ _ hc (jl e ht) (k25 _ _ hc (k02 _ _ hc e))))
 ·have n4d:t4≠d:=fun z=>by rw[z,d5]at e5;cases e5
  have n4t:t4≠t:=fun z=>by rw[z,t5]at e5;cases e5
  refine jy jc (je jw (je jw (je jw (je (jy (s7 _ _ (s6 _ _ (kG _ _ n4d n4t e5))) ?_) (je (jy (s7 _ _ jc) ?_) jz)))))
  ·exact Je _
  ·exact Je _
end
end LW
namespace L2
open PySem PySem.Spec PyProof.Rows PySem.W PySem.Builtin PySem.Builtin.Str
section
variable {X:Cx}
theorem jil:MtR X "str.index" (fun x vs H Q=>∃(z y:Str) (i:Nat) (r:List Nat),x=.str z/\vs=[.str y]/\occurrences z y 0 z.length 1=i :: r/\Q (.int (i:Nat)) H):=by
 intro ac s σ H x xs v us Q I rx rs h;obtain⟨z,y,i,r,rfl,rfl,ho,q⟩:=h;obtain⟨t,rfl⟩:=rx;obtain⟨u,rfl,t',rfl⟩:=zh rs;exact SC.index ho ⟨.int (i:Nat),H,I.tok _,⟨_,rfl⟩,q⟩
end
end L2
namespace LW
open PySem L2
def wdS(l:List Nat):Str:=⟨l.toArray⟩
theorem Jn(l:List Nat):(wdS l).cps.toList=l:=rfl
theorem Jm(l:List Nat):(wdS l).length=l.length:=by show l.toArray.size=_;simp
theorem jjk{l m:List Nat}(h:wdS l=wdS m):l=m:=by rw[← Jn l,h];rfl
theorem Kp(l m:List Nat):wdS l++wdS m=wdS (l++m):=zR (by rw[gw,dR];rfl)
theorem jkj:∀ys:List Nat,bZ "" (ys.map fun c=>wdS [c])=wdS ys:=by
 intro ys;have e:bZ "" (ys.map fun c=>wdS [c])=("" : Str).join (ys.map fun c=>wdS [c]):=fz _ _;rw[e];clear e;induction ys with
 | nil=>rfl
 | cons y r ih=>
  cases r with
  | nil=>rfl
  | cons z r=>
   show ((wdS [y]++wdS [])++("" : Str).join ((z :: r).map fun c=>wdS [c]))=_;rw[ih,Kp,Kp];rfl
def Yi:Str:="abcdefghijklmnopqrstuvwxyz"
theorem jjb:Yi.cps.toList=(b9 26).map (·+97):=by decide +kernel
theorem jjc{i:Int}(h0:0≤i)(h1:i < 26):atI Yi.cps.toList i=some (i.toNat+97):=by
 have hk:i.toNat < 26:=by omega
 have:=jr (xs:=Yi.cps.toList) (j:=i.toNat) (v:=i.toNat+97) (by rw[jjb,bq,List.getElem?_range hk];rfl);rw[show ((i.toNat:Nat):Int)=i by omega]at this;exact this
variable {i:Nat}
theorem jl8(h:i < 26):my Yi (wdS [i+97]) 0 Yi.length 1=[i]:=by
 have:∀i < 26,my Yi (wdS [i+97]) 0 Yi.length 1=[i]:=by decide +kernel
 exact this i h
def NmW(z:Str):Prop:=∃i r,z=wdS ((i+97) :: r)/\i < 26/\r.length≤7
def qX(w n:Int):Nat->List Nat×Int
 | 0=>([],n)
 | i+1=>
  let p:=qX w n i
  let d:=jj w p.2 26
  (p.1++[d.1.toNat+97],d.2)
theorem Kx(w n:Int):∀i,(qX w n i).1.length=i
 | 0=>rfl
 | i+1=>by show (_++[_]).length=_;rw[af,Kx w n i];rfl
theorem jcQ(w n:Int)(i:Nat)(hi:i≤7):NmW (wdS (qX w n (i+1)).1):=by
 have:∀i,∃k r,(qX w n (i+1)).1=(k+97) :: r/\k < 26:=by
  intro i;induction i with
  | zero=>
   refine⟨(jj w n 26).1.toNat,[],rfl,?_⟩;have:=jK w n (m:=26) (by decide);have:=jO w n (m:=26) (by decide);omega
  | succ i ih=>
   obtain⟨k,r,e,h⟩:=ih;exact⟨k,r++[_],by show (qX w n (i+1)).1++[_]=_;rw[e];rfl,h⟩
 obtain⟨k,r,e,h⟩:=this i;have hl:=Kx w n (i+1);rw[e]at hl;have:r.length+1=i+1:=hl;exact⟨k,r,by rw[e],h,by omega⟩
def ch0(z:Str):Nat:=z.cps.toList.getD 0 0
def Jb(w n:Int):Str×Int:=
 let a:=jj w n 8
 let b:=qX w a.2 (1+a.1).toNat
 (wdS b.1,b.2)
def chg(last z:Str)(i:Int):Str:=yZ last none (some i)++wdS [ch0 z]++yZ last (some (i+1)) none
def Ja(w n:Int)(last z:Str):Str×Int:=
 let a:=jj w n 3
 if a.1=0/\1 < last.length then
  let b:=jj w a.2 ((last.length:Nat):Int)
  (chg last z b.1,b.2)
 else (z,a.2)
def jcg:List Str:=["row","is","at","least","set","put","know","lose","proc","pick"]
def YE(w n:Int)(z:Str):Str×Int:=
 let a:=jj w n 6
 if a.1=0 then
  let b:=jj w a.2 10
  (zp jcg b.1,b.2)
 else (z,a.2)
def jku(z:Str):Str:=wdS [(ch0 z - 97+1) % 26+97]++yZ z (some 1) none
def Jf(tk:List Str):Nat->Str->Str
 | 0,z=>z
 | k+1,z=>if z∈tk then Jf tk k (jku z) else z
def qb(tk:List Str):Str:=tk.getLastD ""
def qu(w n:Int)(tk:List Str):Str×Int:=
 let a:=Jb w n
 let b:=Ja w a.2 (qb tk) a.1
 let c:=YE w b.2 b.1
 (Jf tk 26 c.1,c.2)
theorem nm1(w n:Int):NmW (Jb w n).1:=by
 unfold Jb;have h0:=jO w n (m:=8) (by decide);have h1:=jK w n (m:=8) (by decide);show NmW (wdS (qX w (jj w n 8).2 (1+(jj w n 8).1).toNat).1);rw[show (1+(jj w n 8).1).toNat=(jj w n 8).1.toNat+1 by omega];exact jcQ _ _ _ (by omega)
theorem jek(c:Nat)(r:List Nat):ch0 (wdS (c :: r))=c:=rfl
theorem jmO(c:Nat)(r:List Nat):yZ (wdS (c :: r)) (some 1) none=wdS r:=by
 refine zR ?_;rw[zM,HT.sIx_none,show (some (1:Int))=some ((1:Nat):Int) from rfl,HT.sIx_nat,Jm,Jn];rw[show min 1 (c :: r).length=1 by simp only[aw];omega,List.drop_succ_cons,fL,Jn];exact de (by simp)
theorem ji2(c d:Nat)(r s:List Nat)(k:Nat)(hk:k < (c :: r).length):chg (wdS (c :: r)) (wdS (d :: s)) (k:Nat)=wdS ((c :: r).take k++d :: (c :: r).drop (k+1)):=by
 unfold chg;rw[jek];have e1:yZ (wdS (c :: r)) none (some ((k:Nat):Int))=wdS ((c :: r).take k):=by
  refine zR ?_;rw[zM,HT.sIx_none,HT.sIx_nat,Jm,Jn,Jn,fL,gJ,gL (by omega)]
 have e2:yZ (wdS (c :: r)) (some (((k:Nat):Int)+1)) none=wdS ((c :: r).drop (k+1)):=by
  refine zR ?_;rw[zM,HT.sIx_none,show ((k:Nat):Int)+1=((k+1:Nat):Int) from rfl,HT.sIx_nat,Jm,Jn,Jn,gL (by omega)];exact de (by rw[cB];omega)
 rw[e1,e2,Kp,Kp,aG];rfl
variable {w n:Int}{z:Str}
theorem nm2{last:Str}(hl:NmW last)(hz:NmW z):NmW (Ja w n last z).1:=by
 unfold Ja;dsimp only;split
 ·rename_i c
  obtain⟨i,r,rfl,hi,hr⟩:=hl;obtain⟨j,s,rfl,hj,hs⟩:=hz;have hp:(0:Int) < ((wdS ((i+97) :: r)).length:Nat):=by have:=c.2;omega
  have h0:=jO w (jj w n 3).2 hp;have h1:=jK w (jj w n 3).2 hp;generalize (jj w (jj w n 3).2 (((wdS ((i+97) :: r)).length:Nat):Int)).1=k at h0 h1;show NmW (chg _ _ k);obtain⟨k,rfl⟩:∃m:Nat,k=(m:Nat):=⟨k.toNat,by omega⟩
  rw[Jm]at h1;rw[ji2 _ _ _ _ _ (by omega)]
  cases k with
  | zero=>exact⟨j,r,rfl,hj,hr⟩
  | succ k=>
   refine⟨i,r.take k++(j+97) :: r.drop (k+1),rfl,hi,?_⟩;simp only[aw]at h1;rw[af,aw,cA,cB];omega
 ·exact hz
theorem jkW(h:(match z.cps.toList with | c :: r=>decide (97≤c/\c < 123/\r.length≤7) | []=>false)=true):NmW z:=by
 obtain⟨⟨l⟩⟩:=z
 cases l with
 | nil=>cases h
 | cons c r=>
  have:=of_decide_eq_true h;refine⟨c - 97,r,?_,by omega,this.2.2⟩;rw[p_ this.1];rfl
theorem nm3(hz:NmW z):NmW (YE w n z).1:=by
 unfold YE;dsimp only;split
 ·have h:=J7 (xs:=jcg) (jO w (jj w n 6).2 (m:=10) (by decide)) (jK w (jj w n 6).2 (m:=10) (by decide))
  have all:∀x∈jcg,(match x.cps.toList with | c :: r=>decide (97≤c/\c < 123/\r.length≤7) | []=>false)=true:=by decide +kernel
  exact jkW (all _ h)
 ·exact hz
theorem zz:∀x∈jS,NmW x:=fun x hx=>jkW ((by decide +kernel:∀x∈jS,(match x.cps.toList with | c :: r=>decide (97≤c/\c < 123/\r.length≤7) | []=>false)=true) x hx)
theorem jfv(hi:i < 26)(r:List Nat):jku (wdS ((i+97) :: r))=wdS (((i+1) % 26+97) :: r):=by
 unfold jku;rw[jek,jmO,Kp,Nat.add_sub_cancel];rfl
theorem jaZ{tk:List Str}(h:z ∉ tk):∀k,Jf tk k z=z
 | 0=>rfl
 | k+1=>by unfold Jf;rw[if_neg h]
theorem jcY{tk:List Str}(h:z∈tk)(k:Nat):Jf tk (k+1) z=Jf tk k (jku z):=by rw[Jf,if_pos h]
theorem jaz{tk:List Str}{r:List Nat}{m:Nat}(hm:m≤26)(h:∀k < m,wdS (((i+k) % 26+97) :: r)∈tk):m≤tk.length:=by
 have nd:((b9 m).map fun k=>wdS (((i+k) % 26+97) :: r)).Nodup:=by
  refine List.pairwise_map.mpr ((List.nodup_range).imp_of_mem ?_);intro a b ha hb hab e;have ha:=fJ.mp ha;have hb:=fJ.mp hb;have:=(eR (jjk e)).1;omega
 have sub:∀x∈((b9 m).map fun k=>wdS (((i+k) % 26+97) :: r)),x∈tk:=fun x hx=>by
  obtain⟨k,hk,rfl⟩:=b_.mp hx;exact h k (fJ.mp hk)
 have:=jij nd sub;rw[ae,i7]at this;exact this
theorem jiH{tk:List Str}(ht:tk.length≤25){r:List Nat}(hr:r.length≤7):∀(k m:Nat),m+k=26->(∀j < m,wdS (((i+j) % 26+97) :: r)∈tk)->NmW (Jf tk k (wdS (((i+m) % 26+97) :: r)))/\Jf tk k (wdS (((i+m) % 26+97) :: r)) ∉ tk:=by
 intro k;induction k with
 | zero=>
  intro m hm h;have:=jaz (m:=m) (by omega) h;omega
 | succ k ih=>
  intro m hm h;by_cases hz:wdS (((i+m) % 26+97) :: r)∈tk
  ·rw[jcY hz,jfv (gK _ (by decide)),show ((i+m) % 26+1) % 26=(i+(m+1)) % 26 by omega]
   refine ih (m+1) (by omega) (fun j hj=>?_);rcases re.mp hj with hj | rfl
   ·exact h j hj
   ·exact hz
  ·rw[jaZ hz]
   exact⟨⟨_,r,rfl,gK _ (by decide),hr⟩,hz⟩
theorem jac(w n:Int){tk:List Str}(hn:tk≠[])(ht:tk.length≤25)(h:∀z∈tk,NmW z):NmW (qu w n tk).1/\(qu w n tk).1 ∉ tk:=by
 unfold qu;dsimp only;have hl:NmW (qb tk):=h _ (by unfold qb;rw[i9,gS hn];exact gR hn);have h3:=nm3 (w:=w) (n:=(Ja w (Jb w n).2 (qb tk) (Jb w n).1).2) (nm2 (w:=w) (n:=(Jb w n).2) hl (nm1 w n));generalize (YE w (Ja w (Jb w n).2 (qb tk) (Jb w n).1).2 (Ja w (Jb w n).2 (qb tk) (Jb w n).1).1).1=z at h3 ⊢;obtain⟨i,r,rfl,hi,hr⟩:=h3;have:=jiH (i:=i) ht hr 26 0 rfl (fun j hj=>absurd hj (iY _));rw[show (i+0) % 26=i by omega]at this;exact this
abbrev jeL:Stmt:=top 63
def jdr:Sp:=fun vs H Q _=>∃(d l:Addr) (w n:Int) (tk:List Str),vs=[.ref d,.ref l]/\H d=some (.lst [.int w,.int n])/\H l=some (.lst (tk.map V.str))/\tk≠[]/\tk.length≤25/\(∀z∈tk,NmW z)/\∀H',(∀b o,b≠d->b≠l->H b=some o->H' b=some o)->H' d=some (.lst [.int w,.int (qu w n tk).2])->H' l=some (.lst ((tk++[(qu w n tk).1]).map V.str))->Q (.str (qu w n tk).1) H'
variable {H:Hp}
theorem jfH{c:TT}{tb:TS}{D:Ends}{σ:St}(Pv:Nat->St->Hp->Prop)(n:Nat)(h0:Pv n σ H)
  (hs:∀m σ H,Pv m σ H->c σ H fun b H1=>if b=true then tb { D with nx:=fun σ' H'=>∃m',m' < m/\Pv m' σ' H',ct:=fun σ' H'=>∃m',m' < m/\Pv m' σ' H',bk:=D.nx } σ H1 else D.nx σ H1)
  (mono:∀σ H Q Q',(∀b H1,Q b H1->Q' b H1)->c σ H Q->c σ H Q'):jdn c tb D σ H:=by
 refine⟨Pv,⟨n,h0⟩,fun m σ H p=>mono σ H _ _ (fun b H1 q=>?_) (hs m σ H p)⟩
 cases b with
 | true=>exact⟨_,fun σ' H' h=>h,q⟩
 | false=>exact q
theorem jkx{tk:List Str}(h:tk≠[]):atI (tk.map V.str) (-1)=some (.str (qb tk)):=by
 have hp:0 < tk.length:=rJ.mpr h;have e:=gS h;rw[rN]at e;unfold atI ixN qb;rw[if_neg (by decide),if_pos (by rw[ae];omega),i9,rN,e];show (tk.map V.str)[_]?=_;rw[bq,show (-1+((tk.map V.str).length:Int)).toNat=tk.length - 1 by rw[ae];omega,e];rfl
theorem jdS(h:NmW z):z.length≤8:=by
 obtain⟨i,r,rfl,-,h⟩:=h;rw[Jm,aw];omega
variable {P:Program}{K:ah}{mg:Str->Option Value}{base:Heap}{f:Addr}{fd:aq}
section
variable {w:World}
theorem jj0(F:Fun K "_law_name" "_law_name" jeL f fd)(B:Free0 mg)(aA:Fn P w K mg base 1 "_law_draw" ["_law_deal_here","_law_many_here"] zv):FnOk P w K mg base CX0 2 f fd ["_law_deal_here","_law_taken_here"] jdr:=by
 have sc:FnScope ["_law_deal_here","_law_taken_here","_law_letters","_law_word","_law_at"] ["_law_deal_here","_law_taken_here"] (jn jeL):=fQ;refine F.okZ sc (fun vs H Q E h=>?_) (fun aj A outer s H vs Q E hr h=>?_)
 ·obtain⟨d,l,w,n,tk,rfl,_⟩:=h
  rfl
 obtain⟨d,l,w,n,tk,rfl,hd,hl,hne,ht,hnm,q⟩:=h;have hu:=jk1 hr;refine⟨_,(jd (ju (i:=2) sc.nd rfl oQ jf)
   (jd (ju (i:=3) sc.nd rfl oQ (jN be eK eI yO jf (ja (qt ["_law_k"] [0,2] rfl (qc (sc:=jn jeL) (N:=["_law_deal_here","_law_taken_here","_law_letters","_law_word","_law_at"]) rfl rfl (by decide +kernel)) (qe (by rfl) B.range_ (ja (jt zy jg (jp aA hr (ja (zpv 0) (ja jg jb)))) jb)) (fun s H ex=>⟨(jm (i:=0) (show br (["_law_k","_law_deal_here","_law_letters"]:List Str) by decide +kernel) rfl oQ),kT,(jv jbM (zpv 2) (jp aA hr (ja (zpv 1) (ja jg jb))) (fun _ _=>rfl))⟩)) jb)))
   (jd (jM (yJ (jA j5 (jp aA hr (ja (zpv 0) (ja jg jb))) jg (jD _)) (yn (jA KI (k9 zD (by rfl) B.len_ kJ (ja (jv j9 (zpv 1) (JD JI jg) (fun _ _=>rfl)) jb)) jg (jD _)))).pt (jd (ju (i:=4) sc.nd rfl oQ (jp aA hr (ja (zpv 0) (ja (k9 zD (by rfl) B.len_ kJ (ja (jv j9 (zpv 1) (JD JI jg) (fun _ _=>rfl)) jb)) jb))))
   (jh (ju (i:=3) sc.nd rfl oQ (jt jq (jt jq (kD YV (jv j9 (zpv 1) (JD JI jg) (fun _ _=>rfl)) kU (kO (zpv 4))) (jv jbM (zpv 3) jg (fun _ _=>rfl))) (kD YV (jv j9 (zpv 1) (JD JI jg) (fun _ _=>rfl)) (kO (jt zy (zpv 4) jg)) kU))))) jH)
   (jd (jM (jA j5 (jp aA hr (ja (zpv 0) (ja jg jb))) jg (jD _)) (jh (ju (i:=3) sc.nd rfl oQ (jv j9 (jT (ja jf (ja jf (ja jf (ja jf (ja jf (ja jf (ja jf (ja jf (ja jf (ja jf jb))))))))))) (jp aA hr (ja (zpv 0) (ja jg jb))) (fun _ _=>rfl)))) jH)
   (jd (jfF cu (jA (jdL (K:=K)) (zpv 3) (zpv 1) rfl) (jh (ju (i:=3) sc.nd rfl oQ (jt jq (jv jbM (zpv 2) (jt yW (jt zy (jN be PySem.F.slot_str_index PySem.F.type_str_index jil (zpv 2) (ja (jv jbM (zpv 3) jg (fun _ _=>rfl)) jb)) jg) jg) (fun _ _=>rfl)) (kD YV (zpv 3) (kO jg) kU)))))
   (jd (jC (jN aF aS aR jW (zpv 1) (ja (zpv 3) jb)))
   (jh (jx (zpv 3))))))))),?_⟩
 try dsimp only[qo]
 refine Zj ?_;intro _ _ _ _ _ _
 try dsimp only[qo]
 refine jG (σ':=[some (.ref d),some (.ref l),none,none,none]) rfl ?_;have hab:Yi.length≤au:=by show 26≤au;rw[fT];decide
 have hld:l≠d:=fun z=>by
  rw[z,hd]at hl;injection hl with e;injection e with e
  cases tk with
  | nil=>cases e
  | cons x xs=>injection e with e;cases e
 unfold qu Jb at q;dsimp only at q;have a1:=jO w n (m:=8) (by decide);have a2:=jK w n (m:=8) (by decide);refine⟨rfl,_,rfl,d,w,n,8,rfl,hd,by decide,by decide,_,_,rfl,rfl,?_⟩;have k0:=Keep.upd d H (.lst [.int w,.int (jj w n 8).2]);have d0:upd H d (.lst [.int w,.int (jj w n 8).2]) d=some (.lst [.int w,.int (jj w n 8).2]):=jc;generalize upd H d (.lst [.int w,.int (jj w n 8).2])=H0 at *;generalize jj w n 8=x at *;obtain⟨x,n1⟩:=x;dsimp only at q a1 a2 d0 ⊢;refine⟨_,rfl,(by omega),(by omega),fun p hp=>?_⟩;have npd:p≠d:=fun z=>by rw[z,d0]at hp;cases hp
 let Pv:Nat->St->Hp->Prop:=fun i σ' G=>∃u,σ'=[u,some (.ref d),some (.str Yi)]/\Keep d H0 G/\G d=some (.lst [.int w,.int (qX w n1 i).2])/\G p=some (.lst (((qX w n1 i).1.map fun c=>wdS [c]).map V.str))
 refine qy Pv ⟨none,rfl,Keep.same (ji hp _),(by rw[js npd.symm];exact d0),jc⟩ ?_ ?_
 ·rintro i σ' G hi ⟨u,rfl,kG,dG,hGp⟩
  have lo:=jO w (qX w n1 i).2 (m:=26) (by decide);have hi2:=jK w (qX w n1 i).2 (m:=26) (by decide);have k4:=Keep.upd d G (.lst [.int w,.int (jj w (qX w n1 i).2 26).2]);have al:=Kx w n1 i;unfold qA y4;refine kQ ?_;refine⟨_,rfl,_,rfl,d,w,_,26,rfl,dG,by decide,by decide,Yi,_,_,rfl,rfl,hab,jjc lo hi2,_,k4 _ _ npd hGp,ky (by rw[ae,ae];omega),_,rfl,fun c o hc e=>?_,?_,?_⟩
  ·rw[js (jl e hp)];exact k4 _ _ hc (kG _ _ hc e)
  ·rw[js npd.symm];exact jc
  ·rw[jc]
   show _=some (HO.lst ((((qX w n1 i).1++[_]).map fun c=>wdS [c]).map V.str));rw[aH,aH];rfl
 rintro σ' G ⟨u,rfl,kG,dG,hGp⟩;have al:=Kx w n1 (1+x).toNat;have kH:=k0.trans kG;have hlG:=kH.strs hd hl;have hz1:((((qX w n1 (1+x).toNat).1.map fun c=>wdS [c]).map (·.length)).sum+((qX w n1 (1+x).toNat).1.map fun c=>wdS [c]).length * (aa "").length≤16777216):=by
  have e0:(aa "").length=0:=rfl;rw[e0,Nat.mul_zero,mN,List.map_map];have:∀l:List Nat,(l.map ((fun z:Str=>z.length) ∘ fun c=>wdS [c])).sum=l.length:=by
   intro l;induction l with
   | nil=>rfl
   | cons c l ih=>rw[aX,i4,ih,aw];show 1+_=_;omega
  rw[this];omega
 refine⟨aa "",p,_,rfl,rfl,SqL.of hGp,hz1,?_⟩;rw[show bZ (aa "") ((qX w n1 (1+x).toNat).1.map fun c=>wdS [c])=wdS (qX w n1 (1+x).toNat).1 from jkj _];have w1:NmW (wdS (qX w n1 (1+x).toNat).1):=by
  rw[show (1+x).toNat=x.toNat+1 by omega];exact jcQ _ _ _ (by omega)
 generalize qX w n1 (1+x).toNat=r1 at *;obtain⟨r1,n2⟩:=r1;dsimp only at q dG w1 ⊢;generalize wdS r1=z1 at *;have hlast:atI (tk.map V.str) (-1)=some (.str (qb tk)):=jkx hne;have hll:NmW (qb tk):=hnm _ (by unfold qb;rw[i9,gS hne];exact gR hne);have hl8:=jdS hll;have w2:=nm2 (w:=w) (n:=n2) hll w1;refine gQ ?_;refine jju (fun σ G2=>∃u,σ=[some (.ref d),some (.ref l),some (.str Yi),some (.str (Ja w n2 (qb tk) z1).1),u]/\Keep d H G2/\G2 d=some (.lst [.int w,.int (Ja w n2 (qb tk) z1).2])) ?_ (fun kk=>?_);rotate_left
 ·unfold Ja at kk
  dsimp only at kk;have k5:=Keep.upd d G (.lst [.int w,.int (jj w n2 3).2]);have d5:upd G d (.lst [.int w,.int (jj w n2 3).2]) d=some (.lst [.int w,.int (jj w n2 3).2]):=jc;refine⟨_,rfl,d,w,n2,3,rfl,dG,by decide,by decide,rfl,_,rfl,?_⟩;have hl5:=k5.strs dG hlG;generalize upd G d (.lst [.int w,.int (jj w n2 3).2])=G5 at *;generalize jj w n2 3=x3 at *;obtain⟨x3,n3⟩:=x3;dsimp only at kk d5 ⊢;refine qi (fun c=>?_) (fun c=>?_)
  ·have c':x3=0:=by have:=of_decide_eq_true c;injection this
   refine⟨_,rfl,_,rfl,l,_,_,_,rfl,rfl,SqL.of hl5,hlast,qb tk,rfl,jL (by omega),_,_,rfl,rfl,_,rfl,qi (fun c2=>?_) (fun c2=>?_)⟩
   ·have c2':1 < (qb tk).length:=by have:=of_decide_eq_true c2;omega
    rw[if_pos ⟨c',c2'⟩]at kk;have lo:=jO w n3 (m:=((qb tk).length:Nat)) (by omega);have hi:=jK w n3 (m:=((qb tk).length:Nat)) (by omega);have k6:=Keep.upd d G5 (.lst [.int w,.int (jj w n3 ((qb tk).length:Nat)).2]);have d6:upd G5 d (.lst [.int w,.int (jj w n3 ((qb tk).length:Nat)).2]) d=some (.lst [.int w,.int (jj w n3 ((qb tk).length:Nat)).2]):=jc;refine⟨_,rfl,_,rfl,_,rfl,l,_,_,_,rfl,rfl,SqL.of hl5,hlast,qb tk,rfl,jL (by omega),d,w,n3,((qb tk).length:Nat),rfl,d5,by omega,by omega,?_⟩;have hl6:=k6.strs d5 hl5;generalize upd G5 d (.lst [.int w,.int (jj w n3 ((qb tk).length:Nat)).2])=G6 at *;generalize jj w n3 ((qb tk).length:Nat)=x4 at *;obtain⟨x4,n4⟩:=x4;dsimp only at kk d6 lo hi ⊢;refine gQ ?_;obtain⟨x4,rfl⟩:∃m:Nat,x4=(m:Nat):=⟨x4.toNat,by omega⟩
    have zl:=jdS w1;obtain⟨ci,cr,e1,-,-⟩:=w1;obtain⟨li,lr,e2,-,e4⟩:=hll;have e3:=ji2 (li+97) (ci+97) lr cr x4 (by rw[e2,Jm]at hi;omega);rw[← e2,← e1]at e3;have c0:atI z1.cps.toList 0=some (ch0 z1):=by rw[e1];exact jr (j:=0) rfl
    have cl1:=KF (qb tk) none (some (x4:Int));have cl2:=KF (qb tk) (some ((x4:Int)+1)) none;refine⟨_,rfl,_,rfl,l,_,_,_,rfl,rfl,SqL.of hl6,hlast,_,rfl,_,rfl,qb tk,rfl,jL (by omega),_,rfl,z1,0,_,rfl,rfl,jL (by omega),c0,_,_,rfl,rfl,?_,?_⟩
    ·exact jL (by show _+1≤_;omega)
    refine⟨_,rfl,_,rfl,l,_,_,_,rfl,rfl,SqL.of hl6,hlast,_,rfl,_,_,rfl,rfl,_,rfl,qb tk,rfl,jL (by omega),_,_,rfl,rfl,jL ?_,?_⟩
    ·rw[aU]
     show _+1+_≤_;omega
    refine kk _ _ ⟨_,rfl,kH.trans (k5.trans k6),d6⟩
   ·rw[if_neg (fun h=>c2 (decide_eq_true (by have:=h.2;omega)))]at kk
    exact kk _ _ ⟨_,rfl,kH.trans k5,d5⟩
  ·rw[if_neg (fun h=>c (decide_eq_true (congrArg V.int h.1)))]at kk
   exact kk _ _ ⟨_,rfl,kH.trans k5,d5⟩
 rintro σ G2 ⟨u5,rfl,kG2,dG2⟩;clear kG dG hlG;have hl2:=kG2.strs hd hl;generalize Ja w n2 (qb tk) z1=z2 at *;obtain⟨z2,n3⟩:=z2;dsimp only at q w2 dG2 ⊢;have w3:=nm3 (w:=w) (n:=n3) w2;refine jju (fun σ G3=>σ=[some (.ref d),some (.ref l),some (.str Yi),some (.str (YE w n3 z2).1),u5]/\Keep d H G3/\G3 d=some (.lst [.int w,.int (YE w n3 z2).2])) ?_ (fun kk=>?_);rotate_left
 ·unfold YE at kk
  dsimp only at kk;have k5:=Keep.upd d G2 (.lst [.int w,.int (jj w n3 6).2]);have d5:upd G2 d (.lst [.int w,.int (jj w n3 6).2]) d=some (.lst [.int w,.int (jj w n3 6).2]):=jc;refine⟨_,rfl,d,w,n3,6,rfl,dG2,by decide,by decide,rfl,_,rfl,?_⟩;generalize upd G2 d (.lst [.int w,.int (jj w n3 6).2])=G5 at *;generalize jj w n3 6=x3 at *;obtain⟨x3,n4⟩:=x3;dsimp only at kk d5 ⊢;refine qi (fun c=>?_) (fun c=>?_)
  ·have c':x3=0:=by have:=of_decide_eq_true c;injection this
   rw[if_pos c']at kk;refine⟨sm rfl,fun p2 hp2=>?_⟩;have s6:=ji hp2 (.lst (jcg.map V.str));have e6:upd G5 p2 (.lst (jcg.map V.str)) p2=some (.lst (jcg.map V.str)):=jc;have lo:=jO w n4 (m:=10) (by decide);have hi:=jK w n4 (m:=10) (by decide);refine⟨_,rfl,d,w,n4,10,rfl,s6 _ _ d5,by decide,by decide,p2,_,_,_,rfl,rfl,SqL.of (xs:=jcg.map V.str) ?_,yk lo hi,?_⟩
   ·rw[js (fun z=>by rw[z,d5]at hp2;cases hp2)];exact e6
   refine kk _ _ ⟨rfl,kG2.trans (k5.trans ((Keep.same s6).trans (Keep.upd _ _ _))),jc⟩
  ·rw[if_neg (fun h=>c (decide_eq_true (congrArg V.int h)))]at kk
   exact kk _ _ ⟨rfl,kG2.trans k5,d5⟩
 rintro σ G3 ⟨rfl,kG3,dG3⟩;clear kG2 dG2 hl2;have hl3:=kG3.strs hd hl;generalize YE w n3 z2=z3 at *;obtain⟨z3,n4⟩:=z3;dsimp only at q w3 dG3 ⊢;obtain⟨i0,r0,rfl,hi0,hr0⟩:=w3;refine jfH (fun m σ G=>∃k,k+m=26/\σ=[some (.ref d),some (.ref l),some (.str Yi),some (.str (wdS (((i0+k) % 26+97) :: r0))),u5]/\G=G3/\Jf tk 26 (wdS ((i0+97) :: r0))=Jf tk m (wdS (((i0+k) % 26+97) :: r0))/\∀j < k,wdS (((i0+j) % 26+97) :: r0)∈tk) 26 ⟨0,rfl,by rw[show (i0+0) % 26=i0 by omega],rfl,by rw[show (i0+0) % 26=i0 by omega],fun j hj=>absurd hj (iY _)⟩ ?_ ?_
 ·rintro m σ G ⟨k,hk,rfl,rfl,ef,hall⟩
  have few:=jaz (m:=k) (by omega) hall;obtain⟨m,rfl⟩:∃m',m=m'+1:=⟨m - 1,by omega⟩
  refine⟨_,rfl,_,rfl,l,_,rfl,.inl (SqL.of hl3),rfl,?_,_,rfl,qi (fun c=>?_) (fun c=>?_)⟩
  ·exact Jg _
  ·have hin:wdS (((i0+k) % 26+97) :: r0)∈tk:=of_decide_eq_true ((Jd _ _).symm.trans c)
   have hb:(i0+k) % 26 < 26:=gK _ (by decide);rw[jcY hin,jfv hb,show ((i0+k) % 26+1) % 26=(i0+(k+1)) % 26 by omega]at ef;have zl:(wdS (((i0+k) % 26+97) :: r0)).length≤8:=by rw[Jm,aw];omega
   have hq:(((i0+k) % 26:Nat):Int)+1=(((i0+k) % 26+1:Nat):Int):=rfl;refine⟨_,rfl,_,rfl,rfl,_,rfl,_,0,_,rfl,rfl,jL (by omega),jr (j:=0) rfl,Yi,_,_,_,rfl,rfl,jl8 hb,_,_,rfl,rfl,_,_,rfl,rfl,(by show (0:Int) < _;decide),Yi,_,_,rfl,rfl,hab,jjc (by omega) (by omega),?_⟩;refine⟨_,rfl,_,rfl,_,rfl,jL (by omega),_,_,rfl,rfl,jL ?_,?_⟩
   ·have:=KF (wdS (((i0+k) % 26+97) :: r0)) (some 1) none
    show 1+_≤_;omega
   ·refine⟨m,mJ _,k+1,by omega,?_,rfl,ef,fun j hj=>?_⟩
    ·have e9:(wdS [((((i0+k) % 26:Nat):Int)+1) % 26 |>.toNat |> (·+97)]++yZ (wdS (((i0+k) % 26+97) :: r0)) (some 1) none)=wdS (((i0+(k+1)) % 26+97) :: r0):=by
      rw[jmO,Kp];show wdS ((_+97) :: r0)=_;rw[show (((((i0+k) % 26:Nat):Int)+1) % 26).toNat=(i0+(k+1)) % 26 by omega]
     rw[← e9];rfl
    ·rcases re.mp hj with hj | rfl
     ·exact hall j hj
     ·exact hin
  ·have hout:wdS (((i0+k) % 26+97) :: r0) ∉ tk:=fun z=>c ((Jd _ _).trans (decide_eq_true z))
   rw[jaZ hout]at ef;rw[ef]at q;refine⟨_,rfl,.inl ⟨rfl,_,SqL.of hl3⟩,_,rfl,l,_,_,rfl,rfl,hl3,ky (by rw[ae];omega),_,rfl,?_⟩;refine q _ (fun b o hb hb2 e=>?_) ?_ ?_
   ·rw[js hb2];exact kG3 _ _ hb e
   ·rw[js hld.symm];exact dG3
   ·rw[jc,aH];rfl
 ·intro σ H1 Q1 Q2 hm h
  obtain⟨v1,e1,v2,e2,i,j,e3,e4,e5,e6,k,e7,h⟩:=h;exact⟨v1,e1,v2,e2,i,j,e3,e4,e5,e6,k,e7,hm _ _ h⟩
end
abbrev Pr2:Type:=List (Int×Int)×Nat
def lsA(w n:Int)(xs rs:List Str):Tm:=(qG w n xs rs).1
def lsB(w n:Int)(xs rs:List Str):Tm:=(qG w (qG w n xs rs).2 xs rs).1
def lsC(w n:Int)(xs rs:List Str):Int:=(YD w (qG w (qG w n xs rs).2 xs rs).2).1
theorem jiv(w n:Int)(xs rs:List Str):(zJ w n xs rs).1=.least (lsA w n xs rs) (lsB w n xs rs) (lsC w n xs rs):=rfl
def jaj(lv:Nat)(bf:Pr2->List (StN lv)×Pr2)(xs rs:List Str)(hds:List Hd)(L:List (Int×Int))(left:Nat)(w n f:Int)(x:Str):StN (lv+1)×Pr2:=
 if f=2/\0 < rs.length then
  let c:=jj w n ((rs.length:Nat):Int)
  let p:=yz w c.2 xs
  let t:=qG w p.2 xs rs
  (Fo.leaf (.put (zp rs c.1) p.1.1 p.1.2 t.1 (YD w t.2).1),L,left)
 else if f=3 then (Fo.leaf (.any x),L,left)
 else if f=4 then (Fo.leaf (.claim (Yf w n xs rs).1),L,left)
 else if f=5/\0 < lv then
  let B:=bf (L,left)
  let C:=bf B.2
  (Fo.ite (lsA w n xs rs) (lsB w n xs rs) (lsC w n xs rs) B.1 C.1,C.2)
 else if f=6/\0 < lv then
  let e:=jj w (zJ w n xs rs).2 4
  let m:=jj w e.2 (if e.1 / 3=0 then 3 else 7)
  let ks:=kY xs rs L m.1.toNat
  let B:=bf (ks.2,left)
  (Fo.whl (lsA w n xs rs) (lsB w n xs rs) (lsC w n xs rs) ks.1 B.1,B.2)
 else if f=7 then (Fo.leaf (ja8 w n x xs rs hds).1,L,left)
 else
  let t:=qG w n xs rs
  (Fo.leaf (.set x t.1 (YD w t.2).1),L,left)
def qH(lv:Nat)(bf:Pr2->List (StN lv)×Pr2)(xs fr rs:List Str)(hds:List Hd)(L:List (Int×Int))(left:Nat):StN (lv+1)×Pr2:=
 let y:=qI L
 let a:=jj y.1.1 y.1.2 8
 let b:=jj y.1.1 a.2 ((fr.length:Nat):Int)
 jaj lv bf xs rs hds y.2 (left - 1) y.1.1 b.2 a.1 (zp fr b.1)
def kR{α:Type}(f:List (Int×Int)->Nat->α×Pr2)(L:List (Int×Int))(left:Nat):Nat->List α×Pr2
 | 0=>([],L,left)
 | k+1=>
  let p:=kR f L left k
  if 0 < p.2.1.length/\0 < p.2.2 then
   let s:=f p.2.1 p.2.2
   (p.1++[s.1],s.2)
  else p
def Zg:Nat->Int
 | 3=>31
 | 2=>7
 | _=>4
def qj(xs fr rs:List Str)(hds:List Hd):(lv:Nat)->Pr2->List (StN lv)×Pr2
 | 0=>fun S=>([],S)
 | lv+1=>fun S=>
  let y:=qI S.1
  kR (qH lv (qj xs fr rs hds lv) xs fr rs hds) y.2 S.2 (jj y.1.1 y.1.2 (Zg lv)).1.toNat
structure WdFit(A:Wd)(a:Addr)(xs fr rs:List Str)(hds:List Hd):Prop where
 n:A.nl≠a
 f:A.fl≠a
 r:A.rl≠a
 h:A.hl≠a
 x0:0 < xs.length
 x1:xs.length≤100
 f0:0 < fr.length
 f1:fr.length≤100
 r1:rs.length≤100
 h1:hds.length≤100
 h2:∀h∈hds,h.2.1≤100
theorem YI:∀{hds:List Hd} {hs:List V},HeldL H (hds.map hdD) hs->∀w n:Int,hs≠[.int w,.int n]
 | [],hs,h,w,n,e=>by cases jR h;cases e
 | x :: hds,hs,h,w,n,e=>by
  obtain⟨v1,r1,rfl,e1,-⟩:=jk h;obtain⟨a,rfl,-⟩:=jbT e1;injection e with e;cases e
variable {a b:Addr}{ds:List Addr}{L:List (Int×Int)}
theorem DealsAt.out(D:DealsAt H a ds L){o:HO}(hb:H b=some o)(n:b≠a)(h:∀w n:Int,o≠.lst [.int w,.int n]):b ∉ a :: ds:=fun z=>by
 rcases ak.mp z with z | z
 ·exact n z
 ·obtain⟨i,hi,e⟩:=j_ z
  have hi2:i < L.length:=by have:=D.n;omega
  have:=D.at_ i b L[i] (by rw[aE hi,e]) (aE hi2);rw[hb]at this;injection this with this;exact h _ _ this
theorem DealsAt.no(D:DealsAt H a ds L){o:HO}(hb:H b=some o)(h:∀us,o≠.lst us):b ∉ a :: ds:=D.out hb (fun z=>by rw[z,D.l]at hb;injection hb with hb;exact h _ hb.symm) fun _ _=>h _
theorem DealsAt.new(D:DealsAt H a ds L)(hb:H b=none):b ∉ a :: ds:=fun z=>by
 rcases ak.mp z with z | z
 ·rw[z,D.l]at hb;cases hb
 ·obtain⟨i,hi,e⟩:=j_ z
  have hi2:i < L.length:=by have:=D.n;omega
  rw[D.at_ i b L[i] (by rw[aE hi,e]) (aE hi2)]at hb
  cases hb
variable {xs:List Str}
theorem jbl:HO.lst (xs.map V.str)≠.lst [.int w,.int n]:=fun e=>by
 injection e with e
 cases xs with
 | nil=>cases e
 | cons x xs=>injection e with e;cases e
variable {H':Hp}{wd:Addr}{A:Wd}{rs:List Str}{hds:List Hd}
theorem WorldAt.of{fr:List Str}{left:Int}(W:WorldAt H wd A xs fr rs hds left)(hd:∀kvs,H wd=some (.dK kvs)->H' wd=some (.dK kvs))(hs:∀b zs,b=A.nl∨b=A.fl∨b=A.rl∨b=A.hl->(∀w n:Int,HO.lst zs≠.lst [.int w,.int n])->H b=some (.lst zs)->H' b=some (.lst zs))(tk:TK H H'):WorldAt H' wd A xs fr rs hds left:=by
 obtain⟨kvs,h1,h2⟩:=W.d;obtain⟨hs',h3,h4⟩:=W.h;exact⟨⟨kvs,hd _ h1,h2⟩,hs _ _ (.inl rfl) (fun _ _=>jbl) W.n,hs _ _ (.inr (.inl rfl)) (fun _ _=>jbl) W.f,hs _ _ (.inr (.inr (.inl rfl))) (fun _ _=>jbl) W.r,hs',hs _ _ (.inr (.inr (.inr rfl))) (fun _ _ e=>by injection e with e;exact YI h4 _ _ e) h3,tk.heldL h4⟩
theorem WorldAt.same{fr:List Str}{left:Int}(W:WorldAt H wd A xs fr rs hds left)(s:Same H H'):WorldAt H' wd A xs fr rs hds left:=W.of (fun _=>s _ _) (fun b zs _ _=>s _ _) (fun _ _=>s _ _)
variable {d:Addr}
theorem WorldAt.keep{fr:List Str}{left:Int}(W:WorldAt H wd A xs fr rs hds left)(k:Keep d H H')(hd:H d=some (.lst [.int w,.int n])):WorldAt H' wd A xs fr rs hds left:=W.of (fun _ e=>k _ _ (fun z=>by rw[z,hd]at e;cases e) e) (fun b zs _ nz e=>k _ _ (fun z=>by rw[z,hd]at e;injection e with e;exact nz _ _ e.symm) e) (k.tk hd)
theorem Out.tk(o:Out (a :: ds) H H')(D:DealsAt H a ds L):TK H H':=fun b ys e=>o _ _ (D.no e fun _ z=>by cases z) e
theorem WorldAt.out{fr:List Str}{left:Int}(W:WorldAt H wd A xs fr rs hds left)(o:Out (a :: ds) H H')(D:DealsAt H a ds L)(f:WdFit A a xs fr rs hds):WorldAt H' wd A xs fr rs hds left:=W.of (fun _ e=>o _ _ (D.no e fun _ z=>by cases z) e) (fun b zs hb nz e=>o _ _ (D.out e (by rcases hb with rfl | rfl | rfl | rfl;exact f.n;exact f.f;exact f.r;exact f.h) nz) e) (o.tk D)
theorem jhl{kvs:List (Key×V)}{k:Key}{v u:V}(h:zG kvs k=some v):(zZ kvs k u).length=kvs.length:=by
 unfold zZ;rw[JH,h];exact ae ..
theorem WorldAt.put{fr:List Str}{left l2:Int}{kvs:List (Key×V)}(W:WorldAt H wd A xs fr rs hds left)(hw:H wd=some (.dK kvs)):WorldAt (upd H wd (.dK (zZ kvs (.inr (aa "left")) (.int l2)))) wd A xs fr rs hds l2:=by
 obtain⟨kvs',h1,h5,a1,a2,a3,a4,a5⟩:=W.d;rw[hw]at h1
 cases h1
 have nl:∀b zs,H b=some (.lst zs)->upd H wd (.dK (zZ kvs (.inr (aa "left")) (.int l2))) b=some (.lst zs):=fun b zs e=>by rw[js (fun z=>by rw[z,hw]at e;cases e)];exact e
 obtain⟨hs,h3,h4⟩:=W.h;refine⟨⟨_,jc,by rw[jhl a5];exact h5,?_,?_,?_,?_,?_⟩,nl _ _ W.n,nl _ _ W.f,nl _ _ W.r,hs,nl _ _ h3,TK.heldL (fun b ys e=>by rw[js (fun z=>by rw[z,hw]at e;cases e)];exact e) h4⟩
 ·rw[JG,if_neg (by decide)];exact a1
 ·rw[JG,if_neg (by decide)];exact a2
 ·rw[JG,if_neg (by decide)];exact a3
 ·rw[JG,if_neg (by decide)];exact a4
 ·rw[JG,if_pos rfl]
structure StA(H0:Hp)(a wd:Addr)(ds0:List Addr)(A:Wd)(xs fr rs:List Str)(hds:List Hd)(left:Int)(H:Hp)(d:Addr)(w n:Int)(k:Nat)(L:List (Int×Int)):Prop where
 o:Out (wd :: a :: ds0) H0 H
 hd:H d=some (.lst [.int w,.int n])
 D:DealsAt H a (ds0.drop k) L
 W:WorldAt H wd A xs fr rs hds left
 nd:d ∉ ds0.drop k
 dd:H0 d=none∨d∈ds0
variable {H0:Hp}{ds0:List Addr}
theorem StA.keep{fr:List Str}{left m:Int}{k:Nat}(S:StA H0 a wd ds0 A xs fr rs hds left H d w n k L)(q:Keep d H H')(e:H' d=some (.lst [.int w,.int m])):StA H0 a wd ds0 A xs fr rs hds left H' d w m k L:=by
 refine⟨fun b o hb h=>q _ _ (fun z=>?_) (S.o _ _ hb h),e,S.D.keep q S.hd S.nd,S.W.keep q S.hd,S.nd,S.dd⟩;rcases S.dd with z2 | z2
 ·rw[← z,h]at z2;cases z2
 ·exact hb (z ▸ ao _ (ao _ z2))
theorem StA.same{fr:List Str}{left:Int}{k:Nat}(S:StA H0 a wd ds0 A xs fr rs hds left H d w n k L)(s:Same H H'):StA H0 a wd ds0 A xs fr rs hds left H' d w n k L:=S.keep (Keep.same s) (s _ _ S.hd)
def Yv(lv:Nat):Sp:=fun vs H Q _=>∃(a wd:Addr) (ds:List Addr) (L:List (Int×Int)) (A:Wd) (xs fr rs:List Str) (hds:List Hd) (left:Nat),0 < lv/\lv≤4/\vs=[.ref a,.ref wd,.int (4 - (lv:Nat))]/\DealsAt H a ds L/\WorldAt H wd A xs fr rs hds (left:Nat)/\WdFit A a xs fr rs hds/\∀u H' k,Out (wd :: a :: ds) H H'->DealsAt H' a (ds.drop k) (qj xs fr rs hds lv (L,left)).2.1->WorldAt H' wd A xs fr rs hds ((qj xs fr rs hds lv (L,left)).2.2:Nat)->Held H' (.tup ((qj xs fr rs hds lv (L,left)).1.map (stD lv))) u->Q u H'
def jey(lv:Nat):Sp:=fun vs H Q _=>∃(a wd:Addr) (ds:List Addr) (L:List (Int×Int)) (A:Wd) (xs fr rs:List Str) (hds:List Hd) (left:Nat),lv≤3/\0 < left/\vs=[.ref a,.ref wd,.int (3 - (lv:Nat))]/\DealsAt H a ds L/\WorldAt H wd A xs fr rs hds (left:Nat)/\WdFit A a xs fr rs hds/\∀u H' k,Out (wd :: a :: ds) H H'->DealsAt H' a (ds.drop k) (qH lv (qj xs fr rs hds lv) xs fr rs hds L left).2.1->WorldAt H' wd A xs fr rs hds ((qH lv (qj xs fr rs hds lv) xs fr rs hds L left).2.2:Nat)->Held H' (stD (lv+1) (qH lv (qj xs fr rs hds lv) xs fr rs hds L left).1) u->Q u H'
theorem Out.sub{S T:List Addr}(o:Out S H H')(h:∀b∈S,b∈T):Out T H H':=fun b u hb e=>o b u (fun z=>hb (h _ z)) e
theorem Out.then{S:List Addr}{H1 H2:Hp}(o:Out S H H1)(o2:Out S H1 H2):Out S H H2:=fun b u hb e=>o2 b u hb (o b u hb e)
theorem zA{k:Nat}:∀b∈wd :: a :: ds.drop k,b∈wd :: a :: ds:=fun b hb=>by
 rcases ak.mp hb with rfl | hb
 ·exact am ..
 rcases ak.mp hb with rfl | hb
 ·exact ao _ (am ..)
 exact ao _ (ao _ (cz hb))
theorem Out.tkW{fr:List Str}{left:Int}(o:Out (wd :: a :: ds) H H')(D:DealsAt H a ds L)(W:WorldAt H wd A xs fr rs hds left):TK H H':=fun b ys e=>o _ _ (fun z=>by
 rcases ak.mp z with z | z
 ·obtain⟨kvs,h,-⟩:=W.d
  rw[z,h]at e;cases e
 ·exact D.no e (fun _ z=>by cases z) z) e
abbrev yt:Stmt:=top 72
section
variable {w:World}
theorem jhX{lv:Nat}(F:Fun K "_law_statement" "_law_statement" yt f fd)(B:Free0 mg)(bG:Fn P w K mg base 1 "_law_next" ["_law_deals"] KN)(aA:Fn P w K mg base 1 "_law_draw" ["_law_deal_here","_law_many_here"] zv)(bJ:Fn P w K mg base 2 "_law_number" ["_law_deal_here"] y7)(bY:Fn P w K mg base 3 "_law_place" ["_law_deal_here","_law_numbers"] JK)(bT:Fn P w K mg base 4 "_law_term" ["_law_deal_here","_law_numbers","_law_rows"] Yr)(cF:Fn P w K mg base 5 "_law_least" ["_law_deal_here","_law_numbers","_law_rows"] Yt)(cW:Fn P w K mg base 6 "_law_claim" ["_law_deal_here","_law_numbers","_law_rows"] Yu)(cG:Fn P w K mg base 7 "_law_claims" ["_law_deals","_law_many_here","_law_numbers","_law_rows"] Ks)(eX:Fn P w K mg base 2 "_law_call" ["_law_deal_here","_law_x","_law_world"] jbq)(dY:Fn P w K mg base (2 * lv+8) "_law_body" ["_law_deals","_law_world","_law_deep"] (Yv lv)):FnOk P w K mg base CX0 (2 * lv+9) f fd ["_law_deals","_law_world","_law_deep"] (jey lv):=by
 have sc:FnScope ["_law_deals","_law_world","_law_deep","_law_deal_here","_law_numbers","_law_rows","_law_form","_law_x","_law_r","_law_place_here","_law_term_here","_law_least_here","_law_body_here","_law_keeps"] ["_law_deals","_law_world","_law_deep"] (jn yt):=fQ;refine F.okZ sc (fun vs H Q E h=>?_) (fun aj A outer s H vs Q E hr h=>?_)
 ·obtain⟨a,wd,ds,L,Z,xs,fr,rs,hds,left,_,_,rfl,_⟩:=h
  rfl
 obtain⟨a,wd,ds,L,Z,xs,fr,rs,hds,left,h3,h0,rfl,D,W,fit,q⟩:=h;have hu:(A.deeper (gC "_law_statement" (jn yt) s.heap.objs.size f aj)).units+1 < cLine:=by have:=hr.units;omega
 refine⟨_,(jd (jgR hu (zpv 1) jf (jt jdK (zu hu (zpv 1) jf (fun _ _=>rfl)) jg) rfl)
   (jd (ju (i:=3) sc.nd rfl oQ (jJ bG hr (ja (zpv 0) jb)))
   (jd (ju (i:=4) sc.nd rfl oQ (zu hu (zpv 1) jf (fun _ _=>rfl)))
   (jd (ju (i:=5) sc.nd rfl oQ (zu hu (zpv 1) jf (fun _ _=>rfl)))
   (jd (ju (i:=6) sc.nd rfl oQ (jJ aA hr (ja (zpv 3) (ja jg jb))))
   (jd (ju (i:=7) sc.nd rfl oQ (jv j9 (zu hu (zpv 1) jf (fun _ _=>rfl)) (jJ aA hr (ja (zpv 3) (ja (k9 jV (by rfl) B.len_ kJ (ja (zu hu (zpv 1) jf (fun _ _=>rfl)) jb)) jb))) (fun _ _=>rfl)))
   (jd (jM (yJ (jA j5 (zpv 6) jg (jD _)) (yn (jA KI (k9 jV (by rfl) B.len_ kJ (ja (zpv 5) jb)) jg (jD _)))).pt (jd (ju (i:=8) sc.nd rfl oQ (jv j9 (zpv 5) (jJ aA hr (ja (zpv 3) (ja (k9 jV (by rfl) B.len_ kJ (ja (zpv 5) jb)) jb))) (fun _ _=>rfl)))
   (jd (ju (i:=9) sc.nd rfl oQ (jJ bY hr (ja (zpv 3) (ja (zpv 4) jb))))
   (jd (ju (i:=10) sc.nd rfl oQ (jJ bT hr (ja (zpv 3) (ja (zpv 4) (ja (zpv 5) jb)))))
   (jh (jx (jQ (ja jf (ja (zpv 8) (ja (zpv 9) (ja (zpv 10) (ja (jJ bJ hr (ja (zpv 3) jb)) jb))))))))))) jH)
   (jd (jM (jA j5 (zpv 6) jg (jD _)) (jh (jx (jQ (ja jf (ja (zpv 7) jb))))) jH)
   (jd (jM (jA j5 (zpv 6) jg (jD _)) (jh (jx (jQ (ja jf (ja (jJ cW hr (ja (zpv 3) (ja (zpv 4) (ja (zpv 5) jb)))) jb))))) jH)
   (jd (jM (yJ (jA j5 (zpv 6) jg (jD _)) (yn (jA Z5 (zpv 2) jg (jD _)))).pt (jd (ju (i:=11) sc.nd rfl oQ (jJ cF hr (ja (zpv 3) (ja (zpv 4) (ja (zpv 5) jb)))))
   (jd (ju (i:=12) sc.nd rfl oQ (jJ dY hr (ja (zpv 0) (ja (zpv 1) (ja (jt zy (zpv 2) jg) jb)))))
   (jh (jx (jQ (ja jf (ja (zpv 11) (ja (zpv 12) (ja (jJ dY hr (ja (zpv 0) (ja (zpv 1) (ja (jt zy (zpv 2) jg) jb)))) jb))))))))) jH)
   (jd (jM (yJ (jA j5 (zpv 6) jg (jD _)) (yn (jA Z5 (zpv 2) jg (jD _)))).pt (jd (ju (i:=11) sc.nd rfl oQ (jJ cF hr (ja (zpv 3) (ja (zpv 4) (ja (zpv 5) jb)))))
   (jd (ju (i:=13) sc.nd rfl oQ (jJ cG hr (ja (zpv 0) (ja (jJ aA hr (ja (zpv 3) (ja (jv j9 (jT (ja jg (ja jg jb))) (jt J8 (jJ aA hr (ja (zpv 3) (ja jg jb))) jg) (fun _ _=>rfl)) jb))) (ja (zpv 4) (ja (zpv 5) jb))))))
   (jh (jx (jQ (ja jf (ja (zpv 11) (ja (zpv 13) (ja (jJ dY hr (ja (zpv 0) (ja (zpv 1) (ja (jt zy (zpv 2) jg) jb)))) jb))))))))) jH)
   (jd (jM (jA j5 (zpv 6) jg (jD _)) (jh (jx (jJ eX hr (ja (zpv 3) (ja (zpv 7) (ja (zpv 1) jb)))))) jH)
   (jd (ju (i:=10) sc.nd rfl oQ (jJ bT hr (ja (zpv 3) (ja (zpv 4) (ja (zpv 5) jb)))))
   (jh (jx (jQ (ja jf (ja (zpv 7) (ja (zpv 10) (ja (jJ bJ hr (ja (zpv 3) jb)) jb)))))))))))))))))))),?_⟩
 try dsimp only[qo]
 refine jG (σ':=[some (.ref a),some (.ref wd),some (.int (3 - (lv:Nat))),none,none,none,none,none,none,none,none,none,none,none]) rfl ?_;refine jlS ?_;intro _ _ _ _ _ _ _ _ _ _ _ _ _;obtain⟨kvs,hw,hk5,kn,kf,kr,kh,kl⟩:=W.d;have W1:=W.put (l2:=(left:Int) - 1) hw;have n1:=D.no hw fun _ z=>by cases z
 have D1:=D.put (o:=.dK (zZ kvs (.inr (aa "left")) (.int ((left:Int) - 1)))) n1;refine⟨_,rfl,wd,.int (left:Nat),rfl,.inl ⟨kvs,.inr (aa "left"),Rd.of hw,rfl,kl.symm⟩,_,_,rfl,rfl,_,rfl,wd,_,rfl,.inl ⟨kvs,.inr (aa "left"),hw,rfl,ky (by omega),rfl⟩,?_⟩;have o1:Out [wd] H (upd H wd (.dK (zZ kvs (.inr (aa "left")) (.int ((left:Int) - 1))))):=fun b o hb e=>by rw[js (fun (z:b=wd)=>hb (by rw[z];exact am ..))];exact e
 generalize upd H wd (.dK (zZ kvs (.inr (aa "left")) (.int ((left:Int) - 1))))=H1 at *;rw[show (left:Int) - 1=((left - 1:Nat):Int) by omega]at W1;clear kn kf kr kh kl hk5 hw W;refine⟨_,rfl,a,ds,L,rfl,D1,fun d H2 k2 hd e2 nd2 D2=>?_⟩;rw[← gV]at nd2 D2;unfold qH at q;dsimp only at q;generalize qI L=y at *;obtain⟨⟨w,n⟩,L2⟩:=y;dsimp only at q e2 D2;have S:StA H a wd ds Z xs fr rs hds ((left - 1:Nat):Int) H2 d w n 1 L2:=by
  refine⟨fun b o hb e=>k2 _ _ (fun z=>hb (by rw[z];exact ao _ (am ..))) (o1 _ _ (fun z=>hb (by rw[aJ.mp z];exact am ..)) e),e2,D2,W1.of (fun _ e=>k2 _ _ (fun z=>by rw[z,D1.l]at e;cases e) e) (fun b zs hb _ e=>k2 _ _ (by rcases hb with rfl | rfl | rfl | rfl;exact fit.n;exact fit.f;exact fit.r;exact fit.h) e) (k2.tk D1.l),nd2,?_⟩;rcases hd with hd | hd
  ·refine .inl ?_
   cases z:H d with
   | none=>rfl
   | some o=>
    have:=o1 d o (fun h=>by
     obtain⟨kv,h',-⟩:=W1.d;rw[← aJ.mp h,hd]at h';cases h') z
    rw[hd]at this;cases this
  ·exact .inr hd
 clear W1 D1 D2 e2 k2 nd2 hd o1 n1 H1;generalize left - 1=lf at *;refine gQ ?_;obtain⟨kvs,hw,-,kn,kf,kr,-,-⟩:=S.W.d;refine⟨_,rfl,wd,.ref Z.nl,rfl,.inl ⟨kvs,.inr (aa "numbers"),Rd.of hw,rfl,kn.symm⟩,?_⟩;refine gQ ?_;refine⟨_,rfl,wd,.ref Z.rl,rfl,.inl ⟨kvs,.inr (aa "rows"),Rd.of hw,rfl,kr.symm⟩,?_⟩;refine gQ ?_;have lo1:=jO w n (m:=8) (by decide);have hi1:=jK w n (m:=8) (by decide);have S1:=S.keep (Keep.upd d H2 (.lst [.int w,.int (jj w n 8).2])) jc;have hw1:=Keep.upd d H2 (.lst [.int w,.int (jj w n 8).2]) wd _ (fun z=>by rw[z,S.hd]at hw;cases hw) hw;refine⟨_,rfl,d,w,n,8,rfl,S.hd,by decide,by decide,?_⟩;generalize upd H2 d (.lst [.int w,.int (jj w n 8).2])=H3 at *;generalize jj w n 8=fm at *;obtain⟨fm,n1⟩:=fm;dsimp only at q S1 lo1 hi1 ⊢;refine gQ ?_;have lo2:=jO w n1 (m:=(fr.length:Nat)) (by have:=fit.f0;omega);have hi2:=jK w n1 (m:=(fr.length:Nat)) (by have:=fit.f0;omega);have k4:=Keep.upd d H3 (.lst [.int w,.int (jj w n1 (fr.length:Nat)).2]);have S2:=S1.keep k4 jc;refine⟨_,rfl,wd,.ref Z.fl,rfl,.inl ⟨kvs,.inr (aa "free"),Rd.of hw1,rfl,kf.symm⟩,_,rfl,_,rfl,wd,.ref Z.fl,rfl,.inl ⟨kvs,.inr (aa "free"),Rd.of hw1,rfl,kf.symm⟩,Z.fl,_,rfl,.inl (SqL.of S1.W.f),d,w,n1,(fr.length:Nat),by rw[ae];rfl,S1.hd,(by have:=fit.f0;omega),(by have:=fit.f1;omega),Z.fl,_,_,_,rfl,rfl,SqL.of S2.W.f,yk lo2 hi2,?_⟩;generalize upd H3 d (.lst [.int w,.int (jj w n1 (fr.length:Nat)).2])=H4 at *;generalize jj w n1 (fr.length:Nat)=xx at *;obtain⟨xx,n2⟩:=xx;dsimp only at q S2 ⊢;generalize zp fr xx=x at *;clear S S1 k4 hw hw1 lo2 hi2 kn kf kr;refine gQ ?_;have fx:=fit.x1;have fr1:=fit.r1;have fin:∀{G:Hp} {m:Int} {u:V} {t:StN (lv+1)},jaj lv (qj xs fr rs hds lv) xs rs hds L2 lf w n2 fm x=(t,L2,lf)->StA H a wd ds Z xs fr rs hds (lf:Nat) G d w m 1 L2->Held G (stD (lv+1) t) u->Q u G:=fun {G m u t} e S h=>by
  rw[e]at q;exact q u G 1 S.o S.D S.W h
 refine JL (fun b G=>b=decide (fm=2/\0 < rs.length)/\G=H4) (fun b H4 hb=>?_) (fun kk=>?_);rotate_left
 ·refine⟨_,rfl,rfl,_,rfl,qi (fun z=>?_) (fun z=>kk false _ ⟨(decide_eq_false (fun h=>z (decide_eq_true (congrArg V.int h.1)))).symm,rfl⟩)⟩
  have z':fm=2:=by have:=of_decide_eq_true z;injection this
  refine⟨_,rfl,Z.rl,_,rfl,.inl (SqL.of S2.W.r),_,_,rfl,rfl,_,rfl,kk _ _ ⟨?_,rfl⟩⟩;rw[ae];exact decide_eq_decide.mpr ⟨fun h=>⟨z',by omega⟩,fun h=>by have:=h.2;omega⟩
 obtain⟨rfl,rfl⟩:=hb;by_cases c2:fm=2/\0 < rs.length
 ·rw[decide_eq_true c2]
  refine kQ ?_;have lo:=jO w n2 (m:=(rs.length:Nat)) (by omega);have hi:=jK w n2 (m:=(rs.length:Nat)) (by omega);have S3:=S2.keep (Keep.upd d H4 (.lst [.int w,.int (jj w n2 (rs.length:Nat)).2])) jc;refine⟨_,rfl,_,rfl,_,rfl,Z.rl,_,rfl,.inl (SqL.of S2.W.r),d,w,n2,(rs.length:Nat),by rw[ae];rfl,S2.hd,by omega,by omega,Z.rl,_,_,_,rfl,rfl,SqL.of S3.W.r,yk lo hi,?_⟩;refine gQ ?_;refine⟨_,rfl,_,rfl,d,Z.nl,w,_,xs,rfl,S3.hd,S3.W.n,fx,fun u5 H5 k5 d5 h5=>?_⟩;have S5:=S3.keep k5 d5;refine gQ ?_;refine⟨_,rfl,_,rfl,_,rfl,d,Z.nl,Z.rl,w,_,xs,rs,rfl,S5.hd,S5.W.n,S5.W.r,fx,fr1,fun u6 H6 k6 d6 h6=>?_⟩;have S6:=S5.keep k6 d6;have h56:=(k6.tk S5.hd).held h5;refine gQ ?_;refine⟨_,rfl,_,rfl,_,rfl,_,rfl,d,w,_,rfl,S6.hd,fun H7 k7 d7=>⟨sm rfl,fun t ht=>?_⟩⟩;have S7:=S6.keep k7 d7;have h57:=(k7.tk S6.hd).held h56;have h67:=(k7.tk S6.hd).held h6;refine fin (if_pos c2) (S7.same (ji ht _)) ?_;exact jy jc (je jw (je jw (je (h57.mono (ji ht _)) (je (h67.mono (ji ht _)) (je ke jz)))))
 rw[decide_eq_false c2];refine kB ?_;refine⟨_,rfl,rfl,_,rfl,qi (fun z=>?_) (fun z=>?_)⟩
 ·have z':fm=3:=by have:=of_decide_eq_true z;injection this
  refine⟨_,rfl,sm rfl,fun t ht=>?_⟩;refine fin ((if_neg c2).trans (if_pos z')) (S2.same (ji ht _)) ?_;exact jy jc (je jw (je jw jz))
 have c3:¬fm=3:=fun h=>z (decide_eq_true (congrArg V.int h))
 refine⟨_,rfl,rfl,_,rfl,qi (fun z=>?_) (fun z=>?_)⟩
 ·have z':fm=4:=by have:=of_decide_eq_true z;injection this
  refine⟨_,rfl,_,rfl,_,rfl,d,Z.nl,Z.rl,w,n2,xs,rs,rfl,S2.hd,S2.W.n,S2.W.r,fx,fr1,fun u5 H5 k5 d5 h5=>⟨sm rfl,fun t ht=>?_⟩⟩;refine fin ((if_neg c2).trans ((if_neg c3).trans (if_pos z'))) ((S2.keep k5 d5).same (ji ht _)) ?_;exact jy jc (je jw (je (h5.mono (ji ht _)) jz))
 have c4:¬fm=4:=fun h=>z (decide_eq_true (congrArg V.int h))
 have f4:∀{r},_=r->jaj lv (qj xs fr rs hds lv) xs rs hds L2 lf w n2 fm x=r:=fun e=>(if_neg c2).trans ((if_neg c3).trans ((if_neg c4).trans e))
 have dp:((3:Int) - (lv:Nat)+1)=4 - (lv:Nat):=by omega
 unfold yo;dsimp only;refine JL (fun b G=>b=decide (fm=5/\0 < lv)/\G=H4) (fun b H4 hb=>?_) (fun kk=>?_);rotate_left
 ·refine⟨_,rfl,rfl,_,rfl,qi (fun z=>?_) (fun z=>kk false _ ⟨(decide_eq_false (fun h=>z (decide_eq_true (congrArg V.int h.1)))).symm,rfl⟩)⟩
  have z':fm=5:=by have:=of_decide_eq_true z;injection this
  refine⟨_,rfl,_,_,rfl,rfl,_,rfl,kk _ _ ⟨?_,rfl⟩⟩;exact decide_eq_decide.mpr ⟨fun h=>⟨z',by omega⟩,fun h=>by have:=h.2;omega⟩
 obtain⟨rfl,rfl⟩:=hb;by_cases c5:fm=5/\0 < lv
 ·rw[decide_eq_true c5]
  refine kQ ?_;have e5:=f4 (if_pos c5);rw[e5]at q;dsimp only at q;refine⟨_,rfl,_,rfl,_,rfl,d,Z.nl,Z.rl,w,n2,xs,rs,rfl,S2.hd,S2.W.n,S2.W.r,fx,fr1,fun u5 H5 k5 d5 h5=>?_⟩;have S5:=S2.keep k5 d5;refine gQ ?_;refine⟨_,rfl,_,rfl,_,rfl,_,_,rfl,rfl,a,wd,ds.drop 1,L2,Z,xs,fr,rs,hds,lf,c5.2,by omega,by rw[← dp];rfl,S5.D,S5.W,fit,fun u6 H6 k6 o6 D6 W6 h6=>?_⟩;have h56:=(o6.tkW S5.D S5.W).held h5;refine gQ ?_;refine⟨_,rfl,_,rfl,_,rfl,_,rfl,_,rfl,_,_,rfl,rfl,a,wd,_,_,Z,xs,fr,rs,hds,_,c5.2,by omega,by rw[← dp];rfl,D6,W6,fit,fun u7 H7 k7 o7 D7 W7 h7=>⟨sm rfl,fun t ht=>?_⟩⟩;have tk7:=o7.tkW D6 W6;have s8:=ji ht (.tup [V.str (aa "if"),u5,u6,u7]);rw[cD,cD]at D7;refine q _ _ _ (S5.o.then ((o6.sub zA).then (((o7.sub zA).sub zA).then fun b o _ e=>s8 _ _ e))) (D7.same s8) (W7.same s8) ?_;exact jy jc (je jw (je ((tk7.held h56).mono s8) (je ((tk7.held h6).mono s8) (je (h7.mono s8) jz))))
 rw[decide_eq_false c5];refine kB ?_;unfold yo;dsimp only;refine JL (fun b G=>b=decide (fm=6/\0 < lv)/\G=H4) (fun b H4 hb=>?_) (fun kk=>?_);rotate_left
 ·refine⟨_,rfl,rfl,_,rfl,qi (fun z=>?_) (fun z=>kk false _ ⟨(decide_eq_false (fun h=>z (decide_eq_true (congrArg V.int h.1)))).symm,rfl⟩)⟩
  have z':fm=6:=by have:=of_decide_eq_true z;injection this
  refine⟨_,rfl,_,_,rfl,rfl,_,rfl,kk _ _ ⟨?_,rfl⟩⟩;exact decide_eq_decide.mpr ⟨fun h=>⟨z',by omega⟩,fun h=>by have:=h.2;omega⟩
 obtain⟨rfl,rfl⟩:=hb;by_cases c6:fm=6/\0 < lv
 ·rw[decide_eq_true c6]
  refine kQ ?_;have e6:=f4 ((if_neg c5).trans (if_pos c6));rw[e6]at q;dsimp only at q;refine⟨_,rfl,_,rfl,_,rfl,d,Z.nl,Z.rl,w,n2,xs,rs,rfl,S2.hd,S2.W.n,S2.W.r,fx,fr1,fun u5 H5 k5 d5 h5=>?_⟩;have S5:=S2.keep k5 d5;rw[jiv]at h5;generalize (zJ w n2 xs rs).2=n5 at *;have lo:=jO w n5 (m:=4) (by decide);have hi:=jK w n5 (m:=4) (by decide);refine gQ ?_;refine⟨_,rfl,_,rfl,sm rfl,fun p hp=>?_⟩;have s6:=ji hp (.lst [V.int 3,V.int 7]);have e6:upd H5 p (.lst [V.int 3,V.int 7]) p=some (.lst [V.int 3,V.int 7]):=jc;have S6:=S5.same s6;have h56:=h5.mono s6;have npd:p≠d:=fun z=>by rw[z,S5.hd]at hp;cases hp
  generalize upd H5 p (.lst [V.int 3,V.int 7])=H6 at *;have k7:=Keep.upd d H6 (.lst [.int w,.int (jj w n5 4).2]);have S7:=S6.keep k7 jc;have h57:=(k7.tk S6.hd).held h56;have e7:=k7 _ _ npd e6;refine⟨_,rfl,d,w,n5,4,rfl,S6.hd,by decide,by decide,_,_,rfl,rfl,⟨by decide,by decide⟩,p,_,_,.int (if (jj w n5 4).1 / 3=0 then 3 else 7),rfl,rfl,SqL.of e7,?_,?_⟩
  ·have:(jj w n5 4).1 / 3=0∨(jj w n5 4).1 / 3=1:=by omega
   rcases this with h | h <;> rw[h] <;> rfl
  generalize upd H6 d (.lst [.int w,.int (jj w n5 4).2])=H7 at *;generalize jj w n5 4=y at *;obtain⟨y,n6⟩:=y;dsimp only at q S7 ⊢;have mp:(0:Int) < (if y / 3=0 then 3 else 7)/\(if y / 3=0 then (3:Int) else 7)≤7:=by split <;> exact⟨by decide,by decide⟩
  generalize (if y / 3=0 then (3:Int) else 7)=mm at *;have lo2:=jO w n6 mp.1;have hi2:=jK w n6 mp.1;have k8:=Keep.upd d H7 (.lst [.int w,.int (jj w n6 mm).2]);have S8:=S7.keep k8 jc;have h58:=(k8.tk S7.hd).held h57;refine⟨d,w,n6,mm,rfl,S7.hd,mp.1,by omega,?_⟩;generalize upd H7 d (.lst [.int w,.int (jj w n6 mm).2])=H8 at *;obtain⟨m,hm⟩:∃m:Nat,(jj w n6 mm).1=(m:Nat):=⟨(jj w n6 mm).1.toNat,by omega⟩
  rw[hm]at q lo2 hi2 ⊢;rw[bS]at q;refine⟨_,rfl,_,rfl,a,Z.nl,Z.rl,ds.drop 1,L2,m,xs,rs,rfl,S8.D,S8.W.n,S8.W.r,fit.n,fit.r,fx,fr1,by omega,fun u9 H9 o9 D9 h9=>?_⟩;have W9:=S8.W.out o9 S8.D fit;have h59:=(o9.tk S8.D).held h58;refine gQ ?_;refine⟨_,rfl,_,rfl,_,rfl,_,rfl,_,rfl,_,_,rfl,rfl,a,wd,_,_,Z,xs,fr,rs,hds,_,c6.2,by omega,by rw[← dp];rfl,D9,W9,fit,fun u10 H10 k10 o10 D10 W10 h10=>⟨sm rfl,fun t ht=>?_⟩⟩;have tk:=o10.tkW D9 W9;have s11:=ji ht (.tup [V.str (aa "while"),u5,u9,u10]);rw[cD,cD]at D10;have o9':Out (wd :: a :: ds) H8 H9:=(o9.sub (T:=wd :: a :: ds.drop 1) fun b hb=>ao _ hb).sub zA;refine q _ _ _ (S8.o.then (o9'.then (((o10.sub zA).sub zA).then fun b o _ e=>s11 _ _ e))) (D10.same s11) (W10.same s11) ?_;exact jy jc (je jw (je ((tk.held h59).mono s11) (je ((tk.held h9).mono s11) (je (h10.mono s11) jz))))
 rw[decide_eq_false c6];refine kB ?_;have f6:∀{r},_=r->jaj lv (qj xs fr rs hds lv) xs rs hds L2 lf w n2 fm x=r:=fun e=>f4 ((if_neg c5).trans ((if_neg c6).trans e))
 refine⟨_,rfl,rfl,_,rfl,qi (fun z=>?_) (fun z=>?_)⟩
 ·have z':fm=7:=by have:=of_decide_eq_true z;injection this
  refine⟨_,rfl,_,rfl,_,rfl,d,wd,x,w,n2,Z,xs,fr,rs,hds,_,rfl,S2.hd,S2.W,fit.x0,fx,fr1,fit.h1,fit.h2,fun u5 H5 k5 d5 h5=>?_⟩;exact fin (f6 (if_pos z')) (S2.keep k5 d5) h5
 have c7:¬fm=7:=fun h=>z (decide_eq_true (congrArg V.int h))
 refine⟨_,rfl,_,rfl,_,rfl,d,Z.nl,Z.rl,w,n2,xs,rs,rfl,S2.hd,S2.W.n,S2.W.r,fx,fr1,fun u6 H6 k6 d6 h6=>?_⟩;have S6:=S2.keep k6 d6;refine gQ ?_;refine⟨_,rfl,_,rfl,_,rfl,d,w,_,rfl,S6.hd,fun H7 k7 d7=>⟨sm rfl,fun t ht=>?_⟩⟩;refine fin (f6 (if_neg c7)) ((S6.keep k7 d7).same (ji ht _)) ?_;exact jy jc (je jw (je jw (je (((k7.tk S6.hd).held h6).mono (ji ht _)) (je ke jz))))
end
abbrev ZZ:Stmt:=top 71
section
variable {w:World}
theorem jgf(F:Fun K "_law_body" "_law_body" ZZ f fd):FnOk P w K mg base CX0 8 f fd ["_law_deals","_law_world","_law_deep"] (Yv 0):=by
 have sc:FnScope ["_law_deals","_law_world","_law_deep","_law_body_here","_law_k"] ["_law_deals","_law_world","_law_deep"] (jn ZZ):=fQ;refine F.okZ sc (fun vs H Q E h=>?_) (fun aj A outer s H vs Q E hr h=>?_)
 ·obtain⟨a,wd,ds,L,Z,xs,fr,rs,hds,left,h0,_⟩:=h
  cases h0
 ·obtain⟨a,wd,ds,L,Z,xs,fr,rs,hds,left,h0,_⟩:=h
  cases h0
theorem jid{lv:Nat}(F:Fun K "_law_body" "_law_body" ZZ f fd)(B:Free0 mg)(bG:Fn P w K mg base 1 "_law_next" ["_law_deals"] KN)(aA:Fn P w K mg base 1 "_law_draw" ["_law_deal_here","_law_many_here"] zv)(m_:Fn P w K mg base (2 * lv+9) "_law_statement" ["_law_deals","_law_world","_law_deep"] (jey lv)):FnOk P w K mg base CX0 (2 * lv+10) f fd ["_law_deals","_law_world","_law_deep"] (Yv (lv+1)):=by
 have sc:FnScope ["_law_deals","_law_world","_law_deep","_law_body_here","_law_k"] ["_law_deals","_law_world","_law_deep"] (jn ZZ):=fQ;refine F.okZ sc (fun vs H Q E h=>?_) (fun aj A outer s H vs Q E hr h=>?_)
 ·obtain⟨a,wd,ds,L,Z,xs,fr,rs,hds,left,_,_,rfl,_⟩:=h
  rfl
 obtain⟨a,wd,ds,L,Z,xs,fr,rs,hds,left,h0,h4,rfl,D,W,fit,q⟩:=h;have hu:(A.deeper (gC "_law_body" (jn ZZ) s.heap.objs.size f aj)).units+1 < cLine:=by have:=hr.units;omega
 refine⟨_,(jd (ju (i:=3) sc.nd rfl oQ (jT jb))
   (jd (zq cu rfl (qe (by rfl) B.range_ (ja (jJ aA hr (ja (jJ bG hr (ja (zpv 0) jb)) (ja (jv j9 (jT (ja jg (ja jg (ja jg (ja jg jb))))) (zpv 2) (fun _ _=>rfl)) jb))) jb)) (jm (i:=4) sc.nd rfl oQ) (jh (jM (yJ (jA KI (k9 jV (by rfl) B.len_ kJ (ja (zpv 0) jb)) jg (jD _)) (yn (jA KI (zu hu (zpv 1) jf (fun _ _=>rfl)) jg (jD _)))).pt (jh (jC (jN aF aS aR jW (zpv 3) (ja (jJ m_ hr (ja (zpv 0) (ja (zpv 1) (ja (zpv 2) jb)))) jb)))) jH)))
   (jh (jx (kC j0 (by rfl) B.tuple_ kL (ja (zpv 3) jb)))))),?_⟩
 try dsimp only[qo]
 rw[show (4 - ((lv+1:Nat):Int))=3 - (lv:Nat) by omega];refine jG (σ':=[some (.ref a),some (.ref wd),some (.int (3 - (lv:Nat))),none,none]) rfl ?_;refine⟨sm rfl,fun p hp=>?_⟩;have s1:=ji hp (.lst []);have e1:upd H p (.lst []) p=some (.lst []):=jc;have np:=D.new hp;have npw:p≠wd:=fun z=>by obtain⟨kvs,h,-⟩:=W.d;rw[z,h]at hp;cases hp
 have npS:p ∉ wd :: a :: ds:=fun z=>by
  rcases ak.mp z with z | z
  ·exact npw z
  ·exact np z
 have D1:=D.same s1;have W1:=W.same s1;have o1:Out (wd :: a :: ds) H (upd H p (.lst [])):=fun b o _ e=>s1 _ _ e
 generalize upd H p (.lst [])=H1 at *;refine gQ ?_;refine⟨_,rfl,a,ds,L,rfl,D1,fun d H2 k2 hd e2 nd2 D2=>?_⟩;rw[← gV]at nd2 D2;unfold qj at q;dsimp only at q;generalize qI L=y at *;obtain⟨⟨w,n⟩,L2⟩:=y;dsimp only at q e2 D2;have W2:WorldAt H2 wd Z xs fr rs hds (left:Nat):=W1.of (fun _ e=>k2 _ _ (fun z=>by rw[z,D1.l]at e;cases e) e) (fun b zs hb _ e=>k2 _ _ (by rcases hb with rfl | rfl | rfl | rfl;exact fit.n;exact fit.f;exact fit.r;exact fit.h) e) (k2.tk D1.l);have npa:p≠a:=fun z=>np (z ▸ am ..)
 have npd:p≠d:=fun z=>by
  rcases hd with hd | hd
  ·rw[← z,e1]at hd;cases hd
  ·exact np (ao _ (z ▸ hd))
 have p2:=k2 _ _ npa e1;refine⟨sm rfl,fun p3 hp3=>?_⟩;have s3:=ji hp3 (.lst [V.int 31,V.int 7,V.int 4,V.int 4]);have e3:upd H2 p3 (.lst [V.int 31,V.int 7,V.int 4,V.int 4]) p3=some (.lst [V.int 31,V.int 7,V.int 4,V.int 4]):=jc;have S:StA H a wd ds Z xs fr rs hds (left:Nat) (upd H2 p3 (.lst [V.int 31,V.int 7,V.int 4,V.int 4])) d w n 1 L2:=by
  refine StA.same (H:=H2) ⟨fun b o hb e=>k2 _ _ (fun z=>hb (by rw[z];exact ao _ (am ..))) (o1 _ _ hb e),e2,D2,W2,nd2,?_⟩ s3;rcases hd with hd | hd
  ·refine .inl ?_
   cases z:H d with
   | none=>rfl
   | some o=>
    have:=s1 d o z;rw[hd]at this;cases this
  ·exact .inr hd
 have p3':=s3 _ _ p2;generalize upd H2 p3 (.lst [V.int 31,V.int 7,V.int 4,V.int 4])=H3 at *;have hm:0 < Zg lv/\Zg lv≤31/\atI [V.int 31,V.int 7,V.int 4,V.int 4] (3 - (lv:Nat))=some (.int (Zg lv)):=by
  have:lv=0∨lv=1∨lv=2∨lv=3:=by omega
  rcases this with rfl | rfl | rfl | rfl <;> exact⟨by decide,by decide,rfl⟩
 have k4:=Keep.upd d H3 (.lst [.int w,.int (jj w n (Zg lv)).2]);have S4:=S.keep k4 jc;have lo:=jO w n hm.1;have hi:=jK w n hm.1;refine⟨_,rfl,p3,_,_,_,rfl,rfl,SqL.of e3,hm.2.2,d,w,n,Zg lv,rfl,S.hd,hm.1,by omega,_,rfl,by omega,by omega,?_⟩;have p4:=k4 _ _ npd p3';generalize upd H3 d (.lst [.int w,.int (jj w n (Zg lv)).2])=H4 at *;generalize jj w n (Zg lv)=m at *;let Pv:Nat->St->Hp->Prop:=fun i σ G=>∃u4 k us,σ=[some (.ref a),some (.ref wd),some (.int (3 - (lv:Nat))),some (.ref p),u4]/\Out (wd :: a :: ds) H G/\DealsAt G a (ds.drop k) (kR (qH lv (qj xs fr rs hds lv) xs fr rs hds) L2 left i).2.1/\WorldAt G wd Z xs fr rs hds ((kR (qH lv (qj xs fr rs hds lv) xs fr rs hds) L2 left i).2.2:Nat)/\G p=some (.lst us)/\us.length≤i/\HeldL G ((kR (qH lv (qj xs fr rs hds lv) xs fr rs hds) L2 left i).1.map (stD (lv+1))) us
 refine Y9 Pv ⟨none,1,[],rfl,S4.o,S4.D,S4.W,p4,av _,jz⟩ ?_ ?_
 ·rintro i σ G hi' ⟨u4,k,us,rfl,oG,DG,WG,hGp,hus,hHL⟩
  have es:kR (qH lv (qj xs fr rs hds lv) xs fr rs hds) L2 left (i+1)=if 0 < (kR (qH lv (qj xs fr rs hds lv) xs fr rs hds) L2 left i).2.1.length/\0 < (kR (qH lv (qj xs fr rs hds lv) xs fr rs hds) L2 left i).2.2 then ((kR (qH lv (qj xs fr rs hds lv) xs fr rs hds) L2 left i).1++[(qH lv (qj xs fr rs hds lv) xs fr rs hds (kR (qH lv (qj xs fr rs hds lv) xs fr rs hds) L2 left i).2.1 (kR (qH lv (qj xs fr rs hds lv) xs fr rs hds) L2 left i).2.2).1],(qH lv (qj xs fr rs hds lv) xs fr rs hds (kR (qH lv (qj xs fr rs hds lv) xs fr rs hds) L2 left i).2.1 (kR (qH lv (qj xs fr rs hds lv) xs fr rs hds) L2 left i).2.2).2) else kR (qH lv (qj xs fr rs hds lv) xs fr rs hds) L2 left i:=rfl
  have goal:Pv (i+1)=fun σ G=>∃u4 k us,σ=[some (.ref a),some (.ref wd),some (.int (3 - (lv:Nat))),some (.ref p),u4]/\Out (wd :: a :: ds) H G/\DealsAt G a (ds.drop k) (kR (qH lv (qj xs fr rs hds lv) xs fr rs hds) L2 left (i+1)).2.1/\WorldAt G wd Z xs fr rs hds ((kR (qH lv (qj xs fr rs hds lv) xs fr rs hds) L2 left (i+1)).2.2:Nat)/\G p=some (.lst us)/\us.length≤i+1/\HeldL G ((kR (qH lv (qj xs fr rs hds lv) xs fr rs hds) L2 left (i+1)).1.map (stD (lv+1))) us:=rfl
  rw[goal];generalize kR (qH lv (qj xs fr rs hds lv) xs fr rs hds) L2 left (i+1)=R at *;generalize kR (qH lv (qj xs fr rs hds lv) xs fr rs hds) L2 left i=R0 at *;obtain⟨bs,L3,lf⟩:=R0;dsimp only at es DG WG hHL;have dn:=DG.n;obtain⟨kvs,hw,-,-,-,-,-,kl⟩:=WG.d;refine gQ ?_;refine⟨_,rfl,a,_,rfl,.inl (SqL.of DG.l),_,_,rfl,rfl,_,rfl,qi (fun c=>?_) (fun c=>?_)⟩
  ·have c':0 < L3.length:=by have:=of_decide_eq_true c;rw[ae]at this;omega
   refine⟨_,rfl,wd,.int (lf:Nat),rfl,.inl ⟨kvs,.inr (aa "left"),Rd.of hw,rfl,kl.symm⟩,_,_,rfl,rfl,_,rfl,qi (fun c2=>?_) (fun c2=>?_)⟩
   ·have c2':0 < lf:=by have:=of_decide_eq_true c2;omega
    rw[if_pos ⟨c',c2'⟩]at es;subst es;refine⟨_,rfl,.inl ⟨rfl,_,SqL.of hGp⟩,_,rfl,_,rfl,_,rfl,a,wd,ds.drop k,L3,Z,xs,fr,rs,hds,lf,by omega,c2',rfl,DG,WG,fit,fun u G2 k2 o2 D2 W2 h2=>?_⟩;have npG:p ∉ wd :: a :: ds.drop k:=fun z=>npS (zA _ z)
    have hGp2:=o2 _ _ npG hGp;have tk:TK G (upd G2 p (.lst (us++[u]))):=fun b ys e=>by
     rw[js (fun z=>by rw[z,hGp]at e;cases e)];exact o2.tkW DG WG _ _ e
    have tk2:TK G2 (upd G2 p (.lst (us++[u]))):=fun b ys e=>by
     rw[js (fun z=>by rw[z,hGp2]at e;cases e)];exact e
    refine⟨p,_,_,rfl,rfl,hGp2,ky (by omega),_,k+k2,us++[u],rfl,fun b o hb e=>?_,?_,?_,jc,by rw[af];exact c_ hus,?_⟩
    ·rw[js (jl e hp)]
     exact o2 _ _ (fun z=>hb (zA _ z)) (oG _ _ hb e)
    ·rw[cD]at D2
     exact D2.put (fun z=>npS (zA _ (ao _ z)))
    ·refine W2.of (fun _ e=>?_) (fun b zs hb nz e=>?_) tk2
     ·rw[js npw.symm];exact e
     ·rw[js (by
       obtain⟨hs,hh,-⟩:=W.h;rcases hb with rfl | rfl | rfl | rfl;exact jl W.n hp;exact jl W.f hp;exact jl W.r hp;exact jl hh hp)]
      exact e
    ·rw[aH]
     exact qx (tk.heldL hHL) (tk2.held h2)
   ·rw[if_neg (fun h=>c2 (decide_eq_true (by have:=h.2;omega)))]at es
    subst es;exact⟨_,k,us,rfl,oG,DG,WG,hGp,bv hus,hHL⟩
  ·rw[if_neg (fun h=>c (decide_eq_true (by rw[ae,dn];have:=h.1;omega)))]at es
   subst es;exact⟨_,k,us,rfl,oG,DG,WG,hGp,bv hus,hHL⟩
 rintro σ G ⟨u4,k,us,rfl,oG,DG,WG,hGp,hus,hHL⟩;refine⟨_,rfl,p,us,rfl,.inl ⟨SqL.of hGp,fun t ht=>?_⟩⟩;have s5:=ji ht (.tup us);exact q _ _ k (fun b o hb e=>s5 _ _ (oG _ _ hb e)) (DG.same s5) (WG.same s5) (jy jc (hHL.mono s5))
theorem jc0{f:Addr}{fd:aq}(F:Fun K "_law_body" "_law_body" ZZ f fd)(b:Binds K fd ["_law_deals","_law_world","_law_deep"] [])(m:mg "_law_body" = some (.ref f)){f2:Addr}{fd2:aq}(F2:Fun K "_law_statement" "_law_statement" yt f2 fd2)(b2:Binds K fd2 ["_law_deals","_law_world","_law_deep"] [])(m2:mg "_law_statement" = some (.ref f2))(B:Free0 mg)(bG:Fn P w K mg base 1 "_law_next" ["_law_deals"] KN)(aA:Fn P w K mg base 1 "_law_draw" ["_law_deal_here","_law_many_here"] zv)(bJ:Fn P w K mg base 2 "_law_number" ["_law_deal_here"] y7)(bY:Fn P w K mg base 3 "_law_place" ["_law_deal_here","_law_numbers"] JK)(bT:Fn P w K mg base 4 "_law_term" ["_law_deal_here","_law_numbers","_law_rows"] Yr)(cF:Fn P w K mg base 5 "_law_least" ["_law_deal_here","_law_numbers","_law_rows"] Yt)(cW:Fn P w K mg base 6 "_law_claim" ["_law_deal_here","_law_numbers","_law_rows"] Yu)(cG:Fn P w K mg base 7 "_law_claims" ["_law_deals","_law_many_here","_law_numbers","_law_rows"] Ks)(eX:Fn P w K mg base 2 "_law_call" ["_law_deal_here","_law_x","_law_world"] jbq):∀lv,Fn P w K mg base (2 * lv+8) "_law_body" ["_law_deals","_law_world","_law_deep"] (Yv lv)
 | 0=>Fn.mk' F b m (jgf F)
 | lv+1=>Fn.mk' F b m (jid F B bG aA (Fn.mk' F2 b2 m2 (jhX F2 B bG aA bJ bY bT cF cW cG eX (jc0 F b m F2 b2 m2 B bG aA bJ bY bT cF cW cG eX lv))))
end
abbrev jaK:Stmt:=top 73
theorem jgI{Q:VK}{ys:List Str}(ha:H a=some (.lst (xs.map V.str)))(hb:H b=some (.lst (ys.map V.str)))(hz:xs.length+ys.length≤1000)(q:∀l H',Same H H'->H l=none->H' l=some (.lst ((xs++ys).map V.str))->Q (.ref l) H'):jjz (.ref a) (.ref b) H Q:=⟨a,b,_,_,rfl,rfl,ha,hb,jL (by rw[ae,ae];exact hz),fun l hl=>q l _ (jcu hl _) hl (by rw[jc,aH])⟩
def kc(w n:Int)(tk:List Str):Nat->List Str×Int
 | 0=>([],n)
 | i+1=>
  let p:=kc w n tk i
  let r:=qu w p.2 (tk++p.1)
  (p.1++[r.1],r.2)
theorem zm(w n:Int){tk:List Str}(h0:tk≠[])(h:∀z∈tk,NmW z):∀i,tk.length+i≤26->(kc w n tk i).1.length=i/\(∀z∈(kc w n tk i).1,NmW z)/\(∀z∈(kc w n tk i).1,z ∉ tk)/\(kc w n tk i).1.Nodup
 | 0,_=>⟨rfl,(fun _ z=>nomatch z),(fun _ z=>nomatch z),eP⟩
 | i+1,hi=>by
  obtain⟨h1,h2,h3,h4⟩:=zm w n h0 h i (by omega);obtain⟨h5,h6⟩:=jac w (kc w n tk i).2 (tk:=tk++(kc w n tk i).1) (by simp[h0]) (by rw[af];omega) (fun z hz=>(aB.mp hz).elim (h z) (h2 z));show ((kc w n tk i).1++[_]).length=_/\(∀z∈(kc w n tk i).1++[_],NmW z)/\(∀z∈(kc w n tk i).1++[_],z ∉ tk)/\((kc w n tk i).1++[_]).Nodup;refine⟨by rw[af,h1];rfl,fun z hz=>?_,fun z hz=>?_,?_⟩
  ·rcases aB.mp hz with hz | hz
   ·exact h2 z hz
   ·rw[aJ.mp hz];exact h5
  ·rcases aB.mp hz with hz | hz
   ·exact h3 z hz
   ·rw[aJ.mp hz];exact fun q=>h6 (aB.mpr (.inl q))
  ·exact dJ.mpr ⟨h4,aP.mpr ⟨fun z=>(nomatch z),eP⟩,fun x hx y hy e=>h6 (aB.mpr (.inr (by rw[← aJ.mp hy,← e];exact hx)))⟩
structure NmAt(d l p:Addr)(w n:Int)(tk:List Str)(G0:Hp)(i:Nat)(G:Hp):Prop where
 k:∀b o,b≠d->b≠l->G0 b=some o->G b=some o
 hd:G d=some (.lst [.int w,.int (kc w n tk i).2])
 hl:G l=some (.lst ((tk++(kc w n tk i).1).map V.str))
 hp:G p=some (.lst ((kc w n tk i).1.map V.str))
variable {l p:Addr}{G:Hp}
theorem NmAt.ok{tk:List Str}{G0:Hp}(N:NmAt d l p w n tk G0 i G)(h0:tk≠[])(h:∀z∈tk,NmW z)(hi:tk.length+i≤25):tk++(kc w n tk i).1≠[]/\(tk++(kc w n tk i).1).length≤25/\∀z∈tk++(kc w n tk i).1,NmW z:=by
 obtain⟨h1,h2,-,-⟩:=zm w n h0 h i (by omega);exact⟨by simp[h0],by rw[af];omega,fun z hz=>(aB.mp hz).elim (h z) (h2 z)⟩
theorem NmAt.zero{tk:List Str}(hd:G d=some (.lst [.int w,.int n]))(hl:G l=some (.lst (tk.map V.str)))(hp:G p=none):NmAt d l p w n tk G 0 (upd G p (.lst [])):=
 ⟨fun b o _ _ e=>by rw[js (jl e hp)];exact e,by rw[js (jl hd hp)];exact hd,by rw[js (jl hl hp),show tk++(kc w n tk 0).1=tk from bF tk];exact hl,jc⟩
theorem NmAt.step{tk:List Str}{G0:Hp}{G':Hp}(N:NmAt d l p w n tk G0 i G)(hp0:G0 p=none)(pd:p≠d)(pl:p≠l)(q:∀b o,b≠d->b≠l->G b=some o->G' b=some o)(e1:G' d=some (.lst [.int w,.int (qu w (kc w n tk i).2 (tk++(kc w n tk i).1)).2]))(e2:G' l=some (.lst ((tk++(kc w n tk i).1++[(qu w (kc w n tk i).2 (tk++(kc w n tk i).1)).1]).map V.str))):G' p=some (.lst ((kc w n tk i).1.map V.str))/\NmAt d l p w n tk G0 (i+1) (upd G' p (.lst ((kc w n tk i).1.map V.str++[.str (qu w (kc w n tk i).2 (tk++(kc w n tk i).1)).1]))):=by
 refine⟨q _ _ pd pl N.hp,fun b o hb hb2 e=>?_,?_,?_,?_⟩
 ·rw[js (jl e hp0)];exact q _ _ hb hb2 (N.k _ _ hb hb2 e)
 ·rw[js pd.symm];exact e1
 ·rw[js pl.symm,e2,aG];rfl
 ·rw[jc]
  show _=some (HO.lst (((kc w n tk i).1++[_]).map V.str));rw[aH];rfl
structure PrA(H0:Hp)(a:Addr)(ds0:List Addr)(H:Hp)(d:Addr)(w n:Int)(k:Nat)(L:List (Int×Int)):Prop where
 o:Out (a :: ds0) H0 H
 hd:H d=some (.lst [.int w,.int n])
 D:DealsAt H a (ds0.drop k) L
 nd:d ∉ ds0.drop k
 dd:H0 d=none∨d∈ds0
theorem PrA.keep2{m:Int}{k:Nat}(S:PrA H0 a ds0 H d w n k L)(nl:l ∉ a :: ds0)(hl:H0 l=none)(q:∀b o,b≠d->b≠l->H b=some o->H' b=some o)(e:H' d=some (.lst [.int w,.int m])):PrA H0 a ds0 H' d w m k L:=by
 have D:=S.D;refine⟨fun b o hb h=>q _ _ (fun z=>?_) (jl h hl) (S.o _ _ hb h),e,⟨q _ _ (fun z=>?_) (fun z=>nl (z ▸ am ..)) D.l,D.n,D.nd,D.few,fun i b x h1 h2=>q _ _ (fun z=>S.nd (z ▸ dh h1)) (fun z=>nl (z ▸ ao _ (cz (dh h1)))) (D.at_ i b x h1 h2)⟩,S.nd,S.dd⟩
 ·rcases S.dd with z2 | z2
  ·rw[← z,h]at z2;cases z2
  ·exact hb (z ▸ ao _ z2)
 ·have h1:=D.l
  rw[z,S.hd]at h1;injection h1 with h1;injection h1 with h1
  cases hh:ds0.drop k with
  | nil=>rw[hh]at h1;cases h1
  | cons x xs=>rw[hh]at h1;injection h1 with h1;cases h1
theorem PrA.keep{m:Int}{k:Nat}(S:PrA H0 a ds0 H d w n k L)(q:Keep d H H')(e:H' d=some (.lst [.int w,.int m])):PrA H0 a ds0 H' d w m k L:=by
 refine⟨fun b o hb h=>q _ _ (fun z=>?_) (S.o _ _ hb h),e,S.D.keep q S.hd S.nd,S.nd,S.dd⟩;rcases S.dd with z2 | z2
 ·rw[← z,h]at z2;cases z2
 ·exact hb (z ▸ ao _ z2)
theorem PrA.same{k:Nat}(S:PrA H0 a ds0 H d w n k L)(s:Same H H'):PrA H0 a ds0 H' d w n k L:=S.keep (Keep.same s) (s _ _ S.hd)
def JA(e:Int):Int:=if e / 3=0 then 2 else 5
def jaP(hds:List Hd)(h:Hd)(L:List (Int×Int)):Pc×List (Int×Int):=
 let y:=qI L
 let ps:=kc y.1.1 y.1.2 jS h.2.1
 let rs:=kc y.1.1 ps.2 (jS++ps.1) h.2.2
 let e:=jj y.1.1 rs.2 4
 let fs:=kc y.1.1 e.2 (jS++ps.1++rs.1) e.1.toNat
 let m:=jj y.1.1 fs.2 4
 let a:=jj y.1.1 m.2 (JA m.1)
 let nd:=kY ps.1 rs.1 y.2 a.1.toNat
 let b:=jj y.1.1 a.2 (JA m.1)
 let gv:=kY (ps.1++[aa "out"]) rs.1 nd.2 b.1.toNat
 let bd:=qj (ps.1++aa "out" :: fs.1) (aa "out" :: fs.1) rs.1 hds 4 (gv.2,30)
 (⟨h.1,ps.1,rs.1,nd.1,gv.1,4,bd.1⟩,bd.2.1)
def jeC:Sp:=fun vs H Q _=>∃(a hl:Addr) (ds:List Addr) (L:List (Int×Int)) (hs:List V) (hds:List Hd) (k:Nat) (h:Hd),vs=[.ref a,.ref hl,.int (k:Nat)]/\DealsAt H a ds L/\H hl=some (.lst hs)/\HeldL H (hds.map hdD) hs/\hl≠a/\hds.length≤100/\(∀h∈hds,h.2.1≤4/\h.2.2≤3)/\hds[k]?=some h/\∀u H' j,Out (a :: ds) H H'->DealsAt H' a (ds.drop j) (jaP hds h L).2->Held H' (jaP hds h L).1.toD u->Q u H'
theorem jk6{fr:List Str}{hs:List V}(hn:H A.nl=some (.lst (xs.map V.str)))(hf:H A.fl=some (.lst (fr.map V.str)))(hr:H A.rl=some (.lst (rs.map V.str)))(hh:H A.hl=some (.lst hs))(hH:HeldL H (hds.map hdD) hs)(h0:H p=some (.dK [])):WorldAt (upd H p (.dK (Kc [] [(.inr (aa "numbers"),.ref A.nl),(.inr (aa "free"),.ref A.fl),(.inr (aa "rows"),.ref A.rl),(.inr (aa "heads"),.ref A.hl),(.inr (aa "left"),.int 30)]))) p A xs fr rs hds 30:=by
 have nl:∀b zs,H b=some (.lst zs)->∀o,upd H p o b=some (.lst zs):=fun b zs e o=>by rw[js (fun z=>by rw[z,h0]at e;cases e)];exact e
 refine⟨⟨_,jc,yX _ _,?_,?_,?_,?_,?_⟩,nl _ _ hn _,nl _ _ hf _,nl _ _ hr _,hs,nl _ _ hh _,TK.heldL (fun b ys e=>by rw[js (fun z=>by rw[z,h0]at e;cases e)];exact e) hH⟩
 all_goals rfl
theorem jes{X:Cx}{k k':Nat}{x:Str}{ps:List Str}{sp:Sp}{p pos:Pos}(F:Fn X.prog X.w X.K X.mg X.base k x ps sp)(hr:Room k' X.A)(hk:k≤k':=by omega)(hg:Gl X x:=by rfl)(hd:(x == ("__debug__" : Str))=false:=by decide):QE X (.Call (.Name x p) [] [] pos) (fun σ H Q=>sp [] H Q E0):=by
 obtain⟨f,fd,G,b,kp,m⟩:=F.ex;exact⟨jhG G (hr.mono hk) hg m kp b .nil jcC hd⟩
theorem ZM:jS≠[]:=fun z=>by cases z
section
variable {w:World}
theorem jh3(F:Fun K "_law_proc" "_law_proc" jaK f fd)(B:Free0 mg)(bG:Fn P w K mg base 1 "_law_next" ["_law_deals"] KN)(aA:Fn P w K mg base 1 "_law_draw" ["_law_deal_here","_law_many_here"] zv)(eT:Fn P w K mg base 1 "_law_taken" [] jbn)(dq:Fn P w K mg base 2 "_law_name" ["_law_deal_here","_law_taken_here"] jdr)(cG:Fn P w K mg base 7 "_law_claims" ["_law_deals","_law_many_here","_law_numbers","_law_rows"] Ks)(dY:Fn P w K mg base 16 "_law_body" ["_law_deals","_law_world","_law_deep"] (Yv 4)):FnOk P w K mg base CX0 17 f fd ["_law_deals","_law_heads","_law_k"] jeC:=by
 have sc:FnScope ["_law_deals","_law_heads","_law_k","_law_deal_here","_law_f","_law_many_here","_law_count","_law_taken_here","_law_params","_law_rows","_law_free","_law_world","_law_most","_law_needs","_law_gives","_law_body_here"] ["_law_deals","_law_heads","_law_k"] (jn jaK):=fQ;refine F.okZ sc (fun vs H Q E h=>?_) (fun aj A outer s H vs Q E hr h=>?_)
 ·obtain⟨a,hl,ds,L,hs,hds,k,h,rfl,_⟩:=h
  rfl
 obtain⟨a,hl,ds,L,hs,hds,k,h,rfl,D,hhl,hH,nha,hz,hsm,hk,q⟩:=h;refine⟨_,(jd (ju (i:=3) sc.nd rfl oQ (jJ bG hr (ja (zpv 0) jb)))
   (jd (km (jv j9 (zpv 1) (zpv 2) (fun _ _=>rfl)) (kg rfl (jo (jm (i:=4) sc.nd rfl oQ) (jo (jm (i:=5) sc.nd rfl oQ) (jo (jm (i:=6) sc.nd rfl oQ) j4)))))
   (jd (ju (i:=7) sc.nd rfl oQ (jes eT hr))
   (jd (zQ (i:=8) sc.nd rfl oQ ["_law_j"] [3,7] rfl (qc (sc:=jn jaK) (N:=["_law_deals","_law_heads","_law_k","_law_deal_here","_law_f","_law_many_here","_law_count","_law_taken_here","_law_params","_law_rows","_law_free","_law_world","_law_most","_law_needs","_law_gives","_law_body_here"]) rfl rfl (by decide +kernel)) (qe (by rfl) B.range_ (ja (zpv 5) jb)) (fun s H ex=>⟨(jm (i:=0) (show br (["_law_j","_law_deal_here","_law_taken_here"]:List Str) by decide +kernel) rfl oQ),kT,(jJ dq hr (ja (zpv 1) (ja (zpv 2) jb)))⟩))
   (jd (zQ (i:=9) sc.nd rfl oQ ["_law_j"] [3,7] rfl (qc (sc:=jn jaK) (N:=["_law_deals","_law_heads","_law_k","_law_deal_here","_law_f","_law_many_here","_law_count","_law_taken_here","_law_params","_law_rows","_law_free","_law_world","_law_most","_law_needs","_law_gives","_law_body_here"]) rfl rfl (by decide +kernel)) (qe (by rfl) B.range_ (ja (zpv 6) jb)) (fun s H ex=>⟨(jm (i:=0) (show br (["_law_j","_law_deal_here","_law_taken_here"]:List Str) by decide +kernel) rfl oQ),kT,(jJ dq hr (ja (zpv 1) (ja (zpv 2) jb)))⟩))
   (jd (ju (i:=10) sc.nd rfl oQ (jt kt (jT (ja jf jb)) (qt ["_law_j"] [3,7] rfl (qc (sc:=jn jaK) (N:=["_law_deals","_law_heads","_law_k","_law_deal_here","_law_f","_law_many_here","_law_count","_law_taken_here","_law_params","_law_rows","_law_free","_law_world","_law_most","_law_needs","_law_gives","_law_body_here"]) rfl rfl (by decide +kernel)) (qe (by rfl) B.range_ (ja (jJ aA hr (ja (zpv 3) (ja jg jb))) jb)) (fun s H ex=>⟨(jm (i:=0) (show br (["_law_j","_law_deal_here","_law_taken_here"]:List Str) by decide +kernel) rfl oQ),kT,(jJ dq hr (ja (zpv 1) (ja (zpv 2) jb)))⟩))))
   (jd (ju (i:=11) sc.nd rfl oQ (jgU (y3 jf (jt kt (zpv 8) (zpv 10)) (y3 jf (zpv 10) (y3 jf (zpv 9) (y3 jf (zpv 1) (y3 jf jg jgS))))) rfl rfl (by simp) (by decide)))
   (jd (ju (i:=12) sc.nd rfl oQ (jv j9 (jT (ja jg (ja jg jb))) (jt J8 (jJ aA hr (ja (zpv 3) (ja jg jb))) jg) (fun _ _=>rfl)))
   (jd (ju (i:=13) sc.nd rfl oQ (jJ cG hr (ja (zpv 0) (ja (jJ aA hr (ja (zpv 3) (ja (zpv 12) jb))) (ja (zpv 8) (ja (zpv 9) jb))))))
   (jd (ju (i:=14) sc.nd rfl oQ (jJ cG hr (ja (zpv 0) (ja (jJ aA hr (ja (zpv 3) (ja (zpv 12) jb))) (ja (jt kt (zpv 8) (jT (ja jf jb))) (ja (zpv 9) jb))))))
   (jd (ju (i:=15) sc.nd rfl oQ (jJ dY hr (ja (zpv 0) (ja (zpv 11) (ja jg jb)))))
   (jh (jx (jQ (ja jf (ja (zpv 4) (ja (kC j0 (by rfl) B.tuple_ kL (ja (zpv 8) jb)) (ja (kC j0 (by rfl) B.tuple_ kL (ja (zpv 9) jb)) (ja (zpv 13) (ja (zpv 14) (ja (zpv 15) jb))))))))))))))))))))),?_⟩
 try dsimp only[qo]
 refine jG (σ':=[some (.ref a),some (.ref hl),some (.int (k:Nat)),none,none,none,none,none,none,none,none,none,none,none,none,none]) rfl ?_;refine jlT ?_;intro _ _ _ _ _ _ _ _ _ _ _;refine⟨_,rfl,a,ds,L,rfl,D,fun d H2 k2 hd e2 nd2 D2=>?_⟩;rw[← gV]at nd2 D2;unfold jaP at q;dsimp only at q;generalize qI L=y at *;obtain⟨⟨w,n⟩,L2⟩:=y;dsimp only at q e2 D2;have S:PrA H a ds H2 d w n 1 L2:=⟨fun b o hb e=>k2 _ _ (fun z=>hb (z ▸ am ..)) e,e2,D2,nd2,hd⟩
 have hl2:=k2 _ _ nha hhl;have hH2:=(k2.tk D.l).heldL hH;have free:∀{G:Hp} {t:Addr},(∀b o,H2 b=some o->∃o',G b=some o')->G t=none->H t=none:=fun {G t} hG ht=>by
  cases z:H t with
  | none=>rfl
  | some o=>
   obtain⟨o1,h1⟩:∃o1,H2 t=some o1:=by
    by_cases e:t=a
    ·exact⟨_,e ▸ D2.l⟩
    ·exact⟨o,k2 _ _ e z⟩
   obtain⟨o2,h2⟩:=hG _ _ h1;rw[ht]at h2;cases h2
 clear e2 D2 nd2 hd k2;refine gQ ?_;obtain⟨v,ev,hv⟩:=hH2.get (j:=k) (d:=hdD h) (by rw[bq,hk];rfl);obtain⟨b,rfl,hb⟩:=jbT hv;refine⟨_,rfl,_,rfl,hl,_,_,.ref b,rfl,rfl,SqL.of hl2,jr ev,b,_,rfl,SqT.of hb,rfl,_,_,rfl,_,_,rfl,_,_,rfl,rfl,?_⟩;refine jG (σ':=[some (.ref a),some (.ref hl),some (.int (k:Nat)),some (.ref d),some (.str h.1),some (.int (h.2.1:Nat)),some (.int (h.2.2:Nat)),none,none,none,none,none,none,none,none,none]) rfl ?_;obtain⟨sm1,sm2⟩:=hsm h (dh hk);refine⟨rfl,fun tl htl=>?_⟩;have s3:=ji htl (.lst (jS.map V.str));have e3:upd H2 tl (.lst (jS.map V.str)) tl=some (.lst (jS.map V.str)):=jc;have S3:=S.same s3;have ntl:H tl=none:=free (fun b o e=>⟨o,e⟩) htl;have hl3:=s3 _ _ hl2;have hH3:=hH2.mono s3;generalize upd H2 tl (.lst (jS.map V.str))=H3 at *;refine gQ ?_;refine⟨_,rfl,_,rfl,(by omega),(by omega),fun p hp=>?_⟩;rw[bS];have npd:p≠d:=(jl S3.hd hp).symm;have npt:p≠tl:=(jl e3 hp).symm;have t16:jS.length=16:=rfl;refine qy (fun i σ' G=>∃u,σ'=[u,some (.ref d),some (.ref tl)]/\NmAt d tl p w n jS H3 i G) ⟨none,rfl,NmAt.zero S3.hd e3 hp⟩ ?_ ?_
 ·rintro i σ' G hi ⟨u,rfl,N⟩
  obtain⟨o1,o2,o3⟩:=N.ok ZM zz (by omega);have nl:=(zm w n ZM zz i (by omega)).1;unfold qA y4;refine kQ ?_;refine⟨_,rfl,_,rfl,d,tl,w,_,_,rfl,N.hd,N.hl,o1,o2,o3,fun G' q1 q2 q3=>?_⟩;obtain⟨r1,r2⟩:=N.step hp npd npt q1 q2 q3;exact⟨_,r1,ky (by rw[ae];omega),_,rfl,r2⟩
 rintro σ' G ⟨u,rfl,N⟩;obtain⟨pn1,pn2,pn3,pn4⟩:=zm w n ZM zz h.2.1 (by omega);have S4:=S3.keep2 (D.new ntl) ntl N.k N.hd;have hl4:=N.k _ _ (fun z=>by rw[z,S3.hd]at hl3;injection hl3 with e;injection e with e;exact YI hH3 _ _ e.symm) (fun z=>by rw[z]at hhl;rw[ntl]at hhl;cases hhl) hl3;have hH4:HeldL G (hds.map hdD) hs:=TK.heldL (fun b ys e=>N.k _ _ (fun z=>by rw[z,S3.hd]at e;cases e) (fun z=>by rw[z,e3]at e;cases e) e) hH3;have p4:=N.hp;have t4:=N.hl;have pH:H p=none:=free (G:=H3) (fun b o e=>⟨o,s3 _ _ e⟩) hp;have free4:∀b o,H2 b=some o->∃o',G b=some o':=fun b o e=>by
  by_cases z:b=d
  ·exact⟨_,z ▸ S4.hd⟩
  by_cases z2:b=tl
  ·exact⟨_,z2 ▸ t4⟩
  exact⟨o,N.k _ _ z z2 (s3 _ _ e)⟩
 clear N S3 hl3 hH3 s3 e3 hl2 hH2 ev hv hb S hp htl;generalize kc w n jS h.2.1=ps at *;obtain⟨ps,n1⟩:=ps;dsimp only at q pn1 pn2 pn3 pn4 p4 t4 S4;have tk1:∀z∈jS++ps,NmW z:=fun z hz=>(aB.mp hz).elim (zz z) (pn2 z)
 have tn1:jS++ps≠[]:=fun z=>by cases z
 have tl1:(jS++ps).length=16+h.2.1:=by rw[af,pn1];rfl
 refine gQ ?_;refine⟨_,rfl,_,rfl,(by omega),(by omega),fun p2 hp2=>?_⟩;rw[bS];have n2d:p2≠d:=(jl S4.hd hp2).symm;have n2t:p2≠tl:=(jl t4 hp2).symm;refine qy (fun i σ' G'=>∃u,σ'=[u,some (.ref d),some (.ref tl)]/\NmAt d tl p2 w n1 (jS++ps) G i G') ⟨none,rfl,NmAt.zero S4.hd t4 hp2⟩ ?_ ?_
 ·rintro i σ' G' hi ⟨u,rfl,N⟩
  obtain⟨o1,o2,o3⟩:=N.ok tn1 tk1 (by omega);have nl:=(zm w n1 tn1 tk1 i (by omega)).1;unfold qA y4;refine kQ ?_;refine⟨_,rfl,_,rfl,d,tl,w,_,_,rfl,N.hd,N.hl,o1,o2,o3,fun G' q1 q2 q3=>?_⟩;obtain⟨r1,r2⟩:=N.step hp2 n2d n2t q1 q2 q3;exact⟨_,r1,ky (by rw[ae];omega),_,rfl,r2⟩
 rintro σ' G5 ⟨u5,rfl,N⟩;obtain⟨rn1,rn2,rn3,rn4⟩:=zm w n1 tn1 tk1 h.2.2 (by omega);have S5:=S4.keep2 (D.new ntl) ntl N.k N.hd;have nhd:hl≠d:=fun z=>by rw[z,S4.hd]at hl4;injection hl4 with e;injection e with e;exact YI hH4 _ _ e.symm
 have nht:hl≠tl:=fun z=>by rw[z,ntl]at hhl;cases hhl
 have hl5:=N.k _ _ nhd nht hl4;have ttk:∀{X Y:Hp} {zs:List Str} {m:Int},X d=some (.lst [.int w,.int m])->X tl=some (.lst (zs.map V.str))->(∀b o,b≠d->b≠tl->X b=some o->Y b=some o)->TK X Y:=fun h1 h2 k b ys e=>k _ _ (fun z=>by rw[z,h1]at e;cases e) (fun z=>by rw[z,h2]at e;cases e) e
 have hH5:HeldL G5 (hds.map hdD) hs:=(ttk S4.hd t4 N.k).heldL hH4;have p5:=N.k _ _ npd npt p4;have r5:=N.hp;have t5:=N.hl;have rH:H p2=none:=free free4 hp2;have free5:∀b o,H2 b=some o->∃o',G5 b=some o':=fun b o e=>by
  by_cases z:b=d
  ·exact⟨_,z ▸ S5.hd⟩
  by_cases z2:b=tl
  ·exact⟨_,z2 ▸ t5⟩
  obtain⟨o',e'⟩:=free4 b o e;exact⟨o',N.k _ _ z z2 e'⟩
 clear N S4 hl4 hH4 p4 t4 free4 hp2;generalize kc w n1 (jS++ps) h.2.2=rs at *;obtain⟨rs,n2⟩:=rs;dsimp only at q rn1 rn2 rn3 rn4 r5 t5 S5;have tk2:∀z∈jS++ps++rs,NmW z:=fun z hz=>(aB.mp hz).elim (tk1 z) (rn2 z)
 have tn2:jS++ps++rs≠[]:=fun z=>by cases z
 have tl2:(jS++ps++rs).length=16+h.2.1+h.2.2:=by rw[af,tl1,rn1]
 refine gQ ?_;refine⟨sm rfl,fun p6 hp6=>?_⟩;have s6:=ji hp6 (.lst [V.str (aa "out")]);have e6:upd G5 p6 (.lst [V.str (aa "out")]) p6=some (.lst ([aa "out"].map V.str)):=jc;have S6:=S5.same s6;have n6t:p6≠tl:=(jl t5 hp6).symm;have n6d:p6≠d:=(jl S5.hd hp6).symm;generalize upd G5 p6 (.lst [V.str (aa "out")])=G6 at *;have lo:=jO w n2 (m:=4) (by decide);have hi:=jK w n2 (m:=4) (by decide);have k7:=Keep.upd d G6 (.lst [.int w,.int (jj w n2 4).2]);have S7:=S6.keep k7 jc;have e7:=k7 _ _ n6d e6;have t7:=k7.strs S6.hd (s6 _ _ t5);have p7:=k7.strs S6.hd (s6 _ _ p5);have r7:=k7.strs S6.hd (s6 _ _ r5);have hl7:=k7 _ _ nhd (s6 _ _ hl5);have hH7:=(k7.tk S6.hd).heldL (hH5.mono s6);have free7:∀b o,H2 b=some o->∃o',upd G6 d (.lst [.int w,.int (jj w n2 4).2]) b=some o':=fun b o e=>by
  by_cases z:b=d
  ·exact⟨_,by rw[z];exact S7.hd⟩
  obtain⟨o',e'⟩:=free5 b o e;exact⟨o',k7 _ _ z (s6 _ _ e')⟩
 refine⟨_,rfl,d,w,n2,4,rfl,S6.hd,by decide,by decide,?_⟩;generalize upd G6 d (.lst [.int w,.int (jj w n2 4).2])=G7 at *;generalize jj w n2 4=e at *;obtain⟨e,n3⟩:=e;dsimp only at q lo hi S7 ⊢;obtain⟨c,rfl⟩:∃c:Nat,e=(c:Nat):=⟨e.toNat,by omega⟩
 rw[bS]at q;clear k7 S6 e6 s6 S5 t5 p5 r5 hl5 hH5 free5 hp6;refine⟨_,rfl,(by omega),(by omega),fun p8 hp8=>?_⟩;rw[bS];have n8d:p8≠d:=(jl S7.hd hp8).symm;have n8t:p8≠tl:=(jl t7 hp8).symm;refine qy (fun i σ' G'=>∃u,σ'=[u,some (.ref d),some (.ref tl)]/\NmAt d tl p8 w n3 (jS++ps++rs) G7 i G') ⟨none,rfl,NmAt.zero S7.hd t7 hp8⟩ ?_ ?_
 ·rintro i σ' G' hi ⟨u,rfl,N⟩
  obtain⟨o1,o2,o3⟩:=N.ok tn2 tk2 (by omega);have nl:=(zm w n3 tn2 tk2 i (by omega)).1;unfold qA y4;refine kQ ?_;refine⟨_,rfl,_,rfl,d,tl,w,_,_,rfl,N.hd,N.hl,o1,o2,o3,fun G' q1 q2 q3=>?_⟩;obtain⟨r1,r2⟩:=N.step hp8 n8d n8t q1 q2 q3;exact⟨_,r1,ky (by rw[ae];omega),_,rfl,r2⟩
 rintro σ' G8 ⟨u8,rfl,N⟩;obtain⟨fn1,fn2,fn3,fn4⟩:=zm w n3 tn2 tk2 c (by omega);have S8:=S7.keep2 (D.new ntl) ntl N.k N.hd;have hl8:=N.k _ _ nhd nht hl7;have hH8:HeldL G8 (hds.map hdD) hs:=(ttk S7.hd t7 N.k).heldL hH7;have p8':=N.k _ _ npd npt p7;have r8:=N.k _ _ n2d n2t r7;have e8:=N.k _ _ n6d n6t e7;have f8:=N.hp;have t8:=N.hl;have free8:∀b o,H2 b=some o->∃o',G8 b=some o':=fun b o e=>by
  by_cases z:b=d
  ·exact⟨_,z ▸ S8.hd⟩
  by_cases z2:b=tl
  ·exact⟨_,z2 ▸ t8⟩
  obtain⟨o',e'⟩:=free7 b o e;exact⟨o',N.k _ _ z z2 e'⟩
 clear N S7 hl7 hH7 p7 r7 e7 t7 free7 hp8;generalize kc w n3 (jS++ps++rs) c=fs at *;obtain⟨fs,n4⟩:=fs;dsimp only at q fn1 fn2 fn3 fn4 f8 t8 S8;refine jgI e8 f8 (by rw[fn1];show 1+c≤1000;omega) fun fl G9 s9 n9 e9=>?_
 have S9:=S8.same s9;have p9:=s9 _ _ p8';have r9:=s9 _ _ r8;have hl9:=s9 _ _ hl8;have hH9:=hH8.mono s9;have fH:H fl=none:=free free8 n9;have free9:∀b o,H2 b=some o->∃o',G9 b=some o':=fun b o e=>by
  obtain⟨o',e'⟩:=free8 b o e;exact⟨o',s9 _ _ e'⟩
 clear S8 p8' r8 e8 f8 t8 free8 hl8 hH8 s9 n9;rw[show [aa "out"]++fs=aa "out" :: fs from rfl]at e9;refine gQ ?_;refine fun wd hwd=>?_
 have s10:=ji hwd (.dK []);have e10:upd G9 wd (.dK []) wd=some (.dK []):=jc;have wH:H wd=none:=free free9 hwd;generalize upd G9 wd (.dK [])=G10 at *;refine⟨_,rfl,_,rfl,jgI (xs:=ps) (s10 _ _ p9) (s10 _ _ e9) (by rw[pn1,aw,fn1];omega) fun nl G11 s11 n11 e11=>?_⟩;have s9':=s10.trans s11;have w11:=s11 _ _ e10;have W:=jk6 (A:=⟨nl,fl,p2,hl⟩) (xs:=ps++aa "out" :: fs) (fr:=aa "out" :: fs) (rs:=rs) (hds:=hds) (hs:=hs) e11 (s9' _ _ e9) (s9' _ _ r9) (s9' _ _ hl9) (hH9.mono s9') w11;refine⟨_,rfl,_,rfl,_,rfl,w11,[(.inr (aa "numbers"),.ref nl),(.inr (aa "free"),.ref fl),(.inr (aa "rows"),.ref p2),(.inr (aa "heads"),.ref hl),(.inr (aa "left"),.int 30)],rfl,by show 5≤15;decide,?_⟩;have ka:∀{b:Addr},H b=none->b≠a:=fun hb z=>by rw[z,D.l]at hb;cases hb
 have fit:WdFit ⟨nl,fl,p2,hl⟩ a (ps++aa "out" :: fs) (aa "out" :: fs) rs hds:=by
  refine⟨fun z=>?_,ka fH,ka rH,nha,?_,?_,?_,?_,?_,hz,fun h' hh=>ad (hsm h' hh).1 (by decide)⟩
  ·have:=s10 _ _ S9.D.l
   rw[← z,n11]at this;cases this
  ·rw[af,aw];omega
  ·rw[af,aw,pn1,fn1];omega
  ·rw[aw];omega
  ·rw[aw,fn1];omega
  ·omega
 have k12:∀b o,b≠wd->G11 b=some o->upd G11 wd (.dK (Kc [] [(.inr (aa "numbers"),.ref nl),(.inr (aa "free"),.ref fl),(.inr (aa "rows"),.ref p2),(.inr (aa "heads"),.ref hl),(.inr (aa "left"),.int 30)])) b=some o:=fun b o hb e=>by rw[js hb];exact e
 have S11:=S9.same s9';have lw:∀{b:Addr} {zs:List V},G11 b=some (.lst zs)->b≠wd:=fun e z=>by rw[z,w11]at e;cases e
 have S12:=S11.keep2 (D.new wH) wH (fun b o _ hb e=>k12 b o hb e) (k12 _ _ (lw S11.hd) S11.hd);have p12:=k12 _ _ (lw (s9' _ _ p9)) (s9' _ _ p9);have r12:=k12 _ _ (lw (s9' _ _ r9)) (s9' _ _ r9);generalize upd G11 wd (.dK (Kc [] [(.inr (aa "numbers"),.ref nl),(.inr (aa "free"),.ref fl),(.inr (aa "rows"),.ref p2),(.inr (aa "heads"),.ref hl),(.inr (aa "left"),.int 30)]))=G12 at *;clear k12 S11 lw S9 p9 r9 hl9 hH9 free9 e9 s10 s11 s9' w11 e11 n11 e10 hwd;have npa:=ka pH;have nra:=ka rH;have pl:ps.length≤100:=by omega
 have rl:rs.length≤100:=by omega
 refine gQ ?_;refine⟨sm rfl,fun p13 hp13=>?_⟩;have s13:=ji hp13 (.lst [V.int 2,V.int 5]);have e13:upd G12 p13 (.lst [V.int 2,V.int 5]) p13=some (.lst [V.int 2,V.int 5]):=jc;have S13:=S12.same s13;have W13:=W.same s13;have p13':=s13 _ _ p12;have r13:=s13 _ _ r12;have n13d:p13≠d:=(jl S12.hd hp13).symm;generalize upd G12 p13 (.lst [V.int 2,V.int 5])=G13 at *;have lo:=jO w n4 (m:=4) (by decide);have hi:=jK w n4 (m:=4) (by decide);have k14:=Keep.upd d G13 (.lst [.int w,.int (jj w n4 4).2]);have S14:=S13.keep k14 jc;have W14:=W13.keep k14 S13.hd;have p14:=k14.strs S13.hd p13';have r14:=k14.strs S13.hd r13;refine⟨_,rfl,d,w,n4,4,rfl,S13.hd,by decide,by decide,_,_,rfl,rfl,⟨by decide,by decide⟩,p13,_,_,.int (JA (jj w n4 4).1),rfl,rfl,SqL.of (k14 _ _ n13d e13),?_,?_⟩
 ·have:(jj w n4 4).1 / 3=0∨(jj w n4 4).1 / 3=1:=by omega
  unfold JA;rcases this with h | h <;> rw[h] <;> rfl
 generalize upd G13 d (.lst [.int w,.int (jj w n4 4).2])=G14 at *;generalize jj w n4 4=mo at *;obtain⟨mo,n5⟩:=mo;dsimp only at q S14 ⊢;have mp:0 < JA mo/\JA mo≤5:=by unfold JA;split <;> exact⟨by decide,by decide⟩
 generalize JA mo=most at *;clear S12 S13 W W13 p12 p13' r12 r13 s13 e13 hp13;refine gQ ?_;have lo1:=jO w n5 mp.1;have hi1:=jK w n5 mp.1;have k15:=Keep.upd d G14 (.lst [.int w,.int (jj w n5 most).2]);have S15:=S14.keep k15 jc;have W15:=W14.keep k15 S14.hd;have p15:=k15.strs S14.hd p14;have r15:=k15.strs S14.hd r14;refine⟨_,rfl,_,rfl,_,rfl,d,w,n5,most,rfl,S14.hd,mp.1,by omega,?_⟩;generalize upd G14 d (.lst [.int w,.int (jj w n5 most).2])=G15 at *;generalize jj w n5 most=m1 at *;obtain⟨m1,n6⟩:=m1;dsimp only at q S15 lo1 hi1 ⊢;obtain⟨m1,rfl⟩:∃c:Nat,m1=(c:Nat):=⟨m1.toNat,by omega⟩
 rw[bS]at q;refine⟨_,rfl,_,rfl,a,p,p2,ds.drop 1,L2,m1,ps,rs,rfl,S15.D,p15,r15,npa,nra,pl,rl,by omega,fun u16 G16 o16 D16 h16=>?_⟩;have da:d ∉ a :: ds.drop 1:=fun z=>by
  rcases ak.mp z with z | z
  ·have:=S15.D.l
   rw[← z,S15.hd]at this;injection this with this;injection this with this
   cases hh:ds.drop 1 with
   | nil=>rw[hh]at this;cases this
   | cons x xs=>rw[hh]at this;injection this with this;cases this
  ·exact S15.nd z
 have S16:PrA H a ds G16 d w n6 (1+m1) (kY ps rs L2 m1).2:=⟨S15.o.then (o16.sub fun b hb=>by
  rcases ak.mp hb with rfl | hb
  ·exact am ..
  ·exact ao _ (cz hb)),o16 _ _ da S15.hd,by rw[← cD];exact D16,fun z=>S15.nd (by rw[← cD]at z;exact cz z),S15.dd⟩
 have W16:=W15.out o16 S15.D fit;have p16:=o16 _ _ (S15.D.ne p15 npa) p15;have r16:=o16 _ _ (S15.D.ne r15 nra) r15;generalize kY ps rs L2 m1=nd at *;obtain⟨nd,L3⟩:=nd;dsimp only at q S16 h16;clear S14 W14 p14 r14 S15 W15 p15 r15 k14 k15 D16 o16 da;refine gQ ?_;have lo2:=jO w n6 mp.1;have hi2:=jK w n6 mp.1;have k17:=Keep.upd d G16 (.lst [.int w,.int (jj w n6 most).2]);have S17:=S16.keep k17 jc;have W17:=W16.keep k17 S16.hd;have p17:=k17.strs S16.hd p16;have r17:=k17.strs S16.hd r16;have h17:=(k17.tk S16.hd).held h16;refine⟨_,rfl,_,rfl,_,rfl,d,w,n6,most,rfl,S16.hd,mp.1,by omega,?_⟩;generalize upd G16 d (.lst [.int w,.int (jj w n6 most).2])=G17 at *;generalize jj w n6 most=m2 at *;obtain⟨m2,n7⟩:=m2;dsimp only at q S17 lo2 hi2 ⊢;obtain⟨m2,rfl⟩:∃c:Nat,m2=(c:Nat):=⟨m2.toNat,by omega⟩
 rw[bS]at q;refine⟨_,rfl,sm rfl,fun p18 hp18=>?_⟩;have s18:=ji hp18 (.lst [V.str (aa "out")]);refine jgI (xs:=ps) (ys:=[aa "out"]) (s18 _ _ p17) jc (by show ps.length+1≤1000;omega) fun p19 G19 s19 n19 e19=>?_
 have s20:=s18.trans s19;have S19:=S17.same s20;have W19:=W17.same s20;have p19':=s20 _ _ p17;have r19:=s20 _ _ r17;have h19:=h17.mono s20;have n19a:p19≠a:=fun z=>by
  have:=s18 _ _ S17.D.l;rw[← z,n19]at this;cases this
 refine⟨_,rfl,a,p19,p2,ds.drop (1+m1),L3,m2,ps++[aa "out"],rs,rfl,S19.D,e19,r19,n19a,nra,by rw[af];show _+1≤100;omega,rl,by omega,fun u20 G20 o20 D20 h20=>?_⟩;have o20':Out (a :: ds) G19 G20:=o20.sub fun b hb=>by
  rcases ak.mp hb with rfl | hb
  ·exact am ..
  ·exact ao _ (cz hb)
 have o20h:=S19.o.then o20';have W20:=W19.out o20 S19.D fit;have p20:=o20 _ _ (S19.D.ne p19' npa) p19';have r20:=o20 _ _ (S19.D.ne r19 nra) r19;have h20':=(o20.tk S19.D).held h19;rw[cD]at D20;generalize kY (ps++[aa "out"]) rs L3 m2=gv at *;obtain⟨gv,L4⟩:=gv;dsimp only at q D20 h20;clear S16 S17 S19 W16 W17 W19 p16 p17 p19' r16 r17 r19 h16 h17 h19 k17 s18 s19 s20 n19 e19 n19a hp18 o20 o20';refine gQ ?_;refine⟨_,rfl,_,rfl,a,wd,_,L4,⟨nl,fl,p2,hl⟩,ps++aa "out" :: fs,aa "out" :: fs,rs,hds,30,by decide,by decide,rfl,D20,W20,fit,fun u21 G21 k21 o21 D21 W21 h21=>?_⟩;have tk:=o21.tkW D20 W20;have lw:∀{b:Addr} {zs:List Str},G20 b=some (.lst (zs.map V.str))->b≠a->b ∉ wd :: a :: ds.drop (1+m1+m2):=fun {b zs} e ha z=>by
  rcases ak.mp z with z | z
  ·obtain⟨kvs,hw,-⟩:=W20.d
   rw[z,hw]at e;cases e
  ·exact D20.ne e ha z
 have p21:=o21 _ _ (lw p20 npa) p20;have r21:=o21 _ _ (lw r20 nra) r20;have o22:Out (a :: ds) H G21:=fun b o hb e=>o21 _ _ (fun z=>by
  rcases ak.mp z with z | z
  ·rw[z,wH]at e;cases e
  ·rcases ak.mp z with z | z
   ·exact hb (z ▸ am ..)
   ·exact hb (ao _ (cz z))) (o20h _ _ hb e)
 rw[cD]at D21;refine gQ ?_;refine⟨_,rfl,_,rfl,p,_,rfl,.inl ⟨SqL.of p21,fun t1 ht1=>?_⟩⟩;have s1:=ji ht1 (.tup (ps.map V.str));refine⟨_,rfl,p2,_,rfl,.inl ⟨SqL.of (s1 _ _ r21),fun t2 ht2=>?_⟩⟩;have s2:=ji ht2 (.tup (rs.map V.str));refine⟨_,rfl,_,rfl,_,rfl,sm rfl,fun t3 ht3=>?_⟩;have s3:=ji ht3 (.tup [V.str (aa "proc"),V.str h.1,V.ref t1,V.ref t2,u16,u20,u21]);have s13:=s1.trans (s2.trans s3);refine q _ _ _ (fun b o hb e=>s13 _ _ (o22 _ _ hb e)) (D21.same s13) ?_;exact jy jc (je jw (je jw (je (jy (s3 _ _ (s2 _ _ jc)) (Je _)) (je (jy (s3 _ _ jc) (Je _)) (je ((tk.held h20').mono s13) (je ((tk.held h20).mono s13) (je (h21.mono s13) jz)))))))
end
abbrev JQ:Stmt:=top 74
def yY(ns:List Int)(m:Nat):List (Int×Int):=(b9 m).map fun k=>zB ns (k:Nat)
theorem jc8(ns:List Int)(m:Nat):yY ns (m+1)=yY ns m++[zB ns (m:Nat)]:=by unfold yY;rw[List.range_succ,aH];rfl
theorem DealsAt.snoc{r:Addr}{x:Int×Int}(D:DealsAt H a ds L)(s:Same H H')(hr:H r=none)(er:H' r=some (.lst [.int x.1,.int x.2]))(hz:ds.length < 100):DealsAt (upd H' a (.lst ((ds++[r]).map V.ref))) a (ds++[r]) (L++[x]):=by
 have hn:=D.new hr;have hx:∀(i:Nat) d y,ds[i]?=some d->L[i]?=some y->d≠a:=fun i d y h1 h2 z=>by
  have e:=D.at_ i d y h1 h2;rw[z,D.l]at e;injection e with e;injection e with e
  cases ds with
  | nil=>cases e
  | cons q qs=>injection e with e;cases e
 refine⟨jc,by rw[af,af,D.n];rfl,dJ.mpr ⟨D.nd,aP.mpr ⟨fun z=>(nomatch z),eP⟩,fun y hy z hz e=>hn (ao _ (by rw[← aJ.mp hz,← e];exact hy))⟩,by rw[af];exact hz,fun i d y h1 h2=>?_⟩;have dn:=D.n;by_cases hi:i < ds.length
 ·rw[gU hi]at h1
  rw[gU (by omega)]at h2;rw[js (hx i d y h1 h2)];exact s _ _ (D.at_ i d y h1 h2)
 ·rw[gT (by omega)]at h1
  rw[gT (by omega),← dn]at h2
  cases hj:i - ds.length with
  | zero=>
   rw[hj]at h1 h2
   cases h1
   cases h2
   rw[js (fun (z:r=a)=>hn (z ▸ am ..))];exact er
  | succ j=>rw[hj]at h1;cases h1
def j6(w n:Int)(tk:List Str):Nat->List Hd×Int
 | 0=>([],n)
 | i+1=>
  let p:=j6 w n tk i
  let r:=qu w p.2 (tk++p.1.map (·.1))
  let a:=jj w r.2 5
  let b:=jj w a.2 4
  (p.1++[(r.1,a.1.toNat,b.1.toNat)],b.2)
theorem KA(w n:Int){tk:List Str}(h0:tk≠[])(h:∀z∈tk,NmW z):∀i,tk.length+i≤26->(j6 w n tk i).1.length=i/\(∀z∈(j6 w n tk i).1.map (·.1),NmW z)/\(∀z∈(j6 w n tk i).1.map (·.1),z ∉ tk)/\((j6 w n tk i).1.map (·.1)).Nodup/\∀x∈(j6 w n tk i).1,x.2.1≤4/\x.2.2≤3
 | 0,_=>⟨rfl,(fun _ z=>nomatch z),(fun _ z=>nomatch z),eP,(fun _ z=>nomatch z)⟩
 | i+1,hi=>by
  obtain⟨h1,h2,h3,h4,h7⟩:=KA w n h0 h i (by omega);obtain⟨h5,h6⟩:=jac w (j6 w n tk i).2 (tk:=tk++(j6 w n tk i).1.map (·.1)) (by simp[h0]) (by rw[af,ae];omega) (fun z hz=>(aB.mp hz).elim (h z) (h2 z));have es:j6 w n tk (i+1)=((j6 w n tk i).1++[((qu w (j6 w n tk i).2 (tk++(j6 w n tk i).1.map (·.1))).1,(jj w (qu w (j6 w n tk i).2 (tk++(j6 w n tk i).1.map (·.1))).2 5).1.toNat,(jj w (jj w (qu w (j6 w n tk i).2 (tk++(j6 w n tk i).1.map (·.1))).2 5).2 4).1.toNat)],(jj w (jj w (qu w (j6 w n tk i).2 (tk++(j6 w n tk i).1.map (·.1))).2 5).2 4).2):=rfl;have b1:=jK w (qu w (j6 w n tk i).2 (tk++(j6 w n tk i).1.map (·.1))).2 (m:=5) (by decide);have b2:=jK w (jj w (qu w (j6 w n tk i).2 (tk++(j6 w n tk i).1.map (·.1))).2 5).2 (m:=4) (by decide);rw[es];generalize qu w (j6 w n tk i).2 (tk++(j6 w n tk i).1.map (·.1))=nm at *;generalize jj w (jj w nm.2 5).2 4=y at *;generalize jj w nm.2 5=x at *;dsimp only;rw[aH];refine⟨by rw[af,h1];rfl,fun z hz=>?_,fun z hz=>?_,?_,fun z hz=>?_⟩
  ·rcases aB.mp hz with hz | hz
   ·exact h2 z hz
   ·rw[aJ.mp hz];exact h5
  ·rcases aB.mp hz with hz | hz
   ·exact h3 z hz
   ·rw[aJ.mp hz];exact fun q=>h6 (aB.mpr (.inl q))
  ·exact dJ.mpr ⟨h4,aP.mpr ⟨fun z=>(nomatch z),eP⟩,fun x hx y hy e=>h6 (aB.mpr (.inr ((show _=nm.1 from e.trans (aJ.mp hy)) ▸ hx)))⟩
  ·rcases aB.mp hz with hz | hz
   ·exact h7 z hz
   ·rw[aJ.mp hz];exact⟨by show x.1.toNat≤4;omega,by show y.1.toNat≤3;omega⟩
def yT(hds:List Hd)(L:List (Int×Int)):Nat->List Pc×List (Int×Int)
 | 0=>([],L)
 | i+1=>
  let p:=yT hds L i
  let r:=jaP hds (hds.getD i ("",0,0)) p.2
  (p.1++[r.1],r.2)
def Ka(e:Int):Int:=if e / 3=0 then 3 else 6
def yi(ns:List Int)(m:Nat):List Hd:=
 let y:=qI (yY ns m)
 let e:=jj y.1.1 y.1.2 4
 let c:=jj y.1.1 e.2 (Ka e.1)
 (j6 y.1.1 c.2 jS (1+c.1).toNat).1
def jaO(ns:List Int)(m:Nat):List Pc:=(yT (yi ns m) (qI (yY ns m)).2 (yi ns m).length).1
def ZP(K:ah):Sp:=fun vs H Q _=>∃(a tl:Addr) (ns:List Int) (m:Nat),vs=[.ref a,.int (m:Nat),.ref tl]/\SqL K H a (ns.map V.int)/\ns.length≤63/\m≤63/\H tl=some (.lst (jS.map V.str))/\∀u H',Keep tl H H'->Held H' (.tup ((jaO ns m).map Pc.toD)) u->Q u H'
section
variable {w:World}
theorem jcG(F:Fun K "_law_program" "_law_program" JQ f fd)(B:Free0 mg)(cV:Fn P w K mg base 1 "_law_deal" ["_law_script","_law_k"] (jbp K))(bG:Fn P w K mg base 1 "_law_next" ["_law_deals"] KN)(aA:Fn P w K mg base 1 "_law_draw" ["_law_deal_here","_law_many_here"] zv)(dq:Fn P w K mg base 2 "_law_name" ["_law_deal_here","_law_taken_here"] jdr)(im:Fn P w K mg base 17 "_law_proc" ["_law_deals","_law_heads","_law_k"] jeC):FnOk P w K mg base CX0 18 f fd ["_law_script","_law_many_here","_law_taken_here"] (ZP K):=by
 have sc:FnScope ["_law_script","_law_many_here","_law_taken_here","_law_deals","_law_deal_here","_law_heads","_law_k"] ["_law_script","_law_many_here","_law_taken_here"] (jn JQ):=fQ;refine F.okZ sc (fun vs H Q E h=>?_) (fun aj A outer s H vs Q E hr h=>?_)
 ·obtain⟨a,tl,ns,m,rfl,_⟩:=h
  rfl
 obtain⟨sa,tl,ns,m,rfl,hS,hn,hm,htl,q⟩:=h;refine⟨_,(jd (ju (i:=3) sc.nd rfl oQ (qt ["_law_k"] [0] rfl (qc (sc:=jn JQ) (N:=["_law_script","_law_many_here","_law_taken_here","_law_deals","_law_deal_here","_law_heads","_law_k"]) rfl rfl (by decide +kernel)) (qe (by rfl) B.range_ (ja (zpv 1) jb)) (fun s H ex=>⟨(jm (i:=0) (show br (["_law_k","_law_script"]:List Str) by decide +kernel) rfl oQ),kT,(jJ cV hr (ja (zpv 1) (ja (zpv 0) jb)))⟩)))
   (jd (ju (i:=4) sc.nd rfl oQ (jJ bG hr (ja (zpv 3) jb)))
   (jd (ju (i:=5) sc.nd rfl oQ (jT jb))
   (jd (zq cu rfl (qe (by rfl) B.range_ (ja (jt zy jg (jJ aA hr (ja (zpv 4) (ja (jv j9 (jT (ja jg (ja jg jb))) (jt J8 (jJ aA hr (ja (zpv 4) (ja jg jb))) jg) (fun _ _=>rfl)) jb)))) jb)) (jm (i:=6) sc.nd rfl oQ) (jh (jC (jN aF aS aR jW (zpv 5) (ja (jQ (ja (jJ dq hr (ja (zpv 4) (ja (zpv 2) jb))) (ja (jJ aA hr (ja (zpv 4) (ja jg jb))) (ja (jJ aA hr (ja (zpv 4) (ja jg jb))) jb)))) jb)))))
   (jh (jx (kC j0 (by rfl) B.tuple_ kL (ja (qt ["_law_k"] [3,5] rfl (qc (sc:=jn JQ) (N:=["_law_script","_law_many_here","_law_taken_here","_law_deals","_law_deal_here","_law_heads","_law_k"]) rfl rfl (by decide +kernel)) (qe (by rfl) B.range_ (ja (k9 jV (by rfl) B.len_ kJ (ja (zpv 5) jb)) jb)) (fun s H ex=>⟨(jm (i:=0) (show br (["_law_k","_law_deals","_law_heads"]:List Str) by decide +kernel) rfl oQ),kT,(jJ im hr (ja (zpv 1) (ja (zpv 2) (ja (zpv 0) jb))))⟩)) jb)))))))),?_⟩
 try dsimp only[qo]
 refine jG (σ':=[some (.ref sa),some (.int (m:Nat)),some (.ref tl),none,none,none,none]) rfl ?_;refine Zk ?_;intro _ _ _ _;refine⟨_,rfl,_,rfl,(by omega),(by omega),fun a ha=>?_⟩;rw[bS];have s0:=ji ha (.lst []);refine qy (fun i σ' G=>∃u ds,σ'=[u,some (.ref sa)]/\Same H G/\DealsAt G a ds (yY ns i)/\∀x∈ds,H x=none) ⟨none,[],rfl,s0,⟨jc,rfl,eP,bm _,fun i d x h=>by cases h⟩,fun _ z=>nomatch z⟩ ?_ ?_
 ·rintro i σ' G hi ⟨u,ds,rfl,sG,DG,hx⟩
  have dl:ds.length=i:=by rw[DG.n];unfold yY;rw[ae,i7]
  unfold qA y4;refine kQ ?_;refine⟨_,rfl,_,rfl,sa,ns,(i:Nat),by rw[show (0:Int)+((i:Nat):Int)=((i:Nat):Int) by omega];rfl,sG.seq hS,hn,by omega,by omega,fun r G' hr sG' er=>?_⟩;refine⟨ds.map V.ref,sG' _ _ DG.l,ky (by rw[ae];omega),_,ds++[r],rfl,fun b o e=>?_,?_,fun x hx'=>?_⟩
  ·rw[js (jl e ha)];exact sG' _ _ (sG _ _ e)
  ·rw[jc8]
   have:=DG.snoc sG' hr er (by omega);rw[aH]at this;exact this
  ·rcases aB.mp hx' with h | h
   ·exact hx x h
   ·rw[aJ.mp h];exact sG.free hr
 rintro σ' G ⟨u,ds,rfl,sG,DG,hx⟩;unfold jaO yi at q;dsimp only at q;generalize yY ns m=L at *;refine gQ ?_;refine⟨_,rfl,a,ds,L,rfl,DG,fun d H2 k2 hd e2 nd2 D2=>?_⟩;rw[← gV]at nd2 D2;generalize qI L=y at *;obtain⟨⟨w,n⟩,L2⟩:=y;dsimp only at q e2 D2;have nta:tl≠a:=fun z=>by rw[z,ha]at htl;cases htl
 have ntd:tl ∉ a :: ds:=fun z=>by
  rcases ak.mp z with z | z
  ·exact nta z
  ·have:=hx _ z
   rw[htl]at this;cases this
 have dH:H d=none:=by
  rcases hd with h | h
  ·exact sG.free h
  ·exact hx _ h
 have k2':Keep tl H H2:=fun b o _ e=>k2 _ _ (jl e ha) (sG _ _ e)
 have S:PrA (fun _=>none) a ds H2 d w n 1 L2:=⟨fun _ _ _ e=>(nomatch e),e2,D2,nd2,.inl rfl⟩
 have t2:=k2 _ _ nta (sG _ _ htl);have hx2:∀b,H2 b=none->b ∉ a :: ds:=fun b hb z=>by
  by_cases e:b=a
  ·rw[e,D2.l]at hb;cases hb
  cases z2:G b with
  | none=>exact DG.new z2 z
  | some o=>rw[k2 _ _ e z2]at hb;cases hb
 clear e2 D2 nd2 hd k2 DG;refine gQ ?_;refine⟨sm rfl,fun hl hhl=>?_⟩;have s3:=ji hhl (.lst []);have e3:upd H2 hl (.lst []) hl=some (.lst []):=jc;have S3:=S.same s3;have t3:=s3 _ _ t2;have k3:Keep tl H (upd H2 hl (.lst [])):=k2'.trans (Keep.same s3);have nhd:hl≠d:=(jl S.hd hhl).symm;have nht:hl≠tl:=(jl t2 hhl).symm;have nha:hl≠a:=(jl S.D.l hhl).symm;have hlH:H hl=none:=by
  cases z:H hl with
  | none=>rfl
  | some o=>exact absurd (k2' _ _ nht z) (by rw[hhl];exact fun z=>nomatch z)
 have nhds:=hx2 _ hhl;generalize upd H2 hl (.lst [])=H3 at *;clear S t2 k2' hhl s3;refine gQ ?_;refine⟨_,rfl,sm rfl,fun p4 hp4=>?_⟩;have s4:=ji hp4 (.lst [V.int 3,V.int 6]);have e4:upd H3 p4 (.lst [V.int 3,V.int 6]) p4=some (.lst [V.int 3,V.int 6]):=jc;have S4:=S3.same s4;have n4d:p4≠d:=(jl S3.hd hp4).symm;have t4:=s4 _ _ t3;have h4:=s4 _ _ e3;have k4:=k3.trans (Keep.same s4);generalize upd H3 p4 (.lst [V.int 3,V.int 6])=H4 at *;have lo:=jO w n (m:=4) (by decide);have hi:=jK w n (m:=4) (by decide);have kd:=Keep.upd d H4 (.lst [.int w,.int (jj w n 4).2]);have S5:=S4.keep kd jc;have ntd':tl≠d:=fun z=>by rw[z,dH]at htl;cases htl
 have t5:=kd _ _ ntd' t4;have h5:=kd _ _ nhd h4;have k5:Keep tl H (upd H4 d (.lst [.int w,.int (jj w n 4).2])):=fun b o hb e=>kd _ _ (jl e dH) (k4 _ _ hb e)
 refine⟨_,rfl,d,w,n,4,rfl,S4.hd,by decide,by decide,_,_,rfl,rfl,⟨by decide,by decide⟩,p4,_,_,.int (Ka (jj w n 4).1),rfl,rfl,SqL.of (kd _ _ n4d e4),?_,?_⟩
 ·have:(jj w n 4).1 / 3=0∨(jj w n 4).1 / 3=1:=by omega
  unfold Ka;rcases this with h | h <;> rw[h] <;> rfl
 generalize upd H4 d (.lst [.int w,.int (jj w n 4).2])=H5 at *;generalize jj w n 4=e at *;have mp:0 < Ka e.1/\Ka e.1≤6:=by unfold Ka;split <;> exact⟨by decide,by decide⟩
 generalize Ka e.1=most at *;clear S3 S4 t3 t4 h4 k3 k4 kd e4 s4 hp4 e3 n4d;have lo:=jO w e.2 mp.1;have hi:=jK w e.2 mp.1;have kd:=Keep.upd d H5 (.lst [.int w,.int (jj w e.2 most).2]);have S6:=S5.keep kd jc;have t6:=kd _ _ ntd' t5;have h6:=kd _ _ nhd h5;have k6:Keep tl H (upd H5 d (.lst [.int w,.int (jj w e.2 most).2])):=fun b o hb e=>kd _ _ (jl e dH) (k5 _ _ hb e)
 refine⟨d,w,e.2,most,rfl,S5.hd,mp.1,by omega,_,_,rfl,rfl,_,rfl,by omega,by omega,?_⟩;generalize upd H5 d (.lst [.int w,.int (jj w e.2 most).2])=H6 at *;generalize jj w e.2 most=c at *;clear S5 t5 h5 k5 kd;have t16:jS.length=16:=rfl;refine Y9 (fun i σ G=>∃u hs,σ=[some (.ref sa),some (.int (m:Nat)),some (.ref tl),some (.ref a),some (.ref d),some (.ref hl),u]/\Keep tl H G/\PrA (fun _=>none) a ds G d w (j6 w c.2 jS i).2 1 L2/\G tl=some (.lst ((jS++(j6 w c.2 jS i).1.map (·.1)).map V.str))/\G hl=some (.lst hs)/\hs.length=i/\HeldL G ((j6 w c.2 jS i).1.map hdD) hs) ⟨none,[],rfl,k6,S6,t6,h6,rfl,jz⟩ ?_ ?_
 ·rintro i σ G hi' ⟨u,hs,rfl,kG,S,tG,hG,hsl,hH⟩
  have hi2:i < (1+c.1).toNat:=hi';obtain⟨h1,h2,-,-,-⟩:=KA w c.2 ZM zz i (by omega);refine gQ ?_;refine⟨_,rfl,.inl ⟨rfl,_,SqL.of hG⟩,_,rfl,_,rfl,d,tl,w,_,_,rfl,S.hd,tG,by simp[ZM],by rw[af,ae];omega,fun z hz=>(aB.mp hz).elim (zz z) (h2 z),fun G1 q1 q2 q3=>?_⟩;have S1:=S.keep2 ntd rfl q1 q2;have k1:Keep tl H G1:=fun b o hb e=>q1 _ _ (jl e dH) hb (kG _ _ hb e)
  have hG1:=q1 _ _ nhd nht hG;have hH1:=TK.heldL (fun b ys e=>q1 _ _ (fun z=>by rw[z,S.hd]at e;cases e) (fun z=>by rw[z,tG]at e;cases e) e) hH;have es:j6 w c.2 jS (i+1)=((j6 w c.2 jS i).1++[((qu w (j6 w c.2 jS i).2 (jS++(j6 w c.2 jS i).1.map (·.1))).1,(jj w (qu w (j6 w c.2 jS i).2 (jS++(j6 w c.2 jS i).1.map (·.1))).2 5).1.toNat,(jj w (jj w (qu w (j6 w c.2 jS i).2 (jS++(j6 w c.2 jS i).1.map (·.1))).2 5).2 4).1.toNat)],(jj w (jj w (qu w (j6 w c.2 jS i).2 (jS++(j6 w c.2 jS i).1.map (·.1))).2 5).2 4).2):=rfl;rw[es];generalize qu w (j6 w c.2 jS i).2 (jS++(j6 w c.2 jS i).1.map (·.1))=nm at *;generalize (j6 w c.2 jS i).1=hd0 at *;clear S q1 q2 hG hH kG es;have lo1:=jO w nm.2 (m:=5) (by decide);have lo2:=jO w (jj w nm.2 5).2 (m:=4) (by decide);have kd:=Keep.upd d G1 (.lst [.int w,.int (jj w nm.2 5).2]);have S2:=S1.keep kd jc;refine⟨_,rfl,d,w,nm.2,5,rfl,S1.hd,by decide,by decide,?_⟩;have kd2:=Keep.upd d (upd G1 d (.lst [.int w,.int (jj w nm.2 5).2])) (.lst [.int w,.int (jj w (jj w nm.2 5).2 4).2]);have S3:=S2.keep kd2 jc;refine⟨_,rfl,d,w,(jj w nm.2 5).2,4,rfl,S2.hd,by decide,by decide,sm rfl,fun t ht=>?_⟩;have kd3:=kd.trans kd2;generalize upd (upd G1 d (.lst [.int w,.int (jj w nm.2 5).2])) d (.lst [.int w,.int (jj w (jj w nm.2 5).2 4).2])=G3 at *;generalize (jj w (jj w nm.2 5).2 4)=y at *;generalize (jj w nm.2 5)=x at *;obtain⟨x,x2⟩:=x;obtain⟨y,y2⟩:=y;dsimp only at lo1 lo2 S3 ⊢;obtain⟨x,rfl⟩:∃c:Nat,x=(c:Nat):=⟨x.toNat,by omega⟩
  obtain⟨y,rfl⟩:∃c:Nat,y=(c:Nat):=⟨y.toNat,by omega⟩
  rw[bS,bS];have hG3:=kd3 _ _ nhd hG1;have tG3:=kd3 _ _ ntd' q3;have s4:=ji ht (.tup [V.str nm.1,V.int (x:Nat),V.int (y:Nat)]);have e4:upd G3 t (.tup [V.str nm.1,V.int (x:Nat),V.int (y:Nat)]) t=some (.tup [V.str nm.1,V.int (x:Nat),V.int (y:Nat)]):=jc;have S4:=S3.same s4;generalize upd G3 t (.tup [V.str nm.1,V.int (x:Nat),V.int (y:Nat)])=G4 at *;have hG4:=s4 _ _ hG3;have k4:Keep tl H G4:=fun b o hb e=>s4 _ _ (kd3 _ _ (jl e dH) (k1 _ _ hb e))
  have hH4:=((kd3.tk S1.hd).heldL hH1).mono s4;have tk5:TK G4 (upd G4 hl (.lst (hs++[.ref t]))):=fun b ys e=>by rw[js (fun z=>by rw[z,hG4]at e;cases e)];exact e
  refine⟨hl,hs,_,rfl,rfl,hG4,ky (by omega),_,hs++[.ref t],rfl,fun b o hb e=>?_,?_,?_,jc,by rw[af,hsl];rfl,?_⟩
  ·rw[js (jl e hlH)];exact k4 _ _ hb e
  ·exact S4.keep2 nhds rfl (fun b o _ hb e=>by rw[js hb];exact e) (by rw[js nhd.symm];exact S4.hd)
  ·rw[js nht.symm,show jS++(hd0++[(nm.1,x,y)]).map (fun x:Hd=>x.1)=jS++hd0.map (fun x:Hd=>x.1)++[nm.1] by rw[aH,aG];rfl];exact s4 _ _ tG3
  ·rw[aH]
   exact qx (tk5.heldL hH4) (tk5.held (jy e4 (je jw (je ke (je ke jz)))))
 rintro σ G ⟨u,hs,rfl,kG,S,tG,hG,hsl,hH⟩;have DG:=S.D;obtain⟨h1,-,-,-,h5⟩:=KA w c.2 ZM zz (1+c.1).toNat (by omega);generalize (j6 w c.2 jS (1+c.1).toNat).1=hds at *;clear S k6 S6 t6 h6 nhds;have hhl:=hH.length;rw[ae]at hhl;refine⟨_,rfl,hl,_,rfl,.inl (SqL.of hG),_,rfl,by omega,by omega,fun p hp=>?_⟩;rw[bS];have npt:p≠tl:=(jl tG hp).symm;have pH:H p=none:=by
  cases z2:H p with
  | none=>rfl
  | some o=>rw[kG _ _ npt z2]at hp;cases hp
 have pds:=DG.new hp;have s7:=ji hp (.lst []);refine qy (fun i σ' G'=>∃u us j,σ'=[u,some (.ref a),some (.ref hl)]/\1≤j/\Keep tl H G'/\DealsAt G' a (ds.drop j) (yT hds L2 i).2/\G' hl=some (.lst hs)/\HeldL G' (hds.map hdD) hs/\G' p=some (.lst us)/\us.length=i/\HeldL G' ((yT hds L2 i).1.map Pc.toD) us) ⟨none,[],1,rfl,av _,kG.trans (Keep.same s7),DG.same s7,s7 _ _ hG,hH.mono s7,jc,rfl,jz⟩ ?_ ?_
 ·rintro i σ' G' hi' ⟨u,us,j,rfl,hj,kG',DG',hG',hH',hGp,hul,hus⟩
  have hi2:i < hds.length:=by rw[hhl];exact hi'
  have eg:hds[i]?=some (hds.getD i ("",0,0)):=by rw[cg,aE hi2];rfl
  have npS:∀b,b∈a :: ds.drop j->b∈a :: ds.drop 1:=fun b hb=>by
   rcases ak.mp hb with rfl | hb
   ·exact am ..
   ·rw[show j=1+(j - 1) by omega,← cD]at hb
    exact ao _ (cz hb)
  unfold qA y4;refine kQ ?_;refine⟨_,rfl,_,rfl,_,rfl,a,hl,ds.drop j,_,hs,hds,i,_,by rw[show (0:Int)+((i:Nat):Int)=((i:Nat):Int) by omega];rfl,DG',hG',hH',nha,by omega,h5,eg,fun u2 G2 j2 o2 D2 hu2=>?_⟩;have hGp2:=o2 _ _ (fun z=>pds (npS _ z)) hGp;have tk:=o2.tk DG';have tk3:TK G2 (upd G2 p (.lst (us++[u2]))):=fun b ys e=>by rw[js (fun z=>by rw[z,hGp2]at e;cases e)];exact e
  have nph:hl≠p:=(jl hG hp)
  rw[cD]at D2;refine⟨us,hGp2,ky (by omega),_,us++[u2],j+j2,rfl,by omega,fun b o hb e=>?_,?_,?_,tk3.heldL (tk.heldL hH'),jc,by rw[af,hul];rfl,?_⟩
  ·rw[js (jl e pH)]
   refine o2 _ _ (fun z=>?_) (kG' _ _ hb e);rcases ak.mp z with z | z
   ·rw[z,ha]at e;cases e
   ·rw[hx _ (cz z)]at e;cases e
  ·refine D2.put (fun z=>pds ?_)
   rcases ak.mp z with z | z
   ·exact z ▸ am ..
   ·rw[show j+j2=1+(j+j2 - 1) by omega,← cD]at z
    exact ao _ (cz z)
  ·rw[js nph]
   exact o2 _ _ (DG'.out hG' nha fun _ _ e=>by injection e with e;exact YI hH' _ _ e) hG'
  ·show HeldL _ (((yT hds L2 i).1++[_]).map Pc.toD) _
   rw[aH];exact qx (tk3.heldL (tk.heldL hus)) (tk3.held hu2)
 rintro σ' G' ⟨u,us,j,rfl,hj,kG',DG',hG',hH',hGp,hul,hus⟩;refine⟨p,us,rfl,.inl ⟨SqL.of hGp,fun t ht=>?_⟩⟩;have s8:=ji ht (.tup us);refine q _ _ (kG'.trans (Keep.same s8)) (jy jc ?_);rw[hhl];exact hus.mono s8
end
end LW
namespace L2
open PySem
open PySem PySem.Spec PyProof.Rows PySem.W
mutual
def D.py:D->PyData
 | .int i=>.int i
 | .str x=>.str x
 | .tup ds=>.tuple (D.pyL ds)
def D.pyL:List D->List PyData
 | []=>[]
 | d :: ds=>D.py d :: D.pyL ds
end
def sgn(d:D):List Nat:=d.py.shown.cps.toList
theorem jeH(i:Int):sgn (.int i)=(eZ i).toList.map fN:=by
 show ((eZ i:String):Str).cps.toList=_;rw[signs_ofString]
end L2
namespace LW
open PySem L2
abbrev KO:Stmt:=top 56
def jkz(x:Int):Int:=if x < 0 then -x else x
def jah(i:Int):Str:=aa (eZ i)
theorem jjp(z:Str):z.length=z.cps.toList.length:=by simp[fX]
theorem je5{m k:Nat}(hk:0 < k)(h:m < 10 ^ k):m.repr.toList.length≤k:=by
 have:=(rf (b:=10) (by decide) hk).mpr h;simpa[Nat.repr]using this
theorem Jc{i:Int}(h:i.natAbs < 10 ^ 20):(jah i).length≤21:=by
 rw[jjp,show (jah i).cps.toList=(eZ i).toList.map fN from jeH i,ae]
 cases i with
 | ofNat m=>exact ad (je5 (by decide) (show m < 10 ^ 20 from h)) (by decide)
 | negSucc m=>
  show ("-"++m.succ.repr).toList.length≤21;have:=je5 (m:=m.succ) (k:=20) (by decide) h;rw[ng,af];show 1+_≤21;omega
def kK(z:Str)(c:Int):Str:=if z=aa "" then jah c else if 0 < c then z++aa " + "++jah c else if c < 0 then z++aa " - "++jah (-c) else z
variable {x y:Str}
theorem la{k m:Nat}(hx:x.length≤k)(hy:y.length≤m):(x++y).length≤k+m:=by rw[aU];omega
variable {n:Nat}
theorem log2_lt(h:n < 10 ^ 20):n.log2 < 100:=by
 rcases rh n with rfl | hp
 ·decide
 ·exact (mL (by omega)).mpr (eM h (by decide))
theorem kj(z:Str):aV++z=z:=zR (by rw[gw,dR];rfl)
variable {H:Hp}{Q:Str->Hp->Prop}
theorem jcE{c:Str}{t:TJ}{σ:St}{out:Str}(ho:out.length≤n)(hc:c.length≤100)(hn:n≤800)(h:(out++c).length≤n+100->t σ H (out++c) Q):jaX (tC (.str c)) t σ H out Q:=⟨c,rfl,jL (ad (la ho hc) (by omega)),h (la ho hc)⟩
theorem jfE{te:TE}{t:TJ}{σ:St}{out:Str}(ho:out.length≤n)(hx:x.length≤100)(hn:n≤800)(ht:∀q:VK,q (.str x) H->te σ H q)(h:(out++x).length≤n+100->t σ H (out++x) Q):jaX (jk8 te) t σ H out Q:=ht _ ⟨x,rfl,jL (ad hx (by decide)),x,rfl,jL (ad (la ho hx) (by omega)),h (la ho hx)⟩
theorem jiE{te:TE}{i:Int}{t:TJ}{σ:St}{out:Str}(ho:out.length≤n)(hi:i.natAbs < 10 ^ 20)(hn:n≤800)(ht:∀q:VK,q (.int i) H->te σ H q)(h:(out++jah i).length≤n+100->t σ H (out++jah i) Q):jaX (jkL te) t σ H out Q:=ht _ ⟨i,rfl,eM hi (by decide),_,rfl,jL (ad (la ho (ad (Jc hi) (by decide:21≤100))) (by omega)),h (la ho (ad (Jc hi) (by decide)))⟩
def jbo:Sp:=fun vs H Q _=>∃(z:Str) (c:Int),vs=[.str z,.int c]/\z.length≤100/\c.natAbs < 10 ^ 20/\Q (.str (kK z c)) H
variable {P:Program}{w:World}{K:ah}{mg:Str->Option Value}{base:Heap}{f:Addr}{fd:aq}
section
theorem jj1(F:Fun K "with_more" "with_more" KO f fd)(B:Free0 mg):FnOk P w K mg base CX0 1 f fd ["named","c"] jbo:=by
 have sc:FnScope ["named","c"] ["named","c"] (jn KO):=fQ;refine F.okZ sc (fun vs H Q E h=>?_) (fun aj A outer s H vs Q E hr h=>?_)
 ·obtain⟨z,c,rfl,_⟩:=h
  rfl
 obtain⟨z,c,rfl,hz,hc,q⟩:=h;refine⟨_,(jd (jM (jA j5 (zpv 0) jf (jD _)) (jh (jx (kC Jx (by rfl) B.str_ jb5 (ja (zpv 1) jb)))) jH)
   (jd (jM (jA KI (zpv 1) jg (jD _)) (jh (jx (kF (jI (ki (zpv 0)) (jI jf (jI (jcc (zpv 1)) qp)))))) jH)
   (jd (jM (jA Z5 (zpv 1) jg (jD _)) (jh (jx (kF (jI (ki (zpv 0)) (jI jf (jI (jcc (JD JI (zpv 1))) qp)))))) jH)
   (jh (jx (zpv 0)))))),?_⟩
 refine jG (σ':=[some (.str z),some (.int c)]) rfl ?_;unfold kK at q;refine⟨_,rfl,rfl,_,rfl,qi (fun d=>?_) (fun d=>?_)⟩
 ·have d':z=aa "":=by have:=of_decide_eq_true d;injection this
  rw[if_pos d']at q;exact⟨_,rfl,c,rfl,eM (log2_lt hc) (by decide),q⟩
 rw[if_neg (fun h=>d (decide_eq_true (congrArg V.str h)))]at q;refine⟨_,rfl,_,_,rfl,rfl,_,rfl,qi (fun d=>?_) (fun d=>?_)⟩
 ·rw[if_pos (of_decide_eq_true d)]at q
  refine jfE (n:=0) (av _) hz (by decide) (fun q h=>⟨_,rfl,h⟩) fun h1=>jcE h1 (by decide +kernel) (by decide) fun h2=>jiE h2 hc (by decide) (fun q h=>⟨_,rfl,h⟩) fun h3=>⟨jL (ad h3 (by decide)),?_⟩
  rw[kj];exact q
 rw[if_neg (fun h=>d (decide_eq_true h))]at q;refine⟨_,rfl,_,_,rfl,rfl,_,rfl,qi (fun d=>?_) (fun d=>?_)⟩
 ·rw[if_pos (of_decide_eq_true d)]at q
  refine jfE (n:=0) (av _) hz (by decide) (fun q h=>⟨_,rfl,h⟩) fun h1=>jcE h1 (by decide +kernel) (by decide) fun h2=>jiE (i:=-c) h2 (by omega) (by decide) (fun q h=>⟨_,rfl,_,rfl,h⟩) fun h3=>⟨jL (ad h3 (by decide)),?_⟩
  rw[kj];exact q
 ·rw[if_neg (fun h=>d (decide_eq_true h))]at q
  exact⟨_,rfl,q⟩
end
abbrev JR:Stmt:=top 52
abbrev yK:Stmt:=top 54
abbrev Jq:Stmt:=top 53
abbrev JZ:Stmt:=top 55
def yc:Tm->Str
 | .is x=>if x=aa "" then aa "0" else x
 | .at_ r x d=>r++aa "["++kK x d++aa "]"
def zb(t:Tm)(c:Int):Str:=match t with
 | .is x=>kK x c
 | .at_ r x d=>kK (yc (.at_ r x d)) c
def Yg(b:Bd)(c:Int):Str:=match b with
 | .is x=>kK x c
 | .row r=>kK (r++aa "[]") c
def tmL:Tm->List D
 | .is x=>[.str "is",.str x]
 | .at_ r x d=>[.str "at",.str r,plD x d]
theorem jet:∀{t:Tm} {v:V},Held H t.toD v->∃a xs,v=.ref a/\H a=some (.tup xs)/\HeldL H (tmL t) xs
 | .is _,_,h=>jF h
 | .at_ _ _ _,_,h=>jF h
def jb8:Tm->Prop
 | .is x=>x.length≤8
 | .at_ r x d=>r.length≤8/\x.length≤8/\d.natAbs < 10 ^ 20
def jkC:Bd->Prop
 | .is x=>x.length≤8
 | .row r=>r.length≤8
variable {z:Str}{c:Int}
theorem kI(hz:z.length≤n)(hc:c.natAbs < 10 ^ 20):(kK z c).length≤n+24:=by
 have h1:=Jc hc;have h2:=Jc (i:=-c) (by omega);unfold kK;split
 ·omega
 split
 ·exact ad (la (la hz (show (aa " + ").length≤3 by decide +kernel)) h1) (by omega)
 split
 ·exact ad (la (la hz (show (aa " - ").length≤3 by decide +kernel)) h2) (by omega)
 ·omega
theorem zo{t:Tm}(h:jb8 t):(yc t).length≤45:=by
 cases t with
 | is x=>
  show (if x=aa "" then aa "0" else x).length≤45;split
  ·decide +kernel
  ·exact ad (show x.length≤8 from h) (by decide)
 | at_ r x d=>
  obtain⟨h1,h2,h3⟩:=h;exact ad (la (la (la h1 (show (aa "[").length≤1 by decide +kernel)) (kI h2 h3)) (show (aa "]").length≤1 by decide +kernel)) (by decide)
def Ys:Sp:=fun vs H Q _=>∃(v:V) (x:Str) (d:Int),vs=[v]/\Held H (plD x d) v/\x.length≤8/\d.natAbs < 10 ^ 20/\Q (.str (kK x d)) H
def ZU:Sp:=fun vs H Q _=>∃(v:V) (t:Tm),vs=[v]/\Held H t.toD v/\jb8 t/\∀H',Same H H'->Q (.str (yc t)) H'
def jbm:Sp:=fun vs H Q _=>∃(v:V) (t:Tm) (c:Int),vs=[v,.int c]/\Held H t.toD v/\jb8 t/\c.natAbs < 10 ^ 20/\∀H',Same H H'->Q (.str (zb t c)) H'
def jcq:Sp:=fun vs H Q _=>∃(v:V) (b:Bd) (c:Int),vs=[v,.int c]/\Held H b.toD v/\jkC b/\c.natAbs < 10 ^ 20/\Q (.str (Yg b c)) H
section
theorem jf0(F:Fun K "place_text" "place_text" JR f fd)(ck:Fn P w K mg base 1 "with_more" ["named","c"] jbo):FnOk P w K mg base CX0 2 f fd ["place"] Ys:=by
 have sc:FnScope ["place","x","d"] ["place"] (jn JR):=fQ;refine F.okZ sc (fun vs H Q E h=>?_) (fun aj A outer s H vs Q E hr h=>?_)
 ·obtain⟨v,x,d,rfl,_⟩:=h
  rfl
 obtain⟨v,x,d,rfl,hv,hx,hd,q⟩:=h;refine⟨_,(jd (km (zpv 0) (kg rfl (jo (jm (i:=1) sc.nd rfl oQ) (jo (jm (i:=2) sc.nd rfl oQ) j4))))
   (jh (jx (jp ck hr (ja (zpv 1) (ja (zpv 2) jb)))))),?_⟩
 obtain⟨a,rfl,ha⟩:=J5 hv;refine jG (σ':=[some (.ref a),none,none]) rfl ?_;refine⟨_,rfl,a,_,rfl,SqT.of ha,rfl,_,_,rfl,_,_,rfl,rfl,?_⟩;refine jG (σ':=[some (.ref a),some (.str x),some (.int d)]) rfl ?_;exact⟨_,rfl,_,rfl,x,d,rfl,ad hx (by decide),hd,q⟩
theorem jgg(F:Fun K "alone_text" "alone_text" yK f fd)(bC:Fn P w K mg base 2 "place_text" ["place"] Ys):FnOk P w K mg base CX0 3 f fd ["term"] ZU:=by
 have sc:FnScope ["term"] ["term"] (jn yK):=fQ;refine F.okZ sc (fun vs H Q E h=>?_) (fun aj A outer s H vs Q E hr h=>?_)
 ·obtain⟨v,t,rfl,_⟩:=h
  rfl
 obtain⟨v,t,rfl,hv,ht,q⟩:=h;have hu9:(A.deeper (gC "alone_text" (jn yK) s.heap.objs.size f aj)).units+1+8 < cLine:=by have:=hr.units;omega
 refine⟨_,(jd (jM (jA (je1 8 hu9) (zpv 0) (jQ (ja jf (ja jf jb))) (jD _)) (jh (jx jf)) jH)
   (jd (jM (jA j5 (jv jE (zpv 0) jg (fun _ _=>rfl)) jf (jD _)) (jh (jx (jv jE (zpv 0) jg (fun _ _=>rfl)))) jH)
   (jh (jx (kF (jI (ki (jv jE (zpv 0) jg (fun _ _=>rfl))) (jI jf (jI (ki (jp bC hr (ja (jv jE (zpv 0) jg (fun _ _=>rfl)) jb))) (jI jf qp))))))))),?_⟩
 refine jG (σ':=[some v]) rfl ?_;obtain⟨a,xs,rfl,ha,hL⟩:=jet hv;refine⟨_,rfl,sm rfl,fun p hp=>?_⟩;have s1:=ji hp (.tup [V.str (aa "is"),V.str (aa "")]);refine⟨a,p,_,_,tmL t,[.str "is",.str ""],rfl,rfl,s1 _ _ ha,jc,?_,hL.mono s1,je jw (je jw jz),_,rfl,?_⟩
 ·cases t with
  | is x=>exact gM rfl
  | at_ r x d=>exact gM rfl
 generalize upd H p (.tup [V.str (aa "is"),V.str (aa "")])=H1 at *
 cases t with
 | is x=>
  obtain⟨a',e1,ha'⟩:=zc (show Held H (.tup [.str "is",.str x]) (.ref a) from hv)
  cases e1
  have q:∀H',Same H H'->Q (.str (if x=aa "" then aa "0" else x)) H':=q;refine qi (fun d=>?_) (fun d=>?_)
  ·have d':=of_decide_eq_true d
   injection d' with _ d';injection d' with d';injection d' with d';rw[if_pos d']at q;exact q _ s1
  ·rw[if_neg (fun h=>d (decide_eq_true (by rw[h];rfl)))]at q
   refine⟨_,rfl,a,_,_,_,rfl,rfl,SqT.of (s1 _ _ ha'),jr (j:=0) rfl,rfl,_,rfl,kQ ?_⟩;exact⟨_,rfl,a,_,_,_,rfl,rfl,SqT.of (s1 _ _ ha'),jr (j:=1) rfl,q _ s1⟩
 | at_ r x d=>
  obtain⟨a',b,e1,ha',hb⟩:=jen hv
  cases e1
  obtain⟨h1,h2,h3⟩:=ht;refine qi (fun z=>absurd (of_decide_eq_true z) (fun h=>by injection h with h;injection h with h;exact absurd h (by decide))) (fun _=>?_);refine⟨_,rfl,a,_,_,_,rfl,rfl,SqT.of (s1 _ _ ha'),jr (j:=0) rfl,rfl,_,rfl,kB ?_⟩;unfold yo;dsimp only;refine jfE (x:=r) (n:=0) (av _) (ad h1 (by decide)) (by decide) (fun q h=>⟨_,rfl,a,_,_,_,rfl,rfl,SqT.of (s1 _ _ ha'),jr (j:=1) rfl,h⟩) fun o1=>jcE o1 (by decide +kernel) (by decide) fun o2=>jfE (x:=kK x d) o2 (ad (kI h2 h3) (by decide)) (by decide) (fun q h=>⟨_,rfl,a,_,_,_,rfl,rfl,SqT.of (s1 _ _ ha'),jr (j:=2) rfl,.ref b,x,d,rfl,jy (s1 _ _ hb) (je jw (je ke jz)),h2,h3,h⟩) fun o3=>jcE o3 (by decide +kernel) (by decide) fun o4=>⟨jL (ad o4 (by decide)),?_⟩
  rw[kj];exact q _ s1
theorem jhQ(F:Fun K "term_text" "term_text" Jq f fd)(ck:Fn P w K mg base 1 "with_more" ["named","c"] jbo)(eY:Fn P w K mg base 3 "alone_text" ["term"] ZU):FnOk P w K mg base CX0 4 f fd ["term","c"] jbm:=by
 have sc:FnScope ["term","c"] ["term","c"] (jn Jq):=fQ;refine F.okZ sc (fun vs H Q E h=>?_) (fun aj A outer s H vs Q E hr h=>?_)
 ·obtain⟨v,t,c,rfl,_⟩:=h
  rfl
 obtain⟨v,t,c,rfl,hv,ht,hc,q⟩:=h;have hu9:(A.deeper (gC "term_text" (jn Jq) s.heap.objs.size f aj)).units+1+8 < cLine:=by have:=hr.units;omega
 refine⟨_,(jd (jM (jA (je1 8 hu9) (zpv 0) (jQ (ja jf (ja jf jb))) (jD _)) (jh (jx (jp ck hr (ja jf (ja (zpv 1) jb))))) jH)
   (jh (jx (jp ck hr (ja (jp eY hr (ja (zpv 0) jb)) (ja (zpv 1) jb)))))),?_⟩
 refine jG (σ':=[some v,some (.int c)]) rfl ?_;obtain⟨a,xs,rfl,ha,hL⟩:=jet hv;refine⟨_,rfl,sm rfl,fun p hp=>?_⟩;have s1:=ji hp (.tup [V.str (aa "is"),V.str (aa "")]);refine⟨a,p,_,_,tmL t,[.str "is",.str ""],rfl,rfl,s1 _ _ ha,jc,?_,hL.mono s1,je jw (je jw jz),_,rfl,?_⟩
 ·cases t with
  | is x=>exact gM rfl
  | at_ r x d=>exact gM rfl
 generalize upd H p (.tup [V.str (aa "is"),V.str (aa "")])=H1 at *;refine qi (fun d=>?_) (fun d=>?_)
 ·have d':=of_decide_eq_true d
  cases t with
  | is x=>
   injection d' with _ d';injection d' with d';injection d' with d';subst d';exact⟨_,rfl,_,c,rfl,by decide +kernel,hc,q _ s1⟩
  | at_ r x d0=>injection d' with d';injection d' with d';exact absurd d' (by decide)
 ·refine⟨_,rfl,.ref a,t,rfl,hv.mono s1,ht,fun H2 s2=>⟨_,rfl,_,c,rfl,ad (zo ht) (by decide),hc,?_⟩⟩
  have e:kK (yc t) c=zb t c:=by
   cases t with
   | is x=>
    show kK (if x=aa "" then aa "0" else x) c=kK x c;rw[if_neg (fun h=>d (decide_eq_true (by rw[h];rfl)))]
   | at_ r x d=>rfl
  rw[e];exact q _ (s1.trans s2)
theorem jgc(F:Fun K "bound_text" "bound_text" JZ f fd)(ck:Fn P w K mg base 1 "with_more" ["named","c"] jbo):FnOk P w K mg base CX0 2 f fd ["b","c"] jcq:=by
 have sc:FnScope ["b","c"] ["b","c"] (jn JZ):=fQ;refine F.okZ sc (fun vs H Q E h=>?_) (fun aj A outer s H vs Q E hr h=>?_)
 ·obtain⟨v,b,c,rfl,_⟩:=h
  rfl
 obtain⟨v,b,c,rfl,hv,hb,hc,q⟩:=h;refine⟨_,(jd (jM (jA j5 (jv jE (zpv 0) jg (fun _ _=>rfl)) jf (jD _)) (jh (jx (jp ck hr (ja (kF (jI (ki (jv jE (zpv 0) jg (fun _ _=>rfl))) (jI jf qp))) (ja (zpv 1) jb))))) jH)
   (jh (jx (jp ck hr (ja (jv jE (zpv 0) jg (fun _ _=>rfl)) (ja (zpv 1) jb)))))),?_⟩
 refine jG (σ':=[some v,some (.int c)]) rfl ?_
 cases b with
 | row r=>
  obtain⟨a,rfl,ha⟩:=zc (show Held H (.tup [.str "row",.str r]) v from hv);have hr8:r.length≤8:=hb;refine⟨_,rfl,a,_,_,_,rfl,rfl,SqT.of ha,jr (j:=0) rfl,rfl,_,rfl,kQ ?_⟩;refine jfE (n:=0) (av _) (ad hr8 (by decide)) (by decide) (fun q h=>⟨_,rfl,a,_,_,_,rfl,rfl,SqT.of ha,jr (j:=1) rfl,h⟩) fun o1=>jcE o1 (by decide +kernel) (by decide) fun o2=>⟨jL (ad o2 (by decide)),_,rfl,_,c,rfl,?_,hc,?_⟩
  ·rw[kj];exact ad (la hr8 (show (aa "[]").length≤2 by decide +kernel)) (by decide)
  ·rw[kj];exact q
 | is x=>
  obtain⟨a,rfl,ha⟩:=zc (show Held H (.tup [.str "is",.str x]) v from hv);refine⟨_,rfl,a,_,_,_,rfl,rfl,SqT.of ha,jr (j:=0) rfl,rfl,_,rfl,kB ?_⟩;exact⟨_,rfl,a,_,_,_,rfl,rfl,SqT.of ha,jr (j:=1) rfl,_,rfl,x,c,rfl,ad (show x.length≤8 from hb) (by decide),hc,q⟩
end
abbrev JX:Stmt:=top 45
def zY(x:Str)(d:Int)(y:Str)(e:Int)(r:Str):Str:=kK x d++aa " to "++kK y e++aa " "++r
def jB:Cl->Str
 | .least a b c=>yc a++aa " >= "++zb b c
 | .rise x d y e r=>aa "rise "++zY x d y e r
 | .each x d y e r way b c=>aa "each "++zY x d y e r++aa " "++way++aa " "++Yg b c
def jgO(x:Str)(d:Int)(y:Str)(e:Int)(r:Str):Prop:=x.length≤8/\d.natAbs < 10 ^ 20/\y.length≤8/\e.natAbs < 10 ^ 20/\r.length≤8
def jkB:Cl->Prop
 | .least a b c=>jb8 a/\jb8 b/\c.natAbs < 10 ^ 20
 | .rise x d y e r=>jgO x d y e r
 | .each x d y e r way b c=>jgO x d y e r/\way.length≤8/\jkC b/\c.natAbs < 10 ^ 20
theorem qC{t:Tm}(h:jb8 t)(hc:c.natAbs < 10 ^ 20):(zb t c).length≤80:=by
 cases t with
 | is x=>exact ad (kI (show x.length≤8 from h) hc) (by decide)
 | at_ r x d=>exact ad (kI (zo (t:=.at_ r x d) h) hc) (by decide)
theorem Zb{b:Bd}(h:jkC b)(hc:c.natAbs < 10 ^ 20):(Yg b c).length≤80:=by
 cases b with
 | is x=>exact ad (kI (show x.length≤8 from h) hc) (by decide)
 | row r=>exact ad (kI (la (show r.length≤8 from h) (show (aa "[]").length≤2 by decide +kernel)) hc) (by decide)
variable {d:Int}
theorem yl{r:Str}{e:Int}(h:jgO x d y e r):(zY x d y e r).length≤100:=by
 obtain⟨h1,h2,h3,h4,h5⟩:=h;exact ad (la (la (la (la (kI h1 h2) (show (aa " to ").length≤4 by decide +kernel)) (kI h3 h4)) (show (aa " ").length≤1 by decide +kernel)) h5) (by decide)
def yp:Sp:=fun vs H Q _=>∃(v:V) (C:Cl),vs=[v]/\Held H C.toD v/\jkB C/\∀H',Same H H'->Q (.str (jB C)) H'
section
theorem jf9(F:Fun K "claim_text" "claim_text" JX f fd)(bC:Fn P w K mg base 2 "place_text" ["place"] Ys)(eY:Fn P w K mg base 3 "alone_text" ["term"] ZU)(bj:Fn P w K mg base 4 "term_text" ["term","c"] jbm)(iw:Fn P w K mg base 2 "bound_text" ["b","c"] jcq):FnOk P w K mg base CX0 5 f fd ["claim"] yp:=by
 have sc:FnScope ["claim","a","b","c","t","u","r","reach","way"] ["claim"] (jn JX):=fQ;refine F.okZ sc (fun vs H Q E h=>?_) (fun aj A outer s H vs Q E hr h=>?_)
 ·obtain⟨v,C,rfl,_⟩:=h
  rfl
 obtain⟨v,C,rfl,hv,hC,q⟩:=h;refine⟨_,(jd (jM (jA j5 (jv jE (zpv 0) jg (fun _ _=>rfl)) jf (jD _)) (jd (km (kD Jp (zpv 0) (kO jg) kU) (kg rfl (jo (jm (i:=1) sc.nd rfl oQ) (jo (jm (i:=2) sc.nd rfl oQ) (jo (jm (i:=3) sc.nd rfl oQ) j4)))))
   (jh (jx (kF (jI (ki (jp eY hr (ja (zpv 1) jb))) (jI jf (jI (ki (jp bj hr (ja (zpv 2) (ja (zpv 3) jb)))) qp))))))) jH)
   (jd (km (kD Jp (zpv 0) (kO jg) (kO jg)) (kg rfl (jo (jm (i:=4) sc.nd rfl oQ) (jo (jm (i:=5) sc.nd rfl oQ) (jo (jm (i:=6) sc.nd rfl oQ) j4)))))
   (jd (ju (i:=7) sc.nd rfl oQ (kF (jI (ki (jp bC hr (ja (zpv 4) jb))) (jI jf (jI (ki (jp bC hr (ja (zpv 5) jb))) (jI jf (jI (ki (zpv 6)) qp)))))))
   (jd (jM (jA j5 (jv jE (zpv 0) jg (fun _ _=>rfl)) jf (jD _)) (jh (jx (kF (jI jf (jI (ki (zpv 7)) qp))))) jH)
   (jd (km (kD Jp (zpv 0) (kO jg) kU) (kg rfl (jo (jm (i:=8) sc.nd rfl oQ) (jo (jm (i:=2) sc.nd rfl oQ) (jo (jm (i:=3) sc.nd rfl oQ) j4)))))
   (jh (jx (kF (jI jf (jI (ki (zpv 7)) (jI jf (jI (ki (zpv 8)) (jI jf (jI (ki (jp iw hr (ja (zpv 2) (ja (zpv 3) jb)))) qp)))))))))))))),?_⟩
 refine jG (σ':=[some v,none,none,none,none,none,none,none,none]) rfl ?_
 try dsimp only[qo]
 refine jiD ?_;intro _ _ _ _ _
 cases C with
 | least x y c=>
  obtain⟨t,vx,vy,rfl,ht,hx,hy⟩:=jaV hv;obtain⟨h1,h2,h3⟩:=hC;refine⟨_,rfl,t,_,_,_,rfl,rfl,SqT.of ht,jr (j:=0) rfl,rfl,_,rfl,kQ ?_⟩;refine⟨_,rfl,_,rfl,t,_,rfl,SqT.of ht,(fun h=>absurd h.1 (by show ¬(HT.sIx 4 0 (some 1)=0);decide)),fun p hp=>?_⟩;have s1:=ji hp (.tup (qw [.str "least",vx,vy,.int c] (some 1) none));have e1:upd H p (.tup (qw [.str "least",vx,vy,.int c] (some 1) none)) p=some (.tup [vx,vy,.int c]):=jc;generalize upd H p (.tup (qw [.str "least",vx,vy,.int c] (some 1) none))=H1 at *;refine⟨p,_,rfl,SqT.of e1,rfl,_,_,rfl,_,_,rfl,_,_,rfl,rfl,?_⟩;refine jG (σ':=[some (.ref t),some vx,some vy,some (.int c),none,none,none,none,none]) rfl ?_;refine⟨_,rfl,vx,x,rfl,hx.mono s1,h1,fun H2 s2=>⟨_,rfl,jL (ad (zo h1) (by decide)),_,rfl,jL (by rw[kj];exact ad (zo h1) (by decide)),?_⟩⟩;rw[kj];refine jcE (n:=45) (zo h1) (by decide +kernel) (by decide) fun o1=>?_
  refine⟨_,rfl,_,rfl,vy,y,c,rfl,hy.mono (s1.trans s2),h2,h3,fun H3 s3=>⟨_,rfl,jL (ad (qC h2 h3) (by decide)),_,rfl,jL (ad (la o1 (qC h2 h3)) (by decide)),jL (ad (la o1 (qC h2 h3)) (by decide)),?_⟩⟩;exact q _ (s1.trans (s2.trans s3))
 | rise x d y e r=>
  obtain⟨t,a,b',rfl,ht,ha,hb⟩:=jcx hv;obtain⟨r1,r2,r3,r4,r5⟩:=hC;have hRe:jgO x d y e r:=⟨r1,r2,r3,r4,r5⟩
  refine⟨_,rfl,t,_,_,_,rfl,rfl,SqT.of ht,jr (j:=0) rfl,rfl,_,rfl,kB ?_⟩;refine⟨_,rfl,_,rfl,_,rfl,t,_,rfl,SqT.of ht,(fun h=>absurd h.1 (by show ¬(HT.sIx 4 0 (some 1)=0);decide)),fun p hp=>?_⟩;have s1:=ji hp (.tup (qw [.str "rise",.ref a,.ref b',.str r] (some 1) (some 4)));have e1:upd H p (.tup (qw [.str "rise",.ref a,.ref b',.str r] (some 1) (some 4))) p=some (.tup [.ref a,.ref b',.str r]):=jc;generalize upd H p (.tup (qw [.str "rise",.ref a,.ref b',.str r] (some 1) (some 4)))=H1 at *;refine⟨p,_,rfl,SqT.of e1,rfl,_,_,rfl,_,_,rfl,_,_,rfl,rfl,?_⟩;refine jG (σ':=[some (.ref t),none,none,none,some (.ref a),some (.ref b'),some (.str r),none,none]) rfl ?_;have ha1:Held H1 (plD x d) (.ref a):=jy (s1 _ _ ha) (je jw (je ke jz));have hb1:Held H1 (plD y e) (.ref b'):=jy (s1 _ _ hb) (je jw (je ke jz));dsimp only;refine jfE (x:=kK x d) (n:=0) (av _) (ad (kI r1 r2) (by decide)) (by decide) (fun q h=>⟨_,rfl,.ref a,x,d,rfl,ha1,r1,r2,h⟩) fun o1=>jcE o1 (by decide +kernel) (by decide) fun o2=>jfE (x:=kK y e) o2 (ad (kI r3 r4) (by decide)) (by decide) (fun q h=>⟨_,rfl,.ref b',y,e,rfl,hb1,r3,r4,h⟩) fun o3=>jcE o3 (by decide +kernel) (by decide) fun o4=>jfE (x:=r) o4 (ad r5 (by decide)) (by decide) (fun q h=>⟨_,rfl,h⟩) fun o5=>⟨jL (ad o5 (by decide)),?_⟩
  rw[kj];refine jG (σ':=[some (.ref t),none,none,none,some (.ref a),some (.ref b'),some (.str r),some (.str (zY x d y e r)),none]) rfl ?_;refine⟨_,rfl,t,_,_,_,rfl,rfl,SqT.of (s1 _ _ ht),jr (j:=0) rfl,rfl,_,rfl,kQ ?_⟩;refine jcE (n:=0) (av _) (by decide +kernel) (by decide) fun o1=>jfE (x:=zY x d y e r) o1 (yl hRe) (by decide) (fun q h=>⟨_,rfl,h⟩) fun o2=>⟨jL (ad o2 (by decide)),?_⟩
  rw[kj];exact q _ s1
 | each x d y e r way b c=>
  obtain⟨t,a,b',vb,rfl,ht,ha,hb,hbd0⟩:=jc4 hv;have hbd:Held H b.toD (.ref vb):=by cases b <;> exact jy hbd0 (je jw (je jw jz))
  obtain⟨⟨r1,r2,r3,r4,r5⟩,hw,hB,hc⟩:=hC;have hRe:jgO x d y e r:=⟨r1,r2,r3,r4,r5⟩
  refine⟨_,rfl,t,_,_,_,rfl,rfl,SqT.of ht,jr (j:=0) rfl,rfl,_,rfl,kB ?_⟩;refine⟨_,rfl,_,rfl,_,rfl,t,_,rfl,SqT.of ht,(fun h=>absurd h.1 (by show ¬(HT.sIx 7 0 (some 1)=0);decide)),fun p hp=>?_⟩;have s1:=ji hp (.tup (qw [.str "each",.ref a,.ref b',.str r,.str way,.ref vb,.int c] (some 1) (some 4)));have e1:upd H p (.tup (qw [.str "each",.ref a,.ref b',.str r,.str way,.ref vb,.int c] (some 1) (some 4))) p=some (.tup [.ref a,.ref b',.str r]):=jc;generalize upd H p (.tup (qw [.str "each",.ref a,.ref b',.str r,.str way,.ref vb,.int c] (some 1) (some 4)))=H1 at *;refine⟨p,_,rfl,SqT.of e1,rfl,_,_,rfl,_,_,rfl,_,_,rfl,rfl,?_⟩;refine jG (σ':=[some (.ref t),none,none,none,some (.ref a),some (.ref b'),some (.str r),none,none]) rfl ?_;have ha1:Held H1 (plD x d) (.ref a):=jy (s1 _ _ ha) (je jw (je ke jz));have hb1:Held H1 (plD y e) (.ref b'):=jy (s1 _ _ hb) (je jw (je ke jz));dsimp only;refine jfE (x:=kK x d) (n:=0) (av _) (ad (kI r1 r2) (by decide)) (by decide) (fun q h=>⟨_,rfl,.ref a,x,d,rfl,ha1,r1,r2,h⟩) fun o1=>jcE o1 (by decide +kernel) (by decide) fun o2=>jfE (x:=kK y e) o2 (ad (kI r3 r4) (by decide)) (by decide) (fun q h=>⟨_,rfl,.ref b',y,e,rfl,hb1,r3,r4,h⟩) fun o3=>jcE o3 (by decide +kernel) (by decide) fun o4=>jfE (x:=r) o4 (ad r5 (by decide)) (by decide) (fun q h=>⟨_,rfl,h⟩) fun o5=>⟨jL (ad o5 (by decide)),?_⟩
  rw[kj];refine jG (σ':=[some (.ref t),none,none,none,some (.ref a),some (.ref b'),some (.str r),some (.str (zY x d y e r)),none]) rfl ?_;refine⟨_,rfl,t,_,_,_,rfl,rfl,SqT.of (s1 _ _ ht),jr (j:=0) rfl,rfl,_,rfl,kB ?_⟩;refine⟨_,rfl,_,rfl,t,_,rfl,SqT.of (s1 _ _ ht),(fun h=>absurd h.1 (by show ¬(HT.sIx 7 0 (some 4)=0);decide)),fun p2 hp2=>?_⟩;have s2:=ji hp2 (.tup (qw [.str "each",.ref a,.ref b',.str r,.str way,.ref vb,.int c] (some 4) none));have e2:upd H1 p2 (.tup (qw [.str "each",.ref a,.ref b',.str r,.str way,.ref vb,.int c] (some 4) none)) p2=some (.tup [.str way,.ref vb,.int c]):=jc;generalize upd H1 p2 (.tup (qw [.str "each",.ref a,.ref b',.str r,.str way,.ref vb,.int c] (some 4) none))=H2 at *;refine⟨p2,_,rfl,SqT.of e2,rfl,_,_,rfl,_,_,rfl,_,_,rfl,rfl,?_⟩;refine jG (σ':=[some (.ref t),none,some (.ref vb),some (.int c),some (.ref a),some (.ref b'),some (.str r),some (.str (zY x d y e r)),some (.str way)]) rfl ?_;have s12:=s1.trans s2;refine jcE (n:=0) (av _) (by decide +kernel) (by decide) fun o1=>jfE (x:=zY x d y e r) o1 (yl hRe) (by decide) (fun q h=>⟨_,rfl,h⟩) fun o2=>jcE o2 (by decide +kernel) (by decide) fun o3=>jfE (x:=way) o3 (ad hw (by decide)) (by decide) (fun q h=>⟨_,rfl,h⟩) fun o4=>jcE o4 (by decide +kernel) (by decide) fun o5=>jfE (x:=Yg b c) o5 (ad (Zb hB hc) (by decide)) (by decide) (fun q h=>⟨_,rfl,_,rfl,.ref vb,b,c,rfl,hbd.mono s12,hB,hc,h⟩) fun o6=>⟨jL (ad o6 (by decide)),?_⟩
  rw[kj];exact q _ s12
end
abbrev jhb:Stmt:=top 76
abbrev jbs:Stmt:=top 77
def lmT(d:Int):Str:=if d=0 then aa "" else (if d < 0 then aa " - " else aa " + ")++jah (jkz d)
theorem jgL(z:Str):z++aa "" = z:=zR (by rw[gw,dR];exact bF _)
theorem jbd(x y z:Str):x++y++z=x++(y++z):=zR (by simp only[gw,dR,aG])
theorem jbK(h:¬x=aa "")(d:Int):x++lmT d=kK x d:=by
 unfold lmT kK jkz;rw[if_neg h];by_cases h0:d=0
 ·rw[if_pos h0,if_neg (by omega),if_neg (by omega),jgL]
 rw[if_neg h0];by_cases h1:d < 0
 ·rw[if_pos h1,if_pos h1,if_neg (by omega),if_pos h1,jbd]
 ·rw[if_neg h1,if_neg h1,if_pos (by omega),jbd]
theorem jep(h:d.natAbs < 10 ^ 20):(jkz d).natAbs < 10 ^ 20:=by unfold jkz;split <;> omega
theorem jd0(h:d.natAbs < 10 ^ 20):(lmT d).length≤24:=by
 unfold lmT;split
 ·decide +kernel
 ·refine ad (la (k:=3) ?_ (Jc (jep h))) (by decide)
  split <;> decide +kernel
def jlb:Sp:=fun vs H Q _=>∃(d:Int),vs=[.int d]/\d.natAbs < 10 ^ 20/\∀H',Same H H'->Q (.str (lmT d)) H'
def ZQ:Sp:=fun vs H Q _=>∃(v:V) (x:Str) (d:Int),vs=[v]/\Held H (plD x d) v/\x.length≤8/\d.natAbs < 10 ^ 20/\∀H',Same H H'->Q (.str (kK x d)) H'
section
theorem jmz(F:Fun K "_law_more" "_law_more" jhb f fd)(B:Free0 mg):FnOk P w K mg base CX0 1 f fd ["_law_more_here"] jlb:=by
 have sc:FnScope ["_law_more_here"] ["_law_more_here"] (jn jhb):=fQ;refine F.okZ sc (fun vs H Q E h=>?_) (fun aj A outer s H vs Q E hr h=>?_)
 ·obtain⟨d,rfl,_⟩:=h
  rfl
 obtain⟨d,rfl,hd,q⟩:=h;refine⟨_,(jd (jM (jA j5 (zpv 0) jg (jD _)) (jh (jx jf)) jH)
   (jh (jx (jt jq (jv j9 (jT (ja jf (ja jf jb))) (kC ja7 (by rfl) B.int_ Km (ja (kZ Z5 (zpv 0) jg (jD _)) jb)) (fun _ _=>rfl)) (kC Jx (by rfl) B.str_ jb5 (ja (k9 ji4 (by rfl) B.abs_ jl6 (ja (zpv 0) jb)) jb)))))),?_⟩
 refine jG (σ':=[some (.int d)]) rfl ?_;unfold lmT at q;refine⟨_,rfl,rfl,_,rfl,qi (fun z=>?_) (fun z=>?_)⟩
 ·have z':d=0:=by have:=of_decide_eq_true z;injection this
  rw[if_pos z']at q;exact q _ (fun _ _ e=>e)
 ·rw[if_neg (fun h=>z (decide_eq_true (congrArg V.int h)))]at q
  refine⟨sm rfl,fun p hp=>⟨_,rfl,_,_,rfl,rfl,.inr ⟨_,rfl,p,_,_,.str (if d < 0 then aa " - " else aa " + "),rfl,rfl,SqL.of jc,?_,?_⟩⟩⟩
  ·by_cases h:d < 0
   ·rw[decide_eq_true h,if_pos rfl,if_pos h];rfl
   ·rw[decide_eq_false h,if_neg aI,if_neg h];rfl
  ·refine⟨_,rfl,_,rfl,_,rfl,eM (log2_lt (jep hd)) (by decide),_,_,rfl,rfl,jL ?_,q _ (ji hp _)⟩
   have:=Jc (jep hd);refine ad (bh (show _≤3 by split <;> decide +kernel) this) (by decide)
theorem jfZ(F:Fun K "_law_place_text" "_law_place_text" jbs f fd)(B:Free0 mg)(dU:Fn P w K mg base 1 "_law_more" ["_law_more_here"] jlb):FnOk P w K mg base CX0 2 f fd ["_law_place_here"] ZQ:=by
 have sc:FnScope ["_law_place_here","_law_x","_law_d"] ["_law_place_here"] (jn jbs):=fQ;refine F.okZ sc (fun vs H Q E h=>?_) (fun aj A outer s H vs Q E hr h=>?_)
 ·obtain⟨v,x,d,rfl,_⟩:=h
  rfl
 obtain⟨v,x,d,rfl,hv,hx,hd,q⟩:=h;refine⟨_,(jd (km (zpv 0) (kg rfl (jo (jm (i:=1) sc.nd rfl oQ) (jo (jm (i:=2) sc.nd rfl oQ) j4))))
   (jd (jM (jA j5 (zpv 1) jf (jD _)) (jh (jx (kC Jx (by rfl) B.str_ jb5 (ja (zpv 2) jb)))) jH)
   (jh (jx (jt jq (zpv 1) (jp dU hr (ja (zpv 2) jb))))))),?_⟩
 obtain⟨a,rfl,ha⟩:=J5 hv;refine jG (σ':=[some (.ref a),none,none]) rfl ?_;refine⟨_,rfl,a,_,rfl,SqT.of ha,rfl,_,_,rfl,_,_,rfl,rfl,?_⟩;refine jG (σ':=[some (.ref a),some (.str x),some (.int d)]) rfl ?_;refine⟨_,rfl,rfl,_,rfl,qi (fun z=>?_) (fun z=>?_)⟩
 ·have z':x=aa "":=by have:=of_decide_eq_true z;injection this
  refine⟨_,rfl,d,rfl,eM (log2_lt hd) (by decide),?_⟩;have q:=q _ (fun _ _ e=>e);rw[show kK x d=jah d by unfold kK;rw[if_pos z']]at q;exact q
 ·have z':¬x=aa "":=fun h=>z (decide_eq_true (congrArg V.str h))
  refine⟨_,rfl,_,rfl,d,rfl,hd,fun H1 s1=>⟨_,_,rfl,rfl,jL (ad (bh hx (jd0 hd)) (by decide)),?_⟩⟩;rw[jbK z'];exact q _ s1
end
abbrev jdu:Stmt:=top 78
theorem Z9(h:0 < z.length):¬z=aa "":=fun e=>by rw[e]at h;exact absurd h (by decide +kernel)
theorem jbB(h:0 < y.length):0 < (x++y).length:=by rw[aU];omega
theorem jkX(z:Str)(h:¬z=aa ""):kK z 0=z:=by unfold kK;rw[if_neg h,if_neg (by decide),if_neg (by decide)]
theorem jkD(t:Tm):zb t 0=yc t:=by
 cases t with
 | is x=>
  show kK x 0=if x=aa "" then aa "0" else x
  by_cases h:x=aa ""
  ·rw[if_pos h,h];decide +kernel
  ·rw[if_neg h,jkX x h]
 | at_ r x d=>exact jkX _ (Z9 (jbB (by decide +kernel)))
def Yq:Sp:=fun vs H Q _=>∃(v:V) (c:Int) (z:Str),vs=[v,.int c]/\c.natAbs < 10 ^ 20/\((∃t,Held H t.toD v/\jb8 t/\z=zb t c)∨∃b,Held H b.toD v/\jkC b/\z=Yg b c)/\∀H',Same H H'->Q (.str z) H'
section
theorem jhP(F:Fun K "_law_term_text" "_law_term_text" jdu f fd)(dU:Fn P w K mg base 1 "_law_more" ["_law_more_here"] jlb)(bC:Fn P w K mg base 2 "_law_place_text" ["_law_place_here"] ZQ):FnOk P w K mg base CX0 3 f fd ["_law_term_here","_law_more_here"] Yq:=by
 have sc:FnScope ["_law_term_here","_law_more_here"] ["_law_term_here","_law_more_here"] (jn jdu):=fQ;refine F.okZ sc (fun vs H Q E h=>?_) (fun aj A outer s H vs Q E hr h=>?_)
 ·obtain⟨v,c,z,rfl,_⟩:=h
  rfl
 obtain⟨v,c,z,rfl,hc,hv,q⟩:=h;refine⟨_,(jd (jM (jA j5 (jv jE (zpv 0) jg (fun _ _=>rfl)) jf (jD _)) (jh (jx (jp bC hr (ja (jQ (ja (jv jE (zpv 0) jg (fun _ _=>rfl)) (ja (zpv 1) jb))) jb)))) jH)
   (jd (jM (jA j5 (jv jE (zpv 0) jg (fun _ _=>rfl)) jf (jD _)) (jh (jx (jt jq (jt jq (jv jE (zpv 0) jg (fun _ _=>rfl)) jf) (jp dU hr (ja (zpv 1) jb))))) jH)
   (jh (jx (jt jq (jt jq (jt jq (jt jq (jv jE (zpv 0) jg (fun _ _=>rfl)) jf) (jp bC hr (ja (jv jE (zpv 0) jg (fun _ _=>rfl)) jb))) jf) (jp dU hr (ja (zpv 1) jb))))))),?_⟩
 refine jG (σ':=[some v,some (.int c)]) rfl ?_;have l1:(aa "[").length≤1:=by decide +kernel
 have l2:(aa "]").length≤1:=by decide +kernel
 have l3:(aa "[]").length≤2:=by decide +kernel
 have isC:(∃x:Str,Held H (.tup [.str "is",.str x]) v/\x.length≤8/\z=kK x c)∨(∃r:Str,Held H (.tup [.str "row",.str r]) v/\r.length≤8/\z=kK (r++aa "[]") c)∨∃r x d,Held H (Tm.at_ r x d).toD v/\jb8 (.at_ r x d)/\z=kK (yc (.at_ r x d)) c:=by
  rcases hv with⟨t,h1,h2,h3⟩ | ⟨b,h1,h2,h3⟩
  ·cases t with
   | is x=>exact .inl ⟨x,h1,h2,h3⟩
   | at_ r x d=>exact .inr (.inr ⟨r,x,d,h1,h2,h3⟩)
  ·cases b with
   | is x=>exact .inl ⟨x,h1,h2,h3⟩
   | row r=>exact .inr (.inl ⟨r,h1,h2,h3⟩)
 rcases isC with⟨x,hx,hl,rfl⟩ | ⟨r,hx,hl,rfl⟩ | ⟨r,x,d,hx,hl,rfl⟩
 ·obtain⟨a,rfl,ha⟩:=zc hx
  refine⟨_,rfl,a,_,_,_,rfl,rfl,SqT.of ha,jr (j:=0) rfl,rfl,_,rfl,kQ ?_⟩;refine⟨_,rfl,a,_,_,_,rfl,rfl,SqT.of ha,jr (j:=1) rfl,_,rfl,sm rfl,fun p hp=>?_⟩;have s1:=ji hp (.tup [.str x,.int c]);exact⟨.ref p,x,c,rfl,jy jc (je jw (je ke jz)),hl,hc,fun H2 s2=>q _ (s1.trans s2)⟩
 ·obtain⟨a,rfl,ha⟩:=zc hx
  refine⟨_,rfl,a,_,_,_,rfl,rfl,SqT.of ha,jr (j:=0) rfl,rfl,_,rfl,kB ?_⟩;refine⟨_,rfl,a,_,_,_,rfl,rfl,SqT.of ha,jr (j:=0) rfl,rfl,_,rfl,kQ ?_⟩;refine⟨_,rfl,a,_,_,_,rfl,rfl,SqT.of ha,jr (j:=1) rfl,_,_,rfl,rfl,jL (ad (bh hl l3) (by decide)),_,rfl,c,rfl,hc,fun H1 s1=>⟨_,_,rfl,rfl,jL (ad (bh (la hl l3) (jd0 hc)) (by decide)),?_⟩⟩;rw[jbK (Z9 (jbB (by decide +kernel)))];exact q _ s1
 ·obtain⟨a,b,rfl,ha,hb⟩:=jen hx
  obtain⟨h1,h2,h3⟩:=hl;refine⟨_,rfl,a,_,_,_,rfl,rfl,SqT.of ha,jr (j:=0) rfl,rfl,_,rfl,kB ?_⟩;refine⟨_,rfl,a,_,_,_,rfl,rfl,SqT.of ha,jr (j:=0) rfl,rfl,_,rfl,kB ?_⟩;refine⟨_,rfl,a,_,_,_,rfl,rfl,SqT.of ha,jr (j:=1) rfl,_,_,rfl,rfl,jL (ad (bh h1 l1) (by decide)),_,rfl,a,_,_,_,rfl,rfl,SqT.of ha,jr (j:=2) rfl,.ref b,x,d,rfl,jy hb (je jw (je ke jz)),h2,h3,fun H1 s1=>⟨_,_,rfl,rfl,jL (ad (bh (la h1 l1) (kI h2 h3)) (by decide)),_,_,rfl,rfl,jL (ad (bh (la (la h1 l1) (kI h2 h3)) l2) (by decide)),_,rfl,c,rfl,hc,fun H2 s2=>⟨_,_,rfl,rfl,jL (ad (bh (la (la (la h1 l1) (kI h2 h3)) l2) (jd0 hc)) (by decide)),?_⟩⟩⟩;rw[jbK (Z9 (jbB (by decide +kernel)))];exact q _ (s1.trans s2)
end
abbrev jbw:Stmt:=top 79
def y9:Sp:=fun vs H Q _=>∃(v:V) (C:Cl),vs=[v]/\Held H C.toD v/\jkB C/\∀H',Same H H'->Q (.str (jB C)) H'
section
theorem jf8(F:Fun K "_law_claim_text" "_law_claim_text" jbw f fd)(bC:Fn P w K mg base 2 "_law_place_text" ["_law_place_here"] ZQ)(bj:Fn P w K mg base 3 "_law_term_text" ["_law_term_here","_law_more_here"] Yq):FnOk P w K mg base CX0 4 f fd ["_law_claim_here"] y9:=by
 have sc:FnScope ["_law_claim_here","_law_span"] ["_law_claim_here"] (jn jbw):=fQ;refine F.okZ sc (fun vs H Q E h=>?_) (fun aj A outer s H vs Q E hr h=>?_)
 ·obtain⟨v,C,rfl,_⟩:=h
  rfl
 obtain⟨v,C,rfl,hv,hC,q⟩:=h;refine⟨_,(jd (jM (jA j5 (jv jE (zpv 0) jg (fun _ _=>rfl)) jf (jD _)) (jh (jx (jt jq (jt jq (jp bj hr (ja (jv jE (zpv 0) jg (fun _ _=>rfl)) (ja jg jb))) jf) (jp bj hr (ja (jv jE (zpv 0) jg (fun _ _=>rfl)) (ja (jv jE (zpv 0) jg (fun _ _=>rfl)) jb)))))) jH)
   (jd (ju (i:=1) sc.nd rfl oQ (jt jq (jt jq (jp bC hr (ja (jv jE (zpv 0) jg (fun _ _=>rfl)) jb)) jf) (jp bC hr (ja (jv jE (zpv 0) jg (fun _ _=>rfl)) jb))))
   (jd (ju (i:=1) sc.nd rfl oQ (jt jq (jt jq (zpv 1) jf) (jv jE (zpv 0) jg (fun _ _=>rfl))))
   (jd (jM (jA j5 (jv jE (zpv 0) jg (fun _ _=>rfl)) jf (jD _)) (jh (jx (jt jq jf (zpv 1)))) jH)
   (jh (jx (jt jq (jt jq (jt jq (jt jq (jt jq jf (zpv 1)) jf) (jv jE (zpv 0) jg (fun _ _=>rfl))) jf) (jp bj hr (ja (jv jE (zpv 0) jg (fun _ _=>rfl)) (ja (jv jE (zpv 0) jg (fun _ _=>rfl)) jb)))))))))),?_⟩
 refine jG (σ':=[some v,none]) rfl ?_
 try dsimp only[qo]
 refine Zk ?_;intro _ _ _ _;have l1:(aa " >= ").length≤4:=by decide +kernel
 have l2:(aa " to ").length≤4:=by decide +kernel
 have l3:(aa " ").length≤1:=by decide +kernel
 have l4:(aa "rise ").length≤5:=by decide +kernel
 have l5:(aa "each ").length≤5:=by decide +kernel
 cases C with
 | least x y c=>
  obtain⟨t,vx,vy,rfl,ht,hx,hy⟩:=jaV hv;obtain⟨h1,h2,h3⟩:=hC;have hA:=zo h1;have hB:=qC h2 h3;refine⟨_,rfl,t,_,_,_,rfl,rfl,SqT.of ht,jr (j:=0) rfl,rfl,_,rfl,kQ ?_⟩;refine⟨_,rfl,t,_,_,_,rfl,rfl,SqT.of ht,jr (j:=1) rfl,vx,0,_,rfl,by decide,.inl ⟨x,hx,h1,rfl⟩,fun H1 s1=>?_⟩;rw[jkD];refine⟨_,_,rfl,rfl,jL (ad (bh hA l1) (by decide)),_,rfl,t,_,_,_,rfl,rfl,SqT.of (s1 _ _ ht),jr (j:=2) rfl,_,rfl,t,_,_,_,rfl,rfl,SqT.of (s1 _ _ ht),jr (j:=3) rfl,vy,c,_,rfl,h3,.inl ⟨y,hy.mono s1,h2,rfl⟩,fun H2 s2=>⟨_,_,rfl,rfl,jL (ad (bh (la hA l1) hB) (by decide)),q _ (s1.trans s2)⟩⟩
 | rise x d y e r=>
  obtain⟨t,a,b',rfl,ht,ha,hb⟩:=jcx hv;have hRe:jgO x d y e r:=hC;obtain⟨r1,r2,r3,r4,r5⟩:=hC;have hR:=yl hRe;have m1:=kI r1 r2;have m2:=kI r3 r4;refine⟨_,rfl,t,_,_,_,rfl,rfl,SqT.of ht,jr (j:=0) rfl,rfl,_,rfl,kB ?_⟩;refine⟨_,rfl,t,_,_,_,rfl,rfl,SqT.of ht,jr (j:=1) rfl,.ref a,x,d,rfl,jy ha (je jw (je ke jz)),r1,r2,fun H1 s1=>⟨_,_,rfl,rfl,jL (ad (bh m1 l2) (by decide)),_,rfl,t,_,_,_,rfl,rfl,SqT.of (s1 _ _ ht),jr (j:=2) rfl,.ref b',y,e,rfl,jy (s1 _ _ hb) (je jw (je ke jz)),r3,r4,fun H2 s2=>⟨_,_,rfl,rfl,jL (ad (bh (la m1 l2) m2) (by decide)),?_⟩⟩⟩;have s12:=s1.trans s2;refine gQ ?_;refine⟨_,rfl,_,_,rfl,rfl,jL (ad (bh (la (la m1 l2) m2) l3) (by decide)),_,rfl,t,_,_,_,rfl,rfl,SqT.of (s12 _ _ ht),jr (j:=3) rfl,_,_,rfl,rfl,jL (ad (bh (la (la (la m1 l2) m2) l3) r5) (by decide)),?_⟩;refine gQ ?_;refine⟨_,rfl,t,_,_,_,rfl,rfl,SqT.of (s12 _ _ ht),jr (j:=0) rfl,rfl,_,rfl,kQ ?_⟩;exact⟨_,rfl,_,_,rfl,rfl,jL (ad (bh l4 hR) (by decide)),q _ s12⟩
 | each x d y e r way b c=>
  obtain⟨t,a,b',vb,rfl,ht,ha,hb,hbd0⟩:=jc4 hv;have hbd:Held H b.toD (.ref vb):=by cases b <;> exact jy hbd0 (je jw (je jw jz))
  obtain⟨hRe,hw,hB,hc⟩:=hC;have hRe':=hRe;obtain⟨r1,r2,r3,r4,r5⟩:=hRe';have hR:=yl hRe;have m1:=kI r1 r2;have m2:=kI r3 r4;have hBl:=Zb hB hc;refine⟨_,rfl,t,_,_,_,rfl,rfl,SqT.of ht,jr (j:=0) rfl,rfl,_,rfl,kB ?_⟩;refine⟨_,rfl,t,_,_,_,rfl,rfl,SqT.of ht,jr (j:=1) rfl,.ref a,x,d,rfl,jy ha (je jw (je ke jz)),r1,r2,fun H1 s1=>⟨_,_,rfl,rfl,jL (ad (bh m1 l2) (by decide)),_,rfl,t,_,_,_,rfl,rfl,SqT.of (s1 _ _ ht),jr (j:=2) rfl,.ref b',y,e,rfl,jy (s1 _ _ hb) (je jw (je ke jz)),r3,r4,fun H2 s2=>⟨_,_,rfl,rfl,jL (ad (bh (la m1 l2) m2) (by decide)),?_⟩⟩⟩;have s12:=s1.trans s2;refine gQ ?_;refine⟨_,rfl,_,_,rfl,rfl,jL (ad (bh (la (la m1 l2) m2) l3) (by decide)),_,rfl,t,_,_,_,rfl,rfl,SqT.of (s12 _ _ ht),jr (j:=3) rfl,_,_,rfl,rfl,jL (ad (bh (la (la (la m1 l2) m2) l3) r5) (by decide)),?_⟩;refine gQ ?_;refine⟨_,rfl,t,_,_,_,rfl,rfl,SqT.of (s12 _ _ ht),jr (j:=0) rfl,rfl,_,rfl,kB ?_⟩;refine⟨_,rfl,_,_,rfl,rfl,jL (ad (bh l5 hR) (by decide)),_,_,rfl,rfl,jL (ad (bh (la l5 hR) l3) (by decide)),_,rfl,t,_,_,_,rfl,rfl,SqT.of (s12 _ _ ht),jr (j:=4) rfl,_,_,rfl,rfl,jL (ad (bh (la (la l5 hR) l3) hw) (by decide)),_,_,rfl,rfl,jL (ad (bh (la (la (la l5 hR) l3) hw) l3) (by decide)),_,rfl,t,_,_,_,rfl,rfl,SqT.of (s12 _ _ ht),jr (j:=5) rfl,_,rfl,t,_,_,_,rfl,rfl,SqT.of (s12 _ _ ht),jr (j:=6) rfl,.ref vb,c,_,rfl,hc,.inr ⟨b,hbd.mono s12,hB,rfl⟩,fun H3 s3=>⟨_,_,rfl,rfl,jL (ad (bh (la (la (la (la l5 hR) l3) hw) l3) hBl) (by decide)),q _ (s12.trans s3)⟩⟩
end
open PySem L2 PySem.NumText PySem.StrLaws PySem.Builtin.Str PyProof.Rows
theorem jaG(z y:Str):lZ z y=(cd y).isPrefixOf (cd z):=by
 unfold lZ;rw[subAt_eq];rw[bI,bg,decide_eq_true_eq,beq_iff_eq,gc,rz,j3];constructor
 ·rintro⟨h1,h2⟩
  exact h2.symm
 ·intro h
  have h3:=congrArg cC h;rw[cA,j3,j3]at h3;exact⟨by omega,h.symm⟩
theorem jfk(z y:Str):l0 z y=(cd y).isSuffixOf (cd z):=by
 unfold l0;rw[subAt_eq];rw[bI,bg,decide_eq_true_eq,beq_iff_eq,mV,List.suffix_iff_eq_drop,j3,j3];constructor
 ·rintro⟨h1,h2⟩
  rw[de (by rw[cB,show z.cps.toList.length=z.length from j3 z];omega)]at h2;exact h2.symm
 ·intro h
  have h3:=congrArg cC h;rw[cB,j3,j3]at h3;refine⟨by omega,?_⟩;rw[de (by rw[cB,show z.cps.toList.length=z.length from j3 z];omega)];exact h.symm
variable {l:List Nat}
theorem jbA{c:Nat}:[c].isPrefixOf l=(l.head? == some c):=by
 cases l with
 | nil=>rfl
 | cons a l=>
  show (c == a && true)=(some a == some c);rw[Bool.and_true,bI,beq_iff_eq,beq_iff_eq,Option.some.injEq];exact⟨Eq.symm,Eq.symm⟩
theorem jjo{c:Nat}:[c].isSuffixOf l=(l.getLast? == some c):=by
 rw[List.isSuffixOf,show [c].reverse=[c] from rfl,jbA,List.head?_reverse]
theorem jmF(h:cd y≠[]):(!(occurrences x y 0 x.length 1).isEmpty)=(kW (cd y) (cd x)).isSome:=by
 rw[jif h]
 cases kW (cd y) (cd x) <;> rfl
theorem jiY(z:Str):cd (yZ z (some 1) none)=(cd z).tail:=by
 show (yZ z (some 1) none).cps.toList=_;rw[zM,de]
 ·show mZ (min 1 z.length) (cd z)=_
  rw[← gV,← j3];rcases i3 (cd z).length 1 with h | h
  ·rw[gW (by omega),gW (by omega)]
  ·rw[gL h]
 ·rw[cB,show z.cps.toList.length=z.length from j3 z]
  exact av _
theorem jda(z:Str)(k:Nat)(hk:0 < k):cd (yZ z none (some (-(k:Int))))=(cd z).take ((cd z).length - k):=by
 show (yZ z none (some (-(k:Int)))).cps.toList=_;rw[zM];have:HT.sIx z.length z.length (some (-(k:Int)))=z.length - k:=by
  show (if (-(k:Int)) < 0 then ((-(k:Int))+(z.length:Int)).toNat else _)=_;rw[if_pos (by omega)];omega
 rw[this];show List.take (z.length - k - 0) (mZ 0 (cd z))=_;rw[fL,j3];rfl
theorem asc:ce z=true↔∀c∈cd z,c < 128:=by
 unfold ce;rw[← ll,bR];exact⟨fun h c hc=>of_decide_eq_true (h c hc),fun h c hc=>decide_eq_true (h c hc)⟩
theorem jfm:∀c,c < 128->oF c=yG c:=by decide +kernel
theorem jdf:∀c,c < 128->(iK c && !(lV c || lX c))=yB c:=by decide +kernel
theorem jkg:∀c,c < 128->yB c=true->oE c=true:=by decide +kernel
theorem ja1(z:Str):decide (z.length > 0)=!(cd z).isEmpty:=by
 rw[← j3]
 cases cd z <;> rfl
theorem jlV(z:Str):zV (cd z)=(ce z && (iL z && (decide (z.length≤19) && (decide (z=aa "0") || !Txt.startswith z (aa "0"))))):=by
 have e1:decide (z=aa "0")=(cd z == [48]):=by
  rw[bI,decide_eq_true_eq,beq_iff_eq];exact⟨fun h=>by rw[h];rfl,fun h=>Kl (by rw[h];rfl)⟩
 rw[jaG,e1,show cd (aa "0")=[48] from rfl,jbA];unfold zV iL;rw[ja1,j3]
 cases ha:ce z with
 | true=>
  have:=asc.mp ha;have e:z.cps.all oF=(cd z).all yG:=by
   rw[← ll,bI,bR,bR];exact⟨fun h c hc=>by rw[← jfm c (this c hc)];exact h c hc,fun h c hc=>by rw[jfm c (this c hc)];exact h c hc⟩
  rw[e];simp only[lh,su]
 | false=>
  have:(cd z).all yG=false:=by
   cases e:(cd z).all yG with
   | false=>rfl
   | true=>
    have h:=bR.mp e;have:ce z=true:=asc.mpr fun c hc=>by
     have:=h c hc;unfold yG at this;simp only[bg,decide_eq_true_eq]at this;omega
    rw[this]at ha
    cases ha
  rw[this];simp
theorem jke(z:Str):j7 (cd z)=(((ce z && (fu z && fq z)) && (decide (z.length≤8) && !decide (z∈zK)))):=by
 have e1:decide (z∈zK)=(zK.map cd).contains (cd z):=by
  rw[bI,decide_eq_true_eq,m7,b_];exact⟨fun h=>⟨z,h,rfl⟩,fun⟨y,h,e⟩=>by rw[← Kl e];exact h⟩
 rw[e1,← j3];unfold j7;have e2:(!(cd z).isEmpty && (cd z).all yB)=(ce z && (fu z && fq z)):=by
  unfold fu fq;rw[ja1]
  cases ha:ce z with
  | true=>
   have:=asc.mp ha;rw[← ll,← sA,← sA,lh];show _=(!(cd z).isEmpty && (cd z).all iK && ((cd z).any oE && !(cd z).any _))
   cases hl:cd z with
   | nil=>rfl
   | cons a l=>
    rw[hl]at this;show (true && (a :: l).all yB)=(true && (a :: l).all iK && _);rw[lh,lh,bI,bg,bg,bR,bR,List.any_eq_true,lj,rY];constructor
    ·intro h
     have g:∀c∈a :: l,(iK c && !(lV c || lX c))=true:=fun c hc=>by rw[jdf c (this c hc)];exact h c hc
     refine⟨fun c hc=>((bg _ _).mp (g c hc)).1,⟨a,am ..,jkg a (this a (am ..)) (h a (am ..))⟩,fun c hc z=>?_⟩;have:=((bg _ _).mp (g c hc)).2;rw[z]at this
     cases this
    ·rintro⟨h1,_,h3⟩ c hc
     rw[← jdf c (this c hc),h1 c hc];have:=h3 c hc
     cases hu:(lV c || lX c) with
     | false=>rfl
     | true=>exact absurd hu this
  | false=>
   have:(cd z).all yB=false:=by
    cases e:(cd z).all yB with
    | false=>rfl
    | true=>
     have h:=bR.mp e;have:ce z=true:=asc.mpr fun c hc=>by
      have:=h c hc;unfold yB at this;simp only[bg,decide_eq_true_eq]at this;omega
     rw[this]at ha
     cases ha
   rw[this];simp
 rw[e2,su]
theorem zP{X:Cx}:zE X (.type "int") (fun xs H Q=>∃z n,xs=[.str z]/\intText? z=some n/\z.length≤640/\Q (.int n) H):=by
 intro ac s σ H xs us Q I r h;obtain⟨z,n,rfl,hn,hl,q⟩:=h;obtain⟨u,rfl,t,rfl⟩:=zh r;exact PySem.W.KIN.call_text hn hl ⟨.int n,H,I.tok _,⟨_,rfl⟩,q⟩
theorem ZG(h:zV l=true):AllDigits l/\l≠[]/\l.length≤19:=by
 have h1:=jfi h;refine⟨fun c hc=>?_,?_,?_⟩
 ·have:=h1 c hc
  unfold yG at this;simpa only[bg,decide_eq_true_eq]using this
 ·rintro rfl
  cases h
 ·unfold zV at h
  simp only[bg,decide_eq_true_eq]at h;exact h.1.2
theorem jbO(h:Yb (cd z)=true):intText? z=some (jbi (cd z))/\z.length≤640:=by
 unfold Yb at h;unfold jbi;split at h
 ·rename_i e
  rw[if_pos e];obtain⟨h1,h2⟩:=(bg _ _).mp h;obtain⟨k1,k2,k3⟩:=ZG h1;have e2:cd z=45 :: (cd z).tail:=by
   cases hz:cd z with
   | nil=>rw[hz]at e;cases e
   | cons a l=>rw[hz]at e;cases e;rfl
  have hl:z.length≤20:=by rw[← j3,e2,aw];omega
  exact⟨intText_neg e2 k1 k2 (by omega),by omega⟩
 ·rename_i e
  rw[if_neg e];obtain⟨k1,k2,k3⟩:=ZG h;rw[j3]at k3;exact⟨intText_digits k1 k2 (by omega),by omega⟩
theorem jbQ{cs:List Nat}(hx:cd x=43 :: cs)(h:AllDigits cs)(h1:cs≠[])(h2:x.length≤4300):intText? x=some ((digitsVal cs:Nat):Int):=by
 have hs:∀c∈cd x,c=43∨(48≤c/\c≤57):=by
  rw[hx];intro c hc;rcases ak.mp hc with e | hc
  ·exact Or.inl e
  ·exact Or.inr (h c hc)
 have e1:numTextOf x=cd x:=by
  refine if_pos ?_;rw[← ll,bR];intro c hc;have:=hs c hc;exact decide_eq_true (by omega)
 have e2:numSeenOf x=cd x:=by
  show (numTextOf x).takeWhile _=_;rw[e1];refine NumText.takeWhile_all fun c hc=>?_
  have:=hs c hc;exact bne_iff_ne.mpr (by omega)
 have hl:(cd x).length=x.length:=j3 x;unfold intText?;rw[e1,e2,if_pos (beq_self_eq_true _),hx];rw[hx,aw]at hl;have es:sign ((43 :: cs).dropWhile blank)=(false,cs):=by rw[dropWhile_of (by decide)];rfl
 have ec:core (43 :: cs)=cs:=by
  unfold core;rw[es];show (cs.reverse.dropWhile blank).reverse=cs;rw[dropWhile_digits h.reverse,mO]
 rw[ec,es,digits_of h h1];have hsz:=push_size cs #[];have hv:=push_foldl cs #[];show (if _≤4300 then some (worth false _) else none)=_;rw[if_pos (by rw[hsz];simp only[Array.size_empty];omega)];unfold worth digitsVal;rw[hv];rfl
theorem jht{f:Str}(h:zV (cd f)=true)(hz:cd z=43 :: cd f):intText? z=some ((digitsVal (cd f):Nat):Int)/\z.length≤640:=by
 obtain⟨k1,k2,k3⟩:=ZG h;have hl:z.length≤20:=by rw[← j3,hz,aw];omega
 exact⟨jbQ hz k1 k2 (by omega),by omega⟩
theorem jgn{f:Str}(h:zV (cd f)=true)(hz:cd z=45 :: cd f):intText? z=some (-((digitsVal (cd f):Nat):Int))/\z.length≤640:=by
 obtain⟨k1,k2,k3⟩:=ZG h;have hl:z.length≤20:=by rw[← j3,hz,aw];omega
 exact⟨intText_neg hz k1 k2 (by omega),by omega⟩
open PyProof.Rows hiding St
abbrev JW:Stmt:=top 42
abbrev K3:Stmt:=top 41
abbrev ZX:Stmt:=top 40
theorem sz(h:z.length≤1000):z.length≤au:=ad h (by decide)
theorem KM{ta tb:TE}{σ:L2.St}{Q:VK}{b c:Bool}(ha:∀q:VK,q (.bl b) H->ta σ H q)(hb:∀q:VK,q (.bl c) H->tb σ H q)(h:Q (.bl (b && c)) H):jg2 ta tb σ H Q:=ha _ ⟨b,rfl,by
 cases b with
 | true=>exact kQ (hb _ h)
 | false=>exact kB h⟩
def jg5:Sp:=fun vs H Q _=>∃z:Str,vs=[.str z]/\z.length≤1000/\Q (.bl (zV (cd z))) H
def jeD:Sp:=fun vs H Q _=>∃z:Str,vs=[.str z]/\z.length≤1000/\Q (.bl (Yb (cd z))) H
def jcp:Sp:=fun vs H Q _=>∃z:Str,vs=[.str z]/\z.length≤1000/\Q (.bl (j7 (cd z))) H
section
theorem jlF{t9:Tok}(F:Fun K "is_figures" "is_figures" JW f fd)(B:Free0 mg)(h_:mg "MOST_FIGURES" = some (.int 19 t9)):FnOk P w K mg base CX0 1 f fd ["text"] jg5:=by
 have sc:FnScope ["text"] ["text"] (jn JW):=fQ;refine F.okZ sc (fun vs H Q E h=>?_) (fun aj A outer s H vs Q E hr h=>?_)
 ·obtain⟨z,rfl,_⟩:=h
  rfl
 obtain⟨z,rfl,hz,q⟩:=h;refine⟨_,(jd (jM (jbf (Jk (ze (Jl be pk pe jad (zpv 0)))) (jbf (Jk (ze (Jl be PySem.F.slot_str_isdigit PySem.F.type_str_isdigit jdU (zpv 0)))) (jbe (jA KI (k9 zD (by rfl) B.len_ kJ (ja (zpv 0) jb)) (JF (v:=.int 19) (by rfl) h_ ⟨_,rfl⟩) (jD _))))).pt (jh (jx jbg)) jH)
   (jh (jx (jk5 (kZ j5 (zpv 0) jf (jD _)) (zt (jjg (jN be pj o_ KK (zpv 0) (ja jf jb)))))))),?_⟩
 refine jG (σ':=[some (.str z)]) rfl ?_;rw[jlV]at q;refine⟨_,rfl,rfl,z,rfl,rfl,_,rfl,?_⟩
 cases ha:ce z with
 | false=>
  rw[ha]at q;exact kQ (kQ q)
 | true=>
 rw[ha]at q;refine kB ⟨_,rfl,rfl,z,rfl,rfl,_,rfl,?_⟩
 cases hb:iL z with
 | false=>
  rw[hb]at q;exact kQ (kQ q)
 | true=>
 rw[hb]at q;refine kB ⟨_,rfl,z,rfl,sz hz,_,_,rfl,rfl,_,rfl,qi (fun d=>?_) (fun d=>?_)⟩
 ·have d':=of_decide_eq_true d
  rw[decide_eq_false (show ¬z.length≤19 by omega)]at q;exact q
 have d':¬((19:Int) < (z.length:Int)):=fun h=>d (decide_eq_true h)
 rw[decide_eq_true (show z.length≤19 by omega)]at q;refine⟨_,rfl,rfl,_,rfl,?_⟩;rw[show decide (V.str z=V.str (aa "0"))=decide (z=aa "0") from by rw[bI,decide_eq_true_eq,decide_eq_true_eq];exact⟨fun h=>by injection h,congrArg V.str⟩]
 cases hc:decide (z=aa "0") with
 | true=>
  rw[hc]at q;exact kQ q
 | false=>
  rw[hc]at q;exact kB ⟨_,rfl,rfl,z,_,rfl,rfl,_,rfl,q⟩
theorem jlC(F:Fun K "is_number" "is_number" K3 f fd)(dX:Fn P w K mg base 1 "is_figures" ["text"] jg5):FnOk P w K mg base CX0 2 f fd ["text"] jeD:=by
 have sc:FnScope ["text"] ["text"] (jn K3):=fQ;refine F.okZ sc (fun vs H Q E h=>?_) (fun aj A outer s H vs Q E hr h=>?_)
 ·obtain⟨z,rfl,_⟩:=h
  rfl
 obtain⟨z,rfl,hz,q⟩:=h;refine⟨_,(jd (jM (ze (jN be pj o_ KK (zpv 0) (ja jf jb))) (jh (jx (q0 (jp dX hr (ja (kD YV (zpv 0) (kO jg) kU) jb)) (zt (kZ jcF (zpv 0) jf (jD _)))))) jH)
   (jh (jx (jp dX hr (ja (zpv 0) jb))))),?_⟩
 refine jG (σ':=[some (.str z)]) rfl ?_;unfold Yb at q;refine⟨_,rfl,rfl,z,_,rfl,rfl,_,rfl,?_⟩;rw[jaG,show cd (aa "-")=[45] from rfl,jbA];refine qi (fun d=>?_) (fun d=>?_)
 ·have d':(cd z).head?=some 45:=by simpa using d
  rw[if_pos d']at q;refine⟨_,rfl,_,rfl,z,rfl,sz hz,_,rfl,ad (KF z _ _) hz,?_⟩;rw[jiY]
  cases hf:zV (cd z).tail with
  | false=>rw[hf]at q;exact⟨_,rfl,kB q⟩
  | true=>
   rw[hf]at q;refine⟨_,rfl,kQ ⟨_,rfl,rfl,?_⟩⟩;have e:decide (V.str z=V.str (aa "-0"))=((cd z).tail == [48]):=by
    rw[bI,decide_eq_true_eq,beq_iff_eq];constructor
    ·intro h
     injection h with h;rw[h];rfl
    ·intro h
     have:cd z=[45,48]:=by
      cases hl:cd z with
      | nil=>rw[hl]at d';cases d'
      | cons a l=>rw[hl]at d' h;cases d';cases h;rfl
     exact congrArg V.str (Kl (this.trans rfl))
   rw[e];exact q
 ·have d':¬(cd z).head?=some 45:=by simpa using d
  rw[if_neg d']at q;exact⟨_,rfl,z,rfl,hz,q⟩
theorem jf7{t8:Tok}{aW:Addr}(F:Fun K "is_name" "is_name" ZX f fd)(B:Free0 mg)(hZ:mg "MOST_LETTERS" = some (.int 8 t8))(hV:mg "WORDS" = some (.ref aW))(g_:∀H,SqT K H aW (zK.map V.str)):FnOk P w K mg base CX0 1 f fd ["text"] jcp:=by
 have sc:FnScope ["text","small"] ["text"] (jn ZX):=fQ;refine F.okZ sc (fun vs H Q E h=>?_) (fun aj A outer s H vs Q E hr h=>?_)
 ·obtain⟨z,rfl,_⟩:=h
  rfl
 obtain⟨z,rfl,hz,q⟩:=h;refine⟨_,(jd (ju (i:=1) sc.nd rfl oQ (q0 (Jl be pk pe jad (zpv 0)) (q0 (Jl be PySem.F.slot_str_isalpha PySem.F.type_str_isalpha jdV (zpv 0)) (zt (Jl be PySem.F.slot_str_islower PySem.F.type_str_islower jdT (zpv 0))))))
   (jh (jx (q0 (zpv 1) (q0 (kZ jkV (k9 zD (by rfl) B.len_ kJ (ja (zpv 0) jb)) (JF (v:=.int 8) (by rfl) hZ ⟨_,rfl⟩) (jD _)) (zt (kZ jbH (zpv 0) (JF (v:=.ref aW) (by rfl) hV rfl) rfl))))))),?_⟩
 refine jG (σ':=[some (.str z),none]) rfl ?_;rw[jke]at q;refine KM (b:=ce z) (c:=fu z && fq z) (fun q h=>⟨_,rfl,rfl,z,rfl,rfl,h⟩) (fun q h=>KM (b:=fu z) (c:=fq z) (fun q h=>⟨_,rfl,rfl,z,rfl,rfl,h⟩) (fun q h=>⟨_,rfl,rfl,z,rfl,rfl,h⟩) h) ?_;generalize (ce z && (fu z && fq z))=b at *;refine jG (σ':=[some (.str z),some (.bl b)]) rfl ?_;dsimp only;unfold jk7;refine KM (b:=b) (c:=decide (z.length≤8) && !decide (z∈zK)) (fun q h=>⟨_,rfl,h⟩) (fun q h=>KM (b:=decide (z.length≤8)) (c:=!decide (z∈zK)) (fun q h=>⟨_,rfl,z,rfl,sz hz,_,_,rfl,rfl,?_⟩) (fun q h=>⟨_,rfl,aW,_,rfl,.inr (g_ _),rfl,Jg zK,?_⟩) h) q
 ·dsimp only
  rw[show decide ((z.length:Int)≤8)=decide (z.length≤8) from by rw[bI,decide_eq_true_eq,decide_eq_true_eq];omega];exact h
 ·show q (.bl (!inV (.str z) (zK.map V.str))) H
  rw[Jd];exact h
end
open PyProof.Rows hiding St
abbrev Y0:Stmt:=top 38
def jeG:Sp:=fun vs H Q _=>∃z:Str,vs=[.str z]/\z.length≤1000/\∀p H',Same H H'->H' p=some (.tup [.str (mS (qq (cd z)).1),.int (qq (cd z)).2])->Q (.ref p) H'
variable {sep:List Nat}{p:List Nat×List Nat}
theorem jbG(h:sep≠[])(e:kM sep l=some p):p.1.length≤l.length/\p.2.length≤l.length:=by
 obtain⟨k1,_⟩:=zj h (a:=p.1) (b:=p.2) e;rw[k1,af,af];omega
def sgW:Nat->Str×Nat
 | 0=>(aa "+",43)
 | _=>(aa "-",45)
variable {i:Nat}
theorem jlf{x:V}(h:[V.str (aa "+"),V.str (aa "-")][i]?=some x):x=.str (sgW i).1/\(i=0∨i=1):=by
 match i,h with
 | 0,h=>exact⟨by cases h;rfl,.inl rfl⟩
 | 1,h=>exact⟨by cases h;rfl,.inr rfl⟩
def sgV(i:Nat)(p:List Nat×List Nat):Int:=if i=0 then ((oU p.2:Nat):Int) else -((oU p.2:Nat):Int)
theorem jg6(hi:i=0∨i=1):cd (sgW i).1=[(sgW i).2]/\(sgW i).1.length≤1:=by rcases hi with rfl | rfl <;> exact⟨rfl,by decide⟩
theorem jld(hi:i=0∨i=1)(hf:zV p.2=true):intText? ((sgW i).1++mS p.2)=some (sgV i p)/\((sgW i).1++mS p.2).length≤640:=by
 rcases hi with rfl | rfl
 ·exact jht (z:=aa "+"++mS p.2) (f:=mS p.2) hf (by rw[jY];rfl)
 ·exact jgn (z:=aa "-"++mS p.2) (f:=mS p.2) hf (by rw[jY];rfl)
theorem jle(hi:i=0∨i=1)(hn:∀j,j < i->zX (sgW j).2 l=none)(e:zX (sgW i).2 l=some p):qq l=(p.1,sgV i p):=by
 unfold qq;rcases hi with rfl | rfl
 ·have e:zX 43 l=some p:=e
  rw[e];rfl
 ·have e:zX 45 l=some p:=e
  have e0:zX 43 l=none:=hn 0 (by decide);rw[e,e0];rfl
theorem jjr(hn:∀j,j < 2->zX (sgW j).2 l=none):qq l=(l,0):=by
 have e0:zX 43 l=none:=hn 0 (by decide);have e1:zX 45 l=none:=hn 1 (by decide);unfold qq;rw[e0,e1]
section
theorem jlG(F:Fun K "more_cut" "more_cut" Y0 f fd)(B:Free0 mg)(dX:Fn P w K mg base 1 "is_figures" ["text"] jg5):FnOk P w K mg base CX0 2 f fd ["text"] jeG:=by
 have sc:FnScope ["text","sign","ahead","blanks","figures"] ["text"] (jn Y0):=fQ;refine F.okZ sc (fun vs H Q E h=>?_) (fun aj A outer s H vs Q E hr h=>?_)
 ·obtain⟨z,rfl,_⟩:=h
  rfl
 obtain⟨z,rfl,hz,q⟩:=h;refine⟨_,(jd (zq cu rfl (qS (jQ (ja jf (ja jf jb)))) (jm (i:=1) sc.nd rfl oQ) (jd (km (jN be mj pc KL (zpv 0) (ja (kF (jI jf (jI (ki (zpv 1)) (jI jf qp)))) jb)) (kg rfl (jo (jm (i:=2) sc.nd rfl oQ) (jo (jm (i:=3) sc.nd rfl oQ) (jo (jm (i:=4) sc.nd rfl oQ) j4)))))
   (jh (jM (yJ (jA jcF (zpv 3) jf (jD _)) (yJ (ze (jp dX hr (ja (zpv 4) jb))) (yn (jA jcF (zpv 4) jf (jD _))))).pt (jh (jx (jQ (ja (zpv 2) (ja (kC zP (by rfl) B.int_ Km (ja (jt jq (zpv 1) (zpv 4)) jb)) jb))))) jH))))
   (jh (jx (jQ (ja (zpv 0) (ja jg jb)))))),?_⟩
 refine jG (σ':=[some (.str z),none,none,none,none]) rfl ?_;refine⟨sm rfl,fun t ht=>?_⟩;have s0:=ji ht (.tup [V.str (aa "+"),V.str (aa "-")]);have e0:upd H t (.tup [V.str (aa "+"),V.str (aa "-")]) t=some (.tup [V.str (aa "+"),V.str (aa "-")]):=jc;generalize upd H t (.tup [V.str (aa "+"),V.str (aa "-")])=H0 at *;refine⟨t,rfl,⟨_,SqT.of e0⟩,?_⟩;let Pv:Nat->L2.St->Hp->Prop:=fun i σ G=>∃u1 u2 u3 u4,σ=[some (.str z),u1,u2,u3,u4]/\Same H0 G/\∀j,j < i->zX (sgW j).2 (cd z)=none
 refine Ju (xs:=[V.str (aa "+"),V.str (aa "-")]) Pv ⟨none,none,none,none,rfl,Same.refl _,fun j hj=>absurd hj (iY j)⟩ ?_ ?_ ?_
 ·rintro i σ G _ ⟨u1,u2,u3,u4,rfl,sG,-⟩
  exact SqT.of (sG _ _ e0)
 ·rintro i x σ G hx ⟨u1,u2,u3,u4,rfl,sG,hn⟩
  obtain⟨rfl,hi⟩:=jlf hx;obtain⟨c1,c2⟩:=jg6 hi;refine gQ ?_;refine⟨_,rfl,rfl,?_⟩;refine jcE (n:=0) (av _) (by decide +kernel) (by decide) fun o1=>jfE (x:=(sgW i).1) o1 (ad c2 (by decide)) (by decide) (fun q h=>⟨_,rfl,h⟩) fun o2=>jcE o2 (by decide +kernel) (by decide) fun o3=>⟨jL (ad o3 (by decide)),?_⟩
  rw[kj];have hs:cd (aa " "++(sgW i).1++aa " ")=[32,(sgW i).2,32]:=by
   rw[jY,jY,c1];rfl
  have hl:(aa " "++(sgW i).1++aa " ").length=3:=by rw[← j3,hs];rfl
  generalize hsep:aa " "++(sgW i).1++aa " " = sep at *;refine⟨z,sep,rfl,rfl,by rw[hl];rfl,sz hz,fun p hp=>?_⟩;rw[jcw (by rw[hs];simp),hs]
  cases e:kM [32,(sgW i).2,32] (cd z) with
  | none=>
   dsimp only;have s1:=ji hp (.tup [V.str aV,V.str aV,V.str z]);have e1:upd G p (.tup [V.str aV,V.str aV,V.str z]) p=some (.tup [V.str aV,V.str aV,V.str z]):=jc;generalize upd G p (.tup [V.str aV,V.str aV,V.str z])=G1 at *;refine⟨p,_,rfl,SqT.of e1,rfl,_,_,rfl,_,_,rfl,_,_,rfl,rfl,?_⟩;refine jG (σ':=[some (.str z),some (.str (sgW i).1),some (.str aV),some (.str aV),some (.str z)]) rfl ?_;refine⟨_,rfl,rfl,_,rfl,qi (fun d=>absurd d (by decide +kernel)) (fun _=>kB ?_)⟩;refine⟨_,_,_,_,rfl,sG.trans s1,fun j hj=>?_⟩;rcases i3 j i with h | h
   ·exact hn j h
   ·have:j=i:=by omega
    subst this;unfold zX;rw[e]
  | some r=>
   dsimp only;have s1:=ji hp (.tup [V.str (mS r.1),V.str sep,V.str (mS r.2)]);have e1:upd G p (.tup [V.str (mS r.1),V.str sep,V.str (mS r.2)]) p=some (.tup [V.str (mS r.1),V.str sep,V.str (mS r.2)]):=jc;generalize upd G p (.tup [V.str (mS r.1),V.str sep,V.str (mS r.2)])=G1 at *;refine⟨p,_,rfl,SqT.of e1,rfl,_,_,rfl,_,_,rfl,_,_,rfl,rfl,?_⟩;refine jG (σ':=[some (.str z),some (.str (sgW i).1),some (.str (mS r.1)),some (.str sep),some (.str (mS r.2))]) rfl ?_;obtain⟨l1,l2⟩:=jbG (by simp) e;rw[j3]at l1 l2;have next:zX (sgW i).2 (cd z)=none->Pv (i+1) [some (.str z),some (.str (sgW i).1),some (.str (mS r.1)),some (.str sep),some (.str (mS r.2))] G1:=fun hno=>⟨_,_,_,_,rfl,sG.trans s1,fun j hj=>by
    rcases i3 j i with h | h
    ·exact hn j h
    ·have:j=i:=by omega
     subst this;exact hno⟩
   have es:zX (sgW i).2 (cd z)=if zV r.2 && !(r.2 == [48]) then some r else none:=by
    unfold zX;rw[e]
   refine⟨_,rfl,rfl,_,rfl,qi (fun _=>?_) (fun d=>absurd ?_ d)⟩
   ·refine⟨_,rfl,mS r.2,rfl,by rw[qE];omega,_,rfl,?_⟩
    rw[kX]
    cases hf:zV r.2 with
    | false=>
     rw[hf]at es;exact kB (kB (next es))
    | true=>
    rw[hf]at es;refine kQ ⟨_,rfl,rfl,_,rfl,?_⟩;have e4:decide (V.str (mS r.2)=V.str (aa "0"))=(r.2 == [48]):=by
     rw[bI,decide_eq_true_eq,beq_iff_eq];constructor
     ·intro h
      injection h with h;have:=congrArg cd h;rwa [kX]at this
     ·intro h
      rw[h];rfl
    rw[e4]
    cases h0:r.2 == [48] with
    | true=>
     rw[h0]at es;exact kB (next es)
    | false=>
    rw[h0]at es;have ec:=jle hi hn es;obtain⟨n1,n2⟩:=jld hi hf;rw[ec]at q;refine kQ ⟨_,rfl,_,rfl,_,rfl,_,_,rfl,rfl,?_,_,_,rfl,n1,n2,sm rfl,fun p2 hp2=>?_⟩
    ·rw[← aU]
     exact ad n2 (by decide)
    ·exact q _ _ (s0.trans (sG.trans (s1.trans (ji hp2 _)))) jc
   ·rw[lj,decide_eq_false_iff_not]
    intro h;injection h with h;rw[h]at hl;exact absurd hl (by decide)
 ·rintro σ G ⟨u1,u2,u3,u4,rfl,sG,hn⟩
  rw[jjr hn,qP]at q;exact⟨_,rfl,sm rfl,fun p hp=>q _ _ (s0.trans (sG.trans (ji hp _))) jc⟩
end
theorem jd4(i:Int):cd (jah i)=Kh i:=by
 unfold cd;rw[show (jah i).cps.toList=(eZ i).toList.map fN from jeH i];unfold Kh dg
 cases i with
 | ofNat m=>
  rw[if_neg (show ¬Int.ofNat m < 0 from Int.not_lt.mpr (Int.natCast_nonneg m))];show (Nat.repr m).toList.map fN=_;rw[p0];rfl
 | negSucc m=>
  rw[if_pos (by omega)];show ("-"++m.succ.repr).toList.map fN=_;rw[ng,aH,p0];rfl
theorem jfd(h:0 < c):Kh c=dg c.natAbs:=by
 unfold Kh;rw[if_neg (by omega)]
theorem jb4:z=aa ""↔cd z=[]:=⟨fun h=>by rw[h];rfl,fun h=>Kl (by rw[h];rfl)⟩
theorem yh(z:Str)(c:Int):cd (kK z c)=ku (cd z) c:=by
 unfold kK ku;by_cases h:z=aa ""
 ·rw[if_pos h,if_pos (jb4.mp h),jd4]
 rw[if_neg h,if_neg (fun k=>h (jb4.mpr k))];split
 ·rename_i h0
  rw[jY,jY,jd4,jfd h0,aG];rfl
 split
 ·rename_i h0
  rw[jY,jY,jd4,jfd (by omega),aG,Int.natAbs_neg];rfl
 ·rfl
theorem jdg(t:Tm):cd (yc t)=qh t:=by
 cases t with
 | is x=>
  show cd (if x=aa "" then aa "0" else x)=if cd x=[] then [48] else cd x
  by_cases h:x=aa ""
  ·rw[if_pos h,if_pos (jb4.mp h)];rfl
  ·rw[if_neg h,if_neg (fun k=>h (jb4.mpr k))]
 | at_ r x d=>
  show cd (r++aa "["++kK x d++aa "]")=cd r++91 :: (ku (cd x) d++[93]);rw[jY,jY,jY,yh,aG,aG];rfl
theorem Ym(t:Tm)(c:Int):cd (zb t c)=zi t c:=by
 cases t with
 | is x=>exact yh x c
 | at_ r x d=>
  show cd (kK (yc (.at_ r x d)) c)=_;rw[yh,jdg];rfl
theorem ji5(b:Bd)(c:Int):cd (Yg b c)=yI b c:=by
 cases b with
 | is x=>exact yh x c
 | row r=>
  show cd (kK (r++aa "[]") c)=_;rw[yh,jY];rfl
theorem jcz(x:Str)(d:Int)(y:Str)(e:Int)(r:Str):cd (zY x d y e r)=qJ x d y e r:=by
 unfold zY qJ;rw[jY,jY,jY,jY,yh,yh,aG,aG,aG];rfl
theorem yH(C:Cl):cd (jB C)=zC C:=by
 cases C with
 | least a b c=>
  show cd (yc a++aa " >= "++zb b c)=qh a++32 :: 62 :: 61 :: 32 :: zi b c;rw[jY,jY,jdg,Ym,aG];rfl
 | rise x d y e r=>
  show cd (aa "rise "++zY x d y e r)=114 :: 105 :: 115 :: 101 :: 32 :: qJ x d y e r;rw[jY,jcz];rfl
 | each x d y e r way b c=>
  show cd (aa "each "++zY x d y e r++aa " "++way++aa " "++Yg b c)=101 :: 97 :: 99 :: 104 :: 32 :: (qJ x d y e r++32 :: (cd way++32 :: yI b c));rw[jY,jY,jY,jY,jY,jcz,ji5];simp only[aG];rfl
def jer(l:List Nat):Prop:=(∃c m,l=c :: m/\c≠32)/\∃c m,l=m++[c]/\c≠32
theorem jan{l:List Nat}:∀k:Nat,(∃c m,l=c :: m/\c≠32)->(aC k 32++l).dropWhile (· == 32)=l
 | 0,⟨c,m,e,h⟩=>by
  rw[e];show (c :: m).dropWhile _=_;rw[fM,if_neg (by simpa using h)]
 | k+1,h=>by
  rw[fI];show (32 :: (aC k 32++l)).dropWhile _=_;rw[fM,if_pos (show ((32:Nat) == 32)=true from rfl),jan k h]
theorem Yo(h:jer l)(a b:Nat):kS (aC a 32++(l++aC b 32))=l:=by
 unfold kS;obtain⟨⟨c,m,e,hc⟩,⟨c2,m2,e2,hc2⟩⟩:=h;rw[jan a ⟨c,m++aC b 32,by rw[e];rfl,hc⟩,List.reverse_append,List.reverse_replicate,jan b ⟨c2,m2.reverse,by rw[e2];simp,hc2⟩,mO]
def EndL(l:List Nat):Prop:=∃c m,l=m++[c]/\c≠32
theorem EndL.app(a:List Nat)(h:EndL l):EndL (a++l):=by
 obtain⟨c,m,e,hc⟩:=h;exact⟨c,a++m,by rw[e,aG],hc⟩
theorem EndL.cons{l:List Nat}{x:Nat}(h:EndL l):EndL (x :: l):=h.app [x]
theorem jbY(hn:l≠[])(h:32 ∉ l):EndL l:=⟨l.getLast hn,l.dropLast,(List.dropLast_concat_getLast hn).symm,fun z=>h (z ▸ gR hn)⟩
theorem jkp(i:Int):EndL (Kh i):=by
 refine jbY ?_ (Kz rfl (by decide));unfold Kh;split
 ·simp
 ·exact jfn _
theorem YK{x:List Nat}(h:x=[]∨EndL x)(c:Int):EndL (ku x c):=by
 unfold ku;split
 ·exact jkp c
 ·rename_i hx
  have hd:EndL (dg c.natAbs):=jbY (jfn _) (zL rfl);split
  ·exact hd.cons.cons.cons.app x
  split
  ·exact hd.cons.cons.cons.app x
  ·exact h.resolve_left hx
theorem jam(h:j7 l=true):EndL l:=jbY (Z8 h) (qL h rfl)
theorem jk3(h:NmE x):cd x=[]∨EndL (cd x):=by
 rcases h with rfl | h
 ·exact .inl rfl
 ·exact .inr (jam h)
theorem jal{t:Tm}(h:TmF t)(c:Int):EndL (zi t c):=by
 cases t with
 | is x=>exact YK (jk3 h) c
 | at_ r x d=>exact YK (.inr ⟨93,cd r++91 :: ku (cd x) d,by show cd r++91 :: (ku (cd x) d++[93])=_;simp,by decide⟩) c
theorem jgC{b:Bd}(h:BdF b)(c:Int):EndL (yI b c):=by
 cases b with
 | is x=>exact YK (jk3 h) c
 | row r=>exact YK (.inr ⟨93,cd r++[91],by simp,by decide⟩) c
theorem jfh(h:j7 l=true)(m:List Nat):∃c k,l++m=c :: k/\c≠32:=by
 cases l with
 | nil=>exact absurd rfl (Z8 h)
 | cons a l=>exact⟨a,l++m,rfl,jdZ (jdR h a (am ..)) rfl⟩
variable {C:Cl}
theorem jas(h:ClF C):jer (zC C):=by
 cases C with
 | least a b c=>
  obtain⟨h1,h2,h3⟩:=h;refine⟨?_,(jal h2 c).cons.cons.cons.cons.app _⟩;show ∃k m,qh a++32 :: 62 :: 61 :: 32 :: zi b c=k :: m/\k≠32
  cases a with
  | is x=>
   rcases (show NmE x from h1) with rfl | hx
   ·exact⟨48,_,rfl,by decide⟩
   ·rw[show qh (.is x)=cd x from if_neg (Z8 hx)]
    exact jfh hx _
  | at_ r x d=>
   show ∃k m,(cd r++91 :: (ku (cd x) d++[93]))++32 :: 62 :: 61 :: 32 :: zi b c=k :: m/\k≠32;rw[aG];exact jfh h1.1 _
 | rise x d y e r=>
  obtain⟨h1,h2,h3,h4,h5⟩:=h;exact⟨⟨114,_,rfl,by decide⟩,((((jam h5).cons.app _).cons.cons.cons.cons.app _).cons.cons.cons.cons.cons)⟩
 | each x d y e r way b c=>
  obtain⟨_,_,h7,_⟩:=h;exact⟨⟨101,_,rfl,by decide⟩,((((jgC h7 c).cons.app _).cons.app _).cons.cons.cons.cons.cons)⟩
def LowS(z:Str):Prop:=∀c∈cd z,yB c=true
variable {a:Str}
theorem LowS.app{b:Str}(h:LowS a)(k:LowS b):LowS (a++b):=fun c hc=>by
 rw[jY]at hc;exact (aB.mp hc).elim (h c) (k c)
theorem LowS.cut(h:LowS a)(lo hi:Option Int):LowS (yZ a lo hi):=fun c hc=>by
 have hc:c∈(yZ a lo hi).cps.toList:=hc;rw[zM]at hc;exact h c (cz (List.mem_of_mem_take hc))
theorem jit(h:i < 26):yB (i+97)=true:=by
 unfold yB;rw[decide_eq_true (show 97≤i+97 by omega),decide_eq_true (show i+97≤122 by omega)];rfl
theorem je6(h:i < 26):LowS (wdS [i+97]):=fun c hc=>by
 rw[aJ.mp (show c∈[i+97] from hc)];exact jit h
theorem jcR(w:Int)(n:Dl):∀i,∀c∈(qX w n i).1,yB c=true
 | 0,c,h=>nomatch h
 | i+1,c,h=>by
  rcases aB.mp (show c∈(qX w n i).1++[_] from h) with h | h
  ·exact jcR w n i c h
  ·rw[aJ.mp h]
   have:=jO w (qX w n i).2 (m:=26) (by decide);have:=jK w (qX w n i).2 (m:=26) (by decide);exact jit (by omega)
theorem jkh(h:NmW z):LowS (wdS [ch0 z]):=by
 obtain⟨i,r,rfl,hi,_⟩:=h;rw[jek];exact je6 hi
theorem jcS{tk:List Str}:∀(k:Nat) {z:Str},LowS z->LowS (Jf tk k z)
 | 0,_,h=>h
 | k+1,z,h=>by
  unfold Jf;split
  ·refine jcS k ?_
   exact (je6 (gK _ (by decide))).app (h.cut _ _)
  ·exact h
theorem jis(w:Int)(n:Dl){tk:List Str}(hl:LowS (qb tk))(hn:NmW (qb tk)):LowS (qu w n tk).1:=by
 unfold qu;dsimp only;refine jcS 26 ?_;have h1:LowS (Jb w n).1:=jcR _ _ _;have h1':=nm1 w n;generalize Jb w n=a at *;have h2:LowS (Ja w a.2 (qb tk) a.1).1:=by
  unfold Ja;dsimp only;split
  ·exact ((hl.cut _ _).app (jkh h1')).app (hl.cut _ _)
  ·exact h1
 generalize Ja w a.2 (qb tk) a.1=b at *;unfold YE;dsimp only;split
 ·have lo:=jO w (jj w b.2 6).2 (m:=10) (by decide)
  have hi:=jK w (jj w b.2 6).2 (m:=10) (by decide);exact (by decide +kernel:∀x∈jcg,∀c∈cd x,yB c=true) _ (J7 lo (by exact hi))
 ·exact h2
structure TkOk(tk:List Str):Prop where
 nm:∀z∈tk,NmW z
 low:∀z∈tk,LowS z
 kw:∀z∈jS,z∈tk
theorem tk0:TkOk jS:=⟨zz,by
 have:∀z∈jS,∀c∈cd z,yB c=true:=by decide +kernel
 exact this,fun _ h=>h⟩
theorem TkOk.ne{tk:List Str}(h:TkOk tk):tk≠[]:=by
 rintro rfl;exact absurd (h.kw "out" (by decide)) (by simp)
theorem TkOk.last{tk:List Str}(h:TkOk tk):qb tk∈tk:=by
 unfold qb;rw[i9,gS h.ne];exact gR h.ne
theorem TkOk.name{tk:List Str}(h:TkOk tk)(ht:tk.length≤25)(w:Int)(n:Dl):j7 (cd (qu w n tk).1)=true/\TkOk (tk++[(qu w n tk).1]):=by
 obtain⟨h1,h2⟩:=jac w n h.ne ht h.nm;have h3:=jis w n (h.low _ h.last) (h.nm _ h.last);generalize (qu w n tk).1=z at *;have hx:∀{p:Str->Prop},(∀y∈tk,p y)->p z->∀y∈tk++[z],p y:=fun hp hz y hy=>(aB.mp hy).elim (hp y) fun k=>by rw[aJ.mp k];exact hz
 refine⟨?_,⟨hx h.nm h1,hx h.low h3,fun y hy=>bB _ (h.kw y hy)⟩⟩;have hl:=jdS h1;have hne:cd z≠[]:=by
  obtain⟨i,r,rfl,_⟩:=h1;exact List.cons_ne_nil _ _
 have hk:∀y∈zK,y∈jS:=by decide +kernel
 have hw:(zK.map cd).contains (cd z)=false:=by
  rw[← sq,m7,b_];rintro⟨y,hy,e⟩;rw[Kl e]at hy;exact h2 (h.kw z (hk z hy))
 unfold j7;rw[bR.mpr h3,decide_eq_true (show (cd z).length≤8 by rw[j3];exact hl),hw];rw[show (cd z).isEmpty=false from by rw[rL];exact hne];rfl
theorem YC(w:Int)(n:Dl):Sml (YD w n).1:=by
 unfold YD Sml;dsimp only;have lo:=jO w n (m:=4) (by decide);have hi:=jK w n (m:=4) (by decide);generalize jj w n 4=a at *;split
 ·have:0 < (if a.1=0 then (1:Int) else 10):=by split <;> decide
  have l1:=jO w a.2 this;have l2:=jK w a.2 this;have:(if a.1=0 then (1:Int) else 10)≤10:=by split <;> decide
  omega
 ·have l1:=jO w a.2 (m:=10 ^ 18+1) (by decide)
  have l2:=jK w a.2 (m:=10 ^ 18+1) (by decide);dsimp only;generalize (jj w a.2 (10 ^ 18+1)).1=x at *;have:a.1=2∨a.1=3:=by omega
  rcases this with e | e
  ·rw[e];omega
  ·rw[e];omega
def Nms(xs:List Str):Prop:=∀x∈xs,j7 (cd x)=true
variable {xs:List Str}
theorem jfl(h:Nms xs)(w:Int)(n:Dl):NmE (zp (em xs) (jj w n (((em xs).length:Nat):Int)).1):=by
 have hp:0 < (((em xs).length:Nat):Int):=by show (0:Int) < ((xs.length+1:Nat):Int);omega
 have:=J7 (xs:=em xs) (jO w n hp) (jK w n hp);rcases ak.mp (show _∈(aa "") :: xs from this) with h0 | h0
 ·exact .inl h0
 ·exact .inr (h _ h0)
variable {rs:List Str}
theorem J3(h:Nms rs)(h0:0 < rs.length)(w:Int)(n:Dl):j7 (cd (zp rs (jj w n ((rs.length:Nat):Int)).1))=true:=by
 have hp:0 < ((rs.length:Nat):Int):=by omega
 exact h _ (J7 (jO w n hp) (jK w n hp))
theorem zx(h:Nms xs)(w:Int)(n:Dl):NmE (yz w n xs).1.1/\Sml (yz w n xs).1.2:=⟨jfl h w n,YC w _⟩
theorem ZK(h:Nms xs)(hr:Nms rs)(w:Int)(n:Dl):TmF (qG w n xs rs).1:=by
 unfold qG;dsimp only;split
 ·rename_i c
  exact⟨J3 hr c.2 w _,zx h w _⟩
 ·exact jfl h w _
theorem je8(h:Nms xs)(hr:Nms rs)(w:Int)(n:Dl):ClF (zJ w n xs rs).1:=⟨ZK h hr w _,ZK h hr w _,YC w _⟩
theorem jm3(h:Nms xs)(hr:Nms rs)(h0:0 < rs.length)(w:Int)(n:Dl):BdF (bdN w n xs rs).1:=by
 unfold bdN;dsimp only;split
 ·exact J3 hr h0 w _
 ·have:=ZK (rs:=[]) h (fun _ z=>nomatch z) w n
  generalize (qG w n xs []).1=t at *
  cases t with
  | is x=>exact this
  | at_ r x d=>exact this.2.1
theorem jfu(h:Nms xs)(hr:Nms rs)(w:Int)(n:Dl):ClF (Yf w n xs rs).1:=by
 unfold Yf;dsimp only;split
 ·exact je8 h hr w _
 rename_i c;have h0:0 < rs.length:=by omega
 split
 ·exact⟨(zx h w _).1,(zx h w _).2,(zx h w _).1,(zx h w _).2,J3 hr h0 w _⟩
 ·refine⟨⟨(zx h w _).1,(zx h w _).2,(zx h w _).1,(zx h w _).2,J3 hr h0 w _⟩,?_,jm3 h hr h0 w _,YC w _⟩
  show jfI _=_∨jfI _=_;unfold jfI;split
  ·exact .inl rfl
  ·exact .inr rfl
theorem ko(h:j7 (cd x)=true):x.length≤8:=by
 unfold j7 at h;simp only[bg,decide_eq_true_eq]at h;rw[← j3];exact h.1.2
theorem yF(h:NmE x):x.length≤8:=by
 rcases h with rfl | h
 ·decide
 ·exact ko h
theorem qV(h:Sml d):d.natAbs < 10 ^ 20:=eM h (by decide)
theorem yd{t:Tm}(h:TmF t):jb8 t:=by
 cases t with
 | is x=>exact yF h
 | at_ r x d=>exact⟨ko h.1,yF h.2.1,qV h.2.2⟩
theorem yR(h:ClF C):jkB C:=by
 cases C with
 | least a b c=>exact⟨yd h.1,yd h.2.1,qV h.2.2⟩
 | rise x d y e r=>exact⟨yF h.1,qV h.2.1,yF h.2.2.1,qV h.2.2.2.1,ko h.2.2.2.2⟩
 | each x d y e r way b c=>
  obtain⟨⟨h1,h2,h3,h4,h5⟩,hw,hb,hc⟩:=h;refine⟨⟨yF h1,qV h2,yF h3,qV h4,ko h5⟩,by rcases hw with rfl | rfl <;> decide,?_,qV hc⟩
  cases b with
  | is x=>exact yF hb
  | row r=>exact ko hb
theorem qd(h:jkB C):(jB C).length≤400:=by
 have l1:(aa " >= ").length≤4:=by decide +kernel
 have l3:(aa " ").length≤1:=by decide +kernel
 have l4:(aa "rise ").length≤5:=by decide +kernel
 have l5:(aa "each ").length≤5:=by decide +kernel
 cases C with
 | least a b c=>exact ad (la (la (zo h.1) l1) (qC h.2.1 h.2.2)) (by decide)
 | rise x d y e r=>exact ad (la l4 (yl h)) (by decide)
 | each x d y e r way b c=>exact ad (la (la (la (la (la l5 (yl h.1)) l3) h.2.1) l3) (Zb h.2.2.1 h.2.2.2)) (by decide)
open PyProof.Rows hiding St
abbrev yu:Stmt:=top 12
abbrev K2:Stmt:=top 39
abbrev JS:Stmt:=top 33
def spR{α:Type}(g:List Nat->Option α)(hd:α->D):Sp:=fun vs H Q E=>∃(z:Str) (n:Int),vs=[.str z,.int n]/\z.length≤1000/\n.natAbs < 10 ^ 20/\(∀d,g (cd z)=some d->∀v H',Same H H'->Held H' (hd d) v->Q v H')/\(g (cd z)=none->False)
def JJ:Sp:=fun vs H Q E=>∃(b:Bool) (n:Int),vs=[.bl b,.int n]/\n.natAbs < 10 ^ 20/\(b=true->Q .non H)/\(b=false->False)
def yN(l:List Nat):Option (List Nat):=if j7 l then some l else none
def KJ(l:List Nat):D:=.str (mS l)
def jdI(p:Str×Int):D:=plD p.1 p.2
section
theorem jfY(F:Fun K "refuse_unless" "refuse_unless" yu f fd):FnOk P w K mg base CX0 3 f fd ["fits","line"] JJ:=by
 have sc:FnScope ["fits","line"] ["fits","line"] (jn yu):=fQ;refine F.okZ sc (fun vs H Q E h=>?_) (fun aj A outer s H vs Q E hr h=>?_)
 ·obtain⟨b,n,rfl,_⟩:=h
  rfl
 obtain⟨b,n,rfl,hn,q1,q2⟩:=h;refine⟨_,(jh (jM (Jk (ze (zpv 0))) (jh YT) jH)),?_⟩;refine jG (σ':=[some (.bl b),some (.int n)]) rfl ?_;refine⟨_,rfl,_,rfl,?_⟩
 cases b with
 | true=>exact kB (q1 rfl)
 | false=>exact (q2 rfl).elim
theorem rd{α:Type}{g:List Nat->Option α}{hd:α->D}{n:Int}{Q:VK}(hz:z.length≤1000)(hn:n.natAbs < 10 ^ 20)(h1:∀d,g (cd z)=some d->∀v H',Same H H'->Held H' (hd d) v->Q v H')(h2:g (cd z)=none->False):spR g hd [.str z,.int n] H Q E0:=⟨z,n,rfl,hz,hn,h1,h2⟩
theorem jh7(F:Fun K "name_read" "name_read" K2 f fd)(iq:Fn P w K mg base 1 "is_name" ["text"] jcp)(aY:Fn P w K mg base 3 "refuse_unless" ["fits","line"] JJ):FnOk P w K mg base CX0 4 f fd ["text","line"] (spR yN KJ):=by
 have sc:FnScope ["text","line"] ["text","line"] (jn K2):=fQ;refine F.okZ sc (fun vs H Q E h=>?_) (fun aj A outer s H vs Q E hr h=>?_)
 ·obtain⟨z,n,rfl,_⟩:=h
  rfl
 obtain⟨z,n,rfl,hz,hn,q1,q2⟩:=h;refine⟨_,(jd (jC (jp aY hr (ja (jp iq hr (ja (zpv 0) jb)) (ja (zpv 1) jb))))
   (jh (jx (zpv 0)))),?_⟩
 refine jG (σ':=[some (.str z),some (.int n)]) rfl ?_;unfold yN at q1 q2;refine⟨_,rfl,z,rfl,hz,_,rfl,_,n,rfl,hn,fun e=>?_,fun e=>?_⟩
 ·rw[if_pos e]at q1
  exact⟨_,rfl,q1 _ rfl _ _ (Same.refl H) (by unfold KJ;rw[qP];exact jw)⟩
 ·rw[e]at q2
  exact q2 rfl
end
open PyProof.Rows hiding St
abbrev JU:Stmt:=top 37
abbrev J1:Stmt:=top 36
abbrev KP:Stmt:=top 34
abbrev J0:Stmt:=top 35
theorem jcD(e:kW sep l=some p):p.1.length≤l.length/\p.2.length≤l.length:=by
 obtain⟨k1,_⟩:=zg (a:=p.1) (b:=p.2) e;rw[k1,af,af];omega
theorem jct{q:Nat}(h:zX q l=some p):p.1.length≤l.length:=by
 unfold zX at h
 cases e:kM [32,q,32] l with
 | none=>rw[e]at h;cases h
 | some r=>
  rw[e]at h;dsimp only at h;split at h
  ·cases h
   exact (jbG (by simp) e).1
  ·cases h
theorem jkt(l:List Nat):(qq l).1.length≤l.length:=by
 unfold qq
 cases e:zX 43 l with
 | some p=>exact jct e
 | none=>
  dsimp only
  cases e2:zX 45 l with
  | some p=>exact jct e2
  | none=>exact av _
theorem jl1(hz:z.length≤1000):(mS (qq (cd z)).1).length≤1000:=by
 rw[qE];exact ad (jkt _) (by rw[j3];exact hz)
def jgZ(p:Tm×Int):D:=.tup [p.1.toD,.int p.2]
def ji6(p:Bd×Int):D:=.tup [p.1.toD,.int p.2]
theorem YH{p:Addr}(h:H p=some (.tup [.str x,.int d])):Held H (plD x d) (.ref p):=jy h (je jw (je ke jz))
theorem Jt{p:Addr}(h:H p=some (.tup [.str a,.str x])):Held H (.tup [.str a,.str x]) (.ref p):=jy h (je jw (je jw jz))
section
theorem jf1(F:Fun K "place_read" "place_read" JS f fd)(B:Free0 mg)(cU:Fn P w K mg base 2 "is_number" ["text"] jeD)(cS:Fn P w K mg base 2 "more_cut" ["text"] jeG)(bt:Fn P w K mg base 4 "name_read" ["text","line"] (spR yN KJ)):FnOk P w K mg base CX0 5 f fd ["text","line"] (spR yU jdI):=by
 have sc:FnScope ["text","line","x","d"] ["text","line"] (jn JS):=fQ;refine F.okZ sc (fun vs H Q E h=>?_) (fun aj A outer s H vs Q E hr h=>?_)
 ·obtain⟨z,n,rfl,_⟩:=h
  rfl
 obtain⟨z,n,rfl,hz,hn,q1,q2⟩:=h;refine⟨_,(jd (jM (ze (jp cU hr (ja (zpv 0) jb))) (jh (jx (jQ (ja jf (ja (kC zP (by rfl) B.int_ Km (ja (zpv 0) jb)) jb))))) jH)
   (jd (km (jp cS hr (ja (zpv 0) jb)) (kg rfl (jo (jm (i:=2) sc.nd rfl oQ) (jo (jm (i:=3) sc.nd rfl oQ) j4))))
   (jh (jx (jQ (ja (jp bt hr (ja (zpv 2) (ja (zpv 1) jb))) (ja (zpv 3) jb))))))),?_⟩
 refine jG (σ':=[some (.str z),some (.int n),none,none]) rfl ?_;refine⟨_,rfl,z,rfl,hz,_,rfl,?_⟩;unfold yU at q1 q2
 cases hnum:Yb (cd z) with
 | true=>
  rw[hnum,if_pos rfl]at q1;obtain⟨i1,i2⟩:=jbO hnum;refine kQ ⟨_,rfl,z,_,rfl,i1,i2,sm rfl,fun p hp=>?_⟩;exact q1 _ rfl _ _ (ji hp _) (YH jc)
 | false=>
  rw[hnum,if_neg aI]at q1 q2;refine kB ⟨_,rfl,z,rfl,hz,fun p H1 s1 hp=>⟨p,_,rfl,SqT.of hp,rfl,_,_,rfl,_,_,rfl,rfl,?_⟩⟩;refine jG (σ':=[some (.str z),some (.int n),some (.str (mS (qq (cd z)).1)),some (.int (qq (cd z)).2)]) rfl ?_;refine⟨_,rfl,_,rfl,rd (jl1 hz) hn (fun d e v H2 s2 hv=>?_) (fun e=>?_)⟩
  ·unfold yN at e
   rw[kX]at e;split at e
   ·rename_i hnm
    cases e
    rw[if_pos hnm]at q1
    cases (show v=.str (mS (qq (cd z)).1) from hv)
    refine⟨_,rfl,sm rfl,fun p2 hp2=>?_⟩;exact q1 _ rfl _ _ (s1.trans (s2.trans (ji hp2 _))) (YH jc)
   ·cases e
  ·unfold yN at e
   rw[kX]at e;split at e
   ·cases e
   ·rename_i hnm
    rw[if_neg hnm]at q2;exact (q2 rfl).elim
theorem rdN{n:Int}{Q:VK}(hz:z.length≤1000)(hn:n.natAbs < 10 ^ 20)(h1:j7 (cd z)=true->∀H',Same H H'->Q (.str z) H')(h2:j7 (cd z)=false->False):spR yN KJ [.str z,.int n] H Q E0:=by
 refine rd hz hn (fun d e v H1 s1 hv=>?_) (fun e=>?_)
 ·unfold yN at e
  split at e
  ·rename_i hnm
   cases e
   have:v=.str (mS (cd z)):=hv;rw[this,qP];exact h1 hnm H1 s1
  ·cases e
 ·unfold yN at e
  split at e
  ·cases e
  ·rename_i hnm
   exact h2 (by simpa using hnm)
theorem jh6(F:Fun K "named_term" "named_term" JU f fd)(aY:Fn P w K mg base 3 "refuse_unless" ["fits","line"] JJ)(bt:Fn P w K mg base 4 "name_read" ["text","line"] (spR yN KJ))(dS:Fn P w K mg base 5 "place_read" ["text","line"] (spR yU jdI)):FnOk P w K mg base CX0 6 f fd ["text","line"] (spR ya Tm.toD):=by
 have sc:FnScope ["text","line","r","bracket","inside"] ["text","line"] (jn JU):=fQ;refine F.okZ sc (fun vs H Q E h=>?_) (fun aj A outer s H vs Q E hr h=>?_)
 ·obtain⟨z,n,rfl,_⟩:=h
  rfl
 obtain⟨z,n,rfl,hz,hn,q1,q2⟩:=h;refine⟨_,(jd (km (jN be eJ fD qM (zpv 0) (ja jf jb)) (kg rfl (jo (jm (i:=2) sc.nd rfl oQ) (jo (jm (i:=3) sc.nd rfl oQ) (jo (jm (i:=4) sc.nd rfl oQ) j4)))))
   (jd (jM (jA j5 (zpv 3) jf (jD _)) (jh (jx (jQ (ja jf (ja (jp bt hr (ja (zpv 0) (ja (zpv 1) jb))) jb))))) jH)
   (jd (jC (jp aY hr (ja (jN be pq ph Zf (zpv 4) (ja jf jb)) (ja (zpv 1) jb))))
   (jh (jx (jQ (ja jf (ja (jp bt hr (ja (zpv 2) (ja (zpv 1) jb))) (ja (jp dS hr (ja (kD YV (zpv 4) kU (kO (JD JI jg))) (ja (zpv 1) jb))) jb))))))))),?_⟩
 refine jG (σ':=[some (.str z),some (.int n),none,none,none]) rfl ?_;refine⟨_,rfl,rfl,z,aa "[",rfl,rfl,rfl,sz hz,fun p hp=>?_⟩;rw[je0 (show cd (aa "[")≠[] by decide +kernel),show cd (aa "[")=[91] from rfl];unfold ya at q1 q2
 cases e:kW [91] (cd z) with
 | none=>
  rw[e]at q1 q2;dsimp only at q1 q2 ⊢;have s1:=ji hp (.tup [V.str z,V.str aV,V.str aV]);have e1:upd H p (.tup [V.str z,V.str aV,V.str aV]) p=some (.tup [V.str z,V.str aV,V.str aV]):=jc;generalize upd H p (.tup [V.str z,V.str aV,V.str aV])=H1 at *;refine⟨p,_,rfl,SqT.of e1,rfl,_,_,rfl,_,_,rfl,_,_,rfl,rfl,?_⟩;refine jG (σ':=[some (.str z),some (.int n),some (.str z),some (.str aV),some (.str aV)]) rfl ?_;refine⟨_,rfl,rfl,_,rfl,qi (fun _=>?_) (fun d=>absurd (by decide +kernel) d)⟩;refine⟨_,rfl,_,rfl,rdN hz hn (fun hnm H2 s2=>⟨sm rfl,fun p2 hp2=>?_⟩) (fun hnm=>?_)⟩
  ·rw[if_pos hnm]at q1
   exact q1 _ rfl _ _ (s1.trans (s2.trans (ji hp2 _))) (by rw[qP];exact Jt jc)
  ·rw[if_neg (by rw[hnm];exact aI)]at q2
   exact (q2 rfl).elim
 | some r=>
  rw[e]at q1 q2;dsimp only at q1 q2 ⊢;obtain⟨l1,l2⟩:=jcD e;rw[j3]at l1 l2;have s1:=ji hp (.tup [V.str (mS r.1),V.str (aa "["),V.str (mS r.2)]);have e1:upd H p (.tup [V.str (mS r.1),V.str (aa "["),V.str (mS r.2)]) p=some (.tup [V.str (mS r.1),V.str (aa "["),V.str (mS r.2)]):=jc;generalize upd H p (.tup [V.str (mS r.1),V.str (aa "["),V.str (mS r.2)])=H1 at *;refine⟨p,_,rfl,SqT.of e1,rfl,_,_,rfl,_,_,rfl,_,_,rfl,rfl,?_⟩;refine jG (σ':=[some (.str z),some (.int n),some (.str (mS r.1)),some (.str (aa "[")),some (.str (mS r.2))]) rfl ?_;refine⟨_,rfl,rfl,_,rfl,qi (fun d=>absurd d (by decide +kernel)) (fun _=>?_)⟩;have m1:(mS r.1).length≤1000:=by rw[qE];omega
  refine⟨_,rfl,rfl,mS r.2,_,rfl,rfl,_,rfl,_,n,rfl,hn,fun hb=>?_,fun hb=>?_⟩
  all_goals rw[jfk,show cd (aa "]")=[93] from rfl,jjo,kX]at hb
  ·rw[if_pos hb]at q1 q2
   refine⟨_,rfl,_,rfl,rdN m1 hn (fun hnm H2 s2=>?_) (fun hnm=>?_)⟩
   ·rw[kX]at hnm
    rw[if_pos hnm]at q1 q2;have hc:cd (yZ (mS r.2) none (some (-1)))=r.2.dropLast:=by
     rw[show (-1:Int)=-((1:Nat):Int) from rfl,jda _ 1 (by decide),kX,List.dropLast_eq_take]
    refine⟨_,rfl,_,rfl,_,rfl,mS r.2,rfl,sz (by rw[qE];omega),_,rfl,rd (by rw[← j3,hc,rK];omega) hn (fun d ed v H3 s3 hv=>⟨sm rfl,fun p2 hp2=>?_⟩) (fun ed=>?_)⟩
    ·rw[hc]at ed
     rw[ed]at q1;have s4:=ji hp2 (.tup [V.str (aa "at"),V.str (mS r.1),v]);exact q1 _ rfl _ _ (s1.trans (s2.trans (s3.trans s4))) (jy jc (je jw (je jw (je (hv.mono s4) jz))))
    ·rw[hc]at ed
     rw[ed]at q2;exact (q2 rfl).elim
   ·rw[kX]at hnm
    rw[if_neg (by rw[hnm];exact aI)]at q2;exact (q2 rfl).elim
  ·rw[if_neg (by rw[hb];exact aI)]at q2
   exact (q2 rfl).elim
theorem jgh(F:Fun K "alone_read" "alone_read" J1 f fd)(cR:Fn P w K mg base 6 "named_term" ["text","line"] (spR ya Tm.toD)):FnOk P w K mg base CX0 7 f fd ["text","line"] (spR Zd Tm.toD):=by
 have sc:FnScope ["text","line"] ["text","line"] (jn J1):=fQ;refine F.okZ sc (fun vs H Q E h=>?_) (fun aj A outer s H vs Q E hr h=>?_)
 ·obtain⟨z,n,rfl,_⟩:=h
  rfl
 obtain⟨z,n,rfl,hz,hn,q1,q2⟩:=h;refine⟨_,(jd (jM (jA j5 (zpv 0) jf (jD _)) (jh (jx (jQ (ja jf (ja jf jb))))) jH)
   (jh (jx (jp cR hr (ja (zpv 0) (ja (zpv 1) jb)))))),?_⟩
 refine jG (σ':=[some (.str z),some (.int n)]) rfl ?_;unfold Zd at q1 q2;refine⟨_,rfl,rfl,_,rfl,qi (fun d=>?_) (fun d=>?_)⟩
 ·have d':cd z=[48]:=by
   have:=of_decide_eq_true d;injection this with this;rw[this];rfl
  rw[if_pos d']at q1;exact⟨sm rfl,fun p hp=>q1 _ rfl _ _ (ji hp _) (Jt jc)⟩
 ·rw[if_neg (fun h=>d (decide_eq_true (congrArg V.str (Kl (h.trans rfl)))))]at q1 q2
  exact⟨_,rfl,_,rfl,rd hz hn q1 q2⟩
theorem jhR(F:Fun K "term_read" "term_read" KP f fd)(B:Free0 mg)(cU:Fn P w K mg base 2 "is_number" ["text"] jeD)(cS:Fn P w K mg base 2 "more_cut" ["text"] jeG)(cR:Fn P w K mg base 6 "named_term" ["text","line"] (spR ya Tm.toD)):FnOk P w K mg base CX0 7 f fd ["text","line"] (spR Yn jgZ):=by
 have sc:FnScope ["text","line","term","c"] ["text","line"] (jn KP):=fQ;refine F.okZ sc (fun vs H Q E h=>?_) (fun aj A outer s H vs Q E hr h=>?_)
 ·obtain⟨z,n,rfl,_⟩:=h
  rfl
 obtain⟨z,n,rfl,hz,hn,q1,q2⟩:=h;refine⟨_,(jd (jM (ze (jp cU hr (ja (zpv 0) jb))) (jh (jx (jQ (ja (jQ (ja jf (ja jf jb))) (ja (kC zP (by rfl) B.int_ Km (ja (zpv 0) jb)) jb))))) jH)
   (jd (km (jp cS hr (ja (zpv 0) jb)) (kg rfl (jo (jm (i:=2) sc.nd rfl oQ) (jo (jm (i:=3) sc.nd rfl oQ) j4))))
   (jh (jx (jQ (ja (jp cR hr (ja (zpv 2) (ja (zpv 1) jb))) (ja (zpv 3) jb))))))),?_⟩
 refine jG (σ':=[some (.str z),some (.int n),none,none]) rfl ?_;refine⟨_,rfl,z,rfl,hz,_,rfl,?_⟩;unfold Yn at q1 q2
 cases hnum:Yb (cd z) with
 | true=>
  rw[hnum,if_pos rfl]at q1;obtain⟨i1,i2⟩:=jbO hnum;refine kQ ⟨sm rfl,fun p hp=>⟨_,rfl,z,_,rfl,i1,i2,sm rfl,fun p2 hp2=>?_⟩⟩;have s1:=ji hp (.tup [V.str (aa "is"),V.str (aa "")]);have s2:=ji hp2 (.tup [V.ref p,V.int (jbi (cd z))]);exact q1 _ rfl _ _ (s1.trans s2) (jy jc (je (Jt (s2 _ _ jc)) (je ke jz)))
 | false=>
  rw[hnum,if_neg aI]at q1 q2;refine kB ⟨_,rfl,z,rfl,hz,fun p H1 s1 hp=>⟨p,_,rfl,SqT.of hp,rfl,_,_,rfl,_,_,rfl,rfl,?_⟩⟩;refine jG (σ':=[some (.str z),some (.int n),some (.str (mS (qq (cd z)).1)),some (.int (qq (cd z)).2)]) rfl ?_;refine⟨_,rfl,_,rfl,rd (jl1 hz) hn (fun d e v H2 s2 hv=>⟨_,rfl,sm rfl,fun p2 hp2=>?_⟩) (fun e=>?_)⟩
  ·rw[kX]at e
   rw[e]at q1;have s3:=ji hp2 (.tup [v,V.int (qq (cd z)).2]);exact q1 _ rfl _ _ (s1.trans (s2.trans s3)) (jy jc (je (hv.mono s3) (je ke jz)))
  ·rw[kX]at e
   rw[e]at q2;exact (q2 rfl).elim
theorem jgd(F:Fun K "bound_read" "bound_read" J0 f fd)(B:Free0 mg)(cU:Fn P w K mg base 2 "is_number" ["text"] jeD)(cS:Fn P w K mg base 2 "more_cut" ["text"] jeG)(bt:Fn P w K mg base 4 "name_read" ["text","line"] (spR yN KJ)):FnOk P w K mg base CX0 5 f fd ["text","line"] (spR Yh ji6):=by
 have sc:FnScope ["text","line","b","c"] ["text","line"] (jn J0):=fQ;refine F.okZ sc (fun vs H Q E h=>?_) (fun aj A outer s H vs Q E hr h=>?_)
 ·obtain⟨z,n,rfl,_⟩:=h
  rfl
 obtain⟨z,n,rfl,hz,hn,q1,q2⟩:=h;refine⟨_,(jd (jM (ze (jp cU hr (ja (zpv 0) jb))) (jh (jx (jQ (ja (jQ (ja jf (ja jf jb))) (ja (kC zP (by rfl) B.int_ Km (ja (zpv 0) jb)) jb))))) jH)
   (jd (km (jp cS hr (ja (zpv 0) jb)) (kg rfl (jo (jm (i:=2) sc.nd rfl oQ) (jo (jm (i:=3) sc.nd rfl oQ) j4))))
   (jd (jM (ze (jN be pq ph Zf (zpv 2) (ja jf jb))) (jh (jx (jQ (ja (jQ (ja jf (ja (jp bt hr (ja (kD YV (zpv 2) kU (kO (JD JI jg))) (ja (zpv 1) jb))) jb))) (ja (zpv 3) jb))))) jH)
   (jh (jx (jQ (ja (jQ (ja jf (ja (jp bt hr (ja (zpv 2) (ja (zpv 1) jb))) jb))) (ja (zpv 3) jb)))))))),?_⟩
 refine jG (σ':=[some (.str z),some (.int n),none,none]) rfl ?_;refine⟨_,rfl,z,rfl,hz,_,rfl,?_⟩;unfold Yh at q1 q2
 cases hnum:Yb (cd z) with
 | true=>
  rw[hnum,if_pos rfl]at q1;obtain⟨i1,i2⟩:=jbO hnum;refine kQ ⟨sm rfl,fun p hp=>⟨_,rfl,z,_,rfl,i1,i2,sm rfl,fun p2 hp2=>?_⟩⟩;have s1:=ji hp (.tup [V.str (aa "is"),V.str (aa "")]);have s2:=ji hp2 (.tup [V.ref p,V.int (jbi (cd z))]);exact q1 _ rfl _ _ (s1.trans s2) (jy jc (je (Jt (s2 _ _ jc)) (je ke jz)))
 | false=>
  rw[hnum,if_neg aI]at q1 q2;refine kB ⟨_,rfl,z,rfl,hz,fun p H1 s1 hp=>⟨p,_,rfl,SqT.of hp,rfl,_,_,rfl,_,_,rfl,rfl,?_⟩⟩;refine jG (σ':=[some (.str z),some (.int n),some (.str (mS (qq (cd z)).1)),some (.int (qq (cd z)).2)]) rfl ?_;have hl:=jl1 hz;refine⟨_,rfl,rfl,_,_,rfl,rfl,_,rfl,?_⟩;rw[jfk,kX,show cd (aa "[]")=[91,93] from rfl];refine qi (fun d=>?_) (fun d=>?_)
  ·rw[if_pos d]at q1 q2
   have hc:cd (yZ (mS (qq (cd z)).1) none (some (-2)))=(qq (cd z)).1.take ((qq (cd z)).1.length - 2):=by
    rw[show (-2:Int)=-((2:Nat):Int) from rfl,jda _ 2 (by decide),kX]
   refine⟨_,rfl,_,rfl,_,rfl,_,rfl,sz hl,_,rfl,rdN (ad (KF _ _ _) hl) hn (fun hnm H2 s2=>⟨sm rfl,fun p2 hp2=>⟨_,rfl,sm rfl,fun p3 hp3=>?_⟩⟩) (fun hnm=>?_)⟩
   all_goals rw[hc]at hnm
   ·rw[if_pos hnm]at q1
    have s3:=ji hp2 (.tup [V.str (aa "row"),V.str (yZ (mS (qq (cd z)).1) none (some (-2)))]);have s4:=ji hp3 (.tup [V.ref p2,V.int (qq (cd z)).2]);refine q1 _ rfl _ _ (s1.trans (s2.trans (s3.trans s4))) ?_;rw[← hc,qP];exact jy jc (je (Jt (s4 _ _ jc)) (je ke jz))
   ·rw[if_neg (by rw[hnm];exact aI)]at q2
    exact (q2 rfl).elim
  ·rw[if_neg d]at q1 q2
   refine⟨_,rfl,_,rfl,rdN hl hn (fun hnm H2 s2=>⟨sm rfl,fun p2 hp2=>⟨_,rfl,sm rfl,fun p3 hp3=>?_⟩⟩) (fun hnm=>?_)⟩
   all_goals rw[kX]at hnm
   ·rw[if_pos hnm]at q1
    have s3:=ji hp2 (.tup [V.str (aa "is"),V.str (mS (qq (cd z)).1)]);have s4:=ji hp3 (.tup [V.ref p2,V.int (qq (cd z)).2]);exact q1 _ rfl _ _ (s1.trans (s2.trans (s3.trans s4))) (jy jc (je (Jt (s4 _ _ jc)) (je ke jz)))
   ·rw[if_neg (by rw[hnm];exact aI)]at q2
    exact (q2 rfl).elim
end
open PyProof.Rows hiding St
abbrev JP:Stmt:=top 32
abbrev K0:Stmt:=top 31
abbrev K5:Stmt:=top 30
abbrev JV:Stmt:=top 29
abbrev JY:Stmt:=top 28
theorem Y1(h:cd y≠[]):∃b,gu x y=(mS (prt (cd y) (cd x)).1,b,mS (prt (cd y) (cd x)).2):=by
 rw[je0 h];unfold prt
 cases e:kW (cd y) (cd x) with
 | none=>exact⟨aV,by show (x,_,_)=(mS (cd x),_,mS []);rw[qP];rfl⟩
 | some p=>exact⟨y,rfl⟩
theorem jjx(h:cd y≠[]):∃b,gt x y=(mS (Zn (cd y) (cd x)).1,b,mS (Zn (cd y) (cd x)).2):=by
 rw[jcw h];unfold Zn
 cases e:kM (cd y) (cd x) with
 | none=>exact⟨aV,by show (_,_,x)=(mS [],_,mS (cd x));rw[qP];rfl⟩
 | some p=>exact⟨y,rfl⟩
theorem Ku(h:l.length≤n):(prt sep l).1.length≤n/\(prt sep l).2.length≤n:=by
 unfold prt
 cases e:kW sep l with
 | none=>exact⟨h,bm _⟩
 | some p=>
  obtain⟨h1,h2⟩:=jcD e;exact⟨ad h1 h,ad h2 h⟩
theorem jhf(hs:sep≠[])(h:l.length≤n):(Zn sep l).1.length≤n/\(Zn sep l).2.length≤n:=by
 unfold Zn
 cases e:kM sep l with
 | none=>exact⟨bm _,h⟩
 | some p=>
  obtain⟨h1,h2⟩:=jbG hs e;exact⟨ad h1 h,ad h2 h⟩
def jjy(k:Rch):D:=.tup [plD k.t.1 k.t.2,plD k.u.1 k.u.2,.str k.r]
theorem jeP{k:Rch}{v:V}(h:Held H (jjy k) v):∃a vt vu,v=.ref a/\H a=some (.tup [vt,vu,.str k.r])/\Held H (plD k.t.1 k.t.2) vt/\Held H (plD k.u.1 k.u.2) vu:=by
 obtain⟨t,xs,rfl,ht,h1⟩:=jF h;obtain⟨v1,r1,rfl,e1,h2⟩:=jk h1;obtain⟨v2,r2,rfl,e2,h3⟩:=jk h2;obtain⟨v3,r3,rfl,e3,h4⟩:=jk h3
 cases jR h4
 cases (show v3=.str k.r from e3)
 exact⟨t,v1,v2,rfl,ht,e1,e2⟩
theorem jbj{d:D}{v:V}(h:Held H (.tup [d,.int c]) v):∃a vd,v=.ref a/\H a=some (.tup [vd,.int c])/\Held H d vd:=by
 obtain⟨t,xs,rfl,ht,h1⟩:=jF h;obtain⟨v1,r1,rfl,e1,h2⟩:=jk h1;obtain⟨v2,r2,rfl,e2,h3⟩:=jk h2
 cases jR h3
 cases (show v2=.int c from e2)
 exact⟨t,v1,rfl,ht,e1⟩
section
theorem jh1(F:Fun K "reach_read" "reach_read" JP f fd)(bt:Fn P w K mg base 4 "name_read" ["text","line"] (spR yN KJ))(dS:Fn P w K mg base 5 "place_read" ["text","line"] (spR yU jdI)):FnOk P w K mg base CX0 6 f fd ["text","line"] (spR J4 jjy):=by
 have sc:FnScope ["text","line","t","word","behind","u","blank","r"] ["text","line"] (jn JP):=fQ;refine F.okZ sc (fun vs H Q E h=>?_) (fun aj A outer s H vs Q E hr h=>?_)
 ·obtain⟨z,n,rfl,_⟩:=h
  rfl
 obtain⟨z,n,rfl,hz,hn,q1,q2⟩:=h;refine⟨_,(jd (km (jN be eJ fD qM (zpv 0) (ja jf jb)) (kg rfl (jo (jm (i:=2) sc.nd rfl oQ) (jo (jm (i:=3) sc.nd rfl oQ) (jo (jm (i:=4) sc.nd rfl oQ) j4)))))
   (jd (km (jN be mj pc KL (zpv 4) (ja jf jb)) (kg rfl (jo (jm (i:=5) sc.nd rfl oQ) (jo (jm (i:=6) sc.nd rfl oQ) (jo (jm (i:=7) sc.nd rfl oQ) j4)))))
   (jh (jx (jQ (ja (jp dS hr (ja (zpv 2) (ja (zpv 1) jb))) (ja (jp dS hr (ja (zpv 5) (ja (zpv 1) jb))) (ja (jp bt hr (ja (zpv 7) (ja (zpv 1) jb))) jb)))))))),?_⟩
 refine jG (σ':=[some (.str z),some (.int n),none,none,none,none,none,none]) rfl ?_;obtain⟨b1,w1⟩:=Y1 (x:=z) (y:=aa " to ") (by decide +kernel);rw[show cd (aa " to ")=[32,116,111,32] from rfl]at w1;unfold J4 at q1 q2;have l1:=Ku (sep:=[32,116,111,32]) (show (cd z).length≤1000 by rw[j3];exact hz);generalize prt [32,116,111,32] (cd z)=a at *;refine⟨_,rfl,rfl,z,aa " to ",rfl,rfl,rfl,sz hz,fun p hp=>?_⟩;rw[w1];have s1:=ji hp (.tup [V.str (mS a.1),V.str b1,V.str (mS a.2)]);have e1:upd H p (.tup [V.str (mS a.1),V.str b1,V.str (mS a.2)]) p=some (.tup [V.str (mS a.1),V.str b1,V.str (mS a.2)]):=jc;dsimp only;generalize upd H p (.tup [V.str (mS a.1),V.str b1,V.str (mS a.2)])=H1 at *;refine⟨p,_,rfl,SqT.of e1,rfl,_,_,rfl,_,_,rfl,_,_,rfl,rfl,?_⟩;refine jG (σ':=[some (.str z),some (.int n),some (.str (mS a.1)),some (.str b1),some (.str (mS a.2)),none,none,none]) rfl ?_;obtain⟨b2,w2⟩:=jjx (x:=mS a.2) (y:=aa " ") (by decide +kernel);rw[show cd (aa " ")=[32] from rfl,kX]at w2;have l2:=jhf (sep:=[32]) (by simp) l1.2;generalize Zn [32] a.2=b at *;refine⟨_,rfl,rfl,mS a.2,aa " ",rfl,rfl,rfl,sz (by rw[qE];exact l1.2),fun p2 hp2=>?_⟩;rw[w2];have s2:=ji hp2 (.tup [V.str (mS b.1),V.str b2,V.str (mS b.2)]);have e2:upd H1 p2 (.tup [V.str (mS b.1),V.str b2,V.str (mS b.2)]) p2=some (.tup [V.str (mS b.1),V.str b2,V.str (mS b.2)]):=jc;dsimp only;generalize upd H1 p2 (.tup [V.str (mS b.1),V.str b2,V.str (mS b.2)])=H2 at *;refine⟨p2,_,rfl,SqT.of e2,rfl,_,_,rfl,_,_,rfl,_,_,rfl,rfl,?_⟩;refine jG (σ':=[some (.str z),some (.int n),some (.str (mS a.1)),some (.str b1),some (.str (mS a.2)),some (.str (mS b.1)),some (.str b2),some (.str (mS b.2))]) rfl ?_;have s12:=s1.trans s2;refine⟨_,rfl,_,rfl,rd (by rw[qE];exact l1.1) hn (fun t et vt H3 s3 ht=>?_) (fun et=>?_)⟩
 all_goals rw[kX]at et;rw[et]at q1 q2
 ·refine⟨_,rfl,_,rfl,rd (by rw[qE];exact l2.1) hn (fun u eu vu H4 s4 hu=>?_) (fun eu=>?_)⟩
  all_goals rw[kX]at eu;dsimp only at q1 q2;rw[eu]at q1 q2
  ·refine⟨_,rfl,_,rfl,rdN (by rw[qE];exact l2.2) hn (fun hnm H5 s5=>⟨sm rfl,fun p3 hp3=>?_⟩) (fun hnm=>?_)⟩
   all_goals rw[kX]at hnm;dsimp only at q1 q2
   ·rw[if_pos hnm]at q1
    have s6:=ji hp3 (.tup [vt,vu,V.str (mS b.2)]);exact q1 _ rfl _ _ (s12.trans (s3.trans (s4.trans (s5.trans s6)))) (jy jc (je (ht.mono (s4.trans (s5.trans s6))) (je (hu.mono (s5.trans s6)) (je jw jz))))
   ·rw[if_neg (by rw[hnm];exact aI)]at q2
    exact (q2 rfl).elim
  ·exact (q2 rfl).elim
 ·exact (q2 rfl).elim
theorem jhZ(F:Fun K "rise_read" "rise_read" K0 f fd)(eU:Fn P w K mg base 6 "reach_read" ["text","line"] (spR J4 jjy)):FnOk P w K mg base CX0 7 f fd ["text","line"] (spR jaM Cl.toD):=by
 have sc:FnScope ["text","line","t","u","r"] ["text","line"] (jn K0):=fQ;refine F.okZ sc (fun vs H Q E h=>?_) (fun aj A outer s H vs Q E hr h=>?_)
 ·obtain⟨z,n,rfl,_⟩:=h
  rfl
 obtain⟨z,n,rfl,hz,hn,q1,q2⟩:=h;refine⟨_,(jd (km (jp eU hr (ja (zpv 0) (ja (zpv 1) jb))) (kg rfl (jo (jm (i:=2) sc.nd rfl oQ) (jo (jm (i:=3) sc.nd rfl oQ) (jo (jm (i:=4) sc.nd rfl oQ) j4)))))
   (jh (jx (jQ (ja jf (ja (zpv 2) (ja (zpv 3) (ja (zpv 4) jb)))))))),?_⟩
 refine jG (σ':=[some (.str z),some (.int n),none,none,none]) rfl ?_;unfold jaM at q1 q2;refine⟨_,rfl,_,rfl,rd hz hn (fun k ek v H1 s1 hv=>?_) (fun ek=>?_)⟩
 all_goals rw[ek]at q1 q2
 ·obtain⟨a,vt,vu,rfl,ha,ht,hu⟩:=jeP hv
  refine⟨a,_,rfl,SqT.of ha,rfl,_,_,rfl,_,_,rfl,_,_,rfl,rfl,?_⟩;refine jG (σ':=[some (.str z),some (.int n),some vt,some vu,some (.str k.r)]) rfl ?_;refine⟨_,rfl,_,rfl,_,rfl,sm rfl,fun p hp=>?_⟩;have s2:=ji hp (.tup [V.str (aa "rise"),vt,vu,V.str k.r]);exact q1 _ rfl _ _ (s1.trans s2) (jy jc (je jw (je (ht.mono s2) (je (hu.mono s2) (je jw jz)))))
 ·exact q2 rfl
theorem jia(F:Fun K "each_read" "each_read" K5 f fd)(eU:Fn P w K mg base 6 "reach_read" ["text","line"] (spR J4 jjy))(ix:Fn P w K mg base 5 "bound_read" ["text","line"] (spR Yh ji6)):FnOk P w K mg base CX0 7 f fd ["text","line"] (spR jc5 Cl.toD):=by
 have sc:FnScope ["text","line","way","reach","sign","right","t","u","r","b","c"] ["text","line"] (jn K5):=fQ;refine F.okZ sc (fun vs H Q E h=>?_) (fun aj A outer s H vs Q E hr h=>?_)
 ·obtain⟨z,n,rfl,_⟩:=h
  rfl
 obtain⟨z,n,rfl,hz,hn,q1,q2⟩:=h;refine⟨_,(jd (ju (i:=2) sc.nd rfl oQ jf)
   (jd (jgQ (jM (jA jfS jf (zpv 0) rfl) (jh (ju (i:=2) sc.nd rfl oQ jf)) jH))
   (jd (km (jN be eJ fD qM (zpv 0) (ja (kF (jI jf (jI (ki (zpv 2)) (jI jf qp)))) jb)) (kg rfl (jo (jm (i:=3) sc.nd rfl oQ) (jo (jm (i:=4) sc.nd rfl oQ) (jo (jm (i:=5) sc.nd rfl oQ) j4)))))
   (jd (km (jp eU hr (ja (zpv 3) (ja (zpv 1) jb))) (kg rfl (jo (jm (i:=6) sc.nd rfl oQ) (jo (jm (i:=7) sc.nd rfl oQ) (jo (jm (i:=8) sc.nd rfl oQ) j4)))))
   (jd (km (jp ix hr (ja (zpv 5) (ja (zpv 1) jb))) (kg rfl (jo (jm (i:=9) sc.nd rfl oQ) (jo (jm (i:=10) sc.nd rfl oQ) j4))))
   (jh (jx (jQ (ja jf (ja (zpv 6) (ja (zpv 7) (ja (zpv 8) (ja (zpv 2) (ja (zpv 9) (ja (zpv 10) jb))))))))))))))),?_⟩
 refine jG (σ':=[some (.str z),some (.int n),none,none,none,none,none,none,none,none,none]) rfl ?_;refine gQ ?_;refine⟨fun σ G=>σ=[some (.str z),some (.int n),some (.str (jax (cd z))),none,none,none,none,none,none,none,none]/\G=H,⟨_,rfl,_,_,rfl,rfl,_,rfl,?_⟩,?_⟩
 ·rw[jmF (by decide +kernel),show cd (aa " <= ")=[32,60,61,32] from rfl]
  unfold jax;refine qi (fun d=>?_) (fun d=>?_)
  ·rw[if_pos d]
   exact⟨rfl,rfl⟩
  ·rw[if_neg d]
   exact⟨rfl,rfl⟩
 rintro σ G ⟨rfl,rfl⟩;unfold jc5 at q1 q2;have hw:(jax (cd z)).length≤2:=by
  unfold jax;split <;> decide
 generalize jax (cd z)=way at *;refine⟨_,rfl,rfl,?_⟩;refine jcE (n:=0) (av _) (by decide +kernel) (by decide) fun o1=>jfE (x:=way) o1 (ad hw (by decide)) (by decide) (fun q h=>⟨_,rfl,h⟩) fun o2=>jcE o2 (by decide +kernel) (by decide) fun o3=>⟨jL (ad o3 (by decide)),?_⟩
 rw[kj];have hs:cd (aa " "++way++aa " ")=32 :: (cd way++[32]):=by
  rw[jY,jY];rfl
 generalize aa " "++way++aa " " = sep at *;have hse:cd sep≠[]:=by rw[hs];simp
 obtain⟨b1,w1⟩:=Y1 (x:=z) hse;rw[hs]at w1;have l1:=Ku (sep:=32 :: (cd way++[32])) (show (cd z).length≤1000 by rw[j3];exact hz);generalize prt (32 :: (cd way++[32])) (cd z)=a at *;refine⟨z,sep,rfl,rfl,?_,sz hz,fun p hp=>?_⟩
 ·rw[← j3,hs]
  rfl
 rw[w1];dsimp only;have s1:=ji hp (.tup [V.str (mS a.1),V.str b1,V.str (mS a.2)]);have e1:upd G p (.tup [V.str (mS a.1),V.str b1,V.str (mS a.2)]) p=some (.tup [V.str (mS a.1),V.str b1,V.str (mS a.2)]):=jc;generalize upd G p (.tup [V.str (mS a.1),V.str b1,V.str (mS a.2)])=H1 at *;refine⟨p,_,rfl,SqT.of e1,rfl,_,_,rfl,_,_,rfl,_,_,rfl,rfl,?_⟩;refine jG (σ':=[some (.str z),some (.int n),some (.str way),some (.str (mS a.1)),some (.str b1),some (.str (mS a.2)),none,none,none,none,none]) rfl ?_;refine⟨_,rfl,_,rfl,rd (by rw[qE];exact l1.1) hn (fun k ek v H2 s2 hv=>?_) (fun ek=>?_)⟩
 all_goals rw[kX]at ek;rw[ek]at q1 q2
 ·obtain⟨c,vt,vu,rfl,hc,ht,hu⟩:=jeP hv
  refine⟨c,_,rfl,SqT.of hc,rfl,_,_,rfl,_,_,rfl,_,_,rfl,rfl,?_⟩;refine jG (σ':=[some (.str z),some (.int n),some (.str way),some (.str (mS a.1)),some (.str b1),some (.str (mS a.2)),some vt,some vu,some (.str k.r),none,none]) rfl ?_;dsimp only at q1 q2;refine⟨_,rfl,_,rfl,rd (by rw[qE];exact l1.2) hn (fun b eb v2 H3 s3 hv2=>?_) (fun eb=>?_)⟩
  all_goals rw[kX]at eb;rw[eb]at q1 q2
  ·obtain⟨c2,vb,rfl,hc2,hb⟩:=jbj hv2
   refine⟨c2,_,rfl,SqT.of hc2,rfl,_,_,rfl,_,_,rfl,rfl,?_⟩;refine jG (σ':=[some (.str z),some (.int n),some (.str way),some (.str (mS a.1)),some (.str b1),some (.str (mS a.2)),some vt,some vu,some (.str k.r),some vb,some (.int b.2)]) rfl ?_;refine⟨_,rfl,_,rfl,_,rfl,_,rfl,_,rfl,_,rfl,sm rfl,fun p3 hp3=>?_⟩;have s4:=ji hp3 (.tup [V.str (aa "each"),vt,vu,V.str k.r,V.str way,vb,V.int b.2]);exact q1 _ rfl _ _ (s1.trans (s2.trans (s3.trans s4))) (jy jc (je jw (je (ht.mono (s3.trans s4)) (je (hu.mono (s3.trans s4)) (je jw (je jw (je (hb.mono s4) (je ke jz))))))))
  ·exact (q2 rfl).elim
 ·exact (q2 rfl).elim
theorem jf5(F:Fun K "least_read" "least_read" JV f fd)(eS:Fn P w K mg base 7 "term_read" ["text","line"] (spR Yn jgZ))(iy:Fn P w K mg base 7 "alone_read" ["text","line"] (spR Zd Tm.toD)):FnOk P w K mg base CX0 8 f fd ["text","line"] (spR yb Cl.toD):=by
 have sc:FnScope ["text","line","left","sign","right","term","c"] ["text","line"] (jn JV):=fQ;refine F.okZ sc (fun vs H Q E h=>?_) (fun aj A outer s H vs Q E hr h=>?_)
 ·obtain⟨z,n,rfl,_⟩:=h
  rfl
 obtain⟨z,n,rfl,hz,hn,q1,q2⟩:=h;refine⟨_,(jd (km (jN be eJ fD qM (zpv 0) (ja jf jb)) (kg rfl (jo (jm (i:=2) sc.nd rfl oQ) (jo (jm (i:=3) sc.nd rfl oQ) (jo (jm (i:=4) sc.nd rfl oQ) j4)))))
   (jd (km (jp eS hr (ja (zpv 4) (ja (zpv 1) jb))) (kg rfl (jo (jm (i:=5) sc.nd rfl oQ) (jo (jm (i:=6) sc.nd rfl oQ) j4))))
   (jh (jx (jQ (ja jf (ja (jp iy hr (ja (zpv 2) (ja (zpv 1) jb))) (ja (zpv 5) (ja (zpv 6) jb))))))))),?_⟩
 refine jG (σ':=[some (.str z),some (.int n),none,none,none,none,none]) rfl ?_;obtain⟨b1,w1⟩:=Y1 (x:=z) (y:=aa " >= ") (by decide +kernel);rw[show cd (aa " >= ")=[32,62,61,32] from rfl]at w1;unfold yb at q1 q2;have l1:=Ku (sep:=[32,62,61,32]) (show (cd z).length≤1000 by rw[j3];exact hz);generalize prt [32,62,61,32] (cd z)=a at *;refine⟨_,rfl,rfl,z,aa " >= ",rfl,rfl,rfl,sz hz,fun p hp=>?_⟩;rw[w1];have s1:=ji hp (.tup [V.str (mS a.1),V.str b1,V.str (mS a.2)]);have e1:upd H p (.tup [V.str (mS a.1),V.str b1,V.str (mS a.2)]) p=some (.tup [V.str (mS a.1),V.str b1,V.str (mS a.2)]):=jc;dsimp only;generalize upd H p (.tup [V.str (mS a.1),V.str b1,V.str (mS a.2)])=H1 at *;refine⟨p,_,rfl,SqT.of e1,rfl,_,_,rfl,_,_,rfl,_,_,rfl,rfl,?_⟩;refine jG (σ':=[some (.str z),some (.int n),some (.str (mS a.1)),some (.str b1),some (.str (mS a.2)),none,none]) rfl ?_;refine⟨_,rfl,_,rfl,rd (by rw[qE];exact l1.2) hn (fun t et v H2 s2 hv=>?_) (fun et=>?_)⟩
 all_goals rw[kX]at et;rw[et]at q1 q2
 ·obtain⟨c2,vb,rfl,hc2,hb⟩:=jbj hv
  refine⟨c2,_,rfl,SqT.of hc2,rfl,_,_,rfl,_,_,rfl,rfl,?_⟩;refine jG (σ':=[some (.str z),some (.int n),some (.str (mS a.1)),some (.str b1),some (.str (mS a.2)),some vb,some (.int t.2)]) rfl ?_;dsimp only at q1 q2;refine⟨_,rfl,_,rfl,rd (by rw[qE];exact l1.1) hn (fun x ex v2 H3 s3 hv2=>?_) (fun ex=>?_)⟩
  all_goals rw[kX]at ex;rw[ex]at q1 q2
  ·refine⟨_,rfl,_,rfl,sm rfl,fun p3 hp3=>?_⟩
   have s4:=ji hp3 (.tup [V.str (aa "least"),v2,vb,V.int t.2]);exact q1 _ rfl _ _ (s1.trans (s2.trans (s3.trans s4))) (jy jc (je jw (je (hv2.mono s4) (je (hb.mono (s3.trans s4)) (je ke jz)))))
  ·exact (q2 rfl).elim
 ·exact (q2 rfl).elim
theorem jga(F:Fun K "claim_read" "claim_read" JY f fd)(iu:Fn P w K mg base 7 "each_read" ["text","line"] (spR jc5 Cl.toD))(ij:Fn P w K mg base 7 "rise_read" ["text","line"] (spR jaM Cl.toD))(cT:Fn P w K mg base 8 "least_read" ["text","line"] (spR yb Cl.toD)):FnOk P w K mg base CX0 9 f fd ["text","line"] (spR qZ Cl.toD):=by
 have sc:FnScope ["text","line","word","blank","rest"] ["text","line"] (jn JY):=fQ;refine F.okZ sc (fun vs H Q E h=>?_) (fun aj A outer s H vs Q E hr h=>?_)
 ·obtain⟨z,n,rfl,_⟩:=h
  rfl
 obtain⟨z,n,rfl,hz,hn,q1,q2⟩:=h;refine⟨_,(jd (km (jN be eJ fD qM (zpv 0) (ja jf jb)) (kg rfl (jo (jm (i:=2) sc.nd rfl oQ) (jo (jm (i:=3) sc.nd rfl oQ) (jo (jm (i:=4) sc.nd rfl oQ) j4)))))
   (jd (jM (jA j5 (zpv 2) jf (jD _)) (jh (jx (jp iu hr (ja (zpv 4) (ja (zpv 1) jb))))) jH)
   (jd (jM (jA j5 (zpv 2) jf (jD _)) (jh (jx (jp ij hr (ja (zpv 4) (ja (zpv 1) jb))))) jH)
   (jh (jx (jp cT hr (ja (zpv 0) (ja (zpv 1) jb)))))))),?_⟩
 refine jG (σ':=[some (.str z),some (.int n),none,none,none]) rfl ?_;obtain⟨b1,w1⟩:=Y1 (x:=z) (y:=aa " ") (by decide +kernel);rw[show cd (aa " ")=[32] from rfl]at w1;unfold qZ at q1 q2;have l1:=Ku (sep:=[32]) (show (cd z).length≤1000 by rw[j3];exact hz);generalize prt [32] (cd z)=a at *;refine⟨_,rfl,rfl,z,aa " ",rfl,rfl,rfl,sz hz,fun p hp=>?_⟩;rw[w1];have s1:=ji hp (.tup [V.str (mS a.1),V.str b1,V.str (mS a.2)]);have e1:upd H p (.tup [V.str (mS a.1),V.str b1,V.str (mS a.2)]) p=some (.tup [V.str (mS a.1),V.str b1,V.str (mS a.2)]):=jc;dsimp only;generalize upd H p (.tup [V.str (mS a.1),V.str b1,V.str (mS a.2)])=H1 at *;refine⟨p,_,rfl,SqT.of e1,rfl,_,_,rfl,_,_,rfl,_,_,rfl,rfl,?_⟩;refine jG (σ':=[some (.str z),some (.int n),some (.str (mS a.1)),some (.str b1),some (.str (mS a.2))]) rfl ?_;have hw:∀y:Str,decide (V.str (mS a.1)=V.str y)=true↔a.1=cd y:=fun y=>by
  rw[decide_eq_true_eq];exact⟨fun h=>by injection h with h;rw[← h,kX],fun h=>by rw[h,qP]⟩
 have le:(mS a.2).length≤1000:=by rw[qE];exact l1.2
 refine⟨_,rfl,rfl,_,rfl,qi (fun d=>?_) (fun d=>?_)⟩
 ·have d':a.1=[101,97,99,104]:=(hw _).mp d
  rw[if_pos d']at q1 q2;exact⟨_,rfl,_,rfl,rd le hn (fun x ex v H2 s2 hv=>q1 x ex v H2 (s1.trans s2) hv) fun ex=>(q2 ex).elim⟩
 have d':¬a.1=[101,97,99,104]:=fun h=>d ((hw _).mpr h)
 rw[if_neg d']at q1 q2;refine⟨_,rfl,rfl,_,rfl,qi (fun d=>?_) (fun d=>?_)⟩
 ·have d':a.1=[114,105,115,101]:=(hw _).mp d
  rw[if_pos d']at q1 q2;exact⟨_,rfl,_,rfl,rd le hn (fun x ex v H2 s2 hv=>q1 x ex v H2 (s1.trans s2) hv) fun ex=>(q2 ex).elim⟩
 have d':¬a.1=[114,105,115,101]:=fun h=>d ((hw _).mpr h)
 rw[if_neg d']at q1 q2;exact⟨_,rfl,_,rfl,rd hz hn (fun x ex v H2 s2 hv=>q1 x ex v H2 (s1.trans s2) hv) fun ex=>(q2 ex).elim⟩
end
end LW
namespace L2
open PySem PySem.Spec PySem.Builtin PySem.Builtin.Str PyProof.Rows
variable {pos p:Pos}{k':Nat}{x:Str}{a:Expr}{ta:TE}
section
variable {X:Cx}
theorem yV(x:Str)(w:Nat):∀(cuts:List Nat) (a:Nat),(oH x w a cuts).length=cuts.length+1
 | [],_=>rfl
 | c :: r,a=>by
  show (oH x w (c+w) r).length+1=_;rw[yV x w r (c+w)];rfl
theorem ZJ:∀l:List (Str×Tok),Vals ((l.map (·.1)).map V.str) (strValues l)
 | []=>.nil
 | p :: l=>.cons ⟨p.2,rfl⟩ (ZJ l)
theorem jcL:MtR X "str.split" (fun x xs H Q=>∃z y,x=.str z/\xs=[.str y]/\(y.length == 0)=false/\z.length+2≤au/\∀p,H p=none->Q (.ref p) (upd H p (.lst ((eF z y).map V.str)))):=by
 intro ac s σ H x xs v us Q I rx rs h;obtain⟨z,y,rfl,rfl,hy,hz,q⟩:=h;obtain⟨t,rfl⟩:=rx;obtain⟨u,rfl,t',rfl⟩:=zh rs;have hn:(partsBetween z (occurrences z y 0 z.length (z.length+1)) y.length).length≤au:=by
  rw[StrLaws.partsBetween_eq,yV];have:=StrLaws.occ_length_le z y 0 z.length (z.length+1);omega
 have q1:=q s.heap.objs.size I.fresh;unfold eF at q1;have one:1≤au:=by omega
 cases h1:(decide (z.length < y.length) || decide (strKind z < strKind y))
 ·rw[h1,if_neg aI]at q1
  cases hf:(occurrences z y 0 z.length (z.length+1)).isEmpty
  ·rw[hf,if_neg aI]at q1
   refine cn gB (eo _ _ _) ml (mq _ _) (meets_str_split_sep z y t t' h1 hy hf (by omega) hn) ?_;rw[strsFrom_eq];refine⟨.ref _,_,I.laid (fun _ _ q=>bc _ q) (av _) (show ObjOk X.prog X.w _ _ _ (.lst _) from⟨?_,_,_,?_,bM _ rfl⟩),rfl,q1⟩
   ·rw[ae];exact hn
   ·have:=ZJ (numbered s.toks (partsBetween z (occurrences z y 0 z.length (z.length+1)) y.length))
    rwa [numbered_texts]at this
  ·rw[hf,if_pos rfl]at q1
   refine cn gB (eo _ _ _) ml (mq _ _) (meets_str_split_not_found z y t t' h1 hy hf) ?_;exact⟨.ref _,_,I.laid (t':=s.toks) (fun _ _ q=>bc _ q) (av _) (show ObjOk X.prog X.w _ _ _ (.lst [V.str z]) from⟨one,[Value.str z t],_,.cons ⟨_,rfl⟩ .nil,bM _ rfl⟩),rfl,q1⟩
 ·rw[h1,if_pos rfl]at q1
  refine cn gB (eo _ _ _) ml (mq _ _) (meets_str_split_cannot_occur z y t t' h1) ?_;exact⟨.ref _,_,I.laid (t':=s.toks) (fun _ _ q=>bc _ q) (av _) (show ObjOk X.prog X.w _ _ _ (.lst [V.str z]) from⟨one,[Value.str z t],_,.cons ⟨_,rfl⟩ .nil,bM _ rfl⟩),rfl,q1⟩
def isS(x:Str):Value->Bool
 | .str y _=>y == x
 | _=>false
theorem jew{A:Around}{s:Shared}{x:Str}{u:Tok}:∀{zs:List Str} {us:List Value},Vals (zs.map V.str) us->∀y∈us,bA A s y (.str x u) (isS x y)
 | [],_,r,y,hy=>by cases r;cases hy
 | b :: bs,_,r,y,hy=>by
  rw[aX]at r
  cases r with
  | cons a t=>
   obtain⟨tk,rfl⟩:=a;rcases ak.mp hy with rfl | hy
   ·exact ma (A:=A) (s:=s) b tk x u
   ·exact jew t y hy
theorem ZN{x:Str}:∀{zs:List Str} {us:List Value},Vals (zs.map V.str) us->∀(j:Nat) (h:j < us.length),(zs[j]?).map (fun z=>z == x)=some (isS x us[j])
 | [],_,r,j,h=>by cases r;exact absurd h (iY _)
 | b :: bs,_,r,j,h=>by
  rw[aX]at r
  cases r with
  | cons a t=>
   obtain⟨tk,rfl⟩:=a
   cases j with
   | zero=>rfl
   | succ j=>exact ZN t j (Nat.lt_of_succ_lt_succ h)
theorem jgm:MtR X "list.index" (fun x vs H Q=>∃(l:Addr) (zs:List Str) (z:Str) (j:Nat),x=.ref l/\vs=[.str z]/\H l=some (.lst (zs.map V.str))/\zs[j]?=some z/\(∀m < j,zs[m]?≠some z)/\j < 1000/\Q (.int (j:Nat)) H):=by
 intro ac s σ H x xs v us Q I rx rs h;obtain⟨l,zs,z,j,rfl,rfl,hH,h1,h2,h3,q⟩:=h
 cases rx
 obtain⟨u,rfl,tk,rfl⟩:=zh rs;obtain⟨_,its,n,r,hl,e⟩:=I.lstM hH;have hlen:its.length=zs.length:=by rw[← r.length,ae]
 have hj:j < its.length:=by rw[hlen];exact (bx.mp h1).1
 have hj63:(j:Int) < 2 ^ 63 - 1:=Int.lt_trans (show (j:Int) < 1000 by omega) (by decide);refine cn F.slot_list_index ⟨_,e,rfl⟩ F.entry_list_index (F.args_list_index_2 _ _) (SeqAt.list_indexAt l its.toArray n _ _ (.str z tk) (isS z) j (by simpa using hj) hj63 ?_ fun m hm hmj=>?_) ⟨e,fun y hy=>jew r y (by simpa using hy),?_⟩
 ·have:=ZN (x:=z) r j hj
  rw[h1]at this;simp at this;simpa using this.symm
 ·have hm':m < its.length:=by simpa using hm
  have:=ZN (x:=z) r m hm';have hz:m < zs.length:=by omega
  rw[aE hz]at this;have hn:zs[m]≠z:=fun e=>h2 m hmj (by rw[aE hz,e])
  have hb:(zs[m] == z)=false:=beq_eq_false_iff_ne.mpr hn;simp[hb]at this;simpa using this.symm
 ·exact⟨.int (j:Nat),H,I.tok _,⟨_,rfl⟩,q⟩
structure KDict(K:ah)(w:World)(a:Addr)(f:Str->Option V):Prop where
 ex:∃es n,K.lookup a=some ⟨.type "dict",none,.dict es n,#[]⟩/\oB w.params es.toList/\(a == cb)=false/\∀x,RelO (f x) (findBy gr es x)
theorem jlA:OpR X (bK .In) (fun x y H Q=>∃z a f,x=.str z/\y=.ref a/\KDict X.K X.w a f/\Q (.bl (f z).isSome) H):=by
 intro ac s σ H x y v u Q I rx ry h;obtain⟨z,a,f,rfl,rfl,⟨es,n,hl,hk,lo,hf⟩,q⟩:=h;obtain⟨t,rfl⟩:=rx
 cases (show u=Value.ref a from ry)
 refine PySem.wpAny_in_of (strKind_is X.prog X.w z t) lo (W.mapOf_K (prog:=X.prog) I.kIn hl hk) ?_;rw[← (hf z).isSome_eq];exact⟨.bl _,H,I.tok _,rfl,q⟩
def jkI(K:ah)(w:World)(ta ti:TE):TE:=fun σ H Q=>ta σ H fun x H1=>ti σ H1 fun y H2=>∃z a f v,x=.ref a/\y=.str z/\KDict K w a f/\f z=some v/\Q v H2
theorem jjP{o i:Expr}{td ty:TE}(ho:PE X o td)(hi:PE X i ty)(hs:jje i):PE X (.Subscript o i pos) (jkI X.K X.w td ty):=by
 intro ac s σ H Q I h;refine jev pw.lookup hs (thn (ho ac s σ H _ I h) fun u s1 ⟨x,H1,I1,rx,q1⟩=>thn (hi ac s1 σ H1 _ I1 q1) fun iv s2 ⟨y,H2,I2,ry,z,a,f,v,ex,ey,⟨es,n,hl,hk,lo,hf⟩,e,q2⟩=>?_);subst ex ey;obtain rfl:u=Value.ref a:=rx;obtain⟨t,rfl⟩:=ry;have hm:=W.mapOf_K (w:=X.w) (prog:=X.prog) I2.kIn hl hk;have hz:=hf z;rw[e]at hz;obtain⟨w',hw,rw'⟩:=RelO.some_of hz;exact⟨hm.typeIs,PySem.wpAny_getItem_of (strKind_is X.prog X.w z t) hm hw ⟨v,H2,I2.tok _,rw',q2⟩⟩
def jmj(P:Program)(w:World)(K:ah)(mg:Str->Option Value)(base:Heap)(k' i:Nat)(t:TA):TE:=fun σ H Q=>∃f,σ[i]?=some (some (.ref f))/\∃fd k ps sp,FnOk P w K mg base CX0 k f fd ps sp/\k≤k'/\Binds K fd ps []/\bO K (.ref f)=true/\t σ H fun vs H1=>sp (vs++[]) H1 Q E0
theorem jlv{i:Nat}{e:Expr}{es:List Expr}{t:TA}(hr:Room k' X.A)(hx:PE X (.Name x p) (jbk i))(ha:PA X (e :: es) t)(hp:(e :: es).all zf=true:=by rfl):PE X (.Call (.Name x p) (e :: es) [] pos) (jmj X.prog X.w X.K X.mg X.base k' i t):=by
 intro ac s σ H Q I h;obtain⟨f,ef,fd,k,ps,sp,F,hk,hb,kp,h⟩:=h;rw[dQ,bg]at hp;refine d_ (thn (hx ac s σ H (fun v H1=>v=.ref f/\H1=H) I ⟨_,ef,rfl,rfl⟩) fun u s1 ⟨v,H1,I1,rv,e1,e2⟩=>?_);subst e1 e2
 cases (show u=Value.ref f from rv)
 refine W.callWith_K (h₀:=X.base) I1.ok.mod.kin kp (thn (ha pos ac s1 σ H1 _ I1 h) fun us s2 ⟨vs,H2,I2,r,q⟩=>⟨I2.kIn,?_⟩) (yq hp.1 es X.env) (YW pos X.env es hp.2);exact jdB F (hr.mono hk) hb .nil jcC I2 r q
theorem jgT{o i:Expr}{td ty:TE}(ho:QE X o td)(hi:QE X i ty)(hs:jje i:=by exact fun _ _=>rfl):QE X (.Subscript o i pos) (jkI X.K X.w td ty):=⟨jjP ho.h hi.h hs⟩
theorem jji{i:Nat}{e:Expr}{es:List Expr}{t:TA}(hr:Room k' X.A)(hx:QE X (.Name x p) (jbk i))(ha:QA X (e :: es) t)(hp:(e :: es).all zf=true:=by rfl):QE X (.Call (.Name x p) (e :: es) [] pos) (jmj X.prog X.w X.K X.mg X.base k' i t):=⟨jlv hr hx.h ha.h hp⟩
def jkH(K:ah)(ta:TE):TE:=fun σ H Q=>ta σ H fun x H1=>∃k,jgM K x H1 k/\Q (.bl (!k)) H1
theorem jjN(ha:PE X a ta):PE X (.UnaryOp .Not a pos) (jkH X.K ta):=by
 intro ac s σ H Q I h;exact UnaryOp_ (thn (ha ac s σ H _ I h) fun v s1 ⟨x,H1,I1,r1,k,e,q⟩=>not_of (thn (jgX ac s1 σ H1 x v (fun k H=>Q (.bl (!k)) H) I1 r1 ⟨k,e,q⟩) fun c s2 ⟨H2,I2,q2⟩=>⟨.bl (!c),H2,I2,rfl,q2⟩))
theorem JE(ha:QE X a ta):QE X (.UnaryOp .Not a pos) (jkH X.K ta):=⟨jjN ha.h⟩
def jmd(K:ah)(ta:TE):TT:=fun σ H Q=>ta σ H fun x H'=>∃k,jgM K x H' k/\Q k H'
theorem jcb(ha:QE X a ta)(he:∀whole,isTrue a X.env whole=(do let v ← whole;gn a.pos;holding [v] (truthy v)):=by intro _;rfl):QT X a (jmd X.K ta):=⟨jhm ha.h he⟩
theorem jjm{K:ah}{H:Hp}{a:Addr}{xs:List V}(h:H a=some (.lst xs)):jgM K (.ref a) H (!xs.isEmpty):=.inl ⟨xs,SqL.of h,rfl⟩
theorem jjh{k:Nat}{C:Addr}{ps:List Str}{sp:Sp}(F:MkFn X.prog X.w X.K X.mg X.base k x C ps sp)(hr:Room k' X.A)(hk:k+1≤k':=by decide)(hg:Gl X x:=by rfl)(hd:(x == ("__debug__" : Str))=false:=by decide):QE X (.Call (.Name x p) [] [] pos) (jci C sp [] E0 jch):=by
 obtain⟨f,fd,M,G,b,m⟩:=F.ex;exact⟨jhD M G (hr.mono hk) hg m b .nil jcC hd⟩
end
open PySem PySem.Builtin PySem.Builtin.Str PySem.StrLaws PyProof.Rows
def ye(c:Nat):List (List Nat)->List Nat
 | []=>[]
 | [r]=>r
 | r :: s :: t=>r++c :: ye c (s :: t)
theorem YO{y:Str}{c:Nat}(hy:cd y=[c]):∀R:List Str,cd (bz y R)=ye c (R.map cd)
 | []=>rfl
 | [r]=>rfl
 | r :: s :: t=>by
  show cd (r++y++bz y (s :: t))=_;rw[jY,jY,hy,YO hy (s :: t),aG];rfl
theorem jap(c:Nat):∀{R:List (List Nat)},R≠[]->(ye c R).count c+1=(R.map (List.count c)).sum+R.length
 | [],h=>absurd rfl h
 | [r],_=>by simp[ye]
 | r :: s :: t,_=>by
  have ih:=jap c (R:=s :: t) (by simp);show (r++c :: ye c (s :: t)).count c+1=_;rw[List.count_append,List.count_cons_self];simp only[aX,i4,aw]at ih ⊢;omega
theorem jcW(c:Nat):∀{R S:List (List Nat)},R≠[]->S≠[]->(∀r∈R,c ∉ r)->(∀r∈S,c ∉ r)->ye c R=ye c S->R=S
 | [],_,h,_,_,_,_=>absurd rfl h
 | _,[],_,h,_,_,_=>absurd rfl h
 | [r],[s],_,_,_,_,e=>by rw[show r=s from e]
 | [r],s :: t :: u,_,_,hR,_,e=>by
  have e:r=s++c :: ye c (t :: u):=e;exact absurd (by rw[e];simp) (hR r (aJ.mpr rfl))
 | r :: s :: t,[u],_,_,_,hS,e=>by
  have e:r++c :: ye c (s :: t)=u:=e;exact absurd (by rw[← e];simp) (hS u (aJ.mpr rfl))
 | r :: s :: t,u :: v :: w,_,_,hR,hS,e=>by
  have e:r++c :: ye c (s :: t)=u++c :: ye c (v :: w):=e;have hr:=hR r (am ..);have hu:=hS u (am ..);have key:r=u/\ye c (s :: t)=ye c (v :: w):=by
   rcases rX.mp e with⟨a,e1,e2⟩ | ⟨a,e1,e2⟩
   ·cases a with
    | nil=>rw[bF]at e1;exact⟨e1.symm,(eR e2).2⟩
    | cons z a=>exact absurd (by rw[e1,← (eR e2).1];simp) hu
   ·cases a with
    | nil=>rw[bF]at e1;exact⟨e1,(eR e2).2.symm⟩
    | cons z a=>exact absurd (by rw[e1,← (eR e2).1];simp) hr
  rw[key.1,jcW c (by simp) (by simp) (fun x hx=>hR x (ao _ hx)) (fun x hx=>hS x (ao _ hx)) key.2]
theorem jip:∀{R S:List Str},R.map cd=S.map cd->R=S
 | [],[],_=>rfl
 | [],_ :: _,h=>by cases h
 | _ :: _,[],h=>by cases h
 | r :: R,s :: S,h=>by
  obtain⟨h1,h2⟩:=eR h;rw[Kl h1,jip h2]
theorem Y3(s sub:Str)(hi limit c:Nat)(hc:cd sub=[c])(hh:hi=s.length):∀(l:List Nat) (st:Array Nat×Nat),l.Pairwise (· < ·)->(∀i∈l,st.snd≤i)->st.fst.size+l.length≤limit->
  (forIn l st (fv s sub hi limit)).run.fst.size=st.fst.size+(l.filter fun i=>(cd s)[i]? == some c).length
 | [],st,_,_,_=>rfl
 | a :: l,st,hp,hf,hz=>by
  have hp':=rC.mp hp;have hl:sub.length=1:=by rw[← j3,hc];rfl
  rw[k_];rw[aw]at hz;have hat:(a+sub.length≤hi/\subAt s sub a=true)↔(cd s)[a]?=some c:=by
   rw[hh,Kn (by rw[hc];simp),hc];constructor
   ·rintro⟨t,e⟩
    have:((cd s).drop a)[0]?=some c:=by rw[← e];rfl
    rwa [rQ,mN]at this
   ·intro e
    have h2:((cd s).drop a)[0]?=some c:=by rw[rQ,mN];exact e
    cases hd:(cd s).drop a with
    | nil=>rw[hd]at h2;cases h2
    | cons x t=>rw[hd]at h2;cases h2;exact⟨t,rfl⟩
  unfold fv;by_cases h:(cd s)[a]?=some c
  ·rw[if_pos ⟨⟨⟨by omega,hf a (am ..)⟩,(hat.mpr h).1⟩,(hat.mpr h).2⟩]
   refine (Y3 s sub hi limit c hc hh l _ hp'.2 (fun i hi'=>?_) (by simp only[sw];omega)).trans ?_
   ·have:=hp'.1 i hi'
    show a+sub.length≤i;omega
   ·rw[ge,if_pos (by rw[h];exact beq_self_eq_true _),aw]
    show (st.fst.push a).size+_=_;rw[sw];omega
  ·rw[if_neg (fun z=>h (hat.mp ⟨z.1.2,z.2⟩))]
   refine (Y3 s sub hi limit c hc hh l _ hp'.2 (fun i hi'=>hf i (ao _ hi')) (by show st.fst.size+l.length≤limit;omega)).trans ?_;rw[ge,if_neg (by simpa using h)]
theorem Zm(c:Nat):∀(l:List Nat) (k:Nat),((mP k l.length).filter fun i=>l[i - k]? == some c).length=l.count c
 | [],_=>rfl
 | x :: l,k=>by
  have ih:=Zm c l (k+1);rw[aw,List.range'_succ,ge,List.count_cons];have e:((mP (k+1) l.length).filter fun i=>(x :: l)[i - k]? == some c)=((mP (k+1) l.length).filter fun i=>l[i - (k+1)]? == some c):=by
   refine List.filter_congr fun i hi=>?_
   obtain⟨j,hj,rfl⟩:=rD.mp hi;rw[show k+1+1 * j - k=j+1 by omega,show k+1+1 * j - (k+1)=j by omega];rfl
  rw[e,Nat.sub_self];by_cases hx:x=c
  ·subst hx
   rw[if_pos (by simp),aw,ih];simp
  ·rw[if_neg (by simpa using hx),ih]
   simp[hx]
variable {y:Str}{c:Nat}
theorem Y4(hy:cd y=[c]):(occurrences x y 0 x.length (x.length+1)).length=(cd x).count c:=by
 rw[occ_eq,gg,Y3 x y x.length (x.length+1) c hy rfl _ _ (by simpa using rB (s:=0) (n:=x.length+1 - 0)) (fun _ _=>bm _) (by simp)];have h:=Zm c (cd x) 0;rw[← h,j3];show 0+_=_;rw[pZ,gJ,List.range'_concat,rS,af];have e:([0+1 * x.length].filter fun i=>(cd x)[i]? == some c).length=0:=by
  rw[ge,if_neg (by rw[List.getElem?_eq_none (by rw[j3];omega)];simp)];rfl
 rw[e];rfl
theorem jfO(hy:cd y=[c]):(eF x y).length=(cd x).count c+1:=by
 unfold eF;have hl:y.length=1:=by rw[← j3,hy];rfl
 split
 ·rename_i h
  rw[so,decide_eq_true_eq,decide_eq_true_eq]at h;have h0:(cd x).count c=0:=by
   rw[← Y4 hy]
   cases e:occurrences x y 0 x.length (x.length+1) with
   | nil=>rfl
   | cons i r=>
    exfalso;obtain⟨f,hf⟩:=occ_chain x y (x.length+1);rw[e]at hf;have hA:=hf.2.1;rcases h with h | h
    ·have:=hA.1
     omega
    ·exact absurd (W.kind_le x y hA.2) (by omega)
  rw[h0];rfl
 split
 ·rename_i h
  have h0:(cd x).count c=0:=by rw[← Y4 hy,List.isEmpty_iff.mp h];rfl
  rw[h0];rfl
 ·rw[partsBetween_eq,yV,Y4 hy]
theorem ZO(hy:cd y=[c]){R:List Str}(hR:R≠[])(hc:∀r∈R,c ∉ cd r):eF (bz y R) y=R:=by
 have hj:=PySem.StrLaws.join_split (bz y R) y;have hl:=jfO (x:=bz y R) hy;generalize eF (bz y R) y=S at *;have hS:S≠[]:=fun z=>by rw[z]at hl;cases hl
 have e:=congrArg cd hj;rw[YO hy,YO hy]at e;have h1:=jap c (R:=S.map cd) (by simpa using hS);rw[e]at h1;have h2:(cd (bz y R)).count c+1=S.length:=hl.symm;rw[YO hy]at h2;rw[ae]at h1;have h0:((S.map cd).map (List.count c)).sum=0:=by omega
 have hz:∀r∈S.map cd,c ∉ r:=fun r hr=>by
  have:=List.sum_eq_zero_iff_forall_eq_nat.mp h0 (r.count c) (List.mem_map_of_mem hr);exact List.count_eq_zero.mp this
 have:=jcW c (by simpa using hS) (by simpa using hR) hz (fun r hr=>by obtain⟨s,hs,rfl⟩:=b_.mp hr;exact hc s hs) e;exact jip this
end L2
namespace PySem
open AutoSeq1 (wpAny_loadPart')
theorem Ke(l:Addr)(items:Array Value)(n:Nat)(dct:Option Addr)(sl:Array (Option Value))(t:Tok):
  Meets (Builtin.«enumerate.__new__» ⟨[.type "enumerate",.ref l],[("start",.int 1 t)]⟩) (fun _ R s=>s.heap.get? l=some { cls:=.type "list",dict:=dct,data:=.seq items n,slots:=sl }/\
   R (.ok (.ret (.ref (s.heap.push { cls:=.type "list_iterator",data:=.fields #[.ref l,.int 0 0] }).objs.size)))
    { s with heap:=(s.heap.push { cls:=.type "list_iterator",data:=.fields #[.ref l,.int 0 0] }).push { cls:=.type "enumerate",data:=.fields #[.none,.bool false,.ref s.heap.objs.size,fU 1,.none,.none] } }):=
 .of_wp fun prog w A R s h=>by
  obtain⟨hp,g,d,tk,os⟩:=s;obtain⟨hl,h⟩:=h;have hsub:=sub_enumerate;have hL:Heap.IsList (Shared.heap ⟨hp,g,d,tk,os⟩) l items:=⟨_,hl,rfl,n,rfl⟩
  wp_walk using wpAny_loadPart' hl;refine wpAny_stack_any fun st=>aL ?_
  split
  ·rename_i c _ _ _ _ _
   cases (c == Value.type "enumerate")
   ·wp_walk using wpAny_loadPart' hl,gk hL
    exact⟨_,rfl,h⟩
   ·wp_walk using wpAny_loadPart' hl,gk hL
    exact⟨_,rfl,h⟩
  ·wp_walk using wpAny_loadPart' hl,gk hL
   exact⟨_,rfl,h⟩
variable {l:Addr}{items:Array Value}
section
variable {prog:Program}{w:World}{A:Around}{E:Value->Shared->Prop}{s:Shared}
theorem Zp{T newId initId:String}{Bn Bi:Builtin}{args:List Value}{kw:List (Str×Value)}{S:Spec}{Q Q₁:Value->Shared->Prop}(ft:TypeCalled T newId initId)
  (hct:checkTypeCall T ⟨args,kw⟩=pure ()) (hcn:checkBuiltinCall newId ⟨.type T :: args,kw⟩=pure ())
  (entryN:entryFor table newId=some Bn) (entryI:entryFor table initId=some Bi) (g:Meets (Bn ⟨.type T :: args,kw⟩) S)
  (h:S A.in1 (wants Q₁ E) s)
  (hnext:∀obj s₁,Q₁ obj s₁->s₁.TypeIs obj T/\argsOk initId ⟨obj :: args,kw⟩/\∃Si,Meets (Bi ⟨obj :: args,kw⟩) Si/\Si A.in1 (wants (fun r s₂=>r=.none/\Q obj s₂) E) s₁) :
  wpAny (model prog w) A (call (.type T) args kw) Q E s:=by
 obtain⟨c,tl,hmro⟩:=ft.mro
 have hmade:=ft.made
 have hsub:=ft.sub
 refine lu (codeAny_of_tree ?_)
 show wpAny _ _ (callAny (.type T) _) _ _ _
 refine aL ⟨Code.quiet_builtin _ (by decide +kernel),codeAny_builtin F.entry_type_call ?_⟩
 rw[Around.under_plain (weight_type_call_type T args kw) (units_type_call_type T args kw)]
 have h1:=ft.notType
 have h2:=ft.canCreate
 repeat (any_goals (first | assumption | wp_step))
 refine fV (nZ ft.plain entryN (wpAny_of_eq hcn (g prog w A.in1 _ s h))) fun r s₁ hr=>?_
 cases r with
 | error e=>exact hr
 | ok fl=>
  cases fl with
  | ret obj=>
   obtain⟨hT,hok,Si,gi,hsi⟩:=hnext _ _ hr
   have hli:=ft.init.lookup
   have hbi:=ft.init.bind obj
   repeat (any_goals (first | assumption | wp_step))
   refine fV (nZ ft.init.plain entryI (ft.init.check _ _ _ _ _ _ _ _ hT hok (gi prog w A.in1 _ s₁ hsi))) fun r₂ s₂ hr₂=>?_
   cases r₂ with
   | error e=>exact hr₂
   | ok fl₂=>
    cases fl₂ with
    | ret r=>
     obtain⟨rfl,hq⟩:=hr₂
     repeat (any_goals (first | assumption | wp_step))
    | _=>exact hr₂.elim
  | _=>exact hr.elim
theorem Ya{T newId:String}{self a:Value}{qW:List Value}{kw:List (Str×Value)}(hl:lC (.type T) "__init__" = pure (some (.builtin "object.__init__")))
  (hm:Bind.madeBy (.type T)=pure (some newId)) (hne:(some newId != some "object.__new__")=true) :
  Meets (Builtin.«object.__init__» ⟨self :: a :: qW,kw⟩) (fun _ R s=>s.TypeIs self T/\R (.ok (.ret .none)) s):=by
 refine Meets.of_wp fun prog w A R s hs=>?_
 obtain⟨hT,hq⟩:=hs
 repeat (any_goals (first | assumption | wp_step))
 exact⟨_,rfl,hq⟩
theorem jea{t:Tok}{Q:Value->Shared->Prop}(hL:s.heap.IsList l items)
  (h:∀h',cK h' (s.heap.objs.size+1) s.heap.objs.size ((1:Nat):Int) .none->h'.IsListIter s.heap.objs.size l 0->h'.objs.size=s.heap.objs.size+2->
   (∀b o,s.heap.get? b=some o->h'.get? b=some o)->Q (.ref (s.heap.objs.size+1)) { s with heap:=h' }) :
  wpAny (model prog w) A (call (.type "enumerate") [.ref l] [("start",.int 1 t)]) Q E s:=by
 obtain⟨⟨c,dct,dt,sl⟩,hl,hc,n,hd⟩:=hL
 replace hc:c=.type "list":=hc
 replace hd:dt=.seq items n:=hd
 subst hc hd
 refine Zp (initId:="object.__init__") (Bi:=Builtin.«object.__init__») (Q₁:=fun obj s₁=>s₁.TypeIs obj "enumerate"/\Q obj s₁) mn (by kernel_rfl) (by kernel_rfl) F.entry_enumerate_new F.entry_object_init (Ke l items n dct sl t) ⟨hl,?_⟩ fun obj _ hq=>⟨hq.1,?_,_,Ya mn.init.lookup mn.made (by decide),hq.1,rfl,hq.2⟩
 ·have hz:(s.heap.push { cls:=.type "list_iterator",data:=.fields #[.ref l,.int 0 0] }).objs.size=s.heap.objs.size+1:=fC ..
  show _/\_
  rw[hz]
  have he:cK ((s.heap.push { cls:=.type "list_iterator",data:=.fields #[.ref l,.int 0 0] }).push { cls:=.type "enumerate",data:=.fields #[.none,.bool false,.ref s.heap.objs.size,fU 1,.none,.none] }) (s.heap.objs.size+1) s.heap.objs.size ((1:Nat):Int) .none:=by
   have:=bM (s.heap.push { cls:=.type "list_iterator",data:=.fields #[.ref l,.int 0 0] }) (o:={ cls:=.type "enumerate",data:=.fields #[.none,.bool false,.ref s.heap.objs.size,fU 1,.none,.none] }) rfl;rw[hz]at this;exact this
  exact⟨⟨_,he,rfl⟩,h _ he ⟨_,bc _ (bM _ rfl),rfl,rfl⟩ (by rw[fC,hz]) fun b o x=>bc _ (bc _ x)⟩
 ·unfold argsOk;rw[signature?_of (id:="object.__init__") (n:=['_','_','t','i','n','i','_','_']) (o:=['t','c','e','j','b','o']) (by kernel_rfl) F.owner_object];kernel_rfl
theorem jd9{e it:Addr}{i j:Nat}{x old:Value}{Q:Option Value->Shared->Prop}
  (he:cK s.heap e it j old) (hit:s.heap.IsListIter it l i) (hl:s.heap.IsList l items) (hx:items[i]?=some x) (hne:e≠it)
  (hQ:∀h',iP h' e it ((j:Int)+1) x s.heap.objs.size->h'.IsListIter it l (i+1)->h'.get? s.heap.objs.size=some { cls:=.type "tuple",data:=.seq #[.int j s.toks,x] }->h'.objs.size=s.heap.objs.size+1->
   (∀b o,b≠e->b≠it->s.heap.get? b=some o->h'.get? b=some o)->Q (some (.ref s.heap.objs.size)) { s with heap:=h',toks:=s.toks+1 }):wpAny (model prog w) A (fg (.ref e)) Q E s:=by
 have hT:s.TypeIs (.ref e) "enumerate":=⟨_,he,rfl⟩
 unfold fg
 refine az (wpAny_attempt (lq (name:=aa "__next__") hT iR (ln iR hT pz ?_ (pA _))))
 exact jgA (St:=fun h=>h.IsListIter it l (i+1)) he hne (fun Q' k=>wpAny_nextOf_list_item hit hl hx k) (fun h h' st k=>by
  obtain⟨o,h1,h2,h3⟩:=st;exact⟨o,k o h1,h2,h3⟩) fun h' a b c d k=>aL (hQ h' a b c d k)
theorem jgB{e it:Addr}{i j:Nat}{old:Value}{Q:Option Value->Shared->Prop}(hh:A.handled=none)
  (he:cK s.heap e it j old) (hit:s.heap.IsListIter it l i) (hl:s.heap.IsList l items) (hx:items[i]?=none)
  (hQ:∀h',Heap.ExtBut it s.heap h'->Q none { s with heap:=h' }):wpAny (model prog w) A (fg (.ref e)) Q E s:=by
 have hT:s.TypeIs (.ref e) "enumerate":=⟨_,he,rfl⟩
 unfold fg
 refine az (wpAny_attempt (lq (name:=aa "__next__") hT iR (ln iR hT pz ?_ (pA _))))
 show wpAny _ _ (field (.ref e) 2 >>= _) _ _ _
 refine az (dy he rfl (x:=.ref it) rfl ?_)
 refine az (wpAny_nextOf_list_end hh hit hl hx fun h' x he' hx'=>?_)
 obtain⟨o,ho,hc⟩:=hx'
 refine az (wpAny_isInstance (T:="StopIteration") (b:=true) ⟨o,ho,hc⟩ isSubtype_stop ?_)
 exact aL (hQ _ he')
end
end PySem
namespace L2
open PySem PySem.Spec PyProof.Rows
def jjf(K:ah)(l:Addr):It:=
 ⟨fun i H=>∃xs x,SqL K H l xs/\xs[i]?=some x,fun i H x H'=>∃t y,H t=none/\(∀xs,SqL K H l xs->xs[i]?=some y)/\x=.ref t/\H'=upd H t (.tup [.int ((i+1:Nat)),y]),fun i H=>∃xs,SqL K H l xs/\xs.length≤i⟩
theorem jdm{P:Program}{w:World}{K:ah}{elts:List Expr}{x1:Nat}{tp:Pos}(l e it:Addr)(hne:e≠it):Turn P w K (.Tuple elts x1 tp) (jjf K l) [e,it] e (fun i h=>(∃old,cK h e it ((i+1:Nat)) old)/\h.IsListIter it l i) where
 mem:=by simp
 obj:=fun i h st b hb=>by
  obtain⟨⟨old,h1⟩,o,e2,c,d⟩:=st;rcases ak.mp hb with rfl | hb
  ·exact⟨_,h1,fun v z=>by cases z⟩
  ·rw[aJ.mp hb]
   exact⟨o,e2,fun v z=>by rw[d]at z;cases z⟩
 keep:=fun i h h' st k=>by
  obtain⟨⟨old,h1⟩,o,e2,c,d⟩:=st;exact⟨⟨old,k e (by simp) _ h1⟩,o,k it (by simp) o e2,c,d⟩
 item:=by
  intro X hP hw hK hc i ac s σ H E I hf st hg;subst hP hw hK;obtain⟨xs,x,hq,hx⟩:=hg;obtain⟨⟨old,hE⟩,hit⟩:=st;obtain⟨its,rv,p,hz⟩:=I.list hq;obtain⟨u,hu,ru⟩:=rv.get hx;obtain⟨a0,a1,a2,a3,a4,a5⟩:=hf e (by simp);obtain⟨f0,f1,f2,f3,f4,f5⟩:=hf it (by simp);refine jd9 hE hit p.isList (x:=u) (by simpa using hu) hne fun h' o1 o2 o3 o4 o5=>?_
  refine⟨_,rfl,wpAny_letOwnedTupleGo_enum (s:={ s with heap:=h',toks:=s.toks+1 }) o1 fun h2 g1 g2=>?_⟩;have hfr:H s.heap.objs.size=none:=I.hok.fresh (av _);have kp:∀b o,b≠e->b≠it->s.heap.get? b=some o->h2.get? b=some o:=fun b o hb hb' q=>(g2.2 b hb).trans (o5 b o hb hb' q)
  have nt:∀b o,s.heap.get? b=some o->b≠s.heap.objs.size:=fun b o q=>bp (aM q)
  have ne:∀b z,H b=some z->b≠e/\b≠it:=fun b z q=>⟨fun t=>(by rw[t,a0]at q;cases q),fun t=>(by rw[t,f0]at q;cases q)⟩
  have het:s.heap.objs.size≠e:=fun z=>absurd (aM hE) (by rw[← z];exact fG _)
  have I1:Inv X ac σ (upd H s.heap.objs.size (.tup [.int ((i+1:Nat)),x])) { s with heap:=h2,gens:=s.gens,drawn:=s.drawn,toks:=s.toks+1 }:=by
   refine I.step (g':=s.gens) (d':=s.drawn) (ch:=[e,it]) (fun b hb=>?_) (fun b o _ _ hc' q _=>kp b o (fun z=>hc' (by simp[z])) (fun z=>hc' (by simp[z])) q) (fun b o _ _ hc' q _=>⟨o.slots,kp b o (fun z=>hc' (by simp[z])) (fun z=>hc' (by simp[z])) q⟩)
    (fun b o _ q n=>by rw[js (nt b o q)];exact n) (fun b o hc' q=>⟨o,kp b o (fun z=>hc' (by simp[z])) (fun z=>hc' (by simp[z])) q⟩) (fun b ys q=>by rw[js (jl q hfr)];exact q) (fun b o z q=>by rw[js (jl q hfr)];exact q)
    (fun b ps q=>⟨#[],by rw[js (jl q hfr),q];simp⟩) (fun m hm=>?_) (fun b z q=>?_) I.bare
   ·rcases ak.mp hb with rfl | hb
    ·exact⟨a3,a1,a4,a5⟩
    ·rw[aJ.mp hb];exact⟨f3,f1,f4,f5⟩
   ·obtain⟨o,es,ep,ho,r⟩:=hm
    exact⟨o,es,ep,kp _ o (bH a1) (bH f1) ho,r⟩
   ·by_cases hb:b=s.heap.objs.size
    ·subst hb
     rw[jc]at q
     cases q
     refine⟨?_,[Value.int ((i+1:Nat):Int) s.toks,u],.cons ⟨_,rfl⟩ (.cons ru .nil),_,(g2.2 _ het).trans o3,rfl,0,rfl⟩;show 2≤au;rw[fT];decide
    ·rw[js hb]at q
     refine (I.hok b z q).stay (fun c v hc' q'=>?_) (fun c q'=>by rw[js (jl q' hfr)];exact q') fun c ys q'=>by rw[js (jl q' hfr)];exact q'
     rcases hc' with rfl | hc'
     ·exact kp c v (ne c z q).1 (ne c z q).2 q'
     ·exact kp c v (ne c _ hc').1 (ne c _ hc').2 q'
  refine⟨.ref s.heap.objs.size,_,I1,rfl,⟨_,x,hfr,fun ys hy=>by rw[I.list_inj hy hq];exact hx,rfl,rfl⟩,⟨⟨_,g1⟩,?_⟩,fun b hb=>?_⟩
  ·obtain⟨o,z1,z2,z3⟩:=o2
   exact⟨o,(g2.2 it (bH hne)).trans z1,z2,z3⟩
  ·rcases ak.mp hb with rfl | hb
   ·rw[js (bH het)];exact a0
   ·rw[aJ.mp hb]
    have:it≠s.heap.objs.size:=by
     obtain⟨o,z1,_⟩:=hit;exact nt it o z1
    rw[js this];exact f0
 done:=by
  intro X hP hw hK hc i ac s σ H E I hf st hg;subst hP hw hK;obtain⟨xs,hq,hx⟩:=hg;obtain⟨⟨old,hE⟩,hit⟩:=st;obtain⟨its,rv,p,hz⟩:=I.list hq;obtain⟨f0,f1,f2,f3,f4,f5⟩:=hf it (by simp);have hl:=rv.length;exact jgB (I.ok.hd hc) hE hit p.isList (by simp;omega) fun h' eb=>⟨rfl,I.turned (t':=s.toks) (fun b o hb e=>eb b o hb e) f0 f1 f3 f4 f5⟩
 self:=fun _ _ _ _ _ st h=>by
  obtain⟨⟨old,hE⟩,_⟩:=st;exact nh hE h
variable {pos:Pos}
section
variable {X:Cx}{elts:List Expr}{x1:Nat}{tp:Pos}
def jiC(K:ah)(ta:TA):TI:=fun σ H R=>ta σ H fun vs H1=>∃l,vs=[.ref l]/\(∃xs,SqL K H1 l xs)/\R (jjf K l) H1
theorem jau{M:Model}{A:Around}{E:Value->Shared->Prop}{s:Shared}{T:String}{first:List Value}{args:List (Bool×Sem Value)}{keywords:List (Option Str×Sem Value)}{Q:Value->Shared->Prop}
  (hplain:args.any (·.1)=false) (hkw:keywords.any (·.1.isNone)=false)
  (h:wpAny M A (evalArgs (.type T) true args keywords) (fun a s₁=>wpAny M A (call (.type T) (first++a.pos) a.kw) Q E s₁) E s) :
  wpAny M A (callWith pos (.type T) first args keywords) Q E s:=by
 unfold callWith
 refine az (fR (bU h (fun a s₁ h₁=>az (iz ?_)) fun _ _ x=>x))
 simp only[hplain,hkw,sn]
 refine az (aL ?_)
 exact az (bU h₁ (fun r s₂ hr=>az (fR (wpAny_point (aL hr)))) fun _ _ x=>x)
theorem jhy{a:Expr}{c:Const}{kn:Nat}{kp cp:Pos}{ta:TA}{p:Pos}(hg:Gl X "enumerate")(hm:X.mg "enumerate" = none)(ha:PA X [a] ta)(hv:PE X (.Constant c kn cp) (tC (.int 1)))(hs:aK [a] X.env=[(false,eval a X.env)]:=by rfl):PI X (.Tuple elts x1 tp) (.Call (.Name "enumerate" p) [a] [⟨some "start",.Constant c kn cp,kp⟩] pos) (jiC X.K ta):=by
 intro ac s σ H R I h;refine d_ (jaf I hg hm jb6 ?_);refine jau (by rw[hs];rfl) rfl ?_;have ha':=ha pos ac s σ H _ I h;rw[hs]at ha' ⊢;refine evalArgs_kwB rfl (thn ha' fun us s1 ⟨vs,H1,I1,r1,q1⟩=>?_);obtain⟨l,e,⟨xs,hq⟩,q⟩:=q1;subst e;obtain⟨u,rfl,rx⟩:=zh r1
 cases rx
 refine kws_cons (thn (hv ac s1 σ H1 (fun v H2=>v=.int 1/\H2=H1) I1 ⟨rfl,rfl⟩) fun kv s2 ⟨v,H2,I2,rv,e1,e2⟩=>kws_nil ?_);subst e1 e2;obtain⟨tk,rfl⟩:=rv;obtain⟨its,rv,pl,hz⟩:=I2.list hq;refine jea (t:=tk) pl.isList fun h' g1 g2 g3 g4=>?_
 refine nh (s:={ s2 with heap:=h' }) g1 ?_;have I3:Inv X ac σ H2 { s2 with heap:=h' }:=I2.kept (t':=s2.toks) g4;refine⟨s2.heap.objs.size+1,[s2.heap.objs.size+1,s2.heap.objs.size],_,_,_,rfl,I3,jdm l _ _ (Nat.succ_ne_self _),⟨⟨_,g1⟩,g2⟩,fun b hb=>?_,q⟩;rcases ak.mp hb with rfl | hb
 ·exact I2.fpOk (eN _) (I2.hok.fresh (eN _))
 ·rw[aJ.mp hb]
  exact I2.fpOk (av _) (I2.hok.fresh (av _))
theorem jgx{K:ah}{l:Addr}{xs:List V}{g:TG}{tb:TS}{D:Ends}{σ:St}{H:Hp}(Pv:Nat->St->Hp->Prop)(h0:Pv 0 σ H)(hl:∀i σ H,i≤xs.length->Pv i σ H->SqL K H l xs)
  (hs:∀i y σ H t,xs[i]?=some y->Pv i σ H->H t=none->g (.ref t) σ (upd H t (.tup [.int ((i+1:Nat)),y])) fun σ2 H2=>tb { D with nx:=Pv (i+1),ct:=Pv (i+1),bk:=D.nx } σ2 H2) (hd:∀σ H,Pv xs.length σ H->D.nx σ H) :
  ∃W:Nat->Nat->St->Hp->Prop,(∃m,W 0 m σ H)/\∀i m σ H,W i m σ H->
   ((jjf K l).stop i H/\D.nx σ H)∨((jjf K l).go i H/\∃N:St->Hp->Prop,(∀σ' H',N σ' H'->∃m',m' < m/\W (i+1) m' σ' H')/\∀x H',(jjf K l).yld i H x H'->g x σ H' fun σ2 H2=>tb { D with nx:=N,ct:=N,bk:=D.nx } σ2 H2):=by
 refine⟨fun i m σ H=>m=xs.length - i/\i≤xs.length/\Pv i σ H,⟨xs.length,by simp,bm _,h0⟩,?_⟩
 rintro i m σ H ⟨rfl,hi,p⟩
 have q:=hl i σ H hi p
 by_cases hlt:i < xs.length
 ·refine .inr ⟨⟨xs,xs[i],q,by simp[hlt]⟩,Pv (i+1),fun σ' H' p'=>⟨xs.length - (i+1),by omega,rfl,hlt,p'⟩,fun x H' y=>?_⟩
  obtain⟨t,z,ht,hz,rfl,rfl⟩:=y
  exact hs i z σ H t (hz xs q) p ht
 ·have:i=xs.length:=by omega
  subst this
  exact .inl ⟨⟨xs,q,av _⟩,hd σ H p⟩
theorem jfG{a:Expr}{c:Const}{kn:Nat}{kp cp:Pos}{ta:TA}{p:Pos}(hg:Gl X "enumerate")(hm:X.mg "enumerate" = none)(ha:QA X [a] ta)(hv:QE X (.Constant c kn cp) (tC (.int 1)):=by exact jg)(hs:aK [a] X.env=[(false,eval a X.env)]:=by rfl):QI X (.Tuple elts x1 tp) (.Call (.Name "enumerate" p) [a] [⟨some "start",.Constant c kn cp,kp⟩] pos) (jiC X.K ta):=⟨jhy hg hm ha.h hv.h hs⟩
end
end L2
namespace LW
open PySem L2
abbrev q5:Stmt:=jfe (top 7) 0
abbrev zN:Stmt:=jfe (top 8) 0
abbrev K4:Stmt:=top 11
structure ClsR(K:ah)(C:Addr):Prop where
 c:Cls K C
 n1:NoAttr K C "procedures"
 n2:NoAttr K C "bodies"
structure ClsB(K:ah)(C:Addr):Prop where
 c:Cls K C
 n1:NoAttr K C "kind"
 n2:NoAttr K C "head"
 n3:NoAttr K C "claims"
 n4:NoAttr K C "gives"
 n5:NoAttr K C "first"
 n6:NoAttr K C "statements"
def jmp(lp lb:Addr):List (Str×V):=[("procedures",.ref lp),("bodies",.ref lb)]
def KG(k:Str)(vh:V)(c g:Addr)(vf:V)(s:Addr):List (Str×V):=[("kind",.str k),("head",vh),("claims",.ref c),("gives",.ref g),("first",vf),("statements",.ref s)]
structure Fr where
 kind:Str
 head:D
 cl:List D
 gv:List D
 fst:List D
 st:List D
structure BA where
 b:Addr
 c:Addr
 g:Addr
 s:Addr
def BA.ls(A:BA):List Addr:=[A.c,A.g,A.s]
def BdAt(CB:Addr)(H:Hp)(A:BA)(F:Fr):Prop:=∃dx vh vf cs gs ss,H A.b=some (.ins CB dx (KG F.kind vh A.c A.g vf A.s))/\Held H F.head vh/\Held H (.tup F.fst) vf/\H A.c=some (.lst cs)/\HeldL H F.cl cs/\H A.g=some (.lst gs)/\HeldL H F.gv gs/\H A.s=some (.lst ss)/\HeldL H F.st ss
def FsAt(CB:Addr)(H:Hp):List BA->List Fr->Prop
 | [],[]=>True
 | A :: As,F :: fs=>BdAt CB H A F/\FsAt CB H As fs
 | _,_=>False
variable {CB:Addr}{H H':Hp}{A:BA}{F:Fr}
theorem BdAt.same(h:BdAt CB H A F)(s:Same H H'):BdAt CB H' A F:=by
 obtain⟨dx,vh,vf,cs,gs,ss,h1,h2,h3,h4,h5,h6,h7,h8,h9⟩:=h;exact⟨dx,vh,vf,cs,gs,ss,s _ _ h1,h2.mono s,h3.mono s,s _ _ h4,h5.mono s,s _ _ h6,h7.mono s,s _ _ h8,h9.mono s⟩
variable {a:Addr}{xs:List V}
theorem BdAt.keep(h:BdAt CB H A F)(k:Keep a H H')(ha:H a=some (.lst xs))(hn:a ∉ A.ls):BdAt CB H' A F:=by
 obtain⟨dx,vh,vf,cs,gs,ss,h1,h2,h3,h4,h5,h6,h7,h8,h9⟩:=h;have tk:=k.tk ha;unfold BA.ls at hn;simp only[ak,bn,or_false,not_or]at hn;obtain⟨n1,n2,n3⟩:=hn;exact⟨dx,vh,vf,cs,gs,ss,k _ _ (fun z=>by rw[z,ha]at h1;cases h1) h1,tk.held h2,tk.held h3,k _ _ (bH n1) h4,tk.heldL h5,k _ _ (bH n2) h6,tk.heldL h7,k _ _ (bH n3) h8,tk.heldL h9⟩
theorem FsAt.same(s:Same H H'):∀{As:List BA} {fs:List Fr},FsAt CB H As fs->FsAt CB H' As fs
 | [],[],h=>h
 | _ :: _,_ :: _,h=>⟨h.1.same s,h.2.same s⟩
 | [],_ :: _,h=>h.elim
 | _ :: _,[],h=>h.elim
theorem FsAt.keep(k:Keep a H H')(ha:H a=some (.lst xs)):∀{As:List BA} {fs:List Fr},FsAt CB H As fs->a ∉ As.flatMap BA.ls->FsAt CB H' As fs
 | [],[],h,_=>h
 | A :: As,_ :: _,h,n=>by
  rw[dk,aB,not_or]at n;exact⟨h.1.keep k ha n.1,h.2.keep k ha n.2⟩
 | [],_ :: _,h,_=>h.elim
 | _ :: _,[],h,_=>h.elim
structure RdL where
 r:Addr
 dx:Addr
 lp:Addr
 lb:Addr
 As:List BA
def RdL.lsts(L:RdL):List Addr:=L.lp :: L.lb :: L.As.flatMap BA.ls
def RdL.inss(L:RdL):List Addr:=L.r :: L.As.map BA.b
def K6(As:List BA):List V:=(As.map fun A=>V.ref A.b).reverse
structure RdAt(CR CB:Addr)(H0 H:Hp)(L:RdL)(ps:List D)(fs:List Fr):Prop where
 r:H L.r=some (.ins CR L.dx (jmp L.lp L.lb))
 p:∃pv,H L.lp=some (.lst pv)/\HeldL H ps pv
 b:H L.lb=some (.lst (K6 L.As))
 f:FsAt CB H L.As fs
 nd:L.lsts.Nodup
 nb:L.inss.Nodup
 fl:∀a∈L.lsts,H0 a=none
 fi:∀a∈L.inss,H0 a=none
 s:Same H0 H
variable {H0:Hp}{L:RdL}
theorem RdAt.same{CR:Addr}{ps:List D}{fs:List Fr}(h:RdAt CR CB H0 H L ps fs)(s:Same H H'):RdAt CR CB H0 H' L ps fs:=by
 obtain⟨pv,h1,h2⟩:=h.p;exact⟨s _ _ h.r,⟨pv,s _ _ h1,h2.mono s⟩,s _ _ h.b,h.f.same s,h.nd,h.nb,h.fl,h.fi,h.s.trans s⟩
theorem Same.keepN(s:Same H0 H)(k:Keep a H H')(h:H0 a=none):Same H0 H':=fun b o e=>k _ _ (jl e h) (s _ _ e)
variable {F':Fr}{As:List BA}
theorem RdAt.mod{CR:Addr}{ps:List D}{fs:List Fr}(h:RdAt CR CB H0 H L ps (F :: fs))(eA:L.As=A :: As)(k:Keep a H H')(hm:a∈A.ls)(ha:H a=some (.lst xs))(hB:BdAt CB H' A F'):RdAt CR CB H0 H' L ps (F' :: fs):=by
 obtain⟨pv,h1,h2⟩:=h.p;have nd:=h.nd;have f:=h.f;have hmem:a∈L.As.flatMap BA.ls:=by rw[eA,dk];exact bB _ hm
 unfold RdL.lsts at nd;obtain⟨n1,n2⟩:=aP.mp nd;obtain⟨n3,n4⟩:=aP.mp n2;have nlp:L.lp≠a:=fun z=>n1 (ao _ (z ▸ hmem))
 have nlb:L.lb≠a:=fun z=>n3 (z ▸ hmem)
 refine⟨k _ _ (fun z=>by have:=h.r;rw[z,ha]at this;cases this) h.r,⟨pv,k _ _ nlp h1,(k.tk ha).heldL h2⟩,k _ _ nlb h.b,?_,h.nd,h.nb,h.fl,h.fi,Same.keepN h.s k (h.fl a (ao _ (ao _ hmem)))⟩;rw[eA]at f n4 ⊢;rw[dk]at n4;exact⟨hB,f.2.keep k ha fun z=>(dJ.mp n4).2.2 a hm a z rfl⟩
variable {v:V}
theorem RdAt.proc{CR:Addr}{ps:List D}{fs:List Fr}{d:D}{pv:List V}(h:RdAt CR CB H0 H L ps fs)(hp:H L.lp=some (.lst pv))(k:Keep L.lp H H')(e:H' L.lp=some (.lst (pv++[v])))(hv:Held H' d v):RdAt CR CB H0 H' L (ps++[d]) fs:=by
 obtain⟨pv',h1,h2⟩:=h.p;rw[hp]at h1
 cases h1
 have nd:=h.nd;unfold RdL.lsts at nd;obtain⟨n1,n2⟩:=aP.mp nd;have tk:=k.tk hp;refine⟨k _ _ (fun z=>by have:=h.r;rw[z,hp]at this;cases this) h.r,⟨_,e,?_⟩,k _ _ (fun z=>n1 (z ▸ am ..)) h.b,h.f.keep k hp fun z=>n1 (ao _ z),h.nd,h.nb,h.fl,h.fi,Same.keepN h.s k (h.fl _ (am ..))⟩;exact qx (tk.heldL h2) hv
theorem RdAt.pop{CR:Addr}{ps:List D}{fs:List Fr}(h:RdAt CR CB H0 H L ps (F :: fs))(eA:L.As=A :: As)(k:Keep L.lb H H')(e:H' L.lb=some (.lst (K6 As))):RdAt CR CB H0 H' { L with As:=As } ps fs:=by
 obtain⟨pv,h1,h2⟩:=h.p;have nd:=h.nd;have nb:=h.nb;have f:=h.f;have fl:=h.fl;have fi:=h.fi;unfold RdL.lsts at nd fl;unfold RdL.inss at nb fi;rw[eA]at nd nb f fl fi;rw[dk]at nd fl;rw[aX]at nb fi;obtain⟨n1,n2⟩:=aP.mp nd;obtain⟨n3,n4⟩:=aP.mp n2;have n5:=(dJ.mp n4).2.1;refine⟨k _ _ (fun z=>by have:=h.r;rw[z,h.b]at this;cases this) h.r,⟨pv,k _ _ (fun z=>n1 (z ▸ am ..)) h1,(k.tk h.b).heldL h2⟩,e,f.2.keep k h.b (fun z=>n3 (aT _ z)),?_,?_,?_,?_,Same.keepN h.s k (fl _ (ao _ (am ..)))⟩
 ·refine aP.mpr ⟨fun z=>n1 ?_,aP.mpr ⟨fun z=>n3 (aT _ z),n5⟩⟩
  rcases ak.mp z with z | z
  ·exact z ▸ am ..
  ·exact ao _ (aT _ z)
 ·obtain⟨m1,m2⟩:=aP.mp nb
  exact aP.mpr ⟨fun z=>m1 (ao _ z),(aP.mp m2).2⟩
 ·intro a ha
  rcases ak.mp ha with ha | ha
  ·exact fl a (ha ▸ am ..)
  ·rcases ak.mp ha with ha | ha
   ·exact fl a (ha ▸ ao _ (am ..))
   ·exact fl a (ao _ (ao _ (aT _ ha)))
 ·intro a ha
  rcases ak.mp ha with ha | ha
  ·exact fi a (ha ▸ am ..)
  ·exact fi a (ao _ (ao _ ha))
variable {G:Hp}
theorem RdAt.push{CR:Addr}{ps:List D}{fs:List Fr}(h:RdAt CR CB H0 H L ps fs)(s:Same H G)(hB:BdAt CB G A F)(hn:∀a∈A.b :: A.ls,H a=none)(hd:A.ls.Nodup)(k:Keep L.lb G H')(e:H' L.lb=some (.lst (K6 L.As++[.ref A.b]))):RdAt CR CB H0 H' { L with As:=A :: L.As } ps (F :: fs):=by
 have hg:=h.same s;obtain⟨pv,h1,h2⟩:=hg.p;have live:∀a∈L.lsts,∃o,H a=some o:=by
  intro a ha;rcases ak.mp ha with rfl | ha
  ·obtain⟨pv,z,_⟩:=h.p;exact⟨_,z⟩
  ·rcases ak.mp ha with rfl | ha
   ·exact⟨_,h.b⟩
   ·have:∀{As:List BA} {fs:List Fr},FsAt CB H As fs->a∈As.flatMap BA.ls->∃o,H a=some o:=by
     intro As;induction As with
     | nil=>intro fs _ z;cases z
     | cons B As ih=>
      intro fs hf z
      cases fs with
      | nil=>exact hf.elim
      | cons F fs=>
       rw[dk]at z;rcases aB.mp z with z | z
       ·obtain⟨dx,vh,vf,cs,gs,ss,_,_,_,h4,_,h6,_,h8,_⟩:=hf.1
        unfold BA.ls at z;simp only[ak,bn,or_false]at z;rcases z with rfl | rfl | rfl
        ·exact⟨_,h4⟩
        ·exact⟨_,h6⟩
        ·exact⟨_,h8⟩
       ·exact ih hf.2 z
    exact this h.f ha
 have liveI:∀a∈L.inss,∃o,H a=some o:=by
  intro a ha;rcases ak.mp ha with rfl | ha
  ·exact⟨_,h.r⟩
  ·have:∀{As:List BA} {fs:List Fr},FsAt CB H As fs->a∈As.map BA.b->∃o,H a=some o:=by
    intro As;induction As with
    | nil=>intro fs _ z;cases z
    | cons B As ih=>
     intro fs hf z
     cases fs with
     | nil=>exact hf.elim
     | cons F fs=>
      rcases ak.mp z with rfl | z
      ·obtain⟨dx,vh,vf,cs,gs,ss,h1,_⟩:=hf.1
       exact⟨_,h1⟩
      ·exact ih hf.2 z
   exact this h.f ha
 have new:∀a∈A.b :: A.ls,∀b∈L.lsts,b≠a:=fun a ha b hb z=>by
  obtain⟨o,e⟩:=live b hb;rw[z,hn a ha]at e;cases e
 have newI:∀b∈L.inss,b≠A.b:=fun b hb z=>by
  obtain⟨o,e⟩:=liveI b hb;rw[z,hn A.b (am ..)]at e;cases e
 have h0:∀a,H a=none->H0 a=none:=fun a ha=>by
  cases e:H0 a with
  | none=>rfl
  | some o=>rw[h.s _ _ e]at ha;cases ha
 have nd:=h.nd;unfold RdL.lsts at nd new;obtain⟨n1,n2⟩:=aP.mp nd;obtain⟨n3,n4⟩:=aP.mp n2;have nlb:L.lb ∉ A.ls:=fun z=>new L.lb (ao _ z) L.lb (ao _ (am ..)) rfl
 have nlp:L.lp ∉ A.ls:=fun z=>new L.lp (ao _ z) L.lp (am ..) rfl
 refine⟨k _ _ (fun z=>by have:=hg.r;rw[z,hg.b]at this;cases this) hg.r,⟨pv,k _ _ (fun z=>n1 (z ▸ am ..)) h1,(k.tk hg.b).heldL h2⟩,?_,⟨hB.keep k hg.b nlb,hg.f.keep k hg.b n3⟩,?_,?_,?_,?_,Same.keepN hg.s k (h.fl _ (ao _ (am ..)))⟩
 ·rw[e]
  show _=some (HO.lst ((V.ref A.b :: L.As.map _).reverse));rw[gb];rfl
 ·show (L.lp :: L.lb :: (A.ls++L.As.flatMap BA.ls)).Nodup
  refine aP.mpr ⟨fun z=>?_,aP.mpr ⟨fun z=>?_,dJ.mpr ⟨hd,n4,fun x hx y hy z=>?_⟩⟩⟩
  ·rcases ak.mp z with z | z
   ·exact n1 (z ▸ am ..)
   ·rcases aB.mp z with z | z
    ·exact nlp z
    ·exact n1 (ao _ z)
  ·rcases aB.mp z with z | z
   ·exact nlb z
   ·exact n3 z
  ·exact new x (ao _ hx) y (ao _ (ao _ hy)) z.symm
 ·have nb:=h.nb
  unfold RdL.inss at nb newI;obtain⟨m1,m2⟩:=aP.mp nb;show (L.r :: A.b :: L.As.map BA.b).Nodup;refine aP.mpr ⟨fun z=>?_,aP.mpr ⟨fun z=>newI _ (ao _ z) rfl,m2⟩⟩;rcases ak.mp z with z | z
  ·exact newI _ (am ..) z
  ·exact m1 z
 ·intro a ha
  have ha:a∈L.lp :: L.lb :: (A.ls++L.As.flatMap BA.ls):=ha;rcases ak.mp ha with ha | ha
  ·exact h.fl a (ha ▸ am ..)
  ·rcases ak.mp ha with ha | ha
   ·exact h.fl a (ha ▸ ao _ (am ..))
   ·rcases aB.mp ha with ha | ha
    ·exact h0 a (hn a (ao _ ha))
    ·exact h.fl a (ao _ (ao _ ha))
 ·intro a ha
  have ha:a∈L.r :: A.b :: L.As.map BA.b:=ha;rcases ak.mp ha with ha | ha
  ·exact h.fi a (ha ▸ am ..)
  ·rcases ak.mp ha with ha | ha
   ·exact h0 a (hn a (ha ▸ am ..))
   ·exact h.fi a (ao _ ha)
def jaI(CR:Addr):Sp:=fun vs H Q _=>∃(r dx:Addr),vs=[.ref r]/\H r=some (.ins CR dx [])/\∀lp lb H',Keep r H H'->H lp=none->H lb=none->lp≠lb->H' r=some (.ins CR dx (jmp lp lb))->H' lp=some (.lst [])->H' lb=some (.lst [])->Q .non H'
def ZT(CB:Addr):Sp:=fun vs H Q _=>∃(dx b:Addr) (k:Str) (vh:V),vs=[.ref b,.str k,vh]/\H b=some (.ins CB dx [])/\∀c g s vf H',Keep b H H'->H c=none->H g=none->H s=none->[c,g,s].Nodup->H' b=some (.ins CB dx (KG k vh c g vf s))->H' c=some (.lst [])->H' g=some (.lst [])->H' s=some (.lst [])->Held H' (.tup []) vf->Q .non H'
def q4(CR CB:Addr):Sp:=fun vs H Q _=>∃(H0:Hp) (L:RdL) (ps:List D) (fs:List Fr) (F:Fr) (A:BA) (As:List BA) (n:Int),vs=[.ref L.r,.int n]/\RdAt CR CB H0 H L ps (F :: fs)/\L.As=A :: As/\Q (.ref A.b) H
theorem jgl{b p:Addr}{C dx:Addr}{fs fs':List (Str×V)}{o:HO}(e:H b=some (.ins C dx fs))(hp:H p=none):Keep b H (upd (upd H p o) b (.ins C dx fs'))/\upd (upd H p o) b (.ins C dx fs') b=some (.ins C dx fs')/\upd (upd H p o) b (.ins C dx fs') p=some o/\∀a,upd (upd H p o) b (.ins C dx fs') a=none->H a=none:=by
 refine⟨(Keep.same (ji hp _)).trans (Keep.upd b _ _),jc,by rw[js (jl e hp).symm];exact jc,fun a ha=>?_⟩;by_cases z:a=b
 ·rw[z,jc]at ha;cases ha
 by_cases z2:a=p
 ·rw[js z,z2,jc]at ha;cases ha
 ·rw[js z,js z2]at ha;exact ha
variable {P:Program}{w:World}{K:ah}{mg:Str->Option Value}{base:Heap}{f:Addr}{fd:aq}
section
variable {CR:Addr}
theorem jdN(T:ClsR K CR)(F:Fun K "__init__" "Reading.__init__" q5 f fd):FnOk P w K mg base CX0 1 f fd ["self"] (jaI CR):=by
 have sc:FnScope ["self"] ["self"] (jn q5):=fQ;refine F.okZ sc (fun vs H Q E h=>?_) (fun aj A outer s H vs Q E hr h=>?_)
 ·obtain⟨r,dx,rfl,_⟩:=h
  rfl
 obtain⟨r,dx,rfl,hr',q⟩:=h;refine⟨_,(jd (zr (zpv 0) (jT jb) rfl)
   (jh (zr (zpv 0) (jT jb) rfl))),?_⟩
 refine jG (σ':=[some (.ref r)]) rfl ?_;refine⟨sm rfl,fun lp hlp=>?_⟩;have n1:lp≠r:=fun z=>by rw[z,hr']at hlp;cases hlp
 refine⟨_,rfl,r,CR,dx,[],rfl,(by rw[js n1.symm];exact hr'),T.c,T.n1,by show 0 < 1000;decide,?_⟩;refine⟨sm rfl,fun lb hlb=>?_⟩;have n2:lb≠r:=fun z=>by rw[z,jc]at hlb;cases hlb
 have n3:lb≠lp:=fun z=>by rw[z,js n1,jc]at hlb;cases hlb
 refine⟨_,rfl,r,CR,dx,_,rfl,(by rw[js n2.symm];exact jc),T.c,T.n2,by show 1 < 1000;decide,?_⟩;rw[js n2,js n3]at hlb;refine q lp lb _ (fun b o hb e=>?_) hlp hlb n3.symm jc ?_ ?_
 ·rw[js hb,js (jl e hlb),js hb,js (jl e hlp)];exact e
 ·rw[js n1,js n3.symm,js n1];exact jc
 ·rw[js n2];exact jc
theorem jj5(T:ClsB K CB)(F:Fun K "__init__" "Body.__init__" zN f fd):FnOk P w K mg base CX0 1 f fd ["self","kind","head"] (ZT CB):=by
 have sc:FnScope ["self","kind","head"] ["self","kind","head"] (jn zN):=fQ;refine F.okZ sc (fun vs H Q E h=>?_) (fun aj A outer s H vs Q E hr h=>?_)
 ·obtain⟨dx,b,k,vh,rfl,_⟩:=h
  rfl
 obtain⟨dx,b,k,vh,rfl,hb,q⟩:=h;refine⟨_,(jd (zr (zpv 0) (zpv 1) rfl)
   (jd (zr (zpv 0) (zpv 2) rfl)
   (jd (zr (zpv 0) (jT jb) rfl)
   (jd (zr (zpv 0) (jT jb) rfl)
   (jd (zr (zpv 0) (jQ jb) rfl)
   (jh (zr (zpv 0) (jT jb) rfl))))))),?_⟩
 refine jG (σ':=[some (.ref b),some (.str k),some vh]) rfl ?_
 try dsimp only[qo]
 refine jiD ?_;intro _ _ _ _ _;refine⟨_,rfl,_,rfl,b,CB,dx,_,rfl,hb,T.c,T.n1,by show 0 < 1000;decide,?_⟩;refine⟨_,rfl,_,rfl,b,CB,dx,_,rfl,jc,T.c,T.n2,by show 1 < 1000;decide,?_⟩;have k0:Keep b H (upd (upd H b (.ins CB dx (za "kind" (.str k) []))) b (.ins CB dx (za "head" vh (za "kind" (.str k) [])))):=(Keep.upd b H _).trans (Keep.upd b _ _);have e0:upd (upd H b (.ins CB dx (za "kind" (.str k) []))) b (.ins CB dx (za "head" vh (za "kind" (.str k) []))) b=some (.ins CB dx [("kind",.str k),("head",vh)]):=jc;have f0:∀a,upd (upd H b (.ins CB dx (za "kind" (.str k) []))) b (.ins CB dx (za "head" vh (za "kind" (.str k) []))) a=none->H a=none:=fun a ha=>by
  by_cases z:a=b
  ·rw[z,jc]at ha;cases ha
  ·rw[js z,js z]at ha;exact ha
 generalize upd (upd H b (.ins CB dx (za "kind" (.str k) []))) b (.ins CB dx (za "head" vh (za "kind" (.str k) [])))=H1 at *;refine⟨sm rfl,fun c hc=>⟨_,rfl,b,CB,dx,_,rfl,(by rw[js (jl e0 hc)];exact e0),T.c,T.n3,by show 2 < 1000;decide,?_⟩⟩;obtain⟨k1,e1,c1,f1⟩:=jgl (o:=.lst []) (fs':=[("kind",.str k),("head",vh),("claims",.ref c)]) e0 hc;refine (?_:jZ _ _ _ _ (upd (upd H1 c (.lst [])) b (.ins CB dx [("kind",.str k),("head",vh),("claims",.ref c)])));generalize upd (upd H1 c (.lst [])) b (.ins CB dx [("kind",.str k),("head",vh),("claims",.ref c)])=H2 at *;refine⟨sm rfl,fun g hg=>⟨_,rfl,b,CB,dx,_,rfl,(by rw[js (jl e1 hg)];exact e1),T.c,T.n4,by show 3 < 1000;decide,?_⟩⟩;obtain⟨k2,e2,c2,f2⟩:=jgl (o:=.lst []) (fs':=[("kind",.str k),("head",vh),("claims",.ref c),("gives",.ref g)]) e1 hg;refine (?_:jZ _ _ _ _ (upd (upd H2 g (.lst [])) b (.ins CB dx [("kind",.str k),("head",vh),("claims",.ref c),("gives",.ref g)])));generalize upd (upd H2 g (.lst [])) b (.ins CB dx [("kind",.str k),("head",vh),("claims",.ref c),("gives",.ref g)])=H3 at *;refine⟨sm rfl,fun p hp=>⟨_,rfl,b,CB,dx,_,rfl,(by rw[js (jl e2 hp)];exact e2),T.c,T.n5,by show 4 < 1000;decide,?_⟩⟩;obtain⟨k3,e3,c3,f3⟩:=jgl (o:=.tup []) (fs':=[("kind",.str k),("head",vh),("claims",.ref c),("gives",.ref g),("first",.ref p)]) e2 hp;dsimp only;rw[show za "first" (V.ref p) [("kind",V.str k),("head",vh),("claims",V.ref c),("gives",V.ref g)]=([("kind",V.str k),("head",vh),("claims",V.ref c),("gives",V.ref g),("first",V.ref p)]:List (Str×V)) from rfl];generalize upd (upd H3 p (.tup [])) b (.ins CB dx [("kind",.str k),("head",vh),("claims",.ref c),("gives",.ref g),("first",.ref p)])=H4 at *;refine⟨sm rfl,fun s hs=>⟨_,rfl,b,CB,dx,_,rfl,(by rw[js (jl e3 hs)];exact e3),T.c,T.n6,by show 5 < 1000;decide,?_⟩⟩;obtain⟨k4,e4,c4,f4⟩:=jgl (o:=.lst []) (fs':=[("kind",.str k),("head",vh),("claims",.ref c),("gives",.ref g),("first",.ref p),("statements",.ref s)]) e3 hs;dsimp only;rw[show za "statements" (V.ref s) [("kind",V.str k),("head",vh),("claims",V.ref c),("gives",V.ref g),("first",V.ref p)]=([("kind",V.str k),("head",vh),("claims",V.ref c),("gives",V.ref g),("first",V.ref p),("statements",V.ref s)]:List (Str×V)) from rfl];refine q c g s (.ref p) _ (k0.trans (k1.trans (k2.trans (k3.trans k4)))) (f0 _ hc) (f0 _ (f1 _ hg)) (f0 _ (f1 _ (f2 _ (f3 _ hs)))) ?_ e4 ?_ ?_ c4 ?_
 ·have c3:=k3 _ _ (jl e0 hc).symm (k2 _ _ (jl e0 hc).symm c1)
  have g3:=k3 _ _ (jl e1 hg).symm c2;have n1:c≠g:=jl c1 hg;have n2:c≠s:=jl c3 hs;have n3:g≠s:=jl g3 hs;simp[n1,n2,n3]
 ·exact k4 _ _ (jl e0 hc).symm (k3 _ _ (jl e0 hc).symm (k2 _ _ (jl e0 hc).symm c1))
 ·exact k4 _ _ (jl e1 hg).symm (k3 _ _ (jl e1 hg).symm c2)
 ·exact jy (k4 _ _ (jl e2 hp).symm c3) jz
theorem jh9(T:ClsR K CR)(F:Fun K "innermost" "innermost" K4 f fd):FnOk P w K mg base CX0 1 f fd ["reading","line"] (q4 CR CB):=by
 have sc:FnScope ["reading","line"] ["reading","line"] (jn K4):=fQ;refine F.okZ sc (fun vs H Q E h=>?_) (fun aj A outer s H vs Q E hr h=>?_)
 ·obtain⟨_,_,_,_,_,_,_,_,rfl,_⟩:=h
  rfl
 obtain⟨H0,L,ps,fs,F',B,As,n,rfl,hR,eA,q⟩:=h;refine⟨_,(jd (jM (Jk (jcb (j1 (zpv 0) rfl))) (jh YT) jH)
   (jh (jx (jv j9 (j1 (zpv 0) rfl) (JD JI jg) (fun _ _=>rfl))))),?_⟩
 refine jG (σ':=[some (.ref L.r),some (.int n)]) rfl ?_;have hb:=hR.b;rw[eA]at hb;have hne:(K6 (B :: As)).isEmpty=false:=by unfold K6;simp
 refine⟨_,rfl,L.r,CR,L.dx,_,_,rfl,hR.r,T.c,T.n2,rfl,_,jjm hb,?_⟩;rw[hne];refine kB ?_;refine⟨_,rfl,L.r,CR,L.dx,_,_,rfl,hR.r,T.c,T.n2,rfl,_,rfl,L.lb,_,_,_,rfl,rfl,SqL.of hb,?_,q⟩;unfold K6;rw[aX,gb];exact ji9 _ _
end
abbrev KR:Stmt:=top 14
abbrev KU:Stmt:=top 15
abbrev KS:Stmt:=top 16
abbrev YZ:Stmt:=top 19
abbrev JO:Stmt:=top 20
abbrev RdS:Type:=Prod (List D) (List Fr)
structure Sz(n:Nat)(S:RdS):Prop where
 p:S.1.length≤n
 f:S.2.length≤n
 c:∀F∈S.2,F.cl.length≤n/\F.gv.length≤n/\F.st.length≤n
def Jo(CR CB:Addr)(R:RdS->Str->RdS->Prop):Sp:=fun vs H Q _=>∃(H0:Hp) (L:RdL) (S S':RdS) (z:Str) (n:Int),vs=[.ref L.r,.str z,.int n]/\z.length≤1000/\n.natAbs < 10 ^ 20/\RdAt CR CB H0 H L S.1 S.2/\Sz 100000 S/\R S z S'/\∀H' L',L'.r=L.r->RdAt CR CB H0 H' L' S'.1 S'.2->Q .non H'
def yf(F:Fr)(d:D):Fr:={ F with st:=F.st++[d] }
def jfx(S:RdS)(z:Str)(S':RdS):Prop:=∃ps F fs C,S=(ps,F :: fs)/\qZ (cd z)=some C/\F.kind = "proc"/\F.gv=[]/\F.st=[]/\S'=(ps,{ F with cl:=F.cl++[C.toD] } :: fs)
def jfz(S:RdS)(z:Str)(S':RdS):Prop:=∃ps F fs C,S=(ps,F :: fs)/\qZ (cd z)=some C/\F.kind = "proc"/\F.st=[]/\S'=(ps,{ F with gv:=F.gv++[C.toD] } :: fs)
def jfy(S:RdS)(z:Str)(S':RdS):Prop:=∃ps F fs C,S=(ps,F :: fs)/\qZ (cd z)=some C/\F.kind = "while"/\F.st=[]/\S'=(ps,{ F with cl:=F.cl++[C.toD] } :: fs)
def jkA(S:RdS)(z:Str)(S':RdS):Prop:=∃ps F fs,S=(ps,F :: fs)/\j7 (cd z)=true/\S'=(ps,yf F (.tup [.str "any",.str z]) :: fs)
def jca(S:RdS)(z:Str)(S':RdS):Prop:=∃ps F fs C,S=(ps,F :: fs)/\qZ (cd z)=some C/\S'=(ps,yf F (.tup [.str "claim",C.toD]) :: fs)
theorem Jj{CR:Addr}{ps:List D}{fs:List Fr}(h:RdAt CR CB H0 H L ps (F :: fs)):∃A As,L.As=A :: As/\BdAt CB H A F:=by
 have f:=h.f
 cases e:L.As with
 | nil=>rw[e]at f;exact f.elim
 | cons A As=>rw[e]at f;exact⟨A,As,rfl,f.1⟩
theorem jir{CR:Addr}{ps:List D}{fs:List Fr}(h:RdAt CR CB H0 H L ps fs)(eA:L.As=A :: As):A.c≠A.g/\A.c≠A.s/\A.g≠A.s:=by
 have nd:=h.nd;unfold RdL.lsts at nd;rw[eA,dk]at nd;have n:=(dJ.mp (aP.mp (aP.mp nd).2).2).1;unfold BA.ls at n;simp only[aP,ak,bn,or_false,not_or]at n;exact⟨n.1.1,n.1.2,n.2.1⟩
theorem RdAt.addC{CR:Addr}{ps:List D}{fs:List Fr}{d:D}{cs:List V}(h:RdAt CR CB H0 H L ps (F :: fs))(eA:L.As=A :: As)(hc:H A.c=some (.lst cs))(hv:Held H d v):RdAt CR CB H0 (upd H A.c (.lst (cs++[v]))) L ps ({ F with cl:=F.cl++[d] } :: fs):=by
 obtain⟨n1,n2,n3⟩:=jir h eA;have f:=h.f;rw[eA]at f;obtain⟨dx,vh,vf,cs',gs,ss,h1,h2,h3,h4,h5,h6,h7,h8,h9⟩:=f.1;rw[hc]at h4
 cases h4
 have k:=Keep.upd A.c H (.lst (cs++[v]));have tk:=k.tk hc;exact h.mod eA k (am ..) hc ⟨dx,vh,vf,_,gs,ss,k _ _ (fun z=>by rw[z,hc]at h1;cases h1) h1,tk.held h2,tk.held h3,jc,qx (tk.heldL h5) (tk.held hv),k _ _ n1.symm h6,tk.heldL h7,k _ _ n2.symm h8,tk.heldL h9⟩
theorem RdAt.addG{CR:Addr}{ps:List D}{fs:List Fr}{d:D}{gs:List V}(h:RdAt CR CB H0 H L ps (F :: fs))(eA:L.As=A :: As)(hc:H A.g=some (.lst gs))(hv:Held H d v):RdAt CR CB H0 (upd H A.g (.lst (gs++[v]))) L ps ({ F with gv:=F.gv++[d] } :: fs):=by
 obtain⟨n1,n2,n3⟩:=jir h eA;have f:=h.f;rw[eA]at f;obtain⟨dx,vh,vf,cs,gs',ss,h1,h2,h3,h4,h5,h6,h7,h8,h9⟩:=f.1;rw[hc]at h6
 cases h6
 have k:=Keep.upd A.g H (.lst (gs++[v]));have tk:=k.tk hc;exact h.mod eA k (ao _ (am ..)) hc ⟨dx,vh,vf,cs,_,ss,k _ _ (fun z=>by rw[z,hc]at h1;cases h1) h1,tk.held h2,tk.held h3,k _ _ n1 h4,tk.heldL h5,jc,qx (tk.heldL h7) (tk.held hv),k _ _ n3.symm h8,tk.heldL h9⟩
theorem RdAt.addS{CR:Addr}{ps:List D}{fs:List Fr}{d:D}{ss:List V}(h:RdAt CR CB H0 H L ps (F :: fs))(eA:L.As=A :: As)(hc:H A.s=some (.lst ss))(hv:Held H d v):RdAt CR CB H0 (upd H A.s (.lst (ss++[v]))) L ps (yf F d :: fs):=by
 obtain⟨n1,n2,n3⟩:=jir h eA;have f:=h.f;rw[eA]at f;obtain⟨dx,vh,vf,cs,gs,ss',h1,h2,h3,h4,h5,h6,h7,h8,h9⟩:=f.1;rw[hc]at h8
 cases h8
 have k:=Keep.upd A.s H (.lst (ss++[v]));have tk:=k.tk hc;exact h.mod eA k (ao _ (ao _ (am ..))) hc ⟨dx,vh,vf,cs,gs,_,k _ _ (fun z=>by rw[z,hc]at h1;cases h1) h1,tk.held h2,tk.held h3,k _ _ n2 h4,tk.heldL h5,k _ _ n3 h6,tk.heldL h7,jc,qx (tk.heldL h9) (tk.held hv)⟩
variable {x y:Str}{Q:VK}
theorem eqS(e:x=y)(h:Q (.bl true) H):rEq (.str x) (.str y) H Q:=⟨rfl,by rw[e,decide_eq_true rfl];exact h⟩
theorem jj8(ha:H a=some (.lst []))(h:Q (.bl true) H):∃k,jgM K (.ref a) H k/\Q (.bl (!k)) H:=⟨_,jjm ha,h⟩
variable {n:Nat}
theorem kA(h:n≤100000):n < au:=mK h (by decide)
section
variable {CR:Addr}
theorem jhL(T:ClsB K CB)(F:Fun K "take_need" "take_need" KR f fd)(aN:Fn P w K mg base 1 "innermost" ["reading","line"] (q4 CR CB))(aY:Fn P w K mg base 3 "refuse_unless" ["fits","line"] JJ)(ca:Fn P w K mg base 9 "claim_read" ["text","line"] (spR qZ Cl.toD)):FnOk P w K mg base CX0 10 f fd ["reading","rest","line"] (Jo CR CB jfx):=by
 have sc:FnScope ["reading","rest","line","body"] ["reading","rest","line"] (jn KR):=fQ;refine F.okZ sc (fun vs H Q E h=>?_) (fun aj A outer s H vs Q E hr h=>?_)
 ·obtain⟨_,_,_,_,_,_,rfl,_⟩:=h
  rfl
 obtain⟨H0,L,S,S',z,n,rfl,hz,hn,hR,hS,⟨ps,G,fs,C,rfl,hC,hk,hg,hst,rfl⟩,q⟩:=h;refine⟨_,(jd (ju (i:=3) sc.nd rfl oQ (jp aN hr (ja (zpv 0) (ja (zpv 2) jb))))
   (jd (jC (jp aY hr (ja (q0 (kZ j5 (j1 (zpv 3) rfl) jf (jD _)) (q0 (JE (j1 (zpv 3) rfl)) (zt (JE (j1 (zpv 3) rfl))))) (ja (zpv 2) jb))))
   (jh (jC (jN aF aS aR jW (j1 (zpv 3) rfl) (ja (jp ca hr (ja (zpv 1) (ja (zpv 2) jb))) jb)))))),?_⟩
 refine jG (σ':=[some (.ref L.r),some (.str z),some (.int n),none]) rfl ?_
 try dsimp only[qo]
 refine yP ?_;intro _ _;obtain⟨B,As,eA,dx,vh,vf,cs,gs,ss,h1,h2,h3,h4,h5,h6,h7,h8,h9⟩:=Jj hR;refine⟨_,rfl,_,rfl,H0,L,ps,fs,G,B,As,n,rfl,hR,eA,?_⟩;refine jG (σ':=[some (.ref L.r),some (.str z),some (.int n),some (.ref B.b)]) rfl ?_;have eg:gs=[]:=by rw[hg]at h7;exact jR h7
 have es:ss=[]:=by rw[hst]at h9;exact jR h9
 subst eg es;dsimp only[jZ,ZL,y6,Jy];refine KM (b:=true) (c:=true) (fun q h=>⟨_,rfl,B.b,CB,dx,_,_,rfl,h1,T.c,T.n1,rfl,eqS hk h⟩) (fun q h=>KM (b:=true) (c:=true) (fun q h=>⟨_,rfl,B.b,CB,dx,_,_,rfl,h1,T.c,T.n4,rfl,jj8 h6 h⟩) (fun q h=>⟨_,rfl,B.b,CB,dx,_,_,rfl,h1,T.c,T.n6,rfl,jj8 h8 h⟩) h) ?_;refine⟨_,rfl,_,n,rfl,hn,fun _=>?_,fun e=>by cases e⟩;refine⟨_,rfl,B.b,CB,dx,_,_,rfl,h1,T.c,T.n3,rfl,.inl ⟨rfl,_,SqL.of h4⟩,_,rfl,_,rfl,rd hz hn (fun d e v H1 s1 hv=>?_) (fun e=>by rw[hC]at e;cases e)⟩;rw[hC]at e
 cases e
 exact⟨B.c,cs,v,rfl,rfl,s1 _ _ h4,kA (by rw[← h5.length];exact (hS.c G (am ..)).1),q _ L rfl ((hR.same s1).addC eA (s1 _ _ h4) hv)⟩
theorem jhN(T:ClsB K CB)(F:Fun K "take_give" "take_give" KU f fd)(aN:Fn P w K mg base 1 "innermost" ["reading","line"] (q4 CR CB))(aY:Fn P w K mg base 3 "refuse_unless" ["fits","line"] JJ)(ca:Fn P w K mg base 9 "claim_read" ["text","line"] (spR qZ Cl.toD)):FnOk P w K mg base CX0 10 f fd ["reading","rest","line"] (Jo CR CB jfz):=by
 have sc:FnScope ["reading","rest","line","body"] ["reading","rest","line"] (jn KU):=fQ;refine F.okZ sc (fun vs H Q E h=>?_) (fun aj A outer s H vs Q E hr h=>?_)
 ·obtain⟨_,_,_,_,_,_,rfl,_⟩:=h
  rfl
 obtain⟨H0,L,S,S',z,n,rfl,hz,hn,hR,hS,⟨ps,G,fs,C,rfl,hC,hk,hst,rfl⟩,q⟩:=h;refine⟨_,(jd (ju (i:=3) sc.nd rfl oQ (jp aN hr (ja (zpv 0) (ja (zpv 2) jb))))
   (jd (jC (jp aY hr (ja (q0 (kZ j5 (j1 (zpv 3) rfl) jf (jD _)) (zt (JE (j1 (zpv 3) rfl)))) (ja (zpv 2) jb))))
   (jh (jC (jN aF aS aR jW (j1 (zpv 3) rfl) (ja (jp ca hr (ja (zpv 1) (ja (zpv 2) jb))) jb)))))),?_⟩
 refine jG (σ':=[some (.ref L.r),some (.str z),some (.int n),none]) rfl ?_
 try dsimp only[qo]
 refine yP ?_;intro _ _;obtain⟨B,As,eA,dx,vh,vf,cs,gs,ss,h1,h2,h3,h4,h5,h6,h7,h8,h9⟩:=Jj hR;refine⟨_,rfl,_,rfl,H0,L,ps,fs,G,B,As,n,rfl,hR,eA,?_⟩;refine jG (σ':=[some (.ref L.r),some (.str z),some (.int n),some (.ref B.b)]) rfl ?_;have es:ss=[]:=by rw[hst]at h9;exact jR h9
 subst es;dsimp only[jZ,ZL,y6,Jy];refine KM (b:=true) (c:=true) (fun q h=>⟨_,rfl,B.b,CB,dx,_,_,rfl,h1,T.c,T.n1,rfl,eqS hk h⟩) (fun q h=>⟨_,rfl,B.b,CB,dx,_,_,rfl,h1,T.c,T.n6,rfl,jj8 h8 h⟩) ?_;refine⟨_,rfl,_,n,rfl,hn,fun _=>?_,fun e=>by cases e⟩;refine⟨_,rfl,B.b,CB,dx,_,_,rfl,h1,T.c,T.n4,rfl,.inl ⟨rfl,_,SqL.of h6⟩,_,rfl,_,rfl,rd hz hn (fun d e v H1 s1 hv=>?_) (fun e=>by rw[hC]at e;cases e)⟩;rw[hC]at e
 cases e
 exact⟨B.g,gs,v,rfl,rfl,s1 _ _ h6,kA (by rw[← h7.length];exact (hS.c G (am ..)).2.1),q _ L rfl ((hR.same s1).addG eA (s1 _ _ h6) hv)⟩
theorem jhM(T:ClsB K CB)(F:Fun K "take_keep" "take_keep" KS f fd)(aN:Fn P w K mg base 1 "innermost" ["reading","line"] (q4 CR CB))(aY:Fn P w K mg base 3 "refuse_unless" ["fits","line"] JJ)(ca:Fn P w K mg base 9 "claim_read" ["text","line"] (spR qZ Cl.toD)):FnOk P w K mg base CX0 10 f fd ["reading","rest","line"] (Jo CR CB jfy):=by
 have sc:FnScope ["reading","rest","line","body"] ["reading","rest","line"] (jn KS):=fQ;refine F.okZ sc (fun vs H Q E h=>?_) (fun aj A outer s H vs Q E hr h=>?_)
 ·obtain⟨_,_,_,_,_,_,rfl,_⟩:=h
  rfl
 obtain⟨H0,L,S,S',z,n,rfl,hz,hn,hR,hS,⟨ps,G,fs,C,rfl,hC,hk,hst,rfl⟩,q⟩:=h;refine⟨_,(jd (ju (i:=3) sc.nd rfl oQ (jp aN hr (ja (zpv 0) (ja (zpv 2) jb))))
   (jd (jC (jp aY hr (ja (q0 (kZ j5 (j1 (zpv 3) rfl) jf (jD _)) (zt (JE (j1 (zpv 3) rfl)))) (ja (zpv 2) jb))))
   (jh (jC (jN aF aS aR jW (j1 (zpv 3) rfl) (ja (jp ca hr (ja (zpv 1) (ja (zpv 2) jb))) jb)))))),?_⟩
 refine jG (σ':=[some (.ref L.r),some (.str z),some (.int n),none]) rfl ?_
 try dsimp only[qo]
 refine yP ?_;intro _ _;obtain⟨B,As,eA,dx,vh,vf,cs,gs,ss,h1,h2,h3,h4,h5,h6,h7,h8,h9⟩:=Jj hR;refine⟨_,rfl,_,rfl,H0,L,ps,fs,G,B,As,n,rfl,hR,eA,?_⟩;refine jG (σ':=[some (.ref L.r),some (.str z),some (.int n),some (.ref B.b)]) rfl ?_;have es:ss=[]:=by rw[hst]at h9;exact jR h9
 subst es;dsimp only[jZ,ZL,y6,Jy];refine KM (b:=true) (c:=true) (fun q h=>⟨_,rfl,B.b,CB,dx,_,_,rfl,h1,T.c,T.n1,rfl,eqS hk h⟩) (fun q h=>⟨_,rfl,B.b,CB,dx,_,_,rfl,h1,T.c,T.n6,rfl,jj8 h8 h⟩) ?_;refine⟨_,rfl,_,n,rfl,hn,fun _=>?_,fun e=>by cases e⟩;refine⟨_,rfl,B.b,CB,dx,_,_,rfl,h1,T.c,T.n3,rfl,.inl ⟨rfl,_,SqL.of h4⟩,_,rfl,_,rfl,rd hz hn (fun d e v H1 s1 hv=>?_) (fun e=>by rw[hC]at e;cases e)⟩;rw[hC]at e
 cases e
 exact⟨B.c,cs,v,rfl,rfl,s1 _ _ h4,kA (by rw[← h5.length];exact (hS.c G (am ..)).1),q _ L rfl ((hR.same s1).addC eA (s1 _ _ h4) hv)⟩
theorem jjY(T:ClsB K CB)(F:Fun K "take_any" "take_any" YZ f fd)(aN:Fn P w K mg base 1 "innermost" ["reading","line"] (q4 CR CB))(bt:Fn P w K mg base 4 "name_read" ["text","line"] (spR yN KJ)):FnOk P w K mg base CX0 5 f fd ["reading","rest","line"] (Jo CR CB jkA):=by
 have sc:FnScope ["reading","rest","line"] ["reading","rest","line"] (jn YZ):=fQ;refine F.okZ sc (fun vs H Q E h=>?_) (fun aj A outer s H vs Q E hr h=>?_)
 ·obtain⟨_,_,_,_,_,_,rfl,_⟩:=h
  rfl
 obtain⟨H0,L,S,S',z,n,rfl,hz,hn,hR,hS,⟨ps,G,fs,rfl,hN,rfl⟩,q⟩:=h;refine⟨_,(jh (jC (jN aF aS aR jW (j1 (jp aN hr (ja (zpv 0) (ja (zpv 2) jb))) rfl) (ja (jQ (ja jf (ja (jp bt hr (ja (zpv 1) (ja (zpv 2) jb))) jb))) jb)))),?_⟩;refine jG (σ':=[some (.ref L.r),some (.str z),some (.int n)]) rfl ?_;obtain⟨B,As,eA,dx,vh,vf,cs,gs,ss,h1,h2,h3,h4,h5,h6,h7,h8,h9⟩:=Jj hR;refine⟨_,rfl,_,rfl,H0,L,ps,fs,G,B,As,n,rfl,hR,eA,?_⟩;refine⟨B.b,CB,dx,_,_,rfl,h1,T.c,T.n6,rfl,.inl ⟨rfl,_,SqL.of h8⟩,_,rfl,_,rfl,rdN hz hn (fun _ H1 s1=>⟨sm rfl,fun p hp=>?_⟩) (fun e=>by rw[hN]at e;cases e)⟩;have s2:=s1.trans (ji hp (.tup [V.str (aa "any"),V.str z]));have e2:upd H1 p (.tup [V.str (aa "any"),V.str z]) p=some (.tup [V.str (aa "any"),V.str z]):=jc;exact⟨B.s,ss,_,rfl,rfl,s2 _ _ h8,kA (by rw[← h9.length];exact (hS.c G (am ..)).2.2),q _ L rfl ((hR.same s2).addS eA (s2 _ _ h8) (Jt e2))⟩
theorem jfW(T:ClsB K CB)(F:Fun K "take_claim" "take_claim" JO f fd)(aN:Fn P w K mg base 1 "innermost" ["reading","line"] (q4 CR CB))(ca:Fn P w K mg base 9 "claim_read" ["text","line"] (spR qZ Cl.toD)):FnOk P w K mg base CX0 10 f fd ["reading","rest","line"] (Jo CR CB jca):=by
 have sc:FnScope ["reading","rest","line"] ["reading","rest","line"] (jn JO):=fQ;refine F.okZ sc (fun vs H Q E h=>?_) (fun aj A outer s H vs Q E hr h=>?_)
 ·obtain⟨_,_,_,_,_,_,rfl,_⟩:=h
  rfl
 obtain⟨H0,L,S,S',z,n,rfl,hz,hn,hR,hS,⟨ps,G,fs,C,rfl,hC,rfl⟩,q⟩:=h;refine⟨_,(jh (jC (jN aF aS aR jW (j1 (jp aN hr (ja (zpv 0) (ja (zpv 2) jb))) rfl) (ja (jQ (ja jf (ja (jp ca hr (ja (zpv 1) (ja (zpv 2) jb))) jb))) jb)))),?_⟩;refine jG (σ':=[some (.ref L.r),some (.str z),some (.int n)]) rfl ?_;obtain⟨B,As,eA,dx,vh,vf,cs,gs,ss,h1,h2,h3,h4,h5,h6,h7,h8,h9⟩:=Jj hR;refine⟨_,rfl,_,rfl,H0,L,ps,fs,G,B,As,n,rfl,hR,eA,?_⟩;refine⟨B.b,CB,dx,_,_,rfl,h1,T.c,T.n6,rfl,.inl ⟨rfl,_,SqL.of h8⟩,_,rfl,_,rfl,rd hz hn (fun d e v H1 s1 hv=>⟨sm rfl,fun p hp=>?_⟩) (fun e=>by rw[hC]at e;cases e)⟩;rw[hC]at e
 cases e
 have s3:=ji hp (.tup [V.str (aa "claim"),v]);have s2:=s1.trans s3;have e2:upd H1 p (.tup [V.str (aa "claim"),v]) p=some (.tup [V.str (aa "claim"),v]):=jc;exact⟨B.s,ss,_,rfl,rfl,s2 _ _ h8,kA (by rw[← h9.length];exact (hS.c G (am ..)).2.2),q _ L rfl ((hR.same s2).addS eA (s2 _ _ h8) (jy e2 (je jw (je (hv.mono s3) jz))))⟩
end
abbrev KZ:Stmt:=top 17
abbrev ZW:Stmt:=top 22
abbrev JM:Stmt:=top 23
abbrev KW:Stmt:=top 24
abbrev YY:Stmt:=top 25
abbrev JN:Stmt:=top 18
def jfC(S:RdS)(z:Str)(S':RdS):Prop:=∃ps F fs a b c,S=(ps,F :: fs)/\z=aa ""/\F.kind = "proc"/\F.head=.tup [a,b,c]/\S'=(ps++[.tup [.str "proc",a,b,c,.tup F.cl,.tup F.gv,.tup F.st]],fs)
def RIf(S:RdS)(z:Str)(S':RdS):Prop:=∃ps F fs C,S=(ps,F :: fs)/\yb (cd z)=some C/\S'=(ps,⟨"if",C.toD,[],[],[],[]⟩ :: F :: fs)
def jb9(S:RdS)(z:Str)(S':RdS):Prop:=∃ps F fs C,S=(ps,F :: fs)/\yb (cd z)=some C/\S'=(ps,⟨"while",C.toD,[],[],[],[]⟩ :: F :: fs)
def jfA(S:RdS)(z:Str)(S':RdS):Prop:=∃ps F fs,S=(ps,F :: fs)/\z=aa ""/\F.kind = "if"/\S'=(ps,{ F with kind:="else",fst:=F.st,st:=[] } :: fs)
def jkq(F:Fr):D:=if F.kind = "else" then .tup [.str "if",F.head,.tup F.fst,.tup F.st] else .tup [.str "while",F.head,.tup F.cl,.tup F.st]
def jjd(S:RdS)(z:Str)(S':RdS):Prop:=∃ps F G fs,S=(ps,F :: G :: fs)/\z=aa ""/\(F.kind = "else"∨F.kind = "while")/\S'=(ps,yf G (jkq F) :: fs)
def jm0(t u:Tm)(c:Int):D:=match t with
 | .is x=>.tup [.str "set",.str x,u.toD,.int c]
 | .at_ r x d=>.tup [.str "put",.str r,plD x d,u.toD,.int c]
def jeq(S:RdS)(z:Str)(S':RdS):Prop:=∃ps F fs t u c,S=(ps,F :: fs)/\ya (prt [32,58,61,32] (cd z)).1=some t/\Yn (prt [32,58,61,32] (cd z)).2=some (u,c)/\S'=(ps,yf F (jm0 t u c) :: fs)
theorem jmC{CR:Addr}{ps:List D}{fs:List Fr}(h:RdAt CR CB H0 H L ps fs)(eA:L.As=A :: As):L.lb ∉ A.ls/\L.lp ∉ A.ls/\L.lp≠L.lb:=by
 have nd:=h.nd;unfold RdL.lsts at nd;rw[eA,dk]at nd;obtain⟨n1,n2⟩:=aP.mp nd;exact⟨fun z=>(aP.mp n2).1 (bB _ z),fun z=>n1 (ao _ (bB _ z)),fun z=>n1 (z ▸ am ..)⟩
theorem jaN(A:BA)(As:List BA):K6 (A :: As)=K6 As++[.ref A.b]:=by unfold K6;rw[aX,gb]
theorem RdAt.repl{CR:Addr}{ps:List D}{fs:List Fr}{s':Addr}(h:RdAt CR CB H0 H L ps (F :: fs))(eA:L.As=A :: As)(k:Keep A.b H H')(hn:H s'=none)(hB:BdAt CB H' { A with s:=s' } F'):RdAt CR CB H0 H' { L with As:={ A with s:=s' } :: As } ps (F' :: fs):=by
 obtain⟨pv,h1,h2⟩:=h.p;have f:=h.f;have nb:=h.nb;have nd:=h.nd;have fl:=h.fl;unfold RdL.inss at nb;unfold RdL.lsts at nd fl;rw[eA]at f nb nd fl;rw[aX]at nb;rw[dk]at nd fl;obtain⟨m1,m2⟩:=aP.mp nb;obtain⟨m3,m4⟩:=aP.mp m2;obtain⟨dx,vh,vf,cs,gs,ss,b1,_⟩:=f.1;have tk:TK H H':=fun b ys e=>k _ _ (fun z=>by rw[z,b1]at e;cases e) e
 have kl:∀{b:Addr} {ys:List V},H b=some (.lst ys)->H' b=some (.lst ys):=fun e=>k _ _ (fun z=>by rw[z,b1]at e;cases e) e
 have kf:∀{As:List BA} {fs:List Fr},FsAt CB H As fs->A.b ∉ As.map BA.b->FsAt CB H' As fs:=by
  intro As;induction As with
  | nil=>intro fs hf _;cases fs <;> exact hf
  | cons B As ih=>
   intro fs hf hm
   cases fs with
   | nil=>exact hf.elim
   | cons G fs=>
    refine⟨?_,ih hf.2 fun z=>hm (ao _ z)⟩;obtain⟨dx,vh,vf,cs,gs,ss,h1,h2,h3,h4,h5,h6,h7,h8,h9⟩:=hf.1;exact⟨dx,vh,vf,cs,gs,ss,k _ _ (fun z=>hm (z ▸ am ..)) h1,tk.held h2,tk.held h3,kl h4,tk.heldL h5,kl h6,tk.heldL h7,kl h8,tk.heldL h9⟩
 have live:∀b,b∈L.lsts->∃o,H b=some o:=by
  intro b hb;have:=h.f;unfold RdL.lsts at hb;rcases ak.mp hb with rfl | hb
  ·exact⟨_,h1⟩
  ·rcases ak.mp hb with rfl | hb
   ·exact⟨_,h.b⟩
   ·have:∀{As:List BA} {fs:List Fr},FsAt CB H As fs->b∈As.flatMap BA.ls->∃o,H b=some o:=by
     intro As;induction As with
     | nil=>intro fs _ z;cases z
     | cons B As ih=>
      intro fs hf z
      cases fs with
      | nil=>exact hf.elim
      | cons F fs=>
       rw[dk]at z;rcases aB.mp z with z | z
       ·obtain⟨dx,vh,vf,cs,gs,ss,_,_,_,h4,_,h6,_,h8,_⟩:=hf.1
        unfold BA.ls at z;simp only[ak,bn,or_false]at z;rcases z with rfl | rfl | rfl
        ·exact⟨_,h4⟩
        ·exact⟨_,h6⟩
        ·exact⟨_,h8⟩
       ·exact ih hf.2 z
    exact this h.f hb
 have ns:∀b,b∈L.lsts->b≠s':=fun b hb z=>by
  obtain⟨o,e⟩:=live b hb;rw[z,hn]at e;cases e
 have h0:H0 s'=none:=by
  cases e:H0 s' with
  | none=>rfl
  | some o=>rw[h.s _ _ e]at hn;cases hn
 unfold RdL.lsts at ns;rw[eA,dk]at ns;have nr:L.r≠A.b:=fun z=>m1 (z ▸ am ..)
 have sub:∀b,b∈({ A with s:=s' }:BA).ls++As.flatMap BA.ls->b=s'∨b∈A.ls++As.flatMap BA.ls:=fun b hb=>by
  rcases aB.mp hb with hb | hb
  ·unfold BA.ls at hb
   simp only[ak,bn,or_false]at hb;rcases hb with hb | hb | hb
   ·exact .inr (bB _ (hb ▸ am ..))
   ·exact .inr (bB _ (hb ▸ ao _ (am ..)))
   ·exact .inl hb
  ·exact .inr (aT _ hb)
 obtain⟨n1,n2⟩:=aP.mp nd;obtain⟨n3,n4⟩:=aP.mp n2;refine⟨k _ _ nr h.r,⟨pv,kl h1,tk.heldL h2⟩,?_,⟨hB,kf f.2 m3⟩,?_,nb,?_,fun a ha=>h.fi a (by unfold RdL.inss;rw[eA];exact ha),Same.keepN h.s k (h.fi A.b (by unfold RdL.inss;rw[eA];exact ao _ (am ..)))⟩
 ·have:=kl h.b
  rw[eA]at this;exact this
 ·show (L.lp :: L.lb :: (({ A with s:=s' }:BA).ls++As.flatMap BA.ls)).Nodup
  refine aP.mpr ⟨fun z=>?_,aP.mpr ⟨fun z=>?_,?_⟩⟩
  ·rcases ak.mp z with z | z
   ·exact n1 (z ▸ am ..)
   ·rcases sub _ z with z | z
    ·exact ns _ (am ..) z
    ·exact n1 (ao _ z)
  ·rcases sub _ z with z | z
   ·exact ns _ (ao _ (am ..)) z
   ·exact n3 z
  ·obtain⟨o1,o2,o3⟩:=dJ.mp n4
   have ms:∀b,b∈A.ls++As.flatMap BA.ls->b≠s':=fun b hb=>ns b (ao _ (ao _ hb))
   refine dJ.mpr ⟨?_,o2,fun x hx y hy z=>?_⟩
   ·unfold BA.ls at o1 ⊢
    simp only[aP,ak,bn,or_false,not_or]at o1 ⊢;refine⟨⟨o1.1.1,ms _ (bB _ (am ..))⟩,ms _ (bB _ (ao _ (am ..))),fun h=>h,eP⟩
   ·unfold BA.ls at hx
    simp only[ak,bn,or_false]at hx;rcases hx with hx | hx | hx
    ·exact o3 A.c (am ..) y hy (hx ▸ z)
    ·exact o3 A.g (ao _ (am ..)) y hy (hx ▸ z)
    ·exact ms y (aT _ hy) (z ▸ hx)
 ·intro a ha
  have ha:a∈L.lp :: L.lb :: (({ A with s:=s' }:BA).ls++As.flatMap BA.ls):=ha;rcases ak.mp ha with ha | ha
  ·exact fl a (ha ▸ am ..)
  ·rcases ak.mp ha with ha | ha
   ·exact fl a (ha ▸ ao _ (am ..))
   ·rcases sub _ ha with ha | ha
    ·rw[ha];exact h0
    ·exact fl a (ao _ (ao _ ha))
theorem jfK{a b c:D}(h:Held H (.tup [a,b,c]) v):∃t x y z,v=.ref t/\H t=some (.tup [x,y,z])/\Held H a x/\Held H b y/\Held H c z:=by
 obtain⟨t,xs,rfl,ht,h1⟩:=jF h;obtain⟨v1,r1,rfl,e1,h2⟩:=jk h1;obtain⟨v2,r2,rfl,e2,h3⟩:=jk h2;obtain⟨v3,r3,rfl,e3,h4⟩:=jk h3
 cases jR h4
 exact⟨t,v1,v2,v3,rfl,ht,e1,e2,e3⟩
section
variable {CR:Addr}
theorem jhV(TR:ClsR K CR)(T:ClsB K CB)(F:Fun K "take_back" "take_back" KZ f fd)(aN:Fn P w K mg base 1 "innermost" ["reading","line"] (q4 CR CB))(B0:Free0 mg)(aY:Fn P w K mg base 3 "refuse_unless" ["fits","line"] JJ):FnOk P w K mg base CX0 4 f fd ["reading","rest","line"] (Jo CR CB jfC):=by
 have sc:FnScope ["reading","rest","line","body","f","params","rows"] ["reading","rest","line"] (jn KZ):=fQ;refine F.okZ sc (fun vs H Q E h=>?_) (fun aj A outer s H vs Q E hr h=>?_)
 ·obtain⟨_,_,_,_,_,_,rfl,_⟩:=h
  rfl
 obtain⟨H0,L,S,S',z,n,rfl,hz,hn,hR,hS,⟨ps,G,fs,da,db,dc,rfl,hz0,hk,hh,rfl⟩,q⟩:=h;have B:=B0;refine⟨_,(jd (ju (i:=3) sc.nd rfl oQ (jp aN hr (ja (zpv 0) (ja (zpv 2) jb))))
   (jd (jC (jp aY hr (ja (q0 (kZ j5 (j1 (zpv 3) rfl) jf (jD _)) (zt (kZ j5 (zpv 1) jf (jD _)))) (ja (zpv 2) jb))))
   (jd (km (j1 (zpv 3) rfl) (kg rfl (jo (jm (i:=4) sc.nd rfl oQ) (jo (jm (i:=5) sc.nd rfl oQ) (jo (jm (i:=6) sc.nd rfl oQ) j4)))))
   (jd (jC (Jl aF f_ iQ jik (j1 (zpv 0) rfl)))
   (jh (jC (jN aF aS aR jW (j1 (zpv 0) rfl) (ja (jQ (ja jf (ja (zpv 4) (ja (zpv 5) (ja (zpv 6) (ja (kC j0 (by rfl) B.tuple_ kL (ja (j1 (zpv 3) rfl) jb)) (ja (kC j0 (by rfl) B.tuple_ kL (ja (j1 (zpv 3) rfl) jb)) (ja (kC j0 (by rfl) B.tuple_ kL (ja (j1 (zpv 3) rfl) jb)) jb)))))))) jb)))))))),?_⟩
 refine jG (σ':=[some (.ref L.r),some (.str z),some (.int n),none,none,none,none]) rfl ?_
 try dsimp only[qo]
 refine Zk ?_;intro _ _ _ _;obtain⟨B',As,eA,hB⟩:=Jj hR;obtain⟨dx,vh,vf,cs,gs,ss,h1,h2,h3,h4,h5,h6,h7,h8,h9⟩:=id hB;refine⟨_,rfl,_,rfl,H0,L,ps,fs,G,B',As,n,rfl,hR,eA,?_⟩;refine jG (σ':=[some (.ref L.r),some (.str z),some (.int n),some (.ref B'.b),none,none,none]) rfl ?_;dsimp only[jZ,ZL,y6,Jy];refine KM (b:=true) (c:=true) (fun q h=>⟨_,rfl,B'.b,CB,dx,_,_,rfl,h1,T.c,T.n1,rfl,eqS hk h⟩) (fun q h=>⟨_,rfl,eqS hz0 h⟩) ?_;refine⟨_,rfl,_,n,rfl,hn,fun _=>?_,fun e=>by cases e⟩;rw[hh]at h2;obtain⟨t,va,vb,vc,rfl,ht,ha,hb,hc⟩:=jfK h2;refine⟨_,rfl,B'.b,CB,dx,_,_,rfl,h1,T.c,T.n2,rfl,t,_,rfl,SqT.of ht,rfl,_,_,rfl,_,_,rfl,_,_,rfl,rfl,?_⟩;refine jG (σ':=[some (.ref L.r),some (.str z),some (.int n),some (.ref B'.b),some va,some vb,some vc]) rfl ?_;have hlb:=hR.b;rw[eA,jaN]at hlb;refine⟨_,rfl,L.r,CR,L.dx,_,_,rfl,hR.r,TR.c,TR.n2,rfl,.inl ⟨rfl,_,SqL.of hlb⟩,L.lb,_,.ref B'.b,rfl,rfl,hlb,by simp,?_⟩;rw[mY];have k:=Keep.upd L.lb H (.lst (K6 As));have hR1:=hR.pop eA k jc;obtain⟨nl1,nl2,nl3⟩:=jmC hR eA;obtain⟨pv,p1,p2⟩:=hR1.p;have tk:=k.tk hlb;obtain⟨dx',vh',vf',cs',gs',ss',c1,c2,c3,c4,c5,c6,c7,c8,c9⟩:=hB.keep k hlb nl1;have ha:=tk.held ha;have hb:=tk.held hb;have hc:=tk.held hc;generalize upd H L.lb (.lst (K6 As))=H1 at *;refine⟨_,rfl,L.r,CR,L.dx,_,_,rfl,hR1.r,TR.c,TR.n1,rfl,.inl ⟨rfl,_,SqL.of p1⟩,_,rfl,_,rfl,_,rfl,_,rfl,B'.b,CB,dx',_,_,rfl,c1,T.c,T.n3,rfl,B'.c,_,rfl,.inl ⟨SqL.of c4,fun t1 ht1=>?_⟩⟩;have s1:=ji ht1 (.tup cs');refine⟨_,rfl,B'.b,CB,dx',_,_,rfl,s1 _ _ c1,T.c,T.n4,rfl,B'.g,_,rfl,.inl ⟨SqL.of (s1 _ _ c6),fun t2 ht2=>?_⟩⟩;have s2:=ji ht2 (.tup gs');refine⟨_,rfl,B'.b,CB,dx',_,_,rfl,s2 _ _ (s1 _ _ c1),T.c,T.n6,rfl,B'.s,_,rfl,.inl ⟨SqL.of (s2 _ _ (s1 _ _ c8)),fun t3 ht3=>⟨sm rfl,fun t4 ht4=>?_⟩⟩⟩;have s3:=ji ht3 (.tup ss');have s4:=ji ht4 (.tup [V.str (aa "proc"),va,vb,vc,.ref t1,.ref t2,.ref t3]);have s14:=s1.trans (s2.trans (s3.trans s4));refine⟨L.lp,pv,_,rfl,rfl,s14 _ _ p1,kA (by rw[← p2.length];exact hS.p),q _ { L with As:=As } rfl ((hR1.same s14).proc (s14 _ _ p1) (Keep.upd L.lp _ _) jc ?_)⟩;have tk5:=(Keep.upd L.lp (upd (upd (upd (upd H1 t1 (.tup cs')) t2 (.tup gs')) t3 (.tup ss')) t4 (.tup [V.str (aa "proc"),va,vb,vc,.ref t1,.ref t2,.ref t3])) (.lst (pv++[.ref t4]))).tk (s14 _ _ p1);refine tk5.held (jy jc (je jw (je (ha.mono s14) (je (hb.mono s14) (je (hc.mono s14) (je (jy ((s2.trans (s3.trans s4)) _ _ jc) (c5.mono s14)) (je (jy ((s3.trans s4) _ _ jc) (c7.mono s14)) (je (jy (s4 _ _ jc) (c9.mono s14)) jz))))))))
theorem Y6{H1:Hp}{ps:List D}{fs:List Fr}{k:Str}{vh:V}{d:D}(hR:RdAt CR CB H0 H1 L ps fs)(hS:fs.length≤100000)(hv:Held H1 d vh)(q:∀H' L',L'.r=L.r->RdAt CR CB H0 H' L' ps (⟨k,d,[],[],[],[]⟩ :: fs)->Q .non H'):
  ∀x dx,H1 x=none->H1 dx=none->dx≠x->ZT CB (.ref x :: ([.str k,vh]++[])) (upd (upd H1 dx (.own x)) x (.ins CB dx [])) (fun v H2=>v=.non/\∃l xs y,V.ref L.lb=.ref l/\[V.ref x]=[y]/\H2 l=some (.lst xs)/\xs.length < au/\Q .non (upd H2 l (.lst (xs++[y])))) E0:=by
 intro x dx hx hdx hne
 refine⟨dx,x,k,vh,rfl,jc,fun c g s vf H' kx hc hg hs nd e1 e2 e3 e4 hvf=>⟨rfl,?_⟩⟩
 have fresh:∀a,upd (upd H1 dx (.own x)) x (.ins CB dx []) a=none->H1 a=none:=fun a ha=>by
  by_cases z:a=x
  ·rw[z,jc]at ha;cases ha
  by_cases z2:a=dx
  ·rw[js z,z2,jc]at ha;cases ha
  ·rw[js z,js z2]at ha;exact ha
 have s1:Same H1 H':=fun b o e=>kx _ _ (jl e hx) (by rw[js (jl e hx),js (jl e hdx)];exact e)
 have hlen:L.As.length=fs.length:=by
  have:∀{As:List BA} {fs:List Fr},FsAt CB H1 As fs->As.length=fs.length:=by
   intro As;induction As with
   | nil=>intro fs h;cases fs with | nil=>rfl | cons _ _=>exact h.elim
   | cons A As ih=>intro fs h;cases fs with | nil=>exact h.elim | cons _ _=>rw[aw,aw,ih h.2]
  exact this hR.f
 refine⟨L.lb,K6 L.As,.ref x,rfl,rfl,s1 _ _ hR.b,kA (by unfold K6;rw[mU,ae,hlen];exact hS),q _ { L with As:=⟨x,c,g,s⟩ :: L.As } rfl ?_⟩
 refine hR.push (A:=⟨x,c,g,s⟩) s1 ⟨dx,vh,vf,[],[],[],e1,hv.mono s1,hvf,e2,jz,e3,jz,e4,jz⟩ (fun a ha=>?_) nd (Keep.upd L.lb _ _) jc
 have ha:a∈[x,c,g,s]:=ha
 simp only[ak,bn,or_false]at ha
 rcases ha with rfl | rfl | rfl | rfl
 ·exact hx
 ·exact fresh _ hc
 ·exact fresh _ hg
 ·exact fresh _ hs
theorem jlB(TR:ClsR K CR)(T:ClsB K CB)(F:Fun K "take_if" "take_if" ZW f fd)(aN:Fn P w K mg base 1 "innermost" ["reading","line"] (q4 CR CB))(cP:MkFn P w K mg base 1 "Body" CB ["self","kind","head"] (ZT CB))(cT:Fn P w K mg base 8 "least_read" ["text","line"] (spR yb Cl.toD)):FnOk P w K mg base CX0 9 f fd ["reading","rest","line"] (Jo CR CB RIf):=by
 have sc:FnScope ["reading","rest","line"] ["reading","rest","line"] (jn ZW):=fQ;refine F.okZ sc (fun vs H Q E h=>?_) (fun aj A outer s H vs Q E hr h=>?_)
 ·obtain⟨_,_,_,_,_,_,rfl,_⟩:=h
  rfl
 obtain⟨H0,L,S,S',z,n,rfl,hz,hn,hR,hS,⟨ps,G,fs,C,rfl,hC,rfl⟩,q⟩:=h;refine⟨_,(jd (jC (jp aN hr (ja (zpv 0) (ja (zpv 2) jb))))
   (jh (jC (jN aF aS aR jW (j1 (zpv 0) rfl) (ja (jdj cP hr (ja jf (ja (jp cT hr (ja (zpv 1) (ja (zpv 2) jb))) jb))) jb))))),?_⟩
 refine jG (σ':=[some (.ref L.r),some (.str z),some (.int n)]) rfl ?_;obtain⟨B,As,eA,hB⟩:=Jj hR;refine⟨_,rfl,_,rfl,H0,L,ps,fs,G,B,As,n,rfl,hR,eA,?_⟩;refine⟨_,rfl,L.r,CR,L.dx,_,_,rfl,hR.r,TR.c,TR.n2,rfl,.inl ⟨rfl,_,SqL.of hR.b⟩,_,rfl,_,rfl,rd hz hn (fun d e v H1 s1 hv=>?_) (fun e=>by rw[hC]at e;cases e)⟩;rw[hC]at e
 cases e
 exact Y6 (hR.same s1) hS.f hv q
theorem jfU(TR:ClsR K CR)(T:ClsB K CB)(F:Fun K "take_while" "take_while" JM f fd)(aN:Fn P w K mg base 1 "innermost" ["reading","line"] (q4 CR CB))(cP:MkFn P w K mg base 1 "Body" CB ["self","kind","head"] (ZT CB))(cT:Fn P w K mg base 8 "least_read" ["text","line"] (spR yb Cl.toD)):FnOk P w K mg base CX0 9 f fd ["reading","rest","line"] (Jo CR CB jb9):=by
 have sc:FnScope ["reading","rest","line"] ["reading","rest","line"] (jn JM):=fQ;refine F.okZ sc (fun vs H Q E h=>?_) (fun aj A outer s H vs Q E hr h=>?_)
 ·obtain⟨_,_,_,_,_,_,rfl,_⟩:=h
  rfl
 obtain⟨H0,L,S,S',z,n,rfl,hz,hn,hR,hS,⟨ps,G,fs,C,rfl,hC,rfl⟩,q⟩:=h;refine⟨_,(jd (jC (jp aN hr (ja (zpv 0) (ja (zpv 2) jb))))
   (jh (jC (jN aF aS aR jW (j1 (zpv 0) rfl) (ja (jdj cP hr (ja jf (ja (jp cT hr (ja (zpv 1) (ja (zpv 2) jb))) jb))) jb))))),?_⟩
 refine jG (σ':=[some (.ref L.r),some (.str z),some (.int n)]) rfl ?_;obtain⟨B,As,eA,hB⟩:=Jj hR;refine⟨_,rfl,_,rfl,H0,L,ps,fs,G,B,As,n,rfl,hR,eA,?_⟩;refine⟨_,rfl,L.r,CR,L.dx,_,_,rfl,hR.r,TR.c,TR.n2,rfl,.inl ⟨rfl,_,SqL.of hR.b⟩,_,rfl,_,rfl,rd hz hn (fun d e v H1 s1 hv=>?_) (fun e=>by rw[hC]at e;cases e)⟩;rw[hC]at e
 cases e
 exact Y6 (hR.same s1) hS.f hv q
theorem jhT(TR:ClsR K CR)(T:ClsB K CB)(F:Fun K "take_else" "take_else" KW f fd)(aN:Fn P w K mg base 1 "innermost" ["reading","line"] (q4 CR CB))(B:Free0 mg)(aY:Fn P w K mg base 3 "refuse_unless" ["fits","line"] JJ):FnOk P w K mg base CX0 4 f fd ["reading","rest","line"] (Jo CR CB jfA):=by
 have sc:FnScope ["reading","rest","line","body"] ["reading","rest","line"] (jn KW):=fQ;refine F.okZ sc (fun vs H Q E h=>?_) (fun aj A outer s H vs Q E hr h=>?_)
 ·obtain⟨_,_,_,_,_,_,rfl,_⟩:=h
  rfl
 obtain⟨H0,L,S,S',z,n,rfl,hz,hn,hR,hS,⟨ps,G,fs,rfl,hz0,hk,rfl⟩,q⟩:=h;refine⟨_,(jd (ju (i:=3) sc.nd rfl oQ (jp aN hr (ja (zpv 0) (ja (zpv 2) jb))))
   (jd (jC (jp aY hr (ja (q0 (kZ j5 (j1 (zpv 3) rfl) jf (jD _)) (zt (kZ j5 (zpv 1) jf (jD _)))) (ja (zpv 2) jb))))
   (jd (zr (zpv 3) jf rfl)
   (jd (zr (zpv 3) (kC j0 (by rfl) B.tuple_ kL (ja (j1 (zpv 3) rfl) jb)) rfl)
   (jh (zr (zpv 3) (jT jb) rfl)))))),?_⟩
 refine jG (σ':=[some (.ref L.r),some (.str z),some (.int n),none]) rfl ?_
 try dsimp only[qo]
 refine Zk ?_;intro _ _ _ _;obtain⟨B',As,eA,dx,vh,vf,cs,gs,ss,h1,h2,h3,h4,h5,h6,h7,h8,h9⟩:=Jj hR;refine⟨_,rfl,_,rfl,H0,L,ps,fs,G,B',As,n,rfl,hR,eA,?_⟩;refine jG (σ':=[some (.ref L.r),some (.str z),some (.int n),some (.ref B'.b)]) rfl ?_;dsimp only[jZ,ZL,y6,Jy];refine KM (b:=true) (c:=true) (fun q h=>⟨_,rfl,B'.b,CB,dx,_,_,rfl,h1,T.c,T.n1,rfl,eqS hk h⟩) (fun q h=>⟨_,rfl,eqS hz0 h⟩) ?_;refine⟨_,rfl,_,n,rfl,hn,fun _=>?_,fun e=>by cases e⟩;refine⟨_,rfl,B'.b,CB,dx,_,rfl,h1,T.c,T.n1,by show 6 < 1000;decide,?_⟩;rw[show za "kind" (V.str (aa "else")) (KG G.kind vh B'.c B'.g vf B'.s)=KG "else" vh B'.c B'.g vf B'.s from rfl];have k1:=Keep.upd B'.b H (.ins CB dx (KG "else" vh B'.c B'.g vf B'.s));have e1:upd H B'.b (.ins CB dx (KG "else" vh B'.c B'.g vf B'.s)) B'.b=some (.ins CB dx (KG "else" vh B'.c B'.g vf B'.s)):=jc;have f1:∀a,upd H B'.b (.ins CB dx (KG "else" vh B'.c B'.g vf B'.s)) a=none->H a=none:=fun a ha=>by
  by_cases z:a=B'.b
  ·rw[z,jc]at ha;cases ha
  ·rw[js z]at ha;exact ha
 have tk:∀{X:Hp},Keep B'.b H X->TK H X:=fun k b ys e=>k _ _ (fun z=>by rw[z,h1]at e;cases e) e
 have kl:∀{X:Hp},Keep B'.b H X->∀{b:Addr} {ys:List V},H b=some (.lst ys)->X b=some (.lst ys):=fun k b ys e=>k _ _ (fun z=>by rw[z,h1]at e;cases e) e
 generalize upd H B'.b (.ins CB dx (KG "else" vh B'.c B'.g vf B'.s))=H1 at *;refine⟨_,rfl,B'.b,CB,dx,_,_,rfl,e1,T.c,T.n6,rfl,B'.s,_,rfl,.inl ⟨SqL.of (kl k1 h8),fun t ht=>?_⟩⟩;refine⟨_,rfl,B'.b,CB,dx,_,rfl,(by rw[js (jl e1 ht)];exact e1),T.c,T.n5,by show 6 < 1000;decide,?_⟩;rw[show za "first" (V.ref t) (KG "else" vh B'.c B'.g vf B'.s)=KG "else" vh B'.c B'.g (.ref t) B'.s from rfl];obtain⟨k2,e2,c2,f2⟩:=jgl (o:=.tup ss) (fs':=KG "else" vh B'.c B'.g (.ref t) B'.s) e1 ht;generalize upd (upd H1 t (.tup ss)) B'.b (.ins CB dx (KG "else" vh B'.c B'.g (.ref t) B'.s))=H2 at *;refine⟨sm rfl,fun s' hs'=>?_⟩;refine⟨_,rfl,B'.b,CB,dx,_,rfl,(by rw[js (jl e2 hs')];exact e2),T.c,T.n6,by show 6 < 1000;decide,?_⟩;rw[show za "statements" (V.ref s') (KG "else" vh B'.c B'.g (.ref t) B'.s)=KG "else" vh B'.c B'.g (.ref t) s' from rfl];obtain⟨k3,e3,c3,f3⟩:=jgl (o:=.lst []) (fs':=KG "else" vh B'.c B'.g (.ref t) s') e2 hs';have k:=k1.trans (k2.trans k3);exact q _ { L with As:={ B' with s:=s' } :: As } rfl (hR.repl eA k (f1 _ (f2 _ hs')) ⟨dx,vh,.ref t,cs,gs,[],e3,(tk k).held h2,jy (k3 _ _ (jl e1 ht).symm c2) ((tk k).heldL h9),kl k h4,(tk k).heldL h5,kl k h6,(tk k).heldL h7,c3,jz⟩)
theorem jjX(TR:ClsR K CR)(T:ClsB K CB)(F:Fun K "take_end" "take_end" YY f fd)(aN:Fn P w K mg base 1 "innermost" ["reading","line"] (q4 CR CB))(B:Free0 mg)(aY:Fn P w K mg base 3 "refuse_unless" ["fits","line"] JJ):FnOk P w K mg base CX0 4 f fd ["reading","rest","line"] (Jo CR CB jjd):=by
 have sc:FnScope ["reading","rest","line","body","ended"] ["reading","rest","line"] (jn YY):=fQ;refine F.okZ sc (fun vs H Q E h=>?_) (fun aj A outer s H vs Q E hr h=>?_)
 ·obtain⟨_,_,_,_,_,_,rfl,_⟩:=h
  rfl
 obtain⟨H0,L,S,S',z,n,rfl,hz,hn,hR,hS,⟨ps,G,G2,fs,rfl,hz0,hk,rfl⟩,q⟩:=h;refine⟨_,(jd (ju (i:=3) sc.nd rfl oQ (jp aN hr (ja (zpv 0) (ja (zpv 2) jb))))
   (jd (jC (jp aY hr (ja (q0 (kZ Y2 (j1 (zpv 3) rfl) (jQ (ja jf (ja jf jb))) rfl) (zt (kZ j5 (zpv 1) jf (jD _)))) (ja (zpv 2) jb))))
   (jd (jM (jA j5 (j1 (zpv 3) rfl) jf (jD _)) (jh (ju (i:=4) sc.nd rfl oQ (jQ (ja jf (ja (j1 (zpv 3) rfl) (ja (j1 (zpv 3) rfl) (ja (kC j0 (by rfl) B.tuple_ kL (ja (j1 (zpv 3) rfl) jb)) jb))))))) (jh (ju (i:=4) sc.nd rfl oQ (jQ (ja jf (ja (j1 (zpv 3) rfl) (ja (kC j0 (by rfl) B.tuple_ kL (ja (j1 (zpv 3) rfl) jb)) (ja (kC j0 (by rfl) B.tuple_ kL (ja (j1 (zpv 3) rfl) jb)) jb))))))))
   (jd (jC (Jl aF f_ iQ jik (j1 (zpv 0) rfl)))
   (jh (jC (jN aF aS aR jW (j1 (jp aN hr (ja (zpv 0) (ja (zpv 2) jb))) rfl) (ja (zpv 4) jb)))))))),?_⟩
 refine jG (σ':=[some (.ref L.r),some (.str z),some (.int n),none,none]) rfl ?_
 try dsimp only[qo]
 refine Zk ?_;intro _ _ _ _;obtain⟨B',As,eA,dx,vh,vf,cs,gs,ss,h1,h2,h3,h4,h5,h6,h7,h8,h9⟩:=Jj hR;refine⟨_,rfl,_,rfl,H0,L,ps,G2 :: fs,G,B',As,n,rfl,hR,eA,?_⟩;refine jG (σ':=[some (.ref L.r),some (.str z),some (.int n),some (.ref B'.b),none]) rfl ?_;refine⟨_,rfl,B'.b,CB,dx,_,_,rfl,h1,T.c,T.n1,rfl,sm rfl,fun t ht=>?_⟩;have s1:=ji ht (.tup ([aa "else",aa "while"].map V.str));have e1:upd H t (.tup ([aa "else",aa "while"].map V.str)) t=some (.tup ([aa "else",aa "while"].map V.str)):=jc;refine⟨t,_,rfl,.inr (SqT.of e1),rfl,Jg _,_,rfl,?_⟩;have hin:inV (.str G.kind) ([aa "else",aa "while"].map V.str)=true:=by
  rw[Jd];rcases hk with hk | hk
  ·rw[hk];decide +kernel
  ·rw[hk];decide +kernel
 rw[if_neg aI,hin];refine kQ ⟨_,rfl,?_⟩;unfold tC;dsimp only;refine eqS hz0 ?_;refine⟨_,rfl,_,n,rfl,hn,fun _=>?_,fun e=>by cases e⟩;have hR:=hR.same s1;have h1:=s1 _ _ h1;have h2:=h2.mono s1;have h3:=h3.mono s1;have h4:=s1 _ _ h4;have h5:=h5.mono s1;have h8:=s1 _ _ h8;have h9:=h9.mono s1;refine (?_:jZ (jdp _ _ _) _ _ _ (upd H t (.tup ([aa "else",aa "while"].map V.str))));generalize upd H t (.tup ([aa "else",aa "while"].map V.str))=H1 at *;refine jju (fun σ X=>∃ve,σ=[some (.ref L.r),some (.str z),some (.int n),some (.ref B'.b),some ve]/\Same H1 X/\Held X (jkq G) ve) ?_ (fun kk=>?_);rotate_left
 ·refine⟨_,rfl,B'.b,CB,dx,_,_,rfl,h1,T.c,T.n1,rfl,rfl,_,rfl,qi (fun d=>?_) (fun d=>?_)⟩
  ·have d':G.kind = "else":=by have:=of_decide_eq_true d;injection this
   refine⟨_,rfl,B'.b,CB,dx,_,_,rfl,h1,T.c,T.n2,rfl,_,rfl,B'.b,CB,dx,_,_,rfl,h1,T.c,T.n5,rfl,_,rfl,B'.b,CB,dx,_,_,rfl,h1,T.c,T.n6,rfl,B'.s,_,rfl,.inl ⟨SqL.of h8,fun t1 ht1=>⟨sm rfl,fun t2 ht2=>?_⟩⟩⟩;have s2:=ji ht1 (.tup ss);have s3:=ji ht2 (.tup [V.str (aa "if"),vh,vf,.ref t1]);refine kk _ _ ⟨.ref t2,rfl,s2.trans s3,?_⟩;unfold jkq;rw[if_pos d'];exact jy jc (je jw (je (h2.mono (s2.trans s3)) (je (h3.mono (s2.trans s3)) (je (jy (s3 _ _ jc) (h9.mono (s2.trans s3))) jz))))
  ·have d':¬G.kind = "else":=fun h=>d (decide_eq_true (congrArg V.str h))
   refine⟨_,rfl,B'.b,CB,dx,_,_,rfl,h1,T.c,T.n2,rfl,_,rfl,B'.b,CB,dx,_,_,rfl,h1,T.c,T.n3,rfl,B'.c,_,rfl,.inl ⟨SqL.of h4,fun t1 ht1=>?_⟩⟩;have s2:=ji ht1 (.tup cs);refine⟨_,rfl,B'.b,CB,dx,_,_,rfl,s2 _ _ h1,T.c,T.n6,rfl,B'.s,_,rfl,.inl ⟨SqL.of (s2 _ _ h8),fun t2 ht2=>⟨sm rfl,fun t3 ht3=>?_⟩⟩⟩;have s3:=ji ht2 (.tup ss);have s4:=ji ht3 (.tup [V.str (aa "while"),vh,.ref t1,.ref t2]);have s24:=s2.trans (s3.trans s4);refine kk _ _ ⟨.ref t3,rfl,s24,?_⟩;unfold jkq;rw[if_neg d'];exact jy jc (je jw (je (h2.mono s24) (je (jy ((s3.trans s4) _ _ jc) (h5.mono s24)) (je (jy (s4 _ _ jc) (h9.mono s24)) jz))))
 rintro σ X ⟨ve,rfl,sX,hve⟩;have hR:=hR.same sX;have hlb:=hR.b;rw[eA,jaN]at hlb;refine⟨_,rfl,L.r,CR,L.dx,_,_,rfl,hR.r,TR.c,TR.n2,rfl,.inl ⟨rfl,_,SqL.of hlb⟩,L.lb,_,.ref B'.b,rfl,rfl,hlb,by simp,?_⟩;rw[mY];have k:=Keep.upd L.lb X (.lst (K6 As));have hR1:=hR.pop eA k jc;have hve:=(k.tk hlb).held hve;generalize upd X L.lb (.lst (K6 As))=H2 at *;obtain⟨B2,As2,eA2,dx2,vh2,vf2,cs2,gs2,ss2,g1,g2,g3,g4,g5,g6,g7,g8,g9⟩:=Jj hR1;refine⟨_,rfl,_,rfl,H0,{ L with As:=As },ps,fs,G2,B2,As2,n,rfl,hR1,eA2,?_⟩;refine⟨B2.b,CB,dx2,_,_,rfl,g1,T.c,T.n6,rfl,.inl ⟨rfl,_,SqL.of g8⟩,_,rfl,B2.s,ss2,ve,rfl,rfl,g8,kA ?_,q _ { L with As:=As } rfl (hR1.addS eA2 g8 hve)⟩;rw[← g9.length];exact (hS.c G2 (ao _ (am ..))).2.2
theorem jfV(TR:ClsR K CR)(T:ClsB K CB)(F:Fun K "take_given" "take_given" JN f fd)(aN:Fn P w K mg base 1 "innermost" ["reading","line"] (q4 CR CB))(cR:Fn P w K mg base 6 "named_term" ["text","line"] (spR ya Tm.toD))(eS:Fn P w K mg base 7 "term_read" ["text","line"] (spR Yn jgZ)):FnOk P w K mg base CX0 8 f fd ["reading","text","line"] (Jo CR CB jeq):=by
 have sc:FnScope ["reading","text","line","body","left","sign","right","target","term","c"] ["reading","text","line"] (jn JN):=fQ;refine F.okZ sc (fun vs H Q E h=>?_) (fun aj A outer s H vs Q E hr h=>?_)
 ·obtain⟨_,_,_,_,_,_,rfl,_⟩:=h
  rfl
 obtain⟨H0,L,S,S',z,n,rfl,hz,hn,hR,hS,⟨ps,G,fs,t,u,c,rfl,hT,hU,rfl⟩,q⟩:=h;refine⟨_,(jd (ju (i:=3) sc.nd rfl oQ (jp aN hr (ja (zpv 0) (ja (zpv 2) jb))))
   (jd (km (jN be eJ fD qM (zpv 1) (ja jf jb)) (kg rfl (jo (jm (i:=4) sc.nd rfl oQ) (jo (jm (i:=5) sc.nd rfl oQ) (jo (jm (i:=6) sc.nd rfl oQ) j4)))))
   (jd (ju (i:=7) sc.nd rfl oQ (jp cR hr (ja (zpv 4) (ja (zpv 2) jb))))
   (jd (km (jp eS hr (ja (zpv 6) (ja (zpv 2) jb))) (kg rfl (jo (jm (i:=8) sc.nd rfl oQ) (jo (jm (i:=9) sc.nd rfl oQ) j4))))
   (jh (jM (jA j5 (jv jE (zpv 7) jg (fun _ _=>rfl)) jf (jD _)) (jh (jC (jN aF aS aR jW (j1 (zpv 3) rfl) (ja (jQ (ja jf (ja (jv jE (zpv 7) jg (fun _ _=>rfl)) (ja (zpv 8) (ja (zpv 9) jb))))) jb)))) (jh (jC (jN aF aS aR jW (j1 (zpv 3) rfl) (ja (jQ (ja jf (ja (jv jE (zpv 7) jg (fun _ _=>rfl)) (ja (jv jE (zpv 7) jg (fun _ _=>rfl)) (ja (zpv 8) (ja (zpv 9) jb)))))) jb)))))))))),?_⟩
 refine jG (σ':=[some (.ref L.r),some (.str z),some (.int n),none,none,none,none,none,none,none]) rfl ?_
 try dsimp only[qo]
 refine Zk ?_;intro _ _ _ _;obtain⟨B',As,eA,dx,vh,vf,cs,gs,ss,h1,h2,h3,h4,h5,h6,h7,h8,h9⟩:=Jj hR;refine⟨_,rfl,_,rfl,H0,L,ps,fs,G,B',As,n,rfl,hR,eA,?_⟩;refine jG (σ':=[some (.ref L.r),some (.str z),some (.int n),some (.ref B'.b),none,none,none,none,none,none]) rfl ?_;obtain⟨b1,w1⟩:=Y1 (x:=z) (y:=aa " := ") (by decide +kernel);rw[show cd (aa " := ")=[32,58,61,32] from rfl]at w1;have l1:=Ku (sep:=[32,58,61,32]) (show (cd z).length≤1000 by rw[j3];exact hz);generalize prt [32,58,61,32] (cd z)=a at *;refine⟨_,rfl,rfl,z,aa " := ",rfl,rfl,rfl,sz hz,fun p hp=>?_⟩;rw[w1];dsimp only;have s1:=ji hp (.tup [V.str (mS a.1),V.str b1,V.str (mS a.2)]);have e1:upd H p (.tup [V.str (mS a.1),V.str b1,V.str (mS a.2)]) p=some (.tup [V.str (mS a.1),V.str b1,V.str (mS a.2)]):=jc;generalize upd H p (.tup [V.str (mS a.1),V.str b1,V.str (mS a.2)])=H1 at *;refine⟨p,_,rfl,SqT.of e1,rfl,_,_,rfl,_,_,rfl,_,_,rfl,rfl,?_⟩;refine jG (σ':=[some (.ref L.r),some (.str z),some (.int n),some (.ref B'.b),some (.str (mS a.1)),some (.str b1),some (.str (mS a.2)),none,none,none]) rfl ?_;refine⟨_,rfl,_,rfl,rd (by rw[qE];exact l1.1) hn (fun d e vt H2 s2 ht=>?_) (fun e=>by rw[kX,hT]at e;cases e)⟩;rw[kX,hT]at e
 cases e
 refine jG (σ':=[some (.ref L.r),some (.str z),some (.int n),some (.ref B'.b),some (.str (mS a.1)),some (.str b1),some (.str (mS a.2)),some vt,none,none]) rfl ?_;refine⟨_,rfl,_,rfl,rd (by rw[qE];exact l1.2) hn (fun d e vu H3 s3 hu=>?_) (fun e=>by rw[kX,hU]at e;cases e)⟩;rw[kX,hU]at e
 cases e
 obtain⟨c2,vb,rfl,hc2,hb⟩:=jbj hu;refine⟨c2,_,rfl,SqT.of hc2,rfl,_,_,rfl,_,_,rfl,rfl,?_⟩;refine jG (σ':=[some (.ref L.r),some (.str z),some (.int n),some (.ref B'.b),some (.str (mS a.1)),some (.str b1),some (.str (mS a.2)),some vt,some vb,some (.int c)]) rfl ?_;have ht:=ht.mono s3;have s13:=s1.trans (s2.trans s3);have hlen:ss.length < au:=kA (by rw[← h9.length];exact (hS.c G (am ..)).2.2)
 cases t with
 | is x=>
  obtain⟨a',rfl,ha'⟩:=zc (show Held H3 (.tup [.str "is",.str x]) vt from ht);refine⟨_,rfl,a',_,_,_,rfl,rfl,SqT.of ha',jr (j:=0) rfl,rfl,_,rfl,kQ ?_⟩;refine⟨_,rfl,B'.b,CB,dx,_,_,rfl,s13 _ _ h1,T.c,T.n6,rfl,.inl ⟨rfl,_,SqL.of (s13 _ _ h8)⟩,_,rfl,a',_,_,_,rfl,rfl,SqT.of ha',jr (j:=1) rfl,_,rfl,_,rfl,sm rfl,fun p2 hp2=>?_⟩;have s4:=ji hp2 (.tup [V.str (aa "set"),V.str x,vb,V.int c]);exact⟨B'.s,ss,_,rfl,rfl,(s13.trans s4) _ _ h8,hlen,q _ L rfl ((hR.same (s13.trans s4)).addS eA ((s13.trans s4) _ _ h8) (jy jc (je jw (je jw (je (hb.mono s4) (je ke jz))))))⟩
 | at_ r x d=>
  obtain⟨a',b',rfl,ha',hb'⟩:=jen ht;refine⟨_,rfl,a',_,_,_,rfl,rfl,SqT.of ha',jr (j:=0) rfl,rfl,_,rfl,kB ?_⟩;refine⟨_,rfl,B'.b,CB,dx,_,_,rfl,s13 _ _ h1,T.c,T.n6,rfl,.inl ⟨rfl,_,SqL.of (s13 _ _ h8)⟩,_,rfl,a',_,_,_,rfl,rfl,SqT.of ha',jr (j:=1) rfl,_,rfl,a',_,_,_,rfl,rfl,SqT.of ha',jr (j:=2) rfl,_,rfl,_,rfl,sm rfl,fun p2 hp2=>?_⟩;have s4:=ji hp2 (.tup [V.str (aa "put"),V.str r,V.ref b',vb,V.int c]);exact⟨B'.s,ss,_,rfl,rfl,(s13.trans s4) _ _ h8,hlen,q _ L rfl ((hR.same (s13.trans s4)).addS eA ((s13.trans s4) _ _ h8) (jy jc (je jw (je jw (je (YH (s4 _ _ hb')) (je (hb.mono s4) (je ke jz)))))))⟩
end
abbrev zd:Stmt:=top 27
abbrev KQ:Stmt:=top 13
abbrev KY:Stmt:=top 21
def j8(A B:List Str):Str:=bz (aa " ") (A++aa ";" :: B)
def ZR:Sp:=fun vs H Q _=>∃(A B:List Str) (z:Str) (k:Nat) (n:Int),vs=[.str z,.int (k:Nat),.int n]/\z=j8 A B/\z.length≤1000/\Nms (A++B)/\(A++B).length≤100/\k≤A.length/\n.natAbs < 10 ^ 20/\∀p a b H',Same H H'->H' p=some (.tup [.ref a,.ref b])->H' a=some (.lst (A.map V.str))->H' b=some (.lst (B.map V.str))->Q (.ref p) H'
variable {B:List Str}
theorem jcd{A:List Str}(h:Nms (A++B)):eF (j8 A B) (aa " ")=A++aa ";" :: B:=by
 refine ZO (c:=32) rfl (by simp) fun r hr=>?_
 rcases aB.mp hr with hr | hr
 ·exact qL (h r (bB _ hr)) rfl
 ·rcases ak.mp hr with rfl | hr
  ·decide +kernel
  ·exact qL (h r (aT _ hr)) rfl
theorem jkb(h:j7 (cd x)=true):x≠aa ";":=by
 rintro rfl;exact absurd h (by decide +kernel)
theorem jiX(xs:List V)(i:Nat):qw xs none (some (i:Int))=xs.take i:=by
 unfold qw;rw[HT.sIx_none,HT.sIx_nat,fL,gJ];rcases rg i xs.length with h | h
 ·rw[gL h]
 ·rw[rb h,de (av _),de h]
theorem jao(xs:List V)(i:Nat):qw xs (some (i:Int)) none=xs.drop i:=by
 unfold qw;rw[HT.sIx_none,HT.sIx_nat];rcases rg i xs.length with h | h
 ·rw[gL h]
  exact de (by rw[cB];omega)
 ·rw[rb h,gW (av _),gW h]
  exact List.take_nil
theorem yD{H:Hp}:∀{xs:List Str},HeldL H (xs.map D.str) (xs.map V.str)
 | []=>jz
 | _ :: _=>je jw yD
theorem jaq{p:Addr}{X:List Str}{n:Int}(ha:H a=some (.lst (X.map V.str)))(hp:H p=none)(hN:Nms X)(hX:X.length≤100)(hn:n.natAbs < 10 ^ 20)(q:∀H',Same H H'->H' p=some (.lst (X.map V.str))->Q (.ref p) H'):
  Ko (Itl K a) p (qA 0) y4 (y6 (spR yN KJ) [] E0 (Jy (jbk 0) (Jy (jbk 1) jch))) Q [none,some (.int n)] (upd H p (.lst [])):=by
 refine ja5 (xs:=X.map V.str) (fun i σ' G=>∃u,σ'=[u,some (.int n)]/\Same H G/\G p=some (.lst ((X.take i).map V.str))) ⟨none,rfl,ji hp _,jc⟩ ?_ ?_ ?_
 ·rintro i σ' G _ ⟨u,rfl,sG,_⟩
  exact SqL.of (sG _ _ ha)
 ·rintro i x σ' G hx ⟨u,rfl,sG,hG⟩
  rw[bq]at hx
  obtain⟨z,hz,rfl⟩:=iW.mp hx
  have hnm:=hN z (dh hz)
  unfold qA y4
  refine kQ ?_
  refine⟨_,rfl,_,rfl,rdN (ad (ko hnm) (by decide)) hn (fun _ G1 s1=>?_) (fun e=>by rw[hnm]at e;cases e)⟩
  refine⟨_,s1 _ _ hG,ky (by rw[ae,cA];omega),_,rfl,?_,?_⟩
  ·intro b o e
   rw[js (jl e hp)]
   exact s1 _ _ (sG _ _ e)
  ·rw[jc,cL,hz,aH]
   rfl
 ·rintro σ' G ⟨u,rfl,sG,hG⟩
  rw[ae,cy]at hG
  exact q G sG hG
def jfw(S:RdS)(z:Str)(S':RdS):Prop:=∃ps f A B,S=(ps,[])/\z=j8 (f :: A) B/\Nms ((f :: A)++B)/\((f :: A)++B).length≤100/\S'=(ps,[⟨"proc",.tup [.str f,.tup (A.map D.str),.tup (B.map D.str)],[],[],[],[]⟩])
def jfB(S:RdS)(z:Str)(S':RdS):Prop:=∃ps F fs x f A B,S=(ps,F :: fs)/\z=j8 (x :: f :: A) B/\Nms ((x :: f :: A)++B)/\((x :: f :: A)++B).length≤100/\S'=(ps,yf F (.tup [.str "call",.str x,.str f,.tup (A.map D.str),.tup (B.map D.str)]) :: fs)
section
variable {CR:Addr}
theorem jf3(F:Fun K "parted_names" "parted_names" zd f fd)(B:Free0 mg)(aY:Fn P w K mg base 3 "refuse_unless" ["fits","line"] JJ)(bt:Fn P w K mg base 4 "name_read" ["text","line"] (spR yN KJ)):FnOk P w K mg base CX0 5 f fd ["text","least_many","line"] ZR:=by
 have sc:FnScope ["text","least_many","line","words","at","ahead","behind"] ["text","least_many","line"] (jn zd):=fQ;refine F.okZ sc (fun vs H Q E h=>?_) (fun aj A outer s H vs Q E hr h=>?_)
 ·obtain⟨_,_,_,_,_,rfl,_⟩:=h
  rfl
 obtain⟨X,Y,z,k,n,rfl,rfl,hz,hN,hl,hk,hn,q⟩:=h;refine⟨_,(jd (ju (i:=3) sc.nd rfl oQ (jN be gB pb jcL (zpv 0) (ja jf jb)))
   (jd (jC (jp aY hr (ja (kZ Y2 jf (zpv 3) rfl) (ja (zpv 2) jb))))
   (jd (ju (i:=4) sc.nd rfl oQ (jN aF PySem.F.slot_list_index PySem.F.type_list_index jgm (zpv 3) (ja jf jb)))
   (jd (zQ (i:=5) sc.nd rfl oQ ["word"] [2] rfl (qc (sc:=jn zd) (N:=["text","least_many","line","words","at","ahead","behind"]) rfl rfl (by decide +kernel)) (ZH (kD Zs (zpv 3) kU (kO (zpv 4)))) (fun s H ex=>⟨(jm (i:=0) (show br (["word","line"]:List Str) by decide +kernel) rfl oQ),kT,(jp bt hr (ja (zpv 0) (ja (zpv 1) jb)))⟩))
   (jd (zQ (i:=6) sc.nd rfl oQ ["word"] [2] rfl (qc (sc:=jn zd) (N:=["text","least_many","line","words","at","ahead","behind"]) rfl rfl (by decide +kernel)) (ZH (kD Zs (zpv 3) (kO (jt zy (zpv 4) jg)) kU)) (fun s H ex=>⟨(jm (i:=0) (show br (["word","line"]:List Str) by decide +kernel) rfl oQ),kT,(jp bt hr (ja (zpv 0) (ja (zpv 1) jb)))⟩))
   (jd (jC (jp aY hr (ja (kZ jmx (k9 jV (by rfl) B.len_ kJ (ja (zpv 5) jb)) (zpv 1) (jD _)) (ja (zpv 2) jb))))
   (jh (jx (jQ (ja (zpv 5) (ja (zpv 6) jb))))))))))),?_⟩
 refine jG (σ':=[some (.str (j8 X Y)),some (.int (k:Nat)),some (.int n),none,none,none,none]) rfl ?_
 try dsimp only[qo]
 refine Zj ?_;intro _ _ _ _ _ _;have hsz:(j8 X Y).length+2≤au:=ad (rj hz 2) (by decide);refine⟨_,rfl,rfl,j8 X Y,_,rfl,rfl,rfl,hsz,fun wl hwl=>?_⟩;rw[jcd hN];have s1:=ji hwl (.lst ((X++aa ";" :: Y).map V.str));have e1:upd H wl (.lst ((X++aa ";" :: Y).map V.str)) wl=some (.lst ((X++aa ";" :: Y).map V.str)):=jc;generalize upd H wl (.lst ((X++aa ";" :: Y).map V.str))=H1 at *;refine gQ ?_;have hin:inV (.str (aa ";")) ((X++aa ";" :: Y).map V.str)=true:=by rw[Jd];exact decide_eq_true (aT _ (am ..))
 refine⟨_,rfl,wl,_,rfl,.inl (SqL.of e1),rfl,Jg _,_,rfl,_,n,rfl,hn,fun _=>?_,fun e=>by rw[if_neg aI,hin]at e;cases e⟩;rw[af]at hl;refine⟨_,rfl,.inl ⟨rfl,_,SqL.of e1⟩,wl,_,aa ";",X.length,rfl,rfl,e1,by simp,fun m hm e=>?_,by omega,?_⟩
 ·rw[gU hm]at e
  exact jkb (hN _ (bB _ (dh e))) rfl
 refine gQ ?_;have hNX:Nms X:=fun x hx=>hN x (bB _ hx)
 have hNY:Nms Y:=fun x hx=>hN x (aT _ hx)
 refine⟨_,rfl,_,rfl,_,rfl,wl,_,rfl,SqL.of e1,fun l1 hl1=>?_⟩;have ec:qw ((X++aa ";" :: Y).map V.str) none (some ((X.length:Nat):Int))=X.map V.str:=by rw[jiX,aH,List.take_left' (by rw[ae])]
 rw[ec];have s2:=ji hl1 (.lst (X.map V.str));have e2:upd H1 l1 (.lst (X.map V.str)) l1=some (.lst (X.map V.str)):=jc;generalize upd H1 l1 (.lst (X.map V.str))=H2 at *;refine⟨l1,rfl,⟨_,SqL.of e2⟩,fun a1 ha1=>jaq e2 ha1 hNX (by omega) hn fun H3 s3 ea=>?_⟩;have e13:=s3 _ _ (s2 _ _ e1);refine gQ ?_;refine⟨_,rfl,_,rfl,_,_,rfl,rfl,_,rfl,wl,_,rfl,SqL.of e13,fun l2 hl2=>?_⟩;have ec:qw ((X++aa ";" :: Y).map V.str) (some (((X.length:Nat):Int)+1)) none=Y.map V.str:=by
  rw[show (((X.length:Nat):Int)+1)=(((X.length+1:Nat)):Int) from rfl,jao,aH,List.drop_append,ae,show X.length+1 - X.length=1 by omega,gW (by rw[ae];omega)];rfl
 rw[ec];have s4:=ji hl2 (.lst (Y.map V.str));have e4:upd H3 l2 (.lst (Y.map V.str)) l2=some (.lst (Y.map V.str)):=jc;generalize upd H3 l2 (.lst (Y.map V.str))=H4 at *;refine⟨l2,rfl,⟨_,SqL.of e4⟩,fun b1 hb1=>jaq e4 hb1 hNY (by omega) hn fun H5 s5 eb=>?_⟩;have ea5:=s5 _ _ (s4 _ _ ea);refine gQ ?_;refine⟨_,rfl,a1,_,rfl,.inl (SqL.of ea5),_,rfl,_,_,rfl,rfl,_,rfl,_,n,rfl,hn,fun _=>?_,fun e=>absurd e ?_⟩
 ·refine⟨_,rfl,_,rfl,sm rfl,fun p hp=>?_⟩
  have s6:=ji hp (.tup [V.ref a1,V.ref b1]);exact q p a1 b1 _ (s1.trans (s2.trans (s3.trans (s4.trans (s5.trans s6))))) jc (s6 _ _ ea5) (s6 _ _ eb)
 ·rw[ae]
  simp only[decide_eq_false_iff_not,Classical.not_not];omega
theorem jhK(TR:ClsR K CR)(F:Fun K "take_proc" "take_proc" KQ f fd)(B:Free0 mg)(cP:MkFn P w K mg base 1 "Body" CB ["self","kind","head"] (ZT CB))(aY:Fn P w K mg base 3 "refuse_unless" ["fits","line"] JJ)(eV:Fn P w K mg base 5 "parted_names" ["text","least_many","line"] ZR):FnOk P w K mg base CX0 6 f fd ["reading","rest","line"] (Jo CR CB jfw):=by
 have sc:FnScope ["reading","rest","line","names","rows"] ["reading","rest","line"] (jn KQ):=fQ;refine F.okZ sc (fun vs H Q E h=>?_) (fun aj A outer s H vs Q E hr h=>?_)
 ·obtain⟨_,_,_,_,_,_,rfl,_⟩:=h
  rfl
 obtain⟨H0,L,S,S',z,n,rfl,hz,hn,hR,hS,⟨ps,g,X,Y,rfl,rfl,hN,hl,rfl⟩,q⟩:=h;refine⟨_,(jd (jC (jp aY hr (ja (JE (j1 (zpv 0) rfl)) (ja (zpv 2) jb))))
   (jd (km (jp eV hr (ja (zpv 1) (ja jg (ja (zpv 2) jb)))) (kg rfl (jo (jm (i:=3) sc.nd rfl oQ) (jo (jm (i:=4) sc.nd rfl oQ) j4))))
   (jh (jC (jN aF aS aR jW (j1 (zpv 0) rfl) (ja (jdj cP hr (ja jf (ja (jQ (ja (jv j9 (zpv 3) jg (fun _ _=>rfl)) (ja (kC j0 (by rfl) B.tuple_ kL (ja (kD Zs (zpv 3) (kO jg) kU) jb)) (ja (kC j0 (by rfl) B.tuple_ kL (ja (zpv 4) jb)) jb)))) jb))) jb)))))),?_⟩
 refine jG (σ':=[some (.ref L.r),some (.str (j8 (g :: X) Y)),some (.int n),none,none]) rfl ?_
 try dsimp only[qo]
 refine yP ?_;intro _ _;have hb:=hR.b;have eA:L.As=[]:=by
  have f:=hR.f
  cases e:L.As with
  | nil=>rfl
  | cons A As=>rw[e]at f;exact f.elim
 rw[eA]at hb;refine⟨_,rfl,L.r,CR,L.dx,_,_,rfl,hR.r,TR.c,TR.n2,rfl,_,jjm hb,_,rfl,_,n,rfl,hn,fun _=>?_,fun e=>by cases e⟩;refine⟨_,rfl,_,rfl,g :: X,Y,j8 (g :: X) Y,1,n,rfl,rfl,hz,hN,hl,by rw[aw];omega,hn,fun p a b H1 s1 ep ea eb=>?_⟩;refine⟨p,_,rfl,SqT.of ep,rfl,_,_,rfl,_,_,rfl,rfl,?_⟩;refine jG (σ':=[some (.ref L.r),some (.str (j8 (g :: X) Y)),some (.int n),some (.ref a),some (.ref b)]) rfl ?_;have hR1:=hR.same s1;refine⟨_,rfl,L.r,CR,L.dx,_,_,rfl,hR1.r,TR.c,TR.n2,rfl,.inl ⟨rfl,_,SqL.of hR1.b⟩,_,rfl,a,_,_,.str g,rfl,rfl,SqL.of ea,jr (j:=0) rfl,_,rfl,_,rfl,a,_,rfl,SqL.of ea,fun l hl'=>?_⟩;rw[show qw ((g :: X).map V.str) (some 1) none=X.map V.str from jao _ 1];have s2:=ji hl' (.lst (X.map V.str));have e2:upd H1 l (.lst (X.map V.str)) l=some (.lst (X.map V.str)):=jc;generalize upd H1 l (.lst (X.map V.str))=H2 at *;refine⟨l,_,rfl,.inl ⟨SqL.of e2,fun t1 ht1=>?_⟩⟩;have s3:=ji ht1 (.tup (X.map V.str));refine⟨_,rfl,b,_,rfl,.inl ⟨SqL.of (s3 _ _ (s2 _ _ eb)),fun t2 ht2=>⟨sm rfl,fun t3 ht3=>?_⟩⟩⟩;have s4:=ji ht2 (.tup (Y.map V.str));have s5:=ji ht3 (.tup [V.str g,.ref t1,.ref t2]);have s25:=s2.trans (s3.trans (s4.trans s5));exact Y6 (hR1.same s25) hS.f (d:=.tup [.str g,.tup (X.map D.str),.tup (Y.map D.str)]) (jy jc (je jw (je (jy ((s4.trans s5) _ _ jc) yD) (je (jy (s5 _ _ jc) yD) jz)))) q
theorem jhU(T:ClsB K CB)(F:Fun K "take_call" "take_call" KY f fd)(B:Free0 mg)(aN:Fn P w K mg base 1 "innermost" ["reading","line"] (q4 CR CB))(eV:Fn P w K mg base 5 "parted_names" ["text","least_many","line"] ZR):FnOk P w K mg base CX0 6 f fd ["reading","rest","line"] (Jo CR CB jfB):=by
 have sc:FnScope ["reading","rest","line","body","names","rows"] ["reading","rest","line"] (jn KY):=fQ;refine F.okZ sc (fun vs H Q E h=>?_) (fun aj A outer s H vs Q E hr h=>?_)
 ·obtain⟨_,_,_,_,_,_,rfl,_⟩:=h
  rfl
 obtain⟨H0,L,S,S',z,n,rfl,hz,hn,hR,hS,⟨ps,G,fs,x,g,X,Y,rfl,rfl,hN,hl,rfl⟩,q⟩:=h;refine⟨_,(jd (ju (i:=3) sc.nd rfl oQ (jp aN hr (ja (zpv 0) (ja (zpv 2) jb))))
   (jd (km (jp eV hr (ja (zpv 1) (ja jg (ja (zpv 2) jb)))) (kg rfl (jo (jm (i:=4) sc.nd rfl oQ) (jo (jm (i:=5) sc.nd rfl oQ) j4))))
   (jh (jC (jN aF aS aR jW (j1 (zpv 3) rfl) (ja (jQ (ja jf (ja (jv j9 (zpv 4) jg (fun _ _=>rfl)) (ja (jv j9 (zpv 4) jg (fun _ _=>rfl)) (ja (kC j0 (by rfl) B.tuple_ kL (ja (kD Zs (zpv 4) (kO jg) kU) jb)) (ja (kC j0 (by rfl) B.tuple_ kL (ja (zpv 5) jb)) jb)))))) jb)))))),?_⟩
 refine jG (σ':=[some (.ref L.r),some (.str (j8 (x :: g :: X) Y)),some (.int n),none,none,none]) rfl ?_
 try dsimp only[qo]
 refine yP ?_;intro _ _;obtain⟨B',As,eA,dx,vh,vf,cs,gs,ss,h1,h2,h3,h4,h5,h6,h7,h8,h9⟩:=Jj hR;refine⟨_,rfl,_,rfl,H0,L,ps,fs,G,B',As,n,rfl,hR,eA,?_⟩;refine jG (σ':=[some (.ref L.r),some (.str (j8 (x :: g :: X) Y)),some (.int n),some (.ref B'.b),none,none]) rfl ?_;refine⟨_,rfl,_,rfl,x :: g :: X,Y,j8 (x :: g :: X) Y,2,n,rfl,rfl,hz,hN,hl,by rw[aw,aw];omega,hn,fun p a b H1 s1 ep ea eb=>?_⟩;refine⟨p,_,rfl,SqT.of ep,rfl,_,_,rfl,_,_,rfl,rfl,?_⟩;refine jG (σ':=[some (.ref L.r),some (.str (j8 (x :: g :: X) Y)),some (.int n),some (.ref B'.b),some (.ref a),some (.ref b)]) rfl ?_;refine⟨_,rfl,B'.b,CB,dx,_,_,rfl,s1 _ _ h1,T.c,T.n6,rfl,.inl ⟨rfl,_,SqL.of (s1 _ _ h8)⟩,_,rfl,a,_,_,.str x,rfl,rfl,SqL.of ea,jr (j:=0) rfl,_,rfl,a,_,_,.str g,rfl,rfl,SqL.of ea,jr (j:=1) rfl,_,rfl,_,rfl,a,_,rfl,SqL.of ea,fun l hl'=>?_⟩;rw[show qw ((x :: g :: X).map V.str) (some 2) none=X.map V.str from jao _ 2];have s2:=ji hl' (.lst (X.map V.str));have e2:upd H1 l (.lst (X.map V.str)) l=some (.lst (X.map V.str)):=jc;generalize upd H1 l (.lst (X.map V.str))=H2 at *;refine⟨l,_,rfl,.inl ⟨SqL.of e2,fun t1 ht1=>?_⟩⟩;have s3:=ji ht1 (.tup (X.map V.str));refine⟨_,rfl,b,_,rfl,.inl ⟨SqL.of (s3 _ _ (s2 _ _ eb)),fun t2 ht2=>⟨sm rfl,fun t3 ht3=>?_⟩⟩⟩;have s4:=ji ht2 (.tup (Y.map V.str));have s5:=ji ht3 (.tup [V.str (aa "call"),V.str x,V.str g,.ref t1,.ref t2]);have s15:=s1.trans (s2.trans (s3.trans (s4.trans s5)));exact⟨B'.s,ss,_,rfl,rfl,s15 _ _ h8,kA (by rw[← h9.length];exact (hS.c G (am ..)).2.2),q _ L rfl ((hR.same s15).addS eA (s15 _ _ h8) (jy jc (je jw (je jw (je jw (je (jy ((s4.trans s5) _ _ jc) yD) (je (jy (s5 _ _ jc) yD) jz)))))))⟩
end
abbrev YX:Stmt:=top 10
abbrev jg9:Stmt:=top 9
abbrev Rel:Type:=RdS->Str->RdS->Prop
def ja3:List (Str×Rel):=[("proc",jfw),("need",jfx),("give",jfz),("keep",jfy),("back",jfC),("any",jkA),("claim",jca),("call",jfB),("if",RIf),("while",jb9),("else",jfA),("end",jjd)]
def JB(x:Str):Option Rel:=ja3.lookup x
def KH(S:RdS)(z:Str)(S':RdS):Prop:=match JB (mS (prt [32] (cd z)).1) with
 | some R=>R S (mS (prt [32] (cd z)).2) S'
 | none=>jeq S z S'
variable {S:RdS}
theorem Sz.mono(h:Sz n S){m:Nat}(hm:n≤m):Sz m S:=⟨ad h.p hm,ad h.f hm,fun F hF=>⟨ad (h.c F hF).1 hm,ad (h.c F hF).2.1 hm,ad (h.c F hF).2.2 hm⟩⟩
theorem Sz.top{ps:List D}{fs:List Fr}(h:Sz n (ps,F :: fs))(h1:F'.cl.length≤n+1)(h2:F'.gv.length≤n+1)(h3:F'.st.length≤n+1):Sz (n+1) (ps,F' :: fs):=⟨bv h.p,bv h.f,fun G hG=>by
 rcases ak.mp hG with rfl | hG
 ·exact⟨h1,h2,h3⟩
 ·have:=h.c G (ao _ hG)
  exact⟨bv this.1,bv this.2.1,bv this.2.2⟩⟩
theorem Sz.snoc{ps:List D}{fs:List Fr}(h:Sz n (ps,F :: fs))(d:D):Sz (n+1) (ps,yf F d :: fs):=by
 have:=h.c F (am ..);refine h.top (bv this.1) (bv this.2.1) ?_;show (F.st++[d]).length≤n+1;rw[af];exact c_ this.2.2
theorem Sz.push{ps:List D}{fs:List Fr}(h:Sz n (ps,fs))(k:Str)(d:D):Sz (n+1) (ps,⟨k,d,[],[],[],[]⟩ :: fs):=⟨bv h.p,c_ h.f,fun G hG=>by
 rcases ak.mp hG with rfl | hG
 ·exact⟨bm _,bm _,bm _⟩
 ·have:=h.c G hG
  exact⟨bv this.1,bv this.2.1,bv this.2.2⟩⟩
theorem Sz.tail{ps:List D}{fs:List Fr}(h:Sz n (ps,F :: fs)):Sz n (ps,fs):=⟨h.p,Nat.le_of_succ_le h.f,fun G hG=>h.c G (ao _ hG)⟩
theorem YF{α:Type}{l:List α}(x:α)(h:l.length≤n):(l++[x]).length≤n+1:=by rw[af];exact c_ h
variable {R:Rel}
theorem jef(h:JB x=some R):R=jfw∨R=jfx∨R=jfz∨R=jfy∨R=jfC∨R=jkA∨R=jca∨R=jfB∨R=RIf∨R=jb9∨R=jfA∨R=jjd:=by
 have:∀{l:List (Str×Rel)},l.lookup x=some R->R∈l.map (·.2):=by
  intro l;induction l with
  | nil=>intro h;cases h
  | cons p l ih=>
   intro h;rw[cN]at h;split at h
   ·cases h;exact am ..
   ·exact ao _ (ih h)
 have:=this (show ja3.lookup x=some R from h);simpa[ja3]using this
variable {S':RdS}
theorem jli{z:Str}(h:KH S z S')(hS:Sz n S):Sz (n+1) S':=by
 unfold KH at h;split at h
 ·rename_i R e
  rcases jef e with rfl | rfl | rfl | rfl | rfl | rfl | rfl | rfl | rfl | rfl | rfl | rfl
  ·obtain⟨ps,g,A,B,rfl,_,_,_,rfl⟩:=h
   exact hS.push _ _
  ·obtain⟨ps,F,fs,C,rfl,_,_,_,_,rfl⟩:=h
   have:=hS.c F (am ..);exact hS.top (YF _ this.1) (bv this.2.1) (bv this.2.2)
  ·obtain⟨ps,F,fs,C,rfl,_,_,_,rfl⟩:=h
   have:=hS.c F (am ..);exact hS.top (bv this.1) (YF _ this.2.1) (bv this.2.2)
  ·obtain⟨ps,F,fs,C,rfl,_,_,_,rfl⟩:=h
   have:=hS.c F (am ..);exact hS.top (YF _ this.1) (bv this.2.1) (bv this.2.2)
  ·obtain⟨ps,F,fs,a,b,c,rfl,_,_,_,rfl⟩:=h
   have:=hS.tail.mono (eN n);exact⟨YF _ hS.p,this.f,this.c⟩
  ·obtain⟨ps,F,fs,rfl,_,rfl⟩:=h
   exact hS.snoc _
  ·obtain⟨ps,F,fs,C,rfl,_,rfl⟩:=h
   exact hS.snoc _
  ·obtain⟨ps,F,fs,x,g,A,B,rfl,_,_,_,rfl⟩:=h
   exact hS.snoc _
  ·obtain⟨ps,F,fs,C,rfl,_,rfl⟩:=h
   exact hS.push _ _
  ·obtain⟨ps,F,fs,C,rfl,_,rfl⟩:=h
   exact hS.push _ _
  ·obtain⟨ps,F,fs,rfl,_,_,rfl⟩:=h
   have:=hS.c F (am ..);exact hS.top (bv this.1) (bv this.2.1) (bm _)
  ·obtain⟨ps,F,G,fs,rfl,_,_,rfl⟩:=h
   exact hS.tail.snoc _
 ·obtain⟨ps,F,fs,t,u,c,rfl,_,_,rfl⟩:=h
  exact hS.snoc _
theorem jaE(l:List Nat):(kS l).length≤l.length:=by
 unfold kS;rw[mU];exact ad ((lg _).length_le) (by rw[mU];exact (lg _).length_le)
def qF:List Str->RdS->RdS->Prop
 | [],S,S'=>S'=S
 | r :: R,S,S'=>∃S1,(if kS (cd r)=[] then S1=S else KH S (mS (kS (cd r))) S1)/\qF R S1 S'
structure Deeds(P:Program)(w:World)(K:ah)(mg:Str->Option Value)(base:Heap)(CR CB aD:Addr)(dv:Str->Option Addr):Prop where
 g:mg "DEEDS" = some (.ref aD)
 d:KDict K w aD fun x=>(dv x).map V.ref
 s:∀x f,dv x=some f->∃fd k R,FnOk P w K mg base CX0 k f fd ["reading","rest","line"] (Jo CR CB R)/\k≤10/\Binds K fd ["reading","rest","line"] []/\bO K (.ref f)=true/\JB x=some R
 n:∀x,dv x=none->JB x=none
def jeA:Sp:=fun vs H Q _=>∃(R:List Str) (ps:List D),vs=[.str (bz (aa "\n") R)]/\R≠[]/\(∀r∈R,10 ∉ cd r/\r.length≤1000)/\(bz (aa "\n") R).length≤10000000/\R.length≤50000/\qF R ([],[]) (ps,[])/\∀v H',Same H H'->Held H' (.tup ps) v->Q v H'
section
variable {CR aD:Addr}{dv:Str->Option Addr}
theorem jjW(F:Fun K "take_row" "take_row" YX f fd)(D:Deeds P w K mg base CR CB aD dv)(ii:Fn P w K mg base 8 "take_given" ["reading","text","line"] (Jo CR CB jeq)):FnOk P w K mg base CX0 11 f fd ["reading","text","line"] (Jo CR CB KH):=by
 have sc:FnScope ["reading","text","line","word","blank","rest","deed"] ["reading","text","line"] (jn YX):=fQ;refine F.okZ sc (fun vs H Q E h=>?_) (fun aj A outer s H vs Q E hr h=>?_)
 ·obtain⟨_,_,_,_,_,_,rfl,_⟩:=h
  rfl
 obtain⟨H0,L,S,S',z,n,rfl,hz,hn,hR,hS,hrow,q⟩:=h;refine⟨_,(jd (km (jN be eJ fD qM (zpv 1) (ja jf jb)) (kg rfl (jo (jm (i:=3) sc.nd rfl oQ) (jo (jm (i:=4) sc.nd rfl oQ) (jo (jm (i:=5) sc.nd rfl oQ) j4)))))
   (jh (jM (jA jlA (zpv 3) (JF (v:=.ref aD) (by rfl) D.g rfl) rfl) (jd (ju (i:=6) sc.nd rfl oQ (jgT (JF (v:=.ref aD) (by rfl) D.g rfl) (zpv 3)))
   (jh (jC (jji hr (zpv 6) (ja (zpv 0) (ja (zpv 5) (ja (zpv 2) jb))))))) (jh (jC (jp ii hr (ja (zpv 0) (ja (zpv 1) (ja (zpv 2) jb))))))))),?_⟩
 refine jG (σ':=[some (.ref L.r),some (.str z),some (.int n),none,none,none,none]) rfl ?_;obtain⟨b1,w1⟩:=Y1 (x:=z) (y:=aa " ") (by decide +kernel);rw[show cd (aa " ")=[32] from rfl]at w1;have l1:=Ku (sep:=[32]) (show (cd z).length≤1000 by rw[j3];exact hz);unfold KH at hrow;generalize prt [32] (cd z)=a at *;refine⟨_,rfl,rfl,z,aa " ",rfl,rfl,rfl,sz hz,fun p hp=>?_⟩;rw[w1];dsimp only;have s1:=ji hp (.tup [V.str (mS a.1),V.str b1,V.str (mS a.2)]);have e1:upd H p (.tup [V.str (mS a.1),V.str b1,V.str (mS a.2)]) p=some (.tup [V.str (mS a.1),V.str b1,V.str (mS a.2)]):=jc;generalize upd H p (.tup [V.str (mS a.1),V.str b1,V.str (mS a.2)])=H1 at *;refine⟨p,_,rfl,SqT.of e1,rfl,_,_,rfl,_,_,rfl,_,_,rfl,rfl,?_⟩;refine jG (σ':=[some (.ref L.r),some (.str z),some (.int n),some (.str (mS a.1)),some (.str b1),some (.str (mS a.2)),none]) rfl ?_;have hR1:=hR.same s1;refine⟨_,rfl,mS a.1,aD,_,rfl,rfl,D.d,_,rfl,?_⟩
 cases ed:dv (mS a.1) with
 | none=>
  rw[D.n _ ed]at hrow;exact kB ⟨_,rfl,_,rfl,_,rfl,H0,L,S,S',z,n,rfl,hz,hn,hR1,hS,hrow,q⟩
 | some g=>
  obtain⟨fdg,k,R,G,hk,hb,kp,er⟩:=D.s _ _ ed;rw[er]at hrow;refine kQ ⟨_,rfl,mS a.1,aD,_,.ref g,rfl,rfl,D.d,by rw[ed];rfl,?_⟩;refine jG (σ':=[some (.ref L.r),some (.str z),some (.int n),some (.str (mS a.1)),some (.str b1),some (.str (mS a.2)),some (.ref g)]) rfl ?_;exact⟨g,rfl,fdg,k,_,_,G,hk,hb,kp,_,rfl,_,rfl,_,rfl,H0,L,S,S',mS a.2,n,rfl,by rw[qE];exact l1.2,hn,hR1,hS,hrow,q⟩
theorem jh0(TR:ClsR K CR)(F:Fun K "read" "read" jg9 f fd)(B:Free0 mg)(g0:mg "enumerate" = none)(hJ:MkFn P w K mg base 1 "Reading" CR ["self"] (jaI CR))(ig:Fn P w K mg base 11 "take_row" ["reading","text","line"] (Jo CR CB KH)):FnOk P w K mg base CX0 12 f fd ["text"] jeA:=by
 have sc:FnScope ["text","rows","reading","line","row","told"] ["text"] (jn jg9):=fQ;refine F.okZ sc (fun vs H Q E h=>?_) (fun aj A outer s H vs Q E hr h=>?_)
 ·obtain⟨_,_,rfl,_⟩:=h
  rfl
 obtain⟨R,ps,rfl,hne,hrows,hlen,hcnt,hrd,q⟩:=h;refine⟨_,(jd (ju (i:=1) sc.nd rfl oQ (jN be gB pb jcL (zpv 0) (ja jf jb)))
   (jd (ju (i:=2) sc.nd rfl oQ (jjh hJ hr))
   (jd (zq cu rfl (jfG (by rfl) g0 (ja (zpv 1) jb)) (kg rfl (jo (jm (i:=3) sc.nd rfl oQ) (jo (jm (i:=4) sc.nd rfl oQ) j4))) (jd (ju (i:=5) sc.nd rfl oQ (jN be pi o8 jaT (zpv 4) (ja jf jb)))
   (jh (jM (jA jcF (zpv 5) jf (jD _)) (jh (jC (jp ig hr (ja (zpv 2) (ja (zpv 5) (ja (zpv 3) jb)))))) jH))))
   (jd (jM (jcb (j1 (zpv 2) rfl)) (jh YT) jH)
   (jh (jx (kC j0 (by rfl) B.tuple_ kL (ja (j1 (zpv 2) rfl) jb)))))))),?_⟩
 try dsimp only[qo]
 refine Zk ?_;intro _ _ _ _;generalize hT:bz (aa "\n") R=T at *;refine jG (σ':=[some (.str T),none,none,none,none,none]) rfl ?_;have hsp:eF T (aa "\n")=R:=by rw[← hT];exact ZO (c:=10) rfl hne fun r hr=>(hrows r hr).1
 refine⟨_,rfl,rfl,T,_,rfl,rfl,rfl,ad (rj hlen 2) (by decide),fun rl hrl=>?_⟩;rw[hsp];have s1:=ji hrl (.lst (R.map V.str));have e1:upd H rl (.lst (R.map V.str)) rl=some (.lst (R.map V.str)):=jc;generalize upd H rl (.lst (R.map V.str))=H1 at *;refine gQ ?_;refine (fun x dx hx hdx hne'=>⟨x,dx,rfl,jc,fun lp lb H2 kx hlp hlb hnl g1 g2 g3=>⟨rfl,?_⟩⟩);have fresh:∀a,upd (upd H1 dx (.own x)) x (.ins CR dx []) a=none->H1 a=none:=fun a ha=>by
  by_cases z:a=x
  ·rw[z,jc]at ha;cases ha
  by_cases z2:a=dx
  ·rw[js z,z2,jc]at ha;cases ha
  ·rw[js z,js z2]at ha;exact ha
 have s2:Same H1 H2:=fun b o e=>kx _ _ (jl e hx) (by rw[js (jl e hx),js (jl e hdx)];exact e)
 have R0:RdAt CR CB H1 H2 ⟨x,dx,lp,lb,[]⟩ [] []:=⟨g1,⟨[],g2,jz⟩,g3,True.intro,by simp[RdL.lsts,hnl],by simp[RdL.inss],fun a ha=>by
  have ha:a∈[lp,lb]:=ha;simp only[ak,bn,or_false]at ha;rcases ha with rfl | rfl
  ·exact fresh _ hlp
  ·exact fresh _ hlb,fun a ha=>by
  have ha:a∈[x]:=ha;rw[aJ.mp ha];exact hx,s2⟩
 clear g1 g2 g3 hlp hlb hnl kx fresh hx hdx;refine gQ ?_;refine⟨_,rfl,rl,rfl,⟨_,SqL.of (s2 _ _ e1)⟩,?_⟩;let Pv:Nat->St->Hp->Prop:=fun i σ G=>∃u3 u4 u5 L S,σ=[some (.str T),some (.ref rl),some (.ref x),u3,u4,u5]/\L.r=x/\RdAt CR CB H1 G L S.1 S.2/\Sz i S/\qF (R.drop i) S (ps,[])
 refine jgx (xs:=R.map V.str) Pv ⟨none,none,none,⟨x,dx,lp,lb,[]⟩,([],[]),rfl,rfl,R0,⟨av _,av _,fun _ z=>nomatch z⟩,hrd⟩ ?_ ?_ ?_
 ·rintro i σ G _ ⟨u3,u4,u5,L,S,rfl,_,hR,_,_⟩
  exact SqL.of (hR.s _ _ e1)
 ·rintro i y σ G t hy ⟨u3,u4,u5,L,S,rfl,rfl,hR,hS,hRd⟩ ht
  rw[bq]at hy;obtain⟨r,hr',rfl⟩:=iW.mp hy;have hi:i < R.length:=(bx.mp hr').1;have hrow:=hrows r (dh hr');have ed:R.drop i=r :: R.drop (i+1):=by rw[List.drop_eq_getElem_cons hi,(bx.mp hr').2]
  rw[ed]at hRd;obtain⟨S1,hst,hRd⟩:=hRd;have s3:=ji ht (.tup [.int ((i+1:Nat)),.str r]);have hR:=hR.same s3;have e3:upd G t (.tup [.int ((i+1:Nat)),.str r]) t=some (.tup [.int ((i+1:Nat)),.str r]):=jc;generalize upd G t (.tup [.int ((i+1:Nat)),.str r])=G1 at *;refine⟨t,_,rfl,SqT.of e3,rfl,_,_,rfl,_,_,rfl,rfl,?_⟩;refine jG (σ':=[some (.str T),some (.ref rl),some (.ref L.r),some (.int ((i+1:Nat))),some (.str r),u5]) rfl ?_;refine⟨_,rfl,rfl,r,_,rfl,rfl,sz hrow.2,?_⟩;rw[jcl];refine gQ ?_;refine⟨_,rfl,rfl,_,rfl,?_⟩;by_cases hz:kS (cd r)=[]
  ·rw[if_pos hz]at hst
   subst hst;rw[hz];refine qi (fun d=>absurd d (by decide +kernel)) (fun _=>?_);exact⟨_,_,_,L,S1,rfl,rfl,hR,hS.mono (eN i),hRd⟩
  ·rw[if_neg hz]at hst
   have hb:(!decide (V.str (mS (kS (cd r)))=V.str (aa "")))=true:=by
    rw[lj,decide_eq_false_iff_not];intro h;injection h with h;have:=congrArg cd h;rw[kX]at this;exact hz this
   rw[hb];refine kQ ?_;exact⟨_,rfl,_,rfl,_,rfl,H1,L,S,S1,mS (kS (cd r)),((i+1:Nat)),rfl,by rw[qE];exact ad (jaE _) (by rw[j3];exact hrow.2),by omega,hR,hS.mono (by omega),hst,fun G2 L2 eL hR2=>⟨_,_,_,L2,S1,rfl,eL,hR2,jli hst hS,hRd⟩⟩
 ·rintro σ G ⟨u3,u4,u5,L,S,rfl,rfl,hR,hS,hRd⟩
  rw[ae,List.drop_length]at hRd;have hRd:(ps,[])=S:=hRd;subst hRd;have eA:L.As=[]:=by
   have f:=hR.f
   cases e:L.As with
   | nil=>rfl
   | cons A As=>rw[e]at f;exact f.elim
  have hb:=hR.b;rw[eA]at hb;refine⟨_,rfl,L.r,CR,L.dx,_,_,rfl,hR.r,TR.c,TR.n2,rfl,_,jjm hb,?_⟩;refine kB ?_;obtain⟨pv,p1,p2⟩:=hR.p;refine⟨_,rfl,L.r,CR,L.dx,_,_,rfl,hR.r,TR.c,TR.n1,rfl,L.lp,_,rfl,.inl ⟨SqL.of p1,fun t ht=>?_⟩⟩;have s3:=ji ht (.tup pv);exact q _ _ (s1.trans (hR.s.trans s3)) (jy jc (p2.mono s3))
end
abbrev JT:Stmt:=top 51
abbrev K1:Stmt:=top 50
def qD:Sm->Str
 | .set x t c=>x++aa " := "++zb t c
 | .put r x d t c=>r++aa "["++kK x d++aa "] := "++zb t c
 | .any x=>aa "any "++x
 | .claim C=>aa "claim "++jB C
 | .call x f as rs=>j8 (aa "call" :: x :: f :: as) rs
def jP:(n:Nat)->Str->List (StN n)->List Str
 | 0=>fun _ _=>[]
 | n+1=>fun m l=>l.flatMap fun (s:Fo (StN n))=>match s with
  | .leaf S=>[m++qD S]
  | .ite a b c x y=>(m++aa "if "++jB (.least a b c)) :: (jP n (m++aa "  ") x++(m++aa "else") :: (jP n (m++aa "  ") y++[m++aa "end"]))
  | .whl a b c ks x=>(m++aa "while "++jB (.least a b c)) :: (ks.map (fun k=>m++aa "  keep "++jB k)++(jP n (m++aa "  ") x++[m++aa "end"]))
def qm(p:Pc):List Str:=j8 (aa "proc" :: p.f :: p.ps) p.rs :: (p.nd.map (fun k=>aa "  need "++jB k)++(p.gv.map (fun k=>aa "  give "++jB k)++(jP p.lv (aa "  ") p.bd++[aa "back"])))
def SmF:Sm->Prop
 | .set x t c=>j7 (cd x)=true/\TmF t/\Sml c
 | .put r x d t c=>j7 (cd r)=true/\NmE x/\Sml d/\TmF t/\Sml c
 | .any x=>j7 (cd x)=true
 | .claim C=>ClF C
 | .call x f as rs=>Nms (x :: f :: as++rs)/\(x :: f :: as++rs).length≤20
def StF:(n:Nat)->StN n->Prop
 | 0=>fun e=>nomatch (show Empty from e)
 | n+1=>fun (s:Fo (StN n))=>match s with
  | .leaf S=>SmF S
  | .ite a b c x y=>ClF (.least a b c)/\(∀t∈x,StF n t)/\∀t∈y,StF n t
  | .whl a b c ks x=>ClF (.least a b c)/\(∀k∈ks,ClF k)/\ks.length≤20/\∀t∈x,StF n t
structure PcF(p:Pc):Prop where
 hd:Nms (p.f :: p.ps++p.rs)
 hl:(p.f :: p.ps++p.rs).length≤20
 nd:∀k∈p.nd,ClF k
 gv:∀k∈p.gv,ClF k
 nl:p.nd.length≤20
 gl:p.gv.length≤20
 bd:∀s∈p.bd,StF p.lv s
theorem Kg{y:Str}(hy:y.length=1):∀{R:List Str} {k:Nat},(∀r∈R,r.length≤k)->(bz y R).length≤R.length * (k+1)
 | [],_,_=>by simp[bz,fX,aV]
 | [r],k,h=>by
  show r.length≤1 * (k+1);have:=h r (aJ.mpr rfl);omega
 | r :: s :: t,k,h=>by
  show (r++y++bz y (s :: t)).length≤_;rw[aU,aU,hy];have h1:=h r (am ..);have h2:=Kg hy (R:=s :: t) (k:=k) fun x hx=>h x (ao _ hx)
  rw[show (r :: s :: t).length=(s :: t).length+1 from rfl,iX];omega
variable {c:Int}
theorem jeI{t:Tm}(h:Held H (Sm.set x t c).toD v):∃a u,v=.ref a/\H a=some (.tup [.str "set",.str x,u,.int c])/\Held H t.toD u:=by
 obtain⟨a,xs,rfl,ha,h1⟩:=jF h;obtain⟨v1,r1,rfl,e1,h2⟩:=jk h1;obtain⟨v2,r2,rfl,e2,h3⟩:=jk h2;obtain⟨v3,r3,rfl,e3,h4⟩:=jk h3;obtain⟨v4,r4,rfl,e4,h5⟩:=jk h4
 cases jR h5
 cases jU e1
 cases jU e2
 cases qN e4
 exact⟨a,v3,rfl,ha,e3⟩
variable {r:Str}{d:Int}
theorem jeS{t:Tm}(h:Held H (Sm.put r x d t c).toD v):∃a b u,v=.ref a/\H a=some (.tup [.str "put",.str r,.ref b,u,.int c])/\H b=some (.tup [.str x,.int d])/\Held H t.toD u:=by
 obtain⟨a,xs,rfl,ha,h1⟩:=jF h;obtain⟨v1,r1,rfl,e1,h2⟩:=jk h1;obtain⟨v2,r2,rfl,e2,h3⟩:=jk h2;obtain⟨v3,r3,rfl,e3,h4⟩:=jk h3;obtain⟨v4,r4,rfl,e4,h5⟩:=jk h4;obtain⟨v5,r5,rfl,e5,h6⟩:=jk h5
 cases jR h6
 cases jU e1
 cases jU e2
 cases qN e5
 obtain⟨b,rfl,hb⟩:=J5 e3;exact⟨a,b,v4,rfl,ha,hb,e4⟩
variable {C:Cl}
theorem ja6(h:Held H (Sm.claim C).toD v):∃a u,v=.ref a/\H a=some (.tup [.str "claim",u])/\Held H C.toD u:=by
 obtain⟨a,xs,rfl,ha,h1⟩:=jF h;obtain⟨v1,r1,rfl,e1,h2⟩:=jk h1;obtain⟨v2,r2,rfl,e2,h3⟩:=jk h2
 cases jR h3
 cases jU e1
 exact⟨a,v2,rfl,ha,e2⟩
variable {rs:List Str}
theorem jdd{f:Str}{as:List Str}(h:Held H (Sm.call x f as rs).toD v):∃a b c,v=.ref a/\H a=some (.tup [.str "call",.str x,.str f,.ref b,.ref c])/\H b=some (.tup (as.map V.str))/\H c=some (.tup (rs.map V.str)):=by
 obtain⟨a,xs,rfl,ha,h1⟩:=jF h;obtain⟨v1,r1,rfl,e1,h2⟩:=jk h1;obtain⟨v2,r2,rfl,e2,h3⟩:=jk h2;obtain⟨v3,r3,rfl,e3,h4⟩:=jk h3;obtain⟨v4,r4,rfl,e4,h5⟩:=jk h4;obtain⟨v5,r5,rfl,e5,h6⟩:=jk h5
 cases jR h6
 cases jU e1
 cases jU e2
 cases jU e3
 obtain⟨b,xb,rfl,hb,hb'⟩:=jF e4;obtain⟨c,xc,rfl,hc,hc'⟩:=jF e5
 cases qY hb'
 cases qY hc'
 exact⟨a,b,c,rfl,ha,hb,hc⟩
theorem jfL{c:Str}{t:TJ}{σ:St}{Q:Str->Hp->Prop}(ho:c.length≤n)(hx:x.length≤400)(hn:n≤500)(h:t σ H (c++x) Q):∃z,V.str x=.str z/\z.length≤au/\∃y,V.str z=.str y/\(c++y).length≤au/\t σ H (c++y) Q:=⟨x,rfl,jL (by omega),x,rfl,jL (ad (la ho hx) (by omega)),h⟩
def Zr:Sp:=fun vs H Q _=>∃(v:V) (S:Sm),vs=[v]/\Held H S.toD v/\SmF S/\∀H',Same H H'->Q (.str (qD S)) H'
def ZS:Sp:=fun vs H Q _=>∃(l a b:Addr) (W X Y:List Str),vs=[.ref l,.ref a,.ref b]/\H l=some (.lst (W.map V.str))/\H a=some (.tup (X.map V.str))/\H b=some (.tup (Y.map V.str))/\(∀r∈W++X++Y,r.length≤8)/\(W++X++Y).length≤40/\∀H',Same H H'->Q (.str (j8 (W++X) Y)) H'
section
theorem jh5(F:Fun K "names_text" "names_text" JT f fd)(B:Free0 mg):FnOk P w K mg base CX0 1 f fd ["words","numbers","rows"] ZS:=by
 have sc:FnScope ["words","numbers","rows"] ["words","numbers","rows"] (jn JT):=fQ;refine F.okZ sc (fun vs H Q E h=>?_) (fun aj A outer s H vs Q E hr h=>?_)
 ·obtain⟨_,_,_,_,_,_,rfl,_⟩:=h
  rfl
 obtain⟨l,a,b,W,X,Y,rfl,hl,ha,hb,h8,h40,q⟩:=h;refine⟨_,(jh (jx (jN be eK eI yO jf (ja (jt kt (jt kt (jt kt (zpv 0) (kC qk (by rfl) B.list_ yj (ja (zpv 1) jb))) (jT (ja jf jb))) (kC qk (by rfl) B.list_ yj (ja (zpv 2) jb))) jb)))),?_⟩;refine jG (σ':=[some (.ref l),some (.ref a),some (.ref b)]) rfl ?_;refine⟨rfl,_,rfl,_,rfl,a,_,rfl,.inr (SqT.of ha),fun l1 hl1=>?_⟩;have s1:=ji hl1 (.lst (X.map V.str));have e1:upd H l1 (.lst (X.map V.str)) l1=some (.lst (X.map V.str)):=jc;generalize upd H l1 (.lst (X.map V.str))=H1 at *;simp only[af]at h40;refine jgI (s1 _ _ hl) e1 (by omega) fun l2 H2 s2 _ e2=>⟨sm rfl,fun l3 hl3=>?_⟩
 have s3:=ji hl3 (.lst ([aa ";"].map V.str));have e3:upd H2 l3 (.lst ([aa ";"].map V.str)) l3=some (.lst ([aa ";"].map V.str)):=jc;refine (?_:jjz (.ref l2) (.ref l3) (upd H2 l3 (.lst ([aa ";"].map V.str))) _);generalize upd H2 l3 (.lst ([aa ";"].map V.str))=H3 at *;refine jgI (s3 _ _ e2) e3 (by rw[af];show _+1≤_;omega) fun l4 H4 s4 _ e4=>⟨_,rfl,b,_,rfl,.inr (SqT.of ((s1.trans (s2.trans (s3.trans s4))) _ _ hb)),fun l5 hl5=>?_⟩
 have s5:=ji hl5 (.lst (Y.map V.str));have e5:upd H4 l5 (.lst (Y.map V.str)) l5=some (.lst (Y.map V.str)):=jc;generalize upd H4 l5 (.lst (Y.map V.str))=H5 at *;refine jgI (s5 _ _ e4) e5 (by rw[af,af];show _+1+_≤_;omega) fun l6 H6 s6 _ e6=>⟨_,l6,_,rfl,rfl,SqL.of e6,?_,?_⟩
 ·have hs:∀{zs:List Str},(∀r∈zs,r.length≤8)->(zs.map (·.length)).sum≤zs.length * 8:=by
   intro zs;induction zs with
   | nil=>intro _;exact av _
   | cons z zs ih=>
    intro h;have h1:=h z (am ..);have h2:=ih fun r hr=>h r (ao _ hr)
    rw[aX,i4,aw];omega
  have h1:=hs (zs:=W++X++[aa ";"]++Y) fun r hr=>by
   rcases aB.mp hr with hr | hr
   ·rcases aB.mp hr with hr | hr
    ·exact h8 r (bB _ hr)
    ·rw[aJ.mp hr];decide +kernel
   ·exact h8 r (aT _ hr)
  have h2:(aa " ").length=1:=rfl;have h3:(W++X++[aa ";"]++Y).length≤41:=by simp only[af,aw,a_];omega
  rw[h2];omega
 ·have:bZ (aa " ") (W++X++[aa ";"]++Y)=j8 (W++X) Y:=by
   rw[show bZ (aa " ") (W++X++[aa ";"]++Y)=(aa " ").join (W++X++[aa ";"]++Y) from fz _ _];unfold j8;rw[aG (W++X)];rfl
  rw[this];exact q _ (s1.trans (s2.trans (s3.trans (s4.trans (s5.trans s6)))))
theorem jh4(F:Fun K "plain_row" "plain_row" K1 f fd)(bj:Fn P w K mg base 4 "term_text" ["term","c"] jbm)(bC:Fn P w K mg base 2 "place_text" ["place"] Ys)(aO:Fn P w K mg base 5 "claim_text" ["claim"] yp)(eW:Fn P w K mg base 1 "names_text" ["words","numbers","rows"] ZS):FnOk P w K mg base CX0 6 f fd ["statement"] Zr:=by
 have sc:FnScope ["statement","kind","x","a","c","r","place","f","args","rows"] ["statement"] (jn K1):=fQ;refine F.okZ sc (fun vs H Q E h=>?_) (fun aj A outer s H vs Q E hr h=>?_)
 ·obtain⟨_,_,rfl,_⟩:=h
  rfl
 obtain⟨v,S,rfl,hv,hS,q⟩:=h;refine⟨_,(jd (ju (i:=1) sc.nd rfl oQ (jv jE (zpv 0) jg (fun _ _=>rfl)))
   (jd (jM (jA j5 (zpv 1) jf (jD _)) (jd (km (kD Jp (zpv 0) (kO jg) kU) (kg rfl (jo (jm (i:=2) sc.nd rfl oQ) (jo (jm (i:=3) sc.nd rfl oQ) (jo (jm (i:=4) sc.nd rfl oQ) j4)))))
   (jh (jx (kF (jI (ki (zpv 2)) (jI jf (jI (ki (jp bj hr (ja (zpv 3) (ja (zpv 4) jb)))) qp))))))) jH)
   (jd (jM (jA j5 (zpv 1) jf (jD _)) (jd (km (kD Jp (zpv 0) (kO jg) kU) (kg rfl (jo (jm (i:=5) sc.nd rfl oQ) (jo (jm (i:=6) sc.nd rfl oQ) (jo (jm (i:=3) sc.nd rfl oQ) (jo (jm (i:=4) sc.nd rfl oQ) j4))))))
   (jh (jx (kF (jI (ki (zpv 5)) (jI jf (jI (ki (jp bC hr (ja (zpv 6) jb))) (jI jf (jI (ki (jp bj hr (ja (zpv 3) (ja (zpv 4) jb)))) qp))))))))) jH)
   (jd (jM (jA j5 (zpv 1) jf (jD _)) (jh (jx (kF (jI jf (jI (ki (jv jE (zpv 0) jg (fun _ _=>rfl))) qp))))) jH)
   (jd (jM (jA j5 (zpv 1) jf (jD _)) (jh (jx (kF (jI jf (jI (ki (jp aO hr (ja (jv jE (zpv 0) jg (fun _ _=>rfl)) jb))) qp))))) jH)
   (jd (km (kD Jp (zpv 0) (kO jg) kU) (kg rfl (jo (jm (i:=2) sc.nd rfl oQ) (jo (jm (i:=7) sc.nd rfl oQ) (jo (jm (i:=8) sc.nd rfl oQ) (jo (jm (i:=9) sc.nd rfl oQ) j4))))))
   (jh (jx (jp eW hr (ja (jT (ja jf (ja (zpv 2) (ja (zpv 7) jb)))) (ja (zpv 8) (ja (zpv 9) jb)))))))))))),?_⟩
 refine jG (σ':=[some v,none,none,none,none,none,none,none,none,none]) rfl ?_
 try dsimp only[qo]
 refine Zj ?_;intro _ _ _ _ _ _
 cases S with
 | set x t c=>
  obtain⟨a,u,rfl,ha,hu⟩:=jeI hv;obtain⟨h1,h2,h3⟩:=hS;have h8:=ko h1;have ht:=qC (yd h2) (qV h3);refine⟨_,rfl,a,_,_,_,rfl,rfl,SqT.of ha,jr (j:=0) rfl,?_⟩;refine gQ ?_;refine⟨_,rfl,rfl,_,rfl,kQ ?_⟩;refine⟨_,rfl,_,rfl,a,_,rfl,SqT.of ha,(fun h=>absurd h.1 (by show ¬(HT.sIx 4 0 (some 1)=0);decide)),fun p hp=>?_⟩;have s1:=ji hp (.tup (qw [.str "set",.str x,u,.int c] (some 1) none));have e1:upd H p (.tup (qw [.str "set",.str x,u,.int c] (some 1) none)) p=some (.tup [.str x,u,.int c]):=jc;generalize upd H p (.tup (qw [.str "set",.str x,u,.int c] (some 1) none))=H1 at *;refine⟨p,_,rfl,SqT.of e1,rfl,_,_,rfl,_,_,rfl,_,_,rfl,rfl,?_⟩;refine jG (σ':=[some (.ref a),some (.str (aa "set")),some (.str x),some u,some (.int c),none,none,none,none,none]) rfl ?_;dsimp only;refine jfE (x:=x) (n:=0) (av _) (ad h8 (by decide)) (by decide) (fun q h=>⟨_,rfl,h⟩) fun o1=>jcE o1 (by decide +kernel) (by decide) fun o2=>?_
  refine⟨_,rfl,_,rfl,u,t,c,rfl,hu.mono s1,yd h2,qV h3,fun H2 s2=>jfL o2 (ad ht (by decide)) (by decide) ⟨jL (ad (la o2 ht) (by decide)),?_⟩⟩;rw[kj];exact q _ (s1.trans s2)
 | put r x d t c=>
  obtain⟨a,b,u,rfl,ha,hb,hu⟩:=jeS hv;obtain⟨h1,h2,h3,h4,h5⟩:=hS;have h8:=ko h1;have ht:=qC (yd h4) (qV h5);have hm:=kI (yF h2) (qV h3);refine⟨_,rfl,a,_,_,_,rfl,rfl,SqT.of ha,jr (j:=0) rfl,?_⟩;refine gQ ?_;refine⟨_,rfl,rfl,_,rfl,kB ?_⟩
  try unfold yo
  refine⟨_,rfl,rfl,_,rfl,kQ ?_⟩;refine⟨_,rfl,_,rfl,a,_,rfl,SqT.of ha,(fun h=>absurd h.1 (by show ¬(HT.sIx 5 0 (some 1)=0);decide)),fun p hp=>?_⟩;have s1:=ji hp (.tup (qw [.str "put",.str r,.ref b,u,.int c] (some 1) none));have e1:upd H p (.tup (qw [.str "put",.str r,.ref b,u,.int c] (some 1) none)) p=some (.tup [.str r,.ref b,u,.int c]):=jc;generalize upd H p (.tup (qw [.str "put",.str r,.ref b,u,.int c] (some 1) none))=H1 at *;refine⟨p,_,rfl,SqT.of e1,rfl,_,_,rfl,_,_,rfl,_,_,rfl,_,_,rfl,rfl,?_⟩;refine jG (σ':=[some (.ref a),some (.str (aa "put")),none,some u,some (.int c),some (.str r),some (.ref b),none,none,none]) rfl ?_;dsimp only;refine jfE (x:=r) (n:=0) (av _) (ad h8 (by decide)) (by decide) (fun q h=>⟨_,rfl,h⟩) fun o1=>jcE o1 (by decide +kernel) (by decide) fun o2=>jfE (x:=kK x d) o2 (ad hm (by decide)) (by decide) (fun q h=>⟨_,rfl,.ref b,x,d,rfl,YH (s1 _ _ hb),yF h2,qV h3,h⟩) fun o3=>jcE o3 (by decide +kernel) (by decide) fun o4=>?_
  refine⟨_,rfl,_,rfl,u,t,c,rfl,hu.mono s1,yd h4,qV h5,fun H2 s2=>jfL o4 (ad ht (by decide)) (by decide) ⟨jL (ad (la o4 ht) (by decide)),?_⟩⟩;rw[kj];exact q _ (s1.trans s2)
 | any x=>
  obtain⟨a,rfl,ha⟩:=zc (show Held H (.tup [.str "any",.str x]) v from hv);have h8:=ko (show j7 (cd x)=true from hS);refine⟨_,rfl,a,_,_,_,rfl,rfl,SqT.of ha,jr (j:=0) rfl,?_⟩;refine gQ ?_;refine⟨_,rfl,rfl,_,rfl,kB ?_⟩
  try unfold yo
  refine⟨_,rfl,rfl,_,rfl,kB ?_⟩
  try unfold yo
  refine⟨_,rfl,rfl,_,rfl,kQ ?_⟩;refine jcE (n:=0) (av _) (by decide +kernel) (by decide) fun o1=>jfE (x:=x) o1 (ad h8 (by decide)) (by decide) (fun q h=>⟨_,rfl,a,_,_,_,rfl,rfl,SqT.of ha,jr (j:=1) rfl,h⟩) fun o2=>⟨jL (ad o2 (by decide)),?_⟩
  rw[kj];exact q _ (Same.refl H)
 | claim C=>
  obtain⟨a,u,rfl,ha,hu⟩:=ja6 hv;have hsh:=yR (show ClF C from hS);have hl:=qd hsh;refine⟨_,rfl,a,_,_,_,rfl,rfl,SqT.of ha,jr (j:=0) rfl,?_⟩;refine gQ ?_;refine⟨_,rfl,rfl,_,rfl,kB ?_⟩
  try unfold yo
  refine⟨_,rfl,rfl,_,rfl,kB ?_⟩
  try unfold yo
  refine⟨_,rfl,rfl,_,rfl,kB ?_⟩
  try unfold yo
  refine⟨_,rfl,rfl,_,rfl,kQ ?_⟩;refine jcE (n:=0) (av _) (by decide +kernel) (by decide) fun o1=>?_
  refine⟨_,rfl,a,_,_,_,rfl,rfl,SqT.of ha,jr (j:=1) rfl,u,C,rfl,hu,hsh,fun H2 s2=>jfL o1 hl (by decide) ⟨jL (ad (la o1 hl) (by decide)),?_⟩⟩;rw[kj];exact q _ s2
 | call x g as rs=>
  obtain⟨a,b,c,rfl,ha,hb,hc⟩:=jdd hv;obtain⟨h1,h2⟩:=hS;refine⟨_,rfl,a,_,_,_,rfl,rfl,SqT.of ha,jr (j:=0) rfl,?_⟩;refine gQ ?_;refine⟨_,rfl,rfl,_,rfl,kB ?_⟩
  try unfold yo
  refine⟨_,rfl,rfl,_,rfl,kB ?_⟩
  try unfold yo
  refine⟨_,rfl,rfl,_,rfl,kB ?_⟩
  try unfold yo
  refine⟨_,rfl,rfl,_,rfl,kB ?_⟩
  try unfold yo
  refine⟨_,rfl,_,rfl,a,_,rfl,SqT.of ha,(fun h=>absurd h.1 (by show ¬(HT.sIx 5 0 (some 1)=0);decide)),fun p hp=>?_⟩;have s1:=ji hp (.tup (qw [.str "call",.str x,.str g,.ref b,.ref c] (some 1) none));have e1:upd H p (.tup (qw [.str "call",.str x,.str g,.ref b,.ref c] (some 1) none)) p=some (.tup [.str x,.str g,.ref b,.ref c]):=jc;generalize upd H p (.tup (qw [.str "call",.str x,.str g,.ref b,.ref c] (some 1) none))=H1 at *;refine⟨p,_,rfl,SqT.of e1,rfl,_,_,rfl,_,_,rfl,_,_,rfl,_,_,rfl,rfl,?_⟩;refine jG (σ':=[some (.ref a),some (.str (aa "call")),some (.str x),none,none,none,none,some (.str g),some (.ref b),some (.ref c)]) rfl ?_;refine⟨_,rfl,_,rfl,sm rfl,fun l hl=>?_⟩;have s2:=ji hl (.lst ([aa "call",x,g].map V.str));have e2:upd H1 l (.lst ([aa "call",x,g].map V.str)) l=some (.lst ([aa "call",x,g].map V.str)):=jc;refine⟨_,rfl,_,rfl,l,b,c,[aa "call",x,g],as,rs,rfl,e2,(s1.trans s2) _ _ hb,(s1.trans s2) _ _ hc,fun r hr=>?_,?_,fun H2 s3=>q _ (s1.trans (s2.trans s3))⟩
  ·have hm:r=aa "call"∨r∈x :: g :: as++rs:=by
    simp only[aB,ak,bn,or_false]at hr ⊢;rcases hr with ((h | h | h) | h) | h
    ·exact .inl h
    ·exact .inr (.inl (.inl h))
    ·exact .inr (.inl (.inr (.inl h)))
    ·exact .inr (.inl (.inr (.inr h)))
    ·exact .inr (.inr h)
   rcases hm with rfl | hm
   ·decide +kernel
   ·exact ko (h1 r hm)
  ·simp only[af,aw,a_]at h2 ⊢
   omega
end
abbrev zH:Stmt:=top 47
abbrev Yx:Stmt:=top 48
abbrev zS:Stmt:=top 49
def JC{n:Nat}(m:Str)(s:Fo (StN n)):List Str:=match s with
  | .leaf S=>[m++qD S]
  | .ite a b c x y=>(m++aa "if "++jB (.least a b c)) :: (jP n (m++aa "  ") x++(m++aa "else") :: (jP n (m++aa "  ") y++[m++aa "end"]))
  | .whl a b c ks x=>(m++aa "while "++jB (.least a b c)) :: (ks.map (fun k=>m++aa "  keep "++jB k)++(jP n (m++aa "  ") x++[m++aa "end"]))
theorem Kt(n:Nat)(m:Str)(l r:List (StN (n+1))):jP (n+1) m (l++r)=jP (n+1) m l++jP (n+1) m r:=dN (xs:=(l:List (Fo (StN n)))) (ys:=r) (f:=fun s=>JC m s)
theorem jaL(n:Nat)(m:Str)(s:StN (n+1)):jP (n+1) m [s]=JC (n:=n) m s:=bF _
def zw(n:Nat):Sp:=fun vs H Q _=>∃(v:V) (m:Str) (l:List (StN n)),vs=[v,.str m]/\Held H (.tup (l.map (stD n))) v/\(∀s∈l,StF n s)/\m.length+2 * n≤60/\(jP n m l).length≤100000/\∀a H',Same H H'->H' a=some (.lst ((jP n m l).map V.str))->Q (.ref a) H'
def jaH(n:Nat)(T:Fo (StN n)->Prop):Sp:=fun vs H Q _=>∃(v:V) (m:Str) (s:Fo (StN n)),T s/\vs=[v,.str m]/\Held H (stD (n+1) s) v/\StF (n+1) s/\m.length+2 * (n+1)≤60/\(JC m s).length≤100000/\∀a H',Same H H'->H' a=some (.lst ((JC m s).map V.str))->Q (.ref a) H'
def jiB{α:Type}:Fo α->Prop
 | .ite _ _ _ _ _=>True
 | _=>False
def jiA{α:Type}:Fo α->Prop
 | .whl _ _ _ _ _=>True
 | _=>False
theorem jlc{S:Sm}(h:Held H S.toD v):∃a t r,v=.ref a/\H a=some (.tup (.str t :: r))/\t≠aa "if"/\t≠aa "while":=by
 have key:∀{t:Str} {ds:List D},Held H (.tup (.str t :: ds)) v->t≠aa "if"->t≠aa "while"->∃a t r,v=.ref a/\H a=some (.tup (.str t :: r))/\t≠aa "if"/\t≠aa "while":=fun h n1 n2=>by
  obtain⟨a,xs,rfl,ha,h1⟩:=jF h;obtain⟨v1,r1,rfl,e1,h2⟩:=jk h1
  cases jU e1
  exact⟨a,_,r1,rfl,ha,n1,n2⟩
 cases S with
 | set _ _ _=>exact key h (by decide +kernel) (by decide +kernel)
 | put _ _ _ _ _=>exact key h (by decide +kernel) (by decide +kernel)
 | any _=>exact key h (by decide +kernel) (by decide +kernel)
 | claim _=>exact key h (by decide +kernel) (by decide +kernel)
 | call _ _ _ _=>exact key h (by decide +kernel) (by decide +kernel)
theorem jaQ{S:Sm}(h:SmF S):(qD S).length≤600:=by
 cases S with
 | set x t c=>
  obtain⟨h1,h2,h3⟩:=h;exact ad (la (la (ko h1) (show (aa " := ").length≤4 by decide +kernel)) (qC (yd h2) (qV h3))) (by decide)
 | put r x d t c=>
  obtain⟨h1,h2,h3,h4,h5⟩:=h;exact ad (la (la (la (la (ko h1) (show (aa "[").length≤1 by decide +kernel)) (kI (yF h2) (qV h3))) (show (aa "] := ").length≤5 by decide +kernel)) (qC (yd h4) (qV h5))) (by decide)
 | any x=>exact ad (la (show (aa "any ").length≤4 by decide +kernel) (ko h)) (by decide)
 | claim C=>exact ad (la (show (aa "claim ").length≤6 by decide +kernel) (qd (yR h))) (by decide)
 | call x f as rs=>
  obtain⟨h1,h2⟩:=h;refine ad (Kg (k:=8) rfl fun r hr=>?_) ?_
  ·simp only[aB,ak]at hr
   rcases hr with (h | h | h | h) | h | h
   ·rw[h];decide +kernel
   ·exact ko (h1 r (by simp[h]))
   ·exact ko (h1 r (by simp[h]))
   ·exact ko (h1 r (by simp[h]))
   ·rw[h];decide +kernel
   ·exact ko (h1 r (by simp[h]))
  ·simp only[af,aw]at h2 ⊢
   omega
theorem zU{α:Type}(s:Fo α):(∃S,s=.leaf S)∨(∃a b c x y,s=.ite a b c x y)∨∃a b c ks x,s=.whl a b c ks x:=by
 cases s with
 | leaf S=>exact .inl ⟨S,rfl⟩
 | ite a b c x y=>exact .inr (.inl ⟨a,b,c,x,y,rfl⟩)
 | whl a b c ks x=>exact .inr (.inr ⟨a,b,c,ks,x,rfl⟩)
theorem Same.touch{o:HO}(s:Same H G)(h:H a=none):Same H (upd G a o):=fun b u e=>by rw[js (jl e h)];exact s _ _ e
section
theorem jic(F:Fun K "body_rows" "body_rows" zH f fd)(ir:Fn P w K mg base (8+2 * n) "if_rows" ["statement","margin"] (jaH n jiB))(ic:Fn P w K mg base (8+2 * n) "while_rows" ["statement","margin"] (jaH n jiA))(cQ:Fn P w K mg base 6 "plain_row" ["statement"] Zr):FnOk P w K mg base CX0 (8+2 * n+1) f fd ["body","margin"] (zw (n+1)):=by
 have sc:FnScope ["body","margin","told","statement"] ["body","margin"] (jn zH):=fQ;refine F.okZ sc (fun vs H Q E h=>?_) (fun aj A outer s H vs Q E hr h=>?_)
 ·obtain⟨_,_,_,rfl,_⟩:=h
  rfl
 obtain⟨v,m,l,rfl,hv,hF,hm,hl,q⟩:=h;refine⟨_,(jd (ju (i:=2) sc.nd rfl oQ (jT jb))
   (jd (zq cu rfl (qS (zpv 0)) (jm (i:=3) sc.nd rfl oQ) (jh (jM (jA j5 (jv jE (zpv 3) jg (fun _ _=>rfl)) jf (jD _)) (jh (jC (jN aF cx cw qr (zpv 2) (ja (jJ ir hr (ja (zpv 3) (ja (zpv 1) jb))) jb)))) (jh (jM (jA j5 (jv jE (zpv 3) jg (fun _ _=>rfl)) jf (jD _)) (jh (jC (jN aF cx cw qr (zpv 2) (ja (jJ ic hr (ja (zpv 3) (ja (zpv 1) jb))) jb)))) (jh (jC (jN aF aS aR jW (zpv 2) (ja (jt jq (zpv 1) (jJ cQ hr (ja (zpv 3) jb))) jb)))))))))
   (jh (jx (zpv 2))))),?_⟩
 try dsimp only[qo]
 refine yP ?_;intro _ _;obtain⟨a,us,rfl,ha,hu⟩:=jF hv;refine jG (σ':=[some (.ref a),some (.str m),none,none]) rfl ?_;refine⟨sm rfl,fun tl htl=>?_⟩;have s1:=ji htl (.lst []);have e1:upd H tl (.lst []) tl=some (.lst []):=jc;generalize upd H tl (.lst [])=H1 at *;refine gQ ?_;refine⟨_,rfl,a,rfl,⟨_,SqT.of (s1 _ _ ha)⟩,?_⟩;have hlu:us.length=l.length:=by rw[← hu.length,ae]
 let Pv:Nat->St->Hp->Prop:=fun i σ G=>∃u3,σ=[some (.ref a),some (.str m),some (.ref tl),u3]/\Same H G/\G tl=some (.lst ((jP (n+1) m (l.take i)).map V.str))
 refine Ju (xs:=us) Pv ⟨none,rfl,s1,e1⟩ ?_ ?_ ?_
 ·rintro i σ G _ ⟨u3,rfl,sG,_⟩
  exact SqT.of (sG _ _ ha)
 ·rintro i x σ G hx ⟨u3,rfl,sG,hG⟩
  have hi:i < l.length:=by rw[← hlu];exact (bx.mp hx).1
  obtain⟨x',hx',hxd⟩:=hu.get (j:=i) (d:=stD (n+1) l[i]) (by rw[bq,aE hi];rfl);rw[hx]at hx'
  cases hx'
  have hfit:=hF l[i] (bW hi);have htk:l.take (i+1)=l.take i++[l[i]]:=by rw[cL,aE hi];rfl
  have hrw:jP (n+1) m (l.take (i+1))=jP (n+1) m (l.take i)++JC m l[i]:=by
   rw[htk,Kt,jaL]
  have hcount:(jP (n+1) m (l.take i)).length+(JC m l[i]).length≤100000:=by
   rw[← af,← hrw];refine ad ?_ hl;have:jP (n+1) m l=jP (n+1) m (l.take (i+1))++jP (n+1) m (l.drop (i+1)):=by
    rw[← Kt,eO]
   rw[this,af];omega
  have hxd:=hxd.mono sG;generalize l[i]=s at *;refine gQ ?_;have ext:∀{a1:Addr} {G1:Hp},Same G G1->G1 a1=some (.lst ((JC m s).map V.str))->jeQ (.ref tl) [.ref a1] G1 fun _ G2=>Pv (i+1) [some (.ref a),some (.str m),some (.ref tl),some x] G2:=fun {a1 G1} sG1 e1=>by
   refine⟨tl,a1,_,_,rfl,rfl,sG1 _ _ hG,e1,bE (kA (by rw[ae,ae];exact hcount)),_,rfl,?_,?_⟩
   ·intro c o e
    have hc:c≠tl:=fun z=>by rw[z]at e;rw[e]at htl;cases htl
    rw[js hc];exact sG1 _ _ (sG _ _ e)
   ·rw[jc,hrw,aH]
  rcases zU (show Fo (StN n) from s) with⟨S,rfl⟩ | ⟨a',b',c',x',y',rfl⟩ | ⟨a',b',c',ks,x',rfl⟩
  ·obtain⟨b,t,r,rfl,hb,n1,n2⟩:=jlc (show Held G S.toD x from hxd)
   have d1:¬(decide (V.str t=V.str (aa "if"))=true):=fun h=>n1 (by have:=of_decide_eq_true h;injection this)
   have d2:¬(decide (V.str t=V.str (aa "while"))=true):=fun h=>n2 (by have:=of_decide_eq_true h;injection this)
   refine⟨_,rfl,b,_,_,_,rfl,rfl,SqT.of hb,jr (j:=0) rfl,rfl,_,rfl,qi (fun d=>absurd d d1) (fun _=>?_)⟩;refine⟨_,rfl,b,_,_,_,rfl,rfl,SqT.of hb,jr (j:=0) rfl,rfl,_,rfl,qi (fun d=>absurd d d2) (fun _=>?_)⟩;have hp:=jaQ (show SmF S from hfit);refine⟨_,rfl,.inl ⟨rfl,_,SqL.of hG⟩,_,rfl,_,rfl,.ref b,S,rfl,hxd,hfit,fun G1 sG1=>⟨_,_,rfl,rfl,jL (by omega),?_⟩⟩;refine⟨tl,_,_,rfl,rfl,sG1 _ _ hG,kA (by rw[ae];omega),_,rfl,?_,?_⟩
   ·intro c o e
    have hc:c≠tl:=fun z=>by rw[z]at e;rw[e]at htl;cases htl
    rw[js hc];exact sG1 _ _ (sG _ _ e)
   ·rw[jc,hrw,aH]
    rfl
  ·obtain⟨t,u,p,q',xs',ys',rfl,ht,_⟩:=jbN (show Held G (Nd.ite a' b' c' (x'.map (stD n)) (y'.map (stD n))).toD x from hxd)
   refine⟨_,rfl,t,_,_,_,rfl,rfl,SqT.of ht,jr (j:=0) rfl,rfl,_,rfl,kQ ?_⟩;exact⟨_,rfl,.inl ⟨rfl,_,SqL.of hG⟩,_,rfl,_,rfl,.ref t,m,.ite a' b' c' x' y',True.intro,rfl,hxd,hfit,hm,by omega,fun a1 G1 sG1 e1=>ext sG1 e1⟩
  ·obtain⟨t,u,p,q',xs',ys',rfl,ht,_⟩:=jbh (show Held G (Nd.whl a' b' c' ks (x'.map (stD n))).toD x from hxd)
   refine⟨_,rfl,t,_,_,_,rfl,rfl,SqT.of ht,jr (j:=0) rfl,rfl,_,rfl,kB ?_⟩;refine⟨_,rfl,t,_,_,_,rfl,rfl,SqT.of ht,jr (j:=0) rfl,rfl,_,rfl,kQ ?_⟩;exact⟨_,rfl,.inl ⟨rfl,_,SqL.of hG⟩,_,rfl,_,rfl,.ref t,m,.whl a' b' c' ks x',True.intro,rfl,hxd,hfit,hm,by omega,fun a1 G1 sG1 e1=>ext sG1 e1⟩
 ·rintro σ G ⟨u3,rfl,sG,hG⟩
  rw[hlu,cy]at hG;exact⟨_,rfl,q _ _ sG hG⟩
theorem jlE(F:Fun K "if_rows" "if_rows" Yx f fd)(aO:Fn P w K mg base 5 "claim_text" ["claim"] yp)(dr:Fn P w K mg base (7+2 * n) "body_rows" ["body","margin"] (zw n)):FnOk P w K mg base CX0 (7+2 * n+1) f fd ["statement","margin"] (jaH n jiB):=by
 have sc:FnScope ["statement","margin","least","body","other","told"] ["statement","margin"] (jn Yx):=fQ;refine F.okZ sc (fun vs H Q E h=>?_) (fun aj A outer s H vs Q E hr h=>?_)
 ·obtain⟨_,_,_,_,rfl,_⟩:=h
  rfl
 obtain⟨v,m,s,hi,rfl,hv,hF,hm,hl,q⟩:=h;refine⟨_,(jd (km (kD Jp (zpv 0) (kO jg) kU) (kg rfl (jo (jm (i:=2) sc.nd rfl oQ) (jo (jm (i:=3) sc.nd rfl oQ) (jo (jm (i:=4) sc.nd rfl oQ) j4)))))
   (jd (ju (i:=5) sc.nd rfl oQ (jT (ja (kF (jI (ki (zpv 1)) (jI jf (jI (ki (jJ aO hr (ja (zpv 2) jb))) qp)))) jb)))
   (jd (jC (jN aF cx cw qr (zpv 5) (ja (jJ dr hr (ja (zpv 3) (ja (jt jq (zpv 1) jf) jb))) jb)))
   (jd (jC (jN aF aS aR jW (zpv 5) (ja (kF (jI (ki (zpv 1)) (jI jf qp))) jb)))
   (jd (jC (jN aF cx cw qr (zpv 5) (ja (jJ dr hr (ja (zpv 4) (ja (jt jq (zpv 1) jf) jb))) jb)))
   (jd (jC (jN aF aS aR jW (zpv 5) (ja (kF (jI (ki (zpv 1)) (jI jf qp))) jb)))
   (jh (jx (zpv 5))))))))),?_⟩
 try dsimp only[qo]
 refine Zj ?_;intro _ _ _ _ _ _;rcases zU s with⟨S,rfl⟩ | ⟨a',b',c',x',y',rfl⟩ | ⟨a',b',c',ks,x',rfl⟩
 ·exact hi.elim
 rotate_left
 ·exact hi.elim
 obtain⟨t,u,p,q',xs',ys',rfl,ht,hu,hp,hx,hq,hy⟩:=jbN (show Held H (Nd.ite a' b' c' (x'.map (stD n)) (y'.map (stD n))).toD v from hv);obtain⟨f1,f2,f3⟩:=(show ClF (.least a' b' c')/\(∀t∈x',StF n t)/\∀t∈y',StF n t from hF)
 have hsh:=yR f1;have hcl:=qd hsh;have hm':m.length≤100:=by omega
 have e2:(aa "  ").length=2:=rfl;have hl:((m++aa "if "++jB (.least a' b' c')) :: (jP n (m++aa "  ") x'++(m++aa "else") :: (jP n (m++aa "  ") y'++[m++aa "end"]))).length≤100000:=hl;have q:∀a H',Same H H'->H' a=some (.lst (((m++aa "if "++jB (.least a' b' c')) :: (jP n (m++aa "  ") x'++(m++aa "else") :: (jP n (m++aa "  ") y'++[m++aa "end"]))).map V.str))->Q (.ref a) H':=q;have hmm:(m++aa "  ").length+2 * n≤60:=by rw[aU,e2];omega
 simp only[af,aw,a_]at hl;refine jG (σ':=[some (.ref t),some (.str m),none,none,none,none]) rfl ?_;refine⟨_,rfl,_,rfl,t,_,rfl,SqT.of ht,(fun h=>absurd h.1 (by show ¬(HT.sIx 4 0 (some 1)=0);decide)),fun p1 hp1=>?_⟩;have s1:=ji hp1 (.tup (qw [.str "if",u,.ref p,.ref q'] (some 1) none));have e1:upd H p1 (.tup (qw [.str "if",u,.ref p,.ref q'] (some 1) none)) p1=some (.tup [u,.ref p,.ref q']):=jc;generalize upd H p1 (.tup (qw [.str "if",u,.ref p,.ref q'] (some 1) none))=H1 at *;refine⟨p1,_,rfl,SqT.of e1,rfl,_,_,rfl,_,_,rfl,_,_,rfl,rfl,?_⟩;refine jG (σ':=[some (.ref t),some (.str m),some u,some (.ref p),some (.ref q'),none]) rfl ?_;dsimp only;refine jfE (x:=m) (n:=0) (av _) hm' (by decide) (fun q h=>⟨_,rfl,h⟩) fun o1=>jcE o1 (by decide +kernel) (by decide) fun o2=>?_
 rw[kj]at o2 ⊢;refine⟨_,rfl,u,.least a' b' c',rfl,hu.mono s1,hsh,fun H2 s2=>jfL o2 hcl (by decide) ⟨jL (ad (la o2 hcl) (by decide)),sm rfl,fun tl htl=>?_⟩⟩;have s12:=s1.trans s2;have nt:H tl=none:=by
  cases e:H tl with
  | none=>rfl
  | some o=>rw[s12 _ _ e]at htl;cases htl
 have s3:=s12.trans (ji htl (.lst [V.str (m++aa "if "++jB (.least a' b' c'))]));have e3:upd H2 tl (.lst [V.str (m++aa "if "++jB (.least a' b' c'))]) tl=some (.lst [V.str (m++aa "if "++jB (.least a' b' c'))]):=jc;generalize upd H2 tl (.lst [V.str (m++aa "if "++jB (.least a' b' c'))])=H3 at *;refine gQ ?_;refine⟨_,rfl,.inl ⟨rfl,_,SqL.of e3⟩,_,rfl,_,rfl,_,_,rfl,rfl,jL (by rw[e2];omega),.ref p,m++aa "  ",x',rfl,jy (s3 _ _ hp) (hx.mono s3),f2,hmm,by omega,fun a1 H4 s4 e4=>⟨tl,a1,_,_,rfl,rfl,s4 _ _ e3,e4,bE (kA (by simp only[aw,a_,ae];omega)),?_⟩⟩;have s5:=Same.touch (o:=.lst ([V.str (m++aa "if "++jB (.least a' b' c'))]++(jP n (m++aa "  ") x').map V.str)) (s3.trans s4) nt;have e5:upd H4 tl (.lst ([V.str (m++aa "if "++jB (.least a' b' c'))]++(jP n (m++aa "  ") x').map V.str)) tl=some (.lst ([V.str (m++aa "if "++jB (.least a' b' c'))]++(jP n (m++aa "  ") x').map V.str)):=jc;generalize upd H4 tl (.lst ([V.str (m++aa "if "++jB (.least a' b' c'))]++(jP n (m++aa "  ") x').map V.str))=H5 at *;refine⟨_,rfl,.inl ⟨rfl,_,SqL.of e5⟩,?_⟩;refine jfE (x:=m) (n:=0) (av _) hm' (by decide) (fun q h=>⟨_,rfl,h⟩) fun o1=>jcE o1 (by decide +kernel) (by decide) fun o2=>⟨jL (ad o2 (by decide)),?_⟩
 rw[kj];refine⟨tl,_,_,rfl,rfl,e5,kA (by simp only[af,aw,a_,ae];omega),?_⟩;have s6:=Same.touch (o:=.lst ([V.str (m++aa "if "++jB (.least a' b' c'))]++(jP n (m++aa "  ") x').map V.str++[V.str (m++aa "else")])) s5 nt;have e6:upd H5 tl (.lst ([V.str (m++aa "if "++jB (.least a' b' c'))]++(jP n (m++aa "  ") x').map V.str++[V.str (m++aa "else")])) tl=some (.lst ([V.str (m++aa "if "++jB (.least a' b' c'))]++(jP n (m++aa "  ") x').map V.str++[V.str (m++aa "else")])):=jc;generalize upd H5 tl (.lst ([V.str (m++aa "if "++jB (.least a' b' c'))]++(jP n (m++aa "  ") x').map V.str++[V.str (m++aa "else")]))=H6 at *;refine⟨_,rfl,.inl ⟨rfl,_,SqL.of e6⟩,_,rfl,_,rfl,_,_,rfl,rfl,jL (by rw[e2];omega),.ref q',m++aa "  ",y',rfl,jy (s6 _ _ hq) (hy.mono s6),f3,hmm,by omega,fun a1 H7 s7 e7=>⟨tl,a1,_,_,rfl,rfl,s7 _ _ e6,e7,bE (kA (by simp only[af,aw,a_,ae];omega)),?_⟩⟩;have s8:=Same.touch (o:=.lst ([V.str (m++aa "if "++jB (.least a' b' c'))]++(jP n (m++aa "  ") x').map V.str++[V.str (m++aa "else")]++(jP n (m++aa "  ") y').map V.str)) (s6.trans s7) nt;have e8:upd H7 tl (.lst ([V.str (m++aa "if "++jB (.least a' b' c'))]++(jP n (m++aa "  ") x').map V.str++[V.str (m++aa "else")]++(jP n (m++aa "  ") y').map V.str)) tl=some (.lst ([V.str (m++aa "if "++jB (.least a' b' c'))]++(jP n (m++aa "  ") x').map V.str++[V.str (m++aa "else")]++(jP n (m++aa "  ") y').map V.str)):=jc;generalize upd H7 tl (.lst ([V.str (m++aa "if "++jB (.least a' b' c'))]++(jP n (m++aa "  ") x').map V.str++[V.str (m++aa "else")]++(jP n (m++aa "  ") y').map V.str))=H8 at *;refine⟨_,rfl,.inl ⟨rfl,_,SqL.of e8⟩,?_⟩;refine jfE (x:=m) (n:=0) (av _) hm' (by decide) (fun q h=>⟨_,rfl,h⟩) fun o1=>jcE o1 (by decide +kernel) (by decide) fun o2=>⟨jL (ad o2 (by decide)),?_⟩
 rw[kj];refine⟨tl,_,_,rfl,rfl,e8,kA (by simp only[af,aw,a_,ae];omega),?_⟩;refine⟨_,rfl,q tl _ (Same.touch s8 nt) ?_⟩;rw[jc];simp only[aX,aH,aG,cO,df,cM]
theorem jfT(F:Fun K "while_rows" "while_rows" zS f fd)(aO:Fn P w K mg base 5 "claim_text" ["claim"] yp)(dr:Fn P w K mg base (7+2 * n) "body_rows" ["body","margin"] (zw n)):FnOk P w K mg base CX0 (7+2 * n+1) f fd ["statement","margin"] (jaH n jiA):=by
 have sc:FnScope ["statement","margin","least","keeps","body","told"] ["statement","margin"] (jn zS):=fQ;refine F.okZ sc (fun vs H Q E h=>?_) (fun aj A outer s H vs Q E hr h=>?_)
 ·obtain⟨_,_,_,_,rfl,_⟩:=h
  rfl
 obtain⟨v,m,s,hi,rfl,hv,hF,hm,hl,q⟩:=h;refine⟨_,(jd (km (kD Jp (zpv 0) (kO jg) kU) (kg rfl (jo (jm (i:=2) sc.nd rfl oQ) (jo (jm (i:=3) sc.nd rfl oQ) (jo (jm (i:=4) sc.nd rfl oQ) j4)))))
   (jd (ju (i:=5) sc.nd rfl oQ (jT (ja (kF (jI (ki (zpv 1)) (jI jf (jI (ki (jJ aO hr (ja (zpv 2) jb))) qp)))) jb)))
   (jd (jC (jN aF cx cw qr (zpv 5) (ja (qt ["claim"] [1] rfl (qc (sc:=jn zS) (N:=["statement","margin","least","keeps","body","told"]) rfl rfl (by decide +kernel)) (qS (zpv 3)) (fun s H ex=>⟨(jm (i:=0) (show br (["claim","margin"]:List Str) by decide +kernel) rfl oQ),kT,(kF (jI (ki (zpv 1)) (jI jf (jI (ki (jJ aO hr (ja (zpv 0) jb))) qp))))⟩)) jb)))
   (jd (jC (jN aF cx cw qr (zpv 5) (ja (jJ dr hr (ja (zpv 4) (ja (jt jq (zpv 1) jf) jb))) jb)))
   (jd (jC (jN aF aS aR jW (zpv 5) (ja (kF (jI (ki (zpv 1)) (jI jf qp))) jb)))
   (jh (jx (zpv 5)))))))),?_⟩
 try dsimp only[qo]
 refine jiD ?_;intro _ _ _ _ _;rcases zU s with⟨S,rfl⟩ | ⟨a',b',c',x',y',rfl⟩ | ⟨a',b',c',ks,x',rfl⟩
 ·exact hi.elim
 ·exact hi.elim
 obtain⟨t,u,p,q',xs',ys',rfl,ht,hu,hp,hx,hq,hy⟩:=jbh (show Held H (Nd.whl a' b' c' ks (x'.map (stD n))).toD v from hv);obtain⟨f1,f2,f4,f3⟩:=(show ClF (.least a' b' c')/\(∀k∈ks,ClF k)/\ks.length≤20/\∀t∈x',StF n t from hF)
 have hsh:=yR f1;have hcl:=qd hsh;have hm':m.length≤100:=by omega
 have e2:(aa "  ").length=2:=rfl;have hl:((m++aa "while "++jB (.least a' b' c')) :: (ks.map (fun k=>m++aa "  keep "++jB k)++(jP n (m++aa "  ") x'++[m++aa "end"]))).length≤100000:=hl;have q:∀a H',Same H H'->H' a=some (.lst (((m++aa "while "++jB (.least a' b' c')) :: (ks.map (fun k=>m++aa "  keep "++jB k)++(jP n (m++aa "  ") x'++[m++aa "end"]))).map V.str))->Q (.ref a) H':=q;have hmm:(m++aa "  ").length+2 * n≤60:=by rw[aU,e2];omega
 simp only[af,aw,a_,ae]at hl;refine jG (σ':=[some (.ref t),some (.str m),none,none,none,none]) rfl ?_;refine⟨_,rfl,_,rfl,t,_,rfl,SqT.of ht,(fun h=>absurd h.1 (by show ¬(HT.sIx 4 0 (some 1)=0);decide)),fun p1 hp1=>?_⟩;have s1:=ji hp1 (.tup (qw [.str "while",u,.ref p,.ref q'] (some 1) none));have e1:upd H p1 (.tup (qw [.str "while",u,.ref p,.ref q'] (some 1) none)) p1=some (.tup [u,.ref p,.ref q']):=jc;generalize upd H p1 (.tup (qw [.str "while",u,.ref p,.ref q'] (some 1) none))=H1 at *;refine⟨p1,_,rfl,SqT.of e1,rfl,_,_,rfl,_,_,rfl,_,_,rfl,rfl,?_⟩;refine jG (σ':=[some (.ref t),some (.str m),some u,some (.ref p),some (.ref q'),none]) rfl ?_;dsimp only;refine jfE (x:=m) (n:=0) (av _) hm' (by decide) (fun q h=>⟨_,rfl,h⟩) fun o1=>jcE o1 (by decide +kernel) (by decide) fun o2=>?_
 rw[kj]at o2 ⊢;refine⟨_,rfl,u,.least a' b' c',rfl,hu.mono s1,hsh,fun H2 s2=>jfL o2 hcl (by decide) ⟨jL (ad (la o2 hcl) (by decide)),sm rfl,fun tl htl=>?_⟩⟩;have s12:=s1.trans s2;have nt:H tl=none:=by
  cases e:H tl with
  | none=>rfl
  | some o=>rw[s12 _ _ e]at htl;cases htl
 have s3:=s12.trans (ji htl (.lst [V.str (m++aa "while "++jB (.least a' b' c'))]));have e3:upd H2 tl (.lst [V.str (m++aa "while "++jB (.least a' b' c'))]) tl=some (.lst [V.str (m++aa "while "++jB (.least a' b' c'))]):=jc;generalize upd H2 tl (.lst [V.str (m++aa "while "++jB (.least a' b' c'))])=H3 at *;refine gQ ?_;have hlk:xs'.length=ks.length:=by rw[← hx.length,ae]
 refine⟨_,rfl,.inl ⟨rfl,_,SqL.of e3⟩,_,rfl,p,rfl,⟨_,SqT.of (s3 _ _ hp)⟩,fun cp hcp=>?_⟩;refine YL (xs:=xs') (fun i σ' G=>∃u,σ'=[u,some (.str m)]/\Same H3 G/\G cp=some (.lst (((ks.take i).map (fun k=>m++aa "  keep "++jB k)).map V.str))) ⟨none,rfl,ji hcp _,jc⟩ ?_ ?_ ?_
 ·rintro i σ' G _ ⟨u,rfl,sG,_⟩
  exact SqT.of (sG _ _ (s3 _ _ hp))
 ·rintro i x σ' G hx' ⟨u,rfl,sG,hG⟩
  have hi:i < ks.length:=by rw[← hlk];exact (bx.mp hx').1
  obtain⟨x2,hx2,hxd⟩:=hx.get (j:=i) (d:=ks[i].toD) (by rw[bq,aE hi];rfl);rw[hx']at hx2
  cases hx2
  have hkf:=yR (f2 ks[i] (bW hi));have hkl:=qd hkf;unfold qA y4;refine kQ ?_;refine jfE (x:=m) (n:=0) (av _) hm' (by decide) (fun q h=>⟨_,rfl,h⟩) fun o1=>jcE o1 (by decide +kernel) (by decide) fun o2=>?_
  rw[kj]at o2 ⊢;refine⟨_,rfl,x,ks[i],rfl,hxd.mono (s3.trans sG),hkf,fun G1 sG1=>jfL o2 hkl (by decide) ⟨jL (ad (la o2 hkl) (by decide)),_,sG1 _ _ hG,ky (by rw[ae,ae,cA];omega),_,rfl,?_,?_⟩⟩
  ·intro c o e
   rw[js (jl e hcp)];exact sG1 _ _ (sG _ _ e)
  ·rw[jc,cL,aE hi,aH,aH]
   rfl
 rintro σ' G ⟨u9,rfl,sG,hG⟩;rw[hlk,cy]at hG;refine⟨tl,cp,_,_,rfl,rfl,sG _ _ e3,hG,bE (kA (by simp only[aw,a_,ae];omega)),?_⟩;have s5:=Same.touch (o:=.lst ([V.str (m++aa "while "++jB (.least a' b' c'))]++(ks.map (fun k=>m++aa "  keep "++jB k)).map V.str)) (s3.trans sG) nt;have e5:upd G tl (.lst ([V.str (m++aa "while "++jB (.least a' b' c'))]++(ks.map (fun k=>m++aa "  keep "++jB k)).map V.str)) tl=some (.lst ([V.str (m++aa "while "++jB (.least a' b' c'))]++(ks.map (fun k=>m++aa "  keep "++jB k)).map V.str)):=jc;generalize upd G tl (.lst ([V.str (m++aa "while "++jB (.least a' b' c'))]++(ks.map (fun k=>m++aa "  keep "++jB k)).map V.str))=H6 at *;refine⟨_,rfl,.inl ⟨rfl,_,SqL.of e5⟩,_,rfl,_,rfl,_,_,rfl,rfl,jL (by rw[e2];omega),.ref q',m++aa "  ",x',rfl,jy (s5 _ _ hq) (hy.mono s5),f3,hmm,by omega,fun a1 H7 s7 e7=>⟨tl,a1,_,_,rfl,rfl,s7 _ _ e5,e7,bE (kA (by simp only[af,aw,a_,ae];omega)),?_⟩⟩;have s8:=Same.touch (o:=.lst ([V.str (m++aa "while "++jB (.least a' b' c'))]++(ks.map (fun k=>m++aa "  keep "++jB k)).map V.str++(jP n (m++aa "  ") x').map V.str)) (s5.trans s7) nt;have e8:upd H7 tl (.lst ([V.str (m++aa "while "++jB (.least a' b' c'))]++(ks.map (fun k=>m++aa "  keep "++jB k)).map V.str++(jP n (m++aa "  ") x').map V.str)) tl=some (.lst ([V.str (m++aa "while "++jB (.least a' b' c'))]++(ks.map (fun k=>m++aa "  keep "++jB k)).map V.str++(jP n (m++aa "  ") x').map V.str)):=jc;generalize upd H7 tl (.lst ([V.str (m++aa "while "++jB (.least a' b' c'))]++(ks.map (fun k=>m++aa "  keep "++jB k)).map V.str++(jP n (m++aa "  ") x').map V.str))=H8 at *;refine⟨_,rfl,.inl ⟨rfl,_,SqL.of e8⟩,?_⟩;refine jfE (x:=m) (n:=0) (av _) hm' (by decide) (fun q h=>⟨_,rfl,h⟩) fun o1=>jcE o1 (by decide +kernel) (by decide) fun o2=>⟨jL (ad o2 (by decide)),?_⟩
 rw[kj];refine⟨tl,_,_,rfl,rfl,e8,kA (by simp only[af,aw,a_,ae];omega),?_⟩;refine⟨_,rfl,q tl _ (Same.touch s8 nt) ?_⟩;rw[jc];simp only[aX,aH,aG,cO,df,cM]
end
abbrev yw:Stmt:=top 46
abbrev jdx:Stmt:=top 44
def jjq:Sp:=fun _ _ _ _=>False
def jX(ps:List Pc):List Str:=ps.flatMap qm
def jeB:Sp:=fun vs H Q _=>∃(v:V) (p:Pc),vs=[v]/\Held H p.toD v/\PcF p/\p.lv≤4/\(qm p).length≤100000/\∀a H',Same H H'->H' a=some (.lst ((qm p).map V.str))->Q (.ref a) H'
theorem jfs{cp:Addr}{ks:List Cl}{pre:Str}(hpre:pre.length≤100)(ha:H a=some (.tup xs))(hx:HeldL H (ks.map Cl.toD) xs)(hf:∀k∈ks,ClF k)(hk:ks.length≤20)(hcp:H cp=none)(q:∀G,Same H G->G cp=some (.lst ((ks.map (fun k=>pre++jB k)).map V.str))->Q (.ref cp) G):
  Ko (Itt K a) cp (qA 0) y4 (jkK (jaX (tC (.str pre)) (jaX (jk8 (y6 yp [] E0 (Jy (jbk 0) jch))) jmD))) Q [none] (upd H cp (.lst [])):=by
 have hlk:xs.length=ks.length:=by rw[← hx.length,ae]
 refine YL (xs:=xs) (fun i σ' G=>∃u,σ'=[u]/\Same H G/\G cp=some (.lst (((ks.take i).map (fun k=>pre++jB k)).map V.str))) ⟨none,rfl,ji hcp _,jc⟩ ?_ ?_ ?_
 ·rintro i σ' G _ ⟨u,rfl,sG,_⟩
  exact SqT.of (sG _ _ ha)
 ·rintro i x σ' G hx' ⟨u,rfl,sG,hG⟩
  have hi:i < ks.length:=by rw[← hlk];exact (bx.mp hx').1
  obtain⟨x2,hx2,hxd⟩:=hx.get (j:=i) (d:=ks[i].toD) (by rw[bq,aE hi];rfl)
  rw[hx']at hx2
  cases hx2
  have hkf:=yR (hf ks[i] (bW hi))
  have hkl:=qd hkf
  unfold qA y4
  refine kQ ?_
  refine jcE (n:=0) (av _) hpre (by decide) fun o2=>?_
  rw[kj]at o2 ⊢
  refine⟨_,rfl,x,ks[i],rfl,hxd.mono sG,hkf,fun G1 sG1=>jfL o2 hkl (by decide) ⟨jL (ad (la o2 hkl) (by decide)),_,sG1 _ _ hG,ky (by rw[ae,ae,cA];omega),_,rfl,?_,?_⟩⟩
  ·intro c o e
   rw[js (jl e hcp)]
   exact sG1 _ _ (sG _ _ e)
  ·rw[jc,cL,aE hi,aH,aH]
   rfl
 ·rintro σ' G ⟨u9,rfl,sG,hG⟩
  rw[hlk,cy]at hG
  exact q G sG hG
def jez:Sp:=fun vs H Q _=>∃(v:V) (ps:List Pc),vs=[v]/\Held H (.tup (ps.map Pc.toD)) v/\(∀p∈ps,PcF p/\p.lv≤4)/\(jX ps).length≤10000/\(∀r∈jX ps,r.length≤1000)/\∀H',Same H H'->Q (.str (bz (aa "\n") (jX ps))) H'
theorem Kr{k:Nat}:∀{zs:List Str},(∀r∈zs,r.length≤k)->(zs.map (·.length)).sum≤zs.length * k
 | [],_=>bm _
 | z :: zs,h=>by
  have h1:=h z (am ..);have h2:=Kr (zs:=zs) fun r hr=>h r (ao _ hr)
  rw[aX,i4,aw,iX];omega
section
theorem jge(F:Fun K "body_rows" "body_rows" zH f fd)(ir:Fn P w K mg base 0 "if_rows" ["statement","margin"] jjq)(ic:Fn P w K mg base 0 "while_rows" ["statement","margin"] jjq)(cQ:Fn P w K mg base 6 "plain_row" ["statement"] Zr):FnOk P w K mg base CX0 7 f fd ["body","margin"] (zw 0):=by
 have sc:FnScope ["body","margin","told","statement"] ["body","margin"] (jn zH):=fQ;refine F.okZ sc (fun vs H Q E h=>?_) (fun aj A outer s H vs Q E hr h=>?_)
 ·obtain⟨_,_,_,rfl,_⟩:=h
  rfl
 obtain⟨v,m,l,rfl,hv,hF,hm,hl,q⟩:=h;refine⟨_,(jd (ju (i:=2) sc.nd rfl oQ (jT jb))
   (jd (zq cu rfl (qS (zpv 0)) (jm (i:=3) sc.nd rfl oQ) (jh (jM (jA j5 (jv jE (zpv 3) jg (fun _ _=>rfl)) jf (jD _)) (jh (jC (jN aF cx cw qr (zpv 2) (ja (jp ir hr (ja (zpv 3) (ja (zpv 1) jb))) jb)))) (jh (jM (jA j5 (jv jE (zpv 3) jg (fun _ _=>rfl)) jf (jD _)) (jh (jC (jN aF cx cw qr (zpv 2) (ja (jp ic hr (ja (zpv 3) (ja (zpv 1) jb))) jb)))) (jh (jC (jN aF aS aR jW (zpv 2) (ja (jt jq (zpv 1) (jp cQ hr (ja (zpv 3) jb))) jb)))))))))
   (jh (jx (zpv 2))))),?_⟩
 try dsimp only[qo]
 refine yP ?_;intro _ _
 cases jg3 (l:=l)
 obtain⟨a,us,rfl,ha,hu⟩:=jF hv
 cases jR hu
 refine jG (σ':=[some (.ref a),some (.str m),none,none]) rfl ?_;refine⟨sm rfl,fun tl htl=>?_⟩;have s1:=ji htl (.lst []);have e1:upd H tl (.lst []) tl=some (.lst []):=jc;generalize upd H tl (.lst [])=H1 at *;refine gQ ?_;refine⟨_,rfl,a,rfl,⟨_,SqT.of (s1 _ _ ha)⟩,?_⟩;refine Ju (xs:=[]) (fun _ σ G=>σ=[some (.ref a),some (.str m),some (.ref tl),none]/\G=H1) ⟨rfl,rfl⟩ (fun i σ G _ h=>by rw[h.2];exact SqT.of (s1 _ _ ha)) (fun i x σ G hx _=>by cases hx) fun σ G h=>?_
 obtain⟨rfl,rfl⟩:=h;exact⟨_,rfl,q _ _ s1 e1⟩
theorem jiI{st:Stmt}{ps:List Str}{k:Nat}(F:Fun K x x st f fd)(b:Binds K fd ps [])(m:mg x=some (.ref f)):Fn P w K mg base k x ps jjq:=Fn.mk' F b m ⟨fun _ _ _ _ h=>h.elim,fun _ _ _ _ _ _ _ _ _ _ _ _ _ h=>h.elim⟩
theorem Z1{fb fi fw:Addr}{db di dw:aq}(Ub:Fun K "body_rows" "body_rows" zH fb db)(bb:Binds K db ["body","margin"] [])(mb:mg "body_rows" = some (.ref fb))(Ui:Fun K "if_rows" "if_rows" Yx fi di)(bi:Binds K di ["statement","margin"] [])(mi:mg "if_rows" = some (.ref fi))(Uw:Fun K "while_rows" "while_rows" zS fw dw)(bw:Binds K dw ["statement","margin"] [])(mw:mg "while_rows" = some (.ref fw))(aO:Fn P w K mg base 5 "claim_text" ["claim"] yp)(cQ:Fn P w K mg base 6 "plain_row" ["statement"] Zr):∀n:Nat,Fn P w K mg base (7+2 * n) "body_rows" ["body","margin"] (zw n)
 | 0=>Fn.mk' Ub bb mb (jge Ub (jiI Ui bi mi) (jiI Uw bw mw) cQ)
 | n+1=>by
  have ih:=Z1 Ub bb mb Ui bi mi Uw bw mw aO cQ n;have hI:Fn P w K mg base (8+2 * n) "if_rows" ["statement","margin"] (jaH n jiB):=Fn.mk' Ui bi mi ((jlE Ui aO ih).mono (by omega));have hW:Fn P w K mg base (8+2 * n) "while_rows" ["statement","margin"] (jaH n jiA):=Fn.mk' Uw bw mw ((jfT Uw aO ih).mono (by omega));exact Fn.mk' Ub bb mb ((jic Ub hI hW cQ).mono (by omega))
theorem jh2(F:Fun K "proc_rows" "proc_rows" yw f fd)(eW:Fn P w K mg base 1 "names_text" ["words","numbers","rows"] ZS)(aO:Fn P w K mg base 5 "claim_text" ["claim"] yp)(nc:∀n,Fn P w K mg base (7+2 * n) "body_rows" ["body","margin"] (zw n)):FnOk P w K mg base CX0 16 f fd ["proc"] jeB:=by
 have sc:FnScope ["proc","f","params","rows","needs","gives","body","told"] ["proc"] (jn yw):=fQ;refine F.okZ sc (fun vs H Q E h=>?_) (fun aj A outer s H vs Q E hr h=>?_)
 ·obtain⟨_,_,rfl,_⟩:=h
  rfl
 obtain⟨v,p,rfl,hv,hF,hlv,hl,q⟩:=h;have dr:=nc p.lv;refine⟨_,(jd (km (kD Jp (zpv 0) (kO jg) kU) (kg rfl (jo (jm (i:=1) sc.nd rfl oQ) (jo (jm (i:=2) sc.nd rfl oQ) (jo (jm (i:=3) sc.nd rfl oQ) (jo (jm (i:=4) sc.nd rfl oQ) (jo (jm (i:=5) sc.nd rfl oQ) (jo (jm (i:=6) sc.nd rfl oQ) j4))))))))
   (jd (ju (i:=7) sc.nd rfl oQ (jT (ja (jJ eW hr (ja (jT (ja jf (ja (zpv 1) jb))) (ja (zpv 2) (ja (zpv 3) jb)))) jb)))
   (jd (jC (jN aF cx cw qr (zpv 7) (ja (qt ["claim"] [] rfl (qc (sc:=jn yw) (N:=["proc","f","params","rows","needs","gives","body","told"]) rfl rfl (by decide +kernel)) (qS (zpv 4)) (fun s H ex=>⟨(jm (i:=0) (show br (["claim"]:List Str) by decide +kernel) rfl oQ),kT,(kF (jI jf (jI (ki (jJ aO hr (ja (zpv 0) jb))) qp)))⟩)) jb)))
   (jd (jC (jN aF cx cw qr (zpv 7) (ja (qt ["claim"] [] rfl (qc (sc:=jn yw) (N:=["proc","f","params","rows","needs","gives","body","told"]) rfl rfl (by decide +kernel)) (qS (zpv 5)) (fun s H ex=>⟨(jm (i:=0) (show br (["claim"]:List Str) by decide +kernel) rfl oQ),kT,(kF (jI jf (jI (ki (jJ aO hr (ja (zpv 0) jb))) qp)))⟩)) jb)))
   (jd (jC (jN aF cx cw qr (zpv 7) (ja (jJ dr hr (ja (zpv 6) (ja jf jb))) jb)))
   (jd (jC (jN aF aS aR jW (zpv 7) (ja jf jb)))
   (jh (jx (zpv 7))))))))),?_⟩
 try dsimp only[qo]
 refine Zj ?_;intro _ _ _ _ _ _;obtain⟨a,ap,ar,an,ag,ab,vn,vg,vb,rfl,ha,hap,har,han,hn,hag,hg,hab,hb⟩:=jhI hv;refine jG (σ':=[some (.ref a),none,none,none,none,none,none,none]) rfl ?_;refine⟨_,rfl,_,rfl,a,_,rfl,SqT.of ha,(fun h=>absurd h.1 (by show ¬(HT.sIx 7 0 (some 1)=0);decide)),fun p1 hp1=>?_⟩;have s1:=ji hp1 (.tup (qw [.str "proc",.str p.f,.ref ap,.ref ar,.ref an,.ref ag,.ref ab] (some 1) none));have e1:upd H p1 (.tup (qw [.str "proc",.str p.f,.ref ap,.ref ar,.ref an,.ref ag,.ref ab] (some 1) none)) p1=some (.tup [.str p.f,.ref ap,.ref ar,.ref an,.ref ag,.ref ab]):=jc;generalize upd H p1 (.tup (qw [.str "proc",.str p.f,.ref ap,.ref ar,.ref an,.ref ag,.ref ab] (some 1) none))=H1 at *;refine⟨p1,_,rfl,SqT.of e1,rfl,_,_,rfl,_,_,rfl,_,_,rfl,_,_,rfl,_,_,rfl,_,_,rfl,rfl,?_⟩;refine jG (σ':=[some (.ref a),some (.str p.f),some (.ref ap),some (.ref ar),some (.ref an),some (.ref ag),some (.ref ab),none]) rfl ?_;refine⟨_,rfl,sm rfl,fun wl hwl=>?_⟩;have s2:=ji hwl (.lst ([aa "proc",p.f].map V.str));have e2:upd H1 wl (.lst ([aa "proc",p.f].map V.str)) wl=some (.lst ([aa "proc",p.f].map V.str)):=jc;have hd:=hF.hd;have hdl:=hF.hl;have hl:(j8 (aa "proc" :: p.f :: p.ps) p.rs :: (p.nd.map (fun k=>aa "  need "++jB k)++(p.gv.map (fun k=>aa "  give "++jB k)++(jP p.lv (aa "  ") p.bd++[aa "back"])))).length≤100000:=hl;have q:∀a H',Same H H'->H' a=some (.lst ((j8 (aa "proc" :: p.f :: p.ps) p.rs :: (p.nd.map (fun k=>aa "  need "++jB k)++(p.gv.map (fun k=>aa "  give "++jB k)++(jP p.lv (aa "  ") p.bd++[aa "back"])))).map V.str))->Q (.ref a) H':=q;simp only[af,aw,a_,ae]at hl;have s12:=s1.trans s2;refine⟨_,rfl,_,rfl,wl,ap,ar,[aa "proc",p.f],p.ps,p.rs,rfl,e2,s12 _ _ hap,s12 _ _ har,fun r hr=>?_,?_,fun H3 s3=>⟨sm rfl,fun tl htl=>?_⟩⟩
 ·have hm:r=aa "proc"∨r∈p.f :: p.ps++p.rs:=by
   simp only[aB,ak,bn,or_false]at hr ⊢;rcases hr with ((h | h) | h) | h
   ·exact .inl h
   ·exact .inr (.inl (.inl h))
   ·exact .inr (.inl (.inr h))
   ·exact .inr (.inr h)
  rcases hm with rfl | hm
  ·decide +kernel
  ·exact ko (hd r hm)
 ·simp only[af,aw,a_]at hdl ⊢
  omega
 have s13:=s12.trans s3;have nt:H tl=none:=by
  cases e:H tl with
  | none=>rfl
  | some o=>rw[s13 _ _ e]at htl;cases htl
 have s4:=s13.trans (ji htl (.lst ([j8 (aa "proc" :: p.f :: p.ps) p.rs].map V.str)));have e4:upd H3 tl (.lst ([j8 (aa "proc" :: p.f :: p.ps) p.rs].map V.str)) tl=some (.lst ([j8 (aa "proc" :: p.f :: p.ps) p.rs].map V.str)):=jc;refine (?_:qA 7 (V.ref tl) _ (upd H3 tl (.lst ([j8 (aa "proc" :: p.f :: p.ps) p.rs].map V.str))) _);generalize upd H3 tl (.lst ([j8 (aa "proc" :: p.f :: p.ps) p.rs].map V.str))=H4 at *;refine gQ ?_;generalize j8 (aa "proc" :: p.f :: p.ps) p.rs=hw at *;refine⟨_,rfl,.inl ⟨rfl,_,SqL.of e4⟩,_,rfl,an,rfl,⟨_,SqT.of (s4 _ _ han)⟩,fun c1 hc1=>jfs (by decide +kernel) (s4 _ _ han) (hn.mono s4) hF.nd hF.nl hc1 fun H5 s5 e5=>?_⟩;refine⟨tl,c1,_,_,rfl,rfl,s5 _ _ e4,e5,bE (kA (by simp only[aw,a_,ae];omega)),?_⟩;rw[← aH];have s6:=Same.touch (o:=.lst (([hw]++p.nd.map (fun k=>aa "  need "++jB k)).map V.str)) (s4.trans s5) nt;have e6:upd H5 tl (.lst (([hw]++p.nd.map (fun k=>aa "  need "++jB k)).map V.str)) tl=some (.lst (([hw]++p.nd.map (fun k=>aa "  need "++jB k)).map V.str)):=jc;generalize upd H5 tl (.lst (([hw]++p.nd.map (fun k=>aa "  need "++jB k)).map V.str))=H6 at *;refine⟨_,rfl,.inl ⟨rfl,_,SqL.of e6⟩,_,rfl,ag,rfl,⟨_,SqT.of (s6 _ _ hag)⟩,fun c2 hc2=>jfs (by decide +kernel) (s6 _ _ hag) (hg.mono s6) hF.gv hF.gl hc2 fun H7 s7 e7=>?_⟩;refine⟨tl,c2,_,_,rfl,rfl,s7 _ _ e6,e7,bE (kA (by simp only[af,aw,a_,ae];omega)),?_⟩;rw[← aH];have s8:=Same.touch (o:=.lst (([hw]++p.nd.map (fun k=>aa "  need "++jB k)++p.gv.map (fun k=>aa "  give "++jB k)).map V.str)) (s6.trans s7) nt;have e8:upd H7 tl (.lst (([hw]++p.nd.map (fun k=>aa "  need "++jB k)++p.gv.map (fun k=>aa "  give "++jB k)).map V.str)) tl=some (.lst (([hw]++p.nd.map (fun k=>aa "  need "++jB k)++p.gv.map (fun k=>aa "  give "++jB k)).map V.str)):=jc;generalize upd H7 tl (.lst (([hw]++p.nd.map (fun k=>aa "  need "++jB k)++p.gv.map (fun k=>aa "  give "++jB k)).map V.str))=H8 at *;refine⟨_,rfl,.inl ⟨rfl,_,SqL.of e8⟩,_,rfl,.ref ab,aa "  ",p.bd,rfl,jy (s8 _ _ hab) (hb.mono s8),hF.bd,(by show 2+2 * p.lv≤60;omega),by omega,fun a1 H9 s9 e9=>⟨tl,a1,_,_,rfl,rfl,s9 _ _ e8,e9,bE (kA (by simp only[af,aw,a_,ae];omega)),?_⟩⟩;rw[← aH];refine⟨_,rfl,.inl ⟨rfl,_,SqL.of jc⟩,tl,_,_,rfl,rfl,jc,kA (by simp only[af,aw,a_,ae];omega),?_⟩;refine⟨_,rfl,q tl _ (Same.touch (Same.touch (s8.trans s9) nt) nt) ?_⟩;rw[jc];simp only[aX,aH,aG,cO,df,cM]
theorem jhY(F:Fun K "shown" "shown" jdx f fd)(il:Fn P w K mg base 16 "proc_rows" ["proc"] jeB):FnOk P w K mg base CX0 17 f fd ["program"] jez:=by
 have sc:FnScope ["program","rows","proc"] ["program"] (jn jdx):=fQ;refine F.okZ sc (fun vs H Q E h=>?_) (fun aj A outer s H vs Q E hr h=>?_)
 ·obtain⟨_,_,rfl,_⟩:=h
  rfl
 obtain⟨v,ps,rfl,hv,hF,hl,hr',q⟩:=h;refine⟨_,(jd (ju (i:=1) sc.nd rfl oQ (jT jb))
   (jd (zq cu rfl (qS (zpv 0)) (jm (i:=2) sc.nd rfl oQ) (jh (jC (jN aF cx cw qr (zpv 1) (ja (jp il hr (ja (zpv 2) jb)) jb)))))
   (jh (jx (jN be eK eI yO jf (ja (zpv 1) jb)))))),?_⟩
 try dsimp only[qo]
 refine yP ?_;intro _ _;obtain⟨a,us,rfl,ha,hu⟩:=jF hv;refine jG (σ':=[some (.ref a),none,none]) rfl ?_;refine⟨sm rfl,fun tl htl=>?_⟩;have s1:=ji htl (.lst []);have e1:upd H tl (.lst []) tl=some (.lst []):=jc;generalize upd H tl (.lst [])=H1 at *;refine gQ ?_;refine⟨_,rfl,a,rfl,⟨_,SqT.of (s1 _ _ ha)⟩,?_⟩;have hlu:us.length=ps.length:=by rw[← hu.length,ae]
 let Pv:Nat->St->Hp->Prop:=fun i σ G=>∃u2,σ=[some (.ref a),some (.ref tl),u2]/\Same H G/\G tl=some (.lst ((jX (ps.take i)).map V.str))
 refine Ju (xs:=us) Pv ⟨none,rfl,s1,e1⟩ ?_ ?_ ?_
 ·rintro i σ G _ ⟨u2,rfl,sG,_⟩
  exact SqT.of (sG _ _ ha)
 ·rintro i x σ G hx ⟨u2,rfl,sG,hG⟩
  have hi:i < ps.length:=by rw[← hlu];exact (bx.mp hx).1
  obtain⟨x',hx',hxd⟩:=hu.get (j:=i) (d:=ps[i].toD) (by rw[bq,aE hi];rfl);rw[hx]at hx'
  cases hx'
  have hrw:jX (ps.take (i+1))=jX (ps.take i)++qm ps[i]:=by
   unfold jX;rw[cL,aE hi,dN];simp
  have hcount:(jX (ps.take i)).length+(qm ps[i]).length≤10000:=by
   rw[← af,← hrw];refine ad ?_ hl;have:jX ps=jX (ps.take (i+1))++jX (ps.drop (i+1)):=by
    unfold jX;rw[← dN,eO]
   rw[this,af];omega
  obtain⟨hf,hv4⟩:=hF ps[i] (bW hi);refine gQ ?_;refine⟨_,rfl,.inl ⟨rfl,_,SqL.of hG⟩,_,rfl,x,ps[i],rfl,hxd.mono sG,hf,hv4,by omega,fun a1 G1 sG1 e2=>⟨tl,a1,_,_,rfl,rfl,sG1 _ _ hG,e2,bE (kA (by rw[ae,ae];omega)),_,rfl,Same.touch (sG.trans sG1) htl,?_⟩⟩;rw[jc,hrw,aH]
 ·rintro σ G ⟨u2,rfl,sG,hG⟩
  rw[hlu,cy]at hG;refine⟨rfl,_,rfl,_,tl,_,rfl,rfl,SqL.of hG,?_,?_⟩
  ·have h1:=Kr hr'
   have h2:(aa "\n").length=1:=rfl;rw[h2];omega
  ·rw[show bZ (aa "\n") (jX ps)=(aa "\n").join (jX ps) from fz _ _]
   exact q _ sG
end
abbrev zT:Stmt:=top 80
theorem jai{l:Addr}(s:Same H G)(h:G l=none):H l=none:=by
 cases e:H l with
 | none=>rfl
 | some o=>rw[s _ _ e]at h;cases h
variable {ys:List Str}
theorem Jw{b:Addr}{xs:List Str}(ha:H a=some (.lst (xs.map V.str)))(hb:H b=some (.lst (ys.map V.str)))(hz:xs.length+ys.length≤100000)(q:∀l H',Same H H'->H l=none->H' l=some (.lst ((xs++ys).map V.str))->Q (.ref l) H'):jjz (.ref a) (.ref b) H Q:=⟨a,b,_,_,rfl,rfl,ha,hb,bE (kA (by rw[ae,ae];exact hz)),fun l hl=>q l _ (jcu hl _) hl (by rw[jc,aH])⟩
theorem yM{l:Addr}(h:H l=none)(z:Str):Same H (upd H l (.lst [V.str z]))/\upd H l (.lst [V.str z]) l=some (.lst ([z].map V.str)):=⟨ji h _,jc⟩
section
theorem jfX(F:Fun K "_law_rows_of" "_law_rows_of" zT f fd)(B:Free0 mg)(cm:Fn P w K mg base (5+n) "_law_rows_of" ["_law_body_here","_law_ahead"] (zw n))(aO:Fn P w K mg base 4 "_law_claim_text" ["_law_claim_here"] y9)(bj:Fn P w K mg base 3 "_law_term_text" ["_law_term_here","_law_more_here"] Yq):FnOk P w K mg base CX0 (5+n+1) f fd ["_law_body_here","_law_ahead"] (zw (n+1)):=by
 have sc:FnScope ["_law_body_here","_law_ahead","_law_rows","_law_one","_law_left","_law_words"] ["_law_body_here","_law_ahead"] (jn zT):=fQ;refine F.okZ sc (fun vs H Q E h=>?_) (fun aj A outer s H vs Q E hr h=>?_)
 ·obtain⟨_,_,_,rfl,_⟩:=h
  rfl
 obtain⟨v,m,l,rfl,hv,hF,hm,hl,q⟩:=h;refine⟨_,(jd (ju (i:=2) sc.nd rfl oQ (jT jb))
   (jd (zq cu rfl (qS (zpv 0)) (jm (i:=3) sc.nd rfl oQ) (jh (jM (jA j5 (jv jE (zpv 3) jg (fun _ _=>rfl)) jf (jD _)) (jd (ju (i:=2) sc.nd rfl oQ (jt kt (jt kt (zpv 2) (jT (ja (jt jq (jt jq (zpv 1) jf) (jJ aO hr (ja (jv jE (zpv 3) jg (fun _ _=>rfl)) jb))) jb))) (jJ cm hr (ja (jv jE (zpv 3) jg (fun _ _=>rfl)) (ja (jt jq (zpv 1) jf) jb)))))
   (jh (ju (i:=2) sc.nd rfl oQ (jt kt (jt kt (jt kt (zpv 2) (jT (ja (jt jq (zpv 1) jf) jb))) (jJ cm hr (ja (jv jE (zpv 3) jg (fun _ _=>rfl)) (ja (jt jq (zpv 1) jf) jb)))) (jT (ja (jt jq (zpv 1) jf) jb)))))) (jh (jM (jA j5 (jv jE (zpv 3) jg (fun _ _=>rfl)) jf (jD _)) (jd (ju (i:=2) sc.nd rfl oQ (jt kt (zpv 2) (jT (ja (jt jq (jt jq (zpv 1) jf) (jJ aO hr (ja (jv jE (zpv 3) jg (fun _ _=>rfl)) jb))) jb))))
   (jd (ju (i:=2) sc.nd rfl oQ (jt kt (zpv 2) (qt ["_law_keep"] [1] rfl (qc (sc:=jn zT) (N:=["_law_body_here","_law_ahead","_law_rows","_law_one","_law_left","_law_words"]) rfl rfl (by decide +kernel)) (qS (jv jE (zpv 3) jg (fun _ _=>rfl))) (fun s H ex=>⟨(jm (i:=0) (show br (["_law_keep","_law_ahead"]:List Str) by decide +kernel) rfl oQ),kT,(jt jq (jt jq (zpv 1) jf) (jJ aO hr (ja (zpv 0) jb)))⟩))))
   (jh (ju (i:=2) sc.nd rfl oQ (jt kt (jt kt (zpv 2) (jJ cm hr (ja (jv jE (zpv 3) jg (fun _ _=>rfl)) (ja (jt jq (zpv 1) jf) jb)))) (jT (ja (jt jq (zpv 1) jf) jb))))))) (jh (jM (jA j5 (jv jE (zpv 3) jg (fun _ _=>rfl)) jf (jD _)) (jh (jC (jN aF aS aR jW (zpv 2) (ja (jt jq (jt jq (jt jq (zpv 1) (jv jE (zpv 3) jg (fun _ _=>rfl))) jf) (jJ bj hr (ja (jv jE (zpv 3) jg (fun _ _=>rfl)) (ja (jv jE (zpv 3) jg (fun _ _=>rfl)) jb)))) jb)))) (jh (jM (jA j5 (jv jE (zpv 3) jg (fun _ _=>rfl)) jf (jD _)) (jd (ju (i:=4) sc.nd rfl oQ (jJ bj hr (ja (jQ (ja jf (ja (jv jE (zpv 3) jg (fun _ _=>rfl)) (ja (jv jE (zpv 3) jg (fun _ _=>rfl)) jb)))) (ja jg jb))))
   (jh (jC (jN aF aS aR jW (zpv 2) (ja (jt jq (jt jq (jt jq (zpv 1) (zpv 4)) jf) (jJ bj hr (ja (jv jE (zpv 3) jg (fun _ _=>rfl)) (ja (jv jE (zpv 3) jg (fun _ _=>rfl)) jb)))) jb))))) (jh (jM (jA j5 (jv jE (zpv 3) jg (fun _ _=>rfl)) jf (jD _)) (jh (jC (jN aF aS aR jW (zpv 2) (ja (jt jq (jt jq (zpv 1) jf) (jv jE (zpv 3) jg (fun _ _=>rfl))) jb)))) (jh (jM (jA j5 (jv jE (zpv 3) jg (fun _ _=>rfl)) jf (jD _)) (jh (jC (jN aF aS aR jW (zpv 2) (ja (jt jq (jt jq (zpv 1) jf) (jJ aO hr (ja (jv jE (zpv 3) jg (fun _ _=>rfl)) jb))) jb)))) (jd (ju (i:=5) sc.nd rfl oQ (jt kt (jt kt (jt kt (jT (ja jf (ja (jv jE (zpv 3) jg (fun _ _=>rfl)) (ja (jv jE (zpv 3) jg (fun _ _=>rfl)) jb)))) (kC qk (by rfl) B.list_ yj (ja (jv jE (zpv 3) jg (fun _ _=>rfl)) jb))) (jT (ja jf jb))) (kC qk (by rfl) B.list_ yj (ja (jv jE (zpv 3) jg (fun _ _=>rfl)) jb))))
   (jh (jC (jN aF aS aR jW (zpv 2) (ja (jt jq (zpv 1) (jN be eK eI yO jf (ja (zpv 5) jb))) jb))))))))))))))))))
   (jh (jx (zpv 2))))),?_⟩
 try dsimp only[qo]
 refine yP ?_;intro _ _;obtain⟨a,us,rfl,ha,hu⟩:=jF hv;refine jG (σ':=[some (.ref a),some (.str m),none,none,none,none]) rfl ?_;refine⟨sm rfl,fun tl htl=>?_⟩;have s1:=ji htl (.lst []);have e1:upd H tl (.lst []) tl=some (.lst []):=jc;generalize upd H tl (.lst [])=H1 at *;refine gQ ?_;refine⟨_,rfl,a,rfl,⟨_,SqT.of (s1 _ _ ha)⟩,?_⟩;have hlu:us.length=l.length:=by rw[← hu.length,ae]
 let Pv:Nat->St->Hp->Prop:=fun i σ G=>∃rl u3 u4 u5,σ=[some (.ref a),some (.str m),some (.ref rl),u3,u4,u5]/\Same H G/\H rl=none/\G rl=some (.lst ((jP (n+1) m (l.take i)).map V.str))
 have e2:(aa "  ").length=2:=rfl;have hm':m.length≤100:=by omega
 have hmm:(m++aa "  ").length+2 * n≤60:=by rw[aU,e2];omega
 refine Ju (xs:=us) Pv ⟨tl,none,none,none,rfl,s1,htl,e1⟩ ?_ ?_ ?_
 ·rintro i σ G _ ⟨rl,u3,u4,u5,rfl,sG,_⟩
  exact SqT.of (sG _ _ ha)
 ·rintro i x σ G hx ⟨rl,u3,u4,u5,rfl,sG,hrl,hG⟩
  have hi:i < l.length:=by rw[← hlu];exact (bx.mp hx).1
  obtain⟨x',hx',hxd⟩:=hu.get (j:=i) (d:=stD (n+1) l[i]) (by rw[bq,aE hi];rfl);rw[hx]at hx'
  cases hx'
  have hfit:=hF l[i] (bW hi);have htk:l.take (i+1)=l.take i++[l[i]]:=by rw[cL,aE hi];rfl
  have hrw:jP (n+1) m (l.take (i+1))=jP (n+1) m (l.take i)++JC m l[i]:=by
   rw[htk,Kt,jaL]
  have hcount:(jP (n+1) m (l.take i)).length+(JC m l[i]).length≤100000:=by
   rw[← af,← hrw];refine ad ?_ hl;have:jP (n+1) m l=jP (n+1) m (l.take (i+1))++jP (n+1) m (l.drop (i+1)):=by
    rw[← Kt,eO]
   rw[this,af];omega
  have hxd:=hxd.mono sG;generalize l[i]=s at *;generalize hR:jP (n+1) m (l.take i)=R at *;have fin:∀{rl':Addr} {v3 v4 v5:Option V} {G':Hp},Same H G'->H rl'=none->G' rl'=some (.lst ((R++JC m s).map V.str))->Pv (i+1) [some (.ref a),some (.str m),some (.ref rl'),v3,v4,v5] G':=fun s' h' e'=>⟨_,_,_,_,rfl,s',h',by rw[hrw];exact e'⟩
  have app:∀{G':Hp} {z:Str} {v3 v4 v5:Option V},Same G G'->JC m s=[z]->G' rl=some (.lst (R.map V.str))/\(R.map V.str).length < au/\Pv (i+1) [some (.ref a),some (.str m),some (.ref rl),v3,v4,v5] (upd G' rl (.lst (R.map V.str++[.str z]))):=fun {G' z _ _ _} s' e'=>⟨s' _ _ hG,kA (by rw[ae];omega),fin (Same.touch (sG.trans s') hrl) hrl (by rw[jc,e',aH];rfl)⟩
  refine gQ ?_;rcases zU (show Fo (StN n) from s) with⟨S,rfl⟩ | ⟨a',b',c',x',y',rfl⟩ | ⟨a',b',c',ks,x',rfl⟩
  ·have hfit:SmF S:=hfit
   cases S with
   | set x0 t c=>
    obtain⟨b,u,rfl,hb,hu'⟩:=jeI (show Held G (Sm.set x0 t c).toD x from hxd);obtain⟨h1,h2,h3⟩:=hfit;have h8:=ko h1;have ht:=qC (yd h2) (qV h3);have ez:JC (n:=n) m (.leaf (.set x0 t c))=[m++x0++aa " := "++zb t c]:=by
     show [m++(x0++aa " := "++zb t c)]=_;rw[← gz,← gz]
    have l4:(aa " := ").length=4:=rfl;refine⟨_,rfl,b,_,_,_,rfl,rfl,SqT.of hb,jr (j:=0) rfl,rfl,_,rfl,kB ?_⟩;refine⟨_,rfl,b,_,_,_,rfl,rfl,SqT.of hb,jr (j:=0) rfl,rfl,_,rfl,kB ?_⟩;refine⟨_,rfl,b,_,_,_,rfl,rfl,SqT.of hb,jr (j:=0) rfl,rfl,_,rfl,kQ ?_⟩;refine⟨_,rfl,.inl ⟨rfl,_,SqL.of hG⟩,_,rfl,_,rfl,b,_,_,_,rfl,rfl,SqT.of hb,jr (j:=1) rfl,_,_,rfl,rfl,jL (by omega),_,_,rfl,rfl,jL (by rw[aU];omega),_,rfl,b,_,_,_,rfl,rfl,SqT.of hb,jr (j:=2) rfl,_,rfl,b,_,_,_,rfl,rfl,SqT.of hb,jr (j:=3) rfl,u,c,_,rfl,qV h3,.inl ⟨t,hu',yd h2,rfl⟩,fun G1 s1=>⟨_,_,rfl,rfl,jL (by rw[aU,aU];omega),?_⟩⟩;obtain⟨k1,k2,k3⟩:=app (v3:=some (.ref b)) (v4:=u4) (v5:=u5) s1 ez;exact⟨rl,_,_,rfl,rfl,k1,k2,k3⟩
   | put r x0 d t c=>
    obtain⟨b,b2,u,rfl,hb,hb2,hu'⟩:=jeS (show Held G (Sm.put r x0 d t c).toD x from hxd);obtain⟨h1,h2,h3,h4,h5⟩:=hfit;have hA:TmF (.at_ r x0 d):=⟨h1,h2,h3⟩
    have hal:=zo (yd hA);have ht:=qC (yd h4) (qV h5);have ez:JC (n:=n) m (.leaf (.put r x0 d t c))=[m++yc (.at_ r x0 d)++aa " := "++zb t c]:=by
     show [m++(r++aa "["++kK x0 d++aa "] := "++zb t c)]=[m++(r++aa "["++kK x0 d++aa "]")++aa " := "++zb t c];rw[show aa "] := " = aa "]"++aa " := " from rfl];simp only[gz]
    have l4:(aa " := ").length=4:=rfl;refine⟨_,rfl,b,_,_,_,rfl,rfl,SqT.of hb,jr (j:=0) rfl,rfl,_,rfl,kB ?_⟩;refine⟨_,rfl,b,_,_,_,rfl,rfl,SqT.of hb,jr (j:=0) rfl,rfl,_,rfl,kB ?_⟩;refine⟨_,rfl,b,_,_,_,rfl,rfl,SqT.of hb,jr (j:=0) rfl,rfl,_,rfl,kB ?_⟩;refine⟨_,rfl,b,_,_,_,rfl,rfl,SqT.of hb,jr (j:=0) rfl,rfl,_,rfl,kQ ?_⟩;refine⟨_,rfl,b,_,_,_,rfl,rfl,SqT.of hb,jr (j:=1) rfl,_,rfl,b,_,_,_,rfl,rfl,SqT.of hb,jr (j:=2) rfl,sm rfl,fun p hp=>?_⟩;have s0:=ji hp (.tup [V.str (aa "at"),V.str r,V.ref b2]);refine⟨.ref p,0,_,rfl,by decide,.inl ⟨.at_ r x0 d,jy jc (je jw (je jw (je (YH (s0 _ _ hb2)) jz))),yd hA,rfl⟩,fun G1 s1=>?_⟩;have s01:=s0.trans s1;rw[jkD];refine gQ ?_;refine⟨_,rfl,.inl ⟨rfl,_,SqL.of (s01 _ _ hG)⟩,_,rfl,_,rfl,_,_,rfl,rfl,jL (by omega),_,_,rfl,rfl,jL (by rw[aU];omega),_,rfl,b,_,_,_,rfl,rfl,SqT.of (s01 _ _ hb),jr (j:=3) rfl,_,rfl,b,_,_,_,rfl,rfl,SqT.of (s01 _ _ hb),jr (j:=4) rfl,u,c,_,rfl,qV h5,.inl ⟨t,hu'.mono s01,yd h4,rfl⟩,fun G2 s2=>⟨_,_,rfl,rfl,jL (by rw[aU,aU];omega),?_⟩⟩;obtain⟨k1,k2,k3⟩:=app (v3:=some (.ref b)) (v4:=some (.str (yc (.at_ r x0 d)))) (v5:=u5) (s01.trans s2) ez;exact⟨rl,_,_,rfl,rfl,k1,k2,k3⟩
   | any x0=>
    obtain⟨b,rfl,hb⟩:=zc (show Held G (.tup [.str "any",.str x0]) x from hxd);have h8:=ko (show j7 (cd x0)=true from hfit);have ez:JC (n:=n) m (.leaf (.any x0))=[m++aa "any "++x0]:=by
     show [m++(aa "any "++x0)]=_;rw[← gz]
    have l4:(aa "any ").length=4:=rfl;refine⟨_,rfl,b,_,_,_,rfl,rfl,SqT.of hb,jr (j:=0) rfl,rfl,_,rfl,kB ?_⟩;refine⟨_,rfl,b,_,_,_,rfl,rfl,SqT.of hb,jr (j:=0) rfl,rfl,_,rfl,kB ?_⟩;refine⟨_,rfl,b,_,_,_,rfl,rfl,SqT.of hb,jr (j:=0) rfl,rfl,_,rfl,kB ?_⟩;refine⟨_,rfl,b,_,_,_,rfl,rfl,SqT.of hb,jr (j:=0) rfl,rfl,_,rfl,kB ?_⟩;refine⟨_,rfl,b,_,_,_,rfl,rfl,SqT.of hb,jr (j:=0) rfl,rfl,_,rfl,kQ ?_⟩;refine⟨_,rfl,.inl ⟨rfl,_,SqL.of hG⟩,_,rfl,_,_,rfl,rfl,jL (by omega),_,rfl,b,_,_,_,rfl,rfl,SqT.of hb,jr (j:=1) rfl,_,_,rfl,rfl,jL (by rw[aU];omega),?_⟩;obtain⟨k1,k2,k3⟩:=app (v3:=some (.ref b)) (v4:=u4) (v5:=u5) (Same.refl G) ez;exact⟨rl,_,_,rfl,rfl,k1,k2,k3⟩
   | claim C=>
    obtain⟨b,u,rfl,hb,hu'⟩:=ja6 (show Held G (Sm.claim C).toD x from hxd);have hsh:=yR (show ClF C from hfit);have hcl:=qd hsh;have ez:JC (n:=n) m (.leaf (.claim C))=[m++aa "claim "++jB C]:=by
     show [m++(aa "claim "++jB C)]=_;rw[← gz]
    have l4:(aa "claim ").length=6:=rfl;refine⟨_,rfl,b,_,_,_,rfl,rfl,SqT.of hb,jr (j:=0) rfl,rfl,_,rfl,kB ?_⟩;refine⟨_,rfl,b,_,_,_,rfl,rfl,SqT.of hb,jr (j:=0) rfl,rfl,_,rfl,kB ?_⟩;refine⟨_,rfl,b,_,_,_,rfl,rfl,SqT.of hb,jr (j:=0) rfl,rfl,_,rfl,kB ?_⟩;refine⟨_,rfl,b,_,_,_,rfl,rfl,SqT.of hb,jr (j:=0) rfl,rfl,_,rfl,kB ?_⟩;refine⟨_,rfl,b,_,_,_,rfl,rfl,SqT.of hb,jr (j:=0) rfl,rfl,_,rfl,kB ?_⟩;refine⟨_,rfl,b,_,_,_,rfl,rfl,SqT.of hb,jr (j:=0) rfl,rfl,_,rfl,kQ ?_⟩;refine⟨_,rfl,.inl ⟨rfl,_,SqL.of hG⟩,_,rfl,_,_,rfl,rfl,jL (by omega),_,rfl,b,_,_,_,rfl,rfl,SqT.of hb,jr (j:=1) rfl,u,C,rfl,hu',hsh,fun G1 s1=>⟨_,_,rfl,rfl,jL (by rw[aU];omega),?_⟩⟩;obtain⟨k1,k2,k3⟩:=app (v3:=some (.ref b)) (v4:=u4) (v5:=u5) s1 ez;exact⟨rl,_,_,rfl,rfl,k1,k2,k3⟩
   | call x0 g as rs=>
    obtain⟨b,b2,b3,rfl,hb,hb2,hb3⟩:=jdd (show Held G (Sm.call x0 g as rs).toD x from hxd);obtain⟨h1,h2⟩:=hfit;have hpl:=jaQ (S:=.call x0 g as rs) ⟨h1,h2⟩;have ez:JC (n:=n) m (.leaf (.call x0 g as rs))=[m++j8 (aa "call" :: x0 :: g :: as) rs]:=rfl;simp only[af,aw]at h2;refine⟨_,rfl,b,_,_,_,rfl,rfl,SqT.of hb,jr (j:=0) rfl,rfl,_,rfl,kB ?_⟩;refine⟨_,rfl,b,_,_,_,rfl,rfl,SqT.of hb,jr (j:=0) rfl,rfl,_,rfl,kB ?_⟩;refine⟨_,rfl,b,_,_,_,rfl,rfl,SqT.of hb,jr (j:=0) rfl,rfl,_,rfl,kB ?_⟩;refine⟨_,rfl,b,_,_,_,rfl,rfl,SqT.of hb,jr (j:=0) rfl,rfl,_,rfl,kB ?_⟩;refine⟨_,rfl,b,_,_,_,rfl,rfl,SqT.of hb,jr (j:=0) rfl,rfl,_,rfl,kB ?_⟩;refine⟨_,rfl,b,_,_,_,rfl,rfl,SqT.of hb,jr (j:=0) rfl,rfl,_,rfl,kB ?_⟩;refine⟨_,rfl,b,_,_,_,rfl,rfl,SqT.of hb,jr (j:=1) rfl,_,rfl,b,_,_,_,rfl,rfl,SqT.of hb,jr (j:=2) rfl,sm rfl,fun l1 hl1=>?_⟩;have s1:=ji hl1 (.lst ([aa "call",x0,g].map V.str));have e1':upd G l1 (.lst ([aa "call",x0,g].map V.str)) l1=some (.lst ([aa "call",x0,g].map V.str)):=jc;refine⟨_,rfl,b,_,_,_,rfl,rfl,SqT.of (s1 _ _ hb),jr (j:=3) rfl,b2,_,rfl,.inr (SqT.of (s1 _ _ hb2)),fun l2 hl2=>?_⟩;have s2:=ji hl2 (.lst (as.map V.str));refine Jw (s2 _ _ e1') jc (by show 3+_≤_;omega) fun l3 G3 s3 _ e3=>⟨sm rfl,fun l4 hl4=>?_⟩
    obtain⟨s4,e4⟩:=yM hl4 (aa ";");have s14:=s1.trans (s2.trans (s3.trans s4));refine Jw (s4 _ _ e3) e4 (by rw[af];show 3+_+1≤_;omega) fun l5 G5 s5 _ e5=>?_
    have s15:=s14.trans s5;refine⟨_,rfl,b,_,_,_,rfl,rfl,SqT.of (s15 _ _ hb),jr (j:=4) rfl,b3,_,rfl,.inr (SqT.of (s15 _ _ hb3)),fun l6 hl6=>?_⟩;have s6:=ji hl6 (.lst (rs.map V.str));refine Jw (s6 _ _ e5) jc (by rw[af,af];show 3+_+1+_≤_;omega) fun l7 G7 s7 _ e7=>?_
    have s17:=s15.trans (s6.trans s7);refine gQ ?_;have hz8:∀r∈[aa "call",x0,g]++as++[aa ";"]++rs,r.length≤8:=fun r hr=>by
     simp only[aB,ak,bn,or_false]at hr;rcases hr with (((h | h | h) | h) | h) | h
     ·rw[h];decide +kernel
     ·exact ko (h1 r (by simp[h]))
     ·exact ko (h1 r (by simp[h]))
     ·exact ko (h1 r (by simp[h]))
     ·rw[h];decide +kernel
     ·exact ko (h1 r (by simp[h]))
    have hj:bZ (aa " ") ([aa "call",x0,g]++as++[aa ";"]++rs)=j8 (aa "call" :: x0 :: g :: as) rs:=by
     rw[show bZ (aa " ") ([aa "call",x0,g]++as++[aa ";"]++rs)=(aa " ").join ([aa "call",x0,g]++as++[aa ";"]++rs) from fz _ _];unfold j8;rw[aG ([aa "call",x0,g]++as)];rfl
    refine⟨_,rfl,.inl ⟨rfl,_,SqL.of (s17 _ _ hG)⟩,_,rfl,rfl,_,rfl,_,l7,_,rfl,rfl,SqL.of e7,?_,?_⟩
    ·have h9:=Kr hz8
     have h10:(aa " ").length=1:=rfl;rw[h10];simp only[af,aw,a_]at h9 ⊢;omega
    rw[hj];refine⟨_,_,rfl,rfl,jL (by have:(j8 (aa "call" :: x0 :: g :: as) rs).length≤600:=hpl;omega),?_⟩;obtain⟨k1,k2,k3⟩:=app (v3:=some (.ref b)) (v4:=u4) (v5:=some (.ref l7)) s17 ez;exact⟨rl,_,_,rfl,rfl,k1,k2,k3⟩
  ·obtain⟨t,u,p,q',xs',ys',rfl,ht,hu',hp,hxx,hq,hyy⟩:=jbN (show Held G (Nd.ite a' b' c' (x'.map (stD n)) (y'.map (stD n))).toD x from hxd)
   obtain⟨f1,f2,f3⟩:=(show ClF (.least a' b' c')/\(∀t∈x',StF n t)/\∀t∈y',StF n t from hfit)
   have hsh:=yR f1;have hcl:=qd hsh;have hc2:R.length+((jP n (m++aa "  ") x').length+(jP n (m++aa "  ") y').length+3)≤100000:=by
    have:(JC m (.ite a' b' c' x' y':Fo (StN n))).length=(jP n (m++aa "  ") x').length+(jP n (m++aa "  ") y').length+3:=by
     show ((m++aa "if "++jB (.least a' b' c')) :: (jP n (m++aa "  ") x'++(m++aa "else") :: (jP n (m++aa "  ") y'++[m++aa "end"]))).length=_;simp only[af,aw,a_];omega
    rw[← this];exact hcount
   refine⟨_,rfl,t,_,_,_,rfl,rfl,SqT.of ht,jr (j:=0) rfl,rfl,_,rfl,kQ ?_⟩;refine⟨_,rfl,_,rfl,_,_,rfl,rfl,jL (ad (bh hm' (show (aa "if ").length≤3 by decide +kernel)) (by decide)),_,rfl,t,_,_,_,rfl,rfl,SqT.of ht,jr (j:=1) rfl,u,.least a' b' c',rfl,hu',hsh,fun G1 s1=>⟨_,_,rfl,rfl,jL (by rw[aU];have:(aa "if ").length=3:=rfl;omega),sm rfl,fun l1 hl1=>?_⟩⟩;obtain⟨s2,e2'⟩:=yM hl1 (m++aa "if "++jB (.least a' b' c'));generalize upd G1 l1 (.lst [V.str (m++aa "if "++jB (.least a' b' c'))])=G2 at *;have s12:=s1.trans s2;refine Jw (s12 _ _ hG) e2' (by show _+1≤_;omega) fun l2 G3 s3 _ e3=>?_
   have s13:=s12.trans s3;refine⟨_,rfl,t,_,_,_,rfl,rfl,SqT.of (s13 _ _ ht),jr (j:=2) rfl,_,rfl,_,_,rfl,rfl,jL (by rw[e2];omega),.ref p,m++aa "  ",x',rfl,jy (s13 _ _ hp) (hxx.mono s13),f2,hmm,by omega,fun a1 G4 s4 e4=>?_⟩;refine Jw (s4 _ _ e3) e4 (by rw[af];show _+1+_≤_;omega) fun l3 G5 s5 _ e5=>?_
   have s15:=s13.trans (s4.trans s5);refine gQ ?_;refine⟨_,rfl,_,rfl,_,_,rfl,rfl,jL (ad (bh hm' (show (aa "else").length≤4 by decide +kernel)) (by decide)),sm rfl,fun l4 hl4=>?_⟩;obtain⟨s6,e6⟩:=yM hl4 (m++aa "else");generalize upd G5 l4 (.lst [V.str (m++aa "else")])=G6 at *;refine Jw (s6 _ _ e5) e6 (by rw[af,af];show _+1+_+1≤_;omega) fun l5 G7 s7 _ e7=>?_
   have s17:=s15.trans (s6.trans s7);refine⟨_,rfl,t,_,_,_,rfl,rfl,SqT.of (s17 _ _ ht),jr (j:=3) rfl,_,rfl,_,_,rfl,rfl,jL (by rw[e2];omega),.ref q',m++aa "  ",y',rfl,jy (s17 _ _ hq) (hyy.mono s17),f3,hmm,by omega,fun a2 G8 s8 e8=>?_⟩;refine Jw (s8 _ _ e7) e8 (by rw[af,af,af];show _+1+_+1+_≤_;omega) fun l6 G9 s9 _ e9=>?_
   refine⟨_,rfl,_,_,rfl,rfl,jL (ad (bh hm' (show (aa "end").length≤3 by decide +kernel)) (by decide)),sm rfl,fun l7 hl7=>?_⟩;obtain⟨sa,ea⟩:=yM hl7 (m++aa "end");generalize upd G9 l7 (.lst [V.str (m++aa "end")])=Ga at *;have s1a:=s17.trans (s8.trans (s9.trans sa));refine Jw (sa _ _ e9) ea (by rw[af,af,af,af];show _+1+_+1+_+1≤_;omega) fun l8 Gb sb hl8 eb=>?_
   refine gQ ?_;refine fin (sG.trans (s1a.trans sb)) (jai (sG.trans s1a) hl8) ?_;rw[eb];show _=some (HO.lst ((R++((m++aa "if "++jB (.least a' b' c')) :: (jP n (m++aa "  ") x'++(m++aa "else") :: (jP n (m++aa "  ") y'++[m++aa "end"])))).map V.str));simp only[aG,cO,df]
  ·obtain⟨t,u,p,q',xs',ys',rfl,ht,hu',hp,hxx,hq,hyy⟩:=jbh (show Held G (Nd.whl a' b' c' ks (x'.map (stD n))).toD x from hxd)
   obtain⟨f1,f2,f4,f3⟩:=(show ClF (.least a' b' c')/\(∀k∈ks,ClF k)/\ks.length≤20/\∀t∈x',StF n t from hfit)
   have hsh:=yR f1;have hcl:=qd hsh;have hc2:R.length+(ks.length+(jP n (m++aa "  ") x').length+2)≤100000:=by
    have:(JC m (.whl a' b' c' ks x':Fo (StN n))).length=ks.length+(jP n (m++aa "  ") x').length+2:=by
     show ((m++aa "while "++jB (.least a' b' c')) :: (ks.map (fun k=>m++aa "  keep "++jB k)++(jP n (m++aa "  ") x'++[m++aa "end"]))).length=_;simp only[af,aw,a_,ae];omega
    rw[← this];exact hcount
   refine⟨_,rfl,t,_,_,_,rfl,rfl,SqT.of ht,jr (j:=0) rfl,rfl,_,rfl,kB ?_⟩;refine⟨_,rfl,t,_,_,_,rfl,rfl,SqT.of ht,jr (j:=0) rfl,rfl,_,rfl,kQ ?_⟩;refine⟨_,rfl,_,rfl,_,_,rfl,rfl,jL (ad (bh hm' (show (aa "while ").length≤6 by decide +kernel)) (by decide)),_,rfl,t,_,_,_,rfl,rfl,SqT.of ht,jr (j:=1) rfl,u,.least a' b' c',rfl,hu',hsh,fun G1 s1=>⟨_,_,rfl,rfl,jL (by rw[aU];have:(aa "while ").length=6:=rfl;omega),sm rfl,fun l1 hl1=>?_⟩⟩;obtain⟨s2,e2'⟩:=yM hl1 (m++aa "while "++jB (.least a' b' c'));generalize upd G1 l1 (.lst [V.str (m++aa "while "++jB (.least a' b' c'))])=G2 at *;have s12:=s1.trans s2;refine Jw (s12 _ _ hG) e2' (by show _+1≤_;omega) fun l2 G3 s3 _ e3=>?_
   have s13:=s12.trans s3;refine gQ ?_;have hlk:xs'.length=ks.length:=by rw[← hxx.length,ae]
   refine⟨_,rfl,_,rfl,t,_,_,_,rfl,rfl,SqT.of (s13 _ _ ht),jr (j:=2) rfl,p,rfl,⟨_,SqT.of (s13 _ _ hp)⟩,fun cp hcp=>?_⟩;refine YL (xs:=xs') (fun i σ' G=>∃u,σ'=[u,some (.str m)]/\Same G3 G/\G cp=some (.lst (((ks.take i).map (fun k=>m++aa "  keep "++jB k)).map V.str))) ⟨none,rfl,ji hcp _,jc⟩ ?_ ?_ ?_
   ·rintro i σ' G _ ⟨u,rfl,sG,_⟩
    exact SqT.of (sG _ _ (s13 _ _ hp))
   ·rintro i x σ' X hx' ⟨u,rfl,sX,hX⟩
    have hi:i < ks.length:=by rw[← hlk];exact (bx.mp hx').1
    obtain⟨x2,hx2,hxd2⟩:=hxx.get (j:=i) (d:=ks[i].toD) (by rw[bq,aE hi];rfl);rw[hx']at hx2
    cases hx2
    have hkf:=yR (f2 ks[i] (bW hi));have hkl:=qd hkf;unfold qA y4;refine kQ ?_;refine⟨_,rfl,_,_,rfl,rfl,jL (ad (bh hm' (show (aa "  keep ").length≤7 by decide +kernel)) (by decide)),_,rfl,x,ks[i],rfl,hxd2.mono (s13.trans sX),hkf,fun X1 sX1=>⟨_,_,rfl,rfl,jL (by rw[aU];have:(aa "  keep ").length=7:=rfl;omega),_,sX1 _ _ hX,ky (by rw[ae,ae,cA];omega),_,rfl,?_,?_⟩⟩
    ·intro c o e
     rw[js (jl e hcp)];exact sX1 _ _ (sX _ _ e)
    ·rw[jc,cL,aE hi,aH,aH]
     rfl
   rintro σ' X ⟨u9,rfl,sX,hX⟩;rw[hlk,cy]at hX;refine Jw (sX _ _ e3) hX (by rw[af,ae];show _+1+_≤_;omega) fun l3 G5 s5 _ e5=>?_
   have s15:=s13.trans (sX.trans s5);refine gQ ?_;refine⟨_,rfl,_,rfl,t,_,_,_,rfl,rfl,SqT.of (s15 _ _ ht),jr (j:=3) rfl,_,rfl,_,_,rfl,rfl,jL (by rw[e2];omega),.ref q',m++aa "  ",x',rfl,jy (s15 _ _ hq) (hyy.mono s15),f3,hmm,by omega,fun a2 G8 s8 e8=>?_⟩;refine Jw (s8 _ _ e5) e8 (by rw[af,af,ae];show _+1+_+_≤_;omega) fun l6 G9 s9 _ e9=>?_
   refine⟨_,rfl,_,_,rfl,rfl,jL (ad (bh hm' (show (aa "end").length≤3 by decide +kernel)) (by decide)),sm rfl,fun l7 hl7=>?_⟩;obtain⟨sa,ea⟩:=yM hl7 (m++aa "end");generalize upd G9 l7 (.lst [V.str (m++aa "end")])=Ga at *;have s1a:=s15.trans (s8.trans (s9.trans sa));refine Jw (sa _ _ e9) ea (by rw[af,af,af,ae];show _+1+_+_+1≤_;omega) fun l8 Gb sb hl8 eb=>?_
   refine gQ ?_;refine fin (sG.trans (s1a.trans sb)) (jai (sG.trans s1a) hl8) ?_;rw[eb];show _=some (HO.lst ((R++((m++aa "while "++jB (.least a' b' c')) :: (ks.map (fun k=>m++aa "  keep "++jB k)++(jP n (m++aa "  ") x'++[m++aa "end"])))).map V.str));simp only[aG,cO,df]
 ·rintro σ G ⟨rl,u3,u4,u5,rfl,sG,hrl,hG⟩
  rw[hlu,cy]at hG;exact⟨_,rfl,q _ _ sG hG⟩
end
abbrev yr:Stmt:=top 81
def jex:Sp:=fun vs H Q _=>∃(v:V) (ps:List Pc),vs=[v]/\Held H (.tup (ps.map Pc.toD)) v/\(∀p∈ps,PcF p/\p.lv=4)/\(jX ps).length≤10000/\∀a H',Same H H'->H' a=some (.lst ((jX ps).map V.str))->Q (.ref a) H'
theorem jdb{cp:Addr}{ks:List Cl}{pre:Str}(hpre:pre.length≤100)(ha:H a=some (.tup xs))(hx:HeldL H (ks.map Cl.toD) xs)(hf:∀k∈ks,ClF k)(hk:ks.length≤20)(hcp:H cp=none)(q:∀G,Same H G->G cp=some (.lst ((ks.map (fun k=>pre++jB k)).map V.str))->Q (.ref cp) G):
  Ko (Itt K a) cp (qA 0) y4 (tOp (fun x y H Q=>∃i j,x=.str i/\y=.str j/\i.length+j.length≤au/\Q (.str (i++j)) H) (tC (.str pre)) (y6 y9 [] E0 (Jy (jbk 0) jch))) Q [none] (upd H cp (.lst [])):=by
 have hlk:xs.length=ks.length:=by rw[← hx.length,ae]
 refine YL (xs:=xs) (fun i σ' G=>∃u,σ'=[u]/\Same H G/\G cp=some (.lst (((ks.take i).map (fun k=>pre++jB k)).map V.str))) ⟨none,rfl,ji hcp _,jc⟩ ?_ ?_ ?_
 ·rintro i σ' G _ ⟨u,rfl,sG,_⟩
  exact SqT.of (sG _ _ ha)
 ·rintro i x σ' G hx' ⟨u,rfl,sG,hG⟩
  have hi:i < ks.length:=by rw[← hlk];exact (bx.mp hx').1
  obtain⟨x2,hx2,hxd⟩:=hx.get (j:=i) (d:=ks[i].toD) (by rw[bq,aE hi];rfl)
  rw[hx']at hx2
  cases hx2
  have hkf:=yR (hf ks[i] (bW hi))
  have hkl:=qd hkf
  unfold qA y4
  refine kQ ?_
  refine⟨_,rfl,x,ks[i],rfl,hxd.mono sG,hkf,fun G1 sG1=>⟨_,_,rfl,rfl,jL (by omega),_,sG1 _ _ hG,ky (by rw[ae,ae,cA];omega),_,rfl,?_,?_⟩⟩
  ·intro c o e
   rw[js (jl e hcp)]
   exact sG1 _ _ (sG _ _ e)
  ·rw[jc,cL,aE hi,aH,aH]
   rfl
 ·rintro σ' G ⟨u9,rfl,sG,hG⟩
  rw[hlk,cy]at hG
  exact q G sG hG
section
theorem jdM(F:Fun K "_law_rows_of" "_law_rows_of" zT f fd)(B:Free0 mg)(cm:Fn P w K mg base 0 "_law_rows_of" ["_law_body_here","_law_ahead"] jjq)(aO:Fn P w K mg base 4 "_law_claim_text" ["_law_claim_here"] y9)(bj:Fn P w K mg base 3 "_law_term_text" ["_law_term_here","_law_more_here"] Yq):FnOk P w K mg base CX0 5 f fd ["_law_body_here","_law_ahead"] (zw 0):=by
 have sc:FnScope ["_law_body_here","_law_ahead","_law_rows","_law_one","_law_left","_law_words"] ["_law_body_here","_law_ahead"] (jn zT):=fQ;refine F.okZ sc (fun vs H Q E h=>?_) (fun aj A outer s H vs Q E hr h=>?_)
 ·obtain⟨_,_,_,rfl,_⟩:=h
  rfl
 obtain⟨v,m,l,rfl,hv,hF,hm,hl,q⟩:=h;refine⟨_,(jd (ju (i:=2) sc.nd rfl oQ (jT jb))
   (jd (zq cu rfl (qS (zpv 0)) (jm (i:=3) sc.nd rfl oQ) (jh (jM (jA j5 (jv jE (zpv 3) jg (fun _ _=>rfl)) jf (jD _)) (jd (ju (i:=2) sc.nd rfl oQ (jt kt (jt kt (zpv 2) (jT (ja (jt jq (jt jq (zpv 1) jf) (jp aO hr (ja (jv jE (zpv 3) jg (fun _ _=>rfl)) jb))) jb))) (jp cm hr (ja (jv jE (zpv 3) jg (fun _ _=>rfl)) (ja (jt jq (zpv 1) jf) jb)))))
   (jh (ju (i:=2) sc.nd rfl oQ (jt kt (jt kt (jt kt (zpv 2) (jT (ja (jt jq (zpv 1) jf) jb))) (jp cm hr (ja (jv jE (zpv 3) jg (fun _ _=>rfl)) (ja (jt jq (zpv 1) jf) jb)))) (jT (ja (jt jq (zpv 1) jf) jb)))))) (jh (jM (jA j5 (jv jE (zpv 3) jg (fun _ _=>rfl)) jf (jD _)) (jd (ju (i:=2) sc.nd rfl oQ (jt kt (zpv 2) (jT (ja (jt jq (jt jq (zpv 1) jf) (jp aO hr (ja (jv jE (zpv 3) jg (fun _ _=>rfl)) jb))) jb))))
   (jd (ju (i:=2) sc.nd rfl oQ (jt kt (zpv 2) (qt ["_law_keep"] [1] rfl (qc (sc:=jn zT) (N:=["_law_body_here","_law_ahead","_law_rows","_law_one","_law_left","_law_words"]) rfl rfl (by decide +kernel)) (qS (jv jE (zpv 3) jg (fun _ _=>rfl))) (fun s H ex=>⟨(jm (i:=0) (show br (["_law_keep","_law_ahead"]:List Str) by decide +kernel) rfl oQ),kT,(jt jq (jt jq (zpv 1) jf) (jp aO hr (ja (zpv 0) jb)))⟩))))
   (jh (ju (i:=2) sc.nd rfl oQ (jt kt (jt kt (zpv 2) (jp cm hr (ja (jv jE (zpv 3) jg (fun _ _=>rfl)) (ja (jt jq (zpv 1) jf) jb)))) (jT (ja (jt jq (zpv 1) jf) jb))))))) (jh (jM (jA j5 (jv jE (zpv 3) jg (fun _ _=>rfl)) jf (jD _)) (jh (jC (jN aF aS aR jW (zpv 2) (ja (jt jq (jt jq (jt jq (zpv 1) (jv jE (zpv 3) jg (fun _ _=>rfl))) jf) (jp bj hr (ja (jv jE (zpv 3) jg (fun _ _=>rfl)) (ja (jv jE (zpv 3) jg (fun _ _=>rfl)) jb)))) jb)))) (jh (jM (jA j5 (jv jE (zpv 3) jg (fun _ _=>rfl)) jf (jD _)) (jd (ju (i:=4) sc.nd rfl oQ (jp bj hr (ja (jQ (ja jf (ja (jv jE (zpv 3) jg (fun _ _=>rfl)) (ja (jv jE (zpv 3) jg (fun _ _=>rfl)) jb)))) (ja jg jb))))
   (jh (jC (jN aF aS aR jW (zpv 2) (ja (jt jq (jt jq (jt jq (zpv 1) (zpv 4)) jf) (jp bj hr (ja (jv jE (zpv 3) jg (fun _ _=>rfl)) (ja (jv jE (zpv 3) jg (fun _ _=>rfl)) jb)))) jb))))) (jh (jM (jA j5 (jv jE (zpv 3) jg (fun _ _=>rfl)) jf (jD _)) (jh (jC (jN aF aS aR jW (zpv 2) (ja (jt jq (jt jq (zpv 1) jf) (jv jE (zpv 3) jg (fun _ _=>rfl))) jb)))) (jh (jM (jA j5 (jv jE (zpv 3) jg (fun _ _=>rfl)) jf (jD _)) (jh (jC (jN aF aS aR jW (zpv 2) (ja (jt jq (jt jq (zpv 1) jf) (jp aO hr (ja (jv jE (zpv 3) jg (fun _ _=>rfl)) jb))) jb)))) (jd (ju (i:=5) sc.nd rfl oQ (jt kt (jt kt (jt kt (jT (ja jf (ja (jv jE (zpv 3) jg (fun _ _=>rfl)) (ja (jv jE (zpv 3) jg (fun _ _=>rfl)) jb)))) (kC qk (by rfl) B.list_ yj (ja (jv jE (zpv 3) jg (fun _ _=>rfl)) jb))) (jT (ja jf jb))) (kC qk (by rfl) B.list_ yj (ja (jv jE (zpv 3) jg (fun _ _=>rfl)) jb))))
   (jh (jC (jN aF aS aR jW (zpv 2) (ja (jt jq (zpv 1) (jN be eK eI yO jf (ja (zpv 5) jb))) jb))))))))))))))))))
   (jh (jx (zpv 2))))),?_⟩
 try dsimp only[qo]
 refine yP ?_;intro _ _
 cases jg3 (l:=l)
 obtain⟨a,us,rfl,ha,hu⟩:=jF hv
 cases jR hu
 refine jG (σ':=[some (.ref a),some (.str m),none,none,none,none]) rfl ?_;refine⟨sm rfl,fun tl htl=>?_⟩;have s1:=ji htl (.lst []);have e1:upd H tl (.lst []) tl=some (.lst []):=jc;generalize upd H tl (.lst [])=H1 at *;refine gQ ?_;refine⟨_,rfl,a,rfl,⟨_,SqT.of (s1 _ _ ha)⟩,?_⟩;refine Ju (xs:=[]) (fun _ σ G=>σ=[some (.ref a),some (.str m),some (.ref tl),none,none,none]/\G=H1) ⟨rfl,rfl⟩ (fun i σ G _ h=>by rw[h.2];exact SqT.of (s1 _ _ ha)) (fun i x σ G hx _=>by cases hx) fun σ G h=>?_
 obtain⟨rfl,rfl⟩:=h;exact⟨_,rfl,q _ _ s1 e1⟩
theorem jcH{f:Addr}{fd:aq}(U:Fun K "_law_rows_of" "_law_rows_of" zT f fd)(b:Binds K fd ["_law_body_here","_law_ahead"] [])(m:mg "_law_rows_of" = some (.ref f))(B:Free0 mg)(aO:Fn P w K mg base 4 "_law_claim_text" ["_law_claim_here"] y9)(bj:Fn P w K mg base 3 "_law_term_text" ["_law_term_here","_law_more_here"] Yq):∀n:Nat,Fn P w K mg base (5+n) "_law_rows_of" ["_law_body_here","_law_ahead"] (zw n)
 | 0=>Fn.mk' U b m (jdM U B (jiI U b m) aO bj)
 | n+1=>Fn.mk' U b m (jfX U B (jcH U b m B aO bj n) aO bj)
theorem jhO(F:Fun K "_law_text_rows" "_law_text_rows" yr f fd)(B:Free0 mg)(cm:Fn P w K mg base 9 "_law_rows_of" ["_law_body_here","_law_ahead"] (zw 4))(aO:Fn P w K mg base 4 "_law_claim_text" ["_law_claim_here"] y9):FnOk P w K mg base CX0 10 f fd ["_law_program_here"] jex:=by
 have sc:FnScope ["_law_program_here","_law_rows","_law_proc_here"] ["_law_program_here"] (jn yr):=fQ;refine F.okZ sc (fun vs H Q E h=>?_) (fun aj A outer s H vs Q E hr h=>?_)
 ·obtain⟨_,_,rfl,_⟩:=h
  rfl
 obtain⟨v,ps,rfl,hv,hF,hl,q⟩:=h;refine⟨_,(jd (ju (i:=1) sc.nd rfl oQ (jT jb))
   (jd (zq cu rfl (qS (zpv 0)) (jm (i:=2) sc.nd rfl oQ) (jd (jC (jN aF aS aR jW (zpv 1) (ja (jN be eK eI yO jf (ja (jt kt (jt kt (jt kt (jT (ja jf (ja (jv jE (zpv 2) jg (fun _ _=>rfl)) jb))) (kC qk (by rfl) B.list_ yj (ja (jv jE (zpv 2) jg (fun _ _=>rfl)) jb))) (jT (ja jf jb))) (kC qk (by rfl) B.list_ yj (ja (jv jE (zpv 2) jg (fun _ _=>rfl)) jb))) jb)) jb)))
   (jd (ju (i:=1) sc.nd rfl oQ (jt kt (zpv 1) (qt ["_law_claim_here"] [] rfl (qc (sc:=jn yr) (N:=["_law_program_here","_law_rows","_law_proc_here"]) rfl rfl (by decide +kernel)) (qS (jv jE (zpv 2) jg (fun _ _=>rfl))) (fun s H ex=>⟨(jm (i:=0) (show br (["_law_claim_here"]:List Str) by decide +kernel) rfl oQ),kT,(jt jq jf (jp aO hr (ja (zpv 0) jb)))⟩))))
   (jd (ju (i:=1) sc.nd rfl oQ (jt kt (zpv 1) (qt ["_law_claim_here"] [] rfl (qc (sc:=jn yr) (N:=["_law_program_here","_law_rows","_law_proc_here"]) rfl rfl (by decide +kernel)) (qS (jv jE (zpv 2) jg (fun _ _=>rfl))) (fun s H ex=>⟨(jm (i:=0) (show br (["_law_claim_here"]:List Str) by decide +kernel) rfl oQ),kT,(jt jq jf (jp aO hr (ja (zpv 0) jb)))⟩))))
   (jh (ju (i:=1) sc.nd rfl oQ (jt kt (jt kt (zpv 1) (jp cm hr (ja (jv jE (zpv 2) jg (fun _ _=>rfl)) (ja jf jb)))) (jT (ja jf jb)))))))))
   (jh (jx (zpv 1))))),?_⟩
 try dsimp only[qo]
 refine yP ?_;intro _ _;obtain⟨a,us,rfl,ha,hu⟩:=jF hv;refine jG (σ':=[some (.ref a),none,none]) rfl ?_;refine⟨sm rfl,fun tl htl=>?_⟩;have s1:=ji htl (.lst []);have e1:upd H tl (.lst []) tl=some (.lst []):=jc;generalize upd H tl (.lst [])=H1 at *;refine gQ ?_;refine⟨_,rfl,a,rfl,⟨_,SqT.of (s1 _ _ ha)⟩,?_⟩;have hlu:us.length=ps.length:=by rw[← hu.length,ae]
 let Pv:Nat->St->Hp->Prop:=fun i σ G=>∃rl u2,σ=[some (.ref a),some (.ref rl),u2]/\Same H G/\H rl=none/\G rl=some (.lst ((jX (ps.take i)).map V.str))
 refine Ju (xs:=us) Pv ⟨tl,none,rfl,s1,htl,e1⟩ ?_ ?_ ?_
 ·rintro i σ G _ ⟨rl,u2,rfl,sG,_⟩
  exact SqT.of (sG _ _ ha)
 ·rintro i x σ G hx ⟨rl,u2,rfl,sG,hrl,hG⟩
  have hi:i < ps.length:=by rw[← hlu];exact (bx.mp hx).1
  obtain⟨x',hx',hxd⟩:=hu.get (j:=i) (d:=ps[i].toD) (by rw[bq,aE hi];rfl);rw[hx]at hx'
  cases hx'
  have hrw:jX (ps.take (i+1))=jX (ps.take i)++qm ps[i]:=by
   unfold jX;rw[cL,aE hi,dN];simp
  have hcount:(jX (ps.take i)).length+(qm ps[i]).length≤10000:=by
   rw[← af,← hrw];refine ad ?_ hl;have:jX ps=jX (ps.take (i+1))++jX (ps.drop (i+1)):=by
    unfold jX;rw[← dN,eO]
   rw[this,af];omega
  obtain⟨hf,hv4⟩:=hF ps[i] (bW hi);have hxd:=hxd.mono sG;generalize ps[i]=p at *;obtain⟨f,pps,prs,pnd,pgv,plv,pbd⟩:=p
  cases (show plv=4 from hv4)
  generalize jX (ps.take i)=R at *;obtain⟨b,ap,ar,an,ag,ab,vn,vg,vb,rfl,hb,hap,har,han,hn,hag,hg,hab,hbb⟩:=jhI hxd;have hd:Nms (f :: pps++prs):=hf.hd;have hdl:(f :: pps++prs).length≤20:=hf.hl;have hcount:R.length+(j8 (aa "proc" :: f :: pps) prs :: (pnd.map (fun k=>aa "  need "++jB k)++(pgv.map (fun k=>aa "  give "++jB k)++(jP 4 (aa "  ") pbd++[aa "back"])))).length≤10000:=hcount;have hrw:jX (ps.take (i+1))=R++(j8 (aa "proc" :: f :: pps) prs :: (pnd.map (fun k=>aa "  need "++jB k)++(pgv.map (fun k=>aa "  give "++jB k)++(jP 4 (aa "  ") pbd++[aa "back"])))):=hrw;simp only[af,aw,a_,ae]at hcount hdl;dsimp only at hb hap har han hn hag hg hab hbb;refine gQ ?_;refine⟨_,rfl,.inl ⟨rfl,_,SqL.of hG⟩,rfl,_,rfl,b,_,_,_,rfl,rfl,SqT.of hb,jr (j:=1) rfl,sm rfl,fun l1 hl1=>?_⟩;have s2:=ji hl1 (.lst ([aa "proc",f].map V.str));have e2:upd G l1 (.lst ([aa "proc",f].map V.str)) l1=some (.lst ([aa "proc",f].map V.str)):=jc;refine⟨_,rfl,b,_,_,_,rfl,rfl,SqT.of (s2 _ _ hb),jr (j:=2) rfl,ap,_,rfl,.inr (SqT.of (s2 _ _ hap)),fun l2 hl2=>?_⟩;have s3:=ji hl2 (.lst (pps.map V.str));refine Jw (s3 _ _ e2) jc (by show 2+_≤_;omega) fun l3 G3 s4 _ e3=>⟨sm rfl,fun l4 hl4=>?_⟩
  obtain⟨s5,e4⟩:=yM hl4 (aa ";");have s25:=s2.trans (s3.trans (s4.trans s5));refine Jw (s5 _ _ e3) e4 (by rw[af];show 2+_+1≤_;omega) fun l5 G5 s6 _ e5=>?_
  have s26:=s25.trans s6;refine⟨_,rfl,b,_,_,_,rfl,rfl,SqT.of (s26 _ _ hb),jr (j:=3) rfl,ar,_,rfl,.inr (SqT.of (s26 _ _ har)),fun l6 hl6=>?_⟩;have s7:=ji hl6 (.lst (prs.map V.str));refine Jw (s7 _ _ e5) jc (by rw[af,af];show 2+_+1+_≤_;omega) fun l7 G7 s8 _ e7=>?_
  have s28:=s26.trans (s7.trans s8);have hz8:∀r∈[aa "proc",f]++pps++[aa ";"]++prs,r.length≤8:=fun r hr=>by
   simp only[aB,ak,bn,or_false]at hr;rcases hr with (((h | h) | h) | h) | h
   ·rw[h];decide +kernel
   ·exact ko (hd r (by simp[h]))
   ·exact ko (hd r (by simp[h]))
   ·rw[h];decide +kernel
   ·exact ko (hd r (by simp[h]))
  have hj:bZ (aa " ") ([aa "proc",f]++pps++[aa ";"]++prs)=j8 (aa "proc" :: f :: pps) prs:=by
   rw[show bZ (aa " ") ([aa "proc",f]++pps++[aa ";"]++prs)=(aa " ").join ([aa "proc",f]++pps++[aa ";"]++prs) from fz _ _];unfold j8;rw[aG ([aa "proc",f]++pps)];rfl
  refine⟨_,l7,_,rfl,rfl,SqL.of e7,?_,?_⟩
  ·have h9:=Kr hz8
   have h10:(aa " ").length=1:=rfl;rw[h10];simp only[af,aw,a_]at h9 ⊢;omega
  rw[hj];generalize j8 (aa "proc" :: f :: pps) prs=hw at *;refine⟨rl,_,_,rfl,rfl,s28 _ _ hG,kA (by rw[ae];omega),?_⟩;have s9:=Same.touch (o:=.lst ((R++[hw]).map V.str)) (sG.trans s28) hrl;have e9:upd G7 rl (.lst ((R++[hw]).map V.str)) rl=some (.lst ((R++[hw]).map V.str)):=jc;rw[show R.map V.str++[V.str hw]=(R++[hw]).map V.str by rw[aH];rfl];have tk:TK G7 (upd G7 rl (.lst ((R++[hw]).map V.str))):=(Keep.upd rl G7 _).tk (s28 _ _ hG);have hb9:=tk _ _ (s28 _ _ hb);have han9:=tk _ _ (s28 _ _ han);have hn9:=tk.heldL (hn.mono s28);have hag9:=tk _ _ (s28 _ _ hag);have hg9:=tk.heldL (hg.mono s28);have hab9:=tk _ _ (s28 _ _ hab);have hbb9:=tk.heldL (hbb.mono s28);generalize upd G7 rl (.lst ((R++[hw]).map V.str))=G9 at *;clear hb han hn hag hg hab hbb hap har s28 s26 s25 e7 e5 e3;refine⟨_,rfl,_,rfl,b,_,_,_,rfl,rfl,SqT.of hb9,jr (j:=4) rfl,an,rfl,⟨_,SqT.of han9⟩,fun c1 hc1=>jdb (by decide +kernel) han9 hn9 hf.nd hf.nl hc1 fun Ga sa ea=>?_⟩;refine Jw (sa _ _ e9) ea (by rw[af,ae];show _+1+_≤_;omega) fun l8 Gb sb _ eb=>?_
  have sab:=sa.trans sb;refine gQ ?_;refine⟨_,rfl,_,rfl,b,_,_,_,rfl,rfl,SqT.of (sab _ _ hb9),jr (j:=5) rfl,ag,rfl,⟨_,SqT.of (sab _ _ hag9)⟩,fun c2 hc2=>jdb (by decide +kernel) (sab _ _ hag9) (hg9.mono sab) hf.gv hf.gl hc2 fun Gc sc' ec=>?_⟩;refine Jw (sc' _ _ eb) ec (by rw[af,af,ae,ae];show _+1+_+_≤_;omega) fun l9 Gd sd _ ed=>?_
  have sad:=sab.trans (sc'.trans sd);refine gQ ?_;refine⟨_,rfl,_,rfl,b,_,_,_,rfl,rfl,SqT.of (sad _ _ hb9),jr (j:=6) rfl,.ref ab,aa "  ",pbd,rfl,jy (sad _ _ hab9) (hbb9.mono sad),hf.bd,(by show 2+2 * 4≤60;decide),by omega,fun a2 Ge se ee=>?_⟩;refine Jw (se _ _ ed) ee (by rw[af,af,af,ae,ae];show _+1+_+_+_≤_;omega) fun la Gf sf _ ef=>⟨sm rfl,fun lb hlb=>?_⟩
  obtain⟨sg,eg⟩:=yM hlb (aa "back");have sag:=sad.trans (se.trans (sf.trans sg));refine Jw (sg _ _ ef) eg (by rw[af,af,af,af,ae,ae];show _+1+_+_+_+1≤_;omega) fun lc Gh sh hlc eh=>?_
  refine gQ ?_;refine⟨lc,_,rfl,s9.trans (sag.trans sh),jai (s9.trans sag) hlc,?_⟩;rw[eh,hrw];simp only[aG,cO,df]
 ·rintro σ G ⟨rl,u2,rfl,sG,hrl,hG⟩
  rw[hlu,cy]at hG;exact⟨_,rfl,q _ _ sG hG⟩
end
theorem kP:∀{A B:List Str} {S S' S'':RdS},qF A S S'->qF B S' S''->qF (A++B) S S''
 | [],_,_,_,_,h,k=>by cases h;exact k
 | _ :: _,_,_,_,_,⟨S1,h1,h2⟩,k=>⟨S1,h1,kP h2 k⟩
variable {wd:Str}{l:List Nat}
theorem Ki{z:Str}(hd:JB wd=some R)(hb:32 ∉ cd wd)(ez:cd z=cd wd++32 :: l)(h:R S (mS l) S'):KH S z S':=by
 unfold KH;rw[ez,ym _ _ hb];dsimp only;rw[qP,hd];exact h
theorem jeg(hd:JB wd=some R)(hb:32 ∉ cd wd)(h:R S (aa "") S'):KH S wd S':=by
 unfold KH;have:prt [32] (cd wd)=(cd wd,[]):=by
  unfold prt;rw[jbz (aJ.mpr rfl) hb];rfl
 rw[this];dsimp only;rw[qP,hd];exact h
theorem je9:∀p∈ja3.map (·.1),p∈zK/\91 ∉ cd p:=by decide +kernel
theorem ja2(h:x ∉ ja3.map (·.1)):JB x=none:=by
 have:∀{l:List (Str×Rel)},x ∉ l.map (·.1)->l.lookup x=none:=by
  intro l;induction l with
  | nil=>intro _;rfl
  | cons p l ih=>
   intro h;rw[aX,ak,not_or]at h;rw[cN,show (x == p.1)=false from beq_eq_false_iff_ne.mpr h.1];exact ih h.2
 exact this h
theorem jkc(h:j7 (cd x)=true):JB x=none:=ja2 fun hx=>by
 have:=(je9 x hx).1;unfold j7 at h;simp only[bg,lj]at h;have h2:=h.2;rw[← sq,m7]at h2;exact h2 (b_.mpr ⟨x,this,rfl⟩)
variable {b:List Nat}
theorem ZC{a:List Nat}(h:58 ∉ a):prt [32,58,61,32] (a++32 :: 58 :: 61 :: 32 :: b)=(a,b):=by
 unfold prt;rw[Js (by decide) h,show kW [32,58,61,32] (32 :: 58 :: 61 :: 32 :: b)=some ([],b) from YA (s:=[58,61,32])];simp
theorem Zy(h:j7 l=true):58 ∉ l:=qL h rfl
theorem jgj{x:List Nat}(h:58 ∉ x)(c:Int):58 ∉ ku x c:=by
 unfold ku;split
 ·exact Kz rfl (by decide)
 split
 ·intro z
  rcases aB.mp z with z | z
  ·exact h z
  ·exact zL (k:=58) rfl (by simpa using z)
 split
 ·intro z
  rcases aB.mp z with z | z
  ·exact h z
  ·exact zL (k:=58) rfl (by simpa using z)
 ·exact h
theorem jjs{t:Tm}{ps:List D}{fs:List Fr}(h:SmF (.set x t c)):KH (ps,F :: fs) (qD (.set x t c)) (ps,yf F (Sm.set x t c).toD :: fs)/\jer (cd (qD (.set x t c))):=by
 obtain⟨h1,h2,h3⟩:=h;have ez:cd (qD (.set x t c))=cd x++32 :: 58 :: 61 :: 32 :: zi t c:=by
  show cd (x++aa " := "++zb t c)=_;rw[jY,jY,Ym,aG];rfl
 refine⟨?_,by rw[ez];exact⟨jfh h1 _,(jal h2 c).cons.cons.cons.cons.app _⟩⟩;unfold KH;rw[ez,ym _ _ (qL h1 rfl)];dsimp only;rw[qP,jkc h1];refine⟨ps,F,fs,.is x,t,c,rfl,?_,?_,rfl⟩
 ·rw[ez,ZC (Zy h1)]
  exact jaa h1
 ·rw[ez,ZC (Zy h1)]
  exact Kq h2 h3
theorem jjB{t:Tm}{ps:List D}{fs:List Fr}(h:SmF (.put r x d t c)):KH (ps,F :: fs) (qD (.put r x d t c)) (ps,yf F (Sm.put r x d t c).toD :: fs)/\jer (cd (qD (.put r x d t c))):=by
 obtain⟨h1,h2,h3,h4,h5⟩:=h;have ez:cd (qD (.put r x d t c))=qh (.at_ r x d)++32 :: 58 :: 61 :: 32 :: zi t c:=by
  show cd (r++aa "["++kK x d++aa "] := "++zb t c)=(cd r++91 :: (ku (cd x) d++[93]))++32 :: 58 :: 61 :: 32 :: zi t c;rw[jY,jY,jY,jY,Ym,yh];show cd r++[91]++ku (cd x) d++[93,32,58,61,32]++zi t c=_;simp
 have hn:58 ∉ qh (.at_ r x d):=by
  intro z;have z:58∈cd r++91 :: (ku (cd x) d++[93]):=z;rcases aB.mp z with z | z
  ·exact Zy h1 z
  ·rcases ak.mp z with z | z
   ·cases z
   ·rcases aB.mp z with z | z
    ·refine jgj ?_ d z
     rcases h2 with rfl | h2
     ·exact fun z=>nomatch z
     ·exact Zy h2
    ·exact absurd (aJ.mp z) (by decide)
 have e2:qh (.at_ r x d)++32 :: 58 :: 61 :: 32 :: zi t c=cd r++91 :: ((ku (cd x) d++[93])++32 :: 58 :: 61 :: 32 :: zi t c):=by
  show (cd r++91 :: (ku (cd x) d++[93]))++_=_;rw[aG];rfl
 refine⟨?_,by rw[ez];exact⟨by rw[e2];exact jfh h1 _,(jal h4 c).cons.cons.cons.cons.app _⟩⟩;unfold KH;have hw:JB (mS (prt [32] (cd (qD (.put r x d t c)))).1)=none:=by
  refine ja2 fun hx=>(je9 _ hx).2 ?_
  rw[kX,ez,e2];unfold prt;rw[K7 (qL h1 rfl)]
  cases e:kW [32] (91 :: ((ku (cd x) d++[93])++32 :: 58 :: 61 :: 32 :: zi t c)) with
  | none=>exact aT _ (am ..)
  | some p=>
   obtain⟨k1,_⟩:=zg (a:=p.1) (b:=p.2) e;show 91∈cd r++p.1
   cases e2:p.1 with
   | nil=>rw[e2]at k1;exact absurd (eR k1).1 (by decide)
   | cons z a=>rw[e2]at k1;rw[← (eR k1).1];exact aT _ (am ..)
 rw[hw];refine⟨ps,F,fs,.at_ r x d,t,c,rfl,?_,?_,rfl⟩
 ·rw[ez,ZC hn]
  exact jab h1 h2 h3
 ·rw[ez,ZC hn]
  exact Kq h4 h5
theorem Yk(A B:List Str):cd (j8 A B)=ye 32 ((A++aa ";" :: B).map cd):=YO rfl _
theorem ZI(x:Str)(A B:List Str):cd (j8 (x :: A) B)=cd x++32 :: cd (j8 A B):=by
 rw[Yk,Yk,cO,aX]
 cases e:(A++aa ";" :: B).map cd with
 | nil=>simp at e
 | cons y r=>rfl
theorem jaA{A:List Str}(h:Nms (A++B)):EndL (cd (j8 A B)):=by
 have key:∀{R:List Str},R≠[]->(∀r∈R,EndL (cd r))->EndL (ye 32 (R.map cd)):=by
  intro R;induction R with
  | nil=>intro h;exact absurd rfl h
  | cons r R ih=>
   intro _ hR
   cases R with
   | nil=>exact hR r (aJ.mpr rfl)
   | cons s R=>exact (ih (by simp) fun x hx=>hR x (ao _ hx)).cons.app _
 rw[Yk];refine key (by simp) fun r hr=>?_
 rcases aB.mp hr with hr | hr
 ·exact jam (h r (bB _ hr))
 ·rcases ak.mp hr with rfl | hr
  ·exact⟨59,[],rfl,by decide⟩
  ·exact jam (h r (aT _ hr))
theorem plain_row{S:Sm}{ps:List D}{fs:List Fr}(h:SmF S):KH (ps,F :: fs) (qD S) (ps,yf F S.toD :: fs)/\jer (cd (qD S)):=by
 cases S with
 | set x t c=>exact jjs h
 | put r x d t c=>exact jjB h
 | any x=>
  have h:j7 (cd x)=true:=h;have ez:cd (qD (.any x))=cd (aa "any")++32 :: cd x:=by
   show cd (aa "any "++x)=_;rw[jY];rfl
  refine⟨Ki (R:=jkA) rfl (by decide +kernel) ez ⟨ps,F,fs,rfl,by rw[kX];exact h,by rw[qP];rfl⟩,by rw[ez];exact⟨⟨97,_,rfl,by decide⟩,((jam h).cons.app _)⟩⟩
 | claim C=>
  have h:ClF C:=h;have ez:cd (qD (.claim C))=cd (aa "claim")++32 :: zC C:=by
   show cd (aa "claim "++jB C)=_;rw[jY,yH];rfl
  refine⟨Ki (R:=jca) rfl (by decide +kernel) ez ⟨ps,F,fs,C,rfl,by rw[kX];exact Jv h,rfl⟩,by rw[ez];exact⟨⟨99,_,rfl,by decide⟩,((EndL.cons (show EndL _ from (jas h).2)).app _)⟩⟩
 | call x f as rs=>
  obtain⟨h1,h2⟩:=h;have ez:cd (qD (.call x f as rs))=cd (aa "call")++32 :: cd (j8 (x :: f :: as) rs):=ZI _ _ _;refine⟨Ki (R:=jfB) rfl (by decide +kernel) ez ⟨ps,F,fs,x,f,as,rs,rfl,by rw[qP],h1,ad h2 (by decide),rfl⟩,by rw[ez];exact⟨⟨99,_,rfl,by decide⟩,((jaA h1).cons.app _)⟩⟩
theorem Yz{k:Nat}(er:cd r=aC k 32++l)(hl:jer l)(h:KH S (mS l) S'):qF [r] S S':=by
 have es:kS (cd r)=l:=by
  have:=Yo hl k 0;rw[List.replicate_zero,bF]at this;rw[er,this]
 refine⟨S',?_,rfl⟩;rw[es,if_neg ?_]
 ·exact h
 ·obtain⟨⟨c,l,e,_⟩,_⟩:=hl
  rw[e];simp
theorem jb0{k:Nat}(hd:JB wd=some R)(hb:32 ∉ cd wd)(hw:cd wd≠[])(er:cd r=aC k 32++(cd wd++32 :: zC C))(hC:ClF C)(h:R S (mS (zC C)) S'):qF [r] S S':=by
 refine Yz er ⟨?_,(EndL.cons (show EndL _ from (jas hC).2)).app _⟩ (Ki hd hb (kX _) h)
 cases e:cd wd with
 | nil=>exact absurd e hw
 | cons c m=>exact⟨c,_,rfl,fun z=>hb (by rw[e,z];exact am ..)⟩
theorem KC{k:Nat}(hd:JB wd=some R)(hb:32 ∉ cd wd)(hw:cd wd≠[])(er:cd r=aC k 32++cd wd)(h:R S (aa "") S'):qF [r] S S':=by
 refine Yz er ⟨?_,jbY hw hb⟩ (by rw[qP];exact jeg hd hb h)
 cases e:cd wd with
 | nil=>exact absurd e hw
 | cons c m=>exact⟨c,_,rfl,fun z=>hb (by rw[e,z];exact am ..)⟩
theorem jae{a b:Tm}(h:ClF (.least a b c)):yb (zC (.least a b c))=some (.least a b c):=by
 obtain⟨h1,h2,h3⟩:=h;show yb (qh a++32 :: 62 :: 61 :: 32 :: zi b c)=_;unfold yb;rw[Zv (by decide) (jcB h1).2];dsimp only;rw[Kq h2 h3,jav h1]
theorem jei{m:Str}{k:Nat}(hm:cd m=aC k 32)(C:Cl){j:Nat}(hy:cd y=aC j 32++(cd wd++[32])):cd (m++y++jB C)=aC (k+j) 32++(cd wd++32 :: zC C):=by
 rw[jY,jY,yH,hm,hy,← i5];simp only[aG];rfl
theorem Ky{R:Rel}{wd:Str}{f:Cl->Str}{U:List D->RdS}{k:Nat}(hd:JB wd=some R)(hb:32 ∉ cd wd)(hw:cd wd≠[])(hf:∀C,cd (f C)=aC k 32++(cd wd++32 :: zC C))(hR:∀C,ClF C->∀ds,R (U ds) (mS (zC C)) (U (ds++[C.toD]))):∀(ks:List Cl) (ds:List D),(∀C∈ks,ClF C)->qF (ks.map f) (U ds) (U (ds++ks.map Cl.toD))
 | [],ds,_=>by rw[cM,cM,bF];exact rfl
 | C :: ks,ds,h=>by
  have h1:qF [f C] (U ds) (U (ds++[C.toD])):=jb0 hd hb hw (hf C) (h C (am ..)) (hR C (h C (am ..)) ds);have h2:=Ky hd hb hw hf hR ks (ds++[C.toD]) fun D hD=>h D (ao _ hD)
  rw[aG]at h2;exact kP h1 h2
theorem yx:∀(n:Nat) {m:Str} {k:Nat},cd m=aC k 32->∀(l:List (StN n)),(∀s∈l,StF n s)->∀(ps:List D) (F:Fr) (fs:List Fr),qF (jP n m l) (ps,F :: fs) (ps,{ F with st:=F.st++l.map (stD n) } :: fs)
 | 0,m,k,hm,l,_,ps,F,fs=>by
  cases jg3 (l:=l)
  rw[cM,bF];exact rfl
 | n+1,m,k,hm,[],_,ps,F,fs=>by
  rw[cM,bF];exact rfl
 | n+1,m,k,hm,s :: l,h,ps,F,fs=>by
  have ih:=yx (n+1) hm l (fun t ht=>h t (ao _ ht)) ps (yf F (stD (n+1) s)) fs;have e:({ yf F (stD (n+1) s) with st:=(yf F (stD (n+1) s)).st++l.map (stD (n+1)) }:Fr)={ F with st:=F.st++(s :: l).map (stD (n+1)) }:=by
   unfold yf;rw[aX,aG];rfl
  rw[e]at ih;have hm2:cd (m++aa "  ")=aC (k+2) 32:=by rw[jY,hm,show cd (aa "  ")=aC 2 32 from rfl,i5]
  have hs:=h s (am ..);have er:∀wd:Str,cd (m++wd)=aC k 32++cd wd:=fun wd=>by rw[jY,hm]
  rcases zU s with⟨S,rfl⟩ | ⟨a,b,c,x,y,rfl⟩ | ⟨a,b,c,ks,x,rfl⟩
  ·have hs:SmF S:=hs
   obtain⟨h1,h2⟩:=plain_row (ps:=ps) (F:=F) (fs:=fs) hs;exact kP (A:=[m++qD S]) (Yz (er _) h2 (by rw[qP];exact h1)) ih
  ·obtain⟨f1,f2,f3⟩:=(show ClF (.least a b c)/\(∀t∈x,StF n t)/\∀t∈y,StF n t from hs)
   have r1:qF [m++aa "if "++jB (.least a b c)] (ps,F :: fs) (ps,⟨"if",(Cl.least a b c).toD,[],[],[],[]⟩ :: F :: fs):=jb0 (wd:=aa "if") (R:=RIf) rfl (by decide +kernel) (by decide +kernel) (jei hm _ (j:=0) rfl) f1 ⟨ps,F,fs,_,rfl,by rw[kX];exact jae f1,rfl⟩;have r2:=yx n hm2 x f2 ps ⟨"if",(Cl.least a b c).toD,[],[],[],[]⟩ (F :: fs);have r3:qF [m++aa "else"] (ps,⟨"if",(Cl.least a b c).toD,[],[],[],[]++x.map (stD n)⟩ :: F :: fs) (ps,⟨"else",(Cl.least a b c).toD,[],[],x.map (stD n),[]⟩ :: F :: fs):=KC (wd:=aa "else") (R:=jfA) rfl (by decide +kernel) (by decide +kernel) (er _) ⟨ps,_,F :: fs,rfl,rfl,rfl,rfl⟩;have r4:=yx n hm2 y f3 ps ⟨"else",(Cl.least a b c).toD,[],[],x.map (stD n),[]⟩ (F :: fs);have r5:qF [m++aa "end"] (ps,⟨"else",(Cl.least a b c).toD,[],[],x.map (stD n),[]++y.map (stD n)⟩ :: F :: fs) (ps,yf F (stD (n+1) (Fo.ite a b c x y:Fo (StN n))) :: fs):=KC (wd:=aa "end") (R:=jjd) rfl (by decide +kernel) (by decide +kernel) (er _) ⟨ps,_,F,fs,rfl,rfl,.inl rfl,rfl⟩;exact kP (A:=_ :: (_++_ :: (_++[_]))) (kP r1 (kP r2 (kP r3 (kP r4 r5)))) ih
  ·obtain⟨f1,f2,_,f3⟩:=(show ClF (.least a b c)/\(∀k∈ks,ClF k)/\ks.length≤20/\∀t∈x,StF n t from hs)
   have r1:qF [m++aa "while "++jB (.least a b c)] (ps,F :: fs) (ps,⟨"while",(Cl.least a b c).toD,[],[],[],[]⟩ :: F :: fs):=jb0 (wd:=aa "while") (R:=jb9) rfl (by decide +kernel) (by decide +kernel) (jei hm _ (j:=0) rfl) f1 ⟨ps,F,fs,_,rfl,by rw[kX];exact jae f1,rfl⟩;have r2:=Ky (R:=jfy) (wd:=aa "keep") (f:=fun k=>m++aa "  keep "++jB k) (U:=fun ds=>(ps,⟨"while",(Cl.least a b c).toD,ds,[],[],[]⟩ :: F :: fs)) rfl (by decide +kernel) (by decide +kernel) (fun C=>jei hm C (j:=2) rfl) (fun C hC ds=>⟨ps,_,F :: fs,C,rfl,by rw[kX];exact Jv hC,rfl,rfl,rfl⟩) ks [] f2;have r3:=yx n hm2 x f3 ps ⟨"while",(Cl.least a b c).toD,[]++ks.map Cl.toD,[],[],[]⟩ (F :: fs);have r4:qF [m++aa "end"] (ps,⟨"while",(Cl.least a b c).toD,[]++ks.map Cl.toD,[],[],[]++x.map (stD n)⟩ :: F :: fs) (ps,yf F (stD (n+1) (Fo.whl a b c ks x:Fo (StN n))) :: fs):=KC (wd:=aa "end") (R:=jjd) rfl (by decide +kernel) (by decide +kernel) (er _) ⟨ps,_,F,fs,rfl,rfl,.inr rfl,rfl⟩;exact kP (A:=_ :: (_++(_++[_]))) (kP r1 (kP r2 (kP r3 r4))) ih
theorem jdE{p:Pc}(h:PcF p)(ps:List D):qF (qm p) (ps,[]) (ps++[p.toD],[]):=by
 have e0:cd (j8 (aa "proc" :: p.f :: p.ps) p.rs)=cd (aa "proc")++32 :: cd (j8 (p.f :: p.ps) p.rs):=ZI _ _ _;have hd:=h.hd;have r1:qF [j8 (aa "proc" :: p.f :: p.ps) p.rs] (ps,[]) (ps,[⟨"proc",.tup [.str p.f,.tup (p.ps.map D.str),.tup (p.rs.map D.str)],[],[],[],[]⟩]):=by
  refine Yz (k:=0) (l:=cd (j8 (aa "proc" :: p.f :: p.ps) p.rs)) rfl ?_ ?_
  ·rw[e0]
   exact⟨⟨112,_,rfl,by decide⟩,((jaA hd).cons.app _)⟩
  ·rw[qP]
   exact Ki (R:=jfw) rfl (by decide +kernel) e0 ⟨ps,p.f,p.ps,p.rs,rfl,by rw[qP],hd,ad h.hl (by decide),rfl⟩
 have hm:cd (aa "")=aC 0 32:=rfl;have r2:=Ky (R:=jfx) (wd:=aa "need") (f:=fun k=>aa "  need "++jB k) (U:=fun ds=>(ps,[⟨"proc",.tup [.str p.f,.tup (p.ps.map D.str),.tup (p.rs.map D.str)],ds,[],[],[]⟩])) (k:=2) rfl (by decide +kernel) (by decide +kernel) (fun C=>by rw[jY,yH];rfl) (fun C hC ds=>⟨ps,_,[],C,rfl,by rw[kX];exact Jv hC,rfl,rfl,rfl,rfl⟩) p.nd [] h.nd;have r3:=Ky (R:=jfz) (wd:=aa "give") (f:=fun k=>aa "  give "++jB k) (U:=fun ds=>(ps,[⟨"proc",.tup [.str p.f,.tup (p.ps.map D.str),.tup (p.rs.map D.str)],[]++p.nd.map Cl.toD,ds,[],[]⟩])) (k:=2) rfl (by decide +kernel) (by decide +kernel) (fun C=>by rw[jY,yH];rfl) (fun C hC ds=>⟨ps,_,[],C,rfl,by rw[kX];exact Jv hC,rfl,rfl,rfl⟩) p.gv [] h.gv;have r4:=yx p.lv (m:=aa "  ") (k:=2) rfl p.bd h.bd ps ⟨"proc",.tup [.str p.f,.tup (p.ps.map D.str),.tup (p.rs.map D.str)],[]++p.nd.map Cl.toD,[]++p.gv.map Cl.toD,[],[]⟩ [];have r5:qF [aa "back"] (ps,[⟨"proc",.tup [.str p.f,.tup (p.ps.map D.str),.tup (p.rs.map D.str)],[]++p.nd.map Cl.toD,[]++p.gv.map Cl.toD,[],[]++p.bd.map (stD p.lv)⟩]) (ps++[p.toD],[]):=KC (wd:=aa "back") (R:=jfC) (k:=0) rfl (by decide +kernel) (by decide +kernel) rfl ⟨ps,_,[],_,_,_,rfl,rfl,rfl,rfl,rfl⟩;exact kP r1 (kP r2 (kP r3 (kP r4 r5)))
theorem Z2:∀{ps:List Pc},(∀p∈ps,PcF p)->∀qs:List D,qF (jX ps) (qs,[]) (qs++ps.map Pc.toD,[])
 | [],_,qs=>by rw[cM,bF];exact rfl
 | p :: ps,h,qs=>by
  have h2:=Z2 (ps:=ps) (fun q hq=>h q (ao _ hq)) (qs++[p.toD]);rw[aG]at h2;exact kP (A:=qm p) (jdE (h p (am ..)) qs) h2
theorem kz{a:List Nat}(h:10 ∉ a)(k:10 ∉ b):10 ∉ a++b:=fun z=>(aB.mp z).elim h k
theorem qK{x:Nat}(h:x≠10)(k:10 ∉ b):10 ∉ x :: b:=fun z=>(ak.mp z).elim (fun e=>h e.symm) k
theorem jih:10 ∉ ([]:List Nat):=fun z=>nomatch z
theorem jj9(n:Nat):10 ∉ dg n:=zL rfl
theorem yg(h:j7 l=true):10 ∉ l:=qL h rfl
theorem Yc(h:NmE x):10 ∉ cd x:=by
 rcases h with rfl | h
 ·exact jih
 ·exact yg h
theorem zk{x:List Nat}(h:10 ∉ x)(c:Int):10 ∉ ku x c:=by
 have k:∀n,10 ∉ dg n:=jj9;unfold ku;split
 ·exact Kz rfl (by decide)
 split
 ·exact kz h (qK (by decide) (qK (by decide) (qK (by decide) (k _))))
 split
 ·exact kz h (qK (by decide) (qK (by decide) (qK (by decide) (k _))))
 ·exact h
theorem je3(hr:j7 (cd r)=true)(hx:NmE x)(d:Int):10 ∉ cd r++91 :: (ku (cd x) d++[93]):=kz (yg hr) (qK (by decide) (kz (zk (Yc hx) d) (by decide)))
theorem jdQ{t:Tm}(h:TmF t):10 ∉ qh t:=by
 cases t with
 | is x=>
  show 10 ∉ if cd x=[] then [48] else cd x
  split
  ·decide
  ·exact Yc h
 | at_ r x d=>exact je3 h.1 h.2.1 d
theorem Y5{t:Tm}(h:TmF t)(c:Int):10 ∉ zi t c:=by
 cases t with
 | is x=>exact zk (Yc h) c
 | at_ r x d=>exact zk (je3 h.1 h.2.1 d) c
theorem jdP{b:Bd}(h:BdF b)(c:Int):10 ∉ yI b c:=by
 cases b with
 | is x=>exact zk (Yc h) c
 | row r=>exact zk (kz (yg h) (by decide)) c
theorem Z6{e:Int}(h1:NmE x)(h2:NmE y)(h3:j7 (cd r)=true):10 ∉ qJ x d y e r:=kz (zk (Yc h1) d) (qK (by decide) (qK (by decide) (qK (by decide) (qK (by decide) (kz (zk (Yc h2) e) (qK (by decide) (yg h3)))))))
theorem Yd(h:ClF C):10 ∉ zC C:=by
 cases C with
 | least a b c=>exact kz (jdQ h.1) (qK (by decide) (qK (by decide) (qK (by decide) (qK (by decide) (Y5 h.2.1 c)))))
 | rise x d y e r=>
  obtain⟨h1,h2,h3,h4,h5⟩:=h;exact kz (a:=[114,105,115,101,32]) (by decide) (Z6 h1 h3 h5)
 | each x d y e r way b c=>
  obtain⟨⟨h1,h2,h3,h4,h5⟩,h6,h7,h8⟩:=h;refine kz (a:=[101,97,99,104,32]) (by decide) (kz (Z6 h1 h3 h5) (qK (by decide) (kz ?_ (qK (by decide) (jdP h7 c)))));rcases h6 with rfl | rfl <;> decide +kernel
def jdh(r:Str):Prop:=10 ∉ cd r/\r.length≤900
theorem jdA{a b:Str}{m:Nat}(ha:10 ∉ cd a)(hb:10 ∉ cd b)(la:a.length≤n)(lb:b.length≤m)(h:n+m≤900):jdh (a++b):=⟨by rw[jY];exact kz ha hb,by rw[aU];omega⟩
theorem je2{m:Str}{k:Nat}(h:cd m=aC k 32):10 ∉ cd m:=by
 rw[h];intro z;exact absurd (mX z) (by decide)
theorem jgk{R:List Str}(h:∀r∈R,10 ∉ cd r):10 ∉ ye 32 (R.map cd):=by
 induction R with
 | nil=>exact jih
 | cons r R ih=>
  have h1:=h r (am ..);have h2:=ih fun x hx=>h x (ao _ hx)
  cases R with
  | nil=>exact h1
  | cons s R=>exact kz h1 (qK (by decide) h2)
theorem jce{A:List Str}(hw:10 ∉ cd wd)(hl:wd.length≤8)(h:Nms (A++B))(hk:(A++B).length≤20):10 ∉ cd (j8 (wd :: A) B)/\(j8 (wd :: A) B).length≤198:=by
 have key:∀r∈(wd :: A)++aa ";" :: B,10 ∉ cd r/\r.length≤8:=by
  intro r hr;rcases aB.mp hr with hr | hr
  ·rcases ak.mp hr with rfl | hr
   ·exact⟨hw,hl⟩
   ·have:=h r (bB _ hr)
    exact⟨yg this,ko this⟩
  ·rcases ak.mp hr with rfl | hr
   ·exact⟨by decide +kernel,by decide +kernel⟩
   ·have:=h r (aT _ hr)
    exact⟨yg this,ko this⟩
 refine⟨by rw[Yk];exact jgk fun r hr=>(key r hr).1,?_⟩;have:=Kg (y:=aa " ") rfl (k:=8) fun r hr=>(key r hr).2
 refine ad this ?_;simp only[af,aw]at hk ⊢;omega
theorem jcA{S:Sm}(h:SmF S):10 ∉ cd (qD S)/\(qD S).length≤500:=by
 cases S with
 | set x t c=>
  obtain⟨h1,h2,h3⟩:=h;refine⟨?_,?_⟩
  ·show 10 ∉ cd (x++aa " := "++zb t c)
   rw[jY,jY,Ym];exact kz (kz (yg h1) (by decide +kernel)) (Y5 h2 c)
  ·show (x++aa " := "++zb t c).length≤500
   have:=ko h1;have:=qC (yd h2) (qV h3);have:(aa " := ").length=4:=rfl;rw[aU,aU];omega
 | put r x d t c=>
  obtain⟨h1,h2,h3,h4,h5⟩:=h;refine⟨?_,?_⟩
  ·show 10 ∉ cd (r++aa "["++kK x d++aa "] := "++zb t c)
   rw[jY,jY,jY,jY,Ym,yh];exact kz (kz (kz (kz (yg h1) (by decide +kernel)) (zk (Yc h2) d)) (by decide +kernel)) (Y5 h4 c)
  ·show (r++aa "["++kK x d++aa "] := "++zb t c).length≤500
   have:=ko h1;have:=kI (yF h2) (qV h3);have:=qC (yd h4) (qV h5);have:(aa "[").length=1:=rfl;have:(aa "] := ").length=5:=rfl;rw[aU,aU,aU,aU];omega
 | any x=>
  have h:j7 (cd x)=true:=h;refine⟨?_,?_⟩
  ·show 10 ∉ cd (aa "any "++x)
   rw[jY];exact kz (by decide +kernel) (yg h)
  ·show (aa "any "++x).length≤500
   have:=ko h;have:(aa "any ").length=4:=rfl;rw[aU];omega
 | claim C=>
  have h:ClF C:=h;refine⟨?_,?_⟩
  ·show 10 ∉ cd (aa "claim "++jB C)
   rw[jY,yH];exact kz (by decide +kernel) (Yd h)
  ·show (aa "claim "++jB C).length≤500
   have:=qd (yR h);have:(aa "claim ").length=6:=rfl;rw[aU];omega
 | call x f as rs=>
  obtain⟨h1,h2⟩:=h;have:=jce (wd:=aa "call") (by decide +kernel) (by decide +kernel) h1 h2;exact⟨this.1,ad this.2 (by decide)⟩
theorem ji1{m:Str}{k:Nat}(hm:cd m=aC k 32)(hk:k≤100)(hy:10 ∉ cd y)(ly:y.length≤20)(h:ClF C):jdh (m++y++jB C):=by
 have lm:m.length=k:=by rw[← j3,hm,dM]
 exact jdA (n:=120) (m:=400) (by rw[jY];exact kz (je2 hm) hy) (by rw[yH];exact Yd h) (by rw[aU];omega) (qd (yR h)) (by decide)
theorem Zu:∀(n:Nat) {m:Str} {k:Nat},cd m=aC k 32->k+2 * n≤100->∀(l:List (StN n)),(∀s∈l,StF n s)->∀r∈jP n m l,jdh r
 | 0,m,k,hm,hk,l,_,r,hr=>nomatch (show r∈([]:List Str) from hr)
 | n+1,m,k,hm,hk,l,h,r,hr=>by
  obtain⟨s,hs,hr⟩:=rE.mp hr;have h:=h s hs;have hm2:cd (m++aa "  ")=aC (k+2) 32:=by rw[jY,hm,show cd (aa "  ")=aC 2 32 from rfl,i5]
  have lm:m.length=k:=by rw[← j3,hm,dM]
  have lone:∀wd:Str,10 ∉ cd wd->wd.length≤500->jdh (m++wd):=fun wd h1 h2=>jdA (je2 hm) h1 (n:=100) (by omega) h2 (by decide)
  rcases zU s with⟨S,rfl⟩ | ⟨a,b,c,x,y,rfl⟩ | ⟨a,b,c,ks,x,rfl⟩
  ·have h:SmF S:=h
   rw[aJ.mp (show r∈[m++qD S] from hr)];exact lone _ (jcA h).1 (jcA h).2
  ·obtain⟨f1,f2,f3⟩:=(show ClF (.least a b c)/\(∀t∈x,StF n t)/\∀t∈y,StF n t from h)
   have hr:r∈(m++aa "if "++jB (.least a b c)) :: (jP n (m++aa "  ") x++(m++aa "else") :: (jP n (m++aa "  ") y++[m++aa "end"])):=hr;rcases ak.mp hr with rfl | hr
   ·exact ji1 hm (by omega) (by decide +kernel) (by decide +kernel) f1
   rcases aB.mp hr with hr | hr
   ·exact Zu n hm2 (by omega) x f2 r hr
   rcases ak.mp hr with rfl | hr
   ·exact lone _ (by decide +kernel) (by decide +kernel)
   rcases aB.mp hr with hr | hr
   ·exact Zu n hm2 (by omega) y f3 r hr
   ·rw[aJ.mp hr]
    exact lone _ (by decide +kernel) (by decide +kernel)
  ·obtain⟨f1,f2,_,f3⟩:=(show ClF (.least a b c)/\(∀k∈ks,ClF k)/\ks.length≤20/\∀t∈x,StF n t from h)
   have hr:r∈(m++aa "while "++jB (.least a b c)) :: (ks.map (fun k=>m++aa "  keep "++jB k)++(jP n (m++aa "  ") x++[m++aa "end"])):=hr;rcases ak.mp hr with rfl | hr
   ·exact ji1 hm (by omega) (by decide +kernel) (by decide +kernel) f1
   rcases aB.mp hr with hr | hr
   ·obtain⟨C,hC,rfl⟩:=b_.mp hr
    exact ji1 hm (by omega) (by decide +kernel) (by decide +kernel) (f2 C hC)
   rcases aB.mp hr with hr | hr
   ·exact Zu n hm2 (by omega) x f3 r hr
   ·rw[aJ.mp hr]
    exact lone _ (by decide +kernel) (by decide +kernel)
theorem jjH{p:Pc}(h:PcF p)(hl:p.lv≤4):∀r∈qm p,jdh r:=by
 intro r hr;have e0:∀(y:Str) (C:Cl),10 ∉ cd y->y.length≤20->ClF C->jdh (y++jB C):=fun y C h1 h2 h3=>jdA h1 (by rw[yH];exact Yd h3) h2 (qd (yR h3)) (by decide)
 unfold qm at hr;rcases ak.mp hr with rfl | hr
 ·have:=jce (wd:=aa "proc") (by decide +kernel) (by decide +kernel) h.hd h.hl
  exact⟨this.1,ad this.2 (by decide)⟩
 rcases aB.mp hr with hr | hr
 ·obtain⟨C,hC,rfl⟩:=b_.mp hr
  exact e0 _ _ (by decide +kernel) (by decide +kernel) (h.nd C hC)
 rcases aB.mp hr with hr | hr
 ·obtain⟨C,hC,rfl⟩:=b_.mp hr
  exact e0 _ _ (by decide +kernel) (by decide +kernel) (h.gv C hC)
 rcases aB.mp hr with hr | hr
 ·exact Zu p.lv (k:=2) rfl (by omega) p.bd h.bd r hr
 ·rw[aJ.mp hr]
  exact⟨by decide +kernel,by decide +kernel⟩
theorem jjG{ps:List Pc}(h:∀p∈ps,PcF p/\p.lv≤4):∀r∈jX ps,jdh r:=by
 intro r hr;obtain⟨p,hp,hr⟩:=rE.mp hr;exact jjH (h p hp).1 (h p hp).2 r hr
theorem jcm(l:List Nat):kS l=[]∨jer (kS l):=by
 have hd:∀x:List Nat,x.dropWhile (· == 32)=[]∨∃c m,x.dropWhile (· == 32)=c :: m/\c≠32:=by
  intro x;induction x with
  | nil=>exact .inl rfl
  | cons c x ih=>
   rw[fM];split
   ·exact ih
   ·rename_i hc
    exact .inr ⟨c,x,rfl,by simpa using hc⟩
 unfold kS;rcases hd l with e | ⟨c,m,e,hc⟩
 ·rw[e]
  exact .inl rfl
 ·rw[e]
  rcases hd (c :: m).reverse with e2 | ⟨c2,m2,e2,hc2⟩
  ·rw[e2]
   exact .inl rfl
  ·right
   refine⟨?_,⟨c2,m2.reverse,by rw[e2];simp,hc2⟩⟩;have hk:∀{x:List Nat} {c:Nat},c≠32->∃y,(x++[c]).dropWhile (· == 32)=y++[c]:=by
    intro x c hc;induction x with
    | nil=>exact⟨[],by rw[df,fM,if_neg (by simpa using hc)]⟩
    | cons a x ih=>
     rw[cO,fM];split
     ·exact ih
     ·exact⟨a :: x,rfl⟩
   obtain⟨y,ey⟩:=hk (x:=m.reverse) hc;rw[gb,ey];exact⟨c,y.reverse,by simp,hc⟩
theorem jcn(k:Nat):kS (aC k 32)=[]:=by
 unfold kS;have:∀k:Nat,(aC k 32).dropWhile (· == 32)=[]:=by
  intro k;induction k with
  | zero=>rfl
  | succ k ih=>rw[fI,fM,if_pos (show ((32:Nat) == 32)=true from rfl),ih]
 rw[this];rfl
theorem jck(l:List Nat)(a b:Nat):kS (aC a 32++(kS l++aC b 32))=kS l:=by
 rcases jcm l with e | h
 ·rw[e,df,i5,jcn]
 ·exact Yo h a b
inductive Loose:List Str->List Str->Prop
 | nil:Loose [] []
 | row {r s:Str} {R T:List Str} (a b:Nat) (e:cd s=aC a 32++(kS (cd r)++aC b 32)) (h:Loose R T):Loose (r :: R) (s :: T)
 | bl {s:Str} {R T:List Str} (a:Nat) (e:cd s=aC a 32) (h:Loose R T):Loose R (s :: T)
theorem jcy{R T:List Str}(h:Loose R T):∀{S S':RdS},qF R S S'->qF T S S':=by
 induction h with
 | nil=>intro S S' h;exact h
 | row a b e h ih=>
  rintro S S' ⟨S1,h1,h2⟩;refine⟨S1,?_,ih h2⟩;rw[e,jck];exact h1
 | bl a e h ih=>
  intro S S' h;refine⟨S,?_,ih h⟩;rw[e,jcn,if_pos rfl]
theorem jbD(w n:Int){xs:List Str}(h:0 < xs.length):zp xs (jj w n (xs.length:Nat)).1∈xs:=J7 (jO w n (by omega)) (jK w n (by omega))
theorem jim(e:Int):0 < JA e/\JA e≤5:=by unfold JA;split <;> exact⟨by decide,by decide⟩
theorem jin(e:Int):0 < Ka e/\Ka e≤6:=by unfold Ka;split <;> exact⟨by decide,by decide⟩
theorem YN{xs rs:List Str}(h:Nms xs)(hr:Nms rs)(L:List (Int×Int)):∀m,(kY xs rs L m).1.length=m/\∀C∈(kY xs rs L m).1,ClF C
 | 0=>⟨rfl,fun _ h=>(nomatch h)⟩
 | m+1=>by
  obtain⟨h1,h2⟩:=YN h hr L m;refine⟨?_,fun C hC=>?_⟩
  ·show (_++[_]).length=_
   rw[af,h1];rfl
  ·rcases aB.mp (show C∈(kY xs rs L m).1++[_] from hC) with hC | hC
   ·exact h2 C hC
   ·rw[aJ.mp hC];exact jfu h hr _ _
theorem jja(w:Int){xs:List Str}(h:0 < xs.length)(n:Int):∀i,∀x∈(zW w xs n i).1,x∈xs
 | 0,x,hx=>(nomatch hx)
 | i+1,x,hx=>by
  rcases aB.mp (show x∈(zW w xs n i).1++[_] from hx) with hx | hx
  ·exact jja w h n i x hx
  ·rw[aJ.mp hx];exact jbD _ _ h
theorem jhs(w:Int)(rs:List Str)(n:Int):∀i,i≤rs.length->(∀x∈(qz w rs n i).1,x∈rs)/\∀x∈(qz w rs n i).2.2,x∈rs
 | 0,_=>⟨fun _ h=>(nomatch h),fun _ h=>h⟩
 | i+1,h=>by
  obtain⟨-,h2⟩:=Kv w rs n i (by omega);obtain⟨i1,i2⟩:=jhs w rs n i (by omega);show (∀x∈(qz w rs n i).1++[_],x∈rs)/\∀x∈(qz w rs n i).2.2.eraseIdx _,x∈rs;refine⟨fun x hx=>?_,fun x hx=>i2 x (List.mem_of_mem_eraseIdx hx)⟩;rcases aB.mp hx with hx | hx
  ·exact i1 x hx
  ·rw[aJ.mp hx]
   exact i2 _ (jbD _ _ (by omega))
structure FitF(xs fr rs:List Str)(hds:List Hd):Prop where
 f0:0 < fr.length
 fx:∀x∈fr,x∈xs
 x0:0 < xs.length
 hd:∀h∈hds,h.2.1≤4/\h.2.2≤3
 hn:∀h∈hds,j7 (cd h.1)=true
 xn:Nms xs
 rn:Nms rs
variable {hds:List Hd}
theorem jl2{xs fr:List Str}(F:FitF xs fr rs hds)(w n:Int)(hx:x∈fr):SmF (ja8 w n x xs rs hds).1:=by
 have hxx:=F.xn x (F.fx x hx);unfold ja8;dsimp only;split
 ·exact⟨hxx,.inr hxx,by unfold Sml;decide⟩
 rename_i h0;have hj:(jj w n ((Jh rs hds).length:Nat)).1.toNat < (Jh rs hds).length:=by
  have lo:=jO w n (m:=((Jh rs hds).length:Nat)) (by omega);have hi:=jK w n (m:=((Jh rs hds).length:Nat)) (by omega);omega
 have hm:(Jh rs hds).getD (jj w n ((Jh rs hds).length:Nat)).1.toNat ("",0,0)∈Jh rs hds:=by
  rw[cg,aE hj];exact bW hj
 generalize (Jh rs hds).getD (jj w n ((Jh rs hds).length:Nat)).1.toNat ("",0,0)=h at *;generalize (jj w n ((Jh rs hds).length:Nat)).2=n2 at *;obtain⟨hm1,hm2⟩:=gP.mp hm;have hm2:h.2.2≤rs.length:=of_decide_eq_true hm2;obtain⟨b1,b2⟩:=F.hd h hm1;have al:=Zc w xs n2 h.2.1;have ai:=jja w F.x0 n2 h.2.1;generalize zW w xs n2 h.2.1=as at *;obtain⟨pl,-⟩:=Kv w rs as.2 h.2.2 hm2;have pp:=(jhs w rs as.2 h.2.2 hm2).1;generalize qz w rs as.2 h.2.2=q at *;refine⟨fun y hy=>?_,?_⟩
 ·rcases aB.mp (show y∈(x :: h.1 :: as.1)++q.1 from hy) with hy | hy
  ·rcases ak.mp hy with rfl | hy
   ·exact hxx
   rcases ak.mp hy with rfl | hy
   ·exact F.hn h hm1
   ·exact F.xn y (ai y hy)
  ·exact F.rn y (pp y hy)
 ·show ((x :: h.1 :: as.1)++q.1).length≤20
  rw[af,aw,aw];omega
def OkF(lv:Nat)(l:List (StN lv))(a b:Nat):Prop:=(∀s∈l,StF lv s)/\∀m,(jP lv m l).length+8 * a≤8 * b
variable {lv:Nat}
theorem jbI{s:StN (lv+1)}{a b:Nat}(h:StF (lv+1) s)(k:∀m,(jP (lv+1) m [s]).length+8 * a≤8 * b):OkF (lv+1) [s] a b:=⟨fun t ht=>by rw[aJ.mp ht];exact h,k⟩
theorem J9{S:Sm}{a:Nat}(h:SmF S):OkF (lv+1) [(Fo.leaf S:Fo (StN lv))] a (a+1):=jbI h fun m=>by show 1+8 * a≤8 * (a+1);omega
section
variable {xs fr:List Str}
theorem jlU(F:FitF xs fr rs hds){bf:Pr2->List (StN lv)×Pr2}(hb:∀S,OkF lv (bf S).1 (bf S).2.2 S.2)(L:List (Int×Int))(left:Nat)(w n f:Int)(hx:x∈fr):OkF (lv+1) [(jaj lv bf xs rs hds L left w n f x).1] (jaj lv bf xs rs hds L left w n f x).2.2 (left+1):=by
 have hxx:=F.xn x (F.fx x hx);have ls:ClF (.least (lsA w n xs rs) (lsB w n xs rs) (lsC w n xs rs)):=je8 F.xn F.rn w n;unfold jaj;split
 ·rename_i h
  exact J9 ⟨J3 F.rn h.2 _ _,(zx F.xn _ _).1,(zx F.xn _ _).2,ZK F.xn F.rn _ _,YC _ _⟩
 split
 ·exact J9 hxx
 split
 ·exact J9 (jfu F.xn F.rn _ _)
 split
 ·obtain⟨b1,b2⟩:=hb (L,left)
  obtain⟨c1,c2⟩:=hb (bf (L,left)).2;refine jbI ⟨ls,b1,c1⟩ fun m=>?_
  have b2:=b2 (m++aa "  ");have c2:=c2 (m++aa "  ");show ((_ :: (jP lv (m++aa "  ") (bf (L,left)).1++_ :: (jP lv (m++aa "  ") (bf (bf (L,left)).2).1++[_])))++[]).length+8 * (bf (bf (L,left)).2).2.2≤_;simp only[af,aw,a_];dsimp only at b2 c2;omega
 split
 ·have hm:(jj w (jj w (zJ w n xs rs).2 4).2 (if (jj w (zJ w n xs rs).2 4).1 / 3=0 then 3 else 7)).1.toNat≤6:=by
   have key:∀mm:Int,0 < mm->mm≤7->(jj w (jj w (zJ w n xs rs).2 4).2 mm).1.toNat≤6:=fun mm h1 h2=>by
    have:=jK w (jj w (zJ w n xs rs).2 4).2 h1;omega
   exact key _ (by split <;> decide) (by split <;> decide)
  dsimp only;generalize (jj w (jj w (zJ w n xs rs).2 4).2 (if (jj w (zJ w n xs rs).2 4).1 / 3=0 then 3 else 7)).1.toNat=k at *;obtain⟨k1,k2⟩:=YN F.xn F.rn L k;obtain⟨b1,b2⟩:=hb ((kY xs rs L k).2,left);refine jbI ⟨ls,k2,by omega,b1⟩ fun m=>?_
  have b2:=b2 (m++aa "  ");show ((_ :: ((kY xs rs L k).1.map _++(jP lv (m++aa "  ") (bf ((kY xs rs L k).2,left)).1++[_])))++[]).length+8 * (bf ((kY xs rs L k).2,left)).2.2≤_;simp only[af,aw,a_,ae];dsimp only at b2;omega
 split
 ·exact J9 (jl2 F _ _ hx)
 ·exact J9 ⟨hxx,ZK F.xn F.rn _ _,YC _ _⟩
theorem jk9(F:FitF xs fr rs hds){bf:Pr2->List (StN lv)×Pr2}(hb:∀S,OkF lv (bf S).1 (bf S).2.2 S.2)(L:List (Int×Int)){left:Nat}(h:0 < left):OkF (lv+1) [(qH lv bf xs fr rs hds L left).1] (qH lv bf xs fr rs hds L left).2.2 left:=by
 have:=jlU F hb (qI L).2 (left - 1) (qI L).1.1 (jj (qI L).1.1 (jj (qI L).1.1 (qI L).1.2 8).2 (fr.length:Nat)).2 (jj (qI L).1.1 (qI L).1.2 8).1 (jbD (qI L).1.1 (jj (qI L).1.1 (qI L).1.2 8).2 F.f0);rw[p_ h]at this;exact this
theorem jiu{lv:Nat}{f:List (Int×Int)->Nat->StN (lv+1)×Pr2}(hf:∀L left,0 < left->OkF (lv+1) [(f L left).1] (f L left).2.2 left)(L:List (Int×Int))(left:Nat):∀k,OkF (lv+1) (kR f L left k).1 (kR f L left k).2.2 left
 | 0=>⟨fun _ h=>(nomatch h),fun m=>by show 0+8 * left≤8 * left;omega⟩
 | k+1=>by
  obtain⟨h1,h2⟩:=jiu hf L left k;have es:kR f L left (k+1)=if 0 < (kR f L left k).2.1.length/\0 < (kR f L left k).2.2 then ((kR f L left k).1++[(f (kR f L left k).2.1 (kR f L left k).2.2).1],(f (kR f L left k).2.1 (kR f L left k).2.2).2) else kR f L left k:=rfl
  rw[es];split
  ·rename_i c
   obtain⟨g1,g2⟩:=hf (kR f L left k).2.1 (kR f L left k).2.2 c.2;refine⟨fun s hs=>(aB.mp hs).elim (h1 s) (g1 s),fun m=>?_⟩;have h2:=h2 m;have g2:=g2 m;have e:jP (lv+1) m ((kR f L left k).1++[(f (kR f L left k).2.1 (kR f L left k).2.2).1])=jP (lv+1) m (kR f L left k).1++jP (lv+1) m [(f (kR f L left k).2.1 (kR f L left k).2.2).1]:=dN;dsimp only;rw[e,af];omega
  ·exact⟨h1,h2⟩
theorem ji7(F:FitF xs fr rs hds):∀(lv:Nat) (S:Pr2),OkF lv (qj xs fr rs hds lv S).1 (qj xs fr rs hds lv S).2.2 S.2
 | 0,S=>⟨fun _ h=>(nomatch h),fun m=>by show 0+8 * S.2≤8 * S.2;omega⟩
 | lv+1,S=>jiu (fun L left h=>jk9 F (ji7 F lv) L h) _ _ _
end
theorem ZA(w n:Int){tk:List Str}(h:TkOk tk):∀i,tk.length+i≤26->(kc w n tk i).1.length=i/\Nms (kc w n tk i).1/\TkOk (tk++(kc w n tk i).1)
 | 0,_=>⟨rfl,fun _ z=>(nomatch z),by show TkOk (tk++[]);rw[bF];exact h⟩
 | i+1,hi=>by
  obtain⟨h1,h2,h3⟩:=ZA w n h i (by omega);obtain⟨k1,k2⟩:=h3.name (by rw[af];omega) w (kc w n tk i).2;show ((kc w n tk i).1++[_]).length=_/\Nms ((kc w n tk i).1++[_])/\TkOk (tk++((kc w n tk i).1++[_]));refine⟨by rw[af,h1];rfl,fun z hz=>?_,by rw[← aG];exact k2⟩;rcases aB.mp hz with hz | hz
  ·exact h2 z hz
  ·rw[aJ.mp hz];exact k1
theorem jfg(w n:Int){tk:List Str}(h:TkOk tk):∀i,tk.length+i≤26->(j6 w n tk i).1.length=i/\Nms ((j6 w n tk i).1.map (·.1))/\TkOk (tk++(j6 w n tk i).1.map (·.1))
 | 0,_=>⟨rfl,fun _ z=>(nomatch z),by show TkOk (tk++[]);rw[bF];exact h⟩
 | i+1,hi=>by
  obtain⟨h1,h2,h3⟩:=jfg w n h i (by omega);obtain⟨k1,k2⟩:=h3.name (by rw[af,ae];omega) w (j6 w n tk i).2;show ((j6 w n tk i).1++[_]).length=_/\Nms (((j6 w n tk i).1++[_]).map fun x:Hd=>x.1)/\TkOk (tk++((j6 w n tk i).1++[_]).map fun x:Hd=>x.1);rw[aH];refine⟨by rw[af,h1];rfl,fun z hz=>?_,by rw[← aG];exact k2⟩;rcases aB.mp hz with hz | hz
  ·exact h2 z hz
  ·rw[aJ.mp hz];exact k1
theorem jhJ:j7 (cd (aa "out"))=true:=by decide +kernel
theorem jbJ{xs:List Str}(h:Nms xs)(k:Nms ys):Nms (xs++ys):=fun x hx=>(aB.mp hx).elim (h x) (k x)
theorem Z7(h:j7 (cd x)=true)(k:Nms ys):Nms (x :: ys):=fun y hy=>(ak.mp hy).elim (fun e=>by rw[e];exact h) (k y)
structure PcG(p:Pc):Prop where
 f:PcF p
 l:p.lv=4
 n:(qm p).length≤260
theorem jln(hh:∀h∈hds,h.2.1≤4/\h.2.2≤3)(hn:∀h∈hds,j7 (cd h.1)=true){h:Hd}(hm:h∈hds)(L:List (Int×Int)):PcG (jaP hds h L).1:=by
 unfold jaP;dsimp only;generalize qI L=y;obtain⟨⟨w,n⟩,L2⟩:=y;dsimp only;obtain⟨m1,m2⟩:=hh h hm;have t16:jS.length=16:=rfl;obtain⟨p1,p2,p3⟩:=ZA w n tk0 h.2.1 (by omega);generalize kc w n jS h.2.1=ps at *;have tl1:(jS++ps.1).length=16+h.2.1:=by rw[af,p1];rfl
 obtain⟨r1,r2,r3⟩:=ZA w ps.2 p3 h.2.2 (by omega);generalize kc w ps.2 (jS++ps.1) h.2.2=rs at *;have tl2:(jS++ps.1++rs.1).length=16+h.2.1+h.2.2:=by rw[af,tl1,r1]
 have lo:=jO w rs.2 (m:=4) (by decide);have hi:=jK w rs.2 (m:=4) (by decide);generalize jj w rs.2 4=e at *;obtain⟨f1,f2,f3⟩:=ZA w e.2 r3 e.1.toNat (by omega);generalize kc w e.2 (jS++ps.1++rs.1) e.1.toNat=fs at *;generalize jj w fs.2 4=mo at *;obtain⟨mp1,mp2⟩:=jim mo.1;generalize JA mo.1=most at *;have hi1:=jK w mo.2 mp1;have hi2:=jK w (jj w mo.2 most).2 mp1;generalize jj w (jj w mo.2 most).2 most=b at *;generalize jj w mo.2 most=a at *;obtain⟨n1,n2⟩:=YN p2 r2 L2 a.1.toNat;generalize kY ps.1 rs.1 L2 a.1.toNat=nd at *;obtain⟨g1,g2⟩:=YN (jbJ p2 (Z7 jhJ fun x (z:x∈([]:List Str))=>nomatch z)) r2 nd.2 b.1.toNat;generalize kY (ps.1++[aa "out"]) rs.1 nd.2 b.1.toNat=gv at *;have F:FitF (ps.1++aa "out" :: fs.1) (aa "out" :: fs.1) rs.1 hds:=⟨by rw[aw];omega,fun x hx=>aB.mpr (.inr hx),by rw[af,aw];omega,hh,hn,jbJ p2 (Z7 jhJ f2),r2⟩
 obtain⟨b1,b2⟩:=ji7 F 4 (gv.2,30);refine⟨⟨jbJ (Z7 (hn h hm) p2) r2,?_,n2,g2,?_,?_,b1⟩,rfl,?_⟩
 ·show (h.1 :: ps.1++rs.1).length≤20
  rw[af,aw];omega
 ·show nd.1.length≤20
  omega
 ·show gv.1.length≤20
  omega
 ·have b2:=b2 (aa "  ")
  unfold qm;simp only[af,aw,a_,ae];dsimp only at b2 ⊢;omega
theorem jeU{hds:List Hd}(hh:∀h∈hds,h.2.1≤4/\h.2.2≤3)(hn:∀h∈hds,j7 (cd h.1)=true)(L:List (Int×Int)):∀i,i≤hds.length->(yT hds L i).1.length=i/\∀p∈(yT hds L i).1,PcG p
 | 0,_=>⟨rfl,fun _ h=>(nomatch h)⟩
 | i+1,hi=>by
  obtain⟨h1,h2⟩:=jeU hh hn L i (by omega);have hi':i < hds.length:=hi;have e:hds.getD i ("",0,0)=hds[i]:=by rw[cg,aE hi'];rfl
  have k1:=jln hh hn (h:=hds.getD i ("",0,0)) (by rw[e];exact bW hi') (yT hds L i).2;show ((yT hds L i).1++[_]).length=_/\∀p∈(yT hds L i).1++[_],PcG p;refine⟨by rw[af,h1];rfl,fun p hp=>?_⟩;rcases aB.mp hp with hp | hp
  ·exact h2 p hp
  ·rw[aJ.mp hp];exact k1
theorem jgu(ns:List Int)(m:Nat):(yi ns m).length≤6/\(∀h∈yi ns m,j7 (cd h.1)=true)/\∀h∈yi ns m,h.2.1≤4/\h.2.2≤3:=by
 unfold yi;dsimp only;generalize qI (yY ns m)=y;obtain⟨mp1,mp2⟩:=jin (jj y.1.1 y.1.2 4).1;generalize Ka (jj y.1.1 y.1.2 4).1=most at *;have lo:=jO y.1.1 (jj y.1.1 y.1.2 4).2 mp1;have hi:=jK y.1.1 (jj y.1.1 y.1.2 4).2 mp1;generalize jj y.1.1 (jj y.1.1 y.1.2 4).2 most=c at *;have t16:jS.length=16:=rfl;obtain⟨h1,-,-,-,h5⟩:=KA y.1.1 c.2 ZM zz (1+c.1).toNat (by omega);obtain⟨-,h2,-⟩:=jfg y.1.1 c.2 tk0 (1+c.1).toNat (by omega);exact⟨by omega,fun h hh=>h2 h.1 (b_.mpr ⟨h,hh,rfl⟩),h5⟩
theorem jlm(ns:List Int)(m:Nat):(jaO ns m).length≤6/\∀p∈jaO ns m,PcG p:=by
 obtain⟨h1,h2,h3⟩:=jgu ns m;obtain⟨k1,k2⟩:=jeU h3 h2 (qI (yY ns m)).2 (yi ns m).length (av _);exact⟨by rw[show (jaO ns m).length=(yi ns m).length from k1];exact h1,k2⟩
theorem jhh{ps:List Pc}(h:∀p∈ps,PcG p):(jX ps).length≤ps.length * 260:=by
 induction ps with
 | nil=>exact av _
 | cons p ps ih=>
  have h1:=(h p (am ..)).n;have h2:=ih fun q hq=>h q (ao _ hq)
  show (qm p++jX ps).length≤_;rw[af,aw,iX];omega
end LW
namespace Tim
open PySem PyProof.Rows
variable {prog:Program}{w:World}{A:Around}{E:Value->Shared->Prop}{s:Shared}{κ:KeyKind}
section
def kq(κ:KeyKind)(p:Keyed):κ.α:=(κ.keyOf p.1).getD κ.dflt
def jaw(κ:KeyKind)(p:Keyed):Prop:=∃a,κ.keyOf p.1=some a
end
abbrev SL(κ:KeyKind)(l:List Keyed):Prop:=l.Pairwise fun p q=>κ.kle (kq κ p) (kq κ q)
abbrev Le(κ:KeyKind)(p q:Keyed):Prop:=κ.kle (kq κ p) (kq κ q)
variable {ia ib:Nat}
section
variable {A B L:List Keyed}
structure LoI(κ:KeyKind)(A B L:List Keyed)(ia ib:Nat):Prop where
 perm:L.Perm (A.take ia++B.take ib)
 srt:SL κ L
 ba:∀x∈L,∀y∈A.drop ia,Le κ x y
 bb:∀x∈L,∀y∈B.drop ib,Le κ x y
theorem LoI.swap(I:LoI κ A B L ia ib):LoI κ B A L ib ia:=⟨I.perm.trans gN,I.srt,I.bb,I.ba⟩
def jdi(κ:KeyKind)(A B M:List Keyed):Prop:=M.Perm (A++B)/\SL κ M
theorem LoI.done(I:LoI κ A B L ia ib)(sa:SL κ A)(sb:SL κ B)(h:∀x∈A.drop ia,∀y∈B.drop ib,Le κ x y):jdi κ A B (L++A.drop ia++B.drop ib):=by
 refine⟨?_,?_⟩
 ·have e1:=eO ia A
  have e2:=eO ib B;have h1:(L++A.drop ia++B.drop ib).Perm ((A.take ia++B.take ib)++(A.drop ia++B.drop ib)):=by
   rw[aG];exact I.perm.append_right _
  refine h1.trans ?_;have h2:((A.take ia++B.take ib)++(A.drop ia++B.drop ib)).Perm ((A.take ia++A.drop ia)++(B.take ib++B.drop ib)):=by
   rw[aG,aG];refine r_ _ ?_;rw[← aG,← aG];exact gN.append_right _
  rw[e1,e2]at h2;exact h2
 ·refine i6.mpr ⟨i6.mpr ⟨I.srt,sa.drop,I.ba⟩,sb.drop,fun x hx y hy=>?_⟩
  rcases aB.mp hx with hx | hx
  ·exact I.bb x hx y hy
  ·exact h x hx y hy
end
variable {a:Array Keyed}{i:Nat}
theorem jc3{j:Nat}:(a.extract i j).toList=(a.toList.drop i).take (j - i):=by
 simp
theorem jfj:(a.extract i a.size).toList=a.toList.drop i:=by
 rw[jc3,de (by rw[cB];simp)]
abbrev jec(a b out:Array Keyed)(ia ib:Nat):Array Keyed:=out++a.extract ia a.size++b.extract ib b.size
variable {st:gD}
section
variable {b:Array Keyed}
structure MC(κ:KeyKind)(a b:Array Keyed):Prop where
 ka:∀i (h:i < a.size),jaw κ a[i]
 kb:∀i (h:i < b.size),jaw κ b[i]
 sa:SL κ a.toList
 sb:SL κ b.toList
 last:∀j (h:j < b.size) (h':a.size - 1 < a.size),Le κ b[j] a[a.size - 1]
structure Alive(κ:KeyKind)(a b:Array Keyed)(N:Nat)(out:Array Keyed)(ia ib:Nat):Prop where
 inv:LoI κ a.toList b.toList out.toList ia ib
 la:ia+1 < a.size
 lb:ib < b.size
 many:N≤ia+ib
theorem jgD{out:Array Keyed}:(jec a b out ia ib).toList=out.toList++a.toList.drop ia++b.toList.drop ib:=by
 unfold jec;rw[dR,dR,jfj,jfj]
theorem MC.fin{out:Array Keyed}(C:MC κ a b)(I:LoI κ a.toList b.toList out.toList ia ib)(h:ia=a.size∨ib=b.size):jdi κ a.toList b.toList (jec a b out ia ib).toList:=by
 rw[jgD];refine I.done C.sa C.sb fun x hx y hy=>?_
 rcases h with rfl | rfl
 ·rw[rV (by simp)]at hx;cases hx
 ·rw[rV (by simp)]at hy;cases hy
variable {N:Nat}
theorem Alive.le{M:Nat}{out:Array Keyed}(h:Alive κ a b N out ia ib)(hm:M≤N):Alive κ a b M out ia ib:=⟨h.inv,h.la,h.lb,ad hm h.many⟩
end
variable {na nb:Nat}
section
variable {A B L:List Keyed}
structure HiI(κ:KeyKind)(A B L:List Keyed)(na nb:Nat):Prop where
 perm:L.Perm (A.drop na++B.drop nb)
 srt:L.Pairwise fun p q=>Le κ q p
 ba:∀x∈L,∀y∈A.take na,Le κ y x
 bb:∀x∈L,∀y∈B.take nb,Le κ y x
theorem HiI.swap(I:HiI κ A B L na nb):HiI κ B A L nb na:=⟨I.perm.trans gN,I.srt,I.bb,I.ba⟩
theorem HiI.done(I:HiI κ A B L na nb)(sa:SL κ A)(sb:SL κ B)(h:∀x∈A.take na,∀y∈B.take nb,Le κ x y):jdi κ A B (A.take na++B.take nb++L.reverse):=by
 refine⟨?_,?_⟩
 ·have e1:=eO na A
  have e2:=eO nb B;have h1:(A.take na++B.take nb++L.reverse).Perm ((A.take na++B.take nb)++(A.drop na++B.drop nb)):=((List.reverse_perm L).trans I.perm).append_left _;refine h1.trans ?_;have h2:((A.take na++B.take nb)++(A.drop na++B.drop nb)).Perm ((A.take na++A.drop na)++(B.take nb++B.drop nb)):=by
   rw[aG,aG];refine r_ _ ?_;rw[← aG,← aG];exact gN.append_right _
  rw[e1,e2]at h2;exact h2
 ·refine i6.mpr ⟨i6.mpr ⟨sa.take,sb.take,h⟩,List.pairwise_reverse.mpr I.srt,fun x hx y hy=>?_⟩
  have hy':=mR.mp hy;rcases aB.mp hx with hx | hx
  ·exact I.ba y hy' x hx
  ·exact I.bb y hy' x hx
theorem HiI.first(I:HiI κ A B L na nb)(sa:SL κ A)(sb:SL κ B)(h:∀x∈B.take nb,∀y∈A.take na,Le κ x y):jdi κ A B (B.take nb++A.take na++L.reverse):=by
 obtain⟨h1,h2⟩:=I.swap.done sb sa h;exact⟨h1.trans gN,h2⟩
end
abbrev jed(a b out:Array Keyed)(na nb:Nat):Array Keyed:=a.extract 0 na++b.extract 0 nb++out.reverse
section
variable {b:Array Keyed}
theorem jc2{l:Array Keyed}{n:Nat}:(l.extract 0 n).toList=l.toList.take n:=by
 rw[jc3,fL,gJ]
theorem jc6{out:Array Keyed}:(jed a b out na nb).toList=a.toList.take na++b.toList.take nb++out.toList.reverse:=by
 unfold jed;rw[dR,dR,jc2,jc2,Array.toList_reverse]
structure MD(κ:KeyKind)(a b:Array Keyed):Prop where
 ka:∀i (h:i < a.size),jaw κ a[i]
 kb:∀i (h:i < b.size),jaw κ b[i]
 sa:SL κ a.toList
 sb:SL κ b.toList
 first:∀i (h:i < a.size) (h':0 < b.size),Le κ b[0] a[i]
structure AliveH(κ:KeyKind)(a b:Array Keyed)(N:Nat)(out:Array Keyed)(na nb:Nat):Prop where
 inv:HiI κ a.toList b.toList out.toList na nb
 la:0 < na
 la2:na≤a.size
 lb:1 < nb
 lb2:nb≤b.size
 many:N+na+nb≤a.size+b.size
theorem MD.fin{out:Array Keyed}(C:MD κ a b)(I:HiI κ a.toList b.toList out.toList na nb)(h:na=0∨nb=0):jdi κ a.toList b.toList (jed a b out na nb).toList:=by
 rw[jc6];refine I.done C.sa C.sb fun x hx y hy=>?_
 rcases h with rfl | rfl
 ·cases hx
 ·cases hy
variable {N:Nat}
theorem AliveH.le{M:Nat}{out:Array Keyed}(h:AliveH κ a b N out na nb)(hm:M≤N):AliveH κ a b M out na nb:=⟨h.inv,h.la,h.la2,h.lb,h.lb2,by have:=h.many;omega⟩
end
section
variable {a₀ ar0:Array Keyed}{P:Array (Nat×Nat×Nat)}{lo:Nat}
structure TB(a₀:Array Keyed)(P:Array (Nat×Nat×Nat))(lo:Nat)(ar0:Array Keyed)(st:gD):Prop where
 perm:(arrOf st).Perm a₀
 kind:kindOf st=oneType'
 failed:failedOf st=none
 pend:pendingOf st=P
 low:∀k,k < lo->(arrOf st)[k]?=ar0[k]?
theorem TB.size(h:TB a₀ P lo ar0 st):(arrOf st).size=a₀.size:=h.perm.size_eq
theorem TB.key(T:TB a₀ P lo ar0 st)(keys:KeysOf κ a₀)(below:i < a₀.size):∃li:i < (arrOf st).size,jaw κ ((arrOf st)[i]):=
 ⟨by rw[T.size];exact below,keys _ ((Array.perm_iff_toList_perm.mp T.perm).mem_iff.mp (Array.getElem_mem_toList _))⟩
end
end Tim
namespace LW
open PySem L2
abbrev Z0:Stmt:=top 75
def YS:Nat->D->Prop
 | 0,_=>False
 | n+1,.tup ds=>ds.length≤1000/\∀d∈ds,YS n d
 | _+1,_=>True
def Yw(n:Nat):Sp:=fun vs H Q _=>∃(x y:V) (d:D),vs=[x,y]/\Held H d x/\Held H d y/\YS n d/\∀H',Same H H'->Q (.bl true) H'
variable {w:World}{K:ah}{mg:Str->Option Value}{base:Heap}{f:Addr}{fd:aq}{n:Nat}
section
variable {P:Program}
theorem jjw:FnScope ["_law_found","_law_due"] ["_law_found","_law_due"] (jn Z0):=fQ
theorem jie(F:Fun K "_law_alike" "_law_alike" Z0 f fd)(B:Free0 mg)(du:Fn P w K mg base n "_law_alike" ["_law_found","_law_due"] (Yw n)):FnOk P w K mg base CX0 (n+1) f fd ["_law_found","_law_due"] (Yw (n+1)):=by
 have sc:=jjw;refine F.ok sc (fun vs H Q E h=>?_) (fun aj A outer s H vs Q E hr h=>?_)
 ·obtain⟨x,y,d,rfl,_⟩:=h
  rfl
 obtain⟨x,y,d,rfl,hx,hy,hd,q⟩:=h;refine⟨_,(qa (Ze (jby (zF zn (by rfl) B.isinstance_ qQ (qR (pv 1) (qR (Kw (v:=.ty "tuple") (by rfl) B.tuple_ kL (by rfl)) qg)))) (qa (Ze (jkR (jho (jby (zF zn (by rfl) B.isinstance_ qQ (qR (pv 0) (qR (Kw (v:=.ty "tuple") (by rfl) B.tuple_ kL (by rfl)) qg))))) (jhj (Jr jcF (zF jV (by rfl) B.len_ kJ (qR (pv 0) qg)) (zF jV (by rfl) B.len_ kJ (qR (pv 1) qg)) (jD _)))).pt (q8 (yy jkU)) yL)
   (q8 (yy (zF (ji3 rfl) (by rfl) B.all_ jl5 (qR (jeZ ["_law_k"] [0,1] rfl (qc (sc:=jn Z0) (N:=["_law_found","_law_due"]) rfl rfl (by decide +kernel)) (jaR (by rfl) B.range_ (qR (zF jV (by rfl) B.len_ kJ (qR (pv 1) qg)) qg)) (fun s H ex=>⟨(jeY (i:=0) (show br (["_law_k","_law_found","_law_due"]:List Str) by decide +kernel) rfl oQ),jeT,(jhE du hr (qR (Jz (jbL (K:=K)) (pv 1) (pv 0) (fun _ _=>rfl)) (qR (Jz (jbL (K:=K)) (pv 2) (pv 0) (fun _ _=>rfl)) qg)) (av _))⟩)) qg))))) yL)
   (qa (Ze (jby (zF zn (by rfl) B.isinstance_ qQ (qR (pv 1) (qR (Kw (v:=.ty "int") (by rfl) B.int_ Km (by rfl)) qg)))) (q8 (yy (jbF (zF zn (by rfl) B.isinstance_ qQ (qR (pv 0) (qR (Kw (v:=.ty "int") (by rfl) B.int_ Km (by rfl)) qg))) (jbF (jhC (zF zn (by rfl) B.isinstance_ qQ (qR (pv 0) (qR (Kw (v:=.ty "bool") (by rfl) B.bool_ jkv (by rfl)) qg)))) (jdJ (Zw j5 (pv 0) (pv 1) (jD _))))))) yL)
   (q8 (yy (jbF (zF zn (by rfl) B.isinstance_ qQ (qR (pv 0) (qR (Kw (v:=.ty "str") (by rfl) B.str_ jb5 (by rfl)) qg))) (jdJ (Zw j5 (pv 0) (pv 1) (jD _)))))))),?_⟩
 try dsimp only[qo]
 refine yP ?_;intro _ _
 cases d with
 | int i=>
  unfold Held at hx hy;subst hx hy;refine⟨_,rfl,_,_,_,_,rfl,TyOf.int i,jlM K,_,rfl,kB ?_⟩;refine⟨_,rfl,_,_,_,_,rfl,TyOf.int i,jiy K,_,rfl,kQ ?_⟩;refine⟨_,rfl,_,_,_,_,rfl,TyOf.int i,jiy K,_,rfl,kQ ?_⟩;refine⟨_,rfl,_,_,_,_,rfl,TyOf.int i,jlN K,_,rfl,_,rfl,kQ ?_⟩;refine⟨_,rfl,_,rfl,rfl,?_⟩;rw[decide_eq_true rfl];exact q H (Same.refl H)
 | str z=>
  unfold Held at hx hy;subst hx hy;refine⟨_,rfl,_,_,_,_,rfl,TyOf.str z,jlJ K,_,rfl,kB ?_⟩;refine⟨_,rfl,_,_,_,_,rfl,TyOf.str z,jlL K,_,rfl,kB ?_⟩;refine⟨_,rfl,_,_,_,_,rfl,TyOf.str z,jlK K,_,rfl,kQ ?_⟩;refine⟨_,rfl,_,rfl,rfl,?_⟩;rw[decide_eq_true rfl];exact q H (Same.refl H)
 | tup ds=>
  unfold Held at hx hy;obtain⟨a,xs,rfl,ha,hxs⟩:=hx;obtain⟨b,ys,rfl,hb,hys⟩:=hy;have lx:=hxs.length;have ly:=hys.length;refine⟨_,rfl,_,_,_,_,rfl,TyOf.tup hb,jix K,_,rfl,kQ ?_⟩;refine⟨_,rfl,_,_,_,_,rfl,TyOf.tup ha,jix K,_,rfl,kB ?_⟩;refine⟨_,rfl,a,_,rfl,.inr (SqT.of ha),_,rfl,b,_,rfl,.inr (SqT.of hb),rfl,_,rfl,jmE (by rw[← lx,← ly]) ?_⟩;obtain⟨hw,hd⟩:=(show ds.length≤1000/\∀d∈ds,YS n d from hd)
  refine⟨_,rfl,b,_,rfl,.inr (SqT.of hb),_,rfl,(by omega),(by omega),fun p hp=>?_⟩;have en:((ys.length:Nat):Int).toNat=ds.length:=by omega
  rw[en];refine qy (fun i σ' H'=>∃v,σ'=[v,some (.ref a),some (.ref b)]/\Same H H'/\H' p=some (.lst (aC i (V.bl true)))) ?_ ?_ ?_
  ·exact⟨none,rfl,ji hp _,jc⟩
  ·rintro i σ' H1 hi ⟨v,rfl,sm1,hp1⟩
   have ej:ds[i]?=some ds[i]:=aE hi;obtain⟨x',hx',gx⟩:=hxs.get ej;obtain⟨y',hy',gy⟩:=hys.get ej;have ax:atI xs (0+(i:Int))=some x':=by rw[m9];exact jr hx'
   have ay:atI ys (0+(i:Int))=some y':=by rw[m9];exact jr hy'
   unfold qA y4;refine kQ ?_;refine⟨_,rfl,_,rfl,a,_,_,_,rfl,rfl,SqT.of (sm1 _ _ ha),ax,_,rfl,_,rfl,b,_,_,_,rfl,rfl,SqT.of (sm1 _ _ hb),ay,?_⟩;refine⟨x',y',ds[i],rfl,gx.mono sm1,gy.mono sm1,hd _ (bW hi),fun H2 sm2=>?_⟩;refine⟨_,sm2 _ _ hp1,(by rw[dM];exact ky (by omega)),_,rfl,?_,?_⟩
   ·intro c o e
    rw[js (jl e hp)];exact sm2 _ _ (sm1 _ _ e)
   ·rw[jc,List.replicate_succ']
  ·rintro σ' H1 ⟨v,rfl,sm1,hp1⟩
   refine⟨p,aC ds.length true,rfl,SqL.of (by rw[rG];exact hp1),?_⟩;have e:(aC ds.length true).all id=true:=by
    rw[bR];intro z hz;rw[(List.mem_replicate.mp hz).2];rfl
   rw[e];exact q H1 sm1
theorem jc1{f:Addr}{fd:aq}(F:Fun K "_law_alike" "_law_alike" Z0 f fd)(b:Binds K fd ["_law_found","_law_due"] [])(m:mg "_law_alike" = some (.ref f))(B:Free0 mg):∀n:Nat,Fn P w K mg base n "_law_alike" ["_law_found","_law_due"] (Yw n)
 | 0=>by
  have no:∀vs H Q E,¬Yw 0 vs H Q E:=fun vs H Q E h=>by
   obtain⟨x,y,d,_,_,_,z,_⟩:=h;exact z
  exact Fn.mk' F b m ⟨fun vs H Q E h=>absurd h (no vs H Q E),fun A outer s H args us vs Q E _ _ _ _ h=>absurd h (no vs H Q E)⟩
 | n+1=>Fn.mk' F b m (jie F B (jc1 F b m B n))
end
theorem Ji{j:Int}(h0:0≤j)(h1:j < 4):cd (cc (aa " ") j)=aC j.toNat 32:=by
 have:∀n < 4,cd (cc (aa " ") ((n:Nat):Int))=aC n 32:=by decide +kernel
 have:=this j.toNat (by omega);rwa [show ((j.toNat:Nat):Int)=j by omega]at this
variable {x:Str}
theorem ZE{d:Int}:YS (n+2) (plD x d):=⟨by show 2≤1000;decide,by intro e he;simp only[ak,bn,or_false]at he;rcases he with rfl | rfl <;> exact True.intro⟩
theorem jbW{y:Str}:YS (n+2) (.tup [.str x,.str y]):=⟨by show 2≤1000;decide,by intro e he;simp only[ak,bn,or_false]at he;rcases he with rfl | rfl <;> exact True.intro⟩
theorem jbV{t:Tm}:YS (n+3) t.toD:=by
 cases t with
 | is x=>exact jbW
 | at_ r x d=>exact⟨by show 3≤1000;decide,by intro e he;simp only[ak,bn,or_false]at he;rcases he with rfl | rfl | rfl <;> first | exact True.intro | exact ZE⟩
theorem ZF{C:Cl}:YS (n+4) C.toD:=by
 cases C with
 | least a b c=>exact⟨by show 4≤1000;decide,by intro e he;simp only[ak,bn,or_false]at he;rcases he with rfl | rfl | rfl | rfl <;> first | exact True.intro | exact jbV⟩
 | rise x d y e r=>exact⟨by show 4≤1000;decide,by intro e he;simp only[ak,bn,or_false]at he;rcases he with rfl | rfl | rfl | rfl <;> first | exact True.intro | exact ZE⟩
 | each x d y e r way b c=>exact⟨by show 7≤1000;decide,by intro e he;simp only[ak,bn,or_false]at he;rcases he with rfl | rfl | rfl | rfl | rfl | rfl | rfl <;> first | exact True.intro | exact ZE | (cases b <;> exact jbW)⟩
theorem Za{xs:List Str}(h:xs.length≤1000):YS (n+2) (.tup (xs.map D.str)):=⟨by rw[ae];exact h,fun d hd=>by
 obtain⟨x,_,rfl⟩:=b_.mp hd;exact True.intro⟩
theorem jak{xs:List Cl}(h:xs.length≤1000):YS (n+5) (.tup (xs.map Cl.toD)):=⟨by rw[ae];exact h,fun d hd=>by
 obtain⟨x,_,rfl⟩:=b_.mp hd;exact ZF⟩
theorem jkl{S:Sm}(h:SmF S):YS (n+5) S.toD:=by
 cases S with
 | set x t c=>exact⟨by show 4≤1000;decide,by intro e he;simp only[ak,bn,or_false]at he;rcases he with rfl | rfl | rfl | rfl <;> first | exact True.intro | exact jbV⟩
 | put r x d t c=>exact⟨by show 5≤1000;decide,by intro e he;simp only[ak,bn,or_false]at he;rcases he with rfl | rfl | rfl | rfl | rfl <;> first | exact True.intro | exact ZE | exact jbV⟩
 | any x=>exact jbW
 | claim C=>exact⟨by show 2≤1000;decide,by intro e he;simp only[ak,bn,or_false]at he;rcases he with rfl | rfl <;> first | exact True.intro | exact ZF⟩
 | call x f as rs=>
  have hl:=(show _/\(x :: f :: as++rs).length≤20 from h).2;rw[af,aw,aw]at hl;exact⟨by show 5≤1000;decide,by intro e he;simp only[ak,bn,or_false]at he;rcases he with rfl | rfl | rfl | rfl | rfl <;> first | exact True.intro | exact Za (by omega)⟩
theorem jeN{m:Str}:∀{n:Nat} (l:List (StN n)),l.length≤(jP n m l).length
 | 0,l=>by rw[jg3 (l:=l)];exact bm _
 | n+1,[]=>bm _
 | n+1,s :: l=>by
  have ih:=jeN (m:=m) (n:=n+1) l;have e:jP (n+1) m (s :: l)=jP (n+1) m [s]++jP (n+1) m l:=dN (xs:=[s]);have h1:1≤(jP (n+1) m [s]).length:=by
   rcases zU s with⟨S,rfl⟩ | ⟨a,b,c,x,y,rfl⟩ | ⟨a,b,c,ks,x,rfl⟩ <;> exact c_ (bm _)
  rw[e,af,aw];omega
theorem ZD:∀(n:Nat) {m:Str} (l:List (StN n)),(∀s∈l,StF n s)->(jP n m l).length≤1000->YS (2 * n+5) (.tup (l.map (stD n)))
 | 0,m,l,_,_=>by rw[jg3 (l:=l)];exact⟨bm _,fun _ z=>nomatch z⟩
 | n+1,m,l,h,hr=>by
  have hl:=jeN (m:=m) l;refine⟨by rw[ae];omega,fun d hd=>?_⟩;obtain⟨s,hs,rfl⟩:=b_.mp hd;have hF:=h s hs;have h1:(jP (n+1) m [s]).length≤1000:=by
   obtain⟨A,B,rfl⟩:=List.append_of_mem hs;have e:jP (n+1) m (A++s :: B)=jP (n+1) m A++(jP (n+1) m [s]++jP (n+1) m B):=by
    rw[show A++s :: B=A++([s]++B) from rfl];exact dN.trans (congrArg _ dN)
   rw[e,af,af]at hr;omega
  rcases zU s with⟨S,rfl⟩ | ⟨a,b,c,x,y,rfl⟩ | ⟨a,b,c,ks,x,rfl⟩
  ·have:=jkl (n:=2 * n+1) (show SmF S from hF)
   exact this
  ·obtain⟨f1,f2,f3⟩:=(show ClF (.least a b c)/\(∀t∈x,StF n t)/\∀t∈y,StF n t from hF)
   have h1:((_ :: (jP n (m++aa "  ") x++_ :: (jP n (m++aa "  ") y++[_])))++[]).length≤1000:=h1;simp only[af,aw,a_]at h1;have g1:=ZD n (m:=m++aa "  ") x f2 (by omega);have g2:=ZD n (m:=m++aa "  ") y f3 (by omega);exact⟨by show 4≤1000;decide,by intro e he;simp only[ak,bn,or_false]at he;rcases he with rfl | rfl | rfl | rfl;exact True.intro;exact ZF (n:=2 * n+1);exact g1;exact g2⟩
  ·obtain⟨f1,f2,f4,f3⟩:=(show ClF (.least a b c)/\(∀k∈ks,ClF k)/\ks.length≤20/\∀t∈x,StF n t from hF)
   have h1:((_ :: (ks.map (fun k=>m++aa "  keep "++jB k)++(jP n (m++aa "  ") x++[_])))++[]).length≤1000:=h1;simp only[af,aw,a_]at h1;have g1:=ZD n (m:=m++aa "  ") x f3 (by omega);exact⟨by show 4≤1000;decide,by intro e he;simp only[ak,bn,or_false]at he;rcases he with rfl | rfl | rfl | rfl;exact True.intro;exact ZF (n:=2 * n+1);exact jak (n:=2 * n) (by omega);exact g1⟩
theorem jkm{p:Pc}(h:PcG p):YS 14 p.toD:=by
 have hl:=h.f.hl;rw[af,aw]at hl;have hn:=h.f.nl;have hg:=h.f.gl;have hr:=h.n;unfold qm at hr;simp only[af,aw,a_,ae]at hr;have g:=ZD p.lv (m:=aa "  ") p.bd h.f.bd (by omega);have g:YS 13 (.tup (p.bd.map (stD p.lv))):=by
  have e:2 * p.lv+5=13:=by rw[h.l]
  rw[e]at g;exact g
 exact⟨by show 7≤1000;decide,by intro e he;simp only[ak,bn,or_false]at he;rcases he with rfl | rfl | rfl | rfl | rfl | rfl | rfl;exact True.intro;exact True.intro;exact Za (n:=11) (by omega);exact Za (n:=11) (by omega);exact jak (n:=8) (by omega);exact jak (n:=8) (by omega);exact g⟩
theorem jgy{ps:List Pc}(h:∀p∈ps,PcG p)(hl:ps.length≤6):YS 15 (.tup (ps.map Pc.toD)):=⟨by rw[ae];omega,fun d hd=>by
 obtain⟨p,hp,rfl⟩:=b_.mp hd;exact jkm (h p hp)⟩
abbrev jdy:Stmt:=top 82
theorem Loose.app{A B C D:List Str}(h:Loose A B)(k:Loose C D):Loose (A++C) (B++D):=by
 induction h with
 | nil=>exact k
 | row a b e _ ih=>exact .row a b e ih
 | bl a e _ ih=>exact .bl a e ih
theorem jfN{c:Nat}{l:List Nat}(h:c∈kS l):c∈l:=by
 unfold kS at h;exact (lg _).subset (mR.mp ((lg _).subset (mR.mp h)))
def jeE(K:ah):Sp:=fun vs H Q _=>∃(a rl:Addr) (ns:List Int) (R:List Str),vs=[.ref a,.ref rl]/\SqL K H a (ns.map V.int)/\ns.length≤63/\H rl=some (.lst (R.map V.str))/\(∀r∈R,jdh r)/\R.length≤2000/\∀T H',Same H H'->Loose R T->(∀r∈T,10 ∉ cd r/\r.length≤1000)->T.length≤4001->Q (.str (bz (aa "\n") T)) H'
section
variable {P:Program}
theorem jh8(F:Fun K "_law_loose" "_law_loose" jdy f fd)(B:Free0 mg)(cV:Fn P w K mg base 1 "_law_deal" ["_law_script","_law_k"] (jbp K))(aA:Fn P w K mg base 1 "_law_draw" ["_law_deal_here","_law_many_here"] zv):FnOk P w K mg base CX0 2 f fd ["_law_script","_law_rows"] (jeE K):=by
 have sc:FnScope ["_law_script","_law_rows","_law_found","_law_k","_law_deal_here"] ["_law_script","_law_rows"] (jn jdy):=fQ;refine F.okZ sc (fun vs H Q E h=>?_) (fun aj A outer s H vs Q E hr h=>?_)
 ·obtain⟨_,_,_,_,rfl,_⟩:=h
  rfl
 obtain⟨a,rl,ns,R,rfl,hS,hn,hrl,hR,hRl,q⟩:=h;refine⟨_,(jd (ju (i:=2) sc.nd rfl oQ (jT jb))
   (jd (zq cu rfl (qe (by rfl) B.range_ (ja (k9 jV (by rfl) B.len_ kJ (ja (zpv 1) jb)) jb)) (jm (i:=3) sc.nd rfl oQ) (jd (ju (i:=4) sc.nd rfl oQ (jp cV hr (ja (zpv 0) (ja (zpv 3) jb))))
   (jd (jC (jN aF aS aR jW (zpv 2) (ja (jt jq (jt jq (jt K9 jf (jp aA hr (ja (zpv 4) (ja jg jb)))) (jN be pi o8 jaT (jv j9 (zpv 1) (zpv 3) (fun _ _=>rfl)) (ja jf jb))) (jt K9 jf (jp aA hr (ja (zpv 4) (ja jg jb))))) jb)))
   (jh (jM (jA j5 (jp aA hr (ja (zpv 4) (ja jg jb))) jg (jD _)) (jh (jC (jN aF aS aR jW (zpv 2) (ja (jt K9 jf (jp aA hr (ja (zpv 4) (ja jg jb)))) jb)))) jH)))))
   (jh (jx (jN be eK eI yO jf (ja (jt kt (jt jly (jT (ja jf jb)) (jt yW (k9 jV (by rfl) B.len_ kJ (ja (zpv 1) jb)) jg)) (zpv 2)) jb)))))),?_⟩
 refine jG (σ':=[some (.ref a),some (.ref rl),none,none,none]) rfl ?_
 try dsimp only[qo]
 refine yP ?_;intro _ _;refine⟨sm rfl,fun fl hfl=>?_⟩;have s1:=ji hfl (.lst []);have e1:upd H fl (.lst []) fl=some (.lst []):=jc;generalize upd H fl (.lst [])=H1 at *;refine gQ ?_;refine⟨_,rfl,rl,_,rfl,.inl (SqL.of (s1 _ _ hrl)),_,rfl,by omega,by rw[ae];omega,?_⟩;rw[ae,bS];let Pv:Nat->St->Hp->Prop:=fun i σ G=>∃u3 u4 T,σ=[some (.ref a),some (.ref rl),some (.ref fl),u3,u4]/\Same H G/\G fl=some (.lst (T.map V.str))/\Loose (R.take i) T/\(∀r∈T,10 ∉ cd r/\r.length≤1000)/\T.length≤2 * i
 refine Y9 Pv ⟨none,none,[],rfl,s1,e1,.nil,(fun _ z=>nomatch z),av _⟩ ?_ ?_
 ·rintro i σ G hi ⟨u3,u4,T,rfl,sG,hG,hL,hT,hTl⟩
  rw[m9];refine gQ ?_;refine⟨_,rfl,_,rfl,a,ns,_,rfl,sG.seq hS,hn,by omega,by omega,fun d G1 hd s2 e2=>?_⟩;generalize (zB ns ((i:Nat):Int)).2=n1 at *;generalize (zB ns ((i:Nat):Int)).1=w at *;have nd:H d=none:=by
   cases e:H d with
   | none=>rfl
   | some o'=>rw[sG _ _ e]at hd;cases hd
  have nf:fl≠d:=jl hG hd;refine gQ ?_;have b1:=jO w n1 (m:=3) (by decide);have b2:=jK w n1 (m:=3) (by decide);have b3:=jO w (jj w n1 3).2 (m:=2) (by decide);have b4:=jK w (jj w n1 3).2 (m:=2) (by decide);have b5:=jO w (jj w (jj w n1 3).2 2).2 (m:=3) (by decide);have hat:atI (R.map V.str) ((i:Nat):Int)=some (.str R[i]):=jr (by rw[bq,aE hi];rfl);obtain⟨c10,cl⟩:=hR R[i] (bW hi);have hsl:=jaE (cd R[i]);rw[j3]at hsl;have nr:rl≠d:=jl hrl nd;have k3:=Keep.upd d G1 (.lst [.int w,.int (jj w n1 3).2]);have e3:upd G1 d (.lst [.int w,.int (jj w n1 3).2]) d=some (.lst [.int w,.int (jj w n1 3).2]):=jc;have k4:=k3.trans (Keep.upd d _ (.lst [.int w,.int (jj w (jj w n1 3).2 2).2]));have e4:upd (upd G1 d (.lst [.int w,.int (jj w n1 3).2])) d (.lst [.int w,.int (jj w (jj w n1 3).2 2).2]) d=some (.lst [.int w,.int (jj w (jj w n1 3).2 2).2]):=jc;have h3:=k3 _ _ nr (s2 _ _ (sG _ _ hrl));have hG4:=k4 _ _ nf (s2 _ _ hG);have m1:(cc (aa " ") (jj w n1 3).1).length≤3:=by rw[← j3,Ji b1 (by omega),dM];omega
  have m2:(cc (aa " ") (jj w (jj w n1 3).2 2).1).length≤3:=by rw[← j3,Ji b3 (by omega),dM];omega
  refine⟨_,rfl,.inl ⟨rfl,_,SqL.of (s2 _ _ hG)⟩,_,rfl,d,w,n1,3,rfl,e2,by decide,by decide,_,_,rfl,rfl,by decide,b1,by omega,_,rfl,_,rfl,rl,_,_,_,rfl,rfl,SqL.of h3,hat,rfl,R[i],_,rfl,rfl,jL (by omega),?_⟩;rw[jcl];refine⟨_,_,rfl,rfl,jL (by rw[qE];omega),_,rfl,d,w,_,2,rfl,e3,by decide,by decide,_,_,rfl,rfl,by decide,b3,by omega,_,_,rfl,rfl,jL (by rw[aU,qE];omega),fl,_,_,rfl,rfl,hG4,kA (by rw[ae];omega),?_⟩;have hz:cd (cc (aa " ") (jj w n1 3).1++mS (kS (cd R[i]))++cc (aa " ") (jj w (jj w n1 3).2 2).1)=aC (jj w n1 3).1.toNat 32++(kS (cd R[i])++aC (jj w (jj w n1 3).2 2).1.toNat 32):=by rw[jY,jY,kX,Ji b1 (by omega),Ji b3 (by omega),aG]
  have lz:(cc (aa " ") (jj w n1 3).1++mS (kS (cd R[i]))++cc (aa " ") (jj w (jj w n1 3).2 2).1).length≤1000:=by rw[aU,aU,qE];omega
  generalize cc (aa " ") (jj w n1 3).1++mS (kS (cd R[i]))++cc (aa " ") (jj w (jj w n1 3).2 2).1=z at *;have no10b:∀k:Nat,10 ∉ aC k 32:=fun k z=>absurd (mX z) (by decide)
  have z10:10 ∉ cd z:=by
   rw[hz];exact kz (no10b _) (kz (fun q=>c10 (jfN q)) (no10b _))
  have hL2:Loose (R.take (i+1)) (T++[z]):=by
   rw[cL,aE hi];exact hL.app (.row _ _ hz .nil)
  have hT2:∀r∈T++[z],10 ∉ cd r/\r.length≤1000:=fun r hr=>(aB.mp hr).elim (hT r) fun h=>by rw[aJ.mp h];exact⟨z10,lz⟩
  have hTl2:(T++[z]).length≤2 * i+1:=by rw[af];exact c_ hTl
  have sG5:Same H (upd (upd (upd G1 d (.lst [.int w,.int (jj w n1 3).2])) d (.lst [.int w,.int (jj w (jj w n1 3).2 2).2])) fl (.lst (T.map V.str++[.str z]))):=Same.touch (fun b o e=>k4 _ _ (jl e nd) (s2 _ _ (sG _ _ e))) hfl;have e5:upd (upd (upd G1 d (.lst [.int w,.int (jj w n1 3).2])) d (.lst [.int w,.int (jj w (jj w n1 3).2 2).2])) fl (.lst (T.map V.str++[.str z])) fl=some (.lst ((T++[z]).map V.str)):=by rw[jc,aH];rfl
  have d5:upd (upd (upd G1 d (.lst [.int w,.int (jj w n1 3).2])) d (.lst [.int w,.int (jj w (jj w n1 3).2 2).2])) fl (.lst (T.map V.str++[.str z])) d=some (.lst [.int w,.int (jj w (jj w n1 3).2 2).2]):=by rw[js nf.symm];exact e4
  generalize upd (upd (upd G1 d (.lst [.int w,.int (jj w n1 3).2])) d (.lst [.int w,.int (jj w (jj w n1 3).2 2).2])) fl (.lst (T.map V.str++[.str z]))=G5 at *;generalize (jj w (jj w n1 3).2 2).2=n3 at *;clear h3 hG4 k3 k4 e3 e4 e2 s2 hat hz z10 lz hL hT hTl;have k6:=Keep.upd d G5 (.lst [.int w,.int (jj w n3 3).2]);have e6:upd G5 d (.lst [.int w,.int (jj w n3 3).2]) d=some (.lst [.int w,.int (jj w n3 3).2]):=jc;have h6:=k6 _ _ nf e5;have sG6:Same H (upd G5 d (.lst [.int w,.int (jj w n3 3).2])):=fun b o e=>k6 _ _ (jl e nd) (sG5 _ _ e)
  refine⟨_,rfl,d,w,n3,3,rfl,d5,by decide,by decide,rfl,_,rfl,qi (fun _=>?_) (fun _=>?_)⟩
  ·have b7:=jO w (jj w n3 3).2 (m:=3) (by decide)
   have b8:=jK w (jj w n3 3).2 (m:=3) (by decide);refine⟨_,rfl,.inl ⟨rfl,_,SqL.of h6⟩,_,rfl,d,w,_,3,rfl,e6,by decide,by decide,_,_,rfl,rfl,by decide,b7,by omega,fl,(T++[z]).map V.str,_,rfl,rfl,(js nf).trans h6,kA (by rw[ae];omega),?_⟩;have hy:=Ji b7 (by omega);have hj:(jj w (jj w n3 3).2 3).1.toNat≤2:=by omega
   generalize (jj w (jj w n3 3).2 3).1.toNat=j at *;generalize cc (aa " ") (jj w (jj w n3 3).2 3).1=y at *;refine⟨_,_,(T++[z])++[y],rfl,Same.touch (fun b o e=>(Keep.upd d _ _) _ _ (jl e nd) (sG6 _ _ e)) hfl,by rw[jc,aH (l₂:=[y])];rfl,?_,fun r hr=>?_,by rw[af];exact c_ hTl2⟩
   ·have:=hL2.app (Loose.bl j hy Loose.nil)
    rwa [bF]at this
   ·rcases aB.mp hr with hr | hr
    ·exact hT2 r hr
    ·rw[aJ.mp hr]
     exact⟨by rw[hy];exact no10b _,by rw[← j3,hy,dM];omega⟩
  ·exact⟨_,_,T++[z],rfl,sG6,h6,hL2,hT2,by omega⟩
 rintro σ G ⟨u3,u4,T,rfl,sG,hG,hL,hT,hTl⟩;rw[cy]at hL;have hk:((R.length:Nat):Int) % 2=0∨((R.length:Nat):Int) % 2=1:=by omega
 refine⟨rfl,sm rfl,fun p1 hp1=>⟨_,rfl,rl,_,rfl,.inl (SqL.of (ji hp1 _ _ _ (sG _ _ hrl))),_,_,rfl,rfl,(show (0:Int) < 2 by decide),p1,_,_,rfl,rfl,jc,by rw[ae];omega,by rw[ae];omega,?_,fun p2 hp2=>?_⟩⟩
 ·rw[ae]
  refine ad (Nat.mul_le_mul_left _ (show (((R.length:Nat):Int) % 2).toNat≤1 by omega)) (sm rfl)
 rw[ae]at *;have hk:(((R.length:Nat):Int) % 2).toNat≤1:=by omega
 generalize (((R.length:Nat):Int) % 2).toNat=k at *;have s2:=(ji hp1 (.lst [V.str (aa "")])).trans (ji hp2 (.lst (aC k [V.str (aa "")]).flatten));have e2:upd (upd G p1 (.lst [V.str (aa "")])) p2 (.lst (aC k [V.str (aa "")]).flatten) p2=some (.lst ((aC k (aa "")).map V.str)):=by rw[jc,List.flatten_replicate_singleton,rG]
 generalize upd (upd G p1 (.lst [V.str (aa "")])) p2 (.lst (aC k [V.str (aa "")]).flatten)=G2 at *;refine⟨_,rfl,p2,fl,_,_,rfl,rfl,e2,s2 _ _ hG,bE (kA (by rw[ae,ae,dM];omega)),fun p3 hp3=>?_⟩;rw[← aH];have s3:=s2.trans (ji hp3 (.lst ((aC k (aa "")++T).map V.str)));have hE:Loose R (aC k (aa "")++T):=by
  clear s3 e2 hk hp2;induction k with
  | zero=>exact hL
  | succ k ih=>exact .bl 0 rfl (ih)
 have hA:∀r∈aC k (aa "")++T,10 ∉ cd r/\r.length≤1000:=fun r hr=>(aB.mp hr).elim (fun h=>by rw[mX h];exact⟨by decide +kernel,by decide +kernel⟩) (hT r)
 have hN:(aC k (aa "")++T).length≤4001:=by rw[af,dM];omega
 refine⟨_,p3,_,rfl,rfl,SqL.of jc,?_,?_⟩
 ·have h1:=Kr (k:=1000) fun r hr=>(hA r hr).2
  have h2:(aa "\n").length=1:=rfl;rw[h2];omega
 ·rw[show ∀ys,bZ (aa "\n") ys=(aa "\n").join ys from fun ys=>fz _ _]
  exact q _ _ (sG.trans s3) hE hA hN
end
abbrev jdz:Stmt:=top 83
def jeF(K:ah):Sp:=fun vs H Q _=>∃(a:Addr) (ns:List Int),vs=[.ref a]/\SqL K H a (ns.map V.int)/\ns.length≤63/\∀H',Q (.bl true) H'
theorem jkf(n:Nat):(if n=0 then 1 else ((n:Nat):Int))=(((if n=0 then 1 else n:Nat):Nat):Int):=by split <;> rfl
theorem jg8{ts u:TS}{D:Ends}{σ:St}{H:Hp}(C:St->Hp->Prop)(k:∀σ' G,C σ' G->u D σ' G)(h:(∀σ' G,C σ' G->u D σ' G)->ts { D with nx:=u D } σ H):jZ ts u D σ H:=h k
def neR(R:List Str):List Str:=if R=[] then [aa ""] else R
theorem jkd(R:List Str):bz (aa "\n") (neR R)=bz (aa "\n") R:=by
 unfold neR;split
 ·rename_i h;rw[h];rfl
 ·rfl
theorem jmB(R:List Str):neR R≠[]:=by
 unfold neR;split
 ·simp
 ·assumption
variable {R:List Str}
theorem jlI{p:Str->Prop}(h:∀r∈R,p r)(h0:p (aa "")):∀r∈neR R,p r:=by
 unfold neR;split
 ·intro r hr;rw[aJ.mp hr];exact h0
 ·exact h
theorem jlH(R:List Str):(neR R).length≤R.length+1:=by
 unfold neR;split
 ·exact c_ (bm _)
 ·exact eN _
theorem jii{S S':RdS}(h:qF R S S'):qF (neR R) S S':=by
 unfold neR;split
 ·rename_i e
  rw[e]at h;exact⟨S,by rw[if_pos (show kS (cd (aa ""))=[] from rfl)],h⟩
 ·exact h
theorem jeO{ps:List D}(hR:∀r∈R,10 ∉ cd r/\r.length≤1000)(hl:R.length≤4001)(h:qF R ([],[]) (ps,[])):∃N,bz (aa "\n") R=bz (aa "\n") N/\N≠[]/\(∀r∈N,10 ∉ cd r/\r.length≤1000)/\(bz (aa "\n") N).length≤10000000/\N.length≤50000/\qF N ([],[]) (ps,[]):=by
 have h1:=jlI hR ⟨by decide +kernel,by decide +kernel⟩;have h2:=jlH R;have h3:=Kg (y:=aa "\n") rfl (k:=1000) fun r hr=>(h1 r hr).2
 exact⟨neR R,(jkd R).symm,jmB R,h1,by omega,by omega,jii h⟩
section
variable {P:Program}
theorem jlD(F:Fun K "law" "law" jdz f fd)(B:Free0 mg)(io:Fn P w K mg base 1 "_law_many" ["_law_script"] (jg4 K))(eT:Fn P w K mg base 1 "_law_taken" [] jbn)(ik:Fn P w K mg base 18 "_law_program" ["_law_script","_law_many_here","_law_taken_here"] (ZP K))(cV:Fn P w K mg base 1 "_law_deal" ["_law_script","_law_k"] (jbp K))(aA:Fn P w K mg base 1 "_law_draw" ["_law_deal_here","_law_many_here"] zv)(ie:Fn P w K mg base 10 "_law_text_rows" ["_law_program_here"] jex)(du:Fn P w K mg base 15 "_law_alike" ["_law_found","_law_due"] (Yw 15))(gh:Fn P w K mg base 17 "shown" ["program"] jez)(fO:Fn P w K mg base 12 "read" ["text"] jeA)(ip:Fn P w K mg base 2 "_law_loose" ["_law_script","_law_rows"] (jeE K)):FnOk P w K mg base CX0 19 f fd ["_law_script"] (jeF K):=by
 have sc:FnScope ["_law_script","_law_many_here","_law_program_here","_law_rows","_law_text"] ["_law_script"] (jn jdz):=fQ;refine F.okZ sc (fun vs H Q E h=>?_) (fun aj A outer s H vs Q E hr h=>?_)
 ·obtain⟨a,ns,rfl,_⟩:=h
  rfl
 obtain⟨a,ns,rfl,hS,hn,q⟩:=h;refine⟨_,(jd (ju (i:=1) sc.nd rfl oQ (jp io hr (ja (zpv 0) jb)))
   (jd (ju (i:=2) sc.nd rfl oQ (jp ik hr (ja (zpv 0) (ja (zpv 1) (ja (jes eT hr) jb)))))
   (jd (jM (jA j5 (jp aA hr (ja (jp cV hr (ja (zpv 0) (ja (jt jdK (zpv 1) jg) jb))) (ja jg jb))) jg (jD _)) (jh (ju (i:=2) sc.nd rfl oQ (jQ jb))) jH)
   (jd (ju (i:=3) sc.nd rfl oQ (jp ie hr (ja (zpv 2) jb)))
   (jd (ju (i:=4) sc.nd rfl oQ (jN be eK eI yO jf (ja (zpv 3) jb)))
   (jd (jM (jA KI (k9 zD (by rfl) B.len_ kJ (ja (zpv 4) jb)) jg (jD _)) (jh (jx jbg)) jH)
   (jd (jM (Jk (ze (jp du hr (ja (jp gh hr (ja (zpv 2) jb)) (ja (zpv 4) jb))))) (jh (jx jbg)) jH)
   (jd (jM (jbf (Jk (ze (jp du hr (ja (jp fO hr (ja (zpv 4) jb)) (ja (zpv 2) jb))))) (jbe (Jk (ze (jp du hr (ja (jp fO hr (ja (jp ip hr (ja (zpv 0) (ja (zpv 3) jb))) jb)) (ja (zpv 2) jb))))))).pt (jh (jx jbg)) jH)
   (jh (jx (q0 (jp du hr (ja (jp fO hr (ja (zpv 4) jb)) (ja (zpv 2) jb))) (zt (kZ j5 (jp gh hr (ja (zpv 2) jb)) (zpv 4) (jD _)))))))))))))),?_⟩
 try dsimp only[qo]
 refine jG (σ':=[some (.ref a),none,none,none,none]) rfl ?_;refine jmH ?_;intro _ _ _ _ _ _ _ _;refine⟨_,rfl,a,ns,rfl,hS,hn,?_⟩;refine gQ ?_;refine⟨_,rfl,_,rfl,rfl,fun tl htl=>?_⟩;have s1:=ji htl (.lst (jS.map V.str));have e1:upd H tl (.lst (jS.map V.str)) tl=some (.lst (jS.map V.str)):=jc;generalize upd H tl (.lst (jS.map V.str))=H1 at *;refine⟨a,tl,ns,if ns.length=0 then 1 else ns.length,by rw[jkf];rfl,s1.seq hS,hn,by split <;> omega,e1,fun u H2 k2 h2=>?_⟩;have s2:Same H H2:=fun b o e=>k2 _ _ (jl e htl) (s1 _ _ e)
 obtain⟨pl,pf⟩:=jlm ns (if ns.length=0 then 1 else ns.length);generalize hps:jaO ns (if ns.length=0 then 1 else ns.length)=ps at *;clear k2 s1 e1 htl hps H1;have hM:0≤(if ns.length=0 then 1 else ((ns.length:Nat):Int)) - 1/\(if ns.length=0 then 1 else ((ns.length:Nat):Int)) - 1≤100000:=by split <;> omega
 generalize (if ns.length=0 then 1 else ((ns.length:Nat):Int))=M at *;refine gQ ?_;dsimp only;refine jg8 (fun σ' G=>∃(v:V) (qs:List Pc),σ'=[some (.ref a),some (.int M),some v,none,none]/\Same H G/\Held G (.tup (qs.map Pc.toD)) v/\qs.length≤6/\∀p∈qs,PcG p) (fun σ' G hC=>?_) (fun kk=>?_);rotate_left
 ·refine⟨_,rfl,_,rfl,_,_,rfl,rfl,a,ns,_,rfl,s2.seq hS,hn,hM.1,hM.2,fun d H3 hd s3 e3=>⟨d,_,_,16,rfl,e3,by decide,by decide,rfl,_,rfl,?_⟩⟩
  have k4:=Keep.upd d H3 (.lst [.int (zB ns (M - 1)).1,.int (jj (zB ns (M - 1)).1 (zB ns (M - 1)).2 16).2]);have tk4:=k4.tk e3;have nd:H d=none:=by
   cases e:H d with
   | none=>rfl
   | some o'=>rw[s2 _ _ e]at hd;cases hd
  have s4:Same H (upd H3 d (.lst [.int (zB ns (M - 1)).1,.int (jj (zB ns (M - 1)).1 (zB ns (M - 1)).2 16).2])):=fun b o e=>k4 _ _ (jl e nd) (s3 _ _ (s2 _ _ e))
  have h4:=tk4.held (h2.mono s3);generalize upd H3 d (.lst [.int (zB ns (M - 1)).1,.int (jj (zB ns (M - 1)).1 (zB ns (M - 1)).2 16).2])=H4 at *;refine qi (fun _=>?_) (fun _=>?_)
  ·refine⟨sm rfl,fun t ht=>kk _ _ ⟨.ref t,[],rfl,s4.trans (ji ht _),jy jc jz,by decide,fun _ z=>nomatch z⟩⟩
  ·exact kk _ _ ⟨u,ps,rfl,s4,h4,pl,pf⟩
 obtain⟨v,qs,rfl,sG,hv,ql,qf⟩:=hC;clear pl pf h2 s2 ps u hM;have hF:∀p∈qs,PcF p/\p.lv≤4:=fun p hp=>⟨(qf p hp).f,mM (qf p hp).l⟩
 have hc:(jX qs).length≤1560:=ad (jhh qf) (by omega);have hok:=jjG hF;have hfit:=jgy qf ql;have hrd:=Z2 (fun p hp=>(qf p hp).f) [];rw[df]at hrd;have hlr:∀r∈jX qs,10 ∉ cd r/\r.length≤1000:=fun r hr=>⟨(hok r hr).1,ad (hok r hr).2 (by decide)⟩
 refine⟨_,rfl,v,qs,rfl,hv,fun p hp=>⟨(qf p hp).f,(qf p hp).l⟩,by omega,fun rl G1 s1 e1=>?_⟩;refine gQ ?_;refine⟨rfl,_,rfl,_,rl,_,rfl,rfl,SqL.of e1,?_,?_⟩
 ·have h1:=Kr (k:=1000) fun r hr=>(hlr r hr).2
  have h2:(aa "\n").length=1:=rfl;rw[h2];omega
 rw[show ∀ys,bZ (aa "\n") ys=(aa "\n").join ys from fun ys=>fz _ _];have hjl:=Kg (y:=aa "\n") rfl (k:=1000) fun r hr=>(hlr r hr).2
 generalize hT:(aa "\n").join (jX qs)=T at *;refine gQ ?_;refine⟨_,rfl,T,rfl,?_,_,_,rfl,rfl,_,rfl,qi (fun _=>q _) (fun _=>?_)⟩
 ·refine ad hjl (ad (Nat.mul_le_mul_right _ hc) (by decide))
 have hv1:=hv.mono s1;have sG1:=sG.trans s1;have hcn:(jX qs).length≤10000:=by omega
 have hlb:∀r∈jX qs,r.length≤1000:=fun r hr=>(hlr r hr).2
 obtain⟨N,n1,n2,n3,n4,n5,n6⟩:=jeO hlr (by omega) hrd;rw[hT]at n1;refine⟨_,rfl,v,qs,rfl,hv1,hF,hcn,hlb,fun G2 s2=>?_⟩;rw[hT];refine⟨_,rfl,.str T,.str T,.str T,rfl,jw,jw,True.intro,fun G3 s3=>⟨_,rfl,kB ?_⟩⟩;have s3:=s2.trans s3;clear s2;refine⟨_,rfl,N,_,by rw[n1];rfl,n2,n3,n4,n5,n6,fun w4 G4 s4 h4=>⟨_,rfl,w4,v,_,rfl,h4,hv1.mono (s3.trans s4),hfit,fun G5 s5=>⟨_,rfl,kB ?_⟩⟩⟩;have s5:=s3.trans (s4.trans s5);clear h4;refine⟨_,rfl,_,rfl,a,rl,ns,jX qs,rfl,(sG1.trans s5).seq hS,hn,s5 _ _ e1,hok,by omega,fun R6 G6 s6 hL hR6 hl6=>?_⟩;obtain⟨M6,m1,m2,m3,m4,m5,m6⟩:=jeO hR6 hl6 (jcy hL hrd);refine⟨M6,_,by rw[m1];rfl,m2,m3,m4,m5,m6,fun w7 G7 s7 h7=>⟨_,rfl,w7,v,_,rfl,h7,hv1.mono (s5.trans (s6.trans s7)),hfit,fun G8 s8=>⟨_,rfl,kB ?_⟩⟩⟩;have s8:=s5.trans (s6.trans (s7.trans s8));clear h7 hL m1 m2 m3 m4 m5 m6;refine⟨_,rfl,N,_,by rw[n1];rfl,n2,n3,n4,n5,n6,fun w9 G9 s9 h9=>⟨_,rfl,w9,v,_,rfl,h9,hv1.mono (s8.trans s9),hfit,fun G10 s10=>⟨true,rfl,kQ ⟨_,rfl,v,qs,rfl,hv1.mono (s8.trans (s9.trans s10)),hF,hcn,hlb,fun G11 s11=>?_⟩⟩⟩⟩;rw[hT];refine⟨_,rfl,rfl,?_⟩;rw[decide_eq_true rfl];exact q _
end
open PySem L2 PyProof.Rows
abbrev DLt:Type:=Str×Tok×Addr
def jko(P:Params)(p:DLt):mr:=⟨cf P p.1,.str p.1 p.2.1,.ref p.2.2⟩
def dvL(L:List DLt)(x:Str):Option Addr:=(L.find? fun p=>p.1 == x).map (·.2.2)
theorem jcV{P:Params}:∀L:List DLt,oB P (L.map (jko P))
 | []=>True.intro
 | _ :: L=>⟨⟨_,_,rfl,rfl⟩,jcV L⟩
theorem jiK{P:Params}(x:Str):∀L:List DLt,RelO ((dvL L x).map V.ref) (findBy gr (L.map (jko P)).toArray x):=by
 intro L;unfold findBy dvL;rw[List.find?_toArray];induction L with
 | nil=>exact True.intro
 | cons p L ih=>
  rw[aX,dO,dO,show gr x (jko P p).key=(p.1 == x) from rfl]
  cases h:p.1 == x with
  | true=>exact rfl
  | false=>exact ih
section
variable {P:Program}{CR CB aD:Addr}
inductive DeedsL(P:Program)(w:World)(K:ah)(mg:Str->Option Value)(base:Heap)(CR CB:Addr):List DLt->List (Str×Rel)->Prop
 | nil:DeedsL P w K mg base CR CB [] []
 | cons {x:Str} {t:Tok} {f:Addr} {R:Rel} {L:List DLt} {D:List (Str×Rel)} (h:∃fd k,FnOk P w K mg base CX0 k f fd ["reading","rest","line"] (Jo CR CB R)/\k≤10/\Binds K fd ["reading","rest","line"] []/\bO K (.ref f)=true) (hs:DeedsL P w K mg base CR CB L D):DeedsL P w K mg base CR CB ((x,t,f) :: L) ((x,R) :: D)
theorem DeedsL.at_{L:List DLt}{D:List (Str×Rel)}(h:DeedsL P w K mg base CR CB L D)(x:Str):(∀f,dvL L x=some f->∃fd k R,FnOk P w K mg base CX0 k f fd ["reading","rest","line"] (Jo CR CB R)/\k≤10/\Binds K fd ["reading","rest","line"] []/\bO K (.ref f)=true/\D.lookup x=some R)/\(dvL L x=none->D.lookup x=none):=by
 unfold dvL;induction h with
 | nil=>exact⟨fun f h=>(nomatch h),fun _=>rfl⟩
 | @cons y t f R L D h _ ih=>
  rw[dO,cN,show (x == y)=(y == x) from BEq.comm]
  cases e:y == x with
  | true=>
   obtain⟨fd,k,h1,h2,h3,h4⟩:=h;exact⟨fun g hg=>by cases hg;exact⟨fd,k,R,h1,h2,h3,h4,rfl⟩,fun hg=>(nomatch hg)⟩
  | false=>exact ih
theorem jiU{L:List DLt}(g:mg "DEEDS" = some (.ref aD))(l:K.lookup aD=some ⟨.type "dict",none,.dict (L.map (jko w.params)).toArray n,#[]⟩)(lo:(aD == cb)=false)(h:DeedsL P w K mg base CR CB L ja3):Deeds P w K mg base CR CB aD (dvL L):=
 ⟨g,⟨_,n,l,jcV L,lo,fun x=>jiK x L⟩,fun x=>(h.at_ x).1,fun x=>(h.at_ x).2⟩
end
variable {P:List Value->Prop}
theorem el0(h:P []):∀us:List Value,us.length=0->P us
 | [],_=>h
theorem el1(h:∀a0,P [a0]):∀us:List Value,us.length=1->P us
 | a :: v,e=>el0 (P:=fun v=>P (a :: v)) (h a) v (gI e)
theorem el2(h:∀a0 a1,P [a0,a1]):∀us:List Value,us.length=2->P us
 | a :: v,e=>el1 (P:=fun v=>P (a :: v)) (h a) v (gI e)
theorem el3(h:∀a0 a1 a2,P [a0,a1,a2]):∀us:List Value,us.length=3->P us
 | a :: v,e=>el2 (P:=fun v=>P (a :: v)) (h a) v (gI e)
theorem el4(h:∀a0 a1 a2 a3,P [a0,a1,a2,a3]):∀us:List Value,us.length=4->P us
 | a :: v,e=>el3 (P:=fun v=>P (a :: v)) (h a) v (gI e)
abbrev LkF(K:ah)(f:Addr)(x n:Str)(st:Stmt)(oc:Value)(od:Option Addr)(kV dc pm:Value)(an:Option Addr)(cd ct:Value)(sl:Array (Option Value)):Prop:=K.lookup f=some ⟨oc,od,.func (cY x n (yQ st) (zO st) (jn st) .none kV dc pm an cd ct),sl⟩
structure DefK(K:ah)(f:Addr)(fd:aq)(x:Str)(st:Stmt):Prop where
 a:bo K aQ x=some (some (.ref f))
 u:Fun K x x st f fd
theorem DefK.m{st:Stmt}{oc kV dc pm cd ct:Value}{od an:Option Addr}{sl:Array (Option Value)}(a:bo K aQ x=some (some (.ref f)))(l:LkF K f x x st oc od kV dc pm an cd ct sl)(c:fk K cd x=true)(k:bO K (.ref f)=true):DefK K f (cY x x (yQ st) (zO st) (jn st) .none kV dc pm an cd ct) x st:=⟨a,jbU l c k⟩
theorem mk2{P:Program}{w:World}{K:ah}{mg:Str->Option Value}{base h:Heap}(X:K.In h)(G:h.Ns aQ mg){k:Nat}{x:Str}{st:Stmt}{f:Addr}{fd:aq}{ps:List Str}{sp:Sp}(a:DefK K f fd x st)(ok:FnOk P w K mg base CX0 k f fd ps sp)(b:∀(kV doc pm:Value) (an:Option Addr) (aj ct:Value) (us:List Value),us.length=ps.length->bindArgs (cY x x (yQ st) (zO st) (jn st) .none kV doc pm an aj ct) ⟨us,[]⟩=pure (ps.zip us):=by exact fun _ _ _ _ _ _=>by first | exact el0 rfl | exact el1 fun _=>rfl | exact el2 fun _ _=>rfl | exact el3 fun _ _ _=>rfl | exact el4 fun _ _ _ _=>rfl ):Fn P w K mg base k x ps sp:=Fn.mk' a.u (a.u.binds b) (bV X G a.a) ok
set_option autoImplicit true in
theorem all_mk{l:lU}{h:Heap}{fa:Addr}(X:K.In h)(G:h.Ns aQ mg)(hfa:mg "law" = some (.ref fa))
  (a0:DefK K f0 d0 "is_figures" JW)
  (a1:DefK K f1 d1 "is_number" K3)
  (a2:DefK K f2 d2 "is_name" ZX)
  (a3:DefK K f3 d3 "more_cut" Y0)
  (a4:DefK K f4 d4 "refuse_unless" yu)
  (a5:DefK K f5 d5 "name_read" K2)
  (a6:DefK K f6 d6 "place_read" JS)
  (a7:DefK K f7 d7 "named_term" JU)
  (a8:DefK K f8 d8 "alone_read" J1)
  (a9:DefK K f9 d9 "term_read" KP)
  (a10:DefK K f10 d10 "bound_read" J0)
  (a11:DefK K f11 d11 "reach_read" JP)
  (a12:DefK K f12 d12 "rise_read" K0)
  (a13:DefK K f13 d13 "each_read" K5)
  (a14:DefK K f14 d14 "least_read" JV)
  (a15:DefK K f15 d15 "claim_read" JY)
  (a16:DefK K f16 d16 "innermost" K4)
  (a17:DefK K f17 d17 "parted_names" zd)
  (a18:DefK K f18 d18 "take_given" JN)
  (a19:DefK K f19 d19 "take_proc" KQ)
  (a20:DefK K f20 d20 "take_need" KR)
  (a21:DefK K f21 d21 "take_give" KU)
  (a22:DefK K f22 d22 "take_keep" KS)
  (a23:DefK K f23 d23 "take_back" KZ)
  (a24:DefK K f24 d24 "take_any" YZ)
  (a25:DefK K f25 d25 "take_claim" JO)
  (a26:DefK K f26 d26 "take_call" KY)
  (a27:DefK K f27 d27 "take_if" ZW)
  (a28:DefK K f28 d28 "take_while" JM)
  (a29:DefK K f29 d29 "take_else" KW)
  (a30:DefK K f30 d30 "take_end" YY)
  (a31:DefK K f31 d31 "take_row" YX)
  (a32:DefK K f32 d32 "read" jg9)
  (a33:DefK K f33 d33 "with_more" KO)
  (a34:DefK K f34 d34 "place_text" JR)
  (a35:DefK K f35 d35 "alone_text" yK)
  (a36:DefK K f36 d36 "term_text" Jq)
  (a37:DefK K f37 d37 "bound_text" JZ)
  (a38:DefK K f38 d38 "claim_text" JX)
  (a39:DefK K f39 d39 "names_text" JT)
  (a40:DefK K f40 d40 "plain_row" K1)
  (a41:DefK K f41 d41 "if_rows" Yx)
  (a42:DefK K f42 d42 "while_rows" zS)
  (a43:DefK K f43 d43 "body_rows" zH)
  (a44:DefK K f44 d44 "proc_rows" yw)
  (a45:DefK K f45 d45 "shown" jdx)
  (a46:DefK K f46 d46 "_law_deal" jhe)
  (a47:DefK K f47 d47 "_law_draw" jhd)
  (a48:DefK K f48 d48 "_law_many" jhc)
  (a49:DefK K f49 d49 "_law_next" jha)
  (a50:DefK K f50 d50 "_law_taken" jdw)
  (a51:DefK K f51 d51 "_law_name" jeL)
  (a52:DefK K f52 d52 "_law_number" jbu)
  (a53:DefK K f53 d53 "_law_place" jbt)
  (a54:DefK K f54 d54 "_law_term" jdv)
  (a55:DefK K f55 d55 "_law_least" jbv)
  (a56:DefK K f56 d56 "_law_claim" jbx)
  (a57:DefK K f57 d57 "_law_claims" Zt)
  (a58:DefK K f58 d58 "_law_call" ZY)
  (a59:DefK K f59 d59 "_law_statement" yt)
  (a60:DefK K f60 d60 "_law_body" ZZ)
  (a61:DefK K f61 d61 "_law_proc" jaK)
  (a62:DefK K f62 d62 "_law_program" JQ)
  (a63:DefK K f63 d63 "_law_alike" Z0)
  (a64:DefK K f64 d64 "_law_more" jhb)
  (a65:DefK K f65 d65 "_law_place_text" jbs)
  (a66:DefK K f66 d66 "_law_term_text" jdu)
  (a67:DefK K f67 d67 "_law_claim_text" jbw)
  (a68:DefK K f68 d68 "_law_rows_of" zT)
  (a69:DefK K f69 d69 "_law_text_rows" yr)
  (a70:DefK K f70 d70 "_law_loose" jdy)
  (a71:bo K aQ "law" = some (some (.ref f71)))
  (l71:LkF K f71 "law" "law" jdz oc71 od71 kV71 dc71 pm71 an71 cd71 ct71 sl71) (c71:fk K cd71 "law" = true) (k71:bO K (.ref f71)=true)
  (aC0:bo K aQ "Reading" = some (some (.ref C0))) (a72:bD K (.ref C0) "__init__" = some (some (.ref f72))) (i72:W.isFn K (.ref f72)=true)
  (l72:LkF K f72 "__init__" "Reading.__init__" q5 oc72 od72 kV72 dc72 pm72 an72 cd72 ct72 sl72) (c72:fk K cd72 "Reading.__init__" = true) (k72:bO K (.ref f72)=true)
  (aC1:bo K aQ "Body" = some (some (.ref C1))) (a73:bD K (.ref C1) "__init__" = some (some (.ref f73))) (i73:W.isFn K (.ref f73)=true)
  (l73:LkF K f73 "__init__" "Body.__init__" zN oc73 od73 kV73 dc73 pm73 an73 cd73 ct73 sl73) (c73:fk K cd73 "Body.__init__" = true) (k73:bO K (.ref f73)=true)
  (pg0:gp K C0 aV=true) (hd0:gq K C0=true) (po0:iI K C0=true) (sa0:bD K (.ref C0) "__setattr__" = some (some (.builtin "object.__setattr__"))) (mk0:iJ K C0=true) (kc0:bO K (.ref C0)=true)
  (n0_0:bD K (.ref C0) "procedures" = some none)
  (n0_1:bD K (.ref C0) "bodies" = some none)
  (pg1:gp K C1 aV=true) (hd1:gq K C1=true) (po1:iI K C1=true) (sa1:bD K (.ref C1) "__setattr__" = some (some (.builtin "object.__setattr__"))) (mk1:iJ K C1=true) (kc1:bO K (.ref C1)=true)
  (n1_0:bD K (.ref C1) "kind" = some none)
  (n1_1:bD K (.ref C1) "head" = some none)
  (n1_2:bD K (.ref C1) "claims" = some none)
  (n1_3:bD K (.ref C1) "gives" = some none)
  (n1_4:bD K (.ref C1) "first" = some none)
  (n1_5:bD K (.ref C1) "statements" = some none)
  (dF:bo K aQ "MOST_FIGURES" = some (some (.int 19 tkF))) (dL:bo K aQ "MOST_LETTERS" = some (some (.int 8 tkL))) (dW:bo K aQ "WORDS" = some (some (.ref aW))) (lW:K.lookup aW=some ⟨.type "tuple",odW,.seq #[.str "each" tw0,.str "rise" tw1,.str "to" tw2,.str "proc" tw3,.str "need" tw4,.str "give" tw5,.str "back" tw6,.str "any" tw7,.str "claim" tw8,.str "if" tw9,.str "else" tw10,.str "end" tw11,.str "while" tw12,.str "keep" tw13,.str "call" tw14] nW,slW⟩) (dD:bo K aQ "DEEDS" = some (some (.ref aD))) (lD:K.lookup aD=some ⟨.type "dict",none,.dict #[⟨cf w.params "proc",.str "proc" td0,.ref f19⟩,⟨cf w.params "need",.str "need" td1,.ref f20⟩,⟨cf w.params "give",.str "give" td2,.ref f21⟩,⟨cf w.params "keep",.str "keep" td3,.ref f22⟩,⟨cf w.params "back",.str "back" td4,.ref f23⟩,⟨cf w.params "any",.str "any" td5,.ref f24⟩,⟨cf w.params "claim",.str "claim" td6,.ref f25⟩,⟨cf w.params "call",.str "call" td7,.ref f26⟩,⟨cf w.params "if",.str "if" td8,.ref f27⟩,⟨cf w.params "while",.str "while" td9,.ref f28⟩,⟨cf w.params "else",.str "else" td10,.ref f29⟩,⟨cf w.params "end",.str "end" td11,.ref f30⟩] nD,#[]⟩) (loD:(aD == cb)=false)
  (z0:bo K aQ "len" = some none) (z1:bo K aQ "max" = some none) (z2:bo K aQ "min" = some none) (z3:bo K aQ "all" = some none) (z4:bo K aQ "isinstance" = some none) (z5:bo K aQ "abs" = some none) (z6:bo K aQ "sorted" = some none) (z7:bo K aQ "int" = some none) (z8:bo K aQ "str" = some none) (z9:bo K aQ "bool" = some none) (z10:bo K aQ "tuple" = some none) (z11:bo K aQ "list" = some none) (z12:bo K aQ "dict" = some none) (z13:bo K aQ "range" = some none) (z14:bo K aQ "set" = some none) (z15:bo K aQ "enumerate" = some none) :
  ∃fd:aq,(∀(s:Shared) (v:Value),ga s fd ⟨[v],[]⟩ [("_law_script",v)])/\∀base:Heap,K.In base->base.Ns aQ mg->FnOk l.prog w K mg base CX0 19 fa fd ["_law_script"] (jeF K):=by
 have e:=hfa.symm.trans (bV X G a71)
 cases e
 have B:Free0 mg:=⟨bN X G z0,bN X G z1,bN X G z2,bN X G z3,bN X G z4,bN X G z5,bN X G z6,bN X G z7,bN X G z8,bN X G z9,bN X G z10,bN X G z11,bN X G z12,bN X G z13,bN X G z14⟩
 have g0:mg "enumerate" = none:=bN X G z15
 have h_:=bV X G dF
 have hZ:=bV X G dL
 have hV:=bV X G dW
 have g_:∀H,SqT K H aW (zK.map V.str):=fun H=>.inr ⟨_,_,_,lW,rfl,rfl,sm rfl,(.cons ⟨tw0,rfl⟩ (.cons ⟨tw1,rfl⟩ (.cons ⟨tw2,rfl⟩ (.cons ⟨tw3,rfl⟩ (.cons ⟨tw4,rfl⟩ (.cons ⟨tw5,rfl⟩ (.cons ⟨tw6,rfl⟩ (.cons ⟨tw7,rfl⟩ (.cons ⟨tw8,rfl⟩ (.cons ⟨tw9,rfl⟩ (.cons ⟨tw10,rfl⟩ (.cons ⟨tw11,rfl⟩ (.cons ⟨tw12,rfl⟩ (.cons ⟨tw13,rfl⟩ (.cons ⟨tw14,rfl⟩ .nil)))))))))))))))⟩
 have b19:=a19.u.binds (ps:=["reading","rest","line"]) fun _ _ _ _ _ _=>el3 (fun _ _ _=>rfl)
 have b20:=a20.u.binds (ps:=["reading","rest","line"]) fun _ _ _ _ _ _=>el3 (fun _ _ _=>rfl)
 have b21:=a21.u.binds (ps:=["reading","rest","line"]) fun _ _ _ _ _ _=>el3 (fun _ _ _=>rfl)
 have b22:=a22.u.binds (ps:=["reading","rest","line"]) fun _ _ _ _ _ _=>el3 (fun _ _ _=>rfl)
 have b23:=a23.u.binds (ps:=["reading","rest","line"]) fun _ _ _ _ _ _=>el3 (fun _ _ _=>rfl)
 have b24:=a24.u.binds (ps:=["reading","rest","line"]) fun _ _ _ _ _ _=>el3 (fun _ _ _=>rfl)
 have b25:=a25.u.binds (ps:=["reading","rest","line"]) fun _ _ _ _ _ _=>el3 (fun _ _ _=>rfl)
 have b26:=a26.u.binds (ps:=["reading","rest","line"]) fun _ _ _ _ _ _=>el3 (fun _ _ _=>rfl)
 have b27:=a27.u.binds (ps:=["reading","rest","line"]) fun _ _ _ _ _ _=>el3 (fun _ _ _=>rfl)
 have b28:=a28.u.binds (ps:=["reading","rest","line"]) fun _ _ _ _ _ _=>el3 (fun _ _ _=>rfl)
 have b29:=a29.u.binds (ps:=["reading","rest","line"]) fun _ _ _ _ _ _=>el3 (fun _ _ _=>rfl)
 have b30:=a30.u.binds (ps:=["reading","rest","line"]) fun _ _ _ _ _ _=>el3 (fun _ _ _=>rfl)
 have b41:=a41.u.binds (ps:=["statement","margin"]) fun _ _ _ _ _ _=>el2 (fun _ _=>rfl)
 have b42:=a42.u.binds (ps:=["statement","margin"]) fun _ _ _ _ _ _=>el2 (fun _ _=>rfl)
 have b43:=a43.u.binds (ps:=["body","margin"]) fun _ _ _ _ _ _=>el2 (fun _ _=>rfl)
 have b59:=a59.u.binds (ps:=["_law_deals","_law_world","_law_deep"]) fun _ _ _ _ _ _=>el3 (fun _ _ _=>rfl)
 have b60:=a60.u.binds (ps:=["_law_deals","_law_world","_law_deep"]) fun _ _ _ _ _ _=>el3 (fun _ _ _=>rfl)
 have b63:=a63.u.binds (ps:=["_law_found","_law_due"]) fun _ _ _ _ _ _=>el2 (fun _ _=>rfl)
 have b68:=a68.u.binds (ps:=["_law_body_here","_law_ahead"]) fun _ _ _ _ _ _=>el2 (fun _ _=>rfl)
 have U71:=jbU (st:=jdz) l71 c71 k71
 have U72:=jbU (st:=q5) l72 c72 k72
 have b72:=U72.binds (ps:=["self"]) fun _ _ _ _ _ _=>el1 (fun _=>rfl)
 have U73:=jbU (st:=zN) l73 c73 k73
 have b73:=U73.binds (ps:=["self","kind","head"]) fun _ _ _ _ _ _=>el3 (fun _ _ _=>rfl)
 have cE:ClsR K C0:=⟨⟨pg0,hd0,po0,sa0⟩,n0_0,n0_1⟩
 have bX:ClsB K C1:=⟨⟨pg1,hd1,po1,sa1⟩,n1_0,n1_1,n1_2,n1_3,n1_4,n1_5⟩
 refine⟨cY "law" "law" (yQ jdz) (zO jdz) (jn jdz) .none kV71 dc71 pm71 an71 cd71 ct71,fun s v=>.of_eq rfl,fun base _ _=>?_⟩
 have MK:=@mk2 l.prog w K mg base h X G
 have dX:=MK a0 (jlF a0.u B h_)
 have cU:=MK a1 (jlC a1.u dX)
 have iq:=MK a2 (jf7 a2.u B hZ hV g_)
 have cS:=MK a3 (jlG a3.u B dX)
 have aY:=MK a4 (jfY a4.u)
 have bt:=MK a5 (jh7 a5.u iq aY)
 have dS:=MK a6 (jf1 a6.u B cU cS bt)
 have cR:=MK a7 (jh6 a7.u aY bt dS)
 have iy:=MK a8 (jgh a8.u cR)
 have eS:=MK a9 (jhR a9.u B cU cS cR)
 have ix:=MK a10 (jgd a10.u B cU cS bt)
 have eU:=MK a11 (jh1 a11.u bt dS)
 have ij:=MK a12 (jhZ a12.u eU)
 have iu:=MK a13 (jia a13.u eU ix)
 have cT:=MK a14 (jf5 a14.u eS iy)
 have ca:=MK a15 (jga a15.u iu ij cT)
 have aN:=MK a16 (jh9 (CB:=C1) cE a16.u)
 have eV:=MK a17 (jf3 a17.u B aY bt)
 have ii:=MK a18 (jfV cE bX a18.u aN cR eS)
 have cP:MkFn l.prog w K mg base _ "Body" C1 _ _:=⟨f73,_,⟨mk1,a73,i73,kc1⟩,jj5 (P:=l.prog) (w:=w) (base:=base) bX U73,b73,bV X G aC1⟩
 have ig:=MK a31 (jjW a31.u (jiU (CR:=C0) (CB:=C1) (L:=[("proc",td0,f19),("need",td1,f20),("give",td2,f21),("keep",td3,f22),("back",td4,f23),("any",td5,f24),("claim",td6,f25),("call",td7,f26),("if",td8,f27),("while",td9,f28),("else",td10,f29),("end",td11,f30)]) (bV X G dD) lD loD (.cons ⟨_,_,jhK cE a19.u B cP aY eV,by decide,b19,a19.u.kp⟩ (.cons ⟨_,_,jhL bX a20.u aN aY ca,by decide,b20,a20.u.kp⟩ (.cons ⟨_,_,jhN bX a21.u aN aY ca,by decide,b21,a21.u.kp⟩ (.cons ⟨_,_,jhM bX a22.u aN aY ca,by decide,b22,a22.u.kp⟩ (.cons ⟨_,_,jhV cE bX a23.u aN B aY,by decide,b23,a23.u.kp⟩ (.cons ⟨_,_,jjY bX a24.u aN bt,by decide,b24,a24.u.kp⟩ (.cons ⟨_,_,jfW bX a25.u aN ca,by decide,b25,a25.u.kp⟩ (.cons ⟨_,_,jhU bX a26.u B aN eV,by decide,b26,a26.u.kp⟩ (.cons ⟨_,_,jlB cE bX a27.u aN cP cT,by decide,b27,a27.u.kp⟩ (.cons ⟨_,_,jfU cE bX a28.u aN cP cT,by decide,b28,a28.u.kp⟩ (.cons ⟨_,_,jhT cE bX a29.u aN B aY,by decide,b29,a29.u.kp⟩ (.cons ⟨_,_,jjX cE bX a30.u aN B aY,by decide,b30,a30.u.kp⟩ .nil))))))))))))) ii)
 have hJ:MkFn l.prog w K mg base _ "Reading" C0 _ _:=⟨f72,_,⟨mk0,a72,i72,kc0⟩,jdN (P:=l.prog) (w:=w) (base:=base) cE U72,b72,bV X G aC0⟩
 have fO:=MK a32 (jh0 cE a32.u B g0 hJ ig)
 have ck:=MK a33 (jj1 a33.u B)
 have bC:=MK a34 (jf0 a34.u ck)
 have eY:=MK a35 (jgg a35.u bC)
 have bj:=MK a36 (jhQ a36.u ck eY)
 have iw:=MK a37 (jgc a37.u ck)
 have aO:=MK a38 (jf9 a38.u bC eY bj iw)
 have eW:=MK a39 (jh5 a39.u B)
 have cQ:=MK a40 (jh4 a40.u bj bC aO eW)
 have dr:=Z1 (P:=l.prog) (w:=w) (base:=base) a43.u b43 (bV X G a43.a) a41.u b41 (bV X G a41.a) a42.u b42 (bV X G a42.a) aO cQ
 have il:=MK a44 (jh2 a44.u eW aO dr)
 have gh:=MK a45 (jhY a45.u il)
 have cV:=MK a46 (jj4 a46.u B)
 have aA:=MK a47 (jj3 a47.u)
 have io:=MK a48 (jj2 a48.u B)
 have bG:=MK a49 (jjZ a49.u B)
 have eT:=MK a50 (jhW a50.u)
 have dq:=MK a51 (jj0 a51.u B aA)
 have bJ:=MK a52 (jf4 a52.u aA)
 have bY:=MK a53 (jf2 a53.u B aA bJ)
 have bT:=MK a54 (jhS a54.u B aA bY)
 have cF:=MK a55 (jf6 a55.u bT bJ)
 have cW:=MK a56 (jgb a56.u B aA bJ bY bT cF)
 have cG:=MK a57 (jdO a57.u B bG cW)
 have eX:=MK a58 (jib a58.u B aA)
 have dY:=jc0 (P:=l.prog) (w:=w) (base:=base) a60.u b60 (bV X G a60.a) a59.u b59 (bV X G a59.a) B bG aA bJ bY bT cF cW cG eX 4
 have im:=MK a61 (jh3 a61.u B bG aA eT dq cG dY)
 have ik:=MK a62 (jcG a62.u B cV bG aA dq im)
 have du:=jc1 (P:=l.prog) (w:=w) (base:=base) a63.u b63 (bV X G a63.a) B 15
 have dU:=MK a64 (jmz a64.u B)
 have bC:=MK a65 (jfZ a65.u B dU)
 have bj:=MK a66 (jhP a66.u dU bC)
 have aO:=MK a67 (jf8 a67.u bC bj)
 have cm:=jcH (P:=l.prog) (w:=w) (base:=base) a68.u b68 (bV X G a68.a) B aO bj 4
 have ie:=MK a69 (jhO a69.u B cm aO)
 have ip:=MK a70 (jh8 a70.u B cV aA)
 exact jlD U71 B io eT ik cV aA ie du gh fO ip
theorem walk{l:lU}{q:Program}{loose:List Str}{XP:(Str->Option Value)->Heap->Prop}{YP:World->Heap->Prop}{d:DefRec}{K:Params->ah}(hn:l.most=some 63)(hdf:d.params.defaults=[])
  (hY:∀(w:World) (h:Heap),YP w h->(K w.params).In h)
  (F:∀(w:World) (mg:Str->Option Value) (fa:Addr) (h:Heap),(K w.params).In h->h.Ns aQ mg->mg d.name=some (.ref fa)->
   ∃fd:aq,(∀(s:Shared) (u:Value),ga s fd ⟨[u],[]⟩ [("_law_script",u)])/\∀base:Heap,(K w.params).In base->base.Ns aQ mg->FnOk l.prog w (K w.params) mg base CX0 19 fa fd ["_law_script"] (jeF (K w.params))) :
  oz q loose XP YP l.row.toRowW d [] (fun f vs=>lO f vs):=
 L2.walk_of (n:=63) (k:=19) (x:="_law_script") (CX:=fun _=>CX0) (sp:=fun w=>jeF (K w.params)) hn (by decide) hdf ⟨rfl,by decide,by decide,rfl⟩ hY F (fun _ _ a ns hl _ hS=>⟨a,ns,rfl,hS,hl,fun _=>rfl⟩) fun _ _ _ _ _ z=>z
end LW
namespace PySem.W.Fast
def tw10048469896931593908:=()
def tw10053926054170811447:=()
def tw10302560634042561520:=()
def tw10316951631683465252:=()
def tw10447543030645970340:=()
def tw10586640373331233282:=()
def tw10688242393499278847:=()
def tw1078897689484383819:=()
def tw10792982311997884680:=()
def tw10924785545847978348:=()
def tw11057377852648017182:=()
def tw11057581434097340744:=()
def tw11179954711555793946:=()
def tw11347216796822007278:=()
def tw11426958635281293948:=()
def tw11433678030013646511:=()
def tw11456382936325703949:=()
def tw11574474009994461455:=()
def tw1171393181025542158:=()
def tw1176294836160453476:=()
def tw11807889539962143406:=()
def tw11833090970160216413:=()
def tw11856892355189195010:=()
def tw11882201138708085961:=()
def tw11899378427280189555:=()
def tw12254565127815613595:=()
def tw1230803812152500244:=()
def tw12310563150232554417:=()
def tw12360000199831200716:=()
def tw12421985315824046886:=()
def tw12441695003316774292:=()
def tw1245838189248158469:=()
def tw1289378982826091270:=()
def tw13097943132194468749:=()
def tw13263746356314754424:=()
def tw1327445986468945198:=()
def tw13282418805111008074:=()
def tw13339312065116923501:=()
def tw13512617660930529520:=()
def tw13556412297562667810:=()
def tw13585710625964854252:=()
def tw13650041692868989972:=()
def tw13707978654923528114:=()
def tw14175133782194089777:=()
def tw14258000801095240114:=()
def tw14312454426491115878:=()
def tw14358615252951667634:=()
def tw14431030770985547850:=()
def tw14540326230453082447:=()
def tw14555696900279446061:=()
def tw14769682763054931557:=()
def tw14774843633379922228:=()
def tw14815467496422046226:=()
def tw14889432351203799571:=()
def tw14936570579940315237:=()
def tw14991708207342626434:=()
def tw14996674645880360981:=()
def tw15157913725205033646:=()
def tw15266851914608025987:=()
def tw15339916696394839439:=()
def tw15496941482842311986:=()
def tw15536867657979281103:=()
def tw15607083130874957034:=()
def tw15613492339837314476:=()
def tw15657490304149873803:=()
def tw15669373488234239263:=()
def tw15690346038020235950:=()
def tw15692997026433793862:=()
def tw15796015169971914159:=()
def tw15940101210602143286:=()
def tw16240588505215623120:=()
def tw16429284877286966461:=()
def tw16614876834511093862:=()
def tw16620849793199721096:=()
def tw16892988867706961471:=()
def tw16894026310308759404:=()
def tw16895215523489546874:=()
def tw16918878867403530778:=()
def tw16942209664985208150:=()
def tw17081204327199958158:=()
def tw17095307500519957292:=()
def tw17113561012247605098:=()
def tw17140616770254190153:=()
def tw17223157745139588244:=()
def tw17287424347230661590:=()
def tw17384254591033082296:=()
def tw17447014840651726888:=()
def tw1748364393324831074:=()
def tw17562562367420359944:=()
def tw17564076196408421948:=()
def tw17649964428399422214:=()
def tw1771214462242535774:=()
def tw17810471304704189932:=()
def tw18048840640199471131:=()
def tw18120387467433222510:=()
def tw18156883331330939543:=()
def tw18307425742879571034:=()
def tw18361983935501406594:=()
def tw18428583875736962615:=()
def tw1870486775016752801:=()
def tw2005959726361581977:=()
def tw2257342092674433128:=()
def tw2577386061848630342:=()
def tw2633893916191267363:=()
def tw2644763992025525824:=()
def tw2775106051659985550:=()
def tw2825273593265827935:=()
def tw2911162645051312124:=()
def tw3012980872275593766:=()
def tw3191043508444011896:=()
def tw3231483356009552765:=()
def tw3234243211822363012:=()
def tw3297492521885093334:=()
def tw3301284945593726166:=()
def tw3308078101933388341:=()
def tw3322151222490694158:=()
def tw3349798889112303379:=()
def tw3358768930958033045:=()
def tw3490821898697752938:=()
def tw3518644656034189728:=()
def tw3588354327648470401:=()
def tw377122175828373726:=()
def tw3890910100322875767:=()
def tw4064055250050105593:=()
def tw4371185671413550497:=()
def tw4466597650659963761:=()
def tw4501551008201936058:=()
def tw4521411389717425201:=()
def tw4624402379240866718:=()
def tw468342035500337086:=()
def tw4689332819134429098:=()
def tw4714514838975081145:=()
def tw4724568930104043569:=()
def tw4731150471547670656:=()
def tw4813300482305187728:=()
def tw4821170637906212072:=()
def tw4890914936461169935:=()
def tw4891092728742608137:=()
def tw4897774017322307817:=()
def tw4976610014114086555:=()
def tw4977631383266407719:=()
def tw5027519544265906489:=()
def tw511874297037528480:=()
def tw5145082708031629614:=()
def tw5254969834055844458:=()
def tw5281892186018151225:=()
def tw5286005794655588229:=()
def tw5439042426410988317:=()
def tw5453377088615418557:=()
def tw5500447744758360077:=()
def tw5752918851719506559:=()
def tw5810329436664365364:=()
def tw5847834710099490428:=()
def tw5986039809262488411:=()
def tw6089520085639376128:=()
def tw6124984510071424115:=()
def tw619772982844778163:=()
def tw6282715345291725883:=()
def tw6288147353941275347:=()
def tw6399994362579648891:=()
def tw6699419309091005451:=()
def tw6733874272182178880:=()
def tw6880650382800356228:=()
def tw6883138689924023763:=()
def tw6921008336703772668:=()
def tw6924987083024587970:=()
def tw7043546947823761011:=()
def tw7183807726562027143:=()
def tw719600458309608033:=()
def tw7208379738159421567:=()
def tw7232900067090361431:=()
def tw7285439288826297226:=()
def tw729518135523014903:=()
def tw7535646883915070802:=()
def tw7545268402015482388:=()
def tw7614150446702345002:=()
def tw7673726624488166413:=()
def tw7720524688081079129:=()
def tw7770286882916393823:=()
def tw7783219022475939017:=()
def tw7828490140749101809:=()
def tw7955909571238802942:=()
def tw797641002621388441:=()
def tw7987827209698124632:=()
def tw804165117434902918:=()
def tw8091363919561182277:=()
def tw8103002361422297951:=()
def tw8129929871011879354:=()
def tw8278408408839526923:=()
def tw8385615736119080331:=()
def tw8430730097453486120:=()
def tw844362292518585948:=()
def tw8460063119428989746:=()
def tw8499135675600724380:=()
def tw8564860546978760341:=()
def tw8617589381284959243:=()
def tw8701046088897620002:=()
def tw8708192926133938156:=()
def tw8754198575586465884:=()
def tw8759155223938456571:=()
def tw8763384605321956419:=()
def tw8770501564834738676:=()
def tw8777989470389124015:=()
def tw8799967599877538208:=()
def tw8892857076540758331:=()
def tw9271343508644345397:=()
def tw9282462625857622557:=()
def tw9559948081209523138:=()
def tw9744027789441040398:=()
def tw9780535140096572291:=()
def tw9927008509976745808:=()
def tw993995993420387365:=()
end PySem.W.Fast
open PySem PySem.W PyProof.Rows
set_option maxRecDepth 100000 in
set_option maxHeartbeats 0 in
theorem PySem.Challenge.cw_outlineward_k24_whole_programs_written_a_holds : PySem.Challenge.rw_outlineward_k24_whole_programs_written_a.Holds := by
 w_on;o_law;k_head;(case hw=>w_witness2);k_fill;refine LW.walk (l:=pD) rfl rfl (fun w h Y=>W.kIn_of Y) ?F
 case F=>
  intro w mg fa h KX G hmg
  refine' LW.all_mk KX G hmg ..
  all_goals try apply LW.DefK.m
  all_goals try ((try unfold LW.LkF);first | k_is | kit_is | rfl | kernel_rfl)
