import PyProof.Rows.All
import Wide.All
import OpenK.AllK
import Wide.FinOn
import Lean
import PyProof.EqAt
import PyProof.EqKinds
import PyProof.TupleCall
import PyProof.NeKinds
import KE.KEqDict
import KE.KDictSum
import PyProof.Rows.StrMul
import PyProof.Rows.SortStr
import PyProof.Rows.SortWalk
import KE.KSortTup
import PyProof.IsiH_list
import KE.KDictOf
import KE.KItemsList
import PyProof.SetKind
import PyProof.Rows.SetFrom
import PyProof.IsRules
import PyProof.EnumStmt
import PyProof.EnumFor
import PyProof.EnumMake
import PyProof.Rows.StrJoin2
import KE.KDictList
import PyProof.ZipIter
import PyProof.DictCompW
import PyProof.DictUpdate
import PyProof.FactsAll.set_2
import KE.KSetDisp
import PyProof.Rows.SortShellK
import PyProof.TupleKey
import PyProof.ReprRoads
import PyProof.Rows.StrNews2
import PyProof.StrCalls
import PyProof.ListIndex
import PyProof.StrLawsChain
import PyProof.StrLawsOcc
import PyProof.StrLawsJoin
import KE.KDictLaws
import PySem.Challenge.RW_outlineward_k44_ties_of_a_book
set_option Elab.async false
set_option linter.all false
set_option maxRecDepth 100000
set_option maxHeartbeats 4000000
def MQ:=@of_decide_eq_true
def MR:=@decide_eq_true
def MS:=@decide_eq_false
def MT:=@if_neg
def MU:=@if_pos
def MV:=@beq_eq_false_iff_ne
def MW:=@congrArg
open _root_.Array renaming getElem_toList->cZ,length_toList->dA,toList_append->dQ,getElem?_toList->gj,getElem_extract->lP,perm_iff_toList_perm->sP,toList_reverse->xF,toList_map->xG,size_append->DY,toList_push->MI,toList_inj->MJ,toArray_toList->ML,mem_toList_iff->MM,getD->MO
open _root_.Array.Perm renaming refl->DZ
open _root_.Bool renaming false_ne_true->cP,false_eq_true->eB,and_eq_true->gY,eq_iff_iff->lO,not_true->sO,or_eq_true->ME,not_eq_true->MF,false_or->MG,and_false->MH
open _root_.Char renaming toNat->DX
open _root_.Classical renaming choose_spec->MB
open _root_.False renaming elim->fg
open _root_.Int renaming toNat->eT,emod_nonneg->oK,emod_lt_of_pos->oM,lt_trans->Mz,lt_irrefl->MA
open _root_.List renaming length_map->aB,getElem?_eq_getElem->aK,mem_singleton->aM,mem_cons->a_,map_cons->bg,map_append->bq,mem_append->bx,length_append->bz,mem_cons_self->bC,append_assoc->bE,mem_cons_of_mem->bG,getElem?_map->bH,getElem?_eq_some_iff->bI,length_cons->bM,range->bT,size_toArray->bX,length_take->bZ,mem_map->cc,mem_append_right->ck,cons_append->cu,take_length->cx,take_succ->dO,getElem_mem->dP,nodup_cons->eS,length_nil->fe,Nodup->ff,lookup_cons->fC,pairwise_append->f_,map_nil->gg,append_nil->gh,lookup->gX,perm_append_comm->iE,getD_eq_getElem?_getD->iF,take_append_drop->lH,mem_of_getElem?->lI,mem_flatMap->lJ,map_map->lK,lookup_cons_self->lL,length_drop->lM,length->lN,length_range->mN,any_eq_true->mO,nil_append->oE,mem_iff_getElem->oF,length_filter_le->oG,getElem?_append_right->oH,find?_cons->oI,take_zero->sK,pairwise_singleton->sL,nodup_nil->sM,drop_eq_nil_of_le->sN,pairwise_iff_getElem->xw,mem_of_mem_take->xx,mem_of_mem_drop->xy,mem_filter->xz,mem_append_left->xA,map->xB,getElem?_append_left->xC,filter_cons->xD,all_cons->xE,zip_cons_cons->DG,of_mem_zip->DH,not_mem_nil->DI,nodup_append->DJ,mem_iff_getElem?->DK,map_snd_zip->DL,getElem?_eq_none->DM,getElem?_drop->DN,flatMap_nil->DO,filterMap_cons->DP,eq_nil_or_concat->DQ,drop_eq_getElem_cons->DR,drop_drop->DS,concat_eq_append->DT,append_cancel_left->DU,any_cons->DV,all_eq_true->DW,zip_nil_right->L_,zip_nil_left->Ma,reverse_cons->Mb,pairwise_cons->Mc,not_lt->Md,mem_range->Me,mem_map_of_mem->Mf,mem_filterMap->Mg,getElem_take->Mh,getElem_inj->Mi,getElem_drop->Mj,getElem?_set_self->Ml,getElem?_set_ne->Mm,getElem?_range->Mn,foldl_cons->Mo,flatMap_append->Mp,filter_append->Mq,ext_getElem?->Mr,contains_iff_mem->Ms
open _root_.List.Perm renaming refl->Mt,append_left->Mu
open _root_.Nat renaming le_refl->aD,le_trans->aG,le_of_ble_eq_true->aX,ne_of_lt->bB,zero_le->bF,le_of_lt->cD,le_succ->cO,lt_of_lt_of_le->dl,succ_le_succ->gW,ne_of_gt->iD,repr->lF,lt_irrefl->lG,lt_or_ge->mM,mul_le_mul_right->oy,lt_succ_of_lt->oA,lt_of_le_of_lt->oB,le_succ_of_le->oC,toList_repr->xt,add_sub_cancel_left->xv,zero_add->Dy,one_mul->Dz,ofDigitChars_ten_toDigits->DB,mul_le_mul->DC,lt_trans->DD,le_of_eq->DE,add_mul->DF,toDigits->LS,min_eq_left->LV,lt_trichotomy->LY,lt_succ_self->LZ,eq_zero_or_pos->L8,add_assoc->L9
open _root_.Nat.succ renaming inj->xu
open _root_.Ne renaming symm->cY
open _root_.Option renaming isSome_iff_exists->sJ,map_some->xr,map_eq_some_iff->Dx,isSome_map->LP,isSome->LQ,getD_none->LR
open _root_.Option.some renaming inj->cN
open _root_.Prod.mk renaming inj->Dv
open _root_.PyProof.Rows renaming SortSt->ao,wpS_bind->av,wpS_pure->aC,pendingOf->aP,seqObj->bL,envOfC->cr,wpS_mono->cF,wpS_forRange->dz,failedOf->eR,wpS_modify->e_,wpS_get->fb,SortKind->fc,gallopOf->gU,AllBare->iC,setPending->lC,pairsOf->lD,KK_congr->lE,wpS_lift->mL,reverseSlice'->sH,IntsAre->sI,wpS_reverse->xk,size_push'->xl,seqEpoch_at->xm,pairsOf_toList->xn,listUpdate_at->xo,elem'_eq->xp,subscriptTail->Dg,sortedHeap->Dh,slot_tuple_getitem->Di,pairsOf_size->Dj,callWith_type1->Dl,assignInOrder_cons->Dm,Subscript_->Do,SortedToK->Dq,KK_mirror_equal->Dr,subscriptTail_builtinR->Ls,assignInOrder_nil->LJ,KeyKind->LO
open _root_.PyProof.Rows.IsTup renaming new->Ds
open _root_.PyProof.Rows.KeyOrd renaming kle_trans->dk,kle_of_klt->gV,kle_refl->iB,kle_antisymm->LM
open _root_.PyProof.Rows.SortSt renaming mk'->xq
open _root_.PySem renaming Addr->ab,Value->ae,Shared->af,Expr->ag,model->ai,Heap->aj,wpAny->al,wpAny_bind->ar,World->aw,Program->az,Stmt->aA,sizeLine->aE,FuncData->aH,Around->aL,wpAny_pure->aN,mainGlobals->aO,starEach->bO,wpAny_mono->cb,Scope->cj,bootBuiltins->cW,codeAny->dg,compareOp->dw,foldedSetIterable->eN,backTo->eO,sysModules->fz,NameKind->fB,standAt->fW,sizeLine_eq->fX,assignEach->fY,swapsWith->gL,binaryOp->gM,behindInMarks->gN,attributeBase->gO,wpAny_standAt->ir,wpAny_rule->iu,wpAny_newObj_type->iw,wpAny_holding->ix,valueAt->iy,SetTable->iA,mem_of_lookup->k_,letOwnedTupleGo->ll,getItem->lm,IsPart->lA,sliceBounds->mD,pyNext->mE,callerA->mF,BindsTo->mK,tupleKind->ol,pyIter->om,compPost->on,call_meetsIn->oo,Result->ou,wpAny_truthy_bool->rX,wpAny_passesOwn->rY,newList->rZ,compTurn->r_,codeAny_mono->si,wpAny_newList->wL,wpAny_Call_Name_kw->wM,tupleKind_room_in1->wO,swapsWithSole->wP,swappedStores->wQ,setItem->wR,notedBy->wS,noteFrame->wT,call_meets->wU,bindName->wV,Within->wW,PlainAttrs->wY,DictEntry->xb,Builtin->xi,wpAny_noted->Ck,wpAny_newFunctionEnv->Cm,wpAny_field->Cn,wpAny_execs_nil->Co,wpAny_comprehension_free->Cp,wpAny_call_entry->Cq,wpAny_Name->Cr,theTreesLotGoes->Cu,seqIndex_of->Cv,keywordEach->Cw,firstIterPos->Cz,codeAny_loop->CB,codeAny_compStart_list->CC,cellsFrom->CD,call->CH,builtinsNs->CI,assignInOrder->CL,wpAny_pyIter_enum->Ht,wpAny_isTrue_Compare1->Hw,wpAny_execs_cons->Hx,wpAny_assign_Name->HH,wpAny_Dict_empty->HI,wpAny_Call_method->HJ,strKind->HP,slot_list_getitem->HS,Keyword->IY
open _root_.PySem.Around renaming units->xj,under->Df,under_plainId->Lq
open _root_.PySem.Builtin.List renaming listTooLong->De
open _root_.PySem.Builtin.Slice renaming slicePlaces->xh,sliceAdjust->Dd,sliceApplied->Lp
open _root_.PySem.Builtin.Str renaming reprChar->xg
open _root_.PySem.Builtin.Tuple renaming tupleExact->xf
open _root_.PySem.Calls renaming spliced_cons->sw,callWith_builtin->xc,spliced_nil->Db,evalArgs_plain->Dc,call_function_entry->Ln,Name_function_global->Lo
open _root_.PySem.Challenge renaming rw_outlineward_k44_ties_of_a_book->Lm
open _root_.PySem.Code renaming isFrame->Da,frames->Ll
open _root_.PySem.Env renaming scope->mJ
open _root_.PySem.F renaming plainAttrs_list->bS,type_list_append->dh,slot_list_append->dj,type_list_extend->gS,slot_list_extend->gT,slot_dict_pop->C7,slot_dict_get->C8,plainAttrs_dict->C9,type_list_clear->La,slot_list_clear->Lb,slot_dict_values->Lc,slot_dict_delitem->Ld,plain_list_iadd->Lf,entry_dict_pop->Lg,entry_dict_get->Lh,args_dict_pop_3->Li,args_dict_get_3->Lj
open _root_.PySem.Heap renaming lt_size->bp,get?_push_of_some->bK,get?_push_size->eh,SameBut->lB,size_push->sv,get?_update_other->w_,get?_push_ne->xa,size_update->C5
open _root_.PySem.Heap.SameBut renaming refl->C6
open _root_.PySem.Obj renaming mapSeq->cX
open _root_.PySem.Paired renaming length->w8,snoc->IX
open _root_.PySem.PassesOwn renaming never->ee
open _root_.PySem.Pos renaming line->lz
open _root_.PySem.PyData renaming shownAll->ss,depthAll->C3,showableAll->IT,hasDictAll->IU
open _root_.PySem.Scope renaming names->C2
open _root_.PySem.SeqAt renaming EqAt->oq,RcNeAt->CW,RcAt->IJ
open _root_.PySem.SeqAt.EqAt renaming str_int->CZ,int_str->C1,tuple_str->IK,tuple_int->IL,str_tuple->IM,str_str->IN,same->IP,of_refs->IQ,int_tuple->IR,int_int->IS
open _root_.PySem.SeqAt.RcAt renaming tuples->CY
open _root_.PySem.SetTable renaming Probe->II
open _root_.PySem.Str renaming ofString->bu,cps_append->mI,join->CU,empty->CV
open _root_.PySem.Txt renaming join->ly
open _root_.PySem.Unicode renaming isPrintable->IH
open _root_.PySem.Value renaming isStrOf->Iy,isInt->Iz
open _root_.PySem.W renaming Frag->aq,nsIn->aY,findIn->bP,mg_none_of->dy,keepIn->eQ,kia_one->fZ,fnOf->gP,codeIn->gR,emptyDict->iz,plainGet->lp,instObj->lu,hasDictIn->lx,plainOver->mG,makesIn->mH,specialIn->sj,mg_of->sk,isFn->sq,alongIn->sr,OpenLaw->wX,takerIn->CM,methodObj->CO,lookIn->CP,kitOne->CQ,kitx_list->Io,kitx_dict->Ip,handedIn->Ir,cellsFrom_some->Is,WalkO->Iv
open _root_.PySem.W.WShape renaming has->Iw
open _root_.String renaming toList_append->wK
open _root_.Sum.inr renaming inj->wJ
open _root_.ToString renaming toString->wI
namespace L2
open PySem PySem.Spec PyProof.Rows
abbrev Key:=Sum Int Str
def Yq:Key->ae->Bool
 | .inl k,v=>Iz k v
 | .inr x,v=>Iy x v
def jjs(w:aw):Key->Int
 | .inl k=>hashInt k
 | .inr x=>hashStr w x
theorem kC:∀{k:Key} {v:ae},Yq k v=true->(∃i t,k=Sum.inl i/\v=Value.int i t)\/(∃x t,k=Sum.inr x/\v=Value.str x t)
 | .inl i,v,h=>by
  obtain⟨t,e⟩:=ae.isInt_shape (k:=i) (v:=v) h;exact .inl ⟨i,t,rfl,e⟩
 | .inr x,v,h=>by
  obtain⟨t,e⟩:=ae.isStrOf_shape (x:=x) (v:=v) h;exact .inr ⟨x,t,rfl,e⟩
theorem jdg(i:Int)(t:Tok):Yq (.inl i) (.int i t)=true:=by simp[Yq,Iz]
theorem jdf(x:Str)(t:Tok):Yq (.inr x) (.str x t)=true:=by simp[Yq,Iy]
theorem jig(a b:Int):decide ((Sum.inl a:Key)=Sum.inl b)=(a == b):=by
 by_cases e:a=b
 .subst e;simp
 .have h:¬(Sum.inl a:Key)=Sum.inl b:=fun q=>e (Sum.inl.inj q)
  rw[MS h];exact (MV.mpr e).symm
theorem jid(a b:Str):decide ((Sum.inr a:Key)=Sum.inr b)=decide (a=b):=by
 by_cases e:a=b
 .subst e;simp
 .have h:¬(Sum.inr a:Key)=Sum.inr b:=fun q=>e (wJ q)
  rw[MS h,MS e]
theorem jif(a:Int)(b:Str):decide ((Sum.inl a:Key)=Sum.inr b)=false:=MS (fun q=>nomatch q)
theorem jie(a:Str)(b:Int):decide ((Sum.inr a:Key)=Sum.inl b)=false:=MS (fun q=>nomatch q)
def j9(prog:az)(w:aw):PySem.KeyKind prog w Key where
 is:=Yq
 hash:=jjs w
 inj:=fun v a b ha hb=>by
  rcases kC ha with⟨i,t,rfl,rfl⟩ | ⟨x,t,rfl,rfl⟩
  .rcases kC hb with⟨j,u,rfl,e⟩ | ⟨y,u,rfl,e⟩
   .injection e with e1 _;rw[e1]
   .exact nomatch e
  .rcases kC hb with⟨j,u,rfl,e⟩ | ⟨y,u,rfl,e⟩
   .exact nomatch e
   .injection e with e1 _;rw[e1]
 byValue:=fun k v h=>by
  rcases kC h with⟨i,t,rfl,rfl⟩ | ⟨x,t,rfl,rfl⟩ <;> rfl
 pyHash:=fun hv h=>by
  rcases kC hv with⟨i,t,rfl,rfl⟩ | ⟨x,t,rfl,rfl⟩
  .exact wpAny_pyHash_int h
  .exact wpAny_pyHash_str h
 eqBool:=fun hu hv h=>by
  rcases kC hu with⟨i,t,rfl,rfl⟩ | ⟨x,t,rfl,rfl⟩
  .rcases kC hv with⟨j,u,rfl,rfl⟩ | ⟨y,u,rfl,rfl⟩
   .rw[jig]at h;exact wpAny_eqBool_int h
   .rw[jif]at h;exact C1 i t y u _ _ _ _ h
  .rcases kC hv with⟨j,u,rfl,rfl⟩ | ⟨y,u,rfl,rfl⟩
   .rw[jie]at h;exact CZ x t j u _ _ _ _ h
   .rw[jid]at h;exact wpAny_eqBool_str h
 «strs»:=fun k x t v h=>by
  rcases kC h with⟨i,u,rfl,e⟩ | ⟨y,u,rfl,e⟩
  .exact nomatch e
  .injection e with e1 _
   subst e1
   cases v <;> rfl
theorem jaE(prog:az)(w:aw)(i:Int)(t:Tok):(j9 prog w).is (.inl i) (.int i t)=true:=jdg i t
theorem jaD(prog:az)(w:aw)(x:Str)(t:Tok):(j9 prog w).is (.inr x) (.str x t)=true:=jdf x t
inductive V where
 | non | bl (b:Bool) | int (i:Int) | str (x:Str) | byt (b:Array UInt8) | flt (b:UInt64) | ref (a:ab) | ty (n:String)
 deriving DecidableEq
def RelV:V->ae->Prop
 | .non,u=>u=Value.none
 | .bl b,u=>u=Value.bool b
 | .int i,u=>∃t,u=Value.int i t
 | .str x,u=>∃t,u=Value.str x t
 | .byt b,u=>∃t,u=Value.bytes b t
 | .flt b,u=>∃t,u=Value.float b t
 | .ref a,u=>u=Value.ref a
 | .ty n,u=>u=Value.type n
abbrev Vals:List V->List ae->Prop:=Paired RelV
theorem Vals.length{xs:List V}{us:List ae}(r:Vals xs us):xs.length=us.length:=w8 r
theorem Vals.get:∀{xs:List V} {us:List ae} {i:Nat} {x:V},Vals xs us->xs[i]?=some x->∃u,us[i]?=some u/\RelV x u
 | _,_,_,_,.nil,e=>by simp at e
 | _,_,0,_,.cons r _,e=>by simp at e;subst e;exact⟨_,rfl,r⟩
 | _,_,i+1,x,.cons _ t,e=>by
  obtain⟨u,h1,h2⟩:=Vals.get (i:=i) (x:=x) t (by simpa using e);exact⟨u,by simpa using h1,h2⟩
theorem Vals.set{x:V}{u:ae}(r:RelV x u):∀{xs:List V} {us:List ae} (i:Nat),Vals xs us->Vals (xs.set i x) (us.set i u)
 | _,_,_,.nil=>.nil
 | _,_,0,.cons _ t=>.cons r t
 | _,_,i+1,.cons q t=>.cons q (Vals.set r i t)
theorem Vals.append:∀{xs ys:List V} {us ws:List ae},Vals xs us->Vals ys ws->Vals (xs++ys) (us++ws)
 | _,_,_,_,.nil,s=>s
 | _,_,_,_,.cons r t,s=>.cons r (Vals.append t s)
theorem Vals.take:∀{xs:List V} {us:List ae} (n:Nat),Vals xs us->Vals (xs.take n) (us.take n)
 | _,_,0,_=>.nil
 | _,_,_+1,.nil=>.nil
 | _,_,n+1,.cons r t=>.cons r (Vals.take n t)
theorem Vals.drop:∀{xs:List V} {us:List ae} (n:Nat),Vals xs us->Vals (xs.drop n) (us.drop n)
 | _,_,0,r=>r
 | _,_,_+1,.nil=>.nil
 | _,_,n+1,.cons _ t=>Vals.drop n t
def RelO:Option V->Option ae->Prop
 | some v,some u=>RelV v u
 | none,none=>True
 | _,_=>False
def KV{κ:Type}:List (κ×V)->List (κ×ae)->Prop:=Paired fun (p:κ×V) (q:κ×ae)=>p.1=q.1/\RelV p.2 q.2
def kV:Key->V
 | .inl i=>.int i
 | .inr x=>.str x
inductive HO where
 | lst (xs:List V)
 | tup (xs:List V)
 | dK (kvs:List (Key×V)) | dT (kvs:List (List Key×V))
 | set (S:Int->Bool) (n:Nat)
 | ins (C dx:ab) (fs:List (Str×V))
 | own (x:ab)
 | xd (fs:List (Str×V))
 | met (f x:ab)
 | rng (lo hi:Int)
 | frz (o:Obj) (u:HO)
 | tbl (ps:Array ae)
 | ext (φ:aj->Prop)
abbrev Hp:=ab->Option HO
def upd(H:Hp)(a:ab)(o:HO):Hp:=fun b=>if b=a then some o else H b
theorem jf{H:Hp}{a:ab}{o:HO}:upd H a o a=some o:=by unfold upd;rw[MU rfl]
theorem jD{H:Hp}{a b:ab}{o:HO}(h:b≠a):upd H a o b=H b:=by unfold upd;rw[MT h]
theorem jaB{H:Hp}{a b:ab}{o u:HO}(h:H a=some o)(h':H b=some u)(d:o≠u):a≠b:=by
 intro e;subst e;rw[h]at h';exact d (cN h')
theorem jo{H:Hp}{a b:ab}{o:HO}(h:H a=some o)(h':H b=none):a≠b:=by
 intro e;subst e;rw[h]at h';cases h'
section
variable (P:az)(w:aw)
def ObjOk(H:Hp)(h:aj)(a:ab):HO->Prop
 | .lst xs=>xs.length<=aE/\∃(its:List ae) (n:Nat),Vals xs its/\h.get? a=some { cls:=.type "list",data:=.seq its.toArray n }
 | .tup xs=>xs.length<=aE/\∃its:List ae,Vals xs its/\IsTup h a its.toArray
 | .dK kvs=>kvs.length<=aE/\(a == fz)=false/\∃vs,KV kvs vs/\h.DictOf (j9 P w) a vs
 | .dT kvs=>kvs.length<=aE/\(a == fz)=false/\∃xs:List (List Key×ab×ae),
   Paired (fun (p:List Key×V) (q:List Key×ab×ae)=>p.1=q.1/\H q.2.1=some (.tup (p.1.map kV))/\RelV p.2 q.2.2) kvs xs/\
   ∃o es ep,h.get? a=some o/\o.ExactDict/\o.data=.dict es ep/\es.toList=xs.map (entryOfKey (ol (j9 P w)))/\(xs.map (·.1)).Nodup
 | .set S n=>h.SetOf (intKind P w) a S n
 | .ins C dx fs=>H dx=some (.own a)/\fs.length<=1000/\dx≠a/\h.get? a=some (lu C dx)/\
   ∃mA,h.Ns1 dx mA/\(∀f,RelO (fs.lookup f) (mA f))/\wW mA (fs.map (·.1))
 | .own _=>∃o,h.get? a=some o
 | .xd fs=>∃mA,h.Ns1 a mA/\∀f,RelO (fs.lookup f) (mA f)
 | .rng lo hi=>∃t u v,h.get? a=some { cls:=.type "range",data:=.fields #[.int lo t,.int hi u,.int 1 v] }
 | .frz o u=>h.get? a=some o/\ObjOk H h a u
 | .tbl ps=>h.get? a=some { cls:=.none,data:=.fields ps }
 | .met f x=>h.get? a=some (CO (.ref f) (.ref x))
 | .ext φ=>φ h/\(∃o,h.get? a=some o)/\∀h1 h2:aj,φ h1->(∀o,h1.get? a=some o->h2.get? a=some o)->φ h2
def HOk(H:Hp)(h:aj):Prop:=∀a o,H a=some o->ObjOk P w H h a o
end
section
variable {P:az}{w:aw}{H H':Hp}{h h':aj}{a:ab}{o:HO}
theorem ObjOk.lt(x:ObjOk P w H h a o):a < h.objs.size:=by
 cases o with
 | lst xs=>obtain⟨_,_,_,_,e⟩:=x;exact bp e
 | tup xs=>obtain⟨_,_,_,p⟩:=x;exact p.lt
 | dK kvs=>obtain⟨_,_,_,_,o,_,_,e,_⟩:=x;exact bp e
 | dT kvs=>obtain⟨_,_,_,_,o,_,_,e,_⟩:=x;exact bp e
 | set S n=>obtain⟨o,_,_,_,e,_⟩:=x;exact bp e
 | ins C dx fs=>obtain⟨_,_,_,e,_⟩:=x;exact bp e
 | own y=>obtain⟨_,e⟩:=x;exact bp e
 | xd fs=>obtain⟨_,⟨_,_,_,e,_⟩,_⟩:=x;exact bp e
 | rng lo hi=>obtain⟨_,_,_,e⟩:=x;exact bp e
 | frz ob u=>obtain⟨e,_⟩:=x;exact bp e
 | tbl ps=>exact bp (show h.get? a=some _ from x)
 | met f y=>exact bp (show h.get? a=some _ from x)
 | ext φ=>obtain⟨_,⟨_,e⟩,_⟩:=x;exact bp e
theorem Paired.mapP{α β:Type}{F G:α->β->Prop}:∀{l₁:List α} {l₂:List β},Paired F l₁ l₂->(∀a b,F a b->G a b)->Paired G l₁ l₂
 | _,_,.nil,_=>.nil
 | _,_,.cons r t,f=>.cons (f _ _ r) (Paired.mapP t f)
theorem ObjOk.stay(x:ObjOk P w H h a o)(k:∀b u,(b=a\/H b=some (.own a))->h.get? b=some u->h'.get? b=some u)
  (ho:∀b,H b=some (.own a)->H' b=some (.own a)) (ht:∀b xs,H b=some (.tup xs)->H' b=some (.tup xs)):ObjOk P w H' h' a o:=by
 induction o with
 | lst xs=>obtain⟨z,its,n,r,e⟩:=x;exact⟨z,its,n,r,k _ _ (.inl rfl) e⟩
 | tup xs=>obtain⟨z,its,r,ob,e,c⟩:=x;exact⟨z,its,r,ob,k _ _ (.inl rfl) e,c⟩
 | dK kvs=>obtain⟨z,y,vs,r,ob,es,ep,e,c⟩:=x;exact⟨z,y,vs,r,ob,es,ep,k _ _ (.inl rfl) e,c⟩
 | dT kvs=>
  obtain⟨z,y,xs,r,ob,es,ep,e,c⟩:=x
  exact⟨z,y,xs,Paired.mapP r fun p q z=>⟨z.1,ht _ _ z.2.1,z.2.2⟩,ob,es,ep,k _ _ (.inl rfl) e,c⟩
 | set S n=>obtain⟨ob,es,ep,t,e,c⟩:=x;exact⟨ob,es,ep,t,k _ _ (.inl rfl) e,c⟩
 | ins C dx fs=>
  obtain⟨d,z,ne,e,mA,⟨od,es,ep,e2,c⟩,r⟩:=x
  exact⟨ho _ d,z,ne,k _ _ (.inl rfl) e,mA,⟨od,es,ep,k _ _ (.inr d) e2,c⟩,r⟩
 | own y=>obtain⟨ob,e⟩:=x;exact⟨ob,k _ _ (.inl rfl) e⟩
 | xd fs=>obtain⟨mA,⟨od,es,ep,e,c⟩,r⟩:=x;exact⟨mA,⟨od,es,ep,k _ _ (.inl rfl) e,c⟩,r⟩
 | rng lo hi=>obtain⟨t,u,v,e⟩:=x;exact⟨t,u,v,k _ _ (.inl rfl) e⟩
 | frz ob u ih=>obtain⟨e,q⟩:=x;exact⟨k _ _ (.inl rfl) e,ih q⟩
 | tbl ps=>
  have e:h.get? a=some { cls:=.none,data:=.fields ps }:=x
  show h'.get? a=some { cls:=.none,data:=.fields ps }
  exact k a _ (.inl rfl) e
 | met f y=>
  have e:h.get? a=some (CO (.ref f) (.ref y)):=x
  show h'.get? a=some (CO (.ref f) (.ref y))
  exact k a _ (.inl rfl) e
 | ext φ=>obtain⟨p,⟨o,e⟩,st⟩:=x;exact⟨st _ _ p fun o q=>k _ _ (.inl rfl) q,⟨o,k _ _ (.inl rfl) e⟩,st⟩
theorem HOk.lt(x:HOk P w H h)(e:H a=some o):a < h.objs.size:=(x a o e).lt
theorem HOk.fresh(x:HOk P w H h)(e:h.objs.size<=a):H a=none:=by
 cases q:H a with
 | none=>rfl
 | some u=>exact absurd (dl (x.lt q) e) (lG _)
theorem HOk.kept(x:HOk P w H h)(k:∀b u,h.get? b=some u->h'.get? b=some u):HOk P w H h':=fun a o e=>
 (x a o e).stay (fun b u _ q=>k b u q) (fun _ q=>q) fun _ _ q=>q
theorem HOk.laid(x:HOk P w H h)(k:∀b u,h.get? b=some u->h'.get? b=some u)(hp:h.objs.size<=a)(new:ObjOk P w (upd H a o) h' a o):HOk P w (upd H a o) h':=fun b u e=>by
 have hn:=x.fresh hp;by_cases hb:b=a
 .subst hb;rw[jf]at e;cases e;exact new
 .rw[jD hb]at e
  exact (x b u e).stay (fun c v _ q=>k c v q) (fun c q=>by rw[jD (jo q hn)];exact q) fun c xs q=>by rw[jD (jo q hn)];exact q
end
def Rd(H:Hp)(a:ab)(u:HO):Prop:=H a=some u\/∃o,H a=some (.frz o u)
theorem Rd.ok{P:az}{w:aw}{H:Hp}{h:aj}{a:ab}{u:HO}(r:Rd H a u)(x:HOk P w H h):ObjOk P w H h a u:=by
 rcases r with r | ⟨o,r⟩
 .exact x a u r
 .obtain⟨_,q⟩:=x a _ r
  exact q
def Mut:Option HO->Prop
 | some (.lst _)=>True
 | some (.dK _)=>True
 | some (.dT _)=>True
 | some (.set _ _)=>True
 | some (.ins _ _ _)=>True
 | some (.ext _)=>True
 | _=>False
section
variable {P:az}{w:aw}{H:Hp}{h h':aj}{x e:ab}{o':HO}
theorem HOk.write(ok:HOk P w H h)(mu:Mut (H x))(he:e=x\/H e=some (.own x))(k:∀b u,b≠e->h.get? b=some u->h'.get? b=some u)(ml:∃u,h'.get? e=some u)
  (new:ObjOk P w (upd H x o') h' x o'):HOk P w (upd H x o') h':=fun b u q=>by
 have Ah:∀c y,H c=some (.own y)->c≠x:=fun c y r z=>by subst z;rw[r]at mu;exact mu
 have Ek:∀c xs,H c=some (.tup xs)->c≠x:=fun c xs r z=>by subst z;rw[r]at mu;exact mu
 by_cases hb:b=x
 .subst hb;rw[jf]at q;cases q;exact new
 .rw[jD hb]at q
  by_cases gF:b=e
  .have q':H b=some (.own x):=by
    rcases he with z | z
    .exact absurd (gF.trans z) hb
    .rw[gF];exact z
   rw[q]at q';cases q';obtain⟨v,hv⟩:=ml;exact⟨v,by rw[gF];exact hv⟩
  .refine (ok b u q).stay (fun c v hc r=>k c v ?_ r) (fun c r=>by rw[jD (Ah c b r)];exact r) fun c xs r=>by rw[jD (Ek c xs r)];exact r
   rcases hc with rfl | hc
   .exact gF
   .rintro rfl
    rcases he with z | z
    .exact Ah c b hc z
    .rw[hc]at z;cases z;exact hb rfl
end
structure Un(fs ex:List ab)(H H':Hp)(h h':aj):Prop where
 keep:∀b o,h.get? b=some o->H b=none->b ∉ fs->b ∉ ex->h'.get? b=some o
 slot:∀b o,h.get? b=some o->H b=none->b∈fs->b ∉ ex->∃sl,h'.get? b=some { o with slots:=sl }
 free:∀b o,h.get? b=some o->H b=none->b ∉ ex->H' b=none
 there:∀b o,h.get? b=some o->b ∉ ex->∃o',h'.get? b=some o'
 tups:∀b xs,H b=some (.tup xs)->H' b=some (.tup xs)
 frzs:∀b o u,H b=some (.frz o u)->H' b=some (.frz o u)
 tbls:∀b ps,H b=some (.tbl ps)->∃more,H' b=some (.tbl (ps++more))
 stay:∀b o xs,H b=some (.tup xs)->h.get? b=some o->b ∉ fs->b ∉ ex->h'.get? b=some o
section
variable {fs pN ex ex':List ab}{H H1 H2:Hp}{h h1 h2 h':aj}{a x e:ab}{o:HO}
theorem Un.any(u:Un fs ex H H1 h h1){b:ab}{ob:Obj}(q:h.get? b=some ob)(n:H b=none)(hx:b ∉ ex):∃sl,h1.get? b=some { ob with slots:=sl }:=by
 by_cases hb:b∈fs
 .exact u.slot b ob q n hb hx
 .exact⟨ob.slots,u.keep b ob q n hb hx⟩
theorem Un.kept(k:∀b u,h.get? b=some u->h'.get? b=some u):Un fs ex H H h h':=
 ⟨fun b ob q _ _ _=>k b ob q,fun b ob q _ _ _=>⟨ob.slots,k b ob q⟩,fun _ _ _ n _=>n,fun b ob q _=>⟨ob,k b ob q⟩,fun _ _ q=>q,fun _ _ _ q=>q,fun _ ps q=>⟨#[],by rw[q];simp⟩,fun b ob _ _ q _ _=>k b ob q⟩
theorem Un.refl:Un fs ex H H h h:=Un.kept fun _ _ q=>q
theorem Un.laid(k:∀b u,h.get? b=some u->h'.get? b=some u)(hp:h.objs.size<=a)(hn:H a=none):Un fs ex H (upd H a o) h h' where
 keep:=fun b u q _ _ _=>k b u q
 slot:=fun b u q _ _ _=>⟨u.slots,k b u q⟩
 free:=fun b u q n _=>by rw[jD (bB (dl (bp q) hp))];exact n
 there:=fun b u q _=>⟨u,k b u q⟩
 tups:=fun b xs q=>by rw[jD (jo q hn)];exact q
 frzs:=fun b u xs q=>by rw[jD (jo q hn)];exact q
 tbls:=fun b ps q=>⟨#[],by rw[jD (jo q hn),q];simp⟩
 stay:=fun b u _ _ q _ _=>k b u q
theorem Un.write(mu:Mut (H x))(he:e=x\/H e=some (.own x))(k:∀b u,b≠e->h.get? b=some u->h'.get? b=some u)(ml:∃u,h'.get? e=some u):Un fs ex H (upd H x o) h h':=by
 have hx:∀b,H b=none->b≠x:=fun b n z=>by subst z;rw[n]at mu;exact mu
 have hb:∀b,H b=none->b≠e:=fun b n z=>by
  subst z;rcases he with r | r
  .exact hx b n r
  .rw[n]at r;cases r
 have hm:∀b u,H b=some u->¬Mut (some u)->b≠x:=fun b u q nm z=>by subst z;rw[q]at mu;exact nm mu
 refine⟨fun b u q n _ _=>k b u (hb b n) q,fun b u q n _ _=>⟨u.slots,k b u (hb b n) q⟩,fun b u q n _=>by rw[jD (hx b n)];exact n,fun b u q _=>?_,
  fun b xs q=>by rw[jD (hm b _ q fun z=>z)];exact q,fun b u xs q=>by rw[jD (hm b _ q fun z=>z)];exact q,fun b ps q=>⟨#[],by rw[jD (hm b _ q fun z=>z),q];simp⟩,fun b u xs q e' _ _=>k b u (fun z=>by
   subst z;rcases he with r | r
   .exact hm b _ q (fun z=>z) r
   .rw[q]at r;cases r) e'⟩
 by_cases gF:b=e
 .subst gF;exact ml
 .exact⟨u,k b u gF q⟩
end
def trk(h:aj)(H:Hp):List ab:=(bT h.objs.size).filter fun a=>(H a).isSome
def ZP(h:aj)(H:Hp):aj:=PySem.W.hideAll h (trk h H)
theorem jdm(h:aj)(H:Hp):(ZP h H).objs.size=h.objs.size:=PySem.W.hideAll_size _ _
theorem jfb{h:aj}{H:Hp}{b:ab}{o:Obj}(e:h.get? b=some o)(n:H b=none):(ZP h H).get? b=some o:=
 PySem.W.hideAll_get _ e fun hm=>by
  have q:(H b).isSome=true:=(xz.mp hm).2;rw[n]at q;simp at q
theorem jgI{h:aj}{H:Hp}{b:ab}{o:Obj}(e:(ZP h H).get? b=some o):h.get? b=some o/\H b=none:=by
 have e':h.get? b=some o:=PySem.W.of_hideAll (trk h H) e;refine⟨e',?_⟩
 cases q:H b with
 | none=>rfl
 | some x=>
  have hm:b∈trk h H:=xz.mpr ⟨Me.mpr (bp e'),by simp[q]⟩;have z:(ZP h H).get? b=none:=PySem.W.hideAll_none (trk h H) hm;rw[z]at e;cases e
def jgZ(g h:aj)(L:ab):List (ab×Obj):=(bT h.objs.size).filterMap fun a=>if a=L\/(g.get? a).isSome=true then none else (h.get? a).map fun o=>(a,o)
def yB(g h:aj)(L d:ab):List (ab×Obj):=(jgZ g h L).filter fun p=>decide (p.1≠d)
structure Mod(K:aq)(mg:Str->Option ae)(base:aj):Prop where
 kin:K.In base
 glob:base.Ns aO mg
 blt:∃mb,base.Ns CI mb/\∀x:Str,x≠"__name__"->mb x=cW x
 nolimit:base.NoLimit
structure Cx where
 prog:az
 w:aw
 K:aq
 mg:Str->Option ae
 base:aj
 A:aL
 N:List Str
 s₀:af
 H₀:Hp
 env:Env
 outer:List Env
 stack:List Env
 ex:List ab
 fn:Str->Bool
 calm:Bool
 pn:List (ab×Obj)
 xe:ae->af->Prop
def frs(l:List Env):List ab:=l.filterMap (·.frame)
abbrev Cx.fs(X:Cx):List ab:=frs X.outer
def Vis(sc:cj)(x:Str):Prop:=sc.names.lookup x=some .local\/sc.names.lookup x=some .cell\/sc.names.lookup x=some .free
def Loc(sc:cj)(x:Str):Prop:=sc.names.lookup x=some .local\/sc.names.lookup x=some .cell
def jjz(env:Env)(h:aj)(m:Str->Option ae)(x:Str)(u:ae):Prop:=
 (env.kindOf x=some .local/\m x=some u)\/((env.kindOf x=some .cell\/env.kindOf x=some .free)/\∃c,env.cells.lookup x=some c/\h.IsCell c (some u))
structure Cx.Ok(X:Cx):Prop where
 mod:Mod X.K X.mg X.base
 kind:X.env.scope.kind=.function
 glob:X.env.globals=aO
 blt:X.env.builtins=CI
 above:X.s₀.heap.objs.size<=X.env.locals
 inj:∀x y c,X.env.cells.lookup x=some c->X.env.cells.lookup y=some c->x=y
 has:∀x,(X.env.kindOf x=some .cell\/X.env.kindOf x=some .free)->∃c,X.env.cells.lookup x=some c
 cab:∀x c,X.fn x=true->X.env.cells.lookup x=some c->X.s₀.heap.objs.size<=c
 hd:X.calm=true->X.A.handled=none
 frames:X.A.frames=some X.stack
 stk:X.stack=X.outer\/(X.stack=X.env :: X.outer/\X.env.frame=some X.env.locals)
 exf:∀b∈X.ex,b≠X.env.locals/\∀x c,X.env.cells.lookup x=some c->c≠b
 bs:∀b o,X.base.get? b=some o->X.s₀.heap.get? b=some o/\X.H₀ b=none
 bsz:X.base.objs.size<=X.s₀.heap.objs.size
 noex:∀b o,X.base.get? b=some o->b ∉ X.ex
 exfs:∀b∈X.ex,b ∉ X.fs
 funs:X.s₀.heap.FunFrames X.base X.outer
 frf:∀b∈X.fs,X.H₀ b=none
structure Inv(X:Cx)(ad:List (ab×Obj))(σ:List (Option V))(H:Hp)(s:af):Prop where
 ok:X.Ok
 os:s.os=X.s₀.os
 bare:iC s.gens
 base:Un X.fs X.ex X.H₀ H X.s₀.heap s.heap
 loc:∃m,s.heap.Ns X.env.locals m/\∀(i:Nat) (x:Str) (v:V),X.N[i]?=some x->σ[i]?=some (some v)->Vis X.env.scope x->∃u,RelV v u/\jjz X.env s.heap m x u
 cell:∀x c,X.env.cells.lookup x=some c->∃v,s.heap.IsCell c v
 free:H X.env.locals=none
 freeC:∀x c,X.env.cells.lookup x=some c->H c=none
 pin:∀p∈X.pn++ad,s.heap.get? p.1=some p.2/\H p.1=none/\p.1≠X.env.locals/\p.1 ∉ X.fs/\∀v,p.2.data≠.cell v
 hok:HOk X.prog X.w H s.heap
 len:σ.length=X.N.length
section
variable {X:Cx}{ad:List (ab×Obj)}{σ:List (Option V)}{H H':Hp}{s:af}{h':aj}
theorem Cx.Ok.nofr(ok:X.Ok){b:ab}{o:Obj}(e:X.base.get? b=some o):b ∉ X.fs:=fun hb=>by
 have:=(ok.funs.mem hb).1;rw[e]at this;cases this
theorem Inv.bs(I:Inv X ad σ H s):∀b o,X.base.get? b=some o->s.heap.get? b=some o/\H b=none:=fun b o e=>
 ⟨I.base.keep b o (I.ok.bs b o e).1 (I.ok.bs b o e).2 (I.ok.nofr e) (I.ok.noex b o e),I.base.free b o (I.ok.bs b o e).1 (I.ok.bs b o e).2 (I.ok.noex b o e)⟩
theorem Inv.bk(I:Inv X ad σ H s):∀b o,X.base.get? b=some o->s.heap.get? b=some o:=fun b o e=>(I.bs b o e).1
theorem Inv.mod(I:Inv X ad σ H s):Mod X.K X.mg X.base:=I.ok.mod
theorem Inv.kIn(I:Inv X ad σ H s):X.K.In s.heap:=I.ok.mod.kin.keeps I.bk
theorem Inv.nolimit(I:Inv X ad σ H s):s.heap.NoLimit:=I.ok.mod.nolimit.keeps I.bk
theorem Inv.fr(I:Inv X ad σ H s):∃m,Fr X.base X.env.locals s.heap m:=
 let ⟨m,hn,_⟩:=I.loc
 ⟨m,hn,I.bk,aG I.ok.bsz I.ok.above⟩
theorem Inv.lt(I:Inv X ad σ H s):X.env.locals < s.heap.objs.size:=let ⟨_,hn,_⟩:=I.loc;hn.lt
theorem Inv.sz(I:Inv X ad σ H s):X.s₀.heap.objs.size<=s.heap.objs.size:=aG I.ok.above (cD I.lt)
theorem Inv.nofs(I:Inv X ad σ H s){a:ab}(h:s.heap.objs.size<=a):a ∉ X.fs:=fun hb=>by
 obtain⟨_,o,ho,_⟩:=I.ok.funs.mem hb;exact absurd (dl (bp ho) (aG I.sz h)) (lG _)
theorem Inv.cne(I:Inv X ad σ H s):∀x c,X.env.cells.lookup x=some c->c≠X.env.locals:=fun x c e z=>by
 obtain⟨v,o,ho,hd⟩:=I.cell x c e;obtain⟨m,⟨o',es,ep,iT,iV,_⟩,_⟩:=I.loc;rw[z,iT]at ho;cases ho;rw[iV]at hd;cases hd
theorem Inv.funs(I:Inv X ad σ H s):s.heap.FunFrames X.base X.outer:=by
 have all:∀(l:List Env),(∀b∈frs l,b∈X.fs)->X.s₀.heap.FunFrames X.base l->s.heap.FunFrames X.base l:=by
  intro l;induction l with
  | nil=>intro _ _;trivial
  | cons env r ih=>
   intro hs hl;obtain⟨hk,⟨L,o,hf,hn,ho,hd⟩,hr⟩:=hl;have hL:L∈X.fs:=hs L (by unfold frs;rw[DP,hf];exact bC);obtain⟨sl,e⟩:=I.base.slot L o ho (I.ok.frf L hL) hL fun z=>I.ok.exfs L z hL
   exact⟨hk,⟨L,_,hf,hn,e,hd⟩,ih (fun b hb=>hs b (by unfold frs;rw[DP,hf];exact bG _ hb)) hr⟩
 exact all X.outer (fun _ hb=>hb) I.ok.funs
theorem Inv.stack(I:Inv X ad σ H s):s.heap.FunFrames X.base X.stack:=by
 rcases I.ok.stk with e | ⟨e,hf⟩
 .rw[e];exact I.funs
 .rw[e]
  obtain⟨m,hn,_⟩:=I.loc;refine .cons (by rw[I.ok.kind];decide) hf hn ?_ I.funs;exact aj.get?_none_of_le (aG I.ok.bsz I.ok.above)
theorem Inv.stkSub(I:Inv X ad σ H s):∀b∈frs X.stack,b∈X.env.locals :: X.fs:=fun b hb=>by
 rcases I.ok.stk with e | ⟨e,hf⟩
 .rw[e]at hb;exact bG _ hb
 .rw[e]at hb
  unfold frs at hb;rw[DP,hf]at hb;exact hb
theorem Inv.stkFree(I:Inv X ad σ H s):∀b∈frs X.stack,H b=none:=fun b hb=>by
 rcases a_.mp (I.stkSub b hb) with e | hb
 .rw[e];exact I.free
 .obtain⟨_,o,ho,_⟩:=I.ok.funs.mem hb
  exact I.base.free b o ho (I.ok.frf b hb) fun z=>I.ok.exfs b z hb
theorem Inv.step{g':Array GenState}{t':Nat}{d':Drawn}{ch:List ab}(I:Inv X ad σ H s)
  (dW:∀b∈ch,(b∈X.ex\/X.s₀.heap.objs.size<=b)/\b≠X.env.locals/\(∀x c,X.env.cells.lookup x=some c->c≠b)/\∀p∈X.pn++ad,p.1≠b)
  (keep:∀b o,b≠X.env.locals->b ∉ X.fs->b ∉ ch->s.heap.get? b=some o->(H b=none\/∃xs,H b=some (.tup xs))->h'.get? b=some o)
  (slot:∀b o,b≠X.env.locals->b∈X.fs->b ∉ ch->s.heap.get? b=some o->H b=none->∃sl,h'.get? b=some { o with slots:=sl }) (free:∀b o,b ∉ ch->s.heap.get? b=some o->H b=none->H' b=none)
  (there:∀b o,b ∉ ch->s.heap.get? b=some o->∃o',h'.get? b=some o')
  (tups:∀b xs,H b=some (.tup xs)->H' b=some (.tup xs)) (frzs:∀b o u,H b=some (.frz o u)->H' b=some (.frz o u)) (tbls:∀b ps,H b=some (.tbl ps)->∃more,H' b=some (.tbl (ps++more)))
  (ns:∀m,s.heap.Ns X.env.locals m->h'.Ns X.env.locals m) (hok:HOk X.prog X.w H' h') (hg:iC g') :
  Inv X ad σ H' { s with heap:=h',gens:=g',drawn:=d',toks:=t' }:=by
 have ub:∀b o,X.s₀.heap.get? b=some o->b≠X.env.locals:=fun b o e=>bB (dl (bp e) I.ok.above)
 have nj:∀b o,X.s₀.heap.get? b=some o->b ∉ X.ex->b ∉ ch:=fun b o e hx hb=>by
  rcases (dW b hb).1 with z | z
  .exact hx z
  .exact absurd (dl (bp e) z) (lG _)
 have Cc:∀x c,X.env.cells.lookup x=some c->∀v,s.heap.IsCell c v->h'.IsCell c v:=fun x c e v ⟨o,ho,hd⟩=>by
  have nl:c ∉ ch:=fun z=>(dW c z).2.2.1 x c e rfl
  by_cases hc:c∈X.fs
  .obtain⟨sl,q⟩:=slot c o (I.cne x c e) hc nl ho (I.freeC x c e)
   exact⟨_,q,hd⟩
  .exact⟨o,keep c o (I.cne x c e) hc nl ho (.inl (I.freeC x c e)),hd⟩
 have D4:=I.base.tups
 refine⟨I.ok,I.os,hg,⟨fun b o e n hb hx=>?_,fun b o e n hb hx=>?_,fun b o e n hx=>?_,fun b o e hx=>?_,fun b xs e=>tups b xs (I.base.tups b xs e),fun b o xs e=>frzs b o xs (I.base.frzs b o xs e),fun b ps e=>?_,fun b o xs q e hb hx=>keep b o (ub b o e) hb (nj b o e hx) (I.base.stay b o xs q e hb hx) (.inr ⟨xs,D4 b xs q⟩)⟩,?_,fun x c e=>?_,?_,fun x c e=>?_,fun p hp=>?_,hok,I.len⟩
 .exact keep b o (ub b o e) hb (nj b o e hx) (I.base.keep b o e n hb hx) (.inl (I.base.free b o e n hx))
 .obtain⟨sl,e1⟩:=I.base.slot b o e n hb hx
  obtain⟨tu,e2⟩:=slot b _ (ub b o e) hb (nj b o e hx) e1 (I.base.free b o e n hx)
  exact⟨tu,e2⟩
 .obtain⟨o',e1⟩:=I.base.there b o e hx
  exact free b o' (nj b o e hx) e1 (I.base.free b o e n hx)
 .obtain⟨o',e1⟩:=I.base.there b o e hx
  exact there b o' (nj b o e hx) e1
 .obtain⟨m1,e1⟩:=I.base.tbls b ps e
  obtain⟨m2,e2⟩:=tbls b _ e1
  exact⟨m1++m2,by rw[e2,Array.append_assoc]⟩
 .obtain⟨m,hn,hl⟩:=I.loc
  refine⟨m,ns m hn,fun i x v e1 e2 e3=>?_⟩
  obtain⟨u,r,l⟩:=hl i x v e1 e2 e3
  refine⟨u,r,?_⟩
  rcases l with l | ⟨k,c,e,z⟩
  .exact .inl l
  .exact .inr ⟨k,c,e,Cc x c e _ z⟩
 .obtain⟨v,z⟩:=I.cell x c e
  exact⟨v,Cc x c e v z⟩
 .obtain⟨m,⟨o,_,_,ho,_⟩,_⟩:=I.loc
  exact free _ o (fun z=>(dW _ z).2.1 rfl) ho I.free
 .obtain⟨v,o,ho,hd⟩:=I.cell x c e
  exact free c o (fun z=>(dW c z).2.2.1 x c e rfl) ho (I.freeC x c e)
 .obtain⟨e,n,ne,nf,d⟩:=I.pin p hp
  have nl:p.1 ∉ ch:=fun z=>(dW p.1 z).2.2.2 p hp rfl
  exact⟨keep p.1 p.2 ne nf nl e (.inl n),free p.1 p.2 nl e n,ne,nf,d⟩
theorem Inv.un{t':Nat}(I:Inv X ad σ H s)(u:Un X.fs [] H H' s.heap h')(hok:HOk X.prog X.w H' h'):Inv X ad σ H' { s with heap:=h',toks:=t' }:=by
 obtain⟨m,⟨o,es,ep,ho,r⟩,_⟩:=id I.loc;obtain⟨sl,hL⟩:=u.any ho I.free (by simp);exact I.step (g':=s.gens) (d':=s.drawn) (ch:=[]) (fun _ z=>nomatch z) (fun b o _ hb _ e n=>n.elim (fun n=>u.keep b o e n hb (by simp)) fun⟨xs,n⟩=>u.stay b o xs n e hb (by simp)) (fun b o _ hb _ e n=>u.slot b o e n hb (by simp)) (fun b o _ e n=>u.free b o e n (by simp)) (fun b o _ e=>u.there b o e (by simp)) u.tups u.frzs u.tbls (fun m' hm=>by
  obtain⟨o',fy,pO,iT,r'⟩:=hm;rw[ho]at iT;cases iT;exact⟨_,fy,pO,hL,r'⟩) hok I.bare
theorem Inv.call{g':Array GenState}{t':Nat}{d':Drawn}{ch:List ab}(I:Inv X ad σ H s)(u:Un (frs X.stack) ch H H' s.heap h')(hok:HOk X.prog X.w H' h')(hg:iC g')
  (dW:∀b∈ch,(b∈X.ex\/X.s₀.heap.objs.size<=b)/\b≠X.env.locals/\(∀x c,X.env.cells.lookup x=some c->c≠b)/\∀p∈X.pn++ad,p.1≠b) :
  Inv X ad σ H' { s with heap:=h',gens:=g',drawn:=d',toks:=t' }:=by
 obtain⟨m,⟨o,es,ep,ho,r⟩,_⟩:=id I.loc
 obtain⟨sl,hL⟩:=u.any ho I.free fun z=>(dW _ z).2.1 rfl
 exact I.step (ch:=ch) dW (fun b o hL hb hc e n=>n.elim (fun n=>u.keep b o e n (fun z=>(a_.mp (I.stkSub b z)).elim hL hb) hc) fun⟨xs,n⟩=>u.stay b o xs n e (fun z=>(a_.mp (I.stkSub b z)).elim hL hb) hc) (fun b o _ _ hc e n=>u.any e n hc) (fun b o hc e n=>u.free b o e n hc) (fun b o hc e=>u.there b o e hc) u.tups u.frzs u.tbls (fun m' hm=>by
  obtain⟨o',fy,pO,iT,r'⟩:=hm;rw[ho]at iT;cases iT;exact⟨_,fy,pO,hL,r'⟩) hok hg
theorem Inv.turned{t':Nat}{it:ab}(I:Inv X ad σ H s)(k:∀b o,b≠it->s.heap.get? b=some o->h'.get? b=some o)(hn:H it=none)(hL:it≠X.env.locals)
  (h1:it∈X.ex\/X.s₀.heap.objs.size<=it) (h2:∀x c,X.env.cells.lookup x=some c->c≠it) (h3:∀p∈X.pn++ad,p.1≠it):Inv X ad σ H { s with heap:=h',toks:=t' }:=by
 have Ak:∀b u,H b=some u->b≠it:=fun b u e z=>by rw[z,hn]at e;cases e
 refine I.step (g':=s.gens) (d':=s.drawn) (ch:=[it]) (fun b hb=>?_) (fun b o _ _ hc e _=>k b o (fun z=>hc (by simp[z])) e) (fun b o _ _ hc e _=>⟨o.slots,k b o (fun z=>hc (by simp[z])) e⟩) (fun _ _ _ _ n=>n)
  (fun b o hc e=>⟨o,k b o (fun z=>hc (by simp[z])) e⟩) (fun _ _ e=>e) (fun _ _ _ e=>e) (fun b ps e=>⟨#[],by rw[e];simp⟩) (fun m hm=>?_) (fun b u e=>?_) I.bare
 .have e:b=it:=by simpa using hb
  subst e
  exact⟨h1,hL,h2,h3⟩
 .obtain⟨o,es,ep,ho,r⟩:=hm
  exact⟨o,es,ep,k _ o (cY hL) ho,r⟩
 .refine (I.hok b u e).stay (fun c v hc q=>k c v ?_ q) (fun _ q=>q) fun _ _ q=>q
  rcases hc with z | z
  .rw[z];exact Ak b u e
  .exact Ak c _ z
theorem Inv.tok(I:Inv X ad σ H s)(t:Nat):Inv X ad σ H { s with toks:=t }:=I.un (h':=s.heap) (t':=t) Un.refl I.hok
theorem Inv.kept{t':Nat}(I:Inv X ad σ H s)(k:∀b u,s.heap.get? b=some u->h'.get? b=some u):Inv X ad σ H { s with heap:=h',toks:=t' }:=I.un (Un.kept k) (I.hok.kept k)
theorem Inv.laid{a:ab}{o:HO}{t':Nat}(I:Inv X ad σ H s)(k:∀b u,s.heap.get? b=some u->h'.get? b=some u)(hp:s.heap.objs.size<=a)(new:ObjOk X.prog X.w (upd H a o) h' a o):
  Inv X ad σ (upd H a o) { s with heap:=h',toks:=t' }:=I.un (Un.laid k hp (I.hok.fresh hp)) (I.hok.laid k hp new)
theorem Inv.write{x e:ab}{o:HO}{t':Nat}(I:Inv X ad σ H s)(mu:Mut (H x))(he:e=x\/H e=some (.own x))(k:∀b u,b≠e->s.heap.get? b=some u->h'.get? b=some u)(ml:∃u,h'.get? e=some u)
  (new:ObjOk X.prog X.w (upd H x o) h' x o):Inv X ad σ (upd H x o) { s with heap:=h',toks:=t' }:=I.un (Un.write mu he k ml) (I.hok.write mu he k ml new)
theorem Inv.pins_of{Ab:List (ab×Obj)}(I:Inv X ad σ H s)(h:∀p∈Ab,s.heap.get? p.1=some p.2/\H p.1=none/\p.1≠X.env.locals/\p.1 ∉ X.fs/\∀v,p.2.data≠.cell v):Inv X Ab σ H s:=
 ⟨I.ok,I.os,I.bare,I.base,I.loc,I.cell,I.free,I.freeC,fun p hp=>(bx.mp hp).elim (fun z=>I.pin p (xA _ z)) (h p),I.hok,I.len⟩
theorem jaA{N:List Str}(hN:N.Nodup){i j:Nat}{x:Str}(a:N[i]?=some x)(b:N[j]?=some x):i=j:=by
 obtain⟨h1,e1⟩:=bI.mp a;obtain⟨h2,e2⟩:=bI.mp b;exact (Mi hN).mp (e1.trans e2.symm)
theorem YU{M:Model}{A:aL}{E:ae->af->Prop}{i:Nat}{x:Str}{v:V}{u:ae}{Q:Unit->af->Prop}(I:Inv X ad σ H s)(hN:X.N.Nodup)(hi:X.N[i]?=some x)(hx:Loc X.env.scope x)(r:RelV v u)
  (h:∀s',Inv X ad (σ.set i (some v)) H s'->(∃a,lB a s.heap s'.heap/\(a=X.env.locals\/X.env.cells.lookup x=some a))->Q () s') (hf:X.fn x=true\/X.env.scope.names.lookup x=some .local:=by first | exact .inl rfl | exact .inr rfl | assumption):al M A (storeName X.env x u) Q E s:=by
 obtain⟨m,hn,hl⟩:=id I.loc
 have FR:(X.env.scope.kind == .class || (X.env.scope.kind == .module && X.env.locals != X.env.globals))=false:=by rw[I.ok.kind];rfl
 have Bj:i < σ.length:=by rw[I.len];exact (bI.mp hi).1
 have cne:=I.cne
 have xJ:∀{a:ab} {h':aj},(∃o,s.heap.get? a=some o/\H a=none)->lB a s.heap h'->HOk X.prog X.w H h':=fun {a h'} ha hs b ob e=>by
  obtain⟨_,_,Bl⟩:=ha;refine (I.hok b ob e).stay (fun c w' hc q=>(hs.2 c ?_).trans q) (fun _ q=>q) fun _ _ q=>q
  rintro rfl;rcases hc with rfl | hc
  .rw[Bl]at e;cases e
  .rw[Bl]at hc;cases hc
 rcases hx with hk | hk
 .refine wpAny_storeName_local hk hn (fun h' Fj hs=>?_) FR
  obtain⟨oL,_,_,h_,_⟩:=id hn
  refine h _ ⟨I.ok,I.os,I.bare,⟨fun b o e n hb hx=>?_,fun b o e n hb hx=>?_,I.base.free,fun b o e hx=>?_,I.base.tups,I.base.frzs,I.base.tbls,fun b o xs q e hb hx=>(hs.2 b (bB (dl (bp e) I.ok.above))).trans (I.base.stay b o xs q e hb hx)⟩,⟨_,Fj,fun j y v' e1 e2 e3=>?_⟩,fun y c e=>?_,I.free,I.freeC,fun p hp=>?_,xJ ⟨oL,h_,I.free⟩ hs,by simpa using I.len⟩ ⟨_,hs,.inl rfl⟩
  .exact (hs.2 b (bB (dl (bp e) I.ok.above))).trans (I.base.keep b o e n hb hx)
  .obtain⟨sl,e1⟩:=I.base.slot b o e n hb hx
   exact⟨sl,(hs.2 b (bB (dl (bp e) I.ok.above))).trans e1⟩
  .obtain⟨o',e1⟩:=I.base.there b o e hx
   exact⟨o',(hs.2 b (bB (dl (bp e) I.ok.above))).trans e1⟩
  .by_cases hj:j=i
   .subst hj
    rw[hi]at e1;cases e1
    rw[Ml Bj]at e2
    cases e2
    exact⟨u,r,.inl ⟨hk,by simp⟩⟩
   .rw[Mm (cY hj)]at e2
    obtain⟨u',r',q⟩:=hl j y v' e1 e2 e3
    refine⟨u',r',?_⟩
    rcases q with⟨k,e⟩ | ⟨k,c,e,z⟩
    .refine .inl ⟨k,?_⟩
     have:y≠x:=fun e=>hj (jaA hN e1 (e ▸ hi))
     simp[this,e]
    .exact .inr ⟨k,c,e,z.sameBut hs (cne y c e)⟩
  .obtain⟨w',z⟩:=I.cell y c e
   exact⟨w',z.sameBut hs (cne y c e)⟩
  .obtain⟨e,n,ne,nf,d⟩:=I.pin p hp
   exact⟨(hs.2 p.1 ne).trans e,n,ne,nf,d⟩
 .have pG:X.fn x=true:=by
   rcases hf with z | z
   .exact z
   .rw[z]at hk;cases hk
  obtain⟨c,hc⟩:=I.ok.has x (.inl hk);obtain⟨w',z⟩:=I.cell x c hc;refine wpAny_storeName_cell I.ok.kind hk hc z (fun h' cK hs=>?_);obtain⟨oc,AY,Fg⟩:=id z;refine h { s with heap:=h' } ⟨I.ok,I.os,I.bare,⟨fun b o e n hb hx=>?_,fun b o e n hb hx=>?_,I.base.free,fun b o e hx=>?_,I.base.tups,I.base.frzs,I.base.tbls,fun b o xs q e hb hx=>(hs.2 b (bB (dl (bp e) (I.ok.cab x c pG hc)))).trans (I.base.stay b o xs q e hb hx)⟩,⟨m,hn.sameBut hs (cY (cne x c hc)),fun j y v' e1 e2 e3=>?_⟩,fun y c' e=>?_,I.free,I.freeC,fun p hp=>?_,xJ ⟨oc,AY,I.freeC x c hc⟩ hs,by simpa using I.len⟩ ⟨c,hs,.inr hc⟩
  .exact (hs.2 b (bB (dl (bp e) (I.ok.cab x c pG hc)))).trans (I.base.keep b o e n hb hx)
  .obtain⟨sl,e1⟩:=I.base.slot b o e n hb hx
   exact⟨sl,(hs.2 b (bB (dl (bp e) (I.ok.cab x c pG hc)))).trans e1⟩
  .obtain⟨o',e1⟩:=I.base.there b o e hx
   exact⟨o',(hs.2 b (bB (dl (bp e) (I.ok.cab x c pG hc)))).trans e1⟩
  .by_cases hj:j=i
   .subst hj
    rw[hi]at e1;cases e1;rw[Ml Bj]at e2
    cases e2
    exact⟨u,r,.inr ⟨.inl hk,c,hc,cK⟩⟩
   .rw[Mm (cY hj)]at e2
    obtain⟨u',r',q⟩:=hl j y v' e1 e2 e3;refine⟨u',r',?_⟩;rcases q with q | ⟨k,c',e,z'⟩
    .exact .inl q
    .refine .inr ⟨k,c',e,z'.sameBut hs ?_⟩
     rintro rfl;exact hj (jaA hN e1 (I.ok.inj _ _ _ e hc ▸ hi))
  .by_cases hcc:c'=c
   .subst hcc;exact⟨_,cK⟩
   .obtain⟨w2,z2⟩:=I.cell y c' e
    exact⟨w2,z2.sameBut hs hcc⟩
  .obtain⟨e,n,ne,nf,d⟩:=I.pin p hp
   refine⟨(hs.2 p.1 ?_).trans e,n,ne,nf,d⟩;intro q;rw[q,AY]at e;have q':oc=p.2:=cN e;exact d w' (by rw[<- q'];exact Fg)
theorem Jx{M:Model}{A:aL}{E:ae->af->Prop}{i:Nat}{x:Str}{v:V}{u:ae}{Q:Unit->af->Prop}(I:Inv X ad σ H s)(hN:X.N.Nodup)(hi:X.N[i]?=some x)(hx:Loc X.env.scope x)(r:RelV v u)
  (h:∀s',Inv X ad (σ.set i (some v)) H s'->Q () s') (hf:X.fn x=true\/X.env.scope.names.lookup x=some .local:=by first | exact .inl rfl | exact .inr rfl | assumption):al M A (storeName X.env x u) Q E s:=
 YU I hN hi hx r (fun s' I' _=>h s' I') hf
theorem Inv.call'{s':af}{ch:List ab}(I:Inv X ad σ H s)(ho:s'.os=s.os)(u:Un (frs X.stack) ch H H' s.heap s'.heap)(hok:HOk X.prog X.w H' s'.heap)(hg:iC s'.gens)
  (dW:∀b∈ch,(b∈X.ex\/X.s₀.heap.objs.size<=b)/\b≠X.env.locals/\(∀x c,X.env.cells.lookup x=some c->c≠b)/\∀p∈X.pn++ad,p.1≠b):Inv X ad σ H' s':=by
 obtain⟨h',g',d',t',o'⟩:=s'
 have e:o'=s.os:=ho
 subst e
 exact I.call (g':=g') (t':=t') (d':=d') u hok hg dW
end
abbrev XK:=ae->Option ab->Hp->Prop
abbrev St:=List (Option V)
abbrev VK:=V->Hp->Prop
abbrev TE:=St->Hp->VK->Prop
abbrev TT:=St->Hp->(Bool->Hp->Prop)->Prop
abbrev TA:=St->Hp->(List V->Hp->Prop)->Prop
structure Ends where
 nx:St->Hp->Prop
 rt:VK
 bk:St->Hp->Prop:=fun _ _=>False
 ct:St->Hp->Prop:=fun _ _=>False
abbrev TS:=Ends->St->Hp->Prop
def EP(X:Cx)(ad:List (ab×Obj))(σ:St)(Q:VK)(u:ae)(s':af):Prop:=∃v H',Inv X ad σ H' s'/\RelV v u/\Q v H'
def TP(X:Cx)(ad:List (ab×Obj))(σ:St)(Q:Bool->Hp->Prop)(b:Bool)(s':af):Prop:=∃H',Inv X ad σ H' s'/\Q b H'
def AP(X:Cx)(ad:List (ab×Obj))(σ:St)(Q:List V->Hp->Prop)(us:List ae)(s':af):Prop:=∃vs H',Inv X ad σ H' s'/\Vals vs us/\Q vs H'
def SP(X:Cx)(ad:List (ab×Obj))(D:Ends)(f:Flow)(s':af):Prop:=
 match f with
 | .next=>∃σ' H',Inv X ad σ' H' s'/\D.nx σ' H'
 | .brk=>∃σ' H',Inv X ad σ' H' s'/\D.bk σ' H'
 | .cont=>∃σ' H',Inv X ad σ' H' s'/\D.ct σ' H'
 | .ret u=>∃v σ' H',Inv X ad σ' H' s'/\RelV v u/\D.rt v H'
def PE(X:Cx)(e:ag)(t:TE):Prop:=
 ∀(ad:List (ab×Obj)) (s:af) (σ:St) (H:Hp) (Q:VK),Inv X ad σ H s->t σ H Q->al (ai X.prog X.w) X.A (eval e X.env) (EP X ad σ Q) X.xe s
def PT(X:Cx)(e:ag)(t:TT):Prop:=
 ∀(ad:List (ab×Obj)) (s:af) (σ:St) (H:Hp) (Q:Bool->Hp->Prop),Inv X ad σ H s->t σ H Q->al (ai X.prog X.w) X.A (isTrue e X.env (eval e X.env)) (TP X ad σ Q) X.xe s
def PW(X:Cx)(e:ag)(t:TT):Prop:=
 ∀(eC:Sem ae) (ad:List (ab×Obj)) (s:af) (σ:St) (H:Hp) (Q:Bool->Hp->Prop),Inv X ad σ H s->t σ H Q->al (ai X.prog X.w) X.A (isTrue e X.env eC) (TP X ad σ Q) X.xe s
theorem PW.pt{X:Cx}{e:ag}{t:TT}(h:PW X e t):PT X e t:=h _
def PA(X:Cx)(es:List ag)(t:TA):Prop:=
 ∀(pos:Pos) (ad:List (ab×Obj)) (s:af) (σ:St) (H:Hp) (Q:List V->Hp->Prop),Inv X ad σ H s->t σ H Q->al (ai X.prog X.w) X.A (spliced (eO pos (bO es X.env))) (AP X ad σ Q) X.xe s
def PS(X:Cx)(st:aA)(t:TS):Prop:=
 ∀(ad:List (ab×Obj)) (s:af) (σ:St) (H:Hp) (D:Ends),Inv X ad σ H s->t D σ H->al (ai X.prog X.w) X.A (exec st X.env) (SP X ad D) X.xe s
def PSs(X:Cx)(st:List aA)(t:TS):Prop:=
 ∀(ad:List (ab×Obj)) (s:af) (σ:St) (H:Hp) (D:Ends),Inv X ad σ H s->t D σ H->al (ai X.prog X.w) X.A (execs st X.env) (SP X ad D) X.xe s
theorem thn{α:Type}{t:Sem α}{Q Q':α->af->Prop}{M:Model}{A:aL}{E:ae->af->Prop}{s:af}(h:al M A t Q E s)(hQ:∀a s,Q a s->Q' a s):al M A t Q' E s:=cb h hQ fun _ _ x=>x
section
variable {X:Cx}
theorem bin{a b:ag}{ta tb:TE}(ha:PE X a ta)(hb:PE X b tb){ad:List (ab×Obj)}{s:af}{σ:St}{H:Hp}{R:V->V->Hp->Prop}(I:Inv X ad σ H s)(h:ta σ H fun x H1=>tb σ H1 fun y H2=>R x y H2)
  {α:Type} {Q:α->af->Prop} {f:ae->ae->Sem α}
  (hf:∀v u s2 x y H2,Inv X ad σ H2 s2->RelV x v->RelV y u->R x y H2->al (ai X.prog X.w) X.A (f v u) Q X.xe s2) :
  al (ai X.prog X.w) X.A (eval a X.env) (fun v s₁=>al (ai X.prog X.w) X.A (eval b X.env) (fun u s₂=>al (ai X.prog X.w) X.A (f v u) Q X.xe s₂) X.xe s₁) X.xe s:=by
 refine thn (ha ad s σ H _ I h) fun v s1 ⟨x,H1,I1,r1,q1⟩=>?_
 refine thn (hb ad s1 σ H1 _ I1 q1) fun u s2 ⟨y,H2,I2,r2,q2⟩=>?_
 exact hf v u s2 x y H2 I2 r1 r2 q2
def jcS(i:Nat):TE:=fun σ H Q=>∃v,σ[i]?=some (some v)/\Q v H
def tC(v:V):TE:=fun _ H Q=>Q v H
theorem jev{i:Nat}{x:Str}{pos:Pos}(hN:X.N[i]?=some x)(hv:Vis X.env.scope x)(hd:(x == ("__debug__" : Str))=false:=by decide)(eL:(x == ("__classdict__" : Str))=false:=by decide):PE X (.Name x pos) (jcS i):=by
 intro ad s σ H Q I h;obtain⟨v,e,h⟩:=h;obtain⟨m,hn,hl⟩:=I.loc;obtain⟨u,r,l⟩:=hl i x v hN e hv;have fin:EP X ad σ Q u s:=⟨v,H,I,r,h⟩
 rcases l with⟨hk,hm⟩ | ⟨hk,c,hc,Bt⟩
 .exact Cr (wpAny_loadName_local I.ok.kind hk hn hm fin) hd
 .rcases hk with hk | hk
  .exact Cr (wpAny_loadName_cell I.ok.kind hk hc Bt fin) hd
  .exact Cr (wpAny_loadName_free I.ok.kind hk hc Bt fin eL) hd
theorem jeA{i j pos}:PE X (.Constant (.int i) j pos) (tC (.int i)):=fun _ _ _ H _ I h=>wpAny_Constant_int ⟨.int i,H,I.tok _,⟨_,rfl⟩,h⟩
theorem jiS{b j pos}:PE X (.Constant (.bool b) j pos) (tC (.bl b)):=fun _ _ _ H _ I h=>Constant_bool ⟨.bl b,H,I,rfl,h⟩
theorem jex{x j pos}:PE X (.Constant (.str x) j pos) (tC (.str x)):=fun _ _ _ H _ I h=>Calls.Constant_str ⟨.str x,H,I.tok _,⟨_,rfl⟩,h⟩
def Gl(X:Cx)(x:Str):Prop:=X.env.kindOf x=some .globalImplicit
theorem ZM{E:ae->af->Prop}{ad:List (ab×Obj)}{s:af}{σ:St}{H:Hp}{x:Str}{u:ae}{pos:Pos}{Q:ae->af->Prop}(I:Inv X ad σ H s)(hg:Gl X x)(hm:X.mg x=some u)(h:Q u s)
  (hd:(x == ("__debug__" : Str))=false:=by decide):al (ai X.prog X.w) X.A (eval (.Name x pos) X.env) Q E s:=
 Lo I.ok.kind hg (Calls.loadGlobal_global (by rw[I.ok.glob];exact I.mod.glob.keeps I.bk) hm h) hd
theorem Yo{E:ae->af->Prop}{ad:List (ab×Obj)}{s:af}{σ:St}{H:Hp}{x:Str}{u:ae}{pos:Pos}{Q:ae->af->Prop}(I:Inv X ad σ H s)(hg:Gl X x)(hm:X.mg x=none)(hv:cW x=some u)(h:Q u s)
  (hn:x≠"__name__":=by decide) (hd:(x == ("__debug__" : Str))=false:=by decide):al (ai X.prog X.w) X.A (eval (.Name x pos) X.env) Q E s:=by
 obtain⟨mb,h1,h2⟩:=I.mod.blt
 exact Lo I.ok.kind hg (Calls.loadGlobal_builtin (by rw[I.ok.glob];exact I.mod.glob.keeps I.bk) hm (by rw[I.ok.blt];exact h1.keeps I.bk) ((h2 x hn).trans hv) h) hd
theorem jgc{x:Str}{v:V}{u:ae}{pos:Pos}(hg:Gl X x)(hm:X.mg x=some u)(r:RelV v u)(hd:(x == ("__debug__" : Str))=false:=by decide):PE X (.Name x pos) (tC v):=
 fun _ _ _ H _ I h=>ZM I hg hm ⟨v,H,I,r,h⟩ hd
theorem jgj{x:Str}{v:V}{u:ae}{pos:Pos}(hg:Gl X x)(hm:X.mg x=none)(hv:cW x=some u)(r:RelV v u)(hn:x≠"__name__":=by decide)(hd:(x == ("__debug__" : Str))=false:=by decide):PE X (.Name x pos) (tC v):=
 fun _ _ _ H _ I h=>Yo I hg hm hv ⟨v,H,I,r,h⟩ hn hd
variable {a b:ag}{ta tb:TE}{pos:Pos}
def PC(X:Cx)(op:CmpOp)(a b:ag)(t:TE):Prop:=
 ∀(ad:List (ab×Obj)) (s:af) (σ:St) (H:Hp) (Q:VK),Inv X ad σ H s->t σ H Q->
  al (ai X.prog X.w) X.A (eval a X.env) (fun v s₁=>al (ai X.prog X.w) X.A (eval b X.env) (fun u s₂=>al (ai X.prog X.w) X.A (dw op v u) (EP X ad σ Q) X.xe s₂) X.xe s₁) X.xe s
theorem je0(b:ag){op:CmpOp}(h:op≠.In)(h2:op≠.NotIn):gN op b=false:=by
 have e1:(op == CmpOp.In)=false:=by cases op <;> first | rfl | exact absurd rfl h
 have e2:(op == CmpOp.NotIn)=false:=by cases op <;> first | rfl | exact absurd rfl h2
 cases b <;> simp[gN,e1,e2]
def tB(t:TE):TT:=fun σ H Q=>t σ H fun x H1=>∃c,x=.bl c/\Q c H1
theorem jhL{op:CmpOp}{t:TE}(h:PC X op a b t)(h1:gN op b=false:=by first | exact je0 _ (by decide) (by decide) | rfl):PT X (.Compare a [op] [b] pos) (tB t):=by
 intro ad s σ H Q I hw;refine Hw (thn (h ad s σ H _ I hw) fun v s1 h1=>thn h1 fun u s2 h2=>thn h2 fun c s3 ⟨x,H1,I1,r1,q1⟩=>?_) h1;obtain⟨d,rfl,q⟩:=q1
 cases r1
 exact rX ⟨H1,I1,q⟩
theorem jhJ{e:ag}{t:TE}(h:PE X e t)(he:∀eC,isTrue e X.env eC=(do let v <- eC;fW e.pos;holding [v] (truthy v)):=by intro _;rfl):PT X e (tB t):=by
 intro ad s σ H Q I hw;refine isTrue_plain (thn (h ad s σ H _ I hw) fun v s1 ⟨x,H1,I1,r1,q1⟩=>?_) (he _);obtain⟨d,rfl,q⟩:=q1
 cases r1
 exact rX ⟨H1,I1,q⟩
variable {tA mQ:TT}{yB:List ag}
def tOr(t u:TT):TT:=fun σ H Q=>t σ H fun c H1=>if c=true then Q true H1 else u σ H1 Q
def jiz(t:TT):TT:=fun σ H Q=>t σ H fun c H1=>Q (!c) H1
theorem jhG(ha:PT X a tA):PW X (.BoolOp .Or [a] pos) tA:=by
 intro wh ad s σ H Q I h;refine isTrue_or (thn (ha ad s σ H Q I h) fun c s1 e=>?_)
 cases c with
 | false=>exact isTrue_or_nil e
 | true=>exact e
theorem jiJ(ha:PT X a tA)(hb:PW X (.BoolOp .Or (b :: yB) pos) mQ):PW X (.BoolOp .Or (a :: b :: yB) pos) (tOr tA mQ):=by
 intro wh ad s σ H Q I h;refine isTrue_or (thn (ha ad s σ H _ I h) fun c s1 ⟨H1,I1,q1⟩=>?_)
 cases c with
 | true=>exact⟨H1,I1,q1⟩
 | false=>exact hb wh ad s1 σ H1 Q I1 q1
theorem jhK(ha:PT X a tA):PT X (.UnaryOp .Not a pos) (jiz tA):=by
 intro ad s σ H Q I h;exact isTrue_not (ha ad s σ H (fun c H1=>Q (!c) H1) I h)
end
def SqL(K:aq)(H:Hp)(a:ab)(xs:List V):Prop:=
 Rd H a (.lst xs)\/
  ∃(o:Obj) (its:Array ae) (n:Nat),K.lookup a=some o/\o.cls=.type "list"/\o.dict=none/\o.data=.seq its n/\its.size<=aE/\Vals xs its.toList
def SqT(K:aq)(H:Hp)(a:ab)(xs:List V):Prop:=
 Rd H a (.tup xs)\/
  ∃(o:Obj) (its:Array ae) (n:Nat),K.lookup a=some o/\o.cls=.type "tuple"/\o.data=.seq its n/\its.size<=aE/\Vals xs its.toList
def jjv:ae->Option V
 | .none=>some .non
 | .bool b=>some (.bl b)
 | .int i _=>some (.int i)
 | .str x _=>some (.str x)
 | .bytes b _=>some (.byt b)
 | .float b _=>some (.flt b)
 | .ref a=>some (.ref a)
 | .type n=>some (.ty n)
 | _=>none
theorem RelV.abs{x:V}{u:ae}(r:RelV x u):jjv u=some x:=by
 cases x with
 | non=>cases r;rfl
 | bl _=>cases r;rfl
 | int _=>obtain⟨t,rfl⟩:=r;rfl
 | str _=>obtain⟨t,rfl⟩:=r;rfl
 | byt _=>obtain⟨t,rfl⟩:=r;rfl
 | flt _=>obtain⟨t,rfl⟩:=r;rfl
 | ref _=>cases r;rfl
 | ty _=>cases r;rfl
theorem RelV.inj{x y:V}{u:ae}(r:RelV x u)(q:RelV y u):x=y:=cN (r.abs.symm.trans q.abs)
theorem Vals.inj:∀{xs ys:List V} {us:List ae},Vals xs us->Vals ys us->xs=ys
 | _,_,_,.nil,.nil=>rfl
 | _,_,_,.cons r t,.cons r' t'=>by rw[r.inj r',Vals.inj t t']
section
variable {X:Cx}{ad:List (ab×Obj)}{σ:St}{H:Hp}{s:af}{a:ab}{xs ys:List V}
theorem SqL.of{K:aq}(h:H a=some (.lst xs)):SqL K H a xs:=.inl (.inl h)
theorem SqT.of{K:aq}(h:H a=some (.tup xs)):SqT K H a xs:=.inl (.inl h)
theorem Inv.list(I:Inv X ad σ H s)(h:SqL X.K H a xs):∃its:List ae,Vals xs its/\PlainL s.heap a its.toArray/\xs.length<=aE:=by
 rcases h with h | ⟨o,its,n,hk,hc,hd,hs,hz,r⟩
 .obtain⟨z,its,n,r,e⟩:=h.ok I.hok
  exact⟨its,r,⟨_,n,e,rfl,rfl,rfl⟩,z⟩
 .refine⟨its.toList,r,⟨o,n,I.kIn a o hk,hc,hd,by simpa using hs⟩,?_⟩
  have e:=r.length;simp only[dA]at e;omega
theorem Inv.tuple(I:Inv X ad σ H s)(h:SqT X.K H a xs):∃its:List ae,Vals xs its/\IsTup s.heap a its.toArray/\xs.length<=aE:=by
 rcases h with h | ⟨o,its,n,hk,hc,hs,hz,r⟩
 .obtain⟨z,its,r,p⟩:=h.ok I.hok
  exact⟨its,r,p,z⟩
 .refine⟨its.toList,r,⟨o,I.kIn a o hk,hc,n,by simpa using hs⟩,?_⟩
  have e:=r.length;simp only[dA]at e;omega
theorem Inv.list_inj(I:Inv X ad σ H s)(h:SqL X.K H a xs)(h':SqL X.K H a ys):xs=ys:=by
 obtain⟨its,r,⟨o,n,e,_,_,d⟩,_⟩:=I.list h;obtain⟨its',r',⟨o',n',e',_,_,d'⟩,_⟩:=I.list h';rw[e]at e';cases e';rw[d]at d';injection d' with d1 _;have:its=its':=by simpa using MW Array.toList d1
 subst this;exact r.inj r'
end
abbrev Cx.wish(X:Cx)(E:ae->af->Prop):Cx:={ X with xe:=E }
abbrev Cx.nox(X:Cx):Cx:=X.wish fun _ _=>False
theorem Cx.Ok.wish{X:Cx}(ok:X.Ok)(E:ae->af->Prop):(X.wish E).Ok:=
 ⟨ok.mod,ok.kind,ok.glob,ok.blt,ok.above,ok.inj,ok.has,ok.cab,ok.hd,ok.frames,ok.stk,ok.exf,ok.bs,ok.bsz,ok.noex,ok.exfs,ok.funs,ok.frf⟩
theorem Cx.Ok.unwish{X:Cx}{E:ae->af->Prop}(ok:(X.wish E).Ok):X.Ok:=
 ⟨ok.mod,ok.kind,ok.glob,ok.blt,ok.above,ok.inj,ok.has,ok.cab,ok.hd,ok.frames,ok.stk,ok.exf,ok.bs,ok.bsz,ok.noex,ok.exfs,ok.funs,ok.frf⟩
section
variable {X:Cx}{ad:List (ab×Obj)}{σ:St}{H:Hp}{s:af}{E:ae->af->Prop}
theorem Inv.wish(I:Inv X ad σ H s)(E:ae->af->Prop):Inv (X.wish E) ad σ H s:=⟨I.ok.wish E,I.os,I.bare,I.base,I.loc,I.cell,I.free,I.freeC,I.pin,I.hok,I.len⟩
theorem Inv.unwish(I:Inv (X.wish E) ad σ H s):Inv X ad σ H s:=⟨I.ok.unwish,I.os,I.bare,I.base,I.loc,I.cell,I.free,I.freeC,I.pin,I.hok,I.len⟩
theorem SP.unwish{D:Ends}{f:Flow}{s':af}(h:SP (X.wish E) ad D f s'):SP X ad D f s':=by
 cases f with
 | next=>obtain⟨σ',H',I,q⟩:=h;exact⟨σ',H',I.unwish,q⟩
 | brk=>obtain⟨σ',H',I,q⟩:=h;exact⟨σ',H',I.unwish,q⟩
 | cont=>obtain⟨σ',H',I,q⟩:=h;exact⟨σ',H',I.unwish,q⟩
 | ret u=>obtain⟨v,σ',H',I,r,q⟩:=h;exact⟨v,σ',H',I.unwish,r,q⟩
theorem PSs.nox{st:List aA}{t:TS}(h:PSs X.nox st t):PSs X st t:=fun ad s σ H D I hw=>
 cb (h ad s σ H D (I.wish _) hw) (fun _ _ q=>q.unwish) fun _ _ z=>fg z
end
section
variable {X:Cx}{st:aA}{yB:List aA}{t u:TS}{e:ag}{te:TE}{pos:Pos}
def jha:TS:=fun D σ H=>D.nx σ H
def jV(t u:TS):TS:=fun D σ H=>t { D with nx:=u D } σ H
theorem jfY:PSs X [] jha:=fun _ _ σ H _ I h=>Co ⟨σ,H,I,h⟩
theorem jeo(h1:PS X st t)(h2:PSs X yB u):PSs X (st :: yB) (jV t u):=by
 intro ad s σ H D I h;refine Hx (thn (h1 ad s σ H { D with nx:=u D } I h) fun f s1 q=>?_)
 cases f with
 | next=>
  obtain⟨σ',H',I',q⟩:=q;exact h2 ad s1 σ' H' D I' q
 | ret v=>exact q
 | brk=>exact q
 | cont=>exact q
theorem jfX(h1:PS X st t):PSs X [st] t:=by
 intro ad s σ H D I h;refine Hx (thn (h1 ad s σ H D I h) fun f s1 q=>?_)
 cases f with
 | next=>exact Co q
 | ret v=>exact q
 | brk=>exact q
 | cont=>exact q
theorem Inv.quiet{ad:List (ab×Obj)}{σ:St}{H:Hp}{s:af}(I:Inv X ad σ H s):interactive X.env=false:=by simp[interactive,I.ok.kind]
def jdW(te:TE):TS:=fun D σ H=>te σ H fun _ H1=>D.nx σ H1
theorem jf2(he:PE X e te)(hs:gL e none pos.line X.env=pure false:=by rfl):PS X (.Expr e pos) (jdW te):=by
 intro ad s σ H D I h;exact wpAny_Expr_any (thn (he ad s σ H _ I h) fun v s1 ⟨x,H1,I1,r1,q1⟩=>⟨σ,H1,I1,q1⟩) I.quiet hs
def jhy(te:TE):TS:=fun D σ H=>te σ H D.rt
theorem jhN(he:PE X e te):PS X (.Return (some e) pos) (jhy te):=by
 intro ad s σ H D I h;exact wpAny_Return_some (thn (he ad s σ H _ I h) fun v s1 ⟨x,H1,I1,r1,q1⟩=>⟨x,σ,H1,I1,r1,q1⟩)
def jg8:TS:=fun D _ H=>D.rt .non H
theorem jf0:PS X (.Return none pos) jg8:=fun _ _ σ H _ I h=>wpAny_Return_none ⟨.non,σ,H,I,rfl,h⟩
def jiB(c:TT)(t u:TS):TS:=fun D σ H=>c σ H fun b H1=>if b=true then t D σ H1 else u D σ H1
theorem jiK{c:ag}{a b:List aA}{tc:TT}(hc:PT X c tc)(ha:PSs X a t)(hb:PSs X b u):PS X (.If c a b pos) (jiB tc t u):=by
 intro ad s σ H D I h;refine wpAny_If (thn (hc ad s σ H _ I h) fun d s1 ⟨H1,I1,q1⟩=>?_)
 cases d with
 | true=>exact ha ad s1 σ H1 D I1 q1
 | false=>exact hb ad s1 σ H1 D I1 q1
end
abbrev TG:=V->St->Hp->(St->Hp->Prop)->Prop
abbrev TGs:=List V->St->Hp->(St->Hp->Prop)->Prop
def PG(X:Cx)(target:ag)(t:TG):Prop:=
 ∀(ad:List (ab×Obj)) (s:af) (σ:St) (H:Hp) (v:V) (u:ae) (Q:St->Hp->Prop),Inv X ad σ H s->RelV v u->t v σ H Q->
  al (ai X.prog X.w) X.A (assign target X.env u) (fun _ s'=>∃σ' H',Inv X ad σ' H' s'/\Q σ' H') X.xe s
def PGs(X:Cx)(ts:List ag)(t:TGs):Prop:=
 ∀(ad:List (ab×Obj)) (s:af) (σ:St) (H:Hp) (vs:List V) (us:List ae) (Q:St->Hp->Prop),Inv X ad σ H s->Vals vs us->t vs σ H Q->
  al (ai X.prog X.w) X.A (CL ((fY ts X.env).map (·.2)) us) (fun _ s'=>∃σ' H',Inv X ad σ' H' s'/\Q σ' H') X.xe s
abbrev jg1:=V->V->V->Hp->(Hp->Prop)->Prop
def jio(X:Cx)(t:jg1):Prop:=
 ∀(ad:List (ab×Obj)) (s:af) (σ:St) (H:Hp) (o i v:V) (ov iv u:ae) (Q:Hp->Prop),Inv X ad σ H s->RelV o ov->RelV i iv->RelV v u->t o i v H Q->
  al (ai X.prog X.w) X.A (wR ov iv u) (fun _ s'=>∃H',Inv X ad σ H' s'/\Q H') X.xe s
section
variable {X:Cx}{pos:Pos}
def qm(i:Nat):TG:=fun v σ H Q=>Q (σ.set i (some v)) H
theorem jgb{i:Nat}{x:Str}(hN:X.N.Nodup)(hi:X.N[i]?=some x)(hx:Loc X.env.scope x)(hf:X.fn x=true\/X.env.scope.names.lookup x=some .local:=by first | exact .inl rfl | exact .inr rfl | assumption):PG X (.Name x pos) (qm i):=by
 intro ad s σ H v u Q I r h;exact HH (Jx I hN hi hx r (fun s' I'=>⟨_,H,I',h⟩) hf)
def ji8:TGs:=fun vs σ H Q=>vs=[]/\Q σ H
def jhq(t:TG)(u:TGs):TGs:=fun vs σ H Q=>∃v r,vs=v :: r/\t v σ H fun σ' H'=>u r σ' H' Q
theorem jga:PGs X [] ji8:=by
 intro ad s σ H vs us Q I r h;obtain⟨e,h⟩:=h;subst e
 cases r
 exact LJ ⟨σ,H,I,h⟩
theorem jeu{e:ag}{es:List ag}{t:TG}{u:TGs}(h1:PG X e t)(h2:PGs X es u)
  (hs:(fY (e :: es) X.env).map (·.2)=assign e X.env :: (fY es X.env).map (·.2):=by rfl):PGs X (e :: es) (jhq t u):=by
 intro ad s σ H vs us Q I r h
 obtain⟨v,vr,e1,h⟩:=h
 subst e1
 cases r with
 | cons r rr=>
  rw[hs]
  refine Dm (thn (h1 ad s σ H _ _ _ I r h) fun _ s1 ⟨σ1,H1,I1,q1⟩=>?_)
  exact h2 ad s1 σ1 H1 _ _ Q I1 rr q1
def ji6(K:aq)(n:Nat)(t:TGs):TG:=fun v σ H Q=>∃a xs,v=.ref a/\SqT K H a xs/\xs.length=n/\t xs σ H Q
theorem jhS{es:List ag}{k:Nat}{t:TGs}{n:Nat}(hc:X.calm=true)(h:PGs X es t)
  (hn:(fY es X.env).length=n:=by rfl) (EY:(fY es X.env).findIdx? (·.1)=none:=by rfl):PG X (.Tuple es k pos) (ji6 X.K n t):=by
 intro ad s σ H v u Q I r hw
 obtain⟨a,xs,e1,hq,hl,hw⟩:=hw
 subst e1
 cases r
 obtain⟨its,rv,ht,hz⟩:=I.tuple hq
 refine assign_Tuple_tuple (I.ok.hd hc) ht (by simp[hn,<- hl,rv.length]) EY fun h' hx=>?_
 have I1:Inv X ad σ H { s with heap:=h' }:=I.kept (t':=s.toks) fun b o e=>hx b o (bB (bp e)) e
 exact h ad _ σ H xs _ Q I1 (by simpa using rv) hw
def ji7(to ti:TE)(t:jg1):TG:=fun v σ H Q=>to σ H fun o H1=>ti σ H1 fun i H2=>t o i v H2 fun H3=>Q σ H3
theorem jhT{o i:ag}{to ti:TE}{t:jg1}(ho:PE X o to)(hi:PE X i ti)(hs:jio X t)
  (ha:∀v,assign (.Subscript o i pos) X.env v=(do
   let ov <- holding [v] (eval o X.env)
   let iv <- holding [v,ov] (eval i X.env)
   fW pos
   holding [v,ov,iv] (wR ov iv v)
   release [v,ov,iv] []):=by intro _;rfl):PG X (.Subscript o i pos) (ji7 to ti t):=by
 intro ad s σ H v u Q I r h
 rw[ha]
 refine ar (ix (thn (ho ad s σ H _ I h) fun ov s1 ⟨x,H1,I1,r1,q1⟩=>?_))
 refine ar (ix (thn (hi ad s1 σ H1 _ I1 q1) fun iv s2 ⟨y,H2,I2,r2,q2⟩=>?_))
 refine ar (ir (ar (ix (thn (hs ad s2 σ H2 x y v ov iv u _ I2 r1 r2 r q2) fun _ s3 ⟨H3,I3,q3⟩=>?_))))
 exact wpAny_release ⟨σ,H3,I3,q3⟩
def Zr(te:TE)(g:TG):TS:=fun D σ H=>te σ H fun x H1=>g x σ H1 D.nx
theorem jhR{tg e:ag}{te:TE}{g:TG}(he:PE X e te)(hg:PG X tg g)(hs:wP [tg] e pos.line X.env=pure false:=by rfl)(hw:wQ [tg] e X.env=pure none:=by rfl)
  (h1:(fY [tg] X.env).map (·.2)=[assign tg X.env]:=by rfl):PS X (.Assign [tg] e pos) (Zr te g):=by
 intro ad s σ H D I h
 refine wpAny_Assign_stores (thn (he ad s σ H _ I h) fun v s1 ⟨x,H1,I1,r1,q1⟩=>?_) hs hw
 rw[h1]
 exact thn (hg ad s1 σ H1 x v _ I1 r1 q1) fun _ s2 q=>q
theorem jhM{i:Nat}{x:Str}{e:ag}{te:TE}{c9:Pos}(hN:X.N.Nodup)(hi:X.N[i]?=some x)(hx:Loc X.env.scope x)(he:PE X e te)(hs:gL e (some (.Name x c9)) pos.line X.env=pure false:=by rfl)(hf:X.fn x=true\/X.env.scope.names.lookup x=some .local:=by first | exact .inl rfl | exact .inr rfl | assumption):
  PS X (.Assign [.Name x c9] e pos) (Zr te (qm i)):=by
 intro ad s σ H D I h
 refine wpAny_Assign_Name (thn (he ad s σ H _ I h) fun v s1 ⟨y,H1,I1,r1,q1⟩=>?_) hs
 exact Jx I1 hN hi hx r1 (fun s2 I2=>⟨_,H1,I2,q1⟩) hf
def jiy(i j:Nat)(ta:TA):TS:=fun D σ H=>ta σ H fun vs H1=>∃v w,vs=[v,w]/\D.nx ((σ.set i (some v)).set j (some w)) H1
theorem jhO{i j:Nat}{x y:Str}{a b:ag}{ta:TA}{px py pt:Pos}{kt k2 pt2}(hc:X.calm=true)(hN:X.N.Nodup)(hi:X.N[i]?=some x)(hj:X.N[j]?=some y)(cS:i≠j)
  (hx:X.env.scope.names.lookup x=some .local) (hy:X.env.scope.names.lookup y=some .local) (ha:PA X [a,b] ta)
  (hw:wQ [.Tuple [.Name x px,.Name y py] kt pt] (.Tuple [a,b] k2 pt2) X.env=pure (some [x,y]))
  (hs:wP [.Tuple [.Name x px,.Name y py] kt pt] (.Tuple [a,b] k2 pt2) pos.line X.env=pure false:=by rfl) :
  PS X (.Assign [.Tuple [.Name x px,.Name y py] kt pt] (.Tuple [a,b] k2 pt2) pos) (jiy i j ta):=by
 intro ad s σ H D I h
 rw[exec_Assign_arm]
 refine ar (ir ?_)
 rw[hs]
 refine ar (aN ?_)
 rw[MT (by decide)]
 refine ar (Tuple_ (thn (ha _ ad s σ H _ I h) fun us s1 ⟨vs,H1,I1,r1,q1⟩=>?_))
 obtain⟨v,w,e1,q1⟩:=q1
 subst e1
 obtain⟨u1,u2,rfl,rv,c6⟩:∃u1 u2,us=[u1,u2]/\RelV v u1/\RelV w u2:=by
  cases r1 with
  | cons p q=>
   cases q with
   | cons p' q'=>
    cases q'
    exact⟨_,_,rfl,p,p'⟩
 refine iw ?_ (by show 2<=aE;decide)
 have I2:Inv X ad σ H1 { s1 with heap:=s1.heap.push { cls:=.type "tuple",data:=.seq [u1,u2].toArray } }:=I1.kept (t':=s1.toks) fun b o e=>bK _ e
 rw[hw]
 refine ar (aN ?_)
 show al (ai X.prog X.w) X.A (do rule "assign.swapped-stores";let items <- unpackItems (.ref s1.heap.objs.size) 2 none;CL [fun v=>wV X.env y v,fun v=>wV X.env x v] items.reverse;pure Flow.next) _ _ _
 refine ar (iu (ar (unpackItems_tuple (items:=#[u1,u2]) (I.ok.hd hc) (Ds s1.heap _) fun h' cE=>?_)))
 have I3:=I2.kept (h':=h') (t':=s1.toks) fun b o e=>cE b o (bB (bp e)) e
 show al _ _ (CL [fun v=>wV X.env y v,fun v=>wV X.env x v] [u2,u1] >>= fun _=>pure Flow.next) _ _ _
 refine ar (Dm (wpAny_bindName (Jx I3 hN hj (.inl hy) c6 (fun s2 I4=>?_) (.inr hy))))
 refine Dm (wpAny_bindName (Jx I4 hN hi (.inl hx) rv (fun s3 I5=>LJ (aN ?_)) (.inr hx)))
 rw[List.set_comm _ _ (cY cS)]at I5
 exact⟨_,H1,I5,q1⟩
end
structure It where
 go:Nat->Hp->Prop
 yld:Nat->Hp->V->Hp->Prop
 stop:Nat->Hp->Prop
def Jr(X:Cx)(ad:List (ab×Obj))(H:Hp)(b:ab):Prop:=
 H b=none/\b≠X.env.locals/\b ∉ X.fs/\(b∈X.ex\/X.s₀.heap.objs.size<=b)/\(∀x c,X.env.cells.lookup x=some c->c≠b)/\∀p∈X.pn++ad,p.1≠b
theorem Inv.fpOk{X:Cx}{ad:List (ab×Obj)}{σ:St}{H H':Hp}{s:af}{b:ab}(I:Inv X ad σ H s)(hb:s.heap.objs.size<=b)(hn:H' b=none):Jr X ad H' b:=by
 refine⟨hn,iD (dl I.lt hb),I.nofs hb,.inr (aG I.sz hb),fun x c e z=>?_,fun p hp z=>?_⟩
 .obtain⟨v,q⟩:=I.cell x c e
  exact absurd (dl q.lt (by rw[z];exact hb)) (lG _)
 .exact absurd (dl (bp (I.pin p hp).1) (by rw[z];exact hb)) (lG _)
structure Turn(P:az)(w:aw)(K:aq)(tg:ag)(J:It)(fp:List ab)(it:ab)(tn:Nat->aj->Prop):Prop where
 mem:it∈fp
 obj:∀i h,tn i h->∀b∈fp,∃o,h.get? b=some o/\∀v,o.data≠.cell v
 keep:∀i h h',tn i h->(∀b∈fp,∀o,h.get? b=some o->h'.get? b=some o)->tn i h'
 item:∀(X:Cx),X.prog=P->X.w=w->X.K=K->X.calm=true->∀(i:Nat) (ad:List (ab×Obj)) (s:af) (σ:St) (H:Hp) (E:ae->af->Prop),Inv X ad σ H s->(∀b∈fp,Jr X ad H b)->tn i s.heap->J.go i H->
  al (ai P w) X.A (mE (.ref it)) (fun r s1=>∃u,r=some u/\
   al (ai P w) X.A (ll tg (.ref it) u) (fun _ s2=>∃x H',Inv X ad σ H' s2/\RelV x u/\J.yld i H x H'/\tn (i+1) s2.heap/\∀b∈fp,H' b=none) E s1) E s
 done:∀(X:Cx),X.prog=P->X.w=w->X.K=K->X.calm=true->∀(i:Nat) (ad:List (ab×Obj)) (s:af) (σ:St) (H:Hp) (E:ae->af->Prop),Inv X ad σ H s->(∀b∈fp,Jr X ad H b)->tn i s.heap->J.stop i H->
  al (ai P w) X.A (mE (.ref it)) (fun r s1=>r=none/\Inv X ad σ H s1) E s
 self:∀(A:aL) (i:Nat) (s:af) (Q:ae->af->Prop) (E:ae->af->Prop),tn i s.heap->Q (.ref it) s->al (ai P w) A (om (.ref it)) Q E s
abbrev TI:=St->Hp->(It->Hp->Prop)->Prop
def PIE(X:Cx)(ad:List (ab×Obj))(σ:St)(tg:ag)(R:It->Hp->Prop)(nr:ae)(s2:af):Prop:=
 ∃(it:ab) (fp:List ab) (tn:Nat->aj->Prop) (J:It) (H':Hp),nr=.ref it/\Inv X ad σ H' s2/\Turn X.prog X.w X.K tg J fp it tn/\tn 0 s2.heap/\(∀b∈fp,Jr X ad H' b)/\R J H'
def PI(X:Cx)(tg iter:ag)(wi:TI):Prop:=
 ∀(ad:List (ab×Obj)) (s:af) (σ:St) (H:Hp) (R:It->Hp->Prop),Inv X ad σ H s->wi σ H R->
  al (ai X.prog X.w) X.A (eval iter X.env) (fun v s1=>al (ai X.prog X.w) X.A (om v) (PIE X ad σ tg R) X.xe s1) X.xe s
theorem jfd{M:Model}{A:aL}{E:ae->af->Prop}{s:af}{tg:ag}{it:ab}{u:ae}{o:Obj}{n:String}{vs:Array ae}{Q:Unit->af->Prop}(ho:s.heap.get? it=some o)(hc:o.cls=.type n)(hd:o.data=.fields vs)
  (hn:["enumerate","zip","dict_itemiterator","dict_reverseitemiterator","odict_iterator","itertools.zip_longest","itertools.pairwise"].contains n=false) (hQ:Q () s):al M A (ll tg (.ref it) u) Q E s:=by
 unfold ll
 cases tg <;> first
  | exact aN hQ
  | (cases u <;> first
    | exact aN hQ
    | (refine ar (wpAny_load ho ?_)
       rw[hc,hd]
       show al M A (if (["enumerate","zip","dict_itemiterator","dict_reverseitemiterator","odict_iterator","itertools.zip_longest","itertools.pairwise"].contains n && vs[0]? == some (rawInt _))=true then _ else _) Q E s
       rw[MT (by intro h;rw[hn,Bool.false_and]at h;cases h)]
       exact aN hQ))
def Itl(K:aq)(a:ab):It:=
 ⟨fun i H=>∃xs x,SqL K H a xs/\xs[i]?=some x,fun i H x H'=>H'=H/\∀xs,SqL K H a xs->xs[i]?=some x,fun i H=>∃xs,SqL K H a xs/\xs.length<=i⟩
def Itr(lo:Int)(n:Nat):It:=⟨fun i _=>i < n,fun i H x H'=>H'=H/\x=.int (lo+i),fun i _=>n<=i⟩
theorem jcO{P:az}{w:aw}{K:aq}{tg:ag}(a it:ab):Turn P w K tg (Itl K a) [it] it (fun i h=>h.IsListIter it a i) where
 mem:=by simp
 obj:=fun i h st b hb=>by
  have e:b=it:=by simpa using hb
  subst e;obtain⟨o,e,c,d⟩:=st;exact⟨o,e,fun v z=>by rw[d]at z;cases z⟩
 keep:=fun i h h' st k=>st.at fun o e=>k it (by simp) o e
 item:=by
  intro X hP hw hK hc i ad s σ H E I hf st hg;subst hP hw hK;obtain⟨xs,x,hq,hx⟩:=hg;obtain⟨its,rv,p,hz⟩:=I.list hq;obtain⟨u,hu,ru⟩:=rv.get hx;obtain⟨f0,f1,f2,f3,f4,f5⟩:=hf it (by simp);refine wpAny_pyNext_list_item st p.isList (x:=u) (by simpa using hu) fun h' ax sb=>?_
  have I1:Inv X ad σ H { s with heap:=h' }:=I.turned (t':=s.toks) (fun b o hb e=>(sb.2 b hb).trans e) f0 f1 f3 f4 f5;obtain⟨o,e,c,d⟩:=id ax;exact⟨u,rfl,jfd (s:={ s with heap:=h' }) e c d (by decide) ⟨x,H,I1,ru,⟨rfl,fun ys hy=>by rw[I.list_inj hy hq];exact hx⟩,ax,fun b hb=>(hf b hb).1⟩⟩
 done:=by
  intro X hP hw hK hc i ad s σ H E I hf st hg;subst hP hw hK;obtain⟨xs,hq,hx⟩:=hg;obtain⟨its,rv,p,hz⟩:=I.list hq;obtain⟨f0,f1,f2,f3,f4,f5⟩:=hf it (by simp);have hl:=rv.length;exact wpAny_pyNext_list_end (I.ok.hd hc) st p.isList (by simp;omega) fun h' eb=>⟨rfl,I.turned (t':=s.toks) (fun b o hb e=>eb b o hb e) f0 f1 f3 f4 f5⟩
 self:=fun _ _ _ _ _ st h=>wpAny_pyIter_listiter st h
theorem ja6{P:az}{w:aw}{K:aq}{tg:ag}(it:ab)(lo:Int)(n:Nat):Turn P w K tg (Itr lo n) [it] it (fun i h=>IsRangeIter h it (lo+(i:Nat) * 1) ((n:Int) - (i:Nat)) 1) where
 mem:=by simp
 obj:=fun i h st b hb=>by
  have e:b=it:=by simpa using hb
  subst e;exact⟨_,st,fun v z=>by
   have z':Data.fields _=Data.cell v:=z
   cases z'⟩
 keep:=fun i h h' st k=>k it (by simp) _ st
 item:=by
  intro X hP hw hK hc i ad s σ H E I hf st hg;subst hP hw hK;obtain⟨f0,f1,f2,f3,f4,f5⟩:=hf it (by simp);have W:=Walks.range (prog:=X.prog) (w:=X.w) (I.ok.hd hc) it lo 1 n;refine W.item i s _ _ hg st fun v h' tk hv ax kk=>?_
  obtain⟨t,rfl⟩:=hv;have I1:Inv X ad σ H { s with heap:=h',toks:=tk }:=I.turned (fun b o hb e=>kk b o (by simpa using hb) e) f0 f1 f3 f4 f5;refine⟨_,rfl,jfd (s:={ s with heap:=h',toks:=tk }) (n:="range_iterator") ax rfl rfl (by decide) ⟨.int (lo+i),H,I1,⟨t,?_⟩,⟨rfl,rfl⟩,ax,fun b hb=>(hf b hb).1⟩⟩;rw[Int.mul_one]
 done:=by
  intro X hP hw hK hc i ad s σ H E I hf st hg;subst hP hw hK;obtain⟨f0,f1,f2,f3,f4,f5⟩:=hf it (by simp);exact wpAny_pyNext_range_end (I.ok.hd hc) st (by have:n<=i:=hg;omega) fun h' eb=>⟨rfl,I.turned (t':=s.toks) (fun b o hb e=>eb b o hb e) f0 f1 f3 f4 f5⟩
 self:=fun _ _ _ _ _ st h=>wpAny_pyIter_rangeiter st h
section
variable {X:Cx}{tg:ag}
def Y9(K:aq)(tl:TE):TI:=fun σ H R=>tl σ H fun x H1=>∃a,x=.ref a/\(∃xs,SqL K H1 a xs)/\R (Itl K a) H1
theorem jf7{l:ag}{tl:TE}(hl:PE X l tl):PI X tg l (Y9 X.K tl):=by
 intro ad s σ H R I h;refine thn (hl ad s σ H _ I h) fun v s1 ⟨x,H1,I1,r1,q1⟩=>?_
 obtain⟨a,e,⟨xs,hq⟩,q⟩:=q1;subst e
 cases r1
 obtain⟨its,rv,p,hz⟩:=I1.list hq;refine wpAny_pyIter_list p.isList ?_;refine⟨s1.heap.objs.size,[s1.heap.objs.size],_,_,H1,rfl,I1.kept (t':=s1.toks) fun b o e=>bK _ e,jcO a _,⟨_,eh _ rfl,rfl,rfl⟩,fun b hb=>?_,q⟩;have e:b=s1.heap.objs.size:=by simpa using hb
 subst e;exact I1.fpOk (aD _) (I1.hok.fresh (aD _))
theorem jem{ad:List (ab×Obj)}{σ:St}{H:Hp}{s:af}{R:It->Hp->Prop}{E:ae->af->Prop}{lo hi:Int}{t u v:Tok}{tk:Nat}(I:Inv X ad σ H s)(h1:-(2 ^ 62)<=lo)(h2:lo < 2 ^ 62)(h3:-(2 ^ 62)<=hi)(h4:hi < 2 ^ 62)
  (q:R (Itr lo (hi - lo).toNat) H):al (ai X.prog X.w) X.A (om (.ref s.heap.objs.size)) (PIE X ad σ tg R) E { s with heap:=s.heap.push { cls:=.type "range",data:=.fields #[.int lo t,.int hi u,.int 1 v] },toks:=tk }:=by
 refine wpAny_pyIter_range (IsRange.new ..) (small_one h1 h2 h3 h4) ?_
 have I1:Inv X ad σ H { s with heap:=s.heap.push { cls:=.type "range",data:=.fields #[.int lo t,.int hi u,.int 1 v] },toks:=tk }:=I.kept fun b o e=>bK _ e
 refine⟨(s.heap.push { cls:=.type "range",data:=.fields #[.int lo t,.int hi u,.int 1 v] }).objs.size,[(s.heap.push { cls:=.type "range",data:=.fields #[.int lo t,.int hi u,.int 1 v] }).objs.size],_,_,H,rfl,
  I1.kept (t':=tk) fun b o e=>bK _ e,ja6 _ lo (hi - lo).toNat,?_,fun b hb=>?_,q⟩
 .have e1:lo+((0:Nat):Int) * 1=lo:=by simp
  have e2:(((hi - lo).toNat:Nat):Int) - ((0:Nat):Int)=Builtin.Range.rangeSize lo hi 1:=by rw[rangeSize_one];split <;> omega
  show IsRangeIter _ _ (lo+((0:Nat):Int) * 1) ((((hi - lo).toNat:Nat):Int) - ((0:Nat):Int)) 1
  rw[e1,e2]
  exact eh _ rfl
 .have e:b=(s.heap.push { cls:=.type "range",data:=.fields #[.int lo t,.int hi u,.int 1 v] }).objs.size:=by simpa using hb
  subst e
  exact I1.fpOk (aD _) (I1.hok.fresh (aD _))
def jhm(ta:TA):TI:=fun σ H R=>ta σ H fun vs H1=>∃j:Int,vs=[.int j]/\-(2 ^ 62)<=j/\j < 2 ^ 62/\R (Itr 0 j.toNat) H1
theorem jcY{a:ag}{ta:TA}{p pos:Pos}(hg:Gl X "range")(hm:X.mg "range" = none)(ha:PA X [a] ta)(hs:bO [a] X.env=[(false,eval a X.env)]:=by rfl):PI X tg (.Call (.Name "range" p) [a] [] pos) (jhm ta):=by
 intro ad s σ H R I h;refine Call_ (Yo I hg hm boot_range (Dl (thn (ha pos ad s σ H _ I h) fun us s1 ⟨vs,H1,I1,r1,q1⟩=>?_) hs rfl));obtain⟨j,e,q1,q2,q⟩:=q1;subst e
 cases r1 with
 | cons r rr=>
  cases rr
  obtain⟨t,rfl⟩:=r;exact call_range_1 (jem I1 (by omega) (by omega) q1 q2 (by simpa using q))
def jiC(wi:TI)(g:TG)(tb:TS):TS:=fun D σ H=>wi σ H fun J H1=>∃W:Nat->Nat->St->Hp->Prop,(∃m,W 0 m σ H1)/\∀i m σ H,W i m σ H->
 (J.stop i H/\D.nx σ H)\/(J.go i H/\∃N:St->Hp->Prop,(∀σ' H',N σ' H'->∃m',m' < m/\W (i+1) m' σ' H')/\∀x H',J.yld i H x H'->g x σ H' fun σ2 H2=>tb { D with nx:=N,ct:=N,bk:=D.nx } σ2 H2)
def q8(fp:List ab)(h:aj):List (ab×Obj):=fp.filterMap fun b=>(h.get? b).map fun o=>(b,o)
theorem kG{fp:List ab}{h:aj}{b:ab}{o:Obj}(hb:b∈fp)(e:h.get? b=some o):(b,o)∈q8 fp h:=Mg.mpr ⟨b,hb,by rw[e];rfl⟩
theorem jc9{fp:List ab}{h:aj}{p:ab×Obj}(hp:p∈q8 fp h):p.1∈fp/\h.get? p.1=some p.2:=by
 obtain⟨b,hb,e⟩:=Mg.mp hp
 cases q:h.get? b with
 | none=>rw[q]at e;cases e
 | some o=>
  rw[q]at e;have e':(b,o)=p:=cN e;subst e';exact⟨hb,q⟩
theorem Inv.pinned{ad:List (ab×Obj)}{σ:St}{H:Hp}{s:af}{fp:List ab}(I:Inv X ad σ H s)(hf:∀b∈fp,Jr X ad H b)(ho:∀b∈fp,∃o,s.heap.get? b=some o/\∀v,o.data≠.cell v):Inv X (ad++q8 fp s.heap) σ H s:=
 I.pins_of fun p hp=>(bx.mp hp).elim (fun z=>I.pin p (ck _ z)) fun z=>by
  obtain⟨hb,e⟩:=jc9 z;obtain⟨f0,f1,f2,_⟩:=hf p.1 hb;obtain⟨o,e',d⟩:=ho p.1 hb;rw[e]at e';cases e';exact⟨e,f0,f1,f2,d⟩
theorem Inv.unpinned{ad pl:List (ab×Obj)}{σ:St}{H:Hp}{s:af}(I:Inv X (ad++pl) σ H s):Inv X ad σ H s:=I.pins_of fun p hp=>I.pin p (ck _ (xA _ hp))
theorem jhP{iter:ag}{body:List aA}{wi:TI}{g:TG}{tb:TS}{pos:Pos}(hp:PassesOwn (ai X.prog X.w) X.A X.env X.xe)(hc:X.calm=true)(hi:PI X tg iter wi)(hg:PG X tg g)(hb:PSs X body tb)
  (hs:∀x,eN iter X.env x=pure x:=by intro _;rfl):PS X (.For tg iter body [] pos) (jiC wi g tb):=by
 intro ad s σ H D I h
 refine wpAny_For (thn (hi ad s σ H _ I h) fun v s1 h1=>thn h1 fun nr s2 h2=>?_) hs
 obtain⟨it,fp,tn,J,H2,e,I2,T,bU,f2,W,⟨m0,w0⟩,turn⟩:=h2
 subst e
 have dC:∀{H':Hp},(∀b∈fp,H' b=none)->∀b∈fp,Jr X ad H' b:=fun hn b hb=>⟨hn b hb,(f2 b hb).2⟩
 refine codeAny_forLoop_any (fun n s'=>∃i σ' H',Inv X ad σ' H' s'/\tn i s'.heap/\(∀b∈fp,H' b=none)/\W i n σ' H') ?_ m0 ⟨0,σ,H2,I2,bU,fun b hb=>(f2 b hb).1,w0⟩
 rintro n s3 ⟨i,σ3,H3,I3,fF,BV,w3⟩
 rcases turn i n σ3 H3 w3 with⟨stop,qn⟩ | ⟨go,N,hN,step⟩
 .refine rY hp (thn (T.done X rfl rfl rfl hc i ad s3 σ3 H3 X.xe I3 (dC BV) fF stop) fun r s4 ⟨hr,I4⟩=>?_)
  subst hr
  exact Co ⟨σ3,H3,I4,qn⟩
 .refine rY hp (thn (T.item X rfl rfl rfl hc i ad s3 σ3 H3 X.xe I3 (dC BV) fF go) fun r s4 ⟨u,hr,h4⟩=>?_)
  subst hr
  refine rY hp (thn h4 fun _ s5 ⟨x,H5,I5,r5,y5,lR,GU⟩=>?_)
  have rW:=I5.pinned (dC GU) (T.obj _ _ lR)
  refine rY hp (thn (hg _ s5 σ3 H5 x u _ rW r5 (step x H5 y5)) fun _ s6 ⟨σ6,H6,I6,q6⟩=>?_)
  refine rY hp (thn (hb _ s6 σ6 H6 _ I6 q6) fun f s7 q7=>?_)
  have again:∀{σ7:St} {H7:Hp},Inv X (ad++q8 fp s5.heap) σ7 H7 s7->N σ7 H7->∃m,m < n/\∃i σ' H',Inv X ad σ' H' s7/\tn i s7.heap/\(∀b∈fp,H' b=none)/\W i m σ' H':=fun {σ7 H7} I7 n7=>by
   obtain⟨m',hm,w7⟩:=hN σ7 H7 n7;refine⟨m',hm,i+1,σ7,H7,I7.unpinned,T.keep _ _ _ lR fun b hb o e=>(I7.pin (b,o) (ck _ (ck _ (kG hb e)))).1,fun b hb=>?_,w7⟩;obtain⟨o,e,d⟩:=T.obj _ _ lR b hb;exact (I7.pin (b,o) (ck _ (ck _ (kG hb e)))).2.1
  cases f with
  | next=>obtain⟨σ7,H7,I7,n7⟩:=q7;exact again I7 n7
  | cont=>obtain⟨σ7,H7,I7,n7⟩:=q7;exact again I7 n7
  | brk=>obtain⟨σ7,H7,I7,q7⟩:=q7;exact⟨σ7,H7,I7.unpinned,q7⟩
  | ret v=>obtain⟨x7,σ7,H7,I7,r7,q7⟩:=q7;exact⟨x7,σ7,H7,I7.unpinned,r7,q7⟩
end
theorem qa{K:aq}{a:ab}{xs:List V}{g:TG}{tb:TS}{D:Ends}{σ:St}{H:Hp}(Pv:Nat->St->Hp->Prop)(h0:Pv 0 σ H)(hl:∀i σ H,i<=xs.length->Pv i σ H->SqL K H a xs)
  (hs:∀i x σ H,xs[i]?=some x->Pv i σ H->g x σ H fun σ2 H2=>tb { D with nx:=Pv (i+1),ct:=Pv (i+1),bk:=D.nx } σ2 H2) (hd:∀σ H,Pv xs.length σ H->D.nx σ H) :
  ∃W:Nat->Nat->St->Hp->Prop,(∃m,W 0 m σ H)/\∀i m σ H,W i m σ H->
   ((Itl K a).stop i H/\D.nx σ H)\/((Itl K a).go i H/\∃N:St->Hp->Prop,(∀σ' H',N σ' H'->∃m',m' < m/\W (i+1) m' σ' H')/\∀x H',(Itl K a).yld i H x H'->g x σ H' fun σ2 H2=>tb { D with nx:=N,ct:=N,bk:=D.nx } σ2 H2):=by
 refine⟨fun i m σ H=>m=xs.length - i/\i<=xs.length/\Pv i σ H,⟨xs.length,by simp,bF _,h0⟩,?_⟩
 rintro i m σ H ⟨rfl,hi,p⟩
 have q:=hl i σ H hi p
 by_cases aS:i < xs.length
 .refine .inr ⟨⟨xs,xs[i],q,by simp[aS]⟩,Pv (i+1),fun σ' H' p'=>⟨xs.length - (i+1),by omega,rfl,aS,p'⟩,fun x H' y=>?_⟩
  obtain⟨e,y⟩:=y
  subst e
  exact hs i x σ _ (y xs q) p
 .have e:i=xs.length:=by omega
  subst e
  exact .inl ⟨⟨xs,q,aD _⟩,hd σ H p⟩
theorem jdo{lo:Int}{n:Nat}{g:TG}{tb:TS}{D:Ends}{σ:St}{H:Hp}(Pv:Nat->St->Hp->Prop)(h0:Pv 0 σ H)
  (hs:∀i σ H,i < n->Pv i σ H->g (.int (lo+i)) σ H fun σ2 H2=>tb { D with nx:=Pv (i+1),ct:=Pv (i+1),bk:=D.nx } σ2 H2) (hd:∀σ H,Pv n σ H->D.nx σ H) :
  ∃W:Nat->Nat->St->Hp->Prop,(∃m,W 0 m σ H)/\∀i m σ H,W i m σ H->
   ((Itr lo n).stop i H/\D.nx σ H)\/((Itr lo n).go i H/\∃N:St->Hp->Prop,(∀σ' H',N σ' H'->∃m',m' < m/\W (i+1) m' σ' H')/\∀x H',(Itr lo n).yld i H x H'->g x σ H' fun σ2 H2=>tb { D with nx:=N,ct:=N,bk:=D.nx } σ2 H2):=by
 refine⟨fun i m σ H=>m=n - i/\i<=n/\Pv i σ H,⟨n,by simp,bF _,h0⟩,?_⟩
 rintro i m σ H ⟨rfl,hi,p⟩
 by_cases aS:i < n
 .refine .inr ⟨aS,Pv (i+1),fun σ' H' p'=>⟨n - (i+1),by omega,rfl,aS,p'⟩,fun x H' y=>?_⟩
  obtain⟨e,y⟩:=y
  subst e y
  exact hs i σ _ aS p
 .have e:i=n:=by omega
  subst e
  exact .inl ⟨aD _,hd σ H p⟩
abbrev R2:=V->V->Hp->VK->Prop
def OpR(X:Cx)(f:ae->ae->Sem ae)(r:R2):Prop:=
 ∀(ad:List (ab×Obj)) (s:af) (σ:St) (H:Hp) (x y:V) (v u:ae) (Q:VK),Inv X ad σ H s->RelV x v->RelV y u->r x y H Q->
  al (ai X.prog X.w) X.A (f v u) (EP X ad σ Q) X.xe s
def UnR(X:Cx)(f:ae->Sem ae)(r:V->Hp->VK->Prop):Prop:=
 ∀(ad:List (ab×Obj)) (s:af) (σ:St) (H:Hp) (x:V) (v:ae) (Q:VK),Inv X ad σ H s->RelV x v->r x H Q->
  al (ai X.prog X.w) X.A (f v) (EP X ad σ Q) X.xe s
def zC(X:Cx)(f:ae)(r:List V->Hp->VK->Prop):Prop:=
 ∀(ad:List (ab×Obj)) (s:af) (σ:St) (H:Hp) (xs:List V) (us:List ae) (Q:VK),Inv X ad σ H s->Vals xs us->r xs H Q->
  al (ai X.prog X.w) X.A (call f us) (EP X ad σ Q) X.xe s
def jjw(X:Cx)(r:V->Hp->(Bool->Hp->Prop)->Prop):Prop:=
 ∀(ad:List (ab×Obj)) (s:af) (σ:St) (H:Hp) (x:V) (v:ae) (Q:Bool->Hp->Prop),Inv X ad σ H s->RelV x v->r x H Q->
  al (ai X.prog X.w) X.A (truthy v) (TP X ad σ Q) X.xe s
def tOp(r:R2)(ta tb:TE):TE:=fun σ H Q=>ta σ H fun x H1=>tb σ H1 fun y H2=>r x y H2 Q
def tUn(r:V->Hp->VK->Prop)(ta:TE):TE:=fun σ H Q=>ta σ H fun x H1=>r x H1 Q
def rI(C:Int->Int->Prop)(g:Int->Int->V):R2:=fun x y H Q=>∃i j,x=.int i/\y=.int j/\C i j/\Q (g i j) H
def rI0(g:Int->Int->V):R2:=fun x y H Q=>∃i j,x=.int i/\y=.int j/\Q (g i j) H
def rU(g:Int->V):V->Hp->VK->Prop:=fun x H Q=>∃i,x=.int i/\Q (g i) H
section
variable {X:Cx}{a b c:ag}{ta tb tc:TE}{pos:Pos}
theorem jil(ha:PE X a ta)(hb:PE X b tb){ad:List (ab×Obj)}{s:af}{σ:St}{H:Hp}{R:V->V->Hp->Prop}(I:Inv X ad σ H s)
  (h:ta σ H fun x H1=>tb σ H1 fun y H2=>R x y H2) {Q:ae->af->Prop} {f:ae->ae->Sem ae}
  (hf:∀v u s2 x y H2,Inv X ad σ H2 s2->RelV x v->RelV y u->R x y H2->al (ai X.prog X.w) X.A (f v u) Q X.xe s2) :
  al (ai X.prog X.w) X.A (eval a X.env) (fun v s₁=>al (ai X.prog X.w) X.A (eval b X.env) (fun u s₂=>al (ai X.prog X.w) X.A (f v u) Q X.xe s₂) X.xe s₁) X.xe s:=by
 refine thn (ha ad s σ H _ I h) fun v s1 ⟨x,H1,I1,r1,q1⟩=>?_
 refine thn (hb ad s1 σ H1 _ I1 q1) fun u s2 ⟨y,H2,I2,r2,q2⟩=>?_
 exact hf v u s2 x y H2 I2 r1 r2 q2
theorem jiM{op:Operator}{r:R2}(ho:OpR X (gM op) r)(ha:PE X a ta)(hb:PE X b tb):PE X (.BinOp a op b pos) (tOp r ta tb):=by
 intro ad s σ H Q I h;exact wpAny_BinOp (jil ha hb I h fun v u s2 x y H2 I2 rx ry q=>ho ad s2 σ H2 x y v u Q I2 rx ry q)
theorem jiL{op:UnaryOp}{r:V->Hp->VK->Prop}(ho:UnR X (unaryOp op) r)(ha:PE X a ta):PE X (.UnaryOp op a pos) (tUn r ta):=by
 intro ad s σ H Q I h;exact UnaryOp_ (thn (ha ad s σ H _ I h) fun v s1 ⟨x,H1,I1,r1,q1⟩=>ho ad s1 σ H1 x v Q I1 r1 q1)
theorem opI{f:ae->ae->Sem ae}{C:Int->Int->Prop}{g:Int->Int->Int}
  (rule:∀(i j:Int) (t u:Tok) (s:af) (Q:ae->af->Prop) (E:ae->af->Prop),C i j->Q (.int (g i j) s.toks) { s with toks:=s.toks+1 }->al (ai X.prog X.w) X.A (f (.int i t) (.int j u)) Q E s) :
  OpR X f (rI C fun i j=>.int (g i j)):=by
 intro ad s σ H x y v u Q I rx ry h
 obtain⟨i,j,rfl,rfl,hc,q⟩:=h
 obtain⟨t,rfl⟩:=rx
 obtain⟨t',rfl⟩:=ry
 exact rule i j t t' s _ _ hc ⟨.int (g i j),H,I.tok _,⟨_,rfl⟩,q⟩
theorem jiV{f:ae->ae->Sem ae}{g:Int->Int->Int}
  (rule:∀(i j:Int) (t u:Tok) (s:af) (Q:ae->af->Prop) (E:ae->af->Prop),Q (.int (g i j) s.toks) { s with toks:=s.toks+1 }->al (ai X.prog X.w) X.A (f (.int i t) (.int j u)) Q E s) :
  OpR X f (rI0 fun i j=>.int (g i j)):=by
 intro ad s σ H x y v u Q I rx ry h
 obtain⟨i,j,rfl,rfl,q⟩:=h
 obtain⟨t,rfl⟩:=rx
 obtain⟨t',rfl⟩:=ry
 exact rule i j t t' s _ _ ⟨.int (g i j),H,I.tok _,⟨_,rfl⟩,q⟩
theorem jiW{f:ae->ae->Sem ae}{g:Int->Int->Bool}
  (rule:∀(i j:Int) (t u:Tok) (s:af) (Q:ae->af->Prop) (E:ae->af->Prop),Q (.bool (g i j)) s->al (ai X.prog X.w) X.A (f (.int i t) (.int j u)) Q E s) :
  OpR X f (rI0 fun i j=>.bl (g i j)):=by
 intro ad s σ H x y v u Q I rx ry h
 obtain⟨i,j,rfl,rfl,q⟩:=h
 obtain⟨t,rfl⟩:=rx
 obtain⟨t',rfl⟩:=ry
 exact rule i j t t' s _ _ ⟨.bl (g i j),H,I,rfl,q⟩
def jjC(i j:Int):Prop:=0<=j/\j<=1000000/\i.natAbs < 2 ^ 64
def CMul(i j:Int):Prop:=(-(2 ^ 64) < i/\i < 2 ^ 64)\/(-(2 ^ 64) < j/\j < 2 ^ 64)
theorem CMul.ok{i j:Int}(h:CMul i j):IntMulOk i j:=by
 rcases h with⟨h1,h2⟩ | ⟨h1,h2⟩
 .exact .of_left (intBits_le_64 h1 h2)
 .exact .of_right (intBits_le_64 h1 h2)
theorem qi:OpR X (gM .Add) (rI0 fun i j=>.int (i+j)):=jiV fun _ _ _ _ _ _ _ q=>add_int q
theorem qH:OpR X (gM .Sub) (rI0 fun i j=>.int (i - j)):=jiV fun _ _ _ _ _ _ _ q=>sub_int q
theorem k9:OpR X (gM .Mult) (rI CMul fun i j=>.int (i * j)):=opI fun _ _ _ _ _ _ _ hc q=>mul_int q hc.ok
theorem jQ:OpR X (gM .Mod) (rI (fun _ j=>0 < j) fun i j=>.int (i % j)):=opI fun i j _ _ _ _ _ hc q=>by
 have h1:(0:Int) < j:=hc;exact mod_int' (by omega) (by rw[Int.fmod_eq_emod_of_nonneg i (by omega)];exact q)
theorem Jj:OpR X (gM .Pow) (rI jjC fun i j=>.int (i ^ j.toNat)):=opI fun _ _ _ _ _ _ _ hc q=>pow_int_small hc.1 hc.2.1 hc.2.2 q
theorem unI{f:ae->Sem ae}{g:Int->Int}
  (rule:∀(i:Int) (t:Tok) (s:af) (Q:ae->af->Prop) (E:ae->af->Prop),Q (.int (g i) s.toks) { s with toks:=s.toks+1 }->al (ai X.prog X.w) X.A (f (.int i t)) Q E s) :
  UnR X f (rU fun i=>.int (g i)):=by
 intro ad s σ H x v Q I rx h
 obtain⟨i,rfl,q⟩:=h
 obtain⟨t,rfl⟩:=rx
 exact rule i t s _ _ ⟨.int (g i),H,I.tok _,⟨_,rfl⟩,q⟩
theorem ja5:UnR X (unaryOp .USub) (rU fun i=>.int (-i)):=unI fun _ _ _ _ _ q=>neg_int q
end
def jiE:V->V->Bool
 | .non,.non=>true | .non,.int _=>true | .int _,.non=>true | .non,.bl _=>true | .bl _,.non=>true | .non,.str _=>true | .str _,.non=>true
 | .int _,.int _=>true | .bl _,.bl _=>true | .str _,.str _=>true | .byt _,.byt _=>true
 | .int _,.str _=>true | .str _,.int _=>true | .bl _,.str _=>true | .str _,.bl _=>true
 | _,_=>false
def rEq:R2:=fun x y H Q=>jiE x y=true/\Q (.bl (decide (x=y))) H
def rNe:R2:=fun x y H Q=>jiE x y=true/\Q (.bl (!decide (x=y))) H
theorem jcw{i j:Int}:decide (V.int i=V.int j)=(i == j):=by
 rw[lO];simp
theorem jfj{i j:Bool}:decide (V.bl i=V.bl j)=(i == j):=by
 rw[lO];simp
theorem jcv{i j:Str}:decide (V.str i=V.str j)=(i == j):=by
 rw[lO];simp
theorem jcx{i j:Array UInt8}:decide (V.byt i=V.byt j)=(i.toList == j.toList):=by
 rw[lO]
 cases i
 cases j
 simp
section
variable {X:Cx}{a b c:ag}{ta tb tc:TE}{pos:Pos}
theorem kf{ad:List (ab×Obj)}{σ:St}{H:Hp}{s:af}{Q:VK}{k k':Bool}(I:Inv X ad σ H s)(q:Q (.bl k) H)(e:k=k'):EP X ad σ Q (.bool k') s:=by
 subst e;exact⟨.bl k,H,I,rfl,q⟩
theorem kh:OpR X (dw .Eq) rEq:=by
 intro ad s σ H x y v u Q I rx ry h;obtain⟨hs,q⟩:=h
 cases x with
 | non=>
  cases rx
  cases y with
  | non=>cases ry;exact PySem.EqNone.eq_none_none (kf I q (by simp))
  | bl j=>cases ry;exact PySem.EqNone.eq_none_bool (kf I q (by simp))
  | int j=>obtain⟨t',rfl⟩:=ry;exact PySem.EqNone.eq_none_int (kf I q (by simp))
  | str j=>obtain⟨t',rfl⟩:=ry;exact PySem.EqNone.eq_none_str (kf I q (by simp))
  | _=>exact absurd (show false=true from hs) cP
 | bl i=>
  cases rx
  cases y with
  | non=>cases ry;exact PySem.EqNone.eq_bool_none (kf I q (by simp))
  | bl j=>cases ry;exact eq_bool (kf I q jfj)
  | str j=>obtain⟨t',rfl⟩:=ry;exact PySem.EqMixed.eq_bool_str (kf I q (by simp))
  | _=>exact absurd (show false=true from hs) cP
 | int i=>
  obtain⟨t,rfl⟩:=rx
  cases y with
  | non=>cases ry;exact PySem.EqNone.eq_int_none (kf I q (by simp))
  | int j=>obtain⟨t',rfl⟩:=ry;exact eq_int (kf I q jcw)
  | str j=>obtain⟨t',rfl⟩:=ry;exact PySem.EqMixed.eq_int_str (kf I q (by simp))
  | _=>exact absurd (show false=true from hs) cP
 | str i=>
  obtain⟨t,rfl⟩:=rx
  cases y with
  | non=>cases ry;exact PySem.EqNone.eq_str_none (kf I q (by simp))
  | bl j=>cases ry;exact PySem.EqMixed.eq_str_bool (kf I q (by simp))
  | int j=>obtain⟨t',rfl⟩:=ry;exact PySem.EqMixed.eq_str_int (kf I q (by simp))
  | str j=>obtain⟨t',rfl⟩:=ry;exact eq_str (kf I q jcv)
  | _=>exact absurd (show false=true from hs) cP
 | byt i=>
  obtain⟨t,rfl⟩:=rx
  cases y with
  | byt j=>obtain⟨t',rfl⟩:=ry;exact PySem.W.eq_bytes (kf I q jcx)
  | _=>exact absurd (show false=true from hs) cP
 | _=>cases y <;> exact absurd (show false=true from hs) cP
theorem jhk:OpR X (dw .NotEq) rNe:=by
 intro ad s σ H x y v u Q I rx ry h;obtain⟨hs,q⟩:=h
 cases x with
 | non=>
  cases rx
  cases y with
  | non=>cases ry;exact PySem.EqNone.ne_none_none (kf I q (by simp))
  | bl j=>cases ry;exact PySem.EqNone.ne_none_bool (kf I q (by simp))
  | int j=>obtain⟨t',rfl⟩:=ry;exact PySem.EqNone.ne_none_int (kf I q (by simp))
  | str j=>obtain⟨t',rfl⟩:=ry;exact PySem.EqNone.ne_none_str (kf I q (by simp))
  | _=>exact absurd (show false=true from hs) cP
 | bl i=>
  cases rx
  cases y with
  | non=>cases ry;exact PySem.EqNone.ne_bool_none (kf I q (by simp))
  | bl j=>cases ry;exact ne_bool (kf I q (MW not jfj))
  | str j=>obtain⟨t',rfl⟩:=ry;exact PySem.EqMixed.ne_bool_str (kf I q (by simp))
  | _=>exact absurd (show false=true from hs) cP
 | int i=>
  obtain⟨t,rfl⟩:=rx
  cases y with
  | non=>cases ry;exact PySem.EqNone.ne_int_none (kf I q (by simp))
  | int j=>obtain⟨t',rfl⟩:=ry;exact ne_int (kf I q (MW not jcw))
  | str j=>obtain⟨t',rfl⟩:=ry;exact PySem.EqMixed.ne_int_str (kf I q (by simp))
  | _=>exact absurd (show false=true from hs) cP
 | str i=>
  obtain⟨t,rfl⟩:=rx
  cases y with
  | non=>cases ry;exact PySem.EqNone.ne_str_none (kf I q (by simp))
  | bl j=>cases ry;exact PySem.EqMixed.ne_str_bool (kf I q (by simp))
  | int j=>obtain⟨t',rfl⟩:=ry;exact PySem.EqMixed.ne_str_int (kf I q (by simp))
  | str j=>obtain⟨t',rfl⟩:=ry;exact ne_str (kf I q (MW not jcv))
  | _=>exact absurd (show false=true from hs) cP
 | byt i=>
  obtain⟨t,rfl⟩:=rx
  cases y with
  | byt j=>obtain⟨t',rfl⟩:=ry;exact PySem.W.ne_bytes (kf I q (MW not jcx))
  | _=>exact absurd (show false=true from hs) cP
 | _=>cases y <;> exact absurd (show false=true from hs) cP
theorem jaw:OpR X (dw .Lt) (rI0 fun i j=>.bl (decide (i < j))):=jiW fun _ _ _ _ _ _ _ q=>lt_int q
theorem jhl:OpR X (dw .Gt) (rI0 fun i j=>.bl (decide (j < i))):=jiW fun _ _ _ _ _ _ _ q=>gt_int q
theorem jH(b:ag){op:CmpOp}(h:op≠.In:=by decide)(h2:op≠.NotIn:=by decide):gN op b=false:=by
 have e1:(op == CmpOp.In)=false:=by cases op <;> first | rfl | exact absurd rfl h
 have e2:(op == CmpOp.NotIn)=false:=by cases op <;> first | rfl | exact absurd rfl h2
 cases b <;> simp[gN,e1,e2]
theorem jgh{op:CmpOp}{r:R2}(ho:OpR X (dw op) r)(ha:PE X a ta)(hb:PE X b tb)(hm:gN op b=false):PE X (.Compare a [op] [b] pos) (tOp r ta tb):=by
 intro ad s σ H Q I h;exact wpAny_Compare1 (jil ha hb I h fun v u s2 x y H2 I2 rx ry q=>ho ad s2 σ H2 x y v u Q I2 rx ry q) hm
def jg7(t:TE):TT:=fun σ H Q=>t σ H fun x H'=>∃k,x=.bl k/\Q k H'
theorem jfW{op:CmpOp}{r:R2}(ho:OpR X (dw op) r)(ha:PE X a ta)(hb:PE X b tb)(hm:gN op b=false):PT X (.Compare a [op] [b] pos) (jg7 (tOp r ta tb)):=by
 intro ad s σ H Q I h;refine Hw (thn (ha ad s σ H _ I h) fun v s1 ⟨x,H1,I1,r1,q1⟩=>thn (hb ad s1 σ H1 _ I1 q1) fun u s2 ⟨y,H2,I2,r2,q2⟩=>
  thn (ho ad s2 σ H2 x y v u _ I2 r1 r2 q2) fun c s3 ⟨z,H3,I3,r3,k,e,q3⟩=>?_) hm
 subst e
 cases r3
 exact rX ⟨H3,I3,q3⟩
def jg0(K:aq)(x:V)(H:Hp)(k:Bool):Prop:=
 match x with
 | .non=>k=false
 | .bl b=>k=b
 | .int i=>k=(i != 0)
 | .str y=>y.length<=aE/\k=((y.length:Int) != 0)
 | .byt y=>y.size<=aE/\k=((y.size:Int) != 0)
 | .ref p=>(∃xs,SqL K H p xs/\k=!xs.isEmpty)\/(∃xs,SqT K H p xs/\k=!xs.isEmpty)\/∃kvs,H p=some (.dK kvs)/\k=!kvs.isEmpty
 | _=>False
theorem jbv{κ:Type}{kvs:List (κ×V)}{vs:List (κ×ae)}(r:KV kvs vs):(!vs.isEmpty)=!kvs.isEmpty:=by
 cases r <;> rfl
theorem Yr{xs:List V}{its:List ae}(r:Vals xs its):(!its.toArray.isEmpty)=!xs.isEmpty:=by
 cases r <;> simp
theorem Kh:(aE:Nat) < 2 ^ 63:=by rw[fX];decide
theorem jhx:jjw X (fun x H Q=>∃k,jg0 X.K x H k/\Q k H):=by
 intro ad s σ H x v Q I rx h;obtain⟨k,e,q⟩:=h;have hl:=Kh;have hs:aE=16777216:=fX
 cases x with
 | non=>
  cases rx
  have e':k=false:=e;subst e';exact truthy_none ⟨H,I,q⟩
 | bl b=>
  cases rx
  have e':k=b:=e;subst e';exact rX ⟨H,I,q⟩
 | int i=>
  obtain⟨t,rfl⟩:=rx;have e':k=(i != 0):=e;subst e';exact PySem.P.truthy_int ⟨H,I,q⟩
 | str y=>
  obtain⟨t,rfl⟩:=rx;obtain⟨hy,e'⟩:y.length<=aE/\k=((y.length:Int) != 0):=e;subst e';exact PySem.P.truthy_str (by omega) ⟨H,I.tok _,q⟩
 | byt y=>
  obtain⟨t,rfl⟩:=rx;obtain⟨hy,e'⟩:y.size<=aE/\k=((y.size:Int) != 0):=e;subst e';exact PySem.W.truthy_bytes (by omega) ⟨H,I.tok _,q⟩
 | ref p=>
  cases rx
  have e':(∃xs,SqL X.K H p xs/\k=!xs.isEmpty)\/(∃xs,SqT X.K H p xs/\k=!xs.isEmpty)\/∃kvs,H p=some (.dK kvs)/\k=!kvs.isEmpty:=e;rcases e' with⟨xs,hx,e'⟩ | ⟨xs,hx,e'⟩ | ⟨kvs,hx,e'⟩
  .subst e'
   obtain⟨its,r,pl,hz⟩:=I.list hx;have bf:=r.length;exact wpAny_truthy_list pl.isList (by simp only[bX];omega) ⟨H,I.tok _,by rw[Yr r];exact q⟩
  .subst e'
   obtain⟨its,r,pl,hz⟩:=I.tuple hx;have bf:=r.length;exact truthy_tuple pl (by simp only[bX];omega) ⟨H,I.tok _,by rw[Yr r];exact q⟩
  .subst e'
   obtain⟨hz,hS,vs,r,m⟩:kvs.length<=aE/\(p == fz)=false/\∃vs,KV kvs vs/\s.heap.DictOf (j9 X.prog X.w) p vs:=I.hok p _ hx;have bf:kvs.length=vs.length:=w8 r;exact wpAny_truthy_dict hS m (by omega) ⟨H,I.tok _,by rw[jbv r];exact q⟩
 | _=>exact (show False from e).elim
theorem jen(ha:PE X a ta)(he:∀eC,isTrue a X.env eC=(do let v <- eC;fW a.pos;holding [v] (truthy v))):
  PT X a (fun σ H Q=>ta σ H fun x H'=>∃k,jg0 X.K x H' k/\Q k H'):=by
 intro ad s σ H Q I h
 exact isTrue_plain (thn (ha ad s σ H _ I h) fun v s1 ⟨x,H1,I1,r1,q1⟩=>jhx ad s1 σ H1 x v Q I1 r1 q1) (he _)
theorem Jk:OpR X (gM .Add) (fun x y H Q=>∃i j,x=.str i/\y=.str j/\i.length+j.length<=aE/\Q (.str (i++j)) H):=by
 intro ad s σ H x y v u Q I rx ry h;obtain⟨i,j,rfl,rfl,hz,q⟩:=h;obtain⟨t,rfl⟩:=rx;obtain⟨t',rfl⟩:=ry;exact add_str (fun t' tk=>⟨.str (i++j),H,I.tok _,⟨_,rfl⟩,q⟩) hz
theorem Ja{x:V}{us:List ae}(r:Vals [x] us):∃u,us=[u]/\RelV x u:=by
 cases r with
 | cons r1 r2=>cases r2;exact⟨_,rfl,r1⟩
theorem jiu{x y:V}{us:List ae}(r:Vals [x,y] us):∃u w',us=[u,w']/\RelV x u/\RelV y w':=by
 cases r with
 | cons r1 r2=>
  cases r2 with
  | cons r3 r4=>cases r4;exact⟨_,_,rfl,r1,r3⟩
theorem qL:zC X (.type "int") (fun xs H Q=>(∃i,xs=[.int i]/\Q (.int i) H)\/∃k,xs=[.bl k]/\Q (.int (if k then 1 else 0)) H):=by
 intro ad s σ H xs us Q I r h;rcases h with⟨i,rfl,q⟩ | ⟨k,rfl,q⟩
 .obtain⟨u,rfl,t,rfl⟩:=Ja r
  exact call_int_int ⟨.int i,H,I,⟨_,rfl⟩,q⟩
 .obtain⟨u,rfl,r1⟩:=Ja r
  cases r1
  exact call_int_bool ⟨.int (if k then 1 else 0),H,I.tok _,⟨_,rfl⟩,q⟩
end
structure ObjM(h:aj)(x dx C:ab)(mA:Str->Option ae):Prop where
 obj:h.get? x=some (lu C dx)
 ns:h.Ns1 dx mA
 ne:dx≠x
theorem jdc{h:aj}{dx:ab}{mA:Str->Option ae}(n:h.Ns1 dx mA):∃od,h.get? dx=some od/\∀name,CP name od=some (mA name):=by
 obtain⟨o,es,ep,ho,hd,hk,_,hm⟩:=n;refine⟨o,ho,fun name=>?_⟩;have e:=hm name;unfold nsFind findBy at e;rw[<- Array.find?_toList]at e;unfold CP;rw[hd];dsimp only;split
 .rename_i y q
  rw[q]at e;exact MW some e
 .rename_i q
  rw[q]at e;have a:es.toList.any (·.refKey)=false:=by
   rw[List.any_eq_false];intro y hy;obtain⟨z,t,Fx⟩:=hk y (MM.mp hy);simp[xb.refKey,Fx]
  have a':¬es.toList.any (·.refKey)=true:=by rw[a];exact cP
  rw[MT a'];exact MW some e
theorem ObjM.look{h:aj}{x dx C:ab}{mA:Str->Option ae}(I:ObjM h x dx C mA):∃od,PySem.W.InstAt h x (lu C dx) C (some od)/\∀name,CP name od=some (mA name):=
 let ⟨od,ho,hl⟩:=jdc I.ns
 ⟨od,⟨I.obj,rfl,rfl,ho⟩,hl⟩
section
variable {prog:az}{w:aw}{A:aL}{E:ae->af->Prop}{s:af}{K:aq}{x dx C f:ab}{mA:Str->Option ae}{name:Str}{v:ae}
theorem jgQ{GW:Bool}{Q:ae->af->Prop}(X:K.In s.heap)(I:ObjM s.heap x dx C mA)(hg:lp K C name=true)(hh:lx K C=true)
  (ha:bP K (.ref C) name=some none) (hv:mA name=some v) (iN:Ir v=true) (h:Q v { s with toks:=s.toks+1 }) :
  al (ai prog w) A (getAttr (.ref x) name GW) Q E s:=by
 obtain⟨od,J,hl⟩:=I.look
 exact PySem.W.get_value X J (PySem.W.plainGet_of hg).1 (PySem.W.findObj_own hh ha rfl (by rw[hl,hv])) iN h
theorem jfO{ns:List Str}{Q:Unit->af->Prop}(X:K.In s.heap)(I:ObjM s.heap x dx C mA)
  (hs:bP K (.ref C) "__setattr__" = some (some (.builtin "object.__setattr__"))) (hp:mG K C=true) (ht:CM K C name=some none) (hh:lx K C=true)
  (hw:wW mA ns) (hsz:ns.length<=aE)
  (h:∀h',ObjM h' x dx C (fun y=>if y=name then some v else mA y)->lB dx s.heap h'->Q () { s with heap:=h',toks:=s.toks+2 }) :
  al (ai prog w) A (setAttr (.ref x) name v) Q E s:=by
 obtain⟨od,J,hl⟩:=I.look
 refine PySem.W.set_plain X J hs (PySem.W.osa_open (s:={ s with toks:=s.toks+1 }) (r:=none) X J hp ht fun b=>?_)
 obtain⟨cd,hc,iV⟩:=PySem.W.any_some hh
 have hx:s.heap.get? x=some ⟨.ref C,some dx,.plain,#[]⟩:=I.obj
 refine ar (aN (ar (ar (wpAny_loadPart hx (ar (PySem.W.Looks.here (s:={ s with toks:=s.toks+1 }) (PySem.W.looks_clsIn X hc) ?_))))))
 rw[iV]
 refine aN (a:=some dx) (ar (aN (ar ?_)))
 refine wpAny_nsSet1 (s:={ s with toks:=s.toks+1 }) I.ns fun h' fR fq=>?_
 obtain⟨oD,esD,epD,Fh,FQ,FT⟩:=fR.count (wW.cons name v hw)
 refine ar (wpAny_lookBehind Fh (by rw[FQ];exact pastItsLine_dict (aG FT (by rw[bM];omega))) ?_)
 exact aN (h _ ⟨(fq.2 _ (cY I.ne)).trans I.obj,fR,I.ne⟩ fq)
theorem je2{R:ou->af->Prop}{vs:List ae}{kw:List (Str×ae)}(X:K.In s.heap)(hm:mH K C=true)
  (hi:bP K (.ref C) "__init__" = some (some (.ref f))) (hf:PySem.W.typeIn K (.ref f)=some (.type "function"))
  (h:dg (ai prog w) (A.under (.builtin "type.__call__" ⟨.ref C :: vs,kw⟩)) (.call (.ref f) ⟨.ref (s.heap.objs.size+1) :: vs,kw⟩) (PySem.W.InitBack (s.heap.objs.size+1) R)
   { s with heap:=(s.heap.push iz).push (lu C s.heap.objs.size) }) :
  dg (ai prog w) A (.call (.ref C) ⟨vs,kw⟩) R s:=by
 obtain⟨hh,g,d,t,os⟩:=s
 exact PySem.W.make_core (PySem.W.makes_of X hm) (PySem.W.looks_findIn X hi) (fun self=>PySem.W.bind_fn X self hf) (.inl rfl) h
end
def yq(f:Str)(v:V):List (Str×V)->List (Str×V)
 | []=>[(f,v)]
 | (g,x) :: r=>if g=f then (g,v) :: r else (g,x) :: yq f v r
theorem Kt(f g:Str)(v:V):∀fs:List (Str×V),(yq f v fs).lookup g=if g=f then some v else fs.lookup g
 | []=>by
  show gX g [(f,v)]=_;by_cases h:g=f
  .have hb:(g == f)=true:=beq_iff_eq.mpr h
   simp only[gX,hb,MU h]
  .have hb:(g == f)=false:=MV.mpr h
   simp only[gX,hb,MT h]
 | (k,x) :: r=>by
  have ih:=Kt f g v r;rw[show yq f v ((k,x) :: r)=(if k=f then (k,v) :: r else (k,x) :: yq f v r) from rfl];by_cases hk:k=f
  .rw[MU hk]
   by_cases h:g=k
   .have hb:(g == k)=true:=beq_iff_eq.mpr h
    simp only[gX,hb,MU (h.trans hk)]
   .have hb:(g == k)=false:=MV.mpr h
    simp only[gX,hb,MT (fun e:g=f=>h (e.trans hk.symm))]
  .rw[MT hk]
   by_cases h:g=k
   .have hb:(g == k)=true:=beq_iff_eq.mpr h
    simp only[gX,hb,MT (fun e:g=f=>hk (h.symm.trans e))]
   .have hb:(g == k)=false:=MV.mpr h
    simp only[gX,hb];exact ih
theorem Kj(f:Str)(v:V):∀fs:List (Str×V),f∈(yq f v fs).map (·.1)/\∀g,g∈fs.map (·.1)->g∈(yq f v fs).map (·.1)
 | []=>⟨by simp[yq],fun g h=>by simp at h⟩
 | (k,x) :: r=>by
  obtain⟨i1,i2⟩:=Kj f v r;rw[show yq f v ((k,x) :: r)=(if k=f then (k,v) :: r else (k,x) :: yq f v r) from rfl];by_cases hk:k=f
  .rw[MU hk]
   subst hk;exact⟨by simp,fun g h=>by simpa using h⟩
  .rw[MT hk]
   refine⟨?_,fun g h=>?_⟩
   .rw[bg]
    exact bG _ i1
   .rw[bg]at h |-
    rcases a_.mp h with e | e
    .exact a_.mpr (.inl e)
    .exact bG _ (i2 g e)
theorem Ku(f:Str)(v:V):∀fs:List (Str×V),(yq f v fs).length<=fs.length+1
 | []=>by simp[yq]
 | (k,x) :: r=>by
  have ih:=Ku f v r;rw[show yq f v ((k,x) :: r)=(if k=f then (k,v) :: r else (k,x) :: yq f v r) from rfl];by_cases hk:k=f
  .rw[MU hk,bM,bM];omega
  .rw[MT hk,bM,bM];omega
theorem RelO.some_of{v:V}{o:Option ae}(r:RelO (some v) o):∃u,o=some u/\RelV v u:=by
 cases o with
 | none=>exact (show False from r).elim
 | some u=>exact⟨u,rfl,r⟩
theorem RelO.none_of{o:Option ae}(r:RelO none o):o=none:=by
 cases o with
 | none=>rfl
 | some u=>exact (show False from r).elim
theorem jdn{v:V}{u:ae}(r:RelV v u):Ir u=true:=by
 cases v with
 | non=>cases (show u=Value.none from r);rfl
 | bl b=>cases (show u=Value.bool b from r);rfl
 | int i=>obtain⟨t,e⟩:=(show ∃t,u=Value.int i t from r);cases e;rfl
 | str x=>obtain⟨t,e⟩:=(show ∃t,u=Value.str x t from r);cases e;rfl
 | byt b=>obtain⟨t,e⟩:=(show ∃t,u=Value.bytes b t from r);cases e;rfl
 | flt b=>obtain⟨t,e⟩:=(show ∃t,u=Value.float b t from r);cases e;rfl
 | ref a=>cases (show u=Value.ref a from r);rfl
 | ty n=>cases (show u=Value.type n from r);rfl
section
variable {P:az}{w:aw}{H H':Hp}{h h':aj}{a C dx:ab}{fs pN:List (Str×V)}
theorem ZO(hok:HOk P w H h)(e:H a=some (.ins C dx fs)):∃mA,ObjM h a dx C mA/\(∀f,RelO (fs.lookup f) (mA f))/\wW mA (fs.map (·.1))/\fs.length<=1000/\H dx=some (.own a):=by
 obtain⟨d,z,ne,ob,mA,n,r,q⟩:=(show ObjOk P w H h a (.ins C dx fs) from hok a _ e)
 exact⟨mA,⟨ob,n,ne⟩,r,q,z,d⟩
end
structure Cls(K:aq)(C:ab):Prop where
 pg:lp K C CV=true
 hd:lx K C=true
 po:mG K C=true
 sa:bP K (.ref C) "__setattr__" = some (some (.builtin "object.__setattr__"))
theorem Cls.get{K:aq}{C:ab}(c:Cls K C)(f:Str):lp K C f=true:=c.pg
def NoAttr(K:aq)(C:ab)(f:Str):Prop:=bP K (.ref C) f=some none
theorem NoAttr.taker{K:aq}{C:ab}{f:Str}(n:NoAttr K C f):CM K C f=some none:=by
 unfold CM;rw[show bP K (.ref C) f=some none from n];rfl
section
variable {X:Cx}{ad:List (ab×Obj)}{σ:St}{H:Hp}{s:af}{a C dx:ab}{fs:List (Str×V)}{f:Str}{v:V}{A:aL}{E:ae->af->Prop}
theorem jby{b:Bool}{Q:ae->af->Prop}(I:Inv X ad σ H s)(e:H a=some (.ins C dx fs))(c:Cls X.K C)(n:NoAttr X.K C f)(l:fs.lookup f=some v)
  (h:∀u s',Inv X ad σ H s'->RelV v u->Q u s'):al (ai X.prog X.w) A (getAttr (.ref a) f b) Q E s:=by
 obtain⟨mA,O,r,_,_,_⟩:=ZO I.hok e
 obtain⟨u,hu,ru⟩:=RelO.some_of (v:=v) (o:=mA f) (by rw[<- l];exact r f)
 exact jgQ I.kIn O (c.get f) c.hd n hu (jdn ru) (h u _ (I.tok _) ru)
theorem jbh{y:V}{u:ae}{Q:Unit->af->Prop}(I:Inv X ad σ H s)(e:H a=some (.ins C dx fs))(c:Cls X.K C)(n:NoAttr X.K C f)(hl:fs.length < 1000)(ry:RelV y u)
  (h:∀s',Inv X ad σ (upd H a (.ins C dx (yq f y fs))) s'->Q () s'):al (ai X.prog X.w) A (setAttr (.ref a) f u) Q E s:=by
 obtain⟨mA,O,r,wi,_,ho⟩:=ZO I.hok e
 have hz:(fs.map (·.1)).length<=aE:=by rw[aB,fX];omega
 refine jfO I.kIn O c.sa c.po n.taker c.hd wi hz fun h' O' sb=>h _ ?_
 have hd:∃o,h'.get? dx=some o:=let ⟨o,_,_,e',_⟩:=O'.ns;⟨o,e'⟩
 refine I.write (x:=a) (e:=dx) (by rw[e];exact True.intro) (.inr ho) (fun b q hb z=>(sb.2 b hb).trans z) hd ?_
 refine⟨by rw[jD O.ne];exact ho,?_,O.ne,O'.obj,_,O'.ns,fun g=>?_,fun g hg=>?_⟩
 .have:=Ku f y fs;omega
 .show RelO ((yq f y fs).lookup g) (if g=f then some u else mA g)
  rw[Kt]
  by_cases q:g=f
  .rw[MU q,MU q];exact ry
  .rw[MT q,MT q];exact r g
 .by_cases q:g=f
  .rw[q];exact (Kj f y fs).1
  .refine (Kj f y fs).2 g (wi g fun z=>hg ?_)
   show (if g=f then some u else mA g)=none
   rw[MT q];exact z
theorem Inv.made(I:Inv X ad σ H s):Inv X ad σ (upd (upd H s.heap.objs.size (.own (s.heap.objs.size+1))) (s.heap.objs.size+1) (.ins C s.heap.objs.size []))
  { s with heap:=(s.heap.push iz).push (lu C s.heap.objs.size) }:=by
 have e1:(s.heap.push iz).get? s.heap.objs.size=some iz:=eh s.heap rfl
 have e2:((s.heap.push iz).push (lu C s.heap.objs.size)).get? (s.heap.objs.size+1)=some (lu C s.heap.objs.size):=by
  have:=eh (s.heap.push iz) (o:=lu C s.heap.objs.size) rfl;rwa [sv]at this
 have e3:(s.heap.push iz).Ns s.heap.objs.size (fun _=>none):=⟨iz,#[],_,e1,rfl,(fun e he=>absurd he (by simp)),fun _=>rfl⟩
 have I1:=I.laid (a:=s.heap.objs.size) (o:=.own (s.heap.objs.size+1)) (h':=s.heap.push iz) (t':=s.toks) (fun b u q=>bK _ q) (aD _) ⟨_,e1⟩
 refine I1.laid (a:=s.heap.objs.size+1) (o:=.ins C s.heap.objs.size []) (t':=s.toks) (fun b u q=>bK _ q) (DE (sv _ _)) ?_
 have ne:s.heap.objs.size≠s.heap.objs.size+1:=bB (LZ _)
 refine⟨by rw[jD ne,jf],bF _,ne,e2,fun _=>none,(aj.Ns1.of_empty e3).at fun o q=>bK _ q,fun _=>True.intro,fun y hy=>absurd rfl hy⟩
theorem jgX{prog:az}{w:aw}{env:Env}{e:ag}{f:Str}{pos:Pos}{s:af}{Q:ae->af->Prop}(hb:gO e f env (eval e env)=eval e env)
  (h:al (ai prog w) A (eval e env) (fun o s₁=>al (ai prog w) A (getAttr o f true) Q E s₁) E s):al (ai prog w) A (eval (.Attribute e f pos) env) Q E s:=
 Attribute_any_ h (by rw[arm_eval_Attribute,hb])
end
def jfK(K:aq)(ta:TE)(f:Str):TE:=fun σ H Q=>ta σ H fun x H1=>∃a C dx fs v,x=.ref a/\H1 a=some (.ins C dx fs)/\Cls K C/\NoAttr K C f/\fs.lookup f=some v/\Q v H1
def jiF(K:aq)(ta tv:TE)(f:Str):TS:=fun D σ H=>tv σ H fun y H1=>ta σ H1 fun x H2=>∃a C dx fs,x=.ref a/\H2 a=some (.ins C dx fs)/\Cls K C/\NoAttr K C f/\fs.length < 1000/\
 D.nx σ (upd H2 a (.ins C dx (yq f y fs)))
section
variable {X:Cx}{o e value:ag}{f:Str}{pos c9 D5:Pos}{ta tv:TE}
theorem jeB(he:PE X e ta)(hb:gO e f X.env (eval e X.env)=eval e X.env):PE X (.Attribute e f pos) (jfK X.K ta f):=by
 intro ad s σ H Q I h;refine jgX hb (thn (he ad s σ H _ I h) fun u s1 ⟨x,H1,I1,rx,a,C,dx,fs,v,ex,ea,c,n,l,q⟩=>?_);subst ex;obtain rfl:u=Value.ref a:=rx;exact jby I1 ea c n l fun u' s2 I2 ru=>⟨v,H1,I2,ru,q⟩
theorem jhQ(ha:PE X o ta)(hv:PE X value tv)(hs:gL value (some (.Attribute o f c9)) pos.line X.env=pure false):PS X (.Assign [.Attribute o f c9] value pos) (jiF X.K ta tv f):=by
 intro ad s σ H D I h;refine plainObj_wpAny_Assign_Attribute (thn (hv ad s σ H _ I h) fun u s1 ⟨y,H1,I1,ry,q⟩=>thn (ha ad s1 σ H1 _ I1 q) fun ov s2 ⟨x,H2,I2,rx,a,C,dx,fs,ex,ea,c,n,l,q2⟩=>?_) hs;subst ex;obtain rfl:ov=Value.ref a:=rx;exact jbh I2 ea c n l ry fun s3 I3=>⟨σ,_,I3,q2⟩
end
section
variable {X:Cx}{ad:List (ab×Obj)}{σ:St}{H:Hp}{s:af}{A:aL}{E:ae->af->Prop}{Q:ae->af->Prop}{c:ae}{b:Bool}
inductive TyOf(K:aq)(H:Hp):V->ae->Prop where
 | non:TyOf K H .non (.type "NoneType")
 | bl (x:Bool):TyOf K H (.bl x) (.type "bool")
 | int (i:Int):TyOf K H (.int i) (.type "int")
 | str (x:Str):TyOf K H (.str x) (.type "str")
 | flt (x:UInt64):TyOf K H (.flt x) (.type "float")
 | lst {a:ab} {xs:List V} (e:H a=some (.lst xs)):TyOf K H (.ref a) (.type "list")
 | frz {a:ab} {o:Obj} {xs:List V} (e:H a=some (.frz o (.lst xs))):TyOf K H (.ref a) (.type "list")
 | tup {a:ab} {xs:List V} (e:H a=some (.tup xs)):TyOf K H (.ref a) (.type "tuple")
 | dK {a:ab} {kvs:List (Key×V)} (e:H a=some (.dK kvs)):TyOf K H (.ref a) (.type "dict")
 | dT {a:ab} {kvs:List (List Key×V)} (e:H a=some (.dT kvs)):TyOf K H (.ref a) (.type "dict")
 | ins {a C dx:ab} {fs:List (Str×V)} (e:H a=some (.ins C dx fs)) (cl:Cls K C) (ha:bP K (.ref C) "__class__" = some (some (.builtin "object.__class__")))
   (hn:PySem.W.specialIn K (.builtin "object.__class__") "__get__" = some (some (.builtin "getset_descriptor.__get__"))) (pd:PySem.W.takesIn K (.builtin "object.__class__")=some true)
   (hm:PySem.W.mroIn K C (.type "object")=some true):TyOf K H (.ref a) (.ref C)
theorem jdj{x:V}{u t:ae}(I:Inv X ad σ H s)(rx:RelV x u)(ty:TyOf X.K H x t)(e:CQ X.K t c=some b)(h:∀tk,Q (.bool b) { s with toks:=tk }):
  al (ai X.prog X.w) A (call (.builtin "isinstance") [u,c]) Q E s:=by
 cases ty with
 | non=>cases (show u=Value.none from rx);exact fZ PySem.W.kitx_none I.kIn True.intro e (fun z=>nomatch z) h
 | bl y=>cases (show u=Value.bool y from rx);exact fZ PySem.W.kitx_bool I.kIn True.intro e (fun z=>nomatch z) h
 | int i=>obtain⟨t,q⟩:=(show ∃t,u=Value.int i t from rx);cases q;exact fZ PySem.W.kitx_int I.kIn True.intro e (fun z=>nomatch z) h
 | str y=>obtain⟨t,q⟩:=(show ∃t,u=Value.str y t from rx);cases q;exact fZ PySem.W.kitx_str I.kIn True.intro e (fun z=>nomatch z) h
 | flt y=>obtain⟨t,q⟩:=(show ∃t,u=Value.float y t from rx);cases q;exact fZ PySem.W.kitx_float I.kIn True.intro e (fun z=>nomatch z) h
 | @lst a xs ea=>
  cases (show u=Value.ref a from rx)
  obtain⟨_,_,n,_,h1⟩:=(show ObjOk X.prog X.w H s.heap a (.lst xs) from I.hok a _ ea)
  exact fZ Io I.kIn ⟨_,h1,rfl⟩ e (fun z=>nomatch z) h
 | @frz a ob xs ea=>
  cases (show u=Value.ref a from rx)
  obtain⟨_,_,_,n,_,h1⟩:=(show ObjOk X.prog X.w H s.heap a (.frz ob (.lst xs)) from I.hok a _ ea)
  exact fZ Io I.kIn ⟨_,h1,rfl⟩ e (fun z=>nomatch z) h
 | @tup a xs ea=>
  cases (show u=Value.ref a from rx)
  obtain⟨_,_,_,p⟩:=(show ObjOk X.prog X.w H s.heap a (.tup xs) from I.hok a _ ea)
  obtain⟨o,h1,h2,_⟩:=p
  exact fZ PySem.W.kitx_tuple I.kIn ⟨o,h1,h2⟩ e (fun z=>nomatch z) h
 | @dK a kvs ea=>
  cases (show u=Value.ref a from rx)
  obtain⟨_,_,vs,_,p⟩:=(show ObjOk X.prog X.w H s.heap a (.dK kvs) from I.hok a _ ea)
  obtain⟨o,es,ep,h1,h2,_⟩:=p
  exact fZ Ip I.kIn ⟨o,h1,h2.1⟩ e (fun z=>nomatch z) h
 | @dT a kvs ea=>
  cases (show u=Value.ref a from rx)
  obtain⟨_,_,xs,_,o,es,ep,h1,h2,_⟩:=(show ObjOk X.prog X.w H s.heap a (.dT kvs) from I.hok a _ ea)
  exact fZ Ip I.kIn ⟨o,h1,h2.1⟩ e (fun z=>nomatch z) h
 | @ins a C dx fs ea cl ha hn pd hm=>
  cases (show u=Value.ref a from rx)
  obtain⟨mA,O,_⟩:=ZO I.hok ea
  obtain⟨od,J,_⟩:=O.look
  exact fZ (PySem.W.kitx_own (cl.get _) cl.hd ha hn pd hm) I.kIn J e (fun z=>nomatch z) h
end
structure Room(k:Nat)(A:aL):Prop where
 hd:A.handled=none
 dp:A.depth+3 * k+5 < recursionLimit
 un:A.units+16 * k+200 < cLine
 gd:A.guards=some []
theorem Room.mono{j k:Nat}{A:aL}(r:Room k A)(h:j<=k):Room j A:=⟨r.hd,by have:=r.dp;omega,by have:=r.un;omega,r.gd⟩
theorem Room.deeper{k:Nat}{A:aL}(r:Room (k+1) A)(env:Env):Room k (A.deeper env):=
 ⟨r.hd,by have:=r.dp;show A.depth+1+3 * k+5 < _;omega,by have:=r.un;show A.units+3+16 * k+200 < _;omega,r.gd⟩
theorem Room.in1{k:Nat}{A:aL}(r:Room (k+1) A):Room k A.in1:=
 ⟨r.hd,by have:=r.dp;show A.depth+3 * k+5 < _;omega,by have:=r.un;show A.units+1+16 * k+200 < _;omega,r.gd⟩
theorem jbr{A:aL}{C:ab}{us:List ae}{kw:List (Str×ae)}:(A.under (.builtin "type.__call__" ⟨.ref C :: us,kw⟩)).depth=A.depth+1:=by
 first | rfl | simp[Df,Code.weight,Code.isCreation,Code.isGuard,Code.isCaller,Ll,Da,guardIds]
theorem jbq{A:aL}{C:ab}{us:List ae}{kw:List (Str×ae)}:(A.under (.builtin "type.__call__" ⟨.ref C :: us,kw⟩)).units=A.units+1:=by
 first | rfl | simp[Df,Code.cUnits,Ll,Da]
theorem jaI{A:aL}{C:ab}{us:List ae}{kw:List (Str×ae)}:(A.under (.builtin "type.__call__" ⟨.ref C :: us,kw⟩)).guards=A.guards:=by
 first | rfl | (cases A with | mk a b c d e=>cases d <;> rfl)
theorem Room.make{k:Nat}{A:aL}(r:Room (k+1) A)(C:ab)(us:List ae)(kw:List (Str×ae)):Room k (A.under (.builtin "type.__call__" ⟨.ref C :: us,kw⟩)):=
 ⟨r.hd,by have:=r.dp;rw[jbr];omega,by have:=r.un;rw[jbq];omega,by rw[jaI];exact r.gd⟩
theorem Room.depth{k:Nat}{A:aL}(r:Room k A):A.depth < recursionLimit:=by have:=r.dp;omega
theorem Room.units{k:Nat}{A:aL}(r:Room k A):A.units+64 < cLine:=by have:=r.un;omega
def jdV:TA:=fun _ H Q=>Q [] H
def jbU(ta:TE)(tr:TA):TA:=fun σ H Q=>ta σ H fun x H1=>tr σ H1 fun xs H2=>Q (x :: xs) H2
section
variable {X:Cx}{e:ag}{es:List ag}{te:TE}{t:TA}{pos:Pos}
theorem jeH:PA X [] jdV:=fun _ _ _ _ H Q I h=>Db ⟨[],H,I,.nil,h⟩
theorem jgk(ha:PE X e te)(hr:PA X es t)(hs:bO (e :: es) X.env=(false,eval e X.env) :: bO es X.env:=by rfl):PA X (e :: es) (jbU te t):=by
 intro pos ad s σ H Q I h;rw[hs];show al _ _ (spliced ((false,eval e X.env) :: eO pos (bO es X.env))) _ _ s;refine sw (thn (ha ad s σ H _ I h) fun u s1 ⟨x,H1,I1,r1,q1⟩=>?_);exact thn (hr pos ad s1 σ H1 _ I1 q1) fun us s2 ⟨xs,H2,I2,r2,q2⟩=>⟨x :: xs,H2,I2,.cons r1 r2,q2⟩
def jiw(t:TA):TE:=fun σ H Q=>t σ H fun xs H1=>xs.length<=aE/\∀p,H1 p=none->Q (.ref p) (upd H1 p (.tup xs))
def jiA(t:TA):TE:=fun σ H Q=>t σ H fun xs H1=>xs.length<=aE/\∀p,H1 p=none->Q (.ref p) (upd H1 p (.lst xs))
theorem jew{x1}(h:PA X es t):PE X (.Tuple es x1 pos) (jiw t):=by
 intro ad s σ H Q I hq;refine wpAny_Tuple_spliced (thn (h pos ad s σ H _ I hq) fun us s1 ⟨xs,H1,I1,r,z,q⟩=>⟨by rw[<- r.length];exact z,?_⟩);have hf:H1 s1.heap.objs.size=none:=I1.hok.fresh (aD _);refine⟨.ref s1.heap.objs.size,upd H1 s1.heap.objs.size (.tup xs),I1.laid (t':=s1.toks) (fun b u e=>bK _ e) (aD _) ?_,rfl,q _ hf⟩;exact⟨z,us,r,⟨_,eh _ rfl,rfl,_,rfl⟩⟩
theorem jhU(h:PA X es t):PE X (.List es pos) (jiA t):=by
 intro ad s σ H Q I hq;refine wpAny_List_spliced (thn (h pos ad s σ H _ I hq) fun us s1 ⟨xs,H1,I1,r,z,q⟩=>⟨by rw[<- r.length];exact z,?_⟩);have hf:H1 s1.heap.objs.size=none:=I1.hok.fresh (aD _);refine⟨.ref s1.heap.objs.size,upd H1 s1.heap.objs.size (.lst xs),I1.laid (t':=s1.toks) (fun b u e=>bK _ e) (aD _) ?_,rfl,q _ hf⟩;exact⟨z,us,0,r,eh _ rfl⟩
end
abbrev Sp:=List V->Hp->VK->XK->Prop
abbrev CXT:=List Env->Hp->af->XK->ae->af->Prop
structure Env0(P:az)(w:aw)(K:aq)(mg:Str->Option ae)(base:aj)(A:aL)(outer:List Env)(s:af)(H:Hp):Prop where
 frames:A.frames=some outer
 mod:Mod K mg base
 bs:∀b o,base.get? b=some o->s.heap.get? b=some o/\H b=none
 bsz:base.objs.size<=s.heap.objs.size
 funs:s.heap.FunFrames base outer
 frf:∀b∈frs outer,H b=none
 hok:HOk P w H s.heap
 bare:iC s.gens
def CE(outer:List Env)(P:az)(w:aw)(H:Hp)(s:af)(Q:VK)(u:ae)(s':af):Prop:=
 ∃v H',s'.os=s.os/\iC s'.gens/\Un (frs outer) [] H H' s.heap s'.heap/\HOk P w H' s'.heap/\RelV v u/\Q v H'
def CR(CX:CXT)(outer:List Env)(P:az)(w:aw)(H:Hp)(s:af)(Q:VK)(E:XK)(r:ou)(s':af):Prop:=
 match r with
 | .ok (.ret u)=>CE outer P w H s Q u s'
 | .ok _=>False
 | .error e=>CX outer H s E e s'
structure FnOk(P:az)(w:aw)(K:aq)(mg:Str->Option ae)(base:aj)(CX:CXT)(k:Nat)(f:ab)(fd:aH)(ps:List Str)(sp:Sp):Prop where
 len:∀vs H Q E,sp vs H Q E->vs.length=ps.length
 run:∀(A:aL) (outer:List Env) (s:af) (H:Hp) (args:Args) (us:List ae) (vs:List V) (Q:VK) (E:XK),Room k A->Env0 P w K mg base A outer s H->mK s fd args (ps.zip us)->Vals vs us->sp vs H Q E->
  dg (ai P w) A (.call (.ref f) args) (CR CX outer P w H s Q E) s
theorem FnOk.imp{P:az}{w:aw}{K:aq}{mg:Str->Option ae}{base:aj}{CX:CXT}{k:Nat}{f:ab}{fd:aH}{ps:List Str}{sp xS:Sp}(F:FnOk P w K mg base CX k f fd ps sp)
  (h:∀vs H Q E,xS vs H Q E->sp vs H Q E):FnOk P w K mg base CX k f fd ps xS:=
 ⟨fun vs H Q E q=>F.len vs H Q E (h _ _ _ _ q),fun A outer s H args us vs Q E hr he hb hv hs=>F.run A outer s H args us vs Q E hr he hb hv (h _ _ _ _ hs)⟩
theorem Env0.make{P:az}{w:aw}{K:aq}{mg:Str->Option ae}{base:aj}{A:aL}{outer:List Env}{s:af}{H:Hp}(e:Env0 P w K mg base A outer s H)(C:ab)(us:List ae)(kw:List (Str×ae)):
  Env0 P w K mg base (A.under (.builtin "type.__call__" ⟨.ref C :: us,kw⟩)) outer s H:=⟨by first | exact e.frames | (simpa[Df,Code.envs,Da,pushEnvs]using e.frames),e.mod,e.bs,e.bsz,e.funs,e.frf,e.hok,e.bare⟩
theorem Env0.in1{P:az}{w:aw}{K:aq}{mg:Str->Option ae}{base:aj}{A:aL}{outer:List Env}{s:af}{H:Hp}(e:Env0 P w K mg base A outer s H):
  Env0 P w K mg base A.in1 outer s H:=⟨e.frames,e.mod,e.bs,e.bsz,e.funs,e.frf,e.hok,e.bare⟩
section
variable {X:Cx}{ad:List (ab×Obj)}{σ:St}{H:Hp}{s s':af}
theorem Inv.env0(I:Inv X ad σ H s):Env0 X.prog X.w X.K X.mg X.base X.A X.stack s H:=
 ⟨I.ok.frames,I.ok.mod,I.bs,aG I.ok.bsz I.sz,I.stack,I.stkFree,I.hok,I.bare⟩
theorem Inv.after{Q:VK}{u:ae}(I:Inv X ad σ H s)(h:CE X.stack X.prog X.w H s Q u s'):EP X ad σ Q u s':=by
 obtain⟨v,H',os,bare,un,hok,r,q⟩:=h;obtain⟨hh,g,d,t,tV⟩:=s';obtain rfl:tV=s.os:=os;exact⟨v,H',I.call (h':=hh) (g':=g) (d':=d) (t':=t) (ch:=[]) un hok bare (fun b z=>absurd z (by simp)),r,q⟩
end
def jd1(sp:Sp)(dJ:List V)(E:XK)(t:TA):TE:=fun σ H Q=>t σ H fun vs H1=>sp (vs++dJ) H1 Q E
def jhb(C:ab)(sp:Sp)(dJ:List V)(E:XK)(t:TA):TE:=fun σ H Q=>t σ H fun vs H1=>∀x dx,H1 x=none->H1 dx=none->dx≠x->
 sp (.ref x :: (vs++dJ)) (upd (upd H1 dx (.own x)) x (.ins C dx [])) (fun v H2=>v=.non/\Q (.ref x) H2) E
def Binds(K:aq)(fd:aH)(ps:List Str)(ds:List ae):Prop:=
 ∀(s:af) (us:List ae),K.In s.heap->(us++ds).length=ps.length->mK s fd ⟨us,[]⟩ (ps.zip (us++ds))
theorem Binds.all{K:aq}{fd:aH}{ps:List Str}(h:∀us:List ae,us.length=ps.length->bindArgs fd ⟨us,[]⟩=pure (ps.zip us)):Binds K fd ps []:=fun s us _ hl=>by
 rw[gh]at hl |-;exact .of_eq (h us hl)
def YC(CX:CXT)(X:Cx)(E:XK):Prop:=∀(ad:List (ab×Obj)) (σ:St) (H:Hp) (s:af) (e:ae) (s':af),Inv X ad σ H s->CX X.stack H s E e s'->X.xe e s'
section
variable {X:Cx}{CX:CXT}{k:Nat}{f C:ab}{fd:aH}{ps:List Str}{sp:Sp}{dJ:List V}{ds:List ae}{E:XK}{x m:Str}{p pos cC:Pos}{e o:ag}{es:List ag}{ta:TE}{t:TA}
theorem jhD{ad:List (ab×Obj)}{σ:St}{H:Hp}{s:af}{Q:VK}{us:List ae}{vs:List V}(F:FnOk X.prog X.w X.K X.mg X.base CX k f fd ps sp)(hr:Room k X.A)(hb:Binds X.K fd ps ds)(hd:Vals dJ ds)(hx:YC CX X E)
  (I:Inv X ad σ H s) (r:Vals vs us) (h:sp (vs++dJ) H Q E):al (ai X.prog X.w) X.A (call (.ref f) us) (EP X ad σ Q) X.xe s:=by
 have r2:Vals (vs++dJ) (us++ds):=r.append hd
 have hl:(us++ds).length=ps.length:=by rw[<- r2.length];exact F.len _ _ _ _ h
 refine wpAny_call (si (F.run X.A X.stack s H ⟨us,[]⟩ (us++ds) (vs++dJ) Q E hr I.env0 (hb s us I.kIn hl) r2 h) fun r s' hq=>?_)
 cases r with
 | error e=>exact hx ad σ H s e s' I hq
 | ok fl=>
  cases fl with
  | ret u=>exact I.after hq
  | next=>exact fg hq
  | brk=>exact fg hq
  | cont=>exact fg hq
theorem jgi(F:FnOk X.prog X.w X.K X.mg X.base CX k f fd ps sp)(hr:Room k X.A)(hg:Gl X x)(hm:X.mg x=some (.ref f))(hk:eQ X.K (.ref f)=true)(hb:Binds X.K fd ps ds)(hd:Vals dJ ds)(hx:YC CX X E)
  (ha:PA X (e :: es) t) (fu:(x == ("__debug__" : Str))=false:=by decide) (he:bO (e :: es) X.env=(false,eval e X.env) :: bO es X.env:=by rfl) (hZ:(eO pos (bO es X.env)).any (·.1)=false:=by rfl) :
  PE X (.Call (.Name x p) (e :: es) [] pos) (jd1 sp dJ E t):=by
 intro ad s σ H Q I h
 refine wM (ZM I hg hm ?_ fu)
 refine PySem.W.callWith_K (h₀:=X.base) I.ok.mod.kin hk (thn (ha pos ad s σ H _ I h) fun us s1 ⟨vs,H1,I1,r,q⟩=>⟨I1.kIn,?_⟩) he hZ
 exact jhD F hr hb hd hx I1 r q
structure Mk(K:aq)(C f:ab):Prop where
 makes:mH K C=true
 init:bP K (.ref C) "__init__" = some (some (.ref f))
 fn:PySem.W.isFn K (.ref f)=true
 kp:eQ K (.ref C)=true
theorem jej{ad:List (ab×Obj)}{σ:St}{H:Hp}{s:af}{Q:VK}{us:List ae}{vs:List V}(M:Mk X.K C f)(F:FnOk X.prog X.w X.K X.mg X.base CX k f fd ps sp)(hr:Room (k+1) X.A)(hb:Binds X.K fd ps ds)(hd:Vals dJ ds)
  (hx:YC CX X E) (I:Inv X ad σ H s) (r:Vals vs us)
  (h:∀x dx,H x=none->H dx=none->dx≠x->sp (.ref x :: (vs++dJ)) (upd (upd H dx (.own x)) x (.ins C dx [])) (fun v H2=>v=.non/\Q (.ref x) H2) E) :
  al (ai X.prog X.w) X.A (call (.ref C) us) (EP X ad σ Q) X.xe s:=by
 have hq:=h (s.heap.objs.size+1) s.heap.objs.size (I.hok.fresh (cO _)) (I.hok.fresh (aD _)) (bB (LZ _))
 have I2:=Inv.made (C:=C) I
 have r2:Vals (V.ref (s.heap.objs.size+1) :: (vs++dJ)) (Value.ref (s.heap.objs.size+1) :: (us++ds)):=.cons rfl (r.append hd)
 have hl:(Value.ref (s.heap.objs.size+1) :: us++ds).length=ps.length:=by
  have e:=r2.length;rw[F.len _ _ _ _ hq]at e;exact e.symm
 refine wpAny_call (je2 (f:=f) I.kIn M.makes M.init (beq_iff_eq.mp M.fn) (si (F.run _ X.stack _ _ ⟨Value.ref (s.heap.objs.size+1) :: us,[]⟩ (Value.ref (s.heap.objs.size+1) :: (us++ds)) _ _ E (hr.make C us [])
  (I2.env0.make C us []) (hb _ (Value.ref (s.heap.objs.size+1) :: us) I2.kIn hl) r2 hq) fun r s' hX=>?_))
 cases r with
 | error e=>exact hx ad σ _ _ e s' I2 hX
 | ok fl=>
  cases fl with
  | ret u=>
   obtain⟨v,H',I3,rv,ev,q3⟩:=I2.after hX
   subst ev
   exact⟨rv,⟨V.ref (s.heap.objs.size+1),H',I3,rfl,q3⟩⟩
  | next=>exact fg hX
  | brk=>exact fg hX
  | cont=>exact fg hX
theorem jez(M:Mk X.K C f)(F:FnOk X.prog X.w X.K X.mg X.base CX k f fd ps sp)(hr:Room (k+1) X.A)(hg:Gl X x)(hm:X.mg x=some (.ref C))(hb:Binds X.K fd ps ds)(hd:Vals dJ ds)(hx:YC CX X E)
  (fu:(x == ("__debug__" : Str))=false:=by decide):PE X (.Call (.Name x p) [] [] pos) (jhb C sp dJ E jdV):=by
 intro ad s σ H Q I h
 refine wM (ZM I hg hm ?_ fu)
 exact PySem.W.callWith_K0 I.kIn M.kp (jej (us:=[]) M F hr hb hd hx I .nil h)
end
structure FnScope(N P:List Str)(sc:cj):Prop where
 kind:sc.kind=.function
 co:sc.isCoroutine=false
 gen:sc.isGenerator=false
 nd:N.Nodup
 pre:N.take P.length=P
 par:∀x∈P,sc.names.lookup x=some .local\/sc.names.lookup x=some .cell
 nofree:∀y∈sc.names,y.2≠.free
theorem Zh{kindOf:Str->Option fB}{x:Str}:∀{binds:List (Str×ae)} {m:Str->Option ae},(∀v,(x,v) ∉ binds)->bindL kindOf binds m x=m x
 | [],_,_=>rfl
 | (n,v) :: r,m,h=>by
  unfold bindL;rw[Zh fun w hw=>h w (bG _ hw)];split
  .have:x≠n:=by rintro rfl;exact h v bC
   simp[this]
  .rfl
theorem Zj{kindOf:Str->Option fB}{x:Str}:∀{binds:List (Str×ae)} {m:Str->Option ae},(∀v,(x,v) ∉ binds)->bindC kindOf binds m x=m x
 | [],_,_=>rfl
 | (n,v) :: r,m,h=>by
  unfold bindC;rw[Zj fun w hw=>h w (bG _ hw)];split
  .rfl
  .have:x≠n:=by rintro rfl;exact h v bC
   simp[this]
theorem Zi{kindOf:Str->Option fB}{x:Str}{v:ae}:∀{P:List Str} {vs:List ae} {i:Nat} {m:Str->Option ae},P.Nodup->P[i]?=some x->vs[i]?=some v->kindOf x=some .local->
  bindL kindOf (P.zip vs) m x=some v
 | [],_,_,_,_,h,_,_=>by simp at h
 | _ :: _,[],_,_,_,_,h,_=>by simp at h
 | p :: P,w :: vs,0,m,nd,h1,h2,hk=>by
  simp at h1 h2;subst h1;subst h2;show bindL kindOf ((p,w) :: P.zip vs) m p=_;unfold bindL;rw[Zh fun v hv=>(eS.mp nd).1 (DH hv).1,MU hk];simp
 | p :: P,w :: vs,i+1,m,nd,h1,h2,hk=>by
  show bindL kindOf ((p,w) :: P.zip vs) m x=_;unfold bindL;exact Zi (i:=i) (eS.mp nd).2 (by simpa using h1) (by simpa using h2) hk
theorem Zk{kindOf:Str->Option fB}{x:Str}{v:ae}:∀{P:List Str} {vs:List ae} {i:Nat} {m:Str->Option ae},P.Nodup->P[i]?=some x->vs[i]?=some v->kindOf x≠some .local->
  bindC kindOf (P.zip vs) m x=some v
 | [],_,_,_,_,h,_,_=>by simp at h
 | _ :: _,[],_,_,_,_,h,_=>by simp at h
 | p :: P,w :: vs,0,m,nd,h1,h2,hk=>by
  simp at h1 h2;subst h1;subst h2;show bindC kindOf ((p,w) :: P.zip vs) m p=_;unfold bindC;rw[Zj fun v hv=>(eS.mp nd).1 (DH hv).1,MT hk];simp
 | p :: P,w :: vs,i+1,m,nd,h1,h2,hk=>by
  show bindC kindOf ((p,w) :: P.zip vs) m x=_;unfold bindC;exact Zk (i:=i) (eS.mp nd).2 (by simpa using h1) (by simpa using h2) hk
def start(N:List Str)(vs:List V):St:=vs.map some++List.replicate (N.length - vs.length) none
def y9(CX:CXT)(P:az)(w:aw)(K:aq)(mg:Str->Option ae)(base:aj)(N:List Str)(bw:Str)(scope:cj)(f:ab)(cd:ae)(A:aL)(outer:List Env)(s:af)(H:Hp)(E:XK):Cx where
 prog:=P
 w:=w
 K:=K
 mg:=mg
 base:=base
 A:=A.deeper (envOfC bw scope s.heap.objs.size f cd)
 N:=N
 s₀:=s
 H₀:=H
 env:=envOfC bw scope s.heap.objs.size f cd
 outer:=outer
 stack:=envOfC bw scope s.heap.objs.size f cd :: outer
 ex:=[]
 calm:=true
 fn:=fun _=>true
 pn:=[]
 xe:=fun e s'=>al (ai P w) (A.deeper (envOfC bw scope s.heap.objs.size f cd)) (leaving (envOfC bw scope s.heap.objs.size f cd) e) (fun _ tK=>CX outer H s E e tK) (fun e' tK=>CX outer H s E e' tK) s'
theorem jaW{sc:cj}{n:Nat}{x:Str}(h:sc.names.lookup x=some .cell):∃c,(CD n sc.names []).lookup x=some c:=by
 have q:=Is sc.names n [] (.inl h);exact sJ.mp q
theorem jdl{CX:CXT}{P:az}{w:aw}{K:aq}{mg:Str->Option ae}{base:aj}{N ps:List Str}{bw:Str}{scope:cj}{f:ab}{cd:ae}{A:aL}{outer:List Env}{s s1:af}{H:Hp}{E:XK}{us:List ae}{vs:List V}
  (S:FnScope N ps scope) (hd:A.handled=none) (e0:Env0 P w K mg base A outer s H) (hl:vs.length=ps.length) (r:Vals vs us)
  (x:InCallC s s.heap.objs.size (bindL (envOfC bw scope s.heap.objs.size f cd).kindOf (ps.zip us) fun _=>none) (CD (s.heap.objs.size+1) scope.names []) (bindC (envOfC bw scope s.heap.objs.size f cd).kindOf (ps.zip us) fun _=>none) s1) :
  Inv (y9 CX P w K mg base N bw scope f cd A outer s H E) [] (start N vs) H s1:=by
 have hZ:ps.length<=N.length:=by have:=MW lN S.pre;rw[bZ]at this;omega
 obtain⟨h1,tk,rfl,hk⟩:=x.done
 have ni:∀b:ab,b ∉ (y9 CX P w K mg base N bw scope f cd A outer s H E).ex:=fun b z=>absurd (show b∈([]:List ab) from z) (by simp)
 refine⟨⟨e0.mod,S.kind,rfl,rfl,aD _,fun y z c h1 h2=>?_,fun y hy=>?_,fun y c _ h=>?_,fun _=>hd,aL.frames_deeper e0.frames,.inr ⟨rfl,rfl⟩,fun b z=>absurd z (ni b),e0.bs,e0.bsz,fun b _ _=>ni b,fun b z=>absurd z (ni b),e0.funs,e0.frf⟩,
  rfl,e0.bare,Un.kept hk,⟨_,x.toInCall.ns,fun i y v h1 h2 h3=>?_⟩,fun y c h=>⟨_,x.cell y c h⟩,e0.hok.fresh (aD _),fun y c h=>?_,fun p hp=>absurd (show p∈([]:List (ab×Obj)) from hp) (by simp),e0.hok.kept hk,?_⟩
 .exact name_of_addr x.apart (k_ h1) (k_ h2)
 .have hy:scope.names.lookup y=some .cell\/scope.names.lookup y=some .free:=hy
  rcases hy with hy | hy
  .exact jaW hy
  .exact absurd rfl (S.nofree _ (k_ hy))
 .exact cD (x.above y c (k_ h))
 .have hi:i < vs.length:=by
   unfold start at h2;by_cases hi:i < vs.length
   .exact hi
   .rw[oH (by simpa using hi)]at h2
    rw[List.getElem?_replicate]at h2;split at h2 <;> cases h2
  have ha:vs[i]?=some v:=by
   unfold start at h2;rw[xC (by simpa using hi),bH]at h2
   cases e:vs[i]? with
   | none=>rw[e]at h2;cases h2
   | some a=>rw[e]at h2;cases h2;rfl
  obtain⟨u,hu,rv⟩:=r.get ha;have hp:ps[i]?=some y:=by
   rw[<- S.pre,List.getElem?_take_of_lt (by omega)];exact h1
  have Al:ps.Nodup:=by rw[<- S.pre];exact S.nd.sublist (List.take_sublist _ _)
  refine⟨u,rv,?_⟩;rcases S.par y (lI hp) with k | k
  .exact .inl ⟨k,Zi Al hp hu k⟩
  .obtain⟨c,e⟩:=jaW (n:=s.heap.objs.size+1) k
   refine .inr ⟨.inl k,c,e,?_⟩;have q:=x.cell y c e;rw[Zk Al hp hu (by show scope.names.lookup y≠_;rw[k];decide)]at q;exact q
 .exact e0.hok.fresh (cD (x.above y c (k_ h)))
 .unfold start
  show _=N.length
  rw[bz,aB,List.length_replicate]
  omega
theorem ji9{CX:CXT}{P:az}{w:aw}{K:aq}{mg:Str->Option ae}{base:aj}{k:Nat}{f:ab}{name bw:Str}{params:Arguments}{body:List aA}{scope:cj}{dV kV cw pm au ct oc:ae}{an od:Option ab}
  {fJ:Array (Option ae)} {N ps:List Str} {sp:Sp} (lk:K.lookup f=some ⟨oc,od,.func (gP name bw params body scope dV kV cw pm an au ct),fJ⟩) (eL:gR K au bw=true) (S:FnScope N ps scope)
  (len:∀vs H Q E,sp vs H Q E->vs.length=ps.length)
  (nS:∀(A:aL) (outer:List Env) (s:af) (H:Hp) (vs:List V) (Q:VK) (E:XK),Room k (A.deeper (envOfC bw scope s.heap.objs.size f au))->sp vs H Q E->
   ∃t,PSs (y9 CX P w K mg base N bw scope f au A outer s H E) body t/\t { nx:=fun _ H'=>Q .non H',rt:=Q } (start N vs) H) :
  FnOk P w K mg base CX (k+1) f (gP name bw params body scope dV kV cw pm an au ct) ps sp:=by
 refine⟨len,fun A outer s H args us vs Q E hr e0 hb r aV=>?_⟩
 have hl:=len _ _ _ _ aV
 have KX:K.In s.heap:=e0.mod.kin.keeps fun b o e=>(e0.bs b o e).1
 have Er:s.heap.NoLimit:=e0.mod.nolimit.keeps fun b o e=>(e0.bs b o e).1
 have Fw:∀y∈ps.zip us,scope.names.lookup y.1=some .local\/(scope.names.lookup y.1=some .cell/\((CD (s.heap.objs.size+1) scope.names []).lookup y.1).isSome=true):=fun⟨n,v⟩ hy=>by
  rcases S.par n (DH hy).1 with q | q
  .exact .inl q
  .exact .inr ⟨q,Is _ _ _ (.inl q)⟩
 refine codeAny_call_function hr.depth (KX _ _ lk) rfl S.co S.gen rfl (PySem.W.codeRec_of KX eL) (hb _ _ _ _ ?_)
 refine wpAny_newFunctionEnv_cells S.kind Fw fun env he s1 x=>?_
 subst he
 refine⟨Er.keeps x.toInCall.keep,codeAny_func ?_⟩
 obtain⟨t,ht,hq⟩:=nS A outer s H vs Q E (hr.deeper _) aV
 have I:Inv (y9 CX P w K mg base N bw scope f au A outer s H E) [] (start N vs) H s1:=jdl S hr.hd e0 hl r x
 refine cb (ht [] s1 (start N vs) H _ I hq) (fun fl s' hs=>?_) fun e s' hs=>hs
 have fin:∀{σ':St} {H':Hp} {v:V} {u:ae},Inv (y9 CX P w K mg base N bw scope f au A outer s H E) [] σ' H' s'->RelV v u->Q v H'->CE outer P w H s Q u s':=
  fun {σ' H' v u} J rv q=>⟨v,H',J.os,J.bare,J.base,J.hok,rv,q⟩
 cases fl with
 | ret u=>
  obtain⟨v,σ',H',J,rv,q⟩:=hs
  exact fin J rv q
 | next=>
  obtain⟨σ',H',J,q⟩:=hs
  exact fin (v:=V.non) (u:=Value.none) J rfl q
 | brk=>
  obtain⟨_,_,_,q⟩:=hs
  exact fg q
 | cont=>
  obtain⟨_,_,_,q⟩:=hs
  exact fg q
section
variable {X:Cx}{x:Str}{p pos:Pos}{e:ag}{es:List ag}{t:TA}{id T:String}{r:List V->Hp->VK->Prop}
def tCB(r:List V->Hp->VK->Prop)(t:TA):TE:=fun σ H Q=>t σ H fun vs H1=>r vs H1 Q
theorem jeG(hc:zC X (.builtin id) r)(hg:Gl X x)(hm:X.mg x=none)(hv:cW x=some (.builtin id))(ha:PA X (e :: es) t)(hn:x≠"__name__":=by decide)(fu:(x == ("__debug__" : Str))=false:=by decide)
  (he:bO (e :: es) X.env=(false,eval e X.env) :: bO es X.env:=by rfl) (hZ:(eO pos (bO es X.env)).any (·.1)=false:=by rfl):PE X (.Call (.Name x p) (e :: es) [] pos) (tCB r t):=by
 intro ad s σ H Q I h
 refine wM (Yo I hg hm hv ?_ hn fu)
 exact PyProof.Rows.callWith_builtin1 (thn (ha pos ad s σ H _ I h) fun us s1 ⟨vs,H1,I1,r1,q1⟩=>hc ad s1 σ H1 vs us Q I1 r1 q1) he hZ
theorem jcZ(hc:zC X (.type T) r)(hg:Gl X x)(hm:X.mg x=none)(hv:cW x=some (.type T))(ha:PA X (e :: es) t)(hn:x≠"__name__":=by decide)(fu:(x == ("__debug__" : Str))=false:=by decide)
  (he:bO (e :: es) X.env=(false,eval e X.env) :: bO es X.env:=by rfl) (hZ:(eO pos (bO es X.env)).any (·.1)=false:=by rfl):PE X (.Call (.Name x p) (e :: es) [] pos) (tCB r t):=by
 intro ad s σ H Q I h
 refine wM (Yo I hg hm hv ?_ hn fu)
 exact Dl (thn (ha pos ad s σ H _ I h) fun us s1 ⟨vs,H1,I1,r1,q1⟩=>hc ad s1 σ H1 vs us Q I1 r1 q1) he hZ
end
end L2
namespace HT
open PySem PyProof.Rows
section
variable {prog:az}{w:aw}{A:aL}{E:ae->af->Prop}{s:af}
def sIx(n d:Nat):Option Int->Nat
 | none=>d
 | some v=>if v < 0 then (v+(n:Int)).toNat else min v.toNat n
theorem jhC(n d:Nat)(hd:d<=n)(o:Option Int):sIx n d o<=n:=by
 cases o with
 | none=>exact hd
 | some v=>
  show (if v < 0 then (v+(n:Int)).toNat else min v.toNat n)<=n;by_cases hv:v < 0
  .rw[MU hv];omega
  .rw[MT hv];exact Nat.min_le_right _ _
theorem jcz(v:Int)(n d:Nat):(if v < 0 then max (v+(n:Int)) 0 else min v (n:Int))=((sIx n d (some v):Nat):Int):=by
 show (if v < 0 then max (v+(n:Int)) 0 else min v (n:Int))=(((if v < 0 then (v+(n:Int)).toNat else min v.toNat n):Nat):Int);by_cases hv:v < 0
 .simp only[MU hv];omega
 .simp only[MT hv];omega
theorem jbI(lo hi:Option Int)(n:Nat):Dd lo hi 1 (n:Int)=(((sIx n 0 lo:Nat):Int),((sIx n n hi:Nat):Int)):=by
 have h1:¬((1:Int) < 0):=by omega
 unfold Dd;simp only[h1,if_false];refine Prod.ext ?_ ?_
 .cases lo with
  | none=>rfl
  | some v=>exact jcz v n 0
 .cases hi with
  | none=>rfl
  | some v=>exact jcz v n n
theorem jbk(i j:Nat):xh (i:Int) (j:Int) 1=j - i:=by
 unfold xh;have h1:(1:Int) > 0:=by omega
 simp only[h1,if_true,Int.ediv_one];split <;> omega
theorem Ye{v:ae}{o:Option Int}{Q:Option Int->af->Prop}(p:lA v o)(h:Q o s):al (ai prog w) A (Builtin.Slice.slicePartIndex v) Q E s:=by
 cases p with
 | none=>exact slicePart_none h
 | int i t=>exact slicePart_int h
theorem Ke{sl:ab}{vl vu:ae}{lo hi:Option Int}{n:Nat}{Q:Int×Int×Nat->af->Prop}(hs:s.heap.IsSliceOf sl vl vu .none)(pl:lA vl lo)(pu:lA vu hi)
  (h:Q (((sIx n 0 lo:Nat):Int),1,sIx n n hi - sIx n 0 lo) s):al (ai prog w) A (Lp (.ref sl) (pure (n:Int))) Q E s:=by
 obtain⟨os,nI,ii,cT⟩:=id hs
 unfold Lp Builtin.Slice.sliceFields
 refine ar (ar (Cn nI cT (x:=vl) rfl (ar (Cn nI cT (x:=vu) rfl (ar (Cn nI cT (x:=.none) rfl (aN ?_)))))))
 refine ar (slicePart_none ?_)
 show al _ _ (if ((1:Int) == 0)=true then _ else _) _ _ s
 rw[MT (by decide)]
 refine ar (Ye pl (ar (Ye pu (ar (aN ?_)))))
 show al _ _ (match Dd lo hi 1 (n:Int) with | (lo,hi)=>pure (lo,(1:Int),xh lo hi 1)) _ _ s
 rw[jbI lo hi n]
 show al _ _ (pure (((sIx n 0 lo:Nat):Int),(1:Int),xh ((sIx n 0 lo:Nat):Int) ((sIx n n hi:Nat):Int) 1)) _ _ s
 rw[jbk]
 exact aN h
theorem jet(xs:Array ae)(i k:Nat):((bT k).filterMap fun (m:Nat)=>xs[((i:Int)+(m:Int) * 1).toNat]?).toArray=((xs.toList.drop i).take k).toArray:=by
 have e:(fun (m:Nat)=>xs[((i:Int)+(m:Int) * 1).toNat]?)=fun m=>xs[i+m]?:=by
  funext m;have:((i:Int)+(m:Int) * 1).toNat=i+m:=by omega
  rw[this]
 rw[e];have:=pick_run xs i k;rw[List.filterMap_map]at this;have e2:((fun x=>xs[x]?) ∘ fun x=>i+x)=fun m=>xs[i+m]?:=rfl
 rw[e2]at this;rw[this]
theorem getItem_tuple_cut{t sl:ab}{items:Array ae}{vl vu:ae}{lo hi:Option Int}{Q:ae->af->Prop}(ht:IsTup s.heap t items)(hs:s.heap.IsSliceOf sl vl vu .none)(pl:lA vl lo)(pu:lA vu hi)
  (hw:¬(sIx items.size 0 lo=0/\sIx items.size items.size hi=items.size))
  (h:Q (.ref s.heap.objs.size) { s with heap:=s.heap.push { cls:=.type "tuple",data:=.seq ((items.toList.drop (sIx items.size 0 lo)).take (sIx items.size items.size hi - sIx items.size 0 lo)).toArray } })
  (hsz:items.size<=aE):al (ai prog w) A (lm (.ref t) (.ref sl)) Q E s:=by
 have pe:sizeOk (.seq ((items.toList.drop (sIx items.size 0 lo)).take (sIx items.size items.size hi - sIx items.size 0 lo)).toArray):=by
  show ((items.toList.drop (sIx items.size 0 lo)).take (sIx items.size items.size hi - sIx items.size 0 lo)).toArray.size<=aE;rw[bX,bZ,lM,dA];omega
 have hj:sIx items.size items.size hi<=items.size:=jhC _ _ (aD _) hi
 obtain⟨os,nI,ii,cT⟩:=id hs
 have Gi:s.TypeIs (.ref sl) "slice":=⟨os,nI,ii⟩
 unfold lm
 try with_reducible refine ix ?_
 first | refine ar (aN ?_) | skip
 refine ar (wpAny_sequenceKey ht.typeIs (by decide) ?_)
 refine ar (wpAny_callSpecial?_slot (name:=bu "__getitem__") ht.typeIs Di
  (Cq Di ht.typeIs entry_tuple_getitem ?_ (args_tuple_getitem _ _)))
 show al _ _ (Builtin.Tuple.tupleItemsOf (.ref t) >>= _) _ _ s
 refine ar (tupleItemsOf_ ht ?_)
 refine ar (wpAny_typeOf Gi ?_)
 rw[MU (by decide)]
 refine ar (Ke hs pl pu ?_)
 have Fi:¬((((sIx items.size 0 lo:Nat):Int) == 0 && (1:Int) == 1 && (sIx items.size items.size hi - sIx items.size 0 lo) == items.size)=true):=by
  intro q;rw[gY,gY]at q;have q1:((sIx items.size 0 lo:Nat):Int)=0:=eq_of_beq q.1.1;have q2:sIx items.size items.size hi - sIx items.size 0 lo=items.size:=eq_of_beq q.2;exact hw ⟨by omega,by omega⟩
 show al _ _ (if (((sIx items.size 0 lo:Nat):Int) == 0 && (1:Int) == 1 && (sIx items.size items.size hi - sIx items.size 0 lo) == items.size)=true then _ else _) _ _ s
 rw[MT Fi,jet]
 first
  | exact ar (m:=xf _) (iw (aN ⟨_,rfl,aN h⟩) pe)
  | exact ar (m:=xf _) (iw (ar (aN (aN ⟨_,rfl,aN h⟩))) pe)
  | exact ar (ar (m:=xf _) (iw (aN (aN ⟨_,rfl,aN h⟩)) pe))
  | exact ar (ar (m:=xf _) (iw (aN ⟨_,rfl,aN h⟩) pe))
end
end HT
namespace L2
open PySem PySem.Spec PyProof.Rows
abbrev TO:=St->Hp->(Option Int->Hp->Prop)->Prop
def PO(X:Cx)(e:Option ag)(t:TO):Prop:=
 ∀(ad:List (ab×Obj)) (s:af) (σ:St) (H:Hp) (Q:Option Int->Hp->Prop),Inv X ad σ H s->t σ H Q->
  al (ai X.prog X.w) X.A (evalPart e X.env) (fun u s'=>∃o H',Inv X ad σ H' s'/\lA u o/\Q o H') X.xe s
def jbS:TO:=fun _ H Q=>Q none H
def jg9(t:TE):TO:=fun σ H Q=>t σ H fun x H1=>∃i,x=.int i/\Q (some i) H1
section
variable {X:Cx}{e:ag}{te:TE}{lo hi:Option ag}{tl th:TO}{pos p2:Pos}
theorem jf6:PO X none jbS:=by
 intro ad s σ H Q I h;rw[evalPart_none];exact aN ⟨none,H,I,.none,h⟩
theorem jf5(h:PE X e te):PO X (some e) (jg9 te):=by
 intro ad s σ H Q I hw;rw[evalPart_some];refine thn (h ad s σ H _ I hw) fun u s1 ⟨x,H1,I1,r1,q1⟩=>?_
 obtain⟨i,rfl,q⟩:=q1;obtain⟨t,rfl⟩:=r1;exact⟨some i,H1,I1,.int i t,q⟩
def SlR(X:Cx)(r:V->Option Int->Option Int->Hp->VK->Prop):Prop:=
 ∀(ad:List (ab×Obj)) (s:af) (σ:St) (H:Hp) (x:V) (v vl vu:ae) (lo hi:Option Int) (sl:ab) (Q:VK),Inv X ad σ H s->RelV x v->s.heap.IsSliceOf sl vl vu .none->lA vl lo->lA vu hi->r x lo hi H Q->
  ∃T id,typeLookup (.type T) "__getitem__" = pure (some (.builtin id))/\s.TypeIs v T/\al (ai X.prog X.w) X.A (lm v (.ref sl)) (EP X ad σ Q) X.xe s
def tSl(r:V->Option Int->Option Int->Hp->VK->Prop)(te:TE)(tl th:TO):TE:=fun σ H Q=>te σ H fun x H1=>tl σ H1 fun l H2=>th σ H2 fun u H3=>r x l u H3 Q
theorem jey{r:V->Option Int->Option Int->Hp->VK->Prop}(hr:SlR X r)(he:PE X e te)(hl:PO X lo tl)(hu:PO X hi th):PE X (.Subscript e (.Slice lo hi none p2) pos) (tSl r te tl th):=by
 intro ad s σ H Q I h;refine Do (thn (he ad s σ H _ I h) fun v s1 ⟨x,H1,I1,r1,q1⟩=>?_);refine wpAny_Slice (thn (hl ad s1 σ H1 _ I1 q1) fun vl s2 ⟨l,H2,I2,pl,q2⟩=>thn (hu ad s2 σ H2 _ I2 q2) fun vu s3 ⟨u,H3,I3,pu,q3⟩=>?_);rw[evalPart_none];refine aN ?_;have I4:Inv X ad σ H3 { s3 with heap:=s3.heap.push { cls:=.type "slice",data:=.fields #[vl,vu,.none] } }:=I3.kept (t':=s3.toks) fun b ob q=>bK _ q
 obtain⟨T,id,hT,ht,hg⟩:=hr ad { s3 with heap:=s3.heap.push { cls:=.type "slice",data:=.fields #[vl,vu,.none] } } σ H3 x v vl vu l u s3.heap.objs.size Q I4 r1 (aj.IsSliceOf.new ..) pl pu q3;show al (ai X.prog X.w) X.A (Dg e (.Slice lo hi none p2) v (.ref s3.heap.objs.size)) (EP X ad σ Q) X.xe { s3 with heap:=s3.heap.push { cls:=.type "slice",data:=.fields #[vl,vu,.none] } };exact tail_any (ops:=[.ref s3.heap.objs.size,v]) ht hT hg (by with_unfolding_all rfl)
def zf(xs:List V)(lo hi:Option Int):List V:=(xs.drop (HT.sIx xs.length 0 lo)).take (HT.sIx xs.length xs.length hi - HT.sIx xs.length 0 lo)
theorem Kv(xs:List V)(lo hi:Option Int):(zf xs lo hi).length<=xs.length:=by
 unfold zf;rw[bZ,lM];omega
def jjk(K:aq):V->Option Int->Option Int->Hp->VK->Prop:=fun x lo hi H Q=>∃a xs,x=.ref a/\SqT K H a xs/\
 ¬(HT.sIx xs.length 0 lo=0/\HT.sIx xs.length xs.length hi=xs.length)/\∀p,H p=none->Q (.ref p) (upd H p (.tup (zf xs lo hi)))
theorem Zz:SlR X (jjk X.K):=by
 intro ad s σ H x v vl vu lo hi sl Q I rx hs pl pu h;obtain⟨a,xs,rfl,hx,hw,q⟩:=h
 cases rx
 obtain⟨its,r,ht,hz⟩:=I.tuple hx;have bf:its.toArray.size=xs.length:=by rw[bX];exact r.length.symm
 refine⟨"tuple",_,Di.lookup,ht.typeIs,?_⟩;refine HT.getItem_tuple_cut ht hs pl pu (by rw[bf];exact hw) ?_ (by rw[bf];exact hz);rw[bf];refine⟨.ref s.heap.objs.size,_,I.laid (t':=s.toks) (o:=.tup (zf xs lo hi)) (fun b ob q=>bK _ q) (aD _) ?_,rfl,q _ (I.hok.fresh (aD _))⟩;exact⟨aG (Kv xs lo hi) hz,_,(r.drop (HT.sIx xs.length 0 lo)).take (HT.sIx xs.length xs.length hi - HT.sIx xs.length 0 lo),Ds _ _⟩
end
def ixN(n:Nat)(i:Int):Option Nat:=if 0<=i then (if i < n then some i.toNat else none) else if -(n:Int)<=i then some (i+n).toNat else none
def atI{α:Type}(xs:List α)(i:Int):Option α:=(ixN xs.length i).bind fun j=>xs[j]?
theorem jcn{n:Nat}{i:Int}{j:Nat}(h:ixN n i=some j):seqIndex? i n=some j/\j < n/\-(n:Int)<=i/\i < n:=by
 unfold ixN at h;by_cases h0:0<=i
 .rw[MU h0]at h
  by_cases h1:i < n
  .rw[MU h1]at h
   have e:i.toNat=j:=cN h;exact⟨by rw[Cv h0 h1,e],by omega,by omega,h1⟩
  .rw[MT h1]at h;cases h
 .rw[MT h0]at h
  by_cases h1:-(n:Int)<=i
  .rw[MU h1]at h
   have e:(i+n).toNat=j:=cN h;exact⟨by rw[seqIndex_neg (by omega) h1,e],by omega,h1,by omega⟩
  .rw[MT h1]at h;cases h
theorem Z4{α:Type}{xs:List α}{i:Int}{v:α}(h:atI xs i=some v):∃j,seqIndex? i xs.length=some j/\xs[j]?=some v/\j < xs.length/\-(xs.length:Int)<=i/\i < xs.length:=by
 unfold atI at h
 cases e:ixN xs.length i with
 | none=>rw[e]at h;cases h
 | some j=>
  rw[e]at h;obtain⟨h1,h2,h3,h4⟩:=jcn e;exact⟨j,h1,h,h2,h3,h4⟩
theorem jg{α:Type}{xs:List α}{j:Nat}{v:α}(h:xs[j]?=some v):atI xs (j:Int)=some v:=by
 have hj:j < xs.length:=(bI.mp h).1;have e:ixN xs.length (j:Int)=some j:=by
  unfold ixN;rw[MU (by omega),MU (by omega)];simp
 unfold atI;rw[e];exact h
theorem jfu{α:Type}(xs:List α)(v:α):atI (xs++[v]) (-1)=some v:=by
 have hl:(xs++[v]).length=xs.length+1:=by simp
 have e:ixN (xs++[v]).length (-1)=some xs.length:=by
  unfold ixN;rw[hl,MT (by decide),MU (by omega)];congr 1;omega
 unfold atI;rw[e];show (xs++[v])[xs.length]?=some v;simp
def jcD(b:ag):Prop:=∀o i,subscripted b false o i=operate [o,i] (lm o i)
def IxR(X:Cx)(r:R2):Prop:=
 ∀(value fG:ag) (ad:List (ab×Obj)) (s:af) (σ:St) (H:Hp) (x y:V) (v u:ae) (Q:VK),Inv X ad σ H s->RelV x v->RelV y u->r x y H Q->
  subscripted fG false v u=operate [v,u] (lm v u)->al (ai X.prog X.w) X.A (Dg value fG v u) (EP X ad σ Q) X.xe s
def MtR(X:Cx)(id:String)(r:V->List V->Hp->VK->Prop):Prop:=
 ∀(ad:List (ab×Obj)) (s:af) (σ:St) (H:Hp) (x:V) (xs:List V) (v:ae) (us:List ae) (Q:VK),Inv X ad σ H s->RelV x v->Vals xs us->r x xs H Q->
  al (ai X.prog X.w) X.A (call (.builtin id) (v :: us)) (EP X ad σ Q) X.xe s
section
variable {X:Cx}{a b:ag}{ta tb:TE}{pos:Pos}
theorem jiN{r:R2}(hr:IxR X r)(ha:PE X a ta)(hb:PE X b tb)(hs:jcD b):PE X (.Subscript a b pos) (tOp r ta tb):=by
 intro ad s σ H Q I h;exact Do (jil ha hb I h fun v u s2 x y H2 I2 rx ry q=>hr a b ad s2 σ H2 x y v u Q I2 rx ry q (hs _ _))
def jiH(K:aq):R2:=fun x y H Q=>∃p xs i v,x=.ref p/\y=.int i/\SqL K H p xs/\atI xs i=some v/\Q v H
def jjn(K:aq):R2:=fun x y H Q=>∃p xs i v,x=.ref p/\y=.int i/\SqT K H p xs/\atI xs i=some v/\Q v H
def jjo:R2:=fun x y H Q=>∃z i c,x=.str z/\y=.int i/\z.length<=aE/\atI z.cps.toList i=some c/\Q (.str ⟨#[c]⟩) H
theorem jZ:IxR X (jiH X.K):=by
 intro value fG ad s σ H x y v u Q I rx ry h hs;obtain⟨p,xs,i,z,rfl,rfl,hq,he,q⟩:=h
 cases rx
 obtain⟨t,rfl⟩:=ry;obtain⟨its,r,pl,hz⟩:=I.list hq;obtain⟨j,h1,h2,h3,h4,h5⟩:=Z4 he;obtain⟨w,ew,c6⟩:=r.get h2;have hl:=r.length;have hn:=Kh;have fin:EP X ad σ Q w s:=⟨z,H,I,c6,q⟩
 by_cases h0:0<=i
 .have hj:i.toNat=j:=by
   rw[Cv h0 h5]at h1;exact cN h1
  exact item_listR pl.isList h0 (by omega) (by rw[hj];simpa using ew) fin hs
 .have hj:(i+(its.toArray.size:Int)).toNat=j:=by
   rw[seqIndex_neg (by omega) h4]at h1;rw[bX,<- hl];exact cN h1
  exact Ls (x:=w) pl.isList.typeIs HS.lookup
   (wpAny_getItem_list_neg (Q:=fun r s'=>r=w/\EP X ad σ Q r s') pl.isList (by omega) (by rw[bX] <;> omega) (by omega) (by rw[hj];simpa using ew) ⟨rfl,fin⟩) hs
theorem ju:IxR X (jjn X.K):=by
 intro value fG ad s σ H x y v u Q I rx ry h hs;obtain⟨p,xs,i,z,rfl,rfl,hq,he,q⟩:=h
 cases rx
 obtain⟨t,rfl⟩:=ry;obtain⟨its,r,pl,hz⟩:=I.tuple hq;obtain⟨j,h1,h2,h3,h4,h5⟩:=Z4 he;obtain⟨w,ew,c6⟩:=r.get h2;have hl:=r.length;have hn:=Kh;have fin:EP X ad σ Q w s:=⟨z,H,I,c6,q⟩
 exact Ls (x:=w) pl.typeIs slot_tuple_getitem.lookup
  (getItem_tuple (j:=j) (Q:=fun r s'=>r=w/\EP X ad σ Q r s') pl (by omega) (by omega) (by rw[bX,<- hl];exact h1) (by simpa using ew) ⟨rfl,fin⟩) hs
theorem jbu:IxR X jjo:=by
 intro value fG ad s σ H x y v u Q I rx ry h hs;obtain⟨z,i,c,rfl,rfl,hz,he,q⟩:=h;obtain⟨t,rfl⟩:=rx;obtain⟨t',rfl⟩:=ry;obtain⟨j,h1,h2,h3,h4,h5⟩:=Z4 he;have hl:z.cps.toList.length=z.length:=by simp[Str.length]
 rw[hl]at h1 h4 h5;have hn:=Kh;exact tail_any (typeIs_str s z t) slot_str_getitem.lookup (getItem_str (c:=c) (by
  have e1:decide (i < -(2 ^ 63:Int))=false:=MS (by omega);have e2:decide (i >= 2 ^ 63)=false:=MS (by omega);rw[e1,e2,Bool.or_false]) (by rw[h1];simpa using h2) ⟨.str ⟨#[c]⟩,H,I.tok _,⟨_,rfl⟩,q⟩) hs
theorem jbp(its:List ae)(n j:Nat)(u:ae):cX (·.setIfInBounds j u) { cls:=.type "list",data:=.seq its.toArray n }={ cls:=.type "list",data:=.seq (its.set j u).toArray n }:=by
 simp[cX]
theorem Inv.lst{ad:List (ab×Obj)}{σ:St}{H:Hp}{s:af}{p:ab}{xs:List V}(I:Inv X ad σ H s)(h:H p=some (.lst xs)):
  ∃(its:List ae) (n:Nat),Vals xs its/\s.heap.get? p=some { cls:=.type "list",data:=.seq its.toArray n }/\xs.length<=aE:=by
 obtain⟨z,its,n,r,e⟩:=I.hok p _ h
 exact⟨its,n,r,e,z⟩
theorem Inv.lstUpd{ad:List (ab×Obj)}{σ:St}{H:Hp}{s:af}{p:ab}{xs ys:List V}{its its':List ae}{n n':Nat}{f:Obj->Obj}(I:Inv X ad σ H s)(h:H p=some (.lst xs))
  (ho:s.heap.get? p=some { cls:=.type "list",data:=.seq its.toArray n }) (hf:f { cls:=.type "list",data:=.seq its.toArray n }={ cls:=.type "list",data:=.seq its'.toArray n' }) (r:Vals ys its') (hz:ys.length<=aE) (t:Nat) :
  Inv X ad σ (upd H p (.lst ys)) { s with heap:=s.heap.update p f,toks:=t }:=by
 have e:(s.heap.update p f).get? p=some { cls:=.type "list",data:=.seq its'.toArray n' }:=by
  rw[aj.get?_update_self f ho (by rw[hf] <;> rfl),hf]
 refine I.write (x:=p) (e:=p) (by rw[h];trivial) (.inl rfl) (fun b u hb q=>(w_ _ _ (cY hb)).trans q) ⟨_,e⟩ ?_
 exact⟨hz,its',n',r,e⟩
def jiG:V->V->V->Hp->(Hp->Prop)->Prop:=fun o i v H Q=>∃p xs k j,o=.ref p/\i=.int k/\H p=some (.lst xs)/\ixN xs.length k=some j/\Q (upd H p (.lst (xs.set j v)))
theorem jef:jio X jiG:=by
 intro ad s σ H o i v ov iv u Q I ro ri rv h;obtain⟨p,xs,k,j,rfl,rfl,hp,hj,q⟩:=h
 cases ro
 obtain⟨t,rfl⟩:=ri;obtain⟨its,n,r,ho,hz⟩:=I.lst hp;obtain⟨h1,h2,h3,h4⟩:=jcn hj;have hl:=r.length;have hn:=Kh;have I':Inv X ad σ (upd H p (.lst (xs.set j v))) { s with heap:=s.heap.update p (cX (·.setIfInBounds j u)) }:=
  I.lstUpd hp ho (jbp its n j u) (r.set rv j) (by rw[List.length_set];exact hz) s.toks
 by_cases h0:0<=k
 .have hk:k.toNat=j:=by
   rw[Cv h0 h4]at h1;exact cN h1
  exact PySem.W.ki_setAt ho h0 (by omega) (by rw[bX,<- hl];exact h4) (by rw[hk];exact⟨_,I',q⟩)
 .have hk:(k+(its.toArray.size:Int)).toNat=j:=by
   rw[seqIndex_neg (by omega) h3]at h1;rw[bX,<- hl];exact cN h1
  exact PySem.W.ki_setBack ho (by omega) (by rw[bX,<- hl];exact h3) (by omega) (by rw[hk];exact⟨_,I',q⟩)
theorem Zy(lo hi:Option Int)(n:Nat):(mD lo hi none n).1=((HT.sIx n 0 lo:Nat):Int)/\(mD lo hi none n).2.1=((HT.sIx n n hi:Nat):Int)/\(mD lo hi none n).2.2=1:=by
 refine⟨?_,?_,rfl⟩
 .cases lo with
  | none=>simp[mD,HT.sIx]
  | some i=>
   simp only[mD,HT.sIx,LR,show (1:Int) > 0 by decide,if_true];by_cases h:i < 0
   .simp only[h,if_true] <;> omega
   .simp only[h,if_false] <;> omega
 .cases hi with
  | none=>simp[mD,HT.sIx]
  | some i=>
   simp only[mD,HT.sIx,LR,show (1:Int) > 0 by decide,if_true];by_cases h:i < 0
   .simp only[h,if_true] <;> omega
   .simp only[h,if_false] <;> omega
theorem YE(its:List ae)(lo hi:Option Int):slicePick its.toArray lo hi none=((its.drop (HT.sIx its.length 0 lo)).take (HT.sIx its.length its.length hi - HT.sIx its.length 0 lo)).toArray:=by
 obtain⟨h1,h2,h3⟩:=Zy lo hi its.toArray.size;unfold slicePick;rw[h1,h2,h3];simp only[sliceRange_one,pick_run,bX] <;> rfl
def jjl(K:aq):V->Option Int->Option Int->Hp->VK->Prop:=fun x lo hi H Q=>∃a xs,x=.ref a/\SqL K H a xs/\∀p,H p=none->Q (.ref p) (upd H p (.lst (zf xs lo hi)))
theorem JB:SlR X (jjl X.K):=by
 intro ad s σ H x v vl vu lo hi sl Q I rx hs pl pu h;obtain⟨a,xs,rfl,hx,q⟩:=h
 cases rx
 obtain⟨its,r,ht,hz⟩:=I.list hx;have bf:=r.length;refine⟨"list",_,HS.lookup,ht.isList.typeIs,?_⟩;refine wpAny_getItem_list_slice ht.isList hs pl pu .none (by simp) ?_ (by rw[bX] <;> omega);rw[YE,<- bf];refine⟨.ref s.heap.objs.size,_,I.laid (t':=s.toks) (o:=.lst (zf xs lo hi)) (fun b ob q=>bK _ q) (aD _) ?_,rfl,q _ (I.hok.fresh (aD _))⟩;exact⟨aG (Kv xs lo hi) hz,_,0,(r.drop (HT.sIx xs.length 0 lo)).take (HT.sIx xs.length xs.length hi - HT.sIx xs.length 0 lo),eh _ rfl⟩
theorem kN:zC X (.builtin "len") (fun xs H Q=>∃p ys,xs=[.ref p]/\(SqL X.K H p ys\/SqT X.K H p ys)/\Q (.int ys.length) H):=by
 intro ad s σ H xs us Q I r h;obtain⟨p,ys,rfl,hq,q⟩:=h;obtain⟨u,rfl,rx⟩:=Ja r
 cases rx
 have hn:=Kh;rcases hq with hq | hq
 .obtain⟨its,r',pl,hz⟩:=I.list hq
  have bf:=r'.length;exact Calls.call_len_list pl.isList (by simp only[bX] <;> omega) ⟨.int ys.length,H,I.tok _,⟨s.toks+1,by rw[bX,bf]⟩,q⟩
 .obtain⟨its,r',pl,hz⟩:=I.tuple hq
  have bf:=r'.length;exact len_tuple pl (by simp only[bX] <;> omega) ⟨.int ys.length,H,I.tok _,⟨s.toks+1,by rw[bX,bf]⟩,q⟩
theorem Z0:zC X (.type "list") (fun xs H Q=>∃p ys,xs=[.ref p]/\(SqL X.K H p ys\/SqT X.K H p ys)/\∀l,H l=none->Q (.ref l) (upd H l (.lst ys))):=by
 intro ad s σ H xs us Q I r h;obtain⟨p,ys,rfl,hq,q⟩:=h;obtain⟨u,rfl,rx⟩:=Ja r
 cases rx
 have fin:∀(its:List ae),Vals ys its->ys.length<=aE->∀(h':aj) (c':Nat),(∀b o',s.heap.get? b=some o'->h'.get? b=some o')->
   h'.get? s.heap.objs.size=some { cls:=.type "list",dict:=none,data:=.seq its.toArray c',slots:=#[] }->EP X ad σ Q (.ref s.heap.objs.size) { s with heap:=h' }:=fun its r' hz h' c' kp e=>
  ⟨.ref s.heap.objs.size,_,I.laid (t':=s.toks) kp (aD _) (show ObjOk X.prog X.w _ h' _ (.lst ys) from⟨hz,its,c',r',e⟩),rfl,q _ (I.hok.fresh (aD _))⟩
 rcases hq with hq | hq
 .obtain⟨its,r',pl,hz⟩:=I.list hq
  have bf:=r'.length;obtain⟨o,ho,hc,n,hd⟩:=pl.isList;exact call_list_seq p (.inl rfl) ho hc hd (fun h' c' kp e=>fin its r' hz h' c' kp e) (by simp only[bX] <;> omega)
 .obtain⟨its,r',pl,hz⟩:=I.tuple hq
  have bf:=r'.length;obtain⟨o,ho,hc,n,hd⟩:=pl;exact call_list_seq p (.inr rfl) ho hc hd (fun h' c' kp e=>fin its r' hz h' c' kp e) (by simp only[bX] <;> omega)
theorem YK:zC X (.type "tuple") (fun xs H Q=>∃p ys,xs=[.ref p]/\((SqL X.K H p ys/\∀l,H l=none->Q (.ref l) (upd H l (.tup ys)))\/(SqT X.K H p ys/\Q (.ref p) H))):=by
 intro ad s σ H xs us Q I r h;obtain⟨p,ys,rfl,h⟩:=h;obtain⟨u,rfl,rx⟩:=Ja r
 cases rx
 rcases h with⟨hq,q⟩ | ⟨hq,q⟩
 .obtain⟨its,r',pl,hz⟩:=I.list hq
  have bf:=r'.length;refine call_tuple_list pl.isList (fun h' kp=>?_) (by simp only[bX] <;> omega);have I1:Inv X ad σ H { s with heap:=h' }:=I.kept (t':=s.toks) kp;have I2:Inv X ad σ (upd H h'.objs.size (.tup ys)) { s with heap:=h'.push { cls:=.type "tuple",data:=.seq its.toArray } }:=
   I1.laid (t':=s.toks) (fun b o e=>bK _ e) (aD _) (show ObjOk X.prog X.w _ _ _ (.tup ys) from⟨hz,its,r',Ds _ _⟩)
  exact⟨.ref h'.objs.size,_,I2,rfl,q _ (I1.hok.fresh (aD _))⟩
 .obtain⟨its,r',pl,hz⟩:=I.tuple hq
  exact call_tuple_same pl ⟨.ref p,H,I,rfl,q⟩
def tyV(K:aq)(T:String)(x:V)(H:Hp):Prop:=match x with
 | .str _=>T = "str"
 | .int _=>T = "int"
 | .ref p=>(T = "list"/\∃xs,SqL K H p xs)\/(T = "tuple"/\∃o,K.lookup p=some o/\o.cls=.type "tuple"/\o.dict=none)\/
   (T = "dict"/\((∃kvs,H p=some (.dK kvs))\/∃kvs,H p=some (.dT kvs)))\/(T = "set"/\∃S n,H p=some (.set S n))
 | _=>False
theorem jdM{ad:List (ab×Obj)}{σ:St}{H:Hp}{s:af}{T:String}{x:V}{v:ae}(I:Inv X ad σ H s)(r:RelV x v)(ty:tyV X.K T x H):
  s.TypeIs v T/\∀a,v=.ref a->∃ob,s.heap.get? a=some ob/\ob.dict=none:=by
 cases x with
 | str z=>
  obtain⟨t,rfl⟩:=r
  cases (show T = "str" from ty)
  exact⟨typeIs_str s z t,fun _ e=>nomatch e⟩
 | int i=>
  obtain⟨t,rfl⟩:=r
  cases (show T = "int" from ty)
  exact⟨typeIs_int s i t,fun _ e=>nomatch e⟩
 | ref p=>
  cases r
  rcases ty with⟨rfl,xs,hq⟩ | ⟨rfl,o,hk,hc,hd⟩ | ⟨rfl,hk⟩ | ⟨rfl,S,n,hk⟩
  .obtain⟨its,_,pl,_⟩:=I.list hq
   refine⟨pl.isList.typeIs,fun a e=>?_⟩
   cases e
   obtain⟨o,n,e,c,hd,_⟩:=pl
   exact⟨o,e,hd⟩
  .refine⟨⟨o,I.kIn p o hk,hc⟩,fun a e=>?_⟩
   cases e
   exact⟨o,I.kIn _ o hk,hd⟩
  .have z:∃o,s.heap.get? p=some o/\o.ExactDict:=by
    rcases hk with⟨kvs,hk⟩ | ⟨kvs,hk⟩
    .obtain⟨_,_,_,_,o,_,_,e,ex,_⟩:=I.hok p _ hk
     exact⟨o,e,ex⟩
    .obtain⟨_,_,_,_,o,_,_,e,ex,_⟩:=I.hok p _ hk
     exact⟨o,e,ex⟩
   obtain⟨o,e,ex⟩:=z;refine⟨⟨o,e,ex.1⟩,fun a e2=>?_⟩
   cases e2
   exact⟨o,e,ex.2.1⟩
  .obtain⟨o,_,_,_,e,ex,_⟩:=I.hok p _ hk
   refine⟨⟨o,e,ex.1⟩,fun a e2=>?_⟩
   cases e2
   exact⟨o,e,ex.2.1⟩
 | _=>exact fg ty
def jiD(K:aq)(T:String)(r:V->List V->Hp->VK->Prop)(to:TE):TE:=fun σ H Q=>to σ H fun x H1=>tyV K T x H1/\r x [] H1 Q
def tBM(K:aq)(T:String)(r:V->List V->Hp->VK->Prop)(to:TE)(t:TA):TE:=fun σ H Q=>to σ H fun x H1=>tyV K T x H1/\t σ H1 fun xs H2=>r x xs H2 Q
variable {o e:ag}{es:List ag}{to:TE}{t:TA}{name:Str}{cC bN:Pos}{T id:String}{r:V->List V->Hp->VK->Prop}
theorem jhV(pa:wY T)(slot:Slot T name id)(uQ:typeOf (.builtin id)=pure (.type "method_descriptor"))(hm:MtR X id r)(ho:PE X o to)
  (vB:gO o name X.env (eval o X.env)=eval o X.env:=by rfl) (vh:(cC.endLine == bN.line)=true:=by rfl):PE X (.Call (.Attribute o name cC) [] [] bN) (jiD X.K T r to):=by
 intro ad s σ H Q I h
 refine wpAny_Call_method0_late vB vh (thn (ho ad s σ H _ I h) fun v s1 ⟨x,H1,I1,r1,ty,q1⟩=>?_)
 obtain⟨h1,h2⟩:=jdM I1 r1 ty
 exact⟨T,id,pa,slot,uQ,h1,h2,xc rfl (PySem.evalArgs_none (hm ad s1 σ H1 x [] v [] Q I1 r1 .nil q1))⟩
theorem jiR(pa:wY T)(slot:Slot T name id)(uQ:typeOf (.builtin id)=pure (.type "method_descriptor"))(hm:MtR X id r)(ho:PE X o to)(ha:PA X (e :: es) t)
  (vB:gO o name X.env (eval o X.env)=eval o X.env:=by rfl)
  (FG:((eO bN (bO (e :: es) X.env)).all (fun x=>!x.1) && (backToKw bN (Cw [] X.env)).all (fun x=>x.1.isSome)
   && decide ((e :: es).length+([]:List Keyword).length+(if ([]:List Keyword).isEmpty then 0 else 1) < 30))=true:=by rfl)
  (vh:(cC.endLine == bN.line)=true:=by rfl) (hs:bO (e :: es) X.env=(false,eval e X.env) :: bO es X.env:=by rfl) (Fc:(eO bN (bO es X.env)).any (·.1)=false:=by rfl) :
  PE X (.Call (.Attribute o name cC) (e :: es) [] bN) (tBM X.K T r to t):=by
 intro ad s σ H Q I h
 refine wpAny_Call_method_late vB FG vh rfl (thn (ho ad s σ H _ I h) fun v s1 ⟨x,H1,I1,r1,ty,q1⟩=>?_)
 obtain⟨h1,h2⟩:=jdM I1 r1 ty
 refine⟨T,id,pa,slot,uQ,h1,h2,?_⟩
 have hA:=ha bN ad s1 σ H1 _ I1 q1
 rw[hs]at hA |-
 refine xc (by show (false || (eO bN (bO es X.env)).any (·.1))=false;rw[Fc] <;> rfl) (Dc ?_)
 exact thn hA fun us s2 ⟨vs,H2,I2,r2,q2⟩=>hm ad s2 σ H2 x vs v us Q I2 r1 r2 q2
end
def MtM(X:Cx)(id:String)(r:V->List V->Hp->VK->Prop):Prop:=
 ∀(ad:List (ab×Obj)) (s:af) (σ:St) (H:Hp) (x:V) (xs:List V) (v:ae) (us:List ae) (Q:VK),Inv X ad σ H s->RelV x v->Vals xs us->r x xs H Q->
  al (ai X.prog X.w) X.A (call (.builtin id) (v :: us)) (EP X ad σ Q) X.xe s
theorem Vals.one:∀{x:V} {us:List ae},Vals [x] us->∃u,us=[u]/\RelV x u
 | _,_,.cons r .nil=>⟨_,rfl,r⟩
theorem Vals.two:∀{x y:V} {us:List ae},Vals [x,y] us->∃u v,us=[u,v]/\RelV x u/\RelV y v
 | _,_,_,.cons r (.cons q .nil)=>⟨_,_,rfl,r,q⟩
theorem Vals.zero:∀{us:List ae},Vals [] us->us=[]
 | _,.nil=>rfl
theorem Vals.dropLast{xs:List V}{us:List ae}(h:Vals xs us):Vals xs.dropLast us.dropLast:=by
 induction h with
 | nil=>exact .nil
 | cons r t ih=>
  cases t with
  | nil=>exact .nil
  | cons q t'=>exact .cons r ih
theorem Vals.eraseIdx:∀{xs:List V} {us:List ae} (i:Nat),Vals xs us->Vals (xs.eraseIdx i) (us.eraseIdx i)
 | _,_,_,.nil=>.nil
 | _,_,0,.cons _ t=>t
 | _,_,i+1,.cons r t=>.cons r (Vals.eraseIdx i t)
theorem Vals.reverse{xs:List V}{us:List ae}(h:Vals xs us):Vals xs.reverse us.reverse:=by
 induction h with
 | nil=>exact .nil
 | cons r t ih=>rw[Mb,Mb];exact Vals.append ih (.cons r .nil)
theorem jbB{α:Type}(l:List α):l.eraseIdx (l.length - 1)=l.dropLast:=by
 induction l with
 | nil=>rfl
 | cons a r ih=>
  cases r with
  | nil=>rfl
  | cons b r=>
   have e:(a :: b :: r).length - 1=((b :: r).length - 1)+1:=by
    have h1:(a :: b :: r).length=r.length+2:=rfl;have h2:(b :: r).length=r.length+1:=rfl;omega
   rw[e,List.eraseIdx_cons_succ,ih]
   all_goals rfl
section
variable {X:Cx}{ad:List (ab×Obj)}{σ:St}{H:Hp}{s:af}{l b:ab}{xs ys zs:List V}
theorem Inv.lset{its its':List ae}{n:Nat}{f:Array ae->Array ae}{t':Nat}(I:Inv X ad σ H s)(hH:H l=some (.lst xs))
  (e:s.heap.get? l=some { cls:=.type "list",data:=.seq its.toArray n }) (hf:f its.toArray=its'.toArray) (hv:Vals ys its') (hz:ys.length<=aE) :
  Inv X ad σ (upd H l (.lst ys)) { s with heap:=s.heap.update l (cX f),toks:=t' }:=by
 have q:=PySem.IsL.update e f
 rw[hf]at q
 refine I.write (x:=l) (e:=l) (by rw[hH];exact trivial) (.inl rfl) (fun b' u hb hu=>(w_ s.heap (cX f) (cY hb)).trans hu) ⟨_,q⟩ ?_
 exact⟨hz,its',_,hv,q⟩
theorem Inv.lnew{its:List ae}{t':Nat}(I:Inv X ad σ H s)(hv:Vals ys its)(hz:ys.length<=aE):
  Inv X ad σ (upd H s.heap.objs.size (.lst ys)) { s with heap:=s.heap.push { cls:=.type "list",data:=.seq its.toArray },toks:=t' }:=
 I.laid (fun _ _ q=>bK _ q) (aD _) ⟨hz,its,0,hv,eh _ rfl⟩
theorem Inv.fresh(I:Inv X ad σ H s):H s.heap.objs.size=none:=I.hok.fresh (aD _)
theorem Inv.lstM(I:Inv X ad σ H s)(hH:H l=some (.lst xs)):xs.length<=aE/\∃(its:List ae) (n:Nat),Vals xs its/\xs.length=its.length/\s.heap.get? l=some { cls:=.type "list",data:=.seq its.toArray n }:=by
 obtain⟨z,its,n,r,e⟩:=I.hok l _ hH;exact⟨z,its,n,r,r.length,e⟩
theorem jeZ{n:Nat}(h:n<=aE):De n=false:=by
 unfold De;exact MS (by omega)
end
section
variable {X:Cx}
def jca:V->List V->Hp->VK->Prop:=fun x vs H Q=>∃l xs y,x=.ref l/\vs=[y]/\H l=some (.lst xs)/\xs.length < aE/\Q .non (upd H l (.lst (xs++[y])))
theorem j0:MtM X "list.append" jca:=by
 intro ad s σ H x vs v us Q I rx rv h;obtain⟨l,xs,y,rfl,rfl,hH,hz,q⟩:=h
 cases rx
 obtain⟨u,rfl,ru⟩:=rv.one;obtain⟨z,its,n,r,hl,e⟩:=I.lstM hH;refine wU F.slot_list_append ⟨_,e,rfl⟩ F.entry_list_append (F.args_list_append_2 _ _) (PySem.list_append l its.toArray n u (by rw[bX];omega)) ⟨e,?_⟩;refine⟨.non,_,I.lset (its':=its++[u]) hH e (by simp) (r.append (.cons ru .nil)) ?_,rfl,q⟩;rw[bz,List.length_singleton];omega
def jfT:V->List V->Hp->VK->Prop:=fun x vs H Q=>∃l b xs zs,x=.ref l/\vs=[.ref b]/\H l=some (.lst xs)/\H b=some (.lst zs)/\xs.length+zs.length<=aE/\Q .non (upd H l (.lst (xs++zs)))
theorem kQ:MtM X "list.extend" jfT:=by
 intro ad s σ H x vs v us Q I rx rv h;obtain⟨l,b,xs,zs,rfl,rfl,hH,hB,hz,q⟩:=h
 cases rx
 obtain⟨u,rfl,ru⟩:=rv.one
 cases ru
 obtain⟨z,its,n,r,hl,e⟩:=I.lstM hH;obtain⟨z2,aZ,n2,r2,mf,e2⟩:=I.lstM hB;have hsz:its.toArray.size+aZ.toArray.size<=aE:=by rw[bX,bX];omega
 have Fm:¬(!its.toArray.isEmpty && De (its.toArray.size+aZ.toArray.size))=true:=by
  rw[jeZ hsz,MH];exact cP
 refine wU F.slot_list_extend ⟨_,e,rfl⟩ F.entry_list_extend (F.args_list_extend_2 _ _)
  (AutoSeq1.list_extend_list_list_0 l its.toArray n b aZ.toArray n2 Fm (by rw[bX];omega) (by omega)) ⟨e,e2,?_⟩
 refine⟨.non,_,I.lset (its':=its++aZ) hH e (by simp) (r.append r2) ?_,rfl,q⟩;rw[bz];omega
def jjm:V->List V->Hp->VK->Prop:=fun x vs H Q=>∃l xs y,x=.ref l/\vs=[]/\H l=some (.lst xs)/\xs[xs.length - 1]?=some y/\Q y (upd H l (.lst xs.dropLast))
theorem jjr:MtM X "list.pop" jjm:=by
 intro ad s σ H x vs v us Q I rx rv h;obtain⟨l,xs,y,rfl,rfl,hH,hy,q⟩:=h
 cases rx
 have nA:=rv.zero;subst nA;obtain⟨z,its,n,r,hl,e⟩:=I.lstM hH;obtain⟨u,hu,ru⟩:=r.get hy;have dE:its.toArray[its.toArray.size - 1]?=some u:=by
  show its.toArray[its.length - 1]?=some u;rw[<- gj,<- hl];exact hu
 refine wU F.slot_list_pop ⟨_,e,rfl⟩ F.entry_list_pop (F.args_list_pop_1 _) (MeetsSeq.list_pop_last l its.toArray n u dE (by rw[bX];omega)) ⟨e,?_⟩;refine⟨y,_,I.lset (its':=its.dropLast) hH e ?_ r.dropLast ?_,ru,q⟩
 .show its.toArray.eraseIdxIfInBounds (its.toArray.size - 1)=its.dropLast.toArray
  rw[bX,List.eraseIdxIfInBounds_toArray,jbB]
 .rw[List.length_dropLast]
  omega
def jhF:V->List V->Hp->VK->Prop:=fun x vs H Q=>∃l xs,x=.ref l/\vs=[]/\H l=some (.lst xs)/\Q .non (upd H l (.lst []))
theorem jaC:MtM X "list.clear" jhF:=by
 intro ad s σ H x vs v us Q I rx rv h;obtain⟨l,xs,rfl,rfl,hH,q⟩:=h
 cases rx
 have nA:=rv.zero;subst nA;obtain⟨z,its,n,r,hl,e⟩:=I.lstM hH;refine wU F.slot_list_clear ⟨_,e,rfl⟩ F.entry_list_clear (F.args_list_clear_1 _) (AutoSeq1.list_clear_list_0 l its.toArray n (by rw[bX];omega)) ⟨e,?_⟩;exact⟨.non,_,I.lset (its':=[]) (ys:=[]) hH e rfl .nil (bF _),rfl,q⟩
def jjp:R2:=fun x y H Q=>∃l b xs zs,x=.ref l/\y=.ref b/\H l=some (.lst xs)/\H b=some (.lst zs)/\xs.length+zs.length<=aE/\∀p,H p=none->Q (.ref p) (upd H p (.lst (xs++zs)))
theorem ZH:OpR X (gM .Add) jjp:=by
 intro ad s σ H x y v u Q I rx ry h;obtain⟨l,b,xs,zs,rfl,rfl,hH,hB,hz,q⟩:=h
 cases rx
 cases ry
 obtain⟨z,its,n,r,hl,e⟩:=I.lstM hH;obtain⟨z2,aZ,n2,r2,mf,e2⟩:=I.lstM hB;refine PySem.P.add_list e e2 ?_ (by rw[bX,bX];omega);have ea:its.toArray++aZ.toArray=(its++aZ).toArray:=by simp
 rw[ea];exact⟨.ref _,_,I.lnew (t':=s.toks) (r.append r2) (by rw[bz];omega),rfl,q _ I.fresh⟩
end
section
variable {κ:Type}[DecidableEq κ]
def qu(kvs:List (κ×V))(k:κ):Option V:=(kvs.find? fun kv=>decide (kv.1=k)).map (·.2)
def km(kvs:List (κ×V))(k:κ)(v:V):List (κ×V):=
 if (kvs.any fun kv=>decide (kv.1=k))=true then kvs.map (fun kv=>if kv.1=k then (kv.1,v) else kv) else kvs++[(k,v)]
def Zd(kvs:List (κ×V))(k:κ):List (κ×V):=kvs.filter fun kv=>decide (kv.1≠k)
theorem kW{p:κ×V}{r:List (κ×V)}{k:κ}(e:p.1=k):qu (p :: r) k=some p.2:=by simp[qu,oI,e]
theorem kZ{p:κ×V}{r:List (κ×V)}{k:κ}(e:¬p.1=k):qu (p :: r) k=qu r k:=by simp[qu,oI,e]
theorem Jv(k:κ):∀kvs:List (κ×V),(kvs.any fun kv=>decide (kv.1=k))=(qu kvs k).isSome
 | []=>rfl
 | p :: r=>by
  rw[DV];by_cases e:p.1=k
  .simp only[kW e,MR e,Bool.true_or,Option.isSome_some]
  .rw[kZ e,MS e,MG];exact Jv k r
theorem jah(k j:κ)(y:V):∀kvs:List (κ×V),qu (kvs.map fun kv=>if kv.1=k then (kv.1,y) else kv) j=(qu kvs j).map fun x=>if j=k then y else x
 | []=>rfl
 | p :: r=>by
  have ih:=jah k j y r;rw[bg];by_cases h:p.1=k
  .rw[MU h]
   by_cases e:p.1=j
   .rw[kW (p:=(p.1,y)) e,kW e,xr,MU (e.symm.trans h)]
   .rw[kZ (p:=(p.1,y)) e,kZ e,ih]
  .rw[MT h]
   by_cases e:p.1=j
   .rw[kW (p:=p) e,kW e,xr,MT (fun z=>h (e.trans z))]
   .rw[kZ (p:=p) e,kZ e,ih]
theorem YR(k j:κ)(y:V):∀kvs:List (κ×V),qu kvs k=none->qu (kvs++[(k,y)]) j=if j=k then some y else qu kvs j
 | [],_=>by
  by_cases e:k=j
  .rw[MU e.symm];exact kW (p:=(k,y)) e
  .rw[MT (fun z=>e z.symm)];exact kZ (p:=(k,y)) e
 | p :: r,hn=>by
  rw[cu];have hk:¬p.1=k:=fun z=>by rw[kW z]at hn;cases hn
  rw[kZ hk]at hn;have ih:=YR k j y r hn;by_cases e:p.1=j
  .rw[kW e,kW e,MT (fun z=>hk (e.trans z))]
  .rw[kZ e,kZ e,ih]
theorem jdL(kvs:List (κ×V))(k j:κ)(y:V):qu (km kvs k y) j=if j=k then some y else qu kvs j:=by
 unfold km;by_cases a:(kvs.any fun kv=>decide (kv.1=k))=true
 .rw[MU a,jah]
  rw[Jv]at a;by_cases e:j=k
  .obtain⟨x,hx⟩:=sJ.mp a
   rw[MU e,e,hx,xr,MU rfl]
  .rw[MT e]
   cases qu kvs j with
   | none=>rfl
   | some x=>rw[xr,MT e]
 .rw[MT a]
  refine YR k j y kvs ?_;rw[Jv]at a
  cases q:qu kvs k with
  | none=>rfl
  | some x=>rw[q]at a;exact (a rfl).elim
theorem kK(kvs:List (κ×V))(k:κ)(v:V):(km kvs k v).length<=kvs.length+1:=by
 unfold km;split
 .rw[aB];omega
 .rw[bz,bM,fe];omega
theorem RelO.isSome_eq{o:Option V}{u:Option ae}(r:RelO o u):o.isSome=u.isSome:=by
 cases o with
 | none=>cases u with
  | none=>rfl
  | some _=>exact (show False from r).elim
 | some _=>cases u with
  | none=>exact (show False from r).elim
  | some _=>rfl
theorem RelO.getD{o:Option V}{u:Option ae}{d:V}{d':ae}(r:RelO o u)(rd:RelV d d'):RelV (o.getD d) (u.getD d'):=by
 cases o with
 | none=>cases u with
  | none=>exact rd
  | some _=>exact (show False from r).elim
 | some _=>cases u with
  | none=>exact (show False from r).elim
  | some _=>exact r
theorem KV.val{kvs:List (κ×V)}{vs:List (κ×ae)}(r:KV kvs vs)(k:κ):RelO (qu kvs k) (iy vs k):=by
 unfold KV at r;induction r with
 | nil=>exact True.intro
 | @cons p q ps qs h t ih=>
  obtain⟨h1,h2⟩:=h;by_cases e:p.1=k
  .have e':q.1=k:=h1.symm.trans e
   have b:iy (q :: qs) k=some q.2:=by simp[iy,oI,e']
   rw[kW e,b];exact h2
  .have e':¬q.1=k:=fun z=>e (h1.trans z)
   have b:iy (q :: qs) k=iy qs k:=by simp[iy,oI,e']
   rw[kZ e,b];exact ih
theorem KV.any{kvs:List (κ×V)}{vs:List (κ×ae)}(r:KV kvs vs)(k:κ):(kvs.any fun kv=>decide (kv.1=k))=vs.any fun kv=>decide (kv.1=k):=by
 unfold KV at r;induction r with
 | nil=>rfl
 | cons h t ih=>rw[DV,DV,ih,h.1]
theorem KV.repl{kvs:List (κ×V)}{vs:List (κ×ae)}(r:KV kvs vs)(k:κ){y:V}{u:ae}(ry:RelV y u):
  KV (kvs.map fun kv=>if kv.1=k then (kv.1,y) else kv) (vs.map fun kv=>if kv.1=k then (kv.1,u) else kv):=by
 unfold KV at r |-
 induction r with
 | nil=>exact .nil
 | @cons p q ps qs h t ih=>
  rw[bg,bg]
  refine .cons ?_ ih
  obtain⟨h1,h2⟩:=h
  by_cases e:p.1=k
  .rw[MU e,MU (h1.symm.trans e)];exact⟨h1,ry⟩
  .rw[MT e,MT (fun z=>e (h1.trans z))];exact⟨h1,h2⟩
theorem KV.put{kvs:List (κ×V)}{vs:List (κ×ae)}(r:KV kvs vs)(k:κ){y:V}{u:ae}(ry:RelV y u):KV (km kvs k y) (stored vs k u):=by
 unfold km stored;rw[r.any k];by_cases e:(vs.any fun kv=>decide (kv.1=k))=true
 .rw[MU e,MU e];exact r.repl k ry
 .rw[MT e,MT e];exact IX r ⟨rfl,ry⟩
theorem KV.drop{kvs:List (κ×V)}{vs:List (κ×ae)}(r:KV kvs vs)(k:κ):KV (Zd kvs k) (without vs k):=by
 unfold KV at r |-;unfold Zd without;induction r with
 | nil=>exact .nil
 | @cons p q ps qs h t ih=>
  obtain⟨h1,h2⟩:=h;rw[xD,xD];by_cases e:p.1=k
  .have a:¬decide (p.1≠k)=true:=by simp[e]
   have b:¬decide (q.1≠k)=true:=by simp[h1.symm.trans e]
   rw[MT a,MT b];exact ih
  .have e':¬q.1=k:=fun z=>e (h1.trans z)
   have a:decide (p.1≠k)=true:=by simp[e]
   have b:decide (q.1≠k)=true:=by simp[e']
   rw[MU a,MU b];exact .cons ⟨h1,h2⟩ ih
theorem KV.keys{kvs:List (κ×V)}{vs:List (κ×ae)}(r:KV kvs vs):kvs.map (·.1)=vs.map (·.1):=by
 unfold KV at r;induction r with
 | nil=>rfl
 | cons h t ih=>rw[bg,bg,ih,h.1]
theorem KV.length{kvs:List (κ×V)}{vs:List (κ×ae)}(r:KV kvs vs):kvs.length=vs.length:=w8 r
theorem jaN(kvs:List (κ×V))(k:κ):(Zd kvs k).length<=kvs.length:=oG _ _
end
theorem JS{P:az}{w:aw}{k:Key}{u:ae}(r:RelV (kV k) u):(j9 P w).is k u=true:=by
 cases k with
 | inl i=>obtain⟨t,e⟩:=(show ∃t,u=Value.int i t from r);subst e;exact jaE P w i t
 | inr x=>obtain⟨t,e⟩:=(show ∃t,u=Value.str x t from r);subst e;exact jaD P w x t
theorem Y7{P:az}{w:aw}:∀{ks:List Key} {us:List ae},Vals (ks.map kV) us->ItemsAre (j9 P w) ks us
 | [],_,r=>by rw[gg]at r;cases r;exact .nil
 | k :: ks,_,r=>by
  rw[bg]at r
  cases r with
  | cons h t=>exact .cons (JS h) (Y7 t)
abbrev KT(H:Hp):List (List Key×V)->List (List Key×ab×ae)->Prop:=Paired fun p q=>p.1=q.1/\H q.2.1=some (.tup (p.1.map kV))/\RelV p.2 q.2.2
theorem KT.val{H:Hp}{kvs:List (List Key×V)}{xs:List (List Key×ab×ae)}(r:KT H kvs xs)(k:List Key):RelO (qu kvs k) ((atKey xs k).map (·.2)):=by
 induction r with
 | nil=>exact True.intro
 | @cons p q ps qs h t ih=>
  obtain⟨h1,_,h2⟩:=h;by_cases e:p.1=k
  .have e':q.1=k:=h1.symm.trans e
   have b:atKey (q :: qs) k=some q.2:=by simp[atKey,oI,e']
   rw[kW e,b];exact h2
  .have e':¬q.1=k:=fun z=>e (h1.trans z)
   have b:atKey (q :: qs) k=atKey qs k:=by simp[atKey,oI,e']
   rw[kZ e,b];exact ih
theorem KT.repl{H:Hp}{kvs:List (List Key×V)}{xs:List (List Key×ab×ae)}(r:KT H kvs xs)(k:List Key){y:V}{u:ae}(ry:RelV y u):
  KT H (kvs.map fun kv=>if kv.1=k then (kv.1,y) else kv) (xs.map (putAt k u)):=by
 induction r with
 | nil=>exact .nil
 | @cons p q ps qs h t ih=>
  rw[bg,bg]
  refine .cons ?_ ih
  obtain⟨h1,h2,h3⟩:=h
  unfold putAt
  by_cases e:p.1=k
  .rw[MU e,MU (h1.symm.trans e)];exact⟨h1,h2,ry⟩
  .rw[MT e,MT (fun z=>e (h1.trans z))];exact⟨h1,h2,h3⟩
theorem KT.put{H:Hp}{kvs:List (List Key×V)}{xs:List (List Key×ab×ae)}(r:KT H kvs xs)(k:List Key){b:ab}{y:V}{u:ae}(hb:H b=some (.tup (k.map kV)))(ry:RelV y u):
  KT H (km kvs k y) (storedH xs k b u):=by
 have e:(kvs.any fun kv=>decide (kv.1=k))=(atKey xs k).isSome:=by
  rw[Jv,(r.val k).isSome_eq,LP]
 unfold km storedH
 rw[e]
 by_cases q:(atKey xs k).isSome=true
 .rw[MU q,MU q];exact r.repl k ry
 .rw[MT q,MT q];exact IX r ⟨rfl,hb,ry⟩
theorem KT.keeps{H H':Hp}{kvs:List (List Key×V)}{xs:List (List Key×ab×ae)}(r:KT H kvs xs)(ht:∀b ys,H b=some (.tup ys)->H' b=some (.tup ys)):KT H' kvs xs:=
 Paired.mapP r fun _ _ z=>⟨z.1,ht _ _ z.2.1,z.2.2⟩
section
variable {P:az}{w:aw}{H:Hp}{h:aj}{a:ab}
theorem jhi{u:HO}(ok:HOk P w H h)(e:Rd H a u):ObjOk P w H h a u:=e.ok ok
theorem Ze{kvs:List (Key×V)}(ok:HOk P w H h)(e:Rd H a (.dK kvs)):kvs.length<=aE/\(a == fz)=false/\∃vs,KV kvs vs/\h.DictOf (j9 P w) a vs:=
 show ObjOk P w H h a (.dK kvs) from jhi ok e
theorem jaQ{kvs:List (Key×V)}(ok:HOk P w H h)(e:H a=some (.dK kvs)):kvs.length<=aE/\(a == fz)=false/\∃vs,KV kvs vs/\h.DictOf (j9 P w) a vs:=Ze ok (.inl e)
theorem Yp{ks:List Key}(ok:HOk P w H h)(e:H a=some (.tup (ks.map kV))):(ol (j9 P w)).is h ks a:=by
 obtain⟨_,its,r,o,h1,h2,n,h3⟩:=(show ObjOk P w H h a (.tup (ks.map kV)) from ok a _ e)
 exact⟨o,its.toArray,n,h1,h2,h3,by simpa using Y7 r⟩
theorem Zc{kvs:List (List Key×V)}(ok:HOk P w H h)(e:Rd H a (.dT kvs)):kvs.length<=aE/\(a == fz)=false/\
  ∃xs,KT H kvs xs/\h.DictOfH (ol (j9 P w)) a xs:=by
 obtain⟨z,y,xs,r,o,es,ep,h1,h2,h3,h4,h5⟩:=(show ObjOk P w H h a (.dT kvs) from jhi ok e)
 refine⟨z,y,xs,r,o,es,ep,h1,h2,h3,h4,fun x hx=>?_,h5⟩
 have all:∀{l:List (List Key×V)} {m:List (List Key×ab×ae)},KT H l m->∀x∈m,(ol (j9 P w)).is h x.1 x.2.1:=by
  intro l m q;induction q with
  | nil=>intro x hx;exact nomatch hx
  | @cons p q ps qs hq t ih=>
   intro x hx;rcases a_.mp hx with e | hx
   .subst e
    exact Yp ok (by rw[<- hq.1];exact hq.2.1)
   .exact ih x hx
 exact all r x hx
theorem jja{kvs:List (List Key×V)}(ok:HOk P w H h)(e:H a=some (.dT kvs)):kvs.length<=aE/\(a == fz)=false/\
  ∃xs,KT H kvs xs/\h.DictOfH (ol (j9 P w)) a xs:=Zc ok (.inl e)
end
def DGet(H:Hp)(a:ab)(y:V)(r:Option V):Prop:=
 (∃kvs k,Rd H a (.dK kvs)/\y=kV k/\r=qu kvs k)\/∃kvs k b,Rd H a (.dT kvs)/\y=.ref b/\H b=some (.tup (k.map kV))/\r=qu kvs k
def DPut(H:Hp)(a:ab)(y v:V)(H':Hp):Prop:=
 (∃kvs k,H a=some (.dK kvs)/\y=kV k/\kvs.length < aE/\H'=upd H a (.dK (km kvs k v)))\/
 ∃kvs k b,H a=some (.dT kvs)/\y=.ref b/\H b=some (.tup (k.map kV))/\kvs.length < aE/\H'=upd H a (.dT (km kvs k v))
theorem DGet.k{H:Hp}{a:ab}{kvs:List (Key×V)}{k:Key}(e:H a=some (.dK kvs)):DGet H a (kV k) (qu kvs k):=.inl ⟨kvs,k,.inl e,rfl,rfl⟩
theorem DPut.k{H:Hp}{a:ab}{kvs:List (Key×V)}{k:Key}{v:V}(e:H a=some (.dK kvs))(hl:kvs.length < aE):DPut H a (kV k) v (upd H a (.dK (km kvs k v))):=.inl ⟨kvs,k,e,rfl,hl,rfl⟩
theorem DPut.t{H:Hp}{a b:ab}{kvs:List (List Key×V)}{k:List Key}{v:V}(e:H a=some (.dT kvs))(eb:H b=some (.tup (k.map kV)))(hl:kvs.length < aE):
  DPut H a (.ref b) v (upd H a (.dT (km kvs k v))):=.inr ⟨kvs,k,b,e,rfl,eb,hl,rfl⟩
section
variable {X:Cx}{ad:List (ab×Obj)}{σ:St}{H:Hp}{s:af}{a:ab}{y v:V}{u r:ae}{o:Option V}{A:aL}{E:ae->af->Prop}
theorem Inv.big(I:Inv X ad σ H s):fz < s.heap.objs.size:=by
 have h:aO < s.heap.objs.size:=(I.mod.glob.keeps I.bk).lt;exact DD (by decide) h
theorem jdr{Q:ae->af->Prop}(hu:A.units+1 < cLine)(I:Inv X ad σ H s)(g:DGet H a y (some v))(ry:RelV y u)(h:∀w' s',Inv X ad σ H s'->RelV v w'->Q w' s'):
  al (ai X.prog X.w) A (lm (.ref a) u) Q E s:=by
 rcases g with⟨kvs,k,e,ey,l⟩ | ⟨kvs,k,b,e,ey,eb,l⟩
 .subst ey
  obtain⟨z,hd,vs,bv,dd⟩:=Ze I.hok e
  obtain⟨w',hw,c6⟩:=RelO.some_of (v:=v) (o:=iy vs k) (by rw[l];exact bv.val k)
  exact wpAny_getItem_of (JS ry) dd.mapOf hw (h w' _ (I.tok _) c6)
 .subst ey
  cases (show u=Value.ref b from ry)
  obtain⟨z,hd,xs,bv,dd⟩:=Zc I.hok e
  obtain⟨w',hw,c6⟩:=RelO.some_of (v:=v) (o:=(atKey xs k).map (·.2)) (by rw[l];exact bv.val k)
  obtain⟨p,hp,eV⟩:=Dx.mp hw
  refine wpAny_getItem_heap (wO hu) (Yp I.hok eb) dd hp ?_
  rw[eV]
  exact h w' _ (I.tok _) c6
theorem jgT{Q:ae->af->Prop}(hu:A.units+1 < cLine)(I:Inv X ad σ H s)(g:DGet H a y o)(ry:RelV y u)(h:∀s',Inv X ad σ H s'->Q (.bool (!o.isSome)) s'):
  al (ai X.prog X.w) A (dw .NotIn u (.ref a)) Q E s:=by
 rcases g with⟨kvs,k,e,ey,l⟩ | ⟨kvs,k,b,e,ey,eb,l⟩
 .subst ey
  obtain⟨z,hd,vs,bv,dd⟩:=Ze I.hok e
  refine wpAny_notIn_of (JS ry) hd dd.mapOf ?_
  rw[<- (bv.val k).isSome_eq,<- l]
  exact h _ (I.tok _)
 .subst ey
  cases (show u=Value.ref b from ry)
  obtain⟨z,hd,xs,bv,dd⟩:=Zc I.hok e
  refine wpAny_notIn_heap (wO hu) (Yp I.hok eb) hd dd ?_
  have q:=(bv.val k).isSome_eq
  rw[LP]at q
  rw[<- q,<- l]
  exact h _ (I.tok _)
theorem JY{h':aj}{t':Nat}{ob:HO}(I:Inv X ad σ H s)(mu:Mut (H a))(hs:lB a s.heap h')(he:∃q,h'.get? a=some q)(new:ObjOk X.prog X.w (upd H a ob) h' a ob):
  Inv X ad σ (upd H a ob) { s with heap:=h',toks:=t' }:=
 I.write (x:=a) (e:=a) mu (.inl rfl) (fun b q hb z=>(hs.2 b hb).trans z) he new
theorem ZV{P:az}{w:aw}{H':Hp}{h':aj}{kvs:List (Key×V)}{vs:List (Key×ae)}(z:kvs.length<=aE)(hd:(a == fz)=false)(bv:KV kvs vs)(dd:h'.DictOf (j9 P w) a vs):
  ObjOk P w H' h' a (.dK kvs):=⟨z,hd,vs,bv,dd⟩
theorem jdq{H':Hp}{Q:Unit->af->Prop}(hu:A.units+1 < cLine)(I:Inv X ad σ H s)(g:DPut H a y v H')(ry:RelV y u)(rv:RelV v r)(h:∀s',Inv X ad σ H' s'->Q () s'):
  al (ai X.prog X.w) A (wR (.ref a) u r) Q E s:=by
 rcases g with⟨kvs,k,e,ey,l,eH⟩ | ⟨kvs,k,b,e,ey,eb,l,eH⟩
 .subst ey eH
  obtain⟨z,hd,vs,bv,dd⟩:=jaQ I.hok e
  have hz:vs.length<=aE:=by rw[<- bv.length];exact z
  have hl:(km kvs k v).length<=aE:=by have:=kK kvs k v;omega
  refine wpAny_setItem_pairs (hsz:=hz) (JS ry) dd fun h' eM hs=>h _ ?_
  have he:∃q,h'.get? a=some q:=let ⟨q,_,_,hq,_⟩:=eM;⟨q,hq⟩
  exact JY I (by rw[e];exact True.intro) hs he (ZV hl hd (bv.put k rv) eM)
 .subst ey eH
  cases (show u=Value.ref b from ry)
  obtain⟨z,hd,xs,bv,dd⟩:=jja I.hok e
  have hz:xs.length<=aE:=by rw[<- w8 bv];exact z
  have hl:(km kvs k v).length<=aE:=by have:=kK kvs k v;omega
  refine wpAny_setItem_heap (hsz:=hz) (wO hu) (Yp I.hok eb) dd fun h' eM hs=>h _ ?_
  obtain⟨q,es,ep,hq,h2,h3,h4,_,h5⟩:=eM
  refine JY I (by rw[e];exact True.intro) hs ⟨q,hq⟩ ⟨hl,hd,_,(bv.put k eb rv).keeps fun c ys ec=>?_,q,es,ep,hq,h2,h3,h4,h5⟩
  rw[jD (jaB ec e (fun z=>nomatch z))]
  exact ec
end
section
variable {X:Cx}{ad:List (ab×Obj)}{σ:St}{H:Hp}{s:af}{a:ab}{kvs:List (Key×V)}{k:Key}{u:ae}{A:aL}{E:ae->af->Prop}
theorem jis{Q:Unit->af->Prop}(I:Inv X ad σ H s)(e:H a=some (.dK kvs))(ry:RelV (kV k) u)(l:(qu kvs k).isSome=true)(h:∀s',Inv X ad σ (upd H a (.dK (Zd kvs k))) s'->Q () s'):
  al (ai X.prog X.w) A (delItem (.ref a) u) Q E s:=by
 obtain⟨z,hd,vs,bv,dd⟩:=jaQ I.hok e
 refine wpAny_delItem_slot dd.typeIs (by decide) Ld
  (oo Ld dd.typeIs PySem.F.entry_dict_delitem (PySem.F.args_dict_delitem_2 _ _) (meets_dict_delitem_pairs (j9 X.prog X.w) a (JS ry)) ⟨vs,dd,by rw[<- bv.length];exact z,by rw[<- (bv.val k).isSome_eq];exact l,fun h' eM hs=>h _ ?_⟩)
 have he:∃q,h'.get? a=some q:=let ⟨q,_,_,hq,_⟩:=eM;⟨q,hq⟩
 exact JY I (by rw[e];exact True.intro) hs he (ZV (aG (jaN kvs k) z) hd (bv.drop k) eM)
theorem jjb{v:V}{more:List ae}{Q:ae->af->Prop}(I:Inv X ad σ H s)(e:H a=some (.dK kvs))(ry:RelV (kV k) u)(l:qu kvs k=some v)(hm:more=[]\/∃x,more=[x])
  (h:∀w' s',Inv X ad σ (upd H a (.dK (Zd kvs k))) s'->RelV v w'->Q w' s'):al (ai X.prog X.w) A (call (.builtin "dict.pop") (.ref a :: u :: more)) Q E s:=by
 obtain⟨z,hd,vs,bv,dd⟩:=jaQ I.hok e
 obtain⟨w',hw,c6⟩:=RelO.some_of (v:=v) (o:=iy vs k) (by rw[<- l];exact bv.val k)
 have hp:(keyPart u).isSome=true:=by
  cases k with
  | inl i=>obtain⟨t,q⟩:=(show ∃t,u=Value.int i t from ry);subst q;rfl
  | inr x=>obtain⟨t,q⟩:=(show ∃t,u=Value.str x t from ry);subst q;rfl
 have ha:argsOk "dict.pop" ⟨.ref a :: u :: more,[]⟩:=by
  rcases hm with q | ⟨x,q⟩
  .subst q;exact PySem.F.args_dict_pop_2 _ _
  .subst q;exact Li _ _ _
 refine oo C7 dd.typeIs Lg ha (meets_dict_pop_there (j9 X.prog X.w) a (JS ry) more hm hp)
  ⟨vs,w',dd,by rw[<- bv.length];exact z,hw,fun h' eM hs=>h w' _ ?_ c6⟩
 have he:∃q,h'.get? a=some q:=let ⟨q,_,_,hq,_⟩:=eM;⟨q,hq⟩
 exact JY I (by rw[e];exact True.intro) hs he (ZV (aG (jaN kvs k) z) hd (bv.drop k) eM)
theorem jii{r:ae}{Q:ae->af->Prop}(I:Inv X ad σ H s)(e:H a=some (.dK kvs))(ry:RelV (kV k) u)(l:qu kvs k=none)(h:∀s',Inv X ad σ H s'->Q r s'):
  al (ai X.prog X.w) A (call (.builtin "dict.pop") [.ref a,u,r]) Q E s:=by
 obtain⟨z,hd,vs,bv,dd⟩:=jaQ I.hok e
 have hn:iy vs k=none:=RelO.none_of (by rw[<- l];exact bv.val k)
 have hp:(keyPart u).isSome=true:=by
  cases k with
  | inl i=>obtain⟨t,q⟩:=(show ∃t,u=Value.int i t from ry);subst q;rfl
  | inr x=>obtain⟨t,q⟩:=(show ∃t,u=Value.str x t from ry);subst q;rfl
 exact oo C7 dd.typeIs Lg (Li _ _ _) (meets_dict_pop_default (j9 X.prog X.w) a (JS ry) hd hp r) ⟨vs,dd,hn,h _ (I.tok _)⟩
end
def jip(i:ag):Prop:=∀ov iv,subscripted i false ov iv=operate [ov,iv] (lm ov iv)
theorem jfL{prog:az}{w:aw}{A:aL}{E:ae->af->Prop}{s:af}{env:Env}{value fG:ag}{pos:Pos}{T id:String}{Q:ae->af->Prop}
  (hl:typeLookup (.type T) "__getitem__" = pure (some (.builtin id))) (hs:jip fG)
  (h:al (ai prog w) A (eval value env) (fun o s₁=>al (ai prog w) A (eval fG env) (fun i s₂=>s₂.TypeIs o T/\al (ai prog w) A (lm o i) Q E s₂) E s₁) E s) :
  al (ai prog w) A (eval (.Subscript value fG pos) env) Q E s:=by
 refine Do (cb h (fun o s₁ h₁=>cb h₁ (fun i s₂ h₂=>?_) fun _ _ x=>x) fun _ _ x=>x)
 obtain⟨hT,h₂⟩:=h₂
 unfold Dg
 refine ar ?_
 rw[getitemInPython_of_ne hT.not_modules]
 refine ar (wpAny_specialOf hT hl ?_)
 have fin:al (ai prog w) A (subscripted fG false o i) (fun r s₃=>al (ai prog w) A (letTemporaryGo value o r >>= fun _=>pure r) Q E s₃) E s₂:=by
  rw[hs o i];exact wpAny_operating (cb h₂ (fun r s₃ h₃=>ar (wpAny_letTemporaryGo (aN h₃))) fun _ _ x=>x)
 first
  | exact aN (ar fin)
  | exact ar (aN (ar fin))
  | exact ar fin
theorem jaS{X:Cx}{ad:List (ab×Obj)}{σ:St}{H:Hp}{s:af}{a:ab}{y:V}{o:Option V}(I:Inv X ad σ H s)(g:DGet H a y o):s.TypeIs (.ref a) "dict":=by
 rcases g with⟨kvs,k,e,_,_⟩ | ⟨kvs,k,b,e,_,_,_⟩
 .obtain⟨_,_,vs,_,dd⟩:=Ze I.hok e
  exact dd.typeIs
 .obtain⟨_,_,xs,_,dd⟩:=Zc I.hok e
  exact dd.typeIs
def jhe(td ty:TE):TE:=fun σ H Q=>td σ H fun x H1=>ty σ H1 fun y H2=>∃a v,x=.ref a/\DGet H2 a y (some v)/\Q v H2
def jbT(ty td:TE):TE:=fun σ H Q=>ty σ H fun y H1=>td σ H1 fun x H2=>∃a o,x=.ref a/\DGet H2 a y o/\Q (.bl (!o.isSome)) H2
def jhh(td ty tv:TE):TS:=fun D σ H=>tv σ H fun v H1=>td σ H1 fun x H2=>ty σ H2 fun y H3=>∃a H4,x=.ref a/\DPut H3 a y v H4/\D.nx σ H4
section
variable {X:Cx}{o i e value:ag}{pos c9 D5:Pos}{td ty tv:TE}
theorem jgf(hu:X.A.units+1 < cLine)(ho:PE X o td)(hi:PE X i ty)(hs:jip i):PE X (.Subscript o i pos) (jhe td ty):=by
 intro ad s σ H Q I h;refine jfL PySem.F.slot_dict_getitem.lookup hs (thn (ho ad s σ H _ I h) fun u s1 ⟨x,H1,I1,rx,q1⟩=>thn (hi ad s1 σ H1 _ I1 q1) fun iv s2 ⟨y,H2,I2,ry,a,v,ex,g,q2⟩=>?_);subst ex;obtain rfl:u=Value.ref a:=rx;exact⟨jaS I2 g,jdr hu I2 g ry fun w' s3 I3 c6=>⟨v,H2,I3,c6,q2⟩⟩
theorem jc0(hu:X.A.units+1 < cLine)(hi:PE X i ty)(ho:PE X o td):PC X .NotIn i o (jbT ty td):=by
 intro ad s σ H Q I h;refine thn (hi ad s σ H _ I h) fun iv s1 ⟨y,H1,I1,ry,q1⟩=>thn (ho ad s1 σ H1 _ I1 q1) fun u s2 ⟨x,H2,I2,rx,a,ov,ex,g,q2⟩=>?_
 subst ex;obtain rfl:u=Value.ref a:=rx;exact jgT hu I2 g ry fun s3 I3=>⟨.bl (!ov.isSome),H2,I3,rfl,q2⟩
theorem jf3(hu:X.A.units+1 < cLine)(ho:PE X o td)(hi:PE X i ty)(hv:PE X value tv)(hs:gL value (some (.Subscript o i c9)) pos.line X.env=pure false):
  PS X (.Assign [.Subscript o i c9] value pos) (jhh td ty tv):=by
 intro ad s σ H D I h
 refine wpAny_Assign_Subscript (thn (hv ad s σ H _ I h) fun r s1 ⟨v,H1,I1,rv,q1⟩=>thn (ho ad s1 σ H1 _ I1 q1) fun u s2 ⟨x,H2,I2,rx,q2⟩=>thn (hi ad s2 σ H2 _ I2 q2) fun iv s3 ⟨y,H3,I3,ry,a,H4,ex,g,q3⟩=>?_) hs
 subst ex
 obtain rfl:u=Value.ref a:=rx
 exact jdq hu I3 g ry rv fun s4 I4=>⟨σ,H4,I4,q3⟩
end
theorem jaR{P:az}{w:aw}{H:Hp}(h:aj)(hb:fz < h.objs.size):ObjOk P w H (h.push { cls:=.type "dict",data:=.dict #[] }) h.objs.size (.dK []):=
 ⟨bF _,MV.mpr (cY (bB hb)),[],.nil,aj.DictOf.new h⟩
theorem jfh{P:az}{w:aw}{H:Hp}(h:aj)(hb:fz < h.objs.size):ObjOk P w H (h.push { cls:=.type "dict",data:=.dict #[] }) h.objs.size (.dT []):=
 ⟨bF _,MV.mpr (cY (bB hb)),[],.nil,_,#[],0,eh _ rfl,⟨rfl,rfl,rfl⟩,rfl,rfl,sM⟩
def jdY:TE:=fun _ H Q=>∀p,H p=none->Q (.ref p) (upd H p (.dK []))
def jdX:TE:=fun _ H Q=>∀p,H p=none->Q (.ref p) (upd H p (.dT []))
section
variable {X:Cx}{pos:Pos}
theorem jeE:PE X (.Dict [] [] pos) jdY:=fun ad s σ H Q I h=>
 HI ⟨.ref s.heap.objs.size,_,I.laid (a:=s.heap.objs.size) (o:=.dK []) (t':=s.toks) (fun _ _ q=>bK _ q) (aD _) (jaR s.heap I.big),rfl,h _ (I.hok.fresh (aD _))⟩
theorem jeD:PE X (.Dict [] [] pos) jdX:=fun ad s σ H Q I h=>
 HI ⟨.ref s.heap.objs.size,_,I.laid (a:=s.heap.objs.size) (o:=.dT []) (t':=s.toks) (fun _ _ q=>bK _ q) (aD _) (jfh s.heap I.big),rfl,h _ (I.hok.fresh (aD _))⟩
end
def jbb:List (TE×TE)->St->Hp->(List (V×V)->Hp->Prop)->Prop
 | [],_,H,Q=>Q [] H
 | (tk,tv) :: r,σ,H,Q=>tk σ H fun x H1=>tv σ H1 fun y H2=>jbb r σ H2 fun ps H3=>Q ((x,y) :: ps) H3
abbrev VV:List (V×V)->List (ae×ae)->Prop:=Paired fun p q=>RelV p.1 q.1/\RelV p.2 q.2
def PPs(X:Cx)(pos:Pos)(keys:List (Option ag))(gn:List ag)(dB:List (TE×TE)):Prop:=
 ∀(ad:List (ab×Obj)) (s:af) (σ:St) (H:Hp) (Q:List (V×V)->Hp->Prop),Inv X ad σ H s->jbb dB σ H Q->
  al (ai X.prog X.w) X.A (evalPairs (pairTrees keys gn X.env pos)) (fun vs s'=>∃ps H',Inv X ad σ H' s'/\VV ps vs/\Q ps H') X.xe s
theorem jf4{X:Cx}{pos:Pos}:PPs X pos [] [] []:=fun ad s σ H Q I h=>pairTrees_nil_walk ⟨[],H,I,.nil,h⟩
theorem jes{X:Cx}{pos:Pos}{k v:ag}{ks:List (Option ag)}{vs:List ag}{tk tv:TE}{dB:List (TE×TE)}(hk:PE X k tk)(hv:PE X v tv)(hr:PPs X pos ks vs dB):
  PPs X pos (some k :: ks) (v :: vs) ((tk,tv) :: dB):=fun ad s σ H Q I h=>
 pairTrees_cons_walk (thn (hk ad s σ H _ I h) fun u s1 ⟨x,H1,I1,rx,q1⟩=>thn (hv ad s1 σ H1 _ I1 q1) fun w2 s2 ⟨y,H2,I2,ry,q2⟩=>
  thn (hr ad s2 σ H2 _ I2 q2) fun ws s3 ⟨ps,H3,I3,bv,q3⟩=>⟨(x,y) :: ps,H3,I3,.cons ⟨rx,ry⟩ bv,q3⟩)
def Kg(kvs more:List (Key×V)):List (Key×V):=more.foldl (fun aJ kv=>km aJ kv.1 kv.2) kvs
theorem KV.merge:∀{more:List (Key×V)} {rs:List (Key×ae)} {kvs:List (Key×V)} {vs:List (Key×ae)},KV more rs->KV kvs vs->KV (Kg kvs more) (merged vs rs):=by
 intro more rs kvs vs r;unfold KV at r;induction r generalizing kvs vs with
 | nil=>intro q;exact q
 | @cons p q ps qs h t ih=>
  intro r0;have e:KV (km kvs p.1 p.2) (stored vs q.1 q.2):=by
   have:=r0.put p.1 h.2;rw[<- h.1];exact this
  exact ih e
theorem Jb:∀(more kvs:List (Key×V)),(Kg kvs more).length<=kvs.length+more.length
 | [],kvs=>by show kvs.length<=kvs.length+0;omega
 | p :: r,kvs=>by
  have h1:=Jb r (km kvs p.1 p.2);have h2:=kK kvs p.1 p.2;show (Kg (km kvs p.1 p.2) r).length<=_;rw[bM];omega
theorem Yz{P:az}{w:aw}:∀{kvs:List (Key×V)} {ws:List (ae×ae)},VV (kvs.map fun kv=>(kV kv.1,kv.2)) ws->∃rs,Carries (j9 P w) ws rs/\KV kvs rs
 | [],_,r=>by rw[gg]at r;cases r;exact⟨[],True.intro,.nil⟩
 | p :: kvs,_,r=>by
  rw[bg]at r
  cases r with
  | @cons a b as bs h t=>
   obtain⟨rs,c,q⟩:=Yz (P:=P) (w:=w) t;obtain⟨b1,b2⟩:=b;exact⟨(p.1,b2) :: rs,⟨JS h.1,rfl,c⟩,.cons ⟨rfl,h.2⟩ q⟩
def jhd(dB:List (TE×TE)):TE:=fun σ H Q=>∀p,H p=none->jbb dB σ (upd H p (.dK [])) fun ps H2=>H2 p=some (.dK [])/\∃kvs:List (Key×V),ps=kvs.map (fun kv=>(kV kv.1,kv.2))/\kvs.length<=15/\Q (.ref p) (upd H2 p (.dK (Kg [] kvs)))
theorem jge{X:Cx}{pos:Pos}{keys:List (Option ag)}{gn:List ag}{dB:List (TE×TE)}(h:PPs X pos keys gn dB)(vD:keys.all (·.isSome)=true)(hl:keys.length=gn.length)(h0:keys≠[])
  (GM:keys.length<=15):PE X (.Dict keys gn pos) (jhd dB):=by
 intro ad s σ H Q I q
 have hn:=I.hok.fresh (aD s.heap.objs.size)
 have I1:=I.laid (a:=s.heap.objs.size) (o:=.dK []) (h':=s.heap.push { cls:=.type "dict",data:=.dict #[] }) (t':=s.toks) (fun _ _ q=>bK _ q) (aD _) (jaR s.heap I.big)
 refine wpAny_Dict_walk (knd:=j9 X.prog X.w) vD hl h0 GM (thn (h ad _ σ _ _ I1 (q _ hn)) fun ws s2 ⟨ps,H2,I2,bv,e,kvs,ep,lk,q2⟩=>?_)
 subst ep
 obtain⟨rs,c,rk⟩:=Yz (P:=X.prog) (w:=X.w) bv
 obtain⟨z,hd,vs0,r0,dd⟩:=jaQ I2.hok e
 cases r0
 refine⟨rs,c,dd,fun h' eM hs=>⟨.ref s.heap.objs.size,_,?_,rfl,q2⟩⟩
 have hz:(Kg [] kvs).length<=aE:=by
  have h1:=Jb kvs [];rw[fe]at h1;rw[fX];omega
 have he:∃q,h'.get? s.heap.objs.size=some q:=let ⟨q,_,_,hq,_⟩:=eM;⟨q,hq⟩
 exact JY I2 (by rw[e];exact True.intro) hs he (ZV hz hd (rk.merge .nil) eM)
structure M2(X:Cx)(o:ag)(m:Str)(cC:Pos)(e f:ag)(bN:Pos):Prop where
 base:gO o m X.env (eval o X.env)=eval o X.env
 few:((eO bN (bO [e,f] X.env)).all (fun x=>!x.1) && (backToKw bN (Cw [] X.env)).all (fun x=>x.1.isSome)
  && decide (([e,f]:List ag).length+([]:List Keyword).length+(if ([]:List Keyword).isEmpty then 0 else 1) < 30))=true
 line:(cC.endLine == bN.line)=true
 trees:eO bN (bO [e,f] X.env)=[(false,eval e X.env),(false,eval f X.env)]
def IsD(H:Hp)(a:ab):Prop:=(∃kvs,Rd H a (.dK kvs))\/∃kvs,Rd H a (.dT kvs)
theorem je8{X:Cx}{ad:List (ab×Obj)}{σ:St}{H:Hp}{s:af}{a:ab}(I:Inv X ad σ H s)(d:IsD H a):
  s.TypeIs (.ref a) "dict"/\(∀b,Value.ref a=.ref b->∃ob,s.heap.get? b=some ob/\ob.dict=none)/\(a == fz)=false:=by
 rcases d with⟨kvs,e⟩ | ⟨kvs,e⟩
 .obtain⟨_,hd,vs,_,dd⟩:=Ze I.hok e
  refine⟨dd.typeIs,fun b q=>?_,hd⟩
  cases q
  obtain⟨ob,_,_,h1,h2,_⟩:=dd
  exact⟨ob,h1,h2.2.1⟩
 .obtain⟨_,hd,xs,_,dd⟩:=Zc I.hok e
  refine⟨dd.typeIs,fun b q=>?_,hd⟩
  cases q
  obtain⟨ob,_,_,h1,h2,_⟩:=dd
  exact⟨ob,h1,h2.2.1⟩
section
variable {X:Cx}{ad:List (ab×Obj)}{σ:St}{H:Hp}{s:af}{a:ab}{y d:V}{u r:ae}{o:Option V}{A:aL}{E:ae->af->Prop}
theorem jij{Q:ae->af->Prop}(hu:A.units+1 < cLine)(I:Inv X ad σ H s)(g:DGet H a y o)(ry:RelV y u)(rd:RelV d r)(h:∀w' s',Inv X ad σ H s'->RelV (o.getD d) w'->Q w' s'):
  al (ai X.prog X.w) A (call (.builtin "dict.get") [.ref a,u,r]) Q E s:=by
 rcases g with⟨kvs,k,e,ey,l⟩ | ⟨kvs,k,b,e,ey,eb,l⟩
 .subst ey
  obtain⟨z,hd,vs,bv,dd⟩:=Ze I.hok e
  refine oo C8 dd.typeIs Lh (Lj _ _ _) (meets_dict_get_default (j9 X.prog X.w) a (JS ry) hd r) ⟨_,dd.mapOf,h _ _ (I.tok _) ?_⟩
  rw[l]
  exact (bv.val k).getD rd
 .subst ey
  cases (show u=Value.ref b from ry)
  obtain⟨z,hd,xs,bv,dd⟩:=Zc I.hok e
  refine oo C8 dd.typeIs Lh (Lj _ _ _) (meetsH_dict_get_default (ol (j9 X.prog X.w)) a b hd r) ⟨wO hu,k,xs,Yp I.hok eb,dd,h _ _ (I.tok _) ?_⟩
  rw[l]
  exact (bv.val k).getD rd
end
def jdZ(td ty tx:TE):TE:=fun σ H Q=>td σ H fun x H1=>∃a,x=.ref a/\IsD H1 a/\ty σ H1 fun y H2=>tx σ H2 fun z H3=>∃o,DGet H3 a y o/\Q (o.getD z) H3
def jhz(td ty tx:TE):TE:=fun σ H Q=>td σ H fun x H1=>∃a,x=.ref a/\IsD H1 a/\ty σ H1 fun y H2=>tx σ H2 fun z H3=>∃kvs k,H3 a=some (.dK kvs)/\y=kV k/\
 (∀v,qu kvs k=some v->Q v (upd H3 a (.dK (Zd kvs k))))/\(qu kvs k=none->Q z H3)
section
variable {X:Cx}{o e f:ag}{cC bN:Pos}{td ty tx:TE}
theorem jeF(hu:X.A.units+1 < cLine)(ho:PE X o td)(he:PE X e ty)(hf:PE X f tx)(m:M2 X o "get" cC e f bN):PE X (.Call (.Attribute o "get" cC) [e,f] [] bN) (jdZ td ty tx):=by
 intro ad s σ H Q I h;refine HJ m.base m.few m.line C9 C8 PySem.F.type_dict_get (thn (ho ad s σ H _ I h) fun u s1 ⟨x,H1,I1,rx,a,ex,d,q1⟩=>?_);subst ex;obtain rfl:u=Value.ref a:=rx;obtain⟨t1,t2,_⟩:=je8 I1 d;refine⟨t1,t2,?_⟩;rw[m.trees];refine xc rfl (Dc (sw (thn (he ad s1 σ H1 _ I1 q1) fun iv s2 ⟨y,H2,I2,ry,q2⟩=>
  sw (thn (hf ad s2 σ H2 _ I2 q2) fun fv s3 ⟨z,H3,I3,rz,ov,g,q3⟩=>Db ?_))))
 exact jij hu I3 g ry rz fun w' s4 I4 c6=>⟨_,H3,I4,c6,q3⟩
theorem jeC(ho:PE X o td)(he:PE X e ty)(hf:PE X f tx)(m:M2 X o "pop" cC e f bN):PE X (.Call (.Attribute o "pop" cC) [e,f] [] bN) (jhz td ty tx):=by
 intro ad s σ H Q I h;refine HJ m.base m.few m.line C9 C7 PySem.F.type_dict_pop (thn (ho ad s σ H _ I h) fun u s1 ⟨x,H1,I1,rx,a,ex,d,q1⟩=>?_);subst ex;obtain rfl:u=Value.ref a:=rx;obtain⟨t1,t2,_⟩:=je8 I1 d;refine⟨t1,t2,?_⟩;rw[m.trees];refine xc rfl (Dc (sw (thn (he ad s1 σ H1 _ I1 q1) fun iv s2 ⟨y,H2,I2,ry,q2⟩=>
  sw (thn (hf ad s2 σ H2 _ I2 q2) fun fv s3 ⟨z,H3,I3,rz,kvs,k,ea,ey,q3,q4⟩=>Db ?_))))
 subst ey
 cases l:qu kvs k with
 | some v=>exact jjb I3 ea ry l (.inr ⟨fv,rfl⟩) fun w' s4 I4 c6=>⟨v,_,I4,c6,q3 v l⟩
 | none=>exact jii I3 ea ry l fun s4 I4=>⟨z,H3,I4,rz,q4 l⟩
end
end L2
namespace Att
open PySem PySem.W PySem.Calls PyProof.Rows
theorem KA{P:Params}{h:aj}:∀(ns:List Int) (vs:List ae),WellAll P h vs (ns.map WData.int)->sI vs ns:=by
 intro ns;induction ns with
 | nil=>
  intro vs w;rw[gg]at w
  cases w
  exact .nil
 | cons n ns ih=>
  intro vs w;rw[bg]at w
  cases w with
  | cons a b=>
   cases a
   exact .cons _ _ (ih _ b)
theorem jcW{l:OpenLaw}{n:Nat}(hn:l.most=some n){P:Params}{h:aj}{args:List WData}{oN:List ae}
  (pi:l.row.toRowW.claim.pre args=true) (uL:WellAll P h oN args) :
  ∃a vs ns,oN=[Value.ref a]/\args=[WData.list (ns.map WData.int)]/\h.get? a=some { cls:=.type "list",data:=.seq vs.toArray }/\sI vs ns/\ns.length<=n:=by
 have E2:WShape.hasAll [] args [.list .int]=true:=(pre_splitW pi).1
 have hc:l.pre.holds [] { args:=args }=true:=(pre_splitW pi).2
 obtain⟨d,r,rfl,h1,h2⟩:=hasAllW_cons E2
 obtain rfl:=hasAllW_nil h2
 obtain⟨xs,rfl,h3⟩:=hasW_list h1
 obtain⟨ns,rfl⟩:=items_int h3
 have bf:ns.length<=n:=by
  unfold OpenLaw.pre at hc;have h4:(WTm.not (.lt (.lit (.int (n:Int))) (.len (.arg 0)))).holds [] { args:=[.list (ns.map .int)] }=true:=by
   have h4:=(holds_andW hc).1;rw[hn]at h4;exact h4
  have h5:=condW_of h4 (w_not (w_lt w_lit (w_len_list (w_arg rfl))));rw[aB]at h5;refine Nat.le_of_not_lt fun q=>?_
  have q':(n:Int) < ((ns.length:Nat):Int):=by omega
  first
   | (rw[MR q']at h5;exact absurd h5 (by decide))
   | (simp at h5;omega)
 cases uL with
 | cons w1 w2=>
  cases w2
  cases w1 with
  | list ho vD=>exact⟨_,_,ns,rfl,rfl,ho,KA ns _ vD,bf⟩
theorem jcX(l:OpenLaw)(args:List WData):l.row.toRowW.claim.post args (.bool true) args=true:=
 postW_of (r:=l.row.toRowW) (X:=(true == true))
  (show Iw [] (.bool true) .bool=true by first | rfl | decide | simp[Iw,WShape.arms,WShape.armsAll])
  (show (WTm.eq .res (.lit (.bool true))).value [] { args:=args,res:=some (.bool true),after:=args }=some (.bool (true == true)) from w_eq_bool (w_res rfl) w_lit) rfl
theorem attach_call{l:OpenLaw}{n:Nat}{q:az}{lV:List Str}{XP:(Str->Option ae)->aj->Prop}{YP:aw->aj->Prop}{d:DefRec}
  (hn:l.most=some n) (nQ:d.params.defaults=[])
  (call:∀(w:aw) (s₀ s₁:af) (mg mb:Str->Option ae) (fa:ab) (o:Obj) (pm cd cw:ae) (a:ab) (vs:List ae) (ns:List Int),
   Ground q lV [] XP w s₀ mg mb s₁.heap->YP w s₁.heap->
   s₁.heap.get? fa=some o->o.data=.func (docDef d.name d.params d.body d.scope pm cd cw)->s₁.heap.CodeRec cd d.name->mg d.name=some (.ref fa)->
   s₁.heap.get? a=some { cls:=.type "list",data:=.seq vs.toArray }->sI vs ns->ns.length<=n->s₁.gens=#[]->
   dg (ai l.prog w) mF (.call (.ref fa) ⟨[.ref a],[]⟩) (fun r s'=>r=.ok (.ret (.bool true))/\OldK s₁.heap s'.heap/\s'.os=s₁.os/\iC s'.gens) s₁) :
  WalkO q lV XP YP l.row.toRowW d [] (fun f vs=>CH f vs):=by
 intro w s₀ s₁ mg mb G Y fa o pm cd cw dV kV ho hd eL hD nK hg args oN as pi hlay hrd uL eW
 obtain rfl:dV=.none:=Dflts.none hD nQ
 obtain rfl:kV=.none:=Dflts.noKw hD
 obtain⟨a,vs,ns,rfl,rfl,vd,vp,bf⟩:=jcW hn pi uL
 refine enter_call (si (call w s₀ s₁ mg mb fa o pm cd cw a vs ns G Y ho (fd_plain hd) eL nK vd vp bf hg) fun r s' hq=>?_)
 obtain⟨rfl,h2,h3,h4⟩:=hq
 exact⟨.inl ⟨.bool true,.bool true,[],rfl,fun _=>rfl,.bool true,jcX l _,fun _=>⟨List.Pairwise.nil,fun _ hm=>(nomatch hm)⟩⟩,h2,h3,h4⟩
end Att
namespace L2
open PySem PySem.Spec PyProof.Rows
theorem YQ:∀{vs:List ae} {ns:List Int},sI vs ns->Vals (ns.map V.int) vs
 | _,_,.nil=>.nil
 | _,_,.cons n t h=>.cons ⟨t,rfl⟩ (YQ h)
def jgP(s:aA)(j:Nat):aA:=match s with
 | .ClassDef _ _ _ body _ _ _ _ _ _ _=>body.getD j (.Pass ⟨0,0,0,0⟩)
 | _=>.Pass ⟨0,0,0,0⟩
def zL(s:aA):Arguments:=match s with
 | .FunctionDef _ a _ _ _ _ _ _ _ _=>a
 | _=>{ posonlyargs:=[],args:=[],vararg:=none,kwonlyargs:=[],kw_defaults:=[],kwarg:=none,defaults:=[] }
def qR(s:aA):List aA:=match s with
 | .FunctionDef _ _ b _ _ _ _ _ _ _=>b
 | _=>[]
def jm(s:aA):cj:=match s with
 | .FunctionDef _ _ _ _ _ _ sc _ _ _=>sc
 | _=>{ kind:=.function,names:=[],isGenerator:=false,isCoroutine:=false }
abbrev CX0:CXT:=fun _ _ _ _ _ _=>False
abbrev E0:XK:=fun _ _ _=>False
theorem jhj{X:Cx}:YC CX0 X E0:=fun _ _ _ _ _ _ _ h=>h.elim
structure Fun(K:aq)(x bw:Str)(st:aA)(f:ab)(fd:aH):Prop where
 ex:∃(oc:ae) (od:Option ab) (kV cw pm:ae) (an:Option ab) (au ct:ae) (fJ:Array (Option ae)),
  fd=gP x bw (zL st) (qR st) (jm st) .none kV cw pm an au ct/\K.lookup f=some ⟨oc,od,.func fd,fJ⟩/\gR K au bw=true
 kp:eQ K (.ref f)=true
section
variable {P:az}{w:aw}{K:aq}{mg:Str->Option ae}{base:aj}
theorem Fun.ok{x bw:Str}{st:aA}{f:ab}{fd:aH}{N ps:List Str}{k:Nat}{sp:Sp}(F:Fun K x bw st f fd)(S:FnScope N ps (jm st))(len:∀vs H Q E,sp vs H Q E->vs.length=ps.length)
  (nS:∀(au:ae) (A:aL) (outer:List Env) (s:af) (H:Hp) (vs:List V) (Q:VK) (E:XK),Room k (A.deeper (envOfC bw (jm st) s.heap.objs.size f au))->sp vs H Q E->
   ∃t,PSs (y9 CX0 P w K mg base N bw (jm st) f au A outer s H E).nox (qR st) t/\t { nx:=fun _ H'=>Q .non H',rt:=Q } (start N vs) H):FnOk P w K mg base CX0 (k+1) f fd ps sp:=by
 obtain⟨oc,od,kV,cw,pm,an,au,ct,fJ,rfl,lk,eL⟩:=F.ex
 refine ji9 lk eL S len fun A outer s H vs Q E hr aV=>?_
 obtain⟨t,h,q⟩:=nS au A outer s H vs Q E hr aV
 exact⟨t,h.nox,q⟩
theorem Fun.binds{x bw:Str}{st:aA}{f:ab}{fd:aH}{ps:List Str}(F:Fun K x bw st f fd)
  (h:∀(kV cw pm:ae) (an:Option ab) (au ct:ae) (us:List ae),us.length=ps.length->bindArgs (gP x bw (zL st) (qR st) (jm st) .none kV cw pm an au ct) ⟨us,[]⟩=pure (ps.zip us)):Binds K fd ps []:=by
 obtain⟨oc,od,kV,cw,pm,an,au,ct,fJ,rfl,lk,eL⟩:=F.ex
 exact .all (h kV cw pm an au ct)
theorem jbA{x bw:Str}{st:aA}{f:ab}{oc:ae}{od an:Option ab}{fJ:Array (Option ae)}{kV cw pm au ct:ae}(l:K.lookup f=some ⟨oc,od,.func (gP x bw (zL st) (qR st) (jm st) .none kV cw pm an au ct),fJ⟩)
  (c:gR K au bw=true) (k:eQ K (.ref f)=true):Fun K x bw st f (gP x bw (zL st) (qR st) (jm st) .none kV cw pm an au ct):=⟨⟨oc,od,kV,cw,pm,an,au,ct,fJ,rfl,l,c⟩,k⟩
end
theorem jI{n:Nat}(h:n<=1000):n < aE:=oB h (by decide)
section
variable {X:Cx}
theorem pv(i:Nat){x:Str}{pos:Pos}(hN:X.N[i]?=some x:=by rfl)(hv:Vis X.env.scope x:=by first | exact Or.inl rfl | exact Or.inr (Or.inl rfl) | exact Or.inr (Or.inr rfl))(hd:(x == ("__debug__" : Str))=false:=by decide)
  (eL:(x == ("__classdict__" : Str))=false:=by decide):PE X (.Name x pos) (jcS i):=jev hN hv hd eL
end
theorem ku{A B:Prop}(h:B):if false=true then A else B:=by
 rw[MT cP];exact h
theorem kO{A B:Prop}(h:A):if true=true then A else B:=by
 rw[MU rfl];exact h
theorem yu{c A B:Prop}[Decidable c](h1:c->A)(h2:¬c->B):if c then A else B:=by
 by_cases h:c
 .rw[MU h]
  exact h1 h
 .rw[MT h]
  exact h2 h
def Same(H H':Hp):Prop:=∀b o,H b=some o->H' b=some o
theorem Same.refl(H:Hp):Same H H:=fun _ _ h=>h
theorem Same.trans{H H1 H2:Hp}(a:Same H H1)(b:Same H1 H2):Same H H2:=fun c o h=>b c o (a c o h)
theorem Same.free{H H':Hp}(e:Same H H'){l:ab}(h:H' l=Option.none):H l=Option.none:=by
 cases q:H l with
 | none=>rfl
 | some o=>
  rw[e l o q]at h
  cases h
theorem J0{prog:az}{w:aw}{A:aL}{s:af}{aW target iter:ag}{ifs:List ag}{scope:cj}{pos:Pos}{it aJ:ae}{env:Env}{R:ou->af->Prop}(I:Nat->af->Prop)
  (turn:∀n s,I n s->al (ai prog w) A (mE it) (fun r s1=>match r with
   | none=>R (.ok .next) s1
   | some v=>al (ai prog w) A (ll target it v) (fun _ g8=>al (ai prog w) A (assign target env v) (fun _ s2=>
     al (ai prog w) A (forIn ifs true fun c r=>if r=true then do let ok <- isTrue c env (eval c env);pure (ForInStep.yield ok) else pure (ForInStep.yield r)) (fun ok s3=>
      if ok=true then al (ai prog w) A (eval aW env) (fun x s4=>
       al (ai prog w) A (call (.builtin "list.append") [aJ,x]) (fun _ s5=>∃m,m < n/\I m s5) (fun _ _=>False) s4) (fun _ _=>False) s3
      else ∃m,m < n/\I m s3) (fun _ _=>False) s2) (fun _ _=>False) g8) (fun _ _=>False) s1) (fun _ _=>False) s)
  (n:Nat) (h:I n s):dg (ai prog w) A (.compLoop (.ListComp aW [⟨target,iter,ifs,0⟩] scope pos) 0 it aJ env) R s:=by
 have no:∀(x:ae) (s':af),False->wS (ai prog w) A env (fun e s'=>R (.error e) s') x s':=fun _ _ z=>z.elim
 refine CB rfl I (fun n s hI=>?_) n h
 show al _ A ((r_ (.ListComp aW [⟨target,iter,ifs,0⟩] scope pos) 0 it aJ env).onRaise (fun x=>do wT x env;Cu x)) _ _ s
 refine Ck ?_
 rw[compTurn_list]
 refine ar (ir (ar (cb (turn n s hI) (fun r s1 h1=>?_) no)))
 cases r with
 | none=>exact aN h1
 | some v=>
  refine ar (cb h1 (fun _ g8 cn=>?_) no)
  refine ar (cb cn (fun _ s2 h2=>ar (cb h2 (fun ok s3 h3=>?_) no)) no)
  cases ok with
  | false=>exact aN ⟨rfl,h3⟩
  | true=>
   exact ar (ar (cb h3 (fun x s4 h4=>ar (cb h4 (fun _ s5 h5=>aN (aN ⟨rfl,h5⟩)) no)) no))
theorem jff:(NameKind.free == NameKind.free)=true:=rfl
def yD(cells:List (Str×ab)):List (Str×fB)->List (Str×ab)->List (Str×ab)
 | [],aJ=>aJ
 | (n,k) :: r,aJ=>if k == .free then yD cells r ((n,(cells.lookup n).getD 0) :: aJ) else yD cells r aJ
theorem jaL{env:Env}:∀(names:List (Str×fB)) (aJ:List (Str×ab)),(∀x∈names,x.2=.free->(env.cells.lookup x.1).isSome=true)->
  (forIn names aJ fun x (cs:List (Str×ab))=>(match x with | (name,kind)=>if (kind == NameKind.free)=true then do let c <- cellOf env name;pure (ForInStep.yield ((name,c) :: cs)) else pure (ForInStep.yield cs):Sem (ForInStep (List (Str×ab)))))=(pure (yD env.cells names aJ):Sem (List (Str×ab)))
 | [],aJ,_=>by simp only[List.forIn_nil];rfl
 | (n,k) :: r,aJ,h=>by
  have ih:=fun a=>jaL (env:=env) r a fun x hx=>h x (bG _ hx)
  rw[List.forIn_cons];by_cases hk:k=.free
  .subst hk
   have q:=h (n,.free) bC rfl;obtain⟨c,hc⟩:=sJ.mp q;have e:cellOf env n=pure c:=by unfold cellOf;rw[show env.cells.lookup n=some c from hc]
   simp only[beq_self_eq_true,if_true,e,pure_bind];rw[ih];show _=pure (if (NameKind.free == NameKind.free)=true then yD env.cells r ((n,(env.cells.lookup n).getD 0) :: aJ) else _);rw[MU jff,show env.cells.lookup n=some c from hc];rfl
  .have hb:(k == NameKind.free)=false:=by simpa using hk
   simp only[hb,eB,if_false,pure_bind];rw[ih];show _=pure (if (k == NameKind.free)=true then _ else yD env.cells r aJ);rw[hb];rfl
theorem Jo{scope:cj}{env:Env}(h:∀x∈scope.names,x.2=.free->(env.cells.lookup x.1).isSome=true):closureFor scope env=pure (yD env.cells scope.names []):=by
 unfold closureFor;have e:=jaL (env:=env) scope.names [] h;simp only[bind_pure]at *;exact e
theorem jbC{cells:List (Str×ab)}:∀(names:List (Str×fB)) (aJ:List (Str×ab)),(∀x∈names,x.2=.free->(cells.lookup x.1).isSome=true)->(∀x c,aJ.lookup x=some c->cells.lookup x=some c)->
  ∀x c,(yD cells names aJ).lookup x=some c->cells.lookup x=some c
 | [],aJ,_,ha=>ha
 | (n,k) :: r,aJ,h,ha=>by
  unfold yD;by_cases hk:k=.free
  .subst hk
   rw[MU jff];refine jbC r _ (fun x hx=>h x (bG _ hx)) fun x c e=>?_
   by_cases hx:x=n
   .subst hx
    rw[lL]at e;obtain⟨d,hd⟩:=sJ.mp (h (x,.free) bC rfl);have iV:cells.lookup x=some d:=hd;rw[iV]at e |-;exact e
   .rw[fC,MV.mpr hx]at e
    exact ha x c e
  .rw[MT (by simpa using hk)]
   exact jbC r _ (fun x hx=>h x (bG _ hx)) ha
theorem ZZ{cells:List (Str×ab)}:∀(names:List (Str×fB)) (aJ:List (Str×ab)) (x:Str),(aJ.lookup x).isSome=true->((yD cells names aJ).lookup x).isSome=true
 | [],aJ,_,ha=>ha
 | (n,k) :: r,aJ,x,ha=>by
  unfold yD;split
  .refine ZZ r _ x ?_
   rw[fC];split
   .rfl
   .exact ha
  .exact ZZ r _ x ha
theorem jbD{cells:List (Str×ab)}:∀(names:List (Str×fB)) (aJ:List (Str×ab)) (x:Str),(x,NameKind.free)∈names->((yD cells names aJ).lookup x).isSome=true
 | [],_,_,h=>by simp at h
 | (n,k) :: r,aJ,x,h=>by
  unfold yD;rcases a_.mp h with e | h
  .obtain⟨e1,e2⟩:=Dv e
   subst e1 e2;rw[MU jff];refine ZZ r _ _ ?_;rw[lL];rfl
  .split
   .exact jbD r _ x h
   .exact jbD r _ x h
theorem zw{env:Env}:∀{names:List (Str×fB)} {x:Str} {k:fB},
  (names.map fun (n,k)=>if (k == NameKind.free && env.scope.kind == .function && env.kindOf n == some .cell) then (n,NameKind.cell) else (n,k)).lookup x=some k->
   names.lookup x=some k\/(k=.cell/\names.lookup x=some .free)
 | [],_,_,h=>by simp at h
 | (n,k') :: r,x,k,h=>by
  rw[bg]at h;by_cases hx:x=n
  .subst hx
   rw[lL];by_cases hc:(k' == NameKind.free && env.scope.kind == .function && env.kindOf x == some .cell)=true
   .simp only[hc,if_true]at h
    rw[lL]at h;have hk:k'=.free:=by
     simp only[gY,beq_iff_eq]at hc;exact hc.1.1
    exact .inr ⟨(cN h).symm,by rw[hk]⟩
   .simp only[hc]at h
    rw[MT (by simp),lL]at h;exact .inl h
  .have e:(x == n)=false:=MV.mpr hx
   have h':(r.map fun (n,k)=>if (k == NameKind.free && env.scope.kind == .function && env.kindOf n == some .cell) then (n,NameKind.cell) else (n,k)).lookup x=some k:=by
    by_cases hc:(k' == NameKind.free && env.scope.kind == .function && env.kindOf n == some .cell)=true
    .simp only[hc,if_true]at h
     rw[fC,e]at h;exact h
    .simp only[hc]at h
     rw[MT (by simp),fC,e]at h;exact h
   have ih:=@zw env r x k h';rw[fC,e];exact ih
theorem JN{env:Env}:∀{names:List (Str×fB)} {x:Str},names.lookup x=some .free->
  (names.map fun (n,k)=>if (k == NameKind.free && env.scope.kind == .function && env.kindOf n == some .cell) then (n,NameKind.cell) else (n,k)).lookup x=some .cell\/
  (names.map fun (n,k)=>if (k == NameKind.free && env.scope.kind == .function && env.kindOf n == some .cell) then (n,NameKind.cell) else (n,k)).lookup x=some .free
 | [],_,h=>by simp at h
 | (n,k') :: r,x,h=>by
  rw[bg];by_cases hx:x=n
  .subst hx
   rw[lL]at h
   cases h
   by_cases hc:(NameKind.free == NameKind.free && env.scope.kind == .function && env.kindOf x == some .cell)=true
   .simp only[hc,if_true]
    exact .inl lL
   .simp only[hc]
    rw[MT (by simp)];exact .inr lL
  .have e:(x == n)=false:=MV.mpr hx
   rw[fC,e]at h;have ih:=@JN env r x h;by_cases hc:(k' == NameKind.free && env.scope.kind == .function && env.kindOf n == some .cell)=true
   .simp only[hc,if_true]
    rw[fC,e];exact ih
   .simp only[hc]
    rw[MT (by simp),fC,e];exact ih
def blk(X:Cx)(scope:cj)(own:List Str)(fr:List Nat)(s:af)(H:Hp)(ex:List ab):Cx where
 prog:=X.prog
 w:=X.w
 K:=X.K
 mg:=X.mg
 base:=X.base
 A:=X.A
 N:=own++fr.map fun j=>X.N.getD j (bu "")
 s₀:=s
 H₀:=H
 env:=compEnvC scope (yD X.env.cells scope.names []) s.heap.objs.size X.env
 outer:=X.stack
 stack:=X.stack
 ex:=ex
 fn:=fun _=>false
 calm:=X.calm
 pn:=[]
 xe:=fun _ _=>False
def jdu(own:List Str)(fr:List Nat)(σ:St):St:=own.map (fun _=>none)++fr.map fun j=>(σ[j]?).join
structure CompOk(X:Cx)(scope:cj)(fr:List Nat):Prop where
 kind:scope.kind=.function
 nocell:∀y∈scope.names,y.2≠.cell
 loc:∀y∈scope.names,y.2=.local->scope.names.lookup y.1=some .local
 frees:∀y∈scope.names,y.2=.free->X.env.scope.names.lookup y.1=some .cell\/X.env.scope.names.lookup y.1=some .free
 fr:∀j∈fr,scope.names.lookup (X.N.getD j (bu ""))=some .free
theorem ZN{X:Cx}{scope:cj}{own:List Str}{fr:List Nat}{ad:List (ab×Obj)}{σ:St}{H:Hp}{s:af}{ex:List ab}{h1:aj}{t1:Nat}(I:Inv X ad σ H s)(O:CompOk X scope fr)
  (hex:∀b∈ex,Jr X ad H b/\b < s.heap.objs.size) (pp:h1.Ns s.heap.objs.size fun _=>none) (hk:∀b o,s.heap.get? b=some o->h1.get? b=some o) :
  Inv (blk X scope own fr s H ex) [] (jdu own fr σ) H { s with heap:=h1,toks:=t1 }:=by
 have iP:∀x∈scope.names,x.2=.free->(X.env.cells.lookup x.1).isSome=true:=fun x hx e=>by
  obtain⟨c,hc⟩:=I.ok.has x.1 (O.frees x hx e);rw[hc];rfl
 have sub:∀x c,(yD X.env.cells scope.names []).lookup x=some c->X.env.cells.lookup x=some c:=jbC scope.names [] iP fun x c e=>by simp at e
 have vC:∀x,scope.names.lookup x=some .free->∃c,(yD X.env.cells scope.names []).lookup x=some c:=fun x e=>sJ.mp (jbD scope.names [] x (k_ e))
 have hcne:∀x c,X.env.cells.lookup x=some c->c < s.heap.objs.size:=fun x c e=>by
  obtain⟨v,q⟩:=I.cell x c e;exact q.lt
 have hN:σ.length=X.N.length:=I.len
 refine⟨⟨I.ok.mod,O.kind,I.ok.glob,I.ok.blt,aD _,fun x y c e1 e2=>I.ok.inj x y c (sub x c e1) (sub y c e2),fun x hx=>?_,fun x c z=>absurd z (by simp[blk]),I.ok.hd,I.ok.frames,.inl rfl,fun b hb=>⟨bB (hex b hb).2,fun x c e=>(hex b hb).1.2.2.2.2.1 x c (sub x c e)⟩,
  fun b o e=>I.bs b o e,aG I.ok.bsz I.sz,fun b o e hb=>?_,fun b hb z=>?_,I.stack,I.stkFree⟩,
  rfl,I.bare,Un.kept hk,⟨_,pp,fun i x v e1 e2 e3=>?_⟩,fun x c e=>?_,I.fresh,fun x c e=>I.freeC x c (sub x c e),fun p hp=>absurd hp (by simp[blk]),I.hok.kept hk,?_⟩
 .have cE:(relabel scope X.env).names.lookup x=some .cell\/(relabel scope X.env).names.lookup x=some .free:=hx
  rcases cE with hx | hx
  .rcases zw hx with q | ⟨_,q⟩
   .exact absurd rfl (O.nocell _ (k_ q))
   .exact vC x q
  .rcases zw hx with q | ⟨q,_⟩
   .exact vC x q
   .cases q
 .rcases (hex b hb).1.2.2.2.1 with z | z
  .exact I.ok.noex b o e z
  .exact absurd (dl (bp e) (aG I.ok.bsz z)) (lG _)
 .obtain⟨_,f1,f2,_⟩:=(hex b hb).1
  rcases a_.mp (I.stkSub b z) with q | q
  .exact f1 q
  .exact f2 q
 .have i5:(own++fr.map fun j=>X.N.getD j (bu ""))[i]?=some x:=e1
  unfold jdu at e2
  have hi:own.length<=i:=by
   by_cases h:own.length<=i
   .exact h
   .rw[xC (by simpa using Nat.lt_of_not_le h),bH]at e2
    cases q:own[i]? with
    | none=>rw[q]at e2;cases e2
    | some z=>rw[q]at e2;cases e2
  rw[oH hi,bH]at i5
  rw[oH (by simpa using hi),bH,aB]at e2
  cases q:fr[i - own.length]? with
  | none=>rw[q]at e2;cases e2
  | some j=>
   rw[q]at i5 e2
   have pP:X.N.getD j (bu "")=x:=cN i5
   have i4:(σ[j]?).join=some v:=cN e2
   have B8:σ[j]?=some (some v):=by
    cases z:σ[j]? with
    | none=>rw[z]at i4;cases i4
    | some y=>rw[z]at i4;rw[<- i4];rfl
   have hj:j < X.N.length:=by rw[<- hN];exact (bI.mp B8).1
   have Hh:X.N[j]?=some x:=by
    rw[aK hj,<- pP,iF,aK hj];rfl
   have hf:=O.fr j (lI q)
   rw[pP]at hf
   have hv:=O.frees _ (k_ hf) rfl
   obtain⟨m,_,hl⟩:=I.loc
   obtain⟨u,ru,lk⟩:=hl j x v Hh B8 (.inr hv)
   refine⟨u,ru,.inr ⟨?_,?_⟩⟩
   .exact JN hf
   .obtain⟨c,hc⟩:=vC x hf
    refine⟨c,hc,?_⟩
    rcases lk with⟨k,_⟩ | ⟨_,c',cK,z⟩
    .have k':X.env.scope.names.lookup x=some .local:=k
     rcases hv with hv | hv <;> · rw[k']at hv;cases hv
    .have:=sub x c hc
     rw[cK]at this
     cases this
     obtain⟨o,ho,hd⟩:=z
     exact⟨o,hk _ _ ho,hd⟩
 .obtain⟨v,o,ho,hd⟩:=I.cell x c (sub x c e)
  exact⟨v,o,hk _ _ ho,hd⟩
 .show (jdu own fr σ).length=(own++fr.map fun j=>X.N.getD j (bu "")).length
  unfold jdu
  rw[bz,bz,aB,aB,aB]
theorem yk{X:Cx}{scope:cj}{own:List Str}{fr:List Nat}{ad:List (ab×Obj)}{σ σ':St}{H H':Hp}{s s':af}{ex:List ab}(I:Inv X ad σ H s)(hex:∀b∈ex,Jr X ad H b/\b < s.heap.objs.size)
  (J:Inv (blk X scope own fr s H ex) [] σ' H' s') {h':aj} (hs:lB s.heap.objs.size s'.heap h'):Inv X ad σ H' { s' with heap:=h' }:=by
 have hC:H' s.heap.objs.size=none:=J.free
 have u:Un (frs X.stack) ex H H' s.heap s'.heap:=J.base
 have ne:∀b o,s.heap.get? b=some o->b≠s.heap.objs.size:=fun b o e=>bB (bp e)
 have oh:∀b o,b≠s.heap.objs.size->s'.heap.get? b=some o->h'.get? b=some o:=fun b o hb e=>(hs.2 b hb).trans e
 refine I.call' (ch:=ex) J.os ⟨fun b o e n hb hx=>?_,fun b o e n hb hx=>?_,u.free,fun b o e hx=>?_,u.tups,u.frzs,u.tbls,fun b o xs q e hb hx=>oh b o (ne b o e) (u.stay b o xs q e hb hx)⟩ (fun b o e=>?_) J.bare fun b hb=>?_
 .exact oh b o (ne b o e) (u.keep b o e n hb hx)
 .obtain⟨sl,q⟩:=u.slot b o e n hb hx
  exact⟨sl,oh b _ (ne b o e) q⟩
 .obtain⟨o',q⟩:=u.there b o e hx
  exact⟨o',oh b _ (ne b o e) q⟩
 .refine (J.hok b o e).stay (fun c v hc q=>oh c v ?_ q) (fun _ q=>q) fun _ _ q=>q
  rintro z
  rcases hc with y | y
  .rw[y]at z;rw[z,hC]at e;cases e
  .rw[z,hC]at y;cases y
 .obtain⟨f0,f1,f2,f3,f4,f5⟩:=(hex b hb).1
  exact⟨f3,f1,f4,f5⟩
def PTs(X:Cx)(ifs:List ag)(t:TT):Prop:=
 ∀(ad:List (ab×Obj)) (s:af) (σ:St) (H:Hp) (Q:Bool->Hp->Prop),Inv X ad σ H s->t σ H Q->
  al (ai X.prog X.w) X.A (forIn ifs true fun c r=>if r=true then do let ok <- isTrue c X.env (eval c X.env);pure (ForInStep.yield ok) else pure (ForInStep.yield r)) (TP X ad σ Q) X.xe s
def Zq:TT:=fun _ H Q=>Q true H
theorem jfV{X:Cx}:PTs X [] Zq:=fun _ _ _ H _ I h=>wpAny_tests_nil ⟨H,I,h⟩
theorem jfU{X:Cx}{c:ag}{t:TT}(h:PT X c t):PTs X [c] t:=fun ad s σ H Q I q=>wpAny_tests_one (h ad s σ H Q I q)
def Z6(J:It)(p:ab)(g:TG)(tt:TT)(te:TE)(Q:VK)(σ:St)(H:Hp):Prop:=∃W:Nat->Nat->St->Hp->Prop,(∃m,W 0 m σ H)/\
 ∀i m σ' H',W i m σ' H'->(J.stop i H'/\Q (.ref p) H')\/(J.go i H'/\∃N:St->Hp->Prop,(∀σ3 H3,N σ3 H3->∃m',m' < m/\W (i+1) m' σ3 H3)/\∀x H2,J.yld i H' x H2->g x σ' H2 fun σ3 H3=>tt σ3 H3 fun c H4=>
  if c=true then te σ3 H4 fun y H5=>∃ys,H5 p=some (.lst ys)/\ys.length < aE/\N σ3 (upd H5 p (.lst (ys++[y]))) else N σ3 H4)
def YT(own:List Str)(fr:List Nat)(wi:TI)(g:TG)(tt:TT)(te:TE):TE:=fun σ H Q=>wi σ H fun J H1=>∀p,H1 p=none->Z6 J p g tt te Q (jdu own fr σ) (upd H1 p (.lst []))
theorem jfm{X:Cx}{scope:cj}{own:List Str}{fr:List Nat}{aW tg iter:ag}{ifs:List ag}{pos:Pos}{wi:TI}{g:TG}{tt:TT}{te:TE}{use:Option (ae->Sem Unit)}(hc:X.calm=true)(O:CompOk X scope fr)(hi:PI X tg iter wi)
  (hb:∀s H ex,PG (blk X scope own fr s H ex) tg g/\PTs (blk X scope own fr s H ex) ifs tt/\PE (blk X scope own fr s H ex) aW te)
  (hs:∀x,eN iter X.env x=pure x) {ad:List (ab×Obj)} {s:af} {σ:St} {H:Hp} {Q:VK} {R:ae->af->Prop} (I:Inv X ad σ H s) (h:YT own fr wi g tt te σ H Q) (hx:∀e s',X.xe e s'↔False)
  (fin:∀(p C:ab) (H':Hp) (s':af) (m:Str->Option ae),s'.heap.Ns C m->H' C=none->C≠X.env.locals->(∀x c,X.env.cells.lookup x=some c->c≠C)->Inv X ad σ H' s'->(∀h',lB C s'.heap h'->Inv X ad σ H' { s' with heap:=h' })->Q (.ref p) H'->
   on (ai X.prog X.w) X.A X.xe use R (.ref p) C (.ok .next) s') :
  al (ai X.prog X.w) X.A (comprehension (.ListComp aW [⟨tg,iter,ifs,0⟩] scope pos) scope X.env (Cz [⟨tg,iter,ifs,0⟩] pos) (rZ []) false (eval iter X.env) use) R X.xe s:=by
 have iP:∀x∈scope.names,x.2=.free->(X.env.cells.lookup x.1).isSome=true:=fun x cE e=>by
  obtain⟨c,hc⟩:=I.ok.has x.1 (O.frees x cE e);rw[hc];rfl
 have no:∀(E:ae->af->Prop) (x:ae) (s':af),X.xe x s'->E x s':=fun E x s' z=>((hx x s').mp z).elim
 refine Cp (cl:=yD X.env.cells scope.names []) rfl hs (Jo iP) O.kind O.loc ?_
 refine thn (hi ad s σ H _ I h) fun v s1 h1=>thn h1 fun nr s2 h2=>?_
 obtain⟨it,fp,tn,J,H2,e,I2,T,bU,f2,q2⟩:=h2
 subst e
 refine iw ?_
 have nw:H2 s2.heap.objs.size=none:=I2.fresh
 obtain⟨W,⟨m0,w0⟩,turn⟩:=q2 _ nw
 generalize hp:s2.heap.objs.size=p at *
 have I3:Inv X ad σ (upd H2 p (.lst [])) { s2 with heap:=s2.heap.push { cls:=.type "list",dict:=none,data:=.seq ([]:List ae).toArray } }:=by
  have:=I2.lnew (ys:=[]) (its:=[]) (t':=s2.toks) .nil (bF _);rw[hp]at this;exact this
 have g9:∀b∈fp,b < s2.heap.objs.size:=fun b hb=>by
  obtain⟨o,ho,_⟩:=T.obj _ _ bU b hb;exact bp ho
 have im:∀b∈fp,(upd H2 p (.lst [])) b=none:=fun b hb=>by
  rw[jD (by rw[<- hp];exact bB (g9 b hb))];exact (f2 b hb).1
 generalize fO:({ s2 with heap:=s2.heap.push { cls:=.type "list",dict:=none,data:=.seq ([]:List ae).toArray } }:af)=s3 at *
 have mR:s3.heap.objs.size=p+1:=by
  rw[<- fO];show (s2.heap.push _).objs.size=_;rw[sv,hp]
 have fF:tn 0 s3.heap:=T.keep 0 _ _ bU fun b hb o e=>by
  rw[<- fO];exact bK _ e
 refine Cm O.nocell (by intro y hy;simp at hy) (fun h4 ic nF=>?_) O.kind
 have k4:∀b o,s3.heap.get? b=some o->h4.get? b=some o:=fun b o e=>nF.extBut b o (bB (bp e)) (bK _ e)
 have nJ:h4.Ns s3.heap.objs.size fun _=>none:=by
  have z:(fun x:Str=>([]:List (Str×ae)).reverse.lookup x)=fun _=>none:=by funext x;rfl
  rw[z]at ic;exact ic
 have fo:∀b∈fp,Jr X ad (upd H2 p (.lst [])) b/\b < s3.heap.objs.size:=fun b hb=>⟨⟨im b hb,(f2 b hb).2⟩,by rw[mR,<- hp];exact oA (g9 b hb)⟩
 have I4:=ZN (own:=own) (fr:=fr) (t1:=s3.toks+([]:List (Str×ae)).length) I3 O fo nJ k4
 have aQ:tn 0 h4:=T.keep 0 _ _ fF fun b hb o e=>k4 b o e
 obtain⟨hg,ht,he⟩:=hb s3 (upd H2 p (.lst [])) fp
 have dC:∀{H':Hp} {pn:List (ab×Obj)} {s':af} {σ':St},Inv (blk X scope own fr s3 (upd H2 p (.lst [])) fp) [] σ' H' s'->(∀b∈fp,H' b=none)->∀b∈fp,Jr (blk X scope own fr s3 (upd H2 p (.lst [])) fp) [] H' b:=fun {H' pn s' σ'} J hn b aT=>
  ⟨hn b aT,(J.ok.exf b aT).1,J.ok.exfs b aT,.inl aT,(J.ok.exf b aT).2,fun p hp=>absurd hp (by simp[blk])⟩
 have nh:∀x c,X.env.cells.lookup x=some c->c≠s3.heap.objs.size:=fun x c e=>by
  obtain⟨v,q⟩:=I3.cell x c e;exact bB q.lt
 have g_:∀s5:af,s5={ s3 with heap:=h4,toks:=s3.toks+([]:List (Str×ae)).length }->
   dg (ai X.prog X.w) X.A (.compLoop (.ListComp aW [⟨tg,iter,ifs,0⟩] scope pos) 0 (.ref it) (.ref p) (blk X scope own fr s3 (upd H2 p (.lst [])) fp).env) (on (ai X.prog X.w) X.A X.xe use R (.ref p) s3.heap.objs.size) s5:=by
  rintro s5 rfl
  refine J0 (fun n s'=>∃i σ' H',Inv (blk X scope own fr s3 (upd H2 p (.lst [])) fp) [] σ' H' s'/\tn i s'.heap/\(∀b∈fp,H' b=none)/\W i n σ' H') ?_ m0 ⟨0,_,_,I4,aQ,im,w0⟩
  rintro n s6 ⟨i,σ6,H6,I6,gZ,il,w6⟩
  rcases turn i n σ6 H6 w6 with⟨stop,qn⟩ | ⟨go,N,hN,step⟩
  .refine thn (T.done (blk X scope own fr s3 (upd H2 p (.lst [])) fp) rfl rfl rfl hc i [] s6 σ6 H6 _ I6 (dC (pn:=[]) I6 il) gZ stop) fun r s7 ⟨hr,I7⟩=>?_
   subst hr
   obtain⟨m,hm,_⟩:=I7.loc
   exact fin p _ H6 s7 m hm I7.free (iD I3.lt) nh (yk I3 fo I7 (C6 ..)) (fun h' dr=>yk I3 fo I7 dr) qn
  .refine thn (T.item (blk X scope own fr s3 (upd H2 p (.lst [])) fp) rfl rfl rfl hc i [] s6 σ6 H6 _ I6 (dC (pn:=[]) I6 il) gZ go) fun r s7 ⟨u,hr,h7⟩=>?_
   subst hr
   refine thn h7 fun _ s8 ⟨x,H8,I8,r8,y8,fh,n_⟩=>?_
   have oi:=I8.pinned (dC (pn:=[]) I8 n_) (T.obj _ _ fh)
   refine thn (hg _ s8 σ6 H8 x u _ oi r8 (step x H8 y8)) fun _ s9 ⟨σ9,H9,I9,q9⟩=>?_
   refine thn (ht _ s9 σ9 H9 _ I9 q9) fun ok cQ ⟨i6,fU,gq⟩=>?_
   have again:∀{bW:Hp} {br:af},Inv (blk X scope own fr s3 (upd H2 p (.lst [])) fp) ([]++q8 fp s8.heap) σ9 bW br->(∃m',m' < n/\W (i+1) m' σ9 bW)->
     ∃m,m < n/\∃i σ' H',Inv (blk X scope own fr s3 (upd H2 p (.lst [])) fp) [] σ' H' br/\tn i br.heap/\(∀b∈fp,H' b=none)/\W i m σ' H':=fun {bW br} bR ⟨m',hm,iG⟩=>by
    refine⟨m',hm,i+1,σ9,bW,bR.unpinned,T.keep _ _ _ fh fun b aT o e=>(bR.pin (b,o) (ck _ (ck _ (kG aT e)))).1,fun b aT=>?_,iG⟩
    obtain⟨o,e,d⟩:=T.obj _ _ fh b aT
    exact (bR.pin (b,o) (ck _ (ck _ (kG aT e)))).2.1
   cases ok with
   | false=>
    rw[MT cP]at gq |-
    exact again fU (hN _ _ gq)
   | true=>
    rw[MU rfl]at gq |-
    refine thn (he _ cQ σ9 i6 _ fU gq) fun yv br ⟨y,bW,bR,tN,ys,bJ,bf,tP⟩=>?_
    have ap:=j0 (X:=blk X scope own fr s3 (upd H2 p (.lst [])) fp) ([]++q8 fp s8.heap) br σ9 bW (.ref p) [y] (.ref p) [yv] (fun _ gI=>∃m',m' < n/\W (i+1) m' σ9 gI) bR rfl (.cons tN .nil) ⟨p,ys,y,rfl,rfl,bJ,bf,hN _ _ tP⟩
    exact thn ap fun _ bV ⟨_,gI,dY,_,tO⟩=>again dY tO
 refine CC (g_ _ rfl) (T.self X.A 0 _ _ _ aQ (g_ _ rfl))
theorem jgg{X:Cx}{scope:cj}{aW tg iter:ag}{ifs:List ag}{pos:Pos}{wi:TI}{g:TG}{tt:TT}{te:TE}(own:List Str)(fr:List Nat)(hc:X.calm=true)(O:CompOk X scope fr)(hi:PI X.nox tg iter wi)
  (hb:∀s H ex,PG (blk X.nox scope own fr s H ex) tg g/\PTs (blk X.nox scope own fr s H ex) ifs tt/\PE (blk X.nox scope own fr s H ex) aW te)
  (hs:∀x,eN iter X.env x=pure x:=by intro _;rfl):PE X.nox (.ListComp aW [⟨tg,iter,ifs,0⟩] scope pos) (YT own fr wi g tt te):=by
 intro ad s σ H Q I h
 rw[eval_ListComp]
 refine jfm (X:=X.nox) (use:=none) (Q:=Q) hc ⟨O.kind,O.nocell,O.loc,O.frees,O.fr⟩ hi hb hs I h (fun _ _=>Iff.rfl) fun p C H' s' m hm hC _ _ I' back q=>?_
 exact⟨m,hm,fun h' dr=>⟨.ref p,H',back h' dr,rfl,q⟩⟩
section
variable {p:ab}{g:TG}{tt:TT}{te:TE}{σ:St}{H:Hp}{Q:VK}
theorem ZY(J:It)(n:Nat)(Pv:Nat->St->Hp->Prop)(h0:Pv 0 σ H)(stop:∀σ' H',Pv n σ' H'->J.stop n H')(go:∀i σ' H',i < n->Pv i σ' H'->J.go i H')
  (hs:∀i σ' H',i < n->Pv i σ' H'->∀x H2,J.yld i H' x H2->g x σ' H2 fun σ3 H3=>tt σ3 H3 fun c H4=>if c=true then te σ3 H4 fun y H5=>∃ys,H5 p=some (.lst ys)/\ys.length < aE/\Pv (i+1) σ3 (upd H5 p (.lst (ys++[y]))) else Pv (i+1) σ3 H4)
  (hd:∀σ' H',Pv n σ' H'->Q (.ref p) H'):Z6 J p g tt te Q σ H:=by
 refine⟨fun i m σ H=>m=n - i/\i<=n/\Pv i σ H,⟨n,by simp,bF _,h0⟩,?_⟩
 rintro i m σ1 H1 ⟨rfl,hi,pv⟩
 by_cases aS:i < n
 .exact .inr ⟨go i σ1 H1 aS pv,Pv (i+1),fun σ3 H3 q=>⟨n - (i+1),by omega,rfl,aS,q⟩,hs i σ1 H1 aS pv⟩
 .have e:i=n:=by omega
  subst e
  exact .inl ⟨stop σ1 H1 pv,hd σ1 H1 pv⟩
theorem Jm{lo:Int}{n:Nat}(Pv:Nat->St->Hp->Prop)(h0:Pv 0 σ H)
  (hs:∀i σ' H',i < n->Pv i σ' H'->g (.int (lo+i)) σ' H' fun σ3 H3=>tt σ3 H3 fun c H4=>if c=true then te σ3 H4 fun y H5=>∃ys,H5 p=some (.lst ys)/\ys.length < aE/\Pv (i+1) σ3 (upd H5 p (.lst (ys++[y]))) else Pv (i+1) σ3 H4)
  (hd:∀σ' H',Pv n σ' H'->Q (.ref p) H'):Z6 (Itr lo n) p g tt te Q σ H:=
 ZY (Itr lo n) n Pv h0 (fun _ _ _=>aD _) (fun i _ _ h _=>h) (fun i σ' H' h pv x H2 y=>by
  obtain⟨e1,e2⟩:=y;subst e1 e2;exact hs i σ' _ h pv) hd
theorem yZ{K:aq}{a:ab}{xs:List V}(Pv:Nat->St->Hp->Prop)(h0:Pv 0 σ H)(hl:∀i σ' H',i<=xs.length->Pv i σ' H'->SqL K H' a xs)
  (hs:∀i x σ' H',xs[i]?=some x->Pv i σ' H'->g x σ' H' fun σ3 H3=>tt σ3 H3 fun c H4=>if c=true then te σ3 H4 fun y H5=>∃ys,H5 p=some (.lst ys)/\ys.length < aE/\Pv (i+1) σ3 (upd H5 p (.lst (ys++[y]))) else Pv (i+1) σ3 H4)
  (hd:∀σ' H',Pv xs.length σ' H'->Q (.ref p) H'):Z6 (Itl K a) p g tt te Q σ H:=
 ZY (Itl K a) xs.length Pv h0 (fun σ' H' pv=>⟨xs,hl _ σ' H' (aD _) pv,aD _⟩) (fun i σ' H' h pv=>⟨xs,xs[i],hl i σ' H' (cD h) pv,by simp[h]⟩) (fun i σ' H' h pv x H2 y=>by
  obtain⟨e1,e2⟩:=y;subst e1;exact hs i x σ' _ (e2 xs (hl i σ' _ (cD h) pv)) pv) hd
end
inductive D where
 | int (i:Int) | str (x:Str) | tup (ds:List D)
mutual
def Held(H:Hp):D->V->Prop
 | .int i,v=>v=.int i
 | .str x,v=>v=.str x
 | .tup ds,v=>∃a xs,v=.ref a/\H a=some (.tup xs)/\HeldL H ds xs
def HeldL(H:Hp):List D->List V->Prop
 | [],vs=>vs=[]
 | d :: ds,vs=>∃v r,vs=v :: r/\Held H d v/\HeldL H ds r
end
mutual
theorem Held.mono{H H':Hp}(e:Same H H'):∀{d:D} {v:V},Held H d v->Held H' d v
 | .int i,v,h=>by unfold Held at h |-;exact h
 | .str x,v,h=>by unfold Held at h |-;exact h
 | .tup ds,v,h=>by
  unfold Held at h |-;obtain⟨a,xs,e1,e2,e3⟩:=h;exact⟨a,xs,e1,e a _ e2,HeldL.mono e e3⟩
theorem HeldL.mono{H H':Hp}(e:Same H H'):∀{ds:List D} {vs:List V},HeldL H ds vs->HeldL H' ds vs
 | [],vs,h=>by unfold HeldL at h |-;exact h
 | d :: ds,vs,h=>by
  unfold HeldL at h |-;obtain⟨v,r,e1,e2,e3⟩:=h;exact⟨v,r,e1,Held.mono e e2,HeldL.mono e e3⟩
end
theorem jO{H:Hp}{i:Int}:Held H (.int i) (.int i):=by unfold Held;rfl
theorem jE{H:Hp}{x:Str}:Held H (.str x) (.str x):=by unfold Held;rfl
theorem jL{H:Hp}{a:ab}{xs:List V}{ds:List D}(e:H a=some (.tup xs))(h:HeldL H ds xs):Held H (.tup ds) (.ref a):=by unfold Held;exact⟨a,xs,rfl,e,h⟩
theorem jr{H:Hp}:HeldL H [] []:=by unfold HeldL;rfl
theorem je{H:Hp}{d:D}{ds:List D}{v:V}{r:List V}(h:Held H d v)(t:HeldL H ds r):HeldL H (d :: ds) (v :: r):=by unfold HeldL;exact⟨v,r,rfl,h,t⟩
theorem HeldL.length{H:Hp}:∀{ds:List D} {vs:List V},HeldL H ds vs->ds.length=vs.length
 | [],vs,h=>by unfold HeldL at h;subst h;rfl
 | d :: ds,vs,h=>by
  unfold HeldL at h;obtain⟨v,r,e1,_,e3⟩:=h;subst e1;rw[bM,bM,HeldL.length e3]
theorem HeldL.get{H:Hp}:∀{ds:List D} {vs:List V} {j:Nat} {d:D},HeldL H ds vs->ds[j]?=some d->∃v,vs[j]?=some v/\Held H d v
 | [],_,_,_,_,e=>by simp at e
 | d :: ds,vs,0,d',h,e=>by
  unfold HeldL at h;obtain⟨v,r,e1,e2,e3⟩:=h;simp at e;subst e e1;exact⟨v,rfl,e2⟩
 | d :: ds,vs,j+1,d',h,e=>by
  unfold HeldL at h;obtain⟨v,r,e1,e2,e3⟩:=h;subst e1;obtain⟨w,h1,h2⟩:=HeldL.get (j:=j) (d:=d') e3 (by simpa using e);exact⟨w,by simpa using h1,h2⟩
mutual
def D.depth:D->Nat
 | .int _=>0
 | .str _=>0
 | .tup ds=>D.depthL ds+1
def D.depthL:List D->Nat
 | []=>0
 | d :: ds=>max (D.depth d) (D.depthL ds)
end
theorem D.depthL_get:∀{ds:List D} {j:Nat} {d:D},ds[j]?=some d->d.depth<=D.depthL ds
 | [],_,_,e=>by simp at e
 | d :: ds,0,d',e=>by simp at e;subst e;unfold D.depthL;exact Nat.le_max_left _ _
 | d :: ds,j+1,d',e=>by unfold D.depthL;exact aG (D.depthL_get (j:=j) (by simpa using e)) (Nat.le_max_right _ _)
theorem jY{X:Cx}:OpR X (gM .FloorDiv) (rI (fun _ j=>0 < j/\j < 2 ^ 200) fun i j=>.int (i / j)):=opI fun i j _ _ _ _ _ hc q=>by
 refine floordiv_int (by omega) ?_ (.inl (PyProof.noPylong_of_log2 ?_))
 .rw[Int.fdiv_eq_ediv_of_nonneg _ (by omega)]
  exact q
 .have h0:j.natAbs≠0:=by omega
  exact DD ((Nat.log2_lt h0).mpr (show j.natAbs < 2 ^ 200 by omega)) (by decide)
theorem Kw{X:Cx}:zC X (.builtin "isinstance") (fun xs H Q=>∃x t T b,xs=[x,.ty T]/\TyOf X.K H x t/\CQ X.K t (.type T)=some b/\Q (.bl b) H):=by
 intro ad s σ H xs us Q I r h;obtain⟨x,t,T,b,rfl,ty,e,q⟩:=h;obtain⟨u,v,rfl,ru,rv⟩:=jiu r
 cases rv
 exact jdj I ru ty e fun tk=>⟨.bl b,H,I.tok _,rfl,q⟩
theorem jib(K:aq):CQ K (.type "tuple") (.type "tuple")=some true:=rfl
def zu:ag->Bool
 | .Starred _ _=>false
 | _=>true
theorem yK{e:ag}(h:zu e=true)(yB:List ag)(env:Env):bO (e :: yB) env=(false,eval e env) :: bO yB env:=by
 cases e <;> first | rfl | cases h
theorem ZA(pos:Pos)(env:Env):∀es:List ag,es.all zu=true->(eO pos (bO es env)).any (·.1)=false
 | [],_=>rfl
 | e :: es,h=>by
  rw[xE,gY]at h;rw[yK h.1];have ih:=ZA pos env es h.2;show (false || (eO pos (bO es env)).any (·.1))=false;rw[ih];rfl
theorem jiU{X:Cx}{e:ag}{es:List ag}{te:TE}{t:TA}(ha:PE X e te)(hr:PA X es t)(hp:zu e=true:=by rfl):PA X (e :: es) (jbU te t):=jgk ha hr (yK hp es X.env)
theorem jiQ{X:Cx}{x:Str}{p pos:Pos}{e:ag}{es:List ag}{t:TA}{id:String}{r:List V->Hp->VK->Prop}(hc:zC X (.builtin id) r)(hg:Gl X x)(hm:X.mg x=none)(hv:cW x=some (.builtin id))(ha:PA X (e :: es) t)(hp:(e :: es).all zu=true:=by rfl)(hn:x≠"__name__":=by decide)(fu:(x == ("__debug__" : Str))=false:=by decide):
  PE X (.Call (.Name x p) (e :: es) [] pos) (tCB r t):=by
 rw[xE,gY]at hp
 exact jeG hc hg hm hv ha hn fu (yK hp.1 es X.env) (ZA pos X.env es hp.2)
theorem jiP{X:Cx}{x:Str}{p pos:Pos}{e:ag}{es:List ag}{t:TA}{T:String}{r:List V->Hp->VK->Prop}(hc:zC X (.type T) r)(hg:Gl X x)(hm:X.mg x=none)(hv:cW x=some (.type T))(ha:PA X (e :: es) t)(hp:(e :: es).all zu=true:=by rfl)(hn:x≠"__name__":=by decide)(fu:(x == ("__debug__" : Str))=false:=by decide):
  PE X (.Call (.Name x p) (e :: es) [] pos) (tCB r t):=by
 rw[xE,gY]at hp
 exact jcZ hc hg hm hv ha hn fu (yK hp.1 es X.env) (ZA pos X.env es hp.2)
structure Fn(P:az)(w:aw)(K:aq)(mg:Str->Option ae)(base:aj)(k:Nat)(x:Str)(ps:List Str)(sp:Sp):Prop where
 ex:∃f fd,FnOk P w K mg base CX0 k f fd ps sp/\Binds K fd ps []/\eQ K (.ref f)=true/\mg x=some (.ref f)
theorem jiO{X:Cx}{k k':Nat}{x:Str}{ps:List Str}{sp:Sp}{e:ag}{es:List ag}{t:TA}{p pos:Pos}(F:Fn X.prog X.w X.K X.mg X.base k x ps sp)(hr:Room k' X.A)(ha:PA X (e :: es) t)(hk:k<=k':=by decide)(hg:Gl X x:=by rfl)
  (hd:(x == ("__debug__" : Str))=false:=by decide) (hp:(e :: es).all zu=true:=by rfl):PE X (.Call (.Name x p) (e :: es) [] pos) (jd1 sp [] E0 t):=by
 obtain⟨f,fd,G,b,kp,m⟩:=F.ex
 rw[xE,gY]at hp
 exact jgi G (hr.mono hk) hg m kp b .nil jhj ha hd (yK hp.1 es X.env) (ZA pos X.env es hp.2)
theorem Fn.mk'{P:az}{w:aw}{K:aq}{mg:Str->Option ae}{base:aj}{k:Nat}{x:Str}{ps:List Str}{sp:Sp}{st:aA}{f:ab}{fd:aH}(F:Fun K x x st f fd)(b:Binds K fd ps [])(m:mg x=some (.ref f))(G:FnOk P w K mg base CX0 k f fd ps sp):Fn P w K mg base k x ps sp:=⟨f,fd,G,b,F.kp,m⟩
theorem zg{X:Cx}{scope:cj}{fr:List Nat}{sc:cj}{N:List Str}(h1:X.env.scope=sc)(h2:X.N=N) (h:scope.kind=.function/\(∀y∈scope.names,y.2≠.cell)/\(∀y∈scope.names,y.2=.local->scope.names.lookup y.1=some .local)/\
  (∀y∈scope.names,y.2=.free->sc.names.lookup y.1=some .cell\/sc.names.lookup y.1=some .free)/\∀j∈fr,scope.names.lookup (N.getD j (bu ""))=some .free):CompOk X scope fr:=by
 obtain⟨a,b,c,d,e⟩:=h
 exact⟨a,b,c,by rw[h1];exact d,by rw[h2];exact e⟩
theorem Jp:cW "len" = some (.builtin "len"):=by decide +kernel
theorem Jf:cW "isinstance" = some (.builtin "isinstance"):=by decide +kernel
theorem Zg:cW "sorted" = some (.builtin "sorted"):=by decide +kernel
theorem Jq:cW "int" = some (.type "int"):=by decide +kernel
theorem jaX:cW "tuple" = some (.type "tuple"):=by decide +kernel
theorem jcA:cW "list" = some (.type "list"):=by decide +kernel
structure Free0(mg:Str->Option ae):Prop where
 len_:mg "len" = none
 max_:mg "max" = none
 min_:mg "min" = none
 all_:mg "all" = none
 isinstance_:mg "isinstance" = none
 abs_:mg "abs" = none
 sorted_:mg "sorted" = none
 int_:mg "int" = none
 str_:mg "str" = none
 bool_:mg "bool" = none
 tuple_:mg "tuple" = none
 list_:mg "list" = none
 dict_:mg "dict" = none
 range_:mg "range" = none
 set_:mg "set" = none
theorem je6{X:Cx}{K:aq}(h:X.K=K:=by rfl):IxR X (jiH K):=by subst h;exact jZ
structure QS(X:Cx)(st:aA)(t:TS):Prop where
 h:PS X st t
structure QSs(X:Cx)(st:List aA)(t:TS):Prop where
 h:PSs X st t
theorem qs{X:Cx}{st:aA}{t:TS}(h:PS X st t):QS X st t:=⟨h⟩
open PySem PySem.Spec PyProof.Rows PySem.W
section
variable {N:Nat}{f:Nat->Int}{p:Array Nat}{s:af}
def gk(f:Nat->Int)(p:Array Nat)(i:Nat):Int:=f (p.getD i 0)
end
end L2
namespace PySem
open Sem (wp)
namespace F
end F
end PySem
namespace L2
open PySem PySem.Spec PyProof.Rows PySem.W
theorem Inv.more{X:Cx}{ad:List (ab×Obj)}{σ:St}{H H':Hp}{s:af}{h':aj}{t':Nat}(I:Inv X ad σ H s)(k:∀b u,s.heap.get? b=some u->h'.get? b=some u)(same:Same H H')
  (new:∀b o,H b=none->H' b=some o->s.heap.objs.size<=b/\ObjOk X.prog X.w H' h' b o):Inv X ad σ H' { s with heap:=h',toks:=t' }:=by
 refine I.un ⟨fun b u q _ _ _=>k b u q,fun b u q _ _ _=>⟨u.slots,k b u q⟩,fun b u q n _=>?_,fun b u q _=>⟨u,k b u q⟩,fun b xs q=>same _ _ q,fun b u xs q=>same _ _ q,fun b ps q=>⟨#[],by rw[same _ _ q];simp⟩,fun b u _ _ q _ _=>k b u q⟩ fun b o e=>?_
 .cases e:H' b with
  | none=>rfl
  | some o=>exact absurd (bp q) (Nat.not_lt.mpr (new b o n e).1)
 .cases q:H b with
  | none=>exact (new b o q e).2
  | some u=>
   have:=same _ _ q
   rw[e]at this
   cases this
   exact (I.hok b o q).stay (fun c v _ q=>k c v q) (fun c q=>same _ _ q) fun c xs q=>same _ _ q
abbrev Up(xs:Array Nat):Prop:=xs.toList.Pairwise (· < ·)
structure TabOk(led:Bool)(t:iA):Prop where
 led_:t.led=led
 Ai:t.dummies=#[]
 up:Up t.place
end L2
namespace PySem
namespace F
end F
end PySem
namespace L2
open PySem PySem.Spec PyProof.Rows PySem.W
abbrev jeg(es:Array (Int×ae))(ep:Nat)(t:iA):Obj:={ cls:=.type "set",dict:=none,data:=.set es ep t }
open PySem PySem.Spec PySem.Calls PyProof.Rows PySem.W
theorem Inv.drawn{X:Cx}{ad:List (ab×Obj)}{σ:St}{H:Hp}{s:af}{h':aj}{d':Drawn}(I:Inv X ad σ H s)(k:∀b u,s.heap.get? b=some u->h'.get? b=some u):Inv X ad σ H { s with heap:=h',drawn:=d' }:=
 I.call (g':=s.gens) (t':=s.toks) (d':=d') (ch:=[]) (Un.kept k) (I.hok.kept k) I.bare fun _ z=>nomatch z
theorem jds{X:Cx}{scope:cj}{own:List Str}{fr:List Nat}{aW tg iter:ag}{ifs:List ag}{pos:Pos}{wi:TI}{g:TG}{tt:TT}{te:TE}{use:Option (ae->Sem Unit)}(hc:X.calm=true)(O:CompOk X scope fr)(hi:PI X tg iter wi)
  (hb:∀s H ex,PG (blk X scope own fr s H ex) tg g/\PTs (blk X scope own fr s H ex) ifs tt/\PE (blk X scope own fr s H ex) aW te)
  (hs:∀x,eN iter X.env x=pure x) {ad:List (ab×Obj)} {s:af} {σ:St} {H:Hp} {Q:VK} {R:ae->af->Prop} (I:Inv X ad σ H s) (h:YT own fr wi g tt te σ H Q) (hx:∀e s',X.xe e s'↔False)
  (fin:∀(p C:ab) (H':Hp) (s':af) (m:Str->Option ae),s'.heap.Ns C m->H' C=none->C≠X.env.locals->(∀x c,X.env.cells.lookup x=some c->c≠C)->X.s₀.heap.objs.size<=C->(∀p∈X.pn++ad,p.1≠C)->Inv X ad σ H' s'->(∀h',lB C s'.heap h'->Inv X ad σ H' { s' with heap:=h' })->Q (.ref p) H'->
   on (ai X.prog X.w) X.A X.xe use R (.ref p) C (.ok .next) s') :
  al (ai X.prog X.w) X.A (comprehension (.ListComp aW [⟨tg,iter,ifs,0⟩] scope pos) scope X.env (Cz [⟨tg,iter,ifs,0⟩] pos) (rZ []) false (eval iter X.env) use) R X.xe s:=by
 have iP:∀x∈scope.names,x.2=.free->(X.env.cells.lookup x.1).isSome=true:=fun x cE e=>by
  obtain⟨c,hc⟩:=I.ok.has x.1 (O.frees x cE e);rw[hc];rfl
 have no:∀(E:ae->af->Prop) (x:ae) (s':af),X.xe x s'->E x s':=fun E x s' z=>((hx x s').mp z).elim
 refine Cp (cl:=yD X.env.cells scope.names []) rfl hs (Jo iP) O.kind O.loc ?_
 refine thn (hi ad s σ H _ I h) fun v s1 h1=>thn h1 fun nr s2 h2=>?_
 obtain⟨it,fp,tn,J,H2,e,I2,T,bU,f2,q2⟩:=h2
 subst e
 refine iw ?_
 have nw:H2 s2.heap.objs.size=none:=I2.fresh
 obtain⟨W,⟨m0,w0⟩,turn⟩:=q2 _ nw
 generalize hp:s2.heap.objs.size=p at *
 have I3:Inv X ad σ (upd H2 p (.lst [])) { s2 with heap:=s2.heap.push { cls:=.type "list",dict:=none,data:=.seq ([]:List ae).toArray } }:=by
  have:=I2.lnew (ys:=[]) (its:=[]) (t':=s2.toks) .nil (bF _);rw[hp]at this;exact this
 have g9:∀b∈fp,b < s2.heap.objs.size:=fun b hb=>by
  obtain⟨o,ho,_⟩:=T.obj _ _ bU b hb;exact bp ho
 have im:∀b∈fp,(upd H2 p (.lst [])) b=none:=fun b hb=>by
  rw[jD (by rw[<- hp];exact bB (g9 b hb))];exact (f2 b hb).1
 generalize fO:({ s2 with heap:=s2.heap.push { cls:=.type "list",dict:=none,data:=.seq ([]:List ae).toArray } }:af)=s3 at *
 have mR:s3.heap.objs.size=p+1:=by
  rw[<- fO];show (s2.heap.push _).objs.size=_;rw[sv,hp]
 have fF:tn 0 s3.heap:=T.keep 0 _ _ bU fun b hb o e=>by
  rw[<- fO];exact bK _ e
 refine Cm O.nocell (by intro y hy;simp at hy) (fun h4 ic nF=>?_) O.kind
 have k4:∀b o,s3.heap.get? b=some o->h4.get? b=some o:=fun b o e=>nF.extBut b o (bB (bp e)) (bK _ e)
 have nJ:h4.Ns s3.heap.objs.size fun _=>none:=by
  have z:(fun x:Str=>([]:List (Str×ae)).reverse.lookup x)=fun _=>none:=by funext x;rfl
  rw[z]at ic;exact ic
 have fo:∀b∈fp,Jr X ad (upd H2 p (.lst [])) b/\b < s3.heap.objs.size:=fun b hb=>⟨⟨im b hb,(f2 b hb).2⟩,by rw[mR,<- hp];exact oA (g9 b hb)⟩
 have I4:=ZN (own:=own) (fr:=fr) (t1:=s3.toks+([]:List (Str×ae)).length) I3 O fo nJ k4
 have aQ:tn 0 h4:=T.keep 0 _ _ fF fun b hb o e=>k4 b o e
 obtain⟨hg,ht,he⟩:=hb s3 (upd H2 p (.lst [])) fp
 have dC:∀{H':Hp} {pn:List (ab×Obj)} {s':af} {σ':St},Inv (blk X scope own fr s3 (upd H2 p (.lst [])) fp) [] σ' H' s'->(∀b∈fp,H' b=none)->∀b∈fp,Jr (blk X scope own fr s3 (upd H2 p (.lst [])) fp) [] H' b:=fun {H' pn s' σ'} J hn b aT=>
  ⟨hn b aT,(J.ok.exf b aT).1,J.ok.exfs b aT,.inl aT,(J.ok.exf b aT).2,fun p hp=>absurd hp (by simp[blk])⟩
 have nh:∀x c,X.env.cells.lookup x=some c->c≠s3.heap.objs.size:=fun x c e=>by
  obtain⟨v,q⟩:=I3.cell x c e;exact bB q.lt
 have g_:∀s5:af,s5={ s3 with heap:=h4,toks:=s3.toks+([]:List (Str×ae)).length }->
   dg (ai X.prog X.w) X.A (.compLoop (.ListComp aW [⟨tg,iter,ifs,0⟩] scope pos) 0 (.ref it) (.ref p) (blk X scope own fr s3 (upd H2 p (.lst [])) fp).env) (on (ai X.prog X.w) X.A X.xe use R (.ref p) s3.heap.objs.size) s5:=by
  rintro s5 rfl
  refine J0 (fun n s'=>∃i σ' H',Inv (blk X scope own fr s3 (upd H2 p (.lst [])) fp) [] σ' H' s'/\tn i s'.heap/\(∀b∈fp,H' b=none)/\W i n σ' H') ?_ m0 ⟨0,_,_,I4,aQ,im,w0⟩
  rintro n s6 ⟨i,σ6,H6,I6,gZ,il,w6⟩
  rcases turn i n σ6 H6 w6 with⟨stop,qn⟩ | ⟨go,N,hN,step⟩
  .refine thn (T.done (blk X scope own fr s3 (upd H2 p (.lst [])) fp) rfl rfl rfl hc i [] s6 σ6 H6 _ I6 (dC (pn:=[]) I6 il) gZ stop) fun r s7 ⟨hr,I7⟩=>?_
   subst hr
   obtain⟨m,hm,_⟩:=I7.loc
   exact fin p _ H6 s7 m hm I7.free (iD I3.lt) nh I3.sz (fun p hp=>bB (bp (I3.pin p hp).1)) (yk I3 fo I7 (C6 ..)) (fun h' dr=>yk I3 fo I7 dr) qn
  .refine thn (T.item (blk X scope own fr s3 (upd H2 p (.lst [])) fp) rfl rfl rfl hc i [] s6 σ6 H6 _ I6 (dC (pn:=[]) I6 il) gZ go) fun r s7 ⟨u,hr,h7⟩=>?_
   subst hr
   refine thn h7 fun _ s8 ⟨x,H8,I8,r8,y8,fh,n_⟩=>?_
   have oi:=I8.pinned (dC (pn:=[]) I8 n_) (T.obj _ _ fh)
   refine thn (hg _ s8 σ6 H8 x u _ oi r8 (step x H8 y8)) fun _ s9 ⟨σ9,H9,I9,q9⟩=>?_
   refine thn (ht _ s9 σ9 H9 _ I9 q9) fun ok cQ ⟨i6,fU,gq⟩=>?_
   have again:∀{bW:Hp} {br:af},Inv (blk X scope own fr s3 (upd H2 p (.lst [])) fp) ([]++q8 fp s8.heap) σ9 bW br->(∃m',m' < n/\W (i+1) m' σ9 bW)->
     ∃m,m < n/\∃i σ' H',Inv (blk X scope own fr s3 (upd H2 p (.lst [])) fp) [] σ' H' br/\tn i br.heap/\(∀b∈fp,H' b=none)/\W i m σ' H':=fun {bW br} bR ⟨m',hm,iG⟩=>by
    refine⟨m',hm,i+1,σ9,bW,bR.unpinned,T.keep _ _ _ fh fun b aT o e=>(bR.pin (b,o) (ck _ (ck _ (kG aT e)))).1,fun b aT=>?_,iG⟩
    obtain⟨o,e,d⟩:=T.obj _ _ fh b aT
    exact (bR.pin (b,o) (ck _ (ck _ (kG aT e)))).2.1
   cases ok with
   | false=>
    rw[MT cP]at gq |-
    exact again fU (hN _ _ gq)
   | true=>
    rw[MU rfl]at gq |-
    refine thn (he _ cQ σ9 i6 _ fU gq) fun yv br ⟨y,bW,bR,tN,ys,bJ,bf,tP⟩=>?_
    have ap:=j0 (X:=blk X scope own fr s3 (upd H2 p (.lst [])) fp) ([]++q8 fp s8.heap) br σ9 bW (.ref p) [y] (.ref p) [yv] (fun _ gI=>∃m',m' < n/\W (i+1) m' σ9 gI) bR rfl (.cons tN .nil) ⟨p,ys,y,rfl,rfl,bJ,bf,hN _ _ tP⟩
    exact thn ap fun _ bV ⟨_,gI,dY,_,tO⟩=>again dY tO
 refine CC (g_ _ rfl) (T.self X.A 0 _ _ _ aQ (g_ _ rfl))
theorem jbi{X:Cx}{scope:cj}{aW tg iter:ag}{ifs:List ag}{pos:Pos}{wi:TI}{g:TG}{tt:TT}{te:TE}{i:Nat}{y:Str}{py mS:Pos}(hN:X.N.Nodup)(nN:X.N[i]?=some y)(hy:Loc X.env.scope y)(own:List Str)(fr:List Nat)(hc:X.calm=true)(O:CompOk X scope fr)(hi:PI X.nox tg iter wi)
  (hb:∀s H ex,PG (blk X.nox scope own fr s H ex) tg g/\PTs (blk X.nox scope own fr s H ex) ifs tt/\PE (blk X.nox scope own fr s H ex) aW te)
  (hs:∀x,eN iter X.env x=pure x:=by intro _;rfl)
  (EX:gL (.ListComp aW [⟨tg,iter,ifs,0⟩] scope pos) (some (.Name y py)) mS.line X.env=pure true:=by rfl)
  (hf:X.fn y=true\/X.env.scope.names.lookup y=some .local:=by first | exact .inl rfl | exact .inr rfl | assumption) :
  PS X.nox (.Assign [.Name y py] (.ListComp aW [⟨tg,iter,ifs,0⟩] scope pos) mS) (Zr (YT own fr wi g tt te) (qm i)):=by
 intro ad s σ H D I h
 rw[exec_Assign_Name_used _ _ _ _ EX]
 refine ar (ir (ar ?_))
 show al _ _ (do let _ <- comprehension (.ListComp aW [⟨tg,iter,ifs,0⟩] scope pos) scope X.nox.env _ (rZ []) false (eval iter X.nox.env) (some (assign (.Name y py) X.nox.env))) _ _ s
 refine ar (cb (jds (X:=X.nox) (use:=some (assign (.Name y py) X.nox.env)) (R:=fun _ s'=>SP X.nox ad D .next s') hc ⟨O.kind,O.nocell,O.loc,O.frees,O.fr⟩ hi hb hs I h (fun _ _=>Iff.rfl)
  fun p C H' s' m hm hC hL ii hz fP I' back q=>?_) (fun _ s' hq=>aN (aN hq)) fun _ _ e=>e)
 show al _ _ (assign (.Name y py) X.nox.env (.ref p)) _ _ _
 refine HH (YU (v:=.ref p) I' hN nN hy rfl (fun s2 I2 E3=>?_) hf)
 obtain⟨a,uX,ha⟩:=E3
 have GG:C≠a:=by
  rcases ha with rfl | e
  .exact hL
  .exact fun z=>ii _ _ e z.symm
 refine⟨m,hm.sameBut uX GG,fun h' dr=>?_⟩
 exact⟨_,H',I2.turned (t':=s2.toks) (fun b o hb e=>(dr.2 b hb).trans e) hC hL (.inr hz) ii fP,q⟩
section
variable {X:Cx}{ad:List (ab×Obj)}{σ:St}{H:Hp}{s:af}{tg:ag}
theorem Inv.relabel{a:ab}{u v:HO}(I:Inv X ad σ H s)(hu:H a=some u)(h1:∀xs,u≠.tup xs)(h2:∀ps,u≠.tbl ps)(h3:∀o z,X.H₀ a≠some (.frz o z))(h4:∀x,u≠.own x)(hv:ObjOk X.prog X.w (upd H a v) s.heap a v):Inv X ad σ (upd H a v) s:=by
 have ne:∀b,H b=none->b≠a:=fun b n z=>by rw[z,hu]at n;cases n
 have nt:∀b xs,H b=some (.tup xs)->b≠a:=fun b xs n z=>by rw[z,hu]at n;exact h1 xs (cN n)
 have no:∀b x,H b=some (.own x)->b≠a:=fun b x n z=>by rw[z,hu]at n;exact h4 x (cN n)
 refine⟨I.ok,I.os,I.bare,⟨I.base.keep,I.base.slot,fun b o e n hx=>?_,I.base.there,fun b xs e=>?_,fun b o z e=>?_,fun b ps e=>?_,I.base.stay⟩,I.loc,I.cell,?_,fun x c e=>?_,fun p hp=>?_,fun b o e=>?_,I.len⟩
 .have q:=I.base.free b o e n hx
  rw[jD (ne b q)];exact q
 .have q:=I.base.tups b xs e
  rw[jD (nt b xs q)];exact q
 .have hb:b≠a:=fun z'=>by subst z';exact h3 _ _ e
  rw[jD hb];exact I.base.frzs b o z e
 .obtain⟨m,q⟩:=I.base.tbls b ps e
  have hb:b≠a:=fun z'=>by rw[z',hu]at q;exact h2 _ (cN q)
  exact⟨m,by rw[jD hb];exact q⟩
 .rw[jD (ne _ I.free)];exact I.free
 .rw[jD (ne _ (I.freeC x c e))];exact I.freeC x c e
 .obtain⟨q1,q2,q3⟩:=I.pin p hp
  exact⟨q1,by rw[jD (ne _ q2)];exact q2,q3⟩
 .by_cases hb:b=a
  .subst hb
   rw[jf]at e
   cases e
   exact hv
  .rw[jD hb]at e
   exact (I.hok b o e).stay (fun _ _ _ q=>q) (fun c q=>by rw[jD (no c _ q)];exact q) fun c xs q=>by rw[jD (nt c xs q)];exact q
def Itd(a:ab)(o:Obj)(kvs:List (Key×V)):It:=
 ⟨fun i H=>H a=some (.frz o (.dK kvs))/\i < kvs.length,fun i H x H'=>H'=H/\∃k v,kvs[i]?=some (k,v)/\x=kV k,fun i H=>H a=some (.frz o (.dK kvs))/\kvs.length<=i⟩
theorem jck:∀{kvs:List (Key×V)} {vs:List (Key×ae)},KV kvs vs->∀{i:Nat} {k:Key} {v:V},kvs[i]?=some (k,v)->∃u,vs[i]?=some (k,u)
 | [],[],_,i,k,v,e=>by simp at e
 | p :: r,q :: t,h,i,k,v,e=>by
  unfold KV at h
  cases h with
  | cons h1 h2=>
   cases i with
   | zero=>
    have:p=(k,v):=by simpa using e
    subst this;obtain⟨q1,q2⟩:=q;have e1:k=q1:=h1.1;subst e1;exact⟨q2,by simp⟩
   | succ j=>
    obtain⟨u,e2⟩:=jck (kvs:=r) (vs:=t) h2 (i:=j) (k:=k) (v:=v) (by simpa using e);exact⟨u,by simpa using e2⟩
theorem jcu{P:az}{w:aw}{H:Hp}{h:aj}{a:ab}{o:Obj}{kvs:List (Key×V)}{vU:Array xb}{ep:Nat}(hd:o.data=.dict vU ep)(x:ObjOk P w H h a (.frz o (.dK kvs))):∃vs,KV kvs vs/\h.DictAt (j9 P w) a vs ep:=by
 obtain⟨e,_,_,vs,r,o',es,pO,e',c1,c2,c3⟩:=x;rw[e]at e'
 cases e'
 rw[hd]at c2
 cases c2
 exact⟨vs,r,o,_,e,c1,hd,c3⟩
theorem jcQ{P:az}{w:aw}{K:aq}(a it:ab){o:Obj}{kvs:List (Key×V)}{vU:Array xb}{ep:Nat}(hd:o.data=.dict vU ep):Turn P w K tg (Itd a o kvs) [it] it (fun i h=>h.IsKeyIter it a i kvs.length ep) where
 mem:=by simp
 obj:=fun i h st b hb=>by
  have e:b=it:=by simpa using hb
  subst e;obtain⟨o,e,c,d⟩:=st;exact⟨o,e,fun v z=>by rw[d]at z;cases z⟩
 keep:=fun i h h' st k=>by
  obtain⟨o,e,c,d⟩:=st;exact⟨o,k it (by simp) o e,c,d⟩
 item:=by
  intro X hP hw hK hc i ad s σ H E I hf st hg;subst hP hw hK;obtain⟨hq,hi⟩:=hg;obtain⟨vs,rv,da⟩:=jcu hd (I.hok a _ hq);obtain⟨k,v⟩:∃kv,kvs[i]?=some kv:=⟨_,aK hi⟩
  obtain⟨k,v'⟩:=k;obtain⟨u,hu⟩:=jck rv v;obtain⟨f0,f1,f2,f3,f4,f5⟩:=hf it (by simp);have hl:kvs.length=vs.length:=rv.length;rw[hl]at st;refine wpAny_pyNext_dict_item st da hu fun key h' hk ax sb=>?_
  have I1:Inv X ad σ H { s with heap:=h' }:=I.turned (t':=s.toks) (fun b o hb e=>(sb.2 b hb).trans e) f0 f1 f3 f4 f5;obtain⟨ob,e,c,d⟩:=id ax;have rk:RelV (kV k) key:=by
   rcases kC (show Yq k key=true from hk) with⟨j,t,rfl,rfl⟩ | ⟨y,t,rfl,rfl⟩
   .exact⟨t,rfl⟩
   .exact⟨t,rfl⟩
  rw[<- hl]at ax;exact⟨key,rfl,jfd (s:={ s with heap:=h' }) e c d (by decide) ⟨kV k,H,I1,rk,⟨rfl,k,v',v,rfl⟩,ax,fun b hb=>(hf b hb).1⟩⟩
 done:=by
  intro X hP hw hK hc i ad s σ H E I hf st hg;subst hP hw hK;obtain⟨hq,hi⟩:=hg;obtain⟨vs,rv,da⟩:=jcu hd (I.hok a _ hq);obtain⟨f0,f1,f2,f3,f4,f5⟩:=hf it (by simp);have hl:kvs.length=vs.length:=rv.length;rw[hl]at st;exact wpAny_pyNext_dict_end (I.ok.hd hc) st da (DM (by omega)) fun h' eb=>⟨rfl,I.turned (t':=s.toks) (fun b o hb e=>eb b o hb e) f0 f1 f3 f4 f5⟩
 self:=fun _ _ _ _ _ st h=>wpAny_pyIter_keyiter st h
def jho(tl:TE):TI:=fun σ H R=>tl σ H fun x H1=>∃a kvs,x=.ref a/\H1 a=some (.dK kvs)/\∀o,R (Itd a o kvs) (upd H1 a (.frz o (.dK kvs)))
theorem jf9{l:ag}{tl:TE}(hl:PE X l tl):PI X tg l (jho tl):=by
 intro ad s σ H R I h;refine thn (hl ad s σ H _ I h) fun v s1 ⟨x,H1,I1,r1,q1⟩=>?_
 obtain⟨a,kvs,e,hq,q⟩:=q1;subst e
 cases r1
 have ok:=I1.hok a _ hq;obtain⟨z1,z2,vs,rv,o,es,ep,e1,c1,c2,c3⟩:=id ok;have da:s1.heap.DictAt (j9 X.prog X.w) a vs ep:=⟨o,es,e1,c1,c2,c3⟩
 have I2:Inv X ad σ (upd H1 a (.frz o (.dK kvs))) s1:=I1.relabel hq (fun _ z=>by cases z) (fun _ z=>by cases z) (fun o' z' e'=>by
  have:=I1.base.frzs a o' z' e';rw[hq]at this
  cases this) (fun _ z=>by cases z) ⟨e1,ok.stay (fun _ _ _ q=>q) (fun c q=>by rw[jD (jaB q hq (by intro z;cases z))];exact q) fun c xs q=>by rw[jD (jaB q hq (by intro z;cases z))];exact q⟩
 refine wpAny_pyIter_dict z2 da ?_;have bf:kvs.length=vs.length:=rv.length;refine⟨s1.heap.objs.size,[s1.heap.objs.size],_,_,_,rfl,I2.kept (t':=s1.toks) fun b o e=>bK _ e,jcQ a _ c2,⟨_,eh _ rfl,rfl,by rw[<- bf];rfl⟩,fun b hb=>?_,q o⟩;have e:b=s1.heap.objs.size:=by simpa using hb
 subst e;exact I2.fpOk (aD _) (I2.hok.fresh (aD _))
def jg6(H₀:Hp)(t:TS):TS:=fun D σ H=>t { D with nx:=fun σ' H'=>∃a o kvs,H' a=some (.frz o (.dK kvs))/\(∀o z,H₀ a≠some (.frz o z))/\D.nx σ' (upd H' a (.dK kvs)) } σ H
theorem jfZ{st:aA}{t:TS}(h:PS X st t):PS X st (jg6 X.H₀ t):=by
 intro ad s σ H D I q;refine thn (h ad s σ H _ I q) fun f s1 q1=>?_
 cases f with
 | next=>
  obtain⟨σ',H',I',a,o,kvs,e,hn,q'⟩:=q1;have ok:=I'.hok a _ e;exact⟨σ',_,I'.relabel e (fun _ z=>by cases z) (fun _ z=>by cases z) hn (fun _ z=>by cases z) (ok.2.stay (fun _ _ _ q=>q) (fun c q=>by rw[jD (jaB q e (by intro z;cases z))];exact q) fun c xs q=>by rw[jD (jaB q e (by intro z;cases z))];exact q),q'⟩
 | cont=>exact q1
 | brk=>exact q1
 | ret v=>exact q1
end
theorem Z2:cW "enumerate" = some (.type "enumerate"):=by decide +kernel
def Ite(K:aq)(l:ab):It:=
 ⟨fun i H=>∃xs x,SqL K H l xs/\xs[i]?=some x,fun i H x H'=>∃t y,H t=none/\(∀xs,SqL K H l xs->xs[i]?=some y)/\x=.ref t/\H'=upd H t (.tup [.int i,y]),fun i H=>∃xs,SqL K H l xs/\xs.length<=i⟩
theorem jcP{P:az}{w:aw}{K:aq}{oe:List ag}{x1:Nat}{tp:Pos}(l e it:ab)(pr:e≠it):Turn P w K (.Tuple oe x1 tp) (Ite K l) [e,it] e (fun i h=>(∃fK,IsEnum h e it i fK)/\h.IsListIter it l i) where
 mem:=by simp
 obj:=fun i h st b hb=>by
  obtain⟨⟨fK,h1⟩,o,e2,c,d⟩:=st;rcases a_.mp hb with rfl | hb
  .exact⟨_,h1,fun v z=>by cases z⟩
  .rw[aM.mp hb]
   exact⟨o,e2,fun v z=>by rw[d]at z;cases z⟩
 keep:=fun i h h' st k=>by
  obtain⟨⟨fK,h1⟩,o,e2,c,d⟩:=st;exact⟨⟨fK,k e (by simp) _ h1⟩,o,k it (by simp) o e2,c,d⟩
 item:=by
  intro X hP hw hK hc i ad s σ H E I hf st hg;subst hP hw hK;obtain⟨xs,x,hq,hx⟩:=hg;obtain⟨⟨fK,hE⟩,pE⟩:=st;obtain⟨its,rv,p,hz⟩:=I.list hq;obtain⟨u,hu,ru⟩:=rv.get hx;obtain⟨a0,a1,a2,a3,a4,a5⟩:=hf e (by simp);obtain⟨f0,f1,f2,f3,f4,f5⟩:=hf it (by simp);refine wpAny_pyNext_enum_item hE pE p.isList (x:=u) (by simpa using hu) pr fun h' o1 o2 o3 o4 o5=>?_
  refine⟨_,rfl,wpAny_letOwnedTupleGo_enum (s:={ s with heap:=h',toks:=s.toks+1 }) o1 fun h2 g1 g2=>?_⟩;have mi:H s.heap.objs.size=none:=I.hok.fresh (aD _);have kp:∀b o,b≠e->b≠it->s.heap.get? b=some o->h2.get? b=some o:=fun b o hb aT q=>(g2.2 b hb).trans (o5 b o hb aT q)
  have nt:∀b o,s.heap.get? b=some o->b≠s.heap.objs.size:=fun b o q=>bB (bp q)
  have ne:∀b z,H b=some z->b≠e/\b≠it:=fun b z q=>⟨fun t=>(by rw[t,a0]at q;cases q),fun t=>(by rw[t,f0]at q;cases q)⟩
  have Bo:s.heap.objs.size≠e:=fun z=>absurd (bp hE) (by rw[<- z];exact lG _)
  have I1:Inv X ad σ (upd H s.heap.objs.size (.tup [.int i,x])) { s with heap:=h2,gens:=s.gens,drawn:=s.drawn,toks:=s.toks+1 }:=by
   refine I.step (g':=s.gens) (d':=s.drawn) (ch:=[e,it]) (fun b hb=>?_) (fun b o _ _ cK q _=>kp b o (fun z=>cK (by simp[z])) (fun z=>cK (by simp[z])) q) (fun b o _ _ cK q _=>⟨o.slots,kp b o (fun z=>cK (by simp[z])) (fun z=>cK (by simp[z])) q⟩)
    (fun b o _ q n=>by rw[jD (nt b o q)];exact n) (fun b o cK q=>⟨o,kp b o (fun z=>cK (by simp[z])) (fun z=>cK (by simp[z])) q⟩) (fun b ys q=>by rw[jD (jo q mi)];exact q) (fun b o z q=>by rw[jD (jo q mi)];exact q)
    (fun b ps q=>⟨#[],by rw[jD (jo q mi),q];simp⟩) (fun m hm=>?_) (fun b z q=>?_) I.bare
   .rcases a_.mp hb with rfl | hb
    .exact⟨a3,a1,a4,a5⟩
    .rw[aM.mp hb];exact⟨f3,f1,f4,f5⟩
   .obtain⟨o,es,ep,ho,r⟩:=hm
    exact⟨o,es,ep,kp _ o (cY a1) (cY f1) ho,r⟩
   .by_cases hb:b=s.heap.objs.size
    .subst hb
     rw[jf]at q
     cases q
     refine⟨?_,[Value.int (i:Int) s.toks,u],.cons ⟨_,rfl⟩ (.cons ru .nil),_,(g2.2 _ Bo).trans o3,rfl,0,rfl⟩;show 2<=aE;rw[fX];decide
    .rw[jD hb]at q
     refine (I.hok b z q).stay (fun c v cK q'=>?_) (fun c q'=>by rw[jD (jo q' mi)];exact q') fun c ys q'=>by rw[jD (jo q' mi)];exact q'
     rcases cK with rfl | cK
     .exact kp c v (ne c z q).1 (ne c z q).2 q'
     .exact kp c v (ne c _ cK).1 (ne c _ cK).2 q'
  refine⟨.ref s.heap.objs.size,_,I1,rfl,⟨_,x,mi,fun ys hy=>by rw[I.list_inj hy hq];exact hx,rfl,rfl⟩,⟨⟨_,g1⟩,?_⟩,fun b hb=>?_⟩
  .obtain⟨o,z1,z2,z3⟩:=o2
   exact⟨o,(g2.2 it (cY pr)).trans z1,z2,z3⟩
  .rcases a_.mp hb with rfl | hb
   .rw[jD (cY Bo)];exact a0
   .rw[aM.mp hb]
    have:it≠s.heap.objs.size:=by
     obtain⟨o,z1,_⟩:=pE;exact nt it o z1
    rw[jD this];exact f0
 done:=by
  intro X hP hw hK hc i ad s σ H E I hf st hg;subst hP hw hK;obtain⟨xs,hq,hx⟩:=hg;obtain⟨⟨fK,hE⟩,pE⟩:=st;obtain⟨its,rv,p,hz⟩:=I.list hq;obtain⟨f0,f1,f2,f3,f4,f5⟩:=hf it (by simp);have hl:=rv.length;exact wpAny_pyNext_enum_end (I.ok.hd hc) hE pE p.isList (by simp;omega) fun h' eb=>⟨rfl,I.turned (t':=s.toks) (fun b o hb e=>eb b o hb e) f0 f1 f3 f4 f5⟩
 self:=fun _ _ _ _ _ st h=>by
  obtain⟨⟨fK,hE⟩,_⟩:=st;exact Ht hE h
section
variable {X:Cx}{oe:List ag}{x1:Nat}{tp:Pos}
def jhn(K:aq)(ta:TA):TI:=fun σ H R=>ta σ H fun vs H1=>∃l,vs=[.ref l]/\(∃xs,SqL K H1 l xs)/\R (Ite K l) H1
theorem jf8{a:ag}{ta:TA}{p pos:Pos}(hg:Gl X "enumerate")(hm:X.mg "enumerate" = none)(ha:PA X [a] ta)(hs:bO [a] X.env=[(false,eval a X.env)]:=by rfl):PI X (.Tuple oe x1 tp) (.Call (.Name "enumerate" p) [a] [] pos) (jhn X.K ta):=by
 intro ad s σ H R I h;refine Call_ (Yo I hg hm Z2 (Dl (thn (ha pos ad s σ H _ I h) fun us s1 ⟨vs,H1,I1,r1,q1⟩=>?_) hs rfl));obtain⟨l,e,⟨xs,hq⟩,q⟩:=q1;subst e;obtain⟨u,rfl,rx⟩:=Ja r1
 cases rx
 obtain⟨its,rv,pl,hz⟩:=I1.list hq;refine call_enumerate_list pl.isList fun h' g1 g2 g3 g4=>?_
 refine Ht (s:={ s1 with heap:=h' }) g1 ?_;have I2:Inv X ad σ H1 { s1 with heap:=h' }:=I1.kept (t':=s1.toks) g4;refine⟨s1.heap.objs.size+1,[s1.heap.objs.size+1,s1.heap.objs.size],_,_,_,rfl,I2,jcP l _ _ (Nat.succ_ne_self _),⟨⟨_,g1⟩,g2⟩,fun b hb=>?_,q⟩;rcases a_.mp hb with rfl | hb
 .exact I1.fpOk (cO _) (I1.hok.fresh (cO _))
 .rw[aM.mp hb]
  exact I1.fpOk (aD _) (I1.hok.fresh (aD _))
theorem Yv{K:aq}{l:ab}{xs:List V}{g:TG}{tb:TS}{D:Ends}{σ:St}{H:Hp}(Pv:Nat->St->Hp->Prop)(h0:Pv 0 σ H)(hl:∀i σ H,i<=xs.length->Pv i σ H->SqL K H l xs)
  (hs:∀i y σ H t,xs[i]?=some y->Pv i σ H->H t=none->g (.ref t) σ (upd H t (.tup [.int i,y])) fun σ2 H2=>tb { D with nx:=Pv (i+1),ct:=Pv (i+1),bk:=D.nx } σ2 H2) (hd:∀σ H,Pv xs.length σ H->D.nx σ H) :
  ∃W:Nat->Nat->St->Hp->Prop,(∃m,W 0 m σ H)/\∀i m σ H,W i m σ H->
   ((Ite K l).stop i H/\D.nx σ H)\/((Ite K l).go i H/\∃N:St->Hp->Prop,(∀σ' H',N σ' H'->∃m',m' < m/\W (i+1) m' σ' H')/\∀x H',(Ite K l).yld i H x H'->g x σ H' fun σ2 H2=>tb { D with nx:=N,ct:=N,bk:=D.nx } σ2 H2):=by
 refine⟨fun i m σ H=>m=xs.length - i/\i<=xs.length/\Pv i σ H,⟨xs.length,by simp,bF _,h0⟩,?_⟩
 rintro i m σ H ⟨rfl,hi,p⟩
 have q:=hl i σ H hi p
 by_cases aS:i < xs.length
 .refine .inr ⟨⟨xs,xs[i],q,by simp[aS]⟩,Pv (i+1),fun σ' H' p'=>⟨xs.length - (i+1),by omega,rfl,aS,p'⟩,fun x H' y=>?_⟩
  obtain⟨t,z,ht,hz,rfl,rfl⟩:=y
  exact hs i z σ H t (hz xs q) p ht
 .have:i=xs.length:=by omega
  subst this
  exact .inl ⟨⟨xs,q,aD _⟩,hd σ H p⟩
end
end L2
namespace PySem
open AutoSeq1 (wpAny_loadPart')
end PySem
namespace L2
open PySem PySem.Spec PyProof.Rows
open PySem PySem.Spec PyProof.Rows PySem.W
mutual
def dEq:D->D->Bool
 | .int i,.int j=>i == j
 | .str x,.str y=>x == y
 | .tup a,.tup b=>dEqL a b
 | _,_=>false
def dEqL:List D->List D->Bool
 | [],[]=>true
 | a :: as,b :: bs=>dEq a b && dEqL as bs
 | _,_=>false
end
mutual
theorem kA:∀{a b:D},dEq a b=true↔a=b
 | .int i,.int j=>by unfold dEq;rw[beq_iff_eq];exact⟨(fun h=>by rw[h]),(fun h=>by injection h)⟩
 | .str i,.str j=>by unfold dEq;rw[beq_iff_eq];exact⟨(fun h=>by rw[h]),(fun h=>by injection h)⟩
 | .tup a,.tup b=>by unfold dEq;rw[dEqL_iff];exact⟨(fun h=>by rw[h]),(fun h=>by injection h)⟩
 | .int i,.str j=>by unfold dEq;exact⟨(fun h=>by cases h),(fun h=>by cases h)⟩
 | .int i,.tup j=>by unfold dEq;exact⟨(fun h=>by cases h),(fun h=>by cases h)⟩
 | .str i,.int j=>by unfold dEq;exact⟨(fun h=>by cases h),(fun h=>by cases h)⟩
 | .str i,.tup j=>by unfold dEq;exact⟨(fun h=>by cases h),(fun h=>by cases h)⟩
 | .tup i,.int j=>by unfold dEq;exact⟨(fun h=>by cases h),(fun h=>by cases h)⟩
 | .tup i,.str j=>by unfold dEq;exact⟨(fun h=>by cases h),(fun h=>by cases h)⟩
theorem dEqL_iff:∀{a b:List D},dEqL a b=true↔a=b
 | [],[]=>by unfold dEqL;exact⟨(fun _=>rfl),(fun _=>rfl)⟩
 | a :: as,b :: bs=>by
  unfold dEqL;rw[gY,kA,dEqL_iff];exact⟨(fun h=>by rw[h.1,h.2]),(fun h=>by injection h with h1 h2;exact⟨h1,h2⟩)⟩
 | [],b :: bs=>by unfold dEqL;exact⟨(fun h=>by cases h),(fun h=>by cases h)⟩
 | a :: as,[]=>by unfold dEqL;exact⟨(fun h=>by cases h),(fun h=>by cases h)⟩
end
instance:DecidableEq D:=fun a b=>if h:dEq a b=true then isTrue (kA.mp h) else isFalse fun e=>h (kA.mpr e)
theorem jcy(a b:D):dEq a b=decide (a=b):=by
 apply lO.mpr;rw[kA,decide_eq_true_iff]
theorem Yx(a b:List D):dEqL a b=decide (a=b):=by
 apply lO.mpr;rw[dEqL_iff,decide_eq_true_iff]
mutual
theorem JU{H:Hp}:∀{d d':D} {v:V},Held H d v->Held H d' v->d=d'
 | .int i,.int j,v,h,h'=>by unfold Held at h h';subst h;injection h' with h';rw[h']
 | .str i,.str j,v,h,h'=>by unfold Held at h h';subst h;injection h' with h';rw[h']
 | .tup a,.tup b,v,h,h'=>by
  unfold Held at h h';obtain⟨p,xs,rfl,e,h⟩:=h;obtain⟨p',xs',e0,e',h'⟩:=h';injection e0 with e0;subst e0;rw[e]at e';injection e' with e';injection e' with e';subst e';rw[heldL_inj h h']
 | .int i,.str j,v,h,h'=>by unfold Held at h h';subst h;cases h'
 | .int i,.tup j,v,h,h'=>by unfold Held at h h';subst h;obtain⟨p,xs,e,_⟩:=h';cases e
 | .str i,.int j,v,h,h'=>by unfold Held at h h';subst h;cases h'
 | .str i,.tup j,v,h,h'=>by unfold Held at h h';subst h;obtain⟨p,xs,e,_⟩:=h';cases e
 | .tup i,.int j,v,h,h'=>by unfold Held at h h';subst h';obtain⟨p,xs,e,_⟩:=h;cases e
 | .tup i,.str j,v,h,h'=>by unfold Held at h h';subst h';obtain⟨p,xs,e,_⟩:=h;cases e
theorem heldL_inj{H:Hp}:∀{d d':List D} {v:List V},HeldL H d v->HeldL H d' v->d=d'
 | [],[],_,_,_=>rfl
 | a :: as,b :: bs,v,h,h'=>by
  unfold HeldL at h h';obtain⟨u,r,rfl,h1,h2⟩:=h;obtain⟨u',r',e,cn,du⟩:=h';injection e with e1 e2;subst e1 e2;rw[JU h1 cn,heldL_inj h2 du]
 | [],b :: bs,v,h,h'=>by unfold HeldL at h h';subst h;obtain⟨u',r',e,_⟩:=h';cases e
 | a :: as,[],v,h,h'=>by unfold HeldL at h h';subst h';obtain⟨u',r',e,_⟩:=h;cases e
end
theorem yN:∀(a b:List D),((bT (min a.length b.length)).all (fun j=>dEq (a.getD j (.int 0)) (b.getD j (.int 0))) && a.length == b.length)=dEqL a b:=by
 intro a b;apply lO.mpr;rw[dEqL_iff,gY,DW,beq_iff_eq];constructor
 .rintro⟨h1,h2⟩
  apply List.ext_getElem h2;intro j hj ft;have:=h1 j (Me.mpr (by omega));rw[kA]at this;simpa[hj,ft]using this
 .rintro rfl
  exact⟨fun j _=>kA.mpr rfl,rfl⟩
section
variable {X:Cx}{ad:List (ab×Obj)}{σ:St}{H:Hp}{s:af}
theorem jct(I:Inv X ad σ H s):∀(n:Nat) (A:aL) (d d':D) (x y:V) (u v:ae),d.depth<=n->A.units+n < cLine->Held H d x->Held H d' y->RelV x u->RelV y v->oq A s u v (dEq d d'):=by
 intro n;induction n with
 | zero=>
  intro A d d' x y u v hd hA hx hy ru rv;have fx:A.units < cLine:=by omega
  cases d with
  | int i=>
   unfold Held at hx;subst hx;obtain⟨t,rfl⟩:=ru
   cases d' with
   | int j=>
    unfold Held at hy;subst hy;obtain⟨t',rfl⟩:=rv;unfold dEq;exact IS i t j t'
   | str j=>
    unfold Held at hy;subst hy;obtain⟨t',rfl⟩:=rv;unfold dEq;exact C1 i t j t'
   | tup ds=>
    unfold Held at hy;obtain⟨b,ys,rfl,hb,_⟩:=hy
    cases rv
    obtain⟨its,_,tb,_⟩:=I.tuple (SqT.of hb);unfold dEq;exact IR i t (show s.heap.IsTuple b its.toArray from tb) fx
  | str i=>
   unfold Held at hx;subst hx;obtain⟨t,rfl⟩:=ru
   cases d' with
   | int j=>
    unfold Held at hy;subst hy;obtain⟨t',rfl⟩:=rv;unfold dEq;exact CZ i t j t'
   | str j=>
    unfold Held at hy;subst hy;obtain⟨t',rfl⟩:=rv;unfold dEq;exact IN i t j t'
   | tup ds=>
    unfold Held at hy;obtain⟨b,ys,rfl,hb,_⟩:=hy
    cases rv
    obtain⟨its,_,tb,_⟩:=I.tuple (SqT.of hb);unfold dEq;exact IM i t (show s.heap.IsTuple b its.toArray from tb) fx
  | tup ds=>unfold D.depth at hd;omega
 | succ n ih=>
  intro A d d' x y u v hd hA hx hy ru rv;have fx:A.units < cLine:=by omega
  cases d with
  | int i=>exact ih A (.int i) d' x y u v (by unfold D.depth;omega) (by omega) hx hy ru rv
  | str z=>exact ih A (.str z) d' x y u v (by unfold D.depth;omega) (by omega) hx hy ru rv
  | tup ds=>
   have nv:=hx;unfold Held at hx;obtain⟨a,xs,rfl,ha,bA⟩:=hx
   cases ru
   obtain⟨its,cG,ta,_⟩:=I.tuple (SqT.of ha)
   cases d' with
   | int j=>
    unfold Held at hy;subst hy;obtain⟨t',rfl⟩:=rv;unfold dEq;exact IL j t' (show s.heap.IsTuple a its.toArray from ta) fx
   | str j=>
    unfold Held at hy;subst hy;obtain⟨t',rfl⟩:=rv;unfold dEq;exact IK j t' (show s.heap.IsTuple a its.toArray from ta) fx
   | tup aF=>
    have uK:=hy;unfold Held at hy;obtain⟨b,ys,rfl,hb,bJ⟩:=hy
    cases rv
    by_cases gG:a=b
    .subst gG
     rw[kA.mpr (JU nv uK)];exact IP _
    .obtain⟨aZ,c7,tb,_⟩:=I.tuple (SqT.of hb)
     refine IQ gG ?_;have l1:=bA.length;have l2:=bJ.length;have l3:=cG.length;have l4:=c7.length;have key:=CY (A:=A) (s:=s) (e:=fun j=>dEq (ds.getD j (.int 0)) (aF.getD j (.int 0))) (show s.heap.IsTuple a its.toArray from ta) (show s.heap.IsTuple b aZ.toArray from tb) (by omega) (fun j h1 h2=>by
      have hj:j < ds.length:=by
       have:j < its.length:=by simpa using h1
       omega
      have ft:j < aF.length:=by
       have:j < aZ.length:=by simpa using h2
       omega
      have ej:ds[j]?=some ds[j]:=aK hj;obtain⟨x',cE,gx⟩:=bA.get ej;obtain⟨y',dE,gy⟩:=bJ.get (aK ft);obtain⟨u',nC,tM⟩:=cG.get cE;obtain⟨v',iN,tL⟩:=c7.get dE;have eu:its.toArray[j]=u':=by
       have:=(bI.mp nC).2;simpa using this
      have ev:aZ.toArray[j]=v':=by
       have:=(bI.mp iN).2;simpa using this
      rw[eu,ev];unfold D.depth at hd;have g1:ds.getD j (.int 0)=ds[j]:=by simp[hj]
      have g2:aF.getD j (.int 0)=aF[j]:=by simp[ft]
      rw[g1,g2];exact ih A.in1 ds[j] aF[j] x' y' u' v' (by have:=D.depthL_get ej;omega) (by show A.units+1+n < cLine;omega) gx gy tM tL)
     have e:((bT (min its.toArray.size aZ.toArray.size)).all (fun j=>dEq (ds.getD j (.int 0)) (aF.getD j (.int 0))) && its.toArray.size == aZ.toArray.size)=dEqL ds aF:=by
      have e1:its.toArray.size=ds.length:=by simp;omega
      have e2:aZ.toArray.size=aF.length:=by simp;omega
      rw[e1,e2];exact yN ds aF
     rw[e]at key;unfold dEq;exact key
theorem yx(I:Inv X ad σ H s){n:Nat}{A:aL}{ds aF:List D}{xs ys:List V}{its aZ:List ae}(hd:D.depthL ds<=n)(hA:A.units+n < cLine)(bA:HeldL H ds xs)(bJ:HeldL H aF ys)(cG:Vals xs its)(c7:Vals ys aZ):
  ∀j (h1:j < its.toArray.size) (h2:j < aZ.toArray.size),oq A s its.toArray[j] aZ.toArray[j] (dEq (ds.getD j (.int 0)) (aF.getD j (.int 0))):=fun j h1 h2=>by
 have l1:=bA.length
 have l2:=bJ.length
 have l3:=cG.length
 have l4:=c7.length
 have hj:j < ds.length:=by
  have:j < its.length:=by simpa using h1
  omega
 have ft:j < aF.length:=by
  have:j < aZ.length:=by simpa using h2
  omega
 have ej:ds[j]?=some ds[j]:=aK hj
 obtain⟨x',cE,gx⟩:=bA.get ej
 obtain⟨y',dE,gy⟩:=bJ.get (aK ft)
 obtain⟨u',nC,tM⟩:=cG.get cE
 obtain⟨v',iN,tL⟩:=c7.get dE
 have eu:its.toArray[j]=u':=by
  have:=(bI.mp nC).2;simpa using this
 have ev:aZ.toArray[j]=v':=by
  have:=(bI.mp iN).2;simpa using this
 rw[eu,ev]
 have g1:ds.getD j (.int 0)=ds[j]:=by simp[hj]
 have g2:aF.getD j (.int 0)=aF[j]:=by simp[ft]
 rw[g1,g2]
 exact jct I n A ds[j] aF[j] x' y' u' v' (by have:=D.depthL_get ej;omega) hA gx gy tM tL
theorem jji(n:Nat)(hu:X.A.units+1+n < cLine):OpR X (dw .Eq) (fun x y H Q=>∃a b xs ys ds aF,x=.ref a/\y=.ref b/\H a=some (.tup xs)/\H b=some (.tup ys)/\D.depthL ds<=n/\HeldL H ds xs/\HeldL H aF ys/\Q (.bl (decide (ds=aF))) H):=by
 intro ad s σ H x y v u Q I rx ry h;obtain⟨a,b,xs,ys,ds,aF,rfl,rfl,ha,hb,hd,bA,bJ,q⟩:=h
 cases rx;cases ry
 obtain⟨its,cG,ta,_⟩:=I.tuple (SqT.of ha);obtain⟨aZ,c7,tb,_⟩:=I.tuple (SqT.of hb);have l1:=bA.length;have l2:=bJ.length;have l3:=cG.length;have l4:=c7.length;have key:=CY (A:=X.A) (s:=s) (e:=fun j=>dEq (ds.getD j (.int 0)) (aF.getD j (.int 0))) (show s.heap.IsTuple a its.toArray from ta) (show s.heap.IsTuple b aZ.toArray from tb) (by omega) (yx I (A:=X.A.in1) hd (by show X.A.units+1+n < cLine;exact hu) bA bJ cG c7);have e:((bT (min its.toArray.size aZ.toArray.size)).all (fun j=>dEq (ds.getD j (.int 0)) (aF.getD j (.int 0))) && its.toArray.size == aZ.toArray.size)=decide (ds=aF):=by
  have e1:its.toArray.size=ds.length:=by simp;omega
  have e2:aZ.toArray.size=aF.length:=by simp;omega
  rw[e1,e2,yN,Yx]
 rw[e]at key;exact key X.prog X.w X.xe _ ⟨.bl (decide (ds=aF)),H,I,rfl,q⟩
theorem KJ(n:Nat)(hu:X.A.units+1+n < cLine):OpR X (dw .NotEq) (fun x y H Q=>∃a b xs ys ds aF,x=.ref a/\y=.ref b/\H a=some (.tup xs)/\H b=some (.tup ys)/\D.depthL ds<=n/\HeldL H ds xs/\HeldL H aF ys/\Q (.bl (!decide (ds=aF))) H):=by
 intro ad s σ H x y v u Q I rx ry h;obtain⟨a,b,xs,ys,ds,aF,rfl,rfl,ha,hb,hd,bA,bJ,q⟩:=h
 cases rx;cases ry
 obtain⟨its,cG,ta,_⟩:=I.tuple (SqT.of ha);obtain⟨aZ,c7,tb,_⟩:=I.tuple (SqT.of hb);have l1:=bA.length;have l2:=bJ.length;have l3:=cG.length;have l4:=c7.length;have key:=CW.tuples (A:=X.A) (s:=s) (e:=fun j=>dEq (ds.getD j (.int 0)) (aF.getD j (.int 0))) (show s.heap.IsTuple a its.toArray from ta) (show s.heap.IsTuple b aZ.toArray from tb) (by omega) (yx I (A:=X.A.in1) hd (by show X.A.units+1+n < cLine;exact hu) bA bJ cG c7);have e:(!((bT (min its.toArray.size aZ.toArray.size)).all (fun j=>dEq (ds.getD j (.int 0)) (aF.getD j (.int 0))) && its.toArray.size == aZ.toArray.size))=!decide (ds=aF):=by
  have e1:its.toArray.size=ds.length:=by simp;omega
  have e2:aZ.toArray.size=aF.length:=by simp;omega
  rw[e1,e2,yN,Yx]
 rw[e]at key;exact key X.prog X.w X.xe _ ⟨.bl (!decide (ds=aF)),H,I,rfl,q⟩
theorem jcC{ds aF:List D}(h:ds.length=aF.length):((bT ds.length).all fun j=>dEq (ds.getD j (.int 0)) (aF.getD j (.int 0)))=decide (ds=aF):=by
 have:=yN ds aF;rw[<- h,Nat.min_self,beq_self_eq_true,Bool.and_true,Yx]at this;exact this
theorem jgn(n:Nat)(hu:X.A.units+1+n < cLine):OpR X (dw .Eq) (fun x y H Q=>∃a b xs ys ds aF,x=.ref a/\y=.ref b/\H a=some (.lst xs)/\H b=some (.lst ys)/\D.depthL ds<=n/\HeldL H ds xs/\HeldL H aF ys/\Q (.bl (decide (ds=aF))) H):=by
 intro ad s σ H x y v u Q I rx ry h;obtain⟨a,b,xs,ys,ds,aF,rfl,rfl,ha,hb,hd,bA,bJ,q⟩:=h
 cases rx;cases ry
 obtain⟨its,cG,ta,_⟩:=I.list (SqL.of ha);obtain⟨aZ,c7,tb,_⟩:=I.list (SqL.of hb);have l1:=bA.length;have l2:=bJ.length;have l3:=cG.length;have l4:=c7.length;have e1:its.toArray.size=ds.length:=by simp;omega
 have e2:aZ.toArray.size=aF.length:=by simp;omega
 by_cases hl:ds.length=aF.length
 .have key:=IJ.lists (A:=X.A) (s:=s) (e:=fun j=>dEq (ds.getD j (.int 0)) (aF.getD j (.int 0))) ta.isList tb.isList (by rw[e1,e2,hl]) (by omega) (yx I (A:=X.A.in1) hd (by show X.A.units+1+n < cLine;exact hu) bA bJ cG c7)
  rw[e1,jcC hl]at key;exact key X.prog X.w X.xe _ ⟨.bl (decide (ds=aF)),H,I,rfl,q⟩
 .have key:=IJ.lists_lengths (A:=X.A) (s:=s) ta.isList tb.isList (by rw[e1,e2];simpa using hl) (by omega)
  rw[MS (fun z=>hl (by rw[z]))]at q;exact key X.prog X.w X.xe _ ⟨.bl false,H,I,rfl,q⟩
theorem jcf(n:Nat)(hu:X.A.units+1+n < cLine):OpR X (dw .NotEq) (fun x y H Q=>∃a b xs ys ds aF,x=.ref a/\y=.ref b/\H a=some (.lst xs)/\H b=some (.lst ys)/\D.depthL ds<=n/\HeldL H ds xs/\HeldL H aF ys/\Q (.bl (!decide (ds=aF))) H):=by
 intro ad s σ H x y v u Q I rx ry h;obtain⟨a,b,xs,ys,ds,aF,rfl,rfl,ha,hb,hd,bA,bJ,q⟩:=h
 cases rx;cases ry
 obtain⟨its,cG,ta,_⟩:=I.list (SqL.of ha);obtain⟨aZ,c7,tb,_⟩:=I.list (SqL.of hb);have l1:=bA.length;have l2:=bJ.length;have l3:=cG.length;have l4:=c7.length;have e1:its.toArray.size=ds.length:=by simp;omega
 have e2:aZ.toArray.size=aF.length:=by simp;omega
 by_cases hl:ds.length=aF.length
 .have key:=CW.lists (A:=X.A) (s:=s) (e:=fun j=>dEq (ds.getD j (.int 0)) (aF.getD j (.int 0))) ta.isList tb.isList (by rw[e1,e2,hl]) (by omega) (yx I (A:=X.A.in1) hd (by show X.A.units+1+n < cLine;exact hu) bA bJ cG c7)
  rw[e1,jcC hl]at key;exact key X.prog X.w X.xe _ ⟨.bl (!decide (ds=aF)),H,I,rfl,q⟩
 .have key:=CW.lists_lengths (A:=X.A) (s:=s) ta.isList tb.isList (by rw[e1,e2];simpa using hl) (by omega)
  rw[MS (fun z=>hl (by rw[z]))]at q;exact key X.prog X.w X.xe _ ⟨.bl true,H,I,rfl,q⟩
end
def LikeV(K:aq)(H:Hp):Nat->V->V->Prop
 | 0,x,y=>(∃i,x=.int i/\y=.int i)\/∃z,x=.str z/\y=.str z
 | n+1,x,y=>LikeV K H n x y\/
  (∃a b xs ys,x=.ref a/\y=.ref b/\SqT K H a xs/\SqT K H b ys/\xs.length=ys.length/\∀(j:Nat) x' y',xs[j]?=some x'->ys[j]?=some y'->LikeV K H n x' y')\/
  ∃a b xs ys,x=.ref a/\y=.ref b/\SqL K H a xs/\SqL K H b ys/\xs.length=ys.length/\∀(j:Nat) x' y',xs[j]?=some x'->ys[j]?=some y'->LikeV K H n x' y'
theorem LikeV.up{K:aq}{H:Hp}{n m:Nat}{x y:V}(h:LikeV K H n x y)(hm:n<=m):LikeV K H m x y:=by
 induction hm with
 | refl=>exact h
 | step _ ih=>exact .inl ih
theorem jam:∀{ys:List Str} {its:List ae},Vals (ys.map V.str) its->StrsAre its ys
 | [],_,r=>by cases r;exact .nil
 | y :: ys,_,r=>by
  cases r with
  | cons h t=>
   obtain⟨k,rfl⟩:=h;exact .cons y k (jam t)
theorem jgK{X:Cx}:MtR X "str.join" (fun x xs H Q=>∃(mU:Str) (l:ab) (ys:List Str),x=.str mU/\xs=[.ref l]/\SqL X.K H l (ys.map V.str)/\(ys.map (·.length)).sum+ys.length * mU.length<=16777216/\Q (.str (ly mU ys)) H):=by
 intro ad s σ H x xs v us Q I rx rs h;obtain⟨mU,l,ys,rfl,rfl,hl,hb,q⟩:=h;obtain⟨t,rfl⟩:=rx;obtain⟨u,rfl,ru⟩:=Ja rs
 cases ru
 obtain⟨its,rv,pl,hz⟩:=I.list hl;refine join_list pl.isList (by simpa using jam rv) hb fun t' k=>?_
 exact⟨.str (ly mU ys),H,I.kept (t':=k) fun b o e=>e,⟨t',rfl⟩,q⟩
abbrev zS(v d:ab):HO:=.ext fun h=>h.IsValuesView v d
theorem jda{X:Cx}:MtR X "dict.values" (fun x xs H Q=>∃(d:ab) (kvs:List (Key×V)),x=.ref d/\xs=[]/\H d=some (.dK kvs)/\∀v,H v=none->Q (.ref v) (upd H v (zS v d))):=by
 intro ad s σ H x xs v us Q I rx rs h;obtain⟨d,kvs,rfl,rfl,hd,q⟩:=h
 cases rx
 cases rs
 obtain⟨hz,lo,vs,bv,hD⟩:=I.hok d _ hd;refine oo Lc hD.typeIs PySem.F.entry_dict_values (PySem.F.args_dict_values_1 _) (meets_dict_values (j9 X.prog X.w) d lo) ⟨⟨vs,hD⟩,?_⟩;refine⟨.ref s.heap.objs.size,_,I.laid (t':=s.toks) (fun b u e=>bK _ e) (aD _) (show ObjOk X.prog X.w _ _ _ (zS s.heap.objs.size d) from⟨⟨_,eh _ rfl,rfl,rfl⟩,⟨_,eh _ rfl⟩,fun h1 h2 x k=>?_⟩),rfl,q _ (I.hok.fresh (aD _))⟩;obtain⟨o,e1,e2⟩:=x;exact⟨o,k o e1,e2⟩
theorem jcj:∀{kvs:List (Key×V)} {vs:List (Key×ae)},KV kvs vs->Vals (kvs.map (·.2)) (vs.map (·.2))
 | [],[],_=>.nil
 | p :: r,q :: t,h=>by
  unfold KV at h
  cases h with
  | cons h1 h2=>exact .cons h1.2 (jcj h2)
def jhc(t:TS):TS:=fun D σ H=>∃J:St->Hp->Prop,t { D with nx:=J } σ H/\∀σ' H',J σ' H'->D.nx σ' H'
theorem jf1{X:Cx}{st:aA}{t:TS}(h:PS X st t):PS X st (jhc t):=by
 intro ad s σ H D I q;obtain⟨J,q,k⟩:=q;refine thn (h ad s σ H _ I q) fun f s1 q1=>?_
 cases f with
 | next=>
  obtain⟨σ',H',I',e⟩:=q1;exact⟨σ',H',I',k _ _ e⟩
 | cont=>exact q1
 | brk=>exact q1
 | ret v=>exact q1
end L2
namespace LW
open PySem L2
mutual
theorem jcr{H H':Hp}(e:∀b xs,H b=some (.tup xs)->H' b=some (.tup xs)):∀{d:D} {v:V},Held H d v->Held H' d v
 | .int i,v,h=>by unfold Held at h |-;exact h
 | .str x,v,h=>by unfold Held at h |-;exact h
 | .tup ds,v,h=>by
  unfold Held at h |-;obtain⟨a,xs,e1,e2,e3⟩:=h;exact⟨a,xs,e1,e a _ e2,heldL_tk e e3⟩
theorem heldL_tk{H H':Hp}(e:∀b xs,H b=some (.tup xs)->H' b=some (.tup xs)):∀{ds:List D} {vs:List V},HeldL H ds vs->HeldL H' ds vs
 | [],vs,h=>by unfold HeldL at h |-;exact h
 | d :: ds,vs,h=>by
  unfold HeldL at h |-;obtain⟨v,r,e1,e2,e3⟩:=h;exact⟨v,r,e1,jcr e e2,heldL_tk e e3⟩
end
def TK(G G':Hp):Prop:=∀b xs,G b=some (.tup xs)->G' b=some (.tup xs)
theorem TK.trans{G G1 G2:Hp}(h:TK G G1)(h':TK G1 G2):TK G G2:=fun b xs e=>h' b xs (h b xs e)
theorem TK.same{G G':Hp}(h:Same G G'):TK G G':=fun b xs e=>h b _ e
theorem TK.heldL{G G':Hp}(h:TK G G'){d:List D}{v:List V}(x:HeldL G d v):HeldL G' d v:=heldL_tk h x
theorem TK.held{G G':Hp}(h:TK G G'){d:D}{v:V}(x:Held G d v):Held G' d v:=jcr h x
end LW
namespace L2
open PySem PySem.Spec PyProof.Rows PySem.W
abbrev RD:=St->Hp->D->Prop
abbrev RDL:=St->Hp->List D->Prop
def tHD(R:RD):TE:=fun σ H Q=>∃d,R σ H d/\∀v H',Same H H'->Held H' d v->Q v H'
def jjj(R:RDL):TA:=fun σ H Q=>∃ds,R σ H ds/\∀vs H',Same H H'->HeldL H' ds vs->Q vs H'
structure PD(X:Cx)(e:ag)(R:RD):Prop where
 h:PE X e (tHD R)
 m:∀{σ H H' d},Same H H'->R σ H d->R σ H' d
structure PDs(X:Cx)(es:List ag)(R:RDL):Prop where
 h:PA X es (jjj R)
 m:∀{σ H H' d},Same H H'->R σ H d->R σ H' d
def rV(i:Nat):RD:=fun σ H d=>∃v,σ[i]?=some (some v)/\Held H d v
def rK(c:D):RD:=fun _ _ d=>d=c
def rN:RDL:=fun _ _ ds=>ds=[]
def rC(R:RD)(Rs:RDL):RDL:=fun σ H ds=>∃d r,ds=d :: r/\R σ H d/\Rs σ H r
def rT(R:RDL):RD:=fun σ H d=>∃ds,d=.tup ds/\ds.length<=1000/\R σ H ds
def rE(t:TE):RD:=fun σ H d=>∀G,Same H G->∀Q:VK,(∀v G',Same G G'->Held G' d v->Q v G')->t σ G Q
theorem PE.weak{X:Cx}{e:ag}{t t':TE}(h:PE X e t)(w:∀σ H Q,t' σ H Q->t σ H Q):PE X e t':=fun ad s σ H Q I q=>h ad s σ H Q I (w σ H Q q)
theorem PA.weak{X:Cx}{es:List ag}{t t':TA}(h:PA X es t)(w:∀σ H Q,t' σ H Q->t σ H Q):PA X es t':=fun pos ad s σ H Q I q=>h pos ad s σ H Q I (w σ H Q q)
theorem fQ{a b c}(h:FnScope a b c:=by exact⟨rfl,rfl,rfl,by decide +kernel,rfl,by decide +kernel,by decide +kernel⟩):FnScope a b c:=h
theorem oQ{p q:Prop}(h:p\/q:=by first|exact .inl rfl|exact .inr rfl):p\/q:=h
theorem jju{i:Nat}{v:V}{σ σ':St}{H:Hp}{Q:St->Hp->Prop}(e:σ.set i (some v)=σ')(h:Q σ' H):qm i v σ H Q:=by subst e;exact h
theorem gQ{i:Nat}{v:V}{σ σ':St}{H:Hp}{Q:St->Hp->Prop}(h:Q σ' H)(e:σ.set i (some v)=σ':=by simp only[List.set_cons_succ,List.set_cons_zero];rfl):qm i v σ H Q:=jju e h
theorem jG{t:TS}{D:Ends}{σ σ':St}{H:Hp}(e:σ=σ')(h:t D σ' H):t D σ H:=by subst e;exact h
theorem jk{H:Hp}{p:ab}(h:H p=none)(o:HO):Same H (upd H p o):=fun b u q=>by rw[jD (jo q h)];exact q
theorem zW(H:Hp):Same H H:=fun _ _ e=>e
section
variable {X:Cx}
theorem kn(i:Nat){x:Str}{pos:Pos}(hN:X.N[i]?=some x:=by rfl)(hv:Vis X.env.scope x:=by first | exact Or.inl rfl | exact Or.inr (Or.inl rfl) | exact Or.inr (Or.inr rfl))(hd:(x == ("__debug__" : Str))=false:=by decide)
  (eL:(x == ("__classdict__" : Str))=false:=by decide):PD X (.Name x pos) (rV i):=
 ⟨(jev hN hv hd eL).weak fun σ H Q ⟨d,⟨v,e,hv⟩,q⟩=>⟨v,e,q v H (zW H) hv⟩,fun s ⟨v,e,h⟩=>⟨v,e,h.mono s⟩⟩
theorem zc{i j pos}:PD X (.Constant (.int i) j pos) (rK (.int i)):=⟨jeA.weak fun σ H Q ⟨d,e,q⟩=>by cases e;exact q _ H (zW H) jO,fun _ h=>h⟩
theorem kR{x j pos}:PD X (.Constant (.str x) j pos) (rK (.str x)):=⟨jex.weak fun σ H Q ⟨d,e,q⟩=>by cases e;exact q _ H (zW H) jE,fun _ h=>h⟩
theorem jiT{e:ag}{t:TE}(h:PE X e t):PD X e (rE t):=⟨h.weak fun σ H Q ⟨d,r,q⟩=>r H (zW H) Q q,fun s r G sG Q q=>r G (s.trans sG) Q q⟩
theorem jP:PDs X [] rN:=⟨jeH.weak fun σ H Q ⟨d,e,q⟩=>by cases e;exact q _ H (zW H) jr,fun _ h=>h⟩
theorem jt{e:ag}{es:List ag}{R:RD}{Rs:RDL}(h:PD X e R)(hs:PDs X es Rs)(hp:zu e=true:=by rfl):PDs X (e :: es) (rC R Rs):=by
 refine⟨(jiU h.h hs.h hp).weak fun σ H Q ⟨ds,⟨d,r,e,h1,h2⟩,q⟩=>?_,fun s ⟨d,r,e,h1,h2⟩=>⟨d,r,e,h.m s h1,hs.m s h2⟩⟩;subst e;exact⟨d,h1,fun v H1 s1 hv=>⟨r,hs.m s1 h2,fun vs H2 s2 ny=>q _ _ (s1.trans s2) (je (hv.mono s2) ny)⟩⟩
theorem j5{es:List ag}{R:RDL}{x1}{pos:Pos}(h:PDs X es R):PD X (.Tuple es x1 pos) (rT R):=by
 refine⟨(jew h.h).weak fun σ H Q ⟨d,⟨ds,e,hl,hr⟩,q⟩=>?_,fun s ⟨ds,e,hl,hr⟩=>⟨ds,e,hl,h.m s hr⟩⟩;subst e;refine⟨ds,hr,fun vs H1 s1 ny=>⟨?_,fun p hp=>?_⟩⟩
 .rw[<- ny.length]
  exact cD (jI hl)
 .exact q _ _ (s1.trans (jk hp _)) (jL jf (ny.mono (jk hp _)))
structure QA(X:Cx)(es:List ag)(t:TA):Prop where
 h:PA X es t
structure QE(X:Cx)(e:ag)(t:TE):Prop where
 h:PE X e t
end
end L2
namespace PySem
open Sem (wp)
namespace F
end F
end PySem
namespace L2
open PySem PySem.Spec PyProof.Rows PySem.W
structure MkFn(P:az)(w:aw)(K:aq)(mg:Str->Option ae)(base:aj)(k:Nat)(x:Str)(C:ab)(ps:List Str)(sp:Sp):Prop where
 ex:∃f fd,Mk K C f/\FnOk P w K mg base CX0 k f fd ps sp/\Binds K fd ps []/\mg x=some (.ref C)
end L2
namespace HT
open PySem PySem.Spec PyProof.Rows L2
open PySem.SeqAt
open PySem.AutoSeq1 (wpAny_loadPart')
open PySem.MeetsSeq PySem.MeetsSeq2 PySem.MeetsSeq3
end HT
namespace L2
open PySem PySem.Spec PyProof.Rows
variable {X:Cx}
variable {X:Cx}{pos:Pos}
theorem jgd{X:Cx}{K:aq}{e:ag}{f:Str}{pos:Pos}{ta:TE}(h:PE X e ta)(hb:gO e f X.env (eval e X.env)=eval e X.env)(hK:X.K=K:=by rfl):PE X (.Attribute e f pos) (jfK K ta f):=by subst hK;exact jeB h hb
structure QT(X:Cx)(e:ag)(t:TT):Prop where
 h:PT X e t
structure QW(X:Cx)(e:ag)(t:TT):Prop where
 h:PW X e t
structure QG(X:Cx)(e:ag)(t:TG):Prop where
 h:PG X e t
structure QGs(X:Cx)(e:List ag)(t:TGs):Prop where
 h:PGs X e t
structure QI(X:Cx)(tg e:ag)(t:TI):Prop where
 h:PI X tg e t
structure QO(X:Cx)(e:Option ag)(t:TO):Prop where
 h:PO X e t
structure QC(X:Cx)(op:CmpOp)(a b:ag)(t:TE):Prop where
 h:PC X op a b t
structure QTs(X:Cx)(e:List ag)(t:TT):Prop where
 h:PTs X e t
structure QPs(X:Cx)(pos:Pos)(ks:List (Option ag))(vs:List ag)(t:List (TE×TE)):Prop where
 h:PPs X pos ks vs t
theorem QW.pt{X:Cx}{e:ag}{t:TT}(h:QW X e t):QT X e t:=⟨h.h.pt⟩
theorem jbN{X:Cx}{e:ag}{t:TE}(h:QE X e t)(he:∀eC,isTrue e X.env eC=(do let v <- eC;fW e.pos;holding [v] (truthy v)):=by intro _;rfl):QT X e (tB t):=⟨jhJ h.h he⟩
theorem jfB{X:Cx}{pos:Pos}{o i:ag}{to ti:TE}{t:jg1}(ho:QE X o to)(hi:QE X i ti)(hs:jio X t)
  (ha:∀v,assign (.Subscript o i pos) X.env v=(do
   let ov <- holding [v] (eval o X.env)
   let iv <- holding [v,ov] (eval i X.env)
   fW pos
   holding [v,ov,iv] (wR ov iv v)
   release [v,ov,iv] []):=by intro _;rfl):QG X (.Subscript o i pos) (ji7 to ti t):=⟨jhT ho.h hi.h hs ha⟩
theorem zpv{X:Cx}(i:Nat){x:Str}{pos:Pos}(h1:(Cx.N X)[i]?=some x:=by rfl)(h2:Vis (mJ (Cx.env X)) x:=by first | exact Or.inl rfl | exact Or.inr (Or.inl rfl) | exact Or.inr (Or.inr rfl))(h3:(x == bu "__debug__")=false:=by decide)(h4:(x == bu "__classdict__")=false:=by decide):QE X (Expr.Name x pos) (jcS i):=
 ⟨@pv _ i _ _ h1 h2 h3 h4⟩
theorem jc{X:Cx}{i:Int}{j:Nat}{pos:Pos}:QE X (Expr.Constant (Const.int i) j pos) (tC (V.int i)):=
 ⟨@jeA _ _ _ _⟩
theorem jq{X:Cx}{x:Str}{j:Nat}{pos:Pos}:QE X (Expr.Constant (Const.str x) j pos) (tC (V.str x)):=
 ⟨@jex _ _ _ _⟩
theorem zP{X:Cx}{b:Bool}{j:Nat}{pos:Pos}:QE X (Expr.Constant (Const.bool b) j pos) (tC (V.bl b)):=
 ⟨@jiS _ _ _ _⟩
theorem Z9{X:Cx}{x:Str}{v:V}{u:ae}{pos:Pos}(h1:Gl X x)(h2:Cx.mg X x=none)(h3:cW x=some u)(h4:RelV v u)(h5:x≠bu "__name__":=by decide)(h6:(x == bu "__debug__")=false:=by decide):QE X (Expr.Name x pos) (tC v):=
 ⟨@jgj _ _ _ _ _ h1 h2 h3 h4 h5 h6⟩
theorem js{X:Cx}{a b:ag}{ta tb:TE}{pos:Pos}{op:Operator}{r:R2}(h1:OpR X (gM op) r)(h2:QE X a ta)(h3:QE X b tb):QE X (ag.BinOp a op b pos) (tOp r ta tb):=
 ⟨@jiM _ _ _ _ _ _ _ _ h1 h2.h h3.h⟩
theorem jaY{X:Cx}{a:ag}{ta:TE}{pos:Pos}{op:UnaryOp}{r:V->Hp->VK->Prop}(h1:UnR X (unaryOp op) r)(h2:QE X a ta):QE X (Expr.UnaryOp op a pos) (tUn r ta):=
 ⟨@jiL _ _ _ _ _ _ h1 h2.h⟩
theorem zR{X:Cx}{a b:ag}{ta tb:TE}{pos:Pos}{op:CmpOp}{r:R2}(h1:OpR X (dw op) r)(h2:QE X a ta)(h3:QE X b tb)(h4:gN op b=false):QE X (Expr.Compare a [op] [b] pos) (tOp r ta tb):=
 ⟨@jgh _ _ _ _ _ _ _ _ h1 h2.h h3.h h4⟩
theorem qe{X:Cx}{e:ag}{te:TE}{lo hi:Option ag}{tl th:TO}{pos p2:Pos}{r:V->Option Int->Option Int->Hp->VK->Prop}(h1:SlR X r)(h2:QE X e te)(h3:QO X lo tl)(h4:QO X hi th):QE X (Expr.Subscript e (ag.Slice lo hi none p2) pos) (tSl r te tl th):=
 ⟨@jey _ _ _ _ _ _ _ _ _ _ h1 h2.h h3.h h4.h⟩
theorem jX{X:Cx}{o i:ag}{pos:Pos}{td ty:TE}(h1:xj (Cx.A X)+1 < cLine)(h2:QE X o td)(h3:QE X i ty)(h4:jip i):QE X (Expr.Subscript o i pos) (jhe td ty):=
 ⟨@jgf _ _ _ _ _ _ h1 h2.h h3.h h4⟩
theorem jp{X:Cx}{a b:ag}{ta tb:TE}{pos:Pos}{r:R2}(h1:IxR X r)(h2:QE X a ta)(h3:QE X b tb)(h4:jcD b):QE X (Expr.Subscript a b pos) (tOp r ta tb):=
 ⟨@jiN _ _ _ _ _ _ _ h1 h2.h h3.h h4⟩
theorem jK{X:Cx}{es:List ag}{t:TA}{pos:Pos}(h1:QA X es t):QE X (ag.List es pos) (jiA t):=
 ⟨@jhU _ _ _ _ h1.h⟩
theorem jR{X:Cx}{es:List ag}{t:TA}{pos:Pos}{x1:Nat}(h1:QA X es t):QE X (Expr.Tuple es x1 pos) (jiw t):=
 ⟨@jew _ _ _ _ _ h1.h⟩
theorem qf{X:Cx}{pos:Pos}:QE X (Expr.Dict [] [] pos) jdY:=
 ⟨@jeE _ _⟩
theorem jdE{X:Cx}{pos:Pos}{keys:List (Option ag)}{gn:List ag}{dB:List (TE×TE)}(h1:QPs X pos keys gn dB)(h2:(List.all keys fun x=>LQ x)=true)(h3:lN keys=lN gn)(h4:keys≠[])(h5:lN keys<=15):QE X (Expr.Dict keys gn pos) (jhd dB):=
 ⟨@jge _ _ _ _ _ h1.h h2 h3 h4 h5⟩
theorem jdB{X:Cx}{pos:Pos}:QPs X pos [] [] []:=
 ⟨@jf4 _ _⟩
theorem zk{X:Cx}{pos:Pos}{k v:ag}{ks:List (Option ag)}{vs:List ag}{tk tv:TE}{dB:List (TE×TE)}(h1:QE X k tk)(h2:QE X v tv)(h3:QPs X pos ks vs dB):QPs X pos (some k :: ks) (v :: vs) ((tk,tv) :: dB):=
 ⟨@jes _ _ _ _ _ _ _ _ _ h1.h h2.h h3.h⟩
theorem yF{X:Cx}{scope:cj}{aW tg iter:ag}{ifs:List ag}{pos:Pos}{wi:TI}{g:TG}{tt:TT}{te:TE}(own:List Str)(fr:List Nat)(h1:Cx.calm X=true)(h2:CompOk X scope fr)(h3:QI (Cx.nox X) tg iter wi)(h4:∀(s:af) (H:Hp) (ex:List ab),QG (blk (Cx.nox X) scope own fr s H ex) tg g/\QTs (blk (Cx.nox X) scope own fr s H ex) ifs tt/\QE (blk (Cx.nox X) scope own fr s H ex) aW te)(h5:∀(x:ae),eN iter (Cx.env X) x=pure x:=by intro _;rfl):QE (Cx.nox X) (Expr.ListComp aW [{ target:=tg,iter:=iter,ifs:=ifs,is_async:=0 }] scope pos) (YT own fr wi g tt te):=
 ⟨@jgg _ _ _ _ _ _ _ _ _ _ _ own fr h1 h2 h3.h (fun s H ex=>⟨(h4 s H ex).1.h,(h4 s H ex).2.1.h,(h4 s H ex).2.2.h⟩) h5⟩
theorem jW{X:Cx}{e:ag}{f:Str}{pos:Pos}{ta:TE}(h1:QE X e ta)(h2:gO e f (Cx.env X) (eval e (Cx.env X))=eval e (Cx.env X)):QE X (Expr.Attribute e f pos) (jfK (Cx.K X) ta f):=
 ⟨@jeB _ _ _ _ _ h1.h h2⟩
theorem jh{X:Cx}{k k':Nat}{x:Str}{ps:List Str}{sp:Sp}{e:ag}{es:List ag}{t:TA}{p pos:Pos}(h1:Fn (Cx.prog X) (Cx.w X) (Cx.K X) (Cx.mg X) (Cx.base X) k x ps sp)(h2:Room k' (Cx.A X))(h3:QA X (e :: es) t)(h4:k<=k':=by decide)(h5:Gl X x:=by rfl)(h6:(x == bu "__debug__")=false:=by decide)(h7:List.all (e :: es) zu=true:=by rfl):QE X (Expr.Call (Expr.Name x p) (e :: es) [] pos) (jd1 sp [] E0 t):=
 ⟨@jiO _ _ _ _ _ _ _ _ _ _ _ h1 h2 h3.h h4 h5 h6 h7⟩
theorem qZ{X:Cx}{x:Str}{p pos:Pos}{e:ag}{es:List ag}{t:TA}{id:String}{r:List V->Hp->VK->Prop}(h1:zC X (Value.builtin id) r)(h2:Gl X x)(h3:Cx.mg X x=none)(h4:cW x=some (Value.builtin id))(h5:QA X (e :: es) t)(h6:List.all (e :: es) zu=true:=by rfl)(h7:x≠bu "__name__":=by decide)(h8:(x == bu "__debug__")=false:=by decide):QE X (Expr.Call (Expr.Name x p) (e :: es) [] pos) (tCB r t):=
 ⟨@jiQ _ _ _ _ _ _ _ _ _ h1 h2 h3 h4 h5.h h6 h7 h8⟩
theorem ym{X:Cx}{x:Str}{p pos:Pos}{e:ag}{es:List ag}{t:TA}{T:String}{r:List V->Hp->VK->Prop}(h1:zC X (Value.type T) r)(h2:Gl X x)(h3:Cx.mg X x=none)(h4:cW x=some (Value.type T))(h5:QA X (e :: es) t)(h6:List.all (e :: es) zu=true:=by rfl)(h7:x≠bu "__name__":=by decide)(h8:(x == bu "__debug__")=false:=by decide):QE X (Expr.Call (Expr.Name x p) (e :: es) [] pos) (tCB r t):=
 ⟨@jiP _ _ _ _ _ _ _ _ _ h1 h2 h3 h4 h5.h h6 h7 h8⟩
theorem yR{X:Cx}{o e f:ag}{cC bN:Pos}{td ty tx:TE}(h1:xj (Cx.A X)+1 < cLine)(h2:QE X o td)(h3:QE X e ty)(h4:QE X f tx)(h5:M2 X o (bu "get") cC e f bN):QE X (Expr.Call (Expr.Attribute o (bu "get") cC) [e,f] [] bN) (jdZ td ty tx):=
 ⟨@jeF _ _ _ _ _ _ _ _ _ h1 h2.h h3.h h4.h h5⟩
theorem kg{X:Cx}{o e:ag}{es:List ag}{to:TE}{t:TA}{name:Str}{cC bN:Pos}{T id:String}{r:V->List V->Hp->VK->Prop}(h1:wY T)(h2:Slot T name id)(h3:typeOf (Value.builtin id)=pure (Value.type "method_descriptor"))(h4:MtR X id r)(h5:QE X o to)(h6:QA X (e :: es) t)(h7:gO o name (Cx.env X) (eval o (Cx.env X))=eval o (Cx.env X):=by rfl)(h8:(((List.all (eO bN (bO (e :: es) (Cx.env X))) fun x=>!Prod.fst x) && List.all (backToKw bN (Cw [] (Cx.env X))) fun x=>LQ (Prod.fst x)) && decide ((lN (e :: es)+lN ([]:List IY)+if List.isEmpty ([]:List IY)=true then 0 else 1) < 30))=true:=by rfl)(h9:(Pos.endLine cC == lz bN)=true:=by rfl)(i0:bO (e :: es) (Cx.env X)=(false,eval e (Cx.env X)) :: bO es (Cx.env X):=by rfl)(GN:(List.any (eO bN (bO es (Cx.env X))) fun x=>Prod.fst x)=false:=by rfl):QE X (Expr.Call (Expr.Attribute o name cC) (e :: es) [] bN) (tBM (Cx.K X) T r to t):=
 ⟨@jiR _ _ _ _ _ _ _ _ _ _ _ _ h1 h2 h3 h4 h5.h h6.h h7 h8 h9 i0 GN⟩
theorem Zm{X:Cx}{o:ag}{to:TE}{name:Str}{cC bN:Pos}{T id:String}{r:V->List V->Hp->VK->Prop}(h1:wY T)(h2:Slot T name id)(h3:typeOf (Value.builtin id)=pure (Value.type "method_descriptor"))(h4:MtR X id r)(h5:QE X o to)(h6:gO o name (Cx.env X) (eval o (Cx.env X))=eval o (Cx.env X):=by rfl)(h7:(Pos.endLine cC == lz bN)=true:=by rfl):QE X (Expr.Call (Expr.Attribute o name cC) [] [] bN) (jiD (Cx.K X) T r to):=
 ⟨@jhV _ _ _ _ _ _ _ _ _ h1 h2 h3 h4 h5.h h6 h7⟩
theorem Zl{X:Cx}{a:ag}{pos:Pos}{tA:TT}(h1:QT X a tA):QT X (Expr.UnaryOp UnaryOp.Not a pos) (jiz tA):=
 ⟨@jhK _ _ _ _ h1.h⟩
theorem jC{X:Cx}{a b:ag}{ta tb:TE}{pos:Pos}{op:CmpOp}{r:R2}(h1:OpR X (dw op) r)(h2:QE X a ta)(h3:QE X b tb)(h4:gN op b=false):QT X (Expr.Compare a [op] [b] pos) (jg7 (tOp r ta tb)):=
 ⟨@jfW _ _ _ _ _ _ _ _ h1 h2.h h3.h h4⟩
theorem jfA{X:Cx}{a b:ag}{pos:Pos}{op:CmpOp}{t:TE}(h1:QC X op a b t)(h2:gN op b=false:=by rfl):QT X (Expr.Compare a [op] [b] pos) (tB t):=
 ⟨@jhL _ _ _ _ _ _ h1.h h2⟩
theorem KP{X:Cx}{a b:ag}{pos:Pos}{tA mQ:TT}{yB:List ag}(h1:QT X a tA)(h2:QW X (Expr.BoolOp BoolOp.Or (b :: yB) pos) mQ):QW X (Expr.BoolOp BoolOp.Or (a :: b :: yB) pos) (tOr tA mQ):=
 ⟨@jiJ _ _ _ _ _ _ _ h1.h h2.h⟩
theorem KB{X:Cx}{a:ag}{pos:Pos}{tA:TT}(h1:QT X a tA):QW X (Expr.BoolOp BoolOp.Or [a] pos) tA:=
 ⟨@jhG _ _ _ _ h1.h⟩
theorem qS{X:Cx}:QO X none jbS:=
 ⟨@jf6 _⟩
theorem qj{X:Cx}{e:ag}{te:TE}(h1:QE X e te):QO X (some e) (jg9 te):=
 ⟨@jf5 _ _ _ h1.h⟩
theorem jaZ{X:Cx}{o i:ag}{td ty:TE}(h1:xj (Cx.A X)+1 < cLine)(h2:QE X i ty)(h3:QE X o td):QC X CmpOp.NotIn i o (jbT ty td):=
 ⟨@jc0 _ _ _ _ _ h1 h2.h h3.h⟩
theorem yl{X:Cx}{tg a:ag}{ta:TA}{p pos:Pos}(h1:Gl X (bu "range"))(h2:Cx.mg X (bu "range")=none)(h3:QA X [a] ta)(h4:bO [a] (Cx.env X)=[(false,eval a (Cx.env X))]:=by rfl):QI X tg (Expr.Call (Expr.Name (bu "range") p) [a] [] pos) (jhm ta):=
 ⟨@jcY _ _ _ _ _ _ h1 h2 h3.h h4⟩
theorem ko{X:Cx}{tg l:ag}{tl:TE}(h1:QE X l tl):QI X tg l (Y9 (Cx.K X) tl):=
 ⟨@jf7 _ _ _ _ h1.h⟩
theorem KQ{X:Cx}{oe:List ag}{x1:Nat}{tp:Pos}{a:ag}{ta:TA}{p pos:Pos}(h1:Gl X (bu "enumerate"))(h2:Cx.mg X (bu "enumerate")=none)(h3:QA X [a] ta)(h4:bO [a] (Cx.env X)=[(false,eval a (Cx.env X))]:=by rfl):QI X (Expr.Tuple oe x1 tp) (Expr.Call (Expr.Name (bu "enumerate") p) [a] [] pos) (jhn (Cx.K X) ta):=
 ⟨@jf8 _ _ _ _ _ _ _ _ h1 h2 h3.h h4⟩
theorem jdC{X:Cx}{tg l:ag}{tl:TE}(h1:QE X l tl):QI X tg l (jho tl):=
 ⟨@jf9 _ _ _ _ h1.h⟩
theorem jw{X:Cx}{pos:Pos}{i:Nat}{x:Str}{e:ag}{te:TE}{c9:Pos}(h1:ff (Cx.N X))(h2:(Cx.N X)[i]?=some x)(h3:L2.Loc (mJ (Cx.env X)) x)(h4:QE X e te)(h5:gL e (some (Expr.Name x c9)) (lz pos) (Cx.env X)=pure false:=by rfl)(h6:Cx.fn X x=true\/gX x (C2 (mJ (Cx.env X)))=some NameKind.local:=by first | exact .inl rfl | exact .inr rfl | assumption):QS X (Stmt.Assign [Expr.Name x c9] e pos) (Zr te (qm i)):=
 ⟨@jhM _ _ _ _ _ _ _ h1 h2 h3 h4.h h5 h6⟩
theorem yE{X:Cx}{scope:cj}{aW tg iter:ag}{ifs:List ag}{pos:Pos}{wi:TI}{g:TG}{tt:TT}{te:TE}{i:Nat}{y:Str}{py mS:Pos}(h1:ff (Cx.N X))(h2:(Cx.N X)[i]?=some y)(h3:L2.Loc (mJ (Cx.env X)) y)(own:List Str)(fr:List Nat)(h4:Cx.calm X=true)(h5:CompOk X scope fr)(h6:QI (Cx.nox X) tg iter wi)(h7:∀(s:af) (H:Hp) (ex:List ab),QG (blk (Cx.nox X) scope own fr s H ex) tg g/\QTs (blk (Cx.nox X) scope own fr s H ex) ifs tt/\QE (blk (Cx.nox X) scope own fr s H ex) aW te)(h8:∀(x:ae),eN iter (Cx.env X) x=pure x:=by intro _;rfl)(h9:gL (Expr.ListComp aW [{ target:=tg,iter:=iter,ifs:=ifs,is_async:=0 }] scope pos) (some (Expr.Name y py)) (lz mS) (Cx.env X)=pure true:=by rfl)(i0:Cx.fn X y=true\/gX y (C2 (mJ (Cx.env X)))=some NameKind.local:=by first | exact .inl rfl | exact .inr rfl | assumption):QS (Cx.nox X) (Stmt.Assign [Expr.Name y py] (Expr.ListComp aW [{ target:=tg,iter:=iter,ifs:=ifs,is_async:=0 }] scope pos) mS) (Zr (YT own fr wi g tt te) (qm i)):=
 ⟨@jbi _ _ _ _ _ _ _ _ _ _ _ _ _ _ _ h1 h2 h3 own fr h4 h5 h6.h (fun s H ex=>⟨(h7 s H ex).1.h,(h7 s H ex).2.1.h,(h7 s H ex).2.2.h⟩) h8 h9 i0⟩
theorem kx{X:Cx}{o i value:ag}{pos c9:Pos}{td ty tv:TE}(h1:xj (Cx.A X)+1 < cLine)(h2:QE X o td)(h3:QE X i ty)(h4:QE X value tv)(h5:gL value (some (Expr.Subscript o i c9)) (lz pos) (Cx.env X)=pure false):QS X (Stmt.Assign [Expr.Subscript o i c9] value pos) (jhh td ty tv):=
 ⟨@jf3 _ _ _ _ _ _ _ _ _ h1 h2.h h3.h h4.h h5⟩
theorem qM{X:Cx}{o value:ag}{f:Str}{pos c9:Pos}{ta tv:TE}(h1:QE X o ta)(h2:QE X value tv)(h3:gL value (some (Expr.Attribute o f c9)) (lz pos) (Cx.env X)=pure false):QS X (Stmt.Assign [Expr.Attribute o f c9] value pos) (jiF (Cx.K X) ta tv f):=
 ⟨@jhQ _ _ _ _ _ _ _ _ h1.h h2.h h3⟩
theorem zd{X:Cx}{pos:Pos}{tg e:ag}{te:TE}{g:TG}(h1:QE X e te)(h2:QG X tg g)(h3:wP [tg] e (lz pos) (Cx.env X)=pure false:=by rfl)(h4:wQ [tg] e (Cx.env X)=pure none:=by rfl)(h5:xB (fun x=>Prod.snd x) (fY [tg] (Cx.env X))=[assign tg (Cx.env X)]:=by rfl):QS X (Stmt.Assign [tg] e pos) (Zr te g):=
 ⟨@jhR _ _ _ _ _ _ h1.h h2.h h3 h4 h5⟩
theorem jB{X:Cx}{e:ag}{te:TE}{pos:Pos}(h1:QE X e te):QS X (aA.Return (some e) pos) (jhy te):=
 ⟨@jhN _ _ _ _ h1.h⟩
theorem jN{X:Cx}{t u:TS}{pos:Pos}{c:ag}{a b:List aA}{tc:TT}(h1:QT X c tc)(h2:QSs X a t)(h3:QSs X b u):QS X (aA.If c a b pos) (jiB tc t u):=
 ⟨@jiK _ _ _ _ _ _ _ _ h1.h h2.h h3.h⟩
theorem kL{X:Cx}{tg iter:ag}{body:List aA}{wi:TI}{g:TG}{tb:TS}{pos:Pos}(h1:PassesOwn (ai (Cx.prog X) (Cx.w X)) (Cx.A X) (Cx.env X) (Cx.xe X))(h2:Cx.calm X=true)(h3:QI X tg iter wi)(h4:QG X tg g)(h5:QSs X body tb)(h6:∀(x:ae),eN iter (Cx.env X) x=pure x:=by intro _;rfl):QS X (aA.For tg iter body [] pos) (jiC wi g tb):=
 ⟨@jhP _ _ _ _ _ _ _ _ h1 h2 h3.h h4.h h5.h h6⟩
theorem jdA{X:Cx}{st:aA}{t:TS}(h1:QS X st t):QS X st (jg6 (Cx.H₀ X) t):=
 ⟨@jfZ _ _ _ h1.h⟩
theorem jA{X:Cx}{e:ag}{te:TE}{pos:Pos}(h1:QE X e te)(h2:gL e none (lz pos) (Cx.env X)=pure false:=by rfl):QS X (aA.Expr e pos) (jdW te):=
 ⟨@jf2 _ _ _ _ h1.h h2⟩
theorem jx{X:Cx}{pos:Pos}{i:Nat}{x:Str}(h1:ff (Cx.N X))(h2:(Cx.N X)[i]?=some x)(h3:L2.Loc (mJ (Cx.env X)) x)(h4:Cx.fn X x=true\/gX x (C2 (mJ (Cx.env X)))=some NameKind.local:=by first | exact .inl rfl | exact .inr rfl | assumption):QG X (Expr.Name x pos) (qm i):=
 ⟨@jgb _ _ _ _ h1 h2 h3 h4⟩
theorem kH{X:Cx}{pos:Pos}{es:List ag}{k:Nat}{t:TGs}{n:Nat}(h1:Cx.calm X=true)(h2:QGs X es t)(h3:lN (fY es (Cx.env X))=n:=by rfl)(h4:List.findIdx? (fun x=>Prod.fst x) (fY es (Cx.env X))=none:=by rfl):QG X (Expr.Tuple es k pos) (ji6 (Cx.K X) n t):=
 ⟨@jhS _ _ _ _ _ _ h1 h2.h h3 h4⟩
theorem ky{X:Cx}:QGs X [] ji8:=
 ⟨@jga _⟩
theorem jz{X:Cx}{e:ag}{es:List ag}{t:TG}{u:TGs}(h1:QG X e t)(h2:QGs X es u)(h3:xB (fun x=>Prod.snd x) (fY (e :: es) (Cx.env X))=assign e (Cx.env X) :: xB (fun x=>Prod.snd x) (fY es (Cx.env X)):=by rfl):QGs X (e :: es) (jhq t u):=
 ⟨@jeu _ _ _ _ _ h1.h h2.h h3⟩
theorem jJ{X:Cx}:QSs X [] jha:=
 ⟨@jfY _⟩
theorem ji{X:Cx}{st:aA}{t:TS}(h1:QS X st t):QSs X [st] t:=
 ⟨@jfX _ _ _ h1.h⟩
theorem jd{X:Cx}{st:aA}{yB:List aA}{t u:TS}(h1:QS X st t)(h2:QSs X yB u):QSs X (st :: yB) (jV t u):=
 ⟨@jeo _ _ _ _ _ h1.h h2.h⟩
theorem zo{X:Cx}:QTs X [] Zq:=
 ⟨@jfV _⟩
theorem Z7{X:Cx}{c:ag}{t:TT}(h1:QT X c t):QTs X [c] t:=
 ⟨@jfU _ _ _ h1.h⟩
theorem jb{X:Cx}:QA X [] jdV:=
 ⟨@jeH _⟩
theorem ja{X:Cx}{e:ag}{es:List ag}{te:TE}{t:TA}(h1:QE X e te)(h2:QA X es t)(h3:zu e=true:=by rfl):QA X (e :: es) (jbU te t):=
 ⟨@jiU _ _ _ _ _ h1.h h2.h h3⟩
theorem jdD{X:Cx}{K:aq}{e:ag}{f:Str}{pos:Pos}{ta:TE}(h1:QE X e ta)(h2:gO e f (Cx.env X) (eval e (Cx.env X))=eval e (Cx.env X))(h3:Cx.K X=K:=by rfl):QE X (Expr.Attribute e f pos) (jfK K ta f):=
 ⟨@jgd _ _ _ _ _ _ h1.h h2 h3⟩
theorem Z8{X:Cx}{x:Str}{v:V}{u:ae}{pos:Pos}(h1:Gl X x)(h2:Cx.mg X x=some u)(h3:RelV v u)(h4:(x == bu "__debug__")=false:=by decide):QE X (Expr.Name x pos) (tC v):=
 ⟨@jgc _ _ _ _ _ h1 h2 h3 h4⟩
theorem Js{X:Cx}{st:aA}{t:TS}(h:QS X st t):QS X st (jhc t):=⟨jf1 h.h⟩
theorem Fun.okZ{P:az}{w:aw}{K:aq}{mg:Str->Option ae}{base:aj}{x bw:Str}{st:aA}{f:ab}{fd:aH}{N ps:List Str}{k:Nat}{sp:Sp}(F:Fun K x bw st f fd)(S:FnScope N ps (jm st))(len:∀vs H Q E,sp vs H Q E->vs.length=ps.length)
  (nS:∀(au:ae) (A:aL) (outer:List Env) (s:af) (H:Hp) (vs:List V) (Q:VK) (E:XK),Room k (A.deeper (envOfC bw (jm st) s.heap.objs.size f au))->sp vs H Q E->
   ∃t,QSs (y9 CX0 P w K mg base N bw (jm st) f au A outer s H E).nox (qR st) t/\t { nx:=fun _ H'=>Q .non H',rt:=Q } (start N vs) H):FnOk P w K mg base CX0 (k+1) f fd ps sp:=
 F.ok S len fun au A outer s H vs Q E hr h=>let ⟨t,a,b⟩:=nS au A outer s H vs Q E hr h;⟨t,a.h,b⟩
theorem zp{X:Cx}{e:ag}{t:TE}(h:QE X e t):PD X e (rE t):=jiT h.h
theorem zpd{X:Cx}{e:ag}{R:RD}(h:PD X e R):QE X e (tHD R):=⟨h.h⟩
open PySem PySem.Spec PyProof.Rows PySem.W
def SetAtS(prog:az)(w:aw)(h:aj)(a:ab)(led:Bool)(σ:List Str):Prop:=∃(es:Array (Int×ae)) (ep:Nat) (t:iA),
 h.get? a=some { cls:=.type "set",dict:=none,data:=.set es ep t }/\ElemsOf (HP prog w) es.toList/\(∃l:List Str,StrsAre (es.toList.map (·.2)) l/\l.Perm σ)/\es.size < scanBound/\t.fits es.size=true/\TabOk led t
end L2
namespace PySem
end PySem
namespace L2
open PySem PySem.Spec PySem.Calls PyProof.Rows PySem.W
end L2
namespace PySem
end PySem
namespace L2
open PySem PySem.Spec PySem.Calls PyProof.Rows PySem.W
def jdv(m:Nat):Prop:=m=7\/m=15\/m=31\/m=63
structure SmS(prog:az)(w:aw)(h:aj)(a:ab)(led:Bool)(σ:List Str)(es:Array (Int×ae))(ep:Nat)(t:iA):Prop where
 o:h.get? a=some (jeg es ep t)
 el:ElemsOf (HP prog w) es.toList
 pm:∃l:List Str,StrsAre (es.toList.map (·.2)) l/\l.Perm σ
 fit:t.fits es.size=true
 tab:TabOk led t
 sm:jdv t.mask
theorem SmS.len{prog:az}{w:aw}{h:aj}{a:ab}{led:Bool}{σ:List Str}{es:Array (Int×ae)}{ep:Nat}{t:iA}(x:SmS prog w h a led σ es ep t):es.size=σ.length:=by
 obtain⟨l,h1,h2⟩:=x.pm;have:=h1.length;rw[aB,dA]at this;rw[this,h2.length_eq]
end L2
namespace PySem.F
end PySem.F
namespace L2
open PySem PySem.Spec PyProof.Rows PySem.W
section
variable {prog:az}{w:aw}{A:aL}{E:ae->af->Prop}{s:af}
theorem SetAtS.type{h:aj}{a:ab}{led:Bool}{σ:List Str}(x:SetAtS prog w h a led σ):∃es ep t,h.get? a=some (jeg es ep t)/\t.fits es.size=true:=by
 obtain⟨es,ep,t,e,_,_,_,hf,_⟩:=x;exact⟨es,ep,t,e,hf⟩
end
end L2
namespace LW
open PySem L2
theorem JA{n:Nat}(h:n<=1000):n<=aE:=cD (jI h)
theorem sm{n:Nat}(h:n.ble 1000=true):n<=aE:=JA (aX h)
inductive Tm where
 | is (x:Str) | at_ (r x:Str) (d:Int)
inductive Bd where
 | is (x:Str) | row (r:Str)
inductive Cl where
 | least (a b:Tm) (c:Int) | each (t:Str) (td:Int) (u:Str) (ud:Int) (r way:Str) (b:Bd) (c:Int) | rise (t:Str) (td:Int) (u:Str) (ud:Int) (r:Str)
inductive Sm where
 | set (x:Str) (t:Tm) (c:Int) | put (r x:Str) (d:Int) (t:Tm) (c:Int) | any (x:Str) | claim (C:Cl) | call (x f:Str) (as rs:List Str)
def plD(x:Str)(d:Int):D:=.tup [.str x,.int d]
def Tm.toD:Tm->D
 | .is x=>.tup [.str "is",.str x]
 | .at_ r x d=>.tup [.str "at",.str r,plD x d]
def Bd.toD:Bd->D
 | .is x=>.tup [.str "is",.str x]
 | .row r=>.tup [.str "row",.str r]
def Cl.toD:Cl->D
 | .least a b c=>.tup [.str "least",a.toD,b.toD,.int c]
 | .each t td u ud r way b c=>.tup [.str "each",plD t td,plD u ud,.str r,.str way,b.toD,.int c]
 | .rise t td u ud r=>.tup [.str "rise",plD t td,plD u ud,.str r]
def Tm.ns:Tm->List Str
 | .is x=>[x]
 | .at_ _ x _=>[x]
def Cl.ns:Cl->List Str
 | .least a b _=>a.ns++b.ns
 | .each t _ u _ _ _ b _=>[t,u]++(match b with | .is x=>[x] | .row _=>[])
 | .rise t _ u _ _=>[t,u]
def Sm.ns:Sm->List Str
 | .set x t _=>[x]++t.ns
 | .put _ x _ t _=>[x]++t.ns
 | .any x=>[x]
 | .claim C=>C.ns
 | .call x _ as _=>[x]++as
def Sm.few:Sm->Prop
 | .call _ _ as rs=>as.length<=6/\rs.length<=6
 | _=>True
theorem kc{H:Hp}{x:Int}{v:V}(h:Held H (.int x) v):v=.int x:=by unfold Held at h;exact h
theorem jF{H:Hp}{ds:List D}{v:V}(h:Held H (.tup ds) v):∃a xs,v=.ref a/\H a=some (.tup xs)/\HeldL H ds xs:=by unfold Held at h;exact h
theorem jM{H:Hp}{vs:List V}(h:HeldL H [] vs):vs=[]:=by unfold HeldL at h;exact h
theorem jl{H:Hp}{d:D}{ds:List D}{vs:List V}(h:HeldL H (d :: ds) vs):∃v r,vs=v :: r/\Held H d v/\HeldL H ds r:=by unfold HeldL at h;exact h
theorem jv{H:Hp}{x:Str}{v:V}(h:Held H (.str x) v):v=.str x:=by unfold Held at h;exact h
theorem Jh{H:Hp}{x:Str}{d:Int}{v:V}(h:Held H (plD x d) v):∃a,v=.ref a/\H a=some (.tup [.str x,.int d]):=by
 obtain⟨a,xs,rfl,ha,h1⟩:=jF h;obtain⟨v1,r1,rfl,e1,h2⟩:=jl h1;obtain⟨v2,r2,rfl,e2,h3⟩:=jl h2
 cases jM h3
 cases jv e1
 cases kc e2
 exact⟨a,rfl,ha⟩
theorem jan{H:Hp}{x y:Str}{v:V}(h:Held H (.tup [.str x,.str y]) v):∃a,v=.ref a/\H a=some (.tup [.str x,.str y]):=by
 obtain⟨a,xs,rfl,ha,h1⟩:=jF h;obtain⟨v1,r1,rfl,e1,h2⟩:=jl h1;obtain⟨v2,r2,rfl,e2,h3⟩:=jl h2
 cases jM h3
 cases jv e1
 cases jv e2
 exact⟨a,rfl,ha⟩
theorem zn{H:Hp}{a b:Tm}{c:Int}{v:V}(h:Held H (Cl.least a b c).toD v):∃t va vb,v=.ref t/\H t=some (.tup [.str "least",va,vb,.int c])/\Held H a.toD va/\Held H b.toD vb:=by
 obtain⟨t,xs,rfl,ht,h1⟩:=jF h;obtain⟨v1,r1,rfl,e1,h2⟩:=jl h1;obtain⟨v2,r2,rfl,e2,h3⟩:=jl h2;obtain⟨v3,r3,rfl,e3,h4⟩:=jl h3;obtain⟨v4,r4,rfl,e4,h5⟩:=jl h4
 cases jM h5
 cases jv e1
 cases kc e4
 exact⟨t,v2,v3,rfl,ht,e2,e3⟩
theorem JL{H:Hp}{x y r:Str}{d e:Int}{v:V}(h:Held H (Cl.rise x d y e r).toD v):∃t a b,v=.ref t/\H t=some (.tup [.str "rise",.ref a,.ref b,.str r])/\H a=some (.tup [.str x,.int d])/\H b=some (.tup [.str y,.int e]):=by
 obtain⟨t,xs,rfl,ht,h1⟩:=jF h;obtain⟨v1,r1,rfl,e1,h2⟩:=jl h1;obtain⟨v2,r2,rfl,e2,h3⟩:=jl h2;obtain⟨v3,r3,rfl,e3,h4⟩:=jl h3;obtain⟨v4,r4,rfl,e4,h5⟩:=jl h4
 cases jM h5
 cases jv e1
 cases jv e4
 obtain⟨a,rfl,ha⟩:=Jh e2;obtain⟨b,rfl,hb⟩:=Jh e3;exact⟨t,a,b,rfl,ht,ha,hb⟩
theorem yg{H:Hp}{x y r way:Str}{d e c:Int}{bd:Bd}{v:V}(h:Held H (Cl.each x d y e r way bd c).toD v):∃t a b vb,v=.ref t/\H t=some (.tup [.str "each",.ref a,.ref b,.str r,.str way,.ref vb,.int c])/\H a=some (.tup [.str x,.int d])/\H b=some (.tup [.str y,.int e])/\H vb=some (.tup (match bd with | .is z=>[.str "is",.str z] | .row z=>[.str "row",.str z])):=by
 obtain⟨t,xs,rfl,ht,h1⟩:=jF h;obtain⟨v1,r1,rfl,e1,h2⟩:=jl h1;obtain⟨v2,r2,rfl,e2,h3⟩:=jl h2;obtain⟨v3,r3,rfl,e3,h4⟩:=jl h3;obtain⟨v4,r4,rfl,e4,h5⟩:=jl h4;obtain⟨v5,r5,rfl,e5,h6⟩:=jl h5;obtain⟨v6,r6,rfl,e6,h7⟩:=jl h6;obtain⟨v7,r7,rfl,e7,h8⟩:=jl h7
 cases jM h8
 cases jv e1
 cases jv e4
 cases jv e5
 cases kc e7
 obtain⟨a,rfl,ha⟩:=Jh e2;obtain⟨b,rfl,hb⟩:=Jh e3
 cases bd with
 | is z=>
  obtain⟨vb,rfl,uN⟩:=jan e6;exact⟨t,a,b,vb,rfl,ht,ha,hb,uN⟩
 | row z=>
  obtain⟨vb,rfl,uN⟩:=jan e6;exact⟨t,a,b,vb,rfl,ht,ha,hb,uN⟩
end LW
namespace L2
open PySem
def ltS(a b:Str):Bool:=decide (a.cps.toList < b.cps.toList)
mutual
def dLt:D->D->Bool
 | .int a,.int b=>decide (a < b)
 | .int _,.str _=>true
 | .int _,.tup _=>true
 | .str _,.int _=>false
 | .str a,.str b=>ltS a b
 | .str _,.tup _=>true
 | .tup _,.int _=>false
 | .tup _,.str _=>false
 | .tup a,.tup b=>dLtL a b
def dLtL:List D->List D->Bool
 | [],[]=>false
 | [],_ :: _=>true
 | _ :: _,[]=>false
 | x :: xs,y :: ys=>if dEq x y=true then dLtL xs ys else dLt x y
end
mutual
def Cmp:D->D->Prop
 | .int _,.int _=>True
 | .str _,.str _=>True
 | .tup a,.tup b=>CmpL a b
 | .int _,.str _=>False
 | .int _,.tup _=>False
 | .str _,.int _=>False
 | .str _,.tup _=>False
 | .tup _,.int _=>False
 | .tup _,.str _=>False
def CmpL:List D->List D->Prop
 | [],_=>True
 | _ :: _,[]=>True
 | x :: xs,y :: ys=>(dEq x y=true->CmpL xs ys)/\(dEq x y=false->Cmp x y)
end
theorem yj(x y:D)(xs ys:List D):dLtL (x :: xs) (y :: ys)=if dEq x y=true then dLtL xs ys else dLt x y:=by rw[dLtL]
theorem jgN(a:Str):ltS a a=false:=MS (List.lt_irrefl _)
theorem jdb{a b c:Str}(h:ltS a b=true)(h':ltS b c=true):ltS a c=true:=MR (List.lt_trans (MQ h) (MQ h'))
theorem jd2{a b:Str}(h:a.cps.toList=b.cps.toList):a=b:=by
 cases a;cases b
 congr 1;exact MJ.mp h
theorem jgM{a b:Str}(h:ltS a b=false)(h':ltS b a=false):a=b:=jd2 (List.le_antisymm (Md.mp (of_decide_eq_false h')) (Md.mp (of_decide_eq_false h)))
mutual
theorem ZW:∀a:D,dLt a a=false
 | .int a=>by unfold dLt;exact MS (MA a)
 | .str a=>by unfold dLt;exact jgN a
 | .tup a=>by unfold dLt;exact dLtL_irr a
theorem dLtL_irr:∀a:List D,dLtL a a=false
 | []=>by unfold dLtL;rfl
 | x :: xs=>by rw[yj,MU (kA.mpr rfl)];exact dLtL_irr xs
end
mutual
theorem JZ:∀a b:D,dLt a b=false->dLt b a=false->a=b
 | .int a,.int b,h,h'=>by
  unfold dLt at h h';have:=of_decide_eq_false h;have:=of_decide_eq_false h';rw[show a=b by omega]
 | .str a,.str b,h,h'=>by unfold dLt at h h';rw[jgM h h']
 | .tup a,.tup b,h,h'=>by unfold dLt at h h';rw[dLtL_tot a b h h']
 | .int a,.str b,h,h'=>by unfold dLt at h;cases h
 | .int a,.tup b,h,h'=>by unfold dLt at h;cases h
 | .str a,.int b,h,h'=>by unfold dLt at h';cases h'
 | .str a,.tup b,h,h'=>by unfold dLt at h;cases h
 | .tup a,.int b,h,h'=>by unfold dLt at h';cases h'
 | .tup a,.str b,h,h'=>by unfold dLt at h';cases h'
theorem dLtL_tot:∀a b:List D,dLtL a b=false->dLtL b a=false->a=b
 | [],[],_,_=>rfl
 | [],y :: ys,h,_=>by unfold dLtL at h;cases h
 | x :: xs,[],_,h=>by unfold dLtL at h;cases h
 | x :: xs,y :: ys,h,h'=>by
  rw[yj]at h h';by_cases e:x=y
  .subst e
   rw[MU (kA.mpr rfl)]at h h';rw[dLtL_tot xs ys h h']
  .rw[MT (fun z=>e (kA.mp z))]at h
   rw[MT (fun z=>e (kA.mp z).symm)]at h';exact absurd (JZ x y h h') e
end
mutual
theorem yi:∀a b c:D,dLt a b=true->dLt b c=true->dLt a c=true
 | .int a,.int b,.int c,h,h'=>by
  unfold dLt at h h' |-;exact MR (Mz (MQ h) (MQ h'))
 | .str a,.str b,.str c,h,h'=>by unfold dLt at h h' |-;exact jdb h h'
 | .tup a,.tup b,.tup c,h,h'=>by unfold dLt at h h' |-;exact dLtL_trans a b c h h'
 | .int a,.int b,.str c,_,_=>by unfold dLt;rfl
 | .int a,.int b,.tup c,_,_=>by unfold dLt;rfl
 | .int a,.str b,.str c,_,_=>by unfold dLt;rfl
 | .int a,.str b,.tup c,_,_=>by unfold dLt;rfl
 | .int a,.tup b,.tup c,_,_=>by unfold dLt;rfl
 | .str a,.str b,.tup c,_,_=>by unfold dLt;rfl
 | .str a,.tup b,.tup c,_,_=>by unfold dLt;rfl
 | .str a,.int b,_,h,_=>by unfold dLt at h;cases h
 | .tup a,.int b,_,h,_=>by unfold dLt at h;cases h
 | .tup a,.str b,_,h,_=>by unfold dLt at h;cases h
 | _,.str b,.int c,_,h=>by unfold dLt at h;cases h
 | _,.tup b,.int c,_,h=>by unfold dLt at h;cases h
 | _,.tup b,.str c,_,h=>by unfold dLt at h;cases h
theorem dLtL_trans:∀a b c:List D,dLtL a b=true->dLtL b c=true->dLtL a c=true
 | [],[],_,h,_=>by unfold dLtL at h;cases h
 | [],_ :: _,[],_,h=>by unfold dLtL at h;cases h
 | [],_ :: _,_ :: _,_,_=>by unfold dLtL;rfl
 | _ :: _,[],_,h,_=>by unfold dLtL at h;cases h
 | _ :: _,_ :: _,[],_,h=>by unfold dLtL at h;cases h
 | x :: xs,y :: ys,z :: zs,h,h'=>by
  rw[yj]at h h' |-;by_cases e:x=y
  .subst e
   rw[MU (kA.mpr rfl)]at h;by_cases e':x=z
   .subst e'
    rw[MU (kA.mpr rfl)]at h' |-;exact dLtL_trans xs ys zs h h'
   .rw[MT (fun q=>e' (kA.mp q))]at h' |-
    exact h'
  .rw[MT (fun q=>e (kA.mp q))]at h
   by_cases e':y=z
   .subst e'
    rw[MT (fun q=>e (kA.mp q))];exact h
   .rw[MT (fun q=>e' (kA.mp q))]at h'
    have h3:=yi x y z h h';by_cases e2:x=z
    .subst e2
     have:=ZW x;rw[h3]at this
     cases this
    .rw[MT (fun q=>e2 (kA.mp q))]
     exact h3
end
theorem jgU(a b c:D)(h:dLt a c=true):dLt a b=true\/dLt b c=true:=by
 cases h1:dLt a b with
 | true=>exact .inl rfl
 | false=>
  cases h2:dLt b a with
  | true=>exact .inr (yi b a c h2 h)
  | false=>
   rw[JZ a b h1 h2]at h;exact .inr h
open PySem PySem.Spec PyProof.Rows PySem.W
mutual
def TrAt(h:aj):D->ae->Prop
 | .int i,v=>∃t,v=.int i t
 | .str x,v=>∃t,v=.str x t
 | .tup ds,v=>∃a its,v=.ref a/\h.IsTuple a its/\TrAtL h ds its.toList
def TrAtL(h:aj):List D->List ae->Prop
 | [],vs=>vs=[]
 | d :: ds,vs=>∃v r,vs=v :: r/\TrAt h d v/\TrAtL h ds r
end
theorem TrAtL.length{h:aj}:∀{ds:List D} {vs:List ae},TrAtL h ds vs->ds.length=vs.length
 | [],vs,x=>by unfold TrAtL at x;rw[x];rfl
 | d :: ds,vs,x=>by
  unfold TrAtL at x;obtain⟨v,r,rfl,_,h2⟩:=x;rw[bM,bM,TrAtL.length h2]
theorem TrAtL.get{h:aj}:∀{ds:List D} {vs:List ae} {i:Nat} {d:D},TrAtL h ds vs->ds[i]?=some d->∃v,vs[i]?=some v/\TrAt h d v
 | [],_,_,_,_,e=>by simp at e
 | d :: ds,vs,0,_,x,e=>by
  unfold TrAtL at x;obtain⟨v,r,rfl,h1,_⟩:=x;simp at e;subst e;exact⟨v,by simp,h1⟩
 | d :: ds,vs,i+1,_,x,e=>by
  unfold TrAtL at x;obtain⟨v,r,rfl,_,h2⟩:=x;obtain⟨v',e1,e2⟩:=TrAtL.get (i:=i) h2 (by simpa using e);exact⟨v',by simpa using e1,e2⟩
theorem jaK{h:aj}{a:ab}{xs ys:Array ae}(h1:h.IsTuple a xs)(h2:h.IsTuple a ys):xs=ys:=by
 obtain⟨o,e1,e2,n,e3⟩:=h1;obtain⟨o',f1,f2,n',f3⟩:=h2;rw[e1]at f1
 cases f1
 rw[e3]at f3;injection f3
mutual
theorem ja8{h:aj}:∀{d d':D} {v:ae},TrAt h d v->TrAt h d' v->d=d'
 | .int i,.int j,v,x,y=>by unfold TrAt at x y;obtain⟨t,rfl⟩:=x;obtain⟨t',e⟩:=y;injection e with e;rw[e]
 | .str i,.str j,v,x,y=>by unfold TrAt at x y;obtain⟨t,rfl⟩:=x;obtain⟨t',e⟩:=y;injection e with e;rw[e]
 | .tup a,.tup b,v,x,y=>by
  unfold TrAt at x y;obtain⟨p,xs,rfl,e,hx⟩:=x;obtain⟨q,ys,e',f,hy⟩:=y;injection e' with e';subst e';rw[jaK f e]at hy;rw[trL_inj hx hy]
 | .int i,.str j,v,x,y=>by unfold TrAt at x y;obtain⟨t,rfl⟩:=x;obtain⟨t',e⟩:=y;cases e
 | .int i,.tup j,v,x,y=>by unfold TrAt at x y;obtain⟨t,rfl⟩:=x;obtain⟨_,_,e,_⟩:=y;cases e
 | .str i,.int j,v,x,y=>by unfold TrAt at x y;obtain⟨t,rfl⟩:=x;obtain⟨t',e⟩:=y;cases e
 | .str i,.tup j,v,x,y=>by unfold TrAt at x y;obtain⟨t,rfl⟩:=x;obtain⟨_,_,e,_⟩:=y;cases e
 | .tup i,.int j,v,x,y=>by unfold TrAt at x y;obtain⟨t,rfl⟩:=y;obtain⟨_,_,e,_⟩:=x;cases e
 | .tup i,.str j,v,x,y=>by unfold TrAt at x y;obtain⟨t,rfl⟩:=y;obtain⟨_,_,e,_⟩:=x;cases e
theorem trL_inj{h:aj}:∀{d d':List D} {v:List ae},TrAtL h d v->TrAtL h d' v->d=d'
 | [],[],_,_,_=>rfl
 | a :: as,b :: bs,v,x,y=>by
  unfold TrAtL at x y;obtain⟨u,r,rfl,h1,h2⟩:=x;obtain⟨u',r',e,cn,du⟩:=y;injection e with e1 e2;subst e1 e2;rw[ja8 h1 cn,trL_inj h2 du]
 | [],b :: bs,v,x,y=>by unfold TrAtL at x y;subst x;obtain⟨_,_,e,_⟩:=y;cases e
 | a :: as,[],v,x,y=>by unfold TrAtL at x y;subst y;obtain⟨_,_,e,_⟩:=x;cases e
end
mutual
theorem TrAt.kept{h h':aj}(k:∀a xs,h.IsTuple a xs->h'.IsTuple a xs):∀{d:D} {v:ae},TrAt h d v->TrAt h' d v
 | .int i,v,x=>by unfold TrAt at x |-;exact x
 | .str i,v,x=>by unfold TrAt at x |-;exact x
 | .tup ds,v,x=>by
  unfold TrAt at x |-;obtain⟨a,its,rfl,e,hx⟩:=x;exact⟨a,its,rfl,k a its e,TrAtL.kept k hx⟩
theorem TrAtL.kept{h h':aj}(k:∀a xs,h.IsTuple a xs->h'.IsTuple a xs):∀{ds:List D} {vs:List ae},TrAtL h ds vs->TrAtL h' ds vs
 | [],vs,x=>by unfold TrAtL at x |-;exact x
 | d :: ds,vs,x=>by
  unfold TrAtL at x |-;obtain⟨v,r,e,h1,h2⟩:=x;exact⟨v,r,e,TrAt.kept k h1,TrAtL.kept k h2⟩
end
section
variable {s:af}
theorem jcs:∀(n:Nat) (A:aL) (d d':D) (u v:ae),d.depth<=n->A.units+n < cLine->TrAt s.heap d u->TrAt s.heap d' v->oq A s u v (dEq d d'):=by
 intro n;induction n with
 | zero=>
  intro A d d' u v hd hA hx hy;have fx:A.units < cLine:=by omega
  cases d with
  | int i=>
   unfold TrAt at hx;obtain⟨t,rfl⟩:=hx
   cases d' with
   | int j=>unfold TrAt at hy;obtain⟨t',rfl⟩:=hy;unfold dEq;exact IS i t j t'
   | str j=>unfold TrAt at hy;obtain⟨t',rfl⟩:=hy;unfold dEq;exact C1 i t j t'
   | tup ds=>unfold TrAt at hy;obtain⟨b,ys,rfl,hb,_⟩:=hy;unfold dEq;exact IR i t hb fx
  | str i=>
   unfold TrAt at hx;obtain⟨t,rfl⟩:=hx
   cases d' with
   | int j=>unfold TrAt at hy;obtain⟨t',rfl⟩:=hy;unfold dEq;exact CZ i t j t'
   | str j=>unfold TrAt at hy;obtain⟨t',rfl⟩:=hy;unfold dEq;exact IN i t j t'
   | tup ds=>unfold TrAt at hy;obtain⟨b,ys,rfl,hb,_⟩:=hy;unfold dEq;exact IM i t hb fx
  | tup ds=>unfold D.depth at hd;omega
 | succ n ih=>
  intro A d d' u v hd hA hx hy;have fx:A.units < cLine:=by omega
  cases d with
  | int i=>exact ih A (.int i) d' u v (by unfold D.depth;omega) (by omega) hx hy
  | str z=>exact ih A (.str z) d' u v (by unfold D.depth;omega) (by omega) hx hy
  | tup ds=>
   have nv:=hx;unfold TrAt at hx;obtain⟨a,its,rfl,ta,bA⟩:=hx
   cases d' with
   | int j=>unfold TrAt at hy;obtain⟨t',rfl⟩:=hy;unfold dEq;exact IL j t' ta fx
   | str j=>unfold TrAt at hy;obtain⟨t',rfl⟩:=hy;unfold dEq;exact IK j t' ta fx
   | tup aF=>
    have uK:=hy;unfold TrAt at hy;obtain⟨b,aZ,rfl,tb,bJ⟩:=hy;by_cases gG:a=b
    .subst gG
     rw[kA.mpr (ja8 nv uK)];exact IP _
    .refine IQ gG ?_
     have l1:ds.length=its.size:=by have:=bA.length;simpa using this
     have l2:aF.length=aZ.size:=by have:=bJ.length;simpa using this
     have key:=CY (A:=A) (s:=s) (e:=fun j=>dEq (ds.getD j (.int 0)) (aF.getD j (.int 0))) ta tb (by omega) (fun j h1 h2=>by
      have hj:j < ds.length:=by omega
      have ft:j < aF.length:=by omega
      have ej:ds[j]?=some ds[j]:=aK hj;obtain⟨x',cE,gx⟩:=bA.get ej;obtain⟨y',dE,gy⟩:=bJ.get (aK ft);have eu:its[j]=x':=by
       have:=(bI.mp cE).2;simpa using this
      have ev:aZ[j]=y':=by
       have:=(bI.mp dE).2;simpa using this
      rw[eu,ev];unfold D.depth at hd;have g1:ds.getD j (.int 0)=ds[j]:=by simp[hj]
      have g2:aF.getD j (.int 0)=aF[j]:=by simp[ft]
      rw[g1,g2];exact ih A.in1 ds[j] aF[j] x' y' (by have:=D.depthL_get ej;omega) (by show A.units+1+n < cLine;omega) gx gy)
     have e:((bT (min its.size aZ.size)).all (fun j=>dEq (ds.getD j (.int 0)) (aF.getD j (.int 0))) && its.size == aZ.size)=dEqL ds aF:=by
      rw[<- l1,<- l2];exact yN ds aF
     rw[e]at key;unfold dEq;exact key
def jdw(A:aL)(s:af)(u v:ae)(r:Bool):Prop:=∀(prog:az) (w:aw) (E:ae->af->Prop) (Q:ae->af->Prop),Q (.bool r) s->al (ai prog w) A (richCompare .Lt u v) Q E s
theorem jek(A:aL)(s:af)(a:Str)(t:Tok)(c:Str)(u:Tok):jdw A s (.str a t) (.str c u) (ltS a c):=fun prog w E Q h=>
 (PyProof.Rows.lt_str h:al (ai prog w) A (dw .Lt (.str a t) (.str c u)) Q E s)
theorem jel(A:aL)(s:af)(a:Int)(t:Tok)(c:Int)(u:Tok):jdw A s (.int a t) (.int c u) (decide (a < c)):=fun prog w E Q h=>
 (PyProof.Rows.lt_int h:al (ai prog w) A (dw .Lt (.int a t) (.int c u)) Q E s)
inductive LexAt(A:aL)(s:af):List D->List D->List ae->List ae->Prop
 | nilL {ys:List D} {vs:List ae}:ys.length=vs.length->LexAt A s [] ys [] vs
 | nilR {xs:List D} {vs:List ae}:xs.length=vs.length->LexAt A s xs [] vs []
 | cons {x y:D} {xs ys:List D} {u v:ae} {us vs:List ae}:xs.length=us.length->ys.length=vs.length->oq A s u v (dEq x y)->(dEq x y=true->LexAt A s xs ys us vs)->(dEq x y=false->jdw A s u v (dLt x y))->LexAt A s (x :: xs) (y :: ys) (u :: us) (v :: vs)
end
section
open PySem.SeqAt
open PySem.AutoSeq1 (wpAny_loadPart')
open PySem.MeetsSeq PySem.MeetsSeq2 PySem.MeetsSeq3
theorem jaj(l b:ab)(items lX:Array ae)(n n2:Nat)(dd v0:Option ab)(sl tf:Array (Option ae))(ds es:List D)(h1:ds.length=items.size)(h2:es.length=lX.size):
  Meets (Builtin.«tuple.__lt__» ⟨[.ref l,.ref b],[]⟩)
   (fun A R s=>s.heap.get? l=some { cls:=.type "tuple",dict:=dd,data:=.seq items n,slots:=sl }/\s.heap.get? b=some { cls:=.type "tuple",dict:=v0,data:=.seq lX n2,slots:=tf }/\LexAt A.in1 s ds es items.toList lX.toList/\
    R (.ok (.ret (.bool (dLtL ds es)))) s):=
 .of_wp fun prog w A R s h=>by
  obtain⟨hp,g,d,tk,os⟩:=s;obtain⟨hl,hb,hL,h⟩:=h;have f2:=AutoSeq1.sub_tuple_tuple;wp_walk using wpAny_loadPart' hl,wpAny_loadPart' hb,wpAny_forIn_list _ (fun yB b s'=>b.1=none/\s'=⟨hp,g,d,tk,os⟩/\∃(vs ws:List ae) (aF fy:List D),yB=vs.zip ws/\
   LexAt A.in1 ⟨hp,g,d,tk,os⟩ aF fy vs ws/\aF.length+lX.size=fy.length+items.size/\R (.ok (.ret (.bool (dLtL aF fy)))) ⟨hp,g,d,tk,os⟩) _
  case turn=>
   rintro⟨y,x⟩ yB b s' ⟨aT,rfl,vs,ws,aF,fy,hz,vG,bf,hR⟩
   cases vG with
   | nilL e=>rw[Ma]at hz;cases hz
   | nilR e=>rw[L_]at hz;cases hz
   | @cons x0 y0 _ _ _ _ _ _ e1 e2 he hy hn=>
    rw[DG]at hz;injection hz with EB E7;injection EB with dE cE;subst dE cE;rw[yj]at hR;simp only[bM]at bf;refine ar (he prog w _ _ ?_)
    cases hE:dEq x0 y0 with
    | true=>
     rw[MU hE]at hR;wp_walk;exact⟨rfl,rfl,_,_,_,_,E7,hy hE,by omega,hR⟩
    | false=>
     rw[MT (by rw[hE];exact cP)]at hR;have nG:=hn hE prog w;wp_walk using nG;exact⟨_,rfl,by simpa using hR⟩
  case fin=>
   rintro⟨b1,b2⟩ s' ⟨aT,rfl,vs,ws,aF,fy,hz,vG,bf,hR⟩
   simp only at aT
   subst aT
   have hv:dLtL aF fy=decide (items.size < lX.size):=by
    cases vG with
    | nilL e=>
     cases fy with
     | nil=>
      simp only[fe]at bf;unfold dLtL;exact (MS (by omega)).symm
     | cons c u=>
      simp only[fe,bM]at bf;unfold dLtL;exact (MR (by omega)).symm
    | nilR e=>
     cases aF with
     | nil=>
      simp only[fe]at bf;unfold dLtL;exact (MS (by omega)).symm
     | cons c u=>
      simp only[fe,bM]at bf;unfold dLtL;exact (MS (by omega)).symm
    | cons _ _ _ _ _=>
     rw[DG]at hz
     cases hz
   rw[hv]at hR
   wp_walk
   exact⟨_,rfl,by simpa[Builtin.Tuple.tupleCompareSizes]using hR⟩
  case h=>
   exact⟨rfl,rfl,items.toList,lX.toList,ds,es,rfl,hL,by omega,h⟩
end
end L2
namespace Tm
open PySem PyProof.Rows
def qQ:Bool->Keyed->Array Keyed->Nat->Nat->Nat->StateT ao Sem (Option Nat):=sortPriv% PySem.Builtin.gallop
def qk:Nat->StateT ao Sem Unit:=sortPriv% PySem.Builtin.setMinGallop
def zO(left:Bool)(key:Keyed)(arr:Array Keyed)(base:Nat)(i:Nat):StateT ao Sem (Option Bool):=do
 let x <- elem' arr (base+i)
 if left then lt' x key else return (<- lt' key x).map (!·)
abbrev GT:Type:=Option (Option Nat)×Nat×Nat
def Zb(left:Bool)(key:Keyed)(arr:Array Keyed)(base n lo hi:Nat):StateT ao Sem (Option Nat):=do
 let r <- forIn [0:n] ((none,lo,hi):GT) fun _ c=>
  if c.2.1 >= c.2.2 then pure (.done (none,c.2.1,c.2.2)) else do
   match <- zO left key arr base (c.2.1+(c.2.2 - c.2.1) / 2) with
   | some yes=>if yes=true then pure (.yield (none,c.2.1+(c.2.2 - c.2.1) / 2+1,c.2.2)) else pure (.yield (none,c.2.1,c.2.1+(c.2.2 - c.2.1) / 2))
   | _=>pure (.done (some none,c.2.1,c.2.2))
 match r.1 with
 | some r=>pure r
 | none=>pure (some r.2.2)
def gup(left:Bool)(key:Keyed)(arr:Array Keyed)(base n aR:Nat):StateT ao Sem (Option Nat):=do
 let r <- forIn [0:n] ((none,0,1):GT) fun _ c=>
  if c.2.2 >= n - aR then pure (.done (none,c.2.1,c.2.2)) else do
   match <- zO left key arr base (aR+c.2.2) with
   | some yes=>if (!yes)=true then pure (.done (none,c.2.1,c.2.2)) else pure (.yield (none,c.2.2,2 * c.2.2+1))
   | _=>pure (.done (some none,c.2.1,c.2.2))
 match r.1 with
 | some r=>pure r
 | none=>Zb left key arr base n (aR+r.2.1+1) (aR+min r.2.2 (n - aR))
def jfe(left:Bool)(key:Keyed)(arr:Array Keyed)(base n aR:Nat):StateT ao Sem (Option Nat):=do
 let r <- forIn [0:n] ((none,0,1):GT) fun _ c=>
  if c.2.2 >= aR+1 then pure (.done (none,c.2.1,c.2.2)) else do
   match <- zO left key arr base (aR - c.2.2) with
   | some yes=>if yes=true then pure (.done (none,c.2.1,c.2.2)) else pure (.yield (none,c.2.2,2 * c.2.2+1))
   | _=>pure (.done (some none,c.2.1,c.2.2))
 match r.1 with
 | some r=>pure r
 | none=>Zb left key arr base n (aR+1 - min r.2.2 (aR+1)) (aR - r.2.1)
theorem jbz(left:Bool)(key:Keyed)(arr:Array Keyed)(base n aR:Nat):qQ left key arr base n aR=(zO left key arr base aR >>= fun o=>match o with
  | some right=>if right=true then gup left key arr base n aR else jfe left key arr base n aR
  | _=>pure none):=by
 have e0:qQ left key arr base n aR=(zO left key arr base aR >>= (_:Option Bool->StateT ao Sem (Option Nat))):=rfl
 rw[e0]
 congr 1
 funext o
 cases o with
 | none=>rfl
 | some right=>
  dsimp only
  congr 1
  .unfold gup
   congr 1
   funext c
   obtain⟨c1,c2,c3⟩:=c
   cases c1 with
   | some r=>rfl
   | none=>
    dsimp only
    unfold Zb
    congr 1
    funext d
    obtain⟨d1,d2,d3⟩:=d
    cases d1 <;> rfl
  .unfold jfe
   congr 1
   funext c
   obtain⟨c1,c2,c3⟩:=c
   cases c1 with
   | some r=>rfl
   | none=>
    dsimp only
    unfold Zb
    congr 1
    funext d
    obtain⟨d1,d2,d3⟩:=d
    cases d1 <;> rfl
section
variable {prog:az}{w:aw}{A:aL}{E:ae->af->Prop}{s:af}{κ:KeyKind}{knd:fc}
def kq(κ:KeyKind)(p:Keyed):κ.α:=(κ.keyOf p.1).getD κ.dflt
def kS(κ:KeyKind)(p:Keyed):Prop:=∃a,κ.keyOf p.1=some a
def LtAt(prog:az)(w:aw)(A:aL)(E:ae->af->Prop)(s:af)(knd:fc)(κ:KeyKind):Prop:=∀(st:ao) (x y:Keyed) (Q:Option Bool->ao->Prop),kindOf st=knd->kS κ x->kS κ y->Q (some (κ.blt (kq κ x) (kq κ y))) st->wpS (ai prog w) A E s (lt' x y) Q st
theorem Zn{st:ao}{x y:Keyed}{Q:Option Bool->ao->Prop}(hO:LtAt prog w A E s knd κ)(hk:kindOf st=knd)(hx:kS κ x)(hy:kS κ y)(h:Q (some (κ.blt (kq κ x) (kq κ y))) st):wpS (ai prog w) A E s (lt' x y) Q st:=hO st x y Q hk hx hy h
def bey(κ:KeyKind)(left:Bool)(key x:Keyed):Bool:=if left then κ.blt (kq κ x) (kq κ key) else !(κ.blt (kq κ key) (kq κ x))
theorem ja3{st:ao}{left:Bool}{key:Keyed}{arr:Array Keyed}{base i:Nat}{Q:Option Bool->ao->Prop}(hO:LtAt prog w A E s knd κ)(hk:kindOf st=knd)(hx:kS κ key)(hi:base+i < arr.size)(hy:kS κ arr[base+i])
  (h:Q (some (bey κ left key arr[base+i])) st):wpS (ai prog w) A E s (zO left key arr base i) Q st:=by
 unfold zO
 rw[xp,getElem?_pos arr (base+i) hi]
 refine av (aC ?_)
 cases left with
 | true=>
  simp only[if_true]
  exact Zn hO hk hy hx h
 | false=>
  simp only[eB,if_false]
  refine av (Zn hO hk hx hy ?_)
  exact aC h
def Turn(b:Nat->Bool)(n k:Nat):Prop:=k<=n/\(∀i,i < k->b i=true)/\∀i,k<=i->i < n->b i=false
theorem ja1{st:ao}{left:Bool}{key:Keyed}{arr:Array Keyed}{base n aR:Nat}{Q:Option Nat->ao->Prop}(hO:LtAt prog w A E s knd κ)(hk:kindOf st=knd)(hx:kS κ key)(hn:base+n<=arr.size)(hh:aR < n)(hy:∀i (h:i < arr.size),kS κ arr[i])
  (b:Nat->Bool) (hb:∀i (h:base+i < arr.size),i < n->b i=bey κ left key arr[base+i]) (mono:∀i j,i<=j->j < n->b j=true->b i=true) (h:∀k,Turn b n k->Q (some k) st):wpS (ai prog w) A E s (qQ left key arr base n aR) Q st:=by
 have ask:∀{Q:Option Bool->ao->Prop} (i:Nat),i < n->Q (some (b i)) st->wpS (ai prog w) A E s (zO left key arr base i) Q st:=fun {Q} i hi q=>
  ja3 hO hk hx (by omega) (hy _ (by omega)) (by rw[<- hb i (by omega) hi];exact q)
 have BY:∀(lo hi:Nat),lo<=hi->hi<=n->(∀i,i < lo->b i=true)->(∀i,hi<=i->i < n->b i=false)->
   wpS (ai prog w) A E s (Zb left key arr base n lo hi) Q st:=by
  intro lo hi h1 h2 h3 h4
  unfold Zb
  refine av (cF (dz (I:=fun x c ax=>ax=st/\∃l r,c=(none,l,r)/\l<=r/\r<=n/\r - l<=n - x/\(∀i,i < l->b i=true)/\(∀i,r<=i->i < n->b i=false))
   (Q:=fun c ax=>ax=st/\∃r,c=(none,r,r)/\Turn b n r) ?step ?fin ⟨rfl,lo,hi,rfl,h1,h2,by omega,h3,h4⟩) ?post)
  case fin=>
   rintro c ax ⟨rfl,l,r,rfl,g1,g2,g3,g4,g5⟩
   have:l=r:=by omega
   subst this
   exact⟨rfl,l,rfl,g2,g4,g5⟩
  case step=>
   rintro x c ax _ Ax ⟨rfl,l,r,rfl,g1,g2,g3,g4,g5⟩
   dsimp only
   by_cases c_:l >= r
   .rw[MU c_]
    have:l=r:=by omega
    subst this
    exact aC ⟨rfl,l,rfl,g2,g4,g5⟩
   .rw[MT c_]
    refine av (ask (l+(r - l) / 2) (by omega) ?_)
    dsimp only
    cases cU:b (l+(r - l) / 2) with
    | true=>
     simp only[if_true]
     exact aC ⟨rfl,_,_,rfl,by omega,g2,by omega,fun i hi=>mono i _ (by omega) (by omega) cU,g5⟩
    | false=>
     simp only[eB,if_false]
     refine aC ⟨rfl,_,_,rfl,by omega,by omega,by omega,g4,fun i hi eX=>?_⟩
     cases e:b i with
     | false=>rfl
     | true=>
      have:=mono (l+(r - l) / 2) i hi eX e
      rw[cU]at this
      cases this
  case post=>
   rintro c ax ⟨rfl,r,rfl,g⟩
   exact aC (h r g)
 rw[jbz]
 refine av (ask aR hh ?_)
 dsimp only
 cases hbh:b aR with
 | true=>
  simp only[if_true]
  unfold gup
  refine av (cF (dz (I:=fun x c ax=>ax=st/\∃l o,c=(none,l,o)/\l < o/\x+1<=o/\aR+l < n/\b (aR+l)=true)
   (Q:=fun c ax=>ax=st/\∃l o,c=(none,l,o)/\l < o/\aR+l < n/\b (aR+l)=true/\(n<=aR+o\/b (aR+o)=false)) ?step ?fin ⟨rfl,0,1,rfl,by omega,by omega,by omega,hbh⟩) ?post)
  case fin=>
   rintro c ax ⟨rfl,l,o,rfl,h1,h2,h3,h4⟩
   exact⟨rfl,l,o,rfl,h1,h3,h4,.inl (by omega)⟩
  case step=>
   rintro x c ax _ Ax ⟨rfl,l,o,rfl,h1,h2,h3,h4⟩
   dsimp only
   by_cases c_:o >= n - aR
   .rw[MU c_]
    exact aC ⟨rfl,l,o,rfl,h1,h3,h4,.inl (by omega)⟩
   .rw[MT c_]
    refine av (ask (aR+o) (by omega) ?_)
    dsimp only
    cases cU:b (aR+o) with
    | true=>
     simp only[sO,eB,if_false]
     exact aC ⟨rfl,o,2 * o+1,rfl,by omega,by omega,by omega,cU⟩
    | false=>
     simp only[Bool.not_false,if_true]
     exact aC ⟨rfl,l,o,rfl,h1,h3,h4,.inr cU⟩
  case post=>
   rintro c ax ⟨rfl,l,o,rfl,h1,h3,h4,h5⟩
   dsimp only
   refine BY (aR+l+1) (aR+min o (n - aR)) (by omega) (by omega) (fun i hi=>mono i (aR+l) (by omega) (by omega) h4) (fun i hi eX=>?_)
   rcases h5 with h5 | h5
   .omega
   .cases e:b i with
    | false=>rfl
    | true=>
     have:=mono (aR+o) i (by omega) eX e
     rw[h5]at this
     cases this
 | false=>
  simp only[eB,if_false]
  unfold jfe
  refine av (cF (dz (I:=fun x c ax=>ax=st/\∃l o,c=(none,l,o)/\l < o/\x+1<=o/\l<=aR/\b (aR - l)=false)
   (Q:=fun c ax=>ax=st/\∃l o,c=(none,l,o)/\l < o/\l<=aR/\b (aR - l)=false/\(aR < o\/b (aR - o)=true)) ?step ?fin ⟨rfl,0,1,rfl,by omega,by omega,by omega,hbh⟩) ?post)
  case fin=>
   rintro c ax ⟨rfl,l,o,rfl,h1,h2,h3,h4⟩
   exact⟨rfl,l,o,rfl,h1,h3,h4,.inl (by omega)⟩
  case step=>
   rintro x c ax _ Ax ⟨rfl,l,o,rfl,h1,h2,h3,h4⟩
   dsimp only
   by_cases c_:o >= aR+1
   .rw[MU c_]
    exact aC ⟨rfl,l,o,rfl,h1,h3,h4,.inl (by omega)⟩
   .rw[MT c_]
    refine av (ask (aR - o) (by omega) ?_)
    dsimp only
    cases cU:b (aR - o) with
    | true=>
     simp only[if_true]
     exact aC ⟨rfl,l,o,rfl,h1,h3,h4,.inr cU⟩
    | false=>
     simp only[eB,if_false]
     exact aC ⟨rfl,o,2 * o+1,rfl,by omega,by omega,by omega,cU⟩
  case post=>
   rintro c ax ⟨rfl,l,o,rfl,h1,h3,h4,h5⟩
   dsimp only
   refine BY (aR+1 - min o (aR+1)) (aR - l) (by omega) (by omega) (fun i hi=>?_) (fun i hi eX=>?_)
   .rcases h5 with h5 | h5
    .omega
    .exact mono i (aR - o) (by omega) (by omega) h5
   .cases e:b i with
    | false=>rfl
    | true=>
     have:=mono (aR - l) i (by omega) eX e
     rw[h4]at this
     cases this
end
def JP:Array Keyed->Array Keyed->StateT ao Sem (Array Keyed):=sortPriv% PySem.Builtin.mergeLo
def JQ:Array Keyed->Array Keyed->StateT ao Sem (Array Keyed):=sortPriv% PySem.Builtin.mergeHi
abbrev qp(st:ao)(g:Nat):ao:=xq (kindOf st) (arrOf st) (aP st) g (eR st)
theorem qg(g:Nat):qk g=modify fun s=>qp s g:=rfl
abbrev SL(κ:KeyKind)(l:List Keyed):Prop:=l.Pairwise fun p q=>κ.kle (kq κ p) (kq κ q)
abbrev Le(κ:KeyKind)(p q:Keyed):Prop:=κ.kle (kq κ p) (kq κ q)
section
variable {κ:KeyKind}{knd:fc}{A B L:List Keyed}{ia ib:Nat}
structure LoI(κ:KeyKind)(A B L:List Keyed)(ia ib:Nat):Prop where
 perm:L.Perm (A.take ia++B.take ib)
 srt:SL κ L
 ba:∀x∈L,∀y∈A.drop ia,Le κ x y
 bb:∀x∈L,∀y∈B.drop ib,Le κ x y
theorem yy{l:List Keyed}{i:Nat}(h:i < l.length):l.drop i=l[i] :: l.drop (i+1):=DR h
theorem LoI.pushA(I:LoI κ A B L ia ib)(sa:SL κ A)(hi:ia < A.length)(h:∀y∈B.drop ib,Le κ A[ia] y):LoI κ A B (L++[A[ia]]) (ia+1) ib:=by
 have hm:A[ia]∈A.drop ia:=by rw[yy hi];exact bC
 refine⟨?_,?_,fun x hx y hy=>?_,fun x hx y hy=>?_⟩
 .rw[dO,aK hi]
  refine (I.perm.append_right _).trans ?_;show (A.take ia++B.take ib++[A[ia]]).Perm (A.take ia++[A[ia]]++B.take ib);rw[bE,bE];exact iE.append_left _
 .exact f_.mpr ⟨I.srt,sL _ _,fun x hx y hy=>by
   cases aM.mp hy
   exact I.ba x hx _ hm⟩
 .rcases bx.mp hx with hx | hx
  .exact I.ba x hx y (by rw[yy hi];exact bG _ hy)
  .cases aM.mp hx
   have:=sa.drop (i:=ia);rw[yy hi]at this;exact (Mc.mp this).1 y hy
 .rcases bx.mp hx with hx | hx
  .exact I.bb x hx y hy
  .cases aM.mp hx
   exact h y hy
theorem LoI.swap(I:LoI κ A B L ia ib):LoI κ B A L ib ia:=⟨I.perm.trans iE,I.srt,I.bb,I.ba⟩
theorem LoI.pushB(I:LoI κ A B L ia ib)(sb:SL κ B)(hi:ib < B.length)(h:∀y∈A.drop ia,Le κ B[ib] y):LoI κ A B (L++[B[ib]]) ia (ib+1):=(I.swap.pushA sb hi h).swap
theorem LoI.runA(I:LoI κ A B L ia ib)(sa:SL κ A):∀k,ia+k<=A.length->(∀i (h:i < A.length),ia<=i->i < ia+k->∀y∈B.drop ib,Le κ A[i] y)->LoI κ A B (L++(A.drop ia).take k) (ia+k) ib
 | 0,_,_=>by
  rw[sK,gh];exact I
 | k+1,hk,h=>by
  have ih:=LoI.runA I sa k (by omega) fun i hi h1 h2=>h i hi h1 (by omega)
  have hi:ia+k < A.length:=by omega
  have:=ih.pushA sa hi (h _ hi (by omega) (by omega));rw[bE]at this;rw[dO,DN,aK hi];exact this
theorem LoI.runB(I:LoI κ A B L ia ib)(sb:SL κ B)(k:Nat)(hk:ib+k<=B.length)(h:∀i (h:i < B.length),ib<=i->i < ib+k->∀y∈A.drop ia,Le κ B[i] y):LoI κ A B (L++(B.drop ib).take k) ia (ib+k):=(I.swap.runA sb k hk h).swap
def qd(κ:KeyKind)(A B M:List Keyed):Prop:=M.Perm (A++B)/\SL κ M
theorem LoI.done(I:LoI κ A B L ia ib)(sa:SL κ A)(sb:SL κ B)(h:∀x∈A.drop ia,∀y∈B.drop ib,Le κ x y):qd κ A B (L++A.drop ia++B.drop ib):=by
 refine⟨?_,?_⟩
 .have e1:=lH ia A
  have e2:=lH ib B;have h1:(L++A.drop ia++B.drop ib).Perm ((A.take ia++B.take ib)++(A.drop ia++B.drop ib)):=by
   rw[bE];exact I.perm.append_right _
  refine h1.trans ?_;have h2:((A.take ia++B.take ib)++(A.drop ia++B.drop ib)).Perm ((A.take ia++A.drop ia)++(B.take ib++B.drop ib)):=by
   rw[bE,bE];refine Mu _ ?_;rw[<- bE,<- bE];exact iE.append_right _
  rw[e1,e2]at h2;exact h2
 .refine f_.mpr ⟨f_.mpr ⟨I.srt,sa.drop,I.ba⟩,sb.drop,fun x hx y hy=>?_⟩
  rcases bx.mp hx with hx | hx
  .exact I.bb x hx y hy
  .exact h x hx y hy
theorem LoI.last(I:LoI κ A B L ia ib)(sa:SL κ A)(sb:SL κ B)(h:∀x∈B.drop ib,∀y∈A.drop ia,Le κ x y):qd κ A B (L++B.drop ib++A.drop ia):=by
 obtain⟨h1,h2⟩:=I.swap.done sb sa h;exact⟨h1.trans iE,h2⟩
end
theorem qX{a:Array Keyed}{i j:Nat}:(a.extract i j).toList=(a.toList.drop i).take (j - i):=by
 simp
theorem KN{a:Array Keyed}{i:Nat}:(a.extract i a.size).toList=a.toList.drop i:=by
 rw[qX,List.take_of_length_le (by rw[lM];simp)]
abbrev LoT:Type:=Option (Array Keyed)×Array Keyed×Nat×Nat×Nat×Nat×Nat
abbrev zx(a b out:Array Keyed)(ia ib:Nat):Array Keyed:=out++a.extract ia a.size++b.extract ib b.size
abbrev Jl(a b out:Array Keyed)(ia ib:Nat):Array Keyed:=out++b.extract ib b.size++a.extract ia a.size
def jci(a b out:Array Keyed)(ia ib mg ac bc:Nat):StateT ao Sem (ForInStep LoT):=do
 let x <- elem' a ia
 if ia+1+1 == a.size then return .done (some (Jl a b (out.push x) (ia+1) ib),out.push x,ia+1,ib,mg,ac,bc)
 else if (decide (ac < 7) && decide (bc < 7))=true then return .done (none,out.push x,ia+1,ib,mg,ac,bc)
 else return .yield (none,out.push x,ia+1,ib,mg,ac,bc)
def jbs(a b out:Array Keyed)(ia ib mg ac k:Nat):StateT ao Sem (ForInStep LoT):=
 if k > 0 then
  if ib+k == b.size then return .done (some (zx a b (out++b.extract ib (ib+k)) ia (ib+k)),out++b.extract ib (ib+k),ia,ib+k,mg,ac,k)
  else jci a b (out++b.extract ib (ib+k)) ia (ib+k) mg ac k
 else jci a b out ia ib mg ac k
def ZK(a b out:Array Keyed)(ia ib mg ac bc:Nat):StateT ao Sem (ForInStep LoT):=do
 let y <- elem' b ib
 if ib+1 == b.size then return .done (some (zx a b (out.push y) ia (ib+1)),out.push y,ia,ib+1,mg,ac,bc)
 else do
  let x <- elem' a ia
  let r <- qQ true x b (ib+1) (b.size - (ib+1)) 0
  match r with
  | some k=>jbs a b (out.push y) ia (ib+1) mg ac k
  | _=>return .done (some (zx a b (out.push y) ia (ib+1)),out.push y,ia,ib+1,mg,ac,bc)
def jch(a b out:Array Keyed)(ia ib mg ac bc:Nat):StateT ao Sem (ForInStep LoT):=do
 qk mg
 let y <- elem' b ib
 let r <- qQ false y a ia (a.size - ia) 0
 match r with
 | some k=>
  if k > 0 then
   if ia+k+1 == a.size then return .done (some (Jl a b (out++a.extract ia (ia+k)) (ia+k) ib),out++a.extract ia (ia+k),ia+k,ib,mg,k,bc)
   else if ia+k == a.size then return .done (some (zx a b (out++a.extract ia (ia+k)) (ia+k) ib),out++a.extract ia (ia+k),ia+k,ib,mg,k,bc)
   else ZK a b (out++a.extract ia (ia+k)) (ia+k) ib mg k bc
  else ZK a b out ia ib mg k bc
 | _=>return .done (some (zx a b out ia ib),out,ia,ib,mg,ac,bc)
abbrev jbJ:Type:=Option (Array Keyed)×Array Keyed×Nat×Nat×Nat×Nat
def je3(a b:Array Keyed)(mg:Nat)(c:jbJ):StateT ao Sem (ForInStep jbJ):=do
 let y <- elem' b c.2.2.2.1
 let x <- elem' a c.2.2.1
 let r <- lt' y x
 match r with
 | some bWins=>
  if bWins=true then do
   let y <- elem' b c.2.2.2.1
   if c.2.2.2.1+1 == b.size then return .done (some (zx a b (c.2.1.push y) c.2.2.1 (c.2.2.2.1+1)),c.2.1.push y,c.2.2.1,c.2.2.2.1+1,0,c.2.2.2.2.2+1)
   else if c.2.2.2.2.2+1 >= mg then return .done (none,c.2.1.push y,c.2.2.1,c.2.2.2.1+1,0,c.2.2.2.2.2+1)
   else return .yield (none,c.2.1.push y,c.2.2.1,c.2.2.2.1+1,0,c.2.2.2.2.2+1)
  else do
   let x <- elem' a c.2.2.1
   if c.2.2.1+1+1 == a.size then return .done (some (Jl a b (c.2.1.push x) (c.2.2.1+1) c.2.2.2.1),c.2.1.push x,c.2.2.1+1,c.2.2.2.1,c.2.2.2.2.1+1,0)
   else if c.2.2.2.2.1+1 >= mg then return .done (none,c.2.1.push x,c.2.2.1+1,c.2.2.2.1,c.2.2.2.2.1+1,0)
   else return .yield (none,c.2.1.push x,c.2.2.1+1,c.2.2.2.1,c.2.2.2.2.1+1,0)
 | _=>return .done (some (zx a b c.2.1 c.2.2.1 c.2.2.2.1),c.2.1,c.2.2.1,c.2.2.2.1,c.2.2.2.2.1,c.2.2.2.2.2)
abbrev jbK:Type:=Option (Array Keyed)×Array Keyed×Nat×Nat×Nat
def ZJ(a b:Array Keyed)(c:jbK):StateT ao Sem (ForInStep jbK):=do
 let d <- forIn [0:a.size+b.size] ((none,c.2.1,c.2.2.1,c.2.2.2.1,0,0):jbJ) fun _ d=>je3 a b c.2.2.2.2 d
 match d.1 with
 | some r=>return .done (some r,d.2.1,d.2.2.1,d.2.2.2.1,c.2.2.2.2)
 | none=>do
  rule "list.sort.gallop"
  let e <- forIn [0:a.size+b.size] ((none,d.2.1,d.2.2.1,d.2.2.2.1,c.2.2.2.2+1,d.2.2.2.2.1,d.2.2.2.2.2):LoT) fun _ e=>
   if e.2.2.2.2.1 > 1 then jch a b e.2.1 e.2.2.1 e.2.2.2.1 (e.2.2.2.2.1 - 1) e.2.2.2.2.2.1 e.2.2.2.2.2.2
   else jch a b e.2.1 e.2.2.1 e.2.2.2.1 e.2.2.2.2.1 e.2.2.2.2.2.1 e.2.2.2.2.2.2
  match e.1 with
  | some r=>return .done (some r,e.2.1,e.2.2.1,e.2.2.2.1,e.2.2.2.2.1)
  | none=>do
   qk (e.2.2.2.2.1+1)
   return .yield (none,e.2.1,e.2.2.1,e.2.2.2.1,e.2.2.2.2.1+1)
set_option maxHeartbeats 4000000 in
theorem jaG(a b:Array Keyed):JP a b=(do
 rule "list.sort.merge-lo"
 let y <- elem' b 0
 if 1 == b.size then return zx a b #[y] 0 1
 else if 0+1 == a.size then return Jl a b #[y] 0 1
 else do
  let s <- get
  let c <- forIn [0:a.size+b.size] ((none,#[y],0,1,gU s):jbK) fun _ c=>ZJ a b c
  match c.1 with
  | some r=>pure r
  | none=>unsupported "internal:list.sort.merge-bound"):=by
 have e0:JP a b=((_:StateT ao Sem Unit) >>= (_:Unit->StateT ao Sem (Array Keyed))):=rfl
 rw[e0]
 congr 1;funext u
 dsimp only
 congr 1;funext y
 congr 1
 congr 1
 congr 1;funext s
 congr 1
 rotate_left
 .funext c
  obtain⟨c1,c2,c3,c4,c5⟩:=c
  cases c1 <;> rfl
 congr 1
 funext x c
 unfold ZJ
 congr 1
 funext d
 obtain⟨d1,d2,d3,d4,d5,d6⟩:=d
 cases d1 with
 | some r=>rfl
 | none=>
  dsimp only
  congr 1;funext _
  congr 1
  funext e
  obtain⟨e1,e2,e3,e4,e5,e6,e7⟩:=e
  cases e1 <;> rfl
section
variable {prog:az}{w:aw}{A:aL}{E:ae->af->Prop}{s:af}{κ:KeyKind}{knd:fc}{a b:Array Keyed}
theorem ye{l:Array Keyed}{i:Nat}{y:Keyed}(h:y∈l.toList.drop i):∃j,∃h:j < l.size,i<=j/\y=l[j]:=by
 obtain⟨n,hn,rfl⟩:=oF.mp h;rw[lM]at hn;refine⟨i+n,by simp at hn;omega,by omega,?_⟩;rw[Mj,cZ]
theorem yz{l:Array Keyed}(h:SL κ l.toList){i j:Nat}(hi:i < l.size)(hj:j < l.size)(cS:i<=j):Le κ l[i] l[j]:=by
 rcases mM i j with k | k
 .have:=xw.mp h i j (by simpa using hi) (by simpa using hj) k
  rw[cZ,cZ]at this;exact this
 .have:i=j:=by omega
  subst this;exact iB _
structure MC(κ:KeyKind)(a b:Array Keyed):Prop where
 ka:∀i (h:i < a.size),kS κ a[i]
 kb:∀i (h:i < b.size),kS κ b[i]
 sa:SL κ a.toList
 sb:SL κ b.toList
 last:∀j (h:j < b.size) (h':a.size - 1 < a.size),Le κ b[j] a[a.size - 1]
structure Alive(κ:KeyKind)(a b:Array Keyed)(N:Nat)(out:Array Keyed)(ia ib:Nat):Prop where
 inv:LoI κ a.toList b.toList out.toList ia ib
 la:ia+1 < a.size
 lb:ib < b.size
 many:N<=ia+ib
def PL(κ:KeyKind)(a b:Array Keyed)(st:ao)(N:Nat)(r:ForInStep LoT)(ax:ao):Prop:=(∃g,ax=qp st g)/\match r with
 | .done c=>(match c.1 with | some m=>qd κ a.toList b.toList m.toList | none=>Alive κ a b N c.2.1 c.2.2.1 c.2.2.2.1)
 | .yield c=>c.1=none/\Alive κ a b N c.2.1 c.2.2.1 c.2.2.2.1
theorem jdp{out:Array Keyed}{ia ib:Nat}:(zx a b out ia ib).toList=out.toList++a.toList.drop ia++b.toList.drop ib:=by
 unfold zx;rw[dQ,dQ,KN,KN]
theorem jde{out:Array Keyed}{ia ib:Nat}:(Jl a b out ia ib).toList=out.toList++b.toList.drop ib++a.toList.drop ia:=by
 unfold Jl;rw[dQ,dQ,KN,KN]
theorem MC.fin{out:Array Keyed}{ia ib:Nat}(C:MC κ a b)(I:LoI κ a.toList b.toList out.toList ia ib)(h:ia=a.size\/ib=b.size):qd κ a.toList b.toList (zx a b out ia ib).toList:=by
 rw[jdp];refine I.done C.sa C.sb fun x hx y hy=>?_
 rcases h with rfl | rfl
 .rw[sN (by simp)]at hx;cases hx
 .rw[sN (by simp)]at hy;cases hy
theorem MC.fin2{out:Array Keyed}{ia ib:Nat}(C:MC κ a b)(I:LoI κ a.toList b.toList out.toList ia ib)(h:ia+1=a.size):qd κ a.toList b.toList (Jl a b out ia ib).toList:=by
 rw[jde];refine I.last C.sa C.sb fun x hx y hy=>?_
 obtain⟨j,hj,_,rfl⟩:=ye hx;obtain⟨i,hi,h1,rfl⟩:=ye hy;have:i=a.size - 1:=by omega
 subst this;exact C.last j hj hi
theorem zI{out:Array Keyed}{x:Keyed}:(out.push x).toList=out.toList++[x]:=by simp
theorem MC.pushA{out:Array Keyed}{ia ib:Nat}(C:MC κ a b)(I:LoI κ a.toList b.toList out.toList ia ib)(hi:ia < a.size)(h:∀j (hj:j < b.size),ib<=j->Le κ a[ia] b[j]):LoI κ a.toList b.toList (out.push a[ia]).toList (ia+1) ib:=by
 have:=I.pushA C.sa (by simpa using hi) fun y hy=>by
  obtain⟨j,hj,h1,rfl⟩:=ye hy;rw[cZ];exact h j hj h1
 rw[cZ]at this;rw[zI];exact this
theorem MC.pushB{out:Array Keyed}{ia ib:Nat}(C:MC κ a b)(I:LoI κ a.toList b.toList out.toList ia ib)(hi:ib < b.size)(h:∀j (hj:j < a.size),ia<=j->Le κ b[ib] a[j]):LoI κ a.toList b.toList (out.push b[ib]).toList ia (ib+1):=by
 have:=I.pushB C.sb (by simpa using hi) fun y hy=>by
  obtain⟨j,hj,h1,rfl⟩:=ye hy;rw[cZ];exact h j hj h1
 rw[cZ]at this;rw[zI];exact this
theorem MC.runA{out:Array Keyed}{ia ib k:Nat}(C:MC κ a b)(I:LoI κ a.toList b.toList out.toList ia ib)(hk:ia+k<=a.size)(h:∀i (hi:i < a.size),ia<=i->i < ia+k->∀j (hj:j < b.size),ib<=j->Le κ a[i] b[j]):LoI κ a.toList b.toList (out++a.extract ia (ia+k)).toList (ia+k) ib:=by
 have:=I.runA C.sa k (by simpa using hk) fun i hi h1 h2 y hy=>by
  obtain⟨j,hj,h3,rfl⟩:=ye hy;rw[cZ];exact h i (by simpa using hi) h1 h2 j hj h3
 rw[dQ,qX,xv];exact this
theorem MC.runB{out:Array Keyed}{ia ib k:Nat}(C:MC κ a b)(I:LoI κ a.toList b.toList out.toList ia ib)(hk:ib+k<=b.size)(h:∀i (hi:i < b.size),ib<=i->i < ib+k->∀j (hj:j < a.size),ia<=j->Le κ b[i] a[j]):LoI κ a.toList b.toList (out++b.extract ib (ib+k)).toList ia (ib+k):=by
 have:=I.runB C.sb k (by simpa using hk) fun i hi h1 h2 y hy=>by
  obtain⟨j,hj,h3,rfl⟩:=ye hy;rw[cZ];exact h i (by simpa using hi) h1 h2 j hj h3
 rw[dQ,qX,xv];exact this
variable {st:ao}{N:Nat}
theorem ke{l:Array Keyed}{i:Nat}{Q:Keyed->ao->Prop}(hi:i < l.size)(h:Q l[i] st):wpS (ai prog w) A E s (elem' l i) Q st:=by
 rw[xp,getElem?_pos l i hi];exact aC h
theorem yS{left:Bool}{key:Keyed}{arr:Array Keyed}{base n aR:Nat}{Q:Option Nat->ao->Prop}(hO:LtAt prog w A E s knd κ)(hk:kindOf st=knd)(hx:kS κ key)(hn:base+n<=arr.size)(hh:aR < n)(hy:∀i (h:i < arr.size),kS κ arr[i])
  (hs:∀i j (hi:i < arr.size) (hj:j < arr.size),base<=i->i<=j->j < base+n->Le κ arr[i] arr[j])
  (h:∀k,k<=n->(∀i (hi:i < arr.size),base<=i->i < base+k->bey κ left key arr[i]=true)->(∀i (hi:i < arr.size),base+k<=i->i < base+n->bey κ left key arr[i]=false)->Q (some k) st):wpS (ai prog w) A E s (qQ left key arr base n aR) Q st:=by
 refine ja1 (κ:=κ) hO hk hx hn hh hy (fun i=>if h:base+i < arr.size then bey κ left key arr[base+i] else false) (fun i hi _=>by rw[dif_pos hi]) (fun i j cS hj aT=>?_) fun k hk=>?_
 .rw[dif_pos (by omega)]at aT |-
  have l1:=hs (base+i) (base+j) (by omega) (by omega) (by omega) (by omega) (by omega)
  cases left with
  | true=>exact KeyOrd.klt_of_kle_of_klt l1 (show κ.klt _ _ from aT)
  | false=>
   have cB:κ.blt (kq κ key) (kq κ arr[base+j])=false:=by simpa[bey]using aT
   have:κ.blt (kq κ key) (kq κ arr[base+i])=false:=dk l1 (show κ.kle _ _ from cB)
   simpa[bey]using this
 .obtain⟨k1,k2,k3⟩:=hk
  refine h k k1 (fun i hi g1 g2=>?_) fun i hi g1 g2=>?_
  .have:=k2 (i - base) (by omega)
   dsimp only at this
   have e:base+(i - base)=i:=by omega
   simp only[e]at this
   rw[dif_pos hi]at this
   exact this
  .have:=k3 (i - base) (by omega) (by omega)
   dsimp only at this
   have e:base+(i - base)=i:=by omega
   simp only[e]at this
   rw[dif_pos hi]at this
   exact this
theorem jbE{key x:Keyed}(h:bey κ true key x=true):Le κ x key:=gV (show κ.klt _ _ from h)
theorem jbF{key x:Keyed}(h:bey κ true key x=false):Le κ key x:=h
theorem jbG{key x:Keyed}(h:bey κ false key x=true):Le κ x key:=by
 have:κ.blt (kq κ key) (kq κ x)=false:=by simpa[bey]using h
 exact this
theorem jbH{key x:Keyed}(h:bey κ false key x=false):κ.klt (kq κ key) (kq κ x):=by
 have:κ.blt (kq κ key) (kq κ x)=true:=by simpa[bey]using h
 exact this
theorem jab(C:MC κ a b){out:Array Keyed}{ia ib mg ac bc g:Nat}(I:LoI κ a.toList b.toList out.toList ia ib)(ha:ia+1 < a.size)(hb:ib < b.size)(hN:N<=ia+1+ib)(h:∀j (hj:j < b.size),ib<=j->Le κ a[ia] b[j]):
  wpS (ai prog w) A E s (jci a b out ia ib mg ac bc) (PL κ a b st N) (qp st g):=by
 unfold jci
 refine av (ke (by omega) ?_)
 have I2:=C.pushA I (by omega) h
 by_cases h1:ia+1+1=a.size
 .rw[MU (by simpa using h1)]
  exact aC ⟨⟨g,rfl⟩,C.fin2 I2 h1⟩
 .rw[MT (by simpa using h1)]
  split
  .exact aC ⟨⟨g,rfl⟩,I2,(by show ia+1+1 < a.size;omega),hb,hN⟩
  .exact aC ⟨⟨g,rfl⟩,rfl,I2,(by show ia+1+1 < a.size;omega),hb,hN⟩
theorem jcJ(C:MC κ a b){out:Array Keyed}{ia ib mg ac k g:Nat}(I:LoI κ a.toList b.toList out.toList ia ib)(ha:ia+1 < a.size)(hb:ib < b.size)(hN:N<=ia+1+ib)(hk:ib+k<=b.size)
  (aS:∀i (hi:i < b.size),ib<=i->i < ib+k->Le κ b[i] a[ia]) (c_:∀j (hj:j < b.size),ib+k<=j->Le κ a[ia] b[j]) :
  wpS (ai prog w) A E s (jbs a b out ia ib mg ac k) (PL κ a b st N) (qp st g):=by
 unfold jbs
 by_cases h0:k > 0
 .rw[MU h0]
  have I2:=C.runB I hk fun i hi h1 h2 j hj h3=>dk (aS i hi h1 h2) (yz C.sa (by omega) hj h3)
  by_cases h1:ib+k=b.size
  .rw[MU (by simpa using h1)]
   exact aC ⟨⟨g,rfl⟩,C.fin I2 (.inr h1)⟩
  .rw[MT (by simpa using h1)]
   exact jab C I2 ha (by omega) (by omega) c_
 .rw[MT h0]
  have:k=0:=by omega
  subst this
  exact jab C I ha hb hN c_
theorem YL(hO:LtAt prog w A E s knd κ)(cf:kindOf st=knd)(C:MC κ a b){out:Array Keyed}{ia ib mg ac bc g:Nat}(I:LoI κ a.toList b.toList out.toList ia ib)(ha:ia+1 < a.size)(hb:ib < b.size)(hN:N<=ia+ib)(h:∀j (hj:j < a.size),ia<=j->Le κ b[ib] a[j]):
  wpS (ai prog w) A E s (ZK a b out ia ib mg ac bc) (PL κ a b st N) (qp st g):=by
 unfold ZK
 refine av (ke hb ?_)
 have I2:=C.pushB I hb h
 by_cases h1:ib+1=b.size
 .rw[MU (by simpa using h1)]
  exact aC ⟨⟨g,rfl⟩,C.fin I2 (.inr h1)⟩
 .rw[MT (by simpa using h1)]
  have dX:ia < a.size:=by omega
  refine av (ke dX ?_)
  refine av (yS (κ:=κ) hO cf (C.ka _ dX) (by omega) (by omega) C.kb (fun i j hi hj _ cS _=>yz C.sb hi hj cS) fun k k1 k2 k3=>?_)
  exact jcJ C I2 ha (by omega) (by omega) (by omega) (fun i hi g1 g2=>jbE (k2 i hi g1 g2)) fun j hj g1=>jbF (k3 j hj g1 (by omega))
theorem jdG(hO:LtAt prog w A E s knd κ)(cf:kindOf st=knd)(C:MC κ a b){out:Array Keyed}{ia ib mg ac bc g:Nat}(L:Alive κ a b N out ia ib):wpS (ai prog w) A E s (jch a b out ia ib mg ac bc) (PL κ a b st N) (qp st g):=by
 obtain⟨I,ha,hb,hN⟩:=L;unfold jch;rw[qg];refine av (e_ ?_);refine av (ke hb ?_);refine av (yS (κ:=κ) hO cf (C.kb _ hb) (by omega) (by omega) C.ka (fun i j hi hj _ cS _=>yz C.sa hi hj cS) fun k k1 k2 k3=>?_)
 .have le:∀i (hi:i < a.size),ia<=i->i < ia+k->Le κ a[i] b[ib]:=fun i hi g1 g2=>jbG (k2 i hi g1 g2)
  have gt:∀i (hi:i < a.size),ia+k<=i->Le κ b[ib] a[i]:=fun i hi g1=>gV (jbH (k3 i hi g1 (by omega)))
  dsimp only;by_cases h0:k > 0
  .rw[MU h0]
   have I2:=C.runA I (k:=k) (by omega) fun i hi g1 g2 j hj g3=>dk (le i hi g1 g2) (yz C.sb hb hj g3)
   by_cases h1:ia+k+1=a.size
   .rw[MU (by simpa using h1)]
    exact aC ⟨⟨mg,rfl⟩,C.fin2 I2 h1⟩
   .rw[MT (by simpa using h1)]
    by_cases h2:ia+k=a.size
    .rw[MU (by simpa using h2)]
     exact aC ⟨⟨mg,rfl⟩,C.fin I2 (.inl h2)⟩
    .rw[MT (by simpa using h2)]
     exact YL (st:=st) (g:=mg) hO cf C I2 (by omega) hb (by omega) gt
  .rw[MT h0]
   have:k=0:=by omega
   subst this;exact YL (st:=st) (g:=mg) hO cf C I ha hb hN gt
theorem Alive.le{M:Nat}{out:Array Keyed}{ia ib:Nat}(h:Alive κ a b N out ia ib)(hm:M<=N):Alive κ a b M out ia ib:=⟨h.inv,h.la,h.lb,aG hm h.many⟩
def PL1(κ:KeyKind)(a b:Array Keyed)(st:ao)(N:Nat)(r:ForInStep jbJ)(ax:ao):Prop:=ax=st/\match r with
 | .done c=>(match c.1 with | some m=>qd κ a.toList b.toList m.toList | none=>Alive κ a b N c.2.1 c.2.2.1 c.2.2.2.1)
 | .yield c=>c.1=none/\Alive κ a b N c.2.1 c.2.2.1 c.2.2.2.1
theorem jdF(hO:LtAt prog w A E s knd κ)(cf:kindOf st=knd)(C:MC κ a b){mg:Nat}{c:jbJ}(L:Alive κ a b N c.2.1 c.2.2.1 c.2.2.2.1):wpS (ai prog w) A E s (je3 a b mg c) (PL1 κ a b st (N+1)) st:=by
 obtain⟨r,out,ia,ib,ac,bc⟩:=c;obtain⟨I,ha,hb,hN⟩:=L;dsimp only at I ha hb hN;unfold je3;dsimp only;have dX:ia < a.size:=by omega
 refine av (ke hb ?_);refine av (ke dX ?_);refine av (Zn hO cf (C.kb _ hb) (C.ka _ dX) ?_);dsimp only
 cases hw:κ.blt (kq κ b[ib]) (kq κ a[ia]) with
 | true=>
  simp only[if_true];refine av (ke hb ?_);have I2:=C.pushB I hb fun j hj h1=>dk (gV (show κ.klt _ _ from hw)) (yz C.sa dX hj h1)
  by_cases h1:ib+1=b.size
  .rw[MU (by simpa using h1)]
   exact aC ⟨rfl,C.fin I2 (.inr h1)⟩
  .rw[MT (by simpa using h1)]
   split
   .exact aC ⟨rfl,I2,ha,(by show ib+1 < b.size;omega),(by show N+1<=ia+(ib+1);omega)⟩
   .exact aC ⟨rfl,rfl,I2,ha,(by show ib+1 < b.size;omega),(by show N+1<=ia+(ib+1);omega)⟩
 | false=>
  simp only[eB,if_false];refine av (ke dX ?_);have I2:=C.pushA I dX fun j hj h1=>dk (show κ.kle _ _ from hw) (yz C.sb hb hj h1)
  by_cases h1:ia+1+1=a.size
  .rw[MU (by simpa using h1)]
   exact aC ⟨rfl,C.fin2 I2 h1⟩
  .rw[MT (by simpa using h1)]
   split
   .exact aC ⟨rfl,I2,(by show ia+1+1 < a.size;omega),hb,(by show N+1<=ia+1+ib;omega)⟩
   .exact aC ⟨rfl,rfl,I2,(by show ia+1+1 < a.size;omega),hb,(by show N+1<=ia+1+ib;omega)⟩
def PL0(κ:KeyKind)(a b:Array Keyed)(st:ao)(N:Nat)(r:ForInStep jbK)(ax:ao):Prop:=(∃g,ax=qp st g)/\match r with
 | .done c=>∃m,c.1=some m/\qd κ a.toList b.toList m.toList
 | .yield c=>c.1=none/\Alive κ a b N c.2.1 c.2.2.1 c.2.2.2.1
theorem jcI(hO:LtAt prog w A E s knd κ)(cf:kindOf st=knd)(C:MC κ a b){c:jbK}{g:Nat}(L:Alive κ a b N c.2.1 c.2.2.1 c.2.2.2.1):wpS (ai prog w) A E s (ZJ a b c) (PL0 κ a b st (N+1)) (qp st g):=by
 obtain⟨r,out,ia,ib,mg⟩:=c;dsimp only at L;unfold ZJ;dsimp only;have EU:0 < a.size+b.size:=by have:=L.lb;omega
 refine av (cF (dz (I:=fun (x:Nat) (d:jbJ) (ax:ao)=>ax=qp st g/\d.1=none/\Alive κ a b (N+min x 1) d.2.1 d.2.2.1 d.2.2.2.1)
  (Q:=fun (d:jbJ) (ax:ao)=>ax=qp st g/\match d.1 with | some m=>qd κ a.toList b.toList m.toList | none=>Alive κ a b (N+1) d.2.1 d.2.2.1 d.2.2.2.1) ?step ?fin ⟨rfl,rfl,L⟩) ?post)
 case fin=>
  rintro d ax ⟨rfl,hd,L'⟩
  refine⟨rfl,?_⟩
  rw[hd]
  exact L'.le (by omega)
 case step=>
  rintro x d ax _ hx ⟨rfl,hd,L'⟩
  refine cF (jdF (st:=qp st g) hO cf C L') fun r bU hr=>?_
  obtain⟨rfl,hr⟩:=hr
  cases r with
  | done e=>
   refine⟨rfl,?_⟩;dsimp only at hr |-
   cases he:e.1 with
   | some m=>rw[he]at hr;exact hr
   | none=>rw[he]at hr;exact Alive.le hr (by omega)
  | yield e=>exact⟨rfl,hr.1,hr.2.le (by omega)⟩
 case post=>
  rintro⟨d1,d2,d3,d4,d5,d6⟩ ax ⟨rfl,hd⟩
  cases d1 with
  | some m=>exact aC ⟨⟨g,rfl⟩,m,rfl,hd⟩
  | none=>
   dsimp only at hd |-;refine av (mL (iu ⟨rfl,?_⟩));refine av (cF (dz (I:=fun (x:Nat) (e:LoT) (ax:ao)=>(∃g',ax=qp st g')/\e.1=none/\Alive κ a b (N+1) e.2.1 e.2.2.1 e.2.2.2.1)
    (Q:=fun (e:LoT) (ax:ao)=>(∃g',ax=qp st g')/\match e.1 with | some m=>qd κ a.toList b.toList m.toList | none=>Alive κ a b (N+1) e.2.1 e.2.2.1 e.2.2.2.1) ?step2 ?fin2 ⟨⟨g,rfl⟩,rfl,hd⟩) ?post2)
   case fin2=>
    rintro e ax ⟨hg,he,L'⟩
    refine⟨hg,?_⟩
    rw[he]
    exact L'
   case step2=>
    rintro x e ax _ hx ⟨⟨g',rfl⟩,he,L'⟩
    split
    all_goals
     refine cF (jdG (st:=st) hO cf C L') fun r bU hr=>?_
     obtain⟨hg,hr⟩:=hr
     cases r with
     | done e=>exact⟨hg,hr⟩
     | yield e=>exact⟨hg,hr⟩
   case post2=>
    rintro⟨e1,e2,e3,e4,e5,e6,e7⟩ ax ⟨⟨g',rfl⟩,he⟩
    cases e1 with
    | some m=>exact aC ⟨⟨g',rfl⟩,m,rfl,he⟩
    | none=>
     dsimp only at he |-;rw[qg];exact av (e_ (aC ⟨⟨_,rfl⟩,rfl,he⟩))
theorem jad{Q:Array Keyed->ao->Prop}(hO:LtAt prog w A E s knd κ)(cf:kindOf st=knd)(C:MC κ a b)(ha:0 < a.size)(hb:0 < b.size)(h1:∀i (h:i < a.size),Le κ b[0] a[i])
  (h:∀m g,qd κ a.toList b.toList m.toList->Q m (qp st g)):wpS (ai prog w) A E s (JP a b) Q st:=by
 rw[jaG]
 refine av (mL (iu ⟨rfl,?_⟩))
 refine av (ke hb ?_)
 have I:LoI κ a.toList b.toList (#[b[0]]:Array Keyed).toList 0 1:=by
  have I0:LoI κ a.toList b.toList (#[]:Array Keyed).toList 0 0:=⟨Mt _,List.Pairwise.nil,fun x hx=>(by cases hx),fun x hx=>(by cases hx)⟩
  exact C.pushB I0 hb fun j hj _=>h1 j hj
 by_cases de:1=b.size
 .rw[MU (by simpa using de)]
  exact aC (h _ (gU st) (C.fin I (.inr de)))
 .rw[MT (by simpa using de)]
  by_cases ha1:0+1=a.size
  .rw[MU (by simpa using ha1)]
   exact aC (h _ (gU st) (C.fin2 I ha1))
  .rw[MT (by simpa using ha1)]
   refine av (fb ?_)
   refine av (cF (dz (I:=fun (x:Nat) (c:jbK) (ax:ao)=>(∃g,ax=qp st g)/\c.1=none/\Alive κ a b x c.2.1 c.2.2.1 c.2.2.2.1)
    (Q:=fun (c:jbK) (ax:ao)=>(∃g,ax=qp st g)/\∃m,c.1=some m/\qd κ a.toList b.toList m.toList) ?step ?fin ⟨⟨gU st,rfl⟩,rfl,I,(by show 0+1 < a.size;omega),(by show 1 < b.size;omega),bF _⟩) ?post)
   case fin=>
    rintro c ax ⟨hg,hc,L⟩
    have:=L.many
    have:=L.la
    have:=L.lb
    omega
   case step=>
    rintro x c ax _ hx ⟨⟨g,rfl⟩,hc,L⟩
    refine cF (jcI (st:=st) hO cf C L) fun r bU hr=>?_
    obtain⟨hg,hr⟩:=hr
    cases r with
    | done e=>exact⟨hg,hr⟩
    | yield e=>exact⟨hg,hr⟩
   case post=>
    rintro⟨c1,c2⟩ ax ⟨⟨g,rfl⟩,m,hm,hg⟩
    dsimp only at hm
    subst hm
    exact aC (h m g hg)
end
section
variable {κ:KeyKind}{knd:fc}{A B L:List Keyed}{na nb:Nat}
structure HiI(κ:KeyKind)(A B L:List Keyed)(na nb:Nat):Prop where
 perm:L.Perm (A.drop na++B.drop nb)
 srt:L.Pairwise fun p q=>Le κ q p
 ba:∀x∈L,∀y∈A.take na,Le κ y x
 bb:∀x∈L,∀y∈B.take nb,Le κ y x
theorem HiI.swap(I:HiI κ A B L na nb):HiI κ B A L nb na:=⟨I.perm.trans iE,I.srt,I.bb,I.ba⟩
theorem HiI.pushA(I:HiI κ A B L (na+1) nb)(sa:SL κ A)(hi:na < A.length)(h:∀y∈B.take nb,Le κ y A[na]):HiI κ A B (L++[A[na]]) na nb:=by
 have et:A.take (na+1)=A.take na++[A[na]]:=by rw[dO,aK hi];rfl
 refine⟨?_,?_,fun x hx y hy=>?_,fun x hx y hy=>?_⟩
 .rw[yy hi]
  refine (I.perm.append_right _).trans ?_;exact iE
 .exact f_.mpr ⟨I.srt,sL _ _,fun x hx y hy=>by
   cases aM.mp hy
   exact I.ba x hx _ (by rw[et];exact ck _ (aM.mpr rfl))⟩
 .rcases bx.mp hx with hx | hx
  .exact I.ba x hx y (by rw[et];exact xA _ hy)
  .cases aM.mp hx
   have:=sa.take (i:=na+1);rw[et]at this;exact (f_.mp this).2.2 y hy _ (by simp)
 .rcases bx.mp hx with hx | hx
  .exact I.bb x hx y hy
  .cases aM.mp hx
   exact h y hy
theorem HiI.runA(sa:SL κ A){at_:Nat}:∀k {L:List Keyed},HiI κ A B L (at_+k) nb->at_+k<=A.length->(∀i (h:i < A.length),at_<=i->i < at_+k->∀y∈B.take nb,Le κ y A[i])->HiI κ A B (L++((A.drop at_).take k).reverse) at_ nb
 | 0,L,I,_,_=>by
  rw[sK,List.reverse_nil,gh];exact I
 | k+1,L,I,hk,h=>by
  have hi:at_+k < A.length:=by omega
  have I2:HiI κ A B (L++[A[at_+k]]) (at_+k) nb:=HiI.pushA I sa hi (h _ hi (by omega) (by omega));have ih:=HiI.runA sa k I2 (by omega) fun i hi h1 h2=>h i hi h1 (by omega)
  rw[bE]at ih;rw[dO,DN,aK hi,List.reverse_append];exact ih
theorem HiI.done(I:HiI κ A B L na nb)(sa:SL κ A)(sb:SL κ B)(h:∀x∈A.take na,∀y∈B.take nb,Le κ x y):qd κ A B (A.take na++B.take nb++L.reverse):=by
 refine⟨?_,?_⟩
 .have e1:=lH na A
  have e2:=lH nb B;have h1:(A.take na++B.take nb++L.reverse).Perm ((A.take na++B.take nb)++(A.drop na++B.drop nb)):=((List.reverse_perm L).trans I.perm).append_left _;refine h1.trans ?_;have h2:((A.take na++B.take nb)++(A.drop na++B.drop nb)).Perm ((A.take na++A.drop na)++(B.take nb++B.drop nb)):=by
   rw[bE,bE];refine Mu _ ?_;rw[<- bE,<- bE];exact iE.append_right _
  rw[e1,e2]at h2;exact h2
 .refine f_.mpr ⟨f_.mpr ⟨sa.take,sb.take,h⟩,List.pairwise_reverse.mpr I.srt,fun x hx y hy=>?_⟩
  have dE:=List.mem_reverse.mp hy;rcases bx.mp hx with hx | hx
  .exact I.ba y dE x hx
  .exact I.bb y dE x hx
theorem HiI.first(I:HiI κ A B L na nb)(sa:SL κ A)(sb:SL κ B)(h:∀x∈B.take nb,∀y∈A.take na,Le κ x y):qd κ A B (B.take nb++A.take na++L.reverse):=by
 obtain⟨h1,h2⟩:=I.swap.done sb sa h;exact⟨h1.trans iE,h2⟩
end
abbrev zy(a b out:Array Keyed)(na nb:Nat):Array Keyed:=a.extract 0 na++b.extract 0 nb++out.reverse
abbrev yw(a b out:Array Keyed)(na nb:Nat):Array Keyed:=b.extract 0 nb++a.extract 0 na++out.reverse
abbrev HiT:Type:=Option (Array Keyed)×Nat×Nat×Array Keyed×Nat×Nat×Nat
abbrev jbL:Type:=Option (Array Keyed)×Nat×Nat×Array Keyed×Nat×Nat
abbrev jbM:Type:=Option (Array Keyed)×Nat×Nat×Array Keyed×Nat
def jcq(a b:Array Keyed)(na nb:Nat)(out:Array Keyed)(mg ac bc:Nat):StateT ao Sem (ForInStep HiT):=do
 let x <- elem' a (na - 1)
 if na - 1 == 0 then return .done (some (zy a b (out.push x) (na - 1) nb),na - 1,nb,out.push x,mg,ac,bc)
 else if (decide (ac < 7) && decide (bc < 7))=true then return .done (none,na - 1,nb,out.push x,mg,ac,bc)
 else return .yield (none,na - 1,nb,out.push x,mg,ac,bc)
def jbw(a b:Array Keyed)(na nb:Nat)(out:Array Keyed)(mg ac at_:Nat):StateT ao Sem (ForInStep HiT):=
 if nb - at_ > 0 then
  if at_ == 1 then return .done (some (yw a b (out++(b.extract at_ nb).reverse) na at_),na,at_,out++(b.extract at_ nb).reverse,mg,ac,nb - at_)
  else if at_ == 0 then return .done (some (zy a b (out++(b.extract at_ nb).reverse) na at_),na,at_,out++(b.extract at_ nb).reverse,mg,ac,nb - at_)
  else jcq a b na at_ (out++(b.extract at_ nb).reverse) mg ac (nb - at_)
 else jcq a b na nb out mg ac (nb - at_)
def ZR(a b:Array Keyed)(na nb:Nat)(out:Array Keyed)(mg ac bc:Nat):StateT ao Sem (ForInStep HiT):=do
 let y <- elem' b (nb - 1)
 if nb - 1 == 1 then return .done (some (yw a b (out.push y) na (nb - 1)),na,nb - 1,out.push y,mg,ac,bc)
 else do
  let x <- elem' a (na - 1)
  let r <- qQ true x b 0 (nb - 1) (nb - 1 - 1)
  match r with
  | some at_=>jbw a b na (nb - 1) (out.push y) mg ac at_
  | _=>return .done (some (zy a b (out.push y) na (nb - 1)),na,nb - 1,out.push y,mg,ac,bc)
def jcp(a b:Array Keyed)(na nb:Nat)(out:Array Keyed)(mg ac bc:Nat):StateT ao Sem (ForInStep HiT):=do
 qk mg
 let y <- elem' b (nb - 1)
 let r <- qQ false y a 0 na (na - 1)
 match r with
 | some at_=>
  if na - at_ > 0 then
   if at_ == 0 then return .done (some (zy a b (out++(a.extract at_ na).reverse) at_ nb),at_,nb,out++(a.extract at_ na).reverse,mg,na - at_,bc)
   else ZR a b at_ nb (out++(a.extract at_ na).reverse) mg (na - at_) bc
  else ZR a b na nb out mg (na - at_) bc
 | _=>return .done (some (zy a b out na nb),na,nb,out,mg,ac,bc)
def jfc(a b:Array Keyed)(mg:Nat)(c:jbL):StateT ao Sem (ForInStep jbL):=do
 let y <- elem' b (c.2.2.1 - 1)
 let x <- elem' a (c.2.1 - 1)
 let r <- lt' y x
 match r with
 | some aWins=>
  if aWins=true then do
   let x <- elem' a (c.2.1 - 1)
   if c.2.1 - 1 == 0 then return .done (some (zy a b (c.2.2.2.1.push x) (c.2.1 - 1) c.2.2.1),c.2.1 - 1,c.2.2.1,c.2.2.2.1.push x,c.2.2.2.2.1+1,0)
   else if c.2.2.2.2.1+1 >= mg then return .done (none,c.2.1 - 1,c.2.2.1,c.2.2.2.1.push x,c.2.2.2.2.1+1,0)
   else return .yield (none,c.2.1 - 1,c.2.2.1,c.2.2.2.1.push x,c.2.2.2.2.1+1,0)
  else do
   let y <- elem' b (c.2.2.1 - 1)
   if c.2.2.1 - 1 == 1 then return .done (some (yw a b (c.2.2.2.1.push y) c.2.1 (c.2.2.1 - 1)),c.2.1,c.2.2.1 - 1,c.2.2.2.1.push y,0,c.2.2.2.2.2+1)
   else if c.2.2.2.2.2+1 >= mg then return .done (none,c.2.1,c.2.2.1 - 1,c.2.2.2.1.push y,0,c.2.2.2.2.2+1)
   else return .yield (none,c.2.1,c.2.2.1 - 1,c.2.2.2.1.push y,0,c.2.2.2.2.2+1)
 | _=>return .done (some (zy a b c.2.2.2.1 c.2.1 c.2.2.1),c.2.1,c.2.2.1,c.2.2.2.1,c.2.2.2.2.1,c.2.2.2.2.2)
def ZQ(a b:Array Keyed)(c:jbM):StateT ao Sem (ForInStep jbM):=do
 let d <- forIn [0:a.size+b.size] ((none,c.2.1,c.2.2.1,c.2.2.2.1,0,0):jbL) fun _ d=>jfc a b c.2.2.2.2 d
 match d.1 with
 | some r=>return .done (some r,d.2.1,d.2.2.1,d.2.2.2.1,c.2.2.2.2)
 | none=>do
  rule "list.sort.gallop"
  let e <- forIn [0:a.size+b.size] ((none,d.2.1,d.2.2.1,d.2.2.2.1,c.2.2.2.2+1,d.2.2.2.2.1,d.2.2.2.2.2):HiT) fun _ e=>
   if e.2.2.2.2.1 > 1 then jcp a b e.2.1 e.2.2.1 e.2.2.2.1 (e.2.2.2.2.1 - 1) e.2.2.2.2.2.1 e.2.2.2.2.2.2
   else jcp a b e.2.1 e.2.2.1 e.2.2.2.1 e.2.2.2.2.1 e.2.2.2.2.2.1 e.2.2.2.2.2.2
  match e.1 with
  | some r=>return .done (some r,e.2.1,e.2.2.1,e.2.2.2.1,e.2.2.2.2.1)
  | none=>do
   qk (e.2.2.2.2.1+1)
   return .yield (none,e.2.1,e.2.2.1,e.2.2.2.1,e.2.2.2.2.1+1)
set_option maxHeartbeats 4000000 in
theorem jaH(a b:Array Keyed):JQ a b=(do
 rule "list.sort.merge-hi"
 let y <- elem' a (a.size - 1)
 if a.size - 1 == 0 then return zy a b #[y] (a.size - 1) b.size
 else if b.size == 1 then return yw a b #[y] (a.size - 1) b.size
 else do
  let s <- get
  let c <- forIn [0:a.size+b.size] ((none,a.size - 1,b.size,#[y],gU s):jbM) fun _ c=>ZQ a b c
  match c.1 with
  | some r=>pure r
  | none=>unsupported "internal:list.sort.merge-bound"):=by
 have e0:JQ a b=((_:StateT ao Sem Unit) >>= (_:Unit->StateT ao Sem (Array Keyed))):=rfl
 rw[e0]
 congr 1;funext u
 dsimp only
 congr 1;funext y
 congr 1
 congr 1
 congr 1;funext s
 congr 1
 rotate_left
 .funext c
  obtain⟨c1,c2,c3,c4,c5⟩:=c
  cases c1 <;> rfl
 congr 1
 funext x c
 unfold ZQ
 congr 1
 funext d
 obtain⟨d1,d2,d3,d4,d5,d6⟩:=d
 cases d1 with
 | some r=>rfl
 | none=>
  dsimp only
  congr 1;funext _
  congr 1
  funext e
  obtain⟨e1,e2,e3,e4,e5,e6,e7⟩:=e
  cases e1 <;> rfl
section
variable {prog:az}{w:aw}{A:aL}{E:ae->af->Prop}{s:af}{κ:KeyKind}{knd:fc}{a b:Array Keyed}
theorem yd{l:Array Keyed}{n:Nat}{y:Keyed}(h:y∈l.toList.take n):∃j,∃h:j < l.size,j < n/\y=l[j]:=by
 obtain⟨i,hi,rfl⟩:=oF.mp h;rw[bZ]at hi;refine⟨i,by simp at hi;omega,by omega,?_⟩;rw[Mh,cZ]
theorem JW{l:Array Keyed}{n:Nat}:(l.extract 0 n).toList=l.toList.take n:=by
 rw[qX,List.drop_zero,Nat.sub_zero]
theorem jaP{out:Array Keyed}{na nb:Nat}:(zy a b out na nb).toList=a.toList.take na++b.toList.take nb++out.toList.reverse:=by
 unfold zy;rw[dQ,dQ,JW,JW,xF]
theorem ZT{out:Array Keyed}{na nb:Nat}:(yw a b out na nb).toList=b.toList.take nb++a.toList.take na++out.toList.reverse:=by
 unfold yw;rw[dQ,dQ,JW,JW,xF]
structure MD(κ:KeyKind)(a b:Array Keyed):Prop where
 ka:∀i (h:i < a.size),kS κ a[i]
 kb:∀i (h:i < b.size),kS κ b[i]
 sa:SL κ a.toList
 sb:SL κ b.toList
 first:∀i (h:i < a.size) (h':0 < b.size),Le κ b[0] a[i]
structure AliveH(κ:KeyKind)(a b:Array Keyed)(N:Nat)(out:Array Keyed)(na nb:Nat):Prop where
 inv:HiI κ a.toList b.toList out.toList na nb
 la:0 < na
 la2:na<=a.size
 lb:1 < nb
 lb2:nb<=b.size
 many:N+na+nb<=a.size+b.size
theorem MD.fin{out:Array Keyed}{na nb:Nat}(C:MD κ a b)(I:HiI κ a.toList b.toList out.toList na nb)(h:na=0\/nb=0):qd κ a.toList b.toList (zy a b out na nb).toList:=by
 rw[jaP];refine I.done C.sa C.sb fun x hx y hy=>?_
 rcases h with rfl | rfl
 .cases hx
 .cases hy
theorem MD.fin2{out:Array Keyed}{na nb:Nat}(C:MD κ a b)(I:HiI κ a.toList b.toList out.toList na nb)(h:nb=1):qd κ a.toList b.toList (yw a b out na nb).toList:=by
 rw[ZT];refine I.first C.sa C.sb fun x hx y hy=>?_
 obtain⟨j,hj,g1,rfl⟩:=yd hx;obtain⟨i,hi,g2,rfl⟩:=yd hy;have:j=0:=by omega
 subst this;exact C.first i hi hj
theorem MD.pushA{out:Array Keyed}{na nb:Nat}(C:MD κ a b)(I:HiI κ a.toList b.toList out.toList na nb)(h0:0 < na)(hi:na - 1 < a.size)(h:∀j (hj:j < b.size),j < nb->Le κ b[j] a[na - 1]):HiI κ a.toList b.toList (out.push a[na - 1]).toList (na - 1) nb:=by
 obtain⟨n,rfl⟩:∃n,na=n+1:=⟨na - 1,by omega⟩
 have:=I.pushA C.sa (by simpa using hi) fun y hy=>by
  obtain⟨j,hj,h1,rfl⟩:=yd hy;rw[cZ];exact h j hj h1
 rw[cZ]at this;rw[zI];exact this
theorem MD.pushB{out:Array Keyed}{na nb:Nat}(C:MD κ a b)(I:HiI κ a.toList b.toList out.toList na nb)(h0:0 < nb)(hi:nb - 1 < b.size)(h:∀j (hj:j < a.size),j < na->Le κ a[j] b[nb - 1]):HiI κ a.toList b.toList (out.push b[nb - 1]).toList na (nb - 1):=by
 obtain⟨n,rfl⟩:∃n,nb=n+1:=⟨nb - 1,by omega⟩
 have:=I.swap.pushA C.sb (by simpa using hi) fun y hy=>by
  obtain⟨j,hj,h1,rfl⟩:=yd hy;rw[cZ];exact h j hj h1
 rw[cZ]at this;rw[zI];exact this.swap
theorem MD.runA{out:Array Keyed}{na nb at_:Nat}(C:MD κ a b)(I:HiI κ a.toList b.toList out.toList na nb)(hk:at_<=na)(hn:na<=a.size)(h:∀i (hi:i < a.size),at_<=i->i < na->∀j (hj:j < b.size),j < nb->Le κ b[j] a[i]):HiI κ a.toList b.toList (out++(a.extract at_ na).reverse).toList at_ nb:=by
 obtain⟨k,rfl⟩:∃k,na=at_+k:=⟨na - at_,by omega⟩
 have:=HiI.runA C.sa k I (by simpa using hn) fun i hi h1 h2 y hy=>by
  obtain⟨j,hj,h3,rfl⟩:=yd hy;rw[cZ];exact h i (by simpa using hi) h1 h2 j hj h3
 rw[dQ,xF,qX,xv];exact this
theorem MD.runB{out:Array Keyed}{na nb at_:Nat}(C:MD κ a b)(I:HiI κ a.toList b.toList out.toList na nb)(hk:at_<=nb)(hn:nb<=b.size)(h:∀i (hi:i < b.size),at_<=i->i < nb->∀j (hj:j < a.size),j < na->Le κ a[j] b[i]):HiI κ a.toList b.toList (out++(b.extract at_ nb).reverse).toList na at_:=by
 obtain⟨k,rfl⟩:∃k,nb=at_+k:=⟨nb - at_,by omega⟩
 have:=HiI.runA C.sb k I.swap (by simpa using hn) fun i hi h1 h2 y hy=>by
  obtain⟨j,hj,h3,rfl⟩:=yd hy;rw[cZ];exact h i (by simpa using hi) h1 h2 j hj h3
 rw[dQ,xF,qX,xv];exact this.swap
variable {st:ao}{N:Nat}
def PH(κ:KeyKind)(a b:Array Keyed)(st:ao)(N:Nat)(r:ForInStep HiT)(ax:ao):Prop:=(∃g,ax=qp st g)/\match r with
 | .done c=>(match c.1 with | some m=>qd κ a.toList b.toList m.toList | none=>AliveH κ a b N c.2.2.2.1 c.2.1 c.2.2.1)
 | .yield c=>c.1=none/\AliveH κ a b N c.2.2.2.1 c.2.1 c.2.2.1
theorem jac(C:MD κ a b){out:Array Keyed}{na nb mg ac bc g:Nat}(I:HiI κ a.toList b.toList out.toList na nb)(ha:0 < na)(dH:na<=a.size)(hb:1 < nb)(cB:nb<=b.size)(hN:N+na+nb<=a.size+b.size+1)(h:∀j (hj:j < b.size),j < nb->Le κ b[j] (a[na - 1]'(by omega))):
  wpS (ai prog w) A E s (jcq a b na nb out mg ac bc) (PH κ a b st N) (qp st g):=by
 unfold jcq
 refine av (ke (by omega) ?_)
 have I2:=C.pushA I ha (by omega) h
 by_cases h1:na - 1=0
 .rw[MU (by simpa using h1)]
  exact aC ⟨⟨g,rfl⟩,C.fin I2 (.inl h1)⟩
 .rw[MT (by simpa using h1)]
  have L:AliveH κ a b N (out.push (a[na - 1]'(by omega))) (na - 1) nb:=⟨I2,by omega,by omega,hb,cB,by omega⟩
  split
  .exact aC ⟨⟨g,rfl⟩,L⟩
  .exact aC ⟨⟨g,rfl⟩,rfl,L⟩
theorem jcL(C:MD κ a b){out:Array Keyed}{na nb mg ac at_ g:Nat}(I:HiI κ a.toList b.toList out.toList na nb)(ha:0 < na)(dH:na<=a.size)(hb:1 < nb)(cB:nb<=b.size)(hN:N+na+nb<=a.size+b.size+1)(hk:at_<=nb)
  (aS:∀i (hi:i < b.size),i < at_->Le κ b[i] (a[na - 1]'(by omega))) (c_:∀j (hj:j < b.size),at_<=j->j < nb->Le κ (a[na - 1]'(by omega)) b[j]) :
  wpS (ai prog w) A E s (jbw a b na nb out mg ac at_) (PH κ a b st N) (qp st g):=by
 unfold jbw
 by_cases h0:nb - at_ > 0
 .rw[MU h0]
  have I2:=C.runB I (at_:=at_) (by omega) cB fun i hi h1 h2 j hj h3=>dk (yz C.sa hj (by omega) (by omega)) (c_ i hi h1 h2)
  by_cases h1:at_=1
  .rw[MU (by simpa using h1)]
   exact aC ⟨⟨g,rfl⟩,C.fin2 I2 h1⟩
  .rw[MT (by simpa using h1)]
   by_cases h2:at_=0
   .rw[MU (by simpa using h2)]
    exact aC ⟨⟨g,rfl⟩,C.fin I2 (.inr h2)⟩
   .rw[MT (by simpa using h2)]
    exact jac C I2 ha dH (by omega) (by omega) (by omega) fun j hj h3=>aS j hj h3
 .rw[MT h0]
  exact jac C I ha dH hb cB hN fun j hj h3=>aS j hj (by omega)
theorem YM(hO:LtAt prog w A E s knd κ)(cf:kindOf st=knd)(C:MD κ a b){out:Array Keyed}{na nb mg ac bc g:Nat}(I:HiI κ a.toList b.toList out.toList na nb)(ha:0 < na)(dH:na<=a.size)(hb:1 < nb)(cB:nb<=b.size)(hN:N+na+nb<=a.size+b.size)
  (h:∀j (hj:j < a.size),j < na->Le κ a[j] (b[nb - 1]'(by omega))):wpS (ai prog w) A E s (ZR a b na nb out mg ac bc) (PH κ a b st N) (qp st g):=by
 unfold ZR
 refine av (ke (by omega) ?_)
 have I2:=C.pushB I (by omega) (by omega) h
 by_cases h1:nb - 1=1
 .rw[MU (by simpa using h1)]
  exact aC ⟨⟨g,rfl⟩,C.fin2 I2 h1⟩
 .rw[MT (by simpa using h1)]
  refine av (ke (by omega) ?_)
  refine av (yS (κ:=κ) hO cf (C.ka _ (by omega)) (by omega) (by omega) C.kb (fun i j hi hj _ cS _=>yz C.sb hi hj cS) fun k k1 k2 k3=>?_)
  exact jcL C I2 ha dH (by omega) (by omega) (by omega) k1 (fun i hi g2=>jbE (k2 i hi (bF _) (by omega))) fun j hj g1 g2=>jbF (k3 j hj (by omega) (by omega))
theorem jdI(hO:LtAt prog w A E s knd κ)(cf:kindOf st=knd)(C:MD κ a b){out:Array Keyed}{na nb mg ac bc g:Nat}(L:AliveH κ a b N out na nb):wpS (ai prog w) A E s (jcp a b na nb out mg ac bc) (PH κ a b st N) (qp st g):=by
 obtain⟨I,ha,dH,hb,cB,hN⟩:=L;unfold jcp;rw[qg];refine av (e_ ?_);refine av (ke (by omega) ?_);refine av (yS (κ:=κ) hO cf (C.kb _ (by omega)) (by omega) (by omega) C.ka (fun i j hi hj _ cS _=>yz C.sa hi hj cS) fun k k1 k2 k3=>?_);have le:∀i (hi:i < a.size),i < k->Le κ a[i] (b[nb - 1]'(by omega)):=fun i hi g2=>jbG (k2 i hi (bF _) (by omega))
 have gt:∀i (hi:i < a.size),k<=i->i < na->Le κ (b[nb - 1]'(by omega)) a[i]:=fun i hi g1 g2=>gV (jbH (k3 i hi (by omega) (by omega)))
 dsimp only;by_cases h0:na - k > 0
 .rw[MU h0]
  have I2:=C.runA I (at_:=k) (by omega) dH fun i hi g1 g2 j hj g3=>dk (yz C.sb hj (by omega) (by omega)) (gt i hi g1 g2)
  by_cases h1:k=0
  .rw[MU (by simpa using h1)]
   exact aC ⟨⟨mg,rfl⟩,C.fin I2 (.inl h1)⟩
  .rw[MT (by simpa using h1)]
   exact YM (st:=st) (g:=mg) hO cf C I2 (by omega) (by omega) hb cB (by omega) fun j hj g1=>le j hj g1
 .rw[MT h0]
  exact YM (st:=st) (g:=mg) hO cf C I ha dH hb cB hN fun j hj g1=>le j hj (by omega)
theorem AliveH.le{M:Nat}{out:Array Keyed}{na nb:Nat}(h:AliveH κ a b N out na nb)(hm:M<=N):AliveH κ a b M out na nb:=⟨h.inv,h.la,h.la2,h.lb,h.lb2,by have:=h.many;omega⟩
def PH1(κ:KeyKind)(a b:Array Keyed)(st:ao)(N:Nat)(r:ForInStep jbL)(ax:ao):Prop:=ax=st/\match r with
 | .done c=>(match c.1 with | some m=>qd κ a.toList b.toList m.toList | none=>AliveH κ a b N c.2.2.2.1 c.2.1 c.2.2.1)
 | .yield c=>c.1=none/\AliveH κ a b N c.2.2.2.1 c.2.1 c.2.2.1
theorem jdH(hO:LtAt prog w A E s knd κ)(cf:kindOf st=knd)(C:MD κ a b){mg:Nat}{c:jbL}(L:AliveH κ a b N c.2.2.2.1 c.2.1 c.2.2.1):wpS (ai prog w) A E s (jfc a b mg c) (PH1 κ a b st (N+1)) st:=by
 obtain⟨r,na,nb,out,ac,bc⟩:=c;obtain⟨I,ha,dH,hb,cB,hN⟩:=L;dsimp only at I ha dH hb cB hN;unfold jfc;dsimp only;have dX:na - 1 < a.size:=by omega
 have aT:nb - 1 < b.size:=by omega
 refine av (ke aT ?_);refine av (ke dX ?_);refine av (Zn hO cf (C.kb _ aT) (C.ka _ dX) ?_);dsimp only
 cases hw:κ.blt (kq κ b[nb - 1]) (kq κ a[na - 1]) with
 | true=>
  simp only[if_true];refine av (ke dX ?_);have I2:=C.pushA I ha dX fun j hj h1=>dk (yz C.sb hj aT (by omega)) (gV (show κ.klt _ _ from hw))
  by_cases h1:na - 1=0
  .rw[MU (by simpa using h1)]
   exact aC ⟨rfl,C.fin I2 (.inl h1)⟩
  .rw[MT (by simpa using h1)]
   have L2:AliveH κ a b (N+1) (out.push a[na - 1]) (na - 1) nb:=⟨I2,by omega,by omega,hb,cB,by omega⟩
   split
   .exact aC ⟨rfl,L2⟩
   .exact aC ⟨rfl,rfl,L2⟩
 | false=>
  simp only[eB,if_false];refine av (ke aT ?_);have I2:=C.pushB I (by omega) aT fun j hj h1=>dk (yz C.sa hj dX (by omega)) (show κ.kle _ _ from hw)
  by_cases h1:nb - 1=1
  .rw[MU (by simpa using h1)]
   exact aC ⟨rfl,C.fin2 I2 h1⟩
  .rw[MT (by simpa using h1)]
   have L2:AliveH κ a b (N+1) (out.push b[nb - 1]) na (nb - 1):=⟨I2,ha,dH,by omega,by omega,by omega⟩
   split
   .exact aC ⟨rfl,L2⟩
   .exact aC ⟨rfl,rfl,L2⟩
def PH0(κ:KeyKind)(a b:Array Keyed)(st:ao)(N:Nat)(r:ForInStep jbM)(ax:ao):Prop:=(∃g,ax=qp st g)/\match r with
 | .done c=>∃m,c.1=some m/\qd κ a.toList b.toList m.toList
 | .yield c=>c.1=none/\AliveH κ a b N c.2.2.2.1 c.2.1 c.2.2.1
theorem jcK(hO:LtAt prog w A E s knd κ)(cf:kindOf st=knd)(C:MD κ a b){c:jbM}{g:Nat}(L:AliveH κ a b N c.2.2.2.1 c.2.1 c.2.2.1):wpS (ai prog w) A E s (ZQ a b c) (PH0 κ a b st (N+1)) (qp st g):=by
 obtain⟨r,na,nb,out,mg⟩:=c;dsimp only at L;unfold ZQ;dsimp only;have EU:0 < a.size+b.size:=by have:=L.lb;have:=L.lb2;omega
 refine av (cF (dz (I:=fun (x:Nat) (d:jbL) (ax:ao)=>ax=qp st g/\d.1=none/\AliveH κ a b (N+min x 1) d.2.2.2.1 d.2.1 d.2.2.1)
  (Q:=fun (d:jbL) (ax:ao)=>ax=qp st g/\match d.1 with | some m=>qd κ a.toList b.toList m.toList | none=>AliveH κ a b (N+1) d.2.2.2.1 d.2.1 d.2.2.1) ?step ?fin ⟨rfl,rfl,L⟩) ?post)
 case fin=>
  rintro d ax ⟨rfl,hd,L'⟩
  refine⟨rfl,?_⟩
  rw[hd]
  exact L'.le (by omega)
 case step=>
  rintro x d ax _ hx ⟨rfl,hd,L'⟩
  refine cF (jdH (st:=qp st g) hO cf C L') fun r bU hr=>?_
  obtain⟨rfl,hr⟩:=hr
  cases r with
  | done e=>
   refine⟨rfl,?_⟩;dsimp only at hr |-
   cases he:e.1 with
   | some m=>rw[he]at hr;exact hr
   | none=>rw[he]at hr;exact AliveH.le hr (by omega)
  | yield e=>exact⟨rfl,hr.1,hr.2.le (by omega)⟩
 case post=>
  rintro⟨d1,d2,d3,d4,d5,d6⟩ ax ⟨rfl,hd⟩
  cases d1 with
  | some m=>exact aC ⟨⟨g,rfl⟩,m,rfl,hd⟩
  | none=>
   dsimp only at hd |-;refine av (mL (iu ⟨rfl,?_⟩));refine av (cF (dz (I:=fun (x:Nat) (e:HiT) (ax:ao)=>(∃g',ax=qp st g')/\e.1=none/\AliveH κ a b (N+1) e.2.2.2.1 e.2.1 e.2.2.1)
    (Q:=fun (e:HiT) (ax:ao)=>(∃g',ax=qp st g')/\match e.1 with | some m=>qd κ a.toList b.toList m.toList | none=>AliveH κ a b (N+1) e.2.2.2.1 e.2.1 e.2.2.1) ?step2 ?fin2 ⟨⟨g,rfl⟩,rfl,hd⟩) ?post2)
   case fin2=>
    rintro e ax ⟨hg,he,L'⟩
    refine⟨hg,?_⟩
    rw[he]
    exact L'
   case step2=>
    rintro x e ax _ hx ⟨⟨g',rfl⟩,he,L'⟩
    split
    all_goals
     refine cF (jdI (st:=st) hO cf C L') fun r bU hr=>?_
     obtain⟨hg,hr⟩:=hr
     cases r with
     | done e=>exact⟨hg,hr⟩
     | yield e=>exact⟨hg,hr⟩
   case post2=>
    rintro⟨e1,e2,e3,e4,e5,e6,e7⟩ ax ⟨⟨g',rfl⟩,he⟩
    cases e1 with
    | some m=>exact aC ⟨⟨g',rfl⟩,m,rfl,he⟩
    | none=>
     dsimp only at he |-;rw[qg];exact av (e_ (aC ⟨⟨_,rfl⟩,rfl,he⟩))
theorem jae{Q:Array Keyed->ao->Prop}(hO:LtAt prog w A E s knd κ)(cf:kindOf st=knd)(C:MD κ a b)(ha:0 < a.size)(hb:0 < b.size)(h1:∀j (h:j < b.size),Le κ b[j] (a[a.size - 1]'(by omega)))
  (h:∀m g,qd κ a.toList b.toList m.toList->Q m (qp st g)):wpS (ai prog w) A E s (JQ a b) Q st:=by
 rw[jaH]
 refine av (mL (iu ⟨rfl,?_⟩))
 refine av (ke (by omega) ?_)
 have I:HiI κ a.toList b.toList (#[a[a.size - 1]'(by omega)]:Array Keyed).toList (a.size - 1) b.size:=by
  have I0:HiI κ a.toList b.toList (#[]:Array Keyed).toList a.size b.size:=⟨by rw[sN (by simp),sN (by simp)];exact Mt _,List.Pairwise.nil,fun x hx=>(by cases hx),fun x hx=>(by cases hx)⟩
  exact C.pushA I0 ha (by omega) fun j hj _=>h1 j hj
 by_cases de:a.size - 1=0
 .rw[MU (by simpa using de)]
  exact aC (h _ (gU st) (C.fin I (.inl de)))
 .rw[MT (by simpa using de)]
  by_cases ha1:b.size=1
  .rw[MU (by simpa using ha1)]
   exact aC (h _ (gU st) (C.fin2 I ha1))
  .rw[MT (by simpa using ha1)]
   refine av (fb ?_)
   refine av (cF (dz (I:=fun (x:Nat) (c:jbM) (ax:ao)=>(∃g,ax=qp st g)/\c.1=none/\AliveH κ a b x c.2.2.2.1 c.2.1 c.2.2.1)
    (Q:=fun (c:jbM) (ax:ao)=>(∃g,ax=qp st g)/\∃m,c.1=some m/\qd κ a.toList b.toList m.toList) ?step ?fin ⟨⟨gU st,rfl⟩,rfl,I,(by show 0 < a.size - 1;omega),(by show a.size - 1<=a.size;omega),(by show 1 < b.size;omega),aD _,(by show 0+(a.size - 1)+b.size<=_;omega)⟩) ?post)
   case fin=>
    rintro c ax ⟨hg,hc,L⟩
    have:=L.many
    have:=L.la
    have:=L.lb
    omega
   case step=>
    rintro x c ax _ hx ⟨⟨g,rfl⟩,hc,L⟩
    refine cF (jcK (st:=st) hO cf C L) fun r bU hr=>?_
    obtain⟨hg,hr⟩:=hr
    cases r with
    | done e=>exact⟨hg,hr⟩
    | yield e=>exact⟨hg,hr⟩
   case post=>
    rintro⟨c1,c2⟩ ax ⟨⟨g,rfl⟩,m,hm,hg⟩
    dsimp only at hm
    subst hm
    exact aC (h m g hg)
end
def kT(sa:Nat)(M:List Keyed)(arr:Array Keyed):Array Keyed:=M.zipIdx.foldl (fun a (p,j)=>a.setIfInBounds (sa+j) p) arr
def jiY(arr:Array Keyed)(sa na sb nb:Nat):StateT ao Sem Bool:=do
 let m <- if na<=nb then JP (arr.extract sa sb) (arr.extract sb (sb+nb)) else JQ (arr.extract sa sb) (arr.extract sb (sb+nb))
 modify fun s=>setArr s (kT sa m.toList (arrOf s))
 return (eR (<- get)).isNone
def jia(arr:Array Keyed)(sa na sb nb:Nat):StateT ao Sem Bool:=
 if (na == 0)=true then pure true else do
  let x <- elem' arr (sa+na - 1)
  match <- qQ true x arr sb nb (nb - 1) with
  | some m=>if (m == 0)=true then pure true else jiY arr sa na sb m
  | _=>pure false
def jiZ(arr:Array Keyed)(sa na sb nb:Nat):StateT ao Sem Bool:=do
 let y <- elem' arr sb
 match <- qQ false y arr sa na 0 with
 | some k=>jia arr (sa+k) (na - k) sb nb
 | _=>pure false
theorem jaa(sa:Nat):∀(M:List Keyed) (n:Nat) (arr:Array Keyed),sa+n+M.length<=arr.size->
  ((M.zipIdx n).foldl (fun a (p,j)=>a.setIfInBounds (sa+j) p) arr).toList=arr.toList.take (sa+n)++M++arr.toList.drop (sa+n+M.length)
 | [],n,arr,h=>by simp
 | x :: M,n,arr,h=>by
  rw[bM]at h;rw[List.zipIdx_cons,Mo];have ih:=jaa sa M (n+1) (arr.setIfInBounds (sa+n) x) (by rw[Array.size_setIfInBounds];omega);have hl:sa+n < arr.toList.length:=by rw[dA];omega
  have e:(arr.setIfInBounds (sa+n) x).toList=(arr.toList.take (sa+n)++[x])++arr.toList.drop (sa+n+1):=by
   rw[Array.toList_setIfInBounds,List.set_eq_take_append_cons_drop,MU hl,bE];rfl
  have l1:(arr.toList.take (sa+n)++[x]).length=sa+n+1:=by
   rw[bz,bZ];show min _ _+1=_;omega
  rw[ih,e];have e1:sa+(n+1)=sa+n+1:=rfl;rw[e1,List.take_left' l1,List.drop_append,l1];have e2:List.drop (sa+n+1+M.length) (arr.toList.take (sa+n)++[x])=[]:=sN (by omega);have e3:sa+n+1+M.length - (sa+n+1)=M.length:=by omega
  rw[e2,e3,DS,bM];have e4:sa+n+1+M.length=sa+n+(M.length+1):=by omega
  rw[e4];simp
theorem KR{sa:Nat}{M:List Keyed}{arr:Array Keyed}(h:sa+M.length<=arr.size):(kT sa M arr).toList=arr.toList.take sa++M++arr.toList.drop (sa+M.length):=jaa sa M 0 arr h
theorem Jt{sa:Nat}{M:List Keyed}{arr:Array Keyed}(h:sa+M.length<=arr.size)(k:Nat):(kT sa M arr)[k]?=if sa<=k/\k < sa+M.length then M[k - sa]? else arr[k]?:=by
 rw[<- gj,KR h];have hl:(arr.toList.take sa).length=sa:=by rw[bZ,dA];omega
 by_cases h1:k < sa
 .rw[MT (by omega),bE,xC (by omega),List.getElem?_take,MU h1,gj]
 .by_cases h2:k < sa+M.length
  .rw[MU ⟨by omega,h2⟩,bE,oH (by omega),hl,xC (by omega)]
  .rw[MT (by omega),bE,oH (by omega),hl,oH (by omega),DN,gj]
   congr 1;omega
theorem ja0{sa:Nat}{M:List Keyed}{arr:Array Keyed}(h:sa+M.length<=arr.size)(hp:M.Perm ((arr.toList.drop sa).take M.length)):(kT sa M arr).Perm arr:=by
 rw[sP,KR h];have e:arr.toList=arr.toList.take sa++(arr.toList.drop sa).take M.length++arr.toList.drop (sa+M.length):=by
  rw[bE,<- DS,lH,lH]
 refine List.Perm.trans ?_ (List.Perm.of_eq e.symm);exact (hp.append_left _).append_right _
section
variable {prog:az}{w:aw}{A:aL}{E:ae->af->Prop}{s:af}{κ:KeyKind}{knd:fc}{st:ao}{arr:Array Keyed}
def Seg(κ:KeyKind)(arr:Array Keyed)(lo hi:Nat):Prop:=∀i j,lo<=i->i<=j->j < hi->κ.kle (KK κ arr i) (KK κ arr j)
theorem J5{i:Nat}(h:i < arr.size):KK κ arr i=kq κ arr[i]:=by
 unfold KK kq;rw[getElem?_pos arr i h]
theorem jeh{lo hi:Nat}(h:Seg κ arr lo hi)(hh:hi<=arr.size):SL κ (arr.extract lo hi).toList:=by
 refine xw.mpr ?_;intro i j nN ft cS;have e1:(arr.extract lo hi).toList.length=hi - lo:=by simp;omega
 rw[cZ,cZ,lP,lP];have:=h (lo+i) (lo+j) (by omega) (by omega) (by omega);rw[J5 (by omega),J5 (by omega)]at this;exact this
theorem jfD{Q:PUnit->ao->Prop}{st bU:ao}(h:Q ⟨⟩ bU):wpS (ai prog w) A E s (set bU:StateT ao Sem PUnit) Q st:=by
 unfold wpS;rw[StateT.run_set];exact aN ⟨rfl,h⟩
abbrev jcT(st:ao)(arr:Array Keyed)(pend:Array (Nat×Nat×Nat))(g:Nat):ao:=xq (kindOf st) arr pend g (eR st)
theorem jaf{Q:Bool->ao->Prop}{i sa na pw nb Eg:Nat}(hO:LtAt prog w A E s knd κ)(hk:kindOf st=knd)(hf:eR st=none)(hy:∀i (h:i < (arrOf st).size),kS κ (arrOf st)[i])(Fd:(aP st)[i]?=some (sa,na,pw))(eV:(aP st)[i+1]?=some (sa+na,nb,Eg))
  (h0:0 < na) (h1:0 < nb) (hz:sa+na+nb<=(arrOf st).size) (S1:Seg κ (arrOf st) sa (sa+na)) (S2:Seg κ (arrOf st) (sa+na) (sa+na+nb))
  (h:∀fT g,fT.Perm (arrOf st)->Seg κ fT sa (sa+na+nb)->(∀k,k < sa\/sa+na+nb<=k->fT[k]?=(arrOf st)[k]?)->Q true (jcT st fT (((aP st).setIfInBounds i (sa,na+nb,pw)).eraseIdxIfInBounds (i+1)) g)) :
  wpS (ai prog w) A E s (mergeAt' i) Q st:=by
 have e0:mergeAt' i=((get:StateT ao Sem ao) >>= (_:ao->StateT ao Sem Bool)):=rfl
 rw[e0]
 refine av (fb ?_)
 rw[Fd,eV]
 show wpS _ _ _ _ (set (lC st (((aP st).setIfInBounds i (sa,na+nb,pw)).eraseIdxIfInBounds (i+1))) >>= fun _=>jiZ (arrOf st) sa na (sa+na) nb) Q st
 refine av (jfD ?_)
 unfold jiZ
 refine av (ke (by omega) ?_)
 generalize hP:((aP st).setIfInBounds i (sa,na+nb,pw)).eraseIdxIfInBounds (i+1)=P at *
 have Ea:∀i j (hi:i < (arrOf st).size) (hj:j < (arrOf st).size),sa<=i->i<=j->j < sa+na->Le κ (arrOf st)[i] (arrOf st)[j]:=fun i j hi hj g1 g2 g3=>by
  have:=S1 i j g1 g2 g3;rw[J5 hi,J5 hj]at this;exact this
 have D_:∀i j (hi:i < (arrOf st).size) (hj:j < (arrOf st).size),sa+na<=i->i<=j->j < sa+na+nb->Le κ (arrOf st)[i] (arrOf st)[j]:=fun i j hi hj g1 g2 g3=>by
  have:=S2 i j g1 g2 g3;rw[J5 hi,J5 hj]at this;exact this
 refine av (yS (st:=lC st P) (κ:=κ) hO hk (hy _ (by omega)) (by omega) h0 hy Ea fun k k1 k2 k3=>?_)
 have kk:∀i (hi:i < (arrOf st).size),KK κ (arrOf st) i=kq κ (arrOf st)[i]:=fun i hi=>J5 hi
 have F1:∀i,sa<=i->i < sa+k->κ.kle (KK κ (arrOf st) i) (KK κ (arrOf st) (sa+na)):=fun i g1 g2=>by
  rw[kk i (by omega),kk (sa+na) (by omega)];exact jbG (k2 i (by omega) g1 g2)
 show wpS _ _ _ _ (jia (arrOf st) (sa+k) (na - k) (sa+na) nb) Q _
 unfold jia
 by_cases hk0:na - k=0
 .rw[MU (by simpa using hk0)]
  refine aC (h (arrOf st) (gU st) (DZ _) (fun i j g1 g2 g3=>?_) fun _ _=>rfl)
  by_cases hj:j < sa+na
  .exact S1 i j g1 g2 hj
  .by_cases hi:i < sa+na
   .exact dk (F1 i g1 (by omega)) (S2 (sa+na) j (by omega) (by omega) g3)
   .exact S2 i j (by omega) g2 g3
 .rw[MT (by simpa using hk0)]
  have Hb:sa+k+(na - k) - 1=sa+na - 1:=by omega
  rw[Hb]
  refine av (ke (by omega) ?_)
  refine av (yS (st:=lC st P) (κ:=κ) hO hk (hy _ (by omega)) (by omega) (by omega) hy D_ fun m m1 m2 m3=>?_)
  have F2:∀j,sa+na+m<=j->j < sa+na+nb->κ.kle (KK κ (arrOf st) (sa+na - 1)) (KK κ (arrOf st) j):=fun j g1 g2=>by
   rw[kk j (by omega),kk (sa+na - 1) (by omega)];exact jbF (m3 j (by omega) g1 g2)
  dsimp only
  by_cases pB:m=0
  .rw[MU (by simpa using pB)]
   refine aC (h (arrOf st) (gU st) (DZ _) (fun i j g1 g2 g3=>?_) fun _ _=>rfl)
   by_cases hj:j < sa+na
   .exact S1 i j g1 g2 hj
   .by_cases hi:i < sa+na
    .exact dk (S1 i (sa+na - 1) g1 (by omega) (by omega)) (F2 j (by omega) g3)
    .exact S2 i j (by omega) g2 g3
  .rw[MT (by simpa using pB)]
   unfold jiY
   have sx:((arrOf st).extract (sa+k) (sa+na)).size=na - k:=by simp;omega
   have sy:((arrOf st).extract (sa+na) (sa+na+m)).size=m:=by simp;omega
   have SX:SL κ ((arrOf st).extract (sa+k) (sa+na)).toList:=jeh (fun i j g1 g2 g3=>S1 i j (by omega) g2 g3) (by omega)
   have SY:SL κ ((arrOf st).extract (sa+na) (sa+na+m)).toList:=jeh (fun i j g1 g2 g3=>S2 i j g1 g2 (by omega)) (by omega)
   have fin:∀(M:Array Keyed) (g:Nat),qd κ ((arrOf st).extract (sa+k) (sa+na)).toList ((arrOf st).extract (sa+na) (sa+na+m)).toList M.toList->Q true (jcT st (kT (sa+k) M.toList (arrOf st)) P g):=by
    rintro M g ⟨pj,gC⟩;have bf:M.toList.length=na - k+m:=by
     rw[pj.length_eq,bz,dA,dA,sx,sy]
    have hb:sa+k+M.toList.length<=(arrOf st).size:=by omega
    have Hd:((arrOf st).extract (sa+k) (sa+na)).toList++((arrOf st).extract (sa+na) (sa+na+m)).toList=((arrOf st).toList.drop (sa+k)).take M.toList.length:=by
     rw[qX,qX,bf,List.take_add,DS];have e1:sa+na - (sa+k)=na - k:=by omega
     have e2:sa+na+m - (sa+na)=m:=by omega
     have e3:sa+k+(na - k)=sa+na:=by omega
     rw[e1,e2,e3]
    rw[Hd]at pj;have xH:∀i,sa+k<=i->i < sa+na+m->∃p,sa+k<=p/\p < sa+na+m/\KK κ (kT (sa+k) M.toList (arrOf st)) i=KK κ (arrOf st) p:=fun i g1 g2=>by
     have hi:i - (sa+k) < M.toList.length:=by omega
     have hw:=Jt hb i;rw[MU ⟨g1,by omega⟩,aK hi]at hw;have vg:=pj.mem_iff.mp (dP hi);obtain⟨q,hq,eq⟩:=oF.mp vg;have hX:q < M.toList.length:=by
      have:=hq;rw[bZ]at this;omega
     refine⟨sa+k+q,by omega,by omega,lE ?_⟩;rw[hw,<- eq,Mh,Mj,cZ,getElem?_pos (arrOf st) (sa+k+q) (by omega)]
    have Ae:∀i,i < sa+k\/sa+na+m<=i->(kT (sa+k) M.toList (arrOf st))[i]?=(arrOf st)[i]?:=fun i g1=>by
     rw[Jt hb,MT (by omega)]
    have lT:∀i,i < sa+k\/sa+na+m<=i->KK κ (kT (sa+k) M.toList (arrOf st)) i=KK κ (arrOf st) i:=fun i g1=>lE (Ae i g1)
    refine h _ g (ja0 hb pj) (fun i j g1 g2 g3=>?_) fun i g1=>Ae i (by omega)
    by_cases zi:i < sa+k
    .rw[lT i (.inl zi)]
     by_cases zj:j < sa+k
     .rw[lT j (.inl zj)]
      exact S1 i j g1 g2 (by omega)
     .by_cases zj2:j < sa+na+m
      .obtain⟨p,p1,p2,ep⟩:=xH j (by omega) zj2
       rw[ep];by_cases hp:p < sa+na
       .exact S1 i p g1 (by omega) hp
       .exact dk (F1 i g1 zi) (S2 (sa+na) p (by omega) (by omega) (by omega))
      .rw[lT j (.inr (by omega))]
       exact dk (F1 i g1 zi) (S2 (sa+na) j (by omega) (by omega) g3)
    .by_cases zi2:i < sa+na+m
     .by_cases zj2:j < sa+na+m
      .have hi:i - (sa+k) < M.toList.length:=by omega
       have hj:j - (sa+k) < M.toList.length:=by omega
       have wi:=Jt hb i;have wj:=Jt hb j;rw[MU ⟨by omega,by omega⟩,aK hi]at wi;rw[MU ⟨by omega,by omega⟩,aK hj]at wj;have ki:KK κ (kT (sa+k) M.toList (arrOf st)) i=kq κ (M.toList[i - (sa+k)]):=by unfold KK kq;rw[wi]
       have kj:KK κ (kT (sa+k) M.toList (arrOf st)) j=kq κ (M.toList[j - (sa+k)]):=by unfold KK kq;rw[wj]
       rw[ki,kj];rcases mM i j with aS | c_
       .exact xw.mp gC _ _ hi hj (by omega)
       .have:i=j:=by omega
        subst this;exact iB _
      .obtain⟨p,p1,p2,ep⟩:=xH i (by omega) zi2
       rw[ep,lT j (.inr (by omega))];by_cases hp:p < sa+na
       .exact dk (S1 p (sa+na - 1) (by omega) (by omega) (by omega)) (F2 j (by omega) g3)
       .exact S2 p j (by omega) (by omega) g3
     .rw[lT i (.inr (by omega)),lT j (.inr (by omega))]
      exact S2 i j (by omega) g2 g3
   have kX:∀i (h:i < ((arrOf st).extract (sa+k) (sa+na)).size),kS κ ((arrOf st).extract (sa+k) (sa+na))[i]:=fun i hi=>by
    rw[lP];exact hy _ _
   have kY:∀i (h:i < ((arrOf st).extract (sa+na) (sa+na+m)).size),kS κ ((arrOf st).extract (sa+na) (sa+na+m))[i]:=fun i hi=>by
    rw[lP];exact hy _ _
   have Aq:∀j (hj:j < ((arrOf st).extract (sa+na) (sa+na+m)).size) (h':((arrOf st).extract (sa+k) (sa+na)).size - 1 < ((arrOf st).extract (sa+k) (sa+na)).size),Le κ ((arrOf st).extract (sa+na) (sa+na+m))[j] ((arrOf st).extract (sa+k) (sa+na))[((arrOf st).extract (sa+k) (sa+na)).size - 1]:=fun j hj h'=>by
    rw[lP,lP];have e:sa+k+(((arrOf st).extract (sa+k) (sa+na)).size - 1)=sa+na - 1:=by omega
    have:=jbE (m2 (sa+na+j) (by omega) (by omega) (by omega));simp only[e];exact this
   have BW:∀i (hi:i < ((arrOf st).extract (sa+k) (sa+na)).size) (h':0 < ((arrOf st).extract (sa+na) (sa+na+m)).size),Le κ ((arrOf st).extract (sa+na) (sa+na+m))[0] ((arrOf st).extract (sa+k) (sa+na))[i]:=fun i hi h'=>by
    rw[lP,lP];exact gV (jbH (k3 (sa+k+i) (by omega) (by omega) (by omega)))
   split
   .refine av (jad (st:=lC st P) hO hk ⟨kX,kY,SX,SY,Aq⟩ (by omega) (by omega) (fun i hi=>BW i hi (by omega)) fun M g hM=>?_)
    refine av (e_ ?_)
    refine av (fb ?_)
    refine aC ?_
    have:=fin M g hM
    have ef:(eR (jcT st (kT (sa+k) M.toList (arrOf st)) P g)).isNone=true:=by show (eR st).isNone=true;rw[hf];rfl
    show Q (eR (jcT st (kT (sa+k) M.toList (arrOf st)) P g)).isNone _
    rw[ef]
    exact this
   .refine av (jae (st:=lC st P) hO hk ⟨kX,kY,SX,SY,BW⟩ (by omega) (by omega) (fun j hj=>Aq j hj (by omega)) fun M g hM=>?_)
    refine av (e_ ?_)
    refine av (fb ?_)
    refine aC ?_
    have:=fin M g hM
    have ef:(eR (jcT st (kT (sa+k) M.toList (arrOf st)) P g)).isNone=true:=by show (eR st).isNone=true;rw[hf];rfl
    show Q (eR (jcT st (kT (sa+k) M.toList (arrOf st)) P g)).isNone _
    rw[ef]
    exact this
end
def jgY(lo a aU:Nat):StateT ao Sem AscSt:=
 forIn [a:aU] ((none,a):AscSt) fun _ c=>do
  let x <- ltAt' (lo+c.snd) (lo+c.snd - 1)
  match x with
  | some smaller=>if smaller=true then pure (ForInStep.done (none,c.snd)) else pure (ForInStep.yield (none,c.snd+1))
  | _=>pure (ForInStep.done (some none,c.snd))
def jbR(lo n aU:Nat):StateT ao Sem (Option Nat):=do
 sH lo (lo+n)
 let c <- jgY lo n aU
 match c.fst with
 | some r=>pure r
 | none=>pure (some c.snd)
def jfi(lo n aU:Nat):StateT ao Sem DescSt:=
 forIn [n:aU] ((none,n,0):DescSt) fun _ c=>do
  let x <- ltAt' (lo+c.snd.fst) (lo+c.snd.fst - 1)
  match x with
  | some smaller=>
   if smaller=true then
    if c.snd.snd > 0 then do
     sH (lo+c.snd.fst - (c.snd.snd+1)) (lo+c.snd.fst)
     pure (ForInStep.yield (none,c.snd.fst+1,0))
    else pure (ForInStep.yield (none,c.snd.fst+1,0))
   else do
    let x <- ltAt' (lo+c.snd.fst - 1) (lo+c.snd.fst)
    match x with
    | some larger=>
     if larger=true then pure (ForInStep.done (none,c.snd.fst,c.snd.snd))
     else pure (ForInStep.yield (none,c.snd.fst+1,c.snd.snd+1))
    | _=>pure (ForInStep.done (some none,c.snd.fst,c.snd.snd))
  | _=>pure (ForInStep.done (some none,c.snd.fst,c.snd.snd))
def jce(lo n aU:Nat):StateT ao Sem (Option Nat):=do
 liftM (rule "list.sort.descending-run")
 let c <- jfi lo (n+1) aU
 match c.fst with
 | some r=>pure r
 | none=>
  if c.snd.snd > 0 then do
   sH (lo+c.snd.fst - (c.snd.snd+1)) (lo+c.snd.fst)
   jbR lo c.snd.fst aU
  else jbR lo c.snd.fst aU
theorem ZX(lo aU:Nat):countRun' lo aU=(do
  let c <- jgY lo 1 aU
  match c.fst with
  | some r=>pure r
  | none=>
   if (c.snd == aU)=true then pure (some c.snd)
   else if c.snd > 1 then do
    let x <- ltAt' lo (lo+c.snd - 1)
    match x with
    | some rose=>if rose=true then pure (some c.snd) else do
      sH lo (lo+c.snd)
      jce lo c.snd aU
    | _=>pure none
   else jce lo c.snd aU):=by
 rw[countRun'_eq]
 dsimp only
 unfold jce jbR jfi jgY
 congr 1
 funext c
 obtain⟨r,n⟩:=c
 cases r with
 | some r=>rfl
 | none=>
  dsimp only
  split
  .rfl
  .split
   .congr 1
    funext x
    cases x with
    | none=>rfl
    | some rose=>
     dsimp only
     split
     .rfl
     .congr 1
      funext _r
      congr 1
      funext u1
      congr 1
      congr 1
      funext d
      obtain⟨d1,d2,d3⟩:=d
      cases d1 with
      | some _=>rfl
      | none=>
       dsimp only
       split
       .congr 1
        funext u2
        congr 1
        funext u3
        congr 1
        funext e
        obtain⟨e1,e2⟩:=e
        cases e1 <;> rfl
       .congr 1
        funext u3
        congr 1
        funext e
        obtain⟨e1,e2⟩:=e
        cases e1 <;> rfl
   .congr 1
    funext u1
    congr 1
    congr 1
    funext d
    obtain⟨d1,d2,d3⟩:=d
    cases d1 with
    | some _=>rfl
    | none=>
     dsimp only
     split
     .congr 1
      funext u2
      congr 1
      funext u3
      congr 1
      funext e
      obtain⟨e1,e2⟩:=e
      cases e1 <;> rfl
     .congr 1
      funext u3
      congr 1
      funext e
      obtain⟨e1,e2⟩:=e
      cases e1 <;> rfl
section
variable {prog:az}{w:aw}{A:aL}{E:ae->af->Prop}{s:af}{a₀ cg:Array Keyed}{κ:KeyKind}{knd:fc}{P:Array (Nat×Nat×Nat)}{lo:Nat}
structure TB(knd:fc)(a₀:Array Keyed)(P:Array (Nat×Nat×Nat))(lo:Nat)(cg:Array Keyed)(st:ao):Prop where
 perm:(arrOf st).Perm a₀
 kind:kindOf st=knd
 failed:eR st=none
 pend:aP st=P
 low:∀k,k < lo->(arrOf st)[k]?=cg[k]?
theorem TB.size{st:ao}(h:TB knd a₀ P lo cg st):(arrOf st).size=a₀.size:=h.perm.size_eq
theorem TB.setArr{st:ao}(h:TB knd a₀ P lo cg st){xs:Array Keyed}(hp:xs.Perm (arrOf st))(hl:∀k,k < lo->xs[k]?=(arrOf st)[k]?):TB knd a₀ P lo cg (setArr st xs):=
 ⟨hp.trans h.perm,h.kind,h.failed,h.pend,fun k hk=>(hl k hk).trans (h.low k hk)⟩
theorem TB.mir{st:ao}(h:TB knd a₀ P lo cg st){i j:Nat}(hi:lo<=i)(hj:j<=a₀.size):TB knd a₀ P lo cg (PyProof.Rows.setArr st (mirror (arrOf st) i j ((j - i) / 2))):=
 h.setArr (mirror_perm _ _ _ _) fun k hk=>by rw[getElem?_mirror_all (by rw[h.size];exact hj),MT (by omega)]
theorem TB.key{st:ao}(T:TB knd a₀ P lo cg st)(keys:KeysOf κ a₀){i:Nat}(iq:i < a₀.size):∃li:i < (arrOf st).size,kS κ ((arrOf st)[i]):=
 ⟨by rw[T.size];exact iq,keys _ ((sP.mp T.perm).mem_iff.mp (Array.getElem_mem_toList _))⟩
theorem jcM{st:ao}{i j:Nat}{x y:Keyed}{Q:Option Bool->ao->Prop}(hx:(arrOf st)[i]?=some x)(hy:(arrOf st)[j]?=some y)(h:wpS (ai prog w) A E s (lt' x y) Q st):wpS (ai prog w) A E s (ltAt' i j) Q st:=by
 rw[ltAt'_eq];refine av (fb ?_);dsimp only;rw[xp,hx];refine av (aC ?_);rw[xp,hy];exact av (aC h)
theorem Ju{st:ao}{i j:Nat}{Q:Option Bool->ao->Prop}(hO:LtAt prog w A E s knd κ)(T:TB knd a₀ P lo cg st)(keys:KeysOf κ a₀)(bi:i < a₀.size)(bj:j < a₀.size)(q:Q (some (κ.blt (KK κ (arrOf st) i) (KK κ (arrOf st) j))) st):
  wpS (ai prog w) A E s (ltAt' i j) Q st:=by
 obtain⟨li,hx⟩:=T.key keys bi
 obtain⟨lj,hy⟩:=T.key keys bj
 rw[J5 li,J5 lj]at q
 exact jcM (getElem?_pos _ i li) (getElem?_pos _ j lj) (hO _ _ _ _ T.kind hx hy q)
def Dsg(κ:KeyKind)(arr:Array Keyed)(lo hi:Nat):Prop:=∀i j,lo<=i->i<=j->j < hi->κ.kle (KK κ arr j) (KK κ arr i)
theorem jhp{R:Nat->Nat->Prop}(refl:∀i,R i i)(trans:∀i j k,R i j->R j k->R i k){lo top:Nat}(low:lo < top)(fK:∀i j,lo<=i->i<=j->j < top->R i j)(new:R (top - 1) top):∀i j,lo<=i->i<=j->j < top+1->R i j:=fun i j a b c=>by
 rcases mM j top with d | d
 .exact fK i j a b d
 have ej:j=top:=by omega
 rcases mM i j with f | f
 .rw[ej];exact trans _ _ _ (fK i (top - 1) a (by omega) (by omega)) new
 .rw[show i=j by omega];exact refl j
theorem Seg.grow{arr:Array Keyed}{lo top:Nat}(low:lo < top)(g:Seg κ arr lo top)(n:κ.kle (KK κ arr (top - 1)) (KK κ arr top)):Seg κ arr lo (top+1):=
 jhp (R:=fun i j=>κ.kle (KK κ arr i) (KK κ arr j)) (fun _=>iB _) (fun _ _ _=>dk) low g n
theorem Dsg.grow{arr:Array Keyed}{lo top:Nat}(low:lo < top)(g:Dsg κ arr lo top)(n:κ.kle (KK κ arr top) (KK κ arr (top - 1))):Dsg κ arr lo (top+1):=
 jhp (R:=fun i j=>κ.kle (KK κ arr j) (KK κ arr i)) (fun _=>iB _) (fun _ _ _ a b=>dk b a) low g n
theorem Seg.one{arr:Array Keyed}{lo:Nat}:Seg κ arr lo (lo+1):=fun i j a b c=>by rw[show i=j by omega];exact iB _
theorem Dsg.one{arr:Array Keyed}{lo:Nat}:Dsg κ arr lo (lo+1):=fun i j a b c=>by rw[show i=j by omega];exact iB _
theorem Dsg.like{arr ys:Array Keyed}{lo hi:Nat}(g:Dsg κ arr lo hi)(e:∀k,KK κ ys k=KK κ arr k):Dsg κ ys lo hi:=fun i j a b c=>by rw[e i,e j];exact g i j a b c
abbrev jfy(knd:fc)(a₀:Array Keyed)(κ:KeyKind)(P:Array (Nat×Nat×Nat))(lo:Nat)(cg:Array Keyed)(aU:Nat)(Q:Option Nat->ao->Prop):Prop:=
 ∀(m:Nat) (sn:ao),TB knd a₀ P lo cg sn->1<=m->m<=aU->Seg κ (arrOf sn) lo (lo+m)->Q (some m) sn
theorem jag{st:ao}{a aU:Nat}{Q:AscSt->ao->Prop}(hO:LtAt prog w A E s knd κ)(keys:KeysOf κ a₀)(eD:lo+aU<=a₀.size)(pos:0 < a)(le:a<=aU)(T:TB knd a₀ P lo cg st)(G:Seg κ (arrOf st) lo (lo+a))
  (q:∀n,a<=n->n<=aU->Seg κ (arrOf st) lo (lo+n)->(n < aU->κ.klt (KK κ (arrOf st) (lo+n)) (KK κ (arrOf st) (lo+n - 1)))->Q (none,n) st):wpS (ai prog w) A E s (jgY lo a aU) Q st:=by
 refine dz (I:=fun n c sn=>sn=st/\c=(none,n)/\Seg κ (arrOf st) lo (lo+n)) (fun n c sn an bn J=>?_) (fun c sn J=>?_) ⟨rfl,rfl,G⟩
 .obtain⟨rfl,rfl,Gn⟩:=J
  refine av (Ju hO T keys (i:=lo+n) (j:=lo+n - 1) (by omega) (by omega) ?_)
  cases c:κ.blt (KK κ (arrOf sn) (lo+n)) (KK κ (arrOf sn) (lo+n - 1)) with
  | true=>exact aC (q n an (cD bn) Gn fun _=>c)
  | false=>exact aC ⟨rfl,rfl,Seg.grow (top:=lo+n) (by omega) Gn c⟩
 .obtain⟨rfl,rfl,Gn⟩:=J
  have e:max a aU=aU:=by omega
  rw[e]at Gn |-
  exact q aU le (aD _) Gn fun z=>absurd z (lG _)
theorem YN{st:ao}{n aU:Nat}{Q:Option Nat->ao->Prop}(hO:LtAt prog w A E s knd κ)(keys:KeysOf κ a₀)(eD:lo+aU<=a₀.size)(pos:0 < n)(le:n<=aU)(T:TB knd a₀ P lo cg st)(D:Dsg κ (arrOf st) lo (lo+n))
  (q:jfy knd a₀ κ P lo cg aU Q):wpS (ai prog w) A E s (jbR lo n aU) Q st:=by
 have T1:=T.mir (i:=lo) (j:=lo+n) (aD _) (by omega)
 have z:lo+n<=(arrOf st).size:=by rw[T.size];omega
 refine av (xk (av (jag hO keys eD pos le T1 (fun i j a b c=>?_) fun m am bm Gm _=>aC (q m _ T1 (by omega) bm Gm))))
 have em:=fun k=>KK_mirror (κ:=κ) (i:=lo) z k
 have ei:=em i
 have ej:=em j
 rw[MU ⟨a,by omega⟩]at ei
 rw[MU ⟨by omega,c⟩]at ej
 exact ei ▸ ej ▸ D (lo+(lo+n) - 1 - j) (lo+(lo+n) - 1 - i) (by omega) (by omega) (by omega)
def jir(κ:KeyKind)(arr:Array Keyed)(top cz:Nat):Prop:=∀k,top - (cz+1)<=k->k < top->KK κ arr k=KK κ arr (top - 1)
theorem jcN{st:ao}{n aU:Nat}{Q:DescSt->ao->Prop}(hO:LtAt prog w A E s knd κ)(keys:KeysOf κ a₀)(eD:lo+aU<=a₀.size)(pos:0 < n)(le:n<=aU)(T:TB knd a₀ P lo cg st)(D:Dsg κ (arrOf st) lo (lo+n))
  (q:∀m cz sn,TB knd a₀ P lo cg sn->n<=m->m<=aU->Dsg κ (arrOf sn) lo (lo+m)->cz < m->jir κ (arrOf sn) (lo+m) cz->Q (none,m,cz) sn):wpS (ai prog w) A E s (jfi lo n aU) Q st:=by
 have vS:∀(arr:Array Keyed) (t:Nat),jir κ arr t 0:=fun arr t k a b=>by rw[show k=t - 1 by omega]
 refine dz (I:=fun m c sn=>∃cz,c=(none,m,cz)/\TB knd a₀ P lo cg sn/\Dsg κ (arrOf sn) lo (lo+m)/\cz < m/\jir κ (arrOf sn) (lo+m) cz) (fun m c sn am bm J=>?_) (fun c sn J=>?_) ⟨0,rfl,T,D,pos,vS _ _⟩
 .obtain⟨cz,rfl,Tn,Dn,ln,fl⟩:=J
  have z:lo+m<=(arrOf sn).size:=by rw[Tn.size];omega
  refine av (Ju hO Tn keys (i:=lo+m) (j:=lo+m - 1) (by omega) (by omega) ?_)
  cases c:κ.blt (KK κ (arrOf sn) (lo+m)) (KK κ (arrOf sn) (lo+m - 1)) with
  | true=>
   have D1:=Dsg.grow (top:=lo+m) (by omega) Dn (gV (show κ.klt _ _ from c))
   have T1:=Tn.mir (i:=lo+m - (cz+1)) (j:=lo+m) (by omega) (by omega)
   by_cases more:cz > 0
   .show wpS _ _ _ _ (if cz > 0 then _ else _) _ _
    rw[MU more]
    exact av (xk (aC ⟨0,rfl,T1,D1.like (Dr z fl),by omega,vS _ _⟩))
   .show wpS _ _ _ _ (if cz > 0 then _ else _) _ _
    rw[MT more]
    exact aC ⟨0,rfl,Tn,D1,by omega,vS _ _⟩
  | false=>
   show wpS _ _ _ _ (ltAt' (lo+m - 1) (lo+m) >>= _) _ _
   refine av (Ju hO Tn keys (i:=lo+m - 1) (j:=lo+m) (by omega) (by omega) ?_)
   cases d:κ.blt (KK κ (arrOf sn) (lo+m - 1)) (KK κ (arrOf sn) (lo+m)) with
   | true=>exact aC (q m cz sn Tn am (by omega) Dn ln fl)
   | false=>
    have eq:KK κ (arrOf sn) (lo+m)=KK κ (arrOf sn) (lo+m - 1):=LM d c
    refine aC ⟨cz+1,rfl,Tn,Dsg.grow (top:=lo+m) (by omega) Dn d,by omega,fun k a b=>?_⟩
    show _=KK κ (arrOf sn) (lo+m)
    rcases mM k (lo+m) with f | f
    .rw[eq];exact fl k (by omega) f
    .rw[show k=lo+m by omega]
 .obtain⟨cz,rfl,Tn,Dn,ln,fl⟩:=J
  have e:max n aU=aU:=by omega
  rw[e]at Dn ln fl |-
  exact q aU cz sn Tn le (aD _) Dn ln fl
theorem YO{st:ao}{n aU:Nat}{Q:Option Nat->ao->Prop}(hO:LtAt prog w A E s knd κ)(keys:KeysOf κ a₀)(eD:lo+aU<=a₀.size)(le:n+1<=aU)(T:TB knd a₀ P lo cg st)(D:Dsg κ (arrOf st) lo (lo+n+1))
  (q:jfy knd a₀ κ P lo cg aU Q):wpS (ai prog w) A E s (jce lo n aU) Q st:=by
 refine av (mL (iu ⟨rfl,av (jcN hO keys eD (Nat.succ_pos n) le T D fun m cz sn Tn am bm Dn ln fl=>?_)⟩))
 have z:lo+m<=(arrOf sn).size:=by rw[Tn.size];omega
 have m0:0 < m:=by omega
 have T1:=Tn.mir (i:=lo+m - (cz+1)) (j:=lo+m) (by omega) (by omega)
 show wpS _ _ _ _ (if cz > 0 then _ else _) _ _
 split
 .exact av (xk (YN (n:=m) hO keys eD m0 bm T1 (Dn.like (Dr z fl)) q))
 .exact YN (n:=m) hO keys eD m0 bm Tn Dn q
theorem ja2{st:ao}{aU:Nat}{Q:Option Nat->ao->Prop}(hO:LtAt prog w A E s knd κ)(keys:KeysOf κ a₀)(eD:lo+aU<=a₀.size)(pos:1<=aU)(T:TB knd a₀ P lo cg st)
  (q:jfy knd a₀ κ P lo cg aU Q):wpS (ai prog w) A E s (countRun' lo aU) Q st:=by
 rw[ZX]
 refine av (jag hO keys eD Nat.one_pos pos T Seg.one fun n an bn Gn ends=>?_)
 show wpS _ _ _ _ (if (n == aU)=true then _ else if n > 1 then _ else _) _ _
 by_cases all:n=aU
 .rw[MU (beq_iff_eq.mpr all)]
  exact aC (q n st T an bn Gn)
 rw[MT (fun z=>all (beq_iff_eq.mp z))]
 have BZ:=ends (by omega)
 have z:lo+n<=(arrOf st).size:=by rw[T.size];omega
 by_cases more:n > 1
 .rw[MU more]
  refine av (Ju hO T keys (i:=lo) (j:=lo+n - 1) (by omega) (by omega) ?_)
  cases c:κ.blt (KK κ (arrOf st) lo) (KK κ (arrOf st) (lo+n - 1)) with
  | true=>exact aC (q n st T an bn Gn)
  | false=>
   have v_:∀k,lo<=k->k < lo+n->KK κ (arrOf st) k=KK κ (arrOf st) (lo+n - 1):=fun k a b=>
    LM (Gn k (lo+n - 1) a (by omega) (by omega)) (dk (show κ.kle _ _ from c) (Gn lo k (aD _) a b))
   have D0:Dsg κ (arrOf st) lo (lo+n):=fun i j a b d=>by rw[v_ i a (by omega),v_ j (by omega) d];exact iB _
   show wpS _ _ _ _ (sH lo (lo+n) >>= _) _ _
   exact av (xk (YO hO keys eD (by omega) (T.mir (aD _) (by omega)) ((D0.grow (by omega) (gV BZ)).like (Dr z v_)) q))
 .rw[MT more]
  have e:n=1:=by omega
  subst e
  exact YO hO keys eD (by omega) T (Dsg.one.grow (by omega) (gV BZ)) q
theorem jdJ{st:ao}{n ok:Nat}{Q:Bool->ao->Prop}(hO:LtAt prog w A E s knd κ)(keys:KeysOf κ a₀)(eD:lo+n<=a₀.size)(le:ok<=n)(T:TB knd a₀ P lo cg st)(G:Seg κ (arrOf st) lo (lo+ok))
  (q:∀sn,TB knd a₀ P lo cg sn->Seg κ (arrOf sn) lo (lo+n)->Q true sn):wpS (ai prog w) A E s (binarySort' lo n ok) Q st:=by
 rw[binarySort'_eq]
 refine av (cF (dz (I:=fun k c sn=>c=(none,())/\TB knd a₀ P lo cg sn/\Seg κ (arrOf sn) lo (lo+min k n)) (Q:=fun c sn=>c=(none,())/\TB knd a₀ P lo cg sn/\Seg κ (arrOf sn) lo (lo+n)) (fun k c sn ak bk J=>?_) (fun c sn J=>?_) ⟨rfl,T,fun i j a b c=>?_⟩) fun c sn J=>?_)
 .obtain⟨rfl,Tn,Gn⟩:=J
  have e:min k n=k:=by omega
  rw[e]at Gn
  have z:lo+k < (arrOf sn).size:=by rw[Tn.size];omega
  refine av (cF (dz (I:=fun y d sm=>sm=sn/\∃l r,d=(none,l,r)/\l<=r/\r<=k/\r - l+y<=k/\(∀i,lo<=i->i < lo+l->κ.kle (KK κ (arrOf sn) i) (KK κ (arrOf sn) (lo+k)))/\∀i,lo+r<=i->i < lo+k->κ.klt (KK κ (arrOf sn) (lo+k)) (KK κ (arrOf sn) i))
   (Q:=fun d sm=>sm=sn/\∃l,d=(none,l,l)/\l<=k/\(∀i,lo<=i->i < lo+l->κ.kle (KK κ (arrOf sn) i) (KK κ (arrOf sn) (lo+k)))/\∀i,lo+l<=i->i < lo+k->κ.klt (KK κ (arrOf sn) (lo+k)) (KK κ (arrOf sn) i))
   (fun y d sm ay bY J=>?_) (fun d sm J=>?_) ⟨rfl,0,k,rfl,bF _,aD _,by omega,fun i a b=>by omega,fun i a b=>by omega⟩) fun d sm J=>?_)
  .obtain⟨rfl,l,r,rfl,lr,rk,GR,iq,above⟩:=J
   show wpS _ _ _ _ (if l >= r then _ else _) _ _
   by_cases meet:l >= r
   .rw[MU meet]
    have e:l=r:=by omega
    subst e
    exact aC ⟨rfl,l,rfl,rk,iq,above⟩
   rw[MT meet]
   refine av (Ju hO Tn keys (i:=lo+k) (j:=lo+(l+r) / 2) (by omega) (by omega) ?_)
   cases c:κ.blt (KK κ (arrOf sm) (lo+k)) (KK κ (arrOf sm) (lo+(l+r) / 2)) with
   | true=>exact aC ⟨rfl,l,(l+r) / 2,rfl,by omega,by omega,by omega,iq,fun i a b=>KeyOrd.klt_of_klt_of_kle (show κ.klt _ _ from c) (Gn _ i (by omega) a b)⟩
   | false=>exact aC ⟨rfl,(l+r) / 2+1,r,rfl,by omega,rk,by omega,fun i a b=>dk (Gn i _ a (by omega) (by omega)) (show κ.kle _ _ from c),above⟩
  .obtain⟨rfl,l,r,rfl,lr,rk,GR,iq,above⟩:=J
   have e:l=r:=by omega
   subst e
   exact⟨rfl,l,rfl,rk,iq,above⟩
  .obtain⟨rfl,l,rfl,lk,iq,above⟩:=J
   show wpS _ _ _ _ (moveDown' (lo+k) (lo+l) >>= fun _=>pure (ForInStep.yield (none,()))) _ _
   rw[moveDown'_eq]
   have xO:lo+k - (lo+l)<=lo+k:=Nat.sub_le _ _
   have Eu:lo+k - (lo+k - (lo+l))=lo+l:=by omega
   refine av (e_ (aC ⟨rfl,Tn.setArr (bubble_perm _ _ _) (fun i a=>?_),fun i j a b c=>?_⟩))
   .rw[getElem?_bubble z _ xO,MT (by omega),MT (by omega)]
   have e1:min (k+1) n=k+1:=by omega
   rw[e1]at c
   have at_:=fun p=>KK_bubble (κ:=κ) z xO p
   rw[Eu]at at_
   have ki:=at_ i
   have kj:=at_ j
   show κ.kle (KK κ (bubble (arrOf sm) (lo+k) (lo+k - (lo+l))) i) (KK κ (bubble (arrOf sm) (lo+k) (lo+k - (lo+l))) j)
   rw[ki,kj]
   rcases LY i (lo+l) with f | f | f
   .rw[MT (bB f),MT (by omega)]
    rcases LY j (lo+l) with g | g | g
    .rw[MT (bB g),MT (by omega)]
     exact Gn i j a b (by omega)
    .rw[MU g]
     exact iq i a f
    .rw[MT (iD g),MU ⟨g,by omega⟩]
     exact Gn i (j - 1) a (by omega) (by omega)
   .rw[MU f]
    rcases mM i j with g | g
    .rw[MT (by omega),MU (by omega)]
     exact gV (above (j - 1) (by omega) (by omega))
    .rw[MU (by omega)]
     exact iB _
   .rw[MT (iD f),MU ⟨f,by omega⟩,MT (by omega),MU (by omega)]
    exact Gn (i - 1) (j - 1) (by omega) (by omega) (by omega)
 .obtain⟨rfl,Tn,Gn⟩:=J
  have e:min (max (max ok 1) n) n=n:=by omega
  rw[e]at Gn
  exact⟨rfl,Tn,Gn⟩
 .rcases L8 ok with e | e
  .rw[show i=j by omega];exact iB _
  .exact G i j a b (by omega)
 .obtain⟨rfl,Tn,Gn⟩:=J
  exact aC (q sn Tn Gn)
end
section
variable {prog:az}{w:aw}{A:aL}{E:ae->af->Prop}{s:af}{a₀:Array Keyed}{κ:KeyKind}{knd:fc}
def qB(κ:KeyKind)(arr:Array Keyed):Nat->List (Nat×Nat×Nat)->Nat->Prop
 | lo,[],hi=>lo=hi
 | lo,p :: r,hi=>p.1=lo/\0 < p.2.1/\Seg κ arr lo (lo+p.2.1)/\qB κ arr (lo+p.2.1) r hi
theorem zh{arr:Array Keyed}:∀{p q:List (Nat×Nat×Nat)} {lo hi:Nat},qB κ arr lo (p++q) hi↔∃cH,qB κ arr lo p cH/\qB κ arr cH q hi
 | [],q,lo,hi=>by
  show qB κ arr lo q hi↔∃cH,lo=cH/\qB κ arr cH q hi;constructor
  .intro h;exact⟨lo,rfl,h⟩
  .rintro⟨_,rfl,h⟩;exact h
 | x :: p,q,lo,hi=>by
  have ih:=zh (arr:=arr) (p:=p) (q:=q) (lo:=lo+x.2.1) (hi:=hi);show (x.1=lo/\0 < x.2.1/\Seg κ arr lo (lo+x.2.1)/\qB κ arr (lo+x.2.1) (p++q) hi)↔∃cH,(x.1=lo/\0 < x.2.1/\Seg κ arr lo (lo+x.2.1)/\qB κ arr (lo+x.2.1) p cH)/\qB κ arr cH q hi;rw[ih];constructor
  .rintro⟨h1,h2,h3,cH,h4,h5⟩;exact⟨cH,⟨h1,h2,h3,h4⟩,h5⟩
  .rintro⟨cH,⟨h1,h2,h3,h4⟩,h5⟩;exact⟨h1,h2,h3,cH,h4,h5⟩
theorem yP{arr:Array Keyed}:∀{p:List (Nat×Nat×Nat)} {lo hi:Nat},qB κ arr lo p hi->lo+p.length<=hi
 | [],lo,hi,h=>by have:lo=hi:=h;simp;omega
 | x :: p,lo,hi,h=>by
  obtain⟨_,h2,_,h4⟩:=h;have:=yP h4;rw[bM];omega
theorem zM{arr fT:Array Keyed}:∀{p:List (Nat×Nat×Nat)} {lo hi:Nat},(∀k,lo<=k->k < hi->fT[k]?=arr[k]?)->qB κ arr lo p hi->qB κ fT lo p hi
 | [],lo,hi,_,h=>h
 | x :: p,lo,hi,e,h=>by
  obtain⟨h1,h2,h3,h4⟩:=h;have hl:=yP h4;refine⟨h1,h2,fun i j g1 g2 g3=>?_,zM (fun k g1 g2=>e k (by omega) g2) h4⟩;rw[lE (e i g1 (by omega)),lE (e j (by omega) (by omega))];exact h3 i j g1 g2 g3
structure SInv(knd:fc)(κ:KeyKind)(a₀:Array Keyed)(hi:Nat)(st:ao):Prop where
 perm:(arrOf st).Perm a₀
 kind:kindOf st=knd
 failed:eR st=none
 chain:qB κ (arrOf st) 0 (aP st).toList hi
theorem jd3{α:Type}{l:List α}{i:Nat}(h:i+1 < l.length):l=l.take i++l[i] :: l[i+1] :: l.drop (i+2):=by
 have e1:=lH i l;rw[DR (by omega),DR h]at e1;exact e1.symm
theorem jaF{α:Type}{P:Array α}{i:Nat}{v:α}(h:i+1 < P.size):((P.setIfInBounds i v).eraseIdxIfInBounds (i+1)).toList=P.toList.take i++v :: P.toList.drop (i+2):=by
 have hl:i+1 < P.toList.length:=by simpa using h
 have e:=jd3 hl;have e1:((P.setIfInBounds i v).eraseIdxIfInBounds (i+1)).toList=(P.toList.set i v).eraseIdx (i+1):=by
  simp
 rw[e1];have lt:(P.toList.take i).length=i:=by rw[bZ];omega
 have e2:P.toList.set i v=P.toList.take i++v :: P.toList[i+1] :: P.toList.drop (i+2):=by
  conv=>lhs;rw[e]
  rw[List.set_append_right _ _ (by omega),lt,Nat.sub_self];rfl
 rw[e2,List.eraseIdx_append_of_length_le (by omega),lt];have:i+1 - i=1:=by omega
 rw[this];rfl
theorem KS{st:ao}{Q:Bool->ao->Prop}{i hi:Nat}(hO:LtAt prog w A E s knd κ)(h0:KeysOf κ a₀)(S:SInv knd κ a₀ hi st)(hz:hi<=a₀.size)(h1:i+1 < (aP st).size)
  (h:∀ax,SInv knd κ a₀ hi ax->(aP ax).size+1=(aP st).size->(∀k,hi<=k->(arrOf ax)[k]?=(arrOf st)[k]?)->Q true ax):wpS (ai prog w) A E s (mergeAt' i) Q st:=by
 have hl:i+1 < (aP st).toList.length:=by simpa using h1
 have C:=S.chain
 have eP:=jd3 hl
 rw[eP]at C
 obtain⟨cH,c1,c2⟩:=zh.mp C
 obtain⟨s1,l1,g1,c2⟩:=c2
 obtain⟨s2,l2,g2,c3⟩:=c2
 have sz:(arrOf st).size=a₀.size:=S.perm.size_eq
 have hc3:=yP c3
 have ht:(aP st)[i]?=some (cH,(aP st).toList[i].2.1,(aP st).toList[i].2.2):=by
  rw[<- gj,aK (by omega),<- s1]
 have iO:(aP st)[i+1]?=some (cH+(aP st).toList[i].2.1,(aP st).toList[i+1].2.1,(aP st).toList[i+1].2.2):=by
  rw[<- gj,aK hl,<- s2]
 refine jaf hO S.kind S.failed (fun j hj=>?_) ht iO l1 l2 (by omega) g1 g2 fun fT g hp hs ho=>?_
 .exact h0 _ ((sP.mp S.perm).mem_iff.mp (by simp))
 .have el:=jaF (v:=(cH,(aP st).toList[i].2.1+(aP st).toList[i+1].2.1,(aP st).toList[i].2.2)) h1
  refine h _ ⟨hp.trans S.perm,S.kind,S.failed,?_⟩ ?_ fun k hk=>ho k (.inr (by omega))
  .show qB κ fT 0 _ hi
   show qB κ fT 0 (((aP st).setIfInBounds i (cH,(aP st).toList[i].2.1+(aP st).toList[i+1].2.1,(aP st).toList[i].2.2)).eraseIdxIfInBounds (i+1)).toList hi
   rw[el]
   have hmid:=yP c1
   refine zh.mpr ⟨cH,zM (fun k _ g2=>ho k (.inl g2)) c1,rfl,?_,?_,?_⟩
   .show 0 < _+_
    omega
   .rw[<- L9]
    exact hs
   .rw[<- L9]
    exact zM (fun k g1 _=>ho k (.inr g1)) c3
  .show (((aP st).setIfInBounds i (cH,(aP st).toList[i].2.1+(aP st).toList[i+1].2.1,(aP st).toList[i].2.2)).eraseIdxIfInBounds (i+1)).size+1=_
   rw[<- dA,el,bz,bM,bZ,lM,dA]
   omega
theorem Km{arr:Array Keyed}:∀{p q:List (Nat×Nat×Nat)} {lo hi:Nat},p.map (fun z=>(z.1,z.2.1))=q.map (fun z=>(z.1,z.2.1))->qB κ arr lo p hi->qB κ arr lo q hi
 | [],[],_,_,_,h=>h
 | [],_ :: _,_,_,e,_=>by simp at e
 | _ :: _,[],_,_,e,_=>by simp at e
 | x :: p,y :: q,lo,hi,e,h=>by
  rw[bg,bg]at e;injection e with e1 e2;have e3:x.1=y.1:=(Dv e1).1;have e4:x.2.1=y.2.1:=(Dv e1).2;obtain⟨h1,h2,h3,h4⟩:=h;rw[e4]at h2 h3 h4;exact⟨e3.symm.trans h1,h2,h3,Km e2 h4⟩
theorem Yl{P:Array (Nat×Nat×Nat)}{i:Nat}{f:Nat×Nat×Nat->Nat×Nat×Nat}(hf:∀z,(f z).1=z.1/\(f z).2.1=z.2.1):P.toList.map (fun z=>(z.1,z.2.1))=(P.modify i f).toList.map (fun z=>(z.1,z.2.1)):=by
 refine Mr fun k=>?_
 rw[bH,bH,gj,gj,Array.getElem?_modify];split
 .cases P[k]? with
  | none=>rfl
  | some z=>
   obtain⟨h1,h2⟩:=hf z;show some (z.1,z.2.1)=some ((f z).1,(f z).2.1);rw[h1,h2]
 .rfl
theorem SInv.push{st:ao}{lo n:Nat}(S:SInv knd κ a₀ lo st)(h:Seg κ (arrOf st) lo (lo+n))(hn:0 < n):SInv knd κ a₀ (lo+n) (lC st ((aP st).push (lo,n,0))):=by
 refine⟨S.perm,S.kind,S.failed,?_⟩;show qB κ (arrOf st) 0 ((aP st).push (lo,n,0)).toList (lo+n);rw[MI];exact zh.mpr ⟨lo,S.chain,rfl,hn,h,rfl⟩
theorem wpS_sortAll{st:ao}{Q:Unit->ao->Prop}(hO:LtAt prog w A E s knd κ)(h0:KeysOf κ a₀)(S:SInv knd κ a₀ 0 st)(h1:1<=a₀.size)
  (q:∀sn,(arrOf sn).Perm a₀->eR sn=none->Dq κ (arrOf sn) a₀.size->Q () sn):wpS (ai prog w) A E s sortRuns' Q st:=by
 rw[sortRuns'_eq]
 refine av (fb ?_)
 dsimp only
 rw[S.perm.size_eq]
 generalize minRun' a₀.size a₀.size 0=mr
 refine av (cF (dz (I:=fun (x:Nat) (c:Option Unit×Nat) (ax:ao)=>c.1=none/\x<=c.2/\c.2<=a₀.size/\SInv knd κ a₀ c.2 ax)
  (Q:=fun (c:Option Unit×Nat) (ax:ao)=>c.1=none/\SInv knd κ a₀ a₀.size ax) ?step ?fin ⟨rfl,aD _,bF _,S⟩) ?post)
 case fin=>
  rintro⟨c1,lo⟩ ax ⟨hc,g1,g2,S'⟩
  dsimp only at hc g1 g2 S'
  have:lo=a₀.size:=by omega
  subst this
  exact⟨hc,S'⟩
 case step=>
  rintro x ⟨c1,lo⟩ ax _ hx ⟨hc,g1,g2,S'⟩
  dsimp only at hc g1 g2 S' |-
  subst hc
  by_cases c_:lo >= a₀.size
  .rw[MU c_]
   have:lo=a₀.size:=by omega
   subst this
   exact aC ⟨rfl,S'⟩
  .rw[MT c_]
   have T0:TB knd a₀ (aP ax) lo (arrOf ax) ax:=⟨S'.perm,S'.kind,S'.failed,rfl,fun _ _=>rfl⟩
   refine av (ja2 hO h0 (by omega) (by omega) T0 fun m bU T2 A5 hm2 fq=>?_)
   dsimp only
   have back:∀{bU:ao},TB knd a₀ (aP ax) lo (arrOf ax) bU->SInv knd κ a₀ lo bU:=fun {bU} T2=>by
    refine⟨T2.perm,T2.kind,T2.failed,?_⟩;rw[T2.pend];exact zM (fun k _ g=>T2.low k g) S'.chain
   split
   .refine av (mL (iu ⟨rfl,?_⟩))
    refine av (jdJ hO h0 (n:=min (a₀.size - lo) mr) (by omega) (by omega) T2 fq fun fF T3 fO=>?_)
    simp only[sO,eB,if_false]
    have ie:0 < min (a₀.size - lo) mr:=by omega
    have fR:lo+min (a₀.size - lo) mr<=a₀.size:=by omega
    generalize min (a₀.size - lo) mr=n at *
    have S3:=back T3
    have G3:=fO
    refine av (fb ?_)
    cases hbk:(aP fF).back? with
    | none=>
     dsimp only
     exact av (e_ (aC ⟨rfl,by show x+1<=lo+n;omega,fR,S3.push G3 ie⟩))
    | some z=>
     obtain⟨s1,n1,p1⟩:=z
     dsimp only
     generalize power' a₀.size (2 * s1+n1) (2 * s1+n1+n1+n) a₀.size=pw
     refine av (cF (dz (I:=fun (_:Nat) (c:Option Unit×Unit) (aQ:ao)=>c=(none,())/\SInv knd κ a₀ lo aQ/\Seg κ (arrOf aQ) lo (lo+n))
      (Q:=fun (c:Option Unit×Unit) (aQ:ao)=>c=(none,())/\SInv knd κ a₀ lo aQ/\Seg κ (arrOf aQ) lo (lo+n)) ?step2 (fun _ _ hh=>hh) ⟨rfl,S3,G3⟩) ?post2)
     case step2=>
      rintro y c aQ _ hy ⟨rfl,S4,G4⟩
      refine av (fb ?_)
      by_cases h2:(aP aQ).size > 1
      .rw[MU h2,getElem?_pos (aP aQ) ((aP aQ).size - 2) (by omega)]
       generalize (aP aQ)[(aP aQ).size - 2]=z
       obtain⟨z1,z2,z3⟩:=z
       dsimp only
       split
       .exact aC ⟨rfl,S4,G4⟩
       .refine av (KS hO h0 S4 (by omega) (by omega) fun lR S5 _ ho=>?_)
        simp only[sO,eB,if_false]
        refine aC ⟨rfl,S5,fun i j q1 q2 q3=>?_⟩
        rw[lE (ho i q1),lE (ho j (by omega))]
        exact G4 i j q1 q2 q3
      .rw[MT h2]
       exact aC ⟨rfl,S4,G4⟩
     case post2=>
      rintro c aQ ⟨rfl,S4,G4⟩
      dsimp only
      refine av (e_ (av (e_ (aC ⟨rfl,by show x+1<=lo+n;omega,fR,?_⟩))))
      refine SInv.push (st:=lC aQ ((aP aQ).modify ((aP aQ).size - 1) fun z=>(z.1,z.2.1,pw))) ⟨S4.perm,S4.kind,S4.failed,?_⟩ G4 ie
      exact Km (Yl fun z=>⟨rfl,rfl⟩) S4.chain
   .have ie:0 < m:=by omega
    have fR:lo+m<=a₀.size:=by omega
    have S3:=back T2
    have G3:=fq
    refine av (fb ?_)
    cases hbk:(aP bU).back? with
    | none=>
     dsimp only
     exact av (e_ (aC ⟨rfl,by show x+1<=lo+m;omega,fR,S3.push G3 ie⟩))
    | some z=>
     obtain⟨s1,n1,p1⟩:=z
     dsimp only
     generalize power' a₀.size (2 * s1+n1) (2 * s1+n1+n1+m) a₀.size=pw
     refine av (cF (dz (I:=fun (_:Nat) (c:Option Unit×Unit) (aQ:ao)=>c=(none,())/\SInv knd κ a₀ lo aQ/\Seg κ (arrOf aQ) lo (lo+m))
      (Q:=fun (c:Option Unit×Unit) (aQ:ao)=>c=(none,())/\SInv knd κ a₀ lo aQ/\Seg κ (arrOf aQ) lo (lo+m)) ?step3 (fun _ _ hh=>hh) ⟨rfl,S3,G3⟩) ?post3)
     case step3=>
      rintro y c aQ _ hy ⟨rfl,S4,G4⟩
      refine av (fb ?_)
      by_cases h2:(aP aQ).size > 1
      .rw[MU h2,getElem?_pos (aP aQ) ((aP aQ).size - 2) (by omega)]
       generalize (aP aQ)[(aP aQ).size - 2]=z
       obtain⟨z1,z2,z3⟩:=z
       dsimp only
       split
       .exact aC ⟨rfl,S4,G4⟩
       .refine av (KS hO h0 S4 (by omega) (by omega) fun lR S5 _ ho=>?_)
        simp only[sO,eB,if_false]
        refine aC ⟨rfl,S5,fun i j q1 q2 q3=>?_⟩
        rw[lE (ho i q1),lE (ho j (by omega))]
        exact G4 i j q1 q2 q3
      .rw[MT h2]
       exact aC ⟨rfl,S4,G4⟩
     case post3=>
      rintro c aQ ⟨rfl,S4,G4⟩
      dsimp only
      refine av (e_ (av (e_ (aC ⟨rfl,by show x+1<=lo+m;omega,fR,?_⟩))))
      refine SInv.push (st:=lC aQ ((aP aQ).modify ((aP aQ).size - 1) fun z=>(z.1,z.2.1,pw))) ⟨S4.perm,S4.kind,S4.failed,?_⟩ G4 ie
      exact Km (Yl fun z=>⟨rfl,rfl⟩) S4.chain
 case post=>
  rintro⟨c1,lo⟩ ax ⟨hc,S'⟩
  dsimp only at hc |-
  subst hc
  dsimp only
  have hp:=yP S'.chain
  rw[dA]at hp
  refine av (cF (dz (I:=fun (x:Nat) (c:Option Unit×Unit) (aQ:ao)=>c=(none,())/\SInv knd κ a₀ a₀.size aQ/\(aP aQ).size+x<=a₀.size)
   (Q:=fun (c:Option Unit×Unit) (aQ:ao)=>c=(none,())/\SInv knd κ a₀ a₀.size aQ/\(aP aQ).size<=1) ?step4 ?fin4 ⟨rfl,S',by omega⟩) ?post4)
  case fin4=>
   rintro c aQ ⟨rfl,S4,hz⟩
   exact⟨rfl,S4,by omega⟩
  case step4=>
   rintro x c aQ _ hx ⟨rfl,S4,hz⟩
   refine av (fb ?_)
   by_cases h2:(aP aQ).size<=1
   .rw[MU h2]
    exact aC ⟨rfl,S4,h2⟩
   .rw[MT h2]
    have FA:∀c:Prop,[Decidable c]->(if c then (aP aQ).size - 2 - 1 else (aP aQ).size - 2)+1 < (aP aQ).size:=fun c _=>by split <;> omega
    refine av (KS hO h0 S4 (aD _) (FA _) fun lR S5 hs5 _=>?_)
    simp only[sO,eB,if_false]
    exact aC ⟨rfl,S5,by omega⟩
  case post4=>
   rintro c aQ ⟨rfl,S4,hz⟩
   dsimp only
   refine aC (q aQ S4.perm S4.failed ?_)
   have C:=S4.chain
   have hl:(aP aQ).toList.length<=1:=by rw[dA];exact hz
   generalize (aP aQ).toList=L at *
   match L,C,hl with
   | [],C,_=>
    have:(0:Nat)=a₀.size:=C
    omega
   | [p],C,_=>
    obtain⟨_,_,g3,g4⟩:=C
    have g4:0+p.2.1=a₀.size:=g4
    rw[g4]at g3
    exact fun i j cS hj=>g3 i j (bF _) cS hj
end
end Tm
namespace L2
open PySem PySem.Spec PyProof.Rows PySem.W
section
variable {s:af}
theorem Yn{A:aL}:∀{xs ys:List D} {us vs:List ae},TrAtL s.heap xs us->TrAtL s.heap ys vs->CmpL xs ys->(∀x∈xs,∀(y:D) (u v:ae),TrAt s.heap x u->TrAt s.heap y v->oq A s u v (dEq x y))->(∀x∈xs,∀(y:D) (u v:ae),TrAt s.heap x u->TrAt s.heap y v->Cmp x y->jdw A s u v (dLt x y))->LexAt A s xs ys us vs
 | [],ys,us,vs,hx,hy,_,_,_=>by
  have:=hy.length;unfold TrAtL at hx;subst hx;exact .nilL this
 | x :: xs,[],us,vs,hx,hy,_,_,_=>by
  have:=hx.length;unfold TrAtL at hy;subst hy;exact .nilR this
 | x :: xs,y :: ys,us,vs,hx,hy,hc,he,hl=>by
  unfold TrAtL at hx hy;obtain⟨u,ur,rfl,h1,h2⟩:=hx;obtain⟨v,vr,rfl,g1,g2⟩:=hy;unfold CmpL at hc;exact .cons h2.length g2.length (he x bC y u v h1 g1) (fun e=>Yn h2 g2 (hc.1 e) (fun z hz=>he z (bG _ hz)) fun z hz=>hl z (bG _ hz)) fun e=>hl x bC y u v h1 g1 (hc.2 e)
theorem yY{ds:List D}{d:D}(h:d∈ds):d.depth<=D.depthL ds:=by
 obtain⟨i,hi,rfl⟩:=oF.mp h;exact D.depthL_get (aK hi)
theorem jfS:∀(n:Nat) (A:aL) (d d':D) (u v:ae),d.depth<=n->A.units+n < cLine->TrAt s.heap d u->TrAt s.heap d' v->Cmp d d'->jdw A s u v (dLt d d'):=by
 intro n;induction n with
 | zero=>
  intro A d d' u v hd hA hx hy hc
  cases d with
  | int i=>
   cases d' with
   | int j=>unfold TrAt at hx hy;obtain⟨t,rfl⟩:=hx;obtain⟨t',rfl⟩:=hy;unfold dLt;exact jel A s i t j t'
   | str j=>unfold Cmp at hc;exact hc.elim
   | tup j=>unfold Cmp at hc;exact hc.elim
  | str i=>
   cases d' with
   | str j=>unfold TrAt at hx hy;obtain⟨t,rfl⟩:=hx;obtain⟨t',rfl⟩:=hy;unfold dLt;exact jek A s i t j t'
   | int j=>unfold Cmp at hc;exact hc.elim
   | tup j=>unfold Cmp at hc;exact hc.elim
  | tup ds=>unfold D.depth at hd;omega
 | succ n ih=>
  intro A d d' u v hd hA hx hy hc
  cases d with
  | int i=>exact ih A (.int i) d' u v (by unfold D.depth;omega) (by omega) hx hy hc
  | str i=>exact ih A (.str i) d' u v (by unfold D.depth;omega) (by omega) hx hy hc
  | tup ds=>
   cases d' with
   | int j=>unfold Cmp at hc;exact hc.elim
   | str j=>unfold Cmp at hc;exact hc.elim
   | tup es=>
    unfold TrAt at hx hy;unfold Cmp at hc;unfold D.depth at hd;obtain⟨a,its,rfl,ta,bA⟩:=hx;obtain⟨b,aZ,rfl,tb,bJ⟩:=hy;have l1:ds.length=its.size:=by have:=bA.length;simpa using this
    have l2:es.length=aZ.size:=by have:=bJ.length;simpa using this
    unfold dLt;intro prog w E Q h;have hL:LexAt A.in1 s ds es its.toList aZ.toList:=Yn bA bJ hc (fun x hx y u v h1 h2=>jcs n A.in1 x y u v (by have:=yY hx;omega) (by show A.units+1+n < cLine;omega) h1 h2) (fun x hx y u v h1 h2 h3=>ih A.in1 x y u v (by have:=yY hx;omega) (by show A.units+1+n < cLine;omega) h1 h2 h3);obtain⟨⟨cls,dd,data,sl⟩,ho,nR,m,pI⟩:=ta;obtain⟨⟨cls2,v0,data2,tf⟩,dU,vz,m2,pH⟩:=tb;simp only at nR pI vz pH;subst nR pI vz pH;exact richCompare_meets_room (op:=.Lt) ⟨_,ho,rfl⟩ ⟨_,dU,rfl⟩ PySem.F.slot_tuple_lt PySem.F.entry_tuple_lt (PySem.F.args_tuple_lt_2 _ _) (jaj a b its aZ m m2 dd v0 sl tf ds es l1 l2)
     ⟨ho,dU,hL,show Value.bool (dLtL ds es)≠ae.notImplemented/\Q (.bool (dLtL ds es)) s from⟨(fun x=>nomatch x),h⟩⟩ (by omega)
end
section
variable {prog:az}{w:aw}{A:aL}{E:ae->af->Prop}{s:af}
theorem jdS{b:Bool}{Q:Bool->af->Prop}(h:Q b s):al (ai prog w) A (truthOfDropped (.bool b)) Q E s:=by
 unfold truthOfDropped;show al (ai prog w) A (truthy (.bool b)) Q E s
 first | exact aN h | exact rX h | (unfold truthy;exact aN h)
theorem jh0{u v:ae}{r:Bool}{Q:Bool->af->Prop}(hl:jdw A s u v r)(h:Q r s):al (ai prog w) A (oneLt' false u v) Q E s:=by
 rw[oneLt'_eq];simp only[eB,if_false];exact ar (hl prog w _ _ (jdS h))
theorem jdi{n m:Nat}{Q:Bool->af->Prop}:∀{xs ys:List D} {us vs:List ae} (i:Nat),LexAt A s xs ys us vs->xs.length+m=ys.length+n->Q (dLtL xs ys) s->KatLex prog w A false (decide (n < m)) Q (us.zip vs) i s:=by
 intro xs ys us vs i h;induction h generalizing i with
 | @nilL ys vs e=>
  intro hl q;rw[Ma];refine kat_nil ?_
  cases ys with
  | nil=>
   simp only[fe]at hl;unfold dLtL at q;rw[MS (by omega)];exact q
  | cons c u=>
   simp only[fe,bM]at hl;unfold dLtL at q;rw[MR (by omega)];exact q
 | @nilR xs vs e=>
  intro hl q;rw[L_];refine kat_nil ?_
  cases xs with
  | nil=>
   simp only[fe]at hl;unfold dLtL at q;rw[MS (by omega)];exact q
  | cons c u=>
   simp only[fe,bM]at hl;unfold dLtL at q;rw[MS (by omega)];exact q
 | @cons x y xs ys u v us vs e1 e2 he hy hn ih=>
  intro hl q;rw[DG];rw[yj]at q;simp only[bM]at hl;refine kat_cons (he prog w _ _ ?_)
  cases hE:dEq x y with
  | true=>
   rw[MU hE]at q;exact kat_yes (ih hE (i+1) (by omega) q)
  | false=>
   rw[MT (by rw[hE];exact cP)]at q;exact kat_no (jh0 (hn hE) q)
structure Trees(L:List D)(n:Nat):Prop where
 cmp:∀d∈L,∀e∈L,Cmp d e
 dep:∀d∈L,d.depth<=n
 tup:∀d∈L,∃ds,d=.tup ds
open Classical in
noncomputable def yT(h:aj)(L:List D)(v:ae):Option D:=if x:∃d,d∈L/\TrAt h d v then some (choose x) else none
theorem KY{h:aj}{L:List D}{v:ae}{d:D}(hd:d∈L)(ht:TrAt h d v):yT h L v=some d:=by
 unfold yT;have x:∃d,d∈L/\TrAt h d v:=⟨d,hd,ht⟩
 rw[dif_pos x];rw[ja8 (MB x).2 ht]
theorem Kp{h:aj}{L:List D}{v:ae}{d:D}(e:yT h L v=some d):d∈L/\TrAt h d v:=by
 unfold yT at e;split at e
 .rename_i x
  injection e with e;rw[<- e];exact MB x
 .cases e
noncomputable def zq(h:aj)(L:List D):LO where
 α:=D
 blt:=dLt
 irrefl:=ZW
 trans:=yi
 negTrans:=jgU
 total:=JZ
 keyOf:=yT h L
 dflt:=.int 0
theorem ja7{L:List D}{n:Nat}(T:Trees L n)(hA:A.units+n < cLine):Tm.LtAt prog w A E s (tuples' false) (zq s.heap L):=by
 intro st x y Q hk hx hy h;obtain⟨d,hd⟩:=hx;obtain⟨e,he⟩:=hy;obtain⟨d1,d2⟩:=Kp hd;obtain⟨e1,e2⟩:=Kp he;have k1:Tm.kq (zq s.heap L) x=d:=by unfold Tm.kq;rw[hd];rfl
 have k2:Tm.kq (zq s.heap L) y=e:=by unfold Tm.kq;rw[he];rfl
 rw[k1,k2]at h;have hc:=T.cmp d d1 e e1;have db:=T.dep d d1;obtain⟨ds,rfl⟩:=T.tup d d1;obtain⟨es,rfl⟩:=T.tup e e1;rw[lt'_eq];refine av (fb ?_);rw[hk];unfold TrAt at d2 e2;obtain⟨a,its,ea,ta,bA⟩:=d2;obtain⟨b,aZ,eb,tb,bJ⟩:=e2;have l1:ds.length=its.size:=by have:=bA.length;simpa using this
 have l2:es.length=aZ.size:=by have:=bJ.length;simpa using this
 unfold Cmp at hc;have hdp':D.depthL ds+1<=n:=by unfold D.depth at db;omega
 have hL:LexAt A s ds es its.toList aZ.toList:=Yn bA bJ hc (fun x hx y u v h1 h2=>jcs n A x y u v (by have:=yY hx;omega) hA h1 h2) (fun x hx y u v h1 h2 h3=>jfS n A x y u v (by have:=yY hx;omega) hA h1 h2 h3);obtain⟨o,ho,nR,m,pI⟩:=ta;obtain⟨o2,dU,vz,m2,pH⟩:=tb;rw[ea,eb];refine av (mL (wpAny_attempt (kat_lt ho pI dU pH (jdi 0 hL (by omega) ⟨rfl,?_⟩))));have h:Q (some (dLt (D.tup ds) (D.tup es))) st:=h;unfold dLt at h;exact aC h
end
theorem KZ{h:aj}{vs mP:List ae}(p:mP.Perm vs):∀{ds:List D},TrAtL h ds vs->∃ms:List D,TrAtL h ms mP/\ms.Perm ds:=by
 induction p with
 | nil=>intro ds x;exact⟨ds,x,.refl _⟩
 | cons v _ ih=>
  intro ds x
  cases ds with
  | nil=>unfold TrAtL at x;cases x
  | cons d ds=>
   unfold TrAtL at x;obtain⟨v',r,e,h1,h2⟩:=x;injection e with e1 e2;subst e1 e2;obtain⟨ms,g1,g2⟩:=ih h2;exact⟨d :: ms,by unfold TrAtL;exact⟨_,_,rfl,h1,g1⟩,g2.cons d⟩
 | swap a b l=>
  intro ds x
  cases ds with
  | nil=>unfold TrAtL at x;cases x
  | cons d ds=>
   unfold TrAtL at x;obtain⟨v',r,e,h1,h2⟩:=x;injection e with e1 e2;subst e1 e2
   cases ds with
   | nil=>unfold TrAtL at h2;cases h2
   | cons d2 ds=>
    unfold TrAtL at h2;obtain⟨v2,r2,e,g1,g2⟩:=h2;injection e with e1 e2;subst e1 e2;refine⟨d2 :: d :: ds,?_,.swap _ _ _⟩;unfold TrAtL;refine⟨_,_,rfl,g1,?_⟩;unfold TrAtL;exact⟨_,_,rfl,h1,g2⟩
 | trans p1 p2 ih1 ih2=>
  intro ds x;obtain⟨ms,g1,g2⟩:=ih2 x;obtain⟨ns,g3,g4⟩:=ih1 g1;exact⟨ns,g3,g4.trans g2⟩
theorem jbP{h:aj}:∀{ds:List D} {vs:List ae} {v:ae},TrAtL h ds vs->v∈vs->∃d∈ds,TrAt h d v
 | [],vs,v,x,hv=>by unfold TrAtL at x;subst x;cases hv
 | d :: ds,vs,v,x,hv=>by
  unfold TrAtL at x;obtain⟨u,r,rfl,h1,h2⟩:=x;rcases a_.mp hv with rfl | hv
  .exact⟨d,bC,h1⟩
  .obtain⟨e,he,ht⟩:=jbP h2 hv
   exact⟨e,bG _ he,ht⟩
theorem jbQ{h:aj}:∀{ds:List D} {vs:List ae},TrAtL h ds vs->∀(i:Nat) (d:D),ds[i]?=some d->∃v,vs[i]?=some v/\TrAt h d v
 | [],vs,x,i,d,e=>by simp at e
 | c :: ds,vs,x,i,d,e=>by
  unfold TrAtL at x;obtain⟨u,r,rfl,h1,h2⟩:=x
  cases i with
  | zero=>simp only[List.getElem?_cons_zero,Option.some.injEq]at e;subst e;exact⟨u,rfl,h1⟩
  | succ i=>exact jbQ h2 i d (by simpa using e)
theorem Zx{h:aj}{ds:List D}{vs:List ae}(I:TrAtL h ds vs){xs:Array Keyed}(hp:xs.Perm (lD vs))(hs:Dq (zq h ds) xs (lD vs).size):
  ∃ms,TrAtL h ms (xs.map (·.2)).toList/\ms.Perm ds/\ms.Pairwise (fun a b=>dLt b a=false):=by
 have hl:xs.toList.Perm (vs.zip vs):=by rw[<- xn];exact sP.mp hp
 have vg:∀p,p∈xs.toList->p.1=p.2/\p.1∈vs:=fun p u_=>mem_zip_self (hl.mem_iff.mp u_)
 have e:(xs.map (·.2)).toList.Perm vs:=by
  rw[xG];have:=hl.map (·.2);rwa [DL (aD _)]at this
 obtain⟨ms,h1,h2⟩:=KZ e I
 refine⟨ms,h1,h2,?_⟩
 have key:∀i d,ms[i]?=some d->KK (zq h ds) xs i=d:=by
  intro i d hd;obtain⟨v,hv,ht⟩:=jbQ h1 i d hd;rw[xG,bH,gj]at hv;unfold KK
  cases hx:xs[i]? with
  | none=>rw[hx]at hv;cases hv
  | some p=>
   rw[hx]at hv;injection hv with hv;have hm:p∈xs.toList:=by
    rw[<- gj]at hx;exact lI hx
   have e1:p.1=v:=by rw[(vg p hm).1];exact hv
   show (yT h ds p.1).getD _=d;rw[e1,KY (h2.mem_iff.mp (lI hd)) ht];rfl
 have bf:ms.length=(lD vs).size:=by
  rw[h1.length,e.length_eq,Dj]
 rw[xw]
 intro i j hi hj cS
 have:=hs i j (cD cS) (by omega)
 rw[key i _ (aK hi),key j _ (aK hj)]at this
 exact this
structure SortT(ds:List D)(n:Nat):Prop extends Trees ds n where
 fst:∀d∈ds,∃es r,d=.tup (.tup es :: r)
section
variable {prog:az}{w:aw}{A:aL}{E:ae->af->Prop}{s:af}
theorem KW{h:aj}:∀{ds:List D} {vs:List ae},TrAtL h ds vs->(∀d∈ds,∃es r,d=.tup (.tup es :: r))->∃fs,KatTups h vs fs/\fs.length=vs.length/\∀v∈fs,∃a o,v=Value.ref a/\h.get? a=some o/\o.cls=.type "tuple"
 | [],vs,x,_=>by unfold TrAtL at x;subst x;exact⟨[],KatTups.nil,rfl,fun v hv=>absurd hv (by simp)⟩
 | d :: ds,vs,x,hd=>by
  unfold TrAtL at x;obtain⟨v,r,rfl,h1,h2⟩:=x;obtain⟨fs,g1,g2,g3⟩:=KW h2 fun e he=>hd e (bG _ he)
  obtain⟨es,rr,rfl⟩:=hd d bC;unfold TrAt at h1;obtain⟨a,its,rfl,⟨o,ho,hc,n,FN⟩,hL⟩:=h1;unfold TrAtL at hL;obtain⟨f,fr,ef,hf,_⟩:=hL;unfold TrAt at hf;obtain⟨b,aZ,rfl,⟨o2,dU,iW,_⟩,_⟩:=hf;refine⟨.ref b :: fs,KatTups.cons ho hc FN ?_ g1,by simp[g2],fun v hv=>?_⟩
  .rw[<- gj,ef];rfl
  .rcases a_.mp hv with rfl | hv
   .exact⟨b,o2,rfl,dU,iW⟩
   .exact g3 v hv
theorem jbt{ds:List D}{vs:List ae}{Q:fc->af->Prop}(hx:TrAtL s.heap ds vs)(hf:∀d∈ds,∃es r,d=.tup (.tup es :: r))(hp:0 < vs.length)(q:Q (tuples' false) s):al (ai prog w) A (keyKind' vs.toArray) Q E s:=by
 obtain⟨fs,g1,g2,g3⟩:=KW hx hf;refine kat_kind (T:=.type "tuple") g1 (by omega) (fun v hv=>?_) (by decide) (by simpa using q);obtain⟨a,o,rfl,ho,hc⟩:=g3 v hv;intro A' Q' E' s' k q';exact wpAny_typeOf (s:=s') ⟨o,k _ _ ho,hc⟩ q'
theorem jbf{l:ab}{vs:List ae}{ds:List D}{ep n:Nat}{P:Fin->af->Prop}(at_:s.heap.get? l=some (bL "list" vs.toArray ep))(I:TrAtL s.heap ds vs)(S:SortT ds n)(hA:A.units+n < cLine)(most:vs.length<=aE)(two:2<=vs.length)
  (q:∀(out:Array ae) (ms:List D),out.toList.Perm vs->TrAtL s.heap ms out.toList->ms.Perm ds->ms.Pairwise (fun a b=>dLt b a=false)->P (.done (.ret .none)) { s with heap:=Dh s.heap l vs out }):al (ai prog w) A (Builtin.«list.sort» ⟨[.ref l],[]⟩) P E s:=by
 have lt:l < s.heap.objs.size:=bp at_
 obtain⟨v,u,r,rfl⟩:∃v u r,vs=v :: u :: r:=match vs,two with | v :: u :: r,_=>⟨v,u,r,rfl⟩
 have lQ:¬(v :: u :: r).toArray.size < 2:=by show ¬(v :: u :: r).length < 2;omega
 generalize ny:v :: u :: r=vs at *
 rw[list_sort_plain]
 refine ar (listItems_at at_ rfl (ar (xo at_ rfl ?_)))
 have bare:∃e1,(s.heap.update l (cX fun _=>#[])).get? l=some (bL "list" #[] e1):=⟨_,get?_update_seq at_ (fun _=>#[])⟩
 obtain⟨e1,bare⟩:=bare
 refine ar (xm bare rfl (ar (wpAny_newTuple (ar (wL (ix ?_))))))
 have oO:(((s.heap.update l (cX fun _=>#[])).push (bL "tuple" vs.toArray 0)).push (bL "list" #[] 0)).get? l=some (bL "list" #[] e1):=by
  have z1:(s.heap.update l (cX fun _=>#[])).objs.size=s.heap.objs.size:=C5 ..;rw[xa,xa]
  .exact bare
  .rw[z1];exact bB lt
  .rw[xl,z1];exact bB (oA lt)
 have kp:∀a xs,s.heap.IsTuple a xs->(((s.heap.update l (cX fun _=>#[])).push (bL "tuple" vs.toArray 0)).push (bL "list" #[] 0)).IsTuple a xs:=by
  rintro a xs ⟨o,ho,hc,m,hd⟩;have ug:a≠l:=by
   rintro rfl;rw[at_]at ho
   cases ho
   injection hc with hc;exact absurd hc (by decide)
  refine⟨o,bK _ (bK _ ?_),hc,m,hd⟩;rw[w_ _ _ (cY ug)];exact ho
 have I':=I.kept kp
 show al (ai prog w) A _ P E ({ s with heap:=((s.heap.update l (cX fun _=>#[])).push (bL "tuple" vs.toArray 0)).push (bL "list" #[] 0) }:af)
 generalize dr:({ s with heap:=((s.heap.update l (cX fun _=>#[])).push (bL "tuple" vs.toArray 0)).push (bL "list" #[] 0) }:af)=s'
 have I2:TrAtL s'.heap ds vs:=by rw[<- dr];exact I'
 dsimp only
 rw[MT lQ,MT lQ]
 refine ar (jbt I2 S.fst (by omega) ?_)
 have keys:KeysOf (zq s'.heap ds) (lD vs):=by
  intro p hp;rw[xn]at hp;obtain⟨d,hd,ht⟩:=jbP I2 (mem_zip_self hp).2;exact⟨d,KY hd ht⟩
 have xN:s'.heap.get? l=some (bL "list" #[] e1):=by rw[<- dr];exact oO
 refine ar (cb (Tm.wpS_sortAll (st:=xq (tuples' false) (lD vs) #[] 7 none) (ja7 S.toTrees hA) keys ⟨DZ _,rfl,rfl,rfl⟩ (by rw[Dj];omega) (Q:=fun _ sn=>(arrOf sn).Perm (lD vs)/\eR sn=none/\Dq (zq s'.heap ds) (arrOf sn) (lD vs).size) fun sn a b c=>⟨a,b,c⟩) (fun o sh J=>?_) fun _ _ e=>e)
 obtain⟨⟨⟩,sn⟩:=o
 obtain⟨rfl,perm,Ai,up⟩:=J
 obtain⟨ms,h1,h2,h3⟩:=Zx I2 perm up
 have fits:((arrOf sn).map (·.2)).size<=aE:=by
  rw[Array.size_map,perm.size_eq,Dj];exact most
 dsimp only
 refine ar (xm xN rfl (ar (xo xN rfl ?_ (hsz2:=oC fits))))
 rw[Ai]
 simp only[bne_self_eq_false,eB,if_false]
 have e2:(((arrOf sn).map (·.2)).toList).Perm vs:=by
  have hl:(arrOf sn).toList.Perm (vs.zip vs):=by rw[<- xn];exact sP.mp perm
  rw[xG];have:=hl.map (·.2);rwa [DL (aD _)]at this
 obtain⟨An,cn,du⟩:=KZ e2 I
 have em:An=ms:=trL_inj (cn.kept kp) (by rw[<- dr]at h1;exact h1)
 rw[em]at cn
 rw[<- dr]
 exact aN (q _ ms e2 cn h2 h3)
end
section
variable {prog:az}{w:aw}{A:aL}{E:ae->af->Prop}{s:af}
theorem jed{l:ab}{vs:List ae}{ep:Nat}{P:Fin->af->Prop}(at_:s.heap.get? l=some (bL "list" vs.toArray ep))(few:vs.length < 2)
  (q:P (.done (.ret .none)) { s with heap:=Dh s.heap l vs vs.toArray }):al (ai prog w) A (Builtin.«list.sort» ⟨[.ref l],[]⟩) P E s:=by
 have lt:l < s.heap.objs.size:=bp at_
 have lQ:vs.toArray.size < 2:=by show vs.length < 2;omega
 rw[list_sort_plain]
 refine ar (listItems_at at_ rfl (ar (xo at_ rfl ?_)))
 have bare:∃e1,(s.heap.update l (cX fun _=>#[])).get? l=some (bL "list" #[] e1):=⟨_,get?_update_seq at_ (fun _=>#[])⟩
 obtain⟨e1,bare⟩:=bare
 refine ar (xm bare rfl (ar (wpAny_newTuple (ar (wL (ix ?_))))))
 have oO:(((s.heap.update l (cX fun _=>#[])).push (bL "tuple" vs.toArray 0)).push (bL "list" #[] 0)).get? l=some (bL "list" #[] e1):=by
  have z1:(s.heap.update l (cX fun _=>#[])).objs.size=s.heap.objs.size:=C5 ..;rw[xa,xa]
  .exact bare
  .rw[z1];exact bB lt
  .rw[xl,z1];exact bB (oA lt)
 show al (ai prog w) A _ P E ({ s with heap:=((s.heap.update l (cX fun _=>#[])).push (bL "tuple" vs.toArray 0)).push (bL "list" #[] 0) }:af)
 dsimp only
 rw[MU lQ,MU lQ]
 refine ar (aN (ar (aN ?_)))
 dsimp only
 have eA:Array.map (fun x=>x.2) (arrOf (xq general' (vs.toArray.zip vs.toArray) #[] 7 none))=vs.toArray:=by
  show Array.map (fun x=>x.2) (vs.toArray.zip vs.toArray)=vs.toArray;apply Array.ext';rw[xG,show (vs.toArray.zip vs.toArray)=lD vs from rfl,xn,DL (aD _)]
 rw[eA]
 refine ar (xm oO rfl (ar (xo oO rfl ?_ (hsz2:=oC ?_))))
 .simp only[bne_self_eq_false,eB,if_false]
  exact aN q
 .rw[fX]
  exact aG (cD lQ) (by decide)
theorem jhH{r:D->D->Prop}:∀{ds:List D},ds.length < 2->ds.Pairwise r
 | [],_=>.nil
 | [_],_=>sL ..
 | _ :: _ :: _,h=>absurd h (by simp only[bM];omega)
theorem Kq{l:ab}{vs:List ae}{ds:List D}{ep n:Nat}{P:Fin->af->Prop}(at_:s.heap.get? l=some (bL "list" vs.toArray ep))(I:TrAtL s.heap ds vs)(S:SortT ds n)(hA:A.units+n < cLine)(most:vs.length<=aE)
  (q:∀(out:Array ae) (ms:List D),out.toList.Perm vs->TrAtL s.heap ms out.toList->ms.Perm ds->ms.Pairwise (fun a b=>dLt b a=false)->P (.done (.ret .none)) { s with heap:=Dh s.heap l vs out }):al (ai prog w) A (Builtin.«list.sort» ⟨[.ref l],[]⟩) P E s:=by
 rcases mM vs.length 2 with few | two
 .refine jed at_ few (q vs.toArray ds (.refl _) I (.refl _) ?_)
  have:ds.length < 2:=by rw[I.length];exact few
  exact jhH this
 .exact jbf at_ I S hA most two q
end
def orb(M:Nat):Nat->Nat->Nat
 | 0,a=>a
 | n+1,a=>orb M n ((a * 5+1) % M)
def jjB(M:Nat):Prop:=(∀e,e < M->∃k,k < M/\orb M k 0=e)/\orb M M 0=0
def seq(t:iA)(p:II):Nat->II
 | 0=>p
 | n+1=>t.advance (seq t p n)
structure TabIn(led:Bool)(t:iA):Prop where
 ok:TabOk led t
 full:jjB (t.mask+1)
 odd:t.mask % 2=1
 le:∀j∈t.place.toList,j<=t.mask
 eD:t.place.size<=t.mask
theorem getD_none{tU:Array (Option Nat)}{j:Nat}(h:tU.getD j (some 0)=none):tU[j]?=some none:=by
 by_cases hj:j < tU.size
 .rw[Array.getElem?_eq_getElem hj]
  simp[MO,hj]at h;rw[h]
 .simp[MO,hj]at h
end L2
namespace PySem
end PySem
namespace L2
open PySem PySem.Spec PyProof.Rows PySem.W
def DTr(h:aj)(d:D)(a:ab):Prop:=TrAt h d (.ref a)/\d.depth<=8
theorem jfN{a:ab}{h:aj}{es:Array (Int×ae)}{ep:Nat}{t:iA}(ho:h.get? a=some { cls:=.type "set",dict:=none,data:=.set es ep t }):∀o,h.get? a=some o->o.cls≠.type "tuple":=fun o e z=>by
 rw[ho]at e
 cases e
 injection z with z;exact absurd z (by decide)
section
variable {prog:az}{w:aw}{A:aL}{E:ae->af->Prop}{s:af}
def ElD(h:aj)(L:List D)(e:Int×ae):Prop:=∃k b,e.2=.ref b/\DTr h k b/\k∈L
def jjy(n mask:Nat):Prop:=(mask=7/\n<=4)\/(mask=31/\n<=18)\/(mask=127/\n<=76)\/(mask=511/\n<=306)\/(mask=2047/\n<=1228)
def ElsD(h:aj)(L:List (D×ab))(es:Array (Int×ae)):Prop:=(es.toList.map (·.2)).Perm (L.map fun p=>Value.ref p.2)/\∀p∈L,DTr h p.1 p.2
theorem ElsD.el{h:aj}{L:List (D×ab)}{es:Array (Int×ae)}(x:ElsD h L es):∀e∈es.toList,ElD h (L.map (·.1)) e:=fun e he=>by
 have:=x.1.mem_iff.mp (Mf (f:=(·.2)) he);obtain⟨p,hp,e2⟩:=cc.mp this;exact⟨p.1,p.2,e2.symm,x.2 p hp,Mf hp⟩
theorem ElsD.more{h:aj}{L:List (D×ab)}{es B1:Array (Int×ae)}{ks:D}{x:ab}{hh:Int}{p:Nat}(y:ElsD h L es)(hk:DTr h ks x)(gE:B1.toList=es.toList.take p++(hh,Value.ref x) :: es.toList.drop p):ElsD h (L++[(ks,x)]) B1:=by
 refine⟨?_,fun q hq=>?_⟩
 .rw[gE,bq,bg,bq,bg,gg]
  refine List.perm_middle.trans (List.Perm.trans ?_ (iE (l₁:=[Value.ref x])));refine List.Perm.cons _ ?_;rw[<- bq,lH];exact y.1
 .rcases bx.mp hq with hq | hq
  .exact y.2 q hq
  .rw[aM.mp hq];exact hk
def DSetAt(h:aj)(a:ab)(led:Bool)(L:List (D×ab)):Prop:=∃(es:Array (Int×ae)) (ep:Nat) (t:iA),h.get? a=some { cls:=.type "set",dict:=none,data:=.set es ep t }/\ElsD h L es/\es.size=L.length/\TabIn led t/\t.place.size=es.size/\jjy es.size t.mask
end
section
variable {prog:az}{w:aw}{A:aL}{E:ae->af->Prop}{R:ou->af->Prop}
theorem DSetAt.not{h:aj}{a:ab}{led:Bool}{L:List (D×ab)}(x:DSetAt h a led L):∀o,h.get? a=some o->o.cls≠.type "tuple":=by
 obtain⟨es,ep,t,e,_⟩:=x;exact jfN e
end
end L2
namespace PySem
end PySem
namespace Tim
open PySem PyProof.Rows
abbrev GT:Type:=Option (Option Nat)×Nat×Nat
def jh8:ae->Option Int
 | .int n _=>some n
 | _=>none
@[reducible] def intKind:LO where
 α:=Int
 blt a b:=decide (a < b)
 irrefl a:=MS (MA a)
 trans a b c h1 h2:=MR (Mz (MQ h1) (MQ h2))
 negTrans a b c h:=by
  have:=MQ h;by_cases x:a < b
  .exact .inl (MR x)
  .exact .inr (MR (by omega))
 total a b h1 h2:=by
  have:=of_decide_eq_false h1;have:=of_decide_eq_false h2;omega
 keyOf:=jh8
 dflt:=0
end Tim
namespace L2
open PySem PySem.Spec PyProof.Rows PySem.W
section
variable {X:Cx}{ad:List (ab×Obj)}{σ:St}{H:Hp}{s:af}
mutual
theorem KM(I:Inv X ad σ H s):∀{d:D} {x:V} {u:ae},Held H d x->RelV x u->TrAt s.heap d u
 | .int i,x,u,h,r=>by unfold Held at h;subst h;obtain⟨t,rfl⟩:=r;unfold TrAt;exact⟨t,rfl⟩
 | .str i,x,u,h,r=>by unfold Held at h;subst h;obtain⟨t,rfl⟩:=r;unfold TrAt;exact⟨t,rfl⟩
 | .tup ds,x,u,h,r=>by
  unfold Held at h;obtain⟨a,xs,rfl,ha,bA⟩:=h
  cases r
  obtain⟨its,cG,ta,_⟩:=I.tuple (SqT.of ha);unfold TrAt;exact⟨a,its.toArray,rfl,ta,by simpa using heldL_tr I bA cG⟩
theorem heldL_tr(I:Inv X ad σ H s):∀{ds:List D} {xs:List V} {us:List ae},HeldL H ds xs->Vals xs us->TrAtL s.heap ds us
 | [],xs,us,h,r=>by unfold HeldL at h;subst h;cases r;unfold TrAtL;rfl
 | d :: ds,xs,us,h,r=>by
  unfold HeldL at h;obtain⟨v,q,rfl,h1,h2⟩:=h
  cases r with
  | cons h r=>unfold TrAtL;exact⟨_,_,rfl,KM I h1 h,heldL_tr I h2 r⟩
end
end
theorem Y1{α β:Type}{f:α->β}{m l:List β}(p:m.Perm l):∀{ps:List α},ps.map f=m->∃qs:List α,qs.Perm ps/\qs.map f=l:=by
 induction p with
 | nil=>intro ps e;exact⟨ps,.refl _,e⟩
 | cons x _ ih=>
  intro ps e
  cases ps with
  | nil=>cases e
  | cons y ps=>
   rw[bg]at e;injection e with e1 e2;obtain⟨qs,h1,h2⟩:=ih e2;exact⟨y :: qs,h1.cons y,by rw[bg,h2,e1]⟩
 | swap x y l=>
  intro ps e;match ps,e with
  | a :: b :: ps,e=>
   simp only[bg,List.cons.injEq]at e;obtain⟨e1,e2,e3⟩:=e;exact⟨b :: a :: ps,.swap _ _ _,by simp only[bg,e1,e2,e3]⟩
 | trans _ _ ih1 ih2=>
  intro ps e;obtain⟨qs,h1,h2⟩:=ih1 e;obtain⟨rs,h3,h4⟩:=ih2 h2;exact⟨rs,h3.trans h1,h4⟩
theorem K0{h:aj}:∀{qs:List (D×ab)},(∀q∈qs,TrAt h q.1 (.ref q.2))->TrAtL h (qs.map (·.1)) (qs.map fun p=>Value.ref p.2)
 | [],_=>by unfold TrAtL;rfl
 | q :: qs,hq=>by
  rw[bg,bg];unfold TrAtL;exact⟨_,_,rfl,hq q bC,K0 fun r hr=>hq r (bG _ hr)⟩
theorem J6:∀{as:List ab} {us:List ae},Vals (as.map V.ref) us->us=as.map Value.ref
 | [],us,r=>by cases r;rfl
 | a :: as,us,r=>by
  cases r with
  | cons h r=>cases h;rw[J6 r];rfl
theorem Kf:∀(as:List ab),Vals (as.map V.ref) (as.map Value.ref)
 | []=>.nil
 | a :: as=>.cons rfl (Kf as)
theorem SortT.perm{ds es:List D}{n:Nat}(x:SortT ds n)(p:es.Perm ds):SortT es n:=⟨⟨fun d hd e he=>x.cmp d (p.mem_iff.mp hd) e (p.mem_iff.mp he),fun d hd=>x.dep d (p.mem_iff.mp hd),fun d hd=>x.tup d (p.mem_iff.mp hd)⟩,fun d hd=>x.fst d (p.mem_iff.mp hd)⟩
mutual
def D.py:D->PyData
 | .int i=>.int i
 | .str x=>.str x
 | .tup ds=>.tuple (D.pyL ds)
def D.pyL:List D->List PyData
 | []=>[]
 | d :: ds=>D.py d :: D.pyL ds
end
mutual
def OkD:D->Prop
 | .int i=>i.natAbs < 10 ^ 39
 | .str x=>∀c∈x.cps.toList,(97<=c/\c<=122)\/c=46
 | .tup ds=>OkDL ds
def OkDL:List D->Prop
 | []=>True
 | d :: ds=>OkD d/\OkDL ds
end
def sgn(d:D):List Nat:=d.py.shown.cps.toList
def jn:List (List Nat)->List Nat
 | []=>[]
 | [t]=>t
 | t :: u :: r=>t++44 :: 32 :: jn (u :: r)
theorem yn(x y:Str):(x++y).cps.toList=x.cps.toList++y.cps.toList:=by
 show (x.cps++y.cps).toList=_;simp
theorem jcm:∀ts:List Str,(CU ", " ts).cps.toList=jn (ts.map fun t=>t.cps.toList)
 | []=>rfl
 | [t]=>by
  show (CU ", " [t]).cps.toList=t.cps.toList
  first | rfl | simp[CU]
 | t :: u :: r=>by
  rw[join_cons_cons,yn,yn,signs_sep,jcm (u :: r)];simp only[bg,jn,bE,cu,oE]
theorem JC(i:Int):sgn (.int i)=(wI i).toList.map DX:=by
 show ((wI i:String):Str).cps.toList=_;rw[signs_ofString]
theorem jcc:∀ds:List D,(ss (D.pyL ds)).length=ds.length
 | []=>rfl
 | d :: ds=>by
  show (_ :: ss (D.pyL ds)).length=_;rw[bM,jcc ds];rfl
theorem jcb:∀ds:List D,(ss (D.pyL ds)).map (fun t=>t.cps.toList)=ds.map sgn
 | []=>rfl
 | d :: ds=>by
  show (_ :: ss (D.pyL ds)).map _=_;rw[bg,jcb ds];rfl
def jfg(n:Nat):List Nat:=if n=1 then [44,41] else [41]
theorem zE(ds:List D):sgn (.tup ds)=40 :: (jn (ds.map sgn)++jfg ds.length):=by
 show (tupleText (ss (D.pyL ds))).cps.toList=_;unfold tupleText;rw[yn,yn,signs_lparen,jcm,jcb,jcc];unfold jfg;by_cases h:ds.length=1
 .rw[MU h,MU (by rw[h];rfl)]
  rfl
 .rw[MT h,MT (by simpa using h)]
  rfl
theorem Kz{c:Nat}(h1:(97<=c/\c<=122)\/c=46):xg 39 c=[c]:=by
 unfold xg;have hp:IH c=true:=by
  have:∀c,c < 128->(97<=c/\c<=122)\/c=46->IH c=true:=by decide +kernel
  exact this c (by omega) h1
 simp only[beq_iff_eq,ME];rw[MT (by omega),MT (by omega),MT (by omega),MT (by omega),MU hp]
theorem Jc:∀(l:List Nat) (aJ:Array Nat),(∀c∈l,(97<=c/\c<=122)\/c=46)->(l.foldl (fun out c=>out++(xg 39 c).toArray) aJ).toList=aJ.toList++l
 | [],aJ,_=>by simp
 | c :: l,aJ,h=>by
  rw[Mo,Kz (h c bC),Jc l _ fun d hd=>h d (bG _ hd)];simp
theorem zF{x:Str}(h:∀c∈x.cps.toList,(97<=c/\c<=122)\/c=46):sgn (.str x)=39 :: (x.cps.toList++[39]):=by
 show (reprText x).cps.toList=_;have hq:reprQuote x=39:=by
  unfold reprQuote;have:x.cps.contains 39=false:=by
   rw[Array.contains_eq_mem,decide_eq_false_iff_not];intro hm;have:=h 39 (MM.mpr hm);omega
  rw[this];rfl
 unfold reprText;rw[hq];show ((x.cps.foldl (fun out c=>out++(xg 39 c).toArray) #[39]).push 39).toList=_;rw[MI,<- Array.foldl_toList,Jc _ _ h];rfl
theorem K4{P:Nat->Prop}:∀{a b p q:List Nat},(∀c∈a,P c)->(∀c∈b,P c)->(∀c r,p=c :: r->¬P c)->(∀c r,q=c :: r->¬P c)->a++p=b++q->a=b/\p=q
 | [],[],p,q,_,_,_,_,e=>⟨rfl,e⟩
 | [],c :: b,p,q,_,hb,hp,_,e=>absurd (hb c bC) (hp c (b++q) e)
 | c :: a,[],p,q,ha,_,_,hq,e=>absurd (ha c bC) (hq c (a++p) e.symm)
 | c :: a,d :: b,p,q,ha,hb,hp,hq,e=>by
  rw[cu,cu]at e;injection e with e1 e2;obtain⟨h1,h2⟩:=K4 (fun x hx=>ha x (bG _ hx)) (fun x hx=>hb x (bG _ hx)) hp hq e2;exact⟨by rw[e1,h1],h2⟩
def jg2(p:List Nat):Prop:=∀c r,p=c :: r->c=41\/c=44
def Z5(c:Nat):Prop:=c=45\/(48<=c/\c<=57)
theorem qI(i:Int):∀c∈sgn (.int i),Z5 c:=by
 intro c hc;have:=fun h=>int_text_free' c h i (by rw[signs_ofString,<- JC];exact hc)
 unfold Z5;by_cases h1:c=45
 .exact .inl h1
 .by_cases h2:48<=c/\c<=57
  .exact .inr h2
  .exact absurd ⟨h1,by omega⟩ this
theorem JM{m n:Nat}(h:(lF m).toList=(lF n).toList):m=n:=by
 rw[xt,xt]at h;rw[<- DB (n:=m),h,DB]
theorem Ys(i:Int):∃c r,sgn (.int i)=c :: r:=by
 rw[JC]
 cases i with
 | ofNat m=>
  show ∃c r,(lF m).toList.map DX=c :: r;rw[xt]
  cases h:LS 10 m with
  | nil=>have:=DB (n:=m);exact absurd h (by simp)
  | cons c r=>exact⟨_,_,rfl⟩
 | negSucc m=>
  show ∃c r,("-"++lF (m+1):String).toList.map DX=c :: r;rw[wK];exact⟨_,_,rfl⟩
theorem J7{i j:Int}(h:sgn (.int i)=sgn (.int j)):i=j:=by
 rw[JC,JC]at h;have h:(wI i).toList=(wI j).toList:=by
  have:=MW (xB Char.ofNat) h;simpa[lK,Function.comp_def]using this
 have neg:∀m n:Nat,(lF m).toList≠("-"++lF (n+1):String).toList:=by
  intro m n e;rw[wK,xt]at e;have hm:'-'∈LS 10 m:=by rw[e];exact xA _ (by decide)
  exact absurd (Nat.isDigit_of_mem_toDigits (by decide) (by decide) hm) (by decide)
 cases i with
 | ofNat m=>
  cases j with
  | ofNat n=>exact MW _ (JM h)
  | negSucc n=>exact absurd h (neg m n)
 | negSucc m=>
  cases j with
  | ofNat n=>exact absurd h.symm (neg n m)
  | negSucc n=>
   have h:("-"++lF (m+1):String).toList=("-"++lF (n+1):String).toList:=h;rw[wK,wK]at h;have:=JM (DU h);have:m=n:=by omega
   rw[this]
theorem jas(d:D)(h:OkD d):∃c r,sgn d=c :: r/\c≠41:=by
 cases d with
 | int i=>
  obtain⟨c,r,e⟩:=Ys i;refine⟨c,r,e,?_⟩;have:=qI i c (by rw[e];exact bC);unfold Z5 at this;omega
 | str x=>unfold OkD at h;exact⟨39,_,zF h,by decide⟩
 | tup ds=>exact⟨40,_,zE ds,by decide⟩
theorem JT(t:List Nat)(r:List (List Nat)):jn (t :: r)=t++(if r=[] then [] else 44 :: 32 :: jn r):=by
 cases r with
 | nil=>simp[jn]
 | cons u r=>simp[jn]
def jfz(t:List Nat):Prop:=∃r,t=41 :: r\/t=44 :: 41 :: r
theorem Y8{p:List Nat}(h:jg2 p):∀c r,p=c :: r->¬Z5 c:=fun c r e z=>by
 have:=h c r e;unfold Z5 at z;omega
theorem YV{t:List Nat}{r:List (List Nat)}(h:jfz t):jg2 ((if r=[] then [] else 44 :: 32 :: jn r)++t):=by
 intro c q e;split at e
 .obtain⟨z,h | h⟩:=h
  .rw[h]at e;injection e with e;exact .inl e.symm
  .rw[h]at e;injection e with e;exact .inr e.symm
 .injection e with e;exact .inr e.symm
mutual
theorem jee:∀(d e:D) (p q:List Nat),OkD d->OkD e->jg2 p->jg2 q->sgn d++p=sgn e++q->d=e/\p=q
 | .int i,.int j,p,q,_,_,hp,hq,h=>by
  obtain⟨h1,h2⟩:=K4 (qI i) (qI j) (Y8 hp) (Y8 hq) h;exact⟨by rw[J7 h1],h2⟩
 | .int i,.str y,p,q,_,hy,hp,hq,h=>by
  unfold OkD at hy;obtain⟨c,r,e⟩:=Ys i;have hc:=qI i c (by rw[e];exact bC);rw[e,zF hy,cu,cu]at h;injection h with h;unfold Z5 at hc;omega
 | .int i,.tup es,p,q,_,hy,hp,hq,h=>by
  obtain⟨c,r,e⟩:=Ys i;have hc:=qI i c (by rw[e];exact bC);rw[e,zE,cu,cu]at h;injection h with h;unfold Z5 at hc;omega
 | .str x,.int j,p,q,hx,_,hp,hq,h=>by
  unfold OkD at hx;obtain⟨c,r,e⟩:=Ys j;have hc:=qI j c (by rw[e];exact bC);rw[e,zF hx,cu,cu]at h;injection h with h;unfold Z5 at hc;omega
 | .str x,.str y,p,q,hx,hy,hp,hq,h=>by
  unfold OkD at hx hy;rw[zF hx,zF hy,cu,cu]at h;injection h with _ h;rw[bE,bE]at h;obtain⟨h1,h2⟩:=K4 (P:=fun c=>(97<=c/\c<=122)\/c=46) hx hy (fun c r e=>by injection e with e;omega) (fun c r e=>by injection e with e;omega) h;injection h2 with _ h2;exact⟨by rw[Str.ext' (MJ.mp h1)],h2⟩
 | .str x,.tup es,p,q,hx,_,hp,hq,h=>by
  unfold OkD at hx;rw[zF hx,zE,cu,cu]at h;injection h with h;omega
 | .tup ds,.int j,p,q,_,_,hp,hq,h=>by
  obtain⟨c,r,e⟩:=Ys j;have hc:=qI j c (by rw[e];exact bC);rw[e,zE,cu,cu]at h;injection h with h;unfold Z5 at hc;omega
 | .tup ds,.str y,p,q,_,hy,hp,hq,h=>by
  unfold OkD at hy;rw[zF hy,zE,cu,cu]at h;injection h with h;omega
 | .tup ds,.tup es,p,q,hx,hy,hp,hq,h=>by
  unfold OkD at hx hy;rw[zE,zE,cu,cu]at h;injection h with _ h;rw[bE,bE]at h;have et:∀n p,jfz (jfg n++p):=fun n p=>by
   unfold jfg jfz;split
   .exact⟨p,.inr rfl⟩
   .exact⟨p,.inl rfl⟩
  cases ds with
  | nil=>
   cases es with
   | nil=>exact⟨rfl,DU h⟩
   | cons e es=>
    unfold OkDL at hy;obtain⟨c,r,e1,e2⟩:=jas e hy.1;rw[bg,JT,e1]at h;injection h with h;exact absurd h.symm e2
  | cons d ds=>
   cases es with
   | nil=>
    unfold OkDL at hx;obtain⟨c,r,e1,e2⟩:=jas d hx.1;rw[bg,JT,e1]at h;injection h with h;exact absurd h e2
   | cons e es=>
    obtain⟨h1,h2⟩:=shL_inj (d :: ds) (e :: es) _ _ hx hy (by simp) (by simp) (et _ _) (et _ _) h;rw[h1]at h2;exact⟨by rw[h1],DU h2⟩
theorem shL_inj:∀(ds es:List D) (t u:List Nat),OkDL ds->OkDL es->ds≠[]->es≠[]->jfz t->jfz u->jn (ds.map sgn)++t=jn (es.map sgn)++u->ds=es/\t=u
 | [],_,_,_,_,_,h,_,_,_,_=>absurd rfl h
 | _ :: _,[],_,_,_,_,_,h,_,_,_=>absurd rfl h
 | d :: ds,e :: es,t,u,hx,hy,_,_,ht,hu,h=>by
  unfold OkDL at hx hy;rw[bg,bg,JT,JT,bE,bE]at h;obtain⟨h1,h2⟩:=jee d e _ _ hx.1 hy.1 (YV ht) (YV hu) h
  cases ds with
  | nil=>
   cases es with
   | nil=>exact⟨by rw[h1],h2⟩
   | cons e2 es=>
    simp only[gg,bg,if_true,oE,reduceCtorEq,if_false]at h2;obtain⟨r,z | z⟩:=ht
    .rw[z]at h2;simp at h2
    .rw[z]at h2;simp at h2
  | cons d2 ds=>
   cases es with
   | nil=>
    simp only[gg,bg,if_true,oE,reduceCtorEq,if_false]at h2;obtain⟨r,z | z⟩:=hu
    .rw[z]at h2;simp at h2
    .rw[z]at h2;simp at h2
   | cons e2 es=>
    have du:44 :: 32 :: (jn ((d2 :: ds).map sgn)++t)=44 :: 32 :: (jn ((e2 :: es).map sgn)++u):=by
     simpa only[bg,reduceCtorEq,if_false,cu]using h2
    injection du with _ h3;injection h3 with _ h3;obtain⟨h4,h5⟩:=shL_inj (d2 :: ds) (e2 :: es) t u hx.2 hy.2 (by simp) (by simp) ht hu h3;exact⟨by rw[h1,h4],h5⟩
end
theorem YX{d e:D}(hd:OkD d)(he:OkD e)(h:d.py.shown=e.py.shown):d=e:=
 (jee d e [] [] hd he (fun c r z=>by cases z) (fun c r z=>by cases z) (by unfold sgn;rw[h])).1
mutual
theorem jak{h:aj}:∀{d:D} {v:ae},TrAt h d v->∃as,Reads h v d.py as
 | .int i,v,x=>by unfold TrAt at x;obtain⟨t,rfl⟩:=x;exact⟨_,.int i t⟩
 | .str i,v,x=>by unfold TrAt at x;obtain⟨t,rfl⟩:=x;exact⟨_,.str i t⟩
 | .tup ds,v,x=>by
  unfold TrAt at x;obtain⟨a,its,rfl,⟨o,h1,h2,n,h3⟩,hL⟩:=x;obtain⟨as,r⟩:=trL_reads hL;exact⟨as,.tuple h1 h2 h3 r⟩
theorem trL_reads{h:aj}:∀{ds:List D} {vs:List ae},TrAtL h ds vs->∃as,ReadsAll h vs (D.pyL ds) as
 | [],vs,x=>by unfold TrAtL at x;subst x;exact⟨_,.nil⟩
 | d :: ds,vs,x=>by
  unfold TrAtL at x;obtain⟨v,r,rfl,h1,h2⟩:=x;obtain⟨as,a1⟩:=jak h1;obtain⟨bs,a2⟩:=trL_reads h2;exact⟨_,.cons a1 a2⟩
end
mutual
theorem Kr:∀(d:D),OkD d->d.py.showable=true
 | .int i,h=>by
  unfold OkD at h;show decide (i.natAbs.log2 < 1920)=true;refine MR ?_;rcases L8 i.natAbs with z | z
  .rw[z];decide
  .exact (Nat.log2_lt (by omega)).mpr (DD h (by decide))
 | .str x,h=>rfl
 | .tup ds,h=>by unfold OkD at h;exact pyL_showable ds h
theorem pyL_showable:∀(ds:List D),OkDL ds->IT (D.pyL ds)=true
 | [],_=>rfl
 | d :: ds,h=>by
  unfold OkDL at h;show (d.py.showable && IT (D.pyL ds))=true;rw[Kr d h.1,pyL_showable ds h.2];rfl
end
mutual
theorem Y0:∀(d:D),d.py.hasDict=false
 | .int i=>rfl
 | .str x=>rfl
 | .tup ds=>pyL_noDict ds
theorem pyL_noDict:∀(ds:List D),IU (D.pyL ds)=false
 | []=>rfl
 | d :: ds=>by
  show (d.py.hasDict || IU (D.pyL ds))=false;rw[Y0 d,pyL_noDict ds];rfl
end
mutual
theorem jat:∀(d:D),d.py.depth=d.depth
 | .int i=>rfl
 | .str x=>rfl
 | .tup ds=>by
  show C3 (D.pyL ds)+1=_;rw[pyL_depth ds];exact (D.depth.eq_3 ds).symm
theorem pyL_depth:∀(ds:List D),C3 (D.pyL ds)=D.depthL ds
 | []=>rfl
 | d :: ds=>by
  show max d.py.depth (C3 (D.pyL ds))=_;rw[jat d,pyL_depth ds];exact (D.depthL.eq_2 d ds).symm
end
mutual
def D.big:D->Nat
 | .int _=>40
 | .str x=>x.length+2
 | .tup ds=>D.bigL ds+3
def D.bigL:List D->Nat
 | []=>0
 | d :: ds=>D.big d+2+D.bigL ds
end
mutual
theorem jb4:∀(d:D),OkD d->(sgn d).length<=d.big
 | .int i,h=>by
  unfold OkD at h;have:=int_text_length_le10 (k:=39) (by decide) h;rw[JC,aB,String.length_toList];unfold D.big;omega
 | .str x,h=>by
  unfold OkD at h;rw[zF h];unfold D.big;rw[bM,bz,dA];show x.cps.size+1+1<=x.cps.size+2;omega
 | .tup ds,h=>by
  unfold OkD at h;rw[zE];unfold D.big jfg;have:=sgnL_big ds h;rw[bM,bz];split <;> simp only[bM,fe] <;> omega
theorem sgnL_big:∀(ds:List D),OkDL ds->(jn (ds.map sgn)).length<=D.bigL ds
 | [],_=>bF _
 | d :: ds,h=>by
  unfold OkDL at h;have h1:=jb4 d h.1;have h2:=sgnL_big ds h.2;rw[bg,JT];unfold D.bigL;rw[bz];split
  .rw[fe];omega
  .rw[bM,bM];omega
end
theorem jbg{d:D}(h:OkD d)(hb:d.big<=100000):d.py.shown.length<=aE:=by
 have:=jb4 d h;unfold sgn at this;rw[dA]at this;rw[fX];show d.py.shown.cps.size<=_;omega
theorem jdt{X:Cx}(hg:X.A.guards=some []){n:Nat}(hu:X.A.units+2+n < cLine):zC X (.builtin "repr") (fun xs H Q=>∃(a:ab) (d:D),xs=[.ref a]/\Held H d (.ref a)/\d.depth<=n/\OkD d/\d.big<=100000/\Q (.str d.py.shown) H):=by
 intro ad s σ H xs us Q I r h;obtain⟨a,d,rfl,hh,hd,hok,hb,q⟩:=h;obtain⟨u,rfl,rx⟩:=Ja r
 cases rx
 obtain⟨as,rd⟩:=jak (KM I hh rfl);refine repr_of_reads' rd (Kr d hok) (PyData.noDict_hsm (Y0 d)) hg (by rw[jat];omega) (fun _ _ e=>e) (fun h' u tk hk=>?_) (jbg hok hb);exact⟨.str d.py.shown,H,I.kept hk,⟨u,rfl⟩,q⟩
theorem ji5{t1 t2 t3 u:TS}{D:Ends}{σ:St}{H:Hp}(h:let r3:=u;let r2:=jV t3 r3;let r1:=jV t2 r2;jV t1 r1 D σ H):(jV t1 (jV t2 (jV t3 u))) D σ H:=h
theorem ji4{t1 t2 t3 t4 u:TS}{D:Ends}{σ:St}{H:Hp}(h:let r4:=u;let r3:=jV t4 r4;let r2:=jV t3 r3;let r1:=jV t2 r2;jV t1 r1 D σ H):(jV t1 (jV t2 (jV t3 (jV t4 u)))) D σ H:=h
theorem ji3{t1 t2 t3 t4 t5 u:TS}{D:Ends}{σ:St}{H:Hp}(h:let r5:=u;let r4:=jV t5 r5;let r3:=jV t4 r4;let r2:=jV t3 r3;let r1:=jV t2 r2;jV t1 r1 D σ H):(jV t1 (jV t2 (jV t3 (jV t4 (jV t5 u))))) D σ H:=h
theorem jfa{t1 t2 t3 t4 t5 t6 u:TS}{D:Ends}{σ:St}{H:Hp}(h:let r6:=u;let r5:=jV t6 r6;let r4:=jV t5 r5;let r3:=jV t4 r4;let r2:=jV t3 r3;let r1:=jV t2 r2;jV t1 r1 D σ H):(jV t1 (jV t2 (jV t3 (jV t4 (jV t5 (jV t6 u)))))) D σ H:=h
theorem jco{t1 t2 t3 t4 t5 t6 t7 t8 u:TS}{D:Ends}{σ:St}{H:Hp}(h:let r8:=u;let r7:=jV t8 r8;let r6:=jV t7 r7;let r5:=jV t6 r6;let r4:=jV t5 r5;let r3:=jV t4 r4;let r2:=jV t3 r3;let r1:=jV t2 r2;jV t1 r1 D σ H):(jV t1 (jV t2 (jV t3 (jV t4 (jV t5 (jV t6 (jV t7 (jV t8 u)))))))) D σ H:=h
theorem ji2{t1 t2 t3 t4 t5 t6 t7 t8 t9 u:TS}{D:Ends}{σ:St}{H:Hp}(h:let r9:=u;let r8:=jV t9 r9;let r7:=jV t8 r8;let r6:=jV t7 r7;let r5:=jV t6 r6;let r4:=jV t5 r5;let r3:=jV t4 r4;let r2:=jV t3 r3;let r1:=jV t2 r2;jV t1 r1 D σ H):(jV t1 (jV t2 (jV t3 (jV t4 (jV t5 (jV t6 (jV t7 (jV t8 (jV t9 u))))))))) D σ H:=h
end L2
namespace LW
open PySem L2
theorem zQ{X:Cx}{pos:Pos}:QS X (.Return none pos) jg8:=⟨jf0⟩
theorem jbO{X:Cx}{pos:Pos}{i j:Nat}{x y:Str}{a b:ag}{ta:TA}{px py pt:Pos}{kt k2 pt2}(hc:X.calm=true)(hN:X.N.Nodup)(hi:X.N[i]?=some x)(hj:X.N[j]?=some y)(cS:i≠j)
  (hx:X.env.scope.names.lookup x=some .local) (hy:X.env.scope.names.lookup y=some .local) (ha:QA X [a,b] ta)
  (hw:wQ [.Tuple [.Name x px,.Name y py] kt pt] (.Tuple [a,b] k2 pt2) X.env=pure (some [x,y]))
  (hs:wP [.Tuple [.Name x px,.Name y py] kt pt] (.Tuple [a,b] k2 pt2) pos.line X.env=pure false:=by rfl) :
  QS X (.Assign [.Tuple [.Name x px,.Name y py] kt pt] (.Tuple [a,b] k2 pt2) pos) (jiy i j ta):=⟨jhO hc hN hi hj cS hx hy ha.h hw hs⟩
abbrev P2:Type:=Prod D Int
def p2(p:P2):D:=.tup [p.1,.int p.2]
def mor(p:P2)(d:Int):P2:=(p.1,p.2+d)
def kJ(a b:P2):D:=.tup [a.1,b.1,.int (b.2 - a.2)]
def j7(v:D)(s:P2):P2:=(.tup [.str "entry",v,p2 s],0)
def KL:P2:=(.tup [.str "nought"],0)
def Zs(x:Str):P2:=(.tup [.str "start",.str x],0)
def jcd(n:Nat):P2:=(.tup [.str "pick",.int n],0)
def jS(i:Int):P2:=(.tup [.str "own",.int i],0)
def Ky(r:Str):D:=.tup [.str "row",.str r]
def Ym(n:Nat):D:=.tup [.str "lost",.int n]
def yr(n:Nat):D:=.tup [.str "put",.int n]
structure Cs where
 nu:Str->Option P2
 ve:Str->Option D
 na:List Str
 l:Nat->List D
def zV{α:Type}(f:Str->Option α)(x:Str)(d:α):Str->Option α:=fun y=>if y=x then some d else f y
def jin(l:Nat->List D)(i:Nat)(ds:List D):Nat->List D:=fun j=>if j=i then l j++ds else l j
def jfw(xs:List Str)(r:Str):List Str:=if r∈xs then xs else xs++[r]
def Cs.add(c:Cs)(i:Nat)(ds:List D):Cs:={ c with l:=jin c.l i ds }
def Cs.num(c:Cs)(x:Str):P2:=if x = "" then KL else (c.nu x).getD (Zs x)
def Cs.spot(c:Cs)(x:Str)(d:Int):P2:=mor (c.num x) d
def Cs.ver(c:Cs)(r:Str):D:=(c.ve r).getD (Ky r)
def Cs.name(c:Cs)(r:Str):Cs:={ c with na:=jfw c.na r }
def Cs.stand(c:Cs):Tm->P2×Cs
 | .is x=>(c.num x,c)
 | .at_ r x d=>(j7 (c.ver r) (c.spot x d),(c.add 2 [p2 (c.spot x d)]).name r)
def Cs.least(c:Cs)(a b:Tm)(k:Int):D×Cs:=
 let s:=c.stand b
 let t:=s.2.stand a
 (kJ (mor s.1 k) t.1,t.2)
def jgW(v:D)(way:Str)(b:D)(k:Int):D:=.tup [v,.str way,b,.int k]
def Cs.body(c:Cs)(r way:Str)(b:Bd)(k:Int):D×Cs:=match b with
 | .row q=>(jgW (c.ver r) way (.tup [.str "row",c.ver q]) k,(c.name r).name q)
 | .is x=>(jgW (c.ver r) way (.tup [.str "is",p2 (c.num x)]) k,c.name r)
def Cs.know(c:Cs):Cl->Cs
 | .least a b k=>(c.least a b k).2.add 1 [(c.least a b k).1]
 | .each t td u ud r way b k=>
  let e:=(c.add 2 [p2 (c.spot t td)]).body r way b k
  e.2.add 4 [.tup [p2 (c.spot t td),p2 (c.spot u ud),e.1]]
 | .rise t td u ud r=>((c.add 2 [p2 (c.spot t td)]).name r).add 5 [.tup [p2 (c.spot t td),p2 (c.spot u ud),c.ver r]]
def qY(v:D)(way:Str)(b:P2)(k:Int)(s:P2):D:=if way = ">=" then kJ (mor b k) (j7 v s) else kJ (j7 v s) (mor b k)
def Cs.bnd(c:Cs)(b:Bd)(s:P2):P2:=match b with
 | .row q=>j7 (c.ver q) s
 | .is x=>c.num x
def Ko:D->D
 | .tup [x,y,.int c]=>.tup [y,x,.int (-1 - c)]
 | d=>d
def Cs.deny(c:Cs):Cl->Cs
 | .least a b k=>(c.least b a (1 - k)).2.add 1 [(c.least b a (1 - k)).1]
 | .each t td u ud r way b k=>
  let e:=c.body r way b k
  (e.2.add 2 [p2 (jS 0)]).add 1 [kJ (c.spot t td) (jS 0),kJ (jS 0) (c.spot u ud),Ko (qY (c.ver r) way (c.bnd b (jS 0)) k (jS 0))]
 | .rise t td u ud r=>((c.name r).add 2 [p2 (jS 0),p2 (jS 1)]).add 1 [kJ (c.spot t td) (jS 0),kJ (jS 0) (jS 1),kJ (jS 1) (c.spot u ud),kJ (mor (j7 (c.ver r) (jS 1)) 1) (j7 (c.ver r) (jS 0))]
inductive Rw where
 | set (x:Str) (t:Tm) (c:Int) | put (r x:Str) (d:Int) (t:Tm) (c:Int) | any (x:Str) | lose (r:Str) | know (C:Cl)
def Rw.toD:Rw->D
 | .set x t c=>.tup [.str "set",.str x,t.toD,.int c]
 | .put r x d t c=>.tup [.str "put",.str r,plD x d,t.toD,.int c]
 | .any x=>.tup [.str "any",.str x]
 | .lose r=>.tup [.str "lose",.str r]
 | .know C=>.tup [.str "know",C.toD]
def Cs.setn(c:Cs)(x:Str)(p:P2):Cs:={ c with nu:=zV c.nu x p }
def Cs.setv(c:Cs)(r:Str)(d:D):Cs:={ c with ve:=zV c.ve r d }
def Cs.take(c:Cs)(n:Nat):Rw->Cs
 | .set x t k=>(c.stand t).2.setn x (mor (c.stand t).1 k)
 | .put r x d t k=>
  let s:=c.spot x d
  let v:=mor (c.stand t).1 k
  (((((c.stand t).2.name r).add 2 [p2 s]).add 3 [.tup [p2 s,(c.stand t).2.ver r,p2 v,yr n]]).add 1 [kJ (j7 (yr n) s) v,kJ v (j7 (yr n) s)]).setv r (yr n)
 | .any x=>c.setn x (jcd n)
 | .lose r=>((c.name r).setv r (Ym n)).add 0 [Ym n]
 | .know C=>c.know C
def Cs.none:Cs:=⟨fun _=>Option.none,fun _=>Option.none,[],fun _=>[]⟩
def Cs.rows(c:Cs):List Rw->Nat->Cs
 | [],_=>c
 | r :: R,n=>(c.take n r).rows R (n+1)
def top(i:Nat):aA:=PySem.Challenge.pw_outlineward_k44_ties_of_a_book.main.body.getD i (.Pass ⟨0,0,0,0⟩)
structure CA where
 o:ab
 dx:ab
 nu:ab
 ve:ab
 na:ab
 l:Nat->ab
def jjc(A:CA):List (Str×V):=[("numbers",.ref A.nu),("versions",.ref A.ve),("named",.ref A.na),("lost",.ref (A.l 0)),("ties",.ref (A.l 1)),("spots",.ref (A.l 2)),("puts",.ref (A.l 3)),("eaches",.ref (A.l 4)),("rises",.ref (A.l 5))]
def DAt(n:Nat)(f:Str->Option D)(H:Hp)(a:ab):Prop:=∃kvs:List (Key×V),H a=some (.dK kvs)/\kvs.length<=n/\∀x,(f x=none->qu kvs (.inr x)=none)/\∀d,f x=some d->∃v,qu kvs (.inr x)=some v/\Held H d v
def NAt(n:Nat)(xs:List Str)(H:Hp)(a:ab):Prop:=∃kvs:List (Key×V),H a=some (.dK kvs)/\kvs.length<=n/\kvs.map (·.1)=xs.map Sum.inr
def LAt(n:Nat)(ds:List D)(H:Hp)(a:ab):Prop:=∃xs,H a=some (.lst xs)/\HeldL H ds xs/\xs.length<=n
structure CsAt(C:ab)(n:Nat)(A:CA)(c:Cs)(H:Hp):Prop where
 o:H A.o=some (.ins C A.dx (jjc A))
 n1:A.nu≠A.ve
 n2:A.nu≠A.na
 n3:A.ve≠A.na
 inj:∀i j,i < 6->j < 6->A.l i=A.l j->i=j
 nu:DAt n (fun x=>(c.nu x).map p2) H A.nu
 ve:DAt n c.ve H A.ve
 na:NAt n c.na H A.na
 l:∀i,i < 6->LAt n (c.l i) H (A.l i)
def Mv(A:CA)(H H':Hp):Prop:=∀b o,b≠A.nu->b≠A.ve->b≠A.na->(∀i,i < 6->b≠A.l i)->H b=some o->H' b=some o
theorem j4{H:Hp}:∀{ds aF:List D} {vs mP:List V},HeldL H ds vs->HeldL H aF mP->HeldL H (ds++aF) (vs++mP)
 | [],_,_,_,h,h'=>by cases jM h;exact h'
 | _ :: _,_,_,_,h,h'=>by
  obtain⟨v,r,rfl,h1,h2⟩:=jl h;exact je h1 (j4 h2 h')
variable {P:az}{w:aw}{K:aq}{mg:Str->Option ae}{base:aj}
theorem Mv.same{A:CA}{H H':Hp}(s:Same H H'):Mv A H H':=fun b o _ _ _ _ e=>s b o e
theorem Mv.trans{A:CA}{H H1 H2:Hp}(h:Mv A H H1)(k:Mv A H1 H2):Mv A H H2:=fun b o a1 a2 a3 a4 e=>k b o a1 a2 a3 a4 (h b o a1 a2 a3 a4 e)
theorem DAt.tk{n:Nat}{f:Str->Option D}{H H':Hp}{a:ab}(h:DAt n f H a)(t:TK H H')(e:∀o,H a=some o->H' a=some o):DAt n f H' a:=by
 obtain⟨kvs,h1,h2,h3⟩:=h;refine⟨kvs,e _ h1,h2,fun x=>⟨(h3 x).1,fun d hd=>?_⟩⟩;obtain⟨v,k1,k2⟩:=(h3 x).2 d hd;exact⟨v,k1,t.held k2⟩
theorem LAt.tk{n:Nat}{ds:List D}{H H':Hp}{a:ab}(h:LAt n ds H a)(t:TK H H')(e:∀o,H a=some o->H' a=some o):LAt n ds H' a:=by
 obtain⟨xs,h1,h2,h3⟩:=h;exact⟨xs,e _ h1,t.heldL h2,h3⟩
theorem NAt.tk{n:Nat}{xs:List Str}{H H':Hp}{a:ab}(h:NAt n xs H a)(e:∀o,H a=some o->H' a=some o):NAt n xs H' a:=by
 obtain⟨kvs,h1,h2,h3⟩:=h;exact⟨kvs,e _ h1,h2,h3⟩
theorem CsAt.same{C:ab}{n:Nat}{A:CA}{c:Cs}{H H':Hp}(I:CsAt C n A c H)(s:Same H H'):CsAt C n A c H':=
 ⟨s _ _ I.o,I.n1,I.n2,I.n3,I.inj,I.nu.tk (.same s) fun o=>s _ o,I.ve.tk (.same s) fun o=>s _ o,I.na.tk fun o=>s _ o,fun i hi=>(I.l i hi).tk (.same s) fun o=>s _ o⟩
theorem CsAt.mono{C:ab}{n m:Nat}{A:CA}{c:Cs}{H:Hp}(I:CsAt C n A c H)(h:n<=m):CsAt C m A c H:=by
 obtain⟨a1,a2,a3,a4,a5,⟨k1,h1,l1,m1⟩,⟨k2,h2,l2,m2⟩,⟨k3,h3,l3,m3⟩,a9⟩:=I;refine⟨a1,a2,a3,a4,a5,⟨k1,h1,aG l1 h,m1⟩,⟨k2,h2,aG l2 h,m2⟩,⟨k3,h3,aG l3 h,m3⟩,fun i hi=>?_⟩;obtain⟨xs,e1,e2,e3⟩:=a9 i hi;exact⟨xs,e1,e2,aG e3 h⟩
theorem CsAt.tk{C:ab}{n:Nat}{A:CA}{c:Cs}{H H':Hp}(I:CsAt C n A c H)(m:Mv A H H'):TK H H':=fun b xs e=>by
 obtain⟨k1,h1,_⟩:=I.nu;obtain⟨k2,h2,_⟩:=I.ve;obtain⟨k3,h3,_⟩:=I.na;refine m b _ (fun z=>?_) (fun z=>?_) (fun z=>?_) (fun i hi z=>?_) e
 .rw[z,h1]at e;cases e
 .rw[z,h2]at e;cases e
 .rw[z,h3]at e;cases e
 .obtain⟨ys,h4,_⟩:=I.l i hi
  rw[z,h4]at e;cases e
theorem jy{H:Hp}{a b:ab}{x y:HO}(h:H a=some x)(k:H b=some y)(n:x≠y):a≠b:=fun e=>by
 rw[e,k]at h;exact n (cN h).symm
theorem jj{H:Hp}{a b:ab}{o u:HO}(h:b≠a)(e:H b=some u):upd H a o b=some u:=by rw[jD h];exact e
theorem CsAt.app{C:ab}{n:Nat}{A:CA}{c:Cs}{H:Hp}(I:CsAt C n A c H){i:Nat}(hi:i < 6){ds:List D}{vs xs:List V}(hd:HeldL H ds vs)(e:H (A.l i)=some (.lst xs)):
  Mv A H (upd H (A.l i) (.lst (xs++vs)))/\CsAt C (n+vs.length) A (c.add i ds) (upd H (A.l i) (.lst (xs++vs))):=by
 have mv:Mv A H (upd H (A.l i) (.lst (xs++vs))):=fun b o _ _ _ h4 eb=>jj (h4 i hi) eb
 have t:=I.tk mv
 obtain⟨k1,h1,_⟩:=I.nu
 obtain⟨k2,h2,_⟩:=I.ve
 obtain⟨k3,h3,_⟩:=I.na
 obtain⟨ys,h4,h5,h6⟩:=I.l i hi
 obtain rfl:xs=ys:=by rw[h4]at e;cases e;rfl
 have J:=I.mono (Nat.le_add_right n vs.length)
 refine⟨mv,jj (jy I.o e (by intro z;cases z)) I.o,I.n1,I.n2,I.n3,I.inj,J.nu.tk t fun o=>jj (jy h1 e (by intro z;cases z)),J.ve.tk t fun o=>jj (jy h2 e (by intro z;cases z)),J.na.tk fun o=>jj (jy h3 e (by intro z;cases z)),fun j hj=>?_⟩
 show LAt _ (jin c.l i ds j) _ _
 unfold jin
 by_cases z:j=i
 .rw[MU z,z]
  exact⟨_,jf,j4 (t.heldL h5) (t.heldL hd),by rw[bz];omega⟩
 .rw[MT z]
  exact (J.l j hj).tk t fun o=>jj fun q=>z (I.inj j i hj hi q)
theorem CsAt.app1{C:ab}{n:Nat}{A:CA}{c:Cs}{H:Hp}(I:CsAt C n A c H){i:Nat}(hi:i < 6){d:D}{v:V}{xs:List V}(hd:Held H d v)(e:H (A.l i)=some (.lst xs)):
  Mv A H (upd H (A.l i) (.lst (xs++[v])))/\CsAt C (n+1) A (c.add i [d]) (upd H (A.l i) (.lst (xs++[v]))):=I.app hi (je hd jr) e
theorem KO{n:Nat}{f:Str->Option D}{H:Hp}{a:ab}{kvs:List (Key×V)}{x:Str}{d:D}{v:V}(h:DAt n f H a)(e:H a=some (.dK kvs))(hv:Held H d v):TK H (upd H a (.dK (km kvs (.inr x) v)))/\DAt (n+1) (zV f x d) (upd H a (.dK (km kvs (.inr x) v))) a:=by
 have t:TK H (upd H a (.dK (km kvs (.inr x) v))):=fun b xs eb=>jj (jy eb e (by intro z;cases z)) eb
 obtain⟨k1,h1,h2,h3⟩:=h;obtain rfl:k1=kvs:=by rw[h1]at e;cases e;rfl
 refine⟨t,_,jf,aG (kK _ _ _) (gW h2),fun y=>?_⟩;unfold zV;rw[jdL];by_cases z:y=x
 .rw[MU z,MU (by rw[z])]
  exact⟨(by intro q;cases q),fun d' hd=>by cases hd;exact⟨v,rfl,t.held hv⟩⟩
 .rw[MT z,MT (fun q=>z (wJ q))]
  refine⟨(h3 y).1,fun d' hd=>?_⟩;obtain⟨u,q1,q2⟩:=(h3 y).2 d' hd;exact⟨u,q1,t.held q2⟩
theorem jcl{kvs:List (Key×V)}{k:Key}(v:V)(h:k∈kvs.map (·.1)):(km kvs k v).map (·.1)=kvs.map (·.1):=by
 unfold km;rw[MU ?_,lK]
 .refine List.map_congr_left fun p _=>?_
  show (if p.1=k then (p.1,v) else p).1=p.1;split <;> rfl
 .obtain⟨p,h1,h2⟩:=cc.mp h
  exact mO.mpr ⟨p,h1,MR h2⟩
theorem je5{kvs:List (Key×V)}{k:Key}(v:V)(h:k ∉ kvs.map (·.1)):(km kvs k v).map (·.1)=kvs.map (·.1)++[k]:=by
 unfold km;rw[MT ?_,bq]
 .rfl
 .intro z
  obtain⟨p,h1,h2⟩:=mO.mp z;exact h (cc.mpr ⟨p,h1,MQ h2⟩)
theorem CsAt.setn{C:ab}{n:Nat}{A:CA}{c:Cs}{H:Hp}{kvs:List (Key×V)}(I:CsAt C n A c H){x:Str}{p:P2}{v:V}(hv:Held H (p2 p) v)(e:H A.nu=some (.dK kvs)):
  Mv A H (upd H A.nu (.dK (km kvs (.inr x) v)))/\CsAt C (n+1) A (c.setn x p) (upd H A.nu (.dK (km kvs (.inr x) v))):=by
 obtain⟨t,d⟩:=KO (x:=x) I.nu e hv
 have J:=I.mono (cO n)
 refine⟨fun b o h1 _ _ _ eb=>jj h1 eb,jj (jy I.o e (by intro z;cases z)) I.o,I.n1,I.n2,I.n3,I.inj,?_,J.ve.tk t fun o=>jj I.n1.symm,J.na.tk fun o=>jj I.n2.symm,fun i hi=>?_⟩
 .have:(fun y=>((zV c.nu x p) y).map p2)=zV (fun y=>(c.nu y).map p2) x (p2 p):=by
   funext y;unfold zV;split <;> rfl
  show DAt _ (fun y=>((zV c.nu x p) y).map p2) _ _;rw[this];exact d
 .obtain⟨ys,h4,_⟩:=I.l i hi
  exact (J.l i hi).tk t fun o=>jj (jy h4 e (by intro z;cases z))
theorem CsAt.setv{C:ab}{n:Nat}{A:CA}{c:Cs}{H:Hp}{kvs:List (Key×V)}(I:CsAt C n A c H){r:Str}{d:D}{v:V}(hv:Held H d v)(e:H A.ve=some (.dK kvs)):
  Mv A H (upd H A.ve (.dK (km kvs (.inr r) v)))/\CsAt C (n+1) A (c.setv r d) (upd H A.ve (.dK (km kvs (.inr r) v))):=by
 obtain⟨t,d⟩:=KO (x:=r) I.ve e hv
 have J:=I.mono (cO n)
 refine⟨fun b o _ h1 _ _ eb=>jj h1 eb,jj (jy I.o e (by intro z;cases z)) I.o,I.n1,I.n2,I.n3,I.inj,J.nu.tk t fun o=>jj I.n1,d,J.na.tk fun o=>jj I.n3.symm,fun i hi=>?_⟩
 obtain⟨ys,h4,_⟩:=I.l i hi
 exact (J.l i hi).tk t fun o=>jj (jy h4 e (by intro z;cases z))
theorem CsAt.named{C:ab}{n:Nat}{A:CA}{c:Cs}{H:Hp}{kvs:List (Key×V)}(I:CsAt C n A c H){r:Str}{v:V}(e:H A.na=some (.dK kvs)):
  Mv A H (upd H A.na (.dK (km kvs (.inr r) v)))/\CsAt C (n+1) A (c.name r) (upd H A.na (.dK (km kvs (.inr r) v))):=by
 have t:TK H (upd H A.na (.dK (km kvs (.inr r) v))):=fun b xs eb=>jj (jy eb e (by intro z;cases z)) eb
 have J:=I.mono (cO n)
 refine⟨fun b o _ _ h1 _ eb=>jj h1 eb,jj (jy I.o e (by intro z;cases z)) I.o,I.n1,I.n2,I.n3,I.inj,J.nu.tk t fun o=>jj I.n2,J.ve.tk t fun o=>jj I.n3,?_,fun i hi=>?_⟩
 .obtain⟨k1,h1,h2,h3⟩:=I.na
  obtain rfl:k1=kvs:=by rw[h1]at e;cases e;rfl
  refine⟨_,jf,aG (kK _ _ _) (gW h2),?_⟩
  show _=(jfw c.na r).map Sum.inr
  unfold jfw
  by_cases z:r∈c.na
  .rw[MU z,jcl _ (by rw[h3];exact cc.mpr ⟨r,z,rfl⟩),h3]
  .rw[MT z,je5 _ (by rw[h3];intro q;obtain⟨y,y1,y2⟩:=cc.mp q;cases y2;exact z y1),bq,h3]
   rfl
 .obtain⟨ys,h4,_⟩:=I.l i hi
  exact (J.l i hi).tk t fun o=>jj (jy h4 e (by intro z;cases z))
abbrev yo:aA:=top 20
abbrev JJ:aA:=top 21
abbrev yV:aA:=top 19
abbrev ZF:aA:=top 22
abbrev zG:aA:=top 3
theorem Ji{H:Hp}{p:P2}{v:V}(h:Held H (p2 p) v):∃t x,v=.ref t/\H t=some (.tup [x,.int p.2])/\Held H p.1 x:=by
 obtain⟨t,xs,rfl,ht,hx⟩:=jF h;obtain⟨x,r,rfl,h1,h2⟩:=jl hx;obtain⟨y,r,rfl,h3,h4⟩:=jl h2
 cases kc h3
 cases jM h4
 exact⟨t,x,rfl,ht,h1⟩
def qw:Sp:=fun vs H Q _=>∃(v:V) (d:Int) (p:P2),vs=[v,.int d]/\Held H (p2 p) v/\∀v' H',Same H H'->Held H' (p2 (mor p d)) v'->Q v' H'
def zD:Sp:=fun vs H Q _=>∃(v u:V) (p q:P2),vs=[v,u]/\Held H (p2 p) v/\Held H (p2 q) u/\∀v' H',Same H H'->Held H' (kJ p q) v'->Q v' H'
def zU:Sp:=fun vs H Q _=>∃(v u:V) (d:D) (p:P2),vs=[v,u]/\Held H d v/\Held H (p2 p) u/\∀v' H',Same H H'->Held H' (p2 (j7 d p)) v'->Q v' H'
def jbe:Sp:=fun vs H Q _=>∃(v u:V) (p q:P2),vs=[v,u]/\Held H (p2 p) v/\Held H (p2 q) u/\∀l x y H',Same H H'->H l=none->H' l=some (.lst [x,y])->Held H' (kJ p q) x->Held H' (kJ q p) y->Q (.ref l) H'
def jbX:Sp:=fun vs H Q _=>∃(v:V) (x y:D) (c:Int),vs=[v]/\Held H (.tup [x,y,.int c]) v/\∀v' H',Same H H'->Held H' (.tup [y,x,.int (-1 - c)]) v'->Q v' H'
section
variable {P:az}{w:aw}{K:aq}{mg:Str->Option ae}{base:aj}
theorem jgx{f:ab}{fd:aH}(F:Fun K "more_than" "more_than" yo f fd):FnOk P w K mg base CX0 1 f fd ["stood_for","d"] qw:=by
 have sc:FnScope ["stood_for","d","source","more"] ["stood_for","d"] (jm yo):=fQ;refine F.okZ sc (fun vs H Q E h=>?_) (fun au A outer s H vs Q E hr h=>?_)
 .obtain⟨v,d,p,rfl,_⟩:=h
  rfl
 obtain⟨v,d,p,rfl,hv,q⟩:=h;refine⟨_,(jd (zd (zpv 0) (kH rfl (jz (jx (i:=2) sc.nd rfl oQ) (jz (jx (i:=3) sc.nd rfl oQ) ky))))
   (ji (jB (zpd (j5 (jt (kn 2) (jt (zp (js qi (zpv 3) (zpv 1))) jP))))))),?_⟩
 refine jG (σ':=[some v,some (.int d),none,none]) rfl ?_;obtain⟨t,x,rfl,ht,hx⟩:=Ji hv;refine⟨_,rfl,t,_,rfl,SqT.of ht,rfl,_,_,rfl,_,_,rfl,rfl,?_⟩;refine jG (σ':=[some (.ref t),some (.int d),some x,some (.int p.2)]) rfl ?_;refine⟨p2 (mor p d),⟨_,rfl,aX rfl,_,_,rfl,⟨_,rfl,hx⟩,_,_,rfl,(fun G sG Q q=>?_),rfl⟩,fun v H' s h=>q v H' s h⟩;exact⟨_,rfl,_,rfl,_,_,rfl,rfl,q _ _ (fun _ _ e=>e) jO⟩
theorem jh7{f:ab}{fd:aH}(F:Fun K "at_most" "at_most" JJ f fd):FnOk P w K mg base CX0 1 f fd ["one","other"] zD:=by
 have sc:FnScope ["one","other"] ["one","other"] (jm JJ):=fQ;refine F.okZ sc (fun vs H Q E h=>?_) (fun au A outer s H vs Q E hr h=>?_)
 .obtain⟨v,u,p,q,rfl,_⟩:=h
  rfl
 obtain⟨v,u,p,q,rfl,hv,hu,k⟩:=h;refine⟨_,(ji (jB (zpd (j5 (jt (zp (jp ju (zpv 0) jc (fun _ _=>rfl))) (jt (zp (jp ju (zpv 1) jc (fun _ _=>rfl))) (jt (zp (js qH (jp ju (zpv 1) jc (fun _ _=>rfl)) (jp ju (zpv 0) jc (fun _ _=>rfl)))) jP))))))),?_⟩;refine jG (σ':=[some v,some u]) rfl ?_;obtain⟨t,x,rfl,ht,hx⟩:=Ji hv;obtain⟨t',y,rfl,dq,hy⟩:=Ji hu;refine⟨kJ p q,⟨_,rfl,aX rfl,_,_,rfl,(fun G sG Q q=>?_),_,_,rfl,(fun G sG Q q=>?_),_,_,rfl,(fun G sG Q q=>?_),rfl⟩,fun v H' s h=>k v H' s h⟩
 .exact⟨_,rfl,t,_,_,_,rfl,rfl,SqT.of (sG _ _ ht),jg (j:=0) rfl,q _ _ (fun _ _ e=>e) (hx.mono sG)⟩
 .exact⟨_,rfl,t',_,_,_,rfl,rfl,SqT.of (sG _ _ dq),jg (j:=0) rfl,q _ _ (fun _ _ e=>e) (hy.mono sG)⟩
 .exact⟨_,rfl,t',_,_,_,rfl,rfl,SqT.of (sG _ _ dq),jg (j:=1) rfl,_,rfl,t,_,_,_,rfl,rfl,SqT.of (sG _ _ ht),jg (j:=1) rfl,_,_,rfl,rfl,q _ _ (fun _ _ e=>e) jO⟩
theorem jh6{f:ab}{fd:aH}(F:Fun K "entry_of" "entry_of" yV f fd):FnOk P w K mg base CX0 1 f fd ["version","spot"] zU:=by
 have sc:FnScope ["version","spot"] ["version","spot"] (jm yV):=fQ;refine F.okZ sc (fun vs H Q E h=>?_) (fun au A outer s H vs Q E hr h=>?_)
 .obtain⟨v,u,d,p,rfl,_⟩:=h
  rfl
 obtain⟨v,u,d,p,rfl,hv,hu,k⟩:=h;refine⟨_,(ji (jB (zpd (j5 (jt (j5 (jt kR (jt (kn 0) (jt (kn 1) jP)))) (jt zc jP)))))),?_⟩;refine jG (σ':=[some v,some u]) rfl ?_;exact⟨p2 (j7 d p),⟨_,rfl,aX rfl,_,_,rfl,⟨_,rfl,aX rfl,_,_,rfl,rfl,_,_,rfl,⟨_,rfl,hv⟩,_,_,rfl,⟨_,rfl,hu⟩,rfl⟩,_,_,rfl,rfl,rfl⟩,fun v H' s h=>k v H' s h⟩
theorem jgy{f:ab}{fd:aH}(F:Fun K "alike" "alike" ZF f fd)(bt:Fn P w K mg base 1 "at_most" ["one","other"] zD):FnOk P w K mg base CX0 2 f fd ["one","other"] jbe:=by
 have sc:FnScope ["one","other"] ["one","other"] (jm ZF):=fQ;refine F.okZ sc (fun vs H Q E h=>?_) (fun au A outer s H vs Q E hr h=>?_)
 .obtain⟨v,u,p,q,rfl,_⟩:=h
  rfl
 obtain⟨v,u,p,q,rfl,hv,hu,k⟩:=h;refine⟨_,(ji (jB (jK (ja (jh bt hr (ja (zpv 0) (ja (zpv 1) jb))) (ja (jh bt hr (ja (zpv 1) (ja (zpv 0) jb))) jb))))),?_⟩;refine jG (σ':=[some v,some u]) rfl ?_;refine⟨_,rfl,_,rfl,v,u,p,q,rfl,hv,hu,fun x H1 s1 hx=>⟨_,rfl,_,rfl,u,v,q,p,rfl,hu.mono s1,hv.mono s1,fun y H2 s2 hy=>⟨sm rfl,fun l hl=>?_⟩⟩⟩;have s3:=jk hl (.lst [x,y]);exact k l x y _ ((s1.trans s2).trans s3) ((s1.trans s2).free hl) jf ((hx.mono s2).mono s3) (hy.mono s3)
theorem jeO{f:ab}{fd:aH}(F:Fun K "turned_tie" "turned_tie" zG f fd):FnOk P w K mg base CX0 1 f fd ["tie"] jbX:=by
 have sc:FnScope ["tie","x","y","c"] ["tie"] (jm zG):=fQ;refine F.okZ sc (fun vs H Q E h=>?_) (fun au A outer s H vs Q E hr h=>?_)
 .obtain⟨v,x,y,c,rfl,_⟩:=h
  rfl
 obtain⟨v,x,y,c,rfl,hv,k⟩:=h;refine⟨_,(jd (zd (zpv 0) (kH rfl (jz (jx (i:=1) sc.nd rfl oQ) (jz (jx (i:=2) sc.nd rfl oQ) (jz (jx (i:=3) sc.nd rfl oQ) ky)))))
   (ji (jB (zpd (j5 (jt (kn 2) (jt (kn 1) (jt (zp (js qH (jaY ja5 jc) (zpv 3))) jP)))))))),?_⟩
 refine jG (σ':=[some v,none,none,none]) rfl ?_;obtain⟨t,xs,rfl,ht,hx⟩:=jF hv;obtain⟨a,r,rfl,h1,h2⟩:=jl hx;obtain⟨b,r,rfl,h3,h4⟩:=jl h2;obtain⟨z,r,rfl,h5,h6⟩:=jl h4
 cases kc h5
 cases jM h6
 refine⟨_,rfl,t,_,rfl,SqT.of ht,rfl,_,_,rfl,_,_,rfl,_,_,rfl,rfl,?_⟩;refine jG (σ':=[some (.ref t),some a,some b,some (.int c)]) rfl ?_;refine⟨.tup [y,x,.int (-1 - c)],⟨_,rfl,aX rfl,_,_,rfl,⟨_,rfl,h3⟩,_,_,rfl,⟨_,rfl,h1⟩,_,_,rfl,(fun G sG Q q=>?_),rfl⟩,fun v H' s h=>k v H' s h⟩;exact⟨1,rfl,_,rfl,_,_,rfl,rfl,q _ _ (fun _ _ e=>e) jO⟩
end
abbrev kE:aA:=top 15
abbrev JD:aA:=top 17
abbrev qT:aA:=top 18
abbrev zH:aA:=top 16
structure ClsC(K:aq)(C:ab):Prop where
 c:Cls K C
 n1:NoAttr K C "numbers"
 n2:NoAttr K C "versions"
 n3:NoAttr K C "named"
 n4:NoAttr K C "lost"
 n5:NoAttr K C "ties"
 n6:NoAttr K C "spots"
 n7:NoAttr K C "puts"
 n8:NoAttr K C "eaches"
 n9:NoAttr K C "rises"
def jbZ(C:ab):Sp:=fun vs H Q _=>∃(n:Nat) (A:CA) (c:Cs) (x:Str),vs=[.ref A.o,.str x]/\CsAt C n A c H/\∀v H',Same H H'->Held H' (p2 (c.num x)) v->Q v H'
def Ya(C:ab):Sp:=fun vs H Q _=>∃(n:Nat) (A:CA) (c:Cs) (x:Str) (d:Int) (v:V),vs=[.ref A.o,v]/\CsAt C n A c H/\Held H (plD x d) v/\∀v H',Same H H'->Held H' (p2 (c.spot x d)) v->Q v H'
def YW(C:ab):Sp:=fun vs H Q _=>∃(n:Nat) (A:CA) (c:Cs) (r:Str),vs=[.ref A.o,.str r]/\CsAt C n A c H/\n<=900/\∀v H',Mv A H H'->CsAt C (n+1) A (c.name r) H'->Held H' (c.ver r) v->Q v H'
def KD(C:ab):Sp:=fun vs H Q _=>∃(n:Nat) (A:CA) (c:Cs) (t:Tm) (v:V),vs=[.ref A.o,v]/\CsAt C n A c H/\n<=880/\Held H t.toD v/\∀v H',Mv A H H'->CsAt C (n+2) A (c.stand t).2 H'->Held H' (p2 (c.stand t).1) v->Q v H'
theorem k0{n:Nat}(h:n<=900):n < aE:=jI (by omega)
section
variable {P:az}{w:aw}{K:aq}{mg:Str->Option ae}{base:aj}{C:ab}
theorem jh3{f:ab}{fd:aH}(T:ClsC K C)(F:Fun K "number_stands_for" "number_stands_for" kE f fd):FnOk P w K mg base CX0 1 f fd ["case","x"] (jbZ C):=by
 have sc:FnScope ["case","x"] ["case","x"] (jm kE):=fQ;refine F.okZ sc (fun vs H Q E h=>?_) (fun au A outer s H vs Q E hr h=>?_)
 .obtain⟨n,A,c,x,rfl,_⟩:=h
  rfl
 have hu:(A.deeper (cr "number_stands_for" (jm kE) s.heap.objs.size f au)).units+1 < cLine:=by have:=hr.units;omega
 obtain⟨n,B,c,x,rfl,I,q⟩:=h;refine⟨_,(jd (jN (jC kh (zpv 1) jq (jH _)) (ji (jB (zpd (j5 (jt (j5 (jt kR jP)) (jt zc jP)))))) jJ)
   (ji (jB (yR hu (jW (zpv 0) rfl) (zpv 1) (zpd (j5 (jt (j5 (jt kR (jt (kn 1) jP))) (jt zc jP)))) ⟨rfl,rfl,rfl,rfl⟩)))),?_⟩
 refine jG (σ':=[some (.ref B.o),some (.str x)]) rfl ?_;obtain⟨kvs,h1,_,h3⟩:=I.nu;unfold Cs.num at q;refine⟨_,rfl,rfl,_,rfl,yu (fun d=>?_) (fun d=>?_)⟩
 .rw[MU (V.str.inj (MQ d))]at q
  exact⟨p2 KL,⟨_,rfl,aX rfl,_,_,rfl,⟨_,rfl,aX rfl,_,_,rfl,rfl,rfl⟩,_,_,rfl,rfl,rfl⟩,fun v H' s h=>q v H' s h⟩
 .rw[MT (fun e=>d (MR (MW V.str e)))]at q
  refine⟨_,rfl,B.o,C,B.dx,_,_,rfl,I.o,T.c,T.n1,rfl,B.nu,rfl,.inl ⟨kvs,.inl h1⟩,_,rfl,p2 (Zs x),⟨_,rfl,aX rfl,_,_,rfl,⟨_,rfl,aX rfl,_,_,rfl,rfl,_,_,rfl,⟨_,rfl,jE⟩,rfl⟩,_,_,rfl,rfl,rfl⟩,fun v H' s h=>⟨_,.k (k:=.inr x) (s _ _ h1),?_⟩⟩
  cases e:c.nu x with
  | none=>
   rw[(h3 x).1 (by show (c.nu x).map p2=none;rw[e];rfl)];rw[e]at q;exact q _ _ s h
  | some p=>
   obtain⟨u,u1,u2⟩:=(h3 x).2 (p2 p) (by show (c.nu x).map p2=_;rw[e];rfl);rw[u1];rw[e]at q;exact q _ _ s (u2.mono s)
theorem jgt{f:ab}{fd:aH}(F:Fun K "spot_of" "spot_of" JD f fd)(gK:Fn P w K mg base 1 "number_stands_for" ["case","x"] (jbZ C))(cp:Fn P w K mg base 1 "more_than" ["stood_for","d"] qw):FnOk P w K mg base CX0 2 f fd ["case","place"] (Ya C):=by
 have sc:FnScope ["case","place","x","d"] ["case","place"] (jm JD):=fQ;refine F.okZ sc (fun vs H Q E h=>?_) (fun au A outer s H vs Q E hr h=>?_)
 .obtain⟨n,A,c,x,d,v,rfl,_⟩:=h
  rfl
 obtain⟨n,A,c,x,d,v,rfl,I,hv,q⟩:=h;refine⟨_,(jd (zd (zpv 1) (kH rfl (jz (jx (i:=2) sc.nd rfl oQ) (jz (jx (i:=3) sc.nd rfl oQ) ky))))
   (ji (jB (jh cp hr (ja (jh gK hr (ja (zpv 0) (ja (zpv 2) jb))) (ja (zpv 3) jb)))))),?_⟩
 refine jG (σ':=[some (.ref A.o),some v,none,none]) rfl ?_;obtain⟨t,rfl,ht⟩:=Jh hv;refine⟨_,rfl,t,_,rfl,SqT.of ht,rfl,_,_,rfl,_,_,rfl,rfl,?_⟩;refine jG (σ':=[some (.ref A.o),some (.ref t),some (.str x),some (.int d)]) rfl ?_;exact⟨_,rfl,_,rfl,n,A,c,x,rfl,I,fun v H1 s1 h1=>⟨_,rfl,v,d,_,rfl,h1,fun v H2 s2 h2=>q v H2 (s1.trans s2) h2⟩⟩
theorem jh1{f:ab}{fd:aH}(T:ClsC K C)(F:Fun K "version_of" "version_of" qT f fd):FnOk P w K mg base CX0 1 f fd ["case","r"] (YW C):=by
 have sc:FnScope ["case","r"] ["case","r"] (jm qT):=fQ;refine F.okZ sc (fun vs H Q E h=>?_) (fun au A outer s H vs Q E hr h=>?_)
 .obtain⟨n,A,c,r,rfl,_⟩:=h
  rfl
 have hu:(A.deeper (cr "version_of" (jm qT) s.heap.objs.size f au)).units+1 < cLine:=by have:=hr.units;omega
 obtain⟨n,B,c,r,rfl,I,hn,q⟩:=h;refine⟨_,(jd (kx hu (jW (zpv 0) rfl) (zpv 1) zP rfl)
   (ji (jB (yR hu (jW (zpv 0) rfl) (zpv 1) (zpd (j5 (jt kR (jt (kn 1) jP)))) ⟨rfl,rfl,rfl,rfl⟩)))),?_⟩
 refine jG (σ':=[some (.ref B.o),some (.str r)]) rfl ?_;obtain⟨ks,h1,h2,_⟩:=I.na;refine⟨_,rfl,B.o,C,B.dx,_,_,rfl,I.o,T.c,T.n3,rfl,_,rfl,B.na,_,rfl,.k (k:=.inr r) h1 (k0 (aG h2 hn)),?_⟩;obtain⟨m1,I1⟩:=I.named (r:=r) (v:=.bl true) h1;generalize upd H B.na _=H1 at *;obtain⟨kvs,k1,_,k3⟩:=I1.ve;refine⟨_,rfl,B.o,C,B.dx,_,_,rfl,I1.o,T.c,T.n2,rfl,B.ve,rfl,.inl ⟨kvs,.inl k1⟩,_,rfl,Ky r,⟨_,rfl,aX rfl,_,_,rfl,rfl,_,_,rfl,⟨_,rfl,jE⟩,rfl⟩,fun v H' s h=>⟨_,.k (k:=.inr r) (s _ _ k1),?_⟩⟩;have m2:=m1.trans (.same s)
 cases e:c.ve r with
 | none=>
  rw[(k3 r).1 e];exact q _ _ m2 (I1.same s) (by unfold Cs.ver;rw[e];exact h)
 | some d=>
  obtain⟨u,u1,u2⟩:=(k3 r).2 d e;rw[u1];exact q _ _ m2 (I1.same s) (by unfold Cs.ver;rw[e];exact u2.mono s)
theorem jdT{H:Hp}{t:Tm}{v:V}(h:Held H t.toD v):(∃x a,t=.is x/\v=.ref a/\H a=some (.tup [.str "is",.str x]))\/∃r x d a u,t=.at_ r x d/\v=.ref a/\H a=some (.tup [.str "at",.str r,u])/\Held H (plD x d) u:=by
 cases t with
 | is x=>
  obtain⟨t,xs,rfl,ht,hx⟩:=jF h;obtain⟨a,r,rfl,h1,h2⟩:=jl hx;obtain⟨b,r,rfl,h3,h4⟩:=jl h2
  cases jv h1
  cases jv h3
  cases jM h4
  exact .inl ⟨x,t,rfl,rfl,ht⟩
 | at_ r x d=>
  obtain⟨t,xs,rfl,ht,hx⟩:=jF h;obtain⟨a,l,rfl,h1,h2⟩:=jl hx;obtain⟨b,l,rfl,h3,h4⟩:=jl h2;obtain⟨e,l,rfl,h5,h6⟩:=jl h4
  cases jv h1
  cases jv h3
  cases jM h6
  exact .inr ⟨r,x,d,t,e,rfl,rfl,ht,h5⟩
theorem jeQ{f:ab}{fd:aH}(T:ClsC K C)(F:Fun K "stands_for" "stands_for" zH f fd)(gK:Fn P w K mg base 1 "number_stands_for" ["case","x"] (jbZ C))(dZ:Fn P w K mg base 2 "spot_of" ["case","place"] (Ya C))(dv:Fn P w K mg base 1 "version_of" ["case","r"] (YW C))(ce:Fn P w K mg base 1 "entry_of" ["version","spot"] zU):FnOk P w K mg base CX0 3 f fd ["case","term"] (KD C):=by
 have sc:FnScope ["case","term","spot"] ["case","term"] (jm zH):=fQ;refine F.okZ sc (fun vs H Q E h=>?_) (fun au A outer s H vs Q E hr h=>?_)
 .obtain⟨n,A,c,t,v,rfl,_⟩:=h
  rfl
 obtain⟨n,B,c,t,v,rfl,I,hn,hv,q⟩:=h;refine⟨_,(jd (jN (jC kh (jp ju (zpv 1) jc (fun _ _=>rfl)) jq (jH _)) (ji (jB (jh gK hr (ja (zpv 0) (ja (jp ju (zpv 1) jc (fun _ _=>rfl)) jb))))) jJ)
   (jd (jw (i:=2) sc.nd rfl oQ (jh dZ hr (ja (zpv 0) (ja (jp ju (zpv 1) jc (fun _ _=>rfl)) jb))))
   (jd (jA (kg bS dj dh j0 (jW (zpv 0) rfl) (ja (zpv 2) jb)))
   (ji (jB (jh ce hr (ja (jh dv hr (ja (zpv 0) (ja (jp ju (zpv 1) jc (fun _ _=>rfl)) jb))) (ja (zpv 2) jb)))))))),?_⟩
 refine jG (σ':=[some (.ref B.o),some v,none]) rfl ?_;rcases jdT hv with⟨x,a,rfl,rfl,ha⟩ | ⟨r,x,d,a,u,rfl,rfl,ha,hu⟩
 .refine⟨_,rfl,a,_,_,_,rfl,rfl,SqT.of ha,jg (j:=0) rfl,rfl,_,rfl,kO ?_⟩
  exact⟨_,rfl,_,rfl,a,_,_,_,rfl,rfl,SqT.of ha,jg (j:=1) rfl,n,B,c,x,rfl,I,fun v H' s h=>q v H' (.same s) ((I.same s).mono (by omega)) h⟩
 .refine⟨_,rfl,a,_,_,_,rfl,rfl,SqT.of ha,jg (j:=0) rfl,rfl,_,rfl,ku ?_⟩
  refine⟨_,rfl,_,rfl,a,_,_,_,rfl,rfl,SqT.of ha,jg (j:=2) rfl,n,B,c,x,d,u,rfl,I,hu,fun v H1 s1 hv=>?_⟩;refine jG (σ':=[some (.ref B.o),some (.ref a),some v]) rfl ?_;have I1:=I.same s1;obtain⟨xs,l1,l2,l3⟩:=I1.l 2 (by decide);refine⟨_,rfl,B.o,C,B.dx,_,_,rfl,I1.o,T.c,T.n6,rfl,.inl ⟨rfl,_,SqL.of l1⟩,_,rfl,B.l 2,xs,v,rfl,rfl,l1,k0 (by omega),?_⟩;obtain⟨m2,I2⟩:=I1.app1 (i:=2) (by decide) hv l1;have t2:=I1.tk m2;have hJ:=t2.held hv;have dH:=t2 _ _ (s1 _ _ ha);generalize upd H1 (B.l 2) _=H2 at *;refine⟨_,rfl,_,rfl,a,_,_,_,rfl,rfl,SqT.of dH,jg (j:=1) rfl,n+1,B,_,r,rfl,I2,by omega,fun u H3 m3 I3 nB=>?_⟩;have t3:=I2.tk m3;refine⟨_,rfl,u,v,_,_,rfl,nB,t3.held hJ,fun y H4 s4 h4=>?_⟩;exact q y H4 (((Mv.same s1).trans m2).trans (m3.trans (.same s4))) (I3.same s4) h4
end
abbrev yp:aA:=top 23
abbrev JI:aA:=top 24
abbrev yW:aA:=top 25
abbrev KG:aA:=top 1
def jao:Sp:=fun vs H Q _=>∃(v:V) (a b:Tm) (c:Int),vs=[v]/\Held H (Cl.least a b c).toD v/\∀u H',Same H H'->Held H' (Cl.least b a (1 - c)).toD u->Q u H'
def Yb(C:ab):Sp:=fun vs H Q _=>∃(n:Nat) (A:CA) (c:Cs) (a b:Tm) (k:Int) (v:V),vs=[.ref A.o,v]/\CsAt C n A c H/\n<=860/\Held H (Cl.least a b k).toD v/\∀v H',Mv A H H'->CsAt C (n+4) A (c.least a b k).2 H'->Held H' (c.least a b k).1 v->Q v H'
def Zw(C:ab):Sp:=fun vs H Q _=>∃(n:Nat) (A:CA) (c:Cs) (t u:Str) (td ud:Int) (r way:Str) (b:Bd) (k:Int) (v:V),vs=[.ref A.o,v]/\CsAt C n A c H/\n<=860/\Held H (Cl.each t td u ud r way b k).toD v/\∀v H',Mv A H H'->CsAt C (n+2) A (c.body r way b k).2 H'->Held H' (c.body r way b k).1 v->Q v H'
def KF:Sp:=fun vs H Q _=>∃(c:Cs) (r way:Str) (b:Bd) (k:Int) (s:P2) (v u:V),vs=[v,u]/\Held H (c.body r way b k).1 v/\Held H (p2 s) u/\∀v H',Same H H'->Held H' (qY (c.ver r) way (c.bnd b s) k s) v->Q v H'
section
variable {P:az}{w:aw}{K:aq}{mg:Str->Option ae}{base:aj}{C:ab}
theorem jc2{f:ab}{fd:aH}(F:Fun K "turned" "turned" KG f fd):FnOk P w K mg base CX0 1 f fd ["least"] jao:=by
 have sc:FnScope ["least","a","b","c"] ["least"] (jm KG):=fQ;refine F.okZ sc (fun vs H Q E h=>?_) (fun au A outer s H vs Q E hr h=>?_)
 .obtain⟨v,a,b,c,rfl,_⟩:=h
  rfl
 obtain⟨v,a,b,c,rfl,hv,q⟩:=h;refine⟨_,(jd (zd (qe Zz (zpv 0) (qj jc) qS) (kH rfl (jz (jx (i:=1) sc.nd rfl oQ) (jz (jx (i:=2) sc.nd rfl oQ) (jz (jx (i:=3) sc.nd rfl oQ) ky)))))
   (ji (jB (zpd (j5 (jt kR (jt (kn 2) (jt (kn 1) (jt (zp (js qH jc (zpv 3))) jP))))))))),?_⟩
 refine jG (σ':=[some v,none,none,none]) rfl ?_;obtain⟨t,va,vb,rfl,ht,ha,hb⟩:=zn hv;refine⟨_,rfl,_,rfl,t,_,rfl,SqT.of ht,(fun h=>absurd h.1 (by show ¬(HT.sIx 4 0 (some 1)=0);decide)),fun t' dq=>?_⟩;have s1:=jk dq (.tup (zf [.str "least",va,vb,.int c] (some 1) none));have e1:upd H t' (.tup (zf [.str "least",va,vb,.int c] (some 1) none)) t'=some (.tup [va,vb,.int c]):=jf;generalize upd H t' (.tup (zf [.str "least",va,vb,.int c] (some 1) none))=H1 at *;refine⟨t',_,rfl,SqT.of e1,rfl,_,_,rfl,_,_,rfl,_,_,rfl,rfl,?_⟩;refine jG (σ':=[some (.ref t),some va,some vb,some (.int c)]) rfl ?_;refine⟨(Cl.least b a (1 - c)).toD,⟨_,rfl,aX rfl,_,_,rfl,rfl,_,_,rfl,⟨_,rfl,(hb.mono s1)⟩,_,_,rfl,⟨_,rfl,(ha.mono s1)⟩,_,_,rfl,(fun G sG Q q=>?_),rfl⟩,fun v H' s h=>q v H' (s1.trans s) h⟩;exact⟨_,rfl,1,c,rfl,rfl,q _ _ (fun _ _ e=>e) (by unfold Held;rfl)⟩
theorem jc5{f:ab}{fd:aH}(F:Fun K "least_tie" "least_tie" yp f fd)(fV:Fn P w K mg base 3 "stands_for" ["case","term"] (KD C))(cp:Fn P w K mg base 1 "more_than" ["stood_for","d"] qw)(bt:Fn P w K mg base 1 "at_most" ["one","other"] zD):FnOk P w K mg base CX0 4 f fd ["case","least"] (Yb C):=by
 have sc:FnScope ["case","least","a","b","c"] ["case","least"] (jm yp):=fQ;refine F.okZ sc (fun vs H Q E h=>?_) (fun au A outer s H vs Q E hr h=>?_)
 .obtain⟨n,A,c,a,b,k,v,rfl,_⟩:=h
  rfl
 obtain⟨n,B,c,a,b,k,v,rfl,I,hn,hv,q⟩:=h;refine⟨_,(jd (zd (qe Zz (zpv 1) (qj jc) qS) (kH rfl (jz (jx (i:=2) sc.nd rfl oQ) (jz (jx (i:=3) sc.nd rfl oQ) (jz (jx (i:=4) sc.nd rfl oQ) ky)))))
   (ji (jB (jh bt hr (ja (jh cp hr (ja (jh fV hr (ja (zpv 0) (ja (zpv 3) jb))) (ja (zpv 4) jb))) (ja (jh fV hr (ja (zpv 0) (ja (zpv 2) jb))) jb)))))),?_⟩
 refine jG (σ':=[some (.ref B.o),some v,none,none,none]) rfl ?_;obtain⟨t,va,vb,rfl,ht,ha,hb⟩:=zn hv;refine⟨_,rfl,_,rfl,t,_,rfl,SqT.of ht,(fun h=>absurd h.1 (by show ¬(HT.sIx 4 0 (some 1)=0);decide)),fun t' dq=>?_⟩;have s1:=jk dq (.tup (zf [.str "least",va,vb,.int k] (some 1) none));have e1:upd H t' (.tup (zf [.str "least",va,vb,.int k] (some 1) none)) t'=some (.tup [va,vb,.int k]):=jf;generalize upd H t' (.tup (zf [.str "least",va,vb,.int k] (some 1) none))=H1 at *;refine⟨t',_,rfl,SqT.of e1,rfl,_,_,rfl,_,_,rfl,_,_,rfl,rfl,?_⟩;refine jG (σ':=[some (.ref B.o),some (.ref t),some va,some vb,some (.int k)]) rfl ?_;refine⟨_,rfl,_,rfl,n,B,c,b,vb,rfl,I.same s1,by omega,hb.mono s1,fun x H2 m2 I2 hx=>?_⟩;have t2:=(I.same s1).tk m2;refine⟨_,rfl,x,k,_,rfl,hx,fun y H3 s3 hy=>?_⟩;refine⟨_,rfl,_,rfl,n+2,B,_,a,va,rfl,I2.same s3,by omega,(t2.held (ha.mono s1)).mono s3,fun z H4 m4 I4 hz=>?_⟩;have t4:=(I2.same s3).tk m4;refine⟨y,z,_,_,rfl,t4.held hy,hz,fun u H5 s5 hu=>?_⟩;exact q u H5 (((Mv.same s1).trans m2).trans (((Mv.same s3).trans m4).trans (.same s5))) (I4.same s5) hu
theorem jeX{f:ab}{fd:aH}(F:Fun K "body_of" "body_of" JI f fd)(dv:Fn P w K mg base 1 "version_of" ["case","r"] (YW C))(gK:Fn P w K mg base 1 "number_stands_for" ["case","x"] (jbZ C)):FnOk P w K mg base CX0 2 f fd ["case","claim"] (Zw C):=by
 have sc:FnScope ["case","claim","r","way","b","c","version"] ["case","claim"] (jm JI):=fQ;refine F.okZ sc (fun vs H Q E h=>?_) (fun au A outer s H vs Q E hr h=>?_)
 .obtain⟨n,A,c,t,u,td,ud,r,way,b,k,v,rfl,_⟩:=h
  rfl
 obtain⟨n,B,c,t,u,td,ud,r,way,b,k,v,rfl,I,hn,hv,q⟩:=h;refine⟨_,(jd (zd (qe Zz (zpv 1) (qj jc) qS) (kH rfl (jz (jx (i:=2) sc.nd rfl oQ) (jz (jx (i:=3) sc.nd rfl oQ) (jz (jx (i:=4) sc.nd rfl oQ) (jz (jx (i:=5) sc.nd rfl oQ) ky))))))
   (jd (jw (i:=6) sc.nd rfl oQ (jh dv hr (ja (zpv 0) (ja (zpv 2) jb))))
   (jd (jN (jC kh (jp ju (zpv 4) jc (fun _ _=>rfl)) jq (jH _)) (ji (jB (jR (ja (zpv 6) (ja (zpv 3) (ja (jR (ja jq (ja (jh dv hr (ja (zpv 0) (ja (jp ju (zpv 4) jc (fun _ _=>rfl)) jb))) jb))) (ja (zpv 5) jb))))))) jJ)
   (ji (jB (jR (ja (zpv 6) (ja (zpv 3) (ja (jR (ja jq (ja (jh gK hr (ja (zpv 0) (ja (jp ju (zpv 4) jc (fun _ _=>rfl)) jb))) jb))) (ja (zpv 5) jb)))))))))),?_⟩
 refine jG (σ':=[some (.ref B.o),some v,none,none,none,none,none]) rfl ?_;obtain⟨t,va,vb,x,rfl,ht,_,_,hb⟩:=yg hv;refine⟨_,rfl,_,rfl,t,_,rfl,SqT.of ht,(fun h=>absurd h.1 (by show ¬(HT.sIx 7 0 (some 3)=0);decide)),fun t' dq=>?_⟩;have s1:=jk dq (.tup (zf [.str "each",.ref va,.ref vb,.str r,.str way,.ref x,.int k] (some 3) none));have e1:upd H t' (.tup (zf [.str "each",.ref va,.ref vb,.str r,.str way,.ref x,.int k] (some 3) none)) t'=some (.tup [.str r,.str way,.ref x,.int k]):=jf;generalize upd H t' (.tup (zf [.str "each",.ref va,.ref vb,.str r,.str way,.ref x,.int k] (some 3) none))=H1 at *;refine⟨t',_,rfl,SqT.of e1,rfl,_,_,rfl,_,_,rfl,_,_,rfl,_,_,rfl,rfl,?_⟩;refine jG (σ':=[some (.ref B.o),some (.ref t),some (.str r),some (.str way),some (.ref x),some (.int k),none]) rfl ?_;refine⟨_,rfl,_,rfl,n,B,c,r,rfl,I.same s1,by omega,fun y H2 m2 I2 hy=>?_⟩;refine jG (σ':=[some (.ref B.o),some (.ref t),some (.str r),some (.str way),some (.ref x),some (.int k),some y]) rfl ?_;have t2:=(I.same s1).tk m2;have M2:=(Mv.same s1).trans m2;have ha:=t2 _ _ (s1 _ _ hb);rcases b with x' | r'
 .refine⟨_,rfl,x,_,_,_,rfl,rfl,SqT.of ha,jg (j:=0) rfl,rfl,_,rfl,ku ?_⟩
  refine⟨_,rfl,_,rfl,_,rfl,_,rfl,x,_,_,_,rfl,rfl,SqT.of ha,jg (j:=1) rfl,n+1,B,_,x',rfl,I2,fun z H3 s3 hz=>⟨sm rfl,fun p hp=>⟨_,rfl,sm rfl,fun o ho=>?_⟩⟩⟩;have s4:=jk hp (.tup [.str "is",z]);have s5:=jk ho (.tup [y,.str way,.ref p,.int k]);have S:=(s3.trans s4).trans s5;exact q _ _ (M2.trans (.same S)) ((I2.same S).mono (by omega)) (jL jf (je (hy.mono S) (je jE (je (jL (s5 _ _ jf) (je jE (je (hz.mono (s4.trans s5)) jr))) (je jO jr)))))
 .refine⟨_,rfl,x,_,_,_,rfl,rfl,SqT.of ha,jg (j:=0) rfl,rfl,_,rfl,kO ?_⟩
  refine⟨_,rfl,_,rfl,_,rfl,_,rfl,x,_,_,_,rfl,rfl,SqT.of ha,jg (j:=1) rfl,n+1,B,_,r',rfl,I2,by omega,fun z H3 m3 I3 hz=>⟨sm rfl,fun p hp=>⟨_,rfl,sm rfl,fun o ho=>?_⟩⟩⟩;have t3:=I2.tk m3;have s4:=jk hp (.tup [.str "row",z]);have s5:=jk ho (.tup [y,.str way,.ref p,.int k]);have S:=s4.trans s5;exact q _ _ (M2.trans (m3.trans (.same S))) (I3.same S) (jL jf (je ((t3.held hy).mono S) (je jE (je (jL (s5 _ _ jf) (je jE (je (hz.mono S) jr))) (je jO jr)))))
theorem yf{H:Hp}{a b c d:D}{v:V}(h:Held H (.tup [a,b,c,d]) v):∃t x y z u,v=.ref t/\H t=some (.tup [x,y,z,u])/\Held H a x/\Held H b y/\Held H c z/\Held H d u:=by
 obtain⟨t,xs,rfl,ht,hx⟩:=jF h;obtain⟨x,r,rfl,h1,h2⟩:=jl hx;obtain⟨y,r,rfl,h3,h4⟩:=jl h2;obtain⟨z,r,rfl,h5,h6⟩:=jl h4;obtain⟨u,r,rfl,h7,h8⟩:=jl h6
 cases jM h8
 exact⟨t,x,y,z,u,rfl,ht,h1,h3,h5,h7⟩
theorem qv{H:Hp}{a b:D}{v:V}(h:Held H (.tup [a,b]) v):∃t x y,v=.ref t/\H t=some (.tup [x,y])/\Held H a x/\Held H b y:=by
 obtain⟨t,xs,rfl,ht,hx⟩:=jF h;obtain⟨x,r,rfl,h1,h2⟩:=jl hx;obtain⟨y,r,rfl,h3,h4⟩:=jl h2
 cases jM h4
 exact⟨t,x,y,rfl,ht,h1,h3⟩
theorem jeW{f:ab}{fd:aH}(F:Fun K "body_tie" "body_tie" yW f fd)(ce:Fn P w K mg base 1 "entry_of" ["version","spot"] zU)(cp:Fn P w K mg base 1 "more_than" ["stood_for","d"] qw)(bt:Fn P w K mg base 1 "at_most" ["one","other"] zD):FnOk P w K mg base CX0 2 f fd ["body","spot"] KF:=by
 have sc:FnScope ["body","spot","version","way","b","c","held","bound"] ["body","spot"] (jm yW):=fQ;refine F.okZ sc (fun vs H Q E h=>?_) (fun au A outer s H vs Q E hr h=>?_)
 .obtain⟨c,r,way,b,k,s,v,u,rfl,_⟩:=h
  rfl
 obtain⟨c,r,way,b,k,p,v,u,rfl,hv,hu,q⟩:=h;refine⟨_,(jd (zd (zpv 0) (kH rfl (jz (jx (i:=2) sc.nd rfl oQ) (jz (jx (i:=3) sc.nd rfl oQ) (jz (jx (i:=4) sc.nd rfl oQ) (jz (jx (i:=5) sc.nd rfl oQ) ky))))))
   (jd (jw (i:=6) sc.nd rfl oQ (jh ce hr (ja (zpv 2) (ja (zpv 1) jb))))
   (jd (jw (i:=7) sc.nd rfl oQ (jp ju (zpv 4) jc (fun _ _=>rfl)))
   (jd (Js (jN (jC kh (jp ju (zpv 4) jc (fun _ _=>rfl)) jq (jH _)) (ji (jw (i:=7) sc.nd rfl oQ (jh ce hr (ja (jp ju (zpv 4) jc (fun _ _=>rfl)) (ja (zpv 1) jb))))) jJ))
   (jd (jN (jC kh (zpv 3) jq (jH _)) (ji (jB (jh bt hr (ja (jh cp hr (ja (zpv 7) (ja (zpv 5) jb))) (ja (zpv 6) jb))))) jJ)
   (ji (jB (jh bt hr (ja (zpv 6) (ja (jh cp hr (ja (zpv 7) (ja (zpv 5) jb))) jb)))))))))),?_⟩
 refine jG (σ':=[some v,some u,none,none,none,none,none,none]) rfl ?_;have key:∃bd,(c.body r way b k).1=jgW (c.ver r) way bd k/\((bd=.tup [.str "is",p2 (c.bnd b p)] )\/∃d,bd=.tup [.str "row",d]/\c.bnd b p=j7 d p):=by
  cases b with
  | is x=>exact⟨_,rfl,.inl rfl⟩
  | row x=>exact⟨_,rfl,.inr ⟨_,rfl,rfl⟩⟩
 obtain⟨bd,e0,FW⟩:=key;rw[e0]at hv;obtain⟨t,x1,x2,x3,x4,rfl,ht,g1,g2,g3,g4⟩:=yf hv
 cases jv g2
 cases kc g4
 refine⟨_,rfl,t,_,rfl,SqT.of ht,rfl,_,_,rfl,_,_,rfl,_,_,rfl,_,_,rfl,rfl,?_⟩;refine jG (σ':=[some (.ref t),some u,some x1,some (.str way),some x3,some (.int k),none,none]) rfl ?_;refine⟨_,rfl,_,rfl,x1,u,_,_,rfl,g1,hu,fun y H1 s1 hy=>?_⟩;refine jG (σ':=[some (.ref t),some u,some x1,some (.str way),some x3,some (.int k),some y,none]) rfl ?_;have two:∃t3 a x5,x3=.ref t3/\H t3=some (.tup [.str a,x5])/\((a = "is"/\Held H (p2 (c.bnd b p)) x5)\/(a = "row"/\∃d,Held H d x5/\c.bnd b p=j7 d p)):=by
  rcases FW with rfl | ⟨d,rfl,e⟩ <;> obtain⟨t3,a,x5,e1,e2,e3,e4⟩:=qv g3 <;> cases jv e3
  .exact⟨t3,_,x5,e1,e2,.inl ⟨rfl,e4⟩⟩
  .exact⟨t3,_,x5,e1,e2,.inr ⟨rfl,d,e4,e⟩⟩
 obtain⟨t3,a,x5,rfl,h3,Fe⟩:=two;refine⟨_,rfl,t3,_,_,_,rfl,rfl,SqT.of (s1 _ _ h3),jg (j:=1) rfl,?_⟩;refine jG (σ':=[some (.ref t),some u,some x1,some (.str way),some (.ref t3),some (.int k),some y,some x5]) rfl ?_;refine⟨fun σ' G=>∃z,σ'=[some (.ref t),some u,some x1,some (.str way),some (.ref t3),some (.int k),some y,some z]/\Same H1 G/\Held G (p2 (c.bnd b p)) z,?_,?_⟩
 .rcases Fe with⟨rfl,h5⟩ | ⟨rfl,d,h5,e5⟩
  .exact⟨_,rfl,t3,_,_,_,rfl,rfl,SqT.of (s1 _ _ h3),jg (j:=0) rfl,rfl,_,rfl,ku ⟨x5,rfl,fun _ _ e=>e,h5.mono s1⟩⟩
  .refine⟨_,rfl,t3,_,_,_,rfl,rfl,SqT.of (s1 _ _ h3),jg (j:=0) rfl,rfl,_,rfl,kO ?_⟩
   exact⟨_,rfl,t3,_,_,_,rfl,rfl,SqT.of (s1 _ _ h3),jg (j:=1) rfl,_,rfl,x5,u,d,p,rfl,h5.mono s1,hu.mono s1,fun z G sG hz=>⟨z,rfl,sG,by rw[e5];exact hz⟩⟩
 .rintro σ' G ⟨z,rfl,sG,hz⟩
  have dE:=hy.mono sG;unfold qY at q;refine⟨_,rfl,rfl,_,rfl,yu (fun d=>?_) (fun d=>?_)⟩
  .rw[MU (V.str.inj (MQ d))]at q
   exact⟨_,rfl,_,rfl,z,k,_,rfl,hz,fun v G1 s2 hv=>⟨_,rfl,v,y,_,_,rfl,hv,dE.mono s2,fun r G2 s3 hr=>q r G2 (s1.trans (sG.trans (s2.trans s3))) hr⟩⟩
  .rw[MT (fun e=>d (MR (MW V.str e)))]at q
   exact⟨_,rfl,_,rfl,_,rfl,z,k,_,rfl,hz,fun v G1 s2 hv=>⟨y,v,_,_,rfl,dE.mono s2,hv,fun r G2 s3 hr=>q r G2 (s1.trans (sG.trans (s2.trans s3))) hr⟩⟩
end
abbrev zY:aA:=top 12
abbrev jb6:aA:=top 13
def jhf(C:ab):Sp:=fun vs H Q _=>∃(n:Nat) (A:CA) (c:Cs) (i:Nat) (r x:Str) (d:Int) (t:Tm) (k:Int) (v:V),vs=[.ref A.o,.int (i:Nat),v]/\CsAt C n A c H/\n<=840/\Held H (Rw.put r x d t k).toD v/\∀H',Mv A H H'->CsAt C (n+8) A (c.take i (.put r x d t k)) H'->Q .non H'
def jd6(C:ab):Sp:=fun vs H Q _=>∃(n:Nat) (A:CA) (c:Cs) (K:Cl) (v:V),vs=[.ref A.o,v]/\CsAt C n A c H/\n<=840/\Held H K.toD v/\∀H',Mv A H H'->CsAt C (n+8) A (c.know K) H'->Q .non H'
theorem JV{H:Hp}{a b c d e:D}{v:V}(h:Held H (.tup [a,b,c,d,e]) v):∃t x y z u w,v=.ref t/\H t=some (.tup [x,y,z,u,w])/\Held H a x/\Held H b y/\Held H c z/\Held H d u/\Held H e w:=by
 obtain⟨t,xs,rfl,ht,hx⟩:=jF h;obtain⟨x,r,rfl,h1,h2⟩:=jl hx;obtain⟨y,r,rfl,h3,h4⟩:=jl h2;obtain⟨z,r,rfl,h5,h6⟩:=jl h4;obtain⟨u,r,rfl,h7,h8⟩:=jl h6;obtain⟨w,r,rfl,h9,i0⟩:=jl h8
 cases jM i0
 exact⟨t,x,y,z,u,w,rfl,ht,h1,h3,h5,h7,h9⟩
section
variable {P:az}{w:aw}{K:aq}{mg:Str->Option ae}{base:aj}{C:ab}
theorem jgr{f:ab}{fd:aH}(T:ClsC K C)(F:Fun K "take_put" "take_put" zY f fd)(dZ:Fn P w K mg base 2 "spot_of" ["case","place"] (Ya C))(fV:Fn P w K mg base 3 "stands_for" ["case","term"] (KD C))(cp:Fn P w K mg base 1 "more_than" ["stood_for","d"] qw)(dv:Fn P w K mg base 1 "version_of" ["case","r"] (YW C))(ce:Fn P w K mg base 1 "entry_of" ["version","spot"] zU)(j_:Fn P w K mg base 2 "alike" ["one","other"] jbe):FnOk P w K mg base CX0 4 f fd ["case","n","row"] (jhf C):=by
 have sc:FnScope ["case","n","row","r","place","a","c","spot","value","ahead","behind"] ["case","n","row"] (jm zY):=fQ;refine F.okZ sc (fun vs H Q E h=>?_) (fun au A outer s H vs Q E hr h=>?_)
 .obtain⟨n,A,c,i,r,x,d,t,k,v,rfl,_⟩:=h
  rfl
 have hu:(A.deeper (cr "take_put" (jm zY) s.heap.objs.size f au)).units+1 < cLine:=by have:=hr.units;omega
 obtain⟨n,B,c,i,r,x,d,t,k,v,rfl,I,hn,hv,q⟩:=h;refine⟨_,(jd (zd (qe Zz (zpv 2) (qj jc) qS) (kH rfl (jz (jx (i:=3) sc.nd rfl oQ) (jz (jx (i:=4) sc.nd rfl oQ) (jz (jx (i:=5) sc.nd rfl oQ) (jz (jx (i:=6) sc.nd rfl oQ) ky))))))
   (jd (jw (i:=7) sc.nd rfl oQ (jh dZ hr (ja (zpv 0) (ja (zpv 4) jb))))
   (jd (jw (i:=8) sc.nd rfl oQ (jh cp hr (ja (jh fV hr (ja (zpv 0) (ja (zpv 5) jb))) (ja (zpv 6) jb))))
   (jd (jw (i:=9) sc.nd rfl oQ (jh dv hr (ja (zpv 0) (ja (zpv 3) jb))))
   (jd (jw (i:=10) sc.nd rfl oQ (zpd (j5 (jt kR (jt (kn 1) jP)))))
   (jd (jA (kg bS dj dh j0 (jW (zpv 0) rfl) (ja (zpv 7) jb)))
   (jd (jA (kg bS dj dh j0 (jW (zpv 0) rfl) (ja (zpd (j5 (jt (kn 7) (jt (kn 9) (jt (kn 8) (jt (kn 10) jP)))))) jb)))
   (jd (jA (kg bS gT gS kQ (jW (zpv 0) rfl) (ja (jh j_ hr (ja (jh ce hr (ja (zpv 10) (ja (zpv 7) jb))) (ja (zpv 8) jb))) jb)))
   (ji (kx hu (jW (zpv 0) rfl) (zpv 3) (zpv 10) rfl)))))))))),?_⟩
 refine jG (σ':=[some (.ref B.o),some (.int i),some v,none,none,none,none,none,none,none,none]) rfl ?_
 try dsimp only[y9]
 refine jco ?_;intro _ _ _ _ _ _ _ _;obtain⟨t0,x0,x1,x2,x3,x4,rfl,ht,h0,h1,h2,h3,h4⟩:=JV hv
 cases jv h0
 cases jv h1
 cases kc h4
 refine⟨_,rfl,_,rfl,t0,_,rfl,SqT.of ht,(fun h=>absurd h.1 (by show ¬(HT.sIx 5 0 (some 1)=0);decide)),fun t' dq=>?_⟩;have s1:=jk dq (.tup (zf [.str "put",.str r,x2,x3,.int k] (some 1) none));have e1:upd H t' (.tup (zf [.str "put",.str r,x2,x3,.int k] (some 1) none)) t'=some (.tup [.str r,x2,x3,.int k]):=jf;generalize upd H t' (.tup (zf [.str "put",.str r,x2,x3,.int k] (some 1) none))=H1 at *;refine⟨t',_,rfl,SqT.of e1,rfl,_,_,rfl,_,_,rfl,_,_,rfl,_,_,rfl,rfl,?_⟩;refine jG (σ':=[some (.ref B.o),some (.int i),some (.ref t0),some (.str r),some x2,some x3,some (.int k),none,none,none,none]) rfl ?_;have I1:=I.same s1;refine⟨_,rfl,_,rfl,n,B,c,x,d,x2,rfl,I1,h2.mono s1,fun sp H2 s2 aV=>?_⟩;refine jG (σ':=[some (.ref B.o),some (.int i),some (.ref t0),some (.str r),some x2,some x3,some (.int k),some sp,none,none,none]) rfl ?_;have I2:=I1.same s2;refine⟨_,rfl,_,rfl,n,B,c,t,x3,rfl,I2,by omega,(h3.mono s1).mono s2,fun y H3 m3 I3 hy=>⟨_,rfl,y,k,_,rfl,hy,fun va H4 s4 AD=>?_⟩⟩;refine jG (σ':=[some (.ref B.o),some (.int i),some (.ref t0),some (.str r),some x2,some x3,some (.int k),some sp,some va,none,none]) rfl ?_;have AN:=((I2.tk m3).held aV).mono s4;have M4:=((Mv.same (A:=B) s1).trans (.same s2)).trans (m3.trans (.same s4));have I4:=I3.same s4;refine⟨_,rfl,_,rfl,n+2,B,_,r,rfl,I4,by omega,fun ah H5 m5 I5 Bx=>?_⟩;refine jG (σ':=[some (.ref B.o),some (.int i),some (.ref t0),some (.str r),some x2,some x3,some (.int k),some sp,some va,some ah,none]) rfl ?_;have t5:=I4.tk m5;refine⟨yr i,⟨_,rfl,aX rfl,_,_,rfl,rfl,_,_,rfl,⟨_,rfl,jO⟩,rfl⟩,fun be H6 s6 gF=>?_⟩;refine jG (σ':=[some (.ref B.o),some (.int i),some (.ref t0),some (.str r),some x2,some x3,some (.int k),some sp,some va,some ah,some be]) rfl ?_;have I6:=I5.same s6;have ma:=(t5.held AN).mono s6;have AC:=(t5.held AD).mono s6;have Bw:=Bx.mono s6;have M6:=M4.trans (m5.trans (.same s6));clear aV AN AD Bx M4 I5 I4;obtain⟨xs,l1,_,l3⟩:=I6.l 2 (by decide);refine⟨_,rfl,B.o,C,B.dx,_,_,rfl,I6.o,T.c,T.n6,rfl,.inl ⟨rfl,_,SqL.of l1⟩,_,rfl,B.l 2,xs,sp,rfl,rfl,l1,k0 (by omega),?_⟩;obtain⟨m7,I7⟩:=I6.app1 (i:=2) (by decide) ma l1;have t7:=I6.tk m7;generalize upd H6 (B.l 2) _=H7 at *;have uV:=t7.held ma;have uO:=t7.held AC;have Bv:=t7.held Bw;have vA:=t7.held gF;obtain⟨ys,l4,_,l6⟩:=I7.l 3 (by decide);refine⟨_,rfl,B.o,C,B.dx,_,_,rfl,I7.o,T.c,T.n7,rfl,.inl ⟨rfl,_,SqL.of l4⟩,.tup [p2 (c.spot x d),(c.stand t).2.ver r,p2 (mor (c.stand t).1 k),yr i],⟨_,rfl,aX rfl,_,_,rfl,⟨_,rfl,uV⟩,_,_,rfl,⟨_,rfl,Bv⟩,_,_,rfl,⟨_,rfl,uO⟩,_,_,rfl,⟨_,rfl,vA⟩,rfl⟩,fun u H8 s8 EN=>⟨B.l 3,ys,u,rfl,rfl,s8 _ _ l4,k0 (by omega),?_⟩⟩;have I8:=I7.same s8;obtain⟨m9,I9⟩:=I8.app1 (i:=3) (by decide) EN (s8 _ _ l4);have t9:=(TK.same s8).trans (I8.tk m9);generalize upd H8 (B.l 3) _=H9 at *;have EZ:=t9.held uV;have EL:=t9.held uO;have Bu:=t9.held vA;have M9:=M6.trans (m7.trans ((Mv.same s8).trans m9));clear uV uO Bv vA ma AC Bw M6 I6 I7 I8;obtain⟨zs,l7,_,l9⟩:=I9.l 1 (by decide);refine⟨_,rfl,B.o,C,B.dx,_,_,rfl,I9.o,T.c,T.n5,rfl,.inl ⟨rfl,_,SqL.of l7⟩,_,rfl,_,rfl,be,sp,_,_,rfl,Bu,EZ,fun e1 i6 cQ he=>⟨_,rfl,e1,va,_,_,rfl,he,EL.mono cQ,fun lk z1 z2 bW br _ pC uG Av=>?_⟩⟩;have bV:=cQ.trans br;have bR:=I9.same bV;refine⟨B.l 1,lk,zs,_,rfl,rfl,bV _ _ l7,pC,JA (by show zs.length+2<=1000;omega),?_⟩;obtain⟨fL,dY⟩:=bR.app (i:=1) (by decide) (je uG (je Av jr)) (bV _ _ l7);have FV:=((TK.same bV).trans (bR.tk fL)).held Bu;generalize upd bW (B.l 1) _=gI at *;obtain⟨kvs,k1,k2,_⟩:=dY.ve;have k3:kvs.length<=900:=by
  have:kvs.length<=n+2+1+1+1+2:=k2;omega
 refine⟨_,rfl,_,rfl,B.o,C,B.dx,_,_,rfl,dY.o,T.c,T.n2,rfl,_,rfl,B.ve,_,rfl,.k (k:=.inr r) k1 (k0 k3),?_⟩;obtain⟨Ep,oj⟩:=dY.setv (r:=r) FV k1;exact q _ (M9.trans ((Mv.same bV).trans (fL.trans Ep))) oj
end
theorem kI{H:Hp}{x:Str}{d:Int}{a:ab}(h:H a=some (.tup [.str x,.int d])):Held H (plD x d) (.ref a):=jL h (je jE (je jO jr))
section
variable {P:az}{w:aw}{K:aq}{mg:Str->Option ae}{base:aj}{C:ab}
theorem jgz{f:ab}{fd:aH}(T:ClsC K C)(F:Fun K "know" "know" jb6 f fd)(my:Fn P w K mg base 4 "least_tie" ["case","least"] (Yb C))(dZ:Fn P w K mg base 2 "spot_of" ["case","place"] (Ya C))(mB:Fn P w K mg base 2 "body_of" ["case","claim"] (Zw C))(dv:Fn P w K mg base 1 "version_of" ["case","r"] (YW C)):FnOk P w K mg base CX0 5 f fd ["case","claim"] (jd6 C):=by
 have sc:FnScope ["case","claim","t","u"] ["case","claim"] (jm jb6):=fQ;refine F.okZ sc (fun vs H Q E h=>?_) (fun au A outer s H vs Q E hr h=>?_)
 .obtain⟨n,A,c,K,v,rfl,_⟩:=h
  rfl
 obtain⟨n,B,c,k,v,rfl,I,hn,hv,q⟩:=h;refine⟨_,(jd (jN (jC kh (jp ju (zpv 1) jc (fun _ _=>rfl)) jq (jH _)) (jd (jA (kg bS dj dh j0 (jW (zpv 0) rfl) (ja (jh my hr (ja (zpv 0) (ja (zpv 1) jb))) jb)))
   (ji zQ)) jJ)
   (jd (jbO (i:=2) (j:=3) rfl sc.nd rfl rfl (by decide) rfl rfl (ja (jh dZ hr (ja (zpv 0) (ja (jp ju (zpv 1) jc (fun _ _=>rfl)) jb))) (ja (jh dZ hr (ja (zpv 0) (ja (jp ju (zpv 1) jc (fun _ _=>rfl)) jb))) jb)) rfl)
   (jd (jA (kg bS dj dh j0 (jW (zpv 0) rfl) (ja (zpv 2) jb)))
   (ji (jN (jC kh (jp ju (zpv 1) jc (fun _ _=>rfl)) jq (jH _)) (ji (jA (kg bS dj dh j0 (jW (zpv 0) rfl) (ja (jR (ja (zpv 2) (ja (zpv 3) (ja (jh mB hr (ja (zpv 0) (ja (zpv 1) jb))) jb)))) jb)))) (ji (jA (kg bS dj dh j0 (jW (zpv 0) rfl) (ja (jR (ja (zpv 2) (ja (zpv 3) (ja (jh dv hr (ja (zpv 0) (ja (jp ju (zpv 1) jc (fun _ _=>rfl)) jb))) jb)))) jb))))))))),?_⟩
 refine jG (σ':=[some (.ref B.o),some v,none,none]) rfl ?_
 try dsimp only[y9]
 refine ji5 ?_;intro _ _ _;rcases k with⟨a,b,k⟩ | ⟨x,d,y,e,r,way,b,k⟩ | ⟨x,d,y,e,r⟩
 .obtain⟨t,va,vb,rfl,ht,_,_⟩:=zn hv
  refine⟨_,rfl,t,_,_,_,rfl,rfl,SqT.of ht,jg (j:=0) rfl,rfl,_,rfl,kO ?_⟩;obtain⟨xs,l1,_,_⟩:=I.l 1 (by decide);refine⟨_,rfl,B.o,C,B.dx,_,_,rfl,I.o,T.c,T.n5,rfl,.inl ⟨rfl,_,SqL.of l1⟩,_,rfl,_,rfl,n,B,c,a,b,k,_,rfl,I,by omega,hv,fun y H1 m1 I1 hy=>?_⟩;obtain⟨ys,l2,_,l3⟩:=I1.l 1 (by decide);obtain⟨m2,I2⟩:=I1.app1 (i:=1) (by decide) hy l2;exact⟨B.l 1,ys,y,rfl,rfl,l2,k0 (by omega),q _ (m1.trans m2) (I2.mono (by omega))⟩
 .obtain⟨t,va,vb,vc,rfl,ht,ha,hb,hc⟩:=yg hv
  refine⟨_,rfl,t,_,_,_,rfl,rfl,SqT.of ht,jg (j:=0) rfl,rfl,_,rfl,ku ?_⟩;refine⟨_,rfl,_,rfl,t,_,_,_,rfl,rfl,SqT.of ht,jg (j:=1) rfl,n,B,c,x,d,_,rfl,I,kI ha,fun sp H1 s1 aV=>?_⟩;refine⟨_,rfl,_,rfl,t,_,_,_,rfl,rfl,SqT.of (s1 _ _ ht),jg (j:=2) rfl,n,B,c,y,e,_,rfl,I.same s1,kI (s1 _ _ hb),fun su H2 s2 dF=>⟨sp,su,rfl,?_⟩⟩;refine jG (σ':=[some (.ref B.o),some (.ref t),some sp,some su]) rfl ?_;have s3:=s1.trans s2;have I2:=I.same s3;have dG:=aV.mono s2;obtain⟨xs,l1,_,l3⟩:=I2.l 2 (by decide);refine⟨_,rfl,B.o,C,B.dx,_,_,rfl,I2.o,T.c,T.n6,rfl,.inl ⟨rfl,_,SqL.of l1⟩,_,rfl,B.l 2,xs,sp,rfl,rfl,l1,k0 (by omega),?_⟩;obtain⟨m4,I4⟩:=I2.app1 (i:=2) (by decide) dG l1;have t4:=I2.tk m4;generalize upd H2 (B.l 2) _=H4 at *;have gz:=t4 _ _ (s3 _ _ ht);refine⟨_,rfl,t,_,_,_,rfl,rfl,SqT.of gz,jg (j:=0) rfl,rfl,_,rfl,kO ?_⟩;obtain⟨ys,l4,_,_⟩:=I4.l 4 (by decide);refine⟨_,rfl,B.o,C,B.dx,_,_,rfl,I4.o,T.c,T.n8,rfl,.inl ⟨rfl,_,SqL.of l4⟩,_,rfl,_,rfl,_,rfl,_,rfl,n+1,B,_,x,y,d,e,r,way,b,k,_,rfl,I4,by omega,t4.held (hv.mono s3),fun bo H5 m5 I5 cU=>⟨sm rfl,fun p hp=>?_⟩⟩;have t5:=I4.tk m5;have s6:=jk hp (.tup [sp,su,bo]);have h6:Held (upd H5 p (.tup [sp,su,bo])) (.tup [p2 (c.spot x d),p2 (c.spot y e),((c.add 2 [p2 (c.spot x d)]).body r way b k).1]) (.ref p):=jL jf (je ((t5.held (t4.held dG)).mono s6) (je ((t5.held (t4.held dF)).mono s6) (je (cU.mono s6) jr)));have I6:=I5.same s6;obtain⟨zs,l5,_,l6⟩:=I6.l 4 (by decide);obtain⟨m7,I7⟩:=I6.app1 (i:=4) (by decide) h6 l5;exact⟨B.l 4,zs,_,rfl,rfl,l5,k0 (by omega),q _ (((Mv.same s3).trans m4).trans (m5.trans ((Mv.same s6).trans m7))) (I7.mono (by omega))⟩
 .obtain⟨t,va,vb,rfl,ht,ha,hb⟩:=JL hv
  refine⟨_,rfl,t,_,_,_,rfl,rfl,SqT.of ht,jg (j:=0) rfl,rfl,_,rfl,ku ?_⟩;refine⟨_,rfl,_,rfl,t,_,_,_,rfl,rfl,SqT.of ht,jg (j:=1) rfl,n,B,c,x,d,_,rfl,I,kI ha,fun sp H1 s1 aV=>?_⟩;refine⟨_,rfl,_,rfl,t,_,_,_,rfl,rfl,SqT.of (s1 _ _ ht),jg (j:=2) rfl,n,B,c,y,e,_,rfl,I.same s1,kI (s1 _ _ hb),fun su H2 s2 dF=>⟨sp,su,rfl,?_⟩⟩;refine jG (σ':=[some (.ref B.o),some (.ref t),some sp,some su]) rfl ?_;have s3:=s1.trans s2;have I2:=I.same s3;have dG:=aV.mono s2;obtain⟨xs,l1,_,l3⟩:=I2.l 2 (by decide);refine⟨_,rfl,B.o,C,B.dx,_,_,rfl,I2.o,T.c,T.n6,rfl,.inl ⟨rfl,_,SqL.of l1⟩,_,rfl,B.l 2,xs,sp,rfl,rfl,l1,k0 (by omega),?_⟩;obtain⟨m4,I4⟩:=I2.app1 (i:=2) (by decide) dG l1;have t4:=I2.tk m4;generalize upd H2 (B.l 2) _=H4 at *;have gz:=t4 _ _ (s3 _ _ ht);refine⟨_,rfl,t,_,_,_,rfl,rfl,SqT.of gz,jg (j:=0) rfl,rfl,_,rfl,ku ?_⟩;obtain⟨ys,l4,_,_⟩:=I4.l 5 (by decide);refine⟨_,rfl,B.o,C,B.dx,_,_,rfl,I4.o,T.c,T.n9,rfl,.inl ⟨rfl,_,SqL.of l4⟩,_,rfl,_,rfl,_,rfl,_,rfl,t,_,_,_,rfl,rfl,SqT.of gz,jg (j:=3) rfl,n+1,B,_,r,rfl,I4,by omega,fun bo H5 m5 I5 cU=>⟨sm rfl,fun p hp=>?_⟩⟩;have t5:=I4.tk m5;have s6:=jk hp (.tup [sp,su,bo]);have h6:Held (upd H5 p (.tup [sp,su,bo])) (.tup [p2 (c.spot x d),p2 (c.spot y e),c.ver r]) (.ref p):=jL jf (je ((t5.held (t4.held dG)).mono s6) (je ((t5.held (t4.held dF)).mono s6) (je (cU.mono s6) jr)));have I6:=I5.same s6;obtain⟨zs,l5,_,l6⟩:=I6.l 5 (by decide);obtain⟨m7,I7⟩:=I6.app1 (i:=5) (by decide) h6 l5;exact⟨B.l 5,zs,_,rfl,rfl,l5,k0 (by omega),q _ (((Mv.same s3).trans m4).trans (m5.trans ((Mv.same s6).trans m7))) (I7.mono (by omega))⟩
end
abbrev jb8:aA:=top 14
abbrev zX:aA:=top 11
def Own(H:Hp)(o1 o2:ab):Prop:=Held H (p2 (jS 0)) (.ref o1)/\Held H (p2 (jS 1)) (.ref o2)
theorem Own.tk{H H':Hp}{o1 o2:ab}(h:Own H o1 o2)(t:TK H H'):Own H' o1 o2:=⟨t.held h.1,t.held h.2⟩
def jd9(C o1 o2:ab):Sp:=fun vs H Q _=>∃(n:Nat) (A:CA) (c:Cs) (K:Cl) (v:V),vs=[.ref A.o,v]/\CsAt C n A c H/\n<=840/\Own H o1 o2/\Held H K.toD v/\∀H',Mv A H H'->CsAt C (n+10) A (c.deny K) H'->Q .non H'
def jd5(C:ab):Sp:=fun vs H Q _=>∃(n:Nat) (A:CA) (c:Cs) (i:Nat) (R:Rw) (v:V),vs=[.ref A.o,.int (i:Nat),v]/\CsAt C n A c H/\n<=840/\Held H R.toD v/\∀H',Mv A H H'->CsAt C (n+8) A (c.take i R) H'->Q .non H'
theorem YS(v:D)(way:Str)(b:P2)(k:Int)(s:P2):∃x y c,qY v way b k s=.tup [x,y,.int c]:=by
 unfold qY;split <;> exact⟨_,_,_,rfl⟩
section
variable {P:az}{w:aw}{K:aq}{mg:Str->Option ae}{base:aj}{C o1 o2:ab}
theorem jgF{f:ab}{fd:aH}(T:ClsC K C)(G1:mg "OWN_PLACE" = some (.ref o1))(G2:mg "OTHER_OWN_PLACE" = some (.ref o2))(F:Fun K "deny" "deny" jb8 f fd)(wn:Fn P w K mg base 1 "turned" ["least"] jao)(my:Fn P w K mg base 4 "least_tie" ["case","least"] (Yb C))(dZ:Fn P w K mg base 2 "spot_of" ["case","place"] (Ya C))(mB:Fn P w K mg base 2 "body_of" ["case","claim"] (Zw C))(mz:Fn P w K mg base 2 "body_tie" ["body","spot"] KF)(bt:Fn P w K mg base 1 "at_most" ["one","other"] zD)(wm:Fn P w K mg base 1 "turned_tie" ["tie"] jbX)(dv:Fn P w K mg base 1 "version_of" ["case","r"] (YW C))(cp:Fn P w K mg base 1 "more_than" ["stood_for","d"] qw)(ce:Fn P w K mg base 1 "entry_of" ["version","spot"] zU):FnOk P w K mg base CX0 5 f fd ["case","goal"] (jd9 C o1 o2):=by
 have sc:FnScope ["case","goal","t","u","first","said","second","version","less"] ["case","goal"] (jm jb8):=fQ;refine F.okZ sc (fun vs H Q E h=>?_) (fun au A outer s H vs Q E hr h=>?_)
 .obtain⟨n,A,c,K,v,rfl,_⟩:=h
  rfl
 obtain⟨n,B,c,k,v,rfl,I,hn,ho,hv,q⟩:=h;refine⟨_,(jd (jN (jC kh (jp ju (zpv 1) jc (fun _ _=>rfl)) jq (jH _)) (jd (jA (kg bS dj dh j0 (jW (zpv 0) rfl) (ja (jh my hr (ja (zpv 0) (ja (jh wn hr (ja (zpv 1) jb)) jb))) jb)))
   (ji zQ)) jJ)
   (jd (jbO (i:=2) (j:=3) rfl sc.nd rfl rfl (by decide) rfl rfl (ja (jh dZ hr (ja (zpv 0) (ja (jp ju (zpv 1) jc (fun _ _=>rfl)) jb))) (ja (jh dZ hr (ja (zpv 0) (ja (jp ju (zpv 1) jc (fun _ _=>rfl)) jb))) jb)) rfl)
   (jd (jw (i:=4) sc.nd rfl oQ (Z8 (v:=.ref o1) (by rfl) G1 rfl))
   (jd (jN (jC kh (jp ju (zpv 1) jc (fun _ _=>rfl)) jq (jH _)) (jd (jw (i:=5) sc.nd rfl oQ (jh mz hr (ja (jh mB hr (ja (zpv 0) (ja (zpv 1) jb))) (ja (zpv 4) jb))))
   (jd (jA (kg bS dj dh j0 (jW (zpv 0) rfl) (ja (zpv 4) jb)))
   (jd (jA (kg bS gT gS kQ (jW (zpv 0) rfl) (ja (jK (ja (jh bt hr (ja (zpv 2) (ja (zpv 4) jb))) (ja (jh bt hr (ja (zpv 4) (ja (zpv 3) jb))) (ja (jh wm hr (ja (zpv 5) jb)) jb)))) jb)))
   (ji zQ)))) jJ)
   (jd (jw (i:=6) sc.nd rfl oQ (Z8 (v:=.ref o2) (by rfl) G2 rfl))
   (jd (jw (i:=7) sc.nd rfl oQ (jh dv hr (ja (zpv 0) (ja (jp ju (zpv 1) jc (fun _ _=>rfl)) jb))))
   (jd (jw (i:=8) sc.nd rfl oQ (jh bt hr (ja (jh cp hr (ja (jh ce hr (ja (zpv 7) (ja (zpv 6) jb))) (ja jc jb))) (ja (jh ce hr (ja (zpv 7) (ja (zpv 4) jb))) jb))))
   (jd (jA (kg bS gT gS kQ (jW (zpv 0) rfl) (ja (jK (ja (zpv 4) (ja (zpv 6) jb))) jb)))
   (ji (jA (kg bS gT gS kQ (jW (zpv 0) rfl) (ja (jK (ja (jh bt hr (ja (zpv 2) (ja (zpv 4) jb))) (ja (jh bt hr (ja (zpv 4) (ja (zpv 6) jb))) (ja (jh bt hr (ja (zpv 6) (ja (zpv 3) jb))) (ja (zpv 8) jb))))) jb)))))))))))),?_⟩
 refine jG (σ':=[some (.ref B.o),some v,none,none,none,none,none,none,none]) rfl ?_
 try dsimp only[y9]
 refine jco ?_;intro r8 r7 r6 r5 r4 r3 r2 r1;rcases k with⟨a,b,k⟩ | ⟨x,d,y,e,r,way,b,k⟩ | ⟨x,d,y,e,r⟩
 .obtain⟨t,va,vb,rfl,ht,_,_⟩:=zn hv
  refine⟨_,rfl,t,_,_,_,rfl,rfl,SqT.of ht,jg (j:=0) rfl,rfl,_,rfl,kO ?_⟩;obtain⟨xs,l1,_,_⟩:=I.l 1 (by decide);refine⟨_,rfl,B.o,C,B.dx,_,_,rfl,I.o,T.c,T.n5,rfl,.inl ⟨rfl,_,SqL.of l1⟩,_,rfl,_,rfl,_,a,b,k,rfl,hv,fun u H1 s1 hu=>⟨n,B,c,b,a,1 - k,u,rfl,I.same s1,by omega,hu,fun y H2 m2 I2 hy=>?_⟩⟩;obtain⟨ys,l2,_,l3⟩:=I2.l 1 (by decide);obtain⟨m3,I3⟩:=I2.app1 (i:=1) (by decide) hy l2;exact⟨B.l 1,ys,y,rfl,rfl,l2,k0 (by omega),q _ ((Mv.same s1).trans (m2.trans m3)) (I3.mono (by omega))⟩
 .obtain⟨t,va,vb,vc,rfl,ht,ha,hb,hc⟩:=yg hv
  refine⟨_,rfl,t,_,_,_,rfl,rfl,SqT.of ht,jg (j:=0) rfl,rfl,_,rfl,ku ?_⟩;refine⟨_,rfl,_,rfl,t,_,_,_,rfl,rfl,SqT.of ht,jg (j:=1) rfl,n,B,c,x,d,_,rfl,I,kI ha,fun sp H1 s1 aV=>?_⟩;refine⟨_,rfl,_,rfl,t,_,_,_,rfl,rfl,SqT.of (s1 _ _ ht),jg (j:=2) rfl,n,B,c,y,e,_,rfl,I.same s1,kI (s1 _ _ hb),fun su H2 s2 dF=>⟨sp,su,rfl,?_⟩⟩;refine gQ ?_;have s3:=s1.trans s2;have I2:=I.same s3;have dG:=aV.mono s2;have dU:=ho.tk (.same s3);show jV (Zr (tC (V.ref o1)) (qm 4)) r3 _ _ _;refine gQ ?_;refine⟨_,rfl,t,_,_,_,rfl,rfl,SqT.of (s3 _ _ ht),jg (j:=0) rfl,rfl,_,rfl,kO ?_⟩;refine⟨_,rfl,_,rfl,n,B,c,x,y,d,e,r,way,b,k,_,rfl,I2,by omega,hv.mono s3,fun bo H4 m4 I4 cU=>⟨_,rfl,c,r,way,b,k,jS 0,bo,.ref o1,rfl,cU,(dU.tk (I2.tk m4)).1,fun sa H5 s5 uX=>?_⟩⟩;refine gQ ?_;have I5:=I4.same s5;have t5:=(I2.tk m4).trans (TK.same s5);have pk:=dU.tk t5;obtain⟨xs,l1,_,l3⟩:=I5.l 2 (by decide);refine⟨_,rfl,B.o,C,B.dx,_,_,rfl,I5.o,T.c,T.n6,rfl,.inl ⟨rfl,_,SqL.of l1⟩,_,rfl,B.l 2,xs,_,rfl,rfl,l1,k0 (by omega),?_⟩;obtain⟨m6,I6⟩:=I5.app1 (i:=2) (by decide) pk.1 l1;have t6:=t5.trans (I5.tk m6);have AO:=(I5.tk m6).held uX;generalize upd H5 (B.l 2) _=H6 at *;have iS:=dU.tk t6;obtain⟨x',y',c',et⟩:=YS (c.ver r) way (c.bnd b (jS 0)) k (jS 0);rw[et]at AO;obtain⟨zs,l4,_,l6⟩:=I6.l 1 (by decide);refine⟨_,rfl,B.o,C,B.dx,_,_,rfl,I6.o,T.c,T.n5,rfl,.inl ⟨rfl,_,SqL.of l4⟩,_,rfl,_,rfl,sp,_,_,_,rfl,t6.held dG,iS.1,fun a1 G1 g1 h1=>⟨_,rfl,_,rfl,_,su,_,_,rfl,(iS.tk (.same g1)).1,(t6.held dF).mono g1,fun a2 G2 g2 h2=>⟨_,rfl,sa,x',y',c',rfl,AO.mono (g1.trans g2),fun a3 G3 g3 h3=>⟨sm rfl,fun l hl=>?_⟩⟩⟩⟩;have g4:=jk hl (.lst [a1,a2,a3]);have g:=(g1.trans g2).trans (g3.trans g4);have I7:=I6.same g;refine⟨B.l 1,l,zs,_,rfl,rfl,g _ _ l4,jf,JA (by show zs.length+3<=1000;omega),?_⟩;obtain⟨m8,I8⟩:=I7.app (i:=1) (by decide) (je (h1.mono (g2.trans (g3.trans g4))) (je (h2.mono (g3.trans g4)) (je (h3.mono g4) jr))) (g _ _ l4);refine q _ (((Mv.same s3).trans (m4.trans (.same s5))).trans (m6.trans ((Mv.same g).trans m8))) ?_;have e9:Ko (qY (c.ver r) way (c.bnd b (jS 0)) k (jS 0))=.tup [y',x',.int (-1 - c')]:=by rw[et];rfl
  show CsAt C (n+10) B (((c.body r way b k).2.add 2 [p2 (jS 0)]).add 1 [kJ (c.spot x d) (jS 0),kJ (jS 0) (c.spot y e),Ko (qY (c.ver r) way (c.bnd b (jS 0)) k (jS 0))]) _;rw[e9];exact I8.mono (by show n+2+1+3<=n+10;omega)
 .obtain⟨t,va,vb,rfl,ht,ha,hb⟩:=JL hv
  refine⟨_,rfl,t,_,_,_,rfl,rfl,SqT.of ht,jg (j:=0) rfl,rfl,_,rfl,ku ?_⟩;refine⟨_,rfl,_,rfl,t,_,_,_,rfl,rfl,SqT.of ht,jg (j:=1) rfl,n,B,c,x,d,_,rfl,I,kI ha,fun sp H1 s1 aV=>?_⟩;refine⟨_,rfl,_,rfl,t,_,_,_,rfl,rfl,SqT.of (s1 _ _ ht),jg (j:=2) rfl,n,B,c,y,e,_,rfl,I.same s1,kI (s1 _ _ hb),fun su H2 s2 dF=>⟨sp,su,rfl,?_⟩⟩;refine gQ ?_;have s3:=s1.trans s2;have I2:=I.same s3;have dG:=aV.mono s2;have dU:=ho.tk (.same s3);show jV (Zr (tC (V.ref o1)) (qm 4)) r3 _ _ _;refine gQ ?_;refine⟨_,rfl,t,_,_,_,rfl,rfl,SqT.of (s3 _ _ ht),jg (j:=0) rfl,rfl,_,rfl,ku ?_⟩;show jV (Zr (tC (V.ref o2)) (qm 6)) r5 _ _ _;refine gQ ?_;refine⟨_,rfl,_,rfl,t,_,_,_,rfl,rfl,SqT.of (s3 _ _ ht),jg (j:=3) rfl,n,B,c,r,rfl,I2,by omega,fun vv H4 m4 I4 o7=>?_⟩;refine gQ ?_;have t4:=I2.tk m4;have AZ:=dU.tk t4;refine⟨_,rfl,_,rfl,vv,_,_,_,rfl,o7,AZ.2,fun e1 G1 g1 h1=>⟨e1,1,_,rfl,h1,fun e2 G2 g2 h2=>⟨_,rfl,_,rfl,vv,_,_,_,rfl,o7.mono (g1.trans g2),(AZ.tk (.same (g1.trans g2))).1,fun e3 G3 g3 h3=>⟨e2,e3,_,_,rfl,h2.mono g3,h3,fun le H5 g5 Fq=>?_⟩⟩⟩⟩;refine gQ ?_;have gA:=((g1.trans g2).trans g3).trans g5;have I5:=I4.same gA;have t5:=t4.trans (TK.same gA);have pk:=dU.tk t5;obtain⟨xs,l1,_,l3⟩:=I5.l 2 (by decide);refine⟨_,rfl,B.o,C,B.dx,_,_,rfl,I5.o,T.c,T.n6,rfl,.inl ⟨rfl,_,SqL.of l1⟩,_,rfl,_,rfl,sm rfl,fun l hl=>?_⟩;have gl:=jk hl (.lst [.ref o1,.ref o2]);have rW:=I5.same gl;refine⟨B.l 2,l,xs,_,rfl,rfl,gl _ _ l1,jf,JA (by show xs.length+2<=1000;omega),?_⟩;obtain⟨m6,I6⟩:=rW.app (i:=2) (by decide) (je (pk.1.mono gl) (je (pk.2.mono gl) jr)) (gl _ _ l1);have xM:=(TK.same gl).trans (rW.tk m6);have t6:=t5.trans xM;have Fp:=xM.held Fq;generalize upd (upd H5 l _) (B.l 2) _=H6 at *;have iS:=dU.tk t6;obtain⟨zs,l4,_,l6⟩:=I6.l 1 (by decide);have l6:zs.length<=n+1+2:=l6;refine⟨_,rfl,B.o,C,B.dx,_,_,rfl,I6.o,T.c,T.n5,rfl,.inl ⟨rfl,_,SqL.of l4⟩,_,rfl,_,rfl,sp,_,_,_,rfl,t6.held dG,iS.1,fun a1 G1 g1 h1=>⟨_,rfl,_,rfl,_,_,_,_,rfl,(iS.tk (.same g1)).1,(iS.tk (.same g1)).2,fun a2 G2 g2 h2=>⟨_,rfl,_,rfl,_,su,_,_,rfl,(iS.tk (.same (g1.trans g2))).2,(t6.held dF).mono (g1.trans g2),fun a3 G3 g3 h3=>⟨_,rfl,sm rfl,fun p hp=>?_⟩⟩⟩⟩;have g4:=jk hp (.lst [a1,a2,a3,le]);have g:=(g1.trans g2).trans (g3.trans g4);have I7:=I6.same g;refine⟨B.l 1,p,zs,_,rfl,rfl,g _ _ l4,jf,JA (by show zs.length+4<=1000;omega),?_⟩;obtain⟨m8,I8⟩:=I7.app (i:=1) (by decide) (je (h1.mono (g2.trans (g3.trans g4))) (je (h2.mono (g3.trans g4)) (je (h3.mono g4) (je (Fp.mono g) jr)))) (g _ _ l4);exact q _ (((Mv.same s3).trans (m4.trans (.same gA))).trans (((Mv.same gl).trans m6).trans ((Mv.same g).trans m8))) (I8.mono (by show n+1+2+4<=n+10;omega))
theorem jgq{f:ab}{fd:aH}(T:ClsC K C)(F:Fun K "take_row" "take_row" zX f fd)(cp:Fn P w K mg base 1 "more_than" ["stood_for","d"] qw)(fV:Fn P w K mg base 3 "stands_for" ["case","term"] (KD C))(wr:Fn P w K mg base 4 "take_put" ["case","n","row"] (jhf C))(wx:Fn P w K mg base 5 "know" ["case","claim"] (jd6 C)):FnOk P w K mg base CX0 6 f fd ["case","n","row"] (jd5 C):=by
 have sc:FnScope ["case","n","row","kind"] ["case","n","row"] (jm zX):=fQ;refine F.okZ sc (fun vs H Q E h=>?_) (fun au A outer s H vs Q E hr h=>?_)
 .obtain⟨n,A,c,i,R,v,rfl,_⟩:=h
  rfl
 have hu:(A.deeper (cr "take_row" (jm zX) s.heap.objs.size f au)).units+1 < cLine:=by have:=hr.units;omega
 obtain⟨n,B,c,i,R,v,rfl,I,hn,hv,q⟩:=h;refine⟨_,(jd (jw (i:=3) sc.nd rfl oQ (jp ju (zpv 2) jc (fun _ _=>rfl)))
   (ji (jN (jC kh (zpv 3) jq (jH _)) (ji (kx hu (jW (zpv 0) rfl) (jp ju (zpv 2) jc (fun _ _=>rfl)) (jh cp hr (ja (jh fV hr (ja (zpv 0) (ja (jp ju (zpv 2) jc (fun _ _=>rfl)) jb))) (ja (jp ju (zpv 2) jc (fun _ _=>rfl)) jb))) rfl)) (ji (jN (jC kh (zpv 3) jq (jH _)) (ji (jA (jh wr hr (ja (zpv 0) (ja (zpv 1) (ja (zpv 2) jb)))))) (ji (jN (jC kh (zpv 3) jq (jH _)) (ji (kx hu (jW (zpv 0) rfl) (jp ju (zpv 2) jc (fun _ _=>rfl)) (zpd (j5 (jt (j5 (jt kR (jt (kn 1) jP))) (jt zc jP)))) rfl)) (ji (jN (jC kh (zpv 3) jq (jH _)) (jd (kx hu (jW (zpv 0) rfl) (jp ju (zpv 2) jc (fun _ _=>rfl)) zP rfl)
   (jd (kx hu (jW (zpv 0) rfl) (jp ju (zpv 2) jc (fun _ _=>rfl)) (zpd (j5 (jt kR (jt (kn 1) jP)))) rfl)
   (ji (jA (kg bS dj dh j0 (jW (zpv 0) rfl) (ja (zpd (j5 (jt kR (jt (kn 1) jP)))) jb)))))) (ji (jA (jh wx hr (ja (zpv 0) (ja (jp ju (zpv 2) jc (fun _ _=>rfl)) jb)))))))))))))),?_⟩
 refine jG (σ':=[some (.ref B.o),some (.int i),some v,none]) rfl ?_;rcases R with⟨x,tm,k⟩ | ⟨r,x,d,tm,k⟩ | ⟨x⟩ | ⟨r⟩ | ⟨K⟩
 .obtain⟨t,y0,y1,y2,y3,rfl,ht,h0,h1,h2,h3⟩:=yf hv
  cases jv h0
  cases jv h1
  cases kc h3
  refine⟨_,rfl,t,_,_,_,rfl,rfl,SqT.of ht,jg (j:=0) rfl,?_⟩;refine jG (σ':=[some (.ref B.o),some (.int i),some (.ref t),some (.str "set")]) rfl ?_;refine⟨_,rfl,rfl,_,rfl,kO ?_⟩;refine⟨_,rfl,_,rfl,t,_,_,_,rfl,rfl,SqT.of ht,jg (j:=2) rfl,n,B,c,tm,y2,rfl,I,by omega,h2,fun y H1 m1 I1 hy=>?_⟩;have l_:=I.tk m1 _ _ ht;refine⟨_,rfl,t,_,_,_,rfl,rfl,SqT.of l_,jg (j:=3) rfl,y,k,_,rfl,hy,fun z H2 s2 hz=>?_⟩;have I2:=I1.same s2;obtain⟨kvs,k1,k2,_⟩:=I2.nu;refine⟨_,rfl,B.o,C,B.dx,_,_,rfl,I2.o,T.c,T.n1,rfl,_,rfl,t,_,_,_,rfl,rfl,SqT.of (s2 _ _ l_),jg (j:=1) rfl,B.nu,_,rfl,.k (k:=.inr x) k1 (k0 (by omega)),?_⟩;obtain⟨m3,I3⟩:=I2.setn (x:=x) hz k1;exact q _ (m1.trans ((Mv.same s2).trans m3)) (I3.mono (by omega))
 .obtain⟨t,y0,y1,y2,y3,y4,rfl,ht,h0,_⟩:=JV hv
  cases jv h0
  refine⟨_,rfl,t,_,_,_,rfl,rfl,SqT.of ht,jg (j:=0) rfl,?_⟩;refine jG (σ':=[some (.ref B.o),some (.int i),some (.ref t),some (.str "put")]) rfl ?_;refine⟨_,rfl,rfl,_,rfl,ku ?_⟩;refine⟨_,rfl,rfl,_,rfl,kO ?_⟩;exact⟨_,rfl,_,rfl,_,rfl,n,B,c,i,r,x,d,tm,k,_,rfl,I,hn,hv,fun H1 m1 I1=>q H1 m1 I1⟩
 .obtain⟨t,y0,y1,rfl,ht,h0,h1⟩:=qv hv
  cases jv h0
  cases jv h1
  refine⟨_,rfl,t,_,_,_,rfl,rfl,SqT.of ht,jg (j:=0) rfl,?_⟩;refine jG (σ':=[some (.ref B.o),some (.int i),some (.ref t),some (.str "any")]) rfl ?_;refine⟨_,rfl,rfl,_,rfl,ku ?_⟩;refine⟨_,rfl,rfl,_,rfl,ku ?_⟩;refine⟨_,rfl,rfl,_,rfl,kO ?_⟩;refine⟨p2 (jcd i),⟨_,rfl,aX rfl,_,_,rfl,⟨_,rfl,aX rfl,_,_,rfl,rfl,_,_,rfl,⟨_,rfl,jO⟩,rfl⟩,_,_,rfl,rfl,rfl⟩,fun z H2 s2 hz=>?_⟩;have I2:=I.same s2;obtain⟨kvs,k1,k2,_⟩:=I2.nu;refine⟨_,rfl,B.o,C,B.dx,_,_,rfl,I2.o,T.c,T.n1,rfl,_,rfl,t,_,_,_,rfl,rfl,SqT.of (s2 _ _ ht),jg (j:=1) rfl,B.nu,_,rfl,.k (k:=.inr x) k1 (k0 (by omega)),?_⟩;obtain⟨m3,I3⟩:=I2.setn (x:=x) hz k1;exact q _ ((Mv.same s2).trans m3) (I3.mono (by omega))
 .obtain⟨t,y0,y1,rfl,ht,h0,h1⟩:=qv hv
  cases jv h0
  cases jv h1
  refine⟨_,rfl,t,_,_,_,rfl,rfl,SqT.of ht,jg (j:=0) rfl,?_⟩;refine jG (σ':=[some (.ref B.o),some (.int i),some (.ref t),some (.str "lose")]) rfl ?_;refine⟨_,rfl,rfl,_,rfl,ku ?_⟩;refine⟨_,rfl,rfl,_,rfl,ku ?_⟩;refine⟨_,rfl,rfl,_,rfl,ku ?_⟩;refine⟨_,rfl,rfl,_,rfl,kO ?_⟩;obtain⟨ks,j1,j2,_⟩:=I.na;refine⟨_,rfl,B.o,C,B.dx,_,_,rfl,I.o,T.c,T.n3,rfl,_,rfl,t,_,_,_,rfl,rfl,SqT.of ht,jg (j:=1) rfl,B.na,_,rfl,.k (k:=.inr r) j1 (k0 (by omega)),?_⟩;obtain⟨m1,I1⟩:=I.named (r:=r) (v:=.bl true) j1;have l_:=I.tk m1 _ _ ht;generalize upd H B.na _=H1 at *;refine⟨Ym i,⟨_,rfl,aX rfl,_,_,rfl,rfl,_,_,rfl,⟨_,rfl,jO⟩,rfl⟩,fun z H2 s2 hz=>?_⟩;have I2:=I1.same s2;obtain⟨kvs,k1,k2,_⟩:=I2.ve;refine⟨_,rfl,B.o,C,B.dx,_,_,rfl,I2.o,T.c,T.n2,rfl,_,rfl,t,_,_,_,rfl,rfl,SqT.of (s2 _ _ l_),jg (j:=1) rfl,B.ve,_,rfl,.k (k:=.inr r) k1 (k0 (by omega)),?_⟩;obtain⟨m3,I3⟩:=I2.setv (r:=r) hz k1;generalize upd H2 B.ve _=H3 at *;obtain⟨xs,l1,_,l3⟩:=I3.l 0 (by decide);refine⟨_,rfl,B.o,C,B.dx,_,_,rfl,I3.o,T.c,T.n4,rfl,.inl ⟨rfl,_,SqL.of l1⟩,Ym i,⟨_,rfl,aX rfl,_,_,rfl,rfl,_,_,rfl,⟨_,rfl,jO⟩,rfl⟩,fun u H4 s4 EO=>⟨B.l 0,xs,u,rfl,rfl,s4 _ _ l1,k0 (by omega),?_⟩⟩;obtain⟨m5,I5⟩:=(I3.same s4).app1 (i:=0) (by decide) EO (s4 _ _ l1);exact q _ ((m1.trans ((Mv.same s2).trans m3)).trans ((Mv.same s4).trans m5)) (I5.mono (by omega))
 .obtain⟨t,y0,y1,rfl,ht,h0,h1⟩:=qv hv
  cases jv h0
  refine⟨_,rfl,t,_,_,_,rfl,rfl,SqT.of ht,jg (j:=0) rfl,?_⟩;refine jG (σ':=[some (.ref B.o),some (.int i),some (.ref t),some (.str "know")]) rfl ?_;refine⟨_,rfl,rfl,_,rfl,ku ?_⟩;refine⟨_,rfl,rfl,_,rfl,ku ?_⟩;refine⟨_,rfl,rfl,_,rfl,ku ?_⟩;refine⟨_,rfl,rfl,_,rfl,ku ?_⟩;exact⟨_,rfl,_,rfl,t,_,_,_,rfl,rfl,SqT.of ht,jg (j:=1) rfl,n,B,c,K,y1,rfl,I,hn,h1,fun H1 m1 I1=>q H1 m1 I1⟩
end
end LW
namespace L2
open PySem PySem.Spec PyProof.Rows PySem.W
section
variable {prog:az}{w:aw}{A:aL}{E:ae->af->Prop}{s:af}
theorem YD{l:ab}{vs:List ae}{ds:List D}{n:Nat}{Q:ae->af->Prop}(hl:s.heap.IsList l vs.toArray)(hI:TrAtL s.heap ds vs)(hS:SortT ds n)(hA:A.units+3+n < cLine)(most:vs.length<=aE)
  (h:∀(out:Array ae) (ms:List D),out.toList.Perm vs->TrAtL s.heap ms out.toList->ms.Perm ds->ms.Pairwise (fun a b=>dLt b a=false)->Q (.ref (s.heap.objs.size+1)) { s with heap:=sortedAll s.heap vs out }) :
  al (ai prog w) A (call (.builtin "sorted") [.ref l]) Q E s:=by
 refine Ln kind_sorted plain_sorted entry_sorted (args_sorted1 _) ?_
 unfold Builtin.«sorted»
 refine ar (m:=checkCount "sorted" 1 1 _) (aN ?_)
 refine ar (collect_list hl ?_)
 refine ar (wL ?_ (by show vs.length<=_;exact most))
 have hsz:((s.heap.push (bL "list" #[] 0)).update s.heap.objs.size (cX (·++vs.toArray))).objs.size=s.heap.objs.size+1:=by
  rw[C5,xl]
 have h_:(((s.heap.push (bL "list" #[] 0)).update s.heap.objs.size (cX (·++vs.toArray))).push (bL "list" vs.toArray 0)).get? (s.heap.objs.size+1)=some (bL "list" vs.toArray 0):=by
  rw[<- hsz];exact eh _ rfl
 have kt:∀b xs,s.heap.IsTuple b xs->(((s.heap.push (bL "list" #[] 0)).update s.heap.objs.size (cX (·++vs.toArray))).push (bL "list" vs.toArray 0)).IsTuple b xs:=fun b xs ⟨o,z1,z2⟩=>⟨o,by
  refine bK _ ?_;rw[w_ _ _ (iD (bp z1))];exact bK _ z1,z2⟩
 show al _ _ _ _ _ { s with heap:=((s.heap.push (bL "list" #[] 0)).update s.heap.objs.size (cX (·++vs.toArray))).push (bL "list" vs.toArray 0) }
 rw[hsz]
 refine ar (ix (Cq slot_list_sort ⟨_,h_,rfl⟩ entry_list_sort (Kq (n:=n) h_ (hI.kept kt) hS (by show A.units+1+1+n < cLine;omega) most fun out ms a0 a1 a2 a3=>⟨_,rfl,?_⟩) (args_list_sort _)))
 have hk:TrAtL s.heap ms out.toList:=by
  obtain⟨An,b1,b2⟩:=KZ a0 hI;have:=trL_inj (b1.kept kt) a1;rw[<- this];exact b1
 exact aN ⟨_,rfl,h out ms a0 hk a2 a3⟩
end
theorem qy:11000000<=aE:=by rw[fX];decide
theorem j8{n:Nat}(h:n<=11000000):n < aE:=oB h (by rw[fX];decide)
theorem J1{X:Cx}{n:Nat}(hu:X.A.units+3+n < cLine):zC X (.builtin "sorted") (fun xs H Q=>∃(p:ab) (ps:List (D×ab)),xs=[.ref p]/\H p=some (.lst ((ps.map (·.2)).map V.ref))/\(∀q∈ps,Held H q.1 (.ref q.2))/\SortT (ps.map (·.1)) n/\ps.length<=11000000/\
  ∀(l:ab) (qs:List (D×ab)),H l=none->qs.Perm ps->(qs.map (·.1)).Pairwise (fun a b=>dLt b a=false)->Q (.ref l) (upd H l (.lst ((qs.map (·.2)).map V.ref)))):=by
 intro ad s σ H xs us Q I r h
 obtain⟨p,ps,rfl,hp,hk,hS,most,q⟩:=h
 obtain⟨u,rfl,rx⟩:=Ja r
 cases rx
 obtain⟨its,rv,pl,hz⟩:=I.list (SqL.of (K:=X.K) hp)
 obtain rfl:=J6 rv
 have hT:∀q∈ps,TrAt s.heap q.1 (.ref q.2):=fun q hq=>KM I (u:=.ref q.2) (hk q hq) rfl
 have hI:TrAtL s.heap (ps.map (·.1)) ((ps.map (·.2)).map Value.ref):=by
  rw[lK];exact K0 hT
 refine YD pl.isList hI hS hu (by rw[aB,aB];exact aG most qy) fun out ms a0 a1 a2 a3=>?_
 rw[lK]at a0
 obtain⟨qs,q1,q2⟩:=Y1 (f:=fun p:D×ab=>Value.ref p.2) a0.symm rfl
 have em:ms=qs.map (·.1):=trL_inj a1 (by
  have:=K0 (qs:=qs) fun q hq=>hT q (q1.mem_iff.mp hq)
  rw[q2]at this;exact this)
 rw[em]at a3
 obtain⟨e,he⟩:=sortedAll_at s.heap ((ps.map (·.2)).map Value.ref) out
 refine⟨.ref (s.heap.objs.size+1),_,I.laid (t':=s.toks) (fun b o=>sortedAll_old) (cO _) (show ObjOk X.prog X.w _ _ _ (.lst ((qs.map (·.2)).map V.ref)) from⟨?_,out.toList,e,?_,?_⟩),rfl,q _ qs (I.hok.fresh (cO _)) q1 a3⟩
 .rw[aB,aB,q1.length_eq]
  exact aG most qy
 .rw[<- q2,show qs.map (fun p:D×ab=>Value.ref p.2)=(qs.map (·.2)).map Value.ref by rw[lK];rfl]
  exact Kf _
 .rw[ML]
  exact he
end L2
namespace LW
open PySem L2
abbrev ql:aA:=jgP (top 7) 0
abbrev qC:aA:=top 9
abbrev yU:aA:=top 10
structure Ini(H:Hp)(b C dx:ab)(fs:List (Str×V))(os:List (Prod ab HO))(G:Hp):Prop where
 hb:G b=some (.ins C dx fs)
 k:∀a o,a≠b->H a=some o->G a=some o
 o:∀p∈os,G p.1=some p.2/\H p.1=none
 ne:∀p∈os,p.1≠b
 nd:(os.map (·.1)).Nodup
 f:∀a,G a=none->H a=none
theorem Ini.step{H:Hp}{b C dx:ab}{fs:List (Str×V)}{os:List (Prod ab HO)}{G:Hp}(I:Ini H b C dx fs os G){p:ab}(hp:G p=none)(o:HO)(pN:List (Str×V)):Ini H b C dx pN (os++[(p,o)]) (upd (upd G p o) b (.ins C dx pN)):=by
 have pb:p≠b:=(jo I.hb hp).symm;refine⟨jf,fun a u gG ha=>?_,fun q hq=>?_,fun q hq=>?_,?_,fun a ha=>?_⟩
 .rw[jD gG,jD (jo (I.k a u gG ha) hp)]
  exact I.k a u gG ha
 .rcases bx.mp hq with hq | hq
  .obtain⟨h1,h2⟩:=I.o q hq
   exact⟨by rw[jD (I.ne q hq),jD (jo h1 hp)];exact h1,h2⟩
  .cases aM.mp hq
   exact⟨by rw[jD pb,jf],I.f _ hp⟩
 .rcases bx.mp hq with hq | hq
  .exact I.ne q hq
  .cases aM.mp hq
   exact pb
 .rw[bq,DJ]
  refine⟨I.nd,by simp,fun x hx y hy=>?_⟩
  cases aM.mp hy
  obtain⟨q,q1,rfl⟩:=cc.mp hx;exact jo (I.o q q1).1 hp
 .by_cases z:a=b
  .rw[z,jf]at ha;cases ha
  .rw[jD z]at ha
   by_cases y:a=p
   .rw[y];exact I.f _ hp
   .rw[jD y]at ha;exact I.f _ ha
theorem jgS{l:List ab}{i:Nat}{d:ab}(h:i < l.length):l.getD i d∈l:=by
 rw[iF,aK h];exact dP h
theorem jgJ{l:List ab}{i j:Nat}{d:ab}(n:l.Nodup)(hi:i < l.length)(hj:j < l.length)(e:l.getD i d=l.getD j d):i=j:=by
 rw[iF,aK hi,iF,aK hj]at e;exact (Mi n).mp e
def jjx(A:CA)(H:Hp):Prop:=H A.nu=none/\H A.ve=none/\H A.na=none/\∀i,i < 6->H (A.l i)=none
def jeb(C:ab):Sp:=fun vs H Q _=>∃(b dx:ab),vs=[.ref b]/\H b=some (.ins C dx [])/\∀A H',A.o=b->(∀a o,a≠b->H a=some o->H' a=some o)->jjx A H->CsAt C 0 A Cs.none H'->Q .non H'
section
variable {P:az}{w:aw}{K:aq}{mg:Str->Option ae}{base:aj}{C:ab}
theorem jgH{f:ab}{fd:aH}(T:ClsC K C)(F:Fun K "__init__" "Case.__init__" ql f fd):FnOk P w K mg base CX0 1 f fd ["self"] (jeb C):=by
 have sc:FnScope ["self"] ["self"] (jm ql):=fQ;refine F.okZ sc (fun vs H Q E h=>?_) (fun au A outer s H vs Q E hr h=>?_)
 .obtain⟨b,dx,rfl,_⟩:=h
  rfl
 obtain⟨b,dx,rfl,hb,q⟩:=h;refine⟨_,(jd (qM (zpv 0) qf rfl)
   (jd (qM (zpv 0) qf rfl)
   (jd (qM (zpv 0) qf rfl)
   (jd (qM (zpv 0) (jK jb) rfl)
   (jd (qM (zpv 0) (jK jb) rfl)
   (jd (qM (zpv 0) (jK jb) rfl)
   (jd (qM (zpv 0) (jK jb) rfl)
   (jd (qM (zpv 0) (jK jb) rfl)
   (ji (qM (zpv 0) (jK jb) rfl)))))))))),?_⟩
 refine jG (σ':=[some (.ref b)]) rfl ?_
 try dsimp only[y9]
 refine jco ?_;intro _ _ _ _ _ _ _ _;have I0:Ini H b C dx [] [] H:=⟨hb,fun _ _ _ e=>e,fun _ h=>(nomatch h),fun _ h=>(nomatch h),sM,fun _ e=>e⟩
 refine fun p1 h1=>⟨_,rfl,b,C,dx,_,rfl,jj (jo I0.hb h1) I0.hb,T.c,T.n1,by show 0 < 1000;decide,?_⟩
 have I1:=I0.step h1 (.dK []) [("numbers",.ref p1)];refine (?_:jV _ _ _ _ (upd (upd H p1 (.dK [])) b (.ins C dx [("numbers",.ref p1)])));generalize upd (upd H p1 (.dK [])) b (.ins C dx [("numbers",.ref p1)])=G1 at *;refine fun p2 h2=>⟨_,rfl,b,C,dx,_,rfl,jj (jo I1.hb h2) I1.hb,T.c,T.n2,by show 1 < 1000;decide,?_⟩
 have I2:=I1.step h2 (.dK []) [("numbers",.ref p1),("versions",.ref p2)];refine (?_:jV _ _ _ _ (upd (upd G1 p2 (.dK [])) b (.ins C dx [("numbers",.ref p1),("versions",.ref p2)])));generalize upd (upd G1 p2 (.dK [])) b (.ins C dx [("numbers",.ref p1),("versions",.ref p2)])=G2 at *;refine fun p3 h3=>⟨_,rfl,b,C,dx,_,rfl,jj (jo I2.hb h3) I2.hb,T.c,T.n3,by show 2 < 1000;decide,?_⟩
 have I3:=I2.step h3 (.dK []) [("numbers",.ref p1),("versions",.ref p2),("named",.ref p3)];refine (?_:jV _ _ _ _ (upd (upd G2 p3 (.dK [])) b (.ins C dx [("numbers",.ref p1),("versions",.ref p2),("named",.ref p3)])));generalize upd (upd G2 p3 (.dK [])) b (.ins C dx [("numbers",.ref p1),("versions",.ref p2),("named",.ref p3)])=G3 at *;refine⟨sm rfl,fun p4 h4=>⟨_,rfl,b,C,dx,_,rfl,jj (jo I3.hb h4) I3.hb,T.c,T.n4,by show 3 < 1000;decide,?_⟩⟩;have I4:=I3.step h4 (.lst []) [("numbers",.ref p1),("versions",.ref p2),("named",.ref p3),("lost",.ref p4)];refine (?_:jV _ _ _ _ (upd (upd G3 p4 (.lst [])) b (.ins C dx [("numbers",.ref p1),("versions",.ref p2),("named",.ref p3),("lost",.ref p4)])));generalize upd (upd G3 p4 (.lst [])) b (.ins C dx [("numbers",.ref p1),("versions",.ref p2),("named",.ref p3),("lost",.ref p4)])=G4 at *;refine⟨sm rfl,fun p5 h5=>⟨_,rfl,b,C,dx,_,rfl,jj (jo I4.hb h5) I4.hb,T.c,T.n5,by show 4 < 1000;decide,?_⟩⟩;have I5:=I4.step h5 (.lst []) [("numbers",.ref p1),("versions",.ref p2),("named",.ref p3),("lost",.ref p4),("ties",.ref p5)];refine (?_:jV _ _ _ _ (upd (upd G4 p5 (.lst [])) b (.ins C dx [("numbers",.ref p1),("versions",.ref p2),("named",.ref p3),("lost",.ref p4),("ties",.ref p5)])));generalize upd (upd G4 p5 (.lst [])) b (.ins C dx [("numbers",.ref p1),("versions",.ref p2),("named",.ref p3),("lost",.ref p4),("ties",.ref p5)])=G5 at *;refine⟨sm rfl,fun p6 h6=>⟨_,rfl,b,C,dx,_,rfl,jj (jo I5.hb h6) I5.hb,T.c,T.n6,by show 5 < 1000;decide,?_⟩⟩;have I6:=I5.step h6 (.lst []) [("numbers",.ref p1),("versions",.ref p2),("named",.ref p3),("lost",.ref p4),("ties",.ref p5),("spots",.ref p6)];refine (?_:jV _ _ _ _ (upd (upd G5 p6 (.lst [])) b (.ins C dx [("numbers",.ref p1),("versions",.ref p2),("named",.ref p3),("lost",.ref p4),("ties",.ref p5),("spots",.ref p6)])));generalize upd (upd G5 p6 (.lst [])) b (.ins C dx [("numbers",.ref p1),("versions",.ref p2),("named",.ref p3),("lost",.ref p4),("ties",.ref p5),("spots",.ref p6)])=G6 at *;refine⟨sm rfl,fun p7 h7=>⟨_,rfl,b,C,dx,_,rfl,jj (jo I6.hb h7) I6.hb,T.c,T.n7,by show 6 < 1000;decide,?_⟩⟩;have I7:=I6.step h7 (.lst []) [("numbers",.ref p1),("versions",.ref p2),("named",.ref p3),("lost",.ref p4),("ties",.ref p5),("spots",.ref p6),("puts",.ref p7)];refine (?_:jV _ _ _ _ (upd (upd G6 p7 (.lst [])) b (.ins C dx [("numbers",.ref p1),("versions",.ref p2),("named",.ref p3),("lost",.ref p4),("ties",.ref p5),("spots",.ref p6),("puts",.ref p7)])));generalize upd (upd G6 p7 (.lst [])) b (.ins C dx [("numbers",.ref p1),("versions",.ref p2),("named",.ref p3),("lost",.ref p4),("ties",.ref p5),("spots",.ref p6),("puts",.ref p7)])=G7 at *;refine⟨sm rfl,fun p8 h8=>⟨_,rfl,b,C,dx,_,rfl,jj (jo I7.hb h8) I7.hb,T.c,T.n8,by show 7 < 1000;decide,?_⟩⟩;have I8:=I7.step h8 (.lst []) [("numbers",.ref p1),("versions",.ref p2),("named",.ref p3),("lost",.ref p4),("ties",.ref p5),("spots",.ref p6),("puts",.ref p7),("eaches",.ref p8)];rw[show yq "eaches" (V.ref p8) [("numbers",V.ref p1),("versions",V.ref p2),("named",V.ref p3),("lost",V.ref p4),("ties",V.ref p5),("spots",V.ref p6),("puts",V.ref p7)]=([("numbers",V.ref p1),("versions",V.ref p2),("named",V.ref p3),("lost",V.ref p4),("ties",V.ref p5),("spots",V.ref p6),("puts",V.ref p7),("eaches",V.ref p8)]:List (Str×V)) from rfl];generalize upd (upd G7 p8 (.lst [])) b (.ins C dx [("numbers",.ref p1),("versions",.ref p2),("named",.ref p3),("lost",.ref p4),("ties",.ref p5),("spots",.ref p6),("puts",.ref p7),("eaches",.ref p8)])=G8 at *;refine⟨sm rfl,fun p9 h9=>⟨_,rfl,b,C,dx,_,rfl,jj (jo I8.hb h9) I8.hb,T.c,T.n9,by show 8 < 1000;decide,?_⟩⟩;have I9:=I8.step h9 (.lst []) [("numbers",.ref p1),("versions",.ref p2),("named",.ref p3),("lost",.ref p4),("ties",.ref p5),("spots",.ref p6),("puts",.ref p7),("eaches",.ref p8),("rises",.ref p9)];rw[show yq "rises" (V.ref p9) [("numbers",V.ref p1),("versions",V.ref p2),("named",V.ref p3),("lost",V.ref p4),("ties",V.ref p5),("spots",V.ref p6),("puts",V.ref p7),("eaches",V.ref p8)]=([("numbers",V.ref p1),("versions",V.ref p2),("named",V.ref p3),("lost",V.ref p4),("ties",V.ref p5),("spots",V.ref p6),("puts",V.ref p7),("eaches",V.ref p8),("rises",V.ref p9)]:List (Str×V)) from rfl];generalize upd (upd G8 p9 (.lst [])) b (.ins C dx _)=G9 at *;have hd:∀p∈[p1,p2,p3],G9 p=some (.dK [])/\H p=none:=fun p hp=>I9.o (p,.dK []) (by simp at hp |-;exact hp)
 have hl:∀p∈[p4,p5,p6,p7,p8,p9],G9 p=some (.lst [])/\H p=none:=fun p hp=>I9.o (p,.lst []) (by simp at hp |-;exact hp)
 have nd:=I9.nd;simp only[bq,bg,gg,oE,cu]at nd;have n6:[p4,p5,p6,p7,p8,p9].Nodup:=((eS.mp (eS.mp (eS.mp nd).2).2).2)
 have g:∀i,i < 6->[p4,p5,p6,p7,p8,p9].getD i p9∈[p4,p5,p6,p7,p8,p9]:=fun i hi=>jgS hi
 have z:∀f:Str->Option D,(∀x,f x=none)->∀p∈[p1,p2,p3],DAt 0 f G9 p:=fun f hf p hp=>⟨[],(hd p hp).1,aD _,fun x=>⟨fun _=>rfl,fun d e=>by rw[hf x]at e;cases e⟩⟩
 have m1:p1∈[p1,p2,p3]:=by simp
 have m2:p2∈[p1,p2,p3]:=by simp
 have m3:p3∈[p1,p2,p3]:=by simp
 refine q ⟨b,dx,p1,p2,p3,fun i=>[p4,p5,p6,p7,p8,p9].getD i p9⟩ G9 rfl I9.k ⟨(hd _ m1).2,(hd _ m2).2,(hd _ m3).2,fun i hi=>(hl _ (g i hi)).2⟩ ⟨I9.hb,?_,?_,?_,fun i j hi hj e=>jgJ n6 hi hj e,z _ (fun _=>rfl) _ m1,z _ (fun _=>rfl) _ m2,⟨[],(hd _ m3).1,aD _,rfl⟩,fun i hi=>⟨[],(hl _ (g i hi)).1,jr,aD _⟩⟩
 .exact fun e=>(eS.mp nd).1 (by rw[show p1=p2 from e];simp)
 .exact fun e=>(eS.mp nd).1 (by rw[show p1=p3 from e];simp)
 .exact fun e=>(eS.mp (eS.mp nd).2).1 (by rw[show p2=p3 from e];simp)
end
end LW
namespace L2
open PySem PySem.Spec PyProof.Rows PySem.W PySem.Builtin PySem.Builtin.Str
section
variable {X:Cx}
def jix(K:aq)(ta:TE):TT:=fun σ H Q=>ta σ H fun x H'=>∃k,jg0 K x H' k/\Q k H'
theorem jdz{a:ag}{ta:TE}(ha:QE X a ta)(he:∀eC,isTrue a X.env eC=(do let v <- eC;fW a.pos;holding [v] (truthy v)):=by intro _;rfl):QT X a (jix X.K ta):=⟨jen ha.h he⟩
theorem jiv{K:aq}{H:Hp}{a:ab}{xs:List V}(h:H a=some (.lst xs)):jg0 K (.ref a) H (!xs.isEmpty):=.inl ⟨xs,SqL.of h,rfl⟩
theorem jfC{k k':Nat}{x:Str}{C:ab}{ps:List Str}{sp:Sp}{p pos:Pos}(F:MkFn X.prog X.w X.K X.mg X.base k x C ps sp)(hr:Room k' X.A)(hk:k+1<=k':=by decide)(hg:Gl X x:=by rfl)(hd:(x == ("__debug__" : Str))=false:=by decide):QE X (.Call (.Name x p) [] [] pos) (jhb C sp [] E0 jdV):=by
 obtain⟨f,fd,M,G,b,m⟩:=F.ex;exact⟨jez M G (hr.mono hk) hg m b .nil jhj hd⟩
end
end L2
namespace LW
open PySem L2
abbrev DA:Type:=Prod D ab
def zJ(T:List DA)(p:DA):List DA:=match T.getLast? with
 | none=>[p]
 | some l=>if l.1=p.1 then T else T++[p]
def kU(ps:List DA):List DA:=ps.foldl zJ []
def jbd:Sp:=fun vs H Q _=>∃(a:ab) (ps:List DA),vs=[.ref a]/\H a=some (.lst ((ps.map (·.2)).map V.ref))/\(∀q∈ps,Held H q.1 (.ref q.2))/\SortT (ps.map (·.1)) 200/\ps.length<=11000000/\
 ∀l qs H',Same H H'->H l=none->qs.Perm ps->(qs.map (·.1)).Pairwise (fun a b=>dLt b a=false)->H' l=some (.lst (((kU qs).map (·.2)).map V.ref))->Q (.ref l) H'
theorem jeK{T:List DA}{p:DA}:∀q∈zJ T p,q∈T\/q=p:=by
 unfold zJ;intro q hq;split at hq
 .exact .inr (aM.mp hq)
 .split at hq
  .exact .inl hq
  .rcases bx.mp hq with h | h
   .exact .inl h
   .exact .inr (aM.mp h)
theorem Yk(ps:List DA)(p:DA):kU (ps++[p])=zJ (kU ps) p:=by
 unfold kU;rw[List.foldl_append];rfl
theorem yc(ps:List DA):∀q∈kU ps,q∈ps:=by
 have:∀(ps T:List DA),∀q∈ps.foldl zJ T,q∈T\/q∈ps:=by
  intro ps;induction ps with
  | nil=>intro T q hq;exact .inl hq
  | cons p ps ih=>
   intro T q hq;rcases ih _ q hq with h | h
   .rcases jeK q h with h | h
    .exact .inl h
    .exact .inr (by rw[h];exact bC ..)
   .exact .inr (bG _ h)
 intro q hq;rcases this ps [] q hq with h | h
 .cases h
 .exact h
theorem Y3(ps:List DA):(kU ps).length<=ps.length:=by
 have:∀(ps T:List DA),(ps.foldl zJ T).length<=T.length+ps.length:=by
  intro ps;induction ps with
  | nil=>intro T;exact aD _
  | cons p ps ih=>
   intro T;refine aG (ih _) ?_;have:(zJ T p).length<=T.length+1:=by
    unfold zJ;split
    .simp
    .split
     .omega
     .simp
   simp only[bM];omega
 have:=this ps [];simp only[fe,Dy]at this;exact this
section
variable {P:az}{w:aw}{K:aq}{mg:Str->Option ae}{base:aj}
theorem jgw{f:ab}{fd:aH}(F:Fun K "each_once" "each_once" qC f fd)(B:Free0 mg):FnOk P w K mg base CX0 14 f fd ["things"] jbd:=by
 have sc:FnScope ["things","told","thing"] ["things"] (jm qC):=fQ;refine F.okZ sc (fun vs H Q E h=>?_) (fun au A outer s H vs Q E hr h=>?_)
 .obtain⟨a,ps,rfl,_⟩:=h
  rfl
 have nB:(A.deeper (cr "each_once" (jm qC) s.heap.objs.size f au)).units+3+200 < cLine:=by have:=hr.un;omega
 have fk:(A.deeper (cr "each_once" (jm qC) s.heap.objs.size f au)).units+1+200 < cLine:=by omega
 obtain⟨a,ps,rfl,ha,hk,hS,hl,q⟩:=h;refine⟨_,(jd (jw (i:=1) sc.nd rfl oQ (jK jb))
   (jd (kL ee rfl (ko (qZ (J1 (n:=200) nB) (by rfl) B.sorted_ Zg (ja (zpv 0) jb))) (jx (i:=2) sc.nd rfl oQ) (ji (jN (KP (Zl (jdz (zpv 1))) (KB (jC (KJ 200 fk) (jp jZ (zpv 1) (jaY ja5 jc) (fun _ _=>rfl)) (zpv 2) (jH _)))).pt (ji (jA (kg bS dj dh j0 (zpv 1) (ja (zpv 2) jb)))) jJ)))
   (ji (jB (zpv 1))))),?_⟩
 refine jG (σ':=[some (.ref a),none,none]) rfl ?_;refine⟨sm rfl,fun l0 h0=>?_⟩;refine gQ ?_;have s1:=jk h0 (.lst []);have e1:upd H l0 (.lst []) l0=some (.lst []):=jf;generalize upd H l0 (.lst [])=H1 at *;refine⟨_,rfl,a,ps,rfl,s1 _ _ ha,fun q hq=>(hk q hq).mono s1,hS,hl,fun ls qs Ba hp hs=>?_⟩;have s2:=jk Ba (.lst ((qs.map (·.2)).map V.ref));have e2:upd H1 ls (.lst ((qs.map (·.2)).map V.ref)) ls=some (.lst ((qs.map (·.2)).map V.ref)):=jf;generalize upd H1 ls (.lst ((qs.map (·.2)).map V.ref))=H2 at *;have n1:l0≠ls:=jo e1 Ba;have vo:∀q∈qs,Held H2 q.1 (.ref q.2):=fun q hq=>((hk q (hp.mem_iff.mp hq)).mono s1).mono s2
 have hq:qs.length<=11000000:=by rw[hp.length_eq];exact hl
 let Pv:Nat->St->Hp->Prop:=fun i σ G=>∃u,σ=[some (.ref a),some (.ref l0),u]/\(∀b o,b≠l0->H2 b=some o->G b=some o)/\G l0=some (.lst (((kU (qs.take i)).map (·.2)).map V.ref))
 refine⟨ls,rfl,⟨_,SqL.of e2⟩,?_⟩;refine qa (xs:=(qs.map (·.2)).map V.ref) Pv ⟨none,rfl,fun _ _ _ e=>e,s2 _ _ e1⟩ ?_ ?_ ?_
 .rintro i σ G _ ⟨u,rfl,k,_⟩
  exact SqL.of (k _ _ n1.symm e2)
 .rintro i x σ G hx ⟨u,rfl,k,hT⟩
  have hi:i < qs.length:=by have:=(bI.mp hx).1;simpa using this
  have ex:x=.ref qs[i].2:=by
   rw[bH,bH,aK hi]at hx;exact (cN hx).symm
  subst ex;refine gQ ?_;have D7:∀q∈qs,Held G q.1 (.ref q.2):=fun q hq=>(show TK H2 G from fun b xs e=>k b _ (jy e (s2 _ _ e1) (by intro z;cases z)) e).held (vo q hq)
  have hm:qs[i]∈qs:=dP hi;have et:qs.take (i+1)=qs.take i++[qs[i]]:=by rw[dO,aK hi];rfl
  have AK:=yc (qs.take i);have bf:=Y3 (qs.take i);have fP:kU (qs.take (i+1))=zJ (kU (qs.take i)) qs[i]:=by rw[et,Yk]
  generalize qs[i]=p at *;generalize hTT:kU (qs.take i)=T at *;have BB:T.length<=11000000:=aG bf (by rw[bZ];omega);have app:zJ T p=T++[p]->(jdW (tBM K "list" jca (jcS 1) (jbU (jcS 2) jdV))) { nx:=Pv (i+1),rt:=Q,ct:=Pv (i+1),bk:=jhy (jcS 1) { nx:=fun x H'=>Q V.non H',rt:=Q } } [some (.ref a),some (.ref l0),some (.ref p.2)] G:=fun e=>by
   refine⟨_,rfl,.inl ⟨rfl,_,SqL.of hT⟩,_,rfl,l0,_,_,rfl,rfl,hT,j8 (by rw[aB,aB];exact BB),⟨_,rfl,fun b o hb eb=>jj hb (k b o hb eb),?_⟩⟩;rw[jf,fP,e,bq,bq];rfl
  rcases DQ T with rfl | ⟨T',l,rfl⟩
  .exact⟨_,rfl,_,jiv hT,kO (kO (app rfl))⟩
  .rw[DT]at hT AK fP app BB bf
   have hg:(T'++[l]).getLast?=some l:=by simp
   have BC:G l0=some (.lst ((T'.map (·.2)).map V.ref++[.ref l.2])):=by rw[hT,bq,bq];rfl
   have mf:l∈qs:=xx (AK l (by simp));have tr:∀q∈qs,∃ds xs,q.1=.tup ds/\G q.2=some (.tup xs)/\HeldL G ds xs/\D.depthL ds<=200:=fun q hq=>by
    have A6:q.1∈ps.map (·.1):=cc.mpr ⟨q,hp.mem_iff.mp hq,rfl⟩;obtain⟨ds,e⟩:=hS.tup _ A6;have hd:=hS.dep _ A6;have hh:=D7 q hq;rw[e]at hd hh;obtain⟨b,xs,eb,h1,h2⟩:=jF hh
    cases eb
    exact⟨ds,xs,e,h1,h2,aG (cO _) hd⟩
   obtain⟨d1,x1,f1,g1,k1,j1⟩:=tr l mf;obtain⟨d2,x2,f2,g2,k2,_⟩:=tr p hm;have zt:=jiv (K:=K) BC;rw[show (!((T'.map (·.2)).map V.ref++[V.ref l.2]).isEmpty)=true by simp]at zt;refine⟨_,rfl,true,zt,ku ?_⟩;refine⟨_,rfl,1,rfl,l0,_,-1,.ref l.2,rfl,rfl,SqL.of BC,jfu _ _,_,rfl,l.2,p.2,x1,x2,d1,d2,rfl,rfl,g1,g2,j1,k1,k2,_,rfl,?_⟩;have ec:zJ (T'++[l]) p=if d1=d2 then T'++[l] else (T'++[l])++[p]:=by
    unfold zJ;rw[hg];show (if l.1=p.1 then _ else _)=_;by_cases z:d1=d2
    .rw[MU z,MU (by rw[f1,f2,z])]
    .rw[MT z,MT (by rw[f1,f2];exact fun e=>z (by cases e;rfl))]
   by_cases z:d1=d2
   .rw[MR z]
    exact ku ⟨_,rfl,k,by rw[fP,ec,MU z];exact hT⟩
   .rw[MS z]
    exact kO (app (by rw[ec,MT z]))
 .rintro σ G ⟨u,rfl,k,hT⟩
  refine⟨_,rfl,?_⟩;rw[aB,aB,cx]at hT;exact q l0 qs G (fun b o e=>k b o (jo e h0) (s2 _ _ (s1 _ _ e))) h0 hp hs hT
end
theorem YZ(R:List Rw)(r:Rw):∀(c:Cs) (n:Nat),c.rows (R++[r]) n=(c.rows R n).take (n+R.length) r:=by
 induction R with
 | nil=>intro c n;rfl
 | cons q R ih=>
  intro c n;show (c.take n q).rows (R++[r]) (n+1)=((c.take n q).rows R (n+1)).take (n+(R.length+1)) r;rw[ih,show n+1+R.length=n+(R.length+1) by omega]
def qq(R:List Rw)(k:Cl):Cs:=(Cs.none.rows R 0).deny k
theorem qV{H:Hp}:∀{ds:List D} {xs:List V},HeldL H ds xs->(∀d∈ds,∃es,d=.tup es)->∃ps:List DA,ps.map (·.1)=ds/\xs=(ps.map (·.2)).map V.ref/\∀q∈ps,Held H q.1 (.ref q.2)
 | [],_,h,_=>⟨[],rfl,jM h,fun _ z=>nomatch z⟩
 | d :: ds,_,h,ht=>by
  obtain⟨v,r,rfl,h1,h2⟩:=jl h;obtain⟨ps,e1,e2,e3⟩:=qV h2 fun d hd=>ht d (bG _ hd)
  obtain⟨es,rfl⟩:=ht d (bC ..);obtain⟨a,xs,rfl,_,_⟩:=jF h1;refine⟨(.tup es,a) :: ps,by rw[bg,e1],by rw[bg,bg,e2],fun q hq=>?_⟩;rcases a_.mp hq with rfl | hq
  .exact h1
  .exact e3 q hq
theorem kz{H:Hp}:∀{ds:List D} {xs:List V} {i:Nat} {d:D} {x:V},HeldL H ds xs->ds[i]?=some d->xs[i]?=some x->Held H d x
 | [],_,i,_,_,_,e,_=>by simp at e
 | d :: ds,_,i,_,_,h,e,f=>by
  obtain⟨v,r,rfl,h1,h2⟩:=jl h
  cases i with
  | zero=>cases e;cases f;exact h1
  | succ i=>exact kz h2 e f
theorem qU{H:Hp}:∀{ps:List DA},(∀q∈ps,Held H q.1 (.ref q.2))->HeldL H (ps.map (·.1)) ((ps.map (·.2)).map V.ref)
 | [],_=>jr
 | p :: ps,h=>je (h p (bC ..)) (qU fun q hq=>h q (bG _ hq))
def Cs.once(c:Cs)(es:List D):Cs:={ c with l:=fun i=>if i=2 then es else c.l i }
def jd7(C o1 o2:ab):Sp:=fun vs H Q _=>∃(a:ab) (R:List Rw) (rs:List V) (k:Cl) (v:V),vs=[.ref a,v]/\H a=some (.lst rs)/\HeldL H (R.map Rw.toD) rs/\R.length<=40/\Own H o1 o2/\Held H k.toD v/\SortT ((qq R k).l 2) 200/\
 ∀(A:CA) (ps qs:List DA) (H':Hp),Same H H'->H (A.l 2)=none->ps.map (·.1)=(qq R k).l 2->qs.Perm ps->(qs.map (·.1)).Pairwise (fun a b=>dLt b a=false)->CsAt C (8 * R.length+10) A ((qq R k).once ((kU qs).map (·.1))) H'->Q (.ref A.o) H'
section
variable {P:az}{w:aw}{K:aq}{mg:Str->Option ae}{base:aj}{C o1 o2:ab}
theorem jgB{f:ab}{fd:aH}(T:ClsC K C)(F:Fun K "gathered" "gathered" yU f fd)(B:Free0 mg)(gH:mg "enumerate" = none)(we:MkFn P w K mg base 1 "Case" C ["self"] (jeb C))(wq:Fn P w K mg base 6 "take_row" ["case","n","row"] (jd5 C))(wE:Fn P w K mg base 5 "deny" ["case","goal"] (jd9 C o1 o2))(i8:Fn P w K mg base 14 "each_once" ["things"] jbd):FnOk P w K mg base CX0 15 f fd ["rows","goal"] (jd7 C o1 o2):=by
 have sc:FnScope ["rows","goal","case","n","row"] ["rows","goal"] (jm yU):=fQ;refine F.okZ sc (fun vs H Q E h=>?_) (fun au A outer s H vs Q E hr h=>?_)
 .obtain⟨a,R,rs,k,v,rfl,_⟩:=h
  rfl
 obtain⟨a,R,rs,k,v,rfl,ha,cA,hl,ho,hv,hS,q⟩:=h;refine⟨_,(jd (jw (i:=2) sc.nd rfl oQ (jfC we hr))
   (jd (kL ee rfl (KQ (by rfl) gH (ja (zpv 0) jb)) (kH rfl (jz (jx (i:=3) sc.nd rfl oQ) (jz (jx (i:=4) sc.nd rfl oQ) ky))) (ji (jA (jh wq hr (ja (zpv 2) (ja (zpv 3) (ja (zpv 4) jb)))))))
   (jd (jA (jh wE hr (ja (zpv 2) (ja (zpv 1) jb))))
   (jd (qM (zpv 2) (jh i8 hr (ja (jW (zpv 2) rfl) jb)) rfl)
   (ji (jB (zpv 2))))))),?_⟩
 refine jG (σ':=[some (.ref a),some v,none,none,none]) rfl ?_
 try dsimp only[y9]
 refine ji4 ?_;intro r4 r3 r2 r1;refine (fun x dx hx Bq pr=>⟨x,dx,rfl,jf,fun B0 H2 eo k2 hn I2=>⟨rfl,?_⟩⟩);subst eo;have fresh:∀b,upd (upd H dx (.own B0.o)) B0.o (.ins C dx []) b=none->H b=none:=fun b hb=>by
  by_cases z:b=B0.o
  .rw[z,jf]at hb;cases hb
  by_cases z2:b=dx
  .rw[jD z,z2,jf]at hb;cases hb
  .rw[jD z,jD z2]at hb;exact hb
 have s2:Same H H2:=fun b o e=>k2 _ _ (jo e hx) (by rw[jD (jo e hx),jD (jo e Bq)];exact e)
 obtain⟨n1,n2,n3,n4⟩:=hn;have nn:∀{G:Hp},Mv B0 H2 G->Same H G:=fun m b o e=>m b o (fun z=>by rw[z,fresh _ n1]at e;cases e) (fun z=>by rw[z,fresh _ n2]at e;cases e) (fun z=>by rw[z,fresh _ n3]at e;cases e) (fun i hi z=>by rw[z,fresh _ (n4 i hi)]at e;cases e) (s2 b o e)
 have l2n:=fresh _ (n4 2 (by decide));clear fresh Bq pr k2 n1 n2 n3 n4;refine gQ ?_;have eU:=cA.length;rw[aB]at eU;let Pv:Nat->St->Hp->Prop:=fun i σ G=>∃u3 u4,σ=[some (.ref a),some v,some (.ref B0.o),u3,u4]/\Mv B0 H2 G/\CsAt C (8 * i) B0 (Cs.none.rows (R.take i) 0) G
 refine⟨_,rfl,a,rfl,⟨_,SqL.of (s2 _ _ ha)⟩,?_⟩;refine Yv (xs:=rs) Pv ⟨none,none,rfl,.same (fun _ _ e=>e),I2⟩ ?_ ?_ ?_
 .rintro i σ G _ ⟨u3,u4,rfl,m,_⟩
  exact SqL.of (nn m _ _ ha)
 .rintro i y σ G t hy ⟨u3,u4,rfl,m,I⟩ ht
  have hi:i < R.length:=by rw[eU];exact (bI.mp hy).1
  have ci:Held H R[i].toD y:=kz cA (by rw[bH,aK hi];rfl) hy;have s3:=jk ht (.tup [.int i,y]);have e3:upd G t (.tup [.int i,y]) t=some (.tup [.int i,y]):=jf;have I':=I.same s3;generalize upd G t (.tup [.int i,y])=G1 at *;refine⟨t,_,rfl,SqT.of e3,rfl,_,_,rfl,_,_,rfl,rfl,?_⟩;refine jG (σ':=[some (.ref a),some v,some (.ref B0.o),some (.int i),some y]) rfl ?_;refine⟨_,rfl,_,rfl,_,rfl,8 * i,B0,_,i,R[i],y,rfl,I',by omega,(ci.mono (nn m)).mono s3,fun G2 m2 I2=>⟨_,_,rfl,m.trans ((Mv.same s3).trans m2),?_⟩⟩;rw[dO,aK hi];show CsAt C (8 * (i+1)) B0 (Cs.none.rows (R.take i++[R[i]]) 0) G2;rw[YZ,bZ,LV (cD hi),Dy];exact I2.mono (by omega)
 .rintro σ G ⟨u3,u4,rfl,m,I⟩
  rw[<- eU,cx]at I;have sG:=nn m;refine⟨_,rfl,_,rfl,8 * R.length,B0,_,k,v,rfl,I,by omega,ho.tk (.same sG),hv.mono sG,fun G1 m1 I1=>?_⟩;have I1:CsAt C (8 * R.length+10) B0 (qq R k) G1:=I1;obtain⟨xs,l1,l2,l3⟩:=I1.l 2 (by decide);obtain⟨ps,p1,rfl,p3⟩:=qV l2 hS.tup;have l4:ps.length<=11000000:=by
   rw[aB,aB]at l3;omega
  refine⟨_,rfl,B0.o,C,B0.dx,_,_,rfl,I1.o,T.c,T.n6,rfl,B0.l 2,ps,rfl,l1,p3,by rw[p1];exact hS,l4,fun lo qs G2 g2 eW hp hs BO=>?_⟩;have I3:=I1.same g2;refine⟨_,rfl,B0.o,C,B0.dx,_,rfl,I3.o,T.c,T.n6,by show 9 < 1000;decide,?_⟩;refine⟨_,rfl,q { B0 with l:=fun i=>if i=2 then lo else B0.l i } ps qs _ ?_ ?_ p1 hp hs ?_⟩
  .exact fun b o e=>jj (jo e hx) (g2 _ _ (nn (m.trans m1) _ _ e))
  .show H lo=none
   cases z:H lo with
   | none=>rfl
   | some o=>rw[nn (m.trans m1) _ _ z]at eW;cases eW
  .have t4:TK G2 (upd G2 B0.o (.ins C B0.dx (yq "spots" (V.ref lo) (jjc B0)))):=fun b ys e=>jj (jy e I3.o (by intro z;cases z)) e
   have J:=I3.mono (show 8 * R.length+10<=8 * R.length+10 by omega);obtain⟨k1,h1,_⟩:=I3.nu;obtain⟨k2,h2,_⟩:=I3.ve;obtain⟨k3,h3,_⟩:=I3.na;have oV:∀j,j < 6->lo≠B0.l j:=fun j hj z=>by
    obtain⟨ys,y1,_⟩:=I1.l j hj;rw[z,y1]at eW
    cases eW
   refine⟨jf,I3.n1,I3.n2,I3.n3,fun i j hi hj e=>?_,J.nu.tk t4 fun o=>jj (jy h1 I3.o (by intro z;cases z)),J.ve.tk t4 fun o=>jj (jy h2 I3.o (by intro z;cases z)),J.na.tk fun o=>jj (jy h3 I3.o (by intro z;cases z)),fun i hi=>?_⟩
   .have e:(if i=2 then lo else B0.l i)=if j=2 then lo else B0.l j:=e
    by_cases a1:i=2
    .by_cases a2:j=2
     .rw[a1,a2]
     .rw[MU a1,MT a2]at e
      exact absurd e (oV j hj)
    .by_cases a2:j=2
     .rw[MT a1,MU a2]at e
      exact absurd e.symm (oV i hi)
     .rw[MT a1,MT a2]at e
      exact I3.inj i j hi hj e
   .show LAt (8 * R.length+10) (if i=2 then (kU qs).map (·.1) else (qq R k).l i) _ (if i=2 then lo else B0.l i)
    by_cases a1:i=2
    .rw[MU a1,MU a1]
     refine⟨_,jj (jy BO I3.o (by intro z;cases z)) BO,t4.heldL ((TK.same g2).heldL (qU fun p u_=>p3 p (hp.mem_iff.mp (yc qs p u_)))),?_⟩;rw[aB,aB]at l3 |-;have:=Y3 qs;rw[hp.length_eq]at this;omega
    .rw[MT a1,MT a1]
     obtain⟨ys,y1,_⟩:=I3.l i hi;exact (J.l i hi).tk t4 fun o=>jj (jy y1 I3.o (by intro z;cases z))
end
def jcV:D->D
 | .tup [_,u,_]=>u
 | d=>d
def Cs.ends(c:Cs):List D:=(c.l 4++c.l 5).map jcV
def jg3(R:List Rw)(k:Cl)(es:List D):Prop:=∃ps qs:List DA,ps.map (·.1)=(qq R k).l 2/\qs.Perm ps/\(qs.map (·.1)).Pairwise (fun a b=>dLt b a=false)/\es=(kU qs).map (·.1)
theorem jcU{ds es:List D}{n:Nat}(x:SortT ds n)(p:∀d∈es,d∈ds):SortT es n:=⟨⟨fun d hd e he=>x.cmp d (p d hd) e (p e he),fun d hd=>x.dep d (p d hd),fun d hd=>x.tup d (p d hd)⟩,fun d hd=>x.fst d (p d hd)⟩
theorem jd4{R:List Rw}{k:Cl}{es:List D}(h:jg3 R k es):∀d∈es,d∈(qq R k).l 2:=by
 obtain⟨ps,qs,h1,h2,_,rfl⟩:=h;intro d hd;obtain⟨q,q1,rfl⟩:=cc.mp hd;rw[<- h1];exact cc.mpr ⟨q,h2.mem_iff.mp (yc _ _ q1),rfl⟩
abbrev jfP:aA:=top 41
abbrev jb5:aA:=top 42
abbrev ZD:aA:=top 47
def Wd(x:Str):Prop:=(∀c∈x.cps.toList,(97<=c/\c<=122)\/c=46)/\x.length<=40
inductive Ver:D->Prop
 | row {r:Str} (h:Wd r):Ver (Ky r)
 | lost {n:Nat} (h:n<=1000):Ver (Ym n)
 | put {n:Nat} (h:n<=1000):Ver (yr n)
inductive Src:Nat->D->Prop
 | nought {m:Nat}:Src m KL.1
 | start {m:Nat} {x:Str} (h:Wd x):Src m (Zs x).1
 | pick {m n:Nat} (h:n<=1000):Src m (jcd n).1
 | own {m:Nat} {i:Int} (h:i.natAbs<=1000):Src m (jS i).1
 | ent {m:Nat} {v d:D} {c:Int} (hv:Ver v) (hd:Src m d) (hc:c.natAbs < 10 ^ 30):Src (m+1) (j7 v (d,c)).1
theorem Src.mono{m:Nat}{d:D}(h:Src m d):∀{n:Nat},m<=n->Src n d:=by
 induction h with
 | nought=>intro n _;exact .nought
 | start h=>intro n _;exact .start h
 | pick h=>intro n _;exact .pick h
 | own h=>intro n _;exact .own h
 | @ent m v d c hv hd hc ih=>
  intro n hn;obtain⟨k,rfl⟩:∃k,n=k+1:=⟨n - 1,by omega⟩
  exact .ent hv (ih (by omega)) hc
theorem yG{x:Str}(h:x.cps.toList.all (fun c=>decide (97<=c/\c<=122))=true):OkD (.str x):=fun c hc=>.inl (MQ (DW.mp h c hc))
theorem i39{i:Int}(h:i.natAbs < 10 ^ 30):OkD (.int i):=dl h (by decide)
theorem n39{n:Nat}(h:n<=1000):OkD (.int (n:Int)):=by
 show (n:Int).natAbs < 10 ^ 39;exact oB (by omega:(n:Int).natAbs<=1000) (by decide)
theorem Ver.ok{v:D}(h:Ver v):OkD v/\v.depth<=1/\v.big<=100:=by
 cases h with
 | @row r h=>exact⟨⟨yG (by decide +kernel),h.1,trivial⟩,(by show max 0 (max 0 0)+1<=1;decide),by
   show ((bu "row").length+2)+2+(r.length+2+2+0)+3<=100;have:=h.2;have e:(bu "row").length=3:=rfl;omega⟩
 | lost h=>exact⟨⟨yG (by decide +kernel),n39 h,trivial⟩,(by show max 0 (max 0 0)+1<=1;decide),by show ((bu "lost").length+2)+2+(40+2+0)+3<=100;decide +kernel⟩
 | put h=>exact⟨⟨yG (by decide +kernel),n39 h,trivial⟩,(by show max 0 (max 0 0)+1<=1;decide),by show ((bu "put").length+2)+2+(40+2+0)+3<=100;decide +kernel⟩
theorem Src.ok{m:Nat}{d:D}(h:Src m d):OkD d/\d.depth<=2 * m+1/\d.big<=200 * m+100:=by
 induction h with
 | nought=>exact⟨⟨yG (by decide +kernel),trivial⟩,(by show max 0 0+1<=_;simp),by show ((bu "nought").length+2)+2+0+3<=_;have e:(bu "nought").length=6:=rfl;omega⟩
 | @start m x h=>exact⟨⟨yG (by decide +kernel),h.1,trivial⟩,(by show max 0 (max 0 0)+1<=_;simp),by
   show ((bu "start").length+2)+2+(x.length+2+2+0)+3<=_;have:=h.2;have e:(bu "start").length=5:=rfl;omega⟩
 | pick h=>exact⟨⟨yG (by decide +kernel),n39 h,trivial⟩,(by show max 0 (max 0 0)+1<=_;simp),by show ((bu "pick").length+2)+2+(40+2+0)+3<=_;have e:(bu "pick").length=4:=rfl;omega⟩
 | own h=>exact⟨⟨yG (by decide +kernel),(oB h (by decide):_ < 10 ^ 39),trivial⟩,(by show max 0 (max 0 0)+1<=_;simp),by show ((bu "own").length+2)+2+(40+2+0)+3<=_;have e:(bu "own").length=3:=rfl;omega⟩
 | @ent m v d c hv hd hc ih=>
  obtain⟨i1,i2,i3⟩:=ih;obtain⟨v1,v2,v3⟩:=hv.ok;refine⟨⟨yG (by decide +kernel),v1,⟨i1,i39 hc,trivial⟩,trivial⟩,?_,?_⟩
  .show max 0 (max v.depth (max (max d.depth (max 0 0)+1) 0))+1<=_
   omega
  .show ((bu "entry").length+2)+2+(v.big+2+((d.big+2+(40+2+0)+3)+2+0))+3<=_
   have e:(bu "entry").length=5:=rfl;omega
def Gp(m:Nat)(p:P2):Prop:=Src m p.1/\p.2.natAbs < 10 ^ 30
def Shw(d:D):Prop:=OkD d/\d.depth<=200/\d.big<=100000
theorem Gp.shw{m:Nat}{p:P2}(h:Gp m p)(hm:m<=90):Shw (p2 p):=by
 obtain⟨a,b,c⟩:=h.1.ok;refine⟨⟨a,i39 h.2,trivial⟩,?_,?_⟩
 .show max p.1.depth (max 0 0)+1<=200
  omega
 .show p.1.big+2+(40+2+0)+3<=100000
  omega
theorem qo{m:Nat}{p q:P2}(h:Gp m p)(k:Gp m q)(hm:m<=90):Shw (kJ p q):=by
 obtain⟨a,b,c⟩:=h.1.ok;obtain⟨a',b',c'⟩:=k.1.ok;refine⟨⟨a,a',?_,trivial⟩,?_,?_⟩
 .show (q.2 - p.2).natAbs < 10 ^ 39
  have:=h.2;have:=k.2;omega
 .show max p.1.depth (max q.1.depth (max 0 0))+1<=200
  omega
 .show p.1.big+2+(q.1.big+2+(40+2+0))+3<=100000
  omega
section
variable {P:az}{w:aw}{K:aq}{mg:Str->Option ae}{base:aj}
theorem jgs{f:ab}{fd:aH}(F:Fun K "_law_tie" "_law_tie" jfP f fd):FnOk P w K mg base CX0 1 f fd ["_law_one","_law_other"] zD:=by
 have sc:FnScope ["_law_one","_law_other"] ["_law_one","_law_other"] (jm jfP):=fQ;refine F.okZ sc (fun vs H Q E h=>?_) (fun au A outer s H vs Q E hr h=>?_)
 .obtain⟨v,u,p,q,rfl,_⟩:=h
  rfl
 obtain⟨v,u,p,q,rfl,hv,hu,k⟩:=h;refine⟨_,(ji (jB (zpd (j5 (jt (zp (jp ju (zpv 0) jc (fun _ _=>rfl))) (jt (zp (jp ju (zpv 1) jc (fun _ _=>rfl))) (jt (zp (js qH (jp ju (zpv 1) jc (fun _ _=>rfl)) (jp ju (zpv 0) jc (fun _ _=>rfl)))) jP))))))),?_⟩;refine jG (σ':=[some v,some u]) rfl ?_;obtain⟨t,x,rfl,ht,hx⟩:=Ji hv;obtain⟨t',y,rfl,dq,hy⟩:=Ji hu;refine⟨kJ p q,⟨_,rfl,aX rfl,_,_,rfl,(fun G sG Q q=>?_),_,_,rfl,(fun G sG Q q=>?_),_,_,rfl,(fun G sG Q q=>?_),rfl⟩,fun v H' s h=>k v H' s h⟩
 .exact⟨_,rfl,t,_,_,_,rfl,rfl,SqT.of (sG _ _ ht),jg (j:=0) rfl,q _ _ (fun _ _ e=>e) (hx.mono sG)⟩
 .exact⟨_,rfl,t',_,_,_,rfl,rfl,SqT.of (sG _ _ dq),jg (j:=0) rfl,q _ _ (fun _ _ e=>e) (hy.mono sG)⟩
 .exact⟨_,rfl,t',_,_,_,rfl,rfl,SqT.of (sG _ _ dq),jg (j:=1) rfl,_,rfl,t,_,_,_,rfl,rfl,SqT.of (sG _ _ ht),jg (j:=1) rfl,_,_,rfl,rfl,q _ _ (fun _ _ e=>e) jO⟩
theorem jeT{f:ab}{fd:aH}(F:Fun K "_law_more" "_law_more" jb5 f fd):FnOk P w K mg base CX0 1 f fd ["_law_one","_law_more_here"] qw:=by
 have sc:FnScope ["_law_one","_law_more_here"] ["_law_one","_law_more_here"] (jm jb5):=fQ;refine F.okZ sc (fun vs H Q E h=>?_) (fun au A outer s H vs Q E hr h=>?_)
 .obtain⟨v,d,p,rfl,_⟩:=h
  rfl
 obtain⟨v,d,p,rfl,hv,k⟩:=h;refine⟨_,(ji (jB (zpd (j5 (jt (zp (jp ju (zpv 0) jc (fun _ _=>rfl))) (jt (zp (js qi (jp ju (zpv 0) jc (fun _ _=>rfl)) (zpv 1))) jP)))))),?_⟩;refine jG (σ':=[some v,some (.int d)]) rfl ?_;obtain⟨t,x,rfl,ht,hx⟩:=Ji hv;refine⟨p2 (mor p d),⟨_,rfl,aX rfl,_,_,rfl,(fun G sG Q q=>?_),_,_,rfl,(fun G sG Q q=>?_),rfl⟩,fun v H' s h=>k v H' s h⟩
 .exact⟨_,rfl,t,_,_,_,rfl,rfl,SqT.of (sG _ _ ht),jg (j:=0) rfl,q _ _ (fun _ _ e=>e) (hx.mono sG)⟩
 .exact⟨_,rfl,t,_,_,_,rfl,rfl,SqT.of (sG _ _ ht),jg (j:=1) rfl,_,rfl,_,_,rfl,rfl,q _ _ (fun _ _ e=>e) jO⟩
theorem jgC{f:ab}{fd:aH}(F:Fun K "_law_entry" "_law_entry" ZD f fd):FnOk P w K mg base CX0 1 f fd ["_law_version_here","_law_spot_here"] zU:=by
 have sc:FnScope ["_law_version_here","_law_spot_here"] ["_law_version_here","_law_spot_here"] (jm ZD):=fQ;refine F.okZ sc (fun vs H Q E h=>?_) (fun au A outer s H vs Q E hr h=>?_)
 .obtain⟨v,u,d,p,rfl,_⟩:=h
  rfl
 obtain⟨v,u,d,p,rfl,hv,hu,k⟩:=h;refine⟨_,(ji (jB (zpd (j5 (jt (j5 (jt kR (jt (kn 0) (jt (kn 1) jP)))) (jt zc jP)))))),?_⟩;refine jG (σ':=[some v,some u]) rfl ?_;exact⟨p2 (j7 d p),⟨_,rfl,aX rfl,_,_,rfl,⟨_,rfl,aX rfl,_,_,rfl,rfl,_,_,rfl,⟨_,rfl,hv⟩,_,_,rfl,⟨_,rfl,hu⟩,rfl⟩,_,_,rfl,rfl,rfl⟩,fun v H' s h=>k v H' s h⟩
end
abbrev YY:aA:=top 45
abbrev Yg:aA:=top 43
abbrev ZC:aA:=top 44
abbrev yM:aA:=top 46
def TAt(n:Nat)(L:List D)(H:Hp)(a:ab):Prop:=∃(ds:List D) (kvs:List (Key×V)),H a=some (.dK kvs)/\kvs.map (·.1)=ds.map (fun d=>Sum.inr d.py.shown)/\HeldL H ds (kvs.map (·.2))/\ds.Nodup/\(∀d,d∈ds↔d∈L)/\(∀d∈ds,OkD d)/\kvs.length<=n
theorem TAt.tk{n:Nat}{L:List D}{H H':Hp}{a:ab}(h:TAt n L H a)(t:TK H H')(e:∀o,H a=some o->H' a=some o):TAt n L H' a:=by
 obtain⟨ds,kvs,h1,h2,h3,h4,h5,h6,h7⟩:=h;exact⟨ds,kvs,e _ h1,h2,t.heldL h3,h4,h5,h6,h7⟩
theorem TAt.congr{n m:Nat}{L L':List D}{H:Hp}{a:ab}(h:TAt n L H a)(hn:n<=m)(e:∀d,d∈L↔d∈L'):TAt m L' H a:=by
 obtain⟨ds,kvs,h1,h2,h3,h4,h5,h6,h7⟩:=h;exact⟨ds,kvs,h1,h2,h3,h4,fun d=>(h5 d).trans (e d),h6,aG h7 hn⟩
theorem Za{H:Hp}{k:Key}{d:D}{v:V}(hv:Held H d v):∀{ds:List D} {kvs:List (Key×V)},HeldL H ds (kvs.map (·.2))->(∀(i:Nat) (e:D) (p:Key×V),ds[i]?=some e->kvs[i]?=some p->p.1=k->e=d)->HeldL H ds ((kvs.map fun kv=>if kv.1=k then (kv.1,v) else kv).map (·.2))
 | [],[],h,_=>h
 | [],_ :: _,h,_=>by cases jM h
 | e :: ds,[],h,_=>by obtain⟨_,_,z,_⟩:=jl h;cases z
 | e :: ds,p :: kvs,h,hs=>by
  obtain⟨x,r,z,h1,h2⟩:=jl h
  cases z
  rw[bg,bg];refine je ?_ (Za hv h2 fun i e p a b=>hs (i+1) e p a b);by_cases c:p.1=k
  .rw[MU c,hs 0 e p rfl rfl c]
   exact hv
  .rw[MT c]
   exact h1
theorem TAt.put{n:Nat}{L:List D}{H:Hp}{a:ab}{kvs:List (Key×V)}{d:D}{v:V}(h:TAt n L H a)(e:H a=some (.dK kvs))(hv:Held H d v)(hd:OkD d):TAt (n+1) (L++[d]) (upd H a (.dK (km kvs (.inr d.py.shown) v))) a:=by
 have t:TK H (upd H a (.dK (km kvs (.inr d.py.shown) v))):=fun b xs eb=>jj (jy eb e (by intro z;cases z)) eb
 obtain⟨ds,k1,h1,h2,h3,h4,h5,h6,h7⟩:=h;obtain rfl:k1=kvs:=by rw[h1]at e;cases e;rfl
 have eX:∀q,q∈L++[d]↔q∈L\/q=d:=fun q=>by rw[bx,aM]
 by_cases z:d∈ds
 .have kin:(Sum.inr d.py.shown:Key)∈k1.map (·.1):=by rw[h2];exact cc.mpr ⟨d,z,rfl⟩
  refine⟨ds,_,jf,(jcl _ kin).trans h2,?_,h4,fun q=>?_,h6,aG (kK _ _ _) (gW h7)⟩
  .obtain⟨p,p1,tT⟩:=cc.mp kin
   refine t.heldL ?_;unfold km;rw[MU (mO.mpr ⟨p,p1,MR tT⟩)];refine Za hv h3 fun i x p a b c=>?_
   have:(k1.map (·.1))[i]?=some p.1:=by rw[bH,b];rfl
   rw[h2,bH,a]at this;have:Sum.inr x.py.shown=p.1:=cN this;rw[c]at this;exact YX (h6 x (lI a)) hd (wJ this)
  .rw[eX,<- h5]
   exact⟨.inl,fun w=>w.elim id fun y=>by rw[y];exact z⟩
 .have Ev:(Sum.inr d.py.shown:Key) ∉ k1.map (·.1):=fun y=>by
   rw[h2]at y;obtain⟨x,x1,x2⟩:=cc.mp y;have:=YX (h6 x x1) hd (wJ x2);rw[this]at x1;exact z x1
  have ep:km k1 (Sum.inr d.py.shown) v=k1++[(Sum.inr d.py.shown,v)]:=by
   unfold km;refine MT fun y=>?_
   obtain⟨p,p1,tT⟩:=mO.mp y;exact Ev (cc.mpr ⟨p,p1,MQ tT⟩)
  rw[ep]at t |-;refine⟨ds++[d],_,jf,by rw[bq,bq,h2];rfl,?_,?_,fun q=>?_,fun q hq=>?_,by rw[bz];exact gW h7⟩
  .rw[bq]
   exact t.heldL (j4 h3 (je hv jr))
  .rw[DJ]
   exact⟨h4,by simp,fun x hx y hy=>by cases aM.mp hy;exact fun w=>z (by rw[<- w];exact hx)⟩
  .rw[eX,<- h5,bx,aM]
  .rcases bx.mp hq with hq | hq
   .exact h6 q hq
   .rw[aM.mp hq];exact hd
structure BA where
 o:ab
 st:ab
 nw:ab
 vs:ab
 t:Nat->ab
 l:Nat->ab
def zN(A:BA):List (Key×V):=[(.inr "stands",.ref A.st),(.inr "now",.ref A.nw),(.inr "versions",.ref A.vs),(.inr "spots",.ref (A.t 0)),(.inr "ends",.ref (A.t 1)),(.inr "ties",.ref (A.t 2)),(.inr "each",.ref (A.l 0)),(.inr "rise",.ref (A.l 1)),(.inr "puts",.ref (A.l 2))]
def tOf(c:Cs)(i:Nat):List D:=if i=0 then c.l 2 else if i=1 then c.ends else c.l 1
structure BxAt(n:Nat)(A:BA)(c:Cs)(H:Hp):Prop where
 o:H A.o=some (.dK (zN A))
 nd:[A.o,A.st,A.nw,A.t 0,A.t 1,A.t 2].Nodup
 inj:∀i j,i < 3->j < 3->A.l i=A.l j->i=j
 st:DAt n (fun x=>(c.nu x).map p2) H A.st
 nw:DAt n c.ve H A.nw
 vs:∃kvs:List (List Key×V),H A.vs=some (.dT kvs)/\kvs.length<=n
 t:∀i,i < 3->TAt n (tOf c i) H (A.t i)
 l:∀i,i < 3->∃xs,H (A.l i)=some (.lst xs)/\xs.length<=n
def MvB(A:BA)(H H':Hp):Prop:=∀b o,b≠A.st->b≠A.nw->b≠A.vs->(∀i,i < 3->b≠A.t i)->(∀i,i < 3->b≠A.l i)->H b=some o->H' b=some o
theorem MvB.same{A:BA}{H H':Hp}(s:Same H H'):MvB A H H':=fun b o _ _ _ _ _ e=>s b o e
theorem MvB.trans{A:BA}{H H1 H2:Hp}(h:MvB A H H1)(k:MvB A H1 H2):MvB A H H2:=fun b o a1 a2 a3 a4 a5 e=>k b o a1 a2 a3 a4 a5 (h b o a1 a2 a3 a4 a5 e)
theorem DAt.mono{n m:Nat}{f:Str->Option D}{H:Hp}{a:ab}(h:DAt n f H a)(k:n<=m):DAt m f H a:=by
 obtain⟨kvs,h1,h2,h3⟩:=h;exact⟨kvs,h1,aG h2 k,h3⟩
theorem BxAt.keep{n m:Nat}{A:BA}{c:Cs}{H H':Hp}(I:BxAt n A c H)(hm:n<=m)(t:TK H H')(e:∀a o,H a=some o->(∀xs,o≠.tup xs)->H' a=some o):BxAt m A c H':=by
 obtain⟨k1,h1,_⟩:=I.st;obtain⟨k2,h2,_⟩:=I.nw;obtain⟨k3,h3,h4⟩:=I.vs;refine⟨e _ _ I.o (by intro _ z;cases z),I.nd,I.inj,(I.st.tk t fun o ho=>by rw[h1]at ho;cases ho;exact e _ _ h1 (by intro _ z;cases z)).mono hm,(I.nw.tk t fun o ho=>by rw[h2]at ho;cases ho;exact e _ _ h2 (by intro _ z;cases z)).mono hm,⟨k3,e _ _ h3 (by intro _ z;cases z),aG h4 hm⟩,fun i hi=>?_,fun i hi=>?_⟩
 .have:=I.t i hi
  refine (this.tk t fun o ho=>?_).congr hm fun _=>Iff.rfl
  obtain⟨_,kv,q,_⟩:=this;rw[q]at ho;cases ho;exact e _ _ q (by intro _ z;cases z)
 .obtain⟨xs,q1,q2⟩:=I.l i hi
  exact⟨xs,e _ _ q1 (by intro _ z;cases z),aG q2 hm⟩
theorem BxAt.same{n:Nat}{A:BA}{c:Cs}{H H':Hp}(I:BxAt n A c H)(s:Same H H'):BxAt n A c H':=I.keep (aD _) (.same s) fun a o e _=>s a o e
theorem BxAt.mono{n m:Nat}{A:BA}{c:Cs}{H:Hp}(I:BxAt n A c H)(h:n<=m):BxAt m A c H:=I.keep h (fun _ _ e=>e) fun _ _ e _=>e
theorem BxAt.tk{n:Nat}{A:BA}{c:Cs}{H H':Hp}(I:BxAt n A c H)(m:MvB A H H'):TK H H':=fun b xs e=>by
 obtain⟨k1,h1,_⟩:=I.st;obtain⟨k2,h2,_⟩:=I.nw;obtain⟨k3,h3,_⟩:=I.vs;refine m b _ (fun z=>?_) (fun z=>?_) (fun z=>?_) (fun i hi z=>?_) (fun i hi z=>?_) e
 .rw[z,h1]at e;cases e
 .rw[z,h2]at e;cases e
 .rw[z,h3]at e;cases e
 .obtain⟨_,_,h4,_⟩:=I.t i hi
  rw[z,h4]at e;cases e
 .obtain⟨_,h4,_⟩:=I.l i hi
  rw[z,h4]at e;cases e
theorem BxAt.congr{n m:Nat}{A:BA}{c c':Cs}{H:Hp}(I:BxAt n A c H)(hm:n<=m)(h1:c'.nu=c.nu)(h2:c'.ve=c.ve)(h3:∀i,i < 3->∀d,d∈tOf c i↔d∈tOf c' i):BxAt m A c' H:=by
 have J:=I.mono hm;exact⟨J.o,J.nd,J.inj,by rw[h1];exact J.st,by rw[h2];exact J.nw,J.vs,fun i hi=>(J.t i hi).congr (aD _) (h3 i hi),J.l⟩
theorem BxAt.ne{n:Nat}{A:BA}{c:Cs}{H:Hp}(I:BxAt n A c H):A.o≠A.st/\A.o≠A.nw/\A.st≠A.nw/\(∀i,i < 3->A.o≠A.t i/\A.st≠A.t i/\A.nw≠A.t i)/\∀i j,i < 3->j < 3->A.t i=A.t j->i=j:=by
 have h:=I.nd;simp only[eS,a_,DI,or_false,not_or,sM,and_true,not_false_eq_true]at h;obtain⟨⟨a1,a2,a3,a4,a5⟩,⟨b1,b2,b3,b4⟩,⟨c1,c2,c3⟩,⟨d1,d2⟩,e1⟩:=h;refine⟨a1,a2,b1,fun i hi=>?_,fun i j hi hj e=>?_⟩
 .have:i=0\/i=1\/i=2:=by omega
  rcases this with rfl | rfl | rfl
  .exact⟨a3,b2,c1⟩
  .exact⟨a4,b3,c2⟩
  .exact⟨a5,b4,c3⟩
 .have FC:i=0\/i=1\/i=2:=by omega
  have Fz:j=0\/j=1\/j=2:=by omega
  rcases FC with rfl | rfl | rfl <;> rcases Fz with rfl | rfl | rfl <;> first | rfl | exact absurd e d1 | exact absurd e d2 | exact absurd e e1 | exact absurd e.symm d1 | exact absurd e.symm d2 | exact absurd e.symm e1
theorem BxAt.put{n:Nat}{A:BA}{c c':Cs}{H:Hp}{i:Nat}{kvs:List (Key×V)}{d:D}{v:V}(I:BxAt n A c H)(hi:i < 3)(e:H (A.t i)=some (.dK kvs))(hv:Held H d v)(hd:OkD d)(h1:c'.nu=c.nu)(h2:c'.ve=c.ve)(h3:∀x,x∈tOf c i++[d]↔x∈tOf c' i)(h4:∀j,j < 3->j≠i->∀x,x∈tOf c j↔x∈tOf c' j):
  MvB A H (upd H (A.t i) (.dK (km kvs (.inr d.py.shown) v)))/\BxAt (n+1) A c' (upd H (A.t i) (.dK (km kvs (.inr d.py.shown) v))):=by
 obtain⟨uf,ue,oU,iK,uc⟩:=I.ne
 have mv:MvB A H (upd H (A.t i) (.dK (km kvs (.inr d.py.shown) v))):=fun b o _ _ _ h _ eb=>jj (h i hi) eb
 have t:=I.tk mv
 have J:=I.mono (cO n)
 obtain⟨k3,v3,v4⟩:=J.vs
 refine⟨mv,jj (iK i hi).1 I.o,I.nd,I.inj,by rw[h1];exact J.st.tk t fun o=>jj (iK i hi).2.1,by rw[h2];exact J.nw.tk t fun o=>jj (iK i hi).2.2,⟨k3,jj (jy v3 e (by intro z;cases z)) v3,v4⟩,fun j hj=>?_,fun j hj=>?_⟩
 .by_cases z:j=i
  .subst z
   exact ((I.t j hi).put e hv hd).congr (aD _) h3
  .exact ((J.t j hj).tk t fun o=>jj fun q=>z (uc j i hj hi q)).congr (aD _) (h4 j hj z)
 .obtain⟨xs,q1,q2⟩:=J.l j hj
  exact⟨xs,jj (jy q1 e (by intro z;cases z)) q1,q2⟩
theorem BxAt.setst{n:Nat}{A:BA}{c:Cs}{H:Hp}{kvs:List (Key×V)}{x:Str}{p:P2}{v:V}(I:BxAt n A c H)(e:H A.st=some (.dK kvs))(hv:Held H (p2 p) v):
  MvB A H (upd H A.st (.dK (km kvs (.inr x) v)))/\BxAt (n+1) A (c.setn x p) (upd H A.st (.dK (km kvs (.inr x) v))):=by
 obtain⟨uf,ue,oU,iK,uc⟩:=I.ne
 obtain⟨t,d⟩:=KO (x:=x) I.st e hv
 have J:=I.mono (cO n)
 obtain⟨k3,v3,v4⟩:=J.vs
 refine⟨fun b o h _ _ _ _ eb=>jj h eb,jj uf I.o,I.nd,I.inj,?_,J.nw.tk t fun o=>jj oU.symm,⟨k3,jj (jy v3 e (by intro z;cases z)) v3,v4⟩,fun j hj=>(J.t j hj).tk t fun o=>jj (iK j hj).2.1.symm,fun j hj=>?_⟩
 .have:(fun y=>((zV c.nu x p) y).map p2)=zV (fun y=>(c.nu y).map p2) x (p2 p):=by
   funext y;unfold zV;split <;> rfl
  show DAt _ (fun y=>((zV c.nu x p) y).map p2) _ _;rw[this];exact d
 .obtain⟨xs,q1,q2⟩:=J.l j hj
  exact⟨xs,jj (jy q1 e (by intro z;cases z)) q1,q2⟩
theorem BxAt.setnw{n:Nat}{A:BA}{c:Cs}{H:Hp}{kvs:List (Key×V)}{r:Str}{d:D}{v:V}(I:BxAt n A c H)(e:H A.nw=some (.dK kvs))(hv:Held H d v):
  MvB A H (upd H A.nw (.dK (km kvs (.inr r) v)))/\BxAt (n+1) A (c.setv r d) (upd H A.nw (.dK (km kvs (.inr r) v))):=by
 obtain⟨uf,ue,oU,iK,uc⟩:=I.ne
 obtain⟨t,d⟩:=KO (x:=r) I.nw e hv
 have J:=I.mono (cO n)
 obtain⟨k3,v3,v4⟩:=J.vs
 refine⟨fun b o _ h _ _ _ eb=>jj h eb,jj ue I.o,I.nd,I.inj,J.st.tk t fun o=>jj oU,d,⟨k3,jj (jy v3 e (by intro z;cases z)) v3,v4⟩,fun j hj=>(J.t j hj).tk t fun o=>jj (iK j hj).2.2.symm,fun j hj=>?_⟩
 obtain⟨xs,q1,q2⟩:=J.l j hj
 exact⟨xs,jj (jy q1 e (by intro z;cases z)) q1,q2⟩
theorem BxAt.setvs{n:Nat}{A:BA}{c:Cs}{H:Hp}{kvs:List (List Key×V)}{k:List Key}{v:V}(I:BxAt n A c H)(e:H A.vs=some (.dT kvs))(hl:kvs.length<=n):
  MvB A H (upd H A.vs (.dT (km kvs k v)))/\BxAt (n+1) A c (upd H A.vs (.dT (km kvs k v))):=by
 have mv:MvB A H (upd H A.vs (.dT (km kvs k v))):=fun b o _ _ h _ _ eb=>jj h eb
 have t:=I.tk mv
 have J:=I.mono (cO n)
 obtain⟨k1,h1,_⟩:=I.st
 obtain⟨k2,h2,_⟩:=I.nw
 refine⟨mv,jj (jy I.o e (by intro z;cases z)) I.o,I.nd,I.inj,J.st.tk t fun o=>jj (jy h1 e (by intro z;cases z)),J.nw.tk t fun o=>jj (jy h2 e (by intro z;cases z)),⟨_,jf,aG (kK _ _ _) (gW hl)⟩,fun j hj=>?_,fun j hj=>?_⟩
 .obtain⟨_,_,q1,_⟩:=I.t j hj
  exact (J.t j hj).tk t fun o=>jj (jy q1 e (by intro z;cases z))
 .obtain⟨xs,q1,q2⟩:=J.l j hj
  exact⟨xs,jj (jy q1 e (by intro z;cases z)) q1,q2⟩
theorem BxAt.addl{n:Nat}{A:BA}{c:Cs}{H:Hp}{xs:List V}{i:Nat}{v:V}(I:BxAt n A c H)(hi:i < 3)(e:H (A.l i)=some (.lst xs))(hl:xs.length<=n):
  MvB A H (upd H (A.l i) (.lst (xs++[v])))/\BxAt (n+1) A c (upd H (A.l i) (.lst (xs++[v]))):=by
 have mv:MvB A H (upd H (A.l i) (.lst (xs++[v]))):=fun b o _ _ _ _ h eb=>jj (h i hi) eb
 have t:=I.tk mv
 have J:=I.mono (cO n)
 obtain⟨k1,h1,_⟩:=I.st
 obtain⟨k2,h2,_⟩:=I.nw
 obtain⟨k3,v3,v4⟩:=J.vs
 refine⟨mv,jj (jy I.o e (by intro z;cases z)) I.o,I.nd,I.inj,J.st.tk t fun o=>jj (jy h1 e (by intro z;cases z)),J.nw.tk t fun o=>jj (jy h2 e (by intro z;cases z)),⟨k3,jj (jy v3 e (by intro z;cases z)) v3,v4⟩,fun j hj=>?_,fun j hj=>?_⟩
 .obtain⟨_,_,q1,_⟩:=I.t j hj
  exact (J.t j hj).tk t fun o=>jj (jy q1 e (by intro z;cases z))
 .obtain⟨ys,q1,q2⟩:=J.l j hj
  by_cases z:j=i
  .rw[z]
   exact⟨_,jf,by rw[bz];exact gW hl⟩
  .exact⟨ys,jj (fun q=>z (I.inj j i hj hi q)) q1,q2⟩
abbrev JE:aA:=top 48
theorem jgV:cW "repr" = some (.builtin "repr"):=by decide +kernel
theorem Z1{H:Hp}{A:BA}(h:H A.o=some (.dK (zN A))){x:Str}{v:V}(e:qu (zN A) (.inr x)=some v):DGet H A.o (.str x) (some v):=.inl ⟨_,.inr x,.inl h,rfl,e.symm⟩
theorem jfo{H:Hp}{A:BA}(h:H A.o=some (.dK (zN A))):DGet H A.o (.str "stands") (some (.ref A.st)):=Z1 h (by rfl)
theorem jfp{H:Hp}{A:BA}(h:H A.o=some (.dK (zN A))):DGet H A.o (.str "now") (some (.ref A.nw)):=Z1 h (by rfl)
theorem jhr{H:Hp}{A:BA}(h:H A.o=some (.dK (zN A))):DGet H A.o (.str "versions") (some (.ref A.vs)):=Z1 h (by rfl)
theorem YB{H:Hp}{A:BA}(h:H A.o=some (.dK (zN A))):DGet H A.o (.str "spots") (some (.ref (A.t 0))):=Z1 h (by rfl)
theorem jhs{H:Hp}{A:BA}(h:H A.o=some (.dK (zN A))):DGet H A.o (.str "ends") (some (.ref (A.t 1))):=Z1 h (by rfl)
theorem yQ{H:Hp}{A:BA}(h:H A.o=some (.dK (zN A))):DGet H A.o (.str "ties") (some (.ref (A.t 2))):=Z1 h (by rfl)
theorem jjf{H:Hp}{A:BA}(h:H A.o=some (.dK (zN A))):DGet H A.o (.str "each") (some (.ref (A.l 0))):=Z1 h (by rfl)
theorem jje{H:Hp}{A:BA}(h:H A.o=some (.dK (zN A))):DGet H A.o (.str "rise") (some (.ref (A.l 1))):=Z1 h (by rfl)
theorem jjd{H:Hp}{A:BA}(h:H A.o=some (.dK (zN A))):DGet H A.o (.str "puts") (some (.ref (A.l 2))):=Z1 h (by rfl)
theorem jfJ{c:Cs}{i j:Nat}{ds:List D}{r:Str}(hj:j < 3)(hi:j≠i)(h:i=0):∀x,x∈tOf c j↔x∈tOf ((c.add 2 ds).name r) j:=by
 subst h;intro x;unfold tOf;rw[MT hi,MT hi];exact Iff.rfl
def Yc:Sp:=fun vs H Q _=>∃(a:ab) (v:V) (kvs:List (Key×V)) (d:D),vs=[.ref a,v]/\H a=some (.dK kvs)/\kvs.length<=990/\Held H d v/\(∃es,d=.tup es)/\Shw d/\Q .non (upd H a (.dK (km kvs (.inr d.py.shown) v)))
def Jy:Sp:=fun vs H Q _=>∃(n:Nat) (A:BA) (c:Cs) (x:Str),vs=[.ref A.o,.str x]/\BxAt n A c H/\∀v H',Same H H'->Held H' (p2 (c.num x)) v->Q v H'
def Jz:Sp:=fun vs H Q _=>∃(n:Nat) (A:BA) (c:Cs) (x:Str) (d:Int) (v:V),vs=[.ref A.o,v]/\BxAt n A c H/\Held H (plD x d) v/\∀v H',Same H H'->Held H' (p2 (c.spot x d)) v->Q v H'
def Kc:Sp:=fun vs H Q _=>∃(n:Nat) (A:BA) (c:Cs) (r:Str),vs=[.ref A.o,.str r]/\BxAt n A c H/\n<=980/\∀v H',MvB A H H'->BxAt (n+1) A c H'->Held H' (c.ver r) v->Q v H'
def jbY:Sp:=fun vs H Q _=>∃(n m:Nat) (A:BA) (c:Cs) (t:Tm) (v:V),vs=[.ref A.o,v]/\BxAt n A c H/\n<=970/\Held H t.toD v/\m<=90/\(∀r x d,t=.at_ r x d->Gp m (c.spot x d))/\∀v H',MvB A H H'->BxAt (n+2) A (c.stand t).2 H'->Held H' (p2 (c.stand t).1) v->Q v H'
section
variable {P:az}{w:aw}{K:aq}{mg:Str->Option ae}{base:aj}
theorem jgA{f:ab}{fd:aH}(F:Fun K "_law_kept" "_law_kept" YY f fd)(wd:mg "repr" = none):FnOk P w K mg base CX0 14 f fd ["_law_some","_law_one"] Yc:=by
 have sc:FnScope ["_law_some","_law_one"] ["_law_some","_law_one"] (jm YY):=fQ;refine F.okZ sc (fun vs H Q E h=>?_) (fun au A outer s H vs Q E hr h=>?_)
 .obtain⟨a,v,kvs,d,rfl,_⟩:=h
  rfl
 have hu:(A.deeper (cr "_law_kept" (jm YY) s.heap.objs.size f au)).units+1 < cLine:=by have:=hr.un;omega
 have fk:(A.deeper (cr "_law_kept" (jm YY) s.heap.objs.size f au)).units+2+200 < cLine:=by have:=hr.un;omega
 obtain⟨a,v,kvs,d,rfl,ha,hl,hv,⟨es,rfl⟩,hw,q⟩:=h;refine⟨_,(ji (kx hu (zpv 0) (qZ (jdt hr.gd (n:=200) fk) (by rfl) wd jgV (ja (zpv 1) jb)) (zpv 1) rfl)),?_⟩;refine jG (σ':=[some (.ref a),some v]) rfl ?_;obtain⟨t,xs,rfl,ht,hx⟩:=jF hv;exact⟨_,rfl,_,rfl,_,rfl,t,_,rfl,hv,hw.2.1,hw.1,hw.2.2,a,_,rfl,.k (k:=.inr _) ha (jI (by omega)),q⟩
theorem jc3{f:ab}{fd:aH}(F:Fun K "_law_stand" "_law_stand" Yg f fd):FnOk P w K mg base CX0 1 f fd ["_law_box","_law_x"] Jy:=by
 have sc:FnScope ["_law_box","_law_x"] ["_law_box","_law_x"] (jm Yg):=fQ;refine F.okZ sc (fun vs H Q E h=>?_) (fun au A outer s H vs Q E hr h=>?_)
 .obtain⟨n,A,c,x,rfl,_⟩:=h
  rfl
 have hu:(A.deeper (cr "_law_stand" (jm Yg) s.heap.objs.size f au)).units+1 < cLine:=by have:=hr.units;omega
 obtain⟨n,B,c,x,rfl,I,q⟩:=h;refine⟨_,(jd (jN (jC kh (zpv 1) jq (jH _)) (ji (jB (zpd (j5 (jt (j5 (jt kR jP)) (jt zc jP)))))) jJ)
   (ji (jB (yR hu (jX hu (zpv 0) jq (fun _ _=>rfl)) (zpv 1) (zpd (j5 (jt (j5 (jt kR (jt (kn 1) jP))) (jt zc jP)))) ⟨rfl,rfl,rfl,rfl⟩)))),?_⟩
 refine jG (σ':=[some (.ref B.o),some (.str x)]) rfl ?_;obtain⟨kvs,h1,_,h3⟩:=I.st;unfold Cs.num at q;refine⟨_,rfl,rfl,_,rfl,yu (fun d=>?_) (fun d=>?_)⟩
 .rw[MU (V.str.inj (MQ d))]at q
  exact⟨p2 KL,⟨_,rfl,aX rfl,_,_,rfl,⟨_,rfl,aX rfl,_,_,rfl,rfl,rfl⟩,_,_,rfl,rfl,rfl⟩,fun v H' s h=>q v H' s h⟩
 .rw[MT (fun e=>d (MR (MW V.str e)))]at q
  refine⟨_,rfl,B.o,_,rfl,jfo I.o,B.st,rfl,.inl ⟨kvs,.inl h1⟩,_,rfl,p2 (Zs x),⟨_,rfl,aX rfl,_,_,rfl,⟨_,rfl,aX rfl,_,_,rfl,rfl,_,_,rfl,⟨_,rfl,jE⟩,rfl⟩,_,_,rfl,rfl,rfl⟩,fun v H' s h=>⟨_,.k (k:=.inr x) (s _ _ h1),?_⟩⟩
  cases e:c.nu x with
  | none=>
   rw[(h3 x).1 (by show (c.nu x).map p2=none;rw[e];rfl)];rw[e]at q;exact q _ _ s h
  | some p=>
   obtain⟨u,u1,u2⟩:=(h3 x).2 (p2 p) (by show (c.nu x).map p2=_;rw[e];rfl);rw[u1];rw[e]at q;exact q _ _ s (u2.mono s)
theorem jeR{f:ab}{fd:aH}(F:Fun K "_law_spot" "_law_spot" ZC f fd)(gJ:Fn P w K mg base 1 "_law_stand" ["_law_box","_law_x"] Jy)(cV:Fn P w K mg base 1 "_law_more" ["_law_one","_law_more_here"] qw):FnOk P w K mg base CX0 2 f fd ["_law_box","_law_place_here"] Jz:=by
 have sc:FnScope ["_law_box","_law_place_here"] ["_law_box","_law_place_here"] (jm ZC):=fQ;refine F.okZ sc (fun vs H Q E h=>?_) (fun au A outer s H vs Q E hr h=>?_)
 .obtain⟨n,A,c,x,d,v,rfl,_⟩:=h
  rfl
 obtain⟨n,A,c,x,d,v,rfl,I,hv,q⟩:=h;refine⟨_,(ji (jB (jh cV hr (ja (jh gJ hr (ja (zpv 0) (ja (jp ju (zpv 1) jc (fun _ _=>rfl)) jb))) (ja (jp ju (zpv 1) jc (fun _ _=>rfl)) jb))))),?_⟩;refine jG (σ':=[some (.ref A.o),some v]) rfl ?_;obtain⟨t,rfl,ht⟩:=Jh hv;exact⟨_,rfl,_,rfl,t,_,_,_,rfl,rfl,SqT.of ht,jg (j:=0) rfl,n,A,c,x,rfl,I,fun v H1 s1 h1=>⟨_,rfl,t,_,_,_,rfl,rfl,SqT.of (s1 _ _ ht),jg (j:=1) rfl,v,d,_,rfl,h1,fun v H2 s2 h2=>q v H2 (s1.trans s2) h2⟩⟩
theorem jgp{f:ab}{fd:aH}(F:Fun K "_law_version" "_law_version" yM f fd):FnOk P w K mg base CX0 1 f fd ["_law_box","_law_r"] Kc:=by
 have sc:FnScope ["_law_box","_law_r"] ["_law_box","_law_r"] (jm yM):=fQ;refine F.okZ sc (fun vs H Q E h=>?_) (fun au A outer s H vs Q E hr h=>?_)
 .obtain⟨n,A,c,r,rfl,_⟩:=h
  rfl
 have hu:(A.deeper (cr "_law_version" (jm yM) s.heap.objs.size f au)).units+1 < cLine:=by have:=hr.units;omega
 obtain⟨n,B,c,r,rfl,I,hn,q⟩:=h;refine⟨_,(jd (kx hu (jX hu (zpv 0) jq (fun _ _=>rfl)) (jR (ja jq (ja (zpv 1) jb))) zP rfl)
   (ji (jB (yR hu (jX hu (zpv 0) jq (fun _ _=>rfl)) (zpv 1) (jR (ja jq (ja (zpv 1) jb))) ⟨rfl,rfl,rfl,rfl⟩)))),?_⟩
 refine jG (σ':=[some (.ref B.o),some (.str r)]) rfl ?_;obtain⟨ks,j1,j2⟩:=I.vs;refine⟨_,rfl,B.o,_,rfl,jhr I.o,_,rfl,sm rfl,fun p hp=>?_⟩;have s1:=jk hp (.tup [.str "row",.str r]);have e1:upd H p (.tup [.str "row",.str r]) p=some (.tup (([.inr "row",.inr r]:List Key).map kV)):=jf;have I1:=I.same s1;generalize upd H p (.tup [.str "row",.str r])=H1 at *;refine⟨B.vs,_,rfl,.t (k:=[.inr "row",.inr r]) (s1 _ _ j1) e1 (jI (by omega)),?_⟩;obtain⟨m2,I2⟩:=I1.setvs (k:=[.inr "row",.inr r]) (v:=.bl true) (s1 _ _ j1) j2;generalize upd H1 B.vs _=H2 at *;have M2:=(MvB.same s1).trans m2;obtain⟨kvs,k1,_,k3⟩:=I2.nw;refine⟨_,rfl,B.o,_,rfl,jfp I2.o,B.nw,rfl,.inl ⟨kvs,.inl k1⟩,_,rfl,_,rfl,sm rfl,fun p hp=>?_⟩;have s3:=jk hp (.tup [.str "row",.str r]);refine⟨_,.k (k:=.inr r) (s3 _ _ k1),?_⟩;have m3:=M2.trans (.same s3)
 cases e:c.ve r with
 | none=>
  rw[(k3 r).1 e];exact q _ _ m3 (I2.same s3) (by unfold Cs.ver;rw[e];exact jL jf (je jE (je jE jr)))
 | some d=>
  obtain⟨u,u1,u2⟩:=(k3 r).2 d e;rw[u1];exact q _ _ m3 (I2.same s3) (by unfold Cs.ver;rw[e];exact u2.mono s3)
theorem jh2{f:ab}{fd:aH}(F:Fun K "_law_source" "_law_source" JE f fd)(gJ:Fn P w K mg base 1 "_law_stand" ["_law_box","_law_x"] Jy)(dM:Fn P w K mg base 2 "_law_spot" ["_law_box","_law_place_here"] Jz)(cq:Fn P w K mg base 14 "_law_kept" ["_law_some","_law_one"] Yc)(df:Fn P w K mg base 1 "_law_version" ["_law_box","_law_r"] Kc)(ed:Fn P w K mg base 1 "_law_entry" ["_law_version_here","_law_spot_here"] zU):FnOk P w K mg base CX0 15 f fd ["_law_box","_law_term_here"] jbY:=by
 have sc:FnScope ["_law_box","_law_term_here","_law_spot_here"] ["_law_box","_law_term_here"] (jm JE):=fQ;refine F.okZ sc (fun vs H Q E h=>?_) (fun au A outer s H vs Q E hr h=>?_)
 .obtain⟨n,m,A,c,t,v,rfl,_⟩:=h
  rfl
 have hu:(A.deeper (cr "_law_source" (jm JE) s.heap.objs.size f au)).units+1 < cLine:=by have:=hr.units;omega
 obtain⟨n,m,B,c,t,v,rfl,I,hn,hv,hm,hg,q⟩:=h;refine⟨_,(jd (jN (jC kh (jp ju (zpv 1) jc (fun _ _=>rfl)) jq (jH _)) (ji (jB (jh gJ hr (ja (zpv 0) (ja (jp ju (zpv 1) jc (fun _ _=>rfl)) jb))))) jJ)
   (jd (jw (i:=2) sc.nd rfl oQ (jh dM hr (ja (zpv 0) (ja (jp ju (zpv 1) jc (fun _ _=>rfl)) jb))))
   (jd (jA (jh cq hr (ja (jX hu (zpv 0) jq (fun _ _=>rfl)) (ja (zpv 2) jb))))
   (ji (jB (jh ed hr (ja (jh df hr (ja (zpv 0) (ja (jp ju (zpv 1) jc (fun _ _=>rfl)) jb))) (ja (zpv 2) jb)))))))),?_⟩
 refine jG (σ':=[some (.ref B.o),some v,none]) rfl ?_;rcases jdT hv with⟨x,a,rfl,rfl,ha⟩ | ⟨r,x,d,a,u,rfl,rfl,ha,nC⟩
 .refine⟨_,rfl,a,_,_,_,rfl,rfl,SqT.of ha,jg (j:=0) rfl,rfl,_,rfl,kO ?_⟩
  exact⟨_,rfl,_,rfl,a,_,_,_,rfl,rfl,SqT.of ha,jg (j:=1) rfl,n,B,c,x,rfl,I,fun v H' s h=>q v H' (.same s) ((I.same s).mono (by omega)) h⟩
 .refine⟨_,rfl,a,_,_,_,rfl,rfl,SqT.of ha,jg (j:=0) rfl,rfl,_,rfl,ku ?_⟩
  refine⟨_,rfl,_,rfl,a,_,_,_,rfl,rfl,SqT.of ha,jg (j:=2) rfl,n,B,c,x,d,u,rfl,I,nC,fun v H1 s1 hv=>?_⟩;refine jG (σ':=[some (.ref B.o),some (.ref a),some v]) rfl ?_;have I1:=I.same s1;have ht:=I1.t 0 (by decide);obtain⟨ds,kvs,l1,_,_,_,_,_,l3⟩:=ht;have hs:=(hg r x d rfl).shw hm;refine⟨_,rfl,B.o,_,rfl,YB I1.o,_,rfl,B.t 0,v,kvs,_,rfl,l1,by omega,hv,⟨_,rfl⟩,hs,?_⟩;obtain⟨m2,I2⟩:=I1.put (c':=(c.stand (.at_ r x d)).2) (i:=0) (by decide) l1 hv hs.1 rfl rfl (fun _=>Iff.rfl) (fun j hj Fy=>jfJ hj Fy rfl);have t2:=I1.tk m2;have hJ:=t2.held hv;have dH:=t2 _ _ (s1 _ _ ha);generalize upd H1 (B.t 0) _=H2 at *;refine⟨_,rfl,_,rfl,a,_,_,_,rfl,rfl,SqT.of dH,jg (j:=1) rfl,n+1,B,_,r,rfl,I2,by omega,fun u H3 m3 I3 nB=>?_⟩;have t3:=I2.tk m3;refine⟨_,rfl,u,v,_,_,rfl,nB,t3.held hJ,fun y H4 s4 h4=>?_⟩;exact q y H4 (((MvB.same s1).trans m2).trans (m3.trans (.same s4))) (I3.same s4) h4
end
end LW
namespace L2
open PySem PySem.Spec PyProof.Rows
variable {X:Cx}{ad:List (ab×Obj)}{s:af}{σ:St}{H:Hp}
theorem Vals.back:∀{xs:List V} {us:List ae} {i:Nat} {u:ae},Vals xs us->us[i]?=some u->∃x,xs[i]?=some x/\RelV x u
 | _,_,_,_,.nil,e=>by simp at e
 | _,_,0,_,.cons r _,e=>by simp at e;subst e;exact⟨_,rfl,r⟩
 | _,_,i+1,_,.cons _ t,e=>by simp only[List.getElem?_cons_succ]at e |-;exact Vals.back t e
open Classical in
theorem jjt(I:Inv X ad σ H s){n:Nat}{A:aL}{d:D}{ds:List D}{x:V}{v:ae}{xs:List V}{its:List ae}(hd:D.depthL ds<=n)(hA:A.units+n < cLine)(hx:Held H d x)(bA:HeldL H ds xs)(rx:RelV x v)(rv:Vals xs its):
  ∃f:ae->Bool,(∀u∈its,oq A s u v (f u))/\its.any f=decide (d∈ds):=by
 have l1:=bA.length
 have l3:=rv.length
 have one:∀(j:Nat) u,its[j]?=some u->∃d' x',ds[j]?=some d'/\Held H d' x'/\RelV x' u:=by
  intro j u e;obtain⟨x',h1,h2⟩:=rv.back e;have hj:j < ds.length:=by
   have:=(bI.mp h1).1;omega
  obtain⟨x'',g1,g2⟩:=bA.get (aK hj);rw[g1]at h1
  cases h1
  exact⟨_,_,aK hj,g2,h2⟩
 refine⟨fun u=>decide (∃x',RelV x' u/\Held H d x'),fun u hu=>?_,?_⟩
 .obtain⟨j,hj,e⟩:=oF.mp hu
  obtain⟨d',x',h1,h2,h3⟩:=one j u (bI.mpr ⟨hj,e⟩)
  have key:=jct I n A d' d x' x u v (by have:=D.depthL_get h1;omega) hA h2 hx h3 rx
  have:dEq d' d=decide (∃x',RelV x' u/\Held H d x'):=by
   rw[jcy];by_cases h:d'=d
   .subst h
    rw[MR rfl,MR ⟨x',h3,h2⟩]
   .rw[MS h,MS]
    rintro⟨x2,g1,g2⟩;rw[RelV.inj g1 h3]at g2;exact h (JU h2 g2)
  rw[this]at key
  exact key
 .apply lO.mpr
  rw[mO,decide_eq_true_iff]
  constructor
  .rintro⟨u,hu,h⟩
   obtain⟨x2,g1,g2⟩:=MQ h
   obtain⟨j,hj,e⟩:=oF.mp hu
   obtain⟨d',x',h1,h2,h3⟩:=one j u (bI.mpr ⟨hj,e⟩)
   rw[RelV.inj g1 h3]at g2
   rw[JU g2 h2]
   exact DK.mpr ⟨j,h1⟩
  .intro h
   obtain⟨j,hj⟩:=DK.mp h
   obtain⟨x',g1,g2⟩:=bA.get hj
   obtain⟨u,g3,g4⟩:=rv.get g1
   exact⟨u,DK.mpr ⟨j,g3⟩,MR ⟨x',g4,g2⟩⟩
variable {X:Cx}
theorem jgm(n:Nat)(hu:X.A.units+1+n < cLine):OpR X (dw .In) (fun x y H Q=>∃p xs d ds,y=.ref p/\H p=some (.tup xs)/\D.depthL ds<=n/\Held H d x/\HeldL H ds xs/\Q (.bl (decide (d∈ds))) H):=by
 intro ad s σ H x y v u Q I rx ry h;obtain⟨p,xs,d,ds,rfl,hp,hd,hx,bA,q⟩:=h
 cases ry
 obtain⟨its,r,pl,hz⟩:=I.tuple (SqT.of hp);obtain⟨f,h1,h2⟩:=jjt I (A:=X.A.in1) hd (by show X.A.units+1+n < cLine;exact hu) hx bA rx r;refine SeqAt.in_tupleAt f pl (fun w hw=>h1 w (by simpa using hw)) ⟨.bl _,H,I,rfl,?_⟩;rw[show its.toArray.any f=its.any f by simp,h2];exact q
end L2
namespace LW
open PySem L2
abbrev JK:aA:=top 49
abbrev Yi:aA:=top 50
def Cs.facing(c:Cs):Bd->D
 | .is x=>p2 (c.num x)
 | .row q=>c.ver q
def agD(c:Cs)(r way:Str)(b:Bd)(k:Int):D:=.tup [c.ver r,.str way,c.facing b,.int k]
def Kd:Sp:=fun vs H Q _=>∃(n:Nat) (A:BA) (c:Cs) (t u:Str) (td ud:Int) (r way:Str) (b:Bd) (k:Int) (v:V),vs=[.ref A.o,v]/\BxAt n A c H/\n<=970/\Held H (Cl.each t td u ud r way b k).toD v/\∀v H',MvB A H H'->BxAt (n+2) A c H'->Held H' (agD c r way b k) v->Q v H'
def jb3:Sp:=fun vs H Q _=>∃(c:Cs) (r way:Str) (b:Bd) (k:Int) (s:P2) (v u:V),vs=[v,u,.bl true]/\Held H (agD c r way b k) v/\Held H (p2 s) u/\(∀q,b=.row q->Ver (c.ver q))/\(∀x,b=.is x->∃es,(c.num x).1=.tup es)/\∀v H',Same H H'->Held H' (Ko (qY (c.ver r) way (c.bnd b s) k s)) v->Q v H'
theorem Ver.shape{v:D}(h:Ver v):∃a e,v=.tup [.str a,e]/\(.str a:D)∈[D.str "row",.str "lost",.str "put"]:=by
 cases h with
 | row h=>exact⟨_,_,rfl,by simp⟩
 | lost h=>exact⟨_,_,rfl,by simp⟩
 | put h=>exact⟨_,_,rfl,by simp⟩
theorem jdR(v:D)(b s:P2)(k:Int):Ko (kJ (mor b k) (j7 v s))=kJ (j7 v s) (mor b (k - 1)):=by
 show D.tup [_,_,D.int (-1 - (0 - (b.2+k)))]=D.tup [_,_,D.int (b.2+(k - 1) - 0)];rw[show -1 - (0 - (b.2+k))=b.2+(k - 1) - 0 by omega];rfl
theorem jdQ(v:D)(b s:P2)(k:Int):Ko (kJ (j7 v s) (mor b k))=kJ (mor b (k+1)) (j7 v s):=by
 show D.tup [_,_,D.int (-1 - (b.2+k - 0))]=D.tup [_,_,D.int (0 - (b.2+(k+1)))];rw[show -1 - (b.2+k - 0)=0 - (b.2+(k+1)) by omega];rfl
section
variable {P:az}{w:aw}{K:aq}{mg:Str->Option ae}{base:aj}
theorem jbo{f:ab}{fd:aH}(F:Fun K "_law_against" "_law_against" JK f fd)(df:Fn P w K mg base 1 "_law_version" ["_law_box","_law_r"] Kc)(gJ:Fn P w K mg base 1 "_law_stand" ["_law_box","_law_x"] Jy):FnOk P w K mg base CX0 2 f fd ["_law_box","_law_claim_here"] Kd:=by
 have sc:FnScope ["_law_box","_law_claim_here"] ["_law_box","_law_claim_here"] (jm JK):=fQ;refine F.okZ sc (fun vs H Q E h=>?_) (fun au A outer s H vs Q E hr h=>?_)
 .obtain⟨n,A,c,t,u,td,ud,r,way,b,k,v,rfl,_⟩:=h
  rfl
 obtain⟨n,B,c,t,u,td,ud,r,way,b,k,v,rfl,I,hn,hv,q⟩:=h;refine⟨_,(jd (jN (jC kh (jp ju (jp ju (zpv 1) jc (fun _ _=>rfl)) jc (fun _ _=>rfl)) jq (jH _)) (ji (jB (jR (ja (jh df hr (ja (zpv 0) (ja (jp ju (zpv 1) jc (fun _ _=>rfl)) jb))) (ja (jp ju (zpv 1) jc (fun _ _=>rfl)) (ja (jh gJ hr (ja (zpv 0) (ja (jp ju (jp ju (zpv 1) jc (fun _ _=>rfl)) jc (fun _ _=>rfl)) jb))) (ja (jp ju (zpv 1) jc (fun _ _=>rfl)) jb))))))) jJ)
   (ji (jB (jR (ja (jh df hr (ja (zpv 0) (ja (jp ju (zpv 1) jc (fun _ _=>rfl)) jb))) (ja (jp ju (zpv 1) jc (fun _ _=>rfl)) (ja (jh df hr (ja (zpv 0) (ja (jp ju (jp ju (zpv 1) jc (fun _ _=>rfl)) jc (fun _ _=>rfl)) jb))) (ja (jp ju (zpv 1) jc (fun _ _=>rfl)) jb)))))))),?_⟩
 refine jG (σ':=[some (.ref B.o),some v]) rfl ?_;obtain⟨t,va,vb,x,rfl,ht,_,_,hb⟩:=yg hv;have fin:∀{y z:V} {G:Hp},MvB B H G->BxAt (n+2) B c G->Held G (c.ver r) y->Held G (c.facing b) z->∀o,G o=none->Q (.ref o) (upd G o (.tup [y,.str way,z,.int k])):=fun {y z G} m J hy hz o ho=>by
  have s5:=jk ho (.tup [y,.str way,z,.int k]);exact q _ _ (m.trans (.same s5)) (J.same s5) (jL jf (je (hy.mono s5) (je jE (je (hz.mono s5) (je jO jr)))))
 rcases b with x' | r'
 .refine⟨_,rfl,t,_,_,_,rfl,rfl,SqT.of ht,jg (j:=5) rfl,x,_,_,_,rfl,rfl,SqT.of hb,jg (j:=0) rfl,rfl,_,rfl,kO ?_⟩
  refine⟨_,rfl,_,rfl,t,_,_,_,rfl,rfl,SqT.of ht,jg (j:=3) rfl,n,B,c,r,rfl,I,by omega,fun y H1 m1 I1 hy=>?_⟩;have t1:=I.tk m1;refine⟨_,rfl,t,_,_,_,rfl,rfl,SqT.of (t1 _ _ ht),jg (j:=4) rfl,_,rfl,_,rfl,t,_,_,_,rfl,rfl,SqT.of (t1 _ _ ht),jg (j:=5) rfl,x,_,_,_,rfl,rfl,SqT.of (t1 _ _ hb),jg (j:=1) rfl,n+1,B,c,x',rfl,I1,fun z H2 s2 hz=>?_⟩;exact⟨_,rfl,t,_,_,_,rfl,rfl,SqT.of (s2 _ _ (t1 _ _ ht)),jg (j:=6) rfl,sm rfl,fun o ho=>fin (m1.trans (.same s2)) ((I1.same s2).mono (by omega)) (hy.mono s2) hz o ho⟩
 .refine⟨_,rfl,t,_,_,_,rfl,rfl,SqT.of ht,jg (j:=5) rfl,x,_,_,_,rfl,rfl,SqT.of hb,jg (j:=0) rfl,rfl,_,rfl,ku ?_⟩
  refine⟨_,rfl,_,rfl,t,_,_,_,rfl,rfl,SqT.of ht,jg (j:=3) rfl,n,B,c,r,rfl,I,by omega,fun y H1 m1 I1 hy=>?_⟩;have t1:=I.tk m1;refine⟨_,rfl,t,_,_,_,rfl,rfl,SqT.of (t1 _ _ ht),jg (j:=4) rfl,_,rfl,_,rfl,t,_,_,_,rfl,rfl,SqT.of (t1 _ _ ht),jg (j:=5) rfl,x,_,_,_,rfl,rfl,SqT.of (t1 _ _ hb),jg (j:=1) rfl,n+1,B,c,r',rfl,I1,by omega,fun z H2 m2 I2 hz=>?_⟩;have t2:=I1.tk m2;exact⟨_,rfl,t,_,_,_,rfl,rfl,SqT.of (t2 _ _ (t1 _ _ ht)),jg (j:=6) rfl,sm rfl,fun o ho=>fin (m1.trans m2) I2 (t2.held hy) hz o ho⟩
theorem jeY{f:ab}{fd:aH}(F:Fun K "_law_body" "_law_body" Yi f fd)(B:Free0 mg)(ed:Fn P w K mg base 1 "_law_entry" ["_law_version_here","_law_spot_here"] zU)(cV:Fn P w K mg base 1 "_law_more" ["_law_one","_law_more_here"] qw)(cM:Fn P w K mg base 1 "_law_tie" ["_law_one","_law_other"] zD):FnOk P w K mg base CX0 2 f fd ["_law_body_here","_law_spot_here","_law_about"] jb3:=by
 have sc:FnScope ["_law_body_here","_law_spot_here","_law_about","_law_here","_law_there"] ["_law_body_here","_law_spot_here","_law_about"] (jm Yi):=fQ;refine F.okZ sc (fun vs H Q E h=>?_) (fun au A outer s H vs Q E hr h=>?_)
 .obtain⟨c,r,way,b,k,s,v,u,rfl,_⟩:=h
  rfl
 have fk:(A.deeper (cr "_law_body" (jm Yi) s.heap.objs.size f au)).units+1+8 < cLine:=by have:=hr.units;omega
 obtain⟨c,r,way,b,k,p,v,u,rfl,hv,hu,hb,cB,q⟩:=h;refine⟨_,(jd (jw (i:=3) sc.nd rfl oQ (jh ed hr (ja (jp ju (zpv 0) jc (fun _ _=>rfl)) (ja (zpv 1) jb))))
   (jd (jw (i:=4) sc.nd rfl oQ (jp ju (zpv 0) jc (fun _ _=>rfl)))
   (jd (Js (jN (jC (jgm 8 fk) (jp ju (zpv 4) jc (fun _ _=>rfl)) (jR (ja jq (ja jq (ja jq jb)))) rfl) (ji (jw (i:=4) sc.nd rfl oQ (jh ed hr (ja (zpv 4) (ja (zpv 1) jb))))) jJ))
   (jd (jN (jC jhk (zR kh (jp ju (zpv 0) jc (fun _ _=>rfl)) jq (jH _)) (zpv 2) (jH _)) (ji (jB (jh cM hr (ja (jh cV hr (ja (zpv 4) (ja (js qi (jp ju (zpv 0) jc (fun _ _=>rfl)) (ym qL (by rfl) B.int_ Jq (ja (zpv 2) jb))) jb))) (ja (zpv 3) jb))))) jJ)
   (ji (jB (jh cM hr (ja (zpv 3) (ja (jh cV hr (ja (zpv 4) (ja (js qH (jp ju (zpv 0) jc (fun _ _=>rfl)) (ym qL (by rfl) B.int_ Jq (ja (zpv 2) jb))) jb))) jb))))))))),?_⟩
 refine jG (σ':=[some v,some u,some (.bl true),none,none]) rfl ?_;obtain⟨t,x1,x2,x3,x4,rfl,ht,g1,g2,g3,g4⟩:=yf hv
 cases jv g2
 cases kc g4
 refine⟨_,rfl,t,_,_,_,rfl,rfl,SqT.of ht,jg (j:=0) rfl,_,rfl,x1,u,_,_,rfl,g1,hu,fun y H1 s1 hy=>?_⟩;refine gQ ?_;refine⟨_,rfl,t,_,_,_,rfl,rfl,SqT.of (s1 _ _ ht),jg (j:=2) rfl,?_⟩;refine gQ ?_;have l_:=s1 _ _ ht;have EQ:=hu.mono s1;have pM:=g3.mono s1;refine⟨fun σ' G=>∃z,σ'=[some (.ref t),some u,some (.bl true),some y,some z]/\Same H1 G/\Held G (p2 (c.bnd b p)) z,?_,?_⟩
 .have xL:∀{G:Hp},HeldL G [.str "row",.str "lost",.str "put"] [.str "row",.str "lost",.str "put"]:=je jE (je jE (je jE jr))
  rcases b with x | r'
  .obtain⟨es,he⟩:=cB x rfl
   obtain⟨t3,y3,rfl,h3,hs⟩:=Ji pM;refine⟨_,rfl,t3,_,_,_,rfl,rfl,SqT.of h3,jg (j:=0) rfl,sm rfl,fun o ho=>?_⟩;have s2:=jk ho (.tup [.str "row",.str "lost",.str "put"]);refine⟨o,_,_,[.str "row",.str "lost",.str "put"],rfl,jf,(by show max 0 (max 0 (max 0 0))<=8;decide),hs.mono s2,xL,_,rfl,?_⟩;rw[MS (by rw[he];simp)];exact ku ⟨_,rfl,s2,pM.mono s2⟩
  .obtain⟨a,e,ea,eX⟩:=(hb r' rfl).shape
   have GQ:Held H1 (.tup [.str a,e]) x3:=by rw[<- ea];exact pM
   obtain⟨t3,y3,y4,rfl,h3,hs,_⟩:=qv GQ
   cases jv hs
   refine⟨_,rfl,t3,_,_,_,rfl,rfl,SqT.of h3,jg (j:=0) rfl,sm rfl,fun o ho=>?_⟩;have s2:=jk ho (.tup [.str "row",.str "lost",.str "put"]);refine⟨o,_,.str a,[.str "row",.str "lost",.str "put"],rfl,jf,(by show max 0 (max 0 (max 0 0))<=8;decide),jE,xL,_,rfl,?_⟩;rw[MR eX];exact kO ⟨_,rfl,_,rfl,_,u,c.ver r',p,rfl,pM.mono s2,EQ.mono s2,fun z G sG hz=>⟨z,rfl,s2.trans sG,hz⟩⟩
 .rintro σ' G ⟨z,rfl,sG,hz⟩
  have iO:=sG _ _ l_;have Aw:=hy.mono sG;refine⟨_,rfl,t,_,_,_,rfl,rfl,SqT.of iO,jg (j:=1) rfl,rfl,_,rfl,rfl,_,rfl,?_⟩;unfold qY at q;by_cases hw:way = ">="
  .rw[MU hw]at q
   rw[MR (MW V.str hw)];refine ku ?_;refine⟨_,rfl,_,rfl,_,rfl,t,_,_,_,rfl,rfl,SqT.of iO,jg (j:=3) rfl,_,rfl,.inr ⟨true,rfl,k,1,rfl,rfl,z,k - 1,_,rfl,hz,fun v G1 s2 hv=>⟨y,v,_,_,rfl,Aw.mono s2,hv,fun x G2 s3 hx=>q x G2 (s1.trans (sG.trans (s2.trans s3))) (by rw[jdR];exact hx)⟩⟩⟩
  .rw[MT hw]at q
   rw[MS (fun e=>hw (V.str.inj e))];refine kO ?_;refine⟨_,rfl,_,rfl,t,_,_,_,rfl,rfl,SqT.of iO,jg (j:=3) rfl,_,rfl,.inr ⟨true,rfl,k,1,rfl,rfl,z,k+1,_,rfl,hz,fun v G1 s2 hv=>⟨_,rfl,v,y,_,_,rfl,hv,Aw.mono s2,fun x G2 s3 hx=>q x G2 (s1.trans (sG.trans (s2.trans s3))) (by rw[jdQ];exact hx)⟩⟩⟩
end
abbrev Yh:aA:=top 51
def NmG(x:Str):Prop:=x = ""\/Wd x
def TmG:Tm->Prop
 | .is x=>NmG x
 | .at_ r x d=>Wd r/\NmG x/\d.natAbs<=10 ^ 20
def BdG:Bd->Prop
 | .is x=>NmG x
 | .row q=>Wd q
def ClG:Cl->Prop
 | .least a b k=>TmG a/\TmG b/\k.natAbs<=10 ^ 19
 | .each t td u ud r _ b k=>NmG t/\td.natAbs<=10 ^ 20/\NmG u/\ud.natAbs<=10 ^ 20/\Wd r/\BdG b/\k.natAbs<=10 ^ 19
 | .rise t td u ud r=>NmG t/\td.natAbs<=10 ^ 20/\NmG u/\ud.natAbs<=10 ^ 20/\Wd r
def Gs(m:Nat)(p:P2):Prop:=Src m p.1/\p.2.natAbs<=m * 10 ^ 20
theorem Gs.gp{m:Nat}{p:P2}(h:Gs m p)(hm:m<=90):Gp m p:=⟨h.1,oB h.2 (oB (oy _ hm) (by decide))⟩
theorem Gs.mono{m k:Nat}{p:P2}(h:Gs m p)(hm:m<=k):Gs k p:=⟨h.1.mono hm,aG h.2 (oy _ hm)⟩
theorem Gs.mor{m:Nat}{p:P2}{d:Int}(h:Gs m p)(hd:d.natAbs<=10 ^ 20):Gs (m+1) (mor p d):=⟨h.1.mono (cO _),by
 show (p.2+d).natAbs<=(m+1) * 10 ^ 20;have:=h.2;omega⟩
structure St(m:Nat)(c:Cs):Prop where
 nu:∀x p,c.nu x=some p->Gs m p
 ve:∀r d,c.ve r=some d->Ver d
theorem St.num{m:Nat}{c:Cs}(S:St m c){x:Str}(h:NmG x):Gs m (c.num x):=by
 unfold Cs.num;split
 .exact⟨.nought,bF _⟩
 .rename_i n
  cases e:c.nu x with
  | none=>exact⟨.start (h.resolve_left n),bF _⟩
  | some p=>exact S.nu x p e
theorem St.spot{m:Nat}{c:Cs}(S:St m c){x:Str}{d:Int}(h:NmG x)(hd:d.natAbs<=10 ^ 20):Gs (m+1) (c.spot x d):=(S.num h).mor hd
theorem St.ver{m:Nat}{c:Cs}(S:St m c){r:Str}(h:Wd r):Ver (c.ver r):=by
 unfold Cs.ver
 cases e:c.ve r with
 | none=>exact .row h
 | some d=>exact S.ve r d e
theorem St.stand{m:Nat}{c:Cs}(S:St m c)(hm:m<=88){t:Tm}(h:TmG t):Gs (m+1) (c.stand t).1:=by
 cases t with
 | is x=>exact (S.num h).mono (cO _)
 | at_ r x d=>exact⟨.ent (S.ver h.1) (S.num h.2.1).1 (((S.spot h.2.1 h.2.2).gp (by omega)).2),bF _⟩
theorem K3(c:Cs)(t:Tm):(c.stand t).2.nu=c.nu:=by cases t <;> rfl
theorem K2(c:Cs)(t:Tm):(c.stand t).2.ve=c.ve:=by cases t <;> rfl
theorem St.congr{m:Nat}{c c':Cs}(S:St m c)(h1:c'.nu=c.nu)(h2:c'.ve=c.ve):St m c':=⟨by rw[h1];exact S.nu,by rw[h2];exact S.ve⟩
theorem Ka(c:Cs)(a b:Tm):((c.stand a).2.stand b).1=(c.stand b).1:=by cases a <;> cases b <;> rfl
theorem KC{m:Nat}{d:D}(h:Src m d):∃es,d=.tup es:=by cases h <;> exact⟨_,rfl⟩
def jb1:Sp:=fun vs H Q _=>∃(n m:Nat) (A:BA) (c:Cs) (k:Cl) (v:V),vs=[.ref A.o,v]/\BxAt n A c H/\n<=950/\St m c/\m<=82/\ClG k/\Held H k.toD v/\∀H',MvB A H H'->BxAt (n+8) A (c.know k) H'->Q .non H'
theorem je1{l:List D}{p q x:D}:x∈l++[p]++[q]↔x∈l++[q]++[p]:=by
 simp only[bx,aM,or_assoc,or_comm (a:=x=p)]
theorem KU(c:Cs)(a b:Tm):(∀x,x∈((c.stand a).2.stand b).2.l 2↔x∈((c.stand b).2.stand a).2.l 2)/\(∀j,j≠2->((c.stand a).2.stand b).2.l j=c.l j):=by
 refine⟨fun x=>?_,fun j hj=>?_⟩
 .cases a <;> cases b <;> first | exact Iff.rfl | exact je1
 .cases a <;> cases b <;> first | rfl | exact MT hj | exact (MT hj).trans (MT hj)
theorem yt(c:Cs)(a b:Tm)(k:Int):(c.know (.least a b k)).nu=((c.stand a).2.stand b).2.nu/\(c.know (.least a b k)).ve=((c.stand a).2.stand b).2.ve/\(∀x,x∈tOf ((c.stand a).2.stand b).2 2++[kJ (mor (c.stand b).1 k) (c.stand a).1]↔x∈tOf (c.know (.least a b k)) 2)/\∀j,j < 3->j≠2->∀x,x∈tOf ((c.stand a).2.stand b).2 j↔x∈tOf (c.know (.least a b k)) j:=by
 refine⟨by cases a <;> cases b <;> rfl,by cases a <;> cases b <;> rfl,fun x=>?_,fun j hj h2 x=>?_⟩
 .show x∈((c.stand a).2.stand b).2.l 1++[_]↔x∈((c.stand b).2.stand a).2.l 1++[kJ (mor (c.stand b).1 k) ((c.stand b).2.stand a).1]
  rw[(KU c a b).2 1 (by decide),(KU c b a).2 1 (by decide),Ka]
 .have:j=0\/j=1:=by omega
  rcases this with rfl | rfl
  .exact (KU c a b).1 x
  .show x∈(((c.stand a).2.stand b).2.l 4++((c.stand a).2.stand b).2.l 5).map jcV↔x∈(((c.stand b).2.stand a).2.l 4++((c.stand b).2.stand a).2.l 5).map jcV
   rw[(KU c a b).2 4 (by decide),(KU c b a).2 4 (by decide),(KU c a b).2 5 (by decide),(KU c b a).2 5 (by decide)]
theorem jcg{f:D->D}{a b:List D}{t x:D}:x∈(a++b).map f++[f t]↔x∈((a++[t])++b).map f:=by
 simp only[bq,bg,gg,bx,aM,or_assoc,or_comm (a:=x=f t)]
theorem jgL{f:D->D}{a b:List D}{t x:D}:x∈(a++b).map f++[f t]↔x∈(a++(b++[t])).map f:=by
 simp only[bq,bg,gg,bx,aM,or_assoc]
theorem Zp{j i:Nat}(hj:j < 3)(h:j≠i):(i=0->j=1\/j=2)/\(i=1->j=0\/j=2):=by omega
theorem Kb(c:Cs)(d:D)(j:Nat)(hj:j < 3)(h:j≠0)(x:D):x∈tOf c j↔x∈tOf (c.add 2 [d]) j:=by
 rcases (Zp hj h).1 rfl with rfl | rfl <;> exact Iff.rfl
theorem Y6(c:Cs)(x:Str)(d:Int)(y:Str)(e:Int)(r way:Str)(b:Bd)(k:Int):(∀z,z∈tOf (c.add 2 [p2 (c.spot x d)]) 1++[p2 (c.spot y e)]↔z∈tOf (c.know (.each x d y e r way b k)) 1)/\∀j,j < 3->j≠1->∀z,z∈tOf (c.add 2 [p2 (c.spot x d)]) j↔z∈tOf (c.know (.each x d y e r way b k)) j:=by
 refine⟨fun z=>?_,fun j hj h z=>?_⟩
 .cases b with
  | is q=>exact jcg (f:=jcV) (a:=c.l 4) (b:=c.l 5) (t:=.tup [p2 (c.spot x d),p2 (c.spot y e),((c.add 2 [p2 (c.spot x d)]).body r way (.is q) k).1])
  | row q=>exact jcg (f:=jcV) (a:=c.l 4) (b:=c.l 5) (t:=.tup [p2 (c.spot x d),p2 (c.spot y e),((c.add 2 [p2 (c.spot x d)]).body r way (.row q) k).1])
 .rcases (Zp hj h).2 rfl with rfl | rfl <;> cases b <;> exact Iff.rfl
theorem Y5(c:Cs)(x:Str)(d:Int)(y:Str)(e:Int)(r:Str):(∀z,z∈tOf (c.add 2 [p2 (c.spot x d)]) 1++[p2 (c.spot y e)]↔z∈tOf (c.know (.rise x d y e r)) 1)/\∀j,j < 3->j≠1->∀z,z∈tOf (c.add 2 [p2 (c.spot x d)]) j↔z∈tOf (c.know (.rise x d y e r)) j:=by
 refine⟨fun z=>?_,fun j hj h z=>?_⟩
 .exact jgL (f:=jcV) (a:=c.l 4) (b:=c.l 5) (t:=.tup [p2 (c.spot x d),p2 (c.spot y e),c.ver r])
 .rcases (Zp hj h).2 rfl with rfl | rfl <;> exact Iff.rfl
section
variable {P:az}{w:aw}{K:aq}{mg:Str->Option ae}{base:aj}
theorem jeU{f:ab}{fd:aH}(F:Fun K "_law_known" "_law_known" Yh f fd)(eY:Fn P w K mg base 15 "_law_source" ["_law_box","_law_term_here"] jbY)(cq:Fn P w K mg base 14 "_law_kept" ["_law_some","_law_one"] Yc)(cM:Fn P w K mg base 1 "_law_tie" ["_law_one","_law_other"] zD)(cV:Fn P w K mg base 1 "_law_more" ["_law_one","_law_more_here"] qw)(dM:Fn P w K mg base 2 "_law_spot" ["_law_box","_law_place_here"] Jz)(mC:Fn P w K mg base 2 "_law_against" ["_law_box","_law_claim_here"] Kd)(df:Fn P w K mg base 1 "_law_version" ["_law_box","_law_r"] Kc):FnOk P w K mg base CX0 16 f fd ["_law_box","_law_claim_here"] jb1:=by
 have sc:FnScope ["_law_box","_law_claim_here","_law_a","_law_b","_law_t","_law_u"] ["_law_box","_law_claim_here"] (jm Yh):=fQ;refine F.okZ sc (fun vs H Q E h=>?_) (fun au A outer s H vs Q E hr h=>?_)
 .obtain⟨n,m,A,c,k,v,rfl,_⟩:=h
  rfl
 have hu:(A.deeper (cr "_law_known" (jm Yh) s.heap.objs.size f au)).units+1 < cLine:=by have:=hr.units;omega
 obtain⟨n,m,B,c,k,v,rfl,I,hn,S,hm,hG,hv,q⟩:=h;refine⟨_,(jd (jN (jC kh (jp ju (zpv 1) jc (fun _ _=>rfl)) jq (jH _)) (jd (jw (i:=2) sc.nd rfl oQ (jh eY hr (ja (zpv 0) (ja (jp ju (zpv 1) jc (fun _ _=>rfl)) jb))))
   (jd (jw (i:=3) sc.nd rfl oQ (jh eY hr (ja (zpv 0) (ja (jp ju (zpv 1) jc (fun _ _=>rfl)) jb))))
   (jd (jA (jh cq hr (ja (jX hu (zpv 0) jq (fun _ _=>rfl)) (ja (jh cM hr (ja (jh cV hr (ja (zpv 3) (ja (jp ju (zpv 1) jc (fun _ _=>rfl)) jb))) (ja (zpv 2) jb))) jb))))
   (ji zQ)))) jJ)
   (jd (jw (i:=4) sc.nd rfl oQ (jh dM hr (ja (zpv 0) (ja (jp ju (zpv 1) jc (fun _ _=>rfl)) jb))))
   (jd (jw (i:=5) sc.nd rfl oQ (jh dM hr (ja (zpv 0) (ja (jp ju (zpv 1) jc (fun _ _=>rfl)) jb))))
   (jd (jA (jh cq hr (ja (jX hu (zpv 0) jq (fun _ _=>rfl)) (ja (zpv 4) jb))))
   (jd (jA (jh cq hr (ja (jX hu (zpv 0) jq (fun _ _=>rfl)) (ja (zpv 5) jb))))
   (ji (jN (jC kh (jp ju (zpv 1) jc (fun _ _=>rfl)) jq (jH _)) (ji (jA (kg bS dj dh j0 (jX hu (zpv 0) jq (fun _ _=>rfl)) (ja (jR (ja (zpv 4) (ja (zpv 5) (ja (jh mC hr (ja (zpv 0) (ja (zpv 1) jb))) jb)))) jb)))) (ji (jA (kg bS dj dh j0 (jX hu (zpv 0) jq (fun _ _=>rfl)) (ja (jR (ja (zpv 4) (ja (zpv 5) (ja (jh df hr (ja (zpv 0) (ja (jp ju (zpv 1) jc (fun _ _=>rfl)) jb))) jb)))) jb))))))))))),?_⟩
 refine jG (σ':=[some (.ref B.o),some v,none,none,none,none]) rfl ?_
 try dsimp only[y9]
 refine ji3 ?_;intro _ _ _ _ _;rcases k with⟨a,b,k⟩ | ⟨x,d,y,e,r,way,b,k⟩ | ⟨x,d,y,e,r⟩
 .obtain⟨g1,g2,g3⟩:=hG
  obtain⟨t,va,vb,rfl,ht,ha,hb⟩:=zn hv;refine⟨_,rfl,t,_,_,_,rfl,rfl,SqT.of ht,jg (j:=0) rfl,rfl,_,rfl,kO ?_⟩;have nY:∀{c':Cs} {u:Tm},c'.nu=c.nu->c'.ve=c.ve->TmG u->∀r x d,u=.at_ r x d->Gp (m+1) (c'.spot x d):=fun h1 h2 hu r x d eu=>by
   subst eu;exact ((S.congr h1 h2).spot hu.2.1 hu.2.2).gp (by omega)
  refine⟨_,rfl,_,rfl,t,_,_,_,rfl,rfl,SqT.of ht,jg (j:=1) rfl,n,m+1,B,c,a,va,rfl,I,by omega,ha,by omega,nY rfl rfl g1,fun ya H1 m1 I1 uI=>?_⟩;refine gQ ?_;have t1:=I.tk m1;refine⟨_,rfl,_,rfl,t,_,_,_,rfl,rfl,SqT.of (t1 _ _ ht),jg (j:=2) rfl,n+2,m+1,B,_,b,vb,rfl,I1,by omega,t1.held hb,by omega,nY (K3 c a) (K2 c a) g2,fun yb H2 m2 I2 oY=>?_⟩;refine gQ ?_;have t2:=I1.tk m2;have uH:=t2.held uI;rw[Ka]at oY;refine⟨_,rfl,B.o,_,rfl,yQ I2.o,_,rfl,_,rfl,t,_,_,_,rfl,rfl,SqT.of (t2 _ _ (t1 _ _ ht)),jg (j:=3) rfl,yb,k,_,rfl,oY,fun z H3 s3 hz=>⟨_,rfl,z,ya,_,_,rfl,hz,uH.mono s3,fun x H4 s4 hx=>?_⟩⟩;have I4:=I2.same (s3.trans s4);obtain⟨ds,kvs,l1,_,_,_,_,_,l3⟩:=I4.t 2 (by decide);have hs:=qo (((S.stand (by omega) g2).mor (d:=k) (by omega)).gp (by omega)) (((S.stand (by omega) g1).mono (cO _)).gp (by omega)) (by omega);obtain⟨m5,I5⟩:=I4.put (c':=c.know (.least a b k)) (i:=2) (by decide) l1 hx hs.1 (yt c a b k).1 (yt c a b k).2.1 (yt c a b k).2.2.1 (yt c a b k).2.2.2;refine⟨B.t 2,x,kvs,_,rfl,l1,by omega,hx,⟨_,rfl⟩,hs,?_⟩;exact q _ ((m1.trans m2).trans ((MvB.same (s3.trans s4)).trans m5)) (I5.mono (by omega))
 .obtain⟨g1,g2,g3,g4,g5,g6,g7⟩:=hG
  obtain⟨t,va,vb,vc,rfl,ht,ha,hb,hc⟩:=yg hv;refine⟨_,rfl,t,_,_,_,rfl,rfl,SqT.of ht,jg (j:=0) rfl,rfl,_,rfl,ku ?_⟩;refine⟨_,rfl,_,rfl,t,_,_,_,rfl,rfl,SqT.of ht,jg (j:=1) rfl,n,B,c,x,d,_,rfl,I,kI ha,fun sp H1 s1 aV=>?_⟩;refine gQ ?_;refine⟨_,rfl,_,rfl,t,_,_,_,rfl,rfl,SqT.of (s1 _ _ ht),jg (j:=2) rfl,n,B,c,y,e,_,rfl,I.same s1,kI (s1 _ _ hb),fun su H2 s2 dF=>?_⟩;refine gQ ?_;have s3:=s1.trans s2;have I2:=I.same s3;have dG:=aV.mono s2;obtain⟨ds,kvs,l1,_,_,_,_,_,l3⟩:=I2.t 0 (by decide);have w1:=((S.spot g1 g2).gp (by omega)).shw (by omega);have w2:=((S.spot g3 g4).gp (by omega)).shw (by omega);obtain⟨m3,I3⟩:=I2.put (c':=c.add 2 [p2 (c.spot x d)]) (i:=0) (by decide) l1 dG w1.1 rfl rfl (fun _=>Iff.rfl) (Kb c _);refine⟨_,rfl,B.o,_,rfl,YB I2.o,_,rfl,B.t 0,sp,kvs,_,rfl,l1,by omega,dG,⟨_,rfl⟩,w1,?_⟩;have t3:=I2.tk m3;generalize upd H2 (B.t 0) _=H3 at *;have nE:=t3.held dF;have gB:=t3 _ _ (s3 _ _ ht);have iM:=t3.held (hv.mono s3);obtain⟨Hi,dR,l4,_,_,_,_,_,l6⟩:=I3.t 1 (by decide);obtain⟨m4,I4⟩:=I3.put (c':=c.know (.each x d y e r way b k)) (i:=1) (by decide) l4 nE w2.1 (by cases b <;> rfl) (by cases b <;> rfl) (Y6 c x d y e r way b k).1 (Y6 c x d y e r way b k).2;refine⟨_,rfl,B.o,_,rfl,jhs I3.o,_,rfl,B.t 1,su,dR,_,rfl,l4,by omega,nE,⟨_,rfl⟩,w2,?_⟩;have t4:=I3.tk m4;generalize upd H3 (B.t 1) _=H4 at *;have gz:=t4 _ _ gB;refine⟨_,rfl,t,_,_,_,rfl,rfl,SqT.of gz,jg (j:=0) rfl,rfl,_,rfl,kO ?_⟩;obtain⟨ls,l7,l8⟩:=I4.l 0 (by decide);refine⟨_,rfl,B.o,_,rfl,jjf I4.o,.inl ⟨rfl,_,SqL.of l7⟩,_,rfl,_,rfl,_,rfl,_,rfl,n+1+1,B,_,x,y,d,e,r,way,b,k,_,rfl,I4,by omega,t4.held iM,fun bo H5 m5 I5 cU=>⟨sm rfl,fun p hp=>?_⟩⟩;have s6:=jk hp (.tup [sp,su,bo]);have I6:=I5.same s6;obtain⟨zs,l9,eE⟩:=I6.l 0 (by decide);obtain⟨m7,I7⟩:=I6.addl (i:=0) (v:=.ref p) (by decide) l9 eE;exact⟨B.l 0,zs,_,rfl,rfl,l9,jI (by omega),q _ (((MvB.same s3).trans m3).trans (m4.trans (m5.trans ((MvB.same s6).trans m7)))) (I7.mono (by omega))⟩
 .obtain⟨g1,g2,g3,g4,g5⟩:=hG
  obtain⟨t,va,vb,rfl,ht,ha,hb⟩:=JL hv;refine⟨_,rfl,t,_,_,_,rfl,rfl,SqT.of ht,jg (j:=0) rfl,rfl,_,rfl,ku ?_⟩;refine⟨_,rfl,_,rfl,t,_,_,_,rfl,rfl,SqT.of ht,jg (j:=1) rfl,n,B,c,x,d,_,rfl,I,kI ha,fun sp H1 s1 aV=>?_⟩;refine gQ ?_;refine⟨_,rfl,_,rfl,t,_,_,_,rfl,rfl,SqT.of (s1 _ _ ht),jg (j:=2) rfl,n,B,c,y,e,_,rfl,I.same s1,kI (s1 _ _ hb),fun su H2 s2 dF=>?_⟩;refine gQ ?_;have s3:=s1.trans s2;have I2:=I.same s3;have dG:=aV.mono s2;obtain⟨ds,kvs,l1,_,_,_,_,_,l3⟩:=I2.t 0 (by decide);have w1:=((S.spot g1 g2).gp (by omega)).shw (by omega);have w2:=((S.spot g3 g4).gp (by omega)).shw (by omega);obtain⟨m3,I3⟩:=I2.put (c':=c.add 2 [p2 (c.spot x d)]) (i:=0) (by decide) l1 dG w1.1 rfl rfl (fun _=>Iff.rfl) (Kb c _);refine⟨_,rfl,B.o,_,rfl,YB I2.o,_,rfl,B.t 0,sp,kvs,_,rfl,l1,by omega,dG,⟨_,rfl⟩,w1,?_⟩;have t3:=I2.tk m3;generalize upd H2 (B.t 0) _=H3 at *;have nE:=t3.held dF;have gB:=t3 _ _ (s3 _ _ ht);obtain⟨Hi,dR,l4,_,_,_,_,_,l6⟩:=I3.t 1 (by decide);obtain⟨m4,I4⟩:=I3.put (c':=c.know (.rise x d y e r)) (i:=1) (by decide) l4 nE w2.1 rfl rfl (Y5 c x d y e r).1 (Y5 c x d y e r).2;refine⟨_,rfl,B.o,_,rfl,jhs I3.o,_,rfl,B.t 1,su,dR,_,rfl,l4,by omega,nE,⟨_,rfl⟩,w2,?_⟩;have t4:=I3.tk m4;generalize upd H3 (B.t 1) _=H4 at *;have gz:=t4 _ _ gB;refine⟨_,rfl,t,_,_,_,rfl,rfl,SqT.of gz,jg (j:=0) rfl,rfl,_,rfl,ku ?_⟩;obtain⟨ls,l7,l8⟩:=I4.l 1 (by decide);refine⟨_,rfl,B.o,_,rfl,jje I4.o,.inl ⟨rfl,_,SqL.of l7⟩,_,rfl,_,rfl,_,rfl,_,rfl,t,_,_,_,rfl,rfl,SqT.of gz,jg (j:=3) rfl,n+1+1,B,_,r,rfl,I4,by omega,fun bo H5 m5 I5 cU=>⟨sm rfl,fun p hp=>?_⟩⟩;have s6:=jk hp (.tup [sp,su,bo]);have I6:=I5.same s6;obtain⟨zs,l9,eE⟩:=I6.l 1 (by decide);obtain⟨m7,I7⟩:=I6.addl (i:=1) (v:=.ref p) (by decide) l9 eE;exact⟨B.l 1,zs,_,rfl,rfl,l9,jI (by omega),q _ (((MvB.same s3).trans m3).trans (m4.trans (m5.trans ((MvB.same s6).trans m7)))) (I7.mono (by omega))⟩
end
abbrev JF:aA:=top 52
def jap:Sp:=fun vs H Q _=>∃(n m:Nat) (A:BA) (c:Cs) (k:Cl) (v:V),vs=[.ref A.o,v]/\BxAt n A c H/\n<=940/\St m c/\m<=82/\ClG k/\Held H k.toD v/\∀H',MvB A H H'->BxAt (n+12) A (c.deny k) H'->Q .non H'
theorem jdU(c:Cs)(d:D)(j:Nat)(hj:j < 3)(h:j≠2)(x:D):x∈tOf c j↔x∈tOf (c.add 1 [d]) j:=by
 have:j=0\/j=1:=by omega
 rcases this with rfl | rfl <;> exact Iff.rfl
theorem BxAt.tie{n:Nat}{A:BA}{c:Cs}{H:Hp}{kvs:List (Key×V)}{d:D}{v:V}(I:BxAt n A c H)(e:H (A.t 2)=some (.dK kvs))(hv:Held H d v)(hd:OkD d):MvB A H (upd H (A.t 2) (.dK (km kvs (.inr d.py.shown) v)))/\BxAt (n+1) A (c.add 1 [d]) (upd H (A.t 2) (.dK (km kvs (.inr d.py.shown) v))):=
 I.put (i:=2) (by decide) e hv hd rfl rfl (fun _=>Iff.rfl) (jdU c d)
theorem BxAt.spot{n:Nat}{A:BA}{c:Cs}{H:Hp}{kvs:List (Key×V)}{d:D}{v:V}(I:BxAt n A c H)(e:H (A.t 0)=some (.dK kvs))(hv:Held H d v)(hd:OkD d):MvB A H (upd H (A.t 0) (.dK (km kvs (.inr d.py.shown) v)))/\BxAt (n+1) A (c.add 2 [d]) (upd H (A.t 0) (.dK (km kvs (.inr d.py.shown) v))):=
 I.put (i:=0) (by decide) e hv hd rfl rfl (fun _=>Iff.rfl) (Kb c d)
theorem ZG(i:Int)(h:i.natAbs<=1000)(m:Nat):Gs m (jS i):=⟨.own h,bF _⟩
theorem BxAt.kv{n:Nat}{A:BA}{c:Cs}{H:Hp}(I:BxAt n A c H)(i:Nat)(hi:i < 3):∃kvs,H (A.t i)=some (.dK kvs)/\kvs.length<=n:=by
 obtain⟨_,kvs,h,_,_,_,_,_,l⟩:=I.t i hi;exact⟨kvs,h,l⟩
theorem ZU{m:Nat}{v:D}{i:Int}(hv:Ver v)(hi:i.natAbs<=1000):Gs (m+1) (j7 v (jS i)):=⟨.ent hv (.own hi) (by decide),bF _⟩
theorem St.bnd{m:Nat}{c:Cs}(S:St m c){b:Bd}(h:BdG b):Gs (m+1) (c.bnd b (jS 0)):=by
 cases b with
 | is x=>exact (S.num h).mono (cO _)
 | row q=>exact ZU (S.ver h) (by decide)
theorem jdP{m:Nat}{v:D}{way:Str}{b s:P2}{k:Int}(hm:m+1<=90)(h1:Gs (m+1) (j7 v s))(h2:Gs m b)(hk:k.natAbs<=10 ^ 19):Shw (Ko (qY v way b k s)):=by
 unfold qY;split
 .rw[jdR]
  exact qo (h1.gp hm) ((h2.mor (d:=k - 1) (by omega)).gp hm) hm
 .rw[jdQ]
  exact qo ((h2.mor (d:=k+1) (by omega)).gp hm) (h1.gp hm) hm
theorem jdO(v:D)(way:Str)(b:P2)(k:Int)(s:P2):∃es,Ko (qY v way b k s)=.tup es:=by
 obtain⟨x,y,c,e⟩:=YS v way b k s;exact⟨_,by rw[e];rfl⟩
section
variable {P:az}{w:aw}{K:aq}{mg:Str->Option ae}{base:aj}
theorem jc6{f:ab}{fd:aH}(F:Fun K "_law_denied" "_law_denied" JF f fd)(eY:Fn P w K mg base 15 "_law_source" ["_law_box","_law_term_here"] jbY)(cq:Fn P w K mg base 14 "_law_kept" ["_law_some","_law_one"] Yc)(cM:Fn P w K mg base 1 "_law_tie" ["_law_one","_law_other"] zD)(cV:Fn P w K mg base 1 "_law_more" ["_law_one","_law_more_here"] qw)(dM:Fn P w K mg base 2 "_law_spot" ["_law_box","_law_place_here"] Jz)(mC:Fn P w K mg base 2 "_law_against" ["_law_box","_law_claim_here"] Kd)(wH:Fn P w K mg base 2 "_law_body" ["_law_body_here","_law_spot_here","_law_about"] jb3)(df:Fn P w K mg base 1 "_law_version" ["_law_box","_law_r"] Kc)(ed:Fn P w K mg base 1 "_law_entry" ["_law_version_here","_law_spot_here"] zU):FnOk P w K mg base CX0 16 f fd ["_law_box","_law_goal"] jap:=by
 have sc:FnScope ["_law_box","_law_goal","_law_a","_law_b","_law_one","_law_two","_law_version_here","_law_tie_here"] ["_law_box","_law_goal"] (jm JF):=fQ;refine F.okZ sc (fun vs H Q E h=>?_) (fun au A outer s H vs Q E hr h=>?_)
 .obtain⟨n,m,A,c,k,v,rfl,_⟩:=h
  rfl
 have hu:(A.deeper (cr "_law_denied" (jm JF) s.heap.objs.size f au)).units+1 < cLine:=by have:=hr.units;omega
 obtain⟨n,m,B,c,k,v,rfl,I,hn,S,hm,hG,hv,q⟩:=h;refine⟨_,(jd (jN (jC kh (jp ju (zpv 1) jc (fun _ _=>rfl)) jq (jH _)) (jd (jw (i:=2) sc.nd rfl oQ (jh eY hr (ja (zpv 0) (ja (jp ju (zpv 1) jc (fun _ _=>rfl)) jb))))
   (jd (jw (i:=3) sc.nd rfl oQ (jh eY hr (ja (zpv 0) (ja (jp ju (zpv 1) jc (fun _ _=>rfl)) jb))))
   (jd (jA (jh cq hr (ja (jX hu (zpv 0) jq (fun _ _=>rfl)) (ja (jh cM hr (ja (jh cV hr (ja (zpv 2) (ja (js qH jc (jp ju (zpv 1) jc (fun _ _=>rfl))) jb))) (ja (zpv 3) jb))) jb))))
   (ji zQ)))) jJ)
   (jd (jw (i:=4) sc.nd rfl oQ (zpd (j5 (jt (j5 (jt kR (jt zc jP))) (jt zc jP)))))
   (jd (jw (i:=5) sc.nd rfl oQ (zpd (j5 (jt (j5 (jt kR (jt zc jP))) (jt zc jP)))))
   (jd (jA (jh cq hr (ja (jX hu (zpv 0) jq (fun _ _=>rfl)) (ja (zpv 4) jb))))
   (jd (jA (jh cq hr (ja (jX hu (zpv 0) jq (fun _ _=>rfl)) (ja (jh cM hr (ja (jh dM hr (ja (zpv 0) (ja (jp ju (zpv 1) jc (fun _ _=>rfl)) jb))) (ja (zpv 4) jb))) jb))))
   (jd (jN (jC kh (jp ju (zpv 1) jc (fun _ _=>rfl)) jq (jH _)) (jd (jA (jh cq hr (ja (jX hu (zpv 0) jq (fun _ _=>rfl)) (ja (jh cM hr (ja (zpv 4) (ja (jh dM hr (ja (zpv 0) (ja (jp ju (zpv 1) jc (fun _ _=>rfl)) jb))) jb))) jb))))
   (jd (jA (jh cq hr (ja (jX hu (zpv 0) jq (fun _ _=>rfl)) (ja (jh wH hr (ja (jh mC hr (ja (zpv 0) (ja (zpv 1) jb))) (ja (zpv 4) (ja zP jb)))) jb))))
   (ji zQ))) jJ)
   (jd (jA (jh cq hr (ja (jX hu (zpv 0) jq (fun _ _=>rfl)) (ja (zpv 5) jb))))
   (jd (jw (i:=6) sc.nd rfl oQ (jh df hr (ja (zpv 0) (ja (jp ju (zpv 1) jc (fun _ _=>rfl)) jb))))
   (jd (kL ee rfl (ko (jK (ja (jh cM hr (ja (zpv 4) (ja (zpv 5) jb))) (ja (jh cM hr (ja (zpv 5) (ja (jh dM hr (ja (zpv 0) (ja (jp ju (zpv 1) jc (fun _ _=>rfl)) jb))) jb))) jb)))) (jx (i:=7) sc.nd rfl oQ) (ji (jA (jh cq hr (ja (jX hu (zpv 0) jq (fun _ _=>rfl)) (ja (zpv 7) jb))))))
   (ji (jA (jh cq hr (ja (jX hu (zpv 0) jq (fun _ _=>rfl)) (ja (jh cM hr (ja (jh cV hr (ja (jh ed hr (ja (zpv 6) (ja (zpv 5) jb))) (ja jc jb))) (ja (jh ed hr (ja (zpv 6) (ja (zpv 4) jb))) jb))) jb)))))))))))))),?_⟩
 refine jG (σ':=[some (.ref B.o),some v,none,none,none,none,none,none]) rfl ?_
 try dsimp only[y9]
 refine ji2 ?_;intro _ _ _ _ _ _ _ _ _;have O0:∀m,Gs m (jS 0):=ZG 0 (by decide);have O1:∀m,Gs m (jS 1):=ZG 1 (by decide);rcases k with⟨a,b,k⟩ | ⟨x,d,y,e,r,way,b,k⟩ | ⟨x,d,y,e,r⟩
 .obtain⟨g1,g2,g3⟩:=hG
  obtain⟨t,va,vb,rfl,ht,ha,hb⟩:=zn hv;refine⟨_,rfl,t,_,_,_,rfl,rfl,SqT.of ht,jg (j:=0) rfl,rfl,_,rfl,kO ?_⟩;have nY:∀{c':Cs} {u:Tm},c'.nu=c.nu->c'.ve=c.ve->TmG u->∀r x d,u=.at_ r x d->Gp (m+1) (c'.spot x d):=fun h1 h2 hu r x d eu=>by
   subst eu;exact ((S.congr h1 h2).spot hu.2.1 hu.2.2).gp (by omega)
  refine⟨_,rfl,_,rfl,t,_,_,_,rfl,rfl,SqT.of ht,jg (j:=1) rfl,n,m+1,B,c,a,va,rfl,I,by omega,ha,by omega,nY rfl rfl g1,fun ya H1 m1 I1 uI=>?_⟩;refine gQ ?_;have t1:=I.tk m1;refine⟨_,rfl,_,rfl,t,_,_,_,rfl,rfl,SqT.of (t1 _ _ ht),jg (j:=2) rfl,n+2,m+1,B,_,b,vb,rfl,I1,by omega,t1.held hb,by omega,nY (K3 c a) (K2 c a) g2,fun yb H2 m2 I2 oY=>?_⟩;refine gQ ?_;have t2:=I1.tk m2;have uH:=t2.held uI;refine⟨_,rfl,B.o,_,rfl,yQ I2.o,_,rfl,_,rfl,t,_,_,_,rfl,rfl,SqT.of (t2 _ _ (t1 _ _ ht)),jg (j:=3) rfl,1,k,rfl,rfl,ya,1 - k,_,rfl,uH,fun z H3 s3 hz=>⟨_,rfl,z,yb,_,_,rfl,hz,oY.mono s3,fun x H4 s4 hx=>?_⟩⟩;have I4:=I2.same (s3.trans s4);obtain⟨kvs,l1,l3⟩:=I4.kv 2 (by decide);have hs:Shw (kJ (mor (c.stand a).1 (1 - k)) ((c.stand a).2.stand b).1):=by
   rw[Ka];exact qo (((S.stand (by omega) g1).mor (d:=1 - k) (by omega)).gp (by omega)) (((S.stand (by omega) g2).mono (cO _)).gp (by omega)) (by omega)
  obtain⟨m5,I5⟩:=I4.tie l1 hx hs.1;exact⟨B.t 2,x,kvs,_,rfl,l1,by omega,hx,⟨_,rfl⟩,hs,q _ ((m1.trans m2).trans ((MvB.same (s3.trans s4)).trans m5)) (I5.mono (by omega))⟩
 .obtain⟨g1,g2,g3,g4,g5,g6,g7⟩:=hG
  obtain⟨t,va,vb,vc,rfl,ht,ha,hb,hc⟩:=yg hv;refine⟨_,rfl,t,_,_,_,rfl,rfl,SqT.of ht,jg (j:=0) rfl,rfl,_,rfl,ku ?_⟩;refine⟨p2 (jS 0),⟨_,rfl,aX rfl,_,_,rfl,⟨_,rfl,aX rfl,_,_,rfl,rfl,_,_,rfl,rfl,rfl⟩,_,_,rfl,rfl,rfl⟩,fun o1 H1 s1 h1=>?_⟩;refine gQ ?_;refine⟨p2 (jS 1),⟨_,rfl,aX rfl,_,_,rfl,⟨_,rfl,aX rfl,_,_,rfl,rfl,_,_,rfl,rfl,rfl⟩,_,_,rfl,rfl,rfl⟩,fun o2 H2 s2 h2=>?_⟩;refine gQ ?_;have s3:=s1.trans s2;have I2:=I.same s3;have iZ:=h1.mono s2;obtain⟨kvs,l1,l3⟩:=I2.kv 0 (by decide);have w1:=((O0 m).gp (by omega)).shw (by omega);obtain⟨m3,I3⟩:=I2.spot l1 iZ w1.1;refine⟨_,rfl,B.o,_,rfl,YB I2.o,_,rfl,B.t 0,o1,kvs,_,rfl,l1,by omega,iZ,⟨_,rfl⟩,w1,?_⟩;have t3:=I2.tk m3;generalize upd H2 (B.t 0) _=H3 at *;have nX:=t3.held iZ;have gB:=t3 _ _ (s3 _ _ ht);have vE:=t3 _ _ (s3 _ _ ha);have ij:=t3 _ _ (s3 _ _ hb);refine⟨_,rfl,B.o,_,rfl,yQ I3.o,_,rfl,_,rfl,t,_,_,_,rfl,rfl,SqT.of gB,jg (j:=1) rfl,n+1,B,_,x,d,_,rfl,I3,kI vE,fun sp H4 s4 aV=>⟨_,rfl,sp,o1,_,_,rfl,aV,nX.mono s4,fun ti H5 s5 nD=>?_⟩⟩;have I5:=I3.same (s4.trans s5);obtain⟨dR,l4,l6⟩:=I5.kv 2 (by decide);have w2:=qo ((S.spot g1 g2).gp (by omega)) ((O0 (m+1)).gp (by omega)) (by omega);obtain⟨m6,I6⟩:=I5.tie l4 nD w2.1;refine⟨B.t 2,ti,dR,_,rfl,l4,by omega,nD,⟨_,rfl⟩,w2,?_⟩;have t6:=(TK.same (s4.trans s5)).trans (I5.tk m6);generalize upd H5 (B.t 2) _=H6 at *;have pL:=t6.held nX;have hU:=t6 _ _ gB;have iX:=t6 _ _ ij;refine⟨_,rfl,t,_,_,_,rfl,rfl,SqT.of hU,jg (j:=0) rfl,rfl,_,rfl,kO ?_⟩;refine⟨_,rfl,B.o,_,rfl,yQ I6.o,_,rfl,_,rfl,_,rfl,t,_,_,_,rfl,rfl,SqT.of hU,jg (j:=2) rfl,n+1+1,B,_,y,e,_,rfl,I6,kI iX,fun su H7 s7 dF=>⟨o1,su,_,_,rfl,pL.mono s7,dF,fun tj H8 s8 AI=>?_⟩⟩;have I8:=I6.same (s7.trans s8);obtain⟨nq,l7,l9⟩:=I8.kv 2 (by decide);have w3:=qo ((O0 (m+1)).gp (by omega)) ((S.spot g3 g4).gp (by omega)) (by omega);obtain⟨m9,I9⟩:=I8.tie l7 AI w3.1;refine⟨B.t 2,tj,nq,_,rfl,l7,by omega,AI,⟨_,rfl⟩,w3,?_⟩;have t9:=(TK.same (s7.trans s8)).trans (I8.tk m9);generalize upd H8 (B.t 2) _=H9 at *;have GL:=t9.held pL;have EM:=t9.held (t6.held (t3.held (hv.mono s3)));refine⟨_,rfl,B.o,_,rfl,yQ I9.o,_,rfl,_,rfl,n+1+1+1,B,_,x,y,d,e,r,way,b,k,_,rfl,I9,by omega,EM,fun bo i6 Ao fU cU=>⟨_,rfl,c,r,way,b,k,jS 0,bo,o1,rfl,(by cases b <;> exact cU),(I9.tk Ao).held GL,(fun z ez=>S.ver (by subst ez;exact g6)),(fun z ez=>by subst ez;exact KC (S.num g6).1),fun tb bW br fm=>?_⟩⟩;have bR:=fU.same br;obtain⟨lW,eE,np⟩:=bR.kv 2 (by decide);have w4:=jdP (m:=m+1) (v:=c.ver r) (way:=way) (s:=jS 0) (by omega) ((ZU (m:=m) (S.ver g5) (by decide)).mono (by omega)) (S.bnd g6) g7;obtain⟨fL,dY⟩:=bR.tie eE fm w4.1;refine⟨B.t 2,tb,lW,_,rfl,eE,by omega,fm,jdO _ _ _ _ _,w4,?_⟩;refine q _ ((((MvB.same s3).trans m3).trans ((MvB.same (s4.trans s5)).trans m6)).trans (((MvB.same (s7.trans s8)).trans m9).trans ((Ao.trans (.same br)).trans fL))) (dY.congr (by omega) (by cases b <;> rfl) (by cases b <;> rfl) fun j hj z=>?_);have h3:j=0\/j=1\/j=2:=by omega
  rcases h3 with rfl | rfl | rfl
  .cases b <;> exact Iff.rfl
  .cases b <;> exact Iff.rfl
  .have:∀(L:List D) (p q r:D),z∈L++[p]++[q]++[r]↔z∈L++[p,q,r]:=fun L p q r=>by simp only[bE,cu,oE]
   cases b <;> exact this _ _ _ _
 .obtain⟨g1,g2,g3,g4,g5⟩:=hG
  obtain⟨t,va,vb,rfl,ht,ha,hb⟩:=JL hv;refine⟨_,rfl,t,_,_,_,rfl,rfl,SqT.of ht,jg (j:=0) rfl,rfl,_,rfl,ku ?_⟩;refine⟨p2 (jS 0),⟨_,rfl,aX rfl,_,_,rfl,⟨_,rfl,aX rfl,_,_,rfl,rfl,_,_,rfl,rfl,rfl⟩,_,_,rfl,rfl,rfl⟩,fun o1 H1 s1 h1=>?_⟩;refine gQ ?_;refine⟨p2 (jS 1),⟨_,rfl,aX rfl,_,_,rfl,⟨_,rfl,aX rfl,_,_,rfl,rfl,_,_,rfl,rfl,rfl⟩,_,_,rfl,rfl,rfl⟩,fun o2 H2 s2 h2=>?_⟩;refine gQ ?_;have s3:=s1.trans s2;have I2:=I.same s3;have iZ:=h1.mono s2;obtain⟨kvs,l1,l3⟩:=I2.kv 0 (by decide);have w1:=((O0 m).gp (by omega)).shw (by omega);obtain⟨m3,I3⟩:=I2.spot l1 iZ w1.1;refine⟨_,rfl,B.o,_,rfl,YB I2.o,_,rfl,B.t 0,o1,kvs,_,rfl,l1,by omega,iZ,⟨_,rfl⟩,w1,?_⟩;have t3:=I2.tk m3;generalize upd H2 (B.t 0) _=H3 at *;have nX:=t3.held iZ;have gB:=t3 _ _ (s3 _ _ ht);have vE:=t3 _ _ (s3 _ _ ha);have ij:=t3 _ _ (s3 _ _ hb);refine⟨_,rfl,B.o,_,rfl,yQ I3.o,_,rfl,_,rfl,t,_,_,_,rfl,rfl,SqT.of gB,jg (j:=1) rfl,n+1,B,_,x,d,_,rfl,I3,kI vE,fun sp H4 s4 aV=>⟨_,rfl,sp,o1,_,_,rfl,aV,nX.mono s4,fun ti H5 s5 nD=>?_⟩⟩;have I5:=I3.same (s4.trans s5);obtain⟨dR,l4,l6⟩:=I5.kv 2 (by decide);have w2:=qo ((S.spot g1 g2).gp (by omega)) ((O0 (m+1)).gp (by omega)) (by omega);obtain⟨m6,I6⟩:=I5.tie l4 nD w2.1;refine⟨B.t 2,ti,dR,_,rfl,l4,by omega,nD,⟨_,rfl⟩,w2,?_⟩;have t6:=(TK.same (s4.trans s5)).trans (I5.tk m6);generalize upd H5 (B.t 2) _=H6 at *;have pL:=t6.held nX;have hU:=t6 _ _ gB;have iX:=t6 _ _ ij;have vO:=t6.held (t3.held h2);refine⟨_,rfl,t,_,_,_,rfl,rfl,SqT.of hU,jg (j:=0) rfl,rfl,_,rfl,ku ?_⟩;obtain⟨nq,l7,l9⟩:=I6.kv 0 (by decide);have w3:=((O1 m).gp (by omega)).shw (by omega);obtain⟨m7,I7⟩:=I6.spot l7 vO w3.1;refine⟨_,rfl,B.o,_,rfl,YB I6.o,_,rfl,B.t 0,o2,nq,_,rfl,l7,by omega,vO,⟨_,rfl⟩,w3,?_⟩;have t7:=I6.tk m7;generalize upd H6 (B.t 0) _=H7 at *;have uU:=t7 _ _ hU;refine⟨_,rfl,_,rfl,t,_,_,_,rfl,rfl,SqT.of uU,jg (j:=3) rfl,n+1+1+1,B,_,r,rfl,I7,by omega,fun vv H8 m8 I8 o7=>?_⟩;refine gQ ?_;have t8:=t7.trans (I7.tk m8);have BT:=t8.held pL;have vN:=t8.held vO;have M8:=(((MvB.same s3).trans m3).trans ((MvB.same (s4.trans s5)).trans m6)).trans (m7.trans m8);refine⟨_,rfl,_,rfl,o1,o2,_,_,rfl,BT,vN,fun v1 G1 b1 k1=>⟨_,rfl,_,rfl,_,rfl,t,_,_,_,rfl,rfl,SqT.of (b1 _ _ (t8 _ _ hU)),jg (j:=2) rfl,n+1+1+1+1,B,_,y,e,_,rfl,I8.same b1,kI (b1 _ _ (t8 _ _ iX)),fun su G2 b2 dF=>⟨o2,su,_,_,rfl,vN.mono (b1.trans b2),dF,fun v2 G3 b3 k2=>⟨sm rfl,fun l hl=>?_⟩⟩⟩⟩;have b4:=jk hl (.lst [v1,v2]);have e4:upd G3 l (.lst [v1,v2]) l=some (.lst [v1,v2]):=jf;generalize upd G3 l (.lst [v1,v2])=G4 at *;have bb:=(b1.trans b2).trans (b3.trans b4);obtain⟨c8,mm⟩:∃c8,c8=((c.add 2 [p2 (jS 0)]).add 1 [kJ (c.spot x d) (jS 0)]).add 2 [p2 (jS 1)]:=⟨_,rfl⟩
  have I9:BxAt (n+1+1+1+1) B c8 G4:=by rw[mm];exact I8.same bb
  have cT:HeldL G4 [kJ (jS 0) (jS 1),kJ (jS 1) (c.spot y e)] [v1,v2]:=je (k1.mono (b2.trans (b3.trans b4))) (je (k2.mono b4) jr);have xI:∀d∈[kJ (jS 0) (jS 1),kJ (jS 1) (c.spot y e)],Shw d/\∃es,d=.tup es:=fun d hd=>by
   rcases a_.mp hd with rfl | hd
   .exact⟨qo ((O0 m).gp (by omega)) ((O1 m).gp (by omega)) (by omega),_,rfl⟩
   .cases aM.mp hd
    exact⟨qo ((O1 (m+1)).gp (by omega)) ((S.spot g3 g4).gp (by omega)) (by omega),_,rfl⟩
  generalize hT:[kJ (jS 0) (jS 1),kJ (jS 1) (c.spot y e)]=T at cT xI;have oV:∀i,i < 3->l≠B.l i:=fun i hi z=>by
   obtain⟨ys,y1,_⟩:=(I8.same (b1.trans (b2.trans b3))).l i hi;rw[z,y1]at hl
   cases hl
  have Ew:∀{G:Hp},MvB B G4 G->G l=some (.lst [v1,v2]):=fun mv=>by
   obtain⟨_,q1,_⟩:=I9.st;obtain⟨_,q2,_⟩:=I9.nw;obtain⟨_,q3,_⟩:=I9.vs;refine mv _ _ (jy e4 q1 (by intro z;cases z)) (jy e4 q2 (by intro z;cases z)) (jy e4 q3 (by intro z;cases z)) (fun i hi=>?_) oV e4;obtain⟨_,q4,_⟩:=I9.kv i hi;exact jy e4 q4 (by intro z;cases z)
  have TL:T.length=2:=by rw[<- hT];rfl
  let Pv:Nat->L2.St->Hp->Prop:=fun i σ G=>∃u,σ=[some (.ref B.o),some (.ref t),none,none,some o1,some o2,some vv,u]/\MvB B G4 G/\BxAt (n+4+i) B (c8.add 1 (T.take i)) G
  refine⟨l,rfl,⟨_,SqL.of e4⟩,?_⟩;refine qa (xs:=[v1,v2]) Pv ⟨none,rfl,.same (fun _ _ e=>e),I9.congr (by omega) rfl rfl fun j hj z=>?_⟩ ?_ ?_ ?_
  .have h3:j=0\/j=1\/j=2:=by omega
   rcases h3 with rfl | rfl | rfl
   .exact Iff.rfl
   .exact Iff.rfl
   .show z∈c8.l 1↔z∈c8.l 1++[]
    rw[gh]
  .rintro i σ G _ ⟨u,rfl,mv,_⟩
   exact SqL.of (Ew mv)
  .rintro i z σ G hz ⟨u,rfl,mv,J⟩
   refine gQ ?_;have hi:i < T.length:=by rw[TL];exact (bI.mp hz).1
   have hd:=(I9.tk mv).held (kz cT (aK hi) hz);obtain⟨w5,w6⟩:=xI T[i] (dP hi);obtain⟨lW,eE,np⟩:=J.kv 2 (by decide);obtain⟨m9,J9⟩:=J.tie eE hd w5.1;refine⟨_,rfl,B.o,_,rfl,yQ J.o,_,rfl,B.t 2,z,lW,_,rfl,eE,by omega,hd,w6,w5,⟨_,rfl,mv.trans m9,J9.congr (by omega) rfl rfl fun j hj z=>?_⟩⟩;have h3:j=0\/j=1\/j=2:=by omega
   rcases h3 with rfl | rfl | rfl
   .exact Iff.rfl
   .exact Iff.rfl
   .show z∈c8.l 1++T.take i++[T[i]]↔z∈c8.l 1++T.take (i+1)
    rw[dO,aK hi,bE];exact Iff.rfl
  .rintro σ G ⟨u,rfl,mv,J⟩
   have tz:=(TK.same bb).trans (I9.tk mv);have AA:=tz.held o7;refine⟨_,rfl,B.o,_,rfl,yQ J.o,_,rfl,_,rfl,vv,o2,_,_,rfl,AA,tz.held vN,fun e1 G5 a1 k5=>⟨e1,1,_,rfl,k5,fun e2 G6 a2 k6=>⟨_,rfl,_,rfl,vv,o1,_,_,rfl,AA.mono (a1.trans a2),(tz.held BT).mono (a1.trans a2),fun e3 G7 a3 k7=>⟨e2,e3,_,_,rfl,k6.mono a3,k7,fun tl G8 a4 k8=>?_⟩⟩⟩⟩;have aa:=(a1.trans a2).trans (a3.trans a4);have J8:=J.same aa;obtain⟨lW,eE,np⟩:=J8.kv 2 (by decide);have AB:Ver (c.ver r):=S.ver g5;have w7:Shw (kJ (mor (j7 (c.ver r) (jS 1)) 1) (j7 (c.ver r) (jS 0))):=qo (((ZU (m:=m) AB (by decide)).mor (d:=1) (by decide)).gp (by omega)) (((ZU (m:=m) AB (by decide)).mono (cO _)).gp (by omega)) (by omega);have k8:Held G8 (kJ (mor (j7 (c.ver r) (jS 1)) 1) (j7 (c.ver r) (jS 0))) tl:=k8;obtain⟨fL,dY⟩:=J8.tie eE k8 w7.1;have np:lW.length<=n+4+2:=np;refine⟨B.t 2,tl,lW,_,rfl,eE,by omega,k8,⟨_,rfl⟩,w7,?_⟩;refine q _ ((M8.trans (.same bb)).trans (mv.trans ((MvB.same aa).trans fL))) (dY.congr (show n+4+2+1<=n+12 by omega) (by rw[mm];rfl) (by rw[mm];rfl) fun j hj z=>?_);have h3:j=0\/j=1\/j=2:=by omega
   rcases h3 with rfl | rfl | rfl
   .show z∈c8.l 2↔z∈c.l 2++[p2 (jS 0),p2 (jS 1)]
    rw[mm];show z∈c.l 2++[p2 (jS 0)]++[p2 (jS 1)]↔_;rw[bE];exact Iff.rfl
   .rw[mm]
    exact Iff.rfl
   .show z∈c8.l 1++T.take 2++[_]↔z∈c.l 1++_
    rw[mm,<- hT];show z∈c.l 1++[kJ (c.spot x d) (jS 0)]++[kJ (jS 0) (jS 1),kJ (jS 1) (c.spot y e)]++[_]↔_;simp only[bE,cu,oE]
end
theorem jay:∀(n:Nat) (qs:List DA),qs.length=n->(∀d,d∈(kU qs).map (·.1)↔d∈qs.map (·.1))/\((kU qs).getLast?.map (·.1)=qs.getLast?.map (·.1))/\((qs.map (·.1)).Pairwise (fun a b=>dLt b a=false)->((kU qs).map (·.1)).Pairwise (fun a b=>dLt a b=true)):=by
 intro n;induction n with
 | zero=>
  intro qs h;obtain rfl:qs=[]:=List.eq_nil_of_length_eq_zero h;exact⟨fun d=>Iff.rfl,rfl,fun _=>.nil⟩
 | succ n ih=>
  intro qs h;rcases DQ qs with rfl | ⟨ps,p,rfl⟩
  .cases h
  rw[DT]at h |-;rw[bz]at h;obtain⟨i1,i2,i3⟩:=ih ps (by simpa using h);rw[Yk];generalize kU ps=T at *;have hl:(ps++[p]).getLast?=some p:=by simp
  rw[hl];rcases DQ T with rfl | ⟨T',l,rfl⟩
  .have e:ps=[]:=by
    cases ps with
    | nil=>rfl
    | cons q r=>exact absurd ((i1 q.1).mpr (cc.mpr ⟨q,bC ..,rfl⟩)) (by simp)
   subst e;exact⟨fun d=>Iff.rfl,rfl,fun _=>sL _ _⟩
  .rw[DT]at *
   have hg:(T'++[l]).getLast?=some l:=by simp
   have eo:zJ (T'++[l]) p=if l.1=p.1 then T'++[l] else T'++[l]++[p]:=by
    unfold zJ;rw[hg]
   rw[eo];by_cases z:l.1=p.1
   .rw[MU z]
    refine⟨fun d=>?_,by rw[hg];exact MW some z,fun hp=>?_⟩
    .rw[i1,bq,bx]
     refine⟨.inl,fun w=>w.elim id fun y=>?_⟩;rw[<- i1];rw[bg,gg,aM]at y;rw[y,<- z,bq];exact ck _ (aM.mpr rfl)
    .rw[bq,f_]at hp
     exact i3 hp.1
   .rw[MT z]
    refine⟨fun d=>?_,by simp,fun hp=>?_⟩
    .rw[bq,bx,i1,bq,bx]
    .rw[bq,f_]at hp
     obtain⟨p1,_,p3⟩:=hp;have r1:=i3 p1;rw[bq (l₁:=T'++[l]),f_];refine⟨r1,sL _ _,fun a ha b hb=>?_⟩;rw[bg,gg,aM]at hb;subst hb;have Bb:dLt l.1 p.1=true:=by
      have f1:dLt p.1 l.1=false:=p3 l.1 ((i1 _).mp (by rw[bq];exact ck _ (aM.mpr rfl))) p.1 (aM.mpr rfl)
      cases f2:dLt l.1 p.1 with
      | true=>rfl
      | false=>exact absurd (JZ _ _ f2 f1) z
     rw[bq,f_]at r1;rw[bq,bx]at ha;rcases ha with ha | ha
     .exact yi _ _ _ (r1.2.2 a ha l.1 (aM.mpr rfl)) Bb
     .rw[aM.mp ha]
      exact Bb
theorem jax(qs:List DA)(d:D):d∈(kU qs).map (·.1)↔d∈qs.map (·.1):=(jay _ qs rfl).1 d
theorem jc1{qs:List DA}(h:(qs.map (·.1)).Pairwise (fun a b=>dLt b a=false)):((kU qs).map (·.1)).Pairwise (fun a b=>dLt a b=true):=(jay _ qs rfl).2.2 h
theorem jb9:∀{a b:List D},a.Pairwise (fun x y=>dLt x y=true)->b.Pairwise (fun x y=>dLt x y=true)->(∀d,d∈a↔d∈b)->a=b
 | [],[],_,_,_=>rfl
 | [],y :: b,_,_,h=>absurd ((h y).mpr (bC ..)) (by simp)
 | x :: a,[],_,_,h=>absurd ((h x).mp (bC ..)) (by simp)
 | x :: a,y :: b,ha,hb,h=>by
  rw[Mc]at ha hb;have uE:∀d,dLt d d=true->False:=fun d e=>by rw[ZW]at e;cases e
  have GV:x=y:=by
   rcases a_.mp ((h x).mp (bC ..)) with e | e
   .exact e
   .rcases a_.mp ((h y).mpr (bC ..)) with e' | e'
    .exact e'.symm
    .exact (uE x (yi _ _ _ (ha.1 y e') (hb.1 x e))).elim
  subst GV;rw[jb9 ha.2 hb.2 fun d=>?_];constructor
  .intro hd
   rcases a_.mp ((h d).mp (bG _ hd)) with e | e
   .rw[e]at hd;exact (uE x (ha.1 x hd)).elim
   .exact e
  .intro hd
   rcases a_.mp ((h d).mpr (bG _ hd)) with e | e
   .rw[e]at hd;exact (uE x (hb.1 x hd)).elim
   .exact e
theorem jfR{a:List D}(h:a.Pairwise (fun x y=>dLt y x=false))(n:a.Nodup):a.Pairwise (fun x y=>dLt x y=true):=by
 refine (List.Pairwise.and h n).imp fun {x y} q=>?_
 cases e:dLt x y with
 | true=>rfl
 | false=>exact absurd (JZ _ _ e q.1) q.2
theorem Jd(a b:Str):Cmp (.str a) (.str b):=by unfold Cmp;trivial
theorem Zf(a b:Int):Cmp (.int a) (.int b):=by unfold Cmp;trivial
theorem kP(ys:List D):CmpL [] ys:=by unfold CmpL;trivial
theorem kB{x y:D}{xs ys:List D}(h:Cmp x y)(t:CmpL xs ys):CmpL (x :: xs) (y :: ys):=by
 unfold CmpL;exact⟨fun _=>t,fun _=>h⟩
theorem y7{a b:Str}{xs ys:List D}(h:decide (a=b)=false):CmpL (.str a :: xs) (.str b :: ys):=by
 unfold CmpL;refine⟨fun e=>?_,fun _=>Jd a b⟩;rw[jcy]at e;have:=MQ e
 cases this
 rw[MR rfl]at h
 cases h
theorem yA{a b:List D}(h:CmpL a b):Cmp (.tup a) (.tup b):=by unfold Cmp;exact h
theorem jfE{v u:D}(h:Ver v)(k:Ver u):Cmp v u:=by
 cases h <;> cases k <;> refine yA ?_ <;> first
  | exact kB (Jd _ _) (kB (Jd _ _) (kP _))
  | exact kB (Jd _ _) (kB (Zf _ _) (kP _))
  | exact y7 (by decide +kernel)
theorem Zt{m:Nat}{d:D}(h:Src m d):∀{k:Nat} {e:D},Src k e->Cmp d e:=by
 induction h with
 | @ent m v d c hv hd hc ih=>
  intro k e he
  cases he with
  | @ent k v' d' c' iN iV cK=>exact yA (kB (Jd _ _) (kB (jfE hv iN) (kB (yA (kB (ih iV) (kB (Zf _ _) (kP _)))) (kP _))))
  | _=>exact yA (y7 (by decide +kernel))
 | nought=>
  intro k e he
  cases he <;> refine yA ?_ <;> first
   | exact kB (Jd _ _) (kP _)
   | exact y7 (by decide +kernel)
 | start _=>
  intro k e he
  cases he <;> refine yA ?_ <;> first
   | exact kB (Jd _ _) (kB (Jd _ _) (kP _))
   | exact y7 (by decide +kernel)
 | pick _=>
  intro k e he
  cases he <;> refine yA ?_ <;> first
   | exact kB (Jd _ _) (kB (Zf _ _) (kP _))
   | exact y7 (by decide +kernel)
 | own _=>
  intro k e he
  cases he <;> refine yA ?_ <;> first
   | exact kB (Jd _ _) (kB (Zf _ _) (kP _))
   | exact y7 (by decide +kernel)
theorem jfM{ds:List D}(h:∀d∈ds,∃p:P2,d=p2 p/\Gs 90 p):SortT ds 200:=by
 refine⟨⟨fun d hd e he=>?_,fun d hd=>?_,fun d hd=>?_⟩,fun d hd=>?_⟩
 .obtain⟨p,rfl,g⟩:=h d hd
  obtain⟨q,rfl,k⟩:=h e he;exact yA (kB (Zt g.1 k.1) (kB (Zf _ _) (kP _)))
 .obtain⟨p,rfl,g⟩:=h d hd
  exact ((g.gp (aD _)).shw (aD _)).2.1
 .obtain⟨p,rfl,g⟩:=h d hd
  exact⟨_,rfl⟩
 .obtain⟨p,rfl,g⟩:=h d hd
  obtain⟨es,e⟩:=KC g.1;exact⟨es,[.int p.2],by unfold p2;rw[e]⟩
def RwG:Rw->Prop
 | .set x t k=>Wd x/\TmG t/\k.natAbs<=10 ^ 20
 | .put r x d t k=>Wd r/\NmG x/\d.natAbs<=10 ^ 20/\TmG t/\k.natAbs<=10 ^ 20
 | .any x=>Wd x
 | .lose r=>Wd r
 | .know C=>ClG C
structure CG(m:Nat)(c:Cs):Prop where
 s:St m c
 l2:∀d∈c.l 2,∃p:P2,d=p2 p/\Gs 90 p
 l4:∀d∈c.l 4,∃x u y,d=.tup [x,p2 u,y]/\Gs 90 u
 l5:∀d∈c.l 5,∃x u y,d=.tup [x,p2 u,y]/\Gs 90 u
theorem CG.add2{m:Nat}{c:Cs}(G:CG m c){p:P2}(h:Gs 90 p):CG m (c.add 2 [p2 p]):=⟨G.s.congr rfl rfl,fun d hd=>by
 have hd:d∈c.l 2++[p2 p]:=hd;rcases bx.mp hd with hd | hd
 .exact G.l2 d hd
 .exact⟨p,aM.mp hd,h⟩,G.l4,G.l5⟩
theorem CG.name{m:Nat}{c:Cs}(G:CG m c)(r:Str):CG m (c.name r):=⟨G.s.congr rfl rfl,G.l2,G.l4,G.l5⟩
theorem CG.add1{m:Nat}{c:Cs}(G:CG m c)(ds:List D):CG m (c.add 1 ds):=⟨G.s.congr rfl rfl,G.l2,G.l4,G.l5⟩
theorem CG.add3{m:Nat}{c:Cs}(G:CG m c)(ds:List D):CG m (c.add 3 ds):=⟨G.s.congr rfl rfl,G.l2,G.l4,G.l5⟩
theorem CG.add0{m:Nat}{c:Cs}(G:CG m c)(ds:List D):CG m (c.add 0 ds):=⟨G.s.congr rfl rfl,G.l2,G.l4,G.l5⟩
theorem CG.add4{m:Nat}{c:Cs}(G:CG m c){x y:D}{u:P2}(h:Gs 90 u):CG m (c.add 4 [.tup [x,p2 u,y]]):=⟨G.s.congr rfl rfl,G.l2,fun d hd=>by
 have hd:d∈c.l 4++[.tup [x,p2 u,y]]:=hd;rcases bx.mp hd with hd | hd
 .exact G.l4 d hd
 .exact⟨x,u,y,aM.mp hd,h⟩,G.l5⟩
theorem CG.add5{m:Nat}{c:Cs}(G:CG m c){x y:D}{u:P2}(h:Gs 90 u):CG m (c.add 5 [.tup [x,p2 u,y]]):=⟨G.s.congr rfl rfl,G.l2,G.l4,fun d hd=>by
 have hd:d∈c.l 5++[.tup [x,p2 u,y]]:=hd;rcases bx.mp hd with hd | hd
 .exact G.l5 d hd
 .exact⟨x,u,y,aM.mp hd,h⟩⟩
theorem CG.mono{m k:Nat}{c:Cs}(G:CG m c)(h:m<=k):CG k c:=⟨⟨fun x p e=>(G.s.nu x p e).mono h,G.s.ve⟩,G.l2,G.l4,G.l5⟩
theorem CG.setn{m:Nat}{c:Cs}(G:CG m c){x:Str}{p:P2}(h:Gs m p):CG m (c.setn x p):=⟨⟨fun y q e=>by
 have e:zV c.nu x p y=some q:=e;unfold zV at e;split at e
 .cases e;exact h
 .exact G.s.nu y q e,G.s.ve⟩,G.l2,G.l4,G.l5⟩
theorem CG.setv{m:Nat}{c:Cs}(G:CG m c){r:Str}{d:D}(h:Ver d):CG m (c.setv r d):=⟨⟨G.s.nu,fun y q e=>by
 have e:zV c.ve r d y=some q:=e;unfold zV at e;split at e
 .cases e;exact h
 .exact G.s.ve y q e⟩,G.l2,G.l4,G.l5⟩
theorem CG.stand{m:Nat}{c:Cs}(G:CG m c)(hm:m<=85){t:Tm}(h:TmG t):CG m (c.stand t).2:=by
 cases t with
 | is x=>exact G
 | at_ r x d=>exact (G.add2 ((G.s.spot h.2.1 h.2.2).mono (by omega))).name r
theorem CG.body{m:Nat}{c:Cs}(G:CG m c)(r way:Str)(b:Bd)(k:Int):CG m (c.body r way b k).2:=by
 cases b with
 | is x=>exact G.name r
 | row q=>exact (G.name r).name q
theorem CG.least{m:Nat}{c:Cs}(G:CG m c)(hm:m<=85){a b:Tm}(h:TmG a)(k:TmG b)(j:Int):CG m (c.least a b j).2:=(G.stand hm k).stand hm h
theorem CG.know{m:Nat}{c:Cs}(G:CG m c)(hm:m<=85){k:Cl}(h:ClG k):CG m (c.know k):=by
 cases k with
 | least a b j=>exact (G.least hm h.1 h.2.1 j).add1 _
 | each t td u ud r way b j=>
  obtain⟨g1,g2,g3,g4,_⟩:=h;exact ((G.add2 ((G.s.spot g1 g2).mono (by omega))).body r way b j).add4 ((G.s.spot g3 g4).mono (by omega))
 | rise t td u ud r=>
  obtain⟨g1,g2,g3,g4,_⟩:=h;exact ((G.add2 ((G.s.spot g1 g2).mono (by omega))).name r).add5 ((G.s.spot g3 g4).mono (by omega))
theorem CG.take{m:Nat}{c:Cs}(G:CG m c)(hm:m<=85){n:Nat}(hn:n<=1000){r:Rw}(h:RwG r):CG (m+2) (c.take n r):=by
 cases r with
 | set x t k=>exact ((G.stand hm h.2.1).mono (by omega)).setn ((G.s.stand (by omega) h.2.1).mor h.2.2)
 | put r x d t k=>
  obtain⟨g1,g2,g3,g4,g5⟩:=h;exact (((((G.stand hm g4).name r).add2 ((G.s.spot g2 g3).mono (by omega))).add3 _).add1 _).setv (.put hn) |>.mono (by omega)
 | any x=>exact (G.mono (by omega)).setn ⟨.pick hn,bF _⟩
 | lose r=>exact (((G.name r).setv (.lost hn)).add0 _).mono (by omega)
 | know C=>exact (G.know hm h).mono (by omega)
theorem CG.none:CG 0 Cs.none:=⟨⟨fun _ _ e=>(nomatch e),fun _ _ e=>(nomatch e)⟩,fun _ h=>(nomatch h),fun _ h=>(nomatch h),fun _ h=>(nomatch h)⟩
theorem CG.rows:∀{R:List Rw} {m n:Nat} {c:Cs},CG m c->m+2 * R.length<=85->n+R.length<=1000->(∀r∈R,RwG r)->CG (m+2 * R.length) (c.rows R n)
 | [],m,n,c,G,_,_,_=>G
 | r :: R,m,n,c,G,h1,h2,h3=>by
  rw[bM]at h1 h2 |-;have:=CG.rows (R:=R) (n:=n+1) (G.take (n:=n) (by omega) (by omega) (h3 r (bC ..))) (by omega) (by omega) fun q hq=>h3 q (bG _ hq)
  rw[show m+2 * (R.length+1)=m+2+2 * R.length by omega];exact this
abbrev Yf:aA:=top 53
theorem jcG{X:Cx}{pos:Pos}:QE X (Expr.Dict [] [] pos) jdX:=⟨jeD⟩
def jiq(A:BA)(H:Hp):Prop:=H A.o=none/\H A.st=none/\H A.nw=none/\H A.vs=none/\(∀i,i < 3->H (A.t i)=none)/\∀i,i < 3->H (A.l i)=none
def jbW:Sp:=fun vs H Q _=>∃(a:ab) (R:List Rw) (rs:List V) (k:Cl) (v:V),vs=[.ref a,v]/\H a=some (.lst rs)/\HeldL H (R.map Rw.toD) rs/\R.length<=40/\(∀r∈R,RwG r)/\ClG k/\Held H k.toD v/\∀(A:BA) (H':Hp),Same H H'->jiq A H->BxAt 400 A (qq R k) H'->Q (.ref A.o) H'
structure Lay(H:Hp)(os:List (Prod ab HO))(G:Hp):Prop where
 s:Same H G
 o:∀p∈os,G p.1=some p.2/\H p.1=none
 nd:(os.map (·.1)).Nodup
 f:∀a,G a=none->H a=none
theorem Lay.zero(H:Hp):Lay H [] H:=⟨fun _ _ e=>e,fun _ h=>(nomatch h),sM,fun _ e=>e⟩
theorem Lay.step{H G:Hp}{os:List (Prod ab HO)}(L:Lay H os G){p:ab}(hp:G p=none)(o:HO):Lay H (os++[(p,o)]) (upd G p o):=by
 refine⟨L.s.trans (jk hp o),fun q hq=>?_,?_,fun a ha=>?_⟩
 .rcases bx.mp hq with hq | hq
  .exact⟨jk hp o _ _ (L.o q hq).1,(L.o q hq).2⟩
  .cases aM.mp hq
   exact⟨jf,L.f _ hp⟩
 .rw[bq,DJ]
  refine⟨L.nd,by simp,fun x hx y hy=>?_⟩
  cases aM.mp hy
  obtain⟨q,q1,rfl⟩:=cc.mp hx;exact jo (L.o q q1).1 hp
 .by_cases y:a=p
  .rw[y,jf]at ha;cases ha
  .rw[jD y]at ha;exact L.f _ ha
theorem Lay.set{H G:Hp}{os:List (Prod ab HO)}{a:ab}{u:HO}(L:Lay H ((a,u) :: os) G)(u':HO):Lay H ((a,u') :: os) (upd G a u'):=by
 have ha:=L.o _ (bC ..);have hn:=eS.mp L.nd;refine⟨fun b o e=>jj (jo e ha.2) (L.s b o e),fun q hq=>?_,L.nd,fun b hb=>?_⟩
 .rcases a_.mp hq with rfl | hq
  .exact⟨jf,ha.2⟩
  .have h2:=L.o q (bG _ hq)
   exact⟨jj (fun e=>hn.1 (cc.mpr ⟨q,hq,e⟩)) h2.1,h2.2⟩
 .by_cases y:b=a
  .rw[y,jf]at hb;cases hb
  .rw[jD y]at hb;exact L.f _ hb
def jfq(o a1 a2 a3 a4 a5 a6 a7 a8 a9:ab):BA:=⟨o,a1,a2,a3,fun i=>if i=0 then a4 else if i=1 then a5 else a6,fun i=>if i=0 then a7 else if i=1 then a8 else a9⟩
theorem ze{i:Nat}(h:i < 3):i=0\/i=1\/i=2:=by omega
theorem jgO{H G:Hp}{o a1 a2 a3 a4 a5 a6 a7 a8 a9:ab}(L:Lay H [(o,.dK (zN (jfq o a1 a2 a3 a4 a5 a6 a7 a8 a9))),(a1,.dK []),(a2,.dK []),(a3,.dT []),(a4,.dK []),(a5,.dK []),(a6,.dK []),(a7,.lst []),(a8,.lst []),(a9,.lst [])] G):BxAt 0 (jfq o a1 a2 a3 a4 a5 a6 a7 a8 a9) Cs.none G/\jiq (jfq o a1 a2 a3 a4 a5 a6 a7 a8 a9) H:=by
 have h:=L.o;simp only[List.forall_mem_cons]at h;obtain⟨⟨b0,n0⟩,⟨b1,n1⟩,⟨b2,n2⟩,⟨b3,n3⟩,⟨b4,n4⟩,⟨b5,n5⟩,⟨b6,n6⟩,⟨b7,n7⟩,⟨b8,n8⟩,⟨b9,n9⟩,_⟩:=h;have nd:[o,a1,a2,a3,a4,a5,a6,a7,a8,a9].Nodup:=L.nd;have vW:∀(a:ab) (i:Nat),i < 3->G a=some (.dK [])->TAt 0 (tOf Cs.none i) G a:=fun a i hi e=>⟨[],[],e,rfl,jr,sM,fun d=>by
  rcases ze hi with rfl | rfl | rfl <;> exact Iff.rfl,fun _ z=>(nomatch z),aD _⟩
 refine⟨⟨b0,?_,fun i j hi hj e=>?_,⟨[],b1,aD _,fun x=>⟨fun _=>rfl,fun _ z=>(nomatch z)⟩⟩,⟨[],b2,aD _,fun x=>⟨fun _=>rfl,fun _ z=>(nomatch z)⟩⟩,⟨[],b3,aD _⟩,fun i hi=>?_,fun i hi=>?_⟩,n0,n1,n2,n3,fun i hi=>?_,fun i hi=>?_⟩
 .show [o,a1,a2,a4,a5,a6].Nodup
  exact nd.sublist (.cons₂ _ (.cons₂ _ (.cons₂ _ (.cons _ (.cons₂ _ (.cons₂ _ (.cons₂ _ (List.nil_sublist _))))))))
 .simp only[eS,a_,DI,or_false,not_or]at nd
  obtain⟨_,_,_,_,_,_,_,⟨x1,x2⟩,x3,_⟩:=nd;rcases ze hi with rfl | rfl | rfl <;> rcases ze hj with rfl | rfl | rfl <;> first | rfl | exact absurd e x1 | exact absurd e x2 | exact absurd e x3 | exact absurd e.symm x1 | exact absurd e.symm x2 | exact absurd e.symm x3
 .rcases ze hi with rfl | rfl | rfl
  .exact vW _ _ hi b4
  .exact vW _ _ hi b5
  .exact vW _ _ hi b6
 .rcases ze hi with rfl | rfl | rfl
  .exact⟨_,b7,aD _⟩
  .exact⟨_,b8,aD _⟩
  .exact⟨_,b9,aD _⟩
 .rcases ze hi with rfl | rfl | rfl
  .exact n4
  .exact n5
  .exact n6
 .rcases ze hi with rfl | rfl | rfl
  .exact n7
  .exact n8
  .exact n9
theorem JO{A:BA}{H G G':Hp}(N:jiq A H)(s:Same H G)(m:MvB A G G'):Same H G':=fun b o e=>by
 obtain⟨_,n1,n2,n3,n4,n5⟩:=N;exact m b o (jo e n1) (jo e n2) (jo e n3) (fun i hi=>jo e (n4 i hi)) (fun i hi=>jo e (n5 i hi)) (s b o e)
theorem Jg{c:Cs}{n:Nat}{r x:Str}{d k:Int}{t:Tm}:let s:=c.spot x d;let v:=mor (c.stand t).1 k;let c':=((((c.stand t).2.add 2 [p2 s]).add 1 [kJ (j7 (yr n) s) v]).add 1 [kJ v (j7 (yr n) s)]).setv r (yr n)
  (c.take n (.put r x d t k)).nu=c'.nu/\(c.take n (.put r x d t k)).ve=c'.ve/\∀i,i < 3->∀z,z∈tOf c' i↔z∈tOf (c.take n (.put r x d t k)) i:=by
 refine⟨rfl,rfl,fun i hi z=>?_⟩
 rcases ze hi with rfl | rfl | rfl
 .exact Iff.rfl
 .exact Iff.rfl
 .show z∈((c.stand t).2.l 1++[_])++[_]↔z∈(c.stand t).2.l 1++[_,_]
  rw[bE]
  exact Iff.rfl
section
variable {P:az}{w:aw}{K:aq}{mg:Str->Option ae}{base:aj}
theorem jeM{f:ab}{fd:aH}(F:Fun K "_law_walk" "_law_walk" Yf f fd)(B:Free0 mg)(gH:mg "enumerate" = none)(ww:Fn P w K mg base 16 "_law_known" ["_law_box","_law_claim_here"] jb1)(wF:Fn P w K mg base 16 "_law_denied" ["_law_box","_law_goal"] jap)(eY:Fn P w K mg base 15 "_law_source" ["_law_box","_law_term_here"] jbY)(cq:Fn P w K mg base 14 "_law_kept" ["_law_some","_law_one"] Yc)(cM:Fn P w K mg base 1 "_law_tie" ["_law_one","_law_other"] zD)(cV:Fn P w K mg base 1 "_law_more" ["_law_one","_law_more_here"] qw)(dM:Fn P w K mg base 2 "_law_spot" ["_law_box","_law_place_here"] Jz)(df:Fn P w K mg base 1 "_law_version" ["_law_box","_law_r"] Kc)(ed:Fn P w K mg base 1 "_law_entry" ["_law_version_here","_law_spot_here"] zU):FnOk P w K mg base CX0 17 f fd ["_law_straight_here","_law_goal"] jbW:=by
 have sc:FnScope ["_law_straight_here","_law_goal","_law_box","_law_n","_law_row","_law_old","_law_here","_law_worth","_law_new"] ["_law_straight_here","_law_goal"] (jm Yf):=fQ;refine F.okZ sc (fun vs H Q E h=>?_) (fun au A outer s H vs Q E hr h=>?_)
 .obtain⟨a,R,rs,k,v,rfl,_⟩:=h
  rfl
 have hu:(A.deeper (cr "_law_walk" (jm Yf) s.heap.objs.size f au)).units+1 < cLine:=by have:=hr.units;omega
 obtain⟨a,R,rs,k,v,rfl,ha,cA,hl,hG,hk,hv,q⟩:=h;refine⟨_,(jd (jw (i:=2) sc.nd rfl oQ (jdE (zk jq qf (zk jq qf (zk jq jcG (zk jq qf (zk jq qf (zk jq qf jdB)))))) rfl rfl (by simp) (by decide)))
   (jd (kx hu (zpv 2) jq (jK jb) rfl)
   (jd (kx hu (zpv 2) jq (jK jb) rfl)
   (jd (kx hu (zpv 2) jq (jK jb) rfl)
   (jd (kL ee rfl (KQ (by rfl) gH (ja (zpv 0) jb)) (kH rfl (jz (jx (i:=3) sc.nd rfl oQ) (jz (jx (i:=4) sc.nd rfl oQ) ky))) (ji (jN (jC kh (jp ju (zpv 4) jc (fun _ _=>rfl)) jq (jH _)) (ji (jA (jh ww hr (ja (zpv 2) (ja (jp ju (zpv 4) jc (fun _ _=>rfl)) jb))))) (ji (jN (jC kh (jp ju (zpv 4) jc (fun _ _=>rfl)) jq (jH _)) (ji (kx hu (jX hu (zpv 2) jq (fun _ _=>rfl)) (jp ju (zpv 4) jc (fun _ _=>rfl)) (jh cV hr (ja (jh eY hr (ja (zpv 2) (ja (jp ju (zpv 4) jc (fun _ _=>rfl)) jb))) (ja (jp ju (zpv 4) jc (fun _ _=>rfl)) jb))) rfl)) (ji (jN (jC kh (jp ju (zpv 4) jc (fun _ _=>rfl)) jq (jH _)) (ji (kx hu (jX hu (zpv 2) jq (fun _ _=>rfl)) (jp ju (zpv 4) jc (fun _ _=>rfl)) (zpd (j5 (jt (j5 (jt kR (jt (kn 3) jP))) (jt zc jP)))) rfl)) (jd (jw (i:=5) sc.nd rfl oQ (jh df hr (ja (zpv 2) (ja (jp ju (zpv 4) jc (fun _ _=>rfl)) jb))))
   (jd (jN (jC kh (jp ju (zpv 4) jc (fun _ _=>rfl)) jq (jH _)) (ji (kx hu (jX hu (zpv 2) jq (fun _ _=>rfl)) (jR (ja jq (ja (zpv 3) jb))) zP rfl)) (jd (jw (i:=6) sc.nd rfl oQ (jh dM hr (ja (zpv 2) (ja (jp ju (zpv 4) jc (fun _ _=>rfl)) jb))))
   (jd (jw (i:=7) sc.nd rfl oQ (jh cV hr (ja (jh eY hr (ja (zpv 2) (ja (jp ju (zpv 4) jc (fun _ _=>rfl)) jb))) (ja (jp ju (zpv 4) jc (fun _ _=>rfl)) jb))))
   (jd (jA (jh cq hr (ja (jX hu (zpv 2) jq (fun _ _=>rfl)) (ja (zpv 6) jb))))
   (jd (jA (kg bS dj dh j0 (jX hu (zpv 2) jq (fun _ _=>rfl)) (ja (zpd (j5 (jt (j5 (jt kR (jt (kn 3) jP))) (jt (kn 5) (jt (kn 6) (jt (kn 7) jP)))))) jb)))
   (jd (jw (i:=8) sc.nd rfl oQ (jh ed hr (ja (zpd (j5 (jt kR (jt (kn 3) jP)))) (ja (zpv 6) jb))))
   (jd (jA (jh cq hr (ja (jX hu (zpv 2) jq (fun _ _=>rfl)) (ja (jh cM hr (ja (zpv 8) (ja (zpv 7) jb))) jb))))
   (ji (jA (jh cq hr (ja (jX hu (zpv 2) jq (fun _ _=>rfl)) (ja (jh cM hr (ja (zpv 7) (ja (zpv 8) jb))) jb))))))))))))
   (ji (kx hu (jX hu (zpv 2) jq (fun _ _=>rfl)) (jp ju (zpv 4) jc (fun _ _=>rfl)) (jp jZ (jK (ja (jR (ja jq (ja (zpv 3) jb))) (ja (zpd (j5 (jt kR (jt (kn 3) jP)))) jb))) (ym qL (by rfl) B.int_ Jq (ja (zR kh (jp ju (zpv 4) jc (fun _ _=>rfl)) jq (jH _)) jb)) (fun _ _=>rfl)) rfl)))))))))))
   (jd (jA (jh wF hr (ja (zpv 2) (ja (zpv 1) jb))))
   (ji (jB (zpv 2))))))))),?_⟩
 refine jG (σ':=[some (.ref a),some v,none,none,none,none,none,none,none]) rfl ?_
 try dsimp only[y9]
 refine jfa ?_;intro _ _ _ _ _ _;have L:=(Lay.zero H)
 refine fun o h0=>?_
 have L0:=L.step h0 (.dK []);generalize upd H o (.dK [])=G0 at *;refine fun a1 h1=>?_
 have L1:=L0.step h1 (.dK []);generalize upd G0 a1 (.dK [])=G1 at *;refine fun a2 h2=>?_
 have L2:=L1.step h2 (.dK []);generalize upd G1 a2 (.dK [])=G2 at *;refine fun a3 h3=>?_
 have L3:=L2.step h3 (.dT []);generalize upd G2 a3 (.dT [])=G3 at *;refine fun a4 h4=>?_
 have L4:=L3.step h4 (.dK []);generalize upd G3 a4 (.dK [])=G4 at *;refine fun a5 h5=>?_
 have L5:=L4.step h5 (.dK []);generalize upd G4 a5 (.dK [])=G5 at *;refine fun a6 h6=>?_
 have L6:=L5.step h6 (.dK []);generalize upd G5 a6 (.dK [])=G6 at *;refine⟨(L6.o (o,.dK []) (by simp)).1,[(.inr "stands",.ref a1),(.inr "now",.ref a2),(.inr "versions",.ref a3),(.inr "spots",.ref a4),(.inr "ends",.ref a5),(.inr "ties",.ref a6)],rfl,by show 6<=15;decide,?_⟩;refine gQ ?_;rw[show Kg [] [(Sum.inr "stands",V.ref a1),(Sum.inr "now",V.ref a2),(Sum.inr "versions",V.ref a3),(Sum.inr "spots",V.ref a4),(Sum.inr "ends",V.ref a5),(Sum.inr "ties",V.ref a6)]=([(Sum.inr "stands",V.ref a1),(Sum.inr "now",V.ref a2),(Sum.inr "versions",V.ref a3),(Sum.inr "spots",V.ref a4),(Sum.inr "ends",V.ref a5),(Sum.inr "ties",V.ref a6)]:List (Key×V)) from rfl];have M6:=Lay.set (os:=[(a1,HO.dK []),(a2,HO.dK []),(a3,HO.dT []),(a4,HO.dK []),(a5,HO.dK []),(a6,HO.dK [])]) (show Lay H [(o,HO.dK []),(a1,HO.dK []),(a2,HO.dK []),(a3,HO.dT []),(a4,HO.dK []),(a5,HO.dK []),(a6,HO.dK [])] G6 from L6) (.dK [(Sum.inr "stands",V.ref a1),(Sum.inr "now",V.ref a2),(Sum.inr "versions",V.ref a3),(Sum.inr "spots",V.ref a4),(Sum.inr "ends",V.ref a5),(Sum.inr "ties",V.ref a6)]);generalize upd G6 o (.dK [(Sum.inr "stands",V.ref a1),(Sum.inr "now",V.ref a2),(Sum.inr "versions",V.ref a3),(Sum.inr "spots",V.ref a4),(Sum.inr "ends",V.ref a5),(Sum.inr "ties",V.ref a6)])=K6 at *;refine⟨sm rfl,fun a7 h7=>⟨_,rfl,o,_,rfl,.k (k:=.inr "each") (kvs:=[(Sum.inr "stands",V.ref a1),(Sum.inr "now",V.ref a2),(Sum.inr "versions",V.ref a3),(Sum.inr "spots",V.ref a4),(Sum.inr "ends",V.ref a5),(Sum.inr "ties",V.ref a6)]) ((M6.step h7 (.lst [])).o (o,.dK [(Sum.inr "stands",V.ref a1),(Sum.inr "now",V.ref a2),(Sum.inr "versions",V.ref a3),(Sum.inr "spots",V.ref a4),(Sum.inr "ends",V.ref a5),(Sum.inr "ties",V.ref a6)]) (by simp)).1 (by show 6 < aE;exact jI (by decide)),?_⟩⟩;rw[show km (κ:=Key) [(Sum.inr "stands",V.ref a1),(Sum.inr "now",V.ref a2),(Sum.inr "versions",V.ref a3),(Sum.inr "spots",V.ref a4),(Sum.inr "ends",V.ref a5),(Sum.inr "ties",V.ref a6)] (Sum.inr "each") (V.ref a7)=([(Sum.inr "stands",V.ref a1),(Sum.inr "now",V.ref a2),(Sum.inr "versions",V.ref a3),(Sum.inr "spots",V.ref a4),(Sum.inr "ends",V.ref a5),(Sum.inr "ties",V.ref a6),(Sum.inr "each",V.ref a7)]:List (Key×V)) from rfl];have M7:=Lay.set (os:=[(a1,HO.dK []),(a2,HO.dK []),(a3,HO.dT []),(a4,HO.dK []),(a5,HO.dK []),(a6,HO.dK []),(a7,HO.lst [])]) (show Lay H [(o,HO.dK [(Sum.inr "stands",V.ref a1),(Sum.inr "now",V.ref a2),(Sum.inr "versions",V.ref a3),(Sum.inr "spots",V.ref a4),(Sum.inr "ends",V.ref a5),(Sum.inr "ties",V.ref a6)]),(a1,HO.dK []),(a2,HO.dK []),(a3,HO.dT []),(a4,HO.dK []),(a5,HO.dK []),(a6,HO.dK []),(a7,HO.lst [])] _ from M6.step h7 (.lst [])) (.dK [(Sum.inr "stands",V.ref a1),(Sum.inr "now",V.ref a2),(Sum.inr "versions",V.ref a3),(Sum.inr "spots",V.ref a4),(Sum.inr "ends",V.ref a5),(Sum.inr "ties",V.ref a6),(Sum.inr "each",V.ref a7)]);generalize upd (upd K6 a7 (.lst [])) o (.dK [(Sum.inr "stands",V.ref a1),(Sum.inr "now",V.ref a2),(Sum.inr "versions",V.ref a3),(Sum.inr "spots",V.ref a4),(Sum.inr "ends",V.ref a5),(Sum.inr "ties",V.ref a6),(Sum.inr "each",V.ref a7)])=K7 at *;refine⟨sm rfl,fun a8 h8=>⟨_,rfl,o,_,rfl,.k (k:=.inr "rise") (kvs:=[(Sum.inr "stands",V.ref a1),(Sum.inr "now",V.ref a2),(Sum.inr "versions",V.ref a3),(Sum.inr "spots",V.ref a4),(Sum.inr "ends",V.ref a5),(Sum.inr "ties",V.ref a6),(Sum.inr "each",V.ref a7)]) ((M7.step h8 (.lst [])).o (o,.dK [(Sum.inr "stands",V.ref a1),(Sum.inr "now",V.ref a2),(Sum.inr "versions",V.ref a3),(Sum.inr "spots",V.ref a4),(Sum.inr "ends",V.ref a5),(Sum.inr "ties",V.ref a6),(Sum.inr "each",V.ref a7)]) (by simp)).1 (by show 7 < aE;exact jI (by decide)),?_⟩⟩;rw[show km (κ:=Key) [(Sum.inr "stands",V.ref a1),(Sum.inr "now",V.ref a2),(Sum.inr "versions",V.ref a3),(Sum.inr "spots",V.ref a4),(Sum.inr "ends",V.ref a5),(Sum.inr "ties",V.ref a6),(Sum.inr "each",V.ref a7)] (Sum.inr "rise") (V.ref a8)=([(Sum.inr "stands",V.ref a1),(Sum.inr "now",V.ref a2),(Sum.inr "versions",V.ref a3),(Sum.inr "spots",V.ref a4),(Sum.inr "ends",V.ref a5),(Sum.inr "ties",V.ref a6),(Sum.inr "each",V.ref a7),(Sum.inr "rise",V.ref a8)]:List (Key×V)) from rfl];have M8:=Lay.set (os:=[(a1,HO.dK []),(a2,HO.dK []),(a3,HO.dT []),(a4,HO.dK []),(a5,HO.dK []),(a6,HO.dK []),(a7,HO.lst []),(a8,HO.lst [])]) (show Lay H [(o,HO.dK [(Sum.inr "stands",V.ref a1),(Sum.inr "now",V.ref a2),(Sum.inr "versions",V.ref a3),(Sum.inr "spots",V.ref a4),(Sum.inr "ends",V.ref a5),(Sum.inr "ties",V.ref a6),(Sum.inr "each",V.ref a7)]),(a1,HO.dK []),(a2,HO.dK []),(a3,HO.dT []),(a4,HO.dK []),(a5,HO.dK []),(a6,HO.dK []),(a7,HO.lst []),(a8,HO.lst [])] _ from M7.step h8 (.lst [])) (.dK [(Sum.inr "stands",V.ref a1),(Sum.inr "now",V.ref a2),(Sum.inr "versions",V.ref a3),(Sum.inr "spots",V.ref a4),(Sum.inr "ends",V.ref a5),(Sum.inr "ties",V.ref a6),(Sum.inr "each",V.ref a7),(Sum.inr "rise",V.ref a8)]);generalize upd (upd K7 a8 (.lst [])) o (.dK [(Sum.inr "stands",V.ref a1),(Sum.inr "now",V.ref a2),(Sum.inr "versions",V.ref a3),(Sum.inr "spots",V.ref a4),(Sum.inr "ends",V.ref a5),(Sum.inr "ties",V.ref a6),(Sum.inr "each",V.ref a7),(Sum.inr "rise",V.ref a8)])=K8 at *;refine⟨sm rfl,fun a9 h9=>⟨_,rfl,o,_,rfl,.k (k:=.inr "puts") (kvs:=[(Sum.inr "stands",V.ref a1),(Sum.inr "now",V.ref a2),(Sum.inr "versions",V.ref a3),(Sum.inr "spots",V.ref a4),(Sum.inr "ends",V.ref a5),(Sum.inr "ties",V.ref a6),(Sum.inr "each",V.ref a7),(Sum.inr "rise",V.ref a8)]) ((M8.step h9 (.lst [])).o (o,.dK [(Sum.inr "stands",V.ref a1),(Sum.inr "now",V.ref a2),(Sum.inr "versions",V.ref a3),(Sum.inr "spots",V.ref a4),(Sum.inr "ends",V.ref a5),(Sum.inr "ties",V.ref a6),(Sum.inr "each",V.ref a7),(Sum.inr "rise",V.ref a8)]) (by simp)).1 (by show 8 < aE;exact jI (by decide)),?_⟩⟩;rw[show km (κ:=Key) [(Sum.inr "stands",V.ref a1),(Sum.inr "now",V.ref a2),(Sum.inr "versions",V.ref a3),(Sum.inr "spots",V.ref a4),(Sum.inr "ends",V.ref a5),(Sum.inr "ties",V.ref a6),(Sum.inr "each",V.ref a7),(Sum.inr "rise",V.ref a8)] (Sum.inr "puts") (V.ref a9)=([(Sum.inr "stands",V.ref a1),(Sum.inr "now",V.ref a2),(Sum.inr "versions",V.ref a3),(Sum.inr "spots",V.ref a4),(Sum.inr "ends",V.ref a5),(Sum.inr "ties",V.ref a6),(Sum.inr "each",V.ref a7),(Sum.inr "rise",V.ref a8),(Sum.inr "puts",V.ref a9)]:List (Key×V)) from rfl];have M9:=Lay.set (os:=[(a1,HO.dK []),(a2,HO.dK []),(a3,HO.dT []),(a4,HO.dK []),(a5,HO.dK []),(a6,HO.dK []),(a7,HO.lst []),(a8,HO.lst []),(a9,HO.lst [])]) (show Lay H [(o,HO.dK [(Sum.inr "stands",V.ref a1),(Sum.inr "now",V.ref a2),(Sum.inr "versions",V.ref a3),(Sum.inr "spots",V.ref a4),(Sum.inr "ends",V.ref a5),(Sum.inr "ties",V.ref a6),(Sum.inr "each",V.ref a7),(Sum.inr "rise",V.ref a8)]),(a1,HO.dK []),(a2,HO.dK []),(a3,HO.dT []),(a4,HO.dK []),(a5,HO.dK []),(a6,HO.dK []),(a7,HO.lst []),(a8,HO.lst []),(a9,HO.lst [])] _ from M8.step h9 (.lst [])) (.dK [(Sum.inr "stands",V.ref a1),(Sum.inr "now",V.ref a2),(Sum.inr "versions",V.ref a3),(Sum.inr "spots",V.ref a4),(Sum.inr "ends",V.ref a5),(Sum.inr "ties",V.ref a6),(Sum.inr "each",V.ref a7),(Sum.inr "rise",V.ref a8),(Sum.inr "puts",V.ref a9)]);generalize upd (upd K8 a9 (.lst [])) o (.dK [(Sum.inr "stands",V.ref a1),(Sum.inr "now",V.ref a2),(Sum.inr "versions",V.ref a3),(Sum.inr "spots",V.ref a4),(Sum.inr "ends",V.ref a5),(Sum.inr "ties",V.ref a6),(Sum.inr "each",V.ref a7),(Sum.inr "rise",V.ref a8),(Sum.inr "puts",V.ref a9)])=K9 at *;obtain⟨I0,N0⟩:=jgO (show Lay H [(o,.dK (zN (jfq o a1 a2 a3 a4 a5 a6 a7 a8 a9))),(a1,.dK []),(a2,.dK []),(a3,.dT []),(a4,.dK []),(a5,.dK []),(a6,.dK []),(a7,.lst []),(a8,.lst []),(a9,.lst [])] K9 from M9);have s9:=M9.s;obtain⟨A0,eA⟩:∃A0,A0=jfq o a1 a2 a3 a4 a5 a6 a7 a8 a9:=⟨_,rfl⟩
 rw[<- eA]at I0 N0;obtain rfl:o=A0.o:=by rw[eA];rfl
 clear eA M9 M8 M7 M6 L6 L5 L4 L3 L2 L1 L0 L h0 h1 h2 h3 h4 h5 h6 h7 h8 h9;have eU:=cA.length;rw[aB]at eU;let Pv:Nat->L2.St->Hp->Prop:=fun i σ G=>∃u3 u4 u5 u6 u7 u8,σ=[some (.ref a),some v,some (.ref A0.o),u3,u4,u5,u6,u7,u8]/\MvB A0 K9 G/\BxAt (8 * i) A0 (Cs.none.rows (R.take i) 0) G
 refine⟨_,rfl,a,rfl,⟨_,SqL.of (s9 _ _ ha)⟩,?_⟩;refine Yv (xs:=rs) Pv ⟨none,none,none,none,none,none,rfl,.same (fun _ _ e=>e),I0⟩ ?_ ?_ ?_
 .rintro i σ G _ ⟨u3,u4,u5,u6,u7,u8,rfl,m,_⟩
  exact SqL.of (JO N0 s9 m _ _ ha)
 .rintro i y σ G t hy ⟨u3,u4,u5,u6,u7,u8,rfl,m,I⟩ ht
  have hi:i < R.length:=by rw[eU];exact (bI.mp hy).1
  have ci:Held H R[i].toD y:=kz cA (by rw[bH,aK hi];rfl) hy;have vF:=hG R[i] (dP hi);have S:=(CG.none.rows (n:=0) (R:=R.take i) (by rw[bZ];omega) (by rw[bZ];omega) fun r hr=>hG r (xx hr)).s;have s3:=jk ht (.tup [.int i,y]);have e3:upd G t (.tup [.int i,y]) t=some (.tup [.int i,y]):=jf;have I':=I.same s3;have iM:=(ci.mono (JO N0 s9 m)).mono s3;have ng:∀σ' G',(∃u3 u4 u5 u6 u7 u8,σ'=[some (.ref a),some v,some (.ref A0.o),u3,u4,u5,u6,u7,u8])->MvB A0 (upd G t (.tup [.int i,y])) G'->BxAt (8 * i+8) A0 ((Cs.none.rows (R.take i) 0).take i R[i]) G'->Pv (i+1) σ' G':=fun σ' G' ⟨u3,u4,u5,u6,u7,u8,e⟩ m' Ho=>⟨u3,u4,u5,u6,u7,u8,e,m.trans ((MvB.same s3).trans m'),by
   rw[dO,aK hi];show BxAt (8 * (i+1)) A0 (Cs.none.rows (R.take i++[R[i]]) 0) G';rw[YZ,bZ,LV (cD hi),Dy];exact Ho.mono (by omega)⟩
  generalize upd G t (.tup [.int i,y])=G1 at *;generalize Cs.none.rows (R.take i) 0=c at *;have hm:0+2 * (R.take i).length<=80:=by rw[bZ];omega
  generalize 0+2 * (R.take i).length=m1 at *;have hi40:i < 40:=by omega
  refine⟨t,_,rfl,SqT.of e3,rfl,_,_,rfl,_,_,rfl,rfl,?_⟩;refine jG (σ':=[some (.ref a),some v,some (.ref A0.o),some (.int i),some y,u5,u6,u7,u8]) rfl ?_;generalize R[i]=rw at *;clear ci I ht e3 hy;clear_value Pv;rcases rw with⟨x,tm,k'⟩ | ⟨r,x,d,tm,k'⟩ | ⟨x⟩ | ⟨r⟩ | ⟨C⟩
  .obtain⟨g1,g2,g3⟩:=vF
   obtain⟨b,y0,y1,y2,y3,rfl,hb,h0,h1,h2,h3⟩:=yf iM
   cases jv h0
   cases jv h1
   cases kc h3
   refine⟨_,rfl,b,_,_,_,rfl,rfl,SqT.of hb,jg (j:=0) rfl,rfl,_,rfl,ku ?_⟩;refine⟨_,rfl,b,_,_,_,rfl,rfl,SqT.of hb,jg (j:=0) rfl,rfl,_,rfl,kO ?_⟩;refine⟨_,rfl,_,rfl,b,_,_,_,rfl,rfl,SqT.of hb,jg (j:=2) rfl,8 * i,m1+1,A0,c,tm,y2,rfl,I',by omega,h2,by omega,fun r x d e=>by subst e;exact (S.spot g2.2.1 g2.2.2).gp (by omega),fun y H1 m2 I2 hy=>?_⟩;have de:=I'.tk m2 _ _ hb;refine⟨_,rfl,b,_,_,_,rfl,rfl,SqT.of de,jg (j:=3) rfl,y,k',_,rfl,hy,fun z H2 s2 hz=>?_⟩;have I3:=I2.same s2;obtain⟨kvs,k1,k2,_⟩:=I3.st;refine⟨_,rfl,A0.o,_,rfl,jfo I3.o,_,rfl,b,_,_,_,rfl,rfl,SqT.of (s2 _ _ de),jg (j:=1) rfl,A0.st,_,rfl,.k (k:=.inr x) k1 (jI (by omega)),?_⟩;obtain⟨m3,I4⟩:=I3.setst (x:=x) k1 hz;exact ng _ _ ⟨_,_,_,_,_,_,rfl⟩ (m2.trans ((MvB.same s2).trans m3)) (I4.mono (by omega))
  .obtain⟨g1,g2,g3,g4,g5⟩:=vF
   obtain⟨b,y0,y1,y2,y3,y4,rfl,hb,h0,h1,h2,h3,h4⟩:=JV iM
   cases jv h0
   cases jv h1
   cases kc h4
   refine⟨_,rfl,b,_,_,_,rfl,rfl,SqT.of hb,jg (j:=0) rfl,rfl,_,rfl,ku ?_⟩;refine⟨_,rfl,b,_,_,_,rfl,rfl,SqT.of hb,jg (j:=0) rfl,rfl,_,rfl,ku ?_⟩;refine⟨_,rfl,b,_,_,_,rfl,rfl,SqT.of hb,jg (j:=0) rfl,rfl,_,rfl,ku ?_⟩;refine⟨_,rfl,_,rfl,b,_,_,_,rfl,rfl,SqT.of hb,jg (j:=1) rfl,8 * i,A0,c,r,rfl,I',by omega,fun z H1 m2 I2 hz=>?_⟩;refine gQ ?_;have de:=I'.tk m2 _ _ hb;refine⟨_,rfl,b,_,_,_,rfl,rfl,SqT.of de,jg (j:=0) rfl,rfl,_,rfl,ku ?_⟩;refine⟨_,rfl,_,rfl,b,_,_,_,rfl,rfl,SqT.of de,jg (j:=2) rfl,8 * i+1,A0,c,x,d,_,rfl,I2,(I'.tk m2).held h2,fun sp H2 s2 aV=>?_⟩;refine gQ ?_;have cB:=s2 _ _ de;refine⟨_,rfl,_,rfl,b,_,_,_,rfl,rfl,SqT.of cB,jg (j:=3) rfl,8 * i+1,m1+1,A0,c,tm,y3,rfl,I2.same s2,by omega,((I'.tk m2).held h3).mono s2,by omega,fun r x d e=>by subst e;exact (S.spot g4.2.1 g4.2.2).gp (by omega),fun y H3 m4 I4 hy=>?_⟩;have t4:=(I2.same s2).tk m4;have ij:=t4 _ _ cB;refine⟨_,rfl,b,_,_,_,rfl,rfl,SqT.of ij,jg (j:=4) rfl,y,k',_,rfl,hy,fun wo H5 s5 EF=>?_⟩;refine gQ ?_;have I5:=I4.same s5;have FZ:=s5 _ _ ij;have uW:=(t4.held aV).mono s5;have EA:=(t4.held (hz.mono s2)).mono s5;obtain⟨kvs,l1,l3⟩:=I5.kv 0 (by decide);have w1:=((S.spot g2 g3).gp (by omega)).shw (by omega);obtain⟨m6,I6⟩:=I5.spot l1 uW w1.1;refine⟨_,rfl,A0.o,_,rfl,YB I5.o,_,rfl,A0.t 0,sp,kvs,_,rfl,l1,by omega,uW,⟨_,rfl⟩,w1,?_⟩;have t6:=I5.tk m6;generalize upd H5 (A0.t 0) _=H6 at *;have ma:=t6.held uW;have Ay:=t6.held EF;have Ez:=t6.held EA;have iX:=t6 _ _ FZ;obtain⟨ls,l7,l8⟩:=I6.l 2 (by decide);refine⟨_,rfl,A0.o,_,rfl,jjd I6.o,.inl ⟨rfl,_,SqL.of l7⟩,.tup [yr i,c.ver r,p2 (c.spot x d),p2 (mor (c.stand tm).1 k')],⟨_,rfl,aX rfl,_,_,rfl,⟨_,rfl,aX rfl,_,_,rfl,rfl,_,_,rfl,⟨_,rfl,jO⟩,rfl⟩,_,_,rfl,⟨_,rfl,Ez⟩,_,_,rfl,⟨_,rfl,ma⟩,_,_,rfl,⟨_,rfl,Ay⟩,rfl⟩,fun Eh H7 s7 _=>?_⟩;have I7:=I6.same s7;obtain⟨m8,I8⟩:=I7.addl (i:=2) (v:=Eh) (by decide) (s7 _ _ l7) (aG l8 (aD _));refine⟨A0.l 2,ls,_,rfl,rfl,s7 _ _ l7,jI (by omega),?_⟩;have t8:=I7.tk m8;generalize upd H7 (A0.l 2) _=H8 at *;have E1:=t8.held (ma.mono s7);have ED:=t8.held (Ay.mono s7);have FY:=t8 _ _ (s7 _ _ iX);refine⟨yr i,⟨_,rfl,aX rfl,_,_,rfl,rfl,_,_,rfl,⟨_,rfl,jO⟩,rfl⟩,fun pw H9 lS Fa=>⟨_,rfl,pw,sp,_,_,rfl,Fa,E1.mono lS,fun en i6 cQ Bp=>?_⟩⟩;refine gQ ?_;have fU:=I8.same (lS.trans cQ);have Az:=ED.mono (lS.trans cQ);have F5:=(lS.trans cQ) _ _ FY;refine⟨_,rfl,A0.o,_,rfl,yQ fU.o,_,rfl,_,rfl,en,wo,_,_,rfl,Bp,Az,fun x1 bW br o6=>?_⟩;have bR:=fU.same br;have gv:Gp (m1+2) (mor (c.stand tm).1 k'):=((S.stand (by omega) g4).mor g5).gp (by omega);have ge:Gp (m1+2) (j7 (yr i) (c.spot x d)):=(show Gs (m1+2) (j7 (yr i) (c.spot x d)) from⟨.ent (.put (by omega)) ((S.spot g2 g3).1) (((S.spot g2 g3).gp (by omega)).2),bF _⟩).gp (by omega);have w2:=qo ge gv (by omega);have w3:=qo gv ge (by omega);obtain⟨dR,l9,eE⟩:=bR.kv 2 (by decide);obtain⟨fL,dY⟩:=bR.tie l9 o6 w2.1;refine⟨A0.t 2,x1,dR,_,rfl,l9,by omega,o6,⟨_,rfl⟩,w2,?_⟩;have sY:=bR.tk fL;generalize upd bW (A0.t 2) _=gI at *;have FI:=sY.held (Bp.mono br);have EE:=sY.held (Az.mono br);have F4:=sY _ _ (br _ _ F5);refine⟨_,rfl,A0.o,_,rfl,yQ dY.o,_,rfl,_,rfl,wo,en,_,_,rfl,EE,FI,fun x2 Hq cy oZ=>?_⟩;have oj:=dY.same cy;obtain⟨nq,Ar,np⟩:=oj.kv 2 (by decide);obtain⟨uv,Hn⟩:=oj.tie Ar oZ w3.1;refine⟨A0.t 2,x2,nq,_,rfl,Ar,by omega,oZ,⟨_,rfl⟩,w3,?_⟩;have D9:=oj.tk uv;generalize upd Hq (A0.t 2) _=H14 at *;have F3:=D9 _ _ (cy _ _ F4);have Eo:=m2.trans ((MvB.same s2).trans (m4.trans ((MvB.same s5).trans (m6.trans ((MvB.same s7).trans (m8.trans ((MvB.same (lS.trans cQ)).trans ((MvB.same br).trans (fL.trans ((MvB.same cy).trans uv))))))))));clear m2 s2 m4 s5 m6 s7 m8 lS cQ br fL cy uv;refine⟨_,rfl,sm rfl,fun q1 n1=>⟨yr i,⟨_,rfl,aX rfl,_,_,rfl,rfl,_,_,rfl,⟨_,rfl,jO⟩,rfl⟩,fun u G6 s6 AH=>⟨sm rfl,fun q2 n2=>?_⟩⟩⟩;have I7:=Hn.same ((jk n1 (.tup [.str "lost",.int i])).trans (s6.trans (jk n2 (.lst [.ref q1,u]))));have nT:=jk n2 (.lst [.ref q1,u]) _ _ (s6 _ _ (jk n1 (.tup [.str "lost",.int i]) _ _ F3));have vm:upd G6 q2 (.lst [.ref q1,u]) q2=some (.lst [.ref q1,u]):=jf;have s7:=(jk n1 (.tup [.str "lost",.int i])).trans (s6.trans (jk n2 (.lst [.ref q1,u])));have u0:=AH.mono (jk n2 (.lst [.ref q1,u]));generalize upd G6 q2 (.lst [.ref q1,u])=G7 at *;obtain⟨kvs,k1,k2,_⟩:=I7.nw;obtain⟨m8,I8⟩:=I7.setnw (r:=r) k1 u0;refine⟨_,rfl,b,_,_,_,rfl,rfl,SqT.of nT,jg (j:=0) rfl,rfl,.inr ⟨true,rfl,q2,_,_,_,rfl,rfl,SqL.of vm,jg (j:=1) rfl,_,rfl,A0.o,_,rfl,jfp I7.o,_,rfl,b,_,_,_,rfl,rfl,SqT.of nT,jg (j:=1) rfl,A0.nw,_,rfl,.k (k:=.inr r) k1 (jI (by omega)),?_⟩⟩;exact ng _ _ ⟨_,_,_,_,_,_,rfl⟩ (Eo.trans ((MvB.same s7).trans m8)) (I8.congr (by omega) Jg.1 Jg.2.1 Jg.2.2)
  .obtain⟨b,y0,y1,rfl,hb,h0,h1⟩:=qv iM
   cases jv h0
   cases jv h1
   refine⟨_,rfl,b,_,_,_,rfl,rfl,SqT.of hb,jg (j:=0) rfl,rfl,_,rfl,ku ?_⟩;refine⟨_,rfl,b,_,_,_,rfl,rfl,SqT.of hb,jg (j:=0) rfl,rfl,_,rfl,ku ?_⟩;refine⟨_,rfl,b,_,_,_,rfl,rfl,SqT.of hb,jg (j:=0) rfl,rfl,_,rfl,kO ?_⟩;refine⟨p2 (jcd i),⟨_,rfl,aX rfl,_,_,rfl,⟨_,rfl,aX rfl,_,_,rfl,rfl,_,_,rfl,⟨_,rfl,jO⟩,rfl⟩,_,_,rfl,rfl,rfl⟩,fun z H2 s2 hz=>?_⟩;have I3:=I'.same s2;obtain⟨kvs,k1,k2,_⟩:=I3.st;refine⟨_,rfl,A0.o,_,rfl,jfo I3.o,_,rfl,b,_,_,_,rfl,rfl,SqT.of (s2 _ _ hb),jg (j:=1) rfl,A0.st,_,rfl,.k (k:=.inr x) k1 (jI (by omega)),?_⟩;obtain⟨m3,I4⟩:=I3.setst (x:=x) k1 hz;exact ng _ _ ⟨_,_,_,_,_,_,rfl⟩ ((MvB.same s2).trans m3) (I4.mono (by omega))
  .obtain⟨b,y0,y1,rfl,hb,h0,h1⟩:=qv iM
   cases jv h0
   cases jv h1
   refine⟨_,rfl,b,_,_,_,rfl,rfl,SqT.of hb,jg (j:=0) rfl,rfl,_,rfl,ku ?_⟩;refine⟨_,rfl,b,_,_,_,rfl,rfl,SqT.of hb,jg (j:=0) rfl,rfl,_,rfl,ku ?_⟩;refine⟨_,rfl,b,_,_,_,rfl,rfl,SqT.of hb,jg (j:=0) rfl,rfl,_,rfl,ku ?_⟩;refine⟨_,rfl,_,rfl,b,_,_,_,rfl,rfl,SqT.of hb,jg (j:=1) rfl,8 * i,A0,c,r,rfl,I',by omega,fun z H1 m2 I2 hz=>?_⟩;refine gQ ?_;have de:=I'.tk m2 _ _ hb;refine⟨_,rfl,b,_,_,_,rfl,rfl,SqT.of de,jg (j:=0) rfl,rfl,_,rfl,kO ?_⟩;obtain⟨ks,j1,j2⟩:=I2.vs;refine⟨_,rfl,A0.o,_,rfl,jhr I2.o,_,rfl,sm rfl,fun p hp=>?_⟩;have s3:=jk hp (.tup [.str "lost",.int i]);have e1:upd H1 p (.tup [.str "lost",.int i]) p=some (.tup (([.inr "lost",.inl i]:List Key).map kV)):=jf;have I3:=I2.same s3;have ij:=s3 _ _ de;generalize upd H1 p (.tup [.str "lost",.int i])=H2 at *;refine⟨A0.vs,_,rfl,.t (k:=[.inr "lost",.inl i]) (s3 _ _ j1) e1 (jI (by omega)),?_⟩;obtain⟨m4,I4⟩:=I3.setvs (k:=[.inr "lost",.inl i]) (v:=.bl true) (s3 _ _ j1) j2;have F0:=I3.tk m4 _ _ ij;generalize upd H2 A0.vs _=H4 at *;refine⟨_,rfl,sm rfl,fun q1 n1=>⟨yr i,⟨_,rfl,aX rfl,_,_,rfl,rfl,_,_,rfl,⟨_,rfl,jO⟩,rfl⟩,fun u G6 s6 AH=>⟨sm rfl,fun q2 n2=>?_⟩⟩⟩;have I7:=I4.same ((jk n1 (.tup [.str "lost",.int i])).trans (s6.trans (jk n2 (.lst [.ref q1,u]))));have nT:=jk n2 (.lst [.ref q1,u]) _ _ (s6 _ _ (jk n1 (.tup [.str "lost",.int i]) _ _ F0));have vm:upd G6 q2 (.lst [.ref q1,u]) q2=some (.lst [.ref q1,u]):=jf;have s7:=(jk n1 (.tup [.str "lost",.int i])).trans (s6.trans (jk n2 (.lst [.ref q1,u])));have u0:Held (upd G6 q2 (.lst [.ref q1,u])) (Ym i) (.ref q1):=(jL (s6 _ _ jf) (je jE (je jO jr)):Held G6 (Ym i) (.ref q1)).mono (jk n2 _);generalize upd G6 q2 (.lst [.ref q1,u])=G7 at *;obtain⟨kvs,k1,k2,_⟩:=I7.nw;obtain⟨m8,I8⟩:=I7.setnw (r:=r) k1 u0;refine⟨_,rfl,b,_,_,_,rfl,rfl,SqT.of nT,jg (j:=0) rfl,rfl,.inr ⟨false,rfl,q2,_,_,_,rfl,rfl,SqL.of vm,jg (j:=0) rfl,_,rfl,A0.o,_,rfl,jfp I7.o,_,rfl,b,_,_,_,rfl,rfl,SqT.of nT,jg (j:=1) rfl,A0.nw,_,rfl,.k (k:=.inr r) k1 (jI (by omega)),?_⟩⟩;exact ng _ _ ⟨_,_,_,_,_,_,rfl⟩ (m2.trans ((MvB.same s3).trans (m4.trans ((MvB.same s7).trans m8)))) (I8.congr (by omega) rfl rfl fun i hi z=>by rcases ze hi with rfl | rfl | rfl <;> exact Iff.rfl)
  .obtain⟨b,y0,y1,rfl,hb,h0,h1⟩:=qv iM
   cases jv h0
   refine⟨_,rfl,b,_,_,_,rfl,rfl,SqT.of hb,jg (j:=0) rfl,rfl,_,rfl,kO ?_⟩;exact⟨_,rfl,_,rfl,b,_,_,_,rfl,rfl,SqT.of hb,jg (j:=1) rfl,8 * i,m1,A0,c,C,y1,rfl,I',by omega,S,by omega,vF,h1,fun G2 m2 I2=>ng _ _ ⟨_,_,_,_,_,_,rfl⟩ m2 I2⟩
 .rintro σ G ⟨u3,u4,u5,u6,u7,u8,rfl,m,I⟩
  rw[<- eU,cx]at I;have S:=(CG.none.rows (n:=0) (R:=R) (by omega) (by omega) hG).s;have sG:=JO N0 s9 m;refine⟨_,rfl,_,rfl,8 * R.length,0+2 * R.length,A0,_,k,v,rfl,I,by omega,S,by omega,hk,hv.mono sG,fun G1 m1 I1=>?_⟩;exact⟨_,rfl,q A0 G1 (JO N0 s9 (m.trans m1)) N0 (I1.mono (by omega))⟩
end
abbrev jfQ:aA:=top 34
abbrev JH:aA:=top 33
abbrev yL:aA:=top 35
theorem jft{ns:List Int}{k:Int}(h0:0<=k)(h:k < (ns.length:Int)):atI (ns.map V.int) k=some (.int (ns.getD k.toNat 0)):=by
 have hk:k.toNat < ns.length:=by omega
 have:=jg (xs:=ns.map V.int) (j:=k.toNat) (v:=.int (ns.getD k.toNat 0)) (by rw[bH,iF,aK hk];rfl);rw[show ((k.toNat:Nat):Int)=k by omega]at this;exact this
theorem Z3{xs:List Str}{i:Int}(h0:0<=i)(h:i < (xs.length:Int)):atI (xs.map V.str) i=some (.str (xs.getD i.toNat "")):=by
 have hk:i.toNat < xs.length:=by omega
 have:=jg (xs:=xs.map V.str) (j:=i.toNat) (v:=.str (xs.getD i.toNat "")) (by rw[bH,iF,aK hk];rfl);rw[show ((i.toNat:Nat):Int)=i by omega]at this;exact this
theorem jaJ:∀ys:List Nat,(ly "" (ys.map fun c=>(⟨#[c]⟩:Str))).cps.toList=ys:=by
 intro ys;have e:ly "" (ys.map fun c=>(⟨#[c]⟩:Str))=("" : Str).join (ys.map fun c=>(⟨#[c]⟩:Str)):=PySem.StrLaws.glued_eq_join _ _;rw[e];clear e;induction ys with
 | nil=>rfl
 | cons y r ih=>
  cases r with
  | nil=>rfl
  | cons z r=>
   show (((⟨#[y]⟩:Str)++("" : Str))++("" : Str).join ((z :: r).map fun c=>(⟨#[c]⟩:Str))).cps.toList=_;rw[mI,dQ,ih];rfl
def qA:Str:="abcdefghijklmnopqrstuvwxyz"
theorem ZL:qA.cps.toList=(bT 26).map (·+97):=by decide +kernel
def Ki(i:Int):Nat:=i.toNat+97
theorem Y4{i:Int}(h0:0<=i)(h1:i < 26):atI qA.cps.toList i=some (Ki i):=by
 have hk:i.toNat < 26:=by omega
 have:=jg (xs:=qA.cps.toList) (j:=i.toNat) (v:=Ki i) (by rw[ZL,bH,Mn hk];rfl);rw[show ((i.toNat:Nat):Int)=i by omega]at this;exact this
def qzS:Str:="qz"
def qzC(i:Int):Nat:=if i=0 then 113 else 122
theorem jiI{i:Int}(h0:0<=i)(h1:i < 2):atI qzS.cps.toList i=some (qzC i):=by
 have:i=0\/i=1:=by omega
 rcases this with rfl | rfl
 .decide +kernel
 .decide +kernel
def jav:List Str:=["row","is","at","set","put","know","lose","start","entry","own","nought","pick","least","lost"]
def jhX(c:Int)(k:Nat):Str:=jav.getD ((c / 7+(0+(k:Int))) % 14).toNat ""
def jhZ(c:Int)(k:Nat):Str:=⟨#[Ki ((c / 8+(0+(k:Int))) % 26)]⟩
def bsW(c spot:Int)(k j:Nat):Int:=c / 432+7 * (0+(j:Int)) * (0+(j:Int))+(0+(k:Int)) * (if decide (V.int (0+(j:Int))=V.int spot)=true then 1 else 0)
def lgW(c size spot:Int)(k:Nat):Str:=(⟨#[qzC (c / 144 % 2)]⟩:Str)++ly "" (((bT size.toNat).map fun j=>Ki (bsW c spot k j % 26)).map fun ch=>(⟨#[ch]⟩:Str))
def W10(x:Str):Prop:=(∀c∈x.cps.toList,97<=c/\c<=122)/\x.length<=10
theorem jgl:∀x∈("" : Str) :: jav,x.cps.toList.all (fun c=>decide (97<=c/\c<=122))=true/\x.length<=10:=by decide +kernel
theorem jgR{xs:List Str}{i:Nat}:xs.getD i ""∈("" : Str) :: xs:=by
 rw[iF]
 cases e:xs[i]? with
 | none=>exact bC ..
 | some x=>exact bG _ (lI e)
theorem je4{i:Int}(h0:0<=i)(h1:i < 26):97<=Ki i/\Ki i<=122:=by
 unfold Ki;omega
theorem jhW{c:Int}{n:Nat}:((bT n).map (jhX c)).length=n/\∀x∈(bT n).map (jhX c),W10 x:=by
 refine⟨by simp,fun x hx=>?_⟩;obtain⟨k,_,rfl⟩:=cc.mp hx;have:=jgl _ (jgR (xs:=jav) (i:=((c / 7+(0+(k:Int))) % 14).toNat));exact⟨fun ch h=>MQ (DW.mp this.1 ch h),this.2⟩
theorem jhY{c:Int}{n:Nat}:((bT n).map (jhZ c)).length=n/\∀x∈(bT n).map (jhZ c),W10 x:=by
 refine⟨by simp,fun x hx=>?_⟩;obtain⟨k,_,rfl⟩:=cc.mp hx;exact⟨fun ch h=>by cases aM.mp h;exact je4 (oK _ (by decide)) (oM _ (by decide)),by show 1<=10;decide⟩
theorem ji0{c size spot:Int}{n:Nat}(h:size < 8):((bT n).map (lgW c size spot)).length=n/\∀x∈(bT n).map (lgW c size spot),W10 x:=by
 refine⟨by simp,fun x hx=>?_⟩;obtain⟨k,_,rfl⟩:=cc.mp hx;have e:(lgW c size spot k).cps.toList=qzC (c / 144 % 2) :: ((bT size.toNat).map fun j=>Ki (bsW c spot k j % 26)):=by
  unfold lgW;rw[mI,dQ,jaJ];rfl
 refine⟨fun ch h=>?_,?_⟩
 .rw[e]at h
  rcases a_.mp h with rfl | h
  .unfold qzC
   split <;> decide
  .obtain⟨j,_,rfl⟩:=cc.mp h
   exact je4 (oK _ (by decide)) (oM _ (by decide))
 .show (lgW c size spot k).cps.size<=10
  rw[<- dA,e];simp;omega
def jea(K:aq):Sp:=fun vs H Q _=>∃(a:ab) (ns:List Int) (k:Int),vs=[.ref a,.int k]/\SqL K H a (ns.map V.int)/\0<=k/\k<=1000/\∀c:Int,Q (.int c) H
def jb0:Sp:=fun vs H Q _=>∃(s k:Int),vs=[.int s,.int k]/\∀c:Int,Q (.int c) H
def jbV:Sp:=fun vs H Q _=>∃(c:Int) (n:Nat),vs=[.int c,.int n]/\n<=14/\∀(l:ab) (ws:List Str) (H':Hp),ws.length=n/\(∀x∈ws,W10 x)->Same H H'->H l=none->H' l=some (.lst (ws.map V.str))->Q (.ref l) H'
theorem jar{α:Type}(f:Nat->α)(i:Nat):(bT (i+1)).map f=(bT i).map f++[f i]:=by rw[List.range_succ,bq];rfl
section
variable {P:az}{w:aw}{K:aq}{mg:Str->Option ae}{base:aj}
theorem jgG{f:ab}{fd:aH}(F:Fun K "_law_cell_at" "_law_cell_at" JH f fd)(B:Free0 mg):FnOk P w K mg base CX0 1 f fd ["_law_script","_law_k"] (jea K):=by
 have sc:FnScope ["_law_script","_law_k","_law_number"] ["_law_script","_law_k"] (jm JH):=fQ;refine F.okZ sc (fun vs H Q E h=>?_) (fun au A outer s H vs Q E hr h=>?_)
 .obtain⟨a,ns,k,rfl,_⟩:=h
  rfl
 obtain⟨a,ns,k,rfl,hS,h0,h1,q⟩:=h;have hl:(ns.map V.int).length=ns.length:=aB _;refine⟨_,(jd (jN (jC jaw (zpv 1) (qZ kN (by rfl) B.len_ Jp (ja (zpv 0) jb)) (jH _)) (ji (jB (jp jZ (zpv 0) (zpv 1) (fun _ _=>rfl)))) jJ)
   (jd (jw (i:=2) sc.nd rfl oQ (js qi (js k9 jc (zpv 1)) jc))
   (jd (jN (jC jhl (qZ kN (by rfl) B.len_ Jp (ja (zpv 0) jb)) jc (jH _)) (ji (jw (i:=2) sc.nd rfl oQ (js qi (js k9 (js jQ (jp jZ (zpv 0) (js jQ (zpv 1) (qZ kN (by rfl) B.len_ Jp (ja (zpv 0) jb))) (fun _ _=>rfl)) jc) jc) (js k9 (js k9 jc (zpv 1)) (zpv 1))))) jJ)
   (ji (jB (js jQ (zpv 2) jc)))))),?_⟩
 refine⟨_,rfl,_,rfl,a,_,rfl,.inl hS,_,_,rfl,rfl,_,rfl,yu (fun c=>?_) (fun c=>?_)⟩
 .have c':k < (ns.length:Int):=by
   have:=MQ c;rw[hl]at this;exact this
  exact⟨_,rfl,_,rfl,a,_,_,_,rfl,rfl,hS,jft h0 c',q _⟩
 .refine⟨_,rfl,_,_,rfl,rfl,.inl ⟨by decide,by decide⟩,_,_,rfl,rfl,?_⟩
  refine⟨_,rfl,a,_,rfl,.inl hS,_,_,rfl,rfl,_,rfl,yu (fun d=>?_) (fun d=>?_)⟩
  .have d':0 < ns.length:=by
    have:=MQ d;rw[hl]at this;omega
   have pB:0<=k % (ns.length:Int):=oK _ (by omega);have A5:k % (ns.length:Int) < (ns.length:Int):=oM _ (by omega);have nU:atI (ns.map V.int) (k % (((ns.map V.int).length:Nat):Int))=some (.int (ns.getD (k % (ns.length:Int)).toNat 0)):=by
    rw[hl];exact jft pB A5
   refine⟨_,rfl,_,rfl,_,rfl,a,_,rfl,.inl hS,_,_,rfl,rfl,(by rw[hl];omega),a,_,_,_,rfl,rfl,hS,nU,_,_,rfl,rfl,(by show (0:Int) < _;decide),_,_,rfl,rfl,.inr ⟨by decide,by decide⟩,_,rfl,_,_,rfl,rfl,.inl ⟨by decide,by decide⟩,_,rfl,_,_,rfl,rfl,.inr ⟨by omega,by omega⟩,_,_,rfl,rfl,?_⟩;exact⟨_,rfl,_,_,rfl,rfl,(by show (0:Int) < _;decide),q _⟩
  .exact⟨_,rfl,_,_,rfl,rfl,(by show (0:Int) < _;decide),q _⟩
theorem jeL{f:ab}{fd:aH}(F:Fun K "_law_words" "_law_words" yL f fd)(B:Free0 mg):FnOk P w K mg base CX0 1 f fd ["_law_cell","_law_many"] jbV:=by
 have sc:FnScope ["_law_cell","_law_many","_law_letters","_law_own","_law_size","_law_spot_here","_law_words_here","_law_k","_law_base"] ["_law_cell","_law_many"] (jm yL):=fQ;refine F.okZ sc (fun vs H Q E h=>?_) (fun au A outer s H vs Q E hr h=>?_)
 .obtain⟨c,n,rfl,_⟩:=h
  rfl
 obtain⟨c,n,rfl,hn,q⟩:=h;refine⟨_,(jd (jw (i:=2) sc.nd rfl oQ jq)
   (jd (jw (i:=3) sc.nd rfl oQ (jK (ja jq (ja jq (ja jq (ja jq (ja jq (ja jq (ja jq (ja jq (ja jq (ja jq (ja jq (ja jq (ja jq (ja jq jb))))))))))))))))
   (jd (jN (jC kh (js jQ (zpv 0) jc) jc (jH _)) (ji (jB (yF ["_law_k"] [0,3] rfl (zg (sc:=jm yL) (N:=["_law_cell","_law_many","_law_letters","_law_own","_law_size","_law_spot_here","_law_words_here","_law_k","_law_base"]) rfl rfl (by decide +kernel)) (yl (by rfl) B.range_ (ja (zpv 1) jb)) (fun s H ex=>⟨(jx (i:=0) (show ff (["_law_k","_law_cell","_law_own"]:List Str) by decide +kernel) rfl oQ),zo,(jp (je6 (K:=K)) (zpv 2) (js jQ (js qi (js jY (zpv 1) jc) (zpv 0)) jc) (fun _ _=>rfl))⟩)))) jJ)
   (jd (jw (i:=4) sc.nd rfl oQ (js jQ (zpv 0) jc))
   (jd (jN (jC kh (zpv 4) jc (jH _)) (ji (jB (yF ["_law_k"] [0,2] rfl (zg (sc:=jm yL) (N:=["_law_cell","_law_many","_law_letters","_law_own","_law_size","_law_spot_here","_law_words_here","_law_k","_law_base"]) rfl rfl (by decide +kernel)) (yl (by rfl) B.range_ (ja (zpv 1) jb)) (fun s H ex=>⟨(jx (i:=0) (show ff (["_law_k","_law_cell","_law_letters"]:List Str) by decide +kernel) rfl oQ),zo,(jp jbu (zpv 2) (js jQ (js qi (js jY (zpv 1) jc) (zpv 0)) jc) (fun _ _=>rfl))⟩)))) jJ)
   (jd (jw (i:=5) sc.nd rfl oQ (js jQ (js jY (zpv 0) jc) (zpv 4)))
   (jd (jw (i:=6) sc.nd rfl oQ (jK jb))
   (jd (kL ee rfl (yl (by rfl) B.range_ (ja (zpv 1) jb)) (jx (i:=7) sc.nd rfl oQ) (jd (yE (i:=8) sc.nd rfl oQ ["_law_j"] [0,5,7] rfl (zg (sc:=jm yL) (N:=["_law_cell","_law_many","_law_letters","_law_own","_law_size","_law_spot_here","_law_words_here","_law_k","_law_base"]) rfl rfl (by decide +kernel)) (yl (by rfl) B.range_ (ja (zpv 4) jb)) (fun s H ex=>⟨(jx (i:=0) (show ff (["_law_j","_law_cell","_law_spot_here","_law_k"]:List Str) by decide +kernel) rfl oQ),zo,(js qi (js qi (js jY (zpv 1) jc) (js k9 (js k9 jc (zpv 0)) (zpv 0))) (js k9 (zpv 3) (ym qL (by rfl) B.int_ Jq (ja (zR kh (zpv 0) (zpv 2) (jH _)) jb))))⟩))
   (ji (jA (kg bS dj dh j0 (zpv 6) (ja (js Jk (jp jbu jq (js jQ (js jY (zpv 0) jc) jc) (fun _ _=>rfl)) (kg PySem.F.plainAttrs_str PySem.F.slot_str_join PySem.F.type_str_join jgK jq (ja (yF ["_law_each"] [2] rfl (zg (sc:=jm yL) (N:=["_law_cell","_law_many","_law_letters","_law_own","_law_size","_law_spot_here","_law_words_here","_law_k","_law_base"]) rfl rfl (by decide +kernel)) (ko (zpv 8)) (fun s H ex=>⟨(jx (i:=0) (show ff (["_law_each","_law_letters"]:List Str) by decide +kernel) rfl oQ),zo,(jp jbu (zpv 1) (js jQ (zpv 0) jc) (fun _ _=>rfl))⟩)) jb))) jb))))))
   (ji (jB (zpv 6))))))))))),?_⟩
 refine⟨sm rfl,fun lo eW=>?_⟩;have s1:=jk eW (.lst [V.str "row",V.str "is",V.str "at",V.str "set",V.str "put",V.str "know",V.str "lose",V.str "start",V.str "entry",V.str "own",V.str "nought",V.str "pick",V.str "least",V.str "lost"]);have e1:upd H lo (.lst [V.str "row",V.str "is",V.str "at",V.str "set",V.str "put",V.str "know",V.str "lose",V.str "start",V.str "entry",V.str "own",V.str "nought",V.str "pick",V.str "least",V.str "lost"]) lo=some (.lst (jav.map V.str)):=jf;generalize upd H lo (.lst [V.str "row",V.str "is",V.str "at",V.str "set",V.str "put",V.str "know",V.str "lose",V.str "start",V.str "entry",V.str "own",V.str "nought",V.str "pick",V.str "least",V.str "lost"])=H1 at *;have lU:∀{x y:Int},0 < y->0<=x % y/\x % y < y:=fun h=>⟨oK _ (by omega),oM _ h⟩
 have Be:qA.length<=aE:=by show 26<=aE;rw[fX];decide
 have iQ:qzS.length<=aE:=by show 2<=aE;rw[fX];decide
 refine⟨_,rfl,_,_,rfl,rfl,(by show (0:Int) < _;decide),rfl,_,rfl,yu (fun d=>?_) (fun d=>?_)⟩
 .refine⟨_,rfl,(n:Int),rfl,by omega,by omega,fun p hp=>?_⟩
  have s2:=jk hp (.lst []);refine Jm (fun i σ' G'=>∃(u:Option V),σ'=[u,some (.int c),some (.ref lo)]/\Same H1 G'/\G' p=some (.lst (((bT i).map (jhX c)).map V.str))) ?_ ?_ ?_
  .exact⟨none,rfl,s2,jf⟩
  .rintro i σ' G' hi ⟨u,rfl,aI,dI⟩
   unfold qm Zq;refine kO ?_;have hb:=lU (x:=c / 7+(0+(i:Int))) (y:=14) (by decide);have nU:=Z3 (xs:=jav) (i:=(c / 7+(0+(i:Int))) % 14) hb.1 (by show _ < (14:Int);exact hb.2);refine⟨_,rfl,_,rfl,_,_,rfl,rfl,⟨by decide,by decide⟩,_,rfl,_,_,rfl,rfl,_,_,rfl,rfl,(by show (0:Int) < _;decide),lo,_,_,_,rfl,rfl,SqL.of (aI _ _ e1),nU,?_⟩;have FB:i < n:=by simpa using hi
   refine⟨_,dI,jI (by rw[aB,aB,mN];omega),_,rfl,fun z o e=>?_,?_⟩
   .rw[jD (jo e hp)];exact aI _ _ e
   .rw[jf,jar,bq];rfl
  .rintro σ' G' ⟨u,rfl,aI,dI⟩
   rw[show ((n:Int)).toNat=n from rfl]at dI;exact q p _ G' (jhW) (s1.trans aI) (s1.free hp) dI
 refine⟨_,rfl,_,_,rfl,rfl,(by show (0:Int) < _;decide),?_⟩;have hsz:=lU (x:=c) (y:=8) (by decide);dsimp only;generalize c % 8=size at *;refine⟨_,rfl,rfl,_,rfl,yu (fun d2=>?_) (fun d2=>?_)⟩
 .refine⟨_,rfl,(n:Int),rfl,by omega,by omega,fun p hp=>?_⟩
  have s2:=jk hp (.lst []);refine Jm (fun i σ' G'=>∃(u:Option V),σ'=[u,some (.int c),some (.str qA)]/\Same H1 G'/\G' p=some (.lst (((bT i).map (jhZ c)).map V.str))) ?_ ?_ ?_
  .exact⟨none,rfl,s2,jf⟩
  .rintro i σ' G' hi ⟨u,rfl,aI,dI⟩
   unfold qm Zq;refine kO ?_;have hb:=lU (x:=c / 8+(0+(i:Int))) (y:=26) (by decide);have dW:=Y4 hb.1 hb.2;refine⟨_,rfl,_,rfl,_,_,rfl,rfl,⟨by decide,by decide⟩,_,rfl,_,_,rfl,rfl,_,_,rfl,rfl,(by show (0:Int) < _;decide),qA,_,_,rfl,rfl,Be,dW,?_⟩;have FB:i < n:=by simpa using hi
   refine⟨_,dI,jI (by rw[aB,aB,mN];omega),_,rfl,fun z o e=>?_,?_⟩
   .rw[jD (jo e hp)];exact aI _ _ e
   .rw[jf,jar,bq];rfl
  .rintro σ' G' ⟨u,rfl,aI,dI⟩
   rw[show ((n:Int)).toNat=n from rfl]at dI;exact q p _ G' (jhY) (s1.trans aI) (s1.free hp) dI
 have d2':¬size=0:=fun e=>d2 (MR (MW V.int e))
 refine⟨_,rfl,_,_,rfl,rfl,⟨by decide,by decide⟩,_,rfl,_,_,rfl,rfl,(by show (0:Int) < size;omega),?_⟩;dsimp only;have aV:=lU (x:=c / 8) (y:=size) (by omega);generalize c / 8 % size=spot at *;refine⟨sm rfl,fun lw A8=>?_⟩;have s2:=jk A8 (.lst []);have e2:upd H1 lw (.lst []) lw=some (.lst []):=jf;have A7:H lw=none:=s1.free A8;generalize upd H1 lw (.lst [])=H2 at *;have Ef:=s1.trans s2;refine⟨_,rfl,(n:Int),rfl,by omega,by omega,?_⟩;refine jdo (n:=n) (fun i σ G=>∃(x7 x8:Option V),σ=[some (.int c),some (.int n),some (.str qA),some (.ref lo),some (.int size),some (.int spot),some (.ref lw),x7,x8]/\Same H G/\G lw=some (.lst (((bT i).map (lgW c size spot)).map V.str))) ?_ ?_ ?_
 .exact⟨none,none,rfl,Ef,e2⟩
 .rintro i σ G hi ⟨x7,x8,rfl,sG,nV⟩
  refine⟨_,rfl,size,rfl,by omega,by omega,fun p hp=>?_⟩;have s3:=jk hp (.lst []);have npw:lw≠p:=jo nV hp;refine Jm (fun j σ' G'=>∃(u:Option V),σ'=[u,some (.int c),some (.int spot),some (.int (0+(i:Int)))]/\Same G G'/\G' p=some (.lst (((bT j).map (bsW c spot i)).map V.int))) ?_ ?_ ?_
  .exact⟨none,rfl,s3,jf⟩
  .rintro j σ' G' hj ⟨u,rfl,aI,dI⟩
   have hj8:j < size.toNat:=by simpa using hj
   unfold qm Zq;refine kO ?_;refine⟨_,rfl,_,_,rfl,rfl,⟨by decide,by decide⟩,_,rfl,_,_,rfl,rfl,.inl ⟨by decide,by decide⟩,_,rfl,_,_,rfl,rfl,.inr ⟨by omega,by omega⟩,_,_,rfl,rfl,_,rfl,_,rfl,_,rfl,rfl,.inr ⟨_,rfl,?_⟩⟩;refine⟨_,_,rfl,rfl,.inr ⟨by split <;> decide,by split <;> decide⟩,_,_,rfl,rfl,?_⟩;refine⟨_,dI,jI (by rw[aB,aB,mN];omega),_,rfl,fun z o e=>?_,?_⟩
   .rw[jD (jo e hp)];exact aI _ _ e
   .rw[jf,jar,bq];rfl
  rintro σ' G1 ⟨u,rfl,g0,BP⟩;have hb:=lU (x:=c / 144) (y:=2) (by decide);have E9:=jiI hb.1 hb.2;refine⟨_,rfl,.inl ⟨rfl,_,SqL.of (g0 _ _ nV)⟩,?_⟩;refine⟨_,rfl,_,_,rfl,rfl,⟨by decide,by decide⟩,_,_,rfl,rfl,(by show (0:Int) < _;decide),qzS,_,_,rfl,rfl,iQ,E9,?_⟩;refine⟨rfl,_,rfl,p,rfl,⟨_,SqL.of BP⟩,fun p2 eV=>?_⟩;have s4:=jk eV (.lst []);refine yZ (xs:=((bT size.toNat).map (bsW c spot i)).map V.int) (fun j σ' G'=>∃(u:Option V),σ'=[u,some (.str qA)]/\Same G1 G'/\G' p2=some (.lst ((((bT j).map fun j=>Ki (bsW c spot i j % 26)).map fun ch=>(⟨#[ch]⟩:Str)).map V.str))) ?_ ?_ ?_ ?_
  .exact⟨none,rfl,s4,jf⟩
  .rintro j σ' G' _ ⟨u,rfl,aI,_⟩
   exact SqL.of (aI _ _ BP)
  .rintro j x σ' G' hx ⟨u,rfl,aI,dI⟩
   have hj:j < size.toNat:=by
    have:=(bI.mp hx).1;rw[aB,aB,mN]at this;exact this
   rw[bH,bH,Mn hj]at hx
   cases hx
   unfold qm Zq;refine kO ?_;have cB:=lU (x:=bsW c spot i j) (y:=26) (by decide);have dW:=Y4 cB.1 cB.2;refine⟨_,rfl,_,rfl,_,_,rfl,rfl,(by show (0:Int) < _;decide),qA,_,_,rfl,rfl,Be,dW,?_⟩;refine⟨_,dI,jI (by rw[aB,aB,aB,mN];omega),_,rfl,fun z o e=>?_,?_⟩
   .rw[jD (jo e eV)];exact aI _ _ e
   .rw[jf,jar,bq,bq];rfl
  rintro σ' G2 ⟨u,rfl,xY,vM⟩;rw[aB,aB,mN]at vM;have uG:∀y∈((bT size.toNat).map fun j=>Ki (bsW c spot i j % 26)).map fun ch=>(⟨#[ch]⟩:Str),y.length=1:=fun y hy=>by
   obtain⟨ch,_,rfl⟩:=cc.mp hy;rfl
  have gC:((((bT size.toNat).map fun j=>Ki (bsW c spot i j % 26)).map fun ch=>(⟨#[ch]⟩:Str)).map (·.length)).sum=size.toNat:=by
   rw[lK];rw[show ((fun x:Str=>x.length) ∘ fun ch=>(⟨#[ch]⟩:Str))=fun _=>1 from rfl];generalize hL:(bT size.toNat).map (fun j=>Ki (bsW c spot i j % 26))=L;have hl:L.length=size.toNat:=by rw[<- hL];simp
   rw[<- hl];clear hL hl vM;induction L with
   | nil=>rfl
   | cons y r ih=>rw[bg,List.sum_cons,ih,bM];omega
  refine⟨"",p2,_,rfl,rfl,SqL.of vM,(by rw[gC];show size.toNat+_ * 0<=_;omega),?_⟩;have hjl:(ly "" (((bT size.toNat).map fun j=>Ki (bsW c spot i j % 26)).map fun ch=>(⟨#[ch]⟩:Str))).length<=7:=by
   show (ly "" _).cps.size<=7;rw[<- dA,jaJ];simp;omega
  refine⟨_,_,rfl,rfl,?_,?_⟩
  .have:∀qc,(⟨#[qc]⟩:Str).length=1:=fun _=>rfl
   rw[this];exact aG (by omega:1+(ly "" _).length<=1000) (JA (aD _))
  have Gx:=xY _ _ (g0 _ _ nV);refine⟨lw,_,_,rfl,rfl,Gx,jI (by rw[aB,aB,mN];omega),?_⟩;refine⟨some (.int (0+(i:Int))),some (.ref p),rfl,fun z o e=>?_,?_⟩
  .rw[jD (jo e A7)];exact xY _ _ (g0 _ _ (sG _ _ e))
  .rw[jf,jar,bq];rfl
 .rintro σ G ⟨x7,x8,rfl,sG,nV⟩
  exact⟨_,rfl,q lw _ G (ji0 (by omega)) sG A7 nV⟩
theorem jh4{f:ab}{fd:aH}(F:Fun K "_law_mix" "_law_mix" jfQ f fd):FnOk P w K mg base CX0 1 f fd ["_law_seed","_law_k"] jb0:=by
 have sc:FnScope ["_law_seed","_law_k","_law_number"] ["_law_seed","_law_k"] (jm jfQ):=fQ;refine F.okZ sc (fun vs H Q E h=>?_) (fun au A outer s H vs Q E hr h=>?_)
 .obtain⟨s,k,rfl,_⟩:=h
  rfl
 obtain⟨s,k,rfl,q⟩:=h;refine⟨_,(jd (jw (i:=2) sc.nd rfl oQ (js jQ (js qi (js qi (js k9 (zpv 0) jc) (js k9 (zpv 1) jc)) jc) jc))
   (ji (jB (js jQ (js k9 (zpv 2) (zpv 2)) jc)))),?_⟩
 refine⟨_,rfl,_,_,rfl,rfl,.inr ⟨by decide,by decide⟩,_,rfl,_,_,rfl,rfl,.inr ⟨by decide,by decide⟩,_,_,rfl,rfl,_,_,rfl,rfl,_,_,rfl,rfl,(by show (0:Int) < _;decide),?_⟩;have h0:0<=(s * 48271+k * 40692+1) % 2147483647:=oK _ (by decide);have h1:(s * 48271+k * 40692+1) % 2147483647 < 2147483647:=oM _ (by decide);dsimp only;generalize (s * 48271+k * 40692+1) % 2147483647=x at *;exact⟨_,rfl,_,rfl,_,_,rfl,rfl,.inr ⟨by omega,by omega⟩,_,_,rfl,rfl,(by show (0:Int) < _;decide),q _⟩
end
abbrev KH:aA:=top 36
abbrev ZB:aA:=top 37
abbrev jb7:aA:=top 39
structure Ws(H:Hp)(a:ab)(ws:List Str):Prop where
 at_:H a=some (.lst (ws.map V.str))
 len:ws.length=6
 ok:∀x∈ws,Wd x
theorem Ws.mono{H H':Hp}{a:ab}{ws:List Str}(h:Ws H a ws)(s:Same H H'):Ws H' a ws:=⟨s _ _ h.at_,h.len,h.ok⟩
theorem Ws.get{H:Hp}{a:ab}{ws:List Str}(h:Ws H a ws){i:Int}(h0:0<=i)(h1:i < 6):∃x,atI (ws.map V.str) i=some (.str x)/\Wd x:=by
 have hk:i.toNat < ws.length:=by rw[h.len];omega
 refine⟨_,Z3 h0 (by rw[h.len];exact h1),h.ok _ ?_⟩;rw[iF,aK hk];exact dP hk
theorem ZS{x y z:Str}(hx:Wd x)(hy:Wd y)(hz:Wd z){i:Int}(h0:0<=i)(h1:i < 4):∃u,atI [V.str "",V.str x,V.str y,V.str z] i=some (.str u)/\NmG u:=by
 have:i=0\/i=1\/i=2\/i=3:=by omega
 rcases this with rfl | rfl | rfl | rfl
 .exact⟨_,rfl,.inl rfl⟩
 .exact⟨_,rfl,.inr hx⟩
 .exact⟨_,rfl,.inr hy⟩
 .exact⟨_,rfl,.inr hz⟩
theorem qb{x y:Int}(h:0 < y):0<=x % y/\x % y < y:=⟨oK _ (by omega),oM _ h⟩
theorem jiX(k:Bool):-(2:Int) ^ 64 < (if k=true then (1:Int) else 0)/\(if k=true then (1:Int) else 0) < 2 ^ 64:=by cases k <;> decide
theorem jjq{k:Bool}{x bh:Int}(hc:0<=x/\x < 5)(hn:bh.natAbs<=10 ^ 17):(x - 2+bh * (if k=true then (1:Int) else 0)).natAbs<=10 ^ 18:=by
 cases k
 .rw[MT (by decide)];omega
 .rw[MU rfl];omega
theorem jfI{z i:Int}(hz:z.natAbs<=10 ^ 17)(h0:0<=i)(h1:i < 3):∃u,atI [V.int 0,V.int 3,V.int z] i=some (.int u)/\u.natAbs<=10 ^ 17:=by
 have:i=0\/i=1\/i=2:=by omega
 rcases this with rfl | rfl | rfl
 .exact⟨_,rfl,by decide⟩
 .exact⟨_,rfl,by decide⟩
 .exact⟨_,rfl,hz⟩
def yJ:Sp:=fun vs H Q _=>∃(s bh:Int) (a:ab) (ws:List Str),vs=[.int s,.ref a,.int bh]/\Ws H a ws/\bh.natAbs<=10 ^ 17/\∀(x:Str) (d:Int) (v:V) (H':Hp),Same H H'->NmG x->d.natAbs<=10 ^ 18->Held H' (plD x d) v->Q v H'
def Zu:Sp:=fun vs H Q _=>∃(s bh:Int) (a:ab) (ws:List Str),vs=[.int s,.ref a,.int bh]/\Ws H a ws/\bh.natAbs<=10 ^ 17/\∀(t:Tm) (v:V) (H':Hp),Same H H'->TmG t->Held H' t.toD v->Q v H'
def jd8:Sp:=fun vs H Q _=>∃(s bh:Int) (a:ab) (ws:List Str),vs=[.int s,.ref a,.int bh]/\Ws H a ws/\bh.natAbs<=10 ^ 17/\∀(x:Str) (d:Int) (v:V) (H':Hp),Same H H'->NmG x->d.natAbs<=10 ^ 19->Held H' (plD x d) v->Q v H'
section
variable {P:az}{w:aw}{K:aq}{mg:Str->Option ae}{base:aj}
theorem jc4{f:ab}{fd:aH}(F:Fun K "_law_place" "_law_place" KH f fd)(B:Free0 mg):FnOk P w K mg base CX0 1 f fd ["_law_seed","_law_w","_law_near"] yJ:=by
 have sc:FnScope ["_law_seed","_law_w","_law_near","_law_x"] ["_law_seed","_law_w","_law_near"] (jm KH):=fQ;refine F.okZ sc (fun vs H Q E h=>?_) (fun au A outer s H vs Q E hr h=>?_)
 .obtain⟨s,n,a,ws,rfl,_⟩:=h
  rfl
 obtain⟨s,bh,a,ws,rfl,hw,hn,q⟩:=h;refine⟨_,(jd (jw (i:=3) sc.nd rfl oQ (jp jZ (jK (ja jq (ja (jp jZ (zpv 1) jc (fun _ _=>rfl)) (ja (jp jZ (zpv 1) jc (fun _ _=>rfl)) (ja (jp jZ (zpv 1) jc (fun _ _=>rfl)) jb))))) (js jQ (zpv 0) jc) (fun _ _=>rfl)))
   (ji (jB (jR (ja (zpv 3) (ja (js qi (js qH (js jQ (js jY (zpv 0) jc) jc) jc) (js k9 (zpv 2) (ym qL (by rfl) B.int_ Jq (ja (zR kh (zpv 3) jq (jH _)) jb)))) jb)))))),?_⟩
 refine jG (σ':=[some (.int s),some (.ref a),some (.int bh),none]) rfl ?_;obtain⟨x0,e0,o0⟩:=hw.get (i:=0) (by decide) (by decide);obtain⟨x1,e1,o1⟩:=hw.get (i:=1) (by decide) (by decide);obtain⟨x2,e2,o2⟩:=hw.get (i:=2) (by decide) (by decide);refine⟨_,rfl,a,_,_,_,rfl,rfl,SqL.of hw.at_,e0,_,rfl,a,_,_,_,rfl,rfl,SqL.of hw.at_,e1,_,rfl,a,_,_,_,rfl,rfl,SqL.of hw.at_,e2,sm rfl,fun p hp=>?_⟩;have s1:=jk hp (.lst [V.str "",V.str x0,V.str x1,V.str x2]);have u1:upd H p (.lst [V.str "",V.str x0,V.str x1,V.str x2]) p=_:=jf;generalize upd H p (.lst [V.str "",V.str x0,V.str x1,V.str x2])=H1 at *;have hb:=qb (x:=s) (y:=4) (by decide);obtain⟨u,e3,o3⟩:=ZS o0 o1 o2 hb.1 hb.2;refine⟨_,rfl,_,_,rfl,rfl,(by show (0:Int) < _;decide),p,_,_,_,rfl,rfl,SqL.of u1,e3,?_⟩;refine gQ ?_;have hc:=qb (x:=s / 4) (y:=5) (by decide);refine⟨_,rfl,_,rfl,_,_,rfl,rfl,⟨by decide,by decide⟩,_,_,rfl,rfl,(by show (0:Int) < _;decide),_,_,rfl,rfl,_,rfl,_,rfl,rfl,.inr ⟨_,rfl,_,_,rfl,rfl,.inr (jiX _),_,_,rfl,rfl,sm rfl,fun p2 eV=>?_⟩⟩;exact q u _ _ _ (s1.trans (jk eV _)) o3 (jjq hc hn) (jL jf (je jE (je jO jr)))
theorem jgD{f:ab}{fd:aH}(F:Fun K "_law_end" "_law_end" jb7 f fd)(eZ:Fn P w K mg base 1 "_law_place" ["_law_seed","_law_w","_law_near"] yJ):FnOk P w K mg base CX0 2 f fd ["_law_seed","_law_w","_law_near"] jd8:=by
 have sc:FnScope ["_law_seed","_law_w","_law_near","_law_place_here"] ["_law_seed","_law_w","_law_near"] (jm jb7):=fQ;refine F.okZ sc (fun vs H Q E h=>?_) (fun au A outer s H vs Q E hr h=>?_)
 .obtain⟨s,n,a,ws,rfl,_⟩:=h
  rfl
 obtain⟨s,bh,a,ws,rfl,hw,hn,q⟩:=h;refine⟨_,(jd (jw (i:=3) sc.nd rfl oQ (jh eZ hr (ja (zpv 0) (ja (zpv 1) (ja (zpv 2) jb)))))
   (ji (jB (jR (ja (jp ju (zpv 3) jc (fun _ _=>rfl)) (ja (js qi (jp ju (zpv 3) jc (fun _ _=>rfl)) (jp jZ (jK (ja jc (ja jc (ja (js Jj jc jc) jb)))) (js jQ (js jY (zpv 0) jc) jc) (fun _ _=>rfl))) jb)))))),?_⟩
 refine jG (σ':=[some (.int s),some (.ref a),some (.int bh),none]) rfl ?_;refine⟨_,rfl,_,rfl,_,rfl,s,bh,a,ws,rfl,hw,hn,fun x d v H1 s1 hx hd hv=>?_⟩;refine gQ ?_;obtain⟨t,rfl,ht⟩:=Jh hv;refine⟨_,rfl,t,_,_,_,rfl,rfl,SqT.of ht,jg (j:=0) rfl,_,rfl,t,_,_,_,rfl,rfl,SqT.of ht,jg (j:=1) rfl,_,_,rfl,rfl,⟨by decide,by decide⟩,sm rfl,fun p hp=>?_⟩;have hb:=qb (x:=s / 20) (y:=3) (by decide);obtain⟨u,e3,o3⟩:=jfI (z:=10 ^ eT 17) (by decide) hb.1 hb.2;have s2:=jk hp (.lst [V.int 0,V.int 3,V.int (10 ^ eT 17)]);refine⟨_,rfl,_,_,rfl,rfl,⟨by decide,by decide⟩,_,_,rfl,rfl,(by show (0:Int) < _;decide),p,_,_,_,rfl,rfl,SqL.of jf,e3,_,_,rfl,rfl,sm rfl,fun p2 eV=>?_⟩;exact q x _ _ _ (s1.trans (s2.trans (jk eV _))) hx (by omega) (jL jf (je jE (je jO jr)))
theorem jeP{f:ab}{fd:aH}(F:Fun K "_law_term" "_law_term" ZB f fd)(eZ:Fn P w K mg base 1 "_law_place" ["_law_seed","_law_w","_law_near"] yJ):FnOk P w K mg base CX0 2 f fd ["_law_seed","_law_w","_law_near"] Zu:=by
 have sc:FnScope ["_law_seed","_law_w","_law_near"] ["_law_seed","_law_w","_law_near"] (jm ZB):=fQ;refine F.okZ sc (fun vs H Q E h=>?_) (fun au A outer s H vs Q E hr h=>?_)
 .obtain⟨s,n,a,ws,rfl,_⟩:=h
  rfl
 obtain⟨s,bh,a,ws,rfl,hw,hn,q⟩:=h;refine⟨_,(jd (jN (jC jaw (js jQ (zpv 0) jc) jc (jH _)) (ji (jB (jR (ja jq (ja (jp jZ (jK (ja jq (ja (jp jZ (zpv 1) jc (fun _ _=>rfl)) (ja (jp jZ (zpv 1) jc (fun _ _=>rfl)) (ja (jp jZ (zpv 1) jc (fun _ _=>rfl)) jb))))) (js jQ (js jY (zpv 0) jc) jc) (fun _ _=>rfl)) jb))))) jJ)
   (ji (jB (jR (ja jq (ja (jp jZ (zpv 1) (js qi jc (js jQ (js jY (zpv 0) jc) jc)) (fun _ _=>rfl)) (ja (jh eZ hr (ja (js jY (zpv 0) jc) (ja (zpv 1) (ja (zpv 2) jb)))) jb))))))),?_⟩
 refine jG (σ':=[some (.int s),some (.ref a),some (.int bh)]) rfl ?_;refine⟨_,rfl,_,_,rfl,rfl,(by show (0:Int) < _;decide),_,_,rfl,rfl,_,rfl,yu (fun c=>?_) (fun c=>?_)⟩
 .obtain⟨x0,e0,o0⟩:=hw.get (i:=0) (by decide) (by decide)
  obtain⟨x1,e1,o1⟩:=hw.get (i:=1) (by decide) (by decide);obtain⟨x2,e2,o2⟩:=hw.get (i:=2) (by decide) (by decide);refine⟨_,rfl,a,_,_,_,rfl,rfl,SqL.of hw.at_,e0,_,rfl,a,_,_,_,rfl,rfl,SqL.of hw.at_,e1,_,rfl,a,_,_,_,rfl,rfl,SqL.of hw.at_,e2,sm rfl,fun p hp=>?_⟩;have s1:=jk hp (.lst [V.str "",V.str x0,V.str x1,V.str x2]);have u1:upd H p (.lst [V.str "",V.str x0,V.str x1,V.str x2]) p=_:=jf;generalize upd H p (.lst [V.str "",V.str x0,V.str x1,V.str x2])=H1 at *;have hb:=qb (x:=s / 3) (y:=4) (by decide);obtain⟨u,e3,o3⟩:=ZS o0 o1 o2 hb.1 hb.2;refine⟨_,rfl,_,_,rfl,rfl,⟨by decide,by decide⟩,_,_,rfl,rfl,(by show (0:Int) < _;decide),p,_,_,_,rfl,rfl,SqL.of u1,e3,sm rfl,fun p2 eV=>?_⟩;exact q (.is u) _ _ (s1.trans (jk eV _)) o3 (jL jf (je jE (je jE jr)))
 .have hb:=qb (x:=s / 3) (y:=3) (by decide)
  obtain⟨r,e3,o3⟩:=hw.get (i:=3+s / 3 % 3) (by omega) (by omega);refine⟨_,rfl,_,rfl,_,_,rfl,rfl,⟨by decide,by decide⟩,_,_,rfl,rfl,(by show (0:Int) < _;decide),_,_,rfl,rfl,a,_,_,_,rfl,rfl,SqL.of hw.at_,e3,?_⟩;refine⟨_,rfl,_,_,rfl,rfl,⟨by decide,by decide⟩,_,rfl,_,rfl,_,bh,a,ws,rfl,hw,hn,fun x d v H1 s1 hx hd hv=>⟨sm rfl,fun p hp=>?_⟩⟩;exact q (.at_ r x d) _ _ (s1.trans (jk hp _)) ⟨o3,hx,by omega⟩ (jL jf (je jE (je jE (je (hv.mono (jk hp _)) jr))))
end
abbrev ZE:aA:=top 38
def jb2:Sp:=fun vs H Q _=>∃(s bh:Int) (a:ab) (ws:List Str),vs=[.int s,.ref a,.int bh]/\Ws H a ws/\bh.natAbs<=10 ^ 17/\∀(r:Rw) (v:V) (H':Hp),Same H H'->RwG r->(∀C,r≠.know C)->Held H' r.toD v->Q v H'
theorem jg5{x y i:Int}(hx:x.natAbs<=10 ^ 16)(hy:y.natAbs<=10 ^ 16)(h0:0<=i)(h1:i < 2):∃u,atI [V.int x,V.int y] i=some (.int u)/\u.natAbs<=10 ^ 16:=by
 have:i=0\/i=1:=by omega
 rcases this with rfl | rfl
 .exact⟨_,rfl,hx⟩
 .exact⟨_,rfl,hy⟩
theorem jhu(x:Int):(x % (2 * 10 ^ eT 15) - 10 ^ eT 15).natAbs<=10 ^ 16:=by
 have:=qb (x:=x) (y:=2 * 10 ^ 15) (by decide);show (x % (2 * 10 ^ 15) - 10 ^ 15).natAbs<=10 ^ 16;omega
theorem ji1(k:Bool):0<=(if k=true then (1:Int) else 0)/\(if k=true then (1:Int) else 0) < 2:=by cases k <;> decide
section
variable {P:az}{w:aw}{K:aq}{mg:Str->Option ae}{base:aj}
theorem jeV{f:ab}{fd:aH}(F:Fun K "_law_drawn" "_law_drawn" ZE f fd)(B:Free0 mg)(i7:Fn P w K mg base 2 "_law_term" ["_law_seed","_law_w","_law_near"] Zu)(dN:Fn P w K mg base 1 "_law_mix" ["_law_seed","_law_k"] jb0)(eZ:Fn P w K mg base 1 "_law_place" ["_law_seed","_law_w","_law_near"] yJ):FnOk P w K mg base CX0 3 f fd ["_law_seed","_law_w","_law_near"] jb2:=by
 have sc:FnScope ["_law_seed","_law_w","_law_near","_law_kind","_law_more_here","_law_term_here"] ["_law_seed","_law_w","_law_near"] (jm ZE):=fQ;refine F.okZ sc (fun vs H Q E h=>?_) (fun au A outer s H vs Q E hr h=>?_)
 .obtain⟨s,n,a,ws,rfl,_⟩:=h
  rfl
 obtain⟨s,bh,a,ws,rfl,hw,hn,q⟩:=h;refine⟨_,(jd (jw (i:=3) sc.nd rfl oQ (js jQ (zpv 0) jc))
   (jd (jw (i:=4) sc.nd rfl oQ (jp jZ (jK (ja (js qH (js jQ (js jY (zpv 0) jc) jc) jc) (ja (js qH (js jQ (js k9 (zpv 0) jc) (js k9 jc (js Jj jc jc))) (js Jj jc jc)) jb))) (ym qL (by rfl) B.int_ Jq (ja (zR kh (js jQ (js jY (zpv 0) jc) jc) jc (jH _)) jb)) (fun _ _=>rfl)))
   (jd (jw (i:=5) sc.nd rfl oQ (jh i7 hr (ja (jh dN hr (ja (zpv 0) (ja jc jb))) (ja (zpv 1) (ja (zpv 2) jb)))))
   (jd (jN (jC jaw (zpv 3) jc (jH _)) (ji (jB (jR (ja jq (ja (jp jZ (zpv 1) (js jQ (js jY (zpv 0) jc) jc) (fun _ _=>rfl)) (ja (zpv 5) (ja (zpv 4) jb))))))) jJ)
   (jd (jN (jC jaw (zpv 3) jc (jH _)) (ji (jB (jR (ja jq (ja (jp jZ (zpv 1) (js qi jc (js jQ (js jY (zpv 0) jc) jc)) (fun _ _=>rfl)) (ja (jh eZ hr (ja (jh dN hr (ja (zpv 0) (ja jc jb))) (ja (zpv 1) (ja (zpv 2) jb)))) (ja (zpv 5) (ja (zpv 4) jb)))))))) jJ)
   (jd (jN (jC kh (zpv 3) jc (jH _)) (ji (jB (jR (ja jq (ja (jp jZ (zpv 1) (js jQ (js jY (zpv 0) jc) jc) (fun _ _=>rfl)) jb))))) jJ)
   (ji (jB (jR (ja jq (ja (jp jZ (zpv 1) (js qi jc (js jQ (js jY (zpv 0) jc) jc)) (fun _ _=>rfl)) jb))))))))))),?_⟩
 refine jG (σ':=[some (.int s),some (.ref a),some (.int bh),none,none,none]) rfl ?_;refine jfa ?_;intro _ _ _ _ _ _;refine⟨_,rfl,_,_,rfl,rfl,(by show (0:Int) < _;decide),?_⟩;refine gQ ?_;refine⟨_,rfl,_,_,rfl,rfl,⟨by decide,by decide⟩,_,_,rfl,rfl,(by show (0:Int) < _;decide),_,_,rfl,rfl,_,rfl,_,_,rfl,rfl,.inr ⟨by decide,by decide⟩,_,_,rfl,rfl,⟨by decide,by decide,by decide⟩,_,_,rfl,rfl,.inl ⟨by decide,by decide⟩,_,_,rfl,rfl,(by show (0:Int) < _;decide),_,_,rfl,rfl,⟨by decide,by decide,by decide⟩,_,_,rfl,rfl,sm rfl,fun l1 pD=>?_⟩;dsimp only;have b1:=qb (x:=s / 6) (y:=7) (by decide);have b2:=jhu (s * 7919);have b3:(s / 6 % 7 - 3).natAbs<=10 ^ 16:=by omega
 generalize s / 6 % 7 - 3=c1 at *;generalize s * 7919 % (2 * 10 ^ eT 15) - 10 ^ eT 15=c2 at *;have s1:=jk pD (.lst [V.int c1,V.int c2]);have e1:upd H l1 (.lst [V.int c1,V.int c2]) l1=some (.lst [V.int c1,V.int c2]):=jf;generalize upd H l1 (.lst [V.int c1,V.int c2])=H1 at *;refine⟨_,rfl,_,_,rfl,rfl,⟨by decide,by decide⟩,_,_,rfl,rfl,(by show (0:Int) < _;decide),rfl,.inr ⟨_,rfl,?_⟩⟩;obtain⟨mo,pA,bm⟩:=jg5 b3 b2 (ji1 (decide (V.int (s / 42 % 3)=V.int 1))).1 (ji1 (decide (V.int (s / 42 % 3)=V.int 1))).2;refine⟨l1,_,_,_,rfl,rfl,SqL.of e1,pA,?_⟩;refine gQ ?_;refine⟨_,rfl,s,1,rfl,fun s3=>⟨_,rfl,_,rfl,s3,bh,a,ws,rfl,hw.mono s1,hn,fun tm v H2 s2 ht hv=>?_⟩⟩;refine gQ ?_;have bV:=s1.trans s2;have cR:=hw.mono bV;have b4:=qb (x:=s / 6) (y:=3) (by decide);obtain⟨x,ex,ox⟩:=cR.get (i:=s / 6 % 3) (by omega) (by omega);obtain⟨r,er,Ac⟩:=cR.get (i:=3+s / 6 % 3) (by omega) (by omega);refine⟨_,rfl,_,_,rfl,rfl,_,rfl,yu (fun d=>?_) (fun d=>?_)⟩
 .refine⟨_,rfl,_,rfl,_,_,rfl,rfl,⟨by decide,by decide⟩,_,_,rfl,rfl,(by show (0:Int) < _;decide),a,_,_,_,rfl,rfl,SqL.of cR.at_,ex,_,rfl,_,rfl,sm rfl,fun p hp=>?_⟩
  exact q (.set x tm mo) _ _ (bV.trans (jk hp _)) ⟨ox,ht,by omega⟩ (fun _ z=>by cases z) (jL jf (je jE (je jE (je (hv.mono (jk hp _)) (je jO jr)))))
 refine⟨_,rfl,_,_,rfl,rfl,_,rfl,yu (fun d=>?_) (fun d=>?_)⟩
 .refine⟨_,rfl,_,rfl,_,_,rfl,rfl,⟨by decide,by decide⟩,_,_,rfl,rfl,(by show (0:Int) < _;decide),_,_,rfl,rfl,a,_,_,_,rfl,rfl,SqL.of cR.at_,er,?_⟩
  refine⟨_,rfl,s,2,rfl,fun s4=>⟨_,rfl,_,rfl,s4,bh,a,ws,rfl,cR,hn,fun y d v2 H3 s3 hy hd hJ=>⟨_,rfl,_,rfl,sm rfl,fun p hp=>?_⟩⟩⟩;exact q (.put r y d tm mo) _ _ (bV.trans (s3.trans (jk hp _))) ⟨Ac,hy,by omega,ht,by omega⟩ (fun _ z=>by cases z) (jL jf (je jE (je jE (je (hJ.mono (jk hp _)) (je (hv.mono (s3.trans (jk hp _))) (je jO jr))))))
 refine⟨_,rfl,rfl,_,rfl,yu (fun d=>?_) (fun d=>?_)⟩
 .refine⟨_,rfl,_,rfl,_,_,rfl,rfl,⟨by decide,by decide⟩,_,_,rfl,rfl,(by show (0:Int) < _;decide),a,_,_,_,rfl,rfl,SqL.of cR.at_,ex,sm rfl,fun p hp=>?_⟩
  exact q (.any x) _ _ (bV.trans (jk hp _)) ox (fun _ z=>by cases z) (jL jf (je jE (je jE jr)))
 .refine⟨_,rfl,_,rfl,_,_,rfl,rfl,⟨by decide,by decide⟩,_,_,rfl,rfl,(by show (0:Int) < _;decide),_,_,rfl,rfl,a,_,_,_,rfl,rfl,SqL.of cR.at_,er,sm rfl,fun p hp=>?_⟩
  exact q (.lose r) _ _ (bV.trans (jk hp _)) Ac (fun _ z=>by cases z) (jL jf (je jE (je jE jr)))
end
abbrev JG:aA:=top 40
structure Fs(H:Hp)(a:ab)(fs:List Str):Prop where
 at_:H a=some (.lst (fs.map V.str))
 len:fs.length<=6
 ok:∀x∈fs,Wd x
theorem Fs.mono{H H':Hp}{a:ab}{ws:List Str}(h:Fs H a ws)(s:Same H H'):Fs H' a ws:=⟨s _ _ h.at_,h.len,h.ok⟩
theorem Fs.get{H:Hp}{a:ab}{fs:List Str}(h:Fs H a fs)(hp:0 < fs.length)(x:Int):0 < ((fs.map V.str).length:Int)/\∃r,atI (fs.map V.str) (x % ((fs.map V.str).length:Int))=some (.str r)/\Wd r:=by
 have ig:((fs.map V.str).length:Int)=fs.length:=by rw[aB]
 rw[ig];have b:=qb (x:=x) (y:=(fs.length:Int)) (by omega);have hk:(x % (fs.length:Int)).toNat < fs.length:=by omega
 refine⟨by omega,_,Z3 b.1 b.2,h.ok _ ?_⟩;rw[iF,aK hk];exact dP hk
def Yd:Sp:=fun vs H Q _=>∃(s bh:Int) (a fr:ab) (ws fs:List Str),vs=[.int s,.ref a,.int bh,.ref fr]/\Ws H a ws/\bh.natAbs<=10 ^ 17/\Fs H fr fs/\∀(k:Cl) (v:V) (H':Hp),Same H H'->ClG k->Held H' k.toD v->Q v H'
theorem Yw:∀ws:List Str,D.depthL (ws.map D.str)=0
 | []=>rfl
 | x :: r=>by show max (D.str x).depth (D.depthL (r.map D.str))=0;rw[Yw r];rfl
theorem Yt{H:Hp}:∀ws:List Str,HeldL H (ws.map D.str) (ws.map V.str)
 | []=>jr
 | _ :: r=>je jE (Yt r)
theorem jdN{i:Int}(h0:0<=i)(h1:i < 2):∃w:Str,atI [V.str ">=",V.str "<="] i=some (.str w):=by
 have:i=0\/i=1:=by omega
 rcases this with rfl | rfl
 .exact⟨_,rfl⟩
 .exact⟨_,rfl⟩
theorem jcB{H:Hp}{o:ab}:∀{b:Bd},(∃kd x,b.toD=.tup [.str kd,.str x]/\H o=some (.tup [.str kd,.str x]))->Held H b.toD (.ref o):=fun⟨kd,x,e,h⟩=>by
 rw[e];exact jL h (je jE (je jE jr))
section
variable {P:az}{w:aw}{K:aq}{mg:Str->Option ae}{base:aj}
theorem jc7{f:ab}{fd:aH}(F:Fun K "_law_claim" "_law_claim" JG f fd)(B:Free0 mg)(dN:Fn P w K mg base 1 "_law_mix" ["_law_seed","_law_k"] jb0)(eZ:Fn P w K mg base 1 "_law_place" ["_law_seed","_law_w","_law_near"] yJ)(i7:Fn P w K mg base 2 "_law_term" ["_law_seed","_law_w","_law_near"] Zu)(wz:Fn P w K mg base 2 "_law_end" ["_law_seed","_law_w","_law_near"] jd8):FnOk P w K mg base CX0 3 f fd ["_law_seed","_law_w","_law_near","_law_free"] Yd:=by
 have sc:FnScope ["_law_seed","_law_w","_law_near","_law_free","_law_more_here","_law_t","_law_u","_law_r","_law_facing"] ["_law_seed","_law_w","_law_near","_law_free"] (jm JG):=fQ;refine F.okZ sc (fun vs H Q E h=>?_) (fun au A outer s H vs Q E hr h=>?_)
 .obtain⟨s,n,a,fr,ws,fs,rfl,_⟩:=h
  rfl
 have ER:(A.deeper (cr "_law_claim" (jm JG) s.heap.objs.size f au)).units+1+0 < cLine:=by have:=hr.units;omega
 obtain⟨sd,n,a,fr,ws,fs,rfl,hw,hn,hf,q⟩:=h;refine⟨_,(jd (jw (i:=4) sc.nd rfl oQ (jp jZ (jK (ja (js qH (js jQ (js jY (zpv 0) jc) jc) jc) (ja (js qH (js jQ (js k9 (zpv 0) jc) (js k9 jc (js Jj jc jc))) (js Jj jc jc)) jb))) (js jQ (js jY (zpv 0) jc) jc) (fun _ _=>rfl)))
   (jd (jN (KP (jC kh (js jQ (zpv 0) jc) jc (jH _)) (KB (jC (jgn 0 ER) (zpv 3) (jK jb) (jH _)))).pt (ji (jB (jR (ja jq (ja (jh i7 hr (ja (jh dN hr (ja (zpv 0) (ja jc jb))) (ja (zpv 1) (ja (zpv 2) jb)))) (ja (jh i7 hr (ja (jh dN hr (ja (zpv 0) (ja jc jb))) (ja (zpv 1) (ja (zpv 2) jb)))) (ja (zpv 4) jb))))))) jJ)
   (jd (jw (i:=5) sc.nd rfl oQ (jh eZ hr (ja (jh dN hr (ja (zpv 0) (ja jc jb))) (ja (zpv 1) (ja (zpv 2) jb)))))
   (jd (jw (i:=6) sc.nd rfl oQ (jh wz hr (ja (jh dN hr (ja (zpv 0) (ja jc jb))) (ja (zpv 1) (ja (zpv 2) jb)))))
   (jd (jw (i:=7) sc.nd rfl oQ (jp jZ (zpv 3) (js jQ (js jY (zpv 0) jc) (qZ kN (by rfl) B.len_ Jp (ja (zpv 3) jb))) (fun _ _=>rfl)))
   (jd (jN (jC kh (js jQ (zpv 0) jc) jc (jH _)) (jd (jw (i:=8) sc.nd rfl oQ (jR (ja jq (ja (jp jZ (jK (ja jq (ja (jp jZ (zpv 1) jc (fun _ _=>rfl)) (ja (jp jZ (zpv 1) jc (fun _ _=>rfl)) (ja (jp jZ (zpv 1) jc (fun _ _=>rfl)) jb))))) (js jQ (js jY (zpv 0) jc) jc) (fun _ _=>rfl)) jb))))
   (jd (Js (jN (jC kh (js jQ (js jY (zpv 0) jc) jc) jc (jH _)) (ji (jw (i:=8) sc.nd rfl oQ (jR (ja jq (ja (jp jZ (zpv 3) (js jQ (js jY (zpv 0) jc) (qZ kN (by rfl) B.len_ Jp (ja (zpv 3) jb))) (fun _ _=>rfl)) jb))))) jJ))
   (ji (jB (jR (ja jq (ja (zpv 5) (ja (zpv 6) (ja (zpv 7) (ja (jp jZ (jK (ja jq (ja jq jb))) (js jQ (js jY (zpv 0) jc) jc) (fun _ _=>rfl)) (ja (zpv 8) (ja (zpv 4) jb)))))))))))) jJ)
   (ji (jB (jR (ja jq (ja (zpv 5) (ja (zpv 6) (ja (zpv 7) jb))))))))))))),?_⟩
 refine jG (σ':=[some (.int sd),some (.ref a),some (.int n),some (.ref fr),none,none,none,none,none]) rfl ?_;refine jfa ?_;intro _ _ _ _ _ _;refine⟨_,rfl,_,_,rfl,rfl,⟨by decide,by decide⟩,_,_,rfl,rfl,(by show (0:Int) < _;decide),_,_,rfl,rfl,_,rfl,_,_,rfl,rfl,.inr ⟨by decide,by decide⟩,_,_,rfl,rfl,⟨by decide,by decide,by decide⟩,_,_,rfl,rfl,.inl ⟨by decide,by decide⟩,_,_,rfl,rfl,(by show (0:Int) < _;decide),_,_,rfl,rfl,⟨by decide,by decide,by decide⟩,_,_,rfl,rfl,sm rfl,fun l1 pD=>?_⟩;dsimp only;have b1:=qb (x:=sd / 6) (y:=7) (by decide);have b2:=jhu (sd * 7919);have b3:(sd / 6 % 7 - 3).natAbs<=10 ^ 16:=by omega
 generalize sd / 6 % 7 - 3=c1 at *;generalize sd * 7919 % (2 * 10 ^ eT 15) - 10 ^ eT 15=c2 at *;have s1:=jk pD (.lst [V.int c1,V.int c2]);have e1:upd H l1 (.lst [V.int c1,V.int c2]) l1=some (.lst [V.int c1,V.int c2]):=jf;generalize upd H l1 (.lst [V.int c1,V.int c2])=H1 at *;refine⟨_,rfl,_,_,rfl,rfl,⟨by decide,by decide⟩,_,_,rfl,rfl,(by show (0:Int) < _;decide),?_⟩;obtain⟨mo,pA,bm⟩:=jg5 b3 b2 (i:=sd / 42 % 2) (qb (by decide)).1 (qb (by decide)).2;refine⟨l1,_,_,_,rfl,rfl,SqL.of e1,pA,?_⟩;refine gQ ?_;clear pA e1 pD;refine⟨_,rfl,_,_,rfl,rfl,(by show (0:Int) < _;decide),rfl,_,rfl,?_⟩;refine yu (fun d=>?ga) (fun d=>?gb)
 case' gb=>
  refine⟨_,rfl,sm rfl,fun l2 mf=>?_⟩
  have s2:=jk mf (.lst [])
  have e2:upd H1 l2 (.lst []) l2=some (.lst []):=jf
  generalize upd H1 l2 (.lst [])=H2 at *
  have bV:=s1.trans s2
  clear s1 s2 mf
  refine⟨fr,l2,_,_,fs.map D.str,[],rfl,rfl,bV _ _ hf.at_,e2,DE (Yw fs),Yt fs,jr,_,rfl,yu (fun dd=>?gc) (fun dd=>?gd)⟩
 case' ga=>
  have bV:=s1
  clear s1
  generalize H1=H2 at *
 case' gd=>
  have FF:fs≠[]:=fun z=>dd (MR (by rw[z];rfl))
  have Bn:0 < fs.length:=List.length_pos_iff.mpr FF
  refine⟨_,rfl,sd,3,rfl,fun s3=>?_⟩
  refine⟨_,rfl,_,rfl,s3,n,a,ws,rfl,hw.mono bV,hn,fun tx td ta H3 t3 gx gd dn=>?_⟩
  refine gQ ?_
  have cy:=bV.trans t3
  refine⟨_,rfl,sd,4,rfl,fun s4=>?_⟩
  refine⟨_,rfl,_,rfl,s4,n,a,ws,rfl,hw.mono cy,hn,fun ux ud ua H4 t4 gu ge AG=>?_⟩
  refine gQ ?_
  have fj:=cy.trans t4
  have AJ:=dn.mono t4
  have nO:=hf.mono fj
  have eI:=hw.mono fj
  clear t3 t4 dn bV cy hf hw e2
  obtain⟨ig,r,gD,gr⟩:=nO.get Bn (sd / 3)
  obtain⟨_,rr,hX,GO⟩:=nO.get Bn (sd / 1512)
  refine⟨_,rfl,_,rfl,_,_,rfl,rfl,⟨by decide,by decide⟩,_,rfl,fr,_,rfl,.inl (SqL.of nO.at_),_,_,rfl,rfl,ig,fr,_,_,_,rfl,rfl,SqL.of nO.at_,gD,?_⟩
  refine gQ ?_
  refine⟨_,rfl,_,_,rfl,rfl,(by show (0:Int) < _;decide),rfl,_,rfl,yu (fun e=>?ge) (fun e=>?gf)⟩
 case' gf=>
  refine⟨_,rfl,_,rfl,_,rfl,sm rfl,fun t ht=>?_⟩
  have s5:=jk ht (.tup [V.str "rise",ta,ua,V.str r])
  exact q (.rise tx td ux ud r) _ _ (fj.trans s5) ⟨gx,by omega,gu,by omega,gr⟩ (jL jf (je jE (je (AJ.mono s5) (je (AG.mono s5) (je jE jr)))))
 case' ge=>
  obtain⟨x0,nv,o0⟩:=eI.get (i:=0) (by decide) (by decide)
  obtain⟨x1,o6,o1⟩:=eI.get (i:=1) (by decide) (by decide)
  obtain⟨x2,oZ,o2⟩:=eI.get (i:=2) (by decide) (by decide)
  refine⟨_,rfl,a,_,_,_,rfl,rfl,SqL.of eI.at_,nv,_,rfl,a,_,_,_,rfl,rfl,SqL.of eI.at_,o6,_,rfl,a,_,_,_,rfl,rfl,SqL.of eI.at_,oZ,sm rfl,fun l3 vn=>?_⟩
  have s5:=jk vn (.lst [V.str "",V.str x0,V.str x1,V.str x2])
  have e5:upd H4 l3 (.lst [V.str "",V.str x0,V.str x1,V.str x2]) l3=some (.lst [V.str "",V.str x0,V.str x1,V.str x2]):=jf
  generalize upd H4 l3 (.lst [V.str "",V.str x0,V.str x1,V.str x2])=H5 at *
  obtain⟨z,hz,oz⟩:=ZS o0 o1 o2 (i:=sd / 126 % 4) (qb (by decide)).1 (qb (by decide)).2
  refine⟨_,rfl,_,_,rfl,rfl,⟨by decide,by decide⟩,_,_,rfl,rfl,(by show (0:Int) < _;decide),l3,_,_,_,rfl,rfl,SqL.of e5,hz,sm rfl,fun t6 hU=>?_⟩
  have s6:=jk hU (.tup [V.str "is",V.str z])
  have e6:upd H5 t6 (.tup [V.str "is",V.str z]) t6=some (.tup [V.str "is",V.str z]):=jf
  generalize upd H5 t6 (.tup [V.str "is",V.str z])=H6 at *
  refine gQ ?_
  have xZ:=s5.trans s6
  refine⟨fun σ G=>∃o b,σ=[some (.int sd),some (.ref a),some (.int n),some (.ref fr),some (.int mo),some ta,some ua,some (.str r),some (.ref o)]/\Same H6 G/\BdG b/\Held G b.toD (.ref o),?_,?_⟩
  .refine⟨_,rfl,_,_,rfl,rfl,⟨by decide,by decide⟩,_,_,rfl,rfl,(by show (0:Int) < _;decide),rfl,_,rfl,yu (fun e=>?_) (fun e=>?_)⟩
   .have Bm:=xZ _ _ nO.at_
    refine⟨_,rfl,_,rfl,_,_,rfl,rfl,⟨by decide,by decide⟩,_,rfl,fr,_,rfl,.inl (SqL.of Bm),_,_,rfl,rfl,ig,fr,_,_,_,rfl,rfl,SqL.of Bm,hX,sm rfl,fun t7 uU=>?_⟩
    exact⟨t7,.row rr,rfl,jk uU _,GO,jcB ⟨_,_,rfl,jf⟩⟩
   .exact⟨t6,.is z,rfl,Same.refl _,oz,jcB ⟨_,_,rfl,e6⟩⟩
  rintro σ G ⟨o,b,rfl,sG,gb,ho⟩
  refine⟨_,rfl,_,rfl,_,rfl,sm rfl,fun l8 vk=>?_⟩
  have s8:=jk vk (.lst [V.str ">=",V.str "<="])
  have e8:upd G l8 (.lst [V.str ">=",V.str "<="]) l8=some (.lst [V.str ">=",V.str "<="]):=jf
  generalize upd G l8 (.lst [V.str ">=",V.str "<="])=H8 at *
  obtain⟨way,EG⟩:=jdN (i:=sd / 84 % 2) (qb (by decide)).1 (qb (by decide)).2
  refine⟨_,rfl,_,_,rfl,rfl,⟨by decide,by decide⟩,_,_,rfl,rfl,(by show (0:Int) < _;decide),l8,_,_,_,rfl,rfl,SqL.of e8,EG,_,rfl,_,rfl,sm rfl,fun t9 EW=>?_⟩
  have s9:=jk EW (.tup [V.str "each",ta,ua,V.str r,V.str way,V.ref o,V.int mo])
  have sZ:=xZ.trans (sG.trans (s8.trans s9))
  exact q (.each tx td ux ud r way b mo) _ _ (fj.trans sZ) ⟨gx,by omega,gu,by omega,gr,gb,by omega⟩ (jL jf (je jE (je (AJ.mono sZ) (je (AG.mono sZ) (je jE (je jE (je (ho.mono (s8.trans s9)) (je jO jr))))))))
 all_goals
  refine⟨_,rfl,sd,1,rfl,fun s3=>?_⟩
  refine⟨_,rfl,_,rfl,s3,n,a,ws,rfl,hw.mono bV,hn,fun tm u H3 t3 g1 hu=>?_⟩
  refine⟨_,rfl,sd,2,rfl,fun s4=>?_⟩
  refine⟨_,rfl,_,rfl,s4,n,a,ws,rfl,hw.mono (bV.trans t3),hn,fun D6 u2 H4 t4 g2 o_=>?_⟩
  refine⟨_,rfl,sm rfl,fun t ht=>?_⟩
  have s5:=jk ht (.tup [V.str "least",u,u2,V.int mo])
  exact q (.least tm D6 mo) _ _ (bV.trans (t3.trans (t4.trans s5))) ⟨g1,g2,by omega⟩ (jL jf (je jE (je (hu.mono (t4.trans s5)) (je (o_.mono s5) (je jO jr)))))
end
end LW
namespace L2
open PySem PySem.Spec PyProof.Rows PySem.W
theorem lt_trans{a b c:List Nat}(h1:ltCps a b=true)(h2:ltCps b c=true):ltCps a c=true:=by
 induction a generalizing b c with
 | nil=>cases c with
  | nil=>cases b <;> simp[ltCps]at h1 h2
  | cons _ _=>rfl
 | cons x a ih=>
  cases b with
  | nil=>simp[ltCps]at h1
  | cons y b=>cases c with
   | nil=>simp[ltCps]at h2
   | cons z c=>
    simp only[ltCps,ME,gY,decide_eq_true_eq,beq_iff_eq]at h1 h2 |-;rcases h1 with h1 | ⟨h1,cn⟩
    .rcases h2 with h2 | ⟨h2,du⟩
     .left;omega
     .left;omega
    .rcases h2 with h2 | ⟨h2,du⟩
     .left;omega
     .right;exact⟨by omega,ih cn du⟩
end L2
namespace PySem.W
open PySem PySem.Calls PyProof.Rows PyProof.V PySem.Spec
section
variable {prog:az}{w:aw}{A:aL}{E:ae->af->Prop}{s:af}{T:String}{r d:ab}{n:Nat}{P:Nat->ae->Prop}{OK:aj->Prop}
theorem je9{R:ou->af->Prop}(K:KdlSrc prog w T r d n P OK)(hh:A.handled=none)(hok:OK s.heap)(hn:n<=aE)(S:ab)(Gk:S≠r)(Go:S≠d)(c₀:Nat)(hS:s.heap.get? S=some { cls:=.type "list",data:=.seq #[] c₀ })
  (hR:∀h' tk pQ c',(∀b o,b≠S->s.heap.get? b=some o->h'.get? b=some o)->h'.get? S=some { cls:=.type "list",dict:=none,data:=.seq pQ c',slots:=#[] }->ItemsOf P pQ n->R (.ok (.ret (.ref S))) { s with heap:=h',toks:=tk }) :
  dg (ai prog w) A (.builtin "list.__iadd__" ⟨[.ref S,.ref r],[]⟩) R s:=by
 refine codeAny_builtin F.entry_list_iadd ?_
 rw[Lq Lf _]
 exact kdl_extend K hh hok S Gk Go _ c₀ hS hR hn
theorem jaU{Q:List ae->af->Prop}(K:KdlSrc prog w T r d n P OK)(hh:A.handled=none)(hok:OK s.heap)(hn:n<=aE)
  (hQ:∀h' tk aJ,(∀b o,s.heap.get? b=some o->h'.get? b=some o)->ItemsOf P aJ n->Q aJ.toList { s with heap:=h',toks:=tk }) :
  al (ai prog w) A (collect (.ref r)) Q E s:=by
 have aS:=K.there _ hok
 unfold collect
 refine ar (wpAny_runValue (codeAny_builtin F.entry_proto_collect ?_))
 rw[Lq F.plain_proto_collect _]
 show al _ A.in1 (rZ [] >>= fun l=>again (.builtin "list.__iadd__" ⟨[l,.ref r],[]⟩)) _ _ s
 refine ar (iw ?_)
 have hS:(s.heap.push { cls:=.type "list",data:=.seq ([]:List ae).toArray }).get? s.heap.objs.size=some { cls:=.type "list",data:=.seq #[] 0 }:=eh _ rfl
 refine aN ⟨plainId_quiet Lf _,je9 (A:=A) (s:=({ s with heap:=s.heap.push { cls:=.type "list",data:=.seq ([]:List ae).toArray } }:af)) K hh (K.keep _ _ hok fun b _ o e=>bK _ e) hn s.heap.objs.size (iD aS.1) (iD aS.2) 0 hS fun h' tk pQ c' hk Gq F6=>?_⟩
 show al _ A (load s.heap.objs.size >>= _) _ _ _
 refine ar (wpAny_load Gq ?_)
 exact aN (hQ h' tk pQ (fun b o e=>hk b o (bB (bp e)) (bK _ e)) F6)
end
end PySem.W
namespace L2
open PySem PySem.Spec PyProof.Rows PySem.W
theorem Kn{X:Cx}{n:Nat}(hc:X.calm=true)(hu:X.A.units+3+n < cLine):zC X (.builtin "sorted") (fun xs H Q=>∃(v d:ab) (kvs:List (Key×V)) (ps:List (D×ab)),xs=[.ref v]/\H v=some (zS v d)/\H d=some (.dK kvs)/\kvs.map (·.2)=(ps.map (·.2)).map V.ref/\(∀q∈ps,Held H q.1 (.ref q.2))/\SortT (ps.map (·.1)) n/\ps.length<=11000000/\
  ∀(l:ab) (qs:List (D×ab)),H l=none->qs.Perm ps->(qs.map (·.1)).Pairwise (fun a b=>dLt b a=false)->Q (.ref l) (upd H l (.lst ((qs.map (·.2)).map V.ref)))):=by
 intro ad s σ H xs us Q I r h
 obtain⟨v,d,kvs,ps,rfl,hv,hd,Fb,hk,hS,most,q⟩:=h
 obtain⟨u,rfl,rx⟩:=Ja r
 cases rx
 obtain⟨hz,lo,vs,bv,hD⟩:=I.hok d _ hd
 obtain⟨EK,_⟩:=I.hok v _ hv
 obtain⟨ep,nU⟩:=hD.dictAt
 have bf:kvs.length=vs.length:=bv.length
 have ev:vs.map (·.2)=ps.map fun p=>Value.ref p.2:=by
  have:=jcj bv;rw[Fb]at this;rw[J6 this,lK];rfl
 refine Ln kind_sorted plain_sorted entry_sorted (args_sorted1 _) ?_
 unfold Builtin.«sorted»
 refine ar (m:=checkCount "sorted" 1 1 _) (aN (ar (jaU (A:=X.A.in1) (kdl_values (knd:=j9 X.prog X.w) (kvs:=vs) (ep:=ep)) (show X.A.in1.handled=none from I.ok.hd hc) ⟨EK,nU⟩ (by rw[<- bf];exact hz) fun h' tk aJ Fu ha=>?_)))
 have Hc:aJ.toList=ps.map fun p=>Value.ref p.2:=by
  rw[<- ev];apply Mr;intro j;rw[bH];by_cases hj:j < aJ.size
  .have e1:aJ[j]?=some aJ[j]:=by simp[hj]
   obtain⟨k,e2⟩:=ha.2 j _ e1;rw[e2];simp[hj]
  .have h1:aJ.toList[j]?=none:=DM (by simp;omega)
   have h2:vs[j]?=none:=DM (by have:=ha.1;omega);rw[h1,h2];rfl
 generalize aJ.toList=oN at *
 subst Hc
 have hl:(ps.map fun p=>Value.ref p.2).length=ps.length:=aB _
 have I1:Inv X ad σ H { s with heap:=h',toks:=tk }:=I.kept Fu
 refine ar (wL ?_ (by rw[hl];exact aG most qy))
 have h_:(h'.push (bL "list" (ps.map fun p=>Value.ref p.2).toArray 0)).get? h'.objs.size=some (bL "list" (ps.map fun p=>Value.ref p.2).toArray 0):=eh _ rfl
 have kt:∀b xs,h'.IsTuple b xs->(h'.push (bL "list" (ps.map fun p=>Value.ref p.2).toArray 0)).IsTuple b xs:=fun b xs ⟨o,z1,z2⟩=>⟨o,bK _ z1,z2⟩
 have hT:∀q∈ps,TrAt (h'.push (bL "list" (ps.map fun p=>Value.ref p.2).toArray 0)) q.1 (.ref q.2):=fun q hq=>(KM I1 (u:=.ref q.2) (hk q hq) rfl).kept kt
 have hI:TrAtL (h'.push (bL "list" (ps.map fun p=>Value.ref p.2).toArray 0)) (ps.map (·.1)) (ps.map fun p=>Value.ref p.2):=K0 (qs:=ps) hT
 refine ar (ix (Cq slot_list_sort ⟨_,h_,rfl⟩ entry_list_sort (Kq (n:=n) h_ hI hS (by show X.A.units+1+1+n < cLine;omega) (by rw[hl];exact aG most qy) fun out ms a0 a1 a2 a3=>⟨_,rfl,aN ⟨_,rfl,?_⟩⟩) (args_list_sort _)))
 obtain⟨qs,q1,q2⟩:=Y1 (f:=fun p:D×ab=>Value.ref p.2) a0.symm rfl
 have em:ms=qs.map (·.1):=trL_inj a1 (by
  have:=K0 (qs:=qs) fun q hq=>hT q (q1.mem_iff.mp hq)
  rw[q2]at this;exact this)
 rw[em]at a3
 obtain⟨e,he⟩:=sortedHeap_at (out:=out) h_
 refine⟨.ref h'.objs.size,_,I1.laid (t':=tk) (a:=h'.objs.size) (fun b o hb=>?_) (aD _) (show ObjOk X.prog X.w _ _ _ (.lst ((qs.map (·.2)).map V.ref)) from⟨?_,_,e,Kf _,?_⟩),rfl,q _ qs (I1.hok.fresh (aD _)) q1 a3⟩
 .have aS:=bp hb
  rw[sortedHeap_old (bB aS) (by rw[xl];exact oA aS)]
  exact bK _ hb
 .rw[aB,aB,q1.length_eq]
  exact aG most qy
 .have:((qs.map (·.2)).map Value.ref).toArray=out:=by
   rw[lK];show (qs.map fun p=>Value.ref p.2).toArray=out;rw[q2,ML]
  rw[this];exact he
end L2
namespace LW
open PySem L2
abbrev zm:aA:=top 54
def K5(K:aq):Sp:=fun vs H Q _=>∃(cs:ab) (ns:List Int) (bh:Int) (a:ab) (ws:List Str),vs=[.ref cs,.ref a,.int bh]/\SqL K H cs (ns.map V.int)/\ns.length<=40/\Ws H a ws/\bh.natAbs<=10 ^ 17/\
 ∀(l:ab) (R:List Rw) (rs:List V) (H':Hp),Same H H'->H l=none->H' l=some (.lst rs)->HeldL H' (R.map Rw.toD) rs->R.length<=ns.length->(∀r∈R,RwG r)->Q (.ref l) H'
def SInv(H:Hp)(l p:ab)(i:Nat)(G:Hp):Prop:=Same H G/\∃(R:List Rw) (rs:List V) (kvs:List (Key×V)),G l=some (.lst rs)/\HeldL G (R.map Rw.toD) rs/\R.length<=i/\(∀r∈R,RwG r)/\G p=some (.dK kvs)/\kvs.length<=i
theorem zr{K:aq}{H G:Hp}{a:ab}{xs:List V}(h:SqL K H a xs)(s:Same H G):SqL K G a xs:=by
 rcases h with (h | ⟨o,h⟩) | h
 .exact .inl (.inl (s _ _ h))
 .exact .inl (.inr ⟨o,s _ _ h⟩)
 .exact .inr h
theorem jik{ws:List Str}(h:ws.length=6):zf (ws.map V.str) (some 3) none=(ws.drop 3).map V.str:=by
 match ws,h with
 | [a,b,c,d,e,f],_=>rfl
theorem jbx{H:Hp}{a:ab}{xs ys:List V}{ds:List D}{vs:List V}(h:HeldL H ds vs)(e:H a=some (.lst xs)):HeldL (upd H a (.lst ys)) ds vs:=
 TK.heldL (fun b zs eb=>jj (jy eb e (by intro z;cases z)) eb) h
section
variable {P:az}{w:aw}{K:aq}{mg:Str->Option ae}{base:aj}
theorem jaz{f:ab}{fd:aH}(F:Fun K "_law_straight" "_law_straight" zm f fd)(B:Free0 mg)(gH:mg "enumerate" = none)(dN:Fn P w K mg base 1 "_law_mix" ["_law_seed","_law_k"] jb0)(i9:Fn P w K mg base 3 "_law_claim" ["_law_seed","_law_w","_law_near","_law_free"] Yd)(wD:Fn P w K mg base 3 "_law_drawn" ["_law_seed","_law_w","_law_near"] jb2):FnOk P w K mg base CX0 4 f fd ["_law_cells","_law_w","_law_near"] (K5 K):=by
 have sc:FnScope ["_law_cells","_law_w","_law_near","_law_straight_here","_law_put","_law_k","_law_cell","_law_seed","_law_free","_law_row"] ["_law_cells","_law_w","_law_near"] (jm zm):=fQ;refine F.okZ sc (fun vs H Q E h=>?_) (fun au A outer s H vs Q E hr h=>?_)
 .obtain⟨cs,ns,n,a,ws,rfl,_⟩:=h
  rfl
 have hu:(A.deeper (cr "_law_straight" (jm zm) s.heap.objs.size f au)).units+1 < cLine:=by have:=hr.units;omega
 obtain⟨cs,ns,bh,a,ws,rfl,ii,A1,hw,hn,q⟩:=h;refine⟨_,(jd (jw (i:=3) sc.nd rfl oQ (jK jb))
   (jd (jw (i:=4) sc.nd rfl oQ qf)
   (jd (kL ee rfl (KQ (by rfl) gH (ja (zpv 0) jb)) (kH rfl (jz (jx (i:=5) sc.nd rfl oQ) (jz (jx (i:=6) sc.nd rfl oQ) ky))) (jd (jw (i:=7) sc.nd rfl oQ (jh dN hr (ja (js jQ (zpv 6) jc) (ja (zpv 5) jb))))
   (ji (jN (jC kh (js jQ (js jY (zpv 7) jc) jc) jc (jH _)) (jd (yE (i:=8) sc.nd rfl oQ ["_law_r"] [4] rfl (zg (sc:=jm zm) (N:=["_law_cells","_law_w","_law_near","_law_straight_here","_law_put","_law_k","_law_cell","_law_seed","_law_free","_law_row"]) rfl rfl (by decide +kernel)) (ko (qe JB (zpv 1) (qj jc) qS)) (fun s H ex=>⟨(jx (i:=0) (show ff (["_law_r","_law_put"]:List Str) by decide +kernel) rfl oQ),(Z7 (jfA (jaZ hu (zpv 0) (zpv 1)))),(zpv 0)⟩))
   (ji (jA (kg bS dj dh j0 (zpv 3) (ja (jR (ja jq (ja (jh i9 hr (ja (jh dN hr (ja (zpv 7) (ja jc jb))) (ja (zpv 1) (ja (zpv 2) (ja (zpv 8) jb))))) jb))) jb))))) (jd (jw (i:=9) sc.nd rfl oQ (jh wD hr (ja (jh dN hr (ja (zpv 7) (ja jc jb))) (ja (zpv 1) (ja (zpv 2) jb)))))
   (jd (jA (kg bS dj dh j0 (zpv 3) (ja (zpv 9) jb)))
   (jd (jN (jC kh (jp ju (zpv 9) jc (fun _ _=>rfl)) jq (jH _)) (ji (kx hu (zpv 4) (jp ju (zpv 9) jc (fun _ _=>rfl)) zP rfl)) jJ)
   (ji (jN (jC kh (jp ju (zpv 9) jc (fun _ _=>rfl)) jq (jH _)) (ji (jA ⟨jeC (zpv 4).h (jp ju (zpv 9) jc (fun _ _=>rfl)).h zP.h ⟨rfl,rfl,rfl,rfl⟩⟩)) jJ)))))))))
   (ji (jB (zpv 3)))))),?_⟩
 refine jG (σ':=[some (.ref cs),some (.ref a),some (.int bh),none,none,none,none,none,none,none]) rfl ?_;refine⟨sm rfl,fun l hl=>?_⟩;have s1:=jk hl (.lst []);have e1:upd H l (.lst []) l=some (.lst []):=jf;generalize upd H l (.lst [])=H1 at *;refine fun p hp=>?_
 have s2:=jk hp (.dK []);have e2:upd H1 p (.dK []) p=some (.dK []):=jf;have i5:=s2 _ _ e1;have tY:l≠p:=jo e1 hp;have nH:H p=none:=s1.free hp;generalize upd H1 p (.dK [])=H2 at *;have bV:=s1.trans s2;refine gQ ?_;refine⟨_,rfl,cs,rfl,⟨_,zr ii bV⟩,?_⟩;let Pv:Nat->L2.St->Hp->Prop:=fun i σ G=>∃u5 u6 u7 u8 u9,σ=[some (.ref cs),some (.ref a),some (.int bh),some (.ref l),some (.ref p),u5,u6,u7,u8,u9]/\SInv H l p i G
 refine Yv (xs:=ns.map V.int) Pv ⟨none,none,none,none,none,rfl,bV,[],[],[],i5,jr,aD _,fun _ z=>(nomatch z),e2,aD _⟩ ?_ ?_ ?_
 .rintro i σ G _ ⟨u5,u6,u7,u8,u9,rfl,sG,_⟩
  exact zr ii sG
 .rintro i y σ G t hy ⟨u5,u6,u7,u8,u9,rfl,sG,R,rs,kvs,fS,hR,fw,ik,dI,mh⟩ ht
  obtain⟨c,rfl⟩:∃c,y=.int c:=by
   rw[bH]at hy;obtain⟨c,_,e⟩:=Dx.mp hy;exact⟨c,e.symm⟩
  have hi:i < 40:=by
   have:=(bI.mp hy).1;rw[aB]at this;omega
  have s3:=jk ht (.tup [.int i,.int c]);have e3:upd G t (.tup [.int i,.int c]) t=some (.tup [.int i,.int c]):=jf;generalize upd G t (.tup [.int i,.int c])=G1 at *;have g0:=sG.trans s3;have mq:=s3 _ _ fS;have vH:=s3 _ _ dI;have pJ:=hR.mono s3;refine⟨t,_,rfl,SqT.of e3,rfl,_,_,rfl,_,_,rfl,rfl,?_⟩;refine gQ ?_;refine⟨_,rfl,_,_,rfl,rfl,(by show (0:Int) < _;decide),_,rfl,_,_,rfl,fun sd=>?_⟩;refine gQ ?_;refine⟨_,rfl,_,_,rfl,rfl,⟨by decide,by decide⟩,_,_,rfl,rfl,(by show (0:Int) < _;decide),rfl,_,rfl,yu (fun d=>?_) (fun d=>?_)⟩
  .have eJ:=hw.mono g0
   refine⟨_,rfl,_,rfl,a,_,rfl,SqL.of eJ.at_,fun p5 h5=>⟨p5,rfl,⟨_,SqL.of jf⟩,fun lf vj=>?_⟩⟩;rw[jik eJ.len]at vj |-;have s5:=jk h5 (.lst ((ws.drop 3).map V.str));have e5:upd G1 p5 (.lst ((ws.drop 3).map V.str)) p5=some (.lst ((ws.drop 3).map V.str)):=jf;generalize upd G1 p5 (.lst ((ws.drop 3).map V.str))=G2 at *;have s6:=jk vj (.lst []);have Gz:=s5 _ _ vH;have Bs:(ws.drop 3).length=3:=by rw[lM,eJ.len]
   refine yZ (xs:=(ws.drop 3).map V.str) (fun j σ' G'=>∃(u:Option V) (fs:List Str),σ'=[u,some (.ref p)]/\Same G2 G'/\G' lf=some (.lst (fs.map V.str))/\fs.length<=j/\∀x∈fs,Wd x) ⟨none,[],rfl,s6,jf,aD _,fun _ z=>(nomatch z)⟩ ?_ ?_ ?_
   .rintro j σ' G' _ ⟨u,fs,rfl,aI,_⟩
    exact SqL.of (aI _ _ e5)
   .rintro j x σ' G' hx ⟨u,fs,rfl,aI,BM,mj,pF⟩
    have hj:j < 3:=by
     have:=(bI.mp hx).1;rw[aB,Bs]at this;exact this
    obtain⟨z,rfl,hz⟩:∃z,x=.str z/\Wd z:=by
     rw[bH]at hx;obtain⟨z,hz,e⟩:=Dx.mp hx;exact⟨z,e.symm,hw.ok z (xy (lI hz))⟩
    unfold qm;refine⟨_,rfl,_,rfl,p,_,rfl,.k (k:=.inr z) (aI _ _ Gz),_,rfl,?_⟩;refine yu (fun c=>?_) (fun c=>?_)
    .refine⟨_,rfl,_,BM,jI (by rw[aB];omega),_,fs++[z],rfl,fun b o e=>?_,?_,by rw[bz];exact gW mj,fun y hy=>?_⟩
     .rw[jD (jo e vj)]
      exact aI _ _ e
     .rw[jf,bq]
      rfl
     .rcases bx.mp hy with hy | hy
      .exact pF y hy
      .cases aM.mp hy
       exact hz
    .exact⟨_,fs,rfl,aI,BM,oC mj,pF⟩
   rintro σ' G3 ⟨u,fs,rfl,iI,GF,mj,pF⟩;have mj:fs.length<=6:=by rw[aB,Bs]at mj;omega
   refine gQ ?_;have cy:=s5.trans iI;have GD:=cy _ _ mq;refine⟨_,rfl,.inl ⟨rfl,_,SqL.of GD⟩,?_⟩;refine⟨_,rfl,sd,1,rfl,fun tI=>?_⟩;refine⟨_,rfl,_,rfl,_,rfl,tI,bh,a,lf,ws,fs,rfl,(eJ.mono cy),hn,⟨GF,mj,pF⟩,fun k v G4 s4 gk hv=>⟨sm rfl,fun t2 iO=>?_⟩⟩;have s7:=jk iO (.tup [V.str "know",v]);have e7:upd G4 t2 (.tup [V.str "know",v]) t2=some (.tup [V.str "know",v]):=jf;generalize upd G4 t2 (.tup [V.str "know",v])=G5 at *;have m_:=cy.trans (s4.trans s7);have sA:=g0.trans m_;refine⟨l,rs,_,rfl,rfl,m_ _ _ mq,jI (by rw[<- hR.length,aB];omega),?_⟩;exact⟨_,_,_,_,_,rfl,fun b o e=>jj (jo e hl) (sA _ _ e),R++[.know k],_,kvs,jf,by
    rw[bq];exact jbx (j4 (pJ.mono m_) (je (jL e7 (je jE (je (hv.mono s7) jr))) jr)) (m_ _ _ mq),by rw[bz];exact gW fw,fun r hr=>(bx.mp hr).elim (ik r) fun z=>by cases aM.mp z;exact gk,jj tY.symm (m_ _ _ vH),oC mh⟩
  .have eJ:=hw.mono g0
   refine⟨_,rfl,sd,2,rfl,fun tI=>⟨_,rfl,_,rfl,tI,bh,a,ws,rfl,eJ,hn,fun r v G4 s4 gr nk hv=>?_⟩⟩;refine gQ ?_;have mn:=s4 _ _ mq;have Gy:=s4 _ _ vH;have sA:=g0.trans s4;refine⟨_,rfl,.inl ⟨rfl,_,SqL.of mn⟩,_,rfl,l,rs,_,rfl,rfl,mn,jI (by rw[<- hR.length,aB];omega),?_⟩;have s5:Same H (upd G4 l (.lst (rs++[v]))):=fun b o e=>jj (jo e hl) (sA _ _ e)
   have k5:TK G4 (upd G4 l (.lst (rs++[v]))):=fun b zs eb=>jj (jy eb mn (by intro z;cases z)) eb
   have Bh:upd G4 l (.lst (rs++[v])) l=some (.lst (rs++[v])):=jf;have md:upd G4 l (.lst (rs++[v])) p=some (.dK kvs):=jj tY.symm Gy;have Gw:=j4 (k5.heldL (pJ.mono s4)) (je (k5.held hv) jr);have o9:=k5.held hv;generalize upd G4 l (.lst (rs++[v]))=G5 at *;have BH:HeldL G5 ((R++[r]).map Rw.toD) (rs++[v]):=by rw[bq];exact Gw
   have BD:(R++[r]).length<=i+1:=by rw[bz];exact gW fw
   have BE:∀q∈R++[r],RwG q:=fun q hq=>(bx.mp hq).elim (ik q) fun z=>by cases aM.mp z;exact gr
   have tW:∀u9,Pv (i+1) [some (.ref cs),some (.ref a),some (.int bh),some (.ref l),some (.ref p),some (.int i),some (.int c),some (.int sd),u8,u9] G5:=fun u9=>⟨_,_,_,_,_,rfl,s5,_,_,kvs,Bh,BH,BD,BE,md,oC mh⟩
   have Ag:∀u9 dR,dR.length<=i+1->Pv (i+1) [some (.ref cs),some (.ref a),some (.int bh),some (.ref l),some (.ref p),some (.int i),some (.int c),some (.int sd),u8,u9] (upd G5 p (.dK dR)):=fun u9 dR vo=>⟨_,_,_,_,_,rfl,fun b o e=>jj (jo e nH) (s5 _ _ e),_,_,dR,jj tY Bh,TK.heldL (fun b zs eb=>jj (jy eb md (by intro z;cases z)) eb) BH,BD,BE,jf,vo⟩
   clear_value Pv;rcases r with⟨x,tm,k'⟩ | ⟨r,x,d,tm,k'⟩ | ⟨x⟩ | ⟨r⟩ | ⟨C⟩
   .obtain⟨b,y0,y1,y2,y3,rfl,hb,h0,h1,h2,h3⟩:=yf o9
    cases jv h0
    refine⟨_,rfl,b,_,_,_,rfl,rfl,SqT.of hb,jg (j:=0) rfl,rfl,_,rfl,ku ?_⟩;exact⟨_,rfl,b,_,_,_,rfl,rfl,SqT.of hb,jg (j:=0) rfl,rfl,_,rfl,ku (tW _)⟩
   .obtain⟨b,y0,y1,y2,y3,y4,rfl,hb,h0,h1,h2,h3,h4⟩:=JV o9
    cases jv h0
    cases jv h1
    refine⟨_,rfl,b,_,_,_,rfl,rfl,SqT.of hb,jg (j:=0) rfl,rfl,_,rfl,kO ?_⟩;refine⟨_,rfl,_,rfl,b,_,_,_,rfl,rfl,SqT.of hb,jg (j:=1) rfl,p,_,rfl,.k (k:=.inr r) md (jI (by omega)),?_⟩;have iX:upd G5 p (.dK (km kvs (.inr r) (.bl true))) b=_:=jj (jy hb md (by intro z;cases z)) hb;exact⟨_,rfl,b,_,_,_,rfl,rfl,SqT.of iX,jg (j:=0) rfl,rfl,_,rfl,ku (Ag _ _ (aG (kK _ _ _) (gW mh)))⟩
   .obtain⟨b,y0,y1,rfl,hb,h0,h1⟩:=qv o9
    cases jv h0
    refine⟨_,rfl,b,_,_,_,rfl,rfl,SqT.of hb,jg (j:=0) rfl,rfl,_,rfl,ku ?_⟩;exact⟨_,rfl,b,_,_,_,rfl,rfl,SqT.of hb,jg (j:=0) rfl,rfl,_,rfl,ku (tW _)⟩
   .obtain⟨b,y0,y1,rfl,hb,h0,h1⟩:=qv o9
    cases jv h0
    cases jv h1
    refine⟨_,rfl,b,_,_,_,rfl,rfl,SqT.of hb,jg (j:=0) rfl,rfl,_,rfl,ku ?_⟩;refine⟨_,rfl,b,_,_,_,rfl,rfl,SqT.of hb,jg (j:=0) rfl,rfl,_,rfl,kO ?_⟩;exact⟨_,rfl,p,rfl,.inl ⟨_,.inl md⟩,_,rfl,b,_,_,_,rfl,rfl,SqT.of hb,jg (j:=1) rfl,kvs,.inr r,md,rfl,fun v e=>Ag _ _ (oC (aG (oG _ _) mh)),fun e=>tW _⟩
   .exact absurd rfl (nk C)
 .rintro σ G ⟨u5,u6,u7,u8,u9,rfl,sG,R,rs,kvs,fS,hR,fw,ik,_⟩
  rw[aB]at fw;exact⟨_,rfl,q l R rs G sG hl fS hR (by omega) ik⟩
end
end LW
namespace L2
open PySem PySem.Spec PyProof.Rows
theorem jcF{X:Cx}{tg l:ag}{tl:TE}{K:aq}(h1:QE X l tl)(h:X.K=K:=by rfl):QI X tg l (Y9 K tl):=by subst h;exact ko h1
section
variable {prog:az}{w:aw}{A:aL}{s:af}{aW t1 i1 t2 i2:ag}{ifs:List ag}{scope:cj}{pos:Pos}{it aJ:ae}{env:Env}{R:ou->af->Prop}
theorem YH:r_ (.ListComp aW [⟨t1,i1,[],0⟩,⟨t2,i2,ifs,0⟩] scope pos) 0 it aJ env=(do
   fW i1.pos
   match <- mE it with
   | none=>pure (.done .next)
   | some v=>
    ll t1 it v
    assign t1 env v
    let mut ok:=true
    for c in ([]:List ag) do
     if ok then ok <- isTrue c env (eval c env)
    if ok then
     let x <- eval i2 env
     fW i2.pos
     let x <- eN i2 env x
     let _ <- runOwn (.compStart (.ListComp aW [⟨t1,i1,[],0⟩,⟨t2,i2,ifs,0⟩] scope pos) 1 (<- holding [x] (om x)) aJ env) env
    again (.compLoop (.ListComp aW [⟨t1,i1,[],0⟩,⟨t2,i2,ifs,0⟩] scope pos) 0 it aJ env)):=by rfl
theorem YG:r_ (.ListComp aW [⟨t1,i1,[],0⟩,⟨t2,i2,ifs,0⟩] scope pos) 1 it aJ env=(do
   fW i2.pos
   match <- mE it with
   | none=>pure (.done .next)
   | some v=>
    ll t2 it v
    assign t2 env v
    let mut ok:=true
    for c in ifs do
     if ok then ok <- isTrue c env (eval c env)
    if ok then
     (do let _ <- call (.builtin "list.append") [aJ,<- eval aW env])
    again (.compLoop (.ListComp aW [⟨t1,i1,[],0⟩,⟨t2,i2,ifs,0⟩] scope pos) 1 it aJ env)):=by rfl
theorem YI(I:Nat->af->Prop)
  (turn:∀n s,I n s->al (ai prog w) A (mE it) (fun r s1=>match r with
   | none=>R (.ok .next) s1
   | some v=>al (ai prog w) A (ll t2 it v) (fun _ g8=>al (ai prog w) A (assign t2 env v) (fun _ s2=>
     al (ai prog w) A (forIn ifs true fun c r=>if r=true then do let ok <- isTrue c env (eval c env);pure (ForInStep.yield ok) else pure (ForInStep.yield r)) (fun ok s3=>
      if ok=true then al (ai prog w) A (eval aW env) (fun x s4=>
       al (ai prog w) A (call (.builtin "list.append") [aJ,x]) (fun _ s5=>∃m,m < n/\I m s5) (fun _ _=>False) s4) (fun _ _=>False) s3
      else ∃m,m < n/\I m s3) (fun _ _=>False) s2) (fun _ _=>False) g8) (fun _ _=>False) s1) (fun _ _=>False) s)
  (n:Nat) (h:I n s):dg (ai prog w) A (.compLoop (.ListComp aW [⟨t1,i1,[],0⟩,⟨t2,i2,ifs,0⟩] scope pos) 1 it aJ env) R s:=by
 have no:∀(x:ae) (s':af),False->wS (ai prog w) A env (fun e s'=>R (.error e) s') x s':=fun _ _ z=>z.elim
 refine CB rfl I (fun n s hI=>?_) n h
 show al _ A ((r_ (.ListComp aW [⟨t1,i1,[],0⟩,⟨t2,i2,ifs,0⟩] scope pos) 1 it aJ env).onRaise (fun x=>do wT x env;Cu x)) _ _ s
 refine Ck ?_
 rw[YG]
 refine ar (ir (ar (cb (turn n s hI) (fun r s1 h1=>?_) no)))
 cases r with
 | none=>exact aN h1
 | some v=>
  refine ar (cb h1 (fun _ g8 cn=>?_) no)
  refine ar (cb cn (fun _ s2 h2=>ar (cb h2 (fun ok s3 h3=>?_) no)) no)
  cases ok with
  | false=>exact aN ⟨rfl,h3⟩
  | true=>
   exact ar (ar (cb h3 (fun x s4 h4=>ar (cb h4 (fun _ s5 h5=>aN (aN ⟨rfl,h5⟩)) no)) no))
theorem Yy 
  (h0:dg (ai prog w) A (.compLoop (.ListComp aW [⟨t1,i1,[],0⟩,⟨t2,i2,ifs,0⟩] scope pos) 1 it aJ env) R s)
  (h:al (ai prog w) A (om it) (fun uD s'=>dg (ai prog w) A (.compLoop (.ListComp aW [⟨t1,i1,[],0⟩,⟨t2,i2,ifs,0⟩] scope pos) 1 uD aJ env) R s')
   (wS (ai prog w) A env fun x s'=>R (.error x) s') s) :
  dg (ai prog w) A (.compStart (.ListComp aW [⟨t1,i1,[],0⟩,⟨t2,i2,ifs,0⟩] scope pos) 1 it aJ env) R s:=by
 refine codeAny_of_tree ?_
 show al _ _ ((compStart (.ListComp aW [⟨t1,i1,[],0⟩,⟨t2,i2,ifs,0⟩] scope pos) 1 it aJ env).onRaise (fun x=>do wT x env;fW theWindowsPlace)) _ _ s
 refine wpAny_notedAt ?_
 unfold compStart
 show al _ _ (ask >>= _) _ _ s
 refine ar (wpAny_askSetting (wpAny_ite ?_))
 split
 .first
   | exact ar (aN (aN (And.intro rfl h0)))
   | exact aN (And.intro rfl h0)
 .first
   | exact ar (iu (ar (ir (ar (cb h (fun uD s' h'=>aN (And.intro rfl h')) fun _ _ x=>x)))))
   | (refine ar (iu ?_);show al _ _ (fW i2.pos >>= _) _ _ s;exact ar (ir (ar (cb h (fun uD s' h'=>aN (And.intro rfl h')) fun _ _ x=>x))))
theorem YJ(fq:∀x,eN i2 env x=pure x)(I:Nat->af->Prop)
  (turn:∀n s,I n s->al (ai prog w) A (mE it) (fun r s1=>match r with
   | none=>R (.ok .next) s1
   | some v=>al (ai prog w) A (ll t1 it v) (fun _ g8=>al (ai prog w) A (assign t1 env v) (fun _ s2=>
     al (ai prog w) A (eval i2 env) (fun x s3=>al (ai prog w) A (om x) (fun oW s4=>
      dg (ai prog w) A (.compStart (.ListComp aW [⟨t1,i1,[],0⟩,⟨t2,i2,ifs,0⟩] scope pos) 1 oW aJ env) (fun r s5=>match r with | .ok f=>∃m,m < n/\I m s5 | .error _=>False) s4) (fun _ _=>False) s3) (fun _ _=>False) s2) (fun _ _=>False) g8) (fun _ _=>False) s1) (fun _ _=>False) s)
  (n:Nat) (h:I n s):dg (ai prog w) A (.compLoop (.ListComp aW [⟨t1,i1,[],0⟩,⟨t2,i2,ifs,0⟩] scope pos) 0 it aJ env) R s:=by
 have no:∀(x:ae) (s':af),False->wS (ai prog w) A env (fun e s'=>R (.error e) s') x s':=fun _ _ z=>z.elim
 refine CB rfl I (fun n s hI=>?_) n h
 show al _ A ((r_ (.ListComp aW [⟨t1,i1,[],0⟩,⟨t2,i2,ifs,0⟩] scope pos) 0 it aJ env).onRaise (fun x=>do wT x env;Cu x)) _ _ s
 refine Ck ?_
 rw[YH]
 refine ar (ir (ar (cb (turn n s hI) (fun r s1 h1=>?_) no)))
 cases r with
 | none=>exact aN h1
 | some v=>
  refine ar (cb h1 (fun _ g8 cn=>?_) no)
  refine ar (cb cn (fun _ s2 h2=>ar (cb (wpAny_tests_nil (Q:=fun ok s3=>ok=true/\s3=s2) ⟨rfl,rfl⟩) (fun ok s3 h3=>?_) fun _ _ h'=>h')) no)
  obtain⟨rfl,rfl⟩:=h3
  rw[MU rfl]
  refine ar (cb h2 (fun x s4 h4=>ar (ir (ar (wpAny_of_eq (fq x) (ar (ix (cb h4 (fun oW s5 h5=>?_) no))))))) no)
  refine ar (wpAny_runOwn (si h5 fun r s6 h6=>?_))
  cases r with
  | ok f=>exact aN ⟨rfl,h6⟩
  | error e=>exact h6.elim
end
def jjA(J:It)(p:ab)(g:TG)(tt:TT)(te:TE)(F:St->Hp->Prop)(σ:St)(H:Hp):Prop:=∃W:Nat->Nat->St->Hp->Prop,(∃m,W 0 m σ H)/\
 ∀i m σ' H',W i m σ' H'->(J.stop i H'/\F σ' H')\/(J.go i H'/\∃N:St->Hp->Prop,(∀σ3 H3,N σ3 H3->∃m',m' < m/\W (i+1) m' σ3 H3)/\∀x H2,J.yld i H' x H2->g x σ' H2 fun σ3 H3=>tt σ3 H3 fun c H4=>
  if c=true then te σ3 H4 fun y H5=>∃ys,H5 p=some (.lst ys)/\ys.length < aE/\N σ3 (upd H5 p (.lst (ys++[y]))) else N σ3 H4)
def jcE(J:It)(p:ab)(g:TG)(gm:TI)(g2:TG)(tt:TT)(te:TE)(Q:VK)(σ:St)(H:Hp):Prop:=∃W:Nat->Nat->St->Hp->Prop,(∃m,W 0 m σ H)/\
 ∀i m σ' H',W i m σ' H'->(J.stop i H'/\Q (.ref p) H')\/(J.go i H'/\∃N:St->Hp->Prop,(∀σ3 H3,N σ3 H3->∃m',m' < m/\W (i+1) m' σ3 H3)/\∀x H2,J.yld i H' x H2->g x σ' H2 fun σ3 H3=>gm σ3 H3 fun J2 H4=>jjA J2 p g2 tt te N σ3 H4)
def jd0(own:List Str)(fr:List Nat)(wi:TI)(g:TG)(gm:TI)(g2:TG)(tt:TT)(te:TE):TE:=fun σ H Q=>wi σ H fun J H1=>∀p,H1 p=none->jcE J p g gm g2 tt te Q (jdu own fr σ) (upd H1 p (.lst []))
theorem jfl{X:Cx}{scope:cj}{own:List Str}{fr:List Nat}{aW tg iter fE fM:ag}{ifs:List ag}{pos:Pos}{wi gm:TI}{g g2:TG}{tt:TT}{te:TE}{use:Option (ae->Sem Unit)}(hc:X.calm=true)(O:CompOk X scope fr)(hi:PI X tg iter wi)
  (hb:∀s H ex,PG (blk X scope own fr s H ex) tg g/\PI (blk X scope own fr s H ex) fE fM gm/\PG (blk X scope own fr s H ex) fE g2/\PTs (blk X scope own fr s H ex) ifs tt/\PE (blk X scope own fr s H ex) aW te)
  (hs:∀x,eN iter X.env x=pure x) (fq:∀env x,eN fM env x=pure x) {ad:List (ab×Obj)} {s:af} {σ:St} {H:Hp} {Q:VK} {R:ae->af->Prop} (I:Inv X ad σ H s) (h:jd0 own fr wi g gm g2 tt te σ H Q) (hx:∀e s',X.xe e s'↔False)
  (fin:∀(p C:ab) (H':Hp) (s':af) (m:Str->Option ae),s'.heap.Ns C m->H' C=none->C≠X.env.locals->(∀x c,X.env.cells.lookup x=some c->c≠C)->Inv X ad σ H' s'->(∀h',lB C s'.heap h'->Inv X ad σ H' { s' with heap:=h' })->Q (.ref p) H'->
   on (ai X.prog X.w) X.A X.xe use R (.ref p) C (.ok .next) s') :
  al (ai X.prog X.w) X.A (comprehension (.ListComp aW [⟨tg,iter,[],0⟩,⟨fE,fM,ifs,0⟩] scope pos) scope X.env (Cz [⟨tg,iter,[],0⟩,⟨fE,fM,ifs,0⟩] pos) (rZ []) false (eval iter X.env) use) R X.xe s:=by
 have iP:∀x∈scope.names,x.2=.free->(X.env.cells.lookup x.1).isSome=true:=fun x cE e=>by
  obtain⟨c,hc⟩:=I.ok.has x.1 (O.frees x cE e);rw[hc];rfl
 have no:∀(E:ae->af->Prop) (x:ae) (s':af),X.xe x s'->E x s':=fun E x s' z=>((hx x s').mp z).elim
 refine Cp (cl:=yD X.env.cells scope.names []) rfl hs (Jo iP) O.kind O.loc ?_
 refine thn (hi ad s σ H _ I h) fun v s1 h1=>thn h1 fun nr s2 h2=>?_
 obtain⟨it,fp,tn,J,H2,e,I2,T,bU,f2,q2⟩:=h2
 subst e
 refine iw ?_
 have nw:H2 s2.heap.objs.size=none:=I2.fresh
 obtain⟨W,⟨m0,w0⟩,turn⟩:=q2 _ nw
 generalize hp:s2.heap.objs.size=p at *
 have I3:Inv X ad σ (upd H2 p (.lst [])) { s2 with heap:=s2.heap.push { cls:=.type "list",dict:=none,data:=.seq ([]:List ae).toArray } }:=by
  have:=I2.lnew (ys:=[]) (its:=[]) (t':=s2.toks) .nil (bF _);rw[hp]at this;exact this
 have g9:∀b∈fp,b < s2.heap.objs.size:=fun b hb=>by
  obtain⟨o,ho,_⟩:=T.obj _ _ bU b hb;exact bp ho
 have im:∀b∈fp,(upd H2 p (.lst [])) b=none:=fun b hb=>by
  rw[jD (by rw[<- hp];exact bB (g9 b hb))];exact (f2 b hb).1
 generalize fO:({ s2 with heap:=s2.heap.push { cls:=.type "list",dict:=none,data:=.seq ([]:List ae).toArray } }:af)=s3 at *
 have mR:s3.heap.objs.size=p+1:=by
  rw[<- fO];show (s2.heap.push _).objs.size=_;rw[sv,hp]
 have fF:tn 0 s3.heap:=T.keep 0 _ _ bU fun b hb o e=>by
  rw[<- fO];exact bK _ e
 refine Cm O.nocell (by intro y hy;simp at hy) (fun h4 ic nF=>?_) O.kind
 have k4:∀b o,s3.heap.get? b=some o->h4.get? b=some o:=fun b o e=>nF.extBut b o (bB (bp e)) (bK _ e)
 have nJ:h4.Ns s3.heap.objs.size fun _=>none:=by
  have z:(fun x:Str=>([]:List (Str×ae)).reverse.lookup x)=fun _=>none:=by funext x;rfl
  rw[z]at ic;exact ic
 have fo:∀b∈fp,Jr X ad (upd H2 p (.lst [])) b/\b < s3.heap.objs.size:=fun b hb=>⟨⟨im b hb,(f2 b hb).2⟩,by rw[mR,<- hp];exact oA (g9 b hb)⟩
 have I4:=ZN (own:=own) (fr:=fr) (t1:=s3.toks+([]:List (Str×ae)).length) I3 O fo nJ k4
 have aQ:tn 0 h4:=T.keep 0 _ _ fF fun b hb o e=>k4 b o e
 obtain⟨hg,FD,FE,ht,he⟩:=hb s3 (upd H2 p (.lst [])) fp
 have dC:∀{H':Hp} {pn:List (ab×Obj)} {s':af} {σ':St},Inv (blk X scope own fr s3 (upd H2 p (.lst [])) fp) [] σ' H' s'->(∀b∈fp,H' b=none)->∀b∈fp,Jr (blk X scope own fr s3 (upd H2 p (.lst [])) fp) [] H' b:=fun {H' pn s' σ'} J hn b aT=>
  ⟨hn b aT,(J.ok.exf b aT).1,J.ok.exfs b aT,.inl aT,(J.ok.exf b aT).2,fun p hp=>absurd hp (by simp[blk])⟩
 have nh:∀x c,X.env.cells.lookup x=some c->c≠s3.heap.objs.size:=fun x c e=>by
  obtain⟨v,q⟩:=I3.cell x c e;exact bB q.lt
 have g_:∀s5:af,s5={ s3 with heap:=h4,toks:=s3.toks+([]:List (Str×ae)).length }->
   dg (ai X.prog X.w) X.A (.compLoop (.ListComp aW [⟨tg,iter,[],0⟩,⟨fE,fM,ifs,0⟩] scope pos) 0 (.ref it) (.ref p) (blk X scope own fr s3 (upd H2 p (.lst [])) fp).env) (on (ai X.prog X.w) X.A X.xe use R (.ref p) s3.heap.objs.size) s5:=by
  rintro s5 rfl
  refine YJ (fun x=>fq _ x) (fun n s'=>∃i σ' H',Inv (blk X scope own fr s3 (upd H2 p (.lst [])) fp) [] σ' H' s'/\tn i s'.heap/\(∀b∈fp,H' b=none)/\W i n σ' H') ?_ m0 ⟨0,_,_,I4,aQ,im,w0⟩
  rintro n s6 ⟨i,σ6,H6,I6,gZ,il,w6⟩
  rcases turn i n σ6 H6 w6 with⟨stop,qn⟩ | ⟨go,N,hN,step⟩
  .refine thn (T.done (blk X scope own fr s3 (upd H2 p (.lst [])) fp) rfl rfl rfl hc i [] s6 σ6 H6 _ I6 (dC (pn:=[]) I6 il) gZ stop) fun r s7 ⟨hr,I7⟩=>?_
   subst hr
   obtain⟨m,hm,_⟩:=I7.loc
   exact fin p _ H6 s7 m hm I7.free (iD I3.lt) nh (yk I3 fo I7 (C6 ..)) (fun h' dr=>yk I3 fo I7 dr) qn
  .refine thn (T.item (blk X scope own fr s3 (upd H2 p (.lst [])) fp) rfl rfl rfl hc i [] s6 σ6 H6 _ I6 (dC (pn:=[]) I6 il) gZ go) fun r s7 ⟨u,hr,h7⟩=>?_
   subst hr
   refine thn h7 fun _ s8 ⟨x,H8,I8,r8,y8,fh,n_⟩=>?_
   have oi:=I8.pinned (dC (pn:=[]) I8 n_) (T.obj _ _ fh)
   refine thn (hg _ s8 σ6 H8 x u _ oi r8 (step x H8 y8)) fun _ s9 ⟨σ9,H9,I9,q9⟩=>?_
   have again:∀{σ11:St} {bW:Hp} {br:af},Inv (blk X scope own fr s3 (upd H2 p (.lst [])) fp) ([]++q8 fp s8.heap) σ11 bW br->(∃m',m' < n/\W (i+1) m' σ11 bW)->
     ∃m,m < n/\∃i σ' H',Inv (blk X scope own fr s3 (upd H2 p (.lst [])) fp) [] σ' H' br/\tn i br.heap/\(∀b∈fp,H' b=none)/\W i m σ' H':=fun {σ11 bW br} bR ⟨m',hm,iG⟩=>by
    refine⟨m',hm,i+1,σ11,bW,bR.unpinned,T.keep _ _ _ fh fun b aT o e=>(bR.pin (b,o) (ck _ (ck _ (kG aT e)))).1,fun b aT=>?_,iG⟩
    obtain⟨o,e,d⟩:=T.obj _ _ fh b aT
    exact (bR.pin (b,o) (ck _ (ck _ (kG aT e)))).2.1
   generalize ([]++q8 fp s8.heap)=pinsO at *
   refine thn (FD _ s9 σ9 H9 _ I9 q9) fun v2 cQ i0=>thn i0 fun itv2 sA hA=>?_
   obtain⟨oW,mt,xK,J2,HA,e2,IA,T2,xQ,fA,WA,⟨mA,wA⟩,D3⟩:=hA
   subst e2
   have s0:∀{H':Hp},(∀b∈mt,H' b=none)->∀b∈mt,Jr (blk X scope own fr s3 (upd H2 p (.lst [])) fp) pinsO H' b:=fun hn b hb=>⟨hn b hb,(fA b hb).2⟩
   have Ap:dg (ai X.prog X.w) X.A (.compLoop (.ListComp aW [⟨tg,iter,[],0⟩,⟨fE,fM,ifs,0⟩] scope pos) 1 (.ref oW) (.ref p) (blk X scope own fr s3 (upd H2 p (.lst [])) fp).env) (fun r s5=>match r with
     | .ok f=>∃m,m < n/\∃i σ' H',Inv (blk X scope own fr s3 (upd H2 p (.lst [])) fp) [] σ' H' s5/\tn i s5.heap/\(∀b∈fp,H' b=none)/\W i m σ' H'
     | .error _=>False) sA:=by
    refine YI (fun n2 s'=>∃j σ' H',Inv (blk X scope own fr s3 (upd H2 p (.lst [])) fp) pinsO σ' H' s'/\xK j s'.heap/\(∀b∈mt,H' b=none)/\WA j n2 σ' H') ?_ mA ⟨0,_,_,IA,xQ,fun b hb=>(fA b hb).1,wA⟩
    rintro n2 sB ⟨j,σB,HB,IB,xP,BU,wB⟩
    rcases D3 j n2 σB HB wB with⟨stop,qn⟩ | ⟨nZ,N2,BJ,step2⟩
    .refine thn (T2.done (blk X scope own fr s3 (upd H2 p (.lst [])) fp) rfl rfl rfl hc j pinsO sB σB HB _ IB (s0 BU) xP stop) fun r s7 ⟨hr,I7⟩=>?_
     subst hr
     exact again I7 (hN _ _ qn)
    .refine thn (T2.item (blk X scope own fr s3 (upd H2 p (.lst [])) fp) rfl rfl rfl hc j pinsO sB σB HB _ IB (s0 BU) xP nZ) fun r s7 ⟨u2,hr,h7⟩=>?_
     subst hr
     refine thn h7 fun _ sC ⟨x2,HC,IC,rC,yC,stC,GS⟩=>?_
     have Hm:=IC.pinned (s0 GS) (T2.obj _ _ stC)
     refine thn (FE _ sC σB HC x2 u2 _ Hm rC (step2 x2 HC yC)) fun _ sD ⟨σD,HD,ID,qD⟩=>?_
     refine thn (ht _ sD σD HD _ ID qD) fun ok sE ⟨HE,IE,qE⟩=>?_
     have Ce:∀{bW:Hp} {br:af},Inv (blk X scope own fr s3 (upd H2 p (.lst [])) fp) (pinsO++q8 mt sC.heap) σD bW br->(∃m',m' < n2/\WA (j+1) m' σD bW)->
       ∃m,m < n2/\∃i σ' H',Inv (blk X scope own fr s3 (upd H2 p (.lst [])) fp) pinsO σ' H' br/\xK i br.heap/\(∀b∈mt,H' b=none)/\WA i m σ' H':=fun {bW br} bR ⟨m',hm,iG⟩=>by
      refine⟨m',hm,j+1,σD,bW,bR.unpinned,T2.keep _ _ _ stC fun b aT o e=>(bR.pin (b,o) (ck _ (ck _ (kG aT e)))).1,fun b aT=>?_,iG⟩
      obtain⟨o,e,d⟩:=T2.obj _ _ stC b aT
      exact (bR.pin (b,o) (ck _ (ck _ (kG aT e)))).2.1
     cases ok with
     | false=>
      rw[MT cP]at qE |-
      exact Ce IE (BJ _ _ qE)
     | true=>
      rw[MU rfl]at qE |-
      refine thn (he _ sE σD HE _ IE qE) fun yv sF ⟨y,HF,IF,rF,ys,bJ,bf,qF⟩=>?_
      have ap:=j0 (X:=blk X scope own fr s3 (upd H2 p (.lst [])) fp) (pinsO++q8 mt sC.heap) sF σD HF (.ref p) [y] (.ref p) [yv] (fun _ gI=>∃m',m' < n2/\WA (j+1) m' σD gI) IF rfl (.cons rF .nil) ⟨p,ys,y,rfl,rfl,bJ,bf,BJ _ _ qF⟩
      exact thn ap fun _ sG ⟨_,HG,IG,_,qG⟩=>Ce IG qG
   exact Yy Ap (T2.self X.A 0 _ _ _ xQ Ap)
 refine CC (g_ _ rfl) (T.self X.A 0 _ _ _ aQ (g_ _ rfl))
theorem jcH{X:Cx}{scope:cj}{aW tg iter fE fM:ag}{ifs:List ag}{pos:Pos}{wi gm:TI}{g g2:TG}{tt:TT}{te:TE}(own:List Str)(fr:List Nat)(hc:X.calm=true)(O:CompOk X scope fr)(hi:QI X.nox tg iter wi)
  (hb:∀s H ex,QG (blk X.nox scope own fr s H ex) tg g/\QI (blk X.nox scope own fr s H ex) fE fM gm/\QG (blk X.nox scope own fr s H ex) fE g2/\QTs (blk X.nox scope own fr s H ex) ifs tt/\QE (blk X.nox scope own fr s H ex) aW te)
  (hs:∀x,eN iter X.env x=pure x:=by intro _;rfl) (fq:∀env x,eN fM env x=pure x:=by intro _ _;rfl):QE X.nox (.ListComp aW [⟨tg,iter,[],0⟩,⟨fE,fM,ifs,0⟩] scope pos) (jd0 own fr wi g gm g2 tt te):=by
 refine⟨?_⟩
 intro ad s σ H Q I h
 rw[eval_ListComp]
 refine jfl (X:=X.nox) (use:=none) (Q:=Q) hc ⟨O.kind,O.nocell,O.loc,O.frees,O.fr⟩ hi.h (fun s H ex=>⟨(hb s H ex).1.h,(hb s H ex).2.1.h,(hb s H ex).2.2.1.h,(hb s H ex).2.2.2.1.h,(hb s H ex).2.2.2.2.h⟩) hs fq I h (fun _ _=>Iff.rfl) fun p C H' s' m hm hC _ _ I' back q=>?_
 exact⟨m,hm,fun h' dr=>⟨.ref p,H',back h' dr,rfl,q⟩⟩
theorem jaT{K:aq}{a b p:ab}{xs ys:List V}{g g2:TG}{tl:TE}{tt:TT}{te:TE}{σ:St}{H:Hp}{Q:VK}(Po:Nat->St->Hp->Prop)(Pi:Nat->Nat->St->Hp->Prop)(h0:Po 0 σ H)(eW:∀i σ' H',Po i σ' H'->SqL K H' a xs)(Bc:∀i j σ' H',Pi i j σ' H'->SqL K H' b ys)
  (Fl:∀{x:V} {σ':St} {H':Hp} {R R':St->Hp->Prop},(∀σ3 H3,R σ3 H3->R' σ3 H3)->g x σ' H' R->g x σ' H' R') (Fk:∀{σ':St} {H':Hp} {R R':VK},(∀v H3,R v H3->R' v H3)->tl σ' H' R->tl σ' H' R')
  (ho:∀i x σ' H',xs[i]?=some x->Po i σ' H'->g x σ' H' fun σ3 H3=>tl σ3 H3 fun v H4=>v=.ref b/\Pi i 0 σ3 H4)
  (eX:∀i x j y σ' H',xs[i]?=some x->ys[j]?=some y->Pi i j σ' H'->g2 y σ' H' fun σ3 H3=>tt σ3 H3 fun c H4=>if c=true then te σ3 H4 fun z H5=>∃zs,H5 p=some (.lst zs)/\zs.length < aE/\Pi i (j+1) σ3 (upd H5 p (.lst (zs++[z]))) else Pi i (j+1) σ3 H4)
  (hn:∀i σ' H',i < xs.length->Pi i ys.length σ' H'->Po (i+1) σ' H') (hd:∀σ' H',Po xs.length σ' H'->Q (.ref p) H'):jcE (Itl K a) p g (Y9 K tl) g2 tt te Q σ H:=by
 refine⟨fun i m σ H=>m=xs.length - i/\i<=xs.length/\Po i σ H,⟨xs.length,by simp,bF _,h0⟩,?_⟩
 rintro i m σ1 H1 ⟨rfl,hi,pv⟩
 have q:=eW _ _ _ pv
 by_cases aS:i < xs.length
 .refine .inr ⟨⟨xs,xs[i],q,by simp[aS]⟩,Po (i+1),fun σ3 H3 q=>⟨xs.length - (i+1),by omega,rfl,aS,q⟩,fun x H2 y=>?_⟩
  obtain⟨e1,e2⟩:=y
  subst e1
  have hx:xs[i]?=some x:=e2 xs q
  refine Fl (fun σ3 H3 h3=>?_) (ho i x σ1 _ hx pv)
  show Y9 K tl σ3 H3 _
  unfold Y9
  refine Fk (fun v H4 h4=>?_) h3
  obtain⟨rfl,Aa⟩:=h4
  have q4:=Bc _ _ _ _ Aa
  refine⟨b,rfl,⟨_,q4⟩,?_⟩
  refine⟨fun j m σ H=>m=ys.length - j/\j<=ys.length/\Pi i j σ H,⟨ys.length,by simp,bF _,Aa⟩,?_⟩
  rintro j m σ5 H5 ⟨rfl,hj,tQ⟩
  have q5:=Bc _ _ _ _ tQ
  by_cases hlt2:j < ys.length
  .refine .inr ⟨⟨ys,ys[j],q5,by simp[hlt2]⟩,Pi i (j+1),fun σ3 H3 q=>⟨ys.length - (j+1),by omega,rfl,hlt2,q⟩,fun y H6 y6=>?_⟩
   obtain⟨e3,e4⟩:=y6
   subst e3
   exact eX i x j y σ5 _ hx (e4 ys q5) tQ
  .have e:j=ys.length:=by omega
   subst e
   exact .inl ⟨⟨ys,q5,aD _⟩,hn i _ _ aS tQ⟩
 .have e:i=xs.length:=by omega
  subst e
  exact .inl ⟨⟨xs,q,aD _⟩,hd _ _ pv⟩
end L2
namespace LW
open PySem L2
abbrev zZ:aA:=top 26
abbrev T3:Type:=Prod D (Prod D Int)
def t3(t:T3):D:=.tup [t.1,t.2.1,.int t.2.2]
def atM(a b:P2):T3:=(a.1,b.1,b.2 - a.2)
def jfs(g:T3):Bool:=decide (g.1=g.2.1) && decide (g.2.2 < 0)
def JR(gs:List T3):List T3:=gs.filter fun g=>decide (g.1≠g.2.1)
def clD(ks:List T3)(t:T3):D:=.tup [.tup (ks.map t3),t3 t]
def qh(gs ts:List T3):List D:=if gs.any jfs then [] else ts.map (clD (JR gs))
def jjg(g:T3):Prop:=∃ds es,g.1=.tup ds/\g.2.1=.tup es/\D.depthL ds<=200
def zT:Sp:=fun vs H Q _=>∃(g t:ab) (gs ts:List T3) (xs ys:List V),vs=[.ref g,.ref t]/\H g=some (.lst xs)/\HeldL H (gs.map t3) xs/\H t=some (.lst ys)/\HeldL H (ts.map t3) ys/\(∀q∈gs,jjg q)/\gs.length<=1000/\ts.length<=1000/\
 ∀(l:ab) (zs:List V) (H':Hp),Same H H'->H l=none->H' l=some (.lst zs)->HeldL H' (qh gs ts) zs->Q (.ref l) H'
theorem jfv{α:Type}{p:α->Bool}{xs:List α}{i:Nat}(hi:i < xs.length):(xs.take (i+1)).any p=((xs.take i).any p || p xs[i]):=by
 rw[dO,aK hi,List.any_append];simp
theorem jdh{gs:List T3}{i:Nat}(hi:i < gs.length):JR (gs.take (i+1))=JR (gs.take i)++(if gs[i].1≠gs[i].2.1 then [gs[i]] else []):=by
 unfold JR;rw[dO,aK hi,Mq];congr 1;by_cases z:gs[i].1=gs[i].2.1
 .simp[z]
 .simp[z]
theorem YA{X:Cx}{K:aq}(h:X.K=K:=by rfl):zC X (.type "tuple") (fun xs H Q=>∃p ys,xs=[.ref p]/\((SqL K H p ys/\∀l,H l=none->Q (.ref l) (upd H l (.tup ys)))\/(SqT K H p ys/\Q (.ref p) H))):=by subst h;exact YK
theorem jhA{H:Hp}{t:T3}{v:V}(h:Held H (t3 t) v):∃a x y,v=.ref a/\H a=some (.tup [x,y,.int t.2.2])/\Held H t.1 x/\Held H t.2.1 y:=by
 obtain⟨a,xs,rfl,ha,hx⟩:=jF h;obtain⟨x,r,rfl,h1,h2⟩:=jl hx;obtain⟨y,r,rfl,h3,h4⟩:=jl h2;obtain⟨z,r,rfl,h5,h6⟩:=jl h4
 cases jM h6
 cases kc h5
 exact⟨a,x,y,rfl,ha,h1,h3⟩
section
variable {P:az}{w:aw}{K:aq}{mg:Str->Option ae}{base:aj}
theorem jbn{f:ab}{fd:aH}(F:Fun K "guarded" "guarded" zZ f fd)(B:Free0 mg):FnOk P w K mg base CX0 14 f fd ["guards","ties"] zT:=by
 have sc:FnScope ["guards","ties","kept","guard"] ["guards","ties"] (jm zZ):=fQ;refine F.okZ sc (fun vs H Q E h=>?_) (fun au A outer s H vs Q E hr h=>?_)
 .obtain⟨g,t,gs,ts,xs,ys,rfl,_⟩:=h
  rfl
 have fk:(A.deeper (cr "guarded" (jm zZ) s.heap.objs.size f au)).units+1+200 < cLine:=by have:=hr.un;omega
 obtain⟨g,t,gs,ts,xs,ys,rfl,hg,Bk,ht,fN,FS,hgl,htl,q⟩:=h;refine⟨_,(jd (jw (i:=2) sc.nd rfl oQ (jK jb))
   (jd (kL ee rfl (ko (zpv 0)) (jx (i:=3) sc.nd rfl oQ) (ji (jN (jC (KJ 200 fk) (jp ju (zpv 3) jc (fun _ _=>rfl)) (jp ju (zpv 3) jc (fun _ _=>rfl)) (jH _)) (ji (jA (kg bS dj dh j0 (zpv 2) (ja (zpv 3) jb)))) (ji (jN (jC jaw (jp ju (zpv 3) jc (fun _ _=>rfl)) jc (jH _)) (ji (jB (jK jb))) jJ)))))
   (ji (jB (yF ["tie"] [2] rfl (zg (sc:=jm zZ) (N:=["guards","ties","kept","guard"]) rfl rfl (by decide +kernel)) (ko (zpv 1)) (fun s H ex=>⟨(jx (i:=0) (show ff (["tie","kept"]:List Str) by decide +kernel) rfl oQ),zo,(jR (ja (ym (YA (K:=K)) (by rfl) B.tuple_ jaX (ja (zpv 1) jb)) (ja (zpv 0) jb)))⟩)))))),?_⟩
 refine jG (σ':=[some (.ref g),some (.ref t),none,none]) rfl ?_;have vq:=Bk.length;rw[aB]at vq;have uR:=fN.length;rw[aB]at uR;refine⟨sm rfl,fun lk pC=>?_⟩;refine gQ ?_;have s1:=jk pC (.lst []);have e1:upd H lk (.lst []) lk=some (.lst []):=jf;generalize upd H lk (.lst [])=H1 at *;refine⟨_,rfl,g,rfl,⟨_,SqL.of (s1 _ _ hg)⟩,?_⟩;let Pv:Nat->L2.St->Hp->Prop:=fun i σ G=>∃u,σ=[some (.ref g),some (.ref t),some (.ref lk),u]/\Same H G/\(gs.take i).any jfs=false/\∃zs,G lk=some (.lst zs)/\HeldL G ((JR (gs.take i)).map t3) zs
 refine qa (xs:=xs) Pv ⟨none,rfl,s1,rfl,[],e1,jr⟩ ?_ ?_ ?_
 .rintro i σ G _ ⟨u,rfl,sG,_⟩
  exact SqL.of (sG _ _ hg)
 .rintro i x σ G hx ⟨u,rfl,sG,hb,zs,hz,b_⟩
  have hi:i < gs.length:=by rw[vq];exact (bI.mp hx).1
  have eG:Held G (t3 gs[i]) x:=(kz Bk (by rw[bH,aK hi];rfl) hx).mono sG;have ca:=FS _ (dP hi);have ea:=jfv (p:=jfs) hi;have ek:=jdh hi;rw[hb,MG]at ea;generalize gs[i]=gi at *;obtain⟨a,u1,u2,rfl,ha,h1,h2⟩:=jhA eG;obtain⟨⟨d1,d2,c⟩,FO⟩:∃q:T3,q=gi:=⟨_,rfl⟩
  subst FO;obtain⟨ds,es,rfl,rfl,hd⟩:=ca;obtain⟨b1,x1,rfl,k1,k2⟩:=jF h1;obtain⟨b2,x2,rfl,k3,k4⟩:=jF h2;have As:zs.length<=1000:=by
   rw[<- b_.length,aB];exact aG (oG _ _) (by rw[bZ];omega)
  refine gQ ?_;refine⟨_,rfl,a,_,_,_,rfl,rfl,SqT.of ha,jg (j:=0) rfl,_,rfl,a,_,_,_,rfl,rfl,SqT.of ha,jg (j:=1) rfl,b1,b2,x1,x2,ds,es,rfl,rfl,k1,k3,hd,k2,k4,_,rfl,?_⟩;by_cases z:ds=es
  .rw[MR z]
   refine ku ?_;refine⟨_,rfl,a,_,_,_,rfl,rfl,SqT.of ha,jg (j:=2) rfl,_,_,rfl,rfl,_,rfl,yu (fun w=>?_) (fun w=>?_)⟩
   .refine⟨sm rfl,fun l hl=>?_⟩
    have sl:=jk hl (.lst []);have Hj:gs.any jfs=true:=by
     have:(gs.take (i+1)).any jfs=true:=by
      rw[ea];show (decide (D.tup ds=D.tup es) && decide (c < 0))=true;rw[MR (MW D.tup z),MQ w |> MR];rfl
     obtain⟨y,y1,y2⟩:=mO.mp this;exact mO.mpr ⟨y,xx y1,y2⟩
    refine q l [] _ (sG.trans sl) (sG.free hl) jf ?_;unfold qh;rw[MU Hj];exact jr
   .refine⟨_,rfl,sG,?_,zs,hz,?_⟩
    .rw[ea]
     show (decide (D.tup ds=D.tup es) && decide (c < 0))=false;rw[show decide (c < 0)=false from MS fun y=>w (MR y),MH]
    .rw[ek,MT (fun y=>y (MW D.tup z)),gh]
     exact b_
  .rw[MS z]
   refine kO ?_;have zz:¬(D.tup ds=D.tup es):=fun y=>z (by injection y)
   refine⟨_,rfl,.inl ⟨rfl,_,SqL.of hz⟩,_,rfl,lk,zs,_,rfl,rfl,hz,jI As,?_⟩;have kt:TK G (upd G lk (.lst (zs++[.ref a]))):=fun b ws eb=>jj (jy eb hz (by intro z;cases z)) eb
   refine⟨_,rfl,fun b o e=>jj (jo e pC) (sG _ _ e),?_,_,jf,?_⟩
   .rw[ea]
    show (decide (D.tup ds=D.tup es) && decide (c < 0))=false;rw[MS zz];rfl
   .rw[ek,MU zz,bq]
    exact j4 (kt.heldL b_) (je (kt.held eG) jr)
 .rintro σ G ⟨u,rfl,sG,hb,zs,hz,b_⟩
  rw[<- vq,cx]at hb b_;have dq:=sG _ _ ht;refine⟨_,rfl,t,rfl,⟨_,SqL.of dq⟩,fun p hp=>?_⟩;have s2:=jk hp (.lst []);refine yZ (xs:=ys) (fun j σ' G'=>∃u rs,σ'=[u,some (.ref lk)]/\Same G G'/\G' p=some (.lst rs)/\HeldL G' ((ts.take j).map (clD (JR gs))) rs) ⟨none,[],rfl,s2,jf,jr⟩ ?_ ?_ ?_
  .rintro j σ' G' _ ⟨u,rs,rfl,aI,_⟩
   exact SqL.of (aI _ _ dq)
  .rintro j y σ' G' hy ⟨u,rs,rfl,aI,gD,cA⟩
   have hj:j < ts.length:=by rw[uR];exact (bI.mp hy).1
   have ci:Held G' (t3 ts[j]) y:=((kz fN (by rw[bH,aK hj];rfl) hy).mono sG).mono aI;have et:(ts.take (j+1)).map (clD (JR gs))=(ts.take j).map (clD (JR gs))++[clD (JR gs) ts[j]]:=by rw[dO,aK hj,bq];rfl
   have eU:rs.length<=1000:=by
    rw[<- cA.length,aB,bZ];omega
   generalize ts[j]=tj at *;unfold qm Zq;refine kO ?_;refine⟨_,rfl,lk,zs,rfl,.inl ⟨SqL.of (aI _ _ hz),fun tk pd=>?_⟩⟩;have s3:=jk pd (.tup zs);have e3:upd G' tk (.tup zs) tk=some (.tup zs):=jf;generalize upd G' tk (.tup zs)=G2 at *;refine⟨_,rfl,sm rfl,fun tq uS=>?_⟩;have s4:=jk uS (.tup [.ref tk,y]);have e4:upd G2 tq (.tup [.ref tk,y]) tq=some (.tup [.ref tk,y]):=jf;generalize upd G2 tq (.tup [.ref tk,y])=G3 at *;have mX:=s3.trans s4;have AX:=mX _ _ gD;have kt:TK G3 (upd G3 p (.lst (rs++[.ref tq]))):=fun b ws eb=>jj (jy eb AX (by intro z;cases z)) eb
   refine⟨_,AX,jI eU,_,_,rfl,fun b o e=>jj (jo e hp) (mX _ _ (aI _ _ e)),jf,?_⟩;rw[et];refine j4 (kt.heldL (cA.mono mX)) (je ?_ jr);exact kt.held (jL e4 (je (jL (s4 _ _ e3) ((b_.mono aI).mono mX)) (je (ci.mono mX) jr)))
  .rintro σ' G' ⟨u,rs,rfl,aI,gD,cA⟩
   rw[<- uR,cx]at cA;refine q p rs G' (sG.trans aI) (sG.free hp) gD ?_;unfold qh;rw[MT (by rw[hb];decide)];exact cA
end
abbrev qr:aA:=top 27
abbrev kD:aA:=top 28
def kF(sp S:List P2):List (Prod P2 P2):=S.flatMap fun s=>(sp.filter fun z=>decide (s≠z)).map fun z=>(s,z)
def kr(sp:List P2):List (Prod P2 P2):=kF sp sp
theorem Y2(sp:List P2):(kr sp).length<=sp.length * sp.length:=by
 have:∀S:List P2,(kF sp S).length<=S.length * sp.length:=fun S=>by
  induction S with
  | nil=>exact bF _
  | cons s S ih=>
   show (((sp.filter fun z=>decide (s≠z)).map fun z=>(s,z))++kF sp S).length<=(S.length+1) * sp.length;rw[bz,aB,DF,Dz];have:=oG (fun z=>decide (s≠z)) sp;omega
 exact this sp
def Ks(q:Prod P2 P2):D:=.tup [p2 q.1,p2 q.2]
def Zv(C:ab):Sp:=fun vs H Q _=>∃(n:Nat) (A:CA) (c:Cs) (sp:List P2),vs=[.ref A.o]/\CsAt C n A c H/\n<=200/\c.l 2=sp.map p2/\(∀p∈sp,p.1.depth<=190)/\
 ∀(l:ab) (zs:List V) (H':Hp),Same H H'->H l=none->H' l=some (.lst zs)->HeldL H' ((kr sp).map Ks) zs->Q (.ref l) H'
theorem jbl{sp:List P2}{i:Nat}(hi:i < sp.length):kF sp (sp.take (i+1))=kF sp (sp.take i)++((sp.filter fun z=>decide (sp[i]≠z)).map fun z=>(sp[i],z)):=by
 unfold kF;rw[dO,aK hi,Mp];simp
theorem jaM{α:Type}{p:α->Bool}{xs:List α}{i:Nat}(hi:i < xs.length):(xs.take (i+1)).filter p=(xs.take i).filter p++(if p xs[i]=true then [xs[i]] else []):=by
 rw[dO,aK hi,Mq];congr 1
 cases e:p xs[i] <;> simp[e]
theorem jeI{p q:P2}(h:p2 p=p2 q):p=q:=by
 obtain⟨a,b⟩:=p;obtain⟨c,d⟩:=q;unfold p2 at h
 cases h
 rfl
section
variable {P:az}{w:aw}{K:aq}{mg:Str->Option ae}{base:aj}{C:ab}
theorem jeS{f:ab}{fd:aH}(T:ClsC K C)(F:Fun K "spot_pairs" "spot_pairs" qr f fd):FnOk P w K mg base CX0 14 f fd ["case"] (Zv C):=by
 have sc:FnScope ["case"] ["case"] (jm qr):=fQ;refine F.okZ sc (fun vs H Q E h=>?_) (fun au A outer s H vs Q E hr h=>?_)
 .obtain⟨n,B,c,sp,rfl,_⟩:=h
  rfl
 have fk:(A.deeper (cr "spot_pairs" (jm qr) s.heap.objs.size f au)).units+1+200 < cLine:=by have:=hr.un;omega
 obtain⟨n,B,c,sp,rfl,I,hn,aV,db,q⟩:=h;refine⟨_,(ji (jB (jcH ["s","z"] [0] rfl (zg (sc:=jm qr) (N:=["case"]) rfl rfl (by decide +kernel)) (ko (jW (zpv 0) rfl)) (fun s H ex=>⟨(jx (i:=0) (show ff (["s","z","case"]:List Str) by decide +kernel) rfl oQ),jcF (K:=K) (jdD (K:=K) (zpv 2) rfl),(jx (i:=1) (show ff (["s","z","case"]:List Str) by decide +kernel) rfl oQ),(Z7 (jC (KJ 200 fk) (zpv 0) (zpv 1) (jH _))),(jR (ja (zpv 0) (ja (zpv 1) jb)))⟩)))),?_⟩;obtain⟨xs,l1,l2,l3⟩:=I.l 2 (by decide);rw[aV]at l2;have cJ:=l2.length;rw[aB]at cJ;refine⟨_,rfl,B.o,C,B.dx,_,_,rfl,I.o,T.c,T.n6,rfl,B.l 2,rfl,⟨_,SqL.of l1⟩,fun p hp=>?_⟩;have s1:=jk hp (.lst []);let In:Nat->Nat->List (Prod P2 P2):=fun i j=>kF sp (sp.take i)++(match sp[i]? with | some s=>((sp.take j).filter fun z=>decide (s≠z)).map fun z=>(s,z) | none=>[])
 have Et:∀i,(kF sp (sp.take i)).length<=200 * 200:=fun i=>by
  have h1:(kF sp (sp.take i)).length<=(sp.take i).length * sp.length:=by
   generalize sp.take i=S;induction S with
   | nil=>exact bF _
   | cons s S ih=>
    show (((sp.filter fun z=>decide (s≠z)).map fun z=>(s,z))++kF sp S).length<=(S.length+1) * sp.length;rw[bz,aB,DF,Dz];have:=oG (fun z=>decide (s≠z)) sp;omega
  have h2:(sp.take i).length<=200:=by rw[bZ];omega
  exact aG h1 (DC h2 (by omega))
 refine jaT (xs:=xs) (ys:=xs) (a:=B.l 2) (b:=B.l 2) (fun i σ' G=>∃u w zs,σ'=[u,w,some (.ref B.o)]/\Same H G/\G p=some (.lst zs)/\HeldL G ((kF sp (sp.take i)).map Ks) zs) (fun i j σ' G=>∃x w zs,σ'=[some x,w,some (.ref B.o)]/\xs[i]?=some x/\Same H G/\G p=some (.lst zs)/\HeldL G ((In i j).map Ks) zs) ⟨none,none,[],rfl,s1,jf,jr⟩ ?_ ?_ ?_ ?_ ?_ ?_ ?_ ?_
 .rintro i σ' G ⟨u,w,zs,rfl,sG,_⟩
  exact SqL.of (sG _ _ l1)
 .rintro i j σ' G ⟨u,w,zs,rfl,_,sG,_⟩
  exact SqL.of (sG _ _ l1)
 .intro x σ' H' R R' k h
  exact k _ _ h
 .rintro σ' H' R R' k ⟨v,hv,a,C',dx,fs,v',e1,e2,e3,e4,e5,h⟩
  exact⟨v,hv,a,C',dx,fs,v',e1,e2,e3,e4,e5,k _ _ h⟩
 .rintro i x σ' G hx ⟨u,w,zs,rfl,sG,hG,hz⟩
  have hi:i < sp.length:=by rw[cJ];exact (bI.mp hx).1
  unfold qm;refine⟨_,rfl,B.o,C,B.dx,_,_,rfl,sG _ _ I.o,T.c,T.n6,rfl,rfl,x,w,zs,rfl,hx,sG,hG,?_⟩;show HeldL G ((kF sp (sp.take i)++(match sp[i]? with | some s=>((sp.take 0).filter fun z=>decide (s≠z)).map fun z=>(s,z) | none=>[])).map Ks) zs;rw[aK hi];show HeldL G ((kF sp (sp.take i)++[]).map Ks) zs;rw[gh];exact hz
 .rintro i x j y σ' G hx hy ⟨x',w,zs,rfl,cE,sG,hG,hz⟩
  obtain rfl:x=x':=by rw[hx]at cE;cases cE;rfl
  have hi:i < sp.length:=by rw[cJ];exact (bI.mp hx).1
  have hj:j < sp.length:=by rw[cJ];exact (bI.mp hy).1
  have eG:Held G (p2 sp[i]) x:=(kz l2 (by rw[bH,aK hi];rfl) hx).mono sG;have ci:Held G (p2 sp[j]) y:=(kz l2 (by rw[bH,aK hj];rfl) hy).mono sG;have ei:In i (j+1)=In i j++(if sp[i]≠sp[j] then [(sp[i],sp[j])] else []):=by
   show kF sp (sp.take i)++(match sp[i]? with | some s=>((sp.take (j+1)).filter fun z=>decide (s≠z)).map fun z=>(s,z) | none=>[])=(kF sp (sp.take i)++(match sp[i]? with | some s=>((sp.take j).filter fun z=>decide (s≠z)).map fun z=>(s,z) | none=>[]))++_;rw[aK hi];dsimp only;rw[jaM hj,bq,bE];congr 2;by_cases z:sp[i]=sp[j] <;> simp[z]
  have As:zs.length<=50000:=by
   rw[<- hz.length,aB];show (kF sp (sp.take i)++(match sp[i]? with | some s=>((sp.take j).filter fun z=>decide (s≠z)).map fun z=>(s,z) | none=>[])).length<=50000;rw[aK hi];dsimp only;rw[bz,aB];have:=Et i;have h2:=oG (fun z=>decide (sp[i]≠z)) (sp.take j);rw[bZ]at h2;omega
  have di:=db _ (dP hi);generalize sp[i]=s at *;generalize sp[j]=z at *;obtain⟨tx,u1,rfl,k1,k2⟩:=jF (show Held G (.tup [s.1,.int s.2]) x from eG);obtain⟨ty,u2,rfl,k3,k4⟩:=jF (show Held G (.tup [z.1,.int z.2]) y from ci);unfold qm;refine⟨_,rfl,_,rfl,tx,ty,u1,u2,_,_,rfl,rfl,k1,k3,?_,k2,k4,_,rfl,?_⟩
  .show max s.1.depth (max 0 0)<=200
   omega
  by_cases e:s=z
  .rw[MR (show [s.1,D.int s.2]=[z.1,D.int z.2] by rw[e])]
   refine ku ⟨_,_,_,rfl,hx,sG,hG,?_⟩;rw[ei,MT (fun y=>y e),gh];exact hz
  .rw[MS (show ¬[s.1,D.int s.2]=[z.1,D.int z.2] from fun y=>e (jeI (MW D.tup y)))]
   refine kO ⟨_,rfl,_,rfl,sm rfl,fun tq uS=>?_⟩;have s4:=jk uS (.tup [.ref tx,.ref ty]);have nW:=s4 _ _ hG;have kt:TK (upd G tq (.tup [.ref tx,.ref ty])) (upd (upd G tq (.tup [.ref tx,.ref ty])) p (.lst (zs++[.ref tq]))):=fun b ws eb=>jj (jy eb nW (by intro z;cases z)) eb
   refine⟨_,nW,j8 (by omega),_,_,_,rfl,hx,fun b o e=>jj (jo e hp) (s4 _ _ (sG _ _ e)),jf,?_⟩;rw[ei,MU e,bq];exact j4 (kt.heldL (hz.mono s4)) (je (kt.held (jL jf (je (eG.mono s4) (je (ci.mono s4) jr)))) jr)
 .rintro i σ' G hi ⟨x,w,zs,rfl,hx,sG,hG,hz⟩
  refine⟨_,_,zs,rfl,sG,hG,?_⟩;rw[<- cJ]at hi;rw[jbl hi];have:In i xs.length=kF sp (sp.take i)++((sp.filter fun z=>decide (sp[i]≠z)).map fun z=>(sp[i],z)):=by
   show kF sp (sp.take i)++(match sp[i]? with | some s=>((sp.take xs.length).filter fun z=>decide (s≠z)).map fun z=>(s,z) | none=>[])=_;rw[aK hi,<- cJ,cx]
  rw[<- this];exact hz
 .rintro σ' G ⟨u,w,zs,rfl,sG,hG,hz⟩
  rw[<- cJ,cx]at hz;exact q p zs G sG hp hG hz
end
def SpG(p:P2):Prop:=∃ds,p.1=.tup ds/\D.depthL ds<=180
theorem SpG.dep{p:P2}(h:SpG p):p.1.depth<=190:=by
 obtain⟨ds,e,hd⟩:=h;rw[e];show D.depthL ds+1<=190;omega
theorem SpG.can{p q:P2}(h:SpG p)(k:SpG q):jjg (atM p q):=by
 obtain⟨ds,e,hd⟩:=h;obtain⟨es,e2,_⟩:=k;exact⟨ds,es,e,e2,by omega⟩
def Zo(vs:List D)(q:Prod P2 P2):List T3:=vs.map fun v=>atM (j7 v q.1) (j7 v q.2)
def jdK(vs:List D)(q:Prod P2 P2):List D:=qh [atM q.1 q.2,atM q.2 q.1] (Zo vs q)
def jhw(vs:List D)(qs:List (Prod P2 P2)):List D:=qs.flatMap (jdK vs)
theorem kM(gs ts:List T3):(qh gs ts).length<=ts.length:=by
 unfold qh;split
 .exact bF _
 .rw[aB]
  exact aD _
theorem qW{α β:Type}{f:α->List β}{m:Nat}:∀{l:List α},(∀x∈l,(f x).length<=m)->(l.flatMap f).length<=l.length * m
 | [],_=>bF _
 | x :: l,h=>by
  rw[List.flatMap_cons,bz,bM,DF,Dz];have:=h x (bC ..);have:=qW fun y hy=>h y (bG _ hy)
  omega
theorem qK{α β:Type}{f:α->List β}{l:List α}{i:Nat}(hi:i < l.length):(l.take (i+1)).flatMap f=(l.take i).flatMap f++f l[i]:=by
 rw[dO,aK hi,Mp];simp
def jaq(C:ab)(pre:Cs->List P2->List D->Prop):Sp:=fun vs H Q _=>∃(n:Nat) (A:CA) (c:Cs) (sp:List P2) (ds:List D),vs=[.ref A.o]/\CsAt C n A c H/\n<=110/\c.l 2=sp.map p2/\(∀p∈sp,SpG p)/\pre c sp ds/\
 ∀(l:ab) (zs:List V) (H':Hp),Same H H'->H l=none->H' l=some (.lst zs)->HeldL H' ds zs->ds.length<=2700000->Q (.ref l) H'
def jbj(c:Cs)(sp:List P2)(ds:List D):Prop:=ds=jhw (c.na.map Ky++c.l 0) (kr sp)
theorem yX{sp:List P2}{q:Prod P2 P2}(h:q∈kr sp):q.1∈sp/\q.2∈sp:=by
 obtain⟨s,h1,h2⟩:=lJ.mp h;obtain⟨z,h3,rfl⟩:=cc.mp h2;exact⟨h1,(xz.mp h3).1⟩
theorem jau{H:Hp}{q:Prod P2 P2}{v:V}(h:Held H (Ks q) v):∃a x y,v=.ref a/\H a=some (.tup [x,y])/\Held H (p2 q.1) x/\Held H (p2 q.2) y:=qv h
section
variable {P:az}{w:aw}{K:aq}{mg:Str->Option ae}{base:aj}{C:ab}
theorem jeN{f:ab}{fd:aH}(T:ClsC K C)(F:Fun K "version_clauses" "version_clauses" kD f fd)(mx:Fn P w K mg base 14 "spot_pairs" ["case"] (Zv C))(bt:Fn P w K mg base 1 "at_most" ["one","other"] zD)(ce:Fn P w K mg base 1 "entry_of" ["version","spot"] zU)(d_:Fn P w K mg base 14 "guarded" ["guards","ties"] zT):FnOk P w K mg base CX0 15 f fd ["case"] (jaq C jbj):=by
 have sc:FnScope ["case","versions","told","s","z","ties"] ["case"] (jm kD):=fQ;refine F.okZ sc (fun vs H Q E h=>?_) (fun au A outer s H vs Q E hr h=>?_)
 .obtain⟨n,B,c,sp,ds,rfl,_⟩:=h
  rfl
 obtain⟨n,B,c,sp,ds,rfl,I,hn,aV,db,cT,q⟩:=h;refine⟨_,(jd (jdA (jw (i:=1) sc.nd rfl oQ (js ZH (yF ["r"] [] rfl (zg (sc:=jm kD) (N:=["case","versions","told","s","z","ties"]) rfl rfl (by decide +kernel)) (jdC (jW (zpv 0) rfl)) (fun s H ex=>⟨(jx (i:=0) (show ff (["r"]:List Str) by decide +kernel) rfl oQ),zo,(jR (ja jq (ja (zpv 0) jb)))⟩)) (jW (zpv 0) rfl))))
   (jd (jw (i:=2) sc.nd rfl oQ (jK jb))
   (jd (kL ee rfl (ko (jh mx hr (ja (zpv 0) jb))) (kH rfl (jz (jx (i:=3) sc.nd rfl oQ) (jz (jx (i:=4) sc.nd rfl oQ) ky))) (jd (yE (i:=5) sc.nd rfl oQ ["version"] [3,4] rfl (zg (sc:=jm kD) (N:=["case","versions","told","s","z","ties"]) rfl rfl (by decide +kernel)) (ko (zpv 1)) (fun s H ex=>⟨(jx (i:=0) (show ff (["version","s","z"]:List Str) by decide +kernel) rfl oQ),zo,(jh bt hr (ja (jh ce hr (ja (zpv 0) (ja (zpv 1) jb))) (ja (jh ce hr (ja (zpv 0) (ja (zpv 2) jb))) jb)))⟩))
   (ji (jA (kg bS gT gS kQ (zpv 2) (ja (jh d_ hr (ja (jK (ja (jh bt hr (ja (zpv 3) (ja (zpv 4) jb))) (ja (jh bt hr (ja (zpv 4) (ja (zpv 3) jb))) jb))) (ja (zpv 5) jb))) jb))))))
   (ji (jB (zpv 2)))))),?_⟩
 refine jG (σ':=[some (.ref B.o),none,none,none,none,none]) rfl ?_;obtain⟨kvs,k1,k2,k3⟩:=I.na;obtain⟨gw,j1,j2,j3⟩:=I.l 0 (by decide);have Em:B.o≠B.na:=jy I.o k1 (by intro z;cases z);have ug:B.l 0≠B.na:=jy j1 k1 (by intro z;cases z);refine⟨_,rfl,B.o,C,B.dx,_,_,rfl,I.o,T.c,T.n3,rfl,B.na,kvs,rfl,k1,fun ob p hp=>?_⟩;have fP:p≠B.na:=by
  intro z;rw[z,jf]at hp
  cases hp
 have nH:H p=none:=by rw[<- hp,jD fP]
 have kl:kvs.length=c.na.length:=by
  have:=MW lN k3;rw[aB,aB]at this;exact this
 refine ZY (Itd B.na ob kvs) kvs.length (fun i σ' G=>∃u rs,σ'=[u]/\G B.na=some (.frz ob (.dK kvs))/\(∀b o,b≠B.na->H b=some o->G b=some o)/\G p=some (.lst rs)/\HeldL G ((c.na.take i).map Ky) rs) ⟨none,[],rfl,by rw[jD (cY fP),jf],fun b o hb e=>by rw[jD (jo e nH),jD hb];exact e,jf,jr⟩ ?_ ?_ ?_ ?_
 .rintro σ' G ⟨u,rs,rfl,e,_⟩
  exact⟨e,aD _⟩
 .rintro i σ' G hi ⟨u,rs,rfl,e,_⟩
  exact⟨e,hi⟩
 .rintro i σ' G hi ⟨u,rs,rfl,e,sG,hG,cA⟩ x H2 ⟨rfl,k,v,e1,rfl⟩
  have nN:i < c.na.length:=by omega
  have ek:k=.inr c.na[i]:=by
   have:(kvs.map (·.1))[i]?=some k:=by rw[bH,e1];rfl
   rw[k3,bH,aK nN]at this;exact (cN this).symm
  subst ek;have et:(c.na.take (i+1)).map Ky=(c.na.take i).map Ky++[Ky c.na[i]]:=by rw[dO,aK nN,bq];rfl
  generalize c.na[i]=r at *;unfold qm Zq;refine kO ?_;refine⟨_,rfl,sm rfl,fun t ht=>?_⟩;have s4:=jk ht (.tup [.str "row",.str r]);have nW:=s4 _ _ hG;have kt:TK (upd H2 t (.tup [.str "row",.str r])) (upd (upd H2 t (.tup [.str "row",.str r])) p (.lst (rs++[.ref t]))):=fun b ws eb=>jj (jy eb nW (by intro z;cases z)) eb
  have eU:rs.length<=1000:=by
   rw[<- cA.length,aB,bZ];omega
  refine⟨_,nW,jI eU,_,_,rfl,jj (cY fP) (s4 _ _ e),fun b o hb eb=>jj (jo eb nH) (s4 _ _ (sG b o hb eb)),jf,?_⟩;rw[et];exact j4 (kt.heldL (cA.mono s4)) (je (kt.held (jL jf (je jE (je jE jr)))) jr)
 rintro σ' G ⟨u,rs,rfl,eF,sG,hG,cA⟩;rw[kl,cx]at cA;have eU:rs.length<=110:=by
  rw[<- cA.length,aB];omega
 have eW:HeldL G (c.l 0) gw:=(show TK H G from fun b xs e=>sG b _ (jy e k1 (by intro z;cases z)) e).heldL j2;refine⟨_,rfl,B.o,C,B.dx,_,_,rfl,sG _ _ Em I.o,T.c,T.n4,rfl,p,B.l 0,rs,gw,rfl,rfl,hG,sG _ _ ug j1,JA (by omega),fun lv me=>?_⟩;have o8:lv≠B.na:=fun z=>by rw[z,eF]at me;cases me
 have El:∀(o:Obj) (z:HO),H B.na≠some (.frz o z):=fun o z e=>by rw[k1]at e;cases e
 refine⟨B.na,ob,kvs,(jD (cY o8)).trans eF,El,?_⟩;have A9:H lv=none:=by
  cases z:H lv with
  | none=>rfl
  | some o=>rw[sG lv o o8 z]at me;cases me
 have hV:HeldL G (c.na.map Ky++c.l 0) (rs++gw):=j4 cA eW;have EJ:(c.na.map Ky++c.l 0).length<=220:=by
  rw[hV.length,bz];omega
 have s1:Same H (upd (upd G lv (.lst (rs++gw))) B.na (.dK kvs)):=fun b o e=>by
  by_cases z:b=B.na
  .rw[z,jf,<- k1,<- z]
   exact e
  .rw[jD z,jD (jo e A9)]
   exact sG b o z e
 have tG:TK G (upd (upd G lv (.lst (rs++gw))) B.na (.dK kvs)):=fun b xs e=>by
  rw[jD (jy e eF (by intro z;cases z)),jD (jo e me)];exact e
 have F_:=tG.heldL hV;have e1:upd (upd G lv (.lst (rs++gw))) B.na (.dK kvs) lv=some (.lst (rs++gw)):=by rw[jD o8,jf]
 generalize upd (upd G lv (.lst (rs++gw))) B.na (.dK kvs)=H1 at *;generalize rs++gw=us at *;have Br:ds=jhw (c.na.map Ky++c.l 0) (kr sp):=cT;generalize (c.na.map Ky++c.l 0)=vs at *;clear cA eW hV tG me A9 o8 eF sG hG hp nH fP;refine gQ ?_;refine⟨sm rfl,fun lt aS=>?_⟩;refine gQ ?_;have s2:=jk aS (.lst []);have e2:upd H1 lt (.lst []) lt=some (.lst []):=jf;have i5:=s2 _ _ e1;have F9:=F_.mono s2;generalize upd H1 lt (.lst [])=H2 at *;have bV:=s1.trans s2;have A_:H lt=none:=s1.free aS;refine⟨_,rfl,n,B,c,sp,rfl,I.same bV,by omega,aV,fun p hp=>(db p hp).dep,fun lq qz H3 s3 nL nM iQ=>?_⟩;have cy:=bV.trans s3;have pP:=s3 _ _ i5;have i4:=s3 _ _ e2;have F8:=F9.mono s3;have iR:=iQ.length;rw[aB]at iR;have gC:sp.length<=110:=by
  obtain⟨xs,_,a2,a3⟩:=I.l 2 (by decide);rw[aV]at a2;have:=a2.length;rw[aB]at this;omega
 have hZ:(kr sp).length<=12100:=aG (Y2 sp) (aG (DC gC gC) (by decide));have cl:∀q,(jdK vs q).length<=220:=fun q=>aG (kM _ _) (by unfold Zo;rw[aB];exact EJ)
 have Cb:∀i,((((kr sp).take i).flatMap (jdK vs)).length)<=2662000:=fun i=>by
  refine aG (qW (m:=220) fun q _=>cl q) ?_;have:((kr sp).take i).length<=12100:=by rw[bZ];omega
  exact aG (oy 220 this) (by decide)
 refine⟨lq,rfl,⟨_,SqL.of nM⟩,?_⟩;have tX:lq≠lt:=fun z=>by rw[z,e2]at nL;cases nL
 let Pv:Nat->L2.St->Hp->Prop:=fun i σ G=>∃u3 u4 u5 zs,σ=[some (.ref B.o),some (.ref lv),some (.ref lt),u3,u4,u5]/\(∀b o,b≠lt->H3 b=some o->G b=some o)/\G lt=some (.lst zs)/\HeldL G (((kr sp).take i).flatMap (jdK vs)) zs
 refine qa (xs:=qz) Pv ⟨none,none,none,[],rfl,fun _ _ _ e=>e,i4,jr⟩ ?_ ?_ ?_
 .rintro i σ G _ ⟨u3,u4,u5,zs,rfl,sG,_⟩
  exact SqL.of (sG _ _ tX nM)
 .rintro i x σ G hx ⟨u3,u4,u5,zs,rfl,sG,hG,b_⟩
  have hi:i < (kr sp).length:=by rw[iR];exact (bI.mp hx).1
  have tk:TK H3 G:=fun b xs e=>sG b _ (jy e i4 (by intro z;cases z)) e
  have eG:Held G (Ks (kr sp)[i]) x:=tk.held (kz iQ (by rw[bH,aK hi];rfl) hx);have et:=qK (f:=jdK vs) hi;have iW:=yX (dP hi);have c1:=db _ iW.1;have c2:=db _ iW.2;generalize (kr sp)[i]=pq at *;obtain⟨a,x1,x2,rfl,ha,h1,h2⟩:=jau eG;refine⟨a,_,rfl,SqT.of ha,rfl,x1,_,rfl,x2,_,rfl,rfl,?_⟩;refine gQ ?_;have Ej:lv≠lt:=jo e1 aS;have Bz:=tk.heldL F8;have B2:G lv=some (.lst us):=sG _ _ Ej pP;have AF:=Bz.length;refine⟨_,rfl,lv,rfl,⟨_,SqL.of B2⟩,fun p hp=>?_⟩;have s4:=jk hp (.lst []);refine yZ (xs:=us) (fun j σ' G'=>∃u ts,σ'=[u,some x1,some x2]/\Same G G'/\G' p=some (.lst ts)/\HeldL G' ((Zo (vs.take j) pq).map t3) ts) ⟨none,[],rfl,s4,jf,jr⟩ ?_ ?_ ?_
  .rintro j σ' G' _ ⟨u,ts,rfl,aI,_⟩
   exact SqL.of (aI _ _ B2)
  .rintro j y σ' G' hy ⟨u,ts,rfl,aI,gD,fN⟩
   have hj:j < vs.length:=by rw[AF];exact (bI.mp hy).1
   have ci:Held G' vs[j] y:=(kz Bz (aK hj) hy).mono aI;have et:(Zo (vs.take (j+1)) pq).map t3=(Zo (vs.take j) pq).map t3++[kJ (j7 vs[j] pq.1) (j7 vs[j] pq.2)]:=by unfold Zo;rw[dO,aK hj,bq,bq];rfl
   have E6:ts.length<=1000:=by
    rw[<- fN.length,aB];unfold Zo;rw[aB,bZ];omega
   generalize vs[j]=v at *;unfold qm Zq;refine kO ?_;refine⟨_,rfl,_,rfl,y,x1,v,pq.1,rfl,ci,h1.mono aI,fun oa G4 s5 FM=>?_⟩;refine⟨_,rfl,_,rfl,y,x2,v,pq.2,rfl,ci.mono s5,(h2.mono aI).mono s5,fun vV G5 s6 FL=>?_⟩;refine⟨oa,vV,_,_,rfl,FM.mono s6,FL,fun tt G6 s7 ht=>?_⟩;have tH:=s5.trans (s6.trans s7);have AW:=tH _ _ gD;have kt:TK G6 (upd G6 p (.lst (ts++[tt]))):=fun b ws eb=>jj (jy eb AW (by intro z;cases z)) eb
   refine⟨_,AW,jI E6,_,_,rfl,fun b o e=>jj (jo e hp) (tH _ _ (aI _ _ e)),jf,?_⟩;rw[et];exact j4 (kt.heldL (fN.mono tH)) (je (kt.held ht) jr)
  rintro σ' G' ⟨u,ts,rfl,aI,gD,fN⟩;rw[<- AF,cx]at fN;refine gQ ?_;refine⟨_,rfl,.inl ⟨rfl,_,SqL.of (aI _ _ hG)⟩,?_⟩;refine⟨_,rfl,_,rfl,x1,x2,pq.1,pq.2,rfl,h1.mono aI,h2.mono aI,fun ta Ga sa dn=>?_⟩;have tF:=aI.trans sa;refine⟨_,rfl,_,rfl,x2,x1,pq.2,pq.1,rfl,h2.mono tF,h1.mono tF,fun tb Gb sb fm=>⟨sm rfl,fun lg eK=>?_⟩⟩;have dD:=jk eK (.lst [ta,tb]);have fH:=tF.trans (sb.trans dD);refine⟨_,rfl,lg,p,[atM pq.1 pq.2,atM pq.2 pq.1],Zo vs pq,_,ts,rfl,jf,je ((dn.mono sb).mono dD) (je (fm.mono dD) jr),(sa.trans (sb.trans dD)) _ _ gD,fN.mono (sa.trans (sb.trans dD)),fun g hg=>?_,by show 2<=1000;decide,by unfold Zo;rw[aB];omega,fun l9 cv G9 s9 iU e9 h9=>?_⟩
  .rcases a_.mp hg with rfl | hg
   .exact c1.can c2
   .rw[aM.mp hg]
    exact c2.can c1
  have fi:=fH.trans s9;have cL:=fi _ _ hG;have z9:cv.length<=220:=by
   rw[<- h9.length];exact cl pq
  have zl:zs.length<=2662000:=by
   rw[<- b_.length];exact Cb i
  refine⟨lt,l9,zs,cv,rfl,rfl,cL,e9,cD (j8 (by omega)),?_⟩;have kt:TK G9 (upd G9 lt (.lst (zs++cv))):=fun b ws eb=>jj (jy eb cL (by intro z;cases z)) eb
  refine⟨_,_,_,_,rfl,fun b o hb e=>jj hb (fi _ _ (sG b o hb e)),jf,?_⟩;rw[et];exact j4 (kt.heldL (b_.mono fi)) (kt.heldL h9)
 .rintro σ G ⟨u3,u4,u5,zs,rfl,sG,hG,b_⟩
  rw[<- iR,cx]at b_;have sF:Same H G:=fun b o e=>sG _ _ (fun z=>by rw[z,A_]at e;cases e) (cy _ _ e)
  refine⟨_,rfl,q lt zs G sF A_ hG (by rw[Br];exact b_) ?_⟩;have:=Cb (kr sp).length;rw[cx]at this;rw[Br];exact aG this (by decide)
end
abbrev qO:aA:=top 30
abbrev qN:aA:=top 31
structure EaT where
 t:P2
 u:P2
 v:D
 way:Str
 b:Sum D P2
 k:Int
def bD:Sum D P2->D
 | .inl v=>.tup [.str "row",v]
 | .inr p=>.tup [.str "is",p2 p]
def EaT.body(e:EaT):D:=jgW e.v e.way (bD e.b) e.k
def EaT.toD(e:EaT):D:=.tup [p2 e.t,p2 e.u,e.body]
def EaT.at_(e:EaT)(s:P2):P2:=match e.b with
 | .inl v=>j7 v s
 | .inr p=>p
def EaT.tie(e:EaT)(s:P2):T3:=if e.way = ">=" then atM (mor (e.at_ s) e.k) (j7 e.v s) else atM (j7 e.v s) (mor (e.at_ s) e.k)
def eaC(e:EaT)(s:P2):List D:=qh [atM e.t s,atM s e.u] [e.tie s]
def eaF(sp:List P2)(es:List EaT):List D:=es.flatMap fun e=>sp.flatMap (eaC e)
structure RiT where
 t:P2
 u:P2
 v:D
def RiT.toD(e:RiT):D:=.tup [p2 e.t,p2 e.u,e.v]
def riC(e:RiT)(q:Prod P2 P2):List D:=qh [atM e.t q.1,atM q.1 q.2,atM q.2 e.u] [atM (j7 e.v q.1) (j7 e.v q.2)]
def riF(sp:List P2)(es:List RiT):List D:=es.flatMap fun e=>(kr sp).flatMap (riC e)
def jer(c:Cs)(sp:List P2)(ds:List D):Prop:=∃es:List EaT,c.l 4=es.map EaT.toD/\(∀e∈es,SpG e.t/\SpG e.u)/\ds=eaF sp es
def jep(c:Cs)(sp:List P2)(ds:List D):Prop:=∃es:List RiT,c.l 5=es.map RiT.toD/\(∀e∈es,SpG e.t/\SpG e.u)/\ds=riF sp es
theorem K1{H:Hp}{a b c:D}{v:V}(h:Held H (.tup [a,b,c]) v):∃t x y z,v=.ref t/\H t=some (.tup [x,y,z])/\Held H a x/\Held H b y/\Held H c z:=by
 obtain⟨t,xs,rfl,ht,hx⟩:=jF h;obtain⟨x,r,rfl,h1,h2⟩:=jl hx;obtain⟨y,r,rfl,h3,h4⟩:=jl h2;obtain⟨z,r,rfl,h5,h6⟩:=jl h4
 cases jM h6
 exact⟨t,x,y,z,rfl,ht,h1,h3,h5⟩
theorem jfr{e:EaT}{s:P2}{H:Hp}{v u:V}{Q:VK}{E:XK}(hb:Held H e.body v)(hs:Held H (p2 s) u)(k:∀v' H',Same H H'->Held H' (t3 (e.tie s)) v'->Q v' H'):KF [v,u] H Q E:=by
 obtain⟨t,u',vv,way,b,kk⟩:=e;have et:∀b':P2,qY vv way b' kk s=t3 (if way = ">=" then atM (mor b' kk) (j7 vv s) else atM (j7 vv s) (mor b' kk)):=fun b'=>by
  unfold qY;split <;> rfl
 cases b with
 | inl v2=>
  refine⟨⟨fun _=>none,fun x=>if x = "a" then some vv else some v2,[],fun _=>[]⟩,"a",way,.row "b",kk,s,v,u,rfl,hb,hs,fun v' H' s' h=>k v' H' s' ?_⟩;have h:Held H' (qY vv way (j7 v2 s) kk s) v':=h;rw[et]at h;exact h
 | inr p=>
  refine⟨⟨fun _=>some p,fun x=>some vv,[],fun _=>[]⟩,"a",way,.is "b",kk,s,v,u,rfl,hb,hs,fun v' H' s' h=>k v' H' s' ?_⟩;have h:Held H' (qY vv way p kk s) v':=h;rw[et]at h;exact h
section
variable {P:az}{w:aw}{K:aq}{mg:Str->Option ae}{base:aj}{C:ab}
theorem jgE{f:ab}{fd:aH}(T:ClsC K C)(F:Fun K "each_clauses" "each_clauses" qO f fd)(bt:Fn P w K mg base 1 "at_most" ["one","other"] zD)(mz:Fn P w K mg base 2 "body_tie" ["body","spot"] KF)(d_:Fn P w K mg base 14 "guarded" ["guards","ties"] zT):FnOk P w K mg base CX0 15 f fd ["case"] (jaq C jer):=by
 have sc:FnScope ["case","told","t","u","body","s"] ["case"] (jm qO):=fQ;refine F.okZ sc (fun vs H Q E h=>?_) (fun au A outer s H vs Q E hr h=>?_)
 .obtain⟨n,B,c,sp,ds,rfl,_⟩:=h
  rfl
 obtain⟨n,B,c,sp,ds,rfl,I,hn,aV,db,⟨es,gE,nP,cT⟩,q⟩:=h;refine⟨_,(jd (jw (i:=1) sc.nd rfl oQ (jK jb))
   (jd (kL ee rfl (ko (jW (zpv 0) rfl)) (kH rfl (jz (jx (i:=2) sc.nd rfl oQ) (jz (jx (i:=3) sc.nd rfl oQ) (jz (jx (i:=4) sc.nd rfl oQ) ky)))) (ji (kL ee rfl (ko (jW (zpv 0) rfl)) (jx (i:=5) sc.nd rfl oQ) (ji (jA (kg bS gT gS kQ (zpv 1) (ja (jh d_ hr (ja (jK (ja (jh bt hr (ja (zpv 2) (ja (zpv 5) jb))) (ja (jh bt hr (ja (zpv 5) (ja (zpv 3) jb))) jb))) (ja (jK (ja (jh mz hr (ja (zpv 4) (ja (zpv 5) jb))) jb)) jb))) jb)))))))
   (ji (jB (zpv 1))))),?_⟩
 refine jG (σ':=[some (.ref B.o),none,none,none,none,none]) rfl ?_;obtain⟨xs,a1,a2,a3⟩:=I.l 4 (by decide);rw[gE]at a2;have cJ:=a2.length;rw[aB]at cJ;obtain⟨ys,b1,b2,b3⟩:=I.l 2 (by decide);rw[aV]at b2;have iL:=b2.length;rw[aB]at iL;have cl:∀e s,(eaC e s).length<=1:=fun e s=>kM _ _
 have ip:∀e j,((sp.take j).flatMap (eaC e)).length<=110:=fun e j=>by
  refine aG (qW (m:=1) fun s _=>cl e s) ?_;rw[bZ,Nat.mul_one];omega
 have io:∀i,((es.take i).flatMap fun e=>sp.flatMap (eaC e)).length<=12100:=fun i=>by
  refine aG (qW (m:=110) fun e _=>?_) ?_
  .have:=ip e sp.length
   rw[cx]at this;exact this
  .have:(es.take i).length<=110:=by rw[bZ];omega
   exact aG (oy 110 this) (by decide)
 refine⟨sm rfl,fun lt aS=>?_⟩;refine gQ ?_;have s1:=jk aS (.lst []);have e1:upd H lt (.lst []) lt=some (.lst []):=jf;generalize upd H lt (.lst [])=H1 at *;refine⟨_,rfl,B.o,C,B.dx,_,_,rfl,s1 _ _ I.o,T.c,T.n8,rfl,B.l 4,rfl,⟨_,SqL.of (s1 _ _ a1)⟩,?_⟩;have nox:B.l 4≠lt:=jo a1 aS;have iJ:B.l 2≠lt:=jo b1 aS;have t_:B.o≠lt:=jo I.o aS;let Pv:Nat->L2.St->Hp->Prop:=fun i σ G=>∃u2 u3 u4 u5 zs,σ=[some (.ref B.o),some (.ref lt),u2,u3,u4,u5]/\(∀b o,b≠lt->H1 b=some o->G b=some o)/\G lt=some (.lst zs)/\HeldL G ((es.take i).flatMap fun e=>sp.flatMap (eaC e)) zs
 refine qa (xs:=xs) Pv ⟨none,none,none,none,[],rfl,fun _ _ _ e=>e,e1,jr⟩ ?_ ?_ ?_
 .rintro i σ G _ ⟨u2,u3,u4,u5,zs,rfl,sG,_⟩
  exact SqL.of (sG _ _ nox (s1 _ _ a1))
 .rintro i x σ G hx ⟨u2,u3,u4,u5,zs,rfl,sG,hG,b_⟩
  have hi:i < es.length:=by rw[cJ];exact (bI.mp hx).1
  have tk:TK H1 G:=fun b xs e=>sG b _ (jy e e1 (by intro z;cases z)) e
  have eG:Held G es[i].toD x:=tk.held ((kz a2 (by rw[bH,aK hi];rfl) hx).mono s1);have et:=qK (f:=fun e=>sp.flatMap (eaC e)) hi;have c1:=nP _ (dP hi);have og:=ip es[i];have Ca:=io i;generalize es[i]=e at *;obtain⟨a,x1,x2,x3,rfl,ha,h1,h2,h3⟩:=K1 eG;refine⟨a,_,rfl,SqT.of ha,rfl,x1,_,rfl,x2,_,rfl,x3,_,rfl,rfl,?_⟩;refine jG (σ':=[some (.ref B.o),some (.ref lt),some x1,some x2,some x3,u5]) rfl ?_;refine⟨_,rfl,B.o,C,B.dx,_,_,rfl,sG _ _ t_ (s1 _ _ I.o),T.c,T.n6,rfl,B.l 2,rfl,⟨_,SqL.of (sG _ _ iJ (s1 _ _ b1))⟩,?_⟩;let Pw:Nat->L2.St->Hp->Prop:=fun j σ G'=>∃u5 zs,σ=[some (.ref B.o),some (.ref lt),some x1,some x2,some x3,u5]/\(∀b o,b≠lt->G b=some o->G' b=some o)/\G' lt=some (.lst zs)/\HeldL G' (((es.take i).flatMap fun e=>sp.flatMap (eaC e))++(sp.take j).flatMap (eaC e)) zs
  refine qa (xs:=ys) Pw ⟨u5,zs,rfl,fun _ _ _ e=>e,hG,by rw[sK,DO,gh];exact b_⟩ ?_ ?_ ?_
  .rintro j σ G' _ ⟨u5,zs,rfl,aI,_⟩
   exact SqL.of (aI _ _ iJ (sG _ _ iJ (s1 _ _ b1)))
  .rintro j y σ G' hy ⟨u5,zs,rfl,aI,dt,cI⟩
   have hj:j < sp.length:=by rw[iL];exact (bI.mp hy).1
   have dm:TK G G':=fun b xs e=>aI b _ (jy e hG (by intro z;cases z)) e
   have ci:Held G' (p2 sp[j]) y:=dm.held (tk.held ((kz b2 (by rw[bH,aK hj];rfl) hy).mono s1));have cn:=dm.held h1;have du:=dm.held h2;have iY:=dm.held h3;have mw:=qK (f:=eaC e) hj;have c2:=db _ (dP hj);have B_:=og j;generalize sp[j]=s at *;refine gQ ?_;refine⟨_,rfl,.inl ⟨rfl,_,SqL.of dt⟩,?_⟩;refine⟨_,rfl,_,rfl,x1,y,e.t,s,rfl,cn,ci,fun ta Ga sa dn=>?_⟩;refine⟨_,rfl,_,rfl,y,x2,s,e.u,rfl,ci.mono sa,du.mono sa,fun tb Gb sb fm=>⟨sm rfl,fun lg eK=>?_⟩⟩;have dD:=jk eK (.lst [ta,tb]);have eg:upd Gb lg (.lst [ta,tb]) lg=some (.lst [ta,tb]):=jf;have lZ:=(dn.mono sb).mono dD;have lY:=fm.mono dD;generalize upd Gb lg (.lst [ta,tb])=Gc at *;have fH:=sa.trans (sb.trans dD);refine⟨_,rfl,_,rfl,jfr (E:=E0) (e:=e) (s:=s) (iY.mono fH) (ci.mono fH) fun tc Gd sd uT=>⟨sm rfl,fun lh vi=>?_⟩⟩;have se:=jk vi (.lst [tc]);have oP:=sd.trans se;have mV:=fH.trans oP;refine⟨lg,lh,[atM e.t s,atM s e.u],[e.tie s],_,_,rfl,oP _ _ eg,je (lZ.mono oP) (je (lY.mono oP) jr),jf,je (uT.mono se) jr,fun g hg=>?_,by show 2<=1000;decide,by show 1<=1000;decide,fun l9 cv G9 s9 iU e9 h9=>?_⟩
   .rcases a_.mp hg with rfl | hg
    .exact c1.1.can c2
    .rw[aM.mp hg]
     exact c2.can c1.2
   have fi:=mV.trans s9;have cL:=fi _ _ dt;have z9:cv.length<=1:=by
    rw[<- h9.length];exact cl e s
   have zl:zs.length<=13000:=by
    rw[<- cI.length,bz];omega
   refine⟨lt,l9,zs,cv,rfl,rfl,cL,e9,cD (j8 (by omega)),?_⟩;have kt:TK G9 (upd G9 lt (.lst (zs++cv))):=fun b ws eb=>jj (jy eb cL (by intro z;cases z)) eb
   refine⟨_,_,rfl,fun b o hb e=>jj hb (fi _ _ (aI b o hb e)),jf,?_⟩;rw[mw,<- bE];exact j4 (kt.heldL (cI.mono fi)) (kt.heldL h9)
  .rintro σ G' ⟨u5,zs,rfl,aI,dt,cI⟩
   rw[<- iL,cx]at cI;refine⟨_,_,_,_,zs,rfl,fun b o hb eb=>aI b o hb (sG b o hb eb),dt,?_⟩;rw[et];exact cI
 .rintro σ G ⟨u2,u3,u4,u5,zs,rfl,sG,hG,b_⟩
  rw[<- cJ,cx]at b_;have sF:Same H G:=fun b o e=>sG _ _ (jo e aS) (s1 _ _ e)
  refine⟨_,rfl,q lt zs G sF aS hG (by rw[cT];exact b_) ?_⟩;have:=io es.length;rw[cx]at this;rw[cT];exact aG this (by decide)
theorem jgu{f:ab}{fd:aH}(T:ClsC K C)(F:Fun K "rise_clauses" "rise_clauses" qN f fd)(mx:Fn P w K mg base 14 "spot_pairs" ["case"] (Zv C))(bt:Fn P w K mg base 1 "at_most" ["one","other"] zD)(ce:Fn P w K mg base 1 "entry_of" ["version","spot"] zU)(d_:Fn P w K mg base 14 "guarded" ["guards","ties"] zT):FnOk P w K mg base CX0 15 f fd ["case"] (jaq C jep):=by
 have sc:FnScope ["case","told","t","u","version","s","z","tie"] ["case"] (jm qN):=fQ;refine F.okZ sc (fun vs H Q E h=>?_) (fun au A outer s H vs Q E hr h=>?_)
 .obtain⟨n,B,c,sp,ds,rfl,_⟩:=h
  rfl
 obtain⟨n,B,c,sp,ds,rfl,I,hn,aV,db,⟨es,gE,nP,cT⟩,q⟩:=h;refine⟨_,(jd (jw (i:=1) sc.nd rfl oQ (jK jb))
   (jd (kL ee rfl (ko (jW (zpv 0) rfl)) (kH rfl (jz (jx (i:=2) sc.nd rfl oQ) (jz (jx (i:=3) sc.nd rfl oQ) (jz (jx (i:=4) sc.nd rfl oQ) ky)))) (ji (kL ee rfl (ko (jh mx hr (ja (zpv 0) jb))) (kH rfl (jz (jx (i:=5) sc.nd rfl oQ) (jz (jx (i:=6) sc.nd rfl oQ) ky))) (jd (jw (i:=7) sc.nd rfl oQ (jh bt hr (ja (jh ce hr (ja (zpv 4) (ja (zpv 5) jb))) (ja (jh ce hr (ja (zpv 4) (ja (zpv 6) jb))) jb))))
   (ji (jA (kg bS gT gS kQ (zpv 1) (ja (jh d_ hr (ja (jK (ja (jh bt hr (ja (zpv 2) (ja (zpv 5) jb))) (ja (jh bt hr (ja (zpv 5) (ja (zpv 6) jb))) (ja (jh bt hr (ja (zpv 6) (ja (zpv 3) jb))) jb)))) (ja (jK (ja (zpv 7) jb)) jb))) jb))))))))
   (ji (jB (zpv 1))))),?_⟩
 refine jG (σ':=[some (.ref B.o),none,none,none,none,none,none,none]) rfl ?_;obtain⟨xs,a1,a2,a3⟩:=I.l 5 (by decide);rw[gE]at a2;have cJ:=a2.length;rw[aB]at cJ;have gC:sp.length<=110:=by
  obtain⟨xs,_,a2,a3⟩:=I.l 2 (by decide);rw[aV]at a2;have:=a2.length;rw[aB]at this;omega
 have hZ:(kr sp).length<=12100:=aG (Y2 sp) (aG (DC gC gC) (by decide));have cl:∀e q,(riC e q).length<=1:=fun e q=>kM _ _
 have ip:∀e j,(((kr sp).take j).flatMap (riC e)).length<=12100:=fun e j=>by
  refine aG (qW (m:=1) fun s _=>cl e s) ?_;rw[bZ,Nat.mul_one];omega
 have io:∀i,((es.take i).flatMap fun e=>(kr sp).flatMap (riC e)).length<=1331000:=fun i=>by
  refine aG (qW (m:=12100) fun e _=>?_) ?_
  .have:=ip e (kr sp).length
   rw[cx]at this;exact this
  .have:(es.take i).length<=110:=by rw[bZ];omega
   exact aG (oy 12100 this) (by decide)
 refine⟨sm rfl,fun lt aS=>?_⟩;refine gQ ?_;have s1:=jk aS (.lst []);have e1:upd H lt (.lst []) lt=some (.lst []):=jf;generalize upd H lt (.lst [])=H1 at *;refine⟨_,rfl,B.o,C,B.dx,_,_,rfl,s1 _ _ I.o,T.c,T.n9,rfl,B.l 5,rfl,⟨_,SqL.of (s1 _ _ a1)⟩,?_⟩;have nox:B.l 5≠lt:=jo a1 aS;let Pv:Nat->L2.St->Hp->Prop:=fun i σ G=>∃u2 u3 u4 u5 u6 u7 zs,σ=[some (.ref B.o),some (.ref lt),u2,u3,u4,u5,u6,u7]/\(∀b o,b≠lt->H1 b=some o->G b=some o)/\G lt=some (.lst zs)/\HeldL G ((es.take i).flatMap fun e=>(kr sp).flatMap (riC e)) zs
 refine qa (xs:=xs) Pv ⟨none,none,none,none,none,none,[],rfl,fun _ _ _ e=>e,e1,jr⟩ ?_ ?_ ?_
 .rintro i σ G _ ⟨u2,u3,u4,u5,u6,u7,zs,rfl,sG,_⟩
  exact SqL.of (sG _ _ nox (s1 _ _ a1))
 .rintro i x σ G hx ⟨u2,u3,u4,u5,u6,u7,zs,rfl,sG,hG,b_⟩
  have hi:i < es.length:=by rw[cJ];exact (bI.mp hx).1
  have tk:TK H1 G:=fun b xs e=>sG b _ (jy e e1 (by intro z;cases z)) e
  have eG:Held G es[i].toD x:=tk.held ((kz a2 (by rw[bH,aK hi];rfl) hx).mono s1);have et:=qK (f:=fun e=>(kr sp).flatMap (riC e)) hi;have c1:=nP _ (dP hi);have og:=ip es[i];have Ca:=io i;generalize es[i]=e at *;obtain⟨a,x1,x2,x3,rfl,ha,h1,h2,h3⟩:=K1 eG;refine⟨a,_,rfl,SqT.of ha,rfl,x1,_,rfl,x2,_,rfl,x3,_,rfl,rfl,?_⟩;refine jG (σ':=[some (.ref B.o),some (.ref lt),some x1,some x2,some x3,u5,u6,u7]) rfl ?_;have tD:Same H G:=fun b o eb=>sG b o (jo eb aS) (s1 _ _ eb)
  refine⟨_,rfl,n,B,c,sp,rfl,I.same tD,by omega,aV,fun p hp=>(db p hp).dep,fun lq qz G1 s3 nL nM iQ=>?_⟩;have iR:=iQ.length;rw[aB]at iR;refine⟨lq,rfl,⟨_,SqL.of nM⟩,?_⟩;have tX:lq≠lt:=fun z=>by rw[z,hG]at nL;cases nL
  have BQ:=s3 _ _ hG;have Ex:=b_.mono s3;have h1:=h1.mono s3;have h2:=h2.mono s3;have h3:=h3.mono s3;let Pw:Nat->L2.St->Hp->Prop:=fun j σ G'=>∃u5 u6 u7 zs,σ=[some (.ref B.o),some (.ref lt),some x1,some x2,some x3,u5,u6,u7]/\(∀b o,b≠lt->G1 b=some o->G' b=some o)/\G' lt=some (.lst zs)/\HeldL G' (((es.take i).flatMap fun e=>(kr sp).flatMap (riC e))++((kr sp).take j).flatMap (riC e)) zs
  refine qa (xs:=qz) Pw ⟨u5,u6,u7,zs,rfl,fun _ _ _ e=>e,BQ,by rw[sK,DO,gh];exact Ex⟩ ?_ ?_ ?_
  .rintro j σ G' _ ⟨u5,u6,u7,zs,rfl,aI,_⟩
   exact SqL.of (aI _ _ tX nM)
  .rintro j y σ G' hy ⟨u5,u6,u7,zs,rfl,aI,dt,cI⟩
   have hj:j < (kr sp).length:=by rw[iR];exact (bI.mp hy).1
   have dm:TK G1 G':=fun b xs e=>aI b _ (jy e BQ (by intro z;cases z)) e
   have ci:Held G' (Ks (kr sp)[j]) y:=dm.held (kz iQ (by rw[bH,aK hj];rfl) hy);have cn:=dm.held h1;have du:=dm.held h2;have iY:=dm.held h3;have mw:=qK (f:=riC e) hj;have iW:=yX (dP hj);have c2:=db _ iW.1;have c3:=db _ iW.2;have B_:=og j;generalize (kr sp)[j]=pq at *;obtain⟨b,y1,y2,rfl,hb,k1,k2⟩:=jau ci;refine⟨b,_,rfl,SqT.of hb,rfl,y1,_,rfl,y2,_,rfl,rfl,?_⟩;refine jG (σ':=[some (.ref B.o),some (.ref lt),some x1,some x2,some x3,some y1,some y2,u7]) rfl ?_;refine⟨_,rfl,_,rfl,x3,y1,e.v,pq.1,rfl,iY,k1,fun oa Ga sa FJ=>?_⟩;refine⟨_,rfl,_,rfl,x3,y2,e.v,pq.2,rfl,iY.mono sa,k2.mono sa,fun vV Gb sb FH=>?_⟩;refine⟨oa,vV,_,_,rfl,FJ.mono sb,FH,fun tt Gc dD ET=>?_⟩;refine gQ ?_;have fH:=sa.trans (sb.trans dD);refine⟨_,rfl,.inl ⟨rfl,_,SqL.of (fH _ _ dt)⟩,?_⟩;refine⟨_,rfl,_,rfl,x1,y1,e.t,pq.1,rfl,cn.mono fH,k1.mono fH,fun ta Gd sd dn=>?_⟩;have tE:=fH.trans sd;refine⟨_,rfl,_,rfl,y1,y2,pq.1,pq.2,rfl,k1.mono tE,k2.mono tE,fun tb Ge se fm=>?_⟩;have mV:=tE.trans se;refine⟨_,rfl,_,rfl,y2,x2,pq.2,e.u,rfl,k2.mono mV,du.mono mV,fun tc Gf sf uT=>⟨sm rfl,fun lg eK=>?_⟩⟩;have sg:=jk eK (.lst [ta,tb,tc]);have eg:upd Gf lg (.lst [ta,tb,tc]) lg=some (.lst [ta,tb,tc]):=jf;have lZ:=(dn.mono se).mono (sf.trans sg);have lY:=fm.mono (sf.trans sg);have EV:=uT.mono sg;have ES:=ET.mono (sd.trans (se.trans (sf.trans sg)));have Ed:=mV.trans (sf.trans sg);generalize upd Gf lg (.lst [ta,tb,tc])=Gg at *;refine⟨_,rfl,sm rfl,fun lh vi=>?_⟩;have sh:=jk vi (.lst [tt]);have Ec:=Ed.trans sh;refine⟨lg,lh,[atM e.t pq.1,atM pq.1 pq.2,atM pq.2 e.u],[atM (j7 e.v pq.1) (j7 e.v pq.2)],_,_,rfl,sh _ _ eg,je (lZ.mono sh) (je (lY.mono sh) (je (EV.mono sh) jr)),jf,je (ES.mono sh) jr,fun g hg=>?_,by show 3<=1000;decide,by show 1<=1000;decide,fun l9 cv G9 s9 iU e9 h9=>?_⟩
   .rcases a_.mp hg with rfl | hg
    .exact c1.1.can c2
    rcases a_.mp hg with rfl | hg
    .exact c2.can c3
    .rw[aM.mp hg]
     exact c3.can c1.2
   have fi:=Ec.trans s9;have cL:=fi _ _ dt;have z9:cv.length<=1:=by
    rw[<- h9.length];exact cl e pq
   have zl:zs.length<=1400000:=by
    rw[<- cI.length,bz];omega
   refine⟨lt,l9,zs,cv,rfl,rfl,cL,e9,cD (j8 (by omega)),?_⟩;have kt:TK G9 (upd G9 lt (.lst (zs++cv))):=fun b ws eb=>jj (jy eb cL (by intro z;cases z)) eb
   refine⟨_,_,_,_,rfl,fun b o hb e=>jj hb (fi _ _ (aI b o hb e)),jf,?_⟩;rw[mw,<- bE];exact j4 (kt.heldL (cI.mono fi)) (kt.heldL h9)
  .rintro σ G' ⟨u5,u6,u7,zs,rfl,aI,dt,cI⟩
   rw[<- iR,cx]at cI;refine⟨_,_,_,_,_,_,zs,rfl,fun b o hb eb=>aI b o hb (s3 _ _ (sG b o hb eb)),dt,?_⟩;rw[et];exact cI
 .rintro σ G ⟨u2,u3,u4,u5,u6,u7,zs,rfl,sG,hG,b_⟩
  rw[<- cJ,cx]at b_;have sF:Same H G:=fun b o e=>sG _ _ (jo e aS) (s1 _ _ e)
  refine⟨_,rfl,q lt zs G sF aS hG (by rw[cT];exact b_) ?_⟩;have:=io es.length;rw[cx]at this;rw[cT];exact aG this (by decide)
end
abbrev qx:aA:=top 29
structure PuT where
 s:P2
 a:D
 v:P2
 b:D
def PuT.toD(e:PuT):D:=.tup [p2 e.s,e.a,p2 e.v,e.b]
def puS(e:PuT)(s:P2):List T3:=[atM (j7 e.b s) (j7 e.a s),atM (j7 e.a s) (j7 e.b s)]
def puC(e:PuT)(s:P2):List D:=if s=e.s then [] else qh [atM s e.s,atM e.s s] [atM (j7 e.b s) e.v,atM e.v (j7 e.b s)]++(qh [atM s (mor e.s (-1))] (puS e s)++qh [atM (mor e.s 1) s] (puS e s))
def puF(sp:List P2)(es:List PuT):List D:=es.flatMap fun e=>sp.flatMap (puC e)
def jeq(c:Cs)(sp:List P2)(ds:List D):Prop:=∃es:List PuT,c.l 3=es.map PuT.toD/\(∀e∈es,SpG e.s)/\ds=puF sp es
theorem SpG.mor{p:P2}(h:SpG p)(k:Int):SpG (mor p k):=h
section
variable {P:az}{w:aw}{K:aq}{mg:Str->Option ae}{base:aj}{C:ab}
theorem jgv{f:ab}{fd:aH}(T:ClsC K C)(F:Fun K "put_clauses" "put_clauses" qx f fd)(bt:Fn P w K mg base 1 "at_most" ["one","other"] zD)(cp:Fn P w K mg base 1 "more_than" ["stood_for","d"] qw)(ce:Fn P w K mg base 1 "entry_of" ["version","spot"] zU)(j_:Fn P w K mg base 2 "alike" ["one","other"] jbe)(d_:Fn P w K mg base 14 "guarded" ["guards","ties"] zT):FnOk P w K mg base CX0 15 f fd ["case"] (jaq C jeq):=by
 have sc:FnScope ["case","told","spot","ahead","value","behind","s","new","stays"] ["case"] (jm qx):=fQ;refine F.okZ sc (fun vs H Q E h=>?_) (fun au A outer s H vs Q E hr h=>?_)
 .obtain⟨n,B,c,sp,ds,rfl,_⟩:=h
  rfl
 have fk:(A.deeper (cr "put_clauses" (jm qx) s.heap.objs.size f au)).units+1+200 < cLine:=by have:=hr.un;omega
 obtain⟨n,B,c,sp,ds,rfl,I,hn,aV,db,⟨es,gE,nP,cT⟩,q⟩:=h;refine⟨_,(jd (jw (i:=1) sc.nd rfl oQ (jK jb))
   (jd (kL ee rfl (ko (jW (zpv 0) rfl)) (kH rfl (jz (jx (i:=2) sc.nd rfl oQ) (jz (jx (i:=3) sc.nd rfl oQ) (jz (jx (i:=4) sc.nd rfl oQ) (jz (jx (i:=5) sc.nd rfl oQ) ky))))) (ji (kL ee rfl (ko (jW (zpv 0) rfl)) (jx (i:=6) sc.nd rfl oQ) (ji (jN (jC (KJ 200 fk) (zpv 6) (zpv 2) (jH _)) (jd (jw (i:=7) sc.nd rfl oQ (jh ce hr (ja (zpv 5) (ja (zpv 6) jb))))
   (jd (jw (i:=8) sc.nd rfl oQ (jh j_ hr (ja (zpv 7) (ja (jh ce hr (ja (zpv 3) (ja (zpv 6) jb))) jb))))
   (jd (jA (kg bS gT gS kQ (zpv 1) (ja (jh d_ hr (ja (jK (ja (jh bt hr (ja (zpv 6) (ja (zpv 2) jb))) (ja (jh bt hr (ja (zpv 2) (ja (zpv 6) jb))) jb))) (ja (jh j_ hr (ja (zpv 7) (ja (zpv 4) jb))) jb))) jb)))
   (jd (jA (kg bS gT gS kQ (zpv 1) (ja (jh d_ hr (ja (jK (ja (jh bt hr (ja (zpv 6) (ja (jh cp hr (ja (zpv 2) (ja (jaY ja5 jc) jb))) jb))) jb)) (ja (zpv 8) jb))) jb)))
   (ji (jA (kg bS gT gS kQ (zpv 1) (ja (jh d_ hr (ja (jK (ja (jh bt hr (ja (jh cp hr (ja (zpv 2) (ja jc jb))) (ja (zpv 6) jb))) jb)) (ja (zpv 8) jb))) jb)))))))) jJ)))))
   (ji (jB (zpv 1))))),?_⟩
 refine jG (σ':=[some (.ref B.o),none,none,none,none,none,none,none,none]) rfl ?_;obtain⟨xs,a1,a2,a3⟩:=I.l 3 (by decide);rw[gE]at a2;have cJ:=a2.length;rw[aB]at cJ;obtain⟨ys,b1,b2,b3⟩:=I.l 2 (by decide);rw[aV]at b2;have iL:=b2.length;rw[aB]at iL;have cl:∀e s,(puC e s).length<=6:=fun e s=>by
  unfold puC;split
  .exact bF _
  .rw[bz,bz]
   have h1:=kM [atM s e.s,atM e.s s] [atM (j7 e.b s) e.v,atM e.v (j7 e.b s)];have h2:=kM [atM s (mor e.s (-1))] (puS e s);have h3:=kM [atM (mor e.s 1) s] (puS e s);have h4:(puS e s).length=2:=rfl;have h5:[atM (j7 e.b s) e.v,atM e.v (j7 e.b s)].length=2:=rfl;omega
 have ip:∀e j,((sp.take j).flatMap (puC e)).length<=660:=fun e j=>by
  refine aG (qW (m:=6) fun s _=>cl e s) ?_;rw[bZ];omega
 have io:∀i,((es.take i).flatMap fun e=>sp.flatMap (puC e)).length<=72600:=fun i=>by
  refine aG (qW (m:=660) fun e _=>?_) ?_
  .have:=ip e sp.length
   rw[cx]at this;exact this
  .have:(es.take i).length<=110:=by rw[bZ];omega
   exact aG (oy 660 this) (by decide)
 refine⟨sm rfl,fun lt aS=>?_⟩;refine gQ ?_;have s1:=jk aS (.lst []);have e1:upd H lt (.lst []) lt=some (.lst []):=jf;generalize upd H lt (.lst [])=H1 at *;refine⟨_,rfl,B.o,C,B.dx,_,_,rfl,s1 _ _ I.o,T.c,T.n7,rfl,B.l 3,rfl,⟨_,SqL.of (s1 _ _ a1)⟩,?_⟩;have nox:B.l 3≠lt:=jo a1 aS;have iJ:B.l 2≠lt:=jo b1 aS;have t_:B.o≠lt:=jo I.o aS;let Pv:Nat->L2.St->Hp->Prop:=fun i σ G=>∃u2 u3 u4 u5 u6 u7 u8 zs,σ=[some (.ref B.o),some (.ref lt),u2,u3,u4,u5,u6,u7,u8]/\(∀b o,b≠lt->H1 b=some o->G b=some o)/\G lt=some (.lst zs)/\HeldL G ((es.take i).flatMap fun e=>sp.flatMap (puC e)) zs
 refine qa (xs:=xs) Pv ⟨none,none,none,none,none,none,none,[],rfl,fun _ _ _ e=>e,e1,jr⟩ ?_ ?_ ?_
 .rintro i σ G _ ⟨u2,u3,u4,u5,u6,u7,u8,zs,rfl,sG,_⟩
  exact SqL.of (sG _ _ nox (s1 _ _ a1))
 .rintro i x σ G hx ⟨u2,u3,u4,u5,u6,u7,u8,zs,rfl,sG,hG,b_⟩
  have hi:i < es.length:=by rw[cJ];exact (bI.mp hx).1
  have tk:TK H1 G:=fun b xs e=>sG b _ (jy e e1 (by intro z;cases z)) e
  have eG:Held G es[i].toD x:=tk.held ((kz a2 (by rw[bH,aK hi];rfl) hx).mono s1);have et:=qK (f:=fun e=>sp.flatMap (puC e)) hi;have c1:=nP _ (dP hi);have og:=ip es[i];have Ca:=io i;generalize es[i]=e at *;obtain⟨a,x1,x2,x3,x4,rfl,ha,h1,h2,h3,h4⟩:=yf eG;refine⟨a,_,rfl,SqT.of ha,rfl,x1,_,rfl,x2,_,rfl,x3,_,rfl,x4,_,rfl,rfl,?_⟩;refine jG (σ':=[some (.ref B.o),some (.ref lt),some x1,some x2,some x3,some x4,u6,u7,u8]) rfl ?_;refine⟨_,rfl,B.o,C,B.dx,_,_,rfl,sG _ _ t_ (s1 _ _ I.o),T.c,T.n6,rfl,B.l 2,rfl,⟨_,SqL.of (sG _ _ iJ (s1 _ _ b1))⟩,?_⟩;let Pw:Nat->L2.St->Hp->Prop:=fun j σ G'=>∃u6 u7 u8 zs,σ=[some (.ref B.o),some (.ref lt),some x1,some x2,some x3,some x4,u6,u7,u8]/\(∀b o,b≠lt->G b=some o->G' b=some o)/\G' lt=some (.lst zs)/\HeldL G' (((es.take i).flatMap fun e=>sp.flatMap (puC e))++(sp.take j).flatMap (puC e)) zs
  refine qa (xs:=ys) Pw ⟨u6,u7,u8,zs,rfl,fun _ _ _ e=>e,hG,by rw[sK,DO,gh];exact b_⟩ ?_ ?_ ?_
  .rintro j σ G' _ ⟨u6,u7,u8,zs,rfl,aI,_⟩
   exact SqL.of (aI _ _ iJ (sG _ _ iJ (s1 _ _ b1)))
  .rintro j y σ G' hy ⟨u6,u7,u8,zs,rfl,aI,dt,cI⟩
   have hj:j < sp.length:=by rw[iL];exact (bI.mp hy).1
   have dm:TK G G':=fun b xs e=>aI b _ (jy e hG (by intro z;cases z)) e
   have ci:Held G' (p2 sp[j]) y:=dm.held (tk.held ((kz b2 (by rw[bH,aK hj];rfl) hy).mono s1));have cn:=dm.held h1;have du:=dm.held h2;have iY:=dm.held h3;have BR:=dm.held h4;have mw:=qK (f:=puC e) hj;have c2:=db _ (dP hj);have B_:=og j;generalize sp[j]=s at *;have zl:zs.length<=74000:=by
    rw[<- cI.length,bz];omega
   refine gQ ?_;have dS:=c2.dep;obtain⟨tx,u1,rfl,k1,k2⟩:=jF (show Held G' (.tup [s.1,.int s.2]) y from ci);obtain⟨ty,D2,rfl,k3,k4⟩:=jF (show Held G' (.tup [e.s.1,.int e.s.2]) x1 from cn);refine⟨_,rfl,_,rfl,tx,ty,u1,D2,_,_,rfl,rfl,k1,k3,?_,k2,k4,_,rfl,?_⟩
   .show max s.1.depth (max 0 0)<=200
    omega
   by_cases z:s=e.s
   .rw[MR (show [s.1,D.int s.2]=[e.s.1,D.int e.s.2] by rw[z])]
    refine ku ⟨_,_,_,zs,rfl,aI,dt,?_⟩;rw[mw];unfold puC;rw[MU z,gh];exact cI
   rw[MS (show ¬[s.1,D.int s.2]=[e.s.1,D.int e.s.2] from fun y=>z (jeI (MW D.tup y)))];refine kO ?_;clear k1 k2 k3 k4;refine⟨_,rfl,_,rfl,x4,.ref tx,e.b,s,rfl,BR,ci,fun nw Ga sa vf=>?_⟩;refine gQ ?_;refine⟨_,rfl,_,rfl,_,rfl,x2,.ref tx,e.a,s,rfl,du.mono sa,ci.mono sa,fun nb Gb sb A3=>⟨nw,nb,j7 e.b s,j7 e.a s,rfl,vf.mono sb,A3,fun ls xR bU Gc dD B3 B4 AM AL=>?_⟩⟩;refine gQ ?_;have Aj:ls≠lt:=fun z=>by rw[z,sb _ _ (sa _ _ dt)]at B3;cases B3
   have iH:=sa.trans (sb.trans dD);have vK:=iH _ _ dt;have oX:=ci.mono iH;have pK:=cn.mono iH;have BS:=iY.mono iH;have A2:=vf.mono (sb.trans dD);have xW:∀b o,b≠lt->G b=some o->Gc b=some o:=fun b o hb eb=>iH _ _ (aI b o hb eb)
   have At:=cI.mono iH;clear sa sb dD iH ci cn du iY BR vf A3 cI aI dt dm;refine⟨_,rfl,.inl ⟨rfl,_,SqL.of vK⟩,?_⟩;refine⟨_,rfl,_,rfl,.ref tx,.ref ty,s,e.s,rfl,oX,pK,fun ta Gd sd dn=>?_⟩;refine⟨_,rfl,_,rfl,.ref ty,.ref tx,e.s,s,rfl,pK.mono sd,oX.mono sd,fun tb Ge se fm=>⟨sm rfl,fun lg eK=>?_⟩⟩;have sg:=jk eK (.lst [ta,tb]);have eg:upd Ge lg (.lst [ta,tb]) lg=some (.lst [ta,tb]):=jf;have lZ:=dn.mono (se.trans sg);have lY:=fm.mono sg;generalize upd Ge lg (.lst [ta,tb])=Gg at *;have oR:=sd.trans (se.trans sg);refine⟨_,rfl,_,rfl,nw,x3,j7 e.b s,e.v,rfl,A2.mono oR,BS.mono oR,fun lh w1 w2 Gh sh _ B5 eJ cR=>?_⟩;refine⟨lg,lh,[atM s e.s,atM e.s s],[atM (j7 e.b s) e.v,atM e.v (j7 e.b s)],_,_,rfl,sh _ _ eg,je (lZ.mono sh) (je (lY.mono sh) jr),B5,je eJ (je cR jr),fun g hg=>?_,by show 2<=1000;decide,by show 2<=1000;decide,fun l9 cv G9 s9 iU e9 h9=>?_⟩
   .rcases a_.mp hg with rfl | hg
    .exact c2.can c1
    .rw[aM.mp hg]
     exact c1.can c2
   have cm:=oR.trans (sh.trans s9);have cL:=cm _ _ vK;have z9:cv.length<=2:=by
    rw[<- h9.length];exact kM _ _
   refine⟨lt,l9,zs,cv,rfl,rfl,cL,e9,cD (j8 (by omega)),?_⟩;have kt:TK G9 (upd G9 lt (.lst (zs++cv))):=fun b ws eb=>jj (jy eb cL (by intro z;cases z)) eb
   have uJ:=kt.held (oX.mono cm);have vP:=kt.held (pK.mono cm);have vX:upd G9 lt (.lst (zs++cv)) ls=some (.lst [xR,bU]):=jj Aj (cm _ _ B4);have uZ:=kt.held (AM.mono cm);have uY:=kt.held (AL.mono cm);have vL:upd G9 lt (.lst (zs++cv)) lt=some (.lst (zs++cv)):=jf;have Au:=j4 (kt.heldL (At.mono cm)) (kt.heldL h9);have xX:∀b o,b≠lt->G b=some o->upd G9 lt (.lst (zs++cv)) b=some o:=fun b o hb eb=>jj hb (cm _ _ (xW b o hb eb))
   generalize upd G9 lt (.lst (zs++cv))=GA at *;clear kt cm s9 sh oR sg se sd cL e9 h9 iU eJ cR B5 eg lZ lY dn fm eK oX pK BS A2 vK At xW B4 AM AL;have zA:(zs++cv).length<=74002:=by rw[bz];omega
   generalize zs++cv=za at *;refine⟨_,rfl,.inl ⟨rfl,_,SqL.of vL⟩,?_⟩;refine⟨_,rfl,_,rfl,1,rfl,.ref ty,-1,e.s,rfl,vP,fun s_ Gd sd ph=>?_⟩;refine⟨.ref tx,s_,s,mor e.s (-1),rfl,uJ.mono sd,ph,fun ta Ge se dn=>⟨sm rfl,fun lg eK=>?_⟩⟩;have sg:=jk eK (.lst [ta]);have fI:=sd.trans (se.trans sg);refine⟨_,rfl,lg,ls,[atM s (mor e.s (-1))],puS e s,_,_,rfl,jf,je (dn.mono sg) jr,fI _ _ vX,je (uZ.mono fI) (je (uY.mono fI) jr),fun g hg=>?_,by show 1<=1000;decide,by show 2<=1000;decide,fun l9 fD G9 s9 iU e9 h9=>?_⟩
   .rw[aM.mp hg]
    exact c2.can (c1.mor _)
   have cm:=fI.trans s9;have cL:=cm _ _ vL;have z8:fD.length<=2:=by
    rw[<- h9.length];exact kM _ _
   refine⟨lt,l9,za,fD,rfl,rfl,cL,e9,cD (j8 (by omega)),?_⟩;have kt:TK G9 (upd G9 lt (.lst (za++fD))):=fun b ws eb=>jj (jy eb cL (by intro z;cases z)) eb
   have EC:=kt.held (uJ.mono cm);have GK:=kt.held (vP.mono cm);have GZ:upd G9 lt (.lst (za++fD)) ls=some (.lst [xR,bU]):=jj Aj (cm _ _ vX);have E5:=kt.held (uZ.mono cm);have E4:=kt.held (uY.mono cm);have BN:upd G9 lt (.lst (za++fD)) lt=some (.lst (za++fD)):=jf;have Ey:=j4 (kt.heldL (Au.mono cm)) (kt.heldL h9);have Eb:∀b o,b≠lt->G b=some o->upd G9 lt (.lst (za++fD)) b=some o:=fun b o hb eb=>jj hb (cm _ _ (xX b o hb eb))
   generalize upd G9 lt (.lst (za++fD))=GB at *;clear kt cm s9 fI sg se sd cL e9 h9 iU dn ph eK uJ vP vL Au xX vX uZ uY;have zB:(za++fD).length<=74004:=by rw[bz];omega
   generalize za++fD=zb at *;refine⟨_,rfl,.inl ⟨rfl,_,SqL.of BN⟩,?_⟩;refine⟨_,rfl,.ref ty,1,e.s,rfl,GK,fun s_ Gd sd ph=>?_⟩;refine⟨_,rfl,s_,.ref tx,mor e.s 1,s,rfl,ph,EC.mono sd,fun ta Ge se dn=>⟨sm rfl,fun lg eK=>?_⟩⟩;have sg:=jk eK (.lst [ta]);have fI:=sd.trans (se.trans sg);refine⟨_,rfl,lg,ls,[atM (mor e.s 1) s],puS e s,_,_,rfl,jf,je (dn.mono sg) jr,fI _ _ GZ,je (E5.mono fI) (je (E4.mono fI) jr),fun g hg=>?_,by show 1<=1000;decide,by show 2<=1000;decide,fun l9 sQ G9 s9 iU e9 h9=>?_⟩
   .rw[aM.mp hg]
    exact (c1.mor _).can c2
   have cm:=fI.trans s9;have cL:=cm _ _ BN;have z7:sQ.length<=2:=by
    rw[<- h9.length];exact kM _ _
   refine⟨lt,l9,zb,sQ,rfl,rfl,cL,e9,cD (j8 (by omega)),?_⟩;have kt:TK G9 (upd G9 lt (.lst (zb++sQ))):=fun b ws eb=>jj (jy eb cL (by intro z;cases z)) eb
   refine⟨_,_,_,_,rfl,fun b o hb eb=>jj hb (cm _ _ (Eb b o hb eb)),jf,?_⟩;rw[mw];unfold puC;rw[MT z,<- bE,<- bE,<- bE];exact j4 (kt.heldL (Ey.mono cm)) (kt.heldL h9)
  .rintro σ G' ⟨u6,u7,u8,zs,rfl,aI,dt,cI⟩
   rw[<- iL,cx]at cI;refine⟨_,_,_,_,_,_,_,zs,rfl,fun b o hb eb=>aI b o hb (sG b o hb eb),dt,?_⟩;rw[et];exact cI
 .rintro σ G ⟨u2,u3,u4,u5,u6,u7,u8,zs,rfl,sG,hG,b_⟩
  rw[<- cJ,cx]at b_;have sF:Same H G:=fun b o e=>sG _ _ (jo e aS) (s1 _ _ e)
  refine⟨_,rfl,q lt zs G sF aS hG (by rw[cT];exact b_) ?_⟩;have:=io es.length;rw[cx]at this;rw[cT];exact aG this (by decide)
end
abbrev KI:aA:=top 8
def jg4(ds es:List D):Prop:=∃ps qs:List DA,ps.map (·.1)=ds/\qs.Perm ps/\(qs.map (·.1)).Pairwise (fun a b=>dLt b a=false)/\es=(kU qs).map (·.1)
def Je(R:List Rw)(k:Cl)(es:List D):Cs:={ qq R k with l:=fun i=>if i=2 then es else (qq R k).l i }
def jhv(R:List Rw)(k:Cl)(es ds:List D):Prop:=∃(sp:List P2) (d1 d2 d3 d4:List D),es=sp.map p2/\(∀p∈sp,SpG p)/\jbj (Je R k es) sp d1/\jeq (Je R k es) sp d2/\jer (Je R k es) sp d3/\jep (Je R k es) sp d4/\ds=((d1++d2)++d3)++d4
def jjh(R:List Rw)(k:Cl):Prop:=SortT ((qq R k).l 2) 200/\SortT ((qq R k).l 1) 200/\∀es,jg3 R k es->∃ds,jhv R k es ds/\SortT ds 200
def jec(o1 o2:ab):Sp:=fun vs H Q _=>∃(a:ab) (R:List Rw) (rs:List V) (k:Cl) (v:V),vs=[.ref a,v]/\H a=some (.lst rs)/\HeldL H (R.map Rw.toD) rs/\R.length<=12/\Own H o1 o2/\Held H k.toD v/\jjh R k/\
 ∀(t la lb:ab) (es ts ds cs:List D) (xs ys:List V) (H':Hp),Same H H'->H la=none->H lb=none->la≠lb->H' t=some (.tup [.ref la,.ref lb])->jg3 R k es->jg4 ((qq R k).l 1) ts->H' la=some (.lst xs)->HeldL H' ts xs->jhv R k es ds->jg4 ds cs->H' lb=some (.lst ys)->HeldL H' cs ys->Q (.ref t) H'
section
variable {P:az}{w:aw}{K:aq}{mg:Str->Option ae}{base:aj}{C o1 o2:ab}
theorem jc8{f:ab}{fd:aH}(T:ClsC K C)(F:Fun K "booked" "booked" KI f fd)(wy:Fn P w K mg base 15 "gathered" ["rows","goal"] (jd7 C o1 o2))(wl:Fn P w K mg base 15 "version_clauses" ["case"] (jaq C jbj))(wv:Fn P w K mg base 15 "put_clauses" ["case"] (jaq C jeq))(wC:Fn P w K mg base 15 "each_clauses" ["case"] (jaq C jer))(wu:Fn P w K mg base 15 "rise_clauses" ["case"] (jaq C jep))(i8:Fn P w K mg base 14 "each_once" ["things"] jbd):FnOk P w K mg base CX0 16 f fd ["rows","goal"] (jec o1 o2):=by
 have sc:FnScope ["rows","goal","case","found"] ["rows","goal"] (jm KI):=fQ;refine F.okZ sc (fun vs H Q E h=>?_) (fun au A outer s H vs Q E hr h=>?_)
 .obtain⟨a,R,rs,k,v,rfl,_⟩:=h
  rfl
 obtain⟨a,R,rs,k,v,rfl,ha,cA,hl,ho,hv,⟨xT,mT,nR⟩,q⟩:=h;refine⟨_,(jd (jw (i:=2) sc.nd rfl oQ (jh wy hr (ja (zpv 0) (ja (zpv 1) jb))))
   (jd (jw (i:=3) sc.nd rfl oQ (js ZH (js ZH (js ZH (jh wl hr (ja (zpv 2) jb)) (jh wv hr (ja (zpv 2) jb))) (jh wC hr (ja (zpv 2) jb))) (jh wu hr (ja (zpv 2) jb))))
   (ji (jB (jR (ja (jh i8 hr (ja (jW (zpv 2) rfl) jb)) (ja (jh i8 hr (ja (zpv 3) jb)) jb))))))),?_⟩
 refine jG (σ':=[some (.ref a),some v,none,none]) rfl ?_;refine⟨_,rfl,_,rfl,a,R,rs,k,v,rfl,ha,cA,by omega,ho,hv,xT,fun B ps qs H1 s1 hn p1 hp hs I=>?_⟩;refine gQ ?_;have aV:jg3 R k ((kU qs).map (·.1)):=⟨ps,qs,p1,hp,hs,rfl⟩
 have I':CsAt C (8 * R.length+10) B (Je R k ((kU qs).map (·.1))) H1:=I;obtain⟨ds,⟨sp,d1,d2,d3,d4,B7,hG,g1,g2,g3,g4,rfl⟩,xV⟩:=nR _ aV;have pz:8 * R.length+10<=110:=by omega
 have el2:(Je R k ((kU qs).map (·.1))).l 2=sp.map p2:=B7;generalize (kU qs).map (·.1)=es at *;refine⟨_,rfl,_,B,Je R k es,sp,d1,rfl,I',pz,el2,hG,g1,fun l1 z1 H2 s2 n2 e2 h2 b1=>?_⟩;refine⟨_,rfl,_,B,Je R k es,sp,d2,rfl,I'.same s2,pz,el2,hG,g2,fun l2 z2 H3 s3 n3 e3 h3 b2=>?_⟩;have uG:=h2.length;have Av:=h3.length;refine⟨l1,l2,z1,z2,rfl,rfl,s3 _ _ e2,e3,cD (j8 (by omega)),fun l3 vn=>?_⟩;have s4:=jk vn (.lst (z1++z2));have e4:upd H3 l3 (.lst (z1++z2)) l3=some (.lst (z1++z2)):=jf;have h4:=j4 ((h2.mono s3).mono s4) (h3.mono s4);generalize upd H3 l3 (.lst (z1++z2))=H4 at *;have fj:=s2.trans (s3.trans s4);refine⟨_,rfl,_,B,Je R k es,sp,d3,rfl,I'.same fj,pz,el2,hG,g3,fun l5 z3 H5 s5 n5 e5 h5 b3=>?_⟩;have hz3:=h5.length;have GJ:=j4 (h4.mono s5) h5;refine⟨l3,l5,_,z3,rfl,rfl,s5 _ _ e4,e5,cD (j8 (by rw[bz];omega)),fun l6 Ft=>?_⟩;have s6:=jk Ft (.lst (z1++z2++z3));have e6:upd H5 l6 (.lst (z1++z2++z3)) l6=some (.lst (z1++z2++z3)):=jf;have h6:=GJ.mono s6;generalize upd H5 l6 (.lst (z1++z2++z3))=H6 at *;have x9:=fj.trans (s5.trans s6);refine⟨_,rfl,_,B,Je R k es,sp,d4,rfl,I'.same x9,pz,el2,hG,g4,fun l7 z4 H7 s7 n7 e7 h7 b4=>?_⟩;have hz4:=h7.length;have GI:=j4 (h6.mono s7) h7;refine⟨l6,l7,_,z4,rfl,rfl,s7 _ _ e6,e7,cD (j8 (by rw[bz,bz];omega)),fun l8 vk=>?_⟩;have s8:=jk vk (.lst (z1++z2++z3++z4));have e8:upd H7 l8 (.lst (z1++z2++z3++z4)) l8=some (.lst (z1++z2++z3++z4)):=jf;have h8:=GI.mono s8;generalize upd H7 l8 (.lst (z1++z2++z3++z4))=H8 at *;have mZ:=x9.trans (s7.trans s8);have uw:(z1++z2++z3++z4).length<=11000000:=by rw[bz,bz,bz];omega
 generalize z1++z2++z3++z4=zz at *;refine gQ ?_;obtain⟨ts,t1,t2,D8⟩:=(I'.same mZ).l 1 (by decide);have t2:HeldL H8 ((qq R k).l 1) ts:=t2;obtain⟨pt,p3,rfl,p4⟩:=qV t2 mT.tup;refine⟨_,rfl,B.o,C,B.dx,_,_,rfl,mZ _ _ I.o,T.c,T.n5,rfl,B.l 1,pt,rfl,t1,p4,by rw[p3];exact mT,?_,fun la qt H9 s9 n9 w1 w2 w3=>?_⟩
 .rw[aB,aB]at D8
  omega
 obtain⟨pc,c1,c2,c3⟩:=qV h8 xV.tup;rw[c2]at e8 uw;rw[aB,aB]at uw;refine⟨_,rfl,l8,pc,rfl,s9 _ _ e8,fun q hq=>(c3 q hq).mono s9,by rw[c1];exact xV,uw,fun lb qc i6 cQ Am w4 w5 w6=>⟨sm rfl,fun t ht=>?_⟩⟩;have br:=jk ht (.tup [.ref la,.ref lb]);have sA:=s1.trans (mZ.trans (s9.trans (cQ.trans br)));refine q t la lb es _ _ _ _ _ _ sA ((s1.trans mZ).free n9) ((s1.trans (mZ.trans s9)).free Am) (jo w3 Am) jf aV ⟨pt,qt,p3,w1,w2,rfl⟩ (br _ _ (cQ _ _ w3)) ((qU fun p hp=>p4 p (w1.mem_iff.mp (yc qt p hp))).mono (s9.trans (cQ.trans br))) ⟨sp,d1,d2,d3,d4,B7,hG,g1,g2,g3,g4,rfl⟩ ⟨pc,qc,c1,w4,w5,rfl⟩ (br _ _ w6) ((qU fun p hp=>c3 p (w4.mem_iff.mp (yc qc p hp))).mono (s9.trans (cQ.trans br)))
end
def TiG(t:T3):Prop:=Src 50 t.1/\Src 50 t.2.1
def jdy(d:D):Prop:=∃ks t,d=clD ks t/\(∀k∈ks,TiG k)/\TiG t
theorem jaV:∀{xs ys:List D},(∀x∈xs,∀y∈ys,Cmp x y)->CmpL xs ys
 | [],ys,_=>kP ys
 | x :: xs,[],_=>by unfold CmpL;trivial
 | x :: xs,y :: ys,h=>kB (h x (bC ..) y (bC ..)) (jaV fun a ha b hb=>h a (bG _ ha) b (bG _ hb))
theorem jba{t u:T3}(h:TiG t)(k:TiG u):Cmp (t3 t) (t3 u):=yA (kB (Zt h.1 k.1) (kB (Zt h.2 k.2) (kB (Zf _ _) (kP _))))
theorem ja9{t:T3}(h:TiG t):(t3 t).depth<=110:=by
 have h1:=h.1.ok.2.1;have h2:=h.2.ok.2.1;show max t.1.depth (max t.2.1.depth (max 0 0))+1<=110;omega
theorem jal:∀{ks:List T3},(∀k∈ks,TiG k)->D.depthL (ks.map t3)<=110
 | [],_=>bF _
 | k :: ks,h=>Nat.max_le.mpr ⟨ja9 (h k (bC ..)),jal fun x hx=>h x (bG _ hx)⟩
theorem jcR{ds:List D}(h:∀d∈ds,∃t,d=t3 t/\TiG t):SortT ds 200:=by
 refine⟨⟨fun d hd e he=>?_,fun d hd=>?_,fun d hd=>?_⟩,fun d hd=>?_⟩
 .obtain⟨t,rfl,g⟩:=h d hd
  obtain⟨u,rfl,k⟩:=h e he;exact jba g k
 .obtain⟨t,rfl,g⟩:=h d hd
  exact aG (ja9 g) (by decide)
 .obtain⟨t,rfl,g⟩:=h d hd
  exact⟨_,rfl⟩
 .obtain⟨t,rfl,g⟩:=h d hd
  obtain⟨es,e⟩:=KC g.1;exact⟨es,[t.2.1,.int t.2.2],by unfold t3;rw[e]⟩
theorem jfn{ds:List D}(h:∀d∈ds,jdy d):SortT ds 200:=by
 refine⟨⟨fun d hd e he=>?_,fun d hd=>?_,fun d hd=>?_⟩,fun d hd=>?_⟩
 .obtain⟨ks,t,rfl,g1,g2⟩:=h d hd
  obtain⟨ks',u,rfl,k1,k2⟩:=h e he;refine yA (kB (yA (jaV fun x hx y hy=>?_)) (kB (jba g2 k2) (kP _)));obtain⟨a,ha,rfl⟩:=cc.mp hx;obtain⟨b,hb,rfl⟩:=cc.mp hy;exact jba (g1 a ha) (k1 b hb)
 .obtain⟨ks,t,rfl,g1,g2⟩:=h d hd
  have h1:=jal g1;have h2:=ja9 g2;show max (D.depthL (ks.map t3)+1) (max (t3 t).depth 0)+1<=200;omega
 .obtain⟨ks,t,rfl,g1,g2⟩:=h d hd
  exact⟨_,rfl⟩
 .obtain⟨ks,t,rfl,g1,g2⟩:=h d hd
  exact⟨ks.map t3,[t3 t],rfl⟩
theorem qJ{gs ts:List T3}{d:D}(h:d∈qh gs ts)(hg:∀g∈gs,TiG g)(ht:∀t∈ts,TiG t):jdy d:=by
 unfold qh at h;split at h
 .cases h
 .obtain⟨t,h1,rfl⟩:=cc.mp h
  exact⟨_,t,rfl,fun k hk=>hg k (xz.mp hk).1,ht t h1⟩
theorem Gs.spg{m:Nat}{p:P2}(h:Gs m p)(hm:m<=80):SpG p:=by
 obtain⟨es,e⟩:=KC h.1;have:=h.1.ok.2.1;rw[e]at this;have:D.depthL es+1<=2 * m+1:=this;exact⟨es,e,by omega⟩
theorem Gs.ti{m n:Nat}{p q:P2}(h:Gs m p)(k:Gs n q)(hm:m<=50)(hn:n<=50):TiG (atM p q):=⟨h.1.mono hm,k.1.mono hn⟩
theorem Gs.ent{m:Nat}{p:P2}{v:D}(hv:Ver v)(h:Gs m p)(hm:m<=85):Gs (m+1) (j7 v p):=⟨.ent hv h.1 (h.gp (by omega)).2,bF _⟩
def BoG:Sum D P2->Prop
 | .inl v=>Ver v
 | .inr p=>Gs 40 p
def PuG(e:PuT):Prop:=Gs 40 e.s/\Ver e.a/\Gs 40 e.v/\Ver e.b
def EaG(e:EaT):Prop:=Gs 40 e.t/\Gs 40 e.u/\Ver e.v/\BoG e.b
def RiG(e:RiT):Prop:=Gs 40 e.t/\Gs 40 e.u/\Ver e.v
structure TG(m:Nat)(c:Cs):Prop where
 s:St m c
 na:∀r∈c.na,Wd r
 l0:∀d∈c.l 0,Ver d
 l1:∀d∈c.l 1,∃t,d=t3 t/\TiG t
 l2:∀d∈c.l 2,∃p:P2,d=p2 p/\Gs 40 p
 l3:∀d∈c.l 3,∃e:PuT,d=e.toD/\PuG e
 l4:∀d∈c.l 4,∃e:EaT,d=e.toD/\EaG e
 l5:∀d∈c.l 5,∃e:RiT,d=e.toD/\RiG e
theorem zv{α:Type}{p:α->Prop}{l l':List α}(h:∀x∈l,p x)(k:∀x∈l',p x):∀x∈l++l',p x:=fun x hx=>(bx.mp hx).elim (h x) (k x)
theorem qP{α:Type}{p:α->Prop}{a:α}(h:p a):∀x∈[a],p x:=fun x hx=>by rw[aM.mp hx];exact h
theorem TG.mono{m k:Nat}{c:Cs}(G:TG m c)(h:m<=k):TG k c:=⟨⟨fun x p e=>(G.s.nu x p e).mono h,G.s.ve⟩,G.na,G.l0,G.l1,G.l2,G.l3,G.l4,G.l5⟩
theorem TG.name{m:Nat}{c:Cs}(G:TG m c){r:Str}(hr:Wd r):TG m (c.name r):=⟨G.s.congr rfl rfl,fun x hx=>by
 have hx:x∈jfw c.na r:=hx;unfold jfw at hx;split at hx
 .exact G.na x hx
 .exact zv G.na (qP hr) x hx,G.l0,G.l1,G.l2,G.l3,G.l4,G.l5⟩
theorem TG.add0{m:Nat}{c:Cs}(G:TG m c){d:D}(h:Ver d):TG m (c.add 0 [d]):=⟨G.s.congr rfl rfl,G.na,zv G.l0 (qP h),G.l1,G.l2,G.l3,G.l4,G.l5⟩
theorem TG.add1{m:Nat}{c:Cs}(G:TG m c){ds:List D}(h:∀d∈ds,∃t,d=t3 t/\TiG t):TG m (c.add 1 ds):=⟨G.s.congr rfl rfl,G.na,G.l0,zv G.l1 h,G.l2,G.l3,G.l4,G.l5⟩
theorem TG.add2{m:Nat}{c:Cs}(G:TG m c){p:P2}(h:Gs 40 p):TG m (c.add 2 [p2 p]):=⟨G.s.congr rfl rfl,G.na,G.l0,G.l1,zv G.l2 (qP ⟨p,rfl,h⟩),G.l3,G.l4,G.l5⟩
theorem TG.add3{m:Nat}{c:Cs}(G:TG m c){e:PuT}(h:PuG e):TG m (c.add 3 [e.toD]):=⟨G.s.congr rfl rfl,G.na,G.l0,G.l1,G.l2,zv G.l3 (qP ⟨e,rfl,h⟩),G.l4,G.l5⟩
theorem TG.add4{m:Nat}{c:Cs}(G:TG m c){e:EaT}(h:EaG e):TG m (c.add 4 [e.toD]):=⟨G.s.congr rfl rfl,G.na,G.l0,G.l1,G.l2,G.l3,zv G.l4 (qP ⟨e,rfl,h⟩),G.l5⟩
theorem TG.add5{m:Nat}{c:Cs}(G:TG m c){e:RiT}(h:RiG e):TG m (c.add 5 [e.toD]):=⟨G.s.congr rfl rfl,G.na,G.l0,G.l1,G.l2,G.l3,G.l4,zv G.l5 (qP ⟨e,rfl,h⟩)⟩
theorem TG.setn{m:Nat}{c:Cs}(G:TG m c){x:Str}{p:P2}(h:Gs m p):TG m (c.setn x p):=⟨⟨fun y q e=>by
 have e:zV c.nu x p y=some q:=e;unfold zV at e;split at e
 .cases e;exact h
 .exact G.s.nu y q e,G.s.ve⟩,G.na,G.l0,G.l1,G.l2,G.l3,G.l4,G.l5⟩
theorem TG.setv{m:Nat}{c:Cs}(G:TG m c){r:Str}{d:D}(h:Ver d):TG m (c.setv r d):=⟨⟨G.s.nu,fun y q e=>by
 have e:zV c.ve r d y=some q:=e;unfold zV at e;split at e
 .cases e;exact h
 .exact G.s.ve y q e⟩,G.na,G.l0,G.l1,G.l2,G.l3,G.l4,G.l5⟩
theorem TG.stand{m:Nat}{c:Cs}(G:TG m c)(hm:m<=35){t:Tm}(h:TmG t):TG m (c.stand t).2:=by
 cases t with
 | is x=>exact G
 | at_ r x d=>exact (G.add2 ((G.s.spot h.2.1 h.2.2).mono (by omega))).name h.1
theorem TG.body{m:Nat}{c:Cs}(G:TG m c){r:Str}(hr:Wd r)(way:Str){b:Bd}(hb:BdG b)(k:Int):TG m (c.body r way b k).2:=by
 cases b with
 | is x=>exact G.name hr
 | row q=>exact (G.name hr).name hb
theorem TG.least{m:Nat}{c:Cs}(G:TG m c)(hm:m<=35){a b:Tm}(h:TmG a)(k:TmG b)(j:Int)(hj:j.natAbs<=10 ^ 20):TG m (c.least a b j).2/\∃t,(c.least a b j).1=t3 t/\TiG t:=by
 have G1:=G.stand hm k;refine⟨G1.stand hm h,atM (mor (c.stand b).1 j) ((c.stand b).2.stand a).1,rfl,?_⟩;exact ((G.s.stand (by omega) k).mor hj).ti (G1.s.stand (by omega) h) (by omega) (by omega)
theorem TG.know{m:Nat}{c:Cs}(G:TG m c)(hm:m<=35){k:Cl}(h:ClG k):TG m (c.know k):=by
 cases k with
 | least a b j=>
  obtain⟨G1,t⟩:=G.least hm h.1 h.2.1 j (by have:=h.2.2;omega);exact G1.add1 (qP t)
 | each t td u ud r way b j=>
  obtain⟨g1,g2,g3,g4,g5,g6,g7⟩:=h;have Gt:=(G.s.spot g1 g2).mono (show m+1<=40 by omega);have Gu:=(G.s.spot g3 g4).mono (show m+1<=40 by omega);have G2:=(G.add2 Gt).body g5 way g6 j
  cases b with
  | is x=>exact G2.add4 (e:=⟨c.spot t td,c.spot u ud,c.ver r,way,.inr (c.num x),j⟩) ⟨Gt,Gu,G.s.ver g5,(G.s.num g6).mono (by omega)⟩
  | row q=>exact G2.add4 (e:=⟨c.spot t td,c.spot u ud,c.ver r,way,.inl (c.ver q),j⟩) ⟨Gt,Gu,G.s.ver g5,G.s.ver g6⟩
 | rise t td u ud r=>
  obtain⟨g1,g2,g3,g4,g5⟩:=h;have Gt:=(G.s.spot g1 g2).mono (show m+1<=40 by omega);have Gu:=(G.s.spot g3 g4).mono (show m+1<=40 by omega);exact ((G.add2 Gt).name g5).add5 (e:=⟨c.spot t td,c.spot u ud,c.ver r⟩) ⟨Gt,Gu,G.s.ver g5⟩
theorem jfH{p:D->Prop}{a b:D}(h:p a)(k:p b):∀d∈[a,b],p d:=fun d hd=>by
 rcases a_.mp hd with rfl | hd
 .exact h
 .rw[aM.mp hd];exact k
theorem TG.deny{m:Nat}{c:Cs}(G:TG m c)(hm:m<=35){k:Cl}(h:ClG k):TG m (c.deny k):=by
 have O0:=ZG 0 (by decide) 40;have O1:=ZG 1 (by decide) 40
 cases k with
 | least a b j=>
  obtain⟨G1,t⟩:=G.least hm h.2.1 h.1 (1 - j) (by have:=h.2.2;omega);exact G1.add1 (qP t)
 | each t td u ud r way b j=>
  obtain⟨g1,g2,g3,g4,g5,g6,g7⟩:=h;have Gt:=(G.s.spot g1 g2).mono (show m+1<=40 by omega);have Gu:=(G.s.spot g3 g4).mono (show m+1<=40 by omega);have hj:j.natAbs<=10 ^ 20:=by omega
  refine ((G.body g5 way g6 j).add2 O0).add1 fun d hd=>?_
  have en:=Gs.ent (G.s.ver g5) O0 (by decide);have bn:∃n,n<=48/\Gs n (c.bnd b (jS 0)):=by
   cases b with
   | is x=>exact⟨m,by omega,G.s.num g6⟩
   | row q=>exact⟨41,by decide,Gs.ent (G.s.ver g6) O0 (by decide)⟩
  obtain⟨n,hn,bn⟩:=bn;rcases a_.mp hd with rfl | hd
  .exact⟨atM (c.spot t td) (jS 0),rfl,Gt.ti O0 (by decide) (by decide)⟩
  rcases a_.mp hd with rfl | hd
  .exact⟨atM (jS 0) (c.spot u ud),rfl,O0.ti Gu (by decide) (by decide)⟩
  .rw[aM.mp hd]
   unfold qY;split
   .exact⟨((j7 (c.ver r) (jS 0)).1,(mor (c.bnd b (jS 0)) j).1,-1 - ((j7 (c.ver r) (jS 0)).2 - (mor (c.bnd b (jS 0)) j).2)),rfl,(en.1.mono (by decide)),((bn.mor hj).1.mono (by omega))⟩
   .exact⟨((mor (c.bnd b (jS 0)) j).1,(j7 (c.ver r) (jS 0)).1,-1 - ((mor (c.bnd b (jS 0)) j).2 - (j7 (c.ver r) (jS 0)).2)),rfl,((bn.mor hj).1.mono (by omega)),(en.1.mono (by decide))⟩
 | rise t td u ud r=>
  obtain⟨g1,g2,g3,g4,g5⟩:=h;have Gt:=(G.s.spot g1 g2).mono (show m+1<=40 by omega);have Gu:=(G.s.spot g3 g4).mono (show m+1<=40 by omega);have GY:=Gs.ent (G.s.ver g5) O0 (by decide);have oa:=Gs.ent (G.s.ver g5) O1 (by decide);refine TG.add1 (c:=(c.name r).add 2 [p2 (jS 0),p2 (jS 1)]) ?_ fun d hd=>?_
  .have G1:=((G.name g5).add2 O0).add2 O1
   refine⟨G.s.congr rfl rfl,G1.na,G.l0,G.l1,fun d hd=>G1.l2 d ?_,G.l3,G.l4,G.l5⟩;have hd:d∈c.l 2++[p2 (jS 0),p2 (jS 1)]:=hd;show d∈c.l 2++[p2 (jS 0)]++[p2 (jS 1)];rw[bE];exact hd
  rcases a_.mp hd with rfl | hd
  .exact⟨atM (c.spot t td) (jS 0),rfl,Gt.ti O0 (by decide) (by decide)⟩
  rcases a_.mp hd with rfl | hd
  .exact⟨atM (jS 0) (jS 1),rfl,O0.ti O1 (by decide) (by decide)⟩
  rcases a_.mp hd with rfl | hd
  .exact⟨atM (jS 1) (c.spot u ud),rfl,O1.ti Gu (by decide) (by decide)⟩
  .rw[aM.mp hd]
   exact⟨atM (mor (j7 (c.ver r) (jS 1)) 1) (j7 (c.ver r) (jS 0)),rfl,(oa.mor (d:=1) (by decide)).ti GY (by decide) (by decide)⟩
theorem TG.take{m:Nat}{c:Cs}(G:TG m c)(hm:m<=35){n:Nat}(hn:n<=1000){r:Rw}(h:RwG r):TG (m+2) (c.take n r):=by
 cases r with
 | set x t k=>exact ((G.stand hm h.2.1).mono (by omega)).setn ((G.s.stand (by omega) h.2.1).mor h.2.2)
 | put r x d t k=>
  obtain⟨g1,g2,g3,g4,g5⟩:=h;have wf:=(G.s.spot g2 g3).mono (show m+1<=40 by omega);have Gv:=((G.s.stand (by omega) g4).mor g5).mono (show m+1+1<=40 by omega);have S2:St m (c.stand t).2:=G.s.congr (K3 c t) (K2 c t);have Gp:=Gs.ent (.put hn) wf (by decide);refine ((((((G.stand hm g4).name g1).add2 wf).add3 (e:=⟨c.spot x d,(c.stand t).2.ver r,mor (c.stand t).1 k,yr n⟩) ⟨wf,S2.ver g1,Gv,.put hn⟩).add1 (jfH ⟨atM (j7 (yr n) (c.spot x d)) (mor (c.stand t).1 k),rfl,Gp.ti Gv (by decide) (by decide)⟩ ⟨atM (mor (c.stand t).1 k) (j7 (yr n) (c.spot x d)),rfl,Gv.ti Gp (by decide) (by decide)⟩)).setv (.put hn)).mono (by omega)
 | any x=>exact (G.mono (by omega)).setn ⟨.pick hn,bF _⟩
 | lose r=>exact (((G.name h).setv (.lost hn)).add0 (.lost hn)).mono (by omega)
 | know C=>exact (G.know hm h).mono (by omega)
theorem TG.none:TG 0 Cs.none:=⟨⟨fun _ _ e=>(nomatch e),fun _ _ e=>(nomatch e)⟩,fun _ h=>(nomatch h),fun _ h=>(nomatch h),fun _ h=>(nomatch h),fun _ h=>(nomatch h),fun _ h=>(nomatch h),fun _ h=>(nomatch h),fun _ h=>(nomatch h)⟩
theorem TG.rows:∀{R:List Rw} {m n:Nat} {c:Cs},TG m c->m+2 * R.length<=35->n+R.length<=1000->(∀r∈R,RwG r)->TG (m+2 * R.length) (c.rows R n)
 | [],m,n,c,G,_,_,_=>G
 | r :: R,m,n,c,G,h1,h2,h3=>by
  rw[bM]at h1 h2 |-;have:=TG.rows (R:=R) (n:=n+1) (G.take (n:=n) (by omega) (by omega) (h3 r (bC ..))) (by omega) (by omega) fun q hq=>h3 q (bG _ hq)
  rw[show m+2 * (R.length+1)=m+2+2 * R.length by omega];exact this
theorem jai{α:Type}{f:α->D}{p:α->Prop}:∀{l:List D},(∀d∈l,∃x,d=f x/\p x)->∃xs:List α,l=xs.map f/\∀x∈xs,p x
 | [],_=>⟨[],rfl,fun _ z=>(nomatch z)⟩
 | d :: l,h=>by
  obtain⟨x,e,hx⟩:=h d (bC ..);obtain⟨xs,e2,bA⟩:=jai fun d hd=>h d (bG _ hd)
  refine⟨x :: xs,by rw[bg,e,e2],fun y hy=>?_⟩;rcases a_.mp hy with rfl | hy
  .exact hx
  .exact bA y hy
theorem jfF{vs:List D}{sp:List P2}(hv:∀v∈vs,Ver v)(hs:∀p∈sp,Gs 40 p):∀d∈jhw vs (kr sp),jdy d:=fun d hd=>by
 obtain⟨q,h1,h2⟩:=lJ.mp hd;obtain⟨m1,m2⟩:=yX h1;have g1:=hs _ m1;have g2:=hs _ m2;refine qJ h2 (fun g hg=>?_) fun t ht=>?_
 .rcases a_.mp hg with rfl | hg
  .exact g1.ti g2 (by decide) (by decide)
  .rw[aM.mp hg]
   exact g2.ti g1 (by decide) (by decide)
 .obtain⟨v,nz,rfl⟩:=cc.mp ht
  exact (Gs.ent (hv v nz) g1 (by decide)).ti (Gs.ent (hv v nz) g2 (by decide)) (by decide) (by decide)
theorem jih{es:List EaT}{sp:List P2}(he:∀e∈es,EaG e)(hs:∀p∈sp,Gs 40 p):∀d∈eaF sp es,jdy d:=fun d hd=>by
 obtain⟨e,h1,h2⟩:=lJ.mp hd;obtain⟨s,h3,h4⟩:=lJ.mp h2;have g:=hs _ h3;obtain⟨e1,e2,e3,e4⟩:=he e h1;refine qJ h4 (fun q hq=>?_) fun t ht=>?_
 .rcases a_.mp hq with rfl | hq
  .exact e1.ti g (by decide) (by decide)
  .rw[aM.mp hq]
   exact g.ti e2 (by decide) (by decide)
 .rw[aM.mp ht]
  have en:=(Gs.ent e3 g (by decide)).1.mono (show 41<=50 by decide);have bn:Src 50 (e.at_ s).1:=by
   unfold EaT.at_
   cases eb:e.b with
   | inl v=>
    rw[eb]at e4;exact (Gs.ent (show Ver v from e4) g (by decide)).1.mono (by decide)
   | inr p=>
    rw[eb]at e4;exact (show Gs 40 p from e4).1.mono (by decide)
  unfold EaT.tie;split
  .exact⟨bn,en⟩
  .exact⟨en,bn⟩
theorem jhE{es:List RiT}{sp:List P2}(he:∀e∈es,RiG e)(hs:∀p∈sp,Gs 40 p):∀d∈riF sp es,jdy d:=fun d hd=>by
 obtain⟨e,h1,h2⟩:=lJ.mp hd;obtain⟨q,h3,h4⟩:=lJ.mp h2;obtain⟨m1,m2⟩:=yX h3;have g1:=hs _ m1;have g2:=hs _ m2;obtain⟨e1,e2,e3⟩:=he e h1;refine qJ h4 (fun q hq=>?_) fun t ht=>?_
 .rcases a_.mp hq with rfl | hq
  .exact e1.ti g1 (by decide) (by decide)
  rcases a_.mp hq with rfl | hq
  .exact g1.ti g2 (by decide) (by decide)
  .rw[aM.mp hq]
   exact g2.ti e2 (by decide) (by decide)
 .rw[aM.mp ht]
  exact (Gs.ent e3 g1 (by decide)).ti (Gs.ent e3 g2 (by decide)) (by decide) (by decide)
theorem jhI{es:List PuT}{sp:List P2}(he:∀e∈es,PuG e)(hs:∀p∈sp,Gs 40 p):∀d∈puF sp es,jdy d:=fun d hd=>by
 obtain⟨e,h1,h2⟩:=lJ.mp hd;obtain⟨s,h3,h4⟩:=lJ.mp h2;have g:=hs _ h3;obtain⟨e1,e2,e3,e4⟩:=he e h1;have en:=Gs.ent e4 g (by decide);have ea:=Gs.ent e2 g (by decide);have st:∀t∈puS e s,TiG t:=fun t ht=>by
  rcases a_.mp ht with rfl | ht
  .exact en.ti ea (by decide) (by decide)
  .rw[aM.mp ht]
   exact ea.ti en (by decide) (by decide)
 unfold puC at h4;split at h4
 .cases h4
 rcases bx.mp h4 with h4 | h4
 .refine qJ h4 (fun q hq=>?_) fun t ht=>?_
  .rcases a_.mp hq with rfl | hq
   .exact g.ti e1 (by decide) (by decide)
   .rw[aM.mp hq]
    exact e1.ti g (by decide) (by decide)
  .rcases a_.mp ht with rfl | ht
   .exact en.ti e3 (by decide) (by decide)
   .rw[aM.mp ht]
    exact e3.ti en (by decide) (by decide)
 rcases bx.mp h4 with h4 | h4
 .exact qJ h4 (qP (g.ti (e1.mor (d:=-1) (by decide)) (by decide) (by decide))) st
 .exact qJ h4 (qP ((e1.mor (d:=1) (by decide)).ti g (by decide) (by decide))) st
theorem jht{R:List Rw}{k:Cl}(hl:R.length<=12)(hR:∀r∈R,RwG r)(hk:ClG k):jjh R k:=by
 have G:TG (0+2 * R.length) (qq R k):=((TG.none.rows (n:=0) (R:=R) (by omega) (by omega) hR)).deny (by omega) hk;refine⟨(jfM fun d hd=>?_),jcR G.l1,fun es gE=>?_⟩
 .obtain⟨p,e,g⟩:=G.l2 d hd
  exact⟨p,e,g.mono (by decide)⟩
 obtain⟨sp,rfl,aV⟩:=jai (f:=p2) (p:=Gs 40) (l:=es) fun d hd=>G.l2 d (jd4 gE d hd)
 obtain⟨pu,e3,AS⟩:=jai G.l3;obtain⟨ea,e4,vx⟩:=jai G.l4;obtain⟨ri,e5,nG⟩:=jai G.l5;refine⟨_,⟨sp,_,_,_,_,rfl,fun p hp=>(aV p hp).spg (by decide),rfl,⟨pu,e3,fun e he=>(AS e he).1.spg (by decide),rfl⟩,⟨ea,e4,fun e he=>⟨(vx e he).1.spg (by decide),(vx e he).2.1.spg (by decide)⟩,rfl⟩,⟨ri,e5,fun e he=>⟨(nG e he).1.spg (by decide),(nG e he).2.1.spg (by decide)⟩,rfl⟩,rfl⟩,jfn fun d hd=>?_⟩;rcases bx.mp hd with hd | hd
 .rcases bx.mp hd with hd | hd
  .rcases bx.mp hd with hd | hd
   .refine jfF (fun v hv=>?_) aV d hd
    rcases bx.mp hv with hv | hv
    .obtain⟨r,hr,rfl⟩:=cc.mp hv
     exact .row (G.na r hr)
    .exact G.l0 v hv
   .exact jhI AS aV d hd
  .exact jih vx aV d hd
 .exact jhE nG aV d hd
end LW
namespace L2
open PySem PySem.Spec PyProof.Rows
def jU(os:List ab)(K:aq):aq:=K.filter fun p=>!os.contains p.1
theorem JX{os:List ab}{b:ab}(h:b∈os):∀K:aq,(jU os K).lookup b=none
 | []=>rfl
 | (c,o) :: K=>by
  unfold jU;rw[xD];by_cases z:os.contains c=true
  .rw[MT (by simp only[z];decide)]
   exact JX h K
  .rw[MU (by simp only[MF]at z;simp only[z];decide),fC]
   have:(b == c)=false:=by
    rw[MV];intro e;rw[<- e]at z;exact z (Ms.mpr h)
   rw[this];exact JX h K
theorem yh{os:List ab}{b:ab}(h:b ∉ os):∀K:aq,(jU os K).lookup b=K.lookup b
 | []=>rfl
 | (c,o) :: K=>by
  unfold jU;rw[xD];by_cases z:os.contains c=true
  .rw[MT (by simp only[z];decide),fC]
   have:(b == c)=false:=by
    rw[MV];intro e;rw[<- e]at z;exact h (Ms.mp z)
   rw[this];exact yh h K
  .rw[MU (by simp only[MF]at z;simp only[z];decide),fC,fC]
   cases b == c
   .exact yh h K
   .rfl
theorem jaO{os:List ab}{K:aq}{b:ab}{o:Obj}(e:(jU os K).lookup b=some o):b ∉ os/\K.lookup b=some o:=by
 by_cases h:b∈os
 .rw[JX h]at e;cases e
 .exact⟨h,(yh h K).symm.trans e⟩
def jfx:ae->V
 | .int i _=>.int i
 | .str s _=>.str s
 | .ref a=>.ref a
 | .bool b=>.bl b
 | _=>.non
def TupsF(K:aq)(os:List ab):Prop:=∀b∈os,∃od its n sl,K.lookup b=some ⟨.type "tuple",od,.seq its n,sl⟩/\its.size<=1000/\Vals (its.toList.map jfx) its.toList
section
variable {K:aq}{os:List ab}
theorem TupsF.or(hs:TupsF K os)(b:ab):(jU os K).lookup b=K.lookup b\/((jU os K).lookup b=none/\∃od its n sl,K.lookup b=some ⟨.type "tuple",od,.seq its n,sl⟩):=by
 by_cases h:b∈os
 .obtain⟨od,its,n,sl,e,_⟩:=hs b h
  exact .inr ⟨JX h K,od,its,n,sl,e⟩
 .exact .inl (yh h K)
theorem jT(hs:TupsF K os)(b:ab)(x:Str):aY (jU os K) b x=aY K b x:=by
 unfold aY;rcases hs.or b with e | ⟨e,od,its,n,sl,e2⟩
 .rw[e]
 .rw[e,e2]
theorem jbm(hs:TupsF K os)(x:Str)(v:ae):W.ownIn (jU os K) x v=W.ownIn K x v:=by
 cases v with
 | ref a=>
  show (match (jU os K).lookup a with | some ⟨_,_,.cls cd,_⟩=>aY (jU os K) cd.ns x | _=>none)=(match K.lookup a with | some ⟨_,_,.cls cd,_⟩=>aY K cd.ns x | _=>none);rcases hs.or a with e | ⟨e,od,its,n,sl,e2⟩
  .rw[e]
   simp only[jT hs]
  .rw[e,e2]
 | _=>rfl
theorem J3(hs:TupsF K os)(x:Str):∀l:List ae,sr (jU os K) x l=sr K x l
 | []=>rfl
 | c :: r=>by
  unfold sr;rw[jbm hs,J3 hs x r]
theorem j6(hs:TupsF K os)(t:ae)(x:Str):bP (jU os K) t x=bP K t x:=by
 cases t with
 | ref a=>
  show (match (jU os K).lookup a with | some ⟨_,_,.cls cd,_⟩=>sr (jU os K) x cd.mro | _=>none)=(match K.lookup a with | some ⟨_,_,.cls cd,_⟩=>sr K x cd.mro | _=>none);rcases hs.or a with e | ⟨e,od,its,n,sl,e2⟩
  .rw[e]
   simp only[J3 hs]
  .rw[e,e2]
 | _=>rfl
theorem yO(hs:TupsF K os)(cd:ae)(q:Str):gR (jU os K) cd q=gR K cd q:=by
 cases cd with
 | ref a=>
  show (match (jU os K).lookup a with | some ⟨_,_,.fields vs,_⟩=>(match vs.toList with | _ :: .str n _ :: _=>n == q | _=>false) | _=>false)=(match K.lookup a with | some ⟨_,_,.fields vs,_⟩=>(match vs.toList with | _ :: .str n _ :: _=>n == q | _=>false) | _=>false);rcases hs.or a with e | ⟨e,od,its,n,sl,e2⟩
  .rw[e]
  .rw[e,e2]
 | _=>rfl
theorem Jn(hs:TupsF K os)(C:ab):W.clsIn (jU os K) C=W.clsIn K C:=by
 unfold W.clsIn;rcases hs.or C with e | ⟨e,od,its,n,sl,e2⟩
 .rw[e]
 .rw[e,e2]
theorem Yu(hs:TupsF K os)(C:ab):lx (jU os K) C=lx K C:=by unfold lx;rw[Jn hs]
theorem Yj(hs:TupsF K os)(C:ab):mG (jU os K) C=mG K C:=by unfold mG;rw[Jn hs]
theorem YF(hs:TupsF K os)(C:ab)(x:Str):lp (jU os K) C x=lp K C x:=by unfold lp;rw[j6 hs,j6 hs]
theorem yH{b:ab}(e:(jU os K).lookup b=K.lookup b):W.typeIn (jU os K) (.ref b)=W.typeIn K (.ref b):=by
 show ((jU os K).lookup b).map _=(K.lookup b).map _;rw[e]
theorem yI(hs:TupsF K os){b:ab}(e:(jU os K).lookup b=K.lookup b)(x:Str):sj (jU os K) (.ref b) x=sj K (.ref b) x:=by
 unfold sj;rw[yH e];simp only[j6 hs]
theorem jdk(hs:TupsF K os)(b:ab):sq (jU os K) (.ref b)=sq K (.ref b):=by
 rcases hs.or b with e | ⟨e,od,its,n,sl,e2⟩
 .unfold sq
  rw[yH e]
 .show (((jU os K).lookup b).map (·.cls) == some (Value.type "function"))=((K.lookup b).map (·.cls) == some (Value.type "function"))
  rw[e,e2];show (none == some (Value.type "function"))=(some (Value.type "tuple") == some (Value.type "function"));decide +kernel
theorem zK(hs:TupsF K os)(b:ab):eQ (jU os K) (.ref b)=eQ K (.ref b):=by
 show (match (jU os K).lookup b with | some ⟨_,_,.func _,_⟩=>true | some ⟨_,_,.cls _,_⟩=>sj (jU os K) (.ref b) "__call__" == some (some (Value.builtin "type.__call__")) | _=>false)=(match K.lookup b with | some ⟨_,_,.func _,_⟩=>true | some ⟨_,_,.cls _,_⟩=>sj K (.ref b) "__call__" == some (some (Value.builtin "type.__call__")) | _=>false);rcases hs.or b with e | ⟨e,od,its,n,sl,e2⟩
 .rw[e]
  simp only[yI hs e]
 .rw[e,e2]
theorem jbc(hs:TupsF K os)(t c:ae):W.subIn (jU os K) t c=W.subIn K t c:=by
 cases t with
 | ref a=>
  show W.mroIn (jU os K) a c=W.mroIn K a c;unfold W.mroIn;rw[Jn hs]
 | _=>rfl
theorem ZI(hs:TupsF K os)(C:ab):mH (jU os K) C=mH K C:=by
 unfold mH;rcases hs.or C with e | ⟨e,od,its,n,sl,e2⟩
 .rw[e]
  simp only[yI hs e];unfold W.instIn;rw[yH e];simp only[jbc hs]
 .rw[e,e2]
theorem Kk(hs:TupsF K os){f:ab}{oc:ae}{od:Option ab}{fd:aH}{sl:Array (Option ae)}(e:K.lookup f=some ⟨oc,od,.func fd,sl⟩):(jU os K).lookup f=some ⟨oc,od,.func fd,sl⟩:=by
 rcases hs.or f with e1 | ⟨_,Ei,its,n,tu,e2⟩
 .rw[e1,e]
 .rw[e]at e2;cases e2
theorem jdx{h:aj}(X:K.In h):(jU os K).In h:=fun a o e=>X a o (jaO e).2
theorem Fun.drop(hs:TupsF K os){x q:Str}{st:aA}{f:ab}{fd:aH}(F:Fun K x q st f fd):Fun (jU os K) x q st f fd:=by
 obtain⟨⟨oc,od,kV,cw,pm,an,au,ct,fJ,e1,e2,e3⟩,e4⟩:=F;exact⟨⟨oc,od,kV,cw,pm,an,au,ct,fJ,e1,Kk hs e2,by rw[yO hs];exact e3⟩,by rw[zK hs];exact e4⟩
end
def J4(K:aq)(os:List ab)(H:Hp):Prop:=∀b∈os,∀od its n sl,K.lookup b=some ⟨.type "tuple",od,.seq its n,sl⟩->H b=some (.tup (its.toList.map jfx))
def q0(K:aq)(os:List ab):Hp:=fun b=>if b∈os then (match K.lookup b with | some ⟨_,_,.seq its _,_⟩=>some (.tup (its.toList.map jfx)) | _=>none) else none
theorem jdd{P:az}{w:aw}{K:aq}{os:List ab}{mg mb:Str->Option ae}{CX:CXT}{k:Nat}{fa a:ab}{fd:aH}{x:Str}{sp:Sp}{s₁:af}{vs:List ae}{ns:List Int}
  (KX:K.In s₁.heap) (hs:TupsF K os) (pp:s₁.heap.Ns aO mg) (hb:s₁.heap.Ns CI mb) (FX:∀x:Str,x≠"__name__"->mb x=cW x) (Fo:s₁.heap.NoLimit) (hg:s₁.gens=#[])
  (ha:s₁.heap.get? a=some { cls:=.type "list",data:=.seq vs.toArray }) (hi:sI vs ns) (hl:ns.length<=aE) (hr:Room k mF)
  (F:∀base:aj,(jU os K).In base->base.Ns aO mg->FnOk P w (jU os K) mg base CX k fa fd [x] sp) (FU:∀(s:af) (u:ae),mK s fd ⟨[u],[]⟩ [(x,u)])
  (aV:∀H:Hp,J4 K os H->SqL (jU os K) H a (ns.map V.int)->sp [.ref a] H (fun v _=>v=.bl true) fun _ _ _=>False)
  (GH:∀H e s',CX [] H s₁ (fun _ _ _=>False) e s'->False) :
  dg (ai P w) mF (.call (.ref fa) ⟨[.ref a],[]⟩) (fun r s'=>r=.ok (.ret (.bool true))/\OldK s₁.heap s'.heap/\s'.os=s₁.os/\iC s'.gens) s₁:=by
 have rv:=YQ hi
 have Es:=hi.length
 have trk:∀b,b∈os->∃od its n sl,K.lookup b=some ⟨.type "tuple",od,.seq its n,sl⟩/\q0 K os b=some (.tup (its.toList.map jfx))/\its.size<=1000/\Vals (its.toList.map jfx) its.toList:=fun b hb=>by
  obtain⟨od,its,n,sl,e1,e2,e3⟩:=hs b hb;refine⟨od,its,n,sl,e1,?_,e2,e3⟩;unfold q0;rw[MU hb,e1]
 have tZ:a ∉ os:=fun z=>by
  obtain⟨od,its,n,sl,e,_⟩:=hs a z;have:=KX a _ e;rw[ha]at this;injection this with t1;injection t1 with t2;injection t2 with t3;revert t3;decide +kernel
 have B9:∀H:Hp,(∀b,b∈os->H b=q0 K os b)->SqL (jU os K) H a (ns.map V.int)->HOk P w H s₁.heap->(∀b,H b≠none->b=a\/b∈os)->(H a≠none->K.lookup a=none/\∃o u,H a=some (.frz o u))->
   dg (ai P w) mF (.call (.ref fa) ⟨[.ref a],[]⟩) (fun r s'=>r=.ok (.ret (.bool true))/\OldK s₁.heap s'.heap/\s'.os=s₁.os/\iC s'.gens) s₁:=by
  intro H hT hS hok hA hK
  have Cd:∀{b:ab} {o:Obj},s₁.heap.get? b=some o->H b=none->(ZP s₁.heap H).get? b=some o:=fun e n=>jfb e n
  have ni:∀{b:ab} {o:Obj} {es:Array xb} {ep:Nat},s₁.heap.get? b=some o->o.data=.dict es ep->H b=none:=fun {b o es ep} e d=>by
   cases q:H b with
   | none=>rfl
   | some u=>
    rcases hA b (by rw[q];simp) with e' | e'
    .subst e'
     rw[ha]at e;cases e;have d':Data.seq vs.toArray _=Data.dict es ep:=d
     cases d'
    .obtain⟨od,its,n,sl,e1,_⟩:=trk b e'
     rw[KX b _ e1]at e;cases e;have d':Data.seq its n=Data.dict es ep:=d
     cases d'
  have oT:∀{b:ab} {m:Str->Option ae},s₁.heap.Ns b m->(ZP s₁.heap H).Ns b m:=fun {b m} ⟨o,es,ep,e,d,r⟩=>⟨o,es,ep,Cd e (ni e d),d,r⟩
  have BK:(jU os K).In (ZP s₁.heap H):=fun b o e=>by
   obtain⟨z1,z2⟩:=jaO e;refine Cd (KX b o z2) ?_
   cases q:H b with
   | none=>rfl
   | some u=>
    rcases hA b (by rw[q];simp) with e' | e'
    .subst e'
     rw[(hK (by rw[q];simp)).1]at z2;cases z2
    .exact absurd e' z1
  have hM:Mod (jU os K) mg (ZP s₁.heap H):=⟨BK,oT pp,⟨mb,oT hb,FX⟩,let ⟨mc,h1,h2⟩:=Fo;⟨mc,oT h1,h2⟩⟩
  have e0:Env0 P w (jU os K) mg (ZP s₁.heap H) mF [] s₁ H:=⟨rfl,hM,fun b o e=>jgI e,DE (jdm _ _),trivial,fun b hb=>absurd (show b∈([]:List ab) from hb) (by simp),hok,.of_eq hg⟩
  have Gj:J4 K os H:=fun b hb od its n sl e=>by
   obtain⟨Ei,its',n',tu,e1,e2,_⟩:=trk b hb;rw[e1]at e
   cases e
   rw[hT b hb,e2]
  refine si ((F _ BK (oT pp)).run mF [] s₁ H ⟨[.ref a],[]⟩ [.ref a] [.ref a] _ _ hr e0 (FU s₁ (.ref a)) (.cons rfl .nil) (aV H Gj hS)) fun r s' h=>?_
  cases r with
  | error e=>exact (GH H e s' h).elim
  | ok fl=>
   cases fl with
   | next=>exact fg h
   | brk=>exact fg h
   | cont=>exact fg h
   | ret u=>
    obtain⟨v,H',tV,bare,un,Ff,r',q⟩:=h
    have q':v=.bl true:=q
    subst q'
    obtain rfl:u=Value.bool true:=r'
    refine⟨rfl,OldK.of_keep fun b o e=>?_,tV,bare⟩
    cases q:H b with
    | none=>exact un.keep b o e q (by intro z;exact absurd (show b∈([]:List ab) from z) (by simp)) (by simp)
    | some u=>
     rcases hA b (by rw[q];simp) with e' | e'
     .subst e'
      obtain⟨_,ob,xs,z⟩:=hK (by rw[q];simp)
      have z2:=un.frzs b ob _ z
      obtain⟨e1,_⟩:=hok b _ z
      obtain⟨e2,_⟩:=Ff b _ z2
      rw[e]at e1;cases e1
      exact e2
     .obtain⟨od,its,n,sl,e1,e2,_⟩:=trk b e'
      exact un.stay b o _ ((hT b e').trans e2) e (by intro z;exact absurd (show b∈([]:List ab) from z) (by simp)) (by simp)
 have Ad:∀(H:Hp) b u,b∈os->q0 K os b=some u->ObjOk P w H s₁.heap b u:=fun H b u hb z=>by
  obtain⟨od,its,n,sl,e1,e2,e3,e4⟩:=trk b hb;rw[e2]at z
  cases z
  exact⟨by rw[aB,dA];exact cD (jI e3),its.toList,e4,_,KX b _ e1,rfl,n,rfl⟩
 have nc:∀b,b ∉ os->q0 K os b=none:=fun b hb=>by unfold q0;rw[MT hb]
 cases hk:K.lookup a with
 | some o=>
  have e:=KX a o hk
  rw[ha]at e
  cases e
  refine B9 (q0 K os) (fun _ _=>rfl) (.inr ⟨_,vs.toArray,_,(yh tZ K).trans hk,rfl,rfl,rfl,by rw[bX,Es];exact hl,by simpa using rv⟩) (fun b u z=>?_) (fun b z=>.inr ?_) fun z=>absurd (nc a tZ) z
  .by_cases hb:b∈os
   .exact Ad _ b u hb z
   .rw[nc b hb]at z;cases z
  .by_cases hb:b∈os
   .exact hb
   .exact absurd (nc b hb) z
 | none=>
  refine B9 (fun b=>if b=a then some (.frz { cls:=.type "list",data:=.seq vs.toArray } (.lst (ns.map V.int))) else q0 K os b) (fun b hb=>MT fun z=>tZ (by rw[<- z];exact hb)) (.inl (.inr ⟨{ cls:=.type "list",data:=.seq vs.toArray },MU rfl⟩)) (fun b u z=>?_) (fun b z=>?_) fun _=>⟨hk,_,_,MU rfl⟩
  .by_cases hb:b=a
   .have z':=(MU hb).symm.trans z
    cases z'
    subst hb
    exact⟨ha,by rw[aB];exact hl,vs,_,rv,ha⟩
   .have z':q0 K os b=some u:=(MT hb).symm.trans z
    by_cases hc:b∈os
    .exact Ad _ b u hc z'
    .rw[nc b hc]at z';cases z'
  .by_cases hb:b=a
   .exact .inl hb
   .have z':q0 K os b≠none:=by
     have e:(if b=a then some (HO.frz { cls:=.type "list",data:=.seq vs.toArray } (.lst (ns.map V.int))) else q0 K os b)=q0 K os b:=MT hb;rw[<- e];exact z
    by_cases hc:b∈os
    .exact .inr hc
    .exact absurd (nc b hc) z'
theorem walk_ofT{l:wX}{n k:Nat}{q:az}{lV:List Str}{XP:(Str->Option ae)->aj->Prop}{YP:aw->aj->Prop}{d:DefRec}{K:Params->aq}{x:Str}
  (hn:l.most=some n) (fR:n<=aE) (nQ:d.params.defaults=[]) (hr:Room k mF)
  (hY:∀(w:aw) (h:aj),YP w h->(K w.params).In h)
  (F:∀(w:aw) (mg:Str->Option ae) (fa:ab) (h:aj),(K w.params).In h->h.Ns aO mg->mg d.name=some (.ref fa)->
   ∃(os:List ab) (fd:aH) (sp:Sp),TupsF (K w.params) os/\(∀(s:af) (u:ae),mK s fd ⟨[u],[]⟩ [(x,u)])/\
    (∀(H:Hp) (a:ab) (ns:List Int),ns.length<=n->J4 (K w.params) os H->SqL (jU os (K w.params)) H a (ns.map V.int)->sp [.ref a] H (fun v _=>v=.bl true) fun _ _ _=>False)/\
    ∀base:aj,(jU os (K w.params)).In base->base.Ns aO mg->FnOk l.prog w (jU os (K w.params)) mg base CX0 k fa fd [x] sp) :
  Iv q lV XP YP l.row.toRowW d [] (fun f vs=>CH f vs):=by
 refine Att.attach_call hn nQ fun w s₀ s₁ mg mb fa o pm cd cw a vs ns G Y ho hd eL nK vd vp bf hg=>?_
 have KX:=hY w _ Y
 obtain⟨os,fd,sp,hs,hb,aV,hF⟩:=F w mg fa _ KX G.T.g nK
 exact jdd KX hs G.T.g G.T.b G.T.builtins G.T.nolimit hg vd vp (aG bf fR) hr hF hb (fun H hT hS=>aV H a ns bf hT hS) fun _ _ _ z=>z
end L2
namespace LW
open PySem L2
abbrev Kx:aA:=top 55
def jhg(K:aq)(o1 o2:ab):Sp:=fun vs H Q _=>∃(a:ab) (ns:List Int),vs=[.ref a]/\SqL K H a (ns.map V.int)/\ns.length<=63/\Own H o1 o2/\∀H',Q (.bl true) H'
theorem jit{x y:Str}(hx:W10 x)(hy:W10 y):Wd ((x++".")++y):=by
 refine⟨fun c hc=>?_,?_⟩
 .rw[mI,dQ,mI,dQ,bx,bx]at hc
  rcases hc with (hc | hc) | hc
  .exact .inl (hx.1 c hc)
  .exact .inr (aM.mp hc)
  .exact .inl (hy.1 c hc)
 .show ((x++".")++y).cps.size<=40
  rw[mI,DY,mI,DY];have h1:x.cps.size<=10:=hx.2;have h2:y.cps.size<=10:=hy.2;have h3:("." : Str).cps.size=1:=rfl;omega
theorem ja4{x:Str}(h:W10 x):Wd x:=⟨fun c hc=>.inl (h.1 c hc),aG h.2 (by decide)⟩
theorem jei(r:Rw):r.toD.depth<=200:=by
 rcases r with⟨x,t,k⟩ | ⟨r,x,d,t,k⟩ | ⟨x⟩ | ⟨r⟩ | ⟨C⟩
 .cases t <;> exact aX rfl
 .cases t <;> exact aX rfl
 .exact aX rfl
 .exact aX rfl
 .rcases C with⟨a,b,k⟩ | ⟨t,td,u,ud,r,way,b,k⟩ | ⟨t,td,u,ud,r⟩
  .cases a <;> cases b <;> exact aX rfl
  .cases b <;> exact aX rfl
  .exact aX rfl
theorem Kl{n:Nat}:∀{ds:List D},(∀d∈ds,d.depth<=n)->D.depthL ds<=n
 | [],_=>bF _
 | d :: ds,h=>Nat.max_le.mpr ⟨h d (bC ..),Kl fun e he=>h e (bG _ he)⟩
theorem jh9(x:Int):(x % (2 * 10 ^ eT 17) - 10 ^ eT 17).natAbs<=10 ^ 17:=by
 have:=qb (x:=x) (y:=2 * 10 ^ 17) (by decide);show (x % (2 * 10 ^ 17) - 10 ^ 17).natAbs<=10 ^ 17;omega
theorem jfk(ns:List Int):∃ms:List Int,zf (ns.map V.int) (some 3) (some 15)=ms.map V.int/\ms.length<=12:=by
 refine⟨(ns.drop (HT.sIx (ns.map V.int).length 0 (some 3))).take (HT.sIx (ns.map V.int).length (ns.map V.int).length (some 15) - HT.sIx (ns.map V.int).length 0 (some 3)),by unfold zf;rw[List.map_take,List.map_drop],?_⟩;rw[bZ];generalize (ns.map V.int).length=n;have h:HT.sIx n n (some 15) - HT.sIx n 0 (some 3)<=12:=by
  unfold HT.sIx;dsimp only;rw[MT (by decide),MT (by decide)];have e1:eT 15=15:=rfl;have e2:eT 3=3:=rfl;rw[e1,e2];omega
 omega
theorem jic(K:aq):W.kitOne K (.type "list") (.type "list")=some true:=rfl
theorem je7{c A B:Prop}[Decidable c](h:¬c)(b:B):if c then A else B:=by rw[MT h];exact b
theorem jgo{L es ds:List D}{ps qs:List DA}(h:jg4 L es)(hp:ps.map (·.1)=ds)(nd:ds.Nodup)(hm:∀d,d∈ds↔d∈L)(hq:qs.Perm ps)(hr:(qs.map (·.1)).Pairwise (fun a b=>dLt b a=false)):es=qs.map (·.1):=by
 obtain⟨p1,q1,e1,e2,e3,rfl⟩:=h;have AQ:(qs.map (·.1)).Perm ds:=by rw[<- hp];exact hq.map _
 refine jb9 (jc1 e3) (jfR hr (AQ.nodup_iff.mpr nd)) fun d=>?_
 rw[jax,AQ.mem_iff,hm,<- e1,(e2.map (·.1)).mem_iff]
theorem jeJ{L es:List D}(h:jg4 L es):∀d∈es,d∈L:=by
 obtain⟨ps,qs,h1,h2,_,rfl⟩:=h;intro d hd;rw[jax]at hd;rw[<- h1];exact (h2.map (·.1)).mem_iff.mp hd
theorem jfG{G:Hp}{ds L:List D}{vs:List V}{n:Nat}(t3:HeldL G ds vs)(so:SortT L 200)(t5:∀d,d∈ds↔d∈L)(hl:vs.length<=n):∃ps:List DA,ps.map (·.1)=ds/\vs=(ps.map (·.2)).map V.ref/\(∀q∈ps,Held G q.1 (.ref q.2))/\SortT (ps.map (·.1)) 200/\ps.length<=n:=by
 have xU:SortT ds 200:=jcU so fun d hd=>(t5 d).mp hd
 obtain⟨ps,e1,e2,e3⟩:=qV t3 fun d hd=>xU.tup d hd
 refine⟨ps,e1,e2,e3,by rw[e1];exact xU,?_⟩;rw[e2,aB,aB]at hl;exact hl
section
variable {P:az}{w:aw}{K:aq}{mg:Str->Option ae}{base:aj}{C o1 o2:ab}
theorem jh5{f:ab}{fd:aH}(F:Fun K "law" "law" Kx f fd)(B:Free0 mg)(i_:Fn P w K mg base 1 "_law_cell_at" ["_law_script","_law_k"] (jea K))(wg:Fn P w K mg base 1 "_law_words" ["_law_cell","_law_many"] jbV)(wt:Fn P w K mg base 4 "_law_straight" ["_law_cells","_law_w","_law_near"] (K5 K))(i9:Fn P w K mg base 3 "_law_claim" ["_law_seed","_law_w","_law_near","_law_free"] Yd)(wk:Fn P w K mg base 17 "_law_walk" ["_law_straight_here","_law_goal"] jbW)(wG:Fn P w K mg base 16 "booked" ["rows","goal"] (jec o1 o2)):FnOk P w K mg base CX0 18 f fd ["_law_script"] (jhg K o1 o2):=by
 have sc:FnScope ["_law_script","_law_w","_law_near","_law_straight_here","_law_goal","_law_other","_law_kept_here","_law_one","_law_found"] ["_law_script"] (jm Kx):=fQ;refine F.okZ sc (fun vs H Q E h=>?_) (fun au A outer s H vs Q E hr h=>?_)
 .obtain⟨a,ns,rfl,_⟩:=h
  rfl
 have hun:(A.deeper (cr "law" (jm Kx) s.heap.objs.size f au)).units+16 * 17+200 < cLine:=hr.un;have hu:(A.deeper (cr "law" (jm Kx) s.heap.objs.size f au)).units+1 < cLine:=by omega
 have nA:(A.deeper (cr "law" (jm Kx) s.heap.objs.size f au)).units+3+200 < cLine:=by omega
 have o_:(A.deeper (cr "law" (jm Kx) s.heap.objs.size f au)).units+1+200 < cLine:=by omega
 obtain⟨a,ns,rfl,hS,hl,hO,q⟩:=h;refine⟨_,(jd (jw (i:=1) sc.nd rfl oQ (jh wg hr (ja (jh i_ hr (ja (zpv 0) (ja jc jb))) (ja jc jb))))
   (jd (Js (jN (jC kh (js jQ (js jY (jh i_ hr (ja (zpv 0) (ja jc jb))) jc) jc) jc (jH _)) (ji (zd (js Jk (js Jk (jp jZ (zpv 1) jc (fun _ _=>rfl)) jq) (jp jZ (zpv 1) jc (fun _ _=>rfl))) (jfB (zpv 1) jc jef))) jJ))
   (jd (jw (i:=2) sc.nd rfl oQ (js qH (js jQ (js k9 (jh i_ hr (ja (zpv 0) (ja jc jb))) jc) (js k9 jc (js Jj jc jc))) (js Jj jc jc)))
   (jd (jw (i:=3) sc.nd rfl oQ (jh wt hr (ja (qe JB (zpv 0) (qj jc) (qj jc)) (ja (zpv 1) (ja (zpv 2) jb)))))
   (jd (jw (i:=4) sc.nd rfl oQ (jh i9 hr (ja (js jQ (jh i_ hr (ja (zpv 0) (ja jc jb))) jc) (ja (zpv 1) (ja (zpv 2) (ja (qe JB (zpv 1) (qj jc) qS) jb))))))
   (jd (jw (i:=5) sc.nd rfl oQ (jh i9 hr (ja (js jQ (jh i_ hr (ja (zpv 0) (ja jc jb))) jc) (ja (zpv 1) (ja (zpv 2) (ja (qe JB (zpv 1) (qj jc) qS) jb))))))
   (jd (jw (i:=6) sc.nd rfl oQ (ym Z0 (by rfl) B.list_ jcA (ja (zpv 3) jb)))
   (jd (kL ee rfl (ko (qe JB (jK (ja (zpv 4) (ja (zpv 5) (ja (zpv 4) jb)))) qS (qj (js qH jc (ym qL (by rfl) B.int_ Jq (ja (zR jhl (qZ kN (by rfl) B.len_ Jp (ja (zpv 3) jb)) jc (jH _)) jb)))))) (jx (i:=7) sc.nd rfl oQ) (jd (jw (i:=8) sc.nd rfl oQ (jh wG hr (ja (zpv 3) (ja (zpv 7) jb))))
   (jd (jN (KP (Zl (jbN (qZ Kw (by rfl) B.isinstance_ Jf (ja (zpv 8) (ja (Z9 (v:=.ty "tuple") (by rfl) B.tuple_ jaX (by rfl)) jb))))) (KP (jC jhk (qZ kN (by rfl) B.len_ Jp (ja (zpv 8) jb)) jc (jH _)) (KB (Zl (jbN (qZ Kw (by rfl) B.isinstance_ Jf (ja (jp ju (zpv 8) jc (fun _ _=>rfl)) (ja (Z9 (v:=.ty "list") (by rfl) B.list_ jcA (by rfl)) jb)))))))).pt (ji (jB zP)) jJ)
   (jd (jN (KP (jC (jcf 200 o_) (jp ju (zpv 8) jc (fun _ _=>rfl)) (qZ (Kn (n:=200) rfl nA) (by rfl) B.sorted_ Zg (ja (Zm C9 Lc PySem.F.type_dict_values jda (jX hu (jh wk hr (ja (zpv 3) (ja (zpv 7) jb))) jq (fun _ _=>rfl))) jb)) (jH _)) (KB (jC (jcf 200 o_) (zpv 3) (zpv 6) (jH _)))).pt (ji (jB zP)) jJ)
   (jd (jA (Zm bS Lb La jaC (jp ju (zpv 8) jc (fun _ _=>rfl))))
   (ji (jA (Zm bS Lb La jaC (jp ju (zpv 8) jc (fun _ _=>rfl))))))))))
   (ji (jB zP)))))))))),?_⟩
 refine jG (σ':=[some (.ref a),none,none,none,none,none,none,none,none]) rfl ?_
 try dsimp only[y9]
 refine jco ?_;intro _ _ _ _ _ _ _ _;refine⟨_,rfl,a,ns,0,rfl,hS,by decide,by decide,fun c0=>?_⟩;refine⟨_,6,rfl,by decide,fun lw w0 H1 ⟨uM,hW⟩ s1 ie e1=>?_⟩;refine gQ ?_;let Jw:L2.St->Hp->Prop:=fun σ G=>∃ws,σ=[some (.ref a),some (.ref lw),none,none,none,none,none,none,none]/\Same H G/\Ws G lw ws
 refine⟨Jw,?_,?_⟩
 .refine⟨_,rfl,a,ns,0,rfl,zr hS s1,by decide,by decide,fun c1=>?_⟩
  refine⟨_,_,rfl,rfl,⟨by decide,by decide⟩,_,_,rfl,rfl,(by show (0:Int) < _;decide),rfl,_,rfl,yu (fun d=>?_) (fun d=>?_)⟩
  .obtain⟨x0,x1,x2,x3,x4,x5,rfl⟩:∃x0 x1 x2 x3 x4 x5:Str,w0=[x0,x1,x2,x3,x4,x5]:=by
    match w0,uM with
    | [x0,x1,x2,x3,x4,x5],_=>exact⟨_,_,_,_,_,_,rfl⟩
   have o0:=hW x0 (by simp);have Af:=hW x1 (by simp);have hdot:(".":Str).length=1:=rfl;refine⟨_,rfl,lw,_,_,_,rfl,rfl,SqL.of e1,jg (j:=0) rfl,_,_,rfl,rfl,JA (by have:=o0.2;omega),_,rfl,lw,_,_,_,rfl,rfl,SqL.of e1,jg (j:=1) rfl,_,_,rfl,rfl,JA (by
    have h1:=o0.2;have h2:=Af.2;show ((x0++"."):Str).cps.size+x1.cps.size<=1000;rw[mI,DY];have h1:x0.cps.size<=10:=h1;have h2:x1.cps.size<=10:=h2;have h3:("." : Str).cps.size=1:=rfl;omega),?_⟩
   refine⟨_,rfl,lw,_,1,1,rfl,rfl,e1,rfl,?_⟩;refine⟨[x0,(x0++".")++x1,x2,x3,x4,x5],rfl,fun b o e=>jj (jo e ie) (s1 _ _ e),jf,rfl,fun x hx=>?_⟩;rcases a_.mp hx with rfl | hx
   .exact ja4 o0
   rcases a_.mp hx with rfl | hx
   .exact jit o0 Af
   .exact ja4 (hW x (bG _ (bG _ hx)))
  .exact⟨w0,rfl,s1,e1,uM,fun x hx=>ja4 (hW x hx)⟩
 rintro σ G ⟨ws,rfl,s2,hw⟩;clear s1 e1 ie uM hW H1;refine⟨_,rfl,a,ns,0,rfl,zr hS s2,by decide,by decide,fun c2=>?_⟩;refine⟨_,_,rfl,rfl,.inr ⟨by decide,by decide⟩,_,_,rfl,rfl,⟨by decide,by decide,by decide⟩,_,_,rfl,rfl,.inl ⟨by decide,by decide⟩,_,_,rfl,rfl,(by show (0:Int) < _;decide),_,_,rfl,rfl,⟨by decide,by decide,by decide⟩,_,_,rfl,rfl,?_⟩;refine gQ ?_;have hn:=jh9 (c2 * 998244353);generalize c2 * 998244353 % (2 * 10 ^ eT 17) - 10 ^ eT 17=bh at *;refine⟨_,rfl,_,rfl,_,rfl,a,_,rfl,zr hS s2,fun pc AV=>⟨_,rfl,_,rfl,?_⟩⟩;obtain⟨ms,A4,ig⟩:=jfk ns;rw[A4];have s3:=jk AV (.lst (ms.map V.int));have e3:upd G pc (.lst (ms.map V.int)) pc=some (.lst (ms.map V.int)):=jf;generalize upd G pc (.lst (ms.map V.int))=G1 at *;have eJ:=hw.mono s3;refine⟨pc,ms,bh,lw,ws,rfl,SqL.of e3,aG ig (by decide),eJ,hn,fun l R rs G2 s4 A1 fS hR fw ik=>?_⟩;have fw:R.length<=12:=aG fw ig;refine gQ ?_;have fj:=s2.trans (s3.trans s4);have cR:=eJ.mono s4;clear s2 s3 s4 e3 AV hw eJ A4 ig A1;refine⟨_,rfl,a,ns,1,rfl,zr hS fj,by decide,by decide,fun c3=>?_⟩;refine⟨_,_,rfl,rfl,(by show (0:Int) < _;decide),_,rfl,_,rfl,_,rfl,_,rfl,lw,_,rfl,SqL.of cR.at_,fun pf AU=>?_⟩;rw[jik cR.len];have s5:=jk AU (.lst ((ws.drop 3).map V.str));have e5:upd G2 pf (.lst ((ws.drop 3).map V.str)) pf=some (.lst ((ws.drop 3).map V.str)):=jf;generalize upd G2 pf (.lst ((ws.drop 3).map V.str))=G3 at *;refine⟨_,bh,lw,pf,ws,ws.drop 3,rfl,cR.mono s5,hn,⟨e5,by rw[lM,cR.len];decide,fun x hx=>cR.ok x (xy hx)⟩,fun k v G4 s6 gk hv=>?_⟩;refine gQ ?_;have mY:=s5.trans s6;have tJ:=fj.trans mY;have mn:=mY _ _ fS;have BI:=hR.mono mY;have EH:=cR;have eI:=EH.mono mY;clear fS hR s5 s6 mY fj e5 AU cR;refine⟨_,rfl,a,ns,2,rfl,zr hS tJ,by decide,by decide,fun c5=>?_⟩;refine⟨_,_,rfl,rfl,(by show (0:Int) < _;decide),_,rfl,_,rfl,_,rfl,_,rfl,lw,_,rfl,SqL.of eI.at_,fun oS AT=>?_⟩;rw[jik eI.len];have s5:=jk AT (.lst ((ws.drop 3).map V.str));have e5:upd G4 oS (.lst ((ws.drop 3).map V.str)) oS=some (.lst ((ws.drop 3).map V.str)):=jf;generalize upd G4 oS (.lst ((ws.drop 3).map V.str))=G5 at *;refine⟨_,bh,lw,oS,ws,ws.drop 3,rfl,eI.mono s5,hn,⟨e5,by rw[lM,eI.len];decide,fun x hx=>eI.ok x (xy hx)⟩,fun k2 v2 G6 s6 GP hJ=>?_⟩;refine gQ ?_;have mW:=s5.trans s6;have z_:=tJ.trans mW;have vJ:=mW _ _ mn;have BG:=BI.mono mW;have nz:=hv.mono mW;clear mn BI hv s5 s6 mW tJ e5 AT eI;refine⟨_,rfl,l,rs,rfl,.inl (SqL.of vJ),fun l6 h6=>?_⟩;have s7:=jk h6 (.lst rs);have e7:upd G6 l6 (.lst rs) l6=some (.lst rs):=jf;have BL:=s7 _ _ vJ;have BF:=BG.mono s7;have uP:=nz.mono s7;have AE:=hJ.mono s7;have y_:=z_.trans s7;generalize upd G6 l6 (.lst rs)=G7 at *;clear vJ BG nz hJ z_ s7 h6;refine gQ ?_;have FP:D.depthL (R.map Rw.toD)<=200:=Kl fun d hd=>by
  obtain⟨r,_,rfl⟩:=cc.mp hd;exact jei r
 refine⟨_,rfl,_,rfl,_,rfl,sm rfl,fun ld Bf=>?_⟩;have s8:=jk Bf (.lst [v,v2,v]);have e8:upd G7 ld (.lst [v,v2,v]) ld=some (.lst [v,v2,v]):=jf;have vI:=s8 _ _ BL;have x_:=y_.trans s8;generalize upd G7 ld (.lst [v,v2,v])=G8 at *;refine⟨_,rfl,l,rs,rfl,.inl (SqL.of vI),_,_,rfl,rfl,.inr ⟨_,rfl,_,_,rfl,rfl,_,rfl,ld,_,rfl,SqL.of e8,fun lc Bg=>⟨lc,rfl,⟨_,SqL.of jf⟩,?_⟩⟩⟩;have By:∀x∈zf [v,v2,v] none (some (3 - if decide (8 < (rs.length:Int))=true then 1 else 0)),∃k:Cl,ClG k/\Held G8 k.toD x:=fun x hx=>by
  unfold zf at hx;have hx:=xy (xx hx);rcases a_.mp hx with rfl | hx
  .exact⟨k,gk,uP.mono s8⟩
  rcases a_.mp hx with rfl | hx
  .exact⟨k2,GP,AE.mono s8⟩
  .rw[aM.mp hx]
   exact⟨k,gk,uP.mono s8⟩
 generalize (zf [v,v2,v] none (some (3 - if decide (8 < (rs.length:Int))=true then 1 else 0)))=XS at *;have s9:=jk Bg (.lst XS);have e9:upd G8 lc (.lst XS) lc=some (.lst XS):=jf;have F7:∀x∈XS,∃k:Cl,ClG k/\Held (upd G8 lc (.lst XS)) k.toD x:=fun x hx=>by
  obtain⟨k,g,h⟩:=By x hx;exact⟨k,g,h.mono s9⟩
 have GC:=s9 _ _ vI;have Gr:=BF.mono (s8.trans s9);have Hg:=(s8.trans s9) _ _ e7;have Ee:=x_.trans s9;generalize upd G8 lc (.lst XS)=G9 at *;clear By s9 s8 vI x_ e8 Bf Bg e7 BL BF uP AE y_;let Pv:Nat->L2.St->Hp->Prop:=fun i σ G=>∃u7 u8,σ=[some (.ref a),some (.ref lw),some (.int bh),some (.ref l),some v,some v2,some (.ref l6),u7,u8]/\Same G9 G
 refine qa (xs:=XS) Pv ⟨none,none,rfl,fun _ _ e=>e⟩ ?_ ?_ ?_
 .rintro i σ G _ ⟨u7,u8,rfl,sG⟩
  exact SqL.of (sG _ _ e9)
 .rintro i x σ G hx ⟨u7,u8,rfl,sG⟩
  obtain⟨kk,vR,Fv⟩:=F7 x (lI hx);have fS:=sG _ _ GC;have hR:=Gr.mono sG;have Bi:=Fv.mono sG;have tD:=Ee.trans sG;have Hf:=sG _ _ Hg;refine gQ ?_;obtain⟨xT,mT,_⟩:=jht fw ik vR;refine⟨_,rfl,_,rfl,l,R,rs,kk,x,rfl,fS,hR,fw,hO.tk (.same tD),Bi,jht fw ik vR,fun t la lb es ts dc cs xs ys G1 s1 n1 n2 En et sp ot vZ fN _ _ Ha _=>?_⟩;refine gQ ?_;refine⟨_,rfl,_,_,_,_,rfl,TyOf.tup et,jib K,_,rfl,ku ?_⟩;refine⟨_,rfl,t,_,rfl,.inr (SqT.of et),rfl,_,rfl,je7 (by simp) ?_⟩;refine⟨_,rfl,t,_,_,_,rfl,rfl,SqT.of et,jg (j:=0) rfl,_,_,_,_,rfl,TyOf.lst vZ,jic K,_,rfl,ku ?_⟩;have mq:=s1 _ _ fS;have pJ:=hR.mono s1;refine⟨_,rfl,t,_,_,_,rfl,rfl,SqT.of et,jg (j:=0) rfl,_,rfl,_,rfl,l,R,rs,kk,x,rfl,mq,pJ,aG fw (by decide),ik,vR,Bi.mono s1,fun BX G2 s2 hN hB=>?_⟩;obtain⟨ds,kvs,t1,t2,t3,t4,t5,t6,t7⟩:=hB.t 2 (by decide);have mh:(kvs.map (·.2)).length<=400:=by rw[aB];exact t7
  obtain⟨ps,p1,p2,p3,p4,p5⟩:=jfG t3 mT t5 mh;refine⟨BX.o,_,rfl,yQ hB.o,.inr (.inr (.inl ⟨rfl,.inl ⟨_,t1⟩⟩)),BX.t 2,kvs,rfl,rfl,t1,fun vw EI=>?_⟩;have s8:=jk EI (zS vw (BX.t 2));refine⟨vw,BX.t 2,kvs,ps,rfl,jf,s8 _ _ t1,p2,fun q hq=>(p3 q hq).mono s8,p4,aG p5 (by decide),fun l9 qs h9 AR E_=>?_⟩;have s9:=jk h9 (.lst ((qs.map (·.2)).map V.ref));have He:upd (upd G2 vw (zS vw (BX.t 2))) l9 (.lst ((qs.map (·.2)).map V.ref)) l9=some (.lst ((qs.map (·.2)).map V.ref)):=jf;have x6:=s8.trans s9;generalize upd (upd G2 vw (zS vw (BX.t 2))) l9 (.lst ((qs.map (·.2)).map V.ref))=G3 at *;have E8:HeldL G3 (qs.map (·.1)) ((qs.map (·.2)).map V.ref):=qU fun q hq=>(p3 q (AR.mem_iff.mp hq)).mono x6
  have FK:=jgo ot p1 t4 t5 AR E_;have db:D.depthL ts<=200:=Kl fun d hd=>mT.dep d (jeJ ot d hd)
  have cy:=s2.trans x6;refine⟨la,l9,xs,_,ts,qs.map (·.1),rfl,rfl,cy _ _ vZ,He,db,fN.mono cy,E8,_,rfl,je7 (by rw[MR FK];decide) ?_⟩;have iI:=s1.trans cy;refine⟨_,rfl,_,rfl,l,l6,rs,rs,R.map Rw.toD,R.map Rw.toD,rfl,rfl,iI _ _ fS,iI _ _ Hf,FP,hR.mono iI,hR.mono iI,_,rfl,je7 (by rw[MR rfl];decide) ?_⟩;have vT:=cy _ _ et;have vY:=cy _ _ vZ;have G_:=cy _ _ Ha;refine⟨_,rfl,t,_,_,_,rfl,rfl,SqT.of vT,jg (j:=0) rfl,.inl ⟨rfl,_,SqL.of vY⟩,la,xs,rfl,rfl,vY,?_⟩;have GX:upd G3 la (.lst []) t=some (.tup [.ref la,.ref lb]):=jj (jy vT vY (by intro z;cases z)) vT;have B6:upd G3 la (.lst []) lb=some (.lst ys):=jj (cY En) G_;refine⟨_,rfl,t,_,_,_,rfl,rfl,SqT.of GX,jg (j:=1) rfl,.inl ⟨rfl,_,SqL.of B6⟩,lb,ys,rfl,rfl,B6,?_⟩;exact⟨_,_,rfl,fun b o e=>jj (jo (sG _ _ e) n2) (jj (jo (sG _ _ e) n1) (iI _ _ (sG _ _ e)))⟩
 .rintro σ G ⟨u7,u8,rfl,sG⟩
  exact q _
end
abbrev jhB(o1 o2:ab)(K:aq):Sp:=jhg K o1 o2
theorem el0{P:List ae->Prop}(h:P []):∀us:List ae,us.length=0->P us
 | [],_=>h
theorem el1{P:List ae->Prop}(h:∀a0,P [a0]):∀us:List ae,us.length=1->P us
 | a :: v,e=>el0 (P:=fun v=>P (a :: v)) (h a) v (xu e)
theorem el2{P:List ae->Prop}(h:∀a0 a1,P [a0,a1]):∀us:List ae,us.length=2->P us
 | a :: v,e=>el1 (P:=fun v=>P (a :: v)) (h a) v (xu e)
theorem el3{P:List ae->Prop}(h:∀a0 a1 a2,P [a0,a1,a2]):∀us:List ae,us.length=3->P us
 | a :: v,e=>el2 (P:=fun v=>P (a :: v)) (h a) v (xu e)
theorem el4{P:List ae->Prop}(h:∀a0 a1 a2 a3,P [a0,a1,a2,a3]):∀us:List ae,us.length=4->P us
 | a :: v,e=>el3 (P:=fun v=>P (a :: v)) (h a) v (xu e)
abbrev LkF(K:aq)(f:ab)(x n:Str)(st:aA)(oc:ae)(od:Option ab)(kV dc pm:ae)(an:Option ab)(cd ct:ae)(sl:Array (Option ae)):Prop:=K.lookup f=some ⟨oc,od,.func (gP x n (zL st) (qR st) (jm st) .none kV dc pm an cd ct),sl⟩
structure DefK(K:aq)(f:ab)(fd:aH)(x:Str)(st:aA):Prop where
 a:aY K aO x=some (some (.ref f))
 u:Fun K x x st f fd
theorem DefK.m{K:aq}{f:ab}{x:Str}{st:aA}{oc kV dc pm cd ct:ae}{od an:Option ab}{sl:Array (Option ae)}(a:aY K aO x=some (some (.ref f)))(l:LkF K f x x st oc od kV dc pm an cd ct sl)(c:gR K cd x=true)(k:eQ K (.ref f)=true):DefK K f (gP x x (zL st) (qR st) (jm st) .none kV dc pm an cd ct) x st:=⟨a,jbA l c k⟩
theorem mk2{P:az}{w:aw}{K:aq}{mg:Str->Option ae}{base h:aj}(X:K.In h)(G:h.Ns aO mg){k:Nat}{x:Str}{st:aA}{f:ab}{fd:aH}{ps:List Str}{sp:Sp}(a:DefK K f fd x st)(ok:FnOk P w K mg base CX0 k f fd ps sp)(b:∀(kV cw pm:ae) (an:Option ab) (au ct:ae) (us:List ae),us.length=ps.length->bindArgs (gP x x (zL st) (qR st) (jm st) .none kV cw pm an au ct) ⟨us,[]⟩=pure (ps.zip us):=by exact fun _ _ _ _ _ _=>by first | exact el0 rfl | exact el1 fun _=>rfl | exact el2 fun _ _=>rfl | exact el3 fun _ _ _=>rfl | exact el4 fun _ _ _ _=>rfl ):Fn P w K mg base k x ps sp:=Fn.mk' a.u (a.u.binds b) (sk X G a.a) ok
set_option autoImplicit true in
theorem jim{l:wX}{w:aw}{K:aq}{h:aj}{mg:Str->Option ae}{fa:ab}(X:K.In h)(G:h.Ns aO mg)(vt:mg "law" = some (.ref fa))
  (a0:DefK K f0 d0 "more_than" yo)
  (a1:DefK K f1 d1 "at_most" JJ)
  (a2:DefK K f2 d2 "entry_of" yV)
  (a3:DefK K f3 d3 "alike" ZF)
  (a4:DefK K f4 d4 "turned_tie" zG)
  (a5:DefK K f5 d5 "number_stands_for" kE)
  (a6:DefK K f6 d6 "spot_of" JD)
  (a7:DefK K f7 d7 "version_of" qT)
  (a8:DefK K f8 d8 "stands_for" zH)
  (a9:DefK K f9 d9 "turned" KG)
  (rS:DefK K f10 d10 "least_tie" yp)
  (rR:DefK K f11 d11 "body_of" JI)
  (rQ:DefK K f12 d12 "body_tie" yW)
  (rP:DefK K f13 d13 "take_put" zY)
  (rO:DefK K f14 d14 "know" jb6)
  (rM:DefK K f15 d15 "deny" jb8)
  (rL:DefK K f16 d16 "take_row" zX)
  (rJ:DefK K f17 d17 "each_once" qC)
  (rH:DefK K f18 d18 "gathered" yU)
  (rG:DefK K f19 d19 "guarded" zZ)
  (rD:DefK K f20 d20 "spot_pairs" qr)
  (rB:DefK K f21 d21 "version_clauses" kD)
  (rA:DefK K f22 d22 "put_clauses" qx)
  (rq:DefK K f23 d23 "each_clauses" qO)
  (rp:DefK K f24 d24 "rise_clauses" qN)
  (rn:DefK K f25 d25 "booked" KI)
  (rm:DefK K f26 d26 "_law_tie" jfP)
  (rl:DefK K f27 d27 "_law_more" jb5)
  (rj:DefK K f28 d28 "_law_entry" ZD)
  (rh:DefK K f29 d29 "_law_kept" YY)
  (rg:DefK K f30 d30 "_law_stand" Yg)
  (rf:DefK K f31 d31 "_law_spot" ZC)
  (re:DefK K f32 d32 "_law_version" yM)
  (rc:DefK K f33 d33 "_law_source" JE)
  (rb:DefK K f34 d34 "_law_against" JK)
  (ra:DefK K f35 d35 "_law_body" Yi)
  (q_:DefK K f36 d36 "_law_known" Yh)
  (p_:DefK K f37 d37 "_law_denied" JF)
  (p0:DefK K f38 d38 "_law_walk" Yf)
  (pZ:DefK K f39 d39 "_law_cell_at" JH)
  (pY:DefK K f40 d40 "_law_words" yL)
  (pX:DefK K f41 d41 "_law_mix" jfQ)
  (pW:DefK K f42 d42 "_law_place" KH)
  (pV:DefK K f43 d43 "_law_end" jb7)
  (pU:DefK K f44 d44 "_law_term" ZB)
  (pT:DefK K f45 d45 "_law_drawn" ZE)
  (pS:DefK K f46 d46 "_law_claim" JG)
  (pR:DefK K f47 d47 "_law_straight" zm)
  (wc:aY K aO "law" = some (some (.ref f48)))
  (uz:LkF K f48 "law" "law" Kx oc48 od48 kV48 dc48 pm48 an48 cd48 ct48 sl48) (v9:gR K cd48 "law" = true) (uC:eQ K (.ref f48)=true)
  (wa:aY K aO "Case" = some (some (.ref C0))) (wb:bP K (.ref C0) "__init__" = some (some (.ref f49))) (uF:sq K (.ref f49)=true)
  (uy:LkF K f49 "__init__" "Case.__init__" ql oc49 od49 kV49 dc49 pm49 an49 cd49 ct49 sl49) (v8:gR K cd49 "Case.__init__" = true) (uB:eQ K (.ref f49)=true)
  (tS:lp K C0 CV=true) (vy:lx K C0=true) (tR:mG K C0=true) (tw:bP K (.ref C0) "__setattr__" = some (some (.builtin "object.__setattr__"))) (uu:mH K C0=true) (uA:eQ K (.ref C0)=true)
  (ut:bP K (.ref C0) "numbers" = some none)
  (uq:bP K (.ref C0) "versions" = some none)
  (uo:bP K (.ref C0) "named" = some none)
  (um:bP K (.ref C0) "lost" = some none)
  (ul:bP K (.ref C0) "ties" = some none)
  (uk:bP K (.ref C0) "spots" = some none)
  (uj:bP K (.ref C0) "puts" = some none)
  (ui:bP K (.ref C0) "eaches" = some none)
  (uh:bP K (.ref C0) "rises" = some none)
  (vQ:aY K aO "OWN_PLACE" = some (some (.ref o1))) (nZ:aY K aO "OTHER_OWN_PLACE" = some (some (.ref o2)))
  (z0:aY K aO "len" = some none) (z1:aY K aO "max" = some none) (z2:aY K aO "min" = some none) (z3:aY K aO "all" = some none) (z4:aY K aO "isinstance" = some none) (z5:aY K aO "abs" = some none) (z6:aY K aO "sorted" = some none) (z7:aY K aO "int" = some none) (z8:aY K aO "str" = some none) (z9:aY K aO "bool" = some none) (sX:aY K aO "tuple" = some none) (sW:aY K aO "list" = some none) (sV:aY K aO "dict" = some none) (sU:aY K aO "range" = some none) (sT:aY K aO "set" = some none) (sS:aY K aO "enumerate" = some none) (sR:aY K aO "repr" = some none) :
  ∃fd:aH,(∀(s:af) (v:ae),mK s fd ⟨[v],[]⟩ [("_law_script",v)])/\∀base:aj,K.In base->base.Ns aO mg->FnOk l.prog w K mg base CX0 18 fa fd ["_law_script"] (jhB o1 o2 K):=by
 have e:=vt.symm.trans (sk X G wc)
 cases e
 have B:Free0 mg:=⟨dy X G z0,dy X G z1,dy X G z2,dy X G z3,dy X G z4,dy X G z5,dy X G z6,dy X G z7,dy X G z8,dy X G z9,dy X G sX,dy X G sW,dy X G sV,dy X G sU,dy X G sT⟩
 have gH:mg "enumerate" = none:=dy X G sS
 have wd:mg "repr" = none:=dy X G sR
 have G1:=sk X G vQ
 have G2:=sk X G nZ
 have Hl:=jbA (st:=Kx) uz v9 uC
 have Cf:=jbA (st:=ql) uy v8 uB
 have Hk:=Cf.binds (ps:=["self"]) fun _ _ _ _ _ _=>el1 (fun _=>rfl)
 have dL:ClsC K C0:=⟨⟨tS,vy,tR,tw⟩,ut,uq,uo,um,ul,uk,uj,ui,uh⟩
 refine⟨gP "law" "law" (zL Kx) (qR Kx) (jm Kx) .none kV48 dc48 pm48 an48 cd48 ct48,fun s v=>.of_eq rfl,fun base _ _=>?_⟩
 have MK:=@mk2 l.prog w K mg base h X G
 have cp:=MK a0 (jgx a0.u)
 have bt:=MK a1 (jh7 a1.u)
 have ce:=MK a2 (jh6 a2.u)
 have j_:=MK a3 (jgy a3.u bt)
 have wm:=MK a4 (jeO a4.u)
 have gK:=MK a5 (jh3 dL a5.u)
 have dZ:=MK a6 (jgt a6.u gK cp)
 have dv:=MK a7 (jh1 dL a7.u)
 have fV:=MK a8 (jeQ dL a8.u gK dZ dv ce)
 have wn:=MK a9 (jc2 a9.u)
 have my:=MK rS (jc5 rS.u fV cp bt)
 have mB:=MK rR (jeX rR.u dv gK)
 have mz:=MK rQ (jeW rQ.u ce cp bt)
 have wr:=MK rP (jgr dL rP.u dZ fV cp dv ce j_)
 have wx:=MK rO (jgz dL rO.u my dZ mB dv)
 have wE:=MK rM (jgF dL G1 G2 rM.u wn my dZ mB mz bt wm dv cp ce)
 have wq:=MK rL (jgq dL rL.u cp fV wr wx)
 have i8:=MK rJ (jgw rJ.u B)
 have we:MkFn l.prog w K mg base _ "Case" C0 _ _:=⟨f49,_,⟨uu,wb,uF,uA⟩,jgH (P:=l.prog) (w:=w) (base:=base) dL Cf,Hk,sk X G wa⟩
 have wy:=MK rH (jgB dL rH.u B gH we wq wE i8)
 have d_:=MK rG (jbn rG.u B)
 have mx:=MK rD (jeS dL rD.u)
 have wl:=MK rB (jeN dL rB.u mx bt ce d_)
 have wv:=MK rA (jgv dL rA.u bt cp ce j_ d_)
 have wC:=MK rq (jgE dL rq.u bt mz d_)
 have wu:=MK rp (jgu dL rp.u mx bt ce d_)
 have wG:=MK rn (jc8 dL rn.u wy wl wv wC wu i8)
 have cM:=MK rm (jgs rm.u)
 have cV:=MK rl (jeT rl.u)
 have ed:=MK rj (jgC rj.u)
 have cq:=MK rh (jgA rh.u wd)
 have gJ:=MK rg (jc3 rg.u)
 have dM:=MK rf (jeR rf.u gJ cV)
 have df:=MK re (jgp re.u)
 have eY:=MK rc (jh2 rc.u gJ dM cq df ed)
 have mC:=MK rb (jbo rb.u df gJ)
 have wH:=MK ra (jeY ra.u B ed cV cM)
 have ww:=MK q_ (jeU q_.u eY cq cM cV dM mC df)
 have wF:=MK p_ (jc6 p_.u eY cq cM cV dM mC wH df ed)
 have wk:=MK p0 (jeM p0.u B gH ww wF eY cq cM cV dM df ed)
 have i_:=MK pZ (jgG pZ.u B)
 have wg:=MK pY (jeL pY.u B)
 have dN:=MK pX (jh4 pX.u)
 have eZ:=MK pW (jc4 pW.u B)
 have wz:=MK pV (jgD pV.u eZ)
 have i7:=MK pU (jeP pU.u eZ)
 have wD:=MK pT (jeV pT.u B i7 dN eZ)
 have i9:=MK pS (jc7 pS.u B dN eZ i7 wz)
 have wt:=MK pR (jaz pR.u B gH dN i9 wD)
 exact jh5 Hl B i_ wg wt i9 wk wG
theorem DefK.drop{K:aq}{os:List ab}(hs:TupsF K os){f:ab}{fd:aH}{x:Str}{st:aA}(a:DefK K f fd x st):DefK (jU os K) f fd x st:=⟨(jT hs _ _).trans a.a,a.u.drop hs⟩
set_option autoImplicit true in
theorem all_mk2{l:wX}{w:aw}{K:aq}{h:aj}{mg:Str->Option ae}{fa:ab}(X:K.In h)(G:h.Ns aO mg)(vt:mg "law" = some (.ref fa))
  (a0:DefK K f0 d0 "more_than" yo)
  (a1:DefK K f1 d1 "at_most" JJ)
  (a2:DefK K f2 d2 "entry_of" yV)
  (a3:DefK K f3 d3 "alike" ZF)
  (a4:DefK K f4 d4 "turned_tie" zG)
  (a5:DefK K f5 d5 "number_stands_for" kE)
  (a6:DefK K f6 d6 "spot_of" JD)
  (a7:DefK K f7 d7 "version_of" qT)
  (a8:DefK K f8 d8 "stands_for" zH)
  (a9:DefK K f9 d9 "turned" KG)
  (rS:DefK K f10 d10 "least_tie" yp)
  (rR:DefK K f11 d11 "body_of" JI)
  (rQ:DefK K f12 d12 "body_tie" yW)
  (rP:DefK K f13 d13 "take_put" zY)
  (rO:DefK K f14 d14 "know" jb6)
  (rM:DefK K f15 d15 "deny" jb8)
  (rL:DefK K f16 d16 "take_row" zX)
  (rJ:DefK K f17 d17 "each_once" qC)
  (rH:DefK K f18 d18 "gathered" yU)
  (rG:DefK K f19 d19 "guarded" zZ)
  (rD:DefK K f20 d20 "spot_pairs" qr)
  (rB:DefK K f21 d21 "version_clauses" kD)
  (rA:DefK K f22 d22 "put_clauses" qx)
  (rq:DefK K f23 d23 "each_clauses" qO)
  (rp:DefK K f24 d24 "rise_clauses" qN)
  (rn:DefK K f25 d25 "booked" KI)
  (rm:DefK K f26 d26 "_law_tie" jfP)
  (rl:DefK K f27 d27 "_law_more" jb5)
  (rj:DefK K f28 d28 "_law_entry" ZD)
  (rh:DefK K f29 d29 "_law_kept" YY)
  (rg:DefK K f30 d30 "_law_stand" Yg)
  (rf:DefK K f31 d31 "_law_spot" ZC)
  (re:DefK K f32 d32 "_law_version" yM)
  (rc:DefK K f33 d33 "_law_source" JE)
  (rb:DefK K f34 d34 "_law_against" JK)
  (ra:DefK K f35 d35 "_law_body" Yi)
  (q_:DefK K f36 d36 "_law_known" Yh)
  (p_:DefK K f37 d37 "_law_denied" JF)
  (p0:DefK K f38 d38 "_law_walk" Yf)
  (pZ:DefK K f39 d39 "_law_cell_at" JH)
  (pY:DefK K f40 d40 "_law_words" yL)
  (pX:DefK K f41 d41 "_law_mix" jfQ)
  (pW:DefK K f42 d42 "_law_place" KH)
  (pV:DefK K f43 d43 "_law_end" jb7)
  (pU:DefK K f44 d44 "_law_term" ZB)
  (pT:DefK K f45 d45 "_law_drawn" ZE)
  (pS:DefK K f46 d46 "_law_claim" JG)
  (pR:DefK K f47 d47 "_law_straight" zm)
  (wc:aY K aO "law" = some (some (.ref f48)))
  (uz:LkF K f48 "law" "law" Kx oc48 od48 kV48 dc48 pm48 an48 cd48 ct48 sl48) (v9:gR K cd48 "law" = true) (uC:eQ K (.ref f48)=true)
  (wa:aY K aO "Case" = some (some (.ref C0))) (wb:bP K (.ref C0) "__init__" = some (some (.ref f49))) (uF:sq K (.ref f49)=true)
  (uy:LkF K f49 "__init__" "Case.__init__" ql oc49 od49 kV49 dc49 pm49 an49 cd49 ct49 sl49) (v8:gR K cd49 "Case.__init__" = true) (uB:eQ K (.ref f49)=true)
  (tS:lp K C0 CV=true) (vy:lx K C0=true) (tR:mG K C0=true) (tw:bP K (.ref C0) "__setattr__" = some (some (.builtin "object.__setattr__"))) (uu:mH K C0=true) (uA:eQ K (.ref C0)=true)
  (ut:bP K (.ref C0) "numbers" = some none)
  (uq:bP K (.ref C0) "versions" = some none)
  (uo:bP K (.ref C0) "named" = some none)
  (um:bP K (.ref C0) "lost" = some none)
  (ul:bP K (.ref C0) "ties" = some none)
  (uk:bP K (.ref C0) "spots" = some none)
  (uj:bP K (.ref C0) "puts" = some none)
  (ui:bP K (.ref C0) "eaches" = some none)
  (uh:bP K (.ref C0) "rises" = some none)
  (vQ:aY K aO "OWN_PLACE" = some (some (.ref o1))) (nZ:aY K aO "OTHER_OWN_PLACE" = some (some (.ref o2)))
  (z0:aY K aO "len" = some none) (z1:aY K aO "max" = some none) (z2:aY K aO "min" = some none) (z3:aY K aO "all" = some none) (z4:aY K aO "isinstance" = some none) (z5:aY K aO "abs" = some none) (z6:aY K aO "sorted" = some none) (z7:aY K aO "int" = some none) (z8:aY K aO "str" = some none) (z9:aY K aO "bool" = some none) (sX:aY K aO "tuple" = some none) (sW:aY K aO "list" = some none) (sV:aY K aO "dict" = some none) (sU:aY K aO "range" = some none) (sT:aY K aO "set" = some none) (sS:aY K aO "enumerate" = some none) (sR:aY K aO "repr" = some none)
  (Ch:K.lookup o1=some ⟨.type "tuple",odo1,.seq #[.ref i1,.int 0 to11] no1,slo1⟩) (Cj:K.lookup i1=some ⟨.type "tuple",odi1,.seq #[.str "own" ti10,.int 0 ti11] ni1,sli1⟩) (Cg:K.lookup o2=some ⟨.type "tuple",odo2,.seq #[.ref i2,.int 0 to21] no2,slo2⟩) (Ci:K.lookup i2=some ⟨.type "tuple",odi2,.seq #[.str "own" ti20,.int 1 ti21] ni2,sli2⟩) :
  ∃(os:List ab) (fd:aH) (sp:Sp),TupsF K os/\(∀(s:af) (u:ae),mK s fd ⟨[u],[]⟩ [("_law_script",u)])/\(∀(H:Hp) (a:ab) (ns:List Int),ns.length<=63->J4 K os H->SqL (jU os K) H a (ns.map V.int)->sp [.ref a] H (fun v _=>v=.bl true) fun _ _ _=>False)/\∀base:aj,(jU os K).In base->base.Ns aO mg->FnOk l.prog w (jU os K) mg base CX0 18 fa fd ["_law_script"] sp:=by
 have hs:TupsF K [o1,i1,o2,i2]:=fun b hb=>by
  simp only[a_,DI,or_false]at hb;rcases hb with rfl | rfl | rfl | rfl
  .exact⟨_,_,_,_,Ch,aX rfl,(.cons rfl (.cons ⟨_,rfl⟩ .nil))⟩
  .exact⟨_,_,_,_,Cj,aX rfl,(.cons ⟨_,rfl⟩ (.cons ⟨_,rfl⟩ .nil))⟩
  .exact⟨_,_,_,_,Cg,aX rfl,(.cons rfl (.cons ⟨_,rfl⟩ .nil))⟩
  .exact⟨_,_,_,_,Ci,aX rfl,(.cons ⟨_,rfl⟩ (.cons ⟨_,rfl⟩ .nil))⟩
 obtain⟨fd,h1,h2⟩:=jim (K:=jU [o1,i1,o2,i2] K) (jdx X) G vt (DefK.drop hs a0) (DefK.drop hs a1) (DefK.drop hs a2) (DefK.drop hs a3) (DefK.drop hs a4) (DefK.drop hs a5) (DefK.drop hs a6) (DefK.drop hs a7) (DefK.drop hs a8) (DefK.drop hs a9) (DefK.drop hs rS) (DefK.drop hs rR) (DefK.drop hs rQ) (DefK.drop hs rP) (DefK.drop hs rO) (DefK.drop hs rM) (DefK.drop hs rL) (DefK.drop hs rJ) (DefK.drop hs rH) (DefK.drop hs rG) (DefK.drop hs rD) (DefK.drop hs rB) (DefK.drop hs rA) (DefK.drop hs rq) (DefK.drop hs rp) (DefK.drop hs rn) (DefK.drop hs rm) (DefK.drop hs rl) (DefK.drop hs rj) (DefK.drop hs rh) (DefK.drop hs rg) (DefK.drop hs rf) (DefK.drop hs re) (DefK.drop hs rc) (DefK.drop hs rb) (DefK.drop hs ra) (DefK.drop hs q_) (DefK.drop hs p_) (DefK.drop hs p0) (DefK.drop hs pZ) (DefK.drop hs pY) (DefK.drop hs pX) (DefK.drop hs pW) (DefK.drop hs pV) (DefK.drop hs pU) (DefK.drop hs pT) (DefK.drop hs pS) (DefK.drop hs pR) ((jT hs _ _).trans wc) (Kk hs uz) ((yO hs _ _).trans v9) ((zK hs _).trans uC) ((jT hs _ _).trans wa) ((j6 hs _ _).trans wb) ((jdk hs _).trans uF) (Kk hs uy) ((yO hs _ _).trans v8) ((zK hs _).trans uB) ((YF hs _ _).trans tS) ((Yu hs _).trans vy) ((Yj hs _).trans tR) ((j6 hs _ _).trans tw) ((ZI hs _).trans uu) ((zK hs _).trans uA) ((j6 hs _ _).trans ut) ((j6 hs _ _).trans uq) ((j6 hs _ _).trans uo) ((j6 hs _ _).trans um) ((j6 hs _ _).trans ul) ((j6 hs _ _).trans uk) ((j6 hs _ _).trans uj) ((j6 hs _ _).trans ui) ((j6 hs _ _).trans uh) ((jT hs _ _).trans vQ) ((jT hs _ _).trans nZ) ((jT hs _ _).trans z0) ((jT hs _ _).trans z1) ((jT hs _ _).trans z2) ((jT hs _ _).trans z3) ((jT hs _ _).trans z4) ((jT hs _ _).trans z5) ((jT hs _ _).trans z6) ((jT hs _ _).trans z7) ((jT hs _ _).trans z8) ((jT hs _ _).trans z9) ((jT hs _ _).trans sX) ((jT hs _ _).trans sW) ((jT hs _ _).trans sV) ((jT hs _ _).trans sU) ((jT hs _ _).trans sT) ((jT hs _ _).trans sS) ((jT hs _ _).trans sR)
 exact⟨_,fd,_,hs,h1,fun H a ns hl hT hS=>⟨a,ns,rfl,hS,hl,⟨(jL (hT o1 (by simp) _ _ _ _ Ch) (je (jL (hT i1 (by simp) _ _ _ _ Cj) (je jE (je jO jr))) (je jO jr))),(jL (hT o2 (by simp) _ _ _ _ Cg) (je (jL (hT i2 (by simp) _ _ _ _ Ci) (je jE (je jO jr))) (je jO jr)))⟩,fun _=>rfl⟩,h2⟩
theorem walk{l:wX}{q:az}{lV:List Str}{XP:(Str->Option ae)->aj->Prop}{YP:aw->aj->Prop}{d:DefRec}{K:Params->aq}(hn:l.most=some 63)(nQ:d.params.defaults=[])
  (hY:∀(w:aw) (h:aj),YP w h->(K w.params).In h)
  (F:∀(w:aw) (mg:Str->Option ae) (fa:ab) (h:aj),(K w.params).In h->h.Ns aO mg->mg d.name=some (.ref fa)->
   ∃(os:List ab) (fd:aH) (sp:Sp),TupsF (K w.params) os/\(∀(s:af) (u:ae),mK s fd ⟨[u],[]⟩ [("_law_script",u)])/\(∀(H:Hp) (a:ab) (ns:List Int),ns.length<=63->J4 (K w.params) os H->SqL (jU os (K w.params)) H a (ns.map V.int)->sp [.ref a] H (fun v _=>v=.bl true) fun _ _ _=>False)/\∀base:aj,(jU os (K w.params)).In base->base.Ns aO mg->FnOk l.prog w (jU os (K w.params)) mg base CX0 18 fa fd ["_law_script"] sp) :
  Iv q lV XP YP l.row.toRowW d [] (fun f vs=>CH f vs):=
 L2.walk_ofT (n:=63) (k:=18) (x:="_law_script") hn (by decide) nQ ⟨rfl,by decide,by decide,rfl⟩ hY F
end LW
namespace PySem.W.Fast
def tw10040304538386756281:=()
def tw10061375799745219021:=()
def tw10068369136343836133:=()
def tw10074926984492697496:=()
def tw10178915596658702418:=()
def tw10315514421119328622:=()
def tw10573701350081333073:=()
def tw10604721201057952285:=()
def tw1070464185580518620:=()
def tw10778758821351872203:=()
def tw10883941177846547311:=()
def tw11401072955894127181:=()
def tw11579416028429343424:=()
def tw11801801607015731214:=()
def tw11967571010676003705:=()
def tw12035318774899544109:=()
def tw12126790553422275402:=()
def tw12205586726876974476:=()
def tw12336533666133565672:=()
def tw1239351599918110702:=()
def tw12553551870882751651:=()
def tw12775754431047409623:=()
def tw1297478980549423224:=()
def tw12984966876216819886:=()
def tw13136842094363605213:=()
def tw13172481338238297259:=()
def tw13270693137046742261:=()
def tw13391324949769435947:=()
def tw13491220541108108177:=()
def tw1372721362636295813:=()
def tw13900017893507520859:=()
def tw13987916303444144946:=()
def tw14218848180707451290:=()
def tw14267883121335346997:=()
def tw14338635814380006339:=()
def tw1436124041282565914:=()
def tw1448680309713644246:=()
def tw14814050174827325119:=()
def tw14822397382864073038:=()
def tw14858341207001832307:=()
def tw14866328151744113418:=()
def tw15009262701768764176:=()
def tw15048534690337117187:=()
def tw15398120441462799791:=()
def tw15407377683116981981:=()
def tw15485653866156740219:=()
def tw15645990620316835305:=()
def tw15923739975951864155:=()
def tw15966058517899364573:=()
def tw16012480088109356592:=()
def tw1624111200982451471:=()
def tw16494990900470349130:=()
def tw16547101607291576601:=()
def tw166154498993764385:=()
def tw16798739653571415047:=()
def tw16959394851140443493:=()
def tw17140968676657996556:=()
def tw17177489971363066241:=()
def tw17196127877954118428:=()
def tw17322564531375043984:=()
def tw17412907451289834443:=()
def tw17445737330236259873:=()
def tw17735243661237310793:=()
def tw17806393904782028930:=()
def tw17983574864664782640:=()
def tw1804382343408019882:=()
def tw18105368441320717723:=()
def tw18136076045263812827:=()
def tw18138637180598187650:=()
def tw1819571111499631619:=()
def tw18302050791340417630:=()
def tw18347823715919222210:=()
def tw18382941672433335134:=()
def tw1885853314844658048:=()
def tw1954132412304143875:=()
def tw2442739909641815163:=()
def tw2562081239725237895:=()
def tw2562147653539733443:=()
def tw256850469697817205:=()
def tw2652278054613593705:=()
def tw2966946890296807775:=()
def tw3005063211141207753:=()
def tw3281094585333614246:=()
def tw3312613621993571451:=()
def tw3386724922314121827:=()
def tw349264248581886831:=()
def tw3723969874279761023:=()
def tw38435448503502061:=()
def tw3954899978490633886:=()
def tw4140460381000195929:=()
def tw4269577660684431026:=()
def tw4558969191804222652:=()
def tw4803094541061579856:=()
def tw483694363950029332:=()
def tw4889053633908405507:=()
def tw5324281200167048731:=()
def tw533872135404885128:=()
def tw5580325670393311800:=()
def tw5593471581962834693:=()
def tw5668032851778603539:=()
def tw5835063394038218322:=()
def tw5923877914955109156:=()
def tw5976918603473444988:=()
def tw5990016666392493782:=()
def tw6000558504296558050:=()
def tw6403827058711100645:=()
def tw6739085192082726320:=()
def tw6799865394372988401:=()
def tw6845667005200849708:=()
def tw6951947455240907861:=()
def tw7022603139893228533:=()
def tw7269647831622953956:=()
def tw7358598108854651450:=()
def tw7617516961528683090:=()
def tw7727035648847097734:=()
def tw7820532689260257468:=()
def tw791376783367129703:=()
def tw7995608663843444149:=()
def tw8088739502798513461:=()
def tw8192819466082004714:=()
def tw8389457511297652394:=()
def tw8459364379064365429:=()
def tw8803397917413482168:=()
def tw8874270631285766348:=()
def tw899327678988591190:=()
def tw8999136600827944138:=()
def tw9036317455234560309:=()
def tw9209474215223449150:=()
def tw9225585689050848779:=()
def tw926684594009376163:=()
def tw9383825859278520450:=()
def tw9393055304204303358:=()
def tw9692767728051680979:=()
def tw9903433646076407371:=()
end PySem.W.Fast
open PySem PySem.W PyProof.Rows
set_option maxRecDepth 100000 in
set_option maxHeartbeats 0 in
theorem PySem.Challenge.cw_outlineward_k44_ties_of_a_book_holds : PySem.Challenge.rw_outlineward_k44_ties_of_a_book.Holds := by
 w_on;o_law;k_head;(case hw=>w_witness2);k_fill;refine LW.walk (l:=Lm) rfl rfl (fun w h Y=>W.kIn_of Y) ?F
 case F=>
  intro w mg fa h KX G nK
  refine' LW.all_mk2 KX G nK ..
  all_goals try apply LW.DefK.m
  all_goals try ((try unfold LW.LkF);first | k_is | kit_is | rfl | kernel_rfl)
