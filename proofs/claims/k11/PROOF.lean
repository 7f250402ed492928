import PyProof.Rows.All
import Wide.All
import OpenK.AllK
import Wide.FinOn
import PyProof.EqAt
import PyProof.EqKinds
import PyProof.TupleCall
import PyProof.StrLawsRepr
import Lean
import PyProof.P3Eq
import PyProof.P3In
import PyProof.NeData
import KE.KRevIter
import PyProof.StrWalks
import PyProof.StrBlockH
import PyProof.Conv_int_bool
import PyProof.SetKind
import PyProof.Rows.SetFrom
import PyProof.Rows.SortStr
import PyProof.WalksS
import PyProof.Seq
import PyProof.Walks
import PyProof.FactsAll.set
import PyProof.ForAny
import PyProof.FactsSeq
import PyProof.CollectWalk
import PyProof.SetRoads
import PySem.Challenge.RW_hookhall_k11_wishes_told_twice
theorem PySem.W.Fast.tw18392736727900397030 : True := trivial
theorem PySem.W.Fast.tw2423794508117257816 : True := trivial
theorem PySem.W.Fast.tw6974350460922532978 : True := trivial
theorem PySem.W.Fast.tw4703823809493461991 : True := trivial
theorem PySem.W.Fast.tw2039963792911918156 : True := trivial
theorem PySem.W.Fast.tw11697955865021519332 : True := trivial
theorem PySem.W.Fast.tw11314850405506689660 : True := trivial
theorem PySem.W.Fast.tw6275901806161957970 : True := trivial
theorem PySem.W.Fast.tw11514025560433106597 : True := trivial
theorem PySem.W.Fast.tw9931424824563909667 : True := trivial
theorem PySem.W.Fast.tw18250370176605653745 : True := trivial
theorem PySem.W.Fast.tw13905819879742936385 : True := trivial
theorem PySem.W.Fast.tw11770542682716762265 : True := trivial
theorem PySem.W.Fast.tw13469465698454328341 : True := trivial
theorem PySem.W.Fast.tw14905602399401917720 : True := trivial
theorem PySem.W.Fast.tw932203782705095024 : True := trivial
theorem PySem.W.Fast.tw11483120146878947809 : True := trivial
theorem PySem.W.Fast.tw7141974748337450069 : True := trivial
theorem PySem.W.Fast.tw6631620590198721178 : True := trivial
theorem PySem.W.Fast.tw15362645294954603237 : True := trivial
theorem PySem.W.Fast.tw6441630165229100732 : True := trivial
theorem PySem.W.Fast.tw8862222126287047637 : True := trivial
theorem PySem.W.Fast.tw16524400335217400537 : True := trivial
theorem PySem.W.Fast.tw7738330857176640845 : True := trivial
theorem PySem.W.Fast.tw15108286110429026827 : True := trivial
theorem PySem.W.Fast.tw17454874370939999240 : True := trivial
theorem PySem.W.Fast.tw8079840634693156785 : True := trivial
theorem PySem.W.Fast.tw6128087418106194130 : True := trivial
theorem PySem.W.Fast.tw3727580659898537039 : True := trivial
theorem PySem.W.Fast.tw3591611924655257922 : True := trivial
noncomputable section
set_option compiler.extract_closed false
open Array renaming append_assoc->uF,find?_toList->uG,getElem?_eq_getElem->o_,getElem?_toList->jS,length_toList->ij,mem_of_find?_eq_some->oR,mk->yV
open Bool renaming and_comm->Ce,and_eq_true->b8,and_false->Aa,eq_iff_iff->dU,false_ne_true->aY,false_or->qz,not_eq_true'->mF,not_or->GG,or_false->lO,or_true->DL
open Char renaming toNat->ph
open Eq renaming symm->za
open False renaming elim->df
open Function renaming comp_def->sR
open Int renaming emod_lt_of_pos->eZ,emod_nonneg->fj,toNat_natCast->w8,zero_add->GF
open List renaming all_cons->qE,all_eq_true->m_,any_cons->ff,any_eq_true->fJ,append_assoc->aR,append_nil->cE,cons_append->eK,contains_cons->cS,dropLast_concat->g_,dropLast_eq_take->sP,drop_eq_getElem_cons->i7,drop_length->xa,drop_zero->Ad,eq_nil_of_length_eq_zero->gY,eraseIdxIfInBounds_toArray->mX,ext_getElem?->mH,filterMap_cons->k9,filter_congr->gD,filter_cons->fH,filter_eq_self->eI,filter_filter->vb,filter_map->cv,find?_cons->bT,find?_eq_none->eW,find?_some->zb,findIdx?_cons->vd,findSome?_cons->lu,flatMap_append->ly,foldl_cons->ip,forall_mem_cons->kM,getD->xb,getElem?_append_left->aw,getElem?_append_right->bE,getElem?_cons_succ->bL,getElem?_cons_zero->ck,getElem?_eq_getElem->aW,getElem?_eq_none->cO,getElem?_eq_none_iff->qf,getElem?_eq_some_iff->ao,getElem?_map->bH,getElem?_replicate->rh,getElem?_set->mG,getElem?_set_ne->cn,getElem?_set_self->cY,getElem?_take_of_lt->d6,getElem_of_mem->lh,getLast?_eq_none_iff->qh,getLast?_eq_some_iff->fN,length->kG,length_append->aB,length_cons->aL,length_erase_of_mem->fV,length_filter_le->c8,length_map->aN,length_nil->ik,length_replicate->ft,length_set->dW,length_singleton->aV,length_take->jy,lookup->bQ,lookup_cons->bS,mapM_cons->Ac,map_append->bf,map_congr_left->dD,map_cons->aE,map_eq_append_iff->jI,map_eq_cons_iff->kK,map_id'->rM,map_id->tP,map_map->aU,map_nil->iG,mem_append->aH,mem_append_left->bw,mem_append_right->bp,mem_cons->aF,mem_cons_of_mem->au,mem_cons_self->ay,mem_filter->bh,mem_filterMap->fX,mem_flatMap->xf,mem_iff_getElem?->dP,mem_map->aq,mem_of_find?_eq_some->dR,mem_of_getElem?->kH,mem_of_mem_erase->sQ,mem_range->gu,mem_singleton->ai,nil_append->cH,nodup_append->b_,nodup_cons->cF,not_mem_nil->bK,of_mem_zip->n9,pairwise_append->dX,pairwise_cons->iP,pairwise_map->wB,range->d5,replicate->aT,set_append_left->kJ,set_append_right->j7,set_comm->Cf,set_cons_zero->vc,set_set->gB,size_toArray->aQ,sum_cons->Cd,take_length->nh
open List.Pairwise renaming imp->GH,nil->o9
open List.Sublist renaming map->J5
open List.cons renaming injEq->mr
open Nat renaming add_assoc->DR,add_comm->GI,le_of_eq->gJ,le_of_lt->mW,le_refl->az,le_succ->h9,le_trans->bt,lt_irrefl->cQ,lt_of_le_of_lt->wx,lt_of_lt_of_le->ax,lt_succ_of_lt->je,lt_succ_self->dj,lt_trans->GC,min_le_left->Ab,ne_of_gt->jR,ne_of_lt->aS,not_lt_zero->Ae,sub_self->fM,zero_le->dq
open Ne renaming symm->bZ
open Option renaming bind_eq_some_iff->jg,bind_some->jf,getD_none->u9,isSome_iff_exists->i5,isSome_map->lS,map_eq_none_iff->qF,map_eq_some_iff->bc,none->ae,some->aa,some->dQ
open Option.some renaming inj->bg,injEq->eP
open Or renaming inl->dJ,inr->cz
open PyProof.Rows renaming AllBare->jH,IntsAre->wu,Subscript_->B',UnaryOp_->JY,boot_any->J0,boot_list->J4,callWith_builtin1->kI,callWith_type1->lN,envOfC->iC,formatField_str->JV,letGo_keyiter->JU,not_of->JZ,subscriptTail->uI,subscriptTail_builtinR->wq
open PySem renaming Addr->aj,Around->cf,BindsTo->rH,CmpOp->u4,DictEntry->mE,ExceptHandler->gf,Expr->bo,FuncData->bI,Heap->bO,KeyKind->z9,Keyword->gz,Model->u3,NameKind->yT,PassesOwn->jd,PlainAttrs->sO,Program->aX,PyData->jo,Result->B8,Scope->ig,Shared->ar,Stmt->cm,Value->af,Within->jE,World->bB,assign->kW,assignEach->nQ,atKey->sM,attributeBase->bU,backTo->bJ,backToKw->eY,behindInMarks->cL,binaryOp->ko,bindArgs->yS,bindC->u7,bindL->u6,bootBuiltins->dO,boot_len->y',builtinsNs->B5,cLine->fq,call->uJ,callWith->jm,call_meets->nR,call_meetsIn->wo,callerA->oQ,cellsFrom->GB,codeAny_call_builtin->mq,codeAny_compStart_list->wz,codeAny_handlers_test->w9,codeAny_mono->ja,compEnvC->mo,compPost->yY,compareOp->cM,entryPlaceOf->wy,evalArgs_none->tN,excClassObj->yU,exec_Assign_Name_used->w_,findBy->wg,foldedSetIterable->cg,frameOf->qc,getAttr->wj,getItem->rK,getMethod->gM,handleBy->yW,holding->kY,isInstance->Cb,keywordEach->cX,leaving->rJ,letOwnedTupleGo->k_,mainGlobals->bq,mem_of_lookup->cZ,model->aK,newList->DM,noteFrame->qd,nsFind->sI,pastItsLine_dict->pY,plainObj_wpAny_Assign_Attribute->o7,pyHashByItsType->JW,pyIter->B7,refuseLoop->Ca,relabel->k6,reprText->cD,setAttr->DB,setFlight->p_,sizeLine_eq->dB,sliceBounds->iM,slot_list_getitem->DF,standAt->kX,starEach->av,subscripted->qB,swapsWith->eX,sysModules->eM,tupleKind->pV,tupleKind_room_in1->jn,typeLookup->B_,unbindBehindTheSuite->y_,valueAt->mD,wpAny_Call_Name_kw->fw,wpAny_Call_method0_late->u_,wpAny_FormattedValue_repr->tO,wpAny_Name->B6,wpAny_assign_Name->oP,wpAny_bind->aC,wpAny_call->kZ,wpAny_comprehension_free->gj,wpAny_execs_cons->Gp,wpAny_execs_nil->iY,wpAny_handleBy_cons->z_,wpAny_holding->jV,wpAny_isSubtype_exc->i6,wpAny_isTrue_Compare1->w6,wpAny_loadPart->mn,wpAny_loadPart_at->eG,wpAny_lookBehind->pX,wpAny_mono->bF,wpAny_newFunctionEnv->yX,wpAny_newObj_type->DP,wpAny_nsSet1->wm,wpAny_passesOwn->fB,wpAny_point->yZ,wpAny_pure->be,wpAny_pyIter_list->Dz,wpAny_specialOf->ri,wpAny_standAt->jU,wpAny_truthy_bool->gW
open PySem.Around renaming under->lR
open PySem.Builtin.List renaming listTooLong->il
open PySem.Builtin.Range renaming rangeSize->Gq
open PySem.Calls renaming Name_function_global->oO,callWith_builtin->gc,call_len_list->tM,evalArgs_plain->gX,spliced_cons->uH,spliced_nil->u5
open PySem.Challenge renaming pw_hookhall_k11_wishes_told_twice->Cc,rw_hookhall_k11_wishes_told_twice->Cg
open PySem.CmpOp renaming NotIn->Dy
open PySem.Code renaming frames->GA,isFrame->rG,isGuard->DC,quiet_builtin->va
open PySem.DictEntry renaming refKey->sJ
open PySem.EntryCells renaming newEntry->qe
open PySem.EqMixed renaming eq_bool_str->Gr,eq_int_str->Gs,eq_str_bool->Gu,eq_str_int->Gv,ne_bool_str->Gw,ne_int_str->Gx,ne_str_bool->Gy,ne_str_int->Gz
open PySem.EqNone renaming eq_bool_none->JJ,eq_int_none->JK,eq_none_bool->JG,eq_none_int->JH,eq_none_none->JF,eq_none_str->JI,eq_str_none->JL,ne_bool_none->JQ,ne_int_none->JR,ne_none_bool->JN,ne_none_int->JO,ne_none_none->JM,ne_none_str->JP,ne_str_none->JS
open PySem.F renaming excBase_ValueError->dH,plainAttrs_dict->o8,plainAttrs_list->d9,slot_NoneType_hash->fA,slot_dict_delitem->n_,slot_dict_items->pe,slot_dict_pop->qA
open PySem.Heap renaming FlyingW->gA,SameBut->fG,UpToSlots->iO,get?_push_of_some->aA,get?_push_size->bj,get?_update_ne->lg,get?_update_other->rL,get?_update_self->gT,lt_size->aD,size_push->gw
open PySem.Heap.IsSliceOf renaming new->DD
open PySem.Heap.Ns1 renaming of_empty->sL
open PySem.Heap.SameBut renaming update->JX
open PySem.MeetsSeq renaming EqGives->DQ
open PySem.Obj renaming mapFields->DK
open PySem.Paired renaming length->kU,snoc->B9
open PySem.PassesOwn renaming leaving->aM
open PySem.PyData renaming canLay0->bN,canLayAll0->bR,depth->dC,depthAll->cq,eqv->bX,eqvAll->dh,hasDict->xc,hasDictAll->lT,showable->wA,showableAll->lj,shown->fC,shownAll->gZ,str->cw,strOk->fD
open PySem.SeqAt renaming EqAt->GD
open PySem.SeqAt.EqAt renaming int_none->p8,int_str->qx,none_int->pZ,none_str->p7,same->sN,str_int->qy,str_none->p9
open PySem.Str renaming empty->cP,length_append->bM,ofString->aG,ofString_eq_toList->jW
open PySem.Txt renaming join->qg
open PySem.Value renaming bool->dM,builtin->jb,bytes->Dx,float->sH,int->kE,isInt->Dw,isStrOf->z8,none->jD,ref->aO,str->kF,type->lM
open PySem.W renaming Frag->aP,codeIn->nT,findIn->d_,fnOf->eO,isFn->fZ,keepIn->iD,kitOne->nS,mg_of->xg,nsIn->qi
open PySem.W.WData renaming int->JT
open PySem.W.WShape renaming has->DJ
open PySem.Within renaming cons->pW
open Sum renaming inl->mV,inr->dG
open True renaming intro->dg
set_option maxHeartbeats 0
set_option Elab.async false
set_option linter.all false
set_option maxRecDepth 100000
namespace L2
open PySem PySem.Spec PyProof.Rows
abbrev b9:=Sum Int Str
def zc:b9->af->Bool
 |.inl k,v=>Dw k v
 |.inr x,v=>z8 x v
def DU(w:bB):b9->Int
 |.inl k=>hashInt k
 |.inr x=>hashStr w x
theorem tQ:∀{k:b9} {v:af},zc k v=true->(∃i t,k=mV i/\v=kE i t)\/(∃x t,k=dG x/\v=kF x t)
 | .inl i,v,h=>by
   obtain⟨t,e⟩:=Value.isInt_shape (k:=i) (v:=v) h;exact .inl ⟨i,t,rfl,e⟩
 | .inr x,v,h=>by
   obtain⟨t,e⟩:=Value.isStrOf_shape (x:=x) (v:=v) h;exact .inr ⟨x,t,rfl,e⟩
theorem Ww(i:Int)(t:Tok):zc (.inl i) (.int i t)=true:=by simp[zc,Dw]
theorem Wx(x:Str)(t:Tok):zc (.inr x) (.str x t)=true:=by simp[zc,z8]
theorem Wy(a b:Int):decide ((mV a:b9)=mV b)=(a==b):=by
 by_cases e:a=b
 .subst e;simp
 .have h:¬(mV a:b9)=mV b:=λq=>e (Sum.inl.inj q)
  rw[decide_eq_false h];exact(beq_eq_false_iff_ne.mpr e).symm
theorem Wz(a b:Str):decide ((dG a:b9)=dG b)=decide (a=b):=by
 by_cases e:a=b
 .subst e;simp
 .have h:¬(dG a:b9)=dG b:=λq=>e (Sum.inr.inj q)
  rw[decide_eq_false h,decide_eq_false e]
theorem WA(a:Int)(b:Str):decide ((mV a:b9)=dG b)=false:=decide_eq_false (λq=>nomatch q)
theorem WB(a:Str)(b:Int):decide ((dG a:b9)=mV b)=false:=decide_eq_false (λq=>nomatch q)
def jX(prog:aX)(w:bB):z9 prog w b9 where
 is:=zc
 hash:=DU w
 inj:=λv a b ha hb=>by
  rcases tQ ha with⟨i,t,rfl,rfl⟩ | ⟨x,t,rfl,rfl⟩
  .rcases tQ hb with⟨j,u,rfl,e⟩ | ⟨y,u,rfl,e⟩
   .injection e with e1 _;rw[e1]
   .exact nomatch e
  .rcases tQ hb with⟨j,u,rfl,e⟩ | ⟨y,u,rfl,e⟩
   .exact nomatch e
   .injection e with e1 _;rw[e1]
 byValue:=λk v h=>by
  rcases tQ h with⟨i,t,rfl,rfl⟩ | ⟨x,t,rfl,rfl⟩<;>rfl
 pyHash:=λhv h=>by
  rcases tQ hv with⟨i,t,rfl,rfl⟩ | ⟨x,t,rfl,rfl⟩
  .exact wpAny_pyHash_int h
  .exact wpAny_pyHash_str h
 eqBool:=λhu hv h=>by
  rcases tQ hu with⟨i,t,rfl,rfl⟩ | ⟨x,t,rfl,rfl⟩
  .rcases tQ hv with⟨j,u,rfl,rfl⟩ | ⟨y,u,rfl,rfl⟩
   .rw[Wy] at h;exact wpAny_eqBool_int h
   .rw[WA] at h;exact qx i t y u _ _ _ _ h
  .rcases tQ hv with⟨j,u,rfl,rfl⟩ | ⟨y,u,rfl,rfl⟩
   .rw[WB] at h;exact qy x t j u _ _ _ _ h
   .rw[Wz] at h;exact wpAny_eqBool_str h
 «strs»:=λk x t v h=>by
  rcases tQ h with⟨i,u,rfl,e⟩ | ⟨y,u,rfl,e⟩
  .exact nomatch e
  .injection e with e1 _
   subst e1;cases v<;>rfl
theorem WC(prog:aX)(w:bB)(i:Int)(t:Tok):(jX prog w).is (.inl i) (.int i t)=true:=Ww i t
theorem WD(prog:aX)(w:bB)(x:Str)(t:Tok):(jX prog w).is (.inr x) (.str x t)=true:=Wx x t
inductive V where
 |bY | bl (b:Bool) | int (i:Int) | str (x:Str) | byt (b:Array UInt8) | Af (b:UInt64) | ref (a:aj) | ty (n:String)
 deriving DecidableEq
def RelV:V->af->Prop
 |.bY,u=>u=jD
 |.bl b,u=>u=dM b
 |.int i,u=>∃t,u=kE i t
 |.str x,u=>∃t,u=kF x t
 |.byt b,u=>∃t,u=Dx b t
 |.Af b,u=>∃t,u=sH b t
 |.ref a,u=>u=aO a
 |.ty n,u=>u=lM n
abbrev cj:List V->List af->Prop:=Paired RelV
theorem cj.length{xs:List V}{us:List af}(r:cj xs us):xs.length=us.length:=kU r
theorem cj.get:∀{xs:List V} {us:List af} {i:Nat} {x:V},cj xs us->xs[i]?=aa x->∃u,us[i]?=aa u/\RelV x u
 |_,_,_,_,.nil,e=>by simp at e
 |_,_,0,_,.cons r _,e=>by simp at e;subst e;exact⟨_,rfl,r⟩
 | _,_,i+1,x,.cons _ t,e=>by
   obtain⟨u,h1,h2⟩:=cj.get (i:=i) (x:=x) t (by simpa using e);exact⟨u,by simpa using h1,h2⟩
theorem cj.set{x:V}{u:af}(r:RelV x u):∀{xs:List V} {us:List af} (i:Nat),cj xs us->cj (xs.set i x) (us.set i u)
 |_,_,_,.nil=>.nil
 |_,_,0,.cons _ t=>.cons r t
 |_,_,i+1,.cons q t=>.cons q (cj.set r i t)
theorem cj.append:∀{xs ys:List V} {us ws:List af},cj xs us->cj ys ws->cj (xs++ys) (us++ws)
 |_,_,_,_,.nil,s=>s
 |_,_,_,_,.cons r t,s=>.cons r (cj.append t s)
theorem cj.take:∀{xs:List V} {us:List af} (n:Nat),cj xs us->cj (xs.take n) (us.take n)
 |_,_,0,_=>.nil
 |_,_,_+1,.nil=>.nil
 |_,_,n+1,.cons r t=>.cons r (cj.take n t)
theorem cj.drop:∀{xs:List V} {us:List af} (n:Nat),cj xs us->cj (xs.drop n) (us.drop n)
 |_,_,0,r=>r
 |_,_,_+1,.nil=>.nil
 |_,_,n+1,.cons _ t=>cj.drop n t
def iQ:Option V->Option af->Prop
 |some v,aa u=>RelV v u
 |none,ae=>True
 |_,_=>False
def KV{κ:Type}:List (κ×V)->List (κ×af)->Prop:=Paired λ(p:κ×V) (q:κ×af)=>p.1=q.1/\RelV p.2 q.2
def kV:b9->V
 |.inl i=>.int i
 |.inr x=>.str x
inductive HO where
 |lst (xs:List V)
 |tup (xs:List V)
 |dK (kvs:List (b9×V)) | dT (kvs:List (List b9×V))
 |set (S:Int->Bool) (n:Nat)
 |ins (C dx:aj) (fs:List (Str×V))
 |own (x:aj)
 |xd (fs:List (Str×V))
 |met (f x:aj)
 |GJ (lo hi:Int)
 |dY (o:Obj) (u:HO)
 |ve (ps:Array af)
 |ext (φ:bO->Prop)
abbrev Hp:=aj->Option HO
def upd(H:Hp)(a:aj)(o:HO):Hp:=λb=>if b=a then aa o else H b
theorem fE{H:Hp}{a:aj}{o:HO}:upd H a o a=aa o:=by unfold upd;rw[if_pos rfl]
theorem c4{H:Hp}{a b:aj}{o:HO}(h:b≠a):upd H a o b=H b:=by unfold upd;rw[if_neg h]
theorem WE{H:Hp}{a:aj}{o u:HO}:upd (upd H a o) a u=upd H a u:=by
 funext b;unfold upd;split<;>rfl
theorem WG{H:Hp}{a b:aj}{o u:HO}(h:H a=aa o)(h':H b=aa u)(d:o≠u):a≠b:=by
 intro e;subst e;rw[h] at h';exact d (bg h')
theorem sS{H:Hp}{a b:aj}{o:HO}(h:H a=aa o)(h':H b=ae):a≠b:=by
 intro e;subst e;rw[h] at h';cases h'
section
variable (P:aX)(w:bB)
def jY(H:Hp)(h:bO)(a:aj):HO->Prop
 |.lst xs=>xs.length<=sizeLine/\∃(cA:List af) (n:Nat),cj xs cA/\h.get? a=aa { cls:=.type "list",data:=.seq cA.toArray n }
 |.tup xs=>xs.length<=sizeLine/\∃cA:List af,cj xs cA/\IsTup h a cA.toArray
 |.dK kvs=>kvs.length<=sizeLine/\(a==eM)=false/\∃vs,KV kvs vs/\h.DictOf (jX P w) a vs
 |.dT kvs=>kvs.length<=sizeLine/\(a==eM)=false/\∃xs:List (List b9×aj×af),
  Paired (λ(p:List b9×V) (q:List b9×aj×af)=>p.1=q.1/\H q.2.1=aa (.tup (p.1.map kV))/\RelV p.2 q.2.2) kvs xs /\
  ∃o es ep,h.get? a=aa o/\o.ExactDict/\o.data=.dict es ep/\es.toList=xs.map (entryOfKey (pV (jX P w)))/\(xs.map (·.1)).Nodup
 |.set S n=>h.SetOf (intKind P w) a S n
 |.ins C dx fs=>H dx=aa (.own a)/\fs.length<=1000/\dx≠a/\h.get? a=aa (W.instObj C dx) /\
  ∃mA,h.Ns1 dx mA/\(∀f,iQ (fs.lookup f) (mA f))/\jE mA (fs.map (·.1))
 |.own _=>∃o,h.get? a=aa o
 |.xd fs=>∃mA,h.Ns1 a mA/\∀f,iQ (fs.lookup f) (mA f)
 |.GJ lo hi=>∃t u v,h.get? a=aa { cls:=.type "range",data:=.fields #[.int lo t,.int hi u,.int 1 v] }
 |.dY o u=>h.get? a=aa o/\jY H h a u
 |.ve ps=>h.get? a=aa { cls:=.none,data:=.fields ps }
 |.met f x=>h.get? a=aa (W.methodObj (.ref f) (.ref x))
 |.ext φ=>φ h/\(∃o,h.get? a=aa o)/\∀h1 h2:bO,φ h1->(∀o,h1.get? a=aa o->h2.get? a=aa o)->φ h2
def iE(H:Hp)(h:bO):Prop:=∀a o,H a=aa o->jY P w H h a o
end
section
variable {P:aX}{w:bB}{H H':Hp}{h h':bO}{a:aj}{o:HO}
theorem jY.lt(x:jY P w H h a o):a<h.objs.size:=by
 cases o with
 |lst xs=>obtain⟨_,_,_,_,e⟩:=x;exact aD e
 |tup xs=>obtain⟨_,_,_,p⟩:=x;exact p.lt
 |dK kvs=>obtain⟨_,_,_,_,o,_,_,e,_⟩:=x;exact aD e
 |dT kvs=>obtain⟨_,_,_,_,o,_,_,e,_⟩:=x;exact aD e
 |set S n=>obtain⟨o,_,_,_,e,_⟩:=x;exact aD e
 |ins C dx fs=>obtain⟨_,_,_,e,_⟩:=x;exact aD e
 |own y=>obtain⟨_,e⟩:=x;exact aD e
 |xd fs=>obtain⟨_,⟨_,_,_,e,_⟩,_⟩:=x;exact aD e
 |GJ lo hi=>obtain⟨_,_,_,e⟩:=x;exact aD e
 |dY ob u=>obtain⟨e,_⟩:=x;exact aD e
 |ve ps=>exact aD (show h.get? a=aa _ from x)
 |met f y=>exact aD (show h.get? a=aa _ from x)
 |ext φ=>obtain⟨_,⟨_,e⟩,_⟩:=x;exact aD e
theorem Paired.Ag{α β:Type}{F G:α->β->Prop}:∀{l₁:List α} {l₂:List β},Paired F l₁ l₂->(∀a b,F a b->G a b)->Paired G l₁ l₂
 |_,_,.nil,_=>.nil
 |_,_,.cons r t,f=>.cons (f _ _ r) (Paired.Ag t f)
theorem jY.lU(x:jY P w H h a o)(k:∀b u,(b=a\/H b=aa (.own a))->h.get? b=aa u->h'.get? b=aa u)
  (ho:∀b,H b=aa (.own a)->H' b=aa (.own a)) (ht:∀b xs,H b=aa (.tup xs)->H' b=aa (.tup xs)):jY P w H' h' a o:=by
 induction o with
 |lst xs=>obtain⟨z,cA,n,r,e⟩:=x;exact⟨z,cA,n,r,k _ _ (.inl rfl) e⟩
 |tup xs=>obtain⟨z,cA,r,ob,e,c⟩:=x;exact⟨z,cA,r,ob,k _ _ (.inl rfl) e,c⟩
 |dK kvs=>obtain⟨z,y,vs,r,ob,es,ep,e,c⟩:=x;exact⟨z,y,vs,r,ob,es,ep,k _ _ (.inl rfl) e,c⟩
 | dT kvs=>
   obtain⟨z,y,xs,r,ob,es,ep,e,c⟩:=x;exact⟨z,y,xs,Paired.Ag r λp q z=>⟨z.1,ht _ _ z.2.1,z.2.2⟩,ob,es,ep,k _ _ (.inl rfl) e,c⟩
 |set S n=>obtain⟨ob,es,ep,t,e,c⟩:=x;exact⟨ob,es,ep,t,k _ _ (.inl rfl) e,c⟩
 | ins C dx fs=>
   obtain⟨d,z,ne,e,mA,⟨od,es,ep,e2,c⟩,r⟩:=x;exact⟨ho _ d,z,ne,k _ _ (.inl rfl) e,mA,⟨od,es,ep,k _ _ (.inr d) e2,c⟩,r⟩
 |own y=>obtain⟨ob,e⟩:=x;exact⟨ob,k _ _ (.inl rfl) e⟩
 |xd fs=>obtain⟨mA,⟨od,es,ep,e,c⟩,r⟩:=x;exact⟨mA,⟨od,es,ep,k _ _ (.inl rfl) e,c⟩,r⟩
 |GJ lo hi=>obtain⟨t,u,v,e⟩:=x;exact⟨t,u,v,k _ _ (.inl rfl) e⟩
 |dY ob u ih=>obtain⟨e,q⟩:=x;exact⟨k _ _ (.inl rfl) e,ih q⟩
 | ve ps=>
   have e:h.get? a=aa { cls:=.none,data:=.fields ps }:=x;show h'.get? a=aa { cls:=.none,data:=.fields ps };exact k a _ (.inl rfl) e
 | met f y=>
   have e:h.get? a=aa (W.methodObj (.ref f) (.ref y)):=x;show h'.get? a=aa (W.methodObj (.ref f) (.ref y));exact k a _ (.inl rfl) e
 |ext φ=>obtain⟨p,⟨o,e⟩,st⟩:=x;exact⟨st _ _ p λo q=>k _ _ (.inl rfl) q,⟨o,k _ _ (.inl rfl) e⟩,st⟩
theorem iE.lt(x:iE P w H h)(e:H a=aa o):a<h.objs.size:=(x a o e).lt
theorem iE.fresh(x:iE P w H h)(e:h.objs.size<=a):H a=ae:=by
 cases q:H a with
 |none=>rfl
 |some u=>exact absurd (ax (x.lt q) e) (cQ _)
theorem iE.kept(x:iE P w H h)(k:∀b u,h.get? b=aa u->h'.get? b=aa u):iE P w H h':=λa o e=>
 (x a o e).lU (λb u _ q=>k b u q) (λ_ q=>q) λ_ _ q=>q
theorem iE.laid(x:iE P w H h)(k:∀b u,h.get? b=aa u->h'.get? b=aa u)(hp:h.objs.size<=a)(new:jY P w (upd H a o) h' a o):iE P w (upd H a o) h':=λb u e=>by
 have hn:=x.fresh hp;by_cases hb:b=a
 .subst hb;rw[fE] at e;cases e;exact new
 .rw[c4 hb] at e
  exact(x b u e).lU (λc v _ q=>k c v q) (λc q=>by rw[c4 (sS q hn)];exact q) λc xs q=>by rw[c4 (sS q hn)];exact q
end
def Rd(H:Hp)(a:aj)(u:HO):Prop:=H a=aa u\/∃o,H a=aa (.dY o u)
theorem Rd.ok{P:aX}{w:bB}{H:Hp}{h:bO}{a:aj}{u:HO}(r:Rd H a u)(x:iE P w H h):jY P w H h a u:=by
 rcases r with r | ⟨o,r⟩
 .exact x a u r
 .obtain⟨_,q⟩:=x a _ r
  exact q
def DV:Option HO->Prop
 |some (.lst _)=>True
 |some (.dK _)=>True
 |some (.dT _)=>True
 |some (.set _ _)=>True
 |some (.ins _ _ _)=>True
 |some (.ext _)=>True
 |_=>False
section
variable {P:aX}{w:bB}{H:Hp}{h h':bO}{x e:aj}{o':HO}
theorem iE.write(ok:iE P w H h)(mu:DV (H x))(he:e=x\/H e=aa (.own x))(k:∀b u,b≠e->h.get? b=aa u->h'.get? b=aa u)(Ci:∃u,h'.get? e=aa u)
  (new:jY P w (upd H x o') h' x o'):iE P w (upd H x o') h':=λb u q=>by
 have DW:∀c y,H c=aa (.own y)->c≠x:=λc y r z=>by subst z;rw[r] at mu;exact mu
 have J6:∀c xs,H c=aa (.tup xs)->c≠x:=λc xs r z=>by subst z;rw[r] at mu;exact mu
 by_cases hb:b=x
 .subst hb;rw[fE] at q;cases q;exact new
 .rw[c4 hb] at q
  by_cases Ah:b=e
  .have q':H b=aa (.own x):=by
    rcases he with z | z
    .exact absurd (Ah.trans z) hb
    .rw[Ah];exact z
   rw[q] at q';cases q';obtain⟨v,hv⟩:=Ci;exact⟨v,by rw[Ah];exact hv⟩
  .refine(ok b u q).lU (λc v hc r=>k c v ?_ r) (λc r=>by rw[c4 (DW c b r)];exact r) λc xs r=>by rw[c4 (J6 c xs r)];exact r
   rcases hc with rfl | hc
   .exact Ah
   .rintro rfl
    rcases he with z | z
    .exact DW c b hc z
    .rw[hc] at z;cases z;exact hb rfl
end
structure Un(fs ex:List aj)(H H':Hp)(h h':bO):Prop where
 keep:∀b o,h.get? b=aa o->H b=ae->b∉fs->b∉ex->h'.get? b=aa o
 slot:∀b o,h.get? b=aa o->H b=ae->b∈fs->b∉ex->∃sl,h'.get? b=aa { o with slots:=sl }
 free:∀b o,h.get? b=aa o->H b=ae->b∉ex->H' b=ae
 there:∀b o,h.get? b=aa o->b∉ex->∃o',h'.get? b=aa o'
 tups:∀b xs,H b=aa (.tup xs)->H' b=aa (.tup xs)
 frzs:∀b o u,H b=aa (.dY o u)->H' b=aa (.dY o u)
 tbls:∀b ps,H b=aa (.ve ps)->∃more,H' b=aa (.ve (ps++more))
section
variable {fs wC ex ex':List aj}{H H1 H2:Hp}{h h1 h2 h':bO}{a x e:aj}{o:HO}
theorem Un.any(u:Un fs ex H H1 h h1){b:aj}{ob:Obj}(q:h.get? b=aa ob)(n:H b=ae)(hx:b∉ex):∃sl,h1.get? b=aa { ob with slots:=sl }:=by
 by_cases hb:b∈fs
 .exact u.slot b ob q n hb hx
 .exact⟨ob.slots,u.keep b ob q n hb hx⟩
theorem Un.kept(k:∀b u,h.get? b=aa u->h'.get? b=aa u):Un fs ex H H h h':=
 ⟨λb ob q _ _ _=>k b ob q,λb ob q _ _ _=>⟨ob.slots,k b ob q⟩,λ_ _ _ n _=>n,λb ob q _=>⟨ob,k b ob q⟩,λ_ _ q=>q,λ_ _ _ q=>q,λ_ ps q=>⟨#[],by rw[q];simp⟩⟩
theorem Un.refl:Un fs ex H H h h:=Un.kept λ_ _ q=>q
theorem Un.laid(k:∀b u,h.get? b=aa u->h'.get? b=aa u)(hp:h.objs.size<=a)(hn:H a=ae):Un fs ex H (upd H a o) h h' where
 keep:=λb u q _ _ _=>k b u q
 slot:=λb u q _ _ _=>⟨u.slots,k b u q⟩
 free:=λb u q n _=>by rw[c4 (aS (ax (aD q) hp))];exact n
 there:=λb u q _=>⟨u,k b u q⟩
 tups:=λb xs q=>by rw[c4 (sS q hn)];exact q
 frzs:=λb u xs q=>by rw[c4 (sS q hn)];exact q
 tbls:=λb ps q=>⟨#[],by rw[c4 (sS q hn),q];simp⟩
theorem Un.write(mu:DV (H x))(he:e=x\/H e=aa (.own x))(k:∀b u,b≠e->h.get? b=aa u->h'.get? b=aa u)(Ci:∃u,h'.get? e=aa u):Un fs ex H (upd H x o) h h':=by
 have hx:∀b,H b=ae->b≠x:=λb n z=>by subst z;rw[n] at mu;exact mu
 have hb:∀b,H b=ae->b≠e:=λb n z=>by
  subst z;rcases he with r | r
  .exact hx b n r
  .rw[n] at r;cases r
 have hm:∀b u,H b=aa u->¬DV (aa u)->b≠x:=λb u q nm z=>by subst z;rw[q] at mu;exact nm mu
 refine⟨λb u q n _ _=>k b u (hb b n) q,λb u q n _ _=>⟨u.slots,k b u (hb b n) q⟩,λb u q n _=>by rw[c4 (hx b n)];exact n,λb u q _=>?_,
  λb xs q=>by rw[c4 (hm b _ q λz=>z)];exact q,λb u xs q=>by rw[c4 (hm b _ q λz=>z)];exact q,λb ps q=>⟨#[],by rw[c4 (hm b _ q λz=>z),q];simp⟩⟩
 by_cases Ah:b=e
 .subst Ah;exact Ci
 .exact⟨u,k b u Ah q⟩
end
def GK(h:bO)(H:Hp):List aj:=(d5 h.objs.size).filter λa=>(H a).isSome
def pk(h:bO)(H:Hp):bO:=W.hideAll h (GK h H)
theorem WH(h:bO)(H:Hp):(pk h H).objs.size=h.objs.size:=W.hideAll_size _ _
theorem WI{h:bO}{H:Hp}{b:aj}{o:Obj}(e:h.get? b=aa o)(n:H b=ae):(pk h H).get? b=aa o:=
 W.hideAll_get _ e λhm=>by
  have q:(H b).isSome=true:=(bh.mp hm).2;rw[n] at q;simp at q
theorem WJ{h:bO}{H:Hp}{b:aj}{o:Obj}(e:(pk h H).get? b=aa o):h.get? b=aa o/\H b=ae:=by
 have e':h.get? b=aa o:=W.of_hideAll (GK h H) e;refine⟨e',?_⟩;cases q:H b with
 |none=>rfl
 | some x=>
   have hm:b∈GK h H:=bh.mpr ⟨gu.mpr (aD e'),by simp[q]⟩;have z:(pk h H).get? b=ae:=W.hideAll_none (GK h H) hm;rw[z] at e;cases e
def WK(g h:bO)(L:aj):List (aj×Obj):=(d5 h.objs.size).filterMap λa=>if a=L\/(g.get? a).isSome=true then ae else(h.get? a).map λo=>(a,o)
def hU(g h:bO)(L d:aj):List (aj×Obj):=(WK g h L).filter λp=>decide (p.1≠d)
structure Mod(K:W.Frag)(mg:Str->Option af)(base:bO):Prop where
 Cj:K.In base
 glob:base.Ns bq mg
 blt:∃mb,base.Ns B5 mb/\∀x:Str,x ≠ "__name__" -> mb x=dO x
 nolimit:base.NoLimit
structure Cx where
 prog:aX
 w:bB
 K:W.Frag
 mg:Str->Option af
 base:bO
 A:cf
 N:List Str
 s₀:ar
 H₀:Hp
 env:Env
 outer:List Env
 stack:List Env
 ex:List aj
 fn:Str->Bool
 calm:Bool
 pn:List (aj×Obj)
 xe:af->ar->Prop
 kn:List (Option V):=[]
def j8(l:List Env):List aj:=l.filterMap (·.frame)
abbrev Cx.fs(X:Cx):List aj:=j8 X.outer
def Ai(sc:ig)(x:Str):Prop:=sc.names.lookup x=aa .local\/sc.names.lookup x=aa .cell\/sc.names.lookup x=aa .free
def Loc(sc:ig)(x:Str):Prop:=sc.names.lookup x=aa .local\/sc.names.lookup x=aa .cell
def Look(env:Env)(h:bO)(m:Str->Option af)(x:Str)(u:af):Prop:=
 (env.kindOf x=aa .local/\m x=aa u)\/((env.kindOf x=aa .cell\/env.kindOf x=aa .free)/\∃c,env.cells.lookup x=aa c/\h.IsCell c (aa u))
structure Cx.Ok(X:Cx):Prop where
 mod:Mod X.K X.mg X.base
 kind:X.env.scope.kind=.function
 glob:X.env.globals=bq
 blt:X.env.builtins=B5
 above:X.s₀.heap.objs.size<=X.env.locals
 inj:∀x y c,X.env.cells.lookup x=aa c->X.env.cells.lookup y=aa c->x=y
 has:∀x,(X.env.kindOf x=aa .cell\/X.env.kindOf x=aa .free)->∃c,X.env.cells.lookup x=aa c
 DX:∀x c,X.fn x=true->X.env.cells.lookup x=aa c->X.s₀.heap.objs.size<=c
 hd:X.calm=true->X.A.handled=ae
 frames:X.A.frames=aa X.stack
 GL:X.stack=X.outer\/(X.stack=X.env::X.outer/\X.env.frame=aa X.env.locals)
 GN:∀b∈X.ex,b≠X.env.locals/\∀x c,X.env.cells.lookup x=aa c->c≠b
 bs:∀b o,X.base.get? b=aa o->X.s₀.heap.get? b=aa o/\X.H₀ b=ae
 xh:X.base.objs.size<=X.s₀.heap.objs.size
 vf:∀b o,X.base.get? b=aa o->b∉X.ex
 tS:∀b∈X.ex,b∉X.fs
 mI:X.s₀.heap.FunFrames X.base X.outer
 Aj:∀b∈X.fs,X.H₀ b=ae
structure Inv(X:Cx)(ag:List (aj×Obj))(σ:List (Option V))(H:Hp)(s:ar):Prop where
 ok:X.Ok
 os:s.os=X.s₀.os
 bare:jH s.gens
 base:Un X.fs X.ex X.H₀ H X.s₀.heap s.heap
 loc:∃m,s.heap.Ns X.env.locals m/\∀(i:Nat) (x:Str) (v:V),X.N[i]?=aa x->σ[i]?=aa (aa v)->Ai X.env.scope x->∃u,RelV v u/\Look X.env s.heap m x u
 cell:∀x c,X.env.cells.lookup x=aa c->∃v,s.heap.IsCell c v
 free:H X.env.locals=ae
 iq:∀x c,X.env.cells.lookup x=aa c->H c=ae
 pin:∀p∈X.pn++ag,s.heap.get? p.1=aa p.2/\H p.1=ae/\p.1≠X.env.locals/\p.1∉X.fs/\∀v,p.2.data≠.cell v
 cB:iE X.prog X.w H s.heap
 len:σ.length=X.N.length
 kn:∀(i:Nat) (v:V),X.kn[i]?=aa (aa v)->σ[i]?=aa (aa v)
section
variable {X:Cx}{ag:List (aj×Obj)}{σ:List (Option V)}{H H':Hp}{s:ar}{h':bO}
theorem Cx.Ok.J7(ok:X.Ok){b:aj}{o:Obj}(e:X.base.get? b=aa o):b∉X.fs:=λhb=>by
 have:=(ok.mI.mem hb).1;rw[e] at this;cases this
theorem Inv.bs(I:Inv X ag σ H s):∀b o,X.base.get? b=aa o->s.heap.get? b=aa o/\H b=ae:=λb o e=>
 ⟨I.base.keep b o (I.ok.bs b o e).1 (I.ok.bs b o e).2 (I.ok.J7 e) (I.ok.vf b o e),I.base.free b o (I.ok.bs b o e).1 (I.ok.bs b o e).2 (I.ok.vf b o e)⟩
theorem Inv.bk(I:Inv X ag σ H s):∀b o,X.base.get? b=aa o->s.heap.get? b=aa o:=λb o e=>(I.bs b o e).1
theorem Inv.mod(I:Inv X ag σ H s):Mod X.K X.mg X.base:=I.ok.mod
theorem Inv.jq(I:Inv X ag σ H s):X.K.In s.heap:=I.ok.mod.Cj.keeps I.bk
theorem Inv.fr(I:Inv X ag σ H s):∃m,Fr X.base X.env.locals s.heap m:=
 let ⟨m,hn,_⟩:=I.loc
 ⟨m,hn,I.bk,bt I.ok.xh I.ok.above⟩
theorem Inv.lt(I:Inv X ag σ H s):X.env.locals<s.heap.objs.size:=let ⟨_,hn,_⟩:=I.loc;hn.lt
theorem Inv.sz(I:Inv X ag σ H s):X.s₀.heap.objs.size<=s.heap.objs.size:=bt I.ok.above (mW I.lt)
theorem Inv.J8(I:Inv X ag σ H s){a:aj}(h:s.heap.objs.size<=a):a∉X.fs:=λhb=>by
 obtain⟨_,o,ho,_⟩:=I.ok.mI.mem hb;exact absurd (ax (aD ho) (bt I.sz h)) (cQ _)
theorem Inv.xi(I:Inv X ag σ H s):∀x c,X.env.cells.lookup x=aa c->c≠X.env.locals:=λx c e z=>by
 obtain⟨v,o,ho,hd⟩:=I.cell x c e;obtain⟨m,⟨o',es,ep,wD,wF,_⟩,_⟩:=I.loc;rw[z,wD] at ho;cases ho;rw[wF] at hd;cases hd
theorem Inv.mI(I:Inv X ag σ H s):s.heap.FunFrames X.base X.outer:=by
 have all:∀(l:List Env),(∀b∈j8 l,b∈X.fs)->X.s₀.heap.FunFrames X.base l->s.heap.FunFrames X.base l:=by
  intro l
  induction l with
  |nil=>intro _ _;trivial
  | cons env r ih=>
    intro hs hl;obtain⟨hk,⟨L,o,hf,hn,ho,hd⟩,hr⟩:=hl;have hL:L∈X.fs:=hs L (by unfold j8;rw[k9,hf];exact ay);obtain⟨sl,e⟩:=I.base.slot L o ho (I.ok.Aj L hL) hL λz=>I.ok.tS L z hL;exact⟨hk,⟨L,_,hf,hn,e,hd⟩,ih (λb hb=>hs b (by unfold j8;rw[k9,hf];exact au _ hb)) hr⟩
 exact all X.outer (λ_ hb=>hb) I.ok.mI
theorem Inv.stack(I:Inv X ag σ H s):s.heap.FunFrames X.base X.stack:=by
 rcases I.ok.GL with e | ⟨e,hf⟩
 .rw[e];exact I.mI
 .rw[e]
  obtain⟨m,hn,_⟩:=I.loc;refine .cons (by rw[I.ok.kind];decide) hf hn ?_ I.mI;exact Heap.get?_none_of_le (bt I.ok.xh I.ok.above)
theorem Inv.rN(I:Inv X ag σ H s):∀b∈j8 X.stack,b∈X.env.locals::X.fs:=λb hb=>by
 rcases I.ok.GL with e | ⟨e,hf⟩
 .rw[e] at hb;exact au _ hb
 .rw[e] at hb
  unfold j8 at hb;rw[k9,hf] at hb;exact hb
theorem Inv.lB(I:Inv X ag σ H s):∀b∈j8 X.stack,H b=ae:=λb hb=>by
 rcases aF.mp (I.rN b hb) with e | hb
 .rw[e];exact I.free
 .obtain⟨_,o,ho,_⟩:=I.ok.mI.mem hb
  exact I.base.free b o ho (I.ok.Aj b hb) λz=>I.ok.tS b z hb
theorem Inv.step{g':Array GenState}{t':Nat}{d':Drawn}{ch:List aj}(I:Inv X ag σ H s)
  (wG:∀b∈ch,(b∈X.ex\/X.s₀.heap.objs.size<=b)/\b≠X.env.locals/\(∀x c,X.env.cells.lookup x=aa c->c≠b)/\∀p∈X.pn++ag,p.1≠b)
  (keep:∀b o,b≠X.env.locals->b∉X.fs->b∉ch->s.heap.get? b=aa o->H b=ae->h'.get? b=aa o)
  (slot:∀b o,b≠X.env.locals->b∈X.fs->b∉ch->s.heap.get? b=aa o->H b=ae->∃sl,h'.get? b=aa { o with slots:=sl }) (free:∀b o,b∉ch->s.heap.get? b=aa o->H b=ae->H' b=ae)
  (there:∀b o,b∉ch->s.heap.get? b=aa o->∃o',h'.get? b=aa o')
  (tups:∀b xs,H b=aa (.tup xs)->H' b=aa (.tup xs)) (frzs:∀b o u,H b=aa (.dY o u)->H' b=aa (.dY o u)) (tbls:∀b ps,H b=aa (.ve ps)->∃more,H' b=aa (.ve (ps++more)))
  (ns:∀m,s.heap.Ns X.env.locals m->h'.Ns X.env.locals m) (cB:iE X.prog X.w H' h') (hg:jH g') :
  Inv X ag σ H' { s with heap:=h',gens:=g',drawn:=d',toks:=t' }:=by
 have PM:∀b o,X.s₀.heap.get? b=aa o->b≠X.env.locals:=λb o e=>aS (ax (aD e) I.ok.above);have GO:∀b o,X.s₀.heap.get? b=aa o->b∉X.ex->b∉ch:=λb o e hx hb=>by
  rcases(wG b hb).1 with z | z
  .exact hx z
  .exact absurd (ax (aD e) z) (cQ _)
 have zd:∀x c,X.env.cells.lookup x=aa c->∀v,s.heap.IsCell c v->h'.IsCell c v:=λx c e v ⟨o,ho,hd⟩=>by
  have DY:c∉ch:=λz=>(wG c z).2.2.1 x c e rfl;by_cases hc:c∈X.fs
  .obtain⟨sl,q⟩:=slot c o (I.xi x c e) hc DY ho (I.iq x c e)
   exact⟨_,q,hd⟩
  .exact⟨o,keep c o (I.xi x c e) hc DY ho (I.iq x c e),hd⟩
 refine⟨I.ok,I.os,hg,⟨λb o e n hb hx=>?_,λb o e n hb hx=>?_,λb o e n hx=>?_,λb o e hx=>?_,λb xs e=>tups b xs (I.base.tups b xs e),λb o xs e=>frzs b o xs (I.base.frzs b o xs e),λb ps e=>?_⟩,?_,λx c e=>?_,?_,λx c e=>?_,λp hp=>?_,cB,I.len,I.kn⟩
 .exact keep b o (PM b o e) hb (GO b o e hx) (I.base.keep b o e n hb hx) (I.base.free b o e n hx)
 .obtain⟨sl,e1⟩:=I.base.slot b o e n hb hx
  obtain⟨Ck,e2⟩:=slot b _ (PM b o e) hb (GO b o e hx) e1 (I.base.free b o e n hx);exact⟨Ck,e2⟩
 .obtain⟨o',e1⟩:=I.base.there b o e hx
  exact free b o' (GO b o e hx) e1 (I.base.free b o e n hx)
 .obtain⟨o',e1⟩:=I.base.there b o e hx
  exact there b o' (GO b o e hx) e1
 .obtain⟨m1,e1⟩:=I.base.tbls b ps e
  obtain⟨m2,e2⟩:=tbls b _ e1;exact⟨m1++m2,by rw[e2,uF]⟩
 .obtain⟨m,hn,hl⟩:=I.loc
  refine⟨m,ns m hn,λi x v e1 e2 e3=>?_⟩;obtain⟨u,r,l⟩:=hl i x v e1 e2 e3;refine⟨u,r,?_⟩;rcases l with l | ⟨k,c,e,z⟩
  .exact .inl l
  .exact .inr ⟨k,c,e,zd x c e _ z⟩
 .obtain⟨v,z⟩:=I.cell x c e
  exact⟨v,zd x c e v z⟩
 .obtain⟨m,⟨o,_,_,ho,_⟩,_⟩:=I.loc
  exact free _ o (λz=>(wG _ z).2.1 rfl) ho I.free
 .obtain⟨v,o,ho,hd⟩:=I.cell x c e
  exact free c o (λz=>(wG c z).2.2.1 x c e rfl) ho (I.iq x c e)
 .obtain⟨e,n,ne,nf,d⟩:=I.pin p hp
  have DY:p.1∉ch:=λz=>(wG p.1 z).2.2.2 p hp rfl;exact⟨keep p.1 p.2 ne nf DY e n,free p.1 p.2 DY e n,ne,nf,d⟩
theorem Inv.un{t':Nat}(I:Inv X ag σ H s)(u:Un X.fs [] H H' s.heap h')(cB:iE X.prog X.w H' h'):Inv X ag σ H' { s with heap:=h',toks:=t' }:=by
 obtain⟨m,⟨o,es,ep,ho,r⟩,_⟩:=id I.loc;obtain⟨sl,hL⟩:=u.any ho I.free (by simp);exact I.step (g':=s.gens) (d':=s.drawn) (ch:=[]) (λ_ z=>nomatch z) (λb o _ hb _ e n=>u.keep b o e n hb (by simp)) (λb o _ hb _ e n=>u.slot b o e n hb (by simp)) (λb o _ e n=>u.free b o e n (by simp)) (λb o _ e=>u.there b o e (by simp)) u.tups u.frzs u.tbls (λm' hm=>by
  obtain⟨o',Ak,Al,wD,r'⟩:=hm;rw[ho] at wD;cases wD;exact⟨_,Ak,Al,hL,r'⟩) cB I.bare
theorem Inv.call{g':Array GenState}{t':Nat}{d':Drawn}{ch:List aj}(I:Inv X ag σ H s)(u:Un (j8 X.stack) ch H H' s.heap h')(cB:iE X.prog X.w H' h')(hg:jH g')
  (wG:∀b∈ch,(b∈X.ex\/X.s₀.heap.objs.size<=b)/\b≠X.env.locals/\(∀x c,X.env.cells.lookup x=aa c->c≠b)/\∀p∈X.pn++ag,p.1≠b) :
  Inv X ag σ H' { s with heap:=h',gens:=g',drawn:=d',toks:=t' }:=by
 obtain⟨m,⟨o,es,ep,ho,r⟩,_⟩:=id I.loc;obtain⟨sl,hL⟩:=u.any ho I.free λz=>(wG _ z).2.1 rfl;exact I.step (ch:=ch) wG (λb o hL hb hc e n=>u.keep b o e n (λz=>(aF.mp (I.rN b z)).elim hL hb) hc) (λb o _ _ hc e n=>u.any e n hc) (λb o hc e n=>u.free b o e n hc) (λb o hc e=>u.there b o e hc) u.tups u.frzs u.tbls (λm' hm=>by
  obtain⟨o',Ak,Al,wD,r'⟩:=hm;rw[ho] at wD;cases wD;exact⟨_,Ak,Al,hL,r'⟩) cB hg
theorem Inv.turned{t':Nat}{it:aj}(I:Inv X ag σ H s)(k:∀b o,b≠it->s.heap.get? b=aa o->h'.get? b=aa o)(hn:H it=ae)(hL:it≠X.env.locals)
  (h1:it∈X.ex\/X.s₀.heap.objs.size<=it) (h2:∀x c,X.env.cells.lookup x=aa c->c≠it) (h3:∀p∈X.pn++ag,p.1≠it):Inv X ag σ H { s with heap:=h',toks:=t' }:=by
 have PN:∀b u,H b=aa u->b≠it:=λb u e z=>by rw[z,hn] at e;cases e
 refine I.step (g':=s.gens) (d':=s.drawn) (ch:=[it]) (λb hb=>?_) (λb o _ _ hc e _=>k b o (λz=>hc (by simp[z])) e) (λb o _ _ hc e _=>⟨o.slots,k b o (λz=>hc (by simp[z])) e⟩) (λ_ _ _ _ n=>n)
  (λb o hc e=>⟨o,k b o (λz=>hc (by simp[z])) e⟩) (λ_ _ e=>e) (λ_ _ _ e=>e) (λb ps e=>⟨#[],by rw[e];simp⟩) (λm hm=>?_) (λb u e=>?_) I.bare
 .have e:b=it:=by simpa using hb
  subst e;exact⟨h1,hL,h2,h3⟩
 .obtain⟨o,es,ep,ho,r⟩:=hm
  exact⟨o,es,ep,k _ o (bZ hL) ho,r⟩
 .refine(I.cB b u e).lU (λc v hc q=>k c v ?_ q) (λ_ q=>q) λ_ _ q=>q
  rcases hc with z | z
  .rw[z];exact PN b u e
  .exact PN c _ z
theorem Inv.tok(I:Inv X ag σ H s)(t:Nat):Inv X ag σ H { s with toks:=t }:=I.un (h':=s.heap) (t':=t) Un.refl I.cB
theorem Inv.kept{t':Nat}(I:Inv X ag σ H s)(k:∀b u,s.heap.get? b=aa u->h'.get? b=aa u):Inv X ag σ H { s with heap:=h',toks:=t' }:=I.un (Un.kept k) (I.cB.kept k)
theorem Inv.laid{a:aj}{o:HO}{t':Nat}(I:Inv X ag σ H s)(k:∀b u,s.heap.get? b=aa u->h'.get? b=aa u)(hp:s.heap.objs.size<=a)(new:jY X.prog X.w (upd H a o) h' a o) :
 Inv X ag σ (upd H a o) { s with heap:=h',toks:=t' }:=I.un (Un.laid k hp (I.cB.fresh hp)) (I.cB.laid k hp new)
theorem Inv.write{x e:aj}{o:HO}{t':Nat}(I:Inv X ag σ H s)(mu:DV (H x))(he:e=x\/H e=aa (.own x))(k:∀b u,b≠e->s.heap.get? b=aa u->h'.get? b=aa u)(Ci:∃u,h'.get? e=aa u)
 (new:jY X.prog X.w (upd H x o) h' x o):Inv X ag σ (upd H x o) { s with heap:=h',toks:=t' }:=I.un (Un.write mu he k Ci) (I.cB.write mu he k Ci new)
theorem Inv.weak{σ':List (Option V)}(I:Inv X ag σ H s)(hl:σ'.length=σ.length)(w:∀(i:Nat) v,σ'[i]?=aa (aa v)->σ[i]?=aa (aa v))(wk:∀(i:Nat) (v:V),X.kn[i]?=aa (aa v)->σ'[i]?=aa (aa v)):Inv X ag σ' H s:=
 ⟨I.ok,I.os,I.bare,I.base,let ⟨m,hn,GP⟩:=I.loc;⟨m,hn,λi x v e1 e2 e3=>GP i x v e1 (w i v e2) e3⟩,I.cell,I.free,I.iq,I.pin,I.cB,hl.trans I.len,wk⟩
theorem Inv.mY{ir:List (aj×Obj)}(I:Inv X ag σ H s)(h:∀p∈ir,s.heap.get? p.1=aa p.2/\H p.1=ae/\p.1≠X.env.locals/\p.1∉X.fs/\∀v,p.2.data≠.cell v):Inv X ir σ H s:=
 ⟨I.ok,I.os,I.bare,I.base,I.loc,I.cell,I.free,I.iq,λp hp=>(aH.mp hp).elim (λz=>I.pin p (bw _ z)) (h p),I.cB,I.len,I.kn⟩
theorem J9{N:List Str}(hN:N.Nodup){i j:Nat}{x:Str}(a:N[i]?=aa x)(b:N[j]?=aa x):i=j:=by
 obtain⟨h1,e1⟩:=ao.mp a;obtain⟨h2,e2⟩:=ao.mp b;exact(List.getElem_inj hN).mp (e1.trans e2.symm)
theorem J_{M:u3}{A:cf}{E:af->ar->Prop}{i:Nat}{x:Str}{v:V}{u:af}{Q:Unit->ar->Prop}(I:Inv X ag σ H s)(hN:X.N.Nodup)(hi:X.N[i]?=aa x)(hx:Loc X.env.scope x)(r:RelV v u)
  (h:∀s',Inv X ag (σ.set i (aa v)) H s'->(∃a,fG a s.heap s'.heap/\(a=X.env.locals\/X.env.cells.lookup x=aa a))->Q () s') (hf:X.fn x=true\/X.env.scope.names.lookup x=aa .local:=by first | exact .inl rfl | exact .inr rfl | assumption) (hkn:∀u:V,X.kn[i]?≠aa (aa u):=by first | assumption | exact λu h=>nomatch (show(ae:Option (Option V))=aa (aa u) from h) | exact λu h=>nomatch (bg (show aa (ae:Option V)=aa (aa u) from h))):wpAny M A (storeName X.env x u) Q E s:=by
 obtain⟨m,hn,hl⟩:=id I.loc;have Am:(X.env.scope.kind==.class || (X.env.scope.kind==.module&&X.env.locals != X.env.globals))=false:=by rw[I.ok.kind];rfl
 have Cm:i < σ.length:=by rw[I.len];exact(ao.mp hi).1
 have xi:=I.xi;have PQ:∀(j:Nat) (v':V),X.kn[j]?=aa (aa v')->(σ.set i (aa v))[j]?=aa (aa v'):=λj v' e=>by
  by_cases hj:j=i
  .subst hj;exact absurd e (hkn v')
  .rw[cn (bZ hj)];exact I.kn j v' e
 have sU:∀{a:aj} {h':bO},(∃o,s.heap.get? a=aa o/\H a=ae)->fG a s.heap h'->iE X.prog X.w H h':=λ{a h'} ha hs b ob e=>by
  obtain⟨_,_,sV⟩:=ha;refine(I.cB b ob e).lU (λc w' hc q=>(hs.2 c ?_).trans q) (λ_ q=>q) λ_ _ q=>q;rintro rfl;rcases hc with rfl | hc
  .rw[sV] at e;cases e
  .rw[sV] at hc;cases hc
 rcases hx with hk | hk
 .refine wpAny_storeName_local hk hn (λh' Cn hs=>?_) Am
  obtain⟨oL,_,_,WL,_⟩:=id hn;refine h _ ⟨I.ok,I.os,I.bare,⟨λb o e n hb hx=>?_,λb o e n hb hx=>?_,I.base.free,λb o e hx=>?_,I.base.tups,I.base.frzs,I.base.tbls⟩,⟨_,Cn,λj y v' e1 e2 e3=>?_⟩,λy c e=>?_,I.free,I.iq,λp hp=>?_,sU ⟨oL,WL,I.free⟩ hs,by simpa using I.len,PQ⟩ ⟨_,hs,.inl rfl⟩
  .exact(hs.2 b (aS (ax (aD e) I.ok.above))).trans (I.base.keep b o e n hb hx)
  .obtain⟨sl,e1⟩:=I.base.slot b o e n hb hx
   exact⟨sl,(hs.2 b (aS (ax (aD e) I.ok.above))).trans e1⟩
  .obtain⟨o',e1⟩:=I.base.there b o e hx
   exact⟨o',(hs.2 b (aS (ax (aD e) I.ok.above))).trans e1⟩
  .by_cases hj:j=i
   .subst hj
    rw[hi] at e1;cases e1;rw[cY Cm] at e2;cases e2;exact⟨u,r,.inl ⟨hk,by simp⟩⟩
   .rw[cn (bZ hj)] at e2
    obtain⟨u',r',q⟩:=hl j y v' e1 e2 e3;refine⟨u',r',?_⟩;rcases q with⟨k,e⟩ | ⟨k,c,e,z⟩
    .refine .inl ⟨k,?_⟩
     have:y≠x:=λe=>hj (J9 hN e1 (e▸hi));simp[this,e]
    .exact .inr ⟨k,c,e,z.sameBut hs (xi y c e)⟩
  .obtain⟨w',z⟩:=I.cell y c e
   exact⟨w',z.sameBut hs (xi y c e)⟩
  .obtain⟨e,n,ne,nf,d⟩:=I.pin p hp
   exact⟨(hs.2 p.1 ne).trans e,n,ne,nf,d⟩
 .have J':X.fn x=true:=by
   rcases hf with z | z
   .exact z
   .rw[z] at hk;cases hk
  obtain⟨c,hc⟩:=I.ok.has x (.inl hk);obtain⟨w',z⟩:=I.cell x c hc;refine wpAny_storeName_cell I.ok.kind hk hc z (λh' GQ hs=>?_);obtain⟨oc,Co,Ka⟩:=id z;refine h { s with heap:=h' } ⟨I.ok,I.os,I.bare,⟨λb o e n hb hx=>?_,λb o e n hb hx=>?_,I.base.free,λb o e hx=>?_,I.base.tups,I.base.frzs,I.base.tbls⟩,⟨m,hn.sameBut hs (bZ (xi x c hc)),λj y v' e1 e2 e3=>?_⟩,λy c' e=>?_,I.free,I.iq,λp hp=>?_,sU ⟨oc,Co,I.iq x c hc⟩ hs,by simpa using I.len,PQ⟩ ⟨c,hs,.inr hc⟩
  .exact(hs.2 b (aS (ax (aD e) (I.ok.DX x c J' hc)))).trans (I.base.keep b o e n hb hx)
  .obtain⟨sl,e1⟩:=I.base.slot b o e n hb hx
   exact⟨sl,(hs.2 b (aS (ax (aD e) (I.ok.DX x c J' hc)))).trans e1⟩
  .obtain⟨o',e1⟩:=I.base.there b o e hx
   exact⟨o',(hs.2 b (aS (ax (aD e) (I.ok.DX x c J' hc)))).trans e1⟩
  .by_cases hj:j=i
   .subst hj
    rw[hi] at e1;cases e1;rw[cY Cm] at e2;cases e2;exact⟨u,r,.inr ⟨.inl hk,c,hc,GQ⟩⟩
   .rw[cn (bZ hj)] at e2
    obtain⟨u',r',q⟩:=hl j y v' e1 e2 e3;refine⟨u',r',?_⟩;rcases q with q | ⟨k,c',e,z'⟩
    .exact .inl q
    .refine .inr ⟨k,c',e,z'.sameBut hs ?_⟩
     rintro rfl;exact hj (J9 hN e1 (I.ok.inj _ _ _ e hc▸hi))
  .by_cases GR:c'=c
   .subst GR;exact⟨_,GQ⟩
   .obtain⟨w2,z2⟩:=I.cell y c' e
    exact⟨w2,z2.sameBut hs GR⟩
  .obtain⟨e,n,ne,nf,d⟩:=I.pin p hp
   refine⟨(hs.2 p.1 ?_).trans e,n,ne,nf,d⟩;intro q;rw[q,Co] at e;have q':oc=p.2:=bg e;exact d w' (by rw[<- q'];exact Ka)
theorem GS{M:u3}{A:cf}{E:af->ar->Prop}{i:Nat}{x:Str}{v:V}{u:af}{Q:Unit->ar->Prop}(I:Inv X ag σ H s)(hN:X.N.Nodup)(hi:X.N[i]?=aa x)(hx:Loc X.env.scope x)(r:RelV v u)
  (h:∀s',Inv X ag (σ.set i (aa v)) H s'->Q () s') (hf:X.fn x=true\/X.env.scope.names.lookup x=aa .local:=by first | exact .inl rfl | exact .inr rfl | assumption) (hkn:∀u:V,X.kn[i]?≠aa (aa u):=by first | assumption | exact λu h=>nomatch (show(ae:Option (Option V))=aa (aa u) from h) | exact λu h=>nomatch (bg (show aa (ae:Option V)=aa (aa u) from h))):wpAny M A (storeName X.env x u) Q E s:=
 J_ I hN hi hx r (λs' I' _=>h s' I') hf hkn
theorem Inv.vg{s':ar}{ch:List aj}(I:Inv X ag σ H s)(ho:s'.os=s.os)(u:Un (j8 X.stack) ch H H' s.heap s'.heap)(cB:iE X.prog X.w H' s'.heap)(hg:jH s'.gens)
  (wG:∀b∈ch,(b∈X.ex\/X.s₀.heap.objs.size<=b)/\b≠X.env.locals/\(∀x c,X.env.cells.lookup x=aa c->c≠b)/\∀p∈X.pn++ag,p.1≠b):Inv X ag σ H' s':=by
 obtain⟨h',g',d',t',o'⟩:=s';have e:o'=s.os:=ho;subst e;exact I.call (g':=g') (t':=t') (d':=d') u cB hg wG
end
abbrev XK:=af->Option aj->Hp->Prop
abbrev St:=List (Option V)
abbrev VK:=V->Hp->Prop
abbrev TE:=St->Hp->VK->Prop
abbrev TT:=St->Hp->(Bool->Hp->Prop)->Prop
abbrev TA:=St->Hp->(List V->Hp->Prop)->Prop
structure Ends where
 nx:St->Hp->Prop
 rt:VK
 bk:St->Hp->Prop:=λ_ _=>False
 ct:St->Hp->Prop:=λ_ _=>False
abbrev TS:=Ends->St->Hp->Prop
def EP(X:Cx)(ag:List (aj×Obj))(σ:St)(Q:VK)(u:af)(s':ar):Prop:=∃v H',Inv X ag σ H' s'/\RelV v u/\Q v H'
def TP(X:Cx)(ag:List (aj×Obj))(σ:St)(Q:Bool->Hp->Prop)(b:Bool)(s':ar):Prop:=∃H',Inv X ag σ H' s'/\Q b H'
def AP(X:Cx)(ag:List (aj×Obj))(σ:St)(Q:List V->Hp->Prop)(us:List af)(s':ar):Prop:=∃vs H',Inv X ag σ H' s'/\cj vs us/\Q vs H'
def SP(X:Cx)(ag:List (aj×Obj))(D:Ends)(f:Flow)(s':ar):Prop:=
 match f with
 |.next=>∃σ' H',Inv X ag σ' H' s'/\D.nx σ' H'
 |.brk=>∃σ' H',Inv X ag σ' H' s'/\D.bk σ' H'
 |.cont=>∃σ' H',Inv X ag σ' H' s'/\D.ct σ' H'
 |.ret u=>∃v σ' H',Inv X ag σ' H' s'/\RelV v u/\D.rt v H'
def PE(X:Cx)(e:bo)(t:TE):Prop:=
 ∀(ag:List (aj×Obj)) (s:ar) (σ:St) (H:Hp) (Q:VK),Inv X ag σ H s->t σ H Q->wpAny (aK X.prog X.w) X.A (eval e X.env) (EP X ag σ Q) X.xe s
def PT(X:Cx)(e:bo)(t:TT):Prop:=
 ∀(ag:List (aj×Obj)) (s:ar) (σ:St) (H:Hp) (Q:Bool->Hp->Prop),Inv X ag σ H s->t σ H Q->wpAny (aK X.prog X.w) X.A (isTrue e X.env (eval e X.env)) (TP X ag σ Q) X.xe s
def PW(X:Cx)(e:bo)(t:TT):Prop:=
 ∀(ni:Sem af) (ag:List (aj×Obj)) (s:ar) (σ:St) (H:Hp) (Q:Bool->Hp->Prop),Inv X ag σ H s->t σ H Q->wpAny (aK X.prog X.w) X.A (isTrue e X.env ni) (TP X ag σ Q) X.xe s
theorem PW.pt{X:Cx}{e:bo}{t:TT}(h:PW X e t):PT X e t:=h _
def PA(X:Cx)(es:List bo)(t:TA):Prop:=
 ∀(pos:Pos) (ag:List (aj×Obj)) (s:ar) (σ:St) (H:Hp) (Q:List V->Hp->Prop),Inv X ag σ H s->t σ H Q->wpAny (aK X.prog X.w) X.A (spliced (bJ pos (av es X.env))) (AP X ag σ Q) X.xe s
def PS(X:Cx)(st:cm)(t:TS):Prop:=
 ∀(ag:List (aj×Obj)) (s:ar) (σ:St) (H:Hp) (D:Ends),Inv X ag σ H s->t D σ H->wpAny (aK X.prog X.w) X.A (exec st X.env) (SP X ag D) X.xe s
def j9(X:Cx)(st:List cm)(t:TS):Prop:=
 ∀(ag:List (aj×Obj)) (s:ar) (σ:St) (H:Hp) (D:Ends),Inv X ag σ H s->t D σ H->wpAny (aK X.prog X.w) X.A (execs st X.env) (SP X ag D) X.xe s
theorem dm{α:Type}{t:Sem α}{Q Q':α->ar->Prop}{M:u3}{A:cf}{E:af->ar->Prop}{s:ar}(h:wpAny M A t Q E s)(hQ:∀a s,Q a s->Q' a s):wpAny M A t Q' E s:=bF h hQ λ_ _ x=>x
section
variable {X:Cx}
theorem bin{a b:bo}{ta tb:TE}(ha:PE X a ta)(hb:PE X b tb){ag:List (aj×Obj)}{s:ar}{σ:St}{H:Hp}{R:V->V->Hp->Prop}(I:Inv X ag σ H s)(h:ta σ H λx H1=>tb σ H1 λy H2=>R x y H2)
  {α:Type} {Q:α->ar->Prop} {f:af->af->Sem α}
  (hf:∀v u s2 x y H2,Inv X ag σ H2 s2->RelV x v->RelV y u->R x y H2->wpAny (aK X.prog X.w) X.A (f v u) Q X.xe s2) :
  wpAny (aK X.prog X.w) X.A (eval a X.env) (λv s₁=>wpAny (aK X.prog X.w) X.A (eval b X.env) (λu s₂=>wpAny (aK X.prog X.w) X.A (f v u) Q X.xe s₂) X.xe s₁) X.xe s:=by
 refine dm (ha ag s σ H _ I h) λv s1 cN=>?_;obtain⟨x,H1,I1,r1,q1⟩:=cN;refine dm (hb ag s1 σ H1 _ I1 q1) λu s2 cN=>?_;obtain⟨y,H2,I2,r2,q2⟩:=cN;exact hf v u s2 x y H2 I2 r1 r2 q2
def lC(i:Nat):TE:=fun σ H Q=>∃v,σ[i]?=aa (aa v)/\Q v H
def tC(v:V):TE:=λ_ H Q=>Q v H
theorem uK{i:Nat}{x:Str}{pos:Pos}(hN:X.N[i]?=aa x)(hv:Ai X.env.scope x)(hd:(x==("__debug__" : Str))=false:=by decide)(tT:(x==("__classdict__" : Str))=false:=by decide):PE X (.Name x pos) (lC i):=by
 intro ag s σ H Q I h;obtain⟨v,e,h⟩:=h;obtain⟨m,hn,hl⟩:=I.loc;obtain⟨u,r,l⟩:=hl i x v hN e hv;have fO:EP X ag σ Q u s:=⟨v,H,I,r,h⟩;rcases l with⟨hk,hm⟩ | ⟨hk,c,hc,ze⟩
 .exact B6 (wpAny_loadName_local I.ok.kind hk hn hm fO) hd
 .rcases hk with hk | hk
  .exact B6 (wpAny_loadName_cell I.ok.kind hk hc ze fO) hd
  .exact B6 (wpAny_loadName_free I.ok.kind hk hc ze fO tT) hd
theorem WM{i j pos}:PE X (.Constant (.int i) j pos) (tC (.int i)):=λ_ _ _ H _ I h=>wpAny_Constant_int ⟨.int i,H,I.tok _,⟨_,rfl⟩,h⟩
theorem WN{b j pos}:PE X (.Constant (.bool b) j pos) (tC (.bl b)):=λ_ _ _ H _ I h=>Constant_bool ⟨.bl b,H,I,rfl,h⟩
theorem WO{j pos}:PE X (.Constant .none j pos) (tC .bY):=λ_ _ _ H _ I h=>Constant_none ⟨.bY,H,I,rfl,h⟩
theorem Kb{x j pos}:PE X (.Constant (.str x) j pos) (tC (.str x)):=λ_ _ _ H _ I h=>Calls.Constant_str ⟨.str x,H,I.tok _,⟨_,rfl⟩,h⟩
def Gl(X:Cx)(x:Str):Prop:=X.env.kindOf x=aa .globalImplicit
theorem xj{E:af->ar->Prop}{ag:List (aj×Obj)}{s:ar}{σ:St}{H:Hp}{x:Str}{u:af}{pos:Pos}{Q:af->ar->Prop}(I:Inv X ag σ H s)(hg:Gl X x)(hm:X.mg x=aa u)(h:Q u s)
  (hd:(x==("__debug__" : Str))=false:=by decide):wpAny (aK X.prog X.w) X.A (eval (.Name x pos) X.env) Q E s:=
 oO I.ok.kind hg (Calls.loadGlobal_global (by rw[I.ok.glob];exact I.mod.glob.keeps I.bk) hm h) hd
theorem Cp{E:af->ar->Prop}{ag:List (aj×Obj)}{s:ar}{σ:St}{H:Hp}{x:Str}{u:af}{pos:Pos}{Q:af->ar->Prop}(I:Inv X ag σ H s)(hg:Gl X x)(hm:X.mg x=ae)(hv:dO x=aa u)(h:Q u s)
  (hn:x ≠ "__name__":=by decide) (hd:(x==("__debug__" : Str))=false:=by decide):wpAny (aK X.prog X.w) X.A (eval (.Name x pos) X.env) Q E s:=by
 obtain⟨mb,h1,h2⟩:=I.mod.blt;exact oO I.ok.kind hg (Calls.loadGlobal_builtin (by rw[I.ok.glob];exact I.mod.glob.keeps I.bk) hm (by rw[I.ok.blt];exact h1.keeps I.bk) ((h2 x hn).trans hv) h) hd
theorem WQ{x:Str}{v:V}{u:af}{pos:Pos}(hg:Gl X x)(hm:X.mg x=aa u)(r:RelV v u)(hd:(x==("__debug__" : Str))=false:=by decide):PE X (.Name x pos) (tC v):=
 λ_ _ _ H _ I h=>xj I hg hm ⟨v,H,I,r,h⟩ hd
theorem WR{x:Str}{v:V}{u:af}{pos:Pos}(hg:Gl X x)(hm:X.mg x=ae)(hv:dO x=aa u)(r:RelV v u)(hn:x ≠ "__name__":=by decide)(hd:(x==("__debug__" : Str))=false:=by decide):PE X (.Name x pos) (tC v):=
 λ_ _ _ H _ I h=>Cp I hg hm hv ⟨v,H,I,r,h⟩ hn hd
variable {a b:bo}{ta tb:TE}{pos:Pos}
def PC(X:Cx)(op:u4)(a b:bo)(t:TE):Prop:=
 ∀ (ag:List (aj×Obj)) (s:ar) (σ:St) (H:Hp) (Q:VK),Inv X ag σ H s->t σ H Q ->
   wpAny (aK X.prog X.w) X.A (eval a X.env) (λv s₁=>wpAny (aK X.prog X.w) X.A (eval b X.env) (λu s₂=>wpAny (aK X.prog X.w) X.A (cM op v u) (EP X ag σ Q) X.xe s₂) X.xe s₁) X.xe s
theorem PR(b:bo){op:u4}(h:op≠.In)(h2:op≠.NotIn):cL op b=false:=by
 have e1:(op==CmpOp.In)=false:=by cases op<;>first | rfl | exact absurd rfl h
 have e2:(op==Dy)=false:=by cases op<;>first | rfl | exact absurd rfl h2
 cases b<;>simp[cL,e1,e2]
def tB(t:TE):TT:=fun σ H Q=>t σ H λx H1=>∃c,x=.bl c/\Q c H1
theorem WS{op:u4}{t:TE}(h:PC X op a b t)(h1:cL op b=false:=by first | exact PR _ (by decide) (by decide) | rfl):PE X (.Compare a [op] [b] pos) t:=λag s σ H Q I hw=>wpAny_Compare1 (h ag s σ H Q I hw) h1
theorem PU{op:u4}{t:TE}(h:PC X op a b t)(h1:cL op b=false:=by first | exact PR _ (by decide) (by decide) | rfl):PT X (.Compare a [op] [b] pos) (tB t):=by
 intro ag s σ H Q I hw;refine w6 (dm (h ag s σ H _ I hw) λv s1 h1=>dm h1 λu s2 h2=>dm h2 λc s3 cN=>?_) h1;obtain⟨x,H1,I1,r1,q1⟩:=cN;obtain⟨d,rfl,q⟩:=q1;cases r1;exact gW ⟨H1,I1,q⟩
variable {tA GU:TT}{hU:List bo}
def Kc(t u:TT):TT:=fun σ H Q=>t σ H λc H1=>if c=true then u σ H1 Q else Q false H1
def WU(t u:TT):TT:=fun σ H Q=>t σ H λc H1=>if c=true then Q true H1 else u σ H1 Q
def Kd(t:TT):TT:=fun σ H Q=>t σ H λc H1=>Q (!c) H1
theorem WV(ha:PT X a tA):PW X (.BoolOp .And [a] pos) tA:=by
 intro wh ag s σ H Q I h;refine isTrue_and (dm (ha ag s σ H Q I h) λc s1 e=>?_);cases c with
 |true=>exact isTrue_and_nil e
 |false=>exact e
theorem WW(ha:PT X a tA):PW X (.BoolOp .Or [a] pos) tA:=by
 intro wh ag s σ H Q I h;refine isTrue_or (dm (ha ag s σ H Q I h) λc s1 e=>?_);cases c with
 |false=>exact isTrue_or_nil e
 |true=>exact e
theorem WX(ha:PT X a tA)(hb:PW X (.BoolOp .And (b::hU) pos) GU):PW X (.BoolOp .And (a::b::hU) pos) (Kc tA GU):=by
 intro wh ag s σ H Q I h;refine isTrue_and (dm (ha ag s σ H _ I h) λc s1 cN=>?_);obtain⟨H1,I1,q1⟩:=cN;cases c with
 |true=>exact hb wh ag s1 σ H1 Q I1 q1
 |false=>exact⟨H1,I1,q1⟩
theorem WY(ha:PT X a tA)(hb:PW X (.BoolOp .Or (b::hU) pos) GU):PW X (.BoolOp .Or (a::b::hU) pos) (WU tA GU):=by
 intro wh ag s σ H Q I h;refine isTrue_or (dm (ha ag s σ H _ I h) λc s1 cN=>?_);obtain⟨H1,I1,q1⟩:=cN;cases c with
 |true=>exact⟨H1,I1,q1⟩
 |false=>exact hb wh ag s1 σ H1 Q I1 q1
theorem WZ(ha:PT X a tA):PT X (.UnaryOp .Not a pos) (Kd tA):=by
 intro ag s σ H Q I h;exact isTrue_not (ha ag s σ H (λc H1=>Q (!c) H1) I h)
def W7(ta tb:TE):TE:=fun σ H Q=>ta σ H λx H1=>∃c,x=.bl c/\if c=true then tb σ H1 Q else Q (.bl false) H1
theorem W8{op}{t:TE}(h:PE X a t):PE X (.BoolOp op [a] pos) t:=λag s σ H Q I hw=>BoolOp_one (h ag s σ H Q I hw)
theorem W9(ha:PE X a ta)(hb:PE X (.BoolOp .And (b::hU) pos) tb):PE X (.BoolOp .And (a::b::hU) pos) (W7 ta tb):=by
 intro ag s σ H Q I h;refine BoolOp_and (dm (ha ag s σ H _ I h) λv s1 cN=>?_);obtain⟨x,H1,I1,r1,q1⟩:=cN;obtain⟨c,rfl,q1⟩:=q1;cases r1;refine gW ?_;cases c with
 |true=>exact hb ag s1 σ H1 Q I1 q1
 |false=>exact⟨.bl false,H1,I1,rfl,q1⟩
def W_(t:TT)(ta tb:TE):TE:=fun σ H Q=>t σ H λc H1=>if c=true then ta σ H1 Q else tb σ H1 Q
theorem Xa{c:bo}(hc:PT X c tA)(ha:PE X a ta)(hb:PE X b tb):PE X (.IfExp c a b pos) (W_ tA ta tb):=by
 intro ag s σ H Q I h;refine wpAny_IfExp (dm (hc ag s σ H _ I h) λd s1 cN=>?_);obtain⟨H1,I1,q1⟩:=cN;cases d with
 |true=>exact ha ag s1 σ H1 Q I1 q1
 |false=>exact hb ag s1 σ H1 Q I1 q1
end
def mJ(K:W.Frag)(H:Hp)(a:aj)(xs:List V):Prop:=
 Rd H a (.lst xs) \/
  ∃(o:Obj) (cA:Array af) (n:Nat),K.lookup a=aa o/\o.cls=.type "list" /\ o.dict=ae/\o.data=.seq cA n/\cA.size<=sizeLine/\cj xs cA.toList
def uL(K:W.Frag)(H:Hp)(a:aj)(xs:List V):Prop:=
 Rd H a (.tup xs) \/
  ∃(o:Obj) (cA:Array af) (n:Nat),K.lookup a=aa o/\o.cls=.type "tuple" /\ o.data=.seq cA n/\cA.size<=sizeLine/\cj xs cA.toList
def Ke:af->Option V
 |.none=>aa .bY
 |.bool b=>aa (.bl b)
 |.int i _=>aa (.int i)
 |.str x _=>aa (.str x)
 |.bytes b _=>aa (.byt b)
 |.float b _=>aa (.Af b)
 |.ref a=>aa (.ref a)
 |.type n=>aa (.ty n)
 |_=>ae
theorem RelV.abs{x:V}{u:af}(r:RelV x u):Ke u=aa x:=by
 cases x with
 |bY=>cases r;rfl
 |bl _=>cases r;rfl
 |int _=>obtain⟨t,rfl⟩:=r;rfl
 |str _=>obtain⟨t,rfl⟩:=r;rfl
 |byt _=>obtain⟨t,rfl⟩:=r;rfl
 |Af _=>obtain⟨t,rfl⟩:=r;rfl
 |ref _=>cases r;rfl
 |ty _=>cases r;rfl
theorem RelV.inj{x y:V}{u:af}(r:RelV x u)(q:RelV y u):x=y:=bg (r.abs.symm.trans q.abs)
theorem cj.inj:∀{xs ys:List V} {us:List af},cj xs us->cj ys us->xs=ys
 |_,_,_,.nil,.nil=>rfl
 |_,_,_,.cons r t,.cons r' t'=>by rw[r.inj r',cj.inj t t']
section
variable {X:Cx}{ag:List (aj×Obj)}{σ:St}{H:Hp}{s:ar}{a:aj}{xs ys:List V}
theorem Inv.list(I:Inv X ag σ H s)(h:mJ X.K H a xs):∃cA:List af,cj xs cA/\PlainL s.heap a cA.toArray/\xs.length<=sizeLine:=by
 rcases h with h | ⟨o,cA,n,hk,hc,hd,hs,hz,r⟩
 .obtain⟨z,cA,n,r,e⟩:=h.ok I.cB
  exact⟨cA,r,⟨_,n,e,rfl,rfl,rfl⟩,z⟩
 .refine⟨cA.toList,r,⟨o,n,I.jq a o hk,hc,hd,by simpa using hs⟩,?_⟩
  have e:=r.length;simp only[ij] at e;omega
theorem Inv.tuple(I:Inv X ag σ H s)(h:uL X.K H a xs):∃cA:List af,cj xs cA/\IsTup s.heap a cA.toArray/\xs.length<=sizeLine:=by
 rcases h with h | ⟨o,cA,n,hk,hc,hs,hz,r⟩
 .obtain⟨z,cA,r,p⟩:=h.ok I.cB
  exact⟨cA,r,p,z⟩
 .refine⟨cA.toList,r,⟨o,I.jq a o hk,hc,n,by simpa using hs⟩,?_⟩
  have e:=r.length;simp only[ij] at e;omega
theorem Inv.vh(I:Inv X ag σ H s)(h:mJ X.K H a xs)(h':mJ X.K H a ys):xs=ys:=by
 obtain⟨cA,r,⟨o,n,e,_,_,d⟩,_⟩:=I.list h;obtain⟨its',r',⟨o',n',e',_,_,d'⟩,_⟩:=I.list h';rw[e] at e';cases e';rw[d] at d';injection d' with d1 _;have:cA=its':=by simpa using congrArg Array.toList d1
 subst this;exact r.inj r'
end
abbrev Cx.Xb(X:Cx)(E:af->ar->Prop):Cx:={ X with xe:=E }
section
variable {X:Cx}{st:cm}{hU:List cm}{t u:TS}{e:bo}{te:TE}{pos:Pos}
def Xd:TS:=λD σ H=>D.nx σ H
def vi(t u:TS):TS:=λD σ H=>t { D with nx:=u D } σ H
theorem Xe:j9 X [] Xd:=λ_ _ σ H _ I h=>iY ⟨σ,H,I,h⟩
theorem GV(h1:PS X st t)(h2:j9 X hU u):j9 X (st::hU) (vi t u):=by
 intro ag s σ H D I h;refine Gp (dm (h1 ag s σ H { D with nx:=u D } I h) λf s1 q=>?_);cases f with
 | next=>
   obtain⟨σ',H',I',q⟩:=q;exact h2 ag s1 σ' H' D I' q
 |ret v=>exact q
 |brk=>exact q
 |cont=>exact q
theorem Kf(h1:PS X st t):j9 X [st] t:=by
 intro ag s σ H D I h;refine Gp (dm (h1 ag s σ H D I h) λf s1 q=>?_);cases f with
 |next=>exact iY q
 |ret v=>exact q
 |brk=>exact q
 |cont=>exact q
theorem Inv.quiet{ag:List (aj×Obj)}{σ:St}{H:Hp}{s:ar}(I:Inv X ag σ H s):interactive X.env=false:=by simp[interactive,I.ok.kind]
def Kg(te:TE):TS:=λD σ H=>te σ H λ_ H1=>D.nx σ H1
theorem Kh(he:PE X e te)(hs:eX e ae pos.line X.env=pure false:=by rfl):PS X (.Expr e pos) (Kg te):=by
 intro ag s σ H D I h;exact wpAny_Expr_any (dm (he ag s σ H _ I h) λv s1 ⟨x,H1,I1,r1,q1⟩=>⟨σ,H1,I1,q1⟩) I.quiet hs
def Ki(te:TE):TS:=λD σ H=>te σ H D.rt
theorem Xf(he:PE X e te):PS X (.Return (aa e) pos) (Ki te):=by
 intro ag s σ H D I h;exact wpAny_Return_some (dm (he ag s σ H _ I h) λv s1 ⟨x,H1,I1,r1,q1⟩=>⟨x,σ,H1,I1,r1,q1⟩)
def Kj(c:TT)(t u:TS):TS:=λD σ H=>c σ H λb H1=>if b=true then t D σ H1 else u D σ H1
theorem Xg{c:bo}{a b:List cm}{tc:TT}(hc:PT X c tc)(ha:j9 X a t)(hb:j9 X b u):PS X (.If c a b pos) (Kj tc t u):=by
 intro ag s σ H D I h;refine wpAny_If (dm (hc ag s σ H _ I h) λd s1 cN=>?_);obtain⟨H1,I1,q1⟩:=cN;cases d with
 |true=>exact ha ag s1 σ H1 D I1 q1
 |false=>exact hb ag s1 σ H1 D I1 q1
end
abbrev TG:=V->St->Hp->(St->Hp->Prop)->Prop
abbrev Ao:=List V->St->Hp->(St->Hp->Prop)->Prop
def PG(X:Cx)(Ap:bo)(t:TG):Prop:=
 ∀ (ag:List (aj×Obj)) (s:ar) (σ:St) (H:Hp) (v:V) (u:af) (Q:St->Hp->Prop),Inv X ag σ H s->RelV v u->t v σ H Q ->
   wpAny (aK X.prog X.w) X.A (kW Ap X.env u) (λ_ s'=>∃σ' H',Inv X ag σ' H' s'/\Q σ' H') X.xe s
def GW(X:Cx)(ts:List bo)(t:Ao):Prop:=
 ∀ (ag:List (aj×Obj)) (s:ar) (σ:St) (H:Hp) (vs:List V) (us:List af) (Q:St->Hp->Prop),Inv X ag σ H s->cj vs us->t vs σ H Q ->
   wpAny (aK X.prog X.w) X.A (assignInOrder ((nQ ts X.env).map (·.2)) us) (λ_ s'=>∃σ' H',Inv X ag σ' H' s'/\Q σ' H') X.xe s
section
variable {X:Cx}{pos:Pos}
def wH(i:Nat):TG:=λv σ H Q=>Q (σ.set i (aa v)) H
theorem iF{i:Nat}{x:Str}(hN:X.N.Nodup)(hi:X.N[i]?=aa x)(hx:Loc X.env.scope x)(hf:X.fn x=true\/X.env.scope.names.lookup x=aa .local:=by first | exact .inl rfl | exact .inr rfl | assumption)(hkn:∀u:V,X.kn[i]?≠aa (aa u):=by first | assumption | exact λu h=>nomatch (show(ae:Option (Option V))=aa (aa u) from h) | exact λu h=>nomatch (bg (show aa (ae:Option V)=aa (aa u) from h))):PG X (.Name x pos) (wH i):=by
 intro ag s σ H v u Q I r h;exact oP (GS I hN hi hx r (λs' I'=>⟨_,H,I',h⟩) hf hkn)
def DZ:Ao:=λvs σ H Q=>vs=[]/\Q σ H
def Kk(t:TG)(u:Ao):Ao:=λvs σ H Q=>∃v r,vs=v::r/\t v σ H fun σ' H'=>u r σ' H' Q
theorem PV:GW X [] DZ:=by
 intro ag s σ H vs us Q I r h;obtain⟨e,h⟩:=h;subst e;cases r;exact assignInOrder_nil ⟨σ,H,I,h⟩
theorem GX{e:bo}{es:List bo}{t:TG}{u:Ao}(h1:PG X e t)(h2:GW X es u)
  (hs:(nQ (e::es) X.env).map (·.2)=kW e X.env::(nQ es X.env).map (·.2):=by rfl):GW X (e::es) (Kk t u):=by
 intro ag s σ H vs us Q I r h;obtain⟨v,vr,e1,h⟩:=h;subst e1;cases r with
 | cons r rr=>
   rw[hs];refine assignInOrder_cons (dm (h1 ag s σ H _ _ _ I r h) λ_ s1 cN=>?_);obtain⟨σ1,H1,I1,q1⟩:=cN;exact h2 ag s1 σ1 H1 _ _ Q I1 rr q1
def D0(K:W.Frag)(n:Nat)(t:Ao):TG:=λv σ H Q=>∃a xs,v=.ref a/\uL K H a xs/\xs.length=n/\t xs σ H Q
theorem PX{es:List bo}{k:Nat}{t:Ao}{n:Nat}(hc:X.calm=true)(h:GW X es t)
  (hn:(nQ es X.env).length=n:=by rfl) (dI:(nQ es X.env).findIdx? (·.1)=ae:=by rfl):PG X (.Tuple es k pos) (D0 X.K n t):=by
 intro ag s σ H v u Q I r hw;obtain⟨a,xs,e1,hq,hl,hw⟩:=hw;subst e1;cases r;obtain⟨cA,rv,ht,hz⟩:=I.tuple hq;refine assign_Tuple_tuple (I.ok.hd hc) ht (by simp[hn,<- hl,rv.length]) dI λh' hx=>?_;have I1:Inv X ag σ H { s with heap:=h' }:=I.kept (t':=s.toks) λb o e=>hx b o (aS (aD e)) e;exact h ag _ σ H xs _ Q I1 (by simpa using rv) hw
def xk(te:TE)(g:TG):TS:=λD σ H=>te σ H λx H1=>g x σ H1 D.nx
theorem Xh{i:Nat}{x:Str}{e:bo}{te:TE}{jh:Pos}(hN:X.N.Nodup)(hi:X.N[i]?=aa x)(hx:Loc X.env.scope x)(he:PE X e te)(hs:eX e (aa (.Name x jh)) pos.line X.env=pure false:=by rfl)(hf:X.fn x=true\/X.env.scope.names.lookup x=aa .local:=by first | exact .inl rfl | exact .inr rfl | assumption)(hkn:∀u:V,X.kn[i]?≠aa (aa u):=by first | assumption | exact λu h=>nomatch (show(ae:Option (Option V))=aa (aa u) from h) | exact λu h=>nomatch (bg (show aa (ae:Option V)=aa (aa u) from h))) :
  PS X (.Assign [.Name x jh] e pos) (xk te (wH i)):=by
 intro ag s σ H D I h;refine wpAny_Assign_Name (dm (he ag s σ H _ I h) λv s1 cN=>?_) hs;obtain⟨y,H1,I1,r1,q1⟩:=cN;exact GS I1 hN hi hx r1 (λs2 I2=>⟨_,H1,I2,q1⟩) hf hkn
end
section
variable {X:Cx}{pos:Pos}
def Xi(c:TT)(tb:TS):TS:=λD σ H=>∃W:Nat->St->Hp->Prop,(∃m,W m σ H)/\∀m σ H,W m σ H ->
 c σ H λb H1=>if b=true then∃N:St->Hp->Prop,(∀σ' H',N σ' H'->∃m',m'<m/\W m' σ' H')/\tb { D with nx:=N,ct:=N,bk:=D.nx } σ H1 else D.nx σ H1
theorem Xj{c:bo}{body:List cm}{tc:TT}{tb:TS}(hp:jd (aK X.prog X.w) X.A X.env X.xe)(hc:PT X c tc)(hb:j9 X body tb):PS X (.While c body [] pos) (Xi tc tb):=by
 intro ag s σ H D I h;obtain⟨W,⟨m0,w0⟩,turn⟩:=h;refine wpAny_While (codeAny_whileLoop (λn s'=>∃σ' H',Inv X ag σ' H' s'/\W n σ' H') ?_ m0 ⟨σ,H,I,w0⟩);rintro n s1 ⟨σ1,H1,I1,w1⟩;refine fB hp (dm (hc ag s1 σ1 H1 _ I1 (turn n σ1 H1 w1)) λb s2 cN=>?_);obtain⟨H2,I2,q2⟩:=cN;cases b with
 | true=>
   obtain⟨N,hN,q2⟩:=q2;rw[if_pos rfl];refine fB hp (dm (hb ag s2 σ1 H2 _ I2 q2) λf s3 q3=>?_);cases f with
   | next=>
     obtain⟨σ3,H3,I3,n3⟩:=q3;obtain⟨m',hm,w3⟩:=hN σ3 H3 n3;exact⟨m',hm,σ3,H3,I3,w3⟩
   | cont=>
     obtain⟨σ3,H3,I3,n3⟩:=q3;obtain⟨m',hm,w3⟩:=hN σ3 H3 n3;exact⟨m',hm,σ3,H3,I3,w3⟩
   |brk=>exact q3
   |ret v=>exact q3
 | false=>
   rw[if_neg aY];exact iY ⟨σ1,H2,I2,q2⟩
end
structure It where
 go:Nat->Hp->Prop
 GY:Nat->Hp->V->Hp->Prop
 stop:Nat->Hp->Prop
def kN(X:Cx)(ag:List (aj×Obj))(H:Hp)(b:aj):Prop:=
 H b=ae/\b≠X.env.locals/\b∉X.fs/\(b∈X.ex\/X.s₀.heap.objs.size<=b)/\(∀x c,X.env.cells.lookup x=aa c->c≠b)/\∀p∈X.pn++ag,p.1≠b
theorem Inv.xl{X:Cx}{ag:List (aj×Obj)}{σ:St}{H H':Hp}{s:ar}{b:aj}(I:Inv X ag σ H s)(hb:s.heap.objs.size<=b)(hn:H' b=ae):kN X ag H' b:=by
 refine⟨hn,jR (ax I.lt hb),I.J8 hb,.inr (bt I.sz hb),λx c e z=>?_,λp hp z=>?_⟩
 .obtain⟨v,q⟩:=I.cell x c e
  exact absurd (ax q.lt (by rw[z];exact hb)) (cQ _)
 .exact absurd (ax (aD (I.pin p hp).1) (by rw[z];exact hb)) (cQ _)
structure qG(P:aX)(w:bB)(K:W.Frag)(tg:bo)(J:It)(fp:List aj)(it:aj)(tn:Nat->bO->Prop):Prop where
 mem:it∈fp
 obj:∀i h,tn i h->∀b∈fp,∃o,h.get? b=aa o/\∀v,o.data≠.cell v
 keep:∀i h h',tn i h->(∀b∈fp,∀o,h.get? b=aa o->h'.get? b=aa o)->tn i h'
 item:∀(X:Cx),X.prog=P->X.w=w->X.K=K->X.calm=true->∀(i:Nat) (ag:List (aj×Obj)) (s:ar) (σ:St) (H:Hp) (E:af->ar->Prop),Inv X ag σ H s->(∀b∈fp,kN X ag H b)->tn i s.heap->J.go i H ->
  wpAny (aK P w) X.A (pyNext (.ref it)) (λr s1=>∃u,r=aa u /\
   wpAny (aK P w) X.A (k_ tg (.ref it) u) (λ_ s2=>∃x H',Inv X ag σ H' s2/\RelV x u/\J.GY i H x H'/\tn (i+1) s2.heap/\∀b∈fp,H' b=ae) E s1) E s
 done:∀(X:Cx),X.prog=P->X.w=w->X.K=K->X.calm=true->∀(i:Nat) (ag:List (aj×Obj)) (s:ar) (σ:St) (H:Hp) (E:af->ar->Prop),Inv X ag σ H s->(∀b∈fp,kN X ag H b)->tn i s.heap->J.stop i H ->
  wpAny (aK P w) X.A (pyNext (.ref it)) (λr s1=>r=ae/\Inv X ag σ H s1) E s
 self:∀(A:cf) (i:Nat) (s:ar) (Q:af->ar->Prop) (E:af->ar->Prop),tn i s.heap->Q (.ref it) s->wpAny (aK P w) A (B7 (.ref it)) Q E s
abbrev TI:=St->Hp->(It->Hp->Prop)->Prop
def GZ(X:Cx)(ag:List (aj×Obj))(σ:St)(tg:bo)(R:It->Hp->Prop)(Cq:af)(s2:ar):Prop:=
 ∃(it:aj) (fp:List aj) (tn:Nat->bO->Prop) (J:It) (H':Hp),Cq=.ref it/\Inv X ag σ H' s2/\qG X.prog X.w X.K tg J fp it tn/\tn 0 s2.heap/\(∀b∈fp,kN X ag H' b)/\R J H'
def PI(X:Cx)(tg iter:bo)(wi:TI):Prop:=
 ∀ (ag:List (aj×Obj)) (s:ar) (σ:St) (H:Hp) (R:It->Hp->Prop),Inv X ag σ H s->wi σ H R ->
   wpAny (aK X.prog X.w) X.A (eval iter X.env) (λv s1=>wpAny (aK X.prog X.w) X.A (B7 v) (GZ X ag σ tg R) X.xe s1) X.xe s
theorem PY{M:u3}{A:cf}{E:af->ar->Prop}{s:ar}{tg:bo}{it:aj}{u:af}{o:Obj}{n:String}{vs:Array af}{Q:Unit->ar->Prop}(ho:s.heap.get? it=aa o)(hc:o.cls=.type n)(hd:o.data=.fields vs)
  (hn:["enumerate", "zip", "dict_itemiterator", "dict_reverseitemiterator", "odict_iterator", "itertools.zip_longest", "itertools.pairwise"].contains n=false) (hQ:Q () s):wpAny M A (k_ tg (.ref it) u) Q E s:=by
 unfold k_;cases tg<;>first
  |exact be hQ
  |(cases u<;>first
   |exact be hQ
   | (refine aC (wpAny_load ho ?_)
      rw[hc,hd];show wpAny M A (if(["enumerate", "zip", "dict_itemiterator", "dict_reverseitemiterator", "odict_iterator", "itertools.zip_longest", "itertools.pairwise"].contains n&&vs[0]?==aa (rawInt _))=true then _ else _) Q E s;rw[if_neg (by intro h;rw[hn,Bool.false_and] at h;cases h)];exact be hQ))
def PZ(K:W.Frag)(a:aj):It:=
 ⟨λi H=>∃xs x,mJ K H a xs/\xs[i]?=aa x,λi H x H'=>H'=H/\∀xs,mJ K H a xs->xs[i]?=aa x,λi H=>∃xs,mJ K H a xs/\xs.length<=i⟩
def G_(lo:Int)(n:Nat):It:=⟨λi _=>i<n,λi H x H'=>H'=H/\x=.int (lo+i),λi _=>n<=i⟩
theorem Xk{P:aX}{w:bB}{K:W.Frag}{tg:bo}(a it:aj):qG P w K tg (PZ K a) [it] it (λi h=>h.IsListIter it a i) where
 mem:=by simp
 obj:=λi h st b hb=>by
  have e:b=it:=by simpa using hb
  subst e;obtain⟨o,e,c,d⟩:=st;exact⟨o,e,λv z=>by rw[d] at z;cases z⟩
 keep:=λi h h' st k=>st.at λo e=>k it (by simp) o e
 item:=by
  intro X hP hw hK hc i ag s σ H E I hf st hg;subst hP hw hK;obtain⟨xs,x,hq,hx⟩:=hg;obtain⟨cA,rv,p,hz⟩:=I.list hq;obtain⟨u,hu,ru⟩:=rv.get hx;obtain⟨f0,f1,f2,f3,f4,f5⟩:=hf it (by simp);refine wpAny_pyNext_list_item st p.isList (x:=u) (by simpa using hu) λh' D1 sb=>?_;have I1:Inv X ag σ H { s with heap:=h' }:=I.turned (t':=s.toks) (λb o hb e=>(sb.2 b hb).trans e) f0 f1 f3 f4 f5;obtain⟨o,e,c,d⟩:=id D1;exact⟨u,rfl,PY (s:={ s with heap:=h' }) e c d (by decide) ⟨x,H,I1,ru,⟨rfl,λys hy=>by rw[I.vh hy hq];exact hx⟩,D1,λb hb=>(hf b hb).1⟩⟩
 done:=by
  intro X hP hw hK hc i ag s σ H E I hf st hg;subst hP hw hK;obtain⟨xs,hq,hx⟩:=hg;obtain⟨cA,rv,p,hz⟩:=I.list hq;obtain⟨f0,f1,f2,f3,f4,f5⟩:=hf it (by simp);have hl:=rv.length;exact wpAny_pyNext_list_end (I.ok.hd hc) st p.isList (by simp;omega) λh' eb=>⟨rfl,I.turned (t':=s.toks) (λb o hb e=>eb b o hb e) f0 f1 f3 f4 f5⟩
 self:=λ_ _ _ _ _ st h=>wpAny_pyIter_listiter st h
theorem Xl{P:aX}{w:bB}{K:aP}{tg:bo}(it:aj)(lo:Int)(n:Nat):qG P w K tg (G_ lo n) [it] it (λi h=>IsRangeIter h it (lo+(i:Nat)*1) ((n:Int)-(i:Nat)) 1) where
 mem:=by simp
 obj:=λi h st b hb=>by
  have e:b=it:=by simpa using hb
  subst e;exact⟨_,st,λv z=>by
   have z':Data.fields _=Data.cell v:=z;cases z'⟩
 keep:=λi h h' st k=>k it (by simp) _ st
 item:=by
  intro X hP hw hK hc i ag s σ H E I hf st hg;subst hP hw hK;obtain⟨f0,f1,f2,f3,f4,f5⟩:=hf it (by simp);have W:=Walks.range (prog:=X.prog) (w:=X.w) (I.ok.hd hc) it lo 1 n;refine W.item i s _ _ hg st λv h' tk hv D1 kk=>?_;obtain⟨t,rfl⟩:=hv;have I1:Inv X ag σ H { s with heap:=h',toks:=tk }:=I.turned (λb o hb e=>kk b o (by simpa using hb) e) f0 f1 f3 f4 f5;refine⟨_,rfl,PY (s:={ s with heap:=h',toks:=tk }) (n := "range_iterator") D1 rfl rfl (by decide) ⟨.int (lo+i),H,I1,⟨t,?_⟩,⟨rfl,rfl⟩,D1,λb hb=>(hf b hb).1⟩⟩;rw[Int.mul_one]
 done:=by
  intro X hP hw hK hc i ag s σ H E I hf st hg;subst hP hw hK;obtain⟨f0,f1,f2,f3,f4,f5⟩:=hf it (by simp);exact wpAny_pyNext_range_end (I.ok.hd hc) st (by have:n<=i:=hg;omega) λh' eb=>⟨rfl,I.turned (t':=s.toks) (λb o hb e=>eb b o hb e) f0 f1 f3 f4 f5⟩
 self:=λ_ _ _ _ _ st h=>wpAny_pyIter_rangeiter st h
section
variable {X:Cx}{tg:bo}
def P5(K:W.Frag)(tl:TE):TI:=fun σ H R=>tl σ H λx H1=>∃a,x=.ref a/\(∃xs,mJ K H1 a xs)/\R (PZ K a) H1
theorem j_{l:bo}{tl:TE}(hl:PE X l tl):PI X tg l (P5 X.K tl):=by
 intro ag s σ H R I h;refine dm (hl ag s σ H _ I h) λv s1 cN=>?_;obtain⟨x,H1,I1,r1,q1⟩:=cN;obtain⟨a,e,⟨xs,hq⟩,q⟩:=q1;subst e;cases r1;obtain⟨cA,rv,p,hz⟩:=I1.list hq;refine Dz p.isList ?_;refine⟨s1.heap.objs.size,[s1.heap.objs.size],_,_,H1,rfl,I1.kept (t':=s1.toks) λb o e=>aA _ e,Xk a _,⟨_,bj _ rfl,rfl,rfl⟩,λb hb=>?_,q⟩;have e:b=s1.heap.objs.size:=by simpa using hb
 subst e;exact I1.xl (az _) (I1.cB.fresh (az _))
theorem Xm{ag:List (aj×Obj)}{σ:St}{H:Hp}{s:ar}{R:It->Hp->Prop}{E:af->ar->Prop}{lo hi:Int}{t u v:Tok}{tk:Nat}(I:Inv X ag σ H s)(h1:-(2 ^ 62)<=lo)(h2:lo<2 ^ 62)(h3:-(2 ^ 62)<=hi)(h4:hi<2 ^ 62)
  (q:R (G_ lo (hi-lo).toNat) H):wpAny (aK X.prog X.w) X.A (B7 (.ref s.heap.objs.size)) (GZ X ag σ tg R) E { s with heap:=s.heap.push { cls:=.type "range",data:=.fields #[.int lo t,.int hi u,.int 1 v] },toks:=tk }:=by
 refine wpAny_pyIter_range (IsRange.new ..) (small_one h1 h2 h3 h4) ?_;have I1:Inv X ag σ H { s with heap:=s.heap.push { cls:=.type "range",data:=.fields #[.int lo t,.int hi u,.int 1 v] },toks:=tk }:=I.kept λb o e=>aA _ e;refine⟨(s.heap.push { cls:=.type "range",data:=.fields #[.int lo t,.int hi u,.int 1 v] }).objs.size,[(s.heap.push { cls:=.type "range",data:=.fields #[.int lo t,.int hi u,.int 1 v] }).objs.size],_,_,H,rfl,
  I1.kept (t':=tk) λb o e=>aA _ e,Xl _ lo (hi-lo).toNat,?_,λb hb=>?_,q⟩
 .have e1:lo+((0:Nat):Int)*1=lo:=by simp
  have e2:(((hi-lo).toNat:Nat):Int)-((0:Nat):Int)=Gq lo hi 1:=by rw[rangeSize_one];split<;>omega
  show IsRangeIter _ _ (lo+((0:Nat):Int)*1) ((((hi-lo).toNat:Nat):Int)-((0:Nat):Int)) 1;rw[e1,e2];exact bj _ rfl
 .have e:b=(s.heap.push { cls:=.type "range",data:=.fields #[.int lo t,.int hi u,.int 1 v] }).objs.size:=by simpa using hb
  subst e;exact I1.xl (az _) (I1.cB.fresh (az _))
def P6(ta:TA):TI:=fun σ H R=>ta σ H λvs H1=>∃j:Int,vs=[.int j] /\ -(2 ^ 62)<=j/\j<2 ^ 62/\R (G_ 0 j.toNat) H1
theorem Cr{a:bo}{ta:TA}{p pos:Pos}(hg:Gl X "range")(hm:X.mg "range" = ae)(ha:PA X [a] ta)(hs:av [a] X.env=[(false,eval a X.env)]:=by rfl):PI X tg (.Call (.Name "range" p) [a] [] pos) (P6 ta):=by
 intro ag s σ H R I h;refine Call_ (Cp I hg hm boot_range (lN (dm (ha pos ag s σ H _ I h) λus s1 cN=>?_) hs rfl));obtain⟨vs,H1,I1,r1,q1⟩:=cN;obtain⟨j,e,q1,q2,q⟩:=q1;subst e;cases r1 with
 | cons r rr=>
   cases rr;obtain⟨t,rfl⟩:=r;exact call_range_1 (Xm I1 (by omega) (by omega) q1 q2 (by simpa using q))
def Aq(wi:TI)(g:TG)(tb:TS):TS:=λD σ H=>wi σ H λJ H1=>∃W:Nat->Nat->St->Hp->Prop,(∃m,W 0 m σ H1)/\∀i m σ H,W i m σ H ->
 (J.stop i H/\D.nx σ H)\/(J.go i H/\∃N:St->Hp->Prop,(∀σ' H',N σ' H'->∃m',m'<m/\W (i+1) m' σ' H')/\∀x H',J.GY i H x H'->g x σ H' fun σ2 H2=>tb { D with nx:=N,ct:=N,bk:=D.nx } σ2 H2)
def Ha(fp:List aj)(h:bO):List (aj×Obj):=fp.filterMap λb=>(h.get? b).map λo=>(b,o)
theorem Hb{fp:List aj}{h:bO}{b:aj}{o:Obj}(hb:b∈fp)(e:h.get? b=aa o):(b,o)∈Ha fp h:=fX.mpr ⟨b,hb,by rw[e];rfl⟩
theorem Xn{fp:List aj}{h:bO}{p:aj×Obj}(hp:p∈Ha fp h):p.1∈fp/\h.get? p.1=aa p.2:=by
 obtain⟨b,hb,e⟩:=fX.mp hp;cases q:h.get? b with
 |none=>rw[q] at e;cases e
 | some o=>
   rw[q] at e;have e':(b,o)=p:=bg e;subst e';exact⟨hb,q⟩
theorem Inv.pinned{ag:List (aj×Obj)}{σ:St}{H:Hp}{s:ar}{fp:List aj}(I:Inv X ag σ H s)(hf:∀b∈fp,kN X ag H b)(ho:∀b∈fp,∃o,s.heap.get? b=aa o/\∀v,o.data≠.cell v):Inv X (ag++Ha fp s.heap) σ H s:=
 I.mY λp hp=>(aH.mp hp).elim (λz=>I.pin p (bp _ z)) λz=>by
  obtain⟨hb,e⟩:=Xn z;obtain⟨f0,f1,f2,_⟩:=hf p.1 hb;obtain⟨o,e',d⟩:=ho p.1 hb;rw[e] at e';cases e';exact⟨e,f0,f1,f2,d⟩
theorem Inv.nj{ag pl:List (aj×Obj)}{σ:St}{H:Hp}{s:ar}(I:Inv X (ag++pl) σ H s):Inv X ag σ H s:=I.mY λp hp=>I.pin p (bp _ (bw _ hp))
theorem Kl{iter:bo}{body:List cm}{wi:TI}{g:TG}{tb:TS}{pos:Pos}(hp:jd (aK X.prog X.w) X.A X.env X.xe)(hc:X.calm=true)(hi:PI X tg iter wi)(hg:PG X tg g)(hb:j9 X body tb)
  (hs:∀x,cg iter X.env x=pure x:=by intro _;rfl):PS X (.For tg iter body [] pos) (Aq wi g tb):=by
 intro ag s σ H D I h;refine wpAny_For (dm (hi ag s σ H _ I h) λv s1 h1=>dm h1 λCq s2 h2=>?_) hs;obtain⟨it,fp,tn,J,H2,e,I2,T,rO,f2,W,⟨m0,w0⟩,turn⟩:=h2;subst e;have Ar:∀{H':Hp},(∀b∈fp,H' b=ae)->∀b∈fp,kN X ag H' b:=λhn b hb=>⟨hn b hb,(f2 b hb).2⟩;refine codeAny_forLoop_any (λn s'=>∃i σ' H',Inv X ag σ' H' s'/\tn i s'.heap/\(∀b∈fp,H' b=ae)/\W i n σ' H') ?_ m0 ⟨0,σ,H2,I2,rO,λb hb=>(f2 b hb).1,w0⟩;rintro n s3 ⟨i,σ3,H3,I3,Cs,Hc,w3⟩;rcases turn i n σ3 H3 w3 with⟨stop,qn⟩ | ⟨go,N,hN,step⟩
 .refine fB hp (dm (T.done X rfl rfl rfl hc i ag s3 σ3 H3 X.xe I3 (Ar Hc) Cs stop) λr s4 cN=>?_)
  obtain⟨hr,I4⟩:=cN;subst hr;exact iY ⟨σ3,H3,I4,qn⟩
 .refine fB hp (dm (T.item X rfl rfl rfl hc i ag s3 σ3 H3 X.xe I3 (Ar Hc) Cs go) λr s4 cN=>?_)
  obtain⟨u,hr,h4⟩:=cN;subst hr;refine fB hp (dm h4 λ_ s5 cN=>?_);obtain⟨x,H5,I5,r5,y5,Km,Xo⟩:=cN;have Xp:=I5.pinned (Ar Xo) (T.obj _ _ Km);refine fB hp (dm (hg _ s5 σ3 H5 x u _ Xp r5 (step x H5 y5)) λ_ s6 cN=>?_);obtain⟨σ6,H6,I6,q6⟩:=cN;refine fB hp (dm (hb _ s6 σ6 H6 _ I6 q6) λf s7 q7=>?_);have again:∀{σ7:St} {H7:Hp},Inv X (ag++Ha fp s5.heap) σ7 H7 s7->N σ7 H7->∃m,m<n/\∃i σ' H',Inv X ag σ' H' s7/\tn i s7.heap/\(∀b∈fp,H' b=ae)/\W i m σ' H':=λ{σ7 H7} I7 n7=>by
   obtain⟨m',hm,w7⟩:=hN σ7 H7 n7;refine⟨m',hm,i+1,σ7,H7,I7.nj,T.keep _ _ _ Km λb hb o e=>(I7.pin (b,o) (bp _ (bp _ (Hb hb e)))).1,λb hb=>?_,w7⟩;obtain⟨o,e,d⟩:=T.obj _ _ Km b hb;exact(I7.pin (b,o) (bp _ (bp _ (Hb hb e)))).2.1
  cases f with
  |next=>obtain⟨σ7,H7,I7,n7⟩:=q7;exact again I7 n7
  |cont=>obtain⟨σ7,H7,I7,n7⟩:=q7;exact again I7 n7
  |brk=>obtain⟨σ7,H7,I7,q7⟩:=q7;exact⟨σ7,H7,I7.nj,q7⟩
  |ret v=>obtain⟨x7,σ7,H7,I7,r7,q7⟩:=q7;exact⟨x7,σ7,H7,I7.nj,r7,q7⟩
end
abbrev R2:=V->V->Hp->VK->Prop
def kb(X:Cx)(f:af->af->Sem af)(r:R2):Prop:=
 ∀ (ag:List (aj×Obj)) (s:ar) (σ:St) (H:Hp) (x y:V) (v u:af) (Q:VK),Inv X ag σ H s->RelV x v->RelV y u->r x y H Q ->
   wpAny (aK X.prog X.w) X.A (f v u) (EP X ag σ Q) X.xe s
def Kn(X:Cx)(f:af->Sem af)(r:V->Hp->VK->Prop):Prop:=
 ∀ (ag:List (aj×Obj)) (s:ar) (σ:St) (H:Hp) (x:V) (v:af) (Q:VK),Inv X ag σ H s->RelV x v->r x H Q ->
   wpAny (aK X.prog X.w) X.A (f v) (EP X ag σ Q) X.xe s
def rP(X:Cx)(f:af)(r:List V->Hp->VK->Prop):Prop:=
 ∀ (ag:List (aj×Obj)) (s:ar) (σ:St) (H:Hp) (xs:List V) (us:List af) (Q:VK),Inv X ag σ H s->cj xs us->r xs H Q ->
   wpAny (aK X.prog X.w) X.A (call f us) (EP X ag σ Q) X.xe s
def Ko(X:Cx)(r:V->Hp->(Bool->Hp->Prop)->Prop):Prop:=
 ∀ (ag:List (aj×Obj)) (s:ar) (σ:St) (H:Hp) (x:V) (v:af) (Q:Bool->Hp->Prop),Inv X ag σ H s->RelV x v->r x H Q ->
   wpAny (aK X.prog X.w) X.A (truthy v) (TP X ag σ Q) X.xe s
def D2(r:R2)(ta tb:TE):TE:=fun σ H Q=>ta σ H λx H1=>tb σ H1 λy H2=>r x y H2 Q
def Xq(r:V->Hp->VK->Prop)(ta:TE):TE:=fun σ H Q=>ta σ H λx H1=>r x H1 Q
def rI(C:Int->Int->Prop)(g:Int->Int->V):R2:=λx y H Q=>∃i j,x=.int i/\y=.int j/\C i j/\Q (g i j) H
def xm(g:Int->Int->V):R2:=λx y H Q=>∃i j,x=.int i/\y=.int j/\Q (g i j) H
def rU(g:Int->V):V->Hp->VK->Prop:=λx H Q=>∃i,x=.int i/\Q (g i) H
section
variable {X:Cx}{a b c:bo}{ta tb tc:TE}{pos:Pos}
theorem As(ha:PE X a ta)(hb:PE X b tb){ag:List (aj×Obj)}{s:ar}{σ:St}{H:Hp}{R:V->V->Hp->Prop}(I:Inv X ag σ H s)
  (h:ta σ H λx H1=>tb σ H1 λy H2=>R x y H2) {Q:af->ar->Prop} {f:af->af->Sem af}
  (hf:∀v u s2 x y H2,Inv X ag σ H2 s2->RelV x v->RelV y u->R x y H2->wpAny (aK X.prog X.w) X.A (f v u) Q X.xe s2) :
  wpAny (aK X.prog X.w) X.A (eval a X.env) (λv s₁=>wpAny (aK X.prog X.w) X.A (eval b X.env) (λu s₂=>wpAny (aK X.prog X.w) X.A (f v u) Q X.xe s₂) X.xe s₁) X.xe s:=by
 refine dm (ha ag s σ H _ I h) λv s1 cN=>?_;obtain⟨x,H1,I1,r1,q1⟩:=cN;refine dm (hb ag s1 σ H1 _ I1 q1) λu s2 cN=>?_;obtain⟨y,H2,I2,r2,q2⟩:=cN;exact hf v u s2 x y H2 I2 r1 r2 q2
theorem D3{op:Operator}{r:R2}(ho:kb X (ko op) r)(ha:PE X a ta)(hb:PE X b tb):PE X (.BinOp a op b pos) (D2 r ta tb):=by
 intro ag s σ H Q I h;exact wpAny_BinOp (As ha hb I h λv u s2 x y H2 I2 rx ry q=>ho ag s2 σ H2 x y v u Q I2 rx ry q)
theorem Xr{op:UnaryOp}{r:V->Hp->VK->Prop}(ho:Kn X (unaryOp op) r)(ha:PE X a ta):PE X (.UnaryOp op a pos) (Xq r ta):=by
 intro ag s σ H Q I h;exact UnaryOp_ (dm (ha ag s σ H _ I h) λv s1 ⟨x,H1,I1,r1,q1⟩=>ho ag s1 σ H1 x v Q I1 r1 q1)
theorem Kp{f:af->af->Sem af}{C:Int->Int->Prop}{g:Int->Int->Int}
  (rule:∀(i j:Int) (t u:Tok) (s:ar) (Q:af->ar->Prop) (E:af->ar->Prop),C i j->Q (.int (g i j) s.toks) { s with toks:=s.toks+1 }->wpAny (aK X.prog X.w) X.A (f (.int i t) (.int j u)) Q E s) :
  kb X f (rI C λi j=>.int (g i j)):=by
 intro ag s σ H x y v u Q I rx ry h;obtain⟨i,j,rfl,rfl,hc,q⟩:=h;obtain⟨t,rfl⟩:=rx;obtain⟨t',rfl⟩:=ry;exact rule i j t t' s _ _ hc ⟨.int (g i j),H,I.tok _,⟨_,rfl⟩,q⟩
theorem D4{f:af->af->Sem af}{g:Int->Int->Int}
  (rule:∀(i j:Int) (t u:Tok) (s:ar) (Q:af->ar->Prop) (E:af->ar->Prop),Q (.int (g i j) s.toks) { s with toks:=s.toks+1 }->wpAny (aK X.prog X.w) X.A (f (.int i t) (.int j u)) Q E s) :
  kb X f (xm λi j=>.int (g i j)):=by
 intro ag s σ H x y v u Q I rx ry h;obtain⟨i,j,rfl,rfl,q⟩:=h;obtain⟨t,rfl⟩:=rx;obtain⟨t',rfl⟩:=ry;exact rule i j t t' s _ _ ⟨.int (g i j),H,I.tok _,⟨_,rfl⟩,q⟩
theorem Au{f:af->af->Sem af}{g:Int->Int->Bool}
  (rule:∀(i j:Int) (t u:Tok) (s:ar) (Q:af->ar->Prop) (E:af->ar->Prop),Q (.bool (g i j)) s->wpAny (aK X.prog X.w) X.A (f (.int i t) (.int j u)) Q E s) :
  kb X f (xm λi j=>.bl (g i j)):=by
 intro ag s σ H x y v u Q I rx ry h;obtain⟨i,j,rfl,rfl,q⟩:=h;obtain⟨t,rfl⟩:=rx;obtain⟨t',rfl⟩:=ry;exact rule i j t t' s _ _ ⟨.bl (g i j),H,I,rfl,q⟩
def Kq(i j:Int):Prop:=0<j/\j<1073741824
def Av(i j:Int):Prop:=(-(2 ^ 64)<i/\i<2 ^ 64)\/(-(2 ^ 64)<j/\j<2 ^ 64)
theorem Av.ok{i j:Int}(h:Av i j):IntMulOk i j:=by
 rcases h with⟨h1,h2⟩ | ⟨h1,h2⟩
 .exact .of_left (intBits_le_64 h1 h2)
 .exact .of_right (intBits_le_64 h1 h2)
theorem Xs:kb X (ko .Add) (xm λi j=>.int (i+j)):=D4 λ_ _ _ _ _ _ _ q=>add_int q
theorem Xt:kb X (ko .Sub) (xm λi j=>.int (i-j)):=D4 λ_ _ _ _ _ _ _ q=>sub_int q
theorem Xu:kb X (ko .Mult) (rI Av λi j=>.int (i*j)):=Kp λ_ _ _ _ _ _ _ hc q=>mul_int q hc.ok
theorem Xv:kb X (ko .FloorDiv) (rI Kq λi j=>.int (i / j)):=Kp λi j _ _ _ _ _ hc q=>by
 have h1:(0:Int)<j:=hc.1;have h2:j<1073741824:=hc.2;exact floordiv_int (by omega) (by rw[Int.fdiv_eq_ediv_of_nonneg i (by omega)];exact q) (.inl (PyProof.noPylong_small (by omega)))
theorem Xw:kb X (ko .Mod) (rI (λ_ j=>0<j) λi j=>.int (i%j)):=Kp λi j _ _ _ _ _ hc q=>by
 have h1:(0:Int)<j:=hc;exact mod_int' (by omega) (by rw[Int.fmod_eq_emod_of_nonneg i (by omega)];exact q)
theorem Hd{f:af->Sem af}{g:Int->Int}
  (rule:∀(i:Int) (t:Tok) (s:ar) (Q:af->ar->Prop) (E:af->ar->Prop),Q (.int (g i) s.toks) { s with toks:=s.toks+1 }->wpAny (aK X.prog X.w) X.A (f (.int i t)) Q E s) :
  Kn X f (rU λi=>.int (g i)):=by
 intro ag s σ H x v Q I rx h;obtain⟨i,rfl,q⟩:=h;obtain⟨t,rfl⟩:=rx;exact rule i t s _ _ ⟨.int (g i),H,I.tok _,⟨_,rfl⟩,q⟩
theorem Xx:Kn X (unaryOp .USub) (rU λi=>.int (-i)):=Hd λ_ _ _ _ _ q=>neg_int q
end
def pq:V->V->Bool
 |.bY,.bY=>true | .bY,.int _=>true | .int _,.bY=>true | .bY,.bl _=>true | .bl _,.bY=>true | .bY,.str _=>true | .str _,.bY=>true
 |.int _,.int _=>true | .bl _,.bl _=>true | .str _,.str _=>true | .byt _,.byt _=>true
 |.int _,.str _=>true | .str _,.int _=>true | .bl _,.str _=>true | .str _,.bl _=>true
 |_,_=>false
def P7:R2:=λx y H Q=>pq x y=true/\Q (.bl (decide (x=y))) H
def P8:R2:=λx y H Q=>pq x y=true/\Q (.bl (!decide (x=y))) H
theorem P9{i j:Int}:decide (V.int i=V.int j)=(i==j):=by
 rw[dU];simp
theorem P_{i j:Bool}:decide (V.bl i=V.bl j)=(i==j):=by
 rw[dU];simp
theorem P'{i j:Str}:decide (V.str i=V.str j)=(i==j):=by
 rw[dU];simp
theorem Qa{i j:Array UInt8}:decide (V.byt i=V.byt j)=(i.toList==j.toList):=by
 rw[dU];cases i;cases j;simp
section
variable {X:Cx}{a b c:bo}{ta tb tc:TE}{pos:Pos}
theorem ku{ag:List (aj×Obj)}{σ:St}{H:Hp}{s:ar}{Q:VK}{k k':Bool}(I:Inv X ag σ H s)(q:Q (.bl k) H)(e:k=k'):EP X ag σ Q (.bool k') s:=by
 subst e;exact⟨.bl k,H,I,rfl,q⟩
theorem Qb:kb X (cM .Eq) P7:=by
 intro ag s σ H x y v u Q I rx ry h;obtain⟨hs,q⟩:=h;cases x with
 | bY=>
   cases rx;cases y with
   |bY=>cases ry;exact JF (ku I q (by simp))
   |bl j=>cases ry;exact JG (ku I q (by simp))
   |int j=>obtain⟨t',rfl⟩:=ry;exact JH (ku I q (by simp))
   |str j=>obtain⟨t',rfl⟩:=ry;exact JI (ku I q (by simp))
   |_=>exact absurd (show false=true from hs) aY
 | bl i=>
   cases rx;cases y with
   |bY=>cases ry;exact JJ (ku I q (by simp))
   |bl j=>cases ry;exact eq_bool (ku I q P_)
   |str j=>obtain⟨t',rfl⟩:=ry;exact Gr (ku I q (by simp))
   |_=>exact absurd (show false=true from hs) aY
 | int i=>
   obtain⟨t,rfl⟩:=rx;cases y with
   |bY=>cases ry;exact JK (ku I q (by simp))
   |int j=>obtain⟨t',rfl⟩:=ry;exact eq_int (ku I q P9)
   |str j=>obtain⟨t',rfl⟩:=ry;exact Gs (ku I q (by simp))
   |_=>exact absurd (show false=true from hs) aY
 | str i=>
   obtain⟨t,rfl⟩:=rx;cases y with
   |bY=>cases ry;exact JL (ku I q (by simp))
   |bl j=>cases ry;exact Gu (ku I q (by simp))
   |int j=>obtain⟨t',rfl⟩:=ry;exact Gv (ku I q (by simp))
   |str j=>obtain⟨t',rfl⟩:=ry;exact eq_str (ku I q P')
   |_=>exact absurd (show false=true from hs) aY
 | byt i=>
   obtain⟨t,rfl⟩:=rx;cases y with
   |byt j=>obtain⟨t',rfl⟩:=ry;exact W.eq_bytes (ku I q Qa)
   |_=>exact absurd (show false=true from hs) aY
 |_=>cases y<;>exact absurd (show false=true from hs) aY
theorem Xy:kb X (cM .NotEq) P8:=by
 intro ag s σ H x y v u Q I rx ry h;obtain⟨hs,q⟩:=h;cases x with
 | bY=>
   cases rx;cases y with
   |bY=>cases ry;exact JM (ku I q (by simp))
   |bl j=>cases ry;exact JN (ku I q (by simp))
   |int j=>obtain⟨t',rfl⟩:=ry;exact JO (ku I q (by simp))
   |str j=>obtain⟨t',rfl⟩:=ry;exact JP (ku I q (by simp))
   |_=>exact absurd (show false=true from hs) aY
 | bl i=>
   cases rx;cases y with
   |bY=>cases ry;exact JQ (ku I q (by simp))
   |bl j=>cases ry;exact ne_bool (ku I q (congrArg not P_))
   |str j=>obtain⟨t',rfl⟩:=ry;exact Gw (ku I q (by simp))
   |_=>exact absurd (show false=true from hs) aY
 | int i=>
   obtain⟨t,rfl⟩:=rx;cases y with
   |bY=>cases ry;exact JR (ku I q (by simp))
   |int j=>obtain⟨t',rfl⟩:=ry;exact ne_int (ku I q (congrArg not P9))
   |str j=>obtain⟨t',rfl⟩:=ry;exact Gx (ku I q (by simp))
   |_=>exact absurd (show false=true from hs) aY
 | str i=>
   obtain⟨t,rfl⟩:=rx;cases y with
   |bY=>cases ry;exact JS (ku I q (by simp))
   |bl j=>cases ry;exact Gy (ku I q (by simp))
   |int j=>obtain⟨t',rfl⟩:=ry;exact Gz (ku I q (by simp))
   |str j=>obtain⟨t',rfl⟩:=ry;exact ne_str (ku I q (congrArg not P'))
   |_=>exact absurd (show false=true from hs) aY
 | byt i=>
   obtain⟨t,rfl⟩:=rx;cases y with
   |byt j=>obtain⟨t',rfl⟩:=ry;exact W.ne_bytes (ku I q (congrArg not Qa))
   |_=>exact absurd (show false=true from hs) aY
 |_=>cases y<;>exact absurd (show false=true from hs) aY
theorem Xz:kb X (cM .Lt) (xm λi j=>.bl (decide (i<j))):=Au λ_ _ _ _ _ _ _ q=>lt_int q
theorem XA:kb X (cM .Gt) (xm λi j=>.bl (decide (j<i))):=Au λ_ _ _ _ _ _ _ q=>gt_int q
theorem XB:kb X (cM .GtE) (xm λi j=>.bl (decide (j<=i))):=Au λ_ _ _ _ _ _ _ q=>ge_int q
theorem XC:kb X (cM .Is) (λx y H Q=>y=.bY/\Q (.bl (decide (x=.bY))) H):=by
 intro ag s σ H x y v u Q I rx ry h;obtain⟨rfl,q⟩:=h;cases ry;refine is_none_gen (ku I q ?_);cases x<;>first
  |(cases rx;rfl)
  |(obtain⟨t,rfl⟩:=rx;rfl)
theorem XD:kb X (cM .IsNot) (λx y H Q=>y=.bY/\Q (.bl (!decide (x=.bY))) H):=by
 intro ag s σ H x y v u Q I rx ry h;obtain⟨rfl,q⟩:=h;cases ry;refine isnot_none_gen (ku I q ?_);cases x<;>first
  |(cases rx;rfl)
  |(obtain⟨t,rfl⟩:=rx;rfl)
theorem kb.or{f:af->af->Sem af}{r r':R2}(h:kb X f r)(h':kb X f r'):kb X f (λx y H Q=>r x y H Q\/r' x y H Q):=by
 intro ag s σ H x y v u Q I rx ry q;rcases q with q | q
 .exact h ag s σ H x y v u Q I rx ry q
 .exact h' ag s σ H x y v u Q I rx ry q
theorem zf(b:bo){op:u4}(h:op≠.In:=by decide)(h2:op≠.NotIn:=by decide):cL op b=false:=by
 have e1:(op==CmpOp.In)=false:=by cases op<;>first | rfl | exact absurd rfl h
 have e2:(op==Dy)=false:=by cases op<;>first | rfl | exact absurd rfl h2
 cases b<;>simp[cL,e1,e2]
theorem XE{op:u4}{r:R2}(ho:kb X (cM op) r)(ha:PE X a ta)(hb:PE X b tb)(hm:cL op b=false):PE X (.Compare a [op] [b] pos) (D2 r ta tb):=by
 intro ag s σ H Q I h;exact wpAny_Compare1 (As ha hb I h λv u s2 x y H2 I2 rx ry q=>ho ag s2 σ H2 x y v u Q I2 rx ry q) hm
def XF(t:TE):TT:=fun σ H Q=>t σ H λx H'=>∃k,x=.bl k/\Q k H'
theorem XG{op:u4}{r:R2}(ho:kb X (cM op) r)(ha:PE X a ta)(hb:PE X b tb)(hm:cL op b=false):PT X (.Compare a [op] [b] pos) (XF (D2 r ta tb)):=by
 intro ag s σ H Q I h;refine w6 (dm (ha ag s σ H _ I h) λv s1 ⟨x,H1,I1,r1,q1⟩=>dm (hb ag s1 σ H1 _ I1 q1) λu s2 ⟨y,H2,I2,r2,q2⟩=>
  dm (ho ag s2 σ H2 x y v u _ I2 r1 r2 q2) λc s3 ⟨z,H3,I3,r3,k,e,q3⟩=>?_) hm
 subst e;cases r3;exact gW ⟨H3,I3,q3⟩
def vj(K:W.Frag)(x:V)(H:Hp)(k:Bool):Prop:=
 match x with
 |.bY=>k=false
 |.bl b=>k=b
 |.int i=>k=(i != 0)
 |.str y=>y.length<=sizeLine/\k=((y.length:Int) != 0)
 |.byt y=>y.size<=sizeLine/\k=((y.size:Int) != 0)
 |.ref p=>(∃xs,mJ K H p xs/\k=!xs.isEmpty)\/(∃xs,uL K H p xs/\k=!xs.isEmpty)\/∃kvs,H p=aa (.dK kvs)/\k=!kvs.isEmpty
 |_=>False
theorem XH{κ:Type}{kvs:List (κ×V)}{vs:List (κ×af)}(r:KV kvs vs):(!vs.isEmpty)=!kvs.isEmpty:=by
 cases r<;>rfl
theorem Qc{xs:List V}{cA:List af}(r:cj xs cA):(!cA.toArray.isEmpty)=!xs.isEmpty:=by
 cases r<;>simp
theorem D5:(sizeLine:Nat)<2 ^ 63:=by rw[dB];decide
theorem Qd:Ko X (λx H Q=>∃k,vj X.K x H k/\Q k H):=by
 intro ag s σ H x v Q I rx h;obtain⟨k,e,q⟩:=h;have hl:=D5;have hs:sizeLine=16777216:=dB;cases x with
 | bY=>
   cases rx;have e':k=false:=e;subst e';exact truthy_none ⟨H,I,q⟩
 | bl b=>
   cases rx;have e':k=b:=e;subst e';exact gW ⟨H,I,q⟩
 | int i=>
   obtain⟨t,rfl⟩:=rx;have e':k=(i != 0):=e;subst e';exact PySem.P.truthy_int ⟨H,I,q⟩
 | str y=>
   obtain⟨t,rfl⟩:=rx;obtain⟨hy,e'⟩:y.length<=sizeLine/\k=((y.length:Int) != 0):=e;subst e';exact PySem.P.truthy_str (by omega) ⟨H,I.tok _,q⟩
 | byt y=>
   obtain⟨t,rfl⟩:=rx;obtain⟨hy,e'⟩:y.size<=sizeLine/\k=((y.size:Int) != 0):=e;subst e';exact W.truthy_bytes (by omega) ⟨H,I.tok _,q⟩
 | ref p=>
   cases rx;have e':(∃xs,mJ X.K H p xs/\k=!xs.isEmpty)\/(∃xs,uL X.K H p xs/\k=!xs.isEmpty)\/∃kvs,H p=aa (.dK kvs)/\k=!kvs.isEmpty:=e;rcases e' with⟨xs,hx,e'⟩ | ⟨xs,hx,e'⟩ | ⟨kvs,hx,e'⟩
   .subst e'
    obtain⟨cA,r,pl,hz⟩:=I.list hx;have c5:=r.length;exact wpAny_truthy_list pl.isList (by simp only[aQ];omega) ⟨H,I.tok _,by rw[Qc r];exact q⟩
   .subst e'
    obtain⟨cA,r,pl,hz⟩:=I.tuple hx;have c5:=r.length;exact truthy_tuple pl (by simp only[aQ];omega) ⟨H,I.tok _,by rw[Qc r];exact q⟩
   .subst e'
    obtain⟨hz,hS,vs,r,m⟩:kvs.length<=sizeLine/\(p==eM)=false/\∃vs,KV kvs vs/\s.heap.DictOf (jX X.prog X.w) p vs:=I.cB p _ hx;have c5:kvs.length=vs.length:=kU r;exact wpAny_truthy_dict hS m (by omega) ⟨H,I.tok _,by rw[XH r];exact q⟩
 |_=>exact(show False from e).elim
theorem XI(ha:PE X a ta)(he:∀ni,isTrue a X.env ni=(do let v <- ni;kX a.pos;kY [v] (truthy v))) :
  PT X a (fun σ H Q=>ta σ H λx H'=>∃k,vj X.K x H' k/\Q k H'):=by
 intro ag s σ H Q I h;exact isTrue_plain (dm (ha ag s σ H _ I h) λv s1 ⟨x,H1,I1,r1,q1⟩=>Qd ag s1 σ H1 x v Q I1 r1 q1) (he _)
theorem XJ:kb X (ko .Add) (λx y H Q=>∃i j,x=.str i/\y=.str j/\i.length+j.length<=sizeLine/\Q (.str (i++j)) H):=by
 intro ag s σ H x y v u Q I rx ry h;obtain⟨i,j,rfl,rfl,hz,q⟩:=h;obtain⟨t,rfl⟩:=rx;obtain⟨t',rfl⟩:=ry;exact add_str (λt' tk=>⟨.str (i++j),H,I.tok _,⟨_,rfl⟩,q⟩) hz
theorem Aw{x:V}{us:List af}(r:cj [x] us):∃u,us=[u]/\RelV x u:=by
 cases r with
 |cons r1 r2=>cases r2;exact⟨_,rfl,r1⟩
theorem XM{x y:V}{us:List af}(r:cj [x,y] us):∃u w',us=[u,w']/\RelV x u/\RelV y w':=by
 cases r with
 | cons r1 r2=>
   cases r2 with
   |cons r3 r4=>cases r4;exact⟨_,_,rfl,r1,r3⟩
def D6(K:W.Frag)(x:V)(H:Hp)(n:Nat):Prop:=
 match x with
 |.str y=>y.length<=sizeLine/\n=y.length
 |.byt y=>y.size<=sizeLine/\n=y.size
 |.ref p=>(∃xs,mJ K H p xs/\n=xs.length)\/∃xs,uL K H p xs/\n=xs.length
 |_=>False
theorem XN:rP X (.builtin "len") (λxs H Q=>∃x n,xs=[x]/\D6 X.K x H n/\Q (.int n) H):=by
 intro ag s σ H xs us Q I r h;obtain⟨x,n,rfl,e,q⟩:=h;obtain⟨u,rfl,rx⟩:=Aw r;have hl:=D5;have hs:sizeLine=16777216:=dB;cases x with
 | str y=>
   obtain⟨t,rfl⟩:=rx;obtain⟨hy,e'⟩:y.length<=sizeLine/\n=y.length:=e;subst e';exact len_str (by omega) ⟨.int _,H,I.tok _,⟨_,rfl⟩,q⟩
 | byt y=>
   obtain⟨t,rfl⟩:=rx;obtain⟨hy,e'⟩:y.size<=sizeLine/\n=y.size:=e;subst e';exact W.len_bytes (by omega) ⟨.int _,H,I.tok _,⟨_,rfl⟩,q⟩
 | ref p=>
   cases rx;have e':(∃xs,mJ X.K H p xs/\n=xs.length)\/∃xs,uL X.K H p xs/\n=xs.length:=e;rcases e' with⟨xs,hx,e'⟩ | ⟨xs,hx,e'⟩
   .subst e'
    obtain⟨cA,r',pl,hz⟩:=I.list hx;have c5:=r'.length;exact tM pl.isList (by simp only[aQ];omega) ⟨.int xs.length,H,I.tok _,⟨_,by simp only[aQ];rw[c5]⟩,q⟩
   .subst e'
    obtain⟨cA,r',pl,hz⟩:=I.tuple hx;have c5:=r'.length;exact len_tuple pl (by simp only[aQ];omega) ⟨.int xs.length,H,I.tok _,⟨_,by simp only[aQ];rw[c5]⟩,q⟩
 |_=>exact(show False from e).elim
end
structure rQ(h:bO)(x dx C:aj)(mA:Str->Option af):Prop where
 obj:h.get? x=aa (W.instObj C dx)
 ns:h.Ns1 dx mA
 ne:dx≠x
theorem Kr{h:bO}{dx:aj}{mA:Str->Option af}(n:h.Ns1 dx mA):∃od,h.get? dx=aa od/\∀name,W.lookIn name od=aa (mA name):=by
 obtain⟨o,es,ep,ho,hd,hk,_,hm⟩:=n;refine⟨o,ho,λname=>?_⟩;have e:=hm name;unfold sI wg at e;rw[<- uG] at e;unfold W.lookIn;rw[hd];dsimp only
 split
 .rename_i y q
  rw[q] at e;exact congrArg aa e
 .rename_i q
  rw[q] at e;have a:es.toList.any (·.refKey)=false:=by
   rw[List.any_eq_false];intro y hy;obtain⟨z,t,vk⟩:=hk y (Array.mem_toList_iff.mp hy);simp[sJ,vk]
  have a':¬es.toList.any (·.refKey)=true:=by rw[a];exact aY
  rw[if_neg a'];exact congrArg aa e
theorem rQ.look{h:bO}{x dx C:aj}{mA:Str->Option af}(I:rQ h x dx C mA):∃od,W.InstAt h x (W.instObj C dx) C (aa od)/\∀name,W.lookIn name od=aa (mA name):=
 let ⟨od,ho,hl⟩:=Kr I.ns
 ⟨od,⟨I.obj,rfl,rfl,ho⟩,hl⟩
section
variable {prog:aX}{w:bB}{A:cf}{E:af->ar->Prop}{s:ar}{K:W.Frag}{x dx C f:aj}{mA:Str->Option af}{name:Str}{v:af}
theorem XO{rR:Bool}{Q:af->ar->Prop}(X:K.In s.heap)(I:rQ s.heap x dx C mA)(hg:W.plainGet K C name=true)(hh:W.hasDictIn K C=true)
  (ha:W.findIn K (.ref C) name=aa ae) (hv:mA name=aa v) (XQ:W.handedIn v=true) (h:Q v { s with toks:=s.toks+1 }) :
  wpAny (aK prog w) A (wj (.ref x) name rR) Q E s:=by
 obtain⟨od,J,hl⟩:=I.look;exact W.get_value X J (W.plainGet_of hg).1 (W.findObj_own hh ha rfl (by rw[hl,hv])) XQ h
theorem XR{pl:Sem Bool}{Q:af×List af->ar->Prop}(X:K.In s.heap)(I:rQ s.heap x dx C mA)(hg:W.plainGet K C name=true)
  (hf:W.findIn K (.ref C) name=aa (aa (.ref f))) (ht:W.isFn K (.ref f)=true) (hv:mA name=ae) (h:Q (.ref f,[.ref x]) s) :
  wpAny (aK prog w) A (gM (.ref x) name pl) Q E s:=by
 obtain⟨od,J,hl⟩:=I.look;exact W.method_fn X J (W.plainGet_of hg).1 (W.plainGet_of hg).2 hf (beq_iff_eq.mp ht) (by show(W.lookIn name od).map (·.isSome)=aa false;rw[hl,hv];rfl) h
theorem XS{ns:List Str}{Q:Unit->ar->Prop}(X:K.In s.heap)(I:rQ s.heap x dx C mA)
  (hs:W.findIn K (.ref C) "__setattr__" = aa (aa (.builtin "object.__setattr__"))) (hp:W.plainOver K C=true) (ht:W.takerIn K C name=aa ae) (hh:W.hasDictIn K C=true)
  (hw:jE mA ns) (hsz:ns.length<=sizeLine)
  (h:∀h',rQ h' x dx C (λy=>if y=name then aa v else mA y)->fG dx s.heap h'->Q () { s with heap:=h',toks:=s.toks+2 }) :
  wpAny (aK prog w) A (DB (.ref x) name v) Q E s:=by
 obtain⟨od,J,hl⟩:=I.look;refine W.set_plain X J hs (W.osa_open (s:={ s with toks:=s.toks+1 }) (r:=ae) X J hp ht λb=>?_);obtain⟨cd,hc,wF⟩:=W.any_some hh;have hx:s.heap.get? x=aa ⟨.ref C,aa dx,.plain,#[]⟩:=I.obj;refine aC (be (aC (aC (mn hx (aC (W.Looks.here (s:={ s with toks:=s.toks+1 }) (W.looks_clsIn X hc) ?_))))));rw[wF];refine be (a:=aa dx) (aC (be (aC ?_)));refine wm (s:={ s with toks:=s.toks+1 }) I.ns λh' vm He=>?_;obtain⟨oD,Qe,Qf,D7,D8,D9⟩:=vm.count (pW name v hw);refine aC (pX D7 (by rw[D8];exact pY (bt D9 (by rw[aL];omega))) ?_);exact be (h _ ⟨(He.2 _ (bZ I.ne)).trans I.obj,vm,I.ne⟩ He)
theorem XT{R:B8->ar->Prop}{vs:List af}{kw:List (Str×af)}(X:K.In s.heap)(hm:W.makesIn K C=true)
  (hi:W.findIn K (.ref C) "__init__" = aa (aa (.ref f))) (hf:W.typeIn K (.ref f)=aa (.type "function"))
  (h:codeAny (aK prog w) (A.under (.builtin "type.__call__" ⟨.ref C::vs,kw⟩)) (.call (.ref f) ⟨.ref (s.heap.objs.size+1)::vs,kw⟩) (W.InitBack (s.heap.objs.size+1) R)
   { s with heap:=(s.heap.push W.emptyDict).push (W.instObj C s.heap.objs.size) }) :
  codeAny (aK prog w) A (.call (.ref C) ⟨vs,kw⟩) R s:=by
 obtain⟨hh,g,d,t,os⟩:=s;exact W.make_core (W.makes_of X hm) (W.looks_findIn X hi) (λself=>W.bind_fn X self hf) (.inl rfl) h
end
def iu(f:Str)(v:V):List (Str×V)->List (Str×V)
 |[]=>[(f,v)]
 |(g,x)::r=>if g=f then(g,v)::r else(g,x)::iu f v r
theorem Ks(f g:Str)(v:V):∀fs:List (Str×V),(iu f v fs).lookup g=if g=f then aa v else fs.lookup g
 | []=>by
   show bQ g [(f,v)]=_;by_cases h:g=f
   .have hb:(g==f)=true:=beq_iff_eq.mpr h
    simp only[bQ,hb,if_pos h]
   .have hb:(g==f)=false:=beq_eq_false_iff_ne.mpr h
    simp only[bQ,hb,if_neg h]
 | (k,x)::r=>by
   have ih:=Ks f g v r;rw[show iu f v ((k,x)::r)=(if k=f then(k,v)::r else(k,x)::iu f v r) from rfl];by_cases hk:k=f
   .rw[if_pos hk]
    by_cases h:g=k
    .have hb:(g==k)=true:=beq_iff_eq.mpr h
     simp only[bQ,hb,if_pos (h.trans hk)]
    .have hb:(g==k)=false:=beq_eq_false_iff_ne.mpr h
     simp only[bQ,hb,if_neg (λe:g=f=>h (e.trans hk.symm))]
   .rw[if_neg hk]
    by_cases h:g=k
    .have hb:(g==k)=true:=beq_iff_eq.mpr h
     simp only[bQ,hb,if_neg (λe:g=f=>hk (h.symm.trans e))]
    .have hb:(g==k)=false:=beq_eq_false_iff_ne.mpr h
     simp only[bQ,hb];exact ih
theorem Kt(f:Str)(v:V):∀fs:List (Str×V),f∈(iu f v fs).map (·.1)/\∀g,g∈fs.map (·.1)->g∈(iu f v fs).map (·.1)
 |[]=>⟨by simp[iu],λg h=>by simp at h⟩
 | (k,x)::r=>by
   obtain⟨i1,i2⟩:=Kt f v r;rw[show iu f v ((k,x)::r)=(if k=f then(k,v)::r else(k,x)::iu f v r) from rfl];by_cases hk:k=f
   .rw[if_pos hk]
    subst hk;exact⟨by simp,λg h=>by simpa using h⟩
   .rw[if_neg hk]
    refine⟨?_,λg h=>?_⟩
    .rw[aE]
     exact au _ i1
    .rw[aE] at h ⊢
     rcases aF.mp h with e | e
     .exact aF.mpr (.inl e)
     .exact au _ (i2 g e)
theorem Qg(f:Str)(v:V):∀fs:List (Str×V),(iu f v fs).length<=fs.length+1
 |[]=>by simp[iu]
 | (k,x)::r=>by
   have ih:=Qg f v r;rw[show iu f v ((k,x)::r)=(if k=f then(k,v)::r else(k,x)::iu f v r) from rfl];by_cases hk:k=f
   .rw[if_pos hk,aL,aL];omega
   .rw[if_neg hk,aL,aL];omega
theorem iQ.some_of{v:V}{o:Option af}(r:iQ (aa v) o):∃u,o=aa u/\RelV v u:=by
 cases o with
 |none=>exact(show False from r).elim
 |some u=>exact⟨u,rfl,r⟩
theorem iQ.none_of{o:Option af}(r:iQ ae o):o=ae:=by
 cases o with
 |none=>rfl
 |some u=>exact(show False from r).elim
theorem Qh{v:V}{u:af}(r:RelV v u):W.handedIn u=true:=by
 cases v with
 |bY=>cases (show u=jD from r);rfl
 |bl b=>cases (show u=dM b from r);rfl
 |int i=>obtain⟨t,e⟩:=(show∃t,u=kE i t from r);cases e;rfl
 |str x=>obtain⟨t,e⟩:=(show∃t,u=kF x t from r);cases e;rfl
 |byt b=>obtain⟨t,e⟩:=(show∃t,u=Dx b t from r);cases e;rfl
 |Af b=>obtain⟨t,e⟩:=(show∃t,u=sH b t from r);cases e;rfl
 |ref a=>cases (show u=aO a from r);rfl
 |ty n=>cases (show u=lM n from r);rfl
section
variable {P:aX}{w:bB}{H H':Hp}{h h':bO}{a C dx:aj}{fs wC:List (Str×V)}
theorem Hf(cB:iE P w H h)(e:H a=aa (.ins C dx fs)):∃mA,rQ h a dx C mA/\(∀f,iQ (fs.lookup f) (mA f))/\jE mA (fs.map (·.1))/\fs.length<=1000/\H dx=aa (.own a):=by
 obtain⟨d,z,ne,ob,mA,n,r,q⟩:=(show jY P w H h a (.ins C dx fs) from cB a _ e);exact⟨mA,⟨ob,n,ne⟩,r,q,z,d⟩
end
structure nU(K:W.Frag)(C:aj):Prop where
 pg:W.plainGet K C cP=true
 hd:W.hasDictIn K C=true
 po:W.plainOver K C=true
 sa:W.findIn K (.ref C) "__setattr__" = aa (aa (.builtin "object.__setattr__"))
theorem nU.get{K:W.Frag}{C:aj}(c:nU K C)(f:Str):W.plainGet K C f=true:=c.pg
def oa(K:W.Frag)(C:aj)(f:Str):Prop:=W.findIn K (.ref C) f=aa ae
theorem oa.D_{K:W.Frag}{C:aj}{f:Str}(n:oa K C f):W.takerIn K C f=aa ae:=by
 unfold W.takerIn;rw[show W.findIn K (.ref C) f=aa ae from n];rfl
structure vn(K:W.Frag)(C:aj)(m:Str)(f:aj):Prop where
 at_:W.findIn K (.ref C) m=aa (aa (.ref f))
 fn:W.isFn K (.ref f)=true
 kp:W.keepIn K (.ref f)=true
section
variable {X:Cx}{ag:List (aj×Obj)}{σ:St}{H:Hp}{s:ar}{a C dx:aj}{fs:List (Str×V)}{f:Str}{v:V}{A:cf}{E:af->ar->Prop}
theorem XU{b:Bool}{Q:af->ar->Prop}(I:Inv X ag σ H s)(e:H a=aa (.ins C dx fs))(c:nU X.K C)(n:oa X.K C f)(l:fs.lookup f=aa v)
  (h:∀u s',Inv X ag σ H s'->RelV v u->Q u s'):wpAny (aK X.prog X.w) A (wj (.ref a) f b) Q E s:=by
 obtain⟨mA,O,r,_,_,_⟩:=Hf I.cB e;obtain⟨u,hu,ru⟩:=iQ.some_of (v:=v) (o:=mA f) (by rw[<- l];exact r f);exact XO I.jq O (c.get f) c.hd n hu (Qh ru) (h u _ (I.tok _) ru)
theorem Ku{m:Str}{g:aj}{pl:Sem Bool}{Q:af×List af->ar->Prop}(I:Inv X ag σ H s)(e:H a=aa (.ins C dx fs))(c:nU X.K C)(k:vn X.K C m g)(l:fs.lookup m=ae)
  (h:Q (.ref g,[.ref a]) s):wpAny (aK X.prog X.w) A (gM (.ref a) m pl) Q E s:=by
 obtain⟨mA,O,r,_,_,_⟩:=Hf I.cB e;have hn:mA m=ae:=iQ.none_of (by rw[<- l];exact r m);exact XR I.jq O (c.get m) k.at_ k.fn hn h
theorem XW{y:V}{u:af}{Q:Unit->ar->Prop}(I:Inv X ag σ H s)(e:H a=aa (.ins C dx fs))(c:nU X.K C)(n:oa X.K C f)(hl:fs.length<1000)(ry:RelV y u)
  (h:∀s',Inv X ag σ (upd H a (.ins C dx (iu f y fs))) s'->Q () s'):wpAny (aK X.prog X.w) A (DB (.ref a) f u) Q E s:=by
 obtain⟨mA,O,r,wi,_,ho⟩:=Hf I.cB e;have hz:(fs.map (·.1)).length<=sizeLine:=by rw[aN,dB];omega
 refine XS I.jq O c.sa c.po n.D_ c.hd wi hz λh' O' sb=>h _ ?_;have hd:∃o,h'.get? dx=aa o:=let ⟨o,_,_,e',_⟩:=O'.ns;⟨o,e'⟩;refine I.write (x:=a) (e:=dx) (by rw[e];exact dg) (.inr ho) (λb q hb z=>(sb.2 b hb).trans z) hd ?_;refine⟨by rw[c4 O.ne];exact ho,?_,O.ne,O'.obj,_,O'.ns,λg=>?_,λg hg=>?_⟩
 .have:=Qg f y fs;omega
 .show iQ ((iu f y fs).lookup g) (if g=f then aa u else mA g)
  rw[Ks];by_cases q:g=f
  .rw[if_pos q,if_pos q];exact ry
  .rw[if_neg q,if_neg q];exact r g
 .by_cases q:g=f
  .rw[q];exact(Kt f y fs).1
  .refine(Kt f y fs).2 g (wi g λz=>hg ?_)
   show(if g=f then aa u else mA g)=ae;rw[if_neg q];exact z
theorem Inv.made(I:Inv X ag σ H s):Inv X ag σ (upd (upd H s.heap.objs.size (.own (s.heap.objs.size+1))) (s.heap.objs.size+1) (.ins C s.heap.objs.size []))
  { s with heap:=(s.heap.push W.emptyDict).push (W.instObj C s.heap.objs.size) }:=by
 have e1:(s.heap.push W.emptyDict).get? s.heap.objs.size=aa W.emptyDict:=bj s.heap rfl;have e2:((s.heap.push W.emptyDict).push (W.instObj C s.heap.objs.size)).get? (s.heap.objs.size+1)=aa (W.instObj C s.heap.objs.size):=by
  have:=bj (s.heap.push W.emptyDict) (o:=W.instObj C s.heap.objs.size) rfl;rwa[gw] at this
 have e3:(s.heap.push W.emptyDict).Ns s.heap.objs.size (λ_=>ae):=⟨W.emptyDict,#[],_,e1,rfl,(λe he=>absurd he (by simp)),λ_=>rfl⟩;have I1:=I.laid (a:=s.heap.objs.size) (o:=.own (s.heap.objs.size+1)) (h':=s.heap.push W.emptyDict) (t':=s.toks) (λb u q=>aA _ q) (az _) ⟨_,e1⟩;refine I1.laid (a:=s.heap.objs.size+1) (o:=.ins C s.heap.objs.size []) (t':=s.toks) (λb u q=>aA _ q) (gJ (gw _ _)) ?_;have ne:s.heap.objs.size≠s.heap.objs.size+1:=aS (dj _);refine⟨by rw[c4 ne,fE],dq _,ne,e2,λ_=>ae,(sL e3).at λo q=>aA _ q,λ_=>dg,λy hy=>absurd rfl hy⟩
theorem Qi{prog:aX}{w:bB}{env:Env}{e:bo}{f:Str}{pos:Pos}{s:ar}{Q:af->ar->Prop}(hb:bU e f env (eval e env)=eval e env)
  (h:wpAny (aK prog w) A (eval e env) (λo s₁=>wpAny (aK prog w) A (wj o f true) Q E s₁) E s):wpAny (aK prog w) A (eval (.Attribute e f pos) env) Q E s:=
 Attribute_any_ h (by rw[arm_eval_Attribute,hb])
end
def Kv(K:W.Frag)(ta:TE)(f:Str):TE:=fun σ H Q=>ta σ H λx H1=>∃a C dx fs v,x=.ref a/\H1 a=aa (.ins C dx fs)/\nU K C/\oa K C f/\fs.lookup f=aa v/\Q v H1
def Kw(K:W.Frag)(ta tv:TE)(f:Str):TS:=λD σ H=>tv σ H λy H1=>ta σ H1 λx H2=>∃a C dx fs,x=.ref a/\H2 a=aa (.ins C dx fs)/\nU K C/\oa K C f/\fs.length<1000 /\
 D.nx σ (upd H2 a (.ins C dx (iu f y fs)))
section
variable {X:Cx}{o e value:bo}{f:Str}{pos jh Kx:Pos}{ta tv:TE}
theorem XX(he:PE X e ta)(hb:bU e f X.env (eval e X.env)=eval e X.env):PE X (.Attribute e f pos) (Kv X.K ta f):=by
 intro ag s σ H Q I h;refine Qi hb (dm (he ag s σ H _ I h) λu s1 cN=>?_);obtain⟨x,H1,I1,rx,a,C,dx,fs,v,ex,ea,c,n,l,q⟩:=cN;subst ex;obtain rfl:u=aO a:=rx;exact XU I1 ea c n l λu' s2 I2 ru=>⟨v,H1,I2,ru,q⟩
theorem XY(ha:PE X o ta)(hv:PE X value tv)(hs:eX value (aa (.Attribute o f jh)) pos.line X.env=pure false):PS X (.Assign [.Attribute o f jh] value pos) (Kw X.K ta tv f):=by
 intro ag s σ H D I h;refine o7 (dm (hv ag s σ H _ I h) λu s1 cN=>?_) hs;obtain⟨y,H1,I1,ry,q⟩:=cN;refine dm (ha ag s1 σ H1 _ I1 q) λov s2 cN=>?_;obtain⟨x,H2,I2,rx,a,C,dx,fs,ex,ea,c,n,l,q2⟩:=cN;subst ex;obtain rfl:ov=aO a:=rx;exact XW I2 ea c n l ry λs3 I3=>⟨σ,_,I3,q2⟩
theorem z4v{pl:Sem Bool}{m:Str}{cC:Pos}{args:List bo}{ag:List (aj×Obj)}{s:ar}{σ:St}{H:Hp}{Q:af->ar->Prop}{te:TE}(he:PE X e te)(I:Inv X ag σ H s)
  (h:te σ H λx H1=>∃a C dx fs g,x=.ref a/\H1 a=aa (.ins C dx fs)/\nU X.K C/\vn X.K C m g/\fs.lookup m=ae /\
   ∀s1,Inv X ag σ H1 s1->wpAny (aK X.prog X.w) X.A (jm pos (.ref g) [.ref a] (bJ pos (av args X.env)) (eY pos (cX [] X.env))) Q X.xe s1)
  (ht:eval (.Call (.Attribute e m cC) args [] pos) X.env=(do
   let ov <- eval e X.env
   kX cC.atName
   let (f,first) <- kY [ov] (gM ov m pl)
   jm pos f first (bJ pos (av args X.env)) (eY pos (cX [] X.env)))) :
  wpAny (aK X.prog X.w) X.A (eval (.Call (.Attribute e m cC) args [] pos) X.env) Q X.xe s:=by
 refine W.methodCall_KW (pl:=pl) (dm (he ag s σ H _ I h) λu s1 cN=>?_) ht;obtain⟨x,H1,I1,rx,a,C,dx,fs,g,ex,ea,c,k,l,q⟩:=cN;subst ex;obtain rfl:u=aO a:=rx;exact Ku I1 ea c k l (q s1 I1)
end
section
variable {X:Cx}{ag:List (aj×Obj)}{σ:St}{H:Hp}{s:ar}{A:cf}{E:af->ar->Prop}{Q:af->ar->Prop}{c:af}{b:Bool}
inductive jJ(K:W.Frag)(H:Hp):V->af->Prop where
 |bY:jJ K H .bY (.type "NoneType")
 |bl (x:Bool):jJ K H (.bl x) (.type "bool")
 |int (i:Int):jJ K H (.int i) (.type "int")
 |str (x:Str):jJ K H (.str x) (.type "str")
 |Af (x:UInt64):jJ K H (.Af x) (.type "float")
 |lst {a:aj} {xs:List V} (e:H a=aa (.lst xs)):jJ K H (.ref a) (.type "list")
 |dY {a:aj} {o:Obj} {xs:List V} (e:H a=aa (.dY o (.lst xs))):jJ K H (.ref a) (.type "list")
 |tup {a:aj} {xs:List V} (e:H a=aa (.tup xs)):jJ K H (.ref a) (.type "tuple")
 |dK {a:aj} {kvs:List (b9×V)} (e:H a=aa (.dK kvs)):jJ K H (.ref a) (.type "dict")
 |dT {a:aj} {kvs:List (List b9×V)} (e:H a=aa (.dT kvs)):jJ K H (.ref a) (.type "dict")
 |ins {a C dx:aj} {fs:List (Str×V)} (e:H a=aa (.ins C dx fs)) (cl:nU K C) (ha:W.findIn K (.ref C) "__class__" = aa (aa (.builtin "object.__class__")))
  (hn:W.specialIn K (.builtin "object.__class__") "__get__" = aa (aa (.builtin "getset_descriptor.__get__"))) (Qj:W.takesIn K (.builtin "object.__class__")=aa true)
  (hm:W.mroIn K C (.type "object")=aa true):jJ K H (.ref a) (.ref C)
theorem XZ{x:V}{u t:af}(I:Inv X ag σ H s)(rx:RelV x u)(ty:jJ X.K H x t)(e:W.kitOne X.K t c=aa b)(h:∀tk,Q (.bool b) { s with toks:=tk }) :
  wpAny (aK X.prog X.w) A (call (.builtin "isinstance") [u,c]) Q E s:=by
 cases ty with
 |bY=>cases (show u=jD from rx);exact W.kia_one W.kitx_none I.jq dg e (λz=>nomatch z) h
 |bl y=>cases (show u=dM y from rx);exact W.kia_one W.kitx_bool I.jq dg e (λz=>nomatch z) h
 |int i=>obtain⟨t,q⟩:=(show∃t,u=kE i t from rx);cases q;exact W.kia_one W.kitx_int I.jq dg e (λz=>nomatch z) h
 |str y=>obtain⟨t,q⟩:=(show∃t,u=kF y t from rx);cases q;exact W.kia_one W.kitx_str I.jq dg e (λz=>nomatch z) h
 |Af y=>obtain⟨t,q⟩:=(show∃t,u=sH y t from rx);cases q;exact W.kia_one W.kitx_float I.jq dg e (λz=>nomatch z) h
 | @lst a xs ea=>
   cases (show u=aO a from rx);obtain⟨_,_,n,_,h1⟩:=(show jY X.prog X.w H s.heap a (.lst xs) from I.cB a _ ea);exact W.kia_one W.kitx_list I.jq ⟨_,h1,rfl⟩ e (λz=>nomatch z) h
 | @dY a ob xs ea=>
   cases (show u=aO a from rx);obtain⟨_,_,_,n,_,h1⟩:=(show jY X.prog X.w H s.heap a (.dY ob (.lst xs)) from I.cB a _ ea);exact W.kia_one W.kitx_list I.jq ⟨_,h1,rfl⟩ e (λz=>nomatch z) h
 | @tup a xs ea=>
   cases (show u=aO a from rx);obtain⟨_,_,_,p⟩:=(show jY X.prog X.w H s.heap a (.tup xs) from I.cB a _ ea);obtain⟨o,h1,h2,_⟩:=p;exact W.kia_one W.kitx_tuple I.jq ⟨o,h1,h2⟩ e (λz=>nomatch z) h
 | @dK a kvs ea=>
   cases (show u=aO a from rx);obtain⟨_,_,vs,_,p⟩:=(show jY X.prog X.w H s.heap a (.dK kvs) from I.cB a _ ea);obtain⟨o,es,ep,h1,h2,_⟩:=p;exact W.kia_one W.kitx_dict I.jq ⟨o,h1,h2.1⟩ e (λz=>nomatch z) h
 | @dT a kvs ea=>
   cases (show u=aO a from rx);obtain⟨_,_,xs,_,o,es,ep,h1,h2,_⟩:=(show jY X.prog X.w H s.heap a (.dT kvs) from I.cB a _ ea);exact W.kia_one W.kitx_dict I.jq ⟨o,h1,h2.1⟩ e (λz=>nomatch z) h
 | @ins a C dx fs ea cl ha hn Qj hm=>
   cases (show u=aO a from rx);obtain⟨mA,O,_⟩:=Hf I.cB ea;obtain⟨od,J,_⟩:=O.look;exact W.kia_one (W.kitx_own (cl.get _) cl.hd ha hn Qj hm) I.jq J e (λz=>nomatch z) h
end
structure d7(k:Nat)(A:cf):Prop where
 hd:A.handled=ae
 dp:A.depth+3*k+5<recursionLimit
 un:A.units+16*k+200<fq
 gd:A.guards=aa []
theorem d7.mono{j k:Nat}{A:cf}(r:d7 k A)(h:j<=k):d7 j A:=⟨r.hd,by have:=r.dp;omega,by have:=r.un;omega,r.gd⟩
theorem d7.deeper{k:Nat}{A:cf}(r:d7 (k+1) A)(env:Env):d7 k (A.deeper env):=
 ⟨r.hd,by have:=r.dp;show A.depth+1+3*k+5<_;omega,by have:=r.un;show A.units+3+16*k+200<_;omega,r.gd⟩
theorem X0{A:cf}{C:aj}{us:List af}{kw:List (Str×af)}:(A.under (.builtin "type.__call__" ⟨.ref C::us,kw⟩)).depth=A.depth+1:=by
 first | rfl | simp[lR,Code.weight,Code.isCreation,DC,Code.isCaller,GA,rG,guardIds]
theorem X1{A:cf}{C:aj}{us:List af}{kw:List (Str×af)}:(A.under (.builtin "type.__call__" ⟨.ref C::us,kw⟩)).units=A.units+1:=by
 first | rfl | simp[lR,Code.cUnits,GA,rG]
theorem X2{A:cf}{C:aj}{us:List af}{kw:List (Str×af)}(h:A.guards=aa []):(A.under (.builtin "type.__call__" ⟨.ref C::us,kw⟩)).guards=aa []:=by
 have e:(Code.builtin "type.__call__" ⟨.ref C::us,kw⟩).guards=[]:=by first | rfl | simp[Code.guards,DC,guardIds]
 unfold lR;simp only[e,h];rfl
theorem d7.make{k:Nat}{A:cf}(r:d7 (k+1) A)(C:aj)(us:List af)(kw:List (Str×af)):d7 k (A.under (.builtin "type.__call__" ⟨.ref C::us,kw⟩)):=
 ⟨r.hd,by have:=r.dp;rw[X0];omega,by have:=r.un;rw[X1];omega,X2 r.gd⟩
theorem d7.depth{k:Nat}{A:cf}(r:d7 k A):A.depth<recursionLimit:=by have:=r.dp;omega
theorem d7.units{k:Nat}{A:cf}(r:d7 k A):A.units+64<fq:=by have:=r.un;omega
def tU:TA:=λ_ H Q=>Q [] H
def Ct(ta:TE)(tr:TA):TA:=fun σ H Q=>ta σ H λx H1=>tr σ H1 λxs H2=>Q (x::xs) H2
section
variable {X:Cx}{e:bo}{es:List bo}{te:TE}{t:TA}{pos:Pos}
theorem zg:PA X [] tU:=λ_ _ _ _ H Q I h=>u5 ⟨[],H,I,.nil,h⟩
theorem vo(ha:PE X e te)(hr:PA X es t)(hs:av (e::es) X.env=(false,eval e X.env)::av es X.env:=by rfl):PA X (e::es) (Ct te t):=by
 intro pos ag s σ H Q I h;rw[hs];show wpAny _ _ (spliced ((false,eval e X.env)::bJ pos (av es X.env))) _ _ s;refine uH (dm (ha ag s σ H _ I h) λu s1 cN=>?_);obtain⟨x,H1,I1,r1,q1⟩:=cN;exact dm (hr pos ag s1 σ H1 _ I1 q1) λus s2 ⟨xs,H2,I2,r2,q2⟩=>⟨x::xs,H2,I2,.cons r1 r2,q2⟩
def Ky(t:TA):TE:=fun σ H Q=>t σ H λxs H1=>xs.length<=sizeLine/\∀p,H1 p=ae->Q (.ref p) (upd H1 p (.tup xs))
def Kz(t:TA):TE:=fun σ H Q=>t σ H λxs H1=>xs.length<=sizeLine/\∀p,H1 p=ae->Q (.ref p) (upd H1 p (.lst xs))
theorem X3{x1}(h:PA X es t):PE X (.Tuple es x1 pos) (Ky t):=by
 intro ag s σ H Q I hq;refine wpAny_Tuple_spliced (dm (h pos ag s σ H _ I hq) λus s1 ⟨xs,H1,I1,r,z,q⟩=>⟨by rw[<- r.length];exact z,?_⟩);have hf:H1 s1.heap.objs.size=ae:=I1.cB.fresh (az _);refine⟨.ref s1.heap.objs.size,upd H1 s1.heap.objs.size (.tup xs),I1.laid (t':=s1.toks) (λb u e=>aA _ e) (az _) ?_,rfl,q _ hf⟩;exact⟨z,us,r,⟨_,bj _ rfl,rfl,_,rfl⟩⟩
theorem Qk(h:PA X es t):PE X (.List es pos) (Kz t):=by
 intro ag s σ H Q I hq;refine wpAny_List_spliced (dm (h pos ag s σ H _ I hq) λus s1 ⟨xs,H1,I1,r,z,q⟩=>⟨by rw[<- r.length];exact z,?_⟩);have hf:H1 s1.heap.objs.size=ae:=I1.cB.fresh (az _);refine⟨.ref s1.heap.objs.size,upd H1 s1.heap.objs.size (.lst xs),I1.laid (t':=s1.toks) (λb u e=>aA _ e) (az _) ?_,rfl,q _ hf⟩;exact⟨z,us,0,r,bj _ rfl⟩
end
abbrev Sp:=List V->Hp->VK->XK->Prop
abbrev sW:=List Env->Hp->ar->XK->af->ar->Prop
structure rS(P:aX)(w:bB)(K:W.Frag)(mg:Str->Option af)(base:bO)(A:cf)(outer:List Env)(s:ar)(H:Hp):Prop where
 frames:A.frames=aa outer
 mod:Mod K mg base
 bs:∀b o,base.get? b=aa o->s.heap.get? b=aa o/\H b=ae
 xh:base.objs.size<=s.heap.objs.size
 mI:s.heap.FunFrames base outer
 Aj:∀b∈j8 outer,H b=ae
 cB:iE P w H s.heap
 bare:jH s.gens
def CE(outer:List Env)(P:aX)(w:bB)(H:Hp)(s:ar)(Q:VK)(u:af)(s':ar):Prop:=
 ∃v H',s'.os=s.os/\jH s'.gens/\Un (j8 outer) [] H H' s.heap s'.heap/\iE P w H' s'.heap/\RelV v u/\Q v H'
def CR(CX:sW)(outer:List Env)(P:aX)(w:bB)(H:Hp)(s:ar)(Q:VK)(E:XK)(r:B8)(s':ar):Prop:=
 match r with
 |.ok (.ret u)=>CE outer P w H s Q u s'
 |.ok _=>False
 |.error e=>CX outer H s E e s'
structure bW(P:aX)(w:bB)(K:W.Frag)(mg:Str->Option af)(base:bO)(CX:sW)(k:Nat)(f:aj)(fd:bI)(ps:List Str)(sp:Sp):Prop where
 len:∀vs H Q E,sp vs H Q E->vs.length=ps.length
 run:∀(A:cf) (outer:List Env) (s:ar) (H:Hp) (args:Args) (us:List af) (vs:List V) (Q:VK) (E:XK),d7 k A->rS P w K mg base A outer s H->rH s fd args (ps.zip us)->cj vs us->sp vs H Q E ->
  codeAny (aK P w) A (.call (.ref f) args) (CR CX outer P w H s Q E) s
theorem bW.mono{P:aX}{w:bB}{K:W.Frag}{mg:Str->Option af}{base:bO}{CX:sW}{j k:Nat}{f:aj}{fd:bI}{ps:List Str}{sp:Sp}(F:bW P w K mg base CX j f fd ps sp)(h:j<=k) :
 bW P w K mg base CX k f fd ps sp:=⟨F.len,λA outer s H args us vs Q E hr=>F.run A outer s H args us vs Q E (hr.mono h)⟩
theorem bW.imp{P:aX}{w:bB}{K:W.Frag}{mg:Str->Option af}{base:bO}{CX:sW}{k:Nat}{f:aj}{fd:bI}{ps:List Str}{sp Ql:Sp}(F:bW P w K mg base CX k f fd ps sp)
  (h:∀vs H Q E,Ql vs H Q E->sp vs H Q E):bW P w K mg base CX k f fd ps Ql:=
 ⟨λvs H Q E q=>F.len vs H Q E (h _ _ _ _ q),λA outer s H args us vs Q E hr he hb hv hs=>F.run A outer s H args us vs Q E hr he hb hv (h _ _ _ _ hs)⟩
theorem rS.make{P:aX}{w:bB}{K:W.Frag}{mg:Str->Option af}{base:bO}{A:cf}{outer:List Env}{s:ar}{H:Hp}(e:rS P w K mg base A outer s H)(C:aj)(us:List af)(kw:List (Str×af)) :
 rS P w K mg base (A.under (.builtin "type.__call__" ⟨.ref C::us,kw⟩)) outer s H:=⟨by first | exact e.frames | (simpa[lR,Code.envs,rG,pushEnvs] using e.frames),e.mod,e.bs,e.xh,e.mI,e.Aj,e.cB,e.bare⟩
section
variable {X:Cx}{ag:List (aj×Obj)}{σ:St}{H:Hp}{s s':ar}
theorem Inv.Ax(I:Inv X ag σ H s):rS X.prog X.w X.K X.mg X.base X.A X.stack s H:=
 ⟨I.ok.frames,I.ok.mod,I.bs,bt I.ok.xh I.sz,I.stack,I.lB,I.cB,I.bare⟩
theorem Inv.after{Q:VK}{u:af}(I:Inv X ag σ H s)(h:CE X.stack X.prog X.w H s Q u s'):EP X ag σ Q u s':=by
 obtain⟨v,H',os,bare,un,cB,r,q⟩:=h;obtain⟨hh,g,d,t,X4⟩:=s';obtain rfl:X4=s.os:=os;exact⟨v,H',I.call (h':=hh) (g':=g) (d':=d) (t':=t) (ch:=[]) un cB bare (λb z=>absurd z (by simp)),r,q⟩
end
def Qm(sp:Sp)(jr:List V)(E:XK)(t:TA):TE:=fun σ H Q=>t σ H λvs H1=>sp (vs++jr) H1 Q E
def KA(C:aj)(m:Str)(sp:Sp)(jr:List V)(E:XK)(ta:TE)(t:TA):TE:=fun σ H Q=>ta σ H λx H1=>∃a dx fs,x=.ref a/\H1 a=aa (.ins C dx fs)/\fs.lookup m=ae /\
 t σ H1 λvs H2=>sp (x::(vs++jr)) H2 Q E
def KC(C:aj)(sp:Sp)(jr:List V)(E:XK)(t:TA):TE:=fun σ H Q=>t σ H λvs H1=>∀x dx,H1 x=ae->H1 dx=ae->dx≠x ->
 sp (.ref x::(vs++jr)) (upd (upd H1 dx (.own x)) x (.ins C dx [])) (λv H2=>v=.bY/\Q (.ref x) H2) E
def mK(K:W.Frag)(fd:bI)(ps:List Str)(ds:List af):Prop:=
 ∀(s:ar) (us:List af),K.In s.heap->(us++ds).length=ps.length->rH s fd ⟨us,[]⟩ (ps.zip (us++ds))
theorem mK.all{K:W.Frag}{fd:bI}{ps:List Str}(h:∀us:List af,us.length=ps.length->yS fd ⟨us,[]⟩=pure (ps.zip us)):mK K fd ps []:=λs us _ hl=>by
 rw[cE] at hl ⊢;exact .of_eq (h us hl)
def oS(CX:sW)(X:Cx)(E:XK):Prop:=∀(ag:List (aj×Obj)) (σ:St) (H:Hp) (s:ar) (e:af) (s':ar),Inv X ag σ H s->CX X.stack H s E e s'->X.xe e s'
section
variable {X:Cx}{CX:sW}{k:Nat}{f C:aj}{fd:bI}{ps:List Str}{sp:Sp}{jr:List V}{ds:List af}{E:XK}{x m:Str}{p pos cC:Pos}{e o:bo}{es:List bo}{ta:TE}{t:TA}
theorem KD{ag:List (aj×Obj)}{σ:St}{H:Hp}{s:ar}{Q:VK}{us:List af}{vs:List V}(F:bW X.prog X.w X.K X.mg X.base CX k f fd ps sp)(hr:d7 k X.A)(hb:mK X.K fd ps ds)(hd:cj jr ds)(hx:oS CX X E)
  (I:Inv X ag σ H s) (r:cj vs us) (h:sp (vs++jr) H Q E):wpAny (aK X.prog X.w) X.A (call (.ref f) us) (EP X ag σ Q) X.xe s:=by
 have r2:cj (vs++jr) (us++ds):=r.append hd;have hl:(us++ds).length=ps.length:=by rw[<- r2.length];exact F.len _ _ _ _ h
 refine kZ (ja (F.run X.A X.stack s H ⟨us,[]⟩ (us++ds) (vs++jr) Q E hr I.Ax (hb s us I.jq hl) r2 h) λr s' hq=>?_);cases r with
 |error e=>exact hx ag σ H s e s' I hq
 | ok fl=>
   cases fl with
   |ret u=>exact I.after hq
   |next=>exact df hq
   |brk=>exact df hq
   |cont=>exact df hq
theorem X5(F:bW X.prog X.w X.K X.mg X.base CX k f fd ps sp)(hr:d7 k X.A)(hg:Gl X x)(hm:X.mg x=aa (.ref f))(hk:W.keepIn X.K (.ref f)=true)(hb:mK X.K fd ps ds)(hd:cj jr ds)(hx:oS CX X E)
  (ha:PA X (e::es) t) (i8:(x==("__debug__" : Str))=false:=by decide) (he:av (e::es) X.env=(false,eval e X.env)::av es X.env:=by rfl) (gm:(bJ pos (av es X.env)).any (·.1)=false:=by rfl) :
  PE X (.Call (.Name x p) (e::es) [] pos) (Qm sp jr E t):=by
 intro ag s σ H Q I h;refine fw (xj I hg hm ?_ i8);refine W.callWith_K (h₀:=X.base) I.ok.mod.Cj hk (dm (ha pos ag s σ H _ I h) λus s1 ⟨vs,H1,I1,r,q⟩=>⟨I1.jq,?_⟩) he gm;exact KD F hr hb hd hx I1 r q
theorem Qn{pl:Sem Bool}(he:PE X o ta)(c:nU X.K C)(hm:vn X.K C m f)(F:bW X.prog X.w X.K X.mg X.base CX k f fd ps sp)(hr:d7 k X.A)(hb:mK X.K fd ps ds)(hd:cj jr ds)(hx:oS CX X E)(ha:PA X (e::es) t)
  (dI:av (e::es) X.env=(false,eval e X.env)::av es X.env:=by rfl) (gm:(bJ pos (av es X.env)).any (·.1)=false:=by rfl)
  (ht:eval (.Call (.Attribute o m cC) (e::es) [] pos) X.env=(do
   let ov <- eval o X.env
   kX cC.atName
   let (f,first) <- kY [ov] (gM ov m pl)
   jm pos f first (bJ pos (av (e::es) X.env)) (eY pos (cX [] X.env))):=by rfl) :
  PE X (.Call (.Attribute o m cC) (e::es) [] pos) (KA C m sp jr E ta t):=by
 intro ag s σ H Q I h;refine W.methodCall_KW (pl:=pl) (dm (he ag s σ H _ I h) λu s1 cN=>?_) ht;obtain⟨x,H1,I1,rx,a,dx,fs,ex,ea,l,q⟩:=cN;subst ex;obtain rfl:u=aO a:=rx;refine Ku I1 ea c hm l ?_;refine W.callWith_K (first:=[.ref a]) (h₀:=X.base) I.ok.mod.Cj hm.kp (dm (ha pos ag s1 σ H1 _ I1 q) λus s2 ⟨vs,H2,I2,r,q2⟩=>⟨I2.jq,?_⟩) dI gm;exact KD (us:=.ref a::us) (vs:=.ref a::vs) F hr hb hd hx I2 (.cons rfl r) q2
theorem X6{pl:Sem Bool}(he:PE X o ta)(c:nU X.K C)(hm:vn X.K C m f)(F:bW X.prog X.w X.K X.mg X.base CX k f fd ps sp)(hr:d7 k X.A)(hb:mK X.K fd ps ds)(hd:cj jr ds)(hx:oS CX X E)
  (ht:eval (.Call (.Attribute o m cC) [] [] pos) X.env=(do
   let ov <- eval o X.env
   kX cC.atName
   let (f,first) <- kY [ov] (gM ov m pl)
   jm pos f first (bJ pos (av [] X.env)) (eY pos (cX [] X.env))):=by rfl) :
  PE X (.Call (.Attribute o m cC) [] [] pos) (KA C m sp jr E ta tU):=by
 intro ag s σ H Q I h;refine W.methodCall_KW (pl:=pl) (dm (he ag s σ H _ I h) λu s1 cN=>?_) ht;obtain⟨x,H1,I1,rx,a,dx,fs,ex,ea,l,q⟩:=cN;subst ex;obtain rfl:u=aO a:=rx;refine Ku I1 ea c hm l ?_;exact W.callWith_K0 (first:=[.ref a]) I1.jq hm.kp (KD (us:=[.ref a]) (vs:=[.ref a]) F hr hb hd hx I1 (.cons rfl .nil) q)
structure Mk(K:W.Frag)(C f:aj):Prop where
 makes:W.makesIn K C=true
 init:W.findIn K (.ref C) "__init__" = aa (aa (.ref f))
 fn:W.isFn K (.ref f)=true
 kp:W.keepIn K (.ref C)=true
theorem Qo{ag:List (aj×Obj)}{σ:St}{H:Hp}{s:ar}{Q:VK}{us:List af}{vs:List V}(M:Mk X.K C f)(F:bW X.prog X.w X.K X.mg X.base CX k f fd ps sp)(hr:d7 (k+1) X.A)(hb:mK X.K fd ps ds)(hd:cj jr ds)
  (hx:oS CX X E) (I:Inv X ag σ H s) (r:cj vs us)
  (h:∀x dx,H x=ae->H dx=ae->dx≠x->sp (.ref x::(vs++jr)) (upd (upd H dx (.own x)) x (.ins C dx [])) (λv H2=>v=.bY/\Q (.ref x) H2) E) :
  wpAny (aK X.prog X.w) X.A (call (.ref C) us) (EP X ag σ Q) X.xe s:=by
 have hq:=h (s.heap.objs.size+1) s.heap.objs.size (I.cB.fresh (h9 _)) (I.cB.fresh (az _)) (aS (dj _));have I2:=Inv.made (C:=C) I;have r2:cj (V.ref (s.heap.objs.size+1)::(vs++jr)) (aO (s.heap.objs.size+1)::(us++ds)):=.cons rfl (r.append hd);have hl:(aO (s.heap.objs.size+1)::us++ds).length=ps.length:=by
  have e:=r2.length;rw[F.len _ _ _ _ hq] at e;exact e.symm
 refine kZ (XT (f:=f) I.jq M.makes M.init (beq_iff_eq.mp M.fn) (ja (F.run _ X.stack _ _ ⟨aO (s.heap.objs.size+1)::us,[]⟩ (aO (s.heap.objs.size+1)::(us++ds)) _ _ E (hr.make C us [])
  (I2.Ax.make C us []) (hb _ (aO (s.heap.objs.size+1)::us) I2.jq hl) r2 hq) λr s' D'=>?_))
 cases r with
 |error e=>exact hx ag σ _ _ e s' I2 D'
 | ok fl=>
   cases fl with
   | ret u=>
     obtain⟨v,H',I3,rv,ev,q3⟩:=I2.after D';subst ev;exact⟨rv,⟨V.ref (s.heap.objs.size+1),H',I3,rfl,q3⟩⟩
   |next=>exact df D'
   |brk=>exact df D'
   |cont=>exact df D'
theorem X7(M:Mk X.K C f)(F:bW X.prog X.w X.K X.mg X.base CX k f fd ps sp)(hr:d7 (k+1) X.A)(hg:Gl X x)(hm:X.mg x=aa (.ref C))(hb:mK X.K fd ps ds)(hd:cj jr ds)(hx:oS CX X E)
  (ha:PA X (e::es) t) (i8:(x==("__debug__" : Str))=false:=by decide) (he:av (e::es) X.env=(false,eval e X.env)::av es X.env:=by rfl) (gm:(bJ pos (av es X.env)).any (·.1)=false:=by rfl) :
  PE X (.Call (.Name x p) (e::es) [] pos) (KC C sp jr E t):=by
 intro ag s σ H Q I h;refine fw (xj I hg hm ?_ i8);refine W.callWith_K (h₀:=X.base) I.ok.mod.Cj M.kp (dm (ha pos ag s σ H _ I h) λus s1 ⟨vs,H1,I1,r,q⟩=>⟨I1.jq,?_⟩) he gm;exact Qo M F hr hb hd hx I1 r q
theorem X8(M:Mk X.K C f)(F:bW X.prog X.w X.K X.mg X.base CX k f fd ps sp)(hr:d7 (k+1) X.A)(hg:Gl X x)(hm:X.mg x=aa (.ref C))(hb:mK X.K fd ps ds)(hd:cj jr ds)(hx:oS CX X E)
  (i8:(x==("__debug__" : Str))=false:=by decide):PE X (.Call (.Name x p) [] [] pos) (KC C sp jr E tU):=by
 intro ag s σ H Q I h;refine fw (xj I hg hm ?_ i8);exact W.callWith_K0 I.jq M.kp (Qo (us:=[]) M F hr hb hd hx I .nil h)
end
structure iw(N P:List Str)(sc:ig):Prop where
 kind:sc.kind=.function
 co:sc.isCoroutine=false
 gen:sc.isGenerator=false
 nd:N.Nodup
 pre:N.take P.length=P
 par:∀x∈P,sc.names.lookup x=aa .local\/sc.names.lookup x=aa .cell
 Ay:∀y∈sc.names,y.2≠.free
theorem Qp{kindOf:Str->Option yT}{x:Str}:∀{binds:List (Str×af)} {m:Str->Option af},(∀v,(x,v)∉binds)->u6 kindOf binds m x=m x
 |[],_,_=>rfl
 | (n,v)::r,m,h=>by
   unfold u6;rw[Qp λw hw=>h w (au _ hw)]
   split
   .have:x≠n:=by rintro rfl;exact h v ay
    simp[this]
   .rfl
theorem Qq{kindOf:Str->Option yT}{x:Str}:∀{binds:List (Str×af)} {m:Str->Option af},(∀v,(x,v)∉binds)->u7 kindOf binds m x=m x
 |[],_,_=>rfl
 | (n,v)::r,m,h=>by
   unfold u7;rw[Qq λw hw=>h w (au _ hw)]
   split
   .rfl
   .have:x≠n:=by rintro rfl;exact h v ay
    simp[this]
theorem Qr{kindOf:Str->Option yT}{x:Str}{v:af}:∀{P:List Str} {vs:List af} {i:Nat} {m:Str->Option af},P.Nodup->P[i]?=aa x->vs[i]?=aa v->kindOf x=aa .local ->
  u6 kindOf (P.zip vs) m x=aa v
 |[],_,_,_,_,h,_,_=>by simp at h
 |_::_,[],_,_,_,_,h,_=>by simp at h
 | p::P,w::vs,0,m,nd,h1,h2,hk=>by
   simp at h1 h2;subst h1;subst h2;show u6 kindOf ((p,w)::P.zip vs) m p=_;unfold u6;rw[Qp λv hv=>(cF.mp nd).1 (n9 hv).1,if_pos hk];simp
 | p::P,w::vs,i+1,m,nd,h1,h2,hk=>by
   show u6 kindOf ((p,w)::P.zip vs) m x=_;unfold u6;exact Qr (i:=i) (cF.mp nd).2 (by simpa using h1) (by simpa using h2) hk
theorem Qs{kindOf:Str->Option yT}{x:Str}{v:af}:∀{P:List Str} {vs:List af} {i:Nat} {m:Str->Option af},P.Nodup->P[i]?=aa x->vs[i]?=aa v->kindOf x≠aa .local ->
  u7 kindOf (P.zip vs) m x=aa v
 |[],_,_,_,_,h,_,_=>by simp at h
 |_::_,[],_,_,_,_,h,_=>by simp at h
 | p::P,w::vs,0,m,nd,h1,h2,hk=>by
   simp at h1 h2;subst h1;subst h2;show u7 kindOf ((p,w)::P.zip vs) m p=_;unfold u7;rw[Qq λv hv=>(cF.mp nd).1 (n9 hv).1,if_neg hk];simp
 | p::P,w::vs,i+1,m,nd,h1,h2,hk=>by
   show u7 kindOf ((p,w)::P.zip vs) m x=_;unfold u7;exact Qs (i:=i) (cF.mp nd).2 (by simpa using h1) (by simpa using h2) hk
def start(N:List Str)(vs:List V):St:=vs.map aa++aT (N.length-vs.length) ae
def fP(CX:sW)(P:aX)(w:bB)(K:W.Frag)(mg:Str->Option af)(base:bO)(N:List Str)(qual:Str)(scope:ig)(f:aj)(cd:af)(A:cf)(outer:List Env)(s:ar)(H:Hp)(E:XK):Cx where
 prog:=P
 w:=w
 K:=K
 mg:=mg
 base:=base
 A:=A.deeper (iC qual scope s.heap.objs.size f cd)
 N:=N
 s₀:=s
 H₀:=H
 env:=iC qual scope s.heap.objs.size f cd
 outer:=outer
 stack:=iC qual scope s.heap.objs.size f cd::outer
 ex:=[]
 calm:=true
 fn:=λ_=>true
 pn:=[]
 xe:=λe s'=>wpAny (aK P w) (A.deeper (iC qual scope s.heap.objs.size f cd)) (rJ (iC qual scope s.heap.objs.size f cd) e) (λ_ KG=>CX outer H s E e KG) (λe' KG=>CX outer H s E e' KG) s'
theorem Qt{sc:ig}{n:Nat}{x:Str}(h:sc.names.lookup x=aa .cell):∃c,(GB n sc.names []).lookup x=aa c:=by
 have q:=W.cellsFrom_some sc.names n [] (.inl h);exact i5.mp q
theorem X9{CX:sW}{P:aX}{w:bB}{K:W.Frag}{mg:Str->Option af}{base:bO}{N ps:List Str}{qual:Str}{scope:ig}{f:aj}{cd:af}{A:cf}{outer:List Env}{s s1:ar}{H:Hp}{E:XK}{us:List af}{vs:List V}
  (S:iw N ps scope) (hd:A.handled=ae) (e0:rS P w K mg base A outer s H) (hl:vs.length=ps.length) (r:cj vs us)
  (x:InCallC s s.heap.objs.size (u6 (iC qual scope s.heap.objs.size f cd).kindOf (ps.zip us) λ_=>ae) (GB (s.heap.objs.size+1) scope.names []) (u7 (iC qual scope s.heap.objs.size f cd).kindOf (ps.zip us) λ_=>ae) s1) :
  Inv (fP CX P w K mg base N qual scope f cd A outer s H E) [] (start N vs) H s1:=by
 have gm:ps.length<=N.length:=by have:=congrArg kG S.pre;rw[jy] at this;omega
 obtain⟨h1,tk,rfl,hk⟩:=x.done;have Ea:∀b:aj,b∉(fP CX P w K mg base N qual scope f cd A outer s H E).ex:=λb z=>absurd (show b∈([]:List aj) from z) (by simp);refine⟨⟨e0.mod,S.kind,rfl,rfl,az _,λy z c h1 h2=>?_,λy hy=>?_,λy c _ h=>?_,λ_=>hd,Around.frames_deeper e0.frames,.inr ⟨rfl,rfl⟩,λb z=>absurd z (Ea b),e0.bs,e0.xh,λb _ _=>Ea b,λb z=>absurd z (Ea b),e0.mI,e0.Aj⟩,
  rfl,e0.bare,Un.kept hk,⟨_,x.toInCall.ns,λi y v h1 h2 h3=>?_⟩,λy c h=>⟨_,x.cell y c h⟩,e0.cB.fresh (az _),λy c h=>?_,λp hp=>absurd (show p∈([]:List (aj×Obj)) from hp) (by simp),e0.cB.kept hk,?_,λi v e=>nomatch (show(ae:Option (Option V))=aa (aa v) from e)⟩
 .exact name_of_addr x.apart (cZ h1) (cZ h2)
 .have hy:scope.names.lookup y=aa .cell\/scope.names.lookup y=aa .free:=hy
  rcases hy with hy | hy
  .exact Qt hy
  .exact absurd rfl (S.Ay _ (cZ hy))
 .exact mW (x.above y c (cZ h))
 .have hi:i<vs.length:=by
   unfold start at h2;by_cases hi:i<vs.length
   .exact hi
   .rw[bE (by simpa using hi)] at h2
    rw[rh] at h2
    split at h2<;>cases h2
  have ha:vs[i]?=aa v:=by
   unfold start at h2;rw[aw (by simpa using hi),bH] at h2;cases e:vs[i]? with
   |none=>rw[e] at h2;cases h2
   |some a=>rw[e] at h2;cases h2;rfl
  obtain⟨u,hu,rv⟩:=r.get ha;have hp:ps[i]?=aa y:=by
   rw[<- S.pre,d6 (by omega)];exact h1
  have Qu:ps.Nodup:=by rw[<- S.pre];exact S.nd.sublist (List.take_sublist _ _)
  refine⟨u,rv,?_⟩;rcases S.par y (kH hp) with k | k
  .exact .inl ⟨k,Qr Qu hp hu k⟩
  .obtain⟨c,e⟩:=Qt (n:=s.heap.objs.size+1) k
   refine .inr ⟨.inl k,c,e,?_⟩;have q:=x.cell y c e;rw[Qs Qu hp hu (by show scope.names.lookup y≠_;rw[k];decide)] at q;exact q
 .exact e0.cB.fresh (mW (x.above y c (cZ h)))
 .unfold start
  show _=N.length;rw[aB,aN,ft];omega
theorem X_{CX:sW}{P:aX}{w:bB}{K:W.Frag}{mg:Str->Option af}{base:bO}{k:Nat}{f:aj}{name qual:Str}{params:Arguments}{body:List cm}{scope:ig}{dV kV mZ pm gE ct oc:af}{an od:Option aj}
  {rj:Array (Option af)} {N ps:List Str} {sp:Sp} (lk:K.lookup f=aa ⟨oc,od,.func (W.fnOf name qual params body scope dV kV mZ pm an gE ct),rj⟩) (tT:W.codeIn K gE qual=true) (S:iw N ps scope)
  (len:∀vs H Q E,sp vs H Q E->vs.length=ps.length)
  (lD:∀(A:cf) (outer:List Env) (s:ar) (H:Hp) (vs:List V) (Q:VK) (E:XK),d7 k (A.deeper (iC qual scope s.heap.objs.size f gE))->sp vs H Q E ->
   ∃t,j9 (fP CX P w K mg base N qual scope f gE A outer s H E) body t/\t { nx:=λ_ H'=>Q .bY H',rt:=Q } (start N vs) H) :
  bW P w K mg base CX (k+1) f (W.fnOf name qual params body scope dV kV mZ pm an gE ct) ps sp:=by
 refine⟨len,λA outer s H args us vs Q E hr e0 hb r og=>?_⟩;have hl:=len _ _ _ _ og;have KX:K.In s.heap:=e0.mod.Cj.keeps λb o e=>(e0.bs b o e).1;have X':s.heap.NoLimit:=e0.mod.nolimit.keeps λb o e=>(e0.bs b o e).1;have Eb:∀y∈ps.zip us,scope.names.lookup y.1=aa .local\/(scope.names.lookup y.1=aa .cell/\((GB (s.heap.objs.size+1) scope.names []).lookup y.1).isSome=true):=λ⟨n,v⟩ hy=>by
  rcases S.par n (n9 hy).1 with q | q
  .exact .inl q
  .exact .inr ⟨q,W.cellsFrom_some _ _ _ (.inl q)⟩
 refine codeAny_call_function hr.depth (KX _ _ lk) rfl S.co S.gen rfl (W.codeRec_of KX tT) (hb _ _ _ _ ?_);refine wpAny_newFunctionEnv_cells S.kind Eb λenv he s1 x=>?_;subst he;refine⟨X'.keeps x.toInCall.keep,codeAny_func ?_⟩;obtain⟨t,ht,hq⟩:=lD A outer s H vs Q E (hr.deeper _) og;have I:Inv (fP CX P w K mg base N qual scope f gE A outer s H E) [] (start N vs) H s1:=X9 S hr.hd e0 hl r x;refine bF (ht [] s1 (start N vs) H _ I hq) (λfl s' hs=>?_) λe s' hs=>hs;have fO:∀{σ':St} {H':Hp} {v:V} {u:af},Inv (fP CX P w K mg base N qual scope f gE A outer s H E) [] σ' H' s'->RelV v u->Q v H'->CE outer P w H s Q u s':=
  λ{σ' H' v u} J rv q=>⟨v,H',J.os,J.bare,J.base,J.cB,rv,q⟩
 cases fl with
 | ret u=>
   obtain⟨v,σ',H',J,rv,q⟩:=hs;exact fO J rv q
 | next=>
   obtain⟨σ',H',J,q⟩:=hs;exact fO (v:=V.bY) (u:=jD) J rfl q
 | brk=>
   obtain⟨_,_,_,q⟩:=hs;exact df q
 | cont=>
   obtain⟨_,_,_,q⟩:=hs;exact df q
section
variable {X:Cx}{x:Str}{p pos:Pos}{e:bo}{es:List bo}{t:TA}{id T:String}{r:List V->Hp->VK->Prop}
def Hg(r:List V->Hp->VK->Prop)(t:TA):TE:=fun σ H Q=>t σ H λvs H1=>r vs H1 Q
theorem Qv(hc:rP X (.builtin id) r)(hg:Gl X x)(hm:X.mg x=ae)(hv:dO x=aa (.builtin id))(ha:PA X (e::es) t)(hn:x ≠ "__name__":=by decide)(i8:(x==("__debug__" : Str))=false:=by decide)
  (he:av (e::es) X.env=(false,eval e X.env)::av es X.env:=by rfl) (gm:(bJ pos (av es X.env)).any (·.1)=false:=by rfl):PE X (.Call (.Name x p) (e::es) [] pos) (Hg r t):=by
 intro ag s σ H Q I h;refine fw (Cp I hg hm hv ?_ hn i8);exact kI (dm (ha pos ag s σ H _ I h) λus s1 ⟨vs,H1,I1,r1,q1⟩=>hc ag s1 σ H1 vs us Q I1 r1 q1) he gm
theorem Qw(hc:rP X (.type T) r)(hg:Gl X x)(hm:X.mg x=ae)(hv:dO x=aa (.type T))(ha:PA X (e::es) t)(hn:x ≠ "__name__":=by decide)(i8:(x==("__debug__" : Str))=false:=by decide)
  (he:av (e::es) X.env=(false,eval e X.env)::av es X.env:=by rfl) (gm:(bJ pos (av es X.env)).any (·.1)=false:=by rfl):PE X (.Call (.Name x p) (e::es) [] pos) (Hg r t):=by
 intro ag s σ H Q I h;refine fw (Cp I hg hm hv ?_ hn i8);exact lN (dm (ha pos ag s σ H _ I h) λus s1 ⟨vs,H1,I1,r1,q1⟩=>hc ag s1 σ H1 vs us Q I1 r1 q1) he gm
end
section
variable {κ:Type}[DecidableEq κ]
def ji(kvs:List (κ×V))(k:κ):Option V:=(kvs.find? λkv=>decide (kv.1=k)).map (·.2)
def kc(kvs:List (κ×V))(k:κ)(v:V):List (κ×V):=
 if(kvs.any λkv=>decide (kv.1=k))=true then kvs.map (λkv=>if kv.1=k then(kv.1,v) else kv) else kvs++[(k,v)]
def zh(kvs:List (κ×V))(k:κ):List (κ×V):=kvs.filter λkv=>decide (kv.1≠k)
theorem Hh{p:κ×V}{r:List (κ×V)}{k:κ}(e:p.1=k):ji (p::r) k=aa p.2:=by simp[ji,bT,e]
theorem Hi{p:κ×V}{r:List (κ×V)}{k:κ}(e:¬p.1=k):ji (p::r) k=ji r k:=by simp[ji,bT,e]
theorem Qx(k:κ):∀kvs:List (κ×V),(kvs.any λkv=>decide (kv.1=k))=(ji kvs k).isSome
 |[]=>rfl
 | p::r=>by
   rw[ff];by_cases e:p.1=k
   .simp only[Hh e,decide_eq_true e,Bool.true_or,Option.isSome_some]
   .rw[Hi e,decide_eq_false e,qz];exact Qx k r
theorem KH(kvs:List (κ×V))(k:κ)(v:V):(kc kvs k v).length<=kvs.length+1:=by
 unfold kc
 split
 .rw[aN];omega
 .rw[aB,aL,ik];omega
theorem iQ.h_{o:Option V}{u:Option af}(r:iQ o u):o.isSome=u.isSome:=by
 cases o with
 | none=>cases u with
   |none=>rfl
   |some _=>exact(show False from r).elim
 | some _=>cases u with
   |none=>exact(show False from r).elim
   |some _=>rfl
theorem KV.val{kvs:List (κ×V)}{vs:List (κ×af)}(r:KV kvs vs)(k:κ):iQ (ji kvs k) (mD vs k):=by
 unfold KV at r
 induction r with
 |nil=>exact dg
 | @cons p q ps qs h t ih=>
   obtain⟨h1,h2⟩:=h;by_cases e:p.1=k
   .have e':q.1=k:=h1.symm.trans e
    have b:mD (q::qs) k=aa q.2:=by simp[mD,bT,e']
    rw[Hh e,b];exact h2
   .have e':¬q.1=k:=λz=>e (h1.trans z)
    have b:mD (q::qs) k=mD qs k:=by simp[mD,bT,e']
    rw[Hi e,b];exact ih
theorem KV.any{kvs:List (κ×V)}{vs:List (κ×af)}(r:KV kvs vs)(k:κ):(kvs.any λkv=>decide (kv.1=k))=vs.any λkv=>decide (kv.1=k):=by
 unfold KV at r
 induction r with
 |nil=>rfl
 |cons h t ih=>rw[ff,ff,ih,h.1]
theorem KV.tV{kvs:List (κ×V)}{vs:List (κ×af)}(r:KV kvs vs)(k:κ){y:V}{u:af}(ry:RelV y u) :
  KV (kvs.map λkv=>if kv.1=k then(kv.1,y) else kv) (vs.map λkv=>if kv.1=k then(kv.1,u) else kv):=by
 unfold KV at r ⊢
 induction r with
 |nil=>exact .nil
 | @cons p q ps qs h t ih=>
   rw[aE,aE];refine .cons ?_ ih;obtain⟨h1,h2⟩:=h;by_cases e:p.1=k
   .rw[if_pos e,if_pos (h1.symm.trans e)];exact⟨h1,ry⟩
   .rw[if_neg e,if_neg (λz=>e (h1.trans z))];exact⟨h1,h2⟩
theorem KV.put{kvs:List (κ×V)}{vs:List (κ×af)}(r:KV kvs vs)(k:κ){y:V}{u:af}(ry:RelV y u):KV (kc kvs k y) (stored vs k u):=by
 unfold kc stored;rw[r.any k];by_cases e:(vs.any λkv=>decide (kv.1=k))=true
 .rw[if_pos e,if_pos e];exact r.tV k ry
 .rw[if_neg e,if_neg e];exact B9 r ⟨rfl,ry⟩
theorem KV.drop{kvs:List (κ×V)}{vs:List (κ×af)}(r:KV kvs vs)(k:κ):KV (zh kvs k) (without vs k):=by
 unfold KV at r ⊢;unfold zh without
 induction r with
 |nil=>exact .nil
 | @cons p q ps qs h t ih=>
   obtain⟨h1,h2⟩:=h;rw[fH,fH];by_cases e:p.1=k
   .have a:¬decide (p.1≠k)=true:=by simp[e]
    have b:¬decide (q.1≠k)=true:=by simp[h1.symm.trans e]
    rw[if_neg a,if_neg b];exact ih
   .have e':¬q.1=k:=λz=>e (h1.trans z)
    have a:decide (p.1≠k)=true:=by simp[e]
    have b:decide (q.1≠k)=true:=by simp[e']
    rw[if_pos a,if_pos b];exact .cons ⟨h1,h2⟩ ih
theorem KV.length{kvs:List (κ×V)}{vs:List (κ×af)}(r:KV kvs vs):kvs.length=vs.length:=kU r
theorem Qy(kvs:List (κ×V))(k:κ):(zh kvs k).length<=kvs.length:=c8 _ _
end
theorem zi{P:aX}{w:bB}{k:b9}{u:af}(r:RelV (kV k) u):(jX P w).is k u=true:=by
 cases k with
 |inl i=>obtain⟨t,e⟩:=(show∃t,u=kE i t from r);subst e;exact WC P w i t
 |inr x=>obtain⟨t,e⟩:=(show∃t,u=kF x t from r);subst e;exact WD P w x t
theorem Qz{P:aX}{w:bB}:∀{ks:List b9} {us:List af},cj (ks.map kV) us->ItemsAre (jX P w) ks us
 |[],_,r=>by rw[iG] at r;cases r;exact .nil
 | k::ks,_,r=>by
   rw[aE] at r;cases r with
   |cons h t=>exact .cons (zi h) (Qz t)
abbrev KT(H:Hp):List (List b9×V)->List (List b9×aj×af)->Prop:=Paired λp q=>p.1=q.1/\H q.2.1=aa (.tup (p.1.map kV))/\RelV p.2 q.2.2
theorem KT.val{H:Hp}{kvs:List (List b9×V)}{xs:List (List b9×aj×af)}(r:KT H kvs xs)(k:List b9):iQ (ji kvs k) ((sM xs k).map (·.2)):=by
 induction r with
 |nil=>exact dg
 | @cons p q ps qs h t ih=>
   obtain⟨h1,_,h2⟩:=h;by_cases e:p.1=k
   .have e':q.1=k:=h1.symm.trans e
    have b:sM (q::qs) k=aa q.2:=by simp[sM,bT,e']
    rw[Hh e,b];exact h2
   .have e':¬q.1=k:=λz=>e (h1.trans z)
    have b:sM (q::qs) k=sM qs k:=by simp[sM,bT,e']
    rw[Hi e,b];exact ih
theorem KT.tV{H:Hp}{kvs:List (List b9×V)}{xs:List (List b9×aj×af)}(r:KT H kvs xs)(k:List b9){y:V}{u:af}(ry:RelV y u) :
  KT H (kvs.map λkv=>if kv.1=k then(kv.1,y) else kv) (xs.map (putAt k u)):=by
 induction r with
 |nil=>exact .nil
 | @cons p q ps qs h t ih=>
   rw[aE,aE];refine .cons ?_ ih;obtain⟨h1,h2,h3⟩:=h;unfold putAt;by_cases e:p.1=k
   .rw[if_pos e,if_pos (h1.symm.trans e)];exact⟨h1,h2,ry⟩
   .rw[if_neg e,if_neg (λz=>e (h1.trans z))];exact⟨h1,h2,h3⟩
theorem KT.put{H:Hp}{kvs:List (List b9×V)}{xs:List (List b9×aj×af)}(r:KT H kvs xs)(k:List b9){b:aj}{y:V}{u:af}(hb:H b=aa (.tup (k.map kV)))(ry:RelV y u) :
  KT H (kc kvs k y) (storedH xs k b u):=by
 have e:(kvs.any λkv=>decide (kv.1=k))=(sM xs k).isSome:=by
  rw[Qx,(r.val k).h_,lS]
 unfold kc storedH;rw[e];by_cases q:(sM xs k).isSome=true
 .rw[if_pos q,if_pos q];exact r.tV k ry
 .rw[if_neg q,if_neg q];exact B9 r ⟨rfl,hb,ry⟩
theorem KT.keeps{H H':Hp}{kvs:List (List b9×V)}{xs:List (List b9×aj×af)}(r:KT H kvs xs)(ht:∀b ys,H b=aa (.tup ys)->H' b=aa (.tup ys)):KT H' kvs xs:=
 Paired.Ag r λ_ _ z=>⟨z.1,ht _ _ z.2.1,z.2.2⟩
section
variable {P:aX}{w:bB}{H:Hp}{h:bO}{a:aj}
theorem QA{u:HO}(ok:iE P w H h)(e:Rd H a u):jY P w H h a u:=e.ok ok
theorem xn{kvs:List (b9×V)}(ok:iE P w H h)(e:Rd H a (.dK kvs)):kvs.length<=sizeLine/\(a==eM)=false/\∃vs,KV kvs vs/\h.DictOf (jX P w) a vs:=
 show jY P w H h a (.dK kvs) from QA ok e
theorem Hj{kvs:List (b9×V)}(ok:iE P w H h)(e:H a=aa (.dK kvs)):kvs.length<=sizeLine/\(a==eM)=false/\∃vs,KV kvs vs/\h.DictOf (jX P w) a vs:=xn ok (.inl e)
theorem Ec{ks:List b9}(ok:iE P w H h)(e:H a=aa (.tup (ks.map kV))):(pV (jX P w)).is h ks a:=by
 obtain⟨_,cA,r,o,h1,h2,n,h3⟩:=(show jY P w H h a (.tup (ks.map kV)) from ok a _ e);exact⟨o,cA.toArray,n,h1,h2,h3,by simpa using Qz r⟩
theorem Cu{kvs:List (List b9×V)}(ok:iE P w H h)(e:Rd H a (.dT kvs)):kvs.length<=sizeLine/\(a==eM)=false /\
  ∃xs,KT H kvs xs/\h.DictOfH (pV (jX P w)) a xs:=by
 obtain⟨z,y,xs,r,o,es,ep,h1,h2,h3,h4,h5⟩:=(show jY P w H h a (.dT kvs) from QA ok e);refine⟨z,y,xs,r,o,es,ep,h1,h2,h3,h4,λx hx=>?_,h5⟩;have all:∀{l:List (List b9×V)} {m:List (List b9×aj×af)},KT H l m->∀x∈m,(pV (jX P w)).is h x.1 x.2.1:=by
  intro l m q
  induction q with
  |nil=>intro x hx;exact nomatch hx
  | @cons p q ps qs hq t ih=>
    intro x hx;rcases aF.mp hx with e | hx
    .subst e
     exact Ec ok (by rw[<- hq.1];exact hq.2.1)
    .exact ih x hx
 exact all r x hx
theorem Ya{kvs:List (List b9×V)}(ok:iE P w H h)(e:H a=aa (.dT kvs)):kvs.length<=sizeLine/\(a==eM)=false /\
 ∃xs,KT H kvs xs/\h.DictOfH (pV (jX P w)) a xs:=Cu ok (.inl e)
end
def nq(H:Hp)(a:aj)(y:V)(r:Option V):Prop:=
 (∃kvs k,Rd H a (.dK kvs)/\y=kV k/\r=ji kvs k)\/∃kvs k b,Rd H a (.dT kvs)/\y=.ref b/\H b=aa (.tup (k.map kV))/\r=ji kvs k
def Ed(H:Hp)(a:aj)(y v:V)(H':Hp):Prop:=
 (∃kvs k,H a=aa (.dK kvs)/\y=kV k/\kvs.length<sizeLine/\H'=upd H a (.dK (kc kvs k v))) \/
 ∃kvs k b,H a=aa (.dT kvs)/\y=.ref b/\H b=aa (.tup (k.map kV))/\kvs.length<sizeLine/\H'=upd H a (.dT (kc kvs k v))
section
variable {X:Cx}{ag:List (aj×Obj)}{σ:St}{H:Hp}{s:ar}{a:aj}{y v:V}{u r:af}{o:Option V}{A:cf}{E:af->ar->Prop}
theorem Inv.px(I:Inv X ag σ H s):eM<s.heap.objs.size:=by
 have h:bq<s.heap.objs.size:=(I.mod.glob.keeps I.bk).lt;exact GC (by decide) h
theorem Yb{Q:af->ar->Prop}(hu:A.units+1<fq)(I:Inv X ag σ H s)(g:nq H a y (aa v))(ry:RelV y u)(h:∀w' s',Inv X ag σ H s'->RelV v w'->Q w' s') :
  wpAny (aK X.prog X.w) A (rK (.ref a) u) Q E s:=by
 rcases g with⟨kvs,k,e,ey,l⟩ | ⟨kvs,k,b,e,ey,eb,l⟩
 .subst ey
  obtain⟨z,hd,vs,jK,dd⟩:=xn I.cB e;obtain⟨w',hw,tW⟩:=iQ.some_of (v:=v) (o:=mD vs k) (by rw[l];exact jK.val k);exact wpAny_getItem_of (zi ry) dd.mapOf hw (h w' _ (I.tok _) tW)
 .subst ey
  cases (show u=aO b from ry);obtain⟨z,hd,xs,jK,dd⟩:=Cu I.cB e;obtain⟨w',hw,tW⟩:=iQ.some_of (v:=v) (o:=(sM xs k).map (·.2)) (by rw[l];exact jK.val k);obtain⟨p,hp,Hk⟩:=bc.mp hw;refine wpAny_getItem_heap (jn hu) (Ec I.cB eb) dd hp ?_;rw[Hk];exact h w' _ (I.tok _) tW
theorem KI{Q:af->ar->Prop}(hu:A.units+1<fq)(I:Inv X ag σ H s)(g:nq H a y o)(ry:RelV y u)(h:∀s',Inv X ag σ H s'->Q (.bool o.isSome) s') :
  wpAny (aK X.prog X.w) A (cM .In u (.ref a)) Q E s:=by
 rcases g with⟨kvs,k,e,ey,l⟩ | ⟨kvs,k,b,e,ey,eb,l⟩
 .subst ey
  obtain⟨z,hd,vs,jK,dd⟩:=xn I.cB e;refine wpAny_in_of (zi ry) hd dd.mapOf ?_;rw[<- (jK.val k).h_,<- l];exact h _ (I.tok _)
 .subst ey
  cases (show u=aO b from ry);obtain⟨z,hd,xs,jK,dd⟩:=Cu I.cB e;refine wpAny_in_heap (jn hu) (Ec I.cB eb) hd dd ?_;have q:=(jK.val k).h_;rw[lS] at q;rw[<- q,<- l];exact h _ (I.tok _)
theorem Yc{Q:af->ar->Prop}(hu:A.units+1<fq)(I:Inv X ag σ H s)(g:nq H a y o)(ry:RelV y u)(h:∀s',Inv X ag σ H s'->Q (.bool (!o.isSome)) s') :
  wpAny (aK X.prog X.w) A (cM .NotIn u (.ref a)) Q E s:=by
 rcases g with⟨kvs,k,e,ey,l⟩ | ⟨kvs,k,b,e,ey,eb,l⟩
 .subst ey
  obtain⟨z,hd,vs,jK,dd⟩:=xn I.cB e;refine wpAny_notIn_of (zi ry) hd dd.mapOf ?_;rw[<- (jK.val k).h_,<- l];exact h _ (I.tok _)
 .subst ey
  cases (show u=aO b from ry);obtain⟨z,hd,xs,jK,dd⟩:=Cu I.cB e;refine wpAny_notIn_heap (jn hu) (Ec I.cB eb) hd dd ?_;have q:=(jK.val k).h_;rw[lS] at q;rw[<- q,<- l];exact h _ (I.tok _)
theorem Ee{h':bO}{t':Nat}{ob:HO}(I:Inv X ag σ H s)(mu:DV (H a))(hs:fG a s.heap h')(he:∃q,h'.get? a=aa q)(new:jY X.prog X.w (upd H a ob) h' a ob) :
  Inv X ag σ (upd H a ob) { s with heap:=h',toks:=t' }:=
 I.write (x:=a) (e:=a) mu (.inl rfl) (λb q hb z=>(hs.2 b hb).trans z) he new
theorem Hl{P:aX}{w:bB}{H':Hp}{h':bO}{kvs:List (b9×V)}{vs:List (b9×af)}(z:kvs.length<=sizeLine)(hd:(a==eM)=false)(jK:KV kvs vs)(dd:h'.DictOf (jX P w) a vs) :
 jY P w H' h' a (.dK kvs):=⟨z,hd,vs,jK,dd⟩
theorem Yd{H':Hp}{Q:Unit->ar->Prop}(hu:A.units+1<fq)(I:Inv X ag σ H s)(g:Ed H a y v H')(ry:RelV y u)(rv:RelV v r)(h:∀s',Inv X ag σ H' s'->Q () s') :
  wpAny (aK X.prog X.w) A (setItem (.ref a) u r) Q E s:=by
 rcases g with⟨kvs,k,e,ey,l,eH⟩ | ⟨kvs,k,b,e,ey,eb,l,eH⟩
 .subst ey eH
  obtain⟨z,hd,vs,jK,dd⟩:=Hj I.cB e;have hz:vs.length<=sizeLine:=by rw[<- jK.length];exact z
  have hl:(kc kvs k v).length<=sizeLine:=by have:=KH kvs k v;omega
  refine wpAny_setItem_pairs (hsz:=hz) (zi ry) dd λh' tX hs=>h _ ?_;have he:∃q,h'.get? a=aa q:=let ⟨q,_,_,hq,_⟩:=tX;⟨q,hq⟩;exact Ee I (by rw[e];exact dg) hs he (Hl hl hd (jK.put k rv) tX)
 .subst ey eH
  cases (show u=aO b from ry);obtain⟨z,hd,xs,jK,dd⟩:=Ya I.cB e;have hz:xs.length<=sizeLine:=by rw[<- kU jK];exact z
  have hl:(kc kvs k v).length<=sizeLine:=by have:=KH kvs k v;omega
  refine wpAny_setItem_heap (hsz:=hz) (jn hu) (Ec I.cB eb) dd λh' tX hs=>h _ ?_;obtain⟨q,es,ep,hq,h2,h3,h4,_,h5⟩:=tX;refine Ee I (by rw[e];exact dg) hs ⟨q,hq⟩ ⟨hl,hd,_,(jK.put k eb rv).keeps λc ys ec=>?_,q,es,ep,hq,h2,h3,h4,h5⟩;rw[c4 (WG ec e (λz=>nomatch z))];exact ec
end
section
variable {X:Cx}{ag:List (aj×Obj)}{σ:St}{H:Hp}{s:ar}{a:aj}{kvs:List (b9×V)}{k:b9}{u:af}{A:cf}{E:af->ar->Prop}
theorem z7v{Q:Unit->ar->Prop}(I:Inv X ag σ H s)(e:H a=aa (.dK kvs))(ry:RelV (kV k) u)(l:(ji kvs k).isSome=true)(h:∀s',Inv X ag σ (upd H a (.dK (zh kvs k))) s'->Q () s') :
  wpAny (aK X.prog X.w) A (delItem (.ref a) u) Q E s:=by
 obtain⟨z,hd,vs,jK,dd⟩:=Hj I.cB e;refine wpAny_delItem_slot dd.typeIs (by decide) n_
  (wo n_ dd.typeIs PySem.F.entry_dict_delitem (PySem.F.args_dict_delitem_2 _ _) (meets_dict_delitem_pairs (jX X.prog X.w) a (zi ry)) ⟨vs,dd,by rw[<- jK.length];exact z,by rw[<- (jK.val k).h_];exact l,λh' tX hs=>h _ ?_⟩)
 have he:∃q,h'.get? a=aa q:=let ⟨q,_,_,hq,_⟩:=tX;⟨q,hq⟩;exact Ee I (by rw[e];exact dg) hs he (Hl (bt (Qy kvs k) z) hd (jK.drop k) tX)
theorem Ye{v:V}{more:List af}{Q:af->ar->Prop}(I:Inv X ag σ H s)(e:H a=aa (.dK kvs))(ry:RelV (kV k) u)(l:ji kvs k=aa v)(hm:more=[]\/∃x,more=[x])
  (h:∀w' s',Inv X ag σ (upd H a (.dK (zh kvs k))) s'->RelV v w'->Q w' s'):wpAny (aK X.prog X.w) A (call (.builtin "dict.pop") (.ref a::u::more)) Q E s:=by
 obtain⟨z,hd,vs,jK,dd⟩:=Hj I.cB e;obtain⟨w',hw,tW⟩:=iQ.some_of (v:=v) (o:=mD vs k) (by rw[<- l];exact jK.val k);have hp:(keyPart u).isSome=true:=by
  cases k with
  |inl i=>obtain⟨t,q⟩:=(show∃t,u=kE i t from ry);subst q;rfl
  |inr x=>obtain⟨t,q⟩:=(show∃t,u=kF x t from ry);subst q;rfl
 have ha:argsOk "dict.pop" ⟨.ref a::u::more,[]⟩:=by
  rcases hm with q | ⟨x,q⟩
  .subst q;exact PySem.F.args_dict_pop_2 _ _
  .subst q;exact PySem.F.args_dict_pop_3 _ _ _
 refine wo qA dd.typeIs PySem.F.entry_dict_pop ha (meets_dict_pop_there (jX X.prog X.w) a (zi ry) more hm hp)
  ⟨vs,w',dd,by rw[<- jK.length];exact z,hw,λh' tX hs=>h w' _ ?_ tW⟩
 have he:∃q,h'.get? a=aa q:=let ⟨q,_,_,hq,_⟩:=tX;⟨q,hq⟩;exact Ee I (by rw[e];exact dg) hs he (Hl (bt (Qy kvs k) z) hd (jK.drop k) tX)
theorem Yf{Q:af->ar->Prop}(I:Inv X ag σ H s)(e:Rd H a (.dK kvs))(h:∀t s',Inv X ag σ H s'->Q (.int kvs.length t) s'):wpAny (aK X.prog X.w) A (call (.builtin "len") [.ref a]) Q E s:=by
 obtain⟨z,hd,vs,jK,dd⟩:=xn I.cB e;refine call_len_dict hd dd (by rw[<- jK.length];rw[dB] at z;omega) ?_;rw[<- jK.length];exact h _ _ (I.tok _)
end
def Az(i:bo):Prop:=∀ov iv,qB i false ov iv=operate [ov,iv] (rK ov iv)
theorem Yg{prog:aX}{w:bB}{A:cf}{E:af->ar->Prop}{s:ar}{env:Env}{value i9:bo}{pos:Pos}{T id:String}{Q:af->ar->Prop}
  (hl:B_ (.type T) "__getitem__" = pure (aa (.builtin id))) (hs:Az i9)
  (h:wpAny (aK prog w) A (eval value env) (λo s₁=>wpAny (aK prog w) A (eval i9 env) (λi s₂=>s₂.TypeIs o T/\wpAny (aK prog w) A (rK o i) Q E s₂) E s₁) E s) :
  wpAny (aK prog w) A (eval (.Subscript value i9 pos) env) Q E s:=by
 refine B' (bF h (λo s₁ h₁=>bF h₁ (λi s₂ h₂=>?_) λ_ _ x=>x) λ_ _ x=>x);obtain⟨hT,h₂⟩:=h₂;unfold uI;refine aC ?_;rw[getitemInPython_of_ne hT.not_modules];refine aC (ri hT hl ?_);have fO:wpAny (aK prog w) A (qB i9 false o i) (λr s₃=>wpAny (aK prog w) A (letTemporaryGo value o r >>= λ_=>pure r) Q E s₃) E s₂:=by
  rw[hs o i];exact wpAny_operating (bF h₂ (λr s₃ h₃=>aC (wpAny_letTemporaryGo (be h₃))) λ_ _ x=>x)
 first
  |exact be (aC fO)
  |exact aC (be (aC fO))
  |exact aC fO
theorem Yh{X:Cx}{ag:List (aj×Obj)}{σ:St}{H:Hp}{s:ar}{a:aj}{y:V}{o:Option V}(I:Inv X ag σ H s)(g:nq H a y o):s.TypeIs (.ref a) "dict":=by
 rcases g with⟨kvs,k,e,_,_⟩ | ⟨kvs,k,b,e,_,_,_⟩
 .obtain⟨_,_,vs,_,dd⟩:=xn I.cB e
  exact dd.typeIs
 .obtain⟨_,_,xs,_,dd⟩:=Cu I.cB e
  exact dd.typeIs
def Yi(td ty:TE):TE:=fun σ H Q=>td σ H λx H1=>ty σ H1 λy H2=>∃a v,x=.ref a/\nq H2 a y (aa v)/\Q v H2
def Yj(ty td:TE):TE:=fun σ H Q=>ty σ H λy H1=>td σ H1 λx H2=>∃a o,x=.ref a/\nq H2 a y o/\Q (.bl (!o.isSome)) H2
def Yk(td ty tv:TE):TS:=λD σ H=>tv σ H λv H1=>td σ H1 λx H2=>ty σ H2 λy H3=>∃a H4,x=.ref a/\Ed H3 a y v H4/\D.nx σ H4
section
variable {X:Cx}{o i e value:bo}{pos jh Kx:Pos}{td ty tv:TE}
theorem Yl(hu:X.A.units+1<fq)(ho:PE X o td)(hi:PE X i ty)(hs:Az i):PE X (.Subscript o i pos) (Yi td ty):=by
 intro ag s σ H Q I h;refine Yg PySem.F.slot_dict_getitem.lookup hs (dm (ho ag s σ H _ I h) λu s1 cN=>?_);obtain⟨x,H1,I1,rx,q1⟩:=cN;refine dm (hi ag s1 σ H1 _ I1 q1) λiv s2 cN=>?_;obtain⟨y,H2,I2,ry,a,v,ex,g,q2⟩:=cN;subst ex;obtain rfl:u=aO a:=rx;exact⟨Yh I2 g,Yb hu I2 g ry λw' s3 I3 tW=>⟨v,H2,I3,tW,q2⟩⟩
theorem Ym(hu:X.A.units+1<fq)(hi:PE X i ty)(ho:PE X o td):PC X .NotIn i o (Yj ty td):=by
 intro ag s σ H Q I h;refine dm (hi ag s σ H _ I h) λiv s1 cN=>?_;obtain⟨y,H1,I1,ry,q1⟩:=cN;refine dm (ho ag s1 σ H1 _ I1 q1) λu s2 cN=>?_;obtain⟨x,H2,I2,rx,a,ov,ex,g,q2⟩:=cN;subst ex;obtain rfl:u=aO a:=rx;exact Yc hu I2 g ry λs3 I3=>⟨.bl (!ov.isSome),H2,I3,rfl,q2⟩
theorem Yn(hu:X.A.units+1<fq)(ho:PE X o td)(hi:PE X i ty)(hv:PE X value tv)(hs:eX value (aa (.Subscript o i jh)) pos.line X.env=pure false) :
  PS X (.Assign [.Subscript o i jh] value pos) (Yk td ty tv):=by
 intro ag s σ H D I h;refine wpAny_Assign_Subscript (dm (hv ag s σ H _ I h) λr s1 cN=>?_) hs;obtain⟨v,H1,I1,rv,q1⟩:=cN;refine dm (ho ag s1 σ H1 _ I1 q1) λu s2 cN=>?_;obtain⟨x,H2,I2,rx,q2⟩:=cN;refine dm (hi ag s2 σ H2 _ I2 q2) λiv s3 cN=>?_;obtain⟨y,H3,I3,ry,a,H4,ex,g,q3⟩:=cN;subst ex;obtain rfl:u=aO a:=rx;exact Yd hu I3 g ry rv λs4 I4=>⟨σ,H4,I4,q3⟩
end
theorem QB{P:aX}{w:bB}{H:Hp}(h:bO)(hb:eM<h.objs.size):jY P w H (h.push { cls:=.type "dict",data:=.dict #[] }) h.objs.size (.dK []):=
 ⟨dq _,beq_eq_false_iff_ne.mpr (bZ (aS hb)),[],.nil,Heap.DictOf.new h⟩
def Yo:TE:=λ_ H Q=>∀p,H p=ae->Q (.ref p) (upd H p (.dK []))
section
variable {X:Cx}{pos:Pos}
theorem Yp:PE X (.Dict [] [] pos) Yo:=λag s σ H Q I h=>
 wpAny_Dict_empty ⟨.ref s.heap.objs.size,_,I.laid (a:=s.heap.objs.size) (o:=.dK []) (t':=s.toks) (λ_ _ q=>aA _ q) (az _) (QB s.heap I.px),rfl,h _ (I.cB.fresh (az _))⟩
end
def KJ:List (TE×TE)->St->Hp->(List (V×V)->Hp->Prop)->Prop
 |[],_,H,Q=>Q [] H
 |(tk,tv)::r,σ,H,Q=>tk σ H λx H1=>tv σ H1 λy H2=>KJ r σ H2 λps H3=>Q ((x,y)::ps) H3
abbrev VV:List (V×V)->List (af×af)->Prop:=Paired λp q=>RelV p.1 q.1/\RelV p.2 q.2
def Hm(X:Cx)(pos:Pos)(nu:List (Option bo))(nv:List bo)(xp:List (TE×TE)):Prop:=
 ∀ (ag:List (aj×Obj)) (s:ar) (σ:St) (H:Hp) (Q:List (V×V)->Hp->Prop),Inv X ag σ H s->KJ xp σ H Q ->
   wpAny (aK X.prog X.w) X.A (evalPairs (pairTrees nu nv X.env pos)) (λvs s'=>∃ps H',Inv X ag σ H' s'/\VV ps vs/\Q ps H') X.xe s
theorem Yq{X:Cx}{pos:Pos}:Hm X pos [] [] []:=λag s σ H Q I h=>pairTrees_nil_walk ⟨[],H,I,.nil,h⟩
theorem Yr{X:Cx}{pos:Pos}{k v:bo}{ks:List (Option bo)}{vs:List bo}{tk tv:TE}{xp:List (TE×TE)}(hk:PE X k tk)(hv:PE X v tv)(hr:Hm X pos ks vs xp) :
  Hm X pos (aa k::ks) (v::vs) ((tk,tv)::xp):=λag s σ H Q I h=>
 pairTrees_cons_walk (dm (hk ag s σ H _ I h) λu s1 ⟨x,H1,I1,rx,q1⟩=>dm (hv ag s1 σ H1 _ I1 q1) λw2 s2 ⟨y,H2,I2,ry,q2⟩=>
  dm (hr ag s2 σ H2 _ I2 q2) λws s3 ⟨ps,H3,I3,jK,q3⟩=>⟨(x,y)::ps,H3,I3,.cons ⟨rx,ry⟩ jK,q3⟩)
def Cv(kvs more:List (b9×V)):List (b9×V):=more.foldl (λacc kv=>kc acc kv.1 kv.2) kvs
theorem KV.merge:∀{more:List (b9×V)} {rs:List (b9×af)} {kvs:List (b9×V)} {vs:List (b9×af)},KV more rs->KV kvs vs->KV (Cv kvs more) (merged vs rs):=by
 intro more rs kvs vs r;unfold KV at r
 induction r generalizing kvs vs with
 |nil=>intro q;exact q
 | @cons p q ps qs h t ih=>
   intro r0;have e:KV (kc kvs p.1 p.2) (stored vs q.1 q.2):=by
    have:=r0.put p.1 h.2;rw[<- h.1];exact this
   exact ih e
theorem QC:∀(more kvs:List (b9×V)),(Cv kvs more).length<=kvs.length+more.length
 |[],kvs=>by show kvs.length<=kvs.length+0;omega
 | p::r,kvs=>by
   have h1:=QC r (kc kvs p.1 p.2);have h2:=KH kvs p.1 p.2;show(Cv (kc kvs p.1 p.2) r).length<=_;rw[aL];omega
theorem QD{P:aX}{w:bB}:∀{kvs:List (b9×V)} {ws:List (af×af)},VV (kvs.map λkv=>(kV kv.1,kv.2)) ws->∃rs,Carries (jX P w) ws rs/\KV kvs rs
 |[],_,r=>by rw[iG] at r;cases r;exact⟨[],dg,.nil⟩
 | p :: kvs,_,r=>by
   rw[aE] at r;cases r with
   | @cons a b as bs h t=>
     obtain⟨rs,c,q⟩:=QD (P:=P) (w:=w) t;obtain⟨b1,b2⟩:=b;exact⟨(p.1,b2)::rs,⟨zi h.1,rfl,c⟩,.cons ⟨rfl,h.2⟩ q⟩
def Ys(xp:List (TE×TE)):TE:=fun σ H Q=>∀p,H p=ae->KJ xp σ (upd H p (.dK [])) λps H2=>H2 p=aa (.dK [])/\∃kvs:List (b9×V),ps=kvs.map (λkv=>(kV kv.1,kv.2))/\kvs.length<=15/\Q (.ref p) (upd H2 p (.dK (Cv [] kvs)))
theorem Yt{X:Cx}{pos:Pos}{nu:List (Option bo)}{nv:List bo}{xp:List (TE×TE)}(h:Hm X pos nu nv xp)(hall:nu.all (·.isSome)=true)(hl:nu.length=nv.length)(h0:nu≠[])
  (Yu:nu.length<=15):PE X (.Dict nu nv pos) (Ys xp):=by
 intro ag s σ H Q I q;have hn:=I.cB.fresh (az s.heap.objs.size);have I1:=I.laid (a:=s.heap.objs.size) (o:=.dK []) (h':=s.heap.push { cls:=.type "dict",data:=.dict #[] }) (t':=s.toks) (λ_ _ q=>aA _ q) (az _) (QB s.heap I.px);refine wpAny_Dict_walk (knd:=jX X.prog X.w) hall hl h0 Yu (dm (h ag _ σ _ _ I1 (q _ hn)) λws s2 cN=>?_);obtain⟨ps,H2,I2,jK,e,kvs,ep,lk,q2⟩:=cN;subst ep;obtain⟨rs,c,rk⟩:=QD (P:=X.prog) (w:=X.w) jK;obtain⟨z,hd,vs0,r0,dd⟩:=Hj I2.cB e;cases r0;refine⟨rs,c,dd,λh' tX hs=>⟨.ref s.heap.objs.size,_,?_,rfl,q2⟩⟩;have hz:(Cv [] kvs).length<=sizeLine:=by
  have h1:=QC kvs [];rw[ik] at h1;rw[dB];omega
 have he:∃q,h'.get? s.heap.objs.size=aa q:=let ⟨q,_,_,hq,_⟩:=tX;⟨q,hq⟩;exact Ee I2 (by rw[e];exact dg) hs he (Hl hz hd (rk.merge .nil) tX)
structure M1(X:Cx)(o:bo)(m:Str)(cC:Pos)(e:bo)(c6:Pos):Prop where
 base:bU o m X.env (eval o X.env)=eval o X.env
 sX:((bJ c6 (av [e] X.env)).all (λx=>!x.1)&&(eY c6 (cX [] X.env)).all (λx=>x.1.isSome)
  && decide (([e]:List bo).length+([]:List gz).length+(if([]:List gz).isEmpty then 0 else 1)<30))=true
 line:(cC.endLine==c6.line)=true
 trees:bJ c6 (av [e] X.env)=[(false,eval e X.env)]
def QE(H:Hp)(a:aj):Prop:=(∃kvs,Rd H a (.dK kvs))\/∃kvs,Rd H a (.dT kvs)
theorem QG{X:Cx}{ag:List (aj×Obj)}{σ:St}{H:Hp}{s:ar}{a:aj}(I:Inv X ag σ H s)(d:QE H a) :
  s.TypeIs (.ref a) "dict" /\ (∀b,aO a=.ref b->∃ob,s.heap.get? b=aa ob/\ob.dict=ae)/\(a==eM)=false:=by
 rcases d with⟨kvs,e⟩ | ⟨kvs,e⟩
 .obtain⟨_,hd,vs,_,dd⟩:=xn I.cB e
  refine⟨dd.typeIs,λb q=>?_,hd⟩;cases q;obtain⟨ob,_,_,h1,h2,_⟩:=dd;exact⟨ob,h1,h2.2.1⟩
 .obtain⟨_,hd,xs,_,dd⟩:=Cu I.cB e
  refine⟨dd.typeIs,λb q=>?_,hd⟩;cases q;obtain⟨ob,_,_,h1,h2,_⟩:=dd;exact⟨ob,h1,h2.2.1⟩
def Yv(td ty:TE):TE:=fun σ H Q=>td σ H λx H1=>∃a,x=.ref a/\QE H1 a/\ty σ H1 λy H2=>∃kvs k v,H2 a=aa (.dK kvs)/\y=kV k/\ji kvs k=aa v/\Q v (upd H2 a (.dK (zh kvs k)))
section
variable {X:Cx}{o e f:bo}{cC c6:Pos}{td ty tx:TE}
theorem Yw(ho:PE X o td)(he:PE X e ty)(m:M1 X o "pop" cC e c6):PE X (.Call (.Attribute o "pop" cC) [e] [] c6) (Yv td ty):=by
 intro ag s σ H Q I h;refine wpAny_Call_method m.base m.sX m.line o8 qA PySem.F.type_dict_pop (dm (ho ag s σ H _ I h) λu s1 cN=>?_);obtain⟨x,H1,I1,rx,a,ex,d,q1⟩:=cN;subst ex;obtain rfl:u=aO a:=rx;obtain⟨t1,t2,_⟩:=QG I1 d;refine⟨t1,t2,?_⟩;rw[m.trees];refine gc rfl (gX (uH (dm (he ag s1 σ H1 _ I1 q1) λiv s2 cN=>?_)));obtain⟨y,H2,I2,ry,kvs,k,v,ea,ey,l,q2⟩:=cN;refine u5 ?_;subst ey;exact Ye I2 ea ry l (.inl rfl) λw' s3 I3 tW=>⟨v,_,I3,tW,q2⟩
end
end L2
namespace HT
open PySem PyProof.Rows
section
variable {prog:aX}{w:bB}{A:cf}{E:af->ar->Prop}{s:ar}
def oT(n d:Nat):Option Int->Nat
 |none=>d
 |some v=>if v<0 then(v+(n:Int)).toNat else min v.toNat n
theorem vp(n d:Nat):oT n d ae=d:=rfl
theorem xq(n d k:Nat):oT n d (aa (k:Int))=min k n:=by
 show(if(k:Int)<0 then((k:Int)+(n:Int)).toNat else min (k:Int).toNat n)=min k n;rw[if_neg (by omega),w8]
end
end HT
namespace L2
open PySem PySem.Spec PyProof.Rows
abbrev TO:=St->Hp->(Option Int->Hp->Prop)->Prop
def PO(X:Cx)(e:Option bo)(t:TO):Prop:=
 ∀ (ag:List (aj×Obj)) (s:ar) (σ:St) (H:Hp) (Q:Option Int->Hp->Prop),Inv X ag σ H s->t σ H Q ->
   wpAny (aK X.prog X.w) X.A (evalPart e X.env) (λu s'=>∃o H',Inv X ag σ H' s'/\IsPart u o/\Q o H') X.xe s
def Yx:TO:=λ_ H Q=>Q ae H
def Yy(t:TE):TO:=fun σ H Q=>t σ H λx H1=>∃i,x=.int i/\Q (aa i) H1
section
variable {X:Cx}{e:bo}{te:TE}{lo hi:Option bo}{tl th:TO}{pos p2:Pos}
theorem Yz:PO X ae Yx:=by
 intro ag s σ H Q I h;rw[evalPart_none];exact be ⟨ae,H,I,.none,h⟩
theorem YA(h:PE X e te):PO X (aa e) (Yy te):=by
 intro ag s σ H Q I hw;rw[evalPart_some];refine dm (h ag s σ H _ I hw) λu s1 cN=>?_;obtain⟨x,H1,I1,r1,q1⟩:=cN;obtain⟨i,rfl,q⟩:=q1;obtain⟨t,rfl⟩:=r1;exact⟨aa i,H1,I1,.int i t,q⟩
def QH(X:Cx)(r:V->Option Int->Option Int->Hp->VK->Prop):Prop:=
 ∀ (ag:List (aj×Obj)) (s:ar) (σ:St) (H:Hp) (x:V) (v vl vu:af) (lo hi:Option Int) (sl:aj) (Q:VK),Inv X ag σ H s->RelV x v->s.heap.IsSliceOf sl vl vu .none->IsPart vl lo->IsPart vu hi->r x lo hi H Q ->
   ∃T id,B_ (.type T) "__getitem__" = pure (aa (.builtin id))/\s.TypeIs v T/\wpAny (aK X.prog X.w) X.A (rK v (.ref sl)) (EP X ag σ Q) X.xe s
def YB(r:V->Option Int->Option Int->Hp->VK->Prop)(te:TE)(tl th:TO):TE:=fun σ H Q=>te σ H λx H1=>tl σ H1 λl H2=>th σ H2 λu H3=>r x l u H3 Q
theorem YC{r:V->Option Int->Option Int->Hp->VK->Prop}(hr:QH X r)(he:PE X e te)(hl:PO X lo tl)(hu:PO X hi th):PE X (.Subscript e (.Slice lo hi ae p2) pos) (YB r te tl th):=by
 intro ag s σ H Q I h;refine B' (dm (he ag s σ H _ I h) λv s1 cN=>?_);obtain⟨x,H1,I1,r1,q1⟩:=cN;refine wpAny_Slice (dm (hl ag s1 σ H1 _ I1 q1) λvl s2 cN=>?_);obtain⟨l,H2,I2,pl,q2⟩:=cN;refine dm (hu ag s2 σ H2 _ I2 q2) λvu s3 cN=>?_;obtain⟨u,H3,I3,pu,q3⟩:=cN;rw[evalPart_none];refine be ?_;have I4:Inv X ag σ H3 { s3 with heap:=s3.heap.push { cls:=.type "slice",data:=.fields #[vl,vu,.none] } }:=I3.kept (t':=s3.toks) λb ob q=>aA _ q;obtain⟨T,id,hT,ht,hg⟩:=hr ag { s3 with heap:=s3.heap.push { cls:=.type "slice",data:=.fields #[vl,vu,.none] } } σ H3 x v vl vu l u s3.heap.objs.size Q I4 r1 (DD ..) pl pu q3;show wpAny (aK X.prog X.w) X.A (uI e (.Slice lo hi ae p2) v (.ref s3.heap.objs.size)) (EP X ag σ Q) X.xe { s3 with heap:=s3.heap.push { cls:=.type "slice",data:=.fields #[vl,vu,.none] } };exact tail_any (ops:=[.ref s3.heap.objs.size,v]) ht hT hg (by with_unfolding_all rfl)
def vq(xs:List V)(lo hi:Option Int):List V:=(xs.drop (HT.oT xs.length 0 lo)).take (HT.oT xs.length xs.length hi-HT.oT xs.length 0 lo)
theorem YD(xs:List V)(lo hi:Option Int):(vq xs lo hi).length<=xs.length:=by
 unfold vq;rw[jy,List.length_drop];omega
end
def vt(n:Nat)(i:Int):Option Nat:=if 0<=i then(if i<n then aa i.toNat else ae) else if -(n:Int)<=i then aa (i+n).toNat else ae
def jt{α:Type}(xs:List α)(i:Int):Option α:=(vt xs.length i).bind λj=>xs[j]?
theorem YE{n:Nat}{i:Int}{j:Nat}(h:vt n i=aa j):seqIndex? i n=aa j/\j<n /\ -(n:Int)<=i/\i<n:=by
 unfold vt at h;by_cases h0:0<=i
 .rw[if_pos h0] at h
  by_cases h1:i<n
  .rw[if_pos h1] at h
   have e:i.toNat=j:=bg h;exact⟨by rw[seqIndex_of h0 h1,e],by omega,by omega,h1⟩
  .rw[if_neg h1] at h;cases h
 .rw[if_neg h0] at h
  by_cases h1:-(n:Int)<=i
  .rw[if_pos h1] at h
   have e:(i+n).toNat=j:=bg h;exact⟨by rw[seqIndex_neg (by omega) h1,e],by omega,h1,by omega⟩
  .rw[if_neg h1] at h;cases h
theorem KL{α:Type}{xs:List α}{i:Int}{v:α}(h:jt xs i=aa v):∃j,seqIndex? i xs.length=aa j/\xs[j]?=aa v/\j<xs.length /\ -(xs.length:Int)<=i/\i<xs.length:=by
 unfold jt at h;cases e:vt xs.length i with
 |none=>rw[e] at h;cases h
 | some j=>
   rw[e] at h;obtain⟨h1,h2,h3,h4⟩:=YE e;exact⟨j,h1,h,h2,h3,h4⟩
theorem zj{α:Type}{xs:List α}{j:Nat}{v:α}(h:xs[j]?=aa v):jt xs (j:Int)=aa v:=by
 have hj:j<xs.length:=(ao.mp h).1;have e:vt xs.length (j:Int)=aa j:=by
  unfold vt;rw[if_pos (by omega),if_pos (by omega)];simp
 unfold jt;rw[e];exact h
def QI(b:bo):Prop:=∀o i,qB b false o i=operate [o,i] (rK o i)
def xr(X:Cx)(r:R2):Prop:=
 ∀ (value i9:bo) (ag:List (aj×Obj)) (s:ar) (σ:St) (H:Hp) (x y:V) (v u:af) (Q:VK),Inv X ag σ H s->RelV x v->RelV y u->r x y H Q ->
   qB i9 false v u=operate [v,u] (rK v u)->wpAny (aK X.prog X.w) X.A (uI value i9 v u) (EP X ag σ Q) X.xe s
def AA(X:Cx)(id:String)(r:V->List V->Hp->VK->Prop):Prop:=
 ∀ (ag:List (aj×Obj)) (s:ar) (σ:St) (H:Hp) (x:V) (xs:List V) (v:af) (us:List af) (Q:VK),Inv X ag σ H s->RelV x v->cj xs us->r x xs H Q ->
   wpAny (aK X.prog X.w) X.A (call (.builtin id) (v::us)) (EP X ag σ Q) X.xe s
section
variable {X:Cx}{a b:bo}{ta tb:TE}{pos:Pos}
theorem xr.or{r r':R2}(h:xr X r)(h':xr X r'):xr X (λx y H Q=>r x y H Q\/r' x y H Q):=by
 intro value i9 ag s σ H x y v u Q I rx ry q hs;rcases q with q | q
 .exact h value i9 ag s σ H x y v u Q I rx ry q hs
 .exact h' value i9 ag s σ H x y v u Q I rx ry q hs
theorem YF{r:R2}(hr:xr X r)(ha:PE X a ta)(hb:PE X b tb)(hs:QI b):PE X (.Subscript a b pos) (D2 r ta tb):=by
 intro ag s σ H Q I h;exact B' (As ha hb I h λv u s2 x y H2 I2 rx ry q=>hr a b ag s2 σ H2 x y v u Q I2 rx ry q (hs _ _))
def Ef(K:W.Frag):R2:=λx y H Q=>∃p xs i v,x=.ref p/\y=.int i/\mJ K H p xs/\jt xs i=aa v/\Q v H
def Eg(K:W.Frag):R2:=λx y H Q=>∃p xs i v,x=.ref p/\y=.int i/\uL K H p xs/\jt xs i=aa v/\Q v H
def Eh:R2:=λx y H Q=>∃z i c,x=.str z/\y=.int i/\z.length<=sizeLine/\jt z.cps.toList i=aa c/\Q (.str ⟨#[c]⟩) H
theorem YG:xr X (Ef X.K):=by
 intro value i9 ag s σ H x y v u Q I rx ry h hs;obtain⟨p,xs,i,z,rfl,rfl,hq,he,q⟩:=h;cases rx;obtain⟨t,rfl⟩:=ry;obtain⟨cA,r,pl,hz⟩:=I.list hq;obtain⟨j,h1,h2,h3,h4,h5⟩:=KL he;obtain⟨w,ew,tW⟩:=r.get h2;have hl:=r.length;have hn:=D5;have fO:EP X ag σ Q w s:=⟨z,H,I,tW,q⟩;by_cases h0:0<=i
 .have hj:i.toNat=j:=by
   rw[seqIndex_of h0 h5] at h1;exact bg h1
  exact item_listR pl.isList h0 (by omega) (by rw[hj];simpa using ew) fO hs
 .have hj:(i+(cA.toArray.size:Int)).toNat=j:=by
   rw[seqIndex_neg (by omega) h4] at h1;rw[aQ,<- hl];exact bg h1
  exact wq (x:=w) pl.isList.typeIs DF.lookup
   (wpAny_getItem_list_neg (Q:=λr s'=>r=w/\EP X ag σ Q r s') pl.isList (by omega) (by rw[aQ]<;>omega) (by omega) (by rw[hj];simpa using ew) ⟨rfl,fO⟩) hs
theorem YH:xr X (Eg X.K):=by
 intro value i9 ag s σ H x y v u Q I rx ry h hs;obtain⟨p,xs,i,z,rfl,rfl,hq,he,q⟩:=h;cases rx;obtain⟨t,rfl⟩:=ry;obtain⟨cA,r,pl,hz⟩:=I.tuple hq;obtain⟨j,h1,h2,h3,h4,h5⟩:=KL he;obtain⟨w,ew,tW⟩:=r.get h2;have hl:=r.length;have hn:=D5;have fO:EP X ag σ Q w s:=⟨z,H,I,tW,q⟩;exact wq (x:=w) pl.typeIs slot_tuple_getitem.lookup
  (getItem_tuple (j:=j) (Q:=λr s'=>r=w/\EP X ag σ Q r s') pl (by omega) (by omega) (by rw[aQ,<- hl];exact h1) (by simpa using ew) ⟨rfl,fO⟩) hs
theorem YI:xr X Eh:=by
 intro value i9 ag s σ H x y v u Q I rx ry h hs;obtain⟨z,i,c,rfl,rfl,hz,he,q⟩:=h;obtain⟨t,rfl⟩:=rx;obtain⟨t',rfl⟩:=ry;obtain⟨j,h1,h2,h3,h4,h5⟩:=KL he;have hl:z.cps.toList.length=z.length:=by simp[Str.length]
 rw[hl] at h1 h4 h5;have hn:=D5;exact tail_any (typeIs_str s z t) slot_str_getitem.lookup (getItem_str (c:=c) (by
  have e1:decide (i < -(2 ^ 63:Int))=false:=decide_eq_false (by omega);have e2:decide (i>=2 ^ 63)=false:=decide_eq_false (by omega);rw[e1,e2,lO]) (by rw[h1];simpa using h2) ⟨.str ⟨#[c]⟩,H,I.tok _,⟨_,rfl⟩,q⟩) hs
def QJ(K:W.Frag):R2:=λx y H Q=>Ef K x y H Q\/Eg K x y H Q\/Eh x y H Q
theorem YJ:xr X (QJ X.K):=YG.or (YH.or YI)
theorem YK(lo hi:Option Int)(n:Nat):(iM lo hi ae n).1=((HT.oT n 0 lo:Nat):Int)/\(iM lo hi ae n).2.1=((HT.oT n n hi:Nat):Int)/\(iM lo hi ae n).2.2=1:=by
 refine⟨?_,?_,rfl⟩
 .cases lo with
  |none=>simp[iM,HT.oT]
  | some i=>
    simp only[iM,HT.oT,u9,show(1:Int)>0 by decide,if_true];by_cases h:i<0
    .simp only[h,if_true]<;>omega
    .simp only[h,if_false]<;>omega
 .cases hi with
  |none=>simp[iM,HT.oT]
  | some i=>
    simp only[iM,HT.oT,u9,show(1:Int)>0 by decide,if_true];by_cases h:i<0
    .simp only[h,if_true]<;>omega
    .simp only[h,if_false]<;>omega
theorem YL(cA:List af)(lo hi:Option Int):slicePick cA.toArray lo hi ae=((cA.drop (HT.oT cA.length 0 lo)).take (HT.oT cA.length cA.length hi-HT.oT cA.length 0 lo)).toArray:=by
 obtain⟨h1,h2,h3⟩:=YK lo hi cA.toArray.size;unfold slicePick;rw[h1,h2,h3];simp only[sliceRange_one,pick_run,aQ]<;>rfl
def KN(K:W.Frag):V->Option Int->Option Int->Hp->VK->Prop:=λx lo hi H Q=>∃a xs,x=.ref a/\mJ K H a xs/\∀p,H p=ae->Q (.ref p) (upd H p (.lst (vq xs lo hi)))
theorem YM:QH X (KN X.K):=by
 intro ag s σ H x v vl vu lo hi sl Q I rx hs pl pu h;obtain⟨a,xs,rfl,hx,q⟩:=h;cases rx;obtain⟨cA,r,ht,hz⟩:=I.list hx;have c5:=r.length;refine⟨"list",_,DF.lookup,ht.isList.typeIs,?_⟩;refine wpAny_getItem_list_slice ht.isList hs pl pu .none (by simp) ?_ (by rw[aQ]<;>omega);rw[YL,<- c5];refine⟨.ref s.heap.objs.size,_,I.laid (t':=s.toks) (o:=.lst (vq xs lo hi)) (λb ob q=>aA _ q) (az _) ?_,rfl,q _ (I.cB.fresh (az _))⟩;exact⟨bt (YD xs lo hi) hz,_,0,(r.drop (HT.oT xs.length 0 lo)).take (HT.oT xs.length xs.length hi-HT.oT xs.length 0 lo),bj _ rfl⟩
def nA:V->Bool
 |.bY=>true
 |.bl _=>true
 |.int _=>true
 |.str _=>true
 |_=>false
def qH:V->V->Bool
 |.bY,.bY=>true
 |.bl a,.bl b=>a==b
 |.bl a,.int b=>(if a then 1 else 0)==b
 |.int a,.bl b=>a==(if b then 1 else 0)
 |.int a,.int b=>a==b
 |.str a,.str b=>a==b
 |_,_=>false
theorem QK{A:cf}{s:ar}{y x:V}{u v:af}(ry:RelV y u)(rx:RelV x v)(fy:nA y=true)(fx:nA x=true):GD A s u v (qH y x):=by
 cases y with
 | bY=>
   cases ry;cases x with
   |bY=>cases rx;exact sN _
   |bl b=>cases rx;exact SeqAt.EqAt.none_bool b
   |int b=>obtain⟨t,rfl⟩:=rx;exact pZ b t
   |str b=>obtain⟨t,rfl⟩:=rx;exact p7 b t
   |_=>exact absurd (show false=true from fx) aY
 | bl a=>
   cases ry;cases x with
   |bY=>cases rx;exact SeqAt.EqAt.bool_none a
   |bl b=>cases rx;exact SeqAt.EqAt.bool_bool a b
   |int b=>obtain⟨t,rfl⟩:=rx;exact SeqAt.EqAt.bool_int a b t
   |str b=>obtain⟨t,rfl⟩:=rx;exact SeqAt.EqAt.bool_str a b t
   |_=>exact absurd (show false=true from fx) aY
 | int a=>
   obtain⟨t',rfl⟩:=ry;cases x with
   |bY=>cases rx;exact p8 a t'
   |bl b=>cases rx;exact SeqAt.EqAt.int_bool a t' b
   |int b=>obtain⟨t,rfl⟩:=rx;exact SeqAt.EqAt.int_int a t' b t
   |str b=>obtain⟨t,rfl⟩:=rx;exact qx a t' b t
   |_=>exact absurd (show false=true from fx) aY
 | str a=>
   obtain⟨t',rfl⟩:=ry;cases x with
   |bY=>cases rx;exact p9 a t'
   |bl b=>cases rx;exact SeqAt.EqAt.str_bool a t' b
   |int b=>obtain⟨t,rfl⟩:=rx;exact qy a t' b t
   |str b=>obtain⟨t,rfl⟩:=rx;exact SeqAt.EqAt.str_str a t' b t
   |_=>exact absurd (show false=true from fx) aY
 |_=>exact absurd (show false=true from fy) aY
def rl(x:V)(u:af):Bool:=match u with
 |.none=>qH .bY x
 |.bool b=>qH (.bl b) x
 |.int i _=>qH (.int i) x
 |.str z _=>qH (.str z) x
 |_=>false
theorem Ei{x y:V}{u:af}(r:RelV y u)(f:nA y=true):rl x u=qH y x:=by
 cases y with
 |bY=>cases r;rfl
 |bl b=>cases r;rfl
 |int i=>obtain⟨t,rfl⟩:=r;rfl
 |str z=>obtain⟨t,rfl⟩:=r;rfl
 |_=>exact absurd (show false=true from f) aY
theorem Ej{x:V}:∀{xs:List V} {us:List af},cj xs us->xs.all nA=true->us.any (rl x)=xs.any λy=>qH y x
 |_,_,.nil,_=>rfl
 | y::xs,u::us,.cons r t,f=>by
   rw[qE,b8] at f;rw[ff,ff,Ei r f.1,Ej t f.2]
theorem Ek{A:cf}{s:ar}{x:V}{v:af}(rx:RelV x v)(fx:nA x=true):∀{xs:List V} {us:List af},cj xs us->xs.all nA=true->∀u∈us,GD A s u v (rl x u)
 |_,_,.nil,_=>λu hu=>by cases hu
 | y::xs,u::us,.cons r t,f=>λu' hu=>by
   rw[qE,b8] at f;rcases aF.mp hu with rfl | hu
   .rw[Ei r f.1];exact QK r rx f.1 fx
   .exact Ek rx fx t f.2 u' hu
def El(x:V)(xs:List V):Bool:=xs.any λy=>qH y x
def Hn(K:W.Frag)(Em:Bool):R2:=λx y H Q=>∃p xs,y=.ref p/\(mJ K H p xs\/uL K H p xs)/\nA x=true/\xs.all nA=true/\Q (.bl (if Em then !El x xs else El x xs)) H
theorem YN:kb X (cM .In) (Hn X.K false):=by
 intro ag s σ H x y v u Q I rx ry h;obtain⟨p,xs,rfl,hq,fx,fs,q⟩:=h;cases ry;rcases hq with hq | hq
 .obtain⟨cA,r,pl,hz⟩:=I.list hq
  refine SeqAt.in_listAt (rl x) pl.isList (λw hw=>Ek rx fx r fs w (by simpa using hw)) ⟨.bl _,H,I,rfl,?_⟩;rw[show cA.toArray.any (rl x)=cA.any (rl x) by simp,Ej r fs];exact q
 .obtain⟨cA,r,pl,hz⟩:=I.tuple hq
  refine SeqAt.in_tupleAt (rl x) pl (λw hw=>Ek rx fx r fs w (by simpa using hw)) ⟨.bl _,H,I,rfl,?_⟩;rw[show cA.toArray.any (rl x)=cA.any (rl x) by simp,Ej r fs];exact q
theorem YO:kb X (cM .NotIn) (Hn X.K true):=by
 intro ag s σ H x y v u Q I rx ry h;obtain⟨p,xs,rfl,hq,fx,fs,q⟩:=h;cases ry;rcases hq with hq | hq
 .obtain⟨cA,r,pl,hz⟩:=I.list hq
  refine SeqAt.notIn_listAt (rl x) pl.isList (λw hw=>Ek rx fx r fs w (by simpa using hw)) ⟨.bl _,H,I,rfl,?_⟩;rw[show cA.toArray.any (rl x)=cA.any (rl x) by simp,Ej r fs];exact q
 .obtain⟨cA,r,pl,hz⟩:=I.tuple hq
  refine SeqAt.notIn_tupleAt (rl x) pl (λw hw=>Ek rx fx r fs w (by simpa using hw)) ⟨.bl _,H,I,rfl,?_⟩;rw[show cA.toArray.any (rl x)=cA.any (rl x) by simp,Ej r fs];exact q
theorem rP.or{f:af}{r r':List V->Hp->VK->Prop}(h:rP X f r)(h':rP X f r'):rP X f (λxs H Q=>r xs H Q\/r' xs H Q):=by
 intro ag s σ H xs us Q I rs q;rcases q with q | q
 .exact h ag s σ H xs us Q I rs q
 .exact h' ag s σ H xs us Q I rs q
theorem KO:rP X (.type "list") (λxs H Q=>∃p ys,xs=[.ref p]/\(mJ X.K H p ys\/uL X.K H p ys)/\∀l,H l=ae->Q (.ref l) (upd H l (.lst ys))):=by
 intro ag s σ H xs us Q I r h;obtain⟨p,ys,rfl,hq,q⟩:=h;obtain⟨u,rfl,rx⟩:=Aw r;cases rx;have fO:∀(cA:List af),cj ys cA->ys.length<=sizeLine->∀(h':bO) (c':Nat),(∀b o',s.heap.get? b=aa o'->h'.get? b=aa o') ->
   h'.get? s.heap.objs.size=aa { cls:=.type "list",dict:=ae,data:=.seq cA.toArray c',slots:=#[] }->EP X ag σ Q (.ref s.heap.objs.size) { s with heap:=h' }:=λcA r' hz h' c' kp e=>
  ⟨.ref s.heap.objs.size,_,I.laid (t':=s.toks) kp (az _) (show jY X.prog X.w _ h' _ (.lst ys) from⟨hz,cA,c',r',e⟩),rfl,q _ (I.cB.fresh (az _))⟩
 rcases hq with hq | hq
 .obtain⟨cA,r',pl,hz⟩:=I.list hq
  have c5:=r'.length;obtain⟨o,ho,hc,n,hd⟩:=pl.isList;exact call_list_seq p (.inl rfl) ho hc hd (λh' c' kp e=>fO cA r' hz h' c' kp e) (by simp only[aQ]<;>omega)
 .obtain⟨cA,r',pl,hz⟩:=I.tuple hq
  have c5:=r'.length;obtain⟨o,ho,hc,n,hd⟩:=pl;exact call_list_seq p (.inr rfl) ho hc hd (λh' c' kp e=>fO cA r' hz h' c' kp e) (by simp only[aQ]<;>omega)
def AB(K:W.Frag)(T:String)(x:V)(H:Hp):Prop:=match x with
 |.str _=>T = "str"
 |.int _=>T = "int"
 |.ref p=>(T = "list" /\ ∃xs,mJ K H p xs)\/(T = "tuple" /\ ∃o,K.lookup p=aa o/\o.cls=.type "tuple" /\ o.dict=ae) \/
  (T = "dict" /\ ((∃kvs,H p=aa (.dK kvs))\/∃kvs,H p=aa (.dT kvs)))\/(T = "set" /\ ∃S n,H p=aa (.set S n))
 |_=>False
theorem QL{ag:List (aj×Obj)}{σ:St}{H:Hp}{s:ar}{T:String}{x:V}{v:af}(I:Inv X ag σ H s)(r:RelV x v)(ty:AB X.K T x H) :
  s.TypeIs v T/\∀a,v=.ref a->∃ob,s.heap.get? a=aa ob/\ob.dict=ae:=by
 cases x with
 | str z=>
   obtain⟨t,rfl⟩:=r;cases (show T = "str" from ty);exact⟨typeIs_str s z t,λ_ e=>nomatch e⟩
 | int i=>
   obtain⟨t,rfl⟩:=r;cases (show T = "int" from ty);exact⟨typeIs_int s i t,λ_ e=>nomatch e⟩
 | ref p=>
   cases r;rcases ty with⟨rfl,xs,hq⟩ | ⟨rfl,o,hk,hc,hd⟩ | ⟨rfl,hk⟩ | ⟨rfl,S,n,hk⟩
   .obtain⟨cA,_,pl,_⟩:=I.list hq
    refine⟨pl.isList.typeIs,λa e=>?_⟩;cases e;obtain⟨o,n,e,c,hd,_⟩:=pl;exact⟨o,e,hd⟩
   .refine⟨⟨o,I.jq p o hk,hc⟩,λa e=>?_⟩
    cases e;exact⟨o,I.jq _ o hk,hd⟩
   .have z:∃o,s.heap.get? p=aa o/\o.ExactDict:=by
     rcases hk with⟨kvs,hk⟩ | ⟨kvs,hk⟩
     .obtain⟨_,_,_,_,o,_,_,e,ex,_⟩:=I.cB p _ hk
      exact⟨o,e,ex⟩
     .obtain⟨_,_,_,_,o,_,_,e,ex,_⟩:=I.cB p _ hk
      exact⟨o,e,ex⟩
    obtain⟨o,e,ex⟩:=z;refine⟨⟨o,e,ex.1⟩,λa e2=>?_⟩;cases e2;exact⟨o,e,ex.2.1⟩
   .obtain⟨o,_,_,_,e,ex,_⟩:=I.cB p _ hk
    refine⟨⟨o,e,ex.1⟩,λa e2=>?_⟩;cases e2;exact⟨o,e,ex.2.1⟩
 |_=>exact df ty
def KP(K:W.Frag)(T:String)(r:V->List V->Hp->VK->Prop)(to:TE):TE:=fun σ H Q=>to σ H λx H1=>AB K T x H1/\r x [] H1 Q
def YQ(K:W.Frag)(T:String)(r:V->List V->Hp->VK->Prop)(to:TE)(t:TA):TE:=fun σ H Q=>to σ H λx H1=>AB K T x H1/\t σ H1 λxs H2=>r x xs H2 Q
variable {o e:bo}{es:List bo}{to:TE}{t:TA}{name:Str}{cC c6:Pos}{T id:String}{r:V->List V->Hp->VK->Prop}
theorem YR(pa:sO T)(slot:Slot T name id)(AD:typeOf (.builtin id)=pure (.type "method_descriptor"))(hm:AA X id r)(ho:PE X o to)
  (eQ:bU o name X.env (eval o X.env)=eval o X.env:=by rfl) (eR:(cC.endLine==c6.line)=true:=by rfl):PE X (.Call (.Attribute o name cC) [] [] c6) (KP X.K T r to):=by
 intro ag s σ H Q I h;refine u_ eQ eR (dm (ho ag s σ H _ I h) λv s1 cN=>?_);obtain⟨x,H1,I1,r1,ty,q1⟩:=cN;obtain⟨h1,h2⟩:=QL I1 r1 ty;exact⟨T,id,pa,slot,AD,h1,h2,gc rfl (tN (hm ag s1 σ H1 x [] v [] Q I1 r1 .nil q1))⟩
theorem YS(pa:sO T)(slot:Slot T name id)(AD:typeOf (.builtin id)=pure (.type "method_descriptor"))(hm:AA X id r)(ho:PE X o to)(ha:PA X (e::es) t)
  (eQ:bU o name X.env (eval o X.env)=eval o X.env:=by rfl)
  (nB:((bJ c6 (av (e::es) X.env)).all (λx=>!x.1)&&(eY c6 (cX [] X.env)).all (λx=>x.1.isSome)
   && decide ((e::es).length+([]:List gz).length+(if([]:List gz).isEmpty then 0 else 1)<30))=true:=by rfl)
  (eR:(cC.endLine==c6.line)=true:=by rfl) (hs:av (e::es) X.env=(false,eval e X.env)::av es X.env:=by rfl) (rT:(bJ c6 (av es X.env)).any (·.1)=false:=by rfl) :
  PE X (.Call (.Attribute o name cC) (e::es) [] c6) (YQ X.K T r to t):=by
 intro ag s σ H Q I h;refine wpAny_Call_method_late eQ nB eR rfl (dm (ho ag s σ H _ I h) λv s1 cN=>?_);obtain⟨x,H1,I1,r1,ty,q1⟩:=cN;obtain⟨h1,h2⟩:=QL I1 r1 ty;refine⟨T,id,pa,slot,AD,h1,h2,?_⟩;have hA:=ha c6 ag s1 σ H1 _ I1 q1;rw[hs] at hA ⊢;refine gc (by show(false || (bJ c6 (av es X.env)).any (·.1))=false;rw[rT]<;>rfl) (gX ?_);exact dm hA λus s2 ⟨vs,H2,I2,r2,q2⟩=>hm ag s2 σ H2 x vs v us Q I2 r1 r2 q2
end
def KQ(X:Cx)(id:String)(r:V->List V->Hp->VK->Prop):Prop:=
 ∀ (ag:List (aj×Obj)) (s:ar) (σ:St) (H:Hp) (x:V) (xs:List V) (v:af) (us:List af) (Q:VK),Inv X ag σ H s->RelV x v->cj xs us->r x xs H Q ->
   wpAny (aK X.prog X.w) X.A (call (.builtin id) (v::us)) (EP X ag σ Q) X.xe s
theorem cj.one{x:V}{us:List af}(h:cj [x] us):∃u,us=[u]/\RelV x u:=by
 cases h with
 |cons r t=>cases t;exact⟨_,rfl,r⟩
theorem cj.zero:∀{us:List af},cj [] us->us=[]
 |_,.nil=>rfl
theorem cj.dropLast{xs:List V}{us:List af}(h:cj xs us):cj xs.dropLast us.dropLast:=by
 induction h with
 |nil=>exact .nil
 | cons r t ih=>
   cases t with
   |nil=>exact .nil
   |cons q t'=>exact .cons r ih
theorem cj.eraseIdx:∀{xs:List V} {us:List af} (i:Nat),cj xs us->cj (xs.eraseIdx i) (us.eraseIdx i)
 |_,_,_,.nil=>.nil
 |_,_,0,.cons _ t=>t
 |_,_,i+1,.cons r t=>.cons r (cj.eraseIdx i t)
theorem YT{α:Type}(l:List α):l.eraseIdx (l.length-1)=l.dropLast:=by
 induction l with
 |nil=>rfl
 | cons a r ih=>
   cases r with
   |nil=>rfl
   | cons b r=>
     have e:(a::b::r).length-1=((b::r).length-1)+1:=by
      have h1:(a::b::r).length=r.length+2:=rfl;have h2:(b::r).length=r.length+1:=rfl;omega
     rw[e,List.eraseIdx_cons_succ,ih]
     all_goals rfl
theorem QM{α:Type}:∀(l:List α) (i:Nat),(l.eraseIdx i).length<=l.length
 |[],_=>az _
 |_::_,0=>h9 _
 |_::r,i+1=>Nat.succ_le_succ (QM r i)
section
variable {X:Cx}{ag:List (aj×Obj)}{σ:St}{H:Hp}{s:ar}{l b:aj}{xs ys zs:List V}
theorem Inv.vv{cA its':List af}{n:Nat}{f:Array af->Array af}{t':Nat}(I:Inv X ag σ H s)(hH:H l=aa (.lst xs))
  (e:s.heap.get? l=aa { cls:=.type "list",data:=.seq cA.toArray n }) (hf:f cA.toArray=its'.toArray) (hv:cj ys its') (hz:ys.length<=sizeLine) :
  Inv X ag σ (upd H l (.lst ys)) { s with heap:=s.heap.update l (Obj.mapSeq f),toks:=t' }:=by
 have q:=PySem.IsL.update e f;rw[hf] at q;refine I.write (x:=l) (e:=l) (by rw[hH];exact trivial) (.inl rfl) (λb' u hb hu=>(rL s.heap (Obj.mapSeq f) (bZ hb)).trans hu) ⟨_,q⟩ ?_;exact⟨hz,its',_,hv,q⟩
theorem Inv.KR{cA:List af}{t':Nat}(I:Inv X ag σ H s)(hv:cj ys cA)(hz:ys.length<=sizeLine) :
  Inv X ag σ (upd H s.heap.objs.size (.lst ys)) { s with heap:=s.heap.push { cls:=.type "list",data:=.seq cA.toArray },toks:=t' }:=
 I.laid (λ_ _ q=>aA _ q) (az _) ⟨hz,cA,0,hv,bj _ rfl⟩
theorem Inv.fresh(I:Inv X ag σ H s):H s.heap.objs.size=ae:=I.cB.fresh (az _)
theorem Inv.vw(I:Inv X ag σ H s)(hH:H l=aa (.lst xs)):xs.length<=sizeLine/\∃(cA:List af) (n:Nat),cj xs cA/\xs.length=cA.length/\s.heap.get? l=aa { cls:=.type "list",data:=.seq cA.toArray n }:=by
 obtain⟨z,cA,n,r,e⟩:=I.cB l _ hH;exact⟨z,cA,n,r,r.length,e⟩
theorem YU{n:Nat}(h:n<=sizeLine):il n=false:=by
 unfold il;exact decide_eq_false (by omega)
end
section
variable {X:Cx}
def QN:V->List V->Hp->VK->Prop:=λx vs H Q=>∃l xs y,x=.ref l/\vs=[y]/\H l=aa (.lst xs)/\xs.length<sizeLine/\Q .bY (upd H l (.lst (xs++[y])))
theorem KS:KQ X "list.append" QN:=by
 intro ag s σ H x vs v us Q I rx rv h;obtain⟨l,xs,y,rfl,rfl,hH,hz,q⟩:=h;cases rx;obtain⟨u,rfl,ru⟩:=rv.one;obtain⟨z,cA,n,r,hl,e⟩:=I.vw hH;refine nR F.slot_list_append ⟨_,e,rfl⟩ F.entry_list_append (F.args_list_append_2 _ _) (PySem.list_append l cA.toArray n u (by rw[aQ];omega)) ⟨e,?_⟩;refine⟨.bY,_,I.vv (its':=cA++[u]) hH e (by simp) (r.append (.cons ru .nil)) ?_,rfl,q⟩;rw[aB,aV];omega
def Eo:V->List V->Hp->VK->Prop:=λx vs H Q=>∃l xs y,x=.ref l/\vs=[]/\H l=aa (.lst xs)/\xs[xs.length-1]?=aa y/\Q y (upd H l (.lst xs.dropLast))
theorem YV:KQ X "list.pop" Eo:=by
 intro ag s σ H x vs v us Q I rx rv h;obtain⟨l,xs,y,rfl,rfl,hH,hy,q⟩:=h;cases rx;have KU:=rv.zero;subst KU;obtain⟨z,cA,n,r,hl,e⟩:=I.vw hH;obtain⟨u,hu,ru⟩:=r.get hy;have YW:cA.toArray[cA.toArray.size-1]?=aa u:=by
  show cA.toArray[cA.length-1]?=aa u;rw[<- jS,<- hl];exact hu
 refine nR F.slot_list_pop ⟨_,e,rfl⟩ F.entry_list_pop (F.args_list_pop_1 _) (MeetsSeq.list_pop_last l cA.toArray n u YW (by rw[aQ];omega)) ⟨e,?_⟩;refine⟨y,_,I.vv (its':=cA.dropLast) hH e ?_ r.dropLast ?_,ru,q⟩
 .show cA.toArray.eraseIdxIfInBounds (cA.toArray.size-1)=cA.dropLast.toArray
  rw[aQ,mX,YT]
 .rw[List.length_dropLast]
  omega
def QO:V->List V->Hp->VK->Prop:=λx vs H Q=>∃l xs,x=.ref l/\vs=[]/\H l=aa (.lst xs)/\Q .bY (upd H l (.lst []))
theorem YX:KQ X "list.clear" QO:=by
 intro ag s σ H x vs v us Q I rx rv h;obtain⟨l,xs,rfl,rfl,hH,q⟩:=h;cases rx;have KU:=rv.zero;subst KU;obtain⟨z,cA,n,r,hl,e⟩:=I.vw hH;refine nR F.slot_list_clear ⟨_,e,rfl⟩ F.entry_list_clear (F.args_list_clear_1 _) (AutoSeq1.list_clear_list_0 l cA.toArray n (by rw[aQ];omega)) ⟨e,?_⟩;exact⟨.bY,_,I.vv (its':=[]) (ys:=[]) hH e rfl .nil (dq _),rfl,q⟩
end
end L2
namespace Att
open PySem PySem.W PySem.Calls PyProof.Rows
theorem YY{P:Params}{h:bO}:∀(ns:List Int) (vs:List af),WellAll P h vs (ns.map JT)->wu vs ns:=by
 intro ns
 induction ns with
 | nil=>
   intro vs w;rw[iG] at w;cases w;exact .nil
 | cons n ns ih=>
   intro vs w;rw[aE] at w;cases w with
   | cons a b=>
     cases a;exact .cons _ _ (ih _ b)
theorem YZ{l:OpenLaw}{n:Nat}(hn:l.most=aa n){P:Params}{h:bO}{args:List WData}{AE:List af}
  (xt:l.row.toRowW.claim.pre args=true) (KW:WellAll P h AE args) :
  ∃a vs ns,AE=[aO a]/\args=[WData.list (ns.map JT)]/\h.get? a=aa { cls:=.type "list",data:=.seq vs.toArray }/\wu vs ns/\ns.length<=n:=by
 have Ep:WShape.hasAll [] args [.list .int]=true:=(pre_splitW xt).1;have hc:l.pre.holds [] { args:=args }=true:=(pre_splitW xt).2;obtain⟨d,r,rfl,h1,h2⟩:=hasAllW_cons Ep;obtain rfl:=hasAllW_nil h2;obtain⟨xs,rfl,h3⟩:=hasW_list h1;obtain⟨ns,rfl⟩:=items_int h3;have c5:ns.length<=n:=by
  unfold OpenLaw.pre at hc;have h4:(WTm.not (.lt (.lit (.int (n:Int))) (.len (.arg 0)))).holds [] { args:=[.list (ns.map .int)] }=true:=by
   have h4:=(holds_andW hc).1;rw[hn] at h4;exact h4
  have h5:=condW_of h4 (w_not (w_lt w_lit (w_len_list (w_arg rfl))));rw[aN] at h5;refine Nat.le_of_not_lt λq=>?_;have q':(n:Int)<((ns.length:Nat):Int):=by omega
  first
   |(rw[decide_eq_true q'] at h5;exact absurd h5 (by decide))
   |(simp at h5;omega)
 cases KW with
 | cons w1 w2=>
   cases w2;cases w1 with
   |list ho hall=>exact⟨_,_,ns,rfl,rfl,ho,YY ns _ hall,c5⟩
theorem Y0(l:OpenLaw)(args:List WData):l.row.toRowW.claim.post args (.bool true) args=true:=
 postW_of (r:=l.row.toRowW) (X:=(true==true))
  (show DJ [] (.bool true) .bool=true by first | rfl | decide | simp[DJ,WShape.arms,WShape.armsAll])
  (show(WTm.eq .res (.lit (.bool true))).value [] { args:=args,res:=aa (.bool true),after:=args }=aa (.bool (true==true)) from w_eq_bool (w_res rfl) w_lit) rfl
theorem qI{l:OpenLaw}{n:Nat}{q:aX}{oU:List Str}{XP:(Str->Option af)->bO->Prop}{YP:bB->bO->Prop}{d:DefRec}
  (hn:l.most=aa n) (Er:d.params.defaults=[])
  (call:∀(w:bB) (s₀ s₁:ar) (mg mb:Str->Option af) (fa:aj) (o:Obj) (pm cd mZ:af) (a:aj) (vs:List af) (ns:List Int),
   Ground q oU [] XP w s₀ mg mb s₁.heap->YP w s₁.heap ->
   s₁.heap.get? fa=aa o->o.data=.func (docDef d.name d.params d.body d.scope pm cd mZ)->s₁.heap.CodeRec cd d.name->mg d.name=aa (.ref fa) ->
   s₁.heap.get? a=aa { cls:=.type "list",data:=.seq vs.toArray }->wu vs ns->ns.length<=n->s₁.gens=#[] ->
   codeAny (aK l.prog w) oQ (.call (.ref fa) ⟨[.ref a],[]⟩) (λr s'=>r=.ok (.ret (.bool true))/\OldK s₁.heap s'.heap/\s'.os=s₁.os/\jH s'.gens) s₁) :
  WalkO q oU XP YP l.row.toRowW d [] (λf vs=>uJ f vs):=by
 intro w s₀ s₁ mg mb G Y fa o pm cd mZ dV kV ho hd tT hD AF hg args AE as xt Y1 hrd KW Y2;obtain rfl:dV=.none:=Dflts.none hD Er;obtain rfl:kV=.none:=Dflts.noKw hD;obtain⟨a,vs,ns,rfl,rfl,AG,vx,c5⟩:=YZ hn xt KW;refine enter_call (ja (call w s₀ s₁ mg mb fa o pm cd mZ a vs ns G Y ho (fd_plain hd) tT AF AG vx c5 hg) λr s' hq=>?_);obtain⟨rfl,h2,h3,h4⟩:=hq;exact⟨.inl ⟨.bool true,.bool true,[],rfl,λ_=>rfl,.bool true,Y0 l _,λ_=>⟨o9,λ_ hm=>(nomatch hm)⟩⟩,h2,h3,h4⟩
end Att
namespace L2
open PySem PySem.Spec PyProof.Rows
theorem QP:∀{vs:List af} {ns:List Int},wu vs ns->cj (ns.map V.int) vs
 |_,_,.nil=>.nil
 |_,_,.cons n t h=>.cons ⟨t,rfl⟩ (QP h)
def AH(H:Hp):Prop:=∀b,H b=ae\/∃o xs,H b=aa (.dY o (.lst xs))
theorem Y3 {P:aX} {w:bB} {K:W.Frag} {mg mb:Str->Option af} {CX:sW} {k:Nat} {fa a:aj} {fd:bI} {x:Str} {sp:Sp} {s₁:ar} {vs:List af} {ns:List Int}
  (KX:K.In s₁.heap) (QQ:s₁.heap.Ns bq mg) (hb:s₁.heap.Ns B5 mb) (Y4:∀x:Str,x ≠ "__name__" -> mb x=dO x) (KY:s₁.heap.NoLimit) (hg:s₁.gens=#[])
  (ha:s₁.heap.get? a=aa { cls:=.type "list",data:=.seq vs.toArray }) (hi:wu vs ns) (hl:ns.length<=sizeLine) (hr:d7 k oQ)
  (F:∀base:bO,K.In base->base.Ns bq mg->bW P w K mg base CX k fa fd [x] sp) (Es:∀(s:ar) (u:af),rH s fd ⟨[u],[]⟩ [(x,u)])
  (og:∀H:Hp,AH H->mJ K H a (ns.map V.int)->sp [.ref a] H (λv _=>v=.bl true) λ_ _ _=>False)
  (KZ:∀H e s',CX [] H s₁ (λ_ _ _=>False) e s'->False) :
  codeAny (aK P w) oQ (.call (.ref fa) ⟨[.ref a],[]⟩) (λr s'=>r=.ok (.ret (.bool true))/\OldK s₁.heap s'.heap/\s'.os=s₁.os/\jH s'.gens) s₁:=by
 have rv := QP hi;have K5:=hi.length;have core:∀H:Hp,AH H->mJ K H a (ns.map V.int)->iE P w H s₁.heap->(∀b,H b≠ae->b=a)->(H a≠ae->K.lookup a=ae) ->
   codeAny (aK P w) oQ (.call (.ref fa) ⟨[.ref a],[]⟩) (λr s'=>r=.ok (.ret (.bool true))/\OldK s₁.heap s'.heap/\s'.os=s₁.os/\jH s'.gens) s₁:=by
  intro H hO hS cB hA hK;have sY:∀{b:aj} {o:Obj},s₁.heap.get? b=aa o->H b=ae->(pk s₁.heap H).get? b=aa o:=λe n=>WI e n;have Ea:∀{b:aj} {o:Obj} {es:Array mE} {ep:Nat},s₁.heap.get? b=aa o->o.data=.dict es ep->H b=ae:=λ{b o es ep} e d=>by
   cases q:H b with
   |none=>rfl
   | some u=>
     have e':b=a:=hA b (by rw[q];simp);subst e';rw[ha] at e;cases e;have d':Data.seq vs.toArray _=Data.dict es ep:=d;cases d'
  have Ho:∀{b:aj} {m:Str->Option af},s₁.heap.Ns b m->(pk s₁.heap H).Ns b m:=λ{b m} ⟨o,es,ep,e,d,r⟩=>⟨o,es,ep,sY e (Ea e d),d,r⟩;have QR:K.In (pk s₁.heap H):=λb o e=>sY (KX b o e) (by
   cases q:H b with
   |none=>rfl
   | some u=>
     have e':b=a:=hA b (by rw[q];simp);subst e';rw[hK (by rw[q];simp)] at e;cases e)
  have hM:Mod K mg (pk s₁.heap H):=⟨QR,Ho QQ,⟨mb,Ho hb,Y4⟩,let ⟨mc,h1,h2⟩:=KY;⟨mc,Ho h1,h2⟩⟩;have e0:rS P w K mg (pk s₁.heap H) oQ [] s₁ H:=⟨rfl,hM,λb o e=>WJ e,gJ (WH _ _),trivial,λb hb=>absurd (show b∈([]:List aj) from hb) (by simp),cB,.of_eq hg⟩;refine ja ((F _ QR (Ho QQ)).run oQ [] s₁ H ⟨[.ref a],[]⟩ [.ref a] [.ref a] _ _ hr e0 (Es s₁ (.ref a)) (.cons rfl .nil) (og H hO hS)) λr s' h=>?_;cases r with
  |error e=>exact(KZ H e s' h).elim
  | ok fl=>
    cases fl with
    |next=>exact df h
    |brk=>exact df h
    |cont=>exact df h
    | ret u=>
      obtain⟨v,H',os,bare,un,K6,r',q⟩:=h;have q':v=.bl true:=q;subst q';obtain rfl:u=dM true:=r';refine⟨rfl,OldK.of_keep λb o e=>?_,os,bare⟩;cases q:H b with
      |none=>exact un.keep b o e q (by intro z;exact absurd (show b∈([]:List aj) from z) (by simp)) (by simp)
      | some u=>
        rcases hO b with z | ⟨ob,xs,z⟩
        .rw[q] at z;cases z
        .have z2:=un.frzs b ob _ z
         obtain⟨e1,_⟩:=cB b _ z;obtain⟨e2,_⟩:=K6 b _ z2;rw[e] at e1;cases e1;exact e2
 cases hk:K.lookup a with
 | some o=>
   have e:=KX a o hk;rw[ha] at e;cases e;refine core (λ_=>ae) (λ_=>.inl rfl) (.inr ⟨_,vs.toArray,_,hk,rfl,rfl,rfl,by rw[aQ,K5];exact hl,by simpa using rv⟩) (λb u z=>by have z':(ae:Option HO)=aa u:=z;cases z') (λb z=>absurd rfl z) λz=>absurd rfl z
 | none=>
   refine core (λb=>if b=a then aa (.dY { cls:=.type "list",data:=.seq vs.toArray } (.lst (ns.map V.int))) else ae) (λb=>?_) (.inl (.inr ⟨{ cls:=.type "list",data:=.seq vs.toArray },if_pos rfl⟩)) (λb u z=>?_) (λb z=>?_) λ_=>hk
   .by_cases hb:b=a
    .exact .inr ⟨_,_,if_pos hb⟩
    .exact .inl (if_neg hb)
   .by_cases hb:b=a
    .have z':=(if_pos hb).symm.trans z
     cases z';subst hb;exact⟨ha,by rw[aN];exact hl,vs,_,rv,ha⟩
    .have z':=(if_neg hb).symm.trans z
     cases z'
   .by_cases hb:b=a
    .exact hb
    .exact absurd (if_neg hb) z
theorem xu{l:W.OpenLaw}{n k:Nat}{q:aX}{oU:List Str}{XP:(Str->Option af)->bO->Prop}{YP:bB->bO->Prop}{d:DefRec}{K:Params->W.Frag}{CX:bB->sW}{sp:bB->Sp}{x:Str}
  (hn:l.most=aa n) (vm:n<=sizeLine) (Er:d.params.defaults=[]) (hr:d7 k oQ)
  (hY:∀(w:bB) (h:bO),YP w h->(K w.params).In h)
  (F : ∀(w:bB) (mg:Str->Option af) (fa:aj) (h:bO),(K w.params).In h->h.Ns bq mg->mg d.name=aa (.ref fa) ->
   ∃ fd:bI,(∀(s:ar) (u:af),rH s fd ⟨[u],[]⟩ [(x,u)]) /\
     ∀base:bO,(K w.params).In base->base.Ns bq mg->bW l.prog w (K w.params) mg base (CX w) k fa fd [x] (sp w))
  (og:∀(w:bB) (H:Hp) (a:aj) (ns:List Int),ns.length<=n->AH H->mJ (K w.params) H a (ns.map V.int)->sp w [.ref a] H (λv _=>v=.bl true) λ_ _ _=>False)
  (KZ:∀(w:bB) (H:Hp) (s:ar) (e:af) (s':ar),CX w [] H s (λ_ _ _=>False) e s'->False) :
  W.WalkO q oU XP YP l.row.toRowW d [] (λf vs=>uJ f vs):=by
 refine Att.qI hn Er λw s₀ s₁ mg mb fa o pm cd mZ a vs ns G Y ho hd tT AF AG vx c5 hg=>?_;have KX:=hY w _ Y;obtain⟨fd,hb,hF⟩:=F w mg fa _ KX G.T.g AF;exact Y3 KX G.T.g G.T.b G.T.builtins G.T.nolimit hg AG vx (bt c5 vm) hr hF hb (λH hO hS=>og w H a ns c5 hO hS) λH e s'=>KZ w H s₁ e s'
def tY(s:cm)(j:Nat):cm:=match s with
 |.ClassDef _ _ _ body _ _ _ _ _ _ _=>body.getD j (.Pass ⟨0,0,0,0⟩)
 |_=>.Pass ⟨0,0,0,0⟩
def qJ(s:cm):Arguments:=match s with
 |.FunctionDef _ a _ _ _ _ _ _ _ _=>a
 |_=>{ posonlyargs:=[],args:=[],vararg:=ae,kwonlyargs:=[],kw_defaults:=[],kwarg:=ae,defaults:=[] }
def nV(s:cm):List cm:=match s with
 |.FunctionDef _ _ b _ _ _ _ _ _ _=>b
 |_=>[]
def e_(s:cm):ig:=match s with
 |.FunctionDef _ _ _ _ _ _ sc _ _ _=>sc
 |_=>{ kind:=.function,names:=[],isGenerator:=false,isCoroutine:=false }
abbrev Et:sW:=λ_ _ _ _ _ _=>False
abbrev E0:XK:=λ_ _ _=>False
structure Eu(K:W.Frag)(x qual:Str)(st:cm)(f:aj)(fd:bI):Prop where
 ex:∃(oc:af) (od:Option aj) (kV mZ pm:af) (an:Option aj) (gE ct:af) (rj:Array (Option af)),
  fd=W.fnOf x qual (qJ st) (nV st) (e_ st) .none kV mZ pm an gE ct/\K.lookup f=aa ⟨oc,od,.func fd,rj⟩/\W.codeIn K gE qual=true
 kp:W.keepIn K (.ref f)=true
section
variable {P:aX}{w:bB}{K:W.Frag}{mg:Str->Option af}{base:bO}
theorem Eu.binds{x qual:Str}{st:cm}{f:aj}{fd:bI}{ps:List Str}(F:Eu K x qual st f fd)
  (h:∀(kV mZ pm:af) (an:Option aj) (gE ct:af) (us:List af),us.length=ps.length->yS (W.fnOf x qual (qJ st) (nV st) (e_ st) .none kV mZ pm an gE ct) ⟨us,[]⟩=pure (ps.zip us)):mK K fd ps []:=by
 obtain⟨oc,od,kV,mZ,pm,an,gE,ct,rj,rfl,lk,tT⟩:=F.ex;exact .all (h kV mZ pm an gE ct)
theorem Hq{x qual:Str}{st:cm}{f:aj}{oc:af}{od an:Option aj}{rj:Array (Option af)}{kV mZ pm gE ct:af}(l:K.lookup f=aa ⟨oc,od,.func (W.fnOf x qual (qJ st) (nV st) (e_ st) .none kV mZ pm an gE ct),rj⟩)
 (c:W.codeIn K gE qual=true) (k:W.keepIn K (.ref f)=true):Eu K x qual st f (W.fnOf x qual (qJ st) (nV st) (e_ st) .none kV mZ pm an gE ct):=⟨⟨oc,od,kV,mZ,pm,an,gE,ct,rj,rfl,l,c⟩,k⟩
end
theorem Y5{A:cf}{k:Nat}(hr:d7 k A):A.units+1<fq:=wx (Nat.add_le_add_left (by decide:1<=64) _) hr.units
theorem QS{n:Nat}(h:n<=1000):n<sizeLine:=wx h (by decide)
section
variable {X:Cx}
theorem pv(i:Nat){x:Str}{pos:Pos}(hN:X.N[i]?=aa x:=by rfl)(hv:Ai X.env.scope x:=by first | exact dJ rfl | exact cz (dJ rfl) | exact cz (cz rfl))(hd:(x==("__debug__" : Str))=false:=by decide)
 (tT:(x==("__classdict__" : Str))=false:=by decide):PE X (.Name x pos) (lC i):=uK hN hv hd tT
end
theorem rV{A B:Prop}(h:B):if false=true then A else B:=by
 rw[if_neg aY];exact h
theorem rW{A B:Prop}(h:A):if true=true then A else B:=by
 rw[if_pos rfl];exact h
section
variable {X:Cx}
theorem Y6:rP X (.builtin "len") (λxs H Q=>∃a kvs,xs=[V.ref a]/\H a=aa (.dK kvs)/\Q (.int kvs.length) H):=by
 intro ag s σ H xs us Q I r h;obtain⟨a,kvs,rfl,ha,q⟩:=h;obtain⟨u,rfl,ru⟩:=Aw r;cases ru;exact Yf I (.inl ha) λt s' I'=>⟨.int kvs.length,H,I',⟨t,rfl⟩,q⟩
end
section
variable {α β:Type}
def Dk:Sem α->Prop
 |.pure _=>True
 |.raise _=>True
 |.unsupported _=>True
 |.finish _=>True
 |.rule _ k=>Dk (k ())
 |.at _ k=>Dk (k ())
 |.load _ _ k=>∀o,Dk (k o)
 |.update _ _ f k=>(∀o,(f o).dict=o.dict/\(f o).isFreed=o.isFreed)/\Dk (k ())
 |.loadIfAlive _ k=>∀o,Dk (k o)
 |.point _ k=>Dk (k ())
 |.register _ _=>True
 |.alloc _ k=>∀a,Dk (k a)
 |.fresh k=>∀t,Dk (k t)
 |.ask k=>∀x,Dk (k x)
 |.choose _ _ k=>∀x,Dk (k x)
 |.os _ _ k=>∀x,Dk (k x)
 |.handled _ k=>∀x,Dk (k x)
 |.newGen _ k=>∀x,Dk (k x)
 |.stack k=>∀x,Dk (k x)
 |.thread k=>∀x,Dk (k x)
 |_=>False
def mL(e:aj)(d:Option aj)(h:bO):Prop:=∃o,h.get? e=aa o/\o.dict=d
theorem mL.upd{e a:aj}{d:Option aj}{h:bO}{f:Obj->Obj}(x:mL e d h)(hf:∀o,(f o).dict=o.dict/\(f o).isFreed=o.isFreed):mL e d (h.update a f):=by
 obtain⟨o,h1,h2⟩:=x;by_cases q:a=e
 .subst q
  refine⟨f o,gT f h1 ?_,by rw[(hf o).1];exact h2⟩;rw[(hf o).2];exact(Heap.get?_some_iff.mp h1).2
 .exact⟨o,by rw[rL _ _ q];exact h1,h2⟩
theorem Y7{M:u3}{Γ:PySem.Ctx}{e:aj}{d:Option aj}:∀{t:Sem α} {Q:α->Pos->ar->Prop} {E:af->Pos->ar->Prop} {p:Pos} {s:ar},Dk t->mL e d s.heap->Sem.wp M Γ t Q E p s ->
  Sem.wp M Γ t (λa p s'=>Q a p s'/\mL e d s'.heap) (λx p s'=>E x p s'/\mL e d s'.heap) p s:=by
 intro t
 induction t with
 |pure a=>exact λ_ hd h=>⟨h,hd⟩
 |raise a=>exact λ_ hd h=>⟨h,hd⟩
 |unsupported a=>exact λ_ hd h=>h
 |finish a=>exact λ_ hd h=>h
 |rule a k ih=>exact λdk hd h=>ih () dk hd h
 | «at» a k ih=>exact λdk hd h=>ih () dk hd h
 |load a b k ih=>exact λdk hd ⟨o,h1,h2⟩=>⟨o,h1,ih o (dk o) hd h2⟩
 |update a b f k ih=>exact λdk hd ⟨h1,h2⟩=>⟨h1,ih () dk.2 (hd.upd dk.1) h2⟩
 |loadIfAlive a k ih=>exact λdk hd h=>ih _ (dk _) hd h
 |point a k ih=>exact λdk hd h=>ih () dk hd h
 |register a k ih=>exact λdk hd h=>h
 |alloc o k ih=>exact λdk hd h=>ih _ (dk _) (by obtain⟨q,h1,h2⟩:=hd;exact⟨q,aA _ h1,h2⟩) h
 |fresh k ih=>exact λdk hd h=>ih _ (dk _) hd h
 |ask k ih=>exact λdk hd h=>ih _ (dk _) hd h
 |choose a b k ih=>exact λdk hd ⟨h0,h⟩=>⟨h0,ih _ (dk _) hd h⟩
 |os a b k ih=>exact λdk hd h=>ih _ (dk _) hd h
 |call c h a b k ih=>exact λdk=>dk.elim
 |handled a k ih=>exact λdk hd h=>ih _ (dk _) hd h
 |genState g k ih=>exact λdk=>dk.elim
 |newGen c k ih=>exact λdk hd h=>ih _ (dk _) hd h
 |resume g r a k ih=>exact λdk=>dk.elim
 |yield=>exact λdk=>dk.elim
 |stack k ih=>exact λdk hd h=>ih _ (dk _) hd h
 |await=>exact λdk=>dk.elim
 |fork=>exact λdk=>dk.elim
 |thread k ih=>exact λdk hd h=>ih _ (dk _) hd h
theorem Cw{M:u3}{A:cf}{e:aj}{d:Option aj}{t:Sem α}{Q:α->ar->Prop}{E:af->ar->Prop}{s:ar}(dk:Dk t)(hd:mL e d s.heap)(h:wpAny M A t Q E s) :
 wpAny M A t (λa s'=>Q a s'/\mL e d s'.heap) (λx s'=>E x s'/\mL e d s'.heap) s:=fun Γ p hi=>Y7 dk hd (h Γ p hi)
theorem Dk.bind{m:Sem α}{f:α->Sem β}(h:Dk m)(hf:∀a,Dk (f a)):Dk (m >>= f):=by
 revert h
 show Dk m->Dk (Sem.bind m f)
 induction m with
 |pure a=>exact λ_=>hf a
 |raise a=>exact λ_=>trivial
 |unsupported a=>exact λ_=>trivial
 |finish a=>exact λ_=>trivial
 |rule a k ih=>exact λdk=>ih () dk
 | «at» a k ih=>exact λdk=>ih () dk
 |load a b k ih=>exact λdk o=>ih o (dk o)
 |update a b f k ih=>exact λdk=>⟨dk.1,ih () dk.2⟩
 |loadIfAlive a k ih=>exact λdk o=>ih o (dk o)
 |point a k ih=>exact λdk=>ih () dk
 |register a k ih=>exact λdk=>trivial
 |alloc o k ih=>exact λdk o=>ih o (dk o)
 |fresh k ih=>exact λdk o=>ih o (dk o)
 |ask k ih=>exact λdk o=>ih o (dk o)
 |choose a b k ih=>exact λdk o=>ih o (dk o)
 |os a b k ih=>exact λdk o=>ih o (dk o)
 |call c h a b k ih=>exact λdk=>dk.elim
 |handled a k ih=>exact λdk o=>ih o (dk o)
 |genState g k ih=>exact λdk=>dk.elim
 |newGen c k ih=>exact λdk o=>ih o (dk o)
 |resume g r a k ih=>exact λdk=>dk.elim
 |yield=>exact λdk=>dk.elim
 |stack k ih=>exact λdk o=>ih o (dk o)
 |await=>exact λdk=>dk.elim
 |fork=>exact λdk=>dk.elim
 |thread k ih=>exact λdk o=>ih o (dk o)
end
theorem QU{α:Type}{a:α}:Dk (pure a:Sem α):=trivial
theorem K7{a:aj}:Dk (load a):=λ_=>trivial
theorem QW{a:aj}{f:Obj->Obj}(h:∀o,(f o).dict=o.dict/\(f o).isFreed=o.isFreed):Dk (update a f):=⟨h,trivial⟩
theorem Y8{f:Array af->Array af}(o:Obj):(DK f o).dict=o.dict/\(DK f o).isFreed=o.isFreed:=by
 obtain⟨c,d,x,sl⟩:=o;cases x<;>exact⟨rfl,rfl⟩
theorem K8{v u:af}{i:Nat}:Dk (setField v i u):=by
 unfold setField
 split
 .unfold updateField
  refine K7.bind λo=>?_
  split
  .split
   .exact QW λo=>Y8 o
   .trivial
  .trivial
 .trivial
theorem Hr{v:af}{i:Nat}:Dk (field v i):=by
 unfold field fieldsOf;refine Dk.bind ?_ λx=>?_
 .split
  .refine K7.bind λo=>?_
   split<;>trivial
  .trivial
 .split<;>trivial
theorem K9{v:af}{f:Option aj}:Dk (p_ v f):=by
 unfold p_;refine Hr.bind λtb=>?_
 split
 .exact K8
 .trivial
theorem K_:Dk stack:=λ_=>trivial
theorem Y9{env:Env}{l:List Env}:Dk (behindIsImport env l):=by
 unfold behindIsImport
 split
 .trivial
 .split
  .trivial
  .exact Hr.bind λ_=>trivial
theorem Y_{env:Env}{b:Bool}{l:List Env}:Dk (keptBack env b l):=by
 unfold keptBack
 split
 .split
  .trivial
  .unfold underTheClaimsCaller
   refine Dk.bind (m:=stack >>= λ_=>pure _) (K_.bind λ_=>QU) λ_=>QU
 .trivial
theorem QX:∀l:List Env,Dk (readyFrames l)
 |[]=>trivial
 | env::outer=>by
   unfold readyFrames
   split
   .refine K7.bind λo=>?_
    split
    .trivial
    .exact Y9.bind λb=>Y_.bind λv=>Dk.bind (QW (by intro o;obtain⟨c,d,x,sl⟩:=o;cases x<;>exact⟨rfl,rfl⟩)) λ_=>QX outer
   .trivial
theorem Y'{env:Env}:Dk (qc env):=by
 unfold qc;refine Dk.bind ?_ λl=>Dk.bind ?_ λx=>?_
 .unfold frameEnvs
  exact K_.bind λ_=>trivial
 .unfold frameObject
  split
  .trivial
  .exact(QX _).bind λ_=>trivial
 .split<;>trivial
theorem Za{f:aj}{b:Bool}:Dk (wy f b):=by
 unfold wy;refine K_.bind λl=>?_
 split<;>trivial
theorem Zb{x:String}{vs:List af}:Dk (newFields x vs):=by
 unfold newFields newObj newObjAsIs;dsimp only
 split
 .trivial
 .exact λa=>trivial
theorem QY{v:af}{env:Env}:Dk (qd v env):=by
 unfold qd
 split
 .refine Hr.bind λhd=>?_
  have fO:∀f:aj,Dk (do setField v 1 (<- qe hd (<- qc env) .none (rawInt f) .none (<- wy f (hd != .none)))):=λf=>
   Y'.bind λa=>Za.bind λb=>Dk.bind (by unfold qe;exact Zb) λ_=>K8
  split
  .refine Hr.bind λ_=>?_
   split
   .trivial
   .exact K8.bind λ_=>fO _
  .exact fO _
 .trivial
theorem La{v:af}{env:Env}:Dk (rJ env v):=by
 unfold rJ;exact QY.bind λ_=>K9
def ee(P:aX)(w:bB):sW:=λouter H s E e s'=>
 ∃ (ea:aj) (cls a0:af) (B:bO) (H':Hp) (dx:Option aj),e=.ref ea/\s'.os=s.os/\jH s'.gens /\
   gA B outer ea cls a0 s'.heap/\iE P w H' B /\
   (∀b o,s.heap.get? b=aa o->H b=ae->b∉j8 outer->B.get? b=aa o) /\
   (∀b o,s.heap.get? b=aa o->H b=ae->b∈j8 outer->∃sl,s'.heap.get? b=aa { o with slots:=sl }) /\
   (∀b o,s.heap.get? b=aa o->H b=ae->H' b=ae) /\
   (∀b o,s.heap.get? b=aa o->b∉j8 outer->∃o',B.get? b=aa o') /\
   (∀b xs,H b=aa (.tup xs)->H' b=aa (.tup xs))/\(∀b o u,H b=aa (.dY o u)->H' b=aa (.dY o u)) /\
   (∀b ps,H b=aa (.ve ps)->∃more,H' b=aa (.ve (ps++more)))/\mL ea dx s'.heap/\E cls dx H'
theorem iE.hide{P:aX}{w:bB}{H:Hp}{h:bO}{l:List aj}(ok:iE P w H h)(hl:∀b∈l,H b=ae):iE P w H (W.hideAll h l):=λa o e=>
 (ok a o e).lU (λb u hb q=>W.hideAll_get _ q λm=>by
  rcases hb with z | z
  .rw[z] at m;rw[hl a m] at e;cases e
  .rw[hl b m] at z;cases z) (λ_ q=>q) λ_ _ q=>q
def Lb(X:Cx)(E:XK):Prop:=∀(ag:List (aj×Obj)) (σ:St) (H:Hp) (s:ar) (ea C:aj) (vs:List af) (h':bO),Inv X ag σ H s ->
 Heap.MadeExcOf s.heap h' ea (.ref C) vs->E (.ref C) ae H->X.xe (.ref ea) { s with heap:=h' }
section
variable {P:aX}{w:bB}{K:W.Frag}{mg:Str->Option af}{base:bO}{N:List Str}{qual:Str}{scope:ig}{f:aj}{cd:af}{A:cf}{outer:List Env}{s₀:ar}{H₀:Hp}{E:XK}
theorem Zc:Lb (fP (ee P w) P w K mg base N qual scope f cd A outer s₀ H₀ E) E:=by
 intro ag σ H s ea C vs h' I hm hE;let X:=fP (ee P w) P w K mg base N qual scope f cd A outer s₀ H₀ E;have dI:X.stack=X.env::outer:=rfl;have mM:∀b,b∈j8 X.stack↔b=X.env.locals\/b∈j8 outer:=λb=>by
  show b∈X.env.locals::j8 outer↔_;exact aF
 have hF:s.heap.FunFrames (W.hideAll s.heap (j8 X.stack)) X.stack:=W.funFrames_hide I.stack λenv he a ha=>fX.mpr ⟨env,he,ha⟩;show wpAny (aK P w) X.A (rJ X.env (.ref ea)) _ _ _;have Lc:mL ea ae h':=by obtain⟨t,he,_⟩:=hm.there;exact⟨_,he,rfl⟩
 refine bF (Cw (e:=ea) (d:=ae) (s:={ s with heap:=h' }) La Lc (wpAny_leaves_madeW (Q:=λ_ s2=>∃h1 t,s2={ s with heap:=h1 }/\gA (W.hideAll s.heap (j8 X.stack)) outer ea (.ref C) (.ref t) h1/\iO h' h1)
  (s:={ s with heap:=h' }) (base:=W.hideAll s.heap (j8 X.stack)) (h:=s.heap) (env:=X.env) (outer:=outer) (L:=X.env.locals) I.ok.frames rfl (λb o q=>W.of_hideAll _ q) hF hm λh1 t x1 x2 x3 x4=>⟨h1,t,rfl,x1,x4⟩)) (λ_ s2 z=>?_) λ_ _ z=>z.1
 obtain⟨⟨h1,t,rfl,x1,x4⟩,wI⟩:=z;have up:∀b o,s.heap.get? b=aa o->b∈j8 X.stack->∃sl,h1.get? b=aa { o with slots:=sl }:=λb o e hb=>by
  obtain⟨o',e',nd⟩:=(I.stack.mem hb).2;rw[e] at e';cases e';exact x4 b o (hm.keeps b o e) nd
 refine⟨ea,.ref C,.ref t,_,H,ae,rfl,I.os,I.bare,x1,I.cB.hide I.lB,λb o e n hb=>?_,λb o e n hb=>?_,λb o e n=>I.base.free b o e n (by simp[fP]),λb o e hb=>?_,I.base.tups,I.base.frzs,I.base.tbls,wI,hE⟩
 .have hL:b≠X.env.locals:=aS (ax (aD e) I.ok.above)
  refine W.hideAll_get _ (I.base.keep b o e n hb (by simp[fP])) λm=>?_;rcases(mM b).mp m with z | z
  .exact hL z
  .exact hb z
 .obtain⟨sl,e1⟩:=I.base.slot b o e n hb (by simp[fP])
  obtain⟨Ck,e2⟩:=up b _ e1 ((mM b).mpr (.inr hb));exact⟨Ck,e2⟩
 .have hL:b≠X.env.locals:=aS (ax (aD e) I.ok.above)
  obtain⟨o',e1⟩:=I.base.there b o e (by simp[fP]);refine⟨o',W.hideAll_get _ e1 λm=>?_⟩;rcases(mM b).mp m with z | z
  .exact hL z
  .exact hb z
theorem fQ:oS (ee P w) (fP (ee P w) P w K mg base N qual scope f cd A outer s₀ H₀ E) E:=by
 intro ag σ H s e s' I h;obtain⟨ea,cls,a0,B,H',dx,rfl,ho,hb,nW,cB,keep,slot,free,there,tups,frzs,tbls,hd,hE⟩:=h;let X:=fP (ee P w) P w K mg base N qual scope f cd A outer s₀ H₀ E;have mM:∀b,b∈j8 X.stack↔b=X.env.locals\/b∈j8 outer:=λb=>by
  show b∈X.env.locals::j8 outer↔_;exact aF
 show wpAny (aK P w) X.A (rJ X.env (.ref ea)) _ _ _;refine bF (Cw La hd (wpAny_leaves_onW (Q:=λ_ s2=>∃h1,s2={ s' with heap:=h1 }/\gA B outer ea cls a0 h1/\iO s'.heap h1) (base:=B) (env:=X.env) (outer:=outer) (L:=X.env.locals) I.ok.frames rfl nW λh1 x1 x4=>⟨h1,rfl,x1,x4⟩)) (λ_ s2 z=>?_) λ_ _ z=>z.1;obtain⟨⟨h1,rfl,x1,x4⟩,wI⟩:=z;have Ew:∀b,b∈j8 X.stack->∀o,s'.heap.get? b=aa o->∃sl,h1.get? b=aa { o with slots:=sl }:=λb hb o e=>by
  obtain⟨o',e',nd⟩:=(nW.2.2.1.mem hb).2;rw[e] at e';cases e';exact x4 b o e nd
 refine⟨ea,cls,a0,B,H',dx,rfl,ho.trans I.os,hb,x1,cB,λb o e n hb=>?_,λb o e n hb=>?_,λb o e n=>?_,λb o e hb=>?_,λb xs q=>tups b xs (I.base.tups b xs q),λb o u q=>frzs b o u (I.base.frzs b o u q),λb ps q=>?_,wI,hE⟩
 .have hL:b≠X.env.locals:=aS (ax (aD e) I.ok.above)
  refine keep b o (I.base.keep b o e n hb (by simp[fP])) (I.base.free b o e n (by simp[fP])) λm=>?_;rcases(mM b).mp m with z | z
  .exact hL z
  .exact hb z
 .obtain⟨sl,e1⟩:=I.base.slot b o e n hb (by simp[fP])
  obtain⟨Ck,e2⟩:=slot b _ e1 (I.base.free b o e n (by simp[fP])) ((mM b).mpr (.inr hb));obtain⟨Ld,e3⟩:=Ew b ((mM b).mpr (.inr hb)) _ e2;exact⟨Ld,e3⟩
 .obtain⟨o',e1⟩:=I.base.there b o e (by simp[fP])
  exact free b o' e1 (I.base.free b o e n (by simp[fP]))
 .have hL:b≠X.env.locals:=aS (ax (aD e) I.ok.above)
  obtain⟨o',e1⟩:=I.base.there b o e (by simp[fP]);refine there b o' e1 λm=>?_;rcases(mM b).mp m with z | z
  .exact hL z
  .exact hb z
 .obtain⟨m1,q1⟩:=I.base.tbls b ps q
  obtain⟨m2,q2⟩:=tbls b _ q1;exact⟨m1++m2,by rw[q2,uF]⟩
end
abbrev iH:List af:=[.type "ValueError",.type "Exception",.type "BaseException",.type "object"]
def nX(K:W.Frag)(C:aj):Option (List af):=match K.lookup C with
 | some ⟨.type "type",_,.cls cd,sl⟩=>(match cd.mro,sl.toList with
   |.ref C'::bm,[_,_,_,_,aa (.builtin _),_]=>bif (C'==C)&&!cd.hasDel&&bm.contains (.type "BaseException") then aa bm else ae
   |_,_=>ae)
 |_=>ae
theorem QZ{K:W.Frag}{h:bO}{C:aj}{bm:List af}(X:K.In h)(q:nX K C=aa bm) :
  bm.contains (.type "BaseException")=true/\∃nm qn N bs hdct sn sub ab col dd k0 k1 k2 k3 k5 sZ,h.get? C=aa (yU nm qn C N bs bm hdct sn sub ab col dd k0 k1 k2 k3 k5 sZ):=by
 unfold nX at q
 split at q
 .rename_i Q0 Cy slt look
  split at q
  .rename_i C2 AI j0 j1 j2 j3 Hs j5 em es
   cases c:((C2==C)&&!Cy.hasDel&&AI.contains (.type "BaseException")) with
   |false=>rw[c] at q;cases q
   | true=>
     rw[c] at q;have e2:AI=bm:=bg q;simp only[b8,beq_iff_eq,mF] at c;obtain⟨⟨c1,c2⟩,c3⟩:=c;subst c1 e2;refine⟨c3,?_⟩;have ob:=X _ _ look;obtain⟨a1,a2,a3,a4,a5,a6,a7,a8,a9,b1,b2⟩:=Cy;have em:a3=.ref C2::AI:=em;have c2:b2=false:=c2;have Ex:slt=#[j0,j1,j2,j3,aa (.builtin Hs),j5]:=by
      obtain⟨l⟩:=slt;exact congrArg yV es
     rw[em,c2,Ex] at ob;exact⟨_,_,_,_,_,_,_,_,_,_,_,_,_,_,_,_,ob⟩
  .cases q
 .cases q
theorem Zd{K:W.Frag}{h:bO}{C:aj}{Q1:List af}{sZ:String}(X:K.In h)(q:W.excIn K C Q1 sZ=true) :
  ∃bm N nm qn bs hdct sn sub ab col dd k0 k1 k2 k3 k5 mN,h.get? C=aa (yU nm qn C N bs bm hdct sn sub ab col dd k0 k1 k2 k3 k5 sZ)/\h.Ns N mN/\mN "__init__" = ae/\OwnTail h Q1 bm:=by
 unfold W.excIn at q
 split at q
 .rename_i Q0 Cy slt look
  split at q
  .rename_i C2 AI j0 j1 j2 j3 Hs j5 em es
   simp only[b8,beq_iff_eq,mF] at q;obtain⟨⟨⟨⟨⟨c1,c2⟩,c3⟩,tl⟩,lW⟩,Le⟩:=q;subst c1 c2;have ob:=X _ _ look;obtain⟨a1,a2,a3,a4,a5,a6,a7,a8,a9,b1,b2⟩:=Cy;have em:a3=.ref C2::AI:=em;have c3:b2=false:=c3;have Ex:slt=#[j0,j1,j2,j3,aa (.builtin Hs),j5]:=by
    obtain⟨l⟩:=slt;exact congrArg yV es
   rw[em,c3,Ex] at ob;exact⟨_,_,_,_,_,_,_,_,_,_,_,_,_,_,_,_,_,ob,.of_isNs (W.isNs_of_in X lW),W.nsMap_none_of_in X lW Le,W.tail_of_in X tl⟩
  .cases q
 .cases q
theorem Q2{M:u3}{A:cf}{E:af->ar->Prop}{K:W.Frag}{s:ar}{e C D:aj}{oe:Obj}{tZ xw:List af}{Q:Bool->ar->Prop}(X:K.In s.heap)(qC:nX K C=aa tZ)(qD:nX K D=aa xw)
  (he:s.heap.get? e=aa oe) (Am:oe.cls=.ref C) (hq:Q ((aO C::tZ).contains (.ref D)) s):wpAny M A (excMatches (.ref e) (.ref D)) Q E s:=by
 obtain⟨h,g,d,t,os⟩:=s;obtain⟨bC,_,_,_,_,_,_,_,_,_,_,_,_,_,_,_,_,hC⟩:=QZ X qC;obtain⟨bD,_,_,_,_,_,_,_,_,_,_,_,_,_,_,_,_,hD⟩:=QZ X qD;have Ze:(aO D::xw).contains (.type "BaseException")=true:=by rw[cS,bD,DL]
 have f:=tc_notTuple;unfold excMatches;generalize hv:(aO C::tZ).contains (.ref D)=v at hq
 repeat (first | (with_reducible refine eG he ?_;rw[Am]) | with_reducible refine eG hD ?_ | (with_reducible refine i6 hD ?_;rw[Ze]) | (with_reducible refine i6 hC ?_;rw[hv]) | wp_step)
 cases v<;>(wp_walk;exact hq)
section
variable {X:Cx}
def Zf(C:aj)(E:XK)(t:TA):TS:=λ_ σ H=>t σ H λvs H1=>vs.length<=sizeLine/\E (.ref C) ae H1
theorem Zg{C:aj}{E:XK}{x:Str}{np c6 pos:Pos}{e:bo}{es:List bo}{t:TA}(hx:Lb X E)(hc:X.calm=true)(q:W.excIn X.K C iH "ValueError.__new__" = true)(hg:Gl X x)(hm:X.mg x=aa (.ref C))(ha:PA X (e::es) t)
  (i8:(x==("__debug__" : Str))=false:=by decide) (he:av (e::es) X.env=(false,eval e X.env)::av es X.env:=by rfl) (gm:(bJ c6 (av es X.env)).any (·.1)=false:=by rfl) :
  PS X (.Raise (aa (.Call (.Name x np) (e::es) [] c6)) ae pos) (Zf C E t):=by
 intro ag s σ H D I h;obtain⟨bm,N,nm,qn,bs,hdct,sn,sub,ab,col,dd,k0,k1,k2,k3,k5,mN,hC,hN,AJ,T⟩:=Zd I.ok.mod.Cj q;refine wpAny_Raise_call_subT (C:=C) (nm:=nm) (q:=qn) (N:=N) (bs:=bs) (bm:=bm) (hdct:=hdct) (sn:=sn) (sub:=sub) (ab:=ab) (col:=col) (dd:=dd) (k0:=k0) (k1:=k1) (k2:=k2) (k3:=k3) (k5:=k5)
  dH (mN:=mN) (T.hasType dH.hasBase) (I.ok.hd hc) (by rw[he];show(false || (bJ c6 (av es X.env)).any (·.1))=false;rw[gm];rfl) AJ (xj I hg hm ⟨rfl,?_⟩ i8)
 have a:=ha c6 ag s σ H _ I h;rw[he] at a ⊢;exact gX (dm a λus s2 ⟨vs,H2,I2,r,l,z⟩=>⟨rfl,by show us.length<=sizeLine;rw[<- r.length];exact l,I2.bk _ _ hC,hN.keeps I2.bk,T.keeps I2.bk,λh' ea mk=>hx ag σ H2 s2 ea C us h' I2 mk z⟩)
abbrev Cx.ky(X:Cx)(pn:List (aj×Obj))(kn:St)(xe:af->ar->Prop):Cx:={ X with pn:=pn,kn:=kn,xe:=xe }
abbrev Cx.gO(X:Cx)(ea:aj):Cx:={ X with A:=X.A.mark (aa (.ref ea)),calm:=false,xe:=λ_ _=>False }
theorem Cx.Ok.ky(ok:X.Ok)(pn:List (aj×Obj))(kn:St)(xe:af->ar->Prop):(X.ky pn kn xe).Ok:=
 ⟨ok.mod,ok.kind,ok.glob,ok.blt,ok.above,ok.inj,ok.has,ok.DX,ok.hd,ok.frames,ok.GL,ok.GN,ok.bs,ok.xh,ok.vf,ok.tS,ok.mI,ok.Aj⟩
theorem Cx.Ok.gO(ok:X.Ok)(ea:aj):(X.gO ea).Ok:=
 ⟨ok.mod,ok.kind,ok.glob,ok.blt,ok.above,ok.inj,ok.has,ok.DX,(λh=>nomatch h),ok.frames,ok.GL,ok.GN,ok.bs,ok.xh,ok.vf,ok.tS,ok.mI,ok.Aj⟩
theorem Inv.gO{ag:List (aj×Obj)}{σ:St}{H:Hp}{s:ar}(I:Inv X ag σ H s)(ea:aj):Inv (X.gO ea) ag σ H s:=
 ⟨I.ok.gO ea,I.os,I.bare,I.base,I.loc,I.cell,I.free,I.iq,I.pin,I.cB,I.len,I.kn⟩
theorem Inv.jL{ag:List (aj×Obj)}{σ:St}{H:Hp}{s:ar}{ea:aj}(ok:X.Ok)(I:Inv (X.gO ea) ag σ H s):Inv X ag σ H s:=
 ⟨ok,I.os,I.bare,I.base,I.loc,I.cell,I.free,I.iq,I.pin,I.cB,I.len,I.kn⟩
theorem jY.there{P:aX}{w:bB}{H:Hp}{h:bO}{a:aj}{o:HO}(x:jY P w H h a o):∃u,h.get? a=aa u:=by
 cases o with
 |lst xs=>obtain⟨_,_,_,_,e⟩:=x;exact⟨_,e⟩
 |tup xs=>obtain⟨_,_,_,ob,e,_⟩:=x;exact⟨_,e⟩
 |dK kvs=>obtain⟨_,_,_,_,o,_,_,e,_⟩:=x;exact⟨_,e⟩
 |dT kvs=>obtain⟨_,_,_,_,o,_,_,e,_⟩:=x;exact⟨_,e⟩
 |set S n=>obtain⟨o,_,_,_,e,_⟩:=x;exact⟨_,e⟩
 |ins C dx fs=>obtain⟨_,_,_,e,_⟩:=x;exact⟨_,e⟩
 |own y=>exact x
 |xd fs=>obtain⟨_,⟨_,_,_,e,_⟩,_⟩:=x;exact⟨_,e⟩
 |GJ lo hi=>obtain⟨_,_,_,e⟩:=x;exact⟨_,e⟩
 |dY ob u=>obtain⟨e,_⟩:=x;exact⟨_,e⟩
 |ve ps=>exact⟨_,(show h.get? a=aa _ from x)⟩
 |met f y=>exact⟨_,(show h.get? a=aa _ from x)⟩
 |ext φ=>exact x.2.1
abbrev vy:=af->Option aj->aj->Ends->St->Hp->Prop
def PH(X:Cx)(hs:List gf)(t:vy):Prop:=
 ∀ (ag:List (aj×Obj)) (s:ar) (σ:St) (H:Hp) (D:Ends) (ea:aj) (cls a0:af) (dx:Option aj) (B:bO),X.Ok->(∀h',B.StaysIn h'->s.heap.UpToSlots h'->Inv X ag σ H { s with heap:=h' }) ->
   (∀h' φ,B.StaysIn h'->s.heap.UpToSlots h'->jY X.prog X.w H h' ea (.ext φ)->Inv X ag σ (upd H ea (.ext φ)) { s with heap:=h' })->gA B X.stack ea cls a0 s.heap->(mL ea dx s.heap/\H ea=ae)->t cls dx ea D σ H->wpAny (aK X.prog X.w) X.A (yW (.ref ea) X.env hs) (SP X ag D) X.xe s
def Lf(K:W.Frag)(D:aj)(ts:TS)(tr:vy):vy:=λcls dx ea En σ H=>∃C tZ,cls=.ref C/\nX K C=aa tZ /\
 if(aO C::tZ).contains (.ref D)=true then ts En σ H else tr cls dx ea En σ H
theorem Zh{D:aj}{xw:List af}{x:Str}{np pos:Pos}{b₀:cm}{kz:List cm}{hU:List gf}{ts:TS}{tr:vy}(hg:Gl X x)(hm:X.mg x=aa (.ref D))(qD:nX X.K D=aa xw)
  (hs:∀ea,j9 (X.gO ea) (b₀::kz) ts) (hr:PH X hU tr) (i8:(x==("__debug__" : Str))=false:=by decide) :
  PH X (.ExceptHandler (aa (.Name x np)) ae (b₀::kz) pos::hU) (Lf X.K D ts tr):=by
 intro ag s σ H En ea cls a0 dx B ok vz pz nW hd h;obtain⟨C,tZ,rfl,qC,h⟩:=h;have I:Inv X ag σ H s:=vz s.heap nW.1 (.refl _);have I':=I.gO ea;obtain⟨oe,Lg,Co⟩:=nW.there;refine z_ (w9 ?_) (by intro q;cases q);refine xj (X:=X.gO ea) I' hg hm ?_ i8;refine Q2 I.jq qC qD Lg Co ?_;cases c:(aO C::tZ).contains (.ref D) with
 | false=>
   rw[c] at h;exact hr ag s σ H En ea _ a0 dx B ok vz pz nW hd (by simpa using h)
 | true=>
   rw[c] at h;have h:ts En σ H:=by simpa using h
   refine codeAny_handlers_suite (lands_againW nW λh6 t5 Ey=>?_);refine bF (hs ea ag { s with heap:=h6 } σ H En ((vz h6 t5.1 Ey).gO ea) h) (λf s2 q=>?_) λ_ _ z=>z.elim;cases f with
   |next=>obtain⟨a,b,c,d⟩:=q;exact⟨a,b,c.jL ok,d⟩
   |brk=>obtain⟨a,b,c,d⟩:=q;exact⟨a,b,c.jL ok,d⟩
   |cont=>obtain⟨a,b,c,d⟩:=q;exact⟨a,b,c.jL ok,d⟩
   |ret u=>obtain⟨v,a,b,c,d⟩:=q;exact⟨v,a,b,c.jL ok,d⟩
def Lh(X:Cx)(body:List cm)(th:vy):TS:=λD σ H=>∃(kn:St) (R:XK) (tb:TS),kn.length=σ.length/\(∀(i:Nat) (v:V),kn[i]?=aa (aa v)->σ[i]?=aa (aa v)) /\
 (∀(i:Nat) (v:V),X.kn[i]?=aa (aa v)->kn[i]?=aa (aa v)) /\
 (∀(pn:List (aj×Obj)) (xe:af->ar->Prop),oS (ee X.prog X.w) (X.ky pn kn xe) R->jd (aK X.prog X.w) X.A X.env xe->j9 (X.ky pn kn xe) body tb) /\
 tb D σ H/\∀cls dx ea H',R cls dx H'->th cls dx ea D kn H'
theorem Zi{body:List cm}{h₀:gf}{hs:List gf}{th:vy}{pos:Pos}(Zj:PH X (h₀::hs) th)(dI:X.stack=X.env::X.outer:=by rfl)(Li:X.env.frame=aa X.env.locals:=by rfl) :
  PS X (.Try body (h₀::hs) [] [] pos) (Lh X body th):=by
 intro ag s σ H D I h;obtain⟨kn,R,tb,hl,hk,ro,hb,h,Zk⟩:=h;refine wpAny_Try_except ?_;have own:=PassesOwn.looking (M:=aK X.prog X.w) (A:=X.A) (env:=X.env) (E₁:=X.xe) (K:=λe s₂=>wpAny (aK X.prog X.w) X.A (p_ e ae) (λ_ s₃=>wpAny (aK X.prog X.w) X.A (yW e X.env (h₀::hs)) (SP X ag D) X.xe s₃) X.xe s₂);have vA:∀{pn:List (aj×Obj)} {xe:af->ar->Prop} {ir:List (aj×Obj)} {σ':St} {H':Hp} {s':ar},(∀p∈X.pn++ag,p∈pn)->Inv (X.ky pn kn xe) ir σ' H' s'->Inv X ag σ' H' s':=λ{pn xe ir σ' H' s'} hp J=>
  ⟨I.ok,J.os,J.bare,J.base,J.loc,J.cell,J.free,J.iq,λp z=>J.pin p (bw _ (hp p z)),J.cB,J.len,λi v e=>J.kn i v (ro i v e)⟩
 have AK:oS (ee X.prog X.w) (X.ky (X.pn++ag) kn λe s₁=>wpAny (aK X.prog X.w) X.A (qd e X.env) (λ_ s₂=>wpAny (aK X.prog X.w) X.A (p_ e ae) (λ_ s₃=>wpAny (aK X.prog X.w) X.A (yW e X.env (h₀::hs)) (SP X ag D) X.xe s₃) X.xe s₂) X.xe s₁) R:=by
  intro ir σ' H1 s1 e s' I1 T;obtain⟨ea,cls,a0,B,H',dx,rfl,ho,zk,nW,cB,keep,slot,free,there,tups,frzs,tbls,hd,hE⟩:=T;have I2:Inv X ag kn H1 s1:=(vA (λ_ z=>z) I1).weak (by rw[hl,I.len];exact(I1.len).symm) (λi v e=>I1.kn i v e) ro;have vB:∀h',s'.heap.UpToSlots h'->∀b o,s1.heap.get? b=aa o->H1 b=ae->b∈j8 X.stack->∃sl,h'.get? b=aa { o with slots:=sl }:=λh' up b o e n hb=>by
   obtain⟨sl,e1⟩:=slot b o e n hb;obtain⟨o',e',nd⟩:=(nW.2.2.1.mem hb).2;rw[e1] at e';cases e';obtain⟨Ld,e2⟩:=up b _ e1 nd;exact⟨Ld,e2⟩
  have vC:∀h',B.StaysIn h'->s'.heap.UpToSlots h'->∀b o,s1.heap.get? b=aa o->∃o',h'.get? b=aa o':=λh' st up b o e=>by
   by_cases hb:b∈j8 X.stack
   .obtain⟨sl,e2⟩:=vB h' up b o e (I2.lB b hb) hb
    exact⟨_,e2⟩
   .obtain⟨o',e2⟩:=there b o e hb
    exact⟨o',st b o' e2⟩
  have vz:∀h',B.StaysIn h'->s'.heap.UpToSlots h'->Inv X ag kn H' { s' with heap:=h' }:=λh' st up=>
   I2.vg (s':={ s' with heap:=h' }) (ch:=[]) ho ⟨λb o e n hb _=>st b o (keep b o e n hb),λb o e n hb _=>vB h' up b o e n hb,λb o e n _=>free b o e n,λb o e _=>vC h' st up b o e,tups,frzs,tbls⟩ (cB.kept λb u z=>st b u z) zk (λ_ z=>nomatch z)
  have Q3:∀b u,H' b=aa u->b≠ea:=λb u z w=>by
   obtain⟨v,hv⟩:=(cB b u z).there;rw[w,nW.2.1] at hv;cases hv
  have pz:∀h' φ,B.StaysIn h'->s'.heap.UpToSlots h'->jY X.prog X.w H' h' ea (.ext φ)->Inv X ag kn (upd H' ea (.ext φ)) { s' with heap:=h' }:=λh' φ st up new=>by
   have kp:∀b u,H' b=aa u->upd H' ea (.ext φ) b=aa u:=λb u z=>by rw[c4 (Q3 b u z)];exact z
   refine I2.vg (s':={ s' with heap:=h' }) (ch:=[]) ho ⟨λb o e n hb _=>st b o (keep b o e n hb),λb o e n hb _=>vB h' up b o e n hb,λb o e n _=>?_,λb o e _=>vC h' st up b o e,
    λb xs e=>kp b _ (tups b xs e),λb o u e=>kp b _ (frzs b o u e),λb ps e=>let ⟨m,q⟩:=tbls b ps e;⟨m,kp b _ q⟩⟩ (λb u z=>?_) zk (λ_ z=>nomatch z)
   .rw[c4];exact free b o e n
    rintro rfl;by_cases hb:b∈j8 X.stack
    .obtain⟨oe,vs,ge,_,gd,_⟩:=nW.first
     obtain⟨o',e',nd⟩:=(nW.2.2.1.mem hb).2;rw[ge] at e';cases e';exact nd vs gd
    .have:=keep b o e n hb
     rw[nW.2.1] at this;cases this
   .by_cases hb:b=ea
    .subst hb;rw[fE] at z;cases z
     exact new
    .rw[c4 hb] at z
     exact(cB b u z).lU (λc v _ r=>st c v r) (λc r=>kp c _ r) λc xs r=>kp c _ r
  have Lj:X.A.frames=aa (X.env::X.outer):=dI▸I.ok.frames;have Ll:gA B (X.env::X.outer) ea cls a0 s'.heap:=dI▸nW;show wpAny (aK X.prog X.w) X.A (qd (.ref ea) X.env) _ _ _;refine bF (Cw QY hd (wpAny_looks_onW (Q:=λ_ s2=>∃h4,s2={ s' with heap:=h4 }/\Heap.HeldW B (X.env::X.outer) ea cls a0 X.env.locals h4/\iO s'.heap h4) Lj Li Ll λh4 vD Ht=>⟨h4,rfl,vD,Ht⟩)) (λ_ s2 z=>?_) λ_ _ z=>z.1;obtain⟨⟨h4,rfl,vD,Ht⟩,Zl⟩:=z;refine bF (Cw K9 Zl (wpAny_landsW (Q:=λ_ s2=>∃h5,s2={ s' with heap:=h5 }/\gA B (X.env::X.outer) ea cls a0 h5/\iO h4 h5) vD λh5 AL Hu=>⟨h5,rfl,AL,Hu⟩)) (λ_ s2 z=>?_) λ_ _ z=>z.1;obtain⟨⟨h5,rfl,AL,Hu⟩,Zm⟩:=z;exact Zj ag { s' with heap:=h5 } kn H' D ea cls a0 dx B I.ok (λh' st up=>vz h' st ((Ht.trans Hu).trans up)) (λh' φ st up new=>pz h' φ st ((Ht.trans Hu).trans up) new) (dI▸AL) ⟨Zm,by cases q:H' ea with|none=>rfl | some u=>exact absurd rfl (Q3 ea u q)⟩ (Zk cls dx ea H' hE)
 have I':Inv (X.ky (X.pn++ag) kn λe s₁=>wpAny (aK X.prog X.w) X.A (qd e X.env) (λ_ s₂=>wpAny (aK X.prog X.w) X.A (p_ e ae) (λ_ s₃=>wpAny (aK X.prog X.w) X.A (yW e X.env (h₀::hs)) (SP X ag D) X.xe s₃) X.xe s₂) X.xe s₁) [] σ H s:=
  ⟨I.ok.ky _ _ _,I.os,I.bare,I.base,I.loc,I.cell,I.free,I.iq,λp z=>I.pin p (by simpa using z),I.cB,I.len,hk⟩
 refine bF (hb _ _ AK own [] s σ H D I' h) (λf s1 q=>?_) λ_ _ z=>z;cases f with
 |next=>obtain⟨a,b,c,d⟩:=q;exact iY ⟨a,b,vA (λ_ z=>z) c,d⟩
 |brk=>obtain⟨a,b,c,d⟩:=q;exact⟨a,b,vA (λ_ z=>z) c,d⟩
 |cont=>obtain⟨a,b,c,d⟩:=q;exact⟨a,b,vA (λ_ z=>z) c,d⟩
 |ret u=>obtain⟨v,a,b,c,d⟩:=q;exact⟨v,a,b,vA (λ_ z=>z) c,d⟩
end
structure dr(K:W.Frag)(x qual:Str)(st:cm)(dV:af)(f:aj)(fd:bI):Prop where
 ex:∃(oc:af) (od:Option aj) (kV mZ pm:af) (an:Option aj) (gE ct:af) (rj:Array (Option af)),
  fd=W.fnOf x qual (qJ st) (nV st) (e_ st) dV kV mZ pm an gE ct/\K.lookup f=aa ⟨oc,od,.func fd,rj⟩/\W.codeIn K gE qual=true
 kp:W.keepIn K (.ref f)=true
section
variable {P:aX}{w:bB}{K:W.Frag}{mg:Str->Option af}{base:bO}
theorem Eu.toV{x qual:Str}{st:cm}{f:aj}{fd:bI}(F:Eu K x qual st f fd):dr K x qual st .none f fd:=⟨F.ex,F.kp⟩
theorem dr.Lm{x qual:Str}{st:cm}{dV:af}{f:aj}{fd:bI}{N ps:List Str}{k:Nat}{sp:Sp}(F:dr K x qual st dV f fd)(S:iw N ps (e_ st))(len:∀vs H Q E,sp vs H Q E->vs.length=ps.length)
  (lD:∀(gE:af) (A:cf) (outer:List Env) (s:ar) (H:Hp) (vs:List V) (Q:VK) (E:XK),d7 k (A.deeper (iC qual (e_ st) s.heap.objs.size f gE))->sp vs H Q E ->
   ∃t,j9 (fP (ee P w) P w K mg base N qual (e_ st) f gE A outer s H E) (nV st) t/\t { nx:=λ_ H'=>Q .bY H',rt:=Q } (start N vs) H):bW P w K mg base (ee P w) (k+1) f fd ps sp:=by
 obtain⟨oc,od,kV,mZ,pm,an,gE,ct,rj,rfl,lk,tT⟩:=F.ex;exact X_ lk tT S len λA outer s H vs Q E hr og=>lD gE A outer s H vs Q E hr og
theorem bW.calm{k:Nat}{f:aj}{fd:bI}{ps:List Str}{sp:Sp}(F:bW P w K mg base (ee P w) k f fd ps sp):bW P w K mg base Et k f fd ps (λvs H Q _=>sp vs H Q E0):=
 ⟨λvs H Q _ h=>F.len vs H Q E0 h,λA outer s H args us vs Q E hr e0 hb r h=>ja (F.run A outer s H args us vs Q E0 hr e0 hb r h) λres s' q=>by
  cases res with
  |ok fl=>cases fl<;>exact q
  | error e=>
    obtain⟨_,_,_,_,_,_,_,_,_,_,_,_,_,_,_,_,_,_,_,z⟩:=q;exact z⟩
end
section
variable {X:Cx}{ag:List (aj×Obj)}{σ:St}{H:Hp}{s:ar}{a:aj}
theorem Inv.swap{o1 o2:HO}(I:Inv X ag σ H s)(e:H a=aa o1)(n1:∀xs,o1≠.tup xs)(n2:∀x,o1≠.own x)(n3:∀ps,o1≠.ve ps)(hz:∀o u,X.H₀ a=aa (.dY o u)->o2=.dY o u)
  (new:jY X.prog X.w (upd H a o2) s.heap a o2):Inv X ag σ (upd H a o2) s:=by
 have hf:∀b,H b=ae->upd H a o2 b=ae:=λb n=>by rw[c4 (by rintro rfl;rw[e] at n;cases n)];exact n
 have tu:∀b xs,H b=aa (.tup xs)->upd H a o2 b=aa (.tup xs):=λb xs n=>by rw[c4 (by rintro rfl;rw[e] at n;exact n1 xs (bg n))];exact n
 refine⟨I.ok,I.os,I.bare,⟨I.base.keep,I.base.slot,λb o q n hx=>hf b (I.base.free b o q n hx),I.base.there,λb xs q=>tu b xs (I.base.tups b xs q),λb o u q=>?_,λb ps q=>?_⟩,I.loc,I.cell,hf _ I.free,λx c q=>hf c (I.iq x c q),λp hp=>?_,λb u q=>?_,I.len,I.kn⟩
 .by_cases hb:b=a
  .subst hb;rw[fE,hz o u q]
  .rw[c4 hb];exact I.base.frzs b o u q
 .obtain⟨m,q'⟩:=I.base.tbls b ps q
  exact⟨m,by rw[c4 (by rintro rfl;rw[e] at q';exact n3 _ (bg q'))];exact q'⟩
 .obtain⟨a1,a2,a3,a4,a5⟩:=I.pin p hp
  exact⟨a1,hf _ a2,a3,a4,a5⟩
 .by_cases hb:b=a
  .subst hb;rw[fE] at q;cases q;exact new
  .rw[c4 hb] at q
   exact(I.cB b u q).lU (λ_ _ _ z=>z) (λc z=>by rw[c4 (by rintro rfl;rw[e] at z;exact n2 _ (bg z))];exact z) tu
theorem Inv.freeze{kvs:List (b9×V)}(I:Inv X ag σ H s)(e:H a=aa (.dK kvs)):(∀o u,X.H₀ a≠aa (.dY o u))/\∃o,s.heap.get? a=aa o/\Inv X ag σ (upd H a (.dY o (.dK kvs))) s:=by
 have nf:∀o u,X.H₀ a≠aa (.dY o u):=λo u q=>by
  have z:=I.base.frzs a o u q;rw[e] at z;cases z
 obtain⟨z,y,vs,r,o,es,ep,q,c⟩:=I.cB a _ e;exact⟨nf,o,q,I.swap e (λ_ h=>nomatch h) (λ_ h=>nomatch h) (λ_ h=>nomatch h) (λo u q=>absurd q (nf o u)) ⟨q,z,y,vs,r,o,es,ep,q,c⟩⟩
theorem Inv.AM{o:Obj}{kvs:List (b9×V)}(I:Inv X ag σ H s)(nf:∀o u,X.H₀ a≠aa (.dY o u))(e:H a=aa (.dY o (.dK kvs))):Inv X ag σ (upd H a (.dK kvs)) s:=by
 obtain⟨_,z⟩:=I.cB a _ e;exact I.swap e (λ_ h=>nomatch h) (λ_ h=>nomatch h) (λ_ h=>nomatch h) (λo u q=>absurd q (nf o u)) z
theorem Inv.frozen{o:Obj}{kvs:List (b9×V)}{es:Array mE}{ep:Nat}(I:Inv X ag σ H s)(e:H a=aa (.dY o (.dK kvs)))(hd:o.data=.dict es ep) :
  kvs.length<=sizeLine/\(a==eM)=false/\∃vs,KV kvs vs/\s.heap.DictAt (jX X.prog X.w) a vs ep:=by
 obtain⟨q,z,y,vs,r,o',Ak,Al,q',c1,c2,c3⟩:=I.cB a _ e;rw[q] at q';cases q';rw[hd] at c2;cases c2;exact⟨z,y,vs,r,o,es,q,c1,hd,c3⟩
end
theorem KV.at{kvs:List (b9×V)}{vs:List (b9×af)}(r:KV kvs vs){i:Nat}{k:b9}{v:V}(e:kvs[i]?=aa (k,v)):∃u,vs[i]?=aa (k,u)/\RelV v u:=by
 induction r generalizing i with
 |nil=>simp at e
 | cons p t ih=>
   cases i with
   | zero=>
     simp at e;rename_i a b _ _;obtain⟨p1,p2⟩:=p;refine⟨b.2,?_,?_⟩
     .simp only[ck,eP]
      rw[e] at p1;exact Prod.ext p1.symm rfl
     .rw[e] at p2;exact p2
   | succ j=>
     obtain⟨u,h1,h2⟩:=ih (i:=j) (by simpa using e);exact⟨u,by simpa using h1,h2⟩
theorem Ln{P:aX}{w:bB}{k:b9}{u:af}(h:(jX P w).is k u=true):RelV (kV k) u:=by
 rcases tQ h with⟨i,t,rfl,rfl⟩ | ⟨x,t,rfl,rfl⟩
 .exact⟨t,rfl⟩
 .exact⟨t,rfl⟩
def AN(a:aj)(o:Obj)(kvs:List (b9×V)):It:=
 ⟨λi H=>H a=aa (.dY o (.dK kvs))/\i<kvs.length,λi H x H'=>∃p k v,kvs[i]?=aa (k,v)/\H p=ae/\x=.ref p/\H'=upd H p (.tup [kV k,v]),λi H=>H a=aa (.dY o (.dK kvs))/\kvs.length<=i⟩
def AO(a:aj)(o:Obj)(kvs:List (b9×V)):It:=
 ⟨λi H=>H a=aa (.dY o (.dK kvs))/\i<kvs.length,λi H x H'=>∃k v,kvs[i]?=aa (k,v)/\x=kV k/\H'=H,λi H=>H a=aa (.dY o (.dK kvs))/\kvs.length<=i⟩
theorem Zn {P:aX} {w:bB} {K:W.Frag} {pA:List bo} {kk:Nat} {tp:Pos} {a it:aj} {o:Obj} {es:Array mE} {ep:Nat} {kvs:List (b9×V)} (hd:o.data=.dict es ep) :
  qG P w K (.Tuple pA kk tp) (AN a o kvs) [it] it (λi h=>∃ok ov,IsItemIter h it a i kvs.length ep ok ov) where
 mem:=by simp
 obj:=λi h ⟨ok,ov,e⟩ b hb=>by
  obtain rfl:b=it:=by simpa using hb
  exact⟨_,e,(λv z=>nomatch z)⟩
 keep:=λi h h' ⟨ok,ov,e⟩ k=>⟨ok,ov,k it (by simp) _ e⟩
 item:=by
  intro X e1 e2 e3 hc i ag s σ H E I fp ⟨ok,ov,e⟩ ⟨hz,hi⟩;subst e1 e2 e3;obtain⟨f1,f2,f3,f4,f5,f6⟩:=fp it (by simp);obtain⟨zl,_,vs,r,da⟩:=I.frozen hz hd;obtain⟨⟨k,v⟩,hk⟩:∃p,kvs[i]?=aa p:=⟨kvs[i],by simp[hi]⟩;obtain⟨u,hu,ru⟩:=r.at hk;have hl:vs.length=kvs.length:=r.length.symm;refine wpAny_pyNext_items_item (knd:=jX X.prog X.w) (kvs:=vs) (ok:=ok) (ov:=ov) (by rw[hl];exact e) da hu λkey h1 vk io ht hsz keep=>⟨_,rfl,?_⟩;refine wpAny_letOwnedTupleGo_items (i:=i+1) (n:=vs.length) io λh2 Zo sb=>?_;have hp:s.heap.objs.size≠it:=jR (aD e);have I1:Inv X ag σ (upd H s.heap.objs.size (.tup [kV k,v])) { s with heap:=s.heap.push { cls:=.type "tuple",data:=.seq #[key,u] } }:=
   I.laid (t':=s.toks) (λb q z=>aA _ z) (az _) ⟨by show 2<=sizeLine;decide,[key,u],.cons (Ln vk) (.cons ru .nil),_,bj _ rfl,rfl,_,rfl⟩
  have I2:=I1.turned (h':=h2) (t':=s.toks) (it:=it) (λb q hb z=>by
   refine sb.extBut b q hb ?_;by_cases Q4:b=s.heap.objs.size
   .rw[Q4] at z ⊢
    rw[bj _ rfl] at z;cases z;exact ht
   .exact keep b q hb (by
     have:=aD z;rw[gw] at this;have lt:b<s.heap.objs.size:=Nat.lt_of_le_of_ne (Nat.le_of_lt_succ this) Q4;cases z':s.heap.get? b with
     |some q'=>rw[aA _ z'] at z;exact z
     | none=>
       exfalso;have:(s.heap.push { cls:=.type "tuple",data:=.seq #[key,u] }).get? b=ae:=by
        simp only[Heap.get?,Heap.push] at z' ⊢;rw[Array.getElem?_push_lt lt];rw[o_ lt] at z';exact z'
       rw[this] at z;cases z)) (by rw[c4 (bZ hp)];exact f1) f2 f4 f5 f6
  exact⟨.ref s.heap.objs.size,_,I2,rfl,⟨_,k,v,hk,I.cB.fresh (az _),rfl,rfl⟩,⟨_,_,by rw[<- hl];exact Zo⟩,λb hb=>by
   obtain rfl:b=it:=by simpa using hb
   rw[c4 (bZ hp)];exact f1⟩
 done:=by
  intro X e1 e2 e3 hc i ag s σ H E I fp ⟨ok,ov,e⟩ ⟨hz,hi⟩;subst e1 e2 e3;obtain⟨f1,f2,f3,f4,f5,f6⟩:=fp it (by simp);obtain⟨zl,_,vs,r,da⟩:=I.frozen hz hd;have hl:vs.length=kvs.length:=r.length.symm;exact wpAny_pyNext_items_end (knd:=jX X.prog X.w) (kvs:=vs) (ok:=ok) (ov:=ov) (I.ok.hd hc) (by rw[hl];exact e) da (qf.mpr (by omega)) λh' hx=>⟨rfl,I.turned (t':=s.toks) (λb q hb z=>hx b q hb z) f1 f2 f4 f5 f6⟩
 self:=λA i s Q E ⟨ok,ov,e⟩ h=>W.kcp_self e h
theorem Zp{P:aX}{w:bB}{K:W.Frag}{tg:bo}{a it:aj}{o:Obj}{es:Array mE}{ep:Nat}{kvs:List (b9×V)}(hd:o.data=.dict es ep) :
  qG P w K tg (AO a o kvs) [it] it (λi h=>h.IsKeyIter it a i kvs.length ep) where
 mem:=by simp
 obj:=λi h ⟨q,e,c,d⟩ b hb=>by
  obtain rfl:b=it:=by simpa using hb
  exact⟨_,e,λv z=>by rw[d] at z;cases z⟩
 keep:=λi h h' ⟨q,e,c⟩ k=>⟨q,k it (by simp) _ e,c⟩
 item:=by
  intro X e1 e2 e3 hc i ag s σ H E I fp e ⟨hz,hi⟩;subst e1 e2 e3;obtain⟨f1,f2,f3,f4,f5,f6⟩:=fp it (by simp);obtain⟨zl,_,vs,r,da⟩:=I.frozen hz hd;obtain⟨⟨k,v⟩,hk⟩:∃p,kvs[i]?=aa p:=⟨kvs[i],by simp[hi]⟩;obtain⟨u,hu,ru⟩:=r.at hk;have hl:vs.length=kvs.length:=r.length.symm;refine wpAny_pyNext_dict_item (knd:=jX X.prog X.w) (kvs:=vs) (by rw[hl];exact e) da hu λkey h1 vk io sb=>⟨_,rfl,?_⟩;have I2:Inv X ag σ H { s with heap:=h1 }:=I.turned (h':=h1) (t':=s.toks) (it:=it) (λb q hb z=>sb.extBut b q hb z) f1 f2 f4 f5 f6;refine JU io ⟨kV k,H,I2,Ln vk,⟨k,v,hk,rfl,rfl⟩,by rw[<- hl];exact io,λb hb=>?_⟩;obtain rfl:b=it:=by simpa using hb
  exact f1
 done:=by
  intro X e1 e2 e3 hc i ag s σ H E I fp e ⟨hz,hi⟩;subst e1 e2 e3;obtain⟨f1,f2,f3,f4,f5,f6⟩:=fp it (by simp);obtain⟨zl,_,vs,r,da⟩:=I.frozen hz hd;have hl:vs.length=kvs.length:=r.length.symm;exact wpAny_pyNext_dict_end (knd:=jX X.prog X.w) (kvs:=vs) (I.ok.hd hc) (by rw[hl];exact e) da (qf.mpr (by omega)) λh' hx=>⟨rfl,I.turned (t':=s.toks) (λb q hb z=>hx b q hb z) f1 f2 f4 f5 f6⟩
 self:=λA i s Q E e h=>wpAny_pyIter_keyiter e h
section
variable {X:Cx}{tg:bo}
def Zq(X:Cx)(te:TE):TI:=fun σ H R=>te σ H λx H1=>∃a kvs,x=.ref a /\
 ((H1 a=aa (.dK kvs)/\∀o,(∀o' u,X.H₀ a≠aa (.dY o' u))->R (AN a o kvs) (upd H1 a (.dY o (.dK kvs))))\/∃o,H1 a=aa (.dY o (.dK kvs))/\R (AN a o kvs) H1)
def Q5(X:Cx)(te:TE):TI:=fun σ H R=>te σ H λx H1=>∃a kvs,x=.ref a /\
 ((H1 a=aa (.dK kvs)/\∀o,(∀o' u,X.H₀ a≠aa (.dY o' u))->R (AO a o kvs) (upd H1 a (.dY o (.dK kvs))))\/∃o,H1 a=aa (.dY o (.dK kvs))/\R (AO a o kvs) H1)
theorem Q6{ag:List (aj×Obj)}{σ:St}{H:Hp}{s:ar}{a:aj}{o:Obj}{kvs:List (b9×V)}(I:Inv X ag σ H s)(e:H a=aa (.dY o (.dK kvs))):s.heap.get? a=aa o/\∃es ep,o.data=.dict es ep:=by
 obtain⟨q,z,y,vs,r,o',Ak,Al,q',c1,c2,c3⟩:=I.cB a _ e;rw[q] at q';cases q';exact⟨q,Ak,Al,c2⟩
theorem Lo{l:bo}{tl:TE}(hl:PE X l tl):PI X tg l (Q5 X tl):=by
 intro ag s σ H R I h;refine dm (hl ag s σ H _ I h) λu s1 cN=>?_;obtain⟨x,H1,I1,r1,a,kvs,e,q⟩:=cN;subst e;obtain rfl:u=aO a:=r1;have go:∀(o:Obj) (H2:Hp),Inv X ag σ H2 s1->H2 a=aa (.dY o (.dK kvs))->R (AO a o kvs) H2->wpAny (aK X.prog X.w) X.A (B7 (.ref a)) (GZ X ag σ tg R) X.xe s1:=λo H2 I2 e2 q2=>by
  obtain⟨g,es,ep,hd⟩:=Q6 I2 e2;obtain⟨zl,zm,vs,r,da⟩:=I2.frozen e2 hd;have c5:vs.length=kvs.length:=r.length.symm;refine wpAny_pyIter_dict (knd:=jX X.prog X.w) zm da ?_;have I3:=I2.kept (h':=s1.heap.push { cls:=.type "dict_keyiterator",data:=.fields #[.ref a,.int 0 0,.int vs.length 0,.int ep 0] }) (t':=s1.toks) λb q z=>aA _ z;refine⟨s1.heap.objs.size,[s1.heap.objs.size],_,AO a o kvs,H2,rfl,I3,Zp hd,⟨_,bj _ rfl,rfl,by rw[c5];rfl⟩,λb hb=>?_,q2⟩;obtain rfl:b=s1.heap.objs.size:=by simpa using hb
  exact I2.xl (az _) (I2.cB.fresh (az _))
 rcases q with⟨e1,q⟩ | ⟨o,e1,q⟩
 .obtain⟨nf,o,g,I2⟩:=I1.freeze e1
  exact go o _ I2 fE (q o nf)
 .exact go o _ I1 e1 q
theorem Q7{l:bo}{tl:TE}{pA:List bo}{kk:Nat}{tp cC c6:Pos}(hl:PE X l tl)(eQ:bU l "items" X.env (eval l X.env)=eval l X.env:=by rfl)(eR:(cC.endLine==c6.line)=true:=by rfl) :
  PI X (.Tuple pA kk tp) (.Call (.Attribute l "items" cC) [] [] c6) (Zq X tl):=by
 intro ag s σ H R I h;refine u_ eQ eR (dm (hl ag s σ H _ I h) λu s1 cN=>?_);obtain⟨x,H1,I1,r1,a,kvs,e,q⟩:=cN;subst e;obtain rfl:u=aO a:=r1;have go:∀(o:Obj) (H2:Hp),Inv X ag σ H2 s1->H2 a=aa (.dY o (.dK kvs))->R (AN a o kvs) H2->MethodOn X.prog X.w X.A "items" c6 (.ref a) [] (λv s2=>wpAny (aK X.prog X.w) X.A (B7 v) (GZ X ag σ (.Tuple pA kk tp) R) X.xe s2) X.xe s1:=λo H2 I2 e2 q2=>by
  obtain⟨g,es,ep,hd⟩:=Q6 I2 e2;obtain⟨zl,zm,vs,r,da⟩:=I2.frozen e2 hd;have c5:vs.length=kvs.length:=r.length.symm;obtain⟨t1,t2,_⟩:=QG I2 (.inl ⟨kvs,.inr ⟨o,e2⟩⟩);refine⟨"dict",_,o8,pe,PySem.F.type_dict_items,t1,t2,gc rfl (tN ?_)⟩;refine wo pe t1 PySem.F.entry_dict_items (PySem.F.args_dict_items_1 _) (meets_dict_items (jX X.prog X.w) a zm) ⟨⟨vs,da.dictOf⟩,?_⟩;have I3:=I2.kept (h':=s1.heap.push { cls:=.type "dict_items",data:=.fields #[.ref a] }) (t':=s1.toks) λb q z=>aA _ z;refine wpAny_pyIter_items (d:=a) (kvs:=vs) (ep:=ep) (knd:=jX X.prog X.w) ⟨_,bj _ rfl,rfl,rfl⟩ (da.push _) ?_;have I4:=I3.kept (h':=(s1.heap.push { cls:=.type "dict_items",data:=.fields #[.ref a] }).push { cls:=.type "dict_itemiterator",data:=.fields #[.none,.bool false,.ref a,.int 0 0,.int vs.length 0,.int ep 0,.none,.none] }) (t':=s1.toks) λb q z=>aA _ z;refine⟨_,[_],_,AN a o kvs,H2,rfl,I4,Zn hd,⟨.none,.none,by rw[<- c5];exact bj _ rfl⟩,λb hb=>?_,q2⟩;rw[ai.mp hb];exact I3.xl (az _) (I3.cB.fresh (az _))
 rcases q with⟨e1,q⟩ | ⟨o,e1,q⟩
 .obtain⟨nf,o,g,I2⟩:=I1.freeze e1
  exact go o _ I2 fE (q o nf)
 .exact go o _ I1 e1 q
def Th(X:Cx)(H:Hp)(R:Hp->Prop):Prop:=∃a o kvs,H a=aa (.dY o (.dK kvs))/\(∀o' u,X.H₀ a≠aa (.dY o' u))/\R (upd H a (.dK kvs))
theorem Q8{st:cm}{t:TS}(h:PS X st t):PS X st (λD σ H=>t { D with nx:=fun σ' H'=>Th X H' λoV=>D.nx σ' oV,rt:=λv H'=>Th X H' λoV=>D.rt v oV } σ H):=by
 intro ag s σ H D I q;refine dm (h ag s σ H _ I q) λf s1 z=>?_;cases f with
 |next=>obtain⟨σ1,H1,I1,a,o,kvs,e,nf,r⟩:=z;exact⟨σ1,_,I1.AM nf e,r⟩
 |ret u=>obtain⟨v,σ1,H1,I1,rv,a,o,kvs,e,nf,r⟩:=z;exact⟨v,σ1,_,I1.AM nf e,rv,r⟩
 |brk=>exact z
 |cont=>exact z
theorem Zr{e:bo}{t:TE}(h:PE X e t):PE X e (fun σ H Q=>t σ H λv H'=>Th X H' λoV=>Q v oV):=by
 intro ag s σ H Q I q;refine dm (h ag s σ H _ I q) λu s1 z=>?_;obtain⟨v,H1,I1,rv,a,o,kvs,e,nf,r⟩:=z;exact⟨v,_,I1.AM nf e,rv,r⟩
end
def zo(X:Cx)(scope:ig)(cl:List (Str×aj)):List Str->List Nat->Prop
 |[],[]=>True
 |x::xs,j::js=>(X.N[j]?=aa x/\Ai X.env.scope x/\(X.env.kindOf x=aa .cell\/X.env.kindOf x=aa .free)/\((k6 scope X.env).names.lookup x=aa .cell\/(k6 scope X.env).names.lookup x=aa .free)/\cl.lookup x=X.env.cells.lookup x)/\zo X scope cl xs js
 |_,_=>False
def zp(σ:St)(js:List Nat):St:=js.map λj=>(σ[j]?).join
theorem zo.len{X:Cx}{scope:ig}{cl:List (Str×aj)}:∀{xs:List Str} {js:List Nat},zo X scope cl xs js->xs.length=js.length
 |[],[],_=>rfl
 |_::xs,_::js,h=>by simp[zo.len h.2]
theorem zo.get{X:Cx}{scope:ig}{cl:List (Str×aj)}:∀{xs:List Str} {js:List Nat} {k:Nat} {x:Str},zo X scope cl xs js->xs[k]?=aa x->∃j,js[k]?=aa j/\X.N[j]?=aa x/\Ai X.env.scope x /\
  (X.env.kindOf x=aa .cell\/X.env.kindOf x=aa .free)/\((k6 scope X.env).names.lookup x=aa .cell\/(k6 scope X.env).names.lookup x=aa .free)/\cl.lookup x=X.env.cells.lookup x
 |[],[],_,_,_,e=>by simp at e
 | y::xs,j::js,0,x,h,e=>by
   simp at e;subst e;exact⟨j,rfl,h.1⟩
 | y::xs,j::js,k+1,x,h,e=>by
   obtain⟨j',h1,h2⟩:=zo.get (k:=k) h.2 (by simpa using e);exact⟨j',by simpa using h1,h2⟩
abbrev iN(X:Cx)(scope:ig)(cl:List (Str×aj))(N':List Str)(fp:List aj)(s3:ar)(H2:Hp):Cx:=
 { X with N:=N',s₀:=s3,H₀:=H2,env:=mo scope cl s3.heap.objs.size X.env,outer:=X.stack,stack:=X.stack,ex:=fp,fn:=λ_=>false,pn:=[],xe:=λ_ _=>False,kn:=[] }
structure uM(X:Cx)(scope:ig)(cl:List (Str×aj))(ts xs:List Str)(js:List Nat):Prop where
 t6:closureFor scope X.env=pure cl
 vE:∀y∈scope.names,y.2≠.cell
 kind:scope.kind=.function
 names:∀y∈scope.names,y.2=.local->scope.names.lookup y.1=aa .local
 sub:∀p∈cl,X.env.cells.lookup p.1=aa p.2
 has:(scope.names.filter λy=>y.2==.free).all (λy=>(cl.map (·.1)).contains y.1)=true
 Ez:zo X scope cl xs js
def xx:TT:=λ_ H Q=>Q true H
def Hv(p:aj)(J:It)(g:TG)(tc:TT)(te:TE)(Q:VK)(W:Nat->Nat->St->Hp->List V->Prop):Prop:=
 ∀ i m σ2 H2 acc,W i m σ2 H2 acc->H2 p=aa (.lst acc)/\((J.stop i H2/\Q (.ref p) H2)\/(J.go i H2/\∃N:St->Hp->List V->Prop,(∀σ' H' lE,N σ' H' lE->∃m',m'<m/\W (i+1) m' σ' H' lE)/\∀x H3,J.GY i H2 x H3->g x σ2 H3 fun σ4 H4=>tc σ4 H4 λok H5=>
     if ok=true then te σ4 H5 λy H6=>H6 p=aa (.lst acc)/\acc.length<sizeLine/\N σ4 (upd H6 p (.lst (acc++[y]))) (acc++[y]) else N σ4 H5 acc))
def AQ(nt:Nat)(js:List Nat)(wi:TI)(g:TG)(tc:TT)(te:TE):TE:=fun σ H Q=>wi σ H λJ H1=>∀p,H1 p=ae ->
 ∃W:Nat->Nat->St->Hp->List V->Prop,(∃m,W 0 m (aT nt ae++zp σ js) (upd H1 p (.lst [])) [])/\Hv p J g tc te Q W
section
variable {X:Cx}{ag:List (aj×Obj)}{σ:St}{H1:Hp}{s2:ar}{scope:ig}{cl:List (Str×aj)}{ts xs:List Str}{js:List Nat}{fp:List aj}{it:aj}{tn:Nat->bO->Prop}{J:It}{tg:bo}
theorem Q9{s3:ar}{h4:bO}{tk:Nat}{H2:Hp}(C:uM X scope cl ts xs js)(I3:Inv X ag σ H2 s3)(fo:∀b∈fp,kN X ag H2 b)(fl:∀b∈fp,b<s3.heap.objs.size)
  (ns:∃m,h4.Ns s3.heap.objs.size m) (k:∀b o,s3.heap.get? b=aa o->h4.get? b=aa o) :
  Inv (iN X scope cl (ts++xs) fp s3 H2) [] (aT ts.length ae++zp σ js) H2 { s3 with heap:=h4,toks:=tk }:=by
 have lk:∀x c,cl.lookup x=aa c->X.env.cells.lookup x=aa c:=λx c e=>C.sub (x,c) (cZ e);have clt:∀x c,X.env.cells.lookup x=aa c->c<s3.heap.objs.size:=λx c e=>by
  obtain⟨v,o,ho,_⟩:=I3.cell x c e;exact aD ho
 have Lp:∀x,((k6 scope X.env).names.lookup x=aa .cell\/(k6 scope X.env).names.lookup x=aa .free)->∃c,cl.lookup x=aa c:=λx h=>by
  have sV:(x,NameKind.free)∈scope.names:=by
   obtain⟨k,hk,hm⟩:∃k,(k=.cell\/k=.free)/\(x,k)∈(k6 scope X.env).names:=by
    rcases h with h | h
    .exact⟨_,.inl rfl,cZ h⟩
    .exact⟨_,.inr rfl,cZ h⟩
   obtain⟨⟨n,k'⟩,qj,e⟩:=aq.mp hm;have nc:=C.vE _ qj;dsimp only at e nc
   split at e
   .rename_i c
    cases e;simp only[b8,beq_iff_eq] at c;rw[<- c.1.1];exact qj
   .cases e
    rcases hk with rfl | rfl
    .exact absurd rfl nc
    .exact qj
  have q:=m_.mp C.has _ (bh.mpr ⟨sV,rfl⟩);have q:x∈cl.map (·.1):=by simpa using q
  obtain⟨⟨y,c⟩,hy,rfl⟩:=aq.mp q;cases z:cl.lookup y with
  |some c'=>exact⟨c',rfl⟩
  | none=>
    exfalso;have:=List.lookup_eq_none_iff.mp z (y,c) hy;simp at this
 obtain⟨m,hm⟩:=ns;refine⟨⟨I3.ok.mod,C.kind,I3.ok.glob,I3.ok.blt,az _,λx y c h1 h2=>I3.ok.inj x y c (lk x c h1) (lk y c h2),λx h=>Lp x h,(λx c h=>nomatch h),I3.ok.hd,I3.ok.frames,.inl rfl,λb hb=>⟨aS (fl b hb),λx c e=>(fo b hb).2.2.2.2.1 x c (lk x c e)⟩,
   I3.bs,bt I3.ok.xh I3.sz,λb o e hb=>?_,λb hb hf=>?_,I3.stack,I3.lB⟩,
  rfl,I3.bare,Un.kept k,⟨m,hm,λi x v e1 e2 e3=>?_⟩,λx c e=>?_,I3.cB.fresh (az _),λx c e=>I3.iq x c (lk x c e),λp hp=>absurd hp (by simp),I3.cB.kept k,?_,(λi v e=>nomatch (show(ae:Option (Option V))=aa (aa v) from e))⟩
 .rcases(fo b hb).2.2.2.1 with z | z
  .exact I3.ok.vf b o e z
  .exact absurd (ax (aD (I3.ok.bs b o e).1) z) (cQ _)
 .rcases aF.mp (I3.rN b hf) with z | z
  .exact(fo b hb).2.1 z
  .exact(fo b hb).2.2.1 z
 .by_cases hi:i<ts.length
  .rw[aw (by simpa using hi),rh] at e2
   split at e2<;>cases e2
  .have hi:ts.length<=i:=Nat.not_lt.mp hi
   rw[bE hi] at e1;rw[bE (by simpa using hi),ft] at e2;obtain⟨j,hj,hN,hv,hk,ro,hc⟩:=C.Ez.get e1;unfold zp at e2;rw[bH,hj] at e2;have e2:(σ[j]?).join=aa v:=by simpa using e2
   have e4:σ[j]?=aa (aa v):=by
    cases q:σ[j]? with
    |none=>rw[q] at e2;cases e2
    |some o=>rw[q] at e2;exact congrArg aa e2
   obtain⟨m0,_,hl⟩:=I3.loc;obtain⟨u,ru,l⟩:=hl j x v hN e4 hv;refine⟨u,ru,.inr ⟨ro,?_⟩⟩;rcases l with⟨z,_⟩ | ⟨_,c,ec,cc⟩
   .rcases hk with hk | hk<;>(rw[z] at hk;cases hk)
   .obtain⟨oc,ho,hd⟩:=cc
    exact⟨c,hc.trans ec,oc,k _ _ ho,hd⟩
 .obtain⟨v,o,ho,hd⟩:=I3.cell x c (lk x c e)
  exact⟨v,o,k _ _ ho,hd⟩
 .show(aT ts.length ae++zp σ js).length=(ts++xs).length
  rw[aB,ft,aB,C.Ez.len];simp[zp]
theorem Q_{s3:ar}{H2 H':Hp}{s':ar}{σ':St}(I3:Inv X ag σ H2 s3)(fo:∀b∈fp,kN X ag H2 b)(Ic:Inv (iN X scope cl (ts++xs) fp s3 H2) [] σ' H' s') :
  Inv X ag σ H' s'/\(∃m,s'.heap.Ns s3.heap.objs.size m)/\H' s3.heap.objs.size=ae:=
 ⟨I3.vg Ic.os Ic.base Ic.cB Ic.bare λb hb=>let ⟨_,f2,_,f4,f5,f6⟩:=fo b hb;⟨f4,f2,f5,f6⟩,let ⟨m,hm,_⟩:=Ic.loc;⟨m,hm⟩,Ic.free⟩
variable {jz iter c:bo}{pos:Pos}{g:TG}{tc:TT}{te:TE}{Q:VK}
def EA(Xc:Cx)(fp:List aj)(tn:Nat->bO->Prop)(W:Nat->Nat->St->Hp->List V->Prop)(n:Nat)(s':ar):Prop:=
 ∃i σ' H' acc,Inv Xc [] σ' H' s'/\tn i s'.heap/\(∀b∈fp,H' b=ae)/\W i n σ' H' acc
theorem Ra{Xc:Cx}{p:aj}{W:Nat->Nat->St->Hp->List V->Prop}{n:Nat}{s':ar}{E:af->ar->Prop}{R:Option af->ar->Prop}(hc:Xc.calm=true)(T:qG Xc.prog Xc.w Xc.K tg J fp it tn)(go:Hv p J g tc te Q W)
  (hg:PG Xc tg g) (Zs:Xc.xe=λ_ _=>False) (fo:∀{H':Hp} {b:aj},H' b=ae->b∈fp->kN Xc [] H' b) (h:EA Xc fp tn W n s')
  (AR:∀σ' H' s1,Inv Xc [] σ' H' s1->Q (.ref p) H'->R ae s1)
  (EB:∀v s1,wpAny (aK Xc.prog Xc.w) Xc.A (k_ tg (.ref it) v) (λ_ s2=>wpAny (aK Xc.prog Xc.w) Xc.A (kW tg Xc.env v) (λ_ s3=>∃(i:Nat) (ag:List (aj×Obj)) (acc:List V) (σ4:St) (H4:Hp) (N:St->Hp->List V->Prop),Inv Xc ag σ4 H4 s3/\(∀σ' H' lE,N σ' H' lE->∃m',m'<n/\W (i+1) m' σ' H' lE) /\
   (∀b∈fp,∃o,(b,o)∈ag/\s3.heap.get? b=aa o)/\(∀h',(∀b∈fp,∀o,s3.heap.get? b=aa o->h'.get? b=aa o)->tn (i+1) h') /\
   tc σ4 H4 λok H5=>if ok=true then te σ4 H5 λy H6=>H6 p=aa (.lst acc)/\acc.length<sizeLine/\N σ4 (upd H6 p (.lst (acc++[y]))) (acc++[y]) else N σ4 H5 acc) E s2) E s1->R (aa v) s1) :
  wpAny (aK Xc.prog Xc.w) Xc.A (pyNext (.ref it)) R E s':=by
 obtain⟨i,σ',H',acc,I,st,fr,w⟩:=h;obtain⟨hp,cs⟩:=go i n σ' H' acc w;rcases cs with⟨stop,q⟩ | ⟨gg,N,hN,step⟩
 .refine dm (T.done Xc rfl rfl rfl hc i [] s' σ' H' E I (λb hb=>fo (fr b hb) hb) st stop) λr s1 cN=>?_
  obtain⟨hr,I1⟩:=cN;subst hr;exact AR σ' H' s1 I1 q
 .refine dm (T.item Xc rfl rfl rfl hc i [] s' σ' H' E I (λb hb=>fo (fr b hb) hb) st gg) λr s1 cN=>?_
  obtain⟨u,hr,h1⟩:=cN;subst hr;refine EB u s1 (dm h1 λ_ s2 cN=>?_);obtain⟨x,H3,I3,r3,y3,Cs,Hc⟩:=cN;have Zt:=I3.pinned (λb hb=>fo (Hc b hb) hb) (T.obj _ _ Cs);refine bF (hg _ s2 σ' H3 x u _ Zt r3 (step x H3 y3)) (λ_ s3 ⟨σ4,H4,I4,q4⟩=>?_) λe s z=>by rw[Zs] at z;exact z.elim
  have pn:∀b∈fp,∀o,s2.heap.get? b=aa o->s3.heap.get? b=aa o:=λb hb o e=>(I4.pin (b,o) (bp _ (bp _ (Hb hb e)))).1;refine⟨i,_,acc,σ4,H4,N,I4,hN,λb hb=>?_,λh' k=>T.keep _ _ _ Cs λb hb o e=>k b hb o (pn b hb o e),q4⟩;obtain⟨o,e,_⟩:=T.obj _ _ Cs b hb;exact⟨o,bp _ (Hb hb e),pn b hb o e⟩
theorem Rb(hc:X.calm=true)(C:uM X scope cl ts xs js)(I2:Inv X ag σ H1 s2)(T:qG X.prog X.w X.K tg J fp it tn)(st:tn 0 s2.heap)(fo:∀b∈fp,kN X ag H1 b)
  (q:∀p,H1 p=ae->∃W:Nat->Nat->St->Hp->List V->Prop,(∃m,W 0 m (aT ts.length ae++zp σ js) (upd H1 p (.lst [])) [])/\Hv p J g tc te Q W)
  (hg:∀fp s3 H2,PG (iN X scope cl (ts++xs) fp s3 H2) tg g) (ht:∀fp s3 H2,PT (iN X scope cl (ts++xs) fp s3 H2) c tc) (he:∀fp s3 H2,PE (iN X scope cl (ts++xs) fp s3 H2) jz te)
  {RR:af->aj->B8->ar->Prop} (Lq:∀p C H' s',Inv X ag σ H' s'->(∃m,s'.heap.Ns C m)->H' C=ae->s2.heap.objs.size<=C->Q (.ref p) H'->RR (.ref p) C (.ok .next) s') :
  wpAny (aK X.prog X.w) X.A (DM []) (λacc s3=>wpAny (aK X.prog X.w) X.A (newFunctionEnv scope X.env.globals cl [] X.env.qual ae .none (aa X.env)) (λvF s4=>
   codeAny (aK X.prog X.w) X.A (.compStart (.ListComp jz [⟨tg,iter,[c],0⟩] scope pos) 0 (.ref it) acc { vF with scope:=k6 scope X.env }) (RR acc vF.locals) s4) X.xe s3) X.xe s2:=by
 refine DP (yX C.vE (by intro y hy;simp at hy) (λh4 AS AU=>?_) C.kind);dsimp only at AS AU ⊢;have I3:Inv X ag σ (upd H1 s2.heap.objs.size (.lst [])) { s2 with heap:=s2.heap.push { cls:=.type "list",data:=.seq ([]:List af).toArray } }:=
  I2.laid (t':=s2.toks) (λb o e=>aA _ e) (az _) ⟨dq _,[],_,.nil,bj _ rfl⟩
 generalize AV:({ s2 with heap:=s2.heap.push { cls:=.type "list",data:=.seq ([]:List af).toArray } }:ar)=s3 at I3;have hsz:s3.heap.objs.size=s2.heap.objs.size+1:=by rw[<- AV];exact gw ..
 have AW:s2.heap.push { cls:=.type "list",data:=.seq ([]:List af).toArray }=s3.heap:=by rw[<- AV]
 obtain⟨W,⟨m0,w0⟩,go⟩:=q s2.heap.objs.size (I2.cB.fresh (az _));have fl:∀b∈fp,b<s2.heap.objs.size:=λb hb=>by
  obtain⟨o,e,_⟩:=T.obj _ _ st b hb;exact aD e
 have AX:∀b∈fp,kN X ag (upd H1 s2.heap.objs.size (.lst [])) b:=λb hb=>⟨by rw[c4 (aS (fl b hb))];exact(fo b hb).1,(fo b hb).2⟩;have k4:∀b o,s3.heap.get? b=aa o->h4.get? b=aa o:=λb o e=>by
  have hb:b≠s3.heap.objs.size:=aS (aD e);rw[AW] at AU;exact AU.extBut b o hb (aA _ e)
 rw[AW] at AS;have Lr:∀b o,s2.heap.get? b=aa o->h4.get? b=aa o:=λb o e=>k4 b o (by rw[<- AW];exact aA _ e);have EC:tn 0 h4:=T.keep _ _ _ st λb _ o e=>Lr b o e;have Ic:Inv (iN X scope cl (ts++xs) fp s3 (upd H1 s2.heap.objs.size (.lst []))) [] _ (upd H1 s2.heap.objs.size (.lst [])) { s3 with heap:=h4,toks:=s3.toks+([]:List (Str×af)).length }:=
  Q9 C I3 AX (λb hb=>by rw[hsz];exact je (fl b hb)) ⟨_,AS⟩ k4
 have Ls:∀{H':Hp} {b:aj},H' b=ae->b∈fp->kN (iN X scope cl (ts++xs) fp s3 (upd H1 s2.heap.objs.size (.lst []))) [] H' b:=λ{H' b} n hb=>
  ⟨n,aS (show b<s3.heap.objs.size by rw[hsz];exact je (fl b hb)),λhf=>(Ic.ok.tS b hb) hf,.inl hb,λx c e=>(Ic.ok.GN b hb).2 x c e,λp hp=>absurd hp (by simp)⟩
 have vG:∀s4:ar,s4={ s3 with heap:=h4,toks:=s3.toks+([]:List (Str×af)).length }->codeAny (aK X.prog X.w) X.A (.compLoop (.ListComp jz [⟨tg,iter,[c],0⟩] scope pos) 0 (.ref it) (.ref s2.heap.objs.size) (mo scope cl s3.heap.objs.size X.env)) (RR (.ref s2.heap.objs.size) s3.heap.objs.size) s4:=by
  rintro s4 rfl;refine PySem.W.kct_loop (EA (iN X scope cl (ts++xs) fp s3 (upd H1 s2.heap.objs.size (.lst []))) fp tn W) (λn s' hI=>?_) m0 ⟨0,_,_,[],Ic,EC,λb hb=>(AX b hb).1,w0⟩;refine Ra (Xc:=iN X scope cl (ts++xs) fp s3 (upd H1 s2.heap.objs.size (.lst []))) hc T go (hg _ _ _) rfl Ls hI (fun σ' H' s1 I1 q1=>?_) (λv s1 h1=>?_)
  .obtain⟨J1,J2,J3⟩:=Q_ I3 AX I1
   exact Lq _ _ H' s1 J1 J2 J3 (by rw[hsz];exact h9 _) q1
  .refine dm h1 λ_ s5 h5=>dm h5 λ_ s6 h6=>?_
   obtain⟨i,ir,acc,σ4,H4,N,I4,hN,vH,vI,q4⟩:=h6;have fO:∀{H7:Hp} {s7:ar} {lE:List V},Inv (iN X scope cl (ts++xs) fp s3 (upd H1 s2.heap.objs.size (.lst []))) ir σ4 H7 s7->N σ4 H7 lE->∃m,m<n/\EA (iN X scope cl (ts++xs) fp s3 (upd H1 s2.heap.objs.size (.lst []))) fp tn W m s7:=λ{H7 s7 lE} I7 n7=>by
    obtain⟨m',hm,w7⟩:=hN _ _ _ n7;refine⟨m',hm,i+1,σ4,H7,lE,I7.mY (λp hp=>absurd hp (by simp)),vI _ λb hb o e=>?_,λb hb=>?_,w7⟩
    .obtain⟨o',qj,e'⟩:=vH b hb
     rw[e] at e';cases e';exact(I7.pin (b,o) (bp _ qj)).1
    .obtain⟨o',qj,e'⟩:=vH b hb
     exact(I7.pin (b,o') (bp _ qj)).2.1
   refine bF (ht fp s3 _ ir s6 σ4 H4 _ I4 q4) (λok s7 cN=>?_) λ_ _ z=>z.elim;obtain⟨H7,I7,q7⟩:=cN;cases ok with
   | false=>
     have n7:N σ4 H7 acc:=by simpa using q7
     have:=fO I7 n7;simpa using this
   | true=>
     have q7:=(if_pos (c:=(true=true)) rfl).mp q7;show wpAny _ _ (eval jz _) _ _ _;refine bF (he fp s3 _ ir s7 σ4 H7 _ I7 q7) (λy s8 cN=>?_) λ_ _ z=>z.elim;obtain⟨yv,H8,I8,ry,e8,l8,n8⟩:=cN;refine bF (KS (X:=iN X scope cl (ts++xs) fp s3 (upd H1 s2.heap.objs.size (.lst []))) ir s8 σ4 H8 (.ref s2.heap.objs.size) [yv] (.ref s2.heap.objs.size) [y] (λ_ H9=>H9=upd H8 s2.heap.objs.size (.lst (acc++[yv]))) I8 rfl (.cons ry .nil) ⟨_,acc,yv,rfl,rfl,e8,l8,rfl⟩) (λ_ s9 cN=>?_) λ_ _ z=>z.elim;obtain⟨_,H9,I9,_,e9⟩:=cN;subst e9;exact fO I9 n8
 have vJ:=T.self X.A 0 { s3 with heap:=h4,toks:=s3.toks+([]:List (Str×af)).length } (λLu s'=>codeAny (aK X.prog X.w) X.A (.compLoop (.ListComp jz [⟨tg,iter,[c],0⟩] scope pos) 0 Lu (.ref s2.heap.objs.size) (mo scope cl s3.heap.objs.size X.env)) (RR (.ref s2.heap.objs.size) s3.heap.objs.size) s') (notedBy (aK X.prog X.w) X.A (mo scope cl s3.heap.objs.size X.env) λx s'=>RR (.ref s2.heap.objs.size) s3.heap.objs.size (.error x) s') EC (vG _ rfl);subst AV;exact wz (vG _ rfl) vJ
theorem Rc(hc:X.calm=true)(C:uM X scope cl ts xs js)(I2:Inv X ag σ H1 s2)(T:qG X.prog X.w X.K tg J fp it tn)(st:tn 0 s2.heap)(fo:∀b∈fp,kN X ag H1 b)
  (q:∀p,H1 p=ae->∃W:Nat->Nat->St->Hp->List V->Prop,(∃m,W 0 m (aT ts.length ae++zp σ js) (upd H1 p (.lst [])) [])/\Hv p J g xx te Q W)
  (hg:∀fp s3 H2,PG (iN X scope cl (ts++xs) fp s3 H2) tg g) (he:∀fp s3 H2,PE (iN X scope cl (ts++xs) fp s3 H2) jz te)
  {RR:af->aj->B8->ar->Prop} (Lq:∀p C H' s',Inv X ag σ H' s'->(∃m,s'.heap.Ns C m)->H' C=ae->s2.heap.objs.size<=C->Q (.ref p) H'->RR (.ref p) C (.ok .next) s') :
  wpAny (aK X.prog X.w) X.A (DM []) (λacc s3=>wpAny (aK X.prog X.w) X.A (newFunctionEnv scope X.env.globals cl [] X.env.qual ae .none (aa X.env)) (λvF s4=>
   codeAny (aK X.prog X.w) X.A (.compStart (.ListComp jz [⟨tg,iter,[],0⟩] scope pos) 0 (.ref it) acc { vF with scope:=k6 scope X.env }) (RR acc vF.locals) s4) X.xe s3) X.xe s2:=by
 refine DP (yX C.vE (by intro y hy;simp at hy) (λh4 AS AU=>?_) C.kind);dsimp only at AS AU ⊢;have I3:Inv X ag σ (upd H1 s2.heap.objs.size (.lst [])) { s2 with heap:=s2.heap.push { cls:=.type "list",data:=.seq ([]:List af).toArray } }:=
  I2.laid (t':=s2.toks) (λb o e=>aA _ e) (az _) ⟨dq _,[],_,.nil,bj _ rfl⟩
 generalize AV:({ s2 with heap:=s2.heap.push { cls:=.type "list",data:=.seq ([]:List af).toArray } }:ar)=s3 at I3;have hsz:s3.heap.objs.size=s2.heap.objs.size+1:=by rw[<- AV];exact gw ..
 have AW:s2.heap.push { cls:=.type "list",data:=.seq ([]:List af).toArray }=s3.heap:=by rw[<- AV]
 obtain⟨W,⟨m0,w0⟩,go⟩:=q s2.heap.objs.size (I2.cB.fresh (az _));have fl:∀b∈fp,b<s2.heap.objs.size:=λb hb=>by
  obtain⟨o,e,_⟩:=T.obj _ _ st b hb;exact aD e
 have AX:∀b∈fp,kN X ag (upd H1 s2.heap.objs.size (.lst [])) b:=λb hb=>⟨by rw[c4 (aS (fl b hb))];exact(fo b hb).1,(fo b hb).2⟩;have k4:∀b o,s3.heap.get? b=aa o->h4.get? b=aa o:=λb o e=>by
  have hb:b≠s3.heap.objs.size:=aS (aD e);rw[AW] at AU;exact AU.extBut b o hb (aA _ e)
 rw[AW] at AS;have Lr:∀b o,s2.heap.get? b=aa o->h4.get? b=aa o:=λb o e=>k4 b o (by rw[<- AW];exact aA _ e);have EC:tn 0 h4:=T.keep _ _ _ st λb _ o e=>Lr b o e;have Ic:Inv (iN X scope cl (ts++xs) fp s3 (upd H1 s2.heap.objs.size (.lst []))) [] _ (upd H1 s2.heap.objs.size (.lst [])) { s3 with heap:=h4,toks:=s3.toks+([]:List (Str×af)).length }:=
  Q9 C I3 AX (λb hb=>by rw[hsz];exact je (fl b hb)) ⟨_,AS⟩ k4
 have Ls:∀{H':Hp} {b:aj},H' b=ae->b∈fp->kN (iN X scope cl (ts++xs) fp s3 (upd H1 s2.heap.objs.size (.lst []))) [] H' b:=λ{H' b} n hb=>
  ⟨n,aS (show b<s3.heap.objs.size by rw[hsz];exact je (fl b hb)),λhf=>(Ic.ok.tS b hb) hf,.inl hb,λx c e=>(Ic.ok.GN b hb).2 x c e,λp hp=>absurd hp (by simp)⟩
 have vG:∀s4:ar,s4={ s3 with heap:=h4,toks:=s3.toks+([]:List (Str×af)).length }->codeAny (aK X.prog X.w) X.A (.compLoop (.ListComp jz [⟨tg,iter,[],0⟩] scope pos) 0 (.ref it) (.ref s2.heap.objs.size) (mo scope cl s3.heap.objs.size X.env)) (RR (.ref s2.heap.objs.size) s3.heap.objs.size) s4:=by
  rintro s4 rfl;refine PySem.W.kcp_loop (EA (iN X scope cl (ts++xs) fp s3 (upd H1 s2.heap.objs.size (.lst []))) fp tn W) (λn s' hI=>?_) m0 ⟨0,_,_,[],Ic,EC,λb hb=>(AX b hb).1,w0⟩;refine Ra (Xc:=iN X scope cl (ts++xs) fp s3 (upd H1 s2.heap.objs.size (.lst []))) hc T go (hg _ _ _) rfl Ls hI (fun σ' H' s1 I1 q1=>?_) (λv s1 h1=>?_)
  .obtain⟨J1,J2,J3⟩:=Q_ I3 AX I1
   exact Lq _ _ H' s1 J1 J2 J3 (by rw[hsz];exact h9 _) q1
  .refine dm h1 λ_ s5 h5=>dm h5 λ_ s6 h6=>?_
   obtain⟨i,ir,acc,σ4,H4,N,I4,hN,vH,vI,q4⟩:=h6;have fO:∀{H7:Hp} {s7:ar} {lE:List V},Inv (iN X scope cl (ts++xs) fp s3 (upd H1 s2.heap.objs.size (.lst []))) ir σ4 H7 s7->N σ4 H7 lE->∃m,m<n/\EA (iN X scope cl (ts++xs) fp s3 (upd H1 s2.heap.objs.size (.lst []))) fp tn W m s7:=λ{H7 s7 lE} I7 n7=>by
    obtain⟨m',hm,w7⟩:=hN _ _ _ n7;refine⟨m',hm,i+1,σ4,H7,lE,I7.mY (λp hp=>absurd hp (by simp)),vI _ λb hb o e=>?_,λb hb=>?_,w7⟩
    .obtain⟨o',qj,e'⟩:=vH b hb
     rw[e] at e';cases e';exact(I7.pin (b,o) (bp _ qj)).1
    .obtain⟨o',qj,e'⟩:=vH b hb
     exact(I7.pin (b,o') (bp _ qj)).2.1
   have q4:te σ4 H4 (λy H6=>H6 s2.heap.objs.size=aa (.lst acc)/\acc.length<sizeLine/\N σ4 (upd H6 s2.heap.objs.size (.lst (acc++[y]))) (acc++[y])):=by
    have z:=q4;unfold xx at z;dsimp only at z;rw[if_pos rfl] at z;exact z
   refine bF (he fp s3 _ ir s6 σ4 H4 _ I4 q4) (λy s8 cN=>?_) λ_ _ z=>z.elim;obtain⟨yv,H8,I8,ry,e8,l8,n8⟩:=cN;refine bF (KS (X:=iN X scope cl (ts++xs) fp s3 (upd H1 s2.heap.objs.size (.lst []))) ir s8 σ4 H8 (.ref s2.heap.objs.size) [yv] (.ref s2.heap.objs.size) [y] (λ_ H9=>H9=upd H8 s2.heap.objs.size (.lst (acc++[yv]))) I8 rfl (.cons ry .nil) ⟨_,acc,yv,rfl,rfl,e8,l8,rfl⟩) (λ_ s9 cN=>?_) λ_ _ z=>z.elim;obtain⟨_,H9,I9,_,e9⟩:=cN;subst e9;exact fO I9 n8
 have vJ:=T.self X.A 0 { s3 with heap:=h4,toks:=s3.toks+([]:List (Str×af)).length } (λLu s'=>codeAny (aK X.prog X.w) X.A (.compLoop (.ListComp jz [⟨tg,iter,[],0⟩] scope pos) 0 Lu (.ref s2.heap.objs.size) (mo scope cl s3.heap.objs.size X.env)) (RR (.ref s2.heap.objs.size) s3.heap.objs.size) s') (notedBy (aK X.prog X.w) X.A (mo scope cl s3.heap.objs.size X.env) λx s'=>RR (.ref s2.heap.objs.size) s3.heap.objs.size (.error x) s') EC (vG _ rfl);subst AV;exact wz (vG _ rfl) vJ
theorem Rf{C:aj}{H':Hp}{s':ar}{h':bO}(I2:Inv X ag σ H1 s2)(I:Inv X ag σ H' s')(n:H' C=ae)(hC:s2.heap.objs.size<=C)(hs:fG C s'.heap h'):Inv X ag σ H' { s' with heap:=h' }:=by
 refine I.turned (t':=s'.toks) (it:=C) (λb o hb e=>hs.extBut b o hb e) n (jR (ax I2.lt hC)) (.inr (bt I2.sz hC)) (λx c e=>?_) λp hp=>?_
 .obtain⟨v,o,ho,_⟩:=I2.cell x c e
  exact aS (ax (aD ho) hC)
 .exact aS (ax (aD (I2.pin p hp).1) hC)
end
section
variable {X:Cx}{jz iter c tg:bo}{pos:Pos}{g:TG}{tc:TT}{te:TE}{wi:TI}{scope:ig}{cl:List (Str×aj)}{ts xs:List Str}{js:List Nat}
theorem Rg(hc:X.calm=true)(C:uM X scope cl ts xs js)(hi:PI X tg iter wi)(hg:∀fp s3 H2,PG (iN X scope cl (ts++xs) fp s3 H2) tg g)(ht:∀fp s3 H2,PT (iN X scope cl (ts++xs) fp s3 H2) c tc)(he:∀fp s3 H2,PE (iN X scope cl (ts++xs) fp s3 H2) jz te)
  (hs:∀x,cg iter X.env x=pure x:=by intro _;rfl):PE X (.ListComp jz [⟨tg,iter,[c],0⟩] scope pos) (AQ ts.length js wi g tc te):=by
 intro ag s σ H Q I h;rw[eval_ListComp];refine gj (use:=ae) rfl hs C.t6 C.kind C.names (dm (hi ag s σ H _ I h) λxv s1 h1=>dm h1 λCq s2 h2=>?_);obtain⟨it,fp,tn,J,H1,rfl,I2,T,rO,fo,q⟩:=h2;exact Rb (RR:=yY (aK X.prog X.w) X.A X.xe ae (EP X ag σ Q)) hc C I2 T rO fo q hg ht he λp D H' s' I' ns n hD q'=>by
  obtain⟨m,hm⟩:=ns;exact⟨m,hm,λh' sb=>⟨.ref p,H',Rf I2 I' n hD sb,rfl,q'⟩⟩
theorem Zu(hc:X.calm=true)(C:uM X scope cl ts xs js)(hi:PI X tg iter wi)(hg:∀fp s3 H2,PG (iN X scope cl (ts++xs) fp s3 H2) tg g)(he:∀fp s3 H2,PE (iN X scope cl (ts++xs) fp s3 H2) jz te)
  (hs:∀x,cg iter X.env x=pure x:=by intro _;rfl):PE X (.ListComp jz [⟨tg,iter,[],0⟩] scope pos) (AQ ts.length js wi g xx te):=by
 intro ag s σ H Q I h;rw[eval_ListComp];refine gj (use:=ae) rfl hs C.t6 C.kind C.names (dm (hi ag s σ H _ I h) λxv s1 h1=>dm h1 λCq s2 h2=>?_);obtain⟨it,fp,tn,J,H1,rfl,I2,T,rO,fo,q⟩:=h2;exact Rc (RR:=yY (aK X.prog X.w) X.A X.xe ae (EP X ag σ Q)) hc C I2 T rO fo q hg he λp D H' s' I' ns n hD q'=>by
  obtain⟨m,hm⟩:=ns;exact⟨m,hm,λh' sb=>⟨.ref p,H',Rf I2 I' n hD sb,rfl,q'⟩⟩
theorem Zv{i:Nat}{y:Str}{py nC:Pos}(hc:X.calm=true)(C:uM X scope cl ts xs js)(hi:PI X tg iter wi)(hg:∀fp s3 H2,PG (iN X scope cl (ts++xs) fp s3 H2) tg g)(he:∀fp s3 H2,PE (iN X scope cl (ts++xs) fp s3 H2) jz te)
  (hN:X.N.Nodup) (hy:X.N[i]?=aa y) (hx:Loc X.env.scope y) (hkn:∀u:V,X.kn[i]?≠aa (aa u)) (hf:X.fn y=true\/X.env.scope.names.lookup y=aa .local:=by first | exact .inl rfl | exact .inr rfl | assumption)
  (AY:eX (.ListComp jz [⟨tg,iter,[],0⟩] scope pos) (aa (.Name y py)) nC.line X.env=pure true:=by rfl)
  (hs:∀x,cg iter X.env x=pure x:=by intro _;rfl):PS X (.Assign [.Name y py] (.ListComp jz [⟨tg,iter,[],0⟩] scope pos) nC) (xk (AQ ts.length js wi g xx te) (wH i)):=by
 intro ag s σ H D I h;rw[w_ _ _ _ _ AY];refine aC (jU (aC ?_));show wpAny _ X.A (do let _ <- comprehension (.ListComp jz [⟨tg,iter,[],0⟩] scope pos) scope X.env _ (DM []) false (eval iter X.env) (aa (kW (.Name y py) X.env))) _ _ s;refine aC (bF (gj (use:=aa (kW (.Name y py) X.env)) (Q:=λ_ s'=>SP X ag D .next s') rfl hs C.t6 C.kind C.names (dm (hi ag s σ H _ I h) λxv s1 h1=>dm h1 λCq s2 h2=>?_)) (λ_ s' hq=>be (be hq)) λ_ _ e=>e);obtain⟨it,fp,tn,J,H1,rfl,I2,T,rO,fo,q⟩:=h2;refine Rc (Q:=λx H1=>wH i x σ H1 D.nx) (g:=g) (te:=te) (RR:=yY (aK X.prog X.w) X.A X.xe (aa (kW (.Name y py) X.env)) (λ_ s'=>SP X ag D .next s')) hc C I2 T rO fo q hg he λp E H' s' I' ns n hE q'=>?_;obtain⟨m,hm⟩:=ns;show wpAny _ X.A (kW (.Name y py) X.env (.ref p)) _ _ _;refine oP (J_ I' hN hy hx (show RelV (.ref p) (.ref p) from rfl) (λs3 I3 cN=>?_) hf hkn);obtain⟨b,sb,hb⟩:=cN;refine⟨m,hm.sameBut sb (λz=>?_),λh' Lv=>⟨_,H',?_,q'⟩⟩
 .rcases hb with hb | hb
  .exact absurd (ax I2.lt hE) (by rw[z,hb];exact cQ _)
  .obtain⟨v,o,ho,_⟩:=I2.cell y b hb
   exact absurd (ax (aD ho) hE) (by rw[z];exact cQ _)
 .refine I3.turned (t':=s3.toks) (it:=E) (λb o hb e=>Lv.extBut b o hb e) n (jR (ax I2.lt hE)) (.inr (bt I2.sz hE)) (λx c e=>?_) λp hp=>?_
  .obtain⟨v,o,ho,_⟩:=I2.cell x c e
   exact aS (ax (aD ho) hE)
  .exact aS (ax (aD (I2.pin p hp).1) hE)
end
section
variable {X:Cx}
theorem Rh(hc:X.calm=true):rP X (.type "list") (λxs H Q=>∃a kvs,xs=[.ref a]/\Rd H a (.dK kvs)/\∀l,H l=ae->Q (.ref l) (upd H l (.lst (kvs.map λp=>kV p.1)))):=by
 intro ag s σ H xs us Q I r h;obtain⟨a,kvs,rfl,rd,q⟩:=h;obtain⟨u,rfl,ru⟩:=Aw r;cases ru;obtain⟨zl,zm,vs,rv,d⟩:=xn I.cB rd;obtain⟨ep,da⟩:=d.dictAt;have hl:kvs.length=vs.length:=rv.length;refine W.kdl_call (W.kdl_dict (knd:=jX X.prog X.w) (kvs:=vs) (ep:=ep) zm) (I.ok.hd hc) da (by omega) λh' tk acc c k e ED=>?_;refine⟨.ref s.heap.objs.size,_,I.laid (t':=tk) (o:=.lst (kvs.map λp=>kV p.1)) k (az _) ⟨by rw[aN];exact zl,acc.toList,c,?_,by simpa using e⟩,rfl,q _ (I.cB.fresh (az _))⟩;obtain⟨n1,n2⟩:=ED;have go:∀(ks:List (b9×V)) (as:List af),ks.length=as.length->(∀(j:Nat) (u:af),as[j]?=aa u->∃p:b9×V,ks[j]?=aa p/\RelV (kV p.1) u)->cj (ks.map λp=>kV p.1) as:=by
  intro ks
  induction ks with
  |nil=>intro as hl _;cases as with|nil=>exact .nil | cons _ _=>simp at hl
  | cons p ks ih=>
    intro as hl h;cases as with
    |nil=>simp at hl
    | cons u as=>
      obtain⟨p',e1,r1⟩:=h 0 u rfl;simp at e1;subst e1;exact .cons r1 (ih as (by simpa using hl) λj w' e=>by simpa using h (j+1) w' (by simpa using e))
 refine go kvs acc.toList (by have z:acc.toList.length=acc.size:=ij;omega) λj u e=>?_;obtain⟨k',x',e1,e2⟩:=n2 j u (by rw[<- jS];exact e);have hj:j<kvs.length:=by rw[hl];exact(ao.mp e1).1
 obtain⟨w',e3,_⟩:=rv.at (i:=j) (k:=(kvs[j]).1) (v:=(kvs[j]).2) (by simp[hj]);rw[e1] at e3;cases e3;exact⟨kvs[j],by simp[hj],Ln e2⟩
theorem Zw:rP X (.builtin "isinstance") (λxs H Q=>∃x c cu t b,xs=[x,c]/\RelV c cu/\(∀u,RelV c u->u=cu)/\jJ X.K H x t/\W.kitOne X.K t cu=aa b/\Q (.bl b) H):=by
 intro ag s σ H xs us Q I r h;obtain⟨x,c,cu,t,b,rfl,_,hu,ty,e,q⟩:=h;obtain⟨u,w',rfl,rx,rc⟩:=XM r;cases hu w' rc;exact XZ I rx ty e λtk=>⟨.bl b,H,I.tok tk,rfl,q⟩
theorem Ri:∀{ys:List Str} {us:List af},cj (ys.map V.str) us->StrsAre us ys
 |[],[],_=>.nil
 | y :: ys,u::us,h=>by
   cases h with
   | cons p t=>
     obtain⟨tk,rfl⟩:=p;exact .cons _ _ (Ri t)
 |[],_::_,h=>nomatch h
 |_::_,[],h=>nomatch h
theorem Zx:AA X "str.join" (λx xs H Q=>∃z l ys,x=.str z/\xs=[.ref l]/\mJ X.K H l (ys.map V.str)/\(ys.map (·.length)).sum+ys.length*z.length<=16777216/\Q (.str (qg z ys)) H):=by
 intro ag s σ H x xs v us Q I rx rv h;obtain⟨z,l,ys,rfl,rfl,sq,hz,q⟩:=h;obtain⟨t,rfl⟩:=rx;obtain⟨u,rfl,ru⟩:=rv.one;cases ru;obtain⟨cA,r,pl,_⟩:=I.list sq;exact join_list pl.isList (Ri r) hz λt' k=>⟨.str _,H,I.tok k,⟨t',rfl⟩,q⟩
theorem Lw{e:bo}{te:TE}{pos:Pos}(he:PE X e te):PE X (.FormattedValue e 114 ae pos) (fun σ H Q=>te σ H λv H1=>∃y,v=.str y/\(cD y).length<=sizeLine/\Q (.str (cD y)) H1):=by
 intro ag s σ H Q I h;refine tO (dm (he ag s σ H _ I h) λv s1 cN=>?_);obtain⟨x,H1,I1,r,y,e,l,q⟩:=cN;subst e;obtain⟨t,rfl⟩:=r;refine wpAny_pyReprObj_str (hsz:=l) ?_;exact JV (hsz:=l) λt' tk=>⟨.str _,H1,I1.tok tk,⟨t',rfl⟩,q⟩
def tJ:Str->List TE->TE
 |acc,[]=>λ_ H Q=>acc.length<=sizeLine/\Q (.str acc) H
 |acc,t::ts=>fun σ H Q=>t σ H λv H1=>∃y,v=.str y/\(acc++y).length<=sizeLine/\tJ (acc++y) ts σ H1 Q
inductive PJ(X:Cx):List bo->List TE->Prop where
 |nil:PJ X [] []
 |cons {e:bo} {es:List bo} {t:TE} {ts:List TE}:PE X e t->PJ X es ts->PJ X (e::es) (t::ts)
theorem Zy{es:List bo}{ts:List TE}(hj:PJ X es ts):∀{acc:Str} {ag:List (aj×Obj)} {s:ar} {σ:St} {H:Hp} {Q:VK},Inv X ag σ H s->tJ acc ts σ H Q ->
  wpAny (aK X.prog X.w) X.A (joinParts acc (evalEach es X.env)) (EP X ag σ Q) X.xe s:=by
 induction hj with
 |nil=>intro acc ag s σ H Q I h;exact joinParts_nil (hsz:=h.1) ⟨.str acc,H,I.tok _,⟨_,rfl⟩,h.2⟩
 | @cons e es t ts he hj ih=>
   intro acc ag s σ H Q I h;show wpAny _ _ (joinParts acc (eval e X.env::evalEach es X.env)) _ _ _;refine joinParts_cons (dm (he ag s σ H _ I h) λv s1 cN=>?_);obtain⟨x,H1,I1,r,y,e,l,q⟩:=cN;subst e;obtain⟨tk,rfl⟩:=r;exact⟨l,ih I1 q⟩
theorem Lx{a b:bo}{r:List bo}{ts:List TE}{pos:Pos}(h:PJ X (a::b::r) ts):PE X (.JoinedStr (a::b::r) pos) (tJ cP ts):=λag s σ H Q I q=>JoinedStr_many (Zy h I q)
end
theorem Zz{prog:aX}{w:bB}{A:cf}{E:af->ar->Prop}{s:ar}{Q:Int->ar->Prop}(h:Q 0xFCA86420 { s with toks:=s.toks+1 }):wpAny (aK prog w) A (pyHash .none) Q E s:=by
 have hT:s.TypeIs .none "NoneType":=rfl;show wpAny _ _ (JW .none) Q E s;unfold JW;refine aC ?_;rw[cRoomFor,if_neg (by decide)];refine be ?_;refine aC (ri hT fA.lookup ?_);rw[if_neg (by decide)];refine aC (ri hT fA.lookup ?_);show wpAny _ _ (callSpecialIfBoundUnlessNone? .none "__hash__" _ >>= _) Q E s;refine aC (wpAny_callSpecialIfBoundUnlessNone?_slot hT fA (wpAny_call_entry fA hT PySem.F.entry_NoneType_hash
  (show wpAny _ _ (do ret (<- mkInt 0xFCA86420)) _ _ s from wpAny_ret_mkInt ?_) (PySem.F.args_NoneType_hash_1 _)))
 show wpAny _ _ (if(decide (-(2:Int) ^ 63<=0xFCA86420)&&decide ((0xFCA86420:Int)<2 ^ 63))=true then _ else _) Q E _;rw[if_pos (by decide)];exact be h
def Ly:Option b9->af->Bool
 |none,.none=>true
 |none,_=>false
 |some k,v=>zc k v
def Lz(w:bB):Option b9->Int
 |none=>0xFCA86420
 |some k=>DU w k
theorem zq{v:af}(h:Ly ae v=true):v=.none:=by
 cases v<;>first | rfl | cases h
theorem LA{k:b9}(h:zc k .none=true):False:=by
 rcases tQ h with⟨_,_,_,e⟩ | ⟨_,_,_,e⟩<;>cases e
def LB (prog:aX) (w:bB):z9 prog w (Option b9) where
 is:=Ly
 hash:=Lz w
 inj:=λv a b ha hb=>by
  cases a with
  | none=>
    cases b with
    |none=>rfl
    |some b=>cases zq ha;exact(LA hb).elim
  | some a=>
    cases b with
    |none=>cases zq hb;exact(LA ha).elim
    |some b=>exact congrArg aa ((jX prog w).inj v a b ha hb)
 byValue:=λk v h=>by
  cases k with
  |none=>cases zq h;rfl
  |some k=>exact(jX prog w).byValue k v h
 pyHash:=λ{A E s k v Q} hv h=>by
  cases k with
  |none=>cases zq hv;exact Zz h
  |some k=>exact(jX prog w).pyHash (k:=k) hv h
 eqBool:=λ{A E s a b u v Q} hu hv h=>by
  cases a with
  | none=>
    cases zq hu;cases b with
    |none=>cases zq hv;exact sN _ _ _ _ _ (by simpa using h)
    | some b=>
      rcases tQ hv with⟨i,t,rfl,rfl⟩ | ⟨x,t,rfl,rfl⟩
      .exact pZ _ _ _ _ _ _ (by simpa using h)
      .exact p7 _ _ _ _ _ _ (by simpa using h)
  | some a=>
    cases b with
    | none=>
      cases zq hv;rcases tQ hu with⟨i,t,rfl,rfl⟩ | ⟨x,t,rfl,rfl⟩
      .exact p8 _ _ _ _ _ _ (by simpa using h)
      .exact p9 _ _ _ _ _ _ (by simpa using h)
    |some b=>exact(jX prog w).eqBool (a:=a) (b:=b) hu hv (by simpa using h)
 «strs»:=λk x t v h=>by
  cases k with
  |none=>cases h
  |some k=>exact(jX prog w).strs k x t v h
theorem ZA{P:aX}{w:bB}{h:bO}{a:aj}{vs:List (b9×af)}(d:h.DictOf (jX P w) a vs):∃f,h.MapOf (LB P w) a f/\f ae=ae:=by
 obtain⟨o,es,ep,ho,ex,hd,nu,r⟩:=id d;refine⟨λk=>wg (LB P w).is es k,⟨o,es,ep,ho,ex,hd,λe he=>?_,λk=>rfl⟩,?_⟩
 .obtain⟨k,h1,h2⟩:=nu e he
  exact⟨aa k,h1,h2⟩
 .show wg Ly es ae=ae
  unfold wg;rw[qF,Array.find?_eq_none];intro e he z;obtain⟨k,h1,_⟩:=nu e he;rw[zq z] at h1;exact LA h1
section
variable {X:Cx}{o i:bo}{td ty:TE}
def ZC(ty td:TE):TE:=fun σ H Q=>ty σ H λy H1=>td σ H1 λx H2=>∃a,x=.ref a/\((∃r,nq H2 a y r/\Q (.bl r.isSome) H2)\/(y=.bY/\(∃kvs,Rd H2 a (.dK kvs))/\Q (.bl false) H2))
theorem Rj(hu:X.A.units+1<fq)(hi:PE X i ty)(ho:PE X o td):PC X .In i o (ZC ty td):=by
 intro ag s σ H Q I h;refine dm (hi ag s σ H _ I h) λv s1 cN=>?_;obtain⟨y,H1,I1,ry,q1⟩:=cN;refine dm (ho ag s1 σ H1 _ I1 q1) λu s2 cN=>?_;obtain⟨x,H2,I2,rx,a,ex,q2⟩:=cN;subst ex;cases (show u=aO a from rx);rcases q2 with⟨r,g,q⟩ | ⟨ey,⟨kvs,rd⟩,q⟩
 .exact KI hu I2 g ry λs' I'=>⟨.bl _,H2,I',rfl,q⟩
 .subst ey
  cases (show v=jD from ry);obtain⟨z,hd,vs,jK,dd⟩:=xn I2.cB rd;obtain⟨f,mf,fn⟩:=ZA dd;refine wpAny_in_of (knd:=LB X.prog X.w) (k:=ae) (f:=f) rfl hd mf ?_;rw[fn];exact⟨.bl false,H2,I2.tok _,rfl,q⟩
end
section
variable {X:Cx}
theorem ZD:kb X (cM .Is) (λx y H Q=>∃a b,x=.bl a/\y=.bl b/\Q (.bl (a==b)) H):=by
 intro ag s σ H x y v u Q I rx ry h;obtain⟨a,b,rfl,rfl,q⟩:=h;cases rx;cases ry;refine wpAny_is_plain rfl ⟨.bl (a==b),H,I,?_,q⟩;show dM (dM a==dM b)=dM (a==b);cases a<;>cases b<;>rfl
end
section
variable {X:Cx}
theorem Hw{xs:List V}{i:Nat}{z:V}(f:xs.all nA=true)(h:xs[i]?=aa z):nA z=true:=m_.mp f z (kH h)
theorem cj.at:∀{xs:List V} {us:List af},cj xs us->∀{i:Nat} {u:af},us[i]?=aa u->∃x,xs[i]?=aa x/\RelV x u
 |_,_,.nil,i,u,h=>by simp at h
 | _,_,.cons r t,0,u,h=>by
   simp at h;subst h;exact⟨_,rfl,r⟩
 | _,_,.cons r t,i+1,u,h=>by
   obtain⟨x,h1,h2⟩:=cj.at t (i:=i) (u:=u) (by simpa using h);exact⟨x,by simpa using h1,h2⟩
end
section
variable {X:Cx}{jz iter c tg:bo}{pos:Pos}{g:TG}{tc:TT}{te:TE}{wi:TI}{scope:ig}{cl:List (Str×aj)}{ts xs:List Str}{js:List Nat}
theorem ZE{i:Nat}{y:Str}{py nC:Pos}(hc:X.calm=true)(C:uM X scope cl ts xs js)(hi:PI X tg iter wi)(hg:∀fp s3 H2,PG (iN X scope cl (ts++xs) fp s3 H2) tg g)(ht:∀fp s3 H2,PT (iN X scope cl (ts++xs) fp s3 H2) c tc)(he:∀fp s3 H2,PE (iN X scope cl (ts++xs) fp s3 H2) jz te)
  (hN:X.N.Nodup) (hy:X.N[i]?=aa y) (hx:Loc X.env.scope y) (hkn:∀u:V,X.kn[i]?≠aa (aa u)) (hf:X.fn y=true\/X.env.scope.names.lookup y=aa .local:=by first | exact .inl rfl | exact .inr rfl | assumption)
  (AY:eX (.ListComp jz [⟨tg,iter,[c],0⟩] scope pos) (aa (.Name y py)) nC.line X.env=pure true:=by rfl)
  (hs:∀x,cg iter X.env x=pure x:=by intro _;rfl):PS X (.Assign [.Name y py] (.ListComp jz [⟨tg,iter,[c],0⟩] scope pos) nC) (xk (AQ ts.length js wi g tc te) (wH i)):=by
 intro ag s σ H D I h;rw[w_ _ _ _ _ AY];refine aC (jU (aC ?_));show wpAny _ X.A (do let _ <- comprehension (.ListComp jz [⟨tg,iter,[c],0⟩] scope pos) scope X.env _ (DM []) false (eval iter X.env) (aa (kW (.Name y py) X.env))) _ _ s;refine aC (bF (gj (use:=aa (kW (.Name y py) X.env)) (Q:=λ_ s'=>SP X ag D .next s') rfl hs C.t6 C.kind C.names (dm (hi ag s σ H _ I h) λxv s1 h1=>dm h1 λCq s2 h2=>?_)) (λ_ s' hq=>be (be hq)) λ_ _ e=>e);obtain⟨it,fp,tn,J,H1,rfl,I2,T,rO,fo,q⟩:=h2;refine Rb (Q:=λx H1=>wH i x σ H1 D.nx) (g:=g) (tc:=tc) (te:=te) (RR:=yY (aK X.prog X.w) X.A X.xe (aa (kW (.Name y py) X.env)) (λ_ s'=>SP X ag D .next s')) hc C I2 T rO fo q hg ht he λp E H' s' I' ns n hE q'=>?_;obtain⟨m,hm⟩:=ns;show wpAny _ X.A (kW (.Name y py) X.env (.ref p)) _ _ _;refine oP (J_ I' hN hy hx (show RelV (.ref p) (.ref p) from rfl) (λs3 I3 cN=>?_) hf hkn);obtain⟨b,sb,hb⟩:=cN;refine⟨m,hm.sameBut sb (λz=>?_),λh' Lv=>⟨_,H',?_,q'⟩⟩
 .rcases hb with hb | hb
  .exact absurd (ax I2.lt hE) (by rw[z,hb];exact cQ _)
  .obtain⟨v,o,ho,_⟩:=I2.cell y b hb
   exact absurd (ax (aD ho) hE) (by rw[z];exact cQ _)
 .refine I3.turned (t':=s3.toks) (it:=E) (λb o hb e=>Lv.extBut b o hb e) n (jR (ax I2.lt hE)) (.inr (bt I2.sz hE)) (λx c e=>?_) λp hp=>?_
  .obtain⟨v,o,ho,_⟩:=I2.cell x c e
   exact aS (ax (aD ho) hE)
  .exact aS (ax (aD (I2.pin p hp).1) hE)
end
end L2
namespace L2
open PySem PySem.Spec PyProof.Rows PySem.Builtin PySem.Builtin.ObjectAttr
def qk(C:aj)(dx:Option aj)(t:aj):Obj:={ cls:=.ref C,dict:=dx,data:=.fields #[.ref t,.none,.none,.none,.bool false,.none] }
def Cz:List af->List af
 |.ref _::r=>Cz r
 |l=>l
def Hx(l:List af):Bool:=Cz l==iH
theorem Rk(self:af):∀l:List af,Ca self "__setattr__" l=Ca self "__setattr__" (Cz l)
 |[]=>rfl
 |v::r=>by cases v<;>first | rfl | (rw[refuseLoop_ref];exact Rk self r)
theorem Rl(n:String):∀l:List af,l.contains (.type n)=(Cz l).contains (.type n)
 |[]=>rfl
 | v::r=>by
   cases v
   case ref a=>rw[cS,show(lM n==aO a)=false from rfl,qz];exact Rl n r
   all_goals rfl
theorem ZF(self:af){l:List af}(e:Hx l=true):Ca self "__setattr__" l=pure ():=by
 rw[Rk,show Cz l=iH from eq_of_beq e];exact PySem.F.store_ValueError.passes self
theorem LC{l:List af}(e:Hx l=true){n:String}(h:iH.contains (.type n)=true):l.contains (.type n)=true:=by
 rw[Rl,show Cz l=iH from eq_of_beq e];exact h
theorem Rm{l:List af}(e:Hx l=true):l.contains (.type "object")=true/\l.contains (.type "ValueError")=true/\l.isEmpty=false:=by
 refine⟨LC e (by decide +kernel),LC e (by decide +kernel),?_⟩;cases l with
 |nil=>cases e
 |cons _ _=>rfl
def CA(K:W.Frag)(C:aj):Bool:=(W.clsIn K C).any λcd=>Hx cd.mro
structure rX(K:W.Frag)(C:aj):Prop where
 sa:W.findIn K (.ref C) "__setattr__" = aa (aa (.builtin "object.__setattr__"))
 hd:W.hasDictIn K C=true
 over:CA K C=true
section
variable {prog:aX}{w:bB}{A:cf}{E:af->ar->Prop}{s:ar}{K:W.Frag}{x C:aj}{R:B8->ar->Prop}
theorem EE{ox:Obj}{od:Option Obj}{name:Str}{tk:Tok}{v:af}(X:K.In s.heap)(I:W.InstAt s.heap x ox C od)(hp:CA K C=true)(hn:W.findIn K (.ref C) name=aa ae)
  (h:wpAny (aK prog w) A.in1 (storeInOwnDict (.ref x) (.ref C) (.str name tk) name v false)
   (λfO s'=>match fO with|.done f=>R (.ok f) s' | .again c'=>c'.quiet=true/\codeAny (aK prog w) A c' R s') (λe s'=>R (.error e) s') s) :
  codeAny (aK prog w) A (.call (.builtin "object.__setattr__") ⟨[.ref x,.str name tk,v],[]⟩) R s:=by
 have SF:=PySem.F.store_object;obtain⟨cd,hc,ho⟩:=W.any_some hp;obtain⟨o1,o2,o3⟩:=Rm ho;have LD:W.Looks (aK prog w) s.heap (Cb (.ref x) (.type "object")) true:=
  I.type.andThen (W.looks_mroIn X (by unfold W.mroIn;rw[hc,jf,if_neg (by rw[o3];decide),o1]))
 refine mq SF.slot.plain SF.entry (@W.check_slot (aK prog w) _ _ s "object.__setattr__" "object" "__setattr__" (.ref x) [.str name tk,v] [] _ SF.kind SF.split LD (SF.args (.ref x) (.str name tk) v) ?_);have ml:W.Looks (aK prog w) s.heap (mroOf (.ref C)) cd.mro:=(W.looks_clsIn X hc).andThen .now;rw[W.osa_eq,refuse_eq];refine aC (aC (I.type.here (aC (ml.here ?_))));rw[ZF _ ho];exact be (aC (I.type.here (aC ((W.looks_findIn X hn).here (aC (be h))))))
theorem ZG{dx t:aj}{mA:Str->Option af}{name:Str}{v:af}{ns:List Str}{Q:Unit->ar->Prop}(X:K.In s.heap)(c:rX K C)(hn:W.findIn K (.ref C) name=aa ae)
  (hx:s.heap.get? x=aa (qk C (aa dx) t)) (oi:dx≠x) (n:s.heap.Ns1 dx mA) (hw:jE mA ns) (hsz:ns.length<sizeLine)
  (h:∀h',h'.Ns1 dx (λy=>if y=name then aa v else mA y)->fG dx s.heap h'->Q () { s with heap:=h',toks:=s.toks+2 }) :
  wpAny (aK prog w) A (DB (.ref x) name v) Q E s:=by
 obtain⟨od,ho,hl⟩:=Kr n;have J:W.InstAt s.heap x (qk C (aa dx) t) C (aa od):=⟨hx,rfl,rfl,ho⟩;refine W.set_plain X J c.sa (EE (s:={ s with toks:=s.toks+1 }) X J c.over hn ?_);obtain⟨cd,hc,wF⟩:=W.any_some c.hd;refine aC (be (aC (aC (mn hx (aC (W.Looks.here (s:={ s with toks:=s.toks+1 }) (W.looks_clsIn X hc) ?_))))));rw[wF];refine be (a:=aa dx) (aC (be (aC ?_)));refine wm (s:={ s with toks:=s.toks+1 }) n λh' vm He=>?_;obtain⟨oD,Qe,Qf,D7,D8,D9⟩:=vm.count (pW name v hw);refine aC (pX D7 (by rw[D8];exact pY (bt D9 (by rw[aL];omega))) ?_);exact be (h _ vm He)
theorem ZH{t:aj}{name:Str}{v:af}{Q:Unit->ar->Prop}(X:K.In s.heap)(c:rX K C)(hn:W.findIn K (.ref C) name=aa ae)
  (hx:s.heap.get? x=aa (qk C ae t))
  (h:∀h',h'.Ns1 s.heap.objs.size (λy=>if y=name then aa v else ae)->h'.get? x=aa (qk C (aa s.heap.objs.size) t)->(∀b o,b≠x->s.heap.get? b=aa o->h'.get? b=aa o)->Q () { s with heap:=h',toks:=s.toks+2 }) :
  wpAny (aK prog w) A (DB (.ref x) name v) Q E s:=by
 have J:W.InstAt s.heap x (qk C ae t) C ae:=⟨hx,rfl,rfl,trivial⟩;refine W.set_plain X J c.sa (EE (s:={ s with toks:=s.toks+1 }) X J c.over hn ?_);obtain⟨cd,hc,wF⟩:=W.any_some c.hd;obtain⟨hh,g,d,tk,os⟩:=s;refine aC (be (aC (aC (mn hx (aC (W.Looks.here (s:=⟨hh,g,d,tk+1,os⟩) (W.looks_clsIn X hc) ?_))))));rw[wF];have Ro:(hh.push { cls:=.type "dict",data:=.dict #[] }).get? x=aa (qk C ae t):=aA _ hx;have Rp:x≠hh.objs.size:=aS (aD hx);let h1:=(hh.push { cls:=.type "dict",data:=.dict #[] }).update x λo=>{ o with dict:=aa hh.objs.size };have gd:h1.get? hh.objs.size=aa { cls:=.type "dict",data:=.dict #[] }:=(lg _ _ _ _ Rp.symm).trans (Heap.get?_push_at rfl rfl);have gx:h1.get? x=aa (qk C (aa hh.objs.size) t):=gT _ Ro rfl;have nd:h1.Ns hh.objs.size (λ_=>ae):=⟨_,#[],_,gd,rfl,λe he=>absurd he (by simp),λ_=>rfl⟩;have main:wpAny (aK prog w) A.in1 (storeInDict hh.objs.size (.str name tk) name v) (λfO s'=>match fO with|.done f=>(match f with|.ret _=>Q () s' | _=>False) | .again c'=>False) (λ_ _=>False) ⟨h1,g,d,tk+1,os⟩:=by
  unfold storeInDict newKeyGuard;refine aC (be (aC (wm (sL nd) λh' Cn hs=>?_)));obtain⟨oD,Qe,Qf,D7,D8,D9⟩:=Cn.count (Within.cons name v Within.nil);refine aC (pX D7 (by rw[D8];exact pY (bt D9 (by rw[aL,ik,dB];omega))) ?_);refine be (h h' Cn ((hs.2 x Rp).trans gx) λb o hb q=>(hs.2 b (aS (aD q))).trans ((lg _ _ _ _ hb).trans (aA _ q)))
 rw[if_neg (by decide)];show wpAny _ _ (if(!true || !typeHasDict (.ref C))=true then pure ae else _) _ _ _;rw[if_neg (by simp[typeHasDict])];refine aC (wpAny_alloc' (aC (wpAny_update' Ro (be (bF main (λfO s' z=>?_) λ_ _ z=>z.elim)))));rcases fO with(_ | _ | _ | _) | _<;>first | exact z | exact z.elim
def pB(K:W.Frag)(C fI:aj):Bool:=match K.lookup C with
 | some ⟨.type "type",_,.cls cd,sl⟩=>(match cd.mro,sl.toList with
   |.ref C'::bm,[_,_,_,_,aa (.builtin n),_]=>C'==C&&n == "ValueError.__new__" && !cd.hasDel&&W.tailIn K iH bm&&W.nsOkIn K cd.ns&&W.nsIn K cd.ns "__init__" == aa (aa (.ref fI))
   |_,_=>false)
 |_=>false
theorem ZI{h:bO}{N:aj}{mN:Str->Option af}{n:Str}{v:af}(X:K.In h)(G:h.Ns N mN)(e:W.nsIn K N n=aa (aa v)):mN n=aa v:=by
 obtain⟨ob,ents,_,g1,g2,_,look⟩:=G;unfold W.nsIn at e
 split at e
 case h_1 q=>
  have z:=X _ _ q;rw[g1] at z;cases z;cases g2;rw[<- look];unfold sI wg;rw[<- uG]
  split at e
  case h_1 he=>cases e;rw[he];rfl
  case h_2=>split at e<;>cases e
 case h_2=>cases e
theorem EF{h:bO}{fI:aj}(X:K.In h)(q:pB K C fI=true) :
  ∃bm N nm qn bs hdct sn sub ab col dd k0 k1 k2 k3 k5 mN,h.get? C=aa (yU nm qn C N bs bm hdct sn sub ab col dd k0 k1 k2 k3 k5 "ValueError.__new__")/\h.Ns N mN/\mN "__init__" = aa (.ref fI)/\OwnTail h iH bm:=by
 unfold pB at q
 split at q
 .rename_i Q0 Cy slt look
  split at q
  .rename_i C2 AI j0 j1 j2 j3 Hs j5 em es
   simp only[b8,beq_iff_eq,mF] at q;obtain⟨⟨⟨⟨⟨c1,c2⟩,c3⟩,tl⟩,lW⟩,Le⟩:=q;subst c1 c2;have ob:=X _ _ look;obtain⟨a1,a2,a3,a4,a5,a6,a7,a8,a9,b1,b2⟩:=Cy;have em:a3=.ref C2::AI:=em;have c3:b2=false:=c3;have Ex:slt=#[j0,j1,j2,j3,aa (.builtin "ValueError.__new__"),j5]:=by
    obtain⟨l⟩:=slt;exact congrArg yV es
   rw[em,c3,Ex] at ob;exact⟨_,_,_,_,_,_,_,_,_,_,_,_,_,_,_,_,_,ob,.of_isNs (W.isNs_of_in X lW),ZI X (.of_isNs (W.isNs_of_in X lW)) Le,W.tail_of_in X tl⟩
  .cases q
 .cases q
theorem ZJ{B:aj}{pl:Sem Bool}{Q:af×List af->ar->Prop}(X:K.In s.heap)(hg:W.specialIn K (.ref B) "__getattribute__" = aa (aa (.builtin "type.__getattribute__")))
  (hr:W.readsIn K B (.type "type")=true) (e:W.findCls K (.ref B) (.type "type") "__init__" = aa (.val (.builtin "ValueError.__init__")))
  (h:Q (.builtin "ValueError.__init__",[]) { s with toks:=s.toks+1 }):wpAny (aK prog w) A (gM (.ref B) "__init__" pl) Q E s:=
 W.method_cls X hg (W.cls_value X hr e (by rfl) h)
theorem ZK{fI:aj}{dx:Option aj}{t:aj}{m:af}{Q:af->ar->Prop}(X:K.In s.heap)(q:pB K C fI=true)(hx:s.heap.get? x=aa (qk C dx t))
  (h:∀h' t' Hy,h'.get? x=aa (qk C dx t')->(∀b o,b≠x->s.heap.get? b=aa o->h'.get? b=aa o)->Q .none { s with heap:=h',toks:=Hy }) :
  wpAny (aK prog w) A (call (.builtin "ValueError.__init__") [.ref x,m]) Q E s:=by
 obtain⟨bm,N,nm,qn,bs,hdct,sn,sub,ab,col,dd,k0,k1,k2,k3,k5,mN,hC,hN,AJ,T⟩:=EF X q;have F:=dH;obtain⟨hh,g,d,tk,os⟩:=s;refine kZ (mq F.init.plain F.initEntry (wpAny_check_init_subT F T hC hx rfl ?_))
 wp_walk
 exact h _ hh.objs.size tk (by rw[gT _ (aA _ hx) rfl];rfl) λb o hb q=>(lg _ _ _ _ hb).trans (aA _ q)
structure Rq(h h':bO)(e C:aj):Prop where
 keeps:∀b o,h.get? b=aa o->h'.get? b=aa o
 new:h.objs.size<=e
 obj:∃t,h'.get? e=aa (qk C ae t)
theorem ZL{fI:aj}{oI:Obj}{us:List af}{Q:Fin->ar->Prop}(X:K.In s.heap)(q:pB K C fI=true)(hf:s.heap.get? fI=aa oI)(LF:oI.cls=.type "function")(c5:us.length<=sizeLine)
  (hq:∀h' e,Rq s.heap h' e C->wpAny (aK prog w) A (call (.ref fI) (.ref e::us)) (λr s'=>r=.none/\Q (.done (.ret (.ref e))) s') E { s with heap:=h' }) :
  wpAny (aK prog w) A (Builtin.«type.__call__» ⟨.ref C::us,[]⟩) Q E s:=by
 obtain⟨bm,N,nm,qn,bs,hdct,sn,sub,ab,col,dd,k0,k1,k2,k3,k5,mN,gC,gN,gi,T⟩:=EF X q;have F:=dH;obtain⟨hh,g,d,tk,os⟩:=s
 repeat (first | with_reducible refine eG gC ?_ | with_reducible refine wpAny_madeBy_exc gC ?_ | wp_step)
 refine codeAny_call_builtin_code (va _ F.quiet) (wpAny_check_new_subT F T gC ?_);refine codeAny_exc_new_subT F T gC ?_ c5;let h1:=(hh.push { cls:=.type "tuple",data:=.seq us.toArray }).push { cls:=.ref C,data:=.fields #[.ref hh.objs.size,.none,.none,.none,.bool false,.none] };have kp:∀b o,hh.get? b=aa o->h1.get? b=aa o:=λb o z=>aA _ (aA _ z);have ge:h1.get? (hh.objs.size+1)=aa { cls:=.ref C,data:=.fields #[.ref hh.objs.size,.none,.none,.none,.bool false,.none] }:=by
  have:=bj (hh.push { cls:=.type "tuple",data:=.seq us.toArray }) (o:=qk C ae hh.objs.size) rfl;rwa[gw] at this
 have Rt:=kp _ _ gC;have EG:(aO C::bm).contains (.ref C)=true:=by simp
 have ZM:h1.Ns N mN:=gN.keeps kp;show wpAny _ _ _ _ _ (⟨h1,g,d,tk,os⟩:ar);unfold Cb
 repeat (first | with_reducible refine eG ge ?_ | (with_reducible refine i6 Rt ?_;rw[EG]) | wp_step)
 show wpAny _ _ (B_ (.ref C) _) _ _ _;refine wpAny_typeLookup_tail Rt ZM (T.keeps kp) F.mroIs F.init.lookup ?_;rw[gi];refine jV (aC ?_);unfold bindSpecial;refine aC (wpAny_typeOf (T := "function") ⟨_,kp _ _ hf,LF⟩ ?_);rw[if_pos (by decide)];refine be (aC (bF (hq h1 (hh.objs.size+1) ⟨kp,h9 _,_,ge⟩) (λr s' z=>?_) λ_ _ z=>z));obtain⟨rfl,z⟩:=z
 wp_walk
 exact z
theorem ZN{fI:aj}{oI:Obj}{us:List af}{Q:af->ar->Prop}(X:K.In s.heap)(q:pB K C fI=true)(hf:s.heap.get? fI=aa oI)(LF:oI.cls=.type "function")(c5:us.length<=sizeLine)
  (hq:∀h' e,Rq s.heap h' e C->wpAny (aK prog w) (A.under (.builtin "type.__call__" ⟨.ref C::us,[]⟩)) (call (.ref fI) (.ref e::us)) (λr s'=>r=.none/\Q (.ref e) s') E { s with heap:=h' }) :
  wpAny (aK prog w) A (call (.ref C) us) Q E s:=by
 obtain⟨bm,N,nm,qn,bs,hdct,sn,sub,ab,col,dd,k0,k1,k2,k3,k5,mN,gC,gN,gi,T⟩:=EF X q;have r1:=tc_lookup;have r2:=tc_bind (.ref C);have isT:s.TypeIs (.ref C) "type":=⟨_,gC,rfl⟩;refine kZ (codeAny_of_tree ?_);show wpAny _ _ (callAny (.ref C) _) _ _ _;obtain⟨hh,g,d,tk,os⟩:=s
 repeat (any_goals (first | assumption | with_reducible refine eG gC ?_ | wp_step))
 refine⟨rfl,?_⟩;exact codeAny_call_builtin_at (va _ (by decide +kernel)) entry_typeCall (wpAny_check_type_call_sub gC (ZL X q hf LF c5 λh' e mk=>hq h' e mk))
theorem ZO{env:Env}{fI:aj}{m:Sem af}{Q:Flow->ar->Prop}(q:pB K C fI=true)(hd:A.handled=ae)
  (h:wpAny (aK prog w) A m (λv s1=>K.In s1.heap/\∃e t dx,v=.ref e/\s1.heap.get? e=aa (qk C dx t)/\E (.ref e) s1) E s):wpAny (aK prog w) A (raiseStmt env (aa m) ae) Q E s:=by
 unfold raiseStmt;refine aC (bF h (λv s1 z=>?_) λ_ _ z=>z);obtain⟨X,e,t,dx,rfl,ge,hE⟩:=z;obtain⟨bm,N,nm,qn,bs,hdct,sn,sub,ab,col,dd,k0,k1,k2,k3,k5,mN,gC,gN,gi,T⟩:=EF X q;have LG:(aO C::bm).contains (.type "BaseException")=true:=by rw[cS,T.hasType dH.hasBase,DL]
 obtain⟨hp,g,d,tk,os⟩:=s1;have ge:hp.get? e=aa { cls:=.ref C,dict:=dx,data:=.fields #[.ref t,.none,.none,.none,.bool false,.none] }:=ge
 repeat (first | with_reducible refine eG ge ?_ | with_reducible refine eG gC ?_ | (with_reducible refine i6 gC ?_;rw[LG]) | wp_step)
 exact wpAny_raiseNew_none hd hE
theorem ZP{env:Env}{fI:aj}{y:Str}{np c6 pos:Pos}{args:List bo}{Q:Flow->ar->Prop}(q:pB K C fI=true)(hd:A.handled=ae)(gm:(bJ c6 (av args env)).any (·.1)=false)
  (h:wpAny (aK prog w) A (eval (.Name y np) env) (λf s1=>f=.ref C/\wpAny (aK prog w) A (evalArgs (.ref C) true (bJ c6 (av args env)) []) (λa s2=>a.kw=[]/\K.In s2.heap /\
   wpAny (aK prog w) A (call (.ref C) a.pos) (λv s3=>K.In s3.heap/\∃e t dx,v=.ref e/\s3.heap.get? e=aa (qk C dx t)/\E (.ref e) s3) E s2) E s1) E s) :
  wpAny (aK prog w) A (exec (.Raise (aa (.Call (.Name y np) args [] c6)) ae pos) env) Q E s:=by
 rw[arm_exec_Raise];have core:wpAny (aK prog w) A (eval (.Call (.Name y np) args [] c6) env) (λv s3=>K.In s3.heap/\∃e t dx,v=.ref e/\s3.heap.get? e=aa (qk C dx t)/\E (.ref e) s3) E s:=by
  refine wpAny_Call_ofName (bF h (λf s1 z=>?_) λ_ _ z=>z);obtain⟨rfl,z⟩:=z;unfold jm;refine aC (jV (bF z (λa s2 y2=>aC (jU ?_)) λ_ _ z=>z));obtain⟨ap,ak⟩:=a;obtain⟨e1,X,y2⟩:=y2;obtain rfl:ak=[]:=e1;obtain⟨bm,N,nm,qn,bs,hdct,sn,sub,ab,col,dd,k0,k1,k2,k3,k5,mN,gC,gN,gi,T⟩:=EF X q;obtain⟨hp,g,d,tk,os⟩:=s2;simp only[gm];refine aC (wpAny_keeperOf_exc gC ?_);exact aC (bF y2 (λv s3 z=>aC (jV (yZ (be z)))) λ_ _ z=>z)
 exact aC (jU (ZO q hd (aC (bF core (λv s3 z=>aC (jU (be z))) λ_ _ z=>z))))
end
end L2
namespace L2
open PySem PySem.Spec PyProof.Rows
def iI(x C:aj)(dx:Option aj):HO:=.ext λh=>∃t,h.get? x=aa (qk C dx t)
def t7(H:Hp)(a:aj):Hp:=λb=>if b=a then ae else H b
theorem zr{H:Hp}{a b:aj}(h:b≠a):t7 H a b=H b:=by unfold t7;rw[if_neg h]
theorem EH{H:Hp}{a:aj}:t7 H a a=ae:=by unfold t7;rw[if_pos rfl]
theorem ZQ{H:Hp}{a:aj}{o:HO}(e:H a=aa o):upd H a o=H:=by
 funext b;unfold upd;split
 .rename_i z;rw[z,e]
 .rfl
section
variable {P:aX}{w:bB}{H:Hp}{h h':bO}{x C d:aj}{dx:Option aj}{t:aj}{fs wC:List (Str×V)}
theorem LH(e:h.get? x=aa (qk C dx t)):jY P w H h x (iI x C dx):=⟨⟨t,e⟩,⟨_,e⟩,λ_ _ z k=>let ⟨t,e⟩:=z;⟨t,k _ e⟩⟩
theorem Hz(ok:iE P w H h)(e:H x=aa (iI x C dx)):∃t,h.get? x=aa (qk C dx t):=(ok x _ e).1
theorem iE.rY(ok:iE P w H h)(hd:H d=aa (.xd fs))(k:∀b u,b≠d->h.get? b=aa u->h'.get? b=aa u)(new:jY P w (upd H d (.xd wC)) h' d (.xd wC)):iE P w (upd H d (.xd wC)) h':=λb u q=>by
 by_cases hb:b=d
 .subst hb;rw[fE] at q;cases q;exact new
 .rw[c4 hb] at q
  refine(ok b u q).lU (λc v hc r=>k c v ?_ r) (λc r=>?_) λc xs r=>?_
  .rintro rfl
   rcases hc with z | z
   .exact hb z.symm
   .rw[hd] at z;cases z
  .rw[c4];exact r
   rintro rfl;rw[hd] at r;cases r
  .rw[c4];exact r
   rintro rfl;rw[hd] at r;cases r
theorem Un.rY{fr ex:List aj}(hd:H d=aa (.xd fs))(k:∀b u,b≠d->h.get? b=aa u->h'.get? b=aa u)(ZR:∃u,h'.get? d=aa u):Un fr ex H (upd H d (.xd wC)) h h':=by
 have ne:∀b,H b=ae->b≠d:=λb n z=>by rw[z,hd] at n;cases n
 refine⟨λb u q n _ _=>k b u (ne b n) q,λb u q n _ _=>⟨u.slots,k b u (ne b n) q⟩,λb u q n _=>by rw[c4 (ne b n)];exact n,λb u q _=>?_,
  λb xs q=>?_,λb u xs q=>?_,λb ps q=>⟨#[],?_⟩⟩
 .by_cases z:b=d
  .subst z;exact ZR
  .exact⟨u,k b u z q⟩
 .rw[c4];exact q
  rintro rfl;rw[hd] at q;cases q
 .rw[c4];exact q
  rintro rfl;rw[hd] at q;cases q
 .rw[c4,q];simp
  rintro rfl;rw[hd] at q;cases q
theorem iE.t7(ok:iE P w H h){φ:bO->Prop}(e:H x=aa (.ext φ)):iE P w (t7 H x) h:=λb u q=>by
 by_cases hb:b=x
 .subst hb;rw[EH] at q;cases q
 .rw[zr hb] at q
  refine(ok b u q).lU (λ_ _ _ z=>z) (λc r=>?_) λc xs r=>?_
  .rw[zr];exact r
   rintro rfl;rw[e] at r;cases r
  .rw[zr];exact r
   rintro rfl;rw[e] at r;cases r
end
theorem mem_of_lookup{g:Str}{v:V}:∀{fs:List (Str×V)},fs.lookup g=aa v->g∈fs.map (·.1)
 | (k,u)::r,e=>by
   by_cases z:g=k
   .rw[z];exact ay
   .have hb:(g==k)=false:=beq_eq_false_iff_ne.mpr z
    rw[bQ,hb] at e;exact au _ (mem_of_lookup e)
theorem ZS{fs:List (Str×V)}{mA:Str->Option af}(r:∀f,iQ (fs.lookup f) (mA f)):jE mA (fs.map (·.1)):=λg hg=>by
 have z:=r g;cases e:fs.lookup g with
 |some v=>exact mem_of_lookup e
 | none=>
   rw[e] at z;cases q:mA g with
   |none=>exact absurd q hg
   |some u=>rw[q] at z;exact z.elim
def LI(K:W.Frag)(t:TA):TE:=fun σ H Q=>t σ H λvs H1=>∃a m C fI dx,vs=[.ref a,m]/\H1 a=aa (iI a C dx)/\pB K C fI=true/\Q .bY H1
section
variable {X:Cx}{E:XK}{B:aj}{y f:Str}{np cC pos jh:Pos}{e o value:bo}{es:List bo}{t:TA}{ta tv:TE}
theorem Ru{pl:Sem Bool}(hg:Gl X y)(hm:X.mg y=aa (.ref B))(h1:W.specialIn X.K (.ref B) "__getattribute__" = aa (aa (.builtin "type.__getattribute__")))
  (h2:W.readsIn X.K B (.type "type")=true) (h3:W.findCls X.K (.ref B) (.type "type") "__init__" = aa (.val (.builtin "ValueError.__init__"))) (ha:PA X (e::es) t)
  (i8:(y==("__debug__" : Str))=false:=by decide) (dI:av (e::es) X.env=(false,eval e X.env)::av es X.env:=by rfl) (gm:(bJ pos (av es X.env)).any (·.1)=false:=by rfl)
  (ht:eval (.Call (.Attribute (.Name y np) "__init__" cC) (e::es) [] pos) X.env=(do
   let ov <- eval (.Name y np) X.env
   kX cC.atName
   let (f,first) <- kY [ov] (gM ov "__init__" pl)
   jm pos f first (bJ pos (av (e::es) X.env)) (eY pos (cX [] X.env))):=by rfl) :
  PE X (.Call (.Attribute (.Name y np) "__init__" cC) (e::es) [] pos) (LI X.K t):=by
 intro ag s σ H Q I h;refine W.methodCall_KW (pl:=pl) (xj I hg hm ?_ i8) ht;refine ZJ I.jq h1 h2 h3 ?_;refine kI (dm (ha pos ag _ σ H _ (I.tok _) h) λus s1 cN=>?_) dI gm;obtain⟨vs,H1,I1,r1,a,m,C,fI,dx,ev,ea,q,z⟩:=cN;subst ev;cases r1 with
 | cons ra rm=>
   cases rm with
   | cons rm0 rn=>
     cases rn;obtain rfl:=(show _=aO a from ra);obtain⟨t0,hx⟩:=Hz I1.cB ea;refine ZK I1.jq q hx λh' t' Hy g k=>⟨.bY,H1,?_,rfl,z⟩;have I2:=I1.write (h':=h') (t':=Hy) (x:=a) (e:=a) (o:=iI a C dx) (by rw[ea];exact trivial) (.inl rfl) k ⟨_,g⟩ (LH g);rw[ZQ ea] at I2;exact I2
def HC(K:W.Frag)(ta tv:TE)(f:Str):TS:=λD σ H=>tv σ H λy H1=>ta σ H1 λx H2=>∃a C,x=.ref a/\rX K C/\W.findIn K (.ref C) f=aa ae /\
 ((H2 a=aa (iI a C ae)/\∀d,H2 d=ae->D.nx σ (upd (upd H2 a (iI a C (aa d))) d (.xd [(f,y)]))) \/
  ∃d fs,H2 a=aa (iI a C (aa d))/\H2 d=aa (.xd fs)/\fs.length<1000/\D.nx σ (upd H2 d (.xd (iu f y fs))))
theorem LJ(ha:PE X o ta)(hv:PE X value tv)(hs:eX value (aa (.Attribute o f jh)) pos.line X.env=pure false):PS X (.Assign [.Attribute o f jh] value pos) (HC X.K ta tv f):=by
 intro ag s σ H D I h;refine o7 (dm (hv ag s σ H _ I h) λu s1 cN=>?_) hs;obtain⟨y,H1,I1,ry,q⟩:=cN;refine dm (ha ag s1 σ H1 _ I1 q) λov s2 cN=>?_;obtain⟨x,H2,I2,rx,a,C,ex,c,n,q2⟩:=cN;subst ex;obtain rfl:ov=aO a:=rx;rcases q2 with⟨ea,q2⟩ | ⟨d,fs,ea,ed,hl,q2⟩
 .obtain⟨t,hx⟩:=Hz I2.cB ea
  refine ZH I2.jq c n hx λh' n1 g k=>⟨σ,_,?_,q2 s2.heap.objs.size (I2.cB.fresh (az _))⟩;have ha':a≠s2.heap.objs.size:=aS (aD hx);have Lc:H2 s2.heap.objs.size=ae:=I2.cB.fresh (az _);have na:∀b,H2 b=ae->b≠a:=λb z w=>by rw[w,ea] at z;cases z
  have nd:∀b v,s2.heap.get? b=aa v->b≠s2.heap.objs.size:=λb v z=>aS (aD z);have nk:∀b v,H2 b=aa v->(∀φ,v≠.ext φ)->upd (upd H2 a (iI a C (aa s2.heap.objs.size))) s2.heap.objs.size (.xd [(f,y)]) b=aa v:=λb v z w=>by
   rw[c4 (λq=>by rw[q,Lc] at z;cases z),c4 (λq=>by rw[q,ea] at z;cases z;exact w _ rfl)];exact z
  have un:Un X.fs [] H2 (upd (upd H2 a (iI a C (aa s2.heap.objs.size))) s2.heap.objs.size (.xd [(f,y)])) s2.heap h':=
   ⟨λb v z nn _ _=>k b v (na b nn) z,λb v z nn _ _=>⟨v.slots,k b v (na b nn) z⟩,λb v z nn _=>by rw[c4 (nd b v z),c4 (na b nn)];exact nn,
    λb v z _=>(by
     by_cases w:b=a
     .rw[w];exact⟨_,g⟩
     .exact⟨v,k b v w z⟩),
    λb xs z=>nk b _ z (by intro _ w;cases w),λb v xs z=>nk b _ z (by intro _ w;cases w),λb ps z=>⟨#[],by rw[nk b _ z (by intro _ w;cases w)];simp⟩⟩
  refine I2.un un λb v z=>?_;by_cases w:b=s2.heap.objs.size
  .subst w
   rw[fE] at z;cases z;refine⟨_,n1,λg'=>?_⟩;show iQ (bQ g' [(f,y)]) (if g'=f then aa u else ae);by_cases z2:g'=f
   .have hb:(g'==f)=true:=beq_iff_eq.mpr z2
    simp only[bQ,hb,if_pos z2];exact ry
   .have hb:(g'==f)=false:=beq_eq_false_iff_ne.mpr z2
    simp only[bQ,hb,if_neg z2];trivial
  .rw[c4 w] at z
   by_cases w2:b=a
   .subst w2
    rw[fE] at z;cases z;exact LH g
   .rw[c4 w2] at z
    refine(I2.cB b v z).lU (λc' v' hc r=>k c' v' ?_ r) (λc' r=>nk c' _ r (by intro _ w;cases w)) λc' xs r=>nk c' _ r (by intro _ w;cases w);rcases hc with q | q
    .rw[q];exact w2
    .rintro rfl;rw[ea] at q;cases q
 .obtain⟨t,hx⟩:=Hz I2.cB ea
  obtain⟨mA,n1,r⟩:=I2.cB d _ ed;have oi:d≠a:=λz=>by rw[z,ea] at ed;cases ed
  have wi:=ZS r;refine ZG I2.jq c n hx oi n1 wi (by rw[aN,dB];omega) λh' n2 sb=>⟨σ,_,?_,q2⟩;obtain⟨od,_,_,ZT,_⟩:=id n2;refine I2.un (Un.rY ed (λb v hb z=>(sb.2 b hb).trans z) ⟨od,ZT⟩) (I2.cB.rY ed (λb v hb z=>(sb.2 b hb).trans z) ⟨_,n2,λg=>?_⟩);show iQ ((iu f y fs).lookup g) (if g=f then aa u else mA g);rw[Ks];by_cases z:g=f
  .rw[if_pos z,if_pos z];exact ry
  .rw[if_neg z,if_neg z];exact r g
end
def HD(X:Cx)(E:XK):Prop:=∀(ag:List (aj×Obj)) (σ:St) (H1:Hp) (s1:ar) (H:Hp) (s:ar) (ea C t:aj) (dx:Option aj),Inv X ag σ H1 s1->s1.heap.objs.size<=ea->Inv X ag σ H s ->
 H ea=aa (iI ea C dx)->s.heap.get? ea=aa (qk C dx t)->E (.ref C) dx (t7 H ea)->X.xe (.ref ea) s
section
variable {P:aX}{w:bB}{K:W.Frag}{mg:Str->Option af}{base:bO}{N:List Str}{qual:Str}{scope:ig}{f:aj}{cd:af}{A:cf}{outer:List Env}{s₀:ar}{H₀:Hp}{E:XK}
theorem Rv:HD (fP (ee P w) P w K mg base N qual scope f cd A outer s₀ H₀ E) E:=by
 intro ag σ H1 s1 H s ea C t dx I1 CB I eH he hE;let X:=fP (ee P w) P w K mg base N qual scope f cd A outer s₀ H₀ E;let B:=W.hideAll s.heap (ea::j8 X.stack);have mM:∀b,b∈j8 X.stack↔b=X.env.locals\/b∈j8 outer:=λb=>by
  show b∈X.env.locals::j8 outer↔_;exact aF
 have old:∀b o,s₀.heap.get? b=aa o->b≠ea:=λb o e=>aS (ax (aD e) (bt I1.sz CB));have hF:s.heap.FunFrames B X.stack:=W.funFrames_hide I.stack λenv hv a ha=>au _ (fX.mpr ⟨env,hv,ha⟩);have hB:B.get? ea=ae:=W.hideAll_none _ ay;have kB:∀b o,s.heap.get? b=aa o->b≠ea->b∉j8 X.stack->B.get? b=aa o:=λb o e n1 n2=>W.hideAll_get _ e λm=>(aF.mp m).elim n1 n2;have LK:∀b v,H b=aa v->(∀φ,v≠.ext φ)->t7 H ea b=aa v:=λb v z q=>by
  rw[zr (λy=>by rw[y,eH] at z;cases z;exact q _ rfl)];exact z
 show wpAny (aK P w) X.A (rJ X.env (.ref ea)) _ _ _;refine bF (Cw (e:=ea) (d:=dx) La ⟨_,he,rfl⟩ (wpAny_leaving_firstW (Q:=λ_ s2=>∃h1,s2={ s with heap:=h1 }/\Heap.LeftW B X.stack ea (.ref C) (.ref t) s.heap h1)
  (base:=B) (env:=X.env) (outer:=outer) (L:=X.env.locals) (a0:=.ref t) I.ok.frames hF rfl he (λb o q=>W.of_hideAll _ q) hB rfl rfl rfl λh1 k=>⟨h1,rfl,k⟩)) (λ_ s2 z=>?_) λ_ _ z=>z.1
 obtain⟨⟨h1,rfl,k1,⟨_,_,k2⟩,k3,k4⟩,wI⟩:=z;refine⟨ea,.ref C,.ref t,B,t7 H ea,dx,rfl,I.os,I.bare,⟨k1,hB,k2,k3⟩,?_,λb o e n hb=>?_,λb o e n hb=>?_,λb o e n=>?_,λb o e hb=>?_,λb xs e=>?_,λb o u e=>?_,λb ps e=>?_,wI,hE⟩
 .refine iE.hide (iE.t7 I.cB eH) λb hb=>?_
  rcases aF.mp hb with z | z
  .rw[z];exact EH
  .by_cases q:b=ea
   .rw[q];exact EH
   .rw[zr q];exact I.lB b z
 .have hL:b≠X.env.locals:=aS (ax (aD e) I.ok.above)
  refine kB b o (I.base.keep b o e n hb (by simp[fP])) (old b o e) λm=>?_;rcases(mM b).mp m with z | z
  .exact hL z
  .exact hb z
 .obtain⟨sl,e1⟩:=I.base.slot b o e n hb (by simp[fP])
  obtain⟨o',e',nd⟩:=(I.stack.mem ((mM b).mpr (.inr hb))).2;rw[e1] at e';cases e';obtain⟨Ck,e2⟩:=k4 b _ e1 nd;exact⟨Ck,e2⟩
 .rw[zr (old b o e)];exact I.base.free b o e n (by simp[fP])
 .have hL:b≠X.env.locals:=aS (ax (aD e) I.ok.above)
  obtain⟨o',e1⟩:=I.base.there b o e (by simp[fP]);refine⟨o',kB b o' e1 (old b o e) λm=>?_⟩;rcases(mM b).mp m with z | z
  .exact hL z
  .exact hb z
 .exact LK b _ (I.base.tups b xs e) (by intro _ z;cases z)
 .exact LK b _ (I.base.frzs b o u e) (by intro _ z;cases z)
 .obtain⟨more,e1⟩:=I.base.tbls b ps e
  exact⟨more,LK b _ e1 (by intro _ z;cases z)⟩
end
def ZU(C:aj)(sp:Sp)(E:XK)(t:TA):TS:=λ_ σ H=>t σ H λvs H1=>vs.length<=sizeLine/\∀ea,H1 ea=ae ->
 sp (.ref ea::vs) (upd H1 ea (iI ea C ae)) (λv H2=>v=.bY/\∃dx,H2 ea=aa (iI ea C dx)/\E (.ref C) dx (t7 H2 ea)) E0
section
variable {X:Cx}{E:XK}{k:Nat}{C fI:aj}{fd:bI}{ps:List Str}{sp:Sp}{y:Str}{np c6 pos:Pos}{e:bo}{es:List bo}{t:TA}
theorem Rx(hx:HD X E)(hp:oS (ee X.prog X.w) X E0)(hc:X.calm=true)(q:pB X.K C fI=true)(hf:W.isFn X.K (.ref fI)=true)(F:bW X.prog X.w X.K X.mg X.base (ee X.prog X.w) k fI fd ps sp)(hr:d7 (k+1) X.A)(hb:mK X.K fd ps [])
  (hg:Gl X y) (hm:X.mg y=aa (.ref C)) (ha:PA X (e::es) t)
  (i8:(y==("__debug__" : Str))=false:=by decide) (he:av (e::es) X.env=(false,eval e X.env)::av es X.env:=by rfl) (gm:(bJ c6 (av es X.env)).any (·.1)=false:=by rfl) :
  PS X (.Raise (aa (.Call (.Name y np) (e::es) [] c6)) ae pos) (ZU C sp E t):=by
 intro ag s σ H D I h;refine ZP (K:=X.K) q (I.ok.hd hc) (by rw[he];show(false || (bJ c6 (av es X.env)).any (·.1))=false;rw[gm];rfl) (xj I hg hm ⟨rfl,?_⟩ i8);have a:=ha c6 ag s σ H _ I h;rw[he] at a ⊢;refine gX (dm a λus s2 ⟨vs,H2,I2,r,l,z⟩=>⟨rfl,I2.jq,?_⟩);obtain⟨oI,g1,g2⟩:∃oI,s2.heap.get? fI=aa oI/\oI.cls=.type "function":=by
  obtain⟨o,ho,GQ⟩:=bc.mp (show(X.K.lookup fI).map (·.cls)=aa (.type "function") from eq_of_beq hf);exact⟨o,I2.jq _ _ ho,GQ⟩
 refine ZN I2.jq q g1 g2 (by show us.length<=sizeLine;rw[<- r.length];exact l) λh' ea mk=>?_;obtain⟨t0,ZV⟩:=mk.obj;have I3:Inv X ag σ (upd H2 ea (iI ea C ae)) { s2 with heap:=h' }:=I2.laid (t':=s2.toks) mk.keeps mk.new (LH ZV);have r2:cj (V.ref ea::vs) (aO ea::us):=.cons rfl r;have sq:=z ea (I2.cB.fresh mk.new);have hl:(aO ea::us++[]).length=ps.length:=by
  rw[cE,<- r2.length];exact F.len _ _ _ _ sq
 have bb:=hb { s2 with heap:=h' } (aO ea::us) I3.jq hl;rw[cE] at bb;refine kZ (ja (F.run _ X.stack _ _ ⟨aO ea::us,[]⟩ (aO ea::us) _ _ E0 (hr.make C us []) (I3.Ax.make C us []) bb r2 sq) λr' s' hq=>?_);cases r' with
 |error ex=>exact hp ag σ _ _ ex s' I3 hq
 | ok fl=>
   cases fl with
   | ret u=>
     obtain⟨v,H',I4,rv,ev,dx,e4,q4⟩:=I3.after hq;subst ev;obtain⟨t4,g4⟩:=Hz I4.cB e4;exact⟨rv,I4.jq,ea,t4,dx,rfl,g4,hx ag σ H2 s2 H' s' ea C t4 dx I2 mk.new I4 e4 g4 q4⟩
   |next=>exact df hq
   |brk=>exact df hq
   |cont=>exact df hq
end
end L2
namespace L2
open PySem PySem.Spec PyProof.Rows PySem.Builtin PySem.Builtin.ObjectAttr
structure t8(K:W.Frag)(C:aj):Prop where
 ga:W.findIn K (.ref C) "__getattribute__" = aa (aa (.builtin "BaseException.__getattribute__"))
 gh:W.findIn K (.ref C) "__getattr__" = aa ae
 hd:W.hasDictIn K C=true
 over:CA K C=true
section
variable {prog:aX}{w:bB}{A:cf}{E:af->ar->Prop}{s:ar}{K:W.Frag}{x C:aj}
theorem ZW{ox:Obj}{od:Option Obj}{name:Str}{tk:Tok}{fill rR:Bool}{Q:af->ar->Prop}(X:K.In s.heap)(c:t8 K C)(J:W.InstAt s.heap x ox C od)
  (h:wpAny (aK prog w) A.in1 (Builtin.«object.__getattribute__» ⟨[.ref x,.str name tk],[]⟩) (λfO s'=>match fO with|.done (.ret v)=>wpAny (aK prog w) A (handedOut v) Q E s' | _=>False) (λ_ _=>False) s) :
  wpAny (aK prog w) A (getAttrBy (.ref x) (.str name tk) fill rR) Q E s:=by
 have FB:=PySem.F.attrBase_ValueError;have ZX:(onTheHeap (aO C)&&jb "BaseException.__getattribute__" == jb "object.__getattribute__")=false:=by
  rw[show(jb "BaseException.__getattribute__" == jb "object.__getattribute__")=false from by decide +kernel,Aa]
 obtain⟨cd,gcd,gv⟩:=W.any_some c.over;have LG:W.Looks (aK prog w) s.heap (Cb (.ref x) (.type "BaseException")) true:=
  J.type.andThen (W.looks_mroIn X (by unfold W.mroIn;rw[gcd,jf,if_neg (by rw[(Rm gv).2.2];decide),LC gv (by decide +kernel)]))
 unfold getAttrBy;refine jV (aC (J.type.here (aC ((W.looks_findIn X c.ga).here ?_))));dsimp only;rw[ZX,if_neg (by decide)];unfold getAttrByItsOwn;refine aC ((W.looks_hook (r:=ae) X (by rw[if_pos (by rfl)];exact c.gh)).here (aC (wpAny_attempt (jV ?_))));unfold callGetattribute;rw[show(rR&&onTheHeap (jb "BaseException.__getattribute__"))=false from by cases rR<;>rfl,if_neg (by decide)];unfold boundAndCalled;rw[FB.ga.bind];refine aC (be ?_);show wpAny _ _ (call (.builtin "BaseException.__getattribute__") [.ref x,.str name tk]) _ _ _;refine kZ (mq FB.ga.plain PySem.F.entry_bexc_ga ?_);refine @W.check_slot (aK prog w) _ _ s "BaseException.__getattribute__" "BaseException" "__getattribute__" (.ref x) [.str name tk] [] _ (by decide +kernel) (by decide +kernel) LG (PySem.F.args_bexc_ga (.ref x) (.str name tk)) ?_;refine bF h (λfO s' z=>?_) λ_ _ z=>z.elim;rcases fO with(_ | _ | _ | _) | _<;>first | exact z | exact z.elim
theorem LM{dx:aj}{ox:Obj}{mA:Str->Option af}{name:Str}{v:af}{rR:Bool}{Q:af->ar->Prop}(X:K.In s.heap)(c:t8 K C)(hn:W.findIn K (.ref C) name=aa ae)
  (hx:s.heap.get? x=aa ox) (hc:ox.cls=.ref C) (hd:ox.dict=aa dx) (ZY:W.notCls ox=true) (n:s.heap.Ns1 dx mA) (hv:mA name=aa v) (hh:W.handedIn v=true) (h:Q v { s with toks:=s.toks+1 }) :
  wpAny (aK prog w) A (wj (.ref x) name rR) Q E s:=by
 obtain⟨od,ho,hl⟩:=Kr n;have J:W.InstAt s.heap x ox C (aa od):=⟨hx,hc,ZY,by rw[hd];exact ho⟩;have L:=W.looks_find (M:=aK prog w) X J (W.findObj_own c.hd hn rfl (by rw[hl,hv]));unfold wj;refine aC (wpAny_mkText (ZW (s:={ s with toks:=s.toks+1 }) X c J ?_));unfold Builtin.«object.__getattribute__»;refine aC (be (aC (be (aC (W.Looks.here (s:={ s with toks:=s.toks+1 }) J.type (aC (W.Looks.here (s:={ s with toks:=s.toks+1 }) L ?_)))))));refine be ?_;show wpAny _ _ (handedOut v) _ _ _;rw[W.handedOut_of hh];exact be h
end
def oj(x C:aj)(dx:Option aj):HO:=.ext λh=>∃o,h.get? x=aa o/\o.cls=.ref C/\o.dict=dx/\W.notCls o=true
theorem ZZ{P:aX}{w:bB}{H:Hp}{h:bO}{x C:aj}{dx:Option aj}{o:Obj}(e:h.get? x=aa o)(e1:o.cls=.ref C)(e2:o.dict=dx)(e3:W.notCls o=true):jY P w H h x (oj x C dx):=
 ⟨⟨o,e,e1,e2,e3⟩,⟨o,e⟩,λ_ _ z k=>let ⟨o,e,e1⟩:=z;⟨o,k _ e,e1⟩⟩
theorem Z3{P:aX}{w:bB}{H:Hp}{h:bO}{x C:aj}{dx:Option aj}(ok:iE P w H h)(e:H x=aa (oj x C dx)):∃o,h.get? x=aa o/\o.cls=.ref C/\o.dict=dx/\W.notCls o=true:=(ok x _ e).1
def AZ(i:Nat)(D:Ends):Ends:={ nx:=fun σ H=>D.nx (σ.set i ae) H,bk:=fun σ H=>D.bk (σ.set i ae) H,ct:=fun σ H=>D.ct (σ.set i ae) H,rt:=D.rt }
def Z4(K:W.Frag)(D:aj)(i:Nat)(ts:TS)(tr:vy):vy:=λcls dx ea En σ H=>∃C tZ,cls=.ref C/\nX K C=aa tZ /\
 if(aO C::tZ).contains (.ref D)=true then(H ea=ae->ts (AZ i En) (σ.set i (aa (.ref ea))) (upd H ea (oj ea C dx))) else tr cls dx ea En σ H
section
variable {X:Cx}
theorem Ry{es:Array mE}(sk:StrKeys es){oc:af}{od:Option aj}{ep:Nat}{rj:Array (Option af)}(y:Str):nsLookByArray y ⟨oc,od,.dict es ep,rj⟩=pure (sI es y):=by
 unfold nsLookByArray sI wg;dsimp only;cases q:es.find? (λe=>e.key.isStr y) with
 |some en=>rfl
 | none=>
   have EI:(es.any λe=>e.refKey)=false:=by
    rw[Array.any_eq_false'];intro en LN;obtain⟨_,_,z⟩:=sk en LN;simp[sJ,z]
   dsimp only;rw[EI];rfl
theorem Z5{M:u3}{A:cf}{E:af->ar->Prop}{s:ar}{a:aj}{m:Str->Option af}{name:Str}{u:af}{Q:Bool->ar->Prop}(hn:s.heap.Ns a m)(hu:m name=aa u)
  (hQ:∀h' m',h'.Ns a m'->(∀y,y≠name->m' y=m y)->fG a s.heap h'->Q true { s with heap:=h' }):wpAny M A (nsDel a name) Q E s:=by
 obtain⟨o,es,ep,ho,hd,sk,look⟩:=hn;obtain⟨en,gen,_⟩:=bc.mp (show(es.find? λe=>e.key.isStr name).map (·.val)=aa u from(look name).trans hu);have gk:en.key.isStr name=true:=by
  have:=Array.find?_some (p:=λe:mE=>e.key.isStr name) gen;exact this
 have isIn:(es.any λe=>e.key.isStr name)=true:=Array.any_eq_true'.mpr ⟨en,oR gen,gk⟩;obtain⟨j,hj⟩:∃j,es.findIdx? (λe=>e.key.isStr name)=aa j:=by
  cases q:es.findIdx? (λe=>e.key.isStr name) with
  |some j=>exact⟨j,rfl⟩
  | none=>
    have:=(Array.findIdx?_eq_none_iff.mp q) en (oR gen);rw[gk] at this;cases this
 have has:nsHas name o=pure true:=by
  rw[nsHas_eq];unfold nsHasByArray;rw[hd];show(if(es.any λe=>e.key.isStr name)=true then _ else _)=_;rw[isIn];rfl
 unfold nsDel;refine aC (mn ho ?_);rw[has];refine aC (be (aC (wpAny_updatePart ho (be ?_))));obtain⟨oc,od,Z6,rj⟩:=o;have hd:Z6=.dict es ep:=hd;subst hd;have e1:Obj.dropName name ⟨oc,od,.dict es ep,rj⟩=⟨oc,od,.dict (es.eraseIdxIfInBounds j) (ep+1),rj⟩:=by rw[Obj.dropName_eq];simp only[Obj.dropNameByArray,hj]
 have Rz:=sk.erase j;refine hQ _ (sI (es.eraseIdxIfInBounds j)) ⟨_,_,_,gT _ ho (by rw[e1];rfl),by rw[e1],Rz,λ_=>rfl⟩ (λy hy=>?_) (JX ..);have l1:=nsLook_dropName hy ⟨oc,od,.dict es ep,rj⟩;rw[e1,nsLook_eq,Ry Rz,Ry sk] at l1;have l2:sI (es.eraseIdxIfInBounds j) y=sI es y:=by injection l1
 rw[l2,look]
theorem Inv.gone{ag:List (aj×Obj)}{σ:St}{H:Hp}{s:ar}{i:Nat}{x:Str}{h':bO}{t':Nat}{m m':Str->Option af}(I:Inv X ag σ H s)(hN:X.N.Nodup)(hi:X.N[i]?=aa x)(hk:∀u:V,X.kn[i]?≠aa (aa u))
  (hm:∀(j:Nat) (y:Str) (v:V),X.N[j]?=aa y->σ[j]?=aa (aa v)->Ai X.env.scope y->∃u,RelV v u/\Look X.env s.heap m y u)
  (hn:h'.Ns X.env.locals m') (LO:∀y,y≠x->m' y=m y) (sb:fG X.env.locals s.heap h'):Inv X ag (σ.set i ae) H { s with heap:=h',toks:=t' }:=by
 have hL:∀b o,X.s₀.heap.get? b=aa o->b≠X.env.locals:=λb o e=>aS (ax (aD e) I.ok.above);have Cm:i < σ.length:=by rw[I.len];exact(ao.mp hi).1
 refine⟨I.ok,I.os,I.bare,⟨λb o e n hb hx=>(sb.2 b (hL b o e)).trans (I.base.keep b o e n hb hx),λb o e n hb hx=>?_,I.base.free,λb o e hx=>?_,I.base.tups,I.base.frzs,I.base.tbls⟩,⟨m',hn,λj y v e1 e2 e3=>?_⟩,λy c e=>?_,I.free,I.iq,λp hp=>?_,λb ob e=>?_,?_,λj v e=>?_⟩
 .obtain⟨sl,e1⟩:=I.base.slot b o e n hb hx
  exact⟨sl,(sb.2 b (hL b o e)).trans e1⟩
 .obtain⟨o',e1⟩:=I.base.there b o e hx
  exact⟨o',(sb.2 b (hL b o e)).trans e1⟩
 .by_cases hj:j=i
  .subst hj
   rw[cY Cm] at e2;cases e2
  .rw[cn (bZ hj)] at e2
   obtain⟨u',r',q⟩:=hm j y v e1 e2 e3;refine⟨u',r',?_⟩;rcases q with⟨k,e⟩ | ⟨k,c,e,z⟩
   .exact .inl ⟨k,by rw[LO y λw=>hj (J9 hN e1 (w▸hi))];exact e⟩
   .exact .inr ⟨k,c,e,z.sameBut sb (I.xi y c e)⟩
 .obtain⟨w',z⟩:=I.cell y c e
  exact⟨w',z.sameBut sb (I.xi y c e)⟩
 .obtain⟨e,n,ne,nf,d⟩:=I.pin p hp
  exact⟨(sb.2 p.1 ne).trans e,n,ne,nf,d⟩
 .refine(I.cB b ob e).lU (λc w' hc q=>(sb.2 c ?_).trans q) (λ_ q=>q) λ_ _ q=>q
  rintro rfl;rcases hc with z | z
  .rw[<- z,I.free] at e;cases e
  .rw[I.free] at z;cases z
 .show(σ.set i ae).length=_
  rw[dW];exact I.len
 .by_cases hj:j=i
  .subst hj;exact absurd e (hk v)
  .rw[cn (bZ hj)];exact I.kn j v e
theorem HE{ag:List (aj×Obj)}{σ:St}{H:Hp}{s:ar}{A:cf}{E:af->ar->Prop}{i:Nat}{x:Str}{pos:Pos}{Q:Unit->ar->Prop}(I:Inv X ag σ H s)(hN:X.N.Nodup)(hi:X.N[i]?=aa x)(hx:X.env.scope.names.lookup x=aa .local)(hk:∀u:V,X.kn[i]?≠aa (aa u))
  (h:∀s',Inv X ag (σ.set i ae) H s'->Q () s'):wpAny (aK X.prog X.w) A (do bindName X.env x .none;y_ X.env x pos) Q E s:=by
 have EJ:(X.env.scope.kind==.class || (X.env.scope.kind==.module&&X.env.locals != X.env.globals))=false:=by rw[I.ok.kind];rfl
 have kx:X.env.kindOf x=aa .local:=hx;have Cm:i < σ.length:=by rw[I.len];exact(ao.mp hi).1
 refine aC (wpAny_bindName (GS (v:=.bY) I hN hi (.inl hx) rfl (λs1 I1=>?_) (.inr hx) hk));obtain⟨m,hn,hl⟩:=id I1.loc;obtain⟨u,_,lk⟩:=hl i x .bY hi (cY Cm) (.inl hx);have hu:m x=aa u:=by
  rcases lk with⟨_,z⟩ | ⟨z,_⟩
  .exact z
  .rw[kx] at z;rcases z with z | z<;>cases z
 unfold y_ unbindName deleteName;refine wpAny_onRaise (aC (yZ (aC ?_)));simp only[kx,EJ];rw[if_neg (by decide)];refine aC (Z5 hn hu λh' m' Cn LO sb=>?_);simp only[Bool.not_true,Bool.false_eq_true,if_false];refine be (yZ ?_);have I2:=I1.gone (t':=s1.toks) hN hi hk hl Cn LO sb;rw[gB] at I2;exact h _ I2
theorem Z7{D:aj}{xw:List af}{i:Nat}{x n:Str}{np pos:Pos}{b₀:cm}{kz:List cm}{hU:List gf}{ts:TS}{tr:vy}(hg:Gl X x)(hm:X.mg x=aa (.ref D))(qD:nX X.K D=aa xw)(hN:X.N.Nodup)(hi:X.N[i]?=aa n)(hx:X.env.scope.names.lookup n=aa .local)(hk:∀u:V,X.kn[i]?≠aa (aa u))
  (hs:∀ea,j9 (X.gO ea) (b₀::kz) ts) (hr:PH X hU tr) (i8:(x==("__debug__" : Str))=false:=by decide) :
  PH X (.ExceptHandler (aa (.Name x np)) (aa n) (b₀::kz) pos::hU) (Z4 X.K D i ts tr):=by
 intro ag s σ H En ea cls a0 dx B ok vz pz nW hd h;obtain⟨C,tZ,rfl,qC,h⟩:=h;have I:Inv X ag σ H s:=vz s.heap nW.1 (.refl _);have I':=I.gO ea;obtain⟨oe,Lg,Co⟩:=nW.there;refine z_ (w9 ?_) (by intro q;cases q);refine xj (X:=X.gO ea) I' hg hm ?_ i8;refine Q2 I.jq qC qD Lg Co ?_;cases c:(aO C::tZ).contains (.ref D) with
 | false=>
   rw[c] at h;exact hr ag s σ H En ea _ a0 dx B ok vz pz nW hd (by simpa using h)
 | true=>
   rw[c] at h;have h:H ea=ae->ts (AZ i En) (σ.set i (aa (.ref ea))) (upd H ea (oj ea C dx)):=by simpa using h
   refine codeAny_handlers_suite_as ?_;refine bF (Cw K9 hd.1 (lands_againW (Q:=λ_ s2=>∃h6,s2={ s with heap:=h6 }/\gA B X.stack ea (.ref C) a0 h6/\iO s.heap h6) nW λh6 t5 Ey=>⟨h6,rfl,t5,Ey⟩)) (λ_ s2 z=>?_) λ_ _ z=>z.1;obtain⟨⟨h6,rfl,t5,Ey⟩,oh,go,gd⟩:=z;obtain⟨o1,vs1,g1,g2,g3,_⟩:=t5.first
   have go:h6.get? ea=aa oh:=go;rw[g1] at go;cases go;have I6:Inv X ag σ (upd H ea (oj ea C dx)) { s with heap:=h6 }:=pz h6 _ t5.1 Ey (ZZ g1 g2 gd (by unfold W.notCls;rw[g3]));refine GS (X:=X.gO ea) (v:=.ref ea) (I6.gO ea) hN hi (.inl hx) rfl (λs3 I3=>?_) (.inr hx) hk;refine bF (hs ea ag s3 _ _ (AZ i En) I3 (h hd.2)) (λf s4 q=>?_) λ_ _ z=>z.elim;cases f with
   |next=>obtain⟨a,b,c,d⟩:=q;exact HE (c.jL ok) hN hi hx hk λs5 I5=>⟨_,_,I5,d⟩
   |brk=>obtain⟨a,b,c,d⟩:=q;exact HE (c.jL ok) hN hi hx hk λs5 I5=>⟨_,_,I5,d⟩
   |cont=>obtain⟨a,b,c,d⟩:=q;exact HE (c.jL ok) hN hi hx hk λs5 I5=>⟨_,_,I5,d⟩
   |ret u=>obtain⟨v,a,b,c,r,d⟩:=q;exact HE (c.jL ok) hN hi hx hk λs5 I5=>⟨v,_,_,I5,r,d⟩
variable {e:bo}{f:Str}{pos:Pos}{ta:TE}
def LP(K:W.Frag)(ta:TE)(f:Str):TE:=fun σ H Q=>ta σ H λx H1=>∃a C d fs v,x=.ref a/\H1 a=aa (oj a C (aa d))/\t8 K C/\W.findIn K (.ref C) f=aa ae/\H1 d=aa (.xd fs)/\fs.lookup f=aa v/\Q v H1
theorem Z8(he:PE X e ta)(hb:bU e f X.env (eval e X.env)=eval e X.env):PE X (.Attribute e f pos) (LP X.K ta f):=by
 intro ag s σ H Q I h;refine Qi hb (dm (he ag s σ H _ I h) λu s1 cN=>?_);obtain⟨x,H1,I1,rx,a,C,d,fs,v,ex,ea,c,n,ed,l,q⟩:=cN;subst ex;obtain rfl:u=aO a:=rx;obtain⟨o,g1,g2,g3,g4⟩:=Z3 I1.cB ea;obtain⟨mA,n1,r⟩:=I1.cB d _ ed;obtain⟨u',hu,ru⟩:=iQ.some_of (v:=v) (o:=mA f) (by rw[<- l];exact r f);exact LM I1.jq c n g1 g2 g3 g4 n1 hu (Qh ru) ⟨v,H1,I1.tok _,ru,q⟩
end
end L2
namespace MF
open PySem L2
inductive T where
 |bY | bl (b:Bool) | int (i:Int) | str (x:Str) | lst (ts:List T) | tup (ts:List T) | dic (kvs:List (b9×T)) | obj (k:Nat)
inductive bA where
 |lst (ts:List T) | dic (kvs:List (b9×T)) | ins (C:aj) (fs:List (Str×T)) | exc (C:aj) (fs:Option (List (Str×T))) | lck (kvs:List (b9×T))
abbrev bx:=List bA
structure Wd where
 HS:Hp
 μ:Nat->aj
 n:Nat
 Z:aj->Option (Obj×HO)
 P:Hp
structure Wd.le(W W':Wd):Prop where
 hs:∀a o,W.HS a=aa o->W'.HS a=aa o
 z:∀a o,W.Z a=aa o->W'.Z a=aa o
 p:∀a o,W.P a=aa o->W'.P a=aa o
 n:W.n<=W'.n
 μ:∀k,k<W.n->W'.μ k=W.μ k
theorem Wd.le.refl(W:Wd):W.le W:=⟨λ_ _ h=>h,λ_ _ h=>h,λ_ _ h=>h,az _,λ_ _=>rfl⟩
theorem Wd.le.trans{W W1 W2:Wd}(a:W.le W1)(b:W1.le W2):W.le W2:=
 ⟨λx o h=>b.hs x o (a.hs x o h),λx o h=>b.z x o (a.z x o h),λx o h=>b.p x o (a.p x o h),bt a.n b.n,λk h=>(b.μ k (ax h a.n)).trans (a.μ k h)⟩
mutual
def cy(W:Wd):T->V->Prop
 |.bY,v=>v=.bY
 |.bl b,v=>v=.bl b
 |.int i,v=>v=.int i
 |.str x,v=>v=.str x
 |.lst ts,v=>∃a vs,v=.ref a/\W.HS a=aa (.lst vs)/\aZ W ts vs
 |.tup ts,v=>∃a vs,v=.ref a/\W.HS a=aa (.tup vs)/\aZ W ts vs
 |.dic kvs,v=>∃a ks,v=.ref a/\W.HS a=aa (.dK ks)/\bP W kvs ks
 |.obj k,v=>v=.ref (W.μ k)/\k<W.n
def aZ(W:Wd):List T->List V->Prop
 |[],vs=>vs=[]
 |t::ts,vs=>∃v r,vs=v::r/\cy W t v/\aZ W ts r
def bP(W:Wd):List (b9×T)->List (b9×V)->Prop
 |[],vs=>vs=[]
 |(k,t)::ts,vs=>∃v r,vs=(k,v)::r/\cy W t v/\bP W ts r
end
mutual
theorem cy.mono{W W':Wd}(l:W.le W'):∀(t:T) (v:V),cy W t v->cy W' t v
 |.bY,_,h=>by simpa[cy] using h
 |.bl _,_,h=>by simpa[cy] using h
 |.int _,_,h=>by simpa[cy] using h
 |.str _,_,h=>by simpa[cy] using h
 | .lst ts,v,h=>by
   obtain⟨a,vs,e,h1,h2⟩:=(by simpa only[cy] using h:∃a vs,v=.ref a/\W.HS a=aa (.lst vs)/\aZ W ts vs);simp only[cy];exact⟨a,vs,e,l.hs _ _ h1,aZ.mono l ts vs h2⟩
 | .tup ts,v,h=>by
   obtain⟨a,vs,e,h1,h2⟩:=(by simpa only[cy] using h:∃a vs,v=.ref a/\W.HS a=aa (.tup vs)/\aZ W ts vs);simp only[cy];exact⟨a,vs,e,l.hs _ _ h1,aZ.mono l ts vs h2⟩
 | .dic ks,v,h=>by
   obtain⟨a,vs,e,h1,h2⟩:=(by simpa only[cy] using h:∃a vs,v=.ref a/\W.HS a=aa (.dK vs)/\bP W ks vs);simp only[cy];exact⟨a,vs,e,l.hs _ _ h1,bP.mono l ks vs h2⟩
 | .obj k,v,h=>by
   obtain⟨e,h1⟩:=(by simpa only[cy] using h:v=.ref (W.μ k)/\k<W.n);simp only[cy];exact⟨by rw[l.μ k h1];exact e,ax h1 l.n⟩
theorem aZ.mono{W W':Wd}(l:W.le W'):∀(ts:List T) (vs:List V),aZ W ts vs->aZ W' ts vs
 |[],vs,h=>by simpa only[aZ] using h
 | t::ts,vs,h=>by
   obtain⟨v,r,e,h1,h2⟩:=(by simpa only[aZ] using h:∃v r,vs=v::r/\cy W t v/\aZ W ts r);simp only[aZ];exact⟨v,r,e,cy.mono l t v h1,aZ.mono l ts r h2⟩
theorem bP.mono{W W':Wd}(l:W.le W'):∀(ts:List (b9×T)) (vs:List (b9×V)),bP W ts vs->bP W' ts vs
 |[],vs,h=>by simpa only[bP] using h
 | (k,t)::ts,vs,h=>by
   obtain⟨v,r,e,h1,h2⟩:=(by simpa only[bP] using h:∃v r,vs=(k,v)::r/\cy W t v/\bP W ts r);simp only[bP];exact⟨v,r,e,cy.mono l t v h1,bP.mono l ts r h2⟩
end
section
variable {W:Wd}
theorem oW{v:V}:cy W .bY v↔v=.bY:=by simp only[cy]
theorem i_{b:Bool}{v:V}:cy W (.bl b) v↔v=.bl b:=by simp only[cy]
theorem jA{i:Int}{v:V}:cy W (.int i) v↔v=.int i:=by simp only[cy]
theorem lP{x:Str}{v:V}:cy W (.str x) v↔v=.str x:=by simp only[cy]
theorem rZ{ts:List T}{v:V}:cy W (.lst ts) v↔∃a vs,v=.ref a/\W.HS a=aa (.lst vs)/\aZ W ts vs:=by simp only[cy]
theorem s_{ts:List T}{v:V}:cy W (.tup ts) v↔∃a vs,v=.ref a/\W.HS a=aa (.tup vs)/\aZ W ts vs:=by simp only[cy]
theorem xy{ts:List (b9×T)}{v:V}:cy W (.dic ts) v↔∃a vs,v=.ref a/\W.HS a=aa (.dK vs)/\bP W ts vs:=by simp only[cy]
theorem mO{k:Nat}{v:V}:cy W (.obj k) v↔v=.ref (W.μ k)/\k<W.n:=by simp only[cy]
theorem nE{vs:List V}:aZ W [] vs↔vs=[]:=by simp only[aZ]
theorem m3{t:T}{ts:List T}{vs:List V}:aZ W (t::ts) vs↔∃v r,vs=v::r/\cy W t v/\aZ W ts r:=by simp only[aZ]
theorem rq{vs:List (b9×V)}:bP W [] vs↔vs=[]:=by simp only[bP]
theorem r_{k:b9}{t:T}{ts:List (b9×T)}{vs:List (b9×V)}:bP W ((k,t)::ts) vs↔∃v r,vs=(k,v)::r/\cy W t v/\bP W ts r:=by simp only[bP]
theorem aZ.fR:aZ W [] []:=nE.mpr rfl
theorem aZ.eJ{t:T}{ts:List T}{v:V}{vs:List V}(h:cy W t v)(r:aZ W ts vs):aZ W (t::ts) (v::vs):=m3.mpr ⟨v,vs,rfl,h,r⟩
theorem aZ.length:∀{ts:List T} {vs:List V},aZ W ts vs->ts.length=vs.length
 |[],vs,h=>by rw[nE.mp h];rfl
 | t::ts,vs,h=>by
   obtain⟨v,r,e,_,h2⟩:=m3.mp h;subst e;simp[aZ.length h2]
theorem aZ.get:∀{ts:List T} {vs:List V} {i:Nat} {t:T},aZ W ts vs->ts[i]?=aa t->∃v,vs[i]?=aa v/\cy W t v
 |[],_,_,_,_,e=>by simp at e
 | t0::ts,vs,i,t,h,e=>by
   obtain⟨v,r,rfl,h1,h2⟩:=m3.mp h;cases i with
   |zero=>simp at e;subst e;exact⟨v,rfl,h1⟩
   | succ i=>
     obtain⟨v',e1,e2⟩:=aZ.get (i:=i) h2 (by simpa using e);exact⟨v',by simpa using e1,e2⟩
theorem aZ.get':∀{ts:List T} {vs:List V} {i:Nat} {v:V},aZ W ts vs->vs[i]?=aa v->∃t,ts[i]?=aa t/\cy W t v
 |[],_,_,_,h,e=>by rw[nE.mp h] at e;simp at e
 | t0::ts,vs,i,v',h,e=>by
   obtain⟨v,r,rfl,h1,h2⟩:=m3.mp h;cases i with
   |zero=>simp at e;subst e;exact⟨t0,rfl,h1⟩
   | succ i=>
     obtain⟨t,e1,e2⟩:=aZ.get' (i:=i) h2 (by simpa using e);exact⟨t,by simpa using e1,e2⟩
theorem aZ.append:∀{ts us:List T} {vs ws:List V},aZ W ts vs->aZ W us ws->aZ W (ts++us) (vs++ws)
 |[],_,_,_,h,g=>by rw[nE.mp h];exact g
 | t::ts,us,vs,ws,h,g=>by
   obtain⟨v,r,rfl,h1,h2⟩:=m3.mp h;exact aZ.eJ h1 (aZ.append h2 g)
theorem aZ.set{t:T}{v:V}(hv:cy W t v):∀{ts:List T} {vs:List V} (i:Nat),aZ W ts vs->aZ W (ts.set i t) (vs.set i v)
 |[],_,_,h=>by rw[nE.mp h];exact aZ.fR
 | t::ts,vs,i,h=>by
   obtain⟨v,r,rfl,h1,h2⟩:=m3.mp h;cases i with
   |zero=>exact aZ.eJ hv h2
   |succ i=>exact aZ.eJ h1 (aZ.set hv i h2)
theorem aZ.take:∀{ts:List T} {vs:List V} (i:Nat),aZ W ts vs->aZ W (ts.take i) (vs.take i)
 |ts,vs,0,_=>by simpa using aZ.fR
 |[],_,_,h=>by rw[nE.mp h];simpa using aZ.fR
 | t::ts,vs,i+1,h=>by
   obtain⟨v,r,rfl,h1,h2⟩:=m3.mp h;exact aZ.eJ h1 (aZ.take i h2)
theorem aZ.drop:∀{ts:List T} {vs:List V} (i:Nat),aZ W ts vs->aZ W (ts.drop i) (vs.drop i)
 |ts,vs,0,h=>by simpa using h
 |[],_,_,h=>by rw[nE.mp h];simpa using aZ.fR
 | t::ts,vs,i+1,h=>by
   obtain⟨v,r,rfl,h1,h2⟩:=m3.mp h;simpa using aZ.drop i h2
theorem aZ.eraseIdx:∀{ts:List T} {vs:List V} (i:Nat),aZ W ts vs->aZ W (ts.eraseIdx i) (vs.eraseIdx i)
 |[],_,_,h=>by rw[nE.mp h];simpa using aZ.fR
 | t::ts,vs,i,h=>by
   obtain⟨v,r,rfl,h1,h2⟩:=m3.mp h;cases i with
   |zero=>exact h2
   |succ i=>exact aZ.eJ h1 (aZ.eraseIdx i h2)
theorem bP.length:∀{ts:List (b9×T)} {vs:List (b9×V)},bP W ts vs->ts.length=vs.length
 |[],vs,h=>by rw[rq.mp h];rfl
 | (k,t)::ts,vs,h=>by
   obtain⟨v,r,e,_,h2⟩:=r_.mp h;subst e;simp[bP.length h2]
theorem bP.fR:bP W [] []:=rq.mpr rfl
theorem bP.eJ{k:b9}{t:T}{ts:List (b9×T)}{v:V}{vs:List (b9×V)}(h:cy W t v)(r:bP W ts vs):bP W ((k,t)::ts) ((k,v)::vs):=r_.mpr ⟨v,vs,rfl,h,r⟩
end
def eS(W:Wd):List (Str×T)->List (Str×V)->Prop
 |[],vs=>vs=[]
 |(k,t)::ts,vs=>∃v r,vs=(k,v)::r/\cy W t v/\eS W ts r
theorem eS.mono{W W':Wd}(l:W.le W'):∀{ts:List (Str×T)} {vs:List (Str×V)},eS W ts vs->eS W' ts vs
 |[],_,h=>h
 | (k,t)::ts,vs,h=>by
   obtain⟨v,r,e,h1,h2⟩:=h;exact⟨v,r,e,cy.mono l _ _ h1,eS.mono l h2⟩
theorem eS.length{W:Wd}:∀{ts:List (Str×T)} {vs:List (Str×V)},eS W ts vs->ts.length=vs.length
 |[],_,h=>by rw[show _=[] from h];rfl
 | (k,t)::ts,vs,h=>by
   obtain⟨v,r,rfl,h1,h2⟩:=h;simp[eS.length h2]
def XP(W:Wd):Option aj->Option (List (Str×T))->Prop
 |none,ae=>True
 |some d,aa fs=>∃ks,W.P d=aa (.xd ks)/\eS W fs ks
 |_,_=>False
theorem XP.mono{W W':Wd}(l:W.le W'):∀{dx:Option aj} {fs:Option (List (Str×T))},XP W dx fs->XP W' dx fs
 |none,ae,_=>trivial
 |some _,aa _,⟨ks,h1,h2⟩=>⟨ks,l.p _ _ h1,eS.mono l h2⟩
 |none,aa _,h=>h.elim
 |some _,ae,h=>h.elim
def kA(W:Wd)(H:Hp)(a:aj):bA->Prop
 |.lst ts=>∃vs,H a=aa (.lst vs)/\aZ W ts vs
 |.dic kvs=>∃ks,H a=aa (.dK ks)/\bP W kvs ks
 |.ins C fs=>∃dx ks,H a=aa (.ins C dx ks)/\eS W fs ks
 |.exc C fs=>∃dx,H a=aa (oj a C dx)/\XP W dx fs
 |.lck kvs=>∃o ks,H a=aa (.dY o (.dK ks))/\bP W kvs ks
theorem kA.mono{W W':Wd}(l:W.le W'){H:Hp}{a:aj}:∀{c:bA},kA W H a c->kA W' H a c
 |.lst ts,⟨vs,h1,h2⟩=>⟨vs,h1,aZ.mono l _ _ h2⟩
 |.dic ts,⟨vs,h1,h2⟩=>⟨vs,h1,bP.mono l _ _ h2⟩
 |.ins C ts,⟨dx,vs,h1,h2⟩=>⟨dx,vs,h1,eS.mono l h2⟩
 |.exc C fs,⟨dx,h1,h2⟩=>⟨dx,h1,h2.mono l⟩
 |.lck ts,⟨o,vs,h1,h2⟩=>⟨o,vs,h1,bP.mono l _ _ h2⟩
theorem kA.at{W:Wd}{H H':Hp}{a:aj}(e:H' a=H a):∀{c:bA},kA W H a c->kA W H' a c
 |.lst ts,⟨vs,h1,h2⟩=>⟨vs,e.trans h1,h2⟩
 |.dic ts,⟨vs,h1,h2⟩=>⟨vs,e.trans h1,h2⟩
 |.ins C ts,⟨dx,vs,h1,h2⟩=>⟨dx,vs,e.trans h1,h2⟩
 |.exc C ts,⟨dx,h1,h2⟩=>⟨dx,e.trans h1,h2⟩
 |.lck ts,⟨o,vs,h1,h2⟩=>⟨o,vs,e.trans h1,h2⟩
theorem kA.some{W:Wd}{H:Hp}{a:aj}:∀{c:bA},kA W H a c->∃o,H a=aa o/\∀y,o≠.own y
 |.lst ts,⟨vs,h1,h2⟩=>⟨_,h1,(by intro _ z;cases z)⟩
 |.dic ts,⟨vs,h1,h2⟩=>⟨_,h1,(by intro _ z;cases z)⟩
 |.ins C ts,⟨dx,vs,h1,h2⟩=>⟨_,h1,(by intro _ z;cases z)⟩
 |.exc C ts,⟨dx,h1,h2⟩=>⟨_,h1,(by intro _ z;cases z)⟩
 |.lck ts,⟨o,vs,h1,h2⟩=>⟨_,h1,(by intro _ z;cases z)⟩
def HF:HO->Prop
 |.dY _ _=>False
 |_=>True
def qm(H:Hp)(a:aj)(o:HO):Prop:=H a=aa o\/((∃q,H a=aa (.dY q o))/\∀xs,o≠.tup xs)
theorem qm.rd{H:Hp}{a:aj}{o:HO}(h:qm H a o):Rd H a o:=by
 rcases h with h | ⟨h,_⟩
 .exact .inl h
 .exact .inr h
theorem qm.ex{H:Hp}{a:aj}{o:HO}(h:qm H a o):∃u,H a=aa u:=by
 rcases h with h | ⟨⟨q,h⟩,_⟩
 .exact⟨_,h⟩
 .exact⟨_,h⟩
theorem qm.at{H H':Hp}{a:aj}{o:HO}(e:H' a=H a)(h:qm H a o):qm H' a o:=by
 rcases h with h | ⟨⟨q,h⟩,n⟩
 .exact .inl (e.trans h)
 .exact .inr ⟨⟨q,e.trans h⟩,n⟩
theorem qm.tup{H:Hp}{a:aj}{xs:List V}(h:qm H a (.tup xs)):H a=aa (.tup xs):=by
 rcases h with h | ⟨_,n⟩
 .exact h
 .exact absurd rfl (n xs)
structure cK(W:Wd)(S:bx)(H:Hp):Prop where
 sub:∀a o,W.HS a=aa o->qm H a o/\HF o
 len:S.length=W.n
 cell:∀k c,S[k]?=aa c->kA W H (W.μ k) c/\W.HS (W.μ k)=ae
 inj:∀j k,j<W.n->k<W.n->W.μ j=W.μ k->j=k
 zed:∀a q,W.Z a=aa q->H a=aa (.dY q.1 q.2)
 prv:∀a o,W.P a=aa o->H a=aa o/\W.HS a=ae/\∀k,k<W.n->W.μ k≠a
theorem cK.lt{W:Wd}{S:bx}{H:Hp}(r:cK W S H){k:Nat}{c:bA}(h:S[k]?=aa c):k<W.n:=by
 rw[<- r.len];exact(ao.mp h).1
inductive R(α:Type) where
 |ok (a:α) (S:bx)
 |exc (C:aj) (fs:Option (List (Str×T))) (S:bx)
 |bad
abbrev M(α:Type):=bx->R α
def M.pure{α:Type}(a:α):M α:=λS=>.ok a S
def M.bind{α β:Type}(m:M α)(f:α->M β):M β:=λS=>match m S with
 |.ok a S'=>f a S'
 |.exc C fs S'=>.exc C fs S'
 |.bad=>.bad
def M.bad{α:Type}:M α:=λ_=>.bad
def HG(W:Wd)(H:Hp):Option aj->Option (List (Str×T))->Prop
 |none,ae=>True
 |some d,aa fs=>∃ks,H d=aa (.xd ks)/\W.HS d=ae/\eS W fs ks
 |_,_=>False
def bu{α:Type}(E:XK)(W:Wd)(Q:α->Wd->bx->Hp->Prop):R α->Prop
 |.ok a S'=>∀W' H',W.le W'->cK W' S' H'->Q a W' S' H'
 |.exc C fs S'=>∀W' H' dx,W.le W'->cK W' S' H'->HG W' H' dx fs->E (.ref C) dx H'
 |.bad=>False
theorem bu.imp{α:Type}{E:XK}{W:Wd}{Q Q':α->Wd->bx->Hp->Prop}{r:R α}(h:bu E W Q r)(f:∀a W' S' H',W.le W'->cK W' S' H'->Q a W' S' H'->Q' a W' S' H'):bu E W Q' r:=by
 cases r with
 |ok a S=>exact λW' H' l rp=>f a W' S H' l rp (h W' H' l rp)
 |exc C fs S=>exact h
 |bad=>exact h
theorem bu.bind{α β:Type}{E:XK}{W:Wd}{Q:β->Wd->bx->Hp->Prop}{m:M α}{f:α->M β}{S:bx}(h:bu E W Q (M.bind m f S)) :
  bu E W (λa W1 S1 _=>bu E W1 Q (f a S1)) (m S):=by
 unfold M.bind at h;cases e:m S with
 | ok a S1=>
   rw[e] at h;have h:bu E W Q (f a S1):=h;intro W1 H1 l _;show bu E W1 Q (f a S1);cases e2:f a S1 with
   |ok b S2=>rw[e2] at h;exact λW2 H2 l2 rp=>h W2 H2 (l.trans l2) rp
   |exc C fs S2=>rw[e2] at h;exact λW2 H2 dx l2 rp=>h W2 H2 dx (l.trans l2) rp
   |bad=>rw[e2] at h;exact h
 |exc C fs S1=>rw[e] at h;exact h
 |bad=>rw[e] at h;exact h
abbrev Ev:=List (Option T)
def EK(W:Wd):Option T->Option V->Prop
 |none,_=>True
 |some t,aa v=>cy W t v
 |some _,ae=>False
def fK(W:Wd):Ev->St->Prop
 |[],σ=>σ=[]
 |o::ρ,σ=>∃s r,σ=s::r/\EK W o s/\fK W ρ r
theorem EK.mono{W W':Wd}(l:W.le W'):∀{o:Option T} {s:Option V},EK W o s->EK W' o s
 |none,_,_=>trivial
 |some t,aa v,h=>cy.mono l t v h
theorem fK.mono{W W':Wd}(l:W.le W'):∀{ρ:Ev} {σ:St},fK W ρ σ->fK W' ρ σ
 |[],_,h=>h
 |o::ρ,σ,⟨s,r,e,h1,h2⟩=>⟨s,r,e,h1.mono l,h2.mono l⟩
theorem fK.get{W:Wd}:∀{ρ:Ev} {σ:St} {i:Nat} {t:T},fK W ρ σ->ρ[i]?=aa (aa t)->∃v,σ[i]?=aa (aa v)/\cy W t v
 |[],_,_,_,_,e=>by simp at e
 | o :: ρ,σ,i,t,⟨s,r,e0,h1,h2⟩,e=>by
   subst e0;cases i with
   | zero=>
     simp at e;subst e;cases s with
     |none=>exact h1.elim
     |some v=>exact⟨v,rfl,h1⟩
   | succ i=>
     obtain⟨v,e1,e2⟩:=fK.get (i:=i) h2 (by simpa using e);exact⟨v,by simpa using e1,e2⟩
theorem fK.set{W:Wd}{t:T}{v:V}(hv:cy W t v):∀{ρ:Ev} {σ:St} (i:Nat),fK W ρ σ->fK W (ρ.set i (aa t)) (σ.set i (aa v))
 |[],σ,i,h=>by rw[show σ=[] from h];exact rfl
 | o::ρ,σ,i,⟨s,r,e0,h1,h2⟩=>by
   subst e0;cases i with
   |zero=>exact⟨_,_,rfl,hv,h2⟩
   |succ i=>exact⟨_,_,rfl,h1,fK.set hv i h2⟩
theorem fK.append{W:Wd}:∀{ρ ρ':Ev} {σ σ':St},fK W ρ σ->fK W ρ' σ'->fK W (ρ++ρ') (σ++σ')
 |[],_,σ,_,h,g=>by rw[show σ=[] from h];exact g
 | o::ρ,ρ',σ,σ',⟨s,r,e0,h1,h2⟩,g=>by
   subst e0;exact⟨_,_,rfl,h1,fK.append h2 g⟩
theorem fK.zt{W:Wd}{σ:St}:∀(n:Nat),σ.length=n->fK W (aT n ae) σ:=by
 induction σ with
 |nil=>intro n h;subst h;exact rfl
 | cons s σ ih=>
   intro n h;subst h;exact⟨s,σ,rfl,trivial,ih _ rfl⟩
theorem fK.vK{W:Wd}:∀{ts:List T} {vs:List V},aZ W ts vs->fK W (ts.map aa) (vs.map aa)
 |[],vs,h=>by rw[nE.mp h];exact rfl
 | t::ts,vs,h=>by
   obtain⟨v,r,rfl,h1,h2⟩:=m3.mp h;exact⟨_,_,rfl,h1,fK.vK h2⟩
theorem fK.Ez{W:Wd}{ρ:Ev}{σ:St}(h:fK W ρ σ):∀(js:List Nat),fK W (js.map λj=>(ρ[j]?).join) (zp σ js)
 |[]=>rfl
 | j :: js=>by
   refine⟨_,_,rfl,?_,fK.Ez h js⟩;show EK W ((ρ[j]?).join) ((σ[j]?).join);cases e:ρ[j]? with
   |none=>exact trivial
   | some o=>
     cases o with
     |none=>exact trivial
     | some t=>
       obtain⟨v,e1,h1⟩:=h.get e;rw[e1];exact h1
abbrev DE:=Ev->M T
abbrev DT:=Ev->M Bool
abbrev DA:=Ev->M (List T)
inductive Fl where
 |nx (ρ:Ev) | rt (t:T) | bk (ρ:Ev) | ct (ρ:Ev)
abbrev DS:=Ev->M Fl
abbrev QV(Q:VK):T->Wd->bx->Hp->Prop:=λt W' _ H'=>∀v,cy W' t v->Q v H'
def RE(E:XK)(f:DE):TE:=fun σ H Q=>∃W S ρ,cK W S H/\fK W ρ σ/\bu E W (QV Q) (f ρ S)
def RT(E:XK)(f:DT):TT:=fun σ H Q=>∃W S ρ,cK W S H/\fK W ρ σ/\bu E W (λb _ _ H'=>Q b H') (f ρ S)
def RA(E:XK)(f:DA):TA:=fun σ H Q=>∃W S ρ,cK W S H/\fK W ρ σ/\bu E W (λts W' _ H'=>∀vs,aZ W' ts vs->Q vs H') (f ρ S)
def QF(D:Ends):Fl->Wd->bx->Hp->Prop
 |.nx ρ',W',_,H'=>∀σ',fK W' ρ' σ'->D.nx σ' H'
 |.rt t,W',_,H'=>∀v,cy W' t v->D.rt v H'
 |.bk ρ',W',_,H'=>∀σ',fK W' ρ' σ'->D.bk σ' H'
 |.ct ρ',W',_,H'=>∀σ',fK W' ρ' σ'->D.ct σ' H'
def RS(E:XK)(f:DS):TS:=λD σ H=>∃W S ρ,cK W S H/\fK W ρ σ/\bu E W (QF D) (f ρ S)
theorem iJ{X:Cx}{e:bo}{t t':TE}(h:PE X e t)(w:∀σ H Q,t' σ H Q->t σ H Q):PE X e t':=λag s σ H Q I q=>h ag s σ H Q I (w σ H Q q)
theorem EL{X:Cx}{e:bo}{t t':TT}(h:PT X e t)(w:∀σ H Q,t' σ H Q->t σ H Q):PT X e t':=λag s σ H Q I q=>h ag s σ H Q I (w σ H Q q)
theorem RB{X:Cx}{e:List bo}{t t':TA}(h:PA X e t)(w:∀σ H Q,t' σ H Q->t σ H Q):PA X e t':=λp ag s σ H Q I q=>h p ag s σ H Q I (w σ H Q q)
theorem rz{X:Cx}{st:cm}{t t':TS}(h:PS X st t)(w:∀D σ H,t' D σ H->t D σ H):PS X st t':=λag s σ H D I q=>h ag s σ H D I (w D σ H q)
theorem RC{X:Cx}{st:List cm}{t t':TS}(h:j9 X st t)(w:∀D σ H,t' D σ H->t D σ H):j9 X st t':=λag s σ H D I q=>h ag s σ H D I (w D σ H q)
section
variable {W:Wd}{S:bx}{H:Hp}
theorem cK.jj(r:cK W S H){p:aj}(h:H p=ae):W.HS p=ae:=by
 cases e:W.HS p with
 |none=>rfl
 | some o=>
   obtain⟨u,z⟩:=(r.sub p o e).1.ex;rw[h] at z;cases z
theorem cK.cellAt(r:cK W S H){k:Nat}(h:k<W.n):∃c,S[k]?=aa c:=by
 rw[<- r.len] at h;exact⟨S[k],aW h⟩
theorem cK.μne(r:cK W S H){p:aj}(h:H p=ae){k:Nat}(hk:k<W.n):W.μ k≠p:=by
 intro e;obtain⟨c,hc⟩:=r.cellAt hk;obtain⟨o,ho,_⟩:=(r.cell k c hc).1.some;rw[e,h] at ho;cases ho
def Wd.dY(W:Wd)(p:aj)(o:HO):Wd:=⟨upd W.HS p o,W.μ,W.n,W.Z,W.P⟩
theorem Wd.kO{p:aj}{o:HO}(h:W.HS p=ae):W.le (W.dY p o):=⟨λa u e=>by
 show upd W.HS p o a=aa u;rw[c4 (λz=>by rw[z,h] at e;cases e)];exact e,λ_ _ e=>e,λ_ _ e=>e,az _,λ_ _=>rfl⟩
theorem qm.upd{p a:aj}{o u:HO}(hp:H p=ae)(h:qm H a u):qm (upd H p o) a u:=by
 obtain⟨w,z⟩:=h.ex;exact h.at (c4 (sS z hp))
theorem cK.extra(r:cK W S H){p:aj}(hp:H p=ae)(o:HO):cK W S (upd H p o) where
 sub:=λa u e=>⟨qm.upd hp (r.sub a u e).1,(r.sub a u e).2⟩
 len:=r.len
 cell:=λk c e=>⟨(r.cell k c e).1.at (c4 (r.μne hp (r.lt e))),(r.cell k c e).2⟩
 inj:=r.inj
 zed:=λa q e=>by
  have h2:=r.zed a q e;rw[c4 (sS h2 hp)];exact h2
 prv:=λa q e=>by
  obtain⟨h1,h2⟩:=r.prv a q e;exact⟨by rw[c4 (sS h1 hp)];exact h1,h2⟩
theorem cK.dY(r:cK W S H){p:aj}(hp:H p=ae)(o:HO)(no:HF o):cK (W.dY p o) S (upd H p o) where
 sub:=λa u e=>by
  by_cases z:a=p
  .subst z
   have e:upd W.HS a o a=aa u:=e;rw[fE] at e;cases e;exact⟨.inl fE,no⟩
  .have e:upd W.HS p o a=aa u:=e
   rw[c4 z] at e;exact⟨qm.upd hp (r.sub a u e).1,(r.sub a u e).2⟩
 len:=r.len
 cell:=λk c e=>⟨((r.cell k c e).1.at (c4 (r.μne hp (r.lt e)))).mono (Wd.kO (r.jj hp)),by
  show upd W.HS p o (W.μ k)=ae;rw[c4 (r.μne hp (r.lt e))];exact(r.cell k c e).2⟩
 inj:=r.inj
 zed:=λa q e=>by
  have h2:=r.zed a q e;rw[c4 (sS h2 hp)];exact h2
 prv:=λa q e=>by
  obtain⟨h1,h2,h3⟩:=r.prv a q e;have ne:=sS h1 hp;exact⟨by rw[c4 ne];exact h1,by show upd W.HS p o a=ae;rw[c4 ne];exact h2,h3⟩
def Wd.add(W:Wd)(p:aj):Wd:=⟨W.HS,λk=>if k=W.n then p else W.μ k,W.n+1,W.Z,W.P⟩
theorem Wd.iy{p:aj}:W.le (W.add p):=⟨λ_ _ e=>e,λ_ _ e=>e,λ_ _ e=>e,h9 _,λk h=>by
 show(if k=W.n then p else W.μ k)=W.μ k;rw[if_neg (aS h)]⟩
theorem Wd.gF{p:aj}:(W.add p).μ W.n=p:=by show(if W.n=W.n then p else _)=p;rw[if_pos rfl]
theorem Wd.fY{p:aj}{k:Nat}(h:k<W.n):(W.add p).μ k=W.μ k:=Wd.iy.μ k h
theorem cK.qK(r:cK W S H){p:aj}{H':Hp}(hp:H p=ae)(keep:∀a o,H a=aa o->H' a=aa o)(c:bA)(hc:kA (W.add p) H' p c):cK (W.add p) (S++[c]) H' where
 sub:=λa u e=>by
  obtain⟨h1,h2⟩:=r.sub a u e;obtain⟨w,z⟩:=h1.ex;exact⟨h1.at ((keep _ _ z).trans z.symm),h2⟩
 len:=by rw[aB,aV,r.len];rfl
 cell:=λk c' e=>by
  by_cases z:k<S.length
  .rw[aw z] at e
   have hk:k<W.n:=r.len▸z;rw[Wd.fY hk];obtain⟨h1,h2⟩:=r.cell k c' e;obtain⟨o,ho,_⟩:=h1.some;exact⟨(h1.at ((keep _ _ ho).trans ho.symm)).mono Wd.iy,h2⟩
  .have hk:k=W.n:=by
    have:=(ao.mp e).1;rw[aB,aV] at this;have l:=r.len;omega
   subst hk;rw[<- r.len,bE (az _),fM] at e;have e:c=c':=by simpa using e
   subst e;rw[Wd.gF];exact⟨hc,r.jj hp⟩
 inj:=λj k hj hk e=>by
  have hj:j<W.n+1:=hj;have hk:k<W.n+1:=hk;by_cases z:j<W.n
  .by_cases y:k<W.n
   .rw[Wd.fY z,Wd.fY y] at e;exact r.inj j k z y e
   .have:k=W.n:=by omega
    subst this;rw[Wd.fY z,Wd.gF] at e;exact absurd e (r.μne hp z)
  .have:j=W.n:=by omega
   subst this;by_cases y:k<W.n
   .rw[Wd.fY y,Wd.gF] at e
    exact absurd e.symm (r.μne hp y)
   .omega
 zed:=λa q e=>by
  exact keep _ _ (r.zed a q e)
 prv:=λa q e=>by
  obtain⟨h1,h2,h3⟩:=r.prv a q e;refine⟨keep _ _ h1,h2,λk hk z=>?_⟩;have hk:k<W.n+1:=hk;by_cases y:k<W.n
  .rw[Wd.fY y] at z;exact h3 k y z
  .have:k=W.n:=by omega
   subst this;rw[Wd.gF] at z;rw[z,h1] at hp;cases hp
theorem cK.m4(r:cK W S H){p:aj}(hp:H p=ae)(c:bA)(o:HO)(hc:kA (W.add p) (upd H p o) p c):cK (W.add p) (S++[c]) (upd H p o):=
 r.qK hp (λa u e=>by rw[c4 (sS e hp)];exact e) c hc
theorem cK.HH(r:cK W S H){k:Nat}{c:bA}(h:S[k]?=aa c)(nl:∀kvs,c≠.lck kvs):W.Z (W.μ k)=ae:=by
 cases e:W.Z (W.μ k) with
 |none=>rfl
 | some q=>
   have z:=r.zed _ _ e;have y:=(r.cell k c h).1;cases c with
   |lst ts=>obtain⟨_,h1,_⟩:=y;rw[z] at h1;cases h1
   |dic ts=>obtain⟨_,h1,_⟩:=y;rw[z] at h1;cases h1
   |ins _ ts=>obtain⟨_,_,h1,_⟩:=y;rw[z] at h1;cases h1
   |exc _ ts=>obtain⟨_,h1,_⟩:=y;rw[z] at h1;cases h1
   |lck ts=>exact absurd rfl (nl ts)
theorem cK.cellSet(r:cK W S H){k:Nat}{c:bA}(h:S[k]?=aa c)(c':bA)(o:HO)(hc:kA W (upd H (W.μ k) o) (W.μ k) c')(nz:W.Z (W.μ k)=ae:=by
  exact cK.HH (by assumption) (by assumption) (by intro _ z;cases z)):cK W (S.set k c') (upd H (W.μ k) o) where
 sub:=λa u e=>by
  have ne:a≠W.μ k:=λz=>by rw[z,(r.cell k c h).2] at e;cases e
  exact⟨(r.sub a u e).1.at (c4 ne),(r.sub a u e).2⟩
 len:=by rw[dW];exact r.len
 cell:=λj c2 e=>by
  by_cases z:j=k
  .subst z
   have hj:=r.lt h;rw[cY (by rw[r.len];exact hj)] at e;cases e;exact⟨hc,(r.cell j c h).2⟩
  .rw[cn (bZ z)] at e
   have hj:=r.lt e;exact⟨(r.cell j c2 e).1.at (c4 λy=>z (r.inj j k hj (r.lt h) y)),(r.cell j c2 e).2⟩
 inj:=r.inj
 zed:=λa q e=>by
  rw[c4 λz=>by rw[z,nz] at e;cases e];exact r.zed a q e
 prv:=λa q e=>by
  obtain⟨h1,h2,h3⟩:=r.prv a q e;exact⟨by rw[c4 (bZ (h3 k (r.lt h)))];exact h1,h2,h3⟩
def Wd.mP(W:Wd)(p:aj)(o:HO):Wd:=⟨W.HS,W.μ,W.n,W.Z,upd W.P p o⟩
theorem Wd.tf{p:aj}{o:HO}(h:W.P p=ae):W.le (W.mP p o):=⟨λ_ _ e=>e,λ_ _ e=>e,λa u e=>by
 show upd W.P p o a=aa u;rw[c4 (λz=>by rw[z,h] at e;cases e)];exact e,az _,λ_ _=>rfl⟩
theorem cK.xA(r:cK W S H){p:aj}(h:H p=ae):W.P p=ae:=by
 cases e:W.P p with
 |none=>rfl
 |some o=>rw[(r.prv p o e).1] at h;cases h
theorem cK.lG{W':Wd}{H':Hp}(r:cK W S H)(hs:W'.HS=W.HS)(hμ:W'.μ=W.μ)(hn:W'.n=W.n)(hz:W'.Z=W.Z)(c:∀{k:Nat} {c:bA},S[k]?=aa c->kA W H (W.μ k) c->kA W' H' (W.μ k) c)
  (sub:∀a o,W.HS a=aa o->qm H a o->qm H' a o) (z:∀a o u,W.Z a=aa (o,u)->H a=aa (.dY o u)->H' a=aa (.dY o u))
  (prv:∀a o,W'.P a=aa o->H' a=aa o/\W.HS a=ae/\∀k,k<W.n->W.μ k≠a):cK W' S H' where
 sub:=λa o e=>by rw[hs] at e;exact⟨sub a o e (r.sub a o e).1,(r.sub a o e).2⟩
 len:=by rw[hn];exact r.len
 cell:=λk c' e=>by rw[hs,hμ];exact⟨c e (r.cell k c' e).1,(r.cell k c' e).2⟩
 inj:=by rw[hn,hμ];exact r.inj
 zed:=λa o e=>by
  rw[hz] at e;exact z a o.1 o.2 e (r.zed a o e)
 prv:=λa o e=>by rw[hs,hn,hμ];exact prv a o e
mutual
theorem cy.hs{W W':Wd}(hs:W'.HS=W.HS)(hμ:W'.μ=W.μ)(hn:W'.n=W.n):∀(t:T) (v:V),cy W t v->cy W' t v
 |.bY,_,h=>oW.mpr (oW.mp h)
 |.bl _,_,h=>i_.mpr (i_.mp h)
 |.int _,_,h=>jA.mpr (jA.mp h)
 |.str _,_,h=>lP.mpr (lP.mp h)
 |.lst ts,v,h=>by obtain⟨a,vs,e,h1,h2⟩:=rZ.mp h;exact rZ.mpr ⟨a,vs,e,by rw[hs];exact h1,aZ.hs hs hμ hn ts vs h2⟩
 |.tup ts,v,h=>by obtain⟨a,vs,e,h1,h2⟩:=s_.mp h;exact s_.mpr ⟨a,vs,e,by rw[hs];exact h1,aZ.hs hs hμ hn ts vs h2⟩
 |.dic ts,v,h=>by obtain⟨a,vs,e,h1,h2⟩:=xy.mp h;exact xy.mpr ⟨a,vs,e,by rw[hs];exact h1,bP.hs hs hμ hn ts vs h2⟩
 |.obj k,v,h=>by obtain⟨e,h1⟩:=mO.mp h;exact mO.mpr ⟨by rw[hμ];exact e,by rw[hn];exact h1⟩
theorem aZ.hs{W W':Wd}(hs:W'.HS=W.HS)(hμ:W'.μ=W.μ)(hn:W'.n=W.n):∀(ts:List T) (vs:List V),aZ W ts vs->aZ W' ts vs
 |[],vs,h=>nE.mpr (nE.mp h)
 |t::ts,vs,h=>by obtain⟨v,r,e,h1,h2⟩:=m3.mp h;exact m3.mpr ⟨v,r,e,cy.hs hs hμ hn t v h1,aZ.hs hs hμ hn ts r h2⟩
theorem bP.hs{W W':Wd}(hs:W'.HS=W.HS)(hμ:W'.μ=W.μ)(hn:W'.n=W.n):∀(ts:List (b9×T)) (vs:List (b9×V)),bP W ts vs->bP W' ts vs
 |[],vs,h=>rq.mpr (rq.mp h)
 |(k,t)::ts,vs,h=>by obtain⟨v,r,e,h1,h2⟩:=r_.mp h;exact r_.mpr ⟨v,r,e,cy.hs hs hμ hn t v h1,bP.hs hs hμ hn ts r h2⟩
end
theorem eS.hs{W W':Wd}(hs:W'.HS=W.HS)(hμ:W'.μ=W.μ)(hn:W'.n=W.n):∀{ts:List (Str×T)} {vs:List (Str×V)},eS W ts vs->eS W' ts vs
 |[],_,h=>h
 |(k,t)::ts,vs,⟨v,r,e,h1,h2⟩=>⟨v,r,e,cy.hs hs hμ hn t v h1,eS.hs hs hμ hn h2⟩
theorem kA.hs{W W':Wd}(hs:W'.HS=W.HS)(hμ:W'.μ=W.μ)(hn:W'.n=W.n)(hp:∀d ks,W.P d=dQ (.xd ks)->W'.P d=dQ (.xd ks)){a:aj}:∀{c:bA},kA W H a c->kA W' H a c
 |.lst ts,⟨vs,h1,h2⟩=>⟨vs,h1,aZ.hs hs hμ hn _ _ h2⟩
 |.dic ts,⟨vs,h1,h2⟩=>⟨vs,h1,bP.hs hs hμ hn _ _ h2⟩
 |.ins C ts,⟨dx,vs,h1,h2⟩=>⟨dx,vs,h1,eS.hs hs hμ hn h2⟩
 |.lck ts,⟨o,vs,h1,h2⟩=>⟨o,vs,h1,bP.hs hs hμ hn _ _ h2⟩
 |.exc C ae,⟨ae,h1,h2⟩=>⟨ae,h1,trivial⟩
 |.exc C (dQ fs),⟨dQ d,h1,⟨ks,h2,h3⟩⟩=>⟨dQ d,h1,ks,hp d ks h2,eS.hs hs hμ hn h3⟩
 |.exc C ae,⟨dQ _,_,h2⟩=>h2.elim
 |.exc C (dQ _),⟨ae,_,h2⟩=>h2.elim
theorem cK.xB(r:cK W S H){p:aj}(hp:H p=ae)(o:HO):cK (W.mP p o) S (upd H p o):=
 r.lG rfl rfl rfl rfl (λe c=>kA.hs (W:=W) (W':=W.mP p o) rfl rfl rfl (λd ks z=>by
  show upd W.P p o d=_;rw[c4 (λq=>by have y:=(r.prv d _ z).1;rw[q,hp] at y;cases y)];exact z) (kA.at (c4 (r.μne hp (r.lt e))) c)) (λa u _ h=>qm.upd hp h) (λa q u _ h=>by rw[c4 (sS h hp)];exact h) λa u e=>by
  have e:upd W.P p o a=aa u:=e;by_cases z:a=p
  .subst z
   rw[fE] at e;cases e;exact⟨fE,r.jj hp,λk hk=>r.μne hp hk⟩
  .rw[c4 z] at e ⊢
   exact r.prv a u e
theorem cK.xC(r:cK W S H){p:aj}{o:HO}(hp:W.P p=aa o)(nx:∀ks,o≠.xd ks)(Z9:∀q u,o≠.dY q u)(o':HO):cK (W.mP p o') S (upd H p o'):=by
 obtain⟨h1,h2,h3⟩:=r.prv p o hp;have ne:∀a u,W.HS a=aa u->a≠p:=λa u e z=>by rw[z,h2] at e;cases e
 refine r.lG rfl rfl rfl rfl (λe c=>kA.hs (W:=W) (W':=W.mP p o') rfl rfl rfl (λd ks z=>by
  show upd W.P p o' d=_;rw[c4 (λq=>by rw[q,hp] at z;cases z;exact nx _ rfl)];exact z) (kA.at (c4 (h3 _ (r.lt e))) c)) (λa u e h=>h.at (c4 (ne a u e))) (λa q u e h=>by rw[c4 (λz=>by rw[z,h1] at h;cases h;exact Z9 _ _ rfl)];exact h) λa u e=>?_
 have e:upd W.P p o' a=aa u:=e;by_cases z:a=p
 .subst z
  rw[fE] at e;cases e;exact⟨fE,h2,h3⟩
 .rw[c4 z] at e ⊢
  exact r.prv a u e
def Wd.ic(W:Wd)(p:aj):Wd:=⟨W.HS,W.μ,W.n,W.Z,λa=>if a=p then ae else W.P a⟩
theorem cK.ic(r:cK W S H)(p:aj)(nx:∀ks,W.P p≠aa (.xd ks)):cK (W.ic p) S H:=
 r.lG rfl rfl rfl rfl (λe c=>kA.hs (W:=W) (W':=W.ic p) rfl rfl rfl (λd ks z=>by
  show(if d=p then ae else W.P d)=_;rw[if_neg (λq=>by rw[q] at z;exact nx _ z)];exact z) c) (λa u _ h=>h) (λa q u _ h=>h) λa u e=>by
  have e:(if a=p then ae else W.P a)=aa u:=e;by_cases z:a=p
  .rw[if_pos z] at e;cases e
  .rw[if_neg z] at e;exact r.prv a u e
theorem cK.xD(r:cK W S H){p:aj}{o:HO}(hp:W.P p=aa o)(no:HF o)(nx:∀ks,o≠.xd ks):cK ((W.ic p).dY p o) S H:=by
 obtain⟨h1,h2,h3⟩:=r.prv p o hp;have r':=r.ic p (λks z=>by rw[hp] at z;cases z;exact nx _ rfl);have l:(W.ic p).le ((W.ic p).dY p o):=Wd.kO h2;refine⟨λa u e=>?_,r.len,λk c e=>⟨(r'.cell k c e).1.mono l,?_⟩,r.inj,λa q e=>?_,λa u e=>?_⟩
 .have e:upd W.HS p o a=aa u:=e
  by_cases z:a=p
  .subst z
   rw[fE] at e;cases e;exact⟨.inl h1,no⟩
  .rw[c4 z] at e;exact r.sub a u e
 .show upd W.HS p o (W.μ k)=ae
  rw[c4 (h3 k (r.lt e))];exact(r.cell k c e).2
 .exact r'.zed a q e
 .obtain⟨g1,g2,g3⟩:=r'.prv a u e
  refine⟨g1,?_,g3⟩;show upd W.HS p o a=ae;by_cases z:a=p
  .have e:(if a=p then ae else W.P a)=aa u:=e
   rw[if_pos z] at e;cases e
  .rw[c4 z];exact g2
theorem cK.vL(r:cK W S H){p:aj}{o:HO}(hp:W.P p=aa o)(nx:∀ks,o≠.xd ks)(c:bA)(hc:kA ((W.ic p).add p) H p c):cK ((W.ic p).add p) (S++[c]) H:=by
 obtain⟨h1,h2,h3⟩:=r.prv p o hp;have r':=r.ic p (λks z=>by rw[hp] at z;cases z;exact nx _ rfl);have l:(W.ic p).le ((W.ic p).add p):=Wd.iy;refine⟨r.sub,by rw[aB,aV,r.len];rfl,λk c' e=>?_,λj k hj hk e=>?_,r'.zed,λa u e=>?_⟩
 .by_cases z:k<S.length
  .rw[aw z] at e
   have hk:k<W.n:=r.len▸z;rw[show((W.ic p).add p).μ k=W.μ k from Wd.fY (W:=W.ic p) hk];exact⟨(r'.cell k c' e).1.mono l,(r.cell k c' e).2⟩
  .have hk:k=W.n:=by
    have:=(ao.mp e).1;rw[aB,aV] at this;have l:=r.len;omega
   subst hk;rw[<- r.len,bE (az _),fM] at e;have e:c=c':=by simpa using e
   subst e;have hμ:((W.ic p).add p).μ W.n=p:=Wd.gF (W:=W.ic p);rw[hμ];exact⟨hc,h2⟩
 .have hj:j<W.n+1:=hj
  have hk:k<W.n+1:=hk;have hμ:((W.ic p).add p).μ W.n=p:=Wd.gF (W:=W.ic p);by_cases z:j<W.n
  .have ej:((W.ic p).add p).μ j=W.μ j:=Wd.fY (W:=W.ic p) z
   by_cases y:k<W.n
   .have ek:((W.ic p).add p).μ k=W.μ k:=Wd.fY (W:=W.ic p) y
    rw[ej,ek] at e;exact r.inj j k z y e
   .have:k=W.n:=by omega
    subst this;rw[ej,hμ] at e;exact absurd e (h3 j z)
  .have:j=W.n:=by omega
   subst this;by_cases y:k<W.n
   .have ek:((W.ic p).add p).μ k=W.μ k:=Wd.fY (W:=W.ic p) y
    rw[ek,hμ] at e;exact absurd e.symm (h3 k y)
   .omega
 .obtain⟨g1,g2,g3⟩:=r'.prv a u e
  refine⟨g1,g2,λk hk z=>?_⟩;have hk:k<W.n+1:=hk;by_cases y:k<W.n
  .rw[show((W.ic p).add p).μ k=W.μ k from Wd.fY (W:=W.ic p) y] at z;exact g3 k y z
  .have:k=W.n:=by omega
   subst this;rw[show((W.ic p).add p).μ W.n=p from Wd.gF (W:=W.ic p)] at z;have e:(if a=p then ae else W.P a)=aa u:=e;rw[if_pos z.symm] at e;cases e
end
def cI(S:bx):T->Option (List T)
 |.lst ts=>aa ts
 | .obj k=>match S[k]? with
   |some (.lst ts)=>aa ts
   |_=>ae
 |_=>ae
def ju(S:bx):T->Option (List T)
 |.tup ts=>aa ts
 |t=>cI S t
def m6(S:bx):T->Option (List (b9×T))
 |.dic ts=>aa ts
 | .obj k=>match S[k]? with
   |some (.dic ts)=>aa ts
   |_=>ae
 |_=>ae
section
variable {W:Wd}{S:bx}{H:Hp}
theorem LQ{k:Nat}{ts:List T}(h:cI S (.obj k)=aa ts):S[k]?=aa (.lst ts):=by
 unfold cI at h;cases e:S[k]? with
 |none=>simp[e] at h
 |some c=>cases c<;>simp[e] at h;subst h;rfl
theorem Z_{k:Nat}{ts:List (b9×T)}(h:m6 S (.obj k)=aa ts):S[k]?=aa (.dic ts):=by
 unfold m6 at h;cases e:S[k]? with
 |none=>simp[e] at h
 |some c=>cases c<;>simp[e] at h;subst h;rfl
theorem cK.list(r:cK W S H){t:T}{v:V}{ts:List T}(d:cy W t v)(h:cI S t=aa ts):∃a vs,v=.ref a/\Rd H a (.lst vs)/\aZ W ts vs:=by
 cases t with
 | lst xs=>
   have e:xs=ts:=by simpa[cI] using h
   subst e;obtain⟨a,vs,rfl,h1,h2⟩:=rZ.mp d;exact⟨a,vs,rfl,(r.sub a _ h1).1.rd,h2⟩
 | obj k=>
   obtain⟨rfl,hk⟩:=mO.mp d;obtain⟨⟨vs,h1,h2⟩,_⟩:=r.cell k _ (LQ h);exact⟨_,vs,rfl,.inl h1,h2⟩
 |_=>simp[cI] at h
theorem cK.seq(r:cK W S H){t:T}{v:V}{ts:List T}(d:cy W t v)(h:ju S t=aa ts):∃a vs,v=.ref a/\(Rd H a (.lst vs)\/Rd H a (.tup vs))/\aZ W ts vs:=by
 cases t with
 | tup xs=>
   have e:xs=ts:=by simpa[ju] using h
   subst e;obtain⟨a,vs,rfl,h1,h2⟩:=s_.mp d;exact⟨a,vs,rfl,.inr (r.sub a _ h1).1.rd,h2⟩
 |lst xs=>obtain⟨a,vs,e,h1,h2⟩:=r.list d (by simpa[ju] using h);exact⟨a,vs,e,.inl h1,h2⟩
 |obj k=>obtain⟨a,vs,e,h1,h2⟩:=r.list d (by simpa[ju] using h);exact⟨a,vs,e,.inl h1,h2⟩
 |_=>simp[ju,cI] at h
theorem cK.dict(r:cK W S H){t:T}{v:V}{ts:List (b9×T)}(d:cy W t v)(h:m6 S t=aa ts):∃a vs,v=.ref a/\Rd H a (.dK vs)/\bP W ts vs:=by
 cases t with
 | dic xs=>
   have e:xs=ts:=by simpa[m6] using h
   subst e;obtain⟨a,vs,rfl,h1,h2⟩:=xy.mp d;exact⟨a,vs,rfl,(r.sub a _ h1).1.rd,h2⟩
 | obj k=>
   obtain⟨rfl,hk⟩:=mO.mp d;obtain⟨⟨vs,h1,h2⟩,_⟩:=r.cell k _ (Z_ h);exact⟨_,vs,rfl,.inl h1,h2⟩
 |_=>simp[m6] at h
end
def ah(i:Nat):DE:=fun ρ=>match ρ[i]? with
 |some (aa t)=>M.pure t
 |_=>M.bad
def eC(t:T):DE:=λ_=>M.pure t
def e2(g:T->T->M T)(fa fb:DE):DE:=fun ρ=>(fa ρ).bind λx=>(fb ρ).bind λy=>g x y
def e1(g:T->M T)(fa:DE):DE:=fun ρ=>(fa ρ).bind g
def aJ:DA:=λ_=>M.pure []
def a_(fa:DE)(r:DA):DA:=fun ρ=>(fa ρ).bind λt=>(r ρ).bind λts=>M.pure (t::ts)
section
variable {X:Cx}{E:XK}{a b e:bo}{es:List bo}{fa fb:DE}{fr:DA}{pos:Pos}
theorem Z'{i:Nat}{σ:St}{H:Hp}{Q:VK}(h:RE E (ah i) σ H Q):lC i σ H Q:=by
 obtain⟨W,S,ρ,r,env,p⟩:=h;unfold ah at p;cases e:ρ[i]? with
 |none=>rw[e] at p;exact p.elim
 | some o=>
   cases o with
   |none=>rw[e] at p;exact p.elim
   | some t=>
     rw[e] at p;obtain⟨v,e1,d⟩:=env.get e;exact⟨v,e1,p W H (Wd.le.refl W) r v d⟩
theorem ev(i:Nat){x:Str}(hN:X.N[i]?=aa x:=by rfl)(hv:Ai X.env.scope x:=by first | exact dJ rfl | exact cz (dJ rfl) | exact cz (cz rfl))(hd:(x==("__debug__" : Str))=false:=by decide)
 (tT:(x==("__classdict__" : Str))=false:=by decide):PE X (.Name x pos) (RE E (ah i)):=iJ (pv i hN hv hd tT) λ_ _ _=>Z'
theorem vM{t:T}{v:V}(hd:∀W,cy W t v){σ:St}{H:Hp}{Q:VK}(h:RE E (eC t) σ H Q):Q v H:=by
 obtain⟨W,S,ρ,r,env,p⟩:=h;exact p W H (Wd.le.refl W) r v (hd W)
theorem d8{i j}:PE X (.Constant (.int i) j pos) (RE E (eC (.int i))):=iJ WM λ_ _ _=>vM λW=>jA.mpr rfl
theorem qL{i j}:PE X (.Constant (.bool i) j pos) (RE E (eC (.bl i))):=iJ WN λ_ _ _=>vM λW=>i_.mpr rfl
theorem k7{i j}:PE X (.Constant (.str i) j pos) (RE E (eC (.str i))):=iJ Kb λ_ _ _=>vM λW=>lP.mpr rfl
theorem t9{j}:PE X (.Constant .none j pos) (RE E (eC .bY)):=iJ WO λ_ _ _=>vM λW=>oW.mpr rfl
def G2(E:XK)(r:R2)(g:T->T->M T):Prop:=∀(tx ty:T) (W:Wd) (S:bx) (H:Hp) (x y:V) (Q:VK),cK W S H->cy W tx x->cy W ty y->bu E W (QV Q) (g tx ty S)->r x y H Q
theorem uN{r:R2}{g:T->T->M T}(hg:G2 E r g){σ:St}{H:Hp}{Q:VK}(h:RE E (e2 g fa fb) σ H Q):D2 r (RE E fa) (RE E fb) σ H Q:=by
 obtain⟨W,S,ρ,rp,env,p⟩:=h;refine⟨W,S,ρ,rp,env,(bu.bind p).imp λtx W1 S1 H1 l1 r1 p1 x dx=>?_⟩;refine⟨W1,S1,ρ,r1,env.mono l1,(bu.bind p1).imp λty W2 S2 H2 l2 r2 p2 y dy=>?_⟩;exact hg tx ty W2 S2 H2 x y Q r2 (cy.mono l2 _ _ dx) dy p2
def G1(E:XK)(r:V->Hp->VK->Prop)(g:T->M T):Prop:=∀(tx:T) (W:Wd) (S:bx) (H:Hp) (x:V) (Q:VK),cK W S H->cy W tx x->bu E W (QV Q) (g tx S)->r x H Q
theorem qM{r:V->Hp->VK->Prop}{g:T->M T}(hg:G1 E r g){σ:St}{H:Hp}{Q:VK}(h:RE E (e1 g fa) σ H Q):RE E fa σ H (λx H1=>r x H1 Q):=by
 obtain⟨W,S,ρ,rp,env,p⟩:=h;exact⟨W,S,ρ,rp,env,(bu.bind p).imp λtx W1 S1 H1 l1 r1 p1 x dx=>hg tx W1 S1 H1 x Q r1 dx p1⟩
theorem cp:PA X [] (RA E aJ):=RB zg fun σ H Q h=>by
 obtain⟨W,S,ρ,r,env,p⟩:=h;exact p W H (Wd.le.refl W) r [] aZ.fR
theorem bG(ha:PE X e (RE E fa))(hr:PA X es (RA E fr))(hs:av (e::es) X.env=(false,eval e X.env)::av es X.env:=by rfl):PA X (e::es) (RA E (a_ fa fr)):=
 RB (vo ha hr hs) fun σ H Q h=>by
  obtain⟨W,S,ρ,rp,env,p⟩:=h;refine⟨W,S,ρ,rp,env,(bu.bind p).imp λtx W1 S1 H1 l1 r1 p1 x dx=>?_⟩;refine⟨W1,S1,ρ,r1,env.mono l1,(bu.bind p1).imp λts W2 S2 H2 l2 r2 p2 vs jr=>?_⟩;exact p2 W2 H2 (Wd.le.refl _) r2 _ (aZ.eJ (cy.mono l2 _ _ dx) jr)
end
def gI(f:Int->Int->Option T)(x y:T):M T:=λS=>match x,y with
 | .int i,.int j=>(match f i j with
   |some t=>.ok t S
   |none=>.bad)
 |_,_=>.bad
theorem RD{E:XK}{W:Wd}{S:bx}{f:Int->Int->Option T}{tx ty:T}{Q:T->Wd->bx->Hp->Prop}(p:bu E W Q (gI f tx ty S)):∃i j t,tx=.int i/\ty=.int j/\f i j=aa t/\bu E W Q (.ok t S):=by
 unfold gI at p;cases tx with
 | int i=>
   cases ty with
   | int j=>
     cases e:f i j with
     |none=>simp only[e] at p;exact p.elim
     |some t=>simp only[e] at p;exact⟨i,j,t,rfl,rfl,e,p⟩
   |_=>exact p.elim
 |_=>exact p.elim
def vN(i j:Int):Option T:=aa (.int (i-j))
def pC(i j:Int):Option T:=if(-(2 ^ 64)<i/\i<2 ^ 64)\/(-(2 ^ 64)<j/\j<2 ^ 64) then aa (.int (i*j)) else ae
def jM(i j:Int):Option T:=if 0<j/\j<1073741824 then aa (.int (i / j)) else ae
def fS(i j:Int):Option T:=if 0<j then aa (.int (i%j)) else ae
def LR(i j:Int):Option T:=aa (.bl (decide (i<j)))
def EM(i j:Int):Option T:=aa (.bl (decide (j<i)))
def HI(i j:Int):Option T:=aa (.bl (decide (j<=i)))
section
variable {X:Cx}{E:XK}{a b e:bo}{fa fb:DE}{pos:Pos}
theorem now{E:XK}{W:Wd}{S:bx}{H:Hp}{t:T}{v:V}{Q:VK}(p:bu E W (QV Q) (.ok t S))(r:cK W S H)(d:cy W t v):Q v H:=p W H (Wd.le.refl W) r v d
theorem HJ{f:Int->Int->V}{g:Int->Int->Option T}(h:∀i j t,g i j=aa t->∀W,cy W t (f i j)):G2 E (xm f) (gI g):=by
 intro tx ty W S H x y Q r dx dy p;obtain⟨i,j,t,rfl,rfl,e,p⟩:=RD p;exact⟨i,j,jA.mp dx,jA.mp dy,now p r (h i j t e W)⟩
theorem A4{C:Int->Int->Prop}{f:Int->Int->V}{g:Int->Int->Option T}(h:∀i j t,g i j=aa t->C i j/\∀W,cy W t (f i j)):G2 E (rI C f) (gI g):=by
 intro tx ty W S H x y Q r dx dy p;obtain⟨i,j,t,rfl,rfl,e,p⟩:=RD p;exact⟨i,j,jA.mp dx,jA.mp dy,(h i j t e).1,now p r ((h i j t e).2 W)⟩
theorem RF(ha:PE X a (RE E fa))(hb:PE X b (RE E fb)):PE X (.BinOp a .Sub b pos) (RE E (e2 (gI vN) fa fb)):=iJ (D3 Xt ha hb) λ_ _ _=>uN (HJ λi j t e W=>by cases e;exact jA.mpr rfl)
theorem RG(ha:PE X a (RE E fa))(hb:PE X b (RE E fb)):PE X (.BinOp a .Mult b pos) (RE E (e2 (gI pC) fa fb)):=iJ (D3 Xu ha hb) λ_ _ _=>uN (A4 λi j t e=>by
 unfold pC at e;split at e
 .rename_i h;cases e;exact⟨h,λW=>jA.mpr rfl⟩
 .cases e)
theorem zu(ha:PE X a (RE E fa))(hb:PE X b (RE E fb)):PE X (.BinOp a .FloorDiv b pos) (RE E (e2 (gI jM) fa fb)):=iJ (D3 Xv ha hb) λ_ _ _=>uN (A4 λi j t e=>by
 unfold jM at e;split at e
 .rename_i h;cases e;exact⟨h,λW=>jA.mpr rfl⟩
 .cases e)
theorem qN(ha:PE X a (RE E fa))(hb:PE X b (RE E fb)):PE X (.BinOp a .Mod b pos) (RE E (e2 (gI fS) fa fb)):=iJ (D3 Xw ha hb) λ_ _ _=>uN (A4 λi j t e=>by
 unfold fS at e;split at e
 .rename_i h;cases e;exact⟨h,λW=>jA.mpr rfl⟩
 .cases e)
def hV(x y:T):M T:=λS=>match x,y with
 |.int i,.int j=>.ok (.int (i+j)) S
 |.str i,.str j=>if i.length+j.length<=1000 then .ok (.str (i++j)) S else .bad
 | _,_=>match cI S x,cI S y with
   |some xs,aa ys=>if xs.length+ys.length<=1000 then .ok (.lst (xs++ys)) S else .bad
   |_,_=>.bad
theorem z5l:kb X (ko .Add) (λx y H Q=>∃l b xs zs,x=.ref l/\y=.ref b/\Rd H l (.lst xs)/\Rd H b (.lst zs)/\xs.length+zs.length<=sizeLine/\∀p,H p=ae->Q (.ref p) (upd H p (.lst (xs++zs)))):=by
 intro ag s σ H x y v u Q I rx ry h;obtain⟨l,b,xs,zs,rfl,rfl,hH,hB,hz,q⟩:=h;cases rx;cases ry;obtain⟨z,cA,n,r,e⟩:=hH.ok I.cB;obtain⟨z2,oo,n2,r2,e2⟩:=hB.ok I.cB;have hl:=r.length;have uO:=r2.length;refine PySem.P.add_list e e2 ?_ (by rw[aQ,aQ];omega);have ea:cA.toArray++oo.toArray=(cA++oo).toArray:=by simp
 rw[ea];exact⟨.ref _,_,I.KR (t':=s.toks) (r.append r2) (by rw[aB];omega),rfl,q _ I.fresh⟩
theorem px{n:Nat}(h:n<=1000):n<=sizeLine:=mW (QS h)
theorem HK{E:XK}{W:Wd}{S:bx}{H:Hp}{Q:VK}{ts:List T}{vs:List V}(p:bu E W (QV Q) (.ok (.lst ts) S))(r:cK W S H)(d:aZ W ts vs):∀a,H a=ae->Q (.ref a) (upd H a (.lst vs)):=λa ha=>by
 have l:W.le (W.dY a (.lst vs)):=Wd.kO (r.jj ha);exact p (W.dY a (.lst vs)) _ l (r.dY ha _ trivial) _ (rZ.mpr ⟨a,vs,rfl,fE,aZ.mono l _ _ d⟩)
theorem z5m{E:XK}{W:Wd}{S:bx}{H:Hp}{Q:VK}{ts:List T}{vs:List V}(p:bu E W (QV Q) (.ok (.tup ts) S))(r:cK W S H)(d:aZ W ts vs):∀a,H a=ae->Q (.ref a) (upd H a (.tup vs)):=λa ha=>by
 have l:W.le (W.dY a (.tup vs)):=Wd.kO (r.jj ha);exact p (W.dY a (.tup vs)) _ l (r.dY ha _ trivial) _ (s_.mpr ⟨a,vs,rfl,fE,aZ.mono l _ _ d⟩)
theorem RJ{E:XK}{W:Wd}{S:bx}{H:Hp}{Q:VK}{ts:List T}{vs:List V}(p:bu E W (QV Q) (.ok (.obj S.length) (S++[.lst ts])))(r:cK W S H)(d:aZ W ts vs):∀a,H a=ae->Q (.ref a) (upd H a (.lst vs)):=λa ha=>by
 refine p (W.add a) _ Wd.iy (r.m4 ha (.lst ts) _ ⟨vs,fE,aZ.mono Wd.iy _ _ d⟩) _ (mO.mpr ⟨?_,?_⟩)
 .rw[r.len,Wd.gF]
 .rw[r.len];exact dj _
theorem z8k:G2 E (λx y H Q=>(xm (λi j=>.int (i+j)) x y H Q\/(∃i j,x=.str i/\y=.str j/\i.length+j.length<=sizeLine/\Q (.str (i++j)) H))\/(∃l b xs zs,x=.ref l/\y=.ref b/\Rd H l (.lst xs)/\Rd H b (.lst zs)/\xs.length+zs.length<=sizeLine/\∀p,H p=ae->Q (.ref p) (upd H p (.lst (xs++zs))))) hV:=by
 intro tx ty W S H x y Q r dx dy p;have EN:∀{tx ty:T},cy W tx x->cy W ty y->bu E W (QV Q) (match cI S tx,cI S ty with|some xs,aa ys=>if xs.length+ys.length<=1000 then .ok (.lst (xs++ys)) S else .bad | _,_=>.bad)->(∃l b xs zs,x=.ref l/\y=.ref b/\Rd H l (.lst xs)/\Rd H b (.lst zs)/\xs.length+zs.length<=sizeLine/\∀p,H p=ae->Q (.ref p) (upd H p (.lst (xs++zs)))):=by
  intro tx ty dx dy p;cases e1:cI S tx with
  |none=>simp only[e1] at p;exact p.elim
  | some xs=>
    cases e2:cI S ty with
    |none=>simp only[e1,e2] at p;exact p.elim
    | some ys=>
      simp only[e1,e2] at p
      split at p
      .rename_i hl
       obtain⟨a,vs,rfl,h1,h2⟩:=r.list dx e1;obtain⟨b,ws,rfl,h3,h4⟩:=r.list dy e2;refine⟨a,b,vs,ws,rfl,rfl,h1,h3,px (by rw[<- h2.length,<- h4.length];exact hl),HK p r (h2.append h4)⟩
      .exact p.elim
 unfold hV at p
 split at p
 .exact .inl (.inl ⟨_,_,jA.mp dx,jA.mp dy,now p r (jA.mpr rfl)⟩)
 .split at p
  .rename_i hl
   exact .inl (.inr ⟨_,_,lP.mp dx,lP.mp dy,px hl,now p r (lP.mpr rfl)⟩)
  .exact p.elim
 .exact .inr (EN dx dy p)
theorem xE(ha:PE X a (RE E fa))(hb:PE X b (RE E fb)):PE X (.BinOp a .Add b pos) (RE E (e2 hV fa fb)):=iJ (D3 ((Xs.or XJ).or z5l) ha hb) λ_ _ _=>uN z8k
end
end MF
namespace MF
open PySem L2 PySem.SeqAt
mutual
def pd:T->Option jo
 |.bY=>aa .none
 |.bl b=>aa (.bool b)
 |.int i=>aa (.int i)
 |.str x=>aa (.str x)
 |.lst ts=>(nY ts).map .list
 |.tup ts=>(nY ts).map .tuple
 |.dic _=>ae
 |.obj _=>ae
def nY:List T->Option (List jo)
 |[]=>aa []
 | t::ts=>match pd t,nY ts with
   |some d,aa ds=>aa (d::ds)
   |_,_=>ae
end
mutual
def jZ(H:Hp):jo->V->Prop
 |.none,v=>v=.bY
 |.bool b,v=>v=.bl b
 |.int i,v=>v=.int i
 |.str x,v=>v=.str x
 |.list ds,v=>∃a vs,v=.ref a/\Rd H a (.lst vs)/\lH H ds vs
 |.tuple ds,v=>∃a vs,v=.ref a/\Rd H a (.tup vs)/\lH H ds vs
 |.dict _,_=>False
def lH(H:Hp):List jo->List V->Prop
 |[],vs=>vs=[]
 |d::ds,vs=>∃v r,vs=v::r/\jZ H d v/\lH H ds r
end
section
variable {W:Wd}{S:bx}{H:Hp}
mutual
theorem LS(r:cK W S H):∀(t:T) (v:V) (d:jo),cy W t v->pd t=aa d->jZ H d v
 |.bY,v,d,h,e=>by simp only[pd] at e;cases e;simp only[jZ];exact oW.mp h
 |.bl _,v,d,h,e=>by simp only[pd] at e;cases e;simp only[jZ];exact i_.mp h
 |.int _,v,d,h,e=>by simp only[pd] at e;cases e;simp only[jZ];exact jA.mp h
 |.str _,v,d,h,e=>by simp only[pd] at e;cases e;simp only[jZ];exact lP.mp h
 | .lst ts,v,d,h,e=>by
   simp only[pd] at e;obtain⟨ds,e1,rfl⟩:=bc.mp e;obtain⟨a,vs,rfl,h1,h2⟩:=rZ.mp h;simp only[jZ];exact⟨a,vs,rfl,(r.sub _ _ h1).1.rd,lI r ts vs ds h2 e1⟩
 | .tup ts,v,d,h,e=>by
   simp only[pd] at e;obtain⟨ds,e1,rfl⟩:=bc.mp e;obtain⟨a,vs,rfl,h1,h2⟩:=s_.mp h;simp only[jZ];exact⟨a,vs,rfl,(r.sub _ _ h1).1.rd,lI r ts vs ds h2 e1⟩
 |.dic _,v,d,h,e=>by simp only[pd] at e;cases e
 |.obj _,v,d,h,e=>by simp only[pd] at e;cases e
theorem lI(r:cK W S H):∀(ts:List T) (vs:List V) (ds:List jo),aZ W ts vs->nY ts=aa ds->lH H ds vs
 |[],vs,ds,h,e=>by simp only[nY] at e;cases e;simp only[lH];exact nE.mp h
 | t :: ts,vs,ds,h,e=>by
   obtain⟨v,q,rfl,h1,h2⟩:=m3.mp h;simp only[nY] at e;cases e1:pd t with
   |none=>simp[e1] at e
   | some d=>
     cases e2:nY ts with
     |none=>simp[e1,e2] at e
     | some ds'=>
       simp[e1,e2] at e;subst e;simp only[lH];exact⟨v,q,rfl,LS r t v d h1 e1,lI r ts q ds' h2 e2⟩
end
end
mutual
theorem eT{P:aX}{w:bB}{H:Hp}{h:bO}(ok:iE P w H h):∀(d:jo) (v:V) (u:af),jZ H d v->RelV v u->∃as,Reads h u d as
 |.none,v,u,q,r=>by simp only[jZ] at q;subst q;cases r;exact⟨_,.none⟩
 |.bool b,v,u,q,r=>by simp only[jZ] at q;subst q;cases r;exact⟨_,.bool b⟩
 |.int i,v,u,q,r=>by simp only[jZ] at q;subst q;obtain⟨t,rfl⟩:=r;exact⟨_,.int i t⟩
 |.str i,v,u,q,r=>by simp only[jZ] at q;subst q;obtain⟨t,rfl⟩:=r;exact⟨_,.str i t⟩
 | .list ds,v,u,q,r=>by
   simp only[jZ] at q;obtain⟨a,vs,rfl,h1,h2⟩:=q;cases r;obtain⟨_,cA,n,r,e⟩:=h1.ok ok;obtain⟨as,ra⟩:=jN ok ds vs cA h2 r;exact⟨_,.list e rfl rfl (by simpa using ra)⟩
 | .tuple ds,v,u,q,r=>by
   simp only[jZ] at q;obtain⟨a,vs,rfl,h1,h2⟩:=q;cases r;obtain⟨_,cA,r,o,e,hc,n,hd⟩:=h1.ok ok;obtain⟨as,ra⟩:=jN ok ds vs cA h2 r;exact⟨_,.tuple e hc hd (by simpa using ra)⟩
 |.dict _,v,u,q,r=>by simp only[jZ] at q
theorem jN{P:aX}{w:bB}{H:Hp}{h:bO}(ok:iE P w H h):∀(ds:List jo) (vs:List V) (us:List af),lH H ds vs->cj vs us->∃as,ReadsAll h us ds as
 |[],vs,us,q,r=>by simp only[lH] at q;subst q;cases r;exact⟨_,.nil⟩
 | d :: ds,vs,us,q,r=>by
   simp only[lH] at q;obtain⟨v,vr,rfl,h1,h2⟩:=q;cases r with
   | cons r1 r2=>
     obtain⟨as,ra⟩:=eT ok d v _ h1 r1;obtain⟨bs,rb⟩:=jN ok ds vr _ h2 r2;exact⟨_,.cons ra rb⟩
end
def mv(S:bx):T->Option jo
 | .obj k=>match S[k]? with
   |some (.lst ts)=>(nY ts).map .list
   |_=>ae
 |t=>pd t
theorem RK{W:Wd}{S:bx}{H:Hp}(r:cK W S H){t:T}{v:V}{d:jo}(h:cy W t v)(e:mv S t=aa d):jZ H d v:=by
 cases t with
 | obj k=>
   obtain⟨rfl,hk⟩:=mO.mp h;unfold mv at e;cases e0:S[k]? with
   |none=>simp[e0] at e
   | some c=>
     cases c with
     | lst ts=>
       simp only[e0] at e;obtain⟨ds,e1,rfl⟩:=bc.mp e;obtain⟨⟨vs,h1,h2⟩,_⟩:=r.cell k _ e0;simp only[jZ];exact⟨_,vs,rfl,.inl h1,lI r ts vs ds h2 e1⟩
     |dic _=>simp[e0] at e
     |ins _ _=>simp[e0] at e
     |exc _ _=>simp[e0] at e
     |lck _=>simp[e0] at e
 |_=>exact LS r _ v d h (by simpa[mv] using e)
def toV:T->Option V
 |.bY=>aa .bY
 |.bl b=>aa (.bl b)
 |.int i=>aa (.int i)
 |.str x=>aa (.str x)
 |_=>ae
theorem EO{W:Wd}{t:T}{v u:V}(h:cy W t v)(e:toV t=aa u):v=u:=by
 cases t<;>simp only[toV,eP] at e<;>first | (subst e;first | exact oW.mp h | exact i_.mp h | exact jA.mp h | exact lP.mp h) | cases e
def rB(S:bx)(x y:T):Option Bool:=match toV x,toV y with
 |some u,aa v=>if pq u v=true then aa (decide (u=v)) else ae
 | _,_=>match mv S x,mv S y with
   |some a,aa b=>if(a.canLay0&&b.canLay0&&decide (a.depth<=50))=true then aa (bX a b) else ae
   |_,_=>ae
def iR(x y:T):M T:=λS=>match rB S x y with
 |some b=>.ok (.bl b) S
 |none=>.bad
def kC(x y:T):M T:=λS=>match rB S x y with
 |some b=>.ok (.bl (!b)) S
 |none=>.bad
def xF(Em:Bool):R2:=λx y H Q=>∃a b,jZ H a x/\jZ H b y/\a.canLay0=true/\b.canLay0=true/\a.depth<=50/\Q (.bl (if Em then !bX a b else bX a b)) H
section
variable {X:Cx}{E:XK}{a b e:bo}{es:List bo}{fa fb fc:DE}{fr:DA}{pos:Pos}
theorem RL(hu:X.A.units+64<fq):kb X (cM .Eq) (xF false):=by
 intro ag s σ H x y v u Q I rx ry h;obtain⟨a,b,ra,rb,ca,cb,hd,q⟩:=h;obtain⟨as,qa⟩:=eT I.cB a x v ra rx;obtain⟨bs,qb⟩:=eT I.cB b y u rb ry;exact compareEq_reads qa qb ca cb (by have:=Ab a.depth b.depth;omega) ⟨.bl _,H,I,rfl,q⟩
theorem z8l(hu:X.A.units+64<fq):kb X (cM .NotEq) (xF true):=by
 intro ag s σ H x y v u Q I rx ry h;obtain⟨a,b,ra,rb,ca,cb,hd,q⟩:=h;obtain⟨as,qa⟩:=eT I.cB a x v ra rx;obtain⟨bs,qb⟩:=eT I.cB b y u rb ry;exact compareNe_reads qa qb ca cb (by have:=Ab a.depth b.depth;omega) ⟨.bl _,H,I,rfl,q⟩
theorem RM{W:Wd}{S:bx}{H:Hp}{tx ty:T}{x y:V}{c:Bool}(r:cK W S H)(dx:cy W tx x)(dy:cy W ty y)(e:rB S tx ty=aa c) :
  (pq x y=true/\c=decide (x=y))\/∃a b,jZ H a x/\jZ H b y/\a.canLay0=true/\b.canLay0=true/\a.depth<=50/\c=bX a b:=by
 have data:(match mv S tx,mv S ty with|some a,aa b=>if(a.canLay0&&b.canLay0&&decide (a.depth<=50))=true then aa (bX a b) else ae | _,_=>ae)=aa c->∃a b,jZ H a x/\jZ H b y/\a.canLay0=true/\b.canLay0=true/\a.depth<=50/\c=bX a b:=λe=>by
  cases e1:mv S tx with
  |none=>simp[e1] at e
  | some a=>
    cases e2:mv S ty with
    |none=>simp[e1,e2] at e
    | some b=>
      simp only[e1,e2] at e
      split at e
      .rename_i hc
       simp only[b8,decide_eq_true_eq] at hc;cases e;exact⟨a,b,RK r dx e1,RK r dy e2,hc.1.1,hc.1.2,hc.2,rfl⟩
      .cases e
 unfold rB at e;cases e1:toV tx with
 |none=>simp only[e1] at e;exact .inr (data e)
 | some u=>
   cases e2:toV ty with
   |none=>simp only[e1,e2] at e;exact .inr (data e)
   | some v=>
     simp only[e1,e2] at e
     split at e
     .rename_i hs
      cases e;have h1:=EO dx e1;have h2:=EO dy e2;subst h1 h2;exact .inl ⟨hs,rfl⟩
     .cases e
theorem RN:G2 E (λx y H Q=>P7 x y H Q\/xF false x y H Q) iR:=by
 intro tx ty W S H x y Q r dx dy p;unfold iR at p;cases e:rB S tx ty with
 |none=>simp only[e] at p;exact p.elim
 | some c=>
   simp only[e] at p;rcases RM r dx dy e with⟨h1,rfl⟩ | ⟨a,b,h1,h2,h3,h4,h5,rfl⟩
   .exact .inl ⟨h1,now p r (i_.mpr rfl)⟩
   .exact .inr ⟨a,b,h1,h2,h3,h4,h5,now p r (i_.mpr rfl)⟩
theorem Zbj:G2 E (λx y H Q=>P8 x y H Q\/xF true x y H Q) kC:=by
 intro tx ty W S H x y Q r dx dy p;unfold kC at p;cases e:rB S tx ty with
 |none=>simp only[e] at p;exact p.elim
 | some c=>
   simp only[e] at p;rcases RM r dx dy e with⟨h1,rfl⟩ | ⟨a,b,h1,h2,h3,h4,h5,rfl⟩
   .exact .inl ⟨h1,now p r (i_.mpr rfl)⟩
   .exact .inr ⟨a,b,h1,h2,h3,h4,h5,now p r (i_.mpr rfl)⟩
theorem t_(hu:X.A.units+64<fq)(ha:PE X a (RE E fa))(hb:PE X b (RE E fb)):PE X (.Compare a [.Eq] [b] pos) (RE E (e2 iR fa fb)):=iJ (XE (Qb.or (RL hu)) ha hb (zf _)) λ_ _ _=>uN RN
def ER(x:T)(ts:List T):Option Bool:=match toV x,ts.mapM toV with
 |some u,aa vs=>if(nA u&&vs.all nA)=true then aa (El u vs) else ae
 |_,_=>ae
def zv(S:bx)(x y:T):Option Bool:=match ju S y with
 | some ts=>(match ER x ts with
   |some b=>aa b
   | none=>match pd x,nY ts with
     |some d,aa ds=>if(d.canLay0&&bR ds&&decide (d.depth<=20)&&decide (cq ds<=20))=true then aa (ds.any λz=>bX z d) else ae
     |_,_=>ae)
 |none=>ae
def pD(x y:T):M T:=λS=>match zv S x y with
 |some b=>.ok (.bl b) S
 |none=>.bad
def wJ(x y:T):M T:=λS=>match zv S x y with
 |some b=>.ok (.bl (!b)) S
 |none=>.bad
theorem LU{W:Wd}:∀{ts:List T} {vs us:List V},aZ W ts vs->ts.mapM toV=aa us->vs=us
 | [],vs,us,h,e=>by
   have e:aa []=aa us:=by simpa using e
   rw[nE.mp h,<- bg e]
 | t :: ts,vs,us,h,e=>by
   obtain⟨v,r,rfl,h1,h2⟩:=m3.mp h;rw[Ac] at e;cases e1:toV t with
   |none=>simp[e1] at e
   | some u=>
     cases e2:ts.mapM toV with
     |none=>simp[e1,e2] at e
     | some ws=>
       simp[e1,e2] at e;subst e;rw[EO h1 e1,LU h2 e2]
def xG(Em:Bool):R2:=λx y H Q=>∃p xs ds d,y=.ref p/\(Rd H p (.lst xs)\/Rd H p (.tup xs))/\lH H ds xs/\jZ H d x/\bR ds=true/\d.canLay0=true/\d.depth<=20/\cq ds<=20 /\
 Q (.bl (if Em then !(ds.any λz=>bX z d) else ds.any λz=>bX z d)) H
theorem RP{W:Wd}{S:bx}{H:Hp}{tx ty:T}{x y:V}{c:Bool}(K:aP)(r:cK W S H)(dx:cy W tx x)(dy:cy W ty y)(e:zv S tx ty=aa c) :
  (∃p xs,y=.ref p/\(mJ K H p xs\/uL K H p xs)/\nA x=true/\xs.all nA=true/\c=El x xs) \/
  ∃p xs ds d,y=.ref p/\(Rd H p (.lst xs)\/Rd H p (.tup xs))/\lH H ds xs/\jZ H d x/\bR ds=true/\d.canLay0=true/\d.depth<=20/\cq ds<=20/\c=ds.any λz=>bX z d:=by
 unfold zv at e;cases e0:ju S ty with
 |none=>simp only[e0] at e;cases e
 | some ts=>
   obtain⟨p,xs,rfl,h1,h2⟩:=r.seq dy e0;simp only[e0] at e;cases ef:ER tx ts with
   | some b=>
     simp only[ef] at e;cases e;unfold ER at ef;cases e1:toV tx with
     |none=>simp[e1] at ef
     | some u=>
       cases e2:ts.mapM toV with
       |none=>simp[e1,e2] at ef
       | some us=>
         simp only[e1,e2] at ef
         split at ef
         .rename_i hf
          rw[b8] at hf;cases ef;have q1:=EO dx e1;have q2:=LU h2 e2;subst q1 q2;refine .inl ⟨p,xs,rfl,?_,hf.1,hf.2,rfl⟩;rcases h1 with h1 | h1
          .exact .inl (.inl h1)
          .exact .inr (.inl h1)
         .cases ef
   | none =>
     simp only[ef] at e;cases e1:pd tx with
     |none=>simp[e1] at e
     | some d=>
       cases e2:nY ts with
       |none=>simp[e1,e2] at e
       | some ds=>
         simp only[e1,e2] at e
         split at e
         .rename_i hc
          simp only[b8,decide_eq_true_eq] at hc;cases e;exact .inr ⟨p,xs,ds,d,rfl,h1,lI r _ _ _ h2 e2,LS r _ _ _ dx e1,hc.1.1.2,hc.1.1.1,hc.1.2,hc.2,rfl⟩
         .cases e
theorem z8n(hu:X.A.units+64<fq):kb X (cM .In) (xG false):=by
 intro ag s σ H x y v u Q I rx ry h;obtain⟨p,xs,ds,d,rfl,hp,rs,rd,cs,cd,hd,hds,q⟩:=h;cases ry;obtain⟨bs,qb⟩:=eT I.cB d x v rd rx;rcases hp with hp | hp
 .obtain⟨as,qa⟩:=eT I.cB (.list ds) (.ref p) (.ref p) (by simp only[jZ];exact⟨p,xs,rfl,hp,rs⟩) rfl
  exact in_list_reads qa qb cs cd (by omega) ⟨.bl _,H,I,rfl,q⟩
 .obtain⟨as,qa⟩:=eT I.cB (.tuple ds) (.ref p) (.ref p) (by simp only[jZ];exact⟨p,xs,rfl,hp,rs⟩) rfl
  exact in_tuple_reads qa qb cs cd (by omega) ⟨.bl _,H,I,rfl,q⟩
theorem zyq(hu:X.A.units+64<fq):kb X (cM .NotIn) (xG true):=by
 intro ag s σ H x y v u Q I rx ry h;obtain⟨p,xs,ds,d,rfl,hp,rs,rd,cs,cd,hd,hds,q⟩:=h;cases ry;obtain⟨bs,qb⟩:=eT I.cB d x v rd rx;rcases hp with hp | hp
 .obtain⟨as,qa⟩:=eT I.cB (.list ds) (.ref p) (.ref p) (by simp only[jZ];exact⟨p,xs,rfl,hp,rs⟩) rfl
  exact notIn_list_reads qa qb cs cd (by omega) ⟨.bl _,H,I,rfl,q⟩
 .obtain⟨as,qa⟩:=eT I.cB (.tuple ds) (.ref p) (.ref p) (by simp only[jZ];exact⟨p,xs,rfl,hp,rs⟩) rfl
  exact notIn_tuple_reads qa qb cs cd (by omega) ⟨.bl _,H,I,rfl,q⟩
theorem Zbk(K:aP):G2 E (λx y H Q=>Hn K false x y H Q\/xG false x y H Q) pD:=by
 intro tx ty W S H x y Q r dx dy p;unfold pD at p;cases e:zv S tx ty with
 |none=>simp only[e] at p;exact p.elim
 | some c=>
   simp only[e] at p;rcases RP K r dx dy e with⟨q,xs,rfl,h1,h2,h3,rfl⟩ | ⟨q,xs,ds,d,rfl,h1,h2,h3,h4,h5,h6,h7,rfl⟩
   .exact .inl ⟨q,xs,rfl,h1,h2,h3,now p r (i_.mpr rfl)⟩
   .exact .inr ⟨q,xs,ds,d,rfl,h1,h2,h3,h4,h5,h6,h7,now p r (i_.mpr rfl)⟩
theorem z18(K:aP):G2 E (λx y H Q=>Hn K true x y H Q\/xG true x y H Q) wJ:=by
 intro tx ty W S H x y Q r dx dy p;unfold wJ at p;cases e:zv S tx ty with
 |none=>simp only[e] at p;exact p.elim
 | some c=>
   simp only[e] at p;rcases RP K r dx dy e with⟨q,xs,rfl,h1,h2,h3,rfl⟩ | ⟨q,xs,ds,d,rfl,h1,h2,h3,h4,h5,h6,h7,rfl⟩
   .exact .inl ⟨q,xs,rfl,h1,h2,h3,now p r (i_.mpr rfl)⟩
   .exact .inr ⟨q,xs,ds,d,rfl,h1,h2,h3,h4,h5,h6,h7,now p r (i_.mpr rfl)⟩
end
end MF
namespace MF
open PySem L2
def LV(t:T):M Bool:=λS=>match t with
 |.bl b=>.ok b S
 |_=>.bad
def jO(t:T):M Bool:=λS=>match t with
 |.bY=>.ok false S
 |.bl b=>.ok b S
 |.int i=>.ok (i != 0) S
 |.str x=>if x.length<=1000 then .ok ((x.length:Int) != 0) S else .bad
 | t=>match ju S t with
   |some ts=>.ok (!ts.isEmpty) S
   |none=>.bad
def eB(f:DE):DT:=fun ρ=>(f ρ).bind LV
def oX(f:DE):DT:=fun ρ=>(f ρ).bind jO
def uc(f g:DT):DT:=fun ρ=>(f ρ).bind λc=>if c=true then g ρ else M.pure false
def qO(f g:DT):DT:=fun ρ=>(f ρ).bind λc=>if c=true then M.pure true else g ρ
def zw(f:DT):DT:=fun ρ=>(f ρ).bind λc=>M.pure (!c)
section
variable {X:Cx}{E:XK}{a b c e:bo}{es:List bo}{fa fb fc:DE}{ta tb:DT}{fr:DA}{pos:Pos}
theorem LW{f:DE}{σ:St}{H:Hp}{Q:Bool->Hp->Prop}(h:RT E (eB f) σ H Q):RE E f σ H (λx H'=>∃k,x=.bl k/\Q k H'):=by
 obtain⟨W,S,ρ,rp,env,p⟩:=h;refine⟨W,S,ρ,rp,env,(bu.bind p).imp λt W1 S1 H1 l1 r1 p1 v dv=>?_⟩;cases t with
 |bl k=>exact⟨k,i_.mp dv,p1 W1 H1 (Wd.le.refl _) r1⟩
 |_=>exact p1.elim
theorem xH{op:u4}{r:R2}{g:T->T->M T}(ho:kb X (cM op) r)(hg:G2 E r g)(ha:PE X a (RE E fa))(hb:PE X b (RE E fb))(hm:cL op b=false):PT X (.Compare a [op] [b] pos) (RT E (eB (e2 g fa fb))):=
 EL (XG ho ha hb hm) fun σ H Q h=>uN hg (LW h)
theorem pE(hu:X.A.units+64<fq)(ha:PE X a (RE E fa))(hb:PE X b (RE E fb)):PT X (.Compare a [.Eq] [b] pos) (RT E (eB (e2 iR fa fb))):=xH (Qb.or (RL hu)) RN ha hb (zf _)
theorem qP(hu:X.A.units+64<fq)(ha:PE X a (RE E fa))(hb:PE X b (RE E fb)):PT X (.Compare a [.NotEq] [b] pos) (RT E (eB (e2 kC fa fb))):=xH (Xy.or (z8l hu)) Zbj ha hb (zf _)
theorem LX(ha:PE X a (RE E fa))(hb:PE X b (RE E fb)):PT X (.Compare a [.Lt] [b] pos) (RT E (eB (e2 (gI LR) fa fb))):=xH Xz (HJ λi j t e W=>by cases e;exact i_.mpr rfl) ha hb (zf _)
theorem ES(ha:PE X a (RE E fa))(hb:PE X b (RE E fb)):PT X (.Compare a [.Gt] [b] pos) (RT E (eB (e2 (gI EM) fa fb))):=xH XA (HJ λi j t e W=>by cases e;exact i_.mpr rfl) ha hb (zf _)
theorem ET(ha:PE X a (RE E fa))(hb:PE X b (RE E fb)):PT X (.Compare a [.GtE] [b] pos) (RT E (eB (e2 (gI HI) fa fb))):=xH XB (HJ λi j t e W=>by cases e;exact i_.mpr rfl) ha hb (zf _)
theorem qQ(hu:X.A.units+64<fq)(ha:PE X a (RE E fa))(hb:PE X b (RE E fb))(hm:cL .In b=false:=by with_unfolding_all rfl):PT X (.Compare a [.In] [b] pos) (RT E (eB (e2 pD fa fb))):=xH (YN.or (z8n hu)) (Zbk X.K) ha hb hm
theorem HL(hu:X.A.units+64<fq)(ha:PE X a (RE E fa))(hb:PE X b (RE E fb))(hm:cL .NotIn b=false:=by with_unfolding_all rfl):PT X (.Compare a [.NotIn] [b] pos) (RT E (eB (e2 wJ fa fb))):=xH (YO.or (zyq hu)) (z18 X.K) ha hb hm
theorem RQ{W:Wd}{S:bx}{H:Hp}{t:T}{v:V}{Q:Bool->Hp->Prop}{K:aP}(r:cK W S H)(d:cy W t v)(p:bu E W (λb _ _ H'=>Q b H') (jO t S)):∃k,vj K v H k/\Q k H:=by
 have go:∀{k:Bool},bu E W (λb _ _ H'=>Q b H') (.ok k S)->Q k H:=λp=>p W H (Wd.le.refl _) r;have sq:∀{t:T},cy W t v->bu E W (λb _ _ H'=>Q b H') (match ju S t with|some ts=>.ok (!ts.isEmpty) S | none=>.bad)->∃k,vj K v H k/\Q k H:=λ{t} d p=>by
  cases e:ju S t with
  |none=>simp only[e] at p;exact p.elim
  | some ts=>
    simp only[e] at p;obtain⟨a,vs,rfl,h1,h2⟩:=r.seq d e;have hl:(!ts.isEmpty)=!vs.isEmpty:=by
     have:=h2.length;cases ts<;>cases vs<;>simp_all
    refine⟨_,?_,go p⟩;rcases h1 with h1 | h1
    .exact .inl ⟨vs,.inl h1,hl⟩
    .exact .inr (.inl ⟨vs,.inl h1,hl⟩)
 unfold jO at p
 split at p
 .rw[oW.mp d];exact⟨_,rfl,go p⟩
 .rw[i_.mp d];exact⟨_,rfl,go p⟩
 .rw[jA.mp d];exact⟨_,rfl,go p⟩
 .split at p
  .rename_i hl;rw[lP.mp d];exact⟨_,⟨px hl,rfl⟩,go p⟩
  .exact p.elim
 .exact sq d p
theorem sd(ha:PE X a (RE E fa))(he:∀ni,isTrue a X.env ni=(do let v <- ni;kX a.pos;kY [v] (truthy v)):=by intro _;rfl):PT X a (RT E (oX fa)):=
 EL (XI ha he) fun σ H Q h=>by
  obtain⟨W,S,ρ,rp,env,p⟩:=h;exact⟨W,S,ρ,rp,env,(bu.bind p).imp λt W1 S1 H1 l1 r1 p1 v dv=>RQ r1 dv p1⟩
theorem RU{e:bo}{t t':TT}(h:PW X e t)(w:∀σ H Q,t' σ H Q->t σ H Q):PW X e t':=λwh ag s σ H Q I q=>h wh ag s σ H Q I (w σ H Q q)
theorem CC(ha:PT X a (RT E ta)):PW X (.BoolOp .And [a] pos) (RT E ta):=WV ha
theorem HM(ha:PT X a (RT E ta)):PW X (.BoolOp .Or [a] pos) (RT E ta):=WW ha
theorem RV{c:Bool}{σ:St}{H:Hp}{Q:Bool->Hp->Prop}(h:RT E (λ_=>M.pure c) σ H Q):Q c H:=by
 obtain⟨W,S,ρ,rp,env,p⟩:=h;exact p W H (Wd.le.refl _) rp
theorem CD(ha:PT X a (RT E ta))(hb:PW X (.BoolOp .And (b::es) pos) (RT E tb)):PW X (.BoolOp .And (a::b::es) pos) (RT E (uc ta tb)):=
 RU (WX ha hb) fun σ H Q h=>by
  obtain⟨W,S,ρ,rp,env,p⟩:=h;refine⟨W,S,ρ,rp,env,(bu.bind p).imp λc W1 S1 H1 l1 r1 p1=>?_⟩;cases c with
  |true=>exact rW ⟨W1,S1,ρ,r1,env.mono l1,p1⟩
  |false=>exact rV (p1 W1 H1 (Wd.le.refl _) r1)
theorem xI(ha:PT X a (RT E ta))(hb:PW X (.BoolOp .Or (b::es) pos) (RT E tb)):PW X (.BoolOp .Or (a::b::es) pos) (RT E (qO ta tb)):=
 RU (WY ha hb) fun σ H Q h=>by
  obtain⟨W,S,ρ,rp,env,p⟩:=h;refine⟨W,S,ρ,rp,env,(bu.bind p).imp λc W1 S1 H1 l1 r1 p1=>?_⟩;cases c with
  |false=>exact rV ⟨W1,S1,ρ,r1,env.mono l1,p1⟩
  |true=>exact rW (p1 W1 H1 (Wd.le.refl _) r1)
theorem EU(ha:PT X a (RT E ta)):PT X (.UnaryOp .Not a pos) (RT E (zw ta)):=EL (WZ ha) fun σ H Q h=>by
 obtain⟨W,S,ρ,rp,env,p⟩:=h;exact⟨W,S,ρ,rp,env,(bu.bind p).imp λc W1 S1 H1 l1 r1 p1=>p1 W1 H1 (Wd.le.refl _) r1⟩
def se(f g:DE):DE:=fun ρ=>(f ρ).bind λx=>match x with
 |.bl true=>g ρ
 |.bl false=>M.pure (.bl false)
 |_=>M.bad
def sf(f:DE):DE:=fun ρ=>(f ρ).bind λx=>(jO x).bind λb=>M.pure (.bl (!b))
def LY(c:DT)(f g:DE):DE:=fun ρ=>(c ρ).bind λb=>if b=true then f ρ else g ρ
theorem RW{op}(ha:PE X a (RE E fa)):PE X (.BoolOp op [a] pos) (RE E fa):=W8 ha
theorem LZ(ha:PE X a (RE E fa))(hb:PE X (.BoolOp .And (b::es) pos) (RE E fb)):PE X (.BoolOp .And (a::b::es) pos) (RE E (se fa fb)):=iJ (W9 ha hb) fun σ H Q h=>by
 obtain⟨W,S,ρ,rp,env,p⟩:=h;refine⟨W,S,ρ,rp,env,(bu.bind p).imp λt W1 S1 H1 l1 r1 p1 v dv=>?_⟩;cases t with
 | bl k=>
   refine⟨k,i_.mp dv,?_⟩;cases k with
   |true=>exact rW ⟨W1,S1,ρ,r1,env.mono l1,p1⟩
   |false=>exact rV (now p1 r1 (i_.mpr rfl))
 |_=>exact p1.elim
theorem z5p{ta:TE}(ha:PE X a ta):PE X (.UnaryOp .Not a pos) (fun σ H Q=>ta σ H λx H1=>∃k,vj X.K x H1 k/\Q (.bl (!k)) H1):=by
 intro ag s σ H Q I h;refine JY (dm (ha ag s σ H _ I h) λv s1 cN=>?_);obtain⟨x,H1,I1,r1,k,tr,q1⟩:=cN;refine JZ ?_;exact dm (Qd ag s1 σ H1 x v (λb H'=>Q (.bl (!b)) H') I1 r1 ⟨k,tr,q1⟩) λb s2 ⟨H2,I2,q2⟩=>⟨.bl (!b),H2,I2,rfl,q2⟩
theorem Zbl(ha:PE X a (RE E fa)):PE X (.UnaryOp .Not a pos) (RE E (sf fa)):=iJ (z5p ha) fun σ H Q h=>by
 obtain⟨W,S,ρ,rp,env,p⟩:=h;refine⟨W,S,ρ,rp,env,(bu.bind p).imp λt W1 S1 H1 l1 r1 p1 v dv=>?_⟩;refine RQ (Q:=λk H'=>Q (.bl (!k)) H') r1 dv ((bu.bind p1).imp λb W2 S2 H2 l2 r2 p2=>now p2 r2 (i_.mpr rfl))
theorem z5q(hc:PT X c (RT E ta))(ha:PE X a (RE E fa))(hb:PE X b (RE E fb)):PE X (.IfExp c a b pos) (RE E (LY ta fa fb)):=iJ (Xa hc ha hb) fun σ H Q h=>by
 obtain⟨W,S,ρ,rp,env,p⟩:=h;refine⟨W,S,ρ,rp,env,(bu.bind p).imp λk W1 S1 H1 l1 r1 p1=>?_⟩;cases k with
 |true=>exact rW ⟨W1,S1,ρ,r1,env.mono l1,p1⟩
 |false=>exact rV ⟨W1,S1,ρ,r1,env.mono l1,p1⟩
def ud:T->Bool
 |.bY=>true
 |_=>false
theorem RX{W:Wd}{t:T}{v:V}(d:cy W t v):decide (v=.bY)=ud t:=by
 cases t with
 |bY=>rw[oW.mp d];rfl
 |bl _=>rw[i_.mp d];rfl
 |int _=>rw[jA.mp d];rfl
 |str _=>rw[lP.mp d];rfl
 |lst _=>obtain⟨a,vs,rfl,_⟩:=rZ.mp d;rfl
 |tup _=>obtain⟨a,vs,rfl,_⟩:=s_.mp d;rfl
 |dic _=>obtain⟨a,vs,rfl,_⟩:=xy.mp d;rfl
 |obj _=>obtain⟨rfl,_⟩:=mO.mp d;rfl
def qo(x y:T):M T:=λS=>match y with
 |.bY=>.ok (.bl (ud x)) S
 | .bl b=>(match x with
   |.bl a=>.ok (.bl (a==b)) S
   |_=>.bad)
 |_=>.bad
def ti(x y:T):M T:=λS=>match y with
 |.bY=>.ok (.bl (!ud x)) S
 | .bl b=>(match x with
   |.bl a=>.ok (.bl (!(a==b))) S
   |_=>.bad)
 |_=>.bad
theorem zyu:kb X (cM .IsNot) (λx y H Q=>∃a b,x=.bl a/\y=.bl b/\Q (.bl (!(a==b))) H):=by
 intro ag s σ H x y v u Q I rx ry h;obtain⟨a,b,rfl,rfl,q⟩:=h;cases rx;cases ry;refine wpAny_isNot_plain rfl ⟨.bl (!(a==b)),H,I,?_,q⟩;show dM (!(dM a==dM b))=dM (!(a==b));cases a<;>cases b<;>rfl
theorem Zbm:G2 E (λx y H Q=>(y=.bY/\Q (.bl (decide (x=.bY))) H)\/(∃a b,x=.bl a/\y=.bl b/\Q (.bl (a==b)) H)) qo:=by
 intro tx ty W S H x y Q r dx dy p;unfold qo at p
 split at p
 .exact .inl ⟨oW.mp dy,by rw[RX dx];exact now p r (i_.mpr rfl)⟩
 .split at p
  .exact .inr ⟨_,_,i_.mp dx,i_.mp dy,now p r (i_.mpr rfl)⟩
  .exact p.elim
 .exact p.elim
theorem z2a:G2 E (λx y H Q=>(y=.bY/\Q (.bl (!decide (x=.bY))) H)\/(∃a b,x=.bl a/\y=.bl b/\Q (.bl (!(a==b))) H)) ti:=by
 intro tx ty W S H x y Q r dx dy p;unfold ti at p
 split at p
 .exact .inl ⟨oW.mp dy,by rw[RX dx];exact now p r (i_.mpr rfl)⟩
 .split at p
  .exact .inr ⟨_,_,i_.mp dx,i_.mp dy,now p r (i_.mpr rfl)⟩
  .exact p.elim
 .exact p.elim
theorem xJ(ha:PE X a (RE E fa))(hb:PE X b (RE E fb)):PT X (.Compare a [.Is] [b] pos) (RT E (eB (e2 qo fa fb))):=xH (XC.or ZD) Zbm ha hb (zf _)
theorem L0(ha:PE X a (RE E fa))(hb:PE X b (RE E fb)):PT X (.Compare a [.IsNot] [b] pos) (RT E (eB (e2 ti fa fb))):=xH (XD.or zyu) z2a ha hb (zf _)
theorem aZ.jt{W:Wd}{ts:List T}{vs:List V}{i:Int}{t:T}(h:aZ W ts vs)(e:jt ts i=aa t):∃v,L2.jt vs i=aa v/\cy W t v:=by
 unfold L2.jt at e ⊢;rw[<- h.length];cases e1:vt ts.length i with
 |none=>rw[e1] at e;cases e
 | some j=>
   rw[e1] at e;exact h.get e
def eh(x y:T):M T:=λS=>match y with
 | .int i=>(match ju S x with
   | some ts=>(match jt ts i with
     |some t=>.ok t S
     |none=>.bad)
   | none=>match x with
     | .str z=>if z.length<=1000 then(match jt z.cps.toList i with
       |some c=>.ok (.str ⟨#[c]⟩) S
       |none=>.bad) else .bad
     |_=>.bad)
 |_=>.bad
theorem Zbn (K:aP):G2 E (QJ K) eh:=by
 intro tx ty W S H x y Q r dx dy p;unfold eh at p
 split at p
 .rename_i i
  cases e:ju S tx with
  | some ts=>
    simp only[e] at p;cases e2:jt ts i with
    |none=>simp only[e2] at p;exact p.elim
    | some t=>
      simp only[e2] at p;obtain⟨a,vs,rfl,h1,h2⟩:=r.seq dx e;obtain⟨v,e3,dv⟩:=h2.jt e2;rcases h1 with h1 | h1
      .exact .inl ⟨a,vs,i,v,rfl,jA.mp dy,.inl h1,e3,now p r dv⟩
      .exact .inr (.inl ⟨a,vs,i,v,rfl,jA.mp dy,.inl h1,e3,now p r dv⟩)
  | none=>
    simp only[e] at p
    split at p
    .rename_i z
     split at p
     .rename_i hl
      cases e2:jt z.cps.toList i with
      |none=>simp only[e2] at p;exact p.elim
      | some c=>
        simp only[e2] at p;exact .inr (.inr ⟨z,i,c,lP.mp dx,jA.mp dy,px hl,e2,now p r (lP.mpr rfl)⟩)
     .exact p.elim
    .exact p.elim
 .exact p.elim
theorem dE(ha:PE X a (RE E fa))(hb:PE X b (RE E fb))(hs:QI b:=by exact λ_ _=>rfl):PE X (.Subscript a b pos) (RE E (e2 eh fa fb)):=iJ (YF YJ ha hb hs) λ_ _ _=>uN (Zbn X.K)
def dF:T->Option b9
 |.int i=>aa (.inl i)
 |.str x=>aa (.inr x)
 |_=>ae
theorem HN{W:Wd}{t:T}{v:V}{k:b9}(d:cy W t v)(e:dF t=aa k):v=kV k:=by
 cases t with
 |int i=>cases e;exact jA.mp d
 |str i=>cases e;exact lP.mp d
 |_=>cases e
def cU(kvs:List (b9×T))(k:b9):Option T:=(kvs.find? λkv=>decide (kv.1=k)).map (·.2)
def kP(kvs:List (b9×T))(k:b9)(v:T):List (b9×T):=
 if(kvs.any λkv=>decide (kv.1=k))=true then kvs.map (λkv=>if kv.1=k then(kv.1,v) else kv) else kvs++[(k,v)]
def EV(kvs:List (b9×T))(k:b9):List (b9×T):=kvs.filter λkv=>decide (kv.1≠k)
theorem bP.val{W:Wd}:∀{kvs:List (b9×T)} {ks:List (b9×V)} (k:b9),bP W kvs ks->(∀t,cU kvs k=aa t->∃v,ji ks k=aa v/\cy W t v)/\(cU kvs k=ae->ji ks k=ae)
 |[],ks,k,h=>by rw[rq.mp h];exact⟨(λt e=>by cases e),λ_=>rfl⟩
 | (k',t)::kvs,ks,k,h=>by
   obtain⟨v,r,rfl,h1,h2⟩:=r_.mp h;have ih:=bP.val k h2;by_cases e:k'=k
   .have a:cU ((k',t)::kvs) k=aa t:=by simp[cU,bT,e]
    have b:ji ((k',v)::r) k=aa v:=Hh e;rw[a,b];exact⟨λt' e'=>by cases e';exact⟨v,rfl,h1⟩,λz=>by cases z⟩
   .have a:cU ((k',t)::kvs) k=cU kvs k:=by simp[cU,bT,e]
    have b:ji ((k',v)::r) k=ji r k:=Hi e;rw[a,b];exact ih
theorem bP.any{W:Wd}:∀{kvs:List (b9×T)} {ks:List (b9×V)} (k:b9),bP W kvs ks->(kvs.any λkv=>decide (kv.1=k))=ks.any λkv=>decide (kv.1=k)
 |[],ks,k,h=>by rw[rq.mp h];rfl
 | (k',t)::kvs,ks,k,h=>by
   obtain⟨v,r,rfl,h1,h2⟩:=r_.mp h;rw[ff,ff,bP.any k h2]
theorem bP.tV{W:Wd}{t0:T}{v0:V}(d:cy W t0 v0):∀{kvs:List (b9×T)} {ks:List (b9×V)} (k:b9),bP W kvs ks->bP W (kvs.map (λkv=>if kv.1=k then(kv.1,t0) else kv)) (ks.map (λkv=>if kv.1=k then(kv.1,v0) else kv))
 |[],ks,k,h=>by rw[rq.mp h];exact bP.fR
 | (k',t)::kvs,ks,k,h=>by
   obtain⟨v,r,rfl,h1,h2⟩:=r_.mp h;have ih:=bP.tV d k h2;rw[aE,aE];by_cases e:k'=k
   .rw[if_pos e,if_pos e];exact bP.eJ d ih
   .rw[if_neg e,if_neg e];exact bP.eJ h1 ih
theorem bP.snoc{W:Wd}{t0:T}{v0:V}(d:cy W t0 v0):∀{kvs:List (b9×T)} {ks:List (b9×V)} (k:b9),bP W kvs ks->bP W (kvs++[(k,t0)]) (ks++[(k,v0)])
 |[],ks,k,h=>by rw[rq.mp h];exact bP.eJ d bP.fR
 | (k',t)::kvs,ks,k,h=>by
   obtain⟨v,r,rfl,h1,h2⟩:=r_.mp h;exact bP.eJ h1 (bP.snoc d k h2)
theorem bP.put{W:Wd}{t0:T}{v0:V}(d:cy W t0 v0){kvs:List (b9×T)}{ks:List (b9×V)}(k:b9)(h:bP W kvs ks):bP W (kP kvs k t0) (kc ks k v0):=by
 unfold kP kc;rw[h.any k];by_cases e:(ks.any λkv=>decide (kv.1=k))=true
 .rw[if_pos e,if_pos e];exact bP.tV d k h
 .rw[if_neg e,if_neg e];exact bP.snoc d k h
theorem bP.drop{W:Wd}:∀{kvs:List (b9×T)} {ks:List (b9×V)} (k:b9),bP W kvs ks->bP W (EV kvs k) (zh ks k)
 |[],ks,k,h=>by rw[rq.mp h];exact bP.fR
 | (k',t)::kvs,ks,k,h=>by
   obtain⟨v,r,rfl,h1,h2⟩:=r_.mp h;have ih:=bP.drop k h2;unfold EV zh at ih ⊢;rw[fH,fH];by_cases e:k'=k
   .have a:¬decide ((k',t).1≠k)=true:=by simp[e]
    have b:¬decide ((k',v).1≠k)=true:=by simp[e]
    rw[if_neg a,if_neg b];exact ih
   .have a:decide ((k',t).1≠k)=true:=by simp[e]
    have b:decide ((k',v).1≠k)=true:=by simp[e]
    rw[if_pos a,if_pos b];exact bP.eJ h1 ih
def iS(x y:T):M T:=λS=>match m6 S x,dF y with
 | some kvs,aa k=>(match cU kvs k with
   |some t=>.ok t S
   |none=>.bad)
 |_,_=>.bad
def iz(y x:T):M T:=λS=>match m6 S x with
 | some kvs=>(match dF y with
   |some k=>.ok (.bl (cU kvs k).isSome) S
   | none=>match y with
     |.bY=>.ok (.bl false) S
     |_=>.bad)
 |none=>.bad
def m8(y x:T):M T:=λS=>match m6 S x,dF y with
 |some kvs,aa k=>.ok (.bl (!(cU kvs k).isSome)) S
 |_,_=>.bad
theorem L3{W:Wd}{S:bx}{H:Hp}(r:cK W S H){tx ty:T}{x y:V}{kvs:List (b9×T)}{k:b9}(dx:cy W tx x)(dy:cy W ty y)(e1:m6 S tx=aa kvs)(e2:dF ty=aa k) :
  ∃a o,x=.ref a/\nq H a y o/\(∀t,cU kvs k=aa t->∃v,o=aa v/\cy W t v)/\(cU kvs k).isSome=o.isSome:=by
 obtain⟨a,ks,rfl,h1,h2⟩:=r.dict dx e1;obtain⟨q1,q2⟩:=h2.val k;refine⟨a,ji ks k,rfl,.inl ⟨ks,k,h1,HN dy e2,rfl⟩,q1,?_⟩;cases e:cU kvs k with
 |none=>rw[q2 e];rfl
 |some t=>obtain⟨v,e3,_⟩:=q1 t e;rw[e3];rfl
theorem A5 (hu:X.A.units+1<fq) (ha:PE X a (RE E fa)) (hb:PE X b (RE E fb)) (hs:Az b:=by exact λ_ _=>rfl):PE X (.Subscript a b pos) (RE E (e2 iS fa fb)):=
 iJ (Yl hu ha hb hs) fun σ H Q h=>uN (r:=λx y H Q=>∃a v,x=.ref a/\nq H a y (aa v)/\Q v H) (λtx ty W S H x y Q r dx dy p=>by
  unfold iS at p;cases e1:m6 S tx with
  |none=>simp only[e1] at p;exact p.elim
  | some kvs=>
    cases e2:dF ty with
    |none=>simp only[e1,e2] at p;exact p.elim
    | some k=>
      simp only[e1,e2] at p;cases e3:cU kvs k with
      |none=>simp only[e3] at p;exact p.elim
      | some t=>
        simp only[e3] at p;obtain⟨a,o,rfl,g,q1,_⟩:=L3 r dx dy e1 e2;obtain⟨v,rfl,dv⟩:=q1 t e3;exact⟨a,v,rfl,g,now p r dv⟩) h
theorem RY:G2 E (λy x H Q=>∃a,x=.ref a/\((∃r,nq H a y r/\Q (.bl r.isSome) H)\/(y=.bY/\(∃kvs,Rd H a (.dK kvs))/\Q (.bl false) H))) iz:=by
 intro ty tx W S H y x Q r dy dx p;unfold iz at p;cases e1:m6 S tx with
 |none=>simp only[e1] at p;exact p.elim
 | some kvs=>
   simp only[e1] at p;cases e2:dF ty with
   | some k=>
     simp only[e2] at p;obtain⟨a,o,rfl,g,_,q⟩:=L3 r dx dy e1 e2;exact⟨a,rfl,.inl ⟨o,g,by rw[<- q];exact now p r (i_.mpr rfl)⟩⟩
   | none=>
     simp only[e2] at p
     split at p
     .obtain⟨a,ks,rfl,h1,h2⟩:=r.dict dx e1
      exact⟨a,rfl,.inr ⟨oW.mp dy,⟨ks,h1⟩,now p r (i_.mpr rfl)⟩⟩
     .exact p.elim
theorem zyw:G2 E (λy x H Q=>∃a o,x=.ref a/\nq H a y o/\Q (.bl (!o.isSome)) H) m8:=by
 intro ty tx W S H y x Q r dy dx p;unfold m8 at p;cases e1:m6 S tx with
 |none=>simp only[e1] at p;exact p.elim
 | some kvs=>
   cases e2:dF ty with
   |none=>simp only[e1,e2] at p;exact p.elim
   | some k=>
     simp only[e1,e2] at p;obtain⟨a,o,rfl,g,_,q⟩:=L3 r dx dy e1 e2;exact⟨a,o,rfl,g,by rw[<- q];exact now p r (i_.mpr rfl)⟩
theorem Zbo(hu:X.A.units+1<fq)(ha:PE X a (RE E fa))(hb:PE X b (RE E fb))(hm:cL .In b=false:=by with_unfolding_all rfl):PE X (.Compare a [.In] [b] pos) (RE E (e2 iz fa fb)):=iJ (WS (Rj hu ha hb) hm) fun σ H Q h=>uN RY h
theorem CF(hu:X.A.units+1<fq)(ha:PE X a (RE E fa))(hb:PE X b (RE E fb))(hm:cL .In b=false:=by with_unfolding_all rfl):PT X (.Compare a [.In] [b] pos) (RT E (eB (e2 iz fa fb))):=EL (PU (Rj hu ha hb) hm) fun σ H Q h=>uN RY (LW h)
theorem CG(hu:X.A.units+1<fq)(ha:PE X a (RE E fa))(hb:PE X b (RE E fb))(hm:cL .NotIn b=false:=by with_unfolding_all rfl):PT X (.Compare a [.NotIn] [b] pos) (RT E (eB (e2 m8 fa fb))):=EL (PU (Ym hu ha hb) hm) fun σ H Q h=>uN zyw (LW h)
end
def gP(ts:List T):M T:=λS=>if ts.length<=1000 then .ok (.lst ts) S else .bad
def gQ(ts:List T):M T:=λS=>if ts.length<=1000 then .ok (.obj S.length) (S++[.lst ts]) else .bad
def f_(ts:List T):M T:=λS=>if ts.length<=1000 then .ok (.tup ts) S else .bad
def eA(g:List T->M T)(f:DA):DE:=fun ρ=>(f ρ).bind g
def xK:DE:=λ_ S=>.ok (.obj S.length) (S++[.dic []])
section
variable {X:Cx}{E:XK}{a b c e o:bo}{es:List bo}{fa fb fc:DE}{ta tb:DT}{fr:DA}{pos:Pos}
theorem L4{g:List T->M T}{r:List V->Hp->VK->Prop}(hg:∀(ts:List T) (W:Wd) (S:bx) (H:Hp) (vs:List V) (Q:VK),cK W S H->aZ W ts vs->bu E W (QV Q) (g ts S)->r vs H Q){σ:St}{H:Hp}{Q:VK}
  (h:RE E (eA g fr) σ H Q):RA E fr σ H (λvs H1=>r vs H1 Q):=by
 obtain⟨W,S,ρ,rp,env,p⟩:=h;exact⟨W,S,ρ,rp,env,(bu.bind p).imp λts W1 S1 H1 l1 r1 p1 vs dv=>hg ts W1 S1 H1 vs Q r1 dv p1⟩
theorem oq(h:PA X es (RA E fr)):PE X (.List es pos) (RE E (eA gP fr)):=iJ (Qk h) fun σ H Q q=>L4 (r:=λvs H Q=>vs.length<=sizeLine/\∀p,H p=ae->Q (.ref p) (upd H p (.lst vs))) (λts W S H vs Q r d p=>by
 unfold gP at p
 split at p
 .rename_i hl;exact⟨px (by rw[<- d.length];exact hl),HK p r d⟩
 .exact p.elim) q
theorem qp(h:PA X es (RA E fr)):PE X (.List es pos) (RE E (eA gQ fr)):=iJ (Qk h) fun σ H Q q=>L4 (r:=λvs H Q=>vs.length<=sizeLine/\∀p,H p=ae->Q (.ref p) (upd H p (.lst vs))) (λts W S H vs Q r d p=>by
 unfold gQ at p
 split at p
 .rename_i hl;exact⟨px (by rw[<- d.length];exact hl),RJ p r d⟩
 .exact p.elim) q
theorem oY{k}(h:PA X es (RA E fr)):PE X (.Tuple es k pos) (RE E (eA f_ fr)):=iJ (X3 h) fun σ H Q q=>L4 (r:=λvs H Q=>vs.length<=sizeLine/\∀p,H p=ae->Q (.ref p) (upd H p (.tup vs))) (λts W S H vs Q r d p=>by
 unfold f_ at p
 split at p
 .rename_i hl;exact⟨px (by rw[<- d.length];exact hl),z5m p r d⟩
 .exact p.elim) q
theorem CH:PE X (.Dict [] [] pos) (RE E xK):=iJ Yp fun σ H Q h a ha=>by
 obtain⟨W,S,ρ,r,env,p⟩:=h;refine p (W.add a) _ Wd.iy (r.m4 ha (.dic []) _ ⟨[],fE,bP.fR⟩) _ (mO.mpr ⟨?_,?_⟩)
 .rw[r.len,Wd.gF]
 .rw[r.len];exact dj _
def kQ(t:T):M T:=λS=>match ju S t with
 |some ts=>.ok (.int ts.length) S
 | none=>match t with
   |.str x=>if x.length<=1000 then .ok (.int x.length) S else .bad
   |_=>.bad
theorem A6{W:Wd}{t:T}{vs:List V}(h:aZ W [t] vs):∃v,vs=[v]/\cy W t v:=by
 obtain⟨v,r,rfl,h1,h2⟩:=m3.mp h;rw[nE.mp h2];exact⟨v,rfl,h1⟩
theorem L5{x:Str}{id:String}{p:Pos}{r:List V->Hp->VK->Prop}{g:T->M T}(hc:rP X (.builtin id) r)(hg:∀(t:T) (W:Wd) (S:bx) (H:Hp) (v:V) (Q:VK),cK W S H->cy W t v->bu E W (QV Q) (g t S)->r [v] H Q)
  (gl:Gl X x) (hm:X.mg x=ae) (hv:dO x=aa (.builtin id)) (ha:PE X e (RE E fa)) (hn:x ≠ "__name__") (i8:(x==("__debug__" : Str))=false)
  (he:av [e] X.env=(false,eval e X.env)::av [] X.env) (gm:(bJ pos (av [] X.env)).any (·.1)=false):PE X (.Call (.Name x p) [e] [] pos) (RE E (e1 g fa)):=
 iJ (Qv hc gl hm hv (vo ha zg he) hn i8 he gm) fun σ H Q h=>qM (r:=λx H Q=>r [x] H Q) hg h
theorem L7{x:Str}{id:String}{p:Pos}{r:List V->Hp->VK->Prop}{g:T->M T}(hc:rP X (.type id) r)(hg:∀(t:T) (W:Wd) (S:bx) (H:Hp) (v:V) (Q:VK),cK W S H->cy W t v->bu E W (QV Q) (g t S)->r [v] H Q)
  (gl:Gl X x) (hm:X.mg x=ae) (hv:dO x=aa (.type id)) (ha:PE X e (RE E fa)) (hn:x ≠ "__name__") (i8:(x==("__debug__" : Str))=false)
  (he:av [e] X.env=(false,eval e X.env)::av [] X.env) (gm:(bJ pos (av [] X.env)).any (·.1)=false):PE X (.Call (.Name x p) [e] [] pos) (RE E (e1 g fa)):=
 iJ (Qw hc gl hm hv (vo ha zg he) hn i8 he gm) fun σ H Q h=>qM (r:=λx H Q=>r [x] H Q) hg h
theorem Zbp(K:aP)(t:T)(W:Wd)(S:bx)(H:Hp)(v:V)(Q:VK)(r:cK W S H)(d:cy W t v)(p:bu E W (QV Q) (kQ t S)):∃x n,[v]=[x]/\D6 K x H n/\Q (.int n) H:=by
 unfold kQ at p;cases e:ju S t with
 | some ts=>
   simp only[e] at p;obtain⟨a,vs,rfl,h1,h2⟩:=r.seq d e;refine⟨_,ts.length,rfl,?_,now p r (jA.mpr rfl)⟩;rcases h1 with h1 | h1
   .exact .inl ⟨vs,.inl h1,h2.length⟩
   .exact .inr ⟨vs,.inl h1,h2.length⟩
 | none=>
   simp only[e] at p
   split at p
   .split at p
    .rename_i hl;rw[lP.mp d];exact⟨_,_,rfl,⟨px hl,rfl⟩,now p r (jA.mpr rfl)⟩
    .exact p.elim
   .exact p.elim
theorem EW{p:Pos}(gl:Gl X "len")(hm:X.mg "len" = ae)(ha:PE X e (RE E fa))
  (he:av [e] X.env=(false,eval e X.env)::av [] X.env:=by rfl) (gm:(bJ pos (av [] X.env)).any (·.1)=false:=by rfl):PE X (.Call (.Name "len" p) [e] [] pos) (RE E (e1 kQ fa)):=
 L5 XN (Zbp X.K) gl hm y' ha (by decide) (by decide) he gm
def wK(t:T):M T:=λS=>match t with
 | .obj k=>(match S[k]? with
   |some (.dic kvs)=>.ok (.int kvs.length) S
   |_=>.bad)
 |_=>.bad
theorem RZ{p:Pos}(gl:Gl X "len")(hm:X.mg "len" = ae)(ha:PE X e (RE E fa))
  (he:av [e] X.env=(false,eval e X.env)::av [] X.env:=by rfl) (gm:(bJ pos (av [] X.env)).any (·.1)=false:=by rfl):PE X (.Call (.Name "len" p) [e] [] pos) (RE E (e1 wK fa)):=
 L5 Y6 (λt W S H v Q r d p=>by
  unfold wK at p
  split at p
  .rename_i k
   split at p
   .rename_i kvs e
    obtain⟨rfl,_⟩:=mO.mp d;obtain⟨⟨ks,h1,h2⟩,_⟩:=r.cell k _ e;exact⟨_,ks,rfl,h1,by rw[<- h2.length];exact now p r (jA.mpr rfl)⟩
   .exact p.elim
  .exact p.elim) gl hm y' ha (by decide) (by decide) he gm
def kT:b9->T
 |.inl i=>.int i
 |.inr x=>.str x
theorem R6{W:Wd}(k:b9):cy W (kT k) (kV k):=by
 cases k with
 |inl i=>exact jA.mpr rfl
 |inr i=>exact lP.mpr rfl
def tj(S:bx)(t:T):Option (List T):=match ju S t with
 |some ts=>aa ts
 |none=>(m6 S t).map λkvs=>kvs.map λp=>kT p.1
def tq(t:T):M T:=λS=>match tj S t with
 |some ts=>.ok (.lst ts) S
 |none=>.bad
def uP(t:T):M T:=λS=>match tj S t with
 |some ts=>.ok (.obj S.length) (S++[.lst ts])
 |none=>.bad
theorem L8{W:Wd}:∀{kvs:List (b9×T)} {ks:List (b9×V)},bP W kvs ks->aZ W (kvs.map λp=>kT p.1) (ks.map λp=>kV p.1)
 |[],ks,h=>by rw[rq.mp h];exact aZ.fR
 | (k,t)::kvs,ks,h=>by
   obtain⟨v,r,rfl,h1,h2⟩:=r_.mp h;exact aZ.eJ (R6 k) (L8 h2)
abbrev Zbq(K:aP):List V->Hp->VK->Prop:=λxs H Q=>(∃p ys,xs=[.ref p]/\(mJ K H p ys\/uL K H p ys)/\∀l,H l=ae->Q (.ref l) (upd H l (.lst ys))) \/
 (∃a kvs,xs=[.ref a]/\Rd H a (.dK kvs)/\∀l,H l=ae->Q (.ref l) (upd H l (.lst (kvs.map λp=>kV p.1))))
theorem R7{K:aP}{W:Wd}{S:bx}{H:Hp}{t:T}{v:V}{ts:List T}{Q:VK}(r:cK W S H)(d:cy W t v)(e:tj S t=aa ts)(h:∀vs,aZ W ts vs->∀l,H l=ae->Q (.ref l) (upd H l (.lst vs))):Zbq K [v] H Q:=by
 unfold tj at e;cases e1:ju S t with
 | some us=>
   simp only[e1] at e;cases e;obtain⟨a,vs,rfl,h1,h2⟩:=r.seq d e1;refine .inl ⟨a,vs,rfl,?_,h vs h2⟩;rcases h1 with h1 | h1
   .exact .inl (.inl h1)
   .exact .inr (.inl h1)
 | none=>
   simp only[e1] at e;obtain⟨kvs,e2,rfl⟩:=bc.mp e;obtain⟨a,ks,rfl,h1,h2⟩:=r.dict d e2;exact .inr ⟨a,ks,rfl,h1,h _ (L8 h2)⟩
theorem R8:dO "list" = aa (.type "list"):=by decide +kernel
theorem CI{p:Pos}(hc:X.calm=true)(gl:Gl X "list")(hm:X.mg "list" = ae)(ha:PE X e (RE E fa))
  (he:av [e] X.env=(false,eval e X.env)::av [] X.env:=by rfl) (gm:(bJ pos (av [] X.env)).any (·.1)=false:=by rfl):PE X (.Call (.Name "list" p) [e] [] pos) (RE E (e1 tq fa)):=
 L7 (KO.or (Rh hc)) (λt W S H v Q r d p=>by
  unfold tq at p;cases e:tj S t with
  |none=>simp only[e] at p;exact p.elim
  |some ts=>simp only[e] at p;exact R7 r d e λvs dv=>HK p r dv) gl hm R8 ha (by decide) (by decide) he gm
theorem HQ{p:Pos}(hc:X.calm=true)(gl:Gl X "list")(hm:X.mg "list" = ae)(ha:PE X e (RE E fa))
  (he:av [e] X.env=(false,eval e X.env)::av [] X.env:=by rfl) (gm:(bJ pos (av [] X.env)).any (·.1)=false:=by rfl):PE X (.Call (.Name "list" p) [e] [] pos) (RE E (e1 uP fa)):=
 L7 (KO.or (Rh hc)) (λt W S H v Q r d p=>by
  unfold uP at p;cases e:tj S t with
  |none=>simp only[e] at p;exact p.elim
  |some ts=>simp only[e] at p;exact R7 r d e λvs dv=>RJ p r dv) gl hm R8 ha (by decide) (by decide) he gm
inductive BT where
 |list | tuple | str | int | bool
def BT.nm:BT->String
 |.list => "list" |.tuple => "tuple" |.str => "str" |.int => "int" |.bool => "bool"
def pF(S:bx)(c:BT):T->Option Bool
 |.bY=>aa false
 |.bl _=>aa (match c with|.bool=>true | .int=>true | _=>false)
 |.int _=>aa (match c with|.int=>true | _=>false)
 |.str _=>aa (match c with|.str=>true | _=>false)
 |.lst _=>aa (match c with|.list=>true | _=>false)
 |.tup _=>aa (match c with|.tuple=>true | _=>false)
 |.dic _=>ae
 | .obj k=>match S[k]? with
   |some (.lst _)=>aa (match c with|.list=>true | _=>false)
   |_=>ae
def nF(c:BT)(t:T):M T:=λS=>match pF S c t with
 |some b=>.ok (.bl b) S
 |none=>.bad
theorem z5r:dO "isinstance" = aa (.builtin "isinstance"):=by decide +kernel
theorem tyL{K:aP}{H:Hp}{a:aj}{vs:List V}(h:Rd H a (.lst vs)):jJ K H (.ref a) (.type "list"):=by
 rcases h with h | ⟨o,h⟩
 .exact .lst h
 .exact .dY h
theorem HR{p q:Pos}{y:Str}(c:BT)(gl:Gl X "isinstance")(hm:X.mg "isinstance" = ae)(ha:PE X e (RE E fa))(gy:Gl X y)(my:X.mg y=ae)(HU:dO y=aa (.type c.nm))(ny:y ≠ "__name__":=by decide)(dy:(y==("__debug__" : Str))=false:=by decide)
  (he:av [e,.Name y q] X.env=(false,eval e X.env)::av [.Name y q] X.env:=by rfl) (he2:av [.Name y q] X.env=(false,eval (.Name y q) X.env)::av [] X.env:=by rfl) (gm:(bJ pos (av [.Name y q] X.env)).any (·.1)=false:=by rfl) :
  PE X (.Call (.Name "isinstance" p) [e,.Name y q] [] pos) (RE E (e1 (nF c) fa)):=
 iJ (Qv Zw gl hm z5r (vo ha (vo (WR (v:=.ty c.nm) gy my HU rfl ny dy) zg he2) he) (by decide) (by decide) he gm) fun σ H Q h=>
  qM (r := λx H Q=>∃x' c' cu t b,[x,.ty c.nm]=[x',c']/\RelV c' cu/\(∀u,RelV c' u->u=cu)/\jJ X.K H x' t/\nS X.K t cu=aa b/\Q (.bl b) H) (λt W S H v Q r d p=>by
   have go:∀{ty:af} {b:Bool},bu E W (QV Q) (.ok (.bl b) S)->jJ X.K H v ty->nS X.K ty (.type c.nm)=aa b->∃x' c' cu t b,[v,.ty c.nm]=[x',c']/\RelV c' cu/\(∀u,RelV c' u->u=cu)/\jJ X.K H x' t/\nS X.K t cu=aa b/\Q (.bl b) H:=
    λp ht hk=>⟨_,_,_,_,_,rfl,rfl,(λu z=>z),ht,hk,now p r (i_.mpr rfl)⟩
   unfold nF at p;cases t with
   |bY=>rw[oW.mp d] at go ⊢;cases c<;>exact go p .bY rfl
   |bl b=>rw[i_.mp d] at go ⊢;cases c<;>exact go p (.bl b) rfl
   |int b=>rw[jA.mp d] at go ⊢;cases c<;>exact go p (.int b) rfl
   |str b=>rw[lP.mp d] at go ⊢;cases c<;>exact go p (.str b) rfl
   |lst ts=>obtain⟨a,vs,rfl,h1,h2⟩:=r.list d rfl;cases c<;>exact go p (tyL h1) rfl
   | tup ts=>
     obtain⟨a,vs,rfl,h1,h2⟩:=s_.mp d;cases c<;>exact go p (.tup (r.sub _ _ h1).1.tup) rfl
   |dic _=>exact p.elim
   | obj k=>
     obtain⟨rfl,_⟩:=mO.mp d;cases e:S[k]? with
     |none=>simp only[pF,e] at p;exact p.elim
     | some cl=>
       cases cl with
       | lst ts=>
         simp only[pF,e] at p;obtain⟨⟨vs,h1,h2⟩,_⟩:=r.cell k _ e;cases c<;>exact go p (.lst h1) rfl
       |dic _=>simp only[pF,e] at p;exact p.elim
       |ins _ _=>simp only[pF,e] at p;exact p.elim
       |exc _ _=>simp only[pF,e] at p;exact p.elim
       |lck _=>simp only[pF,e] at p;exact p.elim) h
end
def xM(f:Str)(v:T):List (Str×T)->List (Str×T)
 |[]=>[(f,v)]
 |(g,x)::r=>if g=f then(g,v)::r else(g,x)::xM f v r
theorem eS.look{W:Wd}{f:Str}:∀{fs:List (Str×T)} {ks:List (Str×V)},eS W fs ks->(∀t,fs.lookup f=aa t->∃v,ks.lookup f=aa v/\cy W t v)/\(fs.lookup f=ae->ks.lookup f=ae)
 |[],ks,h=>by rw[show ks=[] from h];exact⟨(λt e=>by cases e),λ_=>rfl⟩
 | (g,t)::fs,ks,h=>by
   obtain⟨v,r,rfl,h1,h2⟩:=h;have ih:=eS.look (f:=f) h2;by_cases e:f=g
   .have b:(f==g)=true:=beq_iff_eq.mpr e
    simp only[bQ,b];exact⟨λt' e'=>by cases e';exact⟨v,rfl,h1⟩,λz=>by cases z⟩
   .have b:(f==g)=false:=beq_eq_false_iff_ne.mpr e
    simp only[bQ,b];exact ih
theorem eS.put{W:Wd}{f:Str}{t0:T}{v0:V}(d:cy W t0 v0):∀{fs:List (Str×T)} {ks:List (Str×V)},eS W fs ks->eS W (xM f t0 fs) (iu f v0 ks)
 |[],ks,h=>by rw[show ks=[] from h];exact⟨_,_,rfl,d,rfl⟩
 | (g,t)::fs,ks,h=>by
   obtain⟨v,r,rfl,h1,h2⟩:=h;have ih:=eS.put (f:=f) d h2;rw[show xM f t0 ((g,t)::fs)=(if g=f then(g,t0)::fs else(g,t)::xM f t0 fs) from rfl,show iu f v0 ((g,v)::r)=(if g=f then(g,v0)::r else(g,v)::iu f v0 r) from rfl];by_cases e:g=f
   .rw[if_pos e,if_pos e];exact⟨_,_,rfl,d,h2⟩
   .rw[if_neg e,if_neg e];exact⟨_,_,rfl,h1,ih⟩
def pG(S:bx)(C:aj):T->Option (Nat×List (Str×T))
 | .obj k=>match S[k]? with
   |some (.ins C' fs)=>if C'=C then aa (k,fs) else ae
   |_=>ae
 |_=>ae
theorem cK.inst {W:Wd} {S:bx} {H:Hp} (r:cK W S H) {C:aj} {t:T} {v:V} {k:Nat} {fs:List (Str×T)} (d:cy W t v) (h:pG S C t=aa (k,fs)) :
  ∃dx ks,v=.ref (W.μ k)/\S[k]?=aa (.ins C fs)/\H (W.μ k)=aa (.ins C dx ks)/\eS W fs ks:=by
 cases t with
 | obj j=>
   obtain⟨rfl,hj⟩:=mO.mp d;unfold pG at h;cases e:S[j]? with
   |none=>simp[e] at h
   | some c=>
     cases c with
     | ins C' wC=>
       simp only[e] at h
       split at h
       .rename_i hc
        cases h;subst hc;obtain⟨⟨dx,ks,h1,h2⟩,_⟩:=r.cell _ _ e;exact⟨dx,ks,rfl,e,h1,h2⟩
       .cases h
     |lst _=>simp[e] at h
     |dic _=>simp[e] at h
     |exc _ _=>simp[e] at h
     |lck _=>simp[e] at h
 |_=>simp[pG] at h
def fu(C:aj)(f:Str)(t:T):M T:=λS=>match pG S C t with
 | some (_,fs)=>(match fs.lookup f with
   |some u=>.ok u S
   |none=>.bad)
 |none=>.bad
def tw(C:aj)(f:Str)(fo fv:DE):DS:=fun ρ=>(fv ρ).bind λt=>(fo ρ).bind λo=>λS=>match pG S C o with
 |some (k,fs)=>if fs.length<900 then .ok (.nx ρ) (S.set k (.ins C (xM f t fs))) else .bad
 |none=>.bad
def uQ(fd fk fv:DE):DS:=fun ρ=>(fv ρ).bind λt=>(fd ρ).bind λd=>(fk ρ).bind λk=>λS=>match d,dF k with
 | .obj j,aa key=>(match S[j]? with
   |some (.dic kvs)=>if kvs.length<=900 then .ok (.nx ρ) (S.set j (.dic (kP kvs key t))) else .bad
   |_=>.bad)
 |_,_=>.bad
def Zc4(fl fi fv:DE):DS:=fun ρ=>(fv ρ).bind λt=>(fl ρ).bind λl=>(fi ρ).bind λi=>λS=>match l,i with
 | .obj j,.int n=>(match S[j]? with
   | some (.lst ts)=>(match vt ts.length n with
     |some m=>.ok (.nx ρ) (S.set j (.lst (ts.set m t)))
     |none=>.bad)
   |_=>.bad)
 |_,_=>.bad
section
variable {X:Cx}{E:XK}{a b c e o i value:bo}{es:List bo}{fa fb fc fo fv fi:DE}{ta tb:DT}{fr:DA}{pos jh:Pos}{f:Str}{C:aj}
theorem mw(cl:nU X.K C)(na:oa X.K C f)(ha:PE X e (RE E fa))(hb:bU e f X.env (eval e X.env)=eval e X.env:=by rfl):PE X (.Attribute e f pos) (RE E (e1 (fu C f) fa)):=
 iJ (XX ha hb) fun σ H Q h=>qM (r:=λx H1 Q=>∃a C dx fs v,x=.ref a/\H1 a=aa (.ins C dx fs)/\nU X.K C/\oa X.K C f/\fs.lookup f=aa v/\Q v H1) (λt W S H v Q r d p=>by
  unfold fu at p;cases e:pG S C t with
  |none=>simp only[e] at p;exact p.elim
  | some q=>
    obtain⟨k,fs⟩:=q;simp only[e] at p;cases e2:fs.lookup f with
    |none=>simp only[e2] at p;exact p.elim
    | some u=>
      simp only[e2] at p;obtain⟨dx,ks,rfl,h0,h1,h2⟩:=r.inst d e;obtain⟨v,e3,dv⟩:=h2.look.1 u e2;exact⟨_,C,dx,ks,v,rfl,h1,cl,na,e3,now p r dv⟩) h
theorem uR(cl:nU X.K C)(na:oa X.K C f)(ho:PE X o (RE E fo))(hv:PE X value (RE E fv))(hs:eX value (aa (.Attribute o f jh)) pos.line X.env=pure false:=by rfl):PS X (.Assign [.Attribute o f jh] value pos) (RS E (tw C f fo fv)):=
 rz (XY ho hv hs) λD σ H h=>by
  obtain⟨W,S,ρ,rp,env,p⟩:=h;refine⟨W,S,ρ,rp,env,(bu.bind p).imp λt W1 S1 H1 l1 r1 p1 y dy=>?_⟩;refine⟨W1,S1,ρ,r1,env.mono l1,(bu.bind p1).imp λo W2 S2 H2 l2 r2 p2 x dx=>?_⟩;cases e:pG S2 C o with
  |none=>simp only[e] at p2;exact p2.elim
  | some q=>
    obtain⟨k,fs⟩:=q;simp only[e] at p2
    split at p2
    .rename_i hl
     obtain⟨d',ks,rfl,h0,h1,h2⟩:=r2.inst dx e;refine⟨_,C,d',ks,rfl,h1,cl,na,by rw[<- h2.length];omega,?_⟩;exact p2 W2 _ (Wd.le.refl _) (r2.cellSet h0 _ _ ⟨d',_,fE,h2.put (cy.mono l2 _ _ dy)⟩) σ (env.mono (l1.trans l2))
    .exact p2.elim
theorem xN(hu:X.A.units+1<fq)(ho:PE X o (RE E fo))(hi:PE X i (RE E fi))(hv:PE X value (RE E fv))(hs:eX value (aa (.Subscript o i jh)) pos.line X.env=pure false:=by rfl):PS X (.Assign [.Subscript o i jh] value pos) (RS E (uQ fo fi fv)):=
 rz (Yn hu ho hi hv hs) λD σ H h=>by
  obtain⟨W,S,ρ,rp,env,p⟩:=h;refine⟨W,S,ρ,rp,env,(bu.bind p).imp λt W1 S1 H1 l1 r1 p1 v dv=>?_⟩;refine⟨W1,S1,ρ,r1,env.mono l1,(bu.bind p1).imp λd W2 S2 H2 l2 r2 p2 x dx=>?_⟩;refine⟨W2,S2,ρ,r2,env.mono (l1.trans l2),(bu.bind p2).imp λk W3 S3 H3 l3 r3 p3 y dy=>?_⟩;have dx:=cy.mono l3 _ _ dx;have dv:=cy.mono (l2.trans l3) _ _ dv
  split at p3
  .rename_i e2
   split at p3
   .rename_i kvs e
    split at p3
    .rename_i hl
     obtain⟨rfl,_⟩:=mO.mp dx;obtain⟨⟨ks,h1,h2⟩,_⟩:=r3.cell _ _ e;refine⟨_,_,rfl,.inl ⟨ks,_,h1,HN dy ‹dF k=aa _›,QS (by rw[<- h2.length];omega),rfl⟩,?_⟩;exact p3 W3 _ (Wd.le.refl _) (r3.cellSet e _ _ ⟨_,fE,h2.put dv _⟩) σ (env.mono (l1.trans (l2.trans l3)))
    .exact p3.elim
   .exact p3.elim
  .exact p3.elim
def jB(ok:bx->T->Bool)(g:T->List T->M T)(fo:DE)(fr:DA):DE:=fun ρ=>(fo ρ).bind λt=>λS=>if ok S t=true then((fr ρ).bind λts=>g t ts) S else .bad
def jv(S:bx)(t:T):Bool:=(cI S t).isSome
def HV(_:bx):T->Bool
 |.str _=>true
 |_=>false
def GM(E:XK)(r:V->List V->Hp->VK->Prop)(g:T->List T->M T):Prop:=∀(t:T) (ts:List T) (W:Wd) (S:bx) (H:Hp) (v:V) (vs:List V) (Q:VK),cK W S H->cy W t v->aZ W ts vs->bu E W (QV Q) (g t ts S)->r v vs H Q
theorem EX{K:aP}{W:Wd}{S:bx}{H:Hp}{t:T}{v:V}(r:cK W S H)(d:cy W t v)(h:jv S t=true):AB K "list" v H:=by
 obtain⟨ts,e⟩:=i5.mp h;obtain⟨a,vs,rfl,h1,_⟩:=r.list d e;exact .inl ⟨rfl,vs,.inl h1⟩
theorem z8r{K:aP}{W:Wd}{S:bx}{H:Hp}{t:T}{v:V}(r:cK W S H)(d:cy W t v)(h:HV S t=true):AB K "str" v H:=by
 cases t with
 |str x=>rw[lP.mp d];exact rfl
 |_=>cases h
theorem xO{ok:bx->T->Bool}{T' id:String}{name:Str}{r:V->List V->Hp->VK->Prop}{g:T->List T->M T}{cC:Pos}(pa:sO T')(slot:Slot T' name id)(AD:typeOf (.builtin id)=pure (.type "method_descriptor"))(hm:AA X id r)
  (cB:∀{W:Wd} {S:bx} {H:Hp} {t:T} {v:V},cK W S H->cy W t v->ok S t=true->AB X.K T' v H) (hg:GM E r g) (ho:PE X o (RE E fo)) (ha:PA X (e::es) (RA E fr))
  (eQ:bU o name X.env (eval o X.env)=eval o X.env:=by rfl)
  (nB:((bJ pos (av (e::es) X.env)).all (λx=>!x.1)&&(eY pos (cX [] X.env)).all (λx=>x.1.isSome)
   && decide ((e::es).length+([]:List gz).length+(if([]:List gz).isEmpty then 0 else 1)<30))=true:=by rfl)
  (eR:(cC.endLine==pos.line)=true:=by rfl) (hs:av (e::es) X.env=(false,eval e X.env)::av es X.env:=by rfl) (rT:(bJ pos (av es X.env)).any (·.1)=false:=by rfl) :
  PE X (.Call (.Attribute o name cC) (e::es) [] pos) (RE E (jB ok g fo fr)):=
 iJ (YS pa slot AD hm ho ha eQ nB eR hs rT) fun σ H Q h=>by
  obtain⟨W,S,ρ,rp,env,p⟩:=h;refine⟨W,S,ρ,rp,env,(bu.bind p).imp λt W1 S1 H1 l1 r1 p1 v dv=>?_⟩
  split at p1
  .rename_i h
   refine⟨cB r1 dv h,W1,S1,ρ,r1,env.mono l1,(bu.bind p1).imp λts W2 S2 H2 l2 r2 p2 vs jr=>?_⟩;exact hg t ts W2 S2 H2 v vs Q r2 (cy.mono l2 _ _ dv) jr p2
  .exact p1.elim
theorem R9{ok:bx->T->Bool}{T' id:String}{name:Str}{r:V->List V->Hp->VK->Prop}{g:T->List T->M T}{cC:Pos}(pa:sO T')(slot:Slot T' name id)(AD:typeOf (.builtin id)=pure (.type "method_descriptor"))(hm:AA X id r)
  (cB:∀{W:Wd} {S:bx} {H:Hp} {t:T} {v:V},cK W S H->cy W t v->ok S t=true->AB X.K T' v H) (hg:GM E r g) (ho:PE X o (RE E fo))
  (eQ:bU o name X.env (eval o X.env)=eval o X.env:=by rfl) (eR:(cC.endLine==pos.line)=true:=by rfl) :
  PE X (.Call (.Attribute o name cC) [] [] pos) (RE E (jB ok g fo aJ)):=
 iJ (YR pa slot AD hm ho eQ eR) fun σ H Q h=>by
  obtain⟨W,S,ρ,rp,env,p⟩:=h;refine⟨W,S,ρ,rp,env,(bu.bind p).imp λt W1 S1 H1 l1 r1 p1 v dv=>?_⟩
  split at p1
  .rename_i h
   exact⟨cB r1 dv h,hg t [] W1 S1 H1 v [] Q r1 dv aZ.fR p1⟩
  .exact p1.elim
def fL(S:bx):T->Option (Nat×List T)
 | .obj k=>match S[k]? with
   |some (.lst ts)=>aa (k,ts)
   |_=>ae
 |_=>ae
theorem cK.fL{W:Wd}{S:bx}{H:Hp}(r:cK W S H){t:T}{v:V}{k:Nat}{ts:List T}(d:cy W t v)(h:fL S t=aa (k,ts)):∃vs,v=.ref (W.μ k)/\S[k]?=aa (.lst ts)/\H (W.μ k)=aa (.lst vs)/\aZ W ts vs:=by
 cases t with
 | obj j=>
   obtain⟨rfl,hj⟩:=mO.mp d;unfold MF.fL at h;cases e:S[j]? with
   |none=>simp[e] at h
   | some c=>
     cases c with
     | lst us=>
       simp only[e] at h;cases h;obtain⟨⟨vs,h1,h2⟩,_⟩:=r.cell _ _ e;exact⟨vs,rfl,e,h1,h2⟩
     |dic _=>simp[e] at h
     |ins _ _=>simp[e] at h
     |exc _ _=>simp[e] at h
     |lck _=>simp[e] at h
 |_=>simp[MF.fL] at h
def jP(t:T)(as:List T):M T:=λS=>match fL S t,as with
 |some (k,ts),[y]=>if ts.length<1000 then .ok .bY (S.set k (.lst (ts++[y]))) else .bad
 |_,_=>.bad
def jC(t:T)(as:List T):M T:=λS=>match fL S t,as with
 | some (k,ts),[y]=>(match cI S y with
   |some us=>if ts.length+us.length<=1000 then .ok .bY (S.set k (.lst (ts++us))) else .bad
   |none=>.bad)
 |_,_=>.bad
def zx(t:T)(as:List T):M T:=λS=>match fL S t,as with
 |some (k,_),[]=>.ok .bY (S.set k (.lst []))
 |_,_=>.bad
def ue(t:T)(as:List T):M T:=λS=>match fL S t,as with
 | some (k,ts),[]=>(match ts[ts.length-1]? with
   |some y=>.ok y (S.set k (.lst ts.dropLast))
   |none=>.bad)
 |_,_=>.bad
theorem z8t:GM E QN jP:=by
 intro t as W S H v vs Q r d da p;unfold jP at p
 split at p
 .rename_i k ts y e
  split at p
  .rename_i hl
   obtain⟨us,rfl,h0,h1,h2⟩:=r.fL d e;obtain⟨w,rfl,dw⟩:=A6 da;exact⟨_,us,w,rfl,rfl,h1,ax (by rw[<- h2.length];exact hl) (px (az _)),p W _ (Wd.le.refl _) (r.cellSet h0 _ _ ⟨_,fE,h2.append (aZ.eJ dw aZ.fR)⟩) _ (oW.mpr rfl)⟩
  .exact p.elim
 .exact p.elim
def R_:V->List V->Hp->VK->Prop:=λx vs H Q=>∃l b xs zs,x=.ref l/\vs=[.ref b]/\H l=aa (.lst xs)/\Rd H b (.lst zs)/\xs.length+zs.length<=sizeLine/\Q .bY (upd H l (.lst (xs++zs)))
theorem zwx:AA X "list.extend" R_:=by
 intro ag s σ H x vs v us Q I rx rv h;obtain⟨l,b,xs,zs,rfl,rfl,hH,hB,hz,q⟩:=h;cases rx;obtain⟨u,rfl,ru⟩:=rv.one;cases ru;obtain⟨z,cA,n,r,hl,e⟩:=I.vw hH;obtain⟨z2,oo,n2,r2,e2⟩:=hB.ok I.cB;have uO:=r2.length;have hsz:cA.toArray.size+oo.toArray.size<=sizeLine:=by rw[aQ,aQ];omega
 have EY:¬(!cA.toArray.isEmpty&&il (cA.toArray.size+oo.toArray.size))=true:=by
  rw[YU hsz,Aa];exact aY
 refine nR F.slot_list_extend ⟨_,e,rfl⟩ F.entry_list_extend (F.args_list_extend_2 _ _)
  (AutoSeq1.list_extend_list_list_0 l cA.toArray n b oo.toArray n2 EY (by rw[aQ];omega) (by omega)) ⟨e,e2,?_⟩
 refine⟨.bY,_,I.vv (its':=cA++oo) hH e (by simp) (r.append r2) ?_,rfl,q⟩;rw[aB];omega
theorem z8u:GM E R_ jC:=by
 intro t as W S H v vs Q r d da p;unfold jC at p
 split at p
 .rename_i k ts y e
  cases e2:cI S y with
  |none=>simp only[e2] at p;exact p.elim
  | some zs=>
    simp only[e2] at p
    split at p
    .rename_i hl
     obtain⟨us,rfl,h0,h1,h2⟩:=r.fL d e;obtain⟨w,rfl,dw⟩:=A6 da;obtain⟨b,ws,rfl,h3,h4⟩:=r.list dw e2;exact⟨_,b,us,ws,rfl,rfl,h1,h3,px (by rw[<- h2.length,<- h4.length];exact hl),p W _ (Wd.le.refl _) (r.cellSet h0 _ _ ⟨_,fE,h2.append h4⟩) _ (oW.mpr rfl)⟩
    .exact p.elim
 .exact p.elim
theorem z2c:GM E QO zx:=by
 intro t as W S H v vs Q r d da p;unfold zx at p
 split at p
 .rename_i k ts e
  obtain⟨us,rfl,h0,h1,h2⟩:=r.fL d e;rw[nE.mp da];exact⟨_,us,rfl,rfl,h1,p W _ (Wd.le.refl _) (r.cellSet h0 _ _ ⟨_,fE,aZ.fR⟩) _ (oW.mpr rfl)⟩
 .exact p.elim
theorem aZ.dropLast{W:Wd}{ts:List T}{vs:List V}(h:aZ W ts vs):aZ W ts.dropLast vs.dropLast:=by
 rw[sP,sP,h.length];exact h.take _
theorem z8v:GM E Eo ue:=by
 intro t as W S H v vs Q r d da p;unfold ue at p
 split at p
 .rename_i k ts e
  cases e2:ts[ts.length-1]? with
  |none=>simp only[e2] at p;exact p.elim
  | some y=>
    simp only[e2] at p;obtain⟨us,rfl,h0,h1,h2⟩:=r.fL d e;rw[nE.mp da];obtain⟨w,e3,dw⟩:=h2.get e2;exact⟨_,us,w,rfl,rfl,h1,by rw[<- h2.length];exact e3,p W _ (Wd.le.refl _) (r.cellSet h0 _ _ ⟨_,fE,h2.dropLast⟩) _ dw⟩
 .exact p.elim
def uS:List T->Option (List Str)
 |[]=>aa []
 |.str x::ts=>(uS ts).map (x::·)
 |_::_=>ae
theorem L9{W:Wd}:∀{ts:List T} {vs:List V} {ys:List Str},aZ W ts vs->uS ts=aa ys->vs=ys.map V.str
 |[],vs,ys,h,e=>by cases e;exact nE.mp h
 | t :: ts,vs,ys,h,e=>by
   obtain⟨v,r,rfl,h1,h2⟩:=m3.mp h;cases t with
   | str x=>
     simp only[uS] at e;obtain⟨zs,e1,rfl⟩:=bc.mp e;rw[lP.mp h1,L9 h2 e1];rfl
   |_=>simp[uS] at e
def CJ(t:T)(as:List T):M T:=λS=>match t,as with
 | .str z,[y]=>(match (cI S y).bind uS with
   |some ys=>if(ys.map (·.length)).sum+ys.length*z.length<=100000 then .ok (.str (qg z ys)) S else .bad
   |none=>.bad)
 |_,_=>.bad
theorem z5s(K:aP):GM E (λx xs H Q=>∃z l ys,x=.str z/\xs=[.ref l]/\mJ K H l (ys.map V.str)/\(ys.map (·.length)).sum+ys.length*z.length<=16777216/\Q (.str (qg z ys)) H) CJ:=by
 intro t as W S H v vs Q r d da p;unfold CJ at p
 split at p
 .rename_i z y
  cases e:(cI S y).bind uS with
  |none=>simp only[e] at p;exact p.elim
  | some ys=>
    simp only[e] at p
    split at p
    .rename_i hl
     obtain⟨us,e1,e2⟩:=jg.mp e;obtain⟨w,rfl,dw⟩:=A6 da;obtain⟨b,ws,rfl,h3,h4⟩:=r.list dw e1;rw[L9 h4 e2] at h3;exact⟨z,b,ys,lP.mp d,rfl,.inl h3,by omega,now p r (lP.mpr rfl)⟩
    .exact p.elim
 .exact p.elim
theorem xP{cC:Pos}(ho:PE X o (RE E fo))(ha:PA X [e] (RA E fr))(eQ:bU o "append" X.env (eval o X.env)=eval o X.env:=by rfl)
  (eR:(cC.endLine==pos.line)=true:=by rfl) (hs:av [e] X.env=(false,eval e X.env)::av [] X.env:=by rfl)
  (nB:((bJ pos (av [e] X.env)).all (λx=>!x.1)&&(eY pos (cX [] X.env)).all (λx=>x.1.isSome)&&decide ([e].length+([]:List gz).length+(if([]:List gz).isEmpty then 0 else 1)<30))=true:=by rfl):PE X (.Call (.Attribute o "append" cC) [e] [] pos) (RE E (jB jv jP fo fr)):=
 xO d9 PySem.F.slot_list_append PySem.F.type_list_append KS EX z8t ho ha eQ nB eR hs rfl
theorem uT{cC:Pos}(ho:PE X o (RE E fo))(ha:PA X [e] (RA E fr))(eQ:bU o "extend" X.env (eval o X.env)=eval o X.env:=by rfl)
  (eR:(cC.endLine==pos.line)=true:=by rfl) (hs:av [e] X.env=(false,eval e X.env)::av [] X.env:=by rfl)
  (nB:((bJ pos (av [e] X.env)).all (λx=>!x.1)&&(eY pos (cX [] X.env)).all (λx=>x.1.isSome)&&decide ([e].length+([]:List gz).length+(if([]:List gz).isEmpty then 0 else 1)<30))=true:=by rfl):PE X (.Call (.Attribute o "extend" cC) [e] [] pos) (RE E (jB jv jC fo fr)):=
 xO d9 PySem.F.slot_list_extend PySem.F.type_list_extend zwx EX z8u ho ha eQ nB eR hs rfl
theorem z8w{cC:Pos}(ho:PE X o (RE E fo))(ha:PA X [e] (RA E fr))(eQ:bU o "join" X.env (eval o X.env)=eval o X.env:=by rfl)
  (eR:(cC.endLine==pos.line)=true:=by rfl) (hs:av [e] X.env=(false,eval e X.env)::av [] X.env:=by rfl)
  (nB:((bJ pos (av [e] X.env)).all (λx=>!x.1)&&(eY pos (cX [] X.env)).all (λx=>x.1.isSome)&&decide ([e].length+([]:List gz).length+(if([]:List gz).isEmpty then 0 else 1)<30))=true:=by rfl):PE X (.Call (.Attribute o "join" cC) [e] [] pos) (RE E (jB HV CJ fo fr)):=
 xO PySem.F.plainAttrs_str PySem.F.slot_str_join PySem.F.type_str_join Zx z8r (z5s X.K) ho ha eQ nB eR hs rfl
theorem R'{cC:Pos}(ho:PE X o (RE E fo))(eQ:bU o "clear" X.env (eval o X.env)=eval o X.env:=by rfl)(eR:(cC.endLine==pos.line)=true:=by rfl):PE X (.Call (.Attribute o "clear" cC) [] [] pos) (RE E (jB jv zx fo aJ)):=
 R9 d9 PySem.F.slot_list_clear PySem.F.type_list_clear YX EX z2c ho eQ eR
theorem Zbr{cC:Pos}(ho:PE X o (RE E fo))(eQ:bU o "pop" X.env (eval o X.env)=eval o X.env:=by rfl)(eR:(cC.endLine==pos.line)=true:=by rfl):PE X (.Call (.Attribute o "pop" cC) [] [] pos) (RE E (jB jv ue fo aJ)):=
 R9 d9 PySem.F.slot_list_pop PySem.F.type_list_pop YV EX z8v ho eQ eR
end
def gU:DS:=fun ρ=>M.pure (.nx ρ)
def ba(f g:DS):DS:=fun ρ=>(f ρ).bind λx=>match x with
 |.nx ρ'=>g ρ'
 |o=>M.pure o
def cW(f:DE):DS:=fun ρ=>(f ρ).bind λt=>M.pure (.rt t)
def iT(f:DE):DS:=fun ρ=>(f ρ).bind λ_=>M.pure (.nx ρ)
def bV(i:Nat)(f:DE):DS:=fun ρ=>(f ρ).bind λt=>M.pure (.nx (ρ.set i (aa t)))
def gp(c:DT)(f g:DS):DS:=fun ρ=>(c ρ).bind λb=>if b=true then f ρ else g ρ
theorem EZ{α:Type}{E:XK}{W W':Wd}{Q:α->Wd->bx->Hp->Prop}{r:R α}(h:bu E W Q r)(l:W.le W'):bu E W' Q r:=by
 cases r with
 |ok a S=>exact λW2 H2 l2 rp=>h W2 H2 (l.trans l2) rp
 |exc C fs S=>exact λW2 H2 dx l2 rp=>h W2 H2 dx (l.trans l2) rp
 |bad=>exact h
section
variable {X:Cx}{E:XK}{a b c e o:bo}{es:List bo}{fa fb fc:DE}{tc:DT}{fr:DA}{pos:Pos}{st:cm}{hU sa sb:List cm}{f g:DS}
theorem Zbs{D:Ends}{σ:St}{H:Hp}(h:RS E gU D σ H):D.nx σ H:=by
 obtain⟨W,S,ρ,rp,env,p⟩:=h;exact p W H (Wd.le.refl _) rp σ env
theorem jk:j9 X [] (RS E gU):=RC Xe λD σ H h=>Zbs h
theorem z8x{D:Ends}{σ:St}{H:Hp}(h:RS E (ba f g) D σ H):vi (RS E f) (RS E g) D σ H:=by
 obtain⟨W,S,ρ,rp,env,p⟩:=h;refine⟨W,S,ρ,rp,env,(bu.bind p).imp λx W1 S1 H1 l1 r1 p1=>?_⟩;cases x with
 |nx ρ'=>exact fun σ' e'=>⟨W1,S1,ρ',r1,e',p1⟩
 |rt t=>exact p1 W1 H1 (Wd.le.refl _) r1
 |bk ρ'=>exact p1 W1 H1 (Wd.le.refl _) r1
 |ct ρ'=>exact p1 W1 H1 (Wd.le.refl _) r1
theorem cJ(h1:PS X st (RS E f))(h2:j9 X hU (RS E g)):j9 X (st::hU) (RS E (ba f g)):=RC (GV h1 h2) λD σ H h=>z8x h
theorem di(h1:PS X st (RS E f)):j9 X [st] (RS E f):=Kf h1
theorem ie(ha:PE X e (RE E fa)):PS X (.Return (aa e) pos) (RS E (cW fa)):=rz (Xf ha) λD σ H h=>by
 obtain⟨W,S,ρ,rp,env,p⟩:=h;exact⟨W,S,ρ,rp,env,(bu.bind p).imp λt W1 S1 H1 l1 r1 p1 v dv=>p1 W1 H1 (Wd.le.refl _) r1 v dv⟩
theorem jF(ha:PE X e (RE E fa))(hs:eX e ae pos.line X.env=pure false:=by rfl):PS X (.Expr e pos) (RS E (iT fa)):=rz (Kh ha hs) λD σ H h=>by
 obtain⟨W,S,ρ,rp,env,p⟩:=h;exact⟨W,S,ρ,rp,env,(bu.bind p).imp λt W1 S1 H1 l1 r1 p1 v dv=>p1 W1 H1 (Wd.le.refl _) r1 σ (env.mono l1)⟩
theorem L_{i:Nat}{D:Ends}{σ:St}{H:Hp}(h:RS E (bV i fa) D σ H):xk (RE E fa) (wH i) D σ H:=by
 obtain⟨W,S,ρ,rp,env,p⟩:=h;exact⟨W,S,ρ,rp,env,(bu.bind p).imp λt W1 S1 H1 l1 r1 p1 v dv=>p1 W1 H1 (Wd.le.refl _) r1 _ ((env.mono l1).set dv i)⟩
theorem gr{i:Nat}{x:Str}{jh:Pos}(hN:X.N.Nodup)(hi:X.N[i]?=aa x)(hx:Loc X.env.scope x)(he:PE X e (RE E fa))(hs:eX e (aa (.Name x jh)) pos.line X.env=pure false:=by rfl)(hf:X.fn x=true\/X.env.scope.names.lookup x=aa .local:=by first | exact .inl rfl | exact .inr rfl | assumption)
 (hkn:∀u:V,X.kn[i]?≠aa (aa u):=by first | assumption | exact λu h=>nomatch (show(ae:Option (Option V))=aa (aa u) from h) | exact λu h=>nomatch (bg (show aa (ae:Option V)=aa (aa u) from h))) :
 PS X (.Assign [.Name x jh] e pos) (RS E (bV i fa)):=rz (Xh hN hi hx he hs hf hkn) λD σ H h=>L_ h
theorem eE(hc:PT X c (RT E tc))(ha:j9 X sa (RS E f))(hb:j9 X sb (RS E g)):PS X (.If c sa sb pos) (RS E (gp tc f g)):=rz (Xg hc ha hb) λD σ H h=>by
 obtain⟨W,S,ρ,rp,env,p⟩:=h;refine⟨W,S,ρ,rp,env,(bu.bind p).imp λk W1 S1 H1 l1 r1 p1=>?_⟩;cases k with
 |true=>exact rW ⟨W1,S1,ρ,r1,env.mono l1,p1⟩
 |false=>exact rV ⟨W1,S1,ρ,r1,env.mono l1,p1⟩
abbrev DG:=T->Ev->Option Ev
def GT(gl:TG)(g:DG):Prop:=∀(W:Wd) (S:bx) (H:Hp) (t:T) (x:V) (ρ ρ2:Ev) (σ:St) (Q:St->Hp->Prop),cK W S H->cy W t x->fK W ρ σ->g t ρ=aa ρ2->(∀σ2,fK W ρ2 σ2->Q σ2 H)->gl x σ H Q
def c0(i:Nat):DG:=λt ρ=>aa (ρ.set i (aa t))
theorem iZ(i:Nat):GT (wH i) (c0 i):=λW S H t x ρ ρ2 σ Q r d env e h=>by
 cases e;exact h _ (env.set d i)
def wL(i j:Nat):DG:=λt ρ=>match t with
 |.tup [a,b]=>aa ((ρ.set i (aa a)).set j (aa b))
 |_=>ae
theorem Sa(K:aP)(i j:Nat):GT (D0 K 2 (Kk (wH i) (Kk (wH j) DZ))) (wL i j):=λW S H t x ρ ρ2 σ Q r d env e h=>by
 unfold wL at e
 split at e
 .cases e
  obtain⟨p,vs,rfl,h1,h2⟩:=s_.mp d;obtain⟨v,r1,rfl,d1,h3⟩:=m3.mp h2;obtain⟨w,rfl,d2⟩:=A6 h3;exact⟨p,_,rfl,.inl (r.sub _ _ h1).1.rd,rfl,v,_,rfl,w,_,rfl,rfl,h _ ((env.set d1 i).set d2 j)⟩
 .cases e
structure sg(W1:Wd)(ts:List T)(st:bx->Prop)(J:It):Prop where
 go:∀i W' S' H',W1.le W'->cK W' S' H'->st S'->i<ts.length->J.go i H'/\∀x oV,J.GY i H' x oV->∃Ma t,W'.le Ma/\cK Ma S' oV/\ts[i]?=aa t/\cy Ma t x
 stop:∀i W' S' H',W1.le W'->cK W' S' H'->st S'->i=ts.length->J.stop i H'
abbrev DI:=Ev->M (List T×(bx->Prop))
def RI(E:XK)(it:DI)(wi:TI):Prop:=∀(σ:St) (H:Hp) (R:It->Hp->Prop),(∃W S ρ,cK W S H/\fK W ρ σ/\bu E W (λq W1 S1 H1=>∀J W2 H2,W1.le W2->cK W2 S1 H2->sg W2 q.1 q.2 J->R J H2) (it ρ S))->wi σ H R
def iL(f:DE):DI:=fun ρ=>(f ρ).bind λt=>λS=>match cI S t with
 |some ts=>.ok (ts,λS'=>cI S' t=aa ts) S
 |none=>.bad
theorem kd(K:aP):RI E (iL fa) (P5 K (RE E fa)):=fun σ H R h=>by
 obtain⟨W,S,ρ,rp,env,p⟩:=h;refine⟨W,S,ρ,rp,env,(bu.bind p).imp λt W1 S1 H1 l1 r1 p1 v dv=>?_⟩;cases e:cI S1 t with
 |none=>simp only[e] at p1;exact p1.elim
 | some ts=>
   simp only[e] at p1;obtain⟨a,vs,rfl,h1,h2⟩:=r1.list dv e;refine⟨a,rfl,⟨vs,.inl h1⟩,p1 W1 H1 (Wd.le.refl _) r1 _ W1 H1 (Wd.le.refl _) r1 ⟨λi W' S' H' l r' st hi=>?_,λi W' S' H' l r' st hi=>?_⟩⟩
   .obtain⟨a',us,ea,g1,g2⟩:=r'.list (cy.mono l _ _ dv) st
    cases ea;have Mb:i<us.length:=g2.length▸hi;refine⟨⟨us,us[i],.inl g1,aW Mb⟩,λx oV y=>?_⟩;obtain⟨rfl,y⟩:=y;have ex:=y us (.inl g1);obtain⟨t',e1,d1⟩:=g2.get' ex;exact⟨W',t',Wd.le.refl _,r',e1,d1⟩
   .obtain⟨a',us,ea,g1,g2⟩:=r'.list (cy.mono l _ _ dv) st
    cases ea;exact⟨us,.inl g1,by rw[<- g2.length];exact gJ hi.symm⟩
def ot(lo:Int)(n:Nat):List T:=(d5 n).map λ(k:Nat)=>T.int (lo+k)
theorem A7(lo:Int)(n:Nat):(ot lo n).length=n:=by simp[ot]
theorem Sb{lo:Int}{n i:Nat}(h:i<n):(ot lo n)[i]?=aa (.int (lo+i)):=by simp[ot,h]
def tz(f:DA):DI:=fun ρ=>(f ρ).bind λts=>λS=>match ts with
 |[.int j]=>if -1000000<=j/\j<=1000000 then .ok (ot 0 j.toNat,λ_=>True) S else .bad
 |_=>.bad
theorem z2d(W:Wd)(lo:Int)(n:Nat):sg W (ot lo n) (λ_=>True) (G_ lo n):=⟨λi W' S' H' l r' _ hi=>by
 rw[A7] at hi;refine⟨hi,λx oV y=>?_⟩;obtain⟨rfl,rfl⟩:=y;exact⟨W',_,Wd.le.refl _,r',Sb hi,jA.mpr rfl⟩,λi W' S' H' l r' _ hi=>by
 rw[A7] at hi;exact gJ hi.symm⟩
theorem CK:RI E (tz fr) (P6 (RA E fr)):=fun σ H R h=>by
 obtain⟨W,S,ρ,rp,env,p⟩:=h;refine⟨W,S,ρ,rp,env,(bu.bind p).imp λts W1 S1 H1 l1 r1 p1 vs dv=>?_⟩
 split at p1
 .rename_i j
  split at p1
  .rename_i hj
   obtain⟨v,rfl,d1⟩:=A6 dv;exact⟨j,by rw[jA.mp d1],by omega,by omega,p1 W1 H1 (Wd.le.refl _) r1 _ W1 H1 (Wd.le.refl _) r1 (z2d W1 0 _)⟩
  .exact p1.elim
 .exact p1.elim
def iK(f:DE):DI:=fun ρ=>(f ρ).bind λt=>λS=>match t with
 |.dic kvs=>.ok (kvs.map λp=>kT p.1,λ_=>True) S
 |_=>.bad
def Wd.zed(W:Wd)(a:aj)(o:Obj×HO):Wd:=⟨W.HS,W.μ,W.n,λb=>if b=a then aa o else W.Z b,W.P⟩
theorem cK.A8{W:Wd}{S:bx}{H:Hp}{a:aj}{u:HO}{o:Obj}(r:cK W S H)(hs:W.HS a=aa u)(hH:H a=aa u)(nt:∀xs,u≠.tup xs)(no:HF u):cK (W.zed a (o,u)) S (upd H a (.dY o u))/\W.le (W.zed a (o,u)):=by
 have zn:W.Z a=ae:=by
  cases e:W.Z a with
  |none=>rfl
  | some q=>
    have h2:=r.zed a q e;rw[hH] at h2;cases h2;exact no.elim
 have l:W.le (W.zed a (o,u)):=⟨λ_ _ e=>e,λb q e=>by
  show(if b=a then aa (o,u) else W.Z b)=aa q;by_cases z:b=a
  .rw[z,zn] at e;cases e
  .rw[if_neg z];exact e,λ_ _ e=>e,az _,λ_ _=>rfl⟩
 refine⟨⟨λb w e=>?_,r.len,λk c e=>?_,r.inj,λb q e=>?_,λb w e=>?_⟩,l⟩
 .by_cases z:b=a
  .subst z
   have e:W.HS b=aa w:=e;rw[hs] at e;cases e;exact⟨.inr ⟨⟨o,fE⟩,nt⟩,no⟩
  .exact⟨(r.sub b w e).1.at (c4 z),(r.sub b w e).2⟩
 .have ne:W.μ k≠a:=λz=>by have:=(r.cell k c e).2;rw[z,hs] at this;cases this
  exact⟨((r.cell k c e).1.at (c4 ne)).mono l,(r.cell k c e).2⟩
 .have e:(if b=a then aa (o,u) else W.Z b)=aa q:=e
  by_cases z:b=a
  .rw[if_pos z] at e
   cases e;subst z;exact fE
  .rw[if_neg z] at e
   rw[c4 z];exact r.zed b q e
 .obtain⟨h1,h2,h3⟩:=r.prv b w e
  have ne:b≠a:=λz=>by rw[z,hs] at h2;cases h2
  exact⟨by rw[c4 ne];exact h1,h2,h3⟩
theorem cK.A9{W:Wd}{S:bx}{H:Hp}{a:aj}{u:HO}{o:Obj}(r:cK W S H)(hs:W.HS a=aa u)(hH:H a=aa (.dY o u)):cK (W.zed a (o,u)) S H/\W.le (W.zed a (o,u)):=by
 have l:W.le (W.zed a (o,u)):=⟨λ_ _ e=>e,λb q e=>by
  show(if b=a then aa (o,u) else W.Z b)=aa q;by_cases z:b=a
  .have h2:=r.zed b q e
   rw[z,hH] at h2;obtain⟨q1,q2⟩:=q;cases h2;rw[if_pos z]
  .rw[if_neg z];exact e,λ_ _ e=>e,az _,λ_ _=>rfl⟩
 refine⟨⟨r.sub,r.len,λk c e=>⟨(r.cell k c e).1.mono l,(r.cell k c e).2⟩,r.inj,λb q e=>?_,r.prv⟩,l⟩;have e:(if b=a then aa (o,u) else W.Z b)=aa q:=e;by_cases z:b=a
 .rw[if_pos z] at e
  cases e;subst z;exact hH
 .rw[if_neg z] at e
  exact r.zed b q e
theorem Mc{W:Wd}{a:aj}{o:Obj}{kvs:List (b9×T)}{ks:List (b9×V)}(hz:W.Z a=aa (o,.dK ks))(d:bP W kvs ks):sg W (kvs.map λp=>kT p.1) (λ_=>True) (AO a o ks):=⟨λi W' S' H' l r' _ hi=>by
 have h2:=r'.zed a _ (l.z a _ hz);rw[aN,d.length] at hi;refine⟨⟨h2,hi⟩,λx oV y=>?_⟩;obtain⟨k,v,e1,rfl,rfl⟩:=y;have dk:=L8 d;obtain⟨t,e2,d2⟩:=dk.get' (i:=i) (v:=kV k) (by rw[bH,e1];rfl);exact⟨W',t,Wd.le.refl _,r',e2,cy.mono l _ _ d2⟩,λi W' S' H' l r' _ hi=>by
 have h2:=r'.zed a _ (l.z a _ hz);rw[aN,d.length] at hi;exact⟨h2,gJ hi.symm⟩⟩
theorem Sd:RI E (iK fa) (Q5 X (RE E fa)):=fun σ H R h=>by
 obtain⟨W,S,ρ,rp,env,p⟩:=h;refine⟨W,S,ρ,rp,env,(bu.bind p).imp λt W1 S1 H1 l1 r1 p1 v dv=>?_⟩
 split at p1
 .rename_i kvs
  obtain⟨a,ks,rfl,h1,h2⟩:=xy.mp dv;refine⟨a,ks,rfl,?_⟩;rcases(r1.sub a _ h1).1 with g | ⟨⟨o,g⟩,_⟩
  .refine .inl ⟨g,λo _=>?_⟩
   obtain⟨r2,l2⟩:=r1.A8 (o:=o) h1 g (by intro xs z;cases z) trivial;exact p1 W1 H1 (Wd.le.refl _) r1 _ _ _ l2 r2 (Mc (by show(if a=a then aa (o,HO.dK ks) else _)=aa (o,HO.dK ks);rw[if_pos rfl]) (bP.mono l2 _ _ h2))
  .refine .inr ⟨o,g,?_⟩
   obtain⟨r2,l2⟩:=r1.A9 h1 g;exact p1 W1 H1 (Wd.le.refl _) r1 _ _ _ l2 r2 (Mc (by show(if a=a then aa (o,HO.dK ks) else _)=aa (o,HO.dK ks);rw[if_pos rfl]) (bP.mono l2 _ _ h2))
 .exact p1.elim
end
open Classical in
def dz(st:bx->Prop)(g:DG)(body:DS):List T->Ev->M Fl
 |[],ρ=>λS=>if st S then .ok (.nx ρ) S else .bad
 | t :: ts,ρ=>λS=>if st S then(match g t ρ with
   | some ρ1=>(body ρ1).bind (λx=>match x with
     |.nx ρ2=>dz st g body ts ρ2
     |.ct ρ2=>dz st g body ts ρ2
     |.bk ρ2=>M.pure (.nx ρ2)
     |.rt t=>M.pure (.rt t)) S
   |none=>.bad) else .bad
def dA(it:DI)(g:DG)(body:DS):DS:=fun ρ=>(it ρ).bind λq=>dz q.2 g body q.1 ρ
section
variable {X:Cx}{E:XK}{tg iter:bo}{body:List cm}{it:DI}{wi:TI}{gl:TG}{g:DG}{fb:DS}{pos:Pos}
theorem Se(hG:GT gl g){D:Ends}{σ:St}{H2:Hp}{W2:Wd}{S1:bx}{ρ:Ev}{ts:List T}{st:bx->Prop}{J:It}(r2:cK W2 S1 H2)(env:fK W2 ρ σ)(ok:sg W2 ts st J)(p1:bu E W2 (QF D) (dz st g fb ts ρ S1)) :
  Aq (λ_ _ R=>R J H2) gl (RS E fb) D σ H2:=by
 refine⟨λi m σ H=>i<=ts.length/\m=ts.length-i/\∃W S ρ,W2.le W/\cK W S H/\fK W ρ σ/\bu E W (QF D) (dz st g fb (ts.drop i) ρ S),⟨_,dq _,rfl,W2,S1,ρ,Wd.le.refl _,r2,env,?_⟩,?_⟩
 .rw[Ad]
  exact p1
 .rintro i m σ H ⟨hi,rfl,W3,S3,ρ3,l3,r3,e3,p3⟩
  by_cases si:i<ts.length
  .rw [i7 si] at p3
   unfold dz at p3
   split at p3
   .rename_i dI
    obtain⟨go,yl⟩:=ok.go i W3 S3 H l3 r3 dI si;refine .inr ⟨go,_,fun σ' H' n=>⟨ts.length-(i+1),by omega,si,rfl,n⟩,λx H' y=>?_⟩;obtain⟨W4,t,l4,r4,et,dt⟩:=yl x H' y;rw[aW si] at et;cases et;cases e:g ts[i] ρ3 with
    |none=>simp only[e] at p3;exact p3.elim
    | some ρ4=>
      simp only[e] at p3;refine hG W4 S3 H' _ x ρ3 ρ4 σ _ r4 dt (e3.mono l4) e fun σ2 e4=>⟨W4,S3,ρ4,r4,e4,(bu.bind (EZ p3 l4)).imp λfl W5 S5 H5 l5 r5 p5=>?_⟩;cases fl with
      |nx ρ5=>exact fun σ5 e5=>⟨W5,S5,ρ5,l3.trans (l4.trans l5),r5,e5,p5⟩
      |ct ρ5=>exact fun σ5 e5=>⟨W5,S5,ρ5,l3.trans (l4.trans l5),r5,e5,p5⟩
      |bk ρ5=>exact p5 W5 H5 (Wd.le.refl _) r5
      |rt t=>exact p5 W5 H5 (Wd.le.refl _) r5
   .exact p3.elim
  .have e:i=ts.length:=by omega
   subst e;rw[xa] at p3;unfold dz at p3
   split at p3
   .rename_i dI
    exact .inl ⟨ok.stop _ W3 S3 H l3 r3 dI rfl,p3 W3 H (Wd.le.refl _) r3 σ e3⟩
   .exact p3.elim
theorem nG(hp:jd (aK X.prog X.w) X.A X.env X.xe)(hc:X.calm=true)(hi:PI X tg iter wi)(hI:RI E it wi)(hg:PG X tg gl)(hG:GT gl g)(hb:j9 X body (RS E fb))
  (hs:∀x,cg iter X.env x=pure x:=by intro _;rfl):PS X (.For tg iter body [] pos) (RS E (dA it g fb)):=
 rz (Kl hp hc hi hg hb hs) λD σ H h=>by
  obtain⟨W,S,ρ,rp,env,p⟩:=h;exact hI σ H _ ⟨W,S,ρ,rp,env,(bu.bind p).imp λq W1 S1 H1 l1 r1 p1 J W2 H2 l2 r2 ok=>Se hG r2 (env.mono (l1.trans l2)) ok (EZ p1 l2)⟩
end
def j4(c:DT)(body:DS):Nat->Ev->M Fl
 |0,_=>M.bad
 | n + 1,ρ=>(c ρ).bind λb=>if b=true then(body ρ).bind (λx=>match x with
     |.nx ρ2=>j4 c body n ρ2
     |.ct ρ2=>j4 c body n ρ2
     |.bk ρ2=>M.pure (.nx ρ2)
     |.rt t=>M.pure (.rt t)) else M.pure (.nx ρ)
def uU(c:DT)(body:DS):DS:=j4 c body 1000
section
variable {X:Cx}{E:XK}{c:bo}{body:List cm}{tc:DT}{fb:DS}{pos:Pos}
theorem HW(hp:jd (aK X.prog X.w) X.A X.env X.xe)(hc:PT X c (RT E tc))(hb:j9 X body (RS E fb)):PS X (.While c body [] pos) (RS E (uU tc fb)):=
 rz (Xj hp hc hb) λD σ H h=>by
  obtain⟨W,S,ρ,rp,env,p⟩:=h;refine⟨λm σ H=>∃W S ρ,cK W S H/\fK W ρ σ/\bu E W (QF D) (j4 tc fb m ρ S),⟨1000,W,S,ρ,rp,env,p⟩,?_⟩;rintro m σ H ⟨W1,S1,ρ1,r1,e1,p1⟩;cases m with
  |zero=>exact p1.elim
  | succ n=>
    refine⟨W1,S1,ρ1,r1,e1,(bu.bind p1).imp λb W2 S2 H2 l2 r2 p2=>?_⟩;cases b with
    |false=>exact rV (p2 W2 H2 (Wd.le.refl _) r2 σ (e1.mono l2))
    | true=>
      refine rW ⟨fun σ H=>∃W S ρ,cK W S H/\fK W ρ σ/\bu E W (QF D) (j4 tc fb n ρ S),fun σ' H' q=>⟨n,dj _,q⟩,W2,S2,ρ1,r2,e1.mono l2,?_⟩;refine(bu.bind (show bu E W2 (QF D) (M.bind (fb ρ1) _ S2) from p2)).imp λfl W5 S5 H5 l5 r5 p5=>?_;cases fl with
      |nx ρ5=>exact fun σ5 e5=>⟨W5,S5,ρ5,r5,e5,p5⟩
      |ct ρ5=>exact fun σ5 e5=>⟨W5,S5,ρ5,r5,e5,p5⟩
      |bk ρ5=>exact p5 W5 H5 (Wd.le.refl _) r5
      |rt t=>exact p5 W5 H5 (Wd.le.refl _) r5
end
def rC{α:Type}(m:M α):M α:=λS=>match m S with
 |.exc _ _ _=>.bad
 |r=>r
theorem z2e{α:Type}{E E':XK}{W:Wd}{Q:α->Wd->bx->Hp->Prop}{m:M α}{S:bx}(h:bu E W Q (rC m S)):bu E' W Q (m S):=by
 unfold rC at h;cases e:m S with
 |ok a S1=>rw[e] at h;exact h
 |exc C fs S1=>rw[e] at h;exact h.elim
 |bad=>rw[e] at h;exact h.elim
def ke:DT:=λ_=>M.pure true
open Classical in
def nH(st:bx->Prop)(g:DG)(tc:DT)(te:DE):List T->Ev->List T->M (List T)
 |[],_,acc=>λS=>if st S then .ok acc S else .bad
 | t::ts,ρ,acc=>λS=>if st S then(match g t ρ with
   |some ρ1=>((tc ρ1).bind λok=>if ok=true then(te ρ1).bind λy=>if acc.length<1000 then nH st g tc te ts ρ1 (acc++[y]) else M.bad else nH st g tc te ts ρ1 acc) S
   |none=>.bad) else .bad
def i4(nt:Nat)(js:List Nat)(it:DI)(g:DG)(tc:DT)(te:DE)(fO:List T->M T):DE:=fun ρ=>
 (it ρ).bind λq=>(rC (nH q.2 g tc te q.1 (aT nt ae++js.map λj=>(ρ[j]?).join) [])).bind fO
def eU(ts:List T):M T:=M.pure (.lst ts)
def vO(ts:List T):M T:=λS=>.ok (.obj S.length) (S++[.lst ts])
theorem z8y(W:Wd)(p:aj):(W.ic p).le W:=⟨λ_ _ e=>e,λ_ _ e=>e,λa o e=>by
 have e:(if a=p then ae else W.P a)=aa o:=e;by_cases z:a=p
 .rw[if_pos z] at e;cases e
 .rw[if_neg z] at e;exact e,az _,λ_ _=>rfl⟩
theorem Sf{W W':Wd}(l:W.le W')(p:aj):(W.ic p).le (W'.ic p):=⟨l.hs,l.z,λa o e=>by
 have e:(if a=p then ae else W.P a)=aa o:=e;show(if a=p then ae else W'.P a)=aa o;by_cases z:a=p
 .rw[if_pos z] at e;cases e
 .rw[if_neg z] at e ⊢;exact l.p a o e,l.n,l.μ⟩
theorem Sg{W:Wd}{p:aj}{o:HO}:(W.ic p).le ((W.mP p o).ic p):=⟨λ_ _ e=>e,λ_ _ e=>e,λa u e=>by
 have e:(if a=p then ae else W.P a)=aa u:=e;show(if a=p then ae else upd W.P p o a)=aa u;by_cases z:a=p
 .rw[if_pos z] at e;cases e
 .rw[if_neg z] at e ⊢;rw[c4 z];exact e,az _,λ_ _=>rfl⟩
theorem z8z{W:Wd}{p:aj}(h:W.P p=ae):W.le (W.ic p):=⟨λ_ _ e=>e,λ_ _ e=>e,λa u e=>by
 show(if a=p then ae else W.P a)=aa u;rw[if_neg (λz=>by rw[z,h] at e;cases e)];exact e,az _,λ_ _=>rfl⟩
theorem fK.hs{W W':Wd}(hs:W'.HS=W.HS)(hμ:W'.μ=W.μ)(hn:W'.n=W.n):∀{ρ:Ev} {σ:St},fK W ρ σ->fK W' ρ σ
 |[],_,h=>h
 |none::ρ,σ,⟨s,r,e,h1,h2⟩=>⟨s,r,e,trivial,fK.hs hs hμ hn h2⟩
 |some t::ρ,σ,⟨ae,r,e,h1,h2⟩=>h1.elim
 |some t::ρ,σ,⟨aa v,r,e,h1,h2⟩=>⟨aa v,r,e,cy.hs hs hμ hn t v h1,fK.hs hs hμ hn h2⟩
def xQ(E:XK)(fO:List T->M T):Prop:=∀(acc:List V) (ts:List T) (W1 W3:Wd) (S:bx) (H:Hp) (p:aj) (Q:VK),W1.le (W3.ic p)->W3.P p=aa (.lst acc)->cK W3 S H->aZ W3 ts acc->bu E W1 (QV Q) (fO ts S)->Q (.ref p) H
theorem qq{E:XK}:xQ E eU:=λacc ts W1 W3 S H p Q l hp r d h=>by
 have l2:(W3.ic p).le ((W3.ic p).dY p (.lst acc)):=Wd.kO (r.prv p _ hp).2.1;have d1:aZ (W3.ic p) ts acc:=aZ.hs (W:=W3) (W':=W3.ic p) rfl rfl rfl ts acc d;exact h _ _ (l.trans l2) (r.xD hp trivial (by intro _ z;cases z)) _ (rZ.mpr ⟨p,acc,rfl,fE,aZ.mono l2 _ _ d1⟩)
theorem Zbt{E:XK}:xQ E vO:=λacc ts W1 W3 S H p Q l hp r d h=>by
 have l2:(W3.ic p).le ((W3.ic p).add p):=Wd.iy;have d1:aZ (W3.ic p) ts acc:=aZ.hs (W:=W3) (W':=W3.ic p) rfl rfl rfl ts acc d;refine h _ _ (l.trans l2) (r.vL hp (by intro _ z;cases z) (.lst ts) ⟨acc,(r.prv p _ hp).1,aZ.mono l2 _ _ d1⟩) _ (mO.mpr ⟨?_,?_⟩)
 .rw[r.len];exact congrArg V.ref (Wd.gF (W:=W3.ic p)).symm
 .rw[r.len];exact dj _
section
variable {X:Cx}{E:XK}{jz iter c tg:bo}{it:DI}{wi:TI}{gl:TG}{g:DG}{tc:DT}{A_:TT}{te:DE}{fO:List T->M T}{nt:Nat}{js:List Nat}
theorem bu.sj{α β:Type}{E:XK}{W W2:Wd}{Q:β->Wd->bx->Hp->Prop}{m:M α}{f:α->M β}{S:bx}(h:bu E W2 Q (M.bind m f S))(l:W2.le W):bu E W (λa _ S1 _=>bu E W2 Q (f a S1)) (m S):=by
 unfold M.bind at h;cases e:m S with
 |ok a S1=>rw[e] at h;exact λ_ _ _ _=>h
 |exc C fs S1=>rw[e] at h;exact λW' H' dx l'=>h W' H' dx (l.trans l')
 |bad=>rw[e] at h;exact h
theorem Sh (hG:GT gl g) (Ba:∀σ H Q,RT E0 tc σ H Q->A_ σ H Q) {PF:List T->bx->Prop} {σ:St} {H2:Hp} {Q:VK} {W2:Wd} {S1:bx} {ρ:Ev} {ts:List T} {st:bx->Prop} {J:It} (r2:cK W2 S1 H2) (env:fK W2 ρ σ) (ok:sg W2 ts st J)
  (AR:∀(acc:List V) (us:List T) (W3:Wd) (S3:bx) (H3:Hp) (p:aj),W3.P p=aa (.lst acc)->cK W3 S3 H3->aZ W3 us acc->W2.le (W3.ic p)->PF us S3->Q (.ref p) H3)
  (p1:bu E0 W2 (λres _ S' _=>PF res S') (nH st g tc te ts (aT nt ae++js.map λj=>(ρ[j]?).join) [] S1)):AQ nt js (λ_ _ R=>R J H2) gl A_ (RE E0 te) σ H2 Q:=by
 intro a ha;have pn:W2.P a=ae:=r2.xA ha;refine⟨λi m σ2 H acc=>i<=ts.length/\m=ts.length-i/\∃W3 S ρ uf,W2.le (W3.ic a)/\W3.P a=aa (.lst acc)/\cK W3 S H/\fK W3 ρ σ2/\aZ W3 uf acc /\
  bu E0 W2 (λres _ S' _=>PF res S') (nH st g tc te (ts.drop i) ρ uf S),⟨_,dq _,rfl,W2.mP a (.lst []),S1,aT nt ae++js.map λj=>(ρ[j]?).join,[],?_,fE,r2.xB ha _,?_,aZ.fR,?_⟩,?_⟩
 .exact(z8z pn).trans Sg
 .refine fK.append (fK.zt nt (ft ..)) ?_
  exact(fK.Ez env js).mono (Wd.tf pn)
 .rw[Ad];exact p1
 .rintro i m σ2 H acc ⟨hi,rfl,W3,S3,ρ3,uf,l3,hp,r3,e3,qR,p3⟩
  have HX:W2.le W3:=l3.trans (z8y W3 a);refine⟨(r3.prv a _ hp).1,?_⟩;by_cases si:i<ts.length
  .rw [i7 si] at p3
   unfold nH at p3
   split at p3
   .rename_i dI
    obtain⟨go,yl⟩:=ok.go i W3 S3 H HX r3 dI si;refine .inr ⟨go,_,fun σ' H' lE n=>⟨ts.length-(i+1),by omega,si,rfl,n⟩,λx H' y=>?_⟩;obtain⟨W4,t,l4,r4,et,dt⟩:=yl x H' y;rw[aW si] at et;cases et;cases e:g ts[i] ρ3 with
    |none=>simp only[e] at p3;exact p3.elim
    | some ρ4=>
      simp only[e] at p3;refine hG W4 S3 H' _ x ρ3 ρ4 σ2 _ r4 dt (e3.mono l4) e fun σ4 e4=>?_;refine Ba _ _ _ ⟨W4,S3,ρ4,r4,e4,(bu.sj p3 (HX.trans l4)).imp λb W5 S5 H5 l5 r5 p5=>?_⟩;have E1:W3.le W5:=l4.trans l5;cases b with
      |false=>exact rV ⟨W5,S5,ρ4,uf,l3.trans (Sf E1 a),E1.p a _ hp,r5,e4.mono l5,aZ.mono E1 _ _ qR,p5⟩
      | true=>
        refine rW ⟨W5,S5,ρ4,r5,e4.mono l5,(bu.sj (show bu E0 W2 _ (M.bind (te ρ4) _ S5) from p5) (HX.trans E1)).imp λty W6 S6 H6 l6 r6 p6 y dy=>?_⟩;have Md:W3.le W6:=E1.trans l6;have Si:=Md.p a _ hp
        split at p6
        .rename_i hl
         have hla:acc.length<1000:=by rw[<- qR.length];exact hl
         refine⟨(r6.prv a _ Si).1,ax hla (px (az _)),W6.mP a (.lst (acc++[y])),S6,ρ4,uf++[ty],(l3.trans (Sf Md a)).trans Sg,fE,r6.xC Si (by intro _ z;cases z) (by intro _ _ z;cases z) _,?_,?_,p6⟩
         .exact fK.hs (W:=W6) (W':=W6.mP a (.lst (acc++[y]))) rfl rfl rfl ((e4.mono l5).mono l6)
         .exact aZ.hs (W:=W6) (W':=W6.mP a (.lst (acc++[y]))) rfl rfl rfl _ _ ((aZ.mono Md _ _ qR).append (aZ.eJ dy aZ.fR))
        .exact p6.elim
   .exact p3.elim
  .have e:i=ts.length:=by omega
   subst e;rw[xa] at p3;unfold nH at p3
   split at p3
   .rename_i dI
    exact .inl ⟨ok.stop _ W3 S3 H HX r3 dI rfl,AR acc uf W3 S3 H a hp r3 qR l3 (p3 (W3.ic a) H l3 (r3.ic a (by rw[hp];intro _ z;cases z)))⟩
   .exact p3.elim
theorem HY(hI:RI E it wi)(hG:GT gl g)(Ba:∀σ H Q,RT E0 tc σ H Q->A_ σ H Q)(hf:xQ E fO){σ:St}{H:Hp}{Q:VK}(h:RE E (i4 nt js it g tc te fO) σ H Q):AQ nt js wi gl A_ (RE E0 te) σ H Q:=by
 obtain⟨W,S,ρ,rp,env,p⟩:=h;refine hI σ H _ ⟨W,S,ρ,rp,env,(bu.bind p).imp λq W1 S1 H1 l1 r1 p1 J W2 H2 l2 r2 ok=>?_⟩;exact Sh (PF:=λus S3=>bu E W2 (QV Q) (fO us S3)) hG Ba r2 (env.mono (l1.trans l2)) ok (λacc us W3 S3 H3 a hp r3 qR l3 p4=>hf acc us W2 W3 S3 H3 a Q l3 hp r3 qR p4) (z2e (E':=E0) (bu.sj (EZ p1 l2) (Wd.le.refl _)))
variable {scope:ig}{cl:List (Str×aj)}{nts xs:List Str}{pos:Pos}
theorem HZ(hc:X.calm=true)(C:uM X scope cl nts xs js)(hi:PI X tg iter wi)(hI:RI E it wi)(hg:∀fp s3 H2,PG (iN X scope cl (nts++xs) fp s3 H2) tg gl)(hG:GT gl g)(he:∀fp s3 H2,PE (iN X scope cl (nts++xs) fp s3 H2) jz (RE E0 te))(hf:xQ E fO)
  (hs:∀x,cg iter X.env x=pure x:=by intro _;rfl):PE X (.ListComp jz [⟨tg,iter,[],0⟩] scope pos) (RE E (i4 nts.length js it g ke te fO)):=
 iJ (Zu hc C hi hg he hs) fun σ H Q h=>HY hI hG (fun σ H Q h=>RV h) hf h
theorem Bb(hc:X.calm=true)(C:uM X scope cl nts xs js)(hi:PI X tg iter wi)(hI:RI E it wi)(hg:∀fp s3 H2,PG (iN X scope cl (nts++xs) fp s3 H2) tg gl)(hG:GT gl g)(ht:∀fp s3 H2,PT (iN X scope cl (nts++xs) fp s3 H2) c (RT E0 tc))(he:∀fp s3 H2,PE (iN X scope cl (nts++xs) fp s3 H2) jz (RE E0 te))(hf:xQ E fO)
  (hs:∀x,cg iter X.env x=pure x:=by intro _;rfl):PE X (.ListComp jz [⟨tg,iter,[c],0⟩] scope pos) (RE E (i4 nts.length js it g tc te fO)):=
 iJ (Rg hc C hi hg ht he hs) fun σ H Q h=>HY hI hG (fun σ H Q h=>h) hf h
theorem Sj{i:Nat}{y:Str}{py nC:Pos}(hc:X.calm=true)(C:uM X scope cl nts xs js)(hi:PI X tg iter wi)(hI:RI E it wi)(hg:∀fp s3 H2,PG (iN X scope cl (nts++xs) fp s3 H2) tg gl)(hG:GT gl g)(he:∀fp s3 H2,PE (iN X scope cl (nts++xs) fp s3 H2) jz (RE E0 te))(hf:xQ E fO)
  (hN:X.N.Nodup) (hy:X.N[i]?=aa y) (hx:Loc X.env.scope y) (hkn:∀u:V,X.kn[i]?≠aa (aa u)) (Me:X.fn y=true\/X.env.scope.names.lookup y=aa .local:=by first | exact .inl rfl | exact .inr rfl | assumption)
  (AY:eX (.ListComp jz [⟨tg,iter,[],0⟩] scope pos) (aa (.Name y py)) nC.line X.env=pure true:=by rfl)
  (hs:∀x,cg iter X.env x=pure x:=by intro _;rfl):PS X (.Assign [.Name y py] (.ListComp jz [⟨tg,iter,[],0⟩] scope pos) nC) (RS E (bV i (i4 nts.length js it g ke te fO))):=
 rz (Zv hc C hi hg he hN hy hx hkn Me AY hs) λD σ H h=>HY hI hG (fun σ H Q h=>RV h) hf (L_ h)
theorem E2{i:Nat}{y:Str}{py nC:Pos}(hc:X.calm=true)(C:uM X scope cl nts xs js)(hi:PI X tg iter wi)(hI:RI E it wi)(hg:∀fp s3 H2,PG (iN X scope cl (nts++xs) fp s3 H2) tg gl)(hG:GT gl g)(ht:∀fp s3 H2,PT (iN X scope cl (nts++xs) fp s3 H2) c (RT E0 tc))(he:∀fp s3 H2,PE (iN X scope cl (nts++xs) fp s3 H2) jz (RE E0 te))(hf:xQ E fO)
  (hN:X.N.Nodup) (hy:X.N[i]?=aa y) (hx:Loc X.env.scope y) (hkn:∀u:V,X.kn[i]?≠aa (aa u)) (Me:X.fn y=true\/X.env.scope.names.lookup y=aa .local:=by first | exact .inl rfl | exact .inr rfl | assumption)
  (AY:eX (.ListComp jz [⟨tg,iter,[c],0⟩] scope pos) (aa (.Name y py)) nC.line X.env=pure true:=by rfl)
  (hs:∀x,cg iter X.env x=pure x:=by intro _;rfl):PS X (.Assign [.Name y py] (.ListComp jz [⟨tg,iter,[c],0⟩] scope pos) nC) (RS E (bV i (i4 nts.length js it g tc te fO))):=
 rz (ZE hc C hi hg ht he hN hy hx hkn Me AY hs) λD σ H h=>HY hI hG (fun σ H Q h=>h) hf (L_ h)
end
end MF
namespace MF
open PySem PySem.Spec PyProof.Rows L2
abbrev Fn:=List T->M T
def gK(n:Nat)(F:Fn):Sp:=λvs H Q E=>∃W S ts,cK W S H/\aZ W ts vs/\ts.length=n/\bu E W (QV Q) (F ts S)
def c9(n:Nat)(d:DS):Fn:=λts=>(d (ts.map aa++aT (n-ts.length) ae)).bind λx=>match x with
 |.rt t=>M.pure t
 |.nx _=>M.pure .bY
 |_=>M.bad
section
variable {P:aX}{w:bB}{K:aP}{mg:Str->Option af}{base:bO}
theorem Zbu{x qual:Str}{st:cm}{dV:af}{f:aj}{fd:bI}{N ps:List Str}{k:Nat}{d:DS}(F:dr K x qual st dV f fd)(S:iw N ps (e_ st))
  (lD:∀(gE:af) (A:cf) (outer:List Env) (s:ar) (H:Hp) (E:XK),d7 k (A.deeper (iC qual (e_ st) s.heap.objs.size f gE)) ->
   j9 (fP (ee P w) P w K mg base N qual (e_ st) f gE A outer s H E) (nV st) (RS E d)):bW P w K mg base (ee P w) (k+1) f fd ps (gK ps.length (c9 N.length d)):=by
 refine F.Lm S (λvs H Q E h=>?_) λgE A outer s H vs Q E hr h=>⟨RS E d,lD gE A outer s H E hr,?_⟩
 .obtain⟨W,S,ts,_,d,e,_⟩:=h
  rw[<- d.length];exact e
 .obtain⟨W,S0,ts,rp,dn,e,p⟩:=h
  refine⟨W,S0,ts.map aa++aT (N.length-ts.length) ae,rp,?_,(bu.bind p).imp λx W1 S1 H1 l1 r1 p1=>?_⟩
  .unfold L2.start
   rw[<- dn.length];exact fK.append (fK.vK dn) (fK.zt _ (ft ..))
  .cases x with
   |rt t=>exact p1 W1 H1 (Wd.le.refl _) r1
   |nx ρ=>exact fun σ' _=>p1 W1 H1 (Wd.le.refl _) r1 .bY (oW.mpr rfl)
   |bk ρ=>exact p1.elim
   |ct ρ=>exact p1.elim
end
mutual
def HB(n:Nat):T->Prop
 |.lst ts=>ug n ts
 |.tup ts=>ug n ts
 |.dic kvs=>xR n kvs
 |.obj k=>k<n
 |.bY=>True
 |.bl _=>True
 |.int _=>True
 |.str _=>True
def ug(n:Nat):List T->Prop
 |[]=>True
 |t::ts=>HB n t/\ug n ts
def xR(n:Nat):List (b9×T)->Prop
 |[]=>True
 |(_,t)::ts=>HB n t/\xR n ts
end
def E3(n:Nat):List (Str×T)->Prop
 |[]=>True
 |(_,t)::ts=>HB n t/\E3 n ts
mutual
theorem Mf{W:Wd}:∀(t:T) (v:V),cy W t v->HB W.n t
 |.bY,_,_=>by simp only[HB]
 |.bl _,_,_=>by simp only[HB]
 |.int _,_,_=>by simp only[HB]
 |.str _,_,_=>by simp only[HB]
 |.lst ts,v,h=>by obtain⟨a,vs,_,_,h2⟩:=rZ.mp h;simp only[HB];exact pH ts vs h2
 |.tup ts,v,h=>by obtain⟨a,vs,_,_,h2⟩:=s_.mp h;simp only[HB];exact pH ts vs h2
 |.dic ts,v,h=>by obtain⟨a,vs,_,_,h2⟩:=xy.mp h;simp only[HB];exact pI ts vs h2
 |.obj k,v,h=>by simp only[HB];exact(mO.mp h).2
theorem pH{W:Wd}:∀(ts:List T) (vs:List V),aZ W ts vs->ug W.n ts
 |[],_,_=>by simp only[ug]
 |t::ts,vs,h=>by obtain⟨v,r,_,h1,h2⟩:=m3.mp h;simp only[ug];exact⟨Mf t v h1,pH ts r h2⟩
theorem pI{W:Wd}:∀(ts:List (b9×T)) (vs:List (b9×V)),bP W ts vs->xR W.n ts
 |[],_,_=>by simp only[xR]
 |(k,t)::ts,vs,h=>by obtain⟨v,r,_,h1,h2⟩:=r_.mp h;simp only[xR];exact⟨Mf t v h1,pI ts r h2⟩
end
theorem Mg{W:Wd}:∀{ts:List (Str×T)} {vs:List (Str×V)},eS W ts vs->E3 W.n ts
 |[],_,_=>trivial
 |(k,t)::ts,vs,⟨v,r,_,h1,h2⟩=>⟨Mf t v h1,Mg h2⟩
structure CL(W W':Wd)(n:Nat):Prop where
 hs:∀a o,W.HS a=aa o->W'.HS a=aa o
 μ:∀k,k<n->W'.μ k=W.μ k
 n:W'.n=n
 p:∀a o,W.P a=aa o->W'.P a=aa o
mutual
theorem cy.cut{W W':Wd}{n:Nat}(c:CL W W' n):∀(t:T) (v:V),HB n t->cy W t v->cy W' t v
 |.bY,_,_,h=>oW.mpr (oW.mp h)
 |.bl _,_,_,h=>i_.mpr (i_.mp h)
 |.int _,_,_,h=>jA.mpr (jA.mp h)
 |.str _,_,_,h=>lP.mpr (lP.mp h)
 |.lst ts,v,b,h=>by obtain⟨a,vs,e,h1,h2⟩:=rZ.mp h;simp only[HB] at b;exact rZ.mpr ⟨a,vs,e,c.hs _ _ h1,aZ.cut c ts vs b h2⟩
 |.tup ts,v,b,h=>by obtain⟨a,vs,e,h1,h2⟩:=s_.mp h;simp only[HB] at b;exact s_.mpr ⟨a,vs,e,c.hs _ _ h1,aZ.cut c ts vs b h2⟩
 |.dic ts,v,b,h=>by obtain⟨a,vs,e,h1,h2⟩:=xy.mp h;simp only[HB] at b;exact xy.mpr ⟨a,vs,e,c.hs _ _ h1,bP.cut c ts vs b h2⟩
 |.obj k,v,b,h=>by obtain⟨e,h1⟩:=mO.mp h;simp only[HB] at b;exact mO.mpr ⟨by rw[c.μ k b];exact e,by rw[c.n];exact b⟩
theorem aZ.cut{W W':Wd}{n:Nat}(c:CL W W' n):∀(ts:List T) (vs:List V),ug n ts->aZ W ts vs->aZ W' ts vs
 |[],vs,_,h=>nE.mpr (nE.mp h)
 |t::ts,vs,b,h=>by obtain⟨v,r,e,h1,h2⟩:=m3.mp h;simp only[ug] at b;exact m3.mpr ⟨v,r,e,cy.cut c t v b.1 h1,aZ.cut c ts r b.2 h2⟩
theorem bP.cut{W W':Wd}{n:Nat}(c:CL W W' n):∀(ts:List (b9×T)) (vs:List (b9×V)),xR n ts->bP W ts vs->bP W' ts vs
 |[],vs,_,h=>rq.mpr (rq.mp h)
 |(k,t)::ts,vs,b,h=>by obtain⟨v,r,e,h1,h2⟩:=r_.mp h;simp only[xR] at b;exact r_.mpr ⟨v,r,e,cy.cut c t v b.1 h1,bP.cut c ts r b.2 h2⟩
end
theorem eS.cut{W W':Wd}{n:Nat}(c:CL W W' n):∀{ts:List (Str×T)} {vs:List (Str×V)},E3 n ts->eS W ts vs->eS W' ts vs
 |[],_,_,h=>h
 |(k,t)::ts,vs,b,⟨v,r,e,h1,h2⟩=>⟨v,r,e,cy.cut c t v b.1 h1,eS.cut c b.2 h2⟩
def Mh(n:Nat):bA->Prop
 |.lst ts=>ug n ts
 |.dic ts=>xR n ts
 |.ins _ fs=>E3 n fs
 |.lck ts=>xR n ts
 |.exc _ ae=>True
 |.exc _ (aa fs)=>E3 n fs
theorem z80{W:Wd}{H:Hp}{a:aj}:∀{c:bA},kA W H a c->Mh W.n c
 |.lst _,⟨_,_,h⟩=>pH _ _ h
 |.dic _,⟨_,_,h⟩=>pI _ _ h
 |.ins _ _,⟨_,_,_,h⟩=>Mg h
 |.lck _,⟨_,_,_,h⟩=>pI _ _ h
 |.exc _ ae,_=>trivial
 |.exc _ (aa _),⟨aa _,_,_,_,h⟩=>Mg h
 |.exc _ (aa _),⟨ae,_,h⟩=>h.elim
theorem kA.cut{W W':Wd}{H:Hp}{a:aj}{n:Nat}(c:CL W W' n):∀{q:bA},Mh n q->kA W H a q->kA W' H a q
 |.lst _,b,⟨_,h1,h⟩=>⟨_,h1,aZ.cut c _ _ b h⟩
 |.dic _,b,⟨_,h1,h⟩=>⟨_,h1,bP.cut c _ _ b h⟩
 |.ins _ _,b,⟨_,_,h1,h⟩=>⟨_,_,h1,eS.cut c b h⟩
 |.lck _,b,⟨_,_,h1,h⟩=>⟨_,_,h1,bP.cut c _ _ b h⟩
 |.exc _ ae,b,⟨ae,h1,_⟩=>⟨ae,h1,trivial⟩
 |.exc _ (dQ _),b,⟨dQ _,h1,ks,h2,h⟩=>⟨_,h1,ks,c.p _ _ h2,eS.cut c b h⟩
 |.exc _ ae,_,⟨dQ _,_,h⟩=>h.elim
 |.exc _ (dQ _),_,⟨ae,_,h⟩=>h.elim
def hW{α β:Type}(f:α->Option β):List α->Option (List β)
 |[]=>aa []
 | a::r=>match f a,hW f r with
   |some b,aa bs=>aa (b::bs)
   |_,_=>ae
open Classical in
def fz(S:bx)(n:Nat):Nat->T->Option T
 |0,t=>if HB n t then aa t else ae
 | f + 1,t=>if HB n t then aa t else match t with
   | .obj k=>(match S[k]? with
     |some (.lst ts)=>(hW (fz S n f) ts).map .lst
     |some (.dic kvs)=>(hW (λp=>(fz S n f p.2).map λt=>(p.1,t)) kvs).map .dic
     |_=>ae)
   |.lst ts=>(hW (fz S n f) ts).map .lst
   |.tup ts=>(hW (fz S n f) ts).map .tup
   |_=>ae
open Classical in
def iU(F:Fn):Fn:=λts S=>match F ts S with
 | .ok t S'=>if S'.take S.length=S then(match fz S' S.length 6 t with
   |some t'=>.ok t' S
   |none=>.bad) else .bad
 |.exc C ae S'=>if S'.take S.length=S then .exc C ae S else .bad
 | .exc C (aa fs) S'=>if S'.take S.length=S then(match hW (λp=>(fz S' S.length 6 p.2).map λt=>(p.1,t)) fs with
   |some wC=>.exc C (aa wC) S
   |none=>.bad) else .bad
 |.bad=>.bad
section
variable {W:Wd}{S:bx}{H:Hp}
def E4:HO->HO
 |.dY _ u=>u
 |o=>o
open Classical in
def Wd.cut(W:Wd)(H:Hp)(n:Nat):Wd:=⟨λa=>if W.HS a≠ae then W.HS a else if(∃k,n<=k/\k<W.n/\W.μ k=a) then(H a).map E4 else ae,W.μ,n,W.Z,W.P⟩
open Classical in
theorem H_{n:Nat}{a:aj}{o:HO}(h:W.HS a=aa o):(W.cut H n).HS a=aa o:=by
 show(if W.HS a≠ae then W.HS a else _)=aa o;rw[if_pos (by rw[h];intro z;cases z)];exact h
open Classical in
theorem Sk{n k:Nat}(r:cK W S H)(hk:n<=k)(hn:k<W.n):(W.cut H n).HS (W.μ k)=(H (W.μ k)).map E4:=by
 obtain⟨c,hc⟩:=r.cellAt hn;show(if W.HS (W.μ k)≠ae then _ else if(∃j,n<=j/\j<W.n/\W.μ j=W.μ k) then(H (W.μ k)).map E4 else ae)=_;rw[if_neg (by rw[(r.cell k c hc).2];exact λz=>z rfl),if_pos ⟨k,hk,hn,rfl⟩]
theorem Mi{n:Nat}:CL W (W.cut H n) n:=⟨λ_ _ h=>H_ h,λ_ _=>rfl,rfl,λ_ _ h=>h⟩
theorem Mj{W0:Wd}{n:Nat}(l:W0.le W)(hn:W0.n=n):W0.le (W.cut H n):=⟨λa o h=>H_ (l.hs a o h),l.z,l.p,gJ hn,l.μ⟩
open Classical in
theorem cK.cut(r:cK W S H){n:Nat}(hn:n<=W.n)(hb:∀k c,k<n->S[k]?=aa c->Mh n c):cK (W.cut H n) (S.take n) H where
 sub:=λa o e=>by
  have e:(if W.HS a≠ae then W.HS a else if(∃k,n<=k/\k<W.n/\W.μ k=a) then(H a).map E4 else ae)=aa o:=e
  split at e
  .exact r.sub a o e
  .split at e
   .rename_i hk
    obtain⟨k,h1,h2,rfl⟩:=hk;obtain⟨c,hc⟩:=r.cellAt h2;have z:=(r.cell k c hc).1;cases c with
    |lst ts=>obtain⟨_,h1,_⟩:=z;rw[h1] at e;cases e;exact⟨.inl h1,trivial⟩
    |dic ts=>obtain⟨_,h1,_⟩:=z;rw[h1] at e;cases e;exact⟨.inl h1,trivial⟩
    |ins _ ts=>obtain⟨_,_,h1,_⟩:=z;rw[h1] at e;cases e;exact⟨.inl h1,trivial⟩
    |exc _ ts=>obtain⟨_,h1,_⟩:=z;rw[h1] at e;cases e;exact⟨.inl h1,trivial⟩
    |lck ts=>obtain⟨q,_,h1,_⟩:=z;rw[h1] at e;cases e;exact⟨.inr ⟨⟨q,h1⟩,by intro _ y;cases y⟩,trivial⟩
   .cases e
 len:=by rw[jy,r.len];exact Nat.min_eq_left hn
 cell:=λk c e=>by
  have hk:k<n:=by
   have:=(ao.mp e).1;rw[jy] at this;omega
  rw[d6 hk] at e;refine⟨(r.cell k c e).1.cut Mi (hb k c hk e),?_⟩;show(if W.HS (W.μ k)≠ae then _ else if(∃j,n<=j/\j<W.n/\W.μ j=W.μ k) then _ else ae)=ae;rw[if_neg (by rw[(r.cell k c e).2];exact λz=>z rfl),if_neg];rintro⟨j,h1,h2,h3⟩;have:=r.inj j k h2 (r.lt e) h3;omega
 inj:=λj k hj hk e=>r.inj j k (ax hj hn) (ax hk hn) e
 zed:=r.zed
 prv:=λa o e=>by
  obtain⟨h1,h2,h3⟩:=r.prv a o e;refine⟨h1,?_,λk hk=>h3 k (ax hk hn)⟩;show(if W.HS a≠ae then _ else if(∃k,n<=k/\k<W.n/\W.μ k=a) then _ else ae)=ae;rw[if_neg (by rw[h2];exact λz=>z rfl),if_neg];rintro⟨j,_,h5,h6⟩;exact h3 j h5 h6
theorem Ia{n:Nat}{g:T->Option T}(hg:∀t t' v,g t=aa t'->cy W t v->cy (W.cut H n) t' v):∀{ts qr:List T} {vs:List V},hW g ts=aa qr->aZ W ts vs->aZ (W.cut H n) qr vs
 |[],qr,vs,e,h=>by cases e;exact nE.mpr (nE.mp h)
 | t :: ts,qr,vs,e,h=>by
   obtain⟨v,r,rfl,h1,h2⟩:=m3.mp h;unfold hW at e;cases e1:g t with
   |none=>simp[e1] at e
   | some t'=>
     cases e2:hW g ts with
     |none=>simp[e1,e2] at e
     | some Sl=>
       simp[e1,e2] at e;subst e;exact aZ.eJ (hg t t' v e1 h1) (Ia hg e2 h2)
theorem Sn{n:Nat}{g:T->Option T}(hg:∀t t' v,g t=aa t'->cy W t v->cy (W.cut H n) t' v):∀{ts qr:List (b9×T)} {vs:List (b9×V)},hW (λp=>(g p.2).map λt=>(p.1,t)) ts=aa qr->bP W ts vs->bP (W.cut H n) qr vs
 |[],qr,vs,e,h=>by cases e;exact rq.mpr (rq.mp h)
 | (k, t)::ts,qr,vs,e,h=>by
   obtain⟨v,r,rfl,h1,h2⟩:=r_.mp h;unfold hW at e;cases e1:g t with
   |none=>simp[e1] at e
   | some t'=>
     cases e2:hW (λp=>(g p.2).map λt=>(p.1,t)) ts with
     |none=>simp[e1,e2] at e
     | some Sl=>
       simp[e1,e2] at e;subst e;exact bP.eJ (hg t t' v e1 h1) (Sn hg e2 h2)
theorem So{n:Nat}{g:T->Option T}(hg:∀t t' v,g t=aa t'->cy W t v->cy (W.cut H n) t' v):∀{ts qr:List (Str×T)} {vs:List (Str×V)},hW (λp=>(g p.2).map λt=>(p.1,t)) ts=aa qr->eS W ts vs->eS (W.cut H n) qr vs
 |[],qr,vs,e,h=>by cases e;exact h
 | (k, t)::ts,qr,vs,e,⟨v,r,e0,h1,h2⟩=>by
   unfold hW at e;cases e1:g t with
   |none=>simp[e1] at e
   | some t'=>
     cases e2:hW (λp=>(g p.2).map λt=>(p.1,t)) ts with
     |none=>simp[e1,e2] at e
     | some Sl=>
       simp[e1,e2] at e;subst e;exact⟨v,r,e0,hg t t' v e1 h1,So hg e2 h2⟩
open Classical in
theorem z81{n:Nat}{d:aj}{ks:List (Str×V)}(r:cK W S H)(hd:H d=aa (.xd ks))(h0:W.HS d=ae):(W.cut H n).HS d=ae:=by
 show(if W.HS d≠ae then W.HS d else if(∃k,n<=k/\k<W.n/\W.μ k=d) then(H d).map E4 else ae)=ae;rw[if_neg (by rw[h0];exact λz=>z rfl),if_neg];rintro⟨k,_,hk,rfl⟩;obtain⟨c,hc⟩:=r.cellAt hk;have z:=(r.cell k c hc).1;cases c with
 |lst ts=>obtain⟨_,h1,_⟩:=z;rw[hd] at h1;cases h1
 |dic ts=>obtain⟨_,h1,_⟩:=z;rw[hd] at h1;cases h1
 |ins _ ts=>obtain⟨_,_,h1,_⟩:=z;rw[hd] at h1;cases h1
 |exc _ ts=>obtain⟨_,h1,_⟩:=z;rw[hd] at h1;cases h1
 |lck ts=>obtain⟨_,_,h1,_⟩:=z;rw[hd] at h1;cases h1
theorem CN(r:cK W S H){n:Nat}:∀(f:Nat) (t t':T) (v:V),fz S n f t=aa t'->cy W t v->cy (W.cut H n) t' v
 | 0,t,t',v,e,d=>by
   unfold fz at e
   split at e
   .rename_i h;cases e;exact cy.cut Mi _ _ h d
   .cases e
 | f + 1,t,t',v,e,d=>by
   unfold fz at e
   split at e
   .rename_i h;cases e;exact cy.cut Mi _ _ h d
   .rename_i hnb
    split at e
    .rename_i k
     obtain⟨rfl,hk⟩:=mO.mp d;have Sq:n<=k:=by
      simp only[HB] at hnb;omega
     split at e
     .rename_i ts ec
      obtain⟨qr,e1,rfl⟩:=bc.mp e;obtain⟨⟨vs,h1,h2⟩,_⟩:=r.cell k _ ec;exact rZ.mpr ⟨_,vs,rfl,(Sk r Sq hk).trans (by rw[h1];rfl),Ia (CN r f) e1 h2⟩
     .rename_i kvs ec
      obtain⟨qr,e1,rfl⟩:=bc.mp e;obtain⟨⟨vs,h1,h2⟩,_⟩:=r.cell k _ ec;exact xy.mpr ⟨_,vs,rfl,(Sk r Sq hk).trans (by rw[h1];rfl),Sn (CN r f) e1 h2⟩
     .cases e
    .rename_i ts
     obtain⟨qr,e1,rfl⟩:=bc.mp e;obtain⟨a,vs,rfl,h1,h2⟩:=rZ.mp d;exact rZ.mpr ⟨a,vs,rfl,H_ h1,Ia (CN r f) e1 h2⟩
    .rename_i ts
     obtain⟨qr,e1,rfl⟩:=bc.mp e;obtain⟨a,vs,rfl,h1,h2⟩:=s_.mp d;exact s_.mpr ⟨a,vs,rfl,H_ h1,Ia (CN r f) e1 h2⟩
    .cases e
end
theorem z5u{n:Nat}{F:Fn}{vs:List V}{H:Hp}{Q:VK}{E:XK}(h:gK n (iU F) vs H Q E):gK n F vs H Q E:=by
 obtain⟨W,S,ts,rp,d,hl,p⟩:=h;refine⟨W,S,ts,rp,d,hl,?_⟩;have old:∀{S':bx} {W':Wd} {H':Hp},S'.take S.length=S->W.le W'->cK W' S' H'->cK (W'.cut H' W.n) S H':=λ{S' W' H'} e l r=>by
  have:=r.cut (n:=W.n) l.n (λk c hk ec=>by
   have e2:S[k]?=aa c:=by rw[<- e,d6 (by rw[rp.len];exact hk)];exact ec
   exact z80 (rp.cell k c e2).1)
  rw[<- rp.len] at this;rw[e] at this;rw[<- rp.len];exact this
 unfold iU at p;cases e:F ts S with
 |bad=>rw[e] at p;exact p.elim
 | ok t S'=>
   rw[e] at p;simp only at p
   split at p
   .rename_i es
    cases ez:fz S' S.length 6 t with
    |none=>rw[ez] at p;exact p.elim
    | some t'=>
      rw[ez] at p;intro W' H' l r v dv;refine p (W'.cut H' W.n) H' (Mj l rfl) (old es l r) v ?_;rw[rp.len] at ez;exact CN r 6 t t' v ez dv
   .exact p.elim
 | exc C fs S'=>
   rw[e] at p;cases fs with
   | some fs=>
     simp only at p
     split at p
     .rename_i es
      split at p
      .rename_i wC ef
       intro W' H' dx l r x;refine p (W'.cut H' W.n) H' dx (Mj l rfl) (old es l r) ?_;cases dx with
       |none=>exact x.elim
       | some d=>
         obtain⟨ks,x1,x2,x3⟩:=x;exact⟨ks,x1,z81 r x1 x2,So (CN r 6) (by rw[<- rp.len];exact ef) x3⟩
      .exact p.elim
     .exact p.elim
   | none=>
     simp only at p
     split at p
     .rename_i es
      intro W' H' dx l r x;refine p (W'.cut H' W.n) H' dx (Mj l rfl) (old es l r) ?_;cases dx with
      |none=>exact trivial
      |some _=>exact x.elim
     .exact p.elim
theorem bW.dY{P:aX}{w:bB}{K:aP}{mg:Str->Option af}{base:bO}{CX:sW}{k:Nat}{f:aj}{fd:bI}{ps:List Str}{n:Nat}{F:Fn}(h:bW P w K mg base CX k f fd ps (gK n F)):bW P w K mg base CX k f fd ps (gK n (iU F)):=
 h.imp λvs H Q E q=>z5u q
end MF
namespace MF
open PySem PySem.Spec L2
structure FnAt(P:aX)(w:bB)(K:aP)(mg:Str->Option af)(base:bO)(k:Nat)(x:Str)(ps:List Str)(F:Fn)(f:aj)(fd:bI):Prop where
 ok:bW P w K mg base (ee P w) k f fd ps (gK ps.length F)
 m:mg x=aa (.ref f)
 kp:iD K (.ref f)=true
 b:mK K fd ps []
structure i'(P:aX)(w:bB)(K:aP)(mg:Str->Option af)(base:bO)(k:Nat)(C:aj)(m:Str)(ps:List Str)(F:Fn)(f:aj)(fd:bI):Prop where
 ok:bW P w K mg base (ee P w) k f fd ps (gK ps.length F)
 cl:nU K C
 me:vn K C m f
 b:mK K fd ps []
structure uh(P:aX)(w:bB)(K:aP)(mg:Str->Option af)(base:bO)(k:Nat)(x:Str)(C:aj)(ps:List Str)(F:Fn)(f:aj)(fd:bI):Prop where
 ok:bW P w K mg base (ee P w) k f fd ps (gK ps.length F)
 m:mg x=aa (.ref C)
 Ib:Mk K C f
 b:mK K fd ps []
def dZ(F:Fn)(ds:List T)(fr:DA):DE:=fun ρ=>(fr ρ).bind λts=>F (ts++ds)
def lX(C:aj)(m:Str)(F:Fn)(ds:List T)(fo:DE)(fr:DA):DE:=fun ρ=>(fo ρ).bind λo=>λS=>match pG S C o with
 |some (_,fs)=>if(fs.lookup m).isNone=true then((fr ρ).bind λts=>F (o::(ts++ds))) S else .bad
 |none=>.bad
def xS(C:aj)(F:Fn)(ds:List T)(fr:DA):DE:=fun ρ=>(fr ρ).bind λts=>λS=>M.bind (F (.obj S.length::(ts++ds))) (λt=>match t with
 |.bY=>M.pure (.obj S.length)
 |_=>M.bad) (S++[.ins C []])
theorem Ie{P:aX}{w:bB}{X:Cx}:oS (ee P w) X E0:=λag σ H s e s' I h=>by
 obtain⟨_,_,_,_,_,_,_,_,_,_,_,_,_,_,_,_,_,_,_,z⟩:=h;exact z.elim
section
variable {X:Cx}{E:XK}{k:Nat}{f C:aj}{fd:bI}{ps:List Str}{F:Fn}{x m:Str}{p pos cC:Pos}{e o:bo}{es:List bo}{fo:DE}{fr:DA}{ds:List T}{jr:List V}{Sr:List af}
def bz(n:Nat)(F:Fn):Fn:=λts S=>if ts.length=n then F ts S else .bad
theorem z2f(hd:∀W,aZ W ds jr){σ:St}{H:Hp}{Q:VK}(h:RE E (dZ (bz ps.length F) ds fr) σ H Q):Qm (gK ps.length F) jr E (RA E fr) σ H Q:=by
 obtain⟨W,S,ρ,rp,env,q⟩:=h;refine⟨W,S,ρ,rp,env,(bu.bind q).imp λts W1 S1 H1 l1 r1 p1 vs dv=>?_⟩;unfold bz at p1
 split at p1
 .rename_i z;exact⟨W1,S1,ts++ds,r1,dv.append (hd W1),z,p1⟩
 .exact p1.elim
theorem iA{n:Nat}(G:FnAt X.prog X.w X.K X.mg X.base k x ps F f fd)(hr:d7 k X.A)(hg:Gl X x)(hx:oS (ee X.prog X.w) X E)(ha:PA X (e::es) (RA E fr))
  (i8:(x==("__debug__" : Str))=false:=by decide) (he:av (e::es) X.env=(false,eval e X.env)::av es X.env:=by rfl) (gm:(bJ pos (av es X.env)).any (·.1)=false:=by rfl) (hn:ps.length=n:=by rfl):PE X (.Call (.Name x p) (e::es) [] pos) (RE E (dZ (bz n F) [] fr)):=by
 subst hn;exact iJ (X5 G.ok hr hg G.m G.kp G.b .nil hx ha i8 he gm) fun σ H Q h=>z2f (λW=>aZ.fR) h
theorem Ml(hd:∀W,aZ W ds jr){σ:St}{H:Hp}{Q:VK}(h:RE E (lX C m (bz ps.length F) ds fo fr) σ H Q):KA C m (gK ps.length F) jr E (RE E fo) (RA E fr) σ H Q:=by
 obtain⟨W,S,ρ,rp,env,q⟩:=h;refine⟨W,S,ρ,rp,env,(bu.bind q).imp λt W1 S1 H1 l1 r1 p1 v dv=>?_⟩;cases e:pG S1 C t with
 |none=>simp only[e] at p1;exact p1.elim
 | some q=>
   obtain⟨j,fs⟩:=q;simp only[e] at p1
   split at p1
   .rename_i hm
    obtain⟨dx,ks,rfl,h0,h1,h2⟩:=r1.inst dv e;refine⟨_,dx,ks,rfl,h1,h2.look.2 (Option.isNone_iff_eq_none.mp hm),W1,S1,ρ,r1,env.mono l1,(bu.bind p1).imp λts W2 S2 H2 l2 r2 p2 vs jr=>?_⟩;unfold bz at p2
    split at p2
    .rename_i z;exact⟨W2,S2,t::(ts++ds),r2,aZ.eJ (cy.mono l2 _ _ dv) (jr.append (hd W2)),z,p2⟩
    .exact p2.elim
   .exact p1.elim
theorem ui{n:Nat}{pl:Sem Bool}(G:i' X.prog X.w X.K X.mg X.base k C m ps F f fd)(hr:d7 k X.A)(hx:oS (ee X.prog X.w) X E)(ho:PE X o (RE E fo))(ha:PA X (e::es) (RA E fr))
  (dI:av (e::es) X.env=(false,eval e X.env)::av es X.env:=by rfl) (gm:(bJ pos (av es X.env)).any (·.1)=false:=by rfl)
  (ht:eval (.Call (.Attribute o m cC) (e::es) [] pos) X.env=(do
   let ov <- eval o X.env
   kX cC.atName
   let (f,first) <- kY [ov] (gM ov m pl)
   jm pos f first (bJ pos (av (e::es) X.env)) (eY pos (cX [] X.env))):=by rfl) (hn:ps.length=n:=by rfl):PE X (.Call (.Attribute o m cC) (e::es) [] pos) (RE E (lX C m (bz n F) [] fo fr)):=by
 subst hn;exact iJ (Qn ho G.cl G.me G.ok hr G.b .nil hx ha dI gm ht) fun σ H Q h=>Ml (λW=>aZ.fR) h
theorem z5v{n:Nat}{pl:Sem Bool}(G:i' X.prog X.w X.K X.mg X.base k C m ps F f fd)(hr:d7 k X.A)(hx:oS (ee X.prog X.w) X E)(hb:mK X.K fd ps Sr)(hv:cj jr Sr)(hd:∀W,aZ W ds jr)(ho:PE X o (RE E fo))(ha:PA X (e::es) (RA E fr))
  (dI:av (e::es) X.env=(false,eval e X.env)::av es X.env:=by rfl) (gm:(bJ pos (av es X.env)).any (·.1)=false:=by rfl)
  (ht:eval (.Call (.Attribute o m cC) (e::es) [] pos) X.env=(do
   let ov <- eval o X.env
   kX cC.atName
   let (f,first) <- kY [ov] (gM ov m pl)
   jm pos f first (bJ pos (av (e::es) X.env)) (eY pos (cX [] X.env))):=by rfl) (hn:ps.length=n:=by rfl):PE X (.Call (.Attribute o m cC) (e::es) [] pos) (RE E (lX C m (bz n F) ds fo fr)):=by
 subst hn;exact iJ (Qn ho G.cl G.me G.ok hr hb hv hx ha dI gm ht) fun σ H Q h=>Ml hd h
theorem Ss{n:Nat}{pl:Sem Bool}(G:i' X.prog X.w X.K X.mg X.base k C m ps F f fd)(hr:d7 k X.A)(hx:oS (ee X.prog X.w) X E)(ho:PE X o (RE E fo))
  (ht:eval (.Call (.Attribute o m cC) [] [] pos) X.env=(do
   let ov <- eval o X.env
   kX cC.atName
   let (f,first) <- kY [ov] (gM ov m pl)
   jm pos f first (bJ pos (av [] X.env)) (eY pos (cX [] X.env))):=by rfl) (hn:ps.length=n:=by rfl):PE X (.Call (.Attribute o m cC) [] [] pos) (RE E (lX C m (bz n F) [] fo aJ)):=by
 subst hn;exact iJ (X6 ho G.cl G.me G.ok hr G.b .nil hx ht) fun σ H Q h=>by
  have h:=Ml (λW=>aZ.fR) h;obtain⟨W,S,ρ,rp,env,p⟩:=h;refine⟨W,S,ρ,rp,env,p.imp λt W1 S1 H1 l1 r1 p1 v dv=>?_⟩;obtain⟨a,dx,fs,e1,e2,e3,W2,S2,ρ2,r2,env2,p2⟩:=p1 v dv;exact⟨a,dx,fs,e1,e2,e3,p2 W2 _ (Wd.le.refl _) r2 [] aZ.fR⟩
theorem Su(hd:∀W,aZ W ds jr){σ:St}{H:Hp}{Q:VK}(h:RE E (xS C (bz ps.length F) ds fr) σ H Q):KC C (gK ps.length F) jr E (RA E fr) σ H Q:=by
 obtain⟨W,S,ρ,rp,env,q⟩:=h;refine⟨W,S,ρ,rp,env,(bu.bind q).imp λts W1 S1 H1 l1 r1 p1 vs dv a dx ha hdx oi=>?_⟩;have keep:∀b u,H1 b=aa u->upd (upd H1 dx (.own a)) a (.ins C dx []) b=aa u:=λb u z=>by
  rw[c4 (sS z ha),c4 (sS z hdx)];exact z
 have r2:cK (W1.add a) (S1++[.ins C []]) (upd (upd H1 dx (.own a)) a (.ins C dx [])):=r1.qK ha keep (.ins C []) ⟨dx,[],fE,rfl⟩;have l2:W1.le (W1.add a):=Wd.iy;have da:cy (W1.add a) (.obj S1.length) (.ref a):=mO.mpr ⟨by rw[r1.len,Wd.gF],by rw[r1.len];exact dj _⟩;have p2:=bu.bind (EZ p1 l2);by_cases z:(T.obj S1.length::(ts++ds)).length=ps.length
 .have e:bz ps.length F (.obj S1.length::(ts++ds)) (S1++[.ins C []])=F (.obj S1.length::(ts++ds)) (S1++[.ins C []]):=if_pos z
  rw[e] at p2;refine⟨W1.add a,S1++[.ins C []],.obj S1.length::(ts++ds),r2,aZ.eJ da ((aZ.mono l2 _ _ dv).append (hd _)),z,p2.imp λt W3 S3 H3 l3 r3 p4 v dv3=>?_⟩;cases t with
  |bY=>exact⟨oW.mp dv3,now p4 r3 (cy.mono l3 _ _ da)⟩
  |_=>exact p4.elim
 .have e:bz ps.length F (.obj S1.length::(ts++ds)) (S1++[.ins C []])=.bad:=if_neg z
  rw[e] at p2;exact p2.elim
theorem Sv{n:Nat}(G:uh X.prog X.w X.K X.mg X.base k x C ps F f fd)(hr:d7 (k+1) X.A)(hg:Gl X x)(hx:oS (ee X.prog X.w) X E)(ha:PA X (e::es) (RA E fr))
  (i8:(x==("__debug__" : Str))=false:=by decide) (he:av (e::es) X.env=(false,eval e X.env)::av es X.env:=by rfl) (gm:(bJ pos (av es X.env)).any (·.1)=false:=by rfl) (hn:ps.length=n:=by rfl):PE X (.Call (.Name x p) (e::es) [] pos) (RE E (xS C (bz n F) [] fr)):=by
 subst hn;exact iJ (X7 G.Ib G.ok hr hg G.m G.b .nil hx ha i8 he gm) fun σ H Q h=>Su (λW=>aZ.fR) h
theorem z5w{n:Nat}(G:uh X.prog X.w X.K X.mg X.base k x C ps F f fd)(hr:d7 (k+1) X.A)(hg:Gl X x)(hx:oS (ee X.prog X.w) X E)
  (i8:(x==("__debug__" : Str))=false:=by decide) (hn:ps.length=n:=by rfl):PE X (.Call (.Name x p) [] [] pos) (RE E (xS C (bz n F) [] aJ)):=by
 subst hn;exact iJ (X8 G.Ib G.ok hr hg G.m G.b .nil hx i8) fun σ H Q h=>by
  have h:=Su (λW=>aZ.fR) h;obtain⟨W,S,ρ,rp,env,p⟩:=h;exact p W H (Wd.le.refl _) rp [] aZ.fR
theorem z82{i:Int}{t:Tok}(hg:Gl X x)(hm:X.mg x=aa (.int i t))(hd:(x==("__debug__" : Str))=false:=by decide):PE X (.Name x p) (RE E (eC (.int i))):=
 iJ (WQ (v:=.int i) hg hm ⟨t,rfl⟩ hd) fun σ H Q h=>vM (λW=>jA.mpr rfl) h
def Ig(t:T):M T:=λS=>match t with
 |.str y=>if(cD y).length<=1000 then .ok (.str (cD y)) S else .bad
 |_=>.bad
theorem z83(he:PE X e (RE E fo)):PE X (.FormattedValue e 114 ae pos) (RE E (e1 Ig fo)):=iJ (Lw he) fun σ H Q h=>
 qM (r:=λv H1 Q=>∃y,v=.str y/\(cD y).length<=sizeLine/\Q (.str (cD y)) H1) (λt W S H v Q r d p=>by
  unfold Ig at p
  split at p
  .split at p
   .rename_i hl;exact⟨_,lP.mp d,px hl,now p r (lP.mpr rfl)⟩
   .exact p.elim
  .exact p.elim) h
def jT:Str->List DE->DE
 |acc,[]=>λ_ S=>if acc.length<=1000 then .ok (.str acc) S else .bad
 | acc,f::fs=>fun ρ=>(f ρ).bind λt=>match t with
   |.str y=>(λS=>if(acc++y).length<=1000 then jT (acc++y) fs ρ S else .bad)
   |_=>M.bad
inductive CO(X:Cx)(E:XK):List bo->List DE->Prop where
 |nil:CO X E [] []
 |cons {e:bo} {es:List bo} {f:DE} {fs:List DE}:PE X e (RE E f)->CO X E es fs->CO X E (e::es) (f::fs)
theorem CO.pj{es:List bo}{fs:List DE}(h:CO X E es fs):PJ X es (fs.map (RE E)):=by
 induction h with
 |nil=>exact .nil
 |cons h _ ih=>exact .cons h ih
theorem E5:∀(fs:List DE) (acc:Str) {σ:St} {H:Hp} {Q:VK},RE E (jT acc fs) σ H Q->tJ acc (fs.map (RE E)) σ H Q
 | [],acc,σ,H,Q,h=>by
   obtain⟨W,S,ρ,rp,env,p⟩:=h;unfold jT at p
   split at p
   .rename_i hl;exact⟨px hl,now p rp (lP.mpr rfl)⟩
   .exact p.elim
 | f :: fs,acc,σ,H,Q,h=>by
   obtain⟨W,S,ρ,rp,env,p⟩:=h;refine⟨W,S,ρ,rp,env,(bu.bind p).imp λt W1 S1 H1 l1 r1 p1 v dv=>?_⟩
   split at p1
   .split at p1
    .rename_i y hl
     exact⟨y,lP.mp dv,px hl,E5 fs (acc++y) ⟨W1,S1,ρ,r1,env.mono l1,p1⟩⟩
    .exact p1.elim
   .exact p1.elim
theorem z2h{a b:bo}{r:List bo}{fs:List DE}(h:CO X E (a::b::r) fs):PE X (.JoinedStr (a::b::r) pos) (RE E (jT cP fs)):=iJ (Lx h.pj) fun σ H Q h=>E5 fs cP h
def Mm(C:aj)(fr:DA):DS:=fun ρ=>(fr ρ).bind λts=>λS=>if ts.length<=1000 then .exc C ae S else .bad
theorem z5x{np c6:Pos}(hx:Lb X E)(hc:X.calm=true)(q:PySem.W.excIn X.K C iH "ValueError.__new__" = true)(hg:Gl X x)(hm:X.mg x=aa (.ref C))(ha:PA X (e::es) (RA E fr))
  (i8:(x==("__debug__" : Str))=false:=by decide) (he:av (e::es) X.env=(false,eval e X.env)::av es X.env:=by rfl) (gm:(bJ c6 (av es X.env)).any (·.1)=false:=by rfl) :
  PS X (.Raise (aa (.Call (.Name x np) (e::es) [] c6)) ae pos) (RS E (Mm C fr)):=rz (Zg hx hc q hg hm ha i8 he gm) λD σ H h=>by
 obtain⟨W,S,ρ,rp,env,p⟩:=h;refine⟨W,S,ρ,rp,env,(bu.bind p).imp λts W1 S1 H1 l1 r1 p1 vs dv=>?_⟩
 split at p1
 .rename_i hl;exact⟨px (by rw[<- dv.length];exact hl),p1 W1 H1 ae (Wd.le.refl _) r1 trivial⟩
 .exact p1.elim
def xT(xs:List T)(lo hi:Option Int):List T:=(xs.drop (HT.oT xs.length 0 lo)).take (HT.oT xs.length xs.length hi-HT.oT xs.length 0 lo)
abbrev DO:=Ev->M (Option Int)
def Mn:DO:=λ_=>M.pure ae
def Mo(f:DE):DO:=fun ρ=>(f ρ).bind λt=>match t with
 |.int i=>M.pure (aa i)
 |_=>M.bad
def Mp(f:DE)(lo hi:DO):DE:=fun ρ=>(f ρ).bind λt=>(lo ρ).bind λl=>(hi ρ).bind λh=>λS=>match cI S t with
 |some ts=>.ok (.lst (xT ts l h)) S
 |none=>.bad
def RO(E:XK)(f:DO):TO:=fun σ H Q=>∃W S ρ,cK W S H/\fK W ρ σ/\bu E W (λo _ _ H'=>Q o H') (f ρ S)
theorem Sw{a:Option bo}{t t':TO}(h:PO X a t)(w:∀σ H Q,t' σ H Q->t σ H Q):PO X a t':=λag s σ H Q I q=>h ag s σ H Q I (w σ H Q q)
theorem z85:PO X ae (RO E Mn):=Sw Yz fun σ H Q h=>by
 obtain⟨W,S,ρ,rp,env,p⟩:=h;exact p W H (Wd.le.refl _) rp
theorem z86(h:PE X e (RE E fo)):PO X (aa e) (RO E (Mo fo)):=Sw (YA h) fun σ H Q h=>by
 obtain⟨W,S,ρ,rp,env,p⟩:=h;refine⟨W,S,ρ,rp,env,(bu.bind p).imp λt W1 S1 H1 l1 r1 p1 v dv=>?_⟩;cases t with
 |int i=>exact⟨i,jA.mp dv,p1 W1 H1 (Wd.le.refl _) r1⟩
 |_=>exact p1.elim
theorem z50{lo hi:Option bo}{p2:Pos}{fl fh:DO}(he:PE X e (RE E fo))(hl:PO X lo (RO E fl))(hh:PO X hi (RO E fh)):PE X (.Subscript e (.Slice lo hi ae p2) pos) (RE E (Mp fo fl fh)):=
 iJ (YC YM he hl hh) fun σ H Q h=>by
  obtain⟨W,S,ρ,rp,env,p⟩:=h;refine⟨W,S,ρ,rp,env,(bu.bind p).imp λt W1 S1 H1 l1 r1 p1 v dv=>?_⟩;refine⟨W1,S1,ρ,r1,env.mono l1,(bu.bind p1).imp λl W2 S2 H2 l2 r2 p2=>?_⟩;refine⟨W2,S2,ρ,r2,env.mono (l1.trans l2),(bu.bind p2).imp λu W3 S3 H3 l3 r3 p3=>?_⟩;cases e:cI S3 t with
  |none=>simp only[e] at p3;exact p3.elim
  | some ts=>
    simp only[e] at p3;obtain⟨a,vs,rfl,h1,h2⟩:=r3.list (cy.mono (l2.trans l3) _ _ dv) e;refine⟨a,vs,rfl,.inl h1,HK p3 r3 ?_⟩;unfold xT vq;rw[h2.length];exact(h2.drop _).take _
end
end MF
namespace MF
open PySem L2
theorem Bc{i:Nat}:∀u:V,([]:St)[i]?≠aa (aa u):=λu h=>nomatch (show(ae:Option (Option V))=aa (aa u) from h)
theorem zza:cj [V.bY] [jD]:=.cons rfl .nil
theorem zzb(W:Wd):aZ W [T.bY] [V.bY]:=aZ.eJ (oW.mpr rfl) aZ.fR
structure Cl where
 hall:aj
 place:aj
 piece:aj
 run:aj
 hallError:aj
 nameThere:aj
 noPlace:aj
 noPiece:aj
 tooMany:aj
 noAnswer:aj
 ring:aj
 barred:aj
 deedFault:aj
section
variable {X:Cx}{E:XK}{a b c e o:bo}{es:List bo}{fa fb fc fo:DE}{fr:DA}{pos p:Pos}{x:Str}
theorem Sx{i:Int}(hg:Gl X x)(hm:∃t,X.mg x=aa (.int i t))(hd:(x==("__debug__" : Str))=false:=by decide):PE X (.Name x p) (RE E (eC (.int i))):=by
 obtain⟨t,hm⟩:=hm;exact z82 hg hm hd
def Mq(f:DA):DI:=fun ρ=>(f ρ).bind λas=>λS=>match as with
 | [t]=>(match cI S t with
   |some ts=>.ok (ts.reverse,λS'=>cI S' t=aa ts) S
   |none=>.bad)
 |_=>.bad
def so(x:T)(ts:List T):Option Nat:=match toV x,ts.mapM toV with
 |some u,aa vs=>if(nA u&&vs.all nA)=true then vs.findIdx? (λy=>qH y u) else ae
 |_,_=>ae
def Zci(t:T)(as:List T):M T:=λS=>match cI S t,as with
 | some ts,[y]=>(match so y ts with
   |some j=>if ts.length<=1000 then .ok (.int j) S else .bad
   |none=>.bad)
 |_,_=>.bad
def Bd(t:T)(as:List T):M T:=λS=>match fL S t,as with
 | some (k,ts),[y]=>(match so y ts with
   |some j=>if ts.length<=1000 then .ok .bY (S.set k (.lst (ts.eraseIdx j))) else .bad
   |none=>.bad)
 |_,_=>.bad
theorem z51{W:Wd}{x:T}{ts:List T}{v:V}{vs:List V}{j:Nat}(d:cy W x v)(ds:aZ W ts vs)(e:so x ts=aa j) :
  nA v=true/\vs.all nA=true/\(∃z,vs[j]?=aa z/\qH z v=true)/\(∀i z,i<j->vs[i]?=aa z->qH z v=false):=by
 unfold so at e;cases e1:toV x with
 |none=>simp[e1] at e
 | some u=>
   cases e2:ts.mapM toV with
   |none=>simp[e1,e2] at e
   | some us=>
     simp only[e1,e2] at e
     split at e
     .rename_i hf
      rw[b8] at hf;have q1:=EO d e1;have q2:=LU ds e2;subst q1 q2;rw[List.findIdx?_eq_some_iff_getElem] at e;obtain⟨hj,h1,h2⟩:=e;refine⟨hf.1,hf.2,⟨vs[j],aW hj,h1⟩,λi z hi hz=>?_⟩;have Sy:i<vs.length:=GC hi hj;rw[aW Sy] at hz;cases hz;have:=h2 i hi;simpa using this
     .cases e
def Sz:V->List V->Hp->VK->Prop:=λx vs H Q=>∃l xs y j,x=.ref l/\vs=[y]/\H l=aa (.lst xs)/\nA y=true/\xs.all nA=true/\xs.length<=1000/\(∃z,xs[j]?=aa z/\qH z y=true)/\(∀i z,i<j->xs[i]?=aa z->qH z y=false)/\Q .bY (upd H l (.lst (xs.eraseIdx j)))
theorem zzd{y x:V}{u v:af}(ry:RelV y u)(rx:RelV x v)(fy:nA y=true)(fx:nA x=true):DQ u v (qH y x):=λprog w A E s Q h=>QK (A:=A) (s:=s) ry rx fy fx prog w E Q h
theorem zze:AA X "list.remove" Sz:=by
 intro ag s σ H x vs v us Q I rx rv h;obtain⟨l,xs,y,j,rfl,rfl,hH,fy,fx,E6,⟨z,hj,hz⟩,hno,q⟩:=h;cases rx;obtain⟨u,rfl,ru⟩:=rv.one;obtain⟨zz,cA,n,r,hl,e⟩:=I.vw hH;have Mr:j<cA.length:=by rw[<- hl];exact(ao.mp hj).1
 have ea:∀i (hi:i<cA.length),∃x',xs[i]?=aa x'/\RelV x' cA[i]:=λi hi=>cj.at r (by rw[aW hi]);refine nR F.slot_list_remove ⟨_,e,rfl⟩ F.entry_list_remove (F.args_list_remove_2 _ _) (MeetsSeq.list_remove l cA.toArray n u (rl y) ?_ j (by simpa using Mr) ?_ ?_ (by rw[aQ];omega)) ⟨e,?_⟩
 .intro w' hw
  have hw':w'∈cA:=by simpa using hw
  obtain⟨i,hi,rfl⟩:=lh hw';obtain⟨x',h1,h2⟩:=ea i hi;rw[Ei h2 (Hw fx h1)];exact zzd h2 ru (Hw fx h1) fy
 .obtain⟨x',h1,h2⟩:=ea j Mr
  rw[hj] at h1;cases h1;have:cA.toArray[j]'(by simpa using Mr)=cA[j]:=by simp
  rw[this,Ei h2 (Hw fx hj)];exact hz
 .intro m hm hmj
  have qj:m<cA.length:=by simpa using hm
  obtain⟨x',h1,h2⟩:=ea m qj;have:cA.toArray[m]'hm=cA[m]:=by simp
  rw[this,Ei h2 (Hw fx h1)];exact hno m x' hmj h1
 .refine⟨.bY,_,I.vv (t':=s.toks) (its':=cA.eraseIdx j) hH e ?_ (r.eraseIdx j) ?_,rfl,q⟩
  .show cA.toArray.eraseIdxIfInBounds j=(cA.eraseIdx j).toArray
   rw[mX]
  .have:=QM xs j
   omega
theorem zzf:GM E Sz Bd:=by
 intro t as W S H v vs Q r d da p;unfold Bd at p
 split at p
 .rename_i k ts y e
  cases e2:so y ts with
  |none=>simp only[e2] at p;exact p.elim
  | some j=>
    simp only[e2] at p
    split at p
    .rename_i hl
     obtain⟨us,rfl,h0,h1,h2⟩:=r.fL d e;obtain⟨w,rfl,dw⟩:=A6 da;obtain⟨g1,g2,g3,g4⟩:=z51 dw h2 e2;exact⟨_,us,w,j,rfl,rfl,h1,g1,g2,by rw[<- h2.length];exact hl,g3,g4,p W _ (Wd.le.refl _) (r.cellSet h0 _ _ ⟨_,fE,h2.eraseIdx _⟩) _ (oW.mpr rfl)⟩
    .exact p.elim
 .exact p.elim
theorem SA{cC:Pos}(ho:PE X o (RE E fo))(ha:PA X [e] (RA E fr))(eQ:bU o "remove" X.env (eval o X.env)=eval o X.env:=by rfl)
  (eR:(cC.endLine==pos.line)=true:=by rfl) (hs:av [e] X.env=(false,eval e X.env)::av [] X.env:=by rfl)
  (nB:((bJ pos (av [e] X.env)).all (λx=>!x.1)&&(eY pos (cX [] X.env)).all (λx=>x.1.isSome)&&decide ([e].length+([]:List gz).length+(if([]:List gz).isEmpty then 0 else 1)<30))=true:=by rfl):PE X (.Call (.Attribute o "remove" cC) [e] [] pos) (RE E (jB jv Bd fo fr)):=
 xO d9 PySem.F.slot_list_remove PySem.F.type_list_remove zze EX zzf ho ha eQ nB eR hs rfl
end
variable {S:bx}{ρ:Ev}
@[simp]theorem eL{α β:Type}(m:M α)(f:α->M β):M.bind m f S=(match m S with|.ok a S'=>f a S' | .exc C fs S'=>.exc C fs S' | .bad=>.bad):=rfl
@[simp]theorem SD{α:Type}(a:α):M.pure a S=.ok a S:=rfl
@[simp]theorem Zc5{α:Type}:(M.bad:M α) S=.bad:=rfl
@[simp] theorem zy (i:Nat):ah i ρ S=(match ρ[i]? with|some (aa t)=>.ok t S | _=>.bad):=by
  unfold ah
  split<;>simp_all
@[simp]theorem Ms(t:T):eC t ρ S=.ok t S:=rfl
@[simp]theorem sr(g:T->T->M T)(a b:DE):e2 g a b ρ S=(a ρ).bind (λx=>(b ρ).bind λy=>g x y) S:=rfl
@[simp]theorem Be(g:T->M T)(a:DE):e1 g a ρ S=(a ρ).bind g S:=rfl
@[simp]theorem SE:aJ ρ S=.ok [] S:=rfl
@[simp]theorem Mt(a:DE)(r:DA):a_ a r ρ S=(a ρ).bind (λt=>(r ρ).bind λts=>M.pure (t::ts)) S:=rfl
@[simp]theorem x_eA(g:List T->M T)(f:DA):eA g f ρ S=(f ρ).bind g S:=rfl
@[simp]theorem E7(f:Int->Int->Option T)(i j:Int):gI f (.int i) (.int j) S=(match f i j with|some t=>.ok t S | none=>.bad):=rfl
@[simp]theorem z87(i j:Int):vN i j=aa (.int (i-j)):=rfl
@[simp]theorem Zc6(i j:Int):LR i j=aa (.bl (decide (i<j))):=rfl
@[simp]theorem Zc7(i j:Int):EM i j=aa (.bl (decide (j<i))):=rfl
@[simp]theorem Zc8(i j:Int):HI i j=aa (.bl (decide (j<=i))):=rfl
@[simp]theorem z88(i j:Int):pC i j=(if(-(2 ^ 64)<i/\i<2 ^ 64)\/(-(2 ^ 64)<j/\j<2 ^ 64) then aa (.int (i*j)) else ae):=rfl
@[simp]theorem Zcj(i j:Int):jM i j=(if 0<j/\j<1073741824 then aa (.int (i / j)) else ae):=rfl
@[simp]theorem z89(i j:Int):fS i j=(if 0<j then aa (.int (i%j)) else ae):=rfl
@[simp]theorem Zck(i j:Int):hV (.int i) (.int j) S=.ok (.int (i+j)) S:=rfl
@[simp]theorem Zcl(i j:Str):hV (.str i) (.str j) S=(if i.length+j.length<=1000 then .ok (.str (i++j)) S else .bad):=rfl
@[simp]theorem z9a(xs ys:List T):hV (.lst xs) (.lst ys) S=(if xs.length+ys.length<=1000 then .ok (.lst (xs++ys)) S else .bad):=rfl
@[simp] theorem Zc9 (i j:Int):iR (.int i) (.int j) S=.ok (.bl (decide (i=j))) S:=by
  simp[iR,rB,toV,pq]
@[simp] theorem Zda (i j:Str):iR (.str i) (.str j) S=.ok (.bl (decide (i=j))) S:=by
  simp[iR,rB,toV,pq]
@[simp] theorem Zdb (i j:Bool):iR (.bl i) (.bl j) S=.ok (.bl (decide (i=j))) S:=by
  simp[iR,rB,toV,pq]
@[simp] theorem Zdc (i j:Int):kC (.int i) (.int j) S=.ok (.bl (!decide (i=j))) S:=by
  simp[kC,rB,toV,pq]
@[simp] theorem Zdd (i j:Str):kC (.str i) (.str j) S=.ok (.bl (!decide (i=j))) S:=by
  simp[kC,rB,toV,pq]
@[simp]theorem SG(b:Bool):LV (.bl b) S=.ok b S:=rfl
@[simp]theorem Zcm(b:Bool):jO (.bl b) S=.ok b S:=rfl
@[simp]theorem Zcn(ts:List T):jO (.lst ts) S=.ok (!ts.isEmpty) S:=rfl
@[simp]theorem SH(f:DE):eB f ρ S=(f ρ).bind LV S:=rfl
@[simp]theorem Zde(f:DE):oX f ρ S=(f ρ).bind jO S:=rfl
@[simp]theorem Zdf(f g:DT):uc f g ρ S=(f ρ).bind (λc=>if c=true then g ρ else M.pure false) S:=rfl
@[simp]theorem x_or(f g:DT):qO f g ρ S=(f ρ).bind (λc=>if c=true then M.pure true else g ρ) S:=rfl
@[simp]theorem Zdg(f:DT):zw f ρ S=(f ρ).bind (λc=>M.pure (!c)) S:=rfl
@[simp]theorem Zco(f:DE):sf f ρ S=(f ρ).bind (λx=>(jO x).bind λb=>M.pure (.bl (!b))) S:=rfl
@[simp]theorem Zdh(c:DT)(f g:DE):LY c f g ρ S=(c ρ).bind (λb=>if b=true then f ρ else g ρ) S:=rfl
@[simp]theorem Zcp(ts:List T):gP ts S=(if ts.length<=1000 then .ok (.lst ts) S else .bad):=rfl
@[simp]theorem Zcq(ts:List T):gQ ts S=(if ts.length<=1000 then .ok (.obj S.length) (S++[.lst ts]) else .bad):=rfl
@[simp]theorem Zcr(ts:List T):f_ ts S=(if ts.length<=1000 then .ok (.tup ts) S else .bad):=rfl
@[simp]theorem z52:xK ρ S=.ok (.obj S.length) (S++[.dic []]):=rfl
@[simp]theorem x_nx:gU ρ S=.ok (.nx ρ) S:=rfl
@[simp]theorem SI(f g:DS):ba f g ρ S=(f ρ).bind (λx=>match x with|.nx ρ'=>g ρ' | o=>M.pure o) S:=rfl
@[simp]theorem Zbv(f:DE):cW f ρ S=(f ρ).bind (λt=>M.pure (.rt t)) S:=rfl
@[simp]theorem z9d(f:DE):iT f ρ S=(f ρ).bind (λ_=>M.pure (.nx ρ)) S:=rfl
@[simp]theorem Zbw(i:Nat)(f:DE):bV i f ρ S=(f ρ).bind (λt=>M.pure (.nx (ρ.set i (aa t)))) S:=rfl
@[simp]theorem E8(c:DT)(f g:DS):gp c f g ρ S=(c ρ).bind (λb=>if b=true then f ρ else g ρ) S:=rfl
@[simp] theorem SJ (n:Nat) (d:DS) (ts:List T):c9 n d ts S=(match d (ts.map aa++aT (n-ts.length) ae) S with
  |.ok (.rt t) S'=>.ok t S' | .ok (.nx _) S'=>.ok .bY S' | .ok _ _=>.bad | .exc C fs S'=>.exc C fs S' | .bad=>.bad):=by
  unfold c9;rw[eL]
  split<;>simp_all
  rename_i x _ _;cases x<;>rfl
@[simp]theorem z9e(F:Fn)(ds:List T)(fr:DA):dZ F ds fr ρ S=(fr ρ).bind (λts=>F (ts++ds)) S:=rfl
@[simp]theorem Zbx(n:Nat)(F:Fn)(ts:List T):bz n F ts S=(if ts.length=n then F ts S else .bad):=rfl
@[simp]theorem Zcs(ts:List T):ju S (.lst ts)=aa ts:=rfl
@[simp]theorem Zct(ts:List T):ju S (.tup ts)=aa ts:=rfl
@[simp]theorem Mu(ts:List T):cI S (.lst ts)=aa ts:=rfl
@[simp]theorem Zcu(ts:List T):kQ (.lst ts) S=.ok (.int ts.length) S:=rfl
@[simp]theorem Zby(ts:List T)(i:Int):eh (.lst ts) (.int i) S=(match jt ts i with|some t=>.ok t S | none=>.bad):=rfl
@[simp]theorem Zdi(ts:List T)(i:Int):eh (.tup ts) (.int i) S=(match jt ts i with|some t=>.ok t S | none=>.bad):=rfl
@[simp]theorem Zdj(z:Str)(i:Int):eh (.str z) (.int i) S=(if z.length<=1000 then(match jt z.cps.toList i with|some c=>.ok (.str ⟨#[c]⟩) S | none=>.bad) else .bad):=rfl
@[simp] theorem Zdk {α:Type} (a:α) (r:List α):jt (a::r) 0=aa a:=by
  have:(0:Int)=((0:Nat):Int):=rfl;rw[this];exact zj rfl
@[simp] theorem Zdl {α:Type} (a b:α) (r:List α):jt (a::b::r) 1=aa b:=by
  have:(1:Int)=((1:Nat):Int):=rfl;rw[this];exact zj rfl
@[simp] theorem Zbz {α:Type} (a b d:α) (r:List α):jt (a::b::d::r) 2=aa d:=by
  have:(2:Int)=((2:Nat):Int):=rfl;rw[this];exact zj rfl
@[simp] theorem Zb0 {α:Type} (a b d e:α) (r:List α):jt (a::b::d::e::r) 3=aa e:=by
  have:(3:Int)=((3:Nat):Int):=rfl;rw[this];exact zj rfl
@[simp] theorem Zb1 {α:Type} (a b d e f:α) (r:List α):jt (a::b::d::e::f::r) 4=aa f:=by
  have:(4:Int)=((4:Nat):Int):=rfl;rw[this];exact zj rfl
theorem SK{α:Type}{ts:List α}{i:Int}(h0:0<=i)(h1:i<ts.length):jt ts i=ts[i.toNat]?:=by
 obtain⟨j,rfl⟩:=Int.eq_ofNat_of_zero_le h0;have hl:j<ts.length:=by omega
 have:=zj (j:=j) (v:=ts[j]) (aW hl);rw[this,w8,aW hl]
variable {S:bx}{ρ:Ev}
@[simp]theorem SM{α:Type}{p:Prop}[Decidable p](m n:M α):(if p then m else n) S=if p then m S else n S:=by split<;>rfl
@[simp]theorem Bf(f:DE):iL f ρ S=(f ρ).bind (λt=>λS=>match cI S t with|some ts=>.ok (ts,λS'=>cI S' t=aa ts) S | none=>.bad) S:=rfl
@[simp]theorem Zb2(f:DA):tz f ρ S=(f ρ).bind (λts=>λS=>match ts with|[.int j]=>if -1000000<=j/\j<=1000000 then .ok (ot 0 j.toNat,λ(_:bx)=>True) S else .bad | _=>.bad) S:=rfl
@[simp]theorem Zcv(f:DA):Mq f ρ S=(f ρ).bind (λas=>λS=>match as with|[t]=>(match cI S t with|some ts=>.ok (ts.reverse,λS'=>cI S' t=aa ts) S | none=>.bad) | _=>.bad) S:=rfl
theorem SN{st:bx->Prop}{g:DG}{body:DS}(Inv:List T->Ev->bx->Prop):∀(ts pre:List T) (ρ:Ev) (S:bx),Inv pre ρ S ->
  (∀Bg t post ρ S,pre++ts=Bg++t::post->Inv Bg ρ S->st S/\∃ρ1,g t ρ=aa ρ1/\∃ρ2 S2,body ρ1 S=.ok (.nx ρ2) S2/\Inv (Bg++[t]) ρ2 S2)->(∀ρ S,Inv (pre++ts) ρ S->st S) ->
  ∃ρ' S',dz st g body ts ρ S=.ok (.nx ρ') S'/\Inv (pre++ts) ρ' S'
 | [],pre,ρ,S,h,_,he=>by
   rw[cE] at he ⊢;refine⟨ρ,S,?_,h⟩;unfold dz;rw[if_pos (he ρ S h)]
 | t::ts,pre,ρ,S,h,hs,he=>by
   obtain⟨dI,ρ1,e1,ρ2,S2,e2,h2⟩:=hs pre t ts ρ S rfl h;have e:pre++t::ts=(pre++[t])++ts:=by simp
   obtain⟨ρ',S',e3,h3⟩:=SN Inv ts (pre++[t]) ρ2 S2 h2 (by rw[<- e];exact hs) (by rw[<- e];exact he);refine⟨ρ',S',?_,by rw[e];exact h3⟩;unfold dz;rw[if_pos dI,e1];simp only[eL,e2];exact e3
theorem CP{it:DI}{g:DG}{body:DS}{ts:List T}{st:bx->Prop}{S1:bx}(Inv:List T->Ev->bx->Prop)(ou:it ρ S=.ok (ts,st) S1)(h0:Inv [] ρ S1)
  (hs:∀pre t post ρ S,ts=pre++t::post->Inv pre ρ S->st S/\∃ρ1,g t ρ=aa ρ1/\∃ρ2 S2,body ρ1 S=.ok (.nx ρ2) S2/\Inv (pre++[t]) ρ2 S2) (he:∀ρ S,Inv ts ρ S->st S) :
  ∃ρ' S',dA it g body ρ S=.ok (.nx ρ') S'/\Inv ts ρ' S':=by
 obtain⟨ρ',S',e,h⟩:=SN (st:=st) (g:=g) (body:=body) Inv ts [] ρ S1 h0 hs he;refine⟨ρ',S',?_,h⟩;unfold dA;simp only[eL,ou];exact e
theorem Mv{st:bx->Prop}{tc:DT}{te:DE}{caps:Ev}{p:T->Bool}{f:T->T}(dI:st S):∀(ts:List T) (o:Option T) (acc:List T),acc.length+ts.length<=1000->(∀t∈ts,tc (aa t::caps) S=.ok (p t) S)->(∀t∈ts,p t=true->te (aa t::caps) S=.ok (f t) S) ->
  nH st (c0 0) tc te ts (o::caps) acc S=.ok (acc++(ts.filter p).map f) S
 | [],o,acc,_,_,_=>by
   unfold nH;rw[if_pos dI];simp
 | t :: ts,o,acc,hl,hc,he=>by
   have ih:=λacc h=>Mv (tc:=tc) (te:=te) dI ts (aa t) acc h (λu hu=>hc u (au _ hu)) (λu hu=>he u (au _ hu));have h1:=hc t (ay ..);rw[aL] at hl;unfold nH;rw[if_pos dI];show(M.bind (tc (aa t::caps)) _) S=_;rw[eL,h1];cases e:p t with
   | false=>
     have:=ih acc (by omega);simpa[e] using this
   | true=>
     have h2:=he t (ay ..) e;have:=ih (acc++[f t]) (by rw[aB,aV];omega);have si:acc.length<1000:=by omega
     simp only[if_true,eL,h2,SM,si];simpa[e,h2] using this
theorem zA{js:List Nat}{it:DI}{tc:DT}{te:DE}{ts:List T}{st:bx->Prop}{p:T->Bool}{f:T->T}(ou:it ρ S=.ok (ts,st) S)(dI:st S)(hl:ts.length<=1000)
  (hc:∀t∈ts,tc (aa t::js.map λj=>(ρ[j]?).join) S=.ok (p t) S) (he:∀t∈ts,p t=true->te (aa t::js.map λj=>(ρ[j]?).join) S=.ok (f t) S) :
  i4 1 js it (c0 0) tc te eU ρ S=.ok (.lst ((ts.filter p).map f)) S:=by
 unfold i4;rw[eL,ou];show(M.bind (rC _) eU) S=_;rw[eL];have:=Mv (tc:=tc) (te:=te) (caps:=js.map λj=>(ρ[j]?).join) dI ts ae [] (by simpa using hl) hc he;have e2:rC (nH st (c0 0) tc te ts (aT 1 ae++js.map λj=>(ρ[j]?).join) []) S=.ok ((ts.filter p).map f) S:=by
  unfold rC;rw[show(aT 1 (ae:Option T)++js.map λj=>(ρ[j]?).join)=ae::js.map λj=>(ρ[j]?).join from rfl,this];rfl
 simp only[e2];rfl
theorem E9{js:List Nat}{it:DI}{te:DE}{ts:List T}{st:bx->Prop}{f:T->T}(ou:it ρ S=.ok (ts,st) S)(dI:st S)(hl:ts.length<=1000)
  (he:∀t∈ts,te (aa t::js.map λj=>(ρ[j]?).join) S=.ok (f t) S) :
  i4 1 js it (c0 0) ke te eU ρ S=.ok (.lst (ts.map f)) S:=by
 have:=zA (tc:=ke) (p:=λ_=>true) ou dI hl (λ_ _=>rfl) (λt h _=>he t h);rwa[eI.mpr (λ_ _=>rfl)] at this
theorem Mw{g:T->Option T}:∀{ts:List T},(∀t∈ts,g t=aa t)->hW g ts=aa ts
 |[],_=>rfl
 | t::ts,h=>by
   unfold hW;rw[h t (ay ..),Mw λu hu=>h u (au _ hu)]
theorem E_{S:bx}{n f:Nat}{t:T}(h:HB n t):fz S n f t=aa t:=by
 cases f<;>(unfold fz;rw[if_pos h])
theorem Mx{F:Fn}{ts us:List T}{S':bx}{k:Nat}(h:F ts S=.ok (.obj k) S')(hS:S'.take S.length=S)(hk:S.length<=k)(hc:S'[k]?=aa (.lst us))(hb:∀t∈us,HB S.length t):iU F ts S=.ok (.lst us) S:=by
 unfold iU;rw[h];simp only[if_pos hS];have e:fz S' S.length 6 (.obj k)=aa (.lst us):=by
  unfold fz;rw[if_neg (by simp only[HB];omega)];simp only[hc];rw[Mw λt ht=>E_ (hb t ht)];rfl
 rw[e]
theorem zB{F:Fn}{ts:List T}{S':bx}{t:T}(h:F ts S=.ok t S')(hS:S'.take S.length=S)(hb:HB S.length t):iU F ts S=.ok t S:=by
 unfold iU;rw[h];simp only[if_pos hS];rw[E_ hb]
theorem z53{F:Fn}{ts:List T}{S':bx}{C:aj}(h:F ts S=.exc C ae S')(hS:S'.take S.length=S):iU F ts S=.exc C ae S:=by
 unfold iU;rw[h];simp only[if_pos hS]
@[simp]theorem x_mt(ok:bx->T->Bool)(g:T->List T->M T)(fo:DE)(fr:DA):jB ok g fo fr ρ S=(fo ρ).bind (λt=>λS=>if ok S t=true then((fr ρ).bind λts=>g t ts) S else .bad) S:=rfl
theorem xU{k:Nat}{ts:List T}{y:T}(h:S[k]?=aa (.lst ts))(hl:ts.length<1000):jP (.obj k) [y] S=.ok .bY (S.set k (.lst (ts++[y]))):=by
 simp[jP,fL,h,hl]
theorem zC{k:Nat}{ts us:List T}{y:T}(h:S[k]?=aa (.lst ts))(hy:cI S y=aa us)(hl:ts.length+us.length<=1000):jC (.obj k) [y] S=.ok .bY (S.set k (.lst (ts++us))):=by
 simp[jC,fL,h,hy,hl]
theorem lY{k:Nat}{ts:List T}(h:S[k]?=aa (.lst ts)):jv S (.obj k)=true:=by simp[jv,cI,h]
theorem jG{k:Nat}{ts:List T}(h:S[k]?=aa (.lst ts)):cI S (.obj k)=aa ts:=by simp[cI,h]
@[simp]theorem My(n:Nat)(x:Str):HB n (.str x):=by simp[HB]
@[simp]theorem Zcw(n:Nat)(x:Int):HB n (.int x):=by simp[HB]
@[simp]theorem Zb3(n:Nat)(x:Bool):HB n (.bl x):=by simp[HB]
@[simp]theorem Zcx(n:Nat):HB n .bY:=by simp[HB]
theorem Mz{n:Nat}:∀{ts:List T},(∀t∈ts,HB n t)->ug n ts
 |[],_=>by simp only[ug]
 |t::ts,h=>by simp only[ug];exact⟨h t (ay ..),Mz λu hu=>h u (au _ hu)⟩
theorem z9g{n:Nat}{ts:List T}(h:∀t∈ts,HB n t):HB n (.lst ts):=by simp only[HB];exact Mz h
theorem Bh{n:Nat}{ts:List T}(h:∀t∈ts,HB n t):HB n (.tup ts):=by simp only[HB];exact Mz h
def aI(l:List Str):T:=.lst (l.map .str)
theorem SO{n:Nat}(l:List Str):HB n (aI l):=z9g λt ht=>by
 obtain⟨x,_,rfl⟩:=aq.mp ht;exact My n x
theorem MA:∀(l:List Str),(l.map T.str).mapM toV=aa (l.map V.str)
 |[]=>rfl
 | a::r=>by
   rw[aE,Ac,MA r];rfl
theorem MB:∀{l:List Str},(l.map V.str).all nA=true
 |[]=>rfl
 | a::r=>by
   rw[aE,qE,MB];rfl
theorem SQ{x:Str}:∀{l:List Str},El (.str x) (l.map V.str)=l.contains x
 |[]=>rfl
 | a::r=>by
   rw[cS,<- SQ (l:=r)];show((a==x) || _)=_;rw[BEq.comm];rfl
theorem SR(x:Str)(l:List Str):ER (.str x) (l.map T.str)=aa (l.contains x):=by
 unfold ER;rw[MA];simp only[toV];rw[if_pos (by rw[MB];rfl),SQ]
theorem CQ{x:Str}{y:T}{l:List Str}(h:ju S y=aa (l.map T.str)):pD (.str x) y S=.ok (.bl (l.contains x)) S:=by
 simp[pD,zv,h,SR]
theorem Ih{x:Str}{y:T}{l:List Str}(h:ju S y=aa (l.map T.str)):wJ (.str x) y S=.ok (.bl (!l.contains x)) S:=by
 simp[wJ,zv,h,SR]
@[simp]theorem Zdm(x:Str)(l:List Str):pD (.str x) (aI l) S=.ok (.bl (l.contains x)) S:=CQ rfl
@[simp]theorem Zap(x:Str)(l:List Str):wJ (.str x) (aI l) S=.ok (.bl (!l.contains x)) S:=Ih rfl
theorem SS{α:Type}:∀{K:List (aj×α)} {a:aj} {o:α},K.lookup a=aa o->(a,o)∈K
 |[],_,_,e=>by cases e
 | (b,x)::K,a,o,e=>by
   rw[bS] at e;cases h:a==b with
   | true=>
     rw[h] at e;cases e;rw[eq_of_beq h];exact ay ..
   | false=>
     rw[h] at e;exact au _ (SS e)
def MC(K:aP):Bool:=K.all λp=>!(p.2.cls==lM "list")
theorem zzm{K:aP}{a:aj}{o:Obj}(h:MC K=true)(e:K.lookup a=aa o):o.cls≠.type "list":=λz=>by
 have hm:(a,o)∈K:=SS e;have:=m_.mp h (a,o) hm;rw[show(a,o).2.cls=lM "list" from z] at this;simp at this
def Ii(K:aP):Sp:=λvs H Q _=>∃(a:aj) (ns:List Int),vs=[.ref a]/\mJ K H a (ns.map V.int)/\ns.length<=63/\∀H',Q (.bl true) H'
theorem SU{W:Wd}:∀(ns:List Int),aZ W (ns.map T.int) (ns.map V.int)
 |[]=>aZ.fR
 |n::ns=>aZ.eJ (jA.mpr rfl) (SU ns)
theorem z9h{P:aX}{w:bB}{K:aP}{mg:Str->Option af}{base:bO}{k:Nat}{f:aj}{fd:bI}{F:Fn}(G:bW P w K mg base (ee P w) k f fd ["script"] (gK 1 F))(nl:MC K=true)
  (h:∀ns:List Int,ns.length<=63->∃S',F [.lst (ns.map .int)] []=.ok (.bl true) S'):bW P w K mg base Et k f fd ["script"] (Ii K):=by
 refine G.calm.imp λvs H Q E q=>?_;obtain⟨a,ns,rfl,sq,hl,q⟩:=q;have rd:Rd H a (.lst (ns.map V.int)):=by
  rcases sq with rd | ⟨o,cA,n,hk,hc,_⟩
  .exact rd
  .exact absurd hc (zzm nl hk)
 refine⟨⟨λb=>if b=a then aa (.lst (ns.map V.int)) else ae,λ_=>0,0,λ_=>ae,λ_=>ae⟩,[],[.lst (ns.map .int)],⟨λb o e=>?_,rfl,(λk c e=>by simp at e),(λj k hj=>absurd hj (Ae _)),(λb o e=>nomatch e),λb o e=>nomatch e⟩,aZ.eJ (rZ.mpr ⟨a,_,rfl,if_pos rfl,SU ns⟩) aZ.fR,rfl,?_⟩
 .have e:(if b=a then aa (HO.lst (ns.map V.int)) else ae)=aa o:=e
  by_cases z:b=a
  .rw[if_pos z] at e
   cases e;subst z;refine⟨?_,trivial⟩;rcases rd with r | r
   .exact .inl r
   .exact .inr ⟨r,by intro xs z;cases z⟩
  .rw[if_neg z] at e;cases e
 .obtain⟨S',e⟩:=h ns hl
  rw[e];intro W' H' _ _ v dv;rw[i_.mp dv];exact q H'
theorem Fb{l:PySem.W.OpenLaw}{q:aX}{oU:List Str}{XP:(Str->Option af)->bO->Prop}{YP:bB->bO->Prop}{d:DefRec}{K:Params->aP}{k:Nat}(hk:d7 k PySem.callerA)(hn:l.most=aa 63)(Er:d.params.defaults=[])
  (hY:∀(w:bB) (h:bO),YP w h->(K w.params).In h)
  (F:∀(w:bB) (mg:Str->Option af) (fa:aj) (h:bO),(K w.params).In h->h.Ns bq mg->mg d.name=aa (.ref fa) ->
   ∃fd:bI,(∀(s:ar) (u:af),rH s fd ⟨[u],[]⟩ [("script",u)])/\∀base:bO,(K w.params).In base->base.Ns bq mg->bW l.prog w (K w.params) mg base Et k fa fd ["script"] (Ii (K w.params))) :
  PySem.W.WalkO q oU XP YP l.row.toRowW d [] (λf vs=>uJ f vs):=
 L2.xu (n:=63) (k:=k) (x := "script") (CX:=λ_=>Et) (sp:=λw=>Ii (K w.params)) hn (by decide) Er hk hY F (λ_ _ a ns hl _ hS=>⟨a,ns,rfl,hS,hl,λ_=>rfl⟩) λ_ _ _ _ _ z=>z
end MF
namespace MF
open PySem PySem.Spec L2
section
variable {W:Wd}{S:bx}{H:Hp}
theorem cK.vP(r:cK W S H){d:aj}{ks:List (Str×V)}(hd:H d=aa (.xd ks))(h0:W.HS d=ae):∃W1:Wd,W.le W1/\cK W1 S H/\W1.P d=aa (.xd ks)/\W1.HS=W.HS/\W1.μ=W.μ/\W1.n=W.n:=by
 have nc:∀k,k<W.n->W.μ k≠d:=λk hk z=>by
  obtain⟨c,hc⟩:=r.cellAt hk;have q:=(r.cell k c hc).1;rw[z] at q;cases c with
  |lst ts=>obtain⟨_,h1,_⟩:=q;rw[hd] at h1;cases h1
  |dic ts=>obtain⟨_,h1,_⟩:=q;rw[hd] at h1;cases h1
  |ins _ ts=>obtain⟨_,_,h1,_⟩:=q;rw[hd] at h1;cases h1
  |exc _ ts=>obtain⟨_,h1,_⟩:=q;rw[hd] at h1;cases h1
  |lck ts=>obtain⟨_,_,h1,_⟩:=q;rw[hd] at h1;cases h1
 cases e:W.P d with
 | some o=>
   have:=(r.prv d o e).1;rw[hd] at this;cases this;exact⟨W,Wd.le.refl W,r,e,rfl,rfl,rfl⟩
 | none=>
   refine⟨W.mP d (.xd ks),Wd.tf e,?_,fE,rfl,rfl,rfl⟩;refine r.lG rfl rfl rfl rfl (λek c=>kA.hs (W:=W) (W':=W.mP d (.xd ks)) rfl rfl rfl (λd' MD z=>?_) c) (λa u _ h=>h) (λa q u _ h=>h) λa u z=>?_
   .show upd W.P d (.xd ks) d'=_
    rw[c4 (λq=>by rw[q,e] at z;cases z)];exact z
   .have z:upd W.P d (.xd ks) a=aa u:=z
    by_cases q:a=d
    .subst q;rw[fE] at z;cases z;exact⟨hd,h0,nc⟩
    .rw[c4 q] at z;exact r.prv a u z
theorem cK.Bi(r:cK W S H){ea C:aj}{dx:Option aj}{fs:Option (List (Str×T))}(he:H ea=ae)(x:HG W H dx fs) :
  ∃W1:Wd,W.le W1/\cK W1 (S++[.exc C fs]) (upd H ea (oj ea C dx))/\W1.μ S.length=ea/\S.length<W1.n:=by
 have key:∃W1:Wd,W.le W1/\cK W1 S H/\XP W1 dx fs/\W1.n=W.n:=by
  cases dx with
  | none=>
    cases fs with
    |none=>exact⟨W,Wd.le.refl W,r,trivial,rfl⟩
    |some _=>exact x.elim
  | some d=>
    cases fs with
    |none=>exact x.elim
    | some fs=>
      obtain⟨ks,x1,x2,x3⟩:=x;obtain⟨W1,l,r1,p1,_,_,n1⟩:=r.vP x1 x2;exact⟨W1,l,r1,⟨ks,p1,eS.mono l x3⟩,n1⟩
 obtain⟨W1,l,r1,x1,n1⟩:=key;refine⟨W1.add ea,l.trans Wd.iy,r1.m4 he (.exc C fs) (oj ea C dx) ⟨dx,fE,x1.mono Wd.iy⟩,?_,?_⟩
 .rw[r.len,<- n1];exact Wd.gF
 .rw[r.len,<- n1];exact dj _
end
def qt{α:Type}(js:List Nat)(l:List (Option α)):List (Option α):=js.foldl (λr j=>r.set j ae) l
theorem SV{α:Type}:∀(js:List Nat) (l:List (Option α)),(qt js l).length=l.length
 |[],_=>rfl
 |j::js,l=>by show(qt js (l.set j ae)).length=_;rw[SV js,dW]
theorem ME{α:Type}:∀(js:List Nat) (l:List (Option α)) {i:Nat} {v:α},(qt js l)[i]?=aa (aa v)->l[i]?=aa (aa v)
 |[],_,_,_,h=>h
 | j::js,l,i,v,h=>by
   have h:=ME js (l.set j ae) h;by_cases z:i=j
   .subst z
    rw[mG] at h;simp at h
   .rwa[cn (bZ z)] at h
theorem SW{α:Type}:∀(js:List Nat) (l:List (Option α)) {i:Nat},i∈js->∀v:α,(qt js l)[i]?≠aa (aa v)
 | j::js,l,i,hi,v=>by
   intro h;have h2:=ME js (l.set j ae) h;rcases aF.mp hi with z | z
   .subst z
    rw[mG] at h2;simp at h2
   .exact SW js (l.set j ae) z v h
theorem fK.unset{W:Wd}:∀{ρ:Ev} {σ:St} (i:Nat),fK W ρ σ->fK W (ρ.set i ae) (σ.set i ae)
 |[],σ,i,h=>by rw[show σ=[] from h];exact rfl
 | o::ρ,σ,i,⟨s,r,e0,h1,h2⟩=>by
   subst e0;cases i with
   |zero=>exact⟨_,_,rfl,trivial,h2⟩
   |succ i=>exact⟨_,_,rfl,h1,fK.unset i h2⟩
theorem fK.qt{W:Wd}:∀(js:List Nat) {ρ:Ev} {σ:St},fK W ρ σ->fK W (qt js ρ) (qt js σ)
 |[],_,_,h=>h
 |j::js,_,_,h=>fK.qt js (fK.unset j h)
def mx{α:Type}:R α->R α
 |.exc _ _ _=>.bad
 |r=>r
def Hd(i:Nat):R Fl->R Fl
 |.ok (.nx ρ) S=>.ok (.nx (ρ.set i ae)) S
 |.ok (.bk ρ) S=>.ok (.bk (ρ.set i ae)) S
 |.ok (.ct ρ) S=>.ok (.ct (ρ.set i ae)) S
 |r=>r
theorem bu.mx{α:Type}{E E':XK}{W:Wd}{Q:α->Wd->bx->Hp->Prop}{r:R α}(h:bu E W Q (mx r)):bu E' W Q r:=by
 cases r with
 |ok a S=>exact h
 |exc C fs S=>exact h.elim
 |bad=>exact h
abbrev DH:=aj->Option (List (Str×T))->DS
def su(fb:DS)(js:List Nat)(fh:DH):DS:=fun ρ S=>match fb ρ S with
 |.ok x S'=>.ok x S'
 |.exc C fs S'=>fh C fs (qt js ρ) S'
 |.bad=>.bad
def RH(E:XK)(fh:DH):vy:=λcls dx _ D σ H=>∃C fs W S ρ,cls=.ref C/\cK W S H/\HG W H dx fs/\fK W ρ σ/\bu E W (QF D) (fh C fs ρ S)
def MG:DH:=λ_ _ _ _=>.bad
def Bj(sub:aj->Option Bool)(ds:DS)(r:DH):DH:=λC fs ρ S=>match sub C with
 |some true=>mx (ds ρ S)
 |some false=>r C fs ρ S
 |none=>.bad
def xV(sub:aj->Option Bool)(i:Nat)(ds:DS)(r:DH):DH:=λC fs ρ S=>match sub C with
 |some true=>Hd i (mx (ds (ρ.set i (aa (.obj S.length))) (S++[.exc C fs])))
 |some false=>r C fs ρ S
 |none=>.bad
def Bk(K:aP)(D:aj)(sub:aj->Option Bool):Prop:=∀C b,sub C=aa b->∃bm,nX K C=aa bm/\(aO C::bm).contains (.ref D)=b
section
variable {X:Cx}{E:XK}{x n:Str}{np pos:Pos}{b₀:cm}{kz body:List cm}{hU hs:List gf}{h₀:gf}{D:aj}{xw:List af}{sub:aj->Option Bool}{ds fb:DS}{fr fh:DH}{i:Nat}{js:List Nat}
theorem SX:PH X [] (RH E MG):=λag s σ H D ea cls a0 dx B ok vz pz nW hd h=>by
 obtain⟨_,_,_,_,_,_,_,_,_,p⟩:=h;exact p.elim
theorem SY{t t':vy}(h:PH X hs t)(w:∀cls dx ea D σ H,t' cls dx ea D σ H->t cls dx ea D σ H):PH X hs t':=λag s σ H D ea cls a0 dx B ok vz pz nW hd q=>h ag s σ H D ea cls a0 dx B ok vz pz nW hd (w _ _ _ _ _ _ q)
theorem S7(hg:Gl X x)(hm:X.mg x=aa (.ref D))(qD:nX X.K D=aa xw)(sk:Bk X.K D sub)(hs:∀ea,j9 (X.gO ea) (b₀::kz) (RS E0 ds))(hr:PH X hU (RH E fr))(i8:(x==("__debug__" : Str))=false:=by decide) :
  PH X (.ExceptHandler (aa (.Name x np)) ae (b₀::kz) pos::hU) (RH E (Bj sub ds fr)):=SY (Zh hg hm qD hs hr i8) λcls dx ea En σ H h=>by
 obtain⟨C,fs,W,S,ρ,rfl,r,xo,env,p⟩:=h;unfold Bj at p;cases e:sub C with
 |none=>rw[e] at p;exact p.elim
 | some b=>
   obtain⟨bm,q1,q2⟩:=sk C b e;rw[e] at p;refine⟨C,bm,rfl,q1,?_⟩;rw[q2];cases b with
   |true=>rw[if_pos rfl];exact⟨W,S,ρ,r,env,bu.mx p⟩
   |false=>rw[if_neg (by decide)];exact⟨C,fs,W,S,ρ,rfl,r,xo,env,p⟩
theorem MH(hN:X.N.Nodup)(hi:X.N[i]?=aa n)(hx:X.env.scope.names.lookup n=aa .local)(hg:Gl X x)(hm:X.mg x=aa (.ref D))(qD:nX X.K D=aa xw)(sk:Bk X.K D sub)(hs:∀ea,j9 (X.gO ea) (b₀::kz) (RS E0 ds))(hr:PH X hU (RH E fr))
  (hk:∀u:V,X.kn[i]?≠aa (aa u):=by exact λu h=>nomatch (show(ae:Option (Option V))=aa (aa u) from h)) (i8:(x==("__debug__" : Str))=false:=by decide) :
  PH X (.ExceptHandler (aa (.Name x np)) (aa n) (b₀::kz) pos::hU) (RH E (xV sub i ds fr)):=SY (Z7 hg hm qD hN hi hx hk hs hr i8) λcls dx ea En σ H h=>by
 obtain⟨C,fs,W,S,ρ,rfl,r,xo,env,p⟩:=h;unfold xV at p;cases e:sub C with
 |none=>rw[e] at p;exact p.elim
 | some b=>
   obtain⟨bm,q1,q2⟩:=sk C b e;rw[e] at p;refine⟨C,bm,rfl,q1,?_⟩;rw[q2];cases b with
   |false=>rw[if_neg (by decide)];exact⟨C,fs,W,S,ρ,rfl,r,xo,env,p⟩
   | true=>
     rw[if_pos rfl];intro he;obtain⟨W1,l1,r1,m1,n1⟩:=r.Bi (C:=C) he xo;refine⟨W1,_,_,r1,(env.mono l1).set (mO.mpr ⟨by rw[m1],n1⟩) i,?_⟩
     revert p
     cases ds (ρ.set i (aa (.obj S.length))) (S++[.exc C fs]) with
     |bad=>exact λp=>p.elim
     |exc _ _ _=>exact λp=>p.elim
     | ok y S2=>
       cases y with
       |nx ρ2=>exact λp W2 H2 l2 r2 σ2 e2=>p W2 H2 (l1.trans l2) r2 _ (e2.unset i)
       |bk ρ2=>exact λp W2 H2 l2 r2 σ2 e2=>p W2 H2 (l1.trans l2) r2 _ (e2.unset i)
       |ct ρ2=>exact λp W2 H2 l2 r2 σ2 e2=>p W2 H2 (l1.trans l2) r2 _ (e2.unset i)
       |rt t=>exact λp W2 H2 l2 r2=>p W2 H2 (l1.trans l2) r2
theorem S8(hb:∀(pn:List (aj×Obj)) (kn:St) (xe:af->ar->Prop) (R:XK),(∀j∈js,∀u:V,kn[j]?≠aa (aa u))->oS (ee X.prog X.w) (X.ky pn kn xe) R->jd (aK X.prog X.w) X.A X.env xe->j9 (X.ky pn kn xe) body (RS R fb))
  (hh:PH X (h₀::hs) (RH E fh)) (h0:X.kn=[]:=by rfl) (dI:X.stack=X.env::X.outer:=by rfl) (Li:X.env.frame=aa X.env.locals:=by rfl) :
  PS X (.Try body (h₀::hs) [] [] pos) (RS E (su fb js fh)):=rz (Zi hh dI Li) λD σ H h=>by
 obtain⟨W,S,ρ,r,env,p⟩:=h;refine⟨qt js σ,λcls dx H'=>∃C fs W' S',cls=.ref C/\W.le W'/\cK W' S' H'/\HG W' H' dx fs/\bu E W' (QF D) (fh C fs (qt js ρ) S'),RS _ fb,SV js σ,λi v e=>ME js σ e,λi v e=>by rw[h0] at e;simp at e,
  λpn xe AK own=>hb pn _ xe _ (λj hj u=>SW js σ hj u) AK own,⟨W,S,ρ,r,env,?_⟩,λcls dx ea H' q=>?_⟩
 .unfold su at p
  revert p
  cases fb ρ S with
  |ok y S2=>exact λp=>p
  |bad=>exact λp=>p.elim
  | exc C fs S2=>
    intro p W2 H2 dx l2 r2 x2;refine⟨C,fs,W2,S2,rfl,l2,r2,x2,?_⟩
    revert p
    show bu E W (QF D) (fh C fs (qt js ρ) S2)->_;cases fh C fs (qt js ρ) S2 with
    |ok y S3=>exact λp W3 H3 l3 r3=>p W3 H3 (l2.trans l3) r3
    |exc _ _ _=>exact λp W3 H3 dx l3 r3=>p W3 H3 dx (l2.trans l3) r3
    |bad=>exact λp=>p
 .obtain⟨C,fs,W',S',rfl,l,r',x',p'⟩:=q
  exact⟨C,fs,W',S',_,rfl,r',x',(env.mono l).qt js,p'⟩
end
end MF
namespace MF
open PySem PySem.Spec PyProof.Rows L2
def Ij(qu:Bool)(x y:V):Prop:=∃a,x=.str a/\(cD a).length<=1000/\(qu=true->∃b,y=.str b/\(cD b).length<=1000)
def xW(C:aj)(f g:Str)(qu:Bool):Sp:=λvs H Q _=>∃e x y,vs=[.ref e,x,y]/\H e=aa (iI e C ae)/\Ij qu x y/\f≠g/\∀d,H d=ae->Q .bY (upd (upd H e (iI e C (aa d))) d (.xd [(f,x),(g,y)]))
section
variable {P:aX}{w:bB}{K:aP}{mg:Str->Option af}{base:bO}
theorem z2j{qual:Str}{st:cm}{dV:af}{C fI:aj}{fd:bI}{p1 p2 f g:Str}{k:Nat}{qu:Bool}{tm:TE}(F:dr K "__init__" qual st dV fI fd)(S:iw ["self",p1,p2] ["self",p1,p2] (e_ st))
  (hx:rX K C) (q:pB K C fI=true) (nf:d_ K (.ref C) f=aa ae) (ng:d_ K (.ref C) g=aa ae)
  (lD:∀(gE:af) (A:cf) (outer:List Env) (s:ar) (H:Hp) (E:XK),d7 k (A.deeper (iC qual (e_ st) s.heap.objs.size fI gE)) ->
   j9 (fP (ee P w) P w K mg base ["self",p1,p2] qual (e_ st) fI gE A outer s H E) (nV st) (vi (Kg (LI K (Ct (lC 0) (Ct tm tU)))) (vi (HC K (lC 0) (lC 1) f) (HC K (lC 0) (lC 2) g))))
  (Bl:∀(e:aj) (x y:V) (H:Hp) (Q:VK),Ij qu x y->(∀m,Q (.str m) H)->tm [aa (.ref e),aa x,aa y] H Q) :
  bW P w K mg base (ee P w) (k+1) fI fd ["self",p1,p2] (xW C f g qu):=by
 refine F.Lm S (λvs H Q E h=>?_) λgE A outer s H vs Q E hr h=>⟨_,lD gE A outer s H E hr,?_⟩
 .obtain⟨e,x,y,rfl,_⟩:=h;rfl
 .obtain⟨e,x,y,rfl,he,ok,fg,h⟩:=h
  refine⟨.ref e,rfl,Bl e x y H _ ok λm=>?_⟩;refine⟨e,.str m,C,fI,ae,rfl,he,q,?_⟩;refine⟨x,rfl,.ref e,rfl,e,C,rfl,hx,nf,.inl ⟨he,λd hd=>?_⟩⟩;have de:d≠e:=λz=>by rw[z,he] at hd;cases hd
  refine⟨y,rfl,.ref e,rfl,e,C,rfl,hx,ng,.inr ⟨d,[(f,x)],?_,fE,(show 1<1000 by decide),?_⟩⟩
  .rw[c4 (bZ de),fE]
  .show Q .bY _
   rw[WE,show iu g y [(f,x)]=[(f,x),(g,y)] from by unfold iu;rw[if_neg fg];rfl];exact h d hd
end
def Ik:T->Bool
 |.str b=>decide ((cD b).length<=1000)
 |_=>false
def Fc(qu:Bool)(x y:T):Bool:=Ik x&&(!qu || Ik y)
theorem S9{W:Wd}{x:T}{u:V}(h:Ik x=true)(d:cy W x u):∃a,u=.str a/\(cD a).length<=1000:=by
 cases x with
 |str a=>exact⟨a,lP.mp d,of_decide_eq_true h⟩
 |_=>cases h
def MI(C:aj)(f g:Str)(qu:Bool)(fr:DA):DS:=fun ρ=>(fr ρ).bind λts=>λS=>match ts with
 |[x,y]=>if Fc qu x y=true then .exc C (aa [(f,x),(g,y)]) S else .bad
 |_=>.bad
theorem z54{W:Wd}{qu:Bool}{x y:T}{u v:V}(h:Fc qu x y=true)(dx:cy W x u)(dy:cy W y v):Ij qu u v:=by
 unfold Fc at h;rw[b8] at h;obtain⟨a,e1,e2⟩:=S9 h.1 dx;refine⟨a,e1,e2,λt=>S9 ?_ dy⟩;have h2:=h.2;rw[t] at h2;simpa using h2
section
variable {X:Cx}{E:XK}{k:Nat}{C fI:aj}{fd:bI}{ps:List Str}{f g y:Str}{qu:Bool}{np c6 pos:Pos}{e:bo}{es:List bo}{fr:DA}{fa:DE}
theorem z2k(hx:HD X E)(hc:X.calm=true)(fg:f≠g)(q:pB X.K C fI=true)(hf:fZ X.K (.ref fI)=true)(F:bW X.prog X.w X.K X.mg X.base (ee X.prog X.w) k fI fd ps (xW C f g qu))(hr:d7 (k+1) X.A)(hb:mK X.K fd ps [])
  (hg:Gl X y) (hm:X.mg y=aa (.ref C)) (ha:PA X (e::es) (RA E fr))
  (i8:(y==("__debug__" : Str))=false:=by decide) (he:av (e::es) X.env=(false,eval e X.env)::av es X.env:=by rfl) (gm:(bJ c6 (av es X.env)).any (·.1)=false:=by rfl) :
  PS X (.Raise (aa (.Call (.Name y np) (e::es) [] c6)) ae pos) (RS E (MI C f g qu fr)):=rz (Rx hx Ie hc q hf F hr hb hg hm ha i8 he gm) λD σ H h=>by
 obtain⟨W,S,ρ,rp,env,p⟩:=h;refine⟨W,S,ρ,rp,env,(bu.bind p).imp λts W1 S1 H1 l1 r1 p1 vs dv=>?_⟩
 split at p1
 case h_2=>exact p1.elim
 case h_1 tx ty=>
  split at p1
  case isFalse=>exact p1.elim
  case isTrue ok=>
   obtain⟨u,r0,rfl,du,d0⟩:=m3.mp dv;obtain⟨v,r1',rfl,S_,d1⟩:=m3.mp d0;obtain rfl:=nE.mp d1;refine⟨by show 2<=sizeLine;rw[dB];omega,λea CB=>⟨ea,u,v,rfl,fE,z54 ok du S_,fg,λd hd=>⟨rfl,aa d,?_,?_⟩⟩⟩
   .have ne:ea≠d:=λz=>by rw[z,fE] at hd;cases hd
    rw[c4 ne,fE]
   .have ne:d≠ea:=λz=>by rw[z,fE] at hd;cases hd
    have wI:H1 d=ae:=by rw[c4 ne] at hd;exact hd
    have MJ:t7 (upd (upd (upd H1 ea (iI ea C ae)) ea (iI ea C (aa d))) d (.xd [(f,u),(g,v)])) ea=upd H1 d (.xd [(f,u),(g,v)]):=by
     funext b;by_cases z:b=ea
     .subst z
      rw[EH,c4 (bZ ne)];exact CB.symm
     .rw[zr z]
      by_cases z2:b=d
      .subst z2;rw[fE,fE]
      .rw[c4 z2,c4 z,c4 z,c4 z2]
    rw[MJ];exact p1 W1 _ (aa d) (Wd.le.refl _) (r1.extra wI _) ⟨_,fE,r1.jj wI,⟨u,_,rfl,du,⟨v,_,rfl,S_,rfl⟩⟩⟩
def vQ(C:aj)(f:Str)(t:T):M T:=λS=>match t with
 | .obj k=>(match S[k]? with
   | some (.exc D (aa fs))=>if D=C then(match fs.lookup f with
     |some t=>.ok t S
     |none=>.bad) else .bad
   |_=>.bad)
 |_=>.bad
theorem Ta (hX:t8 X.K C) (hn:d_ X.K (.ref C) f=aa ae) (he:PE X e (RE E fa)) (hb:bU e f X.env (eval e X.env)=eval e X.env:=by rfl):PE X (.Attribute e f pos) (RE E (e1 (vQ C f) fa)):=
 iJ (Z8 he hb) fun σ H Q h=>qM (r:=λx H1 Q=>∃a C d fs v,x=.ref a/\H1 a=aa (oj a C (aa d))/\t8 X.K C/\d_ X.K (.ref C) f=aa ae/\H1 d=aa (.xd fs)/\fs.lookup f=aa v/\Q v H1) (λt W S H v Q r d p=>by
  unfold vQ at p
  split at p
  case h_2=>exact p.elim
  case h_1 k=>
   split at p
   case h_2=>exact p.elim
   case h_1 D fs ec=>
    split at p
    case isFalse=>exact p.elim
    case isTrue eD=>
     subst eD
     split at p
     case h_2=>exact p.elim
     case h_1 t el=>
      obtain⟨rfl,hk⟩:=mO.mp d;obtain⟨⟨dx,h1,h2⟩,_⟩:=r.cell k _ ec;cases dx with
      |none=>exact h2.elim
      | some d0=>
        obtain⟨ks,g1,g2⟩:=h2;obtain⟨v,lv,dv⟩:=(eS.look g2).1 t el;exact⟨_,_,d0,ks,v,rfl,h1,hX,hn,(r.prv d0 _ g1).1,lv,now p r dv⟩) h
end
end MF
namespace MF
open PySem L2
def Wd.zD(W:Wd)(a:aj):Wd:=⟨W.HS,W.μ,W.n,λb=>if b=a then ae else W.Z b,W.P⟩
section
variable {W:Wd}{S:bx}{H:Hp}
theorem cK.lock(r:cK W S H){k:Nat}{kvs:List (b9×T)}(h:S[k]?=aa (.dic kvs))(o:Obj):∃ks,H (W.μ k)=aa (.dK ks)/\bP W kvs ks /\
  cK (W.zed (W.μ k) (o,.dK ks)) (S.set k (.lck kvs)) (upd H (W.μ k) (.dY o (.dK ks)))/\W.le (W.zed (W.μ k) (o,.dK ks)):=by
 obtain⟨⟨ks,h1,h2⟩,h3⟩:=r.cell k _ h;have hk:=r.lt h;have zn:W.Z (W.μ k)=ae:=r.HH h (by intro _ z;cases z);have l:W.le (W.zed (W.μ k) (o,.dK ks)):=⟨λ_ _ e=>e,λb q e=>by
  show(if b=W.μ k then aa (o,HO.dK ks) else W.Z b)=aa q;by_cases z:b=W.μ k
  .rw[z,zn] at e;cases e
  .rw[if_neg z];exact e,λ_ _ e=>e,az _,λ_ _=>rfl⟩
 refine⟨ks,h1,h2,⟨λb w e=>?_,?_,λj c e=>?_,r.inj,λb q e=>?_,λb w e=>?_⟩,l⟩
 .have ne:b≠W.μ k:=λz=>by rw[z] at e;rw[show(W.zed (W.μ k) (o,HO.dK ks)).HS=W.HS from rfl,h3] at e;cases e
  exact⟨(r.sub b w e).1.at (c4 ne),(r.sub b w e).2⟩
 .rw[dW];exact r.len
 .by_cases z:k=j
  .subst z
   have:c=.lck kvs:=by
    rw[cY (by rw[r.len];exact hk)] at e;exact(bg e).symm
   subst this;exact⟨⟨o,ks,fE,bP.mono l _ _ h2⟩,h3⟩
  .rw[cn z] at e
   have hj:=r.lt e;have ne:W.μ j≠W.μ k:=λq=>z (r.inj _ _ hk hj q.symm);exact⟨((r.cell j c e).1.at (c4 ne)).mono l,(r.cell j c e).2⟩
 .have e:(if b=W.μ k then aa (o,HO.dK ks) else W.Z b)=aa q:=e
  by_cases z:b=W.μ k
  .rw[if_pos z] at e
   cases e;subst z;exact fE
  .rw[if_neg z] at e
   rw[c4 z];exact r.zed b q e
 .obtain⟨g1,g2,g3⟩:=r.prv b w e
  have ne:b≠W.μ k:=λz=>g3 k hk z.symm;exact⟨by rw[c4 ne];exact g1,g2,g3⟩
theorem kA.zD{a b:aj}:∀{c:bA},kA W H b c->kA (W.zD a) H b c:=λ{c} h=>kA.hs (W:=W) (W':=W.zD a) rfl rfl rfl (λ_ _ e=>e) h
theorem cK.unlock(r:cK W S H){k:Nat}{kvs:List (b9×T)}{o:Obj}{ks:List (b9×V)}(h:S[k]?=aa (.lck kvs))(hz:H (W.μ k)=aa (.dY o (.dK ks))) :
  cK (W.zD (W.μ k)) (S.set k (.dic kvs)) (upd H (W.μ k) (.dK ks)):=by
 obtain⟨⟨o',MD,h1,h2⟩,h3⟩:=r.cell k _ h;rw[hz] at h1;cases h1;have hk:=r.lt h;refine⟨λb w e=>?_,?_,λj c e=>?_,r.inj,λb q e=>?_,λb w e=>?_⟩
 .have ne:b≠W.μ k:=λz=>by rw[z] at e;rw[show(W.zD (W.μ k)).HS=W.HS from rfl,h3] at e;cases e
  exact⟨(r.sub b w e).1.at (c4 ne),(r.sub b w e).2⟩
 .rw[dW];exact r.len
 .by_cases z:k=j
  .subst z
   have:c=.dic kvs:=by
    rw[cY (by rw[r.len];exact hk)] at e;exact(bg e).symm
   subst this;exact⟨⟨ks,fE,bP.hs (W:=W) (W':=W.zD _) rfl rfl rfl _ _ h2⟩,h3⟩
  .rw[cn z] at e
   have hj:=r.lt e;have ne:W.μ j≠W.μ k:=λq=>z (r.inj _ _ hk hj q.symm);exact⟨((r.cell j c e).1.at (c4 ne)).zD,(r.cell j c e).2⟩
 .have e:(if b=W.μ k then ae else W.Z b)=aa q:=e
  by_cases z:b=W.μ k
  .rw[if_pos z] at e;cases e
  .rw[if_neg z] at e
   rw[c4 z];exact r.zed b q e
 .obtain⟨g1,g2,g3⟩:=r.prv b w e
  have ne:b≠W.μ k:=λz=>g3 k hk z.symm;exact⟨by rw[c4 ne];exact g1,g2,g3⟩
theorem z9m{W1 W4:Wd}{a:aj}(zn:W1.Z a=ae)(l:W1.le W4):W1.le (W4.zD a):=⟨l.hs,λb q e=>by
 show(if b=a then ae else W4.Z b)=aa q;rw[if_neg (λz=>by rw[z,zn] at e;cases e)];exact l.z b q e,l.p,l.n,l.μ⟩
def ow(kvs:List (b9×T)):List T:=kvs.map λp=>.tup [kT p.1,p.2]
def xX(kvs:List (b9×T)):List T:=kvs.map λp=>kT p.1
theorem bP.at'{W:Wd}:∀{kvs:List (b9×T)} {ks:List (b9×V)} {i:Nat} {k:b9} {v:V},bP W kvs ks->ks[i]?=aa (k,v)->∃t,kvs[i]?=aa (k,t)/\cy W t v
 |[],ks,_,_,_,h,e=>by rw[rq.mp h] at e;simp at e
 | (k0,t0)::kvs,ks,i,k,v,h,e=>by
   obtain⟨v0,r,rfl,h1,h2⟩:=r_.mp h;cases i with
   |zero=>simp at e;obtain⟨rfl,rfl⟩:=e;exact⟨t0,rfl,h1⟩
   | succ i=>
     obtain⟨t,e1,e2⟩:=bP.at' (i:=i) h2 (by simpa using e);exact⟨t,by simpa using e1,e2⟩
theorem z2l{a:aj}{o:Obj}{kvs:List (b9×T)}{ks:List (b9×V)}(hz:W.Z a=aa (o,.dK ks))(d:bP W kvs ks):sg W (ow kvs) (λ_=>True) (AN a o ks):=⟨λi W' S' H' l r' _ hi=>by
 have h2:=r'.zed a _ (l.z a _ hz);rw[ow,aN,d.length] at hi;refine⟨⟨h2,hi⟩,λx oV y=>?_⟩;obtain⟨p,k,v,e1,hp,rfl,rfl⟩:=y;obtain⟨t,e2,d2⟩:=d.at' e1;have l2:W'.le (W'.dY p (.tup [kV k,v])):=Wd.kO (r'.jj hp);exact⟨W'.dY p (.tup [kV k,v]),.tup [kT k,t],l2,r'.dY hp _ trivial,by rw[ow,bH,e2];rfl,s_.mpr ⟨p,_,rfl,fE,aZ.eJ (R6 k) (aZ.eJ (cy.mono (l.trans l2) _ _ d2) aZ.fR)⟩⟩,λi W' S' H' l r' _ hi=>by
 have h2:=r'.zed a _ (l.z a _ hz);rw[ow,aN,d.length] at hi;exact⟨h2,gJ hi.symm⟩⟩
end
open Classical in
def Bm{α:Type}(k:Nat)(kvs:List (b9×T)):R α->R α
 |.ok a S=>if S[k]?=aa (.lck kvs) then .ok a (S.set k (.dic kvs)) else .bad
 |_=>.bad
open Classical in
def qS(k:Nat)(kvs:List (b9×T)):R Fl->R Fl
 |.ok (.nx ρ) S=>if S[k]?=aa (.lck kvs) then .ok (.nx ρ) (S.set k (.dic kvs)) else .bad
 |.ok (.rt t) S=>if S[k]?=aa (.lck kvs) then .ok (.rt t) (S.set k (.dic kvs)) else .bad
 |_=>.bad
def Fd(f:List (b9×T)->List T)(nt:Nat)(js:List Nat)(fd:DE)(g:DG)(tc:DT)(te:DE)(fO:List T->M T):DE:=fun ρ=>(fd ρ).bind λt=>λS=>match t with
 | .obj k=>(match S[k]? with
   |some (.dic kvs)=>Bm k kvs (M.bind (rC (nH (λ_=>True) g tc te (f kvs) (aT nt ae++js.map λj=>(ρ[j]?).join) [])) fO (S.set k (.lck kvs)))
   |_=>.bad)
 |_=>.bad
def xY(f:List (b9×T)->List T)(fd:DE)(g:DG)(fb:DS):DS:=fun ρ=>(fd ρ).bind λt=>λS=>match t with
 | .obj k=>(match S[k]? with
   |some (.dic kvs)=>qS k kvs (dz (λ_=>True) g fb (f kvs) ρ (S.set k (.lck kvs)))
   |_=>.bad)
 |_=>.bad
def iW(X:Cx)(J:aj->Obj->List (b9×V)->It)(te:TE):TI:=fun σ H R=>te σ H λx H1=>∃a kvs,x=.ref a /\
 ((H1 a=aa (.dK kvs)/\∀o,(∀o' u,X.H₀ a≠aa (.dY o' u))->R (J a o kvs) (upd H1 a (.dY o (.dK kvs))))\/∃o,H1 a=aa (.dY o (.dK kvs))/\R (J a o kvs) H1)
def Il(f:List (b9×T)->List T)(J:aj->Obj->List (b9×V)->It):Prop:=∀{W:Wd} {a:aj} {o:Obj} {kvs:List (b9×T)} {ks:List (b9×V)},W.Z a=aa (o,.dK ks)->bP W kvs ks->sg W (f kvs) (λ_=>True) (J a o ks)
theorem Tb:Il ow AN:=λhz d=>z2l hz d
theorem z9n:Il xX AO:=λhz d=>Mc hz d
section
variable {X:Cx}{E:XK}{f:List (b9×T)->List T}{J:aj->Obj->List (b9×V)->It}{fd:DE}{gl:TG}{g:DG}{tc:DT}{A_:TT}{te:DE}{fb:DS}{fO:List T->M T}{nt:Nat}{js:List Nat}
theorem MK{W1 W2 W4:Wd}{S4:bx}{H4:Hp}{k:Nat}{kvs:List (b9×T)}{ks:List (b9×V)}{o:Obj}(r1n:k<W1.n)(zn:W1.Z (W1.μ k)=ae)(l12:W1.le W2)(hz:W2.Z (W1.μ k)=aa (o,.dK ks))(nf:∀o' u,X.H₀ (W1.μ k)≠aa (.dY o' u))(zE:W2.le W4)(r4:cK W4 S4 H4)(e4:S4[k]?=aa (.lck kvs)){Rr:Hp->Prop}
  (h:∀W',W1.le W'->(W'.HS=W4.HS/\W'.μ=W4.μ/\W'.n=W4.n)->∀H',cK W' (S4.set k (.dic kvs)) H'->Rr H'):Th X H4 Rr:=by
 have Tc:=l12.trans zE;have e:=Tc.μ k r1n;have z4:=r4.zed _ _ (zE.z _ _ hz);refine⟨W1.μ k,o,ks,z4,nf,?_⟩;have hu:=r4.unlock e4 (by rw[e];exact z4);rw[e] at hu;exact h _ (z9m zn Tc) ⟨rfl,rfl,rfl⟩ _ hu
open Classical in
theorem z2m(hJ:Il f J)(hG:GT gl g)(Ba:∀σ H Q,RT E0 tc σ H Q->A_ σ H Q)(hf:xQ E fO){σ:St}{H:Hp}{Q:VK}(h:RE E (Fd f nt js fd g tc te fO) σ H Q):AQ nt js (iW X J (RE E fd)) gl A_ (RE E0 te) σ H (λv H'=>Th X H' λoV=>Q v oV):=by
 obtain⟨W,S,ρ,rp,env,p⟩:=h;refine⟨W,S,ρ,rp,env,(bu.bind p).imp λt W1 S1 H1 l1 r1 p1 v dv=>?_⟩;cases t with
 | obj k=>
   obtain⟨rfl,hk⟩:=mO.mp dv;simp only at p1
   split at p1
   case h_2=>exact p1.elim
   case h_1 kvs ek=>
    obtain⟨⟨ks,g1,g2⟩,_⟩:=r1.cell k _ ek;refine⟨W1.μ k,ks,rfl,.inl ⟨g1,λo nf=>?_⟩⟩;obtain⟨MD,Bn,g2',r2,l2⟩:=r1.lock ek o;rw[g1] at Bn;cases Bn;have zn:W1.Z (W1.μ k)=ae:=r1.HH ek (by intro _ z;cases z);have hz:(W1.zed (W1.μ k) (o,.dK ks)).Z (W1.μ k)=aa (o,.dK ks):=by show(if W1.μ k=W1.μ k then aa (o,HO.dK ks) else _)=_;rw[if_pos rfl]
    refine Sh (PF:=λus S3=>bu E W1 (QV Q) (Bm k kvs (fO us S3))) hG Ba r2 ((env.mono l1).mono l2) (hJ hz (bP.mono l2 _ _ g2)) (λacc us W3 S3 H3 a hp r3 qR l3 p4=>?_) ?_
    .refine hf acc us _ W3 S3 H3 a (λv H'=>Th X H' λoV=>Q v oV) l3 hp r3 qR ?_
     revert p4
     cases fO us S3 with
     |bad=>exact λz=>z
     |exc _ _ _=>exact λz=>z.elim
     | ok t S4=>
       intro p4 W4 H4 l4 r4 v4 d4;have p4:bu E W1 (QV Q) (if S4[k]?=aa (.lck kvs) then .ok t (S4.set k (.dic kvs)) else .bad):=p4
       split at p4
       case isFalse=>exact p4.elim
       case isTrue e4=>exact MK hk zn l2 hz nf l4 r4 e4 λW' l' ⟨q1,q2,q3⟩ H' r'=>p4 W' H' l' r' v4 (cy.hs q1 q2 q3 _ _ d4)
    .revert p1
     show bu E W1 (QV Q) (Bm k kvs (M.bind (rC (nH (λ_=>True) g tc te (f kvs) (aT nt ae++js.map λj=>(ρ[j]?).join) [])) fO (S1.set k (.lck kvs))))->_;unfold M.bind rC;cases nH (λ_=>True) g tc te (f kvs) (aT nt ae++js.map λj=>(ρ[j]?).join) [] (S1.set k (.lck kvs)) with
     |bad=>exact λz=>z
     |exc _ _ _=>exact λz=>z.elim
     |ok us S3=>exact λz W' H' _ _=>z
 |_=>exact p1.elim
open Classical in
theorem Td (hJ:Il f J) (hG:GT gl g) {D:Ends} {σ:St} {H:Hp} (h:RS E (xY f fd g fb) D σ H):Aq (iW X J (RE E fd)) gl (RS E fb) { D with nx:=fun σ' H'=>Th X H' λoV=>D.nx σ' oV,rt:=λv H'=>Th X H' λoV=>D.rt v oV } σ H:=by
 obtain⟨W,S,ρ,rp,env,p⟩:=h;refine⟨W,S,ρ,rp,env,(bu.bind p).imp λt W1 S1 H1 l1 r1 p1 v dv=>?_⟩;cases t with
 | obj k=>
   obtain⟨rfl,hk⟩:=mO.mp dv;simp only at p1
   split at p1
   case h_2=>exact p1.elim
   case h_1 kvs ek=>
    obtain⟨⟨ks,g1,g2⟩,_⟩:=r1.cell k _ ek;refine⟨W1.μ k,ks,rfl,.inl ⟨g1,λo nf=>?_⟩⟩;obtain⟨MD,Bn,g2',r2,l2⟩:=r1.lock ek o;rw[g1] at Bn;cases Bn;have zn:W1.Z (W1.μ k)=ae:=r1.HH ek (by intro _ z;cases z);have hz:(W1.zed (W1.μ k) (o,.dK ks)).Z (W1.μ k)=aa (o,.dK ks):=by show(if W1.μ k=W1.μ k then aa (o,HO.dK ks) else _)=_;rw[if_pos rfl]
    refine Se hG r2 ((env.mono l1).mono l2) (hJ hz (bP.mono l2 _ _ g2)) ?_
    revert p1
    show bu E W1 (QF D) (qS k kvs (dz (λ_=>True) g fb (f kvs) ρ (S1.set k (.lck kvs))))->_;cases dz (λ_=>True) g fb (f kvs) ρ (S1.set k (.lck kvs)) with
    |bad=>exact λz=>z
    |exc _ _ _=>exact λz=>z.elim
    | ok x S4=>
      cases x with
      |bk _=>exact λz=>z.elim
      |ct _=>exact λz=>z.elim
      | nx ρ4=>
        intro p4 W4 H4 l4 r4 σ4 d4;have p4:bu E W1 (QF D) (if S4[k]?=aa (.lck kvs) then .ok (.nx ρ4) (S4.set k (.dic kvs)) else .bad):=p4
        split at p4
        case isFalse=>exact p4.elim
        case isTrue e4=>exact MK hk zn l2 hz nf l4 r4 e4 λW' l' ⟨q1,q2,q3⟩ H' r'=>p4 W' H' l' r' σ4 (fK.hs q1 q2 q3 d4)
      | rt t4=>
        intro p4 W4 H4 l4 r4 v4 d4;have p4:bu E W1 (QF D) (if S4[k]?=aa (.lck kvs) then .ok (.rt t4) (S4.set k (.dic kvs)) else .bad):=p4
        split at p4
        case isFalse=>exact p4.elim
        case isTrue e4=>exact MK hk zn l2 hz nf l4 r4 e4 λW' l' ⟨q1,q2,q3⟩ H' r'=>p4 W' H' l' r' v4 (cy.hs q1 q2 q3 _ _ d4)
 |_=>exact p1.elim
end
section
variable {X:Cx}{E:XK}{jz iter c tg d:bo}{fd:DE}{gl:TG}{g:DG}{tc:DT}{te:DE}{fO:List T->M T}{js:List Nat}{scope:ig}{cl:List (Str×aj)}{nts xs:List Str}{pos cC c6:Pos}{pA:List bo}{kk:Nat}{tp:Pos}{body:List cm}{fb:DS}
theorem z55(hc:X.calm=true)(C:uM X scope cl nts xs js)(hd:PE X d (RE E fd))(hg:∀fp s3 H2,PG (iN X scope cl (nts++xs) fp s3 H2) (.Tuple pA kk tp) gl)(hG:GT gl g)(ht:∀fp s3 H2,PT (iN X scope cl (nts++xs) fp s3 H2) c (RT E0 tc))(he:∀fp s3 H2,PE (iN X scope cl (nts++xs) fp s3 H2) jz (RE E0 te))(hf:xQ E fO)
  (eQ:bU d "items" X.env (eval d X.env)=eval d X.env:=by rfl) (eR:(cC.endLine==c6.line)=true:=by rfl)
  (hs:∀x,cg (.Call (.Attribute d "items" cC) [] [] c6) X.env x=pure x:=by intro _;rfl):PE X (.ListComp jz [⟨.Tuple pA kk tp,.Call (.Attribute d "items" cC) [] [] c6,[c],0⟩] scope pos) (RE E (Fd ow nts.length js fd g tc te fO)):=
 iJ (Zr (Rg hc C (Q7 hd eQ eR) hg ht he hs)) fun σ H Q h=>z2m (X:=X) Tb hG (fun σ H Q h=>h) hf h
theorem z9o(hp:jd (aK X.prog X.w) X.A X.env X.xe)(hc:X.calm=true)(hd:PE X d (RE E fd))(hg:PG X (.Tuple pA kk tp) gl)(hG:GT gl g)(hb:j9 X body (RS E fb))
  (eQ:bU d "items" X.env (eval d X.env)=eval d X.env:=by rfl) (eR:(cC.endLine==c6.line)=true:=by rfl)
  (hs:∀x,cg (.Call (.Attribute d "items" cC) [] [] c6) X.env x=pure x:=by intro _;rfl):PS X (.For (.Tuple pA kk tp) (.Call (.Attribute d "items" cC) [] [] c6) body [] pos) (RS E (xY ow fd g fb)):=
 rz (Q8 (Kl hp hc (Q7 hd eQ eR) hg hb hs)) λD σ H h=>Td (X:=X) Tb hG h
theorem z9p(hp:jd (aK X.prog X.w) X.A X.env X.xe)(hc:X.calm=true)(hd:PE X d (RE E fd))(hg:PG X tg gl)(hG:GT gl g)(hb:j9 X body (RS E fb))
  (hs:∀x,cg d X.env x=pure x:=by intro _;rfl):PS X (.For tg d body [] pos) (RS E (xY xX fd g fb)):=
 rz (Q8 (Kl hp hc (Lo hd) hg hb hs)) λD σ H h=>Td (X:=X) z9n hG h
end
def Bo(fk fv:DE):DE:=fun ρ S=>((fk ρ).bind λk=>(fv ρ).bind λv=>λS'=>match dF k,S'[S.length]? with
 |some key,aa (.dic [])=>.ok (.obj S.length) (S'.set S.length (.dic [(key,v)]))
 |_,_=>.bad) (S++[.dic []])
def ML(fd fk:DE):DE:=fun ρ=>(fd ρ).bind λd=>λS1=>if(m6 S1 d).isSome=true then((fk ρ).bind λk=>λS=>match d,dF k with
 | .obj j,aa key=>(match S[j]? with
   | some (.dic kvs)=>(match cU kvs key with
     |some v=>.ok v (S.set j (.dic (EV kvs key)))
     |none=>.bad)
   |_=>.bad)
 |_,_=>.bad) S1 else .bad
section
variable {X:Cx}{E:XK}{o e k v:bo}{fd fk fv:DE}{pos cC c6:Pos}
theorem Te(hk:PE X k (RE E fk))(hv:PE X v (RE E fv)):PE X (.Dict [aa k] [v] pos) (RE E (Bo fk fv)):=iJ (Yt (Yr hk hv Yq) rfl rfl (by simp) (by simp)) fun σ H Q h p hp=>by
 obtain⟨W,S,ρ,r,env,p0⟩:=h;have lA:W.le (W.add p):=Wd.iy;have rA:=r.m4 hp (.dic []) (.dK []) ⟨[],fE,bP.fR⟩;have p0:bu E W (QV Q) (((fk ρ).bind λk=>(fv ρ).bind λv=>λS'=>match dF k,S'[S.length]? with
  |some key,aa (.dic [])=>R.ok (T.obj S.length) (S'.set S.length (.dic [(key,v)]))
  |_,_=>.bad) (S++[.dic []])):=p0
 refine⟨W.add p,_,ρ,rA,env.mono lA,(bu.bind (EZ p0 lA)).imp λtk W1 S1 H1 l1 r1 p1 x dx=>?_⟩;refine⟨W1,S1,ρ,r1,(env.mono lA).mono l1,(bu.bind p1).imp λtv W2 S2 H2 l2 r2 p2 y dy=>?_⟩
 split at p2
 case h_2=>exact p2.elim
 case h_1 key ek es=>
  have eN:S.length=W.n:=r.len;have hn:S.length<(W.add p).n:=by rw[eN];exact dj _
  have eμ:W2.μ S.length=p:=by rw[(l1.trans l2).μ _ hn,eN,Wd.gF]
  have vm:=r2.lt es;obtain⟨⟨ks,g1,g2⟩,_⟩:=r2.cell _ _ es;obtain rfl:=rq.mp g2;rw[eμ] at g1;refine⟨g1,[(key,y)],by rw[HN dx ek];rfl,by simp,?_⟩;have e2:Cv [] [(key,y)]=[(key,y)]:=rfl;rw[e2,<- eμ];exact p2 W2 _ (Wd.le.refl _) (r2.cellSet es _ _ ⟨_,fE,bP.eJ dy bP.fR⟩) _ (mO.mpr ⟨rfl,vm⟩)
theorem z9q(ho:PE X o (RE E fd))(he:PE X e (RE E fk))(m:M1 X o "pop" cC e c6:=by exact⟨rfl,rfl,rfl,rfl⟩):PE X (.Call (.Attribute o "pop" cC) [e] [] c6) (RE E (ML fd fk)):=iJ (Yw ho he m) fun σ H Q h=>by
 obtain⟨W,S,ρ,r,env,p0⟩:=h;refine⟨W,S,ρ,r,env,(bu.bind p0).imp λd W1 S1 H1 l1 r1 p1 x dx=>?_⟩
 split at p1
 case isFalse=>exact p1.elim
 case isTrue hd=>
  obtain⟨kvs0,e0⟩:=i5.mp hd;obtain⟨a,vs,rfl,q1,_⟩:=r1.dict dx e0;refine⟨a,rfl,.inl ⟨vs,q1⟩,W1,S1,ρ,r1,env.mono l1,(bu.bind p1).imp λk W2 S2 H2 l2 r2 p2 y dy=>?_⟩;have dx:=cy.mono l2 _ _ dx
  split at p2
  case h_2=>exact p2.elim
  case h_1 key ek _=>
   split at p2
   case h_2=>exact p2.elim
   case h_1 kvs es=>
    split at p2
    case h_2=>exact p2.elim
    case h_1 t et=>
     obtain⟨ea,hj⟩:=mO.mp dx;cases ea;obtain⟨⟨ks,g1,g2⟩,_⟩:=r2.cell _ _ es;obtain⟨w,ew,dw⟩:=(g2.val key).1 t et;exact⟨ks,key,w,g1,HN dy ek,ew,p2 W2 _ (Wd.le.refl _) (r2.cellSet es _ _ ⟨_,fE,g2.drop key⟩) _ dw⟩
end
def lZ(L:List aj)(D:aj):aj->Option Bool:=λC=>if C∈L then aa (decide (C=D)) else ae
section
variable {K:aP}{h D:aj}{L:List aj}
theorem Tf(D:aj):iH.contains (.ref D)=false:=rfl
theorem MM(C D:aj):(aO C==aO D)=decide (C=D):=by
 by_cases e:C=D
 .subst e;simp
 .rw[decide_eq_false e];exact beq_eq_false_iff_ne.mpr (λz=>e (Value.ref.inj z))
theorem MN(m:∀C∈L,C≠h->nX K C=aa (.ref h::iH))(mh:nX K h=aa iH)(hD:D≠h):Bk K D (lZ L D):=λC b e=>by
 unfold lZ at e
 split at e
 case isFalse=>cases e
 case isTrue hC=>
  cases e;by_cases z:C=h
  .subst z;exact⟨_,mh,by rw[cS,Tf,MM,lO];exact decide_eq_decide.mpr ⟨za,za⟩⟩
  .refine⟨_,m C hC z,?_⟩
   rw[cS,cS,Tf,MM,MM,lO,decide_eq_false (show¬D=h from hD),lO];exact decide_eq_decide.mpr ⟨za,za⟩
end
end MF
namespace L2
open PySem PySem.Spec PyProof.Rows
section
variable {X:Cx}{ag:List (aj×Obj)}{σ:List (Option V)}{H:Hp}{s:ar}{h':bO}
theorem Inv.around{t':Nat}(I:Inv X ag σ H s)(k:∀b o,b≠X.env.locals->s.heap.get? b=aa o->h'.get? b=aa o)(hn:∀m,s.heap.Ns X.env.locals m->h'.Ns X.env.locals m):Inv X ag σ H { s with heap:=h',toks:=t' }:=by
 have nL:∀b u,H b=aa u->b≠X.env.locals:=λb u e z=>by rw[z,I.free] at e;cases e
 refine I.step (g':=s.gens) (d':=s.drawn) (ch:=[]) (λb hb=>absurd hb bK) (λb o hl _ _ e _=>k b o hl e) (λb o hl _ _ e _=>⟨o.slots,k b o hl e⟩) (λ_ _ _ _ n=>n) (λb o _ e=>?_) (λ_ _ e=>e) (λ_ _ _ e=>e) (λb ps e=>⟨#[],by rw[e];simp⟩) hn (λb u e=>?_) I.bare
 .by_cases z:b=X.env.locals
  .obtain⟨m,hm,_⟩:=I.loc
   obtain⟨o',es,ep,ho,_⟩:=hn m hm;exact⟨o',by rw[z];exact ho⟩
  .exact⟨o,k b o z e⟩
 .refine(I.cB b u e).lU (λc v hc q=>k c v ?_ q) (λ_ q=>q) λ_ _ q=>q
  rcases hc with z | z
  .rw[z];exact nL b u e
  .exact nL c _ z
theorem z9s{h:bO}{a:aj}{m m':Str->Option af}(p:h.Ns a m)(q:h.Ns a m'):m=m':=by
 obtain⟨o,es,ep,ho,hd,_,l⟩:=p;obtain⟨o',Ak,Al,wD,wF,_,l'⟩:=q;rw[ho] at wD;cases wD;rw[hd] at wF;cases wF;funext n;rw[<- l n,l' n]
theorem Im:∀{xs:List V} {us:List af} {i:Nat} {u:af},cj xs us->us[i]?=aa u->∃x,xs[i]?=aa x/\RelV x u
 |_,_,_,_,.nil,e=>by simp at e
 |_,_,0,_,.cons r _,e=>by simp at e;subst e;exact⟨_,rfl,r⟩
 | _,_,i+1,_,.cons _ t,e=>by
   obtain⟨x,e1,e2⟩:=Im (i:=i) t (by simpa using e);exact⟨x,by simpa using e1,e2⟩
theorem zzu(hc:X.calm=true):rP X (.builtin "any") (λxs H Q=>∃(a:aj) (bs:List Bool),xs=[.ref a]/\Rd H a (.lst (bs.map V.bl))/\Q (.bl (bs.any id)) H):=by
 intro ag s σ H xs us Q I r h;obtain⟨a,bs,rfl,rd,q⟩:=h;obtain⟨u,rfl,rx⟩:=Aw r;cases (show u=aO a from rx);obtain⟨z,cA,n,rv,e⟩:=rd.ok I.cB;have hl:s.heap.IsList a cA.toArray:=⟨_,e,rfl,n,rfl⟩;have c5:=rv.length;have alt:=aD e;refine call_any_walk (Dz hl ?_);have hh:X.A.in1.handled=ae:=I.ok.hd hc;refine⟨_,_,_,_,_,_,λi=>bs.getD i false,rfl,Walks.list hh s.heap.objs.size a (aS alt) cA.toArray,⟨⟨_,bj _ rfl,rfl,rfl⟩,hl.push _⟩,?_,λh' tk hk=>?_⟩
 .intro i v s' Q' E' hP hQ
  obtain⟨x,e1,e2⟩:=Im (i:=i) (u:=v) rv (by simpa using hP);rw[bH] at e1;cases e3:bs[i]? with
  |none=>rw[e3] at e1;cases e1
  | some b=>
    rw[e3] at e1;cases e1;cases (show v=dM b from e2);have:bs.getD i false=b:=by simp[xb,e3]
    have hQ:Q' (bs.getD i false) s':=hQ;rw[this] at hQ;exact gW hQ
 .have ev:(d5 cA.toArray.size).any (λi=>bs.getD i false)=bs.any id:=by
   rw[aQ,<- c5,aN,dU,fJ,fJ];constructor
   .rintro⟨i,hi,e⟩
    have hi:=gu.mp hi;refine⟨bs[i],List.getElem_mem hi,?_⟩;simpa[xb,aW hi] using e
   .rintro⟨b,hb,e⟩
    obtain⟨i,hi,rfl⟩:=lh hb;exact⟨i,gu.mpr hi,by simpa[xb,aW hi] using e⟩
  rw[ev];exact⟨.bl _,H,I.kept λb o eb=>hk b o (by simpa using aS (aD eb)) (aA _ eb),rfl,q⟩
def Bp:List V->Hp->VK->Prop:=λxs H Q=>∃(a:aj) (ys:List V) (kf:Nat->Int),xs=[.ref a]/\Rd H a (.lst ys)/\0<ys.length/\(∀(i:Nat) x,ys[i]?=aa x->∃b zs,x=.ref b/\Rd H b (.lst zs)/\kf i=(zs.length:Int)) /\
 ∀(i:Nat) x,ys[i]?=aa x->(∀j,j<ys.length->kf i<=kf j/\(j<i->kf i<kf j))->Q x H
theorem MO{H:Hp}{a:aj}{o:HO}(r:Rd H a o):∃u,H a=aa u:=by
 rcases r with r | ⟨q,r⟩
 .exact⟨_,r⟩
 .exact⟨_,r⟩
theorem zt3{xs:List V}{us:List af}{Q:VK}{E:af->ar->Prop}(hc:X.calm=true)(I:Inv X ag σ H s)(r:cj xs us)(h:Bp xs H Q) :
  wpAny (aK X.prog X.w) X.A (call (.builtin "min") us [(aG "key",.builtin "len")]) (λu s'=>∃v H',Inv X ag σ H' s'/\RelV v u/\Q v H') E s:=by
 obtain⟨a,ys,kf,rfl,rd,oi,hk,q⟩:=h;obtain⟨u,rfl,rx⟩:=Aw r;cases (show u=aO a from rx);obtain⟨z,cA,n,rv,e⟩:=rd.ok I.cB;obtain⟨m,hm,_⟩:=I.loc;have c5:=rv.length;have nL:∀b u,H b=aa u->b≠X.env.locals:=λb u e z=>by rw[z,I.free] at e;cases e
 have h0:∀b,({}:bO).get? b=ae:=by intro b;simp[Heap.get?]
 obtain⟨xZ,mem⟩:∃xZ:List (aj×Obj),∀b o,(b,o)∈xZ↔b≠X.env.locals/\s.heap.get? b=aa o:=by
  refine⟨(d5 s.heap.objs.size).filterMap λb=>if b=X.env.locals then ae else(s.heap.get? b).map λo=>(b,o),λb o=>?_⟩;rw[fX];constructor
  .rintro⟨c,_,e⟩
   by_cases z:c=X.env.locals
   .rw[if_pos z] at e;cases e
   .rw[if_neg z] at e
    cases e2:s.heap.get? c with
    |none=>rw[e2] at e;cases e
    |some o'=>rw[e2] at e;cases e;exact⟨z,e2⟩
  .rintro⟨z,e⟩
   exact⟨b,gu.mpr (aD e),by rw[if_neg z,e];rfl⟩
 have F:Fr {} X.env.locals s.heap m:=⟨hm,λb o e=>(by rw[h0] at e;cases e),dq _⟩;have N:News {} X.env.locals s.heap xZ:=λp hp=>by
  obtain⟨b,o⟩:=p;obtain⟨h1,h2⟩:=(mem b o).mp hp;exact⟨h2,h1,h0 _⟩
 obtain⟨ua,ea⟩:=MO rd;have hl:∀h,Fr {} X.env.locals h m->News {} X.env.locals h xZ->h.IsList a cA.toArray:=λh _ N'=>⟨_,(N' (a,_) ((mem a _).mpr ⟨nL a _ ea,e⟩)).1,rfl,n,rfl⟩;refine kmb_min (kid := "len") (vs:=cA) kf (I.ok.hd hc) F N hl (by rw[<- c5];exact oi) (λi v hv h tk own F' N'=>?_) (λi v h' Hy hv hb F' N'=>?_)
 .obtain⟨x,e1,e2⟩:=Im rv hv
  obtain⟨b,zs,rfl,Tg,ek⟩:=hk i x e1;cases (show v=aO b from e2);obtain⟨z2,oo,n2,rv2,eb⟩:=Tg.ok I.cB;obtain⟨ub,eub⟩:=MO Tg;have hlb:h.IsList b oo.toArray:=⟨_,(N' (b,_) (bw _ ((mem b _).mpr ⟨nL b _ eub,eb⟩))).1,rfl,n2,rfl⟩;have uO:=rv2.length;have hs:sizeLine=16777216:=dB;refine tM (s:={ s with heap:=h,toks:=tk }) hlb (by simp only[aQ];omega) ?_;have ek2:kf i=((oo.toArray.size:Nat):Int):=by rw[ek,aQ,uO]
  rw[ek2];exact KskEnd.intro F' N' λp hp=>hp
 .obtain⟨x,e1,e2⟩:=Im rv hv
  exact⟨x,H,I.around (λb o hb eb=>(N' (b,o) ((mem b o).mpr ⟨hb,eb⟩)).1) (λm' qj=>by rw[z9s qj hm];exact F'.ns),e2,q i x e1 λj hj=>hb j (by rw[<- c5];exact hj)⟩
theorem zzv{e:bo}{te:TA}{p kp Bq pos:Pos}(hc:X.calm=true)(hg:Gl X "min")(hm:X.mg "min" = ae)(MP:Gl X "len")(wM:X.mg "len" = ae)(he:PA X [e] te)
  (hb:bJ pos (av [e] X.env)=(false,eval e X.env)::bJ pos (av [] X.env):=by rfl) (gm:(bJ pos (av [e] X.env)).any (·.1)=false:=by rfl) :
  PE X (.Call (.Name "min" p) [e] [⟨aa "key",.Name "len" kp,Bq⟩] pos) (Hg Bp te):=by
 intro ag s σ H Q I h;refine fw (Cp I hg hm boot_min ?_);refine callWith_kw (dm (he pos ag s σ H _ I h) λus s1 cN=>?_) hb gm;obtain⟨vs,H1,I1,r1,q1⟩:=cN;refine kws_cons (Cp I1 MP wM boot_len (kws_nil ?_));exact zt3 hc I1 r1 q1
theorem z2n{e:bo}{te:TE}{pos:Pos}(hgd:X.A.guards=aa [])(hu:X.A.units+64<fq)(he:PE X e te):PE X (.FormattedValue e 114 ae pos) (fun σ H Q=>te σ H λv H1=>∃d a,MF.jZ H1 d v/\v=.ref a/\d.showable=true/\d.hasDict=false/\d.depth<=50/\d.shown.length<=sizeLine/\Q (.str d.shown) H1):=by
 intro ag s σ H Q I h;refine tO (dm (he ag s σ H _ I h) λv s1 cN=>?_);obtain⟨x,H1,I1,r,d,a,rd,e,hs,hd,hdep,l,q⟩:=cN;subst e;cases (show v=aO a from r);obtain⟨as,rr⟩:=MF.eT I1.cB d _ _ rd rfl;refine pyReprObj_of_reads rr hs (λz=>by rw[hd] at z;cases z) hgd (by omega) (λb o e=>e) (λh' u tk hk=>?_) l;exact JV (hsz:=l) λt' tk=>⟨.str _,H1,(I1.kept (t':=tk) hk),⟨t',rfl⟩,q⟩
end
end L2
namespace MF
open PySem L2
def zF:List T->Option (List Bool)
 |[]=>aa []
 |.bl b::ts=>(zF ts).map (b::·)
 |_::_=>ae
theorem Ti{W:Wd}:∀{ts:List T} {vs:List V} {bs:List Bool},aZ W ts vs->zF ts=aa bs->vs=bs.map V.bl
 |[],vs,ys,h,e=>by cases e;exact nE.mp h
 | t :: ts,vs,ys,h,e=>by
   obtain⟨v,r,rfl,h1,h2⟩:=m3.mp h;cases t with
   | bl x=>
     simp only[zF] at e;obtain⟨zs,e1,rfl⟩:=bc.mp e;rw[i_.mp h1,Ti h2 e1];rfl
   |_=>simp[zF] at e
def uj(t:T):M T:=λS=>match (cI S t).bind zF with
 |some bs=>.ok (.bl (bs.any id)) S
 |none=>.bad
def Io(S:bx)(ts:List T):Option (List Nat):=hW (λt=>(cI S t).map kG) ts
def Br(ls:List Nat)(i:Nat):Prop:=∃n,ls[i]?=aa n/\∀j k,ls[j]?=aa k->n<=k/\(j<i->n<k)
theorem Br.one{ls:List Nat}{i j:Nat}(a:Br ls i)(b:Br ls j):i=j:=by
 obtain⟨n,e1,h1⟩:=a;obtain⟨k,e2,h2⟩:=b;have p:=h1 j k e2;have q:=h2 i n e1;rcases Nat.lt_trichotomy i j with h | h | h
 .have:=q.2 h;omega
 .exact h
 .have:=p.2 h;omega
open Classical in
def vR(t:T):M T:=λS=>match cI S t with
 | some ts=>(match Io S ts with
   | some ls=>if h:∃i,Br ls i then(match ts[h.choose]? with
     |some u=>.ok u S
     |none=>.bad) else .bad
   |none=>.bad)
 |none=>.bad
theorem Tj{α β:Type}{f:α->Option β}:∀{l:List α} {m:List β},hW f l=aa m->l.length=m.length/\∀(i:Nat) x,l[i]?=aa x->∃y,m[i]?=aa y/\f x=aa y
 |[],m,e=>by cases e;exact⟨rfl,λi x h=>by simp at h⟩
 | a :: l,m,e=>by
   unfold hW at e;cases e1:f a with
   |none=>simp[e1] at e
   | some b=>
     cases e2:hW f l with
     |none=>simp[e1,e2] at e
     | some r=>
       simp[e1,e2] at e;subst e;obtain⟨h1,h2⟩:=Tj e2;refine⟨by simp[h1],λi x h=>?_⟩;cases i with
       |zero=>simp at h;subst h;exact⟨b,rfl,e1⟩
       |succ i=>simpa using h2 i x (by simpa using h)
theorem Tn:∀(l:List Str),lj (l.map cw)=true
 |[]=>by simp[lj]
 |a::r=>by simp[lj,wA,Tn r]
theorem To:∀(l:List Str),lT (l.map cw)=false
 |[]=>by simp[lT]
 |a::r=>by simp[lT,xc,To r]
theorem Tp:∀(l:List Str),cq (l.map cw)=0
 |[]=>by simp[cq]
 |a::r=>by simp[cq,dC,Tp r]
theorem Tq{H:Hp}:∀(l:List Str),lH H (l.map cw) (l.map V.str)
 |[]=>by simp[lH]
 | a::r=>by
   simp only[aE,lH];exact⟨_,_,rfl,by simp[jZ],Tq r⟩
section
variable {X:Cx}{E:XK}{e:bo}{fa:DE}{pos p kp Bq:Pos}
theorem Zb4(hc:X.calm=true)(gl:Gl X "any")(hm:X.mg "any" = ae)(ha:PE X e (RE E fa))
  (he:av [e] X.env=(false,eval e X.env)::av [] X.env:=by rfl) (gm:(bJ pos (av [] X.env)).any (·.1)=false:=by rfl):PE X (.Call (.Name "any" p) [e] [] pos) (RE E (e1 uj fa)):=
 L5 (zzu hc) (λt W S H v Q r d p=>by
  unfold uj at p;cases e:(cI S t).bind zF with
  |none=>rw[e] at p;exact p.elim
  | some bs=>
    rw[e] at p;obtain⟨ts,e1,e2⟩:=jg.mp e;obtain⟨a,vs,rfl,h1,h2⟩:=r.list d e1;rw[Ti h2 e2] at h1;exact⟨a,bs,rfl,h1,now p r (i_.mpr rfl)⟩) gl hm J0 ha (by decide) (by decide) he gm
theorem z2p (hc:X.calm=true) (hg:Gl X "min") (hm:X.mg "min" = ae) (MP:Gl X "len") (wM:X.mg "len" = ae) (ha:PE X e (RE E fa))
  (hs:av [e] X.env=(false,eval e X.env)::av [] X.env:=by rfl)
  (hb:bJ pos (av [e] X.env)=(false,eval e X.env)::bJ pos (av [] X.env):=by rfl) (gm:(bJ pos (av [e] X.env)).any (·.1)=false:=by rfl) :
  PE X (.Call (.Name "min" p) [e] [⟨aa "key",.Name "len" kp,Bq⟩] pos) (RE E (e1 vR fa)):=
 iJ (zzv hc hg hm MP wM (vo ha zg hs) hb gm) fun σ H Q h=>qM (r:=λx H Q=>Bp [x] H Q) (λt W S H v Q r d p=>by
  unfold vR at p;cases e1:cI S t with
  |none=>simp only[e1] at p;exact p.elim
  | some ts=>
    simp only[e1] at p;cases e2:Io S ts with
    |none=>simp only[e2] at p;exact p.elim
    | some ls=>
      simp only[e2] at p
      split at p
      case isFalse=>exact p.elim
      case isTrue hx=>
       obtain⟨a,vs,rfl,h1,h2⟩:=r.list d e1;obtain⟨l1,l2⟩:=Tj e2;have c5:=h2.length;refine⟨a,vs,λi=>((ls[i]?).getD 0:Nat),rfl,h1,?_,λi x ex=>?_,λi x ex qT=>?_⟩
       .obtain⟨i,n,en,_⟩:=hx
        have:=(ao.mp en).1;omega
       .obtain⟨tx,et,dx⟩:=h2.get' ex
        obtain⟨n,en,hn⟩:=l2 i tx et;obtain⟨us,eu,rfl⟩:=bc.mp hn;obtain⟨b,ws,rfl,g1,g2⟩:=r.list dx eu;refine⟨b,ws,rfl,g1,?_⟩;show(((ls[i]?).getD 0:Nat):Int)=_;rw[en,<- g2.length];rfl
       .obtain⟨tx,et,dx⟩:=h2.get' ex
        obtain⟨n,en,hn⟩:=l2 i tx et;have bi:Br ls i:=⟨n,en,λj k ek=>by
         have hj:j<vs.length:=by have:=(ao.mp ek).1;omega
         have:=qT j hj;simp only[en,ek,Option.getD_some] at this;omega⟩
        have ec:=Br.one hx.choose_spec bi;rw[ec,et] at p;exact now p r dx) h
end
end MF
namespace MF
open PySem L2 PyProof.Rows
open Classical in
def Tr(ys:List Str):List Str:=if h:∃zs:List Str,zs.Perm ys/\sortedS zs=true then h.choose else ys
def Zb5(t:T):M T:=λS=>match (cI S t).bind uS with
 |some ys=>if ys.length<64 then .ok (.lst ((Tr ys).map T.str)) S else .bad
 |none=>.bad
theorem Ts{W:Wd}:∀(l:List Str),aZ W (l.map T.str) (l.map V.str)
 |[]=>aZ.fR
 |a::r=>aZ.eJ (lP.mpr rfl) (Ts r)
def x8(C:aj)(f:Str):Sp:=λvs H Q _=>∃(e a:aj) (zs:List Str),vs=[.ref e,.ref a]/\H e=aa (iI e C ae)/\Rd H a (.lst (zs.map V.str))/\zs.length<=1000/\(fC (.list (zs.map cw))).length<=800 /\
 ∀l d,H l=ae->l≠d->H d=ae->Q .bY (upd (upd (upd H l (.lst (zs.map V.str))) e (iI e C (aa d))) d (.xd [(f,.ref l)]))
section
variable {P:aX}{w:bB}{K:aP}{mg:Str->Option af}{base:bO}
theorem z2q{qual:Str}{st:cm}{dV:af}{C fI:aj}{fd:bI}{p1 f:Str}{k:Nat}{tm tl:TE}(F:dr K "__init__" qual st dV fI fd)(S:iw ["self",p1] ["self",p1] (e_ st))
  (hx:rX K C) (q:pB K C fI=true) (nf:d_ K (.ref C) f=aa ae)
  (lD:∀(gE:af) (A:cf) (outer:List Env) (s:ar) (H:Hp) (E:XK),d7 k (A.deeper (iC qual (e_ st) s.heap.objs.size fI gE)) ->
   j9 (fP (ee P w) P w K mg base ["self",p1] qual (e_ st) fI gE A outer s H E) (nV st) (vi (Kg (LI K (Ct (lC 0) (Ct tm tU)))) (HC K (lC 0) tl f)))
  (Bl:∀(e a:aj) (zs:List Str) (H:Hp) (Q:VK),Rd H a (.lst (zs.map V.str))->(fC (.list (zs.map cw))).length<=800->(∀m,Q (.str m) H)->tm [aa (.ref e),aa (.ref a)] H Q)
  (Fe:∀(e a:aj) (zs:List Str) (H:Hp) (Q:VK),Rd H a (.lst (zs.map V.str))->(∀l,H l=ae->Q (.ref l) (upd H l (.lst (zs.map V.str))))->tl [aa (.ref e),aa (.ref a)] H Q) :
  bW P w K mg base (ee P w) (k+1) fI fd ["self",p1] (x8 C f):=by
 refine F.Lm S (λvs H Q E h=>?_) λgE A outer s H vs Q E hr h=>⟨_,lD gE A outer s H E hr,?_⟩
 .obtain⟨e,a,zs,rfl,_⟩:=h;rfl
 .obtain⟨e,a,zs,rfl,he,rd,hz,Ep,h⟩:=h
  refine⟨.ref e,rfl,Bl e a zs H _ rd Ep λm=>?_⟩;refine⟨e,.str m,C,fI,ae,rfl,he,q,?_⟩;refine Fe e a zs H _ rd λl hl=>?_;have le:l≠e:=λz=>by rw[z,he] at hl;cases hl
  refine⟨.ref e,rfl,e,C,rfl,hx,nf,.inl ⟨by rw[c4 (bZ le)];exact he,λd hd=>?_⟩⟩;have dl:d≠l:=λz=>by rw[z,fE] at hd;cases hd
  rw[c4 dl] at hd;exact h l d hl (bZ dl) hd
end
def MQ(C:aj)(f:Str)(fr:DA):DS:=fun ρ=>(fr ρ).bind λts=>λS=>match ts with
 | [x]=>(match (cI S x).bind uS with
   |some zs=>if zs.length<=1000/\(fC (.list (zs.map cw))).length<=800 then .exc C (aa [(f,.lst (zs.map T.str))]) S else .bad
   |none=>.bad)
 |_=>.bad
section
variable {X:Cx}{E:XK}{k:Nat}{C fI:aj}{fd:bI}{ps:List Str}{f y:Str}{np c6 pos:Pos}{e:bo}{es:List bo}{fr:DA}
theorem z2r (hx:HD X E) (hc:X.calm=true) (q:pB X.K C fI=true) (hf:fZ X.K (.ref fI)=true) (F:bW X.prog X.w X.K X.mg X.base (ee X.prog X.w) k fI fd ps (x8 C f)) (hr:d7 (k+1) X.A) (hb:mK X.K fd ps [])
  (hg:Gl X y) (hm:X.mg y=aa (.ref C)) (ha:PA X (e::es) (RA E fr))
  (i8:(y==("__debug__" : Str))=false:=by decide) (he:av (e::es) X.env=(false,eval e X.env)::av es X.env:=by rfl) (gm:(bJ c6 (av es X.env)).any (·.1)=false:=by rfl) :
  PS X (.Raise (aa (.Call (.Name y np) (e::es) [] c6)) ae pos) (RS E (MQ C f fr)):=rz (Rx hx Ie hc q hf F hr hb hg hm ha i8 he gm) λD σ H h=>by
 obtain⟨W,S,ρ,rp,env,p⟩:=h;refine⟨W,S,ρ,rp,env,(bu.bind p).imp λts W1 S1 H1 l1 r1 p1 vs dv=>?_⟩
 split at p1
 case h_2=>exact p1.elim
 case h_1 tx=>
  cases ez:(cI S1 tx).bind uS with
  |none=>simp only[ez] at p1;exact p1.elim
  | some zs=>
    simp only[ez] at p1
    split at p1
    case isFalse=>exact p1.elim
    case isTrue ok=>
     obtain⟨u,rfl,du⟩:=A6 dv;obtain⟨us,e1,e2⟩:=jg.mp ez;obtain⟨a,ws,rfl,g1,g2⟩:=r1.list du e1;rw[L9 g2 e2] at g1;obtain⟨ua,Tt⟩:=MO g1;refine⟨by show 1<=sizeLine;rw[dB];omega,λea CB=>?_⟩;have Tu:a≠ea:=λz=>by rw[z,CB] at Tt;cases Tt
     have Bn:Rd (upd H1 ea (iI ea C ae)) a (.lst (zs.map V.str)):=by
      rcases g1 with g | ⟨o,g⟩
      .exact .inl (by rw[c4 Tu];exact g)
      .exact .inr ⟨o,by rw[c4 Tu];exact g⟩
     refine⟨ea,a,zs,rfl,fE,Bn,ok.1,ok.2,λl d hl ld hd=>⟨rfl,aa d,?_,?_⟩⟩
     .have ne:ea≠d:=λz=>by rw[z,fE] at hd;cases hd
      rw[c4 ne,fE]
     .have Tv:d≠ea:=λz=>by rw[z,fE] at hd;cases hd
      have Tw:l≠ea:=λz=>by rw[z,fE] at hl;cases hl
      have wI:H1 d=ae:=by rw[c4 Tv] at hd;exact hd
      have E6:H1 l=ae:=by rw[c4 Tw] at hl;exact hl
      have MJ:t7 (upd (upd (upd (upd H1 ea (iI ea C ae)) l (.lst (zs.map V.str))) ea (iI ea C (aa d))) d (.xd [(f,.ref l)])) ea=upd (upd H1 l (.lst (zs.map V.str))) d (.xd [(f,.ref l)]):=by
       funext b;by_cases z:b=ea
       .subst z
        rw[EH,c4 (bZ Tv),c4 (bZ Tw)];exact CB.symm
       .rw[zr z]
        by_cases z2:b=d
        .subst z2;rw[fE,fE]
        .rw[c4 z2,c4 z,c4 z2]
         by_cases z3:b=l
         .subst z3;rw[fE,fE]
         .rw[c4 z3,c4 z,c4 z3]
      rw[MJ];have l2:W1.le (W1.dY l (.lst (zs.map V.str))):=Wd.kO (r1.jj E6);have r2:=r1.dY E6 (.lst (zs.map V.str)) trivial;have Tz:upd H1 l (.lst (zs.map V.str)) d=ae:=by rw[c4 (bZ ld)];exact wI
      exact p1 _ _ (aa d) l2 (r2.extra Tz _) ⟨_,fE,r2.jj Tz,⟨.ref l,_,rfl,rZ.mpr ⟨l,_,rfl,fE,Ts zs⟩,rfl⟩⟩
end
theorem nI{α:Type}:∀{l:List α},l.length=1->∃a0,l=[a0]
 |[a0],_=>⟨a0,rfl⟩
theorem uk{α:Type}:∀{l:List α},l.length=2->∃a0 a1,l=[a0,a1]
 |[a0,a1],_=>⟨a0,a1,rfl⟩
theorem Bs{α:Type}:∀{l:List α},l.length=3->∃a0 a1 a2,l=[a0,a1,a2]
 |[a0,a1,a2],_=>⟨a0,a1,a2,rfl⟩
theorem x9{α:Type}:∀{l:List α},l.length=4->∃a0 a1 a2 a3,l=[a0,a1,a2,a3]
 |[a0,a1,a2,a3],_=>⟨a0,a1,a2,a3,rfl⟩
theorem Bt{α:Type}:∀{l:List α},l.length=5->∃a0 a1 a2 a3 a4,l=[a0,a1,a2,a3,a4]
 |[a0,a1,a2,a3,a4],_=>⟨a0,a1,a2,a3,a4,rfl⟩
theorem MR{α:Type}:∀{l:List α},l.length=6->∃a0 a1 a2 a3 a4 a5,l=[a0,a1,a2,a3,a4,a5]
 |[a0,a1,a2,a3,a4,a5],_=>⟨a0,a1,a2,a3,a4,a5,rfl⟩
def um(t:T):M T:=λS=>match t with
 |.int i=>.ok (.int (-i)) S
 |_=>.bad
section
variable {X:Cx}{E:XK}{e:bo}{fa:DE}{pos:Pos}
theorem Zb6(ha:PE X e (RE E fa)):PE X (.UnaryOp .USub e pos) (RE E (e1 um fa)):=iJ (Xr Xx ha) fun σ H Q h=>qM (r:=rU λi=>.int (-i)) (λt W S H v Q r d p=>by
 unfold um at p
 split at p
 .rename_i i;exact⟨i,jA.mp d,now p r (jA.mpr rfl)⟩
 .exact p.elim) h
end
def z9u(te:TE):TE:=fun σ H Q=>te σ H λv H1=>∃d a,jZ H1 d v/\v=.ref a/\d.showable=true/\d.hasDict=false/\d.depth<=50/\d.shown.length<=sizeLine/\Q (.str d.shown) H1
def TB(te:TE):TE:=fun σ H Q=>te σ H λv H1=>∃y,v=.str y/\(cD y).length<=sizeLine/\Q (.str (cD y)) H1
def z57(K:aP):TE:=Hg (λxs H Q=>∃p ys,xs=[.ref p]/\(mJ K H p ys\/uL K H p ys)/\∀l,H l=ae->Q (.ref l) (upd H l (.lst ys))) (Ct (lC 1) tU)
theorem z2s(pre:String)(hp:(aG pre).length<=100):∀(e a:aj) (zs:List Str) (H:Hp) (Q:VK),Rd H a (.lst (zs.map V.str))->(fC (.list (zs.map cw))).length<=800->(∀m,Q (.str m) H)->tJ cP [tC (.str pre),z9u (lC 1)] [aa (.ref e),aa (.ref a)] H Q:=by
 intro e a zs H Q rd hl q;have e0:cP.length=0:=rfl;have hs:sizeLine=16777216:=dB;refine⟨_,rfl,by rw[bM];omega,.ref a,rfl,.list (zs.map cw),a,by simp only[jZ];exact⟨a,_,rfl,rd,Tq zs⟩,rfl,by simp[wA,Tn],by simp[xc,To],by simp[dC,Tp],by omega,_,rfl,by rw[bM,bM];omega,?_⟩;exact⟨by rw[bM,bM];omega,q _⟩
theorem zzy(K:aP):∀(e a:aj) (zs:List Str) (H:Hp) (Q:VK),Rd H a (.lst (zs.map V.str))->(∀l,H l=ae->Q (.ref l) (upd H l (.lst (zs.map V.str))))->z57 K [aa (.ref e),aa (.ref a)] H Q:=
 λe a zs H Q rd q=>⟨.ref a,rfl,a,_,rfl,.inl (.inl rd),q⟩
theorem z58(mid:String)(hp:(aG mid).length<=100):∀(e:aj) (x y:V) (H:Hp) (Q:VK),Ij true x y->(∀m,Q (.str m) H)->tJ cP [TB (lC 1),tC (.str mid),TB (lC 2)] [aa (.ref e),aa x,aa y] H Q:=by
 rintro e x y H Q ⟨a,rfl,ha,hb⟩ q;obtain⟨b,rfl,hb⟩:=hb rfl;have e0:cP.length=0:=rfl;have hs:sizeLine=16777216:=dB;refine⟨_,rfl,a,rfl,by omega,_,rfl,by rw[bM];omega,_,rfl,by rw[bM,bM];omega,_,rfl,b,rfl,by omega,_,rfl,by rw[bM,bM,bM];omega,?_⟩;exact⟨by rw[bM,bM,bM];omega,q _⟩
structure MS(P:aX)(w:bB)(K:aP)(mg:Str->Option af)(base:bO)(k:Nat)(C:aj)(f:Str)(ps:List Str)(fI:aj)(fd:bI):Prop where
 ok:bW P w K mg base (ee P w) k fI fd ps (x8 C f)
 q:pB K C fI=true
 hf:fZ K (.ref fI)=true
 hb:mK K fd ps []
structure MT(P:aX)(w:bB)(K:aP)(mg:Str->Option af)(base:bO)(k:Nat)(C:aj)(f g:Str)(qu:Bool)(ps:List Str)(fI:aj)(fd:bI):Prop where
 ok:bW P w K mg base (ee P w) k fI fd ps (xW C f g qu)
 q:pB K C fI=true
 hf:fZ K (.ref fI)=true
 hb:mK K fd ps []
section
variable {X:Cx}{E:XK}{e:bo}{es:List bo}{fr:DA}{pos p:Pos}{P:aX}{w:bB}{K:aP}{mg:Str->Option af}{base:bO}{A:cf}{k:Nat}{x:Str}{ps:List Str}{F:Fn}{f:aj}{fd:bI}
theorem TC{n:Nat}(G:FnAt P w K mg base k x ps F f fd)(hr:d7 k A)(hg:Gl X x)(hx:oS (ee X.prog X.w) X E)(ha:PA X (e::es) (RA E fr))
  (hP:X.prog=P:=by rfl) (hw:X.w=w:=by rfl) (hK:X.K=K:=by rfl) (AF:X.mg=mg:=by rfl) (hB:X.base=base:=by rfl) (hA:X.A=A:=by rfl)
  (i8:(x==("__debug__" : Str))=false:=by decide) (he:av (e::es) X.env=(false,eval e X.env)::av es X.env:=by rfl) (gm:(bJ pos (av es X.env)).any (·.1)=false:=by rfl) (hn:ps.length=n:=by rfl) :
  PE X (.Call (.Name x p) (e::es) [] pos) (RE E (dZ (bz n F) [] fr)):=by
 subst hP hw hK AF hB hA hn;exact iA G hr hg hx ha i8 he gm
end
theorem jw{P:aX}{w:bB}{K:aP}{mg:Str->Option af}{base:bO}{x qual:Str}{st:cm}{dV:af}{f:aj}{fd:bI}{N ps:List Str}{k:Nat}{d:DS}(F:dr K x qual st dV f fd)(S:iw N ps (e_ st))
  (h:∀(gE:af) (A:cf) (outer:List Env) (s:ar) (H:Hp) (E:XK),d7 k (A.deeper (iC qual (e_ st) s.heap.objs.size f gE))->(A.deeper (iC qual (e_ st) s.heap.objs.size f gE)).units+1<fq->(A.deeper (iC qual (e_ st) s.heap.objs.size f gE)).units+64<fq ->
   j9 (fP (ee P w) P w K mg base N qual (e_ st) f gE A outer s H E) (nV st) (RS E d)):bW P w K mg base (ee P w) (k+1) f fd ps (gK ps.length (c9 N.length d)):=
 Zbu F S λgE A outer s H E hr=>h gE A outer s H E hr (Y5 hr) hr.units
def sv:DS:=λ_=>M.bad
theorem CS{X:Cx}{E:XK}{sts:List cm}:j9 X sts (RS E sv):=λag s σ H D I h=>by
 obtain⟨_,_,_,_,_,p⟩:=h;exact p.elim
variable {E:XK}{fa:DE}
end MF
namespace L2
open PySem PySem.Spec PyProof.Rows
theorem zw0{X:Cx}:rP X (.type "int") (λxs H Q=>∃b,xs=[.bl b]/\Q (.int (if b then 1 else 0)) H):=by
 intro ag s σ H xs us Q I r h;obtain⟨b,rfl,q⟩:=h;obtain⟨u,rfl,rx⟩:=Aw r;cases rx;exact call_int_bool ⟨.int (if b then 1 else 0),H,I.kept (t':=s.toks+1) λb o e=>e,⟨_,rfl⟩,q⟩
end L2
namespace MF
open PySem L2
def CT(t:T):M T:=λS=>match t with
 |.bl b=>.ok (.int (if b then 1 else 0)) S
 |_=>.bad
theorem z9w{X:Cx}{E:XK}{e:bo}{fa:DE}{pos p:Pos}(gl:Gl X "int")(hm:X.mg "int" = ae)(ha:PE X e (RE E fa))
  (he:av [e] X.env=(false,eval e X.env)::av [] X.env:=by rfl) (gm:(bJ pos (av [] X.env)).any (·.1)=false:=by rfl):PE X (.Call (.Name "int" p) [e] [] pos) (RE E (e1 CT fa)):=
 L7 zw0 (λt W S H v Q r d p=>by
  cases t with
  |bl b=>exact⟨b,by rw[i_.mp d],p W H (Wd.le.refl _) r _ (jA.mpr rfl)⟩
  |_=>exact p.elim) gl hm rfl ha (by decide) (by decide) he gm
end MF
namespace MF
open PySem L2 PyProof.Rows
def Bu:List Str->List Str
 |[]=>[]
 |x::xs=>if x∈xs then Bu xs else x::Bu xs
end MF
namespace DN
open PySem L2 MF
def e8(c:Cl):List aj:=[c.nameThere,c.noPlace,c.noPiece,c.tooMany,c.noAnswer,c.ring,c.barred,c.deedFault]
def Zdn(_:Cl):Fn:=λ_=>M.bad
def MU(c:Cl):DS:=(ba (gp (eB (e2 (gI LR) (ah 1) (e1 kQ (ah 0)))) (cW (e2 eh (ah 0) (ah 1))) gU) (cW (eC (.int 0))))
def mQ(c:Cl):Fn:=c9 2 (MU c)
def TF(c:Cl):DS:=(ba (tw c.hall "places" (ah 0) xK) (tw c.hall "pieces" (ah 0) xK))
def zG(c:Cl):Fn:=c9 1 (TF c)
def TH(c:Cl):DS:=(ba (tw c.place "kind" (ah 0) (ah 1)) (tw c.place "rule" (ah 0) (ah 2)))
def Ff(c:Cl):Fn:=c9 3 (TH c)
def TJ(c:Cl):DS:=(ba (gp (eB (e2 iz (ah 1) (e1 (fu c.hall "places") (ah 0)))) sv gU) (ba (gp (eB (e2 (gI HI) (e1 wK (e1 (fu c.hall "places") (ah 0))) (eC (.int 8)))) sv gU) (uQ (e1 (fu c.hall "places") (ah 0)) (ah 1) (xS c.place (bz 3 (Ff c)) [] (a_ (ah 2) (a_ (ah 3) aJ))))))
def Bv(c:Cl):Fn:=c9 4 (TJ c)
def MV(c:Cl):DE:=(e2 eh (ah 1) (e2 (gI fS) (e2 hV (ah 2) (e2 (gI pC) (eC (.int 5)) (ah 0))) (eC (.int 26))))
def MW(c:Cl):DI:=(tz (a_ (e2 hV (eC (.int 2)) (e2 (gI fS) (ah 0) (eC (.int 11)))) aJ))
def MX(c:Cl):DS:=(ba (bV 1 (eC (.str "abcdefghijklmnopqrstuvwxyz"))) (ba (gp (eB (e2 iR (e2 (gI fS) (ah 0) (eC (.int 3))) (eC (.int 1)))) (cW (e2 eh (ah 1) (e2 (gI fS) (ah 0) (eC (.int 26))))) gU) (cW (jB HV CJ (eC (.str "")) (a_ (i4 1 [1,0] (MW c) (c0 0) ke (MV c) eU) aJ)))))
def pJ(c:Cl):Fn:=c9 2 (MX c)
def TK(c:Cl):DS:=(ba (gp (eB (e2 m8 (ah 1) (e1 (fu c.hall "places") (ah 0)))) sv gU) (cW (e2 iS (e1 (fu c.hall "places") (ah 0)) (ah 1))))
def Bw(c:Cl):Fn:=c9 2 (TK c)
def MY(c:Cl):DS:=(ba (gp (eB (e2 m8 (ah 1) (e1 (fu c.hall "pieces") (ah 0)))) (Mm c.noPiece (a_ (jT cP [(eC (.str "no piece ")),(e1 Ig (ah 1)),(eC (.str " hangs"))]) aJ)) gU) (cW (e2 iS (e1 (fu c.hall "pieces") (ah 0)) (ah 1))))
def qU(c:Cl):Fn:=c9 2 (MY c)
def TL(c:Cl):DS:=(ba (tw c.piece "place" (ah 0) (ah 1)) (ba (tw c.piece "deed" (ah 0) (ah 2)) (ba (tw c.piece "by" (ah 0) (ah 3)) (ba (tw c.piece "on" (ah 0) (eC (.bl true))) (ba (tw c.piece "ahead" (ah 0) (eA gQ aJ)) (ba (tw c.piece "behind" (ah 0) (eA gQ aJ)) (ba (tw c.piece "needs" (ah 0) (eA gQ aJ)) (tw c.piece "bars" (ah 0) (eA gQ aJ)))))))))
def Bx(c:Cl):Fn:=c9 4 (TL c)
def MZ(c:Cl):DS:=(ba (gp (eB (e2 iz (ah 1) (e1 (fu c.hall "pieces") (ah 0)))) sv gU) (ba (iT (lX c.hall "find_place" (bz 2 (Bw c)) [] (ah 0) (a_ (ah 2) aJ))) (ba (gp (eB (e2 ti (ah 4) (eC .bY))) (iT (lX c.hall "find_piece" (bz 2 (qU c)) [] (ah 0) (a_ (ah 4) aJ))) gU) (ba (gp (eB (e2 (gI HI) (e1 wK (e1 (fu c.hall "pieces") (ah 0))) (eC (.int 24)))) sv gU) (uQ (e1 (fu c.hall "pieces") (ah 0)) (ah 1) (xS c.piece (bz 4 (Bx c)) [] (a_ (ah 2) (a_ (ah 3) (a_ (ah 4) aJ)))))))))
def vS(c:Cl):Fn:=c9 5 (MZ c)
def Ip(c:Cl):DS:=(ba (gp (eB (e2 (gI EM) (e2 (gI fS) (ah 0) (eC (.int 4))) (eC (.int 1)))) (cW (eA gP aJ)) gU) (ba (gp (eB (e2 iR (e2 (gI fS) (ah 0) (eC (.int 4))) (eC (.int 1)))) (cW (eA gP (a_ (dZ (bz 1 (pJ c)) [] (a_ (e2 (gI fS) (e2 (gI jM) (ah 0) (eC (.int 4))) (ah 1)) aJ)) (a_ (dZ (bz 1 (pJ c)) [] (a_ (e2 (gI fS) (e2 (gI jM) (ah 0) (eC (.int 64))) (ah 1)) aJ)) aJ)))) gU) (cW (eA gP (a_ (dZ (bz 1 (pJ c)) [] (a_ (e2 (gI fS) (e2 (gI jM) (ah 0) (eC (.int 4))) (ah 1)) aJ)) aJ)))))
def By(c:Cl):Fn:=c9 2 (Ip c)
def M0(c:Cl):DS:=(cW (LY (eB (e2 qo (ah 0) (eC .bY))) (eA gP aJ) (e1 tq (ah 0))))
def tD(c:Cl):Fn:=c9 1 (M0 c)
def TM(c:Cl):DS:=(ba (bV 6 (lX c.hall "find_piece" (bz 2 (qU c)) [] (ah 0) (a_ (ah 1) aJ))) (ba (iT (jB jv jC (e1 (fu c.piece "ahead") (ah 6)) (a_ (dZ (bz 1 (tD c)) [] (a_ (ah 2) aJ)) aJ))) (ba (iT (jB jv jC (e1 (fu c.piece "behind") (ah 6)) (a_ (dZ (bz 1 (tD c)) [] (a_ (ah 3) aJ)) aJ))) (ba (iT (jB jv jC (e1 (fu c.piece "needs") (ah 6)) (a_ (dZ (bz 1 (tD c)) [] (a_ (ah 4) aJ)) aJ))) (iT (jB jv jC (e1 (fu c.piece "bars") (ah 6)) (a_ (dZ (bz 1 (tD c)) [] (a_ (ah 5) aJ)) aJ)))))))
def CU(c:Cl):Fn:=c9 7 (TM c)
def CV(c:Cl):DS:=(ba (bV 6 (dZ (bz 2 (By c)) [] (a_ (e2 (gI jM) (ah 2) (e2 eh (eA gP (a_ (eC (.int 1)) (a_ (eC (.int 11)) (a_ (eC (.int 131)) (a_ (eC (.int 1709)) aJ))))) (ah 5))) (a_ (e2 hV (ah 3) (eC (.int 1))) aJ)))) (ba (iT (jB jv jC (e2 eh (ah 1) (e2 hV (eC (.int 1)) (ah 5))) (a_ (ah 6) aJ))) (gp (uc (eB (e2 iR (ah 6) (eA gP aJ))) (eB (e2 iR (e2 (gI fS) (e2 (gI jM) (ah 2) (eC (.int 5))) (eC (.int 2))) (eC (.int 1))))) (iT (jB jv jP (ah 4) (a_ (eC .bY) aJ))) (iT (jB jv jP (ah 4) (a_ (e1 uP (ah 6)) aJ))))))
def zH(c:Cl):DS:=(gp (eB (e2 ti (ah 6) (eC .bY))) (iT (jB jv zx (ah 6) aJ)) gU)
def TN(c:Cl):DS:=(ba (bV 4 (eA gQ aJ)) (ba (dA (tz (a_ (eC (.int 4)) aJ)) (c0 5) (CV c)) (ba (iT (lX c.hall "wish" (bz 6 (CU c)) [] (ah 0) (a_ (e2 eh (ah 1) (eC (.int 0))) (a_ (e2 eh (ah 4) (eC (.int 0))) (a_ (e2 eh (ah 4) (eC (.int 1))) (a_ (e2 eh (ah 4) (eC (.int 2))) (a_ (e2 eh (ah 4) (eC (.int 3))) aJ))))))) (dA (iL (ah 4)) (c0 6) (zH c)))))
def CW(c:Cl):Fn:=c9 7 (TN c)
def Fg(c:Cl):DS:=(ba (bV 7 (eC .bY)) (ba (gp (uc (oX (ah 4)) (eB (e2 (gI EM) (ah 6) (eC (.int 0))))) (bV 7 (dZ (bz 1 (pJ c)) [] (a_ (e2 (gI vN) (ah 6) (eC (.int 1))) aJ))) gU) (ba (iT (lX c.hall "hang" (bz 5 (vS c)) [] (ah 0) (a_ (dZ (bz 1 (pJ c)) [] (a_ (ah 6) aJ)) (a_ (eC (.str "hub")) (a_ (eA f_ (a_ (eC (.str "none")) aJ)) (a_ (ah 7) aJ)))))) (ba (iT (jB jv jP (ah 5) (a_ (eA gP (a_ (dZ (bz 1 (pJ c)) [] (a_ (ah 6) aJ)) (a_ (eA gQ aJ) (a_ (eA gQ aJ) (a_ (eA gQ aJ) (a_ (eA gQ aJ) aJ)))))) aJ))) (gp (oX (ah 3)) (iT (dZ (bz 4 (CW c)) [] (a_ (ah 0) (a_ (e2 eh (ah 5) (ah 6)) (a_ (dZ (bz 2 (mQ c)) [] (a_ (ah 1) (a_ (e2 hV (eC (.int 3)) (ah 6)) aJ))) (a_ (ah 2) aJ)))))) gU)))))
def Iq(c:Cl):DS:=(iT (dZ (bz 4 (CW c)) [] (a_ (ah 0) (a_ (e2 eh (ah 5) (e2 (gI fS) (ah 6) (ah 2))) (a_ (dZ (bz 2 (mQ c)) [] (a_ (ah 1) (a_ (e2 (gI vN) (eC (.int 30)) (ah 6)) aJ))) (a_ (ah 2) aJ))))))
def TQ(c:Cl):DS:=(ba (bV 5 (eA gQ aJ)) (ba (dA (tz (a_ (ah 2) aJ)) (c0 6) (Fg c)) (ba (dA (tz (a_ (e2 (gI pC) (ah 2) (e2 hV (eC (.int 1)) (e1 CT (sf (ah 3))))) aJ)) (c0 6) (Iq c)) (cW (ah 5)))))
def CY(c:Cl):Fn:=c9 8 (TQ c)
def M2(c:Cl):DS:=(gp (qO (zw (oX (e1 (nF .str) (e2 eh (ah 0) (ah 2))))) (eB (e2 kC (e2 eh (ah 0) (ah 2)) (e2 eh (ah 1) (ah 2))))) (cW (eC (.bl false))) gU)
def TR(c:Cl):DS:=(ba (gp (qO (zw (oX (e1 (nF .list) (ah 0)))) (eB (e2 kC (e1 kQ (ah 0)) (e1 kQ (ah 1))))) (cW (eC (.bl false))) gU) (ba (dA (tz (a_ (e1 kQ (ah 1)) aJ)) (c0 2) (M2 c)) (cW (eC (.bl true)))))
def Bz(c:Cl):Fn:=c9 3 (TR c)
def x_(c:Cl):DS:=(gp (eB (e2 iz (e1 (fu c.piece "by") (ah 4)) (ah 2))) (uQ (ah 2) (ah 3) (eC (.bl true))) gU)
def BA(c:Cl):DS:=(iT (ML (e1 (fu c.hall "pieces") (ah 0)) (ah 3)))
def TU(c:Cl):DS:=(ba (iT (lX c.hall "find_piece" (bz 2 (qU c)) [] (ah 0) (a_ (ah 1) aJ))) (ba (bV 2 (Bo (ah 1) (eC (.bl true)))) (ba (xY ow (e1 (fu c.hall "pieces") (ah 0)) (wL 3 4) (x_ c)) (ba (xY xX (ah 2) (c0 3) (BA c)) (cW (e1 tq (ah 2)))))))
def CZ(c:Cl):Fn:=c9 5 (TU c)
def Fh(c:Cl):DE:=(e2 eh (ah 0) (eC (.int 0)))
def Fi(c:Cl):DI:=(iL (Mp (ah 1) (Mo (ah 2)) Mn))
def Ir(c:Cl):DE:=(ah 0)
def Iu(c:Cl):DI:=(iL (ah 1))
def Iv(c:Cl):DT:=(eB (e2 wJ (e2 eh (ah 0) (eC (.int 0))) (ah 1)))
def Fj(c:Cl):DS:=(ba (iT (lX c.hall "hang" (bz 5 (vS c)) [.bY] (ah 0) (a_ (ah 6) (a_ (eC (.str "hub")) (a_ (eA f_ (a_ (eC (.str "none")) aJ)) aJ))))) (iT (jB jv jP (ah 5) (a_ (eA gP (a_ (ah 6) (a_ (eA gP aJ) (a_ (eA gP aJ) (a_ (eA gP aJ) (a_ (eA gP aJ) aJ)))))) aJ))))
def TV(c:Cl):DS:=(ba (bV 4 (eA gP (a_ (e2 eh (e2 eh (ah 1) (ah 2)) (eC (.int 0))) aJ))) (ba (gp (oX (ah 3)) (bV 4 (i4 1 [] (Fi c) (c0 0) ke (Fh c) eU)) gU) (ba (gp (zw (oX (dZ (bz 2 (Bz c)) [] (a_ (lX c.hall "drop" (bz 2 (CZ c)) [] (ah 0) (a_ (e2 eh (e2 eh (ah 1) (ah 2)) (eC (.int 0))) aJ)) (a_ (ah 4) aJ))))) sv gU) (ba (bV 5 (i4 1 [4] (Iu c) (c0 0) (Iv c) (Ir c) vO)) (ba (dA (iL (ah 4)) (c0 6) (Fj c)) (cW (ah 5)))))))
def Fk(c:Cl):Fn:=c9 7 (TV c)
def BB(c:Cl):DS:=(gp (uc (eB (e2 iR (e2 eh (ah 3) (eC (.int 1))) (ah 0))) (eB (e2 pD (e2 eh (ah 3) (eC (.int 0))) (ah 1)))) (cW (eC (.bl false))) gU)
def M3(c:Cl):DS:=(ba (dA (iL (ah 2)) (c0 3) (BB c)) (cW (eC (.bl true))))
def C0(c:Cl):Fn:=c9 4 (M3 c)
def Iw(c:Cl):DE:=(ah 0)
def Iy(c:Cl):DI:=(iL (ah 2))
def Iz(c:Cl):DT:=(oX (dZ (bz 3 (C0 c)) [] (a_ (ah 0) (a_ (ah 1) (a_ (ah 2) aJ)))))
def uo(c:Cl):DS:=(ba (bV 4 (i4 1 [2,1] (Iy c) (c0 0) (Iz c) (Iw c) eU)) (ba (gp (eB (e2 iR (ah 4) (eA gP aJ))) (cW (eC .bY)) gU) (ba (iT (jB jv jP (ah 3) (a_ (e2 eh (ah 4) (eC (.int 0))) aJ))) (iT (jB jv Bd (ah 2) (a_ (e2 eh (ah 4) (eC (.int 0))) aJ))))))
def uV(c:Cl):DT:=(eB (e2 kC (ah 2) (eA gP aJ)))
def Fm(c:Cl):DS:=(ba (bV 2 (e1 uP (ah 0))) (ba (bV 3 (eA gQ aJ)) (ba (uU (uV c) (uo c)) (cW (ah 3)))))
def zI(c:Cl):Fn:=iU (c9 5 (Fm c))
def M4(c:Cl):DE:=(e2 eh (ah 0) (eC (.int 0)))
def M5(c:Cl):DI:=(iL (ah 0))
def M6(c:Cl):DE:=(eA f_ (a_ (e2 eh (ah 1) (eC (.int 0))) (a_ (ah 0) aJ)))
def M7(c:Cl):DI:=(iL (e2 eh (ah 3) (eC (.int 1))))
def M8(c:Cl):DT:=(eB (e2 pD (ah 0) (ah 2)))
def M9(c:Cl):DE:=(eA f_ (a_ (ah 0) (a_ (e2 eh (ah 1) (eC (.int 0))) aJ)))
def M_(c:Cl):DI:=(iL (e2 eh (ah 3) (eC (.int 2))))
def M'(c:Cl):DT:=(eB (e2 pD (ah 0) (ah 2)))
def Na(c:Cl):DS:=(ba (iT (jB jv jC (ah 2) (a_ (i4 1 [3,1] (M7 c) (c0 0) (M8 c) (M6 c) eU) aJ))) (iT (jB jv jC (ah 2) (a_ (i4 1 [3,1] (M_ c) (c0 0) (M' c) (M9 c) eU) aJ))))
def Nb(c:Cl):DS:=(ba (bV 1 (i4 1 [] (M5 c) (c0 0) ke (M4 c) eU)) (ba (bV 2 (eA gQ aJ)) (ba (dA (iL (ah 0)) (c0 3) (Na c)) (cW (ah 2)))))
def C1(c:Cl):Fn:=iU (c9 4 (Nb c))
def C3(c:Cl):DS:=(uQ (ah 2) (ah 3) xK)
def BC(c:Cl):DS:=(gp (eB (e2 iz (ah 5) (ah 2))) (uQ (e2 iS (ah 2) (ah 3)) (ah 5) (eC (.bl true))) gU)
def BD(c:Cl):DS:=(gp (eB (e2 iz (ah 5) (ah 2))) (uQ (e2 iS (ah 2) (ah 5)) (ah 3) (eC (.bl true))) gU)
def C4(c:Cl):DS:=(ba (bV 4 (lX c.hall "find_piece" (bz 2 (qU c)) [] (ah 0) (a_ (ah 3) aJ))) (ba (dA (iL (e1 (fu c.piece "ahead") (ah 4))) (c0 5) (BC c)) (dA (iL (e1 (fu c.piece "behind") (ah 4))) (c0 5) (BD c))))
def Nc(c:Cl):DS:=(ba (bV 2 xK) (ba (dA (iL (ah 1)) (c0 3) (C3 c)) (ba (dA (iL (ah 1)) (c0 3) (C4 c)) (cW (ah 2)))))
def Fo(c:Cl):Fn:=iU (c9 6 (Nc c))
def IA(c:Cl):DE:=(e2 iz (ah 1) (e2 iS (ah 2) (ah 0)))
def IB(c:Cl):DI:=(iL (ah 1))
def C5(c:Cl):DS:=(gp (zw (oX (e1 uj (i4 1 [2,0] (IB c) (c0 0) ke (IA c) eU)))) (cW (ah 2)) gU)
def Nd(c:Cl):DS:=(ba (dA (iL (ah 1)) (c0 2) (C5 c)) (cW (eC .bY)))
def C6(c:Cl):Fn:=c9 3 (Nd c)
def uq(c:Cl):DS:=(ba (gp (eB (e2 iR (ah 6) (ah 1))) (cW (ah 5)) gU) (gp (eB (e2 m8 (ah 6) (ah 3))) (ba (uQ (ah 3) (ah 6) (eC (.bl true))) (iT (jB jv jP (ah 4) (a_ (e2 hV (ah 5) (eA gP (a_ (ah 6) aJ))) aJ)))) gU))
def uW(c:Cl):DS:=(dA (iK (e2 iS (ah 0) (e2 eh (ah 5) (e1 um (eC (.int 1)))))) (c0 6) (uq c))
def uX(c:Cl):DS:=(ba (bV 4 (eA gQ aJ)) (ba (dA (iL (ah 2)) (c0 5) (uW c)) (bV 2 (ah 4))))
def vT(c:Cl):DT:=(oX (ah 2))
def IC(c:Cl):DS:=(ba (bV 2 (eA gP (a_ (eA gP (a_ (ah 1) aJ)) aJ))) (ba (bV 3 (Bo (ah 1) (eC (.bl true)))) (ba (uU (vT c) (uX c)) (cW (eA gP aJ)))))
def ID(c:Cl):Fn:=iU (c9 7 (IC c))
def IE(c:Cl):DE:=(dZ (bz 2 (ID c)) [] (a_ (ah 1) (a_ (ah 0) aJ)))
def Fp(c:Cl):DI:=(iK (ah 0))
def Nf(c:Cl):DE:=(ah 0)
def Ng(c:Cl):DI:=(iL (ah 1))
def Nh(c:Cl):DT:=(oX (ah 0))
def TX(c:Cl):DS:=(ba (bV 1 (i4 1 [0] (Fp c) (c0 0) ke (IE c) eU)) (cW (e1 vR (i4 1 [] (Ng c) (c0 0) (Nh c) (Nf c) eU))))
def Fq(c:Cl):Fn:=c9 2 (TX c)
def ur(c:Cl):DS:=(ba (bV 5 (dZ (bz 2 (C6 c)) [] (a_ (ah 2) (a_ (ah 3) aJ)))) (ba (gp (eB (e2 qo (ah 5) (eC .bY))) (MQ c.ring "ring" (a_ (dZ (bz 1 (Fq c)) [] (a_ (ah 2) aJ)) aJ)) gU) (ba (iT (jB jv Bd (ah 3) (a_ (ah 5) aJ))) (iT (jB jv jP (ah 4) (a_ (ah 5) aJ))))))
def uY(c:Cl):DT:=(oX (ah 3))
def Ni(c:Cl):DS:=(ba (bV 2 (dZ (bz 2 (Fo c)) [] (a_ (ah 0) (a_ (ah 1) aJ)))) (ba (bV 3 (e1 uP (ah 1))) (ba (bV 4 (eA gQ aJ)) (ba (uU (uY c) (ur c)) (cW (ah 4))))))
def BE(c:Cl):Fn:=c9 6 (Ni c)
def C7(c:Cl):DE:=(ah 0)
def IF(c:Cl):DE:=(e1 (fu c.hall "pieces") (ah 0))
def zJ(c:Cl):DT:=(uc (eB (e2 iR (e1 (fu c.piece "place") (ah 1)) (ah 2))) (oX (e1 (fu c.piece "on") (ah 1))))
def TY(c:Cl):DS:=(ba (iT (lX c.hall "find_place" (bz 2 (Bw c)) [] (ah 0) (a_ (ah 1) aJ))) (cW (Fd ow 2 [1] (IF c) (wL 0 1) (zJ c) (C7 c) eU)))
def Fs(c:Cl):Fn:=c9 2 (TY c)
def Nj(c:Cl):DS:=(cW (dZ (bz 2 (BE c)) [] (a_ (ah 0) (a_ (lX c.hall "at" (bz 2 (Fs c)) [] (ah 0) (a_ (ah 1) aJ)) aJ))))
def BF(c:Cl):Fn:=c9 2 (Nj c)
def IG(c:Cl):DS:=(bV 1 (eA f_ (a_ (eC (.str "names")) (a_ (dZ (bz 2 (BF c)) [] (a_ (ah 0) (a_ (eC (.str "hub")) aJ))) aJ))))
def TZ(c:Cl):DS:=(bV 1 (eA f_ (a_ (eC (.str "ring")) aJ)))
def IH(c:Cl):DS:=(ba (bV 1 (eC .bY)) (ba (su (IG c) [1] (Bj (lZ [c.noPiece,c.ring,c.barred] c.ring) (TZ c) MG)) (cW (ah 1))))
def BG(c:Cl):Fn:=iU (c9 2 (IH c))
def zK(c:Cl):DS:=(ba (bV 4 (jB jv ue (ah 3) aJ)) (gp (eB (e2 m8 (ah 4) (ah 2))) (ba (bV 5 (lX c.hall "find_piece" (bz 2 (qU c)) [] (ah 0) (a_ (ah 4) aJ))) (ba (uQ (ah 2) (ah 4) (eC (.bl true))) (iT (jB jv jC (ah 3) (a_ (e1 (fu c.piece "needs") (ah 5)) aJ))))) gU))
def C8(c:Cl):DT:=(oX (ah 3))
def Ft(c:Cl):DS:=(ba (bV 2 xK) (ba (bV 3 (eA gQ (a_ (ah 1) aJ))) (ba (uU (C8 c) (zK c)) (cW (ah 2)))))
def BH(c:Cl):Fn:=iU (c9 6 (Ft c))
def T1(c:Cl):DS:=(cW (e1 tq (e1 (fu c.hall "pieces") (ah 0))))
def zL(c:Cl):Fn:=c9 1 (T1 c)
def Nk(c:Cl):DE:=(eA f_ (a_ (eC (.str "needs")) (a_ (ah 1) (a_ (ah 0) aJ))))
def Nl(c:Cl):DI:=(iL (e1 (fu c.piece "needs") (ah 4)))
def Nn(c:Cl):DT:=(eB (e2 wJ (ah 0) (ah 2)))
def Np(c:Cl):DE:=(eA f_ (a_ (eC (.str "bars")) (a_ (ah 1) (a_ (ah 0) aJ))))
def Nq(c:Cl):DI:=(iL (e1 (fu c.piece "bars") (ah 4)))
def Nr(c:Cl):DT:=(eB (e2 pD (ah 0) (ah 2)))
def II(c:Cl):DS:=(gp (eB (e2 pD (ah 3) (ah 1))) (ba (bV 4 (lX c.hall "find_piece" (bz 2 (qU c)) [] (ah 0) (a_ (ah 3) aJ))) (ba (iT (jB jv jC (ah 2) (a_ (i4 1 [3,1] (Nl c) (c0 0) (Nn c) (Nk c) eU) aJ))) (iT (jB jv jC (ah 2) (a_ (i4 1 [3,1] (Nq c) (c0 0) (Nr c) (Np c) eU) aJ))))) gU)
def Nt(c:Cl):DS:=(ba (bV 2 (eA gQ aJ)) (ba (dA (iL (lX c.hall "names" (bz 1 (zL c)) [] (ah 0) aJ)) (c0 3) (II c)) (cW (ah 2))))
def wN(c:Cl):Fn:=c9 5 (Nt c)
def IJ(c:Cl):DE:=(ah 0)
def Fu(c:Cl):DI:=(iL (lX c.hall "names" (bz 1 (zL c)) [] (ah 0) aJ))
def IK(c:Cl):DT:=(eB (e2 iz (ah 0) (ah 1)))
def IL(c:Cl):DS:=(ba (bV 2 (dZ (bz 2 (BH c)) [] (a_ (ah 0) (a_ (ah 1) aJ)))) (ba (bV 3 (i4 1 [2] (Fu c) (c0 0) (IK c) (IJ c) eU)) (ba (bV 4 (dZ (bz 2 (wN c)) [] (a_ (ah 0) (a_ (ah 3) aJ)))) (ba (gp (oX (ah 4)) (MI c.barred "one" "other" true (a_ (e2 eh (e2 eh (ah 4) (eC (.int 0))) (eC (.int 1))) (a_ (e2 eh (e2 eh (ah 4) (eC (.int 0))) (eC (.int 2))) aJ))) gU) (cW (ah 3))))))
def zM(c:Cl):Fn:=c9 5 (IL c)
def Fv(c:Cl):DS:=(bV 2 (eA f_ (a_ (eC (.str "names")) (a_ (dZ (bz 2 (zM c)) [] (a_ (ah 0) (a_ (ah 1) aJ))) aJ))))
def Nu(c:Cl):DS:=(bV 2 (eA f_ (a_ (eC (.str "barred")) (a_ (e1 (vQ c.barred "one") (ah 3)) (a_ (e1 (vQ c.barred "other") (ah 3)) aJ)))))
def T2(c:Cl):DS:=(bV 2 (eA f_ (a_ (eC (.str "piece")) aJ)))
def IM(c:Cl):DS:=(ba (bV 2 (eC .bY)) (ba (su (Fv c) [2] (Bj (lZ [c.noPiece,c.ring,c.barred] c.noPiece) (T2 c) (xV (lZ [c.noPiece,c.ring,c.barred] c.barred) 3 (Nu c) MG))) (cW (ah 2))))
def yA(c:Cl):Fn:=c9 4 (IM c)
def Nv(c:Cl):DE:=(eA f_ (a_ (eC (.str "needs")) (a_ (e2 eh (ah 1) (eC (.int 0))) (a_ (ah 0) aJ))))
def Nw(c:Cl):DI:=(iL (e2 eh (ah 3) (eC (.int 3))))
def Nx(c:Cl):DT:=(eB (e2 wJ (ah 0) (ah 2)))
def Ny(c:Cl):DE:=(eA f_ (a_ (eC (.str "bars")) (a_ (e2 eh (ah 1) (eC (.int 0))) (a_ (ah 0) aJ))))
def Nz(c:Cl):DI:=(iL (e2 eh (ah 3) (eC (.int 4))))
def NA(c:Cl):DT:=(eB (e2 pD (ah 0) (ah 2)))
def IP(c:Cl):DS:=(gp (eB (e2 pD (e2 eh (ah 3) (eC (.int 0))) (ah 1))) (ba (iT (jB jv jC (ah 2) (a_ (i4 1 [3,1] (Nw c) (c0 0) (Nx c) (Nv c) eU) aJ))) (iT (jB jv jC (ah 2) (a_ (i4 1 [3,1] (Nz c) (c0 0) (NA c) (Ny c) eU) aJ)))) gU)
def NB(c:Cl):DS:=(ba (bV 2 (eA gQ aJ)) (ba (dA (iL (ah 0)) (c0 3) (IP c)) (cW (ah 2))))
def BI(c:Cl):Fn:=iU (c9 4 (NB c))
def Fw(c:Cl):DS:=(uQ (ah 2) (e2 eh (ah 3) (eC (.int 0))) (e2 eh (ah 3) (eC (.int 3))))
def zN(c:Cl):DS:=(gp (eB (e2 m8 (ah 5) (ah 2))) (cW (eA f_ (a_ (eC (.str "piece")) aJ))) gU)
def wO(c:Cl):DS:=(ba (gp (eB (e2 m8 (ah 7) (ah 2))) (cW (eA f_ (a_ (eC (.str "piece")) aJ))) gU) (gp (eB (e2 wJ (ah 7) (ah 4))) (iT (jB jv jP (ah 4) (a_ (ah 7) aJ))) gU))
def C9(c:Cl):DS:=(dA (iL (e2 iS (ah 2) (ah 5))) (c0 7) (wO c))
def C_(c:Cl):DS:=(dA (iL (e1 tq (ah 4))) (c0 5) (C9 c))
def IQ(c:Cl):DE:=(e2 eh (ah 0) (eC (.int 0)))
def IS(c:Cl):DI:=(iL (ah 0))
def IT(c:Cl):DT:=(eB (e2 pD (e2 eh (ah 0) (eC (.int 0))) (ah 1)))
def Fx(c:Cl):DS:=(cW (eA f_ (a_ (eC (.str "barred")) (a_ (e2 eh (ah 9) (eC (.int 1))) (a_ (e2 eh (ah 9) (eC (.int 2))) aJ)))))
def Fy(c:Cl):DS:=(ba (bV 2 xK) (ba (dA (iL (ah 0)) (c0 3) (Fw c)) (ba (bV 4 (eA gQ (a_ (ah 1) aJ))) (ba (dA (iL (ah 4)) (c0 5) (zN c)) (ba (dA (tz (a_ (e1 kQ (ah 0)) aJ)) (c0 6) (C_ c)) (ba (bV 8 (i4 1 [4] (IS c) (c0 0) (IT c) (IQ c) eU)) (ba (dA (iL (dZ (bz 2 (BI c)) [] (a_ (ah 0) (a_ (ah 8) aJ)))) (c0 9) (Fx c)) (cW (eA f_ (a_ (eC (.str "names")) (a_ (ah 8) aJ)))))))))))
def Dc(c:Cl):Fn:=iU (c9 10 (Fy c))
def T3(c:Cl):DS:=(cW (e2 iR (dZ (bz 2 (wN c)) [] (a_ (ah 0) (a_ (ah 1) aJ))) (eA gP aJ)))
def Dd(c:Cl):Fn:=c9 2 (T3 c)
def T4(c:Cl):DS:=(ba (bV 3 (e1 uP (ah 2))) (ba (bV 4 (dZ (bz 2 (BI c)) [] (a_ (ah 1) (a_ (ah 2) aJ)))) (ba (bV 5 (dZ (bz 2 (wN c)) [] (a_ (ah 0) (a_ (ah 3) aJ)))) (ba (iT (jB jv zx (ah 3) aJ)) (ba (gp (qO (zw (oX (e1 (nF .list) (ah 5)))) (eB (e2 kC (ah 5) (ah 4)))) (cW (eC (.bl false))) gU) (ba (iT (jB jv jP (ah 5) (a_ (eA f_ (a_ (eC (.str "needs")) (a_ (eC (.str "a")) (a_ (eC (.str "b")) aJ)))) aJ))) (ba (bV 6 (dZ (bz 2 (Dd c)) [] (a_ (ah 0) (a_ (e1 tq (ah 2)) aJ)))) (cW (se (e2 iR (dZ (bz 2 (wN c)) [] (a_ (ah 0) (a_ (e1 tq (ah 2)) aJ))) (ah 4)) (se (e1 (nF .bool) (ah 6)) (e2 iR (ah 6) (e2 iR (ah 4) (eA gP aJ)))))))))))))
def BJ(c:Cl):Fn:=iU (c9 7 (T4 c))
def IU(c:Cl):DE:=(e2 eh (ah 0) (eC (.int 0)))
def IV(c:Cl):DI:=(iL (ah 5))
def Fz(c:Cl):DE:=(ah 0)
def FA(c:Cl):DI:=(iL (ah 7))
def FC(c:Cl):DT:=(eB (e2 kC (ah 0) (ah 1)))
def T5(c:Cl):DS:=(ba (bV 1 (e2 hV (eC (.int 2)) (e2 (gI fS) (dZ (bz 2 (mQ c)) [] (a_ (ah 0) (a_ (eC (.int 0)) aJ))) (eC (.int 7))))) (ba (bV 2 (xS c.hall (bz 1 (zG c)) [] aJ)) (ba (iT (lX c.hall "open_place" (bz 4 (Bv c)) [] (ah 2) (a_ (eC (.str "hub")) (a_ (eC (.str "all")) (a_ (eC (.str "hold")) aJ))))) (ba (bV 3 (e2 iR (e2 (gI fS) (e2 (gI jM) (dZ (bz 2 (mQ c)) [] (a_ (ah 0) (a_ (eC (.int 1)) aJ))) (eC (.int 16))) (eC (.int 2))) (eC (.int 1)))) (ba (bV 4 (e2 iR (e2 (gI fS) (e2 (gI jM) (dZ (bz 2 (mQ c)) [] (a_ (ah 0) (a_ (eC (.int 1)) aJ))) (eC (.int 32))) (eC (.int 2))) (eC (.int 1)))) (ba (bV 5 (dZ (bz 5 (CY c)) [] (a_ (ah 2) (a_ (ah 0) (a_ (ah 1) (a_ (ah 3) (a_ (ah 4) aJ))))))) (ba (bV 6 (e2 (gI fS) (e2 (gI jM) (dZ (bz 2 (mQ c)) [] (a_ (ah 0) (a_ (eC (.int 1)) aJ))) (eC (.int 2))) (ah 1))) (ba (gp (eB (e2 iR (e2 (gI fS) (dZ (bz 2 (mQ c)) [] (a_ (ah 0) (a_ (eC (.int 1)) aJ))) (eC (.int 2))) (eC (.int 1)))) (bV 5 (dZ (bz 4 (Fk c)) [] (a_ (ah 2) (a_ (ah 5) (a_ (ah 6) (a_ (ah 4) aJ)))))) gU) (ba (gp (eB (e2 qo (ah 5) (eC .bY))) (cW (eC (.bl false))) gU) (ba (bV 7 (i4 1 [] (IV c) (c0 0) ke (IU c) eU)) (ba (bV 8 (dZ (bz 2 (zI c)) [] (a_ (ah 7) (a_ (dZ (bz 1 (C1 c)) [] (a_ (ah 5) aJ)) aJ)))) (ba (bV 9 (dZ (bz 1 (BG c)) [] (a_ (ah 2) aJ))) (ba (gp (qO (uc (eB (e2 qo (ah 8) (eC .bY))) (eB (e2 kC (ah 9) (eA f_ (a_ (eC (.str "ring")) aJ))))) (uc (eB (e2 ti (ah 8) (eC .bY))) (eB (e2 kC (ah 9) (eA f_ (a_ (eC (.str "names")) (a_ (ah 8) aJ))))))) (cW (eC (.bl false))) gU) (ba (bV 10 (dZ (bz 1 (pJ c)) [] (a_ (e2 (gI fS) (dZ (bz 2 (mQ c)) [] (a_ (ah 0) (a_ (eC (.int 2)) aJ))) (e2 hV (ah 1) (eC (.int 1)))) aJ))) (ba (gp (eB (e2 kC (dZ (bz 2 (yA c)) [] (a_ (ah 2) (a_ (ah 10) aJ))) (dZ (bz 2 (Dc c)) [] (a_ (ah 5) (a_ (ah 10) aJ))))) (cW (eC (.bl false))) gU) (ba (bV 11 (i4 1 [10] (FA c) (c0 0) (FC c) (Fz c) eU)) (cW (se (dZ (bz 3 (BJ c)) [] (a_ (ah 2) (a_ (ah 5) (a_ (ah 7) aJ)))) (dZ (bz 3 (BJ c)) [] (a_ (ah 2) (a_ (ah 5) (a_ (ah 11) aJ))))))))))))))))))))))
def T6(c:Cl):Fn:=c9 12 (T5 c)
end DN
namespace K11
open PySem L2 MF DN
def top(i:Nat):cm:=Cc.main.body.getD i (.Pass ⟨0,0,0,0⟩)
structure Tx(K:W.Frag)(mg:Str->Option af)(c:Cl):Prop where
 mh:nX K c.hallError=aa iH
 mro:∀C∈[c.noPiece,c.ring,c.barred],C≠c.hallError->nX K C=aa (.ref c.hallError::iH)
 FD:mg "any" = ae
 BK:mg "bool" = ae
 oy:∃t,mg "MOST_PIECES" = aa (.int 24 t)
 oz:∃t,mg "MOST_PLACES" = aa (.int 8 t)
 d3:nU K c.hall
 cV:oa K c.hall "pieces"
 eV:oa K c.hall "places"
 cR:nU K c.piece
 iV:oa K c.piece "ahead"
 jl:oa K c.piece "bars"
 iB:oa K c.piece "behind"
 nJ:oa K c.piece "by"
 pK:oa K c.piece "deed"
 gL:oa K c.piece "needs"
 nK:oa K c.piece "on"
 kD:oa K c.piece "place"
 qV:nU K c.place
 pL:oa K c.place "kind"
 pM:oa K c.place "rule"
 qW:t8 K c.barred
 oA:W.findIn K (.ref c.barred) "one" = aa ae
 mR:W.findIn K (.ref c.barred) "other" = aa ae
 T7:W.specialIn K (.ref c.hallError) "__getattribute__" = aa (aa (.builtin "type.__getattribute__"))
 T8:W.readsIn K c.hallError (.type "type")=true
 T9:W.findCls K (.ref c.hallError) (.type "type") "__init__" = aa (.val (.builtin "ValueError.__init__"))
 uu:rX K c.barred
 oB:W.findIn K (.ref c.barred) "one" = aa ae
 mS:W.findIn K (.ref c.barred) "other" = aa ae
 yB:rX K c.ring
 pN:W.findIn K (.ref c.ring) "ring" = aa ae
 FE:mg "int" = ae
 hZ:mg "isinstance" = ae
 mz:mg "len" = ae
 gG:mg "list" = ae
 qX:mg "Barred" = aa (.ref c.barred)
 mB:mg "HallError" = aa (.ref c.hallError)
 oZ:mg "NoPiece" = aa (.ref c.noPiece)
 vU:mg "Ring" = aa (.ref c.ring)
 FF:mg "min" = ae
 vV:c.barred≠c.hallError
 uv:nX K c.barred=aa (.ref c.hallError::iH)
 uw:c.noPiece≠c.hallError
 sy:nX K c.noPiece=aa (.ref c.hallError::iH)
 BL:c.ring≠c.hallError
 yC:nX K c.ring=aa (.ref c.hallError::iH)
 j6:mg "range" = ae
 FG:mg "str" = ae
 ux:W.excIn K c.noPiece iH "ValueError.__new__" = true
local macro_rules | `(tactic| walk_at "s") => `(tactic| exact ⟨rfl, rfl, rfl, by decide +kernel, rfl, by decide +kernel, by decide +kernel⟩)
abbrev NC:cm:=top 29
theorem zon:iw ["script", "k"] ["script", "k"] (e_ NC):=by walk_at "s"
abbrev ND:cm:=tY (top 21) 0
theorem zmp:iw ["self"] ["self"] (e_ ND):=by walk_at "s"
abbrev NF:cm:=tY (top 19) 0
theorem zlw:iw ["self", "kind", "rule"] ["self", "kind", "rule"] (e_ NF):=by walk_at "s"
abbrev NG:cm:=tY (top 21) 1
theorem zk5:iw ["self", "name", "kind", "rule"] ["self", "name", "kind", "rule"] (e_ NG):=by walk_at "s"
abbrev NH:cm:=top 30
theorem T_:iw ["k", "letters"] ["k"] (e_ NH):=by walk_at "s"
abbrev NI:cm:=tY (top 21) 9
theorem zk6:iw ["self", "name"] ["self", "name"] (e_ NI):=by walk_at "s"
abbrev NJ:cm:=tY (top 21) 10
theorem zk7:iw ["self", "name"] ["self", "name"] (e_ NJ):=by walk_at "s"
abbrev NK:cm:=tY (top 20) 0
theorem zly:iw ["self", "place", "deed", "by"] ["self", "place", "deed", "by"] (e_ NK):=by walk_at "s"
abbrev BM:cm:=tY (top 21) 2
theorem zr9:iw ["self", "name", "place", "deed", "by"] ["self", "name", "place", "deed", "by"] (e_ BM):=by walk_at "s"
abbrev NL:cm:=top 31
theorem zt5:iw ["cell", "many"] ["cell", "many"] (e_ NL):=by walk_at "s"
abbrev NM:cm:=top 22
theorem zz0:iw ["names"] ["names"] (e_ NM):=by walk_at "s"
abbrev De:cm:=tY (top 21) 3
theorem Ua:iw ["self", "name", "ahead", "behind", "needs", "bars", "piece"] ["self", "name", "ahead", "behind", "needs", "bars"] (e_ De):=by walk_at "s"
abbrev NO:cm:=top 35
theorem FH:iw ["hall", "row", "cell", "many", "handed", "k", "names"] ["hall", "row", "cell", "many"] (e_ NO):=by walk_at "s"
abbrev NP:cm:=top 36
theorem Df:iw ["hall", "script", "many", "early", "brought", "rows", "k", "by"] ["hall", "script", "many", "early", "brought"] (e_ NP):=by walk_at "s"
abbrev NQ:cm:=top 34
theorem Ub:iw ["found", "due", "k"] ["found", "due"] (e_ NQ):=by walk_at "s"
abbrev NR:cm:=tY (top 21) 6
theorem FI:iw ["self", "name", "gone", "other", "piece"] ["self", "name"] (e_ NR):=by walk_at "s"
abbrev NU:cm:=top 37
theorem FJ:iw ["hall", "rows", "at", "brought", "gone", "left", "name"] ["hall", "rows", "at", "brought"] (e_ NU):=by walk_at "s"
abbrev NV:cm:=top 32
theorem Uc:iw ["name", "left", "pairs", "pair"] ["name", "left", "pairs"] (e_ NV):=by walk_at "s"
abbrev NW:cm:=top 33
theorem IW:iw ["names", "pairs", "left", "found", "free"] ["names", "pairs"] (e_ NW):=by walk_at "s"
abbrev NX:cm:=top 38
theorem IX:iw ["rows", "names", "pairs", "row"] ["rows"] (e_ NX):=by walk_at "s"
abbrev NY:cm:=top 12
theorem BN:iw ["hall", "names", "seconds", "name", "piece", "other"] ["hall", "names"] (e_ NY):=by walk_at "s"
abbrev NZ:cm:=top 13
theorem Ud:iw ["seconds", "left", "name"] ["seconds", "left"] (e_ NZ):=by walk_at "s"
abbrev N0:cm:=top 15
theorem BO:iw ["seconds", "start", "rows", "reached", "longer", "row", "second"] ["seconds", "start"] (e_ N0):=by walk_at "s"
abbrev N1:cm:=top 14
theorem Ue:iw ["seconds", "rings"] ["seconds"] (e_ N1):=by walk_at "s"
abbrev N2:cm:=tY (top 7) 0
theorem zmq:iw ["self", "ring"] ["self", "ring"] (e_ N2):=by walk_at "s"
abbrev N3:cm:=top 11
theorem FK:iw ["hall", "names", "seconds", "left", "row", "name"] ["hall", "names"] (e_ N3):=by walk_at "s"
abbrev N4:cm:=tY (top 21) 8
theorem zw2:iw ["self", "place"] ["self", "place"] (e_ N4):=by walk_at "s"
abbrev N5:cm:=top 10
theorem z2t:iw ["hall", "place"] ["hall", "place"] (e_ N5):=by walk_at "s"
abbrev N6:cm:=top 41
theorem IY:iw ["hall", "found"] ["hall"] (e_ N6):=by walk_at "s"
abbrev N7:cm:=top 27
theorem FL:iw ["hall", "name", "gathered", "left", "one", "piece"] ["hall", "name"] (e_ N7):=by walk_at "s"
abbrev N8:cm:=tY (top 21) 5
theorem zqg:iw ["self"] ["self"] (e_ N8):=by walk_at "s"
abbrev N9:cm:=top 24
theorem IZ:iw ["hall", "names", "told", "one", "piece"] ["hall", "names"] (e_ N9):=by walk_at "s"
abbrev N_:cm:=tY (top 8) 0
theorem zk8:iw ["self", "one", "other"] ["self", "one", "other"] (e_ N_):=by walk_at "s"
abbrev Oa:cm:=top 26
theorem I0:iw ["hall", "name", "gathered", "names", "told"] ["hall", "name"] (e_ Oa):=by walk_at "s"
abbrev Ob:cm:=top 42
theorem Dg:iw ["hall", "name", "found", "e"] ["hall", "name"] (e_ Ob):=by walk_at "s"
abbrev Oc:cm:=top 39
theorem Od:iw ["rows", "names", "due", "row"] ["rows", "names"] (e_ Oc):=by walk_at "s"
abbrev Oe:cm:=top 40
theorem wQ:iw ["rows", "name", "needs", "row", "found", "one", "k", "other", "names", "lack"] ["rows", "name"] (e_ Oe):=by walk_at "s"
abbrev Of:cm:=top 25
theorem z59:iw ["hall", "names"] ["hall", "names"] (e_ Of):=by walk_at "s"
abbrev Og:cm:=top 43
theorem FO:iw ["hall", "rows", "names", "handed", "due", "found", "told"] ["hall", "rows", "names"] (e_ Og):=by walk_at "s"
abbrev Dh:cm:=top 44
theorem uy:iw ["script", "many", "hall", "early", "brought", "rows", "at", "names", "due", "found", "name", "some"] ["script"] (e_ Dh):=by walk_at "s"
section
variable (P:aX)(w:bB){K:W.Frag}{mg:Str->Option af}(base:bO){c:Cl}(T:Tx K mg c){f:aj}{fd:bI}{dV:af}
include T
set_option autoImplicit true
local macro_rules | `(tactic| walk_at "o") => `(tactic| first | exact Or.inl rfl | exact Or.inr rfl)
local macro_rules | `(tactic| walk_at "c") => `(tactic| exact ⟨rfl, (by first | exact Or.inr (Or.inl rfl) | exact Or.inr (Or.inr rfl)), (by walk_at "o"), (by walk_at "o"), rfl⟩)
theorem zoo(F:dr K "_law_cell_at" "_law_cell_at" NC dV f fd)  : bW P w K mg base (ee P w) 1 f fd ["script", "k"] (gK 2 (mQ c)):=
 jw F zon λ_ _ _ _ _ _ hr fF fm=>by exact(cJ (eE (LX (ev 1) (EW (by rfl) T.mz (ev 0))) (di (ie (dE (ev 0) (ev 1)))) jk) (di (ie d8)))
theorem zmr(F:dr K "__init__" "Hall.__init__" ND dV f fd)  : bW P w K mg base (ee P w) 1 f fd ["self"] (gK 1 (zG c)):=
 jw F zmp λ_ _ _ _ _ _ hr fF fm=>by exact(cJ (uR T.d3 T.eV (ev 0) CH) (di (uR T.d3 T.cV (ev 0) CH)))
theorem zl2(F:dr K "__init__" "Place.__init__" NF dV f fd)  : bW P w K mg base (ee P w) 1 f fd ["self", "kind", "rule"] (gK 3 (Ff c)):=
 jw F zlw λ_ _ _ _ _ _ hr fF fm=>by exact(cJ (uR T.qV T.pL (ev 0) (ev 1)) (di (uR T.qV T.pM (ev 0) (ev 2))))
theorem zk9(F:dr K "open_place" "Hall.open_place" NG dV f fd)(G0:uh P w K mg base 1 "Place" c.place ["self", "kind", "rule"] (Ff c) f0 g0):bW P w K mg base (ee P w) 3 f fd ["self", "name", "kind", "rule"] (gK 4 (Bv c)):=
 jw F zk5 λ_ _ _ _ _ _ hr fF fm=>by exact(cJ (eE (CF fF (ev 1) (mw T.d3 T.eV (ev 0))) CS jk) (cJ (eE (ET (RZ (by rfl) T.mz (mw T.d3 T.eV (ev 0))) (Sx (by rfl) T.oz)) CS jk) (di (xN fF (mw T.d3 T.eV (ev 0)) (ev 1) (Sv G0 hr (by rfl) fQ (bG (ev 2) (bG (ev 3) cp)))))))
theorem zt8(F:dr K "_law_name" "_law_name" NH dV f fd)  : bW P w K mg base (ee P w) 1 f fd ["k"] (gK 1 (pJ c)):=
 jw F T_ λ_ _ _ _ _ _ hr fF fm=>by exact(cJ (gr (i:=1) T_.nd (by rfl) (by walk_at "o") k7) (cJ (eE (pE fm (qN (ev 0) d8) d8) (di (ie (dE (ev 1) (qN (ev 0) d8)))) jk) (di (ie (z8w k7 (bG (HZ (xs:=["letters", "k"]) (js:=[1,0]) (nts:=["j"]) (by rfl) ⟨rfl,by decide +kernel,rfl,by decide +kernel,(λp hp=>by rcases aF.mp hp with rfl | hp;(· rfl);rcases ai.mp hp with rfl;rfl),rfl,⟨(by walk_at "c"),⟨(by walk_at "c"),trivial⟩⟩⟩ (Cr (by rfl) T.j6 (bG (xE d8 (qN (ev 0) d8)) cp)) CK (λ_ _ _=>(iF (i:=0) (show(["j", "letters", "k"]:List Str).Nodup by decide +kernel) (by rfl) (by walk_at "o"))) (iZ _) (λ_ _ _=>(dE (ev 1) (qN (xE (ev 2) (RG d8 (ev 0))) d8))) qq) cp))))))
theorem zla(F:dr K "find_place" "Hall.find_place" NI dV f fd)  : bW P w K mg base (ee P w) 1 f fd ["self", "name"] (gK 2 (Bw c)):=
 jw F zk6 λ_ _ _ _ _ _ hr fF fm=>by exact(cJ (eE (CG fF (ev 1) (mw T.d3 T.eV (ev 0))) CS jk) (di (ie (A5 fF (mw T.d3 T.eV (ev 0)) (ev 1)))))
theorem zlb(F:dr K "find_piece" "Hall.find_piece" NJ dV f fd)  : bW P w K mg base (ee P w) 1 f fd ["self", "name"] (gK 2 (qU c)):=
 jw F zk7 λ_ _ _ _ _ _ hr fF fm=>by exact(cJ (eE (CG fF (ev 1) (mw T.d3 T.cV (ev 0))) (di (z5x Zc (by rfl) T.ux (by rfl) T.oZ (bG (z2h (.cons k7 (.cons (z83 (ev 1)) (.cons k7 .nil)))) cp))) jk) (di (ie (A5 fF (mw T.d3 T.cV (ev 0)) (ev 1)))))
theorem zl3(F:dr K "__init__" "Piece.__init__" NK dV f fd)  : bW P w K mg base (ee P w) 1 f fd ["self", "place", "deed", "by"] (gK 4 (Bx c)):=
 jw F zly λ_ _ _ _ _ _ hr fF fm=>by exact(cJ (uR T.cR T.kD (ev 0) (ev 1)) (cJ (uR T.cR T.pK (ev 0) (ev 2)) (cJ (uR T.cR T.nJ (ev 0) (ev 3)) (cJ (uR T.cR T.nK (ev 0) qL) (cJ (uR T.cR T.iV (ev 0) (qp cp)) (cJ (uR T.cR T.iB (ev 0) (qp cp)) (cJ (uR T.cR T.gL (ev 0) (qp cp)) (di (uR T.cR T.jl (ev 0) (qp cp))))))))))
theorem zsa(F:dr K "hang" "Hall.hang" BM dV f fd)(G0:i' P w K mg base 2 c.hall "find_place" ["self", "name"] (Bw c) f0 g0)(G1:i' P w K mg base 2 c.hall "find_piece" ["self", "name"] (qU c) f1 g1)(G2:uh P w K mg base 1 "Piece" c.piece ["self", "place", "deed", "by"] (Bx c) f2 g2):bW P w K mg base (ee P w) 3 f fd ["self", "name", "place", "deed", "by"] (gK 5 (vS c)):=
 jw F zr9 λ_ _ _ _ _ _ hr fF fm=>by exact(cJ (eE (CF fF (ev 1) (mw T.d3 T.cV (ev 0))) CS jk) (cJ (jF (ui G0 hr fQ (ev 0) (bG (ev 2) cp))) (cJ (eE (L0 (ev 4) t9) (di (jF (ui G1 hr fQ (ev 0) (bG (ev 4) cp)))) jk) (cJ (eE (ET (RZ (by rfl) T.mz (mw T.d3 T.cV (ev 0))) (Sx (by rfl) T.oy)) CS jk) (di (xN fF (mw T.d3 T.cV (ev 0)) (ev 1) (Sv G2 hr (by rfl) fQ (bG (ev 2) (bG (ev 3) (bG (ev 4) cp))))))))))
theorem zt9(F:dr K "_law_some" "_law_some" NL dV f fd)(G0:FnAt P w K mg base 1 "_law_name" ["k"] (pJ c) f0 g0):bW P w K mg base (ee P w) 2 f fd ["cell", "many"] (gK 2 (By c)):=
 jw F zt5 λ_ _ _ _ _ _ hr fF fm=>by exact(cJ (eE (ES (qN (ev 0) d8) d8) (di (ie (oq cp))) jk) (cJ (eE (pE fm (qN (ev 0) d8) d8) (di (ie (oq (bG (iA G0 hr (by rfl) fQ (bG (qN (zu (ev 0) d8) (ev 1)) cp)) (bG (iA G0 hr (by rfl) fQ (bG (qN (zu (ev 0) d8) (ev 1)) cp)) cp))))) jk) (di (ie (oq (bG (iA G0 hr (by rfl) fQ (bG (qN (zu (ev 0) d8) (ev 1)) cp)) cp))))))
theorem zz2(F:dr K "wished" "wished" NM dV f fd)  : bW P w K mg base (ee P w) 1 f fd ["names"] (gK 1 (tD c)):=
 jw F zz0 λ_ _ _ _ _ _ hr fF fm=>by exact(di (ie (z5q (xJ (ev 0) t9) (oq cp) (CI (by rfl) (by rfl) T.gG (ev 0)))))
theorem zsb(F:dr K "wish" "Hall.wish" De dV f fd)(G0:i' P w K mg base 1 c.hall "find_piece" ["self", "name"] (qU c) f0 g0)(G1:FnAt P w K mg base 1 "wished" ["names"] (tD c) f1 g1):bW P w K mg base (ee P w) 2 f fd ["self", "name", "ahead", "behind", "needs", "bars"] (gK 6 (CU c)):=
 jw F Ua λ_ _ _ _ _ _ hr fF fm=>by exact(cJ (gr (i:=6) Ua.nd (by rfl) (by walk_at "o") (ui G0 hr fQ (ev 0) (bG (ev 1) cp))) (cJ (jF (uT (mw T.cR T.iV (ev 6)) (bG (iA G1 hr (by rfl) fQ (bG (ev 2) cp)) cp))) (cJ (jF (uT (mw T.cR T.iB (ev 6)) (bG (iA G1 hr (by rfl) fQ (bG (ev 3) cp)) cp))) (cJ (jF (uT (mw T.cR T.gL (ev 6)) (bG (iA G1 hr (by rfl) fQ (bG (ev 4) cp)) cp))) (di (jF (uT (mw T.cR T.jl (ev 6)) (bG (iA G1 hr (by rfl) fQ (bG (ev 5) cp)) cp))))))))
theorem zlc(F:dr K "_law_tell_wishes" "_law_tell_wishes" NO dV f fd)(G0:FnAt P w K mg base 2 "_law_some" ["cell", "many"] (By c) f0 g0)(G1:i' P w K mg base 2 c.hall "wish" ["self", "name", "ahead", "behind", "needs", "bars"] (CU c) f1 g1):bW P w K mg base (ee P w) 3 f fd ["hall", "row", "cell", "many"] (gK 4 (CW c)):=
 jw F FH λ_ _ _ _ _ _ hr fF fm=>by exact(cJ (gr (i:=4) FH.nd (by rfl) (by walk_at "o") (qp cp)) (cJ (nG aM (by rfl) (Cr (by rfl) T.j6 (bG d8 cp)) CK (iF (i:=5) FH.nd (by rfl) (by walk_at "o")) (iZ _) (cJ (gr (i:=6) FH.nd (by rfl) (by walk_at "o") (iA G0 hr (by rfl) fQ (bG (zu (ev 2) (dE (oq (bG d8 (bG d8 (bG d8 (bG d8 cp))))) (ev 5))) (bG (xE (ev 3) d8) cp)))) (cJ (jF (uT (dE (ev 1) (xE d8 (ev 5))) (bG (ev 6) cp))) (di (eE ((CD (pE fm (ev 6) (oq cp)) (CC (pE fm (qN (zu (ev 2) d8) d8) d8)))).pt (di (jF (xP (ev 4) (bG t9 cp)))) (di (jF (xP (ev 4) (bG (HQ (by rfl) (by rfl) T.gG (ev 6)) cp))))))))) (cJ (jF (ui G1 hr fQ (ev 0) (bG (dE (ev 1) d8) (bG (dE (ev 4) d8) (bG (dE (ev 4) d8) (bG (dE (ev 4) d8) (bG (dE (ev 4) d8) cp))))))) (di (nG aM (by rfl) (j_ (ev 4)) (kd _) (iF (i:=6) FH.nd (by rfl) (by walk_at "o")) (iZ _) (di (eE (L0 (ev 6) t9) (di (jF (R' (ev 6)))) jk)))))))
theorem zqh(F:dr K "_law_filled" "_law_filled" NP dV f fd)(G0:FnAt P w K mg base 3 "_law_name" ["k"] (pJ c) f0 g0)(G1:i' P w K mg base 3 c.hall "hang" ["self", "name", "place", "deed", "by"] (vS c) f1 g1)(G2:FnAt P w K mg base 3 "_law_tell_wishes" ["hall", "row", "cell", "many"] (CW c) f2 g2)(G3:FnAt P w K mg base 3 "_law_cell_at" ["script", "k"] (mQ c) f3 g3):bW P w K mg base (ee P w) 4 f fd ["hall", "script", "many", "early", "brought"] (gK 5 (CY c)):=
 jw F Df λ_ _ _ _ _ _ hr fF fm=>by exact(cJ (gr (i:=5) Df.nd (by rfl) (by walk_at "o") (qp cp)) (cJ (nG aM (by rfl) (Cr (by rfl) T.j6 (bG (ev 2) cp)) CK (iF (i:=6) Df.nd (by rfl) (by walk_at "o")) (iZ _) (cJ (gr (i:=7) Df.nd (by rfl) (by walk_at "o") t9) (cJ (eE ((CD (sd (ev 4)) (CC (ES (ev 6) d8)))).pt (di (gr (i:=7) Df.nd (by rfl) (by walk_at "o") (iA G0 hr (by rfl) fQ (bG (RF (ev 6) d8) cp)))) jk) (cJ (jF (ui G1 hr fQ (ev 0) (bG (iA G0 hr (by rfl) fQ (bG (ev 6) cp)) (bG k7 (bG (oY (bG k7 cp)) (bG (ev 7) cp)))))) (cJ (jF (xP (ev 5) (bG (oq (bG (iA G0 hr (by rfl) fQ (bG (ev 6) cp)) (bG (qp cp) (bG (qp cp) (bG (qp cp) (bG (qp cp) cp)))))) cp))) (di (eE (sd (ev 3)) (di (jF (iA G2 hr (by rfl) fQ (bG (ev 0) (bG (dE (ev 5) (ev 6)) (bG (iA G3 hr (by rfl) fQ (bG (ev 1) (bG (xE d8 (ev 6)) cp))) (bG (ev 2) cp))))))) jk))))))) (cJ (nG aM (by rfl) (Cr (by rfl) T.j6 (bG (RG (ev 2) (xE d8 (z9w (by rfl) T.FE (Zbl (ev 3))))) cp)) CK (iF (i:=6) Df.nd (by rfl) (by walk_at "o")) (iZ _) (di (jF (iA G2 hr (by rfl) fQ (bG (ev 0) (bG (dE (ev 5) (qN (ev 6) (ev 2))) (bG (iA G3 hr (by rfl) fQ (bG (ev 1) (bG (RF d8 (ev 6)) cp))) (bG (ev 2) cp)))))))) (di (ie (ev 5))))))
theorem zsc(F:dr K "_law_texts" "_law_texts" NQ dV f fd)  : bW P w K mg base (ee P w) 1 f fd ["found", "due"] (gK 2 (Bz c)):=
 jw F Ub λ_ _ _ _ _ _ hr fF fm=>by exact(cJ (eE ((xI (EU (sd (HR .list (by rfl) T.hZ (ev 0) (by rfl) T.gG (by decide +kernel)))) (HM (qP fm (EW (by rfl) T.mz (ev 0)) (EW (by rfl) T.mz (ev 1)))))).pt (di (ie qL)) jk) (cJ (nG aM (by rfl) (Cr (by rfl) T.j6 (bG (EW (by rfl) T.mz (ev 1)) cp)) CK (iF (i:=2) Ub.nd (by rfl) (by walk_at "o")) (iZ _) (di (eE ((xI (EU (sd (HR .str (by rfl) T.hZ (dE (ev 0) (ev 2)) (by rfl) T.FG (by decide +kernel)))) (HM (qP fm (dE (ev 0) (ev 2)) (dE (ev 1) (ev 2)))))).pt (di (ie qL)) jk))) (di (ie qL))))
theorem zsd(F:dr K "drop" "Hall.drop" NR dV f fd)(G0:i' P w K mg base 1 c.hall "find_piece" ["self", "name"] (qU c) f0 g0):bW P w K mg base (ee P w) 2 f fd ["self", "name"] (gK 2 (CZ c)):=
 jw F FI λ_ _ _ _ _ _ hr fF fm=>by exact(cJ (jF (ui G0 hr fQ (ev 0) (bG (ev 1) cp))) (cJ (gr (i:=2) FI.nd (by rfl) (by walk_at "o") (Te (ev 1) qL)) (cJ (z9o aM (by rfl) (mw T.d3 T.cV (ev 0)) (PX (by rfl) (GX (iF (i:=3) FI.nd (by rfl) (by walk_at "o")) (GX (iF (i:=4) FI.nd (by rfl) (by walk_at "o")) PV))) (Sa _ _ _) (di (eE (CF fF (mw T.cR T.nJ (ev 4)) (ev 2)) (di (xN fF (ev 2) (ev 3) qL)) jk))) (cJ (z9p aM (by rfl) (ev 2) (iF (i:=3) FI.nd (by rfl) (by walk_at "o")) (iZ _) (di (jF (z9q (mw T.d3 T.cV (ev 0)) (ev 3))))) (di (ie (CI (by rfl) (by rfl) T.gG (ev 2))))))))
theorem zms(F:dr K "_law_hung_anew" "_law_hung_anew" NU dV f fd)(G0:FnAt P w K mg base 3 "_law_texts" ["found", "due"] (Bz c) f0 g0)(G1:i' P w K mg base 3 c.hall "drop" ["self", "name"] (CZ c) f1 g1)(G2:i' P w K mg base 3 c.hall "hang" ["self", "name", "place", "deed", "by"] (vS c) f2 g2)(B21:mK K g2 ["self", "name", "place", "deed", "by"] [.none]):bW P w K mg base (ee P w) 4 f fd ["hall", "rows", "at", "brought"] (gK 4 (Fk c)):=
 jw F FJ λ_ _ _ _ _ _ hr fF fm=>by exact(cJ (gr (i:=4) FJ.nd (by rfl) (by walk_at "o") (oq (bG (dE (dE (ev 1) (ev 2)) d8) cp))) (cJ (eE (sd (ev 3)) (di (gr (i:=4) FJ.nd (by rfl) (by walk_at "o") (HZ (xs:=[]) (js:=[]) (nts:=["row"]) (by rfl) ⟨rfl,by decide +kernel,rfl,by decide +kernel,(λp hp=>absurd hp bK),rfl,trivial⟩ (j_ (z50 (ev 1) (z86 (ev 2)) z85)) (kd _) (λ_ _ _=>(iF (i:=0) (show(["row"]:List Str).Nodup by decide +kernel) (by rfl) (by walk_at "o"))) (iZ _) (λ_ _ _=>(dE (ev 0) d8)) qq))) jk) (cJ (eE (EU (sd (iA G0 hr (by rfl) fQ (bG (ui G1 hr fQ (ev 0) (bG (dE (dE (ev 1) (ev 2)) d8) cp)) (bG (ev 4) cp))))) CS jk) (cJ (E2 (i:=5) (xs:=["gone"]) (js:=[4]) (nts:=["row"]) (by rfl) ⟨rfl,by decide +kernel,rfl,by decide +kernel,(λp hp=>by rcases ai.mp hp with rfl;rfl),rfl,⟨(by walk_at "c"),trivial⟩⟩ (j_ (ev 1)) (kd _) (λ_ _ _=>(iF (i:=0) (show(["row", "gone"]:List Str).Nodup by decide +kernel) (by rfl) (by walk_at "o"))) (iZ _) (λ_ _ _=>(HL fm (dE (ev 0) d8) (ev 1))) (λ_ _ _=>(ev 0)) Zbt FJ.nd (by rfl) (by walk_at "o") Bc) (cJ (nG aM (by rfl) (j_ (ev 4)) (kd _) (iF (i:=6) FJ.nd (by rfl) (by walk_at "o")) (iZ _) (cJ (jF (z5v G2 hr fQ B21 zza zzb (ev 0) (bG (ev 6) (bG k7 (bG (oY (bG k7 cp)) cp))))) (di (jF (xP (ev 5) (bG (oq (bG (ev 6) (bG (oq cp) (bG (oq cp) (bG (oq cp) (bG (oq cp) cp)))))) cp)))))) (di (ie (ev 5))))))))
theorem zua(F:dr K "_law_free" "_law_free" NV dV f fd)  : bW P w K mg base (ee P w) 1 f fd ["name", "left", "pairs"] (gK 3 (C0 c)):=
 jw F Uc λ_ _ _ _ _ _ hr fF fm=>by exact(cJ (nG aM (by rfl) (j_ (ev 2)) (kd _) (iF (i:=3) Uc.nd (by rfl) (by walk_at "o")) (iZ _) (di (eE ((CD (pE fm (dE (ev 3) d8) (ev 0)) (CC (qQ fm (dE (ev 3) d8) (ev 1))))).pt (di (ie qL)) jk))) (di (ie qL)))
theorem zse(F:dr K "_law_order" "_law_order" NW dV f fd)(G0:FnAt P w K mg base 1 "_law_free" ["name", "left", "pairs"] (C0 c) f0 g0):bW P w K mg base (ee P w) 2 f fd ["names", "pairs"] (gK 2 (zI c)):=
 bW.dY (jw F IW λ_ _ _ _ _ _ hr fF fm=>by exact(cJ (gr (i:=2) IW.nd (by rfl) (by walk_at "o") (HQ (by rfl) (by rfl) T.gG (ev 0))) (cJ (gr (i:=3) IW.nd (by rfl) (by walk_at "o") (qp cp)) (cJ (HW aM (qP fm (ev 2) (oq cp)) (cJ (E2 (i:=4) (xs:=["left", "pairs"]) (js:=[2,1]) (nts:=["name"]) (by rfl) ⟨rfl,by decide +kernel,rfl,by decide +kernel,(λp hp=>by rcases aF.mp hp with rfl | hp;(· rfl);rcases ai.mp hp with rfl;rfl),rfl,⟨(by walk_at "c"),⟨(by walk_at "c"),trivial⟩⟩⟩ (j_ (ev 2)) (kd _) (λ_ _ _=>(iF (i:=0) (show(["name", "left", "pairs"]:List Str).Nodup by decide +kernel) (by rfl) (by walk_at "o"))) (iZ _) (λ_ _ _=>(sd (TC G0 hr (by rfl) Ie (bG (ev 0) (bG (ev 1) (bG (ev 2) cp)))))) (λ_ _ _=>(ev 0)) qq IW.nd (by rfl) (by walk_at "o") Bc) (cJ (eE (pE fm (ev 4) (oq cp)) (di (ie t9)) jk) (cJ (jF (xP (ev 3) (bG (dE (ev 4) d8) cp))) (di (jF (SA (ev 2) (bG (dE (ev 4) d8) cp)))))))) (di (ie (ev 3)))))))
theorem zn2(F:dr K "_law_pairs_of" "_law_pairs_of" NX dV f fd)  : bW P w K mg base (ee P w) 1 f fd ["rows"] (gK 1 (C1 c)):=
 bW.dY (jw F IX λ_ _ _ _ _ _ hr fF fm=>by exact(cJ (gr (i:=1) IX.nd (by rfl) (by walk_at "o") (HZ (xs:=[]) (js:=[]) (nts:=["row"]) (by rfl) ⟨rfl,by decide +kernel,rfl,by decide +kernel,(λp hp=>absurd hp bK),rfl,trivial⟩ (j_ (ev 0)) (kd _) (λ_ _ _=>(iF (i:=0) (show(["row"]:List Str).Nodup by decide +kernel) (by rfl) (by walk_at "o"))) (iZ _) (λ_ _ _=>(dE (ev 0) d8)) qq)) (cJ (gr (i:=2) IX.nd (by rfl) (by walk_at "o") (qp cp)) (cJ (nG aM (by rfl) (j_ (ev 0)) (kd _) (iF (i:=3) IX.nd (by rfl) (by walk_at "o")) (iZ _) (cJ (jF (uT (ev 2) (bG (Bb (xs:=["row", "names"]) (js:=[3,1]) (nts:=["other"]) (by rfl) ⟨rfl,by decide +kernel,rfl,by decide +kernel,(λp hp=>by rcases aF.mp hp with rfl | hp;(· rfl);rcases ai.mp hp with rfl;rfl),rfl,⟨(by walk_at "c"),⟨(by walk_at "c"),trivial⟩⟩⟩ (j_ (dE (ev 3) d8)) (kd _) (λ_ _ _=>(iF (i:=0) (show(["other", "row", "names"]:List Str).Nodup by decide +kernel) (by rfl) (by walk_at "o"))) (iZ _) (λ_ _ _=>(qQ fm (ev 0) (ev 2))) (λ_ _ _=>(oY (bG (dE (ev 1) d8) (bG (ev 0) cp)))) qq) cp))) (di (jF (uT (ev 2) (bG (Bb (xs:=["row", "names"]) (js:=[3,1]) (nts:=["other"]) (by rfl) ⟨rfl,by decide +kernel,rfl,by decide +kernel,(λp hp=>by rcases aF.mp hp with rfl | hp;(· rfl);rcases ai.mp hp with rfl;rfl),rfl,⟨(by walk_at "c"),⟨(by walk_at "c"),trivial⟩⟩⟩ (j_ (dE (ev 3) d8)) (kd _) (λ_ _ _=>(iF (i:=0) (show(["other", "row", "names"]:List Str).Nodup by decide +kernel) (by rfl) (by walk_at "o"))) (iZ _) (λ_ _ _=>(qQ fm (ev 0) (ev 2))) (λ_ _ _=>(oY (bG (ev 0) (bG (dE (ev 1) d8) cp)))) qq) cp)))))) (di (ie (ev 2)))))))
theorem zqi(F:dr K "seconds_of" "seconds_of" NY dV f fd)(G0:i' P w K mg base 1 c.hall "find_piece" ["self", "name"] (qU c) f0 g0):bW P w K mg base (ee P w) 2 f fd ["hall", "names"] (gK 2 (Fo c)):=
 bW.dY (jw F BN λ_ _ _ _ _ _ hr fF fm=>by exact(cJ (gr (i:=2) BN.nd (by rfl) (by walk_at "o") CH) (cJ (nG aM (by rfl) (j_ (ev 1)) (kd _) (iF (i:=3) BN.nd (by rfl) (by walk_at "o")) (iZ _) (di (xN fF (ev 2) (ev 3) CH))) (cJ (nG aM (by rfl) (j_ (ev 1)) (kd _) (iF (i:=3) BN.nd (by rfl) (by walk_at "o")) (iZ _) (cJ (gr (i:=4) BN.nd (by rfl) (by walk_at "o") (ui G0 hr fQ (ev 0) (bG (ev 3) cp))) (cJ (nG aM (by rfl) (j_ (mw T.cR T.iV (ev 4))) (kd _) (iF (i:=5) BN.nd (by rfl) (by walk_at "o")) (iZ _) (di (eE (CF fF (ev 5) (ev 2)) (di (xN fF (A5 fF (ev 2) (ev 3)) (ev 5) qL)) jk))) (di (nG aM (by rfl) (j_ (mw T.cR T.iB (ev 4))) (kd _) (iF (i:=5) BN.nd (by rfl) (by walk_at "o")) (iZ _) (di (eE (CF fF (ev 5) (ev 2)) (di (xN fF (A5 fF (ev 2) (ev 5)) (ev 3) qL)) jk))))))) (di (ie (ev 2)))))))
theorem zmt(F:dr K "earliest_free" "earliest_free" NZ dV f fd)  : bW P w K mg base (ee P w) 1 f fd ["seconds", "left"] (gK 2 (C6 c)):=
 jw F Ud λ_ _ _ _ _ _ hr fF fm=>by exact(cJ (nG aM (by rfl) (j_ (ev 1)) (kd _) (iF (i:=2) Ud.nd (by rfl) (by walk_at "o")) (iZ _) (di (eE (EU (sd (Zb4 (by rfl) (by rfl) T.FD (HZ (xs:=["name", "seconds"]) (js:=[2,0]) (nts:=["first"]) (by rfl) ⟨rfl,by decide +kernel,rfl,by decide +kernel,(λp hp=>by rcases aF.mp hp with rfl | hp;(· rfl);rcases ai.mp hp with rfl;rfl),rfl,⟨(by walk_at "c"),⟨(by walk_at "c"),trivial⟩⟩⟩ (j_ (ev 1)) (kd _) (λ_ _ _=>(iF (i:=0) (show(["first", "name", "seconds"]:List Str).Nodup by decide +kernel) (by rfl) (by walk_at "o"))) (iZ _) (λ_ _ _=>(Zbo fF (ev 1) (A5 fF (ev 2) (ev 0)))) qq)))) (di (ie (ev 2))) jk))) (di (ie t9)))
theorem zn3(F:dr K "ring_through" "ring_through" N0 dV f fd)  : bW P w K mg base (ee P w) 1 f fd ["seconds", "start"] (gK 2 (ID c)):=
 bW.dY (jw F BO λ_ _ _ _ _ _ hr fF fm=>by exact(cJ (gr (i:=2) BO.nd (by rfl) (by walk_at "o") (oq (bG (oq (bG (ev 1) cp)) cp))) (cJ (gr (i:=3) BO.nd (by rfl) (by walk_at "o") (Te (ev 1) qL)) (cJ (HW aM (sd (ev 2)) (cJ (gr (i:=4) BO.nd (by rfl) (by walk_at "o") (qp cp)) (cJ (nG aM (by rfl) (j_ (ev 2)) (kd _) (iF (i:=5) BO.nd (by rfl) (by walk_at "o")) (iZ _) (di (nG aM (by rfl) (Lo (A5 fF (ev 0) (dE (ev 5) (Zb6 d8)))) Sd (iF (i:=6) BO.nd (by rfl) (by walk_at "o")) (iZ _) (cJ (eE (pE fm (ev 6) (ev 1)) (di (ie (ev 5))) jk) (di (eE (CG fF (ev 6) (ev 3)) (cJ (xN fF (ev 3) (ev 6) qL) (di (jF (xP (ev 4) (bG (xE (ev 5) (oq (bG (ev 6) cp))) cp))))) jk)))))) (di (gr (i:=2) BO.nd (by rfl) (by walk_at "o") (ev 4)))))) (di (ie (oq cp)))))))
theorem zmu(F:dr K "shortest_ring" "shortest_ring" N1 dV f fd)(G0:FnAt P w K mg base 1 "ring_through" ["seconds", "start"] (ID c) f0 g0):bW P w K mg base (ee P w) 2 f fd ["seconds"] (gK 1 (Fq c)):=
 jw F Ue λ_ _ _ _ _ _ hr fF fm=>by exact(cJ (Sj (i:=1) (xs:=["seconds"]) (js:=[0]) (nts:=["name"]) (by rfl) ⟨rfl,by decide +kernel,rfl,by decide +kernel,(λp hp=>by rcases ai.mp hp with rfl;rfl),rfl,⟨(by walk_at "c"),trivial⟩⟩ (Lo (ev 0)) Sd (λ_ _ _=>(iF (i:=0) (show(["name", "seconds"]:List Str).Nodup by decide +kernel) (by rfl) (by walk_at "o"))) (iZ _) (λ_ _ _=>(TC G0 hr (by rfl) Ie (bG (ev 1) (bG (ev 0) cp)))) qq Ue.nd (by rfl) (by walk_at "o") Bc) (di (ie (z2p (by rfl) (by rfl) T.FF (by rfl) T.mz (Bb (xs:=[]) (js:=[]) (nts:=["ring"]) (by rfl) ⟨rfl,by decide +kernel,rfl,by decide +kernel,(λp hp=>absurd hp bK),rfl,trivial⟩ (j_ (ev 1)) (kd _) (λ_ _ _=>(iF (i:=0) (show(["ring"]:List Str).Nodup by decide +kernel) (by rfl) (by walk_at "o"))) (iZ _) (λ_ _ _=>(sd (ev 0))) (λ_ _ _=>(ev 0)) qq)))))
theorem zmv(F:dr K "__init__" "Ring.__init__" N2 dV f fd)(q:pB K c.ring f=true):bW P w K mg base (ee P w) 1 f fd ["self", "ring"] (x8 c.ring "ring"):=
 z2q F zmq T.yB q T.pN (λgE A outer s H E hr=>GV (Kh (Ru (by rfl) T.mB T.T7 T.T8 T.T9 (vo (uK (i:=0) (by rfl) (by first | exact dJ rfl | exact cz (dJ rfl) | exact cz (cz rfl))) (vo (Lx (.cons Kb (.cons (z2n hr.gd hr.units (uK (i:=1) (by rfl) (by first | exact dJ rfl | exact cz (dJ rfl) | exact cz (cz rfl)))) .nil))) zg)))) (Kf (LJ (uK (i:=0) (by rfl) (by first | exact dJ rfl | exact cz (dJ rfl) | exact cz (cz rfl))) (Qw KO (by rfl) T.gG J4 (vo (uK (i:=1) (by rfl) (by first | exact dJ rfl | exact cz (dJ rfl) | exact cz (cz rfl))) zg)) (by rfl)))) (z2s "the wishes go round: " (by decide)) (zzy K)
theorem zop(F:dr K "order_among" "order_among" N3 dV f fd)(G0:FnAt P w K mg base 2 "seconds_of" ["hall", "names"] (Fo c) f0 g0)(G1:FnAt P w K mg base 2 "earliest_free" ["seconds", "left"] (C6 c) f1 g1)(G2:FnAt P w K mg base 2 "shortest_ring" ["seconds"] (Fq c) f2 g2)(G3:MS P w K mg base 1 c.ring "ring" ["self", "ring"] f3 g3):bW P w K mg base (ee P w) 3 f fd ["hall", "names"] (gK 2 (BE c)):=
 jw F FK λ_ _ _ _ _ _ hr fF fm=>by exact(cJ (gr (i:=2) FK.nd (by rfl) (by walk_at "o") (iA G0 hr (by rfl) fQ (bG (ev 0) (bG (ev 1) cp)))) (cJ (gr (i:=3) FK.nd (by rfl) (by walk_at "o") (HQ (by rfl) (by rfl) T.gG (ev 1))) (cJ (gr (i:=4) FK.nd (by rfl) (by walk_at "o") (qp cp)) (cJ (HW aM (sd (ev 3)) (cJ (gr (i:=5) FK.nd (by rfl) (by walk_at "o") (iA G1 hr (by rfl) fQ (bG (ev 2) (bG (ev 3) cp)))) (cJ (eE (xJ (ev 5) t9) (di (z2r Rv (by rfl) G3.q G3.hf G3.ok hr G3.hb (by rfl) T.vU (bG (iA G2 hr (by rfl) fQ (bG (ev 2) cp)) cp))) jk) (cJ (jF (SA (ev 3) (bG (ev 5) cp))) (di (jF (xP (ev 4) (bG (ev 5) cp)))))))) (di (ie (ev 4)))))))
theorem zw4(F:dr K "at" "Hall.at" N4 dV f fd)(G0:i' P w K mg base 1 c.hall "find_place" ["self", "name"] (Bw c) f0 g0):bW P w K mg base (ee P w) 2 f fd ["self", "place"] (gK 2 (Fs c)):=
 jw F zw2 λ_ _ _ _ _ _ hr fF fm=>by exact(cJ (jF (ui G0 hr fQ (ev 0) (bG (ev 1) cp))) (di (ie (z55 (xs:=["place"]) (js:=[1]) (nts:=["name", "piece"]) (by rfl) ⟨rfl,by decide +kernel,rfl,by decide +kernel,(λp hp=>by rcases ai.mp hp with rfl;rfl),rfl,⟨(by walk_at "c"),trivial⟩⟩ (mw T.d3 T.cV (ev 0))  (λ_ _ _=>(PX (by rfl) (GX (iF (i:=0) (show(["name", "piece", "place"]:List Str).Nodup by decide +kernel) (by rfl) (by walk_at "o")) (GX (iF (i:=1) (show(["name", "piece", "place"]:List Str).Nodup by decide +kernel) (by rfl) (by walk_at "o")) PV)))) (Sa _ _ _) (λ_ _ _=>((CD (pE fm (mw T.cR T.kD (ev 1)) (ev 2)) (CC (sd (mw T.cR T.nK (ev 1)))))).pt) (λ_ _ _=>(ev 0)) qq))))
theorem z2u(F:dr K "order" "order" N5 dV f fd)(G0:FnAt P w K mg base 3 "order_among" ["hall", "names"] (BE c) f0 g0)(G1:i' P w K mg base 3 c.hall "at" ["self", "place"] (Fs c) f1 g1):bW P w K mg base (ee P w) 4 f fd ["hall", "place"] (gK 2 (BF c)):=
 jw F z2t λ_ _ _ _ _ _ hr fF fm=>by exact(di (ie (iA G0 hr (by rfl) fQ (bG (ev 0) (bG (ui G1 hr fQ (ev 0) (bG (ev 1) cp)) cp)))))
theorem zl4(F:dr K "_law_order_told" "_law_order_told" N6 dV f fd)(G0:FnAt P w K mg base 4 "order" ["hall", "place"] (BF c) f0 g0):bW P w K mg base (ee P w) 5 f fd ["hall"] (gK 1 (BG c)):=
 bW.dY (jw F IY λ_ _ _ _ _ _ hr fF fm=>by exact(cJ (gr (i:=1) IY.nd (by rfl) (by walk_at "o") t9) (cJ (S8 (js:=[1]) (fb:=(IG c)) (λpn kn xe R hk AK own=>(di (gr (i:=1) IY.nd (by rfl) (by walk_at "o") (oY (bG k7 (bG (iA G0 hr (by rfl) AK (bG (ev 0) (bG k7 cp))) cp))) (hkn:=λu=>hk 1 (by decide) u)))) (S7 (by rfl) T.vU T.yC (MN T.mro T.mh T.BL) (λ_=>(di (gr (i:=1) IY.nd (by rfl) (by walk_at "o") (oY (bG k7 cp))))) SX)) (di (ie (ev 1))))))
theorem zn4(F:dr K "gather_needs" "gather_needs" N7 dV f fd)(G0:i' P w K mg base 1 c.hall "find_piece" ["self", "name"] (qU c) f0 g0):bW P w K mg base (ee P w) 2 f fd ["hall", "name"] (gK 2 (BH c)):=
 bW.dY (jw F FL λ_ _ _ _ _ _ hr fF fm=>by exact(cJ (gr (i:=2) FL.nd (by rfl) (by walk_at "o") CH) (cJ (gr (i:=3) FL.nd (by rfl) (by walk_at "o") (qp (bG (ev 1) cp))) (cJ (HW aM (sd (ev 3)) (cJ (gr (i:=4) FL.nd (by rfl) (by walk_at "o") (Zbr (ev 3))) (di (eE (CG fF (ev 4) (ev 2)) (cJ (gr (i:=5) FL.nd (by rfl) (by walk_at "o") (ui G0 hr fQ (ev 0) (bG (ev 4) cp))) (cJ (xN fF (ev 2) (ev 4) qL) (di (jF (uT (ev 3) (bG (mw T.cR T.gL (ev 5)) cp)))))) jk)))) (di (ie (ev 2)))))))
theorem zqj(F:dr K "names" "Hall.names" N8 dV f fd)  : bW P w K mg base (ee P w) 1 f fd ["self"] (gK 1 (zL c)):=
 jw F zqg λ_ _ _ _ _ _ hr fF fm=>by exact(di (ie (CI (by rfl) (by rfl) T.gG (mw T.d3 T.cV (ev 0)))))
theorem z2v(F:dr K "lacks" "lacks" N9 dV f fd)(G0:i' P w K mg base 1 c.hall "names" ["self"] (zL c) f0 g0)(G1:i' P w K mg base 1 c.hall "find_piece" ["self", "name"] (qU c) f1 g1):bW P w K mg base (ee P w) 2 f fd ["hall", "names"] (gK 2 (wN c)):=
 jw F IZ λ_ _ _ _ _ _ hr fF fm=>by exact(cJ (gr (i:=2) IZ.nd (by rfl) (by walk_at "o") (qp cp)) (cJ (nG aM (by rfl) (j_ (Ss G0 hr fQ (ev 0))) (kd _) (iF (i:=3) IZ.nd (by rfl) (by walk_at "o")) (iZ _) (di (eE (qQ fm (ev 3) (ev 1)) (cJ (gr (i:=4) IZ.nd (by rfl) (by walk_at "o") (ui G1 hr fQ (ev 0) (bG (ev 3) cp))) (cJ (jF (uT (ev 2) (bG (Bb (xs:=["one", "names"]) (js:=[3,1]) (nts:=["other"]) (by rfl) ⟨rfl,by decide +kernel,rfl,by decide +kernel,(λp hp=>by rcases aF.mp hp with rfl | hp;(· rfl);rcases ai.mp hp with rfl;rfl),rfl,⟨(by walk_at "c"),⟨(by walk_at "c"),trivial⟩⟩⟩ (j_ (mw T.cR T.gL (ev 4))) (kd _) (λ_ _ _=>(iF (i:=0) (show(["other", "one", "names"]:List Str).Nodup by decide +kernel) (by rfl) (by walk_at "o"))) (iZ _) (λ_ _ _=>(HL fm (ev 0) (ev 2))) (λ_ _ _=>(oY (bG k7 (bG (ev 1) (bG (ev 0) cp))))) qq) cp))) (di (jF (uT (ev 2) (bG (Bb (xs:=["one", "names"]) (js:=[3,1]) (nts:=["other"]) (by rfl) ⟨rfl,by decide +kernel,rfl,by decide +kernel,(λp hp=>by rcases aF.mp hp with rfl | hp;(· rfl);rcases ai.mp hp with rfl;rfl),rfl,⟨(by walk_at "c"),⟨(by walk_at "c"),trivial⟩⟩⟩ (j_ (mw T.cR T.jl (ev 4))) (kd _) (λ_ _ _=>(iF (i:=0) (show(["other", "one", "names"]:List Str).Nodup by decide +kernel) (by rfl) (by walk_at "o"))) (iZ _) (λ_ _ _=>(qQ fm (ev 0) (ev 2))) (λ_ _ _=>(oY (bG k7 (bG (ev 1) (bG (ev 0) cp))))) qq) cp)))))) jk))) (di (ie (ev 2)))))
theorem zld(F:dr K "__init__" "Barred.__init__" N_ dV f fd)(q:pB K c.barred f=true):bW P w K mg base (ee P w) 1 f fd ["self", "one", "other"] (xW c.barred "one" "other" true):=
 z2j F zk8 T.uu q T.oB T.mS (λgE A outer s H E hr=>GV (Kh (Ru (by rfl) T.mB T.T7 T.T8 T.T9 (vo (uK (i:=0) (by rfl) (by first | exact dJ rfl | exact cz (dJ rfl) | exact cz (cz rfl))) (vo (Lx (.cons (Lw (uK (i:=1) (by rfl) (by first | exact dJ rfl | exact cz (dJ rfl) | exact cz (cz rfl)))) (.cons Kb (.cons (Lw (uK (i:=2) (by rfl) (by first | exact dJ rfl | exact cz (dJ rfl) | exact cz (cz rfl)))) .nil)))) zg)))) (GV (LJ (uK (i:=0) (by rfl) (by first | exact dJ rfl | exact cz (dJ rfl) | exact cz (cz rfl))) (uK (i:=1) (by rfl) (by first | exact dJ rfl | exact cz (dJ rfl) | exact cz (cz rfl))) (by rfl)) (Kf (LJ (uK (i:=0) (by rfl) (by first | exact dJ rfl | exact cz (dJ rfl) | exact cz (cz rfl))) (uK (i:=2) (by rfl) (by first | exact dJ rfl | exact cz (dJ rfl) | exact cz (cz rfl))) (by rfl))))) (z58 " bars " (by decide))
theorem zqk(F:dr K "with_needs" "with_needs" Oa dV f fd)(G0:FnAt P w K mg base 2 "gather_needs" ["hall", "name"] (BH c) f0 g0)(G1:i' P w K mg base 2 c.hall "names" ["self"] (zL c) f1 g1)(G2:FnAt P w K mg base 2 "lacks" ["hall", "names"] (wN c) f2 g2)(G3:MT P w K mg base 1 c.barred "one" "other" true ["self", "one", "other"] f3 g3):bW P w K mg base (ee P w) 3 f fd ["hall", "name"] (gK 2 (zM c)):=
 jw F I0 λ_ _ _ _ _ _ hr fF fm=>by exact(cJ (gr (i:=2) I0.nd (by rfl) (by walk_at "o") (iA G0 hr (by rfl) fQ (bG (ev 0) (bG (ev 1) cp)))) (cJ (E2 (i:=3) (xs:=["gathered"]) (js:=[2]) (nts:=["one"]) (by rfl) ⟨rfl,by decide +kernel,rfl,by decide +kernel,(λp hp=>by rcases ai.mp hp with rfl;rfl),rfl,⟨(by walk_at "c"),trivial⟩⟩ (j_ (Ss G1 hr fQ (ev 0))) (kd _) (λ_ _ _=>(iF (i:=0) (show(["one", "gathered"]:List Str).Nodup by decide +kernel) (by rfl) (by walk_at "o"))) (iZ _) (λ_ _ _=>(CF fF (ev 0) (ev 1))) (λ_ _ _=>(ev 0)) qq I0.nd (by rfl) (by walk_at "o") Bc) (cJ (gr (i:=4) I0.nd (by rfl) (by walk_at "o") (iA G2 hr (by rfl) fQ (bG (ev 0) (bG (ev 3) cp)))) (cJ (eE (sd (ev 4)) (di (z2k Rv (by rfl) (by decide) G3.q G3.hf G3.ok hr G3.hb (by rfl) T.qX (bG (dE (dE (ev 4) d8) d8) (bG (dE (dE (ev 4) d8) d8) cp)))) jk) (di (ie (ev 3)))))))
theorem zmw(F:dr K "_law_with_told" "_law_with_told" Ob dV f fd)(G0:FnAt P w K mg base 3 "with_needs" ["hall", "name"] (zM c) f0 g0):bW P w K mg base (ee P w) 4 f fd ["hall", "name"] (gK 2 (yA c)):=
 jw F Dg λ_ _ _ _ _ _ hr fF fm=>by exact(cJ (gr (i:=2) Dg.nd (by rfl) (by walk_at "o") t9) (cJ (S8 (js:=[2]) (fb:=(Fv c)) (λpn kn xe R hk AK own=>(di (gr (i:=2) Dg.nd (by rfl) (by walk_at "o") (oY (bG k7 (bG (iA G0 hr (by rfl) AK (bG (ev 0) (bG (ev 1) cp))) cp))) (hkn:=λu=>hk 2 (by decide) u)))) (S7 (by rfl) T.oZ T.sy (MN T.mro T.mh T.uw) (λ_=>(di (gr (i:=2) Dg.nd (by rfl) (by walk_at "o") (oY (bG k7 cp))))) (MH (i:=3) Dg.nd (by rfl) (by rfl) (by rfl) T.qX T.uv (MN T.mro T.mh T.vV) (λ_=>(di (gr (i:=2) Dg.nd (by rfl) (by walk_at "o") (oY (bG k7 (bG (Ta T.qW T.oA (ev 3)) (bG (Ta T.qW T.mR (ev 3)) cp))))))) SX))) (di (ie (ev 2)))))
theorem zsf(F:dr K "_law_lacks" "_law_lacks" Oc dV f fd)  : bW P w K mg base (ee P w) 1 f fd ["rows", "names"] (gK 2 (BI c)):=
 bW.dY (jw F Od λ_ _ _ _ _ _ hr fF fm=>by exact(cJ (gr (i:=2) Od.nd (by rfl) (by walk_at "o") (qp cp)) (cJ (nG aM (by rfl) (j_ (ev 0)) (kd _) (iF (i:=3) Od.nd (by rfl) (by walk_at "o")) (iZ _) (di (eE (qQ fm (dE (ev 3) d8) (ev 1)) (cJ (jF (uT (ev 2) (bG (Bb (xs:=["row", "names"]) (js:=[3,1]) (nts:=["other"]) (by rfl) ⟨rfl,by decide +kernel,rfl,by decide +kernel,(λp hp=>by rcases aF.mp hp with rfl | hp;(· rfl);rcases ai.mp hp with rfl;rfl),rfl,⟨(by walk_at "c"),⟨(by walk_at "c"),trivial⟩⟩⟩ (j_ (dE (ev 3) d8)) (kd _) (λ_ _ _=>(iF (i:=0) (show(["other", "row", "names"]:List Str).Nodup by decide +kernel) (by rfl) (by walk_at "o"))) (iZ _) (λ_ _ _=>(HL fm (ev 0) (ev 2))) (λ_ _ _=>(oY (bG k7 (bG (dE (ev 1) d8) (bG (ev 0) cp))))) qq) cp))) (di (jF (uT (ev 2) (bG (Bb (xs:=["row", "names"]) (js:=[3,1]) (nts:=["other"]) (by rfl) ⟨rfl,by decide +kernel,rfl,by decide +kernel,(λp hp=>by rcases aF.mp hp with rfl | hp;(· rfl);rcases ai.mp hp with rfl;rfl),rfl,⟨(by walk_at "c"),⟨(by walk_at "c"),trivial⟩⟩⟩ (j_ (dE (ev 3) d8)) (kd _) (λ_ _ _=>(iF (i:=0) (show(["other", "row", "names"]:List Str).Nodup by decide +kernel) (by rfl) (by walk_at "o"))) (iZ _) (λ_ _ _=>(qQ fm (ev 0) (ev 2))) (λ_ _ _=>(oY (bG k7 (bG (dE (ev 1) d8) (bG (ev 0) cp))))) qq) cp))))) jk))) (di (ie (ev 2))))))
theorem zub(F:dr K "_law_with" "_law_with" Oe dV f fd)(G0:FnAt P w K mg base 1 "_law_lacks" ["rows", "names"] (BI c) f0 g0):bW P w K mg base (ee P w) 2 f fd ["rows", "name"] (gK 2 (Dc c)):=
 bW.dY (jw F wQ λ_ _ _ _ _ _ hr fF fm=>by exact(cJ (gr (i:=2) wQ.nd (by rfl) (by walk_at "o") CH) (cJ (nG aM (by rfl) (j_ (ev 0)) (kd _) (iF (i:=3) wQ.nd (by rfl) (by walk_at "o")) (iZ _) (di (xN fF (ev 2) (dE (ev 3) d8) (dE (ev 3) d8)))) (cJ (gr (i:=4) wQ.nd (by rfl) (by walk_at "o") (qp (bG (ev 1) cp))) (cJ (nG aM (by rfl) (j_ (ev 4)) (kd _) (iF (i:=5) wQ.nd (by rfl) (by walk_at "o")) (iZ _) (di (eE (CG fF (ev 5) (ev 2)) (di (ie (oY (bG k7 cp)))) jk))) (cJ (nG aM (by rfl) (Cr (by rfl) T.j6 (bG (EW (by rfl) T.mz (ev 0)) cp)) CK (iF (i:=6) wQ.nd (by rfl) (by walk_at "o")) (iZ _) (di (nG aM (by rfl) (j_ (CI (by rfl) (by rfl) T.gG (ev 4))) (kd _) (iF (i:=5) wQ.nd (by rfl) (by walk_at "o")) (iZ _) (di (nG aM (by rfl) (j_ (A5 fF (ev 2) (ev 5))) (kd _) (iF (i:=7) wQ.nd (by rfl) (by walk_at "o")) (iZ _) (cJ (eE (CG fF (ev 7) (ev 2)) (di (ie (oY (bG k7 cp)))) jk) (di (eE (HL fm (ev 7) (ev 4)) (di (jF (xP (ev 4) (bG (ev 7) cp)))) jk)))))))) (cJ (E2 (i:=8) (xs:=["found"]) (js:=[4]) (nts:=["row"]) (by rfl) ⟨rfl,by decide +kernel,rfl,by decide +kernel,(λp hp=>by rcases ai.mp hp with rfl;rfl),rfl,⟨(by walk_at "c"),trivial⟩⟩ (j_ (ev 0)) (kd _) (λ_ _ _=>(iF (i:=0) (show(["row", "found"]:List Str).Nodup by decide +kernel) (by rfl) (by walk_at "o"))) (iZ _) (λ_ _ _=>(qQ fm (dE (ev 0) d8) (ev 1))) (λ_ _ _=>(dE (ev 0) d8)) qq wQ.nd (by rfl) (by walk_at "o") Bc) (cJ (nG aM (by rfl) (j_ (iA G0 hr (by rfl) fQ (bG (ev 0) (bG (ev 8) cp)))) (kd _) (iF (i:=9) wQ.nd (by rfl) (by walk_at "o")) (iZ _) (di (ie (oY (bG k7 (bG (dE (ev 9) d8) (bG (dE (ev 9) d8) cp))))))) (di (ie (oY (bG k7 (bG (ev 8) cp)))))))))))))
theorem z6a(F:dr K "fits" "fits" Of dV f fd)(G0:FnAt P w K mg base 2 "lacks" ["hall", "names"] (wN c) f0 g0):bW P w K mg base (ee P w) 3 f fd ["hall", "names"] (gK 2 (Dd c)):=
 jw F z59 λ_ _ _ _ _ _ hr fF fm=>by exact(di (ie (t_ fm (iA G0 hr (by rfl) fQ (bG (ev 0) (bG (ev 1) cp))) (oq cp))))
theorem zks(F:dr K "_law_stands_right" "_law_stands_right" Og dV f fd)(G0:FnAt P w K mg base 3 "_law_lacks" ["rows", "names"] (BI c) f0 g0)(G1:FnAt P w K mg base 3 "lacks" ["hall", "names"] (wN c) f1 g1)(G2:FnAt P w K mg base 3 "fits" ["hall", "names"] (Dd c) f2 g2):bW P w K mg base (ee P w) 4 f fd ["hall", "rows", "names"] (gK 3 (BJ c)):=
 bW.dY (jw F FO λ_ _ _ _ _ _ hr fF fm=>by exact(cJ (gr (i:=3) FO.nd (by rfl) (by walk_at "o") (HQ (by rfl) (by rfl) T.gG (ev 2))) (cJ (gr (i:=4) FO.nd (by rfl) (by walk_at "o") (iA G0 hr (by rfl) fQ (bG (ev 1) (bG (ev 2) cp)))) (cJ (gr (i:=5) FO.nd (by rfl) (by walk_at "o") (iA G1 hr (by rfl) fQ (bG (ev 0) (bG (ev 3) cp)))) (cJ (jF (R' (ev 3))) (cJ (eE ((xI (EU (sd (HR .list (by rfl) T.hZ (ev 5) (by rfl) T.gG (by decide +kernel)))) (HM (qP fm (ev 5) (ev 4))))).pt (di (ie qL)) jk) (cJ (jF (xP (ev 5) (bG (oY (bG k7 (bG k7 (bG k7 cp)))) cp))) (cJ (gr (i:=6) FO.nd (by rfl) (by walk_at "o") (iA G2 hr (by rfl) fQ (bG (ev 0) (bG (CI (by rfl) (by rfl) T.gG (ev 2)) cp)))) (di (ie (LZ (t_ fm (iA G1 hr (by rfl) fQ (bG (ev 0) (bG (CI (by rfl) (by rfl) T.gG (ev 2)) cp))) (ev 4)) (LZ (HR .bool (by rfl) T.hZ (ev 6) (by rfl) T.BK (by decide +kernel)) (RW (t_ fm (ev 6) (t_ fm (ev 4) (oq cp))))))))))))))))
theorem z9x(F:dr K "law" "law" Dh dV f fd)(G0:FnAt P w K mg base 5 "_law_cell_at" ["script", "k"] (mQ c) f0 g0)(G1:uh P w K mg base 4 "Hall" c.hall ["self"] (zG c) f1 g1)(G2:i' P w K mg base 5 c.hall "open_place" ["self", "name", "kind", "rule"] (Bv c) f2 g2)(G3:FnAt P w K mg base 5 "_law_filled" ["hall", "script", "many", "early", "brought"] (CY c) f3 g3)(G4:FnAt P w K mg base 5 "_law_hung_anew" ["hall", "rows", "at", "brought"] (Fk c) f4 g4)(G5:FnAt P w K mg base 5 "_law_order" ["names", "pairs"] (zI c) f5 g5)(G6:FnAt P w K mg base 5 "_law_pairs_of" ["rows"] (C1 c) f6 g6)(G7:FnAt P w K mg base 5 "_law_order_told" ["hall"] (BG c) f7 g7)(G8:FnAt P w K mg base 5 "_law_name" ["k"] (pJ c) f8 g8)(G9:FnAt P w K mg base 5 "_law_with_told" ["hall", "name"] (yA c) f9 g9)(G10:FnAt P w K mg base 5 "_law_with" ["rows", "name"] (Dc c) f10 g10)(Ug:FnAt P w K mg base 5 "_law_stands_right" ["hall", "rows", "names"] (BJ c) f11 g11):bW P w K mg base (ee P w) 6 f fd ["script"] (gK 1 (T6 c)):=
 jw F uy λ_ _ _ _ _ _ hr fF fm=>by exact(cJ (gr (i:=1) uy.nd (by rfl) (by walk_at "o") (xE d8 (qN (iA G0 hr (by rfl) fQ (bG (ev 0) (bG d8 cp))) d8))) (cJ (gr (i:=2) uy.nd (by rfl) (by walk_at "o") (z5w G1 hr (by rfl) fQ)) (cJ (jF (ui G2 hr fQ (ev 2) (bG k7 (bG k7 (bG k7 cp))))) (cJ (gr (i:=3) uy.nd (by rfl) (by walk_at "o") (t_ fm (qN (zu (iA G0 hr (by rfl) fQ (bG (ev 0) (bG d8 cp))) d8) d8) d8)) (cJ (gr (i:=4) uy.nd (by rfl) (by walk_at "o") (t_ fm (qN (zu (iA G0 hr (by rfl) fQ (bG (ev 0) (bG d8 cp))) d8) d8) d8)) (cJ (gr (i:=5) uy.nd (by rfl) (by walk_at "o") (iA G3 hr (by rfl) fQ (bG (ev 2) (bG (ev 0) (bG (ev 1) (bG (ev 3) (bG (ev 4) cp))))))) (cJ (gr (i:=6) uy.nd (by rfl) (by walk_at "o") (qN (zu (iA G0 hr (by rfl) fQ (bG (ev 0) (bG d8 cp))) d8) (ev 1))) (cJ (eE (pE fm (qN (iA G0 hr (by rfl) fQ (bG (ev 0) (bG d8 cp))) d8) d8) (di (gr (i:=5) uy.nd (by rfl) (by walk_at "o") (iA G4 hr (by rfl) fQ (bG (ev 2) (bG (ev 5) (bG (ev 6) (bG (ev 4) cp))))))) jk) (cJ (eE (xJ (ev 5) t9) (di (ie qL)) jk) (cJ (Sj (i:=7) (xs:=[]) (js:=[]) (nts:=["row"]) (by rfl) ⟨rfl,by decide +kernel,rfl,by decide +kernel,(λp hp=>absurd hp bK),rfl,trivial⟩ (j_ (ev 5)) (kd _) (λ_ _ _=>(iF (i:=0) (show(["row"]:List Str).Nodup by decide +kernel) (by rfl) (by walk_at "o"))) (iZ _) (λ_ _ _=>(dE (ev 0) d8)) qq uy.nd (by rfl) (by walk_at "o") Bc) (cJ (gr (i:=8) uy.nd (by rfl) (by walk_at "o") (iA G5 hr (by rfl) fQ (bG (ev 7) (bG (iA G6 hr (by rfl) fQ (bG (ev 5) cp)) cp)))) (cJ (gr (i:=9) uy.nd (by rfl) (by walk_at "o") (iA G7 hr (by rfl) fQ (bG (ev 2) cp))) (cJ (eE ((xI ((CD (xJ (ev 8) t9) (CC (qP fm (ev 9) (oY (bG k7 cp)))))).pt (HM ((CD (L0 (ev 8) t9) (CC (qP fm (ev 9) (oY (bG k7 (bG (ev 8) cp))))))).pt))).pt (di (ie qL)) jk) (cJ (gr (i:=10) uy.nd (by rfl) (by walk_at "o") (iA G8 hr (by rfl) fQ (bG (qN (iA G0 hr (by rfl) fQ (bG (ev 0) (bG d8 cp))) (xE (ev 1) d8)) cp))) (cJ (eE (qP fm (iA G9 hr (by rfl) fQ (bG (ev 2) (bG (ev 10) cp))) (iA G10 hr (by rfl) fQ (bG (ev 5) (bG (ev 10) cp)))) (di (ie qL)) jk) (cJ (E2 (i:=11) (xs:=["name"]) (js:=[10]) (nts:=["one"]) (by rfl) ⟨rfl,by decide +kernel,rfl,by decide +kernel,(λp hp=>by rcases ai.mp hp with rfl;rfl),rfl,⟨(by walk_at "c"),trivial⟩⟩ (j_ (ev 7)) (kd _) (λ_ _ _=>(iF (i:=0) (show(["one", "name"]:List Str).Nodup by decide +kernel) (by rfl) (by walk_at "o"))) (iZ _) (λ_ _ _=>(qP fm (ev 0) (ev 1))) (λ_ _ _=>(ev 0)) qq uy.nd (by rfl) (by walk_at "o") Bc) (di (ie (LZ (iA Ug hr (by rfl) fQ (bG (ev 2) (bG (ev 5) (bG (ev 7) cp)))) (RW (iA Ug hr (by rfl) fQ (bG (ev 2) (bG (ev 5) (bG (ev 11) cp))))))))))))))))))))))))
end
end K11
namespace DN
open PySem L2 MF
variable {c:Cl}{S:bx}
def cellAt(ns:List Int)(k:Int):Int:=if k<ns.length then ns.getD k.toNat 0 else 0
theorem FP(ns:List Int)(k:Int)(hk:0<=k):mQ c [.lst (ns.map .int),.int k] S=.ok (.int (cellAt ns k)) S:=by
 unfold cellAt;by_cases h:k<ns.length
 .have hh:k.toNat<ns.length:=by omega
  simp[mQ,MU,h,SK hk,hh]
 .simp[mQ,MU,h]
def yD:Str := "abcdefghijklmnopqrstuvwxyz"
def uz(i:Int):Str:=⟨#[yD.cps[i.toNat]?.getD 0]⟩
theorem zw5:yD.cps.toList.length=26:=by decide +kernel
theorem Uh:yD.length<=1000:=by decide +kernel
theorem Ui{i:Int}(h0:0<=i)(h1:i<26):jt yD.cps.toList i=aa (yD.cps[i.toNat]?.getD 0):=by
 have hl:=zw5;rw[SK h0 (by omega),jS];have:i.toNat<yD.cps.size:=by rw[<- ij];omega
 rw[o_ this];rfl
def iX(k:Int):Str:=if k%3=1 then uz (k%26) else qg cP ((d5 (2+k%11).toNat).map λ(j:Nat)=>uz ((k+5*(j:Int))%26))
theorem I_:∀(l:List Str),uS (l.map T.str)=aa l
 |[]=>rfl
 | a::r=>by
   rw[aE];unfold uS;rw[I_ r];rfl
theorem zw6(i:Int):(uz i).length=1:=rfl
theorem Uj(k:Int):∀l:List Nat,((l.map λ(j:Nat)=>uz ((k+5*(j:Int))%26)).map (·.length)).sum=l.length
 |[]=>rfl
 | a::r=>by
   have:=Uj k r;simp only[aE,Cd,aL,zw6] at this ⊢;omega
theorem Di(k:Int):pJ c [.int k] S=.ok (.str (iX k)) S:=by
 have h26:=fj k (show(26:Int)≠0 by decide);have Oh:=eZ k (show(0:Int)<26 by decide);have hL:(aG "abcdefghijklmnopqrstuvwxyz")=yD:=rfl;unfold iX;by_cases h:k%3=1
 .have ha:=Ui h26 Oh
  simp[pJ,MX,h,hL,Uh,ha,uz]
 .have h11:=fj k (show(11:Int)≠0 by decide)
  have h11':=eZ k (show(0:Int)<11 by decide);have hb:-1000000<=2+k%11/\2+k%11<=1000000:=by omega
  have hm:∀t∈ot 0 (2+k%11).toNat,MV c [aa t,aa (.str yD),aa (.int k)] S=.ok ((λt=>match t with|.int j=>T.str (uz ((k+5*j)%26)) | _=>.bY) t) S:=by
   intro t ht;obtain⟨j,hj,rfl⟩:=aq.mp ht;have m1:=fj (k+5*(0+(j:Int))) (show(26:Int)≠0 by decide);have m2:=eZ (k+5*(0+(j:Int))) (show(0:Int)<26 by decide);have ha:=Ui m1 m2;rw[GF] at ha;simp[MV,Uh,ha,uz]
  have hc:=E9 (ρ:=[aa (.int k),aa (.str yD)]) (S:=S) (js:=[1,0]) (it:=MW c) (ts:=ot 0 (2+k%11).toNat) (st:=λ_=>True) (by simp[MW,hb]) trivial (by rw[A7];omega) hm;have BP:=Uj k (d5 (2+k%11).toNat);rw[List.length_range] at BP;have e3:(ot 0 (2+k%11).toNat).map (λt=>match t with|.int j=>T.str (uz ((k+5*j)%26)) | _=>.bY)=((d5 (2+k%11).toNat).map λ(j:Nat)=>uz ((k+5*(j:Int))%26)).map T.str:=by
   unfold ot;rw[aU,aU];refine dD λj _=>?_;show T.str (uz ((k+5*(0+(j:Int)))%26))=T.str (uz ((k+5*(j:Int))%26));rw[GF]
  rw[e3] at hc;have c5:((d5 (2+k%11).toNat).map λ(j:Nat)=>uz ((k+5*(j:Int))%26)).length<=13:=by simp;omega
  generalize ((d5 (2+k%11).toNat).map λ(j:Nat)=>uz ((k+5*(j:Int))%26))=l at hc BP c5 ⊢;have vW:(l.map (·.length)).sum+l.length*cP.length<=100000:=by
   rw[BP,show cP.length=0 from rfl];omega
  have hj:CJ (.str cP) [.lst (l.map T.str)] S=.ok (.str (qg cP l)) S:=by
   unfold CJ;simp only[Mu,jf,I_,if_pos vW]
  have he:aG "" = cP:=rfl;simp[pJ,MX,h,hL,hc,he,HV,hj]
def sA(x many:Int):List Str:=if x%4>1 then[] else if x%4=1 then[iX (x / 4%many),iX (x / 64%many)] else[iX (x / 4%many)]
theorem z9y(x many:Int)(hm:0<many):By c [.int x,.int many] S=.ok (aI (sA x many)) S:=by
 unfold sA aI;by_cases h1:1<x%4
 .simp[By,Ip,h1]
 .by_cases h2:x%4=1
  .simp[By,Ip,h1,h2,hm,Di]
  .simp[By,Ip,h1,h2,hm,Di]
structure Pc where
 nm:Str
 pl:Str
 dd:T
 w0:List Str
 w1:List Str
 w2:List Str
 w3:List Str
 on:Bool
theorem Oi{n:Nat}{pre:List T}{t:T}{post:List T}(h:ot 0 n=pre++t::post):pre.length<n/\t=.int pre.length:=by
 have hl:pre.length<(ot 0 n).length:=by rw[h];simp
 rw[A7] at hl;have e:=Sb (lo:=0) hl;rw[h,bE (az _),fM] at e;simp at e;exact⟨hl,e⟩
theorem zO{S:bx}{x y:bA}:(S++[x]).set S.length y=S++[y]:=by
 rw[j7 _ _ (az _),fM];rfl
theorem qv{S:bx}{x:bA}:(S++[x])[S.length]?=aa x:=by simp
end DN
namespace DN
open PySem L2 MF
variable {c:Cl}{S:bx}
structure jx where
 nm:Str
 kind:Str
 rule:Str
 i:Nat
structure HP where
 nm:Str
 pl:Str
 dd:T
 br:Option Str
 on:Bool
 w0:List Str
 w1:List Str
 w2:List Str
 w3:List Str
 i:Nat
def qY:Option Str->T
 |none=>.bY
 |some x=>.str x
def HP.fs(p:HP):List (Str×T):=[("place",.str p.pl),("deed",p.dd),("by",qY p.br),("on",.bl p.on),("ahead",.obj (p.i+1)),("behind",.obj (p.i+2)),("needs",.obj (p.i+3)),("bars",.obj (p.i+4))]
def HP.block(c:Cl)(p:HP):List bA:=[.ins c.piece p.fs,.lst (p.w0.map .str),.lst (p.w1.map .str),.lst (p.w2.map .str),.lst (p.w3.map .str)]
structure nM(c:Cl)(S:bx)(p:HP):Prop where
 o:S[p.i]?=aa (.ins c.piece p.fs)
 a0:S[p.i+1]?=aa (.lst (p.w0.map .str))
 a1:S[p.i+2]?=aa (.lst (p.w1.map .str))
 a2:S[p.i+3]?=aa (.lst (p.w2.map .str))
 a3:S[p.i+4]?=aa (.lst (p.w3.map .str))
def nZ(pl:List jx):List (b9×T):=pl.map λq=>(.inr q.nm,.obj q.i)
def dS(ps:List HP):List (b9×T):=ps.map λp=>(.inr p.nm,.obj p.i)
def n5(h:Nat):List (Str×T):=[("places",.obj (h+1)),("pieces",.obj (h+2))]
structure fT(c:Cl)(S:bx)(h:Nat)(pl:List jx)(ps:List HP):Prop where
 hall:S[h]?=aa (.ins c.hall (n5 h))
 places:S[h+1]?=aa (.dic (nZ pl))
 pieces:S[h+2]?=aa (.dic (dS ps))
 place:∀q∈pl,S[q.i]?=aa (.ins c.place [("kind",.str q.kind),("rule",.str q.rule)])
 piece:∀p∈ps,nM c S p
 pO:∀p∈ps,h+3<=p.i
 pw:ps.Pairwise λp q=>p.i+5<=q.i
 nd:(ps.map (·.nm)).Nodup
theorem Dj(x:Str):∀(ps:List HP),cU (dS ps) (.inr x)=(ps.find? λp=>decide (p.nm=x)).map λp=>T.obj p.i
 |[]=>rfl
 | p :: ps=>by
   have ih:=Dj x ps;by_cases h:p.nm=x
   .have:cU (dS (p::ps)) (.inr x)=aa (.obj p.i):=by simp[cU,dS,h]
    rw[this];simp[h]
   .have e:cU (dS (p::ps)) (.inr x)=cU (dS ps) (.inr x):=by
     simp[cU,dS,bT,h]
    rw[e,ih];simp[h]
theorem Oj(x:Str):∀(pl:List jx),cU (nZ pl) (.inr x)=(pl.find? λp=>decide (p.nm=x)).map λp=>T.obj p.i
 |[]=>rfl
 | p :: ps=>by
   have ih:=Oj x ps;by_cases h:p.nm=x
   .have:cU (nZ (p::ps)) (.inr x)=aa (.obj p.i):=by simp[cU,nZ,h]
    rw[this];simp[h]
   .have e:cU (nZ (p::ps)) (.inr x)=cU (nZ ps) (.inr x):=by
     simp[cU,nZ,bT,h]
    rw[e,ih];simp[h]
@[simp]theorem Zdo(C:aj)(f:Str)(k:Nat):fu C f (.obj k) S=(match pG S C (.obj k) with|some (_,fs)=>(match fs.lookup f with|some u=>.ok u S | none=>.bad) | none=>.bad):=rfl
theorem rD{C:aj}{k:Nat}{fs:List (Str×T)}(h:S[k]?=aa (.ins C fs)):pG S C (.obj k)=aa (k,fs):=by simp[pG,h]
@[simp] theorem Zcy (C:aj) (m:Str) (F:Fn) (ds:List T) (fo:DE) (fr:DA) {ρ:Ev}:lX C m F ds fo fr ρ S=(fo ρ).bind (λo=>λS=>match pG S C o with
  |some (_,fs)=>if(fs.lookup m).isNone=true then((fr ρ).bind λts=>F (o::(ts++ds))) S else .bad
  |none=>.bad) S:=rfl
theorem vX{k:Nat}{kvs:List (b9×T)}(h:S[k]?=aa (.dic kvs)):m6 S (.obj k)=aa kvs:=by simp[m6,h]
theorem fT.ins{h:Nat}{pl:List jx}{ps:List HP}(A:fT c S h pl ps):pG S c.hall (.obj h)=aa (h,n5 h):=rD A.hall
theorem fT.lJ{h:Nat}{pl:List jx}{ps:List HP}(A:fT c S h pl ps):m6 S (.obj (h+2))=aa (dS ps):=vX A.pieces
theorem fT.tE{h:Nat}{pl:List jx}{ps:List HP}(A:fT c S h pl ps):m6 S (.obj (h+1))=aa (nZ pl):=vX A.places
theorem Uk(h:Nat):bQ (aG "places") (n5 h)=aa (.obj (h+1)):=by
 unfold n5;rw[bS];rw[show(aG "places" == aG "places")=true by decide +kernel]
theorem zP(h:Nat):bQ (aG "pieces") (n5 h)=aa (.obj (h+2)):=by
 unfold n5;rw[bS,show(aG "pieces" == aG "places")=false by decide +kernel];simp only;rw[bS,show(aG "pieces" == aG "pieces")=true by decide +kernel]
theorem qZ{m:Str}(h:Nat)(h1:(m==aG "places")=false)(h2:(m==aG "pieces")=false):bQ m (n5 h)=ae:=by
 unfold n5;rw[bS,h1];simp only;rw[bS,h2];rfl
theorem Ul{h:Nat}{pl:List jx}{ps:List HP}(A:fT c S h pl ps):zL c [.obj h] S=.ok (aI (ps.map (·.nm))) S:=by
 have e:tj S (.obj (h+2))=aa ((ps.map (·.nm)).map T.str):=by
  unfold tj;have:ju S (.obj (h+2))=ae:=by simp[ju,cI,A.pieces]
  rw[this,A.lJ];simp[dS,kT]
 simp[zL,T1,A.ins,zP,tq,e,aI]
theorem Dl{h:Nat}{pl:List jx}{ps:List HP}(A:fT c S h pl ps){x:Str}{p:HP}(hp:ps.find? (λp=>decide (p.nm=x))=aa p):qU c [.obj h,.str x] S=.ok (.obj p.i) S:=by
 have e:=Dj x ps;rw[hp] at e;simp[qU,MY,A.ins,zP,m8,iS,A.lJ,dF,e]
theorem Ol{h:Nat}{pl:List jx}{ps:List HP}(A:fT c S h pl ps){x:Str}{p:jx}(hp:pl.find? (λp=>decide (p.nm=x))=aa p):Bw c [.obj h,.str x] S=.ok (.obj p.i) S:=by
 have e:=Oj x pl;rw[hp] at e;simp[Bw,TK,A.ins,Uk,m8,iS,A.tE,dF,e]
theorem BQ{ps:List HP}(nd:(ps.map (·.nm)).Nodup){p:HP}(hp:p∈ps):ps.find? (λq=>decide (q.nm=p.nm))=aa p:=by
 induction ps with
 |nil=>cases hp
 | cons q ps ih=>
   rw[aE,cF] at nd;rcases aF.mp hp with rfl | hp
   .simp
   .have:q.nm≠p.nm:=λe=>nd.1 (aq.mpr ⟨p,hp,e.symm⟩)
    rw[bT];simp[this,ih nd.2 hp]
end DN
namespace DN
open PySem L2 MF
variable {c:Cl}{S:bx}{ρ:Ev}
@[simp] theorem zsi (a b:String):(aG a=aG b)=(a=b):=by
  apply propext;constructor
  .intro h
   rw[jW,jW] at h;have h1:a.toList.map ph=b.toList.map ph:=by simpa using h
   have inj:∀(x y:List Char),x.map ph=y.map ph->x=y:=by
    intro x
    induction x with
    |nil=>intro y h;cases y with|nil=>rfl | cons _ _=>simp at h
    | cons p x ih=>
      intro y h;cases y with
      |nil=>simp at h
      | cons q y=>
        simp only[aE,mr] at h;rw[ih y h.2];have:p=q:=by
         have:=h.1;apply Char.ext;exact UInt32.toNat_inj.mp this
        rw[this]
   exact String.toList_inj.mp (inj _ _ h1)
  .rintro rfl;rfl
@[simp] theorem z4a (a b:String):(aG a==aG b)=(a==b):=by
  rw[dU,beq_iff_eq,beq_iff_eq,zsi]
@[simp] theorem Zcz (C:aj) (F:Fn) (ds:List T) (fr:DA):xS C F ds fr ρ S=(fr ρ).bind (λts=>λS=>M.bind (F (.obj S.length::(ts++ds))) (λt=>match t with
  |.bY=>M.pure (.obj S.length)
  |_=>M.bad) (S++[.ins C []])) S:=rfl
@[simp] theorem Zc0 (C:aj) (f:Str) (fo fv:DE):tw C f fo fv ρ S=(fv ρ).bind (λt=>(fo ρ).bind λo=>λS=>match pG S C o with
  |some (k,fs)=>if fs.length<900 then .ok (.nx ρ) (S.set k (.ins C (xM f t fs))) else .bad
  |none=>.bad) S:=rfl
@[simp] theorem z9z (fd fk fv:DE):uQ fd fk fv ρ S=(fv ρ).bind (λt=>(fd ρ).bind λd=>(fk ρ).bind λk=>λS=>match d,dF k with
  | .obj j,aa key=>(match S[j]? with
    |some (.dic kvs)=>if kvs.length<=900 then .ok (.nx ρ) (S.set j (.dic (kP kvs key t))) else .bad
    |_=>.bad)
  |_,_=>.bad) S:=rfl
@[simp]theorem Zaq(f:Str)(v:T):xM f v []=[(f,v)]:=rfl
@[simp]theorem z90(f g:Str)(v x:T)(r:List (Str×T)):xM f v ((g,x)::r)=if g=f then(g,v)::r else(g,x)::xM f v r:=rfl
theorem pP(L:List bA)(j:Nat):(S++L)[S.length+j]?=L[j]?:=by rw[bE (by omega)];congr 1;omega
theorem FQ(L:List bA)(j:Nat)(v:bA):(S++L).set (S.length+j) v=S++L.set j v:=by rw[j7 _ _ (by omega)];congr 2;omega
theorem yE(L:List bA):(S++L)[S.length]?=L[0]?:=pP L 0
theorem Dm(L:List bA)(v:bA):(S++L).set S.length v=S++L.set 0 v:=FQ L 0 v
@[simp] theorem Zc1 (C:aj) (fs:List (Str×T)) (L:List bA):pG (S++bA.ins C fs::L) C (.obj S.length)=aa (S.length,fs):=by
  exact rD (by rw[yE];rfl)
theorem zud:zG c [.obj S.length] (S++[.ins c.hall []])=.ok .bY (S++[.ins c.hall (n5 S.length),.dic [],.dic []]):=by
 simp[zG,TF,Dm,n5]
theorem zsj(k r:Str):Ff c [.obj S.length,.str k,.str r] (S++[.ins c.place []])=.ok .bY (S++[.ins c.place [("kind",.str k),("rule",.str r)]]):=by
 simp[Ff,TH,Dm]
def c_(nm pl:Str)(dd:T)(br:Option Str)(i:Nat):HP:={ nm:=nm,pl:=pl,dd:=dd,br:=br,on:=true,w0:=[],w1:=[],w2:=[],w3:=[],i:=i }
theorem Um(nm pl:Str)(dd:T)(br:Option Str):Bx c [.obj S.length,.str pl,dd,qY br] (S++[.ins c.piece []])=.ok .bY (S++(c_ nm pl dd br S.length).block c):=by
 simp[Bx,TL,Dm,HP.block,c_,HP.fs]
theorem dN{k j:Nat}{v:bA}(h:k≠j):(S.set k v)[j]?=S[j]?:=cn h
theorem lK{k:Nat}{v:bA}{u:bA}(h:S[k]?=aa u):(S.set k v)[k]?=aa v:=by
 have:=(ao.mp h).1;simp[mG,this]
theorem k8{L:bx}{k:Nat}{u:bA}(h:S[k]?=aa u):(S++L)[k]?=aa u:=by
 rw[aw (ao.mp h).1];exact h
theorem nM.app{L:bx}{p:HP}(A:nM c S p):nM c (S++L) p:=⟨k8 A.o,k8 A.a0,k8 A.a1,k8 A.a2,k8 A.a3⟩
theorem fT.app{L:bx}{h:Nat}{pl:List jx}{ps:List HP}(A:fT c S h pl ps):fT c (S++L) h pl ps:=
 ⟨k8 A.hall,k8 A.places,k8 A.pieces,λq hq=>k8 (A.place q hq),λp hp=>(A.piece p hp).app,A.pO,A.pw,A.nd⟩
theorem vY{k j:Nat}{u v:bA}(h:S[k]?=aa u)(g:S[j]?=aa v)(d:u≠v):k≠j:=λe=>by subst e;rw[h] at g;exact d (bg g)
theorem nM.set{k:Nat}{v:bA}{p:HP}(A:nM c S p)(h:∀j,j<5->k≠p.i+j):nM c (S.set k v) p:=
 ⟨by rw[dN (show k≠p.i from h 0 (by decide))];exact A.o,by rw[dN (h 1 (by decide))];exact A.a0,by rw[dN (h 2 (by decide))];exact A.a1,by rw[dN (h 3 (by decide))];exact A.a2,by rw[dN (h 4 (by decide))];exact A.a3⟩
theorem fT.lt{h:Nat}{pl:List jx}{ps:List HP}(A:fT c S h pl ps):h+2<S.length:=(ao.mp A.pieces).1
theorem nM.lt{p:HP}(A:nM c S p):p.i+4<S.length:=(ao.mp A.a3).1
theorem fT.yF{h:Nat}{pl:List jx}{ps:List HP}(A:fT c S h pl ps){nm q:Str}{dd:T}{br:Option Str}(hn:nm∉ps.map (·.nm)) :
  fT c (S.set (h+2) (.dic (dS (ps++[c_ nm q dd br S.length])))++(c_ nm q dd br S.length).block c) h pl (ps++[c_ nm q dd br S.length]):=by
 have hl:=A.lt;have len:(S.set (h+2) (.dic (dS (ps++[c_ nm q dd br S.length])))).length=S.length:=by simp
 have nb:∀j,(S.set (h+2) (.dic (dS (ps++[c_ nm q dd br S.length])))++(c_ nm q dd br S.length).block c)[S.length+j]?=((c_ nm q dd br S.length).block c)[j]?:=λj=>by
  have:=pP (S:=S.set (h+2) (.dic (dS (ps++[c_ nm q dd br S.length])))) ((c_ nm q dd br S.length).block c) j;rw[len] at this;exact this
 have hpc:∀p∈ps,nM c (S.set (h+2) (.dic (dS (ps++[c_ nm q dd br S.length])))++(c_ nm q dd br S.length).block c) p:=λp hp=>((A.piece p hp).set (λj hj=>by have:=A.pO p hp;omega)).app;refine⟨k8 (by rw[dN (by omega)];exact A.hall),k8 (by rw[dN (by omega)];exact A.places),k8 (lK A.pieces),λp hp=>k8 ?_,λp hp=>?_,λp hp=>?_,?_,?_⟩
 .rw[dN (vY A.pieces (A.place p hp) (by intro z;cases z))];exact A.place p hp
 .rcases aH.mp hp with hp | hp
  .exact hpc p hp
  .rw[ai.mp hp]
   exact⟨nb 0,nb 1,nb 2,nb 3,nb 4⟩
 .rcases aH.mp hp with hp | hp
  .exact A.pO p hp
  .rw[ai.mp hp];show h+3<=S.length;omega
 .rw[dX]
  refine⟨A.pw,by simp,λp hp r hr=>?_⟩;rw[ai.mp hr];show p.i+5<=S.length;have:=(A.piece p hp).lt;omega
 .rw[bf]
  refine b_.mpr ⟨A.nd,by simp,λx hx y hy e=>?_⟩;simp only[aE,iG,ai] at hy;subst e;rw[hy] at hx;exact hn hx
theorem fT.block{S':bx}{h:Nat}{pl:List jx}{ps:List HP}(A:fT c S h pl ps){p p':HP}(hp:p∈ps)(wR:p'.nm=p.nm)(hi:p'.i=p.i)(pQ:∀k,(k<p.i\/p.i+5<=k)->S'[k]?=S[k]?)
  (hA:nM c S' p'):fT c S' h pl (ps.map λq=>if q.nm=p.nm then p' else q):=by
 have hf:=A.pO p hp;have P:=A.piece p hp;have Om:∀q∈ps,q.nm=p.nm->q=p:=λq hq e=>by
  have h1:=BQ A.nd hq;have h2:=BQ A.nd hp;rw[e,h2] at h1;exact(bg h1).symm
 have pO:∀q∈ps,q.nm≠p.nm->p.i+5<=q.i\/q.i+5<=p.i:=λq hq ne=>by
  have oi:q≠p:=λe=>ne (by rw[e]);have pw:=A.pw;have:∀l:List HP,l.Pairwise (λp q=>p.i+5<=q.i)->p∈l->q∈l->p.i+5<=q.i\/q.i+5<=p.i:=by
   intro l
   induction l with
   |nil=>intro _ h;cases h
   | cons a l ih=>
     intro pw h1 h2;rw[iP] at pw;rcases aF.mp h1 with e1 | g1
     .rcases aF.mp h2 with e2 | g2
      .exact absurd (e2.trans e1.symm) oi
      .rw[e1];exact .inl (pw.1 q g2)
     .rcases aF.mp h2 with e2 | g2
      .rw[e2];exact .inr (pw.1 p g1)
      .exact ih pw.2 g1 g2
  exact this ps pw hp hq
 have FR:∀q:HP,(if q.nm=p.nm then p' else q).nm=q.nm:=λq=>by split<;>simp_all
 have Oo:dS (ps.map λq=>if q.nm=p.nm then p' else q)=dS ps:=by
  unfold dS;rw[aU];refine dD λq hq=>?_;show(dG (if q.nm=p.nm then p' else q).nm,T.obj (if q.nm=p.nm then p' else q).i)=_;rw[FR];by_cases e:q.nm=p.nm
  .rw[if_pos e,hi,Om q hq e]
  .rw[if_neg e]
 refine⟨by rw[pQ _ (by omega)];exact A.hall,by rw[pQ _ (by omega)];exact A.places,by rw[pQ _ (by omega),Oo];exact A.pieces,λq hq=>?_,λq hq=>?_,λq hq=>?_,?_,?_⟩
 .have Q:=A.place q hq
  have n0:=vY P.o Q (by intro z;injection z with _ z2;simp[HP.fs] at z2);have n1:=vY P.a0 Q (by intro z;cases z);have n2:=vY P.a1 Q (by intro z;cases z);have n3:=vY P.a2 Q (by intro z;cases z);have n4:=vY P.a3 Q (by intro z;cases z);rw[pQ _ (by omega)];exact Q
 .obtain⟨r,hr,rfl⟩:=aq.mp hq
  by_cases e:r.nm=p.nm
  .rw[if_pos e];exact hA
  .rw[if_neg e]
   have R:=A.piece r hr;have fr:=pO r hr e;exact⟨by rw[pQ _ (by omega)];exact R.o,by rw[pQ _ (by omega)];exact R.a0,by rw[pQ _ (by omega)];exact R.a1,by rw[pQ _ (by omega)];exact R.a2,by rw[pQ _ (by omega)];exact R.a3⟩
 .obtain⟨r,hr,rfl⟩:=aq.mp hq
  by_cases e:r.nm=p.nm
  .rw[if_pos e,hi];exact hf
  .rw[if_neg e];exact A.pO r hr
 .rw[wB]
  refine A.pw.imp_of_mem λ{a b} ha hb Oq=>?_;have ia:(if a.nm=p.nm then p' else a).i=a.i:=by
   by_cases e:a.nm=p.nm
   .rw[if_pos e,hi,Om a ha e]
   .rw[if_neg e]
  have ib:(if b.nm=p.nm then p' else b).i=b.i:=by
   by_cases e:b.nm=p.nm
   .rw[if_pos e,hi,Om b hb e]
   .rw[if_neg e]
  rw[ia,ib];exact Oq
 .rw[aU]
  rw[show((λx:HP=>x.nm)∘λq=>if q.nm=p.nm then p' else q)=λq:HP=>q.nm from funext λq=>FR q];exact A.nd
theorem nM.w0{p:HP}(A:nM c S p)(l:List Str):nM c (S.set (p.i+1) (.lst (l.map .str))) { p with w0:=l }:=
 ⟨by rw[dN (show p.i+1≠p.i by omega)];exact A.o,lK A.a0,by rw[dN (show p.i+1≠p.i+2 by omega)];exact A.a1,by rw[dN (show p.i+1≠p.i+3 by omega)];exact A.a2,by rw[dN (show p.i+1≠p.i+4 by omega)];exact A.a3⟩
theorem nM.w1{p:HP}(A:nM c S p)(l:List Str):nM c (S.set (p.i+2) (.lst (l.map .str))) { p with w1:=l }:=
 ⟨by rw[dN (show p.i+2≠p.i by omega)];exact A.o,by rw[dN (show p.i+2≠p.i+1 by omega)];exact A.a0,lK A.a1,by rw[dN (show p.i+2≠p.i+3 by omega)];exact A.a2,by rw[dN (show p.i+2≠p.i+4 by omega)];exact A.a3⟩
theorem nM.w2{p:HP}(A:nM c S p)(l:List Str):nM c (S.set (p.i+3) (.lst (l.map .str))) { p with w2:=l }:=
 ⟨by rw[dN (show p.i+3≠p.i by omega)];exact A.o,by rw[dN (show p.i+3≠p.i+1 by omega)];exact A.a0,by rw[dN (show p.i+3≠p.i+2 by omega)];exact A.a1,lK A.a2,by rw[dN (show p.i+3≠p.i+4 by omega)];exact A.a3⟩
theorem nM.w3{p:HP}(A:nM c S p)(l:List Str):nM c (S.set (p.i+4) (.lst (l.map .str))) { p with w3:=l }:=
 ⟨by rw[dN (show p.i+4≠p.i by omega)];exact A.o,by rw[dN (show p.i+4≠p.i+1 by omega)];exact A.a0,by rw[dN (show p.i+4≠p.i+2 by omega)];exact A.a1,by rw[dN (show p.i+4≠p.i+3 by omega)];exact A.a2,lK A.a3⟩
end DN
namespace DN
open PySem L2 MF
variable {c:Cl}{S:bx}{ρ:Ev}
theorem zsk:tD c [.bY] S=.ok (aI []) S:=by simp[tD,M0,qo,ud,aI]
theorem BR{kvs:List (b9×T)}{k:b9}{v:T}(h:cU kvs k=ae):kP kvs k v=kvs++[(k,v)]:=by
 unfold kP;rw[if_neg];intro z;obtain⟨p,hp,e⟩:=fJ.mp z;unfold cU at h;rw[qF,eW] at h;exact h p hp e
theorem Ot{ps:List HP}{x:Str}(h:x∉ps.map (·.nm)):ps.find? (λp=>decide (p.nm=x))=ae:=by
 rw[eW];intro p hp e;exact h (aq.mpr ⟨p,hp,by simpa using e⟩)
theorem Uo{h:Nat}{pl:List jx}{ps:List HP}(A:fT c S h pl ps){nm q:Str}{dd:T}{pm:jx}(hn:nm∉ps.map (·.nm))(hq:pl.find? (λp=>decide (p.nm=q))=aa pm)(hl:ps.length<24) :
  vS c [.obj h,.str nm,.str q,dd,.bY] S=.ok .bY (S.set (h+2) (.dic (dS (ps++[c_ nm q dd ae S.length])))++(c_ nm q dd ae S.length).block c):=by
 have e1:cU (dS ps) (.inr nm)=ae:=by rw[Dj,Ot hn];rfl
 have hm:=qZ (m:=aG "find_place") h (by simp) (by simp);have e2:=Ol A hq;have c5:¬(24:Int)<=(dS ps).length:=by simp[dS];omega
 have e3:=Um (c:=c) (S:=S) nm q dd ae;have len:=A.lt;have e4:(S++(c_ nm q dd ae S.length).block c)[h+2]?=aa (.dic (dS ps)):=k8 A.pieces;have e5:(S++(c_ nm q dd ae S.length).block c).set (h+2) (.dic (kP (dS ps) (.inr nm) (.obj S.length)))=S.set (h+2) (.dic (dS (ps++[c_ nm q dd ae S.length])))++(c_ nm q dd ae S.length).block c:=by
  rw[kJ _ _ (by omega),BR e1];simp[dS,c_]
 have e6:(dS ps).length<=900:=by simp[dS];omega
 have A2:pG (S++(c_ nm q dd ae S.length).block c) c.hall (.obj h)=aa (h,n5 h):=rD (k8 A.hall);have e7:wK (.obj (h+2)) S=.ok (.int (dS ps).length) S:=by simp[wK,A.pieces]
 have Ou:Bx c [.obj S.length,.str q,dd,.bY] (S++[.ins c.piece []])=.ok .bY (S++(c_ nm q dd ae S.length).block c):=e3;simp[vS,MZ,A.ins,zP,iz,A.lJ,dF,e1,hm,e2,ti,ud,e7,c5,Ou,A2,e4,e6,e5]
theorem z91{h:Nat}{pl:List jx}{ps:List HP}(A:fT c S h pl ps){nm k r:Str}(hn:pl.find? (λp=>decide (p.nm=nm))=ae)(hl:pl.length<8) :
  Bv c [.obj h,.str nm,.str k,.str r] S=.ok .bY (S.set (h+1) (.dic (nZ (pl++[⟨nm,k,r,S.length⟩])))++[.ins c.place [("kind",.str k),("rule",.str r)]]):=by
 have e1:cU (nZ pl) (.inr nm)=ae:=by rw[Oj,hn];rfl
 have c5:¬(8:Int)<=(nZ pl).length:=by simp[nZ];omega
 have e3:=zsj (c:=c) (S:=S) k r;have len:=A.lt;have e4:(S++[bA.ins c.place [("kind",.str k),("rule",.str r)]])[h+1]?=aa (.dic (nZ pl)):=k8 A.places;have e5:(S++[bA.ins c.place [("kind",.str k),("rule",.str r)]]).set (h+1) (.dic (kP (nZ pl) (.inr nm) (.obj S.length)))=S.set (h+1) (.dic (nZ (pl++[⟨nm,k,r,S.length⟩])))++[.ins c.place [("kind",.str k),("rule",.str r)]]:=by
  rw[kJ _ _ (by omega),BR e1];simp[nZ]
 have e6:(nZ pl).length<=900:=by simp[nZ];omega
 have A2:pG (S++[bA.ins c.place [("kind",.str k),("rule",.str r)]]) c.hall (.obj h)=aa (h,n5 h):=rD (k8 A.hall);have e7:wK (.obj (h+1)) S=.ok (.int (nZ pl).length) S:=by simp[wK,A.places]
 generalize hN:(S++[bA.ins c.place [("kind",.str k),("rule",.str r)]])=N at e3 e4 e5 A2;simp[Bv,TJ,A.ins,Uk,iz,A.tE,dF,e1,e7,c5,e3,A2,e4,e6,e5]
theorem fT.FT{h:Nat}{pl:List jx}{ps:List HP}(A:fT c S h pl ps){nm k r:Str} :
  fT c (S.set (h+1) (.dic (nZ (pl++[⟨nm,k,r,S.length⟩])))++[.ins c.place [("kind",.str k),("rule",.str r)]]) h (pl++[⟨nm,k,r,S.length⟩]) ps:=by
 have len:=A.lt;refine⟨k8 (by rw[dN (by omega)];exact A.hall),k8 (lK A.places),k8 (by rw[dN (by omega)];exact A.pieces),λq hq=>?_,λp hp=>((A.piece p hp).set (λj hj=>by have:=A.pO p hp;omega)).app,A.pO,A.pw,A.nd⟩;rcases aH.mp hq with hq | hq
 .exact k8 (by rw[dN (vY A.places (A.place q hq) (by intro z;cases z))];exact A.place q hq)
 .rw[ai.mp hq]
  have:=yE (S:=S.set (h+1) (.dic (nZ (pl++[⟨nm,k,r,S.length⟩])))) [bA.ins c.place [("kind",.str k),("rule",.str r)]];rw[dW] at this;exact this
theorem Up(p:HP):bQ (aG "ahead") p.fs=aa (.obj (p.i+1)):=by simp[HP.fs,bS]
theorem Uq(p:HP):bQ (aG "behind") p.fs=aa (.obj (p.i+2)):=by simp[HP.fs,bS]
theorem Ur(p:HP):bQ (aG "needs") p.fs=aa (.obj (p.i+3)):=by simp[HP.fs,bS]
theorem Us(p:HP):bQ (aG "bars") p.fs=aa (.obj (p.i+4)):=by simp[HP.fs,bS]
def yG(p:HP)(l0 l1 l2 l3:List Str):HP:={ p with w0:=p.w0++l0,w1:=p.w1++l1,w2:=p.w2++l2,w3:=p.w3++l3 }
theorem FU{k:Nat}{w l:List Str}(h:S[k]?=aa (.lst (w.map .str)))(hl:w.length+l.length<=1000):jC (.obj k) [aI l] S=.ok .bY (S.set k (.lst ((w++l).map .str))):=by
 have:=zC (y:=aI l) h rfl (by simpa using hl);rw[this,bf]
end DN
namespace DN
open PySem L2 MF
variable {c:Cl}{S:bx}{ρ:Ev}
structure Rw where
 nm:Str
 pl:Str
 br:Option Str
 on:Bool
abbrev ki(L:List Rw):List Str:=L.map (·.nm)
def oC(g:List Str)(x:Rw):List Str:=match x.br with
 |some b=>if b∈g then g++[x.nm] else g
 |none=>g
def pR(g:List Str)(L:List Rw):List Str:=L.foldl oC g
theorem Ov(g:List Str)(x:Rw)(L:List Rw):pR g (x::L)=pR (oC g x) L:=rfl
def uA:List Str->List Rw->Prop
 |_,[]=>True
 |seen,x::r=>(∀b,x.br=aa b->b∈seen)/\uA (seen++[x.nm]) r
def FW(nm:Str)(seen g:List Str):Prop:=(∀y∈g,y∈seen)\/(g=[nm]/\nm∉seen)
theorem Ut{nm:Str}{seen g:List Str}{x:Rw}(h:FW nm seen g)(hb:∀b,x.br=aa b->b∈seen)(hx:x.nm∉seen) :
  FW nm (seen++[x.nm]) (oC g x)/\∀b,x.br=aa b->b∈g->x.nm∉g:=by
 rcases h with h | ⟨rfl,hn⟩
 .refine⟨.inl λy hy=>?_,λb _ _ hm=>hx (h _ hm)⟩
  unfold oC at hy
  split at hy
  .split at hy
   .rcases aH.mp hy with hy | hy
    .exact bw _ (h y hy)
    .exact bp _ hy
   .exact bw _ (h y hy)
  .exact bw _ (h y hy)
 .have no:∀b,x.br=aa b->b∉[nm]:=λb e hm=>hn (ai.mp hm▸hb b e)
  have e:oC [nm] x=[nm]:=by
   unfold oC
   split
   .rename_i b e;rw[if_neg (no b e)]
   .rfl
  refine⟨?_,λb e1 e2=>absurd e2 (no b e1)⟩;rw[e];by_cases z:x.nm=nm
  .left;intro y hy;rw[ai.mp hy,z];simp
  .right
   refine⟨rfl,λhm=>?_⟩;rcases aH.mp hm with h | h
   .exact hn h
   .exact z (ai.mp h).symm
theorem zz5{g:List Str}{x:Rw}{y:Str}(h:y∈oC g x):y∈g\/y=x.nm:=by
 unfold oC at h
 split at h
 .split at h
  .rcases aH.mp h with h | h
   .exact .inl h
   .exact .inr (ai.mp h)
  .exact .inl h
 .exact .inl h
theorem Uu:∀(L:List Rw) {g:List Str} {y:Str},y∈pR g L->y∈g\/y∈ki L
 |[],_,_,h=>.inl h
 | x::L,g,y,h=>by
   rcases Uu L (g:=oC g x) h with h | h
   .rcases zz5 h with h | h
    .exact .inl h
    .exact .inr (by rw[h];simp[ki])
   .exact .inr (au _ h)
theorem Uv(g:List Str)(x:Rw):(oC g x).length<=g.length+1:=by
 unfold oC
 split
 .split<;>simp
 .omega
theorem Uw:∀(L:List Rw) (g:List Str),(pR g L).length<=g.length+L.length
 |[],g=>by simp[pR]
 | x::L,g=>by
   have:=Uw L (oC g x);have:=Uv g x;rw[Ov,aL];omega
theorem Ux{seen:List Str}{x:Rw}{L:List Rw}(h:(seen++ki (x::L)).Nodup):x.nm∉seen/\((seen++[x.nm])++ki L).Nodup:=by
 refine⟨λhm=>?_,by simpa[ki] using h⟩;rw[b_] at h;exact h.2.2 x.nm hm x.nm (by simp[ki]) rfl
theorem Uy{nm:Str}:∀(L:List Rw) {seen g:List Str},FW nm seen g->uA seen L->(seen++ki L).Nodup->g.Nodup->(pR g L).Nodup
 |[],_,_,_,_,_,h=>h
 | x :: L,seen,g,h1,h2,h3,h4=>by
   obtain⟨a,b⟩:=Ux h3;obtain⟨s1,s2⟩:=Ut h1 h2.1 a;refine Uy L s1 h2.2 b ?_;unfold oC
   split
   .rename_i y e
    split
    .rename_i hm
     rw[b_];refine⟨h4,by simp,λu hu v hv e2=>?_⟩;rw[ai] at hv;subst hv e2;exact s2 y e hm hu
    .exact h4
   .exact h4
theorem tF:∀(l m:List Str),l.Nodup->(∀x∈l,x∈m)->l.length<=m.length
 |[],_,_,_=>dq _
 | x::l,m,nd,h=>by
   rw[cF] at nd;have:=tF l (m.erase x) nd.2 λy hy=>(List.mem_erase_of_ne (λe=>nd.1 (by rw[<- e];exact hy))).mpr (h y (au _ hy));rw[fV (h x (ay ..))] at this;have:=List.length_pos_of_mem (h x (ay ..));rw[aL];omega
def HP.rw(p:HP):Rw:=⟨p.nm,p.pl,p.br,p.on⟩
theorem Ja(ps:List HP):ki (ps.map HP.rw)=ps.map (·.nm):=by simp[ki,HP.rw]
def cT(g:List Str):List (b9×T):=g.map λx=>(.inr x,.bl true)
theorem wU(x:Str):∀(g:List Str),cU (cT g) (.inr x)=if x∈g then aa (.bl true) else ae
 |[]=>by simp[cU,cT]
 | y::g=>by
   have ih:=wU x g;by_cases h:y=x
   .simp[cU,cT,h]
   .have e:cU (cT (y::g)) (.inr x)=cU (cT g) (.inr x):=by simp[cU,cT,bT,h]
    rw[e,ih];simp[bZ h]
theorem Ow(g:List Str)(x:Str)(h:x∉g):kP (cT g) (.inr x) (.bl true)=cT (g++[x]):=by
 rw[BR (by rw[wU,if_neg h])];simp[cT]
theorem BS{k:Nat}{v:bA}(h:S[k]?=aa v):S.set k v=S:=by
 obtain⟨hl,e⟩:=ao.mp h;rw[<- e];exact List.set_getElem_self hl
theorem Uz(p:HP):bQ (aG "by") p.fs=aa (qY p.br):=by simp[HP.fs,bS]
theorem UA(p:HP):bQ (aG "place") p.fs=aa (.str p.pl):=by simp[HP.fs,bS]
theorem UB(p:HP):bQ (aG "on") p.fs=aa (.bl p.on):=by simp[HP.fs,bS]
theorem zz6{k h:Nat}{nm:Str}{p:HP}{g:List Str}(hk:S[k]?=aa (.dic (cT g)))(hp:S[p.i]?=aa (.ins c.piece p.fs))(hg:g.length<=800)(hn:∀b,p.br=aa b->b∈g->p.nm∉g) :
  x_ c [aa (.obj h),aa (.str nm),aa (.obj k),aa (.str p.nm),aa (.obj p.i)] S=.ok (.nx [aa (.obj h),aa (.str nm),aa (.obj k),aa (.str p.nm),aa (.obj p.i)]) (S.set k (.dic (cT (oC g p.rw)))):=by
 have i:=rD hp;have hl:(cT g).length<=900:=by simp[cT];omega
 have d:=vX hk;unfold oC HP.rw;cases e:p.br with
 | none=>
   have:=Uz p;rw[e] at this;simp[x_,i,this,qY,iz,d,dF,BS hk]
 | some b=>
   have lb:=Uz p;rw[e] at lb;have v:=wU b g;by_cases z:b∈g
   .have hn:=hn b e z
    rw[if_pos z] at v;have s:=Ow g p.nm hn;simp[x_,i,lb,qY,iz,d,dF,v,hk,hl,z,s]
   .rw[if_neg z] at v
    simp[x_,i,lb,qY,iz,d,dF,v,z,BS hk]
theorem UC{k h:Nat}{nm:Str}:∀(ps:List HP) {seen g:List Str} {x3 x4:Option T} {S:bx},S[k]?=aa (.dic (cT g))->(∀p∈ps,S[p.i]?=aa (.ins c.piece p.fs))->FW nm seen g->uA seen (ps.map HP.rw)->(seen++ps.map (·.nm)).Nodup->g.length+ps.length<=800 ->
  ∃q5 tG,dz (λ_=>True) (wL 3 4) (x_ c) (ow (dS ps)) [aa (.obj h),aa (.str nm),aa (.obj k),x3,x4] S=.ok (.nx [aa (.obj h),aa (.str nm),aa (.obj k),q5,tG]) (S.set k (.dic (cT (pR g (ps.map HP.rw)))))
 | [],seen,g,x3,x4,S,hk,_,_,_,_,_=>by
   refine⟨x3,x4,?_⟩;show dz _ _ _ [] _ S=_;unfold dz;rw[if_pos trivial];show _=R.ok _ (S.set k (.dic (cT g)));rw[BS hk]
 | p::ps,seen,g,x3,x4,S,hk,hp,h1,h2,h3,hl=>by
   have h3':(seen++ki (p.rw::ps.map HP.rw)).Nodup:=by
    have:=Ja (p::ps);rw[aE] at this;rw[this];exact h3
   obtain⟨a,nd⟩:=Ux h3';obtain⟨s1,s2⟩:=Ut h1 h2.1 a;rw[Ja] at nd;have hpp:=hp p (ay ..);rw[aL] at hl;have hb:=zz6 (c:=c) (h:=h) (nm:=nm) hk hpp (by omega) s2;have gl:=Uv g p.rw;obtain⟨y3,y4,e⟩:=UC (h:=h) (nm:=nm) (k:=k) ps (seen:=seen++[p.nm]) (g:=oC g p.rw) (x3:=aa (.str p.nm)) (x4:=aa (.obj p.i)) (S:=S.set k (.dic (cT (oC g p.rw)))) (lK hk)
    (λq hq=>by rw[dN (vY hk (hp q (au _ hq)) (by intro z;cases z))];exact hp q (au _ hq)) s1 h2.2 nd (by omega)
   refine⟨y3,y4,?_⟩;show dz _ _ _ (.tup [.str p.nm,.obj p.i]::ow (dS ps)) _ S=_;unfold dz;rw[if_pos trivial];show(M.bind (x_ c [aa (.obj h),aa (.str nm),aa (.obj k),aa (.str p.nm),aa (.obj p.i)]) _) S=_;rw[eL,hb];show dz (λ_=>True) (wL 3 4) (x_ c) (ow (dS ps)) _ _=_;rw[e,gB];rfl
theorem z2w(y:Str)(ps:List HP):EV (dS ps) (.inr y)=dS (ps.filter λp=>!decide (p.nm=y)):=by
 unfold EV dS;rw[cv];congr 1;refine gD λp _=>?_;simp
theorem UD{k h:Nat}{nm:Str}{o x4:Option T}:∀(g:List Str) {ps:List HP} {x3:Option T} {S:bx},S[h]?=aa (.ins c.hall (n5 h))->S[h+2]?=aa (.dic (dS ps))->g.Nodup->(∀y∈g,y∈ps.map (·.nm)) ->
  ∃q5,dz (λ_=>True) (c0 3) (BA c) (xX (cT g)) [aa (.obj h),aa (.str nm),o,x3,x4] S=.ok (.nx [aa (.obj h),aa (.str nm),o,q5,x4]) (S.set (h+2) (.dic (dS (ps.filter λp=>!g.contains p.nm))))
 | [],ps,x3,S,h1,h2,_,_=>by
   refine⟨x3,?_⟩;show dz _ _ _ [] _ S=_;unfold dz;rw[if_pos trivial];have:(ps.filter λp=>!([]:List Str).contains p.nm)=ps:=eI.mpr λ_ _=>rfl;rw[this,BS h2]
 | y :: g,ps,x3,S,h1,h2,nd,hs=>by
   rw[cF] at nd;obtain⟨p,hp,e⟩:=aq.mp (hs y (ay ..));have hv:cU (dS ps) (.inr y)=aa (.obj ((ps.find? λp=>decide (p.nm=y)).getD p).i):=by
    rw[Dj];cases e2:ps.find? λp=>decide (p.nm=y) with
    |none=>exact absurd e (by simpa using eW.mp e2 p hp)
    |some q=>rfl
   have i:=rD h1;have d:=vX h2;have hb:BA c [aa (.obj h),aa (.str nm),o,aa (.str y),x4] S=.ok (.nx [aa (.obj h),aa (.str nm),o,aa (.str y),x4]) (S.set (h+2) (.dic (dS (ps.filter λp=>!decide (p.nm=y))))):=by
    simp[BA,ML,i,zP,d,dF,h2,hv,z2w]
   obtain⟨q5,e3⟩:=UD (k:=k) (h:=h) (nm:=nm) (o:=o) (x4:=x4) g (ps:=ps.filter λp=>!decide (p.nm=y)) (x3:=aa (.str y)) (S:=S.set (h+2) (.dic (dS (ps.filter λp=>!decide (p.nm=y)))))
    (by rw[dN (by omega)];exact h1) (lK h2) nd.2 (λz hz=>by
     obtain⟨q,hq,rfl⟩:=aq.mp (hs z (au _ hz));refine aq.mpr ⟨q,bh.mpr ⟨hq,?_⟩,rfl⟩;have:q.nm≠y:=λe=>nd.1 (e▸hz);simp[this])
   refine⟨q5,?_⟩;show dz _ _ _ (.str y::xX (cT g)) _ S=_;unfold dz;rw[if_pos trivial];show(M.bind (BA c [aa (.obj h),aa (.str nm),o,aa (.str y),x4]) _) S=_;rw[eL,hb];show dz (λ_=>True) (c0 3) (BA c) (xX (cT g)) _ _=_;rw[e3,gB,vb];have:(ps.filter λp=>!g.contains p.nm&&!decide (p.nm=y))=ps.filter λp=>!(y::g).contains p.nm:=gD λp _=>by
    rw[cS,GG,Ce]
    try congr 2
   rw[this]
theorem fT.sub{S':bx}{h:Nat}{pl:List jx}{ps:List HP}(A:fT c S h pl ps)(q:HP->Bool)(same:∀j,j<S.length->j≠h+2->S'[j]?=S[j]?)(hd:S'[h+2]?=aa (.dic (dS (ps.filter q)))):fT c S' h pl (ps.filter q):=by
 have get:∀{j:Nat} {u:bA},S[j]?=aa u->j≠h+2->S'[j]?=aa u:=λ{j u} e ne=>by rw[same j (ao.mp e).1 ne];exact e
 refine⟨get A.hall (by omega),get A.places (by omega),hd,λp hp=>get (A.place p hp) (bZ (vY A.pieces (A.place p hp) (by intro z;cases z))),λp hp=>?_,λp hp=>A.pO p (bh.mp hp).1,A.pw.filter _,?_⟩
 .have P:=A.piece p (bh.mp hp).1
  have f:=A.pO p (bh.mp hp).1;exact⟨get P.o (by omega),get P.a0 (by omega),get P.a1 (by omega),get P.a2 (by omega),get P.a3 (by omega)⟩
 .exact A.nd.sublist (J5 _ List.filter_sublist)
theorem z94{h:Nat}{pl:List jx}{ps:List HP}(A:fT c S h pl ps){nm:Str}(hn:nm∈ps.map (·.nm))(HU:uA [] (ps.map HP.rw))(hl:ps.length<=100) :
  ∃S',CZ c [.obj h,.str nm] S=.ok (aI (pR [nm] (ps.map HP.rw))) S'/\fT c S' h pl (ps.filter λp=>!(pR [nm] (ps.map HP.rw)).contains p.nm)/\(∀j,j<S.length->j≠h+2->S'[j]?=S[j]?)/\S.length<=S'.length:=by
 have len:=A.lt;obtain⟨p,hp,rfl⟩:=aq.mp hn;have hm:=qZ (m:=aG "find_piece") h (by simp) (by simp);have ef:=Dl A (BQ A.nd hp);have i:=A.ins;generalize eg:pR [p.nm] (ps.map HP.rw)=G;have gk:FW p.nm [] [p.nm]:=.inr ⟨rfl,by simp⟩;have nd':([]++ki (ps.map HP.rw)).Nodup:=by rw[Ja];exact A.nd
 have Gnd:G.Nodup:=eg▸Uy _ gk HU nd' (by simp);have Ox:∀y∈G,y∈ps.map (·.nm):=λy hy=>by
  rw[<- eg] at hy;rcases Uu _ hy with h | h
  .rw[ai.mp h];exact hn
  .rwa[Ja] at h
 have Glen:G.length<=101:=by rw[<- eg];have:=Uw (ps.map HP.rw) [p.nm];simp at this;omega
 have hd:∀(ρ:Ev),ρ[1]?=aa (aa (.str p.nm))->Bo (ah 1) (eC (.bl true)) ρ S=.ok (.obj S.length) (S++[.dic (cT [p.nm])]):=fun ρ h1=>by
  simp[Bo,h1,dF,cT,Dm]
 have A1:fT c (S++[.dic (cT [p.nm])]) h pl ps:=A.app;have yH:(S++[bA.dic (cT [p.nm])])[S.length]?=aa (.dic (cT [p.nm])):=by rw[yE];rfl
 have nI:(S++[bA.dic (cT [p.nm])]).length=S.length+1:=by simp
 generalize UE:S++[bA.dic (cT [p.nm])]=S1 at A1 yH hd nI;have lk:=A1.pieces;obtain⟨x3,x4,l1⟩:=UC (c:=c) (h:=h) (nm:=p.nm) (k:=S.length) ps (seen:=[]) (g:=[p.nm]) (x3:=ae) (x4:=ae) (S:=S1.set (h+2) (.lck (dS ps)))
  (by rw[dN (by omega)];exact yH) (λq hq=>by rw[dN (by have:=A.pO q hq;omega)];exact(A1.piece q hq).o) gk HU (by simpa using A.nd) (by simp;omega)
 rw[eg] at l1;have f1:xY ow (e1 (fu c.hall "pieces") (ah 0)) (wL 3 4) (x_ c) [aa (.obj h),aa (.str p.nm),aa (.obj S.length),ae,ae] S1=.ok (.nx [aa (.obj h),aa (.str p.nm),aa (.obj S.length),x3,x4]) (S1.set S.length (.dic (cT G))):=by
  have e1:(e1 (fu c.hall "pieces") (ah 0)) [aa (.obj h),aa (.str p.nm),aa (.obj S.length),ae,ae] S1=.ok (.obj (h+2)) S1:=by
   have i1:=A1.ins;simp[i1,zP]
  have q1:((S1.set (h+2) (.lck (dS ps))).set S.length (.dic (cT G)))[h+2]?=aa (.lck (dS ps)):=by
   rw[dN (by omega)];exact lK lk
  have q2:((S1.set (h+2) (.lck (dS ps))).set S.length (.dic (cT G))).set (h+2) (.dic (dS ps))=S1.set S.length (.dic (cT G)):=by
   rw[Cf _ _ (show S.length≠h+2 by omega),gB,BS lk]
  unfold xY;rw[eL,e1];show(match S1[h+2]? with|some (.dic kvs)=>qS (h+2) kvs (dz _ _ _ (ow kvs) _ (S1.set (h+2) (.lck kvs))) | _=>.bad)=_;rw[lk];show qS (h+2) (dS ps) (dz _ _ _ (ow (dS ps)) _ (S1.set (h+2) (.lck (dS ps))))=_;rw[l1];unfold qS;simp only[q1,if_true,q2]
 have A2:fT c (S1.set S.length (.dic (cT G))) h pl ps:=by
  have eS2:S1.set S.length (.dic (cT G))=S++[.dic (cT G)]:=by rw[<- UE,zO]
  rw[eS2];exact A.app
 have ro:(S1.set S.length (.dic (cT G)))[S.length]?=aa (.dic (cT G)):=lK yH;have uk:(S1.set S.length (.dic (cT G))).length=S.length+1:=by rw[dW];exact nI
 have zQ:∀j,j<S.length->(S1.set S.length (.dic (cT G)))[j]?=S[j]?:=λj hj=>by
  rw[dN (by omega),<- UE,aw hj]
 generalize S1.set S.length (.dic (cT G))=S2 at f1 A2 ro uk zQ;obtain⟨q5,l2⟩:=UD (c:=c) (h:=h) (k:=S.length) (nm:=p.nm) (o:=aa (.obj S.length)) (x4:=x4) G (ps:=ps) (x3:=x3) (S:=S2.set S.length (.lck (cT G)))
  (by rw[dN (by omega)];exact A2.hall) (by rw[dN (by omega)];exact A2.pieces) Gnd Ox
 generalize eq:(ps.filter λp=>!G.contains p.nm)=qs at l2;have f2:xY xX (ah 2) (c0 3) (BA c) [aa (.obj h),aa (.str p.nm),aa (.obj S.length),x3,x4] S2=.ok (.nx [aa (.obj h),aa (.str p.nm),aa (.obj S.length),q5,x4]) (S2.set (h+2) (.dic (dS qs))):=by
  have q1:((S2.set S.length (.lck (cT G))).set (h+2) (.dic (dS qs)))[S.length]?=aa (.lck (cT G)):=by
   rw[dN (by omega)];exact lK ro
  have q2:((S2.set S.length (.lck (cT G))).set (h+2) (.dic (dS qs))).set S.length (.dic (cT G))=S2.set (h+2) (.dic (dS qs)):=by
   rw[Cf _ _ (show h+2≠S.length by omega),gB,BS ro]
  unfold xY;rw[eL,show(ah 2) [aa (T.obj h),aa (.str p.nm),aa (.obj S.length),x3,x4] S2=.ok (.obj S.length) S2 from rfl];show(match S2[S.length]? with|some (.dic kvs)=>qS S.length kvs (dz _ _ _ (xX kvs) _ (S2.set S.length (.lck kvs))) | _=>.bad)=_;rw[ro];show qS S.length (cT G) (dz _ _ _ (xX (cT G)) _ (S2.set S.length (.lck (cT G))))=_;rw[l2];unfold qS;simp only[q1,if_true,q2]
 have UG:(S2.set (h+2) (.dic (dS qs)))[S.length]?=aa (.dic (cT G)):=by rw[dN (by omega)];exact ro
 refine⟨S2.set (h+2) (.dic (dS qs)),?_,?_,λj hj oi=>?_,by rw[dW,uk];omega⟩
 .have e3:tj (S2.set (h+2) (.dic (dS qs))) (.obj S.length)=aa (G.map T.str):=by
   unfold tj;have:ju (S2.set (h+2) (.dic (dS qs))) (.obj S.length)=ae:=by simp[ju,cI,UG]
   rw[this,vX UG];simp[cT,kT]
  simp[CZ,TU,i,hm,ef,hd,f1,f2,tq,e3,aI]
 .rw[<- eq]
  refine A2.sub (λp=>!G.contains p.nm) (λj hj oi=>by rw[dN (bZ oi)]) ?_;rw[eq];exact lK A2.pieces
 .rw[dN (bZ oi)];exact zQ j hj
end DN
namespace DN
open PySem L2 MF
variable {sec:Str->List Str}
def lQ(sec:Str->List Str)(left:List Str)(x:Str):Bool:=!(left.any λf=>decide (x∈sec f))
def topo(sec:Str->List Str):Nat->List Str->List Str->Option (List Str)
 |0,_,row=>aa row
 | n+1,left,row=>match left.find? (lQ sec left) with
   |none=>ae
   |some x=>topo sec n (left.erase x) (row++[x])
theorem UH:∀(n:Nat) {left row res:List Str},left.Nodup->left.length=n->topo sec n left row=aa res->∃uB,res=row++uB/\uB.Perm left /\
  ∀A x B,uB=A++x::B->(left.filter λy=>!A.contains y).find? (lQ sec (left.filter λy=>!A.contains y))=aa x
 | 0,left,row,res,_,hl,e=>by
   cases e;have:left=[]:=gY hl;subst this;exact⟨[],by simp,.refl _,λA x B h=>by simp at h⟩
 | n + 1,left,row,res,nd,hl,e=>by
   unfold topo at e;cases e1:left.find? (lQ sec left) with
   |none=>simp only[e1] at e;cases e
   | some x=>
     simp only[e1] at e;have hm:=dR e1;have uO:(left.erase x).length=n:=by rw[fV hm];omega
     obtain⟨uB,rfl,hp,hs⟩:=UH n (nd.erase x) uO e;refine⟨x::uB,by simp,(List.Perm.cons x hp).trans (List.perm_cons_erase hm).symm,λA y B h=>?_⟩;cases A with
     | nil=>
       simp only[cH,mr] at h;rw[<- h.1];have:(left.filter λy=>!([]:List Str).contains y)=left:=eI.mpr λ_ _=>rfl;rw[this];exact e1
     | cons a A=>
       simp only[eK,mr] at h;obtain⟨rfl,h⟩:=h;have:=hs A y B h;rw[nd.erase_eq_filter,vb] at this;have e3:(left.filter λy=>!A.contains y&&(y != x))=left.filter λy=>!(x::A).contains y:=gD λy _=>by
        rw[cS,GG,Ce];rfl
       rw[e3] at this;exact this
inductive pS(sec:Str->List Str):Str->Str->Prop
 |one {a b:Str}:b∈sec a->pS sec a b
 |more {a b d:Str}:b∈sec a->pS sec b d->pS sec a d
theorem z95{l:List Str}(f:Nat->Str)(h:∀i,f i∈l):∃i j,i<j/\f i=f j:=by
 by_cases z:∃i j,i<j/\f i=f j
 .exact z
 .exfalso
  have inj:∀i j,i<j->f i≠f j:=λi j Oy e=>z ⟨i,j,Oy,e⟩;have nd:((d5 (l.length+1)).map f).Nodup:=by
   rw[List.Nodup,wB];refine GH (λ{a b} Oq=>?_) List.pairwise_lt_range;exact inj a b Oq
  have:=tF _ l nd λx hx=>by
   obtain⟨i,_,rfl⟩:=aq.mp hx;exact h i
  simp at this;omega
theorem zw8{left:List Str}(oi:left≠[])(h:∀x∈left,∃f∈left,x∈sec f):∃s∈left,pS sec s s:=by
 classical
 obtain⟨x0,hx0⟩:=List.exists_mem_of_ne_nil left oi;let pr:{ x // x∈left }->{ x // x∈left }:=λx=>⟨(h x.1 x.2).choose,(h x.1 x.2).choose_spec.1⟩;have hpr:∀x,x.1∈sec (pr x).1:=λx=>(h x.1 x.2).choose_spec.2;let f:Nat->{ x // x∈left }:=λn=>Nat.rec ⟨x0,hx0⟩ (λ_ x=>pr x) n;have hf:∀n,(f n).1∈sec (f (n+1)).1:=λn=>hpr (f n);have hp:∀j i,i<j->pS sec (f j).1 (f i).1:=by
  intro j
  induction j with
  |zero=>intro i hi;omega
  | succ j ih=>
    intro i hi;by_cases z:i=j
    .subst z;exact .one (hf i)
    .exact .more (hf j) (ih i (by omega))
 obtain⟨i,j,Oy,e⟩:=z95 (λn=>(f n).1) λn=>(f n).2;have p:=hp j i Oy;have e:(f i).1=(f j).1:=e;rw[e] at p;exact⟨(f j).1,(f j).2,p⟩
def q8(row:List Str):Str:=row.getLast?.getD cP
def wV(start:Str)(row:List Str):List Str->List Str->List (List Str)->Option (List Str×List (List Str))
 |[],re,lo=>aa (re,lo)
 |s::r,re,lo=>if s=start then ae else if s∈re then wV start row r re lo else wV start row r (re++[s]) (lo++[row++[s]])
def vZ(sec:Str->List Str)(start:Str):List (List Str)->List Str->List (List Str)->Except (List Str) (List Str×List (List Str))
 |[],re,lo=>.ok (re,lo)
 | row::rs,re,lo=>match wV start row (sec (q8 row)) re lo with
   |none=>.error row
   |some (gV,m9)=>vZ sec start rs gV m9
def sC(sec:Str->List Str)(start:Str):Nat->List (List Str)->List Str->List Str
 |0,_,_=>[]
 | n+1,rows,re=>if rows=[] then[] else match vZ sec start rows re [] with
   |.error row=>row
   |.ok (gV,lo)=>sC sec start n lo gV
structure rE(names:List Str)(re:List Str)(row:List Str):Prop where
 ne:row≠[]
 sub:∀x∈row,x∈names
 len:row.length<=re.length
structure mT(names re:List Str):Prop where
 nd:re.Nodup
 sub:∀x∈re,x∈names
theorem UI(row:List Str)(s:Str):q8 (row++[s])=s:=by simp[q8]
theorem UJ{row:List Str}(h:row≠[]):q8 row∈row:=by
 unfold q8;rw[List.getLast?_eq_some_getLast h];exact List.getLast_mem h
theorem rE.mono{names re gV row:List Str}(r:rE names re row)(h:re.length<=gV.length):rE names gV row:=⟨r.ne,r.sub,bt r.len h⟩
theorem Jb{names:List Str}{start:Str}{row:List Str}:∀(ss re:List Str) (lo:List (List Str)),(∀s∈ss,s∈names)->mT names re->rE names re row->(∀r∈lo,rE names re r)->lo.length<=re.length->∀gV m9,wV start row ss re lo=aa (gV,m9) ->
  mT names gV/\(∀r∈m9,rE names gV r)/\m9.length<=gV.length/\(∃u,gV=re++u)/\(∃v,m9=lo++v/\(v=[]\/re.length<gV.length))/\(∀s∈ss,s≠start/\s∈gV)/\(∀x∈gV,x∈re\/∃r∈m9,q8 r=x)
 | [],re,lo,hs,h1,h2,h3,h4,gV,m9,e=>by
   cases e;exact⟨h1,h3,h4,⟨[],by simp⟩,⟨[],by simp,.inl rfl⟩,(by intro s hs;cases hs),λx hx=>.inl hx⟩
 | s :: ss,re,lo,hs,h1,h2,h3,h4,gV,m9,e=>by
   unfold wV at e;by_cases z:s=start
   .rw[if_pos z] at e;cases e
   .rw [if_neg z] at e
    have UK:∀x∈ss,x∈names:=λx hx=>hs x (au _ hx);by_cases y:s∈re
    .rw[if_pos y] at e
     obtain⟨a1,a2,a3,⟨u,a4⟩,a5,a6,a7⟩:=Jb ss re lo UK h1 h2 h3 h4 gV m9 e;refine⟨a1,a2,a3,⟨u,a4⟩,a5,λx hx=>?_,a7⟩;rcases aF.mp hx with rfl | hx
     .exact⟨z,by rw[a4];exact bw _ y⟩
     .exact a6 x hx
    .rw[if_neg y] at e
     have r1:mT names (re++[s]):=⟨by
      rw[b_];refine⟨h1.nd,by simp,λa ha b hb e9=>?_⟩;rw[ai] at hb;subst hb e9;exact y ha,λx hx=>by
      rcases aH.mp hx with hx | hx
      .exact h1.sub x hx
      .rw[ai.mp hx];exact hs s (ay ..)⟩
     have ln:(re++[s]).length=re.length+1:=by simp
     have rr:rE names (re++[s]) (row++[s]):=⟨by simp,λx hx=>by
      rcases aH.mp hx with hx | hx
      .exact h2.sub x hx
      .rw[ai.mp hx];exact hs s (ay ..),by have:=h2.len;simp;omega⟩
     obtain⟨a1,a2,a3,⟨u,a4⟩,⟨v,a5,_⟩,a6,a7⟩:=Jb ss (re++[s]) (lo++[row++[s]]) UK r1 (h2.mono (by omega)) (λr hr=>by
      rcases aH.mp hr with hr | hr
      .exact(h3 r hr).mono (by omega)
      .rw[ai.mp hr];exact rr) (by simp;omega) gV m9 e
     refine⟨a1,a2,a3,⟨s::u,by rw[a4];simp⟩,⟨(row++[s])::v,by rw[a5];simp,.inr (by rw[a4];simp only[aB,aV];omega)⟩,λx hx=>?_,λx hx=>?_⟩
     .rcases aF.mp hx with rfl | hx
      .exact⟨z,by rw[a4];simp⟩
      .exact a6 x hx
     .rcases a7 x hx with h | h
      .rcases aH.mp h with h | h
       .exact .inl h
       .exact .inr ⟨row++[s],by rw[a5];simp,by rw[UI,ai.mp h]⟩
      .exact .inr h
theorem Jc{names:List Str}{start:Str}(q9:∀a∈names,∀b∈sec a,b∈names):∀(rows:List (List Str)) (re:List Str) (lo:List (List Str)),mT names re->(∀r∈rows,rE names re r)->(∀r∈lo,rE names re r)->lo.length<=re.length->∀gV m9,vZ sec start rows re lo=.ok (gV,m9) ->
  mT names gV/\(∀r∈m9,rE names gV r)/\m9.length<=gV.length/\(∃u,gV=re++u)/\(∃v,m9=lo++v/\(v=[]\/re.length<gV.length))/\(∀r∈rows,∀s∈sec (q8 r),s≠start/\s∈gV)/\(∀x∈gV,x∈re\/∃r∈m9,q8 r=x)
 | [],re,lo,h1,h2,h3,h4,gV,m9,e=>by
   cases e;exact⟨h1,h3,h4,⟨[],by simp⟩,⟨[],by simp,.inl rfl⟩,(by intro s hs;cases hs),λx hx=>.inl hx⟩
 | row :: rs,re,lo,h1,h2,h3,h4,gV,m9,e=>by
   unfold vZ at e;cases e1:wV start row (sec (q8 row)) re lo with
   |none=>simp only[e1] at e;cases e
   | some q=>
     obtain⟨qM,lo1⟩:=q;simp only[e1] at e;have hr:=h2 row (ay ..);obtain⟨a1,a2,a3,⟨u,a4⟩,⟨v,a5,FX⟩,a6,a7⟩:=Jb _ re lo (q9 _ (hr.sub _ (UJ hr.ne))) h1 hr h3 h4 qM lo1 e1;have Jd:re.length<=qM.length:=by rw[a4];simp
     obtain⟨b1,b2,b3,⟨u2,b4⟩,⟨v2,b5,b5'⟩,b6,b7⟩:=Jc q9 rs qM lo1 a1 (λr hr=>(h2 r (au _ hr)).mono Jd) a2 a3 gV m9 e;have le2:qM.length<=gV.length:=by rw[b4];simp
     refine⟨b1,b2,b3,⟨u++u2,by rw[b4,a4];simp⟩,⟨v++v2,by rw[b5,a5];simp,?_⟩,λr hr' s hs=>?_,λx hx=>?_⟩
     .rcases FX with rfl | h
      .rcases b5' with rfl | h
       .exact .inl rfl
       .exact .inr (by omega)
      .exact .inr (by omega)
     .rcases aF.mp hr' with rfl | hr'
      .exact⟨(a6 s hs).1,by rw[b4];exact bw _ (a6 s hs).2⟩
      .exact b6 r hr' s hs
     .rcases b7 x hx with h | h
      .rcases a7 x h with h | ⟨r,hr',e⟩
       .exact .inl h
       .exact .inr ⟨r,by rw[b5];exact bw _ hr',e⟩
      .exact .inr h
theorem Je{start:Str}:∀(rows:List (List Str)) (re:List Str) (lo:List (List Str)) {row:List Str},vZ sec start rows re lo=.error row->row∈rows
 | r :: rs,re,lo,row,e=>by
   unfold vZ at e;cases e1:wV start r (sec (q8 r)) re lo with
   |none=>simp only[e1] at e;cases e;exact ay ..
   | some q=>
     simp only[e1] at e;exact au _ (Je rs _ _ e)
theorem UL {names:List Str} {start:Str} (q9:∀a∈names,∀b∈sec a,b∈names) (hp:pS sec start start):∀(n:Nat) (rows:List (List Str)) (re:List Str),names.length+2<=n+re.length->mT names re->(∀r∈rows,rE names re r)->start∈re ->
  (∀u∈re,(∀v∈sec u,v≠start/\v∈re)\/∃r∈rows,q8 r=u)->sC sec start n rows re≠[]
 | 0,rows,re,hf,h1,_,_,_=>by
   have:=tF re names h1.nd h1.sub;omega
 | n + 1,rows,re,hf,h1,h2,h3,h4=>by
   have stop:(∀u∈re,∀v∈sec u,v≠start/\v∈re)->False:=λh=>by
    have go:∀a b,pS sec a b->a∈re->b≠start/\b∈re:=by
     intro a b p
     induction p with
     |one e=>exact λha=>h _ ha _ e
     |more e _ ih=>exact λha=>ih (h _ ha _ e).2
    exact(go _ _ hp h3).1 rfl
   unfold sC;by_cases z:rows=[]
   .exact(stop λu hu=>by
     rcases h4 u hu with h | ⟨r,hr,_⟩
     .exact h
     .rw[z] at hr;cases hr).elim
   .rw [if_neg z]
    cases e:vZ sec start rows re [] with
    |error row=>exact(h2 row (Je _ _ _ e)).ne
    | ok q=>
      obtain⟨gV,lo⟩:=q;obtain⟨a1,a2,a3,⟨u,a4⟩,⟨v,a5,FX⟩,a6,a7⟩:=Jc q9 rows re [] h1 h2 (by intro r hr;cases hr) (dq _) gV lo e;have UM:∀u∈gV,(∀v∈sec u,v≠start/\v∈gV)\/∃r∈lo,q8 r=u:=λx hx=>by
       rcases a7 x hx with h | h
       .rcases h4 x h with g | ⟨r,hr,rfl⟩
        .exact .inl λv hv=>⟨(g v hv).1,by rw[a4];exact bw _ (g v hv).2⟩
        .exact .inl λv hv=>a6 r hr v hv
       .exact .inr h
      rw[cH] at a5;rcases FX with y | y
      .rw[y] at a5
       subst a5;have hall:∀u∈gV,∀v∈sec u,v≠start/\v∈gV:=λu hu=>by
        rcases UM u hu with h | ⟨r,hr,_⟩
        .exact h
        .cases hr
       have go:∀a b,pS sec a b->a∈gV->b≠start/\b∈gV:=by
        intro a b p
        induction p with
        |one e=>exact λha=>hall _ ha _ e
        |more e _ ih=>exact λha=>ih (hall _ ha _ e).2
       exact((go _ _ hp (by rw[a4];exact bw _ h3)).1 rfl).elim
      .exact UL q9 hp n lo gV (by omega) a1 a2 (by rw[a4];exact bw _ h3) UM
theorem UN{names:List Str}{start:Str}(q9:∀a∈names,∀b∈sec a,b∈names):∀(n:Nat) (rows:List (List Str)) (re:List Str),mT names re->(∀r∈rows,rE names re r)->(∀x∈sC sec start n rows re,x∈names)/\(sC sec start n rows re).length<=names.length
 |0,rows,re,h1,h2=>by simp[sC]
 | n+1,rows,re,h1,h2=>by
   unfold sC;by_cases z:rows=[]
   .rw[if_pos z];simp
   .rw[if_neg z]
    cases e:vZ sec start rows re [] with
    | error row=>
      have r:=h2 row (Je _ _ _ e);have:=tF re names h1.nd h1.sub;exact⟨r.sub,bt r.len this⟩
    | ok q=>
      obtain⟨gV,lo⟩:=q;obtain⟨a1,a2,_⟩:=Jc q9 rows re [] h1 h2 (by intro r hr;cases hr) (dq _) gV lo e;exact UN q9 n lo gV a1 a2
end DN
namespace DN
open PySem L2 MF
variable {c:Cl}{S:bx}{ρ:Ev}
@[simp]theorem Zc2(acc:Str):jT acc [] ρ S=(if acc.length<=1000 then .ok (.str acc) S else .bad):=rfl
@[simp]theorem Zb7(acc:Str)(f:DE)(fs:List DE):jT acc (f::fs) ρ S=(f ρ).bind (λt=>match t with
 |.str y=>(λS=>if(acc++y).length<=1000 then jT (acc++y) fs ρ S else .bad)
 |_=>M.bad) S:=rfl
@[simp]theorem Zc3(y:Str):Ig (.str y) S=(if(cD y).length<=1000 then .ok (.str (cD y)) S else .bad):=rfl
@[simp]theorem Zb8(C:aj)(fr:DA):Mm C fr ρ S=(fr ρ).bind (λts=>λS=>if ts.length<=1000 then .exc C ae S else .bad) S:=rfl
@[simp] theorem Zdp (fb:DS) (js:List Nat) (fh:DH):su fb js fh ρ S=(match fb ρ S with
  |.ok x S'=>.ok x S'
  |.exc C fs S'=>fh C fs (qt js ρ) S'
  |.bad=>.bad):=by unfold su;split<;>simp_all
def Sm(x:Str):Prop:=(cD x).length<=100
theorem Oz(a:String):(aG a).length=a.length:=by
 simp[Str.length,jW]
 try rfl
theorem Bs(a b:String){x:Str}(h:Sm x)(ha:a.length<=100)(hb:b.length<=100):(cD x).length<=1000/\(cP++aG a).length<=1000/\(cP++aG a++cD x).length<=1000/\(cP++aG a++cD x++aG b).length<=1000:=by
 unfold Sm at h;have e0:cP.length=0:=rfl;simp only[bM,Oz,e0];omega
theorem zn9{h:Nat}{pl:List jx}{ps:List HP}(A:fT c S h pl ps){x:Str}(hp:x∉ps.map (·.nm))(sm:Sm x):qU c [.obj h,.str x] S=.exc c.noPiece ae S:=by
 have e:=Dj x ps;rw[Ot hp] at e;obtain⟨l1,l2,l3,l4⟩:=Bs "no piece " " hangs" sm (by decide) (by decide);simp[qU,MY,A.ins,zP,m8,A.lJ,dF,e,l1,l2,l3,l4]
theorem zz8{h:Nat}{pl:List jx}{ps:List HP}(A:fT c S h pl ps){nm q b:Str}{dd:T}{pm:jx}(hn:nm∉ps.map (·.nm))(hq:pl.find? (λp=>decide (p.nm=q))=aa pm)(hl:ps.length<24)(hb:b∈ps.map (·.nm)) :
  vS c [.obj h,.str nm,.str q,dd,.str b] S=.ok .bY (S.set (h+2) (.dic (dS (ps++[c_ nm q dd (aa b) S.length])))++(c_ nm q dd (aa b) S.length).block c):=by
 have e1:cU (dS ps) (.inr nm)=ae:=by rw[Dj,Ot hn];rfl
 have hm:=qZ (m:=aG "find_place") h (by simp) (by simp);have wM:=qZ (m:=aG "find_piece") h (by simp) (by simp);have e2:=Ol A hq;obtain⟨pb,hpb,rfl⟩:=aq.mp hb;have e2b:=Dl A (BQ A.nd hpb);have c5:¬(24:Int)<=(dS ps).length:=by simp[dS];omega
 have e3:=Um (c:=c) (S:=S) nm q dd (aa pb.nm);have len:=A.lt;have e4:(S++(c_ nm q dd (aa pb.nm) S.length).block c)[h+2]?=aa (.dic (dS ps)):=k8 A.pieces;have e5:(S++(c_ nm q dd (aa pb.nm) S.length).block c).set (h+2) (.dic (kP (dS ps) (.inr nm) (.obj S.length)))=S.set (h+2) (.dic (dS (ps++[c_ nm q dd (aa pb.nm) S.length])))++(c_ nm q dd (aa pb.nm) S.length).block c:=by
  rw[kJ _ _ (by omega),BR e1];simp[dS,c_]
 have e6:(dS ps).length<=900:=by simp[dS];omega
 have A2:pG (S++(c_ nm q dd (aa pb.nm) S.length).block c) c.hall (.obj h)=aa (h,n5 h):=rD (k8 A.hall);have e7:wK (.obj (h+2)) S=.ok (.int (dS ps).length) S:=by simp[wK,A.pieces]
 have Ou:Bx c [.obj S.length,.str q,dd,.str pb.nm] (S++[.ins c.piece []])=.ok .bY (S++(c_ nm q dd (aa pb.nm) S.length).block c):=e3;simp[vS,MZ,A.ins,zP,iz,A.lJ,dF,e1,hm,wM,e2,e2b,ti,ud,e7,c5,Ou,A2,e4,e6,e5]
theorem zz9{h:Nat}{pl:List jx}{ps:List HP}(A:fT c S h pl ps){nm q:Str}{br:Option Str}{dd:T}{pm:jx}(hn:nm∉ps.map (·.nm))(hq:pl.find? (λp=>decide (p.nm=q))=aa pm)(hl:ps.length<24)(hb:∀b,br=aa b->b∈ps.map (·.nm)) :
  vS c [.obj h,.str nm,.str q,dd,qY br] S=.ok .bY (S.set (h+2) (.dic (dS (ps++[c_ nm q dd br S.length])))++(c_ nm q dd br S.length).block c):=by
 cases br with
 |none=>exact Uo A hn hq hl
 |some b=>exact zz8 A hn hq hl (hb b rfl)
theorem UO{q:Str}:∀(ps:List HP) {x0 x1:Option T} {acc:List T},(∀p∈ps,S[p.i]?=aa (.ins c.piece p.fs))->acc.length+ps.length<=900 ->
  nH (λ_=>True) (wL 0 1) (zJ c) (C7 c) (ow (dS ps)) [x0,x1,aa (.str q)] acc S=.ok (acc++((ps.filter λp=>decide (p.pl=q)&&p.on).map λp=>T.str p.nm)) S
 | [],x0,x1,acc,_,_=>by
   show nH _ _ _ _ [] _ acc S=_;unfold nH;rw[if_pos trivial];simp
 | p :: ps,x0,x1,acc,hp,hl=>by
   have i:=rD (hp p (ay ..));rw[aL] at hl;have ih:=λ(acc:List T) (ha:acc.length+ps.length<=900)=>UO (q:=q) ps (x0:=aa (.str p.nm)) (x1:=aa (.obj p.i)) (acc:=acc) (λr hr=>hp r (au _ hr)) ha;have ht:zJ c [aa (.str p.nm),aa (.obj p.i),aa (.str q)] S=.ok (decide (p.pl=q)&&p.on) S:=by
    by_cases z:p.pl=q
    .simp[zJ,i,UA,UB,z]
    .simp[zJ,i,UA,UB,z]
   have he:C7 c [aa (.str p.nm),aa (.obj p.i),aa (.str q)] S=.ok (.str p.nm) S:=by simp[C7]
   show nH _ _ _ _ (.tup [.str p.nm,.obj p.i]::ow (dS ps)) _ acc S=_;unfold nH;rw[if_pos trivial];show(M.bind (zJ c [aa (.str p.nm),aa (.obj p.i),aa (.str q)]) _) S=_;rw[eL,ht];have OA:acc.length<1000:=by omega
   cases z:(decide (p.pl=q)&&p.on) with
   | false=>
     rw[List.filter_cons_of_neg (by rw[z];decide)];exact ih acc (by omega)
   | true=>
     rw[List.filter_cons_of_pos (by rw[z]),aE];have:=ih (acc++[.str p.nm]) (by rw[aB,aV];omega);rw[aR] at this;simp only[if_true,eL,he,SM,OA];exact this
theorem OB{h:Nat}{pl:List jx}{ps:List HP}(A:fT c S h pl ps){q:Str}{pm:jx}(hq:pl.find? (λp=>decide (p.nm=q))=aa pm)(hl:ps.length<=800) :
  Fs c [.obj h,.str q] S=.ok (aI ((ps.filter λp=>decide (p.pl=q)&&p.on).map (·.nm))) S:=by
 have hm:=qZ (m:=aG "find_place") h (by simp) (by simp);have e2:=Ol A hq;have lk:=A.pieces;have len:=A.lt;have ec:Fd ow 2 [1] (IF c) (wL 0 1) (zJ c) (C7 c) eU [aa (.obj h),aa (.str q)] S=.ok (aI ((ps.filter λp=>decide (p.pl=q)&&p.on).map (·.nm))) S:=by
  have e1:IF c [aa (.obj h),aa (.str q)] S=.ok (.obj (h+2)) S:=by simp[IF,A.ins,zP]
  have cc:=UO (c:=c) (S:=S.set (h+2) (.lck (dS ps))) (q:=q) ps (x0:=ae) (x1:=ae) (acc:=[]) (λp hp=>by rw[dN (by have:=A.pO p hp;omega)];exact(A.piece p hp).o) (by simp;omega);have q2:(S.set (h+2) (.lck (dS ps))).set (h+2) (.dic (dS ps))=S:=by rw[gB,BS lk]
  have q1:(S.set (h+2) (.lck (dS ps)))[h+2]?=aa (.lck (dS ps)):=lK lk;unfold Fd;rw[eL,e1];show(match S[h+2]? with|some (.dic kvs)=>Bm (h+2) kvs (M.bind (rC (nH _ _ _ _ (ow kvs) [ae,ae,aa (.str q)] [])) eU (S.set (h+2) (.lck kvs))) | _=>.bad)=_;rw[lk];show Bm (h+2) (dS ps) (M.bind (rC (nH _ _ _ _ (ow (dS ps)) [ae,ae,aa (.str q)] [])) eU (S.set (h+2) (.lck (dS ps))))=_;have:rC (nH (λ_=>True) (wL 0 1) (zJ c) (C7 c) (ow (dS ps)) [ae,ae,aa (.str q)] []) (S.set (h+2) (.lck (dS ps)))=.ok ([]++((ps.filter λp=>decide (p.pl=q)&&p.on).map λp=>T.str p.nm)) (S.set (h+2) (.lck (dS ps))):=by
   unfold rC;rw[cc]
  rw[eL,this];show Bm (h+2) (dS ps) (R.ok (T.lst ([]++((ps.filter λp=>decide (p.pl=q)&&p.on).map λp=>T.str p.nm))) (S.set (h+2) (.lck (dS ps))))=_;unfold Bm;simp only[q1,if_true,q2];simp[aI]
 simp[Fs,TY,A.ins,hm,e2,ec]
theorem z2x{t:T}(l:List Str)(hl:l.length<=1000)(ht:ju S t=aa (l.map T.str)):Bz c [aI l,t] S=.ok (.bl true) S:=by
 have c5:kQ t S=.ok (.int l.length) S:=by simp[kQ,ht]
 obtain⟨ρ',S',e,⟨x,rfl⟩,rfl⟩:=CP (ρ:=[aa (aI l),aa t,ae]) (S:=S) (it:=tz (a_ (e1 kQ (ah 1)) aJ)) (g:=c0 2) (ts:=ot 0 l.length) (st:=λ_=>True) (S1:=S) (body:=M2 c)
  (λ_ ρ S1=>(∃x,ρ=[aa (aI l),aa t,x])/\S1=S)
  (by have:-1000000<=(l.length:Int)/\(l.length:Int)<=1000000:=by omega
      simp[c5,this]) ⟨⟨_,rfl⟩,rfl⟩ (λpre u post ρ S1 og ⟨⟨x,hρ⟩,hS⟩=>by
   obtain⟨si,rfl⟩:=Oi og;subst hρ hS;have UP:jt (l.map T.str) (pre.length:Int)=aa (.str l[pre.length]):=by rw[zj];simp[si]
   have OC:eh t (.int pre.length) S1=.ok (.str l[pre.length]) S1:=by simp[eh,ht,UP]
   refine⟨trivial,_,rfl,[aa (aI l),aa t,aa (.int pre.length)],S1,?_,⟨_,rfl⟩,rfl⟩
   .simp[M2,aI,UP,OC,nF,pF]) (λ_ _ _=>trivial)
 have h1:nF .list (aI l) S'=.ok (.bl true) S':=rfl;have h2:kQ (aI l) S'=.ok (.int l.length) S':=by simp[aI]
 simp[Bz,TR,h1,h2,c5,e]
theorem z6b(l:List Str)(hl:l.length<=1000):Bz c [aI l,aI l] S=.ok (.bl true) S:=z2x l hl rfl
end DN
namespace DN
open PySem L2 MF
variable {c:Cl}{S:bx}{ρ:Ev}{sec:Str->List Str}{names:List Str}
def c7(names:List Str)(sec:Str->List Str):T:=.dic (names.map λn=>(.inr n,.dic (cT (sec n))))
theorem OD{g:Str->T}{n:Str}:∀{names:List Str},n∈names->cU (names.map λn=>(dG n,g n)) (.inr n)=aa (g n)
 | m :: names,h=>by
   by_cases z:m=n
   .subst z;simp[cU]
   .have h:n∈names:=by
     rcases aF.mp h with h | h
     .exact absurd h.symm z
     .exact h
    have ih:=OD (g:=g) h;unfold cU at ih ⊢;rw[aE,bT];simpa[z] using ih
theorem OE{g:Str->T}{n:Str}:∀{names:List Str},n∉names->cU (names.map λn=>(dG n,g n)) (.inr n)=ae
 |[],_=>rfl
 | m::names,h=>by
   have z:m≠n:=λe=>h (by simp[e]);have ih:=OE (g:=g) (n:=n) (names:=names) λe=>h (au _ e);unfold cU at ih ⊢;rw[aE,bT];simpa[z] using ih
theorem UQ{n:Str}(hn:n∈names):iS (c7 names sec) (.str n) S=.ok (.dic (cT (sec n))) S:=by
 simp[iS,c7,m6,dF,OD hn]
theorem UR(b:Str)(l:List Str):iz (.str b) (.dic (cT l)) S=.ok (.bl (decide (b∈l))) S:=by
 by_cases z:b∈l
 .simp[iz,m6,dF,wU,z]
 .simp[iz,m6,dF,wU,z]
theorem OF{st:bx->Prop}{body:DS}{i:Nat}{ρ0:Ev}{p:T->Option T}(dI:st S):∀(ts:List T) (ρ:Ev),(∀t,ρ.set i (aa t)=ρ0.set i (aa t))->(∀t∈ts,body (ρ0.set i (aa t)) S=match p t with|some r=>.ok (.rt r) S | none=>.ok (.nx (ρ0.set i (aa t))) S) ->
  ∃ρ',(∀t,ρ'.set i (aa t)=ρ0.set i (aa t))/\dz st (c0 i) body ts ρ S=match ts.findSome? p with|some r=>.ok (.rt r) S | none=>.ok (.nx ρ') S
 | [],ρ,hρ,_=>⟨ρ,hρ,by
   unfold dz;rw[if_pos dI];rfl⟩
 | t::ts,ρ,hρ,hb=>by
   have h1:=hb t (ay ..);obtain⟨ρ',US,e⟩:=OF dI ts (ρ0.set i (aa t)) (λu=>by rw[gB]) λu hu=>hb u (au _ hu);unfold dz;rw[if_pos dI];simp only[c0,hρ t,lu];show∃ρ',_/\(M.bind (body (ρ0.set i (aa t))) _) S=_;rw[eL,h1];cases e2:p t with
   |some r=>exact⟨ρ',US,rfl⟩
   |none=>exact⟨ρ',US,e⟩
theorem UT{α:Type}(f:α->Bool):∀(l:List α),zF (l.map λx=>T.bl (f x))=aa (l.map f)
 |[]=>rfl
 | a::r=>by
   rw[aE];unfold zF;rw[UT f r];rfl
theorem zw9{k:Nat}{left:List Str}(hk:S[k]?=aa (.lst (left.map .str)))(l9:∀x∈left,x∈names)(hl:left.length<=900) :
  C6 c [c7 names sec,.obj k] S=.ok (match left.find? (lQ sec left) with|some x=>.str x | none=>.bY) S:=by
 have v3:=jG hk;have any:∀x,e1 uj (i4 1 [2,0] (IB c) (c0 0) ke (IA c) eU) [aa (c7 names sec),aa (.obj k),aa (.str x)] S=.ok (.bl (left.any λf=>decide (x∈sec f))) S:=λx=>by
  have hc:=E9 (ρ:=[aa (c7 names sec),aa (.obj k),aa (.str x)]) (S:=S) (js:=[2,0]) (it:=IB c) (te:=IA c) (ts:=left.map .str) (st:=λS'=>cI S' (.obj k)=aa (left.map .str))
   (f:=λt=>match t with|.str y=>.bl (decide (x∈sec y)) | _=>.bY) (by simp[IB,v3]) v3 (by simpa using(by omega:left.length<=1000)) (λt ht=>by
    obtain⟨y,hy,rfl⟩:=aq.mp ht;simp[IA,UQ (l9 y hy),UR])
  rw[aU] at hc;have e:uj (.lst (left.map λy=>T.bl (decide (x∈sec y)))) S=.ok (.bl (left.any λf=>decide (x∈sec f))) S:=by
   unfold uj;simp only[Mu,jf,UT,List.any_map];rfl
  rw[Be,eL,hc];exact e
 obtain⟨ρ',_,e⟩:=OF (S:=S) (st:=λS'=>cI S' (.obj k)=aa (left.map .str)) (body:=C5 c) (i:=2) (ρ0:=[aa (c7 names sec),aa (.obj k),ae]) (p:=λt=>match t with|.str x=>if lQ sec left x=true then aa (.str x) else ae | _=>ae) v3 (left.map .str) [aa (c7 names sec),aa (.obj k),ae] (λ_=>rfl) (λt ht=>by
  obtain⟨x,hx,rfl⟩:=aq.mp ht;have a:=any x;rw[Be,eL] at a;by_cases z:(left.any λf=>decide (x∈sec f))=true
  .have z2:lQ sec left x=false:=by unfold lQ;rw[z];rfl
   simp only[z2];rw[z] at a;simp[C5,a]
  .have z:(left.any λf=>decide (x∈sec f))=false:=by simpa using z
   have z2:lQ sec left x=true:=by unfold lQ;rw[z];rfl
   simp only[z2,if_true];rw[z] at a;simp[C5,a])
 have ef:(left.map T.str).findSome? (λt=>match t with|.str x=>if lQ sec left x=true then aa (T.str x) else ae | _=>ae)=(left.find? (lQ sec left)).map T.str:=by
  generalize lQ sec left=q;clear e any v3 hk l9 hl
  induction left with
  |nil=>rfl
  | cons a r ih=>
    rw[aE,lu,bT];cases z:q a with
    |true=>simp[z]
    |false=>simpa[z] using ih
 rw[ef] at e;have es:dA (iL (ah 1)) (c0 2) (C5 c) [aa (c7 names sec),aa (.obj k),ae] S=dz (λS'=>cI S' (.obj k)=aa (left.map .str)) (c0 2) (C5 c) (left.map .str) [aa (c7 names sec),aa (.obj k),ae] S:=by
  unfold dA;simp[v3]
 cases z:left.find? (lQ sec left) with
 | none=>
   rw[z] at e;simp[C6,Nd,es,e]
 | some x=>
   rw[z] at e;simp[C6,Nd,es,e]
end DN
namespace DN
open PySem L2 MF
variable {c:Cl}{S:bx}{ρ:Ev}{sec:Str->List Str}{names:List Str}
def oE(names A:List Str)(k:Nat):List (b9×T):=A.map λn=>(.inr n,.obj (k+1+names.idxOf n))
def gR(S:bx)(names:List Str)(sec:Str->List Str):bx:=S++.dic (oE names names S.length)::names.map λn=>.dic (cT (sec n))
theorem UU{A B:List Str}{n:Str}(h:n∉A):(A++n::B).idxOf n=A.length:=by
 rw[List.idxOf_append,if_neg h];simp
theorem OG:(gR S names sec)[S.length]?=aa (.dic (oE names names S.length)):=by unfold gR;rw[yE];rfl
theorem Dn{j:Nat}{u:bA}(h:S[j]?=aa u):(gR S names sec)[j]?=aa u:=k8 h
theorem UW{a:Str}(ha:a∈names):(gR S names sec)[S.length+1+names.idxOf a]?=aa (.dic (cT (sec a))):=by
 unfold gR;rw[DR,pP,GI 1,bL,bH];have hl:=List.idxOf_lt_length_of_mem ha;rw[aW hl,List.getElem_idxOf hl];rfl
theorem z6c{a:Str}{l:List Str}(nd:names.Nodup)(ha:a∈names):(gR S names sec).set (S.length+1+names.idxOf a) (.dic (cT l))=gR S names (λn=>if n=a then l else sec n):=by
 unfold gR;rw[DR,FQ,GI 1,List.set_cons_succ];congr 2;obtain⟨A,B,rfl⟩:=List.append_of_mem ha;have hA:a∉A:=λhm=>by
  rw[b_] at nd;exact nd.2.2 a hm a (ay ..) rfl
 have hB:a∉B:=λhm=>by
  rw[b_,cF] at nd;exact nd.2.1.1 hm
 rw[UU hA,bf,aE,j7 _ _ (by simp),aN,fM,vc,bf,aE];show _++bA.dic (cT l)::_=_++bA.dic (cT (if a=a then l else sec a))::_;rw[if_pos rfl];congr 1
 .exact dD λn hn=>by
   show _=bA.dic (cT (if n=a then l else sec n));rw[if_neg (λe=>hA (by rw[<- e];exact hn))]
 .congr 1
  exact dD λn hn=>by
   show _=bA.dic (cT (if n=a then l else sec n));rw[if_neg (λe=>hB (by rw[<- e];exact hn))]
def oF(sec:Str->List Str)(a b:Str):Str->List Str:=λn=>if n=a then(if b∈sec a then sec a else sec a++[b]) else sec n
theorem z0f(g:List Str)(x:Str):kP (cT g) (.inr x) (.bl true)=cT (if x∈g then g else g++[x]):=by
 by_cases z:x∈g
 .rw[if_pos z]
  unfold kP;have OH:((cT g).any λkv=>decide (kv.1=dG x))=true:=fJ.mpr ⟨((dG x:b9),T.bl true),aq.mpr ⟨x,z,rfl⟩,by simp⟩;rw[if_pos OH];unfold cT;rw[aU];refine dD λy _=>?_;show(if(dG y:b9)=dG x then((dG y:b9),T.bl true) else(dG y,.bl true))=_
  split<;>rfl
 .rw[if_neg z,Ow g x z]
theorem UX{a b x y:Str}:y∈oF sec a b x↔y∈sec x\/(x=a/\y=b):=by
 unfold oF;by_cases z:x=a
 .rw[if_pos z]
  by_cases w:b∈sec a
  .rw[if_pos w,z]
   constructor
   .exact .inl
   .rintro(h | ⟨_,rfl⟩)
    .exact h
    .exact w
  .rw[if_neg w,z,aH,ai]
   simp
 .rw[if_neg z]
  simp[z]
theorem Jf{a b x:Str}:(oF sec a b x).length<=(sec x).length+1:=by
 unfold oF
 split
 .rename_i z
  subst z
  split
  .omega
  .simp
 .omega
theorem UY{n:Str}(h:n∈names):cU (oE names names S.length) (.inr n)=aa (.obj (S.length+1+names.idxOf n)):=OD (g:=λn=>.obj (S.length+1+names.idxOf n)) h
theorem z0g{n:Str}(h:n∉names):cU (oE names names S.length) (.inr n)=ae:=OE (g:=λn=>.obj (S.length+1+names.idxOf n)) h
theorem UZ(n:Str):iz (.str n) (.obj S.length) (gR S names sec)=.ok (.bl (decide (n∈names))) (gR S names sec):=by
 have d:=vX (OG (S:=S) (names:=names) (sec:=sec));by_cases z:n∈names
 .simp[iz,d,dF,UY z,z]
 .simp[iz,d,dF,z0g z,z]
theorem U0{a b:Str}{ρ:Ev}{fd fk:DE}(nd:names.Nodup)(ha:a∈names)(hl:(sec a).length<=800)(h1:fd ρ (gR S names sec)=.ok (.obj (S.length+1+names.idxOf a)) (gR S names sec))(h2:fk ρ (gR S names sec)=.ok (.str b) (gR S names sec)) :
  uQ fd fk (eC (.bl true)) ρ (gR S names sec)=.ok (.nx ρ) (gR S names (oF sec a b)):=by
 have g:=UW (S:=S) (sec:=sec) ha;have uO:(cT (sec a)).length<=900:=by simp[cT];omega
 have e:(λn=>if n=a then(if b∈sec a then sec a else sec a++[b]) else sec n)=oF sec a b:=rfl;simp[h1,h2,dF,g,uO,z0f,z6c nd ha,e]
theorem U1{a:Str}(ha:a∈names):iS (.obj S.length) (.str a) (gR S names sec)=.ok (.obj (S.length+1+names.idxOf a)) (gR S names sec):=by
 have d:=vX (OG (S:=S) (names:=names) (sec:=sec));simp[iS,d,dF,UY ha]
def n6(names:List Str)(nm:Str)(sec:Str->List Str)(o:Str):Str->List Str:=if o∈names then oF sec nm o else sec
def tH(names:List Str)(nm:Str)(sec:Str->List Str)(o:Str):Str->List Str:=if o∈names then oF sec o nm else sec
theorem U2{h:Nat}{nm:Str}{t1 t4:Option T}{st:bx->Prop}(nd:names.Nodup)(hn:nm∈names)(dI:∀sec,st (gR S names sec)):∀(os:List Str) {sec:Str->List Str} {x5:Option T},(∀x,(sec x).length+os.length<=800) ->
  ∃kS,dz st (c0 5) (BC c) (os.map .str) [aa (.obj h),t1,aa (.obj S.length),aa (.str nm),t4,x5] (gR S names sec)=.ok (.nx [aa (.obj h),t1,aa (.obj S.length),aa (.str nm),t4,kS]) (gR S names (os.foldl (n6 names nm) sec))
 | [],sec,x5,_=>⟨x5,by
   show dz _ _ _ [] _ _=_;unfold dz;rw[if_pos (dI _)];rfl⟩
 | o :: os,sec,x5,hl=>by
   have hb:BC c [aa (.obj h),t1,aa (.obj S.length),aa (.str nm),t4,aa (.str o)] (gR S names sec)=.ok (.nx [aa (.obj h),t1,aa (.obj S.length),aa (.str nm),t4,aa (.str o)]) (gR S names (n6 names nm sec o)):=by
    unfold n6;have d:=UZ (S:=S) (names:=names) (sec:=sec) o;by_cases z:o∈names
    .have p:=U0 (S:=S) (sec:=sec) (a:=nm) (b:=o) (ρ:=[aa (.obj h),t1,aa (.obj S.length),aa (.str nm),t4,aa (.str o)]) (fd:=e2 iS (ah 2) (ah 3)) (fk:=ah 5) nd hn (by have:=hl nm;simp at this;omega) (by simp[U1 hn]) (by simp)
     rw[if_pos z];simp only[decide_eq_true z] at d;unfold BC;rw[E8,eL,SH,eL,sr,eL];simp only[zy,bL,ck,eL,d,SG,if_true];exact p
    .rw[if_neg z]
     simp only[decide_eq_false z] at d;simp[BC,d]
   obtain⟨kS,e⟩:=U2 (h:=h) (t1:=t1) (t4:=t4) nd hn dI os (sec:=n6 names nm sec o) (x5:=aa (.str o)) (λx=>by
    have:=hl x;rw[aL] at this;unfold n6
    split
    .have:=Jf (sec:=sec) (a:=nm) (b:=o) (x:=x);omega
    .omega)
   refine⟨kS,?_⟩;show dz _ _ _ (.str o::os.map .str) _ _=_;unfold dz;rw[if_pos (dI _)];show(M.bind (BC c [aa (.obj h),t1,aa (.obj S.length),aa (.str nm),t4,aa (.str o)]) _) _=_;rw[eL,hb];exact e
theorem U3{h:Nat}{nm:Str}{t1 t4:Option T}{st:bx->Prop}(nd:names.Nodup)(hn:nm∈names)(dI:∀sec,st (gR S names sec)):∀(os:List Str) {sec:Str->List Str} {x5:Option T},(∀x,(sec x).length+os.length<=800) ->
  ∃kS,dz st (c0 5) (BD c) (os.map .str) [aa (.obj h),t1,aa (.obj S.length),aa (.str nm),t4,x5] (gR S names sec)=.ok (.nx [aa (.obj h),t1,aa (.obj S.length),aa (.str nm),t4,kS]) (gR S names (os.foldl (tH names nm) sec))
 | [],sec,x5,_=>⟨x5,by
   show dz _ _ _ [] _ _=_;unfold dz;rw[if_pos (dI _)];rfl⟩
 | o :: os,sec,x5,hl=>by
   have hb:BD c [aa (.obj h),t1,aa (.obj S.length),aa (.str nm),t4,aa (.str o)] (gR S names sec)=.ok (.nx [aa (.obj h),t1,aa (.obj S.length),aa (.str nm),t4,aa (.str o)]) (gR S names (tH names nm sec o)):=by
    unfold tH;have d:=UZ (S:=S) (names:=names) (sec:=sec) o;by_cases z:o∈names
    .have p:=U0 (S:=S) (sec:=sec) (a:=o) (b:=nm) (ρ:=[aa (.obj h),t1,aa (.obj S.length),aa (.str nm),t4,aa (.str o)]) (fd:=e2 iS (ah 2) (ah 5)) (fk:=ah 3) nd z (by have:=hl o;simp at this;omega) (by simp[U1 z]) (by simp)
     rw[if_pos z];simp only[decide_eq_true z] at d;unfold BD;rw[E8,eL,SH,eL,sr,eL];simp only[zy,bL,ck,eL,d,SG,if_true];exact p
    .rw[if_neg z]
     simp only[decide_eq_false z] at d;simp[BD,d]
   obtain⟨kS,e⟩:=U3 (h:=h) (t1:=t1) (t4:=t4) nd hn dI os (sec:=tH names nm sec o) (x5:=aa (.str o)) (λx=>by
    have:=hl x;rw[aL] at this;unfold tH
    split
    .have:=Jf (sec:=sec) (a:=o) (b:=nm) (x:=x);omega
    .omega)
   refine⟨kS,?_⟩;show dz _ _ _ (.str o::os.map .str) _ _=_;unfold dz;rw[if_pos (dI _)];show(M.bind (BD c [aa (.obj h),t1,aa (.obj S.length),aa (.str nm),t4,aa (.str o)]) _) _=_;rw[eL,hb];exact e
end DN
namespace DN
open PySem L2 MF
variable {c:Cl}{S:bx}{ρ:Ev}{sec:Str->List Str}{names:List Str}
theorem U4{nm x y:Str}:∀(os:List Str) {sec:Str->List Str},y∈(os.foldl (n6 names nm) sec) x↔y∈sec x\/(x=nm/\y∈os/\y∈names)
 |[],sec=>by simp
 | o :: os,sec=>by
   rw[ip,U4 os];unfold n6;by_cases z:o∈names
   .rw[if_pos z,UX]
    constructor
    .rintro((h | ⟨h1,h2⟩) | ⟨h1,h2,h3⟩)
     .exact .inl h
     .exact .inr ⟨h1,by rw[h2];simp,by rw[h2];exact z⟩
     .exact .inr ⟨h1,au _ h2,h3⟩
    .rintro(h | ⟨h1,h2,h3⟩)
     .exact .inl (.inl h)
     .rcases aF.mp h2 with h | h
      .exact .inl (.inr ⟨h1,h⟩)
      .exact .inr ⟨h1,h,h3⟩
   .rw[if_neg z]
    constructor
    .rintro(h | ⟨h1,h2,h3⟩)
     .exact .inl h
     .exact .inr ⟨h1,au _ h2,h3⟩
    .rintro(h | ⟨h1,h2,h3⟩)
     .exact .inl h
     .rcases aF.mp h2 with h | h
      .rw[h] at h3;exact absurd h3 z
      .exact .inr ⟨h1,h,h3⟩
theorem U5{nm x y:Str}:∀(os:List Str) {sec:Str->List Str},y∈(os.foldl (tH names nm) sec) x↔y∈sec x\/(y=nm/\x∈os/\x∈names)
 |[],sec=>by simp
 | o :: os,sec=>by
   rw[ip,U5 os];unfold tH;by_cases z:o∈names
   .rw[if_pos z,UX]
    constructor
    .rintro((h | ⟨h1,h2⟩) | ⟨h1,h2,h3⟩)
     .exact .inl h
     .exact .inr ⟨h2,by rw[h1];simp,by rw[h1];exact z⟩
     .exact .inr ⟨h1,au _ h2,h3⟩
    .rintro(h | ⟨h1,h2,h3⟩)
     .exact .inl (.inl h)
     .rcases aF.mp h2 with h | h
      .exact .inl (.inr ⟨h,h1⟩)
      .exact .inr ⟨h1,h,h3⟩
   .rw[if_neg z]
    constructor
    .rintro(h | ⟨h1,h2,h3⟩)
     .exact .inl h
     .exact .inr ⟨h1,au _ h2,h3⟩
    .rintro(h | ⟨h1,h2,h3⟩)
     .exact .inl h
     .rcases aF.mp h2 with h | h
      .rw[h] at h3;exact absurd h3 z
      .exact .inr ⟨h1,h,h3⟩
def wW(names:List Str)(sec:Str->List Str)(q:HP):Str->List Str:=q.w1.foldl (tH names q.nm) (q.w0.foldl (n6 names q.nm) sec)
theorem z0i{q:HP}{x y:Str}:y∈wW names sec q x↔y∈sec x\/(x=q.nm/\y∈q.w0/\y∈names)\/(y=q.nm/\x∈q.w1/\x∈names):=by
 unfold wW;rw[U5,U4,or_assoc]
theorem U6{x y:Str}:∀(qs:List HP) {sec:Str->List Str},y∈(qs.foldl (wW names) sec) x↔y∈sec x\/∃q∈qs,(x=q.nm/\y∈q.w0/\y∈names)\/(y=q.nm/\x∈q.w1/\x∈names)
 |[],sec=>by simp
 | q :: qs,sec=>by
   rw[ip,U6 qs,z0i,or_assoc];constructor
   .rintro(h | h | ⟨r,hr,h⟩)
    .exact .inl h
    .exact .inr ⟨q,ay ..,h⟩
    .exact .inr ⟨r,au _ hr,h⟩
   .rintro(h | ⟨r,hr,h⟩)
    .exact .inl h
    .rcases aF.mp hr with rfl | hr
     .exact .inr (.inl h)
     .exact .inr (.inr ⟨r,hr,h⟩)
theorem OI{nm x:Str}:∀(os:List Str) {sec:Str->List Str},((os.foldl (n6 names nm) sec) x).length<=(sec x).length+os.length
 |[],sec=>by simp
 | o::os,sec=>by
   have:=OI (nm:=nm) (x:=x) os (sec:=n6 names nm sec o);rw[ip,aL];have h2:(n6 names nm sec o x).length<=(sec x).length+1:=by
    unfold n6
    split
    .exact Jf
    .omega
   omega
theorem U7{nm x:Str}:∀(os:List Str) {sec:Str->List Str},((os.foldl (tH names nm) sec) x).length<=(sec x).length+os.length
 |[],sec=>by simp
 | o::os,sec=>by
   have:=U7 (nm:=nm) (x:=x) os (sec:=tH names nm sec o);rw[ip,aL];have h2:(tH names nm sec o x).length<=(sec x).length+1:=by
    unfold tH
    split
    .exact Jf
    .omega
   omega
theorem U8{st:bx->Prop}{h:Nat}{t1:Option T}(nd:names.Nodup)(dI:∀S',st S')(vW:names.length<=900):∀(B A:List Str) {x3 x4 x5:Option T},names=A++B ->
  ∃q5,dz st (c0 3) (C3 c) (B.map .str) [aa (.obj h),t1,aa (.obj S.length),x3,x4,x5] (S++.dic (oE names A S.length)::aT A.length (.dic []))=.ok (.nx [aa (.obj h),t1,aa (.obj S.length),q5,x4,x5]) (S++.dic (oE names names S.length)::aT names.length (.dic []))
 | [],A,x3,x4,x5,e=>⟨x3,by
   rw[cE] at e;subst e;show dz _ _ _ [] _ _=_;unfold dz;rw[if_pos (dI _)]⟩
 | n::B,A,x3,x4,x5,e=>by
   have hA:n∉A:=λhm=>by
    rw[e,b_] at nd;exact nd.2.2 n hm n (ay ..) rfl
   have hi:names.idxOf n=A.length:=by rw[e];exact UU hA
   obtain⟨q5,ih⟩:=U8 (h:=h) (t1:=t1) nd dI vW B (A++[n]) (x3:=aa (.str n)) (x4:=x4) (x5:=x5) (by rw[e];simp);refine⟨q5,?_⟩;have c5:(S++bA.dic (oE names A S.length)::aT A.length (.dic [])).length=S.length+1+A.length:=by simp;omega
   have v:cU (oE names A S.length) (.inr n)=ae:=OE (g:=λn=>.obj (S.length+1+names.idxOf n)) hA;have g:(S++bA.dic (oE names A S.length)::aT A.length (.dic [])++[.dic []])[S.length]?=aa (.dic (oE names A S.length)):=by
    rw[aR,yE];rfl
   have px:A.length<=900:=by rw[e] at vW;simp at vW;omega
   have hl9:(oE names A S.length).length<=900:=by simp[oE];omega
   have es:(S++bA.dic (oE names A S.length)::aT A.length (bA.dic [])++[bA.dic []]).set S.length (bA.dic (oE names A S.length++[((dG n:b9),T.obj (S.length+1+A.length))]))=S++.dic (oE names (A++[n]) S.length)::aT (A++[n]).length (.dic []):=by
    rw[aR,Dm];congr 1;rw[eK,vc];congr 1
    .simp[oE,hi]
    .rw[aB,aV,List.replicate_succ']
   have hb:C3 c [aa (.obj h),t1,aa (.obj S.length),aa (.str n),x4,x5] (S++.dic (oE names A S.length)::aT A.length (.dic []))=.ok (.nx [aa (.obj h),t1,aa (.obj S.length),aa (.str n),x4,x5]) (S++.dic (oE names (A++[n]) S.length)::aT (A++[n]).length (.dic [])):=by
    generalize FY:(S++bA.dic (oE names A S.length)::aT A.length (.dic []))=S1 at c5 g es;unfold C3;rw[z9z,eL,z52];simp only[eL,zy,bL,ck,dF,g,if_pos hl9,BR v,c5,es]
   show dz _ _ _ (.str n::B.map .str) _ _=_;unfold dz;rw[if_pos (dI _)];show(M.bind (C3 c [aa (.obj h),t1,aa (.obj S.length),aa (.str n),x4,x5]) _) _=_;rw[eL,hb];exact ih
end DN
namespace DN
open PySem L2 MF
variable {c:Cl}{S:bx}{ρ:Ev}{sec:Str->List Str}{names:List Str}
theorem Zb9{h:Nat}{pl:List jx}{ps:List HP}(A:fT c S h pl ps)(nd:names.Nodup){q:HP}(hq:q∈ps)(hn:q.nm∈names){t1 x4 x5:Option T}(hl:∀x,(sec x).length<=700)(h01:q.w0.length+q.w1.length<=20) :
  ∃tG kS,C4 c [aa (.obj h),t1,aa (.obj S.length),aa (.str q.nm),x4,x5] (gR S names sec)=.ok (.nx [aa (.obj h),t1,aa (.obj S.length),aa (.str q.nm),tG,kS]) (gR S names (wW names sec q)):=by
 have A':∀sec,fT c (gR S names sec) h pl ps:=λsec=>A.app;have hm:=qZ (m:=aG "find_piece") h (by simp) (by simp);have ef:=Dl (A' sec) (BQ A.nd hq);have P:=A.piece q hq;have i1:=rD (Dn (names:=names) (sec:=sec) P.o);have i2:=rD (Dn (names:=names) (sec:=q.w0.foldl (n6 names q.nm) sec) P.o);obtain⟨Jg,e1⟩:=U2 (c:=c) (S:=S) (h:=h) (t1:=t1) (t4:=aa (.obj q.i)) (st:=λS'=>cI S' (.obj (q.i+1))=aa (q.w0.map .str)) nd hn (λsec=>jG (Dn P.a0)) q.w0 (sec:=sec) (x5:=x5) (λx=>by have:=hl x;omega);obtain⟨U9,e2⟩:=U3 (c:=c) (S:=S) (h:=h) (t1:=t1) (t4:=aa (.obj q.i)) (st:=λS'=>cI S' (.obj (q.i+2))=aa (q.w1.map .str)) nd hn (λsec=>jG (Dn P.a1)) q.w1 (sec:=q.w0.foldl (n6 names q.nm) sec) (x5:=Jg) (λx=>by have:=hl x;have:=OI (names:=names) (nm:=q.nm) (x:=x) q.w0 (sec:=sec);omega);have l1:=jG (Dn (names:=names) (sec:=sec) P.a0);have l2:=jG (Dn (names:=names) (sec:=q.w0.foldl (n6 names q.nm) sec) P.a1);have s1:dA (iL (MF.e1 (fu c.piece "ahead") (ah 4))) (c0 5) (BC c) [aa (.obj h),t1,aa (.obj S.length),aa (.str q.nm),aa (.obj q.i),x5] (gR S names sec)=.ok (.nx [aa (.obj h),t1,aa (.obj S.length),aa (.str q.nm),aa (.obj q.i),Jg]) (gR S names (q.w0.foldl (n6 names q.nm) sec)):=by
  unfold dA;rw[eL];have:iL (MF.e1 (fu c.piece "ahead") (ah 4)) [aa (.obj h),t1,aa (.obj S.length),aa (.str q.nm),aa (.obj q.i),x5] (gR S names sec)=.ok (q.w0.map .str,λS'=>cI S' (.obj (q.i+1))=aa (q.w0.map .str)) (gR S names sec):=by simp[i1,Up,l1]
  rw[this];exact e1
 have s2:dA (iL (MF.e1 (fu c.piece "behind") (ah 4))) (c0 5) (BD c) [aa (.obj h),t1,aa (.obj S.length),aa (.str q.nm),aa (.obj q.i),Jg] (gR S names (q.w0.foldl (n6 names q.nm) sec))=.ok (.nx [aa (.obj h),t1,aa (.obj S.length),aa (.str q.nm),aa (.obj q.i),U9]) (gR S names (wW names sec q)):=by
  unfold dA;rw[eL];have:iL (MF.e1 (fu c.piece "behind") (ah 4)) [aa (.obj h),t1,aa (.obj S.length),aa (.str q.nm),aa (.obj q.i),Jg] (gR S names (q.w0.foldl (n6 names q.nm) sec))=.ok (q.w1.map .str,λS'=>cI S' (.obj (q.i+2))=aa (q.w1.map .str)) (gR S names (q.w0.foldl (n6 names q.nm) sec)):=by simp[i2,Uq,l2]
  rw[this];exact e2
 have i0:=(A' sec).ins;exact⟨aa (.obj q.i),U9,by simp[C4,i0,hm,ef,s1,s2]⟩
theorem U_{h:Nat}{pl:List jx}{ps:List HP}{st:bx->Prop}(A:fT c S h pl ps)(nd:names.Nodup)(dI:∀S',st S'){t1:Option T}:∀(qs:List HP) {sec:Str->List Str} {x3 x4 x5:Option T},(∀q∈qs,q∈ps/\q.nm∈names/\q.w0.length+q.w1.length<=20)->(∀x,(sec x).length+20*qs.length<=700) ->
  ∃q5 tG kS,dz st (c0 3) (C4 c) ((qs.map (·.nm)).map .str) [aa (.obj h),t1,aa (.obj S.length),x3,x4,x5] (gR S names sec)=.ok (.nx [aa (.obj h),t1,aa (.obj S.length),q5,tG,kS]) (gR S names (qs.foldl (wW names) sec))
 | [],sec,x3,x4,x5,_,_=>⟨x3,x4,x5,by
   show dz _ _ _ [] _ _=_;unfold dz;rw[if_pos (dI _)];rfl⟩
 | q::qs,sec,x3,x4,x5,hq,hl=>by
   obtain⟨q1,q2,q3⟩:=hq q (ay ..);obtain⟨y4,y5,hb⟩:=Zb9 (names:=names) (sec:=sec) A nd q1 q2 (t1:=t1) (x4:=x4) (x5:=x5) (λx=>by have:=hl x;omega) q3;obtain⟨z3,z4,z5,e⟩:=U_ A nd dI qs (t1:=t1) (sec:=wW names sec q) (x3:=aa (.str q.nm)) (x4:=y4) (x5:=y5) (λr hr=>hq r (au _ hr)) (λx=>by
    have h1:=hl x;rw[aL] at h1;have h2:=OI (names:=names) (nm:=q.nm) (x:=x) q.w0 (sec:=sec);have h3:=U7 (names:=names) (nm:=q.nm) (x:=x) q.w1 (sec:=q.w0.foldl (n6 names q.nm) sec);unfold wW;omega)
   refine⟨z3,z4,z5,?_⟩;show dz _ _ _ (.str q.nm::(qs.map (·.nm)).map .str) _ _=_;unfold dz;rw[if_pos (dI _)];show(M.bind (C4 c [aa (.obj h),t1,aa (.obj S.length),aa (.str q.nm),x4,x5]) _) _=_;rw[eL,hb];exact e
theorem FZ{α β γ:Type}{f:β->Option γ}{g:α->β}{k:α->γ}:∀{l:List α},(∀x∈l,f (g x)=aa (k x))->hW f (l.map g)=aa (l.map k)
 |[],_=>rfl
 | a::r,h=>by
   rw[aE];unfold hW;rw[h a (ay ..),FZ λx hx=>h x (au _ hx)];rfl
theorem z97:fz (gR S names sec) S.length 6 (.obj S.length)=aa (c7 names sec):=by
 unfold fz;rw[if_neg (by simp only[HB];omega)];simp only[OG];unfold oE;rw[FZ (k:=λn=>((dG n:b9),T.dic (cT (sec n)))) λn hn=>?_]
 .rfl
 .have hg:=UW (S:=S) (sec:=sec) hn
  have:fz (gR S names sec) S.length 5 (.obj (S.length+1+names.idxOf n))=aa (.dic (cT (sec n))):=by
   unfold fz;rw[if_neg (by simp only[HB];omega)];simp only[hg];unfold cT;rw[FZ (k:=λx=>((dG x:b9),T.bl true)) λx _=>?_]
   .rfl
   .show(fz (gR S names sec) S.length 4 (.bl true)).map _=_
    rw[E_ (by simp)];rfl
  show(fz (gR S names sec) S.length 5 (.obj (S.length+1+names.idxOf n))).map _=_;rw[this];rfl
def oG(names:List Str)(qs:List HP):Str->List Str:=qs.foldl (wW names) λ_=>[]
theorem z0j{h:Nat}{pl:List jx}{ps qs:List HP}(A:fT c S h pl ps)(nd:names.Nodup)(hq:qs.map (·.nm)=names)(hs:∀q∈qs,q∈ps/\q.w0.length+q.w1.length<=20)(hl:names.length<=24) :
  Fo c [.obj h,aI names] S=.ok (c7 names (oG names qs)) S:=by
 have ql:qs.length=names.length:=by rw[<- hq];simp
 obtain⟨x3,e1⟩:=U8 (c:=c) (S:=S) (st:=λS'=>cI S' (aI names)=aa (names.map .str)) (h:=h) (t1:=aa (aI names)) nd (λ_=>rfl) (by omega) names [] (x3:=ae) (x4:=ae) (x5:=ae) rfl;have es:(S++bA.dic (oE names names S.length)::aT names.length (.dic []))=gR S names (λ_=>[]):=by
  unfold gR;congr 2;rw[List.map_const'];rfl
 rw[es] at e1;obtain⟨y3,y4,y5,e2⟩:=U_ (c:=c) (S:=S) (names:=names) A nd (st:=λS'=>cI S' (aI names)=aa (names.map .str)) (λ_=>rfl) (t1:=aa (aI names)) qs (sec:=λ_=>[]) (x3:=x3) (x4:=ae) (x5:=ae) (λq h=>⟨(hs q h).1,by rw[<- hq];exact aq.mpr ⟨q,h,rfl⟩,(hs q h).2⟩) (λx=>by show 0+20*qs.length<=700;omega);rw[hq] at e2;have s1:dA (iL (ah 1)) (c0 3) (C3 c) [aa (.obj h),aa (aI names),aa (.obj S.length),ae,ae,ae] (S++[.dic []])=.ok (.nx [aa (.obj h),aa (aI names),aa (.obj S.length),x3,ae,ae]) (gR S names λ_=>[]):=by
  unfold dA;simp only[eL,Bf,zy,bL,ck];exact e1
 have s2:dA (iL (ah 1)) (c0 3) (C4 c) [aa (.obj h),aa (aI names),aa (.obj S.length),x3,ae,ae] (gR S names λ_=>[])=.ok (.nx [aa (.obj h),aa (aI names),aa (.obj S.length),y3,y4,y5]) (gR S names (oG names qs)):=by
  unfold dA;simp only[eL,Bf,zy,bL,ck];exact e2
 have run:c9 6 (Nc c) [.obj h,aI names] S=.ok (.obj S.length) (gR S names (oG names qs)):=by
  simp[Nc,s1,s2]
 unfold Fo iU;rw[run];have tk:(gR S names (oG names qs)).take S.length=S:=by unfold gR;simp
 simp only[if_pos tk,z97]
theorem U'{qs:List HP}{x y:Str}:y∈oG names qs x↔∃q∈qs,(x=q.nm/\y∈q.w0/\y∈names)\/(y=q.nm/\x∈q.w1/\x∈names):=by
 unfold oG;rw[U6];simp
end DN
namespace DN
open PySem L2 MF
variable {c:Cl}{S:bx}{ρ:Ev}{sec:Str->List Str}{names:List Str}
structure l_(S S':bx)(kR kL:Nat):Prop where
 len:S'.length=S.length
 same:∀j,j≠kR->j≠kL->S'[j]?=S[j]?
theorem l_.refl(S:bx)(a b:Nat):l_ S S a b:=⟨rfl,λ_ _ _=>rfl⟩
theorem l_.trans{S S1 S2:bx}{a b:Nat}(p:l_ S S1 a b)(q:l_ S1 S2 a b):l_ S S2 a b:=⟨q.len.trans p.len,λj h1 h2=>(q.same j h1 h2).trans (p.same j h1 h2)⟩
theorem z0k(row:List Str)(s:Str):T.lst (row.map .str++[.str s])=aI (row++[s]):=by simp[aI]
theorem z0l{kR kL:Nat}{start s:Str}{row re:List Str}{lo:List (List Str)}{t0 t2:Option T}(hR:S[kR]?=aa (.dic (cT re)))(hL:S[kL]?=aa (.lst (lo.map aI)))(hl:re.length<=500)(Y2:lo.length<=500)(BU:row.length<=500) :
  uq c [t0,aa (.str start),t2,aa (.obj kR),aa (.obj kL),aa (aI row),aa (.str s)] S =
   if s=start then .ok (.rt (aI row)) S else if s∈re then .ok (.nx [t0,aa (.str start),t2,aa (.obj kR),aa (.obj kL),aa (aI row),aa (.str s)]) S
   else .ok (.nx [t0,aa (.str start),t2,aa (.obj kR),aa (.obj kL),aa (aI row),aa (.str s)]) ((S.set kR (.dic (cT (re++[s])))).set kL (.lst ((lo++[row++[s]]).map aI))):=by
 have ne:kR≠kL:=vY hR hL (by intro z;cases z);have d:=vX hR;by_cases z:s=start
 .rw[if_pos z]
  simp[uq,z]
 .rw[if_neg z]
  by_cases y:s∈re
  .rw[if_pos y]
   have v:cU (cT re) (.inr s)=aa (.bl true):=by rw[wU,if_pos y]
   simp[uq,z,m8,d,dF,v]
  .rw[if_neg y]
   have v:cU (cT re) (.inr s)=ae:=by rw[wU,if_neg y]
   have uO:(cT re).length<=900:=by simp[cT];omega
   have Jh:(S.set kR (.dic (cT (re++[s]))))[kL]?=aa (.lst (lo.map aI)):=by rw[dN ne];exact hL
   have cB:=lY Jh;have oH:=xU (y:=aI (row++[s])) Jh (by simp;omega);have e1:lo.map aI++[aI (row++[s])]=(lo++[row++[s]]).map aI:=by simp
   rw[e1] at oH;have OJ:hV (aI row) (.lst [.str s]) (S.set kR (.dic (cT (re++[s]))))=.ok (aI (row++[s])) (S.set kR (.dic (cT (re++[s])))):=by
    have hl3:(row.map T.str).length+[T.str s].length<=1000:=by simp;omega
    show hV (.lst (row.map .str)) (.lst [.str s]) _=_;rw[z9a,if_pos hl3,z0k]
   simp[uq,z,m8,d,dF,v,hR,uO,Ow re s y,cB,OJ,oH]
theorem OK{kR kL:Nat}{start:Str}{row:List Str}{t0 t2:Option T}(BU:row.length<=200):∀(ss re:List Str) (lo:List (List Str)) {x6:Option T} {S:bx},S[kR]?=aa (.dic (cT re))->S[kL]?=aa (.lst (lo.map aI))->re.length+ss.length<=500->lo.length+ss.length<=500 ->
  ∃ S' oJ,l_ S S' kR kL/\(match wV start row ss re lo with
    |none=>dz (λ_=>True) (c0 6) (uq c) (ss.map .str) [t0,aa (.str start),t2,aa (.obj kR),aa (.obj kL),aa (aI row),x6] S=.ok (.rt (aI row)) S'
    |some (gV,m9)=>dz (λ_=>True) (c0 6) (uq c) (ss.map .str) [t0,aa (.str start),t2,aa (.obj kR),aa (.obj kL),aa (aI row),x6] S=.ok (.nx [t0,aa (.str start),t2,aa (.obj kR),aa (.obj kL),aa (aI row),oJ]) S'/\S'[kR]?=aa (.dic (cT gV))/\S'[kL]?=aa (.lst (m9.map aI)))
 | [],re,lo,x6,S,hR,hL,_,_=>⟨S,x6,l_.refl _ _ _,by
   show dz _ _ _ [] _ S=_/\_;unfold dz;rw[if_pos trivial];exact⟨rfl,hR,hL⟩⟩
 | s :: ss,re,lo,x6,S,hR,hL,h1,h2=>by
   have ne:kR≠kL:=vY hR hL (by intro z;cases z);rw[aL] at h1 h2;have hb:=z0l (c:=c) (start:=start) (s:=s) (row:=row) (t0:=t0) (t2:=t2) hR hL (by omega) (by omega) (by omega);have un:dz (λ_=>True) (c0 6) (uq c) ((s::ss).map .str) [t0,aa (.str start),t2,aa (.obj kR),aa (.obj kL),aa (aI row),x6] S=M.bind (uq c [t0,aa (.str start),t2,aa (.obj kR),aa (.obj kL),aa (aI row),aa (.str s)]) (λx=>match x with
    |.nx ρ2=>dz (λ_=>True) (c0 6) (uq c) (ss.map .str) ρ2
    |.ct ρ2=>dz (λ_=>True) (c0 6) (uq c) (ss.map .str) ρ2
    |.bk ρ2=>M.pure (.nx ρ2)
    |.rt t=>M.pure (.rt t)) S:=by
    show dz _ _ _ (.str s::ss.map .str) _ S=_
    conv=>lhs;unfold dz
    rw[if_pos trivial];rfl
   rw[un,eL];unfold wV;by_cases z:s=start
   .rw[if_pos z]
    rw[if_pos z] at hb;refine⟨S,x6,l_.refl _ _ _,?_⟩;rw[hb];rfl
   .rw[if_neg z]
    rw[if_neg z] at hb;by_cases y:s∈re
    .rw[if_pos y]
     rw[if_pos y] at hb;obtain⟨S',oJ,sm,e⟩:=OK BU ss re lo (x6:=aa (.str s)) hR hL (by omega) (by omega);refine⟨S',oJ,sm,?_⟩;rw[hb];exact e
    .rw[if_neg y]
     rw[if_neg y] at hb;have hR2:((S.set kR (.dic (cT (re++[s])))).set kL (.lst ((lo++[row++[s]]).map aI)))[kR]?=aa (.dic (cT (re++[s]))):=by rw[dN (bZ ne)];exact lK hR
     have Jh:((S.set kR (.dic (cT (re++[s])))).set kL (.lst ((lo++[row++[s]]).map aI)))[kL]?=aa (.lst ((lo++[row++[s]]).map aI)):=lK (u:=.lst (lo.map aI)) (by rw[dN ne];exact hL);have wX:l_ S ((S.set kR (.dic (cT (re++[s])))).set kL (.lst ((lo++[row++[s]]).map aI))) kR kL:=⟨by simp,λj h1 h2=>by rw[dN (bZ h2),dN (bZ h1)]⟩;obtain⟨S',oJ,sm,e⟩:=OK BU ss (re++[s]) (lo++[row++[s]]) (x6:=aa (.str s)) hR2 Jh (by simp;omega) (by simp;omega);refine⟨S',oJ,wX.trans sm,?_⟩;rw[hb];exact e
theorem z6d{row:List Str}(h:row≠[]):eh (aI row) (.int (-1)) S=.ok (.str (q8 row)) S:=by
 obtain⟨A,x,rfl⟩:∃A x,row=A++[x]:=⟨row.dropLast,row.getLast h,(List.dropLast_concat_getLast h).symm⟩;have:jt ((A++[x]).map T.str) (-1)=aa (.str x):=by
  have hl:((A++[x]).map T.str).length=A.length+1:=by simp
  have hi:vt (A.length+1) (-1)=aa A.length:=by
   unfold vt;rw[if_neg (by decide),if_pos (by omega)];congr 1;omega
  unfold jt;rw[hl,hi];simp
 rw[UI];show eh (.lst ((A++[x]).map T.str)) (.int (-1)) S=_;rw[Zby,this]
end DN
namespace DN
open PySem L2 MF
variable {c:Cl}{S:bx}{ρ:Ev}{sec:Str->List Str}{names:List Str}
theorem z0m(l:List Str):(cT l).map (λp=>kT p.1)=l.map T.str:=by simp[cT,kT]
structure SecOk(names:List Str)(sec:Str->List Str):Prop where
 sub:∀a∈names,∀b∈sec a,b∈names
 len:∀a∈names,(sec a).length<=200
 sX:names.length<=100
theorem mT.sX{re:List Str}(h:mT names re)(k:SecOk names sec):re.length<=100:=bt (tF re names h.nd h.sub) k.sX
theorem Va{kR kL:Nat}{start:Str}{t2:Option T}{st:bx->Prop}(ok:SecOk names sec):∀(rows:List (List Str)) (re:List Str) (lo:List (List Str)) {x5 x6:Option T} {S:bx},S[kR]?=aa (.dic (cT re))->S[kL]?=aa (.lst (lo.map aI))->mT names re->(∀r∈rows,rE names re r)->(∀r∈lo,rE names re r)->lo.length<=re.length->(∀S',l_ S S' kR kL->st S') ->
  ∃ S' kS oJ,l_ S S' kR kL/\(match vZ sec start rows re lo with
    |.error row=>dz st (c0 5) (uW c) (rows.map aI) [aa (c7 names sec),aa (.str start),t2,aa (.obj kR),aa (.obj kL),x5,x6] S=.ok (.rt (aI row)) S'
    |.ok (gV,m9)=>dz st (c0 5) (uW c) (rows.map aI) [aa (c7 names sec),aa (.str start),t2,aa (.obj kR),aa (.obj kL),x5,x6] S=.ok (.nx [aa (c7 names sec),aa (.str start),t2,aa (.obj kR),aa (.obj kL),kS,oJ]) S'/\S'[kR]?=aa (.dic (cT gV))/\S'[kL]?=aa (.lst (m9.map aI)))
 | [],re,lo,x5,x6,S,hR,hL,_,_,_,_,dI=>⟨S,x5,x6,l_.refl _ _ _,by
   show dz _ _ _ [] _ S=_/\_;unfold dz;rw[if_pos (dI S (l_.refl _ _ _))];exact⟨rfl,hR,hL⟩⟩
 | row::rows,re,lo,x5,x6,S,hR,hL,h1,h2,h3,h4,dI=>by
   have hr:=h2 row (ay ..);have v5:=hr.sub _ (UJ hr.ne);have f1:=h1.sX ok;have f2:=ok.len _ v5;obtain⟨S1,y6,wX,e1⟩:=OK (c:=c) (kR:=kR) (kL:=kL) (start:=start) (row:=row) (t0:=aa (c7 names sec)) (t2:=t2) (by have:=hr.len;omega) (sec (q8 row)) re lo (x6:=x6) hR hL (by omega) (by omega);have un:dz st (c0 5) (uW c) ((row::rows).map aI) [aa (c7 names sec),aa (.str start),t2,aa (.obj kR),aa (.obj kL),x5,x6] S=M.bind (uW c [aa (c7 names sec),aa (.str start),t2,aa (.obj kR),aa (.obj kL),aa (aI row),x6]) (λx=>match x with
    |.nx ρ2=>dz st (c0 5) (uW c) (rows.map aI) ρ2
    |.ct ρ2=>dz st (c0 5) (uW c) (rows.map aI) ρ2
    |.bk ρ2=>M.pure (.nx ρ2)
    |.rt t=>M.pure (.rt t)) S:=by
    show dz _ _ _ (aI row::rows.map aI) _ S=_
    conv=>lhs;unfold dz
    rw[if_pos (dI S (l_.refl _ _ _))];rfl
   have hb:uW c [aa (c7 names sec),aa (.str start),t2,aa (.obj kR),aa (.obj kL),aa (aI row),x6] S=dz (λ_=>True) (c0 6) (uq c) ((sec (q8 row)).map .str) [aa (c7 names sec),aa (.str start),t2,aa (.obj kR),aa (.obj kL),aa (aI row),x6] S:=by
    have hi:iK (e2 iS (ah 0) (e2 eh (ah 5) (MF.e1 um (eC (.int 1))))) [aa (c7 names sec),aa (.str start),t2,aa (.obj kR),aa (.obj kL),aa (aI row),x6] S=.ok ((sec (q8 row)).map .str,λ_=>True) S:=by
     have hd:=UQ (S:=S) (sec:=sec) v5;have ha:=z6d (S:=S) hr.ne;unfold iK;rw[eL,sr,eL];simp only[zy,ck,eL,sr,bL,Be,Ms,um,ha,hd,z0m]
    unfold uW dA;rw[eL,hi]
   rw[un,eL,hb];unfold vZ;cases q:wV start row (sec (q8 row)) re lo with
   | none=>
     rw[q] at e1;refine⟨S1,x5,y6,wX,?_⟩;simp only at e1 ⊢;rw[e1];rfl
   | some p=>
     obtain⟨qM,lo1⟩:=p;rw[q] at e1;simp only at e1;obtain⟨e1,g1,g2⟩:=e1;obtain⟨a1,a2,a3,⟨u,a4⟩,_,_,_⟩:=Jb _ re lo (ok.sub _ v5) h1 hr h3 h4 qM lo1 q;have Jd:re.length<=qM.length:=by rw[a4];simp
     obtain⟨S2,z5,z6,sm2,e2⟩:=Va ok rows qM lo1 (x5:=aa (aI row)) (x6:=y6) (t2:=t2) (start:=start) (S:=S1) g1 g2 a1 (λr hr=>(h2 r (au _ hr)).mono Jd) a2 a3 (λS' h=>dI S' (wX.trans h));refine⟨S2,z5,z6,wX.trans sm2,?_⟩;rw[e1];exact e2
theorem F4{t:T}{ts:List T}(h:cI S t=aa ts):jO t S=.ok (!ts.isEmpty) S:=by
 cases t with
 |lst us=>cases h;rfl
 | obj k=>
   have:ju S (.obj k)=aa ts:=h;unfold jO;simp[this]
 |_=>simp[cI] at h
theorem Vb{kR:Nat}{start:Str}(ok:SecOk names sec):∀(n:Nat) (rows:List (List Str)) (re:List Str) (m:Nat) {tR:T} {x4 x5 x6:Option T} {S:bx},n+1<=m->names.length+2<=n+re.length->S[kR]?=aa (.dic (cT re))->(∀S',(∀j,j<S.length->j≠kR->S'[j]?=S[j]?)->cI S' tR=aa (rows.map aI))->mT names re->(∀r∈rows,rE names re r) ->
  ∃S' ρ',j4 (vT c) (uX c) m [aa (c7 names sec),aa (.str start),aa tR,aa (.obj kR),x4,x5,x6] S=(if sC sec start n rows re=[] then .ok (.nx ρ') S' else .ok (.rt (aI (sC sec start n rows re))) S')/\(∀j,j<kR->S'[j]?=S[j]?)/\S.length<=S'.length
 | 0,rows,re,m,tR,x4,x5,x6,S,_,hf,_,_,h1,_=>by
   have:=tF re names h1.nd h1.sub;omega
 |n+1,rows,re,0,tR,x4,x5,x6,S,hm,_,_,_,_,_=>by omega
 | n + 1, rows,re,m+1,tR,x4,x5,x6,S,hm,hf,hR,hT,h1,h2=>by
   have hl:=hT S λ_ _ _=>rfl;have Vc:=(ao.mp hR).1;have hw:vT c [aa (c7 names sec),aa (.str start),aa tR,aa (.obj kR),x4,x5,x6] S=.ok (!rows.isEmpty) S:=by
    simp[vT,F4 hl]
   have un:j4 (vT c) (uX c) (m+1) [aa (c7 names sec),aa (.str start),aa tR,aa (.obj kR),x4,x5,x6] S=if(!rows.isEmpty)=true then M.bind (uX c [aa (c7 names sec),aa (.str start),aa tR,aa (.obj kR),x4,x5,x6]) (λx=>match x with
    |.nx ρ2=>j4 (vT c) (uX c) m ρ2
    |.ct ρ2=>j4 (vT c) (uX c) m ρ2
    |.bk ρ2=>M.pure (.nx ρ2)
    |.rt t=>M.pure (.rt t)) S else .ok (.nx [aa (c7 names sec),aa (.str start),aa tR,aa (.obj kR),x4,x5,x6]) S:=by
    conv=>lhs;unfold j4
    rw[eL,hw];simp only
    split<;>rfl
   rw[un];unfold sC;by_cases z:rows=[]
   .subst z
    exact⟨S,[aa (c7 names sec),aa (.str start),aa tR,aa (.obj kR),x4,x5,x6],by simp,λ_ _=>rfl,az _⟩
   .have z':rows.isEmpty=false:=by simpa using z
    simp only[z',Bool.not_false,if_true,if_neg z];rw[eL];have hL:(S++[bA.lst []])[S.length]?=aa (.lst (([]:List (List Str)).map aI)):=qv;have hR':(S++[bA.lst []])[kR]?=aa (.dic (cT re)):=k8 hR;have Vd:∀S',l_ (S++[bA.lst []]) S' kR S.length->cI S' tR=aa (rows.map aI):=λS' sm=>hT S' λj hj oi=>by
     rw[sm.same j oi (by omega),aw hj]
    obtain⟨S1,y5,y6,sm,e⟩:=Va (c:=c) (kR:=kR) (kL:=S.length) (start:=start) (t2:=aa tR) (st:=λS'=>cI S' tR=aa (rows.map aI)) ok rows re [] (x5:=x5) (x6:=x6) (S:=S++[.lst []]) hR' hL h1 h2 (by intro r hr;cases hr) (dq _) Vd;have v7:∀j,j<kR->S1[j]?=S[j]?:=λj hj=>by rw[sm.same j (by omega) (by omega),aw (by omega)]
    have nI:S1.length=S.length+1:=by rw[sm.len];simp
    have F5:dA (iL (ah 2)) (c0 5) (uW c) [aa (c7 names sec),aa (.str start),aa tR,aa (.obj kR),aa (.obj S.length),x5,x6] (S++[.lst []])=dz (λS'=>cI S' tR=aa (rows.map aI)) (c0 5) (uW c) (rows.map aI) [aa (c7 names sec),aa (.str start),aa tR,aa (.obj kR),aa (.obj S.length),x5,x6] (S++[.lst []]):=by
     have:=Vd _ (l_.refl _ _ _);unfold dA;simp[this]
    cases q:vZ sec start rows re [] with
    | error row=>
      rw[q] at e;have hb:uX c [aa (c7 names sec),aa (.str start),aa tR,aa (.obj kR),x4,x5,x6] S=.ok (.rt (aI row)) S1:=by
       simp[uX,F5,e]
      have oi:=(h2 row (Je _ _ _ q)).ne;refine⟨S1,[],?_,v7,by omega⟩;rw[hb,if_neg oi];rfl
    | ok p=>
      obtain⟨gV,lo⟩:=p;rw[q] at e;obtain⟨e,g1,g2⟩:=e;have hb:uX c [aa (c7 names sec),aa (.str start),aa tR,aa (.obj kR),x4,x5,x6] S=.ok (.nx [aa (c7 names sec),aa (.str start),aa (.obj S.length),aa (.obj kR),aa (.obj S.length),y5,y6]) S1:=by
       simp[uX,F5,e]
      obtain⟨a1,a2,a3,⟨u,a4⟩,⟨v,a5,FX⟩,_,_⟩:=Jc ok.sub rows re [] h1 h2 (by intro r hr;cases hr) (dq _) gV lo q;rw[cH] at a5;have Ve:∀S',(∀j,j<S1.length->j≠kR->S'[j]?=S1[j]?)->cI S' (.obj S.length)=aa (lo.map aI):=λS' h=>jG (by rw[h S.length (by omega) (by omega)];exact g2);rw[hb];rcases FX with y | y
      .rw [y] at a5
       subst a5;have r0:sC sec start n [] gV=[]:=by cases n<;>simp[sC]
       have E6:=Ve S1 λ_ _ _=>rfl;cases m with
       |zero=>omega
       | succ m=>
         refine⟨S1,[aa (c7 names sec),aa (.str start),aa (.obj S.length),aa (.obj kR),aa (.obj S.length),y5,y6],?_,v7,by omega⟩;rw[if_pos r0];show j4 _ _ (m+1) _ S1=_;unfold j4;have OL:vT c [aa (c7 names sec),aa (.str start),aa (.obj S.length),aa (.obj kR),aa (.obj S.length),y5,y6] S1=.ok false S1:=by
          simp[vT,F4 E6]
         rw[eL,OL];rfl
      .obtain⟨S2,ρ2,w1,w2,w3⟩:=Vb ok n lo gV m (tR:=.obj S.length) (x4:=aa (.obj S.length)) (x5:=y5) (x6:=y6) (S:=S1) (start:=start) (kR:=kR) (by omega) (by omega) g1 Ve a1 a2
       exact⟨S2,ρ2,w1,λj hj=>(w2 j hj).trans (v7 j hj),by omega⟩
end DN
namespace DN
open PySem L2 MF
variable {c:Cl}{S:bx}{ρ:Ev}{sec:Str->List Str}{names:List Str}
def oK(sec:Str->List Str)(names:List Str)(start:Str):List Str:=sC sec start (names.length+1) [[start]] [start]
theorem OM{start:Str}(h:start∈names):mT names [start]/\∀r∈[[start]],rE names [start] r:=by
 refine⟨⟨by simp,λx hx=>by rw[ai.mp hx];exact h⟩,λr hr=>?_⟩;rw[ai.mp hr];exact⟨by simp,λx hx=>by rw[ai.mp hx];exact h,az _⟩
theorem z6e{start:Str}(ok:SecOk names sec)(h:start∈names)(hp:pS sec start start):oK sec names start≠[]:=by
 obtain⟨a,b⟩:=OM h;refine UL ok.sub hp (names.length+1) [[start]] [start] (by simp) a b (by simp) λu hu=>.inr ⟨[start],by simp,?_⟩;rw[ai.mp hu];rfl
theorem z2y{start:Str}(ok:SecOk names sec)(h:start∈names):(∀x∈oK sec names start,x∈names)/\(oK sec names start).length<=names.length:=by
 obtain⟨a,b⟩:=OM h;exact UN ok.sub _ _ _ a b
theorem Vf{S S':bx}(h:∀j,j<S.length->S'[j]?=S[j]?)(hl:S.length<=S'.length):S'.take S.length=S:=by
 apply mH;intro j;rw[List.getElem?_take];by_cases z:j<S.length
 .rw[if_pos z];exact h j z
 .rw[if_neg z,cO (by omega)]
theorem z98{start:Str}(ok:SecOk names sec)(hs:start∈names):ID c [c7 names sec,.str start] S=.ok (aI (oK sec names start)) S:=by
 obtain⟨a,b⟩:=OM hs;have hd:Bo (ah 1) (eC (.bl true)) [aa (c7 names sec),aa (.str start),aa (.lst [.lst [.str start]]),ae,ae,ae,ae] S=.ok (.obj S.length) (S++[.dic (cT [start])]):=by
  simp[Bo,dF,cT,Dm]
 have sX:=ok.sX;obtain⟨S',ρ',e,k1,k2⟩:=Vb (c:=c) (kR:=S.length) (start:=start) ok (names.length+1) [[start]] [start] 1000 (tR:=.lst [.lst [.str start]]) (x4:=ae) (x5:=ae) (x6:=ae) (S:=S++[.dic (cT [start])]) (by omega) (by simp) qv (λ_ _=>rfl) a b;have keep:∀j,j<S.length->S'[j]?=S[j]?:=λj hj=>by rw[k1 j hj,aw hj]
 have hl:S.length<=S'.length:=by simp at k2;omega
 have e':uU (vT c) (uX c) [aa (c7 names sec),aa (.str start),aa (.lst [.lst [.str start]]),aa (.obj S.length),ae,ae,ae] (S++[.dic (cT [start])])=_:=e;have run:c9 7 (IC c) [c7 names sec,.str start] S=.ok (aI (oK sec names start)) S':=by
  by_cases z:oK sec names start=[]
  .have z':sC sec start (names.length+1) [[start]] [start]=[]:=z
   rw[if_pos z'] at e';rw[z];simp[IC,hd,e',aI]
  .have z':¬sC sec start (names.length+1) [[start]] [start]=[]:=z
   rw[if_neg z'] at e';simp[IC,hd,e'];rfl
 exact zB run (Vf keep hl) (SO _)
theorem Vg:∀(ls:List Nat),ls≠[]->∃i,Br ls i
 |[],h=>absurd rfl h
 | [n],_=>⟨0,n,rfl,λj k e=>by
   cases j with
   |zero=>simp at e;subst e;exact⟨az _,λh=>absurd h (cQ _)⟩
   |succ j=>simp at e⟩
 | n::m::r,_=>by
   obtain⟨i,k,ek,hk⟩:=Vg (m::r) (by simp);by_cases z:k<n
   .refine⟨i+1,k,by simpa using ek,λj u eu=>?_⟩
    cases j with
    |zero=>simp at eu;subst eu;exact⟨by omega,λ_=>z⟩
    | succ j=>
      have:=hk j u (by simpa using eu);exact⟨this.1,λh=>this.2 (by omega)⟩
   .refine⟨0,n,rfl,λj u eu=>?_⟩
    cases j with
    |zero=>simp at eu;subst eu;exact⟨az _,λh=>absurd h (cQ _)⟩
    | succ j=>
      have:=hk j u (by simpa using eu);exact⟨by omega,λh=>absurd h (Ae _)⟩
structure ON(sec:Str->List Str)(names ring:List Str):Prop where
 ne:ring≠[]
 of:∃n∈names,ring=oK sec names n
 min:∀n∈names,oK sec names n≠[]->ring.length<=(oK sec names n).length
theorem zxa(ok:SecOk names sec)(hex:∃n∈names,oK sec names n≠[]):∃ring,Fq c [c7 names sec] S=.ok (aI ring) S/\ON sec names ring:=by
 have sX:=ok.sX;have hk:Fp c [aa (c7 names sec),ae] S=.ok (names.map .str,λ_=>True) S:=by
  have:(names.map λn=>((dG n:b9),T.dic (cT (sec n)))).map (λp=>kT p.1)=names.map T.str:=by simp[kT]
  simp[Fp,iK,c7,kT]
 have c1:=E9 (ρ:=[aa (c7 names sec),ae]) (S:=S) (js:=[0]) (it:=Fp c) (te:=IE c) (ts:=names.map .str) (st:=λ_=>True) (f:=λt=>match t with|.str n=>aI (oK sec names n) | _=>.bY) hk trivial (by simp;omega) (λt ht=>by
  obtain⟨n,hn,rfl⟩:=aq.mp ht;simp[IE,z98 ok hn])
 rw[aU] at c1;have c1:i4 1 [0] (Fp c) (c0 0) ke (IE c) eU [aa (c7 names sec),ae] S=.ok (.lst (names.map λn=>aI (oK sec names n))) S:=c1;have c2:=zA (ρ:=[aa (c7 names sec),aa (.lst (names.map λn=>aI (oK sec names n)))]) (S:=S) (js:=[]) (it:=Ng c) (tc:=Nh c) (te:=Nf c) (ts:=names.map λn=>aI (oK sec names n)) (st:=λS'=>cI S' (.lst (names.map λn=>aI (oK sec names n)))=aa (names.map λn=>aI (oK sec names n)))
  (p:=λt=>match t with|.lst us=>!us.isEmpty | _=>false) (f:=λt=>t) (by simp[Ng]) rfl (by simp;omega) (λt ht=>by
   obtain⟨n,hn,rfl⟩:=aq.mp ht;simp[Nh,aI]) (λt ht _=>by simp[Nf])
 have ef:((names.map λn=>aI (oK sec names n)).filter (λt=>match t with|.lst us=>!us.isEmpty | _=>false)).map (λt=>t)=((names.map (oK sec names)).filter λr=>!r.isEmpty).map aI:=by
  rw[rM,cv,cv,aU];congr 1;refine gD λn _=>?_;simp[aI]
 rw[ef] at c2;generalize zR:((names.map (oK sec names)).filter λr=>!r.isEmpty)=rs at c2;have mem:∀r∈rs,r≠[]/\∃n∈names,r=oK sec names n:=λr hr=>by
  rw[<- zR] at hr;obtain⟨h1,h2⟩:=bh.mp hr;obtain⟨n,hn,rfl⟩:=aq.mp h1;exact⟨by simpa using h2,n,hn,rfl⟩
 have rne:rs≠[]:=by
  obtain⟨n,hn,h⟩:=hex;intro z;have:oK sec names n∈rs:=by rw[<- zR];exact bh.mpr ⟨aq.mpr ⟨n,hn,rfl⟩,by simpa using h⟩
  rw[z] at this;cases this
 have F6:Io S (rs.map aI)=aa (rs.map kG):=by
  unfold Io;exact FZ (k:=kG) λr _=>by simp[aI]
 have qT:=Vg (rs.map kG) (by simpa using rne);have hm:∃ring∈rs,vR (.lst (rs.map aI)) S=.ok (aI ring) S/\∀r∈rs,ring.length<=r.length:=by
  obtain⟨n,en,OO⟩:=qT.choose_spec;rw[bH] at en;obtain⟨ring,er,el⟩:=bc.mp en;refine⟨ring,kH er,?_,λr hr=>?_⟩
  case refine_2=>
   obtain⟨j,hj,e⟩:=lh hr;have:=(OO j r.length (by rw[bH,aW hj,e];rfl)).1;omega
  have e2:(rs.map aI)[qT.choose]?=aa (aI ring):=by rw[bH,er];rfl
  unfold vR;simp only[Mu,F6,dif_pos qT,e2]
 obtain⟨ring,hr,em,Ji⟩:=hm;refine⟨ring,?_,(mem ring hr).1,(mem ring hr).2,λn hn h=>Ji _ (by rw[<- zR];exact bh.mpr ⟨aq.mpr ⟨n,hn,rfl⟩,by simpa using h⟩)⟩;simp[Fq,TX,c1,c2,em]
end DN
namespace DN
open PySem L2 MF
variable {c:Cl}{S:bx}{ρ:Ev}{sec:Str->List Str}{names:List Str}
theorem Vh:∀(zs:List Str),(∀z∈zs,(cD z).length<=30)->((gZ (zs.map cw)).map (·.length)).sum<=30*zs.length/\(gZ (zs.map cw)).length=zs.length
 |[],_=>by simp[gZ]
 | z::zs,h=>by
   obtain⟨a,b⟩:=Vh zs λx hx=>h x (au _ hx);have:=h z (ay ..);simp only[aE,gZ,fC,Cd,aL];omega
theorem zue{zs:List Str}(h:∀z∈zs,(cD z).length<=30)(hl:zs.length<=24):(fC (.list (zs.map cw))).length<=800:=by
 obtain⟨a,b⟩:=Vh zs h;have:=listText_len_le (gZ (zs.map cw));simp only[fC];omega
theorem z6f{x:Str}{A B:List Str}(h:x∉A):so (.str x) ((A++x::B).map T.str)=aa A.length:=by
 have go:∀(A B:List Str),x∉A->((A++x::B).map V.str).findIdx? (λy=>qH y (.str x))=aa A.length:=by
  intro A
  induction A with
  | nil=>
    intro B _;rw[cH,aE,vd];simp[qH]
  | cons a A ih=>
    intro B h;have h1:a≠x:=λe=>h (by simp[e]);have:=ih B λz=>h (au _ z);rw[eK,aE,vd,this];simp[qH,h1]
 unfold so;rw[MA];simp only[toV];rw[if_pos (by rw[MB];rfl),go A B h]
theorem Vi{k:Nat}{left:List Str}{x:Str}(hk:S[k]?=aa (.lst (left.map .str)))(hx:x∈left)(hl:left.length<=1000):Bd (.obj k) [.str x] S=.ok .bY (S.set k (.lst ((left.erase x).map .str))):=by
 obtain⟨A,B,rfl,hA⟩:=List.eq_append_cons_of_mem hx;have e1:(A++x::B).erase x=A++B:=by rw[List.erase_append_right _ hA,List.erase_cons_head]
 have e2:((A++x::B).map T.str).eraseIdx A.length=(A++B).map T.str:=by
  rw[bf,aE,List.eraseIdx_append_of_length_le (by simp),aN,fM,List.eraseIdx_cons_zero,bf]
 have uO:((A++x::B).map T.str).length<=1000:=by rw[aN];exact hl
 unfold Bd;simp only[fL,hk,z6f hA,if_pos uO,e2,e1]
structure Jj(names:List Str)(sec:Str->List Str):Prop extends SecOk names sec where
 sm:∀x∈names,(cD x).length<=30
 F7:names.length<=24
theorem Vj{kl kr h:Nat}{t1:Option T}(ok:Jj names sec):∀(n:Nat) (left row:List Str) (m:Nat) {x5:Option T} {S:bx},left.length=n->n+1<=m->left.Nodup->(∀x∈left,x∈names)->S[kl]?=aa (.lst (left.map .str))->S[kr]?=aa (.lst (row.map .str))->kl≠kr->row.length+n<=900 ->
  (∀res,topo sec n left row=aa res->∃S' kS,j4 (uY c) (ur c) m [aa (.obj h),t1,aa (c7 names sec),aa (.obj kl),aa (.obj kr),x5] S=.ok (.nx [aa (.obj h),t1,aa (c7 names sec),aa (.obj kl),aa (.obj kr),kS]) S'/\S'[kr]?=aa (.lst (res.map .str))/\l_ S S' kl kr) /\
  (topo sec n left row=ae->∃S' ring,j4 (uY c) (ur c) m [aa (.obj h),t1,aa (c7 names sec),aa (.obj kl),aa (.obj kr),x5] S=.exc c.ring (aa [("ring",aI ring)]) S'/\l_ S S' kl kr/\ON sec names ring)
 |n,left,row,0,x5,S,_,hm,_,_,_,_,_,_=>by omega
 | 0,left,row,m+1,x5,S,hl,_,_,_,sD,yI,ne,_=>by
   have:left=[]:=gY hl;subst this;have hw:uY c [aa (.obj h),t1,aa (c7 names sec),aa (.obj kl),aa (.obj kr),x5] S=.ok false S:=by
    simp[uY,F4 (jG sD)]
   refine⟨λres e=>?_,λe=>by cases e⟩;cases e;refine⟨S,x5,?_,yI,l_.refl _ _ _⟩;unfold j4;rw[eL,hw];rfl
 | n + 1,left,row,m+1,x5,S,hl,hm,nd,l9,sD,yI,ne,hr=>by
   have v8:left≠[]:=λe=>by rw[e] at hl;simp at hl
   have hw:uY c [aa (.obj h),t1,aa (c7 names sec),aa (.obj kl),aa (.obj kr),x5] S=.ok true S:=by
    have:(left.map T.str).isEmpty=false:=by simpa using v8
    simp[uY,F4 (jG sD),this,v8]
   have un:j4 (uY c) (ur c) (m+1) [aa (.obj h),t1,aa (c7 names sec),aa (.obj kl),aa (.obj kr),x5] S=M.bind (ur c [aa (.obj h),t1,aa (c7 names sec),aa (.obj kl),aa (.obj kr),x5]) (λx=>match x with
    |.nx ρ2=>j4 (uY c) (ur c) m ρ2
    |.ct ρ2=>j4 (uY c) (ur c) m ρ2
    |.bk ρ2=>M.pure (.nx ρ2)
    |.rt t=>M.pure (.rt t)) S:=by
    conv=>lhs;unfold j4
    rw[eL,hw];rfl
   rw[un,eL];have f100:=ok.sX;have OP:=tF left names nd l9;have ef:=zw9 (c:=c) (sec:=sec) sD l9 (by omega);unfold topo;cases q:left.find? (lQ sec left) with
   | none=>
     rw[q] at ef;have hall:∀x∈left,∃f∈left,x∈sec f:=λx hx=>by
      have:=eW.mp q x hx;unfold lQ at this;simpa using this
     obtain⟨s,hs,hp⟩:=zw8 v8 hall;obtain⟨ring,er,sh⟩:=zxa (c:=c) (S:=S) ok.toSecOk ⟨s,l9 s hs,z6e ok.toSecOk (l9 s hs) hp⟩;obtain⟨n0,hn0,F8⟩:=sh.of;obtain⟨Vk,rs2⟩:=z2y ok.toSecOk hn0;rw[<- F8] at Vk rs2;have Ep:=zue (zs:=ring) (λz hz=>ok.sm z (Vk z hz)) (by have:=ok.F7;omega);have zS:ring.length<=1000/\(fC (.list (ring.map cw))).length<=800:=⟨by have:=ok.F7;omega,Ep⟩;refine⟨λres e=>(by cases e),λ_=>⟨S,ring,?_,l_.refl _ _ _,sh⟩⟩;have hb:ur c [aa (.obj h),t1,aa (c7 names sec),aa (.obj kl),aa (.obj kr),x5] S=.exc c.ring (aa [("ring",aI ring)]) S:=by
      have Vl:((cI S (aI ring)).bind uS)=aa ring:=by simp[aI,I_]
      simp only[aI] at Vl;simp[ur,ef,qo,ud,MQ,er,aI,Vl,I_,zS]
     rw[hb]
   | some x=>
     rw[q] at ef;have hx:=dR q;have yJ:=Vi sD hx (by omega);have BV:(S.set kl (.lst ((left.erase x).map .str)))[kr]?=aa (.lst (row.map .str)):=by rw[dN ne];exact yI
     have oH:=xU (y:=.str x) BV (by simp;omega);have e1:row.map T.str++[T.str x]=(row++[x]).map .str:=by simp
     rw[e1] at oH;have BW:=lY sD;have yK:=lY BV;have hb:ur c [aa (.obj h),t1,aa (c7 names sec),aa (.obj kl),aa (.obj kr),x5] S=.ok (.nx [aa (.obj h),t1,aa (c7 names sec),aa (.obj kl),aa (.obj kr),aa (.str x)]) ((S.set kl (.lst ((left.erase x).map .str))).set kr (.lst ((row++[x]).map .str))):=by
      simp only[bf,aE,iG] at oH ⊢;simp[ur,ef,qo,ud,BW,yJ,yK,oH]
     rw[hb];have g1:((S.set kl (.lst ((left.erase x).map .str))).set kr (.lst ((row++[x]).map .str)))[kl]?=aa (.lst ((left.erase x).map .str)):=by rw[dN (bZ ne)];exact lK sD
     have g2:((S.set kl (.lst ((left.erase x).map .str))).set kr (.lst ((row++[x]).map .str)))[kr]?=aa (.lst ((row++[x]).map .str)):=lK BV;have wX:l_ S ((S.set kl (.lst ((left.erase x).map .str))).set kr (.lst ((row++[x]).map .str))) kl kr:=⟨by simp,λj h1 h2=>by rw[dN (bZ h2),dN (bZ h1)]⟩;obtain⟨a,b⟩:=Vj (h:=h) (t1:=t1) ok n (left.erase x) (row++[x]) m (x5:=aa (.str x)) (by rw[fV hx];omega) (by omega) (nd.erase x) (λy hy=>l9 y (sQ hy)) g1 g2 ne (by simp;omega);refine⟨λres e=>?_,λe=>?_⟩
     .obtain⟨S',kS,w1,w2,w3⟩:=a res e
      exact⟨S',kS,w1,w2,wX.trans w3⟩
     .obtain⟨S',ring,w1,w2,sh⟩:=b e
      exact⟨S',ring,w1,wX.trans w2,sh⟩
theorem zqr{h:Nat}{pl:List jx}{ps qs:List HP}(A:fT c S h pl ps)(nd:names.Nodup)(hq:qs.map (·.nm)=names)(hs:∀q∈qs,q∈ps/\q.w0.length+q.w1.length<=20)(ok:Jj names (oG names qs)) :
  (∀res,topo (oG names qs) names.length names []=aa res->∃S',BE c [.obj h,aI names] S=.ok (.obj (S.length+1)) S'/\S'[S.length+1]?=aa (.lst (res.map .str))/\∀j,j<S.length->S'[j]?=S[j]?) /\
  (topo (oG names qs) names.length names []=ae->∃S' ring,BE c [.obj h,aI names] S=.exc c.ring (aa [("ring",aI ring)]) S'/\(∀j,j<S.length->S'[j]?=S[j]?)/\ON (oG names qs) names ring):=by
 have es:=z0j A nd hq hs ok.F7;have F7:=ok.F7;have e1:uP (aI names) S=.ok (.obj S.length) (S++[.lst (names.map .str)]):=by simp[uP,tj,aI]
 have c5:(S++[bA.lst (names.map .str)]).length=S.length+1:=by simp
 have g1:(S++[bA.lst (names.map .str)]++[.lst []])[S.length]?=aa (.lst (names.map .str)):=by rw[aR,yE];rfl
 have g2:(S++[bA.lst (names.map .str)]++[.lst []])[S.length+1]?=aa (.lst (([]:List Str).map .str)):=by rw[aR,pP];rfl
 obtain⟨a,b⟩:=Vj (c:=c) (kl:=S.length) (kr:=S.length+1) (h:=h) (t1:=aa (aI names)) ok names.length names [] 1000 (x5:=ae) (S:=S++[.lst (names.map .str)]++[.lst []]) rfl (by omega) nd (λx hx=>hx) g1 g2 (by omega) (by simp;omega);have keep:∀S',l_ (S++[bA.lst (names.map .str)]++[.lst []]) S' S.length (S.length+1)->∀j,j<S.length->S'[j]?=S[j]?:=λS' sm j hj=>by
  rw[sm.same j (by omega) (by omega),aR,aw hj]
 refine⟨λres e=>?_,λe=>?_⟩
 .obtain⟨S',kS,w1,w2,w3⟩:=a res e
  have w1:uU (uY c) (ur c) [aa (.obj h),aa (aI names),aa (c7 names (oG names qs)),aa (.obj S.length),aa (.obj (S.length+1)),ae] (S++[.lst (names.map .str)]++[.lst []])=_:=w1;simp only[aR,eK,cH] at w1;refine⟨S',?_,w2,keep S' w3⟩;simp[BE,Ni,es,e1,w1]
 .obtain⟨S',ring,w1,w3,sh⟩:=b e
  have w1:uU (uY c) (ur c) [aa (.obj h),aa (aI names),aa (c7 names (oG names qs)),aa (.obj S.length),aa (.obj (S.length+1)),ae] (S++[.lst (names.map .str)]++[.lst []])=_:=w1;simp only[aR,eK,cH] at w1;refine⟨S',ring,?_,keep S' w3,sh⟩;simp[BE,Ni,es,e1,w1]
end DN
namespace DN
open PySem L2 MF
variable {c:Cl}{S:bx}{ρ:Ev}
theorem OQ{α:Type}(A B:List α)(p:α):(A++p::B).take (A.length+1)=A++[p]:=by
 rw[show A++p::B=(A++[p])++B by simp];exact List.take_left' (by simp)
abbrev yL:=Str×Str×T×Option Str×Bool×List Str×List Str×List Str×List Str
def HP.core(p:HP):yL:=(p.nm,p.pl,p.dd,p.br,p.on,p.w0,p.w1,p.w2,p.w3)
def Pc.full(p:Pc):yL:=(p.nm,p.pl,p.dd,ae,p.on,p.w0,p.w1,p.w2,p.w3)
theorem z6g{h1 h2:List HP}{p x:HP}(nd:((h1++p::h2).map (·.nm)).Nodup):(h1++p::h2).map (λq=>if q.nm=p.nm then x else q)=h1++x::h2:=by
 rw[bf,aE,if_pos rfl];rw[bf,aE,b_] at nd;obtain⟨_,n2,n3⟩:=nd;rw[cF] at n2;congr 1
 .refine(dD λq hq=>?_).trans (tP _)
  rw[if_neg λe=>n3 q.nm (aq.mpr ⟨q,hq,rfl⟩) p.nm (ay ..) e];rfl
 .congr 1
  refine(dD λq hq=>?_).trans (tP _);rw[if_neg λe=>n2.1 (aq.mpr ⟨q,hq,e⟩)];rfl
theorem Zca:fT c (S++[.ins c.hall (n5 S.length),.dic [],.dic []]) S.length [] []:=
 ⟨by rw[yE];rfl,by rw[pP];rfl,by rw[pP];rfl,(by intro q hq;cases hq),(by intro q hq;cases hq),(by intro q hq;cases hq),.nil,.nil⟩
def sE(S:bx)(t:T)(ts:List T):Prop:=∀S',(∀k,k<S.length->S'[k]?=S[k]?)->cI S' t=aa ts
theorem Vm{k:Nat}{ts:List T}(h:S[k]?=aa (.lst ts)):sE S (.obj k) ts:=λS' hk=>by
 rw[jG];rw[hk k (ao.mp h).1];exact h
theorem sE.now{t:T}{ts:List T}(h:sE S t ts):cI S t=aa ts:=h S λ_ _=>rfl
theorem sE.keep{t:T}{ts:List T}{S':bx}(h:sE S t ts)(hl:S.length<=S'.length)(hk:∀k,k<S.length->S'[k]?=S[k]?):sE S' t ts:=λS2 h2=>h S2 λk ro=>by rw[h2 k (by omega)];exact hk k ro
end DN
namespace DN
open PySem L2 MF
variable {c:Cl}{S:bx}{ρ:Ev}
def lW(x:Str):Prop:=fD x=true
theorem F9:∀(l:List Str),nY (l.map T.str)=aa (l.map cw)
 |[]=>by simp[nY]
 |a::r=>by simp[nY,pd,F9 r]
theorem BX:∀{l:List Str},(∀x∈l,lW x)->bR (l.map cw)=true
 |[],_=>by simp[bR]
 | a::r,h=>by
   simp only[aE,bR,bN,b8];exact⟨h a (ay ..),BX λx hx=>h x (au _ hx)⟩
theorem F_:∀(l:List Str),cq (l.map cw)=0
 |[]=>by simp[cq]
 |a::r=>by simp[cq,dC,F_ r]
theorem Ga:∀(l m:List Str),dh (l.map cw) (m.map cw)=decide (l=m)
 |[],[]=>by simp[dh]
 |[],_::_=>by simp[dh]
 |_::_,[]=>by simp[dh]
 | a::r,b::s=>by
   simp only[aE,dh,bX,Ga r s];rw[dU];simp
theorem zT{x y:T}{a b:jo}(hx:toV x=ae\/toV y=ae)(ha:mv S x=aa a)(hb:mv S y=aa b)(ca:a.canLay0=true)(cb:b.canLay0=true)(da:a.depth<=50):rB S x y=aa (bX a b):=by
 unfold rB;rcases hx with h | h
 .rw[h];simp[ha,hb,ca,cb,da]
 .rw[h]
  cases toV x<;>simp[ha,hb,ca,cb,da]
theorem Jk{t:T}{l:List Str}(h:cI S t=aa (l.map T.str)):mv S t=aa (.list (l.map cw)):=by
 cases t with
 |lst ts=>simp[cI] at h;subst h;simp[mv,pd,F9]
 |obj k=>have:=LQ h;simp[mv,this,F9]
 |_=>simp[cI] at h
theorem Jl{t:T}{ts:List T}(h:cI S t=aa ts):toV t=ae:=by
 cases t<;>first | rfl | simp[cI] at h
theorem Vn{x y:T}{l m:List Str}(hx:cI S x=aa (l.map T.str))(hy:cI S y=aa (m.map T.str))(ol:∀z∈l,lW z)(om:∀z∈m,lW z):kC x y S=.ok (.bl (!decide (l=m))) S:=by
 have:=zT (.inl (Jl hx)) (Jk hx) (Jk hy) (by simp only[bN];exact BX ol) (by simp only[bN];exact BX om) (by simp[dC,F_]);simp[kC,this,bX,Ga]
structure Lk where
 w:Str
 a:Str
 b:Str
def Lk.t(k:Lk):T:=.tup [.str k.w,.str k.a,.str k.b]
def Lk.d(k:Lk):jo:=.tuple [.str k.w,.str k.a,.str k.b]
def Lk.ok(k:Lk):Prop:=lW k.w/\lW k.a/\lW k.b
theorem Zcb(k:Lk):pd k.t=aa k.d:=by simp[Lk.t,Lk.d,pd,nY]
theorem Zaa{k:Lk}(h:k.ok):k.d.canLay0=true:=by
 obtain⟨h1,h2,h3⟩:=h;unfold lW at h1 h2 h3;simp[Lk.d,bN,bR,h1,h2,h3]
theorem Gb:∀(l:List Lk),nY (l.map Lk.t)=aa (l.map Lk.d)
 |[]=>by simp[nY]
 |a::r=>by simp[nY,Zcb,Gb r]
theorem Gc:∀{l:List Lk},(∀x∈l,x.ok)->bR (l.map Lk.d)=true
 |[],_=>by simp[bR]
 | a::r,h=>by
   simp only[aE,bR,b8];exact⟨Zaa (h a (ay ..)),Gc λx hx=>h x (au _ hx)⟩
theorem Jm:∀(l:List Lk),cq (l.map Lk.d)<=1
 |[]=>by simp[cq]
 | a::r=>by
   have:=Jm r;simp[cq,dC,Lk.d] at this ⊢;omega
theorem z6h{l:List Lk}(h:∀x∈l,x.ok):iR (.lst (l.map Lk.t)) (.lst []) S=.ok (.bl l.isEmpty) S:=by
 have:=zT (S:=S) (x:=.lst (l.map Lk.t)) (y:=.lst []) (a:=.list (l.map Lk.d)) (b:=.list []) (.inl rfl) (by simp[mv,pd,Gb]) (by simp[mv,pd,nY]) (by simp only[bN];exact Gc h) (by simp[bN,bR]) (by have:=Jm l;simp[dC];omega);have e:bX (.list (l.map Lk.d)) (.list [])=l.isEmpty:=by
  cases l<;>simp[bX,dh]
 simp[iR,this,e]
def yM(names:List Str)(nm:Str)(Gd OR:List Str):List Lk:=
 ((Gd.filter λo=>!names.contains o).map λo=>⟨"needs",nm,o⟩)++((OR.filter λo=>names.contains o).map λo=>⟨"bars",nm,o⟩)
abbrev W3:=Str×List Str×List Str
def jc(names:List Str)(l:List W3):List Lk:=l.flatMap λp=>if names.contains p.1 then yM names p.1 p.2.1 p.2.2 else[]
def HP.w(p:HP):W3:=(p.nm,p.w2,p.w3)
theorem Dp{t:T}{ts:List T}{L:bx}(h:cI S t=aa ts):cI (S++L) t=aa ts:=by
 cases t with
 |lst us=>exact h
 |obj k=>exact jG (k8 (LQ h))
 |_=>simp[cI] at h
theorem wY{t:T}{ts:List T}(h:cI S t=aa ts):ju S t=aa ts:=by
 cases t<;>first | exact h | simp[cI] at h
theorem OS(names:List Str)(nm:Str)(n b:List Str):(yM names nm n b).length<=n.length+b.length:=by
 unfold yM;rw[aB,aN,aN];have h1:=c8 (λo=>!names.contains o) n;have h2:=c8 (λo=>names.contains o) b;omega
theorem Vo(p:Str->Bool):∀(l:List Str),((l.map T.str).filter λt=>match t with|.str x=>p x | _=>false)=(l.filter p).map T.str
 |[]=>rfl
 | a::r=>by
   rw[aE,fH,fH,Vo p r];cases h:p a<;>simp[h]
theorem Jn{nm:Str}{l:List Str}{S:bx}(wd:Str)(q:Str->Bool)(hl:l.length<=1000){it:DI}{st:bx->Prop}{tc:DT}{te:DE}{js:List Nat}{ρ:Ev}(ou:it ρ S=.ok (l.map T.str,st) S)(dI:st S)
  (Ba:∀o:Str,tc (aa (.str o)::js.map λj=>(ρ[j]?).join) S=.ok (q o) S) (OT:∀o:Str,te (aa (.str o)::js.map λj=>(ρ[j]?).join) S=.ok (Lk.t ⟨wd,nm,o⟩) S) :
  i4 1 js it (c0 0) tc te eU ρ S=.ok (.lst (((l.filter q).map λo=>Lk.mk wd nm o).map Lk.t)) S:=by
 have:=zA (S:=S) (ρ:=ρ) (js:=js) (it:=it) (tc:=tc) (te:=te) (ts:=l.map T.str) (st:=st) (p:=λt=>match t with|.str x=>q x | _=>false) (f:=λt=>match t with|.str x=>Lk.t ⟨wd,nm,x⟩ | _=>.bY) ou dI (by simpa using hl)
  (λt ht=>by obtain⟨o,_,rfl⟩:=aq.mp ht;exact Ba o) (λt ht _=>by obtain⟨o,_,rfl⟩:=aq.mp ht;exact OT o)
 rw[this,Vo,aU,aU];rfl
end DN
namespace DN
open PySem L2 MF
variable {c:Cl}{S:bx}{ρ:Ev}
theorem z2z{A B:List HP}{p:HP}(nd:((A++p::B).map (·.nm)).Nodup):(A++p::B).find? (λq=>decide (q.nm=p.nm))=aa p:=BQ nd (by simp)
end DN
namespace DN
open PySem L2 MF
variable {c:Cl}{S:bx}
section
variable {w:DT}{b:DS}{n:Nat}{ρ ρ2:Ev}{C:aj}{fs:Option (List (Str×T))}{t:T}{S1 S2:bx}
theorem Jo(h:w ρ S=.ok true S1)(e:b ρ S1=.ok (.nx ρ2) S2):j4 w b (n+1) ρ S=j4 w b n ρ2 S2:=by
 simp[j4,h,e]
theorem z6i(h:w ρ S=.ok true S1)(e:b ρ S1=.exc C fs S2):j4 w b (n+1) ρ S=.exc C fs S2:=by
 simp[j4,h,e]
end
def OU(la lb:List Str):T:=.dic [(.inr "a",.dic (cT la)),(.inr "b",.dic (cT lb))]
local macro_rules | `(tactic| walk_at "r") => `(tactic| simp [uX, uW, uq, vT, dA, dz, iK, c0, iS, um, m6, dF, OU, cT, cU, m8, jt, vt, kP, jP, fL, jv, cI, kT, jO, ju])
end DN
namespace DN
open PySem L2 MF
variable {c:Cl}{S:bx}{sec:Str->List Str}{names:List Str}
section
variable {h:Nat}{pl:List jx}{ps qs:List HP}(A:fT c S h pl ps)(hq:qs.map (·.nm)=(["a", "b"]:List Str))(hs:∀q∈qs,q∈ps/\q.w0.length+q.w1.length<=20)
include A hq hs
end
end DN
namespace DN
open PySem L2 MF
variable {c:Cl}{S:bx}{ρ:Ev}
theorem z20(x many:Int):(sA x many).length<=2:=by
 unfold sA
 split
 .simp
 .split<;>simp
theorem Vp{nN:List HP}{ps:List Pc}(h:nN.map HP.core=ps.map Pc.full){p:HP}(hp:p∈nN):∃q∈ps,p.core=q.full:=by
 have:p.core∈nN.map HP.core:=aq.mpr ⟨p,hp,rfl⟩;rw[h] at this;obtain⟨q,hq,e⟩:=aq.mp this;exact⟨q,hq,e.symm⟩
end DN
namespace DN
open PySem L2 MF
variable {c:Cl}{S:bx}{ρ:Ev}{sec:Str->List Str}{names:List Str}
def Jp(prs:List (Str×Str))(left:List Str)(x:Str):Bool:=!(prs.any λp=>decide (p.2=x)&&decide (p.1∈left))
def gs(p:Str×Str):T:=.tup [.str p.1,.str p.2]
structure Ge(names:List Str)(sec:Str->List Str)(prs:List (Str×Str)):Prop where
 iff:∀a∈names,∀b,b∈sec a↔(a,b)∈prs
 sub:∀p∈prs,p.1∈names/\p.2∈names
theorem z0p{prs:List (Str×Str)}(r:Ge names sec prs){left:List Str}(hl:∀x∈left,x∈names)(x:Str):Jp prs left x=lQ sec left x:=by
 unfold Jp lQ;congr 1;rw[dU,fJ,fJ];constructor
 .rintro⟨⟨a,b⟩,hp,e⟩
  simp only[b8,decide_eq_true_eq] at e;obtain⟨rfl,ha⟩:=e;exact⟨a,ha,by simpa using(r.iff a (hl a ha) b).mpr hp⟩
 .rintro⟨f,hf,e⟩
  exact⟨(f,x),(r.iff f (hl f hf) x).mp (by simpa using e),by simp[hf]⟩
theorem OV{x:Str}{y:T}{l:List Str}(h:ju S y=aa (l.map T.str)):pD (.str x) y S=.ok (.bl (decide (x∈l))) S:=by
 have:=CQ (x:=x) h;simp[this]
theorem Vq(left:List Str)(x:Str):∀(prs:List (Str×Str)),(prs.map gs).findSome? (λt=>match t with|.tup [.str a,.str b]=>if(decide (b=x)&&decide (a∈left))=true then aa (T.bl false) else ae | _=>ae)=if(prs.any λp=>decide (p.2=x)&&decide (p.1∈left))=true then aa (.bl false) else ae
 |[]=>rfl
 | p :: r=>by
   have ih:=Vq left x r;rw[aE,lu,ff];cases z:(decide (p.2=x)&&decide (p.1∈left)) with
   |true=>simp only[gs,z];rfl
   | false=>
     simp only[gs,z,qz];exact ih
theorem Zab{prs:List (Str×Str)}{left:List Str}{L:T}{x:Str}(hL:ju S L=aa (left.map T.str)):C0 c [.str x,L,.lst (prs.map gs)] S=.ok (.bl (Jp prs left x)) S:=by
 obtain⟨ρ',_,e⟩:=OF (S:=S) (st:=λS'=>cI S' (.lst (prs.map gs))=aa (prs.map gs)) (body:=BB c) (i:=3) (ρ0:=[aa (.str x),aa L,aa (.lst (prs.map gs)),ae])
  (p:=λt=>match t with|.tup [.str a,.str b]=>if(decide (b=x)&&decide (a∈left))=true then aa (.bl false) else ae | _=>ae) rfl (prs.map gs) [aa (.str x),aa L,aa (.lst (prs.map gs)),ae] (λ_=>rfl) (λt ht=>by
   obtain⟨⟨a,b⟩,hp,rfl⟩:=aq.mp ht;have hi:=OV (x:=a) hL;by_cases z:b=x
   .by_cases y:a∈left
    .simp[BB,gs,z,y,hi]
    .simp[BB,gs,z,y,hi]
   .simp[BB,gs,z])
 have ef:=Vq left x prs;rw[ef] at e;have es:dA (iL (ah 2)) (c0 3) (BB c) [aa (.str x),aa L,aa (.lst (prs.map gs)),ae] S=dz (λS'=>cI S' (.lst (prs.map gs))=aa (prs.map gs)) (c0 3) (BB c) (prs.map gs) [aa (.str x),aa L,aa (.lst (prs.map gs)),ae] S:=by
  unfold dA;rw[eL,Bf,eL];rfl
 have e2:=es.trans e;unfold Jp;by_cases z:(prs.any λp=>decide (p.2=x)&&decide (p.1∈left))=true
 .rw[if_pos z] at e2
  rw[z];simp[C0,M3,e2]
 .rw[if_neg z] at e2
  have z:(prs.any λp=>decide (p.2=x)&&decide (p.1∈left))=false:=by simpa using z
  rw[z];simp[C0,M3,e2]
theorem Vr{x y:T}{l m:List Str}(hx:cI S x=aa (l.map T.str))(hy:cI S y=aa (m.map T.str))(ol:∀z∈l,lW z)(om:∀z∈m,lW z):iR x y S=.ok (.bl (decide (l=m))) S:=by
 have:=zT (.inl (Jl hx)) (Jk hx) (Jk hy) (by simp only[bN];exact BX ol) (by simp only[bN];exact BX om) (by simp[dC,F_]);simp[iR,this,bX,Ga]
theorem Vs{kl kr:Nat}{t0:Option T}{prs:List (Str×Str)}(r:Ge names sec prs)(zU:∀x∈names,lW x)(sX:names.length<=100):∀(n:Nat) (left row:List Str) (m:Nat) {x4:Option T} {S:bx},left.length=n->n+1<=m->left.Nodup->(∀x∈left,x∈names)->S[kl]?=aa (.lst (left.map .str))->S[kr]?=aa (.lst (row.map .str))->kl≠kr->row.length+n<=900 ->
  ∃ S',l_ S S' kl kr/\(match topo sec n left row with
    |some res=>(∃tG,j4 (uV c) (uo c) m [t0,aa (.lst (prs.map gs)),aa (.obj kl),aa (.obj kr),x4] S=.ok (.nx [t0,aa (.lst (prs.map gs)),aa (.obj kl),aa (.obj kr),tG]) S')/\S'[kr]?=aa (.lst (res.map .str))
    |none=>j4 (uV c) (uo c) m [t0,aa (.lst (prs.map gs)),aa (.obj kl),aa (.obj kr),x4] S=.ok (.rt .bY) S')
 |n,left,row,0,x4,S,_,hm,_,_,_,_,_,_=>by omega
 | 0,left,row,m+1,x4,S,hl,_,_,_,sD,yI,ne,_=>by
   have:left=[]:=gY hl;subst this;have oi:=Vn (S:=S) (x:=.obj kl) (y:=.lst []) (l:=[]) (m:=[]) (jG sD) rfl (by intro z hz;cases hz) (by intro z hz;cases hz);have hw:uV c [t0,aa (.lst (prs.map gs)),aa (.obj kl),aa (.obj kr),x4] S=.ok false S:=by simp[uV,oi]
   refine⟨S,l_.refl _ _ _,⟨x4,?_⟩,yI⟩;unfold j4;rw[eL,hw];rfl
 | n + 1,left,row,m+1,x4,S,hl,hm,nd,l9,sD,yI,ne,hr=>by
   have v8:left≠[]:=λe=>by rw[e] at hl;simp at hl
   have v9:∀x∈left,lW x:=λx hx=>zU x (l9 x hx);have oi:=Vn (S:=S) (x:=.obj kl) (y:=.lst []) (l:=left) (m:=[]) (jG sD) rfl v9 (by intro z hz;cases hz);have hw:uV c [t0,aa (.lst (prs.map gs)),aa (.obj kl),aa (.obj kr),x4] S=.ok true S:=by simp[uV,oi,v8]
   have un:j4 (uV c) (uo c) (m+1) [t0,aa (.lst (prs.map gs)),aa (.obj kl),aa (.obj kr),x4] S=M.bind (uo c [t0,aa (.lst (prs.map gs)),aa (.obj kl),aa (.obj kr),x4]) (λx=>match x with
    |.nx ρ2=>j4 (uV c) (uo c) m ρ2
    |.ct ρ2=>j4 (uV c) (uo c) m ρ2
    |.bk ρ2=>M.pure (.nx ρ2)
    |.rt t=>M.pure (.rt t)) S:=by
    conv=>lhs;unfold j4
    rw[eL,hw];rfl
   rw[un,eL];have OP:=tF left names nd l9;have hc:=zA (ρ:=[t0,aa (.lst (prs.map gs)),aa (.obj kl),aa (.obj kr),x4]) (S:=S) (js:=[2,1]) (it:=Iy c) (tc:=Iz c) (te:=Iw c) (ts:=left.map .str) (st:=λS'=>cI S' (.obj kl)=aa (left.map .str)) (p:=λt=>match t with|.str x=>lQ sec left x | _=>false) (f:=λt=>t)
    (by simp[Iy,jG sD]) (jG sD) (by simp;omega) (λt ht=>by
     obtain⟨x,hx,rfl⟩:=aq.mp ht;have OW:ju S (.obj kl)=aa (left.map T.str):=by simp[ju,cI,sD]
     have:=Zab (c:=c) (prs:=prs) (x:=x) OW;rw[z0p r l9] at this;simp[Iz,this]) (λt ht _=>by simp[Iw])
   have ef:((left.map T.str).filter (λt=>match t with|.str x=>lQ sec left x | _=>false)).map (λt=>t)=(left.filter (lQ sec left)).map T.str:=by
    rw[rM,cv];rfl
   rw[ef] at hc;have hc:i4 1 [2,1] (Iy c) (c0 0) (Iz c) (Iw c) eU [t0,aa (.lst (prs.map gs)),aa (.obj kl),aa (.obj kr),x4] S=.ok (aI (left.filter (lQ sec left))) S:=hc;have Jq:=Vr (S:=S) (x:=aI (left.filter (lQ sec left))) (y:=.lst []) (l:=left.filter (lQ sec left)) (m:=[]) rfl rfl (λz hz=>v9 z (bh.mp hz).1) (by intro z hz;cases hz);unfold topo;cases q:left.find? (lQ sec left) with
   | none=>
     have fe:left.filter (lQ sec left)=[]:=List.filter_eq_nil_iff.mpr (eW.mp q);rw[fe] at hc Jq;refine⟨S,l_.refl _ _ _,?_⟩;have hb:uo c [t0,aa (.lst (prs.map gs)),aa (.obj kl),aa (.obj kr),x4] S=.ok (.rt .bY) S:=by
      simp[uo,hc,Jq]
     rw[hb];rfl
   | some x=>
     have hx:=dR q;obtain⟨fr,fe⟩:∃fr,left.filter (lQ sec left)=x::fr:=by
      have:=List.head?_filter (p:=lQ sec left) (l:=left);rw[q] at this;cases e:left.filter (lQ sec left) with
      |nil=>rw[e] at this;cases this
      |cons y fr=>rw[e] at this;cases this;exact⟨fr,rfl⟩
     rw[fe] at hc Jq;have oH:=xU (y:=.str x) yI (by simp;omega);have e1:row.map T.str++[T.str x]=(row++[x]).map .str:=by simp
     rw[e1] at oH;have BY:(S.set kr (.lst ((row++[x]).map .str)))[kl]?=aa (.lst (left.map .str)):=by rw[dN (bZ ne)];exact sD
     have yJ:=Vi BY hx (by omega);have BW:=lY yI;have yK:=lY BY;have OC:eh (aI (x::fr)) (.int 0) S=.ok (.str x) S:=by simp[aI]
     have Gf:eh (aI (x::fr)) (.int 0) (S.set kr (.lst ((row++[x]).map .str)))=.ok (.str x) (S.set kr (.lst ((row++[x]).map .str))):=by simp[aI]
     have hb:uo c [t0,aa (.lst (prs.map gs)),aa (.obj kl),aa (.obj kr),x4] S=.ok (.nx [t0,aa (.lst (prs.map gs)),aa (.obj kl),aa (.obj kr),aa (aI (x::fr))]) ((S.set kr (.lst ((row++[x]).map .str))).set kl (.lst ((left.erase x).map .str))):=by
      generalize FY:S.set kr (.lst ((row++[x]).map .str))=S1 at oH yJ yK Gf;simp[uo,hc,Jq,BW,OC,oH,yK,Gf,yJ]
     rw[hb];have g1:((S.set kr (.lst ((row++[x]).map .str))).set kl (.lst ((left.erase x).map .str)))[kl]?=aa (.lst ((left.erase x).map .str)):=lK BY;have g2:((S.set kr (.lst ((row++[x]).map .str))).set kl (.lst ((left.erase x).map .str)))[kr]?=aa (.lst ((row++[x]).map .str)):=by rw[dN ne];exact lK yI
     have wX:l_ S ((S.set kr (.lst ((row++[x]).map .str))).set kl (.lst ((left.erase x).map .str))) kl kr:=⟨by simp,λj h1 h2=>by rw[dN (bZ h1),dN (bZ h2)]⟩;obtain⟨S',sm,e⟩:=Vs (t0:=t0) r zU sX n (left.erase x) (row++[x]) m (x4:=aa (aI (x::fr))) (by rw[fV hx];omega) (by omega) (nd.erase x) (λy hy=>l9 y (sQ hy)) g1 g2 ne (by simp;omega);exact⟨S',wX.trans sm,e⟩
theorem zuf{prs:List (Str×Str)}(r:Ge names sec prs)(zU:∀x∈names,lW x)(sX:names.length<=100)(nd:names.Nodup) :
  zI c [aI names,.lst (prs.map gs)] S=.ok (match topo sec names.length names [] with|some res=>aI res | none=>.bY) S:=by
 have e1:uP (aI names) S=.ok (.obj S.length) (S++[.lst (names.map .str)]):=by simp[uP,tj,aI]
 have g1:(S++[bA.lst (names.map .str)]++[.lst []])[S.length]?=aa (.lst (names.map .str)):=by rw[aR,yE];rfl
 have g2:(S++[bA.lst (names.map .str)]++[.lst []])[S.length+1]?=aa (.lst (([]:List Str).map .str)):=by rw[aR,pP];rfl
 obtain⟨S',sm,e⟩:=Vs (c:=c) (kl:=S.length) (kr:=S.length+1) (t0:=aa (aI names)) r zU sX names.length names [] 1000 (x4:=ae) (S:=S++[.lst (names.map .str)]++[.lst []]) rfl (by omega) nd (λx hx=>hx) g1 g2 (by omega) (by simp;omega);have keep:∀j,j<S.length->S'[j]?=S[j]?:=λj hj=>by
  rw[sm.same j (by omega) (by omega),aR,aw hj]
 have hl:S.length<=S'.length:=by rw[sm.len];simp
 have tk:=Vf keep hl;cases q:topo sec names.length names [] with
 | none=>
   rw[q] at e;have w1:uU (uV c) (uo c) [aa (aI names),aa (.lst (prs.map gs)),aa (.obj S.length),aa (.obj (S.length+1)),ae] (S++[.lst (names.map .str)]++[.lst []])=_:=e;simp only[aR,eK,cH] at w1;have run:c9 5 (Fm c) [aI names,.lst (prs.map gs)] S=.ok .bY S':=by
    simp[Fm,e1,w1]
   exact zB run tk (by simp)
 | some res=>
   rw[q] at e;obtain⟨⟨tG,e⟩,g⟩:=e;have w1:uU (uV c) (uo c) [aa (aI names),aa (.lst (prs.map gs)),aa (.obj S.length),aa (.obj (S.length+1)),ae] (S++[.lst (names.map .str)]++[.lst []])=_:=e;simp only[aR,eK,cH] at w1;have run:c9 5 (Fm c) [aI names,.lst (prs.map gs)] S=.ok (.obj (S.length+1)) S':=by
    simp[Fm,e1,w1]
   exact Mx run tk (by omega) g λt ht=>by
    obtain⟨x,_,rfl⟩:=aq.mp ht;simp
end DN
namespace DN
open PySem L2 MF
variable {c:Cl}{S:bx}{ρ:Ev}
def v_(p:Pc):Bool:=decide (p.pl = "hub")&&p.on
def kj(ps:List Pc):List Str:=(ps.filter v_).map (·.nm)
def Dq(names:List Str)(p:Pc):List (Str×Str):=(p.w0.filter λo=>decide (o∈names)).map λo=>(p.nm,o)
def Dr(names:List Str)(p:Pc):List (Str×Str):=(p.w1.filter λo=>decide (o∈names)).map λo=>(o,p.nm)
def md(names:List Str)(ps:List Pc):List (Str×Str):=ps.flatMap λp=>if p.nm∈names then Dq names p++Dr names p else[]
theorem Vt{js:List Nat}{l names:List Str}{f:Str->Str×Str}{it:DI}{tc:DT}{te:DE}{st:bx->Prop}(hl:l.length<=900)
  (hi:it ρ S=.ok (l.map T.str,st) S) (hs:st S) (ht:∀o,tc (aa (.str o)::js.map λj=>(ρ[j]?).join) S=.ok (decide (o∈names)) S) (he:∀o,te (aa (.str o)::js.map λj=>(ρ[j]?).join) S=.ok (gs (f o)) S) :
  i4 1 js it (c0 0) tc te eU ρ S=.ok (.lst (((l.filter λo=>decide (o∈names)).map f).map gs)) S:=by
 have cc:=zA (ρ:=ρ) (S:=S) (js:=js) (it:=it) (tc:=tc) (te:=te) (ts:=l.map T.str) (st:=st) (p:=λt=>match t with|.str o=>decide (o∈names) | _=>false) (f:=λt=>match t with|.str o=>gs (f o) | _=>.bY) hi hs (by simp;omega)
  (λt h=>by obtain⟨o,_,rfl⟩:=aq.mp h;exact ht o) (λt h _=>by obtain⟨o,_,rfl⟩:=aq.mp h;exact he o)
 rw[cv,aU] at cc;rw[aU];exact cc
theorem Vu{names:List Str}{ps:List Pc}{a b:Str}:(a,b)∈md names ps↔∃p∈ps,p.nm∈names/\((a=p.nm/\b∈p.w0/\b∈names)\/(b=p.nm/\a∈p.w1/\a∈names)):=by
 unfold md;rw[xf];constructor
 .rintro⟨p,hp,h⟩
  by_cases hn:p.nm∈names
  .rw[if_pos hn,aH] at h
   refine⟨p,hp,hn,?_⟩;rcases h with h | h
   .obtain⟨o,ho,e⟩:=aq.mp h
    have:=bh.mp ho;cases e;exact .inl ⟨rfl,this.1,by simpa using this.2⟩
   .obtain⟨o,ho,e⟩:=aq.mp h
    have:=bh.mp ho;cases e;exact .inr ⟨rfl,this.1,by simpa using this.2⟩
  .rw[if_neg hn] at h;cases h
 .rintro⟨p,hp,hn,h⟩
  refine⟨p,hp,?_⟩;rw[if_pos hn,aH];rcases h with⟨rfl,h1,h2⟩ | ⟨rfl,h1,h2⟩
  .exact .inl (aq.mpr ⟨b,bh.mpr ⟨h1,by simpa using h2⟩,rfl⟩)
  .exact .inr (aq.mpr ⟨a,bh.mpr ⟨h1,by simpa using h2⟩,rfl⟩)
end DN
namespace DN
open PySem L2 MF
variable {c:Cl}{S:bx}{ρ:Ev}{sec:Str->List Str}{names:List Str}
def oM(p:HP):Bool:=decide (p.pl = "hub")&&p.on
theorem Vv{nN:List HP}{ps:List Pc}(h:nN.map HP.core=ps.map Pc.full):(nN.filter oM).map HP.core=(ps.filter v_).map Pc.full:=by
 have e1:(nN.filter oM).map HP.core=(nN.map HP.core).filter (λq:yL=>decide (q.2.1 = "hub")&&q.2.2.2.2.1):=by rw[cv];rfl
 have e2:(ps.filter v_).map Pc.full=(ps.map Pc.full).filter (λq:yL=>decide (q.2.1 = "hub")&&q.2.2.2.2.1):=by rw[cv];rfl
 rw[e1,e2,h]
theorem z0s{nN:List HP}{ps:List Pc}(h:nN.map HP.core=ps.map Pc.full){q:Pc}(hq:q∈ps):∃p∈nN,p.core=q.full:=by
 have:q.full∈ps.map Pc.full:=aq.mpr ⟨q,hq,rfl⟩;rw[<- h] at this;obtain⟨p,hp,e⟩:=aq.mp this;exact⟨p,hp,e⟩
theorem OX{p:HP}{q:Pc}(e:p.core=q.full):p.nm=q.nm/\p.w0=q.w0/\p.w1=q.w1:=by
 simp only[HP.core,Pc.full,Prod.mk.injEq] at e;exact⟨e.1,e.2.2.2.2.2.1,e.2.2.2.2.2.2.1⟩
theorem Zae{ps:List Pc}(nd:(ps.map (·.nm)).Nodup):∀p∈ps,∀q∈ps,p.nm=q.nm->p=q:=by
 induction ps with
 |nil=>intro p hp;cases hp
 | cons a r ih=>
   rw[aE,cF] at nd;intro p hp q hq e;rcases aF.mp hp with h1 | h1
   .rcases aF.mp hq with h2 | h2
    .rw[h1,h2]
    .exact absurd (aq.mpr ⟨q,h2,by rw[<- e,h1]⟩) nd.1
   .rcases aF.mp hq with h2 | h2
    .exact absurd (aq.mpr ⟨p,h1,by rw[e,h2]⟩) nd.1
    .exact ih nd.2 p h1 q h2 e
theorem Zaf{nN:List HP}{ps:List Pc}(h:nN.map HP.core=ps.map Pc.full)(nd:(ps.map (·.nm)).Nodup):Ge (kj ps) (oG (kj ps) (nN.filter oM)) (md (kj ps) ps):=by
 have hh:=Vv h;refine⟨λa ha b=>?_,λ⟨a,b⟩ hp=>?_⟩
 .rw[U',Vu]
  constructor
  .rintro⟨q,hq,hc⟩
   obtain⟨p,hp,e⟩:=Vp hh hq;obtain⟨e1,e2,e3⟩:=OX e;refine⟨p,(bh.mp hp).1,aq.mpr ⟨p,hp,rfl⟩,?_⟩;rw[<- e1,<- e2,<- e3];exact hc
  .rintro⟨p,hp,hn,hc⟩
   obtain⟨p2,Hk,e0⟩:=aq.mp hn;have:=Zae nd p2 (bh.mp Hk).1 p hp e0;subst this;obtain⟨q,hq,e⟩:=z0s hh Hk;obtain⟨e1,e2,e3⟩:=OX e;refine⟨q,hq,?_⟩;rw[e1,e2,e3];exact hc
 .obtain⟨p,hp,hn,hc⟩:=Vu.mp hp
  rcases hc with⟨rfl,_,h2⟩ | ⟨rfl,_,h2⟩
  .exact⟨hn,h2⟩
  .exact⟨h2,hn⟩
theorem z6j(ps:List Pc):(kj ps).length<=ps.length:=by unfold kj;rw[aN];exact c8 ..
theorem z6k{ps:List Pc}{x:Str}(h:x∈kj ps):∃p∈ps,p.nm=x:=by
 obtain⟨p,hp,e⟩:=aq.mp h;exact⟨p,(bh.mp hp).1,e⟩
structure Vw(ps:List Pc):Prop where
 nd:(ps.map (·.nm)).Nodup
 len:ps.length<=24
 w:∀p∈ps,p.w0.length+p.w1.length<=20
 sm:∀p∈ps,(cD p.nm).length<=30
theorem Vx{a b x:Str}(h:(sec x).Nodup):(oF sec a b x).Nodup:=by
 unfold oF
 split
 .rename_i e
  subst e
  split
  .exact h
  .rename_i hb
   exact b_.mpr ⟨h,by simp,λu hu v hv e=>hb (by rw[ai.mp hv] at e;exact e▸hu)⟩
 .exact h
theorem Vy{nm x:Str}:∀(os:List Str) {sec:Str->List Str},(sec x).Nodup->((os.foldl (n6 names nm) sec) x).Nodup
 |[],sec,h=>h
 |o::os,sec,h=>Vy os (by unfold n6;split;exact Vx h;exact h)
theorem Vz{nm x:Str}:∀(os:List Str) {sec:Str->List Str},(sec x).Nodup->((os.foldl (tH names nm) sec) x).Nodup
 |[],sec,h=>h
 |o::os,sec,h=>Vz os (by unfold tH;split;exact Vx h;exact h)
theorem VA{x:Str}:∀(qs:List HP) {sec:Str->List Str},(sec x).Nodup->((qs.foldl (wW names) sec) x).Nodup
 |[],sec,h=>h
 |q::qs,sec,h=>VA qs (Vz _ (Vy _ h))
theorem Zcc{nN:List HP}{ps:List Pc}(h:nN.map HP.core=ps.map Pc.full)(D:Vw ps):Jj (kj ps) (oG (kj ps) (nN.filter oM)):=by
 have hh:=Vv h;have hl:=z6j ps;have dl:=D.len;have sub:∀a b,b∈oG (kj ps) (nN.filter oM) a->b∈kj ps:=λa b hb=>by
  obtain⟨q,hq,hc⟩:=U'.mp hb;rcases hc with⟨_,_,h2⟩ | ⟨rfl,_,_⟩
  .exact h2
  .obtain⟨p,hp,e⟩:=Vp hh hq
   obtain⟨e1,_,_⟩:=OX e;exact aq.mpr ⟨p,hp,e1.symm⟩
 refine⟨⟨λa ha b hb=>sub a b hb,λa ha=>?_,by omega⟩,λx hx=>?_,by omega⟩
 .have:=tF _ _ (VA (names:=kj ps) (x:=a) (nN.filter oM) (sec:=λ_=>[]) .nil) (sub a)
  show(oG (kj ps) (nN.filter oM) a).length<=200;have:(oG (kj ps) (nN.filter oM) a).length<=(kj ps).length:=this;omega
 .obtain⟨p,hp,rfl⟩:=z6k hx
  exact D.sm p hp
theorem z6l:fD (aG "ring")=true:=by decide +kernel
theorem z6m:iR (.tup [.str "ring"]) (.tup [.str "ring"]) S=.ok (.bl true) S:=by
 have e:mv S (.tup [.str "ring"])=aa (.tuple [.str "ring"]):=by simp[mv,pd,nY]
 have t:toV (.tup [.str "ring"])=ae:=rfl;have k:bN (.tuple [.str "ring"])=true:=by
  have:=z6l;simp[bN,bR,this]
 have:=zT (.inl t) e e k k (by decide);simp[iR,this,bX,dh]
theorem fT.keep{h:Nat}{pl:List jx}{ps:List HP}{S':bx}(A:fT c S h pl ps)(hk:∀j,j<S.length->S'[j]?=S[j]?):fT c S' h pl ps:=by
 have lk:∀{i:Nat} {v:bA},S[i]?=aa v->S'[i]?=aa v:=λ{i v} e=>by
  rw[hk i (by
   by_cases z:i<S.length
   .exact z
   .rw[cO (by omega)] at e;cases e)]
  exact e
 exact⟨lk A.hall,lk A.places,lk A.pieces,λq hq=>lk (A.place q hq),λp hp=>⟨lk (A.piece p hp).o,lk (A.piece p hp).a0,lk (A.piece p hp).a1,lk (A.piece p hp).a2,lk (A.piece p hp).a3⟩,A.pO,A.pw,A.nd⟩
end DN
namespace DN
open PySem L2 MF
variable {c:Cl}{S:bx}
end DN
namespace DN
open PySem L2 MF
variable {c:Cl}{S:bx}
def rF(nd:Str->Option (List Str)):Nat->List Str->List Str->Option (Option (List Str))
 |0,_,_=>ae
 | f + 1,g,l=>match l.getLast? with
   |none=>aa (aa g)
   | some x=>if x∈g then rF nd f g l.dropLast else match nd x with
     |none=>aa ae
     |some ws=>rF nd f (g++[x]) (l.dropLast++ws)
def uC(ps:List HP)(x:Str):Option (List Str):=(ps.find? λp=>decide (p.nm=x)).map (·.w2)
section
variable {S0:bx}{h kg kl:Nat}{pl:List jx}{ps:List HP}
theorem z22{k:Nat}{l:List Str}{x:Str}(e:S[k]?=aa (.lst ((l++[x]).map .str))):ue (.obj k) [] S=.ok (.str x) (S.set k (.lst (l.map .str))):=by
 simp[ue,fL,e]
theorem OY (A0:fT c S0 h pl ps) (hg:S0.length<=kg) (hl:S0.length<=kl) (ne:kg≠kl) (Jr:ps.length<=24) (hw:∀p∈ps,p.w2.length<=10) (sm:∀x,uC ps x=ae->∀p∈ps,x∈p.w2->Sm x) {t1:Option T} :
  ∀ (f:Nat) (g l:List Str) (m:Nat) {x4 x5:Option T} {S:bx} {res:Option (List Str)},f<=m->g.Nodup->(∀x∈g,x∈ps.map (·.nm))->l.length<=1+10*g.length->(∀x∈l,uC ps x=ae->Sm x) ->
    S[kg]?=aa (.dic (cT g))->S[kl]?=aa (.lst (l.map .str))->(∀j,j<S0.length->S[j]?=S0[j]?)->rF (uC ps) f g l=aa res ->
    match res with
    |some G=>∃S' tG kS,j4 (C8 c) (zK c) m [aa (.obj h),t1,aa (.obj kg),aa (.obj kl),x4,x5] S=.ok (.nx [aa (.obj h),t1,aa (.obj kg),aa (.obj kl),tG,kS]) S'/\S'[kg]?=aa (.dic (cT G))/\(∀j,j<S0.length->S'[j]?=S0[j]?)
    |none=>∃S',j4 (C8 c) (zK c) m [aa (.obj h),t1,aa (.obj kg),aa (.obj kl),x4,x5] S=.exc c.noPiece ae S'/\(∀j,j<S0.length->S'[j]?=S0[j]?)
 |0,_,_,_,_,_,_,_,_,_,_,_,_,_,_,_,e=>by simp[rF] at e
 |f+1,g,l,0,_,_,_,_,hm,_,_,_,_,_,_,_,_=>by omega
 | f + 1, g,l,m+1,x4,x5,S,res,hm,nd,sub,ll,OZ,eg,el,kp,e=>by
   have tr:=F4 (jG el);cases hx:l.getLast? with
   | none=>
     have hn:l=[]:=qh.mp hx;subst hn;simp only[rF,hx,eP] at e;subst e;have tr:jO (.obj kl) S=.ok false S:=tr;exact⟨S,x4,x5,by simp[j4,C8,tr],eg,kp⟩
   | some x=>
     obtain⟨q,rfl⟩:=fN.mp hx;have tr:jO (.obj kl) S=.ok true S:=by rw[tr];simp
     have wt:C8 c [aa (.obj h),t1,aa (.obj kg),aa (.obj kl),x4,x5] S=.ok true S:=by simp[C8,tr]
     have ok:=lY el;have pp:=z22 el;have k1:∀j,j<S0.length->(S.set kl (.lst (q.map .str)))[j]?=S0[j]?:=λj hj=>by rw[dN (by omega)];exact kp j hj
     have g1:(S.set kl (.lst (q.map .str)))[kg]?=aa (.dic (cT g)):=by rw[dN (bZ ne)];exact eg
     have l1:(S.set kl (.lst (q.map .str)))[kl]?=aa (.lst (q.map .str)):=lK el;simp only[rF,hx,g_] at e;generalize S.set kl (.lst (q.map .str))=S1 at pp k1 g1 l1;have O0:g.length<=24:=by
      have:=tF g (ps.map (·.nm)) nd sub;simp at this;omega
     by_cases pT:x∈g
     .rw[if_pos pT] at e
      have dn:m8 (.str x) (.obj kg) S1=.ok (.bl false) S1:=by simp[m8,m6,g1,dF,wU,pT]
      have ih:=OY A0 hg hl ne Jr hw sm (t1:=t1) f g q m (x4:=aa (.str x)) (x5:=x5) (S:=S1) (by omega) nd sub (by simp at ll;omega) (λy hy=>OZ y (by simp[hy])) g1 l1 k1 e;have bd:zK c [aa (.obj h),t1,aa (.obj kg),aa (.obj kl),x4,x5] S=.ok (.nx [aa (.obj h),t1,aa (.obj kg),aa (.obj kl),aa (.str x),x5]) S1:=by
       simp[zK,ok,pp,dn]
      cases res with
      | none=>
        obtain⟨S',w1,w2⟩:=ih;exact⟨S',(Jo wt bd).trans w1,w2⟩
      | some G=>
        obtain⟨S',tG,kS,w1,w2,w3⟩:=ih;exact⟨S',tG,kS,(Jo wt bd).trans w1,w2,w3⟩
     .rw [if_neg pT] at e
      have A1:=A0.keep k1;have dn:m8 (.str x) (.obj kg) S1=.ok (.bl true) S1:=by simp[m8,m6,g1,dF,wU,pT]
      have wM:=qZ (m:=aG "find_piece") h (by simp) (by simp);cases hp:ps.find? (λp=>decide (p.nm=x)) with
      | none=>
        have hn:uC ps x=ae:=by simp[uC,hp]
        simp only[hn,eP] at e;subst e;have O2:x∉ps.map (·.nm):=λhc=>by
         obtain⟨p,h1,h2⟩:=aq.mp hc;have:=eW.mp hp p h1;simp[h2] at this
        have fp:=zn9 A1 O2 (OZ x (by simp) hn);refine⟨S1,z6i wt ?_,k1⟩;simp[zK,ok,pp,dn,A1.ins,wM,fp]
      | some p=>
        have pm:p∈ps:=dR hp;have pn:p.nm=x:=by simpa using zb hp
        have hn:uC ps x=aa p.w2:=by simp[uC,hp]
        simp only[hn] at e;have fp:=Dl A1 hp;have e1:cU (cT g) (.inr x)=ae:=by simp[wU,pT]
        have P2:=(A1.piece p pm);have pf:=A0.pO p pm;have plt:p.i+4<S0.length:=by
         have:=(A0.piece p pm).a3;exact(ao.mp this).1
        have pu:kP (cT g) (.inr x) (.bl true)=cT (g++[x]):=by rw[BR e1];simp[cT]
        have gl:(cT g).length<=900:=by simp[cT];omega
        have k2:∀j,j<S0.length->(S1.set kg (.dic (cT (g++[x]))))[j]?=S0[j]?:=λj hj=>by rw[dN (by omega)];exact k1 j hj
        have g2:(S1.set kg (.dic (cT (g++[x]))))[kg]?=aa (.dic (cT (g++[x]))):=lK g1;have l2:(S1.set kg (.dic (cT (g++[x]))))[kl]?=aa (.lst (q.map .str)):=by rw[dN ne];exact l1
        generalize uZ:S1.set kg (.dic (cT (g++[x])))=S2 at k2 g2 l2;have A2:=A0.keep k2;have Po:=rD (A2.piece p pm).o;have lk:p.fs.lookup (aG "needs")=aa (.obj (p.i+3)):=by simp[HP.fs,bS]
        have w:=hw p pm;have ex:=zC (k:=kl) (y:=.obj (p.i+3)) l2 (jG (A2.piece p pm).a2) (by simp at ll ⊢;omega);have k3:∀j,j<S0.length->(S2.set kl (.lst (q.map .str++p.w2.map .str)))[j]?=S0[j]?:=λj hj=>by rw[dN (by omega)];exact k2 j hj
        have g3:(S2.set kl (.lst (q.map .str++p.w2.map .str)))[kg]?=aa (.dic (cT (g++[x]))):=by rw[dN (bZ ne)];exact g2
        have l3:(S2.set kl (.lst (q.map .str++p.w2.map .str)))[kl]?=aa (.lst ((q++p.w2).map .str)):=by rw[lK l2];simp
        generalize S2.set kl (.lst (q.map .str++p.w2.map .str))=S3 at ex k3 g3 l3;have ih:=OY A0 hg hl ne Jr hw sm (t1:=t1) f (g++[x]) (q++p.w2) m (x4:=aa (.str x)) (x5:=aa (.obj p.i)) (S:=S3) (by omega)
         (b_.mpr ⟨nd,by simp,λa ha b hb e=>pT (by rw[ai.mp hb] at e;exact e▸ha)⟩)
         (λy hy=>by
          rcases aH.mp hy with hy | hy
          .exact sub y hy
          .rw[ai.mp hy,<- pn];exact List.mem_map_of_mem pm)
         (by simp at ll ⊢;omega) (λy hy hn=>by
          rcases aH.mp hy with hy | hy
          .exact OZ y (by simp[hy]) hn
          .exact sm y hn p pm hy) g3 l3 k3 e
        have bd:zK c [aa (.obj h),t1,aa (.obj kg),aa (.obj kl),x4,x5] S=.ok (.nx [aa (.obj h),t1,aa (.obj kg),aa (.obj kl),aa (.str x),aa (.obj p.i)]) S3:=by
         simp[zK,ok,pp,dn,A1.ins,wM,fp,dF,g1,gl,pu,uZ,Po,lk,lY l2,ex]
        cases res with
        | none=>
          obtain⟨S',w1,w2⟩:=ih;exact⟨S',(Jo wt bd).trans w1,w2⟩
        | some G=>
          obtain⟨S',tG,kS,w1,w2,w3⟩:=ih;exact⟨S',tG,kS,(Jo wt bd).trans w1,w2,w3⟩
theorem Ds{S S':bx}(h:∀j,j<S.length->S'[j]?=S[j]?):S'.take S.length=S:=by
 refine mH λj=>?_;by_cases hj:j<S.length
 .rw[d6 hj,h j hj]
 .rw[cO (by simp;omega),cO (by omega)]
theorem z6n{S S':bx}{k:Nat}{g:List Str}(hk:S.length<=k)(e:S'[k]?=aa (.dic (cT g))):fz S' S.length 6 (.obj k)=aa (.dic (cT g)):=by
 unfold fz;rw[if_neg (by simp only[HB];omega)];simp only[e];unfold cT;rw[FZ (k:=λx=>((dG x:b9),T.bl true)) λx _=>?_]
 .rfl
 .unfold fz
  rw[if_pos (by simp only[HB])];rfl
theorem z23(A:fT c S h pl ps)(Jr:ps.length<=24)(hw:∀p∈ps,p.w2.length<=10)(sm:∀x,uC ps x=ae->∀p∈ps,x∈p.w2->Sm x){nm:Str}(smn:uC ps nm=ae->Sm nm){f:Nat}(hf:f<=1000){res:Option (List Str)}(e:rF (uC ps) f [] [nm]=aa res) :
  BH c [.obj h,.str nm] S=match res with
   |some G=>.ok (.dic (cT G)) S
   |none=>.exc c.noPiece ae S:=by
 have kp:∀j,j<S.length->(S++[bA.dic []]++[.lst [.str nm]])[j]?=S[j]?:=λj hj=>by rw[aR,aw hj]
 have g0:(S++[bA.dic []]++[.lst [.str nm]])[S.length]?=aa (.dic (cT [])):=by rw[aR,yE];rfl
 have l0:(S++[bA.dic []]++[.lst [.str nm]])[S.length+1]?=aa (.lst (([nm]).map .str)):=by rw[aR,pP];rfl
 have W:=OY A (az _) (h9 _) (by omega) Jr hw sm (kg:=S.length) (kl:=S.length+1) (t1:=aa (.str nm)) f [] [nm] 1000 (x4:=ae) (x5:=ae) hf .nil (by simp) (by simp) (λx hx=>by rw[ai.mp hx];exact smn) g0 l0 kp e;have c5:(S++[bA.dic []]).length=S.length+1:=by simp
 cases res with
 | none=>
   obtain⟨S',w1,w2⟩:=W;have run:c9 6 (Ft c) [.obj h,.str nm] S=.exc c.noPiece ae S':=by
    simp[Ft,uU] at w1 ⊢;simp[w1]
   exact z53 run (Ds w2)
 | some G=>
   obtain⟨S',x4,x5,w1,w2,w3⟩:=W;have run:c9 6 (Ft c) [.obj h,.str nm] S=.ok (.obj S.length) S':=by
    simp[Ft,uU] at w1 ⊢;simp[w1]
   unfold BH iU;rw[run];simp only[if_pos (Ds w3),z6n (az _) w2]
end
end DN
namespace DN
open PySem L2 MF
section
variable {nd:Str->Option (List Str)}{C:Str->Prop}{x:Str}
def yN(nd:Str->Option (List Str))(C:Str->Prop):Prop:=∀y,C y->∃ws,nd y=aa ws/\∀z∈ws,C z
theorem Js(hC:yN nd C):∀(f:Nat) (g l:List Str) {res:Option (List Str)},(∀y∈g,C y)->(∀y∈l,C y)->rF nd f g l=aa res->∃G,res=aa G/\∀y∈G,C y
 |0,g,l,res,_,_,e=>by simp[rF] at e
 | f + 1,g,l,res,hg,hl,e=>by
   unfold rF at e;cases hx:l.getLast? with
   | none=>
     simp only[hx,eP] at e;exact⟨g,e.symm,hg⟩
   | some x=>
     obtain⟨q,rfl⟩:=fN.mp hx;simp only[hx,g_] at e;have cx:=hl x (by simp);have hq:∀y∈q,C y:=λy hy=>hl y (by simp[hy]);by_cases pT:x∈g
     .rw[if_pos pT] at e
      exact Js hC f g q hg hq e
     .rw[if_neg pT] at e
      obtain⟨ws,e1,e2⟩:=hC x cx;simp only[e1] at e;refine Js hC f (g++[x]) (q++ws) (λy hy=>?_) (λy hy=>?_) e
      .rcases aH.mp hy with hy | hy
       .exact hg y hy
       .rw[ai.mp hy];exact cx
      .rcases aH.mp hy with hy | hy
       .exact hq y hy
       .exact e2 y hy
theorem O3:∀(f:Nat) (g l:List Str) {G:List Str},(∀y∈g,∃ws,nd y=aa ws/\∀z∈ws,z∈g\/z∈l)->rF nd f g l=aa (aa G)->(∀y∈g,y∈G)/\(∀y∈l,y∈G)/\∀y∈G,∃ws,nd y=aa ws/\∀z∈ws,z∈G
 |0,g,l,G,_,e=>by simp[rF] at e
 | f + 1, g,l,G,h,e=>by
   unfold rF at e;cases hx:l.getLast? with
   | none=>
     simp only[hx,eP] at e;subst e;have hn:l=[]:=qh.mp hx;subst hn;refine⟨λy hy=>hy,λy hy=>absurd hy bK,λy hy=>?_⟩;obtain⟨ws,e1,e2⟩:=h y hy;exact⟨ws,e1,λz hz=>(e2 z hz).elim id λq=>absurd q bK⟩
   | some x=>
     obtain⟨q,rfl⟩:=fN.mp hx;simp only[hx,g_] at e;by_cases pT:x∈g
     .rw[if_pos pT] at e
      obtain⟨k1,k2,k3⟩:=O3 f g q (λy hy=>by
       obtain⟨ws,e1,e2⟩:=h y hy;refine⟨ws,e1,λz hz=>?_⟩;rcases e2 z hz with q1 | q1
       .exact .inl q1
       .rcases aH.mp q1 with q1 | q1
        .exact .inr q1
        .rw[ai.mp q1];exact .inl pT) e
      refine⟨k1,λy hy=>?_,k3⟩;rcases aH.mp hy with hy | hy
      .exact k2 y hy
      .rw[ai.mp hy];exact k1 x pT
     .rw [if_neg pT] at e
      cases e1:nd x with
      |none=>simp[e1] at e
      | some ws=>
        simp only[e1] at e;obtain⟨k1,k2,k3⟩:=O3 f (g++[x]) (q++ws) (λy hy=>by
         rcases aH.mp hy with hy | hy
         .obtain⟨us,e2,e3⟩:=h y hy
          refine⟨us,e2,λz hz=>?_⟩;rcases e3 z hz with q1 | q1
          .exact .inl (by simp[q1])
          .rcases aH.mp q1 with q1 | q1
           .exact .inr (by simp[q1])
           .exact .inl (by simp at q1;simp[q1])
         .rw[ai.mp hy]
          exact⟨ws,e1,λz hz=>.inr (by simp[hz])⟩) e
        refine⟨λy hy=>k1 y (by simp[hy]),λy hy=>?_,k3⟩;rcases aH.mp hy with hy | hy
        .exact k2 y (by simp[hy])
        .rw[ai.mp hy];exact k1 x (by simp)
def VB(nd:Str->Option (List Str)):List Str->Option (List Str)
 |[]=>aa []
 | x::xs=>match nd x with
   |none=>ae
   |some ws=>(VB nd xs).map (ws++·)
def t6(nd:Str->Option (List Str)):Nat->List Str->Option (List Str)
 |0,found=>aa found
 | k+1,found=>match VB nd found with
   |none=>ae
   |some more=>t6 nd k (Tr (Bu (found++more)))
end
end DN
namespace DN
open PySem L2 MF
section
variable {nd:Str->Option (List Str)}{N:List Str}
theorem O4 (hN:∀y ws,nd y=aa ws->y∈N/\ws.length<=10):∀(f:Nat) (g l:List Str),g.Nodup->(∀y∈g,y∈N)->l.length+11*(N.length-g.length)+1<=f->∃res,rF nd f g l=aa res
 |0,g,l,_,_,h=>by omega
 | f + 1,g,l,ng,hg,h=>by
   unfold rF;cases hx:l.getLast? with
   |none=>exact⟨_,rfl⟩
   | some x=>
     obtain⟨q,rfl⟩:=fN.mp hx;simp only[g_];simp only[aB,aV] at h;by_cases pT:x∈g
     .rw[if_pos pT]
      exact O4 hN f g q ng hg (by omega)
     .rw [if_neg pT]
      cases e:nd x with
      |none=>exact⟨_,rfl⟩
      | some ws=>
        obtain⟨h1,h2⟩:=hN x ws e;have lt:=tF (x::g) N (cF.mpr ⟨pT,ng⟩) λy hy=>by
         rcases aF.mp hy with rfl | hy
         .exact h1
         .exact hg y hy
        simp only[aL] at lt;refine O4 hN f (g++[x]) (q++ws) (b_.mpr ⟨ng,by simp,λa ha b hb e=>pT (by rw[ai.mp hb] at e;exact e▸ha)⟩) (λy hy=>?_) (by simp;omega);rcases aH.mp hy with hy | hy
        .exact hg y hy
        .rw[ai.mp hy];exact h1
end
end DN
namespace DN
open PySem L2 MF
variable {c:Cl}{S:bx}
theorem gH{f g:DS}{ρ r:Ev}{S S1:bx}(h:f ρ S=.ok (.nx r) S1):ba f g ρ S=g r S1:=by rw[SI,eL,h]
theorem O5{f g:DS}{ρ:Ev}{t:T}{S S1:bx}(h:f ρ S=.ok (.rt t) S1):ba f g ρ S=.ok (.rt t) S1:=by rw[SI,eL,h];rfl
theorem sF{it:DI}{g:DG}{body:DS}{ts:List T}{st:bx->Prop}{ρ:Ev}{S S1:bx}(ou:it ρ S=.ok (ts,st) S1):dA it g body ρ S=dz st g body ts ρ S1:=by
 unfold dA;rw[eL,ou]
end DN
namespace DN
open PySem L2 MF
variable {c:Cl}{S:bx}{sec:Str->List Str}{names:List Str}
theorem BZ{n:Nat}{d:DS}{ts:List T}{t:T}{S S':bx}{ρ:Ev}(hρ:ts.map aa++aT (n-ts.length) ae=ρ)(h:d ρ S=.ok (.rt t) S'):c9 n d ts S=.ok t S':=by subst hρ;rw[SJ,h]
theorem z6p{a:DE}{r:DA}{ρ:Ev}{t:T}{ts:List T}{S S1 S2:bx}(h1:a ρ S=.ok t S1)(h2:r ρ S1=.ok ts S2):a_ a r ρ S=.ok (t::ts) S2:=by
 rw[Mt,eL,h1];show(r ρ).bind _ S1=_;rw[eL,h2];rfl
theorem Jt{f:DE}{ρ:Ev}{t:T}{S S1:bx}(h:f ρ S=.ok t S1):cW f ρ S=.ok (.rt t) S1:=by rw[Zbv,eL,h];rfl
theorem zV{f:DE}{ρ:Ev}{i:Nat}{t:T}{S S1:bx}(h:f ρ S=.ok t S1):bV i f ρ S=.ok (.nx (ρ.set i (aa t))) S1:=by rw[Zbw,eL,h];rfl
end DN
namespace DN
open PySem L2 MF
variable {c:Cl}{S:bx}
end DN
namespace DN
open PySem L2 MF
variable {c:Cl}{S:bx}
theorem O6{t:T}{ts:List T}{ds:List jo}(h:cI S t=aa ts)(e:nY ts=aa ds):mv S t=aa (.list ds):=by
 cases t with
 |lst us=>cases h;simp[mv,pd,e]
 | obj k=>
   unfold cI at h;cases q:S[k]? with
   |none=>simp[q] at h
   | some v=>
     cases v with
     |lst us=>simp[q] at h;subst h;simp[mv,q,e]
     |_=>simp[q] at h
 |_=>cases h
end DN
namespace DN
open PySem L2 MF
variable {c:Cl}{S:bx}
end DN
namespace DN
open PySem L2 MF
variable {c:Cl}{S:bx}
theorem fT.but{S':bx}{h:Nat}{pl:List jx}{ps:List HP}(A:fT c S h pl ps)(f:∀j,(j=h\/j=h+1\/j=h+2\/(∃q∈pl,j=q.i)\/∃p∈ps,p.i<=j/\j<p.i+5)->S'[j]?=S[j]?):fT c S' h pl ps:=
 ⟨by rw[f _ (.inl rfl)];exact A.hall,by rw[f _ (.inr (.inl rfl))];exact A.places,by rw[f _ (.inr (.inr (.inl rfl)))];exact A.pieces,λq hq=>by rw[f _ (.inr (.inr (.inr (.inl ⟨q,hq,rfl⟩))))];exact A.place q hq,
  λp hp=>by
   have k:∀i,i<5->S'[p.i+i]?=S[p.i+i]?:=λi hi=>f _ (.inr (.inr (.inr (.inr ⟨p,hp,by omega,by omega⟩))));have P:=A.piece p hp;exact⟨(k 0 (by omega)).trans P.o,(k 1 (by omega)).trans P.a0,(k 2 (by omega)).trans P.a1,(k 3 (by omega)).trans P.a2,(k 4 (by omega)).trans P.a3⟩,A.pO,A.pw,A.nd⟩
variable {k h r n:Nat}{kind:Str}{nN:List HP}{ps:List Pc}{x:Rn}
end DN
namespace DN
open PySem L2 MF
variable {c:Cl}{S:bx}{k h r n:Nat}{kind:Str}{nN:List HP}{ps:List Pc}{x:Rn}
theorem VC{α:Type}{l:List α}{j:Nat}(h:j<l.length):∃A q B,l=A++q::B/\A.length=j:=by
 refine⟨l.take j,l[j],l.drop (j+1),?_,by simp;omega⟩;rw[<- i7 h,List.take_append_drop]
theorem Gg{t:DT}{a b:DS}{ρ:Ev}{S1:bx}(h:t ρ S=.ok true S1):gp t a b ρ S=a ρ S1:=by unfold gp;rw[eL,h];rfl
theorem Gh{t:DT}{a b:DS}{ρ:Ev}{S1:bx}(h:t ρ S=.ok false S1):gp t a b ρ S=b ρ S1:=by unfold gp;rw[eL,h];rfl
theorem z6q{m:Nat}{d:DS}{ts:List T}{S':bx}{ρ r:Ev}(hρ:ts.map aa++aT (m-ts.length) ae=ρ)(h:d ρ S=.ok (.nx r) S'):c9 m d ts S=.ok .bY S':=by subst hρ;rw[SJ,h]
end DN
namespace DN
open PySem L2 MF
variable {c:Cl}{S:bx}
theorem z6r{h:Nat}{pl:List jx}{ps:List HP}(A:fT c S h pl ps){p:HP}(hp:p∈ps){t0 t1 t2 t3:T}{l0 l1 l2 l3:List Str}
  (e:∀S',(∀k,(k<p.i\/p.i+5<=k)->S'[k]?=S[k]?)->tD c [t0] S'=.ok (aI l0) S'/\tD c [t1] S'=.ok (aI l1) S'/\tD c [t2] S'=.ok (aI l2) S'/\tD c [t3] S'=.ok (aI l3) S')
  (b0:p.w0.length+l0.length<=1000) (b1:p.w1.length+l1.length<=1000) (b2:p.w2.length+l2.length<=1000) (b3:p.w3.length+l3.length<=1000) :
  ∃S',CU c [.obj h,.str p.nm,t0,t1,t2,t3] S=.ok .bY S'/\fT c S' h pl (ps.map λq=>if q.nm=p.nm then yG p l0 l1 l2 l3 else q)/\S'.length=S.length/\∀k,(k<p.i\/p.i+5<=k)->S'[k]?=S[k]?:=by
 have P0:=A.piece p hp;have P1:=P0.w0 (p.w0++l0);have P2:=P1.w1 (p.w1++l1);have P3:=P2.w2 (p.w2++l2);have P4:=P3.w3 (p.w3++l3);have hm:=qZ (m:=aG "find_piece") h (by simp) (by simp);have ef:=Dl A (BQ A.nd hp);have x0:=FU P0.a0 b0;have x1:=FU P1.a1 b1;have x2:=FU P2.a2 b2;have x3:=FU P3.a3 b3;have i0:=rD P0.o;have i1:=rD P1.o;have i2:=rD P2.o;have i3:=rD P3.o;have k0:=lY P0.a0;have k1:=lY P1.a1;have k2:=lY P2.a2;have k3:=lY P3.a3;have q1:({ p with w0:=p.w0++l0 }:HP).fs=p.fs:=rfl;have q2:({ p with w0:=p.w0++l0,w1:=p.w1++l1 }:HP).fs=p.fs:=rfl;have q3:({ p with w0:=p.w0++l0,w1:=p.w1++l1,w2:=p.w2++l2 }:HP).fs=p.fs:=rfl;simp only at x0 x1 x2 x3 i0 i1 i2 i3 k0 k1 k2 k3;rw[q1] at i1;rw[q2] at i2;rw[q3] at i3;have VD:∀k,(k<p.i\/p.i+5<=k)->((((S.set (p.i+1) (.lst ((p.w0++l0).map .str))).set (p.i+2) (.lst ((p.w1++l1).map .str))).set (p.i+3) (.lst ((p.w2++l2).map .str))).set (p.i+4) (.lst ((p.w3++l3).map .str)))[k]?=S[k]?:=λk hk=>by
  rw[dN (by omega),dN (by omega),dN (by omega),dN (by omega)]
 have e0:=(e S λ_ _=>rfl).1;have e1:=(e (S.set (p.i+1) (.lst ((p.w0++l0).map .str))) λk hk=>by rw[dN (by omega)]).2.1;have e2:=(e ((S.set (p.i+1) (.lst ((p.w0++l0).map .str))).set (p.i+2) (.lst ((p.w1++l1).map .str))) λk hk=>by rw[dN (by omega),dN (by omega)]).2.2.1;have e3:=(e (((S.set (p.i+1) (.lst ((p.w0++l0).map .str))).set (p.i+2) (.lst ((p.w1++l1).map .str))).set (p.i+3) (.lst ((p.w2++l2).map .str))) λk hk=>by rw[dN (by omega),dN (by omega),dN (by omega)]).2.2.2;refine⟨_,?_,A.block hp (p':=yG p l0 l1 l2 l3) rfl rfl VD P4,by simp,VD⟩;clear e;generalize FY:S.set (p.i+1) (.lst ((p.w0++l0).map .str))=S1 at *;generalize uZ:S1.set (p.i+2) (.lst ((p.w1++l1).map .str))=S2 at *;generalize Dt:S2.set (p.i+3) (.lst ((p.w2++l2).map .str))=S3 at *;generalize Gi:S3.set (p.i+4) (.lst ((p.w3++l3).map .str))=S4 at *;simp[CU,TM,A.ins,hm,ef,i0,i1,i2,i3,Up,Uq,Ur,Us,k0,k1,k2,k3,e0,e1,e2,e3,x0,x1,x2,x3]
def tI(S:bx)(n0:Nat)(a:T)(l:List Str):Prop:=(a=.bY/\l=[])\/∃m,a=.obj m/\n0<=m/\S[m]?=aa (.lst (l.map .str))
theorem tI.keep{S S':bx}{n0:Nat}{a:T}{l:List Str}(h:tI S n0 a l)(f:∀i,n0<=i->i<S.length->S'[i]?=S[i]?):tI S' n0 a l:=by
 rcases h with h | ⟨m,e,hm,hs⟩
 .exact .inl h
 .exact .inr ⟨m,e,hm,(f m hm (ao.mp hs).1).trans hs⟩
theorem tI.pU{n0:Nat}{a:T}{l:List Str}(h:tI S n0 a l):tD c [a] S=.ok (aI l) S:=by
 rcases h with⟨rfl,rfl⟩ | ⟨m,rfl,_,hs⟩
 .exact zsk
 .simp[tD,M0,qo,ud,aI,tq,tj,ju,cI,hs]
theorem Ju{h kh j kq:Nat}{nm:Str}{cell many d:Int}{hs:List T}{w:List Str}{x6:Option T}{ts:List T}
  (hd:jt [T.int 1,.int 11,.int 131,.int 1709] (j:Int)=aa (.int d)) (d0:0<d/\d<1073741824) (hm:0<many+1) (O7:jt ts (1+(j:Int))=aa (.obj kq))
  (hk:S[kh]?=aa (.lst hs)) (hq:S[kq]?=aa (.lst (w.map .str))) (ne:kq≠kh) (hl:hs.length<1000) (hw:w.length<=900) (v9:∀x∈sA (cell / d) (many+1),lW x) :
  ∃ S' a,CV c [aa (.obj h),aa (.lst ts),aa (.int cell),aa (.int many),aa (.obj kh),aa (.int j),x6] S=.ok (.nx [aa (.obj h),aa (.lst ts),aa (.int cell),aa (.int many),aa (.obj kh),aa (.int j),aa (aI (sA (cell / d) (many+1)))]) S' /\
    S'[kh]?=aa (.lst (hs++[a]))/\tI S' S.length a (sA (cell / d) (many+1))/\S'[kq]?=aa (.lst ((w++sA (cell / d) (many+1)).map .str))/\(∀i,i≠kh->i≠kq->i<S.length->S'[i]?=S[i]?)/\S.length<=S'.length:=by
 have es:=z9y (c:=c) (S:=S) (cell / d) (many+1) hm;have uO:(sA (cell / d) (many+1)).length<=2:=by
  unfold sA
  split
  .simp
  .split<;>simp
 generalize sA (cell / d) (many+1)=l at *;have ex:=FU hq (l:=l) (by omega);have k1:=lY hq;have lk:kh<S.length:=(ao.mp hk).1;have lq:kq<S.length:=(ao.mp hq).1;have yH:(S.set kq (.lst ((w++l).map .str)))[kh]?=aa (.lst hs):=by rw[dN ne];exact hk
 have VE:(S.set kq (.lst ((w++l).map .str)))[kq]?=aa (.lst ((w++l).map .str)):=lK hq;have el:iR (aI l) (.lst []) (S.set kq (.lst ((w++l).map .str)))=.ok (.bl (decide (l=[]))) (S.set kq (.lst ((w++l).map .str))):=Vr (l:=l) (m:=[]) rfl rfl v9 (λz hz=>nomatch hz);by_cases hc:l=[]/\cell / 5%2=1
 .have ap:=xU (y:=.bY) yH hl
  have zW:=lY yH;rw[decide_eq_true hc.1] at el;refine⟨_,.bY,?_,lK yH,.inl ⟨rfl,hc.1⟩,?_,λi h1 h2 h3=>?_,by simp⟩
  .generalize S.set kq (.lst ((w++l).map .str))=S1 at *
   generalize aI l=L at *;simp[CV,hd,d0,es,O7,k1,ex,el,hc.2,zW,ap]
  .rw[dN ne.symm];exact VE
  .rw[dN h1.symm,dN h2.symm]
 .have ro:(S.set kq (.lst ((w++l).map .str))++[bA.lst (l.map .str)])[kh]?=aa (.lst hs):=k8 yH
  have ap:=xU (y:=.obj (S.set kq (.lst ((w++l).map .str))).length) ro hl;have zW:=lY ro;have VF:=lY yH;have gl:uP (aI l) (S.set kq (.lst ((w++l).map .str)))=.ok (.obj (S.set kq (.lst ((w++l).map .str))).length) (S.set kq (.lst ((w++l).map .str))++[.lst (l.map .str)]):=rfl;have sl:(S.set kq (.lst ((w++l).map .str))).length=S.length:=by simp
  rw[sl] at ap gl;refine⟨_,.obj S.length,?_,lK ro,.inr ⟨_,rfl,az _,?_⟩,?_,λi h1 h2 h3=>?_,?_⟩
  rotate_left
  .rw[dN (by omega)];simp
  .rw[dN ne.symm];exact k8 VE
  .rw[dN h1.symm,aw (by simpa using h3),dN h2.symm]
  .simp
  .have zS:(decide (l=[])=true/\cell / 5%2=1)=False:=by simpa using hc
   have GR:decide (l=[])=true->¬cell / 5%2=1:=λa b=>hc ⟨of_decide_eq_true a,b⟩;generalize decide (l=[])=B at *;generalize S.set kq (.lst ((w++l).map .str))=S1 at *;generalize aI l=L at *;cases B with
   | true=>
     have:=GR rfl;simp[CV,hd,d0,es,O7,k1,ex,el,this,VF,zW,gl,ap]
   |false=>simp[CV,hd,d0,es,O7,k1,ex,el,VF,zW,gl,ap]
end DN
namespace DN
open PySem L2 MF
variable {c:Cl}{S:bx}
theorem O8{n0:Nat}{st:bx->Prop}{e0 e1 e2 e3 e4 e5:Option T}:∀(as:List T) {x6:Option T} {S:bx},(∀S',(∀i,i<n0->S'[i]?=S[i]?)->st S')->(∀a∈as,a=.bY\/∃m us,a=.obj m/\n0<=m/\S[m]?=aa (.lst us)) ->
  ∃S' oJ,dz st (c0 6) (zH c) as [e0,e1,e2,e3,e4,e5,x6] S=.ok (.nx [e0,e1,e2,e3,e4,e5,oJ]) S'/\(∀i,i<n0->S'[i]?=S[i]?)/\S'.length=S.length
 |[],x6,S,dI,_=>⟨S,x6,by unfold dz;rw[if_pos (dI S λ_ _=>rfl)],λ_ _=>rfl,rfl⟩
 | a :: as,x6,S,dI,h=>by
   have hs:=dI S λ_ _=>rfl;rcases h a (ay ..) with rfl | ⟨m,us,rfl,hm,e⟩
   .obtain⟨S',oJ,L,k1,k2⟩:=O8 as (x6:=aa .bY) (S:=S) dI λb hb=>h b (au _ hb)
    refine⟨S',oJ,?_,k1,k2⟩;unfold dz;rw[if_pos hs];have hb:zH c [e0,e1,e2,e3,e4,e5,aa .bY] S=.ok (.nx [e0,e1,e2,e3,e4,e5,aa .bY]) S:=by simp[zH,ti,ud]
    show(M.bind (zH c [e0,e1,e2,e3,e4,e5,aa .bY]) _) S=_;rw[eL,hb];exact L
   .have hn:∀i,i<n0->(S.set m (.lst []))[i]?=S[i]?:=λi hi=>dN (by omega)
    obtain⟨S',oJ,L,k1,k2⟩:=O8 as (x6:=aa (.obj m)) (S:=S.set m (.lst [])) (λS' f=>dI S' λi hi=>(f i hi).trans (hn i hi)) λb hb=>by
     rcases h b (au _ hb) with rfl | ⟨m',us',rfl,qj,e'⟩
     .exact .inl rfl
     .by_cases VG:m=m'
      .subst VG
       exact .inr ⟨_,_,rfl,qj,lK e⟩
      .exact .inr ⟨_,us',rfl,qj,by rw[dN VG];exact e'⟩
    refine⟨S',oJ,?_,λi hi=>(k1 i hi).trans (hn i hi),by rw[k2];simp⟩;unfold dz;rw[if_pos hs];have hb:zH c [e0,e1,e2,e3,e4,e5,aa (.obj m)] S=.ok (.nx [e0,e1,e2,e3,e4,e5,aa (.obj m)]) (S.set m (.lst [])):=by simp[zH,ti,ud,lY e,zx,fL,e]
    show(M.bind (zH c [e0,e1,e2,e3,e4,e5,aa (.obj m)]) _) S=_;rw[eL,hb];exact L
structure Q where
 p:HP
 k:Nat
def Q.t(q:Q):T:=.lst [.str q.p.nm,.obj q.k,.obj (q.k+1),.obj (q.k+2),.obj (q.k+3)]
structure u0(S:bx)(q:Q):Prop where
 a0:S[q.k]?=aa (.lst (q.p.w0.map .str))
 a1:S[q.k+1]?=aa (.lst (q.p.w1.map .str))
 a2:S[q.k+2]?=aa (.lst (q.p.w2.map .str))
 a3:S[q.k+3]?=aa (.lst (q.p.w3.map .str))
theorem u0.but{S':bx}{q:Q}(r:u0 S q)(f:∀j,q.k<=j->j<q.k+4->S'[j]?=S[j]?):u0 S' q:=
 ⟨(f _ (by omega) (by omega)).trans r.a0,(f _ (by omega) (by omega)).trans r.a1,(f _ (by omega) (by omega)).trans r.a2,(f _ (by omega) (by omega)).trans r.a3⟩
theorem u0.lt{q:Q}(r:u0 S q):q.k+3<S.length:=(ao.mp r.a3).1
def lL(h:Nat):List jx:=[⟨"hub", "all", "hold",h+3⟩]
structure mC(c:Cl)(S:bx)(h kr:Nat)(qs:List Q):Prop where
 hall:fT c S h (lL h) (qs.map (·.p))
 cell:S[kr]?=aa (.lst (qs.map Q.t))
 lo:kr=h+4
 row:∀q∈qs,u0 S q
 sep:∀q∈qs,kr<q.p.i/\q.p.i+5<=q.k
 pw:qs.Pairwise λa b=>a.k+4<=b.p.i
def Q.told(q:Q)(l0 l1 l2 l3:List Str):Q:=⟨yG q.p l0 l1 l2 l3,q.k⟩
theorem mC.apart{h kr:Nat}{A B:List Q}{q:Q}(F:mC c S h kr (A++q::B)){x:Q}(hx:x∈A++q::B):x=q\/x.k+4<=q.p.i\/q.k+4<=x.p.i:=by
 have pw:=F.pw;rw[dX,iP] at pw;rcases aH.mp hx with h | h
 .exact .inr (.inl (pw.2.2 x h q (ay ..)))
 .rcases aF.mp h with rfl | h
  .exact .inl rfl
  .exact .inr (.inr (pw.2.1.1 x h))
theorem mC.turn{S':bx}{h kr:Nat}{A B:List Q}{q:Q}{l0 l1 l2 l3:List Str}(F:mC c S h kr (A++q::B))(H:fT c S' h (lL h) ((A++q.told l0 l1 l2 l3::B).map (·.p)))(R:u0 S' (q.told l0 l1 l2 l3))
  (f:∀j,j<S.length->(j<q.p.i\/q.p.i+5<=j)->(j<q.k\/q.k+4<=j)->S'[j]?=S[j]?):mC c S' h kr (A++q.told l0 l1 l2 l3::B):=by
 have sq:=F.sep q (by simp);have lk:kr<S.length:=(ao.mp F.cell).1;have em:(A++q.told l0 l1 l2 l3::B).map Q.t=(A++q::B).map Q.t:=by simp[Q.t,Q.told,yG]
 have mem:∀x∈A++q.told l0 l1 l2 l3::B,x=q.told l0 l1 l2 l3\/x∈A++q::B:=λx hx=>by
  rcases aH.mp hx with h | h
  .exact .inr (bw _ h)
  .rcases aF.mp h with rfl | h
   .exact .inl rfl
   .exact .inr (bp _ (au _ h))
 refine⟨H,?_,F.lo,λx hx=>?_,λx hx=>?_,?_⟩
 .rw[f kr lk (.inl sq.1) (.inl (by omega)),em];exact F.cell
 .rcases mem x hx with rfl | hx
  .exact R
  .by_cases O9:x=q
   .subst O9
    rcases aH.mp ‹x∈A++x.told l0 l1 l2 l3::B› with h | h
    .have:=F.pw
     rw[dX] at this;have:=this.2.2 x h x (ay ..);omega
    .rcases aF.mp h with e | h
     .rw[e];exact R
     .have:=F.pw
      rw[dX,iP] at this;have:=this.2.1.1 x h;omega
   .have rx:=F.row x hx
    have sx:=F.sep x hx;have lx:=rx.lt;refine rx.but λj h1 h2=>f j (by omega) ?_ ?_
    .rcases F.apart hx with e | e | e
     .exact absurd e O9
     .omega
     .omega
    .rcases F.apart hx with e | e | e
     .exact absurd e O9
     .omega
     .omega
 .rcases mem x hx with rfl | hx
  .exact sq
  .exact F.sep x hx
 .have:=F.pw
  rw[dX,iP] at this ⊢;exact⟨this.1,⟨this.2.1.1,this.2.1.2⟩,λa ha b hb=>by
   rcases aF.mp hb with rfl | hb
   .exact this.2.2 a ha q (ay ..)
   .exact this.2.2 a ha b (au _ hb)⟩
end DN
namespace DN
open PySem L2 MF
variable {c:Cl}{S:bx}
theorem wa{st:bx->Prop}{g:DG}{body:DS}{t:T}{ts:List T}{ρ ρ1 ρ2:Ev}{S S1:bx}(hs:st S)(hg:g t ρ=aa ρ1)(hb:body ρ1 S=.ok (.nx ρ2) S1):dz st g body (t::ts) ρ S=dz st g body ts ρ2 S1:=by
 rw[dz];simp only[if_pos hs,hg,eL,hb]
theorem zX{st:bx->Prop}{g:DG}{body:DS}{ρ:Ev}{S:bx}(hs:st S):dz st g body [] ρ S=.ok (.nx ρ) S:=by
 unfold dz;rw[if_pos hs]
abbrev wl(cell many d:Int):List Str:=sA (cell / d) (many+1)
theorem Zcd:ot 0 4=[.int ((0:Nat):Int),.int ((1:Nat):Int),.int ((2:Nat):Int),.int ((3:Nat):Int)]:=rfl
theorem z0v{h:Nat}{q:Q}{cell many:Int}(hm:0<many+1)(R:u0 S q)(v9:∀d x,x∈wl cell many d->lW x)(hw:q.p.w0.length<=900/\q.p.w1.length<=900/\q.p.w2.length<=900/\q.p.w3.length<=900) :
  ∃ S' a0 a1 a2 a3 x5 x6,dA (tz (a_ (eC (.int 4)) aJ)) (c0 5) (CV c) [aa (.obj h),aa q.t,aa (.int cell),aa (.int many),aa (.obj S.length),ae,ae] (S++[.lst []])=.ok (.nx [aa (.obj h),aa q.t,aa (.int cell),aa (.int many),aa (.obj S.length),x5,x6]) S' /\
    S'[S.length]?=aa (.lst [a0,a1,a2,a3])/\tI S' (S.length+1) a0 (wl cell many 1)/\tI S' (S.length+1) a1 (wl cell many 11)/\tI S' (S.length+1) a2 (wl cell many 131)/\tI S' (S.length+1) a3 (wl cell many 1709) /\
    u0 S' (q.told (wl cell many 1) (wl cell many 11) (wl cell many 131) (wl cell many 1709))/\(∀j,j<S.length->(j<q.k\/q.k+4<=j)->S'[j]?=S[j]?)/\S.length<S'.length:=by
 have lr:=R.lt;obtain⟨q0,q1,q2,q3⟩:=hw;have z0:(S++[bA.lst []])[S.length]?=aa (.lst []):=by simp
 have R0:u0 (S++[.lst []]) q:=R.but λj _ _=>aw (by omega);have ea:jt [T.str q.p.nm,.obj q.k,.obj (q.k+1),.obj (q.k+2),.obj (q.k+3)] (1+((0:Nat):Int))=aa (.obj q.k):=by simp
 have eb:jt [T.str q.p.nm,.obj q.k,.obj (q.k+1),.obj (q.k+2),.obj (q.k+3)] (1+((1:Nat):Int))=aa (.obj (q.k+1)):=Zbz ..;have ec:jt [T.str q.p.nm,.obj q.k,.obj (q.k+1),.obj (q.k+2),.obj (q.k+3)] (1+((2:Nat):Int))=aa (.obj (q.k+2)):=Zb0 ..;have ed:jt [T.str q.p.nm,.obj q.k,.obj (q.k+1),.obj (q.k+2),.obj (q.k+3)] (1+((3:Nat):Int))=aa (.obj (q.k+3)):=Zb1 ..;obtain⟨S1,a0,b1,g1,n1,r1,f1,l1⟩:=Ju (c:=c) (S:=S++[.lst []]) (h:=h) (kh:=S.length) (j:=0) (kq:=q.k) (nm:=q.p.nm) (cell:=cell) (many:=many) (d:=1) (hs:=[]) (w:=q.p.w0) (x6:=ae) (by simp) (by decide) hm ea z0 R0.a0 (by omega) (by simp) q0 (λx hx=>v9 1 x hx);have R1:∀j,j<4->j≠0->S1[q.k+j]?=(S++[bA.lst []])[q.k+j]?:=λj h1 h2=>f1 _ (by omega) (by omega) (by simp;omega);obtain⟨S2,a1,b2,g2,n2,r2,f2,l2⟩:=Ju (c:=c) (S:=S1) (h:=h) (kh:=S.length) (j:=1) (kq:=q.k+1) (nm:=q.p.nm) (cell:=cell) (many:=many) (d:=11) (hs:=[]++[a0]) (w:=q.p.w1) (x6:=aa (aI (wl cell many 1))) (by simp) (by decide) hm eb g1 ((R1 1 (by omega) (by omega)).trans R0.a1) (by omega) (by simp) q1 (λx hx=>v9 11 x hx);have Jd:S.length+1<=S1.length:=by simpa using l1
 have R2:∀j,j<4->j≠0->j≠1->S2[q.k+j]?=(S++[bA.lst []])[q.k+j]?:=λj h1 h2 h3=>(f2 _ (by omega) (by omega) (by omega)).trans (R1 j h1 h2);obtain⟨S3,a2,b3,g3,n3,r3,f3,l3⟩:=Ju (c:=c) (S:=S2) (h:=h) (kh:=S.length) (j:=2) (kq:=q.k+2) (nm:=q.p.nm) (cell:=cell) (many:=many) (d:=131) (hs:=[]++[a0]++[a1]) (w:=q.p.w2) (x6:=aa (aI (wl cell many 11))) (by simp) (by decide) hm ec g2 ((R2 2 (by omega) (by omega) (by omega)).trans R0.a2) (by omega) (by simp) q2 (λx hx=>v9 131 x hx);have R3:S3[q.k+3]?=(S++[bA.lst []])[q.k+3]?:=(f3 _ (by omega) (by omega) (by omega)).trans (R2 3 (by omega) (by omega) (by omega));obtain⟨S4,a3,b4,g4,n4,r4,f4,l4⟩:=Ju (c:=c) (S:=S3) (h:=h) (kh:=S.length) (j:=3) (kq:=q.k+3) (nm:=q.p.nm) (cell:=cell) (many:=many) (d:=1709) (hs:=[]++[a0]++[a1]++[a2]) (w:=q.p.w3) (x6:=aa (aI (wl cell many 131))) (by simp) (by decide) hm ed g3 (R3.trans R0.a3) (by omega) (by simp) q3 (λx hx=>v9 1709 x hx);have w1:=n1.keep (S':=S1) (λ_ _ _=>rfl);have OL:tI S1 (S.length+1) a0 (wl cell many 1):=by
  rcases n1 with h | ⟨m,e,hm,hs⟩
  .exact .inl h
  .exact .inr ⟨m,e,by simpa using hm,hs⟩
 have up:∀{S':bx} {n:Nat} {a:T} {l:List Str},S.length+1<=n->tI S' n a l->tI S' (S.length+1) a l:=λhn hh=>by
  rcases hh with h | ⟨m,e,hm,hs⟩
  .exact .inl h
  .exact .inr ⟨m,e,by omega,hs⟩
 have k2:∀i,S.length+1<=i->i<S1.length->S2[i]?=S1[i]?:=λi h1 h2=>f2 i (by omega) (by omega) h2;have k3:∀i,S.length+1<=i->i<S2.length->S3[i]?=S2[i]?:=λi h1 h2=>f3 i (by omega) (by omega) h2;have k4:∀i,S.length+1<=i->i<S3.length->S4[i]?=S3[i]?:=λi h1 h2=>f4 i (by omega) (by omega) h2;refine⟨S4,a0,a1,a2,a3,aa (.int ((3:Nat):Int)),aa (aI (wl cell many 1709)),?_,g4,((OL.keep k2).keep k3).keep k4,((up (by omega) n2).keep k3).keep k4,(up (by omega) n3).keep k4,up (by omega) n4,⟨?_,?_,?_,r4⟩,λj h1 h2=>?_,by omega⟩
 .refine(sF (ts:=ot 0 4) (st:=λ_=>True) (S1:=S++[.lst []]) (by simp)).trans ?_
  rw[Zcd,wa (ρ2:=[aa (.obj h),aa q.t,aa (.int cell),aa (.int many),aa (.obj S.length),aa (.int ((0:Nat):Int)),aa (aI (wl cell many 1))]) trivial rfl b1,wa (ρ2:=[aa (.obj h),aa q.t,aa (.int cell),aa (.int many),aa (.obj S.length),aa (.int ((1:Nat):Int)),aa (aI (wl cell many 11))]) trivial rfl b2,
   wa (ρ2:=[aa (.obj h),aa q.t,aa (.int cell),aa (.int many),aa (.obj S.length),aa (.int ((2:Nat):Int)),aa (aI (wl cell many 131))]) trivial rfl b3,wa (ρ2:=[aa (.obj h),aa q.t,aa (.int cell),aa (.int many),aa (.obj S.length),aa (.int ((3:Nat):Int)),aa (aI (wl cell many 1709))]) trivial rfl b4,zX trivial]
 .show S4[q.k]?=_
  rw[f4 _ (by omega) (by omega) (by omega),f3 _ (by omega) (by omega) (by omega),f2 _ (by omega) (by omega) (by omega)];exact r1
 .show S4[q.k+1]?=_
  rw[f4 _ (by omega) (by omega) (by omega),f3 _ (by omega) (by omega) (by omega)];exact r2
 .show S4[q.k+2]?=_
  rw[f4 _ (by omega) (by omega) (by omega)];exact r3
 .rw[f4 _ (by omega) (by omega) (by omega),f3 _ (by omega) (by omega) (by omega),f2 _ (by omega) (by omega) (by omega),f1 _ (by omega) (by omega) (by simp;omega),aw h1]
theorem Zag{h kr:Nat}{A B:List Q}{q:Q}{cell many:Int}(F:mC c S h kr (A++q::B))(hm:0<many+1)(v9:∀d x,x∈wl cell many d->lW x)(hw:q.p.w0.length<=900/\q.p.w1.length<=900/\q.p.w2.length<=900/\q.p.w3.length<=900) :
  ∃S',CW c [.obj h,q.t,.int cell,.int many] S=.ok .bY S'/\mC c S' h kr (A++q.told (wl cell many 1) (wl cell many 11) (wl cell many 131) (wl cell many 1709)::B):=by
 have hq:q∈A++q::B:=by simp
 have R:=F.row q hq;have sq:=F.sep q hq;have lk:kr<S.length:=(ao.mp F.cell).1;have l2:∀d,(wl cell many d).length<=2:=λd=>by
  unfold wl sA
  split
  .simp
  .split<;>simp
 obtain⟨S4,a0,a1,a2,a3,x5,x6,L,g,n0,n1,n2,n3,R4,f4,l4⟩:=z0v (c:=c) (h:=h) hm R v9 hw;have H4:fT c S4 h (lL h) ((A++q::B).map (·.p)):=F.hall.but λj hj=>by
  have lo:=F.lo;rcases hj with rfl | rfl | rfl | ⟨z,hz,rfl⟩ | ⟨p,hp,h1,h2⟩
  .exact f4 _ (by omega) (.inl (by omega))
  .exact f4 _ (by omega) (.inl (by omega))
  .exact f4 _ (by omega) (.inl (by omega))
  .simp only[lL,ai] at hz
   subst hz;exact f4 _ (by simp;omega) (.inl (by simp;omega))
  .obtain⟨x,hx,rfl⟩:=aq.mp hp
   have lx:=(F.hall.piece _ hp).lt;refine f4 _ (by omega) ?_;rcases F.apart hx with rfl | e | e
   .exact .inl (by omega)
   .have:=F.sep x hx
    exact .inl (by omega)
   .exact .inr (by omega)
 have O_:q.p∈(A++q::B).map (·.p):=aq.mpr ⟨q,hq,rfl⟩;have lp:=(H4.piece _ O_).lt;have lp0:=(F.hall.piece _ O_).lt;obtain⟨S5,w5,H5,le5,f5⟩:=z6r H4 O_ (t0:=a0) (t1:=a1) (t2:=a2) (t3:=a3) (l0:=wl cell many 1) (l1:=wl cell many 11) (l2:=wl cell many 131) (l3:=wl cell many 1709) (λS' f=>by
  have kk:∀i,S.length+1<=i->i<S4.length->S'[i]?=S4[i]?:=λi h1 h2=>f i (.inr (by omega));exact⟨(n0.keep kk).pU,(n1.keep kk).pU,(n2.keep kk).pU,(n3.keep kk).pU⟩) (by have:=l2 1;omega) (by have:=l2 11;omega) (by have:=l2 131;omega) (by have:=l2 1709;omega)
 have g5:S5[S.length]?=aa (.lst [a0,a1,a2,a3]):=(f5 _ (.inr (by omega))).trans g;have Jv:∀{a:T} {l:List Str},tI S4 (S.length+1) a l->a=.bY\/∃m us,a=.obj m/\S.length+1<=m/\S5[m]?=aa (.lst us):=λhh=>by
  rcases hh with⟨e,_⟩ | ⟨m,e,hm,hs⟩
  .exact .inl e
  .exact .inr ⟨m,_,e,hm,(f5 m (.inr (by omega))).trans hs⟩
 obtain⟨S6,oJ,L6,f6,le6⟩:=O8 (c:=c) (n0:=S.length+1) (st:=λS'=>cI S' (.obj S.length)=aa [a0,a1,a2,a3]) (e0:=aa (.obj h)) (e1:=aa q.t) (e2:=aa (.int cell)) (e3:=aa (.int many)) (e4:=aa (.obj S.length)) (e5:=x5) [a0,a1,a2,a3] (x6:=x6) (S:=S5) (λS' f=>jG ((f _ (by omega)).trans g5)) (by
  intro a ha;simp only[aF,bK,or_false] at ha;rcases ha with rfl | rfl | rfl | rfl
  .exact Jv n0
  .exact Jv n1
  .exact Jv n2
  .exact Jv n3)
 refine⟨S6,?_,F.turn ?_ ?_ λj h1 h2 h3=>?_⟩
 .have hmw:=qZ (m:=aG "wish") h (by simp) (by simp)
  have ix:∀i:Int,eh (.obj S.length) (.int i) S4=(match jt [a0,a1,a2,a3] i with|some t=>.ok t S4 | none=>.bad):=λi=>by simp[eh,ju,cI,g]<;>rfl
  have s1:iT (lX c.hall "wish" (bz 6 (CU c)) [] (ah 0) (a_ (e2 eh (ah 1) (eC (.int 0))) (a_ (e2 eh (ah 4) (eC (.int 0))) (a_ (e2 eh (ah 4) (eC (.int 1))) (a_ (e2 eh (ah 4) (eC (.int 2))) (a_ (e2 eh (ah 4) (eC (.int 3))) aJ)))))) [aa (.obj h),aa q.t,aa (.int cell),aa (.int many),aa (.obj S.length),x5,x6] S4=.ok (.nx [aa (.obj h),aa q.t,aa (.int cell),aa (.int many),aa (.obj S.length),x5,x6]) S5:=by
   simp[H4.ins,hmw,Q.t,ix,w5]
  refine z6q (ρ:=[aa (.obj h),aa q.t,aa (.int cell),aa (.int many),ae,ae,ae]) rfl (r:=[aa (.obj h),aa q.t,aa (.int cell),aa (.int many),aa (.obj S.length),x5,oJ]) ?_;unfold TN;rw[gH (r:=[aa (.obj h),aa q.t,aa (.int cell),aa (.int many),aa (.obj S.length),ae,ae]) (S1:=S++[.lst []]) (by simp),gH L,gH s1];refine(sF (ts:=[a0,a1,a2,a3]) (st:=λS'=>cI S' (.obj S.length)=aa [a0,a1,a2,a3]) (S1:=S5) ?_).trans L6;simp[jG g5]
 .have e:(A++q.told (wl cell many 1) (wl cell many 11) (wl cell many 131) (wl cell many 1709)::B).map (·.p)=((A++q::B).map (·.p)).map λz=>if z.nm=q.p.nm then yG q.p (wl cell many 1) (wl cell many 11) (wl cell many 131) (wl cell many 1709) else z:=by
   have nd:=F.hall.nd;rw[bf,aE] at nd ⊢;rw[bf,aE,z6g nd];rfl
  rw[e];refine H5.but λj hj=>f6 j ?_;have lo:=F.lo;rcases hj with rfl | rfl | rfl | ⟨z,hz,rfl⟩ | ⟨p,hp,h1,h2⟩
  .omega
  .omega
  .omega
  .simp only[lL,ai] at hz
   subst hz;simp;omega
  .obtain⟨z,hz,rfl⟩:=aq.mp hp
   have lz:=(F.hall.piece _ hz).lt;have ez:(if z.nm=q.p.nm then yG q.p (wl cell many 1) (wl cell many 11) (wl cell many 131) (wl cell many 1709) else z).i=z.i\/(if z.nm=q.p.nm then yG q.p (wl cell many 1) (wl cell many 11) (wl cell many 131) (wl cell many 1709) else z).i=q.p.i:=by
    split
    .exact .inr rfl
    .exact .inl rfl
   rcases ez with e | e<;>rw[e] at h1 h2<;>omega
 .have lr:=R.lt
  exact R4.but λj h1 h2=>by
   have h1:q.k<=j:=h1;have h2:j<q.k+4:=h2;rw[f6 j (by omega),f5 j (.inr (by omega))]
 .rw[f6 j (by omega),f5 j h2,f4 j h1 h3]
end DN
namespace DN
open PySem L2 MF
variable {c:Cl}{S:bx}
def Nm(x:Str):Prop:=∃j:Nat,j<9/\x=iX j
theorem VH:∀j:Nat,j<9->fD (iX j)=true/\(cD (iX j)).length<=30:=by decide +kernel
theorem VI:∀j:Nat,j<9->∀i:Nat,i<9->iX j=iX i->j=i:=by decide +kernel
theorem Nm.ok{x:Str}(h:Nm x):lW x:=by
 obtain⟨j,hj,rfl⟩:=h;exact(VH j hj).1
theorem Nm.sm{x:Str}(h:Nm x):(cD x).length<=30:=by
 obtain⟨j,hj,rfl⟩:=h;exact(VH j hj).2
theorem Pa{y many:Int}(h0:0<many)(h1:many<=9):Nm (iX (y%many)):=by
 have a:=fj y (show many≠0 by omega);have b:=eZ y h0;refine⟨(y%many).toNat,by omega,?_⟩;rw[Int.toNat_of_nonneg a]
theorem VJ{y many:Int}(h0:0<many)(h1:many<=9):∀x∈sA y many,Nm x:=by
 unfold sA
 split
 .intro x hx;cases hx
 .split
  .intro x hx
   simp only[aF,bK,or_false] at hx;rcases hx with rfl | rfl<;>exact Pa h0 h1
  .intro x hx
   simp only[aF,bK,or_false] at hx;subst hx;exact Pa h0 h1
def fW(b:Bool)(i:Nat):Option Str:=if b=true/\0<i then aa (iX ((i:Int)-1)) else ae
structure One(b:Bool)(n i:Nat)(p:HP):Prop where
 nm:p.nm=iX i
 br:p.br=fW b i
 pl:p.pl = "hub"
 on:p.on=true
 ws:∀x,x∈p.w0\/x∈p.w1\/x∈p.w2\/x∈p.w3->Nm x
 l0:p.w0.length<=n
 l1:p.w1.length<=n
 l2:p.w2.length<=n
 l3:p.w3.length<=n
theorem One.up{b:Bool}{n m i:Nat}{p:HP}(h:One b n i p)(l:n<=m):One b m i p:=⟨h.nm,h.br,h.pl,h.on,h.ws,by have:=h.l0;omega,by have:=h.l1;omega,by have:=h.l2;omega,by have:=h.l3;omega⟩
theorem One.told{b:Bool}{n i:Nat}{p:HP}{cell many:Int}(h:One b n i p)(h0:0<many+1)(h1:many+1<=9):One b (n+2) i (yG p (wl cell many 1) (wl cell many 11) (wl cell many 131) (wl cell many 1709)):=by
 have len:∀(l:List Str) d,l.length<=n->(l++wl cell many d).length<=n+2:=λl d hl=>by
  have:=z20 (cell / d) (many+1);rw[aB];unfold wl;omega
 refine⟨h.nm,h.br,h.pl,h.on,λx hx=>?_,len _ _ h.l0,len _ _ h.l1,len _ _ h.l2,len _ _ h.l3⟩;have tl:∀d,x∈wl cell many d->Nm x:=λd hd=>VJ h0 h1 x hd;simp only[yG,aH] at hx;rcases hx with(h2 | h2) | (h2 | h2) | (h2 | h2) | (h2 | h2)
 .exact h.ws x (.inl h2)
 .exact tl _ h2
 .exact h.ws x (.inr (.inl h2))
 .exact tl _ h2
 .exact h.ws x (.inr (.inr (.inl h2)))
 .exact tl _ h2
 .exact h.ws x (.inr (.inr (.inr h2)))
 .exact tl _ h2
def gb(b:Bool)(f:Nat->Nat)(qs:List Q):Prop:=∀i q,qs[i]?=aa q->One b (f i) i q.p
theorem gb.names{b:Bool}{f:Nat->Nat}{qs:List Q}(h:gb b f qs):qs.map (·.p.nm)=(d5 qs.length).map λi:Nat=>iX i:=by
 refine mH λi=>?_;rw[bH,bH];by_cases hi:i<qs.length
 .rw[List.getElem?_range hi,aW hi]
  exact congrArg aa (h i _ (aW hi)).nm
 .rw[cO (by omega),cO (by simp;omega)]
  rfl
theorem gb.fresh{b:Bool}{f:Nat->Nat}{qs:List Q}(h:gb b f qs)(hl:qs.length<9):iX qs.length∉(qs.map (·.p)).map (·.nm):=by
 rw[aU];show _∉qs.map (·.p.nm);rw[h.names];intro hm;obtain⟨i,hi,e⟩:=aq.mp hm;have hi:=gu.mp hi;have:=VI i (by omega) qs.length hl e;omega
theorem gb.set{b:Bool}{f:Nat->Nat}{A B:List Q}{q q':Q}{n:Nat}(h:gb b f (A++q::B))(h':One b n A.length q'.p):gb b (λi=>if i=A.length then n else f i) (A++q'::B):=λi x hx=>by
 by_cases hi:i=A.length
 .subst hi
  rw[bE (az _),fM] at hx;simp at hx;subst hx;simpa using h'
 .have e:(A++q::B)[i]?=aa x:=by
   rcases Nat.lt_or_gt_of_ne hi with hl | hl
   .rw[aw hl] at hx ⊢
    exact hx
   .rw[bE (by omega)] at hx ⊢
    obtain⟨m,hm⟩:∃m,i-A.length=m+1:=⟨i-A.length-1,by omega⟩;rw[hm,bL] at hx ⊢;exact hx
  simp only[if_neg hi];exact h i x e
theorem gb.snoc{b:Bool}{f:Nat->Nat}{qs:List Q}{q:Q}(h:gb b f qs)(h':One b (f qs.length) qs.length q.p):gb b f (qs++[q]):=λi x hx=>by
 by_cases hi:i<qs.length
 .rw[aw hi] at hx
  exact h i x hx
 .by_cases hj:i=qs.length
  .subst hj
   simp at hx;subst hx;exact h'
  .rw[cO (by simp;omega)] at hx
   cases hx
def km(nm:Str)(br:Option Str)(n:Nat):Q:=⟨c_ nm "hub" (.tup [.str "none"]) br n,n+5⟩
theorem mC.yF{h kr:Nat}{qs:List Q}{nm:Str}{br:Option Str}{S1:bx}(F:mC c S h kr qs)(hn:nm∉(qs.map (·.p)).map (·.nm))
  (e1:S1=S.set (h+2) (.dic (dS (qs.map (·.p)++[c_ nm "hub" (.tup [.str "none"]) br S.length])))++(c_ nm "hub" (.tup [.str "none"]) br S.length).block c) :
  S1[kr]?=aa (.lst (qs.map Q.t))/\S1.length=S.length+5/\mC c ((S1++[bA.lst [],.lst [],.lst [],.lst []]).set kr (.lst (qs.map Q.t++[(km nm br S.length).t]))) h kr (qs++[km nm br S.length]):=by
 have H1:=F.hall.yF (q := "hub") (dd:=.tup [.str "none"]) (br:=br) hn;rw[<- e1] at H1;have lo:=F.lo;have lk:kr<S.length:=(ao.mp F.cell).1;have nI:S1.length=S.length+5:=by rw[e1];simp[HP.block]
 have old:∀j,j<S.length->j≠h+2->S1[j]?=S[j]?:=λj h1 h2=>by
  rw[e1,aw (by simpa using h1),dN (by omega)]
 have c1:S1[kr]?=aa (.lst (qs.map Q.t)):=(old kr lk (by omega)).trans F.cell;have c2:(S1++[bA.lst [],.lst [],.lst [],.lst []])[kr]?=aa (.lst (qs.map Q.t)):=k8 c1;refine⟨c1,nI,?_,?_,lo,λq hq=>?_,λq hq=>?_,?_⟩
 .have e:(qs++[km nm br S.length]).map (·.p)=qs.map (·.p)++[c_ nm "hub" (.tup [.str "none"]) br S.length]:=by simp[km]
  rw[e];refine(H1.app (L:=[.lst [],.lst [],.lst [],.lst []])).but λj hj=>dN ?_;rcases hj with rfl | rfl | rfl | ⟨z,hz,rfl⟩ | ⟨p,hp,h1,h2⟩
  .omega
  .omega
  .omega
  .simp only[lL,ai] at hz
   subst hz;simp;omega
  .rcases aH.mp hp with hp | hp
   .obtain⟨q,hq,rfl⟩:=aq.mp hp
    have:=F.sep q hq;omega
   .rw[ai] at hp
    subst hp;have:(c_ nm "hub" (.tup [.str "none"]) br S.length).i=S.length:=rfl;omega
 .rw[lK c2];simp
 .rcases aH.mp hq with hq | hq
  .have r:=F.row q hq
   have s:=F.sep q hq;have l:=r.lt;refine r.but λj h1 h2=>?_;rw[dN (by omega),aw (by omega),old j (by omega) (by omega)]
  .rw[ai] at hq
   subst hq;have g:∀i,i<4->((S1++[bA.lst [],.lst [],.lst [],.lst []]).set kr (.lst (qs.map Q.t++[(km nm br S.length).t])))[S.length+5+i]?=aa (.lst []):=λi hi=>by
    rw[dN (by omega),<- nI,pP];rcases(by omega:i=0\/i=1\/i=2\/i=3) with rfl | rfl | rfl | rfl<;>rfl
   exact⟨g 0 (by omega),g 1 (by omega),g 2 (by omega),g 3 (by omega)⟩
 .rcases aH.mp hq with hq | hq
  .exact F.sep q hq
  .rw[ai] at hq
   subst hq;exact⟨lk,az _⟩
 .rw[dX]
  refine⟨F.pw,List.pairwise_singleton _ _,λa ha b hb=>?_⟩;rw[ai] at hb;subst hb;have:=(F.row a ha).lt;show a.k+4<=S.length;omega
end DN
namespace DN
open PySem L2 MF
variable {c:Cl}{S:bx}
section
variable {h kr:Nat}{qs:List Q}{ns:List Int}{many:Nat}{early br:Bool}
theorem Pb{i:Nat}{q:Q}(e:qs[i]?=aa q):jt (qs.map Q.t) (i:Int)=aa q.t:=zj (by rw[bH,e];rfl)
theorem mC.ix(F:mC c S h kr qs){i:Nat}{q:Q}(e:qs[i]?=aa q):eh (.obj kr) (.int i) S=.ok q.t S:=by
 simp[eh,ju,cI,F.cell,Pb e]
theorem VL{f:Nat->Nat}{i:Nat}{q:Q}{cell:Int}(F:mC c S h kr qs)(K:gb br f qs)(e:qs[i]?=aa q)(hf:f i<=900)(hm:many<=8) :
  ∃S' sG,CW c [.obj h,q.t,.int cell,.int many] S=.ok .bY S'/\mC c S' h kr sG/\sG.length=qs.length/\gb br (λj=>if j=i then f i+2 else f j) sG:=by
 have hi:i<qs.length:=(ao.mp e).1;obtain⟨A,q0,B,rfl,hA⟩:=VC hi;subst hA;have eq:q0=q:=by
  rw[bE (az _),fM] at e;simpa using e
 subst eq;have O:=K _ _ e;have o0:=O.l0;have o1:=O.l1;have o2:=O.l2;have o3:=O.l3;obtain⟨S',e1,F'⟩:=Zag F (cell:=cell) (many:=many) (by omega) (λd x hx=>(VJ (by omega) (by omega) x hx).ok) ⟨by omega,by omega,by omega,by omega⟩;exact⟨S',_,e1,F',by simp,K.set (O.told (by omega) (by omega))⟩
abbrev q_(h:Nat)(ns:List Int)(many:Nat)(early br:Bool)(kr:Nat)(x6 x7:Option T):Ev:=[aa (.obj h),aa (.lst (ns.map .int)),aa (.int many),aa (.bl early),aa (.bl br),aa (.obj kr),x6,x7]
theorem z6s{z:Int}{b:Option Str}{y0 y1 y2 y3 y5:Option T}(h1:br=true/\0<z->b=aa (iX (z-1)))(h2:¬(br=true/\0<z)->b=ae) :
  gp (uc (oX (ah 4)) (eB (e2 (gI EM) (ah 6) (eC (.int 0))))) (bV 7 (dZ (bz 1 (pJ c)) [] (a_ (e2 (gI vN) (ah 6) (eC (.int 1))) aJ))) gU [y0,y1,y2,y3,aa (.bl br),y5,aa (.int z),aa .bY] S=.ok (.nx [y0,y1,y2,y3,aa (.bl br),y5,aa (.int z),aa (qY b)]) S:=by
 by_cases hb:br=true/\0<z
 .rw[h1 hb]
  simp[hb.1,hb.2,Di,qY]
 .rw[h2 hb]
  cases br with
  |false=>simp[qY]
  | true=>
    have h0:¬(0:Int)<z:=λq=>hb ⟨rfl,q⟩;simp[h0,qY]
theorem z24{e:Nat}{x7:Option T}(F:mC c S h kr qs)(K:gb br (λ_=>e) qs)(hq:qs.length<many)(hm:many<=8)(he:e=if early=true then 2 else 0) :
  ∃S' sG tK,Fg c (q_ h ns many early br kr (aa (.int qs.length)) x7) S=.ok (.nx (q_ h ns many early br kr (aa (.int qs.length)) tK)) S'/\mC c S' h kr sG/\sG.length=qs.length+1/\gb br (λ_=>e) sG:=by
 have hn:=K.fresh (by omega);have bOk:∀b,fW br qs.length=aa b->b∈(qs.map (·.p)).map (·.nm):=λb hb=>by
  unfold fW at hb
  split at hb
  .rename_i hc
   cases hb;rw[aU];show _∈qs.map (·.p.nm);rw[K.names];refine aq.mpr ⟨qs.length-1,gu.mpr (by omega),?_⟩;have:((qs.length-1:Nat):Int)=(qs.length:Int)-1:=by omega
   rw[this]
  .cases hb
 have hg:=zz9 F.hall (nm:=iX qs.length) (q := "hub") (br:=fW br qs.length) (dd:=.tup [.str "none"]) (pm:=⟨"hub", "all", "hold",h+3⟩) hn (by simp[lL]) (by simp;omega) bOk;obtain⟨c1,nI,F1⟩:=F.yF (br:=fW br qs.length) hn rfl;generalize S.set (h+2) (.dic (dS (qs.map (·.p)++[c_ (iX qs.length) "hub" (.tup [.str "none"]) (fW br qs.length) S.length])))++(c_ (iX qs.length) "hub" (.tup [.str "none"]) (fW br qs.length) S.length).block c=S1 at hg c1 nI F1;have K1:gb br (λ_=>0) [km (iX qs.length) (fW br qs.length) S.length]->True:=λ_=>trivial;have O:One br 0 qs.length (km (iX qs.length) (fW br qs.length) S.length).p:=⟨rfl,rfl,rfl,rfl,λx hx=>by simp[km,c_] at hx,az _,az _,az _,az _⟩;have lkr:=(ao.mp c1).1;have c2:(S1++[bA.lst [],.lst [],.lst [],.lst []])[kr]?=aa (.lst (qs.map Q.t)):=k8 c1;have ap:=xU (y:=(km (iX qs.length) (fW br qs.length) S.length).t) c2 (by simp;omega);have zW:=lY c1;have Pd:(km (iX qs.length) (fW br qs.length) S.length).t=.lst [.str (iX qs.length),.obj S1.length,.obj (S1.length+1),.obj (S1.length+2),.obj (S1.length+3)]:=by
  rw[nI];rfl
 have rf:=qZ (m:=aG "hang") h (by simp) (by simp);have s7:=z6s (c:=c) (S:=S) (br:=br) (z:=(qs.length:Int)) (b:=fW br qs.length) (y0:=aa (.obj h)) (y1:=aa (.lst (ns.map .int))) (y2:=aa (.int many)) (y3:=aa (.bl early)) (y5:=aa (.obj kr)) (λhb=>if_pos ⟨hb.1,by omega⟩) (λhb=>if_neg λz=>hb ⟨z.1,by omega⟩);have sh:iT (lX c.hall "hang" (bz 5 (vS c)) [] (ah 0) (a_ (dZ (bz 1 (pJ c)) [] (a_ (ah 6) aJ)) (a_ (eC (.str "hub")) (a_ (eA f_ (a_ (eC (.str "none")) aJ)) (a_ (ah 7) aJ))))) (q_ h ns many early br kr (aa (.int qs.length)) (aa (qY (fW br qs.length)))) S=.ok (.nx (q_ h ns many early br kr (aa (.int qs.length)) (aa (qY (fW br qs.length))))) S1:=by
  simp[F.hall.ins,rf,Di,hg]
 have sa:iT (jB jv jP (ah 5) (a_ (eA gP (a_ (dZ (bz 1 (pJ c)) [] (a_ (ah 6) aJ)) (a_ (eA gQ aJ) (a_ (eA gQ aJ) (a_ (eA gQ aJ) (a_ (eA gQ aJ) aJ)))))) aJ)) (q_ h ns many early br kr (aa (.int qs.length)) (aa (qY (fW br qs.length)))) S1=.ok (.nx (q_ h ns many early br kr (aa (.int qs.length)) (aa (qY (fW br qs.length))))) ((S1++[bA.lst [],.lst [],.lst [],.lst []]).set kr (.lst (qs.map Q.t++[(km (iX qs.length) (fW br qs.length) S.length).t]))):=by
  rw[Pd] at ap ⊢;simp[zW,Di,ap]
 generalize ((S1++[bA.lst [],.lst [],.lst [],.lst []]).set kr (.lst (qs.map Q.t++[(km (iX qs.length) (fW br qs.length) S.length).t])))=S2 at F1 sa;have K2:gb br (λ_=>e) qs:=K;have e0:bV 7 (eC .bY) (q_ h ns many early br kr (aa (.int qs.length)) x7) S=.ok (.nx (q_ h ns many early br kr (aa (.int qs.length)) (aa .bY))) S:=by simp
 have K3:=K.snoc (q:=km (iX qs.length) (fW br qs.length) S.length) (O.up (by omega));cases early with
 | false=>
   refine⟨S2,_,aa (qY (fW br qs.length)),?_,F1,by simp,K3⟩;unfold Fg;rw[gH e0,gH s7,gH sh,gH sa];simp
 | true=>
   have K0:gb br (λi=>if i<qs.length then e else 0) (qs++[km (iX qs.length) (fW br qs.length) S.length]):=λi x hx=>by
    by_cases hi:i<qs.length
    .simp only[if_pos hi]
     rw[aw hi] at hx;exact K i x hx
    .simp only[if_neg hi]
     by_cases hj:i=qs.length
     .subst hj
      simp at hx;subst hx;exact O
     .rw[cO (by simp;omega)] at hx
      cases hx
   have gq:(qs++[km (iX qs.length) (fW br qs.length) S.length])[qs.length]?=aa (km (iX qs.length) (fW br qs.length) S.length):=by simp
   obtain⟨S3,Pe,et,F3,l3,K4⟩:=VL (many:=many) (cell:=cellAt ns (3+(qs.length:Int))) F1 K0 gq (by simp) hm;refine⟨S3,Pe,aa (qY (fW br qs.length)),?_,F3,by simpa using l3,λi x hx=>?_⟩
   .unfold Fg
    rw[gH e0,gH s7,gH sh,gH sa];have ix:=F1.ix gq;have fc:=FP (c:=c) (S:=S2) ns (3+(qs.length:Int)) (by omega);simp[ix,fc,et]
   .have:=K4 i x hx
    refine this.up ?_;simp at he;subst he;show(if i=qs.length then(if qs.length<qs.length then 2 else 0)+2 else if i<qs.length then 2 else 0)<=2;rw[if_neg (cQ _)]
    split
    .omega
    .split<;>omega
theorem z25{f:Nat->Nat}{k:Nat}{x7:Option T}(F:mC c S h kr qs)(K:gb br f qs)(hq:qs.length=many)(h0:0<many)(hm:many<=8)(hk:k<=30)(hf:f (k%many)<=900) :
  ∃S' sG,Iq c (q_ h ns many early br kr (aa (.int k)) x7) S=.ok (.nx (q_ h ns many early br kr (aa (.int k)) x7)) S'/\mC c S' h kr sG/\sG.length=many/\gb br (λj=>if j=k%many then f (k%many)+2 else f j) sG:=by
 have hi:k%many<qs.length:=by rw[hq];exact Nat.mod_lt _ h0
 have gq:qs[k%many]?=aa qs[k%many]:=aW hi;obtain⟨S3,Pe,et,F3,l3,K4⟩:=VL (many:=many) (cell:=cellAt ns (30-(k:Int))) F K gq hf hm;refine⟨S3,Pe,?_,F3,by rw[l3,hq],K4⟩;have ix:eh (.obj kr) (.int ((k:Int)%(many:Int))) S=.ok qs[k%many].t S:=F.ix gq;have fc:=FP (c:=c) (S:=S) ns (30-(k:Int)) (by omega);have hz:(0:Int)<(many:Int):=by omega
 generalize qs[k%many].t=QT at ix et;unfold Iq;simp only[z9d,z9e,Mt,SE,eL,zy,bL,ck,sr,E7,z89,if_pos hz,ix,SD,Ms,z87,Zbx,fc,cE,cH,aL,ik,et];simp[fc,et]
end
end DN
namespace DN
open PySem L2 MF
variable {c:Cl}{S:bx}
def yO(e many k r:Nat):Nat:=2*(e+(k+many-1-r) / many)
theorem z0z{e many k r:Nat}(h2:2<=many)(h8:many<=8)(hr:r<many):(if r=k%many then yO e many k (k%many)+2 else yO e many k r)<=yO e many (k+1) r:=by
 unfold yO;rcases(by omega:many=2\/many=3\/many=4\/many=5\/many=6\/many=7\/many=8) with rfl | rfl | rfl | rfl | rfl | rfl | rfl<;>split<;>omega
theorem z26{e n many r:Nat}(h2:2<=many)(h8:many<=8)(hr:r<many):yO e many (many*n) r<=2*(e+n):=by
 unfold yO;rcases(by omega:many=2\/many=3\/many=4\/many=5\/many=6\/many=7\/many=8) with rfl | rfl | rfl | rfl | rfl | rfl | rfl<;>omega
theorem Pf{fr:DA}{ρ:Ev}{S S1:bx}{n:Nat}{z:Int}(ha:fr ρ S=.ok [.int z] S1)(hz:z=n)(hn:n<=100):tz fr ρ S=.ok (ot 0 n,λ_=>True) S1:=by
 have h1:z.toNat=n:=by omega
 have h2:-1000000<=z/\z<=1000000:=by omega
 rw[Zb2,eL,ha];simp only[if_pos h2,h1]
theorem z6t{a b:Int}(ha:0<=a/\a<=8):pC a b=aa (.int (a*b)):=by
 rw[z88,if_pos (.inl (by omega))]
theorem Zce{g:T->T->M T}{a b:DE}{ρ:Ev}{x y t:T}{S S1 S2 S3:bx}(h1:a ρ S=.ok x S1)(h2:b ρ S1=.ok y S2)(h3:g x y S2=.ok t S3):e2 g a b ρ S=.ok t S3:=by
 rw[sr,eL,h1];show M.bind _ _ S1=_;rw[eL,h2];exact h3
theorem Zah{m:Int}{b:Bool}{y0 y1 y4 y5 y6 y7:Option T}(hm:∀b,gI pC (.int m) (.int b) S=.ok (.int (m*b)) S) :
  a_ (e2 (gI pC) (ah 2) (e2 hV (eC (.int 1)) (e1 CT (sf (ah 3))))) aJ [y0,y1,aa (.int m),aa (.bl b),y4,y5,y6,y7] S=.ok [.int (m*(1+(if b=true then 0 else 1)))] S:=by
 have h1:e1 CT (sf (ah 3)) [y0,y1,aa (.int m),aa (.bl b),y4,y5,y6,y7] S=.ok (.int (if b=true then 0 else 1)) S:=by cases b<;>rfl
 have h2:e2 hV (eC (.int 1)) (e1 CT (sf (ah 3))) [y0,y1,aa (.int m),aa (.bl b),y4,y5,y6,y7] S=.ok (.int (1+(if b=true then 0 else 1))) S:=by
  rw[sr,eL,Ms];show M.bind _ _ S=_;rw[eL,h1];rfl
 exact z6p (Zce (x:=.int m) rfl h2 (hm _)) rfl
theorem Zai{h kr many n:Nat}{ns:List Int}{early br:Bool}{y6 y7:Option T}(h8:many<=8)(hn:n=if early=true then 1 else 2)(Ji:many*n<=16) :
  tz (a_ (e2 (gI pC) (ah 2) (e2 hV (eC (.int 1)) (e1 CT (sf (ah 3))))) aJ) (q_ h ns many early br kr y6 y7) S=.ok (ot 0 (many*n),λ_=>True) S:=
 Pf (Zah λb=>by rw[E7,z6t (by omega)]) (by subst hn;cases early<;>simp) (by omega)
theorem zxd{h:Nat}{ns:List Int}{many:Nat}{early br:Bool}(A:fT c S h (lL h) [])(hl:S.length=h+4)(h2:2<=many)(h8:many<=8) :
  ∃S' qs,CY c [.obj h,.lst (ns.map .int),.int many,.bl early,.bl br] S=.ok (.obj (h+4)) S'/\mC c S' h (h+4) qs/\qs.length=many/\gb br (λ_=>4) qs:=by
 have F0:mC c (S++[.lst []]) h (h+4) []:=⟨A.app,by rw[<- hl];simp,rfl,(λq hq=>nomatch hq),(λq hq=>nomatch hq),o9⟩;obtain⟨e,he⟩:∃e:Nat,e=if early=true then 2 else 0:=⟨_,rfl⟩;have rg:tz (a_ (ah 2) aJ) (q_ h ns many early br (h+4) ae ae) (S++[.lst []])=.ok (ot 0 many,λ_=>True) (S++[.lst []]):=Pf (z:=many) (by simp only[Mt,eL,zy,bL,ck,SE,SD]) rfl (by omega);obtain⟨ρ1,S1,L1,qs1,y6,y7,rfl,F1,l1,K1⟩:=CP (ρ:=q_ h ns many early br (h+4) ae ae) (S:=S++[.lst []]) (body:=Fg c) (g:=c0 6)
  (λpre ρ S=>∃qs x6 x7,ρ=q_ h ns many early br (h+4) x6 x7/\mC c S h (h+4) qs/\qs.length=pre.length/\gb br (λ_=>e) qs) rg
  ⟨[],ae,ae,rfl,F0,rfl,λi q hq=>by simp at hq⟩ (λpre t post ρ S og hI=>by
    obtain⟨qs,x6,x7,rfl,F,lq,K⟩:=hI;obtain⟨si,rfl⟩:=Oi og;refine⟨trivial,_,rfl,?_⟩;rw[<- lq];obtain⟨S',sG,tK,e1,F',l',K'⟩:=z24 (c:=c) (ns:=ns) (early:=early) (x7:=x7) F K (by omega) h8 he;exact⟨_,S',e1,sG,_,_,rfl,F',by simp[l',lq],K'⟩) (λ_ _ _=>trivial)
 rw[A7] at l1;obtain⟨n,hn⟩:∃n:Nat,n=if early=true then 1 else 2:=⟨_,rfl⟩;have LN:2*((if early=true then 1 else 0)+n)<=4:=by rw[hn];cases early<;>simp
 have vm:n<=2:=by rw[hn];split<;>omega
 have Ji:many*n<=16:=by
  have:=Nat.mul_le_mul h8 vm;omega
 have rg2:=Zai (S:=S1) (h:=h) (kr:=h+4) (ns:=ns) (br:=br) (y6:=y6) (y7:=y7) h8 hn Ji;obtain⟨ρ2,S2,L2,qs2,z6,z7,rfl,F2,l2,K2⟩:=CP (ρ:=q_ h ns many early br (h+4) y6 y7) (S:=S1) (body:=Iq c) (g:=c0 6)
  (λpre ρ S=>∃qs x6 x7,ρ=q_ h ns many early br (h+4) x6 x7/\mC c S h (h+4) qs/\qs.length=many/\gb br (yO (if early=true then 1 else 0) many pre.length) qs) rg2
  ⟨qs1,y6,y7,rfl,F1,l1,λi q hq=>(K1 i q hq).up (bt (by rw[he];cases early<;>simp) (Nat.mul_le_mul_left 2 (Nat.le_add_right (if early=true then 1 else 0) _)))⟩ (λpre t post ρ S og hI=>by
   obtain⟨qs,x6,x7,rfl,F,lq,K⟩:=hI;obtain⟨si,rfl⟩:=Oi og;refine⟨trivial,_,rfl,?_⟩;have hmod:pre.length%many<many:=Nat.mod_lt _ (by omega);have hsm:yO (if early=true then 1 else 0) many pre.length (pre.length%many)<=900:=by
    unfold yO;have:(pre.length+many-1-pre.length%many) / many<=pre.length+many:=bt (Nat.div_le_self _ _) (by omega);have:(if early=true then 1 else 0)<=1:=by split<;>omega
    omega
   obtain⟨S',sG,e1,F',l',K'⟩:=z25 (c:=c) (ns:=ns) (early:=early) (x7:=x7) (k:=pre.length) F K lq (by omega) h8 (by omega) hsm;refine⟨_,S',e1,sG,_,_,rfl,F',l',λi q hq=>(K' i q hq).up ?_⟩;have hi:i<many:=by rw[<- l'];exact(ao.mp hq).1
   rw[aB];exact z0z h2 h8 hi) (λ_ _ _=>trivial)
 rw[A7] at K2;refine⟨S2,qs2,?_,F2,l2,λi q hq=>(K2 i q hq).up (bt (z26 h2 h8 (by rw[<- l2];exact(ao.mp hq).1)) LN)⟩;refine BZ (ρ:=[aa (.obj h),aa (.lst (ns.map .int)),aa (.int many),aa (.bl early),aa (.bl br),ae,ae,ae]) rfl ?_;unfold TQ;rw[gH (r:=q_ h ns many early br (h+4) ae ae) (S1:=S++[.lst []]) (by simp[hl]),gH L1,gH L2];exact Jt (by simp)
end DN
namespace DN
open PySem L2 MF
variable {c:Cl}{S:bx}
theorem Pg:∀(L:List Rw) {g:List Str},(∀y∈L,∀b,y.br=aa b->b∉g)->pR g L=g
 |[],_,_=>rfl
 | x :: L,g,h=>by
   rw[Ov];have e:oC g x=g:=by
    unfold oC
    split
    .rename_i b hb
     rw[if_neg (h x (ay ..) b hb)]
    .rfl
   rw[e];exact Pg L λy hy=>h y (au _ hy)
theorem z27(g:List Str)(A B:List Rw):pR g (A++B)=pR (pR g A) B:=by
 unfold pR;rw[List.foldl_append]
def Ph:Str->List Rw->Prop
 |_,[]=>True
 |p,x::r=>x.br=aa p/\Ph x.nm r
theorem VM:∀(B:List Rw) {g:List Str} {p:Str},p∈g->Ph p B->pR g B=g++ki B
 |[],g,_,_,_=>by simp[pR]
 | x::B,g,p,hp,h=>by
   rw[Ov];have e:oC g x=g++[x.nm]:=by simp[oC,h.1,hp]
   rw[e,VM B (p:=x.nm) (by simp) h.2];simp
theorem VN:∀(qs:List Q) (n:Nat),(∀i q,qs[i]?=aa q->q.p.nm=iX ((n+1+i:Nat):Int)/\q.p.br=fW true (n+1+i))->Ph (iX (n:Int)) (qs.map λq=>q.p.rw)
 |[],_,_=>trivial
 | q :: qs,n,h=>by
   have h0:=h 0 q rfl;refine⟨?_,?_⟩
   .show q.p.br=_
    rw[h0.2];have e:(((n+1+0:Nat):Int)-1)=(n:Int):=by omega
    show fW true (n+1+0)=_;unfold fW;rw[if_pos ⟨rfl,by omega⟩,e]
   .have:=VN qs (n+1) λi x hx=>by
     have:=h (i+1) x (by simpa using hx);have e:n+1+(i+1)=n+1+1+i:=by omega
     rw[e] at this;exact this
    have e:(q.p.rw).nm=iX ((n+1:Nat):Int):=h0.1;rw[e];exact this
theorem VO:∀(L:List Rw) {seen:List Str},(∀i x,L[i]?=aa x->∀b,x.br=aa b->b∈seen++ki (L.take i))->uA seen L
 |[],_,_=>trivial
 | x::L,seen,h=>by
   refine⟨λb hb=>by simpa using h 0 x rfl b hb,VO L λi y hy b hb=>?_⟩;have:=h (i+1) y (by simpa using hy) b hb;simpa[ki] using this
theorem gb.Pj{br:Bool}{f:Nat->Nat}{qs:List Q}(K:gb br f qs):uA [] ((qs.map (·.p)).map HP.rw):=by
 refine VO _ λi x hx b hb=>?_;rw[aU,bH] at hx;obtain⟨q,hq,rfl⟩:=bc.mp hx;have O:=K i q hq;have hi:i<qs.length:=(ao.mp hq).1;have hb:q.p.br=aa b:=hb;rw[O.br] at hb;unfold fW at hb
 split at hb
 .rename_i hc
  cases hb;have hg:qs[i-1]?=aa qs[i-1]:=aW (by omega);have O1:=K (i-1) _ hg;have e:((i:Int)-1)=((i-1:Nat):Int):=by omega
  rw[e,<- O1.nm,cH];unfold ki;rw[List.map_take,dP];refine⟨i-1,?_⟩;rw[d6 (by omega),bH,bH,bH,hg];rfl
 .cases hb
theorem gb.gone{br:Bool}{f:Nat->Nat}{A B:List Q}{q:Q}(K:gb br f (A++q::B))(hl:(A++q::B).length<=8) :
  pR [q.p.nm] (((A++q::B).map (·.p)).map HP.rw)=if br=true then(q::B).map (·.p.nm) else[q.p.nm]:=by
 have hq:=K A.length q (by simp);rw[aB,aL] at hl;cases br with
 | false=>
   rw[if_neg (by simp)];refine Pg _ λy hy b hb=>?_;rw[aU] at hy;obtain⟨x,hx,rfl⟩:=aq.mp hy;obtain⟨i,hi⟩:=dP.mp hx;have:=(K i x hi).br;have hb:x.p.br=aa b:=hb;rw[this] at hb;simp[fW] at hb
 | true=>
   rw[if_pos rfl,aU];have e:(A++q::B).map (HP.rw∘λq=>q.p)=(A++[q]).map (λx=>x.p.rw)++B.map (λx=>x.p.rw):=by
    simp[sR]
   rw[e,z27];have e1:pR [q.p.nm] ((A++[q]).map λx=>x.p.rw)=[q.p.nm]:=Pg _ λy hy b hb=>by
    obtain⟨x,hx,rfl⟩:=aq.mp hy;obtain⟨i,hi⟩:=dP.mp hx;have Sy:i<A.length+1:=by simpa using(ao.mp hi).1
    have Mb:(A++q::B)[i]?=aa x:=by
     have:A++q::B=(A++[q])++B:=by simp
     rw[this,aw (by simp;omega)];exact hi
    have ob:=(K i x Mb).br;have hb:x.p.br=aa b:=hb;rw[ob] at hb;unfold fW at hb
    split at hb
    .rename_i hc
     cases hb;rw[ai,hq.nm];intro z;have e:((i:Int)-1)=((i-1:Nat):Int):=by omega
     rw[e] at z;have:=VI (i-1) (by omega) A.length (by omega) z;omega
    .cases hb
   rw[e1,VM (B.map λx=>x.p.rw) (p:=q.p.nm) (by simp)]
   .simp[ki,HP.rw,sR]
   .rw[hq.nm]
    refine VN B A.length λi x hx=>?_;have:=K (A.length+1+i) x (by
     rw[bE (by omega)];have:A.length+1+i-A.length=i+1:=by omega
     rw[this,bL];exact hx)
    exact⟨this.nm,this.br⟩
end DN
namespace DN
open PySem L2 MF
variable {c:Cl}{S:bx}
structure R5 where
 p:HP
 t0:T
 t1:T
 t2:T
 t3:T
def R5.t(r:R5):T:=.lst [.str r.p.nm,r.t0,r.t1,r.t2,r.t3]
structure R5.At(S:bx)(r:R5):Prop where
 a0:cI S r.t0=aa (r.p.w0.map .str)
 a1:cI S r.t1=aa (r.p.w1.map .str)
 a2:cI S r.t2=aa (r.p.w2.map .str)
 a3:cI S r.t3=aa (r.p.w3.map .str)
structure Pk(p:HP):Prop where
 nm:Nm p.nm
 pl:p.pl = "hub"
 on:p.on=true
 ws:∀x,x∈p.w0\/x∈p.w1\/x∈p.w2\/x∈p.w3->Nm x
 l0:p.w0.length<=4
 l1:p.w1.length<=4
 l2:p.w2.length<=4
 l3:p.w3.length<=4
structure Seen(c:Cl)(S:bx)(h:Nat)(tr:T)(rs:List R5):Prop where
 hall:fT c S h (lL h) (rs.map (·.p))
 rows:sE S tr (rs.map R5.t)
 row:∀S',(∀k,k<S.length->S'[k]?=S[k]?)->∀r∈rs,r.At S'
 one:∀r∈rs,Pk r.p
 len:rs.length<=8
def Q.r(q:Q):R5:=⟨q.p,.obj q.k,.obj (q.k+1),.obj (q.k+2),.obj (q.k+3)⟩
theorem u0.at{q:Q}(r:u0 S q):q.r.At S:=⟨jG r.a0,jG r.a1,jG r.a2,jG r.a3⟩
theorem One.Pl{b:Bool}{i:Nat}{p:HP}(h:One b 4 i p)(hi:i<9):Pk p:=⟨⟨i,hi,h.nm⟩,h.pl,h.on,h.ws,h.l0,h.l1,h.l2,h.l3⟩
theorem mC.seen{h kr:Nat}{qs:List Q}{b:Bool}(F:mC c S h kr qs)(K:gb b (λ_=>4) qs)(hl:qs.length<=8):Seen c S h (.obj kr) (qs.map Q.r):=by
 have e1:(qs.map Q.r).map (·.p)=qs.map (·.p):=by simp[Q.r]
 have e2:(qs.map Q.r).map R5.t=qs.map Q.t:=by rw[aU];rfl
 refine⟨by rw[e1];exact F.hall,by rw[e2];exact Vm F.cell,λS' f r hr=>?_,λr hr=>?_,by simpa using hl⟩
 .obtain⟨q,hq,rfl⟩:=aq.mp hr
  have R:=F.row q hq;have l:=R.lt;exact(R.but λj _ h2=>f j (by omega)).at
 .obtain⟨q,hq,rfl⟩:=aq.mp hr
  obtain⟨i,hi⟩:=dP.mp hq;have:=(ao.mp hi).1;exact(K i q hi).Pl (by omega)
theorem Seen.keep{h:Nat}{tr:T}{rs:List R5}{S':bx}(V:Seen c S h tr rs)(hl:S.length<=S'.length)(f:∀k,k<S.length->S'[k]?=S[k]?):Seen c S' h tr rs:=
 ⟨V.hall.keep f,V.rows.keep hl f,λS2 g=>V.row S2 λk hk=>(g k (by omega)).trans (f k hk),V.one,V.len⟩
structure An(c:Cl)(S:bx)(h k5:Nat)(rs:List R5):Prop where
 hall:fT c S h (lL h) (rs.map (·.p))
 cell:S[k5]?=aa (.lst (rs.map R5.t))
 pO:∀r∈rs,r.p.i+5<=k5\/k5<r.p.i
 lo:h+3<k5
def jQ(nm:Str)(n:Nat):R5:=⟨c_ nm "hub" (.tup [.str "none"]) ae n,.lst [],.lst [],.lst [],.lst []⟩
theorem z28{h k5:Nat}{rs:List R5}{nm:Str}{y1 y2 y3 y4:Option T}(A:An c S h k5 rs)(hn:nm∉(rs.map (·.p)).map (·.nm))(hl:rs.length<20) :
  ∃S',Fj c [aa (.obj h),y1,y2,y3,y4,aa (.obj k5),aa (.str nm)] S=.ok (.nx [aa (.obj h),y1,y2,y3,y4,aa (.obj k5),aa (.str nm)]) S'/\An c S' h k5 (rs++[jQ nm S.length])/\∀j,j<S.length->j≠h+2->j≠k5->S'[j]?=S[j]?:=by
 have hg:=Uo A.hall (nm:=nm) (q := "hub") (dd:=.tup [.str "none"]) (pm:=⟨"hub", "all", "hold",h+3⟩) hn (by simp[lL]) (by simp;omega);have H1:=A.hall.yF (q := "hub") (dd:=.tup [.str "none"]) (br:=ae) hn;have lk:k5<S.length:=(ao.mp A.cell).1;have lo:=A.lo;have old:∀j,j<S.length->j≠h+2->(S.set (h+2) (.dic (dS (rs.map (·.p)++[c_ nm "hub" (.tup [.str "none"]) ae S.length])))++(c_ nm "hub" (.tup [.str "none"]) ae S.length).block c)[j]?=S[j]?:=λj h1 h2=>by
  rw[aw (by simpa using h1),dN (by omega)]
 generalize S.set (h+2) (.dic (dS (rs.map (·.p)++[c_ nm "hub" (.tup [.str "none"]) ae S.length])))++(c_ nm "hub" (.tup [.str "none"]) ae S.length).block c=S1 at hg H1 old;have c1:S1[k5]?=aa (.lst (rs.map R5.t)):=(old k5 lk (by omega)).trans A.cell;have ap:=xU (y:=(jQ nm S.length).t) c1 (by simp;omega);have zW:=lY c1;have rf:=qZ (m:=aG "hang") h (by simp) (by simp);refine⟨S1.set k5 (.lst (rs.map R5.t++[(jQ nm S.length).t])),?_,⟨?_,?_,λr hr=>?_,lo⟩,λj h1 h2 h3=>?_⟩
 .have VP:jP (.obj k5) [.lst [.str nm,.lst [],.lst [],.lst [],.lst []]] S1=.ok .bY (S1.set k5 (.lst (rs.map R5.t++[(jQ nm S.length).t]))):=ap
  generalize S1.set k5 (.lst (rs.map R5.t++[(jQ nm S.length).t]))=S2 at VP;simp[Fj,A.hall.ins,rf,hg,zW,VP]
 .have e:(rs++[jQ nm S.length]).map (·.p)=rs.map (·.p)++[c_ nm "hub" (.tup [.str "none"]) ae S.length]:=by simp[jQ]
  rw[e];refine H1.but λj hj=>dN ?_;rcases hj with rfl | rfl | rfl | ⟨z,hz,rfl⟩ | ⟨p,hp,h1,h2⟩
  .omega
  .omega
  .omega
  .simp only[lL,ai] at hz
   subst hz;simp;omega
  .rcases aH.mp hp with hp | hp
   .obtain⟨r,hr,rfl⟩:=aq.mp hp
    have:=A.pO r hr;omega
   .rw[ai] at hp
    subst hp;have:(c_ nm "hub" (.tup [.str "none"]) ae S.length).i=S.length:=rfl;omega
 .rw[lK c1];simp
 .rcases aH.mp hr with hr | hr
  .exact A.pO r hr
  .rw[ai] at hr
   subst hr;exact .inr lk
 .rw[dN (bZ h3),old j h1 h2]
theorem VQ{h k5 n0:Nat}{st:bx->Prop}(dI:∀S,st S){y1 y2 y3 y4:Option T}(hk:n0<=k5):∀(g:List Str) {rs:List R5} {x6:Option T} {S:bx},An c S h k5 rs->(∀x∈g,x∉rs.map (·.p.nm))->g.Nodup->rs.length+g.length<=20->n0<=S.length ->
  ∃S' is oJ,dz st (c0 6) (Fj c) (g.map .str) [aa (.obj h),y1,y2,y3,y4,aa (.obj k5),x6] S=.ok (.nx [aa (.obj h),y1,y2,y3,y4,aa (.obj k5),oJ]) S'/\An c S' h k5 (rs++is)/\(∀r∈is,∃nm n,nm∈g/\r=jQ nm n)/\is.length=g.length/\(∀j,j<n0->j≠h+2->S'[j]?=S[j]?)/\S.length<=S'.length
 |[],rs,x6,S,A,_,_,_,_=>⟨S,[],x6,zX (dI S),by simpa using A,(λr hr=>nomatch hr),rfl,λ_ _ _=>rfl,az _⟩
 | nm::g,rs,x6,S,A,hn,nd,hl,h0=>by
   rw[aL] at hl;obtain⟨S1,e1,A1,f1⟩:=z28 (c:=c) (y1:=y1) (y2:=y2) (y3:=y3) (y4:=y4) A (nm:=nm) (by rw[aU];exact hn nm (ay ..)) (by omega);rw[cF] at nd;have l1:S.length<=S1.length:=by
    have a:=(A1.hall.piece (jQ nm S.length).p (by simp)).lt;have:(jQ nm S.length).p.i=S.length:=rfl;omega
   obtain⟨S2,is,oJ,L,A2,hi,li,f2,l2⟩:=VQ dI hk g (x6:=aa (.str nm)) A1 (λx hx hm=>by
    rw[bf] at hm;rcases aH.mp hm with hm | hm
    .exact hn x (au _ hx) hm
    .have:x=nm:=by simpa[jQ,c_] using hm
     exact nd.1 (this▸hx)) nd.2 (by rw[aB,aV];omega) (by omega)
   refine⟨S2,jQ nm S.length::is,oJ,?_,by simpa using A2,λr hr=>?_,by simp[li],λj h1 h2=>(f2 j h1 h2).trans (f1 j (by omega) h2 (by omega)),by omega⟩
   .rw[aE,wa (dI S) rfl e1]
    exact L
   .rcases aF.mp hr with rfl | hr
    .exact⟨nm,_,ay ..,rfl⟩
    .obtain⟨a,b,ha,e⟩:=hi r hr
     exact⟨a,b,au _ ha,e⟩
end DN
namespace DN
open PySem L2 MF
variable {c:Cl}{S:bx}{ρ:Ev}
theorem z29{js:List Nat}{it:DI}{tc:DT}{te:DE}{ts:List T}{st:bx->Prop}{p:T->Bool}{f:T->T}(ou:it ρ S=.ok (ts,st) S)(dI:st S)(hl:ts.length<=1000)
  (hc:∀t∈ts,tc (aa t::js.map λj=>(ρ[j]?).join) S=.ok (p t) S) (he:∀t∈ts,p t=true->te (aa t::js.map λj=>(ρ[j]?).join) S=.ok (f t) S) :
  i4 1 js it (c0 0) tc te vO ρ S=.ok (.obj S.length) (S++[.lst ((ts.filter p).map f)]):=by
 unfold i4;rw[eL,ou];show(M.bind (rC _) vO) S=_;rw[eL];have:=Mv (tc:=tc) (te:=te) (caps:=js.map λj=>(ρ[j]?).join) dI ts ae [] (by simpa using hl) hc he;have e2:rC (nH st (c0 0) tc te ts (aT 1 ae++js.map λj=>(ρ[j]?).join) []) S=.ok ((ts.filter p).map f) S:=by
  unfold rC;rw[show(aT 1 (ae:Option T)++js.map λj=>(ρ[j]?).join)=ae::js.map λj=>(ρ[j]?).join from rfl,this];rfl
 simp only[e2];rfl
theorem Zak(A B:List T):xT (A++B) (aa (A.length:Int)) ae=B:=by
 unfold xT;rw[HT.vp,HT.xq];have e:min A.length (A++B).length=A.length:=by simp
 rw[e,List.drop_left,List.take_of_length_le (by simp)]
def B0:T->T
 |.lst (x::_)=>x
 |t=>t
theorem zxe{h kr:Nat}{A B:List Q}{y0 y3 y4 y5 y6:Option T}(F:mC c S h kr (A++B))(hl:(A++B).length<=8) :
  i4 1 [] (Fi c) (c0 0) ke (Fh c) eU [y0,aa (.obj kr),aa (.int A.length),y3,y4,y5,y6] S=.ok (aI (B.map (·.p.nm))) S:=by
 have cc:=E9 (ρ:=[y0,aa (.obj kr),aa (.int A.length),y3,y4,y5,y6]) (S:=S) (js:=[]) (it:=Fi c) (te:=Fh c) (ts:=B.map Q.t) (st:=λS'=>cI S' (.lst (B.map Q.t))=aa (B.map Q.t)) (f:=B0)
  (by
   have:=Zak (A.map Q.t) (B.map Q.t);rw[aN] at this;have lc:=jG F.cell;rw[bf] at lc;simp[Fi,Mp,Mo,Mn,lc,this]) rfl (by simp at hl ⊢;omega) (λt ht=>by
   obtain⟨q,_,rfl⟩:=aq.mp ht;simp[Fh,Q.t,B0])
 rw[cc,aU];unfold aI;rw[aU];rfl
theorem z02{kr:Nat}{qs:List Q}{g:List Str}{y0 y2 y3 y5 y6:Option T}(hc:S[kr]?=aa (.lst (qs.map Q.t)))(hl:qs.length<=8) :
  i4 1 [4] (Iu c) (c0 0) (Iv c) (Ir c) vO [y0,aa (.obj kr),y2,y3,aa (aI g),y5,y6] S=.ok (.obj S.length) (S++[.lst ((qs.filter λq=>!g.contains q.p.nm).map Q.t)]):=by
 have cc:=z29 (ρ:=[y0,aa (.obj kr),y2,y3,aa (aI g),y5,y6]) (S:=S) (js:=[4]) (it:=Iu c) (tc:=Iv c) (te:=Ir c) (ts:=qs.map Q.t) (st:=λS'=>cI S' (.obj kr)=aa (qs.map Q.t)) (p:=λt=>match t with|.lst (.str x::_)=>!g.contains x | _=>false) (f:=λt=>t)
  (by simp[Iu,jG hc]) (jG hc) (by simp;omega) (λt ht=>by
   obtain⟨q,_,rfl⟩:=aq.mp ht;simp[Iv,Q.t]) (λt ht _=>by
   obtain⟨q,_,rfl⟩:=aq.mp ht;simp[Ir,Q.t])
 rw[cc,rM,cv];rfl
theorem Zal{h kr:Nat}{qs:List Q}{br:Bool}{n:Nat}(F:mC c S h kr qs)(K:gb br (λ_=>4) qs)(hl:qs.length<=8)(hn:n<qs.length) :
  ∃S' k5 rs,Fk c [.obj h,.obj kr,.int n,.bl br] S=.ok (.obj k5) S'/\Seen c S' h (.obj k5) rs:=by
 obtain⟨A,q,B,rfl,hA⟩:=VC hn;subst hA;have gq:(A++q::B)[A.length]?=aa q:=by simp
 have ix:=F.ix gq;have gn:=K.gone hl;have nd:=F.hall.nd;have wR:q.p.nm∈((A++q::B).map (·.p)).map (·.nm):=by simp
 obtain⟨S1,e1,H1,f1,l1⟩:=z94 F.hall wR K.Pj (by simp at hl ⊢;omega);rw[gn] at e1 H1;obtain⟨g,hg⟩:∃g,g=if br=true then(q::B).map (·.p.nm) else[q.p.nm]:=⟨_,rfl⟩;rw[<- hg] at e1 H1;have B1:g.Sublist (((A++q::B).map (·.p)).map (·.nm)):=by
  rw[hg,aU];cases br with
  | true=>
    rw[if_pos rfl];exact(List.sublist_append_right A (q::B)).map (λx:Q=>x.p.nm)
  | false=>
    show[q.p.nm].Sublist _;exact List.singleton_sublist.mpr (by simp)
 have gnd:g.Nodup:=nd.sublist B1;have O0:g.length<=8:=by
  have:=B1.length_le;simp at this hl;omega
 have gl:((A++q::B).map (·.p)).filter (λp=>!g.contains p.nm)=((A++q::B).filter λq=>!g.contains q.p.nm).map (·.p):=by rw[cv];rfl
 rw[gl] at H1;have lo:=F.lo;have lk:kr<S.length:=(ao.mp F.cell).1;have c1:S1[kr]?=aa (.lst ((A++q::B).map Q.t)):=(f1 kr lk (by omega)).trans F.cell;have cl:=z02 (c:=c) (S:=S1) (g:=g) (y0:=aa (.obj h)) (y2:=aa (.int A.length)) (y3:=aa (.bl br)) (y5:=ae) (y6:=ae) c1 hl;obtain⟨uD,zR⟩:∃uD,uD=((A++q::B).filter λq=>!g.contains q.p.nm).map Q.r:=⟨_,rfl⟩;have er:uD.map R5.t=((A++q::B).filter λq=>!g.contains q.p.nm).map Q.t:=by rw[zR,aU];rfl
 have ep:uD.map (·.p)=((A++q::B).filter λq=>!g.contains q.p.nm).map (·.p):=by rw[zR,aU];rfl
 have yP:∀r∈uD,∃x∈A++q::B,r=x.r/\x.p.nm∉g:=λr hr=>by
  rw[zR] at hr;obtain⟨x,hx,rfl⟩:=aq.mp hr;obtain⟨h1,h2⟩:=bh.mp hx;exact⟨x,h1,rfl,by simpa using h2⟩
 have A2:An c (S1++[.lst ((uD).map R5.t)]) h S1.length uD:=by
  refine⟨by rw[ep];exact H1.app,by simp,λr hr=>?_,?_⟩
  .obtain⟨x,hx,rfl,_⟩:=yP r hr
   have:=(F.hall.piece x.p (aq.mpr ⟨x,hx,rfl⟩)).lt;have:x.r.p.i=x.p.i:=rfl;exact .inl (by omega)
  .omega
 have lrs:uD.length<=8:=by
  have:uD.length<=(A++q::B).length:=by rw[zR,aN];exact c8 ..
  omega
 rw[<- er] at cl;obtain⟨S3,is,x6,L,A3,hi,li,f3,l3⟩:=VQ (c:=c) (n0:=S1.length) (st:=λS'=>cI S' (aI g)=aa (g.map .str)) (λ_=>rfl) (y1:=aa (.obj kr)) (y2:=aa (.int A.length)) (y3:=aa (.bl br)) (y4:=aa (aI g)) (az _) g (x6:=ae) A2 (λx hx hm=>by
  obtain⟨r,hr,rfl⟩:=aq.mp hm;obtain⟨x,_,rfl,hx2⟩:=yP r hr;exact hx2 hx) gnd (by omega) (by simp)
 have fU:∀r∈uD++is,Pk r.p/\r.p.nm∈((A++q::B).map (·.p)).map (·.nm):=λr hr=>by
  rcases aH.mp hr with hr | hr
  .obtain⟨x,hx,rfl,_⟩:=yP r hr
   obtain⟨i,hi⟩:=dP.mp hx;have:=(ao.mp hi).1;exact⟨(K i x hi).Pl (by omega),aq.mpr ⟨x.p,aq.mpr ⟨x,hx,rfl⟩,rfl⟩⟩
  .obtain⟨nm,m,wR,rfl⟩:=hi r hr
   have uE:=B1.subset wR;obtain⟨p,hp,e⟩:=aq.mp uE;obtain⟨x,hx,rfl⟩:=aq.mp hp;obtain⟨i,hi⟩:=dP.mp hx;have:=(ao.mp hi).1;have O:=(K i x hi).Pl (by omega);exact⟨⟨e▸O.nm,rfl,rfl,λy hy=>by simp[jQ,c_] at hy,by simp[jQ,c_],by simp[jQ,c_],by simp[jQ,c_],by simp[jQ,c_]⟩,uE⟩
 refine⟨S3,S1.length,uD++is,?_,A3.hall,Vm A3.cell,λS' f r hr=>?_,λr hr=>(fU r hr).1,?_⟩
 .refine BZ (ρ:=[aa (.obj h),aa (.obj kr),aa (.int A.length),aa (.bl br),ae,ae,ae]) rfl ?_
  unfold TV;have rf:=qZ (m:=aG "drop") h (by simp) (by simp);have s4:bV 4 (eA gP (a_ (e2 eh (e2 eh (ah 1) (ah 2)) (eC (.int 0))) aJ)) [aa (.obj h),aa (.obj kr),aa (.int A.length),aa (.bl br),ae,ae,ae] S=.ok (.nx [aa (.obj h),aa (.obj kr),aa (.int A.length),aa (.bl br),aa (aI [q.p.nm]),ae,ae]) S:=by
   simp[ix,Q.t,aI]
  have s4':gp (oX (ah 3)) (bV 4 (i4 1 [] (Fi c) (c0 0) ke (Fh c) eU)) gU [aa (.obj h),aa (.obj kr),aa (.int A.length),aa (.bl br),aa (aI [q.p.nm]),ae,ae] S=.ok (.nx [aa (.obj h),aa (.obj kr),aa (.int A.length),aa (.bl br),aa (aI g),ae,ae]) S:=by
   cases br with
   | true=>
     rw[Gg (S1:=S) (by simp),zV (zxe F hl)];rw[hg];simp
   | false=>
     rw[Gh (S1:=S) (by simp),hg];simp
  have et:=z6b (c:=c) (S:=S1) g (by omega);have sT:∀d:DS,gp (zw (oX (dZ (bz 2 (Bz c)) [] (a_ (lX c.hall "drop" (bz 2 (CZ c)) [] (ah 0) (a_ (e2 eh (e2 eh (ah 1) (ah 2)) (eC (.int 0))) aJ)) (a_ (ah 4) aJ))))) d gU [aa (.obj h),aa (.obj kr),aa (.int A.length),aa (.bl br),aa (aI g),ae,ae] S=.ok (.nx [aa (.obj h),aa (.obj kr),aa (.int A.length),aa (.bl br),aa (aI g),ae,ae]) S1:=λd=>by
   simp[ix,Q.t,F.hall.ins,rf,e1,et]
  rw[gH s4,gH s4',gH (sT _),gH (zV cl)];have L':dA (iL (ah 4)) (c0 6) (Fj c) [aa (.obj h),aa (.obj kr),aa (.int A.length),aa (.bl br),aa (aI g),aa (.obj S1.length),ae] (S1++[.lst (uD.map R5.t)])=.ok (.nx [aa (.obj h),aa (.obj kr),aa (.int A.length),aa (.bl br),aa (aI g),aa (.obj S1.length),x6]) S3:=
   (sF (ts:=g.map .str) (st:=λS'=>cI S' (aI g)=aa (g.map .str)) (S1:=S1++[.lst (uD.map R5.t)]) (by simp[aI])).trans L
  refine(gH L').trans ?_;exact Jt (by simp)
 .rcases aH.mp hr with hr | hr
  .obtain⟨x,hx,rfl,_⟩:=yP r hr
   have R:=F.row x hx;have lx:=R.lt;have sx:=F.sep x hx;refine(R.but λj h1 h2=>?_).at;rw[f j (by simp at l3;omega),f3 j (by omega) (by omega),aw (by omega),f1 j (by omega) (by omega)]
  .obtain⟨nm,m,_,rfl⟩:=hi r hr
   exact⟨rfl,rfl,rfl,rfl⟩
 .have nd3:=A3.hall.nd
  have:=tF _ (((A++q::B).map (·.p)).map (·.nm)) nd3 λx hx=>by
   obtain⟨p,hp,rfl⟩:=aq.mp hx;obtain⟨r,hr,rfl⟩:=aq.mp hp;exact(fU r hr).2
  simp at this hl ⊢;omega
end DN
namespace DN
open PySem L2 MF
variable {c:Cl}{S:bx}{ρ:Ev}
def HP.pc(p:HP):Pc:=⟨p.nm,p.pl,p.dd,p.w0,p.w1,p.w2,p.w3,p.on⟩
abbrev fU(rs:List R5):List Str:=rs.map (·.p.nm)
section
variable {h:Nat}{tr:T}{rs:List R5}
theorem Seen.tL(V:Seen c S h tr rs)(L:bx):cI (S++L) tr=aa (rs.map R5.t):=V.rows _ λk hk=>aw hk
theorem Seen.yQ(V:Seen c S h tr rs)(L:bx){r:R5}(hr:r∈rs):r.At (S++L):=V.row _ (λk hk=>aw hk) r hr
theorem VR{it:DI}{te:DE}(V:Seen c S h tr rs)(ou:it ρ S=.ok (rs.map R5.t,λS'=>cI S' tr=aa (rs.map R5.t)) S)(OT:∀t Z,te (aa t::[]) Z=eh t (.int 0) Z):i4 1 [] it (c0 0) ke te eU ρ S=.ok (aI (fU rs)) S:=by
 have cc:=E9 (ρ:=ρ) (S:=S) (js:=[]) (it:=it) (te:=te) (f:=B0) ou V.rows.now (by have:=V.len;simp;omega) (λt ht=>by
  obtain⟨r,_,rfl⟩:=aq.mp ht;simp[OT,R5.t,B0])
 rw[cc,aU];unfold aI fU;rw[aU];rfl
theorem zxf(V:Seen c S h tr rs):C1 c [tr] S=.ok (.lst ((md (fU rs) (rs.map λr=>r.p.pc)).map gs)) S:=by
 have hl:=V.len;have Jw:=VR (c:=c) (ρ:=[aa tr,ae,ae,ae]) (it:=M5 c) (te:=M4 c) V (by simp[M5,V.rows.now]) (λt Z=>by simp[M4]);obtain⟨names,wb⟩:∃names,names=fU rs:=⟨_,rfl⟩;rw[<- wb] at Jw ⊢;have B2:∀x:bA,cI (S++[x]) tr=aa (rs.map R5.t):=λx=>V.tL [x];have Pm:=B2 (.lst []);have run:c9 4 (Nb c) [tr] S=.ok (.obj S.length) (S++[.lst ((md names (rs.map λr=>r.p.pc)).map gs)]):=by
  obtain⟨ρ',S',e,⟨x,rfl⟩,hS,_⟩:=CP (ρ:=[aa tr,aa (aI names),aa (.obj S.length),ae]) (S:=S++[.lst []]) (it:=iL (ah 0)) (g:=c0 3) (body:=Na c) (ts:=rs.map R5.t) (st:=λS'=>cI S' tr=aa (rs.map R5.t)) (S1:=S++[.lst []])
   (λpre ρ S'=>(∃x,ρ=[aa tr,aa (aI names),aa (.obj S.length),x])/\S'=S++[.lst ((md names ((rs.take pre.length).map λr=>r.p.pc)).map gs)]/\(md names ((rs.take pre.length).map λr=>r.p.pc)).length<=40*pre.length)
   (by simp[Pm]) ⟨⟨_,rfl⟩,rfl,by simp[md]⟩ (λpre t post ρ S' og ⟨⟨x,hρ⟩,hS,hb⟩=>by
    subst hρ;obtain⟨A,B,rfl,hA,hB⟩:=jI.mp og;obtain⟨r,B,rfl,rfl,hB⟩:=kK.mp hB;have hr:r∈A++r::B:=by simp
    have c5:pre.length=A.length:=by rw[<- hA];simp
    have e1:(A++r::B).take pre.length=A:=by rw[c5];simp
    have e2:∀t:T,(A++r::B).take (pre++[t]).length=A++[r]:=λt=>by
     rw[aB,aV,c5];exact OQ ..
    rw[e1] at hS hb;rw[e2];have GP:A.length<24:=by rw[aB,aL] at hl;omega
    have O:=V.one r hr;have w0:=O.l0;have w1:=O.l1;have hc:r.p.nm∈names:=by rw[wb];exact aq.mpr ⟨r,hr,rfl⟩
    have el:md names ((A++[r]).map λr=>r.p.pc)=md names (A.map λr=>r.p.pc)++(Dq names r.p.pc++Dr names r.p.pc):=by
     unfold md;rw[bf,ly];have:r.p.pc.nm∈names:=hc;simp[this]
    rw[el];generalize md names (A.map λr=>r.p.pc)=acc at hS hb ⊢;subst hS;have VS:acc.length<=920:=by omega
    refine⟨B2 _,_,rfl,?_⟩;have l1:(Dq names r.p.pc).length<=4:=by unfold Dq;rw[aN];have:=c8 (λo=>decide (o∈names)) r.p.w0;exact bt this w0
    have l2:(Dr names r.p.pc).length<=4:=by unfold Dr;rw[aN];have:=c8 (λo=>decide (o∈names)) r.p.w1;exact bt this w1
    have uE:∀(o:Str) (Z:bx),pD (.str o) (aI names) Z=.ok (.bl (decide (o∈names))) Z:=λo Z=>OV rfl;have i0:∀Z,eh r.t (.int 0) Z=.ok (.str r.p.nm) Z:=λZ=>by simp[R5.t]
    have i1:∀Z,eh r.t (.int 1) Z=.ok r.t0 Z:=λZ=>by simp[R5.t]
    have i2:∀Z,eh r.t (.int 2) Z=.ok r.t1 Z:=λZ=>by simp[R5.t]
    have z0:=λx:bA=>(V.yQ [x] hr).a0;have z1:=λx:bA=>(V.yQ [x] hr).a1;have c1:=Vt (ρ:=[aa tr,aa (aI names),aa (.obj S.length),aa r.t]) (S:=S++[.lst (acc.map gs)]) (js:=[3,1]) (l:=r.p.w0) (names:=names) (f:=λo=>(r.p.nm,o)) (it:=M7 c) (tc:=M8 c) (te:=M6 c) (st:=λS'=>cI S' r.t0=aa (r.p.w0.map T.str)) (by omega)
     (by simp[M7,i1,z0]) (z0 _) (λo=>by simp[M8,uE]) (λo=>by simp[M6,i0,gs])
    have c2:=λa2:List (Str×Str)=>Vt (ρ:=[aa tr,aa (aI names),aa (.obj S.length),aa r.t]) (S:=S++[.lst (a2.map gs)]) (js:=[3,1]) (l:=r.p.w1) (names:=names) (f:=λo=>(o,r.p.nm)) (it:=M_ c) (tc:=M' c) (te:=M9 c) (st:=λS'=>cI S' r.t1=aa (r.p.w1.map T.str)) (by omega)
     (by simp[M_,i2,z1]) (z1 _) (λo=>by simp[M',uE]) (λo=>by simp[M9,i0,gs])
    have d1:((r.p.w0.filter λo=>decide (o∈names)).map λo=>(r.p.nm,o))=Dq names r.p.pc:=rfl;have d2:((r.p.w1.filter λo=>decide (o∈names)).map λo=>(o,r.p.nm))=Dr names r.p.pc:=rfl;rw[d1] at c1;rw[d2] at c2;generalize Dq names r.p.pc=n1 at c1 l1 ⊢;generalize Dr names r.p.pc=n2 at c2 l2 ⊢;have x1:=zC (S:=S++[.lst (acc.map gs)]) (k:=S.length) (y:=.lst (n1.map gs)) qv rfl (by simp only[aN];omega);rw[zO,<- bf] at x1;have x2:=zC (S:=S++[.lst ((acc++n1).map gs)]) (k:=S.length) (y:=.lst (n2.map gs)) qv rfl (by simp only[aN,aB];omega);rw[zO,<- bf] at x2;have k1:=lY (S:=S++[.lst (acc.map gs)]) (k:=S.length) qv;have k2:=lY (S:=S++[.lst ((acc++n1).map gs)]) (k:=S.length) qv;have c2:=c2 (acc++n1);refine⟨[aa tr,aa (aI names),aa (.obj S.length),aa r.t],S++[.lst ((acc++n1++n2).map gs)],?_,⟨_,rfl⟩,by rw[aR],?_⟩
    .generalize S++[bA.lst ((acc++n1++n2).map gs)]=Z2 at x2 ⊢
     generalize S++[bA.lst ((acc++n1).map gs)]=Z1 at x1 x2 k2 c2;generalize S++[bA.lst (acc.map gs)]=Z0 at c1 x1 k1 ⊢;simp[Na,k1,c1,x1,k2,c2,x2]
    .simp only[aB,aV]
     omega) (λ_ _ ⟨_,hS,_⟩=>hS▸B2 _)
  rw[aN,nh] at hS;subst hS;simp[Nb,Jw,e]
 refine Mx run (by simp) (az _) qv λt ht=>?_;obtain⟨k,_,rfl⟩:=aq.mp ht;exact Bh (by simp)
end
end DN
namespace DN
open PySem L2 MF
variable {c:Cl}{S:bx}{ρ:Ev}
section
variable {h:Nat}{tr:T}{rs:List R5}
theorem VU{names:List Str}{tn:T}(V:Seen c S h tr rs)(hn:cI S tn=aa (names.map T.str)) :
  BI c [tr,tn] S=.ok (.lst ((jc names (rs.map λr=>r.p.w)).map Lk.t)) S:=by
 have hl:=V.len;have B2:∀x:bA,cI (S++[x]) tr=aa (rs.map R5.t):=λx=>V.tL [x];have Pm:=B2 (.lst []);have run:c9 4 (NB c) [tr,tn] S=.ok (.obj S.length) (S++[.lst ((jc names (rs.map λr=>r.p.w)).map Lk.t)]):=by
  obtain⟨ρ',S',e,⟨x,rfl⟩,hS,_⟩:=CP (ρ:=[aa tr,aa tn,aa (.obj S.length),ae]) (S:=S++[.lst []]) (it:=iL (ah 0)) (g:=c0 3) (body:=IP c) (ts:=rs.map R5.t) (st:=λS'=>cI S' tr=aa (rs.map R5.t)) (S1:=S++[.lst []])
   (λpre ρ S'=>(∃x,ρ=[aa tr,aa tn,aa (.obj S.length),x])/\S'=S++[.lst ((jc names ((rs.take pre.length).map λr=>r.p.w)).map Lk.t)]/\(jc names ((rs.take pre.length).map λr=>r.p.w)).length<=20*pre.length)
   (by simp[Pm]) ⟨⟨_,rfl⟩,rfl,by simp[jc]⟩ (λpre t post ρ S' og ⟨⟨x,hρ⟩,hS,hb⟩=>by
    subst hρ;obtain⟨A,B,rfl,hA,hB⟩:=jI.mp og;obtain⟨r,B,rfl,rfl,hB⟩:=kK.mp hB;have hr:r∈A++r::B:=by simp
    have c5:pre.length=A.length:=by rw[<- hA];simp
    have e1:(A++r::B).take pre.length=A:=by rw[c5];simp
    have e2:(A++r::B).take (pre++[r.t]).length=A++[r]:=by
     rw[aB,aV,c5];exact OQ ..
    rw[e1] at hS hb;rw[e2];have GP:A.length<24:=by rw[aB,aL] at hl;omega
    have O:=V.one r hr;have w2:=O.l2;have w3:=O.l3;have z2:=λx:bA=>(V.yQ [x] hr).a2;have z3:=λx:bA=>(V.yQ [x] hr).a3;have el:jc names ((A++[r]).map λr=>r.p.w)=jc names (A.map λr=>r.p.w)++(if names.contains r.p.nm then yM names r.p.nm r.p.w2 r.p.w3 else[]):=by
     unfold jc;rw[bf,ly];simp[HP.w]
    rw[el];generalize jc names (A.map λr=>r.p.w)=acc at hS hb ⊢;subst hS;have VS:acc.length<=480:=by omega
    refine⟨B2 _,_,rfl,[aa tr,aa tn,aa (.obj S.length),aa r.t],?_⟩;have uE:∀(L:bx),pD (.str r.p.nm) tn (S++L)=.ok (.bl (names.contains r.p.nm)) (S++L):=λL=>CQ (wY (Dp hn));by_cases hc:names.contains r.p.nm=true
    .have c1:=Jn (S:=S++[.lst (acc.map Lk.t)]) (ρ:=[aa tr,aa tn,aa (.obj S.length),aa r.t]) (js:=[3,1]) (nm:=r.p.nm) "needs" (λo=>!names.contains o) (l:=r.p.w2) (by omega) (it:=Nw c) (st:=λS'=>cI S' r.t2=aa (r.p.w2.map T.str)) (tc:=Nx c) (te:=Nv c)
      (by simp[Nw,R5.t,z2]) (z2 _) (λo=>by simp[Nx,Ih (wY (Dp hn))]) (λo=>by simp[Nv,R5.t,Lk.t])
     have c2:=λB3:List Lk=>Jn (S:=S++[.lst (B3.map Lk.t)]) (ρ:=[aa tr,aa tn,aa (.obj S.length),aa r.t]) (js:=[3,1]) (nm:=r.p.nm) "bars" (λo=>names.contains o) (l:=r.p.w3) (by omega) (it:=Nz c) (st:=λS'=>cI S' r.t3=aa (r.p.w3.map T.str)) (tc:=NA c) (te:=Ny c)
      (by simp[Nz,R5.t,z3]) (z3 _) (λo=>by simp[NA,CQ (wY (Dp hn))]) (λo=>by simp[Ny,R5.t,Lk.t])
     have ll:=OS names r.p.nm r.p.w2 r.p.w3;rw[if_pos hc];unfold yM at ll ⊢;rw[aB] at ll;generalize ((r.p.w2.filter λo=>!names.contains o).map λo=>Lk.mk "needs" r.p.nm o)=n1 at c1 ll ⊢;generalize ((r.p.w3.filter λo=>names.contains o).map λo=>Lk.mk "bars" r.p.nm o)=n2 at c2 ll ⊢;have x1:=zC (S:=S++[.lst (acc.map Lk.t)]) (k:=S.length) (y:=.lst (n1.map Lk.t)) qv rfl (by simp only[aN];omega);rw[zO,<- bf] at x1;have x2:=zC (S:=S++[.lst ((acc++n1).map Lk.t)]) (k:=S.length) (y:=.lst (n2.map Lk.t)) qv rfl (by simp only[aN,aB];omega);rw[zO,<- bf] at x2;have k1:=lY (S:=S++[.lst (acc.map Lk.t)]) (k:=S.length) qv;have k2:=lY (S:=S++[.lst ((acc++n1).map Lk.t)]) (k:=S.length) qv;have c2:=c2 (acc++n1);have mi:=uE [.lst (acc.map Lk.t)];rw[hc] at mi;refine⟨S++[.lst ((acc++n1++n2).map Lk.t)],?_,⟨_,rfl⟩,by rw[aR],?_⟩
     .have i0:eh r.t (.int 0) (S++[bA.lst (acc.map Lk.t)])=.ok (.str r.p.nm) (S++[bA.lst (acc.map Lk.t)]):=by simp[R5.t]
      generalize S++[bA.lst ((acc++n1++n2).map Lk.t)]=Z2 at x2 ⊢;generalize S++[bA.lst ((acc++n1).map Lk.t)]=Z1 at x1 x2 k2 c2;generalize S++[bA.lst (acc.map Lk.t)]=Z0 at c1 x1 k1 mi i0 ⊢;simp[IP,i0,mi,k1,c1,x1,k2,c2,x2]
     .simp only[aB,aV]
      omega
    .have hc:names.contains r.p.nm=false:=by simpa using hc
     refine⟨S++[.lst (acc.map Lk.t)],?_,⟨_,rfl⟩,by rw[if_neg (by rw[hc];decide),cE],?_⟩
     .have mi:=uE [.lst (acc.map Lk.t)]
      rw[hc] at mi;have i0:eh r.t (.int 0) (S++[bA.lst (acc.map Lk.t)])=.ok (.str r.p.nm) (S++[bA.lst (acc.map Lk.t)]):=by simp[R5.t]
      simp[IP,i0,mi]
     .rw[if_neg (by rw[hc];decide),cE,aB,aV];omega) (λ_ _ ⟨_,hS,_⟩=>hS▸B2 _)
  rw[aN,nh] at hS;subst hS;simp[NB,e]
 refine Mx run (by simp) (az _) qv λt ht=>?_;obtain⟨k,_,rfl⟩:=aq.mp ht;exact Bh (by simp)
end
theorem Jx{h:Nat}{pl:List jx}{ps:List HP}{names:List Str}{tn:T}(H:fT c S h pl ps)(hn:cI S tn=aa (names.map T.str))(hw:∀p∈ps,p.w2.length<=10/\p.w3.length<=10)(hl:ps.length<=24) :
  wN c [.obj h,tn] S=.ok (.obj S.length) (S++[.lst ((jc names (ps.map HP.w)).map Lk.t)]):=by
 have Pn:=qZ (m:=aG "names") h (by simp) (by simp);have wM:=qZ (m:=aG "find_piece") h (by simp) (by simp);have run:c9 5 (Nt c) [.obj h,tn] S=.ok (.obj S.length) (S++[.lst ((jc names (ps.map HP.w)).map Lk.t)]):=by
  have wR:=Ul (H.app (L:=[.lst []]));have i0:=(H.app (L:=[.lst []])).ins;have ou:iL (lX c.hall "names" (bz 1 (zL c)) [] (ah 0) aJ) [aa (.obj h),aa tn,aa (.obj S.length),ae,ae] (S++[.lst []])=.ok ((ps.map (·.nm)).map T.str,λS'=>cI S' (aI (ps.map (·.nm)))=aa ((ps.map (·.nm)).map T.str)) (S++[.lst []]):=by
   generalize S++[bA.lst []]=Z at wR i0 ⊢;generalize hN:ps.map (·.nm)=N at wR ⊢;simp[i0,Pn,wR,aI]
  obtain⟨ρ',S',e,⟨x,y,rfl⟩,hS,_⟩:=CP (ρ:=[aa (.obj h),aa tn,aa (.obj S.length),ae,ae]) (S:=S++[.lst []]) (g:=c0 3) (body:=II c) (S1:=S++[.lst []])
   (λpre ρ S'=>(∃x y,ρ=[aa (.obj h),aa tn,aa (.obj S.length),x,y])/\S'=S++[.lst ((jc names ((ps.take pre.length).map HP.w)).map Lk.t)]/\(jc names ((ps.take pre.length).map HP.w)).length<=20*pre.length)
   ou ⟨⟨_,_,rfl⟩,rfl,by simp[jc]⟩ (λpre t post ρ S' og ⟨⟨x,y,hρ⟩,hS,hb⟩=>by
    subst hρ;rw[aU] at og;obtain⟨A,B,rfl,hA,hB⟩:=jI.mp og;obtain⟨p,B,rfl,rfl,hB⟩:=kK.mp hB;have c5:pre.length=A.length:=by rw[<- hA];simp
    have e1:(A++p::B).take pre.length=A:=by rw[c5];simp
    have e2:∀t:T,(A++p::B).take (pre++[t]).length=A++[p]:=λt=>by
     rw[aB,aV,c5];exact OQ ..
    rw[e1] at hS hb;rw[e2];have GP:A.length<24:=by rw[aB,aL] at hl;omega
    have w:=hw p (by simp);have el:jc names ((A++[p]).map HP.w)=jc names (A.map HP.w)++(if names.contains p.nm then yM names p.nm p.w2 p.w3 else[]):=by
     unfold jc;rw[bf,ly];simp[HP.w]
    rw[el];generalize jc names (A.map HP.w)=acc at hS hb ⊢;subst hS;have VS:acc.length<=480:=by omega
    refine⟨rfl,_,rfl,?_⟩;have uE:∀(L:bx),pD (.str p.nm) tn (S++L)=.ok (.bl (names.contains p.nm)) (S++L):=λL=>CQ (wY (Dp hn));have P:=H.piece p (by simp);by_cases hc:names.contains p.nm=true
    .have HA:=λL:bx=>H.app (L:=L)
     have g1:=λL:bx=>rD (P.app (L:=L)).o;have g2:=λL:bx=>jG (P.app (L:=L)).a2;have g3:=λL:bx=>jG (P.app (L:=L)).a3;have c1:=Jn (S:=S++[.lst (acc.map Lk.t)]) (ρ:=[aa (.obj h),aa tn,aa (.obj S.length),aa (.str p.nm),aa (.obj p.i)]) (js:=[3,1]) (nm:=p.nm) "needs" (λo=>!names.contains o) (l:=p.w2) (by omega) (it:=Nl c) (st:=λS'=>cI S' (.obj (p.i+3))=aa (p.w2.map T.str)) (tc:=Nn c) (te:=Nk c)
      (by simp[Nl,g1,Ur,g2]) (g2 _) (λo=>by simp[Nn,Ih (wY (Dp hn))]) (λo=>by simp[Nk,Lk.t])
     have c2:=λB3:List Lk=>Jn (S:=S++[.lst (B3.map Lk.t)]) (ρ:=[aa (.obj h),aa tn,aa (.obj S.length),aa (.str p.nm),aa (.obj p.i)]) (js:=[3,1]) (nm:=p.nm) "bars" (λo=>names.contains o) (l:=p.w3) (by omega) (it:=Nq c) (st:=λS'=>cI S' (.obj (p.i+4))=aa (p.w3.map T.str)) (tc:=Nr c) (te:=Np c)
      (by simp[Nq,g1,Us,g3]) (g3 _) (λo=>by simp[Nr,CQ (wY (Dp hn))]) (λo=>by simp[Np,Lk.t])
     have ll:=OS names p.nm p.w2 p.w3;rw[if_pos hc];unfold yM at ll ⊢;rw[aB] at ll;generalize ((p.w2.filter λo=>!names.contains o).map λo=>Lk.mk "needs" p.nm o)=n1 at c1 ll ⊢;generalize ((p.w3.filter λo=>names.contains o).map λo=>Lk.mk "bars" p.nm o)=n2 at c2 ll ⊢;have x1:=zC (S:=S++[.lst (acc.map Lk.t)]) (k:=S.length) (y:=.lst (n1.map Lk.t)) qv rfl (by simp only[aN];omega);rw[zO,<- bf] at x1;have x2:=zC (S:=S++[.lst ((acc++n1).map Lk.t)]) (k:=S.length) (y:=.lst (n2.map Lk.t)) qv rfl (by simp only[aN,aB];omega);rw[zO,<- bf] at x2;have k1:=lY (S:=S++[.lst (acc.map Lk.t)]) (k:=S.length) qv;have k2:=lY (S:=S++[.lst ((acc++n1).map Lk.t)]) (k:=S.length) qv;have c2:=c2 (acc++n1);have mi:=uE [.lst (acc.map Lk.t)];rw[hc] at mi;have hf:=Dl (HA [.lst (acc.map Lk.t)]) (z2z H.nd);have hi:=(HA [.lst (acc.map Lk.t)]).ins;refine⟨[aa (.obj h),aa tn,aa (.obj S.length),aa (.str p.nm),aa (.obj p.i)],S++[.lst ((acc++n1++n2).map Lk.t)],?_,⟨_,_,rfl⟩,by rw[aR],?_⟩
     .generalize S++[bA.lst ((acc++n1++n2).map Lk.t)]=Z2 at x2 ⊢
      generalize S++[bA.lst ((acc++n1).map Lk.t)]=Z1 at x1 x2 k2 c2;generalize S++[bA.lst (acc.map Lk.t)]=Z0 at c1 x1 k1 mi hf hi ⊢;simp[II,mi,hi,wM,hf,k1,c1,x1,k2,c2,x2]
     .simp only[aB,aV]
      omega
    .have hc:names.contains p.nm=false:=by simpa using hc
     refine⟨[aa (.obj h),aa tn,aa (.obj S.length),aa (.str p.nm),y],S++[.lst (acc.map Lk.t)],?_,⟨_,_,rfl⟩,by rw[if_neg (by rw[hc];decide),cE],?_⟩
     .have mi:=uE [.lst (acc.map Lk.t)]
      rw[hc] at mi;simp[II,mi]
     .rw[if_neg (by rw[hc];decide),cE,aB,aV];omega) (λ_ _ _=>rfl)
  rw[aN,aN,nh] at hS;subst hS;simp[Nt,e]
 exact run
end DN
namespace DN
open PySem L2 MF
variable {c:Cl}{S:bx}{ρ:Ev}
section
variable {h:Nat}{tr:T}{rs:List R5}
def HP.strip(p:HP):HP:={ p with br:=ae }
theorem z03(names:List Str)(ps:List HP):oG names (ps.map HP.strip)=oG names ps:=by
 unfold oG;rw[List.foldl_map];rfl
abbrev yR(rs:List R5):Str->List Str:=oG (fU rs) (rs.map (·.p))
abbrev Pp(rs:List R5):List (Str×Str):=md (fU rs) (rs.map λr=>r.p.pc)
theorem Seen.nd(V:Seen c S h tr rs):(fU rs).Nodup:=by
 have:=V.hall.nd;rw[aU] at this;exact this
theorem Seen.ord(V:Seen c S h tr rs):Ge (fU rs) (yR rs) (Pp rs)/\Jj (fU rs) (yR rs):=by
 have hc:((rs.map (·.p)).map HP.strip).map HP.core=(rs.map λr=>r.p.pc).map Pc.full:=by
  rw[aU,aU,aU];rfl
 have nd:((rs.map λr=>r.p.pc).map (·.nm)).Nodup:=by
  rw[aU];exact V.nd
 have Pq:(rs.map λr=>r.p.pc).filter v_=rs.map λr=>r.p.pc:=eI.mpr λq hq=>by
  obtain⟨r,hr,rfl⟩:=aq.mp hq;have O:=V.one r hr;have e1:r.p.pc.pl = "hub":=O.pl;have e2:r.p.pc.on=true:=O.on;simp[v_,e1,e2]
 have Pr:((rs.map (·.p)).map HP.strip).filter oM=(rs.map (·.p)).map HP.strip:=eI.mpr λq hq=>by
  obtain⟨p,hp,rfl⟩:=aq.mp hq;obtain⟨r,hr,rfl⟩:=aq.mp hp;have O:=V.one r hr;have e1:r.p.strip.pl = "hub":=O.pl;have e2:r.p.strip.on=true:=O.on;simp[oM,e1,e2]
 have hN:kj (rs.map λr=>r.p.pc)=fU rs:=by
  unfold kj;rw[Pq,aU];rfl
 have D:Vw (rs.map λr=>r.p.pc):=⟨nd,by have:=V.len;simp;omega,λp hp=>by
  obtain⟨r,hr,rfl⟩:=aq.mp hp;have O:=V.one r hr;have a:r.p.pc.w0.length<=4:=O.l0;have b:r.p.pc.w1.length<=4:=O.l1;omega,λp hp=>by
  obtain⟨r,hr,rfl⟩:=aq.mp hp;exact(V.one r hr).nm.sm⟩
 have R:=Zaf hc nd;have K:=Zcc hc D;rw[Pr,hN,z03] at R K;exact⟨R,K⟩
theorem Seen.zU(V:Seen c S h tr rs):∀x∈fU rs,lW x:=λx hx=>by
 obtain⟨r,hr,rfl⟩:=aq.mp hx;exact(V.one r hr).nm.ok
theorem zxg(V:Seen c S h tr rs):zI c [aI (fU rs),.lst ((Pp rs).map gs)] S=.ok (match topo (yR rs) (fU rs).length (fU rs) [] with|some res=>aI res | none=>.bY) S:=
 zuf V.ord.1 V.zU (by have:=V.len;simp;omega) V.nd
theorem z04(V:Seen c S h tr rs) :
  (∀res,topo (yR rs) (fU rs).length (fU rs) []=aa res->∃S',BF c [.obj h,.str "hub"] S=.ok (.obj (S.length+1)) S'/\S'[S.length+1]?=aa (.lst (res.map .str))/\∀j,j<S.length->S'[j]?=S[j]?) /\
  (topo (yR rs) (fU rs).length (fU rs) []=ae->∃S' ring,BF c [.obj h,.str "hub"] S=.exc c.ring (aa [("ring",aI ring)]) S'/\(∀j,j<S.length->S'[j]?=S[j]?)):=by
 have A:=V.hall;have ma:=qZ (m:=aG "at") h (by simp) (by simp);have ea:=OB A (q := "hub") (pm:=⟨"hub", "all", "hold",h+3⟩) (by simp[lL]) (by have:=V.len;simp;omega);have fl:(rs.map (·.p)).filter (λp=>decide (p.pl=("hub" : Str))&&p.on)=rs.map (·.p):=eI.mpr λq hq=>by
  obtain⟨r,hr,rfl⟩:=aq.mp hq;have O:=V.one r hr;simp[O.pl,O.on]
 have Jy:(rs.map (·.p)).map (·.nm)=fU rs:=by rw[aU];rfl
 rw[fl,Jy] at ea;obtain⟨p1,p2⟩:=zqr A (names:=fU rs) V.nd Jy (λq hq=>by
  obtain⟨r,hr,rfl⟩:=aq.mp hq;have O:=V.one r hr;have a:=O.l0;have b:=O.l1;exact⟨hq,by omega⟩) V.ord.2
 have i0:=A.ins;refine⟨λres hr=>?_,λhr=>?_⟩
 .obtain⟨S',e,g,k⟩:=p1 res hr
  exact⟨S',by simp[BF,Nj,i0,ma,ea,e],g,k⟩
 .obtain⟨S',ring,e,k,sh⟩:=p2 hr
  exact⟨S',ring,by simp[BF,Nj,i0,ma,ea,e],k⟩
def B4:Option (List Str)->T
 |some res=>.tup [.str "names",aI res]
 |none=>.tup [.str "ring"]
theorem z05(V:Seen c S h tr rs)(nd:[c.noPiece,c.ring,c.barred].Nodup):BG c [.obj h] S=.ok (B4 (topo (yR rs) (fU rs).length (fU rs) [])) S:=by
 obtain⟨p1,p2⟩:=z04 V;cases et:topo (yR rs) (fU rs).length (fU rs) [] with
 | some res=>
   obtain⟨S',eo,g,k⟩:=p1 res et;have run:c9 2 (IH c) [.obj h] S=.ok (.tup [.str "names",.obj (S.length+1)]) S':=by simp[IH,IG,eo]
   unfold BG iU;rw[run];simp only[if_pos (Ds k)];have e:fz S' S.length 6 (.tup [.str "names",.obj (S.length+1)])=aa (.tup [.str "names",aI res]):=by
    unfold fz;rw[if_neg (by simp[HB,ug])];have e2:fz S' S.length 5 (.obj (S.length+1))=aa (aI res):=by
     unfold fz;rw[if_neg (by simp only[HB];omega)];simp only[g];rw[Mw λt ht=>E_ (by obtain⟨x,_,rfl⟩:=aq.mp ht;exact My _ _)];rfl
    have e1:fz S' S.length 5 (.str "names")=aa (.str "names"):=E_ (My _ _);simp[hW,e1,e2]
   rw[e];rfl
 | none=>
   obtain⟨S',ring,eo,k⟩:=p2 et;have er:lZ [c.noPiece,c.ring,c.barred] c.ring c.ring=aa true:=by simp[lZ]
   refine zB (S':=S') ?_ (Ds k) (Bh (by simp));simp[IH,IG,eo,Bj,er,qt,TZ,mx];rfl
theorem z3a:fD (aG "names")=true:=by decide +kernel
theorem z3b(V:Seen c S h tr rs){res:List Str}(e:topo (yR rs) (fU rs).length (fU rs) []=aa res):∀x∈res,lW x:=λx hx=>by
 obtain⟨uB,e1,hp,_⟩:=UH _ V.nd rfl e;rw[cH] at e1;subst e1;exact V.zU x (hp.mem_iff.mp hx)
theorem VW{l:List Str}(hl:∀x∈l,lW x):kC (.tup [.str "names",aI l]) (.tup [.str "names",aI l]) S=.ok (.bl false) S:=by
 have e:mv S (.tup [.str "names",aI l])=aa (.tuple [.str "names",.list (l.map .str)]):=by simp[mv,pd,nY,aI,F9]
 have k:bN (.tuple [.str "names",.list (l.map .str)])=true:=by
  have:=z3a;have h2:=BX hl;simp[bN,bR,this,h2]
 have:=zT (S:=S) (x:=.tup [.str "names",aI l]) (.inl rfl) e e k k (by simp[dC,cq,F_]);have ev:bX (.tuple [.str "names",.list (l.map .str)]) (.tuple [.str "names",.list (l.map .str)])=true:=by simp[bX,dh,Ga]
 simp[kC,this,ev]
theorem z6v:kC (.tup [.str "ring"]) (.tup [.str "ring"]) S=.ok (.bl false) S:=by
 have:=z6m (S:=S);unfold iR at this;unfold kC;cases e:rB S (.tup [.str "ring"]) (.tup [.str "ring"]) with
 |none=>rw[e] at this;cases this
 | some b=>
   rw[e] at this;cases b with
   |true=>rfl
   |false=>simp at this
end
end DN
namespace DN
open PySem L2 MF
variable {c:Cl}{S:bx}{ρ:Ev}
section
variable {nd:Str->Option (List Str)}{C:Str->Prop}{x:Str}{N:List Str}
def oN(nd:Str->Option (List Str)):List Str->List Str->Option (List Str)
 |[],f=>aa f
 | w::ws,f=>match nd w with
   |none=>ae
   |some _=>oN nd ws (if w∈f then f else f++[w])
def wZ(nd:Str->Option (List Str)):List Str->List Str->Option (List Str)
 |[],f=>aa f
 | o :: os,f=>match nd o with
   |none=>ae
   | some ws=>match oN nd ws f with
     |none=>ae
     |some f'=>wZ nd os f'
def w4(nd:Str->Option (List Str)):Nat->List Str->Option (List Str)
 |0,f=>aa f
 | k+1,f=>match wZ nd f f with
   |none=>ae
   |some f'=>w4 nd k f'
structure mj(nd:Str->Option (List Str))(f f':List Str):Prop where
 sub:∀y∈f,y∈f'
 Jz:f.Nodup->f'.Nodup
 JA:(∀y∈f,∃ws,nd y=aa ws)->∀y∈f',∃ws,nd y=aa ws
 len:f'=f\/f.length<f'.length
theorem mj.refl(f:List Str):mj nd f f:=⟨λ_ h=>h,λh=>h,λh=>h,.inl rfl⟩
theorem mj.trans{f g e:List Str}(a:mj nd f g)(b:mj nd g e):mj nd f e:=⟨λy h=>b.sub y (a.sub y h),λh=>b.Jz (a.Jz h),λh=>b.JA (a.JA h),by
 rcases a.len with rfl | h1
 .exact b.len
 .rcases b.len with rfl | h2
  .exact .inr h1
  .exact .inr (by omega)⟩
theorem Pt:∀(ws f:List Str) {f':List Str},oN nd ws f=aa f'->mj nd f f'/\∀w∈ws,w∈f'
 | [],f,f',e=>by
   cases e;exact⟨mj.refl f,λw h=>nomatch h⟩
 | w :: ws,f,f',e=>by
   unfold oN at e;cases hw:nd w with
   |none=>rw[hw] at e;cases e
   | some wl=>
     rw [hw] at e;obtain⟨g,i⟩:=Pt ws _ e;have g1:mj nd f (if w∈f then f else f++[w]):=by
      by_cases h:w∈f
      .rw[if_pos h];exact mj.refl f
      .rw[if_neg h]
       refine⟨λy hy=>bw _ hy,λn=>?_,λd y hy=>?_,.inr (by simp)⟩
       .rw[b_]
        exact⟨n,by simp,λa ha b hb=>by
         rw[ai] at hb;subst hb;exact λq=>h (q▸ha)⟩
       .rcases aH.mp hy with hy | hy
        .exact d y hy
        .rw[ai] at hy
         subst hy;exact⟨_,hw⟩
     refine⟨g1.trans g,λy hy=>?_⟩;rcases aF.mp hy with rfl | hy
     .refine g.sub _ ?_
      by_cases h:y∈f
      .rw[if_pos h];exact h
      .rw[if_neg h];simp
     .exact i y hy
theorem Pu:∀(os f:List Str) {f':List Str},wZ nd os f=aa f'->mj nd f f'/\∀o∈os,∃ws,nd o=aa ws/\∀w∈ws,w∈f'
 | [],f,f',e=>by
   cases e;exact⟨mj.refl f,λw h=>nomatch h⟩
 | o :: os,f,f',e=>by
   unfold wZ at e;cases ho:nd o with
   |none=>rw[ho] at e;cases e
   | some ws=>
     rw[ho] at e;simp only at e;cases ha:oN nd ws f with
     |none=>rw[ha] at e;cases e
     | some f1=>
       rw[ha] at e;obtain⟨g1,i1⟩:=Pt ws f ha;obtain⟨g2,i2⟩:=Pu os f1 e;refine⟨g1.trans g2,λy hy=>?_⟩;rcases aF.mp hy with rfl | hy
       .exact⟨ws,ho,λw hw=>g2.sub w (i1 w hw)⟩
       .exact i2 y hy
theorem VX(hC:yN nd C):∀(ws f:List Str),(∀y∈ws,C y)->(∀y∈f,C y)->∃f',oN nd ws f=aa f'/\∀y∈f',C y
 |[],f,_,hf=>⟨f,rfl,hf⟩
 | w :: ws,f,hw,hf=>by
   obtain⟨wl,e,_⟩:=hC w (hw w (ay ..));obtain⟨f',e2,h2⟩:=VX hC ws (if w∈f then f else f++[w]) (λy hy=>hw y (au _ hy)) λy hy=>by
    by_cases h:w∈f
    .rw[if_pos h] at hy;exact hf y hy
    .rw[if_neg h] at hy
     rcases aH.mp hy with hy | hy
     .exact hf y hy
     .rw[ai] at hy
      subst hy;exact hw _ (ay ..)
   exact⟨f',by unfold oN;rw[e];exact e2,h2⟩
theorem Pw(hC:yN nd C):∀(os f:List Str),(∀y∈os,C y)->(∀y∈f,C y)->∃f',wZ nd os f=aa f'/\∀y∈f',C y
 |[],f,_,hf=>⟨f,rfl,hf⟩
 | o::os,f,ho,hf=>by
   obtain⟨ws,e,hw⟩:=hC o (ho o (ay ..));obtain⟨f1,e1,h1⟩:=VX hC ws f hw hf;obtain⟨f2,e2,h2⟩:=Pw hC os f1 (λy hy=>ho y (au _ hy)) h1;exact⟨f2,by unfold wZ;simp only[e,e1];exact e2,h2⟩
theorem VY(hC:yN nd C):∀(k:Nat) (f:List Str),(∀y∈f,C y)->∃f',w4 nd k f=aa f'/\∀y∈f',C y
 |0,f,hf=>⟨f,rfl,hf⟩
 | k+1,f,hf=>by
   obtain⟨f1,e1,h1⟩:=Pw hC f f hf hf;obtain⟨f2,e2,h2⟩:=VY hC k f1 h1;exact⟨f2,by unfold w4;rw[e1];exact e2,h2⟩
theorem VZ (hN:∀y ws,nd y=aa ws->y∈N):∀(k j:Nat) (f:List Str) {F:List Str},f.Nodup->(∀y∈f,∃ws,nd y=aa ws)->(yN nd (·∈f)\/j<=f.length)->N.length<j+k->w4 nd k f=aa F->yN nd (·∈F)/\∀y∈f,y∈F
 | 0,j,f,F,hn,hd,hj,hk,e=>by
   cases e;refine⟨?_,λy h=>h⟩;rcases hj with h | h
   .exact h
   .have:=tF f N hn λy hy=>by
     obtain⟨ws,e⟩:=hd y hy;exact hN y ws e
    omega
 | k + 1,j,f,F,hn,hd,hj,hk,e=>by
   unfold w4 at e;cases h1:wZ nd f f with
   |none=>rw[h1] at e;cases e
   | some f1=>
     rw [h1] at e;obtain⟨g,i⟩:=Pu f f h1;have hj1:yN nd (·∈f1)\/j+1<=f1.length:=by
      rcases g.len with rfl | hl
      .exact .inl λy hy=>i y hy
      .rcases hj with hc | hc
       .refine .inl ?_
        obtain⟨f2,e2,h2⟩:=Pw hc f f (λ_ h=>h) λ_ h=>h;rw[h1] at e2;cases e2;intro y hy;obtain⟨ws,e3,h3⟩:=hc y (h2 y hy);exact⟨ws,e3,λz hz=>g.sub z (h3 z hz)⟩
       .exact .inr (by omega)
     obtain⟨r1,r2⟩:=VZ hN k (j+1) f1 (g.Jz hn) (g.JA hd) hj1 (by omega) e;exact⟨r1,λy hy=>r2 y (g.sub y hy)⟩
def qw(nd:Str->Option (List Str))(k:Nat)(x:Str):Option (List Str):=match nd x with
 |none=>ae
 |some _=>w4 nd k [x]
theorem Zam(hN:∀y ws,nd y=aa ws->y∈N){f:Nat}{res:Option (List Str)}(hg:rF nd f [] [x]=aa res) :
  match res with
  |none=>qw nd N.length x=ae
  |some G=>∃F,qw nd N.length x=aa F/\∀y,y∈F↔y∈G:=by
 have cl:∀{F:List Str},qw nd N.length x=aa F->yN nd (·∈F)/\x∈F:=λ{F} e=>by
  unfold qw at e;cases hx:nd x with
  |none=>rw[hx] at e;cases e
  | some ws=>
    rw[hx] at e;obtain⟨r1,r2⟩:=VZ hN N.length 1 [x] (by simp) (λy hy=>by rw[ai] at hy;subst hy;exact⟨_,hx⟩) (.inr (by simp)) (by omega) e;exact⟨r1,r2 x (by simp)⟩
 cases res with
 | none=>
   show qw nd N.length x=ae;cases e:qw nd N.length x with
   |none=>rfl
   | some F=>
     obtain⟨r1,r2⟩:=cl e;obtain⟨G,h1,_⟩:=Js r1 f [] [x] (λy hy=>absurd hy bK) (λy hy=>by rw[ai] at hy;subst hy;exact r2) hg;cases h1
 | some G=>
   obtain⟨_,g2,g3⟩:=O3 f [] [x] (λy hy=>absurd hy bK) hg;have cG:yN nd (·∈G):=g3;obtain⟨ws,hx,_⟩:=g3 x (g2 x (by simp));obtain⟨F,e1,e2⟩:=VY cG N.length [x] λy hy=>g2 y hy;have V0:qw nd N.length x=aa F:=by unfold qw;rw[hx];exact e1
   refine⟨F,V0,λy=>⟨e2 y,λhy=>?_⟩⟩;obtain⟨r1,r2⟩:=cl V0;obtain⟨G',h1,h2⟩:=Js r1 f [] [x] (λy hy=>absurd hy bK) (λy hy=>by rw[ai] at hy;subst hy;exact r2) hg;cases h1;exact h2 y hy
end
end DN
namespace DN
open PySem L2 MF
variable {c:Cl}{S:bx}{ρ:Ev}
section
variable {h kn kf:Nat}{tr:T}{rs:List R5}{S0:bx}
def nD(rs:List R5):List (b9×T):=rs.map λr=>(.inr r.p.nm,r.t2)
theorem V4(x:Str):∀(rs:List R5),cU (nD rs) (.inr x)=(rs.find? λr=>decide (r.p.nm=x)).map λr=>r.t2
 |[]=>rfl
 | p :: ps=>by
   have ih:=V4 x ps;by_cases h:p.p.nm=x
   .have:cU (nD (p::ps)) (.inr x)=aa p.t2:=by simp[cU,nD,h]
    rw[this];simp[h]
   .have e:cU (nD (p::ps)) (.inr x)=cU (nD ps) (.inr x):=by
     simp[cU,nD,bT,h]
    rw[e,ih];simp[h]
def gS(rs:List R5)(x:Str):Option (List Str):=(rs.find? λr=>decide (r.p.nm=x)).map λr=>r.p.w2
theorem z6w(x:Str):uC (rs.map (·.p)) x=gS rs x:=by
 unfold uC gS;rw[List.find?_map,Option.map_map];rfl
theorem Du(x:Str):(gS rs x=ae/\cU (nD rs) (.inr x)=ae)\/∃r∈rs,r.p.nm=x/\gS rs x=aa r.p.w2/\cU (nD rs) (.inr x)=aa r.t2:=by
 rw[V4];unfold gS;cases e:rs.find? λr=>decide (r.p.nm=x) with
 |none=>exact .inl ⟨rfl,rfl⟩
 |some r=>exact .inr ⟨r,dR e,by simpa using zb e,rfl,rfl⟩
structure zY(S0 S:bx)(kn kf:Nat)(rs:List R5)(f:List Str):Prop where
 dn:S[kn]?=aa (.dic (nD rs))
 lf:S[kf]?=aa (.lst (f.map .str))
 old:∀j,j<S0.length->S[j]?=S0[j]?
 ne:kn≠kf
 hi:S0.length<=kf
abbrev eF(tr:T)(t1:Option T)(kn kf:Nat)(x3 x5 x6 x7:Option T):Ev:=[aa tr,t1,aa (.obj kn),x3,aa (.obj kf),x5,x6,x7,ae,ae]
theorem Px{st:bx->Prop}{t1 x3 x5 x6:Option T}(dI:∀S',(∀j,j<S0.length->S'[j]?=S0[j]?)->st S'):∀(ws f:List Str) {x7:Option T} {S:bx},zY S0 S kn kf rs f->f.length+ws.length<=900 ->
  match oN (gS rs) ws f with
  |some f'=>∃S' tK,dz st (c0 7) (wO c) (ws.map .str) (eF tr t1 kn kf x3 x5 x6 x7) S=.ok (.nx (eF tr t1 kn kf x3 x5 x6 tK)) S'/\zY S0 S' kn kf rs f'
  |none=>∃S',dz st (c0 7) (wO c) (ws.map .str) (eF tr t1 kn kf x3 x5 x6 x7) S=.ok (.rt (.tup [.str "piece"])) S'/\∀j,j<S0.length->S'[j]?=S0[j]?
 |[],f,x7,S,W,_=>⟨S,x7,zX (dI S W.old),W⟩
 | w :: ws,f,x7,S,W,hl=>by
   rw[aL] at hl;unfold oN;have dd:=vX W.dn;rcases Du (rs:=rs) w with⟨e1,e2⟩ | ⟨r,hr,hn,e1,e2⟩
   .rw[e1]
    refine⟨S,?_,W.old⟩;have hb:wO c (eF tr t1 kn kf x3 x5 x6 (aa (.str w))) S=.ok (.rt (.tup [.str "piece"])) S:=by
     simp[wO,m8,dd,dF,e2]
    rw[aE,dz];simp only[if_pos (dI S W.old)];show(M.bind (wO c (eF tr t1 kn kf x3 x5 x6 (aa (.str w)))) _) S=_;rw[eL,hb];rfl
   .rw[e1]
    simp only;have AJ:=Ih (x:=w) (wY (jG W.lf));by_cases hw:w∈f
    .rw[if_pos hw]
     have hb:wO c (eF tr t1 kn kf x3 x5 x6 (aa (.str w))) S=.ok (.nx (eF tr t1 kn kf x3 x5 x6 (aa (.str w)))) S:=by
      have:f.contains w=true:=by simpa using hw
      rw[this] at AJ;simp[wO,m8,dd,dF,e2,AJ]
     have ih:=Px (t1:=t1) (x3:=x3) (x5:=x5) (x6:=x6) dI ws f (x7:=aa (.str w)) W (by omega);rw[aE,wa (ρ1:=eF tr t1 kn kf x3 x5 x6 (aa (.str w))) (dI S W.old) rfl hb];exact ih
    .rw[if_neg hw]
     have ap:=xU (y:=.str w) W.lf (by simp;omega);have ok:=lY W.lf;have hb:wO c (eF tr t1 kn kf x3 x5 x6 (aa (.str w))) S=.ok (.nx (eF tr t1 kn kf x3 x5 x6 (aa (.str w)))) (S.set kf (.lst (f.map .str++[.str w]))):=by
      have:f.contains w=false:=by simpa using hw
      rw[this] at AJ;simp[wO,m8,dd,dF,e2,AJ,ok,ap]
     have W':zY S0 (S.set kf (.lst (f.map .str++[.str w]))) kn kf rs (f++[w]):=⟨by rw[dN W.ne.symm];exact W.dn,by rw[lK W.lf];simp,λj hj=>by rw[dN (by have:=W.hi;omega)];exact W.old j hj,W.ne,W.hi⟩;have ih:=Px (t1:=t1) (x3:=x3) (x5:=x5) (x6:=x6) dI ws (f++[w]) (x7:=aa (.str w)) W' (by rw[aB,aV];omega);rw[aE,wa (ρ1:=eF tr t1 kn kf x3 x5 x6 (aa (.str w))) (dI S W.old) rfl hb];exact ih
def zZ(rs:List R5)(f:List Str):Prop:=f.Nodup/\∀y∈f,∃ws,gS rs y=aa ws
theorem V5{y:Str}{ws:List Str}(e:gS rs y=aa ws):y∈fU rs:=by
 rcases Du (rs:=rs) y with⟨e1,_⟩ | ⟨r,hr,hn,_,_⟩
 .rw[e1] at e;cases e
 .exact aq.mpr ⟨r,hr,hn⟩
theorem zZ.len{f:List Str}(h:zZ rs f):f.length<=rs.length:=by
 have:=tF f (fU rs) h.1 λy hy=>by
  obtain⟨ws,e⟩:=h.2 y hy;exact V5 e
 simpa using this
theorem zZ.grow{f f':List Str}(h:zZ rs f)(g:mj (gS rs) f f'):zZ rs f':=⟨g.Jz h.1,g.JA h.2⟩
theorem V6{t1 x3 x6:Option T}{st:bx->Prop}(dI:∀S,st S)(V:Seen c S0 h tr rs):∀(os f:List Str) {x5 x7:Option T} {S:bx},zY S0 S kn kf rs f->zZ rs f->(∀y∈os,∃ws,gS rs y=aa ws) ->
  match wZ (gS rs) os f with
  |some f'=>∃S' kS tK,dz st (c0 5) (C9 c) (os.map .str) (eF tr t1 kn kf x3 x5 x6 x7) S=.ok (.nx (eF tr t1 kn kf x3 kS x6 tK)) S'/\zY S0 S' kn kf rs f'
  |none=>∃S',dz st (c0 5) (C9 c) (os.map .str) (eF tr t1 kn kf x3 x5 x6 x7) S=.ok (.rt (.tup [.str "piece"])) S'/\∀j,j<S0.length->S'[j]?=S0[j]?
 |[],f,x5,x7,S,W,_,_=>⟨S,x5,x7,zX (dI S),W⟩
 | o :: os,f,x5,x7,S,W,F,hd=>by
   unfold wZ;have dd:=vX W.dn;rcases Du (rs:=rs) o with⟨e1,v2⟩ | ⟨r,hr,hn,e1,v2⟩
   .obtain⟨ws,e⟩:=hd o (ay ..)
    rw[e1] at e;cases e
   .rw[e1]
    simp only;have l2:=(V.one r hr).l2;have lF:=F.len;have lV:=V.len;have a2:∀S',(∀j,j<S0.length->S'[j]?=S0[j]?)->cI S' r.t2=aa (r.p.w2.map .str):=λS' hs=>(V.row S' hs r hr).a2;have L:=Px (c:=c) (tr:=tr) (t1:=t1) (x3:=x3) (x5:=aa (.str o)) (x6:=x6) (st:=λS'=>cI S' r.t2=aa (r.p.w2.map .str)) a2 r.p.w2 f (x7:=x7) W (by omega);have ou:iL (e2 iS (ah 2) (ah 5)) (eF tr t1 kn kf x3 (aa (.str o)) x6 x7) S=.ok (r.p.w2.map .str,λS'=>cI S' r.t2=aa (r.p.w2.map .str)) S:=by
     simp[iS,dd,dF,v2,a2 S W.old]
    cases ha:oN (gS rs) r.p.w2 f with
    | none=>
      rw[ha] at L;obtain⟨S',l,o'⟩:=L;refine⟨S',?_,o'⟩;have hb:C9 c (eF tr t1 kn kf x3 (aa (.str o)) x6 x7) S=.ok (.rt (.tup [.str "piece"])) S':=(sF ou).trans l;rw[aE,dz];simp only[if_pos (dI S)];show(M.bind (C9 c (eF tr t1 kn kf x3 (aa (.str o)) x6 x7)) _) S=_;rw[eL,hb];rfl
    | some f1=>
      rw[ha] at L;obtain⟨S',tK,l,W'⟩:=L;have hb:C9 c (eF tr t1 kn kf x3 (aa (.str o)) x6 x7) S=.ok (.nx (eF tr t1 kn kf x3 (aa (.str o)) x6 tK)) S':=(sF ou).trans l;have ih:=V6 (t1:=t1) (x3:=x3) (x6:=x6) dI V os f1 (x5:=aa (.str o)) (x7:=tK) W' (F.grow (Pt _ _ ha).1) λy hy=>hd y (au _ hy);rw[aE,wa (ρ1:=eF tr t1 kn kf x3 (aa (.str o)) x6 x7) (dI S) rfl hb];exact ih
theorem V7{t1 x3:Option T}{st:bx->Prop}(dI:∀S,st S)(V:Seen c S0 h tr rs):∀(ks:List T) (f:List Str) {x5 x6 x7:Option T} {S:bx},zY S0 S kn kf rs f->zZ rs f ->
  match w4 (gS rs) ks.length f with
  |some f'=>∃S' kS oJ tK,dz st (c0 6) (C_ c) ks (eF tr t1 kn kf x3 x5 x6 x7) S=.ok (.nx (eF tr t1 kn kf x3 kS oJ tK)) S'/\zY S0 S' kn kf rs f'
  |none=>∃S',dz st (c0 6) (C_ c) ks (eF tr t1 kn kf x3 x5 x6 x7) S=.ok (.rt (.tup [.str "piece"])) S'/\∀j,j<S0.length->S'[j]?=S0[j]?
 |[],f,x5,x6,x7,S,W,_=>⟨S,x5,x6,x7,zX (dI S),W⟩
 | k :: ks,f,x5,x6,x7,S,W,F=>by
   rw[aL];unfold w4;have L:=V6 (c:=c) (t1:=t1) (x3:=x3) (x6:=aa k) (st:=λS'=>cI S' (aI f)=aa (f.map .str)) (λ_=>rfl) V f f (x5:=x5) (x7:=x7) W F F.2;have ou:iL (e1 tq (ah 4)) (eF tr t1 kn kf x3 x5 (aa k) x7) S=.ok (f.map .str,λS'=>cI S' (aI f)=aa (f.map .str)) S:=by
    simp[tq,tj,wY (jG W.lf),aI]
   cases ha:wZ (gS rs) f f with
   | none=>
     rw[ha] at L;obtain⟨S',l,o'⟩:=L;refine⟨S',?_,o'⟩;have hb:C_ c (eF tr t1 kn kf x3 x5 (aa k) x7) S=.ok (.rt (.tup [.str "piece"])) S':=(sF ou).trans l;rw[dz];simp only[if_pos (dI S)];show(M.bind (C_ c (eF tr t1 kn kf x3 x5 (aa k) x7)) _) S=_;rw[eL,hb];rfl
   | some f1=>
     rw[ha] at L;obtain⟨S',kS,tK,l,W'⟩:=L;have hb:C_ c (eF tr t1 kn kf x3 x5 (aa k) x7) S=.ok (.nx (eF tr t1 kn kf x3 kS (aa k) tK)) S':=(sF ou).trans l;have ih:=V7 (t1:=t1) (x3:=x3) dI V ks f1 (x5:=kS) (x6:=aa k) (x7:=tK) W' (F.grow (Pu _ _ ha).1);rw[wa (ρ1:=eF tr t1 kn kf x3 x5 (aa k) x7) (dI S) rfl hb];exact ih
end
end DN
namespace DN
open PySem L2 MF
variable {c:Cl}{S:bx}{ρ:Ev}
section
variable {h:Nat}{tr:T}{rs:List R5}
theorem z6x{x:Str}{rs:List R5}(hx:x∉fU rs):cU (nD rs) (.inr x)=ae:=by
 rcases Du (rs:=rs) x with⟨_,e⟩ | ⟨r,hr,hn,_,_⟩
 .exact e
 .exact absurd (aq.mpr ⟨r,hr,hn⟩) hx
theorem V8{t0 t1:Option T}{k:Nat}{st:bx->Prop}(dI:∀v:bA,st (S++[v]))(hk:k=S.length):∀(qs acc:List R5) {x3:Option T},(fU (acc++qs)).Nodup->(acc++qs).length<=100 ->
  ∃q5,dz st (c0 3) (Fw c) (qs.map R5.t) [t0,t1,aa (.obj k),x3,ae,ae,ae,ae,ae,ae] (S++[.dic (nD acc)])=.ok (.nx [t0,t1,aa (.obj k),q5,ae,ae,ae,ae,ae,ae]) (S++[.dic (nD (acc++qs))])
 |[],acc,x3,_,_=>⟨x3,by rw[cE];exact zX (dI _)⟩
 | q::qs,acc,x3,hn,hl=>by
   have hq:q.p.nm∉fU acc:=λh=>by
    unfold fU at hn h;rw[bf,b_] at hn;exact hn.2.2 q.p.nm h q.p.nm (by simp) rfl
   have pu:kP (nD acc) (.inr q.p.nm) q.t2=nD (acc++[q]):=by rw[BR (z6x hq)];simp[nD]
   have gl:(nD acc).length<=900:=by simp[nD];simp at hl;omega
   have gk:(S++[bA.dic (nD acc)])[k]?=aa (.dic (nD acc)):=by rw[hk];simp
   have hb:Fw c [t0,t1,aa (.obj k),aa q.t,ae,ae,ae,ae,ae,ae] (S++[.dic (nD acc)])=.ok (.nx [t0,t1,aa (.obj k),aa q.t,ae,ae,ae,ae,ae,ae]) (S++[.dic (nD (acc++[q]))]):=by
    have es:(S++[bA.dic (nD acc)]).set k (.dic (nD (acc++[q])))=S++[.dic (nD (acc++[q]))]:=by rw[hk];exact zO
    simp[Fw,R5.t,dF,gk,gl,pu,es]
   obtain⟨q5,w⟩:=V8 dI hk qs (acc++[q]) (x3:=aa q.t) (by simpa using hn) (by simpa using hl);refine⟨q5,?_⟩;rw[aR,List.singleton_append] at w;rw[aE,wa (ρ1:=[t0,t1,aa (.obj k),aa q.t,ae,ae,ae,ae,ae,ae]) (dI _) rfl hb];exact w
def mU(rs:List R5)(F:List Str):List Str:=(fU rs).filter λy=>decide (y∈F)
def u1(rs:List R5):Option (List Str)->T
 |none=>.tup [.str "piece"]
 | some F=>match jc (mU rs F) (rs.map λr=>r.p.w) with
   |[]=>.tup [.str "names",aI (mU rs F)]
   |k::_=>.tup [.str "barred",.str k.a,.str k.b]
theorem z1a{kf:Nat}{F:List Str}{t1 t2 x3 x5 x6 x7:Option T}(V:Seen c S h tr rs)(hf:S[kf]?=aa (.lst (F.map .str))) :
  i4 1 [4] (IS c) (c0 0) (IT c) (IQ c) eU [aa tr,t1,t2,x3,aa (.obj kf),x5,x6,x7,ae,ae] S=.ok (aI (mU rs F)) S:=by
 have hv:=V.rows.now;have uE:∀o:Str,pD (.str o) (.obj kf) S=.ok (.bl (decide (o∈F))) S:=λo=>OV (wY (jG hf));have cc:=zA (ρ:=[aa tr,t1,t2,x3,aa (.obj kf),x5,x6,x7,ae,ae]) (S:=S) (js:=[4]) (it:=IS c) (tc:=IT c) (te:=IQ c) (ts:=rs.map R5.t) (st:=λS'=>cI S' tr=aa (rs.map R5.t))
  (p:=λt=>match t with|.lst (.str x::_)=>decide (x∈F) | _=>false) (f:=B0)
  (by simp[IS,hv]) hv (by have:=V.len;simp;omega) (λt ht=>by
   obtain⟨r,_,rfl⟩:=aq.mp ht;simp[IT,R5.t,uE]) (λt ht _=>by
   obtain⟨r,_,rfl⟩:=aq.mp ht;simp[IQ,R5.t,B0])
 have ef:((rs.map R5.t).filter (λt=>match t with|.lst (.str x::_)=>decide (x∈F) | _=>false)).map B0=(mU rs F).map .str:=by
  unfold mU fU;rw[cv,cv,aU,aU];rfl
 rw[ef] at cc;exact cc
theorem zs2{nm:Str}(V:Seen c S h tr rs):Dc c [tr,.str nm] S=.ok (u1 rs (qw (gS rs) rs.length nm)) S:=by
 have hl:=V.len;obtain⟨x3,L1⟩:=V8 (c:=c) (S:=S) (t0:=aa tr) (t1:=aa (.str nm)) (k:=S.length) (st:=λS'=>cI S' tr=aa (rs.map R5.t)) (λv=>V.tL [v]) rfl rs [] (x3:=ae) V.nd (by simp;omega);rw[cH] at L1;have f1:dA (iL (ah 0)) (c0 3) (Fw c) [aa tr,aa (.str nm),aa (.obj S.length),ae,ae,ae,ae,ae,ae,ae] (S++[.dic []])=.ok (.nx [aa tr,aa (.str nm),aa (.obj S.length),x3,ae,ae,ae,ae,ae,ae]) (S++[.dic (nD rs)]):=
  (sF (ts:=rs.map R5.t) (st:=λS'=>cI S' tr=aa (rs.map R5.t)) (S1:=S++[.dic []]) (by simp[V.tL])).trans L1
 have kp:∀{S':bx},(∀j,j<S.length->S'[j]?=S[j]?)->S'.take S.length=S:=λh=>Ds h;obtain⟨S2,uZ⟩:∃S2,S2=S++[.dic (nD rs)]++[.lst ([nm].map .str)]:=⟨_,rfl⟩;have W2:zY S S2 S.length (S.length+1) rs [nm]:=by
  subst uZ;refine⟨?_,?_,λj hj=>?_,by omega,by omega⟩
  .rw[aR];simp
  .rw[aR];simp
  .rw[aR,aw hj]
 have s0:bV 2 xK [aa tr,aa (.str nm),ae,ae,ae,ae,ae,ae,ae,ae] S=.ok (.nx [aa tr,aa (.str nm),aa (.obj S.length),ae,ae,ae,ae,ae,ae,ae]) (S++[.dic []]):=by simp
 have s4:bV 4 (eA gQ (a_ (ah 1) aJ)) [aa tr,aa (.str nm),aa (.obj S.length),x3,ae,ae,ae,ae,ae,ae] (S++[.dic (nD rs)])=.ok (.nx (eF tr (aa (.str nm)) S.length (S.length+1) x3 ae ae ae)) S2:=by
  subst uZ;simp
 have dd:=vX W2.dn;have V9:iL (ah 4) (eF tr (aa (.str nm)) S.length (S.length+1) x3 ae ae ae) S2=.ok ([.str nm],λS'=>cI S' (.obj (S.length+1))=aa [.str nm]) S2:=by
  have:=jG W2.lf;simp at this;simp[this]
 have rO:cI S2 (.obj (S.length+1))=aa [.str nm]:=jG W2.lf;rcases Du (rs:=rs) nm with⟨v1,v2⟩ | ⟨r,hr,hn,v1,v2⟩
 .have Py:qw (gS rs) rs.length nm=ae:=by unfold qw;rw[v1]
  rw[Py];refine zB (S':=S2) ?_ (kp W2.old) (Bh (by simp));have hb:zN c (eF tr (aa (.str nm)) S.length (S.length+1) x3 (aa (.str nm)) ae ae) S2=.ok (.rt (.tup [.str "piece"])) S2:=by simp[zN,m8,dd,dF,v2]
  have f2:dA (iL (ah 4)) (c0 5) (zN c) (eF tr (aa (.str nm)) S.length (S.length+1) x3 ae ae ae) S2=.ok (.rt (.tup [.str "piece"])) S2:=by
   refine(sF V9).trans ?_;rw[dz];simp only[if_pos rO];show(M.bind (zN c (eF tr (aa (.str nm)) S.length (S.length+1) x3 (aa (.str nm)) ae ae)) _) S2=_;rw[eL,hb];rfl
  refine BZ (ρ:=[aa tr,aa (.str nm),ae,ae,ae,ae,ae,ae,ae,ae]) rfl ?_;unfold Fy;rw[gH s0,gH f1,gH s4,O5 f2];rfl
 .have Py:qw (gS rs) rs.length nm=w4 (gS rs) rs.length [nm]:=by unfold qw;rw[v1]
  rw[Py];have hb:zN c (eF tr (aa (.str nm)) S.length (S.length+1) x3 (aa (.str nm)) ae ae) S2=.ok (.nx (eF tr (aa (.str nm)) S.length (S.length+1) x3 (aa (.str nm)) ae ae)) S2:=by simp[zN,m8,dd,dF,v2]
  have f2:dA (iL (ah 4)) (c0 5) (zN c) (eF tr (aa (.str nm)) S.length (S.length+1) x3 ae ae ae) S2=.ok (.nx (eF tr (aa (.str nm)) S.length (S.length+1) x3 (aa (.str nm)) ae ae)) S2:=by
   refine(sF V9).trans ?_;rw[wa (ρ1:=eF tr (aa (.str nm)) S.length (S.length+1) x3 (aa (.str nm)) ae ae) rO rfl hb,zX rO]
  have F0:zZ rs [nm]:=⟨by simp,λy hy=>by rw[ai] at hy;subst hy;exact⟨_,v1⟩⟩;have L:=V7 (c:=c) (t1:=aa (.str nm)) (x3:=x3) (st:=λ_=>True) (λ_=>trivial) V (ot 0 rs.length) [nm] (x5:=aa (.str nm)) (x6:=ae) (x7:=ae) W2 F0;rw[A7] at L;have Pz:tz (a_ (e1 kQ (ah 0)) aJ) (eF tr (aa (.str nm)) S.length (S.length+1) x3 (aa (.str nm)) ae ae) S2=.ok (ot 0 rs.length,λ_=>True) S2:=by
   refine Pf (z:=(rs.length:Int)) ?_ rfl (by omega);have lv:=V.rows S2 W2.old;simp[kQ,wY lv]
  cases V_:w4 (gS rs) rs.length [nm] with
  | none=>
    rw[V_] at L;obtain⟨S3,l,o3⟩:=L;refine zB (S':=S3) ?_ (kp o3) (Bh (by simp));refine BZ (ρ:=[aa tr,aa (.str nm),ae,ae,ae,ae,ae,ae,ae,ae]) rfl ?_;unfold Fy;rw[gH s0,gH f1,gH s4,gH f2,O5 ((sF Pz).trans l)];rfl
  | some F=>
    rw[V_] at L;obtain⟨S3,x5,x6,x7,l,W3⟩:=L;have l3:S.length+1<S3.length:=(ao.mp W3.lf).1;have V3:=V.keep (S':=S3) (by omega) W3.old;have s8:=z1a (t1:=aa (.str nm)) (t2:=aa (.obj S.length)) (x3:=x3) (x5:=x5) (x6:=x6) (x7:=x7) V3 W3.lf;have el:=VU V3 (tn:=aI (mU rs F)) (names:=mU rs F) rfl;unfold u1;simp only;generalize mU rs F=NN at s8 el ⊢;generalize jc NN (rs.map λr=>r.p.w)=LL at el ⊢;have Wa:iL (dZ (bz 2 (BI c)) [] (a_ (ah 0) (a_ (ah 8) aJ))) [aa tr,aa (.str nm),aa (.obj S.length),x3,aa (.obj (S.length+1)),x5,x6,x7,aa (aI NN),ae] S3=.ok (LL.map Lk.t,λS'=>cI S' (.lst (LL.map Lk.t))=aa (LL.map Lk.t)) S3:=by
     simp[el]
    have Wb:=zV (i:=8) s8;cases LL with
    | nil=>
      refine zB (S':=S3) ?_ (kp W3.old) (Bh (by simp[SO]));refine BZ (ρ:=[aa tr,aa (.str nm),ae,ae,ae,ae,ae,ae,ae,ae]) rfl ?_;unfold Fy;rw[gH s0,gH f1,gH s4,gH f2,gH ((sF Pz).trans l),gH Wb];refine(gH ((sF Wa).trans (zX rfl))).trans ?_;exact Jt (by simp)
    | cons k ks=>
      refine zB (S':=S3) ?_ (kp W3.old) (Bh (by simp));refine BZ (ρ:=[aa tr,aa (.str nm),ae,ae,ae,ae,ae,ae,ae,ae]) rfl ?_;unfold Fy;rw[gH s0,gH f1,gH s4,gH f2,gH ((sF Pz).trans l),gH Wb];have hb7:Fx c [aa tr,aa (.str nm),aa (.obj S.length),x3,aa (.obj (S.length+1)),x5,x6,x7,aa (aI NN),aa k.t] S3=.ok (.rt (.tup [.str "barred",.str k.a,.str k.b])) S3:=by simp[Fx,Lk.t]
      have l7:dz (λS'=>cI S' (.lst ((k::ks).map Lk.t))=aa ((k::ks).map Lk.t)) (c0 9) (Fx c) ((k::ks).map Lk.t) [aa tr,aa (.str nm),aa (.obj S.length),x3,aa (.obj (S.length+1)),x5,x6,x7,aa (aI NN),ae] S3=.ok (.rt (.tup [.str "barred",.str k.a,.str k.b])) S3:=by
       rw[aE,dz];simp only[if_pos (show cI S3 (.lst (k.t::ks.map Lk.t))=aa (k.t::ks.map Lk.t) from rfl)];show(M.bind (Fx c [aa tr,aa (.str nm),aa (.obj S.length),x3,aa (.obj (S.length+1)),x5,x6,x7,aa (aI NN),aa k.t]) _) S3=_;rw[eL,hb7];rfl
      exact O5 ((sF Wa).trans l7)
end
end DN
namespace DN
open PySem L2 MF
variable {c:Cl}{S:bx}
theorem z3c:fD (aG "piece")=true:=by decide +kernel
theorem z1b:fD (aG "barred")=true:=by decide +kernel
end DN
namespace DN
open PySem L2 MF
variable {c:Cl}{S:bx}{ρ:Ev}
section
variable {h:Nat}{tr:T}{rs:List R5}
theorem Seen.wc(V:Seen c S h tr rs)(names:List Str):∀k∈jc names (rs.map λr=>r.p.w),Nm k.a/\Nm k.b/\(k.w = "needs" \/ k.w = "bars"):=λk hk=>by
 unfold jc at hk;obtain⟨w,hw,hk⟩:=xf.mp hk;obtain⟨r,hr,rfl⟩:=aq.mp hw;have O:=V.one r hr
 split at hk
 .unfold yM at hk
  rcases aH.mp hk with hk | hk
  .obtain⟨o,ho,rfl⟩:=aq.mp hk
   exact⟨O.nm,O.ws _ (.inr (.inr (.inl (bh.mp ho).1))),.inl rfl⟩
  .obtain⟨o,ho,rfl⟩:=aq.mp hk
   exact⟨O.nm,O.ws _ (.inr (.inr (.inr (bh.mp ho).1))),.inr rfl⟩
 .cases hk
theorem Wc:fD (aG "needs")=true/\fD (aG "bars")=true:=by decide +kernel
theorem Seen.we(V:Seen c S h tr rs)(names:List Str):∀k∈jc names (rs.map λr=>r.p.w),k.ok:=λk hk=>by
 obtain⟨a,b,w⟩:=V.wc names k hk;refine⟨?_,a.ok,b.ok⟩;rcases w with e | e<;>rw[e]
 .exact Wc.1
 .exact Wc.2
theorem Seen.hw(V:Seen c S h tr rs):∀p∈rs.map (·.p),p.w2.length<=10/\p.w3.length<=10:=λp hp=>by
 obtain⟨r,hr,rfl⟩:=aq.mp hp;have O:=V.one r hr;have a:=O.l2;have b:=O.l3;omega
theorem Seen.zE(V:Seen c S h tr rs):(rs.map (·.p)).length<=24:=by have:=V.len;simp;omega
theorem JB(rs:List R5):(rs.map (·.p)).map HP.w=rs.map λr=>r.p.w:=by rw[aU];rfl
theorem z3d{nm:Str}(V:Seen c S h tr rs)(hn:Nm nm):∃res,BH c [.obj h,.str nm] S=(match res with|some G=>.ok (.dic (cT G)) S | none=>.exc c.noPiece ae S)/\u1 rs (qw (gS rs) rs.length nm)=u1 rs res:=by
 have e0:uC (rs.map (·.p))=gS rs:=funext λx=>z6w x;have hN:∀y ws,gS rs y=aa ws->y∈fU rs/\ws.length<=10:=λy ws e=>by
  refine⟨V5 e,?_⟩;rcases Du (rs:=rs) y with⟨e1,_⟩ | ⟨r,hr,_,e1,_⟩
  .rw[e1] at e;cases e
  .rw[e1] at e
   cases e;have:=(V.one r hr).l2;omega
 have ln:(fU rs).length=rs.length:=by simp
 have hl:=V.len;obtain⟨res,hg⟩:=O4 (N:=fU rs) hN 100 [] [nm] List.nodup_nil (λy hy=>absurd hy bK) (by rw[ln];simp;omega);have sm:∀x,Nm x->Sm x:=λx hx=>by
  have:=hx.sm;unfold Sm;omega
 refine⟨res,?_,?_⟩
 .have:=z23 V.hall V.zE (λp hp=>(V.hw p hp).1) (λx _ p hp hx=>by
   obtain⟨r,hr,rfl⟩:=aq.mp hp;exact sm x ((V.one r hr).ws x (.inr (.inr (.inl hx))))) (nm:=nm) (λ_=>sm nm hn) (f:=100) (by omega) (res:=res) (by rw[e0];exact hg)
  rw[this];cases res<;>rfl
 .have b:=Zam (λy ws e=>(hN y ws e).1) hg
  rw[ln] at b;cases res with
  |none=>rw[show qw (gS rs) rs.length nm=ae from b]
  | some G=>
    obtain⟨F,e1,e2⟩:=b;rw[e1];have ek:mU rs F=mU rs G:=by
     unfold mU;refine gD λy _=>?_;simp only[e2 y]
    unfold u1;simp only[ek]
theorem z3e{nm:Str}{G:List Str}(V:Seen c S h tr rs)(eg:BH c [.obj h,.str nm] S=.ok (.dic (cT G)) S) :
  zM c [.obj h,.str nm] S=match jc (mU rs G) (rs.map λr=>r.p.w) with
   |[]=>.ok (aI (mU rs G)) (S++[.lst []])
   |k::ks=>.exc c.barred (aa [("one",.str k.a),("other",.str k.b)]) (S++[.lst ((k::ks).map Lk.t)]):=by
 have A:=V.hall;have Pn:=qZ (m:=aG "names") h (by simp) (by simp);have en:=Ul A;have Jy:(rs.map (·.p)).map (·.nm)=fU rs:=by rw[aU];rfl
 rw[Jy] at en;have hl:=V.len;have it1:Fu c [aa (.obj h),aa (.str nm),aa (.dic (cT G)),ae,ae] S=.ok ((fU rs).map .str,λS'=>cI S' (aI (fU rs))=aa ((fU rs).map .str)) S:=by
  generalize fU rs=N at en ⊢;simp[Fu,A.ins,Pn,en,aI]
 have cc:=zA (ρ:=[aa (.obj h),aa (.str nm),aa (.dic (cT G)),ae,ae]) (S:=S) (js:=[2]) (it:=Fu c) (tc:=IK c) (te:=IJ c) (ts:=(fU rs).map .str) (st:=λS'=>cI S' (aI (fU rs))=aa ((fU rs).map .str))
  (p:=λt=>match t with|.str x=>decide (x∈G) | _=>false) (f:=id)
  it1 rfl (by simp;omega) (λt ht=>by
   obtain⟨x,_,rfl⟩:=aq.mp ht;simp[IK,UR]) (λt ht _=>by simp[IJ])
 have ef:(((fU rs).map T.str).filter (λt=>match t with|.str x=>decide (x∈G) | _=>false)).map id=(mU rs G).map .str:=by
  rw[cv];simp[mU];rfl
 rw[ef] at cc;have cc:i4 1 [2] (Fu c) (c0 0) (IK c) (IJ c) eU [aa (.obj h),aa (.str nm),aa (.dic (cT G)),ae,ae] S=.ok (aI (mU rs G)) S:=cc;have el:=Jx A (tn:=aI (mU rs G)) (names:=mU rs G) rfl V.hw V.zE;rw[JB] at el;have sk:=V.wc (mU rs G);generalize mU rs G=N at cc el sk ⊢;generalize jc N (rs.map λr=>r.p.w)=L at el sk ⊢;generalize aI N=NT at cc el ⊢;have gl:∀x:bA,(S++[x])[S.length]?=aa x:=λx=>by simp
 cases L with
 | nil=>
   have Gj:jO (.obj S.length) (S++[.lst []])=.ok false (S++[.lst []]):=by simp[jO,ju,cI]
   simp only[iG] at el;generalize S++[bA.lst []]=S1 at el Gj;simp[zM,IL,eg,cc,el,Gj]
 | cons k ks=>
   obtain⟨s1,s2,_⟩:=sk k (by simp);have q1:=s1.sm;have q2:=s2.sm;have q1':(cD k.a).length<=1000:=by omega
   have q2':(cD k.b).length<=1000:=by omega
   have ok:Fc true (.str k.a) (.str k.b)=true:=by simp[Fc,Ik,q1',q2']
   have Gj:jO (.obj S.length) (S++[.lst ((k::ks).map Lk.t)])=.ok true (S++[.lst ((k::ks).map Lk.t)]):=by simp[jO,ju,cI]
   have ix:eh (.obj S.length) (.int 0) (S++[.lst ((k::ks).map Lk.t)])=.ok k.t (S++[.lst ((k::ks).map Lk.t)]):=by simp[eh,ju,cI]
   simp only;generalize S++[bA.lst ((k::ks).map Lk.t)]=S1 at el Gj ix ⊢;simp[zM,IL,eg,cc,el,Gj,ix,Lk.t,MI,ok]
theorem z1c{nm:Str}(V:Seen c S h tr rs)(hn:Nm nm)(nd:[c.noPiece,c.ring,c.barred].Nodup):∃L,yA c [.obj h,.str nm] S=.ok (u1 rs (qw (gS rs) rs.length nm)) (S++L):=by
 obtain⟨res,eg,ew⟩:=z3d V hn;rw[ew];cases res with
 | none=>
   refine⟨[],?_⟩;rw[cE];have e:zM c [.obj h,.str nm] S=.exc c.noPiece ae S:=by simp[zM,IL,eg]
   have er:lZ [c.noPiece,c.ring,c.barred] c.noPiece c.noPiece=aa true:=by simp[lZ]
   simp[yA,IM,Fv,e,Bj,er,qt,T2,mx,u1]
 | some G=>
   have e:=z3e V eg;unfold u1;simp only;cases hL:jc (mU rs G) (rs.map λr=>r.p.w) with
   | nil=>
     rw[hL] at e;refine⟨[.lst []],?_⟩;simp only at e ⊢;generalize aI (mU rs G)=NT at e ⊢;generalize S++[bA.lst []]=S1 at e ⊢;simp[yA,IM,Fv,e,su]
   | cons k ks=>
     rw[hL] at e;refine⟨[.lst ((k::ks).map Lk.t)]++[.exc c.barred (aa [("one",.str k.a),("other",.str k.b)])],?_⟩;rw[<- aR];simp only at e ⊢;generalize S++[bA.lst ((k::ks).map Lk.t)]=S1 at e ⊢;have ne:c.barred≠c.noPiece:=λq=>by simp[q] at nd
     have e1:lZ [c.noPiece,c.ring,c.barred] c.noPiece c.barred=aa false:=by simp[lZ,ne]
     have e2:lZ [c.noPiece,c.ring,c.barred] c.barred c.barred=aa true:=by simp[lZ]
     have g:(S1++[bA.exc c.barred (aa [("one",.str k.a),("other",.str k.b)])])[S1.length]?=aa (.exc c.barred (aa [("one",.str k.a),("other",.str k.b)])):=by simp
     have b2:Nu c [aa (.obj h),aa (.str nm),ae,aa (.obj S1.length)] (S1++[.exc c.barred (aa [("one",.str k.a),("other",.str k.b)])])=.ok (.nx [aa (.obj h),aa (.str nm),aa (.tup [.str "barred",.str k.a,.str k.b]),aa (.obj S1.length)]) (S1++[.exc c.barred (aa [("one",.str k.a),("other",.str k.b)])]):=by
      simp[Nu,vQ,g,bS]
     simp[yA,IM,Fv,e,Bj,xV,e1,e2,qt,b2,mx,MF.Hd]
end
end DN
namespace DN
open PySem L2 MF
variable {c:Cl}{S:bx}{ρ:Ev}
section
variable {h:Nat}{tr:T}{rs:List R5}
theorem We:∀(l:List Lk),dh (l.map Lk.d) (l.map Lk.d)=true
 |[]=>rfl
 | k::l=>by
   have:=We l;simp[dh,bX,Lk.d,this]
theorem Wf{x y:T}{l:List Lk}(hx:cI S x=aa (l.map Lk.t))(hy:cI S y=aa (l.map Lk.t))(ok:∀k∈l,k.ok):rB S x y=aa true:=by
 have:=zT (S:=S) (x:=x) (y:=y) (.inl (Jl hx)) (O6 hx (Gb l)) (O6 hy (Gb l)) (by simp only[bN];exact Gc ok) (by simp only[bN];exact Gc ok) (by have:=Jm l;simp only[dC];omega);rw[this];have e:=We l;simp[bX,e]
theorem z6y{x:T}{l:List Lk}(hx:cI S x=aa (l.map Lk.t))(ok:∀k∈l,k.ok):rB S x (.lst [])=aa l.isEmpty:=by
 have:=zT (S:=S) (x:=x) (y:=.lst []) (.inl (Jl hx)) (O6 hx (Gb l)) (b:=.list []) (by simp[mv,pd,nY]) (by simp only[bN];exact Gc ok) (by simp[bN,bR]) (by have:=Jm l;simp only[dC];omega);rw[this];cases l<;>simp[bX,dh]
theorem z3f{names:List Str}{tn:T}(V:Seen c S h tr rs)(hn:cI S tn=aa (names.map T.str)):Dd c [.obj h,tn] S=.ok (.bl (jc names (rs.map λr=>r.p.w)).isEmpty) (S++[.lst ((jc names (rs.map λr=>r.p.w)).map Lk.t)]):=by
 have el:=Jx V.hall hn V.hw V.zE;rw[JB] at el;have ok:=V.we names;generalize jc names (rs.map λr=>r.p.w)=L at el ok ⊢;have q:=z6y (S:=S++[.lst (L.map Lk.t)]) (x:=.obj S.length) (jG qv) ok;have q':iR (.obj S.length) (.lst []) (S++[.lst (L.map Lk.t)])=.ok (.bl L.isEmpty) (S++[.lst (L.map Lk.t)]):=by unfold iR;rw[q]
 generalize S++[bA.lst (L.map Lk.t)]=S1 at el q';simp[Dd,T3,el,q']
theorem Wg{names:List Str}(V:Seen c S h tr rs):BJ c [.obj h,tr,aI names] S=.ok (.bl true) S:=by
 have ok:=V.we names;have ll:=V.len;have V1:=V.keep (S':=S++[.lst (names.map .str)]) (by simp) λk hk=>aw hk;have hh1:cI (S++[.lst (names.map .str)]) (.obj S.length)=aa (names.map .str):=jG qv;have ed:=VU V1 (tn:=aI names) (names:=names) rfl;have ef:=Jx V1.hall hh1 V1.hw V1.zE;rw[JB] at ef;have l1:(S++[bA.lst (names.map T.str)]).length=S.length+1:=by simp
 rw [l1] at ef;have lb:(jc names (rs.map λr=>r.p.w)).length<=100:=by
  have:∀(qs:List R5),(∀r∈qs,r.p.w2.length<=4/\r.p.w3.length<=4)->(jc names (qs.map λr=>r.p.w)).length<=8*qs.length:=λqs=>by
   induction qs with
   |nil=>intro _;simp[jc]
   | cons q qs ih=>
     intro hq;have h1:=ih λr hr=>hq r (au _ hr);have h2:=hq q (ay ..);have e:jc names ((q::qs).map λr=>r.p.w)=(if names.contains q.p.nm then yM names q.p.nm q.p.w2 q.p.w3 else[])++jc names (qs.map λr=>r.p.w):=by simp[jc,HP.w]
     have h3:=OS names q.p.nm q.p.w2 q.p.w3;rw[e,aB,aL]
     split
     .omega
     .simp only[ik]
      omega
  have:=this rs λr hr=>⟨(V.one r hr).l2,(V.one r hr).l3⟩;omega
 have VT:∀{S':bx},S.length<=S'.length->(∀k,k<S.length->S'[k]?=S[k]?)->Dd c [.obj h,aI names] S'=.ok (.bl (jc names (rs.map λr=>r.p.w)).isEmpty) (S'++[.lst ((jc names (rs.map λr=>r.p.w)).map Lk.t)])/\wN c [.obj h,aI names] S'=.ok (.obj S'.length) (S'++[.lst ((jc names (rs.map λr=>r.p.w)).map Lk.t)]):=λhl hk=>by
  have V':=V.keep hl hk;have a:=z3f V' (tn:=aI names) (names:=names) rfl;have b:=Jx V'.hall (tn:=aI names) (names:=names) rfl V'.hw V'.zE;rw[JB] at b;exact⟨a,b⟩
 generalize jc names (rs.map λr=>r.p.w)=L at *;obtain⟨S2,uZ⟩:∃S2,S2=S++[bA.lst (names.map T.str)]++[.lst (L.map Lk.t)]:=⟨_,rfl⟩;rw[<- uZ] at ef;have PB:S2[S.length]?=aa (.lst (names.map .str)):=by rw[uZ,aR];simp
 have Wh:S2[S.length+1]?=aa (.lst (L.map Lk.t)):=by rw[uZ,aR];simp
 have o2:∀k,k<S.length->S2[k]?=S[k]?:=λk hk=>by rw[uZ,aR,aw hk]
 have uk:S2.length=S.length+2:=by rw[uZ];simp
 have cl:zx (.obj S.length) [] S2=.ok .bY (S2.set S.length (.lst [])):=by simp[zx,fL,PB]
 obtain⟨S3,Dt⟩:∃S3,S3=S2.set S.length (.lst []):=⟨_,rfl⟩;rw[<- Dt] at cl;have Gk:S3[S.length+1]?=aa (.lst (L.map Lk.t)):=by rw[Dt,dN (by omega)];exact Wh
 have o3:∀k,k<S.length->S3[k]?=S[k]?:=λk hk=>by rw[Dt,dN (by omega)];exact o2 k hk
 have ne3:kC (.obj (S.length+1)) (.lst (L.map Lk.t)) S3=.ok (.bl false) S3:=by
  unfold kC;rw[Wf (jG Gk) rfl ok];rfl
 have ia:nF .list (.obj (S.length+1)) S3=.ok (.bl true) S3:=by simp[nF,pF,Gk]
 have ap:=xU (y:=.tup [.str "needs",.str "a",.str "b"]) Gk (by simp;omega);obtain⟨S4,Gi⟩:∃S4,S4=S3.set (S.length+1) (.lst (L.map Lk.t++[.tup [.str "needs",.str "a",.str "b"]])):=⟨_,rfl⟩;rw[<- Gi] at ap;have o4:∀k,k<S.length->S4[k]?=S[k]?:=λk hk=>by rw[Gi,dN (by omega)];exact o3 k hk
 have x9:S4.length=S.length+2:=by rw[Gi,Dt];simp[uk]
 have fi:=(VT (S':=S4) (by omega) o4).1;obtain⟨S5,JC⟩:∃S5,S5=S4++[.lst (L.map Lk.t)]:=⟨_,rfl⟩;rw[<- JC] at fi;have o5:∀k,k<S.length->S5[k]?=S[k]?:=λk hk=>by rw[JC,aw (by omega)];exact o4 k hk
 have Bt:S5.length=S.length+3:=by rw[JC];simp[x9]
 have la:=(VT (S':=S5) (by omega) o5).2;obtain⟨S6,JD⟩:∃S6,S6=S5++[.lst (L.map Lk.t)]:=⟨_,rfl⟩;rw[<- JD] at la;have g6:S6[S5.length]?=aa (.lst (L.map Lk.t)):=by rw[JD];simp
 have o6:∀k,k<S.length->S6[k]?=S[k]?:=λk hk=>by rw[JD,aw (by omega)];exact o5 k hk
 have eq6:iR (.obj S5.length) (.lst (L.map Lk.t)) S6=.ok (.bl true) S6:=by
  unfold iR;rw[Wf (jG g6) rfl ok]
 have eqn:iR (.lst (L.map Lk.t)) (.lst []) S6=.ok (.bl L.isEmpty) S6:=z6h ok;have gl:uP (aI names) S=.ok (.obj S.length) (S++[.lst (names.map .str)]):=rfl;have gl4:∀Z,tq (aI names) Z=.ok (aI names) Z:=λZ=>rfl;have okh:jv S2 (.obj S.length)=true:=lY PB;have okf:jv S3 (.obj (S.length+1))=true:=lY Gk;have ib:nF .bool (.bl L.isEmpty) S6=.ok (.bl true) S6:=rfl;refine zB (S':=S6) (t:=.bl true) ?_ (Ds o6) (Zb3 _ _);generalize S++[bA.lst (names.map T.str)]=S1 at ed ef gl;generalize aI names=NT at *;generalize T.lst (L.map Lk.t)=DT at *;generalize L.isEmpty=B at *;clear uZ Dt Gi JC JD PB Wh Gk g6 o2 o3 o4 o5 VT ok lb;generalize S5.length=m5 at *;simp[T4,gl,ed,ef,okh,cl,ia,ne3,okf,ap,gl4,fi,la,eq6,ib,eqn,se]
end
end DN
namespace DN
open PySem L2 MF
variable {c:Cl}{S:bx}{ρ:Ev}
section
variable {h:Nat}{tr:T}{rs:List R5}
theorem Wi{l:List Str}(hl:∀x∈l,lW x):kC (.tup (l.map .str)) (.tup (l.map .str)) S=.ok (.bl false) S:=by
 have e:mv S (.tup (l.map .str))=aa (.tuple (l.map .str)):=by simp[mv,pd,F9]
 have k:bN (.tuple (l.map .str))=true:=by simp only[bN];exact BX hl
 have:=zT (S:=S) (x:=.tup (l.map .str)) (.inl rfl) e e k k (by simp[dC,F_]);have ev:bX (.tuple (l.map .str)) (.tuple (l.map .str))=true:=by simp[bX,Ga]
 simp[kC,this,ev]
theorem z6z(V:Seen c S h tr rs)(Z:bx)(o:Option (List Str)):kC (u1 rs o) (u1 rs o) Z=.ok (.bl false) Z:=by
 cases o with
 |none=>exact Wi (l:=["piece"]) λx hx=>by rw[ai] at hx;subst hx;exact z3c
 | some F=>
   have kn:∀x∈mU rs F,lW x:=λx hx=>V.zU x (bh.mp hx).1;have ka:=V.wc (mU rs F);unfold u1;simp only;generalize mU rs F=N at kn ka ⊢;cases hL:jc N (rs.map λr=>r.p.w) with
   |nil=>exact VW kn
   | cons k ks=>
     obtain⟨a,b,_⟩:=ka k (by rw[hL];simp);exact Wi (l:=["barred",k.a,k.b]) λx hx=>by
      simp only[aF,bK,or_false] at hx;rcases hx with rfl | rfl | rfl
      .exact z1b
      .exact a.ok
      .exact b.ok
def PD(c:Cl):DS:=(ba (gp (eB (e2 qo (ah 5) (eC .bY))) (cW (eC (.bl false))) gU) (ba (bV 7 (i4 1 [] (IV c) (c0 0) ke (IU c) eU)) (ba (bV 8 (dZ (bz 2 (zI c)) [] (a_ (ah 7) (a_ (dZ (bz 1 (C1 c)) [] (a_ (ah 5) aJ)) aJ)))) (ba (bV 9 (dZ (bz 1 (BG c)) [] (a_ (ah 2) aJ))) (ba (gp (qO (uc (eB (e2 qo (ah 8) (eC .bY))) (eB (e2 kC (ah 9) (eA f_ (a_ (eC (.str "ring")) aJ))))) (uc (eB (e2 ti (ah 8) (eC .bY))) (eB (e2 kC (ah 9) (eA f_ (a_ (eC (.str "names")) (a_ (ah 8) aJ))))))) (cW (eC (.bl false))) gU) (ba (bV 10 (dZ (bz 1 (pJ c)) [] (a_ (e2 (gI fS) (dZ (bz 2 (mQ c)) [] (a_ (ah 0) (a_ (eC (.int 2)) aJ))) (e2 hV (ah 1) (eC (.int 1)))) aJ))) (ba (gp (eB (e2 kC (dZ (bz 2 (yA c)) [] (a_ (ah 2) (a_ (ah 10) aJ))) (dZ (bz 2 (Dc c)) [] (a_ (ah 5) (a_ (ah 10) aJ))))) (cW (eC (.bl false))) gU) (ba (bV 11 (i4 1 [10] (FA c) (c0 0) (FC c) (Fz c) eU)) (cW (se (dZ (bz 3 (BJ c)) [] (a_ (ah 2) (a_ (ah 5) (a_ (ah 7) aJ)))) (dZ (bz 3 (BJ c)) [] (a_ (ah 2) (a_ (ah 5) (a_ (ah 11) aJ))))))))))))))
def JE(c:Cl):DS:=gp (eB (e2 iR (e2 (gI fS) (dZ (bz 2 (mQ c)) [] (a_ (ah 0) (a_ (eC (.int 1)) aJ))) (eC (.int 2))) (eC (.int 1)))) (bV 5 (dZ (bz 4 (Fk c)) [] (a_ (ah 2) (a_ (ah 5) (a_ (ah 6) (a_ (ah 4) aJ)))))) gU
theorem zxh:T5 c=(ba (bV 1 (e2 hV (eC (.int 2)) (e2 (gI fS) (dZ (bz 2 (mQ c)) [] (a_ (ah 0) (a_ (eC (.int 0)) aJ))) (eC (.int 7))))) (ba (bV 2 (xS c.hall (bz 1 (zG c)) [] aJ)) (ba (iT (lX c.hall "open_place" (bz 4 (Bv c)) [] (ah 2) (a_ (eC (.str "hub")) (a_ (eC (.str "all")) (a_ (eC (.str "hold")) aJ))))) (ba (bV 3 (e2 iR (e2 (gI fS) (e2 (gI jM) (dZ (bz 2 (mQ c)) [] (a_ (ah 0) (a_ (eC (.int 1)) aJ))) (eC (.int 16))) (eC (.int 2))) (eC (.int 1)))) (ba (bV 4 (e2 iR (e2 (gI fS) (e2 (gI jM) (dZ (bz 2 (mQ c)) [] (a_ (ah 0) (a_ (eC (.int 1)) aJ))) (eC (.int 32))) (eC (.int 2))) (eC (.int 1)))) (ba (bV 5 (dZ (bz 5 (CY c)) [] (a_ (ah 2) (a_ (ah 0) (a_ (ah 1) (a_ (ah 3) (a_ (ah 4) aJ))))))) (ba (bV 6 (e2 (gI fS) (e2 (gI jM) (dZ (bz 2 (mQ c)) [] (a_ (ah 0) (a_ (eC (.int 1)) aJ))) (eC (.int 2))) (ah 1))) (ba (JE c) (PD c))))))))):=rfl
theorem z60{k:Nat}{ns:List Int}{many:Nat}{y3 y4 y6:Option T}(V:Seen c S h (.obj k) rs)(nd:[c.noPiece,c.ring,c.barred].Nodup)(h8:many<=8) :
  ∃S',PD c [aa (.lst (ns.map .int)),aa (.int many),aa (.obj h),y3,y4,aa (.obj k),y6,ae,ae,ae,ae,ae] S=.ok (.rt (.bl true)) S':=by
 have Jw:=VR (c:=c) (ρ:=[aa (.lst (ns.map .int)),aa (.int many),aa (.obj h),y3,y4,aa (.obj k),y6,ae,ae,ae,ae,ae]) (it:=IV c) (te:=IU c) V (by simp[IV,V.rows.now]) (λt Z=>by simp[IU]);have ep:=zxf V;have eo:=zxg V;have et:=z05 V nd;have tm:=λres=>z3b V (res:=res);have wR:Nm (iX (cellAt ns 2%((many:Int)+1))):=Pa (by omega) (by omega);obtain⟨L,ew⟩:=z1c V wR nd;have V2:=V.keep (S':=S++L) (by simp) λj hj=>aw hj;have el:=zs2 V2 (nm:=iX (cellAt ns 2%((many:Int)+1)));have nw:=z6z V (S++L) (qw (gS rs) rs.length (iX (cellAt ns 2%((many:Int)+1))));have st1:=Wg V2 (names:=fU rs);have rO:=Wg V2 (names:=(fU rs).filter λx=>!decide (x=iX (cellAt ns 2%((many:Int)+1))));have fc:=FP (c:=c) (S:=S) ns 2 (by decide);have hb:(0:Int)<(many:Int)+1:=by omega
 have fn:=Di (c:=c) (S:=S) (cellAt ns 2%((many:Int)+1));have hln:=V.len;have cc:∀(y8 y9:Option T) (Z:bx),i4 1 [10] (FA c) (c0 0) (FC c) (Fz c) eU [aa (.lst (ns.map .int)),aa (.int many),aa (.obj h),y3,y4,aa (.obj k),y6,aa (aI (fU rs)),y8,y9,aa (.str (iX (cellAt ns 2%((many:Int)+1)))),ae] Z=.ok (aI ((fU rs).filter λx=>!decide (x=iX (cellAt ns 2%((many:Int)+1))))) Z:=λy8 y9 Z=>by
  have cc:=zA (ρ:=[aa (.lst (ns.map .int)),aa (.int many),aa (.obj h),y3,y4,aa (.obj k),y6,aa (aI (fU rs)),y8,y9,aa (.str (iX (cellAt ns 2%((many:Int)+1)))),ae]) (S:=Z) (js:=[10]) (it:=FA c) (tc:=FC c) (te:=Fz c) (ts:=(fU rs).map .str) (st:=λS'=>cI S' (aI (fU rs))=aa ((fU rs).map .str))
   (p:=λt=>match t with|.str x=>!decide (x=iX (cellAt ns 2%((many:Int)+1))) | _=>false) (f:=id)
   (by generalize fU rs=N;simp[FA,aI]) rfl (by simp;omega) (λt ht=>by
    obtain⟨x,_,rfl⟩:=aq.mp ht;generalize iX (cellAt ns 2%((many:Int)+1))=z;simp[FC]) (λt ht _=>by simp[Fz])
  rw[cv,tP] at cc;exact cc
 generalize iX (cellAt ns 2%((many:Int)+1))=nm at *;generalize u1 rs (qw (gS rs) rs.length nm)=WT at *;generalize aI ((fU rs).filter λx=>!decide (x=nm))=ST at *;generalize hPT:T.lst ((Pp rs).map gs)=PT at *;refine⟨S++L,?_⟩;obtain⟨tp,Wj⟩:∃tp,tp=topo (yR rs) (fU rs).length (fU rs) []:=⟨_,rfl⟩;rw[<- Wj] at eo et;have tm:=λres (e:tp=aa res)=>tm res (by rw[<- Wj];exact e);generalize aI (fU rs)=NT at *;obtain⟨DT,Wk⟩:∃DT,DT=(match tp with|some res=>aI res | none=>T.bY):=⟨_,rfl⟩;have eo:zI c [NT,PT] S=.ok DT S:=by rw[Wk];exact eo
 have Wl:gp (qO (uc (eB (e2 qo (ah 8) (eC .bY))) (eB (e2 kC (ah 9) (eA f_ (a_ (eC (.str "ring")) aJ))))) (uc (eB (e2 ti (ah 8) (eC .bY))) (eB (e2 kC (ah 9) (eA f_ (a_ (eC (.str "names")) (a_ (ah 8) aJ))))))) (cW (eC (.bl false))) gU [aa (.lst (ns.map .int)),aa (.int many),aa (.obj h),y3,y4,aa (.obj k),y6,aa NT,aa DT,aa (B4 tp),ae,ae] S=.ok (.nx [aa (.lst (ns.map .int)),aa (.int many),aa (.obj h),y3,y4,aa (.obj k),y6,aa NT,aa DT,aa (B4 tp),ae,ae]) S:=by
  subst Wk;cases tp with
  | none=>
    have nr:=z6v (S:=S);simp[qo,ti,ud,B4,nr]
  | some res=>
    have nr:=VW (S:=S) (tm res rfl);have i1:qo (aI res) .bY S=.ok (.bl false) S:=rfl;have i2:ti (aI res) .bY S=.ok (.bl true) S:=rfl;simp only[B4];generalize aI res=RT at nr i1 i2 ⊢;simp[i1,i2,nr]
 have r0:gp (eB (e2 qo (ah 5) (eC .bY))) (cW (eC (.bl false))) gU [aa (.lst (ns.map .int)),aa (.int many),aa (.obj h),y3,y4,aa (.obj k),y6,ae,ae,ae,ae,ae] S=.ok (.nx [aa (.lst (ns.map .int)),aa (.int many),aa (.obj h),y3,y4,aa (.obj k),y6,ae,ae,ae,ae,ae]) S:=by simp[qo,ud]
 have r8:dZ (bz 2 (zI c)) [] (a_ (ah 7) (a_ (dZ (bz 1 (C1 c)) [] (a_ (ah 5) aJ)) aJ)) [aa (.lst (ns.map .int)),aa (.int many),aa (.obj h),y3,y4,aa (.obj k),y6,aa NT,ae,ae,ae,ae] S=.ok DT S:=by simp[ep,eo]
 have r9:dZ (bz 1 (BG c)) [] (a_ (ah 2) aJ) [aa (.lst (ns.map .int)),aa (.int many),aa (.obj h),y3,y4,aa (.obj k),y6,aa NT,aa DT,ae,ae,ae] S=.ok (B4 tp) S:=by simp[et]
 generalize B4 tp=TT at r9 Wl;have r10:dZ (bz 1 (pJ c)) [] (a_ (e2 (gI fS) (dZ (bz 2 (mQ c)) [] (a_ (ah 0) (a_ (eC (.int 2)) aJ))) (e2 hV (ah 1) (eC (.int 1)))) aJ) [aa (.lst (ns.map .int)),aa (.int many),aa (.obj h),y3,y4,aa (.obj k),y6,aa NT,aa DT,aa TT,ae,ae] S=.ok (.str nm) S:=by simp[fc,hb,fn]
 have r11:gp (eB (e2 kC (dZ (bz 2 (yA c)) [] (a_ (ah 2) (a_ (ah 10) aJ))) (dZ (bz 2 (Dc c)) [] (a_ (ah 5) (a_ (ah 10) aJ))))) (cW (eC (.bl false))) gU [aa (.lst (ns.map .int)),aa (.int many),aa (.obj h),y3,y4,aa (.obj k),y6,aa NT,aa DT,aa TT,aa (.str nm),ae] S=.ok (.nx [aa (.lst (ns.map .int)),aa (.int many),aa (.obj h),y3,y4,aa (.obj k),y6,aa NT,aa DT,aa TT,aa (.str nm),ae]) (S++L):=by
  simp[ew,el,nw]
 have r12:=cc (aa DT) (aa TT) (S++L);unfold PD;rw[gH r0,gH (zV Jw)];refine(gH (zV r8)).trans ?_;refine(gH (zV r9)).trans ?_;refine(gH Wl).trans ?_;refine(gH (zV r10)).trans ?_;refine(gH r11).trans ?_;refine(gH (zV r12)).trans ?_;exact Jt (by simp[st1,rO,se])
end
end DN
namespace DN
open PySem L2 MF
variable {c:Cl}{S:bx}{ρ:Ev}
theorem Zcf(nd:[c.noPiece,c.ring,c.barred].Nodup)(ns:List Int):∃S',T6 c [.lst (ns.map .int)] []=.ok (.bl true) S':=by
 obtain⟨many,hm⟩:∃m:Nat,(m:Int)=2+cellAt ns 0%7:=⟨(2+cellAt ns 0%7).toNat,by have:=fj (cellAt ns 0) (show(7:Int)≠0 by decide);omega⟩;have m7:=fj (cellAt ns 0) (show(7:Int)≠0 by decide);have m7':=eZ (cellAt ns 0) (show(0:Int)<7 by decide);have h2:2<=many:=by omega
 have h8:many<=8:=by omega
 obtain⟨early,hE⟩:∃b:Bool,b=decide (cellAt ns 1 / 16%2=1):=⟨_,rfl⟩;obtain⟨br,hB⟩:∃b:Bool,b=decide (cellAt ns 1 / 32%2=1):=⟨_,rfl⟩;have fc0:=λS=>FP (c:=c) (S:=S) ns 0 (by decide);have Gm:=λS=>FP (c:=c) (S:=S) ns 1 (by decide);have H0:fT c [.ins c.hall (n5 0),.dic [],.dic []] 0 [] []:=Zca (c:=c) (S:=[]);have H1:=H0.FT (nm := "hub") (k := "all") (r := "hold");have eo:=z91 H0 (nm := "hub") (k := "all") (r := "hold") rfl (by decide);have ei:zG c [.obj 0] [.ins c.hall []]=.ok .bY [.ins c.hall (n5 0),.dic [],.dic []]:=zud (c:=c) (S:=[]);have hmo:=qZ (m:=aG "open_place") 0 (by simp) (by simp);obtain⟨S1,FY⟩:∃S1,S1=List.set [bA.ins c.hall (n5 0),.dic [],.dic []] (0+1) (.dic (nZ ([]++[⟨"hub", "all", "hold",[bA.ins c.hall (n5 0),.dic [],.dic []].length⟩])))++[.ins c.place [("kind",.str "all"),("rule",.str "hold")]]:=⟨_,rfl⟩;rw[<- FY] at H1 eo;have H1:fT c S1 0 (lL 0) []:=H1;have l1:S1.length=0+4:=by rw[FY];rfl
 obtain⟨S2,qs,ef,F,lq,K⟩:=zxd (ns:=ns) (early:=early) (br:=br) H1 l1 h2 h8;have s1:bV 1 (e2 hV (eC (.int 2)) (e2 (gI fS) (dZ (bz 2 (mQ c)) [] (a_ (ah 0) (a_ (eC (.int 0)) aJ))) (eC (.int 7)))) [aa (.lst (ns.map .int)),ae,ae,ae,ae,ae,ae,ae,ae,ae,ae,ae] []=.ok (.nx [aa (.lst (ns.map .int)),aa (.int many),ae,ae,ae,ae,ae,ae,ae,ae,ae,ae]) []:=by
  simp[fc0,hm]
 have s2:bV 2 (xS c.hall (bz 1 (zG c)) [] aJ) [aa (.lst (ns.map .int)),aa (.int many),ae,ae,ae,ae,ae,ae,ae,ae,ae,ae] []=.ok (.nx [aa (.lst (ns.map .int)),aa (.int many),aa (.obj 0),ae,ae,ae,ae,ae,ae,ae,ae,ae]) [.ins c.hall (n5 0),.dic [],.dic []]:=by
  simp[ei]
 have s2b:iT (lX c.hall "open_place" (bz 4 (Bv c)) [] (ah 2) (a_ (eC (.str "hub")) (a_ (eC (.str "all")) (a_ (eC (.str "hold")) aJ)))) [aa (.lst (ns.map .int)),aa (.int many),aa (.obj 0),ae,ae,ae,ae,ae,ae,ae,ae,ae] [.ins c.hall (n5 0),.dic [],.dic []]=.ok (.nx [aa (.lst (ns.map .int)),aa (.int many),aa (.obj 0),ae,ae,ae,ae,ae,ae,ae,ae,ae]) S1:=by
  have i0:=H0.ins;generalize [bA.ins c.hall (n5 0),.dic [],.dic []]=Z at i0 eo ⊢;simp[i0,hmo,eo]
 have s3:bV 3 (e2 iR (e2 (gI fS) (e2 (gI jM) (dZ (bz 2 (mQ c)) [] (a_ (ah 0) (a_ (eC (.int 1)) aJ))) (eC (.int 16))) (eC (.int 2))) (eC (.int 1))) [aa (.lst (ns.map .int)),aa (.int many),aa (.obj 0),ae,ae,ae,ae,ae,ae,ae,ae,ae] S1=.ok (.nx [aa (.lst (ns.map .int)),aa (.int many),aa (.obj 0),aa (.bl early),ae,ae,ae,ae,ae,ae,ae,ae]) S1:=by
  simp[Gm,hE]
 have s4:bV 4 (e2 iR (e2 (gI fS) (e2 (gI jM) (dZ (bz 2 (mQ c)) [] (a_ (ah 0) (a_ (eC (.int 1)) aJ))) (eC (.int 32))) (eC (.int 2))) (eC (.int 1))) [aa (.lst (ns.map .int)),aa (.int many),aa (.obj 0),aa (.bl early),ae,ae,ae,ae,ae,ae,ae,ae] S1=.ok (.nx [aa (.lst (ns.map .int)),aa (.int many),aa (.obj 0),aa (.bl early),aa (.bl br),ae,ae,ae,ae,ae,ae,ae]) S1:=by
  simp[Gm,hB]
 have s5:bV 5 (dZ (bz 5 (CY c)) [] (a_ (ah 2) (a_ (ah 0) (a_ (ah 1) (a_ (ah 3) (a_ (ah 4) aJ)))))) [aa (.lst (ns.map .int)),aa (.int many),aa (.obj 0),aa (.bl early),aa (.bl br),ae,ae,ae,ae,ae,ae,ae] S1=.ok (.nx [aa (.lst (ns.map .int)),aa (.int many),aa (.obj 0),aa (.bl early),aa (.bl br),aa (.obj (0+4)),ae,ae,ae,ae,ae,ae]) S2:=by
  generalize T.lst (ns.map .int)=NS at ef ⊢;simp[ef]
 have n0:=fj (cellAt ns 1 / 2) (show(many:Int)≠0 by omega);have n1:=eZ (cellAt ns 1 / 2) (show(0:Int)<many by omega);obtain⟨n,hn⟩:∃n:Nat,(n:Int)=cellAt ns 1 / 2%many:=⟨(cellAt ns 1 / 2%many).toNat,by omega⟩;have s6:bV 6 (e2 (gI fS) (e2 (gI jM) (dZ (bz 2 (mQ c)) [] (a_ (ah 0) (a_ (eC (.int 1)) aJ))) (eC (.int 2))) (ah 1)) [aa (.lst (ns.map .int)),aa (.int many),aa (.obj 0),aa (.bl early),aa (.bl br),aa (.obj (0+4)),ae,ae,ae,ae,ae,ae] S2=.ok (.nx [aa (.lst (ns.map .int)),aa (.int many),aa (.obj 0),aa (.bl early),aa (.bl br),aa (.obj (0+4)),aa (.int n),ae,ae,ae,ae,ae]) S2:=by
  have hz:(0:Int)<many:=by omega
  rw[hn];generalize (many:Int)=mm at hz ⊢;simp[Gm,hz]
 have key:∃S3 k rs,JE c [aa (.lst (ns.map .int)),aa (.int many),aa (.obj 0),aa (.bl early),aa (.bl br),aa (.obj (0+4)),aa (.int n),ae,ae,ae,ae,ae] S2=.ok (.nx [aa (.lst (ns.map .int)),aa (.int many),aa (.obj 0),aa (.bl early),aa (.bl br),aa (.obj k),aa (.int n),ae,ae,ae,ae,ae]) S3/\Seen c S3 0 (.obj k) rs:=by
  by_cases hc:cellAt ns 1%2=1
  .obtain⟨S3,k5,rs,ea,V⟩:=Zal (n:=n) F K (by omega) (by omega)
   refine⟨S3,k5,rs,?_,V⟩;unfold JE;rw[Gg (S1:=S2) (by simp[Gm,hc])];generalize T.lst (ns.map .int)=NS;simp[ea]
  .refine⟨S2,0+4,_,?_,F.seen K (by omega)⟩
   unfold JE;rw[Gh (S1:=S2) (by simp[Gm,hc])];rfl
 obtain⟨S3,k,rs,s7,V⟩:=key;obtain⟨S4,et⟩:=z60 (ns:=ns) (many:=many) (y3:=aa (.bl early)) (y4:=aa (.bl br)) (y6:=aa (.int n)) V nd h8;refine⟨S4,?_⟩;refine BZ (ρ:=[aa (.lst (ns.map .int)),ae,ae,ae,ae,ae,ae,ae,ae,ae,ae,ae]) rfl ?_;rw[zxh,gH s1,gH s2,gH s2b,gH s3,gH s4,gH s5,gH s6,gH s7];exact et
end DN
namespace MF
open PySem L2
theorem u{d k:Nat}{A:Nat->Prop}(h:∀k,d<=k->A k)(hd:d<=k:=by decide):A k:=h k hd
section
variable {P:aX}{w:bB}{K:aP}{mg:Str->Option af}{base h:bO}{x m qual:Str}{st:cm}{dV:af}{ps:List Str}{C f:aj}{fd:bI}{F:Fn}{d:Nat}
structure FV(K:aP)(x qual:Str)(st:cm)(dV:af)(ps:List Str)(f:aj)(fd:bI):Prop where
 v:dr K x qual st dV f fd
 b:mK K fd ps []
structure FN(K:aP)(x:Str)(st:cm)(ps:List Str)(f:aj)(fd:bI):Prop extends FV K x x st .none ps f fd where
 a:qi K bq x=aa (aa (.ref f))
structure FM(K:aP)(C:aj)(m qual:Str)(st:cm)(dV:af)(ps:List Str)(f:aj)(fd:bI):Prop extends FV K m qual st dV ps f fd where
 a:d_ K (.ref C) m=aa (aa (.ref f))
 i:fZ K (.ref f)=true
structure CM(K:aP)(x:Str)(C:aj):Prop where
 a:qi K bq x=aa (aa (.ref C))
 Ib:PySem.W.makesIn K C=true
 kp:iD K (.ref C)=true
theorem FN.up(y:FN K x st ps f fd)(X:K.In h)(G:h.Ns bq mg)(o:bW P w K mg base (ee P w) d f fd ps (gK ps.length F)):∀k,d<=k->FnAt P w K mg base k x ps F f fd:=λ_ q=>⟨o.mono q,xg X G y.a,y.v.kp,y.b⟩
theorem FM.up(y:FM K C m qual st dV ps f fd)(c:nU K C)(o:bW P w K mg base (ee P w) d f fd ps (gK ps.length F)):∀k,d<=k->i' P w K mg base k C m ps F f fd:=λ_ q=>⟨o.mono q,c,⟨y.a,y.i,y.v.kp⟩,y.b⟩
theorem FM.mk'(y:FM K C "__init__" qual st dV ps f fd)(c:CM K x C)(X:K.In h)(G:h.Ns bq mg)(o:bW P w K mg base (ee P w) d f fd ps (gK ps.length F)):∀k,d<=k->uh P w K mg base k x C ps F f fd:=λ_ q=>⟨o.mono q,xg X G c.a,⟨c.Ib,y.a,y.i,c.kp⟩,y.b⟩
variable {oc:af}{od an:Option aj}{sl:Array (Option af)}{kV dc pm cd ct:af}
theorem Zcg(a:qi K bq x=aa (aa (.ref f)))(l:K.lookup f=aa ⟨oc,od,.func (eO x x (qJ st) (nV st) (e_ st) .none kV dc pm an cd ct),sl⟩)(c:nT K cd x=true)(k:iD K (.ref f)=true)
 (b:∀(kV mZ pm:af) (an:Option aj) (gE ct:af) (us:List af),us.length=ps.length->yS (eO x x (qJ st) (nV st) (e_ st) .none kV mZ pm an gE ct) ⟨us,[]⟩=pure (ps.zip us)):FN K x st ps f (eO x x (qJ st) (nV st) (e_ st) .none kV dc pm an cd ct):=⟨⟨(Hq l c k).toV,(Hq l c k).binds b⟩,a⟩
theorem Zch(a:d_ K (.ref C) x=aa (aa (.ref f)))(i:fZ K (.ref f)=true)(l:K.lookup f=aa ⟨oc,od,.func (eO x qual (qJ st) (nV st) (e_ st) .none kV dc pm an cd ct),sl⟩)(c:nT K cd qual=true)(k:iD K (.ref f)=true)
 (b:∀(kV mZ pm:af) (an:Option aj) (gE ct:af) (us:List af),us.length=ps.length->yS (eO x qual (qJ st) (nV st) (e_ st) .none kV mZ pm an gE ct) ⟨us,[]⟩=pure (ps.zip us)):FM K C x qual st .none ps f (eO x qual (qJ st) (nV st) (e_ st) .none kV dc pm an cd ct):=⟨⟨(Hq l c k).toV,(Hq l c k).binds b⟩,a,i⟩
theorem Wm(a:d_ K (.ref C) x=aa (aa (.ref f)))(i:fZ K (.ref f)=true)(l:K.lookup f=aa ⟨oc,od,.func (eO x qual (qJ st) (nV st) (e_ st) dV kV dc pm an cd ct),sl⟩)(c:nT K cd qual=true)(k:iD K (.ref f)=true)(b:mK K (eO x qual (qJ st) (nV st) (e_ st) dV kV dc pm an cd ct) ps []):FM K C x qual st dV ps f (eO x qual (qJ st) (nV st) (e_ st) dV kV dc pm an cd ct):=⟨⟨⟨⟨_,_,_,_,_,_,_,_,_,rfl,l,c⟩,k⟩,b⟩,a,i⟩
end
end MF
namespace K11
open PySem L2 MF DN
theorem nO{K:W.Frag}{T:aj}{oc:af}{od an:Option aj}{sl:Array (Option af)}{n:Nat}{kV dc pm cd ct:af}(l:K.lookup T=aa ⟨oc,od,.seq #[.none] n,sl⟩):mK K (W.fnOf "hang" "Hall.hang" (qJ BM) (nV BM) (e_ BM) (.ref T) kV dc pm an cd ct) ["self", "name", "place", "deed", "by"] []:=λs us X hl=>by
 obtain⟨_,_,_,_,_,rfl⟩:=Bt (show us.length=5 by simpa using hl);exact W.binds_K X rfl l rfl rfl rfl
theorem zoq{K:W.Frag}{T f:aj}{oc:af}{od:Option aj}{sl:Array (Option af)}{n:Nat}{fd:bI}(v:dr K "hang" "Hall.hang" BM (.ref T) f fd)(l:K.lookup T=aa ⟨oc,od,.seq #[.none] n,sl⟩):mK K fd ["self", "name", "place", "deed", "by"] [.none]:=λs us X hl=>by
 obtain⟨_,_,_,_,_,_,_,_,_,rfl,_,_⟩:=v.ex;obtain⟨_,_,_,_,rfl⟩:=x9 (show us.length=4 by simpa using hl);exact W.binds_K X rfl l rfl rfl rfl
theorem nP{K:W.Frag}{T:aj}{oc:af}{od an:Option aj}{sl:Array (Option af)}{n:Nat}{kV dc pm cd ct:af}(l:K.lookup T=aa ⟨oc,od,.seq #[.none,.none,.none,.none] n,sl⟩):mK K (W.fnOf "wish" "Hall.wish" (qJ De) (nV De) (e_ De) (.ref T) kV dc pm an cd ct) ["self", "name", "ahead", "behind", "needs", "bars"] []:=λs us X hl=>by
 obtain⟨_,_,_,_,_,_,rfl⟩:=MR (show us.length=6 by simpa using hl);exact W.binds_K X rfl l rfl rfl rfl
theorem all_mk{l:W.OpenLaw}{w:bB}{K:W.Frag}{h:bO}{mg:Str->Option af}{fa:aj}{yk yi Dv y1 y9 yh y2 y44 y2r y2j y1x y56 y22 y24 y2e y4k Wn y4z y5i y4j Wo y21 y48 y4u y4y y31 y50 y13 y3e y4f y2u y3i y38 Wp y3v y5c y3s y2k y3k y47 y5k Wq y46 y37 y4l y1e y5o y1o y4:aj}  {y43 y3x:Option aj}{y41 y3m:Array (Option af)}{y3t y3r:af}{y35 y2t:Tok}{y49 y4a:Nat}{y45 y2x y27 y26 y52 y25 y1v y2l y4n y53 y5h y4q y1t y4d y4m y4o y2y y51 y15 y3h y4h y3a y3d y2z y2p y3y y5e y3n y29 y3f y4i y5l y23 y4e y2q y4t y1i y5n y1p y3:bI}
  (X:K.In h) (G:h.Ns bq mg) (hfa:mg "law" = aa (.ref fa))
  (y0z:W.nsIn K bq "HallError" = aa (aa (.ref y1)))
  (y1k:W.nsIn K bq "NoPiece" = aa (aa (.ref y9)))
  (y3o:W.nsIn K bq "Ring" = aa (aa (.ref yh)))
  (y1z:W.nsIn K bq "Barred" = aa (aa (.ref y2)))
  (y4v:CM K "Hall" yk)
  (yn:nU K yk)
  (y3p:CM K "Piece" yi)
  (y34:nU K yi)
  (y3w:CM K "Place" Dv)
  (y3b:nU K Dv)
  (y00:FN K "_law_cell_at" NC ["script", "k"] y44 y45)
  (yr:FM K yk "__init__" "Hall.__init__" ND .none ["self"] y2r y2x)
  (yl:FM K Dv "__init__" "Place.__init__" NF .none ["self", "kind", "rule"] y2j y27)
  (yg:FM K yk "open_place" "Hall.open_place" NG .none ["self", "name", "kind", "rule"] y1x y26)
  (y0q:FN K "_law_name" NH ["k"] y56 y52)
  (ye:FM K yk "find_place" "Hall.find_place" NI .none ["self", "name"] y22 y25)
  (yf:FM K yk "find_piece" "Hall.find_piece" NJ .none ["self", "name"] y24 y1v)
  (yj:FM K yi "__init__" "Piece.__init__" NK .none ["self", "place", "deed", "by"] y2e y2l)
  (yx:FM K yk "hang" "Hall.hang" BM (.ref Wn) ["self", "name", "place", "deed", "by"] y4k y4n)
  (y14:K.lookup Wn=aa ⟨y3t,y43,.seq #[.none] y49,y41⟩)
  (y0s:FN K "_law_some" NL ["cell", "many"] y4z y53)
  (y1n:FN K "wished" NM ["names"] y5i y5h)
  (y0l:FM K yk "wish" "Hall.wish" De (.ref Wo) ["self", "name", "ahead", "behind", "needs", "bars"] y4j y4q)
  (y2a:K.lookup Wo=aa ⟨y3r,y3x,.seq #[.none,.none,.none,.none] y4a,y3m⟩)
  (yd:FN K "_law_tell_wishes" NO ["hall", "row", "cell", "many"] y21 y1t)
  (y0d:FN K "_law_filled" NP ["hall", "script", "many", "early", "brought"] y48 y4d)
  (y0k:FN K "_law_texts" NQ ["found", "due"] y4u y4m)
  (y0i:FM K yk "drop" "Hall.drop" NR .none ["self", "name"] y4y y4o)
  (yo:FN K "_law_hung_anew" NU ["hall", "rows", "at", "brought"] y31 y2y)
  (y0t:FN K "_law_free" NV ["name", "left", "pairs"] y50 y51)
  (y6:FN K "_law_order" NW ["names", "pairs"] y13 y15)
  (yu:FN K "_law_pairs_of" NX ["rows"] y3e y3h)
  (y0a:FN K "seconds_of" NY ["hall", "names"] y4f y4h)
  (yp:FN K "earliest_free" NZ ["seconds", "left"] y2u y3a)
  (yv:FN K "ring_through" N0 ["seconds", "start"] y3i y3d)
  (yq:FN K "shortest_ring" N1 ["seconds"] y38 y2z)
  (yc:FM K yh "__init__" "Ring.__init__" N2 .none ["self", "ring"] Wp y2p)
  (yw:FN K "order_among" N3 ["hall", "names"] y3v y3y)
  (y17:FM K yk "at" "Hall.at" N4 .none ["self", "place"] y5c y5e)
  (yy:FN K "order" N5 ["hall", "place"] y3s y3n)
  (ym:FN K "_law_order_told" N6 ["hall"] y2k y29)
  (yt:FN K "gather_needs" N7 ["hall", "name"] y3k y3f)
  (y0b:FM K yk "names" "Hall.names" N8 .none ["self"] y47 y4i)
  (y2c:FN K "lacks" N9 ["hall", "names"] y5k y5l)
  (y7:FM K y2 "__init__" "Barred.__init__" N_ .none ["self", "one", "other"] Wq y23)
  (y0c:FN K "with_needs" Oa ["hall", "name"] y46 y4e)
  (ys:FN K "_law_with_told" Ob ["hall", "name"] y37 y2q)
  (y0j:FN K "_law_lacks" Oc ["rows", "names"] y4l y4t)
  (y8:FN K "_law_with" Oe ["rows", "name"] y1e y1i)
  (y3l:FN K "fits" Of ["hall", "names"] y5o y5n)
  (ya:FN K "_law_stands_right" Og ["hall", "rows", "names"] y1o y1p)
  (y0:FN K "law" Dh ["script"] y4 y3)
  (y5b:W.nsIn K bq "any" = aa ae)
  (y4w:W.nsIn K bq "bool" = aa ae)
  (y07:W.nsIn K bq "MOST_PIECES" = aa (aa (.int 24 y35)))
  (y03:W.nsIn K bq "MOST_PLACES" = aa (aa (.int 8 y2t)))
  (y05:W.findIn K (.ref yk) "pieces" = aa ae)
  (y08:W.findIn K (.ref yk) "places" = aa ae)
  (y02:W.findIn K (.ref yi) "ahead" = aa ae)
  (y0h:W.findIn K (.ref yi) "bars" = aa ae)
  (yz:W.findIn K (.ref yi) "behind" = aa ae)
  (y0w:W.findIn K (.ref yi) "by" = aa ae)
  (y0f:W.findIn K (.ref yi) "deed" = aa ae)
  (y09:W.findIn K (.ref yi) "needs" = aa ae)
  (y0u:W.findIn K (.ref yi) "on" = aa ae)
  (y01:W.findIn K (.ref yi) "place" = aa ae)
  (y0g:W.findIn K (.ref Dv) "kind" = aa ae)
  (y0e:W.findIn K (.ref Dv) "rule" = aa ae)
  (y57:W.nsIn K bq "int" = aa ae)
  (y0y:W.nsIn K bq "isinstance" = aa ae)
  (y59:W.nsIn K bq "len" = aa ae)
  (y4p:W.nsIn K bq "list" = aa ae)
  (y58:W.nsIn K bq "min" = aa ae)
  (y3q:W.nsIn K bq "range" = aa ae)
  (y5g:W.nsIn K bq "str" = aa ae)
  (y1y:W.excIn K y9 iH "ValueError.__new__" = true)
  (nd:[y9,yh,y2].Nodup)
  (y12:nX K y2=aa (.ref y1::iH))
  (y0v:nX K y1=aa iH)
  (y0r:nX K y9=aa (.ref y1::iH))
  (y2i:nX K yh=aa (.ref y1::iH))
  (yb:y2≠y1)
  (y1w:y9≠y1)
  (y18:yh≠y1)
  (y1j:W.findIn K (.ref y2) "__getattribute__" = aa (aa (.builtin "BaseException.__getattribute__")))
  (y1m:W.findIn K (.ref y2) "__getattr__" = aa ae)
  (y1h:W.hasDictIn K y2=true)
  (y1d:CA K y2=true)
  (y0n:W.findIn K (.ref y2) "one" = aa ae)
  (y04:W.findIn K (.ref y2) "other" = aa ae)
  (bi1:W.specialIn K (.ref y1) "__getattribute__" = aa (aa (.builtin "type.__getattribute__")))
  (y5a:W.readsIn K y1 (.type "type")=true)
  (y5f:W.findCls K (.ref y1) (.type "type") "__init__" = aa (.val (.builtin "ValueError.__init__")))
  (y1a:W.findIn K (.ref y2) "__setattr__" = aa (aa (.builtin "object.__setattr__")))
  (y1c:W.hasDictIn K y2=true)
  (y1f:CA K y2=true)
  (y0m:W.findIn K (.ref y2) "one" = aa ae)
  (y06:W.findIn K (.ref y2) "other" = aa ae)
  (y19:pB K y2 Wq=true)
  (y2v:W.findIn K (.ref yh) "__setattr__" = aa (aa (.builtin "object.__setattr__")))
  (y2w:W.hasDictIn K yh=true)
  (y33:CA K yh=true)
  (y0x:W.findIn K (.ref yh) "ring" = aa ae)
  (y2m:pB K yh Wp=true)
  (nl:MC K=true)
  : ∃fd:bI,(∀(s:ar) (v:af),rH s fd ⟨[v],[]⟩ [("script",v)])/\∀base:bO,K.In base->base.Ns bq mg->bW l.prog w K mg base Et 6 fa fd ["script"] (Ii K):=by
 let c:Cl:={ hall:=yk,place:=Dv,piece:=yi,run:=0,hallError:=y1,nameThere:=0,noPlace:=0,noPiece:=y9,tooMany:=0,noAnswer:=0,ring:=yh,barred:=y2,deedFault:=0 };have e0:=hfa.symm.trans (W.mg_of X G y0.a);cases e0;have T0:Tx K mg c:=⟨y0v,(kM.mpr ⟨(λ_=>y0r),kM.mpr ⟨(λ_=>y2i),kM.mpr ⟨(λ_=>y12),λ_ h=>absurd h bK⟩⟩⟩),W.mg_none_of X G y5b,W.mg_none_of X G y4w,⟨_,W.mg_of X G y07⟩,⟨_,W.mg_of X G y03⟩,yn,y05,y08,y34,y02,y0h,yz,y0w,y0f,y09,y0u,y01,y3b,y0g,y0e,⟨y1j,y1m,y1h,y1d⟩,y0n,y04,bi1,y5a,y5f,⟨y1a,y1c,y1f⟩,y0m,y06,⟨y2v,y2w,y33⟩,y0x,W.mg_none_of X G y57,W.mg_none_of X G y0y,W.mg_none_of X G y59,W.mg_none_of X G y4p,W.mg_of X G y1z,W.mg_of X G y0z,W.mg_of X G y1k,W.mg_of X G y3o,W.mg_none_of X G y58,yb,y12,y1w,y0r,y18,y2i,W.mg_none_of X G y3q,W.mg_none_of X G y5g,y1y⟩;obtain⟨oc,od,kV,dc,pm,an,cd,ct,sl,rfl,lk,hc⟩:=y0.v.ex;refine⟨W.fnOf "law" "law" (qJ Dh) (nV Dh) (e_ Dh) .none kV dc pm an cd ct,λs v=>.of_eq rfl,λbase _ _=>?_⟩;have Wr:=y00.up X G (zoo l.prog w base T0 y00.v );have y32:=yr.mk' y4v X G (zmr l.prog w base T0 yr.v );have y2d:=yl.mk' y3w X G (zl2 l.prog w base T0 yl.v );have y1u:=yg.up yn (zk9 l.prog w base T0 yg.v (u y2d));have PK:=y0q.up X G (zt8 l.prog w base T0 y0q.v );have Ws:=ye.up yn (zla l.prog w base T0 ye.v );have y5:=yf.up yn (zlb l.prog w base T0 yf.v );have y2n:=yj.mk' y3p X G (zl3 l.prog w base T0 yj.v );have Wt:=yx.up yn (zsa l.prog w base T0 yx.v (u Ws) (u y5) (u y2n));have y40:=zoq yx.v y14;have y54:=y0s.up X G (zt9 l.prog w base T0 y0s.v (u PK));have y5j:=y1n.up X G (zz2 l.prog w base T0 y1n.v );have y4r:=y0l.up yn (zsb l.prog w base T0 y0l.v (u y5) (u y5j));have y1s:=yd.up X G (zlc l.prog w base T0 yd.v (u y54) (u y4r));have y4b:=y0d.up X G (zqh l.prog w base T0 y0d.v (u PK) (u Wt) (u y1s) (u Wr));have y4s:=y0k.up X G (zsc l.prog w base T0 y0k.v );have y4x:=y0i.up yn (zsd l.prog w base T0 y0i.v (u y5));have y39:=yo.up X G (zms l.prog w base T0 yo.v (u y4s) (u y4x) (u Wt) y40);have y55:=y0t.up X G (zua l.prog w base T0 y0t.v );have y16:=y6.up X G (zse l.prog w base T0 y6.v (u y55));have y3c:=yu.up X G (zn2 l.prog w base T0 yu.v );have y4g:=y0a.up X G (zqi l.prog w base T0 y0a.v (u y5));have y2o:=yp.up X G (zmt l.prog w base T0 yp.v );have y3g:=yv.up X G (zn3 l.prog w base T0 yv.v );have y30:=yq.up X G (zmu l.prog w base T0 yq.v (u y3g));have y2s:=zmv l.prog w base T0 yc.v y2m;have y42:=yw.up X G (zop l.prog w base T0 yw.v (u y4g) (u y2o) (u y30) ⟨y2s.mono (by decide),y2m,yc.i,yc.b⟩);have y5d:=y17.up yn (zw4 l.prog w base T0 y17.v (u Ws));have y3z:=yy.up X G (z2u l.prog w base T0 yy.v (u y42) (u y5d));have y28:=ym.up X G (zl4 l.prog w base T0 ym.v (u y3z));have y3j:=yt.up X G (zn4 l.prog w base T0 yt.v (u y5));have Wu:=y0b.up yn (zqj l.prog w base T0 y0b.v );have PL:=y2c.up X G (z2v l.prog w base T0 y2c.v (u Wu) (u y5));have y20:=zld l.prog w base T0 y7.v y19;have y4c:=y0c.up X G (zqk l.prog w base T0 y0c.v (u y3j) (u Wu) (u PL) ⟨y20.mono (by decide),y19,y7.i,y7.b⟩);have y36:=ys.up X G (zmw l.prog w base T0 ys.v (u y4c));have Wv:=y0j.up X G (zsf l.prog w base T0 y0j.v );have y1b:=y8.up X G (zub l.prog w base T0 y8.v (u Wv));have y5m:=y3l.up X G (z6a l.prog w base T0 y3l.v (u PL));have y1q:=ya.up X G (zks l.prog w base T0 ya.v (u Wv) (u PL) (u y5m));have Gn:=z9x l.prog w base T0 y0.v (u Wr) (u y32) (u y1u) (u y4b) (u y39) (u y16) (u y3c) (u y28) (u PK) (u y36) (u y1b) (u y1q);exact z9h Gn nl λns hl=>Zcf (c:=c) nd ns
end K11
open PySem PySem.W PyProof.Rows MF L2
local macro_rules | `(tactic| walk_at "k") => `(tactic| first | kernel_rfl! | k_is)
local macro_rules | `(tactic| walk_at "b") => `(tactic| (intro _ _ _ _ _ _ us hl; first | (obtain ⟨a0, e⟩ := nI hl; subst e; rfl) | (obtain ⟨a0, a1, e⟩ := uk hl; subst e; rfl) | (obtain ⟨a0, a1, a2, e⟩ := Bs hl; subst e; rfl) | (obtain ⟨a0, a1, a2, a3, e⟩ := x9 hl; subst e; rfl) | (obtain ⟨a0, a1, a2, a3, a4, e⟩ := Bt hl; subst e; rfl)))
local macro_rules | `(tactic| walk_at "N") => `(tactic| exact Zcg (by walk_at "k") (by walk_at "k") (by walk_at "k") (by walk_at "k") (by walk_at "b"))
local macro_rules | `(tactic| walk_at "M") => `(tactic| exact Zch (by walk_at "k") (by walk_at "k") (by walk_at "k") (by walk_at "k") (by walk_at "k") (by walk_at "b"))
theorem PySem.Challenge.cw_hookhall_k11_wishes_told_twice_holds : PySem.Challenge.rw_hookhall_k11_wishes_told_twice.Holds := by
 w_on;o_law;k_head;(case hw=>w_witness2)
 k_fill
 refine MF.Fb (l:=Cg) (k:=6) ⟨rfl,by decide,by decide,rfl⟩ rfl rfl (λw h Y=>W.kIn_of Y) ?F
 case F=>
  intro w mg fa h KX G AF
  refine' K11.all_mk KX G AF ?y0z ?y1k ?y3o ?y1z ?y4v ?yn ?y3p ?y34 ?y3w ?y3b ?y00 ?yr ?yl ?yg ?y0q ?ye ?yf ?yj ?yx ?y14 ?y0s ?y1n ?y0l ?y2a ?yd ?y0d ?y0k ?y0i ?yo ?y0t ?y6 ?yu ?y0a ?yp ?yv ?yq ?yc ?yw ?y17 ?yy ?ym ?yt ?y0b ?y2c ?y7 ?y0c ?ys ?y0j ?y8 ?y3l ?ya ?y0 ?y5b ?y4w ?y07 ?y03 ?y05 ?y08 ?y02 ?y0h ?yz ?y0w ?y0f ?y09 ?y0u ?y01 ?y0g ?y0e ?y57 ?y0y ?y59 ?y4p ?y58 ?y3q ?y5g ?y1y ?nd ?y12 ?y0v ?y0r ?y2i ?yb ?y1w ?y18 ?y1j ?y1m ?y1h ?y1d ?y0n ?y04 ?bi1 ?y5a ?y5f ?y1a ?y1c ?y1f ?y0m ?y06 ?y19 ?y2v ?y2w ?y33 ?y0x ?y2m ?nl
  (case y0z | y1k | y3o | y1z=>k_is)
  (case y4v=>exact⟨by walk_at "k",by walk_at "k",by walk_at "k"⟩)
  (case yn=>exact⟨by walk_at "k",by walk_at "k",by walk_at "k",by walk_at "k"⟩)
  (case y3p=>exact⟨by walk_at "k",by walk_at "k",by walk_at "k"⟩)
  (case y34=>exact⟨by walk_at "k",by walk_at "k",by walk_at "k",by walk_at "k"⟩)
  (case y3w=>exact⟨by walk_at "k",by walk_at "k",by walk_at "k"⟩)
  (case y3b=>exact⟨by walk_at "k",by walk_at "k",by walk_at "k",by walk_at "k"⟩)
  (case y00=>walk_at "N")
  (case yr | yl | yg=>walk_at "M")
  (case y0q=>walk_at "N")
  (case ye | yf | yj=>walk_at "M")
  (case yx=>exact Wm (by walk_at "k") (by walk_at "k") (by walk_at "k") (by walk_at "k") (by walk_at "k") (K11.nO (by walk_at "k")))
  (case y14=>k_is)
  (case y0s | y1n=>walk_at "N")
  (case y0l=>exact Wm (by walk_at "k") (by walk_at "k") (by walk_at "k") (by walk_at "k") (by walk_at "k") (K11.nP (by walk_at "k")))
  (case y2a=>k_is)
  (case yd | y0d | y0k=>walk_at "N")
  (case y0i=>walk_at "M")
  (case yo | y0t | y6 | yu | y0a | yp | yv | yq=>walk_at "N")
  (case yc=>walk_at "M")
  (case yw=>walk_at "N")
  (case y17=>walk_at "M")
  (case yy | ym | yt=>walk_at "N")
  (case y0b=>walk_at "M")
  (case y2c=>walk_at "N")
  (case y7=>walk_at "M")
  (case y0c | ys | y0j | y8 | y3l | ya | y0=>walk_at "N")
  (case y5b | y4w | y07 | y03 | y05 | y08 | y02 | y0h | yz | y0w | y0f | y09 | y0u | y01 | y0g | y0e | y57 | y0y | y59 | y4p | y58 | y3q | y5g=>k_is)
  (case y1y=>walk_at "k")
  (case nd=>decide)
  (case y12 | y0v | y0r | y2i=>walk_at "k")
  (case yb | y1w | y18=>decide)
  (case y1j | y1m | y1h=>k_is)
  (case y1d=>walk_at "k")
  (case y0n | y04 | bi1=>k_is)
  (case y5a | y5f=>walk_at "k")
  (case y1a=>k_is)
  (case y1c | y1f=>walk_at "k")
  (case y0m | y06=>k_is)
  (case y19=>walk_at "k")
  (case y2v=>k_is)
  (case y2w | y33=>walk_at "k")
  (case y0x=>k_is)
  (case y2m | nl=>walk_at "k")
end
