import PyProof.Rows.All
import Wide.All
import OpenK.AllK
import Wide.FinOn
import PyProof.EqAt
import PyProof.EqKinds
import PyProof.TupleCall
import PyProof.StrLawsRepr
import Lean
import PyProof.P3Eq
import PyProof.P3In
import PyProof.NeData
import KE.KRevIter
import PyProof.StrWalks
import PyProof.StrBlockH
import PyProof.Conv_int_bool
import PyProof.SetKind
import PyProof.Rows.SetFrom
import PyProof.Rows.SortStr
import PyProof.WalksS
import PyProof.Seq
import PyProof.Walks
import PyProof.FactsAll.set
import PyProof.ForAny
import PyProof.FactsSeq
import PyProof.CollectWalk
import PyProof.SetRoads
import PySem.Challenge.RW_hookhall_k07_whole_run_and_changes
theorem PySem.W.Fast.tw3531379390372793594 : True := trivial
theorem PySem.W.Fast.tw14099613367422746246 : True := trivial
theorem PySem.W.Fast.tw7977821653404393788 : True := trivial
theorem PySem.W.Fast.tw7159162660499521661 : True := trivial
theorem PySem.W.Fast.tw3896553139961083648 : True := trivial
theorem PySem.W.Fast.tw5552302736493529344 : True := trivial
theorem PySem.W.Fast.tw578568618593507921 : True := trivial
theorem PySem.W.Fast.tw14235071325917130231 : True := trivial
theorem PySem.W.Fast.tw10017784832647171531 : True := trivial
theorem PySem.W.Fast.tw4660141580963777043 : True := trivial
theorem PySem.W.Fast.tw15711040690960853146 : True := trivial
theorem PySem.W.Fast.tw10831836329027130842 : True := trivial
theorem PySem.W.Fast.tw16802082136135400006 : True := trivial
theorem PySem.W.Fast.tw17245931407816009241 : True := trivial
theorem PySem.W.Fast.tw2970369758584786664 : True := trivial
theorem PySem.W.Fast.tw12660478879942162207 : True := trivial
theorem PySem.W.Fast.tw7038090929965236149 : True := trivial
theorem PySem.W.Fast.tw11861293338634932522 : True := trivial
theorem PySem.W.Fast.tw14435462997079457875 : True := trivial
theorem PySem.W.Fast.tw3372174102530923664 : True := trivial
theorem PySem.W.Fast.tw5536746436758431632 : True := trivial
theorem PySem.W.Fast.tw10479310597541103202 : True := trivial
theorem PySem.W.Fast.tw5889744695187905942 : True := trivial
theorem PySem.W.Fast.tw12875349998400488035 : True := trivial
theorem PySem.W.Fast.tw8821086382377844143 : True := trivial
theorem PySem.W.Fast.tw5584563627916994302 : True := trivial
theorem PySem.W.Fast.tw13640009690528524386 : True := trivial
theorem PySem.W.Fast.tw1121199595713193890 : True := trivial
theorem PySem.W.Fast.tw959440454337466844 : True := trivial
theorem PySem.W.Fast.tw6544074639842568895 : True := trivial
theorem PySem.W.Fast.tw10617696514902611797 : True := trivial
theorem PySem.W.Fast.tw8456770173785631876 : True := trivial
theorem PySem.W.Fast.tw514284397408131161 : True := trivial
theorem PySem.W.Fast.tw14878066223401942112 : True := trivial
theorem PySem.W.Fast.tw10660116564364360613 : True := trivial
theorem PySem.W.Fast.tw174145531105977788 : True := trivial
theorem PySem.W.Fast.tw17983513406456108663 : True := trivial
theorem PySem.W.Fast.tw8147239656378602046 : True := trivial
noncomputable section
set_option compiler.extract_closed false
open Array renaming append_assoc->uf,find?_toList->ug,getElem?_eq_getElem->o9,getElem?_toList->ko,length_toList->iH
open Bool renaming and_comm->B7,and_eq_true->cG,eq_iff_iff->eF,false_ne_true->aX,false_or->qw,not_eq_true'->wo,not_or->Gu,or_false->l9,or_true->Du
open Char renaming toNat->pb
open Eq renaming symm->yP
open False renaming elim->dE
open Int renaming emod_lt_of_pos->cB,emod_nonneg->dq,toNat_natCast->m_,zero_add->Gs
open List renaming all_cons->qA,all_eq_true->nF,any_cons->fU,any_eq_true->gu,append_assoc->bO,append_nil->cW,cons_append->d7,contains_cons->cY,drop_eq_getElem_cons->jn,drop_length->nG,drop_zero->zX,eq_nil_of_length_eq_zero->fG,eraseIdxIfInBounds_toArray->m9,eraseIdx_append_of_length_le->mH,eraseIdx_cons_zero->rq,ext_getElem?->jx,filterMap_cons->lB,filter_congr->jw,filter_cons->gq,filter_eq_nil_iff->rL,filter_eq_self->dS,filter_filter->uR,filter_map->dP,filter_sublist->um,find?_cons->cf,find?_eq_none->ee,find?_some->yQ,findIdx?_cons->uT,findSome?_cons->lG,foldl_cons->iJ,getD->wX,getElem?_append_left->aD,getElem?_append_right->cL,getElem?_cons_succ->c8,getElem?_cons_zero->bX,getElem?_eq_getElem->a_,getElem?_eq_none->ik,getElem?_eq_none_iff->p_,getElem?_eq_some_iff->aw,getElem?_map->cT,getElem?_replicate->rh,getElem?_set->mW,getElem?_set_ne->c7,getElem?_set_self->fK,getElem?_take_of_lt->gD,getElem_mem->wY,getElem_of_mem->lE,length->fF,length_append->aM,length_cons->aY,length_erase_of_mem->gE,length_filter_le->ig,length_map->ba,length_nil->oC,length_replicate->fV,length_reverse->uk,length_set->eI,length_singleton->aV,length_take->jR,lookup->bK,lookup_cons->aJ,mapM_cons->zW,map_append->aK,map_congr_left->dj,map_cons->ay,map_eq_append_iff->fL,map_eq_cons_iff->gh,map_id'->Dz,map_id->Gx,map_map->bQ,map_nil->gr,mem_append->bp,mem_append_left->bh,mem_append_right->bc,mem_cons->aH,mem_cons_of_mem->ao,mem_cons_self->az,mem_filter->bF,mem_filterMap->jc,mem_map->au,mem_of_find?_eq_some->dB,mem_of_getElem?->kX,mem_of_mem_erase->sP,mem_range->eZ,mem_singleton->aC,nil_append->bU,nodup_append->cq,nodup_cons->cM,not_mem_nil->cO,of_mem_zip->oB,pairwise_map->wu,range->cz,replicate->aQ,set_append_left->tw,set_append_right->kA,set_comm->B8,set_cons_succ->uS,set_cons_zero->mr,set_set->g_,size_toArray->aI,sum_cons->B6,take_length->jS
open List.Pairwise renaming imp->Gv,nil->Gr
open List.Sublist renaming append->JT,map->kZ,refl->JU
open List.cons renaming injEq->mG
open Nat renaming add_assoc->Dy,add_comm->Gw,le_of_eq->hX,le_of_lt->m8,le_refl->aB,le_succ->jA,le_trans->bJ,lt_irrefl->dh,lt_of_le_of_lt->wj,lt_of_lt_of_le->aA,lt_succ_of_lt->jB,lt_succ_self->dH,lt_trans->Gn,min_le_left->zV,ne_of_gt->km,ne_of_lt->aT,not_lt_zero->zY,sub_self->hZ,zero_le->dJ
open Ne renaming symm->bM
open Option renaming bind_eq_some_iff->jC,bind_some->mV,getD_none->uN,isSome_iff_exists->jl,isSome_map->mo,map_eq_none_iff->qE,map_eq_some_iff->bw,none->ae,some->aa,some->ei
open Option.some renaming inj->bf,injEq->qB
open Or renaming inl->eJ,inr->cS
open Prod.mk renaming injEq->fM
open PyProof.Rows renaming AllBare->jZ,IntsAre->wg,Subscript_->B3,UnaryOp_->JP,boot_any->JR,boot_list->JS,callWith_builtin1->kY,callWith_type1->h_,envOfC->iP,formatField_str->JN,letGo_keyiter->JM,not_of->JQ,subscriptTail->ui,subscriptTail_builtinR->we
open PySem renaming Addr->ai,Around->cp,BindsTo->rJ,CmpOp->uJ,DictEntry->uP,ExceptHandler->iY,Expr->bx,FuncData->bA,Heap->bR,KeyKind->zU,Keyword->gs,Model->yG,NameKind->yI,PassesOwn->jz,PlainAttrs->sN,Program->aU,PyData->iR,Result->BZ,Scope->iG,Shared->aq,Stmt->bS,Value->ag,Within->jW,World->bz,assign->jk,assignEach->jM,atKey->sL,attributeBase->cm,backTo->bL,backToKw->eG,behindInMarks->cZ,binaryOp->jN,bindArgs->yH,bindC->uM,bindL->uL,bootBuiltins->dA,boot_len->yN,builtinsNs->BV,cLine->gc,call->uj,callWith->i9,call_meets->oj,call_meetsIn->wc,callerA->oZ,cellsFrom->Gm,codeAny_call_builtin->yM,codeAny_compStart_list->wq,codeAny_mono->jv,compEnvC->mF,compPost->yL,compareOp->dg,entryPlaceOf->wm,evalArgs_none->tj,exec_Assign_Name_used->wW,findBy->BY,foldedSetIterable->ck,frameOf->p7,getItem->rK,getMethod->gK,handleBy->yJ,holding->iA,keywordEach->cQ,leaving->wb,letOwnedTupleGo->lC,mainGlobals->bu,mem_of_lookup->di,model->aN,newList->Dv,noteFrame->p8,pastItsLine_dict->pU,plainObj_wpAny_Assign_Attribute->o6,pyHashByItsType->JO,pyIter->BX,refuseLoop->B4,relabel->lx,reprText->cR,seqIndex?->Gp,seqIndex_neg->wd,seqIndex_of->qz,setAttr->Dn,setFlight->pZ,sizeLine_eq->dR,sliceBounds->i_,slot_list_getitem->Dr,standAt->ju,starEach->av,subscripted->qy,swapsWith->fP,sysModules->ft,tupleKind->pR,tupleKind_room_in1->jO,typeLookup->B1,valueAt->mU,wpAny_Call_Name_kw->fX,wpAny_Call_method0_late->uO,wpAny_FormattedValue_repr->tq,wpAny_Name->BW,wpAny_assign_Name->oY,wpAny_bind->aG,wpAny_call->oi,wpAny_comprehension_free->gW,wpAny_execs_cons->Ga,wpAny_execs_nil->jj,wpAny_holding->iV,wpAny_isSubtype_exc->jm,wpAny_isTrue_Compare1->wV,wpAny_loadPart->sI,wpAny_loadPart_at->eX,wpAny_lookBehind->pT,wpAny_mono->bT,wpAny_newFunctionEnv->yK,wpAny_newObj_type->Dw,wpAny_nsSet1->wa,wpAny_passesOwn->gb,wpAny_pure->bE,wpAny_pyIter_list->Dm,wpAny_pyIter_revIter->yO,wpAny_specialOf->rj,wpAny_standAt->iX,wpAny_truthy_bool->iz
open PySem.Around renaming under->mn
open PySem.Builtin.List renaming listTooLong->iI
open PySem.Builtin.Range renaming rangeSize->Gb
open PySem.Calls renaming Name_function_global->oX,callWith_builtin->gV,call_len_list->tf,evalArgs_plain->kI,spliced_cons->uh,spliced_nil->uK
open PySem.Challenge renaming pw_hookhall_k07_whole_run_and_changes->B5,rw_hookhall_k07_whole_run_and_changes->B9
open PySem.CmpOp renaming NotIn->Dl
open PySem.Code renaming frames->Gk,isFrame->rH,isGuard->Dp,quiet_builtin->uQ
open PySem.Data renaming fields->s_
open PySem.EntryCells renaming newEntry->p9
open PySem.EqMixed renaming eq_bool_str->Gc,eq_int_str->Gd,eq_str_bool->Ge,eq_str_int->Gf,ne_bool_str->Gg,ne_int_str->Gh,ne_str_bool->Gi,ne_str_int->Gj
open PySem.EqNone renaming eq_bool_none->JB,eq_int_none->JC,eq_none_bool->Jy,eq_none_int->Jz,eq_none_none->Jx,eq_none_str->JA,eq_str_none->JD,ne_bool_none->JI,ne_int_none->JJ,ne_none_bool->JF,ne_none_int->JG,ne_none_none->JE,ne_none_str->JH,ne_str_none->JK
open PySem.F renaming excBase_ValueError->iQ,plainAttrs_dict->o7,plainAttrs_list->eT,slot_NoneType_hash->fY,slot_dict_delitem->oE,slot_dict_items->o_,slot_dict_pop->qx
open PySem.Heap renaming FlyingW->j6,SameBut->iU,UpToSlots->o8,get?_push_of_some->ax,get?_push_size->bg,get?_update_ne->lD,get?_update_other->j4,get?_update_self->ij,lt_size->aE,size_push->gZ
open PySem.Heap.IsSliceOf renaming new->Dq
open PySem.Heap.Ns1 renaming of_empty->sJ
open PySem.MeetsSeq renaming EqGives->Dx
open PySem.Obj renaming mapFields->Dt,mapSeq->mE
open PySem.Paired renaming length->lu,snoc->B0
open PySem.PassesOwn renaming leaving->aZ
open PySem.PyData renaming canLay0->bP,canLayAll0->bj,depth->c_,depthAll->bB,eqv->cw,eqvAll->eK,hasDict->wZ,hasDictAll->mq,showable->wt,showableAll->lF,shown->gf,shownAll->iC,str->cx,strOk->eD
open PySem.SeqAt renaming EqAt->Gq
open PySem.SeqAt.EqAt renaming int_none->pX,int_str->qu,none_int->pV,none_str->pW,same->sM,str_int->qv,str_none->pY
open PySem.Str renaming empty->fu,length_append->bV,ofString->aj,ofString_eq_toList->sO
open PySem.Txt renaming join->qc
open PySem.Value renaming bool->d_,bytes->Dj,float->sH,int->kU,isInt->Di,isStrOf->zT,none->fE,ref->aS,str->kW,type->l7
open PySem.W renaming Frag->aO,codeIn->oq,findIn->gQ,fnOf->fw,isFn->gR,keepIn->iS,kitOne->oo,mg_of->w5,nsIn->qd
open PySem.W.WData renaming int->JL
open PySem.W.WShape renaming has->Ds
open PySem.Within renaming cons->pS
open Sum renaming inl->m7,inr->dI
open True renaming intro->dG
set_option maxHeartbeats 0
set_option Elab.async false
set_option linter.all false
set_option maxRecDepth 100000
namespace L2
open PySem PySem.Spec PyProof.Rows
abbrev cg:=Sum Int Str
noncomputable def yR:cg->ag->Bool
 |.inl k,v=>Di k v
 |.inr x,v=>zT x v
noncomputable def DB(w:bz):cg->Int
 |.inl k=>hashInt k
 |.inr x=>hashStr w x
theorem tz:∀{k:cg} {v:ag},yR k v=true->(∃i t,k=m7 i/\v=kU i t)\/(∃x t,k=dI x/\v=kW x t)
 | .inl i,v,h=>by
   obtain⟨t,e⟩:=Value.isInt_shape (k:=i) (v:=v) h;exact .inl ⟨i,t,rfl,e⟩
 | .inr x,v,h=>by
   obtain⟨t,e⟩:=Value.isStrOf_shape (x:=x) (v:=v) h;exact .inr ⟨x,t,rfl,e⟩
theorem WW(i:Int)(t:Tok):yR (.inl i) (.int i t)=true:=by simp[yR,Di]
theorem WX(x:Str)(t:Tok):yR (.inr x) (.str x t)=true:=by simp[yR,zT]
theorem WY(a b:Int):decide ((m7 a:cg)=m7 b)=(a==b):=by
 by_cases e:a=b
 .subst e;simp
 .have h:¬(m7 a:cg)=m7 b:=λq=>e (Sum.inl.inj q)
  rw[decide_eq_false h];exact(beq_eq_false_iff_ne.mpr e).symm
theorem WZ(a b:Str):decide ((dI a:cg)=dI b)=decide (a=b):=by
 by_cases e:a=b
 .subst e;simp
 .have h:¬(dI a:cg)=dI b:=λq=>e (Sum.inr.inj q)
  rw[decide_eq_false h,decide_eq_false e]
theorem W7(a:Int)(b:Str):decide ((m7 a:cg)=dI b)=false:=decide_eq_false (λq=>nomatch q)
theorem W8(a:Str)(b:Int):decide ((dI a:cg)=m7 b)=false:=decide_eq_false (λq=>nomatch q)
noncomputable def kq(prog:aU)(w:bz):zU prog w cg where
 is:=yR
 hash:=DB w
 inj:=λv a b ha hb=>by
  rcases tz ha with⟨i,t,rfl,rfl⟩ | ⟨x,t,rfl,rfl⟩
  .rcases tz hb with⟨j,u,rfl,e⟩ | ⟨y,u,rfl,e⟩
   .injection e with e1 _;rw[e1]
   .exact nomatch e
  .rcases tz hb with⟨j,u,rfl,e⟩ | ⟨y,u,rfl,e⟩
   .exact nomatch e
   .injection e with e1 _;rw[e1]
 byValue:=λk v h=>by
  rcases tz h with⟨i,t,rfl,rfl⟩ | ⟨x,t,rfl,rfl⟩<;>rfl
 pyHash:=λhv h=>by
  rcases tz hv with⟨i,t,rfl,rfl⟩ | ⟨x,t,rfl,rfl⟩
  .exact wpAny_pyHash_int h
  .exact wpAny_pyHash_str h
 eqBool:=λhu hv h=>by
  rcases tz hu with⟨i,t,rfl,rfl⟩ | ⟨x,t,rfl,rfl⟩
  .rcases tz hv with⟨j,u,rfl,rfl⟩ | ⟨y,u,rfl,rfl⟩
   .rw[WY] at h;exact wpAny_eqBool_int h
   .rw[W7] at h;exact qu i t y u _ _ _ _ h
  .rcases tz hv with⟨j,u,rfl,rfl⟩ | ⟨y,u,rfl,rfl⟩
   .rw[W8] at h;exact qv x t j u _ _ _ _ h
   .rw[WZ] at h;exact wpAny_eqBool_str h
 «strs»:=λk x t v h=>by
  rcases tz h with⟨i,u,rfl,e⟩ | ⟨y,u,rfl,e⟩
  .exact nomatch e
  .injection e with e1 _
   subst e1;cases v<;>rfl
theorem W9(prog:aU)(w:bz)(i:Int)(t:Tok):(kq prog w).is (.inl i) (.int i t)=true:=WW i t
theorem W_(prog:aU)(w:bz)(x:Str)(t:Tok):(kq prog w).is (.inr x) (.str x t)=true:=WX x t
inductive V where
 |bq | bl (b:Bool) | int (i:Int) | str (x:Str) | byt (b:Array UInt8) | zZ (b:UInt64) | ref (a:ai) | ty (n:String)
 deriving DecidableEq
def RelV:V->ag->Prop
 |.bq,u=>u=fE
 |.bl b,u=>u=d_ b
 |.int i,u=>∃t,u=kU i t
 |.str x,u=>∃t,u=kW x t
 |.byt b,u=>∃t,u=Dj b t
 |.zZ b,u=>∃t,u=sH b t
 |.ref a,u=>u=aS a
 |.ty n,u=>u=l7 n
abbrev cj:List V->List ag->Prop:=Paired RelV
theorem cj.length{xs:List V}{us:List ag}(r:cj xs us):xs.length=us.length:=lu r
theorem cj.get:∀{xs:List V} {us:List ag} {i:Nat} {x:V},cj xs us->xs[i]?=aa x->∃u,us[i]?=aa u/\RelV x u
 |_,_,_,_,.nil,e=>by simp at e
 |_,_,0,_,.cons r _,e=>by simp at e;subst e;exact⟨_,rfl,r⟩
 | _,_,i+1,x,.cons _ t,e=>by
   obtain⟨u,h1,h2⟩:=cj.get (i:=i) (x:=x) t (by simpa using e);exact⟨u,by simpa using h1,h2⟩
theorem cj.set{x:V}{u:ag}(r:RelV x u):∀{xs:List V} {us:List ag} (i:Nat),cj xs us->cj (xs.set i x) (us.set i u)
 |_,_,_,.nil=>.nil
 |_,_,0,.cons _ t=>.cons r t
 |_,_,i+1,.cons q t=>.cons q (cj.set r i t)
theorem cj.append:∀{xs ys:List V} {us ws:List ag},cj xs us->cj ys ws->cj (xs++ys) (us++ws)
 |_,_,_,_,.nil,s=>s
 |_,_,_,_,.cons r t,s=>.cons r (cj.append t s)
theorem cj.take:∀{xs:List V} {us:List ag} (n:Nat),cj xs us->cj (xs.take n) (us.take n)
 |_,_,0,_=>.nil
 |_,_,_+1,.nil=>.nil
 |_,_,n+1,.cons r t=>.cons r (cj.take n t)
theorem cj.drop:∀{xs:List V} {us:List ag} (n:Nat),cj xs us->cj (xs.drop n) (us.drop n)
 |_,_,0,r=>r
 |_,_,_+1,.nil=>.nil
 |_,_,n+1,.cons _ t=>cj.drop n t
def jo:Option V->Option ag->Prop
 |some v,aa u=>RelV v u
 |none,ae=>True
 |_,_=>False
def KV{κ:Type}:List (κ×V)->List (κ×ag)->Prop:=Paired λ(p:κ×V) (q:κ×ag)=>p.1=q.1/\RelV p.2 q.2
noncomputable def kV:cg->V
 |.inl i=>.int i
 |.inr x=>.str x
inductive HO where
 |lst (xs:List V)
 |tup (xs:List V)
 |dK (kvs:List (cg×V)) | dT (kvs:List (List cg×V))
 |set (S:Int->Bool) (n:Nat)
 |ins (C dx:ai) (fs:List (Str×V))
 |own (x:ai)
 |xd (fs:List (Str×V))
 |met (f x:ai)
 |Gy (lo hi:Int)
 |eU (o:Obj) (u:HO)
 |uU (ps:Array ag)
 |ext (φ:bR->Prop)
abbrev Hp:=ai->Option HO
noncomputable def upd(H:Hp)(a:ai)(o:HO):Hp:=λb=>if b=a then aa o else H b
theorem gm{H:Hp}{a:ai}{o:HO}:upd H a o a=aa o:=by unfold upd;rw[if_pos rfl]
theorem dr{H:Hp}{a b:ai}{o:HO}(h:b≠a):upd H a o b=H b:=by unfold upd;rw[if_neg h]
theorem Xa{H:Hp}{a:ai}{o u:HO}:upd (upd H a o) a u=upd H a u:=by
 funext b;unfold upd;split<;>rfl
theorem Xb{H:Hp}{a b:ai}{o u:HO}(h:H a=aa o)(h':H b=aa u)(d:o≠u):a≠b:=by
 intro e;subst e;rw[h] at h';exact d (bf h')
theorem sQ{H:Hp}{a b:ai}{o:HO}(h:H a=aa o)(h':H b=ae):a≠b:=by
 intro e;subst e;rw[h] at h';cases h'
section
variable (P:aU)(w:bz)
def ku(H:Hp)(h:bR)(a:ai):HO->Prop
 |.lst xs=>xs.length<=sizeLine/\∃(cy:List ag) (n:Nat),cj xs cy/\h.get? a=aa { cls:=.type "list",data:=.seq cy.toArray n }
 |.tup xs=>xs.length<=sizeLine/\∃cy:List ag,cj xs cy/\IsTup h a cy.toArray
 |.dK kvs=>kvs.length<=sizeLine/\(a==ft)=false/\∃vs,KV kvs vs/\h.DictOf (kq P w) a vs
 |.dT kvs=>kvs.length<=sizeLine/\(a==ft)=false/\∃xs:List (List cg×ai×ag),
  Paired (λ(p:List cg×V) (q:List cg×ai×ag)=>p.1=q.1/\H q.2.1=aa (.tup (p.1.map kV))/\RelV p.2 q.2.2) kvs xs /\
  ∃o es ep,h.get? a=aa o/\o.ExactDict/\o.data=.dict es ep/\es.toList=xs.map (entryOfKey (pR (kq P w)))/\(xs.map (·.1)).Nodup
 |.set S n=>h.SetOf (intKind P w) a S n
 |.ins C dx fs=>H dx=aa (.own a)/\fs.length<=1000/\dx≠a/\h.get? a=aa (W.instObj C dx) /\
  ∃mA,h.Ns1 dx mA/\(∀f,jo (fs.lookup f) (mA f))/\jW mA (fs.map (·.1))
 |.own _=>∃o,h.get? a=aa o
 |.xd fs=>∃mA,h.Ns1 a mA/\∀f,jo (fs.lookup f) (mA f)
 |.Gy lo hi=>∃t u v,h.get? a=aa { cls:=.type "range",data:=.fields #[.int lo t,.int hi u,.int 1 v] }
 |.eU o u=>h.get? a=aa o/\ku H h a u
 |.uU ps=>h.get? a=aa { cls:=.none,data:=.fields ps }
 |.met f x=>h.get? a=aa (W.methodObj (.ref f) (.ref x))
 |.ext φ=>φ h/\(∃o,h.get? a=aa o)/\∀h1 h2:bR,φ h1->(∀o,h1.get? a=aa o->h2.get? a=aa o)->φ h2
def iZ(H:Hp)(h:bR):Prop:=∀a o,H a=aa o->ku P w H h a o
end
section
variable {P:aU}{w:bz}{H H':Hp}{h h':bR}{a:ai}{o:HO}
theorem ku.lt(x:ku P w H h a o):a<h.objs.size:=by
 cases o with
 |lst xs=>obtain⟨_,_,_,_,e⟩:=x;exact aE e
 |tup xs=>obtain⟨_,_,_,p⟩:=x;exact p.lt
 |dK kvs=>obtain⟨_,_,_,_,o,_,_,e,_⟩:=x;exact aE e
 |dT kvs=>obtain⟨_,_,_,_,o,_,_,e,_⟩:=x;exact aE e
 |set S n=>obtain⟨o,_,_,_,e,_⟩:=x;exact aE e
 |ins C dx fs=>obtain⟨_,_,_,e,_⟩:=x;exact aE e
 |own y=>obtain⟨_,e⟩:=x;exact aE e
 |xd fs=>obtain⟨_,⟨_,_,_,e,_⟩,_⟩:=x;exact aE e
 |Gy lo hi=>obtain⟨_,_,_,e⟩:=x;exact aE e
 |eU ob u=>obtain⟨e,_⟩:=x;exact aE e
 |uU ps=>exact aE (show h.get? a=aa _ from x)
 |met f y=>exact aE (show h.get? a=aa _ from x)
 |ext φ=>obtain⟨_,⟨_,e⟩,_⟩:=x;exact aE e
theorem Paired.z0{α β:Type}{F G:α->β->Prop}:∀{l₁:List α} {l₂:List β},Paired F l₁ l₂->(∀a b,F a b->G a b)->Paired G l₁ l₂
 |_,_,.nil,_=>.nil
 |_,_,.cons r t,f=>.cons (f _ _ r) (Paired.z0 t f)
theorem ku.mX(x:ku P w H h a o)(k:∀b u,(b=a\/H b=aa (.own a))->h.get? b=aa u->h'.get? b=aa u)
  (ho:∀b,H b=aa (.own a)->H' b=aa (.own a)) (ht:∀b xs,H b=aa (.tup xs)->H' b=aa (.tup xs)):ku P w H' h' a o:=by
 induction o with
 |lst xs=>obtain⟨z,cy,n,r,e⟩:=x;exact⟨z,cy,n,r,k _ _ (.inl rfl) e⟩
 |tup xs=>obtain⟨z,cy,r,ob,e,c⟩:=x;exact⟨z,cy,r,ob,k _ _ (.inl rfl) e,c⟩
 |dK kvs=>obtain⟨z,y,vs,r,ob,es,ep,e,c⟩:=x;exact⟨z,y,vs,r,ob,es,ep,k _ _ (.inl rfl) e,c⟩
 | dT kvs=>
   obtain⟨z,y,xs,r,ob,es,ep,e,c⟩:=x;exact⟨z,y,xs,Paired.z0 r λp q z=>⟨z.1,ht _ _ z.2.1,z.2.2⟩,ob,es,ep,k _ _ (.inl rfl) e,c⟩
 |set S n=>obtain⟨ob,es,ep,t,e,c⟩:=x;exact⟨ob,es,ep,t,k _ _ (.inl rfl) e,c⟩
 | ins C dx fs=>
   obtain⟨d,z,ne,e,mA,⟨od,es,ep,e2,c⟩,r⟩:=x;exact⟨ho _ d,z,ne,k _ _ (.inl rfl) e,mA,⟨od,es,ep,k _ _ (.inr d) e2,c⟩,r⟩
 |own y=>obtain⟨ob,e⟩:=x;exact⟨ob,k _ _ (.inl rfl) e⟩
 |xd fs=>obtain⟨mA,⟨od,es,ep,e,c⟩,r⟩:=x;exact⟨mA,⟨od,es,ep,k _ _ (.inl rfl) e,c⟩,r⟩
 |Gy lo hi=>obtain⟨t,u,v,e⟩:=x;exact⟨t,u,v,k _ _ (.inl rfl) e⟩
 |eU ob u ih=>obtain⟨e,q⟩:=x;exact⟨k _ _ (.inl rfl) e,ih q⟩
 | uU ps=>
   have e:h.get? a=aa { cls:=.none,data:=.fields ps }:=x;show h'.get? a=aa { cls:=.none,data:=.fields ps };exact k a _ (.inl rfl) e
 | met f y=>
   have e:h.get? a=aa (W.methodObj (.ref f) (.ref y)):=x;show h'.get? a=aa (W.methodObj (.ref f) (.ref y));exact k a _ (.inl rfl) e
 |ext φ=>obtain⟨p,⟨o,e⟩,st⟩:=x;exact⟨st _ _ p λo q=>k _ _ (.inl rfl) q,⟨o,k _ _ (.inl rfl) e⟩,st⟩
theorem iZ.lt(x:iZ P w H h)(e:H a=aa o):a<h.objs.size:=(x a o e).lt
theorem iZ.fresh(x:iZ P w H h)(e:h.objs.size<=a):H a=ae:=by
 cases q:H a with
 |none=>rfl
 |some u=>exact absurd (aA (x.lt q) e) (dh _)
theorem iZ.kept(x:iZ P w H h)(k:∀b u,h.get? b=aa u->h'.get? b=aa u):iZ P w H h':=λa o e=>
 (x a o e).mX (λb u _ q=>k b u q) (λ_ q=>q) λ_ _ q=>q
theorem iZ.laid(x:iZ P w H h)(k:∀b u,h.get? b=aa u->h'.get? b=aa u)(hp:h.objs.size<=a)(new:ku P w (upd H a o) h' a o):iZ P w (upd H a o) h':=λb u e=>by
 have hn:=x.fresh hp;by_cases hb:b=a
 .subst hb;rw[gm] at e;cases e;exact new
 .rw[dr hb] at e
  exact(x b u e).mX (λc v _ q=>k c v q) (λc q=>by rw[dr (sQ q hn)];exact q) λc xs q=>by rw[dr (sQ q hn)];exact q
end
def Rd(H:Hp)(a:ai)(u:HO):Prop:=H a=aa u\/∃o,H a=aa (.eU o u)
theorem Rd.ok{P:aU}{w:bz}{H:Hp}{h:bR}{a:ai}{u:HO}(r:Rd H a u)(x:iZ P w H h):ku P w H h a u:=by
 rcases r with r | ⟨o,r⟩
 .exact x a u r
 .obtain⟨_,q⟩:=x a _ r
  exact q
def DC:Option HO->Prop
 |some (.lst _)=>True
 |some (.dK _)=>True
 |some (.dT _)=>True
 |some (.set _ _)=>True
 |some (.ins _ _ _)=>True
 |some (.ext _)=>True
 |_=>False
section
variable {P:aU}{w:bz}{H:Hp}{h h':bR}{x e:ai}{o':HO}
theorem iZ.write(ok:iZ P w H h)(mu:DC (H x))(he:e=x\/H e=aa (.own x))(k:∀b u,b≠e->h.get? b=aa u->h'.get? b=aa u)(B_:∃u,h'.get? e=aa u)
  (new:ku P w (upd H x o') h' x o'):iZ P w (upd H x o') h':=λb u q=>by
 have DD:∀c y,H c=aa (.own y)->c≠x:=λc y r z=>by subst z;rw[r] at mu;exact mu
 have JV:∀c xs,H c=aa (.tup xs)->c≠x:=λc xs r z=>by subst z;rw[r] at mu;exact mu
 by_cases hb:b=x
 .subst hb;rw[gm] at q;cases q;exact new
 .rw[dr hb] at q
  by_cases z1:b=e
  .have q':H b=aa (.own x):=by
    rcases he with z | z
    .exact absurd (z1.trans z) hb
    .rw[z1];exact z
   rw[q] at q';cases q';obtain⟨v,hv⟩:=B_;exact⟨v,by rw[z1];exact hv⟩
  .refine(ok b u q).mX (λc v hc r=>k c v ?_ r) (λc r=>by rw[dr (DD c b r)];exact r) λc xs r=>by rw[dr (JV c xs r)];exact r
   rcases hc with rfl | hc
   .exact z1
   .rintro rfl
    rcases he with z | z
    .exact DD c b hc z
    .rw[hc] at z;cases z;exact hb rfl
end
structure Un(fs ex:List ai)(H H':Hp)(h h':bR):Prop where
 keep:∀b o,h.get? b=aa o->H b=ae->b∉fs->b∉ex->h'.get? b=aa o
 slot:∀b o,h.get? b=aa o->H b=ae->b∈fs->b∉ex->∃sl,h'.get? b=aa { o with slots:=sl }
 free:∀b o,h.get? b=aa o->H b=ae->b∉ex->H' b=ae
 there:∀b o,h.get? b=aa o->b∉ex->∃o',h'.get? b=aa o'
 tups:∀b xs,H b=aa (.tup xs)->H' b=aa (.tup xs)
 frzs:∀b o u,H b=aa (.eU o u)->H' b=aa (.eU o u)
 tbls:∀b ps,H b=aa (.uU ps)->∃more,H' b=aa (.uU (ps++more))
section
variable {fs wx ex ex':List ai}{H H1 H2:Hp}{h h1 h2 h':bR}{a x e:ai}{o:HO}
theorem Un.any(u:Un fs ex H H1 h h1){b:ai}{ob:Obj}(q:h.get? b=aa ob)(n:H b=ae)(hx:b∉ex):∃sl,h1.get? b=aa { ob with slots:=sl }:=by
 by_cases hb:b∈fs
 .exact u.slot b ob q n hb hx
 .exact⟨ob.slots,u.keep b ob q n hb hx⟩
theorem Un.kept(k:∀b u,h.get? b=aa u->h'.get? b=aa u):Un fs ex H H h h':=
 ⟨λb ob q _ _ _=>k b ob q,λb ob q _ _ _=>⟨ob.slots,k b ob q⟩,λ_ _ _ n _=>n,λb ob q _=>⟨ob,k b ob q⟩,λ_ _ q=>q,λ_ _ _ q=>q,λ_ ps q=>⟨#[],by rw[q];simp⟩⟩
theorem Un.refl:Un fs ex H H h h:=Un.kept λ_ _ q=>q
theorem Un.laid(k:∀b u,h.get? b=aa u->h'.get? b=aa u)(hp:h.objs.size<=a)(hn:H a=ae):Un fs ex H (upd H a o) h h' where
 keep:=λb u q _ _ _=>k b u q
 slot:=λb u q _ _ _=>⟨u.slots,k b u q⟩
 free:=λb u q n _=>by rw[dr (aT (aA (aE q) hp))];exact n
 there:=λb u q _=>⟨u,k b u q⟩
 tups:=λb xs q=>by rw[dr (sQ q hn)];exact q
 frzs:=λb u xs q=>by rw[dr (sQ q hn)];exact q
 tbls:=λb ps q=>⟨#[],by rw[dr (sQ q hn),q];simp⟩
theorem Un.write(mu:DC (H x))(he:e=x\/H e=aa (.own x))(k:∀b u,b≠e->h.get? b=aa u->h'.get? b=aa u)(B_:∃u,h'.get? e=aa u):Un fs ex H (upd H x o) h h':=by
 have hx:∀b,H b=ae->b≠x:=λb n z=>by subst z;rw[n] at mu;exact mu
 have hb:∀b,H b=ae->b≠e:=λb n z=>by
  subst z;rcases he with r | r
  .exact hx b n r
  .rw[n] at r;cases r
 have hm:∀b u,H b=aa u->¬DC (aa u)->b≠x:=λb u q nm z=>by subst z;rw[q] at mu;exact nm mu
 refine⟨λb u q n _ _=>k b u (hb b n) q,λb u q n _ _=>⟨u.slots,k b u (hb b n) q⟩,λb u q n _=>by rw[dr (hx b n)];exact n,λb u q _=>?_,
  λb xs q=>by rw[dr (hm b _ q λz=>z)];exact q,λb u xs q=>by rw[dr (hm b _ q λz=>z)];exact q,λb ps q=>⟨#[],by rw[dr (hm b _ q λz=>z),q];simp⟩⟩
 by_cases z1:b=e
 .subst z1;exact B_
 .exact⟨u,k b u z1 q⟩
end
noncomputable def Gz(h:bR)(H:Hp):List ai:=(cz h.objs.size).filter λa=>(H a).isSome
def pe(h:bR)(H:Hp):bR:=W.hideAll h (Gz h H)
theorem Xd(h:bR)(H:Hp):(pe h H).objs.size=h.objs.size:=W.hideAll_size _ _
theorem Xe{h:bR}{H:Hp}{b:ai}{o:Obj}(e:h.get? b=aa o)(n:H b=ae):(pe h H).get? b=aa o:=
 W.hideAll_get _ e λhm=>by
  have q:(H b).isSome=true:=(bF.mp hm).2;rw[n] at q;simp at q
theorem Xf{h:bR}{H:Hp}{b:ai}{o:Obj}(e:(pe h H).get? b=aa o):h.get? b=aa o/\H b=ae:=by
 have e':h.get? b=aa o:=W.of_hideAll (Gz h H) e;refine⟨e',?_⟩;cases q:H b with
 |none=>rfl
 | some x=>
   have hm:b∈Gz h H:=bF.mpr ⟨eZ.mpr (aE e'),by simp[q]⟩;have z:(pe h H).get? b=ae:=W.hideAll_none (Gz h H) hm;rw[z] at e;cases e
noncomputable def Xg(g h:bR)(L:ai):List (ai×Obj):=(cz h.objs.size).filterMap λa=>if a=L\/(g.get? a).isSome=true then ae else(h.get? a).map λo=>(a,o)
noncomputable def jD(g h:bR)(L d:ai):List (ai×Obj):=(Xg g h L).filter λp=>decide (p.1≠d)
structure Mod(K:W.Frag)(mg:Str->Option ag)(base:bR):Prop where
 DF:K.In base
 glob:base.Ns bu mg
 blt:∃mb,base.Ns BV mb/\∀x:Str,x ≠ "__name__" -> mb x=dA x
 nolimit:base.NoLimit
structure Cx where
 prog:aU
 w:bz
 K:W.Frag
 mg:Str->Option ag
 base:bR
 A:cp
 N:List Str
 s₀:aq
 H₀:Hp
 env:Env
 outer:List Env
 stack:List Env
 ex:List ai
 fn:Str->Bool
 calm:Bool
 pn:List (ai×Obj)
 xe:ag->aq->Prop
 kn:List (Option V):=[]
noncomputable def mI(l:List Env):List ai:=l.filterMap (·.frame)
abbrev Cx.fs(X:Cx):List ai:=mI X.outer
def B'(sc:iG)(x:Str):Prop:=sc.names.lookup x=aa .local\/sc.names.lookup x=aa .cell\/sc.names.lookup x=aa .free
def Loc(sc:iG)(x:Str):Prop:=sc.names.lookup x=aa .local\/sc.names.lookup x=aa .cell
def Look(env:Env)(h:bR)(m:Str->Option ag)(x:Str)(u:ag):Prop:=
 (env.kindOf x=aa .local/\m x=aa u)\/((env.kindOf x=aa .cell\/env.kindOf x=aa .free)/\∃c,env.cells.lookup x=aa c/\h.IsCell c (aa u))
structure Cx.Ok(X:Cx):Prop where
 mod:Mod X.K X.mg X.base
 kind:X.env.scope.kind=.function
 glob:X.env.globals=bu
 blt:X.env.builtins=BV
 above:X.s₀.heap.objs.size<=X.env.locals
 inj:∀x y c,X.env.cells.lookup x=aa c->X.env.cells.lookup y=aa c->x=y
 has:∀x,(X.env.kindOf x=aa .cell\/X.env.kindOf x=aa .free)->∃c,X.env.cells.lookup x=aa c
 DJ:∀x c,X.fn x=true->X.env.cells.lookup x=aa c->X.s₀.heap.objs.size<=c
 hd:X.calm=true->X.A.handled=ae
 frames:X.A.frames=aa X.stack
 GA:X.stack=X.outer\/(X.stack=X.env::X.outer/\X.env.frame=aa X.env.locals)
 GB:∀b∈X.ex,b≠X.env.locals/\∀x c,X.env.cells.lookup x=aa c->c≠b
 bs:∀b o,X.base.get? b=aa o->X.s₀.heap.get? b=aa o/\X.H₀ b=ae
 w6:X.base.objs.size<=X.s₀.heap.objs.size
 uV:∀b o,X.base.get? b=aa o->b∉X.ex
 tD:∀b∈X.ex,b∉X.fs
 mY:X.s₀.heap.FunFrames X.base X.outer
 z7:∀b∈X.fs,X.H₀ b=ae
structure Inv(X:Cx)(ah:List (ai×Obj))(σ:List (Option V))(H:Hp)(s:aq):Prop where
 ok:X.Ok
 os:s.os=X.s₀.os
 bare:jZ s.gens
 base:Un X.fs X.ex X.H₀ H X.s₀.heap s.heap
 loc:∃m,s.heap.Ns X.env.locals m/\∀(i:Nat) (x:Str) (v:V),X.N[i]?=aa x->σ[i]?=aa (aa v)->B' X.env.scope x->∃u,RelV v u/\Look X.env s.heap m x u
 cell:∀x c,X.env.cells.lookup x=aa c->∃v,s.heap.IsCell c v
 free:H X.env.locals=ae
 i':∀x c,X.env.cells.lookup x=aa c->H c=ae
 pin:∀p∈X.pn++ah,s.heap.get? p.1=aa p.2/\H p.1=ae/\p.1≠X.env.locals/\p.1∉X.fs/\∀v,p.2.data≠.cell v
 cI:iZ X.prog X.w H s.heap
 len:σ.length=X.N.length
 kn:∀(i:Nat) (v:V),X.kn[i]?=aa (aa v)->σ[i]?=aa (aa v)
section
variable {X:Cx}{ah:List (ai×Obj)}{σ:List (Option V)}{H H':Hp}{s:aq}{h':bR}
theorem Cx.Ok.JW(ok:X.Ok){b:ai}{o:Obj}(e:X.base.get? b=aa o):b∉X.fs:=λhb=>by
 have:=(ok.mY.mem hb).1;rw[e] at this;cases this
theorem Inv.bs(I:Inv X ah σ H s):∀b o,X.base.get? b=aa o->s.heap.get? b=aa o/\H b=ae:=λb o e=>
 ⟨I.base.keep b o (I.ok.bs b o e).1 (I.ok.bs b o e).2 (I.ok.JW e) (I.ok.uV b o e),I.base.free b o (I.ok.bs b o e).1 (I.ok.bs b o e).2 (I.ok.uV b o e)⟩
theorem Inv.bk(I:Inv X ah σ H s):∀b o,X.base.get? b=aa o->s.heap.get? b=aa o:=λb o e=>(I.bs b o e).1
theorem Inv.mod(I:Inv X ah σ H s):Mod X.K X.mg X.base:=I.ok.mod
theorem Inv.jX(I:Inv X ah σ H s):X.K.In s.heap:=I.ok.mod.DF.keeps I.bk
theorem Inv.fr(I:Inv X ah σ H s):∃m,Fr X.base X.env.locals s.heap m:=
 let ⟨m,hn,_⟩:=I.loc
 ⟨m,hn,I.bk,bJ I.ok.w6 I.ok.above⟩
theorem Inv.lt(I:Inv X ah σ H s):X.env.locals<s.heap.objs.size:=let ⟨_,hn,_⟩:=I.loc;hn.lt
theorem Inv.sz(I:Inv X ah σ H s):X.s₀.heap.objs.size<=s.heap.objs.size:=bJ I.ok.above (m8 I.lt)
theorem Inv.JX(I:Inv X ah σ H s){a:ai}(h:s.heap.objs.size<=a):a∉X.fs:=λhb=>by
 obtain⟨_,o,ho,_⟩:=I.ok.mY.mem hb;exact absurd (aA (aE ho) (bJ I.sz h)) (dh _)
theorem Inv.z8(I:Inv X ah σ H s):∀x c,X.env.cells.lookup x=aa c->c≠X.env.locals:=λx c e z=>by
 obtain⟨v,o,ho,hd⟩:=I.cell x c e;obtain⟨m,⟨o',es,ep,wy,wz,_⟩,_⟩:=I.loc;rw[z,wy] at ho;cases ho;rw[wz] at hd;cases hd
theorem Inv.mY(I:Inv X ah σ H s):s.heap.FunFrames X.base X.outer:=by
 have all:∀(l:List Env),(∀b∈mI l,b∈X.fs)->X.s₀.heap.FunFrames X.base l->s.heap.FunFrames X.base l:=by
  intro l
  induction l with
  |nil=>intro _ _;trivial
  | cons env r ih=>
    intro hs hl;obtain⟨hk,⟨L,o,hf,hn,ho,hd⟩,hr⟩:=hl;have hL:L∈X.fs:=hs L (by unfold mI;rw[lB,hf];exact az);obtain⟨sl,e⟩:=I.base.slot L o ho (I.ok.z7 L hL) hL λz=>I.ok.tD L z hL;exact⟨hk,⟨L,_,hf,hn,e,hd⟩,ih (λb hb=>hs b (by unfold mI;rw[lB,hf];exact ao _ hb)) hr⟩
 exact all X.outer (λ_ hb=>hb) I.ok.mY
theorem Inv.stack(I:Inv X ah σ H s):s.heap.FunFrames X.base X.stack:=by
 rcases I.ok.GA with e | ⟨e,hf⟩
 .rw[e];exact I.mY
 .rw[e]
  obtain⟨m,hn,_⟩:=I.loc;refine .cons (by rw[I.ok.kind];decide) hf hn ?_ I.mY;exact Heap.get?_none_of_le (bJ I.ok.w6 I.ok.above)
theorem Inv.rM(I:Inv X ah σ H s):∀b∈mI X.stack,b∈X.env.locals::X.fs:=λb hb=>by
 rcases I.ok.GA with e | ⟨e,hf⟩
 .rw[e] at hb;exact ao _ hb
 .rw[e] at hb
  unfold mI at hb;rw[lB,hf] at hb;exact hb
theorem Inv.nh(I:Inv X ah σ H s):∀b∈mI X.stack,H b=ae:=λb hb=>by
 rcases aH.mp (I.rM b hb) with e | hb
 .rw[e];exact I.free
 .obtain⟨_,o,ho,_⟩:=I.ok.mY.mem hb
  exact I.base.free b o ho (I.ok.z7 b hb) λz=>I.ok.tD b z hb
theorem Inv.step{g':Array GenState}{t':Nat}{d':Drawn}{ch:List ai}(I:Inv X ah σ H s)
  (wA:∀b∈ch,(b∈X.ex\/X.s₀.heap.objs.size<=b)/\b≠X.env.locals/\(∀x c,X.env.cells.lookup x=aa c->c≠b)/\∀p∈X.pn++ah,p.1≠b)
  (keep:∀b o,b≠X.env.locals->b∉X.fs->b∉ch->s.heap.get? b=aa o->H b=ae->h'.get? b=aa o)
  (slot:∀b o,b≠X.env.locals->b∈X.fs->b∉ch->s.heap.get? b=aa o->H b=ae->∃sl,h'.get? b=aa { o with slots:=sl }) (free:∀b o,b∉ch->s.heap.get? b=aa o->H b=ae->H' b=ae)
  (there:∀b o,b∉ch->s.heap.get? b=aa o->∃o',h'.get? b=aa o')
  (tups:∀b xs,H b=aa (.tup xs)->H' b=aa (.tup xs)) (frzs:∀b o u,H b=aa (.eU o u)->H' b=aa (.eU o u)) (tbls:∀b ps,H b=aa (.uU ps)->∃more,H' b=aa (.uU (ps++more)))
  (ns:∀m,s.heap.Ns X.env.locals m->h'.Ns X.env.locals m) (cI:iZ X.prog X.w H' h') (hg:jZ g') :
  Inv X ah σ H' { s with heap:=h',gens:=g',drawn:=d',toks:=t' }:=by
 have Pn:∀b o,X.s₀.heap.get? b=aa o->b≠X.env.locals:=λb o e=>aT (aA (aE e) I.ok.above);have GC:∀b o,X.s₀.heap.get? b=aa o->b∉X.ex->b∉ch:=λb o e hx hb=>by
  rcases(wA b hb).1 with z | z
  .exact hx z
  .exact absurd (aA (aE e) z) (dh _)
 have yS:∀x c,X.env.cells.lookup x=aa c->∀v,s.heap.IsCell c v->h'.IsCell c v:=λx c e v ⟨o,ho,hd⟩=>by
  have DK:c∉ch:=λz=>(wA c z).2.2.1 x c e rfl;by_cases hc:c∈X.fs
  .obtain⟨sl,q⟩:=slot c o (I.z8 x c e) hc DK ho (I.i' x c e)
   exact⟨_,q,hd⟩
  .exact⟨o,keep c o (I.z8 x c e) hc DK ho (I.i' x c e),hd⟩
 refine⟨I.ok,I.os,hg,⟨λb o e n hb hx=>?_,λb o e n hb hx=>?_,λb o e n hx=>?_,λb o e hx=>?_,λb xs e=>tups b xs (I.base.tups b xs e),λb o xs e=>frzs b o xs (I.base.frzs b o xs e),λb ps e=>?_⟩,?_,λx c e=>?_,?_,λx c e=>?_,λp hp=>?_,cI,I.len,I.kn⟩
 .exact keep b o (Pn b o e) hb (GC b o e hx) (I.base.keep b o e n hb hx) (I.base.free b o e n hx)
 .obtain⟨sl,e1⟩:=I.base.slot b o e n hb hx
  obtain⟨GD,e2⟩:=slot b _ (Pn b o e) hb (GC b o e hx) e1 (I.base.free b o e n hx);exact⟨GD,e2⟩
 .obtain⟨o',e1⟩:=I.base.there b o e hx
  exact free b o' (GC b o e hx) e1 (I.base.free b o e n hx)
 .obtain⟨o',e1⟩:=I.base.there b o e hx
  exact there b o' (GC b o e hx) e1
 .obtain⟨m1,e1⟩:=I.base.tbls b ps e
  obtain⟨m2,e2⟩:=tbls b _ e1;exact⟨m1++m2,by rw[e2,uf]⟩
 .obtain⟨m,hn,hl⟩:=I.loc
  refine⟨m,ns m hn,λi x v e1 e2 e3=>?_⟩;obtain⟨u,r,l⟩:=hl i x v e1 e2 e3;refine⟨u,r,?_⟩;rcases l with l | ⟨k,c,e,z⟩
  .exact .inl l
  .exact .inr ⟨k,c,e,yS x c e _ z⟩
 .obtain⟨v,z⟩:=I.cell x c e
  exact⟨v,yS x c e v z⟩
 .obtain⟨m,⟨o,_,_,ho,_⟩,_⟩:=I.loc
  exact free _ o (λz=>(wA _ z).2.1 rfl) ho I.free
 .obtain⟨v,o,ho,hd⟩:=I.cell x c e
  exact free c o (λz=>(wA c z).2.2.1 x c e rfl) ho (I.i' x c e)
 .obtain⟨e,n,ne,nf,d⟩:=I.pin p hp
  have DK:p.1∉ch:=λz=>(wA p.1 z).2.2.2 p hp rfl;exact⟨keep p.1 p.2 ne nf DK e n,free p.1 p.2 DK e n,ne,nf,d⟩
theorem Inv.un{t':Nat}(I:Inv X ah σ H s)(u:Un X.fs [] H H' s.heap h')(cI:iZ X.prog X.w H' h'):Inv X ah σ H' { s with heap:=h',toks:=t' }:=by
 obtain⟨m,⟨o,es,ep,ho,r⟩,_⟩:=id I.loc;obtain⟨sl,hL⟩:=u.any ho I.free (by simp);exact I.step (g':=s.gens) (d':=s.drawn) (ch:=[]) (λ_ z=>nomatch z) (λb o _ hb _ e n=>u.keep b o e n hb (by simp)) (λb o _ hb _ e n=>u.slot b o e n hb (by simp)) (λb o _ e n=>u.free b o e n (by simp)) (λb o _ e=>u.there b o e (by simp)) u.tups u.frzs u.tbls (λm' hm=>by
  obtain⟨o',z9,z_,wy,r'⟩:=hm;rw[ho] at wy;cases wy;exact⟨_,z9,z_,hL,r'⟩) cI I.bare
theorem Inv.call{g':Array GenState}{t':Nat}{d':Drawn}{ch:List ai}(I:Inv X ah σ H s)(u:Un (mI X.stack) ch H H' s.heap h')(cI:iZ X.prog X.w H' h')(hg:jZ g')
  (wA:∀b∈ch,(b∈X.ex\/X.s₀.heap.objs.size<=b)/\b≠X.env.locals/\(∀x c,X.env.cells.lookup x=aa c->c≠b)/\∀p∈X.pn++ah,p.1≠b) :
  Inv X ah σ H' { s with heap:=h',gens:=g',drawn:=d',toks:=t' }:=by
 obtain⟨m,⟨o,es,ep,ho,r⟩,_⟩:=id I.loc;obtain⟨sl,hL⟩:=u.any ho I.free λz=>(wA _ z).2.1 rfl;exact I.step (ch:=ch) wA (λb o hL hb hc e n=>u.keep b o e n (λz=>(aH.mp (I.rM b z)).elim hL hb) hc) (λb o _ _ hc e n=>u.any e n hc) (λb o hc e n=>u.free b o e n hc) (λb o hc e=>u.there b o e hc) u.tups u.frzs u.tbls (λm' hm=>by
  obtain⟨o',z9,z_,wy,r'⟩:=hm;rw[ho] at wy;cases wy;exact⟨_,z9,z_,hL,r'⟩) cI hg
theorem Inv.turned{t':Nat}{it:ai}(I:Inv X ah σ H s)(k:∀b o,b≠it->s.heap.get? b=aa o->h'.get? b=aa o)(hn:H it=ae)(hL:it≠X.env.locals)
  (h1:it∈X.ex\/X.s₀.heap.objs.size<=it) (h2:∀x c,X.env.cells.lookup x=aa c->c≠it) (h3:∀p∈X.pn++ah,p.1≠it):Inv X ah σ H { s with heap:=h',toks:=t' }:=by
 have Pp:∀b u,H b=aa u->b≠it:=λb u e z=>by rw[z,hn] at e;cases e
 refine I.step (g':=s.gens) (d':=s.drawn) (ch:=[it]) (λb hb=>?_) (λb o _ _ hc e _=>k b o (λz=>hc (by simp[z])) e) (λb o _ _ hc e _=>⟨o.slots,k b o (λz=>hc (by simp[z])) e⟩) (λ_ _ _ _ n=>n)
  (λb o hc e=>⟨o,k b o (λz=>hc (by simp[z])) e⟩) (λ_ _ e=>e) (λ_ _ _ e=>e) (λb ps e=>⟨#[],by rw[e];simp⟩) (λm hm=>?_) (λb u e=>?_) I.bare
 .have e:b=it:=by simpa using hb
  subst e;exact⟨h1,hL,h2,h3⟩
 .obtain⟨o,es,ep,ho,r⟩:=hm
  exact⟨o,es,ep,k _ o (bM hL) ho,r⟩
 .refine(I.cI b u e).mX (λc v hc q=>k c v ?_ q) (λ_ q=>q) λ_ _ q=>q
  rcases hc with z | z
  .rw[z];exact Pp b u e
  .exact Pp c _ z
theorem Inv.tok(I:Inv X ah σ H s)(t:Nat):Inv X ah σ H { s with toks:=t }:=I.un (h':=s.heap) (t':=t) Un.refl I.cI
theorem Inv.kept{t':Nat}(I:Inv X ah σ H s)(k:∀b u,s.heap.get? b=aa u->h'.get? b=aa u):Inv X ah σ H { s with heap:=h',toks:=t' }:=I.un (Un.kept k) (I.cI.kept k)
theorem Inv.laid{a:ai}{o:HO}{t':Nat}(I:Inv X ah σ H s)(k:∀b u,s.heap.get? b=aa u->h'.get? b=aa u)(hp:s.heap.objs.size<=a)(new:ku X.prog X.w (upd H a o) h' a o) :
 Inv X ah σ (upd H a o) { s with heap:=h',toks:=t' }:=I.un (Un.laid k hp (I.cI.fresh hp)) (I.cI.laid k hp new)
theorem Inv.write{x e:ai}{o:HO}{t':Nat}(I:Inv X ah σ H s)(mu:DC (H x))(he:e=x\/H e=aa (.own x))(k:∀b u,b≠e->s.heap.get? b=aa u->h'.get? b=aa u)(B_:∃u,h'.get? e=aa u)
 (new:ku X.prog X.w (upd H x o) h' x o):Inv X ah σ (upd H x o) { s with heap:=h',toks:=t' }:=I.un (Un.write mu he k B_) (I.cI.write mu he k B_ new)
theorem Inv.weak{σ':List (Option V)}(I:Inv X ah σ H s)(hl:σ'.length=σ.length)(w:∀(i:Nat) v,σ'[i]?=aa (aa v)->σ[i]?=aa (aa v))(wk:∀(i:Nat) (v:V),X.kn[i]?=aa (aa v)->σ'[i]?=aa (aa v)):Inv X ah σ' H s:=
 ⟨I.ok,I.os,I.bare,I.base,let ⟨m,hn,Pq⟩:=I.loc;⟨m,hn,λi x v e1 e2 e3=>Pq i x v e1 (w i v e2) e3⟩,I.cell,I.free,I.i',I.pin,I.cI,hl.trans I.len,wk⟩
theorem Inv.ni{iM:List (ai×Obj)}(I:Inv X ah σ H s)(h:∀p∈iM,s.heap.get? p.1=aa p.2/\H p.1=ae/\p.1≠X.env.locals/\p.1∉X.fs/\∀v,p.2.data≠.cell v):Inv X iM σ H s:=
 ⟨I.ok,I.os,I.bare,I.base,I.loc,I.cell,I.free,I.i',λp hp=>(bp.mp hp).elim (λz=>I.pin p (bh _ z)) (h p),I.cI,I.len,I.kn⟩
theorem Pr{N:List Str}(hN:N.Nodup){i j:Nat}{x:Str}(a:N[i]?=aa x)(b:N[j]?=aa x):i=j:=by
 obtain⟨h1,e1⟩:=aw.mp a;obtain⟨h2,e2⟩:=aw.mp b;exact(List.getElem_inj hN).mp (e1.trans e2.symm)
theorem JY{M:yG}{A:cp}{E:ag->aq->Prop}{i:Nat}{x:Str}{v:V}{u:ag}{Q:Unit->aq->Prop}(I:Inv X ah σ H s)(hN:X.N.Nodup)(hi:X.N[i]?=aa x)(hx:Loc X.env.scope x)(r:RelV v u)
  (h:∀s',Inv X ah (σ.set i (aa v)) H s'->(∃a,iU a s.heap s'.heap/\(a=X.env.locals\/X.env.cells.lookup x=aa a))->Q () s') (hf:X.fn x=true\/X.env.scope.names.lookup x=aa .local:=by first | exact .inl rfl | exact .inr rfl | assumption) (hkn:∀u:V,X.kn[i]?≠aa (aa u):=by first | assumption | exact λu h=>nomatch (show(ae:Option (Option V))=aa (aa u) from h) | exact λu h=>nomatch (bf (show aa (ae:Option V)=aa (aa u) from h))):wpAny M A (storeName X.env x u) Q E s:=by
 obtain⟨m,hn,hl⟩:=id I.loc;have Aa:(X.env.scope.kind==.class || (X.env.scope.kind==.module&&X.env.locals != X.env.globals))=false:=by rw[I.ok.kind];rfl
 have Pt:i < σ.length:=by rw[I.len];exact(aw.mp hi).1
 have z8:=I.z8;have Pu:∀(j:Nat) (v':V),X.kn[j]?=aa (aa v')->(σ.set i (aa v))[j]?=aa (aa v'):=λj v' e=>by
  by_cases hj:j=i
  .subst hj;exact absurd e (hkn v')
  .rw[c7 (bM hj)];exact I.kn j v' e
 have sR:∀{a:ai} {h':bR},(∃o,s.heap.get? a=aa o/\H a=ae)->iU a s.heap h'->iZ X.prog X.w H h':=λ{a h'} ha hs b ob e=>by
  obtain⟨_,_,sS⟩:=ha;refine(I.cI b ob e).mX (λc w' hc q=>(hs.2 c ?_).trans q) (λ_ q=>q) λ_ _ q=>q;rintro rfl;rcases hc with rfl | hc
  .rw[sS] at e;cases e
  .rw[sS] at hc;cases hc
 rcases hx with hk | hk
 .refine wpAny_storeName_local hk hn (λh' yT hs=>?_) Aa
  obtain⟨oL,_,_,Xh,_⟩:=id hn;refine h _ ⟨I.ok,I.os,I.bare,⟨λb o e n hb hx=>?_,λb o e n hb hx=>?_,I.base.free,λb o e hx=>?_,I.base.tups,I.base.frzs,I.base.tbls⟩,⟨_,yT,λj y v' e1 e2 e3=>?_⟩,λy c e=>?_,I.free,I.i',λp hp=>?_,sR ⟨oL,Xh,I.free⟩ hs,by simpa using I.len,Pu⟩ ⟨_,hs,.inl rfl⟩
  .exact(hs.2 b (aT (aA (aE e) I.ok.above))).trans (I.base.keep b o e n hb hx)
  .obtain⟨sl,e1⟩:=I.base.slot b o e n hb hx
   exact⟨sl,(hs.2 b (aT (aA (aE e) I.ok.above))).trans e1⟩
  .obtain⟨o',e1⟩:=I.base.there b o e hx
   exact⟨o',(hs.2 b (aT (aA (aE e) I.ok.above))).trans e1⟩
  .by_cases hj:j=i
   .subst hj
    rw[hi] at e1;cases e1;rw[fK Pt] at e2;cases e2;exact⟨u,r,.inl ⟨hk,by simp⟩⟩
   .rw[c7 (bM hj)] at e2
    obtain⟨u',r',q⟩:=hl j y v' e1 e2 e3;refine⟨u',r',?_⟩;rcases q with⟨k,e⟩ | ⟨k,c,e,z⟩
    .refine .inl ⟨k,?_⟩
     have:y≠x:=λe=>hj (Pr hN e1 (e▸hi));simp[this,e]
    .exact .inr ⟨k,c,e,z.sameBut hs (z8 y c e)⟩
  .obtain⟨w',z⟩:=I.cell y c e
   exact⟨w',z.sameBut hs (z8 y c e)⟩
  .obtain⟨e,n,ne,nf,d⟩:=I.pin p hp
   exact⟨(hs.2 p.1 ne).trans e,n,ne,nf,d⟩
 .have JZ:X.fn x=true:=by
   rcases hf with z | z
   .exact z
   .rw[z] at hk;cases hk
  obtain⟨c,hc⟩:=I.ok.has x (.inl hk);obtain⟨w',z⟩:=I.cell x c hc;refine wpAny_storeName_cell I.ok.kind hk hc z (λh' GF hs=>?_);obtain⟨oc,GG,J0⟩:=id z;refine h { s with heap:=h' } ⟨I.ok,I.os,I.bare,⟨λb o e n hb hx=>?_,λb o e n hb hx=>?_,I.base.free,λb o e hx=>?_,I.base.tups,I.base.frzs,I.base.tbls⟩,⟨m,hn.sameBut hs (bM (z8 x c hc)),λj y v' e1 e2 e3=>?_⟩,λy c' e=>?_,I.free,I.i',λp hp=>?_,sR ⟨oc,GG,I.i' x c hc⟩ hs,by simpa using I.len,Pu⟩ ⟨c,hs,.inr hc⟩
  .exact(hs.2 b (aT (aA (aE e) (I.ok.DJ x c JZ hc)))).trans (I.base.keep b o e n hb hx)
  .obtain⟨sl,e1⟩:=I.base.slot b o e n hb hx
   exact⟨sl,(hs.2 b (aT (aA (aE e) (I.ok.DJ x c JZ hc)))).trans e1⟩
  .obtain⟨o',e1⟩:=I.base.there b o e hx
   exact⟨o',(hs.2 b (aT (aA (aE e) (I.ok.DJ x c JZ hc)))).trans e1⟩
  .by_cases hj:j=i
   .subst hj
    rw[hi] at e1;cases e1;rw[fK Pt] at e2;cases e2;exact⟨u,r,.inr ⟨.inl hk,c,hc,GF⟩⟩
   .rw[c7 (bM hj)] at e2
    obtain⟨u',r',q⟩:=hl j y v' e1 e2 e3;refine⟨u',r',?_⟩;rcases q with q | ⟨k,c',e,z'⟩
    .exact .inl q
    .refine .inr ⟨k,c',e,z'.sameBut hs ?_⟩
     rintro rfl;exact hj (Pr hN e1 (I.ok.inj _ _ _ e hc▸hi))
  .by_cases Pw:c'=c
   .subst Pw;exact⟨_,GF⟩
   .obtain⟨w2,z2⟩:=I.cell y c' e
    exact⟨w2,z2.sameBut hs Pw⟩
  .obtain⟨e,n,ne,nf,d⟩:=I.pin p hp
   refine⟨(hs.2 p.1 ?_).trans e,n,ne,nf,d⟩;intro q;rw[q,GG] at e;have q':oc=p.2:=bf e;exact d w' (by rw[<- q'];exact J0)
theorem Px{M:yG}{A:cp}{E:ag->aq->Prop}{i:Nat}{x:Str}{v:V}{u:ag}{Q:Unit->aq->Prop}(I:Inv X ah σ H s)(hN:X.N.Nodup)(hi:X.N[i]?=aa x)(hx:Loc X.env.scope x)(r:RelV v u)
  (h:∀s',Inv X ah (σ.set i (aa v)) H s'->Q () s') (hf:X.fn x=true\/X.env.scope.names.lookup x=aa .local:=by first | exact .inl rfl | exact .inr rfl | assumption) (hkn:∀u:V,X.kn[i]?≠aa (aa u):=by first | assumption | exact λu h=>nomatch (show(ae:Option (Option V))=aa (aa u) from h) | exact λu h=>nomatch (bf (show aa (ae:Option V)=aa (aa u) from h))):wpAny M A (storeName X.env x u) Q E s:=
 JY I hN hi hx r (λs' I' _=>h s' I') hf hkn
theorem Inv.uW{s':aq}{ch:List ai}(I:Inv X ah σ H s)(ho:s'.os=s.os)(u:Un (mI X.stack) ch H H' s.heap s'.heap)(cI:iZ X.prog X.w H' s'.heap)(hg:jZ s'.gens)
  (wA:∀b∈ch,(b∈X.ex\/X.s₀.heap.objs.size<=b)/\b≠X.env.locals/\(∀x c,X.env.cells.lookup x=aa c->c≠b)/\∀p∈X.pn++ah,p.1≠b):Inv X ah σ H' s':=by
 obtain⟨h',g',d',t',o'⟩:=s';have e:o'=s.os:=ho;subst e;exact I.call (g':=g') (t':=t') (d':=d') u cI hg wA
end
abbrev XK:=ag->Option ai->Hp->Prop
abbrev St:=List (Option V)
abbrev VK:=V->Hp->Prop
abbrev TE:=St->Hp->VK->Prop
abbrev TT:=St->Hp->(Bool->Hp->Prop)->Prop
abbrev TA:=St->Hp->(List V->Hp->Prop)->Prop
structure Ends where
 nx:St->Hp->Prop
 rt:VK
 bk:St->Hp->Prop:=λ_ _=>False
 ct:St->Hp->Prop:=λ_ _=>False
abbrev TS:=Ends->St->Hp->Prop
def EP(X:Cx)(ah:List (ai×Obj))(σ:St)(Q:VK)(u:ag)(s':aq):Prop:=∃v H',Inv X ah σ H' s'/\RelV v u/\Q v H'
def TP(X:Cx)(ah:List (ai×Obj))(σ:St)(Q:Bool->Hp->Prop)(b:Bool)(s':aq):Prop:=∃H',Inv X ah σ H' s'/\Q b H'
def AP(X:Cx)(ah:List (ai×Obj))(σ:St)(Q:List V->Hp->Prop)(us:List ag)(s':aq):Prop:=∃vs H',Inv X ah σ H' s'/\cj vs us/\Q vs H'
def SP(X:Cx)(ah:List (ai×Obj))(D:Ends)(f:Flow)(s':aq):Prop:=
 match f with
 |.next=>∃σ' H',Inv X ah σ' H' s'/\D.nx σ' H'
 |.brk=>∃σ' H',Inv X ah σ' H' s'/\D.bk σ' H'
 |.cont=>∃σ' H',Inv X ah σ' H' s'/\D.ct σ' H'
 |.ret u=>∃v σ' H',Inv X ah σ' H' s'/\RelV v u/\D.rt v H'
def PE(X:Cx)(e:bx)(t:TE):Prop:=
 ∀(ah:List (ai×Obj)) (s:aq) (σ:St) (H:Hp) (Q:VK),Inv X ah σ H s->t σ H Q->wpAny (aN X.prog X.w) X.A (eval e X.env) (EP X ah σ Q) X.xe s
def PT(X:Cx)(e:bx)(t:TT):Prop:=
 ∀(ah:List (ai×Obj)) (s:aq) (σ:St) (H:Hp) (Q:Bool->Hp->Prop),Inv X ah σ H s->t σ H Q->wpAny (aN X.prog X.w) X.A (isTrue e X.env (eval e X.env)) (TP X ah σ Q) X.xe s
def PW(X:Cx)(e:bx)(t:TT):Prop:=
 ∀(nH:Sem ag) (ah:List (ai×Obj)) (s:aq) (σ:St) (H:Hp) (Q:Bool->Hp->Prop),Inv X ah σ H s->t σ H Q->wpAny (aN X.prog X.w) X.A (isTrue e X.env nH) (TP X ah σ Q) X.xe s
theorem PW.pt{X:Cx}{e:bx}{t:TT}(h:PW X e t):PT X e t:=h _
def PA(X:Cx)(es:List bx)(t:TA):Prop:=
 ∀(pos:Pos) (ah:List (ai×Obj)) (s:aq) (σ:St) (H:Hp) (Q:List V->Hp->Prop),Inv X ah σ H s->t σ H Q->wpAny (aN X.prog X.w) X.A (spliced (bL pos (av es X.env))) (AP X ah σ Q) X.xe s
def PS(X:Cx)(st:bS)(t:TS):Prop:=
 ∀(ah:List (ai×Obj)) (s:aq) (σ:St) (H:Hp) (D:Ends),Inv X ah σ H s->t D σ H->wpAny (aN X.prog X.w) X.A (exec st X.env) (SP X ah D) X.xe s
def k6(X:Cx)(st:List bS)(t:TS):Prop:=
 ∀(ah:List (ai×Obj)) (s:aq) (σ:St) (H:Hp) (D:Ends),Inv X ah σ H s->t D σ H->wpAny (aN X.prog X.w) X.A (execs st X.env) (SP X ah D) X.xe s
theorem dF{α:Type}{t:Sem α}{Q Q':α->aq->Prop}{M:yG}{A:cp}{E:ag->aq->Prop}{s:aq}(h:wpAny M A t Q E s)(hQ:∀a s,Q a s->Q' a s):wpAny M A t Q' E s:=bT h hQ λ_ _ x=>x
section
variable {X:Cx}
theorem bin{a b:bx}{ta tb:TE}(ha:PE X a ta)(hb:PE X b tb){ah:List (ai×Obj)}{s:aq}{σ:St}{H:Hp}{R:V->V->Hp->Prop}(I:Inv X ah σ H s)(h:ta σ H λx H1=>tb σ H1 λy H2=>R x y H2)
  {α:Type} {Q:α->aq->Prop} {f:ag->ag->Sem α}
  (hf:∀v u s2 x y H2,Inv X ah σ H2 s2->RelV x v->RelV y u->R x y H2->wpAny (aN X.prog X.w) X.A (f v u) Q X.xe s2) :
  wpAny (aN X.prog X.w) X.A (eval a X.env) (λv s₁=>wpAny (aN X.prog X.w) X.A (eval b X.env) (λu s₂=>wpAny (aN X.prog X.w) X.A (f v u) Q X.xe s₂) X.xe s₁) X.xe s:=by
 refine dF (ha ah s σ H _ I h) λv s1 cN=>?_;obtain⟨x,H1,I1,r1,q1⟩:=cN;refine dF (hb ah s1 σ H1 _ I1 q1) λu s2 cN=>?_;obtain⟨y,H2,I2,r2,q2⟩:=cN;exact hf v u s2 x y H2 I2 r1 r2 q2
def mv(i:Nat):TE:=fun σ H Q=>∃v,σ[i]?=aa (aa v)/\Q v H
def tC(v:V):TE:=λ_ H Q=>Q v H
theorem uX{i:Nat}{x:Str}{pos:Pos}(hN:X.N[i]?=aa x)(hv:B' X.env.scope x)(hd:(x==("__debug__" : Str))=false:=by decide)(tE:(x==("__classdict__" : Str))=false:=by decide):PE X (.Name x pos) (mv i):=by
 intro ah s σ H Q I h;obtain⟨v,e,h⟩:=h;obtain⟨m,hn,hl⟩:=I.loc;obtain⟨u,r,l⟩:=hl i x v hN e hv;have fin:EP X ah σ Q u s:=⟨v,H,I,r,h⟩;rcases l with⟨hk,hm⟩ | ⟨hk,c,hc,mJ⟩
 .exact BW (wpAny_loadName_local I.ok.kind hk hn hm fin) hd
 .rcases hk with hk | hk
  .exact BW (wpAny_loadName_cell I.ok.kind hk hc mJ fin) hd
  .exact BW (wpAny_loadName_free I.ok.kind hk hc mJ fin tE) hd
theorem Xi{i j pos}:PE X (.Constant (.int i) j pos) (tC (.int i)):=λ_ _ _ H _ I h=>wpAny_Constant_int ⟨.int i,H,I.tok _,⟨_,rfl⟩,h⟩
theorem Xj{b j pos}:PE X (.Constant (.bool b) j pos) (tC (.bl b)):=λ_ _ _ H _ I h=>Constant_bool ⟨.bl b,H,I,rfl,h⟩
theorem Xk{j pos}:PE X (.Constant .none j pos) (tC .bq):=λ_ _ _ H _ I h=>Constant_none ⟨.bq,H,I,rfl,h⟩
theorem GH{x j pos}:PE X (.Constant (.str x) j pos) (tC (.str x)):=λ_ _ _ H _ I h=>Calls.Constant_str ⟨.str x,H,I.tok _,⟨_,rfl⟩,h⟩
def Gl(X:Cx)(x:Str):Prop:=X.env.kindOf x=aa .globalImplicit
theorem Ab{E:ag->aq->Prop}{ah:List (ai×Obj)}{s:aq}{σ:St}{H:Hp}{x:Str}{u:ag}{pos:Pos}{Q:ag->aq->Prop}(I:Inv X ah σ H s)(hg:Gl X x)(hm:X.mg x=aa u)(h:Q u s)
  (hd:(x==("__debug__" : Str))=false:=by decide):wpAny (aN X.prog X.w) X.A (eval (.Name x pos) X.env) Q E s:=
 oX I.ok.kind hg (Calls.loadGlobal_global (by rw[I.ok.glob];exact I.mod.glob.keeps I.bk) hm h) hd
theorem Ac{E:ag->aq->Prop}{ah:List (ai×Obj)}{s:aq}{σ:St}{H:Hp}{x:Str}{u:ag}{pos:Pos}{Q:ag->aq->Prop}(I:Inv X ah σ H s)(hg:Gl X x)(hm:X.mg x=ae)(hv:dA x=aa u)(h:Q u s)
  (hn:x ≠ "__name__":=by decide) (hd:(x==("__debug__" : Str))=false:=by decide):wpAny (aN X.prog X.w) X.A (eval (.Name x pos) X.env) Q E s:=by
 obtain⟨mb,h1,h2⟩:=I.mod.blt;exact oX I.ok.kind hg (Calls.loadGlobal_builtin (by rw[I.ok.glob];exact I.mod.glob.keeps I.bk) hm (by rw[I.ok.blt];exact h1.keeps I.bk) ((h2 x hn).trans hv) h) hd
theorem Xl{x:Str}{v:V}{u:ag}{pos:Pos}(hg:Gl X x)(hm:X.mg x=aa u)(r:RelV v u)(hd:(x==("__debug__" : Str))=false:=by decide):PE X (.Name x pos) (tC v):=
 λ_ _ _ H _ I h=>Ab I hg hm ⟨v,H,I,r,h⟩ hd
theorem Xm{x:Str}{v:V}{u:ag}{pos:Pos}(hg:Gl X x)(hm:X.mg x=ae)(hv:dA x=aa u)(r:RelV v u)(hn:x ≠ "__name__":=by decide)(hd:(x==("__debug__" : Str))=false:=by decide):PE X (.Name x pos) (tC v):=
 λ_ _ _ H _ I h=>Ac I hg hm hv ⟨v,H,I,r,h⟩ hn hd
variable {a b:bx}{ta tb:TE}{pos:Pos}
def PC(X:Cx)(op:uJ)(a b:bx)(t:TE):Prop:=
 ∀ (ah:List (ai×Obj)) (s:aq) (σ:St) (H:Hp) (Q:VK),Inv X ah σ H s->t σ H Q ->
   wpAny (aN X.prog X.w) X.A (eval a X.env) (λv s₁=>wpAny (aN X.prog X.w) X.A (eval b X.env) (λu s₂=>wpAny (aN X.prog X.w) X.A (dg op v u) (EP X ah σ Q) X.xe s₂) X.xe s₁) X.xe s
theorem Py(b:bx){op:uJ}(h:op≠.In)(h2:op≠.NotIn):cZ op b=false:=by
 have e1:(op==CmpOp.In)=false:=by cases op<;>first | rfl | exact absurd rfl h
 have e2:(op==Dl)=false:=by cases op<;>first | rfl | exact absurd rfl h2
 cases b<;>simp[cZ,e1,e2]
def tB(t:TE):TT:=fun σ H Q=>t σ H λx H1=>∃c,x=.bl c/\Q c H1
theorem Xn{op:uJ}{t:TE}(h:PC X op a b t)(h1:cZ op b=false:=by first | exact Py _ (by decide) (by decide) | rfl):PE X (.Compare a [op] [b] pos) t:=λah s σ H Q I hw=>wpAny_Compare1 (h ah s σ H Q I hw) h1
theorem Pz{op:uJ}{t:TE}(h:PC X op a b t)(h1:cZ op b=false:=by first | exact Py _ (by decide) (by decide) | rfl):PT X (.Compare a [op] [b] pos) (tB t):=by
 intro ah s σ H Q I hw;refine wV (dF (h ah s σ H _ I hw) λv s1 h1=>dF h1 λu s2 h2=>dF h2 λc s3 cN=>?_) h1;obtain⟨x,H1,I1,r1,q1⟩:=cN;obtain⟨d,rfl,q⟩:=q1;cases r1;exact iz ⟨H1,I1,q⟩
variable {tA GI:TT}{jD:List bx}
def J4(t u:TT):TT:=fun σ H Q=>t σ H λc H1=>if c=true then u σ H1 Q else Q false H1
def Xo(t u:TT):TT:=fun σ H Q=>t σ H λc H1=>if c=true then Q true H1 else u σ H1 Q
def J5(t:TT):TT:=fun σ H Q=>t σ H λc H1=>Q (!c) H1
theorem Xp(ha:PT X a tA):PW X (.BoolOp .And [a] pos) tA:=by
 intro wh ah s σ H Q I h;refine isTrue_and (dF (ha ah s σ H Q I h) λc s1 e=>?_);cases c with
 |true=>exact isTrue_and_nil e
 |false=>exact e
theorem Xq(ha:PT X a tA):PW X (.BoolOp .Or [a] pos) tA:=by
 intro wh ah s σ H Q I h;refine isTrue_or (dF (ha ah s σ H Q I h) λc s1 e=>?_);cases c with
 |false=>exact isTrue_or_nil e
 |true=>exact e
theorem Xr(ha:PT X a tA)(hb:PW X (.BoolOp .And (b::jD) pos) GI):PW X (.BoolOp .And (a::b::jD) pos) (J4 tA GI):=by
 intro wh ah s σ H Q I h;refine isTrue_and (dF (ha ah s σ H _ I h) λc s1 cN=>?_);obtain⟨H1,I1,q1⟩:=cN;cases c with
 |true=>exact hb wh ah s1 σ H1 Q I1 q1
 |false=>exact⟨H1,I1,q1⟩
theorem Xs(ha:PT X a tA)(hb:PW X (.BoolOp .Or (b::jD) pos) GI):PW X (.BoolOp .Or (a::b::jD) pos) (Xo tA GI):=by
 intro wh ah s σ H Q I h;refine isTrue_or (dF (ha ah s σ H _ I h) λc s1 cN=>?_);obtain⟨H1,I1,q1⟩:=cN;cases c with
 |true=>exact⟨H1,I1,q1⟩
 |false=>exact hb wh ah s1 σ H1 Q I1 q1
theorem Xt(ha:PT X a tA):PT X (.UnaryOp .Not a pos) (J5 tA):=by
 intro ah s σ H Q I h;exact isTrue_not (ha ah s σ H (λc H1=>Q (!c) H1) I h)
def Xu(ta tb:TE):TE:=fun σ H Q=>ta σ H λx H1=>∃c,x=.bl c/\if c=true then tb σ H1 Q else Q (.bl false) H1
theorem Xv{op}{t:TE}(h:PE X a t):PE X (.BoolOp op [a] pos) t:=λah s σ H Q I hw=>BoolOp_one (h ah s σ H Q I hw)
theorem Xw(ha:PE X a ta)(hb:PE X (.BoolOp .And (b::jD) pos) tb):PE X (.BoolOp .And (a::b::jD) pos) (Xu ta tb):=by
 intro ah s σ H Q I h;refine BoolOp_and (dF (ha ah s σ H _ I h) λv s1 cN=>?_);obtain⟨x,H1,I1,r1,q1⟩:=cN;obtain⟨c,rfl,q1⟩:=q1;cases r1;refine iz ?_;cases c with
 |true=>exact hb ah s1 σ H1 Q I1 q1
 |false=>exact⟨.bl false,H1,I1,rfl,q1⟩
def Xx(t:TT)(ta tb:TE):TE:=fun σ H Q=>t σ H λc H1=>if c=true then ta σ H1 Q else tb σ H1 Q
theorem Xy{c:bx}(hc:PT X c tA)(ha:PE X a ta)(hb:PE X b tb):PE X (.IfExp c a b pos) (Xx tA ta tb):=by
 intro ah s σ H Q I h;refine wpAny_IfExp (dF (hc ah s σ H _ I h) λd s1 cN=>?_);obtain⟨H1,I1,q1⟩:=cN;cases d with
 |true=>exact ha ah s1 σ H1 Q I1 q1
 |false=>exact hb ah s1 σ H1 Q I1 q1
end
def lH(K:W.Frag)(H:Hp)(a:ai)(xs:List V):Prop:=
 Rd H a (.lst xs) \/
  ∃(o:Obj) (cy:Array ag) (n:Nat),K.lookup a=aa o/\o.cls=.type "list" /\ o.dict=ae/\o.data=.seq cy n/\cy.size<=sizeLine/\cj xs cy.toList
def tF(K:W.Frag)(H:Hp)(a:ai)(xs:List V):Prop:=
 Rd H a (.tup xs) \/
  ∃(o:Obj) (cy:Array ag) (n:Nat),K.lookup a=aa o/\o.cls=.type "tuple" /\ o.data=.seq cy n/\cy.size<=sizeLine/\cj xs cy.toList
noncomputable def J6:ag->Option V
 |.none=>aa .bq
 |.bool b=>aa (.bl b)
 |.int i _=>aa (.int i)
 |.str x _=>aa (.str x)
 |.bytes b _=>aa (.byt b)
 |.float b _=>aa (.zZ b)
 |.ref a=>aa (.ref a)
 |.type n=>aa (.ty n)
 |_=>ae
theorem RelV.abs{x:V}{u:ag}(r:RelV x u):J6 u=aa x:=by
 cases x with
 |bq=>cases r;rfl
 |bl _=>cases r;rfl
 |int _=>obtain⟨t,rfl⟩:=r;rfl
 |str _=>obtain⟨t,rfl⟩:=r;rfl
 |byt _=>obtain⟨t,rfl⟩:=r;rfl
 |zZ _=>obtain⟨t,rfl⟩:=r;rfl
 |ref _=>cases r;rfl
 |ty _=>cases r;rfl
theorem RelV.inj{x y:V}{u:ag}(r:RelV x u)(q:RelV y u):x=y:=bf (r.abs.symm.trans q.abs)
theorem cj.inj:∀{xs ys:List V} {us:List ag},cj xs us->cj ys us->xs=ys
 |_,_,_,.nil,.nil=>rfl
 |_,_,_,.cons r t,.cons r' t'=>by rw[r.inj r',cj.inj t t']
section
variable {X:Cx}{ah:List (ai×Obj)}{σ:St}{H:Hp}{s:aq}{a:ai}{xs ys:List V}
theorem Inv.list(I:Inv X ah σ H s)(h:lH X.K H a xs):∃cy:List ag,cj xs cy/\PlainL s.heap a cy.toArray/\xs.length<=sizeLine:=by
 rcases h with h | ⟨o,cy,n,hk,hc,hd,hs,hz,r⟩
 .obtain⟨z,cy,n,r,e⟩:=h.ok I.cI
  exact⟨cy,r,⟨_,n,e,rfl,rfl,rfl⟩,z⟩
 .refine⟨cy.toList,r,⟨o,n,I.jX a o hk,hc,hd,by simpa using hs⟩,?_⟩
  have e:=r.length;simp only[iH] at e;omega
theorem Inv.tuple(I:Inv X ah σ H s)(h:tF X.K H a xs):∃cy:List ag,cj xs cy/\IsTup s.heap a cy.toArray/\xs.length<=sizeLine:=by
 rcases h with h | ⟨o,cy,n,hk,hc,hs,hz,r⟩
 .obtain⟨z,cy,r,p⟩:=h.ok I.cI
  exact⟨cy,r,p,z⟩
 .refine⟨cy.toList,r,⟨o,I.jX a o hk,hc,n,by simpa using hs⟩,?_⟩
  have e:=r.length;simp only[iH] at e;omega
theorem Inv.qF(I:Inv X ah σ H s)(h:lH X.K H a xs)(h':lH X.K H a ys):xs=ys:=by
 obtain⟨cy,r,⟨o,n,e,_,_,d⟩,_⟩:=I.list h;obtain⟨its',r',⟨o',n',e',_,_,d'⟩,_⟩:=I.list h';rw[e] at e';cases e';rw[d] at d';injection d' with d1 _;have:cy=its':=by simpa using congrArg Array.toList d1
 subst this;exact r.inj r'
end
abbrev Cx.Xz(X:Cx)(E:ag->aq->Prop):Cx:={ X with xe:=E }
section
variable {X:Cx}{st:bS}{jD:List bS}{t u:TS}{e:bx}{te:TE}{pos:Pos}
def XA:TS:=λD σ H=>D.nx σ H
def uY(t u:TS):TS:=λD σ H=>t { D with nx:=u D } σ H
theorem XB:k6 X [] XA:=λ_ _ σ H _ I h=>jj ⟨σ,H,I,h⟩
theorem GJ(h1:PS X st t)(h2:k6 X jD u):k6 X (st::jD) (uY t u):=by
 intro ah s σ H D I h;refine Ga (dF (h1 ah s σ H { D with nx:=u D } I h) λf s1 q=>?_);cases f with
 | next=>
   obtain⟨σ',H',I',q⟩:=q;exact h2 ah s1 σ' H' D I' q
 |ret v=>exact q
 |brk=>exact q
 |cont=>exact q
theorem J7(h1:PS X st t):k6 X [st] t:=by
 intro ah s σ H D I h;refine Ga (dF (h1 ah s σ H D I h) λf s1 q=>?_);cases f with
 |next=>exact jj q
 |ret v=>exact q
 |brk=>exact q
 |cont=>exact q
theorem Inv.quiet{ah:List (ai×Obj)}{σ:St}{H:Hp}{s:aq}(I:Inv X ah σ H s):interactive X.env=false:=by simp[interactive,I.ok.kind]
def J8(te:TE):TS:=λD σ H=>te σ H λ_ H1=>D.nx σ H1
theorem J9(he:PE X e te)(hs:fP e ae pos.line X.env=pure false:=by rfl):PS X (.Expr e pos) (J8 te):=by
 intro ah s σ H D I h;exact wpAny_Expr_any (dF (he ah s σ H _ I h) λv s1 ⟨x,H1,I1,r1,q1⟩=>⟨σ,H1,I1,q1⟩) I.quiet hs
def J_(te:TE):TS:=λD σ H=>te σ H D.rt
theorem XC(he:PE X e te):PS X (.Return (aa e) pos) (J_ te):=by
 intro ah s σ H D I h;exact wpAny_Return_some (dF (he ah s σ H _ I h) λv s1 ⟨x,H1,I1,r1,q1⟩=>⟨x,σ,H1,I1,r1,q1⟩)
def XD:TS:=λD _ H=>D.rt .bq H
theorem XE:PS X (.Return ae pos) XD:=λ_ _ σ H _ I h=>wpAny_Return_none ⟨.bq,σ,H,I,rfl,h⟩
def J'(c:TT)(t u:TS):TS:=λD σ H=>c σ H λb H1=>if b=true then t D σ H1 else u D σ H1
theorem XF{c:bx}{a b:List bS}{tc:TT}(hc:PT X c tc)(ha:k6 X a t)(hb:k6 X b u):PS X (.If c a b pos) (J' tc t u):=by
 intro ah s σ H D I h;refine wpAny_If (dF (hc ah s σ H _ I h) λd s1 cN=>?_);obtain⟨H1,I1,q1⟩:=cN;cases d with
 |true=>exact ha ah s1 σ H1 D I1 q1
 |false=>exact hb ah s1 σ H1 D I1 q1
end
abbrev TG:=V->St->Hp->(St->Hp->Prop)->Prop
abbrev Ad:=List V->St->Hp->(St->Hp->Prop)->Prop
def PG(X:Cx)(Ae:bx)(t:TG):Prop:=
 ∀ (ah:List (ai×Obj)) (s:aq) (σ:St) (H:Hp) (v:V) (u:ag) (Q:St->Hp->Prop),Inv X ah σ H s->RelV v u->t v σ H Q ->
   wpAny (aN X.prog X.w) X.A (jk Ae X.env u) (λ_ s'=>∃σ' H',Inv X ah σ' H' s'/\Q σ' H') X.xe s
def GK(X:Cx)(ts:List bx)(t:Ad):Prop:=
 ∀ (ah:List (ai×Obj)) (s:aq) (σ:St) (H:Hp) (vs:List V) (us:List ag) (Q:St->Hp->Prop),Inv X ah σ H s->cj vs us->t vs σ H Q ->
   wpAny (aN X.prog X.w) X.A (assignInOrder ((jM ts X.env).map (·.2)) us) (λ_ s'=>∃σ' H',Inv X ah σ' H' s'/\Q σ' H') X.xe s
abbrev Af:=V->V->V->Hp->(Hp->Prop)->Prop
def DM(X:Cx)(t:Af):Prop:=
 ∀ (ah:List (ai×Obj)) (s:aq) (σ:St) (H:Hp) (o i v:V) (ov iv u:ag) (Q:Hp->Prop),Inv X ah σ H s->RelV o ov->RelV i iv->RelV v u->t o i v H Q ->
   wpAny (aN X.prog X.w) X.A (setItem ov iv u) (λ_ s'=>∃H',Inv X ah σ H' s'/\Q H') X.xe s
section
variable {X:Cx}{pos:Pos}
def wB(i:Nat):TG:=λv σ H Q=>Q (σ.set i (aa v)) H
theorem kx{i:Nat}{x:Str}(hN:X.N.Nodup)(hi:X.N[i]?=aa x)(hx:Loc X.env.scope x)(hf:X.fn x=true\/X.env.scope.names.lookup x=aa .local:=by first | exact .inl rfl | exact .inr rfl | assumption)(hkn:∀u:V,X.kn[i]?≠aa (aa u):=by first | assumption | exact λu h=>nomatch (show(ae:Option (Option V))=aa (aa u) from h) | exact λu h=>nomatch (bf (show aa (ae:Option V)=aa (aa u) from h))):PG X (.Name x pos) (wB i):=by
 intro ah s σ H v u Q I r h;exact oY (Px I hN hi hx r (λs' I'=>⟨_,H,I',h⟩) hf hkn)
def DP:Ad:=λvs σ H Q=>vs=[]/\Q σ H
def Ka(t:TG)(u:Ad):Ad:=λvs σ H Q=>∃v r,vs=v::r/\t v σ H fun σ' H'=>u r σ' H' Q
theorem Kb:GK X [] DP:=by
 intro ah s σ H vs us Q I r h;obtain⟨e,h⟩:=h;subst e;cases r;exact assignInOrder_nil ⟨σ,H,I,h⟩
theorem Ca{e:bx}{es:List bx}{t:TG}{u:Ad}(h1:PG X e t)(h2:GK X es u)
  (hs:(jM (e::es) X.env).map (·.2)=jk e X.env::(jM es X.env).map (·.2):=by rfl):GK X (e::es) (Ka t u):=by
 intro ah s σ H vs us Q I r h;obtain⟨v,vr,e1,h⟩:=h;subst e1;cases r with
 | cons r rr=>
   rw[hs];refine assignInOrder_cons (dF (h1 ah s σ H _ _ _ I r h) λ_ s1 cN=>?_);obtain⟨σ1,H1,I1,q1⟩:=cN;exact h2 ah s1 σ1 H1 _ _ Q I1 rr q1
def DQ(K:W.Frag)(n:Nat)(t:Ad):TG:=λv σ H Q=>∃a xs,v=.ref a/\tF K H a xs/\xs.length=n/\t xs σ H Q
theorem Kc{es:List bx}{k:Nat}{t:Ad}{n:Nat}(hc:X.calm=true)(h:GK X es t)
  (hn:(jM es X.env).length=n:=by rfl) (eY:(jM es X.env).findIdx? (·.1)=ae:=by rfl):PG X (.Tuple es k pos) (DQ X.K n t):=by
 intro ah s σ H v u Q I r hw;obtain⟨a,xs,e1,hq,hl,hw⟩:=hw;subst e1;cases r;obtain⟨cy,rv,ht,hz⟩:=I.tuple hq;refine assign_Tuple_tuple (I.ok.hd hc) ht (by simp[hn,<- hl,rv.length]) eY λh' hx=>?_;have I1:Inv X ah σ H { s with heap:=h' }:=I.kept (t':=s.toks) λb o e=>hx b o (aT (aE e)) e;exact h ah _ σ H xs _ Q I1 (by simpa using rv) hw
def DR(to ti:TE)(t:Af):TG:=λv σ H Q=>to σ H λo H1=>ti σ H1 λi H2=>t o i v H2 λH3=>Q σ H3
theorem XG{o i:bx}{to ti:TE}{t:Af}(ho:PE X o to)(hi:PE X i ti)(hs:DM X t)
  (ha:∀v,jk (.Subscript o i pos) X.env v=(do
   let ov <- iA [v] (eval o X.env);let iv <- iA [v,ov] (eval i X.env)
   ju pos
   iA [v,ov,iv] (setItem ov iv v)
   release [v,ov,iv] []):=by intro _;rfl):PG X (.Subscript o i pos) (DR to ti t):=by
 intro ah s σ H v u Q I r h;rw[ha];refine aG (iV (dF (ho ah s σ H _ I h) λov s1 cN=>?_));obtain⟨x,H1,I1,r1,q1⟩:=cN;refine aG (iV (dF (hi ah s1 σ H1 _ I1 q1) λiv s2 cN=>?_));obtain⟨y,H2,I2,r2,q2⟩:=cN;refine aG (iX (aG (iV (dF (hs ah s2 σ H2 x y v ov iv u _ I2 r1 r2 r q2) λ_ s3 cN=>?_))));obtain⟨H3,I3,q3⟩:=cN;exact wpAny_release ⟨σ,H3,I3,q3⟩
def uZ(te:TE)(g:TG):TS:=λD σ H=>te σ H λx H1=>g x σ H1 D.nx
theorem XH{tg e:bx}{te:TE}{g:TG}(he:PE X e te)(hg:PG X tg g)(hs:swapsWithSole [tg] e pos.line X.env=pure false:=by rfl)(hw:swappedStores [tg] e X.env=pure ae:=by rfl)
  (h1:(jM [tg] X.env).map (·.2)=[jk tg X.env]:=by rfl):PS X (.Assign [tg] e pos) (uZ te g):=by
 intro ah s σ H D I h;refine wpAny_Assign_stores (dF (he ah s σ H _ I h) λv s1 cN=>?_) hs hw;obtain⟨x,H1,I1,r1,q1⟩:=cN;rw[h1];exact dF (hg ah s1 σ H1 x v _ I1 r1 q1) λ_ s2 q=>q
theorem XI{i:Nat}{x:Str}{e:bx}{te:TE}{iq:Pos}(hN:X.N.Nodup)(hi:X.N[i]?=aa x)(hx:Loc X.env.scope x)(he:PE X e te)(hs:fP e (aa (.Name x iq)) pos.line X.env=pure false:=by rfl)(hf:X.fn x=true\/X.env.scope.names.lookup x=aa .local:=by first | exact .inl rfl | exact .inr rfl | assumption)(hkn:∀u:V,X.kn[i]?≠aa (aa u):=by first | assumption | exact λu h=>nomatch (show(ae:Option (Option V))=aa (aa u) from h) | exact λu h=>nomatch (bf (show aa (ae:Option V)=aa (aa u) from h))) :
  PS X (.Assign [.Name x iq] e pos) (uZ te (wB i)):=by
 intro ah s σ H D I h;refine wpAny_Assign_Name (dF (he ah s σ H _ I h) λv s1 cN=>?_) hs;obtain⟨y,H1,I1,r1,q1⟩:=cN;exact Px I1 hN hi hx r1 (λs2 I2=>⟨_,H1,I2,q1⟩) hf hkn
end
section
variable {X:Cx}{pos:Pos}
def XJ(c:TT)(tb:TS):TS:=λD σ H=>∃W:Nat->St->Hp->Prop,(∃m,W m σ H)/\∀m σ H,W m σ H ->
 c σ H λb H1=>if b=true then∃N:St->Hp->Prop,(∀σ' H',N σ' H'->∃m',m'<m/\W m' σ' H')/\tb { D with nx:=N,ct:=N,bk:=D.nx } σ H1 else D.nx σ H1
theorem XM{c:bx}{body:List bS}{tc:TT}{tb:TS}(hp:jz (aN X.prog X.w) X.A X.env X.xe)(hc:PT X c tc)(hb:k6 X body tb):PS X (.While c body [] pos) (XJ tc tb):=by
 intro ah s σ H D I h;obtain⟨W,⟨m0,w0⟩,turn⟩:=h;refine wpAny_While (codeAny_whileLoop (λn s'=>∃σ' H',Inv X ah σ' H' s'/\W n σ' H') ?_ m0 ⟨σ,H,I,w0⟩);rintro n s1 ⟨σ1,H1,I1,w1⟩;refine gb hp (dF (hc ah s1 σ1 H1 _ I1 (turn n σ1 H1 w1)) λb s2 cN=>?_);obtain⟨H2,I2,q2⟩:=cN;cases b with
 | true=>
   obtain⟨N,hN,q2⟩:=q2;rw[if_pos rfl];refine gb hp (dF (hb ah s2 σ1 H2 _ I2 q2) λf s3 q3=>?_);cases f with
   | next=>
     obtain⟨σ3,H3,I3,n3⟩:=q3;obtain⟨m',hm,w3⟩:=hN σ3 H3 n3;exact⟨m',hm,σ3,H3,I3,w3⟩
   | cont=>
     obtain⟨σ3,H3,I3,n3⟩:=q3;obtain⟨m',hm,w3⟩:=hN σ3 H3 n3;exact⟨m',hm,σ3,H3,I3,w3⟩
   |brk=>exact q3
   |ret v=>exact q3
 | false=>
   rw[if_neg aX];exact jj ⟨σ1,H2,I2,q2⟩
end
structure It where
 go:Nat->Hp->Prop
 GL:Nat->Hp->V->Hp->Prop
 stop:Nat->Hp->Prop
def k7(X:Cx)(ah:List (ai×Obj))(H:Hp)(b:ai):Prop:=
 H b=ae/\b≠X.env.locals/\b∉X.fs/\(b∈X.ex\/X.s₀.heap.objs.size<=b)/\(∀x c,X.env.cells.lookup x=aa c->c≠b)/\∀p∈X.pn++ah,p.1≠b
theorem Inv.u0{X:Cx}{ah:List (ai×Obj)}{σ:St}{H H':Hp}{s:aq}{b:ai}(I:Inv X ah σ H s)(hb:s.heap.objs.size<=b)(hn:H' b=ae):k7 X ah H' b:=by
 refine⟨hn,km (aA I.lt hb),I.JX hb,.inr (bJ I.sz hb),λx c e z=>?_,λp hp z=>?_⟩
 .obtain⟨v,q⟩:=I.cell x c e
  exact absurd (aA q.lt (by rw[z];exact hb)) (dh _)
 .exact absurd (aA (aE (I.pin p hp).1) (by rw[z];exact hb)) (dh _)
structure pf(P:aU)(w:bz)(K:W.Frag)(tg:bx)(J:It)(fp:List ai)(it:ai)(tn:Nat->bR->Prop):Prop where
 mem:it∈fp
 obj:∀i h,tn i h->∀b∈fp,∃o,h.get? b=aa o/\∀v,o.data≠.cell v
 keep:∀i h h',tn i h->(∀b∈fp,∀o,h.get? b=aa o->h'.get? b=aa o)->tn i h'
 item:∀(X:Cx),X.prog=P->X.w=w->X.K=K->X.calm=true->∀(i:Nat) (ah:List (ai×Obj)) (s:aq) (σ:St) (H:Hp) (E:ag->aq->Prop),Inv X ah σ H s->(∀b∈fp,k7 X ah H b)->tn i s.heap->J.go i H ->
  wpAny (aN P w) X.A (pyNext (.ref it)) (λr s1=>∃u,r=aa u /\
   wpAny (aN P w) X.A (lC tg (.ref it) u) (λ_ s2=>∃x H',Inv X ah σ H' s2/\RelV x u/\J.GL i H x H'/\tn (i+1) s2.heap/\∀b∈fp,H' b=ae) E s1) E s
 done:∀(X:Cx),X.prog=P->X.w=w->X.K=K->X.calm=true->∀(i:Nat) (ah:List (ai×Obj)) (s:aq) (σ:St) (H:Hp) (E:ag->aq->Prop),Inv X ah σ H s->(∀b∈fp,k7 X ah H b)->tn i s.heap->J.stop i H ->
  wpAny (aN P w) X.A (pyNext (.ref it)) (λr s1=>r=ae/\Inv X ah σ H s1) E s
 self:∀(A:cp) (i:Nat) (s:aq) (Q:ag->aq->Prop) (E:ag->aq->Prop),tn i s.heap->Q (.ref it) s->wpAny (aN P w) A (BX (.ref it)) Q E s
abbrev TI:=St->Hp->(It->Hp->Prop)->Prop
def GN(X:Cx)(ah:List (ai×Obj))(σ:St)(tg:bx)(R:It->Hp->Prop)(Cb:ag)(s2:aq):Prop:=
 ∃(it:ai) (fp:List ai) (tn:Nat->bR->Prop) (J:It) (H':Hp),Cb=.ref it/\Inv X ah σ H' s2/\pf X.prog X.w X.K tg J fp it tn/\tn 0 s2.heap/\(∀b∈fp,k7 X ah H' b)/\R J H'
def PI(X:Cx)(tg iter:bx)(wi:TI):Prop:=
 ∀ (ah:List (ai×Obj)) (s:aq) (σ:St) (H:Hp) (R:It->Hp->Prop),Inv X ah σ H s->wi σ H R ->
   wpAny (aN X.prog X.w) X.A (eval iter X.env) (λv s1=>wpAny (aN X.prog X.w) X.A (BX v) (GN X ah σ tg R) X.xe s1) X.xe s
theorem Kd{M:yG}{A:cp}{E:ag->aq->Prop}{s:aq}{tg:bx}{it:ai}{u:ag}{o:Obj}{n:String}{vs:Array ag}{Q:Unit->aq->Prop}(ho:s.heap.get? it=aa o)(hc:o.cls=.type n)(hd:o.data=.fields vs)
  (hn:["enumerate", "zip", "dict_itemiterator", "dict_reverseitemiterator", "odict_iterator", "itertools.zip_longest", "itertools.pairwise"].contains n=false) (hQ:Q () s):wpAny M A (lC tg (.ref it) u) Q E s:=by
 unfold lC;cases tg<;>first
  |exact bE hQ
  |(cases u<;>first
   |exact bE hQ
   | (refine aG (wpAny_load ho ?_)
      rw[hc,hd];show wpAny M A (if(["enumerate", "zip", "dict_itemiterator", "dict_reverseitemiterator", "odict_iterator", "itertools.zip_longest", "itertools.pairwise"].contains n&&vs[0]?==aa (rawInt _))=true then _ else _) Q E s;rw[if_neg (by intro h;rw[hn,Bool.false_and] at h;cases h)];exact bE hQ))
noncomputable def PB(K:W.Frag)(a:ai):It:=
 ⟨λi H=>∃xs x,lH K H a xs/\xs[i]?=aa x,λi H x H'=>H'=H/\∀xs,lH K H a xs->xs[i]?=aa x,λi H=>∃xs,lH K H a xs/\xs.length<=i⟩
noncomputable def GO(lo:Int)(n:Nat):It:=⟨λi _=>i<n,λi H x H'=>H'=H/\x=.int (lo+i),λi _=>n<=i⟩
theorem XN{P:aU}{w:bz}{K:W.Frag}{tg:bx}(a it:ai):pf P w K tg (PB K a) [it] it (λi h=>h.IsListIter it a i) where
 mem:=by simp
 obj:=λi h st b hb=>by
  have e:b=it:=by simpa using hb
  subst e;obtain⟨o,e,c,d⟩:=st;exact⟨o,e,λv z=>by rw[d] at z;cases z⟩
 keep:=λi h h' st k=>st.at λo e=>k it (by simp) o e
 item:=by
  intro X hP hw hK hc i ah s σ H E I hf st hg;subst hP hw hK;obtain⟨xs,x,hq,hx⟩:=hg;obtain⟨cy,rv,p,hz⟩:=I.list hq;obtain⟨u,hu,ru⟩:=rv.get hx;obtain⟨f0,f1,f2,f3,f4,f5⟩:=hf it (by simp);refine wpAny_pyNext_list_item st p.isList (x:=u) (by simpa using hu) λh' w8 sb=>?_;have I1:Inv X ah σ H { s with heap:=h' }:=I.turned (t':=s.toks) (λb o hb e=>(sb.2 b hb).trans e) f0 f1 f3 f4 f5;obtain⟨o,e,c,d⟩:=id w8;exact⟨u,rfl,Kd (s:={ s with heap:=h' }) e c d (by decide) ⟨x,H,I1,ru,⟨rfl,λys hy=>by rw[I.qF hy hq];exact hx⟩,w8,λb hb=>(hf b hb).1⟩⟩
 done:=by
  intro X hP hw hK hc i ah s σ H E I hf st hg;subst hP hw hK;obtain⟨xs,hq,hx⟩:=hg;obtain⟨cy,rv,p,hz⟩:=I.list hq;obtain⟨f0,f1,f2,f3,f4,f5⟩:=hf it (by simp);have hl:=rv.length;exact wpAny_pyNext_list_end (I.ok.hd hc) st p.isList (by simp;omega) λh' eb=>⟨rfl,I.turned (t':=s.toks) (λb o hb e=>eb b o hb e) f0 f1 f3 f4 f5⟩
 self:=λ_ _ _ _ _ st h=>wpAny_pyIter_listiter st h
theorem XO{P:aU}{w:bz}{K:aO}{tg:bx}(it:ai)(lo:Int)(n:Nat):pf P w K tg (GO lo n) [it] it (λi h=>IsRangeIter h it (lo+(i:Nat)*1) ((n:Int)-(i:Nat)) 1) where
 mem:=by simp
 obj:=λi h st b hb=>by
  have e:b=it:=by simpa using hb
  subst e;exact⟨_,st,λv z=>by
   have z':s_ _=Data.cell v:=z;cases z'⟩
 keep:=λi h h' st k=>k it (by simp) _ st
 item:=by
  intro X hP hw hK hc i ah s σ H E I hf st hg;subst hP hw hK;obtain⟨f0,f1,f2,f3,f4,f5⟩:=hf it (by simp);have W:=Walks.range (prog:=X.prog) (w:=X.w) (I.ok.hd hc) it lo 1 n;refine W.item i s _ _ hg st λv h' tk hv w8 kk=>?_;obtain⟨t,rfl⟩:=hv;have I1:Inv X ah σ H { s with heap:=h',toks:=tk }:=I.turned (λb o hb e=>kk b o (by simpa using hb) e) f0 f1 f3 f4 f5;refine⟨_,rfl,Kd (s:={ s with heap:=h',toks:=tk }) (n := "range_iterator") w8 rfl rfl (by decide) ⟨.int (lo+i),H,I1,⟨t,?_⟩,⟨rfl,rfl⟩,w8,λb hb=>(hf b hb).1⟩⟩;rw[Int.mul_one]
 done:=by
  intro X hP hw hK hc i ah s σ H E I hf st hg;subst hP hw hK;obtain⟨f0,f1,f2,f3,f4,f5⟩:=hf it (by simp);exact wpAny_pyNext_range_end (I.ok.hd hc) st (by have:n<=i:=hg;omega) λh' eb=>⟨rfl,I.turned (t':=s.toks) (λb o hb e=>eb b o hb e) f0 f1 f3 f4 f5⟩
 self:=λ_ _ _ _ _ st h=>wpAny_pyIter_rangeiter st h
section
variable {X:Cx}{tg:bx}
def PD(K:W.Frag)(tl:TE):TI:=fun σ H R=>tl σ H λx H1=>∃a,x=.ref a/\(∃xs,lH K H1 a xs)/\R (PB K a) H1
theorem oF{l:bx}{tl:TE}(hl:PE X l tl):PI X tg l (PD X.K tl):=by
 intro ah s σ H R I h;refine dF (hl ah s σ H _ I h) λv s1 cN=>?_;obtain⟨x,H1,I1,r1,q1⟩:=cN;obtain⟨a,e,⟨xs,hq⟩,q⟩:=q1;subst e;cases r1;obtain⟨cy,rv,p,hz⟩:=I1.list hq;refine Dm p.isList ?_;refine⟨s1.heap.objs.size,[s1.heap.objs.size],_,_,H1,rfl,I1.kept (t':=s1.toks) λb o e=>ax _ e,XN a _,⟨_,bg _ rfl,rfl,rfl⟩,λb hb=>?_,q⟩;have e:b=s1.heap.objs.size:=by simpa using hb
 subst e;exact I1.u0 (aB _) (I1.cI.fresh (aB _))
theorem XQ{ah:List (ai×Obj)}{σ:St}{H:Hp}{s:aq}{R:It->Hp->Prop}{E:ag->aq->Prop}{lo hi:Int}{t u v:Tok}{tk:Nat}(I:Inv X ah σ H s)(h1:-(2 ^ 62)<=lo)(h2:lo<2 ^ 62)(h3:-(2 ^ 62)<=hi)(h4:hi<2 ^ 62)
  (q:R (GO lo (hi-lo).toNat) H):wpAny (aN X.prog X.w) X.A (BX (.ref s.heap.objs.size)) (GN X ah σ tg R) E { s with heap:=s.heap.push { cls:=.type "range",data:=.fields #[.int lo t,.int hi u,.int 1 v] },toks:=tk }:=by
 refine wpAny_pyIter_range (IsRange.new ..) (small_one h1 h2 h3 h4) ?_;have I1:Inv X ah σ H { s with heap:=s.heap.push { cls:=.type "range",data:=.fields #[.int lo t,.int hi u,.int 1 v] },toks:=tk }:=I.kept λb o e=>ax _ e;refine⟨(s.heap.push { cls:=.type "range",data:=.fields #[.int lo t,.int hi u,.int 1 v] }).objs.size,[(s.heap.push { cls:=.type "range",data:=.fields #[.int lo t,.int hi u,.int 1 v] }).objs.size],_,_,H,rfl,
  I1.kept (t':=tk) λb o e=>ax _ e,XO _ lo (hi-lo).toNat,?_,λb hb=>?_,q⟩
 .have e1:lo+((0:Nat):Int)*1=lo:=by simp
  have e2:(((hi-lo).toNat:Nat):Int)-((0:Nat):Int)=Gb lo hi 1:=by rw[rangeSize_one];split<;>omega
  show IsRangeIter _ _ (lo+((0:Nat):Int)*1) ((((hi-lo).toNat:Nat):Int)-((0:Nat):Int)) 1;rw[e1,e2];exact bg _ rfl
 .have e:b=(s.heap.push { cls:=.type "range",data:=.fields #[.int lo t,.int hi u,.int 1 v] }).objs.size:=by simpa using hb
  subst e;exact I1.u0 (aB _) (I1.cI.fresh (aB _))
def PK(ta:TA):TI:=fun σ H R=>ta σ H λvs H1=>∃j:Int,vs=[.int j] /\ -(2 ^ 62)<=j/\j<2 ^ 62/\R (GO 0 j.toNat) H1
theorem GP{a:bx}{ta:TA}{p pos:Pos}(hg:Gl X "range")(hm:X.mg "range" = ae)(ha:PA X [a] ta)(hs:av [a] X.env=[(false,eval a X.env)]:=by rfl):PI X tg (.Call (.Name "range" p) [a] [] pos) (PK ta):=by
 intro ah s σ H R I h;refine Call_ (Ac I hg hm boot_range (h_ (dF (ha pos ah s σ H _ I h) λus s1 cN=>?_) hs rfl));obtain⟨vs,H1,I1,r1,q1⟩:=cN;obtain⟨j,e,q1,q2,q⟩:=q1;subst e;cases r1 with
 | cons r rr=>
   cases rr;obtain⟨t,rfl⟩:=r;exact call_range_1 (XQ I1 (by omega) (by omega) q1 q2 (by simpa using q))
def Ag(wi:TI)(g:TG)(tb:TS):TS:=λD σ H=>wi σ H λJ H1=>∃W:Nat->Nat->St->Hp->Prop,(∃m,W 0 m σ H1)/\∀i m σ H,W i m σ H ->
 (J.stop i H/\D.nx σ H)\/(J.go i H/\∃N:St->Hp->Prop,(∀σ' H',N σ' H'->∃m',m'<m/\W (i+1) m' σ' H')/\∀x H',J.GL i H x H'->g x σ H' fun σ2 H2=>tb { D with nx:=N,ct:=N,bk:=D.nx } σ2 H2)
noncomputable def GQ(fp:List ai)(h:bR):List (ai×Obj):=fp.filterMap λb=>(h.get? b).map λo=>(b,o)
theorem GR{fp:List ai}{h:bR}{b:ai}{o:Obj}(hb:b∈fp)(e:h.get? b=aa o):(b,o)∈GQ fp h:=jc.mpr ⟨b,hb,by rw[e];rfl⟩
theorem XR{fp:List ai}{h:bR}{p:ai×Obj}(hp:p∈GQ fp h):p.1∈fp/\h.get? p.1=aa p.2:=by
 obtain⟨b,hb,e⟩:=jc.mp hp;cases q:h.get? b with
 |none=>rw[q] at e;cases e
 | some o=>
   rw[q] at e;have e':(b,o)=p:=bf e;subst e';exact⟨hb,q⟩
theorem Inv.pinned{ah:List (ai×Obj)}{σ:St}{H:Hp}{s:aq}{fp:List ai}(I:Inv X ah σ H s)(hf:∀b∈fp,k7 X ah H b)(ho:∀b∈fp,∃o,s.heap.get? b=aa o/\∀v,o.data≠.cell v):Inv X (ah++GQ fp s.heap) σ H s:=
 I.ni λp hp=>(bp.mp hp).elim (λz=>I.pin p (bc _ z)) λz=>by
  obtain⟨hb,e⟩:=XR z;obtain⟨f0,f1,f2,_⟩:=hf p.1 hb;obtain⟨o,e',d⟩:=ho p.1 hb;rw[e] at e';cases e';exact⟨e,f0,f1,f2,d⟩
theorem Inv.nI{ah pl:List (ai×Obj)}{σ:St}{H:Hp}{s:aq}(I:Inv X (ah++pl) σ H s):Inv X ah σ H s:=I.ni λp hp=>I.pin p (bc _ (bh _ hp))
theorem Ke{iter:bx}{body:List bS}{wi:TI}{g:TG}{tb:TS}{pos:Pos}(hp:jz (aN X.prog X.w) X.A X.env X.xe)(hc:X.calm=true)(hi:PI X tg iter wi)(hg:PG X tg g)(hb:k6 X body tb)
  (hs:∀x,ck iter X.env x=pure x:=by intro _;rfl):PS X (.For tg iter body [] pos) (Ag wi g tb):=by
 intro ah s σ H D I h;refine wpAny_For (dF (hi ah s σ H _ I h) λv s1 h1=>dF h1 λCb s2 h2=>?_) hs;obtain⟨it,fp,tn,J,H2,e,I2,T,uo,f2,W,⟨m0,w0⟩,turn⟩:=h2;subst e;have Ah:∀{H':Hp},(∀b∈fp,H' b=ae)->∀b∈fp,k7 X ah H' b:=λhn b hb=>⟨hn b hb,(f2 b hb).2⟩;refine codeAny_forLoop_any (λn s'=>∃i σ' H',Inv X ah σ' H' s'/\tn i s'.heap/\(∀b∈fp,H' b=ae)/\W i n σ' H') ?_ m0 ⟨0,σ,H2,I2,uo,λb hb=>(f2 b hb).1,w0⟩;rintro n s3 ⟨i,σ3,H3,I3,Cc,GS,w3⟩;rcases turn i n σ3 H3 w3 with⟨stop,qn⟩ | ⟨go,N,hN,step⟩
 .refine gb hp (dF (T.done X rfl rfl rfl hc i ah s3 σ3 H3 X.xe I3 (Ah GS) Cc stop) λr s4 cN=>?_)
  obtain⟨hr,I4⟩:=cN;subst hr;exact jj ⟨σ3,H3,I4,qn⟩
 .refine gb hp (dF (T.item X rfl rfl rfl hc i ah s3 σ3 H3 X.xe I3 (Ah GS) Cc go) λr s4 cN=>?_)
  obtain⟨u,hr,h4⟩:=cN;subst hr;refine gb hp (dF h4 λ_ s5 cN=>?_);obtain⟨x,H5,I5,r5,y5,Kf,XS⟩:=cN;have XT:=I5.pinned (Ah XS) (T.obj _ _ Kf);refine gb hp (dF (hg _ s5 σ3 H5 x u _ XT r5 (step x H5 y5)) λ_ s6 cN=>?_);obtain⟨σ6,H6,I6,q6⟩:=cN;refine gb hp (dF (hb _ s6 σ6 H6 _ I6 q6) λf s7 q7=>?_);have again:∀{σ7:St} {H7:Hp},Inv X (ah++GQ fp s5.heap) σ7 H7 s7->N σ7 H7->∃m,m<n/\∃i σ' H',Inv X ah σ' H' s7/\tn i s7.heap/\(∀b∈fp,H' b=ae)/\W i m σ' H':=λ{σ7 H7} I7 n7=>by
   obtain⟨m',hm,w7⟩:=hN σ7 H7 n7;refine⟨m',hm,i+1,σ7,H7,I7.nI,T.keep _ _ _ Kf λb hb o e=>(I7.pin (b,o) (bc _ (bc _ (GR hb e)))).1,λb hb=>?_,w7⟩;obtain⟨o,e,d⟩:=T.obj _ _ Kf b hb;exact(I7.pin (b,o) (bc _ (bc _ (GR hb e)))).2.1
  cases f with
  |next=>obtain⟨σ7,H7,I7,n7⟩:=q7;exact again I7 n7
  |cont=>obtain⟨σ7,H7,I7,n7⟩:=q7;exact again I7 n7
  |brk=>obtain⟨σ7,H7,I7,q7⟩:=q7;exact⟨σ7,H7,I7.nI,q7⟩
  |ret v=>obtain⟨x7,σ7,H7,I7,r7,q7⟩:=q7;exact⟨x7,σ7,H7,I7.nI,r7,q7⟩
end
abbrev R2:=V->V->Hp->VK->Prop
def kJ(X:Cx)(f:ag->ag->Sem ag)(r:R2):Prop:=
 ∀ (ah:List (ai×Obj)) (s:aq) (σ:St) (H:Hp) (x y:V) (v u:ag) (Q:VK),Inv X ah σ H s->RelV x v->RelV y u->r x y H Q ->
   wpAny (aN X.prog X.w) X.A (f v u) (EP X ah σ Q) X.xe s
def Kg(X:Cx)(f:ag->Sem ag)(r:V->Hp->VK->Prop):Prop:=
 ∀ (ah:List (ai×Obj)) (s:aq) (σ:St) (H:Hp) (x:V) (v:ag) (Q:VK),Inv X ah σ H s->RelV x v->r x H Q ->
   wpAny (aN X.prog X.w) X.A (f v) (EP X ah σ Q) X.xe s
def rN(X:Cx)(f:ag)(r:List V->Hp->VK->Prop):Prop:=
 ∀ (ah:List (ai×Obj)) (s:aq) (σ:St) (H:Hp) (xs:List V) (us:List ag) (Q:VK),Inv X ah σ H s->cj xs us->r xs H Q ->
   wpAny (aN X.prog X.w) X.A (call f us) (EP X ah σ Q) X.xe s
def Kh(X:Cx)(r:V->Hp->(Bool->Hp->Prop)->Prop):Prop:=
 ∀ (ah:List (ai×Obj)) (s:aq) (σ:St) (H:Hp) (x:V) (v:ag) (Q:Bool->Hp->Prop),Inv X ah σ H s->RelV x v->r x H Q ->
   wpAny (aN X.prog X.w) X.A (truthy v) (TP X ah σ Q) X.xe s
def DU(r:R2)(ta tb:TE):TE:=fun σ H Q=>ta σ H λx H1=>tb σ H1 λy H2=>r x y H2 Q
def XU(r:V->Hp->VK->Prop)(ta:TE):TE:=fun σ H Q=>ta σ H λx H1=>r x H1 Q
def rI(C:Int->Int->Prop)(g:Int->Int->V):R2:=λx y H Q=>∃i j,x=.int i/\y=.int j/\C i j/\Q (g i j) H
def w_(g:Int->Int->V):R2:=λx y H Q=>∃i j,x=.int i/\y=.int j/\Q (g i j) H
def rU(g:Int->V):V->Hp->VK->Prop:=λx H Q=>∃i,x=.int i/\Q (g i) H
section
variable {X:Cx}{a b c:bx}{ta tb tc:TE}{pos:Pos}
theorem Ai(ha:PE X a ta)(hb:PE X b tb){ah:List (ai×Obj)}{s:aq}{σ:St}{H:Hp}{R:V->V->Hp->Prop}(I:Inv X ah σ H s)
  (h:ta σ H λx H1=>tb σ H1 λy H2=>R x y H2) {Q:ag->aq->Prop} {f:ag->ag->Sem ag}
  (hf:∀v u s2 x y H2,Inv X ah σ H2 s2->RelV x v->RelV y u->R x y H2->wpAny (aN X.prog X.w) X.A (f v u) Q X.xe s2) :
  wpAny (aN X.prog X.w) X.A (eval a X.env) (λv s₁=>wpAny (aN X.prog X.w) X.A (eval b X.env) (λu s₂=>wpAny (aN X.prog X.w) X.A (f v u) Q X.xe s₂) X.xe s₁) X.xe s:=by
 refine dF (ha ah s σ H _ I h) λv s1 cN=>?_;obtain⟨x,H1,I1,r1,q1⟩:=cN;refine dF (hb ah s1 σ H1 _ I1 q1) λu s2 cN=>?_;obtain⟨y,H2,I2,r2,q2⟩:=cN;exact hf v u s2 x y H2 I2 r1 r2 q2
theorem Cd{op:Operator}{r:R2}(ho:kJ X (jN op) r)(ha:PE X a ta)(hb:PE X b tb):PE X (.BinOp a op b pos) (DU r ta tb):=by
 intro ah s σ H Q I h;exact wpAny_BinOp (Ai ha hb I h λv u s2 x y H2 I2 rx ry q=>ho ah s2 σ H2 x y v u Q I2 rx ry q)
theorem XW{op:UnaryOp}{r:V->Hp->VK->Prop}(ho:Kg X (unaryOp op) r)(ha:PE X a ta):PE X (.UnaryOp op a pos) (XU r ta):=by
 intro ah s σ H Q I h;exact UnaryOp_ (dF (ha ah s σ H _ I h) λv s1 ⟨x,H1,I1,r1,q1⟩=>ho ah s1 σ H1 x v Q I1 r1 q1)
theorem GU{f:ag->ag->Sem ag}{C:Int->Int->Prop}{g:Int->Int->Int}
  (rule:∀(i j:Int) (t u:Tok) (s:aq) (Q:ag->aq->Prop) (E:ag->aq->Prop),C i j->Q (.int (g i j) s.toks) { s with toks:=s.toks+1 }->wpAny (aN X.prog X.w) X.A (f (.int i t) (.int j u)) Q E s) :
  kJ X f (rI C λi j=>.int (g i j)):=by
 intro ah s σ H x y v u Q I rx ry h;obtain⟨i,j,rfl,rfl,hc,q⟩:=h;obtain⟨t,rfl⟩:=rx;obtain⟨t',rfl⟩:=ry;exact rule i j t t' s _ _ hc ⟨.int (g i j),H,I.tok _,⟨_,rfl⟩,q⟩
theorem DV{f:ag->ag->Sem ag}{g:Int->Int->Int}
  (rule:∀(i j:Int) (t u:Tok) (s:aq) (Q:ag->aq->Prop) (E:ag->aq->Prop),Q (.int (g i j) s.toks) { s with toks:=s.toks+1 }->wpAny (aN X.prog X.w) X.A (f (.int i t) (.int j u)) Q E s) :
  kJ X f (w_ λi j=>.int (g i j)):=by
 intro ah s σ H x y v u Q I rx ry h;obtain⟨i,j,rfl,rfl,q⟩:=h;obtain⟨t,rfl⟩:=rx;obtain⟨t',rfl⟩:=ry;exact rule i j t t' s _ _ ⟨.int (g i j),H,I.tok _,⟨_,rfl⟩,q⟩
theorem Aj{f:ag->ag->Sem ag}{g:Int->Int->Bool}
  (rule:∀(i j:Int) (t u:Tok) (s:aq) (Q:ag->aq->Prop) (E:ag->aq->Prop),Q (.bool (g i j)) s->wpAny (aN X.prog X.w) X.A (f (.int i t) (.int j u)) Q E s) :
  kJ X f (w_ λi j=>.bl (g i j)):=by
 intro ah s σ H x y v u Q I rx ry h;obtain⟨i,j,rfl,rfl,q⟩:=h;obtain⟨t,rfl⟩:=rx;obtain⟨t',rfl⟩:=ry;exact rule i j t t' s _ _ ⟨.bl (g i j),H,I,rfl,q⟩
def Ki(i j:Int):Prop:=0<j/\j<1073741824
def Kj(i j:Int):Prop:=0<=j/\j<=1000000/\i.natAbs<2 ^ 64
def Ak(i j:Int):Prop:=(-(2 ^ 64)<i/\i<2 ^ 64)\/(-(2 ^ 64)<j/\j<2 ^ 64)
theorem Ak.ok{i j:Int}(h:Ak i j):IntMulOk i j:=by
 rcases h with⟨h1,h2⟩ | ⟨h1,h2⟩
 .exact .of_left (intBits_le_64 h1 h2)
 .exact .of_right (intBits_le_64 h1 h2)
theorem XX:kJ X (jN .Add) (w_ λi j=>.int (i+j)):=DV λ_ _ _ _ _ _ _ q=>add_int q
theorem XY:kJ X (jN .Sub) (w_ λi j=>.int (i-j)):=DV λ_ _ _ _ _ _ _ q=>sub_int q
theorem XZ:kJ X (jN .Mult) (rI Ak λi j=>.int (i*j)):=GU λ_ _ _ _ _ _ _ hc q=>mul_int q hc.ok
theorem X0:kJ X (jN .FloorDiv) (rI Ki λi j=>.int (i / j)):=GU λi j _ _ _ _ _ hc q=>by
 have h1:(0:Int)<j:=hc.1;have h2:j<1073741824:=hc.2;exact floordiv_int (by omega) (by rw[Int.fdiv_eq_ediv_of_nonneg i (by omega)];exact q) (.inl (PyProof.noPylong_small (by omega)))
theorem X1:kJ X (jN .Mod) (rI (λ_ j=>0<j) λi j=>.int (i%j)):=GU λi j _ _ _ _ _ hc q=>by
 have h1:(0:Int)<j:=hc;exact mod_int' (by omega) (by rw[Int.fmod_eq_emod_of_nonneg i (by omega)];exact q)
theorem X2:kJ X (jN .Pow) (rI Kj λi j=>.int (i ^ j.toNat)):=GU λ_ _ _ _ _ _ _ hc q=>pow_int_small hc.1 hc.2.1 hc.2.2 q
theorem X3{f:ag->Sem ag}{g:Int->Int}
  (rule:∀(i:Int) (t:Tok) (s:aq) (Q:ag->aq->Prop) (E:ag->aq->Prop),Q (.int (g i) s.toks) { s with toks:=s.toks+1 }->wpAny (aN X.prog X.w) X.A (f (.int i t)) Q E s) :
  Kg X f (rU λi=>.int (g i)):=by
 intro ah s σ H x v Q I rx h;obtain⟨i,rfl,q⟩:=h;obtain⟨t,rfl⟩:=rx;exact rule i t s _ _ ⟨.int (g i),H,I.tok _,⟨_,rfl⟩,q⟩
theorem X4:Kg X (unaryOp .USub) (rU λi=>.int (-i)):=X3 λ_ _ _ _ _ q=>neg_int q
end
noncomputable def ph:V->V->Bool
 |.bq,.bq=>true | .bq,.int _=>true | .int _,.bq=>true | .bq,.bl _=>true | .bl _,.bq=>true | .bq,.str _=>true | .str _,.bq=>true
 |.int _,.int _=>true | .bl _,.bl _=>true | .str _,.str _=>true | .byt _,.byt _=>true
 |.int _,.str _=>true | .str _,.int _=>true | .bl _,.str _=>true | .str _,.bl _=>true
 |_,_=>false
def PL:R2:=λx y H Q=>ph x y=true/\Q (.bl (decide (x=y))) H
def PM:R2:=λx y H Q=>ph x y=true/\Q (.bl (!decide (x=y))) H
theorem PN{i j:Int}:decide (V.int i=V.int j)=(i==j):=by
 rw[eF];simp
theorem PQ{i j:Bool}:decide (V.bl i=V.bl j)=(i==j):=by
 rw[eF];simp
theorem PR{i j:Str}:decide (V.str i=V.str j)=(i==j):=by
 rw[eF];simp
theorem PU{i j:Array UInt8}:decide (V.byt i=V.byt j)=(i.toList==j.toList):=by
 rw[eF];cases i;cases j;simp
section
variable {X:Cx}{a b c:bx}{ta tb tc:TE}{pos:Pos}
theorem kK{ah:List (ai×Obj)}{σ:St}{H:Hp}{s:aq}{Q:VK}{k k':Bool}(I:Inv X ah σ H s)(q:Q (.bl k) H)(e:k=k'):EP X ah σ Q (.bool k') s:=by
 subst e;exact⟨.bl k,H,I,rfl,q⟩
theorem PV:kJ X (dg .Eq) PL:=by
 intro ah s σ H x y v u Q I rx ry h;obtain⟨hs,q⟩:=h;cases x with
 | bq=>
   cases rx;cases y with
   |bq=>cases ry;exact Jx (kK I q (by simp))
   |bl j=>cases ry;exact Jy (kK I q (by simp))
   |int j=>obtain⟨t',rfl⟩:=ry;exact Jz (kK I q (by simp))
   |str j=>obtain⟨t',rfl⟩:=ry;exact JA (kK I q (by simp))
   |_=>exact absurd (show false=true from hs) aX
 | bl i=>
   cases rx;cases y with
   |bq=>cases ry;exact JB (kK I q (by simp))
   |bl j=>cases ry;exact eq_bool (kK I q PQ)
   |str j=>obtain⟨t',rfl⟩:=ry;exact Gc (kK I q (by simp))
   |_=>exact absurd (show false=true from hs) aX
 | int i=>
   obtain⟨t,rfl⟩:=rx;cases y with
   |bq=>cases ry;exact JC (kK I q (by simp))
   |int j=>obtain⟨t',rfl⟩:=ry;exact eq_int (kK I q PN)
   |str j=>obtain⟨t',rfl⟩:=ry;exact Gd (kK I q (by simp))
   |_=>exact absurd (show false=true from hs) aX
 | str i=>
   obtain⟨t,rfl⟩:=rx;cases y with
   |bq=>cases ry;exact JD (kK I q (by simp))
   |bl j=>cases ry;exact Ge (kK I q (by simp))
   |int j=>obtain⟨t',rfl⟩:=ry;exact Gf (kK I q (by simp))
   |str j=>obtain⟨t',rfl⟩:=ry;exact eq_str (kK I q PR)
   |_=>exact absurd (show false=true from hs) aX
 | byt i=>
   obtain⟨t,rfl⟩:=rx;cases y with
   |byt j=>obtain⟨t',rfl⟩:=ry;exact W.eq_bytes (kK I q PU)
   |_=>exact absurd (show false=true from hs) aX
 |_=>cases y<;>exact absurd (show false=true from hs) aX
theorem PX:kJ X (dg .NotEq) PM:=by
 intro ah s σ H x y v u Q I rx ry h;obtain⟨hs,q⟩:=h;cases x with
 | bq=>
   cases rx;cases y with
   |bq=>cases ry;exact JE (kK I q (by simp))
   |bl j=>cases ry;exact JF (kK I q (by simp))
   |int j=>obtain⟨t',rfl⟩:=ry;exact JG (kK I q (by simp))
   |str j=>obtain⟨t',rfl⟩:=ry;exact JH (kK I q (by simp))
   |_=>exact absurd (show false=true from hs) aX
 | bl i=>
   cases rx;cases y with
   |bq=>cases ry;exact JI (kK I q (by simp))
   |bl j=>cases ry;exact ne_bool (kK I q (congrArg not PQ))
   |str j=>obtain⟨t',rfl⟩:=ry;exact Gg (kK I q (by simp))
   |_=>exact absurd (show false=true from hs) aX
 | int i=>
   obtain⟨t,rfl⟩:=rx;cases y with
   |bq=>cases ry;exact JJ (kK I q (by simp))
   |int j=>obtain⟨t',rfl⟩:=ry;exact ne_int (kK I q (congrArg not PN))
   |str j=>obtain⟨t',rfl⟩:=ry;exact Gh (kK I q (by simp))
   |_=>exact absurd (show false=true from hs) aX
 | str i=>
   obtain⟨t,rfl⟩:=rx;cases y with
   |bq=>cases ry;exact JK (kK I q (by simp))
   |bl j=>cases ry;exact Gi (kK I q (by simp))
   |int j=>obtain⟨t',rfl⟩:=ry;exact Gj (kK I q (by simp))
   |str j=>obtain⟨t',rfl⟩:=ry;exact ne_str (kK I q (congrArg not PR))
   |_=>exact absurd (show false=true from hs) aX
 | byt i=>
   obtain⟨t,rfl⟩:=rx;cases y with
   |byt j=>obtain⟨t',rfl⟩:=ry;exact W.ne_bytes (kK I q (congrArg not PU))
   |_=>exact absurd (show false=true from hs) aX
 |_=>cases y<;>exact absurd (show false=true from hs) aX
theorem X5:kJ X (dg .Lt) (w_ λi j=>.bl (decide (i<j))):=Aj λ_ _ _ _ _ _ _ q=>lt_int q
theorem X6:kJ X (dg .Gt) (w_ λi j=>.bl (decide (j<i))):=Aj λ_ _ _ _ _ _ _ q=>gt_int q
theorem X7:kJ X (dg .GtE) (w_ λi j=>.bl (decide (j<=i))):=Aj λ_ _ _ _ _ _ _ q=>ge_int q
theorem PY:kJ X (dg .Is) (λx y H Q=>y=.bq/\Q (.bl (decide (x=.bq))) H):=by
 intro ah s σ H x y v u Q I rx ry h;obtain⟨rfl,q⟩:=h;cases ry;refine is_none_gen (kK I q ?_);cases x<;>first
  |(cases rx;rfl)
  |(obtain⟨t,rfl⟩:=rx;rfl)
theorem X8:kJ X (dg .IsNot) (λx y H Q=>y=.bq/\Q (.bl (!decide (x=.bq))) H):=by
 intro ah s σ H x y v u Q I rx ry h;obtain⟨rfl,q⟩:=h;cases ry;refine isnot_none_gen (kK I q ?_);cases x<;>first
  |(cases rx;rfl)
  |(obtain⟨t,rfl⟩:=rx;rfl)
theorem kJ.or{f:ag->ag->Sem ag}{r r':R2}(h:kJ X f r)(h':kJ X f r'):kJ X f (λx y H Q=>r x y H Q\/r' x y H Q):=by
 intro ah s σ H x y v u Q I rx ry q;rcases q with q | q
 .exact h ah s σ H x y v u Q I rx ry q
 .exact h' ah s σ H x y v u Q I rx ry q
theorem wC(b:bx){op:uJ}(h:op≠.In:=by decide)(h2:op≠.NotIn:=by decide):cZ op b=false:=by
 have e1:(op==CmpOp.In)=false:=by cases op<;>first | rfl | exact absurd rfl h
 have e2:(op==Dl)=false:=by cases op<;>first | rfl | exact absurd rfl h2
 cases b<;>simp[cZ,e1,e2]
theorem Kk{op:uJ}{r:R2}(ho:kJ X (dg op) r)(ha:PE X a ta)(hb:PE X b tb)(hm:cZ op b=false):PE X (.Compare a [op] [b] pos) (DU r ta tb):=by
 intro ah s σ H Q I h;exact wpAny_Compare1 (Ai ha hb I h λv u s2 x y H2 I2 rx ry q=>ho ah s2 σ H2 x y v u Q I2 rx ry q) hm
def X9(t:TE):TT:=fun σ H Q=>t σ H λx H'=>∃k,x=.bl k/\Q k H'
theorem X_{op:uJ}{r:R2}(ho:kJ X (dg op) r)(ha:PE X a ta)(hb:PE X b tb)(hm:cZ op b=false):PT X (.Compare a [op] [b] pos) (X9 (DU r ta tb)):=by
 intro ah s σ H Q I h;refine wV (dF (ha ah s σ H _ I h) λv s1 ⟨x,H1,I1,r1,q1⟩=>dF (hb ah s1 σ H1 _ I1 q1) λu s2 ⟨y,H2,I2,r2,q2⟩=>
  dF (ho ah s2 σ H2 x y v u _ I2 r1 r2 q2) λc s3 ⟨z,H3,I3,r3,k,e,q3⟩=>?_) hm
 subst e;cases r3;exact iz ⟨H3,I3,q3⟩
def u1(K:W.Frag)(x:V)(H:Hp)(k:Bool):Prop:=
 match x with
 |.bq=>k=false
 |.bl b=>k=b
 |.int i=>k=(i != 0)
 |.str y=>y.length<=sizeLine/\k=((y.length:Int) != 0)
 |.byt y=>y.size<=sizeLine/\k=((y.size:Int) != 0)
 |.ref p=>(∃xs,lH K H p xs/\k=!xs.isEmpty)\/(∃xs,tF K H p xs/\k=!xs.isEmpty)\/∃kvs,H p=aa (.dK kvs)/\k=!kvs.isEmpty
 |_=>False
theorem X'{κ:Type}{kvs:List (κ×V)}{vs:List (κ×ag)}(r:KV kvs vs):(!vs.isEmpty)=!kvs.isEmpty:=by
 cases r<;>rfl
theorem PZ{xs:List V}{cy:List ag}(r:cj xs cy):(!cy.toArray.isEmpty)=!xs.isEmpty:=by
 cases r<;>simp
theorem Ce:(sizeLine:Nat)<2 ^ 63:=by rw[dR];decide
theorem P5:Kh X (λx H Q=>∃k,u1 X.K x H k/\Q k H):=by
 intro ah s σ H x v Q I rx h;obtain⟨k,e,q⟩:=h;have hl:=Ce;have hs:sizeLine=16777216:=dR;cases x with
 | bq=>
   cases rx;have e':k=false:=e;subst e';exact truthy_none ⟨H,I,q⟩
 | bl b=>
   cases rx;have e':k=b:=e;subst e';exact iz ⟨H,I,q⟩
 | int i=>
   obtain⟨t,rfl⟩:=rx;have e':k=(i != 0):=e;subst e';exact PySem.P.truthy_int ⟨H,I,q⟩
 | str y=>
   obtain⟨t,rfl⟩:=rx;obtain⟨hy,e'⟩:y.length<=sizeLine/\k=((y.length:Int) != 0):=e;subst e';exact PySem.P.truthy_str (by omega) ⟨H,I.tok _,q⟩
 | byt y=>
   obtain⟨t,rfl⟩:=rx;obtain⟨hy,e'⟩:y.size<=sizeLine/\k=((y.size:Int) != 0):=e;subst e';exact W.truthy_bytes (by omega) ⟨H,I.tok _,q⟩
 | ref p=>
   cases rx;have e':(∃xs,lH X.K H p xs/\k=!xs.isEmpty)\/(∃xs,tF X.K H p xs/\k=!xs.isEmpty)\/∃kvs,H p=aa (.dK kvs)/\k=!kvs.isEmpty:=e;rcases e' with⟨xs,hx,e'⟩ | ⟨xs,hx,e'⟩ | ⟨kvs,hx,e'⟩
   .subst e'
    obtain⟨cy,r,pl,hz⟩:=I.list hx;have cX:=r.length;exact wpAny_truthy_list pl.isList (by simp only[aI];omega) ⟨H,I.tok _,by rw[PZ r];exact q⟩
   .subst e'
    obtain⟨cy,r,pl,hz⟩:=I.tuple hx;have cX:=r.length;exact truthy_tuple pl (by simp only[aI];omega) ⟨H,I.tok _,by rw[PZ r];exact q⟩
   .subst e'
    obtain⟨hz,hS,vs,r,m⟩:kvs.length<=sizeLine/\(p==ft)=false/\∃vs,KV kvs vs/\s.heap.DictOf (kq X.prog X.w) p vs:=I.cI p _ hx;have cX:kvs.length=vs.length:=lu r;exact wpAny_truthy_dict hS m (by omega) ⟨H,I.tok _,by rw[X' r];exact q⟩
 |_=>exact(show False from e).elim
theorem Ya(ha:PE X a ta)(he:∀nH,isTrue a X.env nH=(do let v <- nH;ju a.pos;iA [v] (truthy v))) :
  PT X a (fun σ H Q=>ta σ H λx H'=>∃k,u1 X.K x H' k/\Q k H'):=by
 intro ah s σ H Q I h;exact isTrue_plain (dF (ha ah s σ H _ I h) λv s1 ⟨x,H1,I1,r1,q1⟩=>P5 ah s1 σ H1 x v Q I1 r1 q1) (he _)
theorem Yb:kJ X (jN .Add) (λx y H Q=>∃i j,x=.str i/\y=.str j/\i.length+j.length<=sizeLine/\Q (.str (i++j)) H):=by
 intro ah s σ H x y v u Q I rx ry h;obtain⟨i,j,rfl,rfl,hz,q⟩:=h;obtain⟨t,rfl⟩:=rx;obtain⟨t',rfl⟩:=ry;exact add_str (λt' tk=>⟨.str (i++j),H,I.tok _,⟨_,rfl⟩,q⟩) hz
theorem Al{x:V}{us:List ag}(r:cj [x] us):∃u,us=[u]/\RelV x u:=by
 cases r with
 |cons r1 r2=>cases r2;exact⟨_,rfl,r1⟩
theorem Yc{x y:V}{us:List ag}(r:cj [x,y] us):∃u w',us=[u,w']/\RelV x u/\RelV y w':=by
 cases r with
 | cons r1 r2=>
   cases r2 with
   |cons r3 r4=>cases r4;exact⟨_,_,rfl,r1,r3⟩
def DW(K:W.Frag)(x:V)(H:Hp)(n:Nat):Prop:=
 match x with
 |.str y=>y.length<=sizeLine/\n=y.length
 |.byt y=>y.size<=sizeLine/\n=y.size
 |.ref p=>(∃xs,lH K H p xs/\n=xs.length)\/∃xs,tF K H p xs/\n=xs.length
 |_=>False
theorem Yd:rN X (.builtin "len") (λxs H Q=>∃x n,xs=[x]/\DW X.K x H n/\Q (.int n) H):=by
 intro ah s σ H xs us Q I r h;obtain⟨x,n,rfl,e,q⟩:=h;obtain⟨u,rfl,rx⟩:=Al r;have hl:=Ce;have hs:sizeLine=16777216:=dR;cases x with
 | str y=>
   obtain⟨t,rfl⟩:=rx;obtain⟨hy,e'⟩:y.length<=sizeLine/\n=y.length:=e;subst e';exact len_str (by omega) ⟨.int _,H,I.tok _,⟨_,rfl⟩,q⟩
 | byt y=>
   obtain⟨t,rfl⟩:=rx;obtain⟨hy,e'⟩:y.size<=sizeLine/\n=y.size:=e;subst e';exact W.len_bytes (by omega) ⟨.int _,H,I.tok _,⟨_,rfl⟩,q⟩
 | ref p=>
   cases rx;have e':(∃xs,lH X.K H p xs/\n=xs.length)\/∃xs,tF X.K H p xs/\n=xs.length:=e;rcases e' with⟨xs,hx,e'⟩ | ⟨xs,hx,e'⟩
   .subst e'
    obtain⟨cy,r',pl,hz⟩:=I.list hx;have cX:=r'.length;exact tf pl.isList (by simp only[aI];omega) ⟨.int xs.length,H,I.tok _,⟨_,by simp only[aI];rw[cX]⟩,q⟩
   .subst e'
    obtain⟨cy,r',pl,hz⟩:=I.tuple hx;have cX:=r'.length;exact len_tuple pl (by simp only[aI];omega) ⟨.int xs.length,H,I.tok _,⟨_,by simp only[aI];rw[cX]⟩,q⟩
 |_=>exact(show False from e).elim
end
structure rO(h:bR)(x dx C:ai)(mA:Str->Option ag):Prop where
 obj:h.get? x=aa (W.instObj C dx)
 ns:h.Ns1 dx mA
 ne:dx≠x
theorem P6{h:bR}{dx:ai}{mA:Str->Option ag}(n:h.Ns1 dx mA):∃od,h.get? dx=aa od/\∀name,W.lookIn name od=aa (mA name):=by
 obtain⟨o,es,ep,ho,hd,hk,_,hm⟩:=n;refine⟨o,ho,λname=>?_⟩;have e:=hm name;unfold nsFind BY at e;rw[<- ug] at e;unfold W.lookIn;rw[hd];dsimp only
 split
 .rename_i y q
  rw[q] at e;exact congrArg aa e
 .rename_i q
  rw[q] at e;have a:es.toList.any (·.refKey)=false:=by
   rw[List.any_eq_false];intro y hy;obtain⟨z,t,u3⟩:=hk y (Array.mem_toList_iff.mp hy);simp[DictEntry.refKey,u3]
  have a':¬es.toList.any (·.refKey)=true:=by rw[a];exact aX
  rw[if_neg a'];exact congrArg aa e
theorem rO.look{h:bR}{x dx C:ai}{mA:Str->Option ag}(I:rO h x dx C mA):∃od,W.InstAt h x (W.instObj C dx) C (aa od)/\∀name,W.lookIn name od=aa (mA name):=
 let ⟨od,ho,hl⟩:=P6 I.ns
 ⟨od,⟨I.obj,rfl,rfl,ho⟩,hl⟩
section
variable {prog:aU}{w:bz}{A:cp}{E:ag->aq->Prop}{s:aq}{K:W.Frag}{x dx C f:ai}{mA:Str->Option ag}{name:Str}{v:ag}
theorem Ye{Kl:Bool}{Q:ag->aq->Prop}(X:K.In s.heap)(I:rO s.heap x dx C mA)(hg:W.plainGet K C name=true)(hh:W.hasDictIn K C=true)
  (ha:W.findIn K (.ref C) name=aa ae) (hv:mA name=aa v) (Yf:W.handedIn v=true) (h:Q v { s with toks:=s.toks+1 }) :
  wpAny (aN prog w) A (getAttr (.ref x) name Kl) Q E s:=by
 obtain⟨od,J,hl⟩:=I.look;exact W.get_value X J (W.plainGet_of hg).1 (W.findObj_own hh ha rfl (by rw[hl,hv])) Yf h
theorem Yg{pl:Sem Bool}{Q:ag×List ag->aq->Prop}(X:K.In s.heap)(I:rO s.heap x dx C mA)(hg:W.plainGet K C name=true)
  (hf:W.findIn K (.ref C) name=aa (aa (.ref f))) (ht:W.isFn K (.ref f)=true) (hv:mA name=ae) (h:Q (.ref f,[.ref x]) s) :
  wpAny (aN prog w) A (gK (.ref x) name pl) Q E s:=by
 obtain⟨od,J,hl⟩:=I.look;exact W.method_fn X J (W.plainGet_of hg).1 (W.plainGet_of hg).2 hf (beq_iff_eq.mp ht) (by show(W.lookIn name od).map (·.isSome)=aa false;rw[hl,hv];rfl) h
theorem Yh{ns:List Str}{Q:Unit->aq->Prop}(X:K.In s.heap)(I:rO s.heap x dx C mA)
  (hs:W.findIn K (.ref C) "__setattr__" = aa (aa (.builtin "object.__setattr__"))) (hp:W.plainOver K C=true) (ht:W.takerIn K C name=aa ae) (hh:W.hasDictIn K C=true)
  (hw:jW mA ns) (hsz:ns.length<=sizeLine)
  (h:∀h',rO h' x dx C (λy=>if y=name then aa v else mA y)->iU dx s.heap h'->Q () { s with heap:=h',toks:=s.toks+2 }) :
  wpAny (aN prog w) A (Dn (.ref x) name v) Q E s:=by
 obtain⟨od,J,hl⟩:=I.look;refine W.set_plain X J hs (W.osa_open (s:={ s with toks:=s.toks+1 }) (r:=ae) X J hp ht λb=>?_);obtain⟨cd,hc,wz⟩:=W.any_some hh;have hx:s.heap.get? x=aa ⟨.ref C,aa dx,.plain,#[]⟩:=I.obj;refine aG (bE (aG (aG (sI hx (aG (W.Looks.here (s:={ s with toks:=s.toks+1 }) (W.looks_clsIn X hc) ?_))))));rw[wz];refine bE (a:=aa dx) (aG (bE (aG ?_)));refine wa (s:={ s with toks:=s.toks+1 }) I.ns λh' u4 GV=>?_;obtain⟨oD,P7,P8,DX,DY,DZ⟩:=u4.count (pS name v hw);refine aG (pT DX (by rw[DY];exact pU (bJ DZ (by rw[aY];omega))) ?_);exact bE (h _ ⟨(GV.2 _ (bM I.ne)).trans I.obj,u4,I.ne⟩ GV)
theorem Yi{R:BZ->aq->Prop}{vs:List ag}{kw:List (Str×ag)}(X:K.In s.heap)(hm:W.makesIn K C=true)
  (hi:W.findIn K (.ref C) "__init__" = aa (aa (.ref f))) (hf:W.typeIn K (.ref f)=aa (.type "function"))
  (h:codeAny (aN prog w) (A.under (.builtin "type.__call__" ⟨.ref C::vs,kw⟩)) (.call (.ref f) ⟨.ref (s.heap.objs.size+1)::vs,kw⟩) (W.InitBack (s.heap.objs.size+1) R)
   { s with heap:=(s.heap.push W.emptyDict).push (W.instObj C s.heap.objs.size) }) :
  codeAny (aN prog w) A (.call (.ref C) ⟨vs,kw⟩) R s:=by
 obtain⟨hh,g,d,t,os⟩:=s;exact W.make_core (W.makes_of X hm) (W.looks_findIn X hi) (λself=>W.bind_fn X self hf) (.inl rfl) h
end
noncomputable def iN(f:Str)(v:V):List (Str×V)->List (Str×V)
 |[]=>[(f,v)]
 |(g,x)::r=>if g=f then(g,v)::r else(g,x)::iN f v r
theorem Km(f g:Str)(v:V):∀fs:List (Str×V),(iN f v fs).lookup g=if g=f then aa v else fs.lookup g
 | []=>by
   show bK g [(f,v)]=_;by_cases h:g=f
   .have hb:(g==f)=true:=beq_iff_eq.mpr h
    simp only[bK,hb,if_pos h]
   .have hb:(g==f)=false:=beq_eq_false_iff_ne.mpr h
    simp only[bK,hb,if_neg h]
 | (k,x)::r=>by
   have ih:=Km f g v r;rw[show iN f v ((k,x)::r)=(if k=f then(k,v)::r else(k,x)::iN f v r) from rfl];by_cases hk:k=f
   .rw[if_pos hk]
    by_cases h:g=k
    .have hb:(g==k)=true:=beq_iff_eq.mpr h
     simp only[bK,hb,if_pos (h.trans hk)]
    .have hb:(g==k)=false:=beq_eq_false_iff_ne.mpr h
     simp only[bK,hb,if_neg (λe:g=f=>h (e.trans hk.symm))]
   .rw[if_neg hk]
    by_cases h:g=k
    .have hb:(g==k)=true:=beq_iff_eq.mpr h
     simp only[bK,hb,if_neg (λe:g=f=>hk (h.symm.trans e))]
    .have hb:(g==k)=false:=beq_eq_false_iff_ne.mpr h
     simp only[bK,hb];exact ih
theorem Kn(f:Str)(v:V):∀fs:List (Str×V),f∈(iN f v fs).map (·.1)/\∀g,g∈fs.map (·.1)->g∈(iN f v fs).map (·.1)
 |[]=>⟨by simp[iN],λg h=>by simp at h⟩
 | (k,x)::r=>by
   obtain⟨i1,i2⟩:=Kn f v r;rw[show iN f v ((k,x)::r)=(if k=f then(k,v)::r else(k,x)::iN f v r) from rfl];by_cases hk:k=f
   .rw[if_pos hk]
    subst hk;exact⟨by simp,λg h=>by simpa using h⟩
   .rw[if_neg hk]
    refine⟨?_,λg h=>?_⟩
    .rw[ay]
     exact ao _ i1
    .rw[ay] at h ⊢
     rcases aH.mp h with e | e
     .exact aH.mpr (.inl e)
     .exact ao _ (i2 g e)
theorem P9(f:Str)(v:V):∀fs:List (Str×V),(iN f v fs).length<=fs.length+1
 |[]=>by simp[iN]
 | (k,x)::r=>by
   have ih:=P9 f v r;rw[show iN f v ((k,x)::r)=(if k=f then(k,v)::r else(k,x)::iN f v r) from rfl];by_cases hk:k=f
   .rw[if_pos hk,aY,aY];omega
   .rw[if_neg hk,aY,aY];omega
theorem jo.some_of{v:V}{o:Option ag}(r:jo (aa v) o):∃u,o=aa u/\RelV v u:=by
 cases o with
 |none=>exact(show False from r).elim
 |some u=>exact⟨u,rfl,r⟩
theorem jo.none_of{o:Option ag}(r:jo ae o):o=ae:=by
 cases o with
 |none=>rfl
 |some u=>exact(show False from r).elim
theorem Yj{v:V}{u:ag}(r:RelV v u):W.handedIn u=true:=by
 cases v with
 |bq=>cases (show u=fE from r);rfl
 |bl b=>cases (show u=d_ b from r);rfl
 |int i=>obtain⟨t,e⟩:=(show∃t,u=kU i t from r);cases e;rfl
 |str x=>obtain⟨t,e⟩:=(show∃t,u=kW x t from r);cases e;rfl
 |byt b=>obtain⟨t,e⟩:=(show∃t,u=Dj b t from r);cases e;rfl
 |zZ b=>obtain⟨t,e⟩:=(show∃t,u=sH b t from r);cases e;rfl
 |ref a=>cases (show u=aS a from r);rfl
 |ty n=>cases (show u=l7 n from r);rfl
section
variable {P:aU}{w:bz}{H H':Hp}{h h':bR}{a C dx:ai}{fs wx:List (Str×V)}
theorem GW(cI:iZ P w H h)(e:H a=aa (.ins C dx fs)):∃mA,rO h a dx C mA/\(∀f,jo (fs.lookup f) (mA f))/\jW mA (fs.map (·.1))/\fs.length<=1000/\H dx=aa (.own a):=by
 obtain⟨d,z,ne,ob,mA,n,r,q⟩:=(show ku P w H h a (.ins C dx fs) from cI a _ e);exact⟨mA,⟨ob,n,ne⟩,r,q,z,d⟩
end
structure nj(K:W.Frag)(C:ai):Prop where
 pg:W.plainGet K C fu=true
 hd:W.hasDictIn K C=true
 po:W.plainOver K C=true
 sa:W.findIn K (.ref C) "__setattr__" = aa (aa (.builtin "object.__setattr__"))
theorem nj.get{K:W.Frag}{C:ai}(c:nj K C)(f:Str):W.plainGet K C f=true:=c.pg
def ly(K:W.Frag)(C:ai)(f:Str):Prop:=W.findIn K (.ref C) f=aa ae
theorem ly.D0{K:W.Frag}{C:ai}{f:Str}(n:ly K C f):W.takerIn K C f=aa ae:=by
 unfold W.takerIn;rw[show W.findIn K (.ref C) f=aa ae from n];rfl
structure u5(K:W.Frag)(C:ai)(m:Str)(f:ai):Prop where
 at_:W.findIn K (.ref C) m=aa (aa (.ref f))
 fn:W.isFn K (.ref f)=true
 kp:W.keepIn K (.ref f)=true
section
variable {X:Cx}{ah:List (ai×Obj)}{σ:St}{H:Hp}{s:aq}{a C dx:ai}{fs:List (Str×V)}{f:Str}{v:V}{A:cp}{E:ag->aq->Prop}
theorem Yk{b:Bool}{Q:ag->aq->Prop}(I:Inv X ah σ H s)(e:H a=aa (.ins C dx fs))(c:nj X.K C)(n:ly X.K C f)(l:fs.lookup f=aa v)
  (h:∀u s',Inv X ah σ H s'->RelV v u->Q u s'):wpAny (aN X.prog X.w) A (getAttr (.ref a) f b) Q E s:=by
 obtain⟨mA,O,r,_,_,_⟩:=GW I.cI e;obtain⟨u,hu,ru⟩:=jo.some_of (v:=v) (o:=mA f) (by rw[<- l];exact r f);exact Ye I.jX O (c.get f) c.hd n hu (Yj ru) (h u _ (I.tok _) ru)
theorem Ko{m:Str}{g:ai}{pl:Sem Bool}{Q:ag×List ag->aq->Prop}(I:Inv X ah σ H s)(e:H a=aa (.ins C dx fs))(c:nj X.K C)(k:u5 X.K C m g)(l:fs.lookup m=ae)
  (h:Q (.ref g,[.ref a]) s):wpAny (aN X.prog X.w) A (gK (.ref a) m pl) Q E s:=by
 obtain⟨mA,O,r,_,_,_⟩:=GW I.cI e;have hn:mA m=ae:=jo.none_of (by rw[<- l];exact r m);exact Yg I.jX O (c.get m) k.at_ k.fn hn h
theorem Yl{y:V}{u:ag}{Q:Unit->aq->Prop}(I:Inv X ah σ H s)(e:H a=aa (.ins C dx fs))(c:nj X.K C)(n:ly X.K C f)(hl:fs.length<1000)(ry:RelV y u)
  (h:∀s',Inv X ah σ (upd H a (.ins C dx (iN f y fs))) s'->Q () s'):wpAny (aN X.prog X.w) A (Dn (.ref a) f u) Q E s:=by
 obtain⟨mA,O,r,wi,_,ho⟩:=GW I.cI e;have hz:(fs.map (·.1)).length<=sizeLine:=by rw[ba,dR];omega
 refine Yh I.jX O c.sa c.po n.D0 c.hd wi hz λh' O' sb=>h _ ?_;have hd:∃o,h'.get? dx=aa o:=let ⟨o,_,_,e',_⟩:=O'.ns;⟨o,e'⟩;refine I.write (x:=a) (e:=dx) (by rw[e];exact dG) (.inr ho) (λb q hb z=>(sb.2 b hb).trans z) hd ?_;refine⟨by rw[dr O.ne];exact ho,?_,O.ne,O'.obj,_,O'.ns,λg=>?_,λg hg=>?_⟩
 .have:=P9 f y fs;omega
 .show jo ((iN f y fs).lookup g) (if g=f then aa u else mA g)
  rw[Km];by_cases q:g=f
  .rw[if_pos q,if_pos q];exact ry
  .rw[if_neg q,if_neg q];exact r g
 .by_cases q:g=f
  .rw[q];exact(Kn f y fs).1
  .refine(Kn f y fs).2 g (wi g λz=>hg ?_)
   show(if g=f then aa u else mA g)=ae;rw[if_neg q];exact z
theorem Inv.made(I:Inv X ah σ H s):Inv X ah σ (upd (upd H s.heap.objs.size (.own (s.heap.objs.size+1))) (s.heap.objs.size+1) (.ins C s.heap.objs.size []))
  { s with heap:=(s.heap.push W.emptyDict).push (W.instObj C s.heap.objs.size) }:=by
 have e1:(s.heap.push W.emptyDict).get? s.heap.objs.size=aa W.emptyDict:=bg s.heap rfl;have e2:((s.heap.push W.emptyDict).push (W.instObj C s.heap.objs.size)).get? (s.heap.objs.size+1)=aa (W.instObj C s.heap.objs.size):=by
  have:=bg (s.heap.push W.emptyDict) (o:=W.instObj C s.heap.objs.size) rfl;rwa[gZ] at this
 have e3:(s.heap.push W.emptyDict).Ns s.heap.objs.size (λ_=>ae):=⟨W.emptyDict,#[],_,e1,rfl,(λe he=>absurd he (by simp)),λ_=>rfl⟩;have I1:=I.laid (a:=s.heap.objs.size) (o:=.own (s.heap.objs.size+1)) (h':=s.heap.push W.emptyDict) (t':=s.toks) (λb u q=>ax _ q) (aB _) ⟨_,e1⟩;refine I1.laid (a:=s.heap.objs.size+1) (o:=.ins C s.heap.objs.size []) (t':=s.toks) (λb u q=>ax _ q) (hX (gZ _ _)) ?_;have ne:s.heap.objs.size≠s.heap.objs.size+1:=aT (dH _);refine⟨by rw[dr ne,gm],dJ _,ne,e2,λ_=>ae,(sJ e3).at λo q=>ax _ q,λ_=>dG,λy hy=>absurd rfl hy⟩
theorem Ym{prog:aU}{w:bz}{env:Env}{e:bx}{f:Str}{pos:Pos}{s:aq}{Q:ag->aq->Prop}(hb:cm e f env (eval e env)=eval e env)
  (h:wpAny (aN prog w) A (eval e env) (λo s₁=>wpAny (aN prog w) A (getAttr o f true) Q E s₁) E s):wpAny (aN prog w) A (eval (.Attribute e f pos) env) Q E s:=
 Attribute_any_ h (by rw[arm_eval_Attribute,hb])
end
def Kp(K:W.Frag)(ta:TE)(f:Str):TE:=fun σ H Q=>ta σ H λx H1=>∃a C dx fs v,x=.ref a/\H1 a=aa (.ins C dx fs)/\nj K C/\ly K C f/\fs.lookup f=aa v/\Q v H1
def Kq(K:W.Frag)(ta tv:TE)(f:Str):TS:=λD σ H=>tv σ H λy H1=>ta σ H1 λx H2=>∃a C dx fs,x=.ref a/\H2 a=aa (.ins C dx fs)/\nj K C/\ly K C f/\fs.length<1000 /\
 D.nx σ (upd H2 a (.ins C dx (iN f y fs)))
section
variable {X:Cx}{o e value:bx}{f:Str}{pos iq Kr:Pos}{ta tv:TE}
theorem Yn(he:PE X e ta)(hb:cm e f X.env (eval e X.env)=eval e X.env):PE X (.Attribute e f pos) (Kp X.K ta f):=by
 intro ah s σ H Q I h;refine Ym hb (dF (he ah s σ H _ I h) λu s1 cN=>?_);obtain⟨x,H1,I1,rx,a,C,dx,fs,v,ex,ea,c,n,l,q⟩:=cN;subst ex;obtain rfl:u=aS a:=rx;exact Yk I1 ea c n l λu' s2 I2 ru=>⟨v,H1,I2,ru,q⟩
theorem Yo(ha:PE X o ta)(hv:PE X value tv)(hs:fP value (aa (.Attribute o f iq)) pos.line X.env=pure false):PS X (.Assign [.Attribute o f iq] value pos) (Kq X.K ta tv f):=by
 intro ah s σ H D I h;refine o6 (dF (hv ah s σ H _ I h) λu s1 cN=>?_) hs;obtain⟨y,H1,I1,ry,q⟩:=cN;refine dF (ha ah s1 σ H1 _ I1 q) λov s2 cN=>?_;obtain⟨x,H2,I2,rx,a,C,dx,fs,ex,ea,c,n,l,q2⟩:=cN;subst ex;obtain rfl:ov=aS a:=rx;exact Yl I2 ea c n l ry λs3 I3=>⟨σ,_,I3,q2⟩
theorem z7n{pl:Sem Bool}{m:Str}{cC:Pos}{args:List bx}{ah:List (ai×Obj)}{s:aq}{σ:St}{H:Hp}{Q:ag->aq->Prop}{te:TE}(he:PE X e te)(I:Inv X ah σ H s)
  (h:te σ H λx H1=>∃a C dx fs g,x=.ref a/\H1 a=aa (.ins C dx fs)/\nj X.K C/\u5 X.K C m g/\fs.lookup m=ae /\
   ∀s1,Inv X ah σ H1 s1->wpAny (aN X.prog X.w) X.A (i9 pos (.ref g) [.ref a] (bL pos (av args X.env)) (eG pos (cQ [] X.env))) Q X.xe s1)
  (ht:eval (.Call (.Attribute e m cC) args [] pos) X.env=(do
   let ov <- eval e X.env
   ju cC.atName
   let (f,first) <- iA [ov] (gK ov m pl)
   i9 pos f first (bL pos (av args X.env)) (eG pos (cQ [] X.env)))) :
  wpAny (aN X.prog X.w) X.A (eval (.Call (.Attribute e m cC) args [] pos) X.env) Q X.xe s:=by
 refine W.methodCall_KW (pl:=pl) (dF (he ah s σ H _ I h) λu s1 cN=>?_) ht;obtain⟨x,H1,I1,rx,a,C,dx,fs,g,ex,ea,c,k,l,q⟩:=cN;subst ex;obtain rfl:u=aS a:=rx;exact Ko I1 ea c k l (q s1 I1)
end
section
variable {X:Cx}{ah:List (ai×Obj)}{σ:St}{H:Hp}{s:aq}{A:cp}{E:ag->aq->Prop}{Q:ag->aq->Prop}{c:ag}{b:Bool}
inductive j7(K:W.Frag)(H:Hp):V->ag->Prop where
 |bq:j7 K H .bq (.type "NoneType")
 |bl (x:Bool):j7 K H (.bl x) (.type "bool")
 |int (i:Int):j7 K H (.int i) (.type "int")
 |str (x:Str):j7 K H (.str x) (.type "str")
 |zZ (x:UInt64):j7 K H (.zZ x) (.type "float")
 |lst {a:ai} {xs:List V} (e:H a=aa (.lst xs)):j7 K H (.ref a) (.type "list")
 |eU {a:ai} {o:Obj} {xs:List V} (e:H a=aa (.eU o (.lst xs))):j7 K H (.ref a) (.type "list")
 |tup {a:ai} {xs:List V} (e:H a=aa (.tup xs)):j7 K H (.ref a) (.type "tuple")
 |dK {a:ai} {kvs:List (cg×V)} (e:H a=aa (.dK kvs)):j7 K H (.ref a) (.type "dict")
 |dT {a:ai} {kvs:List (List cg×V)} (e:H a=aa (.dT kvs)):j7 K H (.ref a) (.type "dict")
 |ins {a C dx:ai} {fs:List (Str×V)} (e:H a=aa (.ins C dx fs)) (cl:nj K C) (ha:W.findIn K (.ref C) "__class__" = aa (aa (.builtin "object.__class__")))
  (hn:W.specialIn K (.builtin "object.__class__") "__get__" = aa (aa (.builtin "getset_descriptor.__get__"))) (P_:W.takesIn K (.builtin "object.__class__")=aa true)
  (hm:W.mroIn K C (.type "object")=aa true):j7 K H (.ref a) (.ref C)
theorem Yp{x:V}{u t:ag}(I:Inv X ah σ H s)(rx:RelV x u)(ty:j7 X.K H x t)(e:W.kitOne X.K t c=aa b)(h:∀tk,Q (.bool b) { s with toks:=tk }) :
  wpAny (aN X.prog X.w) A (call (.builtin "isinstance") [u,c]) Q E s:=by
 cases ty with
 |bq=>cases (show u=fE from rx);exact W.kia_one W.kitx_none I.jX dG e (λz=>nomatch z) h
 |bl y=>cases (show u=d_ y from rx);exact W.kia_one W.kitx_bool I.jX dG e (λz=>nomatch z) h
 |int i=>obtain⟨t,q⟩:=(show∃t,u=kU i t from rx);cases q;exact W.kia_one W.kitx_int I.jX dG e (λz=>nomatch z) h
 |str y=>obtain⟨t,q⟩:=(show∃t,u=kW y t from rx);cases q;exact W.kia_one W.kitx_str I.jX dG e (λz=>nomatch z) h
 |zZ y=>obtain⟨t,q⟩:=(show∃t,u=sH y t from rx);cases q;exact W.kia_one W.kitx_float I.jX dG e (λz=>nomatch z) h
 | @lst a xs ea=>
   cases (show u=aS a from rx);obtain⟨_,_,n,_,h1⟩:=(show ku X.prog X.w H s.heap a (.lst xs) from I.cI a _ ea);exact W.kia_one W.kitx_list I.jX ⟨_,h1,rfl⟩ e (λz=>nomatch z) h
 | @eU a ob xs ea=>
   cases (show u=aS a from rx);obtain⟨_,_,_,n,_,h1⟩:=(show ku X.prog X.w H s.heap a (.eU ob (.lst xs)) from I.cI a _ ea);exact W.kia_one W.kitx_list I.jX ⟨_,h1,rfl⟩ e (λz=>nomatch z) h
 | @tup a xs ea=>
   cases (show u=aS a from rx);obtain⟨_,_,_,p⟩:=(show ku X.prog X.w H s.heap a (.tup xs) from I.cI a _ ea);obtain⟨o,h1,h2,_⟩:=p;exact W.kia_one W.kitx_tuple I.jX ⟨o,h1,h2⟩ e (λz=>nomatch z) h
 | @dK a kvs ea=>
   cases (show u=aS a from rx);obtain⟨_,_,vs,_,p⟩:=(show ku X.prog X.w H s.heap a (.dK kvs) from I.cI a _ ea);obtain⟨o,es,ep,h1,h2,_⟩:=p;exact W.kia_one W.kitx_dict I.jX ⟨o,h1,h2.1⟩ e (λz=>nomatch z) h
 | @dT a kvs ea=>
   cases (show u=aS a from rx);obtain⟨_,_,xs,_,o,es,ep,h1,h2,_⟩:=(show ku X.prog X.w H s.heap a (.dT kvs) from I.cI a _ ea);exact W.kia_one W.kitx_dict I.jX ⟨o,h1,h2.1⟩ e (λz=>nomatch z) h
 | @ins a C dx fs ea cl ha hn P_ hm=>
   cases (show u=aS a from rx);obtain⟨mA,O,_⟩:=GW I.cI ea;obtain⟨od,J,_⟩:=O.look;exact W.kia_one (W.kitx_own (cl.get _) cl.hd ha hn P_ hm) I.jX J e (λz=>nomatch z) h
end
structure eL(k:Nat)(A:cp):Prop where
 hd:A.handled=ae
 dp:A.depth+3*k+5<recursionLimit
 un:A.units+16*k+200<gc
 gd:A.guards=aa []
theorem eL.mono{j k:Nat}{A:cp}(r:eL k A)(h:j<=k):eL j A:=⟨r.hd,by have:=r.dp;omega,by have:=r.un;omega,r.gd⟩
theorem eL.deeper{k:Nat}{A:cp}(r:eL (k+1) A)(env:Env):eL k (A.deeper env):=
 ⟨r.hd,by have:=r.dp;show A.depth+1+3*k+5<_;omega,by have:=r.un;show A.units+3+16*k+200<_;omega,r.gd⟩
theorem Yq{A:cp}{C:ai}{us:List ag}{kw:List (Str×ag)}:(A.under (.builtin "type.__call__" ⟨.ref C::us,kw⟩)).depth=A.depth+1:=by
 first | rfl | simp[mn,Code.weight,Code.isCreation,Dp,Code.isCaller,Gk,rH,guardIds]
theorem Yr{A:cp}{C:ai}{us:List ag}{kw:List (Str×ag)}:(A.under (.builtin "type.__call__" ⟨.ref C::us,kw⟩)).units=A.units+1:=by
 first | rfl | simp[mn,Code.cUnits,Gk,rH]
theorem Ys{A:cp}{C:ai}{us:List ag}{kw:List (Str×ag)}(h:A.guards=aa []):(A.under (.builtin "type.__call__" ⟨.ref C::us,kw⟩)).guards=aa []:=by
 have e:(Code.builtin "type.__call__" ⟨.ref C::us,kw⟩).guards=[]:=by first | rfl | simp[Code.guards,Dp,guardIds]
 unfold mn;simp only[e,h];rfl
theorem eL.make{k:Nat}{A:cp}(r:eL (k+1) A)(C:ai)(us:List ag)(kw:List (Str×ag)):eL k (A.under (.builtin "type.__call__" ⟨.ref C::us,kw⟩)):=
 ⟨r.hd,by have:=r.dp;rw[Yq];omega,by have:=r.un;rw[Yr];omega,Ys r.gd⟩
theorem eL.depth{k:Nat}{A:cp}(r:eL k A):A.depth<recursionLimit:=by have:=r.dp;omega
theorem eL.units{k:Nat}{A:cp}(r:eL k A):A.units+64<gc:=by have:=r.un;omega
def tG:TA:=λ_ H Q=>Q [] H
def Cf(ta:TE)(tr:TA):TA:=fun σ H Q=>ta σ H λx H1=>tr σ H1 λxs H2=>Q (x::xs) H2
section
variable {X:Cx}{e:bx}{es:List bx}{te:TE}{t:TA}{pos:Pos}
theorem yU:PA X [] tG:=λ_ _ _ _ H Q I h=>uK ⟨[],H,I,.nil,h⟩
theorem u6(ha:PE X e te)(hr:PA X es t)(hs:av (e::es) X.env=(false,eval e X.env)::av es X.env:=by rfl):PA X (e::es) (Cf te t):=by
 intro pos ah s σ H Q I h;rw[hs];show wpAny _ _ (spliced ((false,eval e X.env)::bL pos (av es X.env))) _ _ s;refine uh (dF (ha ah s σ H _ I h) λu s1 cN=>?_);obtain⟨x,H1,I1,r1,q1⟩:=cN;exact dF (hr pos ah s1 σ H1 _ I1 q1) λus s2 ⟨xs,H2,I2,r2,q2⟩=>⟨x::xs,H2,I2,.cons r1 r2,q2⟩
def Ks(t:TA):TE:=fun σ H Q=>t σ H λxs H1=>xs.length<=sizeLine/\∀p,H1 p=ae->Q (.ref p) (upd H1 p (.tup xs))
def Kt(t:TA):TE:=fun σ H Q=>t σ H λxs H1=>xs.length<=sizeLine/\∀p,H1 p=ae->Q (.ref p) (upd H1 p (.lst xs))
theorem Yt{x1}(h:PA X es t):PE X (.Tuple es x1 pos) (Ks t):=by
 intro ah s σ H Q I hq;refine wpAny_Tuple_spliced (dF (h pos ah s σ H _ I hq) λus s1 ⟨xs,H1,I1,r,z,q⟩=>⟨by rw[<- r.length];exact z,?_⟩);have hf:H1 s1.heap.objs.size=ae:=I1.cI.fresh (aB _);refine⟨.ref s1.heap.objs.size,upd H1 s1.heap.objs.size (.tup xs),I1.laid (t':=s1.toks) (λb u e=>ax _ e) (aB _) ?_,rfl,q _ hf⟩;exact⟨z,us,r,⟨_,bg _ rfl,rfl,_,rfl⟩⟩
theorem P'(h:PA X es t):PE X (.List es pos) (Kt t):=by
 intro ah s σ H Q I hq;refine wpAny_List_spliced (dF (h pos ah s σ H _ I hq) λus s1 ⟨xs,H1,I1,r,z,q⟩=>⟨by rw[<- r.length];exact z,?_⟩);have hf:H1 s1.heap.objs.size=ae:=I1.cI.fresh (aB _);refine⟨.ref s1.heap.objs.size,upd H1 s1.heap.objs.size (.lst xs),I1.laid (t':=s1.toks) (λb u e=>ax _ e) (aB _) ?_,rfl,q _ hf⟩;exact⟨z,us,0,r,bg _ rfl⟩
end
abbrev Sp:=List V->Hp->VK->XK->Prop
abbrev sT:=List Env->Hp->aq->XK->ag->aq->Prop
structure rP(P:aU)(w:bz)(K:W.Frag)(mg:Str->Option ag)(base:bR)(A:cp)(outer:List Env)(s:aq)(H:Hp):Prop where
 frames:A.frames=aa outer
 mod:Mod K mg base
 bs:∀b o,base.get? b=aa o->s.heap.get? b=aa o/\H b=ae
 w6:base.objs.size<=s.heap.objs.size
 mY:s.heap.FunFrames base outer
 z7:∀b∈mI outer,H b=ae
 cI:iZ P w H s.heap
 bare:jZ s.gens
def CE(outer:List Env)(P:aU)(w:bz)(H:Hp)(s:aq)(Q:VK)(u:ag)(s':aq):Prop:=
 ∃v H',s'.os=s.os/\jZ s'.gens/\Un (mI outer) [] H H' s.heap s'.heap/\iZ P w H' s'.heap/\RelV v u/\Q v H'
def CR(CX:sT)(outer:List Env)(P:aU)(w:bz)(H:Hp)(s:aq)(Q:VK)(E:XK)(r:BZ)(s':aq):Prop:=
 match r with
 |.ok (.ret u)=>CE outer P w H s Q u s'
 |.ok _=>False
 |.error e=>CX outer H s E e s'
structure bH(P:aU)(w:bz)(K:W.Frag)(mg:Str->Option ag)(base:bR)(CX:sT)(k:Nat)(f:ai)(fd:bA)(ps:List Str)(sp:Sp):Prop where
 len:∀vs H Q E,sp vs H Q E->vs.length=ps.length
 run:∀(A:cp) (outer:List Env) (s:aq) (H:Hp) (args:Args) (us:List ag) (vs:List V) (Q:VK) (E:XK),eL k A->rP P w K mg base A outer s H->rJ s fd args (ps.zip us)->cj vs us->sp vs H Q E ->
  codeAny (aN P w) A (.call (.ref f) args) (CR CX outer P w H s Q E) s
theorem bH.mono{P:aU}{w:bz}{K:W.Frag}{mg:Str->Option ag}{base:bR}{CX:sT}{j k:Nat}{f:ai}{fd:bA}{ps:List Str}{sp:Sp}(F:bH P w K mg base CX j f fd ps sp)(h:j<=k) :
 bH P w K mg base CX k f fd ps sp:=⟨F.len,λA outer s H args us vs Q E hr=>F.run A outer s H args us vs Q E (hr.mono h)⟩
theorem bH.imp{P:aU}{w:bz}{K:W.Frag}{mg:Str->Option ag}{base:bR}{CX:sT}{k:Nat}{f:ai}{fd:bA}{ps:List Str}{sp Qa:Sp}(F:bH P w K mg base CX k f fd ps sp)
  (h:∀vs H Q E,Qa vs H Q E->sp vs H Q E):bH P w K mg base CX k f fd ps Qa:=
 ⟨λvs H Q E q=>F.len vs H Q E (h _ _ _ _ q),λA outer s H args us vs Q E hr he hb hv hs=>F.run A outer s H args us vs Q E hr he hb hv (h _ _ _ _ hs)⟩
theorem rP.make{P:aU}{w:bz}{K:W.Frag}{mg:Str->Option ag}{base:bR}{A:cp}{outer:List Env}{s:aq}{H:Hp}(e:rP P w K mg base A outer s H)(C:ai)(us:List ag)(kw:List (Str×ag)) :
 rP P w K mg base (A.under (.builtin "type.__call__" ⟨.ref C::us,kw⟩)) outer s H:=⟨by first | exact e.frames | (simpa[mn,Code.envs,rH,pushEnvs] using e.frames),e.mod,e.bs,e.w6,e.mY,e.z7,e.cI,e.bare⟩
section
variable {X:Cx}{ah:List (ai×Obj)}{σ:St}{H:Hp}{s s':aq}
theorem Inv.Am(I:Inv X ah σ H s):rP X.prog X.w X.K X.mg X.base X.A X.stack s H:=
 ⟨I.ok.frames,I.ok.mod,I.bs,bJ I.ok.w6 I.sz,I.stack,I.nh,I.cI,I.bare⟩
theorem Inv.after{Q:VK}{u:ag}(I:Inv X ah σ H s)(h:CE X.stack X.prog X.w H s Q u s'):EP X ah σ Q u s':=by
 obtain⟨v,H',os,bare,un,cI,r,q⟩:=h;obtain⟨hh,g,d,t,Yu⟩:=s';obtain rfl:Yu=s.os:=os;exact⟨v,H',I.call (h':=hh) (g':=g) (d':=d) (t':=t) (ch:=[]) un cI bare (λb z=>absurd z (by simp)),r,q⟩
end
def Qb(sp:Sp)(jP:List V)(E:XK)(t:TA):TE:=fun σ H Q=>t σ H λvs H1=>sp (vs++jP) H1 Q E
def Ku(C:ai)(m:Str)(sp:Sp)(jP:List V)(E:XK)(ta:TE)(t:TA):TE:=fun σ H Q=>ta σ H λx H1=>∃a dx fs,x=.ref a/\H1 a=aa (.ins C dx fs)/\fs.lookup m=ae /\
 t σ H1 λvs H2=>sp (x::(vs++jP)) H2 Q E
def Kv(C:ai)(sp:Sp)(jP:List V)(E:XK)(t:TA):TE:=fun σ H Q=>t σ H λvs H1=>∀x dx,H1 x=ae->H1 dx=ae->dx≠x ->
 sp (.ref x::(vs++jP)) (upd (upd H1 dx (.own x)) x (.ins C dx [])) (λv H2=>v=.bq/\Q (.ref x) H2) E
def lI(K:W.Frag)(fd:bA)(ps:List Str)(ds:List ag):Prop:=
 ∀(s:aq) (us:List ag),K.In s.heap->(us++ds).length=ps.length->rJ s fd ⟨us,[]⟩ (ps.zip (us++ds))
theorem lI.all{K:W.Frag}{fd:bA}{ps:List Str}(h:∀us:List ag,us.length=ps.length->yH fd ⟨us,[]⟩=pure (ps.zip us)):lI K fd ps []:=λs us _ hl=>by
 rw[cW] at hl ⊢;exact .of_eq (h us hl)
def oG(CX:sT)(X:Cx)(E:XK):Prop:=∀(ah:List (ai×Obj)) (σ:St) (H:Hp) (s:aq) (e:ag) (s':aq),Inv X ah σ H s->CX X.stack H s E e s'->X.xe e s'
section
variable {X:Cx}{CX:sT}{k:Nat}{f C:ai}{fd:bA}{ps:List Str}{sp:Sp}{jP:List V}{ds:List ag}{E:XK}{x m:Str}{p pos cC:Pos}{e o:bx}{es:List bx}{ta:TE}{t:TA}
theorem Kw{ah:List (ai×Obj)}{σ:St}{H:Hp}{s:aq}{Q:VK}{us:List ag}{vs:List V}(F:bH X.prog X.w X.K X.mg X.base CX k f fd ps sp)(hr:eL k X.A)(hb:lI X.K fd ps ds)(hd:cj jP ds)(hx:oG CX X E)
  (I:Inv X ah σ H s) (r:cj vs us) (h:sp (vs++jP) H Q E):wpAny (aN X.prog X.w) X.A (call (.ref f) us) (EP X ah σ Q) X.xe s:=by
 have r2:cj (vs++jP) (us++ds):=r.append hd;have hl:(us++ds).length=ps.length:=by rw[<- r2.length];exact F.len _ _ _ _ h
 refine oi (jv (F.run X.A X.stack s H ⟨us,[]⟩ (us++ds) (vs++jP) Q E hr I.Am (hb s us I.jX hl) r2 h) λr s' hq=>?_);cases r with
 |error e=>exact hx ah σ H s e s' I hq
 | ok fl=>
   cases fl with
   |ret u=>exact I.after hq
   |next=>exact dE hq
   |brk=>exact dE hq
   |cont=>exact dE hq
theorem Yv(F:bH X.prog X.w X.K X.mg X.base CX k f fd ps sp)(hr:eL k X.A)(hg:Gl X x)(hm:X.mg x=aa (.ref f))(hk:W.keepIn X.K (.ref f)=true)(hb:lI X.K fd ps ds)(hd:cj jP ds)(hx:oG CX X E)
  (ha:PA X (e::es) t) (kC:(x==("__debug__" : Str))=false:=by decide) (he:av (e::es) X.env=(false,eval e X.env)::av es X.env:=by rfl) (gX:(bL pos (av es X.env)).any (·.1)=false:=by rfl) :
  PE X (.Call (.Name x p) (e::es) [] pos) (Qb sp jP E t):=by
 intro ah s σ H Q I h;refine fX (Ab I hg hm ?_ kC);refine W.callWith_K (h₀:=X.base) I.ok.mod.DF hk (dF (ha pos ah s σ H _ I h) λus s1 ⟨vs,H1,I1,r,q⟩=>⟨I1.jX,?_⟩) he gX;exact Kw F hr hb hd hx I1 r q
theorem Qc{pl:Sem Bool}(he:PE X o ta)(c:nj X.K C)(hm:u5 X.K C m f)(F:bH X.prog X.w X.K X.mg X.base CX k f fd ps sp)(hr:eL k X.A)(hb:lI X.K fd ps ds)(hd:cj jP ds)(hx:oG CX X E)(ha:PA X (e::es) t)
  (eY:av (e::es) X.env=(false,eval e X.env)::av es X.env:=by rfl) (gX:(bL pos (av es X.env)).any (·.1)=false:=by rfl)
  (ht:eval (.Call (.Attribute o m cC) (e::es) [] pos) X.env=(do
   let ov <- eval o X.env
   ju cC.atName
   let (f,first) <- iA [ov] (gK ov m pl)
   i9 pos f first (bL pos (av (e::es) X.env)) (eG pos (cQ [] X.env))):=by rfl) :
  PE X (.Call (.Attribute o m cC) (e::es) [] pos) (Ku C m sp jP E ta t):=by
 intro ah s σ H Q I h;refine W.methodCall_KW (pl:=pl) (dF (he ah s σ H _ I h) λu s1 cN=>?_) ht;obtain⟨x,H1,I1,rx,a,dx,fs,ex,ea,l,q⟩:=cN;subst ex;obtain rfl:u=aS a:=rx;refine Ko I1 ea c hm l ?_;refine W.callWith_K (first:=[.ref a]) (h₀:=X.base) I.ok.mod.DF hm.kp (dF (ha pos ah s1 σ H1 _ I1 q) λus s2 ⟨vs,H2,I2,r,q2⟩=>⟨I2.jX,?_⟩) eY gX;exact Kw (us:=.ref a::us) (vs:=.ref a::vs) F hr hb hd hx I2 (.cons rfl r) q2
theorem Yw{pl:Sem Bool}(he:PE X o ta)(c:nj X.K C)(hm:u5 X.K C m f)(F:bH X.prog X.w X.K X.mg X.base CX k f fd ps sp)(hr:eL k X.A)(hb:lI X.K fd ps ds)(hd:cj jP ds)(hx:oG CX X E)
  (ht:eval (.Call (.Attribute o m cC) [] [] pos) X.env=(do
   let ov <- eval o X.env
   ju cC.atName
   let (f,first) <- iA [ov] (gK ov m pl)
   i9 pos f first (bL pos (av [] X.env)) (eG pos (cQ [] X.env))):=by rfl) :
  PE X (.Call (.Attribute o m cC) [] [] pos) (Ku C m sp jP E ta tG):=by
 intro ah s σ H Q I h;refine W.methodCall_KW (pl:=pl) (dF (he ah s σ H _ I h) λu s1 cN=>?_) ht;obtain⟨x,H1,I1,rx,a,dx,fs,ex,ea,l,q⟩:=cN;subst ex;obtain rfl:u=aS a:=rx;refine Ko I1 ea c hm l ?_;exact W.callWith_K0 (first:=[.ref a]) I1.jX hm.kp (Kw (us:=[.ref a]) (vs:=[.ref a]) F hr hb hd hx I1 (.cons rfl .nil) q)
structure Mk(K:W.Frag)(C f:ai):Prop where
 makes:W.makesIn K C=true
 init:W.findIn K (.ref C) "__init__" = aa (aa (.ref f))
 fn:W.isFn K (.ref f)=true
 kp:W.keepIn K (.ref C)=true
theorem Qd{ah:List (ai×Obj)}{σ:St}{H:Hp}{s:aq}{Q:VK}{us:List ag}{vs:List V}(M:Mk X.K C f)(F:bH X.prog X.w X.K X.mg X.base CX k f fd ps sp)(hr:eL (k+1) X.A)(hb:lI X.K fd ps ds)(hd:cj jP ds)
  (hx:oG CX X E) (I:Inv X ah σ H s) (r:cj vs us)
  (h:∀x dx,H x=ae->H dx=ae->dx≠x->sp (.ref x::(vs++jP)) (upd (upd H dx (.own x)) x (.ins C dx [])) (λv H2=>v=.bq/\Q (.ref x) H2) E) :
  wpAny (aN X.prog X.w) X.A (call (.ref C) us) (EP X ah σ Q) X.xe s:=by
 have hq:=h (s.heap.objs.size+1) s.heap.objs.size (I.cI.fresh (jA _)) (I.cI.fresh (aB _)) (aT (dH _));have I2:=Inv.made (C:=C) I;have r2:cj (V.ref (s.heap.objs.size+1)::(vs++jP)) (aS (s.heap.objs.size+1)::(us++ds)):=.cons rfl (r.append hd);have hl:(aS (s.heap.objs.size+1)::us++ds).length=ps.length:=by
  have e:=r2.length;rw[F.len _ _ _ _ hq] at e;exact e.symm
 refine oi (Yi (f:=f) I.jX M.makes M.init (beq_iff_eq.mp M.fn) (jv (F.run _ X.stack _ _ ⟨aS (s.heap.objs.size+1)::us,[]⟩ (aS (s.heap.objs.size+1)::(us++ds)) _ _ E (hr.make C us [])
  (I2.Am.make C us []) (hb _ (aS (s.heap.objs.size+1)::us) I2.jX hl) r2 hq) λr s' D1=>?_))
 cases r with
 |error e=>exact hx ah σ _ _ e s' I2 D1
 | ok fl=>
   cases fl with
   | ret u=>
     obtain⟨v,H',I3,rv,ev,q3⟩:=I2.after D1;subst ev;exact⟨rv,⟨V.ref (s.heap.objs.size+1),H',I3,rfl,q3⟩⟩
   |next=>exact dE D1
   |brk=>exact dE D1
   |cont=>exact dE D1
theorem Yx(M:Mk X.K C f)(F:bH X.prog X.w X.K X.mg X.base CX k f fd ps sp)(hr:eL (k+1) X.A)(hg:Gl X x)(hm:X.mg x=aa (.ref C))(hb:lI X.K fd ps ds)(hd:cj jP ds)(hx:oG CX X E)
  (ha:PA X (e::es) t) (kC:(x==("__debug__" : Str))=false:=by decide) (he:av (e::es) X.env=(false,eval e X.env)::av es X.env:=by rfl) (gX:(bL pos (av es X.env)).any (·.1)=false:=by rfl) :
  PE X (.Call (.Name x p) (e::es) [] pos) (Kv C sp jP E t):=by
 intro ah s σ H Q I h;refine fX (Ab I hg hm ?_ kC);refine W.callWith_K (h₀:=X.base) I.ok.mod.DF M.kp (dF (ha pos ah s σ H _ I h) λus s1 ⟨vs,H1,I1,r,q⟩=>⟨I1.jX,?_⟩) he gX;exact Qd M F hr hb hd hx I1 r q
theorem Yy(M:Mk X.K C f)(F:bH X.prog X.w X.K X.mg X.base CX k f fd ps sp)(hr:eL (k+1) X.A)(hg:Gl X x)(hm:X.mg x=aa (.ref C))(hb:lI X.K fd ps ds)(hd:cj jP ds)(hx:oG CX X E)
  (kC:(x==("__debug__" : Str))=false:=by decide):PE X (.Call (.Name x p) [] [] pos) (Kv C sp jP E tG):=by
 intro ah s σ H Q I h;refine fX (Ab I hg hm ?_ kC);exact W.callWith_K0 I.jX M.kp (Qd (us:=[]) M F hr hb hd hx I .nil h)
end
structure gn(N P:List Str)(sc:iG):Prop where
 kind:sc.kind=.function
 co:sc.isCoroutine=false
 gen:sc.isGenerator=false
 nd:N.Nodup
 pre:N.take P.length=P
 par:∀x∈P,sc.names.lookup x=aa .local\/sc.names.lookup x=aa .cell
 An:∀y∈sc.names,y.2≠.free
theorem Qe{kindOf:Str->Option yI}{x:Str}:∀{binds:List (Str×ag)} {m:Str->Option ag},(∀v,(x,v)∉binds)->uL kindOf binds m x=m x
 |[],_,_=>rfl
 | (n,v)::r,m,h=>by
   unfold uL;rw[Qe λw hw=>h w (ao _ hw)]
   split
   .have:x≠n:=by rintro rfl;exact h v az
    simp[this]
   .rfl
theorem Qf{kindOf:Str->Option yI}{x:Str}:∀{binds:List (Str×ag)} {m:Str->Option ag},(∀v,(x,v)∉binds)->uM kindOf binds m x=m x
 |[],_,_=>rfl
 | (n,v)::r,m,h=>by
   unfold uM;rw[Qf λw hw=>h w (ao _ hw)]
   split
   .rfl
   .have:x≠n:=by rintro rfl;exact h v az
    simp[this]
theorem Qg{kindOf:Str->Option yI}{x:Str}{v:ag}:∀{P:List Str} {vs:List ag} {i:Nat} {m:Str->Option ag},P.Nodup->P[i]?=aa x->vs[i]?=aa v->kindOf x=aa .local ->
  uL kindOf (P.zip vs) m x=aa v
 |[],_,_,_,_,h,_,_=>by simp at h
 |_::_,[],_,_,_,_,h,_=>by simp at h
 | p::P,w::vs,0,m,nd,h1,h2,hk=>by
   simp at h1 h2;subst h1;subst h2;show uL kindOf ((p,w)::P.zip vs) m p=_;unfold uL;rw[Qe λv hv=>(cM.mp nd).1 (oB hv).1,if_pos hk];simp
 | p::P,w::vs,i+1,m,nd,h1,h2,hk=>by
   show uL kindOf ((p,w)::P.zip vs) m x=_;unfold uL;exact Qg (i:=i) (cM.mp nd).2 (by simpa using h1) (by simpa using h2) hk
theorem Qh{kindOf:Str->Option yI}{x:Str}{v:ag}:∀{P:List Str} {vs:List ag} {i:Nat} {m:Str->Option ag},P.Nodup->P[i]?=aa x->vs[i]?=aa v->kindOf x≠aa .local ->
  uM kindOf (P.zip vs) m x=aa v
 |[],_,_,_,_,h,_,_=>by simp at h
 |_::_,[],_,_,_,_,h,_=>by simp at h
 | p::P,w::vs,0,m,nd,h1,h2,hk=>by
   simp at h1 h2;subst h1;subst h2;show uM kindOf ((p,w)::P.zip vs) m p=_;unfold uM;rw[Qf λv hv=>(cM.mp nd).1 (oB hv).1,if_neg hk];simp
 | p::P,w::vs,i+1,m,nd,h1,h2,hk=>by
   show uM kindOf ((p,w)::P.zip vs) m x=_;unfold uM;exact Qh (i:=i) (cM.mp nd).2 (by simpa using h1) (by simpa using h2) hk
noncomputable def start(N:List Str)(vs:List V):St:=vs.map aa++aQ (N.length-vs.length) ae
noncomputable def ir(CX:sT)(P:aU)(w:bz)(K:W.Frag)(mg:Str->Option ag)(base:bR)(N:List Str)(qual:Str)(scope:iG)(f:ai)(cd:ag)(A:cp)(outer:List Env)(s:aq)(H:Hp)(E:XK):Cx where
 prog:=P
 w:=w
 K:=K
 mg:=mg
 base:=base
 A:=A.deeper (iP qual scope s.heap.objs.size f cd)
 N:=N
 s₀:=s
 H₀:=H
 env:=iP qual scope s.heap.objs.size f cd
 outer:=outer
 stack:=iP qual scope s.heap.objs.size f cd::outer
 ex:=[]
 calm:=true
 fn:=λ_=>true
 pn:=[]
 xe:=λe s'=>wpAny (aN P w) (A.deeper (iP qual scope s.heap.objs.size f cd)) (wb (iP qual scope s.heap.objs.size f cd) e) (λ_ Kx=>CX outer H s E e Kx) (λe' Kx=>CX outer H s E e' Kx) s'
theorem Qi{sc:iG}{n:Nat}{x:Str}(h:sc.names.lookup x=aa .cell):∃c,(Gm n sc.names []).lookup x=aa c:=by
 have q:=W.cellsFrom_some sc.names n [] (.inl h);exact jl.mp q
theorem Yz{CX:sT}{P:aU}{w:bz}{K:W.Frag}{mg:Str->Option ag}{base:bR}{N ps:List Str}{qual:Str}{scope:iG}{f:ai}{cd:ag}{A:cp}{outer:List Env}{s s1:aq}{H:Hp}{E:XK}{us:List ag}{vs:List V}
  (S:gn N ps scope) (hd:A.handled=ae) (e0:rP P w K mg base A outer s H) (hl:vs.length=ps.length) (r:cj vs us)
  (x:InCallC s s.heap.objs.size (uL (iP qual scope s.heap.objs.size f cd).kindOf (ps.zip us) λ_=>ae) (Gm (s.heap.objs.size+1) scope.names []) (uM (iP qual scope s.heap.objs.size f cd).kindOf (ps.zip us) λ_=>ae) s1) :
  Inv (ir CX P w K mg base N qual scope f cd A outer s H E) [] (start N vs) H s1:=by
 have gX:ps.length<=N.length:=by have:=congrArg fF S.pre;rw[jR] at this;omega
 obtain⟨h1,tk,rfl,hk⟩:=x.done;have D2:∀b:ai,b∉(ir CX P w K mg base N qual scope f cd A outer s H E).ex:=λb z=>absurd (show b∈([]:List ai) from z) (by simp);refine⟨⟨e0.mod,S.kind,rfl,rfl,aB _,λy z c h1 h2=>?_,λy hy=>?_,λy c _ h=>?_,λ_=>hd,Around.frames_deeper e0.frames,.inr ⟨rfl,rfl⟩,λb z=>absurd z (D2 b),e0.bs,e0.w6,λb _ _=>D2 b,λb z=>absurd z (D2 b),e0.mY,e0.z7⟩,
  rfl,e0.bare,Un.kept hk,⟨_,x.toInCall.ns,λi y v h1 h2 h3=>?_⟩,λy c h=>⟨_,x.cell y c h⟩,e0.cI.fresh (aB _),λy c h=>?_,λp hp=>absurd (show p∈([]:List (ai×Obj)) from hp) (by simp),e0.cI.kept hk,?_,λi v e=>nomatch (show(ae:Option (Option V))=aa (aa v) from e)⟩
 .exact name_of_addr x.apart (di h1) (di h2)
 .have hy:scope.names.lookup y=aa .cell\/scope.names.lookup y=aa .free:=hy
  rcases hy with hy | hy
  .exact Qi hy
  .exact absurd rfl (S.An _ (di hy))
 .exact m8 (x.above y c (di h))
 .have hi:i<vs.length:=by
   unfold start at h2;by_cases hi:i<vs.length
   .exact hi
   .rw[cL (by simpa using hi)] at h2
    rw[rh] at h2
    split at h2<;>cases h2
  have ha:vs[i]?=aa v:=by
   unfold start at h2;rw[aD (by simpa using hi),cT] at h2;cases e:vs[i]? with
   |none=>rw[e] at h2;cases h2
   |some a=>rw[e] at h2;cases h2;rfl
  obtain⟨u,hu,rv⟩:=r.get ha;have hp:ps[i]?=aa y:=by
   rw[<- S.pre,gD (by omega)];exact h1
  have Qj:ps.Nodup:=by rw[<- S.pre];exact S.nd.sublist (List.take_sublist _ _)
  refine⟨u,rv,?_⟩;rcases S.par y (kX hp) with k | k
  .exact .inl ⟨k,Qg Qj hp hu k⟩
  .obtain⟨c,e⟩:=Qi (n:=s.heap.objs.size+1) k
   refine .inr ⟨.inl k,c,e,?_⟩;have q:=x.cell y c e;rw[Qh Qj hp hu (by show scope.names.lookup y≠_;rw[k];decide)] at q;exact q
 .exact e0.cI.fresh (m8 (x.above y c (di h)))
 .unfold start
  show _=N.length;rw[aM,ba,fV];omega
theorem YA{CX:sT}{P:aU}{w:bz}{K:W.Frag}{mg:Str->Option ag}{base:bR}{k:Nat}{f:ai}{name qual:Str}{params:Arguments}{body:List bS}{scope:iG}{dV kV nq pm hU ct oc:ag}{an od:Option ai}
  {wD:Array (Option ag)} {N ps:List Str} {sp:Sp} (lk:K.lookup f=aa ⟨oc,od,.func (W.fnOf name qual params body scope dV kV nq pm an hU ct),wD⟩) (tE:W.codeIn K hU qual=true) (S:gn N ps scope)
  (len:∀vs H Q E,sp vs H Q E->vs.length=ps.length)
  (lJ:∀(A:cp) (outer:List Env) (s:aq) (H:Hp) (vs:List V) (Q:VK) (E:XK),eL k (A.deeper (iP qual scope s.heap.objs.size f hU))->sp vs H Q E ->
   ∃t,k6 (ir CX P w K mg base N qual scope f hU A outer s H E) body t/\t { nx:=λ_ H'=>Q .bq H',rt:=Q } (start N vs) H) :
  bH P w K mg base CX (k+1) f (W.fnOf name qual params body scope dV kV nq pm an hU ct) ps sp:=by
 refine⟨len,λA outer s H args us vs Q E hr e0 hb r qe=>?_⟩;have hl:=len _ _ _ _ qe;have KX:K.In s.heap:=e0.mod.DF.keeps λb o e=>(e0.bs b o e).1;have YB:s.heap.NoLimit:=e0.mod.nolimit.keeps λb o e=>(e0.bs b o e).1;have D3:∀y∈ps.zip us,scope.names.lookup y.1=aa .local\/(scope.names.lookup y.1=aa .cell/\((Gm (s.heap.objs.size+1) scope.names []).lookup y.1).isSome=true):=λ⟨n,v⟩ hy=>by
  rcases S.par n (oB hy).1 with q | q
  .exact .inl q
  .exact .inr ⟨q,W.cellsFrom_some _ _ _ (.inl q)⟩
 refine codeAny_call_function hr.depth (KX _ _ lk) rfl S.co S.gen rfl (W.codeRec_of KX tE) (hb _ _ _ _ ?_);refine wpAny_newFunctionEnv_cells S.kind D3 λenv he s1 x=>?_;subst he;refine⟨YB.keeps x.toInCall.keep,codeAny_func ?_⟩;obtain⟨t,ht,hq⟩:=lJ A outer s H vs Q E (hr.deeper _) qe;have I:Inv (ir CX P w K mg base N qual scope f hU A outer s H E) [] (start N vs) H s1:=Yz S hr.hd e0 hl r x;refine bT (ht [] s1 (start N vs) H _ I hq) (λfl s' hs=>?_) λe s' hs=>hs;have fin:∀{σ':St} {H':Hp} {v:V} {u:ag},Inv (ir CX P w K mg base N qual scope f hU A outer s H E) [] σ' H' s'->RelV v u->Q v H'->CE outer P w H s Q u s':=
  λ{σ' H' v u} J rv q=>⟨v,H',J.os,J.bare,J.base,J.cI,rv,q⟩
 cases fl with
 | ret u=>
   obtain⟨v,σ',H',J,rv,q⟩:=hs;exact fin J rv q
 | next=>
   obtain⟨σ',H',J,q⟩:=hs;exact fin (v:=V.bq) (u:=fE) J rfl q
 | brk=>
   obtain⟨_,_,_,q⟩:=hs;exact dE q
 | cont=>
   obtain⟨_,_,_,q⟩:=hs;exact dE q
section
variable {X:Cx}{x:Str}{p pos:Pos}{e:bx}{es:List bx}{t:TA}{id T:String}{r:List V->Hp->VK->Prop}
def GX(r:List V->Hp->VK->Prop)(t:TA):TE:=fun σ H Q=>t σ H λvs H1=>r vs H1 Q
theorem Qk(hc:rN X (.builtin id) r)(hg:Gl X x)(hm:X.mg x=ae)(hv:dA x=aa (.builtin id))(ha:PA X (e::es) t)(hn:x ≠ "__name__":=by decide)(kC:(x==("__debug__" : Str))=false:=by decide)
  (he:av (e::es) X.env=(false,eval e X.env)::av es X.env:=by rfl) (gX:(bL pos (av es X.env)).any (·.1)=false:=by rfl):PE X (.Call (.Name x p) (e::es) [] pos) (GX r t):=by
 intro ah s σ H Q I h;refine fX (Ac I hg hm hv ?_ hn kC);exact kY (dF (ha pos ah s σ H _ I h) λus s1 ⟨vs,H1,I1,r1,q1⟩=>hc ah s1 σ H1 vs us Q I1 r1 q1) he gX
theorem Ql(hc:rN X (.type T) r)(hg:Gl X x)(hm:X.mg x=ae)(hv:dA x=aa (.type T))(ha:PA X (e::es) t)(hn:x ≠ "__name__":=by decide)(kC:(x==("__debug__" : Str))=false:=by decide)
  (he:av (e::es) X.env=(false,eval e X.env)::av es X.env:=by rfl) (gX:(bL pos (av es X.env)).any (·.1)=false:=by rfl):PE X (.Call (.Name x p) (e::es) [] pos) (GX r t):=by
 intro ah s σ H Q I h;refine fX (Ac I hg hm hv ?_ hn kC);exact h_ (dF (ha pos ah s σ H _ I h) λus s1 ⟨vs,H1,I1,r1,q1⟩=>hc ah s1 σ H1 vs us Q I1 r1 q1) he gX
end
section
variable {κ:Type}[DecidableEq κ]
noncomputable def jE(kvs:List (κ×V))(k:κ):Option V:=(kvs.find? λkv=>decide (kv.1=k)).map (·.2)
noncomputable def j8(kvs:List (κ×V))(k:κ)(v:V):List (κ×V):=
 if(kvs.any λkv=>decide (kv.1=k))=true then kvs.map (λkv=>if kv.1=k then(kv.1,v) else kv) else kvs++[(k,v)]
noncomputable def yV(kvs:List (κ×V))(k:κ):List (κ×V):=kvs.filter λkv=>decide (kv.1≠k)
theorem GY{p:κ×V}{r:List (κ×V)}{k:κ}(e:p.1=k):jE (p::r) k=aa p.2:=by simp[jE,cf,e]
theorem GZ{p:κ×V}{r:List (κ×V)}{k:κ}(e:¬p.1=k):jE (p::r) k=jE r k:=by simp[jE,cf,e]
theorem Qm(k:κ):∀kvs:List (κ×V),(kvs.any λkv=>decide (kv.1=k))=(jE kvs k).isSome
 |[]=>rfl
 | p::r=>by
   rw[fU];by_cases e:p.1=k
   .simp only[GY e,decide_eq_true e,Bool.true_or,Option.isSome_some]
   .rw[GZ e,decide_eq_false e,qw];exact Qm k r
theorem Ky(kvs:List (κ×V))(k:κ)(v:V):(j8 kvs k v).length<=kvs.length+1:=by
 unfold j8
 split
 .rw[ba];omega
 .rw[aM,aY,oC];omega
theorem jo.iE{o:Option V}{u:Option ag}(r:jo o u):o.isSome=u.isSome:=by
 cases o with
 | none=>cases u with
   |none=>rfl
   |some _=>exact(show False from r).elim
 | some _=>cases u with
   |none=>exact(show False from r).elim
   |some _=>rfl
theorem KV.val{kvs:List (κ×V)}{vs:List (κ×ag)}(r:KV kvs vs)(k:κ):jo (jE kvs k) (mU vs k):=by
 unfold KV at r
 induction r with
 |nil=>exact dG
 | @cons p q ps qs h t ih=>
   obtain⟨h1,h2⟩:=h;by_cases e:p.1=k
   .have e':q.1=k:=h1.symm.trans e
    have b:mU (q::qs) k=aa q.2:=by simp[mU,cf,e']
    rw[GY e,b];exact h2
   .have e':¬q.1=k:=λz=>e (h1.trans z)
    have b:mU (q::qs) k=mU qs k:=by simp[mU,cf,e']
    rw[GZ e,b];exact ih
theorem KV.any{kvs:List (κ×V)}{vs:List (κ×ag)}(r:KV kvs vs)(k:κ):(kvs.any λkv=>decide (kv.1=k))=vs.any λkv=>decide (kv.1=k):=by
 unfold KV at r
 induction r with
 |nil=>rfl
 |cons h t ih=>rw[fU,fU,ih,h.1]
theorem KV.tH{kvs:List (κ×V)}{vs:List (κ×ag)}(r:KV kvs vs)(k:κ){y:V}{u:ag}(ry:RelV y u) :
  KV (kvs.map λkv=>if kv.1=k then(kv.1,y) else kv) (vs.map λkv=>if kv.1=k then(kv.1,u) else kv):=by
 unfold KV at r ⊢
 induction r with
 |nil=>exact .nil
 | @cons p q ps qs h t ih=>
   rw[ay,ay];refine .cons ?_ ih;obtain⟨h1,h2⟩:=h;by_cases e:p.1=k
   .rw[if_pos e,if_pos (h1.symm.trans e)];exact⟨h1,ry⟩
   .rw[if_neg e,if_neg (λz=>e (h1.trans z))];exact⟨h1,h2⟩
theorem KV.put{kvs:List (κ×V)}{vs:List (κ×ag)}(r:KV kvs vs)(k:κ){y:V}{u:ag}(ry:RelV y u):KV (j8 kvs k y) (stored vs k u):=by
 unfold j8 stored;rw[r.any k];by_cases e:(vs.any λkv=>decide (kv.1=k))=true
 .rw[if_pos e,if_pos e];exact r.tH k ry
 .rw[if_neg e,if_neg e];exact B0 r ⟨rfl,ry⟩
theorem KV.drop{kvs:List (κ×V)}{vs:List (κ×ag)}(r:KV kvs vs)(k:κ):KV (yV kvs k) (without vs k):=by
 unfold KV at r ⊢;unfold yV without
 induction r with
 |nil=>exact .nil
 | @cons p q ps qs h t ih=>
   obtain⟨h1,h2⟩:=h;rw[gq,gq];by_cases e:p.1=k
   .have a:¬decide (p.1≠k)=true:=by simp[e]
    have b:¬decide (q.1≠k)=true:=by simp[h1.symm.trans e]
    rw[if_neg a,if_neg b];exact ih
   .have e':¬q.1=k:=λz=>e (h1.trans z)
    have a:decide (p.1≠k)=true:=by simp[e]
    have b:decide (q.1≠k)=true:=by simp[e']
    rw[if_pos a,if_pos b];exact .cons ⟨h1,h2⟩ ih
theorem KV.length{kvs:List (κ×V)}{vs:List (κ×ag)}(r:KV kvs vs):kvs.length=vs.length:=lu r
theorem Qn(kvs:List (κ×V))(k:κ):(yV kvs k).length<=kvs.length:=ig _ _
end
theorem yW{P:aU}{w:bz}{k:cg}{u:ag}(r:RelV (kV k) u):(kq P w).is k u=true:=by
 cases k with
 |inl i=>obtain⟨t,e⟩:=(show∃t,u=kU i t from r);subst e;exact W9 P w i t
 |inr x=>obtain⟨t,e⟩:=(show∃t,u=kW x t from r);subst e;exact W_ P w x t
theorem Qo{P:aU}{w:bz}:∀{ks:List cg} {us:List ag},cj (ks.map kV) us->ItemsAre (kq P w) ks us
 |[],_,r=>by rw[gr] at r;cases r;exact .nil
 | k::ks,_,r=>by
   rw[ay] at r;cases r with
   |cons h t=>exact .cons (yW h) (Qo t)
abbrev KT(H:Hp):List (List cg×V)->List (List cg×ai×ag)->Prop:=Paired λp q=>p.1=q.1/\H q.2.1=aa (.tup (p.1.map kV))/\RelV p.2 q.2.2
theorem KT.val{H:Hp}{kvs:List (List cg×V)}{xs:List (List cg×ai×ag)}(r:KT H kvs xs)(k:List cg):jo (jE kvs k) ((sL xs k).map (·.2)):=by
 induction r with
 |nil=>exact dG
 | @cons p q ps qs h t ih=>
   obtain⟨h1,_,h2⟩:=h;by_cases e:p.1=k
   .have e':q.1=k:=h1.symm.trans e
    have b:sL (q::qs) k=aa q.2:=by simp[sL,cf,e']
    rw[GY e,b];exact h2
   .have e':¬q.1=k:=λz=>e (h1.trans z)
    have b:sL (q::qs) k=sL qs k:=by simp[sL,cf,e']
    rw[GZ e,b];exact ih
theorem KT.tH{H:Hp}{kvs:List (List cg×V)}{xs:List (List cg×ai×ag)}(r:KT H kvs xs)(k:List cg){y:V}{u:ag}(ry:RelV y u) :
  KT H (kvs.map λkv=>if kv.1=k then(kv.1,y) else kv) (xs.map (putAt k u)):=by
 induction r with
 |nil=>exact .nil
 | @cons p q ps qs h t ih=>
   rw[ay,ay];refine .cons ?_ ih;obtain⟨h1,h2,h3⟩:=h;unfold putAt;by_cases e:p.1=k
   .rw[if_pos e,if_pos (h1.symm.trans e)];exact⟨h1,h2,ry⟩
   .rw[if_neg e,if_neg (λz=>e (h1.trans z))];exact⟨h1,h2,h3⟩
theorem KT.put{H:Hp}{kvs:List (List cg×V)}{xs:List (List cg×ai×ag)}(r:KT H kvs xs)(k:List cg){b:ai}{y:V}{u:ag}(hb:H b=aa (.tup (k.map kV)))(ry:RelV y u) :
  KT H (j8 kvs k y) (storedH xs k b u):=by
 have e:(kvs.any λkv=>decide (kv.1=k))=(sL xs k).isSome:=by
  rw[Qm,(r.val k).iE,mo]
 unfold j8 storedH;rw[e];by_cases q:(sL xs k).isSome=true
 .rw[if_pos q,if_pos q];exact r.tH k ry
 .rw[if_neg q,if_neg q];exact B0 r ⟨rfl,hb,ry⟩
theorem KT.keeps{H H':Hp}{kvs:List (List cg×V)}{xs:List (List cg×ai×ag)}(r:KT H kvs xs)(ht:∀b ys,H b=aa (.tup ys)->H' b=aa (.tup ys)):KT H' kvs xs:=
 Paired.z0 r λ_ _ z=>⟨z.1,ht _ _ z.2.1,z.2.2⟩
section
variable {P:aU}{w:bz}{H:Hp}{h:bR}{a:ai}
theorem Qp{u:HO}(ok:iZ P w H h)(e:Rd H a u):ku P w H h a u:=e.ok ok
theorem xa{kvs:List (cg×V)}(ok:iZ P w H h)(e:Rd H a (.dK kvs)):kvs.length<=sizeLine/\(a==ft)=false/\∃vs,KV kvs vs/\h.DictOf (kq P w) a vs:=
 show ku P w H h a (.dK kvs) from Qp ok e
theorem G_{kvs:List (cg×V)}(ok:iZ P w H h)(e:H a=aa (.dK kvs)):kvs.length<=sizeLine/\(a==ft)=false/\∃vs,KV kvs vs/\h.DictOf (kq P w) a vs:=xa ok (.inl e)
theorem D4{ks:List cg}(ok:iZ P w H h)(e:H a=aa (.tup (ks.map kV))):(pR (kq P w)).is h ks a:=by
 obtain⟨_,cy,r,o,h1,h2,n,h3⟩:=(show ku P w H h a (.tup (ks.map kV)) from ok a _ e);exact⟨o,cy.toArray,n,h1,h2,h3,by simpa using Qo r⟩
theorem Cg{kvs:List (List cg×V)}(ok:iZ P w H h)(e:Rd H a (.dT kvs)):kvs.length<=sizeLine/\(a==ft)=false /\
  ∃xs,KT H kvs xs/\h.DictOfH (pR (kq P w)) a xs:=by
 obtain⟨z,y,xs,r,o,es,ep,h1,h2,h3,h4,h5⟩:=(show ku P w H h a (.dT kvs) from Qp ok e);refine⟨z,y,xs,r,o,es,ep,h1,h2,h3,h4,λx hx=>?_,h5⟩;have all:∀{l:List (List cg×V)} {m:List (List cg×ai×ag)},KT H l m->∀x∈m,(pR (kq P w)).is h x.1 x.2.1:=by
  intro l m q
  induction q with
  |nil=>intro x hx;exact nomatch hx
  | @cons p q ps qs hq t ih=>
    intro x hx;rcases aH.mp hx with e | hx
    .subst e
     exact D4 ok (by rw[<- hq.1];exact hq.2.1)
    .exact ih x hx
 exact all r x hx
theorem YC{kvs:List (List cg×V)}(ok:iZ P w H h)(e:H a=aa (.dT kvs)):kvs.length<=sizeLine/\(a==ft)=false /\
 ∃xs,KT H kvs xs/\h.DictOfH (pR (kq P w)) a xs:=Cg ok (.inl e)
end
def nJ(H:Hp)(a:ai)(y:V)(r:Option V):Prop:=
 (∃kvs k,Rd H a (.dK kvs)/\y=kV k/\r=jE kvs k)\/∃kvs k b,Rd H a (.dT kvs)/\y=.ref b/\H b=aa (.tup (k.map kV))/\r=jE kvs k
def D5(H:Hp)(a:ai)(y v:V)(H':Hp):Prop:=
 (∃kvs k,H a=aa (.dK kvs)/\y=kV k/\kvs.length<sizeLine/\H'=upd H a (.dK (j8 kvs k v))) \/
 ∃kvs k b,H a=aa (.dT kvs)/\y=.ref b/\H b=aa (.tup (k.map kV))/\kvs.length<sizeLine/\H'=upd H a (.dT (j8 kvs k v))
section
variable {X:Cx}{ah:List (ai×Obj)}{σ:St}{H:Hp}{s:aq}{a:ai}{y v:V}{u r:ag}{o:Option V}{A:cp}{E:ag->aq->Prop}
theorem Inv.rQ(I:Inv X ah σ H s):ft<s.heap.objs.size:=by
 have h:bu<s.heap.objs.size:=(I.mod.glob.keeps I.bk).lt;exact Gn (by decide) h
theorem YD{Q:ag->aq->Prop}(hu:A.units+1<gc)(I:Inv X ah σ H s)(g:nJ H a y (aa v))(ry:RelV y u)(h:∀w' s',Inv X ah σ H s'->RelV v w'->Q w' s') :
  wpAny (aN X.prog X.w) A (rK (.ref a) u) Q E s:=by
 rcases g with⟨kvs,k,e,ey,l⟩ | ⟨kvs,k,b,e,ey,eb,l⟩
 .subst ey
  obtain⟨z,hd,vs,j9,dd⟩:=xa I.cI e;obtain⟨w',hw,rR⟩:=jo.some_of (v:=v) (o:=mU vs k) (by rw[l];exact j9.val k);exact wpAny_getItem_of (yW ry) dd.mapOf hw (h w' _ (I.tok _) rR)
 .subst ey
  cases (show u=aS b from ry);obtain⟨z,hd,xs,j9,dd⟩:=Cg I.cI e;obtain⟨w',hw,rR⟩:=jo.some_of (v:=v) (o:=(sL xs k).map (·.2)) (by rw[l];exact j9.val k);obtain⟨p,hp,l_⟩:=bw.mp hw;refine wpAny_getItem_heap (jO hu) (D4 I.cI eb) dd hp ?_;rw[l_];exact h w' _ (I.tok _) rR
theorem Kz{Q:ag->aq->Prop}(hu:A.units+1<gc)(I:Inv X ah σ H s)(g:nJ H a y o)(ry:RelV y u)(h:∀s',Inv X ah σ H s'->Q (.bool o.isSome) s') :
  wpAny (aN X.prog X.w) A (dg .In u (.ref a)) Q E s:=by
 rcases g with⟨kvs,k,e,ey,l⟩ | ⟨kvs,k,b,e,ey,eb,l⟩
 .subst ey
  obtain⟨z,hd,vs,j9,dd⟩:=xa I.cI e;refine wpAny_in_of (yW ry) hd dd.mapOf ?_;rw[<- (j9.val k).iE,<- l];exact h _ (I.tok _)
 .subst ey
  cases (show u=aS b from ry);obtain⟨z,hd,xs,j9,dd⟩:=Cg I.cI e;refine wpAny_in_heap (jO hu) (D4 I.cI eb) hd dd ?_;have q:=(j9.val k).iE;rw[mo] at q;rw[<- q,<- l];exact h _ (I.tok _)
theorem YE{Q:ag->aq->Prop}(hu:A.units+1<gc)(I:Inv X ah σ H s)(g:nJ H a y o)(ry:RelV y u)(h:∀s',Inv X ah σ H s'->Q (.bool (!o.isSome)) s') :
  wpAny (aN X.prog X.w) A (dg .NotIn u (.ref a)) Q E s:=by
 rcases g with⟨kvs,k,e,ey,l⟩ | ⟨kvs,k,b,e,ey,eb,l⟩
 .subst ey
  obtain⟨z,hd,vs,j9,dd⟩:=xa I.cI e;refine wpAny_notIn_of (yW ry) hd dd.mapOf ?_;rw[<- (j9.val k).iE,<- l];exact h _ (I.tok _)
 .subst ey
  cases (show u=aS b from ry);obtain⟨z,hd,xs,j9,dd⟩:=Cg I.cI e;refine wpAny_notIn_heap (jO hu) (D4 I.cI eb) hd dd ?_;have q:=(j9.val k).iE;rw[mo] at q;rw[<- q,<- l];exact h _ (I.tok _)
theorem D6{h':bR}{t':Nat}{ob:HO}(I:Inv X ah σ H s)(mu:DC (H a))(hs:iU a s.heap h')(he:∃q,h'.get? a=aa q)(new:ku X.prog X.w (upd H a ob) h' a ob) :
  Inv X ah σ (upd H a ob) { s with heap:=h',toks:=t' }:=
 I.write (x:=a) (e:=a) mu (.inl rfl) (λb q hb z=>(hs.2 b hb).trans z) he new
theorem Ha{P:aU}{w:bz}{H':Hp}{h':bR}{kvs:List (cg×V)}{vs:List (cg×ag)}(z:kvs.length<=sizeLine)(hd:(a==ft)=false)(j9:KV kvs vs)(dd:h'.DictOf (kq P w) a vs) :
 ku P w H' h' a (.dK kvs):=⟨z,hd,vs,j9,dd⟩
theorem YF{H':Hp}{Q:Unit->aq->Prop}(hu:A.units+1<gc)(I:Inv X ah σ H s)(g:D5 H a y v H')(ry:RelV y u)(rv:RelV v r)(h:∀s',Inv X ah σ H' s'->Q () s') :
  wpAny (aN X.prog X.w) A (setItem (.ref a) u r) Q E s:=by
 rcases g with⟨kvs,k,e,ey,l,eH⟩ | ⟨kvs,k,b,e,ey,eb,l,eH⟩
 .subst ey eH
  obtain⟨z,hd,vs,j9,dd⟩:=G_ I.cI e;have hz:vs.length<=sizeLine:=by rw[<- j9.length];exact z
  have hl:(j8 kvs k v).length<=sizeLine:=by have:=Ky kvs k v;omega
  refine wpAny_setItem_pairs (hsz:=hz) (yW ry) dd λh' tI hs=>h _ ?_;have he:∃q,h'.get? a=aa q:=let ⟨q,_,_,hq,_⟩:=tI;⟨q,hq⟩;exact D6 I (by rw[e];exact dG) hs he (Ha hl hd (j9.put k rv) tI)
 .subst ey eH
  cases (show u=aS b from ry);obtain⟨z,hd,xs,j9,dd⟩:=YC I.cI e;have hz:xs.length<=sizeLine:=by rw[<- lu j9];exact z
  have hl:(j8 kvs k v).length<=sizeLine:=by have:=Ky kvs k v;omega
  refine wpAny_setItem_heap (hsz:=hz) (jO hu) (D4 I.cI eb) dd λh' tI hs=>h _ ?_;obtain⟨q,es,ep,hq,h2,h3,h4,_,h5⟩:=tI;refine D6 I (by rw[e];exact dG) hs ⟨q,hq⟩ ⟨hl,hd,_,(j9.put k eb rv).keeps λc ys ec=>?_,q,es,ep,hq,h2,h3,h4,h5⟩;rw[dr (Xb ec e (λz=>nomatch z))];exact ec
end
section
variable {X:Cx}{ah:List (ai×Obj)}{σ:St}{H:Hp}{s:aq}{a:ai}{kvs:List (cg×V)}{k:cg}{u:ag}{A:cp}{E:ag->aq->Prop}
theorem Zat{Q:Unit->aq->Prop}(I:Inv X ah σ H s)(e:H a=aa (.dK kvs))(ry:RelV (kV k) u)(l:(jE kvs k).isSome=true)(h:∀s',Inv X ah σ (upd H a (.dK (yV kvs k))) s'->Q () s') :
  wpAny (aN X.prog X.w) A (delItem (.ref a) u) Q E s:=by
 obtain⟨z,hd,vs,j9,dd⟩:=G_ I.cI e;refine wpAny_delItem_slot dd.typeIs (by decide) oE
  (wc oE dd.typeIs PySem.F.entry_dict_delitem (PySem.F.args_dict_delitem_2 _ _) (meets_dict_delitem_pairs (kq X.prog X.w) a (yW ry)) ⟨vs,dd,by rw[<- j9.length];exact z,by rw[<- (j9.val k).iE];exact l,λh' tI hs=>h _ ?_⟩)
 have he:∃q,h'.get? a=aa q:=let ⟨q,_,_,hq,_⟩:=tI;⟨q,hq⟩;exact D6 I (by rw[e];exact dG) hs he (Ha (bJ (Qn kvs k) z) hd (j9.drop k) tI)
theorem YG{v:V}{more:List ag}{Q:ag->aq->Prop}(I:Inv X ah σ H s)(e:H a=aa (.dK kvs))(ry:RelV (kV k) u)(l:jE kvs k=aa v)(hm:more=[]\/∃x,more=[x])
  (h:∀w' s',Inv X ah σ (upd H a (.dK (yV kvs k))) s'->RelV v w'->Q w' s'):wpAny (aN X.prog X.w) A (call (.builtin "dict.pop") (.ref a::u::more)) Q E s:=by
 obtain⟨z,hd,vs,j9,dd⟩:=G_ I.cI e;obtain⟨w',hw,rR⟩:=jo.some_of (v:=v) (o:=mU vs k) (by rw[<- l];exact j9.val k);have hp:(keyPart u).isSome=true:=by
  cases k with
  |inl i=>obtain⟨t,q⟩:=(show∃t,u=kU i t from ry);subst q;rfl
  |inr x=>obtain⟨t,q⟩:=(show∃t,u=kW x t from ry);subst q;rfl
 have ha:argsOk "dict.pop" ⟨.ref a::u::more,[]⟩:=by
  rcases hm with q | ⟨x,q⟩
  .subst q;exact PySem.F.args_dict_pop_2 _ _
  .subst q;exact PySem.F.args_dict_pop_3 _ _ _
 refine wc qx dd.typeIs PySem.F.entry_dict_pop ha (meets_dict_pop_there (kq X.prog X.w) a (yW ry) more hm hp)
  ⟨vs,w',dd,by rw[<- j9.length];exact z,hw,λh' tI hs=>h w' _ ?_ rR⟩
 have he:∃q,h'.get? a=aa q:=let ⟨q,_,_,hq,_⟩:=tI;⟨q,hq⟩;exact D6 I (by rw[e];exact dG) hs he (Ha (bJ (Qn kvs k) z) hd (j9.drop k) tI)
theorem YH{Q:ag->aq->Prop}(I:Inv X ah σ H s)(e:Rd H a (.dK kvs))(h:∀t s',Inv X ah σ H s'->Q (.int kvs.length t) s'):wpAny (aN X.prog X.w) A (call (.builtin "len") [.ref a]) Q E s:=by
 obtain⟨z,hd,vs,j9,dd⟩:=xa I.cI e;refine call_len_dict hd dd (by rw[<- j9.length];rw[dR] at z;omega) ?_;rw[<- j9.length];exact h _ _ (I.tok _)
end
def Ao(i:bx):Prop:=∀ov iv,qy i false ov iv=operate [ov,iv] (rK ov iv)
theorem YI{prog:aU}{w:bz}{A:cp}{E:ag->aq->Prop}{s:aq}{env:Env}{value jq:bx}{pos:Pos}{T id:String}{Q:ag->aq->Prop}
  (hl:B1 (.type T) "__getitem__" = pure (aa (.builtin id))) (hs:Ao jq)
  (h:wpAny (aN prog w) A (eval value env) (λo s₁=>wpAny (aN prog w) A (eval jq env) (λi s₂=>s₂.TypeIs o T/\wpAny (aN prog w) A (rK o i) Q E s₂) E s₁) E s) :
  wpAny (aN prog w) A (eval (.Subscript value jq pos) env) Q E s:=by
 refine B3 (bT h (λo s₁ h₁=>bT h₁ (λi s₂ h₂=>?_) λ_ _ x=>x) λ_ _ x=>x);obtain⟨hT,h₂⟩:=h₂;unfold ui;refine aG ?_;rw[getitemInPython_of_ne hT.not_modules];refine aG (rj hT hl ?_);have fin:wpAny (aN prog w) A (qy jq false o i) (λr s₃=>wpAny (aN prog w) A (letTemporaryGo value o r >>= λ_=>pure r) Q E s₃) E s₂:=by
  rw[hs o i];exact wpAny_operating (bT h₂ (λr s₃ h₃=>aG (wpAny_letTemporaryGo (bE h₃))) λ_ _ x=>x)
 first
  |exact bE (aG fin)
  |exact aG (bE (aG fin))
  |exact aG fin
theorem YJ{X:Cx}{ah:List (ai×Obj)}{σ:St}{H:Hp}{s:aq}{a:ai}{y:V}{o:Option V}(I:Inv X ah σ H s)(g:nJ H a y o):s.TypeIs (.ref a) "dict":=by
 rcases g with⟨kvs,k,e,_,_⟩ | ⟨kvs,k,b,e,_,_,_⟩
 .obtain⟨_,_,vs,_,dd⟩:=xa I.cI e
  exact dd.typeIs
 .obtain⟨_,_,xs,_,dd⟩:=Cg I.cI e
  exact dd.typeIs
def YK(td ty:TE):TE:=fun σ H Q=>td σ H λx H1=>ty σ H1 λy H2=>∃a v,x=.ref a/\nJ H2 a y (aa v)/\Q v H2
def YL(ty td:TE):TE:=fun σ H Q=>ty σ H λy H1=>td σ H1 λx H2=>∃a o,x=.ref a/\nJ H2 a y o/\Q (.bl (!o.isSome)) H2
def YM(td ty tv:TE):TS:=λD σ H=>tv σ H λv H1=>td σ H1 λx H2=>ty σ H2 λy H3=>∃a H4,x=.ref a/\D5 H3 a y v H4/\D.nx σ H4
section
variable {X:Cx}{o i e value:bx}{pos iq Kr:Pos}{td ty tv:TE}
theorem YN(hu:X.A.units+1<gc)(ho:PE X o td)(hi:PE X i ty)(hs:Ao i):PE X (.Subscript o i pos) (YK td ty):=by
 intro ah s σ H Q I h;refine YI PySem.F.slot_dict_getitem.lookup hs (dF (ho ah s σ H _ I h) λu s1 cN=>?_);obtain⟨x,H1,I1,rx,q1⟩:=cN;refine dF (hi ah s1 σ H1 _ I1 q1) λiv s2 cN=>?_;obtain⟨y,H2,I2,ry,a,v,ex,g,q2⟩:=cN;subst ex;obtain rfl:u=aS a:=rx;exact⟨YJ I2 g,YD hu I2 g ry λw' s3 I3 rR=>⟨v,H2,I3,rR,q2⟩⟩
theorem YO(hu:X.A.units+1<gc)(hi:PE X i ty)(ho:PE X o td):PC X .NotIn i o (YL ty td):=by
 intro ah s σ H Q I h;refine dF (hi ah s σ H _ I h) λiv s1 cN=>?_;obtain⟨y,H1,I1,ry,q1⟩:=cN;refine dF (ho ah s1 σ H1 _ I1 q1) λu s2 cN=>?_;obtain⟨x,H2,I2,rx,a,ov,ex,g,q2⟩:=cN;subst ex;obtain rfl:u=aS a:=rx;exact YE hu I2 g ry λs3 I3=>⟨.bl (!ov.isSome),H2,I3,rfl,q2⟩
theorem YQ(hu:X.A.units+1<gc)(ho:PE X o td)(hi:PE X i ty)(hv:PE X value tv)(hs:fP value (aa (.Subscript o i iq)) pos.line X.env=pure false) :
  PS X (.Assign [.Subscript o i iq] value pos) (YM td ty tv):=by
 intro ah s σ H D I h;refine wpAny_Assign_Subscript (dF (hv ah s σ H _ I h) λr s1 cN=>?_) hs;obtain⟨v,H1,I1,rv,q1⟩:=cN;refine dF (ho ah s1 σ H1 _ I1 q1) λu s2 cN=>?_;obtain⟨x,H2,I2,rx,q2⟩:=cN;refine dF (hi ah s2 σ H2 _ I2 q2) λiv s3 cN=>?_;obtain⟨y,H3,I3,ry,a,H4,ex,g,q3⟩:=cN;subst ex;obtain rfl:u=aS a:=rx;exact YF hu I3 g ry rv λs4 I4=>⟨σ,H4,I4,q3⟩
end
theorem Qq{P:aU}{w:bz}{H:Hp}(h:bR)(hb:ft<h.objs.size):ku P w H (h.push { cls:=.type "dict",data:=.dict #[] }) h.objs.size (.dK []):=
 ⟨dJ _,beq_eq_false_iff_ne.mpr (bM (aT hb)),[],.nil,Heap.DictOf.new h⟩
def YR:TE:=λ_ H Q=>∀p,H p=ae->Q (.ref p) (upd H p (.dK []))
section
variable {X:Cx}{pos:Pos}
theorem YS:PE X (.Dict [] [] pos) YR:=λah s σ H Q I h=>
 wpAny_Dict_empty ⟨.ref s.heap.objs.size,_,I.laid (a:=s.heap.objs.size) (o:=.dK []) (t':=s.toks) (λ_ _ q=>ax _ q) (aB _) (Qq s.heap I.rQ),rfl,h _ (I.cI.fresh (aB _))⟩
end
def KA:List (TE×TE)->St->Hp->(List (V×V)->Hp->Prop)->Prop
 |[],_,H,Q=>Q [] H
 |(tk,tv)::r,σ,H,Q=>tk σ H λx H1=>tv σ H1 λy H2=>KA r σ H2 λps H3=>Q ((x,y)::ps) H3
abbrev VV:List (V×V)->List (ag×ag)->Prop:=Paired λp q=>RelV p.1 q.1/\RelV p.2 q.2
def Hb(X:Cx)(pos:Pos)(nK:List (Option bx))(nM:List bx)(xb:List (TE×TE)):Prop:=
 ∀ (ah:List (ai×Obj)) (s:aq) (σ:St) (H:Hp) (Q:List (V×V)->Hp->Prop),Inv X ah σ H s->KA xb σ H Q ->
   wpAny (aN X.prog X.w) X.A (evalPairs (pairTrees nK nM X.env pos)) (λvs s'=>∃ps H',Inv X ah σ H' s'/\VV ps vs/\Q ps H') X.xe s
theorem Qr{X:Cx}{pos:Pos}:Hb X pos [] [] []:=λah s σ H Q I h=>pairTrees_nil_walk ⟨[],H,I,.nil,h⟩
theorem Hc{X:Cx}{pos:Pos}{k v:bx}{ks:List (Option bx)}{vs:List bx}{tk tv:TE}{xb:List (TE×TE)}(hk:PE X k tk)(hv:PE X v tv)(hr:Hb X pos ks vs xb) :
  Hb X pos (aa k::ks) (v::vs) ((tk,tv)::xb):=λah s σ H Q I h=>
 pairTrees_cons_walk (dF (hk ah s σ H _ I h) λu s1 ⟨x,H1,I1,rx,q1⟩=>dF (hv ah s1 σ H1 _ I1 q1) λw2 s2 ⟨y,H2,I2,ry,q2⟩=>
  dF (hr ah s2 σ H2 _ I2 q2) λws s3 ⟨ps,H3,I3,j9,q3⟩=>⟨(x,y)::ps,H3,I3,.cons ⟨rx,ry⟩ j9,q3⟩)
noncomputable def yX(kvs more:List (cg×V)):List (cg×V):=more.foldl (λacc kv=>j8 acc kv.1 kv.2) kvs
theorem KV.merge:∀{more:List (cg×V)} {rs:List (cg×ag)} {kvs:List (cg×V)} {vs:List (cg×ag)},KV more rs->KV kvs vs->KV (yX kvs more) (merged vs rs):=by
 intro more rs kvs vs r;unfold KV at r
 induction r generalizing kvs vs with
 |nil=>intro q;exact q
 | @cons p q ps qs h t ih=>
   intro r0;have e:KV (j8 kvs p.1 p.2) (stored vs q.1 q.2):=by
    have:=r0.put p.1 h.2;rw[<- h.1];exact this
   exact ih e
theorem Qs:∀(more kvs:List (cg×V)),(yX kvs more).length<=kvs.length+more.length
 |[],kvs=>by show kvs.length<=kvs.length+0;omega
 | p::r,kvs=>by
   have h1:=Qs r (j8 kvs p.1 p.2);have h2:=Ky kvs p.1 p.2;show(yX (j8 kvs p.1 p.2) r).length<=_;rw[aY];omega
theorem Qt{P:aU}{w:bz}:∀{kvs:List (cg×V)} {ws:List (ag×ag)},VV (kvs.map λkv=>(kV kv.1,kv.2)) ws->∃rs,Carries (kq P w) ws rs/\KV kvs rs
 |[],_,r=>by rw[gr] at r;cases r;exact⟨[],dG,.nil⟩
 | p :: kvs,_,r=>by
   rw[ay] at r;cases r with
   | @cons a b as bs h t=>
     obtain⟨rs,c,q⟩:=Qt (P:=P) (w:=w) t;obtain⟨b1,b2⟩:=b;exact⟨(p.1,b2)::rs,⟨yW h.1,rfl,c⟩,.cons ⟨rfl,h.2⟩ q⟩
def YT(xb:List (TE×TE)):TE:=fun σ H Q=>∀p,H p=ae->KA xb σ (upd H p (.dK [])) λps H2=>H2 p=aa (.dK [])/\∃kvs:List (cg×V),ps=kvs.map (λkv=>(kV kv.1,kv.2))/\kvs.length<=15/\Q (.ref p) (upd H2 p (.dK (yX [] kvs)))
theorem Qu{X:Cx}{pos:Pos}{nK:List (Option bx)}{nM:List bx}{xb:List (TE×TE)}(h:Hb X pos nK nM xb)(hall:nK.all (·.isSome)=true)(hl:nK.length=nM.length)(h0:nK≠[])
  (YU:nK.length<=15):PE X (.Dict nK nM pos) (YT xb):=by
 intro ah s σ H Q I q;have hn:=I.cI.fresh (aB s.heap.objs.size);have I1:=I.laid (a:=s.heap.objs.size) (o:=.dK []) (h':=s.heap.push { cls:=.type "dict",data:=.dict #[] }) (t':=s.toks) (λ_ _ q=>ax _ q) (aB _) (Qq s.heap I.rQ);refine wpAny_Dict_walk (knd:=kq X.prog X.w) hall hl h0 YU (dF (h ah _ σ _ _ I1 (q _ hn)) λws s2 cN=>?_);obtain⟨ps,H2,I2,j9,e,kvs,ep,lk,q2⟩:=cN;subst ep;obtain⟨rs,c,rk⟩:=Qt (P:=X.prog) (w:=X.w) j9;obtain⟨z,hd,vs0,r0,dd⟩:=G_ I2.cI e;cases r0;refine⟨rs,c,dd,λh' tI hs=>⟨.ref s.heap.objs.size,_,?_,rfl,q2⟩⟩;have hz:(yX [] kvs).length<=sizeLine:=by
  have h1:=Qs kvs [];rw[oC] at h1;rw[dR];omega
 have he:∃q,h'.get? s.heap.objs.size=aa q:=let ⟨q,_,_,hq,_⟩:=tI;⟨q,hq⟩;exact D6 I2 (by rw[e];exact dG) hs he (Ha hz hd (rk.merge .nil) tI)
structure M1(X:Cx)(o:bx)(m:Str)(cC:Pos)(e:bx)(dX:Pos):Prop where
 base:cm o m X.env (eval o X.env)=eval o X.env
 nN:((bL dX (av [e] X.env)).all (λx=>!x.1)&&(eG dX (cQ [] X.env)).all (λx=>x.1.isSome)
  && decide (([e]:List bx).length+([]:List gs).length+(if([]:List gs).isEmpty then 0 else 1)<30))=true
 line:(cC.endLine==dX.line)=true
 trees:bL dX (av [e] X.env)=[(false,eval e X.env)]
def Qv(H:Hp)(a:ai):Prop:=(∃kvs,Rd H a (.dK kvs))\/∃kvs,Rd H a (.dT kvs)
theorem Qw{X:Cx}{ah:List (ai×Obj)}{σ:St}{H:Hp}{s:aq}{a:ai}(I:Inv X ah σ H s)(d:Qv H a) :
  s.TypeIs (.ref a) "dict" /\ (∀b,aS a=.ref b->∃ob,s.heap.get? b=aa ob/\ob.dict=ae)/\(a==ft)=false:=by
 rcases d with⟨kvs,e⟩ | ⟨kvs,e⟩
 .obtain⟨_,hd,vs,_,dd⟩:=xa I.cI e
  refine⟨dd.typeIs,λb q=>?_,hd⟩;cases q;obtain⟨ob,_,_,h1,h2,_⟩:=dd;exact⟨ob,h1,h2.2.1⟩
 .obtain⟨_,hd,xs,_,dd⟩:=Cg I.cI e
  refine⟨dd.typeIs,λb q=>?_,hd⟩;cases q;obtain⟨ob,_,_,h1,h2,_⟩:=dd;exact⟨ob,h1,h2.2.1⟩
def YV(td ty:TE):TE:=fun σ H Q=>td σ H λx H1=>∃a,x=.ref a/\Qv H1 a/\ty σ H1 λy H2=>∃kvs k v,H2 a=aa (.dK kvs)/\y=kV k/\jE kvs k=aa v/\Q v (upd H2 a (.dK (yV kvs k)))
section
variable {X:Cx}{o e f:bx}{cC dX:Pos}{td ty tx:TE}
theorem YW(ho:PE X o td)(he:PE X e ty)(m:M1 X o "pop" cC e dX):PE X (.Call (.Attribute o "pop" cC) [e] [] dX) (YV td ty):=by
 intro ah s σ H Q I h;refine wpAny_Call_method m.base m.nN m.line o7 qx PySem.F.type_dict_pop (dF (ho ah s σ H _ I h) λu s1 cN=>?_);obtain⟨x,H1,I1,rx,a,ex,d,q1⟩:=cN;subst ex;obtain rfl:u=aS a:=rx;obtain⟨t1,t2,_⟩:=Qw I1 d;refine⟨t1,t2,?_⟩;rw[m.trees];refine gV rfl (kI (uh (dF (he ah s1 σ H1 _ I1 q1) λiv s2 cN=>?_)));obtain⟨y,H2,I2,ry,kvs,k,v,ea,ey,l,q2⟩:=cN;refine uK ?_;subst ey;exact YG I2 ea ry l (.inl rfl) λw' s3 I3 rR=>⟨v,_,I3,rR,q2⟩
end
end L2
namespace HT
open PySem PyProof.Rows
section
variable {prog:aU}{w:bz}{A:cp}{E:ag->aq->Prop}{s:aq}
noncomputable def pj(n d:Nat):Option Int->Nat
 |none=>d
 |some v=>if v<0 then(v+(n:Int)).toNat else min v.toNat n
end
end HT
namespace L2
open PySem PySem.Spec PyProof.Rows
abbrev TO:=St->Hp->(Option Int->Hp->Prop)->Prop
def PO(X:Cx)(e:Option bx)(t:TO):Prop:=
 ∀ (ah:List (ai×Obj)) (s:aq) (σ:St) (H:Hp) (Q:Option Int->Hp->Prop),Inv X ah σ H s->t σ H Q ->
   wpAny (aN X.prog X.w) X.A (evalPart e X.env) (λu s'=>∃o H',Inv X ah σ H' s'/\IsPart u o/\Q o H') X.xe s
def YX:TO:=λ_ H Q=>Q ae H
def YY(t:TE):TO:=fun σ H Q=>t σ H λx H1=>∃i,x=.int i/\Q (aa i) H1
section
variable {X:Cx}{e:bx}{te:TE}{lo hi:Option bx}{tl th:TO}{pos p2:Pos}
theorem YZ:PO X ae YX:=by
 intro ah s σ H Q I h;rw[evalPart_none];exact bE ⟨ae,H,I,.none,h⟩
theorem Y0(h:PE X e te):PO X (aa e) (YY te):=by
 intro ah s σ H Q I hw;rw[evalPart_some];refine dF (h ah s σ H _ I hw) λu s1 cN=>?_;obtain⟨x,H1,I1,r1,q1⟩:=cN;obtain⟨i,rfl,q⟩:=q1;obtain⟨t,rfl⟩:=r1;exact⟨aa i,H1,I1,.int i t,q⟩
def Qx(X:Cx)(r:V->Option Int->Option Int->Hp->VK->Prop):Prop:=
 ∀ (ah:List (ai×Obj)) (s:aq) (σ:St) (H:Hp) (x:V) (v vl vu:ag) (lo hi:Option Int) (sl:ai) (Q:VK),Inv X ah σ H s->RelV x v->s.heap.IsSliceOf sl vl vu .none->IsPart vl lo->IsPart vu hi->r x lo hi H Q ->
   ∃T id,B1 (.type T) "__getitem__" = pure (aa (.builtin id))/\s.TypeIs v T/\wpAny (aN X.prog X.w) X.A (rK v (.ref sl)) (EP X ah σ Q) X.xe s
def Y1(r:V->Option Int->Option Int->Hp->VK->Prop)(te:TE)(tl th:TO):TE:=fun σ H Q=>te σ H λx H1=>tl σ H1 λl H2=>th σ H2 λu H3=>r x l u H3 Q
theorem Y2{r:V->Option Int->Option Int->Hp->VK->Prop}(hr:Qx X r)(he:PE X e te)(hl:PO X lo tl)(hu:PO X hi th):PE X (.Subscript e (.Slice lo hi ae p2) pos) (Y1 r te tl th):=by
 intro ah s σ H Q I h;refine B3 (dF (he ah s σ H _ I h) λv s1 cN=>?_);obtain⟨x,H1,I1,r1,q1⟩:=cN;refine wpAny_Slice (dF (hl ah s1 σ H1 _ I1 q1) λvl s2 cN=>?_);obtain⟨l,H2,I2,pl,q2⟩:=cN;refine dF (hu ah s2 σ H2 _ I2 q2) λvu s3 cN=>?_;obtain⟨u,H3,I3,pu,q3⟩:=cN;rw[evalPart_none];refine bE ?_;have I4:Inv X ah σ H3 { s3 with heap:=s3.heap.push { cls:=.type "slice",data:=.fields #[vl,vu,.none] } }:=I3.kept (t':=s3.toks) λb ob q=>ax _ q;obtain⟨T,id,hT,ht,hg⟩:=hr ah { s3 with heap:=s3.heap.push { cls:=.type "slice",data:=.fields #[vl,vu,.none] } } σ H3 x v vl vu l u s3.heap.objs.size Q I4 r1 (Dq ..) pl pu q3;show wpAny (aN X.prog X.w) X.A (ui e (.Slice lo hi ae p2) v (.ref s3.heap.objs.size)) (EP X ah σ Q) X.xe { s3 with heap:=s3.heap.push { cls:=.type "slice",data:=.fields #[vl,vu,.none] } };exact tail_any (ops:=[.ref s3.heap.objs.size,v]) ht hT hg (by with_unfolding_all rfl)
noncomputable def u7(xs:List V)(lo hi:Option Int):List V:=(xs.drop (HT.pj xs.length 0 lo)).take (HT.pj xs.length xs.length hi-HT.pj xs.length 0 lo)
theorem Y3(xs:List V)(lo hi:Option Int):(u7 xs lo hi).length<=xs.length:=by
 unfold u7;rw[jR,List.length_drop];omega
end
noncomputable def rz(n:Nat)(i:Int):Option Nat:=if 0<=i then(if i<n then aa i.toNat else ae) else if -(n:Int)<=i then aa (i+n).toNat else ae
noncomputable def kD{α:Type}(xs:List α)(i:Int):Option α:=(rz xs.length i).bind λj=>xs[j]?
theorem Qy{n:Nat}{i:Int}{j:Nat}(h:rz n i=aa j):Gp i n=aa j/\j<n /\ -(n:Int)<=i/\i<n:=by
 unfold rz at h;by_cases h0:0<=i
 .rw[if_pos h0] at h
  by_cases h1:i<n
  .rw[if_pos h1] at h
   have e:i.toNat=j:=bf h;exact⟨by rw[qz h0 h1,e],by omega,by omega,h1⟩
  .rw[if_neg h1] at h;cases h
 .rw[if_neg h0] at h
  by_cases h1:-(n:Int)<=i
  .rw[if_pos h1] at h
   have e:(i+n).toNat=j:=bf h;exact⟨by rw[wd (by omega) h1,e],by omega,h1,by omega⟩
  .rw[if_neg h1] at h;cases h
theorem KC{α:Type}{xs:List α}{i:Int}{v:α}(h:kD xs i=aa v):∃j,Gp i xs.length=aa j/\xs[j]?=aa v/\j<xs.length /\ -(xs.length:Int)<=i/\i<xs.length:=by
 unfold kD at h;cases e:rz xs.length i with
 |none=>rw[e] at h;cases h
 | some j=>
   rw[e] at h;obtain⟨h1,h2,h3,h4⟩:=Qy e;exact⟨j,h1,h,h2,h3,h4⟩
theorem Ap{α:Type}{xs:List α}{j:Nat}{v:α}(h:xs[j]?=aa v):kD xs (j:Int)=aa v:=by
 have hj:j<xs.length:=(aw.mp h).1;have e:rz xs.length (j:Int)=aa j:=by
  unfold rz;rw[if_pos (by omega),if_pos (by omega)];simp
 unfold kD;rw[e];exact h
def Qz(b:bx):Prop:=∀o i,qy b false o i=operate [o,i] (rK o i)
def xc(X:Cx)(r:R2):Prop:=
 ∀ (value jq:bx) (ah:List (ai×Obj)) (s:aq) (σ:St) (H:Hp) (x y:V) (v u:ag) (Q:VK),Inv X ah σ H s->RelV x v->RelV y u->r x y H Q ->
   qy jq false v u=operate [v,u] (rK v u)->wpAny (aN X.prog X.w) X.A (ui value jq v u) (EP X ah σ Q) X.xe s
def Aq(X:Cx)(id:String)(r:V->List V->Hp->VK->Prop):Prop:=
 ∀ (ah:List (ai×Obj)) (s:aq) (σ:St) (H:Hp) (x:V) (xs:List V) (v:ag) (us:List ag) (Q:VK),Inv X ah σ H s->RelV x v->cj xs us->r x xs H Q ->
   wpAny (aN X.prog X.w) X.A (call (.builtin id) (v::us)) (EP X ah σ Q) X.xe s
section
variable {X:Cx}{a b:bx}{ta tb:TE}{pos:Pos}
theorem xc.or{r r':R2}(h:xc X r)(h':xc X r'):xc X (λx y H Q=>r x y H Q\/r' x y H Q):=by
 intro value jq ah s σ H x y v u Q I rx ry q hs;rcases q with q | q
 .exact h value jq ah s σ H x y v u Q I rx ry q hs
 .exact h' value jq ah s σ H x y v u Q I rx ry q hs
theorem Y4{r:R2}(hr:xc X r)(ha:PE X a ta)(hb:PE X b tb)(hs:Qz b):PE X (.Subscript a b pos) (DU r ta tb):=by
 intro ah s σ H Q I h;exact B3 (Ai ha hb I h λv u s2 x y H2 I2 rx ry q=>hr a b ah s2 σ H2 x y v u Q I2 rx ry q (hs _ _))
def D7(K:W.Frag):R2:=λx y H Q=>∃p xs i v,x=.ref p/\y=.int i/\lH K H p xs/\kD xs i=aa v/\Q v H
def D8(K:W.Frag):R2:=λx y H Q=>∃p xs i v,x=.ref p/\y=.int i/\tF K H p xs/\kD xs i=aa v/\Q v H
def D9:R2:=λx y H Q=>∃z i c,x=.str z/\y=.int i/\z.length<=sizeLine/\kD z.cps.toList i=aa c/\Q (.str ⟨#[c]⟩) H
theorem Y5:xc X (D7 X.K):=by
 intro value jq ah s σ H x y v u Q I rx ry h hs;obtain⟨p,xs,i,z,rfl,rfl,hq,he,q⟩:=h;cases rx;obtain⟨t,rfl⟩:=ry;obtain⟨cy,r,pl,hz⟩:=I.list hq;obtain⟨j,h1,h2,h3,h4,h5⟩:=KC he;obtain⟨w,ew,rR⟩:=r.get h2;have hl:=r.length;have hn:=Ce;have fin:EP X ah σ Q w s:=⟨z,H,I,rR,q⟩;by_cases h0:0<=i
 .have hj:i.toNat=j:=by
   rw[qz h0 h5] at h1;exact bf h1
  exact item_listR pl.isList h0 (by omega) (by rw[hj];simpa using ew) fin hs
 .have hj:(i+(cy.toArray.size:Int)).toNat=j:=by
   rw[wd (by omega) h4] at h1;rw[aI,<- hl];exact bf h1
  exact we (x:=w) pl.isList.typeIs Dr.lookup
   (wpAny_getItem_list_neg (Q:=λr s'=>r=w/\EP X ah σ Q r s') pl.isList (by omega) (by rw[aI]<;>omega) (by omega) (by rw[hj];simpa using ew) ⟨rfl,fin⟩) hs
theorem Y6:xc X (D8 X.K):=by
 intro value jq ah s σ H x y v u Q I rx ry h hs;obtain⟨p,xs,i,z,rfl,rfl,hq,he,q⟩:=h;cases rx;obtain⟨t,rfl⟩:=ry;obtain⟨cy,r,pl,hz⟩:=I.tuple hq;obtain⟨j,h1,h2,h3,h4,h5⟩:=KC he;obtain⟨w,ew,rR⟩:=r.get h2;have hl:=r.length;have hn:=Ce;have fin:EP X ah σ Q w s:=⟨z,H,I,rR,q⟩;exact we (x:=w) pl.typeIs slot_tuple_getitem.lookup
  (getItem_tuple (j:=j) (Q:=λr s'=>r=w/\EP X ah σ Q r s') pl (by omega) (by omega) (by rw[aI,<- hl];exact h1) (by simpa using ew) ⟨rfl,fin⟩) hs
theorem Y7:xc X D9:=by
 intro value jq ah s σ H x y v u Q I rx ry h hs;obtain⟨z,i,c,rfl,rfl,hz,he,q⟩:=h;obtain⟨t,rfl⟩:=rx;obtain⟨t',rfl⟩:=ry;obtain⟨j,h1,h2,h3,h4,h5⟩:=KC he;have hl:z.cps.toList.length=z.length:=by simp[Str.length]
 rw[hl] at h1 h4 h5;have hn:=Ce;exact tail_any (typeIs_str s z t) slot_str_getitem.lookup (getItem_str (c:=c) (by
  have e1:decide (i < -(2 ^ 63:Int))=false:=decide_eq_false (by omega);have e2:decide (i>=2 ^ 63)=false:=decide_eq_false (by omega);rw[e1,e2,l9]) (by rw[h1];simpa using h2) ⟨.str ⟨#[c]⟩,H,I.tok _,⟨_,rfl⟩,q⟩) hs
def QA(K:W.Frag):R2:=λx y H Q=>D7 K x y H Q\/D8 K x y H Q\/D9 x y H Q
theorem Y8:xc X (QA X.K):=Y5.or (Y6.or Y7)
theorem Y9(cy:List ag)(n j:Nat)(u:ag):mE (·.setIfInBounds j u) { cls:=.type "list",data:=.seq cy.toArray n }={ cls:=.type "list",data:=.seq (cy.set j u).toArray n }:=by
 simp[mE]
theorem Inv.lst{ah:List (ai×Obj)}{σ:St}{H:Hp}{s:aq}{p:ai}{xs:List V}(I:Inv X ah σ H s)(h:H p=aa (.lst xs)) :
  ∃(cy:List ag) (n:Nat),cj xs cy/\s.heap.get? p=aa { cls:=.type "list",data:=.seq cy.toArray n }/\xs.length<=sizeLine:=by
 obtain⟨z,cy,n,r,e⟩:=I.cI p _ h;exact⟨cy,n,r,e,z⟩
theorem Inv.Ar{ah:List (ai×Obj)}{σ:St}{H:Hp}{s:aq}{p:ai}{xs ys:List V}{cy its':List ag}{n n':Nat}{f:Obj->Obj}(I:Inv X ah σ H s)(h:H p=aa (.lst xs))
  (ho:s.heap.get? p=aa { cls:=.type "list",data:=.seq cy.toArray n }) (hf:f { cls:=.type "list",data:=.seq cy.toArray n }={ cls:=.type "list",data:=.seq its'.toArray n' }) (r:cj ys its') (hz:ys.length<=sizeLine) (t:Nat) :
  Inv X ah σ (upd H p (.lst ys)) { s with heap:=s.heap.update p f,toks:=t }:=by
 have e:(s.heap.update p f).get? p=aa { cls:=.type "list",data:=.seq its'.toArray n' }:=by
  rw[ij f ho (by rw[hf]<;>rfl),hf]
 refine I.write (x:=p) (e:=p) (by rw[h];trivial) (.inl rfl) (λb u hb q=>(j4 _ _ (bM hb)).trans q) ⟨_,e⟩ ?_;exact⟨hz,its',n',r,e⟩
def QB:V->V->V->Hp->(Hp->Prop)->Prop:=λo i v H Q=>∃p xs k j,o=.ref p/\i=.int k/\H p=aa (.lst xs)/\rz xs.length k=aa j/\Q (upd H p (.lst (xs.set j v)))
theorem Y_:DM X QB:=by
 intro ah s σ H o i v ov iv u Q I ro ri rv h;obtain⟨p,xs,k,j,rfl,rfl,hp,hj,q⟩:=h;cases ro;obtain⟨t,rfl⟩:=ri;obtain⟨cy,n,r,ho,hz⟩:=I.lst hp;obtain⟨h1,h2,h3,h4⟩:=Qy hj;have hl:=r.length;have hn:=Ce;have I':Inv X ah σ (upd H p (.lst (xs.set j v))) { s with heap:=s.heap.update p (mE (·.setIfInBounds j u)) }:=
  I.Ar hp ho (Y9 cy n j u) (r.set rv j) (by rw[eI];exact hz) s.toks
 by_cases h0:0<=k
 .have hk:k.toNat=j:=by
   rw[qz h0 h4] at h1;exact bf h1
  exact W.ki_setAt ho h0 (by omega) (by rw[aI,<- hl];exact h4) (by rw[hk];exact⟨_,I',q⟩)
 .have hk:(k+(cy.toArray.size:Int)).toNat=j:=by
   rw[wd (by omega) h3] at h1;rw[aI,<- hl];exact bf h1
  exact W.ki_setBack ho (by omega) (by rw[aI,<- hl];exact h3) (by omega) (by rw[hk];exact⟨_,I',q⟩)
theorem Y'(lo hi:Option Int)(n:Nat):(i_ lo hi ae n).1=((HT.pj n 0 lo:Nat):Int)/\(i_ lo hi ae n).2.1=((HT.pj n n hi:Nat):Int)/\(i_ lo hi ae n).2.2=1:=by
 refine⟨?_,?_,rfl⟩
 .cases lo with
  |none=>simp[i_,HT.pj]
  | some i=>
    simp only[i_,HT.pj,uN,show(1:Int)>0 by decide,if_true];by_cases h:i<0
    .simp only[h,if_true]<;>omega
    .simp only[h,if_false]<;>omega
 .cases hi with
  |none=>simp[i_,HT.pj]
  | some i=>
    simp only[i_,HT.pj,uN,show(1:Int)>0 by decide,if_true];by_cases h:i<0
    .simp only[h,if_true]<;>omega
    .simp only[h,if_false]<;>omega
theorem Za(cy:List ag)(lo hi:Option Int):slicePick cy.toArray lo hi ae=((cy.drop (HT.pj cy.length 0 lo)).take (HT.pj cy.length cy.length hi-HT.pj cy.length 0 lo)).toArray:=by
 obtain⟨h1,h2,h3⟩:=Y' lo hi cy.toArray.size;unfold slicePick;rw[h1,h2,h3];simp only[sliceRange_one,pick_run,aI]<;>rfl
def KD(K:W.Frag):V->Option Int->Option Int->Hp->VK->Prop:=λx lo hi H Q=>∃a xs,x=.ref a/\lH K H a xs/\∀p,H p=ae->Q (.ref p) (upd H p (.lst (u7 xs lo hi)))
theorem Zb:Qx X (KD X.K):=by
 intro ah s σ H x v vl vu lo hi sl Q I rx hs pl pu h;obtain⟨a,xs,rfl,hx,q⟩:=h;cases rx;obtain⟨cy,r,ht,hz⟩:=I.list hx;have cX:=r.length;refine⟨"list",_,Dr.lookup,ht.isList.typeIs,?_⟩;refine wpAny_getItem_list_slice ht.isList hs pl pu .none (by simp) ?_ (by rw[aI]<;>omega);rw[Za,<- cX];refine⟨.ref s.heap.objs.size,_,I.laid (t':=s.toks) (o:=.lst (u7 xs lo hi)) (λb ob q=>ax _ q) (aB _) ?_,rfl,q _ (I.cI.fresh (aB _))⟩;exact⟨bJ (Y3 xs lo hi) hz,_,0,(r.drop (HT.pj xs.length 0 lo)).take (HT.pj xs.length xs.length hi-HT.pj xs.length 0 lo),bg _ rfl⟩
noncomputable def nO:V->Bool
 |.bq=>true
 |.bl _=>true
 |.int _=>true
 |.str _=>true
 |_=>false
noncomputable def qG:V->V->Bool
 |.bq,.bq=>true
 |.bl a,.bl b=>a==b
 |.bl a,.int b=>(if a then 1 else 0)==b
 |.int a,.bl b=>a==(if b then 1 else 0)
 |.int a,.int b=>a==b
 |.str a,.str b=>a==b
 |_,_=>false
theorem QC{A:cp}{s:aq}{y x:V}{u v:ag}(ry:RelV y u)(rx:RelV x v)(fy:nO y=true)(fx:nO x=true):Gq A s u v (qG y x):=by
 cases y with
 | bq=>
   cases ry;cases x with
   |bq=>cases rx;exact sM _
   |bl b=>cases rx;exact SeqAt.EqAt.none_bool b
   |int b=>obtain⟨t,rfl⟩:=rx;exact pV b t
   |str b=>obtain⟨t,rfl⟩:=rx;exact pW b t
   |_=>exact absurd (show false=true from fx) aX
 | bl a=>
   cases ry;cases x with
   |bq=>cases rx;exact SeqAt.EqAt.bool_none a
   |bl b=>cases rx;exact SeqAt.EqAt.bool_bool a b
   |int b=>obtain⟨t,rfl⟩:=rx;exact SeqAt.EqAt.bool_int a b t
   |str b=>obtain⟨t,rfl⟩:=rx;exact SeqAt.EqAt.bool_str a b t
   |_=>exact absurd (show false=true from fx) aX
 | int a=>
   obtain⟨t',rfl⟩:=ry;cases x with
   |bq=>cases rx;exact pX a t'
   |bl b=>cases rx;exact SeqAt.EqAt.int_bool a t' b
   |int b=>obtain⟨t,rfl⟩:=rx;exact SeqAt.EqAt.int_int a t' b t
   |str b=>obtain⟨t,rfl⟩:=rx;exact qu a t' b t
   |_=>exact absurd (show false=true from fx) aX
 | str a=>
   obtain⟨t',rfl⟩:=ry;cases x with
   |bq=>cases rx;exact pY a t'
   |bl b=>cases rx;exact SeqAt.EqAt.str_bool a t' b
   |int b=>obtain⟨t,rfl⟩:=rx;exact qv a t' b t
   |str b=>obtain⟨t,rfl⟩:=rx;exact SeqAt.EqAt.str_str a t' b t
   |_=>exact absurd (show false=true from fx) aX
 |_=>exact absurd (show false=true from fy) aX
noncomputable def wF(x:V)(u:ag):Bool:=match u with
 |.none=>qG .bq x
 |.bool b=>qG (.bl b) x
 |.int i _=>qG (.int i) x
 |.str z _=>qG (.str z) x
 |_=>false
theorem D_{x y:V}{u:ag}(r:RelV y u)(f:nO y=true):wF x u=qG y x:=by
 cases y with
 |bq=>cases r;rfl
 |bl b=>cases r;rfl
 |int i=>obtain⟨t,rfl⟩:=r;rfl
 |str z=>obtain⟨t,rfl⟩:=r;rfl
 |_=>exact absurd (show false=true from f) aX
theorem KG{x:V}:∀{xs:List V} {us:List ag},cj xs us->xs.all nO=true->us.any (wF x)=xs.any λy=>qG y x
 |_,_,.nil,_=>rfl
 | y::xs,u::us,.cons r t,f=>by
   rw[qA,cG] at f;rw[fU,fU,D_ r f.1,KG t f.2]
theorem KH{A:cp}{s:aq}{x:V}{v:ag}(rx:RelV x v)(fx:nO x=true):∀{xs:List V} {us:List ag},cj xs us->xs.all nO=true->∀u∈us,Gq A s u v (wF x u)
 |_,_,.nil,_=>λu hu=>by cases hu
 | y::xs,u::us,.cons r t,f=>λu' hu=>by
   rw[qA,cG] at f;rcases aH.mp hu with rfl | hu
   .rw[D_ r f.1];exact QC r rx f.1 fx
   .exact KH rx fx t f.2 u' hu
noncomputable def D'(x:V)(xs:List V):Bool:=xs.any λy=>qG y x
def QD(K:W.Frag)(Ea:Bool):R2:=λx y H Q=>∃p xs,y=.ref p/\(lH K H p xs\/tF K H p xs)/\nO x=true/\xs.all nO=true/\Q (.bl (if Ea then !D' x xs else D' x xs)) H
theorem Zc:kJ X (dg .In) (QD X.K false):=by
 intro ah s σ H x y v u Q I rx ry h;obtain⟨p,xs,rfl,hq,fx,fs,q⟩:=h;cases ry;rcases hq with hq | hq
 .obtain⟨cy,r,pl,hz⟩:=I.list hq
  refine SeqAt.in_listAt (wF x) pl.isList (λw hw=>KH rx fx r fs w (by simpa using hw)) ⟨.bl _,H,I,rfl,?_⟩;rw[show cy.toArray.any (wF x)=cy.any (wF x) by simp,KG r fs];exact q
 .obtain⟨cy,r,pl,hz⟩:=I.tuple hq
  refine SeqAt.in_tupleAt (wF x) pl (λw hw=>KH rx fx r fs w (by simpa using hw)) ⟨.bl _,H,I,rfl,?_⟩;rw[show cy.toArray.any (wF x)=cy.any (wF x) by simp,KG r fs];exact q
theorem rN.or{f:ag}{r r':List V->Hp->VK->Prop}(h:rN X f r)(h':rN X f r'):rN X f (λxs H Q=>r xs H Q\/r' xs H Q):=by
 intro ah s σ H xs us Q I rs q;rcases q with q | q
 .exact h ah s σ H xs us Q I rs q
 .exact h' ah s σ H xs us Q I rs q
theorem KI:rN X (.type "list") (λxs H Q=>∃p ys,xs=[.ref p]/\(lH X.K H p ys\/tF X.K H p ys)/\∀l,H l=ae->Q (.ref l) (upd H l (.lst ys))):=by
 intro ah s σ H xs us Q I r h;obtain⟨p,ys,rfl,hq,q⟩:=h;obtain⟨u,rfl,rx⟩:=Al r;cases rx;have fin:∀(cy:List ag),cj ys cy->ys.length<=sizeLine->∀(h':bR) (c':Nat),(∀b o',s.heap.get? b=aa o'->h'.get? b=aa o') ->
   h'.get? s.heap.objs.size=aa { cls:=.type "list",dict:=ae,data:=.seq cy.toArray c',slots:=#[] }->EP X ah σ Q (.ref s.heap.objs.size) { s with heap:=h' }:=λcy r' hz h' c' kp e=>
  ⟨.ref s.heap.objs.size,_,I.laid (t':=s.toks) kp (aB _) (show ku X.prog X.w _ h' _ (.lst ys) from⟨hz,cy,c',r',e⟩),rfl,q _ (I.cI.fresh (aB _))⟩
 rcases hq with hq | hq
 .obtain⟨cy,r',pl,hz⟩:=I.list hq
  have cX:=r'.length;obtain⟨o,ho,hc,n,hd⟩:=pl.isList;exact call_list_seq p (.inl rfl) ho hc hd (λh' c' kp e=>fin cy r' hz h' c' kp e) (by simp only[aI]<;>omega)
 .obtain⟨cy,r',pl,hz⟩:=I.tuple hq
  have cX:=r'.length;obtain⟨o,ho,hc,n,hd⟩:=pl;exact call_list_seq p (.inr rfl) ho hc hd (λh' c' kp e=>fin cy r' hz h' c' kp e) (by simp only[aI]<;>omega)
theorem Zd:rN X (.type "tuple") (λxs H Q=>∃p ys,xs=[.ref p]/\((lH X.K H p ys/\∀l,H l=ae->Q (.ref l) (upd H l (.tup ys)))\/(tF X.K H p ys/\Q (.ref p) H))):=by
 intro ah s σ H xs us Q I r h;obtain⟨p,ys,rfl,h⟩:=h;obtain⟨u,rfl,rx⟩:=Al r;cases rx;rcases h with⟨hq,q⟩ | ⟨hq,q⟩
 .obtain⟨cy,r',pl,hz⟩:=I.list hq
  have cX:=r'.length;refine call_tuple_list pl.isList (λh' kp=>?_) (by simp only[aI]<;>omega);have I1:Inv X ah σ H { s with heap:=h' }:=I.kept (t':=s.toks) kp;have I2:Inv X ah σ (upd H h'.objs.size (.tup ys)) { s with heap:=h'.push { cls:=.type "tuple",data:=.seq cy.toArray } }:=
   I1.laid (t':=s.toks) (λb o e=>ax _ e) (aB _) (show ku X.prog X.w _ _ _ (.tup ys) from⟨hz,cy,r',IsTup.new _ _⟩)
  exact⟨.ref h'.objs.size,_,I2,rfl,q _ (I1.cI.fresh (aB _))⟩
 .obtain⟨cy,r',pl,hz⟩:=I.tuple hq
  exact call_tuple_same pl ⟨.ref p,H,I,rfl,q⟩
def As(K:W.Frag)(T:String)(x:V)(H:Hp):Prop:=match x with
 |.str _=>T = "str"
 |.int _=>T = "int"
 |.ref p=>(T = "list" /\ ∃xs,lH K H p xs)\/(T = "tuple" /\ ∃o,K.lookup p=aa o/\o.cls=.type "tuple" /\ o.dict=ae) \/
  (T = "dict" /\ ((∃kvs,H p=aa (.dK kvs))\/∃kvs,H p=aa (.dT kvs)))\/(T = "set" /\ ∃S n,H p=aa (.set S n))
 |_=>False
theorem QE{ah:List (ai×Obj)}{σ:St}{H:Hp}{s:aq}{T:String}{x:V}{v:ag}(I:Inv X ah σ H s)(r:RelV x v)(ty:As X.K T x H) :
  s.TypeIs v T/\∀a,v=.ref a->∃ob,s.heap.get? a=aa ob/\ob.dict=ae:=by
 cases x with
 | str z=>
   obtain⟨t,rfl⟩:=r;cases (show T = "str" from ty);exact⟨typeIs_str s z t,λ_ e=>nomatch e⟩
 | int i=>
   obtain⟨t,rfl⟩:=r;cases (show T = "int" from ty);exact⟨typeIs_int s i t,λ_ e=>nomatch e⟩
 | ref p=>
   cases r;rcases ty with⟨rfl,xs,hq⟩ | ⟨rfl,o,hk,hc,hd⟩ | ⟨rfl,hk⟩ | ⟨rfl,S,n,hk⟩
   .obtain⟨cy,_,pl,_⟩:=I.list hq
    refine⟨pl.isList.typeIs,λa e=>?_⟩;cases e;obtain⟨o,n,e,c,hd,_⟩:=pl;exact⟨o,e,hd⟩
   .refine⟨⟨o,I.jX p o hk,hc⟩,λa e=>?_⟩
    cases e;exact⟨o,I.jX _ o hk,hd⟩
   .have z:∃o,s.heap.get? p=aa o/\o.ExactDict:=by
     rcases hk with⟨kvs,hk⟩ | ⟨kvs,hk⟩
     .obtain⟨_,_,_,_,o,_,_,e,ex,_⟩:=I.cI p _ hk
      exact⟨o,e,ex⟩
     .obtain⟨_,_,_,_,o,_,_,e,ex,_⟩:=I.cI p _ hk
      exact⟨o,e,ex⟩
    obtain⟨o,e,ex⟩:=z;refine⟨⟨o,e,ex.1⟩,λa e2=>?_⟩;cases e2;exact⟨o,e,ex.2.1⟩
   .obtain⟨o,_,_,_,e,ex,_⟩:=I.cI p _ hk
    refine⟨⟨o,e,ex.1⟩,λa e2=>?_⟩;cases e2;exact⟨o,e,ex.2.1⟩
 |_=>exact dE ty
def KJ(K:W.Frag)(T:String)(r:V->List V->Hp->VK->Prop)(to:TE):TE:=fun σ H Q=>to σ H λx H1=>As K T x H1/\r x [] H1 Q
def Ze(K:W.Frag)(T:String)(r:V->List V->Hp->VK->Prop)(to:TE)(t:TA):TE:=fun σ H Q=>to σ H λx H1=>As K T x H1/\t σ H1 λxs H2=>r x xs H2 Q
variable {o e:bx}{es:List bx}{to:TE}{t:TA}{name:Str}{cC dX:Pos}{T id:String}{r:V->List V->Hp->VK->Prop}
theorem Zf(pa:sN T)(slot:Slot T name id)(Au:typeOf (.builtin id)=pure (.type "method_descriptor"))(hm:Aq X id r)(ho:PE X o to)
  (fB:cm o name X.env (eval o X.env)=eval o X.env:=by rfl) (fC:(cC.endLine==dX.line)=true:=by rfl):PE X (.Call (.Attribute o name cC) [] [] dX) (KJ X.K T r to):=by
 intro ah s σ H Q I h;refine uO fB fC (dF (ho ah s σ H _ I h) λv s1 cN=>?_);obtain⟨x,H1,I1,r1,ty,q1⟩:=cN;obtain⟨h1,h2⟩:=QE I1 r1 ty;exact⟨T,id,pa,slot,Au,h1,h2,gV rfl (tj (hm ah s1 σ H1 x [] v [] Q I1 r1 .nil q1))⟩
theorem Zg(pa:sN T)(slot:Slot T name id)(Au:typeOf (.builtin id)=pure (.type "method_descriptor"))(hm:Aq X id r)(ho:PE X o to)(ha:PA X (e::es) t)
  (fB:cm o name X.env (eval o X.env)=eval o X.env:=by rfl)
  (mw:((bL dX (av (e::es) X.env)).all (λx=>!x.1)&&(eG dX (cQ [] X.env)).all (λx=>x.1.isSome)
   && decide ((e::es).length+([]:List gs).length+(if([]:List gs).isEmpty then 0 else 1)<30))=true:=by rfl)
  (fC:(cC.endLine==dX.line)=true:=by rfl) (hs:av (e::es) X.env=(false,eval e X.env)::av es X.env:=by rfl) (rS:(bL dX (av es X.env)).any (·.1)=false:=by rfl) :
  PE X (.Call (.Attribute o name cC) (e::es) [] dX) (Ze X.K T r to t):=by
 intro ah s σ H Q I h;refine wpAny_Call_method_late fB mw fC rfl (dF (ho ah s σ H _ I h) λv s1 cN=>?_);obtain⟨x,H1,I1,r1,ty,q1⟩:=cN;obtain⟨h1,h2⟩:=QE I1 r1 ty;refine⟨T,id,pa,slot,Au,h1,h2,?_⟩;have hA:=ha dX ah s1 σ H1 _ I1 q1;rw[hs] at hA ⊢;refine gV (by show(false || (bL dX (av es X.env)).any (·.1))=false;rw[rS]<;>rfl) (kI ?_);exact dF hA λus s2 ⟨vs,H2,I2,r2,q2⟩=>hm ah s2 σ H2 x vs v us Q I2 r1 r2 q2
end
def KL(X:Cx)(id:String)(r:V->List V->Hp->VK->Prop):Prop:=
 ∀ (ah:List (ai×Obj)) (s:aq) (σ:St) (H:Hp) (x:V) (xs:List V) (v:ag) (us:List ag) (Q:VK),Inv X ah σ H s->RelV x v->cj xs us->r x xs H Q ->
   wpAny (aN X.prog X.w) X.A (call (.builtin id) (v::us)) (EP X ah σ Q) X.xe s
theorem cj.one{x:V}{us:List ag}(h:cj [x] us):∃u,us=[u]/\RelV x u:=by
 cases h with
 |cons r t=>cases t;exact⟨_,rfl,r⟩
theorem cj.zero:∀{us:List ag},cj [] us->us=[]
 |_,.nil=>rfl
theorem cj.eraseIdx:∀{xs:List V} {us:List ag} (i:Nat),cj xs us->cj (xs.eraseIdx i) (us.eraseIdx i)
 |_,_,_,.nil=>.nil
 |_,_,0,.cons _ t=>t
 |_,_,i+1,.cons r t=>.cons r (cj.eraseIdx i t)
theorem KN{α:Type}:∀(l:List α) (i:Nat),(l.eraseIdx i).length<=l.length
 |[],_=>aB _
 |_::_,0=>jA _
 |_::r,i+1=>Nat.succ_le_succ (KN r i)
section
variable {X:Cx}{ah:List (ai×Obj)}{σ:St}{H:Hp}{s:aq}{l b:ai}{xs ys zs:List V}
theorem Inv.u9{cy its':List ag}{n:Nat}{f:Array ag->Array ag}{t':Nat}(I:Inv X ah σ H s)(hH:H l=aa (.lst xs))
  (e:s.heap.get? l=aa { cls:=.type "list",data:=.seq cy.toArray n }) (hf:f cy.toArray=its'.toArray) (hv:cj ys its') (hz:ys.length<=sizeLine) :
  Inv X ah σ (upd H l (.lst ys)) { s with heap:=s.heap.update l (mE f),toks:=t' }:=by
 have q:=PySem.IsL.update e f;rw[hf] at q;refine I.write (x:=l) (e:=l) (by rw[hH];exact trivial) (.inl rfl) (λb' u hb hu=>(j4 s.heap (mE f) (bM hb)).trans hu) ⟨_,q⟩ ?_;exact⟨hz,its',_,hv,q⟩
theorem Inv.KO{cy:List ag}{t':Nat}(I:Inv X ah σ H s)(hv:cj ys cy)(hz:ys.length<=sizeLine) :
  Inv X ah σ (upd H s.heap.objs.size (.lst ys)) { s with heap:=s.heap.push { cls:=.type "list",data:=.seq cy.toArray },toks:=t' }:=
 I.laid (λ_ _ q=>ax _ q) (aB _) ⟨hz,cy,0,hv,bg _ rfl⟩
theorem Inv.fresh(I:Inv X ah σ H s):H s.heap.objs.size=ae:=I.cI.fresh (aB _)
theorem Inv.u_(I:Inv X ah σ H s)(hH:H l=aa (.lst xs)):xs.length<=sizeLine/\∃(cy:List ag) (n:Nat),cj xs cy/\xs.length=cy.length/\s.heap.get? l=aa { cls:=.type "list",data:=.seq cy.toArray n }:=by
 obtain⟨z,cy,n,r,e⟩:=I.cI l _ hH;exact⟨z,cy,n,r,r.length,e⟩
theorem Zh{n:Nat}(h:n<=sizeLine):iI n=false:=by
 unfold iI;exact decide_eq_false (by omega)
end
section
variable {X:Cx}
def QG:V->List V->Hp->VK->Prop:=λx vs H Q=>∃l xs y,x=.ref l/\vs=[y]/\H l=aa (.lst xs)/\xs.length<sizeLine/\Q .bq (upd H l (.lst (xs++[y])))
theorem KP:KL X "list.append" QG:=by
 intro ah s σ H x vs v us Q I rx rv h;obtain⟨l,xs,y,rfl,rfl,hH,hz,q⟩:=h;cases rx;obtain⟨u,rfl,ru⟩:=rv.one;obtain⟨z,cy,n,r,hl,e⟩:=I.u_ hH;refine oj F.slot_list_append ⟨_,e,rfl⟩ F.entry_list_append (F.args_list_append_2 _ _) (PySem.list_append l cy.toArray n u (by rw[aI];omega)) ⟨e,?_⟩;refine⟨.bq,_,I.u9 (its':=cy++[u]) hH e (by simp) (r.append (.cons ru .nil)) ?_,rfl,q⟩;rw[aM,aV];omega
def QH:V->List V->Hp->VK->Prop:=λx vs H Q=>∃l xs i k y,x=.ref l/\vs=[.int i]/\H l=aa (.lst xs) /\ -(2 ^ 63)<=i/\i<2 ^ 63/\Gp i xs.length=aa k/\xs[k]?=aa y/\Q y (upd H l (.lst (xs.eraseIdx k)))
theorem Zi:KL X "list.pop" QH:=by
 intro ah s σ H x vs v us Q I rx rv h;obtain⟨l,xs,i,k,y,rfl,rfl,hH,h1,h2,hk,hy,q⟩:=h;cases rx;obtain⟨u,rfl,ru⟩:=rv.one;obtain⟨t,rfl⟩:=ru;obtain⟨z,cy,n,r,hl,e⟩:=I.u_ hH;obtain⟨w,hw,rR⟩:=r.get hy;refine oj F.slot_list_pop ⟨_,e,rfl⟩ F.entry_list_pop (F.args_list_pop_2 _ _)
  (MeetsSeq.list_pop_at l cy.toArray n i t k w (fitsIndex_both h1 h2) (by rw[aI,<- hl];exact hk) (by rw[<- ko];exact hw) (by rw[aI];omega)) ⟨e,?_⟩
 refine⟨y,_,I.u9 (its':=cy.eraseIdx k) hH e ?_ (r.eraseIdx k) ?_,rR,q⟩
 .show cy.toArray.eraseIdxIfInBounds k=(cy.eraseIdx k).toArray
  rw[m9]
 .have:=KN xs k
  omega
def QI:V->List V->Hp->VK->Prop:=λx vs H Q=>∃l xs,x=.ref l/\vs=[]/\H l=aa (.lst xs)/\Q .bq (upd H l (.lst []))
theorem Zj:KL X "list.clear" QI:=by
 intro ah s σ H x vs v us Q I rx rv h;obtain⟨l,xs,rfl,rfl,hH,q⟩:=h;cases rx;have Zk:=rv.zero;subst Zk;obtain⟨z,cy,n,r,hl,e⟩:=I.u_ hH;refine oj F.slot_list_clear ⟨_,e,rfl⟩ F.entry_list_clear (F.args_list_clear_1 _) (AutoSeq1.list_clear_list_0 l cy.toArray n (by rw[aI];omega)) ⟨e,?_⟩;exact⟨.bq,_,I.u9 (its':=[]) (ys:=[]) hH e rfl .nil (dJ _),rfl,q⟩
end
end L2
namespace Att
open PySem PySem.W PySem.Calls PyProof.Rows
theorem Zl{P:Params}{h:bR}:∀(ns:List Int) (vs:List ag),WellAll P h vs (ns.map JL)->wg vs ns:=by
 intro ns
 induction ns with
 | nil=>
   intro vs w;rw[gr] at w;cases w;exact .nil
 | cons n ns ih=>
   intro vs w;rw[ay] at w;cases w with
   | cons a b=>
     cases a;exact .cons _ _ (ih _ b)
theorem Zm{l:OpenLaw}{n:Nat}(hn:l.most=aa n){P:Params}{h:bR}{args:List WData}{Av:List ag}
  (xf:l.row.toRowW.claim.pre args=true) (KQ:WellAll P h Av args) :
  ∃a vs ns,Av=[aS a]/\args=[WData.list (ns.map JL)]/\h.get? a=aa { cls:=.type "list",data:=.seq vs.toArray }/\wg vs ns/\ns.length<=n:=by
 have Eb:WShape.hasAll [] args [.list .int]=true:=(pre_splitW xf).1;have hc:l.pre.holds [] { args:=args }=true:=(pre_splitW xf).2;obtain⟨d,r,rfl,h1,h2⟩:=hasAllW_cons Eb;obtain rfl:=hasAllW_nil h2;obtain⟨xs,rfl,h3⟩:=hasW_list h1;obtain⟨ns,rfl⟩:=items_int h3;have cX:ns.length<=n:=by
  unfold OpenLaw.pre at hc;have h4:(WTm.not (.lt (.lit (.int (n:Int))) (.len (.arg 0)))).holds [] { args:=[.list (ns.map .int)] }=true:=by
   have h4:=(holds_andW hc).1;rw[hn] at h4;exact h4
  have h5:=condW_of h4 (w_not (w_lt w_lit (w_len_list (w_arg rfl))));rw[ba] at h5;refine Nat.le_of_not_lt λq=>?_;have q':(n:Int)<((ns.length:Nat):Int):=by omega
  first
   |(rw[decide_eq_true q'] at h5;exact absurd h5 (by decide))
   |(simp at h5;omega)
 cases KQ with
 | cons w1 w2=>
   cases w2;cases w1 with
   |list ho hall=>exact⟨_,_,ns,rfl,rfl,ho,Zl ns _ hall,cX⟩
theorem Zn(l:OpenLaw)(args:List WData):l.row.toRowW.claim.post args (.bool true) args=true:=
 postW_of (r:=l.row.toRowW) (X:=(true==true))
  (show Ds [] (.bool true) .bool=true by first | rfl | decide | simp[Ds,WShape.arms,WShape.armsAll])
  (show(WTm.eq .res (.lit (.bool true))).value [] { args:=args,res:=aa (.bool true),after:=args }=aa (.bool (true==true)) from w_eq_bool (w_res rfl) w_lit) rfl
theorem qH{l:OpenLaw}{n:Nat}{q:aU}{o4:List Str}{XP:(Str->Option ag)->bR->Prop}{YP:bz->bR->Prop}{d:DefRec}
  (hn:l.most=aa n) (Ec:d.params.defaults=[])
  (call:∀(w:bz) (s₀ s₁:aq) (mg mb:Str->Option ag) (fa:ai) (o:Obj) (pm cd nq:ag) (a:ai) (vs:List ag) (ns:List Int),
   Ground q o4 [] XP w s₀ mg mb s₁.heap->YP w s₁.heap ->
   s₁.heap.get? fa=aa o->o.data=.func (docDef d.name d.params d.body d.scope pm cd nq)->s₁.heap.CodeRec cd d.name->mg d.name=aa (.ref fa) ->
   s₁.heap.get? a=aa { cls:=.type "list",data:=.seq vs.toArray }->wg vs ns->ns.length<=n->s₁.gens=#[] ->
   codeAny (aN l.prog w) oZ (.call (.ref fa) ⟨[.ref a],[]⟩) (λr s'=>r=.ok (.ret (.bool true))/\OldK s₁.heap s'.heap/\s'.os=s₁.os/\jZ s'.gens) s₁) :
  WalkO q o4 XP YP l.row.toRowW d [] (λf vs=>uj f vs):=by
 intro w s₀ s₁ mg mb G Y fa o pm cd nq dV kV ho hd tE hD xg hg args Av as xf Zo hrd KQ Zp;obtain rfl:dV=.none:=Dflts.none hD Ec;obtain rfl:kV=.none:=Dflts.noKw hD;obtain⟨a,vs,ns,rfl,rfl,Aw,va,cX⟩:=Zm hn xf KQ;refine enter_call (jv (call w s₀ s₁ mg mb fa o pm cd nq a vs ns G Y ho (fd_plain hd) tE xg Aw va cX hg) λr s' hq=>?_);obtain⟨rfl,h2,h3,h4⟩:=hq;exact⟨.inl ⟨.bool true,.bool true,[],rfl,λ_=>rfl,.bool true,Zn l _,λ_=>⟨Gr,λ_ hm=>(nomatch hm)⟩⟩,h2,h3,h4⟩
end Att
namespace L2
open PySem PySem.Spec PyProof.Rows
theorem QJ:∀{vs:List ag} {ns:List Int},wg vs ns->cj (ns.map V.int) vs
 |_,_,.nil=>.nil
 |_,_,.cons n t h=>.cons ⟨t,rfl⟩ (QJ h)
def Ax(H:Hp):Prop:=∀b,H b=ae\/∃o xs,H b=aa (.eU o (.lst xs))
theorem Zq {P:aU} {w:bz} {K:W.Frag} {mg mb:Str->Option ag} {CX:sT} {k:Nat} {fa a:ai} {fd:bA} {x:Str} {sp:Sp} {s₁:aq} {vs:List ag} {ns:List Int}
  (KX:K.In s₁.heap) (QK:s₁.heap.Ns bu mg) (hb:s₁.heap.Ns BV mb) (Zr:∀x:Str,x ≠ "__name__" -> mb x=dA x) (KR:s₁.heap.NoLimit) (hg:s₁.gens=#[])
  (ha:s₁.heap.get? a=aa { cls:=.type "list",data:=.seq vs.toArray }) (hi:wg vs ns) (hl:ns.length<=sizeLine) (hr:eL k oZ)
  (F:∀base:bR,K.In base->base.Ns bu mg->bH P w K mg base CX k fa fd [x] sp) (Ed:∀(s:aq) (u:ag),rJ s fd ⟨[u],[]⟩ [(x,u)])
  (qe:∀H:Hp,Ax H->lH K H a (ns.map V.int)->sp [.ref a] H (λv _=>v=.bl true) λ_ _ _=>False)
  (KS:∀H e s',CX [] H s₁ (λ_ _ _=>False) e s'->False) :
  codeAny (aN P w) oZ (.call (.ref fa) ⟨[.ref a],[]⟩) (λr s'=>r=.ok (.ret (.bool true))/\OldK s₁.heap s'.heap/\s'.os=s₁.os/\jZ s'.gens) s₁:=by
 have rv := QJ hi;have KU:=hi.length;have core:∀H:Hp,Ax H->lH K H a (ns.map V.int)->iZ P w H s₁.heap->(∀b,H b≠ae->b=a)->(H a≠ae->K.lookup a=ae) ->
   codeAny (aN P w) oZ (.call (.ref fa) ⟨[.ref a],[]⟩) (λr s'=>r=.ok (.ret (.bool true))/\OldK s₁.heap s'.heap/\s'.os=s₁.os/\jZ s'.gens) s₁:=by
  intro H hO hS cI hA hK;have sU:∀{b:ai} {o:Obj},s₁.heap.get? b=aa o->H b=ae->(pe s₁.heap H).get? b=aa o:=λe n=>Xe e n;have D2:∀{b:ai} {o:Obj} {es:Array uP} {ep:Nat},s₁.heap.get? b=aa o->o.data=.dict es ep->H b=ae:=λ{b o es ep} e d=>by
   cases q:H b with
   |none=>rfl
   | some u=>
     have e':b=a:=hA b (by rw[q];simp);subst e';rw[ha] at e;cases e;have d':Data.seq vs.toArray _=Data.dict es ep:=d;cases d'
  have Hd:∀{b:ai} {m:Str->Option ag},s₁.heap.Ns b m->(pe s₁.heap H).Ns b m:=λ{b m} ⟨o,es,ep,e,d,r⟩=>⟨o,es,ep,sU e (D2 e d),d,r⟩;have QL:K.In (pe s₁.heap H):=λb o e=>sU (KX b o e) (by
   cases q:H b with
   |none=>rfl
   | some u=>
     have e':b=a:=hA b (by rw[q];simp);subst e';rw[hK (by rw[q];simp)] at e;cases e)
  have hM:Mod K mg (pe s₁.heap H):=⟨QL,Hd QK,⟨mb,Hd hb,Zr⟩,let ⟨mc,h1,h2⟩:=KR;⟨mc,Hd h1,h2⟩⟩;have e0:rP P w K mg (pe s₁.heap H) oZ [] s₁ H:=⟨rfl,hM,λb o e=>Xf e,hX (Xd _ _),trivial,λb hb=>absurd (show b∈([]:List ai) from hb) (by simp),cI,.of_eq hg⟩;refine jv ((F _ QL (Hd QK)).run oZ [] s₁ H ⟨[.ref a],[]⟩ [.ref a] [.ref a] _ _ hr e0 (Ed s₁ (.ref a)) (.cons rfl .nil) (qe H hO hS)) λr s' h=>?_;cases r with
  |error e=>exact(KS H e s' h).elim
  | ok fl=>
    cases fl with
    |next=>exact dE h
    |brk=>exact dE h
    |cont=>exact dE h
    | ret u=>
      obtain⟨v,H',os,bare,un,KW,r',q⟩:=h;have q':v=.bl true:=q;subst q';obtain rfl:u=d_ true:=r';refine⟨rfl,OldK.of_keep λb o e=>?_,os,bare⟩;cases q:H b with
      |none=>exact un.keep b o e q (by intro z;exact absurd (show b∈([]:List ai) from z) (by simp)) (by simp)
      | some u=>
        rcases hO b with z | ⟨ob,xs,z⟩
        .rw[q] at z;cases z
        .have z2:=un.frzs b ob _ z
         obtain⟨e1,_⟩:=cI b _ z;obtain⟨e2,_⟩:=KW b _ z2;rw[e] at e1;cases e1;exact e2
 cases hk:K.lookup a with
 | some o=>
   have e:=KX a o hk;rw[ha] at e;cases e;refine core (λ_=>ae) (λ_=>.inl rfl) (.inr ⟨_,vs.toArray,_,hk,rfl,rfl,rfl,by rw[aI,KU];exact hl,by simpa using rv⟩) (λb u z=>by have z':(ae:Option HO)=aa u:=z;cases z') (λb z=>absurd rfl z) λz=>absurd rfl z
 | none=>
   refine core (λb=>if b=a then aa (.eU { cls:=.type "list",data:=.seq vs.toArray } (.lst (ns.map V.int))) else ae) (λb=>?_) (.inl (.inr ⟨{ cls:=.type "list",data:=.seq vs.toArray },if_pos rfl⟩)) (λb u z=>?_) (λb z=>?_) λ_=>hk
   .by_cases hb:b=a
    .exact .inr ⟨_,_,if_pos hb⟩
    .exact .inl (if_neg hb)
   .by_cases hb:b=a
    .have z':=(if_pos hb).symm.trans z
     cases z';subst hb;exact⟨ha,by rw[ba];exact hl,vs,_,rv,ha⟩
    .have z':=(if_neg hb).symm.trans z
     cases z'
   .by_cases hb:b=a
    .exact hb
    .exact absurd (if_neg hb) z
theorem xh{l:W.OpenLaw}{n k:Nat}{q:aU}{o4:List Str}{XP:(Str->Option ag)->bR->Prop}{YP:bz->bR->Prop}{d:DefRec}{K:Params->W.Frag}{CX:bz->sT}{sp:bz->Sp}{x:Str}
  (hn:l.most=aa n) (u4:n<=sizeLine) (Ec:d.params.defaults=[]) (hr:eL k oZ)
  (hY:∀(w:bz) (h:bR),YP w h->(K w.params).In h)
  (F : ∀(w:bz) (mg:Str->Option ag) (fa:ai) (h:bR),(K w.params).In h->h.Ns bu mg->mg d.name=aa (.ref fa) ->
   ∃ fd:bA,(∀(s:aq) (u:ag),rJ s fd ⟨[u],[]⟩ [(x,u)]) /\
     ∀base:bR,(K w.params).In base->base.Ns bu mg->bH l.prog w (K w.params) mg base (CX w) k fa fd [x] (sp w))
  (qe:∀(w:bz) (H:Hp) (a:ai) (ns:List Int),ns.length<=n->Ax H->lH (K w.params) H a (ns.map V.int)->sp w [.ref a] H (λv _=>v=.bl true) λ_ _ _=>False)
  (KS:∀(w:bz) (H:Hp) (s:aq) (e:ag) (s':aq),CX w [] H s (λ_ _ _=>False) e s'->False) :
  W.WalkO q o4 XP YP l.row.toRowW d [] (λf vs=>uj f vs):=by
 refine Att.qH hn Ec λw s₀ s₁ mg mb fa o pm cd nq a vs ns G Y ho hd tE xg Aw va cX hg=>?_;have KX:=hY w _ Y;obtain⟨fd,hb,hF⟩:=F w mg fa _ KX G.T.g xg;exact Zq KX G.T.g G.T.b G.T.builtins G.T.nolimit hg Aw va (bJ cX u4) hr hF hb (λH hO hS=>qe w H a ns cX hO hS) λH e s'=>KS w H s₁ e s'
noncomputable def nP(s:bS)(j:Nat):bS:=match s with
 |.ClassDef _ _ _ body _ _ _ _ _ _ _=>body.getD j (.Pass ⟨0,0,0,0⟩)
 |_=>.Pass ⟨0,0,0,0⟩
noncomputable def qI(s:bS):Arguments:=match s with
 |.FunctionDef _ a _ _ _ _ _ _ _ _=>a
 |_=>{ posonlyargs:=[],args:=[],vararg:=ae,kwonlyargs:=[],kw_defaults:=[],kwarg:=ae,defaults:=[] }
noncomputable def ot(s:bS):List bS:=match s with
 |.FunctionDef _ _ b _ _ _ _ _ _ _=>b
 |_=>[]
noncomputable def d8(s:bS):iG:=match s with
 |.FunctionDef _ _ _ _ _ _ sc _ _ _=>sc
 |_=>{ kind:=.function,names:=[],isGenerator:=false,isCoroutine:=false }
abbrev Ee:sT:=λ_ _ _ _ _ _=>False
abbrev E0:XK:=λ_ _ _=>False
structure Ef(K:W.Frag)(x qual:Str)(st:bS)(f:ai)(fd:bA):Prop where
 ex:∃(oc:ag) (od:Option ai) (kV nq pm:ag) (an:Option ai) (hU ct:ag) (wD:Array (Option ag)),
  fd=W.fnOf x qual (qI st) (ot st) (d8 st) .none kV nq pm an hU ct/\K.lookup f=aa ⟨oc,od,.func fd,wD⟩/\W.codeIn K hU qual=true
 kp:W.keepIn K (.ref f)=true
section
variable {P:aU}{w:bz}{K:W.Frag}{mg:Str->Option ag}{base:bR}
theorem Ef.binds{x qual:Str}{st:bS}{f:ai}{fd:bA}{ps:List Str}(F:Ef K x qual st f fd)
  (h:∀(kV nq pm:ag) (an:Option ai) (hU ct:ag) (us:List ag),us.length=ps.length->yH (W.fnOf x qual (qI st) (ot st) (d8 st) .none kV nq pm an hU ct) ⟨us,[]⟩=pure (ps.zip us)):lI K fd ps []:=by
 obtain⟨oc,od,kV,nq,pm,an,hU,ct,wD,rfl,lk,tE⟩:=F.ex;exact .all (h kV nq pm an hU ct)
theorem He{x qual:Str}{st:bS}{f:ai}{oc:ag}{od an:Option ai}{wD:Array (Option ag)}{kV nq pm hU ct:ag}(l:K.lookup f=aa ⟨oc,od,.func (W.fnOf x qual (qI st) (ot st) (d8 st) .none kV nq pm an hU ct),wD⟩)
 (c:W.codeIn K hU qual=true) (k:W.keepIn K (.ref f)=true):Ef K x qual st f (W.fnOf x qual (qI st) (ot st) (d8 st) .none kV nq pm an hU ct):=⟨⟨oc,od,kV,nq,pm,an,hU,ct,wD,rfl,l,c⟩,k⟩
end
theorem Zs{A:cp}{k:Nat}(hr:eL k A):A.units+1<gc:=wj (Nat.add_le_add_left (by decide:1<=64) _) hr.units
theorem QM{n:Nat}(h:n<=1000):n<sizeLine:=wj h (by decide)
section
variable {X:Cx}
theorem pv(i:Nat){x:Str}{pos:Pos}(hN:X.N[i]?=aa x:=by rfl)(hv:B' X.env.scope x:=by first | exact eJ rfl | exact cS (eJ rfl) | exact cS (cS rfl))(hd:(x==("__debug__" : Str))=false:=by decide)
 (tE:(x==("__classdict__" : Str))=false:=by decide):PE X (.Name x pos) (mv i):=uX hN hv hd tE
end
theorem rT{A B:Prop}(h:B):if false=true then A else B:=by
 rw[if_neg aX];exact h
theorem rV{A B:Prop}(h:A):if true=true then A else B:=by
 rw[if_pos rfl];exact h
section
variable {X:Cx}
theorem Zt:rN X (.builtin "len") (λxs H Q=>∃a kvs,xs=[V.ref a]/\H a=aa (.dK kvs)/\Q (.int kvs.length) H):=by
 intro ah s σ H xs us Q I r h;obtain⟨a,kvs,rfl,ha,q⟩:=h;obtain⟨u,rfl,ru⟩:=Al r;cases ru;exact YH I (.inl ha) λt s' I'=>⟨.int kvs.length,H,I',⟨t,rfl⟩,q⟩
end
section
variable {α β:Type}
def Dk:Sem α->Prop
 |.pure _=>True
 |.raise _=>True
 |.unsupported _=>True
 |.finish _=>True
 |.rule _ k=>Dk (k ())
 |.at _ k=>Dk (k ())
 |.load _ _ k=>∀o,Dk (k o)
 |.update _ _ f k=>(∀o,(f o).dict=o.dict/\(f o).isFreed=o.isFreed)/\Dk (k ())
 |.loadIfAlive _ k=>∀o,Dk (k o)
 |.point _ k=>Dk (k ())
 |.register _ _=>True
 |.alloc _ k=>∀a,Dk (k a)
 |.fresh k=>∀t,Dk (k t)
 |.ask k=>∀x,Dk (k x)
 |.choose _ _ k=>∀x,Dk (k x)
 |.os _ _ k=>∀x,Dk (k x)
 |.handled _ k=>∀x,Dk (k x)
 |.newGen _ k=>∀x,Dk (k x)
 |.stack k=>∀x,Dk (k x)
 |.thread k=>∀x,Dk (k x)
 |_=>False
def nQ(e:ai)(d:Option ai)(h:bR):Prop:=∃o,h.get? e=aa o/\o.dict=d
theorem nQ.upd{e a:ai}{d:Option ai}{h:bR}{f:Obj->Obj}(x:nQ e d h)(hf:∀o,(f o).dict=o.dict/\(f o).isFreed=o.isFreed):nQ e d (h.update a f):=by
 obtain⟨o,h1,h2⟩:=x;by_cases q:a=e
 .subst q
  refine⟨f o,ij f h1 ?_,by rw[(hf o).1];exact h2⟩;rw[(hf o).2];exact(Heap.get?_some_iff.mp h1).2
 .exact⟨o,by rw[j4 _ _ q];exact h1,h2⟩
theorem Zu{M:yG}{Γ:PySem.Ctx}{e:ai}{d:Option ai}:∀{t:Sem α} {Q:α->Pos->aq->Prop} {E:ag->Pos->aq->Prop} {p:Pos} {s:aq},Dk t->nQ e d s.heap->Sem.wp M Γ t Q E p s ->
  Sem.wp M Γ t (λa p s'=>Q a p s'/\nQ e d s'.heap) (λx p s'=>E x p s'/\nQ e d s'.heap) p s:=by
 intro t
 induction t with
 |pure a=>exact λ_ hd h=>⟨h,hd⟩
 |raise a=>exact λ_ hd h=>⟨h,hd⟩
 |unsupported a=>exact λ_ hd h=>h
 |finish a=>exact λ_ hd h=>h
 |rule a k ih=>exact λdk hd h=>ih () dk hd h
 | «at» a k ih=>exact λdk hd h=>ih () dk hd h
 |load a b k ih=>exact λdk hd ⟨o,h1,h2⟩=>⟨o,h1,ih o (dk o) hd h2⟩
 |update a b f k ih=>exact λdk hd ⟨h1,h2⟩=>⟨h1,ih () dk.2 (hd.upd dk.1) h2⟩
 |loadIfAlive a k ih=>exact λdk hd h=>ih _ (dk _) hd h
 |point a k ih=>exact λdk hd h=>ih () dk hd h
 |register a k ih=>exact λdk hd h=>h
 |alloc o k ih=>exact λdk hd h=>ih _ (dk _) (by obtain⟨q,h1,h2⟩:=hd;exact⟨q,ax _ h1,h2⟩) h
 |fresh k ih=>exact λdk hd h=>ih _ (dk _) hd h
 |ask k ih=>exact λdk hd h=>ih _ (dk _) hd h
 |choose a b k ih=>exact λdk hd ⟨h0,h⟩=>⟨h0,ih _ (dk _) hd h⟩
 |os a b k ih=>exact λdk hd h=>ih _ (dk _) hd h
 |call c h a b k ih=>exact λdk=>dk.elim
 |handled a k ih=>exact λdk hd h=>ih _ (dk _) hd h
 |genState g k ih=>exact λdk=>dk.elim
 |newGen c k ih=>exact λdk hd h=>ih _ (dk _) hd h
 |resume g r a k ih=>exact λdk=>dk.elim
 |yield=>exact λdk=>dk.elim
 |stack k ih=>exact λdk hd h=>ih _ (dk _) hd h
 |await=>exact λdk=>dk.elim
 |fork=>exact λdk=>dk.elim
 |thread k ih=>exact λdk hd h=>ih _ (dk _) hd h
theorem Hf{M:yG}{A:cp}{e:ai}{d:Option ai}{t:Sem α}{Q:α->aq->Prop}{E:ag->aq->Prop}{s:aq}(dk:Dk t)(hd:nQ e d s.heap)(h:wpAny M A t Q E s) :
 wpAny M A t (λa s'=>Q a s'/\nQ e d s'.heap) (λx s'=>E x s'/\nQ e d s'.heap) s:=fun Γ p hi=>Zu dk hd (h Γ p hi)
theorem Dk.bind{m:Sem α}{f:α->Sem β}(h:Dk m)(hf:∀a,Dk (f a)):Dk (m >>= f):=by
 revert h
 show Dk m->Dk (Sem.bind m f)
 induction m with
 |pure a=>exact λ_=>hf a
 |raise a=>exact λ_=>trivial
 |unsupported a=>exact λ_=>trivial
 |finish a=>exact λ_=>trivial
 |rule a k ih=>exact λdk=>ih () dk
 | «at» a k ih=>exact λdk=>ih () dk
 |load a b k ih=>exact λdk o=>ih o (dk o)
 |update a b f k ih=>exact λdk=>⟨dk.1,ih () dk.2⟩
 |loadIfAlive a k ih=>exact λdk o=>ih o (dk o)
 |point a k ih=>exact λdk=>ih () dk
 |register a k ih=>exact λdk=>trivial
 |alloc o k ih=>exact λdk o=>ih o (dk o)
 |fresh k ih=>exact λdk o=>ih o (dk o)
 |ask k ih=>exact λdk o=>ih o (dk o)
 |choose a b k ih=>exact λdk o=>ih o (dk o)
 |os a b k ih=>exact λdk o=>ih o (dk o)
 |call c h a b k ih=>exact λdk=>dk.elim
 |handled a k ih=>exact λdk o=>ih o (dk o)
 |genState g k ih=>exact λdk=>dk.elim
 |newGen c k ih=>exact λdk o=>ih o (dk o)
 |resume g r a k ih=>exact λdk=>dk.elim
 |yield=>exact λdk=>dk.elim
 |stack k ih=>exact λdk o=>ih o (dk o)
 |await=>exact λdk=>dk.elim
 |fork=>exact λdk=>dk.elim
 |thread k ih=>exact λdk o=>ih o (dk o)
end
theorem QN{α:Type}{a:α}:Dk (pure a:Sem α):=trivial
theorem KY{a:ai}:Dk (load a):=λ_=>trivial
theorem QO{a:ai}{f:Obj->Obj}(h:∀o,(f o).dict=o.dict/\(f o).isFreed=o.isFreed):Dk (update a f):=⟨h,trivial⟩
theorem Zv{f:Array ag->Array ag}(o:Obj):(Dt f o).dict=o.dict/\(Dt f o).isFreed=o.isFreed:=by
 obtain⟨c,d,x,sl⟩:=o;cases x<;>exact⟨rfl,rfl⟩
theorem KZ{v u:ag}{i:Nat}:Dk (setField v i u):=by
 unfold setField
 split
 .unfold updateField
  refine KY.bind λo=>?_
  split
  .split
   .exact QO λo=>Zv o
   .trivial
  .trivial
 .trivial
theorem Hg{v:ag}{i:Nat}:Dk (field v i):=by
 unfold field fieldsOf;refine Dk.bind ?_ λx=>?_
 .split
  .refine KY.bind λo=>?_
   split<;>trivial
  .trivial
 .split<;>trivial
theorem QP{v:ag}{f:Option ai}:Dk (pZ v f):=by
 unfold pZ;refine Hg.bind λtb=>?_
 split
 .exact KZ
 .trivial
theorem K0:Dk stack:=λ_=>trivial
theorem Zw{env:Env}{l:List Env}:Dk (behindIsImport env l):=by
 unfold behindIsImport
 split
 .trivial
 .split
  .trivial
  .exact Hg.bind λ_=>trivial
theorem Zx{env:Env}{b:Bool}{l:List Env}:Dk (keptBack env b l):=by
 unfold keptBack
 split
 .split
  .trivial
  .unfold underTheClaimsCaller
   refine Dk.bind (m:=stack >>= λ_=>pure _) (K0.bind λ_=>QN) λ_=>QN
 .trivial
theorem QQ:∀l:List Env,Dk (readyFrames l)
 |[]=>trivial
 | env::outer=>by
   unfold readyFrames
   split
   .refine KY.bind λo=>?_
    split
    .trivial
    .exact Zw.bind λb=>Zx.bind λv=>Dk.bind (QO (by intro o;obtain⟨c,d,x,sl⟩:=o;cases x<;>exact⟨rfl,rfl⟩)) λ_=>QQ outer
   .trivial
theorem Zy{env:Env}:Dk (p7 env):=by
 unfold p7;refine Dk.bind ?_ λl=>Dk.bind ?_ λx=>?_
 .unfold frameEnvs
  exact K0.bind λ_=>trivial
 .unfold frameObject
  split
  .trivial
  .exact(QQ _).bind λ_=>trivial
 .split<;>trivial
theorem Zz{f:ai}{b:Bool}:Dk (wm f b):=by
 unfold wm;refine K0.bind λl=>?_
 split<;>trivial
theorem ZA{x:String}{vs:List ag}:Dk (newFields x vs):=by
 unfold newFields newObj newObjAsIs;dsimp only
 split
 .trivial
 .exact λa=>trivial
theorem QR{v:ag}{env:Env}:Dk (p8 v env):=by
 unfold p8
 split
 .refine Hg.bind λhd=>?_
  have fin:∀f:ai,Dk (do setField v 1 (<- p9 hd (<- p7 env) .none (rawInt f) .none (<- wm f (hd != .none)))):=λf=>
   Zy.bind λa=>Zz.bind λb=>Dk.bind (by unfold p9;exact ZA) λ_=>KZ
  split
  .refine Hg.bind λ_=>?_
   split
   .trivial
   .exact KZ.bind λ_=>fin _
  .exact fin _
 .trivial
theorem QS{v:ag}{env:Env}:Dk (wb env v):=by
 unfold wb;exact QR.bind λ_=>QP
def dM(P:aU)(w:bz):sT:=λouter H s E e s'=>
 ∃ (ea:ai) (cls a0:ag) (B:bR) (H':Hp) (dx:Option ai),e=.ref ea/\s'.os=s.os/\jZ s'.gens /\
   j6 B outer ea cls a0 s'.heap/\iZ P w H' B /\
   (∀b o,s.heap.get? b=aa o->H b=ae->b∉mI outer->B.get? b=aa o) /\
   (∀b o,s.heap.get? b=aa o->H b=ae->b∈mI outer->∃sl,s'.heap.get? b=aa { o with slots:=sl }) /\
   (∀b o,s.heap.get? b=aa o->H b=ae->H' b=ae) /\
   (∀b o,s.heap.get? b=aa o->b∉mI outer->∃o',B.get? b=aa o') /\
   (∀b xs,H b=aa (.tup xs)->H' b=aa (.tup xs))/\(∀b o u,H b=aa (.eU o u)->H' b=aa (.eU o u)) /\
   (∀b ps,H b=aa (.uU ps)->∃more,H' b=aa (.uU (ps++more)))/\nQ ea dx s'.heap/\E cls dx H'
theorem iZ.hide{P:aU}{w:bz}{H:Hp}{h:bR}{l:List ai}(ok:iZ P w H h)(hl:∀b∈l,H b=ae):iZ P w H (W.hideAll h l):=λa o e=>
 (ok a o e).mX (λb u hb q=>W.hideAll_get _ q λm=>by
  rcases hb with z | z
  .rw[z] at m;rw[hl a m] at e;cases e
  .rw[hl b m] at z;cases z) (λ_ q=>q) λ_ _ q=>q
section
variable {P:aU}{w:bz}{K:W.Frag}{mg:Str->Option ag}{base:bR}{N:List Str}{qual:Str}{scope:iG}{f:ai}{cd:ag}{A:cp}{outer:List Env}{s₀:aq}{H₀:Hp}{E:XK}
theorem dQ:oG (dM P w) (ir (dM P w) P w K mg base N qual scope f cd A outer s₀ H₀ E) E:=by
 intro ah σ H s e s' I h;obtain⟨ea,cls,a0,B,H',dx,rfl,ho,hb,qJ,cI,keep,slot,free,there,tups,frzs,tbls,hd,hE⟩:=h;let X:=ir (dM P w) P w K mg base N qual scope f cd A outer s₀ H₀ E;have qK:∀b,b∈mI X.stack↔b=X.env.locals\/b∈mI outer:=λb=>by
  show b∈X.env.locals::mI outer↔_;exact aH
 show wpAny (aN P w) X.A (wb X.env (.ref ea)) _ _ _;refine bT (Hf QS hd (wpAny_leaves_onW (Q:=λ_ s2=>∃h1,s2={ s' with heap:=h1 }/\j6 B outer ea cls a0 h1/\o8 s'.heap h1) (base:=B) (env:=X.env) (outer:=outer) (L:=X.env.locals) I.ok.frames rfl qJ λh1 x1 x4=>⟨h1,rfl,x1,x4⟩)) (λ_ s2 z=>?_) λ_ _ z=>z.1;obtain⟨⟨h1,rfl,x1,x4⟩,yY⟩:=z;have Eg:∀b,b∈mI X.stack->∀o,s'.heap.get? b=aa o->∃sl,h1.get? b=aa { o with slots:=sl }:=λb hb o e=>by
  obtain⟨o',e',nd⟩:=(qJ.2.2.1.mem hb).2;rw[e] at e';cases e';exact x4 b o e nd
 refine⟨ea,cls,a0,B,H',dx,rfl,ho.trans I.os,hb,x1,cI,λb o e n hb=>?_,λb o e n hb=>?_,λb o e n=>?_,λb o e hb=>?_,λb xs q=>tups b xs (I.base.tups b xs q),λb o u q=>frzs b o u (I.base.frzs b o u q),λb ps q=>?_,yY,hE⟩
 .have hL:b≠X.env.locals:=aT (aA (aE e) I.ok.above)
  refine keep b o (I.base.keep b o e n hb (by simp[ir])) (I.base.free b o e n (by simp[ir])) λm=>?_;rcases(qK b).mp m with z | z
  .exact hL z
  .exact hb z
 .obtain⟨sl,e1⟩:=I.base.slot b o e n hb (by simp[ir])
  obtain⟨GD,e2⟩:=slot b _ e1 (I.base.free b o e n (by simp[ir])) ((qK b).mpr (.inr hb));obtain⟨K1,e3⟩:=Eg b ((qK b).mpr (.inr hb)) _ e2;exact⟨K1,e3⟩
 .obtain⟨o',e1⟩:=I.base.there b o e (by simp[ir])
  exact free b o' e1 (I.base.free b o e n (by simp[ir]))
 .have hL:b≠X.env.locals:=aT (aA (aE e) I.ok.above)
  obtain⟨o',e1⟩:=I.base.there b o e (by simp[ir]);refine there b o' e1 λm=>?_;rcases(qK b).mp m with z | z
  .exact hL z
  .exact hb z
 .obtain⟨m1,q1⟩:=I.base.tbls b ps q
  obtain⟨m2,q2⟩:=tbls b _ q1;exact⟨m1++m2,by rw[q2,uf]⟩
end
abbrev lK:List ag:=[.type "ValueError",.type "Exception",.type "BaseException",.type "object"]
noncomputable def rW(K:W.Frag)(C:ai):Option (List ag):=match K.lookup C with
 | some ⟨.type "type",_,.cls cd,sl⟩=>(match cd.mro,sl.toList with
   |.ref C'::bm,[_,_,_,_,aa (.builtin _),_]=>bif (C'==C)&&!cd.hasDel&&bm.contains (.type "BaseException") then aa bm else ae
   |_,_=>ae)
 |_=>ae
theorem QT{K:W.Frag}{h:bR}{C:ai}{bm:List ag}(X:K.In h)(q:rW K C=aa bm) :
  bm.contains (.type "BaseException")=true/\∃nm qn N bs qL sn sub ab yZ dd k0 k1 k2 k3 k5 Eh,h.get? C=aa (excClassObj nm qn C N bs bm qL sn sub ab yZ dd k0 k1 k2 k3 k5 Eh):=by
 unfold rW at q
 split at q
 .rename_i ZC Hh slt look
  split at q
  .rename_i C2 Ei j0 j1 j2 j3 QU j5 em es
   cases c:((C2==C)&&!Hh.hasDel&&Ei.contains (.type "BaseException")) with
   |false=>rw[c] at q;cases q
   | true=>
     rw[c] at q;have e2:Ei=bm:=bf q;simp only[cG,beq_iff_eq,wo] at c;obtain⟨⟨c1,c2⟩,c3⟩:=c;subst c1 e2;refine⟨c3,?_⟩;have ob:=X _ _ look;obtain⟨a1,a2,a3,a4,a5,a6,a7,a8,a9,b1,b2⟩:=Hh;have em:a3=.ref C2::Ei:=em;have c2:b2=false:=c2;have K2:slt=#[j0,j1,j2,j3,aa (.builtin QU),j5]:=by
      obtain⟨l⟩:=slt;exact congrArg Array.mk es
     rw[em,c2,K2] at ob;exact⟨_,_,_,_,_,_,_,_,_,_,_,_,_,_,_,_,ob⟩
  .cases q
 .cases q
theorem ZD{M:yG}{A:cp}{E:ag->aq->Prop}{K:W.Frag}{s:aq}{e C D:ai}{oe:Obj}{y_ Ci:List ag}{Q:Bool->aq->Prop}(X:K.In s.heap)(qC:rW K C=aa y_)(qD:rW K D=aa Ci)
  (he:s.heap.get? e=aa oe) (Aa:oe.cls=.ref C) (hq:Q ((aS C::y_).contains (.ref D)) s):wpAny M A (excMatches (.ref e) (.ref D)) Q E s:=by
 obtain⟨h,g,d,t,os⟩:=s;obtain⟨bC,_,_,_,_,_,_,_,_,_,_,_,_,_,_,_,_,hC⟩:=QT X qC;obtain⟨bD,_,_,_,_,_,_,_,_,_,_,_,_,_,_,_,_,hD⟩:=QT X qD;have ZE:(aS D::Ci).contains (.type "BaseException")=true:=by rw[cY,bD,Du]
 have f:=tc_notTuple;unfold excMatches;generalize hv:(aS C::y_).contains (.ref D)=v at hq
 repeat (first | (with_reducible refine eX he ?_;rw[Aa]) | with_reducible refine eX hD ?_ | (with_reducible refine jm hD ?_;rw[ZE]) | (with_reducible refine jm hC ?_;rw[hv]) | wp_step)
 cases v<;>(wp_walk;exact hq)
section
variable {X:Cx}
abbrev Cx.kM(X:Cx)(pn:List (ai×Obj))(kn:St)(xe:ag->aq->Prop):Cx:={ X with pn:=pn,kn:=kn,xe:=xe }
abbrev Cx.j_(X:Cx)(ea:ai):Cx:={ X with A:=X.A.mark (aa (.ref ea)),calm:=false,xe:=λ_ _=>False }
theorem Cx.Ok.kM(ok:X.Ok)(pn:List (ai×Obj))(kn:St)(xe:ag->aq->Prop):(X.kM pn kn xe).Ok:=
 ⟨ok.mod,ok.kind,ok.glob,ok.blt,ok.above,ok.inj,ok.has,ok.DJ,ok.hd,ok.frames,ok.GA,ok.GB,ok.bs,ok.w6,ok.uV,ok.tD,ok.mY,ok.z7⟩
theorem Cx.Ok.j_(ok:X.Ok)(ea:ai):(X.j_ ea).Ok:=
 ⟨ok.mod,ok.kind,ok.glob,ok.blt,ok.above,ok.inj,ok.has,ok.DJ,(λh=>nomatch h),ok.frames,ok.GA,ok.GB,ok.bs,ok.w6,ok.uV,ok.tD,ok.mY,ok.z7⟩
theorem Inv.j_{ah:List (ai×Obj)}{σ:St}{H:Hp}{s:aq}(I:Inv X ah σ H s)(ea:ai):Inv (X.j_ ea) ah σ H s:=
 ⟨I.ok.j_ ea,I.os,I.bare,I.base,I.loc,I.cell,I.free,I.i',I.pin,I.cI,I.len,I.kn⟩
theorem Inv.pk{ah:List (ai×Obj)}{σ:St}{H:Hp}{s:aq}{ea:ai}(ok:X.Ok)(I:Inv (X.j_ ea) ah σ H s):Inv X ah σ H s:=
 ⟨ok,I.os,I.bare,I.base,I.loc,I.cell,I.free,I.i',I.pin,I.cI,I.len,I.kn⟩
theorem ku.there{P:aU}{w:bz}{H:Hp}{h:bR}{a:ai}{o:HO}(x:ku P w H h a o):∃u,h.get? a=aa u:=by
 cases o with
 |lst xs=>obtain⟨_,_,_,_,e⟩:=x;exact⟨_,e⟩
 |tup xs=>obtain⟨_,_,_,ob,e,_⟩:=x;exact⟨_,e⟩
 |dK kvs=>obtain⟨_,_,_,_,o,_,_,e,_⟩:=x;exact⟨_,e⟩
 |dT kvs=>obtain⟨_,_,_,_,o,_,_,e,_⟩:=x;exact⟨_,e⟩
 |set S n=>obtain⟨o,_,_,_,e,_⟩:=x;exact⟨_,e⟩
 |ins C dx fs=>obtain⟨_,_,_,e,_⟩:=x;exact⟨_,e⟩
 |own y=>exact x
 |xd fs=>obtain⟨_,⟨_,_,_,e,_⟩,_⟩:=x;exact⟨_,e⟩
 |Gy lo hi=>obtain⟨_,_,_,e⟩:=x;exact⟨_,e⟩
 |eU ob u=>obtain⟨e,_⟩:=x;exact⟨_,e⟩
 |uU ps=>exact⟨_,(show h.get? a=aa _ from x)⟩
 |met f y=>exact⟨_,(show h.get? a=aa _ from x)⟩
 |ext φ=>exact x.2.1
abbrev za:=ag->Option ai->ai->Ends->St->Hp->Prop
def PH(X:Cx)(hs:List iY)(t:za):Prop:=
 ∀ (ah:List (ai×Obj)) (s:aq) (σ:St) (H:Hp) (D:Ends) (ea:ai) (cls a0:ag) (dx:Option ai) (B:bR),X.Ok->(∀h',B.StaysIn h'->s.heap.UpToSlots h'->Inv X ah σ H { s with heap:=h' }) ->
   (∀h' φ,B.StaysIn h'->s.heap.UpToSlots h'->ku X.prog X.w H h' ea (.ext φ)->Inv X ah σ (upd H ea (.ext φ)) { s with heap:=h' })->j6 B X.stack ea cls a0 s.heap->(nQ ea dx s.heap/\H ea=ae)->t cls dx ea D σ H->wpAny (aN X.prog X.w) X.A (yJ (.ref ea) X.env hs) (SP X ah D) X.xe s
def K3(K:W.Frag)(D:ai)(ts:TS)(tr:za):za:=λcls dx ea En σ H=>∃C y_,cls=.ref C/\rW K C=aa y_ /\
 if(aS C::y_).contains (.ref D)=true then ts En σ H else tr cls dx ea En σ H
theorem ZF{D:ai}{Ci:List ag}{x:Str}{np pos:Pos}{b₀:bS}{qM:List bS}{jD:List iY}{ts:TS}{tr:za}(hg:Gl X x)(hm:X.mg x=aa (.ref D))(qD:rW X.K D=aa Ci)
  (hs:∀ea,k6 (X.j_ ea) (b₀::qM) ts) (hr:PH X jD tr) (kC:(x==("__debug__" : Str))=false:=by decide) :
  PH X (.ExceptHandler (aa (.Name x np)) ae (b₀::qM) pos::jD) (K3 X.K D ts tr):=by
 intro ah s σ H En ea cls a0 dx B ok zb tK qJ hd h;obtain⟨C,y_,rfl,qC,h⟩:=h;have I:Inv X ah σ H s:=zb s.heap qJ.1 (.refl _);have I':=I.j_ ea;obtain⟨oe,ZG,GG⟩:=qJ.there;refine wpAny_handleBy_cons (codeAny_handlers_test ?_) (by intro q;cases q);refine Ab (X:=X.j_ ea) I' hg hm ?_ kC;refine ZD I.jX qC qD ZG GG ?_;cases c:(aS C::y_).contains (.ref D) with
 | false=>
   rw[c] at h;exact hr ah s σ H En ea _ a0 dx B ok zb tK qJ hd (by simpa using h)
 | true=>
   rw[c] at h;have h:ts En σ H:=by simpa using h
   refine codeAny_handlers_suite (lands_againW qJ λh6 K4 ZH=>?_);refine bT (hs ea ah { s with heap:=h6 } σ H En ((zb h6 K4.1 ZH).j_ ea) h) (λf s2 q=>?_) λ_ _ z=>z.elim;cases f with
   |next=>obtain⟨a,b,c,d⟩:=q;exact⟨a,b,c.pk ok,d⟩
   |brk=>obtain⟨a,b,c,d⟩:=q;exact⟨a,b,c.pk ok,d⟩
   |cont=>obtain⟨a,b,c,d⟩:=q;exact⟨a,b,c.pk ok,d⟩
   |ret u=>obtain⟨v,a,b,c,d⟩:=q;exact⟨v,a,b,c.pk ok,d⟩
def K5(X:Cx)(body:List bS)(th:za):TS:=λD σ H=>∃(kn:St) (R:XK) (tb:TS),kn.length=σ.length/\(∀(i:Nat) (v:V),kn[i]?=aa (aa v)->σ[i]?=aa (aa v)) /\
 (∀(i:Nat) (v:V),X.kn[i]?=aa (aa v)->kn[i]?=aa (aa v)) /\
 (∀(pn:List (ai×Obj)) (xe:ag->aq->Prop),oG (dM X.prog X.w) (X.kM pn kn xe) R->jz (aN X.prog X.w) X.A X.env xe->k6 (X.kM pn kn xe) body tb) /\
 tb D σ H/\∀cls dx ea H',R cls dx H'->th cls dx ea D kn H'
theorem ZI{body:List bS}{h₀:iY}{hs:List iY}{th:za}{pos:Pos}(ZJ:PH X (h₀::hs) th)(eY:X.stack=X.env::X.outer:=by rfl)(zc:X.env.frame=aa X.env.locals:=by rfl) :
  PS X (.Try body (h₀::hs) [] [] pos) (K5 X body th):=by
 intro ah s σ H D I h;obtain⟨kn,R,tb,hl,hk,oH,hb,h,ZK⟩:=h;refine wpAny_Try_except ?_;have own:=PassesOwn.looking (M:=aN X.prog X.w) (A:=X.A) (env:=X.env) (E₁:=X.xe) (K:=λe s₂=>wpAny (aN X.prog X.w) X.A (pZ e ae) (λ_ s₃=>wpAny (aN X.prog X.w) X.A (yJ e X.env (h₀::hs)) (SP X ah D) X.xe s₃) X.xe s₂);have vb:∀{pn:List (ai×Obj)} {xe:ag->aq->Prop} {iM:List (ai×Obj)} {σ':St} {H':Hp} {s':aq},(∀p∈X.pn++ah,p∈pn)->Inv (X.kM pn kn xe) iM σ' H' s'->Inv X ah σ' H' s':=λ{pn xe iM σ' H' s'} hp J=>
  ⟨I.ok,J.os,J.bare,J.base,J.loc,J.cell,J.free,J.i',λp z=>J.pin p (bh _ (hp p z)),J.cI,J.len,λi v e=>J.kn i v (oH i v e)⟩
 have Ej:oG (dM X.prog X.w) (X.kM (X.pn++ah) kn λe s₁=>wpAny (aN X.prog X.w) X.A (p8 e X.env) (λ_ s₂=>wpAny (aN X.prog X.w) X.A (pZ e ae) (λ_ s₃=>wpAny (aN X.prog X.w) X.A (yJ e X.env (h₀::hs)) (SP X ah D) X.xe s₃) X.xe s₂) X.xe s₁) R:=by
  intro iM σ' H1 s1 e s' I1 T;obtain⟨ea,cls,a0,B,H',dx,rfl,ho,zd,qJ,cI,keep,slot,free,there,tups,frzs,tbls,hd,hE⟩:=T;have I2:Inv X ah kn H1 s1:=(vb (λ_ z=>z) I1).weak (by rw[hl,I.len];exact(I1.len).symm) (λi v e=>I1.kn i v e) oH;have vc:∀h',s'.heap.UpToSlots h'->∀b o,s1.heap.get? b=aa o->H1 b=ae->b∈mI X.stack->∃sl,h'.get? b=aa { o with slots:=sl }:=λh' up b o e n hb=>by
   obtain⟨sl,e1⟩:=slot b o e n hb;obtain⟨o',e',nd⟩:=(qJ.2.2.1.mem hb).2;rw[e1] at e';cases e';obtain⟨K1,e2⟩:=up b _ e1 nd;exact⟨K1,e2⟩
  have vd:∀h',B.StaysIn h'->s'.heap.UpToSlots h'->∀b o,s1.heap.get? b=aa o->∃o',h'.get? b=aa o':=λh' st up b o e=>by
   by_cases hb:b∈mI X.stack
   .obtain⟨sl,e2⟩:=vc h' up b o e (I2.nh b hb) hb
    exact⟨_,e2⟩
   .obtain⟨o',e2⟩:=there b o e hb
    exact⟨o',st b o' e2⟩
  have zb:∀h',B.StaysIn h'->s'.heap.UpToSlots h'->Inv X ah kn H' { s' with heap:=h' }:=λh' st up=>
   I2.uW (s':={ s' with heap:=h' }) (ch:=[]) ho ⟨λb o e n hb _=>st b o (keep b o e n hb),λb o e n hb _=>vc h' up b o e n hb,λb o e n _=>free b o e n,λb o e _=>vd h' st up b o e,tups,frzs,tbls⟩ (cI.kept λb u z=>st b u z) zd (λ_ z=>nomatch z)
  have QW:∀b u,H' b=aa u->b≠ea:=λb u z w=>by
   obtain⟨v,hv⟩:=(cI b u z).there;rw[w,qJ.2.1] at hv;cases hv
  have tK:∀h' φ,B.StaysIn h'->s'.heap.UpToSlots h'->ku X.prog X.w H' h' ea (.ext φ)->Inv X ah kn (upd H' ea (.ext φ)) { s' with heap:=h' }:=λh' φ st up new=>by
   have kp:∀b u,H' b=aa u->upd H' ea (.ext φ) b=aa u:=λb u z=>by rw[dr (QW b u z)];exact z
   refine I2.uW (s':={ s' with heap:=h' }) (ch:=[]) ho ⟨λb o e n hb _=>st b o (keep b o e n hb),λb o e n hb _=>vc h' up b o e n hb,λb o e n _=>?_,λb o e _=>vd h' st up b o e,
    λb xs e=>kp b _ (tups b xs e),λb o u e=>kp b _ (frzs b o u e),λb ps e=>let ⟨m,q⟩:=tbls b ps e;⟨m,kp b _ q⟩⟩ (λb u z=>?_) zd (λ_ z=>nomatch z)
   .rw[dr];exact free b o e n
    rintro rfl;by_cases hb:b∈mI X.stack
    .obtain⟨oe,vs,ge,_,gd,_⟩:=qJ.first
     obtain⟨o',e',nd⟩:=(qJ.2.2.1.mem hb).2;rw[ge] at e';cases e';exact nd vs gd
    .have:=keep b o e n hb
     rw[qJ.2.1] at this;cases this
   .by_cases hb:b=ea
    .subst hb;rw[gm] at z;cases z
     exact new
    .rw[dr hb] at z
     exact(cI b u z).mX (λc v _ r=>st c v r) (λc r=>kp c _ r) λc xs r=>kp c _ r
  have K6:X.A.frames=aa (X.env::X.outer):=eY▸I.ok.frames;have K7:j6 B (X.env::X.outer) ea cls a0 s'.heap:=eY▸qJ;show wpAny (aN X.prog X.w) X.A (p8 (.ref ea) X.env) _ _ _;refine bT (Hf QR hd (wpAny_looks_onW (Q:=λ_ s2=>∃h4,s2={ s' with heap:=h4 }/\Heap.HeldW B (X.env::X.outer) ea cls a0 X.env.locals h4/\o8 s'.heap h4) K6 zc K7 λh4 ve Hi=>⟨h4,rfl,ve,Hi⟩)) (λ_ s2 z=>?_) λ_ _ z=>z.1;obtain⟨⟨h4,rfl,ve,Hi⟩,ZL⟩:=z;refine bT (Hf QP ZL (wpAny_landsW (Q:=λ_ s2=>∃h5,s2={ s' with heap:=h5 }/\j6 B (X.env::X.outer) ea cls a0 h5/\o8 h4 h5) ve λh5 Ay Hj=>⟨h5,rfl,Ay,Hj⟩)) (λ_ s2 z=>?_) λ_ _ z=>z.1;obtain⟨⟨h5,rfl,Ay,Hj⟩,ZM⟩:=z;exact ZJ ah { s' with heap:=h5 } kn H' D ea cls a0 dx B I.ok (λh' st up=>zb h' st ((Hi.trans Hj).trans up)) (λh' φ st up new=>tK h' φ st ((Hi.trans Hj).trans up) new) (eY▸Ay) ⟨ZM,by cases q:H' ea with|none=>rfl | some u=>exact absurd rfl (QW ea u q)⟩ (ZK cls dx ea H' hE)
 have I':Inv (X.kM (X.pn++ah) kn λe s₁=>wpAny (aN X.prog X.w) X.A (p8 e X.env) (λ_ s₂=>wpAny (aN X.prog X.w) X.A (pZ e ae) (λ_ s₃=>wpAny (aN X.prog X.w) X.A (yJ e X.env (h₀::hs)) (SP X ah D) X.xe s₃) X.xe s₂) X.xe s₁) [] σ H s:=
  ⟨I.ok.kM _ _ _,I.os,I.bare,I.base,I.loc,I.cell,I.free,I.i',λp z=>I.pin p (by simpa using z),I.cI,I.len,hk⟩
 refine bT (hb _ _ Ej own [] s σ H D I' h) (λf s1 q=>?_) λ_ _ z=>z;cases f with
 |next=>obtain⟨a,b,c,d⟩:=q;exact jj ⟨a,b,vb (λ_ z=>z) c,d⟩
 |brk=>obtain⟨a,b,c,d⟩:=q;exact⟨a,b,vb (λ_ z=>z) c,d⟩
 |cont=>obtain⟨a,b,c,d⟩:=q;exact⟨a,b,vb (λ_ z=>z) c,d⟩
 |ret u=>obtain⟨v,a,b,c,d⟩:=q;exact⟨v,a,b,vb (λ_ z=>z) c,d⟩
end
structure cJ(K:W.Frag)(x qual:Str)(st:bS)(dV:ag)(f:ai)(fd:bA):Prop where
 ex:∃(oc:ag) (od:Option ai) (kV nq pm:ag) (an:Option ai) (hU ct:ag) (wD:Array (Option ag)),
  fd=W.fnOf x qual (qI st) (ot st) (d8 st) dV kV nq pm an hU ct/\K.lookup f=aa ⟨oc,od,.func fd,wD⟩/\W.codeIn K hU qual=true
 kp:W.keepIn K (.ref f)=true
section
variable {P:aU}{w:bz}{K:W.Frag}{mg:Str->Option ag}{base:bR}
theorem Ef.toV{x qual:Str}{st:bS}{f:ai}{fd:bA}(F:Ef K x qual st f fd):cJ K x qual st .none f fd:=⟨F.ex,F.kp⟩
theorem cJ.K8{x qual:Str}{st:bS}{dV:ag}{f:ai}{fd:bA}{N ps:List Str}{k:Nat}{sp:Sp}(F:cJ K x qual st dV f fd)(S:gn N ps (d8 st))(len:∀vs H Q E,sp vs H Q E->vs.length=ps.length)
  (lJ:∀(hU:ag) (A:cp) (outer:List Env) (s:aq) (H:Hp) (vs:List V) (Q:VK) (E:XK),eL k (A.deeper (iP qual (d8 st) s.heap.objs.size f hU))->sp vs H Q E ->
   ∃t,k6 (ir (dM P w) P w K mg base N qual (d8 st) f hU A outer s H E) (ot st) t/\t { nx:=λ_ H'=>Q .bq H',rt:=Q } (start N vs) H):bH P w K mg base (dM P w) (k+1) f fd ps sp:=by
 obtain⟨oc,od,kV,nq,pm,an,hU,ct,wD,rfl,lk,tE⟩:=F.ex;exact YA lk tE S len λA outer s H vs Q E hr qe=>lJ hU A outer s H vs Q E hr qe
theorem bH.calm{k:Nat}{f:ai}{fd:bA}{ps:List Str}{sp:Sp}(F:bH P w K mg base (dM P w) k f fd ps sp):bH P w K mg base Ee k f fd ps (λvs H Q _=>sp vs H Q E0):=
 ⟨λvs H Q _ h=>F.len vs H Q E0 h,λA outer s H args us vs Q E hr e0 hb r h=>jv (F.run A outer s H args us vs Q E0 hr e0 hb r h) λres s' q=>by
  cases res with
  |ok fl=>cases fl<;>exact q
  | error e=>
    obtain⟨_,_,_,_,_,_,_,_,_,_,_,_,_,_,_,_,_,_,_,z⟩:=q;exact z⟩
end
section
variable {X:Cx}{ah:List (ai×Obj)}{σ:St}{H:Hp}{s:aq}{a:ai}
theorem Inv.swap{o1 o2:HO}(I:Inv X ah σ H s)(e:H a=aa o1)(n1:∀xs,o1≠.tup xs)(n2:∀x,o1≠.own x)(n3:∀ps,o1≠.uU ps)(hz:∀o u,X.H₀ a=aa (.eU o u)->o2=.eU o u)
  (new:ku X.prog X.w (upd H a o2) s.heap a o2):Inv X ah σ (upd H a o2) s:=by
 have hf:∀b,H b=ae->upd H a o2 b=ae:=λb n=>by rw[dr (by rintro rfl;rw[e] at n;cases n)];exact n
 have tu:∀b xs,H b=aa (.tup xs)->upd H a o2 b=aa (.tup xs):=λb xs n=>by rw[dr (by rintro rfl;rw[e] at n;exact n1 xs (bf n))];exact n
 refine⟨I.ok,I.os,I.bare,⟨I.base.keep,I.base.slot,λb o q n hx=>hf b (I.base.free b o q n hx),I.base.there,λb xs q=>tu b xs (I.base.tups b xs q),λb o u q=>?_,λb ps q=>?_⟩,I.loc,I.cell,hf _ I.free,λx c q=>hf c (I.i' x c q),λp hp=>?_,λb u q=>?_,I.len,I.kn⟩
 .by_cases hb:b=a
  .subst hb;rw[gm,hz o u q]
  .rw[dr hb];exact I.base.frzs b o u q
 .obtain⟨m,q'⟩:=I.base.tbls b ps q
  exact⟨m,by rw[dr (by rintro rfl;rw[e] at q';exact n3 _ (bf q'))];exact q'⟩
 .obtain⟨a1,a2,a3,a4,a5⟩:=I.pin p hp
  exact⟨a1,hf _ a2,a3,a4,a5⟩
 .by_cases hb:b=a
  .subst hb;rw[gm] at q;cases q;exact new
  .rw[dr hb] at q
   exact(I.cI b u q).mX (λ_ _ _ z=>z) (λc z=>by rw[dr (by rintro rfl;rw[e] at z;exact n2 _ (bf z))];exact z) tu
theorem Inv.freeze{kvs:List (cg×V)}(I:Inv X ah σ H s)(e:H a=aa (.dK kvs)):(∀o u,X.H₀ a≠aa (.eU o u))/\∃o,s.heap.get? a=aa o/\Inv X ah σ (upd H a (.eU o (.dK kvs))) s:=by
 have nf:∀o u,X.H₀ a≠aa (.eU o u):=λo u q=>by
  have z:=I.base.frzs a o u q;rw[e] at z;cases z
 obtain⟨z,y,vs,r,o,es,ep,q,c⟩:=I.cI a _ e;exact⟨nf,o,q,I.swap e (λ_ h=>nomatch h) (λ_ h=>nomatch h) (λ_ h=>nomatch h) (λo u q=>absurd q (nf o u)) ⟨q,z,y,vs,r,o,es,ep,q,c⟩⟩
theorem Inv.Az{o:Obj}{kvs:List (cg×V)}(I:Inv X ah σ H s)(nf:∀o u,X.H₀ a≠aa (.eU o u))(e:H a=aa (.eU o (.dK kvs))):Inv X ah σ (upd H a (.dK kvs)) s:=by
 obtain⟨_,z⟩:=I.cI a _ e;exact I.swap e (λ_ h=>nomatch h) (λ_ h=>nomatch h) (λ_ h=>nomatch h) (λo u q=>absurd q (nf o u)) z
theorem Inv.frozen{o:Obj}{kvs:List (cg×V)}{es:Array uP}{ep:Nat}(I:Inv X ah σ H s)(e:H a=aa (.eU o (.dK kvs)))(hd:o.data=.dict es ep) :
  kvs.length<=sizeLine/\(a==ft)=false/\∃vs,KV kvs vs/\s.heap.DictAt (kq X.prog X.w) a vs ep:=by
 obtain⟨q,z,y,vs,r,o',z9,z_,q',c1,c2,c3⟩:=I.cI a _ e;rw[q] at q';cases q';rw[hd] at c2;cases c2;exact⟨z,y,vs,r,o,es,q,c1,hd,c3⟩
end
theorem KV.at{kvs:List (cg×V)}{vs:List (cg×ag)}(r:KV kvs vs){i:Nat}{k:cg}{v:V}(e:kvs[i]?=aa (k,v)):∃u,vs[i]?=aa (k,u)/\RelV v u:=by
 induction r generalizing i with
 |nil=>simp at e
 | cons p t ih=>
   cases i with
   | zero=>
     simp at e;rename_i a b _ _;obtain⟨p1,p2⟩:=p;refine⟨b.2,?_,?_⟩
     .simp only[bX,qB]
      rw[e] at p1;exact Prod.ext p1.symm rfl
     .rw[e] at p2;exact p2
   | succ j=>
     obtain⟨u,h1,h2⟩:=ih (i:=j) (by simpa using e);exact⟨u,by simpa using h1,h2⟩
theorem K9{P:aU}{w:bz}{k:cg}{u:ag}(h:(kq P w).is k u=true):RelV (kV k) u:=by
 rcases tz h with⟨i,t,rfl,rfl⟩ | ⟨x,t,rfl,rfl⟩
 .exact⟨t,rfl⟩
 .exact⟨t,rfl⟩
noncomputable def AA(a:ai)(o:Obj)(kvs:List (cg×V)):It:=
 ⟨λi H=>H a=aa (.eU o (.dK kvs))/\i<kvs.length,λi H x H'=>∃p k v,kvs[i]?=aa (k,v)/\H p=ae/\x=.ref p/\H'=upd H p (.tup [kV k,v]),λi H=>H a=aa (.eU o (.dK kvs))/\kvs.length<=i⟩
noncomputable def AB(a:ai)(o:Obj)(kvs:List (cg×V)):It:=
 ⟨λi H=>H a=aa (.eU o (.dK kvs))/\i<kvs.length,λi H x H'=>∃k v,kvs[i]?=aa (k,v)/\x=kV k/\H'=H,λi H=>H a=aa (.eU o (.dK kvs))/\kvs.length<=i⟩
theorem ZN {P:aU} {w:bz} {K:W.Frag} {pq:List bx} {kk:Nat} {tp:Pos} {a it:ai} {o:Obj} {es:Array uP} {ep:Nat} {kvs:List (cg×V)} (hd:o.data=.dict es ep) :
  pf P w K (.Tuple pq kk tp) (AA a o kvs) [it] it (λi h=>∃ok ov,IsItemIter h it a i kvs.length ep ok ov) where
 mem:=by simp
 obj:=λi h ⟨ok,ov,e⟩ b hb=>by
  obtain rfl:b=it:=by simpa using hb
  exact⟨_,e,(λv z=>nomatch z)⟩
 keep:=λi h h' ⟨ok,ov,e⟩ k=>⟨ok,ov,k it (by simp) _ e⟩
 item:=by
  intro X e1 e2 e3 hc i ah s σ H E I fp ⟨ok,ov,e⟩ ⟨hz,hi⟩;subst e1 e2 e3;obtain⟨f1,f2,f3,f4,f5,f6⟩:=fp it (by simp);obtain⟨zl,_,vs,r,da⟩:=I.frozen hz hd;obtain⟨⟨k,v⟩,hk⟩:∃p,kvs[i]?=aa p:=⟨kvs[i],by simp[hi]⟩;obtain⟨u,hu,ru⟩:=r.at hk;have hl:vs.length=kvs.length:=r.length.symm;refine wpAny_pyNext_items_item (knd:=kq X.prog X.w) (kvs:=vs) (ok:=ok) (ov:=ov) (by rw[hl];exact e) da hu λkey h1 u3 io ht hsz keep=>⟨_,rfl,?_⟩;refine wpAny_letOwnedTupleGo_items (i:=i+1) (n:=vs.length) io λh2 ZO sb=>?_;have hp:s.heap.objs.size≠it:=km (aE e);have I1:Inv X ah σ (upd H s.heap.objs.size (.tup [kV k,v])) { s with heap:=s.heap.push { cls:=.type "tuple",data:=.seq #[key,u] } }:=
   I.laid (t':=s.toks) (λb q z=>ax _ z) (aB _) ⟨by show 2<=sizeLine;decide,[key,u],.cons (K9 u3) (.cons ru .nil),_,bg _ rfl,rfl,_,rfl⟩
  have I2:=I1.turned (h':=h2) (t':=s.toks) (it:=it) (λb q hb z=>by
   refine sb.extBut b q hb ?_;by_cases QX:b=s.heap.objs.size
   .rw[QX] at z ⊢
    rw[bg _ rfl] at z;cases z;exact ht
   .exact keep b q hb (by
     have:=aE z;rw[gZ] at this;have lt:b<s.heap.objs.size:=Nat.lt_of_le_of_ne (Nat.le_of_lt_succ this) QX;cases z':s.heap.get? b with
     |some q'=>rw[ax _ z'] at z;exact z
     | none=>
       exfalso;have:(s.heap.push { cls:=.type "tuple",data:=.seq #[key,u] }).get? b=ae:=by
        simp only[Heap.get?,Heap.push] at z' ⊢;rw[Array.getElem?_push_lt lt];rw[o9 lt] at z';exact z'
       rw[this] at z;cases z)) (by rw[dr (bM hp)];exact f1) f2 f4 f5 f6
  exact⟨.ref s.heap.objs.size,_,I2,rfl,⟨_,k,v,hk,I.cI.fresh (aB _),rfl,rfl⟩,⟨_,_,by rw[<- hl];exact ZO⟩,λb hb=>by
   obtain rfl:b=it:=by simpa using hb
   rw[dr (bM hp)];exact f1⟩
 done:=by
  intro X e1 e2 e3 hc i ah s σ H E I fp ⟨ok,ov,e⟩ ⟨hz,hi⟩;subst e1 e2 e3;obtain⟨f1,f2,f3,f4,f5,f6⟩:=fp it (by simp);obtain⟨zl,_,vs,r,da⟩:=I.frozen hz hd;have hl:vs.length=kvs.length:=r.length.symm;exact wpAny_pyNext_items_end (knd:=kq X.prog X.w) (kvs:=vs) (ok:=ok) (ov:=ov) (I.ok.hd hc) (by rw[hl];exact e) da (p_.mpr (by omega)) λh' hx=>⟨rfl,I.turned (t':=s.toks) (λb q hb z=>hx b q hb z) f1 f2 f4 f5 f6⟩
 self:=λA i s Q E ⟨ok,ov,e⟩ h=>W.kcp_self e h
theorem ZP{P:aU}{w:bz}{K:W.Frag}{tg:bx}{a it:ai}{o:Obj}{es:Array uP}{ep:Nat}{kvs:List (cg×V)}(hd:o.data=.dict es ep) :
  pf P w K tg (AB a o kvs) [it] it (λi h=>h.IsKeyIter it a i kvs.length ep) where
 mem:=by simp
 obj:=λi h ⟨q,e,c,d⟩ b hb=>by
  obtain rfl:b=it:=by simpa using hb
  exact⟨_,e,λv z=>by rw[d] at z;cases z⟩
 keep:=λi h h' ⟨q,e,c⟩ k=>⟨q,k it (by simp) _ e,c⟩
 item:=by
  intro X e1 e2 e3 hc i ah s σ H E I fp e ⟨hz,hi⟩;subst e1 e2 e3;obtain⟨f1,f2,f3,f4,f5,f6⟩:=fp it (by simp);obtain⟨zl,_,vs,r,da⟩:=I.frozen hz hd;obtain⟨⟨k,v⟩,hk⟩:∃p,kvs[i]?=aa p:=⟨kvs[i],by simp[hi]⟩;obtain⟨u,hu,ru⟩:=r.at hk;have hl:vs.length=kvs.length:=r.length.symm;refine wpAny_pyNext_dict_item (knd:=kq X.prog X.w) (kvs:=vs) (by rw[hl];exact e) da hu λkey h1 u3 io sb=>⟨_,rfl,?_⟩;have I2:Inv X ah σ H { s with heap:=h1 }:=I.turned (h':=h1) (t':=s.toks) (it:=it) (λb q hb z=>sb.extBut b q hb z) f1 f2 f4 f5 f6;refine JM io ⟨kV k,H,I2,K9 u3,⟨k,v,hk,rfl,rfl⟩,by rw[<- hl];exact io,λb hb=>?_⟩;obtain rfl:b=it:=by simpa using hb
  exact f1
 done:=by
  intro X e1 e2 e3 hc i ah s σ H E I fp e ⟨hz,hi⟩;subst e1 e2 e3;obtain⟨f1,f2,f3,f4,f5,f6⟩:=fp it (by simp);obtain⟨zl,_,vs,r,da⟩:=I.frozen hz hd;have hl:vs.length=kvs.length:=r.length.symm;exact wpAny_pyNext_dict_end (knd:=kq X.prog X.w) (kvs:=vs) (I.ok.hd hc) (by rw[hl];exact e) da (p_.mpr (by omega)) λh' hx=>⟨rfl,I.turned (t':=s.toks) (λb q hb z=>hx b q hb z) f1 f2 f4 f5 f6⟩
 self:=λA i s Q E e h=>wpAny_pyIter_keyiter e h
section
variable {X:Cx}{tg:bx}
def ZQ(X:Cx)(te:TE):TI:=fun σ H R=>te σ H λx H1=>∃a kvs,x=.ref a /\
 ((H1 a=aa (.dK kvs)/\∀o,(∀o' u,X.H₀ a≠aa (.eU o' u))->R (AA a o kvs) (upd H1 a (.eU o (.dK kvs))))\/∃o,H1 a=aa (.eU o (.dK kvs))/\R (AA a o kvs) H1)
def QY(X:Cx)(te:TE):TI:=fun σ H R=>te σ H λx H1=>∃a kvs,x=.ref a /\
 ((H1 a=aa (.dK kvs)/\∀o,(∀o' u,X.H₀ a≠aa (.eU o' u))->R (AB a o kvs) (upd H1 a (.eU o (.dK kvs))))\/∃o,H1 a=aa (.eU o (.dK kvs))/\R (AB a o kvs) H1)
theorem QZ{ah:List (ai×Obj)}{σ:St}{H:Hp}{s:aq}{a:ai}{o:Obj}{kvs:List (cg×V)}(I:Inv X ah σ H s)(e:H a=aa (.eU o (.dK kvs))):s.heap.get? a=aa o/\∃es ep,o.data=.dict es ep:=by
 obtain⟨q,z,y,vs,r,o',z9,z_,q',c1,c2,c3⟩:=I.cI a _ e;rw[q] at q';cases q';exact⟨q,z9,z_,c2⟩
theorem K_{l:bx}{tl:TE}(hl:PE X l tl):PI X tg l (QY X tl):=by
 intro ah s σ H R I h;refine dF (hl ah s σ H _ I h) λu s1 cN=>?_;obtain⟨x,H1,I1,r1,a,kvs,e,q⟩:=cN;subst e;obtain rfl:u=aS a:=r1;have go:∀(o:Obj) (H2:Hp),Inv X ah σ H2 s1->H2 a=aa (.eU o (.dK kvs))->R (AB a o kvs) H2->wpAny (aN X.prog X.w) X.A (BX (.ref a)) (GN X ah σ tg R) X.xe s1:=λo H2 I2 e2 q2=>by
  obtain⟨g,es,ep,hd⟩:=QZ I2 e2;obtain⟨zl,zm,vs,r,da⟩:=I2.frozen e2 hd;have cX:vs.length=kvs.length:=r.length.symm;refine wpAny_pyIter_dict (knd:=kq X.prog X.w) zm da ?_;have I3:=I2.kept (h':=s1.heap.push { cls:=.type "dict_keyiterator",data:=.fields #[.ref a,.int 0 0,.int vs.length 0,.int ep 0] }) (t':=s1.toks) λb q z=>ax _ z;refine⟨s1.heap.objs.size,[s1.heap.objs.size],_,AB a o kvs,H2,rfl,I3,ZP hd,⟨_,bg _ rfl,rfl,by rw[cX];rfl⟩,λb hb=>?_,q2⟩;obtain rfl:b=s1.heap.objs.size:=by simpa using hb
  exact I2.u0 (aB _) (I2.cI.fresh (aB _))
 rcases q with⟨e1,q⟩ | ⟨o,e1,q⟩
 .obtain⟨nf,o,g,I2⟩:=I1.freeze e1
  exact go o _ I2 gm (q o nf)
 .exact go o _ I1 e1 q
theorem Q0{l:bx}{tl:TE}{pq:List bx}{kk:Nat}{tp cC dX:Pos}(hl:PE X l tl)(fB:cm l "items" X.env (eval l X.env)=eval l X.env:=by rfl)(fC:(cC.endLine==dX.line)=true:=by rfl) :
  PI X (.Tuple pq kk tp) (.Call (.Attribute l "items" cC) [] [] dX) (ZQ X tl):=by
 intro ah s σ H R I h;refine uO fB fC (dF (hl ah s σ H _ I h) λu s1 cN=>?_);obtain⟨x,H1,I1,r1,a,kvs,e,q⟩:=cN;subst e;obtain rfl:u=aS a:=r1;have go:∀(o:Obj) (H2:Hp),Inv X ah σ H2 s1->H2 a=aa (.eU o (.dK kvs))->R (AA a o kvs) H2->MethodOn X.prog X.w X.A "items" dX (.ref a) [] (λv s2=>wpAny (aN X.prog X.w) X.A (BX v) (GN X ah σ (.Tuple pq kk tp) R) X.xe s2) X.xe s1:=λo H2 I2 e2 q2=>by
  obtain⟨g,es,ep,hd⟩:=QZ I2 e2;obtain⟨zl,zm,vs,r,da⟩:=I2.frozen e2 hd;have cX:vs.length=kvs.length:=r.length.symm;obtain⟨t1,t2,_⟩:=Qw I2 (.inl ⟨kvs,.inr ⟨o,e2⟩⟩);refine⟨"dict",_,o7,o_,PySem.F.type_dict_items,t1,t2,gV rfl (tj ?_)⟩;refine wc o_ t1 PySem.F.entry_dict_items (PySem.F.args_dict_items_1 _) (meets_dict_items (kq X.prog X.w) a zm) ⟨⟨vs,da.dictOf⟩,?_⟩;have I3:=I2.kept (h':=s1.heap.push { cls:=.type "dict_items",data:=.fields #[.ref a] }) (t':=s1.toks) λb q z=>ax _ z;refine wpAny_pyIter_items (d:=a) (kvs:=vs) (ep:=ep) (knd:=kq X.prog X.w) ⟨_,bg _ rfl,rfl,rfl⟩ (da.push _) ?_;have I4:=I3.kept (h':=(s1.heap.push { cls:=.type "dict_items",data:=.fields #[.ref a] }).push { cls:=.type "dict_itemiterator",data:=.fields #[.none,.bool false,.ref a,.int 0 0,.int vs.length 0,.int ep 0,.none,.none] }) (t':=s1.toks) λb q z=>ax _ z;refine⟨_,[_],_,AA a o kvs,H2,rfl,I4,ZN hd,⟨.none,.none,by rw[<- cX];exact bg _ rfl⟩,λb hb=>?_,q2⟩;rw[aC.mp hb];exact I3.u0 (aB _) (I3.cI.fresh (aB _))
 rcases q with⟨e1,q⟩ | ⟨o,e1,q⟩
 .obtain⟨nf,o,g,I2⟩:=I1.freeze e1
  exact go o _ I2 gm (q o nf)
 .exact go o _ I1 e1 q
def Th(X:Cx)(H:Hp)(R:Hp->Prop):Prop:=∃a o kvs,H a=aa (.eU o (.dK kvs))/\(∀o' u,X.H₀ a≠aa (.eU o' u))/\R (upd H a (.dK kvs))
theorem Q1{st:bS}{t:TS}(h:PS X st t):PS X st (λD σ H=>t { D with nx:=fun σ' H'=>Th X H' λoJ=>D.nx σ' oJ,rt:=λv H'=>Th X H' λoJ=>D.rt v oJ } σ H):=by
 intro ah s σ H D I q;refine dF (h ah s σ H _ I q) λf s1 z=>?_;cases f with
 |next=>obtain⟨σ1,H1,I1,a,o,kvs,e,nf,r⟩:=z;exact⟨σ1,_,I1.Az nf e,r⟩
 |ret u=>obtain⟨v,σ1,H1,I1,rv,a,o,kvs,e,nf,r⟩:=z;exact⟨v,σ1,_,I1.Az nf e,rv,r⟩
 |brk=>exact z
 |cont=>exact z
theorem ZR{e:bx}{t:TE}(h:PE X e t):PE X e (fun σ H Q=>t σ H λv H'=>Th X H' λoJ=>Q v oJ):=by
 intro ah s σ H Q I q;refine dF (h ah s σ H _ I q) λu s1 z=>?_;obtain⟨v,H1,I1,rv,a,o,kvs,e,nf,r⟩:=z;exact⟨v,_,I1.Az nf e,rv,r⟩
end
def ze(X:Cx)(scope:iG)(cl:List (Str×ai)):List Str->List Nat->Prop
 |[],[]=>True
 |x::xs,j::js=>(X.N[j]?=aa x/\B' X.env.scope x/\(X.env.kindOf x=aa .cell\/X.env.kindOf x=aa .free)/\((lx scope X.env).names.lookup x=aa .cell\/(lx scope X.env).names.lookup x=aa .free)/\cl.lookup x=X.env.cells.lookup x)/\ze X scope cl xs js
 |_,_=>False
noncomputable def zf(σ:St)(js:List Nat):St:=js.map λj=>(σ[j]?).join
theorem ze.len{X:Cx}{scope:iG}{cl:List (Str×ai)}:∀{xs:List Str} {js:List Nat},ze X scope cl xs js->xs.length=js.length
 |[],[],_=>rfl
 |_::xs,_::js,h=>by simp[ze.len h.2]
theorem ze.get{X:Cx}{scope:iG}{cl:List (Str×ai)}:∀{xs:List Str} {js:List Nat} {k:Nat} {x:Str},ze X scope cl xs js->xs[k]?=aa x->∃j,js[k]?=aa j/\X.N[j]?=aa x/\B' X.env.scope x /\
  (X.env.kindOf x=aa .cell\/X.env.kindOf x=aa .free)/\((lx scope X.env).names.lookup x=aa .cell\/(lx scope X.env).names.lookup x=aa .free)/\cl.lookup x=X.env.cells.lookup x
 |[],[],_,_,_,e=>by simp at e
 | y::xs,j::js,0,x,h,e=>by
   simp at e;subst e;exact⟨j,rfl,h.1⟩
 | y::xs,j::js,k+1,x,h,e=>by
   obtain⟨j',h1,h2⟩:=ze.get (k:=k) h.2 (by simpa using e);exact⟨j',by simpa using h1,h2⟩
abbrev ja(X:Cx)(scope:iG)(cl:List (Str×ai))(N':List Str)(fp:List ai)(s3:aq)(H2:Hp):Cx:=
 { X with N:=N',s₀:=s3,H₀:=H2,env:=mF scope cl s3.heap.objs.size X.env,outer:=X.stack,stack:=X.stack,ex:=fp,fn:=λ_=>false,pn:=[],xe:=λ_ _=>False,kn:=[] }
structure uq(X:Cx)(scope:iG)(cl:List (Str×ai))(ts xs:List Str)(js:List Nat):Prop where
 tL:closureFor scope X.env=pure cl
 vf:∀y∈scope.names,y.2≠.cell
 kind:scope.kind=.function
 names:∀y∈scope.names,y.2=.local->scope.names.lookup y.1=aa .local
 sub:∀p∈cl,X.env.cells.lookup p.1=aa p.2
 has:(scope.names.filter λy=>y.2==.free).all (λy=>(cl.map (·.1)).contains y.1)=true
 Ek:ze X scope cl xs js
def xi:TT:=λ_ H Q=>Q true H
def Hk(p:ai)(J:It)(g:TG)(tc:TT)(te:TE)(Q:VK)(W:Nat->Nat->St->Hp->List V->Prop):Prop:=
 ∀ i m σ2 H2 acc,W i m σ2 H2 acc->H2 p=aa (.lst acc)/\((J.stop i H2/\Q (.ref p) H2)\/(J.go i H2/\∃N:St->Hp->List V->Prop,(∀σ' H' lL,N σ' H' lL->∃m',m'<m/\W (i+1) m' σ' H' lL)/\∀x H3,J.GL i H2 x H3->g x σ2 H3 fun σ4 H4=>tc σ4 H4 λok H5=>
     if ok=true then te σ4 H5 λy H6=>H6 p=aa (.lst acc)/\acc.length<sizeLine/\N σ4 (upd H6 p (.lst (acc++[y]))) (acc++[y]) else N σ4 H5 acc))
def AD(nt:Nat)(js:List Nat)(wi:TI)(g:TG)(tc:TT)(te:TE):TE:=fun σ H Q=>wi σ H λJ H1=>∀p,H1 p=ae ->
 ∃W:Nat->Nat->St->Hp->List V->Prop,(∃m,W 0 m (aQ nt ae++zf σ js) (upd H1 p (.lst [])) [])/\Hk p J g tc te Q W
section
variable {X:Cx}{ah:List (ai×Obj)}{σ:St}{H1:Hp}{s2:aq}{scope:iG}{cl:List (Str×ai)}{ts xs:List Str}{js:List Nat}{fp:List ai}{it:ai}{tn:Nat->bR->Prop}{J:It}{tg:bx}
theorem Q2{s3:aq}{h4:bR}{tk:Nat}{H2:Hp}(C:uq X scope cl ts xs js)(I3:Inv X ah σ H2 s3)(fo:∀b∈fp,k7 X ah H2 b)(fl:∀b∈fp,b<s3.heap.objs.size)
  (ns:∃m,h4.Ns s3.heap.objs.size m) (k:∀b o,s3.heap.get? b=aa o->h4.get? b=aa o) :
  Inv (ja X scope cl (ts++xs) fp s3 H2) [] (aQ ts.length ae++zf σ js) H2 { s3 with heap:=h4,toks:=tk }:=by
 have lk:∀x c,cl.lookup x=aa c->X.env.cells.lookup x=aa c:=λx c e=>C.sub (x,c) (di e);have clt:∀x c,X.env.cells.lookup x=aa c->c<s3.heap.objs.size:=λx c e=>by
  obtain⟨v,o,ho,_⟩:=I3.cell x c e;exact aE ho
 have K':∀x,((lx scope X.env).names.lookup x=aa .cell\/(lx scope X.env).names.lookup x=aa .free)->∃c,cl.lookup x=aa c:=λx h=>by
  have sS:(x,NameKind.free)∈scope.names:=by
   obtain⟨k,hk,hm⟩:∃k,(k=.cell\/k=.free)/\(x,k)∈(lx scope X.env).names:=by
    rcases h with h | h
    .exact⟨_,.inl rfl,di h⟩
    .exact⟨_,.inr rfl,di h⟩
   obtain⟨⟨n,k'⟩,rX,e⟩:=au.mp hm;have nc:=C.vf _ rX;dsimp only at e nc
   split at e
   .rename_i c
    cases e;simp only[cG,beq_iff_eq] at c;rw[<- c.1.1];exact rX
   .cases e
    rcases hk with rfl | rfl
    .exact absurd rfl nc
    .exact rX
  have q:=nF.mp C.has _ (bF.mpr ⟨sS,rfl⟩);have q:x∈cl.map (·.1):=by simpa using q
  obtain⟨⟨y,c⟩,hy,rfl⟩:=au.mp q;cases z:cl.lookup y with
  |some c'=>exact⟨c',rfl⟩
  | none=>
    exfalso;have:=List.lookup_eq_none_iff.mp z (y,c) hy;simp at this
 obtain⟨m,hm⟩:=ns;refine⟨⟨I3.ok.mod,C.kind,I3.ok.glob,I3.ok.blt,aB _,λx y c h1 h2=>I3.ok.inj x y c (lk x c h1) (lk y c h2),λx h=>K' x h,(λx c h=>nomatch h),I3.ok.hd,I3.ok.frames,.inl rfl,λb hb=>⟨aT (fl b hb),λx c e=>(fo b hb).2.2.2.2.1 x c (lk x c e)⟩,
   I3.bs,bJ I3.ok.w6 I3.sz,λb o e hb=>?_,λb hb hf=>?_,I3.stack,I3.nh⟩,
  rfl,I3.bare,Un.kept k,⟨m,hm,λi x v e1 e2 e3=>?_⟩,λx c e=>?_,I3.cI.fresh (aB _),λx c e=>I3.i' x c (lk x c e),λp hp=>absurd hp (by simp),I3.cI.kept k,?_,(λi v e=>nomatch (show(ae:Option (Option V))=aa (aa v) from e))⟩
 .rcases(fo b hb).2.2.2.1 with z | z
  .exact I3.ok.uV b o e z
  .exact absurd (aA (aE (I3.ok.bs b o e).1) z) (dh _)
 .rcases aH.mp (I3.rM b hf) with z | z
  .exact(fo b hb).2.1 z
  .exact(fo b hb).2.2.1 z
 .by_cases hi:i<ts.length
  .rw[aD (by simpa using hi),rh] at e2
   split at e2<;>cases e2
  .have hi:ts.length<=i:=Nat.not_lt.mp hi
   rw[cL hi] at e1;rw[cL (by simpa using hi),fV] at e2;obtain⟨j,hj,hN,hv,hk,oH,hc⟩:=C.Ek.get e1;unfold zf at e2;rw[cT,hj] at e2;have e2:(σ[j]?).join=aa v:=by simpa using e2
   have e4:σ[j]?=aa (aa v):=by
    cases q:σ[j]? with
    |none=>rw[q] at e2;cases e2
    |some o=>rw[q] at e2;exact congrArg aa e2
   obtain⟨m0,_,hl⟩:=I3.loc;obtain⟨u,ru,l⟩:=hl j x v hN e4 hv;refine⟨u,ru,.inr ⟨oH,?_⟩⟩;rcases l with⟨z,_⟩ | ⟨_,c,ec,cc⟩
   .rcases hk with hk | hk<;>(rw[z] at hk;cases hk)
   .obtain⟨oc,ho,hd⟩:=cc
    exact⟨c,hc.trans ec,oc,k _ _ ho,hd⟩
 .obtain⟨v,o,ho,hd⟩:=I3.cell x c (lk x c e)
  exact⟨v,o,k _ _ ho,hd⟩
 .show(aQ ts.length ae++zf σ js).length=(ts++xs).length
  rw[aM,fV,aM,C.Ek.len];simp[zf]
theorem Q3{s3:aq}{H2 H':Hp}{s':aq}{σ':St}(I3:Inv X ah σ H2 s3)(fo:∀b∈fp,k7 X ah H2 b)(Ic:Inv (ja X scope cl (ts++xs) fp s3 H2) [] σ' H' s') :
  Inv X ah σ H' s'/\(∃m,s'.heap.Ns s3.heap.objs.size m)/\H' s3.heap.objs.size=ae:=
 ⟨I3.uW Ic.os Ic.base Ic.cI Ic.bare λb hb=>let ⟨_,f2,_,f4,f5,f6⟩:=fo b hb;⟨f4,f2,f5,f6⟩,let ⟨m,hm,_⟩:=Ic.loc;⟨m,hm⟩,Ic.free⟩
variable {jU iter c:bx}{pos:Pos}{g:TG}{tc:TT}{te:TE}{Q:VK}
def El(Xc:Cx)(fp:List ai)(tn:Nat->bR->Prop)(W:Nat->Nat->St->Hp->List V->Prop)(n:Nat)(s':aq):Prop:=
 ∃i σ' H' acc,Inv Xc [] σ' H' s'/\tn i s'.heap/\(∀b∈fp,H' b=ae)/\W i n σ' H' acc
theorem Q4{Xc:Cx}{p:ai}{W:Nat->Nat->St->Hp->List V->Prop}{n:Nat}{s':aq}{E:ag->aq->Prop}{R:Option ag->aq->Prop}(hc:Xc.calm=true)(T:pf Xc.prog Xc.w Xc.K tg J fp it tn)(go:Hk p J g tc te Q W)
  (hg:PG Xc tg g) (ZS:Xc.xe=λ_ _=>False) (fo:∀{H':Hp} {b:ai},H' b=ae->b∈fp->k7 Xc [] H' b) (h:El Xc fp tn W n s')
  (AE:∀σ' H' s1,Inv Xc [] σ' H' s1->Q (.ref p) H'->R ae s1)
  (Em:∀v s1,wpAny (aN Xc.prog Xc.w) Xc.A (lC tg (.ref it) v) (λ_ s2=>wpAny (aN Xc.prog Xc.w) Xc.A (jk tg Xc.env v) (λ_ s3=>∃(i:Nat) (ah:List (ai×Obj)) (acc:List V) (σ4:St) (H4:Hp) (N:St->Hp->List V->Prop),Inv Xc ah σ4 H4 s3/\(∀σ' H' lL,N σ' H' lL->∃m',m'<n/\W (i+1) m' σ' H' lL) /\
   (∀b∈fp,∃o,(b,o)∈ah/\s3.heap.get? b=aa o)/\(∀h',(∀b∈fp,∀o,s3.heap.get? b=aa o->h'.get? b=aa o)->tn (i+1) h') /\
   tc σ4 H4 λok H5=>if ok=true then te σ4 H5 λy H6=>H6 p=aa (.lst acc)/\acc.length<sizeLine/\N σ4 (upd H6 p (.lst (acc++[y]))) (acc++[y]) else N σ4 H5 acc) E s2) E s1->R (aa v) s1) :
  wpAny (aN Xc.prog Xc.w) Xc.A (pyNext (.ref it)) R E s':=by
 obtain⟨i,σ',H',acc,I,st,fr,w⟩:=h;obtain⟨hp,cs⟩:=go i n σ' H' acc w;rcases cs with⟨stop,q⟩ | ⟨gg,N,hN,step⟩
 .refine dF (T.done Xc rfl rfl rfl hc i [] s' σ' H' E I (λb hb=>fo (fr b hb) hb) st stop) λr s1 cN=>?_
  obtain⟨hr,I1⟩:=cN;subst hr;exact AE σ' H' s1 I1 q
 .refine dF (T.item Xc rfl rfl rfl hc i [] s' σ' H' E I (λb hb=>fo (fr b hb) hb) st gg) λr s1 cN=>?_
  obtain⟨u,hr,h1⟩:=cN;subst hr;refine Em u s1 (dF h1 λ_ s2 cN=>?_);obtain⟨x,H3,I3,r3,y3,Cc,GS⟩:=cN;have ZT:=I3.pinned (λb hb=>fo (GS b hb) hb) (T.obj _ _ Cc);refine bT (hg _ s2 σ' H3 x u _ ZT r3 (step x H3 y3)) (λ_ s3 ⟨σ4,H4,I4,q4⟩=>?_) λe s z=>by rw[ZS] at z;exact z.elim
  have pn:∀b∈fp,∀o,s2.heap.get? b=aa o->s3.heap.get? b=aa o:=λb hb o e=>(I4.pin (b,o) (bc _ (bc _ (GR hb e)))).1;refine⟨i,_,acc,σ4,H4,N,I4,hN,λb hb=>?_,λh' k=>T.keep _ _ _ Cc λb hb o e=>k b hb o (pn b hb o e),q4⟩;obtain⟨o,e,_⟩:=T.obj _ _ Cc b hb;exact⟨o,bc _ (GR hb e),pn b hb o e⟩
theorem Q5(hc:X.calm=true)(C:uq X scope cl ts xs js)(I2:Inv X ah σ H1 s2)(T:pf X.prog X.w X.K tg J fp it tn)(st:tn 0 s2.heap)(fo:∀b∈fp,k7 X ah H1 b)
  (q:∀p,H1 p=ae->∃W:Nat->Nat->St->Hp->List V->Prop,(∃m,W 0 m (aQ ts.length ae++zf σ js) (upd H1 p (.lst [])) [])/\Hk p J g tc te Q W)
  (hg:∀fp s3 H2,PG (ja X scope cl (ts++xs) fp s3 H2) tg g) (ht:∀fp s3 H2,PT (ja X scope cl (ts++xs) fp s3 H2) c tc) (he:∀fp s3 H2,PE (ja X scope cl (ts++xs) fp s3 H2) jU te)
  {RR:ag->ai->BZ->aq->Prop} (La:∀p C H' s',Inv X ah σ H' s'->(∃m,s'.heap.Ns C m)->H' C=ae->s2.heap.objs.size<=C->Q (.ref p) H'->RR (.ref p) C (.ok .next) s') :
  wpAny (aN X.prog X.w) X.A (Dv []) (λacc s3=>wpAny (aN X.prog X.w) X.A (newFunctionEnv scope X.env.globals cl [] X.env.qual ae .none (aa X.env)) (λvg s4=>
   codeAny (aN X.prog X.w) X.A (.compStart (.ListComp jU [⟨tg,iter,[c],0⟩] scope pos) 0 (.ref it) acc { vg with scope:=lx scope X.env }) (RR acc vg.locals) s4) X.xe s3) X.xe s2:=by
 refine Dw (yK C.vf (by intro y hy;simp at hy) (λh4 AF AG=>?_) C.kind);dsimp only at AF AG ⊢;have I3:Inv X ah σ (upd H1 s2.heap.objs.size (.lst [])) { s2 with heap:=s2.heap.push { cls:=.type "list",data:=.seq ([]:List ag).toArray } }:=
  I2.laid (t':=s2.toks) (λb o e=>ax _ e) (aB _) ⟨dJ _,[],_,.nil,bg _ rfl⟩
 generalize AH:({ s2 with heap:=s2.heap.push { cls:=.type "list",data:=.seq ([]:List ag).toArray } }:aq)=s3 at I3;have hsz:s3.heap.objs.size=s2.heap.objs.size+1:=by rw[<- AH];exact gZ ..
 have vh:s2.heap.push { cls:=.type "list",data:=.seq ([]:List ag).toArray }=s3.heap:=by rw[<- AH]
 obtain⟨W,⟨m0,w0⟩,go⟩:=q s2.heap.objs.size (I2.cI.fresh (aB _));have fl:∀b∈fp,b<s2.heap.objs.size:=λb hb=>by
  obtain⟨o,e,_⟩:=T.obj _ _ st b hb;exact aE e
 have AI:∀b∈fp,k7 X ah (upd H1 s2.heap.objs.size (.lst [])) b:=λb hb=>⟨by rw[dr (aT (fl b hb))];exact(fo b hb).1,(fo b hb).2⟩;have k4:∀b o,s3.heap.get? b=aa o->h4.get? b=aa o:=λb o e=>by
  have hb:b≠s3.heap.objs.size:=aT (aE e);rw[vh] at AG;exact AG.extBut b o hb (ax _ e)
 rw[vh] at AF;have Lb:∀b o,s2.heap.get? b=aa o->h4.get? b=aa o:=λb o e=>k4 b o (by rw[<- vh];exact ax _ e);have Eo:tn 0 h4:=T.keep _ _ _ st λb _ o e=>Lb b o e;have Ic:Inv (ja X scope cl (ts++xs) fp s3 (upd H1 s2.heap.objs.size (.lst []))) [] _ (upd H1 s2.heap.objs.size (.lst [])) { s3 with heap:=h4,toks:=s3.toks+([]:List (Str×ag)).length }:=
  Q2 C I3 AI (λb hb=>by rw[hsz];exact jB (fl b hb)) ⟨_,AF⟩ k4
 have Lc:∀{H':Hp} {b:ai},H' b=ae->b∈fp->k7 (ja X scope cl (ts++xs) fp s3 (upd H1 s2.heap.objs.size (.lst []))) [] H' b:=λ{H' b} n hb=>
  ⟨n,aT (show b<s3.heap.objs.size by rw[hsz];exact jB (fl b hb)),λhf=>(Ic.ok.tD b hb) hf,.inl hb,λx c e=>(Ic.ok.GB b hb).2 x c e,λp hp=>absurd hp (by simp)⟩
 have vi:∀s4:aq,s4={ s3 with heap:=h4,toks:=s3.toks+([]:List (Str×ag)).length }->codeAny (aN X.prog X.w) X.A (.compLoop (.ListComp jU [⟨tg,iter,[c],0⟩] scope pos) 0 (.ref it) (.ref s2.heap.objs.size) (mF scope cl s3.heap.objs.size X.env)) (RR (.ref s2.heap.objs.size) s3.heap.objs.size) s4:=by
  rintro s4 rfl;refine PySem.W.kct_loop (El (ja X scope cl (ts++xs) fp s3 (upd H1 s2.heap.objs.size (.lst []))) fp tn W) (λn s' hI=>?_) m0 ⟨0,_,_,[],Ic,Eo,λb hb=>(AI b hb).1,w0⟩;refine Q4 (Xc:=ja X scope cl (ts++xs) fp s3 (upd H1 s2.heap.objs.size (.lst []))) hc T go (hg _ _ _) rfl Lc hI (fun σ' H' s1 I1 q1=>?_) (λv s1 h1=>?_)
  .obtain⟨J1,J2,J3⟩:=Q3 I3 AI I1
   exact La _ _ H' s1 J1 J2 J3 (by rw[hsz];exact jA _) q1
  .refine dF h1 λ_ s5 h5=>dF h5 λ_ s6 h6=>?_
   obtain⟨i,iM,acc,σ4,H4,N,I4,hN,vj,vm,q4⟩:=h6;have fin:∀{H7:Hp} {s7:aq} {lL:List V},Inv (ja X scope cl (ts++xs) fp s3 (upd H1 s2.heap.objs.size (.lst []))) iM σ4 H7 s7->N σ4 H7 lL->∃m,m<n/\El (ja X scope cl (ts++xs) fp s3 (upd H1 s2.heap.objs.size (.lst []))) fp tn W m s7:=λ{H7 s7 lL} I7 n7=>by
    obtain⟨m',hm,w7⟩:=hN _ _ _ n7;refine⟨m',hm,i+1,σ4,H7,lL,I7.ni (λp hp=>absurd hp (by simp)),vm _ λb hb o e=>?_,λb hb=>?_,w7⟩
    .obtain⟨o',rX,e'⟩:=vj b hb
     rw[e] at e';cases e';exact(I7.pin (b,o) (bc _ rX)).1
    .obtain⟨o',rX,e'⟩:=vj b hb
     exact(I7.pin (b,o') (bc _ rX)).2.1
   refine bT (ht fp s3 _ iM s6 σ4 H4 _ I4 q4) (λok s7 cN=>?_) λ_ _ z=>z.elim;obtain⟨H7,I7,q7⟩:=cN;cases ok with
   | false=>
     have n7:N σ4 H7 acc:=by simpa using q7
     have:=fin I7 n7;simpa using this
   | true=>
     have q7:=(if_pos (c:=(true=true)) rfl).mp q7;show wpAny _ _ (eval jU _) _ _ _;refine bT (he fp s3 _ iM s7 σ4 H7 _ I7 q7) (λy s8 cN=>?_) λ_ _ z=>z.elim;obtain⟨yv,H8,I8,ry,e8,l8,n8⟩:=cN;refine bT (KP (X:=ja X scope cl (ts++xs) fp s3 (upd H1 s2.heap.objs.size (.lst []))) iM s8 σ4 H8 (.ref s2.heap.objs.size) [yv] (.ref s2.heap.objs.size) [y] (λ_ H9=>H9=upd H8 s2.heap.objs.size (.lst (acc++[yv]))) I8 rfl (.cons ry .nil) ⟨_,acc,yv,rfl,rfl,e8,l8,rfl⟩) (λ_ s9 cN=>?_) λ_ _ z=>z.elim;obtain⟨_,H9,I9,_,e9⟩:=cN;subst e9;exact fin I9 n8
 have vn:=T.self X.A 0 { s3 with heap:=h4,toks:=s3.toks+([]:List (Str×ag)).length } (λLd s'=>codeAny (aN X.prog X.w) X.A (.compLoop (.ListComp jU [⟨tg,iter,[c],0⟩] scope pos) 0 Ld (.ref s2.heap.objs.size) (mF scope cl s3.heap.objs.size X.env)) (RR (.ref s2.heap.objs.size) s3.heap.objs.size) s') (notedBy (aN X.prog X.w) X.A (mF scope cl s3.heap.objs.size X.env) λx s'=>RR (.ref s2.heap.objs.size) s3.heap.objs.size (.error x) s') Eo (vi _ rfl);subst AH;exact wq (vi _ rfl) vn
theorem Q6(hc:X.calm=true)(C:uq X scope cl ts xs js)(I2:Inv X ah σ H1 s2)(T:pf X.prog X.w X.K tg J fp it tn)(st:tn 0 s2.heap)(fo:∀b∈fp,k7 X ah H1 b)
  (q:∀p,H1 p=ae->∃W:Nat->Nat->St->Hp->List V->Prop,(∃m,W 0 m (aQ ts.length ae++zf σ js) (upd H1 p (.lst [])) [])/\Hk p J g xi te Q W)
  (hg:∀fp s3 H2,PG (ja X scope cl (ts++xs) fp s3 H2) tg g) (he:∀fp s3 H2,PE (ja X scope cl (ts++xs) fp s3 H2) jU te)
  {RR:ag->ai->BZ->aq->Prop} (La:∀p C H' s',Inv X ah σ H' s'->(∃m,s'.heap.Ns C m)->H' C=ae->s2.heap.objs.size<=C->Q (.ref p) H'->RR (.ref p) C (.ok .next) s') :
  wpAny (aN X.prog X.w) X.A (Dv []) (λacc s3=>wpAny (aN X.prog X.w) X.A (newFunctionEnv scope X.env.globals cl [] X.env.qual ae .none (aa X.env)) (λvg s4=>
   codeAny (aN X.prog X.w) X.A (.compStart (.ListComp jU [⟨tg,iter,[],0⟩] scope pos) 0 (.ref it) acc { vg with scope:=lx scope X.env }) (RR acc vg.locals) s4) X.xe s3) X.xe s2:=by
 refine Dw (yK C.vf (by intro y hy;simp at hy) (λh4 AF AG=>?_) C.kind);dsimp only at AF AG ⊢;have I3:Inv X ah σ (upd H1 s2.heap.objs.size (.lst [])) { s2 with heap:=s2.heap.push { cls:=.type "list",data:=.seq ([]:List ag).toArray } }:=
  I2.laid (t':=s2.toks) (λb o e=>ax _ e) (aB _) ⟨dJ _,[],_,.nil,bg _ rfl⟩
 generalize AH:({ s2 with heap:=s2.heap.push { cls:=.type "list",data:=.seq ([]:List ag).toArray } }:aq)=s3 at I3;have hsz:s3.heap.objs.size=s2.heap.objs.size+1:=by rw[<- AH];exact gZ ..
 have vh:s2.heap.push { cls:=.type "list",data:=.seq ([]:List ag).toArray }=s3.heap:=by rw[<- AH]
 obtain⟨W,⟨m0,w0⟩,go⟩:=q s2.heap.objs.size (I2.cI.fresh (aB _));have fl:∀b∈fp,b<s2.heap.objs.size:=λb hb=>by
  obtain⟨o,e,_⟩:=T.obj _ _ st b hb;exact aE e
 have AI:∀b∈fp,k7 X ah (upd H1 s2.heap.objs.size (.lst [])) b:=λb hb=>⟨by rw[dr (aT (fl b hb))];exact(fo b hb).1,(fo b hb).2⟩;have k4:∀b o,s3.heap.get? b=aa o->h4.get? b=aa o:=λb o e=>by
  have hb:b≠s3.heap.objs.size:=aT (aE e);rw[vh] at AG;exact AG.extBut b o hb (ax _ e)
 rw[vh] at AF;have Lb:∀b o,s2.heap.get? b=aa o->h4.get? b=aa o:=λb o e=>k4 b o (by rw[<- vh];exact ax _ e);have Eo:tn 0 h4:=T.keep _ _ _ st λb _ o e=>Lb b o e;have Ic:Inv (ja X scope cl (ts++xs) fp s3 (upd H1 s2.heap.objs.size (.lst []))) [] _ (upd H1 s2.heap.objs.size (.lst [])) { s3 with heap:=h4,toks:=s3.toks+([]:List (Str×ag)).length }:=
  Q2 C I3 AI (λb hb=>by rw[hsz];exact jB (fl b hb)) ⟨_,AF⟩ k4
 have Lc:∀{H':Hp} {b:ai},H' b=ae->b∈fp->k7 (ja X scope cl (ts++xs) fp s3 (upd H1 s2.heap.objs.size (.lst []))) [] H' b:=λ{H' b} n hb=>
  ⟨n,aT (show b<s3.heap.objs.size by rw[hsz];exact jB (fl b hb)),λhf=>(Ic.ok.tD b hb) hf,.inl hb,λx c e=>(Ic.ok.GB b hb).2 x c e,λp hp=>absurd hp (by simp)⟩
 have vi:∀s4:aq,s4={ s3 with heap:=h4,toks:=s3.toks+([]:List (Str×ag)).length }->codeAny (aN X.prog X.w) X.A (.compLoop (.ListComp jU [⟨tg,iter,[],0⟩] scope pos) 0 (.ref it) (.ref s2.heap.objs.size) (mF scope cl s3.heap.objs.size X.env)) (RR (.ref s2.heap.objs.size) s3.heap.objs.size) s4:=by
  rintro s4 rfl;refine PySem.W.kcp_loop (El (ja X scope cl (ts++xs) fp s3 (upd H1 s2.heap.objs.size (.lst []))) fp tn W) (λn s' hI=>?_) m0 ⟨0,_,_,[],Ic,Eo,λb hb=>(AI b hb).1,w0⟩;refine Q4 (Xc:=ja X scope cl (ts++xs) fp s3 (upd H1 s2.heap.objs.size (.lst []))) hc T go (hg _ _ _) rfl Lc hI (fun σ' H' s1 I1 q1=>?_) (λv s1 h1=>?_)
  .obtain⟨J1,J2,J3⟩:=Q3 I3 AI I1
   exact La _ _ H' s1 J1 J2 J3 (by rw[hsz];exact jA _) q1
  .refine dF h1 λ_ s5 h5=>dF h5 λ_ s6 h6=>?_
   obtain⟨i,iM,acc,σ4,H4,N,I4,hN,vj,vm,q4⟩:=h6;have fin:∀{H7:Hp} {s7:aq} {lL:List V},Inv (ja X scope cl (ts++xs) fp s3 (upd H1 s2.heap.objs.size (.lst []))) iM σ4 H7 s7->N σ4 H7 lL->∃m,m<n/\El (ja X scope cl (ts++xs) fp s3 (upd H1 s2.heap.objs.size (.lst []))) fp tn W m s7:=λ{H7 s7 lL} I7 n7=>by
    obtain⟨m',hm,w7⟩:=hN _ _ _ n7;refine⟨m',hm,i+1,σ4,H7,lL,I7.ni (λp hp=>absurd hp (by simp)),vm _ λb hb o e=>?_,λb hb=>?_,w7⟩
    .obtain⟨o',rX,e'⟩:=vj b hb
     rw[e] at e';cases e';exact(I7.pin (b,o) (bc _ rX)).1
    .obtain⟨o',rX,e'⟩:=vj b hb
     exact(I7.pin (b,o') (bc _ rX)).2.1
   have q4:te σ4 H4 (λy H6=>H6 s2.heap.objs.size=aa (.lst acc)/\acc.length<sizeLine/\N σ4 (upd H6 s2.heap.objs.size (.lst (acc++[y]))) (acc++[y])):=by
    have z:=q4;unfold xi at z;dsimp only at z;rw[if_pos rfl] at z;exact z
   refine bT (he fp s3 _ iM s6 σ4 H4 _ I4 q4) (λy s8 cN=>?_) λ_ _ z=>z.elim;obtain⟨yv,H8,I8,ry,e8,l8,n8⟩:=cN;refine bT (KP (X:=ja X scope cl (ts++xs) fp s3 (upd H1 s2.heap.objs.size (.lst []))) iM s8 σ4 H8 (.ref s2.heap.objs.size) [yv] (.ref s2.heap.objs.size) [y] (λ_ H9=>H9=upd H8 s2.heap.objs.size (.lst (acc++[yv]))) I8 rfl (.cons ry .nil) ⟨_,acc,yv,rfl,rfl,e8,l8,rfl⟩) (λ_ s9 cN=>?_) λ_ _ z=>z.elim;obtain⟨_,H9,I9,_,e9⟩:=cN;subst e9;exact fin I9 n8
 have vn:=T.self X.A 0 { s3 with heap:=h4,toks:=s3.toks+([]:List (Str×ag)).length } (λLd s'=>codeAny (aN X.prog X.w) X.A (.compLoop (.ListComp jU [⟨tg,iter,[],0⟩] scope pos) 0 Ld (.ref s2.heap.objs.size) (mF scope cl s3.heap.objs.size X.env)) (RR (.ref s2.heap.objs.size) s3.heap.objs.size) s') (notedBy (aN X.prog X.w) X.A (mF scope cl s3.heap.objs.size X.env) λx s'=>RR (.ref s2.heap.objs.size) s3.heap.objs.size (.error x) s') Eo (vi _ rfl);subst AH;exact wq (vi _ rfl) vn
theorem Q7{C:ai}{H':Hp}{s':aq}{h':bR}(I2:Inv X ah σ H1 s2)(I:Inv X ah σ H' s')(n:H' C=ae)(hC:s2.heap.objs.size<=C)(hs:iU C s'.heap h'):Inv X ah σ H' { s' with heap:=h' }:=by
 refine I.turned (t':=s'.toks) (it:=C) (λb o hb e=>hs.extBut b o hb e) n (km (aA I2.lt hC)) (.inr (bJ I2.sz hC)) (λx c e=>?_) λp hp=>?_
 .obtain⟨v,o,ho,_⟩:=I2.cell x c e
  exact aT (aA (aE ho) hC)
 .exact aT (aA (aE (I2.pin p hp).1) hC)
end
section
variable {X:Cx}{jU iter c tg:bx}{pos:Pos}{g:TG}{tc:TT}{te:TE}{wi:TI}{scope:iG}{cl:List (Str×ai)}{ts xs:List Str}{js:List Nat}
theorem Q8(hc:X.calm=true)(C:uq X scope cl ts xs js)(hi:PI X tg iter wi)(hg:∀fp s3 H2,PG (ja X scope cl (ts++xs) fp s3 H2) tg g)(ht:∀fp s3 H2,PT (ja X scope cl (ts++xs) fp s3 H2) c tc)(he:∀fp s3 H2,PE (ja X scope cl (ts++xs) fp s3 H2) jU te)
  (hs:∀x,ck iter X.env x=pure x:=by intro _;rfl):PE X (.ListComp jU [⟨tg,iter,[c],0⟩] scope pos) (AD ts.length js wi g tc te):=by
 intro ah s σ H Q I h;rw[eval_ListComp];refine gW (use:=ae) rfl hs C.tL C.kind C.names (dF (hi ah s σ H _ I h) λxv s1 h1=>dF h1 λCb s2 h2=>?_);obtain⟨it,fp,tn,J,H1,rfl,I2,T,uo,fo,q⟩:=h2;exact Q5 (RR:=yL (aN X.prog X.w) X.A X.xe ae (EP X ah σ Q)) hc C I2 T uo fo q hg ht he λp D H' s' I' ns n hD q'=>by
  obtain⟨m,hm⟩:=ns;exact⟨m,hm,λh' sb=>⟨.ref p,H',Q7 I2 I' n hD sb,rfl,q'⟩⟩
theorem ZU(hc:X.calm=true)(C:uq X scope cl ts xs js)(hi:PI X tg iter wi)(hg:∀fp s3 H2,PG (ja X scope cl (ts++xs) fp s3 H2) tg g)(he:∀fp s3 H2,PE (ja X scope cl (ts++xs) fp s3 H2) jU te)
  (hs:∀x,ck iter X.env x=pure x:=by intro _;rfl):PE X (.ListComp jU [⟨tg,iter,[],0⟩] scope pos) (AD ts.length js wi g xi te):=by
 intro ah s σ H Q I h;rw[eval_ListComp];refine gW (use:=ae) rfl hs C.tL C.kind C.names (dF (hi ah s σ H _ I h) λxv s1 h1=>dF h1 λCb s2 h2=>?_);obtain⟨it,fp,tn,J,H1,rfl,I2,T,uo,fo,q⟩:=h2;exact Q6 (RR:=yL (aN X.prog X.w) X.A X.xe ae (EP X ah σ Q)) hc C I2 T uo fo q hg he λp D H' s' I' ns n hD q'=>by
  obtain⟨m,hm⟩:=ns;exact⟨m,hm,λh' sb=>⟨.ref p,H',Q7 I2 I' n hD sb,rfl,q'⟩⟩
theorem ZV{i:Nat}{y:Str}{py nR:Pos}(hc:X.calm=true)(C:uq X scope cl ts xs js)(hi:PI X tg iter wi)(hg:∀fp s3 H2,PG (ja X scope cl (ts++xs) fp s3 H2) tg g)(he:∀fp s3 H2,PE (ja X scope cl (ts++xs) fp s3 H2) jU te)
  (hN:X.N.Nodup) (hy:X.N[i]?=aa y) (hx:Loc X.env.scope y) (hkn:∀u:V,X.kn[i]?≠aa (aa u)) (hf:X.fn y=true\/X.env.scope.names.lookup y=aa .local:=by first | exact .inl rfl | exact .inr rfl | assumption)
  (AJ:fP (.ListComp jU [⟨tg,iter,[],0⟩] scope pos) (aa (.Name y py)) nR.line X.env=pure true:=by rfl)
  (hs:∀x,ck iter X.env x=pure x:=by intro _;rfl):PS X (.Assign [.Name y py] (.ListComp jU [⟨tg,iter,[],0⟩] scope pos) nR) (uZ (AD ts.length js wi g xi te) (wB i)):=by
 intro ah s σ H D I h;rw[wW _ _ _ _ AJ];refine aG (iX (aG ?_));show wpAny _ X.A (do let _ <- comprehension (.ListComp jU [⟨tg,iter,[],0⟩] scope pos) scope X.env _ (Dv []) false (eval iter X.env) (aa (jk (.Name y py) X.env))) _ _ s;refine aG (bT (gW (use:=aa (jk (.Name y py) X.env)) (Q:=λ_ s'=>SP X ah D .next s') rfl hs C.tL C.kind C.names (dF (hi ah s σ H _ I h) λxv s1 h1=>dF h1 λCb s2 h2=>?_)) (λ_ s' hq=>bE (bE hq)) λ_ _ e=>e);obtain⟨it,fp,tn,J,H1,rfl,I2,T,uo,fo,q⟩:=h2;refine Q6 (Q:=λx H1=>wB i x σ H1 D.nx) (g:=g) (te:=te) (RR:=yL (aN X.prog X.w) X.A X.xe (aa (jk (.Name y py) X.env)) (λ_ s'=>SP X ah D .next s')) hc C I2 T uo fo q hg he λp E H' s' I' ns n hE q'=>?_;obtain⟨m,hm⟩:=ns;show wpAny _ X.A (jk (.Name y py) X.env (.ref p)) _ _ _;refine oY (JY I' hN hy hx (show RelV (.ref p) (.ref p) from rfl) (λs3 I3 cN=>?_) hf hkn);obtain⟨b,sb,hb⟩:=cN;refine⟨m,hm.sameBut sb (λz=>?_),λh' Le=>⟨_,H',?_,q'⟩⟩
 .rcases hb with hb | hb
  .exact absurd (aA I2.lt hE) (by rw[z,hb];exact dh _)
  .obtain⟨v,o,ho,_⟩:=I2.cell y b hb
   exact absurd (aA (aE ho) hE) (by rw[z];exact dh _)
 .refine I3.turned (t':=s3.toks) (it:=E) (λb o hb e=>Le.extBut b o hb e) n (km (aA I2.lt hE)) (.inr (bJ I2.sz hE)) (λx c e=>?_) λp hp=>?_
  .obtain⟨v,o,ho,_⟩:=I2.cell x c e
   exact aT (aA (aE ho) hE)
  .exact aT (aA (aE (I2.pin p hp).1) hE)
end
section
variable {X:Cx}
theorem Q9(hc:X.calm=true):rN X (.type "list") (λxs H Q=>∃a kvs,xs=[.ref a]/\Rd H a (.dK kvs)/\∀l,H l=ae->Q (.ref l) (upd H l (.lst (kvs.map λp=>kV p.1)))):=by
 intro ah s σ H xs us Q I r h;obtain⟨a,kvs,rfl,rd,q⟩:=h;obtain⟨u,rfl,ru⟩:=Al r;cases ru;obtain⟨zl,zm,vs,rv,d⟩:=xa I.cI rd;obtain⟨ep,da⟩:=d.dictAt;have hl:kvs.length=vs.length:=rv.length;refine W.kdl_call (W.kdl_dict (knd:=kq X.prog X.w) (kvs:=vs) (ep:=ep) zm) (I.ok.hd hc) da (by omega) λh' tk acc c k e Ep=>?_;refine⟨.ref s.heap.objs.size,_,I.laid (t':=tk) (o:=.lst (kvs.map λp=>kV p.1)) k (aB _) ⟨by rw[ba];exact zl,acc.toList,c,?_,by simpa using e⟩,rfl,q _ (I.cI.fresh (aB _))⟩;obtain⟨n1,n2⟩:=Ep;have go:∀(ks:List (cg×V)) (as:List ag),ks.length=as.length->(∀(j:Nat) (u:ag),as[j]?=aa u->∃p:cg×V,ks[j]?=aa p/\RelV (kV p.1) u)->cj (ks.map λp=>kV p.1) as:=by
  intro ks
  induction ks with
  |nil=>intro as hl _;cases as with|nil=>exact .nil | cons _ _=>simp at hl
  | cons p ks ih=>
    intro as hl h;cases as with
    |nil=>simp at hl
    | cons u as=>
      obtain⟨p',e1,r1⟩:=h 0 u rfl;simp at e1;subst e1;exact .cons r1 (ih as (by simpa using hl) λj w' e=>by simpa using h (j+1) w' (by simpa using e))
 refine go kvs acc.toList (by have z:acc.toList.length=acc.size:=iH;omega) λj u e=>?_;obtain⟨k',x',e1,e2⟩:=n2 j u (by rw[<- ko];exact e);have hj:j<kvs.length:=by rw[hl];exact(aw.mp e1).1
 obtain⟨w',e3,_⟩:=rv.at (i:=j) (k:=(kvs[j]).1) (v:=(kvs[j]).2) (by simp[hj]);rw[e1] at e3;cases e3;exact⟨kvs[j],by simp[hj],K9 e2⟩
theorem ZW:rN X (.builtin "isinstance") (λxs H Q=>∃x c cu t b,xs=[x,c]/\RelV c cu/\(∀u,RelV c u->u=cu)/\j7 X.K H x t/\W.kitOne X.K t cu=aa b/\Q (.bl b) H):=by
 intro ah s σ H xs us Q I r h;obtain⟨x,c,cu,t,b,rfl,_,hu,ty,e,q⟩:=h;obtain⟨u,w',rfl,rx,rc⟩:=Yc r;cases hu w' rc;exact Yp I rx ty e λtk=>⟨.bl b,H,I.tok tk,rfl,q⟩
theorem Q_:∀{ys:List Str} {us:List ag},cj (ys.map V.str) us->StrsAre us ys
 |[],[],_=>.nil
 | y :: ys,u::us,h=>by
   cases h with
   | cons p t=>
     obtain⟨tk,rfl⟩:=p;exact .cons _ _ (Q_ t)
 |[],_::_,h=>nomatch h
 |_::_,[],h=>nomatch h
theorem ZX:Aq X "str.join" (λx xs H Q=>∃z l ys,x=.str z/\xs=[.ref l]/\lH X.K H l (ys.map V.str)/\(ys.map (·.length)).sum+ys.length*z.length<=16777216/\Q (.str (qc z ys)) H):=by
 intro ah s σ H x xs v us Q I rx rv h;obtain⟨z,l,ys,rfl,rfl,sq,hz,q⟩:=h;obtain⟨t,rfl⟩:=rx;obtain⟨u,rfl,ru⟩:=rv.one;cases ru;obtain⟨cy,r,pl,_⟩:=I.list sq;exact join_list pl.isList (Q_ r) hz λt' k=>⟨.str _,H,I.tok k,⟨t',rfl⟩,q⟩
theorem ZY{e:bx}{te:TE}{pos:Pos}(he:PE X e te):PE X (.FormattedValue e 114 ae pos) (fun σ H Q=>te σ H λv H1=>∃y,v=.str y/\(cR y).length<=sizeLine/\Q (.str (cR y)) H1):=by
 intro ah s σ H Q I h;refine tq (dF (he ah s σ H _ I h) λv s1 cN=>?_);obtain⟨x,H1,I1,r,y,e,l,q⟩:=cN;subst e;obtain⟨t,rfl⟩:=r;refine wpAny_pyReprObj_str (hsz:=l) ?_;exact JN (hsz:=l) λt' tk=>⟨.str _,H1,I1.tok tk,⟨t',rfl⟩,q⟩
def tJ:Str->List TE->TE
 |acc,[]=>λ_ H Q=>acc.length<=sizeLine/\Q (.str acc) H
 |acc,t::ts=>fun σ H Q=>t σ H λv H1=>∃y,v=.str y/\(acc++y).length<=sizeLine/\tJ (acc++y) ts σ H1 Q
inductive PJ(X:Cx):List bx->List TE->Prop where
 |nil:PJ X [] []
 |cons {e:bx} {es:List bx} {t:TE} {ts:List TE}:PE X e t->PJ X es ts->PJ X (e::es) (t::ts)
theorem ZZ{es:List bx}{ts:List TE}(hj:PJ X es ts):∀{acc:Str} {ah:List (ai×Obj)} {s:aq} {σ:St} {H:Hp} {Q:VK},Inv X ah σ H s->tJ acc ts σ H Q ->
  wpAny (aN X.prog X.w) X.A (joinParts acc (evalEach es X.env)) (EP X ah σ Q) X.xe s:=by
 induction hj with
 |nil=>intro acc ah s σ H Q I h;exact joinParts_nil (hsz:=h.1) ⟨.str acc,H,I.tok _,⟨_,rfl⟩,h.2⟩
 | @cons e es t ts he hj ih=>
   intro acc ah s σ H Q I h;show wpAny _ _ (joinParts acc (eval e X.env::evalEach es X.env)) _ _ _;refine joinParts_cons (dF (he ah s σ H _ I h) λv s1 cN=>?_);obtain⟨x,H1,I1,r,y,e,l,q⟩:=cN;subst e;obtain⟨tk,rfl⟩:=r;exact⟨l,ih I1 q⟩
theorem Ra{a b:bx}{r:List bx}{ts:List TE}{pos:Pos}(h:PJ X (a::b::r) ts):PE X (.JoinedStr (a::b::r) pos) (tJ fu ts):=λah s σ H Q I q=>JoinedStr_many (ZZ h I q)
end
theorem Z3{prog:aU}{w:bz}{A:cp}{E:ag->aq->Prop}{s:aq}{Q:Int->aq->Prop}(h:Q 0xFCA86420 { s with toks:=s.toks+1 }):wpAny (aN prog w) A (pyHash .none) Q E s:=by
 have hT:s.TypeIs .none "NoneType":=rfl;show wpAny _ _ (JO .none) Q E s;unfold JO;refine aG ?_;rw[cRoomFor,if_neg (by decide)];refine bE ?_;refine aG (rj hT fY.lookup ?_);rw[if_neg (by decide)];refine aG (rj hT fY.lookup ?_);show wpAny _ _ (callSpecialIfBoundUnlessNone? .none "__hash__" _ >>= _) Q E s;refine aG (wpAny_callSpecialIfBoundUnlessNone?_slot hT fY (wpAny_call_entry fY hT PySem.F.entry_NoneType_hash
  (show wpAny _ _ (do ret (<- mkInt 0xFCA86420)) _ _ s from wpAny_ret_mkInt ?_) (PySem.F.args_NoneType_hash_1 _)))
 show wpAny _ _ (if(decide (-(2:Int) ^ 63<=0xFCA86420)&&decide ((0xFCA86420:Int)<2 ^ 63))=true then _ else _) Q E _;rw[if_pos (by decide)];exact bE h
noncomputable def Lf:Option cg->ag->Bool
 |none,.none=>true
 |none,_=>false
 |some k,v=>yR k v
noncomputable def Lg(w:bz):Option cg->Int
 |none=>0xFCA86420
 |some k=>DB w k
theorem zg{v:ag}(h:Lf ae v=true):v=.none:=by
 cases v<;>first | rfl | cases h
theorem Lh{k:cg}(h:yR k .none=true):False:=by
 rcases tz h with⟨_,_,_,e⟩ | ⟨_,_,_,e⟩<;>cases e
noncomputable def Li (prog:aU) (w:bz):zU prog w (Option cg) where
 is:=Lf
 hash:=Lg w
 inj:=λv a b ha hb=>by
  cases a with
  | none=>
    cases b with
    |none=>rfl
    |some b=>cases zg ha;exact(Lh hb).elim
  | some a=>
    cases b with
    |none=>cases zg hb;exact(Lh ha).elim
    |some b=>exact congrArg aa ((kq prog w).inj v a b ha hb)
 byValue:=λk v h=>by
  cases k with
  |none=>cases zg h;rfl
  |some k=>exact(kq prog w).byValue k v h
 pyHash:=λ{A E s k v Q} hv h=>by
  cases k with
  |none=>cases zg hv;exact Z3 h
  |some k=>exact(kq prog w).pyHash (k:=k) hv h
 eqBool:=λ{A E s a b u v Q} hu hv h=>by
  cases a with
  | none=>
    cases zg hu;cases b with
    |none=>cases zg hv;exact sM _ _ _ _ _ (by simpa using h)
    | some b=>
      rcases tz hv with⟨i,t,rfl,rfl⟩ | ⟨x,t,rfl,rfl⟩
      .exact pV _ _ _ _ _ _ (by simpa using h)
      .exact pW _ _ _ _ _ _ (by simpa using h)
  | some a=>
    cases b with
    | none=>
      cases zg hv;rcases tz hu with⟨i,t,rfl,rfl⟩ | ⟨x,t,rfl,rfl⟩
      .exact pX _ _ _ _ _ _ (by simpa using h)
      .exact pY _ _ _ _ _ _ (by simpa using h)
    |some b=>exact(kq prog w).eqBool (a:=a) (b:=b) hu hv (by simpa using h)
 «strs»:=λk x t v h=>by
  cases k with
  |none=>cases h
  |some k=>exact(kq prog w).strs k x t v h
theorem Z4{P:aU}{w:bz}{h:bR}{a:ai}{vs:List (cg×ag)}(d:h.DictOf (kq P w) a vs):∃f,h.MapOf (Li P w) a f/\f ae=ae:=by
 obtain⟨o,es,ep,ho,ex,hd,nK,r⟩:=id d;refine⟨λk=>BY (Li P w).is es k,⟨o,es,ep,ho,ex,hd,λe he=>?_,λk=>rfl⟩,?_⟩
 .obtain⟨k,h1,h2⟩:=nK e he
  exact⟨aa k,h1,h2⟩
 .show BY Lf es ae=ae
  unfold BY;rw[qE,Array.find?_eq_none];intro e he z;obtain⟨k,h1,_⟩:=nK e he;rw[zg z] at h1;exact Lh h1
section
variable {X:Cx}{o i:bx}{td ty:TE}
def Z5(ty td:TE):TE:=fun σ H Q=>ty σ H λy H1=>td σ H1 λx H2=>∃a,x=.ref a/\((∃r,nJ H2 a y r/\Q (.bl r.isSome) H2)\/(y=.bq/\(∃kvs,Rd H2 a (.dK kvs))/\Q (.bl false) H2))
theorem Rb(hu:X.A.units+1<gc)(hi:PE X i ty)(ho:PE X o td):PC X .In i o (Z5 ty td):=by
 intro ah s σ H Q I h;refine dF (hi ah s σ H _ I h) λv s1 cN=>?_;obtain⟨y,H1,I1,ry,q1⟩:=cN;refine dF (ho ah s1 σ H1 _ I1 q1) λu s2 cN=>?_;obtain⟨x,H2,I2,rx,a,ex,q2⟩:=cN;subst ex;cases (show u=aS a from rx);rcases q2 with⟨r,g,q⟩ | ⟨ey,⟨kvs,rd⟩,q⟩
 .exact Kz hu I2 g ry λs' I'=>⟨.bl _,H2,I',rfl,q⟩
 .subst ey
  cases (show v=fE from ry);obtain⟨z,hd,vs,j9,dd⟩:=xa I2.cI rd;obtain⟨f,mf,fn⟩:=Z4 dd;refine wpAny_in_of (knd:=Li X.prog X.w) (k:=ae) (f:=f) rfl hd mf ?_;rw[fn];exact⟨.bl false,H2,I2.tok _,rfl,q⟩
end
section
variable {X:Cx}
theorem Rf:kJ X (dg .Is) (λx y H Q=>∃a b,x=.bl a/\y=.bl b/\Q (.bl (a==b)) H):=by
 intro ah s σ H x y v u Q I rx ry h;obtain⟨a,b,rfl,rfl,q⟩:=h;cases rx;cases ry;refine wpAny_is_plain rfl ⟨.bl (a==b),H,I,?_,q⟩;show d_ (d_ a==d_ b)=d_ (a==b);cases a<;>cases b<;>rfl
end
section
variable {X:Cx}
theorem Hl{xs:List V}{i:Nat}{z:V}(f:xs.all nO=true)(h:xs[i]?=aa z):nO z=true:=nF.mp f z (kX h)
theorem cj.at:∀{xs:List V} {us:List ag},cj xs us->∀{i:Nat} {u:ag},us[i]?=aa u->∃x,xs[i]?=aa x/\RelV x u
 |_,_,.nil,i,u,h=>by simp at h
 | _,_,.cons r t,0,u,h=>by
   simp at h;subst h;exact⟨_,rfl,r⟩
 | _,_,.cons r t,i+1,u,h=>by
   obtain⟨x,h1,h2⟩:=cj.at t (i:=i) (u:=u) (by simpa using h);exact⟨x,by simpa using h1,h2⟩
end
section
variable {X:Cx}{jU iter c tg:bx}{pos:Pos}{g:TG}{tc:TT}{te:TE}{wi:TI}{scope:iG}{cl:List (Str×ai)}{ts xs:List Str}{js:List Nat}
theorem Z6{i:Nat}{y:Str}{py nR:Pos}(hc:X.calm=true)(C:uq X scope cl ts xs js)(hi:PI X tg iter wi)(hg:∀fp s3 H2,PG (ja X scope cl (ts++xs) fp s3 H2) tg g)(ht:∀fp s3 H2,PT (ja X scope cl (ts++xs) fp s3 H2) c tc)(he:∀fp s3 H2,PE (ja X scope cl (ts++xs) fp s3 H2) jU te)
  (hN:X.N.Nodup) (hy:X.N[i]?=aa y) (hx:Loc X.env.scope y) (hkn:∀u:V,X.kn[i]?≠aa (aa u)) (hf:X.fn y=true\/X.env.scope.names.lookup y=aa .local:=by first | exact .inl rfl | exact .inr rfl | assumption)
  (AJ:fP (.ListComp jU [⟨tg,iter,[c],0⟩] scope pos) (aa (.Name y py)) nR.line X.env=pure true:=by rfl)
  (hs:∀x,ck iter X.env x=pure x:=by intro _;rfl):PS X (.Assign [.Name y py] (.ListComp jU [⟨tg,iter,[c],0⟩] scope pos) nR) (uZ (AD ts.length js wi g tc te) (wB i)):=by
 intro ah s σ H D I h;rw[wW _ _ _ _ AJ];refine aG (iX (aG ?_));show wpAny _ X.A (do let _ <- comprehension (.ListComp jU [⟨tg,iter,[c],0⟩] scope pos) scope X.env _ (Dv []) false (eval iter X.env) (aa (jk (.Name y py) X.env))) _ _ s;refine aG (bT (gW (use:=aa (jk (.Name y py) X.env)) (Q:=λ_ s'=>SP X ah D .next s') rfl hs C.tL C.kind C.names (dF (hi ah s σ H _ I h) λxv s1 h1=>dF h1 λCb s2 h2=>?_)) (λ_ s' hq=>bE (bE hq)) λ_ _ e=>e);obtain⟨it,fp,tn,J,H1,rfl,I2,T,uo,fo,q⟩:=h2;refine Q5 (Q:=λx H1=>wB i x σ H1 D.nx) (g:=g) (tc:=tc) (te:=te) (RR:=yL (aN X.prog X.w) X.A X.xe (aa (jk (.Name y py) X.env)) (λ_ s'=>SP X ah D .next s')) hc C I2 T uo fo q hg ht he λp E H' s' I' ns n hE q'=>?_;obtain⟨m,hm⟩:=ns;show wpAny _ X.A (jk (.Name y py) X.env (.ref p)) _ _ _;refine oY (JY I' hN hy hx (show RelV (.ref p) (.ref p) from rfl) (λs3 I3 cN=>?_) hf hkn);obtain⟨b,sb,hb⟩:=cN;refine⟨m,hm.sameBut sb (λz=>?_),λh' Le=>⟨_,H',?_,q'⟩⟩
 .rcases hb with hb | hb
  .exact absurd (aA I2.lt hE) (by rw[z,hb];exact dh _)
  .obtain⟨v,o,ho,_⟩:=I2.cell y b hb
   exact absurd (aA (aE ho) hE) (by rw[z];exact dh _)
 .refine I3.turned (t':=s3.toks) (it:=E) (λb o hb e=>Le.extBut b o hb e) n (km (aA I2.lt hE)) (.inr (bJ I2.sz hE)) (λx c e=>?_) λp hp=>?_
  .obtain⟨v,o,ho,_⟩:=I2.cell x c e
   exact aT (aA (aE ho) hE)
  .exact aT (aA (aE (I2.pin p hp).1) hE)
end
end L2
namespace L2
open PySem PySem.Spec PyProof.Rows PySem.Builtin PySem.Builtin.ObjectAttr
noncomputable def qf(C:ai)(dx:Option ai)(t:ai):Obj:={ cls:=.ref C,dict:=dx,data:=.fields #[.ref t,.none,.none,.none,.bool false,.none] }
noncomputable def Cj:List ag->List ag
 |.ref _::r=>Cj r
 |l=>l
noncomputable def Hm(l:List ag):Bool:=Cj l==lK
theorem Rg(self:ag):∀l:List ag,B4 self "__setattr__" l=B4 self "__setattr__" (Cj l)
 |[]=>rfl
 |v::r=>by cases v<;>first | rfl | (rw[refuseLoop_ref];exact Rg self r)
theorem Rh(n:String):∀l:List ag,l.contains (.type n)=(Cj l).contains (.type n)
 |[]=>rfl
 | v::r=>by
   cases v
   case ref a=>rw[cY,show(l7 n==aS a)=false from rfl,qw];exact Rh n r
   all_goals rfl
theorem Z7(self:ag){l:List ag}(e:Hm l=true):B4 self "__setattr__" l=pure ():=by
 rw[Rg,show Cj l=lK from eq_of_beq e];exact PySem.F.store_ValueError.passes self
theorem Ri{l:List ag}(e:Hm l=true){n:String}(h:lK.contains (.type n)=true):l.contains (.type n)=true:=by
 rw[Rh,show Cj l=lK from eq_of_beq e];exact h
theorem Z8{l:List ag}(e:Hm l=true):l.contains (.type "object")=true/\l.contains (.type "ValueError")=true/\l.isEmpty=false:=by
 refine⟨Ri e (by decide +kernel),Ri e (by decide +kernel),?_⟩;cases l with
 |nil=>cases e
 |cons _ _=>rfl
noncomputable def Hn(K:W.Frag)(C:ai):Bool:=(W.clsIn K C).any λcd=>Hm cd.mro
structure rY(K:W.Frag)(C:ai):Prop where
 sa:W.findIn K (.ref C) "__setattr__" = aa (aa (.builtin "object.__setattr__"))
 hd:W.hasDictIn K C=true
 over:Hn K C=true
section
variable {prog:aU}{w:bz}{A:cp}{E:ag->aq->Prop}{s:aq}{K:W.Frag}{x C:ai}{R:BZ->aq->Prop}
theorem Er{ox:Obj}{od:Option Obj}{name:Str}{tk:Tok}{v:ag}(X:K.In s.heap)(I:W.InstAt s.heap x ox C od)(hp:Hn K C=true)(hn:W.findIn K (.ref C) name=aa ae)
  (h:wpAny (aN prog w) A.in1 (storeInOwnDict (.ref x) (.ref C) (.str name tk) name v false)
   (λfin s'=>match fin with|.done f=>R (.ok f) s' | .again c'=>c'.quiet=true/\codeAny (aN prog w) A c' R s') (λe s'=>R (.error e) s') s) :
  codeAny (aN prog w) A (.call (.builtin "object.__setattr__") ⟨[.ref x,.str name tk,v],[]⟩) R s:=by
 have SF:=PySem.F.store_object;obtain⟨cd,hc,ho⟩:=W.any_some hp;obtain⟨o1,o2,o3⟩:=Z8 ho;have Lj:W.Looks (aN prog w) s.heap (isInstance (.ref x) (.type "object")) true:=
  I.type.andThen (W.looks_mroIn X (by unfold W.mroIn;rw[hc,mV,if_neg (by rw[o3];decide),o1]))
 refine yM SF.slot.plain SF.entry (@W.check_slot (aN prog w) _ _ s "object.__setattr__" "object" "__setattr__" (.ref x) [.str name tk,v] [] _ SF.kind SF.split Lj (SF.args (.ref x) (.str name tk) v) ?_);have ml:W.Looks (aN prog w) s.heap (mroOf (.ref C)) cd.mro:=(W.looks_clsIn X hc).andThen .now;rw[W.osa_eq,refuse_eq];refine aG (aG (I.type.here (aG (ml.here ?_))));rw[Z7 _ ho];exact bE (aG (I.type.here (aG ((W.looks_findIn X hn).here (aG (bE h))))))
theorem Z9{dx t:ai}{mA:Str->Option ag}{name:Str}{v:ag}{ns:List Str}{Q:Unit->aq->Prop}(X:K.In s.heap)(c:rY K C)(hn:W.findIn K (.ref C) name=aa ae)
  (hx:s.heap.get? x=aa (qf C (aa dx) t)) (mZ:dx≠x) (n:s.heap.Ns1 dx mA) (hw:jW mA ns) (hsz:ns.length<sizeLine)
  (h:∀h',h'.Ns1 dx (λy=>if y=name then aa v else mA y)->iU dx s.heap h'->Q () { s with heap:=h',toks:=s.toks+2 }) :
  wpAny (aN prog w) A (Dn (.ref x) name v) Q E s:=by
 obtain⟨od,ho,hl⟩:=P6 n;have J:W.InstAt s.heap x (qf C (aa dx) t) C (aa od):=⟨hx,rfl,rfl,ho⟩;refine W.set_plain X J c.sa (Er (s:={ s with toks:=s.toks+1 }) X J c.over hn ?_);obtain⟨cd,hc,wz⟩:=W.any_some c.hd;refine aG (bE (aG (aG (sI hx (aG (W.Looks.here (s:={ s with toks:=s.toks+1 }) (W.looks_clsIn X hc) ?_))))));rw[wz];refine bE (a:=aa dx) (aG (bE (aG ?_)));refine wa (s:={ s with toks:=s.toks+1 }) n λh' u4 GV=>?_;obtain⟨oD,P7,P8,DX,DY,DZ⟩:=u4.count (pS name v hw);refine aG (pT DX (by rw[DY];exact pU (bJ DZ (by rw[aY];omega))) ?_);exact bE (h _ u4 GV)
theorem Z_{t:ai}{name:Str}{v:ag}{Q:Unit->aq->Prop}(X:K.In s.heap)(c:rY K C)(hn:W.findIn K (.ref C) name=aa ae)
  (hx:s.heap.get? x=aa (qf C ae t))
  (h:∀h',h'.Ns1 s.heap.objs.size (λy=>if y=name then aa v else ae)->h'.get? x=aa (qf C (aa s.heap.objs.size) t)->(∀b o,b≠x->s.heap.get? b=aa o->h'.get? b=aa o)->Q () { s with heap:=h',toks:=s.toks+2 }) :
  wpAny (aN prog w) A (Dn (.ref x) name v) Q E s:=by
 have J:W.InstAt s.heap x (qf C ae t) C ae:=⟨hx,rfl,rfl,trivial⟩;refine W.set_plain X J c.sa (Er (s:={ s with toks:=s.toks+1 }) X J c.over hn ?_);obtain⟨cd,hc,wz⟩:=W.any_some c.hd;obtain⟨hh,g,d,tk,os⟩:=s;refine aG (bE (aG (aG (sI hx (aG (W.Looks.here (s:=⟨hh,g,d,tk+1,os⟩) (W.looks_clsIn X hc) ?_))))));rw[wz];have Rj:(hh.push { cls:=.type "dict",data:=.dict #[] }).get? x=aa (qf C ae t):=ax _ hx;have Rk:x≠hh.objs.size:=aT (aE hx);let h1:=(hh.push { cls:=.type "dict",data:=.dict #[] }).update x λo=>{ o with dict:=aa hh.objs.size };have gd:h1.get? hh.objs.size=aa { cls:=.type "dict",data:=.dict #[] }:=(lD _ _ _ _ Rk.symm).trans (Heap.get?_push_at rfl rfl);have gx:h1.get? x=aa (qf C (aa hh.objs.size) t):=ij _ Rj rfl;have nd:h1.Ns hh.objs.size (λ_=>ae):=⟨_,#[],_,gd,rfl,λe he=>absurd he (by simp),λ_=>rfl⟩;have main:wpAny (aN prog w) A.in1 (storeInDict hh.objs.size (.str name tk) name v) (λfin s'=>match fin with|.done f=>(match f with|.ret _=>Q () s' | _=>False) | .again c'=>False) (λ_ _=>False) ⟨h1,g,d,tk+1,os⟩:=by
  unfold storeInDict newKeyGuard;refine aG (bE (aG (wa (sJ nd) λh' yT hs=>?_)));obtain⟨oD,P7,P8,DX,DY,DZ⟩:=yT.count (Within.cons name v Within.nil);refine aG (pT DX (by rw[DY];exact pU (bJ DZ (by rw[aY,oC,dR];omega))) ?_);refine bE (h h' yT ((hs.2 x Rk).trans gx) λb o hb q=>(hs.2 b (aT (aE q))).trans ((lD _ _ _ _ hb).trans (ax _ q)))
 rw[if_neg (by decide)];show wpAny _ _ (if(!true || !typeHasDict (.ref C))=true then pure ae else _) _ _ _;rw[if_neg (by simp[typeHasDict])];refine aG (wpAny_alloc' (aG (wpAny_update' Rj (bE (bT main (λfin s' z=>?_) λ_ _ z=>z.elim)))));rcases fin with(_ | _ | _ | _) | _<;>first | exact z | exact z.elim
noncomputable def px(K:W.Frag)(C fI:ai):Bool:=match K.lookup C with
 | some ⟨.type "type",_,.cls cd,sl⟩=>(match cd.mro,sl.toList with
   |.ref C'::bm,[_,_,_,_,aa (.builtin n),_]=>C'==C&&n == "ValueError.__new__" && !cd.hasDel&&W.tailIn K lK bm&&W.nsOkIn K cd.ns&&W.nsIn K cd.ns "__init__" == aa (aa (.ref fI))
   |_,_=>false)
 |_=>false
theorem Z'{h:bR}{N:ai}{mN:Str->Option ag}{n:Str}{v:ag}(X:K.In h)(G:h.Ns N mN)(e:W.nsIn K N n=aa (aa v)):mN n=aa v:=by
 obtain⟨ob,ents,_,g1,g2,_,look⟩:=G;unfold W.nsIn at e
 split at e
 case h_1 q=>
  have z:=X _ _ q;rw[g1] at z;cases z;cases g2;rw[<- look];unfold nsFind BY;rw[<- ug]
  split at e
  case h_1 he=>cases e;rw[he];rfl
  case h_2=>split at e<;>cases e
 case h_2=>cases e
theorem Es{h:bR}{fI:ai}(X:K.In h)(q:px K C fI=true) :
  ∃bm N nm qn bs qL sn sub ab yZ dd k0 k1 k2 k3 k5 mN,h.get? C=aa (excClassObj nm qn C N bs bm qL sn sub ab yZ dd k0 k1 k2 k3 k5 "ValueError.__new__")/\h.Ns N mN/\mN "__init__" = aa (.ref fI)/\OwnTail h lK bm:=by
 unfold px at q
 split at q
 .rename_i ZC Hh slt look
  split at q
  .rename_i C2 Ei j0 j1 j2 j3 QU j5 em es
   simp only[cG,beq_iff_eq,wo] at q;obtain⟨⟨⟨⟨⟨c1,c2⟩,c3⟩,tl⟩,jY⟩,noI⟩:=q;subst c1 c2;have ob:=X _ _ look;obtain⟨a1,a2,a3,a4,a5,a6,a7,a8,a9,b1,b2⟩:=Hh;have em:a3=.ref C2::Ei:=em;have c3:b2=false:=c3;have K2:slt=#[j0,j1,j2,j3,aa (.builtin "ValueError.__new__"),j5]:=by
    obtain⟨l⟩:=slt;exact congrArg Array.mk es
   rw[em,c3,K2] at ob;exact⟨_,_,_,_,_,_,_,_,_,_,_,_,_,_,_,_,_,ob,.of_isNs (W.isNs_of_in X jY),Z' X (.of_isNs (W.isNs_of_in X jY)) noI,W.tail_of_in X tl⟩
  .cases q
 .cases q
theorem zuz{B:ai}{pl:Sem Bool}{Q:ag×List ag->aq->Prop}(X:K.In s.heap)(hg:W.specialIn K (.ref B) "__getattribute__" = aa (aa (.builtin "type.__getattribute__")))
  (hr:W.readsIn K B (.type "type")=true) (e:W.findCls K (.ref B) (.type "type") "__init__" = aa (.val (.builtin "ValueError.__init__")))
  (h:Q (.builtin "ValueError.__init__",[]) { s with toks:=s.toks+1 }):wpAny (aN prog w) A (gK (.ref B) "__init__" pl) Q E s:=
 W.method_cls X hg (W.cls_value X hr e (by rfl) h)
theorem zy2{fI:ai}{dx:Option ai}{t:ai}{m:ag}{Q:ag->aq->Prop}(X:K.In s.heap)(q:px K C fI=true)(hx:s.heap.get? x=aa (qf C dx t))
  (h:∀h' t' Ho,h'.get? x=aa (qf C dx t')->(∀b o,b≠x->s.heap.get? b=aa o->h'.get? b=aa o)->Q .none { s with heap:=h',toks:=Ho }) :
  wpAny (aN prog w) A (call (.builtin "ValueError.__init__") [.ref x,m]) Q E s:=by
 obtain⟨bm,N,nm,qn,bs,qL,sn,sub,ab,yZ,dd,k0,k1,k2,k3,k5,mN,hC,hN,hni,T⟩:=Es X q;have F:=iQ;obtain⟨hh,g,d,tk,os⟩:=s;refine oi (yM F.init.plain F.initEntry (wpAny_check_init_subT F T hC hx rfl ?_))
 wp_walk
 exact h _ hh.objs.size tk (by rw[ij _ (ax _ hx) rfl];rfl) λb o hb q=>(lD _ _ _ _ hb).trans (ax _ q)
structure Rl(h h':bR)(e C:ai):Prop where
 keeps:∀b o,h.get? b=aa o->h'.get? b=aa o
 new:h.objs.size<=e
 obj:∃t,h'.get? e=aa (qf C ae t)
theorem zy3{fI:ai}{oI:Obj}{us:List ag}{Q:Fin->aq->Prop}(X:K.In s.heap)(q:px K C fI=true)(hf:s.heap.get? fI=aa oI)(Lk:oI.cls=.type "function")(cX:us.length<=sizeLine)
  (hq:∀h' e,Rl s.heap h' e C->wpAny (aN prog w) A (call (.ref fI) (.ref e::us)) (λr s'=>r=.none/\Q (.done (.ret (.ref e))) s') E { s with heap:=h' }) :
  wpAny (aN prog w) A (Builtin.«type.__call__» ⟨.ref C::us,[]⟩) Q E s:=by
 obtain⟨bm,N,nm,qn,bs,qL,sn,sub,ab,yZ,dd,k0,k1,k2,k3,k5,mN,gC,gN,gi,T⟩:=Es X q;have F:=iQ;obtain⟨hh,g,d,tk,os⟩:=s
 repeat (first | with_reducible refine eX gC ?_ | with_reducible refine wpAny_madeBy_exc gC ?_ | wp_step)
 refine codeAny_call_builtin_code (uQ _ F.quiet) (wpAny_check_new_subT F T gC ?_);refine codeAny_exc_new_subT F T gC ?_ cX;let h1:=(hh.push { cls:=.type "tuple",data:=.seq us.toArray }).push { cls:=.ref C,data:=.fields #[.ref hh.objs.size,.none,.none,.none,.bool false,.none] };have kp:∀b o,hh.get? b=aa o->h1.get? b=aa o:=λb o z=>ax _ (ax _ z);have ge:h1.get? (hh.objs.size+1)=aa { cls:=.ref C,data:=.fields #[.ref hh.objs.size,.none,.none,.none,.bool false,.none] }:=by
  have:=bg (hh.push { cls:=.type "tuple",data:=.seq us.toArray }) (o:=qf C ae hh.objs.size) rfl;rwa[gZ] at this
 have Rm:=kp _ _ gC;have Et:(aS C::bm).contains (.ref C)=true:=by simp
 have gN1:h1.Ns N mN:=gN.keeps kp;show wpAny _ _ _ _ _ (⟨h1,g,d,tk,os⟩:aq);unfold isInstance
 repeat (first | with_reducible refine eX ge ?_ | (with_reducible refine jm Rm ?_;rw[Et]) | wp_step)
 show wpAny _ _ (B1 (.ref C) _) _ _ _;refine wpAny_typeLookup_tail Rm gN1 (T.keeps kp) F.mroIs F.init.lookup ?_;rw[gi];refine iV (aG ?_);unfold bindSpecial;refine aG (wpAny_typeOf (T := "function") ⟨_,kp _ _ hf,Lk⟩ ?_);rw[if_pos (by decide)];refine bE (aG (bT (hq h1 (hh.objs.size+1) ⟨kp,jA _,_,ge⟩) (λr s' z=>?_) λ_ _ z=>z));obtain⟨rfl,z⟩:=z
 wp_walk
 exact z
theorem Zd8{fI:ai}{oI:Obj}{us:List ag}{Q:ag->aq->Prop}(X:K.In s.heap)(q:px K C fI=true)(hf:s.heap.get? fI=aa oI)(Lk:oI.cls=.type "function")(cX:us.length<=sizeLine)
  (hq:∀h' e,Rl s.heap h' e C->wpAny (aN prog w) (A.under (.builtin "type.__call__" ⟨.ref C::us,[]⟩)) (call (.ref fI) (.ref e::us)) (λr s'=>r=.none/\Q (.ref e) s') E { s with heap:=h' }) :
  wpAny (aN prog w) A (call (.ref C) us) Q E s:=by
 obtain⟨bm,N,nm,qn,bs,qL,sn,sub,ab,yZ,dd,k0,k1,k2,k3,k5,mN,gC,gN,gi,T⟩:=Es X q;have r1:=tc_lookup;have r2:=tc_bind (.ref C);have isT:s.TypeIs (.ref C) "type":=⟨_,gC,rfl⟩;refine oi (codeAny_of_tree ?_);show wpAny _ _ (callAny (.ref C) _) _ _ _;obtain⟨hh,g,d,tk,os⟩:=s
 repeat (any_goals (first | assumption | with_reducible refine eX gC ?_ | wp_step))
 refine⟨rfl,?_⟩;exact codeAny_call_builtin_at (uQ _ (by decide +kernel)) entry_typeCall (wpAny_check_type_call_sub gC (zy3 X q hf Lk cX λh' e mk=>hq h' e mk))
theorem Za7{env:Env}{fI:ai}{m:Sem ag}{Q:Flow->aq->Prop}(q:px K C fI=true)(hd:A.handled=ae)
  (h:wpAny (aN prog w) A m (λv s1=>K.In s1.heap/\∃e t dx,v=.ref e/\s1.heap.get? e=aa (qf C dx t)/\E (.ref e) s1) E s):wpAny (aN prog w) A (raiseStmt env (aa m) ae) Q E s:=by
 unfold raiseStmt;refine aG (bT h (λv s1 z=>?_) λ_ _ z=>z);obtain⟨X,e,t,dx,rfl,ge,hE⟩:=z;obtain⟨bm,N,nm,qn,bs,qL,sn,sub,ab,yZ,dd,k0,k1,k2,k3,k5,mN,gC,gN,gi,T⟩:=Es X q;have isB:(aS C::bm).contains (.type "BaseException")=true:=by rw[cY,T.hasType iQ.hasBase,Du]
 obtain⟨hp,g,d,tk,os⟩:=s1;have ge:hp.get? e=aa { cls:=.ref C,dict:=dx,data:=.fields #[.ref t,.none,.none,.none,.bool false,.none] }:=ge
 repeat (first | with_reducible refine eX ge ?_ | with_reducible refine eX gC ?_ | (with_reducible refine jm gC ?_;rw[isB]) | wp_step)
 exact wpAny_raiseNew_none hd hE
theorem Za8{env:Env}{fI:ai}{y:Str}{np dX pos:Pos}{args:List bx}{Q:Flow->aq->Prop}(q:px K C fI=true)(hd:A.handled=ae)(gX:(bL dX (av args env)).any (·.1)=false)
  (h:wpAny (aN prog w) A (eval (.Name y np) env) (λf s1=>f=.ref C/\wpAny (aN prog w) A (evalArgs (.ref C) true (bL dX (av args env)) []) (λa s2=>a.kw=[]/\K.In s2.heap /\
   wpAny (aN prog w) A (call (.ref C) a.pos) (λv s3=>K.In s3.heap/\∃e t dx,v=.ref e/\s3.heap.get? e=aa (qf C dx t)/\E (.ref e) s3) E s2) E s1) E s) :
  wpAny (aN prog w) A (exec (.Raise (aa (.Call (.Name y np) args [] dX)) ae pos) env) Q E s:=by
 rw[arm_exec_Raise];have core:wpAny (aN prog w) A (eval (.Call (.Name y np) args [] dX) env) (λv s3=>K.In s3.heap/\∃e t dx,v=.ref e/\s3.heap.get? e=aa (qf C dx t)/\E (.ref e) s3) E s:=by
  refine wpAny_Call_ofName (bT h (λf s1 z=>?_) λ_ _ z=>z);obtain⟨rfl,z⟩:=z;unfold i9;refine aG (iV (bT z (λa s2 y2=>aG (iX ?_)) λ_ _ z=>z));obtain⟨ap,ak⟩:=a;obtain⟨e1,X,y2⟩:=y2;obtain rfl:ak=[]:=e1;obtain⟨bm,N,nm,qn,bs,qL,sn,sub,ab,yZ,dd,k0,k1,k2,k3,k5,mN,gC,gN,gi,T⟩:=Es X q;obtain⟨hp,g,d,tk,os⟩:=s2;simp only[gX];refine aG (wpAny_keeperOf_exc gC ?_);exact aG (bT y2 (λv s3 z=>aG (iV (wpAny_point (bE z)))) λ_ _ z=>z)
 exact aG (iX (Za7 q hd (aG (bT core (λv s3 z=>aG (iX (bE z))) λ_ _ z=>z))))
end
end L2
namespace L2
open PySem PySem.Spec PyProof.Rows
noncomputable def i5(x C:ai)(dx:Option ai):HO:=.ext λh=>∃t,h.get? x=aa (qf C dx t)
noncomputable def tM(H:Hp)(a:ai):Hp:=λb=>if b=a then ae else H b
theorem zh{H:Hp}{a b:ai}(h:b≠a):tM H a b=H b:=by unfold tM;rw[if_neg h]
theorem Eu{H:Hp}{a:ai}:tM H a a=ae:=by unfold tM;rw[if_pos rfl]
theorem Za9{H:Hp}{a:ai}{o:HO}(e:H a=aa o):upd H a o=H:=by
 funext b;unfold upd;split
 .rename_i z;rw[z,e]
 .rfl
section
variable {P:aU}{w:bz}{H:Hp}{h h':bR}{x C d:ai}{dx:Option ai}{t:ai}{fs wx:List (Str×V)}
theorem Ll(e:h.get? x=aa (qf C dx t)):ku P w H h x (i5 x C dx):=⟨⟨t,e⟩,⟨_,e⟩,λ_ _ z k=>let ⟨t,e⟩:=z;⟨t,k _ e⟩⟩
theorem Hq(ok:iZ P w H h)(e:H x=aa (i5 x C dx)):∃t,h.get? x=aa (qf C dx t):=(ok x _ e).1
theorem iZ.rZ(ok:iZ P w H h)(hd:H d=aa (.xd fs))(k:∀b u,b≠d->h.get? b=aa u->h'.get? b=aa u)(new:ku P w (upd H d (.xd wx)) h' d (.xd wx)):iZ P w (upd H d (.xd wx)) h':=λb u q=>by
 by_cases hb:b=d
 .subst hb;rw[gm] at q;cases q;exact new
 .rw[dr hb] at q
  refine(ok b u q).mX (λc v hc r=>k c v ?_ r) (λc r=>?_) λc xs r=>?_
  .rintro rfl
   rcases hc with z | z
   .exact hb z.symm
   .rw[hd] at z;cases z
  .rw[dr];exact r
   rintro rfl;rw[hd] at r;cases r
  .rw[dr];exact r
   rintro rfl;rw[hd] at r;cases r
theorem Un.rZ{fr ex:List ai}(hd:H d=aa (.xd fs))(k:∀b u,b≠d->h.get? b=aa u->h'.get? b=aa u)(hdo:∃u,h'.get? d=aa u):Un fr ex H (upd H d (.xd wx)) h h':=by
 have ne:∀b,H b=ae->b≠d:=λb n z=>by rw[z,hd] at n;cases n
 refine⟨λb u q n _ _=>k b u (ne b n) q,λb u q n _ _=>⟨u.slots,k b u (ne b n) q⟩,λb u q n _=>by rw[dr (ne b n)];exact n,λb u q _=>?_,
  λb xs q=>?_,λb u xs q=>?_,λb ps q=>⟨#[],?_⟩⟩
 .by_cases z:b=d
  .subst z;exact hdo
  .exact⟨u,k b u z q⟩
 .rw[dr];exact q
  rintro rfl;rw[hd] at q;cases q
 .rw[dr];exact q
  rintro rfl;rw[hd] at q;cases q
 .rw[dr,q];simp
  rintro rfl;rw[hd] at q;cases q
theorem iZ.tM(ok:iZ P w H h){φ:bR->Prop}(e:H x=aa (.ext φ)):iZ P w (tM H x) h:=λb u q=>by
 by_cases hb:b=x
 .subst hb;rw[Eu] at q;cases q
 .rw[zh hb] at q
  refine(ok b u q).mX (λ_ _ _ z=>z) (λc r=>?_) λc xs r=>?_
  .rw[zh];exact r
   rintro rfl;rw[e] at r;cases r
  .rw[zh];exact r
   rintro rfl;rw[e] at r;cases r
end
theorem mem_of_lookup{g:Str}{v:V}:∀{fs:List (Str×V)},fs.lookup g=aa v->g∈fs.map (·.1)
 | (k,u)::r,e=>by
   by_cases z:g=k
   .rw[z];exact az
   .have hb:(g==k)=false:=beq_eq_false_iff_ne.mpr z
    rw[bK,hb] at e;exact ao _ (mem_of_lookup e)
theorem z0y{fs:List (Str×V)}{mA:Str->Option ag}(r:∀f,jo (fs.lookup f) (mA f)):jW mA (fs.map (·.1)):=λg hg=>by
 have z:=r g;cases e:fs.lookup g with
 |some v=>exact mem_of_lookup e
 | none=>
   rw[e] at z;cases q:mA g with
   |none=>exact absurd q hg
   |some u=>rw[q] at z;exact z.elim
def Lm(K:W.Frag)(t:TA):TE:=fun σ H Q=>t σ H λvs H1=>∃a m C fI dx,vs=[.ref a,m]/\H1 a=aa (i5 a C dx)/\px K C fI=true/\Q .bq H1
section
variable {X:Cx}{E:XK}{B:ai}{y f:Str}{np cC pos iq:Pos}{e o value:bx}{es:List bx}{t:TA}{ta tv:TE}
theorem Ro{pl:Sem Bool}(hg:Gl X y)(hm:X.mg y=aa (.ref B))(h1:W.specialIn X.K (.ref B) "__getattribute__" = aa (aa (.builtin "type.__getattribute__")))
  (h2:W.readsIn X.K B (.type "type")=true) (h3:W.findCls X.K (.ref B) (.type "type") "__init__" = aa (.val (.builtin "ValueError.__init__"))) (ha:PA X (e::es) t)
  (kC:(y==("__debug__" : Str))=false:=by decide) (eY:av (e::es) X.env=(false,eval e X.env)::av es X.env:=by rfl) (gX:(bL pos (av es X.env)).any (·.1)=false:=by rfl)
  (ht:eval (.Call (.Attribute (.Name y np) "__init__" cC) (e::es) [] pos) X.env=(do
   let ov <- eval (.Name y np) X.env
   ju cC.atName
   let (f,first) <- iA [ov] (gK ov "__init__" pl)
   i9 pos f first (bL pos (av (e::es) X.env)) (eG pos (cQ [] X.env))):=by rfl) :
  PE X (.Call (.Attribute (.Name y np) "__init__" cC) (e::es) [] pos) (Lm X.K t):=by
 intro ah s σ H Q I h;refine W.methodCall_KW (pl:=pl) (Ab I hg hm ?_ kC) ht;refine zuz I.jX h1 h2 h3 ?_;refine kY (dF (ha pos ah _ σ H _ (I.tok _) h) λus s1 cN=>?_) eY gX;obtain⟨vs,H1,I1,r1,a,m,C,fI,dx,ev,ea,q,z⟩:=cN;subst ev;cases r1 with
 | cons ra rm=>
   cases rm with
   | cons rm0 rn=>
     cases rn;obtain rfl:=(show _=aS a from ra);obtain⟨t0,hx⟩:=Hq I1.cI ea;refine zy2 I1.jX q hx λh' t' Ho g k=>⟨.bq,H1,?_,rfl,z⟩;have I2:=I1.write (h':=h') (t':=Ho) (x:=a) (e:=a) (o:=i5 a C dx) (by rw[ea];exact trivial) (.inl rfl) k ⟨_,g⟩ (Ll g);rw[Za9 ea] at I2;exact I2
def Hr(K:W.Frag)(ta tv:TE)(f:Str):TS:=λD σ H=>tv σ H λy H1=>ta σ H1 λx H2=>∃a C,x=.ref a/\rY K C/\W.findIn K (.ref C) f=aa ae /\
 ((H2 a=aa (i5 a C ae)/\∀d,H2 d=ae->D.nx σ (upd (upd H2 a (i5 a C (aa d))) d (.xd [(f,y)]))) \/
  ∃d fs,H2 a=aa (i5 a C (aa d))/\H2 d=aa (.xd fs)/\fs.length<1000/\D.nx σ (upd H2 d (.xd (iN f y fs))))
theorem Ln(ha:PE X o ta)(hv:PE X value tv)(hs:fP value (aa (.Attribute o f iq)) pos.line X.env=pure false):PS X (.Assign [.Attribute o f iq] value pos) (Hr X.K ta tv f):=by
 intro ah s σ H D I h;refine o6 (dF (hv ah s σ H _ I h) λu s1 cN=>?_) hs;obtain⟨y,H1,I1,ry,q⟩:=cN;refine dF (ha ah s1 σ H1 _ I1 q) λov s2 cN=>?_;obtain⟨x,H2,I2,rx,a,C,ex,c,n,q2⟩:=cN;subst ex;obtain rfl:ov=aS a:=rx;rcases q2 with⟨ea,q2⟩ | ⟨d,fs,ea,ed,hl,q2⟩
 .obtain⟨t,hx⟩:=Hq I2.cI ea
  refine Z_ I2.jX c n hx λh' n1 g k=>⟨σ,_,?_,q2 s2.heap.objs.size (I2.cI.fresh (aB _))⟩;have ha':a≠s2.heap.objs.size:=aT (aE hx);have hd0:H2 s2.heap.objs.size=ae:=I2.cI.fresh (aB _);have na:∀b,H2 b=ae->b≠a:=λb z w=>by rw[w,ea] at z;cases z
  have nd:∀b v,s2.heap.get? b=aa v->b≠s2.heap.objs.size:=λb v z=>aT (aE z);have nk:∀b v,H2 b=aa v->(∀φ,v≠.ext φ)->upd (upd H2 a (i5 a C (aa s2.heap.objs.size))) s2.heap.objs.size (.xd [(f,y)]) b=aa v:=λb v z w=>by
   rw[dr (λq=>by rw[q,hd0] at z;cases z),dr (λq=>by rw[q,ea] at z;cases z;exact w _ rfl)];exact z
  have un:Un X.fs [] H2 (upd (upd H2 a (i5 a C (aa s2.heap.objs.size))) s2.heap.objs.size (.xd [(f,y)])) s2.heap h':=
   ⟨λb v z nn _ _=>k b v (na b nn) z,λb v z nn _ _=>⟨v.slots,k b v (na b nn) z⟩,λb v z nn _=>by rw[dr (nd b v z),dr (na b nn)];exact nn,
    λb v z _=>(by
     by_cases w:b=a
     .rw[w];exact⟨_,g⟩
     .exact⟨v,k b v w z⟩),
    λb xs z=>nk b _ z (by intro _ w;cases w),λb v xs z=>nk b _ z (by intro _ w;cases w),λb ps z=>⟨#[],by rw[nk b _ z (by intro _ w;cases w)];simp⟩⟩
  refine I2.un un λb v z=>?_;by_cases w:b=s2.heap.objs.size
  .subst w
   rw[gm] at z;cases z;refine⟨_,n1,λg'=>?_⟩;show jo (bK g' [(f,y)]) (if g'=f then aa u else ae);by_cases z2:g'=f
   .have hb:(g'==f)=true:=beq_iff_eq.mpr z2
    simp only[bK,hb,if_pos z2];exact ry
   .have hb:(g'==f)=false:=beq_eq_false_iff_ne.mpr z2
    simp only[bK,hb,if_neg z2];trivial
  .rw[dr w] at z
   by_cases w2:b=a
   .subst w2
    rw[gm] at z;cases z;exact Ll g
   .rw[dr w2] at z
    refine(I2.cI b v z).mX (λc' v' hc r=>k c' v' ?_ r) (λc' r=>nk c' _ r (by intro _ w;cases w)) λc' xs r=>nk c' _ r (by intro _ w;cases w);rcases hc with q | q
    .rw[q];exact w2
    .rintro rfl;rw[ea] at q;cases q
 .obtain⟨t,hx⟩:=Hq I2.cI ea
  obtain⟨mA,n1,r⟩:=I2.cI d _ ed;have mZ:d≠a:=λz=>by rw[z,ea] at ed;cases ed
  have wi:=z0y r;refine Z9 I2.jX c n hx mZ n1 wi (by rw[ba,dR];omega) λh' n2 sb=>⟨σ,_,?_,q2⟩;obtain⟨od,_,_,hod,_⟩:=id n2;refine I2.un (Un.rZ ed (λb v hb z=>(sb.2 b hb).trans z) ⟨od,hod⟩) (I2.cI.rZ ed (λb v hb z=>(sb.2 b hb).trans z) ⟨_,n2,λg=>?_⟩);show jo ((iN f y fs).lookup g) (if g=f then aa u else mA g);rw[Km];by_cases z:g=f
  .rw[if_pos z,if_pos z];exact ry
  .rw[if_neg z,if_neg z];exact r g
end
def Hs(X:Cx)(E:XK):Prop:=∀(ah:List (ai×Obj)) (σ:St) (H1:Hp) (s1:aq) (H:Hp) (s:aq) (ea C t:ai) (dx:Option ai),Inv X ah σ H1 s1->s1.heap.objs.size<=ea->Inv X ah σ H s ->
 H ea=aa (i5 ea C dx)->s.heap.get? ea=aa (qf C dx t)->E (.ref C) dx (tM H ea)->X.xe (.ref ea) s
section
variable {P:aU}{w:bz}{K:W.Frag}{mg:Str->Option ag}{base:bR}{N:List Str}{qual:Str}{scope:iG}{f:ai}{cd:ag}{A:cp}{outer:List Env}{s₀:aq}{H₀:Hp}{E:XK}
theorem Rp:Hs (ir (dM P w) P w K mg base N qual scope f cd A outer s₀ H₀ E) E:=by
 intro ah σ H1 s1 H s ea C t dx I1 Ck I eH he hE;let X:=ir (dM P w) P w K mg base N qual scope f cd A outer s₀ H₀ E;let B:=W.hideAll s.heap (ea::mI X.stack);have qK:∀b,b∈mI X.stack↔b=X.env.locals\/b∈mI outer:=λb=>by
  show b∈X.env.locals::mI outer↔_;exact aH
 have AK:∀b o,s₀.heap.get? b=aa o->b≠ea:=λb o e=>aT (aA (aE e) (bJ I1.sz Ck));have hF:s.heap.FunFrames B X.stack:=W.funFrames_hide I.stack λenv hv a ha=>ao _ (jc.mpr ⟨env,hv,ha⟩);have hB:B.get? ea=ae:=W.hideAll_none _ az;have kB:∀b o,s.heap.get? b=aa o->b≠ea->b∉mI X.stack->B.get? b=aa o:=λb o e n1 n2=>W.hideAll_get _ e λm=>(aH.mp m).elim n1 n2;have Lo:∀b v,H b=aa v->(∀φ,v≠.ext φ)->tM H ea b=aa v:=λb v z q=>by
  rw[zh (λy=>by rw[y,eH] at z;cases z;exact q _ rfl)];exact z
 show wpAny (aN P w) X.A (wb X.env (.ref ea)) _ _ _;refine bT (Hf (e:=ea) (d:=dx) QS ⟨_,he,rfl⟩ (wpAny_leaving_firstW (Q:=λ_ s2=>∃h1,s2={ s with heap:=h1 }/\Heap.LeftW B X.stack ea (.ref C) (.ref t) s.heap h1)
  (base:=B) (env:=X.env) (outer:=outer) (L:=X.env.locals) (a0:=.ref t) I.ok.frames hF rfl he (λb o q=>W.of_hideAll _ q) hB rfl rfl rfl λh1 k=>⟨h1,rfl,k⟩)) (λ_ s2 z=>?_) λ_ _ z=>z.1
 obtain⟨⟨h1,rfl,k1,⟨_,_,k2⟩,k3,k4⟩,yY⟩:=z;refine⟨ea,.ref C,.ref t,B,tM H ea,dx,rfl,I.os,I.bare,⟨k1,hB,k2,k3⟩,?_,λb o e n hb=>?_,λb o e n hb=>?_,λb o e n=>?_,λb o e hb=>?_,λb xs e=>?_,λb o u e=>?_,λb ps e=>?_,yY,hE⟩
 .refine iZ.hide (iZ.tM I.cI eH) λb hb=>?_
  rcases aH.mp hb with z | z
  .rw[z];exact Eu
  .by_cases q:b=ea
   .rw[q];exact Eu
   .rw[zh q];exact I.nh b z
 .have hL:b≠X.env.locals:=aT (aA (aE e) I.ok.above)
  refine kB b o (I.base.keep b o e n hb (by simp[ir])) (AK b o e) λm=>?_;rcases(qK b).mp m with z | z
  .exact hL z
  .exact hb z
 .obtain⟨sl,e1⟩:=I.base.slot b o e n hb (by simp[ir])
  obtain⟨o',e',nd⟩:=(I.stack.mem ((qK b).mpr (.inr hb))).2;rw[e1] at e';cases e';obtain⟨GD,e2⟩:=k4 b _ e1 nd;exact⟨GD,e2⟩
 .rw[zh (AK b o e)];exact I.base.free b o e n (by simp[ir])
 .have hL:b≠X.env.locals:=aT (aA (aE e) I.ok.above)
  obtain⟨o',e1⟩:=I.base.there b o e (by simp[ir]);refine⟨o',kB b o' e1 (AK b o e) λm=>?_⟩;rcases(qK b).mp m with z | z
  .exact hL z
  .exact hb z
 .exact Lo b _ (I.base.tups b xs e) (by intro _ z;cases z)
 .exact Lo b _ (I.base.frzs b o u e) (by intro _ z;cases z)
 .obtain⟨more,e1⟩:=I.base.tbls b ps e
  exact⟨more,Lo b _ e1 (by intro _ z;cases z)⟩
end
def z79(C:ai)(sp:Sp)(E:XK)(t:TA):TS:=λ_ σ H=>t σ H λvs H1=>vs.length<=sizeLine/\∀ea,H1 ea=ae ->
 sp (.ref ea::vs) (upd H1 ea (i5 ea C ae)) (λv H2=>v=.bq/\∃dx,H2 ea=aa (i5 ea C dx)/\E (.ref C) dx (tM H2 ea)) E0
section
variable {X:Cx}{E:XK}{k:Nat}{C fI:ai}{fd:bA}{ps:List Str}{sp:Sp}{y:Str}{np dX pos:Pos}{e:bx}{es:List bx}{t:TA}
theorem Rq(hx:Hs X E)(hp:oG (dM X.prog X.w) X E0)(hc:X.calm=true)(q:px X.K C fI=true)(hf:W.isFn X.K (.ref fI)=true)(F:bH X.prog X.w X.K X.mg X.base (dM X.prog X.w) k fI fd ps sp)(hr:eL (k+1) X.A)(hb:lI X.K fd ps [])
  (hg:Gl X y) (hm:X.mg y=aa (.ref C)) (ha:PA X (e::es) t)
  (kC:(y==("__debug__" : Str))=false:=by decide) (he:av (e::es) X.env=(false,eval e X.env)::av es X.env:=by rfl) (gX:(bL dX (av es X.env)).any (·.1)=false:=by rfl) :
  PS X (.Raise (aa (.Call (.Name y np) (e::es) [] dX)) ae pos) (z79 C sp E t):=by
 intro ah s σ H D I h;refine Za8 (K:=X.K) q (I.ok.hd hc) (by rw[he];show(false || (bL dX (av es X.env)).any (·.1))=false;rw[gX];rfl) (Ab I hg hm ⟨rfl,?_⟩ kC);have a:=ha dX ah s σ H _ I h;rw[he] at a ⊢;refine kI (dF a λus s2 ⟨vs,H2,I2,r,l,z⟩=>⟨rfl,I2.jX,?_⟩);obtain⟨oI,g1,g2⟩:∃oI,s2.heap.get? fI=aa oI/\oI.cls=.type "function":=by
  obtain⟨o,ho,GF⟩:=bw.mp (show(X.K.lookup fI).map (·.cls)=aa (.type "function") from eq_of_beq hf);exact⟨o,I2.jX _ _ ho,GF⟩
 refine Zd8 I2.jX q g1 g2 (by show us.length<=sizeLine;rw[<- r.length];exact l) λh' ea mk=>?_;obtain⟨t0,ht0⟩:=mk.obj;have I3:Inv X ah σ (upd H2 ea (i5 ea C ae)) { s2 with heap:=h' }:=I2.laid (t':=s2.toks) mk.keeps mk.new (Ll ht0);have r2:cj (V.ref ea::vs) (aS ea::us):=.cons rfl r;have sq:=z ea (I2.cI.fresh mk.new);have hl:(aS ea::us++[]).length=ps.length:=by
  rw[cW,<- r2.length];exact F.len _ _ _ _ sq
 have bb:=hb { s2 with heap:=h' } (aS ea::us) I3.jX hl;rw[cW] at bb;refine oi (jv (F.run _ X.stack _ _ ⟨aS ea::us,[]⟩ (aS ea::us) _ _ E0 (hr.make C us []) (I3.Am.make C us []) bb r2 sq) λr' s' hq=>?_);cases r' with
 |error ex=>exact hp ah σ _ _ ex s' I3 hq
 | ok fl=>
   cases fl with
   | ret u=>
     obtain⟨v,H',I4,rv,ev,dx,e4,q4⟩:=I3.after hq;subst ev;obtain⟨t4,g4⟩:=Hq I4.cI e4;exact⟨rv,I4.jX,ea,t4,dx,rfl,g4,hx ah σ H2 s2 H' s' ea C t4 dx I2 mk.new I4 e4 g4 q4⟩
   |next=>exact dE hq
   |brk=>exact dE hq
   |cont=>exact dE hq
end
end L2
namespace L2
open PySem PySem.Spec PyProof.Rows PySem.Builtin PySem.Builtin.ObjectAttr
noncomputable def Lp(x C:ai)(dx:Option ai):HO:=.ext λh=>∃o,h.get? x=aa o/\o.cls=.ref C/\o.dict=dx/\W.notCls o=true
end L2
namespace MF
open PySem L2
inductive T where
 |bq | bl (b:Bool) | int (i:Int) | str (x:Str) | lst (ts:List T) | tup (ts:List T) | dic (kvs:List (cg×T)) | obj (k:Nat)
inductive bY where
 |lst (ts:List T) | dic (kvs:List (cg×T)) | ins (C:ai) (fs:List (Str×T)) | exc (C:ai) (fs:Option (List (Str×T))) | lck (kvs:List (cg×T))
abbrev bG:=List bY
structure Wd where
 HS:Hp
 μ:Nat->ai
 n:Nat
 Z:ai->Option (Obj×HO)
 P:Hp
structure Wd.le(W W':Wd):Prop where
 hs:∀a o,W.HS a=aa o->W'.HS a=aa o
 z:∀a o,W.Z a=aa o->W'.Z a=aa o
 p:∀a o,W.P a=aa o->W'.P a=aa o
 n:W.n<=W'.n
 μ:∀k,k<W.n->W'.μ k=W.μ k
theorem Wd.le.refl(W:Wd):W.le W:=⟨λ_ _ h=>h,λ_ _ h=>h,λ_ _ h=>h,aB _,λ_ _=>rfl⟩
theorem Wd.le.trans{W W1 W2:Wd}(a:W.le W1)(b:W1.le W2):W.le W2:=
 ⟨λx o h=>b.hs x o (a.hs x o h),λx o h=>b.z x o (a.z x o h),λx o h=>b.p x o (a.p x o h),bJ a.n b.n,λk h=>(b.μ k (aA h a.n)).trans (a.μ k h)⟩
mutual
def cD(W:Wd):T->V->Prop
 |.bq,v=>v=.bq
 |.bl b,v=>v=.bl b
 |.int i,v=>v=.int i
 |.str x,v=>v=.str x
 |.lst ts,v=>∃a vs,v=.ref a/\W.HS a=aa (.lst vs)/\aW W ts vs
 |.tup ts,v=>∃a vs,v=.ref a/\W.HS a=aa (.tup vs)/\aW W ts vs
 |.dic kvs,v=>∃a ks,v=.ref a/\W.HS a=aa (.dK ks)/\bN W kvs ks
 |.obj k,v=>v=.ref (W.μ k)/\k<W.n
def aW(W:Wd):List T->List V->Prop
 |[],vs=>vs=[]
 |t::ts,vs=>∃v r,vs=v::r/\cD W t v/\aW W ts r
def bN(W:Wd):List (cg×T)->List (cg×V)->Prop
 |[],vs=>vs=[]
 |(k,t)::ts,vs=>∃v r,vs=(k,v)::r/\cD W t v/\bN W ts r
end
mutual
theorem cD.mono{W W':Wd}(l:W.le W'):∀(t:T) (v:V),cD W t v->cD W' t v
 |.bq,_,h=>by simpa[cD] using h
 |.bl _,_,h=>by simpa[cD] using h
 |.int _,_,h=>by simpa[cD] using h
 |.str _,_,h=>by simpa[cD] using h
 | .lst ts,v,h=>by
   obtain⟨a,vs,e,h1,h2⟩:=(by simpa only[cD] using h:∃a vs,v=.ref a/\W.HS a=aa (.lst vs)/\aW W ts vs);simp only[cD];exact⟨a,vs,e,l.hs _ _ h1,aW.mono l ts vs h2⟩
 | .tup ts,v,h=>by
   obtain⟨a,vs,e,h1,h2⟩:=(by simpa only[cD] using h:∃a vs,v=.ref a/\W.HS a=aa (.tup vs)/\aW W ts vs);simp only[cD];exact⟨a,vs,e,l.hs _ _ h1,aW.mono l ts vs h2⟩
 | .dic ks,v,h=>by
   obtain⟨a,vs,e,h1,h2⟩:=(by simpa only[cD] using h:∃a vs,v=.ref a/\W.HS a=aa (.dK vs)/\bN W ks vs);simp only[cD];exact⟨a,vs,e,l.hs _ _ h1,bN.mono l ks vs h2⟩
 | .obj k,v,h=>by
   obtain⟨e,h1⟩:=(by simpa only[cD] using h:v=.ref (W.μ k)/\k<W.n);simp only[cD];exact⟨by rw[l.μ k h1];exact e,aA h1 l.n⟩
theorem aW.mono{W W':Wd}(l:W.le W'):∀(ts:List T) (vs:List V),aW W ts vs->aW W' ts vs
 |[],vs,h=>by simpa only[aW] using h
 | t::ts,vs,h=>by
   obtain⟨v,r,e,h1,h2⟩:=(by simpa only[aW] using h:∃v r,vs=v::r/\cD W t v/\aW W ts r);simp only[aW];exact⟨v,r,e,cD.mono l t v h1,aW.mono l ts r h2⟩
theorem bN.mono{W W':Wd}(l:W.le W'):∀(ts:List (cg×T)) (vs:List (cg×V)),bN W ts vs->bN W' ts vs
 |[],vs,h=>by simpa only[bN] using h
 | (k,t)::ts,vs,h=>by
   obtain⟨v,r,e,h1,h2⟩:=(by simpa only[bN] using h:∃v r,vs=(k,v)::r/\cD W t v/\bN W ts r);simp only[bN];exact⟨v,r,e,cD.mono l t v h1,bN.mono l ts r h2⟩
end
section
variable {W:Wd}
theorem nS{v:V}:cD W .bq v↔v=.bq:=by simp only[cD]
theorem jQ{b:Bool}{v:V}:cD W (.bl b) v↔v=.bl b:=by simp only[cD]
theorem jF{i:Int}{v:V}:cD W (.int i) v↔v=.int i:=by simp only[cD]
theorem nr{x:Str}{v:V}:cD W (.str x) v↔v=.str x:=by simp only[cD]
theorem r8{ts:List T}{v:V}:cD W (.lst ts) v↔∃a vs,v=.ref a/\W.HS a=aa (.lst vs)/\aW W ts vs:=by simp only[cD]
theorem r9{ts:List T}{v:V}:cD W (.tup ts) v↔∃a vs,v=.ref a/\W.HS a=aa (.tup vs)/\aW W ts vs:=by simp only[cD]
theorem xj{ts:List (cg×T)}{v:V}:cD W (.dic ts) v↔∃a vs,v=.ref a/\W.HS a=aa (.dK vs)/\bN W ts vs:=by simp only[cD]
theorem m3{k:Nat}{v:V}:cD W (.obj k) v↔v=.ref (W.μ k)/\k<W.n:=by simp only[cD]
theorem ow{vs:List V}:aW W [] vs↔vs=[]:=by simp only[aW]
theorem nu{t:T}{ts:List T}{vs:List V}:aW W (t::ts) vs↔∃v r,vs=v::r/\cD W t v/\aW W ts r:=by simp only[aW]
theorem qN{vs:List (cg×V)}:bN W [] vs↔vs=[]:=by simp only[bN]
theorem r_{k:cg}{t:T}{ts:List (cg×T)}{vs:List (cg×V)}:bN W ((k,t)::ts) vs↔∃v r,vs=(k,v)::r/\cD W t v/\bN W ts r:=by simp only[bN]
theorem aW.gj:aW W [] []:=ow.mpr rfl
theorem aW.dY{t:T}{ts:List T}{v:V}{vs:List V}(h:cD W t v)(r:aW W ts vs):aW W (t::ts) (v::vs):=nu.mpr ⟨v,vs,rfl,h,r⟩
theorem aW.length:∀{ts:List T} {vs:List V},aW W ts vs->ts.length=vs.length
 |[],vs,h=>by rw[ow.mp h];rfl
 | t::ts,vs,h=>by
   obtain⟨v,r,e,_,h2⟩:=nu.mp h;subst e;simp[aW.length h2]
theorem aW.get:∀{ts:List T} {vs:List V} {i:Nat} {t:T},aW W ts vs->ts[i]?=aa t->∃v,vs[i]?=aa v/\cD W t v
 |[],_,_,_,_,e=>by simp at e
 | t0::ts,vs,i,t,h,e=>by
   obtain⟨v,r,rfl,h1,h2⟩:=nu.mp h;cases i with
   |zero=>simp at e;subst e;exact⟨v,rfl,h1⟩
   | succ i=>
     obtain⟨v',e1,e2⟩:=aW.get (i:=i) h2 (by simpa using e);exact⟨v',by simpa using e1,e2⟩
theorem aW.get':∀{ts:List T} {vs:List V} {i:Nat} {v:V},aW W ts vs->vs[i]?=aa v->∃t,ts[i]?=aa t/\cD W t v
 |[],_,_,_,h,e=>by rw[ow.mp h] at e;simp at e
 | t0::ts,vs,i,v',h,e=>by
   obtain⟨v,r,rfl,h1,h2⟩:=nu.mp h;cases i with
   |zero=>simp at e;subst e;exact⟨t0,rfl,h1⟩
   | succ i=>
     obtain⟨t,e1,e2⟩:=aW.get' (i:=i) h2 (by simpa using e);exact⟨t,by simpa using e1,e2⟩
theorem aW.append:∀{ts us:List T} {vs ws:List V},aW W ts vs->aW W us ws->aW W (ts++us) (vs++ws)
 |[],_,_,_,h,g=>by rw[ow.mp h];exact g
 | t::ts,us,vs,ws,h,g=>by
   obtain⟨v,r,rfl,h1,h2⟩:=nu.mp h;exact aW.dY h1 (aW.append h2 g)
theorem aW.set{t:T}{v:V}(hv:cD W t v):∀{ts:List T} {vs:List V} (i:Nat),aW W ts vs->aW W (ts.set i t) (vs.set i v)
 |[],_,_,h=>by rw[ow.mp h];exact aW.gj
 | t::ts,vs,i,h=>by
   obtain⟨v,r,rfl,h1,h2⟩:=nu.mp h;cases i with
   |zero=>exact aW.dY hv h2
   |succ i=>exact aW.dY h1 (aW.set hv i h2)
theorem aW.take:∀{ts:List T} {vs:List V} (i:Nat),aW W ts vs->aW W (ts.take i) (vs.take i)
 |ts,vs,0,_=>by simpa using aW.gj
 |[],_,_,h=>by rw[ow.mp h];simpa using aW.gj
 | t::ts,vs,i+1,h=>by
   obtain⟨v,r,rfl,h1,h2⟩:=nu.mp h;exact aW.dY h1 (aW.take i h2)
theorem aW.drop:∀{ts:List T} {vs:List V} (i:Nat),aW W ts vs->aW W (ts.drop i) (vs.drop i)
 |ts,vs,0,h=>by simpa using h
 |[],_,_,h=>by rw[ow.mp h];simpa using aW.gj
 | t::ts,vs,i+1,h=>by
   obtain⟨v,r,rfl,h1,h2⟩:=nu.mp h;simpa using aW.drop i h2
theorem aW.eraseIdx:∀{ts:List T} {vs:List V} (i:Nat),aW W ts vs->aW W (ts.eraseIdx i) (vs.eraseIdx i)
 |[],_,_,h=>by rw[ow.mp h];simpa using aW.gj
 | t::ts,vs,i,h=>by
   obtain⟨v,r,rfl,h1,h2⟩:=nu.mp h;cases i with
   |zero=>exact h2
   |succ i=>exact aW.dY h1 (aW.eraseIdx i h2)
theorem bN.length:∀{ts:List (cg×T)} {vs:List (cg×V)},bN W ts vs->ts.length=vs.length
 |[],vs,h=>by rw[qN.mp h];rfl
 | (k,t)::ts,vs,h=>by
   obtain⟨v,r,e,_,h2⟩:=r_.mp h;subst e;simp[bN.length h2]
theorem bN.gj:bN W [] []:=qN.mpr rfl
theorem bN.dY{k:cg}{t:T}{ts:List (cg×T)}{v:V}{vs:List (cg×V)}(h:cD W t v)(r:bN W ts vs):bN W ((k,t)::ts) ((k,v)::vs):=r_.mpr ⟨v,vs,rfl,h,r⟩
end
def fS(W:Wd):List (Str×T)->List (Str×V)->Prop
 |[],vs=>vs=[]
 |(k,t)::ts,vs=>∃v r,vs=(k,v)::r/\cD W t v/\fS W ts r
theorem fS.mono{W W':Wd}(l:W.le W'):∀{ts:List (Str×T)} {vs:List (Str×V)},fS W ts vs->fS W' ts vs
 |[],_,h=>h
 | (k,t)::ts,vs,h=>by
   obtain⟨v,r,e,h1,h2⟩:=h;exact⟨v,r,e,cD.mono l _ _ h1,fS.mono l h2⟩
theorem fS.length{W:Wd}:∀{ts:List (Str×T)} {vs:List (Str×V)},fS W ts vs->ts.length=vs.length
 |[],_,h=>by rw[show _=[] from h];rfl
 | (k,t)::ts,vs,h=>by
   obtain⟨v,r,rfl,h1,h2⟩:=h;simp[fS.length h2]
def XP(W:Wd):Option ai->Option (List (Str×T))->Prop
 |none,ae=>True
 |some d,aa fs=>∃ks,W.P d=aa (.xd ks)/\fS W fs ks
 |_,_=>False
theorem XP.mono{W W':Wd}(l:W.le W'):∀{dx:Option ai} {fs:Option (List (Str×T))},XP W dx fs->XP W' dx fs
 |none,ae,_=>trivial
 |some _,aa _,⟨ks,h1,h2⟩=>⟨ks,l.p _ _ h1,fS.mono l h2⟩
 |none,aa _,h=>h.elim
 |some _,ae,h=>h.elim
def k8(W:Wd)(H:Hp)(a:ai):bY->Prop
 |.lst ts=>∃vs,H a=aa (.lst vs)/\aW W ts vs
 |.dic kvs=>∃ks,H a=aa (.dK ks)/\bN W kvs ks
 |.ins C fs=>∃dx ks,H a=aa (.ins C dx ks)/\fS W fs ks
 |.exc C fs=>∃dx,H a=aa (Lp a C dx)/\XP W dx fs
 |.lck kvs=>∃o ks,H a=aa (.eU o (.dK ks))/\bN W kvs ks
theorem k8.mono{W W':Wd}(l:W.le W'){H:Hp}{a:ai}:∀{c:bY},k8 W H a c->k8 W' H a c
 |.lst ts,⟨vs,h1,h2⟩=>⟨vs,h1,aW.mono l _ _ h2⟩
 |.dic ts,⟨vs,h1,h2⟩=>⟨vs,h1,bN.mono l _ _ h2⟩
 |.ins C ts,⟨dx,vs,h1,h2⟩=>⟨dx,vs,h1,fS.mono l h2⟩
 |.exc C fs,⟨dx,h1,h2⟩=>⟨dx,h1,h2.mono l⟩
 |.lck ts,⟨o,vs,h1,h2⟩=>⟨o,vs,h1,bN.mono l _ _ h2⟩
theorem k8.at{W:Wd}{H H':Hp}{a:ai}(e:H' a=H a):∀{c:bY},k8 W H a c->k8 W H' a c
 |.lst ts,⟨vs,h1,h2⟩=>⟨vs,e.trans h1,h2⟩
 |.dic ts,⟨vs,h1,h2⟩=>⟨vs,e.trans h1,h2⟩
 |.ins C ts,⟨dx,vs,h1,h2⟩=>⟨dx,vs,e.trans h1,h2⟩
 |.exc C ts,⟨dx,h1,h2⟩=>⟨dx,e.trans h1,h2⟩
 |.lck ts,⟨o,vs,h1,h2⟩=>⟨o,vs,e.trans h1,h2⟩
theorem k8.some{W:Wd}{H:Hp}{a:ai}:∀{c:bY},k8 W H a c->∃o,H a=aa o/\∀y,o≠.own y
 |.lst ts,⟨vs,h1,h2⟩=>⟨_,h1,(by intro _ z;cases z)⟩
 |.dic ts,⟨vs,h1,h2⟩=>⟨_,h1,(by intro _ z;cases z)⟩
 |.ins C ts,⟨dx,vs,h1,h2⟩=>⟨_,h1,(by intro _ z;cases z)⟩
 |.exc C ts,⟨dx,h1,h2⟩=>⟨_,h1,(by intro _ z;cases z)⟩
 |.lck ts,⟨o,vs,h1,h2⟩=>⟨_,h1,(by intro _ z;cases z)⟩
def Ht:HO->Prop
 |.eU _ _=>False
 |_=>True
def qg(H:Hp)(a:ai)(o:HO):Prop:=H a=aa o\/((∃q,H a=aa (.eU q o))/\∀xs,o≠.tup xs)
theorem qg.rd{H:Hp}{a:ai}{o:HO}(h:qg H a o):Rd H a o:=by
 rcases h with h | ⟨h,_⟩
 .exact .inl h
 .exact .inr h
theorem qg.ex{H:Hp}{a:ai}{o:HO}(h:qg H a o):∃u,H a=aa u:=by
 rcases h with h | ⟨⟨q,h⟩,_⟩
 .exact⟨_,h⟩
 .exact⟨_,h⟩
theorem qg.at{H H':Hp}{a:ai}{o:HO}(e:H' a=H a)(h:qg H a o):qg H' a o:=by
 rcases h with h | ⟨⟨q,h⟩,n⟩
 .exact .inl (e.trans h)
 .exact .inr ⟨⟨q,e.trans h⟩,n⟩
theorem qg.tup{H:Hp}{a:ai}{xs:List V}(h:qg H a (.tup xs)):H a=aa (.tup xs):=by
 rcases h with h | ⟨_,n⟩
 .exact h
 .exact absurd rfl (n xs)
structure cV(W:Wd)(S:bG)(H:Hp):Prop where
 sub:∀a o,W.HS a=aa o->qg H a o/\Ht o
 len:S.length=W.n
 cell:∀k c,S[k]?=aa c->k8 W H (W.μ k) c/\W.HS (W.μ k)=ae
 inj:∀j k,j<W.n->k<W.n->W.μ j=W.μ k->j=k
 zed:∀a q,W.Z a=aa q->H a=aa (.eU q.1 q.2)
 prv:∀a o,W.P a=aa o->H a=aa o/\W.HS a=ae/\∀k,k<W.n->W.μ k≠a
theorem cV.lt{W:Wd}{S:bG}{H:Hp}(r:cV W S H){k:Nat}{c:bY}(h:S[k]?=aa c):k<W.n:=by
 rw[<- r.len];exact(aw.mp h).1
inductive R(α:Type) where
 |ok (a:α) (S:bG)
 |exc (C:ai) (fs:Option (List (Str×T))) (S:bG)
 |bad
abbrev M(α:Type):=bG->R α
noncomputable def M.pure{α:Type}(a:α):M α:=λS=>.ok a S
noncomputable def M.bind{α β:Type}(m:M α)(f:α->M β):M β:=λS=>match m S with
 |.ok a S'=>f a S'
 |.exc C fs S'=>.exc C fs S'
 |.bad=>.bad
noncomputable def M.bad{α:Type}:M α:=λ_=>.bad
def Lq(W:Wd)(H:Hp):Option ai->Option (List (Str×T))->Prop
 |none,ae=>True
 |some d,aa fs=>∃ks,H d=aa (.xd ks)/\W.HS d=ae/\fS W fs ks
 |_,_=>False
def bo{α:Type}(E:XK)(W:Wd)(Q:α->Wd->bG->Hp->Prop):R α->Prop
 |.ok a S'=>∀W' H',W.le W'->cV W' S' H'->Q a W' S' H'
 |.exc C fs S'=>∀W' H' dx,W.le W'->cV W' S' H'->Lq W' H' dx fs->E (.ref C) dx H'
 |.bad=>False
theorem bo.imp{α:Type}{E:XK}{W:Wd}{Q Q':α->Wd->bG->Hp->Prop}{r:R α}(h:bo E W Q r)(f:∀a W' S' H',W.le W'->cV W' S' H'->Q a W' S' H'->Q' a W' S' H'):bo E W Q' r:=by
 cases r with
 |ok a S=>exact λW' H' l rp=>f a W' S H' l rp (h W' H' l rp)
 |exc C fs S=>exact h
 |bad=>exact h
theorem bo.bind{α β:Type}{E:XK}{W:Wd}{Q:β->Wd->bG->Hp->Prop}{m:M α}{f:α->M β}{S:bG}(h:bo E W Q (M.bind m f S)) :
  bo E W (λa W1 S1 _=>bo E W1 Q (f a S1)) (m S):=by
 unfold M.bind at h;cases e:m S with
 | ok a S1=>
   rw[e] at h;have h:bo E W Q (f a S1):=h;intro W1 H1 l _;show bo E W1 Q (f a S1);cases e2:f a S1 with
   |ok b S2=>rw[e2] at h;exact λW2 H2 l2 rp=>h W2 H2 (l.trans l2) rp
   |exc C fs S2=>rw[e2] at h;exact λW2 H2 dx l2 rp=>h W2 H2 dx (l.trans l2) rp
   |bad=>rw[e2] at h;exact h
 |exc C fs S1=>rw[e] at h;exact h
 |bad=>rw[e] at h;exact h
abbrev Ev:=List (Option T)
def Ew(W:Wd):Option T->Option V->Prop
 |none,_=>True
 |some t,aa v=>cD W t v
 |some _,ae=>False
def gv(W:Wd):Ev->St->Prop
 |[],σ=>σ=[]
 |o::ρ,σ=>∃s r,σ=s::r/\Ew W o s/\gv W ρ r
theorem Ew.mono{W W':Wd}(l:W.le W'):∀{o:Option T} {s:Option V},Ew W o s->Ew W' o s
 |none,_,_=>trivial
 |some t,aa v,h=>cD.mono l t v h
theorem gv.mono{W W':Wd}(l:W.le W'):∀{ρ:Ev} {σ:St},gv W ρ σ->gv W' ρ σ
 |[],_,h=>h
 |o::ρ,σ,⟨s,r,e,h1,h2⟩=>⟨s,r,e,h1.mono l,h2.mono l⟩
theorem gv.get{W:Wd}:∀{ρ:Ev} {σ:St} {i:Nat} {t:T},gv W ρ σ->ρ[i]?=aa (aa t)->∃v,σ[i]?=aa (aa v)/\cD W t v
 |[],_,_,_,_,e=>by simp at e
 | o :: ρ,σ,i,t,⟨s,r,e0,h1,h2⟩,e=>by
   subst e0;cases i with
   | zero=>
     simp at e;subst e;cases s with
     |none=>exact h1.elim
     |some v=>exact⟨v,rfl,h1⟩
   | succ i=>
     obtain⟨v,e1,e2⟩:=gv.get (i:=i) h2 (by simpa using e);exact⟨v,by simpa using e1,e2⟩
theorem gv.set{W:Wd}{t:T}{v:V}(hv:cD W t v):∀{ρ:Ev} {σ:St} (i:Nat),gv W ρ σ->gv W (ρ.set i (aa t)) (σ.set i (aa v))
 |[],σ,i,h=>by rw[show σ=[] from h];exact rfl
 | o::ρ,σ,i,⟨s,r,e0,h1,h2⟩=>by
   subst e0;cases i with
   |zero=>exact⟨_,_,rfl,hv,h2⟩
   |succ i=>exact⟨_,_,rfl,h1,gv.set hv i h2⟩
theorem gv.append{W:Wd}:∀{ρ ρ':Ev} {σ σ':St},gv W ρ σ->gv W ρ' σ'->gv W (ρ++ρ') (σ++σ')
 |[],_,σ,_,h,g=>by rw[show σ=[] from h];exact g
 | o::ρ,ρ',σ,σ',⟨s,r,e0,h1,h2⟩,g=>by
   subst e0;exact⟨_,_,rfl,h1,gv.append h2 g⟩
theorem gv.zi{W:Wd}{σ:St}:∀(n:Nat),σ.length=n->gv W (aQ n ae) σ:=by
 induction σ with
 |nil=>intro n h;subst h;exact rfl
 | cons s σ ih=>
   intro n h;subst h;exact⟨s,σ,rfl,trivial,ih _ rfl⟩
theorem gv.vo{W:Wd}:∀{ts:List T} {vs:List V},aW W ts vs->gv W (ts.map aa) (vs.map aa)
 |[],vs,h=>by rw[ow.mp h];exact rfl
 | t::ts,vs,h=>by
   obtain⟨v,r,rfl,h1,h2⟩:=nu.mp h;exact⟨_,_,rfl,h1,gv.vo h2⟩
theorem gv.Ek{W:Wd}{ρ:Ev}{σ:St}(h:gv W ρ σ):∀(js:List Nat),gv W (js.map λj=>(ρ[j]?).join) (zf σ js)
 |[]=>rfl
 | j :: js=>by
   refine⟨_,_,rfl,?_,gv.Ek h js⟩;show Ew W ((ρ[j]?).join) ((σ[j]?).join);cases e:ρ[j]? with
   |none=>exact trivial
   | some o=>
     cases o with
     |none=>exact trivial
     | some t=>
       obtain⟨v,e1,h1⟩:=h.get e;rw[e1];exact h1
abbrev DE:=Ev->M T
abbrev DT:=Ev->M Bool
abbrev DA:=Ev->M (List T)
inductive Fl where
 |nx (ρ:Ev) | rt (t:T) | bk (ρ:Ev) | ct (ρ:Ev)
abbrev DS:=Ev->M Fl
abbrev QV(Q:VK):T->Wd->bG->Hp->Prop:=λt W' _ H'=>∀v,cD W' t v->Q v H'
def RE(E:XK)(f:DE):TE:=fun σ H Q=>∃W S ρ,cV W S H/\gv W ρ σ/\bo E W (QV Q) (f ρ S)
def RT(E:XK)(f:DT):TT:=fun σ H Q=>∃W S ρ,cV W S H/\gv W ρ σ/\bo E W (λb _ _ H'=>Q b H') (f ρ S)
def RA(E:XK)(f:DA):TA:=fun σ H Q=>∃W S ρ,cV W S H/\gv W ρ σ/\bo E W (λts W' _ H'=>∀vs,aW W' ts vs->Q vs H') (f ρ S)
def QF(D:Ends):Fl->Wd->bG->Hp->Prop
 |.nx ρ',W',_,H'=>∀σ',gv W' ρ' σ'->D.nx σ' H'
 |.rt t,W',_,H'=>∀v,cD W' t v->D.rt v H'
 |.bk ρ',W',_,H'=>∀σ',gv W' ρ' σ'->D.bk σ' H'
 |.ct ρ',W',_,H'=>∀σ',gv W' ρ' σ'->D.ct σ' H'
def RS(E:XK)(f:DS):TS:=λD σ H=>∃W S ρ,cV W S H/\gv W ρ σ/\bo E W (QF D) (f ρ S)
theorem iT{X:Cx}{e:bx}{t t':TE}(h:PE X e t)(w:∀σ H Q,t' σ H Q->t σ H Q):PE X e t':=λah s σ H Q I q=>h ah s σ H Q I (w σ H Q q)
theorem Ex{X:Cx}{e:bx}{t t':TT}(h:PT X e t)(w:∀σ H Q,t' σ H Q->t σ H Q):PT X e t':=λah s σ H Q I q=>h ah s σ H Q I (w σ H Q q)
theorem Rt{X:Cx}{e:List bx}{t t':TA}(h:PA X e t)(w:∀σ H Q,t' σ H Q->t σ H Q):PA X e t':=λp ah s σ H Q I q=>h p ah s σ H Q I (w σ H Q q)
theorem qO{X:Cx}{st:bS}{t t':TS}(h:PS X st t)(w:∀D σ H,t' D σ H->t D σ H):PS X st t':=λah s σ H D I q=>h ah s σ H D I (w D σ H q)
theorem Ru{X:Cx}{st:List bS}{t t':TS}(h:k6 X st t)(w:∀D σ H,t' D σ H->t D σ H):k6 X st t':=λah s σ H D I q=>h ah s σ H D I (w D σ H q)
section
variable {W:Wd}{S:bG}{H:Hp}
theorem cV.jG(r:cV W S H){p:ai}(h:H p=ae):W.HS p=ae:=by
 cases e:W.HS p with
 |none=>rfl
 | some o=>
   obtain⟨u,z⟩:=(r.sub p o e).1.ex;rw[h] at z;cases z
theorem cV.cellAt(r:cV W S H){k:Nat}(h:k<W.n):∃c,S[k]?=aa c:=by
 rw[<- r.len] at h;exact⟨S[k],a_ h⟩
theorem cV.μne(r:cV W S H){p:ai}(h:H p=ae){k:Nat}(hk:k<W.n):W.μ k≠p:=by
 intro e;obtain⟨c,hc⟩:=r.cellAt hk;obtain⟨o,ho,_⟩:=(r.cell k c hc).1.some;rw[e,h] at ho;cases ho
noncomputable def Wd.eU(W:Wd)(p:ai)(o:HO):Wd:=⟨upd W.HS p o,W.μ,W.n,W.Z,W.P⟩
theorem Wd.k9{p:ai}{o:HO}(h:W.HS p=ae):W.le (W.eU p o):=⟨λa u e=>by
 show upd W.HS p o a=aa u;rw[dr (λz=>by rw[z,h] at e;cases e)];exact e,λ_ _ e=>e,λ_ _ e=>e,aB _,λ_ _=>rfl⟩
theorem qg.upd{p a:ai}{o u:HO}(hp:H p=ae)(h:qg H a u):qg (upd H p o) a u:=by
 obtain⟨w,z⟩:=h.ex;exact h.at (dr (sQ z hp))
theorem cV.extra(r:cV W S H){p:ai}(hp:H p=ae)(o:HO):cV W S (upd H p o) where
 sub:=λa u e=>⟨qg.upd hp (r.sub a u e).1,(r.sub a u e).2⟩
 len:=r.len
 cell:=λk c e=>⟨(r.cell k c e).1.at (dr (r.μne hp (r.lt e))),(r.cell k c e).2⟩
 inj:=r.inj
 zed:=λa q e=>by
  have h2:=r.zed a q e;rw[dr (sQ h2 hp)];exact h2
 prv:=λa q e=>by
  obtain⟨h1,h2⟩:=r.prv a q e;exact⟨by rw[dr (sQ h1 hp)];exact h1,h2⟩
theorem cV.eU(r:cV W S H){p:ai}(hp:H p=ae)(o:HO)(no:Ht o):cV (W.eU p o) S (upd H p o) where
 sub:=λa u e=>by
  by_cases z:a=p
  .subst z
   have e:upd W.HS a o a=aa u:=e;rw[gm] at e;cases e;exact⟨.inl gm,no⟩
  .have e:upd W.HS p o a=aa u:=e
   rw[dr z] at e;exact⟨qg.upd hp (r.sub a u e).1,(r.sub a u e).2⟩
 len:=r.len
 cell:=λk c e=>⟨((r.cell k c e).1.at (dr (r.μne hp (r.lt e)))).mono (Wd.k9 (r.jG hp)),by
  show upd W.HS p o (W.μ k)=ae;rw[dr (r.μne hp (r.lt e))];exact(r.cell k c e).2⟩
 inj:=r.inj
 zed:=λa q e=>by
  have h2:=r.zed a q e;rw[dr (sQ h2 hp)];exact h2
 prv:=λa q e=>by
  obtain⟨h1,h2,h3⟩:=r.prv a q e;have ne:=sQ h1 hp;exact⟨by rw[dr ne];exact h1,by show upd W.HS p o a=ae;rw[dr ne];exact h2,h3⟩
noncomputable def Wd.add(W:Wd)(p:ai):Wd:=⟨W.HS,λk=>if k=W.n then p else W.μ k,W.n+1,W.Z,W.P⟩
theorem Wd.jd{p:ai}:W.le (W.add p):=⟨λ_ _ e=>e,λ_ _ e=>e,λ_ _ e=>e,jA _,λk h=>by
 show(if k=W.n then p else W.μ k)=W.μ k;rw[if_neg (aT h)]⟩
theorem Wd.hV{p:ai}:(W.add p).μ W.n=p:=by show(if W.n=W.n then p else _)=p;rw[if_pos rfl]
theorem Wd.gL{p:ai}{k:Nat}(h:k<W.n):(W.add p).μ k=W.μ k:=Wd.jd.μ k h
theorem cV.qP(r:cV W S H){p:ai}{H':Hp}(hp:H p=ae)(keep:∀a o,H a=aa o->H' a=aa o)(c:bY)(hc:k8 (W.add p) H' p c):cV (W.add p) (S++[c]) H' where
 sub:=λa u e=>by
  obtain⟨h1,h2⟩:=r.sub a u e;obtain⟨w,z⟩:=h1.ex;exact⟨h1.at ((keep _ _ z).trans z.symm),h2⟩
 len:=by rw[aM,aV,r.len];rfl
 cell:=λk c' e=>by
  by_cases z:k<S.length
  .rw[aD z] at e
   have hk:k<W.n:=r.len▸z;rw[Wd.gL hk];obtain⟨h1,h2⟩:=r.cell k c' e;obtain⟨o,ho,_⟩:=h1.some;exact⟨(h1.at ((keep _ _ ho).trans ho.symm)).mono Wd.jd,h2⟩
  .have hk:k=W.n:=by
    have:=(aw.mp e).1;rw[aM,aV] at this;have l:=r.len;omega
   subst hk;rw[<- r.len,cL (aB _),hZ] at e;have e:c=c':=by simpa using e
   subst e;rw[Wd.hV];exact⟨hc,r.jG hp⟩
 inj:=λj k hj hk e=>by
  have hj:j<W.n+1:=hj;have hk:k<W.n+1:=hk;by_cases z:j<W.n
  .by_cases y:k<W.n
   .rw[Wd.gL z,Wd.gL y] at e;exact r.inj j k z y e
   .have:k=W.n:=by omega
    subst this;rw[Wd.gL z,Wd.hV] at e;exact absurd e (r.μne hp z)
  .have:j=W.n:=by omega
   subst this;by_cases y:k<W.n
   .rw[Wd.gL y,Wd.hV] at e
    exact absurd e.symm (r.μne hp y)
   .omega
 zed:=λa q e=>by
  exact keep _ _ (r.zed a q e)
 prv:=λa q e=>by
  obtain⟨h1,h2,h3⟩:=r.prv a q e;refine⟨keep _ _ h1,h2,λk hk z=>?_⟩;have hk:k<W.n+1:=hk;by_cases y:k<W.n
  .rw[Wd.gL y] at z;exact h3 k y z
  .have:k=W.n:=by omega
   subst this;rw[Wd.hV] at z;rw[z,h1] at hp;cases hp
theorem cV.nv(r:cV W S H){p:ai}(hp:H p=ae)(c:bY)(o:HO)(hc:k8 (W.add p) (upd H p o) p c):cV (W.add p) (S++[c]) (upd H p o):=
 r.qP hp (λa u e=>by rw[dr (sQ e hp)];exact e) c hc
theorem cV.Hu(r:cV W S H){k:Nat}{c:bY}(h:S[k]?=aa c)(nl:∀kvs,c≠.lck kvs):W.Z (W.μ k)=ae:=by
 cases e:W.Z (W.μ k) with
 |none=>rfl
 | some q=>
   have z:=r.zed _ _ e;have y:=(r.cell k c h).1;cases c with
   |lst ts=>obtain⟨_,h1,_⟩:=y;rw[z] at h1;cases h1
   |dic ts=>obtain⟨_,h1,_⟩:=y;rw[z] at h1;cases h1
   |ins _ ts=>obtain⟨_,_,h1,_⟩:=y;rw[z] at h1;cases h1
   |exc _ ts=>obtain⟨_,h1,_⟩:=y;rw[z] at h1;cases h1
   |lck ts=>exact absurd rfl (nl ts)
theorem cV.cellSet(r:cV W S H){k:Nat}{c:bY}(h:S[k]?=aa c)(c':bY)(o:HO)(hc:k8 W (upd H (W.μ k) o) (W.μ k) c')(nz:W.Z (W.μ k)=ae:=by
  exact cV.Hu (by assumption) (by assumption) (by intro _ z;cases z)):cV W (S.set k c') (upd H (W.μ k) o) where
 sub:=λa u e=>by
  have ne:a≠W.μ k:=λz=>by rw[z,(r.cell k c h).2] at e;cases e
  exact⟨(r.sub a u e).1.at (dr ne),(r.sub a u e).2⟩
 len:=by rw[eI];exact r.len
 cell:=λj c2 e=>by
  by_cases z:j=k
  .subst z
   have hj:=r.lt h;rw[fK (by rw[r.len];exact hj)] at e;cases e;exact⟨hc,(r.cell j c h).2⟩
  .rw[c7 (bM z)] at e
   have hj:=r.lt e;exact⟨(r.cell j c2 e).1.at (dr λy=>z (r.inj j k hj (r.lt h) y)),(r.cell j c2 e).2⟩
 inj:=r.inj
 zed:=λa q e=>by
  rw[dr λz=>by rw[z,nz] at e;cases e];exact r.zed a q e
 prv:=λa q e=>by
  obtain⟨h1,h2,h3⟩:=r.prv a q e;exact⟨by rw[dr (bM (h3 k (r.lt h)))];exact h1,h2,h3⟩
noncomputable def Wd.oK(W:Wd)(p:ai)(o:HO):Wd:=⟨W.HS,W.μ,W.n,W.Z,upd W.P p o⟩
theorem Wd.xk{p:ai}{o:HO}(h:W.P p=ae):W.le (W.oK p o):=⟨λ_ _ e=>e,λ_ _ e=>e,λa u e=>by
 show upd W.P p o a=aa u;rw[dr (λz=>by rw[z,h] at e;cases e)];exact e,aB _,λ_ _=>rfl⟩
theorem cV.xl(r:cV W S H){p:ai}(h:H p=ae):W.P p=ae:=by
 cases e:W.P p with
 |none=>rfl
 |some o=>rw[(r.prv p o e).1] at h;cases h
theorem cV.nT{W':Wd}{H':Hp}(r:cV W S H)(hs:W'.HS=W.HS)(hμ:W'.μ=W.μ)(hn:W'.n=W.n)(hz:W'.Z=W.Z)(c:∀{k:Nat} {c:bY},S[k]?=aa c->k8 W H (W.μ k) c->k8 W' H' (W.μ k) c)
  (sub:∀a o,W.HS a=aa o->qg H a o->qg H' a o) (z:∀a o u,W.Z a=aa (o,u)->H a=aa (.eU o u)->H' a=aa (.eU o u))
  (prv:∀a o,W'.P a=aa o->H' a=aa o/\W.HS a=ae/\∀k,k<W.n->W.μ k≠a):cV W' S H' where
 sub:=λa o e=>by rw[hs] at e;exact⟨sub a o e (r.sub a o e).1,(r.sub a o e).2⟩
 len:=by rw[hn];exact r.len
 cell:=λk c' e=>by rw[hs,hμ];exact⟨c e (r.cell k c' e).1,(r.cell k c' e).2⟩
 inj:=by rw[hn,hμ];exact r.inj
 zed:=λa o e=>by
  rw[hz] at e;exact z a o.1 o.2 e (r.zed a o e)
 prv:=λa o e=>by rw[hs,hn,hμ];exact prv a o e
mutual
theorem cD.hs{W W':Wd}(hs:W'.HS=W.HS)(hμ:W'.μ=W.μ)(hn:W'.n=W.n):∀(t:T) (v:V),cD W t v->cD W' t v
 |.bq,_,h=>nS.mpr (nS.mp h)
 |.bl _,_,h=>jQ.mpr (jQ.mp h)
 |.int _,_,h=>jF.mpr (jF.mp h)
 |.str _,_,h=>nr.mpr (nr.mp h)
 |.lst ts,v,h=>by obtain⟨a,vs,e,h1,h2⟩:=r8.mp h;exact r8.mpr ⟨a,vs,e,by rw[hs];exact h1,aW.hs hs hμ hn ts vs h2⟩
 |.tup ts,v,h=>by obtain⟨a,vs,e,h1,h2⟩:=r9.mp h;exact r9.mpr ⟨a,vs,e,by rw[hs];exact h1,aW.hs hs hμ hn ts vs h2⟩
 |.dic ts,v,h=>by obtain⟨a,vs,e,h1,h2⟩:=xj.mp h;exact xj.mpr ⟨a,vs,e,by rw[hs];exact h1,bN.hs hs hμ hn ts vs h2⟩
 |.obj k,v,h=>by obtain⟨e,h1⟩:=m3.mp h;exact m3.mpr ⟨by rw[hμ];exact e,by rw[hn];exact h1⟩
theorem aW.hs{W W':Wd}(hs:W'.HS=W.HS)(hμ:W'.μ=W.μ)(hn:W'.n=W.n):∀(ts:List T) (vs:List V),aW W ts vs->aW W' ts vs
 |[],vs,h=>ow.mpr (ow.mp h)
 |t::ts,vs,h=>by obtain⟨v,r,e,h1,h2⟩:=nu.mp h;exact nu.mpr ⟨v,r,e,cD.hs hs hμ hn t v h1,aW.hs hs hμ hn ts r h2⟩
theorem bN.hs{W W':Wd}(hs:W'.HS=W.HS)(hμ:W'.μ=W.μ)(hn:W'.n=W.n):∀(ts:List (cg×T)) (vs:List (cg×V)),bN W ts vs->bN W' ts vs
 |[],vs,h=>qN.mpr (qN.mp h)
 |(k,t)::ts,vs,h=>by obtain⟨v,r,e,h1,h2⟩:=r_.mp h;exact r_.mpr ⟨v,r,e,cD.hs hs hμ hn t v h1,bN.hs hs hμ hn ts r h2⟩
end
theorem fS.hs{W W':Wd}(hs:W'.HS=W.HS)(hμ:W'.μ=W.μ)(hn:W'.n=W.n):∀{ts:List (Str×T)} {vs:List (Str×V)},fS W ts vs->fS W' ts vs
 |[],_,h=>h
 |(k,t)::ts,vs,⟨v,r,e,h1,h2⟩=>⟨v,r,e,cD.hs hs hμ hn t v h1,fS.hs hs hμ hn h2⟩
theorem k8.hs{W W':Wd}(hs:W'.HS=W.HS)(hμ:W'.μ=W.μ)(hn:W'.n=W.n)(hp:∀d ks,W.P d=ei (.xd ks)->W'.P d=ei (.xd ks)){a:ai}:∀{c:bY},k8 W H a c->k8 W' H a c
 |.lst ts,⟨vs,h1,h2⟩=>⟨vs,h1,aW.hs hs hμ hn _ _ h2⟩
 |.dic ts,⟨vs,h1,h2⟩=>⟨vs,h1,bN.hs hs hμ hn _ _ h2⟩
 |.ins C ts,⟨dx,vs,h1,h2⟩=>⟨dx,vs,h1,fS.hs hs hμ hn h2⟩
 |.lck ts,⟨o,vs,h1,h2⟩=>⟨o,vs,h1,bN.hs hs hμ hn _ _ h2⟩
 |.exc C ae,⟨ae,h1,h2⟩=>⟨ae,h1,trivial⟩
 |.exc C (ei fs),⟨ei d,h1,⟨ks,h2,h3⟩⟩=>⟨ei d,h1,ks,hp d ks h2,fS.hs hs hμ hn h3⟩
 |.exc C ae,⟨ei _,_,h2⟩=>h2.elim
 |.exc C (ei _),⟨ae,_,h2⟩=>h2.elim
theorem cV.xm(r:cV W S H){p:ai}(hp:H p=ae)(o:HO):cV (W.oK p o) S (upd H p o):=
 r.nT rfl rfl rfl rfl (λe c=>k8.hs (W:=W) (W':=W.oK p o) rfl rfl rfl (λd ks z=>by
  show upd W.P p o d=_;rw[dr (λq=>by have y:=(r.prv d _ z).1;rw[q,hp] at y;cases y)];exact z) (k8.at (dr (r.μne hp (r.lt e))) c)) (λa u _ h=>qg.upd hp h) (λa q u _ h=>by rw[dr (sQ h hp)];exact h) λa u e=>by
  have e:upd W.P p o a=aa u:=e;by_cases z:a=p
  .subst z
   rw[gm] at e;cases e;exact⟨gm,r.jG hp,λk hk=>r.μne hp hk⟩
  .rw[dr z] at e ⊢
   exact r.prv a u e
theorem cV.xn(r:cV W S H){p:ai}{o:HO}(hp:W.P p=aa o)(nx:∀ks,o≠.xd ks)(nfz:∀q u,o≠.eU q u)(o':HO):cV (W.oK p o') S (upd H p o'):=by
 obtain⟨h1,h2,h3⟩:=r.prv p o hp;have ne:∀a u,W.HS a=aa u->a≠p:=λa u e z=>by rw[z,h2] at e;cases e
 refine r.nT rfl rfl rfl rfl (λe c=>k8.hs (W:=W) (W':=W.oK p o') rfl rfl rfl (λd ks z=>by
  show upd W.P p o' d=_;rw[dr (λq=>by rw[q,hp] at z;cases z;exact nx _ rfl)];exact z) (k8.at (dr (h3 _ (r.lt e))) c)) (λa u e h=>h.at (dr (ne a u e))) (λa q u e h=>by rw[dr (λz=>by rw[z,h1] at h;cases h;exact nfz _ _ rfl)];exact h) λa u e=>?_
 have e:upd W.P p o' a=aa u:=e;by_cases z:a=p
 .subst z
  rw[gm] at e;cases e;exact⟨gm,h2,h3⟩
 .rw[dr z] at e ⊢
  exact r.prv a u e
noncomputable def Wd.iF(W:Wd)(p:ai):Wd:=⟨W.HS,W.μ,W.n,W.Z,λa=>if a=p then ae else W.P a⟩
theorem cV.iF(r:cV W S H)(p:ai)(nx:∀ks,W.P p≠aa (.xd ks)):cV (W.iF p) S H:=
 r.nT rfl rfl rfl rfl (λe c=>k8.hs (W:=W) (W':=W.iF p) rfl rfl rfl (λd ks z=>by
  show(if d=p then ae else W.P d)=_;rw[if_neg (λq=>by rw[q] at z;exact nx _ z)];exact z) c) (λa u _ h=>h) (λa q u _ h=>h) λa u e=>by
  have e:(if a=p then ae else W.P a)=aa u:=e;by_cases z:a=p
  .rw[if_pos z] at e;cases e
  .rw[if_neg z] at e;exact r.prv a u e
theorem cV.xp(r:cV W S H){p:ai}{o:HO}(hp:W.P p=aa o)(no:Ht o)(nx:∀ks,o≠.xd ks):cV ((W.iF p).eU p o) S H:=by
 obtain⟨h1,h2,h3⟩:=r.prv p o hp;have r':=r.iF p (λks z=>by rw[hp] at z;cases z;exact nx _ rfl);have l:(W.iF p).le ((W.iF p).eU p o):=Wd.k9 h2;refine⟨λa u e=>?_,r.len,λk c e=>⟨(r'.cell k c e).1.mono l,?_⟩,r.inj,λa q e=>?_,λa u e=>?_⟩
 .have e:upd W.HS p o a=aa u:=e
  by_cases z:a=p
  .subst z
   rw[gm] at e;cases e;exact⟨.inl h1,no⟩
  .rw[dr z] at e;exact r.sub a u e
 .show upd W.HS p o (W.μ k)=ae
  rw[dr (h3 k (r.lt e))];exact(r.cell k c e).2
 .exact r'.zed a q e
 .obtain⟨g1,g2,g3⟩:=r'.prv a u e
  refine⟨g1,?_,g3⟩;show upd W.HS p o a=ae;by_cases z:a=p
  .have e:(if a=p then ae else W.P a)=aa u:=e
   rw[if_pos z] at e;cases e
  .rw[dr z];exact g2
theorem cV.vp(r:cV W S H){p:ai}{o:HO}(hp:W.P p=aa o)(nx:∀ks,o≠.xd ks)(c:bY)(hc:k8 ((W.iF p).add p) H p c):cV ((W.iF p).add p) (S++[c]) H:=by
 obtain⟨h1,h2,h3⟩:=r.prv p o hp;have r':=r.iF p (λks z=>by rw[hp] at z;cases z;exact nx _ rfl);have l:(W.iF p).le ((W.iF p).add p):=Wd.jd;refine⟨r.sub,by rw[aM,aV,r.len];rfl,λk c' e=>?_,λj k hj hk e=>?_,r'.zed,λa u e=>?_⟩
 .by_cases z:k<S.length
  .rw[aD z] at e
   have hk:k<W.n:=r.len▸z;rw[show((W.iF p).add p).μ k=W.μ k from Wd.gL (W:=W.iF p) hk];exact⟨(r'.cell k c' e).1.mono l,(r.cell k c' e).2⟩
  .have hk:k=W.n:=by
    have:=(aw.mp e).1;rw[aM,aV] at this;have l:=r.len;omega
   subst hk;rw[<- r.len,cL (aB _),hZ] at e;have e:c=c':=by simpa using e
   subst e;have hμ:((W.iF p).add p).μ W.n=p:=Wd.hV (W:=W.iF p);rw[hμ];exact⟨hc,h2⟩
 .have hj:j<W.n+1:=hj
  have hk:k<W.n+1:=hk;have hμ:((W.iF p).add p).μ W.n=p:=Wd.hV (W:=W.iF p);by_cases z:j<W.n
  .have ej:((W.iF p).add p).μ j=W.μ j:=Wd.gL (W:=W.iF p) z
   by_cases y:k<W.n
   .have ek:((W.iF p).add p).μ k=W.μ k:=Wd.gL (W:=W.iF p) y
    rw[ej,ek] at e;exact r.inj j k z y e
   .have:k=W.n:=by omega
    subst this;rw[ej,hμ] at e;exact absurd e (h3 j z)
  .have:j=W.n:=by omega
   subst this;by_cases y:k<W.n
   .have ek:((W.iF p).add p).μ k=W.μ k:=Wd.gL (W:=W.iF p) y
    rw[ek,hμ] at e;exact absurd e.symm (h3 k y)
   .omega
 .obtain⟨g1,g2,g3⟩:=r'.prv a u e
  refine⟨g1,g2,λk hk z=>?_⟩;have hk:k<W.n+1:=hk;by_cases y:k<W.n
  .rw[show((W.iF p).add p).μ k=W.μ k from Wd.gL (W:=W.iF p) y] at z;exact g3 k y z
  .have:k=W.n:=by omega
   subst this;rw[show((W.iF p).add p).μ W.n=p from Wd.hV (W:=W.iF p)] at z;have e:(if a=p then ae else W.P a)=aa u:=e;rw[if_pos z.symm] at e;cases e
end
noncomputable def c6(S:bG):T->Option (List T)
 |.lst ts=>aa ts
 | .obj k=>match S[k]? with
   |some (.lst ts)=>aa ts
   |_=>ae
 |_=>ae
noncomputable def jV(S:bG):T->Option (List T)
 |.tup ts=>aa ts
 |t=>c6 S t
noncomputable def nU(S:bG):T->Option (List (cg×T))
 |.dic ts=>aa ts
 | .obj k=>match S[k]? with
   |some (.dic ts)=>aa ts
   |_=>ae
 |_=>ae
section
variable {W:Wd}{S:bG}{H:Hp}
theorem Rv{k:Nat}{ts:List T}(h:c6 S (.obj k)=aa ts):S[k]?=aa (.lst ts):=by
 unfold c6 at h;cases e:S[k]? with
 |none=>simp[e] at h
 |some c=>cases c<;>simp[e] at h;subst h;rfl
theorem z01{k:Nat}{ts:List (cg×T)}(h:nU S (.obj k)=aa ts):S[k]?=aa (.dic ts):=by
 unfold nU at h;cases e:S[k]? with
 |none=>simp[e] at h
 |some c=>cases c<;>simp[e] at h;subst h;rfl
theorem cV.list(r:cV W S H){t:T}{v:V}{ts:List T}(d:cD W t v)(h:c6 S t=aa ts):∃a vs,v=.ref a/\Rd H a (.lst vs)/\aW W ts vs:=by
 cases t with
 | lst xs=>
   have e:xs=ts:=by simpa[c6] using h
   subst e;obtain⟨a,vs,rfl,h1,h2⟩:=r8.mp d;exact⟨a,vs,rfl,(r.sub a _ h1).1.rd,h2⟩
 | obj k=>
   obtain⟨rfl,hk⟩:=m3.mp d;obtain⟨⟨vs,h1,h2⟩,_⟩:=r.cell k _ (Rv h);exact⟨_,vs,rfl,.inl h1,h2⟩
 |_=>simp[c6] at h
theorem cV.seq(r:cV W S H){t:T}{v:V}{ts:List T}(d:cD W t v)(h:jV S t=aa ts):∃a vs,v=.ref a/\(Rd H a (.lst vs)\/Rd H a (.tup vs))/\aW W ts vs:=by
 cases t with
 | tup xs=>
   have e:xs=ts:=by simpa[jV] using h
   subst e;obtain⟨a,vs,rfl,h1,h2⟩:=r9.mp d;exact⟨a,vs,rfl,.inr (r.sub a _ h1).1.rd,h2⟩
 |lst xs=>obtain⟨a,vs,e,h1,h2⟩:=r.list d (by simpa[jV] using h);exact⟨a,vs,e,.inl h1,h2⟩
 |obj k=>obtain⟨a,vs,e,h1,h2⟩:=r.list d (by simpa[jV] using h);exact⟨a,vs,e,.inl h1,h2⟩
 |_=>simp[jV,c6] at h
theorem cV.dict(r:cV W S H){t:T}{v:V}{ts:List (cg×T)}(d:cD W t v)(h:nU S t=aa ts):∃a vs,v=.ref a/\Rd H a (.dK vs)/\bN W ts vs:=by
 cases t with
 | dic xs=>
   have e:xs=ts:=by simpa[nU] using h
   subst e;obtain⟨a,vs,rfl,h1,h2⟩:=xj.mp d;exact⟨a,vs,rfl,(r.sub a _ h1).1.rd,h2⟩
 | obj k=>
   obtain⟨rfl,hk⟩:=m3.mp d;obtain⟨⟨vs,h1,h2⟩,_⟩:=r.cell k _ (z01 h);exact⟨_,vs,rfl,.inl h1,h2⟩
 |_=>simp[nU] at h
end
noncomputable def af(i:Nat):DE:=fun ρ=>match ρ[i]? with
 |some (aa t)=>M.pure t
 |_=>M.bad
noncomputable def eC(t:T):DE:=λ_=>M.pure t
noncomputable def e2(g:T->T->M T)(fa fb:DE):DE:=fun ρ=>(fa ρ).bind λx=>(fb ρ).bind λy=>g x y
def e1(g:T->M T)(fa:DE):DE:=fun ρ=>(fa ρ).bind g
noncomputable def aF:DA:=λ_=>M.pure []
noncomputable def aP(fa:DE)(r:DA):DA:=fun ρ=>(fa ρ).bind λt=>(r ρ).bind λts=>M.pure (t::ts)
section
variable {X:Cx}{E:XK}{a b e:bx}{es:List bx}{fa fb:DE}{fr:DA}{pos:Pos}
theorem Zbb{i:Nat}{σ:St}{H:Hp}{Q:VK}(h:RE E (af i) σ H Q):mv i σ H Q:=by
 obtain⟨W,S,ρ,r,env,p⟩:=h;unfold af at p;cases e:ρ[i]? with
 |none=>rw[e] at p;exact p.elim
 | some o=>
   cases o with
   |none=>rw[e] at p;exact p.elim
   | some t=>
     rw[e] at p;obtain⟨v,e1,d⟩:=env.get e;exact⟨v,e1,p W H (Wd.le.refl W) r v d⟩
theorem ev(i:Nat){x:Str}(hN:X.N[i]?=aa x:=by rfl)(hv:B' X.env.scope x:=by first | exact eJ rfl | exact cS (eJ rfl) | exact cS (cS rfl))(hd:(x==("__debug__" : Str))=false:=by decide)
 (tE:(x==("__classdict__" : Str))=false:=by decide):PE X (.Name x pos) (RE E (af i)):=iT (pv i hN hv hd tE) λ_ _ _=>Zbb
theorem vq{t:T}{v:V}(hd:∀W,cD W t v){σ:St}{H:Hp}{Q:VK}(h:RE E (eC t) σ H Q):Q v H:=by
 obtain⟨W,S,ρ,r,env,p⟩:=h;exact p W H (Wd.le.refl W) r v (hd W)
theorem bZ{i j}:PE X (.Constant (.int i) j pos) (RE E (eC (.int i))):=iT Xi λ_ _ _=>vq λW=>jF.mpr rfl
theorem oM{i j}:PE X (.Constant (.bool i) j pos) (RE E (eC (.bl i))):=iT Xj λ_ _ _=>vq λW=>jQ.mpr rfl
theorem gF{i j}:PE X (.Constant (.str i) j pos) (RE E (eC (.str i))):=iT GH λ_ _ _=>vq λW=>nr.mpr rfl
theorem pz{j}:PE X (.Constant .none j pos) (RE E (eC .bq)):=iT Xk λ_ _ _=>vq λW=>nS.mpr rfl
def G2(E:XK)(r:R2)(g:T->T->M T):Prop:=∀(tx ty:T) (W:Wd) (S:bG) (H:Hp) (x y:V) (Q:VK),cV W S H->cD W tx x->cD W ty y->bo E W (QV Q) (g tx ty S)->r x y H Q
theorem se{r:R2}{g:T->T->M T}(hg:G2 E r g){σ:St}{H:Hp}{Q:VK}(h:RE E (e2 g fa fb) σ H Q):DU r (RE E fa) (RE E fb) σ H Q:=by
 obtain⟨W,S,ρ,rp,env,p⟩:=h;refine⟨W,S,ρ,rp,env,(bo.bind p).imp λtx W1 S1 H1 l1 r1 p1 x dx=>?_⟩;refine⟨W1,S1,ρ,r1,env.mono l1,(bo.bind p1).imp λty W2 S2 H2 l2 r2 p2 y dy=>?_⟩;exact hg tx ty W2 S2 H2 x y Q r2 (cD.mono l2 _ _ dx) dy p2
def G1(E:XK)(r:V->Hp->VK->Prop)(g:T->M T):Prop:=∀(tx:T) (W:Wd) (S:bG) (H:Hp) (x:V) (Q:VK),cV W S H->cD W tx x->bo E W (QV Q) (g tx S)->r x H Q
theorem sg{r:V->Hp->VK->Prop}{g:T->M T}(hg:G1 E r g){σ:St}{H:Hp}{Q:VK}(h:RE E (e1 g fa) σ H Q):RE E fa σ H (λx H1=>r x H1 Q):=by
 obtain⟨W,S,ρ,rp,env,p⟩:=h;exact⟨W,S,ρ,rp,env,(bo.bind p).imp λtx W1 S1 H1 l1 r1 p1 x dx=>hg tx W1 S1 H1 x Q r1 dx p1⟩
theorem bW:PA X [] (RA E aF):=Rt yU fun σ H Q h=>by
 obtain⟨W,S,ρ,r,env,p⟩:=h;exact p W H (Wd.le.refl W) r [] aW.gj
theorem be(ha:PE X e (RE E fa))(hr:PA X es (RA E fr))(hs:av (e::es) X.env=(false,eval e X.env)::av es X.env:=by rfl):PA X (e::es) (RA E (aP fa fr)):=
 Rt (u6 ha hr hs) fun σ H Q h=>by
  obtain⟨W,S,ρ,rp,env,p⟩:=h;refine⟨W,S,ρ,rp,env,(bo.bind p).imp λtx W1 S1 H1 l1 r1 p1 x dx=>?_⟩;refine⟨W1,S1,ρ,r1,env.mono l1,(bo.bind p1).imp λts W2 S2 H2 l2 r2 p2 vs jP=>?_⟩;exact p2 W2 H2 (Wd.le.refl _) r2 _ (aW.dY (cD.mono l2 _ _ dx) jP)
end
noncomputable def gI(f:Int->Int->Option T)(x y:T):M T:=λS=>match x,y with
 | .int i,.int j=>(match f i j with
   |some t=>.ok t S
   |none=>.bad)
 |_,_=>.bad
theorem Rx{E:XK}{W:Wd}{S:bG}{f:Int->Int->Option T}{tx ty:T}{Q:T->Wd->bG->Hp->Prop}(p:bo E W Q (gI f tx ty S)):∃i j t,tx=.int i/\ty=.int j/\f i j=aa t/\bo E W Q (.ok t S):=by
 unfold gI at p;cases tx with
 | int i=>
   cases ty with
   | int j=>
     cases e:f i j with
     |none=>simp only[e] at p;exact p.elim
     |some t=>simp only[e] at p;exact⟨i,j,t,rfl,rfl,e,p⟩
   |_=>exact p.elim
 |_=>exact p.elim
noncomputable def vt(i j:Int):Option T:=aa (.int (i-j))
noncomputable def pA(i j:Int):Option T:=if(-(2 ^ 64)<i/\i<2 ^ 64)\/(-(2 ^ 64)<j/\j<2 ^ 64) then aa (.int (i*j)) else ae
noncomputable def jH(i j:Int):Option T:=if 0<j/\j<1073741824 then aa (.int (i / j)) else ae
noncomputable def fZ(i j:Int):Option T:=if 0<j then aa (.int (i%j)) else ae
noncomputable def vv(i j:Int):Option T:=if 0<=j/\j<=1000/\i.natAbs<2 ^ 64 then aa (.int (i ^ j.toNat)) else ae
noncomputable def Lr(i j:Int):Option T:=aa (.bl (decide (i<j)))
noncomputable def Hv(i j:Int):Option T:=aa (.bl (decide (j<i)))
noncomputable def Hw(i j:Int):Option T:=aa (.bl (decide (j<=i)))
section
variable {X:Cx}{E:XK}{a b e:bx}{fa fb:DE}{pos:Pos}
theorem now{E:XK}{W:Wd}{S:bG}{H:Hp}{t:T}{v:V}{Q:VK}(p:bo E W (QV Q) (.ok t S))(r:cV W S H)(d:cD W t v):Q v H:=p W H (Wd.le.refl W) r v d
theorem Hx{f:Int->Int->V}{g:Int->Int->Option T}(h:∀i j t,g i j=aa t->∀W,cD W t (f i j)):G2 E (w_ f) (gI g):=by
 intro tx ty W S H x y Q r dx dy p;obtain⟨i,j,t,rfl,rfl,e,p⟩:=Rx p;exact⟨i,j,jF.mp dx,jF.mp dy,now p r (h i j t e W)⟩
theorem xq{C:Int->Int->Prop}{f:Int->Int->V}{g:Int->Int->Option T}(h:∀i j t,g i j=aa t->C i j/\∀W,cD W t (f i j)):G2 E (rI C f) (gI g):=by
 intro tx ty W S H x y Q r dx dy p;obtain⟨i,j,t,rfl,rfl,e,p⟩:=Rx p;exact⟨i,j,jF.mp dx,jF.mp dy,(h i j t e).1,now p r ((h i j t e).2 W)⟩
theorem Ls(ha:PE X a (RE E fa))(hb:PE X b (RE E fb)):PE X (.BinOp a .Sub b pos) (RE E (e2 (gI vt) fa fb)):=iT (Cd XY ha hb) λ_ _ _=>se (Hx λi j t e W=>by cases e;exact jF.mpr rfl)
theorem Cm(ha:PE X a (RE E fa))(hb:PE X b (RE E fb)):PE X (.BinOp a .Mult b pos) (RE E (e2 (gI pA) fa fb)):=iT (Cd XZ ha hb) λ_ _ _=>se (xq λi j t e=>by
 unfold pA at e;split at e
 .rename_i h;cases e;exact⟨h,λW=>jF.mpr rfl⟩
 .cases e)
theorem ur(ha:PE X a (RE E fa))(hb:PE X b (RE E fb)):PE X (.BinOp a .FloorDiv b pos) (RE E (e2 (gI jH) fa fb)):=iT (Cd X0 ha hb) λ_ _ _=>se (xq λi j t e=>by
 unfold jH at e;split at e
 .rename_i h;cases e;exact⟨h,λW=>jF.mpr rfl⟩
 .cases e)
theorem mx(ha:PE X a (RE E fa))(hb:PE X b (RE E fb)):PE X (.BinOp a .Mod b pos) (RE E (e2 (gI fZ) fa fb)):=iT (Cd X1 ha hb) λ_ _ _=>se (xq λi j t e=>by
 unfold fZ at e;split at e
 .rename_i h;cases e;exact⟨h,λW=>jF.mpr rfl⟩
 .cases e)
theorem Ry(ha:PE X a (RE E fa))(hb:PE X b (RE E fb)):PE X (.BinOp a .Pow b pos) (RE E (e2 (gI vv) fa fb)):=iT (Cd X2 ha hb) λ_ _ _=>se (xq λi j t e=>by
 unfold vv at e;split at e
 .rename_i h;cases e;exact⟨⟨h.1,Int.le_trans h.2.1 (by decide),h.2.2⟩,λW=>jF.mpr rfl⟩
 .cases e)
noncomputable def fT(x y:T):M T:=λS=>match x,y with
 |.int i,.int j=>.ok (.int (i+j)) S
 |.str i,.str j=>if i.length+j.length<=1000 then .ok (.str (i++j)) S else .bad
 | _,_=>match c6 S x,c6 S y with
   |some xs,aa ys=>if xs.length+ys.length<=1000 then .ok (.lst (xs++ys)) S else .bad
   |_,_=>.bad
theorem z8b:kJ X (jN .Add) (λx y H Q=>∃l b xs zs,x=.ref l/\y=.ref b/\Rd H l (.lst xs)/\Rd H b (.lst zs)/\xs.length+zs.length<=sizeLine/\∀p,H p=ae->Q (.ref p) (upd H p (.lst (xs++zs)))):=by
 intro ah s σ H x y v u Q I rx ry h;obtain⟨l,b,xs,zs,rfl,rfl,hH,hB,hz,q⟩:=h;cases rx;cases ry;obtain⟨z,cy,n,r,e⟩:=hH.ok I.cI;obtain⟨z2,oN,n2,r2,e2⟩:=hB.ok I.cI;have hl:=r.length;have tN:=r2.length;refine PySem.P.add_list e e2 ?_ (by rw[aI,aI];omega);have ea:cy.toArray++oN.toArray=(cy++oN).toArray:=by simp
 rw[ea];exact⟨.ref _,_,I.KO (t':=s.toks) (r.append r2) (by rw[aM];omega),rfl,q _ I.fresh⟩
theorem rQ{n:Nat}(h:n<=1000):n<=sizeLine:=m8 (QM h)
theorem Hy{E:XK}{W:Wd}{S:bG}{H:Hp}{Q:VK}{ts:List T}{vs:List V}(p:bo E W (QV Q) (.ok (.lst ts) S))(r:cV W S H)(d:aW W ts vs):∀a,H a=ae->Q (.ref a) (upd H a (.lst vs)):=λa ha=>by
 have l:W.le (W.eU a (.lst vs)):=Wd.k9 (r.jG ha);exact p (W.eU a (.lst vs)) _ l (r.eU ha _ trivial) _ (r8.mpr ⟨a,vs,rfl,gm,aW.mono l _ _ d⟩)
theorem Lu{E:XK}{W:Wd}{S:bG}{H:Hp}{Q:VK}{ts:List T}{vs:List V}(p:bo E W (QV Q) (.ok (.tup ts) S))(r:cV W S H)(d:aW W ts vs):∀a,H a=ae->Q (.ref a) (upd H a (.tup vs)):=λa ha=>by
 have l:W.le (W.eU a (.tup vs)):=Wd.k9 (r.jG ha);exact p (W.eU a (.tup vs)) _ l (r.eU ha _ trivial) _ (r9.mpr ⟨a,vs,rfl,gm,aW.mono l _ _ d⟩)
theorem Rz{E:XK}{W:Wd}{S:bG}{H:Hp}{Q:VK}{ts:List T}{vs:List V}(p:bo E W (QV Q) (.ok (.obj S.length) (S++[.lst ts])))(r:cV W S H)(d:aW W ts vs):∀a,H a=ae->Q (.ref a) (upd H a (.lst vs)):=λa ha=>by
 refine p (W.add a) _ Wd.jd (r.nv ha (.lst ts) _ ⟨vs,gm,aW.mono Wd.jd _ _ d⟩) _ (m3.mpr ⟨?_,?_⟩)
 .rw[r.len,Wd.hV]
 .rw[r.len];exact dH _
theorem Zbe:G2 E (λx y H Q=>(w_ (λi j=>.int (i+j)) x y H Q\/(∃i j,x=.str i/\y=.str j/\i.length+j.length<=sizeLine/\Q (.str (i++j)) H))\/(∃l b xs zs,x=.ref l/\y=.ref b/\Rd H l (.lst xs)/\Rd H b (.lst zs)/\xs.length+zs.length<=sizeLine/\∀p,H p=ae->Q (.ref p) (upd H p (.lst (xs++zs))))) fT:=by
 intro tx ty W S H x y Q r dx dy p;have Ey:∀{tx ty:T},cD W tx x->cD W ty y->bo E W (QV Q) (match c6 S tx,c6 S ty with|some xs,aa ys=>if xs.length+ys.length<=1000 then .ok (.lst (xs++ys)) S else .bad | _,_=>.bad)->(∃l b xs zs,x=.ref l/\y=.ref b/\Rd H l (.lst xs)/\Rd H b (.lst zs)/\xs.length+zs.length<=sizeLine/\∀p,H p=ae->Q (.ref p) (upd H p (.lst (xs++zs)))):=by
  intro tx ty dx dy p;cases e1:c6 S tx with
  |none=>simp only[e1] at p;exact p.elim
  | some xs=>
    cases e2:c6 S ty with
    |none=>simp only[e1,e2] at p;exact p.elim
    | some ys=>
      simp only[e1,e2] at p
      split at p
      .rename_i hl
       obtain⟨a,vs,rfl,h1,h2⟩:=r.list dx e1;obtain⟨b,ws,rfl,h3,h4⟩:=r.list dy e2;refine⟨a,b,vs,ws,rfl,rfl,h1,h3,rQ (by rw[<- h2.length,<- h4.length];exact hl),Hy p r (h2.append h4)⟩
      .exact p.elim
 unfold fT at p
 split at p
 .exact .inl (.inl ⟨_,_,jF.mp dx,jF.mp dy,now p r (jF.mpr rfl)⟩)
 .split at p
  .rename_i hl
   exact .inl (.inr ⟨_,_,nr.mp dx,nr.mp dy,rQ hl,now p r (nr.mpr rfl)⟩)
  .exact p.elim
 .exact .inr (Ey dx dy p)
theorem nV(ha:PE X a (RE E fa))(hb:PE X b (RE E fb)):PE X (.BinOp a .Add b pos) (RE E (e2 fT fa fb)):=iT (Cd ((XX.or Yb).or z8b) ha hb) λ_ _ _=>se Zbe
end
end MF
namespace MF
open PySem L2 PySem.SeqAt
mutual
def pd:T->Option iR
 |.bq=>aa .none
 |.bl b=>aa (.bool b)
 |.int i=>aa (.int i)
 |.str x=>aa (.str x)
 |.lst ts=>(md ts).map .list
 |.tup ts=>(md ts).map .tuple
 |.dic _=>ae
 |.obj _=>ae
def md:List T->Option (List iR)
 |[]=>aa []
 | t::ts=>match pd t,md ts with
   |some d,aa ds=>aa (d::ds)
   |_,_=>ae
end
mutual
def kN(H:Hp):iR->V->Prop
 |.none,v=>v=.bq
 |.bool b,v=>v=.bl b
 |.int i,v=>v=.int i
 |.str x,v=>v=.str x
 |.list ds,v=>∃a vs,v=.ref a/\Rd H a (.lst vs)/\lM H ds vs
 |.tuple ds,v=>∃a vs,v=.ref a/\Rd H a (.tup vs)/\lM H ds vs
 |.dict _,_=>False
def lM(H:Hp):List iR->List V->Prop
 |[],vs=>vs=[]
 |d::ds,vs=>∃v r,vs=v::r/\kN H d v/\lM H ds r
end
section
variable {W:Wd}{S:bG}{H:Hp}
mutual
theorem Lv(r:cV W S H):∀(t:T) (v:V) (d:iR),cD W t v->pd t=aa d->kN H d v
 |.bq,v,d,h,e=>by simp only[pd] at e;cases e;simp only[kN];exact nS.mp h
 |.bl _,v,d,h,e=>by simp only[pd] at e;cases e;simp only[kN];exact jQ.mp h
 |.int _,v,d,h,e=>by simp only[pd] at e;cases e;simp only[kN];exact jF.mp h
 |.str _,v,d,h,e=>by simp only[pd] at e;cases e;simp only[kN];exact nr.mp h
 | .lst ts,v,d,h,e=>by
   simp only[pd] at e;obtain⟨ds,e1,rfl⟩:=bw.mp e;obtain⟨a,vs,rfl,h1,h2⟩:=r8.mp h;simp only[kN];exact⟨a,vs,rfl,(r.sub _ _ h1).1.rd,lN r ts vs ds h2 e1⟩
 | .tup ts,v,d,h,e=>by
   simp only[pd] at e;obtain⟨ds,e1,rfl⟩:=bw.mp e;obtain⟨a,vs,rfl,h1,h2⟩:=r9.mp h;simp only[kN];exact⟨a,vs,rfl,(r.sub _ _ h1).1.rd,lN r ts vs ds h2 e1⟩
 |.dic _,v,d,h,e=>by simp only[pd] at e;cases e
 |.obj _,v,d,h,e=>by simp only[pd] at e;cases e
theorem lN(r:cV W S H):∀(ts:List T) (vs:List V) (ds:List iR),aW W ts vs->md ts=aa ds->lM H ds vs
 |[],vs,ds,h,e=>by simp only[md] at e;cases e;simp only[lM];exact ow.mp h
 | t :: ts,vs,ds,h,e=>by
   obtain⟨v,q,rfl,h1,h2⟩:=nu.mp h;simp only[md] at e;cases e1:pd t with
   |none=>simp[e1] at e
   | some d=>
     cases e2:md ts with
     |none=>simp[e1,e2] at e
     | some ds'=>
       simp[e1,e2] at e;subst e;simp only[lM];exact⟨v,q,rfl,Lv r t v d h1 e1,lN r ts q ds' h2 e2⟩
end
end
mutual
theorem gM{P:aU}{w:bz}{H:Hp}{h:bR}(ok:iZ P w H h):∀(d:iR) (v:V) (u:ag),kN H d v->RelV v u->∃as,Reads h u d as
 |.none,v,u,q,r=>by simp only[kN] at q;subst q;cases r;exact⟨_,.none⟩
 |.bool b,v,u,q,r=>by simp only[kN] at q;subst q;cases r;exact⟨_,.bool b⟩
 |.int i,v,u,q,r=>by simp only[kN] at q;subst q;obtain⟨t,rfl⟩:=r;exact⟨_,.int i t⟩
 |.str i,v,u,q,r=>by simp only[kN] at q;subst q;obtain⟨t,rfl⟩:=r;exact⟨_,.str i t⟩
 | .list ds,v,u,q,r=>by
   simp only[kN] at q;obtain⟨a,vs,rfl,h1,h2⟩:=q;cases r;obtain⟨_,cy,n,r,e⟩:=h1.ok ok;obtain⟨as,ra⟩:=ka ok ds vs cy h2 r;exact⟨_,.list e rfl rfl (by simpa using ra)⟩
 | .tuple ds,v,u,q,r=>by
   simp only[kN] at q;obtain⟨a,vs,rfl,h1,h2⟩:=q;cases r;obtain⟨_,cy,r,o,e,hc,n,hd⟩:=h1.ok ok;obtain⟨as,ra⟩:=ka ok ds vs cy h2 r;exact⟨_,.tuple e hc hd (by simpa using ra)⟩
 |.dict _,v,u,q,r=>by simp only[kN] at q
theorem ka{P:aU}{w:bz}{H:Hp}{h:bR}(ok:iZ P w H h):∀(ds:List iR) (vs:List V) (us:List ag),lM H ds vs->cj vs us->∃as,ReadsAll h us ds as
 |[],vs,us,q,r=>by simp only[lM] at q;subst q;cases r;exact⟨_,.nil⟩
 | d :: ds,vs,us,q,r=>by
   simp only[lM] at q;obtain⟨v,vr,rfl,h1,h2⟩:=q;cases r with
   | cons r1 r2=>
     obtain⟨as,ra⟩:=gM ok d v _ h1 r1;obtain⟨bs,rb⟩:=ka ok ds vr _ h2 r2;exact⟨_,.cons ra rb⟩
end
noncomputable def oy(S:bG):T->Option iR
 | .obj k=>match S[k]? with
   |some (.lst ts)=>(md ts).map .list
   |_=>ae
 |t=>pd t
theorem RB{W:Wd}{S:bG}{H:Hp}(r:cV W S H){t:T}{v:V}{d:iR}(h:cD W t v)(e:oy S t=aa d):kN H d v:=by
 cases t with
 | obj k=>
   obtain⟨rfl,hk⟩:=m3.mp h;unfold oy at e;cases e0:S[k]? with
   |none=>simp[e0] at e
   | some c=>
     cases c with
     | lst ts=>
       simp only[e0] at e;obtain⟨ds,e1,rfl⟩:=bw.mp e;obtain⟨⟨vs,h1,h2⟩,_⟩:=r.cell k _ e0;simp only[kN];exact⟨_,vs,rfl,.inl h1,lN r ts vs ds h2 e1⟩
     |dic _=>simp[e0] at e
     |ins _ _=>simp[e0] at e
     |exc _ _=>simp[e0] at e
     |lck _=>simp[e0] at e
 |_=>exact Lv r _ v d h (by simpa[oy] using e)
noncomputable def toV:T->Option V
 |.bq=>aa .bq
 |.bl b=>aa (.bl b)
 |.int i=>aa (.int i)
 |.str x=>aa (.str x)
 |_=>ae
theorem Ez{W:Wd}{t:T}{v u:V}(h:cD W t v)(e:toV t=aa u):v=u:=by
 cases t<;>simp only[toV,qB] at e<;>first | (subst e;first | exact nS.mp h | exact jQ.mp h | exact jF.mp h | exact nr.mp h) | cases e
noncomputable def tO(S:bG)(x y:T):Option Bool:=match toV x,toV y with
 |some u,aa v=>if ph u v=true then aa (decide (u=v)) else ae
 | _,_=>match oy S x,oy S y with
   |some a,aa b=>if(a.canLay0&&b.canLay0&&decide (a.depth<=50))=true then aa (cw a b) else ae
   |_,_=>ae
noncomputable def fD(x y:T):M T:=λS=>match tO S x y with
 |some b=>.ok (.bl b) S
 |none=>.bad
noncomputable def oz(x y:T):M T:=λS=>match tO S x y with
 |some b=>.ok (.bl (!b)) S
 |none=>.bad
def xr(Ea:Bool):R2:=λx y H Q=>∃a b,kN H a x/\kN H b y/\a.canLay0=true/\b.canLay0=true/\a.depth<=50/\Q (.bl (if Ea then !cw a b else cw a b)) H
section
variable {X:Cx}{E:XK}{a b e:bx}{es:List bx}{fa fb fc:DE}{fr:DA}{pos:Pos}
theorem RC(hu:X.A.units+64<gc):kJ X (dg .Eq) (xr false):=by
 intro ah s σ H x y v u Q I rx ry h;obtain⟨a,b,ra,rb,ca,cb,hd,q⟩:=h;obtain⟨as,qa⟩:=gM I.cI a x v ra rx;obtain⟨bs,qb⟩:=gM I.cI b y u rb ry;exact compareEq_reads qa qb ca cb (by have:=zV a.depth b.depth;omega) ⟨.bl _,H,I,rfl,q⟩
theorem RD(hu:X.A.units+64<gc):kJ X (dg .NotEq) (xr true):=by
 intro ah s σ H x y v u Q I rx ry h;obtain⟨a,b,ra,rb,ca,cb,hd,q⟩:=h;obtain⟨as,qa⟩:=gM I.cI a x v ra rx;obtain⟨bs,qb⟩:=gM I.cI b y u rb ry;exact compareNe_reads qa qb ca cb (by have:=zV a.depth b.depth;omega) ⟨.bl _,H,I,rfl,q⟩
theorem RF{W:Wd}{S:bG}{H:Hp}{tx ty:T}{x y:V}{c:Bool}(r:cV W S H)(dx:cD W tx x)(dy:cD W ty y)(e:tO S tx ty=aa c) :
  (ph x y=true/\c=decide (x=y))\/∃a b,kN H a x/\kN H b y/\a.canLay0=true/\b.canLay0=true/\a.depth<=50/\c=cw a b:=by
 have data:(match oy S tx,oy S ty with|some a,aa b=>if(a.canLay0&&b.canLay0&&decide (a.depth<=50))=true then aa (cw a b) else ae | _,_=>ae)=aa c->∃a b,kN H a x/\kN H b y/\a.canLay0=true/\b.canLay0=true/\a.depth<=50/\c=cw a b:=λe=>by
  cases e1:oy S tx with
  |none=>simp[e1] at e
  | some a=>
    cases e2:oy S ty with
    |none=>simp[e1,e2] at e
    | some b=>
      simp only[e1,e2] at e
      split at e
      .rename_i hc
       simp only[cG,decide_eq_true_eq] at hc;cases e;exact⟨a,b,RB r dx e1,RB r dy e2,hc.1.1,hc.1.2,hc.2,rfl⟩
      .cases e
 unfold tO at e;cases e1:toV tx with
 |none=>simp only[e1] at e;exact .inr (data e)
 | some u=>
   cases e2:toV ty with
   |none=>simp only[e1,e2] at e;exact .inr (data e)
   | some v=>
     simp only[e1,e2] at e
     split at e
     .rename_i hs
      cases e;have h1:=Ez dx e1;have h2:=Ez dy e2;subst h1 h2;exact .inl ⟨hs,rfl⟩
     .cases e
theorem RG:G2 E (λx y H Q=>PL x y H Q\/xr false x y H Q) fD:=by
 intro tx ty W S H x y Q r dx dy p;unfold fD at p;cases e:tO S tx ty with
 |none=>simp only[e] at p;exact p.elim
 | some c=>
   simp only[e] at p;rcases RF r dx dy e with⟨h1,rfl⟩ | ⟨a,b,h1,h2,h3,h4,h5,rfl⟩
   .exact .inl ⟨h1,now p r (jQ.mpr rfl)⟩
   .exact .inr ⟨a,b,h1,h2,h3,h4,h5,now p r (jQ.mpr rfl)⟩
theorem RJ:G2 E (λx y H Q=>PM x y H Q\/xr true x y H Q) oz:=by
 intro tx ty W S H x y Q r dx dy p;unfold oz at p;cases e:tO S tx ty with
 |none=>simp only[e] at p;exact p.elim
 | some c=>
   simp only[e] at p;rcases RF r dx dy e with⟨h1,rfl⟩ | ⟨a,b,h1,h2,h3,h4,h5,rfl⟩
   .exact .inl ⟨h1,now p r (jQ.mpr rfl)⟩
   .exact .inr ⟨a,b,h1,h2,h3,h4,h5,now p r (jQ.mpr rfl)⟩
theorem xt(hu:X.A.units+64<gc)(ha:PE X a (RE E fa))(hb:PE X b (RE E fb)):PE X (.Compare a [.Eq] [b] pos) (RE E (e2 fD fa fb)):=iT (Kk (PV.or (RC hu)) ha hb (wC _)) λ_ _ _=>se RG
theorem Lw(hu:X.A.units+64<gc)(ha:PE X a (RE E fa))(hb:PE X b (RE E fb)):PE X (.Compare a [.NotEq] [b] pos) (RE E (e2 oz fa fb)):=iT (Kk (PX.or (RD hu)) ha hb (wC _)) λ_ _ _=>se RJ
noncomputable def EA(x:T)(ts:List T):Option Bool:=match toV x,ts.mapM toV with
 |some u,aa vs=>if(nO u&&vs.all nO)=true then aa (D' u vs) else ae
 |_,_=>ae
noncomputable def EB(S:bG)(x y:T):Option Bool:=match jV S y with
 | some ts=>(match EA x ts with
   |some b=>aa b
   | none=>match pd x,md ts with
     |some d,aa ds=>if(d.canLay0&&bj ds&&decide (d.depth<=20)&&decide (bB ds<=20))=true then aa (ds.any λz=>cw z d) else ae
     |_,_=>ae)
 |none=>ae
noncomputable def uu(x y:T):M T:=λS=>match EB S x y with
 |some b=>.ok (.bl b) S
 |none=>.bad
theorem Lx{W:Wd}:∀{ts:List T} {vs us:List V},aW W ts vs->ts.mapM toV=aa us->vs=us
 | [],vs,us,h,e=>by
   have e:aa []=aa us:=by simpa using e
   rw[ow.mp h,<- bf e]
 | t :: ts,vs,us,h,e=>by
   obtain⟨v,r,rfl,h1,h2⟩:=nu.mp h;rw[zW] at e;cases e1:toV t with
   |none=>simp[e1] at e
   | some u=>
     cases e2:ts.mapM toV with
     |none=>simp[e1,e2] at e
     | some ws=>
       simp[e1,e2] at e;subst e;rw[Ez h1 e1,Lx h2 e2]
def EC(Ea:Bool):R2:=λx y H Q=>∃p xs ds d,y=.ref p/\(Rd H p (.lst xs)\/Rd H p (.tup xs))/\lM H ds xs/\kN H d x/\bj ds=true/\d.canLay0=true/\d.depth<=20/\bB ds<=20 /\
 Q (.bl (if Ea then !(ds.any λz=>cw z d) else ds.any λz=>cw z d)) H
theorem Zbh{W:Wd}{S:bG}{H:Hp}{tx ty:T}{x y:V}{c:Bool}(K:aO)(r:cV W S H)(dx:cD W tx x)(dy:cD W ty y)(e:EB S tx ty=aa c) :
  (∃p xs,y=.ref p/\(lH K H p xs\/tF K H p xs)/\nO x=true/\xs.all nO=true/\c=D' x xs) \/
  ∃p xs ds d,y=.ref p/\(Rd H p (.lst xs)\/Rd H p (.tup xs))/\lM H ds xs/\kN H d x/\bj ds=true/\d.canLay0=true/\d.depth<=20/\bB ds<=20/\c=ds.any λz=>cw z d:=by
 unfold EB at e;cases e0:jV S ty with
 |none=>simp only[e0] at e;cases e
 | some ts=>
   obtain⟨p,xs,rfl,h1,h2⟩:=r.seq dy e0;simp only[e0] at e;cases ef:EA tx ts with
   | some b=>
     simp only[ef] at e;cases e;unfold EA at ef;cases e1:toV tx with
     |none=>simp[e1] at ef
     | some u=>
       cases e2:ts.mapM toV with
       |none=>simp[e1,e2] at ef
       | some us=>
         simp only[e1,e2] at ef
         split at ef
         .rename_i hf
          rw[cG] at hf;cases ef;have q1:=Ez dx e1;have q2:=Lx h2 e2;subst q1 q2;refine .inl ⟨p,xs,rfl,?_,hf.1,hf.2,rfl⟩;rcases h1 with h1 | h1
          .exact .inl (.inl h1)
          .exact .inr (.inl h1)
         .cases ef
   | none =>
     simp only[ef] at e;cases e1:pd tx with
     |none=>simp[e1] at e
     | some d=>
       cases e2:md ts with
       |none=>simp[e1,e2] at e
       | some ds=>
         simp only[e1,e2] at e
         split at e
         .rename_i hc
          simp only[cG,decide_eq_true_eq] at hc;cases e;exact .inr ⟨p,xs,ds,d,rfl,h1,lN r _ _ _ h2 e2,Lv r _ _ _ dx e1,hc.1.1.2,hc.1.1.1,hc.1.2,hc.2,rfl⟩
         .cases e
theorem Zbi(hu:X.A.units+64<gc):kJ X (dg .In) (EC false):=by
 intro ah s σ H x y v u Q I rx ry h;obtain⟨p,xs,ds,d,rfl,hp,rs,rd,cs,cd,hd,hds,q⟩:=h;cases ry;obtain⟨bs,qb⟩:=gM I.cI d x v rd rx;rcases hp with hp | hp
 .obtain⟨as,qa⟩:=gM I.cI (.list ds) (.ref p) (.ref p) (by simp only[kN];exact⟨p,xs,rfl,hp,rs⟩) rfl
  exact in_list_reads qa qb cs cd (by omega) ⟨.bl _,H,I,rfl,q⟩
 .obtain⟨as,qa⟩:=gM I.cI (.tuple ds) (.ref p) (.ref p) (by simp only[kN];exact⟨p,xs,rfl,hp,rs⟩) rfl
  exact in_tuple_reads qa qb cs cd (by omega) ⟨.bl _,H,I,rfl,q⟩
theorem Zd9(K:aO):G2 E (λx y H Q=>QD K false x y H Q\/EC false x y H Q) uu:=by
 intro tx ty W S H x y Q r dx dy p;unfold uu at p;cases e:EB S tx ty with
 |none=>simp only[e] at p;exact p.elim
 | some c=>
   simp only[e] at p;rcases Zbh K r dx dy e with⟨q,xs,rfl,h1,h2,h3,rfl⟩ | ⟨q,xs,ds,d,rfl,h1,h2,h3,h4,h5,h6,h7,rfl⟩
   .exact .inl ⟨q,xs,rfl,h1,h2,h3,now p r (jQ.mpr rfl)⟩
   .exact .inr ⟨q,xs,ds,d,rfl,h1,h2,h3,h4,h5,h6,h7,now p r (jQ.mpr rfl)⟩
end
end MF
namespace MF
open PySem L2
noncomputable def Ly(t:T):M Bool:=λS=>match t with
 |.bl b=>.ok b S
 |_=>.bad
noncomputable def nW(t:T):M Bool:=λS=>match t with
 |.bq=>.ok false S
 |.bl b=>.ok b S
 |.int i=>.ok (i != 0) S
 |.str x=>if x.length<=1000 then .ok ((x.length:Int) != 0) S else .bad
 | t=>match jV S t with
   |some ts=>.ok (!ts.isEmpty) S
   |none=>.bad
def dN(f:DE):DT:=fun ρ=>(f ρ).bind Ly
def nA(f:DE):DT:=fun ρ=>(f ρ).bind nW
noncomputable def vw(f g:DT):DT:=fun ρ=>(f ρ).bind λc=>if c=true then g ρ else M.pure false
noncomputable def lO(f g:DT):DT:=fun ρ=>(f ρ).bind λc=>if c=true then M.pure true else g ρ
noncomputable def si(f:DT):DT:=fun ρ=>(f ρ).bind λc=>M.pure (!c)
section
variable {X:Cx}{E:XK}{a b c e:bx}{es:List bx}{fa fb fc:DE}{ta tb:DT}{fr:DA}{pos:Pos}
theorem Lz{f:DE}{σ:St}{H:Hp}{Q:Bool->Hp->Prop}(h:RT E (dN f) σ H Q):RE E f σ H (λx H'=>∃k,x=.bl k/\Q k H'):=by
 obtain⟨W,S,ρ,rp,env,p⟩:=h;refine⟨W,S,ρ,rp,env,(bo.bind p).imp λt W1 S1 H1 l1 r1 p1 v dv=>?_⟩;cases t with
 |bl k=>exact⟨k,jQ.mp dv,p1 W1 H1 (Wd.le.refl _) r1⟩
 |_=>exact p1.elim
theorem zj{op:uJ}{r:R2}{g:T->T->M T}(ho:kJ X (dg op) r)(hg:G2 E r g)(ha:PE X a (RE E fa))(hb:PE X b (RE E fb))(hm:cZ op b=false):PT X (.Compare a [op] [b] pos) (RT E (dN (e2 g fa fb))):=
 Ex (X_ ho ha hb hm) fun σ H Q h=>se hg (Lz h)
theorem eQ(hu:X.A.units+64<gc)(ha:PE X a (RE E fa))(hb:PE X b (RE E fb)):PT X (.Compare a [.Eq] [b] pos) (RT E (dN (e2 fD fa fb))):=zj (PV.or (RC hu)) RG ha hb (wC _)
theorem sj(hu:X.A.units+64<gc)(ha:PE X a (RE E fa))(hb:PE X b (RE E fb)):PT X (.Compare a [.NotEq] [b] pos) (RT E (dN (e2 oz fa fb))):=zj (PX.or (RD hu)) RJ ha hb (wC _)
theorem LA(ha:PE X a (RE E fa))(hb:PE X b (RE E fb)):PT X (.Compare a [.Lt] [b] pos) (RT E (dN (e2 (gI Lr) fa fb))):=zj X5 (Hx λi j t e W=>by cases e;exact jQ.mpr rfl) ha hb (wC _)
theorem ED(ha:PE X a (RE E fa))(hb:PE X b (RE E fb)):PT X (.Compare a [.Gt] [b] pos) (RT E (dN (e2 (gI Hv) fa fb))):=zj X6 (Hx λi j t e W=>by cases e;exact jQ.mpr rfl) ha hb (wC _)
theorem EE(ha:PE X a (RE E fa))(hb:PE X b (RE E fb)):PT X (.Compare a [.GtE] [b] pos) (RT E (dN (e2 (gI Hw) fa fb))):=zj X7 (Hx λi j t e W=>by cases e;exact jQ.mpr rfl) ha hb (wC _)
theorem xu(hu:X.A.units+64<gc)(ha:PE X a (RE E fa))(hb:PE X b (RE E fb))(hm:cZ .In b=false:=by with_unfolding_all rfl):PT X (.Compare a [.In] [b] pos) (RT E (dN (e2 uu fa fb))):=zj (Zc.or (Zbi hu)) (Zd9 X.K) ha hb hm
theorem RK{W:Wd}{S:bG}{H:Hp}{t:T}{v:V}{Q:Bool->Hp->Prop}{K:aO}(r:cV W S H)(d:cD W t v)(p:bo E W (λb _ _ H'=>Q b H') (nW t S)):∃k,u1 K v H k/\Q k H:=by
 have go:∀{k:Bool},bo E W (λb _ _ H'=>Q b H') (.ok k S)->Q k H:=λp=>p W H (Wd.le.refl _) r;have sq:∀{t:T},cD W t v->bo E W (λb _ _ H'=>Q b H') (match jV S t with|some ts=>.ok (!ts.isEmpty) S | none=>.bad)->∃k,u1 K v H k/\Q k H:=λ{t} d p=>by
  cases e:jV S t with
  |none=>simp only[e] at p;exact p.elim
  | some ts=>
    simp only[e] at p;obtain⟨a,vs,rfl,h1,h2⟩:=r.seq d e;have hl:(!ts.isEmpty)=!vs.isEmpty:=by
     have:=h2.length;cases ts<;>cases vs<;>simp_all
    refine⟨_,?_,go p⟩;rcases h1 with h1 | h1
    .exact .inl ⟨vs,.inl h1,hl⟩
    .exact .inr (.inl ⟨vs,.inl h1,hl⟩)
 unfold nW at p
 split at p
 .rw[nS.mp d];exact⟨_,rfl,go p⟩
 .rw[jQ.mp d];exact⟨_,rfl,go p⟩
 .rw[jF.mp d];exact⟨_,rfl,go p⟩
 .split at p
  .rename_i hl;rw[nr.mp d];exact⟨_,⟨rQ hl,rfl⟩,go p⟩
  .exact p.elim
 .exact sq d p
theorem pB(ha:PE X a (RE E fa))(he:∀nH,isTrue a X.env nH=(do let v <- nH;ju a.pos;iA [v] (truthy v)):=by intro _;rfl):PT X a (RT E (nA fa)):=
 Ex (Ya ha he) fun σ H Q h=>by
  obtain⟨W,S,ρ,rp,env,p⟩:=h;exact⟨W,S,ρ,rp,env,(bo.bind p).imp λt W1 S1 H1 l1 r1 p1 v dv=>RK r1 dv p1⟩
theorem RL{e:bx}{t t':TT}(h:PW X e t)(w:∀σ H Q,t' σ H Q->t σ H Q):PW X e t':=λwh ah s σ H Q I q=>h wh ah s σ H Q I (w σ H Q q)
theorem AL(ha:PT X a (RT E ta)):PW X (.BoolOp .And [a] pos) (RT E ta):=Xp ha
theorem Cn(ha:PT X a (RT E ta)):PW X (.BoolOp .Or [a] pos) (RT E ta):=Xq ha
theorem RM{c:Bool}{σ:St}{H:Hp}{Q:Bool->Hp->Prop}(h:RT E (λ_=>M.pure c) σ H Q):Q c H:=by
 obtain⟨W,S,ρ,rp,env,p⟩:=h;exact p W H (Wd.le.refl _) rp
theorem AM(ha:PT X a (RT E ta))(hb:PW X (.BoolOp .And (b::es) pos) (RT E tb)):PW X (.BoolOp .And (a::b::es) pos) (RT E (vw ta tb)):=
 RL (Xr ha hb) fun σ H Q h=>by
  obtain⟨W,S,ρ,rp,env,p⟩:=h;refine⟨W,S,ρ,rp,env,(bo.bind p).imp λc W1 S1 H1 l1 r1 p1=>?_⟩;cases c with
  |true=>exact rV ⟨W1,S1,ρ,r1,env.mono l1,p1⟩
  |false=>exact rT (p1 W1 H1 (Wd.le.refl _) r1)
theorem qQ(ha:PT X a (RT E ta))(hb:PW X (.BoolOp .Or (b::es) pos) (RT E tb)):PW X (.BoolOp .Or (a::b::es) pos) (RT E (lO ta tb)):=
 RL (Xs ha hb) fun σ H Q h=>by
  obtain⟨W,S,ρ,rp,env,p⟩:=h;refine⟨W,S,ρ,rp,env,(bo.bind p).imp λc W1 S1 H1 l1 r1 p1=>?_⟩;cases c with
  |false=>exact rT ⟨W1,S1,ρ,r1,env.mono l1,p1⟩
  |true=>exact rV (p1 W1 H1 (Wd.le.refl _) r1)
theorem wG(ha:PT X a (RT E ta)):PT X (.UnaryOp .Not a pos) (RT E (si ta)):=Ex (Xt ha) fun σ H Q h=>by
 obtain⟨W,S,ρ,rp,env,p⟩:=h;exact⟨W,S,ρ,rp,env,(bo.bind p).imp λc W1 S1 H1 l1 r1 p1=>p1 W1 H1 (Wd.le.refl _) r1⟩
noncomputable def pC(f g:DE):DE:=fun ρ=>(f ρ).bind λx=>match x with
 |.bl true=>g ρ
 |.bl false=>M.pure (.bl false)
 |_=>M.bad
noncomputable def xw(f:DE):DE:=fun ρ=>(f ρ).bind λx=>(nW x).bind λb=>M.pure (.bl (!b))
noncomputable def LB(c:DT)(f g:DE):DE:=fun ρ=>(c ρ).bind λb=>if b=true then f ρ else g ρ
theorem Hz{op}(ha:PE X a (RE E fa)):PE X (.BoolOp op [a] pos) (RE E fa):=Xv ha
theorem HA(ha:PE X a (RE E fa))(hb:PE X (.BoolOp .And (b::es) pos) (RE E fb)):PE X (.BoolOp .And (a::b::es) pos) (RE E (pC fa fb)):=iT (Xw ha hb) fun σ H Q h=>by
 obtain⟨W,S,ρ,rp,env,p⟩:=h;refine⟨W,S,ρ,rp,env,(bo.bind p).imp λt W1 S1 H1 l1 r1 p1 v dv=>?_⟩;cases t with
 | bl k=>
   refine⟨k,jQ.mp dv,?_⟩;cases k with
   |true=>exact rV ⟨W1,S1,ρ,r1,env.mono l1,p1⟩
   |false=>exact rT (now p1 r1 (jQ.mpr rfl))
 |_=>exact p1.elim
theorem z8d{ta:TE}(ha:PE X a ta):PE X (.UnaryOp .Not a pos) (fun σ H Q=>ta σ H λx H1=>∃k,u1 X.K x H1 k/\Q (.bl (!k)) H1):=by
 intro ah s σ H Q I h;refine JP (dF (ha ah s σ H _ I h) λv s1 cN=>?_);obtain⟨x,H1,I1,r1,k,tr,q1⟩:=cN;refine JQ ?_;exact dF (P5 ah s1 σ H1 x v (λb H'=>Q (.bl (!b)) H') I1 r1 ⟨k,tr,q1⟩) λb s2 ⟨H2,I2,q2⟩=>⟨.bl (!b),H2,I2,rfl,q2⟩
theorem RN(ha:PE X a (RE E fa)):PE X (.UnaryOp .Not a pos) (RE E (xw fa)):=iT (z8d ha) fun σ H Q h=>by
 obtain⟨W,S,ρ,rp,env,p⟩:=h;refine⟨W,S,ρ,rp,env,(bo.bind p).imp λt W1 S1 H1 l1 r1 p1 v dv=>?_⟩;refine RK (Q:=λk H'=>Q (.bl (!k)) H') r1 dv ((bo.bind p1).imp λb W2 S2 H2 l2 r2 p2=>now p2 r2 (jQ.mpr rfl))
theorem z8e(hc:PT X c (RT E ta))(ha:PE X a (RE E fa))(hb:PE X b (RE E fb)):PE X (.IfExp c a b pos) (RE E (LB ta fa fb)):=iT (Xy hc ha hb) fun σ H Q h=>by
 obtain⟨W,S,ρ,rp,env,p⟩:=h;refine⟨W,S,ρ,rp,env,(bo.bind p).imp λk W1 S1 H1 l1 r1 p1=>?_⟩;cases k with
 |true=>exact rV ⟨W1,S1,ρ,r1,env.mono l1,p1⟩
 |false=>exact rT ⟨W1,S1,ρ,r1,env.mono l1,p1⟩
noncomputable def mK:T->Bool
 |.bq=>true
 |_=>false
theorem RP{W:Wd}{t:T}{v:V}(d:cD W t v):decide (v=.bq)=mK t:=by
 cases t with
 |bq=>rw[nS.mp d];rfl
 |bl _=>rw[jQ.mp d];rfl
 |int _=>rw[jF.mp d];rfl
 |str _=>rw[nr.mp d];rfl
 |lst _=>obtain⟨a,vs,rfl,_⟩:=r8.mp d;rfl
 |tup _=>obtain⟨a,vs,rfl,_⟩:=r9.mp d;rfl
 |dic _=>obtain⟨a,vs,rfl,_⟩:=xj.mp d;rfl
 |obj _=>obtain⟨rfl,_⟩:=m3.mp d;rfl
noncomputable def mL(x y:T):M T:=λS=>match y with
 |.bq=>.ok (.bl (mK x)) S
 | .bl b=>(match x with
   |.bl a=>.ok (.bl (a==b)) S
   |_=>.bad)
 |_=>.bad
noncomputable def vx(x y:T):M T:=λS=>match y with
 |.bq=>.ok (.bl (!mK x)) S
 | .bl b=>(match x with
   |.bl a=>.ok (.bl (!(a==b))) S
   |_=>.bad)
 |_=>.bad
theorem z05:kJ X (dg .IsNot) (λx y H Q=>∃a b,x=.bl a/\y=.bl b/\Q (.bl (!(a==b))) H):=by
 intro ah s σ H x y v u Q I rx ry h;obtain⟨a,b,rfl,rfl,q⟩:=h;cases rx;cases ry;refine wpAny_isNot_plain rfl ⟨.bl (!(a==b)),H,I,?_,q⟩;show d_ (!(d_ a==d_ b))=d_ (!(a==b));cases a<;>cases b<;>rfl
theorem RQ:G2 E (λx y H Q=>(y=.bq/\Q (.bl (decide (x=.bq))) H)\/(∃a b,x=.bl a/\y=.bl b/\Q (.bl (a==b)) H)) mL:=by
 intro tx ty W S H x y Q r dx dy p;unfold mL at p
 split at p
 .exact .inl ⟨nS.mp dy,by rw[RP dx];exact now p r (jQ.mpr rfl)⟩
 .split at p
  .exact .inr ⟨_,_,jQ.mp dx,jQ.mp dy,now p r (jQ.mpr rfl)⟩
  .exact p.elim
 .exact p.elim
theorem z4l:G2 E (λx y H Q=>(y=.bq/\Q (.bl (!decide (x=.bq))) H)\/(∃a b,x=.bl a/\y=.bl b/\Q (.bl (!(a==b))) H)) vx:=by
 intro tx ty W S H x y Q r dx dy p;unfold vx at p
 split at p
 .exact .inl ⟨nS.mp dy,by rw[RP dx];exact now p r (jQ.mpr rfl)⟩
 .split at p
  .exact .inr ⟨_,_,jQ.mp dx,jQ.mp dy,now p r (jQ.mpr rfl)⟩
  .exact p.elim
 .exact p.elim
theorem LC(ha:PE X a (RE E fa))(hb:PE X b (RE E fb)):PE X (.Compare a [.Is] [b] pos) (RE E (e2 mL fa fb)):=iT (Kk (PY.or Rf) ha hb (wC _)) λ_ _ _=>se RQ
theorem tP(ha:PE X a (RE E fa))(hb:PE X b (RE E fb)):PT X (.Compare a [.Is] [b] pos) (RT E (dN (e2 mL fa fb))):=zj (PY.or Rf) RQ ha hb (wC _)
theorem HC(ha:PE X a (RE E fa))(hb:PE X b (RE E fb)):PT X (.Compare a [.IsNot] [b] pos) (RT E (dN (e2 vx fa fb))):=zj (X8.or z05) z4l ha hb (wC _)
theorem aW.kD{W:Wd}{ts:List T}{vs:List V}{i:Int}{t:T}(h:aW W ts vs)(e:kD ts i=aa t):∃v,L2.kD vs i=aa v/\cD W t v:=by
 unfold L2.kD at e ⊢;rw[<- h.length];cases e1:rz ts.length i with
 |none=>rw[e1] at e;cases e
 | some j=>
   rw[e1] at e;exact h.get e
noncomputable def cv(x y:T):M T:=λS=>match y with
 | .int i=>(match jV S x with
   | some ts=>(match kD ts i with
     |some t=>.ok t S
     |none=>.bad)
   | none=>match x with
     | .str z=>if z.length<=1000 then(match kD z.cps.toList i with
       |some c=>.ok (.str ⟨#[c]⟩) S
       |none=>.bad) else .bad
     |_=>.bad)
 |_=>.bad
theorem Zea (K:aO):G2 E (QA K) cv:=by
 intro tx ty W S H x y Q r dx dy p;unfold cv at p
 split at p
 .rename_i i
  cases e:jV S tx with
  | some ts=>
    simp only[e] at p;cases e2:kD ts i with
    |none=>simp only[e2] at p;exact p.elim
    | some t=>
      simp only[e2] at p;obtain⟨a,vs,rfl,h1,h2⟩:=r.seq dx e;obtain⟨v,e3,dv⟩:=h2.kD e2;rcases h1 with h1 | h1
      .exact .inl ⟨a,vs,i,v,rfl,jF.mp dy,.inl h1,e3,now p r dv⟩
      .exact .inr (.inl ⟨a,vs,i,v,rfl,jF.mp dy,.inl h1,e3,now p r dv⟩)
  | none=>
    simp only[e] at p
    split at p
    .rename_i z
     split at p
     .rename_i hl
      cases e2:kD z.cps.toList i with
      |none=>simp only[e2] at p;exact p.elim
      | some c=>
        simp only[e2] at p;exact .inr (.inr ⟨z,i,c,nr.mp dx,jF.mp dy,rQ hl,e2,now p r (nr.mpr rfl)⟩)
     .exact p.elim
    .exact p.elim
 .exact p.elim
theorem bI(ha:PE X a (RE E fa))(hb:PE X b (RE E fb))(hs:Qz b:=by exact λ_ _=>rfl):PE X (.Subscript a b pos) (RE E (e2 cv fa fb)):=iT (Y4 Y8 ha hb hs) λ_ _ _=>se (Zea X.K)
noncomputable def eE:T->Option cg
 |.int i=>aa (.inl i)
 |.str x=>aa (.inr x)
 |_=>ae
theorem AO{W:Wd}{t:T}{v:V}{k:cg}(d:cD W t v)(e:eE t=aa k):v=kV k:=by
 cases t with
 |int i=>cases e;exact jF.mp d
 |str i=>cases e;exact nr.mp d
 |_=>cases e
noncomputable def dO(kvs:List (cg×T))(k:cg):Option T:=(kvs.find? λkv=>decide (kv.1=k)).map (·.2)
noncomputable def m4(kvs:List (cg×T))(k:cg)(v:T):List (cg×T):=
 if(kvs.any λkv=>decide (kv.1=k))=true then kvs.map (λkv=>if kv.1=k then(kv.1,v) else kv) else kvs++[(k,v)]
noncomputable def EF(kvs:List (cg×T))(k:cg):List (cg×T):=kvs.filter λkv=>decide (kv.1≠k)
theorem bN.val{W:Wd}:∀{kvs:List (cg×T)} {ks:List (cg×V)} (k:cg),bN W kvs ks->(∀t,dO kvs k=aa t->∃v,jE ks k=aa v/\cD W t v)/\(dO kvs k=ae->jE ks k=ae)
 |[],ks,k,h=>by rw[qN.mp h];exact⟨(λt e=>by cases e),λ_=>rfl⟩
 | (k',t)::kvs,ks,k,h=>by
   obtain⟨v,r,rfl,h1,h2⟩:=r_.mp h;have ih:=bN.val k h2;by_cases e:k'=k
   .have a:dO ((k',t)::kvs) k=aa t:=by simp[dO,cf,e]
    have b:jE ((k',v)::r) k=aa v:=GY e;rw[a,b];exact⟨λt' e'=>by cases e';exact⟨v,rfl,h1⟩,λz=>by cases z⟩
   .have a:dO ((k',t)::kvs) k=dO kvs k:=by simp[dO,cf,e]
    have b:jE ((k',v)::r) k=jE r k:=GZ e;rw[a,b];exact ih
theorem bN.any{W:Wd}:∀{kvs:List (cg×T)} {ks:List (cg×V)} (k:cg),bN W kvs ks->(kvs.any λkv=>decide (kv.1=k))=ks.any λkv=>decide (kv.1=k)
 |[],ks,k,h=>by rw[qN.mp h];rfl
 | (k',t)::kvs,ks,k,h=>by
   obtain⟨v,r,rfl,h1,h2⟩:=r_.mp h;rw[fU,fU,bN.any k h2]
theorem bN.tH{W:Wd}{t0:T}{v0:V}(d:cD W t0 v0):∀{kvs:List (cg×T)} {ks:List (cg×V)} (k:cg),bN W kvs ks->bN W (kvs.map (λkv=>if kv.1=k then(kv.1,t0) else kv)) (ks.map (λkv=>if kv.1=k then(kv.1,v0) else kv))
 |[],ks,k,h=>by rw[qN.mp h];exact bN.gj
 | (k',t)::kvs,ks,k,h=>by
   obtain⟨v,r,rfl,h1,h2⟩:=r_.mp h;have ih:=bN.tH d k h2;rw[ay,ay];by_cases e:k'=k
   .rw[if_pos e,if_pos e];exact bN.dY d ih
   .rw[if_neg e,if_neg e];exact bN.dY h1 ih
theorem bN.snoc{W:Wd}{t0:T}{v0:V}(d:cD W t0 v0):∀{kvs:List (cg×T)} {ks:List (cg×V)} (k:cg),bN W kvs ks->bN W (kvs++[(k,t0)]) (ks++[(k,v0)])
 |[],ks,k,h=>by rw[qN.mp h];exact bN.dY d bN.gj
 | (k',t)::kvs,ks,k,h=>by
   obtain⟨v,r,rfl,h1,h2⟩:=r_.mp h;exact bN.dY h1 (bN.snoc d k h2)
theorem bN.put{W:Wd}{t0:T}{v0:V}(d:cD W t0 v0){kvs:List (cg×T)}{ks:List (cg×V)}(k:cg)(h:bN W kvs ks):bN W (m4 kvs k t0) (j8 ks k v0):=by
 unfold m4 j8;rw[h.any k];by_cases e:(ks.any λkv=>decide (kv.1=k))=true
 .rw[if_pos e,if_pos e];exact bN.tH d k h
 .rw[if_neg e,if_neg e];exact bN.snoc d k h
theorem bN.drop{W:Wd}:∀{kvs:List (cg×T)} {ks:List (cg×V)} (k:cg),bN W kvs ks->bN W (EF kvs k) (yV ks k)
 |[],ks,k,h=>by rw[qN.mp h];exact bN.gj
 | (k',t)::kvs,ks,k,h=>by
   obtain⟨v,r,rfl,h1,h2⟩:=r_.mp h;have ih:=bN.drop k h2;unfold EF yV at ih ⊢;rw[gq,gq];by_cases e:k'=k
   .have a:¬decide ((k',t).1≠k)=true:=by simp[e]
    have b:¬decide ((k',v).1≠k)=true:=by simp[e]
    rw[if_neg a,if_neg b];exact ih
   .have a:decide ((k',t).1≠k)=true:=by simp[e]
    have b:decide ((k',v).1≠k)=true:=by simp[e]
    rw[if_pos a,if_pos b];exact bN.dY h1 ih
noncomputable def je(x y:T):M T:=λS=>match nU S x,eE y with
 | some kvs,aa k=>(match dO kvs k with
   |some t=>.ok t S
   |none=>.bad)
 |_,_=>.bad
noncomputable def jf(y x:T):M T:=λS=>match nU S x with
 | some kvs=>(match eE y with
   |some k=>.ok (.bl (dO kvs k).isSome) S
   | none=>match y with
     |.bq=>.ok (.bl false) S
     |_=>.bad)
 |none=>.bad
noncomputable def vy(y x:T):M T:=λS=>match nU S x,eE y with
 |some kvs,aa k=>.ok (.bl (!(dO kvs k).isSome)) S
 |_,_=>.bad
theorem LD{W:Wd}{S:bG}{H:Hp}(r:cV W S H){tx ty:T}{x y:V}{kvs:List (cg×T)}{k:cg}(dx:cD W tx x)(dy:cD W ty y)(e1:nU S tx=aa kvs)(e2:eE ty=aa k) :
  ∃a o,x=.ref a/\nJ H a y o/\(∀t,dO kvs k=aa t->∃v,o=aa v/\cD W t v)/\(dO kvs k).isSome=o.isSome:=by
 obtain⟨a,ks,rfl,h1,h2⟩:=r.dict dx e1;obtain⟨q1,q2⟩:=h2.val k;refine⟨a,jE ks k,rfl,.inl ⟨ks,k,h1,AO dy e2,rfl⟩,q1,?_⟩;cases e:dO kvs k with
 |none=>rw[q2 e];rfl
 |some t=>obtain⟨v,e3,_⟩:=q1 t e;rw[e3];rfl
theorem AQ (hu:X.A.units+1<gc) (ha:PE X a (RE E fa)) (hb:PE X b (RE E fb)) (hs:Ao b:=by exact λ_ _=>rfl):PE X (.Subscript a b pos) (RE E (e2 je fa fb)):=
 iT (YN hu ha hb hs) fun σ H Q h=>se (r:=λx y H Q=>∃a v,x=.ref a/\nJ H a y (aa v)/\Q v H) (λtx ty W S H x y Q r dx dy p=>by
  unfold je at p;cases e1:nU S tx with
  |none=>simp only[e1] at p;exact p.elim
  | some kvs=>
    cases e2:eE ty with
    |none=>simp only[e1,e2] at p;exact p.elim
    | some k=>
      simp only[e1,e2] at p;cases e3:dO kvs k with
      |none=>simp only[e3] at p;exact p.elim
      | some t=>
        simp only[e3] at p;obtain⟨a,o,rfl,g,q1,_⟩:=LD r dx dy e1 e2;obtain⟨v,rfl,dv⟩:=q1 t e3;exact⟨a,v,rfl,g,now p r dv⟩) h
theorem RU:G2 E (λy x H Q=>∃a,x=.ref a/\((∃r,nJ H a y r/\Q (.bl r.isSome) H)\/(y=.bq/\(∃kvs,Rd H a (.dK kvs))/\Q (.bl false) H))) jf:=by
 intro ty tx W S H y x Q r dy dx p;unfold jf at p;cases e1:nU S tx with
 |none=>simp only[e1] at p;exact p.elim
 | some kvs=>
   simp only[e1] at p;cases e2:eE ty with
   | some k=>
     simp only[e2] at p;obtain⟨a,o,rfl,g,_,q⟩:=LD r dx dy e1 e2;exact⟨a,rfl,.inl ⟨o,g,by rw[<- q];exact now p r (jQ.mpr rfl)⟩⟩
   | none=>
     simp only[e2] at p
     split at p
     .obtain⟨a,ks,rfl,h1,h2⟩:=r.dict dx e1
      exact⟨a,rfl,.inr ⟨nS.mp dy,⟨ks,h1⟩,now p r (jQ.mpr rfl)⟩⟩
     .exact p.elim
theorem z07:G2 E (λy x H Q=>∃a o,x=.ref a/\nJ H a y o/\Q (.bl (!o.isSome)) H) vy:=by
 intro ty tx W S H y x Q r dy dx p;unfold vy at p;cases e1:nU S tx with
 |none=>simp only[e1] at p;exact p.elim
 | some kvs=>
   cases e2:eE ty with
   |none=>simp only[e1,e2] at p;exact p.elim
   | some k=>
     simp only[e1,e2] at p;obtain⟨a,o,rfl,g,_,q⟩:=LD r dx dy e1 e2;exact⟨a,o,rfl,g,by rw[<- q];exact now p r (jQ.mpr rfl)⟩
theorem Zeb(hu:X.A.units+1<gc)(ha:PE X a (RE E fa))(hb:PE X b (RE E fb))(hm:cZ .In b=false:=by with_unfolding_all rfl):PE X (.Compare a [.In] [b] pos) (RE E (e2 jf fa fb)):=iT (Xn (Rb hu ha hb) hm) fun σ H Q h=>se RU h
theorem EG(hu:X.A.units+1<gc)(ha:PE X a (RE E fa))(hb:PE X b (RE E fb))(hm:cZ .In b=false:=by with_unfolding_all rfl):PT X (.Compare a [.In] [b] pos) (RT E (dN (e2 jf fa fb))):=Ex (Pz (Rb hu ha hb) hm) fun σ H Q h=>se RU (Lz h)
theorem LF(hu:X.A.units+1<gc)(ha:PE X a (RE E fa))(hb:PE X b (RE E fb))(hm:cZ .NotIn b=false:=by with_unfolding_all rfl):PT X (.Compare a [.NotIn] [b] pos) (RT E (dN (e2 vy fa fb))):=Ex (Pz (YO hu ha hb) hm) fun σ H Q h=>se z07 (Lz h)
end
noncomputable def fN(ts:List T):M T:=λS=>if ts.length<=1000 then .ok (.lst ts) S else .bad
noncomputable def jg(ts:List T):M T:=λS=>if ts.length<=1000 then .ok (.obj S.length) (S++[.lst ts]) else .bad
noncomputable def f_(ts:List T):M T:=λS=>if ts.length<=1000 then .ok (.tup ts) S else .bad
def eA(g:List T->M T)(f:DA):DE:=fun ρ=>(f ρ).bind g
noncomputable def Co:DE:=λ_ S=>.ok (.obj S.length) (S++[.dic []])
section
variable {X:Cx}{E:XK}{a b c e o:bx}{es:List bx}{fa fb fc:DE}{ta tb:DT}{fr:DA}{pos:Pos}
theorem LG{g:List T->M T}{r:List V->Hp->VK->Prop}(hg:∀(ts:List T) (W:Wd) (S:bG) (H:Hp) (vs:List V) (Q:VK),cV W S H->aW W ts vs->bo E W (QV Q) (g ts S)->r vs H Q){σ:St}{H:Hp}{Q:VK}
  (h:RE E (eA g fr) σ H Q):RA E fr σ H (λvs H1=>r vs H1 Q):=by
 obtain⟨W,S,ρ,rp,env,p⟩:=h;exact⟨W,S,ρ,rp,env,(bo.bind p).imp λts W1 S1 H1 l1 r1 p1 vs dv=>hg ts W1 S1 H1 vs Q r1 dv p1⟩
theorem mi(h:PA X es (RA E fr)):PE X (.List es pos) (RE E (eA fN fr)):=iT (P' h) fun σ H Q q=>LG (r:=λvs H Q=>vs.length<=sizeLine/\∀p,H p=ae->Q (.ref p) (upd H p (.lst vs))) (λts W S H vs Q r d p=>by
 unfold fN at p
 split at p
 .rename_i hl;exact⟨rQ (by rw[<- d.length];exact hl),Hy p r d⟩
 .exact p.elim) q
theorem so(h:PA X es (RA E fr)):PE X (.List es pos) (RE E (eA jg fr)):=iT (P' h) fun σ H Q q=>LG (r:=λvs H Q=>vs.length<=sizeLine/\∀p,H p=ae->Q (.ref p) (upd H p (.lst vs))) (λts W S H vs Q r d p=>by
 unfold jg at p
 split at p
 .rename_i hl;exact⟨rQ (by rw[<- d.length];exact hl),Rz p r d⟩
 .exact p.elim) q
theorem mM{k}(h:PA X es (RA E fr)):PE X (.Tuple es k pos) (RE E (eA f_ fr)):=iT (Yt h) fun σ H Q q=>LG (r:=λvs H Q=>vs.length<=sizeLine/\∀p,H p=ae->Q (.ref p) (upd H p (.tup vs))) (λts W S H vs Q r d p=>by
 unfold f_ at p
 split at p
 .rename_i hl;exact⟨rQ (by rw[<- d.length];exact hl),Lu p r d⟩
 .exact p.elim) q
theorem HD:PE X (.Dict [] [] pos) (RE E Co):=iT YS fun σ H Q h a ha=>by
 obtain⟨W,S,ρ,r,env,p⟩:=h;refine p (W.add a) _ Wd.jd (r.nv ha (.dic []) _ ⟨[],gm,bN.gj⟩) _ (m3.mpr ⟨?_,?_⟩)
 .rw[r.len,Wd.hV]
 .rw[r.len];exact dH _
noncomputable def hW(t:T):M T:=λS=>match jV S t with
 |some ts=>.ok (.int ts.length) S
 | none=>match t with
   |.str x=>if x.length<=1000 then .ok (.int x.length) S else .bad
   |_=>.bad
theorem xx{W:Wd}{t:T}{vs:List V}(h:aW W [t] vs):∃v,vs=[v]/\cD W t v:=by
 obtain⟨v,r,rfl,h1,h2⟩:=nu.mp h;rw[ow.mp h2];exact⟨v,rfl,h1⟩
theorem LH{x:Str}{id:String}{p:Pos}{r:List V->Hp->VK->Prop}{g:T->M T}(hc:rN X (.builtin id) r)(hg:∀(t:T) (W:Wd) (S:bG) (H:Hp) (v:V) (Q:VK),cV W S H->cD W t v->bo E W (QV Q) (g t S)->r [v] H Q)
  (gl:Gl X x) (hm:X.mg x=ae) (hv:dA x=aa (.builtin id)) (ha:PE X e (RE E fa)) (hn:x ≠ "__name__") (kC:(x==("__debug__" : Str))=false)
  (he:av [e] X.env=(false,eval e X.env)::av [] X.env) (gX:(bL pos (av [] X.env)).any (·.1)=false):PE X (.Call (.Name x p) [e] [] pos) (RE E (e1 g fa)):=
 iT (Qk hc gl hm hv (u6 ha yU he) hn kC he gX) fun σ H Q h=>sg (r:=λx H Q=>r [x] H Q) hg h
theorem LI{x:Str}{id:String}{p:Pos}{r:List V->Hp->VK->Prop}{g:T->M T}(hc:rN X (.type id) r)(hg:∀(t:T) (W:Wd) (S:bG) (H:Hp) (v:V) (Q:VK),cV W S H->cD W t v->bo E W (QV Q) (g t S)->r [v] H Q)
  (gl:Gl X x) (hm:X.mg x=ae) (hv:dA x=aa (.type id)) (ha:PE X e (RE E fa)) (hn:x ≠ "__name__") (kC:(x==("__debug__" : Str))=false)
  (he:av [e] X.env=(false,eval e X.env)::av [] X.env) (gX:(bL pos (av [] X.env)).any (·.1)=false):PE X (.Call (.Name x p) [e] [] pos) (RE E (e1 g fa)):=
 iT (Ql hc gl hm hv (u6 ha yU he) hn kC he gX) fun σ H Q h=>sg (r:=λx H Q=>r [x] H Q) hg h
theorem Zec(K:aO)(t:T)(W:Wd)(S:bG)(H:Hp)(v:V)(Q:VK)(r:cV W S H)(d:cD W t v)(p:bo E W (QV Q) (hW t S)):∃x n,[v]=[x]/\DW K x H n/\Q (.int n) H:=by
 unfold hW at p;cases e:jV S t with
 | some ts=>
   simp only[e] at p;obtain⟨a,vs,rfl,h1,h2⟩:=r.seq d e;refine⟨_,ts.length,rfl,?_,now p r (jF.mpr rfl)⟩;rcases h1 with h1 | h1
   .exact .inl ⟨vs,.inl h1,h2.length⟩
   .exact .inr ⟨vs,.inl h1,h2.length⟩
 | none=>
   simp only[e] at p
   split at p
   .split at p
    .rename_i hl;rw[nr.mp d];exact⟨_,_,rfl,⟨rQ hl,rfl⟩,now p r (jF.mpr rfl)⟩
    .exact p.elim
   .exact p.elim
theorem zk{p:Pos}(gl:Gl X "len")(hm:X.mg "len" = ae)(ha:PE X e (RE E fa))
  (he:av [e] X.env=(false,eval e X.env)::av [] X.env:=by rfl) (gX:(bL pos (av [] X.env)).any (·.1)=false:=by rfl):PE X (.Call (.Name "len" p) [e] [] pos) (RE E (e1 hW fa)):=
 LH Yd (Zec X.K) gl hm yN ha (by decide) (by decide) he gX
noncomputable def zo(t:T):M T:=λS=>match t with
 | .obj k=>(match S[k]? with
   |some (.dic kvs)=>.ok (.int kvs.length) S
   |_=>.bad)
 |_=>.bad
theorem RV{p:Pos}(gl:Gl X "len")(hm:X.mg "len" = ae)(ha:PE X e (RE E fa))
  (he:av [e] X.env=(false,eval e X.env)::av [] X.env:=by rfl) (gX:(bL pos (av [] X.env)).any (·.1)=false:=by rfl):PE X (.Call (.Name "len" p) [e] [] pos) (RE E (e1 zo fa)):=
 LH Zt (λt W S H v Q r d p=>by
  unfold zo at p
  split at p
  .rename_i k
   split at p
   .rename_i kvs e
    obtain⟨rfl,_⟩:=m3.mp d;obtain⟨⟨ks,h1,h2⟩,_⟩:=r.cell k _ e;exact⟨_,ks,rfl,h1,by rw[<- h2.length];exact now p r (jF.mpr rfl)⟩
   .exact p.elim
  .exact p.elim) gl hm yN ha (by decide) (by decide) he gX
noncomputable def kT:cg->T
 |.inl i=>.int i
 |.inr x=>.str x
theorem RW{W:Wd}(k:cg):cD W (kT k) (kV k):=by
 cases k with
 |inl i=>exact jF.mpr rfl
 |inr i=>exact nr.mpr rfl
noncomputable def sr(S:bG)(t:T):Option (List T):=match jV S t with
 |some ts=>aa ts
 |none=>(nU S t).map λkvs=>kvs.map λp=>kT p.1
noncomputable def tQ(t:T):M T:=λS=>match sr S t with
 |some ts=>.ok (.lst ts) S
 |none=>.bad
noncomputable def wH(t:T):M T:=λS=>match sr S t with
 |some ts=>.ok (.obj S.length) (S++[.lst ts])
 |none=>.bad
theorem LJ{W:Wd}:∀{kvs:List (cg×T)} {ks:List (cg×V)},bN W kvs ks->aW W (kvs.map λp=>kT p.1) (ks.map λp=>kV p.1)
 |[],ks,h=>by rw[qN.mp h];exact aW.gj
 | (k,t)::kvs,ks,h=>by
   obtain⟨v,r,rfl,h1,h2⟩:=r_.mp h;exact aW.dY (RW k) (LJ h2)
abbrev Zed(K:aO):List V->Hp->VK->Prop:=λxs H Q=>(∃p ys,xs=[.ref p]/\(lH K H p ys\/tF K H p ys)/\∀l,H l=ae->Q (.ref l) (upd H l (.lst ys))) \/
 (∃a kvs,xs=[.ref a]/\Rd H a (.dK kvs)/\∀l,H l=ae->Q (.ref l) (upd H l (.lst (kvs.map λp=>kV p.1))))
theorem RX{K:aO}{W:Wd}{S:bG}{H:Hp}{t:T}{v:V}{ts:List T}{Q:VK}(r:cV W S H)(d:cD W t v)(e:sr S t=aa ts)(h:∀vs,aW W ts vs->∀l,H l=ae->Q (.ref l) (upd H l (.lst vs))):Zed K [v] H Q:=by
 unfold sr at e;cases e1:jV S t with
 | some us=>
   simp only[e1] at e;cases e;obtain⟨a,vs,rfl,h1,h2⟩:=r.seq d e1;refine .inl ⟨a,vs,rfl,?_,h vs h2⟩;rcases h1 with h1 | h1
   .exact .inl (.inl h1)
   .exact .inr (.inl h1)
 | none=>
   simp only[e1] at e;obtain⟨kvs,e2,rfl⟩:=bw.mp e;obtain⟨a,ks,rfl,h1,h2⟩:=r.dict d e2;exact .inr ⟨a,ks,rfl,h1,h _ (LJ h2)⟩
theorem RY:dA "list" = aa (.type "list"):=by decide +kernel
theorem Zbn:dA "tuple" = aa (.type "tuple"):=by decide +kernel
theorem HE{p:Pos}(hc:X.calm=true)(gl:Gl X "list")(hm:X.mg "list" = ae)(ha:PE X e (RE E fa))
  (he:av [e] X.env=(false,eval e X.env)::av [] X.env:=by rfl) (gX:(bL pos (av [] X.env)).any (·.1)=false:=by rfl):PE X (.Call (.Name "list" p) [e] [] pos) (RE E (e1 tQ fa)):=
 LI (KI.or (Q9 hc)) (λt W S H v Q r d p=>by
  unfold tQ at p;cases e:sr S t with
  |none=>simp only[e] at p;exact p.elim
  |some ts=>simp only[e] at p;exact RX r d e λvs dv=>Hy p r dv) gl hm RY ha (by decide) (by decide) he gX
theorem LK{p:Pos}(hc:X.calm=true)(gl:Gl X "list")(hm:X.mg "list" = ae)(ha:PE X e (RE E fa))
  (he:av [e] X.env=(false,eval e X.env)::av [] X.env:=by rfl) (gX:(bL pos (av [] X.env)).any (·.1)=false:=by rfl):PE X (.Call (.Name "list" p) [e] [] pos) (RE E (e1 wH fa)):=
 LI (KI.or (Q9 hc)) (λt W S H v Q r d p=>by
  unfold wH at p;cases e:sr S t with
  |none=>simp only[e] at p;exact p.elim
  |some ts=>simp only[e] at p;exact RX r d e λvs dv=>Rz p r dv) gl hm RY ha (by decide) (by decide) he gX
noncomputable def HF(t:T):M T:=λS=>match jV S t with
 |some ts=>.ok (.tup ts) S
 |none=>.bad
theorem z8f{p:Pos}(gl:Gl X "tuple")(hm:X.mg "tuple" = ae)(ha:PE X e (RE E fa))
  (he:av [e] X.env=(false,eval e X.env)::av [] X.env:=by rfl) (gX:(bL pos (av [] X.env)).any (·.1)=false:=by rfl):PE X (.Call (.Name "tuple" p) [e] [] pos) (RE E (e1 HF fa)):=
 LI Zd (λt W S H v Q r d p=>by
  unfold HF at p;cases t with
  | tup ts=>
    simp only[jV] at p;obtain⟨a,vs,rfl,h1,h2⟩:=r9.mp d;exact⟨a,vs,rfl,.inr ⟨.inl (r.sub _ _ h1).1.rd,now p r d⟩⟩
  | lst ts=>
    simp only[jV,c6] at p;obtain⟨a,vs,rfl,h1,h2⟩:=r.list d rfl;exact⟨a,vs,rfl,.inl ⟨.inl h1,Lu p r h2⟩⟩
  | obj k=>
    cases e:c6 S (.obj k) with
    |none=>simp only[jV,e] at p;exact p.elim
    | some ts=>
      simp only[jV,e] at p;obtain⟨a,vs,rfl,h1,h2⟩:=r.list d e;exact⟨a,vs,rfl,.inl ⟨.inl h1,Lu p r h2⟩⟩
  |_=>exact p.elim) gl hm Zbn ha (by decide) (by decide) he gX
inductive BT where
 |list | tuple | str | int | bool
noncomputable def BT.nm:BT->String
 |.list => "list" |.tuple => "tuple" |.str => "str" |.int => "int" |.bool => "bool"
noncomputable def oO(S:bG)(c:BT):T->Option Bool
 |.bq=>aa false
 |.bl _=>aa (match c with|.bool=>true | .int=>true | _=>false)
 |.int _=>aa (match c with|.int=>true | _=>false)
 |.str _=>aa (match c with|.str=>true | _=>false)
 |.lst _=>aa (match c with|.list=>true | _=>false)
 |.tup _=>aa (match c with|.tuple=>true | _=>false)
 |.dic _=>ae
 | .obj k=>match S[k]? with
   |some (.lst _)=>aa (match c with|.list=>true | _=>false)
   |_=>ae
noncomputable def kE(c:BT)(t:T):M T:=λS=>match oO S c t with
 |some b=>.ok (.bl b) S
 |none=>.bad
theorem z8g:dA "isinstance" = aa (.builtin "isinstance"):=by decide +kernel
theorem tyL{K:aO}{H:Hp}{a:ai}{vs:List V}(h:Rd H a (.lst vs)):j7 K H (.ref a) (.type "list"):=by
 rcases h with h | ⟨o,h⟩
 .exact .lst h
 .exact .eU h
theorem Cp{p q:Pos}{y:Str}(c:BT)(gl:Gl X "isinstance")(hm:X.mg "isinstance" = ae)(ha:PE X e (RE E fa))(gy:Gl X y)(my:X.mg y=ae)(HG:dA y=aa (.type c.nm))(ny:y ≠ "__name__":=by decide)(dy:(y==("__debug__" : Str))=false:=by decide)
  (he:av [e,.Name y q] X.env=(false,eval e X.env)::av [.Name y q] X.env:=by rfl) (he2:av [.Name y q] X.env=(false,eval (.Name y q) X.env)::av [] X.env:=by rfl) (gX:(bL pos (av [.Name y q] X.env)).any (·.1)=false:=by rfl) :
  PE X (.Call (.Name "isinstance" p) [e,.Name y q] [] pos) (RE E (e1 (kE c) fa)):=
 iT (Qk ZW gl hm z8g (u6 ha (u6 (Xm (v:=.ty c.nm) gy my HG rfl ny dy) yU he2) he) (by decide) (by decide) he gX) fun σ H Q h=>
  sg (r := λx H Q=>∃x' c' cu t b,[x,.ty c.nm]=[x',c']/\RelV c' cu/\(∀u,RelV c' u->u=cu)/\j7 X.K H x' t/\oo X.K t cu=aa b/\Q (.bl b) H) (λt W S H v Q r d p=>by
   have go:∀{ty:ag} {b:Bool},bo E W (QV Q) (.ok (.bl b) S)->j7 X.K H v ty->oo X.K ty (.type c.nm)=aa b->∃x' c' cu t b,[v,.ty c.nm]=[x',c']/\RelV c' cu/\(∀u,RelV c' u->u=cu)/\j7 X.K H x' t/\oo X.K t cu=aa b/\Q (.bl b) H:=
    λp ht hk=>⟨_,_,_,_,_,rfl,rfl,(λu z=>z),ht,hk,now p r (jQ.mpr rfl)⟩
   unfold kE at p;cases t with
   |bq=>rw[nS.mp d] at go ⊢;cases c<;>exact go p .bq rfl
   |bl b=>rw[jQ.mp d] at go ⊢;cases c<;>exact go p (.bl b) rfl
   |int b=>rw[jF.mp d] at go ⊢;cases c<;>exact go p (.int b) rfl
   |str b=>rw[nr.mp d] at go ⊢;cases c<;>exact go p (.str b) rfl
   |lst ts=>obtain⟨a,vs,rfl,h1,h2⟩:=r.list d rfl;cases c<;>exact go p (tyL h1) rfl
   | tup ts=>
     obtain⟨a,vs,rfl,h1,h2⟩:=r9.mp d;cases c<;>exact go p (.tup (r.sub _ _ h1).1.tup) rfl
   |dic _=>exact p.elim
   | obj k=>
     obtain⟨rfl,_⟩:=m3.mp d;cases e:S[k]? with
     |none=>simp only[oO,e] at p;exact p.elim
     | some cl=>
       cases cl with
       | lst ts=>
         simp only[oO,e] at p;obtain⟨⟨vs,h1,h2⟩,_⟩:=r.cell k _ e;cases c<;>exact go p (.lst h1) rfl
       |dic _=>simp only[oO,e] at p;exact p.elim
       |ins _ _=>simp only[oO,e] at p;exact p.elim
       |exc _ _=>simp only[oO,e] at p;exact p.elim
       |lck _=>simp only[oO,e] at p;exact p.elim) h
end
noncomputable def tS(f:Str)(v:T):List (Str×T)->List (Str×T)
 |[]=>[(f,v)]
 |(g,x)::r=>if g=f then(g,v)::r else(g,x)::tS f v r
theorem fS.look{W:Wd}{f:Str}:∀{fs:List (Str×T)} {ks:List (Str×V)},fS W fs ks->(∀t,fs.lookup f=aa t->∃v,ks.lookup f=aa v/\cD W t v)/\(fs.lookup f=ae->ks.lookup f=ae)
 |[],ks,h=>by rw[show ks=[] from h];exact⟨(λt e=>by cases e),λ_=>rfl⟩
 | (g,t)::fs,ks,h=>by
   obtain⟨v,r,rfl,h1,h2⟩:=h;have ih:=fS.look (f:=f) h2;by_cases e:f=g
   .have b:(f==g)=true:=beq_iff_eq.mpr e
    simp only[bK,b];exact⟨λt' e'=>by cases e';exact⟨v,rfl,h1⟩,λz=>by cases z⟩
   .have b:(f==g)=false:=beq_eq_false_iff_ne.mpr e
    simp only[bK,b];exact ih
theorem fS.put{W:Wd}{f:Str}{t0:T}{v0:V}(d:cD W t0 v0):∀{fs:List (Str×T)} {ks:List (Str×V)},fS W fs ks->fS W (tS f t0 fs) (iN f v0 ks)
 |[],ks,h=>by rw[show ks=[] from h];exact⟨_,_,rfl,d,rfl⟩
 | (g,t)::fs,ks,h=>by
   obtain⟨v,r,rfl,h1,h2⟩:=h;have ih:=fS.put (f:=f) d h2;rw[show tS f t0 ((g,t)::fs)=(if g=f then(g,t0)::fs else(g,t)::tS f t0 fs) from rfl,show iN f v0 ((g,v)::r)=(if g=f then(g,v0)::r else(g,v)::iN f v0 r) from rfl];by_cases e:g=f
   .rw[if_pos e,if_pos e];exact⟨_,_,rfl,d,h2⟩
   .rw[if_neg e,if_neg e];exact⟨_,_,rfl,h1,ih⟩
noncomputable def pD(S:bG)(C:ai):T->Option (Nat×List (Str×T))
 | .obj k=>match S[k]? with
   |some (.ins C' fs)=>if C'=C then aa (k,fs) else ae
   |_=>ae
 |_=>ae
theorem cV.inst {W:Wd} {S:bG} {H:Hp} (r:cV W S H) {C:ai} {t:T} {v:V} {k:Nat} {fs:List (Str×T)} (d:cD W t v) (h:pD S C t=aa (k,fs)) :
  ∃dx ks,v=.ref (W.μ k)/\S[k]?=aa (.ins C fs)/\H (W.μ k)=aa (.ins C dx ks)/\fS W fs ks:=by
 cases t with
 | obj j=>
   obtain⟨rfl,hj⟩:=m3.mp d;unfold pD at h;cases e:S[j]? with
   |none=>simp[e] at h
   | some c=>
     cases c with
     | ins C' wx=>
       simp only[e] at h
       split at h
       .rename_i hc
        cases h;subst hc;obtain⟨⟨dx,ks,h1,h2⟩,_⟩:=r.cell _ _ e;exact⟨dx,ks,rfl,e,h1,h2⟩
       .cases h
     |lst _=>simp[e] at h
     |dic _=>simp[e] at h
     |exc _ _=>simp[e] at h
     |lck _=>simp[e] at h
 |_=>simp[pD] at h
noncomputable def df(C:ai)(f:Str)(t:T):M T:=λS=>match pD S C t with
 | some (_,fs)=>(match fs.lookup f with
   |some u=>.ok u S
   |none=>.bad)
 |none=>.bad
noncomputable def lP(C:ai)(f:Str)(fo fv:DE):DS:=fun ρ=>(fv ρ).bind λt=>(fo ρ).bind λo=>λS=>match pD S C o with
 |some (k,fs)=>if fs.length<900 then .ok (.nx ρ) (S.set k (.ins C (tS f t fs))) else .bad
 |none=>.bad
noncomputable def wI(fd fk fv:DE):DS:=fun ρ=>(fv ρ).bind λt=>(fd ρ).bind λd=>(fk ρ).bind λk=>λS=>match d,eE k with
 | .obj j,aa key=>(match S[j]? with
   |some (.dic kvs)=>if kvs.length<=900 then .ok (.nx ρ) (S.set j (.dic (m4 kvs key t))) else .bad
   |_=>.bad)
 |_,_=>.bad
noncomputable def AR(fl fi fv:DE):DS:=fun ρ=>(fv ρ).bind λt=>(fl ρ).bind λl=>(fi ρ).bind λi=>λS=>match l,i with
 | .obj j,.int n=>(match S[j]? with
   | some (.lst ts)=>(match rz ts.length n with
     |some m=>.ok (.nx ρ) (S.set j (.lst (ts.set m t)))
     |none=>.bad)
   |_=>.bad)
 |_,_=>.bad
section
variable {X:Cx}{E:XK}{a b c e o i value:bx}{es:List bx}{fa fb fc fo fv fi:DE}{ta tb:DT}{fr:DA}{pos iq:Pos}{f:Str}{C:ai}
theorem iD(cl:nj X.K C)(na:ly X.K C f)(ha:PE X e (RE E fa))(hb:cm e f X.env (eval e X.env)=eval e X.env:=by rfl):PE X (.Attribute e f pos) (RE E (e1 (df C f) fa)):=
 iT (Yn ha hb) fun σ H Q h=>sg (r:=λx H1 Q=>∃a C dx fs v,x=.ref a/\H1 a=aa (.ins C dx fs)/\nj X.K C/\ly X.K C f/\fs.lookup f=aa v/\Q v H1) (λt W S H v Q r d p=>by
  unfold df at p;cases e:pD S C t with
  |none=>simp only[e] at p;exact p.elim
  | some q=>
    obtain⟨k,fs⟩:=q;simp only[e] at p;cases e2:fs.lookup f with
    |none=>simp only[e2] at p;exact p.elim
    | some u=>
      simp only[e2] at p;obtain⟨dx,ks,rfl,h0,h1,h2⟩:=r.inst d e;obtain⟨v,e3,dv⟩:=h2.look.1 u e2;exact⟨_,C,dx,ks,v,rfl,h1,cl,na,e3,now p r dv⟩) h
theorem mz(cl:nj X.K C)(na:ly X.K C f)(ho:PE X o (RE E fo))(hv:PE X value (RE E fv))(hs:fP value (aa (.Attribute o f iq)) pos.line X.env=pure false:=by rfl):PS X (.Assign [.Attribute o f iq] value pos) (RS E (lP C f fo fv)):=
 qO (Yo ho hv hs) λD σ H h=>by
  obtain⟨W,S,ρ,rp,env,p⟩:=h;refine⟨W,S,ρ,rp,env,(bo.bind p).imp λt W1 S1 H1 l1 r1 p1 y dy=>?_⟩;refine⟨W1,S1,ρ,r1,env.mono l1,(bo.bind p1).imp λo W2 S2 H2 l2 r2 p2 x dx=>?_⟩;cases e:pD S2 C o with
  |none=>simp only[e] at p2;exact p2.elim
  | some q=>
    obtain⟨k,fs⟩:=q;simp only[e] at p2
    split at p2
    .rename_i hl
     obtain⟨d',ks,rfl,h0,h1,h2⟩:=r2.inst dx e;refine⟨_,C,d',ks,rfl,h1,cl,na,by rw[<- h2.length];omega,?_⟩;exact p2 W2 _ (Wd.le.refl _) (r2.cellSet h0 _ _ ⟨d',_,gm,h2.put (cD.mono l2 _ _ dy)⟩) σ (env.mono (l1.trans l2))
    .exact p2.elim
theorem AS(hu:X.A.units+1<gc)(ho:PE X o (RE E fo))(hi:PE X i (RE E fi))(hv:PE X value (RE E fv))(hs:fP value (aa (.Subscript o i iq)) pos.line X.env=pure false:=by rfl):PS X (.Assign [.Subscript o i iq] value pos) (RS E (wI fo fi fv)):=
 qO (YQ hu ho hi hv hs) λD σ H h=>by
  obtain⟨W,S,ρ,rp,env,p⟩:=h;refine⟨W,S,ρ,rp,env,(bo.bind p).imp λt W1 S1 H1 l1 r1 p1 v dv=>?_⟩;refine⟨W1,S1,ρ,r1,env.mono l1,(bo.bind p1).imp λd W2 S2 H2 l2 r2 p2 x dx=>?_⟩;refine⟨W2,S2,ρ,r2,env.mono (l1.trans l2),(bo.bind p2).imp λk W3 S3 H3 l3 r3 p3 y dy=>?_⟩;have dx:=cD.mono l3 _ _ dx;have dv:=cD.mono (l2.trans l3) _ _ dv
  split at p3
  .rename_i e2
   split at p3
   .rename_i kvs e
    split at p3
    .rename_i hl
     obtain⟨rfl,_⟩:=m3.mp dx;obtain⟨⟨ks,h1,h2⟩,_⟩:=r3.cell _ _ e;refine⟨_,_,rfl,.inl ⟨ks,_,h1,AO dy ‹eE k=aa _›,QM (by rw[<- h2.length];omega),rfl⟩,?_⟩;exact p3 W3 _ (Wd.le.refl _) (r3.cellSet e _ _ ⟨_,gm,h2.put dv _⟩) σ (env.mono (l1.trans (l2.trans l3)))
    .exact p3.elim
   .exact p3.elim
  .exact p3.elim
theorem RZ(ho:PE X o (RE E fo))(hi:PE X i (RE E fi))(hv:PE X value (RE E fv))(hg:∀{to ti:TE},PE X o to->PE X i ti->PG X (.Subscript o i iq) (DR to ti QB):=by exact λh1 h2=>XG h1 h2 Y_)
  (hs:swapsWithSole [.Subscript o i iq] value pos.line X.env=pure false:=by rfl) (hw:swappedStores [.Subscript o i iq] value X.env=pure ae:=by rfl)
  (h1:(jM [.Subscript o i iq] X.env).map (·.2)=[jk (.Subscript o i iq) X.env]:=by rfl):PS X (.Assign [.Subscript o i iq] value pos) (RS E (AR fo fi fv)):=
 qO (XH hv (hg ho hi) hs hw h1) λD σ H h=>by
  obtain⟨W,S,ρ,rp,env,p⟩:=h;refine⟨W,S,ρ,rp,env,(bo.bind p).imp λt W1 S1 H1 l1 r1 p1 v dv=>?_⟩;refine⟨W1,S1,ρ,r1,env.mono l1,(bo.bind p1).imp λd W2 S2 H2 l2 r2 p2 x dx=>?_⟩;refine⟨W2,S2,ρ,r2,env.mono (l1.trans l2),(bo.bind p2).imp λk W3 S3 H3 l3 r3 p3 y dy=>?_⟩;have dx:=cD.mono l3 _ _ dx;have dv:=cD.mono (l2.trans l3) _ _ dv
  split at p3
  .split at p3
   .rename_i ts e
    split at p3
    .rename_i m em
     obtain⟨rfl,_⟩:=m3.mp dx;obtain⟨⟨vs,h1,h2⟩,_⟩:=r3.cell _ _ e;refine⟨_,vs,_,m,rfl,jF.mp dy,h1,by rw[<- h2.length];exact em,?_⟩;exact p3 W3 _ (Wd.le.refl _) (r3.cellSet e _ _ ⟨_,gm,h2.set dv m⟩) σ (env.mono (l1.trans (l2.trans l3)))
    .exact p3.elim
   .exact p3.elim
  .exact p3.elim
noncomputable def kz(ok:bG->T->Bool)(g:T->List T->M T)(fo:DE)(fr:DA):DE:=fun ρ=>(fo ρ).bind λt=>λS=>if ok S t=true then((fr ρ).bind λts=>g t ts) S else .bad
noncomputable def kF(S:bG)(t:T):Bool:=(c6 S t).isSome
noncomputable def HH(_:bG):T->Bool
 |.str _=>true
 |_=>false
def GM(E:XK)(r:V->List V->Hp->VK->Prop)(g:T->List T->M T):Prop:=∀(t:T) (ts:List T) (W:Wd) (S:bG) (H:Hp) (v:V) (vs:List V) (Q:VK),cV W S H->cD W t v->aW W ts vs->bo E W (QV Q) (g t ts S)->r v vs H Q
theorem EH{K:aO}{W:Wd}{S:bG}{H:Hp}{t:T}{v:V}(r:cV W S H)(d:cD W t v)(h:kF S t=true):As K "list" v H:=by
 obtain⟨ts,e⟩:=jl.mp h;obtain⟨a,vs,rfl,h1,_⟩:=r.list d e;exact .inl ⟨rfl,vs,.inl h1⟩
theorem Zbo{K:aO}{W:Wd}{S:bG}{H:Hp}{t:T}{v:V}(r:cV W S H)(d:cD W t v)(h:HH S t=true):As K "str" v H:=by
 cases t with
 |str x=>rw[nr.mp d];exact rfl
 |_=>cases h
theorem vz{ok:bG->T->Bool}{T' id:String}{name:Str}{r:V->List V->Hp->VK->Prop}{g:T->List T->M T}{cC:Pos}(pa:sN T')(slot:Slot T' name id)(Au:typeOf (.builtin id)=pure (.type "method_descriptor"))(hm:Aq X id r)
  (cI:∀{W:Wd} {S:bG} {H:Hp} {t:T} {v:V},cV W S H->cD W t v->ok S t=true->As X.K T' v H) (hg:GM E r g) (ho:PE X o (RE E fo)) (ha:PA X (e::es) (RA E fr))
  (fB:cm o name X.env (eval o X.env)=eval o X.env:=by rfl)
  (mw:((bL pos (av (e::es) X.env)).all (λx=>!x.1)&&(eG pos (cQ [] X.env)).all (λx=>x.1.isSome)
   && decide ((e::es).length+([]:List gs).length+(if([]:List gs).isEmpty then 0 else 1)<30))=true:=by rfl)
  (fC:(cC.endLine==pos.line)=true:=by rfl) (hs:av (e::es) X.env=(false,eval e X.env)::av es X.env:=by rfl) (rS:(bL pos (av es X.env)).any (·.1)=false:=by rfl) :
  PE X (.Call (.Attribute o name cC) (e::es) [] pos) (RE E (kz ok g fo fr)):=
 iT (Zg pa slot Au hm ho ha fB mw fC hs rS) fun σ H Q h=>by
  obtain⟨W,S,ρ,rp,env,p⟩:=h;refine⟨W,S,ρ,rp,env,(bo.bind p).imp λt W1 S1 H1 l1 r1 p1 v dv=>?_⟩
  split at p1
  .rename_i h
   refine⟨cI r1 dv h,W1,S1,ρ,r1,env.mono l1,(bo.bind p1).imp λts W2 S2 H2 l2 r2 p2 vs jP=>?_⟩;exact hg t ts W2 S2 H2 v vs Q r2 (cD.mono l2 _ _ dv) jP p2
  .exact p1.elim
theorem Zee{ok:bG->T->Bool}{T' id:String}{name:Str}{r:V->List V->Hp->VK->Prop}{g:T->List T->M T}{cC:Pos}(pa:sN T')(slot:Slot T' name id)(Au:typeOf (.builtin id)=pure (.type "method_descriptor"))(hm:Aq X id r)
  (cI:∀{W:Wd} {S:bG} {H:Hp} {t:T} {v:V},cV W S H->cD W t v->ok S t=true->As X.K T' v H) (hg:GM E r g) (ho:PE X o (RE E fo))
  (fB:cm o name X.env (eval o X.env)=eval o X.env:=by rfl) (fC:(cC.endLine==pos.line)=true:=by rfl) :
  PE X (.Call (.Attribute o name cC) [] [] pos) (RE E (kz ok g fo aF)):=
 iT (Zf pa slot Au hm ho fB fC) fun σ H Q h=>by
  obtain⟨W,S,ρ,rp,env,p⟩:=h;refine⟨W,S,ρ,rp,env,(bo.bind p).imp λt W1 S1 H1 l1 r1 p1 v dv=>?_⟩
  split at p1
  .rename_i h
   exact⟨cI r1 dv h,hg t [] W1 S1 H1 v [] Q r1 dv aW.gj p1⟩
  .exact p1.elim
noncomputable def gw(S:bG):T->Option (Nat×List T)
 | .obj k=>match S[k]? with
   |some (.lst ts)=>aa (k,ts)
   |_=>ae
 |_=>ae
theorem cV.gw{W:Wd}{S:bG}{H:Hp}(r:cV W S H){t:T}{v:V}{k:Nat}{ts:List T}(d:cD W t v)(h:gw S t=aa (k,ts)):∃vs,v=.ref (W.μ k)/\S[k]?=aa (.lst ts)/\H (W.μ k)=aa (.lst vs)/\aW W ts vs:=by
 cases t with
 | obj j=>
   obtain⟨rfl,hj⟩:=m3.mp d;unfold MF.gw at h;cases e:S[j]? with
   |none=>simp[e] at h
   | some c=>
     cases c with
     | lst us=>
       simp only[e] at h;cases h;obtain⟨⟨vs,h1,h2⟩,_⟩:=r.cell _ _ e;exact⟨vs,rfl,e,h1,h2⟩
     |dic _=>simp[e] at h
     |ins _ _=>simp[e] at h
     |exc _ _=>simp[e] at h
     |lck _=>simp[e] at h
 |_=>simp[MF.gw] at h
noncomputable def kb(t:T)(as:List T):M T:=λS=>match gw S t,as with
 |some (k,ts),[y]=>if ts.length<1000 then .ok .bq (S.set k (.lst (ts++[y]))) else .bad
 |_,_=>.bad
noncomputable def mB(t:T)(as:List T):M T:=λS=>match gw S t,as with
 | some (k,ts),[y]=>(match c6 S y with
   |some us=>if ts.length+us.length<=1000 then .ok .bq (S.set k (.lst (ts++us))) else .bad
   |none=>.bad)
 |_,_=>.bad
noncomputable def EI(t:T)(as:List T):M T:=λS=>match gw S t,as with
 |some (k,_),[]=>.ok .bq (S.set k (.lst []))
 |_,_=>.bad
noncomputable def wJ(t:T)(as:List T):M T:=λS=>match gw S t,as with
 | some (k,ts),[.int i]=>if 0<=i/\i<1000 then(match ts[i.toNat]? with
   |some y=>.ok y (S.set k (.lst (ts.eraseIdx i.toNat)))
   |none=>.bad) else .bad
 |_,_=>.bad
theorem Zbp:GM E QG kb:=by
 intro t as W S H v vs Q r d da p;unfold kb at p
 split at p
 .rename_i k ts y e
  split at p
  .rename_i hl
   obtain⟨us,rfl,h0,h1,h2⟩:=r.gw d e;obtain⟨w,rfl,dw⟩:=xx da;exact⟨_,us,w,rfl,rfl,h1,aA (by rw[<- h2.length];exact hl) (rQ (aB _)),p W _ (Wd.le.refl _) (r.cellSet h0 _ _ ⟨_,gm,h2.append (aW.dY dw aW.gj)⟩) _ (nS.mpr rfl)⟩
  .exact p.elim
 .exact p.elim
def R3:V->List V->Hp->VK->Prop:=λx vs H Q=>∃l b xs zs,x=.ref l/\vs=[.ref b]/\H l=aa (.lst xs)/\Rd H b (.lst zs)/\xs.length+zs.length<=sizeLine/\Q .bq (upd H l (.lst (xs++zs)))
theorem zy7:Aq X "list.extend" R3:=by
 intro ah s σ H x vs v us Q I rx rv h;obtain⟨l,b,xs,zs,rfl,rfl,hH,hB,hz,q⟩:=h;cases rx;obtain⟨u,rfl,ru⟩:=rv.one;cases ru;obtain⟨z,cy,n,r,hl,e⟩:=I.u_ hH;obtain⟨z2,oN,n2,r2,e2⟩:=hB.ok I.cI;have tN:=r2.length;have hsz:cy.toArray.size+oN.toArray.size<=sizeLine:=by rw[aI,aI];omega
 have EJ:¬(!cy.toArray.isEmpty&&iI (cy.toArray.size+oN.toArray.size))=true:=by
  rw[Zh hsz,Bool.and_false];exact aX
 refine oj F.slot_list_extend ⟨_,e,rfl⟩ F.entry_list_extend (F.args_list_extend_2 _ _)
  (AutoSeq1.list_extend_list_list_0 l cy.toArray n b oN.toArray n2 EJ (by rw[aI];omega) (by omega)) ⟨e,e2,?_⟩
 refine⟨.bq,_,I.u9 (its':=cy++oN) hH e (by simp) (r.append r2) ?_,rfl,q⟩;rw[aM];omega
theorem Zbq:GM E R3 mB:=by
 intro t as W S H v vs Q r d da p;unfold mB at p
 split at p
 .rename_i k ts y e
  cases e2:c6 S y with
  |none=>simp only[e2] at p;exact p.elim
  | some zs=>
    simp only[e2] at p
    split at p
    .rename_i hl
     obtain⟨us,rfl,h0,h1,h2⟩:=r.gw d e;obtain⟨w,rfl,dw⟩:=xx da;obtain⟨b,ws,rfl,h3,h4⟩:=r.list dw e2;exact⟨_,b,us,ws,rfl,rfl,h1,h3,rQ (by rw[<- h2.length,<- h4.length];exact hl),p W _ (Wd.le.refl _) (r.cellSet h0 _ _ ⟨_,gm,h2.append h4⟩) _ (nS.mpr rfl)⟩
    .exact p.elim
 .exact p.elim
theorem z4m:GM E QI EI:=by
 intro t as W S H v vs Q r d da p;unfold EI at p
 split at p
 .rename_i k ts e
  obtain⟨us,rfl,h0,h1,h2⟩:=r.gw d e;rw[ow.mp da];exact⟨_,us,rfl,rfl,h1,p W _ (Wd.le.refl _) (r.cellSet h0 _ _ ⟨_,gm,aW.gj⟩) _ (nS.mpr rfl)⟩
 .exact p.elim
theorem z4n:GM E QH wJ:=by
 intro t as W S H v vs Q r d da p;unfold wJ at p
 split at p
 .rename_i k ts i e
  split at p
  .rename_i hi
   cases e2:ts[i.toNat]? with
   |none=>simp only[e2] at p;exact p.elim
   | some y=>
     simp only[e2] at p;obtain⟨us,rfl,h0,h1,h2⟩:=r.gw d e;obtain⟨w0,rfl,dw0⟩:=xx da;obtain⟨w,e3,dw⟩:=h2.get e2;have rB:i.toNat<us.length:=(aw.mp e3).1;refine⟨_,us,i,i.toNat,w,rfl,by rw[jF.mp dw0],h1,?_,?_,qz hi.1 (by omega),e3,p W _ (Wd.le.refl _) (r.cellSet h0 _ _ ⟨_,gm,h2.eraseIdx _⟩) _ dw⟩
     .have:=hi.1;omega
     .have:=hi.2;omega
  .exact p.elim
 .exact p.elim
noncomputable def uv:List T->Option (List Str)
 |[]=>aa []
 |.str x::ts=>(uv ts).map (x::·)
 |_::_=>ae
theorem LL{W:Wd}:∀{ts:List T} {vs:List V} {ys:List Str},aW W ts vs->uv ts=aa ys->vs=ys.map V.str
 |[],vs,ys,h,e=>by cases e;exact ow.mp h
 | t :: ts,vs,ys,h,e=>by
   obtain⟨v,r,rfl,h1,h2⟩:=nu.mp h;cases t with
   | str x=>
     simp only[uv] at e;obtain⟨zs,e1,rfl⟩:=bw.mp e;rw[nr.mp h1,LL h2 e1];rfl
   |_=>simp[uv] at e
noncomputable def Cq(t:T)(as:List T):M T:=λS=>match t,as with
 | .str z,[y]=>(match (c6 S y).bind uv with
   |some ys=>if(ys.map (·.length)).sum+ys.length*z.length<=100000 then .ok (.str (qc z ys)) S else .bad
   |none=>.bad)
 |_,_=>.bad
theorem z8h(K:aO):GM E (λx xs H Q=>∃z l ys,x=.str z/\xs=[.ref l]/\lH K H l (ys.map V.str)/\(ys.map (·.length)).sum+ys.length*z.length<=16777216/\Q (.str (qc z ys)) H) Cq:=by
 intro t as W S H v vs Q r d da p;unfold Cq at p
 split at p
 .rename_i z y
  cases e:(c6 S y).bind uv with
  |none=>simp only[e] at p;exact p.elim
  | some ys=>
    simp only[e] at p
    split at p
    .rename_i hl
     obtain⟨us,e1,e2⟩:=jC.mp e;obtain⟨w,rfl,dw⟩:=xx da;obtain⟨b,ws,rfl,h3,h4⟩:=r.list dw e1;rw[LL h4 e2] at h3;exact⟨z,b,ys,nr.mp d,rfl,.inl h3,by omega,now p r (nr.mpr rfl)⟩
    .exact p.elim
 .exact p.elim
theorem vA{cC:Pos}(ho:PE X o (RE E fo))(ha:PA X [e] (RA E fr))(fB:cm o "append" X.env (eval o X.env)=eval o X.env:=by rfl)
  (fC:(cC.endLine==pos.line)=true:=by rfl) (hs:av [e] X.env=(false,eval e X.env)::av [] X.env:=by rfl)
  (mw:((bL pos (av [e] X.env)).all (λx=>!x.1)&&(eG pos (cQ [] X.env)).all (λx=>x.1.isSome)&&decide ([e].length+([]:List gs).length+(if([]:List gs).isEmpty then 0 else 1)<30))=true:=by rfl):PE X (.Call (.Attribute o "append" cC) [e] [] pos) (RE E (kz kF kb fo fr)):=
 vz eT PySem.F.slot_list_append PySem.F.type_list_append KP EH Zbp ho ha fB mw fC hs rfl
theorem AU{cC:Pos}(ho:PE X o (RE E fo))(ha:PA X [e] (RA E fr))(fB:cm o "extend" X.env (eval o X.env)=eval o X.env:=by rfl)
  (fC:(cC.endLine==pos.line)=true:=by rfl) (hs:av [e] X.env=(false,eval e X.env)::av [] X.env:=by rfl)
  (mw:((bL pos (av [e] X.env)).all (λx=>!x.1)&&(eG pos (cQ [] X.env)).all (λx=>x.1.isSome)&&decide ([e].length+([]:List gs).length+(if([]:List gs).isEmpty then 0 else 1)<30))=true:=by rfl):PE X (.Call (.Attribute o "extend" cC) [e] [] pos) (RE E (kz kF mB fo fr)):=
 vz eT PySem.F.slot_list_extend PySem.F.type_list_extend zy7 EH Zbq ho ha fB mw fC hs rfl
theorem R4{cC:Pos}(ho:PE X o (RE E fo))(ha:PA X [e] (RA E fr))(fB:cm o "pop" X.env (eval o X.env)=eval o X.env:=by rfl)
  (fC:(cC.endLine==pos.line)=true:=by rfl) (hs:av [e] X.env=(false,eval e X.env)::av [] X.env:=by rfl)
  (mw:((bL pos (av [e] X.env)).all (λx=>!x.1)&&(eG pos (cQ [] X.env)).all (λx=>x.1.isSome)&&decide ([e].length+([]:List gs).length+(if([]:List gs).isEmpty then 0 else 1)<30))=true:=by rfl):PE X (.Call (.Attribute o "pop" cC) [e] [] pos) (RE E (kz kF wJ fo fr)):=
 vz eT PySem.F.slot_list_pop PySem.F.type_list_pop Zi EH z4n ho ha fB mw fC hs rfl
theorem Zbr{cC:Pos}(ho:PE X o (RE E fo))(ha:PA X [e] (RA E fr))(fB:cm o "join" X.env (eval o X.env)=eval o X.env:=by rfl)
  (fC:(cC.endLine==pos.line)=true:=by rfl) (hs:av [e] X.env=(false,eval e X.env)::av [] X.env:=by rfl)
  (mw:((bL pos (av [e] X.env)).all (λx=>!x.1)&&(eG pos (cQ [] X.env)).all (λx=>x.1.isSome)&&decide ([e].length+([]:List gs).length+(if([]:List gs).isEmpty then 0 else 1)<30))=true:=by rfl):PE X (.Call (.Attribute o "join" cC) [e] [] pos) (RE E (kz HH Cq fo fr)):=
 vz PySem.F.plainAttrs_str PySem.F.slot_str_join PySem.F.type_str_join ZX Zbo (z8h X.K) ho ha fB mw fC hs rfl
theorem z8i{cC:Pos}(ho:PE X o (RE E fo))(fB:cm o "clear" X.env (eval o X.env)=eval o X.env:=by rfl)(fC:(cC.endLine==pos.line)=true:=by rfl):PE X (.Call (.Attribute o "clear" cC) [] [] pos) (RE E (kz kF EI fo aF)):=
 Zee eT PySem.F.slot_list_clear PySem.F.type_list_clear Zj EH z4m ho fB fC
end
def gp:DS:=fun ρ=>M.pure (.nx ρ)
noncomputable def aR(f g:DS):DS:=fun ρ=>(f ρ).bind λx=>match x with
 |.nx ρ'=>g ρ'
 |o=>M.pure o
noncomputable def b_(f:DE):DS:=fun ρ=>(f ρ).bind λt=>M.pure (.rt t)
noncomputable def LM:DS:=λ_=>M.pure (.rt .bq)
noncomputable def ic(f:DE):DS:=fun ρ=>(f ρ).bind λ_=>M.pure (.nx ρ)
noncomputable def cE(i:Nat)(f:DE):DS:=fun ρ=>(f ρ).bind λt=>M.pure (.nx (ρ.set i (aa t)))
noncomputable def eV(c:DT)(f g:DS):DS:=fun ρ=>(c ρ).bind λb=>if b=true then f ρ else g ρ
theorem Cr{α:Type}{E:XK}{W W':Wd}{Q:α->Wd->bG->Hp->Prop}{r:R α}(h:bo E W Q r)(l:W.le W'):bo E W' Q r:=by
 cases r with
 |ok a S=>exact λW2 H2 l2 rp=>h W2 H2 (l.trans l2) rp
 |exc C fs S=>exact λW2 H2 dx l2 rp=>h W2 H2 dx (l.trans l2) rp
 |bad=>exact h
section
variable {X:Cx}{E:XK}{a b c e o:bx}{es:List bx}{fa fb fc:DE}{tc:DT}{fr:DA}{pos:Pos}{st:bS}{jD sa sb:List bS}{f g:DS}
theorem Zef{D:Ends}{σ:St}{H:Hp}(h:RS E gp D σ H):D.nx σ H:=by
 obtain⟨W,S,ρ,rp,env,p⟩:=h;exact p W H (Wd.le.refl _) rp σ env
theorem gS:k6 X [] (RS E gp):=Ru XB λD σ H h=>Zef h
theorem Zbs{D:Ends}{σ:St}{H:Hp}(h:RS E (aR f g) D σ H):uY (RS E f) (RS E g) D σ H:=by
 obtain⟨W,S,ρ,rp,env,p⟩:=h;refine⟨W,S,ρ,rp,env,(bo.bind p).imp λx W1 S1 H1 l1 r1 p1=>?_⟩;cases x with
 |nx ρ'=>exact fun σ' e'=>⟨W1,S1,ρ',r1,e',p1⟩
 |rt t=>exact p1 W1 H1 (Wd.le.refl _) r1
 |bk ρ'=>exact p1 W1 H1 (Wd.le.refl _) r1
 |ct ρ'=>exact p1 W1 H1 (Wd.le.refl _) r1
theorem cn(h1:PS X st (RS E f))(h2:k6 X jD (RS E g)):k6 X (st::jD) (RS E (aR f g)):=Ru (GJ h1 h2) λD σ H h=>Zbs h
theorem cF(h1:PS X st (RS E f)):k6 X [st] (RS E f):=J7 h1
theorem fA(ha:PE X e (RE E fa)):PS X (.Return (aa e) pos) (RS E (b_ fa)):=qO (XC ha) λD σ H h=>by
 obtain⟨W,S,ρ,rp,env,p⟩:=h;exact⟨W,S,ρ,rp,env,(bo.bind p).imp λt W1 S1 H1 l1 r1 p1 v dv=>p1 W1 H1 (Wd.le.refl _) r1 v dv⟩
theorem Zbt:PS X (.Return ae pos) (RS E LM):=qO XE λD σ H h=>by
 obtain⟨W,S,ρ,rp,env,p⟩:=h;exact p W H (Wd.le.refl _) rp .bq (nS.mpr rfl)
theorem i7(ha:PE X e (RE E fa))(hs:fP e ae pos.line X.env=pure false:=by rfl):PS X (.Expr e pos) (RS E (ic fa)):=qO (J9 ha hs) λD σ H h=>by
 obtain⟨W,S,ρ,rp,env,p⟩:=h;exact⟨W,S,ρ,rp,env,(bo.bind p).imp λt W1 S1 H1 l1 r1 p1 v dv=>p1 W1 H1 (Wd.le.refl _) r1 σ (env.mono l1)⟩
theorem LN{i:Nat}{D:Ends}{σ:St}{H:Hp}(h:RS E (cE i fa) D σ H):uZ (RE E fa) (wB i) D σ H:=by
 obtain⟨W,S,ρ,rp,env,p⟩:=h;exact⟨W,S,ρ,rp,env,(bo.bind p).imp λt W1 S1 H1 l1 r1 p1 v dv=>p1 W1 H1 (Wd.le.refl _) r1 _ ((env.mono l1).set dv i)⟩
theorem gO{i:Nat}{x:Str}{iq:Pos}(hN:X.N.Nodup)(hi:X.N[i]?=aa x)(hx:Loc X.env.scope x)(he:PE X e (RE E fa))(hs:fP e (aa (.Name x iq)) pos.line X.env=pure false:=by rfl)(hf:X.fn x=true\/X.env.scope.names.lookup x=aa .local:=by first | exact .inl rfl | exact .inr rfl | assumption)
 (hkn:∀u:V,X.kn[i]?≠aa (aa u):=by first | assumption | exact λu h=>nomatch (show(ae:Option (Option V))=aa (aa u) from h) | exact λu h=>nomatch (bf (show aa (ae:Option V)=aa (aa u) from h))) :
 PS X (.Assign [.Name x iq] e pos) (RS E (cE i fa)):=qO (XI hN hi hx he hs hf hkn) λD σ H h=>LN h
theorem cP(hc:PT X c (RT E tc))(ha:k6 X sa (RS E f))(hb:k6 X sb (RS E g)):PS X (.If c sa sb pos) (RS E (eV tc f g)):=qO (XF hc ha hb) λD σ H h=>by
 obtain⟨W,S,ρ,rp,env,p⟩:=h;refine⟨W,S,ρ,rp,env,(bo.bind p).imp λk W1 S1 H1 l1 r1 p1=>?_⟩;cases k with
 |true=>exact rV ⟨W1,S1,ρ,r1,env.mono l1,p1⟩
 |false=>exact rT ⟨W1,S1,ρ,r1,env.mono l1,p1⟩
abbrev DG:=T->Ev->Option Ev
def GT(gl:TG)(g:DG):Prop:=∀(W:Wd) (S:bG) (H:Hp) (t:T) (x:V) (ρ ρ2:Ev) (σ:St) (Q:St->Hp->Prop),cV W S H->cD W t x->gv W ρ σ->g t ρ=aa ρ2->(∀σ2,gv W ρ2 σ2->Q σ2 H)->gl x σ H Q
noncomputable def eM(i:Nat):DG:=λt ρ=>aa (ρ.set i (aa t))
theorem mj(i:Nat):GT (wB i) (eM i):=λW S H t x ρ ρ2 σ Q r d env e h=>by
 cases e;exact h _ (env.set d i)
noncomputable def qh(i j:Nat):DG:=λt ρ=>match t with
 |.tup [a,b]=>aa ((ρ.set i (aa a)).set j (aa b))
 |_=>ae
theorem LO(K:aO)(i j:Nat):GT (DQ K 2 (Ka (wB i) (Ka (wB j) DP))) (qh i j):=λW S H t x ρ ρ2 σ Q r d env e h=>by
 unfold qh at e
 split at e
 .cases e
  obtain⟨p,vs,rfl,h1,h2⟩:=r9.mp d;obtain⟨v,r1,rfl,d1,h3⟩:=nu.mp h2;obtain⟨w,rfl,d2⟩:=xx h3;exact⟨p,_,rfl,.inl (r.sub _ _ h1).1.rd,rfl,v,_,rfl,w,_,rfl,rfl,h _ ((env.set d1 i).set d2 j)⟩
 .cases e
structure su(W1:Wd)(ts:List T)(st:bG->Prop)(J:It):Prop where
 go:∀i W' S' H',W1.le W'->cV W' S' H'->st S'->i<ts.length->J.go i H'/\∀x oJ,J.GL i H' x oJ->∃LP t,W'.le LP/\cV LP S' oJ/\ts[i]?=aa t/\cD LP t x
 stop:∀i W' S' H',W1.le W'->cV W' S' H'->st S'->i=ts.length->J.stop i H'
abbrev DI:=Ev->M (List T×(bG->Prop))
def RI(E:XK)(it:DI)(wi:TI):Prop:=∀(σ:St) (H:Hp) (R:It->Hp->Prop),(∃W S ρ,cV W S H/\gv W ρ σ/\bo E W (λq W1 S1 H1=>∀J W2 H2,W1.le W2->cV W2 S1 H2->su W2 q.1 q.2 J->R J H2) (it ρ S))->wi σ H R
noncomputable def iL(f:DE):DI:=fun ρ=>(f ρ).bind λt=>λS=>match c6 S t with
 |some ts=>.ok (ts,λS'=>c6 S' t=aa ts) S
 |none=>.bad
theorem oP(K:aO):RI E (iL fa) (PD K (RE E fa)):=fun σ H R h=>by
 obtain⟨W,S,ρ,rp,env,p⟩:=h;refine⟨W,S,ρ,rp,env,(bo.bind p).imp λt W1 S1 H1 l1 r1 p1 v dv=>?_⟩;cases e:c6 S1 t with
 |none=>simp only[e] at p1;exact p1.elim
 | some ts=>
   simp only[e] at p1;obtain⟨a,vs,rfl,h1,h2⟩:=r1.list dv e;refine⟨a,rfl,⟨vs,.inl h1⟩,p1 W1 H1 (Wd.le.refl _) r1 _ W1 H1 (Wd.le.refl _) r1 ⟨λi W' S' H' l r' st hi=>?_,λi W' S' H' l r' st hi=>?_⟩⟩
   .obtain⟨a',us,ea,g1,g2⟩:=r'.list (cD.mono l _ _ dv) st
    cases ea;have hi':i<us.length:=g2.length▸hi;refine⟨⟨us,us[i],.inl g1,a_ hi'⟩,λx oJ y=>?_⟩;obtain⟨rfl,y⟩:=y;have ex:=y us (.inl g1);obtain⟨t',e1,d1⟩:=g2.get' ex;exact⟨W',t',Wd.le.refl _,r',e1,d1⟩
   .obtain⟨a',us,ea,g1,g2⟩:=r'.list (cD.mono l _ _ dv) st
    cases ea;exact⟨us,.inl g1,by rw[<- g2.length];exact hX hi.symm⟩
noncomputable def qi(lo:Int)(n:Nat):List T:=(cz n).map λ(k:Nat)=>T.int (lo+k)
theorem Cs(lo:Int)(n:Nat):(qi lo n).length=n:=by simp[qi]
theorem R5{lo:Int}{n i:Nat}(h:i<n):(qi lo n)[i]?=aa (.int (lo+i)):=by simp[qi,h]
noncomputable def vB(f:DA):DI:=fun ρ=>(f ρ).bind λts=>λS=>match ts with
 |[.int j]=>if -1000000<=j/\j<=1000000 then .ok (qi 0 j.toNat,λ_=>True) S else .bad
 |_=>.bad
theorem z4o(W:Wd)(lo:Int)(n:Nat):su W (qi lo n) (λ_=>True) (GO lo n):=⟨λi W' S' H' l r' _ hi=>by
 rw[Cs] at hi;refine⟨hi,λx oJ y=>?_⟩;obtain⟨rfl,rfl⟩:=y;exact⟨W',_,Wd.le.refl _,r',R5 hi,jF.mpr rfl⟩,λi W' S' H' l r' _ hi=>by
 rw[Cs] at hi;exact hX hi.symm⟩
theorem HI:RI E (vB fr) (PK (RA E fr)):=fun σ H R h=>by
 obtain⟨W,S,ρ,rp,env,p⟩:=h;refine⟨W,S,ρ,rp,env,(bo.bind p).imp λts W1 S1 H1 l1 r1 p1 vs dv=>?_⟩
 split at p1
 .rename_i j
  split at p1
  .rename_i hj
   obtain⟨v,rfl,d1⟩:=xx dv;exact⟨j,by rw[jF.mp d1],by omega,by omega,p1 W1 H1 (Wd.le.refl _) r1 _ W1 H1 (Wd.le.refl _) r1 (z4o W1 0 _)⟩
  .exact p1.elim
 .exact p1.elim
noncomputable def iK(f:DE):DI:=fun ρ=>(f ρ).bind λt=>λS=>match t with
 |.dic kvs=>.ok (kvs.map λp=>kT p.1,λ_=>True) S
 |_=>.bad
noncomputable def Wd.zed(W:Wd)(a:ai)(o:Obj×HO):Wd:=⟨W.HS,W.μ,W.n,λb=>if b=a then aa o else W.Z b,W.P⟩
theorem cV.AV{W:Wd}{S:bG}{H:Hp}{a:ai}{u:HO}{o:Obj}(r:cV W S H)(hs:W.HS a=aa u)(hH:H a=aa u)(nt:∀xs,u≠.tup xs)(no:Ht u):cV (W.zed a (o,u)) S (upd H a (.eU o u))/\W.le (W.zed a (o,u)):=by
 have zn:W.Z a=ae:=by
  cases e:W.Z a with
  |none=>rfl
  | some q=>
    have h2:=r.zed a q e;rw[hH] at h2;cases h2;exact no.elim
 have l:W.le (W.zed a (o,u)):=⟨λ_ _ e=>e,λb q e=>by
  show(if b=a then aa (o,u) else W.Z b)=aa q;by_cases z:b=a
  .rw[z,zn] at e;cases e
  .rw[if_neg z];exact e,λ_ _ e=>e,aB _,λ_ _=>rfl⟩
 refine⟨⟨λb w e=>?_,r.len,λk c e=>?_,r.inj,λb q e=>?_,λb w e=>?_⟩,l⟩
 .by_cases z:b=a
  .subst z
   have e:W.HS b=aa w:=e;rw[hs] at e;cases e;exact⟨.inr ⟨⟨o,gm⟩,nt⟩,no⟩
  .exact⟨(r.sub b w e).1.at (dr z),(r.sub b w e).2⟩
 .have ne:W.μ k≠a:=λz=>by have:=(r.cell k c e).2;rw[z,hs] at this;cases this
  exact⟨((r.cell k c e).1.at (dr ne)).mono l,(r.cell k c e).2⟩
 .have e:(if b=a then aa (o,u) else W.Z b)=aa q:=e
  by_cases z:b=a
  .rw[if_pos z] at e
   cases e;subst z;exact gm
  .rw[if_neg z] at e
   rw[dr z];exact r.zed b q e
 .obtain⟨h1,h2,h3⟩:=r.prv b w e
  have ne:b≠a:=λz=>by rw[z,hs] at h2;cases h2
  exact⟨by rw[dr ne];exact h1,h2,h3⟩
theorem cV.AW{W:Wd}{S:bG}{H:Hp}{a:ai}{u:HO}{o:Obj}(r:cV W S H)(hs:W.HS a=aa u)(hH:H a=aa (.eU o u)):cV (W.zed a (o,u)) S H/\W.le (W.zed a (o,u)):=by
 have l:W.le (W.zed a (o,u)):=⟨λ_ _ e=>e,λb q e=>by
  show(if b=a then aa (o,u) else W.Z b)=aa q;by_cases z:b=a
  .have h2:=r.zed b q e
   rw[z,hH] at h2;obtain⟨q1,q2⟩:=q;cases h2;rw[if_pos z]
  .rw[if_neg z];exact e,λ_ _ e=>e,aB _,λ_ _=>rfl⟩
 refine⟨⟨r.sub,r.len,λk c e=>⟨(r.cell k c e).1.mono l,(r.cell k c e).2⟩,r.inj,λb q e=>?_,r.prv⟩,l⟩;have e:(if b=a then aa (o,u) else W.Z b)=aa q:=e;by_cases z:b=a
 .rw[if_pos z] at e
  cases e;subst z;exact hH
 .rw[if_neg z] at e
  exact r.zed b q e
theorem LQ{W:Wd}{a:ai}{o:Obj}{kvs:List (cg×T)}{ks:List (cg×V)}(hz:W.Z a=aa (o,.dK ks))(d:bN W kvs ks):su W (kvs.map λp=>kT p.1) (λ_=>True) (AB a o ks):=⟨λi W' S' H' l r' _ hi=>by
 have h2:=r'.zed a _ (l.z a _ hz);rw[ba,d.length] at hi;refine⟨⟨h2,hi⟩,λx oJ y=>?_⟩;obtain⟨k,v,e1,rfl,rfl⟩:=y;have dk:=LJ d;obtain⟨t,e2,d2⟩:=dk.get' (i:=i) (v:=kV k) (by rw[cT,e1];rfl);exact⟨W',t,Wd.le.refl _,r',e2,cD.mono l _ _ d2⟩,λi W' S' H' l r' _ hi=>by
 have h2:=r'.zed a _ (l.z a _ hz);rw[ba,d.length] at hi;exact⟨h2,hX hi.symm⟩⟩
theorem R6:RI E (iK fa) (QY X (RE E fa)):=fun σ H R h=>by
 obtain⟨W,S,ρ,rp,env,p⟩:=h;refine⟨W,S,ρ,rp,env,(bo.bind p).imp λt W1 S1 H1 l1 r1 p1 v dv=>?_⟩
 split at p1
 .rename_i kvs
  obtain⟨a,ks,rfl,h1,h2⟩:=xj.mp dv;refine⟨a,ks,rfl,?_⟩;rcases(r1.sub a _ h1).1 with g | ⟨⟨o,g⟩,_⟩
  .refine .inl ⟨g,λo _=>?_⟩
   obtain⟨r2,l2⟩:=r1.AV (o:=o) h1 g (by intro xs z;cases z) trivial;exact p1 W1 H1 (Wd.le.refl _) r1 _ _ _ l2 r2 (LQ (by show(if a=a then aa (o,HO.dK ks) else _)=aa (o,HO.dK ks);rw[if_pos rfl]) (bN.mono l2 _ _ h2))
  .refine .inr ⟨o,g,?_⟩
   obtain⟨r2,l2⟩:=r1.AW h1 g;exact p1 W1 H1 (Wd.le.refl _) r1 _ _ _ l2 r2 (LQ (by show(if a=a then aa (o,HO.dK ks) else _)=aa (o,HO.dK ks);rw[if_pos rfl]) (bN.mono l2 _ _ h2))
 .exact p1.elim
end
open Classical in
noncomputable def d9(st:bG->Prop)(g:DG)(body:DS):List T->Ev->M Fl
 |[],ρ=>λS=>if st S then .ok (.nx ρ) S else .bad
 | t :: ts,ρ=>λS=>if st S then(match g t ρ with
   | some ρ1=>(body ρ1).bind (λx=>match x with
     |.nx ρ2=>d9 st g body ts ρ2
     |.ct ρ2=>d9 st g body ts ρ2
     |.bk ρ2=>M.pure (.nx ρ2)
     |.rt t=>M.pure (.rt t)) S
   |none=>.bad) else .bad
def eW(it:DI)(g:DG)(body:DS):DS:=fun ρ=>(it ρ).bind λq=>d9 q.2 g body q.1 ρ
section
variable {X:Cx}{E:XK}{tg iter:bx}{body:List bS}{it:DI}{wi:TI}{gl:TG}{g:DG}{fb:DS}{pos:Pos}
theorem R7(hG:GT gl g){D:Ends}{σ:St}{H2:Hp}{W2:Wd}{S1:bG}{ρ:Ev}{ts:List T}{st:bG->Prop}{J:It}(r2:cV W2 S1 H2)(env:gv W2 ρ σ)(ok:su W2 ts st J)(p1:bo E W2 (QF D) (d9 st g fb ts ρ S1)) :
  Ag (λ_ _ R=>R J H2) gl (RS E fb) D σ H2:=by
 refine⟨λi m σ H=>i<=ts.length/\m=ts.length-i/\∃W S ρ,W2.le W/\cV W S H/\gv W ρ σ/\bo E W (QF D) (d9 st g fb (ts.drop i) ρ S),⟨_,dJ _,rfl,W2,S1,ρ,Wd.le.refl _,r2,env,?_⟩,?_⟩
 .rw[zX]
  exact p1
 .rintro i m σ H ⟨hi,rfl,W3,S3,ρ3,l3,r3,e3,p3⟩
  by_cases rB:i<ts.length
  .rw [jn rB] at p3
   unfold d9 at p3
   split at p3
   .rename_i eY
    obtain⟨go,yl⟩:=ok.go i W3 S3 H l3 r3 eY rB;refine .inr ⟨go,_,fun σ' H' n=>⟨ts.length-(i+1),by omega,rB,rfl,n⟩,λx H' y=>?_⟩;obtain⟨W4,t,l4,r4,et,dt⟩:=yl x H' y;rw[a_ rB] at et;cases et;cases e:g ts[i] ρ3 with
    |none=>simp only[e] at p3;exact p3.elim
    | some ρ4=>
      simp only[e] at p3;refine hG W4 S3 H' _ x ρ3 ρ4 σ _ r4 dt (e3.mono l4) e fun σ2 e4=>⟨W4,S3,ρ4,r4,e4,(bo.bind (Cr p3 l4)).imp λfl W5 S5 H5 l5 r5 p5=>?_⟩;cases fl with
      |nx ρ5=>exact fun σ5 e5=>⟨W5,S5,ρ5,l3.trans (l4.trans l5),r5,e5,p5⟩
      |ct ρ5=>exact fun σ5 e5=>⟨W5,S5,ρ5,l3.trans (l4.trans l5),r5,e5,p5⟩
      |bk ρ5=>exact p5 W5 H5 (Wd.le.refl _) r5
      |rt t=>exact p5 W5 H5 (Wd.le.refl _) r5
   .exact p3.elim
  .have e:i=ts.length:=by omega
   subst e;rw[nG] at p3;unfold d9 at p3
   split at p3
   .rename_i eY
    exact .inl ⟨ok.stop _ W3 S3 H l3 r3 eY rfl,p3 W3 H (Wd.le.refl _) r3 σ e3⟩
   .exact p3.elim
theorem qR(hp:jz (aN X.prog X.w) X.A X.env X.xe)(hc:X.calm=true)(hi:PI X tg iter wi)(hI:RI E it wi)(hg:PG X tg gl)(hG:GT gl g)(hb:k6 X body (RS E fb))
  (hs:∀x,ck iter X.env x=pure x:=by intro _;rfl):PS X (.For tg iter body [] pos) (RS E (eW it g fb)):=
 qO (Ke hp hc hi hg hb hs) λD σ H h=>by
  obtain⟨W,S,ρ,rp,env,p⟩:=h;exact hI σ H _ ⟨W,S,ρ,rp,env,(bo.bind p).imp λq W1 S1 H1 l1 r1 p1 J W2 H2 l2 r2 ok=>R7 hG r2 (env.mono (l1.trans l2)) ok (Cr p1 l2)⟩
end
noncomputable def kd(c:DT)(body:DS):Nat->Ev->M Fl
 |0,_=>M.bad
 | n + 1,ρ=>(c ρ).bind λb=>if b=true then(body ρ).bind (λx=>match x with
     |.nx ρ2=>kd c body n ρ2
     |.ct ρ2=>kd c body n ρ2
     |.bk ρ2=>M.pure (.nx ρ2)
     |.rt t=>M.pure (.rt t)) else M.pure (.nx ρ)
def uw(c:DT)(body:DS):DS:=kd c body 1000
section
variable {X:Cx}{E:XK}{c:bx}{body:List bS}{tc:DT}{fb:DS}{pos:Pos}
theorem HJ(hp:jz (aN X.prog X.w) X.A X.env X.xe)(hc:PT X c (RT E tc))(hb:k6 X body (RS E fb)):PS X (.While c body [] pos) (RS E (uw tc fb)):=
 qO (XM hp hc hb) λD σ H h=>by
  obtain⟨W,S,ρ,rp,env,p⟩:=h;refine⟨λm σ H=>∃W S ρ,cV W S H/\gv W ρ σ/\bo E W (QF D) (kd tc fb m ρ S),⟨1000,W,S,ρ,rp,env,p⟩,?_⟩;rintro m σ H ⟨W1,S1,ρ1,r1,e1,p1⟩;cases m with
  |zero=>exact p1.elim
  | succ n=>
    refine⟨W1,S1,ρ1,r1,e1,(bo.bind p1).imp λb W2 S2 H2 l2 r2 p2=>?_⟩;cases b with
    |false=>exact rT (p2 W2 H2 (Wd.le.refl _) r2 σ (e1.mono l2))
    | true=>
      refine rV ⟨fun σ H=>∃W S ρ,cV W S H/\gv W ρ σ/\bo E W (QF D) (kd tc fb n ρ S),fun σ' H' q=>⟨n,dH _,q⟩,W2,S2,ρ1,r2,e1.mono l2,?_⟩;refine(bo.bind (show bo E W2 (QF D) (M.bind (fb ρ1) _ S2) from p2)).imp λfl W5 S5 H5 l5 r5 p5=>?_;cases fl with
      |nx ρ5=>exact fun σ5 e5=>⟨W5,S5,ρ5,r5,e5,p5⟩
      |ct ρ5=>exact fun σ5 e5=>⟨W5,S5,ρ5,r5,e5,p5⟩
      |bk ρ5=>exact p5 W5 H5 (Wd.le.refl _) r5
      |rt t=>exact p5 W5 H5 (Wd.le.refl _) r5
end
noncomputable def rC{α:Type}(m:M α):M α:=λS=>match m S with
 |.exc _ _ _=>.bad
 |r=>r
theorem z4p{α:Type}{E E':XK}{W:Wd}{Q:α->Wd->bG->Hp->Prop}{m:M α}{S:bG}(h:bo E W Q (rC m S)):bo E' W Q (m S):=by
 unfold rC at h;cases e:m S with
 |ok a S1=>rw[e] at h;exact h
 |exc C fs S1=>rw[e] at h;exact h.elim
 |bad=>rw[e] at h;exact h.elim
noncomputable def kG:DT:=λ_=>M.pure true
open Classical in
noncomputable def nX(st:bG->Prop)(g:DG)(tc:DT)(te:DE):List T->Ev->List T->M (List T)
 |[],_,acc=>λS=>if st S then .ok acc S else .bad
 | t::ts,ρ,acc=>λS=>if st S then(match g t ρ with
   |some ρ1=>((tc ρ1).bind λok=>if ok=true then(te ρ1).bind λy=>if acc.length<1000 then nX st g tc te ts ρ1 (acc++[y]) else M.bad else nX st g tc te ts ρ1 acc) S
   |none=>.bad) else .bad
def k_(nt:Nat)(js:List Nat)(it:DI)(g:DG)(tc:DT)(te:DE)(fin:List T->M T):DE:=fun ρ=>
 (it ρ).bind λq=>(rC (nX q.2 g tc te q.1 (aQ nt ae++js.map λj=>(ρ[j]?).join) [])).bind fin
def iu(ts:List T):M T:=M.pure (.lst ts)
noncomputable def vC(ts:List T):M T:=λS=>.ok (.obj S.length) (S++[.lst ts])
theorem Zbu(W:Wd)(p:ai):(W.iF p).le W:=⟨λ_ _ e=>e,λ_ _ e=>e,λa o e=>by
 have e:(if a=p then ae else W.P a)=aa o:=e;by_cases z:a=p
 .rw[if_pos z] at e;cases e
 .rw[if_neg z] at e;exact e,aB _,λ_ _=>rfl⟩
theorem R8{W W':Wd}(l:W.le W')(p:ai):(W.iF p).le (W'.iF p):=⟨l.hs,l.z,λa o e=>by
 have e:(if a=p then ae else W.P a)=aa o:=e;show(if a=p then ae else W'.P a)=aa o;by_cases z:a=p
 .rw[if_pos z] at e;cases e
 .rw[if_neg z] at e ⊢;exact l.p a o e,l.n,l.μ⟩
theorem R9{W:Wd}{p:ai}{o:HO}:(W.iF p).le ((W.oK p o).iF p):=⟨λ_ _ e=>e,λ_ _ e=>e,λa u e=>by
 have e:(if a=p then ae else W.P a)=aa u:=e;show(if a=p then ae else upd W.P p o a)=aa u;by_cases z:a=p
 .rw[if_pos z] at e;cases e
 .rw[if_neg z] at e ⊢;rw[dr z];exact e,aB _,λ_ _=>rfl⟩
theorem Zbv{W:Wd}{p:ai}(h:W.P p=ae):W.le (W.iF p):=⟨λ_ _ e=>e,λ_ _ e=>e,λa u e=>by
 show(if a=p then ae else W.P a)=aa u;rw[if_neg (λz=>by rw[z,h] at e;cases e)];exact e,aB _,λ_ _=>rfl⟩
theorem gv.hs{W W':Wd}(hs:W'.HS=W.HS)(hμ:W'.μ=W.μ)(hn:W'.n=W.n):∀{ρ:Ev} {σ:St},gv W ρ σ->gv W' ρ σ
 |[],_,h=>h
 |none::ρ,σ,⟨s,r,e,h1,h2⟩=>⟨s,r,e,trivial,gv.hs hs hμ hn h2⟩
 |some t::ρ,σ,⟨ae,r,e,h1,h2⟩=>h1.elim
 |some t::ρ,σ,⟨aa v,r,e,h1,h2⟩=>⟨aa v,r,e,cD.hs hs hμ hn t v h1,gv.hs hs hμ hn h2⟩
def xy(E:XK)(fin:List T->M T):Prop:=∀(acc:List V) (ts:List T) (W1 W3:Wd) (S:bG) (H:Hp) (p:ai) (Q:VK),W1.le (W3.iF p)->W3.P p=aa (.lst acc)->cV W3 S H->aW W3 ts acc->bo E W1 (QV Q) (fin ts S)->Q (.ref p) H
theorem vD{E:XK}:xy E iu:=λacc ts W1 W3 S H p Q l hp r d h=>by
 have l2:(W3.iF p).le ((W3.iF p).eU p (.lst acc)):=Wd.k9 (r.prv p _ hp).2.1;have d1:aW (W3.iF p) ts acc:=aW.hs (W:=W3) (W':=W3.iF p) rfl rfl rfl ts acc d;exact h _ _ (l.trans l2) (r.xp hp trivial (by intro _ z;cases z)) _ (r8.mpr ⟨p,acc,rfl,gm,aW.mono l2 _ _ d1⟩)
theorem Zeg{E:XK}:xy E vC:=λacc ts W1 W3 S H p Q l hp r d h=>by
 have l2:(W3.iF p).le ((W3.iF p).add p):=Wd.jd;have d1:aW (W3.iF p) ts acc:=aW.hs (W:=W3) (W':=W3.iF p) rfl rfl rfl ts acc d;refine h _ _ (l.trans l2) (r.vp hp (by intro _ z;cases z) (.lst ts) ⟨acc,(r.prv p _ hp).1,aW.mono l2 _ _ d1⟩) _ (m3.mpr ⟨?_,?_⟩)
 .rw[r.len];exact congrArg V.ref (Wd.hV (W:=W3.iF p)).symm
 .rw[r.len];exact dH _
section
variable {X:Cx}{E:XK}{jU iter c tg:bx}{it:DI}{wi:TI}{gl:TG}{g:DG}{tc:DT}{AX:TT}{te:DE}{fin:List T->M T}{nt:Nat}{js:List Nat}
theorem bo.sv{α β:Type}{E:XK}{W W2:Wd}{Q:β->Wd->bG->Hp->Prop}{m:M α}{f:α->M β}{S:bG}(h:bo E W2 Q (M.bind m f S))(l:W2.le W):bo E W (λa _ S1 _=>bo E W2 Q (f a S1)) (m S):=by
 unfold M.bind at h;cases e:m S with
 |ok a S1=>rw[e] at h;exact λ_ _ _ _=>h
 |exc C fs S1=>rw[e] at h;exact λW' H' dx l'=>h W' H' dx (l.trans l')
 |bad=>rw[e] at h;exact h
theorem R_ (hG:GT gl g) (EK:∀σ H Q,RT E0 tc σ H Q->AX σ H Q) {PF:List T->bG->Prop} {σ:St} {H2:Hp} {Q:VK} {W2:Wd} {S1:bG} {ρ:Ev} {ts:List T} {st:bG->Prop} {J:It} (r2:cV W2 S1 H2) (env:gv W2 ρ σ) (ok:su W2 ts st J)
  (AE:∀(acc:List V) (us:List T) (W3:Wd) (S3:bG) (H3:Hp) (p:ai),W3.P p=aa (.lst acc)->cV W3 S3 H3->aW W3 us acc->W2.le (W3.iF p)->PF us S3->Q (.ref p) H3)
  (p1:bo E0 W2 (λres _ S' _=>PF res S') (nX st g tc te ts (aQ nt ae++js.map λj=>(ρ[j]?).join) [] S1)):AD nt js (λ_ _ R=>R J H2) gl AX (RE E0 te) σ H2 Q:=by
 intro a ha;have pn:W2.P a=ae:=r2.xl ha;refine⟨λi m σ2 H acc=>i<=ts.length/\m=ts.length-i/\∃W3 S ρ tT,W2.le (W3.iF a)/\W3.P a=aa (.lst acc)/\cV W3 S H/\gv W3 ρ σ2/\aW W3 tT acc /\
  bo E0 W2 (λres _ S' _=>PF res S') (nX st g tc te (ts.drop i) ρ tT S),⟨_,dJ _,rfl,W2.oK a (.lst []),S1,aQ nt ae++js.map λj=>(ρ[j]?).join,[],?_,gm,r2.xm ha _,?_,aW.gj,?_⟩,?_⟩
 .exact(Zbv pn).trans R9
 .refine gv.append (gv.zi nt (fV ..)) ?_
  exact(gv.Ek env js).mono (Wd.xk pn)
 .rw[zX];exact p1
 .rintro i m σ2 H acc ⟨hi,rfl,W3,S3,ρ3,tT,l3,hp,r3,e3,qS,p3⟩
  have HK:W2.le W3:=l3.trans (Zbu W3 a);refine⟨(r3.prv a _ hp).1,?_⟩;by_cases rB:i<ts.length
  .rw [jn rB] at p3
   unfold nX at p3
   split at p3
   .rename_i eY
    obtain⟨go,yl⟩:=ok.go i W3 S3 H HK r3 eY rB;refine .inr ⟨go,_,fun σ' H' lL n=>⟨ts.length-(i+1),by omega,rB,rfl,n⟩,λx H' y=>?_⟩;obtain⟨W4,t,l4,r4,et,dt⟩:=yl x H' y;rw[a_ rB] at et;cases et;cases e:g ts[i] ρ3 with
    |none=>simp only[e] at p3;exact p3.elim
    | some ρ4=>
      simp only[e] at p3;refine hG W4 S3 H' _ x ρ3 ρ4 σ2 _ r4 dt (e3.mono l4) e fun σ4 e4=>?_;refine EK _ _ _ ⟨W4,S3,ρ4,r4,e4,(bo.sv p3 (HK.trans l4)).imp λb W5 S5 H5 l5 r5 p5=>?_⟩;have EL:W3.le W5:=l4.trans l5;cases b with
      |false=>exact rT ⟨W5,S5,ρ4,tT,l3.trans (R8 EL a),EL.p a _ hp,r5,e4.mono l5,aW.mono EL _ _ qS,p5⟩
      | true=>
        refine rV ⟨W5,S5,ρ4,r5,e4.mono l5,(bo.sv (show bo E0 W2 _ (M.bind (te ρ4) _ S5) from p5) (HK.trans EL)).imp λty W6 S6 H6 l6 r6 p6 y dy=>?_⟩;have LR:W3.le W6:=EL.trans l6;have Sa:=LR.p a _ hp
        split at p6
        .rename_i hl
         have hla:acc.length<1000:=by rw[<- qS.length];exact hl
         refine⟨(r6.prv a _ Sa).1,aA hla (rQ (aB _)),W6.oK a (.lst (acc++[y])),S6,ρ4,tT++[ty],(l3.trans (R8 LR a)).trans R9,gm,r6.xn Sa (by intro _ z;cases z) (by intro _ _ z;cases z) _,?_,?_,p6⟩
         .exact gv.hs (W:=W6) (W':=W6.oK a (.lst (acc++[y]))) rfl rfl rfl ((e4.mono l5).mono l6)
         .exact aW.hs (W:=W6) (W':=W6.oK a (.lst (acc++[y]))) rfl rfl rfl _ _ ((aW.mono LR _ _ qS).append (aW.dY dy aW.gj))
        .exact p6.elim
   .exact p3.elim
  .have e:i=ts.length:=by omega
   subst e;rw[nG] at p3;unfold nX at p3
   split at p3
   .rename_i eY
    exact .inl ⟨ok.stop _ W3 S3 H HK r3 eY rfl,AE acc tT W3 S3 H a hp r3 qS l3 (p3 (W3.iF a) H l3 (r3.iF a (by rw[hp];intro _ z;cases z)))⟩
   .exact p3.elim
theorem HM(hI:RI E it wi)(hG:GT gl g)(EK:∀σ H Q,RT E0 tc σ H Q->AX σ H Q)(hf:xy E fin){σ:St}{H:Hp}{Q:VK}(h:RE E (k_ nt js it g tc te fin) σ H Q):AD nt js wi gl AX (RE E0 te) σ H Q:=by
 obtain⟨W,S,ρ,rp,env,p⟩:=h;refine hI σ H _ ⟨W,S,ρ,rp,env,(bo.bind p).imp λq W1 S1 H1 l1 r1 p1 J W2 H2 l2 r2 ok=>?_⟩;exact R_ (PF:=λus S3=>bo E W2 (QV Q) (fin us S3)) hG EK r2 (env.mono (l1.trans l2)) ok (λacc us W3 S3 H3 a hp r3 qS l3 p4=>hf acc us W2 W3 S3 H3 a Q l3 hp r3 qS p4) (z4p (E':=E0) (bo.sv (Cr p1 l2) (Wd.le.refl _)))
variable {scope:iG}{cl:List (Str×ai)}{nts xs:List Str}{pos:Pos}
theorem Sb(hc:X.calm=true)(C:uq X scope cl nts xs js)(hi:PI X tg iter wi)(hI:RI E it wi)(hg:∀fp s3 H2,PG (ja X scope cl (nts++xs) fp s3 H2) tg gl)(hG:GT gl g)(he:∀fp s3 H2,PE (ja X scope cl (nts++xs) fp s3 H2) jU (RE E0 te))(hf:xy E fin)
  (hs:∀x,ck iter X.env x=pure x:=by intro _;rfl):PE X (.ListComp jU [⟨tg,iter,[],0⟩] scope pos) (RE E (k_ nts.length js it g kG te fin)):=
 iT (ZU hc C hi hg he hs) fun σ H Q h=>HM hI hG (fun σ H Q h=>RM h) hf h
theorem EM(hc:X.calm=true)(C:uq X scope cl nts xs js)(hi:PI X tg iter wi)(hI:RI E it wi)(hg:∀fp s3 H2,PG (ja X scope cl (nts++xs) fp s3 H2) tg gl)(hG:GT gl g)(ht:∀fp s3 H2,PT (ja X scope cl (nts++xs) fp s3 H2) c (RT E0 tc))(he:∀fp s3 H2,PE (ja X scope cl (nts++xs) fp s3 H2) jU (RE E0 te))(hf:xy E fin)
  (hs:∀x,ck iter X.env x=pure x:=by intro _;rfl):PE X (.ListComp jU [⟨tg,iter,[c],0⟩] scope pos) (RE E (k_ nts.length js it g tc te fin)):=
 iT (Q8 hc C hi hg ht he hs) fun σ H Q h=>HM hI hG (fun σ H Q h=>h) hf h
theorem LS{i:Nat}{y:Str}{py nR:Pos}(hc:X.calm=true)(C:uq X scope cl nts xs js)(hi:PI X tg iter wi)(hI:RI E it wi)(hg:∀fp s3 H2,PG (ja X scope cl (nts++xs) fp s3 H2) tg gl)(hG:GT gl g)(he:∀fp s3 H2,PE (ja X scope cl (nts++xs) fp s3 H2) jU (RE E0 te))(hf:xy E fin)
  (hN:X.N.Nodup) (hy:X.N[i]?=aa y) (hx:Loc X.env.scope y) (hkn:∀u:V,X.kn[i]?≠aa (aa u)) (LU:X.fn y=true\/X.env.scope.names.lookup y=aa .local:=by first | exact .inl rfl | exact .inr rfl | assumption)
  (AJ:fP (.ListComp jU [⟨tg,iter,[],0⟩] scope pos) (aa (.Name y py)) nR.line X.env=pure true:=by rfl)
  (hs:∀x,ck iter X.env x=pure x:=by intro _;rfl):PS X (.Assign [.Name y py] (.ListComp jU [⟨tg,iter,[],0⟩] scope pos) nR) (RS E (cE i (k_ nts.length js it g kG te fin))):=
 qO (ZV hc C hi hg he hN hy hx hkn LU AJ hs) λD σ H h=>HM hI hG (fun σ H Q h=>RM h) hf (LN h)
theorem z8k{i:Nat}{y:Str}{py nR:Pos}(hc:X.calm=true)(C:uq X scope cl nts xs js)(hi:PI X tg iter wi)(hI:RI E it wi)(hg:∀fp s3 H2,PG (ja X scope cl (nts++xs) fp s3 H2) tg gl)(hG:GT gl g)(ht:∀fp s3 H2,PT (ja X scope cl (nts++xs) fp s3 H2) c (RT E0 tc))(he:∀fp s3 H2,PE (ja X scope cl (nts++xs) fp s3 H2) jU (RE E0 te))(hf:xy E fin)
  (hN:X.N.Nodup) (hy:X.N[i]?=aa y) (hx:Loc X.env.scope y) (hkn:∀u:V,X.kn[i]?≠aa (aa u)) (LU:X.fn y=true\/X.env.scope.names.lookup y=aa .local:=by first | exact .inl rfl | exact .inr rfl | assumption)
  (AJ:fP (.ListComp jU [⟨tg,iter,[c],0⟩] scope pos) (aa (.Name y py)) nR.line X.env=pure true:=by rfl)
  (hs:∀x,ck iter X.env x=pure x:=by intro _;rfl):PS X (.Assign [.Name y py] (.ListComp jU [⟨tg,iter,[c],0⟩] scope pos) nR) (RS E (cE i (k_ nts.length js it g tc te fin))):=
 qO (Z6 hc C hi hg ht he hN hy hx hkn LU AJ hs) λD σ H h=>HM hI hG (fun σ H Q h=>h) hf (LN h)
end
end MF
namespace MF
open PySem PySem.Spec PyProof.Rows L2
abbrev Fn:=List T->M T
def fO(n:Nat)(F:Fn):Sp:=λvs H Q E=>∃W S ts,cV W S H/\aW W ts vs/\ts.length=n/\bo E W (QV Q) (F ts S)
noncomputable def cH(n:Nat)(d:DS):Fn:=λts=>(d (ts.map aa++aQ (n-ts.length) ae)).bind λx=>match x with
 |.rt t=>M.pure t
 |.nx _=>M.pure .bq
 |_=>M.bad
section
variable {P:aU}{w:bz}{K:aO}{mg:Str->Option ag}{base:bR}
theorem Zeh{x qual:Str}{st:bS}{dV:ag}{f:ai}{fd:bA}{N ps:List Str}{k:Nat}{d:DS}(F:cJ K x qual st dV f fd)(S:gn N ps (d8 st))
  (lJ:∀(hU:ag) (A:cp) (outer:List Env) (s:aq) (H:Hp) (E:XK),eL k (A.deeper (iP qual (d8 st) s.heap.objs.size f hU)) ->
   k6 (ir (dM P w) P w K mg base N qual (d8 st) f hU A outer s H E) (ot st) (RS E d)):bH P w K mg base (dM P w) (k+1) f fd ps (fO ps.length (cH N.length d)):=by
 refine F.K8 S (λvs H Q E h=>?_) λhU A outer s H vs Q E hr h=>⟨RS E d,lJ hU A outer s H E hr,?_⟩
 .obtain⟨W,S,ts,_,d,e,_⟩:=h
  rw[<- d.length];exact e
 .obtain⟨W,S0,ts,rp,dn,e,p⟩:=h
  refine⟨W,S0,ts.map aa++aQ (N.length-ts.length) ae,rp,?_,(bo.bind p).imp λx W1 S1 H1 l1 r1 p1=>?_⟩
  .unfold L2.start
   rw[<- dn.length];exact gv.append (gv.vo dn) (gv.zi _ (fV ..))
  .cases x with
   |rt t=>exact p1 W1 H1 (Wd.le.refl _) r1
   |nx ρ=>exact fun σ' _=>p1 W1 H1 (Wd.le.refl _) r1 .bq (nS.mpr rfl)
   |bk ρ=>exact p1.elim
   |ct ρ=>exact p1.elim
end
mutual
def HB(n:Nat):T->Prop
 |.lst ts=>sV n ts
 |.tup ts=>sV n ts
 |.dic kvs=>xA n kvs
 |.obj k=>k<n
 |.bq=>True
 |.bl _=>True
 |.int _=>True
 |.str _=>True
def sV(n:Nat):List T->Prop
 |[]=>True
 |t::ts=>HB n t/\sV n ts
def xA(n:Nat):List (cg×T)->Prop
 |[]=>True
 |(_,t)::ts=>HB n t/\xA n ts
end
def EN(n:Nat):List (Str×T)->Prop
 |[]=>True
 |(_,t)::ts=>HB n t/\EN n ts
mutual
theorem LV{W:Wd}:∀(t:T) (v:V),cD W t v->HB W.n t
 |.bq,_,_=>by simp only[HB]
 |.bl _,_,_=>by simp only[HB]
 |.int _,_,_=>by simp only[HB]
 |.str _,_,_=>by simp only[HB]
 |.lst ts,v,h=>by obtain⟨a,vs,_,_,h2⟩:=r8.mp h;simp only[HB];exact pE ts vs h2
 |.tup ts,v,h=>by obtain⟨a,vs,_,_,h2⟩:=r9.mp h;simp only[HB];exact pE ts vs h2
 |.dic ts,v,h=>by obtain⟨a,vs,_,_,h2⟩:=xj.mp h;simp only[HB];exact pF ts vs h2
 |.obj k,v,h=>by simp only[HB];exact(m3.mp h).2
theorem pE{W:Wd}:∀(ts:List T) (vs:List V),aW W ts vs->sV W.n ts
 |[],_,_=>by simp only[sV]
 |t::ts,vs,h=>by obtain⟨v,r,_,h1,h2⟩:=nu.mp h;simp only[sV];exact⟨LV t v h1,pE ts r h2⟩
theorem pF{W:Wd}:∀(ts:List (cg×T)) (vs:List (cg×V)),bN W ts vs->xA W.n ts
 |[],_,_=>by simp only[xA]
 |(k,t)::ts,vs,h=>by obtain⟨v,r,_,h1,h2⟩:=r_.mp h;simp only[xA];exact⟨LV t v h1,pF ts r h2⟩
end
theorem LW{W:Wd}:∀{ts:List (Str×T)} {vs:List (Str×V)},fS W ts vs->EN W.n ts
 |[],_,_=>trivial
 |(k,t)::ts,vs,⟨v,r,_,h1,h2⟩=>⟨LV t v h1,LW h2⟩
structure Ct(W W':Wd)(n:Nat):Prop where
 hs:∀a o,W.HS a=aa o->W'.HS a=aa o
 μ:∀k,k<n->W'.μ k=W.μ k
 n:W'.n=n
 p:∀a o,W.P a=aa o->W'.P a=aa o
mutual
theorem cD.cut{W W':Wd}{n:Nat}(c:Ct W W' n):∀(t:T) (v:V),HB n t->cD W t v->cD W' t v
 |.bq,_,_,h=>nS.mpr (nS.mp h)
 |.bl _,_,_,h=>jQ.mpr (jQ.mp h)
 |.int _,_,_,h=>jF.mpr (jF.mp h)
 |.str _,_,_,h=>nr.mpr (nr.mp h)
 |.lst ts,v,b,h=>by obtain⟨a,vs,e,h1,h2⟩:=r8.mp h;simp only[HB] at b;exact r8.mpr ⟨a,vs,e,c.hs _ _ h1,aW.cut c ts vs b h2⟩
 |.tup ts,v,b,h=>by obtain⟨a,vs,e,h1,h2⟩:=r9.mp h;simp only[HB] at b;exact r9.mpr ⟨a,vs,e,c.hs _ _ h1,aW.cut c ts vs b h2⟩
 |.dic ts,v,b,h=>by obtain⟨a,vs,e,h1,h2⟩:=xj.mp h;simp only[HB] at b;exact xj.mpr ⟨a,vs,e,c.hs _ _ h1,bN.cut c ts vs b h2⟩
 |.obj k,v,b,h=>by obtain⟨e,h1⟩:=m3.mp h;simp only[HB] at b;exact m3.mpr ⟨by rw[c.μ k b];exact e,by rw[c.n];exact b⟩
theorem aW.cut{W W':Wd}{n:Nat}(c:Ct W W' n):∀(ts:List T) (vs:List V),sV n ts->aW W ts vs->aW W' ts vs
 |[],vs,_,h=>ow.mpr (ow.mp h)
 |t::ts,vs,b,h=>by obtain⟨v,r,e,h1,h2⟩:=nu.mp h;simp only[sV] at b;exact nu.mpr ⟨v,r,e,cD.cut c t v b.1 h1,aW.cut c ts r b.2 h2⟩
theorem bN.cut{W W':Wd}{n:Nat}(c:Ct W W' n):∀(ts:List (cg×T)) (vs:List (cg×V)),xA n ts->bN W ts vs->bN W' ts vs
 |[],vs,_,h=>qN.mpr (qN.mp h)
 |(k,t)::ts,vs,b,h=>by obtain⟨v,r,e,h1,h2⟩:=r_.mp h;simp only[xA] at b;exact r_.mpr ⟨v,r,e,cD.cut c t v b.1 h1,bN.cut c ts r b.2 h2⟩
end
theorem fS.cut{W W':Wd}{n:Nat}(c:Ct W W' n):∀{ts:List (Str×T)} {vs:List (Str×V)},EN n ts->fS W ts vs->fS W' ts vs
 |[],_,_,h=>h
 |(k,t)::ts,vs,b,⟨v,r,e,h1,h2⟩=>⟨v,r,e,cD.cut c t v b.1 h1,fS.cut c b.2 h2⟩
def LX(n:Nat):bY->Prop
 |.lst ts=>sV n ts
 |.dic ts=>xA n ts
 |.ins _ fs=>EN n fs
 |.lck ts=>xA n ts
 |.exc _ ae=>True
 |.exc _ (aa fs)=>EN n fs
theorem Zbw{W:Wd}{H:Hp}{a:ai}:∀{c:bY},k8 W H a c->LX W.n c
 |.lst _,⟨_,_,h⟩=>pE _ _ h
 |.dic _,⟨_,_,h⟩=>pF _ _ h
 |.ins _ _,⟨_,_,_,h⟩=>LW h
 |.lck _,⟨_,_,_,h⟩=>pF _ _ h
 |.exc _ ae,_=>trivial
 |.exc _ (aa _),⟨aa _,_,_,_,h⟩=>LW h
 |.exc _ (aa _),⟨ae,_,h⟩=>h.elim
theorem k8.cut{W W':Wd}{H:Hp}{a:ai}{n:Nat}(c:Ct W W' n):∀{q:bY},LX n q->k8 W H a q->k8 W' H a q
 |.lst _,b,⟨_,h1,h⟩=>⟨_,h1,aW.cut c _ _ b h⟩
 |.dic _,b,⟨_,h1,h⟩=>⟨_,h1,bN.cut c _ _ b h⟩
 |.ins _ _,b,⟨_,_,h1,h⟩=>⟨_,_,h1,fS.cut c b h⟩
 |.lck _,b,⟨_,_,h1,h⟩=>⟨_,_,h1,bN.cut c _ _ b h⟩
 |.exc _ ae,b,⟨ae,h1,_⟩=>⟨ae,h1,trivial⟩
 |.exc _ (ei _),b,⟨ei _,h1,ks,h2,h⟩=>⟨_,h1,ks,c.p _ _ h2,fS.cut c b h⟩
 |.exc _ ae,_,⟨ei _,_,h⟩=>h.elim
 |.exc _ (ei _),_,⟨ae,_,h⟩=>h.elim
noncomputable def iw{α β:Type}(f:α->Option β):List α->Option (List β)
 |[]=>aa []
 | a::r=>match f a,iw f r with
   |some b,aa bs=>aa (b::bs)
   |_,_=>ae
open Classical in
noncomputable def fz(S:bG)(n:Nat):Nat->T->Option T
 |0,t=>if HB n t then aa t else ae
 | f + 1,t=>if HB n t then aa t else match t with
   | .obj k=>(match S[k]? with
     |some (.lst ts)=>(iw (fz S n f) ts).map .lst
     |some (.dic kvs)=>(iw (λp=>(fz S n f p.2).map λt=>(p.1,t)) kvs).map .dic
     |_=>ae)
   |.lst ts=>(iw (fz S n f) ts).map .lst
   |.tup ts=>(iw (fz S n f) ts).map .tup
   |_=>ae
open Classical in
noncomputable def lg(F:Fn):Fn:=λts S=>match F ts S with
 | .ok t S'=>if S'.take S.length=S then(match fz S' S.length 6 t with
   |some t'=>.ok t' S
   |none=>.bad) else .bad
 |.exc C ae S'=>if S'.take S.length=S then .exc C ae S else .bad
 | .exc C (aa fs) S'=>if S'.take S.length=S then(match iw (λp=>(fz S' S.length 6 p.2).map λt=>(p.1,t)) fs with
   |some wx=>.exc C (aa wx) S
   |none=>.bad) else .bad
 |.bad=>.bad
section
variable {W:Wd}{S:bG}{H:Hp}
noncomputable def EO:HO->HO
 |.eU _ u=>u
 |o=>o
open Classical in
def Wd.cut(W:Wd)(H:Hp)(n:Nat):Wd:=⟨λa=>if W.HS a≠ae then W.HS a else if(∃k,n<=k/\k<W.n/\W.μ k=a) then(H a).map EO else ae,W.μ,n,W.Z,W.P⟩
open Classical in
theorem HQ{n:Nat}{a:ai}{o:HO}(h:W.HS a=aa o):(W.cut H n).HS a=aa o:=by
 show(if W.HS a≠ae then W.HS a else _)=aa o;rw[if_pos (by rw[h];intro z;cases z)];exact h
open Classical in
theorem Sd{n k:Nat}(r:cV W S H)(hk:n<=k)(hn:k<W.n):(W.cut H n).HS (W.μ k)=(H (W.μ k)).map EO:=by
 obtain⟨c,hc⟩:=r.cellAt hn;show(if W.HS (W.μ k)≠ae then _ else if(∃j,n<=j/\j<W.n/\W.μ j=W.μ k) then(H (W.μ k)).map EO else ae)=_;rw[if_neg (by rw[(r.cell k c hc).2];exact λz=>z rfl),if_pos ⟨k,hk,hn,rfl⟩]
theorem LY{n:Nat}:Ct W (W.cut H n) n:=⟨λ_ _ h=>HQ h,λ_ _=>rfl,rfl,λ_ _ h=>h⟩
theorem LZ{W0:Wd}{n:Nat}(l:W0.le W)(hn:W0.n=n):W0.le (W.cut H n):=⟨λa o h=>HQ (l.hs a o h),l.z,l.p,hX hn,l.μ⟩
open Classical in
theorem cV.cut(r:cV W S H){n:Nat}(hn:n<=W.n)(hb:∀k c,k<n->S[k]?=aa c->LX n c):cV (W.cut H n) (S.take n) H where
 sub:=λa o e=>by
  have e:(if W.HS a≠ae then W.HS a else if(∃k,n<=k/\k<W.n/\W.μ k=a) then(H a).map EO else ae)=aa o:=e
  split at e
  .exact r.sub a o e
  .split at e
   .rename_i hk
    obtain⟨k,h1,h2,rfl⟩:=hk;obtain⟨c,hc⟩:=r.cellAt h2;have z:=(r.cell k c hc).1;cases c with
    |lst ts=>obtain⟨_,h1,_⟩:=z;rw[h1] at e;cases e;exact⟨.inl h1,trivial⟩
    |dic ts=>obtain⟨_,h1,_⟩:=z;rw[h1] at e;cases e;exact⟨.inl h1,trivial⟩
    |ins _ ts=>obtain⟨_,_,h1,_⟩:=z;rw[h1] at e;cases e;exact⟨.inl h1,trivial⟩
    |exc _ ts=>obtain⟨_,h1,_⟩:=z;rw[h1] at e;cases e;exact⟨.inl h1,trivial⟩
    |lck ts=>obtain⟨q,_,h1,_⟩:=z;rw[h1] at e;cases e;exact⟨.inr ⟨⟨q,h1⟩,by intro _ y;cases y⟩,trivial⟩
   .cases e
 len:=by rw[jR,r.len];exact Nat.min_eq_left hn
 cell:=λk c e=>by
  have hk:k<n:=by
   have:=(aw.mp e).1;rw[jR] at this;omega
  rw[gD hk] at e;refine⟨(r.cell k c e).1.cut LY (hb k c hk e),?_⟩;show(if W.HS (W.μ k)≠ae then _ else if(∃j,n<=j/\j<W.n/\W.μ j=W.μ k) then _ else ae)=ae;rw[if_neg (by rw[(r.cell k c e).2];exact λz=>z rfl),if_neg];rintro⟨j,h1,h2,h3⟩;have:=r.inj j k h2 (r.lt e) h3;omega
 inj:=λj k hj hk e=>r.inj j k (aA hj hn) (aA hk hn) e
 zed:=r.zed
 prv:=λa o e=>by
  obtain⟨h1,h2,h3⟩:=r.prv a o e;refine⟨h1,?_,λk hk=>h3 k (aA hk hn)⟩;show(if W.HS a≠ae then _ else if(∃k,n<=k/\k<W.n/\W.μ k=a) then _ else ae)=ae;rw[if_neg (by rw[h2];exact λz=>z rfl),if_neg];rintro⟨j,_,h5,h6⟩;exact h3 j h5 h6
theorem HR{n:Nat}{g:T->Option T}(hg:∀t t' v,g t=aa t'->cD W t v->cD (W.cut H n) t' v):∀{ts qj:List T} {vs:List V},iw g ts=aa qj->aW W ts vs->aW (W.cut H n) qj vs
 |[],qj,vs,e,h=>by cases e;exact ow.mpr (ow.mp h)
 | t :: ts,qj,vs,e,h=>by
   obtain⟨v,r,rfl,h1,h2⟩:=nu.mp h;unfold iw at e;cases e1:g t with
   |none=>simp[e1] at e
   | some t'=>
     cases e2:iw g ts with
     |none=>simp[e1,e2] at e
     | some Se=>
       simp[e1,e2] at e;subst e;exact aW.dY (hg t t' v e1 h1) (HR hg e2 h2)
theorem Sf{n:Nat}{g:T->Option T}(hg:∀t t' v,g t=aa t'->cD W t v->cD (W.cut H n) t' v):∀{ts qj:List (cg×T)} {vs:List (cg×V)},iw (λp=>(g p.2).map λt=>(p.1,t)) ts=aa qj->bN W ts vs->bN (W.cut H n) qj vs
 |[],qj,vs,e,h=>by cases e;exact qN.mpr (qN.mp h)
 | (k, t)::ts,qj,vs,e,h=>by
   obtain⟨v,r,rfl,h1,h2⟩:=r_.mp h;unfold iw at e;cases e1:g t with
   |none=>simp[e1] at e
   | some t'=>
     cases e2:iw (λp=>(g p.2).map λt=>(p.1,t)) ts with
     |none=>simp[e1,e2] at e
     | some Se=>
       simp[e1,e2] at e;subst e;exact bN.dY (hg t t' v e1 h1) (Sf hg e2 h2)
theorem Sg{n:Nat}{g:T->Option T}(hg:∀t t' v,g t=aa t'->cD W t v->cD (W.cut H n) t' v):∀{ts qj:List (Str×T)} {vs:List (Str×V)},iw (λp=>(g p.2).map λt=>(p.1,t)) ts=aa qj->fS W ts vs->fS (W.cut H n) qj vs
 |[],qj,vs,e,h=>by cases e;exact h
 | (k, t)::ts,qj,vs,e,⟨v,r,e0,h1,h2⟩=>by
   unfold iw at e;cases e1:g t with
   |none=>simp[e1] at e
   | some t'=>
     cases e2:iw (λp=>(g p.2).map λt=>(p.1,t)) ts with
     |none=>simp[e1,e2] at e
     | some Se=>
       simp[e1,e2] at e;subst e;exact⟨v,r,e0,hg t t' v e1 h1,Sg hg e2 h2⟩
open Classical in
theorem Zbx{n:Nat}{d:ai}{ks:List (Str×V)}(r:cV W S H)(hd:H d=aa (.xd ks))(h0:W.HS d=ae):(W.cut H n).HS d=ae:=by
 show(if W.HS d≠ae then W.HS d else if(∃k,n<=k/\k<W.n/\W.μ k=d) then(H d).map EO else ae)=ae;rw[if_neg (by rw[h0];exact λz=>z rfl),if_neg];rintro⟨k,_,hk,rfl⟩;obtain⟨c,hc⟩:=r.cellAt hk;have z:=(r.cell k c hc).1;cases c with
 |lst ts=>obtain⟨_,h1,_⟩:=z;rw[hd] at h1;cases h1
 |dic ts=>obtain⟨_,h1,_⟩:=z;rw[hd] at h1;cases h1
 |ins _ ts=>obtain⟨_,_,h1,_⟩:=z;rw[hd] at h1;cases h1
 |exc _ ts=>obtain⟨_,h1,_⟩:=z;rw[hd] at h1;cases h1
 |lck ts=>obtain⟨_,_,h1,_⟩:=z;rw[hd] at h1;cases h1
theorem Cu(r:cV W S H){n:Nat}:∀(f:Nat) (t t':T) (v:V),fz S n f t=aa t'->cD W t v->cD (W.cut H n) t' v
 | 0,t,t',v,e,d=>by
   unfold fz at e
   split at e
   .rename_i h;cases e;exact cD.cut LY _ _ h d
   .cases e
 | f + 1,t,t',v,e,d=>by
   unfold fz at e
   split at e
   .rename_i h;cases e;exact cD.cut LY _ _ h d
   .rename_i hnb
    split at e
    .rename_i k
     obtain⟨rfl,hk⟩:=m3.mp d;have Sh:n<=k:=by
      simp only[HB] at hnb;omega
     split at e
     .rename_i ts ec
      obtain⟨qj,e1,rfl⟩:=bw.mp e;obtain⟨⟨vs,h1,h2⟩,_⟩:=r.cell k _ ec;exact r8.mpr ⟨_,vs,rfl,(Sd r Sh hk).trans (by rw[h1];rfl),HR (Cu r f) e1 h2⟩
     .rename_i kvs ec
      obtain⟨qj,e1,rfl⟩:=bw.mp e;obtain⟨⟨vs,h1,h2⟩,_⟩:=r.cell k _ ec;exact xj.mpr ⟨_,vs,rfl,(Sd r Sh hk).trans (by rw[h1];rfl),Sf (Cu r f) e1 h2⟩
     .cases e
    .rename_i ts
     obtain⟨qj,e1,rfl⟩:=bw.mp e;obtain⟨a,vs,rfl,h1,h2⟩:=r8.mp d;exact r8.mpr ⟨a,vs,rfl,HQ h1,HR (Cu r f) e1 h2⟩
    .rename_i ts
     obtain⟨qj,e1,rfl⟩:=bw.mp e;obtain⟨a,vs,rfl,h1,h2⟩:=r9.mp d;exact r9.mpr ⟨a,vs,rfl,HQ h1,HR (Cu r f) e1 h2⟩
    .cases e
end
theorem z8m{n:Nat}{F:Fn}{vs:List V}{H:Hp}{Q:VK}{E:XK}(h:fO n (lg F) vs H Q E):fO n F vs H Q E:=by
 obtain⟨W,S,ts,rp,d,hl,p⟩:=h;refine⟨W,S,ts,rp,d,hl,?_⟩;have AK:∀{S':bG} {W':Wd} {H':Hp},S'.take S.length=S->W.le W'->cV W' S' H'->cV (W'.cut H' W.n) S H':=λ{S' W' H'} e l r=>by
  have:=r.cut (n:=W.n) l.n (λk c hk ec=>by
   have e2:S[k]?=aa c:=by rw[<- e,gD (by rw[rp.len];exact hk)];exact ec
   exact Zbw (rp.cell k c e2).1)
  rw[<- rp.len] at this;rw[e] at this;rw[<- rp.len];exact this
 unfold lg at p;cases e:F ts S with
 |bad=>rw[e] at p;exact p.elim
 | ok t S'=>
   rw[e] at p;simp only at p
   split at p
   .rename_i es
    cases ez:fz S' S.length 6 t with
    |none=>rw[ez] at p;exact p.elim
    | some t'=>
      rw[ez] at p;intro W' H' l r v dv;refine p (W'.cut H' W.n) H' (LZ l rfl) (AK es l r) v ?_;rw[rp.len] at ez;exact Cu r 6 t t' v ez dv
   .exact p.elim
 | exc C fs S'=>
   rw[e] at p;cases fs with
   | some fs=>
     simp only at p
     split at p
     .rename_i es
      split at p
      .rename_i wx ef
       intro W' H' dx l r x;refine p (W'.cut H' W.n) H' dx (LZ l rfl) (AK es l r) ?_;cases dx with
       |none=>exact x.elim
       | some d=>
         obtain⟨ks,x1,x2,x3⟩:=x;exact⟨ks,x1,Zbx r x1 x2,Sg (Cu r 6) (by rw[<- rp.len];exact ef) x3⟩
      .exact p.elim
     .exact p.elim
   | none=>
     simp only at p
     split at p
     .rename_i es
      intro W' H' dx l r x;refine p (W'.cut H' W.n) H' dx (LZ l rfl) (AK es l r) ?_;cases dx with
      |none=>exact trivial
      |some _=>exact x.elim
     .exact p.elim
theorem bH.eU{P:aU}{w:bz}{K:aO}{mg:Str->Option ag}{base:bR}{CX:sT}{k:Nat}{f:ai}{fd:bA}{ps:List Str}{n:Nat}{F:Fn}(h:bH P w K mg base CX k f fd ps (fO n F)):bH P w K mg base CX k f fd ps (fO n (lg F)):=
 h.imp λvs H Q E q=>z8m q
end MF
namespace MF
open PySem PySem.Spec L2
structure FnAt(P:aU)(w:bz)(K:aO)(mg:Str->Option ag)(base:bR)(k:Nat)(x:Str)(ps:List Str)(F:Fn)(f:ai)(fd:bA):Prop where
 ok:bH P w K mg base (dM P w) k f fd ps (fO ps.length F)
 m:mg x=aa (.ref f)
 kp:iS K (.ref f)=true
 b:lI K fd ps []
structure e_(P:aU)(w:bz)(K:aO)(mg:Str->Option ag)(base:bR)(k:Nat)(C:ai)(m:Str)(ps:List Str)(F:Fn)(f:ai)(fd:bA):Prop where
 ok:bH P w K mg base (dM P w) k f fd ps (fO ps.length F)
 cl:nj K C
 me:u5 K C m f
 b:lI K fd ps []
structure sx(P:aU)(w:bz)(K:aO)(mg:Str->Option ag)(base:bR)(k:Nat)(x:Str)(C:ai)(ps:List Str)(F:Fn)(f:ai)(fd:bA):Prop where
 ok:bH P w K mg base (dM P w) k f fd ps (fO ps.length F)
 m:mg x=aa (.ref C)
 HU:Mk K C f
 b:lI K fd ps []
noncomputable def fH(F:Fn)(ds:List T)(fr:DA):DE:=fun ρ=>(fr ρ).bind λts=>F (ts++ds)
noncomputable def i8(C:ai)(m:Str)(F:Fn)(ds:List T)(fo:DE)(fr:DA):DE:=fun ρ=>(fo ρ).bind λo=>λS=>match pD S C o with
 |some (_,fs)=>if(fs.lookup m).isNone=true then((fr ρ).bind λts=>F (o::(ts++ds))) S else .bad
 |none=>.bad
noncomputable def zp(C:ai)(F:Fn)(ds:List T)(fr:DA):DE:=fun ρ=>(fr ρ).bind λts=>λS=>M.bind (F (.obj S.length::(ts++ds))) (λt=>match t with
 |.bq=>M.pure (.obj S.length)
 |_=>M.bad) (S++[.ins C []])
theorem ER{P:aU}{w:bz}{X:Cx}:oG (dM P w) X E0:=λah σ H s e s' I h=>by
 obtain⟨_,_,_,_,_,_,_,_,_,_,_,_,_,_,_,_,_,_,_,z⟩:=h;exact z.elim
section
variable {X:Cx}{E:XK}{k:Nat}{f C:ai}{fd:bA}{ps:List Str}{F:Fn}{x m:Str}{p pos cC:Pos}{e o:bx}{es:List bx}{fo:DE}{fr:DA}{ds:List T}{jP:List V}{Si:List ag}
noncomputable def bt(n:Nat)(F:Fn):Fn:=λts S=>if ts.length=n then F ts S else .bad
theorem z4q(hd:∀W,aW W ds jP){σ:St}{H:Hp}{Q:VK}(h:RE E (fH (bt ps.length F) ds fr) σ H Q):Qb (fO ps.length F) jP E (RA E fr) σ H Q:=by
 obtain⟨W,S,ρ,rp,env,q⟩:=h;refine⟨W,S,ρ,rp,env,(bo.bind q).imp λts W1 S1 H1 l1 r1 p1 vs dv=>?_⟩;unfold bt at p1
 split at p1
 .rename_i z;exact⟨W1,S1,ts++ds,r1,dv.append (hd W1),z,p1⟩
 .exact p1.elim
theorem gz{n:Nat}(G:FnAt X.prog X.w X.K X.mg X.base k x ps F f fd)(hr:eL k X.A)(hg:Gl X x)(hx:oG (dM X.prog X.w) X E)(ha:PA X (e::es) (RA E fr))
  (kC:(x==("__debug__" : Str))=false:=by decide) (he:av (e::es) X.env=(false,eval e X.env)::av es X.env:=by rfl) (gX:(bL pos (av es X.env)).any (·.1)=false:=by rfl) (hn:ps.length=n:=by rfl):PE X (.Call (.Name x p) (e::es) [] pos) (RE E (fH (bt n F) [] fr)):=by
 subst hn;exact iT (Yv G.ok hr hg G.m G.kp G.b .nil hx ha kC he gX) fun σ H Q h=>z4q (λW=>aW.gj) h
theorem L0(hd:∀W,aW W ds jP){σ:St}{H:Hp}{Q:VK}(h:RE E (i8 C m (bt ps.length F) ds fo fr) σ H Q):Ku C m (fO ps.length F) jP E (RE E fo) (RA E fr) σ H Q:=by
 obtain⟨W,S,ρ,rp,env,q⟩:=h;refine⟨W,S,ρ,rp,env,(bo.bind q).imp λt W1 S1 H1 l1 r1 p1 v dv=>?_⟩;cases e:pD S1 C t with
 |none=>simp only[e] at p1;exact p1.elim
 | some q=>
   obtain⟨j,fs⟩:=q;simp only[e] at p1
   split at p1
   .rename_i hm
    obtain⟨dx,ks,rfl,h0,h1,h2⟩:=r1.inst dv e;refine⟨_,dx,ks,rfl,h1,h2.look.2 (Option.isNone_iff_eq_none.mp hm),W1,S1,ρ,r1,env.mono l1,(bo.bind p1).imp λts W2 S2 H2 l2 r2 p2 vs jP=>?_⟩;unfold bt at p2
    split at p2
    .rename_i z;exact⟨W2,S2,t::(ts++ds),r2,aW.dY (cD.mono l2 _ _ dv) (jP.append (hd W2)),z,p2⟩
    .exact p2.elim
   .exact p1.elim
theorem pG{n:Nat}{pl:Sem Bool}(G:e_ X.prog X.w X.K X.mg X.base k C m ps F f fd)(hr:eL k X.A)(hx:oG (dM X.prog X.w) X E)(ho:PE X o (RE E fo))(ha:PA X (e::es) (RA E fr))
  (eY:av (e::es) X.env=(false,eval e X.env)::av es X.env:=by rfl) (gX:(bL pos (av es X.env)).any (·.1)=false:=by rfl)
  (ht:eval (.Call (.Attribute o m cC) (e::es) [] pos) X.env=(do
   let ov <- eval o X.env
   ju cC.atName
   let (f,first) <- iA [ov] (gK ov m pl)
   i9 pos f first (bL pos (av (e::es) X.env)) (eG pos (cQ [] X.env))):=by rfl) (hn:ps.length=n:=by rfl):PE X (.Call (.Attribute o m cC) (e::es) [] pos) (RE E (i8 C m (bt n F) [] fo fr)):=by
 subst hn;exact iT (Qc ho G.cl G.me G.ok hr G.b .nil hx ha eY gX ht) fun σ H Q h=>L0 (λW=>aW.gj) h
theorem L1{n:Nat}{pl:Sem Bool}(G:e_ X.prog X.w X.K X.mg X.base k C m ps F f fd)(hr:eL k X.A)(hx:oG (dM X.prog X.w) X E)(hb:lI X.K fd ps Si)(hv:cj jP Si)(hd:∀W,aW W ds jP)(ho:PE X o (RE E fo))(ha:PA X (e::es) (RA E fr))
  (eY:av (e::es) X.env=(false,eval e X.env)::av es X.env:=by rfl) (gX:(bL pos (av es X.env)).any (·.1)=false:=by rfl)
  (ht:eval (.Call (.Attribute o m cC) (e::es) [] pos) X.env=(do
   let ov <- eval o X.env
   ju cC.atName
   let (f,first) <- iA [ov] (gK ov m pl)
   i9 pos f first (bL pos (av (e::es) X.env)) (eG pos (cQ [] X.env))):=by rfl) (hn:ps.length=n:=by rfl):PE X (.Call (.Attribute o m cC) (e::es) [] pos) (RE E (i8 C m (bt n F) ds fo fr)):=by
 subst hn;exact iT (Qc ho G.cl G.me G.ok hr hb hv hx ha eY gX ht) fun σ H Q h=>L0 hd h
theorem tU{n:Nat}{pl:Sem Bool}(G:e_ X.prog X.w X.K X.mg X.base k C m ps F f fd)(hr:eL k X.A)(hx:oG (dM X.prog X.w) X E)(ho:PE X o (RE E fo))
  (ht:eval (.Call (.Attribute o m cC) [] [] pos) X.env=(do
   let ov <- eval o X.env
   ju cC.atName
   let (f,first) <- iA [ov] (gK ov m pl)
   i9 pos f first (bL pos (av [] X.env)) (eG pos (cQ [] X.env))):=by rfl) (hn:ps.length=n:=by rfl):PE X (.Call (.Attribute o m cC) [] [] pos) (RE E (i8 C m (bt n F) [] fo aF)):=by
 subst hn;exact iT (Yw ho G.cl G.me G.ok hr G.b .nil hx ht) fun σ H Q h=>by
  have h:=L0 (λW=>aW.gj) h;obtain⟨W,S,ρ,rp,env,p⟩:=h;refine⟨W,S,ρ,rp,env,p.imp λt W1 S1 H1 l1 r1 p1 v dv=>?_⟩;obtain⟨a,dx,fs,e1,e2,e3,W2,S2,ρ2,r2,env2,p2⟩:=p1 v dv;exact⟨a,dx,fs,e1,e2,e3,p2 W2 _ (Wd.le.refl _) r2 [] aW.gj⟩
theorem Sj(hd:∀W,aW W ds jP){σ:St}{H:Hp}{Q:VK}(h:RE E (zp C (bt ps.length F) ds fr) σ H Q):Kv C (fO ps.length F) jP E (RA E fr) σ H Q:=by
 obtain⟨W,S,ρ,rp,env,q⟩:=h;refine⟨W,S,ρ,rp,env,(bo.bind q).imp λts W1 S1 H1 l1 r1 p1 vs dv a dx ha hdx mZ=>?_⟩;have keep:∀b u,H1 b=aa u->upd (upd H1 dx (.own a)) a (.ins C dx []) b=aa u:=λb u z=>by
  rw[dr (sQ z ha),dr (sQ z hdx)];exact z
 have r2:cV (W1.add a) (S1++[.ins C []]) (upd (upd H1 dx (.own a)) a (.ins C dx [])):=r1.qP ha keep (.ins C []) ⟨dx,[],gm,rfl⟩;have l2:W1.le (W1.add a):=Wd.jd;have da:cD (W1.add a) (.obj S1.length) (.ref a):=m3.mpr ⟨by rw[r1.len,Wd.hV],by rw[r1.len];exact dH _⟩;have p2:=bo.bind (Cr p1 l2);by_cases z:(T.obj S1.length::(ts++ds)).length=ps.length
 .have e:bt ps.length F (.obj S1.length::(ts++ds)) (S1++[.ins C []])=F (.obj S1.length::(ts++ds)) (S1++[.ins C []]):=if_pos z
  rw[e] at p2;refine⟨W1.add a,S1++[.ins C []],.obj S1.length::(ts++ds),r2,aW.dY da ((aW.mono l2 _ _ dv).append (hd _)),z,p2.imp λt W3 S3 H3 l3 r3 p4 v dv3=>?_⟩;cases t with
  |bq=>exact⟨nS.mp dv3,now p4 r3 (cD.mono l3 _ _ da)⟩
  |_=>exact p4.elim
 .have e:bt ps.length F (.obj S1.length::(ts++ds)) (S1++[.ins C []])=.bad:=if_neg z
  rw[e] at p2;exact p2.elim
theorem L3{n:Nat}(G:sx X.prog X.w X.K X.mg X.base k x C ps F f fd)(hr:eL (k+1) X.A)(hg:Gl X x)(hx:oG (dM X.prog X.w) X E)(ha:PA X (e::es) (RA E fr))
  (kC:(x==("__debug__" : Str))=false:=by decide) (he:av (e::es) X.env=(false,eval e X.env)::av es X.env:=by rfl) (gX:(bL pos (av es X.env)).any (·.1)=false:=by rfl) (hn:ps.length=n:=by rfl):PE X (.Call (.Name x p) (e::es) [] pos) (RE E (zp C (bt n F) [] fr)):=by
 subst hn;exact iT (Yx G.HU G.ok hr hg G.m G.b .nil hx ha kC he gX) fun σ H Q h=>Sj (λW=>aW.gj) h
theorem z8n{n:Nat}(G:sx X.prog X.w X.K X.mg X.base k x C ps F f fd)(hr:eL (k+1) X.A)(hg:Gl X x)(hx:oG (dM X.prog X.w) X E)
  (kC:(x==("__debug__" : Str))=false:=by decide) (hn:ps.length=n:=by rfl):PE X (.Call (.Name x p) [] [] pos) (RE E (zp C (bt n F) [] aF)):=by
 subst hn;exact iT (Yy G.HU G.ok hr hg G.m G.b .nil hx kC) fun σ H Q h=>by
  have h:=Sj (λW=>aW.gj) h;obtain⟨W,S,ρ,rp,env,p⟩:=h;exact p W H (Wd.le.refl _) rp [] aW.gj
theorem Zby{i:Int}{t:Tok}(hg:Gl X x)(hm:X.mg x=aa (.int i t))(hd:(x==("__debug__" : Str))=false:=by decide):PE X (.Name x p) (RE E (eC (.int i))):=
 iT (Xl (v:=.int i) hg hm ⟨t,rfl⟩ hd) fun σ H Q h=>vq (λW=>jF.mpr rfl) h
noncomputable def Zei(t:T):M T:=λS=>match t with
 |.str y=>if(cR y).length<=1000 then .ok (.str (cR y)) S else .bad
 |_=>.bad
noncomputable def jT:Str->List DE->DE
 |acc,[]=>λ_ S=>if acc.length<=1000 then .ok (.str acc) S else .bad
 | acc,f::fs=>fun ρ=>(f ρ).bind λt=>match t with
   |.str y=>(λS=>if(acc++y).length<=1000 then jT (acc++y) fs ρ S else .bad)
   |_=>M.bad
noncomputable def z8o(C:ai)(fr:DA):DS:=fun ρ=>(fr ρ).bind λts=>λS=>if ts.length<=1000 then .exc C ae S else .bad
noncomputable def vE(xs:List T)(lo hi:Option Int):List T:=(xs.drop (HT.pj xs.length 0 lo)).take (HT.pj xs.length xs.length hi-HT.pj xs.length 0 lo)
abbrev DO:=Ev->M (Option Int)
noncomputable def ux:DO:=λ_=>M.pure ae
noncomputable def uy(f:DE):DO:=fun ρ=>(f ρ).bind λt=>match t with
 |.int i=>M.pure (aa i)
 |_=>M.bad
noncomputable def uz(f:DE)(lo hi:DO):DE:=fun ρ=>(f ρ).bind λt=>(lo ρ).bind λl=>(hi ρ).bind λh=>λS=>match c6 S t with
 |some ts=>.ok (.lst (vE ts l h)) S
 |none=>.bad
def RO(E:XK)(f:DO):TO:=fun σ H Q=>∃W S ρ,cV W S H/\gv W ρ σ/\bo E W (λo _ _ H'=>Q o H') (f ρ S)
theorem Sk{a:Option bx}{t t':TO}(h:PO X a t)(w:∀σ H Q,t' σ H Q->t σ H Q):PO X a t':=λah s σ H Q I q=>h ah s σ H Q I (w σ H Q q)
theorem L4:PO X ae (RO E ux):=Sk YZ fun σ H Q h=>by
 obtain⟨W,S,ρ,rp,env,p⟩:=h;exact p W H (Wd.le.refl _) rp
theorem L5(h:PE X e (RE E fo)):PO X (aa e) (RO E (uy fo)):=Sk (Y0 h) fun σ H Q h=>by
 obtain⟨W,S,ρ,rp,env,p⟩:=h;refine⟨W,S,ρ,rp,env,(bo.bind p).imp λt W1 S1 H1 l1 r1 p1 v dv=>?_⟩;cases t with
 |int i=>exact⟨i,jF.mp dv,p1 W1 H1 (Wd.le.refl _) r1⟩
 |_=>exact p1.elim
theorem L6{lo hi:Option bx}{p2:Pos}{fl fh:DO}(he:PE X e (RE E fo))(hl:PO X lo (RO E fl))(hh:PO X hi (RO E fh)):PE X (.Subscript e (.Slice lo hi ae p2) pos) (RE E (uz fo fl fh)):=
 iT (Y2 Zb he hl hh) fun σ H Q h=>by
  obtain⟨W,S,ρ,rp,env,p⟩:=h;refine⟨W,S,ρ,rp,env,(bo.bind p).imp λt W1 S1 H1 l1 r1 p1 v dv=>?_⟩;refine⟨W1,S1,ρ,r1,env.mono l1,(bo.bind p1).imp λl W2 S2 H2 l2 r2 p2=>?_⟩;refine⟨W2,S2,ρ,r2,env.mono (l1.trans l2),(bo.bind p2).imp λu W3 S3 H3 l3 r3 p3=>?_⟩;cases e:c6 S3 t with
  |none=>simp only[e] at p3;exact p3.elim
  | some ts=>
    simp only[e] at p3;obtain⟨a,vs,rfl,h1,h2⟩:=r3.list (cD.mono (l2.trans l3) _ _ dv) e;refine⟨a,vs,rfl,.inl h1,Hy p3 r3 ?_⟩;unfold vE u7;rw[h2.length];exact(h2.drop _).take _
end
end MF
namespace L2
open PySem PySem.Spec PyProof.Rows
noncomputable def Sl(K:W.Frag)(a:ai)(n:Nat):It:=
 ⟨λi H=>∃xs x,lH K H a xs/\xs.length=n/\i<n/\xs[n-1-i]?=aa x,λi H x H'=>H'=H/\∀xs,lH K H a xs->xs[n-1-i]?=aa x,λi H=>i=n⟩
theorem z4r{P:aU}{w:bz}{K:W.Frag}{tg:bx}(a it:ai)(n:Nat):pf P w K tg (Sl K a n) [it] it (λi h=>h.IsRevIter it a ((n:Int)-1-(i:Int))) where
 mem:=by simp
 obj:=λi h st b hb=>by
  have e:b=it:=by simpa using hb
  subst e;obtain⟨o,e,c,d⟩:=st;exact⟨o,e,λv z=>by rw[d] at z;cases z⟩
 keep:=λi h h' st k=>st.at λo e=>k it (by simp) o e
 item:=by
  intro X hP hw hK hc i ah s σ H E I hf st hg;subst hP hw hK;obtain⟨xs,x,hq,hn,hi,hx⟩:=hg;obtain⟨cy,rv,p,hz⟩:=I.list hq;obtain⟨u,hu,ru⟩:=rv.get hx;obtain⟨f0,f1,f2,f3,f4,f5⟩:=hf it (by simp);have e0:(n:Int)-1-(i:Int)=((n-1-i:Nat):Int):=by omega
  have uo:=st;rw[e0] at uo;refine wpAny_pyNext_rev_item uo p.isList (x:=u) (by simpa using hu) λh' w8 sb=>?_;have e1:((n-1-i:Nat):Int)-1=(n:Int)-1-((i+1:Nat):Int):=by omega
  rw[e1] at w8;have I1:Inv X ah σ H { s with heap:=h' }:=I.turned (t':=s.toks) (λb o hb e=>(sb.2 b hb).trans e) f0 f1 f3 f4 f5;obtain⟨o,e,c,d⟩:=id w8;exact⟨u,rfl,Kd (s:={ s with heap:=h' }) e c d (by decide) ⟨x,H,I1,ru,⟨rfl,λys hy=>by rw[I.qF hy hq];exact hx⟩,w8,λb hb=>(hf b hb).1⟩⟩
 done:=by
  intro X hP hw hK hc i ah s σ H E I hf st hg;subst hP hw hK;have hg:i=n:=hg;subst hg;obtain⟨f0,f1,f2,f3,f4,f5⟩:=hf it (by simp);have e0:(i:Int)-1-(i:Int) = -1:=by omega
  rw[e0] at st;exact wpAny_pyNext_rev_end (I.ok.hd hc) st λh' eb=>⟨rfl,I.turned (t':=s.toks) (λb o hb e=>eb b o hb e) f0 f1 f3 f4 f5⟩
 self:=λ_ _ _ _ _ st h=>yO st h
def Sn(K:W.Frag)(ta:TA):TI:=fun σ H R=>ta σ H λvs H1=>∃a xs,vs=[.ref a]/\lH K H1 a xs/\R (Sl K a xs.length) H1
theorem L7:dA "reversed" = aa (.type "reversed"):=by decide +kernel
theorem Zb1{X:Cx}{tg a:bx}{ta:TA}{p pos:Pos}(hg:Gl X "reversed")(hm:X.mg "reversed" = ae)(ha:PA X [a] ta)(hs:av [a] X.env=[(false,eval a X.env)]:=by rfl):PI X tg (.Call (.Name "reversed" p) [a] [] pos) (Sn X.K ta):=by
 intro ah s σ H R I h;refine Call_ (Ac I hg hm L7 (h_ (dF (ha pos ah s σ H _ I h) λus s1 cN=>?_) hs rfl));obtain⟨vs,H1,I1,r1,q1⟩:=cN;obtain⟨b,xs,e,hq,q⟩:=q1;subst e;cases r1 with
 | cons r rr=>
   cases rr;cases r;obtain⟨cy,rv,pl,hz⟩:=I1.list hq;have cX:=rv.length;refine call_reversed_list pl.isList ?_;refine yO (it:=s1.heap.objs.size) (l:=b) (i:=(cy.toArray.size:Int)-1) ⟨_,bg _ rfl,rfl,rfl⟩ ?_;refine⟨s1.heap.objs.size,[s1.heap.objs.size],_,_,H1,rfl,I1.kept (t':=s1.toks) λb o e=>ax _ e,z4r b _ xs.length,?_,λc hb=>?_,q⟩
   .refine⟨_,bg _ rfl,rfl,?_⟩
    show s_ #[.ref b,rawInt ((cy.toArray.size:Int)-1)]=s_ #[.ref b,rawInt ((xs.length:Int)-1-((0:Nat):Int))];rw[show((cy.toArray.size:Int)-1)=(xs.length:Int)-1-((0:Nat):Int) by rw[aI];omega]
   .have e:c=s1.heap.objs.size:=by simpa using hb
    subst e;exact I1.u0 (aB _) (I1.cI.fresh (aB _))
end L2
namespace MF
open PySem L2
theorem HV{i:Nat}:∀u:V,([]:St)[i]?≠aa (aa u):=λu h=>nomatch (show(ae:Option (Option V))=aa (aa u) from h)
theorem L8:cj [V.bq] [fE]:=.cons rfl .nil
theorem z1n:cj [V.bq,V.bq] [fE,fE]:=.cons rfl L8
theorem z1o:cj [V.bq,V.bq,V.bq] [fE,fE,fE]:=.cons rfl z1n
theorem L9(W:Wd):aW W [T.bq] [V.bq]:=aW.dY (nS.mpr rfl) aW.gj
theorem z1p(W:Wd):aW W [T.bq,T.bq] [V.bq,V.bq]:=aW.dY (nS.mpr rfl) (L9 W)
theorem z1q(W:Wd):aW W [T.bq,T.bq,T.bq] [V.bq,V.bq,V.bq]:=aW.dY (nS.mpr rfl) (z1p W)
structure Cl where
 hall:ai
 place:ai
 piece:ai
 run:ai
 hallError:ai
 nameThere:ai
 noPlace:ai
 noPiece:ai
 tooMany:ai
 noAnswer:ai
 ring:ai
 barred:ai
 deedFault:ai
section
variable {X:Cx}{E:XK}{a b c e o:bx}{es:List bx}{fa fb fc fo:DE}{fr:DA}{pos p:Pos}{x:Str}
theorem So{i:Int}(hg:Gl X x)(hm:∃t,X.mg x=aa (.int i t))(hd:(x==("__debug__" : Str))=false:=by decide):PE X (.Name x p) (RE E (eC (.int i))):=by
 obtain⟨t,hm⟩:=hm;exact Zby hg hm hd
noncomputable def xB(f:DA):DI:=fun ρ=>(f ρ).bind λas=>λS=>match as with
 | [t]=>(match c6 S t with
   |some ts=>.ok (ts.reverse,λS'=>c6 S' t=aa ts) S
   |none=>.bad)
 |_=>.bad
theorem Zb2(K:aO):RI E (xB fr) (Sn K (RA E fr)):=fun σ H R h=>by
 obtain⟨W,S,ρ,rp,env,p⟩:=h;refine⟨W,S,ρ,rp,env,(bo.bind p).imp λas W1 S1 H1 l1 r1 p1 vs dv=>?_⟩
 split at p1
 .rename_i t
  cases e:c6 S1 t with
  |none=>simp only[e] at p1;exact p1.elim
  | some ts=>
    simp only[e] at p1;obtain⟨v,rfl,d1⟩:=xx dv;obtain⟨a,us,rfl,h1,h2⟩:=r1.list d1 e;have hn:=h2.length;refine⟨a,us,rfl,.inl h1,p1 W1 H1 (Wd.le.refl _) r1 _ W1 H1 (Wd.le.refl _) r1 ⟨λi W' S' H' l r' st hi=>?_,λi W' S' H' l r' st hi=>?_⟩⟩
    .obtain⟨a',zs,ea,g1,g2⟩:=r'.list (cD.mono l _ _ d1) st
     cases ea;have hz:=g2.length;have hi:i<ts.reverse.length:=hi;rw[uk] at hi;have hj:us.length-1-i<zs.length:=by omega
     refine⟨⟨zs,zs[us.length-1-i],.inl g1,by omega,by omega,a_ hj⟩,λx oJ y=>?_⟩;obtain⟨rfl,y⟩:=y;have ex:=y zs (.inl g1);obtain⟨t',e1,d2⟩:=g2.get' ex;refine⟨W',t',Wd.le.refl _,r',?_,d2⟩;show ts.reverse[i]?=aa t';rw[List.getElem?_reverse (by omega),<- e1];congr 1;omega
    .have hi:i=ts.reverse.length:=hi
     rw[uk] at hi;exact hi.trans hn
 .exact p1.elim
noncomputable def sy(x:T)(ts:List T):Option Nat:=match toV x,ts.mapM toV with
 |some u,aa vs=>if(nO u&&vs.all nO)=true then vs.findIdx? (λy=>qG y u) else ae
 |_,_=>ae
noncomputable def Ze7(t:T)(as:List T):M T:=λS=>match c6 S t,as with
 | some ts,[y]=>(match sy y ts with
   |some j=>if ts.length<=1000 then .ok (.int j) S else .bad
   |none=>.bad)
 |_,_=>.bad
noncomputable def AY(t:T)(as:List T):M T:=λS=>match gw S t,as with
 | some (k,ts),[y]=>(match sy y ts with
   |some j=>if ts.length<=1000 then .ok .bq (S.set k (.lst (ts.eraseIdx j))) else .bad
   |none=>.bad)
 |_,_=>.bad
theorem z8p{W:Wd}{x:T}{ts:List T}{v:V}{vs:List V}{j:Nat}(d:cD W x v)(ds:aW W ts vs)(e:sy x ts=aa j) :
  nO v=true/\vs.all nO=true/\(∃z,vs[j]?=aa z/\qG z v=true)/\(∀i z,i<j->vs[i]?=aa z->qG z v=false):=by
 unfold sy at e;cases e1:toV x with
 |none=>simp[e1] at e
 | some u=>
   cases e2:ts.mapM toV with
   |none=>simp[e1,e2] at e
   | some us=>
     simp only[e1,e2] at e
     split at e
     .rename_i hf
      rw[cG] at hf;have q1:=Ez d e1;have q2:=Lx ds e2;subst q1 q2;rw[List.findIdx?_eq_some_iff_getElem] at e;obtain⟨hj,h1,h2⟩:=e;refine⟨hf.1,hf.2,⟨vs[j],a_ hj,h1⟩,λi z hi hz=>?_⟩;have hil:i<vs.length:=Gn hi hj;rw[a_ hil] at hz;cases hz;have:=h2 i hi;simpa using this
     .cases e
def Sq:V->List V->Hp->VK->Prop:=λx vs H Q=>∃l xs y j,x=.ref l/\vs=[y]/\H l=aa (.lst xs)/\nO y=true/\xs.all nO=true/\xs.length<=1000/\(∃z,xs[j]?=aa z/\qG z y=true)/\(∀i z,i<j->xs[i]?=aa z->qG z y=false)/\Q .bq (upd H l (.lst (xs.eraseIdx j)))
theorem z1s{y x:V}{u v:ag}(ry:RelV y u)(rx:RelV x v)(fy:nO y=true)(fx:nO x=true):Dx u v (qG y x):=λprog w A E s Q h=>QC (A:=A) (s:=s) ry rx fy fx prog w E Q h
theorem z1t:Aq X "list.remove" Sq:=by
 intro ah s σ H x vs v us Q I rx rv h;obtain⟨l,xs,y,j,rfl,rfl,hH,fy,fx,ES,⟨z,hj,hz⟩,hno,q⟩:=h;cases rx;obtain⟨u,rfl,ru⟩:=rv.one;obtain⟨zz,cy,n,r,hl,e⟩:=I.u_ hH;have L_:j<cy.length:=by rw[<- hl];exact(aw.mp hj).1
 have ea:∀i (hi:i<cy.length),∃x',xs[i]?=aa x'/\RelV x' cy[i]:=λi hi=>cj.at r (by rw[a_ hi]);refine oj F.slot_list_remove ⟨_,e,rfl⟩ F.entry_list_remove (F.args_list_remove_2 _ _) (MeetsSeq.list_remove l cy.toArray n u (wF y) ?_ j (by simpa using L_) ?_ ?_ (by rw[aI];omega)) ⟨e,?_⟩
 .intro w' hw
  have hw':w'∈cy:=by simpa using hw
  obtain⟨i,hi,rfl⟩:=lE hw';obtain⟨x',h1,h2⟩:=ea i hi;rw[D_ h2 (Hl fx h1)];exact z1s h2 ru (Hl fx h1) fy
 .obtain⟨x',h1,h2⟩:=ea j L_
  rw[hj] at h1;cases h1;have:cy.toArray[j]'(by simpa using L_)=cy[j]:=by simp
  rw[this,D_ h2 (Hl fx hj)];exact hz
 .intro m hm hmj
  have rX:m<cy.length:=by simpa using hm
  obtain⟨x',h1,h2⟩:=ea m rX;have:cy.toArray[m]'hm=cy[m]:=by simp
  rw[this,D_ h2 (Hl fx h1)];exact hno m x' hmj h1
 .refine⟨.bq,_,I.u9 (t':=s.toks) (its':=cy.eraseIdx j) hH e ?_ (r.eraseIdx j) ?_,rfl,q⟩
  .show cy.toArray.eraseIdxIfInBounds j=(cy.eraseIdx j).toArray
   rw[m9]
  .have:=KN xs j
   omega
theorem z1u:GM E Sq AY:=by
 intro t as W S H v vs Q r d da p;unfold AY at p
 split at p
 .rename_i k ts y e
  cases e2:sy y ts with
  |none=>simp only[e2] at p;exact p.elim
  | some j=>
    simp only[e2] at p
    split at p
    .rename_i hl
     obtain⟨us,rfl,h0,h1,h2⟩:=r.gw d e;obtain⟨w,rfl,dw⟩:=xx da;obtain⟨g1,g2,g3,g4⟩:=z8p dw h2 e2;exact⟨_,us,w,j,rfl,rfl,h1,g1,g2,by rw[<- h2.length];exact hl,g3,g4,p W _ (Wd.le.refl _) (r.cellSet h0 _ _ ⟨_,gm,h2.eraseIdx _⟩) _ (nS.mpr rfl)⟩
    .exact p.elim
 .exact p.elim
theorem Sr{cC:Pos}(ho:PE X o (RE E fo))(ha:PA X [e] (RA E fr))(fB:cm o "remove" X.env (eval o X.env)=eval o X.env:=by rfl)
  (fC:(cC.endLine==pos.line)=true:=by rfl) (hs:av [e] X.env=(false,eval e X.env)::av [] X.env:=by rfl)
  (mw:((bL pos (av [e] X.env)).all (λx=>!x.1)&&(eG pos (cQ [] X.env)).all (λx=>x.1.isSome)&&decide ([e].length+([]:List gs).length+(if([]:List gs).isEmpty then 0 else 1)<30))=true:=by rfl):PE X (.Call (.Attribute o "remove" cC) [e] [] pos) (RE E (kz kF AY fo fr)):=
 vz eT PySem.F.slot_list_remove PySem.F.type_list_remove z1t EH z1u ho ha fB mw fC hs rfl
end
variable {S:bG}{ρ:Ev}
@[simp]theorem eR{α β:Type}(m:M α)(f:α->M β):M.bind m f S=(match m S with|.ok a S'=>f a S' | .exc C fs S'=>.exc C fs S' | .bad=>.bad):=rfl
@[simp]theorem L'{α:Type}(a:α):M.pure a S=.ok a S:=rfl
@[simp]theorem Zf1{α:Type}:(M.bad:M α) S=.bad:=rfl
@[simp] theorem wK (i:Nat):af i ρ S=(match ρ[i]? with|some (aa t)=>.ok t S | _=>.bad):=by
  unfold af
  split<;>simp_all
@[simp]theorem HW(t:T):eC t ρ S=.ok t S:=rfl
@[simp]theorem vF(g:T->T->M T)(a b:DE):e2 g a b ρ S=(a ρ).bind (λx=>(b ρ).bind λy=>g x y) S:=rfl
@[simp]theorem AZ(g:T->M T)(a:DE):e1 g a ρ S=(a ρ).bind g S:=rfl
@[simp]theorem Ze8:aF ρ S=.ok [] S:=rfl
@[simp]theorem z8q(a:DE)(r:DA):aP a r ρ S=(a ρ).bind (λt=>(r ρ).bind λts=>M.pure (t::ts)) S:=rfl
@[simp]theorem x_eA(g:List T->M T)(f:DA):eA g f ρ S=(f ρ).bind g S:=rfl
@[simp]theorem x_gI(f:Int->Int->Option T)(i j:Int):gI f (.int i) (.int j) S=(match f i j with|some t=>.ok t S | none=>.bad):=rfl
@[simp]theorem Ze9(i j:Int):vt i j=aa (.int (i-j)):=rfl
@[simp]theorem Zf2(i j:Int):Lr i j=aa (.bl (decide (i<j))):=rfl
@[simp]theorem Zf3(i j:Int):Hv i j=aa (.bl (decide (j<i))):=rfl
@[simp]theorem Zf4(i j:Int):Hw i j=aa (.bl (decide (j<=i))):=rfl
@[simp]theorem Zfa(i j:Int):pA i j=(if(-(2 ^ 64)<i/\i<2 ^ 64)\/(-(2 ^ 64)<j/\j<2 ^ 64) then aa (.int (i*j)) else ae):=rfl
@[simp]theorem Zfb(i j:Int):jH i j=(if 0<j/\j<1073741824 then aa (.int (i / j)) else ae):=rfl
@[simp]theorem Zfc(i j:Int):fZ i j=(if 0<j then aa (.int (i%j)) else ae):=rfl
@[simp]theorem Zfd(i j:Int):vv i j=(if 0<=j/\j<=1000/\i.natAbs<2 ^ 64 then aa (.int (i ^ j.toNat)) else ae):=rfl
@[simp]theorem Zfe(i j:Int):fT (.int i) (.int j) S=.ok (.int (i+j)) S:=rfl
@[simp]theorem Zff(i j:Str):fT (.str i) (.str j) S=(if i.length+j.length<=1000 then .ok (.str (i++j)) S else .bad):=rfl
@[simp]theorem Zb3(xs ys:List T):fT (.lst xs) (.lst ys) S=(if xs.length+ys.length<=1000 then .ok (.lst (xs++ys)) S else .bad):=rfl
@[simp] theorem Zf5 (i j:Int):fD (.int i) (.int j) S=.ok (.bl (decide (i=j))) S:=by
  simp[fD,tO,toV,ph]
@[simp] theorem Zf6 (i j:Str):fD (.str i) (.str j) S=.ok (.bl (decide (i=j))) S:=by
  simp[fD,tO,toV,ph]
@[simp] theorem Zf7 (i j:Bool):fD (.bl i) (.bl j) S=.ok (.bl (decide (i=j))) S:=by
  simp[fD,tO,toV,ph]
@[simp] theorem Zf8 (i j:Int):oz (.int i) (.int j) S=.ok (.bl (!decide (i=j))) S:=by
  simp[oz,tO,toV,ph]
@[simp] theorem Zf9 (i j:Str):oz (.str i) (.str j) S=.ok (.bl (!decide (i=j))) S:=by
  simp[oz,tO,toV,ph]
@[simp]theorem Ss(b:Bool):Ly (.bl b) S=.ok b S:=rfl
@[simp]theorem Zfg(b:Bool):nW (.bl b) S=.ok b S:=rfl
@[simp]theorem Zfh(ts:List T):nW (.lst ts) S=.ok (!ts.isEmpty) S:=rfl
@[simp]theorem Su(f:DE):dN f ρ S=(f ρ).bind Ly S:=rfl
@[simp]theorem Zga(f:DE):nA f ρ S=(f ρ).bind nW S:=rfl
@[simp]theorem Zgb(f g:DT):vw f g ρ S=(f ρ).bind (λc=>if c=true then g ρ else M.pure false) S:=rfl
@[simp]theorem x_or(f g:DT):lO f g ρ S=(f ρ).bind (λc=>if c=true then M.pure true else g ρ) S:=rfl
@[simp]theorem Zgc(f:DT):si f ρ S=(f ρ).bind (λc=>M.pure (!c)) S:=rfl
@[simp]theorem Zfi(f:DE):xw f ρ S=(f ρ).bind (λx=>(nW x).bind λb=>M.pure (.bl (!b))) S:=rfl
@[simp]theorem Zgd(c:DT)(f g:DE):LB c f g ρ S=(c ρ).bind (λb=>if b=true then f ρ else g ρ) S:=rfl
@[simp]theorem Zfj(ts:List T):fN ts S=(if ts.length<=1000 then .ok (.lst ts) S else .bad):=rfl
@[simp]theorem Zfk(ts:List T):jg ts S=(if ts.length<=1000 then .ok (.obj S.length) (S++[.lst ts]) else .bad):=rfl
@[simp]theorem Zfl(ts:List T):f_ ts S=(if ts.length<=1000 then .ok (.tup ts) S else .bad):=rfl
@[simp]theorem z8r:Co ρ S=.ok (.obj S.length) (S++[.dic []]):=rfl
@[simp]theorem x_nx:gp ρ S=.ok (.nx ρ) S:=rfl
@[simp]theorem Sw(f g:DS):aR f g ρ S=(f ρ).bind (λx=>match x with|.nx ρ'=>g ρ' | o=>M.pure o) S:=rfl
@[simp]theorem Zej(f:DE):b_ f ρ S=(f ρ).bind (λt=>M.pure (.rt t)) S:=rfl
@[simp]theorem Zfm:LM ρ S=.ok (.rt .bq) S:=rfl
@[simp]theorem Zfn(f:DE):ic f ρ S=(f ρ).bind (λ_=>M.pure (.nx ρ)) S:=rfl
@[simp]theorem Zek(i:Nat)(f:DE):cE i f ρ S=(f ρ).bind (λt=>M.pure (.nx (ρ.set i (aa t)))) S:=rfl
@[simp]theorem A3(c:DT)(f g:DS):eV c f g ρ S=(c ρ).bind (λb=>if b=true then f ρ else g ρ) S:=rfl
@[simp] theorem Sx (n:Nat) (d:DS) (ts:List T):cH n d ts S=(match d (ts.map aa++aQ (n-ts.length) ae) S with
  |.ok (.rt t) S'=>.ok t S' | .ok (.nx _) S'=>.ok .bq S' | .ok _ _=>.bad | .exc C fs S'=>.exc C fs S' | .bad=>.bad):=by
  unfold cH;rw[eR]
  split<;>simp_all
  rename_i x _ _;cases x<;>rfl
@[simp]theorem Zb6(F:Fn)(ds:List T)(fr:DA):fH F ds fr ρ S=(fr ρ).bind (λts=>F (ts++ds)) S:=rfl
@[simp]theorem Zel(n:Nat)(F:Fn)(ts:List T):bt n F ts S=(if ts.length=n then F ts S else .bad):=rfl
@[simp]theorem Zfo(ts:List T):jV S (.lst ts)=aa ts:=rfl
@[simp]theorem Zfp(ts:List T):jV S (.tup ts)=aa ts:=rfl
@[simp]theorem Ma(ts:List T):c6 S (.lst ts)=aa ts:=rfl
@[simp]theorem Zfq(ts:List T):hW (.lst ts) S=.ok (.int ts.length) S:=rfl
@[simp]theorem Zem(ts:List T)(i:Int):cv (.lst ts) (.int i) S=(match kD ts i with|some t=>.ok t S | none=>.bad):=rfl
@[simp]theorem Zge(ts:List T)(i:Int):cv (.tup ts) (.int i) S=(match kD ts i with|some t=>.ok t S | none=>.bad):=rfl
@[simp]theorem Zgf(z:Str)(i:Int):cv (.str z) (.int i) S=(if z.length<=1000 then(match kD z.cps.toList i with|some c=>.ok (.str ⟨#[c]⟩) S | none=>.bad) else .bad):=rfl
@[simp] theorem Zgg {α:Type} (a:α) (r:List α):kD (a::r) 0=aa a:=by
  have:(0:Int)=((0:Nat):Int):=rfl;rw[this];exact Ap rfl
@[simp] theorem Zgh {α:Type} (a b:α) (r:List α):kD (a::b::r) 1=aa b:=by
  have:(1:Int)=((1:Nat):Int):=rfl;rw[this];exact Ap rfl
@[simp] theorem Zgi {α:Type} (a b d:α) (r:List α):kD (a::b::d::r) 2=aa d:=by
  have:(2:Int)=((2:Nat):Int):=rfl;rw[this];exact Ap rfl
@[simp] theorem Zgj {α:Type} (a b d e:α) (r:List α):kD (a::b::d::e::r) 3=aa e:=by
  have:(3:Int)=((3:Nat):Int):=rfl;rw[this];exact Ap rfl
@[simp] theorem Zgk {α:Type} (a b d e f:α) (r:List α):kD (a::b::d::e::f::r) 4=aa f:=by
  have:(4:Int)=((4:Nat):Int):=rfl;rw[this];exact Ap rfl
theorem Mb{α:Type}{ts:List α}{i:Int}(h0:0<=i)(h1:i<ts.length):kD ts i=ts[i.toNat]?:=by
 obtain⟨j,rfl⟩:=Int.eq_ofNat_of_zero_le h0;have hl:j<ts.length:=by omega
 have:=Ap (j:=j) (v:=ts[j]) (a_ hl);rw[this,m_,a_ hl]
variable {S:bG}{ρ:Ev}
@[simp]theorem Sy{α:Type}{p:Prop}[Decidable p](m n:M α):(if p then m else n) S=if p then m S else n S:=by split<;>rfl
@[simp]theorem A4(f:DE):iL f ρ S=(f ρ).bind (λt=>λS=>match c6 S t with|some ts=>.ok (ts,λS'=>c6 S' t=aa ts) S | none=>.bad) S:=rfl
@[simp]theorem Sz(f:DA):vB f ρ S=(f ρ).bind (λts=>λS=>match ts with|[.int j]=>if -1000000<=j/\j<=1000000 then .ok (qi 0 j.toNat,λ(_:bG)=>True) S else .bad | _=>.bad) S:=rfl
@[simp]theorem Zfr(f:DA):xB f ρ S=(f ρ).bind (λas=>λS=>match as with|[t]=>(match c6 S t with|some ts=>.ok (ts.reverse,λS'=>c6 S' t=aa ts) S | none=>.bad) | _=>.bad) S:=rfl
theorem SA{st:bG->Prop}{g:DG}{body:DS}(Inv:List T->Ev->bG->Prop):∀(ts pre:List T) (ρ:Ev) (S:bG),Inv pre ρ S ->
  (∀A5 t post ρ S,pre++ts=A5++t::post->Inv A5 ρ S->st S/\∃ρ1,g t ρ=aa ρ1/\∃ρ2 S2,body ρ1 S=.ok (.nx ρ2) S2/\Inv (A5++[t]) ρ2 S2)->(∀ρ S,Inv (pre++ts) ρ S->st S) ->
  ∃ρ' S',d9 st g body ts ρ S=.ok (.nx ρ') S'/\Inv (pre++ts) ρ' S'
 | [],pre,ρ,S,h,_,he=>by
   rw[cW] at he ⊢;refine⟨ρ,S,?_,h⟩;unfold d9;rw[if_pos (he ρ S h)]
 | t::ts,pre,ρ,S,h,hs,he=>by
   obtain⟨eY,ρ1,e1,ρ2,S2,e2,h2⟩:=hs pre t ts ρ S rfl h;have e:pre++t::ts=(pre++[t])++ts:=by simp
   obtain⟨ρ',S',e3,h3⟩:=SA Inv ts (pre++[t]) ρ2 S2 h2 (by rw[<- e];exact hs) (by rw[<- e];exact he);refine⟨ρ',S',?_,by rw[e];exact h3⟩;unfold d9;rw[if_pos eY,e1];simp only[eR,e2];exact e3
theorem Cv{it:DI}{g:DG}{body:DS}{ts:List T}{st:bG->Prop}{S1:bG}(Inv:List T->Ev->bG->Prop)(pH:it ρ S=.ok (ts,st) S1)(h0:Inv [] ρ S1)
  (hs:∀pre t post ρ S,ts=pre++t::post->Inv pre ρ S->st S/\∃ρ1,g t ρ=aa ρ1/\∃ρ2 S2,body ρ1 S=.ok (.nx ρ2) S2/\Inv (pre++[t]) ρ2 S2) (he:∀ρ S,Inv ts ρ S->st S) :
  ∃ρ' S',eW it g body ρ S=.ok (.nx ρ') S'/\Inv ts ρ' S':=by
 obtain⟨ρ',S',e,h⟩:=SA (st:=st) (g:=g) (body:=body) Inv ts [] ρ S1 h0 hs he;refine⟨ρ',S',?_,h⟩;unfold eW;simp only[eR,pH];exact e
theorem Mc{st:bG->Prop}{tc:DT}{te:DE}{caps:Ev}{p:T->Bool}{f:T->T}(eY:st S):∀(ts:List T) (o:Option T) (acc:List T),acc.length+ts.length<=1000->(∀t∈ts,tc (aa t::caps) S=.ok (p t) S)->(∀t∈ts,p t=true->te (aa t::caps) S=.ok (f t) S) ->
  nX st (eM 0) tc te ts (o::caps) acc S=.ok (acc++(ts.filter p).map f) S
 | [],o,acc,_,_,_=>by
   unfold nX;rw[if_pos eY];simp
 | t :: ts,o,acc,hl,hc,he=>by
   have ih:=λacc h=>Mc (tc:=tc) (te:=te) eY ts (aa t) acc h (λu hu=>hc u (ao _ hu)) (λu hu=>he u (ao _ hu));have h1:=hc t (az ..);rw[aY] at hl;unfold nX;rw[if_pos eY];show(M.bind (tc (aa t::caps)) _) S=_;rw[eR,h1];cases e:p t with
   | false=>
     have:=ih acc (by omega);simpa[e] using this
   | true=>
     have h2:=he t (az ..) e;have:=ih (acc++[f t]) (by rw[aM,aV];omega);have rB:acc.length<1000:=by omega
     simp only[if_true,eR,h2,Sy,rB];simpa[e,h2] using this
theorem A6{js:List Nat}{it:DI}{tc:DT}{te:DE}{ts:List T}{st:bG->Prop}{p:T->Bool}{f:T->T}(pH:it ρ S=.ok (ts,st) S)(eY:st S)(hl:ts.length<=1000)
  (hc:∀t∈ts,tc (aa t::js.map λj=>(ρ[j]?).join) S=.ok (p t) S) (he:∀t∈ts,p t=true->te (aa t::js.map λj=>(ρ[j]?).join) S=.ok (f t) S) :
  k_ 1 js it (eM 0) tc te iu ρ S=.ok (.lst ((ts.filter p).map f)) S:=by
 unfold k_;rw[eR,pH];show(M.bind (rC _) iu) S=_;rw[eR];have:=Mc (tc:=tc) (te:=te) (caps:=js.map λj=>(ρ[j]?).join) eY ts ae [] (by simpa using hl) hc he;have e2:rC (nX st (eM 0) tc te ts (aQ 1 ae++js.map λj=>(ρ[j]?).join) []) S=.ok ((ts.filter p).map f) S:=by
  unfold rC;rw[show(aQ 1 (ae:Option T)++js.map λj=>(ρ[j]?).join)=ae::js.map λj=>(ρ[j]?).join from rfl,this];rfl
 simp only[e2];rfl
theorem Md{js:List Nat}{it:DI}{te:DE}{ts:List T}{st:bG->Prop}{f:T->T}(pH:it ρ S=.ok (ts,st) S)(eY:st S)(hl:ts.length<=1000)
  (he:∀t∈ts,te (aa t::js.map λj=>(ρ[j]?).join) S=.ok (f t) S) :
  k_ 1 js it (eM 0) kG te iu ρ S=.ok (.lst (ts.map f)) S:=by
 have:=A6 (tc:=kG) (p:=λ_=>true) pH eY hl (λ_ _=>rfl) (λt h _=>he t h);rwa[dS.mpr (λ_ _=>rfl)] at this
theorem Me{g:T->Option T}:∀{ts:List T},(∀t∈ts,g t=aa t)->iw g ts=aa ts
 |[],_=>rfl
 | t::ts,h=>by
   unfold iw;rw[h t (az ..),Me λu hu=>h u (ao _ hu)]
theorem Cw{S:bG}{n f:Nat}{t:T}(h:HB n t):fz S n f t=aa t:=by
 cases f<;>(unfold fz;rw[if_pos h])
theorem Mf{F:Fn}{ts us:List T}{S':bG}{k:Nat}(h:F ts S=.ok (.obj k) S')(hS:S'.take S.length=S)(hk:S.length<=k)(hc:S'[k]?=aa (.lst us))(hb:∀t∈us,HB S.length t):lg F ts S=.ok (.lst us) S:=by
 unfold lg;rw[h];simp only[if_pos hS];have e:fz S' S.length 6 (.obj k)=aa (.lst us):=by
  unfold fz;rw[if_neg (by simp only[HB];omega)];simp only[hc];rw[Me λt ht=>Cw (hb t ht)];rfl
 rw[e]
theorem HX{F:Fn}{ts:List T}{S':bG}{t:T}(h:F ts S=.ok t S')(hS:S'.take S.length=S)(hb:HB S.length t):lg F ts S=.ok t S:=by
 unfold lg;rw[h];simp only[if_pos hS];rw[Cw hb]
@[simp]theorem x_mt(ok:bG->T->Bool)(g:T->List T->M T)(fo:DE)(fr:DA):kz ok g fo fr ρ S=(fo ρ).bind (λt=>λS=>if ok S t=true then((fr ρ).bind λts=>g t ts) S else .bad) S:=rfl
theorem vG{k:Nat}{ts:List T}{y:T}(h:S[k]?=aa (.lst ts))(hl:ts.length<1000):kb (.obj k) [y] S=.ok .bq (S.set k (.lst (ts++[y]))):=by
 simp[kb,gw,h,hl]
theorem HY{k:Nat}{ts us:List T}{y:T}(h:S[k]?=aa (.lst ts))(hy:c6 S y=aa us)(hl:ts.length+us.length<=1000):mB (.obj k) [y] S=.ok .bq (S.set k (.lst (ts++us))):=by
 simp[mB,gw,h,hy,hl]
theorem m5{k:Nat}{ts:List T}(h:S[k]?=aa (.lst ts)):kF S (.obj k)=true:=by simp[kF,c6,h]
theorem lQ{k:Nat}{ts:List T}(h:S[k]?=aa (.lst ts)):c6 S (.obj k)=aa ts:=by simp[c6,h]
@[simp]theorem Zb9(n:Nat)(x:Str):HB n (.str x):=by simp[HB]
@[simp]theorem Zfs(n:Nat)(x:Int):HB n (.int x):=by simp[HB]
@[simp]theorem Zgl(n:Nat)(x:Bool):HB n (.bl x):=by simp[HB]
@[simp]theorem Zft(n:Nat):HB n .bq:=by simp[HB]
theorem Mg{n:Nat}:∀{ts:List T},(∀t∈ts,HB n t)->sV n ts
 |[],_=>by simp only[sV]
 |t::ts,h=>by simp only[sV];exact⟨h t (az ..),Mg λu hu=>h u (ao _ hu)⟩
theorem SD{n:Nat}{ts:List T}(h:∀t∈ts,HB n t):HB n (.lst ts):=by simp only[HB];exact Mg h
theorem A7{n:Nat}{ts:List T}(h:∀t∈ts,HB n t):HB n (.tup ts):=by simp only[HB];exact Mg h
noncomputable def aL(l:List Str):T:=.lst (l.map .str)
theorem z8s{n:Nat}(l:List Str):HB n (aL l):=SD λt ht=>by
 obtain⟨x,_,rfl⟩:=au.mp ht;exact Zb9 n x
theorem Mh:∀(l:List Str),(l.map T.str).mapM toV=aa (l.map V.str)
 |[]=>rfl
 | a::r=>by
   rw[ay,zW,Mh r];rfl
theorem Mi:∀{l:List Str},(l.map V.str).all nO=true
 |[]=>rfl
 | a::r=>by
   rw[ay,qA,Mi];rfl
theorem SE{x:Str}:∀{l:List Str},D' (.str x) (l.map V.str)=l.contains x
 |[]=>rfl
 | a::r=>by
   rw[cY,<- SE (l:=r)];show((a==x) || _)=_;rw[BEq.comm];rfl
theorem z4t(x:Str)(l:List Str):EA (.str x) (l.map T.str)=aa (l.contains x):=by
 unfold EA;rw[Mh];simp only[toV];rw[if_pos (by rw[Mi];rfl),SE]
theorem SG{x:Str}{y:T}{l:List Str}(h:jV S y=aa (l.map T.str)):uu (.str x) y S=.ok (.bl (l.contains x)) S:=by
 simp[uu,EB,h,z4t]
@[simp]theorem Zgm(x:Str)(l:List Str):uu (.str x) (aL l) S=.ok (.bl (l.contains x)) S:=SG rfl
theorem SH{α:Type}:∀{K:List (ai×α)} {a:ai} {o:α},K.lookup a=aa o->(a,o)∈K
 |[],_,_,e=>by cases e
 | (b,x)::K,a,o,e=>by
   rw[aJ] at e;cases h:a==b with
   | true=>
     rw[h] at e;cases e;rw[eq_of_beq h];exact az ..
   | false=>
     rw[h] at e;exact ao _ (SH e)
noncomputable def Mj(K:aO):Bool:=K.all λp=>!(p.2.cls==l7 "list")
theorem z10{K:aO}{a:ai}{o:Obj}(h:Mj K=true)(e:K.lookup a=aa o):o.cls≠.type "list":=λz=>by
 have hm:(a,o)∈K:=SH e;have:=nF.mp h (a,o) hm;rw[show(a,o).2.cls=l7 "list" from z] at this;simp at this
def HZ(K:aO):Sp:=λvs H Q _=>∃(a:ai) (ns:List Int),vs=[.ref a]/\lH K H a (ns.map V.int)/\ns.length<=63/\∀H',Q (.bl true) H'
theorem SI{W:Wd}:∀(ns:List Int),aW W (ns.map T.int) (ns.map V.int)
 |[]=>aW.gj
 |n::ns=>aW.dY (jF.mpr rfl) (SI ns)
theorem Zcb{P:aU}{w:bz}{K:aO}{mg:Str->Option ag}{base:bR}{k:Nat}{f:ai}{fd:bA}{F:Fn}(G:bH P w K mg base (dM P w) k f fd ["script"] (fO 1 F))(nl:Mj K=true)
  (h:∀ns:List Int,ns.length<=63->∃S',F [.lst (ns.map .int)] []=.ok (.bl true) S'):bH P w K mg base Ee k f fd ["script"] (HZ K):=by
 refine G.calm.imp λvs H Q E q=>?_;obtain⟨a,ns,rfl,sq,hl,q⟩:=q;have rd:Rd H a (.lst (ns.map V.int)):=by
  rcases sq with rd | ⟨o,cy,n,hk,hc,_⟩
  .exact rd
  .exact absurd hc (z10 nl hk)
 refine⟨⟨λb=>if b=a then aa (.lst (ns.map V.int)) else ae,λ_=>0,0,λ_=>ae,λ_=>ae⟩,[],[.lst (ns.map .int)],⟨λb o e=>?_,rfl,(λk c e=>by simp at e),(λj k hj=>absurd hj (zY _)),(λb o e=>nomatch e),λb o e=>nomatch e⟩,aW.dY (r8.mpr ⟨a,_,rfl,if_pos rfl,SI ns⟩) aW.gj,rfl,?_⟩
 .have e:(if b=a then aa (HO.lst (ns.map V.int)) else ae)=aa o:=e
  by_cases z:b=a
  .rw[if_pos z] at e
   cases e;subst z;refine⟨?_,trivial⟩;rcases rd with r | r
   .exact .inl r
   .exact .inr ⟨r,by intro xs z;cases z⟩
  .rw[if_neg z] at e;cases e
 .obtain⟨S',e⟩:=h ns hl
  rw[e];intro W' H' _ _ v dv;rw[jQ.mp dv];exact q H'
theorem ET{l:PySem.W.OpenLaw}{q:aU}{o4:List Str}{XP:(Str->Option ag)->bR->Prop}{YP:bz->bR->Prop}{d:DefRec}{K:Params->aO}{k:Nat}(hk:eL k PySem.callerA)(hn:l.most=aa 63)(Ec:d.params.defaults=[])
  (hY:∀(w:bz) (h:bR),YP w h->(K w.params).In h)
  (F:∀(w:bz) (mg:Str->Option ag) (fa:ai) (h:bR),(K w.params).In h->h.Ns bu mg->mg d.name=aa (.ref fa) ->
   ∃fd:bA,(∀(s:aq) (u:ag),rJ s fd ⟨[u],[]⟩ [("script",u)])/\∀base:bR,(K w.params).In base->base.Ns bu mg->bH l.prog w (K w.params) mg base Ee k fa fd ["script"] (HZ (K w.params))) :
  PySem.W.WalkO q o4 XP YP l.row.toRowW d [] (λf vs=>uj f vs):=
 L2.xh (n:=63) (k:=k) (x := "script") (CX:=λ_=>Ee) (sp:=λw=>HZ (K w.params)) hn (by decide) Ec hk hY F (λ_ _ a ns hl _ hS=>⟨a,ns,rfl,hS,hl,λ_=>rfl⟩) λ_ _ _ _ _ z=>z
end MF
namespace MF
open PySem PySem.Spec L2
noncomputable def rD{α:Type}(js:List Nat)(l:List (Option α)):List (Option α):=js.foldl (λr j=>r.set j ae) l
theorem SJ{α:Type}:∀(js:List Nat) (l:List (Option α)),(rD js l).length=l.length
 |[],_=>rfl
 |j::js,l=>by show(rD js (l.set j ae)).length=_;rw[SJ js,eI]
theorem Ml{α:Type}:∀(js:List Nat) (l:List (Option α)) {i:Nat} {v:α},(rD js l)[i]?=aa (aa v)->l[i]?=aa (aa v)
 |[],_,_,_,h=>h
 | j::js,l,i,v,h=>by
   have h:=Ml js (l.set j ae) h;by_cases z:i=j
   .subst z
    rw[mW] at h;simp at h
   .rwa[c7 (bM z)] at h
theorem SK{α:Type}:∀(js:List Nat) (l:List (Option α)) {i:Nat},i∈js->∀v:α,(rD js l)[i]?≠aa (aa v)
 | j::js,l,i,hi,v=>by
   intro h;have h2:=Ml js (l.set j ae) h;rcases aH.mp hi with z | z
   .subst z
    rw[mW] at h2;simp at h2
   .exact SK js (l.set j ae) z v h
theorem gv.unset{W:Wd}:∀{ρ:Ev} {σ:St} (i:Nat),gv W ρ σ->gv W (ρ.set i ae) (σ.set i ae)
 |[],σ,i,h=>by rw[show σ=[] from h];exact rfl
 | o::ρ,σ,i,⟨s,r,e0,h1,h2⟩=>by
   subst e0;cases i with
   |zero=>exact⟨_,_,rfl,trivial,h2⟩
   |succ i=>exact⟨_,_,rfl,h1,gv.unset i h2⟩
theorem gv.rD{W:Wd}:∀(js:List Nat) {ρ:Ev} {σ:St},gv W ρ σ->gv W (rD js ρ) (rD js σ)
 |[],_,_,h=>h
 |j::js,_,_,h=>gv.rD js (gv.unset j h)
noncomputable def qT{α:Type}:R α->R α
 |.exc _ _ _=>.bad
 |r=>r
theorem bo.qT{α:Type}{E E':XK}{W:Wd}{Q:α->Wd->bG->Hp->Prop}{r:R α}(h:bo E W Q (qT r)):bo E' W Q r:=by
 cases r with
 |ok a S=>exact h
 |exc C fs S=>exact h.elim
 |bad=>exact h
abbrev DH:=ai->Option (List (Str×T))->DS
noncomputable def vH(fb:DS)(js:List Nat)(fh:DH):DS:=fun ρ S=>match fb ρ S with
 |.ok x S'=>.ok x S'
 |.exc C fs S'=>fh C fs (rD js ρ) S'
 |.bad=>.bad
def RH(E:XK)(fh:DH):za:=λcls dx _ D σ H=>∃C fs W S ρ,cls=.ref C/\cV W S H/\Lq W H dx fs/\gv W ρ σ/\bo E W (QF D) (fh C fs ρ S)
noncomputable def SM:DH:=λ_ _ _ _=>.bad
noncomputable def H_(sub:ai->Option Bool)(ds:DS)(r:DH):DH:=λC fs ρ S=>match sub C with
 |some true=>qT (ds ρ S)
 |some false=>r C fs ρ S
 |none=>.bad
def EU(K:aO)(D:ai)(sub:ai->Option Bool):Prop:=∀C b,sub C=aa b->∃bm,rW K C=aa bm/\(aS C::bm).contains (.ref D)=b
section
variable {X:Cx}{E:XK}{x n:Str}{np pos:Pos}{b₀:bS}{qM body:List bS}{jD hs:List iY}{h₀:iY}{D:ai}{Ci:List ag}{sub:ai->Option Bool}{ds fb:DS}{fr fh:DH}{i:Nat}{js:List Nat}
theorem Zcc:PH X [] (RH E SM):=λah s σ H D ea cls a0 dx B ok zb tK qJ hd h=>by
 obtain⟨_,_,_,_,_,_,_,_,_,p⟩:=h;exact p.elim
theorem Zen{t t':za}(h:PH X hs t)(w:∀cls dx ea D σ H,t' cls dx ea D σ H->t cls dx ea D σ H):PH X hs t':=λah s σ H D ea cls a0 dx B ok zb tK qJ hd q=>h ah s σ H D ea cls a0 dx B ok zb tK qJ hd (w _ _ _ _ _ _ q)
theorem Zeo(hg:Gl X x)(hm:X.mg x=aa (.ref D))(qD:rW X.K D=aa Ci)(sk:EU X.K D sub)(hs:∀ea,k6 (X.j_ ea) (b₀::qM) (RS E0 ds))(hr:PH X jD (RH E fr))(kC:(x==("__debug__" : Str))=false:=by decide) :
  PH X (.ExceptHandler (aa (.Name x np)) ae (b₀::qM) pos::jD) (RH E (H_ sub ds fr)):=Zen (ZF hg hm qD hs hr kC) λcls dx ea En σ H h=>by
 obtain⟨C,fs,W,S,ρ,rfl,r,xo,env,p⟩:=h;unfold H_ at p;cases e:sub C with
 |none=>rw[e] at p;exact p.elim
 | some b=>
   obtain⟨bm,q1,q2⟩:=sk C b e;rw[e] at p;refine⟨C,bm,rfl,q1,?_⟩;rw[q2];cases b with
   |true=>rw[if_pos rfl];exact⟨W,S,ρ,r,env,bo.qT p⟩
   |false=>rw[if_neg (by decide)];exact⟨C,fs,W,S,ρ,rfl,r,xo,env,p⟩
theorem Zep(hb:∀(pn:List (ai×Obj)) (kn:St) (xe:ag->aq->Prop) (R:XK),(∀j∈js,∀u:V,kn[j]?≠aa (aa u))->oG (dM X.prog X.w) (X.kM pn kn xe) R->jz (aN X.prog X.w) X.A X.env xe->k6 (X.kM pn kn xe) body (RS R fb))
  (hh:PH X (h₀::hs) (RH E fh)) (h0:X.kn=[]:=by rfl) (eY:X.stack=X.env::X.outer:=by rfl) (zc:X.env.frame=aa X.env.locals:=by rfl) :
  PS X (.Try body (h₀::hs) [] [] pos) (RS E (vH fb js fh)):=qO (ZI hh eY zc) λD σ H h=>by
 obtain⟨W,S,ρ,r,env,p⟩:=h;refine⟨rD js σ,λcls dx H'=>∃C fs W' S',cls=.ref C/\W.le W'/\cV W' S' H'/\Lq W' H' dx fs/\bo E W' (QF D) (fh C fs (rD js ρ) S'),RS _ fb,SJ js σ,λi v e=>Ml js σ e,λi v e=>by rw[h0] at e;simp at e,
  λpn xe Ej own=>hb pn _ xe _ (λj hj u=>SK js σ hj u) Ej own,⟨W,S,ρ,r,env,?_⟩,λcls dx ea H' q=>?_⟩
 .unfold vH at p
  revert p
  cases fb ρ S with
  |ok y S2=>exact λp=>p
  |bad=>exact λp=>p.elim
  | exc C fs S2=>
    intro p W2 H2 dx l2 r2 x2;refine⟨C,fs,W2,S2,rfl,l2,r2,x2,?_⟩
    revert p
    show bo E W (QF D) (fh C fs (rD js ρ) S2)->_;cases fh C fs (rD js ρ) S2 with
    |ok y S3=>exact λp W3 H3 l3 r3=>p W3 H3 (l2.trans l3) r3
    |exc _ _ _=>exact λp W3 H3 dx l3 r3=>p W3 H3 dx (l2.trans l3) r3
    |bad=>exact λp=>p
 .obtain⟨C,fs,W',S',rfl,l,r',x',p'⟩:=q
  exact⟨C,fs,W',S',_,rfl,r',x',(env.mono l).rD js,p'⟩
end
end MF
namespace MF
open PySem PySem.Spec PyProof.Rows L2
def Ia(qk:Bool)(x y:V):Prop:=∃a,x=.str a/\(cR a).length<=1000/\(qk=true->∃b,y=.str b/\(cR b).length<=1000)
def xC(C:ai)(f g:Str)(qk:Bool):Sp:=λvs H Q _=>∃e x y,vs=[.ref e,x,y]/\H e=aa (i5 e C ae)/\Ia qk x y/\f≠g/\∀d,H d=ae->Q .bq (upd (upd H e (i5 e C (aa d))) d (.xd [(f,x),(g,y)]))
section
variable {P:aU}{w:bz}{K:aO}{mg:Str->Option ag}{base:bR}
theorem z4w{qual:Str}{st:bS}{dV:ag}{C fI:ai}{fd:bA}{p1 p2 f g:Str}{k:Nat}{qk:Bool}{tm:TE}(F:cJ K "__init__" qual st dV fI fd)(S:gn ["self",p1,p2] ["self",p1,p2] (d8 st))
  (hx:rY K C) (q:px K C fI=true) (nf:gQ K (.ref C) f=aa ae) (ng:gQ K (.ref C) g=aa ae)
  (lJ:∀(hU:ag) (A:cp) (outer:List Env) (s:aq) (H:Hp) (E:XK),eL k (A.deeper (iP qual (d8 st) s.heap.objs.size fI hU)) ->
   k6 (ir (dM P w) P w K mg base ["self",p1,p2] qual (d8 st) fI hU A outer s H E) (ot st) (uY (J8 (Lm K (Cf (mv 0) (Cf tm tG)))) (uY (Hr K (mv 0) (mv 1) f) (Hr K (mv 0) (mv 2) g))))
  (A8:∀(e:ai) (x y:V) (H:Hp) (Q:VK),Ia qk x y->(∀m,Q (.str m) H)->tm [aa (.ref e),aa x,aa y] H Q) :
  bH P w K mg base (dM P w) (k+1) fI fd ["self",p1,p2] (xC C f g qk):=by
 refine F.K8 S (λvs H Q E h=>?_) λhU A outer s H vs Q E hr h=>⟨_,lJ hU A outer s H E hr,?_⟩
 .obtain⟨e,x,y,rfl,_⟩:=h;rfl
 .obtain⟨e,x,y,rfl,he,ok,fg,h⟩:=h
  refine⟨.ref e,rfl,A8 e x y H _ ok λm=>?_⟩;refine⟨e,.str m,C,fI,ae,rfl,he,q,?_⟩;refine⟨x,rfl,.ref e,rfl,e,C,rfl,hx,nf,.inl ⟨he,λd hd=>?_⟩⟩;have de:d≠e:=λz=>by rw[z,he] at hd;cases hd
  refine⟨y,rfl,.ref e,rfl,e,C,rfl,hx,ng,.inr ⟨d,[(f,x)],?_,gm,(show 1<1000 by decide),?_⟩⟩
  .rw[dr (bM de),gm]
  .show Q .bq _
   rw[Xa,show iN g y [(f,x)]=[(f,x),(g,y)] from by unfold iN;rw[if_neg fg];rfl];exact h d hd
end
noncomputable def Ib:T->Bool
 |.str b=>decide ((cR b).length<=1000)
 |_=>false
noncomputable def EV(qk:Bool)(x y:T):Bool:=Ib x&&(!qk || Ib y)
theorem SN{W:Wd}{x:T}{u:V}(h:Ib x=true)(d:cD W x u):∃a,u=.str a/\(cR a).length<=1000:=by
 cases x with
 |str a=>exact⟨a,nr.mp d,of_decide_eq_true h⟩
 |_=>cases h
noncomputable def Mm(C:ai)(f g:Str)(qk:Bool)(fr:DA):DS:=fun ρ=>(fr ρ).bind λts=>λS=>match ts with
 |[x,y]=>if EV qk x y=true then .exc C (aa [(f,x),(g,y)]) S else .bad
 |_=>.bad
theorem z8t{W:Wd}{qk:Bool}{x y:T}{u v:V}(h:EV qk x y=true)(dx:cD W x u)(dy:cD W y v):Ia qk u v:=by
 unfold EV at h;rw[cG] at h;obtain⟨a,e1,e2⟩:=SN h.1 dx;refine⟨a,e1,e2,λt=>SN ?_ dy⟩;have h2:=h.2;rw[t] at h2;simpa using h2
section
variable {X:Cx}{E:XK}{k:Nat}{C fI:ai}{fd:bA}{ps:List Str}{f g y:Str}{qk:Bool}{np dX pos:Pos}{e:bx}{es:List bx}{fr:DA}{fa:DE}
theorem z4x(hx:Hs X E)(hc:X.calm=true)(fg:f≠g)(q:px X.K C fI=true)(hf:gR X.K (.ref fI)=true)(F:bH X.prog X.w X.K X.mg X.base (dM X.prog X.w) k fI fd ps (xC C f g qk))(hr:eL (k+1) X.A)(hb:lI X.K fd ps [])
  (hg:Gl X y) (hm:X.mg y=aa (.ref C)) (ha:PA X (e::es) (RA E fr))
  (kC:(y==("__debug__" : Str))=false:=by decide) (he:av (e::es) X.env=(false,eval e X.env)::av es X.env:=by rfl) (gX:(bL dX (av es X.env)).any (·.1)=false:=by rfl) :
  PS X (.Raise (aa (.Call (.Name y np) (e::es) [] dX)) ae pos) (RS E (Mm C f g qk fr)):=qO (Rq hx ER hc q hf F hr hb hg hm ha kC he gX) λD σ H h=>by
 obtain⟨W,S,ρ,rp,env,p⟩:=h;refine⟨W,S,ρ,rp,env,(bo.bind p).imp λts W1 S1 H1 l1 r1 p1 vs dv=>?_⟩
 split at p1
 case h_2=>exact p1.elim
 case h_1 tx ty=>
  split at p1
  case isFalse=>exact p1.elim
  case isTrue ok=>
   obtain⟨u,r0,rfl,du,d0⟩:=nu.mp dv;obtain⟨v,r1',rfl,SO,d1⟩:=nu.mp d0;obtain rfl:=ow.mp d1;refine⟨by show 2<=sizeLine;rw[dR];omega,λea Ck=>⟨ea,u,v,rfl,gm,z8t ok du SO,fg,λd hd=>⟨rfl,aa d,?_,?_⟩⟩⟩
   .have ne:ea≠d:=λz=>by rw[z,gm] at hd;cases hd
    rw[dr ne,gm]
   .have ne:d≠ea:=λz=>by rw[z,gm] at hd;cases hd
    have yY:H1 d=ae:=by rw[dr ne] at hd;exact hd
    have Mn:tM (upd (upd (upd H1 ea (i5 ea C ae)) ea (i5 ea C (aa d))) d (.xd [(f,u),(g,v)])) ea=upd H1 d (.xd [(f,u),(g,v)]):=by
     funext b;by_cases z:b=ea
     .subst z
      rw[Eu,dr (bM ne)];exact Ck.symm
     .rw[zh z]
      by_cases z2:b=d
      .subst z2;rw[gm,gm]
      .rw[dr z2,dr z,dr z,dr z2]
    rw[Mn];exact p1 W1 _ (aa d) (Wd.le.refl _) (r1.extra yY _) ⟨_,gm,r1.jG yY,⟨u,_,rfl,du,⟨v,_,rfl,SO,rfl⟩⟩⟩
end
end MF
namespace MF
open PySem L2
noncomputable def Wd.zq(W:Wd)(a:ai):Wd:=⟨W.HS,W.μ,W.n,λb=>if b=a then ae else W.Z b,W.P⟩
section
variable {W:Wd}{S:bG}{H:Hp}
theorem cV.lock(r:cV W S H){k:Nat}{kvs:List (cg×T)}(h:S[k]?=aa (.dic kvs))(o:Obj):∃ks,H (W.μ k)=aa (.dK ks)/\bN W kvs ks /\
  cV (W.zed (W.μ k) (o,.dK ks)) (S.set k (.lck kvs)) (upd H (W.μ k) (.eU o (.dK ks)))/\W.le (W.zed (W.μ k) (o,.dK ks)):=by
 obtain⟨⟨ks,h1,h2⟩,h3⟩:=r.cell k _ h;have hk:=r.lt h;have zn:W.Z (W.μ k)=ae:=r.Hu h (by intro _ z;cases z);have l:W.le (W.zed (W.μ k) (o,.dK ks)):=⟨λ_ _ e=>e,λb q e=>by
  show(if b=W.μ k then aa (o,HO.dK ks) else W.Z b)=aa q;by_cases z:b=W.μ k
  .rw[z,zn] at e;cases e
  .rw[if_neg z];exact e,λ_ _ e=>e,aB _,λ_ _=>rfl⟩
 refine⟨ks,h1,h2,⟨λb w e=>?_,?_,λj c e=>?_,r.inj,λb q e=>?_,λb w e=>?_⟩,l⟩
 .have ne:b≠W.μ k:=λz=>by rw[z] at e;rw[show(W.zed (W.μ k) (o,HO.dK ks)).HS=W.HS from rfl,h3] at e;cases e
  exact⟨(r.sub b w e).1.at (dr ne),(r.sub b w e).2⟩
 .rw[eI];exact r.len
 .by_cases z:k=j
  .subst z
   have:c=.lck kvs:=by
    rw[fK (by rw[r.len];exact hk)] at e;exact(bf e).symm
   subst this;exact⟨⟨o,ks,gm,bN.mono l _ _ h2⟩,h3⟩
  .rw[c7 z] at e
   have hj:=r.lt e;have ne:W.μ j≠W.μ k:=λq=>z (r.inj _ _ hk hj q.symm);exact⟨((r.cell j c e).1.at (dr ne)).mono l,(r.cell j c e).2⟩
 .have e:(if b=W.μ k then aa (o,HO.dK ks) else W.Z b)=aa q:=e
  by_cases z:b=W.μ k
  .rw[if_pos z] at e
   cases e;subst z;exact gm
  .rw[if_neg z] at e
   rw[dr z];exact r.zed b q e
 .obtain⟨g1,g2,g3⟩:=r.prv b w e
  have ne:b≠W.μ k:=λz=>g3 k hk z.symm;exact⟨by rw[dr ne];exact g1,g2,g3⟩
theorem k8.zq{a b:ai}:∀{c:bY},k8 W H b c->k8 (W.zq a) H b c:=λ{c} h=>k8.hs (W:=W) (W':=W.zq a) rfl rfl rfl (λ_ _ e=>e) h
theorem cV.unlock(r:cV W S H){k:Nat}{kvs:List (cg×T)}{o:Obj}{ks:List (cg×V)}(h:S[k]?=aa (.lck kvs))(hz:H (W.μ k)=aa (.eU o (.dK ks))) :
  cV (W.zq (W.μ k)) (S.set k (.dic kvs)) (upd H (W.μ k) (.dK ks)):=by
 obtain⟨⟨o',SQ,h1,h2⟩,h3⟩:=r.cell k _ h;rw[hz] at h1;cases h1;have hk:=r.lt h;refine⟨λb w e=>?_,?_,λj c e=>?_,r.inj,λb q e=>?_,λb w e=>?_⟩
 .have ne:b≠W.μ k:=λz=>by rw[z] at e;rw[show(W.zq (W.μ k)).HS=W.HS from rfl,h3] at e;cases e
  exact⟨(r.sub b w e).1.at (dr ne),(r.sub b w e).2⟩
 .rw[eI];exact r.len
 .by_cases z:k=j
  .subst z
   have:c=.dic kvs:=by
    rw[fK (by rw[r.len];exact hk)] at e;exact(bf e).symm
   subst this;exact⟨⟨ks,gm,bN.hs (W:=W) (W':=W.zq _) rfl rfl rfl _ _ h2⟩,h3⟩
  .rw[c7 z] at e
   have hj:=r.lt e;have ne:W.μ j≠W.μ k:=λq=>z (r.inj _ _ hk hj q.symm);exact⟨((r.cell j c e).1.at (dr ne)).zq,(r.cell j c e).2⟩
 .have e:(if b=W.μ k then ae else W.Z b)=aa q:=e
  by_cases z:b=W.μ k
  .rw[if_pos z] at e;cases e
  .rw[if_neg z] at e
   rw[dr z];exact r.zed b q e
 .obtain⟨g1,g2,g3⟩:=r.prv b w e
  have ne:b≠W.μ k:=λz=>g3 k hk z.symm;exact⟨by rw[dr ne];exact g1,g2,g3⟩
theorem Zcd{W1 W4:Wd}{a:ai}(zn:W1.Z a=ae)(l:W1.le W4):W1.le (W4.zq a):=⟨l.hs,λb q e=>by
 show(if b=a then ae else W4.Z b)=aa q;rw[if_neg (λz=>by rw[z,zn] at e;cases e)];exact l.z b q e,l.p,l.n,l.μ⟩
noncomputable def oQ(kvs:List (cg×T)):List T:=kvs.map λp=>.tup [kT p.1,p.2]
def xD(kvs:List (cg×T)):List T:=kvs.map λp=>kT p.1
theorem bN.at'{W:Wd}:∀{kvs:List (cg×T)} {ks:List (cg×V)} {i:Nat} {k:cg} {v:V},bN W kvs ks->ks[i]?=aa (k,v)->∃t,kvs[i]?=aa (k,t)/\cD W t v
 |[],ks,_,_,_,h,e=>by rw[qN.mp h] at e;simp at e
 | (k0,t0)::kvs,ks,i,k,v,h,e=>by
   obtain⟨v0,r,rfl,h1,h2⟩:=r_.mp h;cases i with
   |zero=>simp at e;obtain⟨rfl,rfl⟩:=e;exact⟨t0,rfl,h1⟩
   | succ i=>
     obtain⟨t,e1,e2⟩:=bN.at' (i:=i) h2 (by simpa using e);exact⟨t,by simpa using e1,e2⟩
theorem z4y{a:ai}{o:Obj}{kvs:List (cg×T)}{ks:List (cg×V)}(hz:W.Z a=aa (o,.dK ks))(d:bN W kvs ks):su W (oQ kvs) (λ_=>True) (AA a o ks):=⟨λi W' S' H' l r' _ hi=>by
 have h2:=r'.zed a _ (l.z a _ hz);rw[oQ,ba,d.length] at hi;refine⟨⟨h2,hi⟩,λx oJ y=>?_⟩;obtain⟨p,k,v,e1,hp,rfl,rfl⟩:=y;obtain⟨t,e2,d2⟩:=d.at' e1;have l2:W'.le (W'.eU p (.tup [kV k,v])):=Wd.k9 (r'.jG hp);exact⟨W'.eU p (.tup [kV k,v]),.tup [kT k,t],l2,r'.eU hp _ trivial,by rw[oQ,cT,e2];rfl,r9.mpr ⟨p,_,rfl,gm,aW.dY (RW k) (aW.dY (cD.mono (l.trans l2) _ _ d2) aW.gj)⟩⟩,λi W' S' H' l r' _ hi=>by
 have h2:=r'.zed a _ (l.z a _ hz);rw[oQ,ba,d.length] at hi;exact⟨h2,hX hi.symm⟩⟩
end
open Classical in
def A9{α:Type}(k:Nat)(kvs:List (cg×T)):R α->R α
 |.ok a S=>if S[k]?=aa (.lck kvs) then .ok a (S.set k (.dic kvs)) else .bad
 |_=>.bad
open Classical in
def qU(k:Nat)(kvs:List (cg×T)):R Fl->R Fl
 |.ok (.nx ρ) S=>if S[k]?=aa (.lck kvs) then .ok (.nx ρ) (S.set k (.dic kvs)) else .bad
 |.ok (.rt t) S=>if S[k]?=aa (.lck kvs) then .ok (.rt t) (S.set k (.dic kvs)) else .bad
 |_=>.bad
def EW(f:List (cg×T)->List T)(nt:Nat)(js:List Nat)(fd:DE)(g:DG)(tc:DT)(te:DE)(fin:List T->M T):DE:=fun ρ=>(fd ρ).bind λt=>λS=>match t with
 | .obj k=>(match S[k]? with
   |some (.dic kvs)=>A9 k kvs (M.bind (rC (nX (λ_=>True) g tc te (f kvs) (aQ nt ae++js.map λj=>(ρ[j]?).join) [])) fin (S.set k (.lck kvs)))
   |_=>.bad)
 |_=>.bad
def xE(f:List (cg×T)->List T)(fd:DE)(g:DG)(fb:DS):DS:=fun ρ=>(fd ρ).bind λt=>λS=>match t with
 | .obj k=>(match S[k]? with
   |some (.dic kvs)=>qU k kvs (d9 (λ_=>True) g fb (f kvs) ρ (S.set k (.lck kvs)))
   |_=>.bad)
 |_=>.bad
def iW(X:Cx)(J:ai->Obj->List (cg×V)->It)(te:TE):TI:=fun σ H R=>te σ H λx H1=>∃a kvs,x=.ref a /\
 ((H1 a=aa (.dK kvs)/\∀o,(∀o' u,X.H₀ a≠aa (.eU o' u))->R (J a o kvs) (upd H1 a (.eU o (.dK kvs))))\/∃o,H1 a=aa (.eU o (.dK kvs))/\R (J a o kvs) H1)
def Ie(f:List (cg×T)->List T)(J:ai->Obj->List (cg×V)->It):Prop:=∀{W:Wd} {a:ai} {o:Obj} {kvs:List (cg×T)} {ks:List (cg×V)},W.Z a=aa (o,.dK ks)->bN W kvs ks->su W (f kvs) (λ_=>True) (J a o ks)
theorem SR:Ie oQ AA:=λhz d=>z4y hz d
theorem Zce:Ie xD AB:=λhz d=>LQ hz d
section
variable {X:Cx}{E:XK}{f:List (cg×T)->List T}{J:ai->Obj->List (cg×V)->It}{fd:DE}{gl:TG}{g:DG}{tc:DT}{AX:TT}{te:DE}{fb:DS}{fin:List T->M T}{nt:Nat}{js:List Nat}
theorem Mo{W1 W2 W4:Wd}{S4:bG}{H4:Hp}{k:Nat}{kvs:List (cg×T)}{ks:List (cg×V)}{o:Obj}(r1n:k<W1.n)(zn:W1.Z (W1.μ k)=ae)(l12:W1.le W2)(hz:W2.Z (W1.μ k)=aa (o,.dK ks))(nf:∀o' u,X.H₀ (W1.μ k)≠aa (.eU o' u))(SS:W2.le W4)(r4:cV W4 S4 H4)(e4:S4[k]?=aa (.lck kvs)){Rr:Hp->Prop}
  (h:∀W',W1.le W'->(W'.HS=W4.HS/\W'.μ=W4.μ/\W'.n=W4.n)->∀H',cV W' (S4.set k (.dic kvs)) H'->Rr H'):Th X H4 Rr:=by
 have SU:=l12.trans SS;have e:=SU.μ k r1n;have z4:=r4.zed _ _ (SS.z _ _ hz);refine⟨W1.μ k,o,ks,z4,nf,?_⟩;have hu:=r4.unlock e4 (by rw[e];exact z4);rw[e] at hu;exact h _ (Zcd zn SU) ⟨rfl,rfl,rfl⟩ _ hu
open Classical in
theorem z4z(hJ:Ie f J)(hG:GT gl g)(EK:∀σ H Q,RT E0 tc σ H Q->AX σ H Q)(hf:xy E fin){σ:St}{H:Hp}{Q:VK}(h:RE E (EW f nt js fd g tc te fin) σ H Q):AD nt js (iW X J (RE E fd)) gl AX (RE E0 te) σ H (λv H'=>Th X H' λoJ=>Q v oJ):=by
 obtain⟨W,S,ρ,rp,env,p⟩:=h;refine⟨W,S,ρ,rp,env,(bo.bind p).imp λt W1 S1 H1 l1 r1 p1 v dv=>?_⟩;cases t with
 | obj k=>
   obtain⟨rfl,hk⟩:=m3.mp dv;simp only at p1
   split at p1
   case h_2=>exact p1.elim
   case h_1 kvs ek=>
    obtain⟨⟨ks,g1,g2⟩,_⟩:=r1.cell k _ ek;refine⟨W1.μ k,ks,rfl,.inl ⟨g1,λo nf=>?_⟩⟩;obtain⟨SQ,A_,g2',r2,l2⟩:=r1.lock ek o;rw[g1] at A_;cases A_;have zn:W1.Z (W1.μ k)=ae:=r1.Hu ek (by intro _ z;cases z);have hz:(W1.zed (W1.μ k) (o,.dK ks)).Z (W1.μ k)=aa (o,.dK ks):=by show(if W1.μ k=W1.μ k then aa (o,HO.dK ks) else _)=_;rw[if_pos rfl]
    refine R_ (PF:=λus S3=>bo E W1 (QV Q) (A9 k kvs (fin us S3))) hG EK r2 ((env.mono l1).mono l2) (hJ hz (bN.mono l2 _ _ g2)) (λacc us W3 S3 H3 a hp r3 qS l3 p4=>?_) ?_
    .refine hf acc us _ W3 S3 H3 a (λv H'=>Th X H' λoJ=>Q v oJ) l3 hp r3 qS ?_
     revert p4
     cases fin us S3 with
     |bad=>exact λz=>z
     |exc _ _ _=>exact λz=>z.elim
     | ok t S4=>
       intro p4 W4 H4 l4 r4 v4 d4;have p4:bo E W1 (QV Q) (if S4[k]?=aa (.lck kvs) then .ok t (S4.set k (.dic kvs)) else .bad):=p4
       split at p4
       case isFalse=>exact p4.elim
       case isTrue e4=>exact Mo hk zn l2 hz nf l4 r4 e4 λW' l' ⟨q1,q2,q3⟩ H' r'=>p4 W' H' l' r' v4 (cD.hs q1 q2 q3 _ _ d4)
    .revert p1
     show bo E W1 (QV Q) (A9 k kvs (M.bind (rC (nX (λ_=>True) g tc te (f kvs) (aQ nt ae++js.map λj=>(ρ[j]?).join) [])) fin (S1.set k (.lck kvs))))->_;unfold M.bind rC;cases nX (λ_=>True) g tc te (f kvs) (aQ nt ae++js.map λj=>(ρ[j]?).join) [] (S1.set k (.lck kvs)) with
     |bad=>exact λz=>z
     |exc _ _ _=>exact λz=>z.elim
     |ok us S3=>exact λz W' H' _ _=>z
 |_=>exact p1.elim
open Classical in
theorem SV (hJ:Ie f J) (hG:GT gl g) {D:Ends} {σ:St} {H:Hp} (h:RS E (xE f fd g fb) D σ H):Ag (iW X J (RE E fd)) gl (RS E fb) { D with nx:=fun σ' H'=>Th X H' λoJ=>D.nx σ' oJ,rt:=λv H'=>Th X H' λoJ=>D.rt v oJ } σ H:=by
 obtain⟨W,S,ρ,rp,env,p⟩:=h;refine⟨W,S,ρ,rp,env,(bo.bind p).imp λt W1 S1 H1 l1 r1 p1 v dv=>?_⟩;cases t with
 | obj k=>
   obtain⟨rfl,hk⟩:=m3.mp dv;simp only at p1
   split at p1
   case h_2=>exact p1.elim
   case h_1 kvs ek=>
    obtain⟨⟨ks,g1,g2⟩,_⟩:=r1.cell k _ ek;refine⟨W1.μ k,ks,rfl,.inl ⟨g1,λo nf=>?_⟩⟩;obtain⟨SQ,A_,g2',r2,l2⟩:=r1.lock ek o;rw[g1] at A_;cases A_;have zn:W1.Z (W1.μ k)=ae:=r1.Hu ek (by intro _ z;cases z);have hz:(W1.zed (W1.μ k) (o,.dK ks)).Z (W1.μ k)=aa (o,.dK ks):=by show(if W1.μ k=W1.μ k then aa (o,HO.dK ks) else _)=_;rw[if_pos rfl]
    refine R7 hG r2 ((env.mono l1).mono l2) (hJ hz (bN.mono l2 _ _ g2)) ?_
    revert p1
    show bo E W1 (QF D) (qU k kvs (d9 (λ_=>True) g fb (f kvs) ρ (S1.set k (.lck kvs))))->_;cases d9 (λ_=>True) g fb (f kvs) ρ (S1.set k (.lck kvs)) with
    |bad=>exact λz=>z
    |exc _ _ _=>exact λz=>z.elim
    | ok x S4=>
      cases x with
      |bk _=>exact λz=>z.elim
      |ct _=>exact λz=>z.elim
      | nx ρ4=>
        intro p4 W4 H4 l4 r4 σ4 d4;have p4:bo E W1 (QF D) (if S4[k]?=aa (.lck kvs) then .ok (.nx ρ4) (S4.set k (.dic kvs)) else .bad):=p4
        split at p4
        case isFalse=>exact p4.elim
        case isTrue e4=>exact Mo hk zn l2 hz nf l4 r4 e4 λW' l' ⟨q1,q2,q3⟩ H' r'=>p4 W' H' l' r' σ4 (gv.hs q1 q2 q3 d4)
      | rt t4=>
        intro p4 W4 H4 l4 r4 v4 d4;have p4:bo E W1 (QF D) (if S4[k]?=aa (.lck kvs) then .ok (.rt t4) (S4.set k (.dic kvs)) else .bad):=p4
        split at p4
        case isFalse=>exact p4.elim
        case isTrue e4=>exact Mo hk zn l2 hz nf l4 r4 e4 λW' l' ⟨q1,q2,q3⟩ H' r'=>p4 W' H' l' r' v4 (cD.hs q1 q2 q3 _ _ d4)
 |_=>exact p1.elim
end
section
variable {X:Cx}{E:XK}{jU iter c tg d:bx}{fd:DE}{gl:TG}{g:DG}{tc:DT}{te:DE}{fin:List T->M T}{js:List Nat}{scope:iG}{cl:List (Str×ai)}{nts xs:List Str}{pos cC dX:Pos}{pq:List bx}{kk:Nat}{tp:Pos}{body:List bS}{fb:DS}
theorem z8u(hc:X.calm=true)(C:uq X scope cl nts xs js)(hd:PE X d (RE E fd))(hg:∀fp s3 H2,PG (ja X scope cl (nts++xs) fp s3 H2) (.Tuple pq kk tp) gl)(hG:GT gl g)(ht:∀fp s3 H2,PT (ja X scope cl (nts++xs) fp s3 H2) c (RT E0 tc))(he:∀fp s3 H2,PE (ja X scope cl (nts++xs) fp s3 H2) jU (RE E0 te))(hf:xy E fin)
  (fB:cm d "items" X.env (eval d X.env)=eval d X.env:=by rfl) (fC:(cC.endLine==dX.line)=true:=by rfl)
  (hs:∀x,ck (.Call (.Attribute d "items" cC) [] [] dX) X.env x=pure x:=by intro _;rfl):PE X (.ListComp jU [⟨.Tuple pq kk tp,.Call (.Attribute d "items" cC) [] [] dX,[c],0⟩] scope pos) (RE E (EW oQ nts.length js fd g tc te fin)):=
 iT (ZR (Q8 hc C (Q0 hd fB fC) hg ht he hs)) fun σ H Q h=>z4z (X:=X) SR hG (fun σ H Q h=>h) hf h
theorem Zcf(hp:jz (aN X.prog X.w) X.A X.env X.xe)(hc:X.calm=true)(hd:PE X d (RE E fd))(hg:PG X (.Tuple pq kk tp) gl)(hG:GT gl g)(hb:k6 X body (RS E fb))
  (fB:cm d "items" X.env (eval d X.env)=eval d X.env:=by rfl) (fC:(cC.endLine==dX.line)=true:=by rfl)
  (hs:∀x,ck (.Call (.Attribute d "items" cC) [] [] dX) X.env x=pure x:=by intro _;rfl):PS X (.For (.Tuple pq kk tp) (.Call (.Attribute d "items" cC) [] [] dX) body [] pos) (RS E (xE oQ fd g fb)):=
 qO (Q1 (Ke hp hc (Q0 hd fB fC) hg hb hs)) λD σ H h=>SV (X:=X) SR hG h
theorem Zcg(hp:jz (aN X.prog X.w) X.A X.env X.xe)(hc:X.calm=true)(hd:PE X d (RE E fd))(hg:PG X tg gl)(hG:GT gl g)(hb:k6 X body (RS E fb))
  (hs:∀x,ck d X.env x=pure x:=by intro _;rfl):PS X (.For tg d body [] pos) (RS E (xE xD fd g fb)):=
 qO (Q1 (Ke hp hc (K_ hd) hg hb hs)) λD σ H h=>SV (X:=X) Zce hG h
end
noncomputable def Ba(fk fv:DE):DE:=fun ρ S=>((fk ρ).bind λk=>(fv ρ).bind λv=>λS'=>match eE k,S'[S.length]? with
 |some key,aa (.dic [])=>.ok (.obj S.length) (S'.set S.length (.dic [(key,v)]))
 |_,_=>.bad) (S++[.dic []])
noncomputable def Mp(fd fk:DE):DE:=fun ρ=>(fd ρ).bind λd=>λS1=>if(nU S1 d).isSome=true then((fk ρ).bind λk=>λS=>match d,eE k with
 | .obj j,aa key=>(match S[j]? with
   | some (.dic kvs)=>(match dO kvs key with
     |some v=>.ok v (S.set j (.dic (EF kvs key)))
     |none=>.bad)
   |_=>.bad)
 |_,_=>.bad) S1 else .bad
section
variable {X:Cx}{E:XK}{o e k v:bx}{fd fk fv:DE}{pos cC dX:Pos}
theorem SW(hk:PE X k (RE E fk))(hv:PE X v (RE E fv)):PE X (.Dict [aa k] [v] pos) (RE E (Ba fk fv)):=iT (Qu (Hc hk hv Qr) rfl rfl (by simp) (by simp)) fun σ H Q h p hp=>by
 obtain⟨W,S,ρ,r,env,p0⟩:=h;have lA:W.le (W.add p):=Wd.jd;have rA:=r.nv hp (.dic []) (.dK []) ⟨[],gm,bN.gj⟩;have p0:bo E W (QV Q) (((fk ρ).bind λk=>(fv ρ).bind λv=>λS'=>match eE k,S'[S.length]? with
  |some key,aa (.dic [])=>R.ok (T.obj S.length) (S'.set S.length (.dic [(key,v)]))
  |_,_=>.bad) (S++[.dic []])):=p0
 refine⟨W.add p,_,ρ,rA,env.mono lA,(bo.bind (Cr p0 lA)).imp λtk W1 S1 H1 l1 r1 p1 x dx=>?_⟩;refine⟨W1,S1,ρ,r1,(env.mono lA).mono l1,(bo.bind p1).imp λtv W2 S2 H2 l2 r2 p2 y dy=>?_⟩
 split at p2
 case h_2=>exact p2.elim
 case h_1 key ek es=>
  have eN:S.length=W.n:=r.len;have hn:S.length<(W.add p).n:=by rw[eN];exact dH _
  have eμ:W2.μ S.length=p:=by rw[(l1.trans l2).μ _ hn,eN,Wd.hV]
  have u4:=r2.lt es;obtain⟨⟨ks,g1,g2⟩,_⟩:=r2.cell _ _ es;obtain rfl:=qN.mp g2;rw[eμ] at g1;refine⟨g1,[(key,y)],by rw[AO dx ek];rfl,by simp,?_⟩;have e2:yX [] [(key,y)]=[(key,y)]:=rfl;rw[e2,<- eμ];exact p2 W2 _ (Wd.le.refl _) (r2.cellSet es _ _ ⟨_,gm,bN.dY dy bN.gj⟩) _ (m3.mpr ⟨rfl,u4⟩)
theorem Zch(ho:PE X o (RE E fd))(he:PE X e (RE E fk))(m:M1 X o "pop" cC e dX:=by exact⟨rfl,rfl,rfl,rfl⟩):PE X (.Call (.Attribute o "pop" cC) [e] [] dX) (RE E (Mp fd fk)):=iT (YW ho he m) fun σ H Q h=>by
 obtain⟨W,S,ρ,r,env,p0⟩:=h;refine⟨W,S,ρ,r,env,(bo.bind p0).imp λd W1 S1 H1 l1 r1 p1 x dx=>?_⟩
 split at p1
 case isFalse=>exact p1.elim
 case isTrue hd=>
  obtain⟨kvs0,e0⟩:=jl.mp hd;obtain⟨a,vs,rfl,q1,_⟩:=r1.dict dx e0;refine⟨a,rfl,.inl ⟨vs,q1⟩,W1,S1,ρ,r1,env.mono l1,(bo.bind p1).imp λk W2 S2 H2 l2 r2 p2 y dy=>?_⟩;have dx:=cD.mono l2 _ _ dx
  split at p2
  case h_2=>exact p2.elim
  case h_1 key ek _=>
   split at p2
   case h_2=>exact p2.elim
   case h_1 kvs es=>
    split at p2
    case h_2=>exact p2.elim
    case h_1 t et=>
     obtain⟨ea,hj⟩:=m3.mp dx;cases ea;obtain⟨⟨ks,g1,g2⟩,_⟩:=r2.cell _ _ es;obtain⟨w,ew,dw⟩:=(g2.val key).1 t et;exact⟨ks,key,w,g1,AO dy ek,ew,p2 W2 _ (Wd.le.refl _) (r2.cellSet es _ _ ⟨_,gm,g2.drop key⟩) _ dw⟩
end
noncomputable def vI(L:List ai)(D:ai):ai->Option Bool:=λC=>if C∈L then aa (decide (C=D)) else ae
section
variable {K:aO}{h D:ai}{L:List ai}
theorem SX(D:ai):lK.contains (.ref D)=false:=rfl
theorem Mq(C D:ai):(aS C==aS D)=decide (C=D):=by
 by_cases e:C=D
 .subst e;simp
 .rw[decide_eq_false e];exact beq_eq_false_iff_ne.mpr (λz=>e (Value.ref.inj z))
theorem Zcj(m:∀C∈L,C≠h->rW K C=aa (.ref h::lK))(mh:rW K h=aa lK)(hD:D≠h):EU K D (vI L D):=λC b e=>by
 unfold vI at e
 split at e
 case isFalse=>cases e
 case isTrue hC=>
  cases e;by_cases z:C=h
  .subst z;exact⟨_,mh,by rw[cY,SX,Mq,l9];exact decide_eq_decide.mpr ⟨yP,yP⟩⟩
  .refine⟨_,m C hC z,?_⟩
   rw[cY,cY,SX,Mq,Mq,l9,decide_eq_false (show¬D=h from hD),l9];exact decide_eq_decide.mpr ⟨yP,yP⟩
end
theorem Zck{P:aU}{w:bz}{mg:Str->Option ag}{base:bR}{K:aO}{k:Nat}{f:ai}{fd:bA}{ps:List Str}{n:Nat}:bH P w K mg base (dM P w) k f fd ps (fO n λ_=>M.bad):=
 ⟨λvs H Q E h=>by obtain⟨_,_,_,_,_,_,p⟩:=h;exact p.elim,λA outer s H args us vs Q E _ _ _ _ h=>by obtain⟨_,_,_,_,_,_,p⟩:=h;exact p.elim⟩
end MF
namespace L2
open PySem PySem.Spec PyProof.Rows
section
variable {X:Cx}{ah:List (ai×Obj)}{σ:List (Option V)}{H:Hp}{s:aq}{h':bR}
theorem Inv.around{t':Nat}(I:Inv X ah σ H s)(k:∀b o,b≠X.env.locals->s.heap.get? b=aa o->h'.get? b=aa o)(hn:∀m,s.heap.Ns X.env.locals m->h'.Ns X.env.locals m):Inv X ah σ H { s with heap:=h',toks:=t' }:=by
 have nL:∀b u,H b=aa u->b≠X.env.locals:=λb u e z=>by rw[z,I.free] at e;cases e
 refine I.step (g':=s.gens) (d':=s.drawn) (ch:=[]) (λb hb=>absurd hb cO) (λb o hl _ _ e _=>k b o hl e) (λb o hl _ _ e _=>⟨o.slots,k b o hl e⟩) (λ_ _ _ _ n=>n) (λb o _ e=>?_) (λ_ _ e=>e) (λ_ _ _ e=>e) (λb ps e=>⟨#[],by rw[e];simp⟩) hn (λb u e=>?_) I.bare
 .by_cases z:b=X.env.locals
  .obtain⟨m,hm,_⟩:=I.loc
   obtain⟨o',es,ep,ho,_⟩:=hn m hm;exact⟨o',by rw[z];exact ho⟩
  .exact⟨o,k b o z e⟩
 .refine(I.cI b u e).mX (λc v hc q=>k c v ?_ q) (λ_ q=>q) λ_ _ q=>q
  rcases hc with z | z
  .rw[z];exact nL b u e
  .exact nL c _ z
theorem Zcl{h:bR}{a:ai}{m m':Str->Option ag}(p:h.Ns a m)(q:h.Ns a m'):m=m':=by
 obtain⟨o,es,ep,ho,hd,_,l⟩:=p;obtain⟨o',z9,z_,wy,wz,_,l'⟩:=q;rw[ho] at wy;cases wy;rw[hd] at wz;cases wz;funext n;rw[<- l n,l' n]
theorem Ig:∀{xs:List V} {us:List ag} {i:Nat} {u:ag},cj xs us->us[i]?=aa u->∃x,xs[i]?=aa x/\RelV x u
 |_,_,_,_,.nil,e=>by simp at e
 |_,_,0,_,.cons r _,e=>by simp at e;subst e;exact⟨_,rfl,r⟩
 | _,_,i+1,_,.cons _ t,e=>by
   obtain⟨x,e1,e2⟩:=Ig (i:=i) t (by simpa using e);exact⟨x,by simpa using e1,e2⟩
theorem z16(hc:X.calm=true):rN X (.builtin "any") (λxs H Q=>∃(a:ai) (bs:List Bool),xs=[.ref a]/\Rd H a (.lst (bs.map V.bl))/\Q (.bl (bs.any id)) H):=by
 intro ah s σ H xs us Q I r h;obtain⟨a,bs,rfl,rd,q⟩:=h;obtain⟨u,rfl,rx⟩:=Al r;cases (show u=aS a from rx);obtain⟨z,cy,n,rv,e⟩:=rd.ok I.cI;have hl:s.heap.IsList a cy.toArray:=⟨_,e,rfl,n,rfl⟩;have cX:=rv.length;have alt:=aE e;refine call_any_walk (Dm hl ?_);have hh:X.A.in1.handled=ae:=I.ok.hd hc;refine⟨_,_,_,_,_,_,λi=>bs.getD i false,rfl,Walks.list hh s.heap.objs.size a (aT alt) cy.toArray,⟨⟨_,bg _ rfl,rfl,rfl⟩,hl.push _⟩,?_,λh' tk hk=>?_⟩
 .intro i v s' Q' E' hP hQ
  obtain⟨x,e1,e2⟩:=Ig (i:=i) (u:=v) rv (by simpa using hP);rw[cT] at e1;cases e3:bs[i]? with
  |none=>rw[e3] at e1;cases e1
  | some b=>
    rw[e3] at e1;cases e1;cases (show v=d_ b from e2);have:bs.getD i false=b:=by simp[wX,e3]
    have hQ:Q' (bs.getD i false) s':=hQ;rw[this] at hQ;exact iz hQ
 .have ev:(cz cy.toArray.size).any (λi=>bs.getD i false)=bs.any id:=by
   rw[aI,<- cX,ba,eF,gu,gu];constructor
   .rintro⟨i,hi,e⟩
    have hi:=eZ.mp hi;refine⟨bs[i],wY hi,?_⟩;simpa[wX,a_ hi] using e
   .rintro⟨b,hb,e⟩
    obtain⟨i,hi,rfl⟩:=lE hb;exact⟨i,eZ.mpr hi,by simpa[wX,a_ hi] using e⟩
  rw[ev];exact⟨.bl _,H,I.kept λb o eb=>hk b o (by simpa using aT (aE eb)) (ax _ eb),rfl,q⟩
def Bb:List V->Hp->VK->Prop:=λxs H Q=>∃(a:ai) (ys:List V) (kf:Nat->Int),xs=[.ref a]/\Rd H a (.lst ys)/\0<ys.length/\(∀(i:Nat) x,ys[i]?=aa x->∃b zs,x=.ref b/\Rd H b (.lst zs)/\kf i=(zs.length:Int)) /\
 ∀(i:Nat) x,ys[i]?=aa x->(∀j,j<ys.length->kf i<=kf j/\(j<i->kf i<kf j))->Q x H
theorem Mr{H:Hp}{a:ai}{o:HO}(r:Rd H a o):∃u,H a=aa u:=by
 rcases r with r | ⟨q,r⟩
 .exact⟨_,r⟩
 .exact⟨_,r⟩
theorem zvl{xs:List V}{us:List ag}{Q:VK}{E:ag->aq->Prop}(hc:X.calm=true)(I:Inv X ah σ H s)(r:cj xs us)(h:Bb xs H Q) :
  wpAny (aN X.prog X.w) X.A (call (.builtin "min") us [(aj "key",.builtin "len")]) (λu s'=>∃v H',Inv X ah σ H' s'/\RelV v u/\Q v H') E s:=by
 obtain⟨a,ys,kf,rfl,rd,mZ,hk,q⟩:=h;obtain⟨u,rfl,rx⟩:=Al r;cases (show u=aS a from rx);obtain⟨z,cy,n,rv,e⟩:=rd.ok I.cI;obtain⟨m,hm,_⟩:=I.loc;have cX:=rv.length;have nL:∀b u,H b=aa u->b≠X.env.locals:=λb u e z=>by rw[z,I.free] at e;cases e
 have h0:∀b,({}:bR).get? b=ae:=by intro b;simp[Heap.get?]
 obtain⟨xF,mem⟩:∃xF:List (ai×Obj),∀b o,(b,o)∈xF↔b≠X.env.locals/\s.heap.get? b=aa o:=by
  refine⟨(cz s.heap.objs.size).filterMap λb=>if b=X.env.locals then ae else(s.heap.get? b).map λo=>(b,o),λb o=>?_⟩;rw[jc];constructor
  .rintro⟨c,_,e⟩
   by_cases z:c=X.env.locals
   .rw[if_pos z] at e;cases e
   .rw[if_neg z] at e
    cases e2:s.heap.get? c with
    |none=>rw[e2] at e;cases e
    |some o'=>rw[e2] at e;cases e;exact⟨z,e2⟩
  .rintro⟨z,e⟩
   exact⟨b,eZ.mpr (aE e),by rw[if_neg z,e];rfl⟩
 have F:Fr {} X.env.locals s.heap m:=⟨hm,λb o e=>(by rw[h0] at e;cases e),dJ _⟩;have N:News {} X.env.locals s.heap xF:=λp hp=>by
  obtain⟨b,o⟩:=p;obtain⟨h1,h2⟩:=(mem b o).mp hp;exact⟨h2,h1,h0 _⟩
 obtain⟨ua,ea⟩:=Mr rd;have hl:∀h,Fr {} X.env.locals h m->News {} X.env.locals h xF->h.IsList a cy.toArray:=λh _ N'=>⟨_,(N' (a,_) ((mem a _).mpr ⟨nL a _ ea,e⟩)).1,rfl,n,rfl⟩;refine kmb_min (kid := "len") (vs:=cy) kf (I.ok.hd hc) F N hl (by rw[<- cX];exact mZ) (λi v hv h tk own F' N'=>?_) (λi v h' Ho hv hb F' N'=>?_)
 .obtain⟨x,e1,e2⟩:=Ig rv hv
  obtain⟨b,zs,rfl,SY,ek⟩:=hk i x e1;cases (show v=aS b from e2);obtain⟨z2,oN,n2,rv2,eb⟩:=SY.ok I.cI;obtain⟨ub,eub⟩:=Mr SY;have hlb:h.IsList b oN.toArray:=⟨_,(N' (b,_) (bh _ ((mem b _).mpr ⟨nL b _ eub,eb⟩))).1,rfl,n2,rfl⟩;have tN:=rv2.length;have hs:sizeLine=16777216:=dR;refine tf (s:={ s with heap:=h,toks:=tk }) hlb (by simp only[aI];omega) ?_;have ek2:kf i=((oN.toArray.size:Nat):Int):=by rw[ek,aI,tN]
  rw[ek2];exact KskEnd.intro F' N' λp hp=>hp
 .obtain⟨x,e1,e2⟩:=Ig rv hv
  exact⟨x,H,I.around (λb o hb eb=>(N' (b,o) ((mem b o).mpr ⟨hb,eb⟩)).1) (λm' rX=>by rw[Zcl rX hm];exact F'.ns),e2,q i x e1 λj hj=>hb j (by rw[<- cX];exact hj)⟩
theorem z17{e:bx}{te:TA}{p kp Bc pos:Pos}(hc:X.calm=true)(hg:Gl X "min")(hm:X.mg "min" = ae)(Ms:Gl X "len")(Bd:X.mg "len" = ae)(he:PA X [e] te)
  (hb:bL pos (av [e] X.env)=(false,eval e X.env)::bL pos (av [] X.env):=by rfl) (gX:(bL pos (av [e] X.env)).any (·.1)=false:=by rfl) :
  PE X (.Call (.Name "min" p) [e] [⟨aa "key",.Name "len" kp,Bc⟩] pos) (GX Bb te):=by
 intro ah s σ H Q I h;refine fX (Ac I hg hm boot_min ?_);refine callWith_kw (dF (he pos ah s σ H _ I h) λus s1 cN=>?_) hb gX;obtain⟨vs,H1,I1,r1,q1⟩:=cN;refine kws_cons (Ac I1 Ms Bd boot_len (kws_nil ?_));exact zvl hc I1 r1 q1
theorem z40{e:bx}{te:TE}{pos:Pos}(hgd:X.A.guards=aa [])(hu:X.A.units+64<gc)(he:PE X e te):PE X (.FormattedValue e 114 ae pos) (fun σ H Q=>te σ H λv H1=>∃d a,MF.kN H1 d v/\v=.ref a/\d.showable=true/\d.hasDict=false/\d.depth<=50/\d.shown.length<=sizeLine/\Q (.str d.shown) H1):=by
 intro ah s σ H Q I h;refine tq (dF (he ah s σ H _ I h) λv s1 cN=>?_);obtain⟨x,H1,I1,r,d,a,rd,e,hs,hd,hdep,l,q⟩:=cN;subst e;cases (show v=aS a from r);obtain⟨as,rr⟩:=MF.gM I1.cI d _ _ rd rfl;refine pyReprObj_of_reads rr hs (λz=>by rw[hd] at z;cases z) hgd (by omega) (λb o e=>e) (λh' u tk hk=>?_) l;exact JN (hsz:=l) λt' tk=>⟨.str _,H1,(I1.kept (t':=tk) hk),⟨t',rfl⟩,q⟩
end
end L2
namespace MF
open PySem L2
noncomputable def zr:List T->Option (List Bool)
 |[]=>aa []
 |.bl b::ts=>(zr ts).map (b::·)
 |_::_=>ae
theorem S7{W:Wd}:∀{ts:List T} {vs:List V} {bs:List Bool},aW W ts vs->zr ts=aa bs->vs=bs.map V.bl
 |[],vs,ys,h,e=>by cases e;exact ow.mp h
 | t :: ts,vs,ys,h,e=>by
   obtain⟨v,r,rfl,h1,h2⟩:=nu.mp h;cases t with
   | bl x=>
     simp only[zr] at e;obtain⟨zs,e1,rfl⟩:=bw.mp e;rw[jQ.mp h1,S7 h2 e1];rfl
   |_=>simp[zr] at e
noncomputable def tV(t:T):M T:=λS=>match (c6 S t).bind zr with
 |some bs=>.ok (.bl (bs.any id)) S
 |none=>.bad
noncomputable def Ih(S:bG)(ts:List T):Option (List Nat):=iw (λt=>(c6 S t).map fF) ts
def Be(ls:List Nat)(i:Nat):Prop:=∃n,ls[i]?=aa n/\∀j k,ls[j]?=aa k->n<=k/\(j<i->n<k)
theorem Be.one{ls:List Nat}{i j:Nat}(a:Be ls i)(b:Be ls j):i=j:=by
 obtain⟨n,e1,h1⟩:=a;obtain⟨k,e2,h2⟩:=b;have p:=h1 j k e2;have q:=h2 i n e1;rcases Nat.lt_trichotomy i j with h | h | h
 .have:=q.2 h;omega
 .exact h
 .have:=p.2 h;omega
open Classical in
noncomputable def vJ(t:T):M T:=λS=>match c6 S t with
 | some ts=>(match Ih S ts with
   | some ls=>if h:∃i,Be ls i then(match ts[h.choose]? with
     |some u=>.ok u S
     |none=>.bad) else .bad
   |none=>.bad)
 |none=>.bad
theorem S8{α β:Type}{f:α->Option β}:∀{l:List α} {m:List β},iw f l=aa m->l.length=m.length/\∀(i:Nat) x,l[i]?=aa x->∃y,m[i]?=aa y/\f x=aa y
 |[],m,e=>by cases e;exact⟨rfl,λi x h=>by simp at h⟩
 | a :: l,m,e=>by
   unfold iw at e;cases e1:f a with
   |none=>simp[e1] at e
   | some b=>
     cases e2:iw f l with
     |none=>simp[e1,e2] at e
     | some r=>
       simp[e1,e2] at e;subst e;obtain⟨h1,h2⟩:=S8 e2;refine⟨by simp[h1],λi x h=>?_⟩;cases i with
       |zero=>simp at h;subst h;exact⟨b,rfl,e1⟩
       |succ i=>simpa using h2 i x (by simpa using h)
theorem S9:∀(l:List Str),lF (l.map cx)=true
 |[]=>by simp[lF]
 |a::r=>by simp[lF,wt,S9 r]
theorem S_:∀(l:List Str),mq (l.map cx)=false
 |[]=>by simp[mq]
 |a::r=>by simp[mq,wZ,S_ r]
theorem Ta:∀(l:List Str),bB (l.map cx)=0
 |[]=>by simp[bB]
 |a::r=>by simp[bB,c_,Ta r]
theorem Tb{H:Hp}:∀(l:List Str),lM H (l.map cx) (l.map V.str)
 |[]=>by simp[lM]
 | a::r=>by
   simp only[ay,lM];exact⟨_,_,rfl,by simp[kN],Tb r⟩
section
variable {X:Cx}{E:XK}{e:bx}{fa:DE}{pos p kp Bc:Pos}
theorem Zeq(hc:X.calm=true)(gl:Gl X "any")(hm:X.mg "any" = ae)(ha:PE X e (RE E fa))
  (he:av [e] X.env=(false,eval e X.env)::av [] X.env:=by rfl) (gX:(bL pos (av [] X.env)).any (·.1)=false:=by rfl):PE X (.Call (.Name "any" p) [e] [] pos) (RE E (e1 tV fa)):=
 LH (z16 hc) (λt W S H v Q r d p=>by
  unfold tV at p;cases e:(c6 S t).bind zr with
  |none=>rw[e] at p;exact p.elim
  | some bs=>
    rw[e] at p;obtain⟨ts,e1,e2⟩:=jC.mp e;obtain⟨a,vs,rfl,h1,h2⟩:=r.list d e1;rw[S7 h2 e2] at h1;exact⟨a,bs,rfl,h1,now p r (jQ.mpr rfl)⟩) gl hm JR ha (by decide) (by decide) he gX
theorem z42 (hc:X.calm=true) (hg:Gl X "min") (hm:X.mg "min" = ae) (Ms:Gl X "len") (Bd:X.mg "len" = ae) (ha:PE X e (RE E fa))
  (hs:av [e] X.env=(false,eval e X.env)::av [] X.env:=by rfl)
  (hb:bL pos (av [e] X.env)=(false,eval e X.env)::bL pos (av [] X.env):=by rfl) (gX:(bL pos (av [e] X.env)).any (·.1)=false:=by rfl) :
  PE X (.Call (.Name "min" p) [e] [⟨aa "key",.Name "len" kp,Bc⟩] pos) (RE E (e1 vJ fa)):=
 iT (z17 hc hg hm Ms Bd (u6 ha yU hs) hb gX) fun σ H Q h=>sg (r:=λx H Q=>Bb [x] H Q) (λt W S H v Q r d p=>by
  unfold vJ at p;cases e1:c6 S t with
  |none=>simp only[e1] at p;exact p.elim
  | some ts=>
    simp only[e1] at p;cases e2:Ih S ts with
    |none=>simp only[e2] at p;exact p.elim
    | some ls=>
      simp only[e2] at p
      split at p
      case isFalse=>exact p.elim
      case isTrue hx=>
       obtain⟨a,vs,rfl,h1,h2⟩:=r.list d e1;obtain⟨l1,l2⟩:=S8 e2;have cX:=h2.length;refine⟨a,vs,λi=>((ls[i]?).getD 0:Nat),rfl,h1,?_,λi x ex=>?_,λi x ex qV=>?_⟩
       .obtain⟨i,n,en,_⟩:=hx
        have:=(aw.mp en).1;omega
       .obtain⟨tx,et,dx⟩:=h2.get' ex
        obtain⟨n,en,hn⟩:=l2 i tx et;obtain⟨us,eu,rfl⟩:=bw.mp hn;obtain⟨b,ws,rfl,g1,g2⟩:=r.list dx eu;refine⟨b,ws,rfl,g1,?_⟩;show(((ls[i]?).getD 0:Nat):Int)=_;rw[en,<- g2.length];rfl
       .obtain⟨tx,et,dx⟩:=h2.get' ex
        obtain⟨n,en,hn⟩:=l2 i tx et;have bi:Be ls i:=⟨n,en,λj k ek=>by
         have hj:j<vs.length:=by have:=(aw.mp ek).1;omega
         have:=qV j hj;simp only[en,ek,Option.getD_some] at this;omega⟩
        have ec:=Be.one hx.choose_spec bi;rw[ec,et] at p;exact now p r dx) h
end
end MF
namespace MF
open PySem L2 PyProof.Rows
open Classical in
def Tc(ys:List Str):List Str:=if h:∃zs:List Str,zs.Perm ys/\sortedS zs=true then h.choose else ys
def Zer(t:T):M T:=λS=>match (c6 S t).bind uv with
 |some ys=>if ys.length<64 then .ok (.lst ((Tc ys).map T.str)) S else .bad
 |none=>.bad
theorem Td{W:Wd}:∀(l:List Str),aW W (l.map T.str) (l.map V.str)
 |[]=>aW.gj
 |a::r=>aW.dY (nr.mpr rfl) (Td r)
def xG(C:ai)(f:Str):Sp:=λvs H Q _=>∃(e a:ai) (zs:List Str),vs=[.ref e,.ref a]/\H e=aa (i5 e C ae)/\Rd H a (.lst (zs.map V.str))/\zs.length<=1000/\(gf (.list (zs.map cx))).length<=800 /\
 ∀l d,H l=ae->l≠d->H d=ae->Q .bq (upd (upd (upd H l (.lst (zs.map V.str))) e (i5 e C (aa d))) d (.xd [(f,.ref l)]))
section
variable {P:aU}{w:bz}{K:aO}{mg:Str->Option ag}{base:bR}
theorem z43{qual:Str}{st:bS}{dV:ag}{C fI:ai}{fd:bA}{p1 f:Str}{k:Nat}{tm tl:TE}(F:cJ K "__init__" qual st dV fI fd)(S:gn ["self",p1] ["self",p1] (d8 st))
  (hx:rY K C) (q:px K C fI=true) (nf:gQ K (.ref C) f=aa ae)
  (lJ:∀(hU:ag) (A:cp) (outer:List Env) (s:aq) (H:Hp) (E:XK),eL k (A.deeper (iP qual (d8 st) s.heap.objs.size fI hU)) ->
   k6 (ir (dM P w) P w K mg base ["self",p1] qual (d8 st) fI hU A outer s H E) (ot st) (uY (J8 (Lm K (Cf (mv 0) (Cf tm tG)))) (Hr K (mv 0) tl f)))
  (A8:∀(e a:ai) (zs:List Str) (H:Hp) (Q:VK),Rd H a (.lst (zs.map V.str))->(gf (.list (zs.map cx))).length<=800->(∀m,Q (.str m) H)->tm [aa (.ref e),aa (.ref a)] H Q)
  (EX:∀(e a:ai) (zs:List Str) (H:Hp) (Q:VK),Rd H a (.lst (zs.map V.str))->(∀l,H l=ae->Q (.ref l) (upd H l (.lst (zs.map V.str))))->tl [aa (.ref e),aa (.ref a)] H Q) :
  bH P w K mg base (dM P w) (k+1) fI fd ["self",p1] (xG C f):=by
 refine F.K8 S (λvs H Q E h=>?_) λhU A outer s H vs Q E hr h=>⟨_,lJ hU A outer s H E hr,?_⟩
 .obtain⟨e,a,zs,rfl,_⟩:=h;rfl
 .obtain⟨e,a,zs,rfl,he,rd,hz,Eb,h⟩:=h
  refine⟨.ref e,rfl,A8 e a zs H _ rd Eb λm=>?_⟩;refine⟨e,.str m,C,fI,ae,rfl,he,q,?_⟩;refine EX e a zs H _ rd λl hl=>?_;have le:l≠e:=λz=>by rw[z,he] at hl;cases hl
  refine⟨.ref e,rfl,e,C,rfl,hx,nf,.inl ⟨by rw[dr (bM le)];exact he,λd hd=>?_⟩⟩;have dl:d≠l:=λz=>by rw[z,gm] at hd;cases hd
  rw[dr dl] at hd;exact h l d hl (bM dl) hd
end
noncomputable def Mt(C:ai)(f:Str)(fr:DA):DS:=fun ρ=>(fr ρ).bind λts=>λS=>match ts with
 | [x]=>(match (c6 S x).bind uv with
   |some zs=>if zs.length<=1000/\(gf (.list (zs.map cx))).length<=800 then .exc C (aa [(f,.lst (zs.map T.str))]) S else .bad
   |none=>.bad)
 |_=>.bad
section
variable {X:Cx}{E:XK}{k:Nat}{C fI:ai}{fd:bA}{ps:List Str}{f y:Str}{np dX pos:Pos}{e:bx}{es:List bx}{fr:DA}
theorem z44 (hx:Hs X E) (hc:X.calm=true) (q:px X.K C fI=true) (hf:gR X.K (.ref fI)=true) (F:bH X.prog X.w X.K X.mg X.base (dM X.prog X.w) k fI fd ps (xG C f)) (hr:eL (k+1) X.A) (hb:lI X.K fd ps [])
  (hg:Gl X y) (hm:X.mg y=aa (.ref C)) (ha:PA X (e::es) (RA E fr))
  (kC:(y==("__debug__" : Str))=false:=by decide) (he:av (e::es) X.env=(false,eval e X.env)::av es X.env:=by rfl) (gX:(bL dX (av es X.env)).any (·.1)=false:=by rfl) :
  PS X (.Raise (aa (.Call (.Name y np) (e::es) [] dX)) ae pos) (RS E (Mt C f fr)):=qO (Rq hx ER hc q hf F hr hb hg hm ha kC he gX) λD σ H h=>by
 obtain⟨W,S,ρ,rp,env,p⟩:=h;refine⟨W,S,ρ,rp,env,(bo.bind p).imp λts W1 S1 H1 l1 r1 p1 vs dv=>?_⟩
 split at p1
 case h_2=>exact p1.elim
 case h_1 tx=>
  cases ez:(c6 S1 tx).bind uv with
  |none=>simp only[ez] at p1;exact p1.elim
  | some zs=>
    simp only[ez] at p1
    split at p1
    case isFalse=>exact p1.elim
    case isTrue ok=>
     obtain⟨u,rfl,du⟩:=xx dv;obtain⟨us,e1,e2⟩:=jC.mp ez;obtain⟨a,ws,rfl,g1,g2⟩:=r1.list du e1;rw[LL g2 e2] at g1;obtain⟨ua,Te⟩:=Mr g1;refine⟨by show 1<=sizeLine;rw[dR];omega,λea Ck=>?_⟩;have Tf:a≠ea:=λz=>by rw[z,Ck] at Te;cases Te
     have A_:Rd (upd H1 ea (i5 ea C ae)) a (.lst (zs.map V.str)):=by
      rcases g1 with g | ⟨o,g⟩
      .exact .inl (by rw[dr Tf];exact g)
      .exact .inr ⟨o,by rw[dr Tf];exact g⟩
     refine⟨ea,a,zs,rfl,gm,A_,ok.1,ok.2,λl d hl ld hd=>⟨rfl,aa d,?_,?_⟩⟩
     .have ne:ea≠d:=λz=>by rw[z,gm] at hd;cases hd
      rw[dr ne,gm]
     .have Tg:d≠ea:=λz=>by rw[z,gm] at hd;cases hd
      have Ti:l≠ea:=λz=>by rw[z,gm] at hl;cases hl
      have yY:H1 d=ae:=by rw[dr Tg] at hd;exact hd
      have ES:H1 l=ae:=by rw[dr Ti] at hl;exact hl
      have Mn:tM (upd (upd (upd (upd H1 ea (i5 ea C ae)) l (.lst (zs.map V.str))) ea (i5 ea C (aa d))) d (.xd [(f,.ref l)])) ea=upd (upd H1 l (.lst (zs.map V.str))) d (.xd [(f,.ref l)]):=by
       funext b;by_cases z:b=ea
       .subst z
        rw[Eu,dr (bM Tg),dr (bM Ti)];exact Ck.symm
       .rw[zh z]
        by_cases z2:b=d
        .subst z2;rw[gm,gm]
        .rw[dr z2,dr z,dr z2]
         by_cases z3:b=l
         .subst z3;rw[gm,gm]
         .rw[dr z3,dr z,dr z3]
      rw[Mn];have l2:W1.le (W1.eU l (.lst (zs.map V.str))):=Wd.k9 (r1.jG ES);have r2:=r1.eU ES (.lst (zs.map V.str)) trivial;have Tj:upd H1 l (.lst (zs.map V.str)) d=ae:=by rw[dr (bM ld)];exact yY
      exact p1 _ _ (aa d) l2 (r2.extra Tj _) ⟨_,gm,r2.jG Tj,⟨.ref l,_,rfl,r8.mpr ⟨l,_,rfl,gm,Td zs⟩,rfl⟩⟩
end
theorem qW{α:Type}:∀{l:List α},l.length=1->∃a0,l=[a0]
 |[a0],_=>⟨a0,rfl⟩
theorem vK{α:Type}:∀{l:List α},l.length=2->∃a0 a1,l=[a0,a1]
 |[a0,a1],_=>⟨a0,a1,rfl⟩
theorem EY{α:Type}:∀{l:List α},l.length=3->∃a0 a1 a2,l=[a0,a1,a2]
 |[a0,a1,a2],_=>⟨a0,a1,a2,rfl⟩
theorem EZ{α:Type}:∀{l:List α},l.length=4->∃a0 a1 a2 a3,l=[a0,a1,a2,a3]
 |[a0,a1,a2,a3],_=>⟨a0,a1,a2,a3,rfl⟩
theorem E1{α:Type}:∀{l:List α},l.length=5->∃a0 a1 a2 a3 a4,l=[a0,a1,a2,a3,a4]
 |[a0,a1,a2,a3,a4],_=>⟨a0,a1,a2,a3,a4,rfl⟩
theorem Mu{α:Type}:∀{l:List α},l.length=6->∃a0 a1 a2 a3 a4 a5,l=[a0,a1,a2,a3,a4,a5]
 |[a0,a1,a2,a3,a4,a5],_=>⟨a0,a1,a2,a3,a4,a5,rfl⟩
noncomputable def tW(t:T):M T:=λS=>match t with
 |.int i=>.ok (.int (-i)) S
 |_=>.bad
section
variable {X:Cx}{E:XK}{e:bx}{fa:DE}{pos:Pos}
theorem Zes(ha:PE X e (RE E fa)):PE X (.UnaryOp .USub e pos) (RE E (e1 tW fa)):=iT (XW X4 ha) fun σ H Q h=>sg (r:=rU λi=>.int (-i)) (λt W S H v Q r d p=>by
 unfold tW at p
 split at p
 .rename_i i;exact⟨i,jF.mp d,now p r (jF.mpr rfl)⟩
 .exact p.elim) h
end
def Zcn(te:TE):TE:=fun σ H Q=>te σ H λv H1=>∃d a,kN H1 d v/\v=.ref a/\d.showable=true/\d.hasDict=false/\d.depth<=50/\d.shown.length<=sizeLine/\Q (.str d.shown) H1
def Zet(te:TE):TE:=fun σ H Q=>te σ H λv H1=>∃y,v=.str y/\(cR y).length<=sizeLine/\Q (.str (cR y)) H1
def z8w(K:aO):TE:=GX (λxs H Q=>∃p ys,xs=[.ref p]/\(lH K H p ys\/tF K H p ys)/\∀l,H l=ae->Q (.ref l) (upd H l (.lst ys))) (Cf (mv 1) tG)
theorem z45(pre:String)(hp:(aj pre).length<=100):∀(e a:ai) (zs:List Str) (H:Hp) (Q:VK),Rd H a (.lst (zs.map V.str))->(gf (.list (zs.map cx))).length<=800->(∀m,Q (.str m) H)->tJ fu [tC (.str pre),Zcn (mv 1)] [aa (.ref e),aa (.ref a)] H Q:=by
 intro e a zs H Q rd hl q;have e0:fu.length=0:=rfl;have hs:sizeLine=16777216:=dR;refine⟨_,rfl,by rw[bV];omega,.ref a,rfl,.list (zs.map cx),a,by simp only[kN];exact⟨a,_,rfl,rd,Tb zs⟩,rfl,by simp[wt,S9],by simp[wZ,S_],by simp[c_,Ta],by omega,_,rfl,by rw[bV,bV];omega,?_⟩;exact⟨by rw[bV,bV];omega,q _⟩
theorem z2a(K:aO):∀(e a:ai) (zs:List Str) (H:Hp) (Q:VK),Rd H a (.lst (zs.map V.str))->(∀l,H l=ae->Q (.ref l) (upd H l (.lst (zs.map V.str))))->z8w K [aa (.ref e),aa (.ref a)] H Q:=
 λe a zs H Q rd q=>⟨.ref a,rfl,a,_,rfl,.inl (.inl rd),q⟩
theorem z8x(pre post:String)(hp:(aj pre).length<=100)(hq:(aj post).length<=100):∀(e:ai) (x y:V) (H:Hp) (Q:VK),Ia false x y->(∀m,Q (.str m) H)->tJ fu [tC (.str pre),Zet (mv 1),tC (.str post)] [aa (.ref e),aa x,aa y] H Q:=by
 rintro e x y H Q ⟨a,rfl,ha,hb⟩ q;have e0:fu.length=0:=rfl;have hs:sizeLine=16777216:=dR;refine⟨_,rfl,by rw[bV];omega,_,rfl,a,rfl,by omega,_,rfl,by rw[bV,bV];omega,_,rfl,by rw[bV,bV,bV];omega,?_⟩;exact⟨by rw[bV,bV,bV];omega,q _⟩
structure Mv(P:aU)(w:bz)(K:aO)(mg:Str->Option ag)(base:bR)(k:Nat)(C:ai)(f:Str)(ps:List Str)(fI:ai)(fd:bA):Prop where
 ok:bH P w K mg base (dM P w) k fI fd ps (xG C f)
 q:px K C fI=true
 hf:gR K (.ref fI)=true
 hb:lI K fd ps []
structure Mw(P:aU)(w:bz)(K:aO)(mg:Str->Option ag)(base:bR)(k:Nat)(C:ai)(f g:Str)(qk:Bool)(ps:List Str)(fI:ai)(fd:bA):Prop where
 ok:bH P w K mg base (dM P w) k fI fd ps (xC C f g qk)
 q:px K C fI=true
 hf:gR K (.ref fI)=true
 hb:lI K fd ps []
section
variable {X:Cx}{E:XK}{e:bx}{es:List bx}{fr:DA}{pos p:Pos}{P:aU}{w:bz}{K:aO}{mg:Str->Option ag}{base:bR}{A:cp}{k:Nat}{x:Str}{ps:List Str}{F:Fn}{f:ai}{fd:bA}
theorem Tn{n:Nat}(G:FnAt P w K mg base k x ps F f fd)(hr:eL k A)(hg:Gl X x)(hx:oG (dM X.prog X.w) X E)(ha:PA X (e::es) (RA E fr))
  (hP:X.prog=P:=by rfl) (hw:X.w=w:=by rfl) (hK:X.K=K:=by rfl) (xg:X.mg=mg:=by rfl) (hB:X.base=base:=by rfl) (hA:X.A=A:=by rfl)
  (kC:(x==("__debug__" : Str))=false:=by decide) (he:av (e::es) X.env=(false,eval e X.env)::av es X.env:=by rfl) (gX:(bL pos (av es X.env)).any (·.1)=false:=by rfl) (hn:ps.length=n:=by rfl) :
  PE X (.Call (.Name x p) (e::es) [] pos) (RE E (fH (bt n F) [] fr)):=by
 subst hP hw hK xg hB hA hn;exact gz G hr hg hx ha kC he gX
end
theorem gT{P:aU}{w:bz}{K:aO}{mg:Str->Option ag}{base:bR}{x qual:Str}{st:bS}{dV:ag}{f:ai}{fd:bA}{N ps:List Str}{k:Nat}{d:DS}(F:cJ K x qual st dV f fd)(S:gn N ps (d8 st))
  (h:∀(hU:ag) (A:cp) (outer:List Env) (s:aq) (H:Hp) (E:XK),eL k (A.deeper (iP qual (d8 st) s.heap.objs.size f hU))->(A.deeper (iP qual (d8 st) s.heap.objs.size f hU)).units+1<gc->(A.deeper (iP qual (d8 st) s.heap.objs.size f hU)).units+64<gc ->
   k6 (ir (dM P w) P w K mg base N qual (d8 st) f hU A outer s H E) (ot st) (RS E d)):bH P w K mg base (dM P w) (k+1) f fd ps (fO ps.length (cH N.length d)):=
 Zeh F S λhU A outer s H E hr=>h hU A outer s H E hr (Zs hr) hr.units
noncomputable def pI:DS:=λ_=>M.bad
theorem zt{X:Cx}{E:XK}{sts:List bS}:k6 X sts (RS E pI):=λah s σ H D I h=>by
 obtain⟨_,_,_,_,_,p⟩:=h;exact p.elim
section
variable {X:Cx}{E:XK}{e o:bx}{es:List bx}{fo:DE}{fr:DA}{pos cC:Pos}{P:aU}{w:bz}{K:aO}{mg:Str->Option ag}{base:bR}{A:cp}{k n:Nat}{C:ai}{m:Str}{ps:List Str}{F:Fn}{f:ai}{fd:bA}
theorem z8y{pl:Sem Bool}(G:e_ P w K mg base k C m ps F f fd)(hr:eL k A)(hx:oG (dM X.prog X.w) X E)(ho:PE X o (RE E fo))(ha:PA X (e::es) (RA E fr))
  (hP:X.prog=P:=by rfl) (hw:X.w=w:=by rfl) (hK:X.K=K:=by rfl) (xg:X.mg=mg:=by rfl) (hB:X.base=base:=by rfl) (hA:X.A=A:=by rfl)
  (eY:av (e::es) X.env=(false,eval e X.env)::av es X.env:=by rfl) (gX:(bL pos (av es X.env)).any (·.1)=false:=by rfl)
  (ht:eval (.Call (.Attribute o m cC) (e::es) [] pos) X.env=(do
   let ov <- eval o X.env
   ju cC.atName
   let (f,first) <- iA [ov] (gK ov m pl)
   i9 pos f first (bL pos (av (e::es) X.env)) (eG pos (cQ [] X.env))):=by rfl) (hn:ps.length=n:=by rfl) :
  PE X (.Call (.Attribute o m cC) (e::es) [] pos) (RE E (i8 C m (bt n F) [] fo fr)):=by
 subst hP hw hK xg hB hA hn;exact pG G hr hx ho ha eY gX ht
end
variable {E:XK}{fa:DE}
end MF
namespace MF
open PySem L2
noncomputable def E2(k1 v1 k2 v2 k3 v3:DE):DE:=fun ρ S=>((k1 ρ).bind λa1=>(v1 ρ).bind λb1=>(k2 ρ).bind λa2=>(v2 ρ).bind λb2=>(k3 ρ).bind λa3=>(v3 ρ).bind λb3=>λS'=>match eE a1,eE a2,eE a3,S'[S.length]? with
 |some q1,aa q2,aa q3,aa (.dic [])=>if q1≠q2/\q1≠q3/\q2≠q3 then .ok (.obj S.length) (S'.set S.length (.dic [(q1,b1),(q2,b2),(q3,b3)])) else .bad
 |_,_,_,_=>.bad) (S++[.dic []])
section
variable {X:Cx}{E:XK}{k1 v1 k2 v2 k3 v3:bx}{Mx My Mz MA MB MC:DE}{pos:Pos}
theorem z8z(E3:PE X k1 (RE E Mx))(hv1:PE X v1 (RE E My))(oH:PE X k2 (RE E Mz))(hv2:PE X v2 (RE E MA))(zu:PE X k3 (RE E MB))(hv3:PE X v3 (RE E MC)):PE X (.Dict [aa k1,aa k2,aa k3] [v1,v2,v3] pos) (RE E (E2 Mx My Mz MA MB MC)):=
 iT (Qu (Hc E3 hv1 (Hc oH hv2 (Hc zu hv3 Qr))) rfl rfl (by simp) (by simp)) fun σ H Q h p hp=>by
 obtain⟨W,S,ρ,r,env,p0⟩:=h;have lA:W.le (W.add p):=Wd.jd;have rA:=r.nv hp (.dic []) (.dK []) ⟨[],gm,bN.gj⟩;have p0:bo E W (QV Q) (((Mx ρ).bind λa1=>(My ρ).bind λb1=>(Mz ρ).bind λa2=>(MA ρ).bind λb2=>(MB ρ).bind λa3=>(MC ρ).bind λb3=>λS'=>match eE a1,eE a2,eE a3,S'[S.length]? with
 |some q1,aa q2,aa q3,aa (.dic [])=>if q1≠q2/\q1≠q3/\q2≠q3 then .ok (.obj S.length) (S'.set S.length (.dic [(q1,b1),(q2,b2),(q3,b3)])) else .bad
 |_,_,_,_=>.bad) (S++[.dic []])):=p0
 refine⟨W.add p,_,ρ,rA,env.mono lA,(bo.bind (Cr p0 lA)).imp λt1 W1 S1 H1 l1 r1 p1 x1 d1=>?_⟩;refine⟨W1,S1,ρ,r1,(env.mono lA).mono l1,(bo.bind p1).imp λt2 W2 S2 H2 l2 r2 p2 x2 d2=>?_⟩;refine⟨W2,S2,ρ,r2,((env.mono lA).mono l1).mono l2,(bo.bind p2).imp λt3 W3 S3 H3 l3 r3 p3 x3 d3=>?_⟩;refine⟨W3,S3,ρ,r3,(((env.mono lA).mono l1).mono l2).mono l3,(bo.bind p3).imp λt4 W4 S4 H4 l4 r4 p4 x4 d4=>?_⟩;refine⟨W4,S4,ρ,r4,((((env.mono lA).mono l1).mono l2).mono l3).mono l4,(bo.bind p4).imp λt5 W5 S5 H5 l5 r5 p5 x5 d5=>?_⟩;refine⟨W5,S5,ρ,r5,(((((env.mono lA).mono l1).mono l2).mono l3).mono l4).mono l5,(bo.bind p5).imp λt6 W6 S6 H6 l6 r6 p6 x6 d6=>?_⟩
 split at p6
 case h_2=>exact p6.elim
 case h_1 q1 q2 q3 e1 e2 e3 es=>
  have eN:S.length=W.n:=r.len;have hn:S.length<(W.add p).n:=by rw[eN];exact dH _
  have eμ:W6.μ S.length=p:=by rw[((((l1.trans l2).trans l3).trans l4).trans l5 |>.trans l6).μ _ hn,eN,Wd.hV]
  have u4:=r6.lt es;obtain⟨⟨ks,g1,g2⟩,_⟩:=r6.cell _ _ es;obtain rfl:=qN.mp g2;rw[eμ] at g1;by_cases hd:q1≠q2/\q1≠q3/\q2≠q3
  .rw[if_pos hd] at p6
   refine⟨g1,[(q1,x2),(q2,x4),(q3,x6)],?_,by simp,?_⟩
   .rw[AO d1 e1,AO d3 e2,AO d5 e3];rfl
   .have e2:yX [] [(q1,x2),(q2,x4),(q3,x6)]=[(q1,x2),(q2,x4),(q3,x6)]:=by
     obtain⟨h1,h2,h3⟩:=hd;simp[yX,j8,h1,h2,h3,bM h1,bM h2,bM h3]
    rw[e2,<- eμ];exact p6 W6 _ (Wd.le.refl _) (r6.cellSet es _ _ ⟨_,gm,bN.dY (cD.mono (((l3.trans l4).trans l5).trans l6) _ _ d2) (bN.dY (cD.mono (l5.trans l6) _ _ d4) (bN.dY d6 bN.gj))⟩) _ (m3.mpr ⟨rfl,u4⟩)
  .rw[if_neg hd] at p6
   exact p6.elim
end
end MF
namespace MF
open PySem L2 PyProof.Rows
noncomputable def Bf:List Str->List Str
 |[]=>[]
 |x::xs=>if x∈xs then Bf xs else x::Bf xs
end MF
namespace DN
open PySem L2 MF
noncomputable def e8(c:Cl):List ai:=[c.nameThere,c.noPlace,c.noPiece,c.tooMany,c.noAnswer,c.ring,c.barred,c.deedFault]
noncomputable def Zgn(_:Cl):Fn:=λ_=>M.bad
noncomputable def MD(c:Cl):DS:=(aR (eV (dN (e2 (gI Lr) (af 1) (e1 hW (af 0)))) (b_ (e2 cv (af 0) (af 1))) gp) (b_ (eC (.int 0))))
def sA(c:Cl):Fn:=cH 2 (MD c)
noncomputable def ME(c:Cl):DE:=(e2 cv (af 1) (e2 (gI fZ) (e2 fT (af 2) (e2 (gI pA) (eC (.int 5)) (af 0))) (eC (.int 26))))
noncomputable def MG(c:Cl):DI:=(vB (aP (e2 fT (eC (.int 2)) (e2 (gI fZ) (af 0) (eC (.int 11)))) aF))
def MH(c:Cl):DS:=(aR (cE 1 (eC (.str "abcdefghijklmnopqrstuvwxyz"))) (aR (eV (dN (e2 fD (e2 (gI fZ) (af 0) (eC (.int 3))) (eC (.int 1)))) (b_ (e2 cv (af 1) (e2 (gI fZ) (af 0) (eC (.int 26))))) gp) (b_ (kz HH Cq (eC (.str "")) (aP (k_ 1 [1,0] (MG c) (eM 0) kG (ME c) iu) aF)))))
def wL(c:Cl):Fn:=cH 2 (MH c)
def Ii(c:Cl):DS:=(aR (eV (dN (e2 (gI Hv) (e2 (gI fZ) (af 0) (eC (.int 4))) (eC (.int 1)))) (b_ (eA fN aF)) gp) (aR (eV (dN (e2 fD (e2 (gI fZ) (af 0) (eC (.int 4))) (eC (.int 1)))) (b_ (eA fN (aP (fH (bt 1 (wL c)) [] (aP (e2 (gI fZ) (e2 (gI jH) (af 0) (eC (.int 4))) (af 1)) aF)) (aP (fH (bt 1 (wL c)) [] (aP (e2 (gI fZ) (e2 (gI jH) (af 0) (eC (.int 64))) (af 1)) aF)) aF)))) gp) (b_ (eA fN (aP (fH (bt 1 (wL c)) [] (aP (e2 (gI fZ) (e2 (gI jH) (af 0) (eC (.int 4))) (af 1)) aF)) aF)))))
def wM(c:Cl):Fn:=cH 2 (Ii c)
noncomputable def To(c:Cl):DS:=(aR (cE 1 (e2 (gI vt) (e2 (gI fZ) (e2 (gI jH) (af 0) (eC (.int 8))) (eC (.int 2001))) (eC (.int 1000)))) (aR (eV (dN (e2 fD (e2 (gI fZ) (e2 (gI jH) (af 0) (eC (.int 8))) (eC (.int 9))) (eC (.int 4)))) (cE 1 (e2 (gI vt) (e2 (gI fZ) (af 0) (e2 (gI vv) (eC (.int 10)) (eC (.int 25)))) (e2 (gI vv) (eC (.int 10)) (eC (.int 24))))) gp) (aR (eV (dN (e2 fD (e2 (gI fZ) (af 0) (eC (.int 8))) (eC (.int 3)))) (b_ (eA f_ (aP (eC (.str "say")) (aP (af 1) aF)))) gp) (aR (eV (dN (e2 fD (e2 (gI fZ) (af 0) (eC (.int 8))) (eC (.int 4)))) (b_ (eA f_ (aP (eC (.str "none")) aF))) gp) (aR (eV (dN (e2 fD (e2 (gI fZ) (af 0) (eC (.int 8))) (eC (.int 5)))) (b_ (eA f_ (aP (eC (.str "fail")) (aP (af 1) aF)))) gp) (b_ (eA f_ (aP (eC (.str "add")) (aP (af 1) aF)))))))))
def E4(c:Cl):Fn:=cH 2 (To c)
def MI(c:Cl):DS:=(aR (cE 5 (fH (bt 2 (sA c)) [] (aP (af 0) (aP (e2 fT (af 1) (e2 (gI pA) (eC (.int 3)) (af 4))) aF)))) (aR (cE 6 (fH (bt 2 (sA c)) [] (aP (af 0) (aP (e2 fT (e2 fT (af 1) (e2 (gI pA) (eC (.int 3)) (af 4))) (eC (.int 1))) aF)))) (aR (cE 7 (fH (bt 2 (sA c)) [] (aP (af 0) (aP (e2 fT (e2 fT (af 1) (e2 (gI pA) (eC (.int 3)) (af 4))) (eC (.int 2))) aF)))) (aR (cE 8 (e2 cv (eA fN (aP (eC (.str "hub")) (aP (eC (.str "hub")) (aP (eC (.str "hub")) (aP (eC (.str "side")) aF))))) (e2 (gI fZ) (e2 (gI jH) (af 5) (eC (.int 4096))) (eC (.int 4))))) (aR (cE 9 (eA fN (aP (fH (bt 2 (wM c)) [] (aP (af 6) (aP (e2 fT (af 2) (eC (.int 1))) aF))) (aP (fH (bt 2 (wM c)) [] (aP (e2 (gI jH) (af 6) (eC (.int 7))) (aP (e2 fT (af 2) (eC (.int 1))) aF))) aF)))) (aR (cE 9 (e2 fT (af 9) (eA fN (aP (fH (bt 2 (wM c)) [] (aP (af 7) (aP (e2 fT (af 2) (eC (.int 1))) aF))) (aP (fH (bt 2 (wM c)) [] (aP (e2 (gI jH) (af 7) (eC (.int 7))) (aP (e2 fT (af 2) (eC (.int 1))) aF))) aF))))) (ic (kz kF kb (af 3) (aP (eA f_ (aP (fH (bt 1 (wL c)) [] (aP (af 4) aF)) (aP (af 8) (aP (fH (bt 1 (E4 c)) [] (aP (af 5) aF)) (aP (af 9) (aP (e2 oz (e2 (gI fZ) (e2 (gI jH) (af 5) (eC (.int 64))) (eC (.int 6))) (eC (.int 1))) aF)))))) aF)))))))))
def Tp(c:Cl):DS:=(aR (cE 3 (eA jg aF)) (aR (eW (vB (aP (af 2) aF)) (eM 4) (MI c)) (b_ (af 3))))
def E5(c:Cl):Fn:=cH 10 (Tp c)
noncomputable def Ij(c:Cl):DE:=(eA f_ (aP (e2 cv (af 0) (eC (.int 0))) (aP (e2 cv (af 0) (eC (.int 1))) (aP (e2 cv (af 0) (eC (.int 2))) (aP (eA fN (aP (eA fN aF) (aP (eA fN aF) (aP (e2 cv (e2 cv (af 0) (eC (.int 3))) (eC (.int 2))) (aP (e2 cv (e2 cv (af 0) (eC (.int 3))) (eC (.int 3))) aF))))) (aP (e2 cv (af 0) (eC (.int 4))) aF))))))
noncomputable def Ik(c:Cl):DI:=(iL (af 1))
def MJ(c:Cl):DS:=(aR (cE 1 (fH (bt 3 (E5 c)) [] (aP (af 0) (aP (eC (.int 3)) (aP (e2 (gI fZ) (fH (bt 2 (sA c)) [] (aP (af 0) (aP (eC (.int 0)) aF))) (eC (.int 11))) aF))))) (aR (eV (dN (e2 (gI Hv) (e2 (gI fZ) (e2 (gI jH) (fH (bt 2 (sA c)) [] (aP (af 0) (aP (eC (.int 1)) aF))) (eC (.int 8))) (eC (.int 3))) (eC (.int 0)))) (cE 1 (k_ 1 [] (Ik c) (eM 0) kG (Ij c) vC)) gp) (b_ (af 1))))
def Cy(c:Cl):Fn:=cH 2 (MJ c)
noncomputable def Il(c:Cl):DE:=(e2 cv (af 0) (eC (.int 0)))
noncomputable def Im(c:Cl):DI:=(iL (af 0))
noncomputable def E6(c:Cl):DT:=(vw (dN (e2 fD (e2 cv (af 0) (eC (.int 1))) (eC (.str "hub")))) (nA (e2 cv (af 0) (eC (.int 4)))))
def Tq(c:Cl):DS:=(b_ (k_ 1 [] (Im c) (eM 0) (E6 c) (Il c) iu))
def E7(c:Cl):Fn:=cH 1 (Tq c)
noncomputable def Bg(c:Cl):DS:=(eV (vw (dN (e2 fD (e2 cv (af 3) (eC (.int 1))) (af 0))) (dN (e2 uu (e2 cv (af 3) (eC (.int 0))) (af 1)))) (b_ (eC (.bl false))) gp)
def MK(c:Cl):DS:=(aR (eW (iL (af 2)) (eM 3) (Bg c)) (b_ (eC (.bl true))))
def Cz(c:Cl):Fn:=cH 4 (MK c)
noncomputable def Io(c:Cl):DE:=(af 0)
noncomputable def Ip(c:Cl):DI:=(iL (af 2))
def Iq(c:Cl):DT:=(nA (fH (bt 3 (Cz c)) [] (aP (af 0) (aP (af 1) (aP (af 2) aF)))))
def tX(c:Cl):DS:=(aR (cE 4 (k_ 1 [2,1] (Ip c) (eM 0) (Iq c) (Io c) iu)) (aR (eV (dN (e2 fD (af 4) (eA fN aF))) (b_ (eC .bq)) gp) (aR (ic (kz kF kb (af 3) (aP (e2 cv (af 4) (eC (.int 0))) aF))) (ic (kz kF AY (af 2) (aP (e2 cv (af 4) (eC (.int 0))) aF))))))
noncomputable def uA(c:Cl):DT:=(dN (e2 oz (af 2) (eA fN aF)))
def E8(c:Cl):DS:=(aR (cE 2 (e1 wH (af 0))) (aR (cE 3 (eA jg aF)) (aR (uw (uA c) (tX c)) (b_ (af 3)))))
def CA(c:Cl):Fn:=lg (cH 5 (E8 c))
noncomputable def ML(c:Cl):DE:=(eA f_ (aP (e2 cv (af 1) (eC (.int 0))) (aP (af 0) aF)))
noncomputable def MM(c:Cl):DI:=(iL (e2 cv (e2 cv (af 3) (eC (.int 3))) (eC (.int 0))))
noncomputable def MN(c:Cl):DT:=(dN (e2 uu (af 0) (af 2)))
noncomputable def MO(c:Cl):DE:=(eA f_ (aP (af 0) (aP (e2 cv (af 1) (eC (.int 0))) aF)))
noncomputable def MP(c:Cl):DI:=(iL (e2 cv (e2 cv (af 3) (eC (.int 3))) (eC (.int 1))))
noncomputable def MQ(c:Cl):DT:=(dN (e2 uu (af 0) (af 2)))
def Ir(c:Cl):DS:=(eV (dN (e2 uu (e2 cv (af 3) (eC (.int 0))) (af 1))) (aR (ic (kz kF mB (af 2) (aP (k_ 1 [3,1] (MM c) (eM 0) (MN c) (ML c) iu) aF))) (ic (kz kF mB (af 2) (aP (k_ 1 [3,1] (MP c) (eM 0) (MQ c) (MO c) iu) aF)))) gp)
def MR(c:Cl):DS:=(aR (cE 2 (eA jg aF)) (aR (eW (iL (af 0)) (eM 3) (Ir c)) (b_ (af 2))))
def Iu(c:Cl):Fn:=lg (cH 4 (MR c))
noncomputable def MS(c:Cl):DE:=(eA f_ (aP (af 1) (aP (e2 cv (af 0) (eC (.int 2))) aF)))
noncomputable def MT(c:Cl):DI:=(iL (af 0))
noncomputable def MU(c:Cl):DT:=(dN (e2 fD (e2 cv (af 0) (eC (.int 0))) (af 1)))
def E9(c:Cl):DS:=(ic (kz kF mB (af 3) (aP (k_ 1 [4] (MT c) (eM 0) (MU c) (MS c) iu) aF)))
def MV(c:Cl):DS:=(aR (cE 1 (fH (bt 1 (E7 c)) [] (aP (af 0) aF))) (aR (cE 2 (fH (bt 2 (CA c)) [] (aP (af 1) (aP (fH (bt 2 (Iu c)) [] (aP (af 0) (aP (af 1) aF))) aF)))) (aR (eV (dN (e2 mL (af 2) (eC .bq))) (b_ (eC .bq)) gp) (aR (cE 3 (eA jg aF)) (aR (eW (iL (af 2)) (eM 4) (E9 c)) (b_ (af 3)))))))
def xH(c:Cl):Fn:=lg (cH 5 (MV c))
noncomputable def Tr(c:Cl):DS:=(aR (lP c.hall "places" (af 0) Co) (lP c.hall "pieces" (af 0) Co))
def E_(c:Cl):Fn:=cH 1 (Tr c)
noncomputable def Ts(c:Cl):DS:=(aR (lP c.place "kind" (af 0) (af 1)) (lP c.place "rule" (af 0) (af 2)))
def Fb(c:Cl):Fn:=cH 3 (Ts c)
noncomputable def Tt(c:Cl):DS:=(aR (eV (dN (e2 jf (af 1) (e1 (df c.hall "places") (af 0)))) pI gp) (aR (eV (dN (e2 (gI Hw) (e1 zo (e1 (df c.hall "places") (af 0))) (eC (.int 8)))) pI gp) (wI (e1 (df c.hall "places") (af 0)) (af 1) (zp c.place (bt 3 (Fb c)) [] (aP (af 2) (aP (af 3) aF))))))
def CB(c:Cl):Fn:=cH 4 (Tt c)
noncomputable def Tu(c:Cl):DS:=(aR (eV (dN (e2 vy (af 1) (e1 (df c.hall "places") (af 0)))) pI gp) (b_ (e2 je (e1 (df c.hall "places") (af 0)) (af 1))))
def xI(c:Cl):Fn:=cH 2 (Tu c)
noncomputable def Tv(c:Cl):DS:=(aR (lP c.piece "place" (af 0) (af 1)) (aR (lP c.piece "deed" (af 0) (af 2)) (aR (lP c.piece "by" (af 0) (af 3)) (aR (lP c.piece "on" (af 0) (eC (.bl true))) (aR (lP c.piece "ahead" (af 0) (eA jg aF)) (aR (lP c.piece "behind" (af 0) (eA jg aF)) (aR (lP c.piece "needs" (af 0) (eA jg aF)) (lP c.piece "bars" (af 0) (eA jg aF)))))))))
def CC(c:Cl):Fn:=cH 4 (Tv c)
noncomputable def Tw(c:Cl):DS:=(aR (eV (dN (e2 jf (af 1) (e1 (df c.hall "pieces") (af 0)))) pI gp) (aR (ic (i8 c.hall "find_place" (bt 2 (xI c)) [] (af 0) (aP (af 2) aF))) (aR (eV (dN (e2 vx (af 4) (eC .bq))) pI gp) (aR (eV (dN (e2 (gI Hw) (e1 zo (e1 (df c.hall "pieces") (af 0))) (eC (.int 24)))) pI gp) (wI (e1 (df c.hall "pieces") (af 0)) (af 1) (zp c.piece (bt 4 (CC c)) [] (aP (af 2) (aP (af 3) (aP (af 4) aF)))))))))
def Bh(c:Cl):Fn:=cH 5 (Tw c)
noncomputable def Tz(c:Cl):DS:=(aR (eV (dN (e2 vy (af 1) (e1 (df c.hall "pieces") (af 0)))) pI gp) (b_ (e2 je (e1 (df c.hall "pieces") (af 0)) (af 1))))
def tY(c:Cl):Fn:=cH 2 (Tz c)
noncomputable def Iv(c:Cl):DS:=(b_ (LB (dN (e2 mL (af 0) (eC .bq))) (eA fN aF) (e1 tQ (af 0))))
def rE(c:Cl):Fn:=cH 1 (Iv c)
noncomputable def TB(c:Cl):DS:=(aR (cE 6 (i8 c.hall "find_piece" (bt 2 (tY c)) [] (af 0) (aP (af 1) aF))) (aR (ic (kz kF mB (e1 (df c.piece "ahead") (af 6)) (aP (fH (bt 1 (rE c)) [] (aP (af 2) aF)) aF))) (aR (ic (kz kF mB (e1 (df c.piece "behind") (af 6)) (aP (fH (bt 1 (rE c)) [] (aP (af 3) aF)) aF))) (aR (ic (kz kF mB (e1 (df c.piece "needs") (af 6)) (aP (fH (bt 1 (rE c)) [] (aP (af 4) aF)) aF))) (ic (kz kF mB (e1 (df c.piece "bars") (af 6)) (aP (fH (bt 1 (rE c)) [] (aP (af 5) aF)) aF)))))))
def xJ(c:Cl):Fn:=cH 7 (TB c)
noncomputable def TC(c:Cl):DS:=(aR (cE 3 (i8 c.hall "find_piece" (bt 2 (tY c)) [] (af 0) (aP (af 1) aF))) (lP c.piece "on" (af 3) (af 2)))
def zv(c:Cl):Fn:=cH 4 (TC c)
noncomputable def MW(c:Cl):DS:=(ic (i8 c.hall "hang" (bt 5 (Bh c)) [.bq] (af 3) (aP (e2 cv (af 4) (eC (.int 0))) (aP (e2 cv (af 4) (eC (.int 1))) (aP (e2 cv (af 4) (eC (.int 2))) aF)))))
noncomputable def Iw(c:Cl):DS:=(aR (ic (i8 c.hall "wish" (bt 6 (xJ c)) [] (af 3) (aP (e2 cv (af 4) (eC (.int 0))) (aP (e2 cv (e2 cv (af 4) (eC (.int 3))) (eC (.int 0))) (aP (e1 HF (e2 cv (e2 cv (af 4) (eC (.int 3))) (eC (.int 1)))) (aP (e2 cv (e2 cv (af 4) (eC (.int 3))) (eC (.int 2))) (aP (e2 cv (e2 cv (af 4) (eC (.int 3))) (eC (.int 3))) aF))))))) (eV (si (nA (e2 cv (af 4) (eC (.int 4))))) (ic (i8 c.hall "switch" (bt 3 (zv c)) [] (af 3) (aP (e2 cv (af 4) (eC (.int 0))) (aP (eC (.bl false)) aF)))) gp))
def TF(c:Cl):DS:=(aR (cE 3 (zp c.hall (bt 1 (E_ c)) [] aF)) (aR (ic (i8 c.hall "open_place" (bt 4 (CB c)) [] (af 3) (aP (eC (.str "hub")) (aP (af 1) (aP (af 2) aF))))) (aR (ic (i8 c.hall "open_place" (bt 4 (CB c)) [] (af 3) (aP (eC (.str "side")) (aP (eC (.str "all")) (aP (eC (.str "hold")) aF))))) (aR (eW (iL (af 0)) (eM 4) (MW c)) (aR (eW (iL (af 0)) (eM 4) (Iw c)) (b_ (af 3)))))))
def CD(c:Cl):Fn:=cH 5 (TF c)
noncomputable def CF(c:Cl):DS:=(wI (af 2) (af 3) Co)
noncomputable def Bi(c:Cl):DS:=(eV (dN (e2 jf (af 5) (af 2))) (wI (e2 je (af 2) (af 3)) (af 5) (eC (.bl true))) gp)
noncomputable def Bj(c:Cl):DS:=(eV (dN (e2 jf (af 5) (af 2))) (wI (e2 je (af 2) (af 5)) (af 3) (eC (.bl true))) gp)
def CG(c:Cl):DS:=(aR (cE 4 (i8 c.hall "find_piece" (bt 2 (tY c)) [] (af 0) (aP (af 3) aF))) (aR (eW (iL (e1 (df c.piece "ahead") (af 4))) (eM 5) (Bi c)) (eW (iL (e1 (df c.piece "behind") (af 4))) (eM 5) (Bj c))))
def MX(c:Cl):DS:=(aR (cE 2 Co) (aR (eW (iL (af 1)) (eM 3) (CF c)) (aR (eW (iL (af 1)) (eM 3) (CG c)) (b_ (af 2)))))
def Fc(c:Cl):Fn:=lg (cH 6 (MX c))
noncomputable def Iy(c:Cl):DE:=(e2 jf (af 1) (e2 je (af 2) (af 0)))
noncomputable def Iz(c:Cl):DI:=(iL (af 1))
def CH(c:Cl):DS:=(eV (si (nA (e1 tV (k_ 1 [2,0] (Iz c) (eM 0) kG (Iy c) iu)))) (b_ (af 2)) gp)
def MY(c:Cl):DS:=(aR (eW (iL (af 1)) (eM 2) (CH c)) (b_ (eC .bq)))
def CI(c:Cl):Fn:=cH 3 (MY c)
noncomputable def tZ(c:Cl):DS:=(aR (eV (dN (e2 fD (af 6) (af 1))) (b_ (af 5)) gp) (eV (dN (e2 vy (af 6) (af 3))) (aR (wI (af 3) (af 6) (eC (.bl true))) (ic (kz kF kb (af 4) (aP (e2 fT (af 5) (eA fN (aP (af 6) aF))) aF)))) gp))
def uB(c:Cl):DS:=(eW (iK (e2 je (af 0) (e2 cv (af 5) (e1 tW (eC (.int 1)))))) (eM 6) (tZ c))
def uC(c:Cl):DS:=(aR (cE 4 (eA jg aF)) (aR (eW (iL (af 2)) (eM 5) (uB c)) (cE 2 (af 4))))
noncomputable def vL(c:Cl):DT:=(nA (af 2))
def IA(c:Cl):DS:=(aR (cE 2 (eA fN (aP (eA fN (aP (af 1) aF)) aF))) (aR (cE 3 (Ba (af 1) (eC (.bl true)))) (aR (uw (vL c) (uC c)) (b_ (eA fN aF)))))
def IB(c:Cl):Fn:=lg (cH 7 (IA c))
def IC(c:Cl):DE:=(fH (bt 2 (IB c)) [] (aP (af 1) (aP (af 0) aF)))
noncomputable def Fd(c:Cl):DI:=(iK (af 0))
noncomputable def MZ(c:Cl):DE:=(af 0)
noncomputable def M0(c:Cl):DI:=(iL (af 1))
noncomputable def M2(c:Cl):DT:=(nA (af 0))
def TH(c:Cl):DS:=(aR (cE 1 (k_ 1 [0] (Fd c) (eM 0) kG (IC c) iu)) (b_ (e1 vJ (k_ 1 [] (M0 c) (eM 0) (M2 c) (MZ c) iu))))
def Fe(c:Cl):Fn:=cH 2 (TH c)
def t8(c:Cl):DS:=(aR (cE 5 (fH (bt 2 (CI c)) [] (aP (af 2) (aP (af 3) aF)))) (aR (eV (dN (e2 mL (af 5) (eC .bq))) (Mt c.ring "ring" (aP (fH (bt 1 (Fe c)) [] (aP (af 2) aF)) aF)) gp) (aR (ic (kz kF AY (af 3) (aP (af 5) aF))) (ic (kz kF kb (af 4) (aP (af 5) aF))))))
noncomputable def uD(c:Cl):DT:=(nA (af 3))
def M3(c:Cl):DS:=(aR (cE 2 (fH (bt 2 (Fc c)) [] (aP (af 0) (aP (af 1) aF)))) (aR (cE 3 (e1 wH (af 1))) (aR (cE 4 (eA jg aF)) (aR (uw (uD c) (t8 c)) (b_ (af 4))))))
def zw(c:Cl):Fn:=cH 6 (M3 c)
noncomputable def TJ(c:Cl):DS:=(aR (lP c.run "kind" (af 0) (af 1)) (aR (lP c.run "rule" (af 0) (af 2)) (aR (lP c.run "number" (af 0) (af 3)) (aR (lP c.run "deeds" (af 0) (e1 wH (af 4))) (aR (lP c.run "held" (af 0) (eA jg aF)) (aR (lP c.run "broken" (af 0) (eC (.bl false))) (aR (lP c.run "pairs" (af 0) (eA jg aF)) (aR (lP c.run "found" (af 0) (eC .bq)) (lP c.run "around" (af 0) (eA jg aF))))))))))
def Ff(c:Cl):Fn:=cH 5 (TJ c)
noncomputable def M4(c:Cl):DE:=(eA f_ (aP (af 0) (aP (e1 (df c.piece "deed") (i8 c.hall "find_piece" (bt 2 (tY c)) [] (af 1) (aP (af 0) aF))) aF)))
def Fg(c:Cl):DI:=(iL (fH (bt 2 (zw c)) [] (aP (af 0) (aP (af 2) aF))))
def M5(c:Cl):DS:=(aR (cE 4 (i8 c.hall "find_place" (bt 2 (xI c)) [] (af 0) (aP (af 1) aF))) (aR (cE 5 (k_ 1 [0] (Fg c) (eM 0) kG (M4 c) iu)) (b_ (zp c.run (bt 5 (Ff c)) [] (aP (e1 (df c.place "kind") (af 4)) (aP (e1 (df c.place "rule") (af 4)) (aP (af 3) (aP (af 5) aF))))))))
def zx(c:Cl):Fn:=cH 6 (M5 c)
noncomputable def CJ(c:Cl):DE:=(af 0)
noncomputable def ID(c:Cl):DE:=(e1 (df c.hall "pieces") (af 0))
noncomputable def zy(c:Cl):DT:=(vw (dN (e2 fD (e1 (df c.piece "place") (af 1)) (af 2))) (nA (e1 (df c.piece "on") (af 1))))
def TK(c:Cl):DS:=(aR (ic (i8 c.hall "find_place" (bt 2 (xI c)) [] (af 0) (aP (af 1) aF))) (b_ (EW oQ 2 [1] (ID c) (qh 0 1) (zy c) (CJ c) iu)))
def CK(c:Cl):Fn:=cH 2 (TK c)
def M6(c:Cl):DS:=(b_ (fH (bt 4 (zx c)) [] (aP (af 0) (aP (af 1) (aP (i8 c.hall "at" (bt 2 (CK c)) [] (af 0) (aP (af 1) aF)) (aP (af 2) aF))))))
def vM(c:Cl):Fn:=cH 3 (M6 c)
noncomputable def xK(c:Cl):DS:=(eV (dN (e2 jf (e1 (df c.piece "by") (af 4)) (af 2))) (wI (af 2) (af 3) (eC (.bl true))) gp)
noncomputable def Bk(c:Cl):DS:=(ic (Mp (e1 (df c.hall "pieces") (af 0)) (af 3)))
def TL(c:Cl):DS:=(aR (ic (i8 c.hall "find_piece" (bt 2 (tY c)) [] (af 0) (aP (af 1) aF))) (aR (cE 2 (Ba (af 1) (eC (.bl true)))) (aR (xE oQ (e1 (df c.hall "pieces") (af 0)) (qh 3 4) (xK c)) (aR (xE xD (af 2) (eM 3) (Bk c)) (b_ (e1 tQ (af 2)))))))
def CL(c:Cl):Fn:=cH 5 (TL c)
def M7(c:Cl):DS:=(aR (cE 4 (e2 (gI fZ) (af 2) (eC (.int 5)))) (aR (cE 5 (e2 fT (eC (.str "new")) (e2 cv (eC (.str "abcdefghijklmnopqrstuvwxyz")) (e2 (gI fZ) (af 3) (eC (.int 26)))))) (aR (eV (lO (dN (e2 fD (af 4) (eC (.int 0)))) (dN (e2 fD (af 1) (eA fN aF)))) (aR (ic (i8 c.hall "hang" (bt 5 (Bh c)) [.bq] (af 0) (aP (af 5) (aP (eC (.str "hub")) (aP (eA f_ (aP (eC (.str "add")) (aP (e2 (gI fZ) (af 2) (eC (.int 1000))) aF))) aF))))) (aR (ic (kz kF kb (af 1) (aP (eA f_ (aP (af 5) (aP (eC (.str "hub")) (aP (eA f_ (aP (eC (.str "add")) (aP (e2 (gI fZ) (af 2) (eC (.int 1000))) aF))) (aP (eA fN (aP (eA fN aF) (aP (eA fN aF) (aP (eA fN aF) (aP (eA fN aF) aF))))) (aP (eC (.bl true)) aF)))))) aF))) LM)) gp) (aR (cE 6 (e2 (gI fZ) (e2 (gI jH) (af 2) (eC (.int 5))) (e1 hW (af 1)))) (aR (cE 7 (e2 cv (af 1) (af 6))) (eV (dN (e2 fD (af 4) (eC (.int 1)))) (aR (ic (i8 c.hall "drop" (bt 2 (CL c)) [] (af 0) (aP (e2 cv (af 7) (eC (.int 0))) aF))) (ic (kz kF wJ (af 1) (aP (af 6) aF)))) (eV (dN (e2 fD (af 4) (eC (.int 4)))) (aR (cE 8 (e2 cv (e2 cv (af 1) (e2 (gI fZ) (e2 (gI jH) (af 2) (eC (.int 50))) (e1 hW (af 1)))) (eC (.int 0)))) (aR (ic (i8 c.hall "wish" (bt 6 (xJ c)) [.bq,.bq,.bq] (af 0) (aP (e2 cv (af 7) (eC (.int 0))) (aP (eA fN (aP (af 8) aF)) aF)))) (AR (af 1) (af 6) (eA f_ (aP (e2 cv (af 7) (eC (.int 0))) (aP (e2 cv (af 7) (eC (.int 1))) (aP (e2 cv (af 7) (eC (.int 2))) (aP (e2 fT (eA fN (aP (e2 fT (e2 cv (e2 cv (af 7) (eC (.int 3))) (eC (.int 0))) (eA fN (aP (af 8) aF))) aF)) (uz (e2 cv (af 7) (eC (.int 3))) (uy (eC (.int 1))) ux)) (aP (e2 cv (af 7) (eC (.int 4))) aF))))))))) (aR (ic (i8 c.hall "switch" (bt 3 (zv c)) [] (af 0) (aP (e2 cv (af 7) (eC (.int 0))) (aP (e2 fD (af 4) (eC (.int 2))) aF)))) (AR (af 1) (af 6) (eA f_ (aP (e2 cv (af 7) (eC (.int 0))) (aP (e2 cv (af 7) (eC (.int 1))) (aP (e2 cv (af 7) (eC (.int 2))) (aP (e2 cv (af 7) (eC (.int 3))) (aP (e2 fD (af 4) (eC (.int 2))) aF)))))))))))))))
def Fh(c:Cl):Fn:=cH 9 (M7 c)
noncomputable def TM(c:Cl):DS:=(b_ (xw (e1 (df c.run "deeds") (af 0))))
def t9(c:Cl):Fn:=cH 1 (TM c)
noncomputable def TN(c:Cl):DS:=(ic (kz kF EI (e1 (df c.run "deeds") (af 0)) aF))
def xM(c:Cl):Fn:=cH 1 (TN c)
noncomputable def M8(c:Cl):DS:=(aR (eV (dN (e2 fD (e1 (df c.run "rule") (af 0)) (eC (.str "hand")))) (aR (lP c.run "broken" (af 0) (eC (.bl true))) (aR (ic (i8 c.run "leave_the_rest" (bt 1 (xM c)) [] (af 0) aF)) (Mm c.deedFault "piece" "code" false (aP (af 1) (aP (af 2) aF))))) gp) (ic (kz kF kb (e1 (df c.run "held") (af 0)) (aP (eA f_ (aP (af 1) (aP (af 2) aF))) aF))))
def Bl(c:Cl):Fn:=cH 3 (M8 c)
noncomputable def TQ(c:Cl):DS:=(aR (eV (dN (e2 fD (e2 cv (af 0) (eC (.int 0))) (eC (.str "add")))) (b_ (e2 fT (af 1) (e2 cv (af 0) (eC (.int 1))))) gp) (aR (eV (dN (e2 fD (e2 cv (af 0) (eC (.int 0))) (eC (.str "say")))) (b_ (e2 cv (af 0) (eC (.int 1)))) gp) (b_ (eC .bq))))
def uE(c:Cl):Fn:=cH 2 (TQ c)
noncomputable def Fi(c:Cl):DS:=(eV (dN (e2 fD (e2 cv (af 1) (eC (.int 0))) (eC (.str "add")))) (aR (ic (kz kF kb (e1 (df c.run "around") (af 0)) (aP (e2 cv (af 1) (eC (.int 1))) aF))) (lP c.run "number" (af 0) (fH (bt 2 (uE c)) [] (aP (af 1) (aP (e1 (df c.run "number") (af 0)) aF))))) (eV (dN (e2 fD (e2 cv (af 1) (eC (.int 0))) (eC (.str "say")))) (aR (lP c.run "number" (af 0) (fH (bt 2 (uE c)) [] (aP (af 1) (aP (e1 (df c.run "number") (af 0)) aF)))) (ic (i8 c.run "leave_the_rest" (bt 1 (xM c)) [] (af 0) aF))) gp))
def zA(c:Cl):Fn:=cH 2 (Fi c)
noncomputable def M9(c:Cl):DS:=(eV (dN (e2 fD (e1 (df c.run "kind") (af 0)) (eC (.str "first")))) (aR (lP c.run "found" (af 0) (af 1)) (ic (i8 c.run "leave_the_rest" (bt 1 (xM c)) [] (af 0) aF))) (lP c.run "number" (af 0) (af 1)))
def CN(c:Cl):Fn:=cH 2 (M9 c)
noncomputable def Bm(c:Cl):DS:=(eV (dN (e2 fD (e2 cv (af 2) (eC (.int 0))) (eC (.str "fail")))) (ic (i8 c.run "fall" (bt 3 (Bl c)) [] (af 0) (aP (af 1) (aP (e2 cv (af 2) (eC (.int 1))) aF)))) (eV (dN (e2 fD (e1 (df c.run "kind") (af 0)) (eC (.str "all")))) (ic (kz kF kb (e1 (df c.run "pairs") (af 0)) (aP (eA f_ (aP (af 1) (aP (fH (bt 2 (uE c)) [] (aP (af 2) (aP (e1 (df c.run "number") (af 0)) aF))) aF))) aF))) (eV (dN (e2 fD (e1 (df c.run "kind") (af 0)) (eC (.str "round")))) (ic (i8 c.run "go_within" (bt 2 (zA c)) [] (af 0) (aP (af 2) aF))) (eV (dN (e2 oz (e2 cv (af 2) (eC (.int 0))) (eC (.str "none")))) (ic (i8 c.run "hear" (bt 2 (CN c)) [] (af 0) (aP (fH (bt 2 (uE c)) [] (aP (af 2) (aP (e1 (df c.run "number") (af 0)) aF))) aF))) gp))))
def uF(c:Cl):Fn:=cH 3 (Bm c)
noncomputable def IE(c:Cl):DS:=(aR (eV (nA (i8 c.run "over" (bt 1 (t9 c)) [] (af 0) aF)) (b_ (eC .bq)) gp) (aR (cE 1 (kz kF wJ (e1 (df c.run "deeds") (af 0)) (aP (eC (.int 0)) aF))) (aR (ic (i8 c.run "perform" (bt 3 (uF c)) [] (af 0) (aP (e2 cv (af 1) (eC (.int 0))) (aP (e2 cv (af 1) (eC (.int 1))) aF)))) (b_ (e2 cv (af 1) (eC (.int 0)))))))
def uG(c:Cl):Fn:=cH 2 (IE c)
noncomputable def TR(c:Cl):DS:=(b_ (e1 tQ (e1 (df c.run "held") (af 0))))
def Bn(c:Cl):Fn:=cH 1 (TR c)
noncomputable def IF(c:Cl):DS:=(cE 2 (e2 fT (e2 (gI pA) (af 2) (eC (.int 10))) (af 3)))
def TU(c:Cl):DS:=(aR (cE 2 (af 0)) (aR (eW (xB (aP (af 1) aF)) (eM 3) (IF c)) (b_ (af 2))))
def Fj(c:Cl):Fn:=cH 4 (TU c)
def TV(c:Cl):DS:=(aR (eV (lO (nA (e1 (df c.run "broken") (af 0))) (si (nA (i8 c.run "over" (bt 1 (t9 c)) [] (af 0) aF)))) pI gp) (aR (eV (dN (e2 fD (e1 (df c.run "kind") (af 0)) (eC (.str "all")))) (b_ (e1 tQ (e1 (df c.run "pairs") (af 0)))) gp) (aR (eV (dN (e2 fD (e1 (df c.run "kind") (af 0)) (eC (.str "first")))) (b_ (e1 (df c.run "found") (af 0))) gp) (aR (eV (dN (e2 fD (e1 (df c.run "kind") (af 0)) (eC (.str "chain")))) (b_ (e1 (df c.run "number") (af 0))) gp) (b_ (fH (bt 2 (Fj c)) [] (aP (e1 (df c.run "number") (af 0)) (aP (e1 (df c.run "around") (af 0)) aF))))))))
def Bo(c:Cl):Fn:=cH 1 (TV c)
noncomputable def zB(c:Cl):DS:=(ic (i8 c.run "step" (bt 1 (uG c)) [] (af 0) aF))
noncomputable def xN(c:Cl):DT:=(si (nA (i8 c.run "over" (bt 1 (t9 c)) [] (af 0) aF)))
def M_(c:Cl):DS:=(aR (uw (xN c) (zB c)) (b_ (eA f_ (aP (i8 c.run "answer" (bt 1 (Bo c)) [] (af 0) aF) (aP (i8 c.run "faults" (bt 1 (Bn c)) [] (af 0) aF) aF)))))
def vN(c:Cl):Fn:=cH 1 (M_ c)
def IG(c:Cl):DS:=(b_ (fH (bt 1 (vN c)) [] (aP (fH (bt 3 (vM c)) [] (aP (af 0) (aP (af 1) (aP (af 2) aF)))) aF)))
def wN(c:Cl):Fn:=cH 3 (IG c)
noncomputable def xO(Rc:Fn)(c:Cl):DS:=(aR (eV (dN (e2 fD (af 0) (eA fN aF))) (b_ (af 1)) gp) (aR (cE 3 (e2 cv (e2 cv (af 0) (eC (.int 0))) (eC (.int 1)))) (aR (eV (dN (e2 fD (e2 cv (af 3) (eC (.int 0))) (eC (.str "say")))) (b_ (e2 cv (af 3) (eC (.int 1)))) gp) (aR (eV (dN (e2 fD (e2 cv (af 3) (eC (.int 0))) (eC (.str "add")))) (b_ (e2 fT (e2 (gI pA) (eC (.int 10)) (fH (bt 3 Rc) [] (aP (uz (af 0) (uy (eC (.int 1))) ux) (aP (e2 fT (af 1) (e2 cv (af 3) (eC (.int 1)))) (aP (af 2) aF))))) (e2 cv (af 3) (eC (.int 1))))) gp) (aR (eV (dN (e2 fD (e2 cv (af 3) (eC (.int 0))) (eC (.str "fail")))) (ic (kz kF kb (af 2) (aP (eA f_ (aP (e2 cv (e2 cv (af 0) (eC (.int 0))) (eC (.int 0))) (aP (e2 cv (af 3) (eC (.int 1))) aF))) aF))) gp) (b_ (fH (bt 3 Rc) [] (aP (uz (af 0) (uy (eC (.int 1))) ux) (aP (af 1) (aP (af 2) aF))))))))))
noncomputable def CO(c:Cl):Nat->Fn
 |0=>λ_=>M.bad
 |n+1=>cH 4 (xO (CO c n) c)
def Fk(c:Cl):Fn:=CO c 24
noncomputable def qm(c:Cl):DS:=(aR (cE 7 (fH (bt 2 (uE c)) [] (aP (af 6) (aP (af 2) aF)))) (eV (dN (e2 fD (e2 cv (af 6) (eC (.int 0))) (eC (.str "fail")))) (ic (kz kF kb (af 3) (aP (eA f_ (aP (af 5) (aP (e2 cv (af 6) (eC (.int 1))) aF))) aF))) (eV (vw (dN (e2 fD (af 0) (eC (.str "first")))) (dN (e2 vx (af 7) (eC .bq)))) (b_ (af 7)) (eV (dN (e2 fD (af 0) (eC (.str "all")))) (ic (kz kF kb (af 4) (aP (eA f_ (aP (af 5) (aP (af 7) aF))) aF))) (eV (vw (dN (e2 fD (af 0) (eC (.str "chain")))) (dN (e2 vx (af 7) (eC .bq)))) (cE 2 (af 7)) gp)))))
def IH(c:Cl):DS:=(aR (eV (dN (e2 fD (af 0) (eC (.str "round")))) (b_ (fH (bt 3 (Fk c)) [] (aP (af 1) (aP (af 2) (aP (af 3) aF))))) gp) (aR (cE 4 (eA jg aF)) (aR (eW (iL (af 1)) (qh 5 6) (qm c)) (b_ (e2 je (E2 (eC (.str "all")) (af 4) (eC (.str "first")) (eC .bq) (eC (.str "chain")) (af 2)) (af 0))))))
def xP(c:Cl):Fn:=cH 8 (IH c)
def Fm(c:Cl):DS:=(aR (cE 4 (eA jg aF)) (aR (cE 5 (fH (bt 4 (xP c)) [] (aP (af 0) (aP (af 2) (aP (af 3) (aP (af 4) aF)))))) (aR (eV (vw (dN (e2 fD (af 1) (eC (.str "hand")))) (dN (e2 oz (af 4) (eA fN aF)))) (b_ (eA f_ (aP (eC (.str "fault")) (aP (e2 cv (af 4) (eC (.int 0))) aF)))) gp) (b_ (eA f_ (aP (eC (.str "told")) (aP (eA f_ (aP (af 5) (aP (af 4) aF))) aF)))))))
def zC(c:Cl):Fn:=lg (cH 6 (Fm c))
noncomputable def TX(c:Cl):DS:=(b_ (pC (e1 (kE .int) (af 0)) (xw (e1 (kE .bool) (af 0)))))
def Fo(c:Cl):Fn:=cH 1 (TX c)
noncomputable def M'(c:Cl):DS:=(aR (eV (dN (e2 mL (af 1) (eC .bq))) (b_ (e2 mL (af 0) (eC .bq))) gp) (b_ (pC (fH (bt 1 (Fo c)) [] (aP (af 0) aF)) (e2 fD (af 0) (af 1)))))
def zD(c:Cl):Fn:=cH 2 (M' c)
noncomputable def II(c:Cl):DS:=(aR (cE 3 (e2 cv (af 0) (af 2))) (eV (lO (si (nA (e1 (kE .tuple) (af 3)))) (lO (dN (e2 oz (e1 hW (af 3)) (eC (.int 2)))) (lO (dN (e2 oz (e2 cv (af 3) (eC (.int 0))) (e2 cv (e2 cv (af 1) (af 2)) (eC (.int 0))))) (si (nA (fH (bt 2 (zD c)) [] (aP (e2 cv (af 3) (eC (.int 1))) (aP (e2 cv (e2 cv (af 1) (af 2)) (eC (.int 1))) aF)))))))) (b_ (eC (.bl false))) gp))
def TY(c:Cl):DS:=(aR (eV (lO (si (nA (e1 (kE .list) (af 0)))) (dN (e2 oz (e1 hW (af 0)) (e1 hW (af 1))))) (b_ (eC (.bl false))) gp) (aR (eW (vB (aP (e1 hW (af 1)) aF)) (eM 2) (II c)) (b_ (eC (.bl true)))))
def vO(c:Cl):Fn:=cH 4 (TY c)
def Na(c:Cl):DS:=(aR (eV (nA (e1 (kE .list) (af 1))) (b_ (fH (bt 2 (vO c)) [] (aP (af 0) (aP (af 1) aF)))) gp) (b_ (fH (bt 2 (zD c)) [] (aP (af 0) (aP (af 1) aF)))))
def xQ(c:Cl):Fn:=cH 2 (Na c)
def IJ(c:Cl):DS:=(cE 5 (fH (bt 3 (wN c)) [] (aP (af 0) (aP (eC (.str "hub")) (aP (af 3) aF)))))
noncomputable def TZ(c:Cl):DS:=(cE 5 (eA f_ (aP (eC (.str "ring")) aF)))
def Nb(c:Cl):DS:=(aR (cE 4 (fH (bt 1 (xH c)) [] (aP (af 2) aF))) (aR (cE 5 (eC .bq)) (aR (vH (IJ c) [5] (H_ (vI [c.ring] c.ring) (TZ c) SM)) (aR (eV (dN (e2 mL (af 4) (eC .bq))) (b_ (e2 fD (af 5) (eA f_ (aP (eC (.str "ring")) aF)))) gp) (aR (eV (lO (si (nA (e1 (kE .tuple) (af 5)))) (dN (e2 oz (e1 hW (af 5)) (eC (.int 2))))) (b_ (eC (.bl false))) gp) (aR (cE 6 (e2 cv (fH (bt 4 (zC c)) [] (aP (af 1) (aP (eC (.str "hold")) (aP (af 4) (aP (af 3) aF))))) (eC (.int 1)))) (b_ (pC (fH (bt 2 (xQ c)) [] (aP (e2 cv (af 5) (eC (.int 0))) (aP (e2 cv (af 6) (eC (.int 0))) aF))) (fH (bt 2 (vO c)) [] (aP (e2 cv (af 5) (eC (.int 1))) (aP (e2 cv (af 6) (eC (.int 1))) aF)))))))))))
def Bp(c:Cl):Fn:=cH 7 (Nb c)
def T1(c:Cl):DS:=(aR (cE 4 (e2 cv (fH (bt 4 (zC c)) [] (aP (af 1) (aP (eC (.str "hold")) (aP (af 2) (aP (af 3) aF))))) (eC (.int 1)))) (b_ (pC (fH (bt 2 (xQ c)) [] (aP (i8 c.run "answer" (bt 1 (Bo c)) [] (af 0) aF) (aP (e2 cv (af 4) (eC (.int 0))) aF))) (fH (bt 2 (vO c)) [] (aP (i8 c.run "faults" (bt 1 (Bn c)) [] (af 0) aF) (aP (e2 cv (af 4) (eC (.int 1))) aF))))))
def Fp(c:Cl):Fn:=cH 5 (T1 c)
def CP(c:Cl):DS:=(aR (ic (fH (bt 4 (Fh c)) [] (aP (af 5) (aP (af 1) (aP (fH (bt 2 (sA c)) [] (aP (af 0) (aP (e2 fT (eC (.int 33)) (af 7)) aF))) (aP (af 7) aF)))))) (aR (ic (i8 c.run "step" (bt 1 (uG c)) [] (af 6) aF)) (eV (vw (dN (e2 fD (af 7) (eC (.int 2)))) (si (nA (fH (bt 4 (Bp c)) [] (aP (af 5) (aP (af 2) (aP (af 1) (aP (e2 fT (af 3) (eC (.int 1))) aF)))))))) (b_ (eC (.bl false))) gp)))
def IK(c:Cl):DS:=(aR (cE 1 (fH (bt 1 (Cy c)) [] (aP (af 0) aF))) (aR (cE 2 (e2 cv (eA fN (aP (eC (.str "all")) (aP (eC (.str "first")) (aP (eC (.str "chain")) (aP (eC (.str "round")) aF))))) (e2 (gI fZ) (fH (bt 2 (sA c)) [] (aP (af 0) (aP (eC (.int 1)) aF))) (eC (.int 4))))) (aR (cE 3 (e2 (gI vt) (e2 (gI fZ) (fH (bt 2 (sA c)) [] (aP (af 0) (aP (eC (.int 2)) aF))) (eC (.int 2001))) (eC (.int 1000)))) (aR (cE 4 (fH (bt 1 (xH c)) [] (aP (af 1) aF))) (aR (eV (dN (e2 mL (af 4) (eC .bq))) (b_ (eC (.bl true))) gp) (aR (cE 5 (fH (bt 3 (CD c)) [] (aP (af 1) (aP (af 2) (aP (eC (.str "hold")) aF))))) (aR (cE 6 (fH (bt 3 (vM c)) [] (aP (af 5) (aP (eC (.str "hub")) (aP (af 3) aF))))) (aR (eW (vB (aP (eC (.int 12)) aF)) (eM 7) (CP c)) (aR (eV (lO (dN (e2 vx (i8 c.run "over" (bt 1 (t9 c)) [] (af 6) aF) (eC (.bl true)))) (si (nA (fH (bt 4 (Fp c)) [] (aP (af 6) (aP (af 2) (aP (af 4) (aP (af 3) aF)))))))) (b_ (eC (.bl false))) gp) (b_ (fH (bt 4 (Bp c)) [] (aP (af 5) (aP (af 2) (aP (af 1) (aP (af 3) aF)))))))))))))))
def T2(c:Cl):Fn:=cH 8 (IK c)
end DN
namespace K07
open PySem L2 MF DN
noncomputable def top(i:Nat):bS:=B5.main.body.getD i (.Pass ⟨0,0,0,0⟩)
structure Tx(K:W.Frag)(mg:Str->Option ag)(c:Cl):Prop where
 mh:rW K c.hallError=aa lK
 mro:∀C∈[c.ring],C≠c.hallError->rW K C=aa (.ref c.hallError::lK)
 Fq:mg "any" = ae
 Bq:mg "bool" = ae
 oR:∃t,mg "MOST_PIECES" = aa (.int 24 t)
 oS:∃t,mg "MOST_PLACES" = aa (.int 8 t)
 fj:nj K c.hall
 dC:ly K c.hall "pieces"
 fJ:ly K c.hall "places"
 c9:nj K c.piece
 jh:ly K c.piece "ahead"
 lR:ly K c.piece "bars"
 iO:ly K c.piece "behind"
 nY:ly K c.piece "by"
 lS:ly K c.piece "deed"
 kO:ly K c.piece "needs"
 lj:ly K c.piece "on"
 kP:ly K c.piece "place"
 lT:nj K c.place
 lU:ly K c.place "kind"
 lV:ly K c.place "rule"
 cA:nj K c.run
 jI:ly K c.run "around"
 jJ:ly K c.run "broken"
 jb:ly K c.run "deeds"
 ke:ly K c.run "found"
 lq:ly K c.run "held"
 gA:ly K c.run "kind"
 dD:ly K c.run "number"
 ki:ly K c.run "pairs"
 nZ:ly K c.run "rule"
 T3:W.specialIn K (.ref c.hallError) "__getattribute__" = aa (aa (.builtin "type.__getattribute__"))
 T4:W.readsIn K c.hallError (.type "type")=true
 T5:W.findCls K (.ref c.hallError) (.type "type") "__init__" = aa (.val (.builtin "ValueError.__init__"))
 pJ:rY K c.deedFault
 lr:W.findIn K (.ref c.deedFault) "piece" = aa ae
 lW:W.findIn K (.ref c.deedFault) "code" = aa ae
 xR:rY K c.ring
 pK:W.findIn K (.ref c.ring) "ring" = aa ae
 Fs:mg "int" = ae
 f':mg "isinstance" = ae
 kj:mg "len" = ae
 ji:mg "list" = ae
 qX:mg "DeedFault" = aa (.ref c.deedFault)
 mO:mg "HallError" = aa (.ref c.hallError)
 vP:mg "Ring" = aa (.ref c.ring)
 Ft:mg "min" = ae
 Br:c.ring≠c.hallError
 xS:rW K c.ring=aa (.ref c.hallError::lK)
 nB:mg "range" = ae
 sC:mg "reversed" = ae
 pL:mg "tuple" = ae
local macro_rules | `(tactic| walk_at "s") => `(tactic| exact ⟨rfl, rfl, rfl, by decide +kernel, rfl, by decide +kernel, by decide +kernel⟩)
abbrev Nc:bS:=top 31
theorem zpf:gn ["script", "k"] ["script", "k"] (d8 Nc):=by walk_at "s"
abbrev Nd:bS:=top 32
theorem T6:gn ["k", "letters"] ["k"] (d8 Nd):=by walk_at "s"
abbrev Nf:bS:=top 34
theorem zvn:gn ["cell", "many"] ["cell", "many"] (d8 Nf):=by walk_at "s"
abbrev Ng:bS:=top 33
theorem Nh:gn ["cell", "number"] ["cell"] (d8 Ng):=by walk_at "s"
abbrev Ni:bS:=top 35
theorem xT:gn ["script", "start", "many", "pieces", "k", "one", "two", "three", "place", "wishes"] ["script", "start", "many"] (d8 Ni):=by walk_at "s"
abbrev Nj:bS:=top 49
theorem Nk:gn ["script", "pieces"] ["script"] (d8 Nj):=by walk_at "s"
abbrev Nl:bS:=top 37
theorem zrg:gn ["pieces"] ["pieces"] (d8 Nl):=by walk_at "s"
abbrev Nm:bS:=top 39
theorem T7:gn ["name", "left", "pairs", "pair"] ["name", "left", "pairs"] (d8 Nm):=by walk_at "s"
abbrev Nn:bS:=top 40
theorem IL:gn ["names", "pairs", "left", "found", "free"] ["names", "pairs"] (d8 Nn):=by walk_at "s"
abbrev Np:bS:=top 38
theorem Nq:gn ["pieces", "names", "pairs", "piece"] ["pieces", "names"] (d8 Np):=by walk_at "s"
abbrev Nr:bS:=top 51
theorem Fu:gn ["pieces", "names", "row", "rows", "name"] ["pieces"] (d8 Nr):=by walk_at "s"
abbrev Nt:bS:=nP (top 28) 0
theorem zm5:gn ["self"] ["self"] (d8 Nt):=by walk_at "s"
abbrev Nu:bS:=nP (top 26) 0
theorem zl7:gn ["self", "kind", "rule"] ["self", "kind", "rule"] (d8 Nu):=by walk_at "s"
abbrev Nv:bS:=nP (top 28) 1
theorem zli:gn ["self", "name", "kind", "rule"] ["self", "name", "kind", "rule"] (d8 Nv):=by walk_at "s"
abbrev Nw:bS:=nP (top 28) 9
theorem zlj:gn ["self", "name"] ["self", "name"] (d8 Nw):=by walk_at "s"
abbrev Nx:bS:=nP (top 27) 0
theorem zl8:gn ["self", "place", "deed", "by"] ["self", "place", "deed", "by"] (d8 Nx):=by walk_at "s"
abbrev Bs:bS:=nP (top 28) 2
theorem zti:gn ["self", "name", "place", "deed", "by"] ["self", "name", "place", "deed", "by"] (d8 Bs):=by walk_at "s"
abbrev Ny:bS:=nP (top 28) 10
theorem zlk:gn ["self", "name"] ["self", "name"] (d8 Ny):=by walk_at "s"
abbrev Nz:bS:=top 29
theorem z2c:gn ["names"] ["names"] (d8 Nz):=by walk_at "s"
abbrev Bt:bS:=nP (top 28) 3
theorem T8:gn ["self", "name", "ahead", "behind", "needs", "bars", "piece"] ["self", "name", "ahead", "behind", "needs", "bars"] (d8 Bt):=by walk_at "s"
abbrev NA:bS:=nP (top 28) 7
theorem T9:gn ["self", "name", "on", "piece"] ["self", "name", "on"] (d8 NA):=by walk_at "s"
abbrev NB:bS:=top 36
theorem IM:gn ["pieces", "kind", "rule", "hall", "piece"] ["pieces", "kind", "rule"] (d8 NB):=by walk_at "s"
abbrev NC:bS:=top 11
theorem Bu:gn ["hall", "names", "seconds", "name", "piece", "other"] ["hall", "names"] (d8 NC):=by walk_at "s"
abbrev ND:bS:=top 12
theorem T_:gn ["seconds", "left", "name"] ["seconds", "left"] (d8 ND):=by walk_at "s"
abbrev NF:bS:=top 14
theorem Bv:gn ["seconds", "start", "rows", "reached", "longer", "row", "second"] ["seconds", "start"] (d8 NF):=by walk_at "s"
abbrev NG:bS:=top 13
theorem Ua:gn ["seconds", "rings"] ["seconds"] (d8 NG):=by walk_at "s"
abbrev NH:bS:=nP (top 7) 0
theorem zm6:gn ["self", "ring"] ["self", "ring"] (d8 NH):=by walk_at "s"
abbrev NI:bS:=top 10
theorem Fv:gn ["hall", "names", "seconds", "left", "row", "name"] ["hall", "names"] (d8 NI):=by walk_at "s"
abbrev NJ:bS:=nP (top 16) 0
theorem zoo:gn ["self", "kind", "rule", "number", "deeds"] ["self", "kind", "rule", "number", "deeds"] (d8 NJ):=by walk_at "s"
abbrev NK:bS:=top 20
theorem NM:gn ["hall", "place", "names", "number", "spot", "deeds"] ["hall", "place", "names", "number"] (d8 NK):=by walk_at "s"
abbrev NN:bS:=nP (top 28) 8
theorem zza:gn ["self", "place"] ["self", "place"] (d8 NN):=by walk_at "s"
abbrev NO:bS:=top 19
theorem z46:gn ["hall", "place", "number"] ["hall", "place", "number"] (d8 NO):=by walk_at "s"
abbrev NP:bS:=nP (top 28) 6
theorem Fw:gn ["self", "name", "gone", "other", "piece"] ["self", "name"] (d8 NP):=by walk_at "s"
abbrev NQ:bS:=top 50
theorem CQ:gn ["hall", "pieces", "cell", "k", "way", "new", "at", "piece", "other"] ["hall", "pieces", "cell", "k"] (d8 NQ):=by walk_at "s"
abbrev NR:bS:=nP (top 16) 1
theorem zvp:gn ["self"] ["self"] (d8 NR):=by walk_at "s"
abbrev NT:bS:=nP (top 16) 9
theorem zjw:gn ["self"] ["self"] (d8 NT):=by walk_at "s"
abbrev NU:bS:=nP (top 8) 0
theorem zjx:gn ["self", "piece", "code"] ["self", "piece", "code"] (d8 NU):=by walk_at "s"
abbrev NV:bS:=nP (top 16) 6
theorem zvq:gn ["self", "name", "code"] ["self", "name", "code"] (d8 NV):=by walk_at "s"
abbrev NW:bS:=top 17
theorem z80:gn ["deed", "number"] ["deed", "number"] (d8 NW):=by walk_at "s"
abbrev NX:bS:=nP (top 16) 7
theorem zm7:gn ["self", "deed"] ["self", "deed"] (d8 NX):=by walk_at "s"
abbrev NY:bS:=nP (top 16) 8
theorem zvr:gn ["self", "number"] ["self", "number"] (d8 NY):=by walk_at "s"
abbrev NZ:bS:=nP (top 16) 5
theorem zpg:gn ["self", "name", "deed"] ["self", "name", "deed"] (d8 NZ):=by walk_at "s"
abbrev N0:bS:=nP (top 16) 2
theorem Ub:gn ["self", "pair"] ["self"] (d8 N0):=by walk_at "s"
abbrev N1:bS:=nP (top 16) 4
theorem zri:gn ["self"] ["self"] (d8 N1):=by walk_at "s"
abbrev N2:bS:=top 18
theorem IP:gn ["number", "around", "back", "own"] ["number", "around"] (d8 N2):=by walk_at "s"
abbrev N3:bS:=nP (top 16) 3
theorem zrj:gn ["self"] ["self"] (d8 N3):=by walk_at "s"
abbrev N4:bS:=top 22
theorem z2e:gn ["run"] ["run"] (d8 N4):=by walk_at "s"
abbrev N5:bS:=top 21
theorem z81:gn ["hall", "place", "number"] ["hall", "place", "number"] (d8 N5):=by walk_at "s"
abbrev IQ:bS:=top 42
theorem Uc:gn ["rows", "number", "held", "deed"] ["rows", "number", "held"] (d8 IQ):=by walk_at "s"
abbrev N6:bS:=top 41
theorem zvs:gn ["deed", "number"] ["deed", "number"] (d8 N6):=by walk_at "s"
abbrev N7:bS:=top 43
theorem CS:gn ["kind", "rows", "number", "held", "told", "name", "deed", "said_v"] ["kind", "rows", "number", "held"] (d8 N7):=by walk_at "s"
abbrev N8:bS:=top 44
theorem N9:gn ["kind", "rule", "rows", "number", "held", "answer"] ["kind", "rule", "rows", "number"] (d8 N8):=by walk_at "s"
abbrev N_:bS:=top 45
theorem ztj:gn ["found"] ["found"] (d8 N_):=by walk_at "s"
abbrev Oa:bS:=top 46
theorem ztk:gn ["found", "due"] ["found", "due"] (d8 Oa):=by walk_at "s"
abbrev Ob:bS:=top 47
theorem Oc:gn ["found", "due", "k", "one"] ["found", "due"] (d8 Ob):=by walk_at "s"
abbrev Od:bS:=top 48
theorem zk5:gn ["found", "due"] ["found", "due"] (d8 Od):=by walk_at "s"
abbrev Oe:bS:=top 53
theorem CT:gn ["hall", "kind", "pieces", "number", "rows", "found", "due"] ["hall", "kind", "pieces", "number"] (d8 Oe):=by walk_at "s"
abbrev Of:bS:=top 52
theorem Ud:gn ["run", "kind", "rows", "number", "due"] ["run", "kind", "rows", "number"] (d8 Of):=by walk_at "s"
abbrev CU:bS:=top 54
theorem zE:gn ["script", "pieces", "kind", "number", "rows", "hall", "run", "k"] ["script"] (d8 CU):=by walk_at "s"
section
variable (P:aU)(w:bz){K:W.Frag}{mg:Str->Option ag}(base:bR){c:Cl}(T:Tx K mg c){f:ai}{fd:bA}{dV:ag}
include T
set_option autoImplicit true
local macro_rules | `(tactic| walk_at "o") => `(tactic| first | exact Or.inl rfl | exact Or.inr rfl)
local macro_rules | `(tactic| walk_at "c") => `(tactic| exact ⟨rfl, (by first | exact Or.inr (Or.inl rfl) | exact Or.inr (Or.inr rfl)), (by walk_at "o"), (by walk_at "o"), rfl⟩)
theorem zph(F:cJ K "_law_cell_at" "_law_cell_at" Nc dV f fd)  : bH P w K mg base (dM P w) 1 f fd ["script", "k"] (fO 2 (sA c)):=
 gT F zpf λ_ _ _ _ _ _ hr fm dm=>by exact(cn (cP (LA (ev 1) (zk (by rfl) T.kj (ev 0))) (cF (fA (bI (ev 0) (ev 1)))) gS) (cF (fA bZ)))
theorem zvt(F:cJ K "_law_name" "_law_name" Nd dV f fd)  : bH P w K mg base (dM P w) 1 f fd ["k"] (fO 1 (wL c)):=
 gT F T6 λ_ _ _ _ _ _ hr fm dm=>by exact(cn (gO (i:=1) T6.nd (by rfl) (by walk_at "o") gF) (cn (cP (eQ dm (mx (ev 0) bZ) bZ) (cF (fA (bI (ev 1) (mx (ev 0) bZ)))) gS) (cF (fA (Zbr gF (be (Sb (xs:=["letters", "k"]) (js:=[1,0]) (nts:=["j"]) (by rfl) ⟨rfl,by decide +kernel,rfl,by decide +kernel,(λp hp=>by rcases aH.mp hp with rfl | hp;(· rfl);rcases aC.mp hp with rfl;rfl),rfl,⟨(by walk_at "c"),⟨(by walk_at "c"),trivial⟩⟩⟩ (GP (by rfl) T.nB (be (nV bZ (mx (ev 0) bZ)) bW)) HI (λ_ _ _=>(kx (i:=0) (show(["j", "letters", "k"]:List Str).Nodup by decide +kernel) (by rfl) (by walk_at "o"))) (mj _) (λ_ _ _=>(bI (ev 1) (mx (nV (ev 2) (Cm bZ (ev 0))) bZ))) vD) bW))))))
theorem zvu(F:cJ K "_law_some" "_law_some" Nf dV f fd)(G0:FnAt P w K mg base 1 "_law_name" ["k"] (wL c) f0 g0):bH P w K mg base (dM P w) 2 f fd ["cell", "many"] (fO 2 (wM c)):=
 gT F zvn λ_ _ _ _ _ _ hr fm dm=>by exact(cn (cP (ED (mx (ev 0) bZ) bZ) (cF (fA (mi bW))) gS) (cn (cP (eQ dm (mx (ev 0) bZ) bZ) (cF (fA (mi (be (gz G0 hr (by rfl) dQ (be (mx (ur (ev 0) bZ) (ev 1)) bW)) (be (gz G0 hr (by rfl) dQ (be (mx (ur (ev 0) bZ) (ev 1)) bW)) bW))))) gS) (cF (fA (mi (be (gz G0 hr (by rfl) dQ (be (mx (ur (ev 0) bZ) (ev 1)) bW)) bW))))))
theorem zvv(F:cJ K "_law_deed" "_law_deed" Ng dV f fd)  : bH P w K mg base (dM P w) 1 f fd ["cell"] (fO 1 (E4 c)):=
 gT F Nh λ_ _ _ _ _ _ hr fm dm=>by exact(cn (gO (i:=1) Nh.nd (by rfl) (by walk_at "o") (Ls (mx (ur (ev 0) bZ) bZ) bZ)) (cn (cP (eQ dm (mx (ur (ev 0) bZ) bZ) bZ) (cF (gO (i:=1) Nh.nd (by rfl) (by walk_at "o") (Ls (mx (ev 0) (Ry bZ bZ)) (Ry bZ bZ)))) gS) (cn (cP (eQ dm (mx (ev 0) bZ) bZ) (cF (fA (mM (be gF (be (ev 1) bW))))) gS) (cn (cP (eQ dm (mx (ev 0) bZ) bZ) (cF (fA (mM (be gF bW)))) gS) (cn (cP (eQ dm (mx (ev 0) bZ) bZ) (cF (fA (mM (be gF (be (ev 1) bW))))) gS) (cF (fA (mM (be gF (be (ev 1) bW))))))))))
theorem zrl(F:cJ K "_law_pieces" "_law_pieces" Ni dV f fd)(G0:FnAt P w K mg base 2 "_law_cell_at" ["script", "k"] (sA c) f0 g0)(G1:FnAt P w K mg base 2 "_law_some" ["cell", "many"] (wM c) f1 g1)(G2:FnAt P w K mg base 2 "_law_deed" ["cell"] (E4 c) f2 g2)(G3:FnAt P w K mg base 2 "_law_name" ["k"] (wL c) f3 g3):bH P w K mg base (dM P w) 3 f fd ["script", "start", "many"] (fO 3 (E5 c)):=
 gT F xT λ_ _ _ _ _ _ hr fm dm=>by exact(cn (gO (i:=3) xT.nd (by rfl) (by walk_at "o") (so bW)) (cn (qR aZ (by rfl) (GP (by rfl) T.nB (be (ev 2) bW)) HI (kx (i:=4) xT.nd (by rfl) (by walk_at "o")) (mj _) (cn (gO (i:=5) xT.nd (by rfl) (by walk_at "o") (gz G0 hr (by rfl) dQ (be (ev 0) (be (nV (ev 1) (Cm bZ (ev 4))) bW)))) (cn (gO (i:=6) xT.nd (by rfl) (by walk_at "o") (gz G0 hr (by rfl) dQ (be (ev 0) (be (nV (nV (ev 1) (Cm bZ (ev 4))) bZ) bW)))) (cn (gO (i:=7) xT.nd (by rfl) (by walk_at "o") (gz G0 hr (by rfl) dQ (be (ev 0) (be (nV (nV (ev 1) (Cm bZ (ev 4))) bZ) bW)))) (cn (gO (i:=8) xT.nd (by rfl) (by walk_at "o") (bI (mi (be gF (be gF (be gF (be gF bW))))) (mx (ur (ev 5) bZ) bZ))) (cn (gO (i:=9) xT.nd (by rfl) (by walk_at "o") (mi (be (gz G1 hr (by rfl) dQ (be (ev 6) (be (nV (ev 2) bZ) bW))) (be (gz G1 hr (by rfl) dQ (be (ur (ev 6) bZ) (be (nV (ev 2) bZ) bW))) bW)))) (cn (gO (i:=9) xT.nd (by rfl) (by walk_at "o") (nV (ev 9) (mi (be (gz G1 hr (by rfl) dQ (be (ev 7) (be (nV (ev 2) bZ) bW))) (be (gz G1 hr (by rfl) dQ (be (ur (ev 7) bZ) (be (nV (ev 2) bZ) bW))) bW))))) (cF (i7 (vA (ev 3) (be (mM (be (gz G3 hr (by rfl) dQ (be (ev 4) bW)) (be (ev 8) (be (gz G2 hr (by rfl) dQ (be (ev 5) bW)) (be (ev 9) (be (Lw dm (mx (ur (ev 5) bZ) bZ) bZ) bW)))))) bW))))))))))) (cF (fA (ev 3)))))
theorem zzc(F:cJ K "_law_set" "_law_set" Nj dV f fd)(G0:FnAt P w K mg base 3 "_law_pieces" ["script", "start", "many"] (E5 c) f0 g0)(G1:FnAt P w K mg base 3 "_law_cell_at" ["script", "k"] (sA c) f1 g1):bH P w K mg base (dM P w) 4 f fd ["script"] (fO 1 (Cy c)):=
 gT F Nk λ_ _ _ _ _ _ hr fm dm=>by exact(cn (gO (i:=1) Nk.nd (by rfl) (by walk_at "o") (gz G0 hr (by rfl) dQ (be (ev 0) (be bZ (be (mx (gz G1 hr (by rfl) dQ (be (ev 0) (be bZ bW))) bZ) bW))))) (cn (cP (ED (mx (ur (gz G1 hr (by rfl) dQ (be (ev 0) (be bZ bW))) bZ) bZ) bZ) (cF (LS (i:=1) (xs:=[]) (js:=[]) (nts:=["piece"]) (by rfl) ⟨rfl,by decide +kernel,rfl,by decide +kernel,(λp hp=>absurd hp cO),rfl,trivial⟩ (oF (ev 1)) (oP _) (λ_ _ _=>(kx (i:=0) (show(["piece"]:List Str).Nodup by decide +kernel) (by rfl) (by walk_at "o"))) (mj _) (λ_ _ _=>(mM (be (bI (ev 0) bZ) (be (bI (ev 0) bZ) (be (bI (ev 0) bZ) (be (mi (be (mi bW) (be (mi bW) (be (bI (bI (ev 0) bZ) bZ) (be (bI (bI (ev 0) bZ) bZ) bW))))) (be (bI (ev 0) bZ) bW))))))) Zeg Nk.nd (by rfl) (by walk_at "o") HV)) gS) (cF (fA (ev 1)))))
theorem zrm(F:cJ K "_law_at_hub" "_law_at_hub" Nl dV f fd)  : bH P w K mg base (dM P w) 1 f fd ["pieces"] (fO 1 (E7 c)):=
 gT F zrg λ_ _ _ _ _ _ hr fm dm=>by exact(cF (fA (EM (xs:=[]) (js:=[]) (nts:=["piece"]) (by rfl) ⟨rfl,by decide +kernel,rfl,by decide +kernel,(λp hp=>absurd hp cO),rfl,trivial⟩ (oF (ev 0)) (oP _) (λ_ _ _=>(kx (i:=0) (show(["piece"]:List Str).Nodup by decide +kernel) (by rfl) (by walk_at "o"))) (mj _) (λ_ _ _=>((AM (eQ dm (bI (ev 0) bZ) gF) (AL (pB (bI (ev 0) bZ))))).pt) (λ_ _ _=>(bI (ev 0) bZ)) vD)))
theorem zvw(F:cJ K "_law_free" "_law_free" Nm dV f fd)  : bH P w K mg base (dM P w) 1 f fd ["name", "left", "pairs"] (fO 3 (Cz c)):=
 gT F T7 λ_ _ _ _ _ _ hr fm dm=>by exact(cn (qR aZ (by rfl) (oF (ev 2)) (oP _) (kx (i:=3) T7.nd (by rfl) (by walk_at "o")) (mj _) (cF (cP ((AM (eQ dm (bI (ev 3) bZ) (ev 0)) (AL (xu dm (bI (ev 3) bZ) (ev 1))))).pt (cF (fA oM)) gS))) (cF (fA oM)))
theorem ztl(F:cJ K "_law_order" "_law_order" Nn dV f fd)(G0:FnAt P w K mg base 1 "_law_free" ["name", "left", "pairs"] (Cz c) f0 g0):bH P w K mg base (dM P w) 2 f fd ["names", "pairs"] (fO 2 (CA c)):=
 bH.eU (gT F IL λ_ _ _ _ _ _ hr fm dm=>by exact(cn (gO (i:=2) IL.nd (by rfl) (by walk_at "o") (LK (by rfl) (by rfl) T.ji (ev 0))) (cn (gO (i:=3) IL.nd (by rfl) (by walk_at "o") (so bW)) (cn (HJ aZ (sj dm (ev 2) (mi bW)) (cn (z8k (i:=4) (xs:=["left", "pairs"]) (js:=[2,1]) (nts:=["name"]) (by rfl) ⟨rfl,by decide +kernel,rfl,by decide +kernel,(λp hp=>by rcases aH.mp hp with rfl | hp;(· rfl);rcases aC.mp hp with rfl;rfl),rfl,⟨(by walk_at "c"),⟨(by walk_at "c"),trivial⟩⟩⟩ (oF (ev 2)) (oP _) (λ_ _ _=>(kx (i:=0) (show(["name", "left", "pairs"]:List Str).Nodup by decide +kernel) (by rfl) (by walk_at "o"))) (mj _) (λ_ _ _=>(pB (Tn G0 hr (by rfl) ER (be (ev 0) (be (ev 1) (be (ev 2) bW)))))) (λ_ _ _=>(ev 0)) vD IL.nd (by rfl) (by walk_at "o") HV) (cn (cP (eQ dm (ev 4) (mi bW)) (cF (fA pz)) gS) (cn (i7 (vA (ev 3) (be (bI (ev 4) bZ) bW))) (cF (i7 (Sr (ev 2) (be (bI (ev 4) bZ) bW)))))))) (cF (fA (ev 3)))))))
theorem ztm(F:cJ K "_law_pairs" "_law_pairs" Np dV f fd)  : bH P w K mg base (dM P w) 1 f fd ["pieces", "names"] (fO 2 (Iu c)):=
 bH.eU (gT F Nq λ_ _ _ _ _ _ hr fm dm=>by exact(cn (gO (i:=2) Nq.nd (by rfl) (by walk_at "o") (so bW)) (cn (qR aZ (by rfl) (oF (ev 0)) (oP _) (kx (i:=3) Nq.nd (by rfl) (by walk_at "o")) (mj _) (cF (cP (xu dm (bI (ev 3) bZ) (ev 1)) (cn (i7 (AU (ev 2) (be (EM (xs:=["piece", "names"]) (js:=[3,1]) (nts:=["other"]) (by rfl) ⟨rfl,by decide +kernel,rfl,by decide +kernel,(λp hp=>by rcases aH.mp hp with rfl | hp;(· rfl);rcases aC.mp hp with rfl;rfl),rfl,⟨(by walk_at "c"),⟨(by walk_at "c"),trivial⟩⟩⟩ (oF (bI (bI (ev 3) bZ) bZ)) (oP _) (λ_ _ _=>(kx (i:=0) (show(["other", "piece", "names"]:List Str).Nodup by decide +kernel) (by rfl) (by walk_at "o"))) (mj _) (λ_ _ _=>(xu dm (ev 0) (ev 2))) (λ_ _ _=>(mM (be (bI (ev 1) bZ) (be (ev 0) bW)))) vD) bW))) (cF (i7 (AU (ev 2) (be (EM (xs:=["piece", "names"]) (js:=[3,1]) (nts:=["other"]) (by rfl) ⟨rfl,by decide +kernel,rfl,by decide +kernel,(λp hp=>by rcases aH.mp hp with rfl | hp;(· rfl);rcases aC.mp hp with rfl;rfl),rfl,⟨(by walk_at "c"),⟨(by walk_at "c"),trivial⟩⟩⟩ (oF (bI (bI (ev 3) bZ) bZ)) (oP _) (λ_ _ _=>(kx (i:=0) (show(["other", "piece", "names"]:List Str).Nodup by decide +kernel) (by rfl) (by walk_at "o"))) (mj _) (λ_ _ _=>(xu dm (ev 0) (ev 2))) (λ_ _ _=>(mM (be (ev 0) (be (bI (ev 1) bZ) bW)))) vD) bW))))) gS))) (cF (fA (ev 2))))))
theorem zor(F:cJ K "_law_rows_now" "_law_rows_now" Nr dV f fd)(G0:FnAt P w K mg base 2 "_law_at_hub" ["pieces"] (E7 c) f0 g0)(G1:FnAt P w K mg base 2 "_law_order" ["names", "pairs"] (CA c) f1 g1)(G2:FnAt P w K mg base 2 "_law_pairs" ["pieces", "names"] (Iu c) f2 g2):bH P w K mg base (dM P w) 3 f fd ["pieces"] (fO 1 (xH c)):=
 bH.eU (gT F Fu λ_ _ _ _ _ _ hr fm dm=>by exact(cn (gO (i:=1) Fu.nd (by rfl) (by walk_at "o") (gz G0 hr (by rfl) dQ (be (ev 0) bW))) (cn (gO (i:=2) Fu.nd (by rfl) (by walk_at "o") (gz G1 hr (by rfl) dQ (be (ev 1) (be (gz G2 hr (by rfl) dQ (be (ev 0) (be (ev 1) bW))) bW)))) (cn (cP (tP (ev 2) pz) (cF (fA pz)) gS) (cn (gO (i:=3) Fu.nd (by rfl) (by walk_at "o") (so bW)) (cn (qR aZ (by rfl) (oF (ev 2)) (oP _) (kx (i:=4) Fu.nd (by rfl) (by walk_at "o")) (mj _) (cF (i7 (AU (ev 3) (be (EM (xs:=["name"]) (js:=[4]) (nts:=["piece"]) (by rfl) ⟨rfl,by decide +kernel,rfl,by decide +kernel,(λp hp=>by rcases aC.mp hp with rfl;rfl),rfl,⟨(by walk_at "c"),trivial⟩⟩ (oF (ev 0)) (oP _) (λ_ _ _=>(kx (i:=0) (show(["piece", "name"]:List Str).Nodup by decide +kernel) (by rfl) (by walk_at "o"))) (mj _) (λ_ _ _=>(eQ dm (bI (ev 0) bZ) (ev 1))) (λ_ _ _=>(mM (be (ev 1) (be (bI (ev 0) bZ) bW)))) vD) bW))))) (cF (fA (ev 3)))))))))
theorem zm8(F:cJ K "__init__" "Hall.__init__" Nt dV f fd)  : bH P w K mg base (dM P w) 1 f fd ["self"] (fO 1 (E_ c)):=
 gT F zm5 λ_ _ _ _ _ _ hr fm dm=>by exact(cn (mz T.fj T.fJ (ev 0) HD) (cF (mz T.fj T.dC (ev 0) HD)))
theorem zmf(F:cJ K "__init__" "Place.__init__" Nu dV f fd)  : bH P w K mg base (dM P w) 1 f fd ["self", "kind", "rule"] (fO 3 (Fb c)):=
 gT F zl7 λ_ _ _ _ _ _ hr fm dm=>by exact(cn (mz T.lT T.lU (ev 0) (ev 1)) (cF (mz T.lT T.lV (ev 0) (ev 2))))
theorem zll(F:cJ K "open_place" "Hall.open_place" Nv dV f fd)(G0:sx P w K mg base 1 "Place" c.place ["self", "kind", "rule"] (Fb c) f0 g0):bH P w K mg base (dM P w) 3 f fd ["self", "name", "kind", "rule"] (fO 4 (CB c)):=
 gT F zli λ_ _ _ _ _ _ hr fm dm=>by exact(cn (cP (EG fm (ev 1) (iD T.fj T.fJ (ev 0))) zt gS) (cn (cP (EE (RV (by rfl) T.kj (iD T.fj T.fJ (ev 0))) (So (by rfl) T.oS)) zt gS) (cF (AS fm (iD T.fj T.fJ (ev 0)) (ev 1) (L3 G0 hr (by rfl) dQ (be (ev 2) (be (ev 3) bW)))))))
theorem zlm(F:cJ K "find_place" "Hall.find_place" Nw dV f fd)  : bH P w K mg base (dM P w) 1 f fd ["self", "name"] (fO 2 (xI c)):=
 gT F zlj λ_ _ _ _ _ _ hr fm dm=>by exact(cn (cP (LF fm (ev 1) (iD T.fj T.fJ (ev 0))) zt gS) (cF (fA (AQ fm (iD T.fj T.fJ (ev 0)) (ev 1)))))
theorem zmg(F:cJ K "__init__" "Piece.__init__" Nx dV f fd)  : bH P w K mg base (dM P w) 1 f fd ["self", "place", "deed", "by"] (fO 4 (CC c)):=
 gT F zl8 λ_ _ _ _ _ _ hr fm dm=>by exact(cn (mz T.c9 T.kP (ev 0) (ev 1)) (cn (mz T.c9 T.lS (ev 0) (ev 2)) (cn (mz T.c9 T.nY (ev 0) (ev 3)) (cn (mz T.c9 T.lj (ev 0) oM) (cn (mz T.c9 T.jh (ev 0) (so bW)) (cn (mz T.c9 T.iO (ev 0) (so bW)) (cn (mz T.c9 T.kO (ev 0) (so bW)) (cF (mz T.c9 T.lR (ev 0) (so bW))))))))))
theorem ztn(F:cJ K "hang" "Hall.hang" Bs dV f fd)(G0:e_ P w K mg base 2 c.hall "find_place" ["self", "name"] (xI c) f0 g0)(G1:sx P w K mg base 1 "Piece" c.piece ["self", "place", "deed", "by"] (CC c) f1 g1):bH P w K mg base (dM P w) 3 f fd ["self", "name", "place", "deed", "by"] (fO 5 (Bh c)):=
 gT F zti λ_ _ _ _ _ _ hr fm dm=>by exact(cn (cP (EG fm (ev 1) (iD T.fj T.dC (ev 0))) zt gS) (cn (i7 (pG G0 hr dQ (ev 0) (be (ev 2) bW))) (cn (cP (HC (ev 4) pz) zt gS) (cn (cP (EE (RV (by rfl) T.kj (iD T.fj T.dC (ev 0))) (So (by rfl) T.oR)) zt gS) (cF (AS fm (iD T.fj T.dC (ev 0)) (ev 1) (L3 G1 hr (by rfl) dQ (be (ev 2) (be (ev 3) (be (ev 4) bW))))))))))
theorem zln(F:cJ K "find_piece" "Hall.find_piece" Ny dV f fd)  : bH P w K mg base (dM P w) 1 f fd ["self", "name"] (fO 2 (tY c)):=
 gT F zlk λ_ _ _ _ _ _ hr fm dm=>by exact(cn (cP (LF fm (ev 1) (iD T.fj T.dC (ev 0))) zt gS) (cF (fA (AQ fm (iD T.fj T.dC (ev 0)) (ev 1)))))
theorem z2g(F:cJ K "wished" "wished" Nz dV f fd)  : bH P w K mg base (dM P w) 1 f fd ["names"] (fO 1 (rE c)):=
 gT F z2c λ_ _ _ _ _ _ hr fm dm=>by exact(cF (fA (z8e (tP (ev 0) pz) (mi bW) (HE (by rfl) (by rfl) T.ji (ev 0)))))
theorem zto(F:cJ K "wish" "Hall.wish" Bt dV f fd)(G0:e_ P w K mg base 1 c.hall "find_piece" ["self", "name"] (tY c) f0 g0)(G1:FnAt P w K mg base 1 "wished" ["names"] (rE c) f1 g1):bH P w K mg base (dM P w) 2 f fd ["self", "name", "ahead", "behind", "needs", "bars"] (fO 6 (xJ c)):=
 gT F T8 λ_ _ _ _ _ _ hr fm dm=>by exact(cn (gO (i:=6) T8.nd (by rfl) (by walk_at "o") (pG G0 hr dQ (ev 0) (be (ev 1) bW))) (cn (i7 (AU (iD T.c9 T.jh (ev 6)) (be (gz G1 hr (by rfl) dQ (be (ev 2) bW)) bW))) (cn (i7 (AU (iD T.c9 T.iO (ev 6)) (be (gz G1 hr (by rfl) dQ (be (ev 3) bW)) bW))) (cn (i7 (AU (iD T.c9 T.kO (ev 6)) (be (gz G1 hr (by rfl) dQ (be (ev 4) bW)) bW))) (cF (i7 (AU (iD T.c9 T.lR (ev 6)) (be (gz G1 hr (by rfl) dQ (be (ev 5) bW)) bW))))))))
theorem zpi(F:cJ K "switch" "Hall.switch" NA dV f fd)(G0:e_ P w K mg base 1 c.hall "find_piece" ["self", "name"] (tY c) f0 g0):bH P w K mg base (dM P w) 2 f fd ["self", "name", "on"] (fO 3 (zv c)):=
 gT F T9 λ_ _ _ _ _ _ hr fm dm=>by exact(cn (gO (i:=3) T9.nd (by rfl) (by walk_at "o") (pG G0 hr dQ (ev 0) (be (ev 1) bW))) (cF (mz T.c9 T.lj (ev 3) (ev 2))))
theorem zvx(F:cJ K "_law_hall" "_law_hall" NB dV f fd)(G0:sx P w K mg base 2 "Hall" c.hall ["self"] (E_ c) f0 g0)(G1:e_ P w K mg base 3 c.hall "open_place" ["self", "name", "kind", "rule"] (CB c) f1 g1)(G2:e_ P w K mg base 3 c.hall "hang" ["self", "name", "place", "deed", "by"] (Bh c) f2 g2)(B21:lI K g2 ["self", "name", "place", "deed", "by"] [.none])(G3:e_ P w K mg base 3 c.hall "wish" ["self", "name", "ahead", "behind", "needs", "bars"] (xJ c) f3 g3)(G4:e_ P w K mg base 3 c.hall "switch" ["self", "name", "on"] (zv c) f4 g4):bH P w K mg base (dM P w) 4 f fd ["pieces", "kind", "rule"] (fO 3 (CD c)):=
 gT F IM λ_ _ _ _ _ _ hr fm dm=>by exact(cn (gO (i:=3) IM.nd (by rfl) (by walk_at "o") (z8n G0 hr (by rfl) dQ)) (cn (i7 (pG G1 hr dQ (ev 3) (be gF (be (ev 1) (be (ev 2) bW))))) (cn (i7 (pG G1 hr dQ (ev 3) (be gF (be gF (be gF bW))))) (cn (qR aZ (by rfl) (oF (ev 0)) (oP _) (kx (i:=4) IM.nd (by rfl) (by walk_at "o")) (mj _) (cF (i7 (L1 G2 hr dQ B21 L8 L9 (ev 3) (be (bI (ev 4) bZ) (be (bI (ev 4) bZ) (be (bI (ev 4) bZ) bW))))))) (cn (qR aZ (by rfl) (oF (ev 0)) (oP _) (kx (i:=4) IM.nd (by rfl) (by walk_at "o")) (mj _) (cn (i7 (pG G3 hr dQ (ev 3) (be (bI (ev 4) bZ) (be (bI (bI (ev 4) bZ) bZ) (be (z8f (by rfl) T.pL (bI (bI (ev 4) bZ) bZ)) (be (bI (bI (ev 4) bZ) bZ) (be (bI (bI (ev 4) bZ) bZ) bW))))))) (cF (cP (wG (pB (bI (ev 4) bZ))) (cF (i7 (pG G4 hr dQ (ev 3) (be (bI (ev 4) bZ) (be oM bW))))) gS)))) (cF (fA (ev 3))))))))
theorem zrn(F:cJ K "seconds_of" "seconds_of" NC dV f fd)(G0:e_ P w K mg base 1 c.hall "find_piece" ["self", "name"] (tY c) f0 g0):bH P w K mg base (dM P w) 2 f fd ["hall", "names"] (fO 2 (Fc c)):=
 bH.eU (gT F Bu λ_ _ _ _ _ _ hr fm dm=>by exact(cn (gO (i:=2) Bu.nd (by rfl) (by walk_at "o") HD) (cn (qR aZ (by rfl) (oF (ev 1)) (oP _) (kx (i:=3) Bu.nd (by rfl) (by walk_at "o")) (mj _) (cF (AS fm (ev 2) (ev 3) HD))) (cn (qR aZ (by rfl) (oF (ev 1)) (oP _) (kx (i:=3) Bu.nd (by rfl) (by walk_at "o")) (mj _) (cn (gO (i:=4) Bu.nd (by rfl) (by walk_at "o") (pG G0 hr dQ (ev 0) (be (ev 3) bW))) (cn (qR aZ (by rfl) (oF (iD T.c9 T.jh (ev 4))) (oP _) (kx (i:=5) Bu.nd (by rfl) (by walk_at "o")) (mj _) (cF (cP (EG fm (ev 5) (ev 2)) (cF (AS fm (AQ fm (ev 2) (ev 3)) (ev 5) oM)) gS))) (cF (qR aZ (by rfl) (oF (iD T.c9 T.iO (ev 4))) (oP _) (kx (i:=5) Bu.nd (by rfl) (by walk_at "o")) (mj _) (cF (cP (EG fm (ev 5) (ev 2)) (cF (AS fm (AQ fm (ev 2) (ev 5)) (ev 3) oM)) gS))))))) (cF (fA (ev 2)))))))
theorem zm9(F:cJ K "earliest_free" "earliest_free" ND dV f fd)  : bH P w K mg base (dM P w) 1 f fd ["seconds", "left"] (fO 2 (CI c)):=
 gT F T_ λ_ _ _ _ _ _ hr fm dm=>by exact(cn (qR aZ (by rfl) (oF (ev 1)) (oP _) (kx (i:=2) T_.nd (by rfl) (by walk_at "o")) (mj _) (cF (cP (wG (pB (Zeq (by rfl) (by rfl) T.Fq (Sb (xs:=["name", "seconds"]) (js:=[2,0]) (nts:=["first"]) (by rfl) ⟨rfl,by decide +kernel,rfl,by decide +kernel,(λp hp=>by rcases aH.mp hp with rfl | hp;(· rfl);rcases aC.mp hp with rfl;rfl),rfl,⟨(by walk_at "c"),⟨(by walk_at "c"),trivial⟩⟩⟩ (oF (ev 1)) (oP _) (λ_ _ _=>(kx (i:=0) (show(["first", "name", "seconds"]:List Str).Nodup by decide +kernel) (by rfl) (by walk_at "o"))) (mj _) (λ_ _ _=>(Zeb fm (ev 1) (AQ fm (ev 2) (ev 0)))) vD)))) (cF (fA (ev 2))) gS))) (cF (fA pz)))
theorem zos(F:cJ K "ring_through" "ring_through" NF dV f fd)  : bH P w K mg base (dM P w) 1 f fd ["seconds", "start"] (fO 2 (IB c)):=
 bH.eU (gT F Bv λ_ _ _ _ _ _ hr fm dm=>by exact(cn (gO (i:=2) Bv.nd (by rfl) (by walk_at "o") (mi (be (mi (be (ev 1) bW)) bW))) (cn (gO (i:=3) Bv.nd (by rfl) (by walk_at "o") (SW (ev 1) oM)) (cn (HJ aZ (pB (ev 2)) (cn (gO (i:=4) Bv.nd (by rfl) (by walk_at "o") (so bW)) (cn (qR aZ (by rfl) (oF (ev 2)) (oP _) (kx (i:=5) Bv.nd (by rfl) (by walk_at "o")) (mj _) (cF (qR aZ (by rfl) (K_ (AQ fm (ev 0) (bI (ev 5) (Zes bZ)))) R6 (kx (i:=6) Bv.nd (by rfl) (by walk_at "o")) (mj _) (cn (cP (eQ dm (ev 6) (ev 1)) (cF (fA (ev 5))) gS) (cF (cP (LF fm (ev 6) (ev 3)) (cn (AS fm (ev 3) (ev 6) oM) (cF (i7 (vA (ev 4) (be (nV (ev 5) (mi (be (ev 6) bW))) bW))))) gS)))))) (cF (gO (i:=2) Bv.nd (by rfl) (by walk_at "o") (ev 4)))))) (cF (fA (mi bW)))))))
theorem zna(F:cJ K "shortest_ring" "shortest_ring" NG dV f fd)(G0:FnAt P w K mg base 1 "ring_through" ["seconds", "start"] (IB c) f0 g0):bH P w K mg base (dM P w) 2 f fd ["seconds"] (fO 1 (Fe c)):=
 gT F Ua λ_ _ _ _ _ _ hr fm dm=>by exact(cn (LS (i:=1) (xs:=["seconds"]) (js:=[0]) (nts:=["name"]) (by rfl) ⟨rfl,by decide +kernel,rfl,by decide +kernel,(λp hp=>by rcases aC.mp hp with rfl;rfl),rfl,⟨(by walk_at "c"),trivial⟩⟩ (K_ (ev 0)) R6 (λ_ _ _=>(kx (i:=0) (show(["name", "seconds"]:List Str).Nodup by decide +kernel) (by rfl) (by walk_at "o"))) (mj _) (λ_ _ _=>(Tn G0 hr (by rfl) ER (be (ev 1) (be (ev 0) bW)))) vD Ua.nd (by rfl) (by walk_at "o") HV) (cF (fA (z42 (by rfl) (by rfl) T.Ft (by rfl) T.kj (EM (xs:=[]) (js:=[]) (nts:=["ring"]) (by rfl) ⟨rfl,by decide +kernel,rfl,by decide +kernel,(λp hp=>absurd hp cO),rfl,trivial⟩ (oF (ev 1)) (oP _) (λ_ _ _=>(kx (i:=0) (show(["ring"]:List Str).Nodup by decide +kernel) (by rfl) (by walk_at "o"))) (mj _) (λ_ _ _=>(pB (ev 0))) (λ_ _ _=>(ev 0)) vD)))))
theorem znb(F:cJ K "__init__" "Ring.__init__" NH dV f fd)(q:px K c.ring f=true):bH P w K mg base (dM P w) 1 f fd ["self", "ring"] (xG c.ring "ring"):=
 z43 F zm6 T.xR q T.pK (λhU A outer s H E hr=>GJ (J9 (Ro (by rfl) T.mO T.T3 T.T4 T.T5 (u6 (uX (i:=0) (by rfl) (by first | exact eJ rfl | exact cS (eJ rfl) | exact cS (cS rfl))) (u6 (Ra (.cons GH (.cons (z40 hr.gd hr.units (uX (i:=1) (by rfl) (by first | exact eJ rfl | exact cS (eJ rfl) | exact cS (cS rfl)))) .nil))) yU)))) (J7 (Ln (uX (i:=0) (by rfl) (by first | exact eJ rfl | exact cS (eJ rfl) | exact cS (cS rfl))) (Ql KI (by rfl) T.ji JS (u6 (uX (i:=1) (by rfl) (by first | exact eJ rfl | exact cS (eJ rfl) | exact cS (cS rfl))) yU)) (by rfl)))) (z45 "the wishes go round: " (by decide)) (z2a K)
theorem zpj(F:cJ K "order_among" "order_among" NI dV f fd)(G0:FnAt P w K mg base 2 "seconds_of" ["hall", "names"] (Fc c) f0 g0)(G1:FnAt P w K mg base 2 "earliest_free" ["seconds", "left"] (CI c) f1 g1)(G2:FnAt P w K mg base 2 "shortest_ring" ["seconds"] (Fe c) f2 g2)(G3:Mv P w K mg base 1 c.ring "ring" ["self", "ring"] f3 g3):bH P w K mg base (dM P w) 3 f fd ["hall", "names"] (fO 2 (zw c)):=
 gT F Fv λ_ _ _ _ _ _ hr fm dm=>by exact(cn (gO (i:=2) Fv.nd (by rfl) (by walk_at "o") (gz G0 hr (by rfl) dQ (be (ev 0) (be (ev 1) bW)))) (cn (gO (i:=3) Fv.nd (by rfl) (by walk_at "o") (LK (by rfl) (by rfl) T.ji (ev 1))) (cn (gO (i:=4) Fv.nd (by rfl) (by walk_at "o") (so bW)) (cn (HJ aZ (pB (ev 3)) (cn (gO (i:=5) Fv.nd (by rfl) (by walk_at "o") (gz G1 hr (by rfl) dQ (be (ev 2) (be (ev 3) bW)))) (cn (cP (tP (ev 5) pz) (cF (z44 Rp (by rfl) G3.q G3.hf G3.ok hr G3.hb (by rfl) T.vP (be (gz G2 hr (by rfl) dQ (be (ev 2) bW)) bW))) gS) (cn (i7 (Sr (ev 3) (be (ev 5) bW))) (cF (i7 (vA (ev 4) (be (ev 5) bW)))))))) (cF (fA (ev 4)))))))
theorem zot(F:cJ K "__init__" "Run.__init__" NJ dV f fd)  : bH P w K mg base (dM P w) 1 f fd ["self", "kind", "rule", "number", "deeds"] (fO 5 (Ff c)):=
 gT F zoo λ_ _ _ _ _ _ hr fm dm=>by exact(cn (mz T.cA T.gA (ev 0) (ev 1)) (cn (mz T.cA T.nZ (ev 0) (ev 2)) (cn (mz T.cA T.dD (ev 0) (ev 3)) (cn (mz T.cA T.jb (ev 0) (LK (by rfl) (by rfl) T.ji (ev 4))) (cn (mz T.cA T.lq (ev 0) (so bW)) (cn (mz T.cA T.jJ (ev 0) oM) (cn (mz T.cA T.ki (ev 0) (so bW)) (cn (mz T.cA T.ke (ev 0) pz) (cF (mz T.cA T.jI (ev 0) (so bW)))))))))))
theorem zro(F:cJ K "begin_over" "begin_over" NK dV f fd)(G0:e_ P w K mg base 3 c.hall "find_place" ["self", "name"] (xI c) f0 g0)(G1:FnAt P w K mg base 3 "order_among" ["hall", "names"] (zw c) f1 g1)(G2:e_ P w K mg base 3 c.hall "find_piece" ["self", "name"] (tY c) f2 g2)(G3:sx P w K mg base 2 "Run" c.run ["self", "kind", "rule", "number", "deeds"] (Ff c) f3 g3):bH P w K mg base (dM P w) 4 f fd ["hall", "place", "names", "number"] (fO 4 (zx c)):=
 gT F NM λ_ _ _ _ _ _ hr fm dm=>by exact(cn (gO (i:=4) NM.nd (by rfl) (by walk_at "o") (pG G0 hr dQ (ev 0) (be (ev 1) bW))) (cn (LS (i:=5) (xs:=["hall"]) (js:=[0]) (nts:=["name"]) (by rfl) ⟨rfl,by decide +kernel,rfl,by decide +kernel,(λp hp=>by rcases aC.mp hp with rfl;rfl),rfl,⟨(by walk_at "c"),trivial⟩⟩ (oF (gz G1 hr (by rfl) dQ (be (ev 0) (be (ev 2) bW)))) (oP _) (λ_ _ _=>(kx (i:=0) (show(["name", "hall"]:List Str).Nodup by decide +kernel) (by rfl) (by walk_at "o"))) (mj _) (λ_ _ _=>(mM (be (ev 0) (be (iD T.c9 T.lS (z8y G2 hr ER (ev 1) (be (ev 0) bW))) bW)))) vD NM.nd (by rfl) (by walk_at "o") HV) (cF (fA (L3 G3 hr (by rfl) dQ (be (iD T.lT T.lU (ev 4)) (be (iD T.lT T.lV (ev 4)) (be (ev 3) (be (ev 5) bW)))))))))
theorem zzd(F:cJ K "at" "Hall.at" NN dV f fd)(G0:e_ P w K mg base 1 c.hall "find_place" ["self", "name"] (xI c) f0 g0):bH P w K mg base (dM P w) 2 f fd ["self", "place"] (fO 2 (CK c)):=
 gT F zza λ_ _ _ _ _ _ hr fm dm=>by exact(cn (i7 (pG G0 hr dQ (ev 0) (be (ev 1) bW))) (cF (fA (z8u (xs:=["place"]) (js:=[1]) (nts:=["name", "piece"]) (by rfl) ⟨rfl,by decide +kernel,rfl,by decide +kernel,(λp hp=>by rcases aC.mp hp with rfl;rfl),rfl,⟨(by walk_at "c"),trivial⟩⟩ (iD T.fj T.dC (ev 0))  (λ_ _ _=>(Kc (by rfl) (Ca (kx (i:=0) (show(["name", "piece", "place"]:List Str).Nodup by decide +kernel) (by rfl) (by walk_at "o")) (Ca (kx (i:=1) (show(["name", "piece", "place"]:List Str).Nodup by decide +kernel) (by rfl) (by walk_at "o")) Kb)))) (LO _ _ _) (λ_ _ _=>((AM (eQ dm (iD T.c9 T.kP (ev 1)) (ev 2)) (AL (pB (iD T.c9 T.lj (ev 1)))))).pt) (λ_ _ _=>(ev 0)) vD))))
theorem z47(F:cJ K "begin" "begin" NO dV f fd)(G0:FnAt P w K mg base 4 "begin_over" ["hall", "place", "names", "number"] (zx c) f0 g0)(G1:e_ P w K mg base 4 c.hall "at" ["self", "place"] (CK c) f1 g1):bH P w K mg base (dM P w) 5 f fd ["hall", "place", "number"] (fO 3 (vM c)):=
 gT F z46 λ_ _ _ _ _ _ hr fm dm=>by exact(cF (fA (gz G0 hr (by rfl) dQ (be (ev 0) (be (ev 1) (be (pG G1 hr dQ (ev 0) (be (ev 1) bW)) (be (ev 2) bW)))))))
theorem ztp(F:cJ K "drop" "Hall.drop" NP dV f fd)(G0:e_ P w K mg base 1 c.hall "find_piece" ["self", "name"] (tY c) f0 g0):bH P w K mg base (dM P w) 2 f fd ["self", "name"] (fO 2 (CL c)):=
 gT F Fw λ_ _ _ _ _ _ hr fm dm=>by exact(cn (i7 (pG G0 hr dQ (ev 0) (be (ev 1) bW))) (cn (gO (i:=2) Fw.nd (by rfl) (by walk_at "o") (SW (ev 1) oM)) (cn (Zcf aZ (by rfl) (iD T.fj T.dC (ev 0)) (Kc (by rfl) (Ca (kx (i:=3) Fw.nd (by rfl) (by walk_at "o")) (Ca (kx (i:=4) Fw.nd (by rfl) (by walk_at "o")) Kb))) (LO _ _ _) (cF (cP (EG fm (iD T.c9 T.nY (ev 4)) (ev 2)) (cF (AS fm (ev 2) (ev 3) oM)) gS))) (cn (Zcg aZ (by rfl) (ev 2) (kx (i:=3) Fw.nd (by rfl) (by walk_at "o")) (mj _) (cF (i7 (Zch (iD T.fj T.dC (ev 0)) (ev 3))))) (cF (fA (HE (by rfl) (by rfl) T.ji (ev 2))))))))
theorem zpk(F:cJ K "_law_changed" "_law_changed" NQ dV f fd)(G0:e_ P w K mg base 3 c.hall "hang" ["self", "name", "place", "deed", "by"] (Bh c) f0 g0)(B01:lI K g0 ["self", "name", "place", "deed", "by"] [.none])(G1:e_ P w K mg base 3 c.hall "drop" ["self", "name"] (CL c) f1 g1)(G2:e_ P w K mg base 3 c.hall "wish" ["self", "name", "ahead", "behind", "needs", "bars"] (xJ c) f2 g2)(B23:lI K g2 ["self", "name", "ahead", "behind", "needs", "bars"] [.none,.none,.none])(G3:e_ P w K mg base 3 c.hall "switch" ["self", "name", "on"] (zv c) f3 g3):bH P w K mg base (dM P w) 4 f fd ["hall", "pieces", "cell", "k"] (fO 4 (Fh c)):=
 gT F CQ λ_ _ _ _ _ _ hr fm dm=>by exact(cn (gO (i:=4) CQ.nd (by rfl) (by walk_at "o") (mx (ev 2) bZ)) (cn (gO (i:=5) CQ.nd (by rfl) (by walk_at "o") (nV gF (bI gF (mx (ev 3) bZ)))) (cn (cP ((qQ (eQ dm (ev 4) bZ) (Cn (eQ dm (ev 1) (mi bW))))).pt (cn (i7 (L1 G0 hr dQ B01 L8 L9 (ev 0) (be (ev 5) (be gF (be (mM (be gF (be (mx (ev 2) bZ) bW))) bW))))) (cn (i7 (vA (ev 1) (be (mM (be (ev 5) (be gF (be (mM (be gF (be (mx (ev 2) bZ) bW))) (be (mi (be (mi bW) (be (mi bW) (be (mi bW) (be (mi bW) bW))))) (be oM bW)))))) bW))) (cF Zbt))) gS) (cn (gO (i:=6) CQ.nd (by rfl) (by walk_at "o") (mx (ur (ev 2) bZ) (zk (by rfl) T.kj (ev 1)))) (cn (gO (i:=7) CQ.nd (by rfl) (by walk_at "o") (bI (ev 1) (ev 6))) (cF (cP (eQ dm (ev 4) bZ) (cn (i7 (pG G1 hr dQ (ev 0) (be (bI (ev 7) bZ) bW))) (cF (i7 (R4 (ev 1) (be (ev 6) bW))))) (cF (cP (eQ dm (ev 4) bZ) (cn (gO (i:=8) CQ.nd (by rfl) (by walk_at "o") (bI (bI (ev 1) (mx (ur (ev 2) bZ) (zk (by rfl) T.kj (ev 1)))) bZ)) (cn (i7 (L1 G2 hr dQ B23 z1o z1q (ev 0) (be (bI (ev 7) bZ) (be (mi (be (ev 8) bW)) bW)))) (cF (RZ (ev 1) (ev 6) (mM (be (bI (ev 7) bZ) (be (bI (ev 7) bZ) (be (bI (ev 7) bZ) (be (nV (mi (be (nV (bI (bI (ev 7) bZ) bZ) (mi (be (ev 8) bW))) bW)) (L6 (bI (ev 7) bZ) (L5 bZ) L4)) (be (bI (ev 7) bZ) bW)))))))))) (cn (i7 (pG G3 hr dQ (ev 0) (be (bI (ev 7) bZ) (be (xt dm (ev 4) bZ) bW)))) (cF (RZ (ev 1) (ev 6) (mM (be (bI (ev 7) bZ) (be (bI (ev 7) bZ) (be (bI (ev 7) bZ) (be (bI (ev 7) bZ) (be (xt dm (ev 4) bZ) bW))))))))))))))))))
theorem zvy(F:cJ K "over" "Run.over" NR dV f fd)  : bH P w K mg base (dM P w) 1 f fd ["self"] (fO 1 (t9 c)):=
 gT F zvp λ_ _ _ _ _ _ hr fm dm=>by exact(cF (fA (RN (iD T.cA T.jb (ev 0)))))
theorem zj1(F:cJ K "leave_the_rest" "Run.leave_the_rest" NT dV f fd)  : bH P w K mg base (dM P w) 1 f fd ["self"] (fO 1 (xM c)):=
 gT F zjw λ_ _ _ _ _ _ hr fm dm=>by exact(cF (i7 (z8i (iD T.cA T.jb (ev 0)))))
theorem zj2(F:cJ K "__init__" "DeedFault.__init__" NU dV f fd)(q:px K c.deedFault f=true):bH P w K mg base (dM P w) 1 f fd ["self", "piece", "code"] (xC c.deedFault "piece" "code" false):=
 z4w F zjx T.pJ q T.lr T.lW (λhU A outer s H E hr=>GJ (J9 (Ro (by rfl) T.mO T.T3 T.T4 T.T5 (u6 (uX (i:=0) (by rfl) (by first | exact eJ rfl | exact cS (eJ rfl) | exact cS (cS rfl))) (u6 (Ra (.cons GH (.cons (ZY (uX (i:=1) (by rfl) (by first | exact eJ rfl | exact cS (eJ rfl) | exact cS (cS rfl)))) (.cons GH .nil)))) yU)))) (GJ (Ln (uX (i:=0) (by rfl) (by first | exact eJ rfl | exact cS (eJ rfl) | exact cS (cS rfl))) (uX (i:=1) (by rfl) (by first | exact eJ rfl | exact cS (eJ rfl) | exact cS (cS rfl))) (by rfl)) (J7 (Ln (uX (i:=0) (by rfl) (by first | exact eJ rfl | exact cS (eJ rfl) | exact cS (cS rfl))) (uX (i:=2) (by rfl) (by first | exact eJ rfl | exact cS (eJ rfl) | exact cS (cS rfl))) (by rfl))))) (z8x "the deed of " " fell" (by decide) (by decide))
theorem zvz(F:cJ K "fall" "Run.fall" NV dV f fd)(G0:e_ P w K mg base 2 c.run "leave_the_rest" ["self"] (xM c) f0 g0)(G1:Mw P w K mg base 1 c.deedFault "piece" "code" false ["self", "piece", "code"] f1 g1):bH P w K mg base (dM P w) 3 f fd ["self", "name", "code"] (fO 3 (Bl c)):=
 gT F zvq λ_ _ _ _ _ _ hr fm dm=>by exact(cn (cP (eQ dm (iD T.cA T.nZ (ev 0)) gF) (cn (mz T.cA T.jJ (ev 0) oM) (cn (i7 (tU G0 hr dQ (ev 0))) (cF (z4x Rp (by rfl) (by decide) G1.q G1.hf G1.ok hr G1.hb (by rfl) T.qX (be (ev 1) (be (ev 2) bW)))))) gS) (cF (i7 (vA (iD T.cA T.lq (ev 0)) (be (mM (be (ev 1) (be (ev 2) bW))) bW)))))
theorem z82(F:cJ K "said" "said" NW dV f fd)  : bH P w K mg base (dM P w) 1 f fd ["deed", "number"] (fO 2 (uE c)):=
 gT F z80 λ_ _ _ _ _ _ hr fm dm=>by exact(cn (cP (eQ dm (bI (ev 0) bZ) gF) (cF (fA (nV (ev 1) (bI (ev 0) bZ)))) gS) (cn (cP (eQ dm (bI (ev 0) bZ) gF) (cF (fA (bI (ev 0) bZ))) gS) (cF (fA pz))))
theorem znc(F:cJ K "go_within" "Run.go_within" NX dV f fd)(G0:FnAt P w K mg base 1 "said" ["deed", "number"] (uE c) f0 g0)(G1:e_ P w K mg base 1 c.run "leave_the_rest" ["self"] (xM c) f1 g1):bH P w K mg base (dM P w) 2 f fd ["self", "deed"] (fO 2 (zA c)):=
 gT F zm7 λ_ _ _ _ _ _ hr fm dm=>by exact(cF (cP (eQ dm (bI (ev 1) bZ) gF) (cn (i7 (vA (iD T.cA T.jI (ev 0)) (be (bI (ev 1) bZ) bW))) (cF (mz T.cA T.dD (ev 0) (gz G0 hr (by rfl) dQ (be (ev 1) (be (iD T.cA T.dD (ev 0)) bW)))))) (cF (cP (eQ dm (bI (ev 1) bZ) gF) (cn (mz T.cA T.dD (ev 0) (gz G0 hr (by rfl) dQ (be (ev 1) (be (iD T.cA T.dD (ev 0)) bW)))) (cF (i7 (tU G1 hr dQ (ev 0))))) gS))))
theorem zv0(F:cJ K "hear" "Run.hear" NY dV f fd)(G0:e_ P w K mg base 1 c.run "leave_the_rest" ["self"] (xM c) f0 g0):bH P w K mg base (dM P w) 2 f fd ["self", "number"] (fO 2 (CN c)):=
 gT F zvr λ_ _ _ _ _ _ hr fm dm=>by exact(cF (cP (eQ dm (iD T.cA T.gA (ev 0)) gF) (cn (mz T.cA T.ke (ev 0) (ev 1)) (cF (i7 (tU G0 hr dQ (ev 0))))) (cF (mz T.cA T.dD (ev 0) (ev 1)))))
theorem zpl(F:cJ K "perform" "Run.perform" NZ dV f fd)(G0:e_ P w K mg base 3 c.run "fall" ["self", "name", "code"] (Bl c) f0 g0)(G1:FnAt P w K mg base 3 "said" ["deed", "number"] (uE c) f1 g1)(G2:e_ P w K mg base 3 c.run "go_within" ["self", "deed"] (zA c) f2 g2)(G3:e_ P w K mg base 3 c.run "hear" ["self", "number"] (CN c) f3 g3):bH P w K mg base (dM P w) 4 f fd ["self", "name", "deed"] (fO 3 (uF c)):=
 gT F zpg λ_ _ _ _ _ _ hr fm dm=>by exact(cF (cP (eQ dm (bI (ev 2) bZ) gF) (cF (i7 (pG G0 hr dQ (ev 0) (be (ev 1) (be (bI (ev 2) bZ) bW))))) (cF (cP (eQ dm (iD T.cA T.gA (ev 0)) gF) (cF (i7 (vA (iD T.cA T.ki (ev 0)) (be (mM (be (ev 1) (be (gz G1 hr (by rfl) dQ (be (ev 2) (be (iD T.cA T.dD (ev 0)) bW))) bW))) bW)))) (cF (cP (eQ dm (iD T.cA T.gA (ev 0)) gF) (cF (i7 (pG G2 hr dQ (ev 0) (be (ev 2) bW)))) (cF (cP (sj dm (bI (ev 2) bZ) gF) (cF (i7 (pG G3 hr dQ (ev 0) (be (gz G1 hr (by rfl) dQ (be (ev 2) (be (iD T.cA T.dD (ev 0)) bW))) bW)))) gS))))))))
theorem zv1(F:cJ K "step" "Run.step" N0 dV f fd)(G0:e_ P w K mg base 4 c.run "over" ["self"] (t9 c) f0 g0)(G1:e_ P w K mg base 4 c.run "perform" ["self", "name", "deed"] (uF c) f1 g1):bH P w K mg base (dM P w) 5 f fd ["self"] (fO 1 (uG c)):=
 gT F Ub λ_ _ _ _ _ _ hr fm dm=>by exact(cn (cP (pB (tU G0 hr dQ (ev 0))) (cF (fA pz)) gS) (cn (gO (i:=1) Ub.nd (by rfl) (by walk_at "o") (R4 (iD T.cA T.jb (ev 0)) (be bZ bW))) (cn (i7 (pG G1 hr dQ (ev 0) (be (bI (ev 1) bZ) (be (bI (ev 1) bZ) bW)))) (cF (fA (bI (ev 1) bZ))))))
theorem zrp(F:cJ K "faults" "Run.faults" N1 dV f fd)  : bH P w K mg base (dM P w) 1 f fd ["self"] (fO 1 (Bn c)):=
 gT F zri λ_ _ _ _ _ _ hr fm dm=>by exact(cF (fA (HE (by rfl) (by rfl) T.ji (iD T.cA T.lq (ev 0)))))
theorem zou(F:cJ K "brought_back" "brought_back" N2 dV f fd)  : bH P w K mg base (dM P w) 1 f fd ["number", "around"] (fO 2 (Fj c)):=
 gT F IP λ_ _ _ _ _ _ hr fm dm=>by exact(cn (gO (i:=2) IP.nd (by rfl) (by walk_at "o") (ev 0)) (cn (qR aZ (by rfl) (Zb1 (by rfl) T.sC (be (ev 1) bW)) (Zb2 _) (kx (i:=3) IP.nd (by rfl) (by walk_at "o")) (mj _) (cF (gO (i:=2) IP.nd (by rfl) (by walk_at "o") (nV (Cm (ev 2) bZ) (ev 3))))) (cF (fA (ev 2)))))
theorem zrq(F:cJ K "answer" "Run.answer" N3 dV f fd)(G0:e_ P w K mg base 1 c.run "over" ["self"] (t9 c) f0 g0)(G1:FnAt P w K mg base 1 "brought_back" ["number", "around"] (Fj c) f1 g1):bH P w K mg base (dM P w) 2 f fd ["self"] (fO 1 (Bo c)):=
 gT F zrj λ_ _ _ _ _ _ hr fm dm=>by exact(cn (cP ((qQ (pB (iD T.cA T.jJ (ev 0))) (Cn (wG (pB (tU G0 hr dQ (ev 0))))))).pt zt gS) (cn (cP (eQ dm (iD T.cA T.gA (ev 0)) gF) (cF (fA (HE (by rfl) (by rfl) T.ji (iD T.cA T.ki (ev 0))))) gS) (cn (cP (eQ dm (iD T.cA T.gA (ev 0)) gF) (cF (fA (iD T.cA T.ke (ev 0)))) gS) (cn (cP (eQ dm (iD T.cA T.gA (ev 0)) gF) (cF (fA (iD T.cA T.dD (ev 0)))) gS) (cF (fA (gz G1 hr (by rfl) dQ (be (iD T.cA T.dD (ev 0)) (be (iD T.cA T.jI (ev 0)) bW)))))))))
theorem z2h(F:cJ K "finish" "finish" N4 dV f fd)(G0:e_ P w K mg base 5 c.run "over" ["self"] (t9 c) f0 g0)(G1:e_ P w K mg base 5 c.run "step" ["self"] (uG c) f1 g1)(G2:e_ P w K mg base 5 c.run "faults" ["self"] (Bn c) f2 g2)(G3:e_ P w K mg base 5 c.run "answer" ["self"] (Bo c) f3 g3):bH P w K mg base (dM P w) 6 f fd ["run"] (fO 1 (vN c)):=
 gT F z2e λ_ _ _ _ _ _ hr fm dm=>by exact(cn (HJ aZ (wG (pB (tU G0 hr dQ (ev 0)))) (cF (i7 (tU G1 hr dQ (ev 0))))) (cF (fA (mM (be (tU G3 hr dQ (ev 0)) (be (tU G2 hr dQ (ev 0)) bW))))))
theorem z83(F:cJ K "call" "call" N5 dV f fd)(G0:FnAt P w K mg base 6 "finish" ["run"] (vN c) f0 g0)(G1:FnAt P w K mg base 6 "begin" ["hall", "place", "number"] (vM c) f1 g1):bH P w K mg base (dM P w) 7 f fd ["hall", "place", "number"] (fO 3 (wN c)):=
 gT F z81 λ_ _ _ _ _ _ hr fm dm=>by exact(cF (fA (gz G0 hr (by rfl) dQ (be (gz G1 hr (by rfl) dQ (be (ev 0) (be (ev 1) (be (ev 2) bW)))) bW))))
theorem ztq(F:cJ K "_law_round" "_law_round" IQ dV f fd)(mP:FnAt P w K mg base n "_law_round" ["rows", "number", "held"] Rc f fd):bH P w K mg base (dM P w) (n+1) f fd ["rows", "number", "held"] (fO 3 (cH 4 (xO Rc c))):=
 gT F Uc λ_ _ _ _ _ _ hr fm dm=>by exact(cn (cP (eQ dm (ev 0) (mi bW)) (cF (fA (ev 1))) gS) (cn (gO (i:=3) Uc.nd (by rfl) (by walk_at "o") (bI (bI (ev 0) bZ) bZ)) (cn (cP (eQ dm (bI (ev 3) bZ) gF) (cF (fA (bI (ev 3) bZ))) gS) (cn (cP (eQ dm (bI (ev 3) bZ) gF) (cF (fA (nV (Cm bZ (gz mP hr (by rfl) dQ (be (L6 (ev 0) (L5 bZ) L4) (be (nV (ev 1) (bI (ev 3) bZ)) (be (ev 2) bW))))) (bI (ev 3) bZ)))) gS) (cn (cP (eQ dm (bI (ev 3) bZ) gF) (cF (i7 (vA (ev 2) (be (mM (be (bI (bI (ev 0) bZ) bZ) (be (bI (ev 3) bZ) bW))) bW)))) gS) (cF (fA (gz mP hr (by rfl) dQ (be (L6 (ev 0) (L5 bZ) L4) (be (ev 1) (be (ev 2) bW)))))))))))
theorem ztr(F:cJ K "_law_round" "_law_round" IQ dV f fd)(hm:mg "_law_round" = aa (.ref f))(hk:W.keepIn K (.ref f)=true)(hb:lI K fd ["rows", "number", "held"] [])(n:Nat):bH P w K mg base (dM P w) n f fd ["rows", "number", "held"] (fO 3 (CO c n)):=by
 induction n with
 |zero=>exact Zck
 |succ n ih=>exact ztq P w base T F ⟨ih,hm,hk,hb⟩
theorem zv2(F:cJ K "_law_said" "_law_said" N6 dV f fd)  : bH P w K mg base (dM P w) 1 f fd ["deed", "number"] (fO 2 (uE c)):=
 gT F zvs λ_ _ _ _ _ _ hr fm dm=>by exact(cn (cP (eQ dm (bI (ev 0) bZ) gF) (cF (fA (nV (ev 1) (bI (ev 0) bZ)))) gS) (cn (cP (eQ dm (bI (ev 0) bZ) gF) (cF (fA (bI (ev 0) bZ))) gS) (cF (fA pz))))
theorem zrr(F:cJ K "_law_answer" "_law_answer" N7 dV f fd)(G0:FnAt P w K mg base 24 "_law_round" ["rows", "number", "held"] (Fk c) f0 g0)(G1:FnAt P w K mg base 24 "_law_said" ["deed", "number"] (uE c) f1 g1):bH P w K mg base (dM P w) 25 f fd ["kind", "rows", "number", "held"] (fO 4 (xP c)):=
 gT F CS λ_ _ _ _ _ _ hr fm dm=>by exact(cn (cP (eQ dm (ev 0) gF) (cF (fA (gz G0 hr (by rfl) dQ (be (ev 1) (be (ev 2) (be (ev 3) bW)))))) gS) (cn (gO (i:=4) CS.nd (by rfl) (by walk_at "o") (so bW)) (cn (qR aZ (by rfl) (oF (ev 1)) (oP _) (Kc (by rfl) (Ca (kx (i:=5) CS.nd (by rfl) (by walk_at "o")) (Ca (kx (i:=6) CS.nd (by rfl) (by walk_at "o")) Kb))) (LO _ _ _) (cn (gO (i:=7) CS.nd (by rfl) (by walk_at "o") (gz G1 hr (by rfl) dQ (be (ev 6) (be (ev 2) bW)))) (cF (cP (eQ dm (bI (ev 6) bZ) gF) (cF (i7 (vA (ev 3) (be (mM (be (ev 5) (be (bI (ev 6) bZ) bW))) bW)))) (cF (cP ((AM (eQ dm (ev 0) gF) (AL (HC (ev 7) pz)))).pt (cF (fA (ev 7))) (cF (cP (eQ dm (ev 0) gF) (cF (i7 (vA (ev 4) (be (mM (be (ev 5) (be (ev 7) bW))) bW)))) (cF (cP ((AM (eQ dm (ev 0) gF) (AL (HC (ev 7) pz)))).pt (cF (gO (i:=2) CS.nd (by rfl) (by walk_at "o") (ev 7))) gS)))))))))) (cF (fA (AQ fm (z8z gF (ev 4) gF pz gF (ev 2)) (ev 0)))))))
theorem zpm(F:cJ K "_law_outcome" "_law_outcome" N8 dV f fd)(G0:FnAt P w K mg base 25 "_law_answer" ["kind", "rows", "number", "held"] (xP c) f0 g0):bH P w K mg base (dM P w) 26 f fd ["kind", "rule", "rows", "number"] (fO 4 (zC c)):=
 bH.eU (gT F N9 λ_ _ _ _ _ _ hr fm dm=>by exact(cn (gO (i:=4) N9.nd (by rfl) (by walk_at "o") (so bW)) (cn (gO (i:=5) N9.nd (by rfl) (by walk_at "o") (gz G0 hr (by rfl) dQ (be (ev 0) (be (ev 2) (be (ev 3) (be (ev 4) bW)))))) (cn (cP ((AM (eQ dm (ev 1) gF) (AL (sj dm (ev 4) (mi bW))))).pt (cF (fA (mM (be gF (be (bI (ev 4) bZ) bW))))) gS) (cF (fA (mM (be gF (be (mM (be (ev 5) (be (ev 4) bW))) bW)))))))))
theorem zts(F:cJ K "_law_whole" "_law_whole" N_ dV f fd)  : bH P w K mg base (dM P w) 1 f fd ["found"] (fO 1 (Fo c)):=
 gT F ztj λ_ _ _ _ _ _ hr fm dm=>by exact(cF (fA (HA (Cp .int (by rfl) T.f' (ev 0) (by rfl) T.Fs (by decide +kernel)) (Hz (RN (Cp .bool (by rfl) T.f' (ev 0) (by rfl) T.Bq (by decide +kernel)))))))
theorem ztt(F:cJ K "_law_value" "_law_value" Oa dV f fd)(G0:FnAt P w K mg base 1 "_law_whole" ["found"] (Fo c) f0 g0):bH P w K mg base (dM P w) 2 f fd ["found", "due"] (fO 2 (zD c)):=
 gT F ztk λ_ _ _ _ _ _ hr fm dm=>by exact(cn (cP (tP (ev 1) pz) (cF (fA (LC (ev 0) pz))) gS) (cF (fA (HA (gz G0 hr (by rfl) dQ (be (ev 0) bW)) (Hz (xt dm (ev 0) (ev 1)))))))
theorem zlo(F:cJ K "_law_pairs_alike" "_law_pairs_alike" Ob dV f fd)(G0:FnAt P w K mg base 2 "_law_value" ["found", "due"] (zD c) f0 g0):bH P w K mg base (dM P w) 3 f fd ["found", "due"] (fO 2 (vO c)):=
 gT F Oc λ_ _ _ _ _ _ hr fm dm=>by exact(cn (cP ((qQ (wG (pB (Cp .list (by rfl) T.f' (ev 0) (by rfl) T.ji (by decide +kernel)))) (Cn (sj dm (zk (by rfl) T.kj (ev 0)) (zk (by rfl) T.kj (ev 1)))))).pt (cF (fA oM)) gS) (cn (qR aZ (by rfl) (GP (by rfl) T.nB (be (zk (by rfl) T.kj (ev 1)) bW)) HI (kx (i:=2) Oc.nd (by rfl) (by walk_at "o")) (mj _) (cn (gO (i:=3) Oc.nd (by rfl) (by walk_at "o") (bI (ev 0) (ev 2))) (cF (cP ((qQ (wG (pB (Cp .tuple (by rfl) T.f' (ev 3) (by rfl) T.pL (by decide +kernel)))) (qQ (sj dm (zk (by rfl) T.kj (ev 3)) bZ) (qQ (sj dm (bI (ev 3) bZ) (bI (bI (ev 1) (ev 2)) bZ)) (Cn (wG (pB (gz G0 hr (by rfl) dQ (be (bI (ev 3) bZ) (be (bI (bI (ev 1) (ev 2)) bZ) bW)))))))))).pt (cF (fA oM)) gS)))) (cF (fA oM))))
theorem zk6(F:cJ K "_law_answer_right" "_law_answer_right" Od dV f fd)(G0:FnAt P w K mg base 3 "_law_pairs_alike" ["found", "due"] (vO c) f0 g0)(G1:FnAt P w K mg base 3 "_law_value" ["found", "due"] (zD c) f1 g1):bH P w K mg base (dM P w) 4 f fd ["found", "due"] (fO 2 (xQ c)):=
 gT F zk5 λ_ _ _ _ _ _ hr fm dm=>by exact(cn (cP (pB (Cp .list (by rfl) T.f' (ev 1) (by rfl) T.ji (by decide +kernel))) (cF (fA (gz G0 hr (by rfl) dQ (be (ev 0) (be (ev 1) bW))))) gS) (cF (fA (gz G1 hr (by rfl) dQ (be (ev 0) (be (ev 1) bW))))))
theorem zmh(F:cJ K "_law_call_right" "_law_call_right" Oe dV f fd)(G0:FnAt P w K mg base 26 "_law_rows_now" ["pieces"] (xH c) f0 g0)(G1:FnAt P w K mg base 26 "call" ["hall", "place", "number"] (wN c) f1 g1)(G2:FnAt P w K mg base 26 "_law_outcome" ["kind", "rule", "rows", "number"] (zC c) f2 g2)(G3:FnAt P w K mg base 26 "_law_pairs_alike" ["found", "due"] (vO c) f3 g3)(G4:FnAt P w K mg base 26 "_law_answer_right" ["found", "due"] (xQ c) f4 g4):bH P w K mg base (dM P w) 27 f fd ["hall", "kind", "pieces", "number"] (fO 4 (Bp c)):=
 gT F CT λ_ _ _ _ _ _ hr fm dm=>by exact(cn (gO (i:=4) CT.nd (by rfl) (by walk_at "o") (gz G0 hr (by rfl) dQ (be (ev 2) bW))) (cn (gO (i:=5) CT.nd (by rfl) (by walk_at "o") pz) (cn (Zep (js:=[5]) (fb:=(IJ c)) (λpn kn xe R hk Ej own=>(cF (gO (i:=5) CT.nd (by rfl) (by walk_at "o") (gz G1 hr (by rfl) Ej (be (ev 0) (be gF (be (ev 3) bW)))) (hkn:=λu=>hk 5 (by decide) u)))) (Zeo (by rfl) T.vP T.xS (Zcj T.mro T.mh T.Br) (λ_=>(cF (gO (i:=5) CT.nd (by rfl) (by walk_at "o") (mM (be gF bW))))) Zcc)) (cn (cP (tP (ev 4) pz) (cF (fA (xt dm (ev 5) (mM (be gF bW))))) gS) (cn (cP ((qQ (wG (pB (Cp .tuple (by rfl) T.f' (ev 5) (by rfl) T.pL (by decide +kernel)))) (Cn (sj dm (zk (by rfl) T.kj (ev 5)) bZ)))).pt (cF (fA oM)) gS) (cn (gO (i:=6) CT.nd (by rfl) (by walk_at "o") (bI (gz G2 hr (by rfl) dQ (be (ev 1) (be gF (be (ev 4) (be (ev 3) bW))))) bZ)) (cF (fA (HA (gz G4 hr (by rfl) dQ (be (bI (ev 5) bZ) (be (bI (ev 6) bZ) bW))) (Hz (gz G3 hr (by rfl) dQ (be (bI (ev 5) bZ) (be (bI (ev 6) bZ) bW)))))))))))))
theorem zmi(F:cJ K "_law_ends_right" "_law_ends_right" Of dV f fd)(G0:FnAt P w K mg base 26 "_law_outcome" ["kind", "rule", "rows", "number"] (zC c) f0 g0)(G1:FnAt P w K mg base 26 "_law_pairs_alike" ["found", "due"] (vO c) f1 g1)(G2:e_ P w K mg base 26 c.run "faults" ["self"] (Bn c) f2 g2)(G3:FnAt P w K mg base 26 "_law_answer_right" ["found", "due"] (xQ c) f3 g3)(G4:e_ P w K mg base 26 c.run "answer" ["self"] (Bo c) f4 g4):bH P w K mg base (dM P w) 27 f fd ["run", "kind", "rows", "number"] (fO 4 (Fp c)):=
 gT F Ud λ_ _ _ _ _ _ hr fm dm=>by exact(cn (gO (i:=4) Ud.nd (by rfl) (by walk_at "o") (bI (gz G0 hr (by rfl) dQ (be (ev 1) (be gF (be (ev 2) (be (ev 3) bW))))) bZ)) (cF (fA (HA (gz G3 hr (by rfl) dQ (be (tU G4 hr dQ (ev 0)) (be (bI (ev 4) bZ) bW))) (Hz (gz G1 hr (by rfl) dQ (be (tU G2 hr dQ (ev 0)) (be (bI (ev 4) bZ) bW))))))))
theorem Zco(F:cJ K "law" "law" CU dV f fd)(G0:FnAt P w K mg base 27 "_law_set" ["script"] (Cy c) f0 g0)(G1:FnAt P w K mg base 27 "_law_cell_at" ["script", "k"] (sA c) f1 g1)(G2:FnAt P w K mg base 27 "_law_rows_now" ["pieces"] (xH c) f2 g2)(G3:FnAt P w K mg base 27 "_law_hall" ["pieces", "kind", "rule"] (CD c) f3 g3)(G4:FnAt P w K mg base 27 "begin" ["hall", "place", "number"] (vM c) f4 g4)(G5:FnAt P w K mg base 27 "_law_changed" ["hall", "pieces", "cell", "k"] (Fh c) f5 g5)(G6:e_ P w K mg base 27 c.run "step" ["self"] (uG c) f6 g6)(G7:FnAt P w K mg base 27 "_law_call_right" ["hall", "kind", "pieces", "number"] (Bp c) f7 g7)(G8:FnAt P w K mg base 27 "_law_ends_right" ["run", "kind", "rows", "number"] (Fp c) f8 g8)(G9:e_ P w K mg base 27 c.run "over" ["self"] (t9 c) f9 g9):bH P w K mg base (dM P w) 28 f fd ["script"] (fO 1 (T2 c)):=
 gT F zE λ_ _ _ _ _ _ hr fm dm=>by exact(cn (gO (i:=1) zE.nd (by rfl) (by walk_at "o") (gz G0 hr (by rfl) dQ (be (ev 0) bW))) (cn (gO (i:=2) zE.nd (by rfl) (by walk_at "o") (bI (mi (be gF (be gF (be gF (be gF bW))))) (mx (gz G1 hr (by rfl) dQ (be (ev 0) (be bZ bW))) bZ))) (cn (gO (i:=3) zE.nd (by rfl) (by walk_at "o") (Ls (mx (gz G1 hr (by rfl) dQ (be (ev 0) (be bZ bW))) bZ) bZ)) (cn (gO (i:=4) zE.nd (by rfl) (by walk_at "o") (gz G2 hr (by rfl) dQ (be (ev 1) bW))) (cn (cP (tP (ev 4) pz) (cF (fA oM)) gS) (cn (gO (i:=5) zE.nd (by rfl) (by walk_at "o") (gz G3 hr (by rfl) dQ (be (ev 1) (be (ev 2) (be gF bW))))) (cn (gO (i:=6) zE.nd (by rfl) (by walk_at "o") (gz G4 hr (by rfl) dQ (be (ev 5) (be gF (be (ev 3) bW))))) (cn (qR aZ (by rfl) (GP (by rfl) T.nB (be bZ bW)) HI (kx (i:=7) zE.nd (by rfl) (by walk_at "o")) (mj _) (cn (i7 (gz G5 hr (by rfl) dQ (be (ev 5) (be (ev 1) (be (gz G1 hr (by rfl) dQ (be (ev 0) (be (nV bZ (ev 7)) bW))) (be (ev 7) bW)))))) (cn (i7 (tU G6 hr dQ (ev 6))) (cF (cP ((AM (eQ dm (ev 7) bZ) (AL (wG (pB (gz G7 hr (by rfl) dQ (be (ev 5) (be (ev 2) (be (ev 1) (be (nV (ev 3) bZ) bW)))))))))).pt (cF (fA oM)) gS))))) (cn (cP ((qQ (HC (tU G9 hr dQ (ev 6)) oM) (Cn (wG (pB (gz G8 hr (by rfl) dQ (be (ev 6) (be (ev 2) (be (ev 4) (be (ev 3) bW)))))))))).pt (cF (fA oM)) gS) (cF (fA (gz G7 hr (by rfl) dQ (be (ev 5) (be (ev 2) (be (ev 1) (be (ev 3) bW))))))))))))))))
end
end K07
namespace DN
open PySem L2 MF
variable {c:Cl}{S:bG}
noncomputable def cellAt(ns:List Int)(k:Int):Int:=if k<ns.length then ns.getD k.toNat 0 else 0
theorem CV(ns:List Int)(k:Int)(hk:0<=k):sA c [.lst (ns.map .int),.int k] S=.ok (.int (cellAt ns k)) S:=by
 unfold cellAt;by_cases h:k<ns.length
 .have hh:k.toNat<ns.length:=by omega
  simp[sA,MD,h,Mb hk,hh]
 .simp[sA,MD,h]
def vQ:Str := "abcdefghijklmnopqrstuvwxyz"
noncomputable def qo(i:Int):Str:=⟨#[vQ.cps[i.toNat]?.getD 0]⟩
theorem zze:vQ.cps.toList.length=26:=by decide +kernel
theorem Og:vQ.length<=1000:=by decide +kernel
theorem Oh{i:Int}(h0:0<=i)(h1:i<26):kD vQ.cps.toList i=aa (vQ.cps[i.toNat]?.getD 0):=by
 have hl:=zze;rw[Mb h0 (by omega),ko];have:i.toNat<vQ.cps.size:=by rw[<- iH];omega
 rw[o9 this];rfl
noncomputable def qY(k:Int):Str:=if k%3=1 then qo (k%26) else qc fu ((cz (2+k%11).toNat).map λ(j:Nat)=>qo ((k+5*(j:Int))%26))
theorem IS:∀(l:List Str),uv (l.map T.str)=aa l
 |[]=>rfl
 | a::r=>by
   rw[ay];unfold uv;rw[IS r];rfl
theorem Ue(i:Int):(qo i).length=1:=rfl
theorem Ug(k:Int):∀l:List Nat,((l.map λ(j:Nat)=>qo ((k+5*(j:Int))%26)).map (·.length)).sum=l.length
 |[]=>rfl
 | a::r=>by
   have:=Ug k r;simp only[ay,B6,aY,Ue] at this ⊢;omega
theorem Oi(k:Int):wL c [.int k] S=.ok (.str (qY k)) S:=by
 have h26:=dq k (show(26:Int)≠0 by decide);have Oj:=cB k (show(0:Int)<26 by decide);have hL:(aj "abcdefghijklmnopqrstuvwxyz")=vQ:=rfl;unfold qY;by_cases h:k%3=1
 .have ha:=Oh h26 Oj
  simp[wL,MH,h,hL,Og,ha,qo]
 .have h11:=dq k (show(11:Int)≠0 by decide)
  have h11':=cB k (show(0:Int)<11 by decide);have hb:-1000000<=2+k%11/\2+k%11<=1000000:=by omega
  have hm:∀t∈qi 0 (2+k%11).toNat,ME c [aa t,aa (.str vQ),aa (.int k)] S=.ok ((λt=>match t with|.int j=>T.str (qo ((k+5*j)%26)) | _=>.bq) t) S:=by
   intro t ht;obtain⟨j,hj,rfl⟩:=au.mp ht;have m1:=dq (k+5*(0+(j:Int))) (show(26:Int)≠0 by decide);have m2:=cB (k+5*(0+(j:Int))) (show(0:Int)<26 by decide);have ha:=Oh m1 m2;rw[Gs] at ha;simp[ME,Og,ha,qo]
  have hc:=Md (ρ:=[aa (.int k),aa (.str vQ)]) (S:=S) (js:=[1,0]) (it:=MG c) (ts:=qi 0 (2+k%11).toNat) (st:=λ_=>True) (by simp[MG,hb]) trivial (by rw[Cs];omega) hm;have Bw:=Ug k (cz (2+k%11).toNat);rw[List.length_range] at Bw;have e3:(qi 0 (2+k%11).toNat).map (λt=>match t with|.int j=>T.str (qo ((k+5*j)%26)) | _=>.bq)=((cz (2+k%11).toNat).map λ(j:Nat)=>qo ((k+5*(j:Int))%26)).map T.str:=by
   unfold qi;rw[bQ,bQ];refine dj λj _=>?_;show T.str (qo ((k+5*(0+(j:Int)))%26))=T.str (qo ((k+5*(j:Int))%26));rw[Gs]
  rw[e3] at hc;have cX:((cz (2+k%11).toNat).map λ(j:Nat)=>qo ((k+5*(j:Int))%26)).length<=13:=by simp;omega
  generalize ((cz (2+k%11).toNat).map λ(j:Nat)=>qo ((k+5*(j:Int))%26))=l at hc Bw cX ⊢;have vR:(l.map (·.length)).sum+l.length*fu.length<=100000:=by
   rw[Bw,show fu.length=0 from rfl];omega
  have hj:Cq (.str fu) [.lst (l.map T.str)] S=.ok (.str (qc fu l)) S:=by
   unfold Cq;simp only[Ma,mV,IS,if_pos vR]
  have he:aj "" = fu:=rfl;simp[wL,MH,h,hL,hc,he,HH,hj]
noncomputable def xU(x:Int):Int:=if x / 8%9=4 then x%10 ^ 25-10 ^ 24 else x / 8%2001-1000
noncomputable def CW(x:Int):T:=if x%8=3 then .tup [.str "say",.int (xU x)] else if x%8=4 then .tup [.str "none"] else if x%8=5 then .tup [.str "fail",.int (xU x)] else .tup [.str "add",.int (xU x)]
theorem Zcp(x:Int):E4 c [.int x] S=.ok (CW x) S:=by
 unfold CW xU;by_cases h1:x / 8%9=4<;>by_cases h2:x%8=3<;>by_cases h3:x%8=4<;>by_cases h4:x%8=5<;>first
  |omega
  |simp[E4,To,h1,h2,h3,h4]
noncomputable def sW(x cK:Int):List Str:=if x%4>1 then[] else if x%4=1 then[qY (x / 4%cK),qY (x / 64%cK)] else[qY (x / 4%cK)]
theorem Zcq(x cK:Int)(hm:0<cK):wM c [.int x,.int cK] S=.ok (aL (sW x cK)) S:=by
 unfold sW aL;by_cases h1:1<x%4
 .simp[wM,Ii,h1]
 .by_cases h2:x%4=1
  .simp[wM,Ii,h1,h2,hm,Oi]
  .simp[wM,Ii,h1,h2,hm,Oi]
structure Pc where
 nm:Str
 pl:Str
 dd:T
 w0:List Str
 w1:List Str
 w2:List Str
 w3:List Str
 on:Bool
def Pc.t(p:Pc):T:=.tup [.str p.nm,.str p.pl,p.dd,.lst [aL p.w0,aL p.w1,aL p.w2,aL p.w3],.bl p.on]
noncomputable def zF(x:Int):Str:=if x / 4096%4=3 then "side" else "hub"
noncomputable def kH(ns:List Int)(start cK:Int)(k:Nat):Pc:=
 { nm:=qY k,pl:=zF (cellAt ns (start+3*k)),dd:=CW (cellAt ns (start+3*k)),
   w0:=sW (cellAt ns (start+3*k+1)) (cK+1),w1:=sW (cellAt ns (start+3*k+1) / 7) (cK+1),
   w2:=sW (cellAt ns (start+3*k+2)) (cK+1),w3:=sW (cellAt ns (start+3*k+2) / 7) (cK+1),on:=!decide (cellAt ns (start+3*k) / 64%6=1) }
noncomputable def rF(ns:List Int)(start cK:Int):List Pc:=(cz cK.toNat).map (kH ns start cK)
theorem zzg(x:Int):kD [T.str "hub",T.str "hub",T.str "hub",T.str "side"] (x / 4096%4)=aa (.str (zF x)):=by
 have h1:=dq (x / 4096) (show(4:Int)≠0 by decide);have h2:=cB (x / 4096) (show(0:Int)<4 by decide);unfold zF;have:x / 4096%4=0\/x / 4096%4=1\/x / 4096%4=2\/x / 4096%4=3:=by omega
 rcases this with h | h | h | h<;>rw[h]<;>rfl
theorem Uh{n:Nat}{pre:List T}{t:T}{post:List T}(h:qi 0 n=pre++t::post):pre.length<n/\t=.int pre.length:=by
 have hl:pre.length<(qi 0 n).length:=by rw[h];simp
 rw[Cs] at hl;have e:=R5 (lo:=0) hl;rw[h,cL (aB _),hZ] at e;simp at e;exact⟨hl,e⟩
theorem Fx{S:bG}{x y:bY}:(S++[x]).set S.length y=S++[y]:=by
 rw[kA _ _ (aB _),hZ];rfl
theorem qZ{S:bG}{x:bY}:(S++[x])[S.length]?=aa x:=by simp
end DN
namespace DN
open PySem L2 MF
variable {c:Cl}{S:bG}
structure jr where
 nm:Str
 kind:Str
 rule:Str
 i:Nat
structure HP where
 nm:Str
 pl:Str
 dd:T
 br:Option Str
 on:Bool
 w0:List Str
 w1:List Str
 w2:List Str
 w3:List Str
 i:Nat
noncomputable def CY:Option Str->T
 |none=>.bq
 |some x=>.str x
def HP.fs(p:HP):List (Str×T):=[("place",.str p.pl),("deed",p.dd),("by",CY p.br),("on",.bl p.on),("ahead",.obj (p.i+1)),("behind",.obj (p.i+2)),("needs",.obj (p.i+3)),("bars",.obj (p.i+4))]
def HP.block(c:Cl)(p:HP):List bY:=[.ins c.piece p.fs,.lst (p.w0.map .str),.lst (p.w1.map .str),.lst (p.w2.map .str),.lst (p.w3.map .str)]
structure mQ(c:Cl)(S:bG)(p:HP):Prop where
 o:S[p.i]?=aa (.ins c.piece p.fs)
 a0:S[p.i+1]?=aa (.lst (p.w0.map .str))
 a1:S[p.i+2]?=aa (.lst (p.w1.map .str))
 a2:S[p.i+3]?=aa (.lst (p.w2.map .str))
 a3:S[p.i+4]?=aa (.lst (p.w3.map .str))
noncomputable def n5(pl:List jr):List (cg×T):=pl.map λq=>(.inr q.nm,.obj q.i)
noncomputable def fQ(ps:List HP):List (cg×T):=ps.map λp=>(.inr p.nm,.obj p.i)
noncomputable def qp(h:Nat):List (Str×T):=[("places",.obj (h+1)),("pieces",.obj (h+2))]
structure gB(c:Cl)(S:bG)(h:Nat)(pl:List jr)(ps:List HP):Prop where
 hall:S[h]?=aa (.ins c.hall (qp h))
 places:S[h+1]?=aa (.dic (n5 pl))
 pieces:S[h+2]?=aa (.dic (fQ ps))
 place:∀q∈pl,S[q.i]?=aa (.ins c.place [("kind",.str q.kind),("rule",.str q.rule)])
 piece:∀p∈ps,mQ c S p
 lz:∀p∈ps,h+3<=p.i
 pw:ps.Pairwise λp q=>p.i+5<=q.i
 nd:(ps.map (·.nm)).Nodup
theorem IT(x:Str):∀(ps:List HP),dO (fQ ps) (.inr x)=(ps.find? λp=>decide (p.nm=x)).map λp=>T.obj p.i
 |[]=>rfl
 | p :: ps=>by
   have ih:=IT x ps;by_cases h:p.nm=x
   .have:dO (fQ (p::ps)) (.inr x)=aa (.obj p.i):=by simp[dO,fQ,h]
    rw[this];simp[h]
   .have e:dO (fQ (p::ps)) (.inr x)=dO (fQ ps) (.inr x):=by
     simp[dO,fQ,cf,h]
    rw[e,ih];simp[h]
theorem Ol(x:Str):∀(pl:List jr),dO (n5 pl) (.inr x)=(pl.find? λp=>decide (p.nm=x)).map λp=>T.obj p.i
 |[]=>rfl
 | p :: ps=>by
   have ih:=Ol x ps;by_cases h:p.nm=x
   .have:dO (n5 (p::ps)) (.inr x)=aa (.obj p.i):=by simp[dO,n5,h]
    rw[this];simp[h]
   .have e:dO (n5 (p::ps)) (.inr x)=dO (n5 ps) (.inr x):=by
     simp[dO,n5,cf,h]
    rw[e,ih];simp[h]
@[simp]theorem Zgo(C:ai)(f:Str)(k:Nat):df C f (.obj k) S=(match pD S C (.obj k) with|some (_,fs)=>(match fs.lookup f with|some u=>.ok u S | none=>.bad) | none=>.bad):=rfl
theorem q5{C:ai}{k:Nat}{fs:List (Str×T)}(h:S[k]?=aa (.ins C fs)):pD S C (.obj k)=aa (k,fs):=by simp[pD,h]
@[simp] theorem Zfu (C:ai) (m:Str) (F:Fn) (ds:List T) (fo:DE) (fr:DA) {ρ:Ev}:i8 C m F ds fo fr ρ S=(fo ρ).bind (λo=>λS=>match pD S C o with
  |some (_,fs)=>if(fs.lookup m).isNone=true then((fr ρ).bind λts=>F (o::(ts++ds))) S else .bad
  |none=>.bad) S:=rfl
theorem zG{k:Nat}{kvs:List (cg×T)}(h:S[k]?=aa (.dic kvs)):nU S (.obj k)=aa kvs:=by simp[nU,h]
theorem gB.ins{h:Nat}{pl:List jr}{ps:List HP}(A:gB c S h pl ps):pD S c.hall (.obj h)=aa (h,qp h):=q5 A.hall
theorem gB.sX{h:Nat}{pl:List jr}{ps:List HP}(A:gB c S h pl ps):nU S (.obj (h+2))=aa (fQ ps):=zG A.pieces
theorem gB.sY{h:Nat}{pl:List jr}{ps:List HP}(A:gB c S h pl ps):nU S (.obj (h+1))=aa (n5 pl):=zG A.places
theorem Ui(h:Nat):bK (aj "places") (qp h)=aa (.obj (h+1)):=by
 unfold qp;rw[aJ];rw[show(aj "places" == aj "places")=true by decide +kernel]
theorem Fy(h:Nat):bK (aj "pieces") (qp h)=aa (.obj (h+2)):=by
 unfold qp;rw[aJ,show(aj "pieces" == aj "places")=false by decide +kernel];simp only;rw[aJ,show(aj "pieces" == aj "pieces")=true by decide +kernel]
theorem qq{m:Str}(h:Nat)(h1:(m==aj "places")=false)(h2:(m==aj "pieces")=false):bK m (qp h)=ae:=by
 unfold qp;rw[aJ,h1];simp only;rw[aJ,h2];rfl
theorem Fz{h:Nat}{pl:List jr}{ps:List HP}(A:gB c S h pl ps){x:Str}{p:HP}(hp:ps.find? (λp=>decide (p.nm=x))=aa p):tY c [.obj h,.str x] S=.ok (.obj p.i) S:=by
 have e:=IT x ps;rw[hp] at e;simp[tY,Tz,A.ins,Fy,vy,je,A.sX,eE,e]
theorem IU{h:Nat}{pl:List jr}{ps:List HP}(A:gB c S h pl ps){x:Str}{p:jr}(hp:pl.find? (λp=>decide (p.nm=x))=aa p):xI c [.obj h,.str x] S=.ok (.obj p.i) S:=by
 have e:=Ol x pl;rw[hp] at e;simp[xI,Tu,A.ins,Ui,vy,je,A.sY,eE,e]
theorem xV{ps:List HP}(nd:(ps.map (·.nm)).Nodup){p:HP}(hp:p∈ps):ps.find? (λq=>decide (q.nm=p.nm))=aa p:=by
 induction ps with
 |nil=>cases hp
 | cons q ps ih=>
   rw[ay,cM] at nd;rcases aH.mp hp with rfl | hp
   .simp
   .have:q.nm≠p.nm:=λe=>nd.1 (au.mpr ⟨p,hp,e.symm⟩)
    rw[cf];simp[this,ih nd.2 hp]
end DN
namespace DN
open PySem L2 MF
variable {c:Cl}{S:bG}{ρ:Ev}
@[simp] theorem ztu (a b:String):(aj a=aj b)=(a=b):=by
  apply propext;constructor
  .intro h
   rw[sO,sO] at h;have h1:a.toList.map pb=b.toList.map pb:=by simpa using h
   have inj:∀(x y:List Char),x.map pb=y.map pb->x=y:=by
    intro x
    induction x with
    |nil=>intro y h;cases y with|nil=>rfl | cons _ _=>simp at h
    | cons p x ih=>
      intro y h;cases y with
      |nil=>simp at h
      | cons q y=>
        simp only[ay,mG] at h;rw[ih y h.2];have:p=q:=by
         have:=h.1;apply Char.ext;exact UInt32.toNat_inj.mp this
        rw[this]
   exact String.toList_inj.mp (inj _ _ h1)
  .rintro rfl;rfl
@[simp] theorem z6m (a b:String):(aj a==aj b)=(a==b):=by
  rw[eF,beq_iff_eq,beq_iff_eq,ztu]
@[simp] theorem Zfv (C:ai) (F:Fn) (ds:List T) (fr:DA):zp C F ds fr ρ S=(fr ρ).bind (λts=>λS=>M.bind (F (.obj S.length::(ts++ds))) (λt=>match t with
  |.bq=>M.pure (.obj S.length)
  |_=>M.bad) (S++[.ins C []])) S:=rfl
@[simp] theorem Zfw (C:ai) (f:Str) (fo fv:DE):lP C f fo fv ρ S=(fv ρ).bind (λt=>(fo ρ).bind λo=>λS=>match pD S C o with
  |some (k,fs)=>if fs.length<900 then .ok (.nx ρ) (S.set k (.ins C (tS f t fs))) else .bad
  |none=>.bad) S:=rfl
@[simp] theorem Zcr (fd fk fv:DE):wI fd fk fv ρ S=(fv ρ).bind (λt=>(fd ρ).bind λd=>(fk ρ).bind λk=>λS=>match d,eE k with
  | .obj j,aa key=>(match S[j]? with
    |some (.dic kvs)=>if kvs.length<=900 then .ok (.nx ρ) (S.set j (.dic (m4 kvs key t))) else .bad
    |_=>.bad)
  |_,_=>.bad) S:=rfl
@[simp]theorem Zdh(f:Str)(v:T):tS f v []=[(f,v)]:=rfl
@[simp]theorem Zcs(f g:Str)(v x:T)(r:List (Str×T)):tS f v ((g,x)::r)=if g=f then(g,v)::r else(g,x)::tS f v r:=rfl
theorem n9(L:List bY)(j:Nat):(S++L)[S.length+j]?=L[j]?:=by rw[cL (by omega)];congr 1;omega
theorem FA(L:List bY)(j:Nat)(v:bY):(S++L).set (S.length+j) v=S++L.set j v:=by rw[kA _ _ (by omega)];congr 2;omega
theorem xW(L:List bY):(S++L)[S.length]?=L[0]?:=n9 L 0
theorem Bx(L:List bY)(v:bY):(S++L).set S.length v=S++L.set 0 v:=FA L 0 v
@[simp] theorem Zfx (C:ai) (fs:List (Str×T)) (L:List bY):pD (S++bY.ins C fs::L) C (.obj S.length)=aa (S.length,fs):=by
  exact q5 (by rw[xW];rfl)
theorem zv5:E_ c [.obj S.length] (S++[.ins c.hall []])=.ok .bq (S++[.ins c.hall (qp S.length),.dic [],.dic []]):=by
 simp[E_,Tr,Bx,qp]
theorem ztv(k r:Str):Fb c [.obj S.length,.str k,.str r] (S++[.ins c.place []])=.ok .bq (S++[.ins c.place [("kind",.str k),("rule",.str r)]]):=by
 simp[Fb,Ts,Bx]
noncomputable def gG(nm pl:Str)(dd:T)(br:Option Str)(i:Nat):HP:={ nm:=nm,pl:=pl,dd:=dd,br:=br,on:=true,w0:=[],w1:=[],w2:=[],w3:=[],i:=i }
theorem ztw(nm pl:Str)(dd:T)(br:Option Str):CC c [.obj S.length,.str pl,dd,CY br] (S++[.ins c.piece []])=.ok .bq (S++(gG nm pl dd br S.length).block c):=by
 simp[CC,Tv,Bx,HP.block,gG,HP.fs]
theorem dW{k j:Nat}{v:bY}(h:k≠j):(S.set k v)[j]?=S[j]?:=c7 h
theorem kQ{k:Nat}{v:bY}{u:bY}(h:S[k]?=aa u):(S.set k v)[k]?=aa v:=by
 have:=(aw.mp h).1;simp[mW,this]
theorem nC{L:bG}{k:Nat}{u:bY}(h:S[k]?=aa u):(S++L)[k]?=aa u:=by
 rw[aD (aw.mp h).1];exact h
theorem mQ.app{L:bG}{p:HP}(A:mQ c S p):mQ c (S++L) p:=⟨nC A.o,nC A.a0,nC A.a1,nC A.a2,nC A.a3⟩
theorem gB.app{L:bG}{h:Nat}{pl:List jr}{ps:List HP}(A:gB c S h pl ps):gB c (S++L) h pl ps:=
 ⟨nC A.hall,nC A.places,nC A.pieces,λq hq=>nC (A.place q hq),λp hp=>(A.piece p hp).app,A.lz,A.pw,A.nd⟩
theorem vT{k j:Nat}{u v:bY}(h:S[k]?=aa u)(g:S[j]?=aa v)(d:u≠v):k≠j:=λe=>by subst e;rw[h] at g;exact d (bf g)
theorem mQ.set{k:Nat}{v:bY}{p:HP}(A:mQ c S p)(h:∀j,j<5->k≠p.i+j):mQ c (S.set k v) p:=
 ⟨by rw[dW (show k≠p.i from h 0 (by decide))];exact A.o,by rw[dW (h 1 (by decide))];exact A.a0,by rw[dW (h 2 (by decide))];exact A.a1,by rw[dW (h 3 (by decide))];exact A.a2,by rw[dW (h 4 (by decide))];exact A.a3⟩
theorem gB.lt{h:Nat}{pl:List jr}{ps:List HP}(A:gB c S h pl ps):h+2<S.length:=(aw.mp A.pieces).1
theorem mQ.lt{p:HP}(A:mQ c S p):p.i+4<S.length:=(aw.mp A.a3).1
theorem gB.FC{h:Nat}{pl:List jr}{ps:List HP}(A:gB c S h pl ps){nm q:Str}{dd:T}{br:Option Str}(hn:nm∉ps.map (·.nm)) :
  gB c (S.set (h+2) (.dic (fQ (ps++[gG nm q dd br S.length])))++(gG nm q dd br S.length).block c) h pl (ps++[gG nm q dd br S.length]):=by
 have hl:=A.lt;have len:(S.set (h+2) (.dic (fQ (ps++[gG nm q dd br S.length])))).length=S.length:=by simp
 have nb:∀j,(S.set (h+2) (.dic (fQ (ps++[gG nm q dd br S.length])))++(gG nm q dd br S.length).block c)[S.length+j]?=((gG nm q dd br S.length).block c)[j]?:=λj=>by
  have:=n9 (S:=S.set (h+2) (.dic (fQ (ps++[gG nm q dd br S.length])))) ((gG nm q dd br S.length).block c) j;rw[len] at this;exact this
 have hpc:∀p∈ps,mQ c (S.set (h+2) (.dic (fQ (ps++[gG nm q dd br S.length])))++(gG nm q dd br S.length).block c) p:=λp hp=>((A.piece p hp).set (λj hj=>by have:=A.lz p hp;omega)).app;refine⟨nC (by rw[dW (by omega)];exact A.hall),nC (by rw[dW (by omega)];exact A.places),nC (kQ A.pieces),λp hp=>nC ?_,λp hp=>?_,λp hp=>?_,?_,?_⟩
 .rw[dW (vT A.pieces (A.place p hp) (by intro z;cases z))];exact A.place p hp
 .rcases bp.mp hp with hp | hp
  .exact hpc p hp
  .rw[aC.mp hp]
   exact⟨nb 0,nb 1,nb 2,nb 3,nb 4⟩
 .rcases bp.mp hp with hp | hp
  .exact A.lz p hp
  .rw[aC.mp hp];show h+3<=S.length;omega
 .rw[List.pairwise_append]
  refine⟨A.pw,by simp,λp hp r hr=>?_⟩;rw[aC.mp hr];show p.i+5<=S.length;have:=(A.piece p hp).lt;omega
 .rw[aK]
  refine cq.mpr ⟨A.nd,by simp,λx hx y hy e=>?_⟩;simp only[ay,gr,aC] at hy;subst e;rw[hy] at hx;exact hn hx
theorem gB.block{S':bG}{h:Nat}{pl:List jr}{ps:List HP}(A:gB c S h pl ps){p p':HP}(hp:p∈ps)(hnm:p'.nm=p.nm)(hi:p'.i=p.i)(pM:∀k,(k<p.i\/p.i+5<=k)->S'[k]?=S[k]?)
  (hA:mQ c S' p'):gB c S' h pl (ps.map λq=>if q.nm=p.nm then p' else q):=by
 have hf:=A.lz p hp;have P:=A.piece p hp;have Om:∀q∈ps,q.nm=p.nm->q=p:=λq hq e=>by
  have h1:=xV A.nd hq;have h2:=xV A.nd hp;rw[e,h2] at h1;exact(bf h1).symm
 have lz:∀q∈ps,q.nm≠p.nm->p.i+5<=q.i\/q.i+5<=p.i:=λq hq ne=>by
  have mZ:q≠p:=λe=>ne (by rw[e]);have pw:=A.pw;have:∀l:List HP,l.Pairwise (λp q=>p.i+5<=q.i)->p∈l->q∈l->p.i+5<=q.i\/q.i+5<=p.i:=by
   intro l
   induction l with
   |nil=>intro _ h;cases h
   | cons a l ih=>
     intro pw h1 h2;rw[List.pairwise_cons] at pw;rcases aH.mp h1 with e1 | g1
     .rcases aH.mp h2 with e2 | g2
      .exact absurd (e2.trans e1.symm) mZ
      .rw[e1];exact .inl (pw.1 q g2)
     .rcases aH.mp h2 with e2 | g2
      .rw[e2];exact .inr (pw.1 p g1)
      .exact ih pw.2 g1 g2
  exact this ps pw hp hq
 have FD:∀q:HP,(if q.nm=p.nm then p' else q).nm=q.nm:=λq=>by split<;>simp_all
 have Oo:fQ (ps.map λq=>if q.nm=p.nm then p' else q)=fQ ps:=by
  unfold fQ;rw[bQ];refine dj λq hq=>?_;show(dI (if q.nm=p.nm then p' else q).nm,T.obj (if q.nm=p.nm then p' else q).i)=_;rw[FD];by_cases e:q.nm=p.nm
  .rw[if_pos e,hi,Om q hq e]
  .rw[if_neg e]
 refine⟨by rw[pM _ (by omega)];exact A.hall,by rw[pM _ (by omega)];exact A.places,by rw[pM _ (by omega),Oo];exact A.pieces,λq hq=>?_,λq hq=>?_,λq hq=>?_,?_,?_⟩
 .have Q:=A.place q hq
  have n0:=vT P.o Q (by intro z;injection z with _ z2;simp[HP.fs] at z2);have n1:=vT P.a0 Q (by intro z;cases z);have n2:=vT P.a1 Q (by intro z;cases z);have n3:=vT P.a2 Q (by intro z;cases z);have n4:=vT P.a3 Q (by intro z;cases z);rw[pM _ (by omega)];exact Q
 .obtain⟨r,hr,rfl⟩:=au.mp hq
  by_cases e:r.nm=p.nm
  .rw[if_pos e];exact hA
  .rw[if_neg e]
   have R:=A.piece r hr;have fr:=lz r hr e;exact⟨by rw[pM _ (by omega)];exact R.o,by rw[pM _ (by omega)];exact R.a0,by rw[pM _ (by omega)];exact R.a1,by rw[pM _ (by omega)];exact R.a2,by rw[pM _ (by omega)];exact R.a3⟩
 .obtain⟨r,hr,rfl⟩:=au.mp hq
  by_cases e:r.nm=p.nm
  .rw[if_pos e,hi];exact hf
  .rw[if_neg e];exact A.lz r hr
 .rw[wu]
  refine A.pw.imp_of_mem λ{a b} ha hb Oq=>?_;have ia:(if a.nm=p.nm then p' else a).i=a.i:=by
   by_cases e:a.nm=p.nm
   .rw[if_pos e,hi,Om a ha e]
   .rw[if_neg e]
  have ib:(if b.nm=p.nm then p' else b).i=b.i:=by
   by_cases e:b.nm=p.nm
   .rw[if_pos e,hi,Om b hb e]
   .rw[if_neg e]
  rw[ia,ib];exact Oq
 .rw[bQ]
  rw[show((λx:HP=>x.nm)∘λq=>if q.nm=p.nm then p' else q)=λq:HP=>q.nm from funext λq=>FD q];exact A.nd
theorem mQ.w0{p:HP}(A:mQ c S p)(l:List Str):mQ c (S.set (p.i+1) (.lst (l.map .str))) { p with w0:=l }:=
 ⟨by rw[dW (show p.i+1≠p.i by omega)];exact A.o,kQ A.a0,by rw[dW (show p.i+1≠p.i+2 by omega)];exact A.a1,by rw[dW (show p.i+1≠p.i+3 by omega)];exact A.a2,by rw[dW (show p.i+1≠p.i+4 by omega)];exact A.a3⟩
theorem mQ.w1{p:HP}(A:mQ c S p)(l:List Str):mQ c (S.set (p.i+2) (.lst (l.map .str))) { p with w1:=l }:=
 ⟨by rw[dW (show p.i+2≠p.i by omega)];exact A.o,by rw[dW (show p.i+2≠p.i+1 by omega)];exact A.a0,kQ A.a1,by rw[dW (show p.i+2≠p.i+3 by omega)];exact A.a2,by rw[dW (show p.i+2≠p.i+4 by omega)];exact A.a3⟩
theorem mQ.w2{p:HP}(A:mQ c S p)(l:List Str):mQ c (S.set (p.i+3) (.lst (l.map .str))) { p with w2:=l }:=
 ⟨by rw[dW (show p.i+3≠p.i by omega)];exact A.o,by rw[dW (show p.i+3≠p.i+1 by omega)];exact A.a0,by rw[dW (show p.i+3≠p.i+2 by omega)];exact A.a1,kQ A.a2,by rw[dW (show p.i+3≠p.i+4 by omega)];exact A.a3⟩
theorem mQ.w3{p:HP}(A:mQ c S p)(l:List Str):mQ c (S.set (p.i+4) (.lst (l.map .str))) { p with w3:=l }:=
 ⟨by rw[dW (show p.i+4≠p.i by omega)];exact A.o,by rw[dW (show p.i+4≠p.i+1 by omega)];exact A.a0,by rw[dW (show p.i+4≠p.i+2 by omega)];exact A.a1,by rw[dW (show p.i+4≠p.i+3 by omega)];exact A.a2,kQ A.a3⟩
theorem mQ.turn{p:HP}(A:mQ c S p)(b:Bool):mQ c (S.set p.i (.ins c.piece { p with on:=b }.fs)) { p with on:=b }:=
 ⟨kQ A.o,by rw[dW (show p.i≠p.i+1 by omega)];exact A.a0,by rw[dW (show p.i≠p.i+2 by omega)];exact A.a1,by rw[dW (show p.i≠p.i+3 by omega)];exact A.a2,by rw[dW (show p.i≠p.i+4 by omega)];exact A.a3⟩
end DN
namespace DN
open PySem L2 MF
variable {c:Cl}{S:bG}{ρ:Ev}
theorem Ot:rE c [.bq] S=.ok (aL []) S:=by simp[rE,Iv,mL,mK,aL]
theorem IV(l:List Str):rE c [aL l] S=.ok (aL l) S:=by simp[rE,Iv,mL,mK,aL,tQ,sr]
theorem ztx(l:List Str):rE c [.tup (l.map T.str)] S=.ok (aL l) S:=by simp[rE,Iv,mL,mK,aL,tQ,sr]
theorem IW{kvs:List (cg×T)}{k:cg}{v:T}(h:dO kvs k=ae):m4 kvs k v=kvs++[(k,v)]:=by
 unfold m4;rw[if_neg];intro z;obtain⟨p,hp,e⟩:=gu.mp z;unfold dO at h;rw[qE,ee] at h;exact h p hp e
theorem z2j{ps:List HP}{x:Str}(h:x∉ps.map (·.nm)):ps.find? (λp=>decide (p.nm=x))=ae:=by
 rw[ee];intro p hp e;exact h (au.mpr ⟨p,hp,by simpa using e⟩)
theorem Uj{h:Nat}{pl:List jr}{ps:List HP}(A:gB c S h pl ps){nm q:Str}{dd:T}{pm:jr}(hn:nm∉ps.map (·.nm))(hq:pl.find? (λp=>decide (p.nm=q))=aa pm)(hl:ps.length<24) :
  Bh c [.obj h,.str nm,.str q,dd,.bq] S=.ok .bq (S.set (h+2) (.dic (fQ (ps++[gG nm q dd ae S.length])))++(gG nm q dd ae S.length).block c):=by
 have e1:dO (fQ ps) (.inr nm)=ae:=by rw[IT,z2j hn];rfl
 have hm:=qq (m:=aj "find_place") h (by simp) (by simp);have e2:=IU A hq;have cX:¬(24:Int)<=(fQ ps).length:=by simp[fQ];omega
 have e3:=ztw (c:=c) (S:=S) nm q dd ae;have len:=A.lt;have e4:(S++(gG nm q dd ae S.length).block c)[h+2]?=aa (.dic (fQ ps)):=nC A.pieces;have e5:(S++(gG nm q dd ae S.length).block c).set (h+2) (.dic (m4 (fQ ps) (.inr nm) (.obj S.length)))=S.set (h+2) (.dic (fQ (ps++[gG nm q dd ae S.length])))++(gG nm q dd ae S.length).block c:=by
  rw[tw _ _ (by omega),IW e1];simp[fQ,gG]
 have e6:(fQ ps).length<=900:=by simp[fQ];omega
 have A2:pD (S++(gG nm q dd ae S.length).block c) c.hall (.obj h)=aa (h,qp h):=q5 (nC A.hall);have e7:zo (.obj (h+2)) S=.ok (.int (fQ ps).length) S:=by simp[zo,A.pieces]
 have e3':CC c [.obj S.length,.str q,dd,.bq] (S++[.ins c.piece []])=.ok .bq (S++(gG nm q dd ae S.length).block c):=e3;simp[Bh,Tw,A.ins,Fy,jf,A.sX,eE,e1,hm,e2,vx,mK,e7,cX,e3',A2,e4,e6,e5]
theorem Uk{h:Nat}{pl:List jr}{ps:List HP}(A:gB c S h pl ps){nm k r:Str}(hn:pl.find? (λp=>decide (p.nm=nm))=ae)(hl:pl.length<8) :
  CB c [.obj h,.str nm,.str k,.str r] S=.ok .bq (S.set (h+1) (.dic (n5 (pl++[⟨nm,k,r,S.length⟩])))++[.ins c.place [("kind",.str k),("rule",.str r)]]):=by
 have e1:dO (n5 pl) (.inr nm)=ae:=by rw[Ol,hn];rfl
 have cX:¬(8:Int)<=(n5 pl).length:=by simp[n5];omega
 have e3:=ztv (c:=c) (S:=S) k r;have len:=A.lt;have e4:(S++[bY.ins c.place [("kind",.str k),("rule",.str r)]])[h+1]?=aa (.dic (n5 pl)):=nC A.places;have e5:(S++[bY.ins c.place [("kind",.str k),("rule",.str r)]]).set (h+1) (.dic (m4 (n5 pl) (.inr nm) (.obj S.length)))=S.set (h+1) (.dic (n5 (pl++[⟨nm,k,r,S.length⟩])))++[.ins c.place [("kind",.str k),("rule",.str r)]]:=by
  rw[tw _ _ (by omega),IW e1];simp[n5]
 have e6:(n5 pl).length<=900:=by simp[n5];omega
 have A2:pD (S++[bY.ins c.place [("kind",.str k),("rule",.str r)]]) c.hall (.obj h)=aa (h,qp h):=q5 (nC A.hall);have e7:zo (.obj (h+1)) S=.ok (.int (n5 pl).length) S:=by simp[zo,A.places]
 generalize hN:(S++[bY.ins c.place [("kind",.str k),("rule",.str r)]])=N at e3 e4 e5 A2;simp[CB,Tt,A.ins,Ui,jf,A.sY,eE,e1,e7,cX,e3,A2,e4,e6,e5]
theorem gB.zH{h:Nat}{pl:List jr}{ps:List HP}(A:gB c S h pl ps){nm k r:Str} :
  gB c (S.set (h+1) (.dic (n5 (pl++[⟨nm,k,r,S.length⟩])))++[.ins c.place [("kind",.str k),("rule",.str r)]]) h (pl++[⟨nm,k,r,S.length⟩]) ps:=by
 have len:=A.lt;refine⟨nC (by rw[dW (by omega)];exact A.hall),nC (kQ A.places),nC (by rw[dW (by omega)];exact A.pieces),λq hq=>?_,λp hp=>((A.piece p hp).set (λj hj=>by have:=A.lz p hp;omega)).app,A.lz,A.pw,A.nd⟩;rcases bp.mp hq with hq | hq
 .exact nC (by rw[dW (vT A.places (A.place q hq) (by intro z;cases z))];exact A.place q hq)
 .rw[aC.mp hq]
  have:=xW (S:=S.set (h+1) (.dic (n5 (pl++[⟨nm,k,r,S.length⟩])))) [bY.ins c.place [("kind",.str k),("rule",.str r)]];rw[eI] at this;exact this
theorem Ul(p:HP):bK (aj "ahead") p.fs=aa (.obj (p.i+1)):=by simp[HP.fs,aJ]
theorem Um(p:HP):bK (aj "behind") p.fs=aa (.obj (p.i+2)):=by simp[HP.fs,aJ]
theorem z48(p:HP):bK (aj "needs") p.fs=aa (.obj (p.i+3)):=by simp[HP.fs,aJ]
theorem z84(p:HP):bK (aj "bars") p.fs=aa (.obj (p.i+4)):=by simp[HP.fs,aJ]
noncomputable def vU(p:HP)(l0 l1 l2 l3:List Str):HP:={ p with w0:=p.w0++l0,w1:=p.w1++l1,w2:=p.w2++l2,w3:=p.w3++l3 }
theorem IX{k:Nat}{w l:List Str}(h:S[k]?=aa (.lst (w.map .str)))(hl:w.length+l.length<=1000):mB (.obj k) [aL l] S=.ok .bq (S.set k (.lst ((w++l).map .str))):=by
 have:=HY (y:=aL l) h rfl (by simpa using hl);rw[this,aK]
theorem Uo{h:Nat}{pl:List jr}{ps:List HP}(A:gB c S h pl ps){p:HP}(hp:p∈ps){t0 t1 t2 t3:T}{l0 l1 l2 l3:List Str}
  (e0:∀S,rE c [t0] S=.ok (aL l0) S) (e1:∀S,rE c [t1] S=.ok (aL l1) S) (e2:∀S,rE c [t2] S=.ok (aL l2) S) (e3:∀S,rE c [t3] S=.ok (aL l3) S)
  (b0:p.w0.length+l0.length<=1000) (b1:p.w1.length+l1.length<=1000) (b2:p.w2.length+l2.length<=1000) (b3:p.w3.length+l3.length<=1000) :
  ∃S',xJ c [.obj h,.str p.nm,t0,t1,t2,t3] S=.ok .bq S'/\gB c S' h pl (ps.map λq=>if q.nm=p.nm then vU p l0 l1 l2 l3 else q)/\S'.length=S.length/\∀k,(k<p.i\/p.i+5<=k)->S'[k]?=S[k]?:=by
 have P0:=A.piece p hp;have P1:=P0.w0 (p.w0++l0);have P2:=P1.w1 (p.w1++l1);have P3:=P2.w2 (p.w2++l2);have P4:=P3.w3 (p.w3++l3);have hm:=qq (m:=aj "find_piece") h (by simp) (by simp);have ef:=Fz A (xV A.nd hp);have x0:=IX P0.a0 b0;have x1:=IX P1.a1 b1;have x2:=IX P2.a2 b2;have x3:=IX P3.a3 b3;have i0:=q5 P0.o;have i1:=q5 P1.o;have i2:=q5 P2.o;have i3:=q5 P3.o;have k0:=m5 P0.a0;have k1:=m5 P1.a1;have k2:=m5 P2.a2;have k3:=m5 P3.a3;have q1:({ p with w0:=p.w0++l0 }:HP).fs=p.fs:=rfl;have q2:({ p with w0:=p.w0++l0,w1:=p.w1++l1 }:HP).fs=p.fs:=rfl;have q3:({ p with w0:=p.w0++l0,w1:=p.w1++l1,w2:=p.w2++l2 }:HP).fs=p.fs:=rfl;simp only at x0 x1 x2 x3 i0 i1 i2 i3 k0 k1 k2 k3;rw[q1] at i1;rw[q2] at i2;rw[q3] at i3;have FE:∀k,(k<p.i\/p.i+5<=k)->((((S.set (p.i+1) (.lst ((p.w0++l0).map .str))).set (p.i+2) (.lst ((p.w1++l1).map .str))).set (p.i+3) (.lst ((p.w2++l2).map .str))).set (p.i+4) (.lst ((p.w3++l3).map .str)))[k]?=S[k]?:=λk hk=>by
  rw[dW (by omega),dW (by omega),dW (by omega),dW (by omega)]
 refine⟨_,?_,A.block hp (p':=vU p l0 l1 l2 l3) rfl rfl FE P4,by simp,FE⟩;generalize Up:S.set (p.i+1) (.lst ((p.w0++l0).map .str))=S1 at *;generalize hS2:S1.set (p.i+2) (.lst ((p.w1++l1).map .str))=S2 at *;generalize hS3:S2.set (p.i+3) (.lst ((p.w2++l2).map .str))=S3 at *;generalize hS4:S3.set (p.i+4) (.lst ((p.w3++l3).map .str))=S4 at *;simp[xJ,TB,A.ins,hm,ef,i0,i1,i2,i3,Ul,Um,z48,z84,k0,k1,k2,k3,e0,e1,e2,e3,x0,x1,x2,x3]
theorem Uq{h:Nat}{pl:List jr}{ps:List HP}(A:gB c S h pl ps){p:HP}(hp:p∈ps)(b:Bool) :
  ∃S',zv c [.obj h,.str p.nm,.bl b] S=.ok .bq S'/\gB c S' h pl (ps.map λq=>if q.nm=p.nm then { p with on:=b } else q)/\S'.length=S.length/\∀k,(k<p.i\/p.i+5<=k)->S'[k]?=S[k]?:=by
 have P0:=A.piece p hp;have hm:=qq (m:=aj "find_piece") h (by simp) (by simp);have ef:=Fz A (xV A.nd hp);have FE:∀k,(k<p.i\/p.i+5<=k)->(S.set p.i (.ins c.piece ({ p with on:=b }:HP).fs))[k]?=S[k]?:=λk hk=>by rw[dW (by omega)]
 have i0:=q5 P0.o;have hfs:tS (aj "on") (.bl b) p.fs=({ p with on:=b }:HP).fs:=by simp[HP.fs]
 have cX:p.fs.length<900:=by simp[HP.fs]
 refine⟨_,?_,A.block hp (p':={ p with on:=b }) rfl rfl FE (P0.turn b),by simp,FE⟩;simp[zv,TC,A.ins,hm,ef,i0,hfs,cX]
end DN
namespace DN
open PySem L2 MF
variable {c:Cl}{S:bG}{ρ:Ev}
structure Rw where
 nm:Str
 pl:Str
 br:Option Str
 on:Bool
abbrev n_(L:List Rw):List Str:=L.map (·.nm)
noncomputable def pN(g:List Str)(x:Rw):List Str:=match x.br with
 |some b=>if b∈g then g++[x.nm] else g
 |none=>g
noncomputable def vV(g:List Str)(L:List Rw):List Str:=L.foldl pN g
theorem Ur(g:List Str)(x:Rw)(L:List Rw):vV g (x::L)=vV (pN g x) L:=rfl
def vW:List Str->List Rw->Prop
 |_,[]=>True
 |seen,x::r=>(∀b,x.br=aa b->b∈seen)/\vW (seen++[x.nm]) r
def FF(nm:Str)(seen g:List Str):Prop:=(∀y∈g,y∈seen)\/(g=[nm]/\nm∉seen)
theorem Us{nm:Str}{seen g:List Str}{x:Rw}(h:FF nm seen g)(hb:∀b,x.br=aa b->b∈seen)(hx:x.nm∉seen) :
  FF nm (seen++[x.nm]) (pN g x)/\∀b,x.br=aa b->b∈g->x.nm∉g:=by
 rcases h with h | ⟨rfl,hn⟩
 .refine⟨.inl λy hy=>?_,λb _ _ hm=>hx (h _ hm)⟩
  unfold pN at hy
  split at hy
  .split at hy
   .rcases bp.mp hy with hy | hy
    .exact bh _ (h y hy)
    .exact bc _ hy
   .exact bh _ (h y hy)
  .exact bh _ (h y hy)
 .have no:∀b,x.br=aa b->b∉[nm]:=λb e hm=>hn (aC.mp hm▸hb b e)
  have e:pN [nm] x=[nm]:=by
   unfold pN
   split
   .rename_i b e;rw[if_neg (no b e)]
   .rfl
  refine⟨?_,λb e1 e2=>absurd e2 (no b e1)⟩;rw[e];by_cases z:x.nm=nm
  .left;intro y hy;rw[aC.mp hy,z];simp
  .right
   refine⟨rfl,λhm=>?_⟩;rcases bp.mp hm with h | h
   .exact hn h
   .exact z (aC.mp h).symm
theorem z2k{g:List Str}{x:Rw}{y:Str}(h:y∈pN g x):y∈g\/y=x.nm:=by
 unfold pN at h
 split at h
 .split at h
  .rcases bp.mp h with h | h
   .exact .inl h
   .exact .inr (aC.mp h)
  .exact .inl h
 .exact .inl h
theorem Ut:∀(L:List Rw) {g:List Str} {y:Str},y∈vV g L->y∈g\/y∈n_ L
 |[],_,_,h=>.inl h
 | x::L,g,y,h=>by
   rcases Ut L (g:=pN g x) h with h | h
   .rcases z2k h with h | h
    .exact .inl h
    .exact .inr (by rw[h];simp[n_])
   .exact .inr (ao _ h)
theorem Uu(g:List Str)(x:Rw):(pN g x).length<=g.length+1:=by
 unfold pN
 split
 .split<;>simp
 .omega
theorem Uv:∀(L:List Rw) (g:List Str),(vV g L).length<=g.length+L.length
 |[],g=>by simp[vV]
 | x::L,g=>by
   have:=Uv L (pN g x);have:=Uu g x;rw[Ur,aY];omega
theorem Uw{seen:List Str}{x:Rw}{L:List Rw}(h:(seen++n_ (x::L)).Nodup):x.nm∉seen/\((seen++[x.nm])++n_ L).Nodup:=by
 refine⟨λhm=>?_,by simpa[n_] using h⟩;rw[cq] at h;exact h.2.2 x.nm hm x.nm (by simp[n_]) rfl
theorem Ux{nm:Str}:∀(L:List Rw) {seen g:List Str},FF nm seen g->vW seen L->(seen++n_ L).Nodup->g.Nodup->(vV g L).Nodup
 |[],_,_,_,_,_,h=>h
 | x :: L,seen,g,h1,h2,h3,h4=>by
   obtain⟨a,b⟩:=Uw h3;obtain⟨s1,s2⟩:=Us h1 h2.1 a;refine Ux L s1 h2.2 b ?_;unfold pN
   split
   .rename_i y e
    split
    .rename_i hm
     rw[cq];refine⟨h4,by simp,λu hu v hv e2=>?_⟩;rw[aC] at hv;subst hv e2;exact s2 y e hm hu
    .exact h4
   .exact h4
theorem xX:∀(l m:List Str),l.Nodup->(∀x∈l,x∈m)->l.length<=m.length
 |[],_,_,_=>dJ _
 | x::l,m,nd,h=>by
   rw[cM] at nd;have:=xX l (m.erase x) nd.2 λy hy=>(List.mem_erase_of_ne (λe=>nd.1 (by rw[<- e];exact hy))).mpr (h y (ao _ hy));rw[gE (h x (az ..))] at this;have:=List.length_pos_of_mem (h x (az ..));rw[aY];omega
noncomputable def HP.rw(p:HP):Rw:=⟨p.nm,p.pl,p.br,p.on⟩
theorem IY(ps:List HP):n_ (ps.map HP.rw)=ps.map (·.nm):=by simp[n_,HP.rw]
noncomputable def dU(g:List Str):List (cg×T):=g.map λx=>(.inr x,.bl true)
theorem By(x:Str):∀(g:List Str),dO (dU g) (.inr x)=if x∈g then aa (.bl true) else ae
 |[]=>by simp[dO,dU]
 | y::g=>by
   have ih:=By x g;by_cases h:y=x
   .simp[dO,dU,h]
   .have e:dO (dU (y::g)) (.inr x)=dO (dU g) (.inr x):=by simp[dO,dU,cf,h]
    rw[e,ih];simp[bM h]
theorem Ou(g:List Str)(x:Str)(h:x∉g):m4 (dU g) (.inr x) (.bl true)=dU (g++[x]):=by
 rw[IW (by rw[By,if_neg h])];simp[dU]
theorem Bz{k:Nat}{v:bY}(h:S[k]?=aa v):S.set k v=S:=by
 obtain⟨hl,e⟩:=aw.mp h;rw[<- e];exact List.set_getElem_self hl
theorem Uy(p:HP):bK (aj "by") p.fs=aa (CY p.br):=by simp[HP.fs,aJ]
theorem Uz(p:HP):bK (aj "place") p.fs=aa (.str p.pl):=by simp[HP.fs,aJ]
theorem UA(p:HP):bK (aj "on") p.fs=aa (.bl p.on):=by simp[HP.fs,aJ]
theorem z2l{k h:Nat}{nm:Str}{p:HP}{g:List Str}(hk:S[k]?=aa (.dic (dU g)))(hp:S[p.i]?=aa (.ins c.piece p.fs))(hg:g.length<=800)(hn:∀b,p.br=aa b->b∈g->p.nm∉g) :
  xK c [aa (.obj h),aa (.str nm),aa (.obj k),aa (.str p.nm),aa (.obj p.i)] S=.ok (.nx [aa (.obj h),aa (.str nm),aa (.obj k),aa (.str p.nm),aa (.obj p.i)]) (S.set k (.dic (dU (pN g p.rw)))):=by
 have i:=q5 hp;have hl:(dU g).length<=900:=by simp[dU];omega
 have d:=zG hk;unfold pN HP.rw;cases e:p.br with
 | none=>
   have:=Uy p;rw[e] at this;simp[xK,i,this,CY,jf,d,eE,Bz hk]
 | some b=>
   have lb:=Uy p;rw[e] at lb;have v:=By b g;by_cases z:b∈g
   .have hn:=hn b e z
    rw[if_pos z] at v;have s:=Ou g p.nm hn;simp[xK,i,lb,CY,jf,d,eE,v,hk,hl,z,s]
   .rw[if_neg z] at v
    simp[xK,i,lb,CY,jf,d,eE,v,z,Bz hk]
theorem UB{k h:Nat}{nm:Str}:∀(ps:List HP) {seen g:List Str} {x3 x4:Option T} {S:bG},S[k]?=aa (.dic (dU g))->(∀p∈ps,S[p.i]?=aa (.ins c.piece p.fs))->FF nm seen g->vW seen (ps.map HP.rw)->(seen++ps.map (·.nm)).Nodup->g.length+ps.length<=800 ->
  ∃q8 zI,d9 (λ_=>True) (qh 3 4) (xK c) (oQ (fQ ps)) [aa (.obj h),aa (.str nm),aa (.obj k),x3,x4] S=.ok (.nx [aa (.obj h),aa (.str nm),aa (.obj k),q8,zI]) (S.set k (.dic (dU (vV g (ps.map HP.rw)))))
 | [],seen,g,x3,x4,S,hk,_,_,_,_,_=>by
   refine⟨x3,x4,?_⟩;show d9 _ _ _ [] _ S=_;unfold d9;rw[if_pos trivial];show _=R.ok _ (S.set k (.dic (dU g)));rw[Bz hk]
 | p::ps,seen,g,x3,x4,S,hk,hp,h1,h2,h3,hl=>by
   have h3':(seen++n_ (p.rw::ps.map HP.rw)).Nodup:=by
    have:=IY (p::ps);rw[ay] at this;rw[this];exact h3
   obtain⟨a,nd⟩:=Uw h3';obtain⟨s1,s2⟩:=Us h1 h2.1 a;rw[IY] at nd;have hpp:=hp p (az ..);rw[aY] at hl;have hb:=z2l (c:=c) (h:=h) (nm:=nm) hk hpp (by omega) s2;have gl:=Uu g p.rw;obtain⟨y3,y4,e⟩:=UB (h:=h) (nm:=nm) (k:=k) ps (seen:=seen++[p.nm]) (g:=pN g p.rw) (x3:=aa (.str p.nm)) (x4:=aa (.obj p.i)) (S:=S.set k (.dic (dU (pN g p.rw)))) (kQ hk)
    (λq hq=>by rw[dW (vT hk (hp q (ao _ hq)) (by intro z;cases z))];exact hp q (ao _ hq)) s1 h2.2 nd (by omega)
   refine⟨y3,y4,?_⟩;show d9 _ _ _ (.tup [.str p.nm,.obj p.i]::oQ (fQ ps)) _ S=_;unfold d9;rw[if_pos trivial];show(M.bind (xK c [aa (.obj h),aa (.str nm),aa (.obj k),aa (.str p.nm),aa (.obj p.i)]) _) S=_;rw[eR,hb];show d9 (λ_=>True) (qh 3 4) (xK c) (oQ (fQ ps)) _ _=_;rw[e,g_];rfl
theorem z49(y:Str)(ps:List HP):EF (fQ ps) (.inr y)=fQ (ps.filter λp=>!decide (p.nm=y)):=by
 unfold EF fQ;rw[dP];congr 1;refine jw λp _=>?_;simp
theorem UC{k h:Nat}{nm:Str}{o x4:Option T}:∀(g:List Str) {ps:List HP} {x3:Option T} {S:bG},S[h]?=aa (.ins c.hall (qp h))->S[h+2]?=aa (.dic (fQ ps))->g.Nodup->(∀y∈g,y∈ps.map (·.nm)) ->
  ∃q8,d9 (λ_=>True) (eM 3) (Bk c) (xD (dU g)) [aa (.obj h),aa (.str nm),o,x3,x4] S=.ok (.nx [aa (.obj h),aa (.str nm),o,q8,x4]) (S.set (h+2) (.dic (fQ (ps.filter λp=>!g.contains p.nm))))
 | [],ps,x3,S,h1,h2,_,_=>by
   refine⟨x3,?_⟩;show d9 _ _ _ [] _ S=_;unfold d9;rw[if_pos trivial];have:(ps.filter λp=>!([]:List Str).contains p.nm)=ps:=dS.mpr λ_ _=>rfl;rw[this,Bz h2]
 | y :: g,ps,x3,S,h1,h2,nd,hs=>by
   rw[cM] at nd;obtain⟨p,hp,e⟩:=au.mp (hs y (az ..));have hv:dO (fQ ps) (.inr y)=aa (.obj ((ps.find? λp=>decide (p.nm=y)).getD p).i):=by
    rw[IT];cases e2:ps.find? λp=>decide (p.nm=y) with
    |none=>exact absurd e (by simpa using ee.mp e2 p hp)
    |some q=>rfl
   have i:=q5 h1;have d:=zG h2;have hb:Bk c [aa (.obj h),aa (.str nm),o,aa (.str y),x4] S=.ok (.nx [aa (.obj h),aa (.str nm),o,aa (.str y),x4]) (S.set (h+2) (.dic (fQ (ps.filter λp=>!decide (p.nm=y))))):=by
    simp[Bk,Mp,i,Fy,d,eE,h2,hv,z49]
   obtain⟨q8,e3⟩:=UC (k:=k) (h:=h) (nm:=nm) (o:=o) (x4:=x4) g (ps:=ps.filter λp=>!decide (p.nm=y)) (x3:=aa (.str y)) (S:=S.set (h+2) (.dic (fQ (ps.filter λp=>!decide (p.nm=y)))))
    (by rw[dW (by omega)];exact h1) (kQ h2) nd.2 (λz hz=>by
     obtain⟨q,hq,rfl⟩:=au.mp (hs z (ao _ hz));refine au.mpr ⟨q,bF.mpr ⟨hq,?_⟩,rfl⟩;have:q.nm≠y:=λe=>nd.1 (e▸hz);simp[this])
   refine⟨q8,?_⟩;show d9 _ _ _ (.str y::xD (dU g)) _ S=_;unfold d9;rw[if_pos trivial];show(M.bind (Bk c [aa (.obj h),aa (.str nm),o,aa (.str y),x4]) _) S=_;rw[eR,hb];show d9 (λ_=>True) (eM 3) (Bk c) (xD (dU g)) _ _=_;rw[e3,g_,uR];have:(ps.filter λp=>!g.contains p.nm&&!decide (p.nm=y))=ps.filter λp=>!(y::g).contains p.nm:=jw λp _=>by
    rw[cY,Gu,B7]
    try congr 2
   rw[this]
theorem gB.sub{S':bG}{h:Nat}{pl:List jr}{ps:List HP}(A:gB c S h pl ps)(q:HP->Bool)(same:∀j,j<S.length->j≠h+2->S'[j]?=S[j]?)(hd:S'[h+2]?=aa (.dic (fQ (ps.filter q)))):gB c S' h pl (ps.filter q):=by
 have get:∀{j:Nat} {u:bY},S[j]?=aa u->j≠h+2->S'[j]?=aa u:=λ{j u} e ne=>by rw[same j (aw.mp e).1 ne];exact e
 refine⟨get A.hall (by omega),get A.places (by omega),hd,λp hp=>get (A.place p hp) (bM (vT A.pieces (A.place p hp) (by intro z;cases z))),λp hp=>?_,λp hp=>A.lz p (bF.mp hp).1,A.pw.filter _,?_⟩
 .have P:=A.piece p (bF.mp hp).1
  have f:=A.lz p (bF.mp hp).1;exact⟨get P.o (by omega),get P.a0 (by omega),get P.a1 (by omega),get P.a2 (by omega),get P.a3 (by omega)⟩
 .exact A.nd.sublist (kZ _ um)
theorem Zcv{h:Nat}{pl:List jr}{ps:List HP}(A:gB c S h pl ps){nm:Str}(hn:nm∈ps.map (·.nm))(HG:vW [] (ps.map HP.rw))(hl:ps.length<=100) :
  ∃S',CL c [.obj h,.str nm] S=.ok (aL (vV [nm] (ps.map HP.rw))) S'/\gB c S' h pl (ps.filter λp=>!(vV [nm] (ps.map HP.rw)).contains p.nm)/\(∀j,j<S.length->j≠h+2->S'[j]?=S[j]?)/\S.length<=S'.length:=by
 have len:=A.lt;obtain⟨p,hp,rfl⟩:=au.mp hn;have hm:=qq (m:=aj "find_piece") h (by simp) (by simp);have ef:=Fz A (xV A.nd hp);have i:=A.ins;generalize eg:vV [p.nm] (ps.map HP.rw)=G;have gk:FF p.nm [] [p.nm]:=.inr ⟨rfl,by simp⟩;have nd':([]++n_ (ps.map HP.rw)).Nodup:=by rw[IY];exact A.nd
 have Gnd:G.Nodup:=eg▸Ux _ gk HG nd' (by simp);have Ov:∀y∈G,y∈ps.map (·.nm):=λy hy=>by
  rw[<- eg] at hy;rcases Ut _ hy with h | h
  .rw[aC.mp h];exact hn
  .rwa[IY] at h
 have Glen:G.length<=101:=by rw[<- eg];have:=Uv (ps.map HP.rw) [p.nm];simp at this;omega
 have hd:∀(ρ:Ev),ρ[1]?=aa (aa (.str p.nm))->Ba (af 1) (eC (.bl true)) ρ S=.ok (.obj S.length) (S++[.dic (dU [p.nm])]):=fun ρ h1=>by
  simp[Ba,h1,eE,dU,Bx]
 have A1:gB c (S++[.dic (dU [p.nm])]) h pl ps:=A.app;have E3:(S++[bY.dic (dU [p.nm])])[S.length]?=aa (.dic (dU [p.nm])):=by rw[xW];rfl
 have qW:(S++[bY.dic (dU [p.nm])]).length=S.length+1:=by simp
 generalize FG:S++[bY.dic (dU [p.nm])]=S1 at A1 E3 hd qW;have lk:=A1.pieces;obtain⟨x3,x4,l1⟩:=UB (c:=c) (h:=h) (nm:=p.nm) (k:=S.length) ps (seen:=[]) (g:=[p.nm]) (x3:=ae) (x4:=ae) (S:=S1.set (h+2) (.lck (fQ ps)))
  (by rw[dW (by omega)];exact E3) (λq hq=>by rw[dW (by have:=A.lz q hq;omega)];exact(A1.piece q hq).o) gk HG (by simpa using A.nd) (by simp;omega)
 rw[eg] at l1;have f1:xE oQ (e1 (df c.hall "pieces") (af 0)) (qh 3 4) (xK c) [aa (.obj h),aa (.str p.nm),aa (.obj S.length),ae,ae] S1=.ok (.nx [aa (.obj h),aa (.str p.nm),aa (.obj S.length),x3,x4]) (S1.set S.length (.dic (dU G))):=by
  have e1:(e1 (df c.hall "pieces") (af 0)) [aa (.obj h),aa (.str p.nm),aa (.obj S.length),ae,ae] S1=.ok (.obj (h+2)) S1:=by
   have i1:=A1.ins;simp[i1,Fy]
  have q1:((S1.set (h+2) (.lck (fQ ps))).set S.length (.dic (dU G)))[h+2]?=aa (.lck (fQ ps)):=by
   rw[dW (by omega)];exact kQ lk
  have q2:((S1.set (h+2) (.lck (fQ ps))).set S.length (.dic (dU G))).set (h+2) (.dic (fQ ps))=S1.set S.length (.dic (dU G)):=by
   rw[B8 _ _ (show S.length≠h+2 by omega),g_,Bz lk]
  unfold xE;rw[eR,e1];show(match S1[h+2]? with|some (.dic kvs)=>qU (h+2) kvs (d9 _ _ _ (oQ kvs) _ (S1.set (h+2) (.lck kvs))) | _=>.bad)=_;rw[lk];show qU (h+2) (fQ ps) (d9 _ _ _ (oQ (fQ ps)) _ (S1.set (h+2) (.lck (fQ ps))))=_;rw[l1];unfold qU;simp only[q1,if_true,q2]
 have A2:gB c (S1.set S.length (.dic (dU G))) h pl ps:=by
  have IZ:S1.set S.length (.dic (dU G))=S++[.dic (dU G)]:=by rw[<- FG,Fx]
  rw[IZ];exact A.app
 have oH:(S1.set S.length (.dic (dU G)))[S.length]?=aa (.dic (dU G)):=kQ E3;have vK:(S1.set S.length (.dic (dU G))).length=S.length+1:=by rw[eI];exact qW
 have zJ:∀j,j<S.length->(S1.set S.length (.dic (dU G)))[j]?=S[j]?:=λj hj=>by
  rw[dW (by omega),<- FG,aD hj]
 generalize S1.set S.length (.dic (dU G))=S2 at f1 A2 oH vK zJ;obtain⟨q8,l2⟩:=UC (c:=c) (h:=h) (k:=S.length) (nm:=p.nm) (o:=aa (.obj S.length)) (x4:=x4) G (ps:=ps) (x3:=x3) (S:=S2.set S.length (.lck (dU G)))
  (by rw[dW (by omega)];exact A2.hall) (by rw[dW (by omega)];exact A2.pieces) Gnd Ov
 generalize eq:(ps.filter λp=>!G.contains p.nm)=qs at l2;have f2:xE xD (af 2) (eM 3) (Bk c) [aa (.obj h),aa (.str p.nm),aa (.obj S.length),x3,x4] S2=.ok (.nx [aa (.obj h),aa (.str p.nm),aa (.obj S.length),q8,x4]) (S2.set (h+2) (.dic (fQ qs))):=by
  have q1:((S2.set S.length (.lck (dU G))).set (h+2) (.dic (fQ qs)))[S.length]?=aa (.lck (dU G)):=by
   rw[dW (by omega)];exact kQ oH
  have q2:((S2.set S.length (.lck (dU G))).set (h+2) (.dic (fQ qs))).set S.length (.dic (dU G))=S2.set (h+2) (.dic (fQ qs)):=by
   rw[B8 _ _ (show h+2≠S.length by omega),g_,Bz oH]
  unfold xE;rw[eR,show(af 2) [aa (T.obj h),aa (.str p.nm),aa (.obj S.length),x3,x4] S2=.ok (.obj S.length) S2 from rfl];show(match S2[S.length]? with|some (.dic kvs)=>qU S.length kvs (d9 _ _ _ (xD kvs) _ (S2.set S.length (.lck kvs))) | _=>.bad)=_;rw[oH];show qU S.length (dU G) (d9 _ _ _ (xD (dU G)) _ (S2.set S.length (.lck (dU G))))=_;rw[l2];unfold qU;simp only[q1,if_true,q2]
 have zu:(S2.set (h+2) (.dic (fQ qs)))[S.length]?=aa (.dic (dU G)):=by rw[dW (by omega)];exact oH
 refine⟨S2.set (h+2) (.dic (fQ qs)),?_,?_,λj hj mZ=>?_,by rw[eI,vK];omega⟩
 .have e3:sr (S2.set (h+2) (.dic (fQ qs))) (.obj S.length)=aa (G.map T.str):=by
   unfold sr;have:jV (S2.set (h+2) (.dic (fQ qs))) (.obj S.length)=ae:=by simp[jV,c6,zu]
   rw[this,zG zu];simp[dU,kT]
  simp[CL,TL,i,hm,ef,hd,f1,f2,tQ,e3,aL]
 .rw[<- eq]
  refine A2.sub (λp=>!G.contains p.nm) (λj hj mZ=>by rw[dW (bM mZ)]) ?_;rw[eq];exact kQ A2.pieces
 .rw[dW (bM mZ)];exact zJ j hj
end DN
namespace DN
open PySem L2 MF
variable {sec:Str->List Str}
noncomputable def mm(sec:Str->List Str)(left:List Str)(x:Str):Bool:=!(left.any λf=>decide (x∈sec f))
noncomputable def topo(sec:Str->List Str):Nat->List Str->List Str->Option (List Str)
 |0,_,row=>aa row
 | n+1,left,row=>match left.find? (mm sec left) with
   |none=>ae
   |some x=>topo sec n (left.erase x) (row++[x])
theorem CZ:∀(n:Nat) {left row res:List Str},left.Nodup->left.length=n->topo sec n left row=aa res->∃oT,res=row++oT/\oT.Perm left /\
  ∀A x B,oT=A++x::B->(left.filter λy=>!A.contains y).find? (mm sec (left.filter λy=>!A.contains y))=aa x
 | 0,left,row,res,_,hl,e=>by
   cases e;have:left=[]:=fG hl;subst this;exact⟨[],by simp,.refl _,λA x B h=>by simp at h⟩
 | n + 1,left,row,res,nd,hl,e=>by
   unfold topo at e;cases e1:left.find? (mm sec left) with
   |none=>simp only[e1] at e;cases e
   | some x=>
     simp only[e1] at e;have hm:=dB e1;have tN:(left.erase x).length=n:=by rw[gE hm];omega
     obtain⟨oT,rfl,hp,hs⟩:=CZ n (nd.erase x) tN e;refine⟨x::oT,by simp,(List.Perm.cons x hp).trans (List.perm_cons_erase hm).symm,λA y B h=>?_⟩;cases A with
     | nil=>
       simp only[bU,mG] at h;rw[<- h.1];have:(left.filter λy=>!([]:List Str).contains y)=left:=dS.mpr λ_ _=>rfl;rw[this];exact e1
     | cons a A=>
       simp only[d7,mG] at h;obtain⟨rfl,h⟩:=h;have:=hs A y B h;rw[nd.erase_eq_filter,uR] at this;have e3:(left.filter λy=>!A.contains y&&(y != x))=left.filter λy=>!(x::A).contains y:=jw λy _=>by
        rw[cY,Gu,B7];rfl
       rw[e3] at this;exact this
inductive pO(sec:Str->List Str):Str->Str->Prop
 |one {a b:Str}:b∈sec a->pO sec a b
 |more {a b d:Str}:b∈sec a->pO sec b d->pO sec a d
theorem Zcw{l:List Str}(f:Nat->Str)(h:∀i,f i∈l):∃i j,i<j/\f i=f j:=by
 by_cases z:∃i j,i<j/\f i=f j
 .exact z
 .exfalso
  have inj:∀i j,i<j->f i≠f j:=λi j Ow e=>z ⟨i,j,Ow,e⟩;have nd:((cz (l.length+1)).map f).Nodup:=by
   rw[List.Nodup,wu];refine Gv (λ{a b} Oq=>?_) List.pairwise_lt_range;exact inj a b Oq
  have:=xX _ l nd λx hx=>by
   obtain⟨i,_,rfl⟩:=au.mp hx;exact h i
  simp at this;omega
theorem zzh{left:List Str}(mZ:left≠[])(h:∀x∈left,∃f∈left,x∈sec f):∃s∈left,pO sec s s:=by
 classical
 obtain⟨x0,hx0⟩:=List.exists_mem_of_ne_nil left mZ;let pr:{ x // x∈left }->{ x // x∈left }:=λx=>⟨(h x.1 x.2).choose,(h x.1 x.2).choose_spec.1⟩;have hpr:∀x,x.1∈sec (pr x).1:=λx=>(h x.1 x.2).choose_spec.2;let f:Nat->{ x // x∈left }:=λn=>Nat.rec ⟨x0,hx0⟩ (λ_ x=>pr x) n;have hf:∀n,(f n).1∈sec (f (n+1)).1:=λn=>hpr (f n);have hp:∀j i,i<j->pO sec (f j).1 (f i).1:=by
  intro j
  induction j with
  |zero=>intro i hi;omega
  | succ j ih=>
    intro i hi;by_cases z:i=j
    .subst z;exact .one (hf i)
    .exact .more (hf j) (ih i (by omega))
 obtain⟨i,j,Ow,e⟩:=Zcw (λn=>(f n).1) λn=>(f n).2;have p:=hp j i Ow;have e:(f i).1=(f j).1:=e;rw[e] at p;exact⟨(f j).1,(f j).2,p⟩
noncomputable def q9(row:List Str):Str:=row.getLast?.getD fu
noncomputable def wO(start:Str)(row:List Str):List Str->List Str->List (List Str)->Option (List Str×List (List Str))
 |[],re,lo=>aa (re,lo)
 |s::r,re,lo=>if s=start then ae else if s∈re then wO start row r re lo else wO start row r (re++[s]) (lo++[row++[s]])
noncomputable def vX(sec:Str->List Str)(start:Str):List (List Str)->List Str->List (List Str)->Except (List Str) (List Str×List (List Str))
 |[],re,lo=>.ok (re,lo)
 | row::rs,re,lo=>match wO start row (sec (q9 row)) re lo with
   |none=>.error row
   |some (il,nD)=>vX sec start rs il nD
noncomputable def sD(sec:Str->List Str)(start:Str):Nat->List (List Str)->List Str->List Str
 |0,_,_=>[]
 | n+1,rows,re=>if rows=[] then[] else match vX sec start rows re [] with
   |.error row=>row
   |.ok (il,lo)=>sD sec start n lo il
structure rG(names:List Str)(re:List Str)(row:List Str):Prop where
 ne:row≠[]
 sub:∀x∈row,x∈names
 len:row.length<=re.length
structure m6(names re:List Str):Prop where
 nd:re.Nodup
 sub:∀x∈re,x∈names
theorem UD(row:List Str)(s:Str):q9 (row++[s])=s:=by simp[q9]
theorem UE{row:List Str}(h:row≠[]):q9 row∈row:=by
 unfold q9;rw[List.getLast?_eq_some_getLast h];exact List.getLast_mem h
theorem rG.mono{names re il row:List Str}(r:rG names re row)(h:re.length<=il.length):rG names il row:=⟨r.ne,r.sub,bJ r.len h⟩
theorem I0{names:List Str}{start:Str}{row:List Str}:∀(ss re:List Str) (lo:List (List Str)),(∀s∈ss,s∈names)->m6 names re->rG names re row->(∀r∈lo,rG names re r)->lo.length<=re.length->∀il nD,wO start row ss re lo=aa (il,nD) ->
  m6 names il/\(∀r∈nD,rG names il r)/\nD.length<=il.length/\(∃u,il=re++u)/\(∃v,nD=lo++v/\(v=[]\/re.length<il.length))/\(∀s∈ss,s≠start/\s∈il)/\(∀x∈il,x∈re\/∃r∈nD,q9 r=x)
 | [],re,lo,hs,h1,h2,h3,h4,il,nD,e=>by
   cases e;exact⟨h1,h3,h4,⟨[],by simp⟩,⟨[],by simp,.inl rfl⟩,(by intro s hs;cases hs),λx hx=>.inl hx⟩
 | s :: ss,re,lo,hs,h1,h2,h3,h4,il,nD,e=>by
   unfold wO at e;by_cases z:s=start
   .rw[if_pos z] at e;cases e
   .rw [if_neg z] at e
    have UG:∀x∈ss,x∈names:=λx hx=>hs x (ao _ hx);by_cases y:s∈re
    .rw[if_pos y] at e
     obtain⟨a1,a2,a3,⟨u,a4⟩,a5,a6,a7⟩:=I0 ss re lo UG h1 h2 h3 h4 il nD e;refine⟨a1,a2,a3,⟨u,a4⟩,a5,λx hx=>?_,a7⟩;rcases aH.mp hx with rfl | hx
     .exact⟨z,by rw[a4];exact bh _ y⟩
     .exact a6 x hx
    .rw[if_neg y] at e
     have r1:m6 names (re++[s]):=⟨by
      rw[cq];refine⟨h1.nd,by simp,λa ha b hb e9=>?_⟩;rw[aC] at hb;subst hb e9;exact y ha,λx hx=>by
      rcases bp.mp hx with hx | hx
      .exact h1.sub x hx
      .rw[aC.mp hx];exact hs s (az ..)⟩
     have ln:(re++[s]).length=re.length+1:=by simp
     have rr:rG names (re++[s]) (row++[s]):=⟨by simp,λx hx=>by
      rcases bp.mp hx with hx | hx
      .exact h2.sub x hx
      .rw[aC.mp hx];exact hs s (az ..),by have:=h2.len;simp;omega⟩
     obtain⟨a1,a2,a3,⟨u,a4⟩,⟨v,a5,_⟩,a6,a7⟩:=I0 ss (re++[s]) (lo++[row++[s]]) UG r1 (h2.mono (by omega)) (λr hr=>by
      rcases bp.mp hr with hr | hr
      .exact(h3 r hr).mono (by omega)
      .rw[aC.mp hr];exact rr) (by simp;omega) il nD e
     refine⟨a1,a2,a3,⟨s::u,by rw[a4];simp⟩,⟨(row++[s])::v,by rw[a5];simp,.inr (by rw[a4];simp only[aM,aV];omega)⟩,λx hx=>?_,λx hx=>?_⟩
     .rcases aH.mp hx with rfl | hx
      .exact⟨z,by rw[a4];simp⟩
      .exact a6 x hx
     .rcases a7 x hx with h | h
      .rcases bp.mp h with h | h
       .exact .inl h
       .exact .inr ⟨row++[s],by rw[a5];simp,by rw[UD,aC.mp h]⟩
      .exact .inr h
theorem I_{names:List Str}{start:Str}(q_:∀a∈names,∀b∈sec a,b∈names):∀(rows:List (List Str)) (re:List Str) (lo:List (List Str)),m6 names re->(∀r∈rows,rG names re r)->(∀r∈lo,rG names re r)->lo.length<=re.length->∀il nD,vX sec start rows re lo=.ok (il,nD) ->
  m6 names il/\(∀r∈nD,rG names il r)/\nD.length<=il.length/\(∃u,il=re++u)/\(∃v,nD=lo++v/\(v=[]\/re.length<il.length))/\(∀r∈rows,∀s∈sec (q9 r),s≠start/\s∈il)/\(∀x∈il,x∈re\/∃r∈nD,q9 r=x)
 | [],re,lo,h1,h2,h3,h4,il,nD,e=>by
   cases e;exact⟨h1,h3,h4,⟨[],by simp⟩,⟨[],by simp,.inl rfl⟩,(by intro s hs;cases hs),λx hx=>.inl hx⟩
 | row :: rs,re,lo,h1,h2,h3,h4,il,nD,e=>by
   unfold vX at e;cases e1:wO start row (sec (q9 row)) re lo with
   |none=>simp only[e1] at e;cases e
   | some q=>
     obtain⟨sg,lo1⟩:=q;simp only[e1] at e;have hr:=h2 row (az ..);obtain⟨a1,a2,a3,⟨u,a4⟩,⟨v,a5,FH⟩,a6,a7⟩:=I0 _ re lo (q_ _ (hr.sub _ (UE hr.ne))) h1 hr h3 h4 sg lo1 e1;have Ox:re.length<=sg.length:=by rw[a4];simp
     obtain⟨b1,b2,b3,⟨u2,b4⟩,⟨v2,b5,b5'⟩,b6,b7⟩:=I_ q_ rs sg lo1 a1 (λr hr=>(h2 r (ao _ hr)).mono Ox) a2 a3 il nD e;have le2:sg.length<=il.length:=by rw[b4];simp
     refine⟨b1,b2,b3,⟨u++u2,by rw[b4,a4];simp⟩,⟨v++v2,by rw[b5,a5];simp,?_⟩,λr hr' s hs=>?_,λx hx=>?_⟩
     .rcases FH with rfl | h
      .rcases b5' with rfl | h
       .exact .inl rfl
       .exact .inr (by omega)
      .exact .inr (by omega)
     .rcases aH.mp hr' with rfl | hr'
      .exact⟨(a6 s hs).1,by rw[b4];exact bh _ (a6 s hs).2⟩
      .exact b6 r hr' s hs
     .rcases b7 x hx with h | h
      .rcases a7 x h with h | ⟨r,hr',e⟩
       .exact .inl h
       .exact .inr ⟨r,by rw[b5];exact bh _ hr',e⟩
      .exact .inr h
theorem Ja{start:Str}:∀(rows:List (List Str)) (re:List Str) (lo:List (List Str)) {row:List Str},vX sec start rows re lo=.error row->row∈rows
 | r :: rs,re,lo,row,e=>by
   unfold vX at e;cases e1:wO start r (sec (q9 r)) re lo with
   |none=>simp only[e1] at e;cases e;exact az ..
   | some q=>
     simp only[e1] at e;exact ao _ (Ja rs _ _ e)
theorem UH {names:List Str} {start:Str} (q_:∀a∈names,∀b∈sec a,b∈names) (hp:pO sec start start):∀(n:Nat) (rows:List (List Str)) (re:List Str),names.length+2<=n+re.length->m6 names re->(∀r∈rows,rG names re r)->start∈re ->
  (∀u∈re,(∀v∈sec u,v≠start/\v∈re)\/∃r∈rows,q9 r=u)->sD sec start n rows re≠[]
 | 0,rows,re,hf,h1,_,_,_=>by
   have:=xX re names h1.nd h1.sub;omega
 | n + 1,rows,re,hf,h1,h2,h3,h4=>by
   have stop:(∀u∈re,∀v∈sec u,v≠start/\v∈re)->False:=λh=>by
    have go:∀a b,pO sec a b->a∈re->b≠start/\b∈re:=by
     intro a b p
     induction p with
     |one e=>exact λha=>h _ ha _ e
     |more e _ ih=>exact λha=>ih (h _ ha _ e).2
    exact(go _ _ hp h3).1 rfl
   unfold sD;by_cases z:rows=[]
   .exact(stop λu hu=>by
     rcases h4 u hu with h | ⟨r,hr,_⟩
     .exact h
     .rw[z] at hr;cases hr).elim
   .rw [if_neg z]
    cases e:vX sec start rows re [] with
    |error row=>exact(h2 row (Ja _ _ _ e)).ne
    | ok q=>
      obtain⟨il,lo⟩:=q;obtain⟨a1,a2,a3,⟨u,a4⟩,⟨v,a5,FH⟩,a6,a7⟩:=I_ q_ rows re [] h1 h2 (by intro r hr;cases hr) (dJ _) il lo e;have UI:∀u∈il,(∀v∈sec u,v≠start/\v∈il)\/∃r∈lo,q9 r=u:=λx hx=>by
       rcases a7 x hx with h | h
       .rcases h4 x h with g | ⟨r,hr,rfl⟩
        .exact .inl λv hv=>⟨(g v hv).1,by rw[a4];exact bh _ (g v hv).2⟩
        .exact .inl λv hv=>a6 r hr v hv
       .exact .inr h
      rw[bU] at a5;rcases FH with y | y
      .rw[y] at a5
       subst a5;have hall:∀u∈il,∀v∈sec u,v≠start/\v∈il:=λu hu=>by
        rcases UI u hu with h | ⟨r,hr,_⟩
        .exact h
        .cases hr
       have go:∀a b,pO sec a b->a∈il->b≠start/\b∈il:=by
        intro a b p
        induction p with
        |one e=>exact λha=>hall _ ha _ e
        |more e _ ih=>exact λha=>ih (hall _ ha _ e).2
       exact((go _ _ hp (by rw[a4];exact bh _ h3)).1 rfl).elim
      .exact UH q_ hp n lo il (by omega) a1 a2 (by rw[a4];exact bh _ h3) UI
theorem UJ{names:List Str}{start:Str}(q_:∀a∈names,∀b∈sec a,b∈names):∀(n:Nat) (rows:List (List Str)) (re:List Str),m6 names re->(∀r∈rows,rG names re r)->(∀x∈sD sec start n rows re,x∈names)/\(sD sec start n rows re).length<=names.length
 |0,rows,re,h1,h2=>by simp[sD]
 | n+1,rows,re,h1,h2=>by
   unfold sD;by_cases z:rows=[]
   .rw[if_pos z];simp
   .rw[if_neg z]
    cases e:vX sec start rows re [] with
    | error row=>
      have r:=h2 row (Ja _ _ _ e);have:=xX re names h1.nd h1.sub;exact⟨r.sub,bJ r.len this⟩
    | ok q=>
      obtain⟨il,lo⟩:=q;obtain⟨a1,a2,_⟩:=I_ q_ rows re [] h1 h2 (by intro r hr;cases hr) (dJ _) il lo e;exact UJ q_ n lo il a1 a2
end DN
namespace DN
open PySem L2 MF
variable {c:Cl}{S:bG}{ρ:Ev}
@[simp]theorem Zfy(acc:Str):jT acc [] ρ S=(if acc.length<=1000 then .ok (.str acc) S else .bad):=rfl
@[simp]theorem Zeu(acc:Str)(f:DE)(fs:List DE):jT acc (f::fs) ρ S=(f ρ).bind (λt=>match t with
 |.str y=>(λS=>if(acc++y).length<=1000 then jT (acc++y) fs ρ S else .bad)
 |_=>M.bad) S:=rfl
@[simp]theorem Zfz(y:Str):Zei (.str y) S=(if(cR y).length<=1000 then .ok (.str (cR y)) S else .bad):=rfl
@[simp]theorem Zev(C:ai)(fr:DA):z8o C fr ρ S=(fr ρ).bind (λts=>λS=>if ts.length<=1000 then .exc C ae S else .bad) S:=rfl
@[simp] theorem Zgp (fb:DS) (js:List Nat) (fh:DH):vH fb js fh ρ S=(match fb ρ S with
  |.ok x S'=>.ok x S'
  |.exc C fs S'=>fh C fs (rD js ρ) S'
  |.bad=>.bad):=by unfold vH;split<;>simp_all
def Sm(x:Str):Prop:=(cR x).length<=100
theorem UK{q:Str}:∀(ps:List HP) {x0 x1:Option T} {acc:List T},(∀p∈ps,S[p.i]?=aa (.ins c.piece p.fs))->acc.length+ps.length<=900 ->
  nX (λ_=>True) (qh 0 1) (zy c) (CJ c) (oQ (fQ ps)) [x0,x1,aa (.str q)] acc S=.ok (acc++((ps.filter λp=>decide (p.pl=q)&&p.on).map λp=>T.str p.nm)) S
 | [],x0,x1,acc,_,_=>by
   show nX _ _ _ _ [] _ acc S=_;unfold nX;rw[if_pos trivial];simp
 | p :: ps,x0,x1,acc,hp,hl=>by
   have i:=q5 (hp p (az ..));rw[aY] at hl;have ih:=λ(acc:List T) (ha:acc.length+ps.length<=900)=>UK (q:=q) ps (x0:=aa (.str p.nm)) (x1:=aa (.obj p.i)) (acc:=acc) (λr hr=>hp r (ao _ hr)) ha;have ht:zy c [aa (.str p.nm),aa (.obj p.i),aa (.str q)] S=.ok (decide (p.pl=q)&&p.on) S:=by
    by_cases z:p.pl=q
    .simp[zy,i,Uz,UA,z]
    .simp[zy,i,Uz,UA,z]
   have he:CJ c [aa (.str p.nm),aa (.obj p.i),aa (.str q)] S=.ok (.str p.nm) S:=by simp[CJ]
   show nX _ _ _ _ (.tup [.str p.nm,.obj p.i]::oQ (fQ ps)) _ acc S=_;unfold nX;rw[if_pos trivial];show(M.bind (zy c [aa (.str p.nm),aa (.obj p.i),aa (.str q)]) _) S=_;rw[eR,ht];have Oy:acc.length<1000:=by omega
   cases z:(decide (p.pl=q)&&p.on) with
   | false=>
     rw[List.filter_cons_of_neg (by rw[z];decide)];exact ih acc (by omega)
   | true=>
     rw[List.filter_cons_of_pos (by rw[z]),ay];have:=ih (acc++[.str p.nm]) (by rw[aM,aV];omega);rw[bO] at this;simp only[if_true,eR,he,Sy,Oy];exact this
theorem Oz{h:Nat}{pl:List jr}{ps:List HP}(A:gB c S h pl ps){q:Str}{pm:jr}(hq:pl.find? (λp=>decide (p.nm=q))=aa pm)(hl:ps.length<=800) :
  CK c [.obj h,.str q] S=.ok (aL ((ps.filter λp=>decide (p.pl=q)&&p.on).map (·.nm))) S:=by
 have hm:=qq (m:=aj "find_place") h (by simp) (by simp);have e2:=IU A hq;have lk:=A.pieces;have len:=A.lt;have ec:EW oQ 2 [1] (ID c) (qh 0 1) (zy c) (CJ c) iu [aa (.obj h),aa (.str q)] S=.ok (aL ((ps.filter λp=>decide (p.pl=q)&&p.on).map (·.nm))) S:=by
  have e1:ID c [aa (.obj h),aa (.str q)] S=.ok (.obj (h+2)) S:=by simp[ID,A.ins,Fy]
  have cc:=UK (c:=c) (S:=S.set (h+2) (.lck (fQ ps))) (q:=q) ps (x0:=ae) (x1:=ae) (acc:=[]) (λp hp=>by rw[dW (by have:=A.lz p hp;omega)];exact(A.piece p hp).o) (by simp;omega);have q2:(S.set (h+2) (.lck (fQ ps))).set (h+2) (.dic (fQ ps))=S:=by rw[g_,Bz lk]
  have q1:(S.set (h+2) (.lck (fQ ps)))[h+2]?=aa (.lck (fQ ps)):=kQ lk;unfold EW;rw[eR,e1];show(match S[h+2]? with|some (.dic kvs)=>A9 (h+2) kvs (M.bind (rC (nX _ _ _ _ (oQ kvs) [ae,ae,aa (.str q)] [])) iu (S.set (h+2) (.lck kvs))) | _=>.bad)=_;rw[lk];show A9 (h+2) (fQ ps) (M.bind (rC (nX _ _ _ _ (oQ (fQ ps)) [ae,ae,aa (.str q)] [])) iu (S.set (h+2) (.lck (fQ ps))))=_;have:rC (nX (λ_=>True) (qh 0 1) (zy c) (CJ c) (oQ (fQ ps)) [ae,ae,aa (.str q)] []) (S.set (h+2) (.lck (fQ ps)))=.ok ([]++((ps.filter λp=>decide (p.pl=q)&&p.on).map λp=>T.str p.nm)) (S.set (h+2) (.lck (fQ ps))):=by
   unfold rC;rw[cc]
  rw[eR,this];show A9 (h+2) (fQ ps) (R.ok (T.lst ([]++((ps.filter λp=>decide (p.pl=q)&&p.on).map λp=>T.str p.nm))) (S.set (h+2) (.lck (fQ ps))))=_;unfold A9;simp only[q1,if_true,q2];simp[aL]
 simp[CK,TK,A.ins,hm,e2,ec]
end DN
namespace DN
open PySem L2 MF
variable {c:Cl}{S:bG}{ρ:Ev}{sec:Str->List Str}{names:List Str}
noncomputable def dz(names:List Str)(sec:Str->List Str):T:=.dic (names.map λn=>(.inr n,.dic (dU (sec n))))
theorem OA{g:Str->T}{n:Str}:∀{names:List Str},n∈names->dO (names.map λn=>(dI n,g n)) (.inr n)=aa (g n)
 | m :: names,h=>by
   by_cases z:m=n
   .subst z;simp[dO]
   .have h:n∈names:=by
     rcases aH.mp h with h | h
     .exact absurd h.symm z
     .exact h
    have ih:=OA (g:=g) h;unfold dO at ih ⊢;rw[ay,cf];simpa[z] using ih
theorem OB{g:Str->T}{n:Str}:∀{names:List Str},n∉names->dO (names.map λn=>(dI n,g n)) (.inr n)=ae
 |[],_=>rfl
 | m::names,h=>by
   have z:m≠n:=λe=>h (by simp[e]);have ih:=OB (g:=g) (n:=n) (names:=names) λe=>h (ao _ e);unfold dO at ih ⊢;rw[ay,cf];simpa[z] using ih
theorem UL{n:Str}(hn:n∈names):je (dz names sec) (.str n) S=.ok (.dic (dU (sec n))) S:=by
 simp[je,dz,nU,eE,OA hn]
theorem z5a(b:Str)(l:List Str):jf (.str b) (.dic (dU l)) S=.ok (.bl (decide (b∈l))) S:=by
 by_cases z:b∈l
 .simp[jf,nU,eE,By,z]
 .simp[jf,nU,eE,By,z]
theorem OC{st:bG->Prop}{body:DS}{i:Nat}{ρ0:Ev}{p:T->Option T}(eY:st S):∀(ts:List T) (ρ:Ev),(∀t,ρ.set i (aa t)=ρ0.set i (aa t))->(∀t∈ts,body (ρ0.set i (aa t)) S=match p t with|some r=>.ok (.rt r) S | none=>.ok (.nx (ρ0.set i (aa t))) S) ->
  ∃ρ',(∀t,ρ'.set i (aa t)=ρ0.set i (aa t))/\d9 st (eM i) body ts ρ S=match ts.findSome? p with|some r=>.ok (.rt r) S | none=>.ok (.nx ρ') S
 | [],ρ,hρ,_=>⟨ρ,hρ,by
   unfold d9;rw[if_pos eY];rfl⟩
 | t::ts,ρ,hρ,hb=>by
   have h1:=hb t (az ..);obtain⟨ρ',UM,e⟩:=OC eY ts (ρ0.set i (aa t)) (λu=>by rw[g_]) λu hu=>hb u (ao _ hu);unfold d9;rw[if_pos eY];simp only[eM,hρ t,lG];show∃ρ',_/\(M.bind (body (ρ0.set i (aa t))) _) S=_;rw[eR,h1];cases e2:p t with
   |some r=>exact⟨ρ',UM,rfl⟩
   |none=>exact⟨ρ',UM,e⟩
theorem UN{α:Type}(f:α->Bool):∀(l:List α),zr (l.map λx=>T.bl (f x))=aa (l.map f)
 |[]=>rfl
 | a::r=>by
   rw[ay];unfold zr;rw[UN f r];rfl
theorem zzi{k:Nat}{left:List Str}(hk:S[k]?=aa (.lst (left.map .str)))(mC:∀x∈left,x∈names)(hl:left.length<=900) :
  CI c [dz names sec,.obj k] S=.ok (match left.find? (mm sec left) with|some x=>.str x | none=>.bq) S:=by
 have vY:=lQ hk;have any:∀x,e1 tV (k_ 1 [2,0] (Iz c) (eM 0) kG (Iy c) iu) [aa (dz names sec),aa (.obj k),aa (.str x)] S=.ok (.bl (left.any λf=>decide (x∈sec f))) S:=λx=>by
  have hc:=Md (ρ:=[aa (dz names sec),aa (.obj k),aa (.str x)]) (S:=S) (js:=[2,0]) (it:=Iz c) (te:=Iy c) (ts:=left.map .str) (st:=λS'=>c6 S' (.obj k)=aa (left.map .str))
   (f:=λt=>match t with|.str y=>.bl (decide (x∈sec y)) | _=>.bq) (by simp[Iz,vY]) vY (by simpa using(by omega:left.length<=1000)) (λt ht=>by
    obtain⟨y,hy,rfl⟩:=au.mp ht;simp[Iy,UL (mC y hy),z5a])
  rw[bQ] at hc;have e:tV (.lst (left.map λy=>T.bl (decide (x∈sec y)))) S=.ok (.bl (left.any λf=>decide (x∈sec f))) S:=by
   unfold tV;simp only[Ma,mV,UN,List.any_map];rfl
  rw[AZ,eR,hc];exact e
 obtain⟨ρ',_,e⟩:=OC (S:=S) (st:=λS'=>c6 S' (.obj k)=aa (left.map .str)) (body:=CH c) (i:=2) (ρ0:=[aa (dz names sec),aa (.obj k),ae]) (p:=λt=>match t with|.str x=>if mm sec left x=true then aa (.str x) else ae | _=>ae) vY (left.map .str) [aa (dz names sec),aa (.obj k),ae] (λ_=>rfl) (λt ht=>by
  obtain⟨x,hx,rfl⟩:=au.mp ht;have a:=any x;rw[AZ,eR] at a;by_cases z:(left.any λf=>decide (x∈sec f))=true
  .have z2:mm sec left x=false:=by unfold mm;rw[z];rfl
   simp only[z2];rw[z] at a;simp[CH,a]
  .have z:(left.any λf=>decide (x∈sec f))=false:=by simpa using z
   have z2:mm sec left x=true:=by unfold mm;rw[z];rfl
   simp only[z2,if_true];rw[z] at a;simp[CH,a])
 have ef:(left.map T.str).findSome? (λt=>match t with|.str x=>if mm sec left x=true then aa (T.str x) else ae | _=>ae)=(left.find? (mm sec left)).map T.str:=by
  generalize mm sec left=q;clear e any vY hk mC hl
  induction left with
  |nil=>rfl
  | cons a r ih=>
    rw[ay,lG,cf];cases z:q a with
    |true=>simp[z]
    |false=>simpa[z] using ih
 rw[ef] at e;have es:eW (iL (af 1)) (eM 2) (CH c) [aa (dz names sec),aa (.obj k),ae] S=d9 (λS'=>c6 S' (.obj k)=aa (left.map .str)) (eM 2) (CH c) (left.map .str) [aa (dz names sec),aa (.obj k),ae] S:=by
  unfold eW;simp[vY]
 cases z:left.find? (mm sec left) with
 | none=>
   rw[z] at e;simp[CI,MY,es,e]
 | some x=>
   rw[z] at e;simp[CI,MY,es,e]
end DN
namespace DN
open PySem L2 MF
variable {c:Cl}{S:bG}{ρ:Ev}{sec:Str->List Str}{names:List Str}
noncomputable def oU(names A:List Str)(k:Nat):List (cg×T):=A.map λn=>(.inr n,.obj (k+1+names.idxOf n))
noncomputable def ie(S:bG)(names:List Str)(sec:Str->List Str):bG:=S++.dic (oU names names S.length)::names.map λn=>.dic (dU (sec n))
theorem UO{A B:List Str}{n:Str}(h:n∉A):(A++n::B).idxOf n=A.length:=by
 rw[List.idxOf_append,if_neg h];simp
theorem OD:(ie S names sec)[S.length]?=aa (.dic (oU names names S.length)):=by unfold ie;rw[xW];rfl
theorem C0{j:Nat}{u:bY}(h:S[j]?=aa u):(ie S names sec)[j]?=aa u:=nC h
theorem UP{a:Str}(ha:a∈names):(ie S names sec)[S.length+1+names.idxOf a]?=aa (.dic (dU (sec a))):=by
 unfold ie;rw[Dy,n9,Gw 1,c8,cT];have hl:=List.idxOf_lt_length_of_mem ha;rw[a_ hl,List.getElem_idxOf hl];rfl
theorem z85{a:Str}{l:List Str}(nd:names.Nodup)(ha:a∈names):(ie S names sec).set (S.length+1+names.idxOf a) (.dic (dU l))=ie S names (λn=>if n=a then l else sec n):=by
 unfold ie;rw[Dy,FA,Gw 1,uS];congr 2;obtain⟨A,B,rfl⟩:=List.append_of_mem ha;have hA:a∉A:=λhm=>by
  rw[cq] at nd;exact nd.2.2 a hm a (az ..) rfl
 have hB:a∉B:=λhm=>by
  rw[cq,cM] at nd;exact nd.2.1.1 hm
 rw[UO hA,aK,ay,kA _ _ (by simp),ba,hZ,mr,aK,ay];show _++bY.dic (dU l)::_=_++bY.dic (dU (if a=a then l else sec a))::_;rw[if_pos rfl];congr 1
 .exact dj λn hn=>by
   show _=bY.dic (dU (if n=a then l else sec n));rw[if_neg (λe=>hA (by rw[<- e];exact hn))]
 .congr 1
  exact dj λn hn=>by
   show _=bY.dic (dU (if n=a then l else sec n));rw[if_neg (λe=>hB (by rw[<- e];exact hn))]
noncomputable def oV(sec:Str->List Str)(a b:Str):Str->List Str:=λn=>if n=a then(if b∈sec a then sec a else sec a++[b]) else sec n
theorem z2s(g:List Str)(x:Str):m4 (dU g) (.inr x) (.bl true)=dU (if x∈g then g else g++[x]):=by
 by_cases z:x∈g
 .rw[if_pos z]
  unfold m4;have OE:((dU g).any λkv=>decide (kv.1=dI x))=true:=gu.mpr ⟨((dI x:cg),T.bl true),au.mpr ⟨x,z,rfl⟩,by simp⟩;rw[if_pos OE];unfold dU;rw[bQ];refine dj λy _=>?_;show(if(dI y:cg)=dI x then((dI y:cg),T.bl true) else(dI y,.bl true))=_
  split<;>rfl
 .rw[if_neg z,Ou g x z]
theorem UQ{a b x y:Str}:y∈oV sec a b x↔y∈sec x\/(x=a/\y=b):=by
 unfold oV;by_cases z:x=a
 .rw[if_pos z]
  by_cases w:b∈sec a
  .rw[if_pos w,z]
   constructor
   .exact .inl
   .rintro(h | ⟨_,rfl⟩)
    .exact h
    .exact w
  .rw[if_neg w,z,bp,aC]
   simp
 .rw[if_neg z]
  simp[z]
theorem Jb{a b x:Str}:(oV sec a b x).length<=(sec x).length+1:=by
 unfold oV
 split
 .rename_i z
  subst z
  split
  .omega
  .simp
 .omega
theorem UR{n:Str}(h:n∈names):dO (oU names names S.length) (.inr n)=aa (.obj (S.length+1+names.idxOf n)):=OA (g:=λn=>.obj (S.length+1+names.idxOf n)) h
theorem z2t{n:Str}(h:n∉names):dO (oU names names S.length) (.inr n)=ae:=OB (g:=λn=>.obj (S.length+1+names.idxOf n)) h
theorem US(n:Str):jf (.str n) (.obj S.length) (ie S names sec)=.ok (.bl (decide (n∈names))) (ie S names sec):=by
 have d:=zG (OD (S:=S) (names:=names) (sec:=sec));by_cases z:n∈names
 .simp[jf,d,eE,UR z,z]
 .simp[jf,d,eE,z2t z,z]
theorem UT{a b:Str}{ρ:Ev}{fd fk:DE}(nd:names.Nodup)(ha:a∈names)(hl:(sec a).length<=800)(h1:fd ρ (ie S names sec)=.ok (.obj (S.length+1+names.idxOf a)) (ie S names sec))(h2:fk ρ (ie S names sec)=.ok (.str b) (ie S names sec)) :
  wI fd fk (eC (.bl true)) ρ (ie S names sec)=.ok (.nx ρ) (ie S names (oV sec a b)):=by
 have g:=UP (S:=S) (sec:=sec) ha;have tN:(dU (sec a)).length<=900:=by simp[dU];omega
 have e:(λn=>if n=a then(if b∈sec a then sec a else sec a++[b]) else sec n)=oV sec a b:=rfl;simp[h1,h2,eE,g,tN,z2s,z85 nd ha,e]
theorem UU{a:Str}(ha:a∈names):je (.obj S.length) (.str a) (ie S names sec)=.ok (.obj (S.length+1+names.idxOf a)) (ie S names sec):=by
 have d:=zG (OD (S:=S) (names:=names) (sec:=sec));simp[je,d,eE,UR ha]
noncomputable def oA(names:List Str)(nm:Str)(sec:Str->List Str)(o:Str):Str->List Str:=if o∈names then oV sec nm o else sec
noncomputable def sZ(names:List Str)(nm:Str)(sec:Str->List Str)(o:Str):Str->List Str:=if o∈names then oV sec o nm else sec
theorem UW{h:Nat}{nm:Str}{t1 t4:Option T}{st:bG->Prop}(nd:names.Nodup)(hn:nm∈names)(eY:∀sec,st (ie S names sec)):∀(os:List Str) {sec:Str->List Str} {x5:Option T},(∀x,(sec x).length+os.length<=800) ->
  ∃qr,d9 st (eM 5) (Bi c) (os.map .str) [aa (.obj h),t1,aa (.obj S.length),aa (.str nm),t4,x5] (ie S names sec)=.ok (.nx [aa (.obj h),t1,aa (.obj S.length),aa (.str nm),t4,qr]) (ie S names (os.foldl (oA names nm) sec))
 | [],sec,x5,_=>⟨x5,by
   show d9 _ _ _ [] _ _=_;unfold d9;rw[if_pos (eY _)];rfl⟩
 | o :: os,sec,x5,hl=>by
   have hb:Bi c [aa (.obj h),t1,aa (.obj S.length),aa (.str nm),t4,aa (.str o)] (ie S names sec)=.ok (.nx [aa (.obj h),t1,aa (.obj S.length),aa (.str nm),t4,aa (.str o)]) (ie S names (oA names nm sec o)):=by
    unfold oA;have d:=US (S:=S) (names:=names) (sec:=sec) o;by_cases z:o∈names
    .have p:=UT (S:=S) (sec:=sec) (a:=nm) (b:=o) (ρ:=[aa (.obj h),t1,aa (.obj S.length),aa (.str nm),t4,aa (.str o)]) (fd:=e2 je (af 2) (af 3)) (fk:=af 5) nd hn (by have:=hl nm;simp at this;omega) (by simp[UU hn]) (by simp)
     rw[if_pos z];simp only[decide_eq_true z] at d;unfold Bi;rw[A3,eR,Su,eR,vF,eR];simp only[wK,c8,bX,eR,d,Ss,if_true];exact p
    .rw[if_neg z]
     simp only[decide_eq_false z] at d;simp[Bi,d]
   obtain⟨qr,e⟩:=UW (h:=h) (t1:=t1) (t4:=t4) nd hn eY os (sec:=oA names nm sec o) (x5:=aa (.str o)) (λx=>by
    have:=hl x;rw[aY] at this;unfold oA
    split
    .have:=Jb (sec:=sec) (a:=nm) (b:=o) (x:=x);omega
    .omega)
   refine⟨qr,?_⟩;show d9 _ _ _ (.str o::os.map .str) _ _=_;unfold d9;rw[if_pos (eY _)];show(M.bind (Bi c [aa (.obj h),t1,aa (.obj S.length),aa (.str nm),t4,aa (.str o)]) _) _=_;rw[eR,hb];exact e
theorem UX{h:Nat}{nm:Str}{t1 t4:Option T}{st:bG->Prop}(nd:names.Nodup)(hn:nm∈names)(eY:∀sec,st (ie S names sec)):∀(os:List Str) {sec:Str->List Str} {x5:Option T},(∀x,(sec x).length+os.length<=800) ->
  ∃qr,d9 st (eM 5) (Bj c) (os.map .str) [aa (.obj h),t1,aa (.obj S.length),aa (.str nm),t4,x5] (ie S names sec)=.ok (.nx [aa (.obj h),t1,aa (.obj S.length),aa (.str nm),t4,qr]) (ie S names (os.foldl (sZ names nm) sec))
 | [],sec,x5,_=>⟨x5,by
   show d9 _ _ _ [] _ _=_;unfold d9;rw[if_pos (eY _)];rfl⟩
 | o :: os,sec,x5,hl=>by
   have hb:Bj c [aa (.obj h),t1,aa (.obj S.length),aa (.str nm),t4,aa (.str o)] (ie S names sec)=.ok (.nx [aa (.obj h),t1,aa (.obj S.length),aa (.str nm),t4,aa (.str o)]) (ie S names (sZ names nm sec o)):=by
    unfold sZ;have d:=US (S:=S) (names:=names) (sec:=sec) o;by_cases z:o∈names
    .have p:=UT (S:=S) (sec:=sec) (a:=o) (b:=nm) (ρ:=[aa (.obj h),t1,aa (.obj S.length),aa (.str nm),t4,aa (.str o)]) (fd:=e2 je (af 2) (af 5)) (fk:=af 3) nd z (by have:=hl o;simp at this;omega) (by simp[UU z]) (by simp)
     rw[if_pos z];simp only[decide_eq_true z] at d;unfold Bj;rw[A3,eR,Su,eR,vF,eR];simp only[wK,c8,bX,eR,d,Ss,if_true];exact p
    .rw[if_neg z]
     simp only[decide_eq_false z] at d;simp[Bj,d]
   obtain⟨qr,e⟩:=UX (h:=h) (t1:=t1) (t4:=t4) nd hn eY os (sec:=sZ names nm sec o) (x5:=aa (.str o)) (λx=>by
    have:=hl x;rw[aY] at this;unfold sZ
    split
    .have:=Jb (sec:=sec) (a:=o) (b:=nm) (x:=x);omega
    .omega)
   refine⟨qr,?_⟩;show d9 _ _ _ (.str o::os.map .str) _ _=_;unfold d9;rw[if_pos (eY _)];show(M.bind (Bj c [aa (.obj h),t1,aa (.obj S.length),aa (.str nm),t4,aa (.str o)]) _) _=_;rw[eR,hb];exact e
end DN
namespace DN
open PySem L2 MF
variable {c:Cl}{S:bG}{ρ:Ev}{sec:Str->List Str}{names:List Str}
theorem UY{nm x y:Str}:∀(os:List Str) {sec:Str->List Str},y∈(os.foldl (oA names nm) sec) x↔y∈sec x\/(x=nm/\y∈os/\y∈names)
 |[],sec=>by simp
 | o :: os,sec=>by
   rw[iJ,UY os];unfold oA;by_cases z:o∈names
   .rw[if_pos z,UQ]
    constructor
    .rintro((h | ⟨h1,h2⟩) | ⟨h1,h2,h3⟩)
     .exact .inl h
     .exact .inr ⟨h1,by rw[h2];simp,by rw[h2];exact z⟩
     .exact .inr ⟨h1,ao _ h2,h3⟩
    .rintro(h | ⟨h1,h2,h3⟩)
     .exact .inl (.inl h)
     .rcases aH.mp h2 with h | h
      .exact .inl (.inr ⟨h1,h⟩)
      .exact .inr ⟨h1,h,h3⟩
   .rw[if_neg z]
    constructor
    .rintro(h | ⟨h1,h2,h3⟩)
     .exact .inl h
     .exact .inr ⟨h1,ao _ h2,h3⟩
    .rintro(h | ⟨h1,h2,h3⟩)
     .exact .inl h
     .rcases aH.mp h2 with h | h
      .rw[h] at h3;exact absurd h3 z
      .exact .inr ⟨h1,h,h3⟩
theorem UZ{nm x y:Str}:∀(os:List Str) {sec:Str->List Str},y∈(os.foldl (sZ names nm) sec) x↔y∈sec x\/(y=nm/\x∈os/\x∈names)
 |[],sec=>by simp
 | o :: os,sec=>by
   rw[iJ,UZ os];unfold sZ;by_cases z:o∈names
   .rw[if_pos z,UQ]
    constructor
    .rintro((h | ⟨h1,h2⟩) | ⟨h1,h2,h3⟩)
     .exact .inl h
     .exact .inr ⟨h2,by rw[h1];simp,by rw[h1];exact z⟩
     .exact .inr ⟨h1,ao _ h2,h3⟩
    .rintro(h | ⟨h1,h2,h3⟩)
     .exact .inl (.inl h)
     .rcases aH.mp h2 with h | h
      .exact .inl (.inr ⟨h,h1⟩)
      .exact .inr ⟨h1,h,h3⟩
   .rw[if_neg z]
    constructor
    .rintro(h | ⟨h1,h2,h3⟩)
     .exact .inl h
     .exact .inr ⟨h1,ao _ h2,h3⟩
    .rintro(h | ⟨h1,h2,h3⟩)
     .exact .inl h
     .rcases aH.mp h2 with h | h
      .rw[h] at h3;exact absurd h3 z
      .exact .inr ⟨h1,h,h3⟩
noncomputable def wQ(names:List Str)(sec:Str->List Str)(q:HP):Str->List Str:=q.w1.foldl (sZ names q.nm) (q.w0.foldl (oA names q.nm) sec)
theorem z2v{q:HP}{x y:Str}:y∈wQ names sec q x↔y∈sec x\/(x=q.nm/\y∈q.w0/\y∈names)\/(y=q.nm/\x∈q.w1/\x∈names):=by
 unfold wQ;rw[UZ,UY,or_assoc]
theorem U0{x y:Str}:∀(qs:List HP) {sec:Str->List Str},y∈(qs.foldl (wQ names) sec) x↔y∈sec x\/∃q∈qs,(x=q.nm/\y∈q.w0/\y∈names)\/(y=q.nm/\x∈q.w1/\x∈names)
 |[],sec=>by simp
 | q :: qs,sec=>by
   rw[iJ,U0 qs,z2v,or_assoc];constructor
   .rintro(h | h | ⟨r,hr,h⟩)
    .exact .inl h
    .exact .inr ⟨q,az ..,h⟩
    .exact .inr ⟨r,ao _ hr,h⟩
   .rintro(h | ⟨r,hr,h⟩)
    .exact .inl h
    .rcases aH.mp hr with rfl | hr
     .exact .inr (.inl h)
     .exact .inr (.inr ⟨r,hr,h⟩)
theorem OF{nm x:Str}:∀(os:List Str) {sec:Str->List Str},((os.foldl (oA names nm) sec) x).length<=(sec x).length+os.length
 |[],sec=>by simp
 | o::os,sec=>by
   have:=OF (nm:=nm) (x:=x) os (sec:=oA names nm sec o);rw[iJ,aY];have h2:(oA names nm sec o x).length<=(sec x).length+1:=by
    unfold oA
    split
    .exact Jb
    .omega
   omega
theorem U1{nm x:Str}:∀(os:List Str) {sec:Str->List Str},((os.foldl (sZ names nm) sec) x).length<=(sec x).length+os.length
 |[],sec=>by simp
 | o::os,sec=>by
   have:=U1 (nm:=nm) (x:=x) os (sec:=sZ names nm sec o);rw[iJ,aY];have h2:(sZ names nm sec o x).length<=(sec x).length+1:=by
    unfold sZ
    split
    .exact Jb
    .omega
   omega
theorem U2{st:bG->Prop}{h:Nat}{t1:Option T}(nd:names.Nodup)(eY:∀S',st S')(vR:names.length<=900):∀(B A:List Str) {x3 x4 x5:Option T},names=A++B ->
  ∃q8,d9 st (eM 3) (CF c) (B.map .str) [aa (.obj h),t1,aa (.obj S.length),x3,x4,x5] (S++.dic (oU names A S.length)::aQ A.length (.dic []))=.ok (.nx [aa (.obj h),t1,aa (.obj S.length),q8,x4,x5]) (S++.dic (oU names names S.length)::aQ names.length (.dic []))
 | [],A,x3,x4,x5,e=>⟨x3,by
   rw[cW] at e;subst e;show d9 _ _ _ [] _ _=_;unfold d9;rw[if_pos (eY _)]⟩
 | n::B,A,x3,x4,x5,e=>by
   have hA:n∉A:=λhm=>by
    rw[e,cq] at nd;exact nd.2.2 n hm n (az ..) rfl
   have hi:names.idxOf n=A.length:=by rw[e];exact UO hA
   obtain⟨q8,ih⟩:=U2 (h:=h) (t1:=t1) nd eY vR B (A++[n]) (x3:=aa (.str n)) (x4:=x4) (x5:=x5) (by rw[e];simp);refine⟨q8,?_⟩;have cX:(S++bY.dic (oU names A S.length)::aQ A.length (.dic [])).length=S.length+1+A.length:=by simp;omega
   have v:dO (oU names A S.length) (.inr n)=ae:=OB (g:=λn=>.obj (S.length+1+names.idxOf n)) hA;have g:(S++bY.dic (oU names A S.length)::aQ A.length (.dic [])++[.dic []])[S.length]?=aa (.dic (oU names A S.length)):=by
    rw[bO,xW];rfl
   have rQ:A.length<=900:=by rw[e] at vR;simp at vR;omega
   have hl9:(oU names A S.length).length<=900:=by simp[oU];omega
   have es:(S++bY.dic (oU names A S.length)::aQ A.length (bY.dic [])++[bY.dic []]).set S.length (bY.dic (oU names A S.length++[((dI n:cg),T.obj (S.length+1+A.length))]))=S++.dic (oU names (A++[n]) S.length)::aQ (A++[n]).length (.dic []):=by
    rw[bO,Bx];congr 1;rw[d7,mr];congr 1
    .simp[oU,hi]
    .rw[aM,aV,List.replicate_succ']
   have hb:CF c [aa (.obj h),t1,aa (.obj S.length),aa (.str n),x4,x5] (S++.dic (oU names A S.length)::aQ A.length (.dic []))=.ok (.nx [aa (.obj h),t1,aa (.obj S.length),aa (.str n),x4,x5]) (S++.dic (oU names (A++[n]) S.length)::aQ (A++[n]).length (.dic [])):=by
    generalize Up:(S++bY.dic (oU names A S.length)::aQ A.length (.dic []))=S1 at cX g es;unfold CF;rw[Zcr,eR,z8r];simp only[eR,wK,c8,bX,eE,g,if_pos hl9,IW v,cX,es]
   show d9 _ _ _ (.str n::B.map .str) _ _=_;unfold d9;rw[if_pos (eY _)];show(M.bind (CF c [aa (.obj h),t1,aa (.obj S.length),aa (.str n),x4,x5]) _) _=_;rw[eR,hb];exact ih
end DN
namespace DN
open PySem L2 MF
variable {c:Cl}{S:bG}{ρ:Ev}{sec:Str->List Str}{names:List Str}
theorem Zew{h:Nat}{pl:List jr}{ps:List HP}(A:gB c S h pl ps)(nd:names.Nodup){q:HP}(hq:q∈ps)(hn:q.nm∈names){t1 x4 x5:Option T}(hl:∀x,(sec x).length<=700)(h01:q.w0.length+q.w1.length<=20) :
  ∃zI qr,CG c [aa (.obj h),t1,aa (.obj S.length),aa (.str q.nm),x4,x5] (ie S names sec)=.ok (.nx [aa (.obj h),t1,aa (.obj S.length),aa (.str q.nm),zI,qr]) (ie S names (wQ names sec q)):=by
 have A':∀sec,gB c (ie S names sec) h pl ps:=λsec=>A.app;have hm:=qq (m:=aj "find_piece") h (by simp) (by simp);have ef:=Fz (A' sec) (xV A.nd hq);have P:=A.piece q hq;have i1:=q5 (C0 (names:=names) (sec:=sec) P.o);have i2:=q5 (C0 (names:=names) (sec:=q.w0.foldl (oA names q.nm) sec) P.o);obtain⟨Jc,e1⟩:=UW (c:=c) (S:=S) (h:=h) (t1:=t1) (t4:=aa (.obj q.i)) (st:=λS'=>c6 S' (.obj (q.i+1))=aa (q.w0.map .str)) nd hn (λsec=>lQ (C0 P.a0)) q.w0 (sec:=sec) (x5:=x5) (λx=>by have:=hl x;omega);obtain⟨U3,e2⟩:=UX (c:=c) (S:=S) (h:=h) (t1:=t1) (t4:=aa (.obj q.i)) (st:=λS'=>c6 S' (.obj (q.i+2))=aa (q.w1.map .str)) nd hn (λsec=>lQ (C0 P.a1)) q.w1 (sec:=q.w0.foldl (oA names q.nm) sec) (x5:=Jc) (λx=>by have:=hl x;have:=OF (names:=names) (nm:=q.nm) (x:=x) q.w0 (sec:=sec);omega);have l1:=lQ (C0 (names:=names) (sec:=sec) P.a0);have l2:=lQ (C0 (names:=names) (sec:=q.w0.foldl (oA names q.nm) sec) P.a1);have s1:eW (iL (MF.e1 (df c.piece "ahead") (af 4))) (eM 5) (Bi c) [aa (.obj h),t1,aa (.obj S.length),aa (.str q.nm),aa (.obj q.i),x5] (ie S names sec)=.ok (.nx [aa (.obj h),t1,aa (.obj S.length),aa (.str q.nm),aa (.obj q.i),Jc]) (ie S names (q.w0.foldl (oA names q.nm) sec)):=by
  unfold eW;rw[eR];have:iL (MF.e1 (df c.piece "ahead") (af 4)) [aa (.obj h),t1,aa (.obj S.length),aa (.str q.nm),aa (.obj q.i),x5] (ie S names sec)=.ok (q.w0.map .str,λS'=>c6 S' (.obj (q.i+1))=aa (q.w0.map .str)) (ie S names sec):=by simp[i1,Ul,l1]
  rw[this];exact e1
 have s2:eW (iL (MF.e1 (df c.piece "behind") (af 4))) (eM 5) (Bj c) [aa (.obj h),t1,aa (.obj S.length),aa (.str q.nm),aa (.obj q.i),Jc] (ie S names (q.w0.foldl (oA names q.nm) sec))=.ok (.nx [aa (.obj h),t1,aa (.obj S.length),aa (.str q.nm),aa (.obj q.i),U3]) (ie S names (wQ names sec q)):=by
  unfold eW;rw[eR];have:iL (MF.e1 (df c.piece "behind") (af 4)) [aa (.obj h),t1,aa (.obj S.length),aa (.str q.nm),aa (.obj q.i),Jc] (ie S names (q.w0.foldl (oA names q.nm) sec))=.ok (q.w1.map .str,λS'=>c6 S' (.obj (q.i+2))=aa (q.w1.map .str)) (ie S names (q.w0.foldl (oA names q.nm) sec)):=by simp[i2,Um,l2]
  rw[this];exact e2
 have i0:=(A' sec).ins;exact⟨aa (.obj q.i),U3,by simp[CG,i0,hm,ef,s1,s2]⟩
theorem U4{h:Nat}{pl:List jr}{ps:List HP}{st:bG->Prop}(A:gB c S h pl ps)(nd:names.Nodup)(eY:∀S',st S'){t1:Option T}:∀(qs:List HP) {sec:Str->List Str} {x3 x4 x5:Option T},(∀q∈qs,q∈ps/\q.nm∈names/\q.w0.length+q.w1.length<=20)->(∀x,(sec x).length+20*qs.length<=700) ->
  ∃q8 zI qr,d9 st (eM 3) (CG c) ((qs.map (·.nm)).map .str) [aa (.obj h),t1,aa (.obj S.length),x3,x4,x5] (ie S names sec)=.ok (.nx [aa (.obj h),t1,aa (.obj S.length),q8,zI,qr]) (ie S names (qs.foldl (wQ names) sec))
 | [],sec,x3,x4,x5,_,_=>⟨x3,x4,x5,by
   show d9 _ _ _ [] _ _=_;unfold d9;rw[if_pos (eY _)];rfl⟩
 | q::qs,sec,x3,x4,x5,hq,hl=>by
   obtain⟨q1,q2,q3⟩:=hq q (az ..);obtain⟨y4,y5,hb⟩:=Zew (names:=names) (sec:=sec) A nd q1 q2 (t1:=t1) (x4:=x4) (x5:=x5) (λx=>by have:=hl x;omega) q3;obtain⟨z3,z4,z5,e⟩:=U4 A nd eY qs (t1:=t1) (sec:=wQ names sec q) (x3:=aa (.str q.nm)) (x4:=y4) (x5:=y5) (λr hr=>hq r (ao _ hr)) (λx=>by
    have h1:=hl x;rw[aY] at h1;have h2:=OF (names:=names) (nm:=q.nm) (x:=x) q.w0 (sec:=sec);have h3:=U1 (names:=names) (nm:=q.nm) (x:=x) q.w1 (sec:=q.w0.foldl (oA names q.nm) sec);unfold wQ;omega)
   refine⟨z3,z4,z5,?_⟩;show d9 _ _ _ (.str q.nm::(qs.map (·.nm)).map .str) _ _=_;unfold d9;rw[if_pos (eY _)];show(M.bind (CG c [aa (.obj h),t1,aa (.obj S.length),aa (.str q.nm),x4,x5]) _) _=_;rw[eR,hb];exact e
theorem Jd{α β γ:Type}{f:β->Option γ}{g:α->β}{k:α->γ}:∀{l:List α},(∀x∈l,f (g x)=aa (k x))->iw f (l.map g)=aa (l.map k)
 |[],_=>rfl
 | a::r,h=>by
   rw[ay];unfold iw;rw[h a (az ..),Jd λx hx=>h x (ao _ hx)];rfl
theorem Zcy:fz (ie S names sec) S.length 6 (.obj S.length)=aa (dz names sec):=by
 unfold fz;rw[if_neg (by simp only[HB];omega)];simp only[OD];unfold oU;rw[Jd (k:=λn=>((dI n:cg),T.dic (dU (sec n)))) λn hn=>?_]
 .rfl
 .have hg:=UP (S:=S) (sec:=sec) hn
  have:fz (ie S names sec) S.length 5 (.obj (S.length+1+names.idxOf n))=aa (.dic (dU (sec n))):=by
   unfold fz;rw[if_neg (by simp only[HB];omega)];simp only[hg];unfold dU;rw[Jd (k:=λx=>((dI x:cg),T.bl true)) λx _=>?_]
   .rfl
   .show(fz (ie S names sec) S.length 4 (.bl true)).map _=_
    rw[Cw (by simp)];rfl
  show(fz (ie S names sec) S.length 5 (.obj (S.length+1+names.idxOf n))).map _=_;rw[this];rfl
noncomputable def mR(names:List Str)(qs:List HP):Str->List Str:=qs.foldl (wQ names) λ_=>[]
theorem z2w{h:Nat}{pl:List jr}{ps qs:List HP}(A:gB c S h pl ps)(nd:names.Nodup)(hq:qs.map (·.nm)=names)(hs:∀q∈qs,q∈ps/\q.w0.length+q.w1.length<=20)(hl:names.length<=24) :
  Fc c [.obj h,aL names] S=.ok (dz names (mR names qs)) S:=by
 have ql:qs.length=names.length:=by rw[<- hq];simp
 obtain⟨x3,e1⟩:=U2 (c:=c) (S:=S) (st:=λS'=>c6 S' (aL names)=aa (names.map .str)) (h:=h) (t1:=aa (aL names)) nd (λ_=>rfl) (by omega) names [] (x3:=ae) (x4:=ae) (x5:=ae) rfl;have es:(S++bY.dic (oU names names S.length)::aQ names.length (.dic []))=ie S names (λ_=>[]):=by
  unfold ie;congr 2;rw[List.map_const'];rfl
 rw[es] at e1;obtain⟨y3,y4,y5,e2⟩:=U4 (c:=c) (S:=S) (names:=names) A nd (st:=λS'=>c6 S' (aL names)=aa (names.map .str)) (λ_=>rfl) (t1:=aa (aL names)) qs (sec:=λ_=>[]) (x3:=x3) (x4:=ae) (x5:=ae) (λq h=>⟨(hs q h).1,by rw[<- hq];exact au.mpr ⟨q,h,rfl⟩,(hs q h).2⟩) (λx=>by show 0+20*qs.length<=700;omega);rw[hq] at e2;have s1:eW (iL (af 1)) (eM 3) (CF c) [aa (.obj h),aa (aL names),aa (.obj S.length),ae,ae,ae] (S++[.dic []])=.ok (.nx [aa (.obj h),aa (aL names),aa (.obj S.length),x3,ae,ae]) (ie S names λ_=>[]):=by
  unfold eW;simp only[eR,A4,wK,c8,bX];exact e1
 have s2:eW (iL (af 1)) (eM 3) (CG c) [aa (.obj h),aa (aL names),aa (.obj S.length),x3,ae,ae] (ie S names λ_=>[])=.ok (.nx [aa (.obj h),aa (aL names),aa (.obj S.length),y3,y4,y5]) (ie S names (mR names qs)):=by
  unfold eW;simp only[eR,A4,wK,c8,bX];exact e2
 have run:cH 6 (MX c) [.obj h,aL names] S=.ok (.obj S.length) (ie S names (mR names qs)):=by
  simp[MX,s1,s2]
 unfold Fc lg;rw[run];have tk:(ie S names (mR names qs)).take S.length=S:=by unfold ie;simp
 simp only[if_pos tk,Zcy]
theorem U5{qs:List HP}{x y:Str}:y∈mR names qs x↔∃q∈qs,(x=q.nm/\y∈q.w0/\y∈names)\/(y=q.nm/\x∈q.w1/\x∈names):=by
 unfold mR;rw[U0];simp
end DN
namespace DN
open PySem L2 MF
variable {c:Cl}{S:bG}{ρ:Ev}{sec:Str->List Str}{names:List Str}
structure mD(S S':bG)(kR kL:Nat):Prop where
 len:S'.length=S.length
 same:∀j,j≠kR->j≠kL->S'[j]?=S[j]?
theorem mD.refl(S:bG)(a b:Nat):mD S S a b:=⟨rfl,λ_ _ _=>rfl⟩
theorem mD.trans{S S1 S2:bG}{a b:Nat}(p:mD S S1 a b)(q:mD S1 S2 a b):mD S S2 a b:=⟨q.len.trans p.len,λj h1 h2=>(q.same j h1 h2).trans (p.same j h1 h2)⟩
theorem z2x(row:List Str)(s:Str):T.lst (row.map .str++[.str s])=aL (row++[s]):=by simp[aL]
theorem z2y{kR kL:Nat}{start s:Str}{row re:List Str}{lo:List (List Str)}{t0 t2:Option T}(hR:S[kR]?=aa (.dic (dU re)))(hL:S[kL]?=aa (.lst (lo.map aL)))(hl:re.length<=500)(Zp:lo.length<=500)(BA:row.length<=500) :
  tZ c [t0,aa (.str start),t2,aa (.obj kR),aa (.obj kL),aa (aL row),aa (.str s)] S =
   if s=start then .ok (.rt (aL row)) S else if s∈re then .ok (.nx [t0,aa (.str start),t2,aa (.obj kR),aa (.obj kL),aa (aL row),aa (.str s)]) S
   else .ok (.nx [t0,aa (.str start),t2,aa (.obj kR),aa (.obj kL),aa (aL row),aa (.str s)]) ((S.set kR (.dic (dU (re++[s])))).set kL (.lst ((lo++[row++[s]]).map aL))):=by
 have ne:kR≠kL:=vT hR hL (by intro z;cases z);have d:=zG hR;by_cases z:s=start
 .rw[if_pos z]
  simp[tZ,z]
 .rw[if_neg z]
  by_cases y:s∈re
  .rw[if_pos y]
   have v:dO (dU re) (.inr s)=aa (.bl true):=by rw[By,if_pos y]
   simp[tZ,z,vy,d,eE,v]
  .rw[if_neg y]
   have v:dO (dU re) (.inr s)=ae:=by rw[By,if_neg y]
   have tN:(dU re).length<=900:=by simp[dU];omega
   have Je:(S.set kR (.dic (dU (re++[s]))))[kL]?=aa (.lst (lo.map aL)):=by rw[dW ne];exact hL
   have cI:=m5 Je;have lX:=vG (y:=aL (row++[s])) Je (by simp;omega);have e1:lo.map aL++[aL (row++[s])]=(lo++[row++[s]]).map aL:=by simp
   rw[e1] at lX;have xY:fT (aL row) (.lst [.str s]) (S.set kR (.dic (dU (re++[s]))))=.ok (aL (row++[s])) (S.set kR (.dic (dU (re++[s])))):=by
    have hl3:(row.map T.str).length+[T.str s].length<=1000:=by simp;omega
    show fT (.lst (row.map .str)) (.lst [.str s]) _=_;rw[Zb3,if_pos hl3,z2x]
   simp[tZ,z,vy,d,eE,v,hR,tN,Ou re s y,cI,xY,lX]
theorem OG{kR kL:Nat}{start:Str}{row:List Str}{t0 t2:Option T}(BA:row.length<=200):∀(ss re:List Str) (lo:List (List Str)) {x6:Option T} {S:bG},S[kR]?=aa (.dic (dU re))->S[kL]?=aa (.lst (lo.map aL))->re.length+ss.length<=500->lo.length+ss.length<=500 ->
  ∃ S' BB,mD S S' kR kL/\(match wO start row ss re lo with
    |none=>d9 (λ_=>True) (eM 6) (tZ c) (ss.map .str) [t0,aa (.str start),t2,aa (.obj kR),aa (.obj kL),aa (aL row),x6] S=.ok (.rt (aL row)) S'
    |some (il,nD)=>d9 (λ_=>True) (eM 6) (tZ c) (ss.map .str) [t0,aa (.str start),t2,aa (.obj kR),aa (.obj kL),aa (aL row),x6] S=.ok (.nx [t0,aa (.str start),t2,aa (.obj kR),aa (.obj kL),aa (aL row),BB]) S'/\S'[kR]?=aa (.dic (dU il))/\S'[kL]?=aa (.lst (nD.map aL)))
 | [],re,lo,x6,S,hR,hL,_,_=>⟨S,x6,mD.refl _ _ _,by
   show d9 _ _ _ [] _ S=_/\_;unfold d9;rw[if_pos trivial];exact⟨rfl,hR,hL⟩⟩
 | s :: ss,re,lo,x6,S,hR,hL,h1,h2=>by
   have ne:kR≠kL:=vT hR hL (by intro z;cases z);rw[aY] at h1 h2;have hb:=z2y (c:=c) (start:=start) (s:=s) (row:=row) (t0:=t0) (t2:=t2) hR hL (by omega) (by omega) (by omega);have un:d9 (λ_=>True) (eM 6) (tZ c) ((s::ss).map .str) [t0,aa (.str start),t2,aa (.obj kR),aa (.obj kL),aa (aL row),x6] S=M.bind (tZ c [t0,aa (.str start),t2,aa (.obj kR),aa (.obj kL),aa (aL row),aa (.str s)]) (λx=>match x with
    |.nx ρ2=>d9 (λ_=>True) (eM 6) (tZ c) (ss.map .str) ρ2
    |.ct ρ2=>d9 (λ_=>True) (eM 6) (tZ c) (ss.map .str) ρ2
    |.bk ρ2=>M.pure (.nx ρ2)
    |.rt t=>M.pure (.rt t)) S:=by
    show d9 _ _ _ (.str s::ss.map .str) _ S=_
    conv=>lhs;unfold d9
    rw[if_pos trivial];rfl
   rw[un,eR];unfold wO;by_cases z:s=start
   .rw[if_pos z]
    rw[if_pos z] at hb;refine⟨S,x6,mD.refl _ _ _,?_⟩;rw[hb];rfl
   .rw[if_neg z]
    rw[if_neg z] at hb;by_cases y:s∈re
    .rw[if_pos y]
     rw[if_pos y] at hb;obtain⟨S',BB,sm,e⟩:=OG BA ss re lo (x6:=aa (.str s)) hR hL (by omega) (by omega);refine⟨S',BB,sm,?_⟩;rw[hb];exact e
    .rw[if_neg y]
     rw[if_neg y] at hb;have hR2:((S.set kR (.dic (dU (re++[s])))).set kL (.lst ((lo++[row++[s]]).map aL)))[kR]?=aa (.dic (dU (re++[s]))):=by rw[dW (bM ne)];exact kQ hR
     have Je:((S.set kR (.dic (dU (re++[s])))).set kL (.lst ((lo++[row++[s]]).map aL)))[kL]?=aa (.lst ((lo++[row++[s]]).map aL)):=kQ (u:=.lst (lo.map aL)) (by rw[dW ne];exact hL);have wR:mD S ((S.set kR (.dic (dU (re++[s])))).set kL (.lst ((lo++[row++[s]]).map aL))) kR kL:=⟨by simp,λj h1 h2=>by rw[dW (bM h2),dW (bM h1)]⟩;obtain⟨S',BB,sm,e⟩:=OG BA ss (re++[s]) (lo++[row++[s]]) (x6:=aa (.str s)) hR2 Je (by simp;omega) (by simp;omega);refine⟨S',BB,wR.trans sm,?_⟩;rw[hb];exact e
theorem z86{row:List Str}(h:row≠[]):cv (aL row) (.int (-1)) S=.ok (.str (q9 row)) S:=by
 obtain⟨A,x,rfl⟩:∃A x,row=A++[x]:=⟨row.dropLast,row.getLast h,(List.dropLast_concat_getLast h).symm⟩;have:kD ((A++[x]).map T.str) (-1)=aa (.str x):=by
  have hl:((A++[x]).map T.str).length=A.length+1:=by simp
  have hi:rz (A.length+1) (-1)=aa A.length:=by
   unfold rz;rw[if_neg (by decide),if_pos (by omega)];congr 1;omega
  unfold kD;rw[hl,hi];simp
 rw[UD];show cv (.lst ((A++[x]).map T.str)) (.int (-1)) S=_;rw[Zem,this]
end DN
namespace DN
open PySem L2 MF
variable {c:Cl}{S:bG}{ρ:Ev}{sec:Str->List Str}{names:List Str}
theorem z2z(l:List Str):(dU l).map (λp=>kT p.1)=l.map T.str:=by simp[dU,kT]
structure SecOk(names:List Str)(sec:Str->List Str):Prop where
 sub:∀a∈names,∀b∈sec a,b∈names
 len:∀a∈names,(sec a).length<=200
 nN:names.length<=100
theorem m6.nN{re:List Str}(h:m6 names re)(k:SecOk names sec):re.length<=100:=bJ (xX re names h.nd h.sub) k.nN
theorem U6{kR kL:Nat}{start:Str}{t2:Option T}{st:bG->Prop}(ok:SecOk names sec):∀(rows:List (List Str)) (re:List Str) (lo:List (List Str)) {x5 x6:Option T} {S:bG},S[kR]?=aa (.dic (dU re))->S[kL]?=aa (.lst (lo.map aL))->m6 names re->(∀r∈rows,rG names re r)->(∀r∈lo,rG names re r)->lo.length<=re.length->(∀S',mD S S' kR kL->st S') ->
  ∃ S' qr BB,mD S S' kR kL/\(match vX sec start rows re lo with
    |.error row=>d9 st (eM 5) (uB c) (rows.map aL) [aa (dz names sec),aa (.str start),t2,aa (.obj kR),aa (.obj kL),x5,x6] S=.ok (.rt (aL row)) S'
    |.ok (il,nD)=>d9 st (eM 5) (uB c) (rows.map aL) [aa (dz names sec),aa (.str start),t2,aa (.obj kR),aa (.obj kL),x5,x6] S=.ok (.nx [aa (dz names sec),aa (.str start),t2,aa (.obj kR),aa (.obj kL),qr,BB]) S'/\S'[kR]?=aa (.dic (dU il))/\S'[kL]?=aa (.lst (nD.map aL)))
 | [],re,lo,x5,x6,S,hR,hL,_,_,_,_,eY=>⟨S,x5,x6,mD.refl _ _ _,by
   show d9 _ _ _ [] _ S=_/\_;unfold d9;rw[if_pos (eY S (mD.refl _ _ _))];exact⟨rfl,hR,hL⟩⟩
 | row::rows,re,lo,x5,x6,S,hR,hL,h1,h2,h3,h4,eY=>by
   have hr:=h2 row (az ..);have vZ:=hr.sub _ (UE hr.ne);have f1:=h1.nN ok;have f2:=ok.len _ vZ;obtain⟨S1,y6,wR,e1⟩:=OG (c:=c) (kR:=kR) (kL:=kL) (start:=start) (row:=row) (t0:=aa (dz names sec)) (t2:=t2) (by have:=hr.len;omega) (sec (q9 row)) re lo (x6:=x6) hR hL (by omega) (by omega);have un:d9 st (eM 5) (uB c) ((row::rows).map aL) [aa (dz names sec),aa (.str start),t2,aa (.obj kR),aa (.obj kL),x5,x6] S=M.bind (uB c [aa (dz names sec),aa (.str start),t2,aa (.obj kR),aa (.obj kL),aa (aL row),x6]) (λx=>match x with
    |.nx ρ2=>d9 st (eM 5) (uB c) (rows.map aL) ρ2
    |.ct ρ2=>d9 st (eM 5) (uB c) (rows.map aL) ρ2
    |.bk ρ2=>M.pure (.nx ρ2)
    |.rt t=>M.pure (.rt t)) S:=by
    show d9 _ _ _ (aL row::rows.map aL) _ S=_
    conv=>lhs;unfold d9
    rw[if_pos (eY S (mD.refl _ _ _))];rfl
   have hb:uB c [aa (dz names sec),aa (.str start),t2,aa (.obj kR),aa (.obj kL),aa (aL row),x6] S=d9 (λ_=>True) (eM 6) (tZ c) ((sec (q9 row)).map .str) [aa (dz names sec),aa (.str start),t2,aa (.obj kR),aa (.obj kL),aa (aL row),x6] S:=by
    have hi:iK (e2 je (af 0) (e2 cv (af 5) (MF.e1 tW (eC (.int 1))))) [aa (dz names sec),aa (.str start),t2,aa (.obj kR),aa (.obj kL),aa (aL row),x6] S=.ok ((sec (q9 row)).map .str,λ_=>True) S:=by
     have hd:=UL (S:=S) (sec:=sec) vZ;have ha:=z86 (S:=S) hr.ne;unfold iK;rw[eR,vF,eR];simp only[wK,bX,eR,vF,c8,AZ,HW,tW,ha,hd,z2z]
    unfold uB eW;rw[eR,hi]
   rw[un,eR,hb];unfold vX;cases q:wO start row (sec (q9 row)) re lo with
   | none=>
     rw[q] at e1;refine⟨S1,x5,y6,wR,?_⟩;simp only at e1 ⊢;rw[e1];rfl
   | some p=>
     obtain⟨sg,lo1⟩:=p;rw[q] at e1;simp only at e1;obtain⟨e1,g1,g2⟩:=e1;obtain⟨a1,a2,a3,⟨u,a4⟩,_,_,_⟩:=I0 _ re lo (ok.sub _ vZ) h1 hr h3 h4 sg lo1 q;have Ox:re.length<=sg.length:=by rw[a4];simp
     obtain⟨S2,z5,z6,sm2,e2⟩:=U6 ok rows sg lo1 (x5:=aa (aL row)) (x6:=y6) (t2:=t2) (start:=start) (S:=S1) g1 g2 a1 (λr hr=>(h2 r (ao _ hr)).mono Ox) a2 a3 (λS' h=>eY S' (wR.trans h));refine⟨S2,z5,z6,wR.trans sm2,?_⟩;rw[e1];exact e2
theorem FI{t:T}{ts:List T}(h:c6 S t=aa ts):nW t S=.ok (!ts.isEmpty) S:=by
 cases t with
 |lst us=>cases h;rfl
 | obj k=>
   have:jV S (.obj k)=aa ts:=h;unfold nW;simp[this]
 |_=>simp[c6] at h
theorem U7{kR:Nat}{start:Str}(ok:SecOk names sec):∀(n:Nat) (rows:List (List Str)) (re:List Str) (m:Nat) {tR:T} {x4 x5 x6:Option T} {S:bG},n+1<=m->names.length+2<=n+re.length->S[kR]?=aa (.dic (dU re))->(∀S',(∀j,j<S.length->j≠kR->S'[j]?=S[j]?)->c6 S' tR=aa (rows.map aL))->m6 names re->(∀r∈rows,rG names re r) ->
  ∃S' ρ',kd (vL c) (uC c) m [aa (dz names sec),aa (.str start),aa tR,aa (.obj kR),x4,x5,x6] S=(if sD sec start n rows re=[] then .ok (.nx ρ') S' else .ok (.rt (aL (sD sec start n rows re))) S')/\(∀j,j<kR->S'[j]?=S[j]?)/\S.length<=S'.length
 | 0,rows,re,m,tR,x4,x5,x6,S,_,hf,_,_,h1,_=>by
   have:=xX re names h1.nd h1.sub;omega
 |n+1,rows,re,0,tR,x4,x5,x6,S,hm,_,_,_,_,_=>by omega
 | n + 1, rows,re,m+1,tR,x4,x5,x6,S,hm,hf,hR,hT,h1,h2=>by
   have hl:=hT S λ_ _ _=>rfl;have U8:=(aw.mp hR).1;have hw:vL c [aa (dz names sec),aa (.str start),aa tR,aa (.obj kR),x4,x5,x6] S=.ok (!rows.isEmpty) S:=by
    simp[vL,FI hl]
   have un:kd (vL c) (uC c) (m+1) [aa (dz names sec),aa (.str start),aa tR,aa (.obj kR),x4,x5,x6] S=if(!rows.isEmpty)=true then M.bind (uC c [aa (dz names sec),aa (.str start),aa tR,aa (.obj kR),x4,x5,x6]) (λx=>match x with
    |.nx ρ2=>kd (vL c) (uC c) m ρ2
    |.ct ρ2=>kd (vL c) (uC c) m ρ2
    |.bk ρ2=>M.pure (.nx ρ2)
    |.rt t=>M.pure (.rt t)) S else .ok (.nx [aa (dz names sec),aa (.str start),aa tR,aa (.obj kR),x4,x5,x6]) S:=by
    conv=>lhs;unfold kd
    rw[eR,hw];simp only
    split<;>rfl
   rw[un];unfold sD;by_cases z:rows=[]
   .subst z
    exact⟨S,[aa (dz names sec),aa (.str start),aa tR,aa (.obj kR),x4,x5,x6],by simp,λ_ _=>rfl,aB _⟩
   .have z':rows.isEmpty=false:=by simpa using z
    simp only[z',Bool.not_false,if_true,if_neg z];rw[eR];have hL:(S++[bY.lst []])[S.length]?=aa (.lst (([]:List (List Str)).map aL)):=qZ;have hR':(S++[bY.lst []])[kR]?=aa (.dic (dU re)):=nC hR;have U9:∀S',mD (S++[bY.lst []]) S' kR S.length->c6 S' tR=aa (rows.map aL):=λS' sm=>hT S' λj hj mZ=>by
     rw[sm.same j mZ (by omega),aD hj]
    obtain⟨S1,y5,y6,sm,e⟩:=U6 (c:=c) (kR:=kR) (kL:=S.length) (start:=start) (t2:=aa tR) (st:=λS'=>c6 S' tR=aa (rows.map aL)) ok rows re [] (x5:=x5) (x6:=x6) (S:=S++[.lst []]) hR' hL h1 h2 (by intro r hr;cases hr) (dJ _) U9;have v5:∀j,j<kR->S1[j]?=S[j]?:=λj hj=>by rw[sm.same j (by omega) (by omega),aD (by omega)]
    have qW:S1.length=S.length+1:=by rw[sm.len];simp
    have FJ:eW (iL (af 2)) (eM 5) (uB c) [aa (dz names sec),aa (.str start),aa tR,aa (.obj kR),aa (.obj S.length),x5,x6] (S++[.lst []])=d9 (λS'=>c6 S' tR=aa (rows.map aL)) (eM 5) (uB c) (rows.map aL) [aa (dz names sec),aa (.str start),aa tR,aa (.obj kR),aa (.obj S.length),x5,x6] (S++[.lst []]):=by
     have:=U9 _ (mD.refl _ _ _);unfold eW;simp[this]
    cases q:vX sec start rows re [] with
    | error row=>
      rw[q] at e;have hb:uC c [aa (dz names sec),aa (.str start),aa tR,aa (.obj kR),x4,x5,x6] S=.ok (.rt (aL row)) S1:=by
       simp[uC,FJ,e]
      have mZ:=(h2 row (Ja _ _ _ q)).ne;refine⟨S1,[],?_,v5,by omega⟩;rw[hb,if_neg mZ];rfl
    | ok p=>
      obtain⟨il,lo⟩:=p;rw[q] at e;obtain⟨e,g1,g2⟩:=e;have hb:uC c [aa (dz names sec),aa (.str start),aa tR,aa (.obj kR),x4,x5,x6] S=.ok (.nx [aa (dz names sec),aa (.str start),aa (.obj S.length),aa (.obj kR),aa (.obj S.length),y5,y6]) S1:=by
       simp[uC,FJ,e]
      obtain⟨a1,a2,a3,⟨u,a4⟩,⟨v,a5,FH⟩,_,_⟩:=I_ ok.sub rows re [] h1 h2 (by intro r hr;cases hr) (dJ _) il lo q;rw[bU] at a5;have U_:∀S',(∀j,j<S1.length->j≠kR->S'[j]?=S1[j]?)->c6 S' (.obj S.length)=aa (lo.map aL):=λS' h=>lQ (by rw[h S.length (by omega) (by omega)];exact g2);rw[hb];rcases FH with y | y
      .rw [y] at a5
       subst a5;have r0:sD sec start n [] il=[]:=by cases n<;>simp[sD]
       have ES:=U_ S1 λ_ _ _=>rfl;cases m with
       |zero=>omega
       | succ m=>
         refine⟨S1,[aa (dz names sec),aa (.str start),aa (.obj S.length),aa (.obj kR),aa (.obj S.length),y5,y6],?_,v5,by omega⟩;rw[if_pos r0];show kd _ _ (m+1) _ S1=_;unfold kd;have hw1:vL c [aa (dz names sec),aa (.str start),aa (.obj S.length),aa (.obj kR),aa (.obj S.length),y5,y6] S1=.ok false S1:=by
          simp[vL,FI ES]
         rw[eR,hw1];rfl
      .obtain⟨S2,ρ2,w1,w2,w3⟩:=U7 ok n lo il m (tR:=.obj S.length) (x4:=aa (.obj S.length)) (x5:=y5) (x6:=y6) (S:=S1) (start:=start) (kR:=kR) (by omega) (by omega) g1 U_ a1 a2
       exact⟨S2,ρ2,w1,λj hj=>(w2 j hj).trans (v5 j hj),by omega⟩
end DN
namespace DN
open PySem L2 MF
variable {c:Cl}{S:bG}{ρ:Ev}{sec:Str->List Str}{names:List Str}
noncomputable def oW(sec:Str->List Str)(names:List Str)(start:Str):List Str:=sD sec start (names.length+1) [[start]] [start]
theorem OH{start:Str}(h:start∈names):m6 names [start]/\∀r∈[[start]],rG names [start] r:=by
 refine⟨⟨by simp,λx hx=>by rw[aC.mp hx];exact h⟩,λr hr=>?_⟩;rw[aC.mp hr];exact⟨by simp,λx hx=>by rw[aC.mp hx];exact h,aB _⟩
theorem z87{start:Str}(ok:SecOk names sec)(h:start∈names)(hp:pO sec start start):oW sec names start≠[]:=by
 obtain⟨a,b⟩:=OH h;refine UH ok.sub hp (names.length+1) [[start]] [start] (by simp) a b (by simp) λu hu=>.inr ⟨[start],by simp,?_⟩;rw[aC.mp hu];rfl
theorem z5b{start:Str}(ok:SecOk names sec)(h:start∈names):(∀x∈oW sec names start,x∈names)/\(oW sec names start).length<=names.length:=by
 obtain⟨a,b⟩:=OH h;exact UJ ok.sub _ _ _ a b
theorem U'{S S':bG}(h:∀j,j<S.length->S'[j]?=S[j]?)(hl:S.length<=S'.length):S'.take S.length=S:=by
 apply jx;intro j;rw[List.getElem?_take];by_cases z:j<S.length
 .rw[if_pos z];exact h j z
 .rw[if_neg z,ik (by omega)]
theorem Zcz{start:Str}(ok:SecOk names sec)(hs:start∈names):IB c [dz names sec,.str start] S=.ok (aL (oW sec names start)) S:=by
 obtain⟨a,b⟩:=OH hs;have hd:Ba (af 1) (eC (.bl true)) [aa (dz names sec),aa (.str start),aa (.lst [.lst [.str start]]),ae,ae,ae,ae] S=.ok (.obj S.length) (S++[.dic (dU [start])]):=by
  simp[Ba,eE,dU,Bx]
 have nN:=ok.nN;obtain⟨S',ρ',e,k1,k2⟩:=U7 (c:=c) (kR:=S.length) (start:=start) ok (names.length+1) [[start]] [start] 1000 (tR:=.lst [.lst [.str start]]) (x4:=ae) (x5:=ae) (x6:=ae) (S:=S++[.dic (dU [start])]) (by omega) (by simp) qZ (λ_ _=>rfl) a b;have keep:∀j,j<S.length->S'[j]?=S[j]?:=λj hj=>by rw[k1 j hj,aD hj]
 have hl:S.length<=S'.length:=by simp at k2;omega
 have e':uw (vL c) (uC c) [aa (dz names sec),aa (.str start),aa (.lst [.lst [.str start]]),aa (.obj S.length),ae,ae,ae] (S++[.dic (dU [start])])=_:=e;have run:cH 7 (IA c) [dz names sec,.str start] S=.ok (aL (oW sec names start)) S':=by
  by_cases z:oW sec names start=[]
  .have z':sD sec start (names.length+1) [[start]] [start]=[]:=z
   rw[if_pos z'] at e';rw[z];simp[IA,hd,e',aL]
  .have z':¬sD sec start (names.length+1) [[start]] [start]=[]:=z
   rw[if_neg z'] at e';simp[IA,hd,e'];rfl
 exact HX run (U' keep hl) (z8s _)
theorem Va:∀(ls:List Nat),ls≠[]->∃i,Be ls i
 |[],h=>absurd rfl h
 | [n],_=>⟨0,n,rfl,λj k e=>by
   cases j with
   |zero=>simp at e;subst e;exact⟨aB _,λh=>absurd h (dh _)⟩
   |succ j=>simp at e⟩
 | n::m::r,_=>by
   obtain⟨i,k,ek,hk⟩:=Va (m::r) (by simp);by_cases z:k<n
   .refine⟨i+1,k,by simpa using ek,λj u eu=>?_⟩
    cases j with
    |zero=>simp at eu;subst eu;exact⟨by omega,λ_=>z⟩
    | succ j=>
      have:=hk j u (by simpa using eu);exact⟨this.1,λh=>this.2 (by omega)⟩
   .refine⟨0,n,rfl,λj u eu=>?_⟩
    cases j with
    |zero=>simp at eu;subst eu;exact⟨aB _,λh=>absurd h (dh _)⟩
    | succ j=>
      have:=hk j u (by simpa using eu);exact⟨by omega,λh=>absurd h (zY _)⟩
structure OI(sec:Str->List Str)(names ring:List Str):Prop where
 ne:ring≠[]
 of:∃n∈names,ring=oW sec names n
 min:∀n∈names,oW sec names n≠[]->ring.length<=(oW sec names n).length
theorem zzj(ok:SecOk names sec)(hex:∃n∈names,oW sec names n≠[]):∃ring,Fe c [dz names sec] S=.ok (aL ring) S/\OI sec names ring:=by
 have nN:=ok.nN;have hk:Fd c [aa (dz names sec),ae] S=.ok (names.map .str,λ_=>True) S:=by
  have:(names.map λn=>((dI n:cg),T.dic (dU (sec n)))).map (λp=>kT p.1)=names.map T.str:=by simp[kT]
  simp[Fd,iK,dz,kT]
 have c1:=Md (ρ:=[aa (dz names sec),ae]) (S:=S) (js:=[0]) (it:=Fd c) (te:=IC c) (ts:=names.map .str) (st:=λ_=>True) (f:=λt=>match t with|.str n=>aL (oW sec names n) | _=>.bq) hk trivial (by simp;omega) (λt ht=>by
  obtain⟨n,hn,rfl⟩:=au.mp ht;simp[IC,Zcz ok hn])
 rw[bQ] at c1;have c1:k_ 1 [0] (Fd c) (eM 0) kG (IC c) iu [aa (dz names sec),ae] S=.ok (.lst (names.map λn=>aL (oW sec names n))) S:=c1;have c2:=A6 (ρ:=[aa (dz names sec),aa (.lst (names.map λn=>aL (oW sec names n)))]) (S:=S) (js:=[]) (it:=M0 c) (tc:=M2 c) (te:=MZ c) (ts:=names.map λn=>aL (oW sec names n)) (st:=λS'=>c6 S' (.lst (names.map λn=>aL (oW sec names n)))=aa (names.map λn=>aL (oW sec names n)))
  (p:=λt=>match t with|.lst us=>!us.isEmpty | _=>false) (f:=λt=>t) (by simp[M0]) rfl (by simp;omega) (λt ht=>by
   obtain⟨n,hn,rfl⟩:=au.mp ht;simp[M2,aL]) (λt ht _=>by simp[MZ])
 have ef:((names.map λn=>aL (oW sec names n)).filter (λt=>match t with|.lst us=>!us.isEmpty | _=>false)).map (λt=>t)=((names.map (oW sec names)).filter λr=>!r.isEmpty).map aL:=by
  rw[Dz,dP,dP,bQ];congr 1;refine jw λn _=>?_;simp[aL]
 rw[ef] at c2;generalize OJ:((names.map (oW sec names)).filter λr=>!r.isEmpty)=rs at c2;have mem:∀r∈rs,r≠[]/\∃n∈names,r=oW sec names n:=λr hr=>by
  rw[<- OJ] at hr;obtain⟨h1,h2⟩:=bF.mp hr;obtain⟨n,hn,rfl⟩:=au.mp h1;exact⟨by simpa using h2,n,hn,rfl⟩
 have rne:rs≠[]:=by
  obtain⟨n,hn,h⟩:=hex;intro z;have:oW sec names n∈rs:=by rw[<- OJ];exact bF.mpr ⟨au.mpr ⟨n,hn,rfl⟩,by simpa using h⟩
  rw[z] at this;cases this
 have FK:Ih S (rs.map aL)=aa (rs.map fF):=by
  unfold Ih;exact Jd (k:=fF) λr _=>by simp[aL]
 have qV:=Va (rs.map fF) (by simpa using rne);have hm:∃ring∈rs,vJ (.lst (rs.map aL)) S=.ok (aL ring) S/\∀r∈rs,ring.length<=r.length:=by
  obtain⟨n,en,OK⟩:=qV.choose_spec;rw[cT] at en;obtain⟨ring,er,el⟩:=bw.mp en;refine⟨ring,kX er,?_,λr hr=>?_⟩
  case refine_2=>
   obtain⟨j,hj,e⟩:=lE hr;have:=(OK j r.length (by rw[cT,a_ hj,e];rfl)).1;omega
  have e2:(rs.map aL)[qV.choose]?=aa (aL ring):=by rw[cT,er];rfl
  unfold vJ;simp only[Ma,FK,dif_pos qV,e2]
 obtain⟨ring,hr,em,hmn⟩:=hm;refine⟨ring,?_,(mem ring hr).1,(mem ring hr).2,λn hn h=>hmn _ (by rw[<- OJ];exact bF.mpr ⟨au.mpr ⟨n,hn,rfl⟩,by simpa using h⟩)⟩;simp[Fe,TH,c1,c2,em]
end DN
namespace DN
open PySem L2 MF
variable {c:Cl}{S:bG}{ρ:Ev}{sec:Str->List Str}{names:List Str}
theorem Vb:∀(zs:List Str),(∀z∈zs,(cR z).length<=30)->((iC (zs.map cx)).map (·.length)).sum<=30*zs.length/\(iC (zs.map cx)).length=zs.length
 |[],_=>by simp[iC]
 | z::zs,h=>by
   obtain⟨a,b⟩:=Vb zs λx hx=>h x (ao _ hx);have:=h z (az ..);simp only[ay,iC,gf,B6,aY];omega
theorem zv6{zs:List Str}(h:∀z∈zs,(cR z).length<=30)(hl:zs.length<=24):(gf (.list (zs.map cx))).length<=800:=by
 obtain⟨a,b⟩:=Vb zs h;have:=listText_len_le (iC (zs.map cx));simp only[gf];omega
theorem z88{x:Str}{A B:List Str}(h:x∉A):sy (.str x) ((A++x::B).map T.str)=aa A.length:=by
 have go:∀(A B:List Str),x∉A->((A++x::B).map V.str).findIdx? (λy=>qG y (.str x))=aa A.length:=by
  intro A
  induction A with
  | nil=>
    intro B _;rw[bU,ay,uT];simp[qG]
  | cons a A ih=>
    intro B h;have h1:a≠x:=λe=>h (by simp[e]);have:=ih B λz=>h (ao _ z);rw[d7,ay,uT,this];simp[qG,h1]
 unfold sy;rw[Mh];simp only[toV];rw[if_pos (by rw[Mi];rfl),go A B h]
theorem Vc{k:Nat}{left:List Str}{x:Str}(hk:S[k]?=aa (.lst (left.map .str)))(hx:x∈left)(hl:left.length<=1000):AY (.obj k) [.str x] S=.ok .bq (S.set k (.lst ((left.erase x).map .str))):=by
 obtain⟨A,B,rfl,hA⟩:=List.eq_append_cons_of_mem hx;have e1:(A++x::B).erase x=A++B:=by rw[List.erase_append_right _ hA,List.erase_cons_head]
 have e2:((A++x::B).map T.str).eraseIdx A.length=(A++B).map T.str:=by
  rw[aK,ay,mH (by simp),ba,hZ,rq,aK]
 have tN:((A++x::B).map T.str).length<=1000:=by rw[ba];exact hl
 unfold AY;simp only[gw,hk,z88 hA,if_pos tN,e2,e1]
structure OM(names:List Str)(sec:Str->List Str):Prop extends SecOk names sec where
 sm:∀x∈names,(cR x).length<=30
 FL:names.length<=24
theorem Vd{kl kr h:Nat}{t1:Option T}(ok:OM names sec):∀(n:Nat) (left row:List Str) (m:Nat) {x5:Option T} {S:bG},left.length=n->n+1<=m->left.Nodup->(∀x∈left,x∈names)->S[kl]?=aa (.lst (left.map .str))->S[kr]?=aa (.lst (row.map .str))->kl≠kr->row.length+n<=900 ->
  (∀res,topo sec n left row=aa res->∃S' qr,kd (uD c) (t8 c) m [aa (.obj h),t1,aa (dz names sec),aa (.obj kl),aa (.obj kr),x5] S=.ok (.nx [aa (.obj h),t1,aa (dz names sec),aa (.obj kl),aa (.obj kr),qr]) S'/\S'[kr]?=aa (.lst (res.map .str))/\mD S S' kl kr) /\
  (topo sec n left row=ae->∃S' ring,kd (uD c) (t8 c) m [aa (.obj h),t1,aa (dz names sec),aa (.obj kl),aa (.obj kr),x5] S=.exc c.ring (aa [("ring",aL ring)]) S'/\mD S S' kl kr/\OI sec names ring)
 |n,left,row,0,x5,S,_,hm,_,_,_,_,_,_=>by omega
 | 0,left,row,m+1,x5,S,hl,_,_,_,rf,xZ,ne,_=>by
   have:left=[]:=fG hl;subst this;have hw:uD c [aa (.obj h),t1,aa (dz names sec),aa (.obj kl),aa (.obj kr),x5] S=.ok false S:=by
    simp[uD,FI (lQ rf)]
   refine⟨λres e=>?_,λe=>by cases e⟩;cases e;refine⟨S,x5,?_,xZ,mD.refl _ _ _⟩;unfold kd;rw[eR,hw];rfl
 | n + 1,left,row,m+1,x5,S,hl,hm,nd,mC,rf,xZ,ne,hr=>by
   have v7:left≠[]:=λe=>by rw[e] at hl;simp at hl
   have hw:uD c [aa (.obj h),t1,aa (dz names sec),aa (.obj kl),aa (.obj kr),x5] S=.ok true S:=by
    have:(left.map T.str).isEmpty=false:=by simpa using v7
    simp[uD,FI (lQ rf),this,v7]
   have un:kd (uD c) (t8 c) (m+1) [aa (.obj h),t1,aa (dz names sec),aa (.obj kl),aa (.obj kr),x5] S=M.bind (t8 c [aa (.obj h),t1,aa (dz names sec),aa (.obj kl),aa (.obj kr),x5]) (λx=>match x with
    |.nx ρ2=>kd (uD c) (t8 c) m ρ2
    |.ct ρ2=>kd (uD c) (t8 c) m ρ2
    |.bk ρ2=>M.pure (.nx ρ2)
    |.rt t=>M.pure (.rt t)) S:=by
    conv=>lhs;unfold kd
    rw[eR,hw];rfl
   rw[un,eR];have f100:=ok.nN;have ON:=xX left names nd mC;have ef:=zzi (c:=c) (sec:=sec) rf mC (by omega);unfold topo;cases q:left.find? (mm sec left) with
   | none=>
     rw[q] at ef;have hall:∀x∈left,∃f∈left,x∈sec f:=λx hx=>by
      have:=ee.mp q x hx;unfold mm at this;simpa using this
     obtain⟨s,hs,hp⟩:=zzh v7 hall;obtain⟨ring,er,sh⟩:=zzj (c:=c) (S:=S) ok.toSecOk ⟨s,mC s hs,z87 ok.toSecOk (mC s hs) hp⟩;obtain⟨n0,hn0,FO⟩:=sh.of;obtain⟨Ve,rs2⟩:=z5b ok.toSecOk hn0;rw[<- FO] at Ve rs2;have Eb:=zv6 (zs:=ring) (λz hz=>ok.sm z (Ve z hz)) (by have:=ok.FL;omega);have FP:ring.length<=1000/\(gf (.list (ring.map cx))).length<=800:=⟨by have:=ok.FL;omega,Eb⟩;refine⟨λres e=>(by cases e),λ_=>⟨S,ring,?_,mD.refl _ _ _,sh⟩⟩;have hb:t8 c [aa (.obj h),t1,aa (dz names sec),aa (.obj kl),aa (.obj kr),x5] S=.exc c.ring (aa [("ring",aL ring)]) S:=by
      have Vf:((c6 S (aL ring)).bind uv)=aa ring:=by simp[aL,IS]
      simp only[aL] at Vf;simp[t8,ef,mL,mK,Mt,er,aL,Vf,IS,FP]
     rw[hb]
   | some x=>
     rw[q] at ef;have hx:=dB q;have x8:=Vc rf hx (by omega);have BC:(S.set kl (.lst ((left.erase x).map .str)))[kr]?=aa (.lst (row.map .str)):=by rw[dW ne];exact xZ
     have lX:=vG (y:=.str x) BC (by simp;omega);have e1:row.map T.str++[T.str x]=(row++[x]).map .str:=by simp
     rw[e1] at lX;have BD:=m5 rf;have x9:=m5 BC;have hb:t8 c [aa (.obj h),t1,aa (dz names sec),aa (.obj kl),aa (.obj kr),x5] S=.ok (.nx [aa (.obj h),t1,aa (dz names sec),aa (.obj kl),aa (.obj kr),aa (.str x)]) ((S.set kl (.lst ((left.erase x).map .str))).set kr (.lst ((row++[x]).map .str))):=by
      simp only[aK,ay,gr] at lX ⊢;simp[t8,ef,mL,mK,BD,x8,x9,lX]
     rw[hb];have g1:((S.set kl (.lst ((left.erase x).map .str))).set kr (.lst ((row++[x]).map .str)))[kl]?=aa (.lst ((left.erase x).map .str)):=by rw[dW (bM ne)];exact kQ rf
     have g2:((S.set kl (.lst ((left.erase x).map .str))).set kr (.lst ((row++[x]).map .str)))[kr]?=aa (.lst ((row++[x]).map .str)):=kQ BC;have wR:mD S ((S.set kl (.lst ((left.erase x).map .str))).set kr (.lst ((row++[x]).map .str))) kl kr:=⟨by simp,λj h1 h2=>by rw[dW (bM h2),dW (bM h1)]⟩;obtain⟨a,b⟩:=Vd (h:=h) (t1:=t1) ok n (left.erase x) (row++[x]) m (x5:=aa (.str x)) (by rw[gE hx];omega) (by omega) (nd.erase x) (λy hy=>mC y (sP hy)) g1 g2 ne (by simp;omega);refine⟨λres e=>?_,λe=>?_⟩
     .obtain⟨S',qr,w1,w2,w3⟩:=a res e
      exact⟨S',qr,w1,w2,wR.trans w3⟩
     .obtain⟨S',ring,w1,w2,sh⟩:=b e
      exact⟨S',ring,w1,wR.trans w2,sh⟩
theorem zrz{h:Nat}{pl:List jr}{ps qs:List HP}(A:gB c S h pl ps)(nd:names.Nodup)(hq:qs.map (·.nm)=names)(hs:∀q∈qs,q∈ps/\q.w0.length+q.w1.length<=20)(ok:OM names (mR names qs)) :
  (∀res,topo (mR names qs) names.length names []=aa res->∃S',zw c [.obj h,aL names] S=.ok (.obj (S.length+1)) S'/\S'[S.length+1]?=aa (.lst (res.map .str))/\∀j,j<S.length->S'[j]?=S[j]?) /\
  (topo (mR names qs) names.length names []=ae->∃S' ring,zw c [.obj h,aL names] S=.exc c.ring (aa [("ring",aL ring)]) S'/\(∀j,j<S.length->S'[j]?=S[j]?)/\OI (mR names qs) names ring):=by
 have es:=z2w A nd hq hs ok.FL;have FL:=ok.FL;have e1:wH (aL names) S=.ok (.obj S.length) (S++[.lst (names.map .str)]):=by simp[wH,sr,aL]
 have cX:(S++[bY.lst (names.map .str)]).length=S.length+1:=by simp
 have g1:(S++[bY.lst (names.map .str)]++[.lst []])[S.length]?=aa (.lst (names.map .str)):=by rw[bO,xW];rfl
 have g2:(S++[bY.lst (names.map .str)]++[.lst []])[S.length+1]?=aa (.lst (([]:List Str).map .str)):=by rw[bO,n9];rfl
 obtain⟨a,b⟩:=Vd (c:=c) (kl:=S.length) (kr:=S.length+1) (h:=h) (t1:=aa (aL names)) ok names.length names [] 1000 (x5:=ae) (S:=S++[.lst (names.map .str)]++[.lst []]) rfl (by omega) nd (λx hx=>hx) g1 g2 (by omega) (by simp;omega);have keep:∀S',mD (S++[bY.lst (names.map .str)]++[.lst []]) S' S.length (S.length+1)->∀j,j<S.length->S'[j]?=S[j]?:=λS' sm j hj=>by
  rw[sm.same j (by omega) (by omega),bO,aD hj]
 refine⟨λres e=>?_,λe=>?_⟩
 .obtain⟨S',qr,w1,w2,w3⟩:=a res e
  have w1:uw (uD c) (t8 c) [aa (.obj h),aa (aL names),aa (dz names (mR names qs)),aa (.obj S.length),aa (.obj (S.length+1)),ae] (S++[.lst (names.map .str)]++[.lst []])=_:=w1;simp only[bO,d7,bU] at w1;refine⟨S',?_,w2,keep S' w3⟩;simp[zw,M3,es,e1,w1]
 .obtain⟨S',ring,w1,w3,sh⟩:=b e
  have w1:uw (uD c) (t8 c) [aa (.obj h),aa (aL names),aa (dz names (mR names qs)),aa (.obj S.length),aa (.obj (S.length+1)),ae] (S++[.lst (names.map .str)]++[.lst []])=_:=w1;simp only[bO,d7,bU] at w1;refine⟨S',ring,?_,keep S' w3,sh⟩;simp[zw,M3,es,e1,w1]
end DN
namespace DN
open PySem L2 MF
variable {c:Cl}{S:bG}{ρ:Ev}
theorem Jf{α:Type}(A B:List α)(p:α):(A++p::B).take (A.length+1)=A++[p]:=by
 rw[show A++p::B=(A++[p])++B by simp];exact List.take_left' (by simp)
theorem z5c{α:Type}(A B:List α)(p:α):(A++p::B).drop (A.length+1)=B:=by
 rw[show A++p::B=(A++[p])++B by simp];exact List.drop_left' (by simp)
abbrev pP:=Str×Str×T×Option Str×Bool×List Str×List Str×List Str×List Str
noncomputable def HP.core(p:HP):pP:=(p.nm,p.pl,p.dd,p.br,p.on,p.w0,p.w1,p.w2,p.w3)
noncomputable def Pc.fresh(p:Pc):pP:=(p.nm,p.pl,p.dd,ae,true,[],[],[],[])
noncomputable def Pc.full(p:Pc):pP:=(p.nm,p.pl,p.dd,ae,p.on,p.w0,p.w1,p.w2,p.w3)
theorem zzk{l:List HP}{m:List pP}(h:l.map HP.core=m):l.map (·.nm)=m.map (·.1):=by
 rw[<- h,bQ];rfl
theorem Jg{h1 h2:List HP}{p x:HP}(nd:((h1++p::h2).map (·.nm)).Nodup):(h1++p::h2).map (λq=>if q.nm=p.nm then x else q)=h1++x::h2:=by
 rw[aK,ay,if_pos rfl];rw[aK,ay,cq] at nd;obtain⟨_,n2,n3⟩:=nd;rw[cM] at n2;congr 1
 .refine(dj λq hq=>?_).trans (Gx _)
  rw[if_neg λe=>n3 q.nm (au.mpr ⟨q,hq,rfl⟩) p.nm (az ..) e];rfl
 .congr 1
  refine(dj λq hq=>?_).trans (Gx _);rw[if_neg λe=>n2.1 (au.mpr ⟨q,hq,e⟩)];rfl
theorem Vg{l:List HP}{A B:List pP}{x:pP}(h:l.map HP.core=A++x::B):∃h1 p h2,l=h1++p::h2/\h1.map HP.core=A/\p.core=x/\h2.map HP.core=B:=by
 obtain⟨h1,r,rfl,e1,e2⟩:=fL.mp h;obtain⟨p,h2,rfl,e3,e4⟩:=gh.mp e2;exact⟨h1,p,h2,rfl,e1,e3,e4⟩
noncomputable def o5(kind rule:Str)(n:Nat):List jr:=[⟨"hub",kind,rule,n+3⟩,⟨"side", "all", "hold",n+4⟩]
theorem Vh(l:List Str):HF (aL l) S=.ok (.tup (l.map T.str)) S:=rfl
theorem Zex:gB c (S++[.ins c.hall (qp S.length),.dic [],.dic []]) S.length [] []:=
 ⟨by rw[xW];rfl,by rw[n9];rfl,by rw[n9];rfl,(by intro q hq;cases hq),(by intro q hq;cases hq),(by intro q hq;cases hq),.nil,.nil⟩
def sE(S:bG)(t:T)(ts:List T):Prop:=∀S',(∀k,k<S.length->S'[k]?=S[k]?)->c6 S' t=aa ts
theorem Vi{ts:List T}:sE S (.lst ts) ts:=λ_ _=>rfl
theorem Vj{k:Nat}{ts:List T}(h:S[k]?=aa (.lst ts)):sE S (.obj k) ts:=λS' hk=>by
 rw[lQ];rw[hk k (aw.mp h).1];exact h
theorem sE.now{t:T}{ts:List T}(h:sE S t ts):c6 S t=aa ts:=h S λ_ _=>rfl
theorem zv7{ps:List Pc}{tv:T}{kind rule:Str}(hv:sE S tv (ps.map Pc.t))(nd:(ps.map (·.nm)).Nodup)(hl:ps.length<=24)(gX:∀p∈ps,p.pl = "hub" \/ p.pl = "side")(hw:∀p∈ps,p.w0.length<=900/\p.w1.length<=900/\p.w2.length<=900/\p.w3.length<=900) :
  ∃S' dZ,CD c [tv,.str kind,.str rule] S=.ok (.obj S.length) S'/\gB c S' S.length (o5 kind rule S.length) dZ/\dZ.map HP.core=ps.map Pc.full/\∀k,k<S.length->S'[k]?=S[k]?:=by
 have H0:=Zex (c:=c) (S:=S);have o1:=Uk H0 (nm := "hub") (k:=kind) (r:=rule) rfl (by decide);have H1:=H0.zH (nm := "hub") (k:=kind) (r:=rule);have o2:=Uk H1 (nm := "side") (k := "all") (r := "hold") (by simp) (by simp);have H2:=H1.zH (nm := "side") (k := "all") (r := "hold");generalize FG:((S++[bY.ins c.hall (qp S.length),.dic [],.dic []]).set (S.length+1) (.dic (n5 ([]++[⟨"hub",kind,rule,(S++[bY.ins c.hall (qp S.length),.dic [],.dic []]).length⟩])))++[.ins c.place [("kind",.str kind),("rule",.str rule)]])=S1 at o1 H1 o2 H2;have qW:S1.length=S.length+4:=by rw[<- FG];simp
 generalize IZ:(S1.set (S.length+1) (.dic (n5 ([]++[⟨"hub",kind,rule,(S++[bY.ins c.hall (qp S.length),.dic [],.dic []]).length⟩]++[⟨"side", "all", "hold",S1.length⟩])))++[.ins c.place [("kind",.str "all"),("rule",.str "hold")]])=S2 at o2 H2;have ep:([]++[⟨"hub",kind,rule,(S++[bY.ins c.hall (qp S.length),.dic [],.dic []]).length⟩]++[⟨"side", "all", "hold",S1.length⟩]:List jr)=o5 kind rule S.length:=by
  rw[qW];simp[o5]
 rw[ep] at H2;have vK:S2.length=S.length+5:=by rw[<- IZ];simp[qW]
 have zK:∀k,k<S.length->S2[k]?=S[k]?:=λk hk=>by
  have a1:S1[k]?=S[k]?:=by
   rw[<- FG,aD (by simp;omega),dW (by omega),aD hk]
  rw[<- IZ,aD (by simp;omega),dW (by omega),a1]
 have C1:=qq (m:=aj "open_place") S.length (by simp) (by simp);have Bd:=qq (m:=aj "hang") S.length (by simp) (by simp);have Vk:=qq (m:=aj "wish") S.length (by simp) (by simp);have hm4:=qq (m:=aj "switch") S.length (by simp) (by simp);obtain⟨ρ3,S3,f3,⟨x3,rfl⟩,FQ,H3,c3,k3⟩:=Cv (ρ:=[aa tv,aa (.str kind),aa (.str rule),aa (.obj S.length),ae]) (S:=S2) (it:=iL (af 0)) (g:=eM 4) (body:=MW c) (ts:=ps.map Pc.t) (st:=λS'=>c6 S' tv=aa (ps.map Pc.t)) (S1:=S2)
  (λpre ρ S'=>(∃x,ρ=[aa tv,aa (.str kind),aa (.str rule),aa (.obj S.length),x])/\∃dZ,gB c S' S.length (o5 kind rule S.length) dZ/\dZ.map HP.core=(ps.take pre.length).map Pc.fresh/\∀k,k<S.length->S'[k]?=S[k]?)
  (by simp[hv _ zK]) ⟨⟨_,rfl⟩,[],H2,rfl,zK⟩ (λpre t post ρ S' qe ⟨⟨x,hρ⟩,dZ,H,hc,hk⟩=>by
   subst hρ;obtain⟨A,B,rfl,hA,hB⟩:=fL.mp qe;obtain⟨p,B,rfl,rfl,hB⟩:=gh.mp hB;have cX:pre.length=A.length:=by rw[<- hA];simp
   have e1:(A++p::B).take pre.length=A:=by rw[cX];simp
   have e2:(A++p::B).take (pre++[p.t]).length=A++[p]:=by
    rw[aM,aV,cX];exact Jf ..
   rw[e1] at hc;have hn:p.nm∉dZ.map (·.nm):=by
    rw[zzk hc,bQ];rw[aK,ay,cq] at nd;intro hm;obtain⟨q,hq,e⟩:=au.mp hm;exact nd.2.2 q.nm (au.mpr ⟨q,hq,rfl⟩) p.nm (az ..) e
   have hL:dZ.length<24:=by
    have:dZ.length=A.length:=by have:=congrArg fF hc;simpa using this
    rw[aM,aY] at hl;omega
   obtain⟨pm,hpm⟩:∃pm,(o5 kind rule S.length).find? (λq=>decide (q.nm=p.pl))=aa pm:=by
    rcases gX p (by simp) with e | e
    .exact⟨⟨"hub",kind,rule,S.length+3⟩,by rw[e];simp[o5]⟩
    .exact⟨⟨"side", "all", "hold",S.length+4⟩,by rw[e];simp[o5]⟩
   have hh:=Uj H (dd:=p.dd) hn hpm hL;refine⟨hv _ hk,_,rfl,[aa tv,aa (.str kind),aa (.str rule),aa (.obj S.length),aa p.t],_,?_,⟨_,rfl⟩,_,H.FC (dd:=p.dd) (br:=ae) (q:=p.pl) hn,?_,λk oH=>?_⟩
   .simp[MW,Pc.t,H.ins,Bd,hh]
   .rw[e2,aK,aK,hc]
    rfl
   .have:=H.lt
    rw[aD (by simp;omega),dW (by omega)];exact hk k oH) (λ_ S' ⟨_,_,_,_,hk⟩=>hv S' hk)
 rw [ba,jS] at c3;obtain⟨ρ4,S4,f4,⟨x4,rfl⟩,BE,H4,c4,k4⟩:=Cv (ρ:=[aa tv,aa (.str kind),aa (.str rule),aa (.obj S.length),x3]) (S:=S3) (it:=iL (af 0)) (g:=eM 4) (body:=Iw c) (ts:=ps.map Pc.t) (st:=λS'=>c6 S' tv=aa (ps.map Pc.t)) (S1:=S3)
  (λpre ρ S'=>(∃x,ρ=[aa tv,aa (.str kind),aa (.str rule),aa (.obj S.length),x])/\∃dZ,gB c S' S.length (o5 kind rule S.length) dZ/\dZ.map HP.core=(ps.take pre.length).map Pc.full++(ps.drop pre.length).map Pc.fresh/\∀k,k<S.length->S'[k]?=S[k]?)
  (by simp[hv _ k3]) ⟨⟨_,rfl⟩,FQ,H3,by simpa using c3,k3⟩ (λpre t post ρ S' qe ⟨⟨x,hρ⟩,dZ,H,hc,hk⟩=>by
   subst hρ;obtain⟨A,B,rfl,hA,hB⟩:=fL.mp qe;obtain⟨p,B,rfl,rfl,hB⟩:=gh.mp hB;have cX:pre.length=A.length:=by rw[<- hA];simp
   have e1:(A++p::B).take pre.length=A:=by rw[cX];simp
   have e1':(A++p::B).drop pre.length=p::B:=by rw[cX];simp
   have e2:(A++p::B).take (pre++[p.t]).length=A++[p]:=by
    rw[aM,aV,cX];exact Jf ..
   have e2':(A++p::B).drop (pre++[p.t]).length=B:=by
    rw[aM,aV,cX];exact z5c ..
   rw[e1,e1',ay] at hc;rw[e2,e2'];obtain⟨h1,hp,h2,rfl,g1,g2,g3⟩:=Vg hc;have FR:hp∈h1++hp::h2:=by simp
   have w:=hw p (by simp);obtain⟨b1,b2,b3,b4,b5,b6,b7,b8,b9⟩:hp.nm=p.nm/\hp.pl=p.pl/\hp.dd=p.dd/\hp.br=ae/\hp.on=true/\hp.w0=[]/\hp.w1=[]/\hp.w2=[]/\hp.w3=[]:=by
    have:=g2;simp only[HP.core,Pc.fresh,fM] at this;exact this
   obtain⟨S5,w1,w2,w3,w4⟩:=Uo H FR (t0:=aL p.w0) (t1:=.tup (p.w1.map T.str)) (t2:=aL p.w2) (t3:=aL p.w3) (λS=>IV _) (λS=>ztx _) (λS=>IV _) (λS=>IV _)
    (by rw[b6];simp;omega) (by rw[b7];simp;omega) (by rw[b8];simp;omega) (by rw[b9];simp;omega)
   rw[Jg H.nd] at w2;rw[b1] at w1;have lz:=H.lz hp FR;have k5:∀k,k<S.length->S5[k]?=S[k]?:=λk oH=>by rw[w4 k (by omega)];exact hk k oH
   have c5:(vU hp p.w0 p.w1 p.w2 p.w3).core=(p.nm,p.pl,p.dd,ae,true,p.w0,p.w1,p.w2,p.w3):=by
    simp[vU,HP.core,b1,b2,b3,b4,b5,b6,b7,b8,b9]
   refine⟨hv _ hk,_,rfl,[aa tv,aa (.str kind),aa (.str rule),aa (.obj S.length),aa p.t],?_⟩;by_cases C3:p.on=true
   .refine⟨S5,?_,⟨_,rfl⟩,_,w2,?_,k5⟩
    .simp[Iw,Pc.t,H.ins,w2.ins,Vk,Vh,w1,C3]
    .rw[aK,ay,g1,g3,c5,aK]
     simp[Pc.full,C3]
   .have C3:p.on=false:=by simpa using C3
    have FT:vU hp p.w0 p.w1 p.w2 p.w3∈h1++vU hp p.w0 p.w1 p.w2 p.w3::h2:=by simp
    obtain⟨S6,s1,s2,s3,s4⟩:=Uq w2 FT false;rw[Jg w2.nd] at s2;have n6:(vU hp p.w0 p.w1 p.w2 p.w3).nm=p.nm:=b1;have i6:(vU hp p.w0 p.w1 p.w2 p.w3).i=hp.i:=rfl;rw[n6] at s1;refine⟨S6,?_,⟨_,rfl⟩,_,s2,?_,λk oH=>?_⟩
    .simp[Iw,Pc.t,H.ins,w2.ins,Vk,hm4,Vh,w1,C3,s1]
    .rw[aK,ay,g1,g3,aK]
     simp[Pc.full,C3,HP.core,vU,b1,b2,b3,b4,b5,b6,b7,b8,b9]
    .rw[s4 k (by rw[i6];omega)];exact k5 k oH) (λ_ S' ⟨_,_,_,_,hk⟩=>hv S' hk)
 rw[ba,jS,nG,gr,cW] at c4;refine⟨S4,BE,?_,H4,c4,k4⟩;have i0:=H0.ins;have i1:=H1.ins;simp[CD,TF,zv5,i0,i1,C1,o1,o2,f3,f4]
end DN
namespace DN
open PySem L2 MF
variable {c:Cl}{S:bG}{ρ:Ev}
def jY(x:Str):Prop:=eD x=true
theorem Jh:∀(l:List Str),md (l.map T.str)=aa (l.map cx)
 |[]=>by simp[md]
 |a::r=>by simp[md,pd,Jh r]
theorem x_:∀{l:List Str},(∀x∈l,jY x)->bj (l.map cx)=true
 |[],_=>by simp[bj]
 | a::r,h=>by
   simp only[ay,bj,bP,cG];exact⟨h a (az ..),x_ λx hx=>h x (ao _ hx)⟩
theorem Ji:∀(l:List Str),bB (l.map cx)=0
 |[]=>by simp[bB]
 |a::r=>by simp[bB,c_,Ji r]
theorem OO:∀(l m:List Str),eK (l.map cx) (m.map cx)=decide (l=m)
 |[],[]=>by simp[eK]
 |[],_::_=>by simp[eK]
 |_::_,[]=>by simp[eK]
 | a::r,b::s=>by
   simp only[ay,eK,cw,OO r s];rw[eF];simp
theorem C4{x y:T}{a b:iR}(hx:toV x=ae\/toV y=ae)(ha:oy S x=aa a)(hb:oy S y=aa b)(ca:a.canLay0=true)(cb:b.canLay0=true)(da:a.depth<=50):tO S x y=aa (cw a b):=by
 unfold tO;rcases hx with h | h
 .rw[h];simp[ha,hb,ca,cb,da]
 .rw[h]
  cases toV x<;>simp[ha,hb,ca,cb,da]
theorem z89(l:List Str):pd (aL l)=aa (.list (l.map cx)):=by simp[aL,pd,Jh]
theorem Jj{t:T}{l:List Str}(h:c6 S t=aa (l.map T.str)):oy S t=aa (.list (l.map cx)):=by
 cases t with
 |lst ts=>simp[c6] at h;subst h;simp[oy,pd,Jh]
 |obj k=>have:=Rv h;simp[oy,this,Jh]
 |_=>simp[c6] at h
theorem Vl{t:T}{ts:List T}(h:c6 S t=aa ts):toV t=ae:=by
 cases t<;>first | rfl | simp[c6] at h
theorem Vm{x y:T}{l m:List Str}(hx:c6 S x=aa (l.map T.str))(hy:c6 S y=aa (m.map T.str))(ol:∀z∈l,jY z)(om:∀z∈m,jY z):oz x y S=.ok (.bl (!decide (l=m))) S:=by
 have:=C4 (.inl (Vl hx)) (Jj hx) (Jj hy) (by simp only[bP];exact x_ ol) (by simp only[bP];exact x_ om) (by simp[c_,Ji]);simp[oz,this,cw,OO]
abbrev W3:=Str×List Str×List Str
def Pc.w(p:Pc):W3:=(p.nm,p.w2,p.w3)
noncomputable def HP.w(p:HP):W3:=(p.nm,p.w2,p.w3)
theorem C5{t:T}{ts:List T}(h:c6 S t=aa ts):jV S t=aa ts:=by
 cases t<;>first | exact h | simp[c6] at h
end DN
namespace DN
open PySem L2 MF
variable {c:Cl}{S:bG}
section
variable {w:DT}{b:DS}{n:Nat}{ρ ρ2:Ev}{C:ai}{fs:Option (List (Str×T))}{t:T}{S1 S2:bG}
theorem Zc1(h:w ρ S=.ok true S1)(e:b ρ S1=.ok (.nx ρ2) S2):kd w b (n+1) ρ S=kd w b n ρ2 S2:=by
 simp[kd,h,e]
theorem z9a(h:w ρ S=.ok true S1)(e:b ρ S1=.exc C fs S2):kd w b (n+1) ρ S=.exc C fs S2:=by
 simp[kd,h,e]
theorem Vn(h:w ρ S=.ok false S1):kd w b (n+1) ρ S=.ok (.nx ρ) S1:=by
 simp[kd,h]
end
noncomputable def OP(la lb:List Str):T:=.dic [(.inr "a",.dic (dU la)),(.inr "b",.dic (dU lb))]
local macro_rules | `(tactic| walk_at "r") => `(tactic| simp [uC, uB, tZ, vL, eW, d9, iK, eM, je, tW, nU, eE, OP, dU, dO, vy, kD, rz, m4, kb, gw, kF, c6, kT, nW, jV])
end DN
namespace DN
open PySem L2 MF
variable {c:Cl}{S:bG}{sec:Str->List Str}{names:List Str}
section
variable {h:Nat}{pl:List jr}{ps qs:List HP}(A:gB c S h pl ps)(hq:qs.map (·.nm)=(["a", "b"]:List Str))(hs:∀q∈qs,q∈ps/\q.w0.length+q.w1.length<=20)
include A hq hs
end
end DN
namespace DN
open PySem L2 MF
variable {c:Cl}{S:bG}{ρ:Ev}
theorem z5d:((cz 26).map λ(k:Nat)=>qY k).Nodup:=by decide +kernel
theorem Vo:∀k:Nat,k<26->jY (qY k):=by unfold jY;decide +kernel
theorem Vp{k m:Int}(h0:0<m)(h1:m<=26):jY (qY (k%m)):=by
 have a:=dq k (show m≠0 by omega);have b:=cB k h0;have:=Vo (k%m).toNat (by omega);rwa[Int.toNat_of_nonneg a] at this
theorem z9b{x cK:Int}(h0:0<cK)(h1:cK<=26):∀z∈sW x cK,jY z:=by
 intro z hz;unfold sW at hz
 split at hz
 .cases hz
 .split at hz
  .simp only[aH,cO,or_false] at hz
   rcases hz with rfl | rfl<;>exact Vp h0 h1
  .simp only[aC] at hz
   subst hz;exact Vp h0 h1
theorem Jk(x cK:Int):(sW x cK).length<=2:=by
 unfold sW
 split
 .simp
 .split<;>simp
structure Drawn(ps:List Pc):Prop where
 nd:(ps.map (·.nm)).Nodup
 len:ps.length<=13
 pl:∀p∈ps,p.pl = "hub" \/ p.pl = "side"
 w:∀p∈ps,p.w0.length<=2/\p.w1.length<=2/\p.w2.length<=2/\p.w3.length<=2
 pQ:∀p∈ps,jY p.nm
 uH:∀p∈ps,∀x,x∈p.w0\/x∈p.w1\/x∈p.w2\/x∈p.w3->jY x
theorem drawn(ns:List Int)(start cK:Int)(h0:0<=cK)(h1:cK<=13):Drawn (rF ns start cK):=by
 have mem:∀p∈rF ns start cK,∃k:Nat,k<cK.toNat/\p=kH ns start cK k:=λp hp=>by
  obtain⟨k,hk,rfl⟩:=au.mp hp;exact⟨k,eZ.mp hk,rfl⟩
 refine⟨?_,by simp[rF];omega,λp hp=>?_,λp hp=>?_,λp hp=>?_,λp hp x hx=>?_⟩
 .have e:(rF ns start cK).map (·.nm)=(cz cK.toNat).map λ(k:Nat)=>qY k:=by
   unfold rF;rw[bQ];rfl
  rw[e];have hs:((cz cK.toNat).map λ(k:Nat)=>qY k).Sublist ((cz 26).map λ(k:Nat)=>qY k):=by
   refine kZ _ ?_;rw[show(26:Nat)=cK.toNat+(26-cK.toNat) by omega,List.range_add];exact List.sublist_append_left ..
  exact z5d.sublist hs
 .obtain⟨k,_,rfl⟩:=mem p hp
  show zF _=_\/zF _=_;unfold zF
  split
  .exact .inr rfl
  .exact .inl rfl
 .obtain⟨k,_,rfl⟩:=mem p hp
  exact⟨Jk _ _,Jk _ _,Jk _ _,Jk _ _⟩
 .obtain⟨k,hk,rfl⟩:=mem p hp
  exact Vo k (by omega)
 .obtain⟨k,_,rfl⟩:=mem p hp
  have q:(0:Int)<cK+1:=by omega
  have q':cK+1<=26:=by omega
  rcases hx with h | h | h | h<;>exact z9b q q' x h
theorem Vq{dZ:List HP}{ps:List Pc}(h:dZ.map HP.core=ps.map Pc.full):dZ.length=ps.length:=by
 have:=congrArg fF h;simpa using this
theorem Jl{dZ:List HP}{ps:List Pc}(h:dZ.map HP.core=ps.map Pc.full){p:HP}(hp:p∈dZ):∃q∈ps,p.core=q.full:=by
 have:p.core∈dZ.map HP.core:=au.mpr ⟨p,hp,rfl⟩;rw[h] at this;obtain⟨q,hq,e⟩:=au.mp this;exact⟨q,hq,e.symm⟩
theorem zzl{js:List Nat}{it:DI}{te:DE}{ts:List T}{st:bG->Prop}{f:T->T}(pH:it ρ S=.ok (ts,st) S)(eY:st S)(hl:ts.length<=1000)
  (he:∀t∈ts,te (aa t::js.map λj=>(ρ[j]?).join) S=.ok (f t) S) :
  k_ 1 js it (eM 0) kG te vC ρ S=.ok (.obj S.length) (S++[.lst (ts.map f)]):=by
 unfold k_;rw[eR,pH];show(M.bind (rC _) vC) S=_;rw[eR];have:=Mc (tc:=kG) (te:=te) (caps:=js.map λj=>(ρ[j]?).join) (p:=λ_=>true) (f:=f) eY ts ae [] (by simpa using hl) (λ_ _=>rfl) (λt h _=>he t h);rw[dS.mpr (λ_ _=>rfl)] at this;have e2:rC (nX st (eM 0) kG te ts (aQ 1 ae++js.map λj=>(ρ[j]?).join) []) S=.ok (ts.map f) S:=by
  unfold rC;rw[show(aQ 1 (ae:Option T)++js.map λj=>(ρ[j]?).join)=ae::js.map λj=>(ρ[j]?).join from rfl,this];rfl
 simp only[e2];rfl
end DN
namespace DN
open PySem L2 MF
variable {c:Cl}{S:bG}{ρ:Ev}{sec:Str->List Str}{names:List Str}
noncomputable def Jm(prs:List (Str×Str))(left:List Str)(x:Str):Bool:=!(prs.any λp=>decide (p.2=x)&&decide (p.1∈left))
noncomputable def gP(p:Str×Str):T:=.tup [.str p.1,.str p.2]
structure Jn(names:List Str)(sec:Str->List Str)(prs:List (Str×Str)):Prop where
 iff:∀a∈names,∀b,b∈sec a↔(a,b)∈prs
 sub:∀p∈prs,p.1∈names/\p.2∈names
theorem z26{prs:List (Str×Str)}(r:Jn names sec prs){left:List Str}(hl:∀x∈left,x∈names)(x:Str):Jm prs left x=mm sec left x:=by
 unfold Jm mm;congr 1;rw[eF,gu,gu];constructor
 .rintro⟨⟨a,b⟩,hp,e⟩
  simp only[cG,decide_eq_true_eq] at e;obtain⟨rfl,ha⟩:=e;exact⟨a,ha,by simpa using(r.iff a (hl a ha) b).mpr hp⟩
 .rintro⟨f,hf,e⟩
  exact⟨(f,x),(r.iff f (hl f hf) x).mp (by simpa using e),by simp[hf]⟩
theorem Vr{x:Str}{y:T}{l:List Str}(h:jV S y=aa (l.map T.str)):uu (.str x) y S=.ok (.bl (decide (x∈l))) S:=by
 have:=SG (x:=x) h;simp[this]
theorem Vs(left:List Str)(x:Str):∀(prs:List (Str×Str)),(prs.map gP).findSome? (λt=>match t with|.tup [.str a,.str b]=>if(decide (b=x)&&decide (a∈left))=true then aa (T.bl false) else ae | _=>ae)=if(prs.any λp=>decide (p.2=x)&&decide (p.1∈left))=true then aa (.bl false) else ae
 |[]=>rfl
 | p :: r=>by
   have ih:=Vs left x r;rw[ay,lG,fU];cases z:(decide (p.2=x)&&decide (p.1∈left)) with
   |true=>simp only[gP,z];rfl
   | false=>
     simp only[gP,z,qw];exact ih
theorem Zc2{prs:List (Str×Str)}{left:List Str}{L:T}{x:Str}(hL:jV S L=aa (left.map T.str)):Cz c [.str x,L,.lst (prs.map gP)] S=.ok (.bl (Jm prs left x)) S:=by
 obtain⟨ρ',_,e⟩:=OC (S:=S) (st:=λS'=>c6 S' (.lst (prs.map gP))=aa (prs.map gP)) (body:=Bg c) (i:=3) (ρ0:=[aa (.str x),aa L,aa (.lst (prs.map gP)),ae])
  (p:=λt=>match t with|.tup [.str a,.str b]=>if(decide (b=x)&&decide (a∈left))=true then aa (.bl false) else ae | _=>ae) rfl (prs.map gP) [aa (.str x),aa L,aa (.lst (prs.map gP)),ae] (λ_=>rfl) (λt ht=>by
   obtain⟨⟨a,b⟩,hp,rfl⟩:=au.mp ht;have hi:=Vr (x:=a) hL;by_cases z:b=x
   .by_cases y:a∈left
    .simp[Bg,gP,z,y,hi]
    .simp[Bg,gP,z,y,hi]
   .simp[Bg,gP,z])
 have ef:=Vs left x prs;rw[ef] at e;have es:eW (iL (af 2)) (eM 3) (Bg c) [aa (.str x),aa L,aa (.lst (prs.map gP)),ae] S=d9 (λS'=>c6 S' (.lst (prs.map gP))=aa (prs.map gP)) (eM 3) (Bg c) (prs.map gP) [aa (.str x),aa L,aa (.lst (prs.map gP)),ae] S:=by
  unfold eW;rw[eR,A4,eR];rfl
 have e2:=es.trans e;unfold Jm;by_cases z:(prs.any λp=>decide (p.2=x)&&decide (p.1∈left))=true
 .rw[if_pos z] at e2
  rw[z];simp[Cz,MK,e2]
 .rw[if_neg z] at e2
  have z:(prs.any λp=>decide (p.2=x)&&decide (p.1∈left))=false:=by simpa using z
  rw[z];simp[Cz,MK,e2]
theorem Zey{x y:T}{l m:List Str}(hx:c6 S x=aa (l.map T.str))(hy:c6 S y=aa (m.map T.str))(ol:∀z∈l,jY z)(om:∀z∈m,jY z):fD x y S=.ok (.bl (decide (l=m))) S:=by
 have:=C4 (.inl (Vl hx)) (Jj hx) (Jj hy) (by simp only[bP];exact x_ ol) (by simp only[bP];exact x_ om) (by simp[c_,Ji]);simp[fD,this,cw,OO]
theorem Vt{kl kr:Nat}{t0:Option T}{prs:List (Str×Str)}(r:Jn names sec prs)(pQ:∀x∈names,jY x)(nN:names.length<=100):∀(n:Nat) (left row:List Str) (m:Nat) {x4:Option T} {S:bG},left.length=n->n+1<=m->left.Nodup->(∀x∈left,x∈names)->S[kl]?=aa (.lst (left.map .str))->S[kr]?=aa (.lst (row.map .str))->kl≠kr->row.length+n<=900 ->
  ∃ S',mD S S' kl kr/\(match topo sec n left row with
    |some res=>(∃zI,kd (uA c) (tX c) m [t0,aa (.lst (prs.map gP)),aa (.obj kl),aa (.obj kr),x4] S=.ok (.nx [t0,aa (.lst (prs.map gP)),aa (.obj kl),aa (.obj kr),zI]) S')/\S'[kr]?=aa (.lst (res.map .str))
    |none=>kd (uA c) (tX c) m [t0,aa (.lst (prs.map gP)),aa (.obj kl),aa (.obj kr),x4] S=.ok (.rt .bq) S')
 |n,left,row,0,x4,S,_,hm,_,_,_,_,_,_=>by omega
 | 0,left,row,m+1,x4,S,hl,_,_,_,rf,xZ,ne,_=>by
   have:left=[]:=fG hl;subst this;have mZ:=Vm (S:=S) (x:=.obj kl) (y:=.lst []) (l:=[]) (m:=[]) (lQ rf) rfl (by intro z hz;cases hz) (by intro z hz;cases hz);have hw:uA c [t0,aa (.lst (prs.map gP)),aa (.obj kl),aa (.obj kr),x4] S=.ok false S:=by simp[uA,mZ]
   refine⟨S,mD.refl _ _ _,⟨x4,?_⟩,xZ⟩;unfold kd;rw[eR,hw];rfl
 | n + 1,left,row,m+1,x4,S,hl,hm,nd,mC,rf,xZ,ne,hr=>by
   have v7:left≠[]:=λe=>by rw[e] at hl;simp at hl
   have OQ:∀x∈left,jY x:=λx hx=>pQ x (mC x hx);have mZ:=Vm (S:=S) (x:=.obj kl) (y:=.lst []) (l:=left) (m:=[]) (lQ rf) rfl OQ (by intro z hz;cases hz);have hw:uA c [t0,aa (.lst (prs.map gP)),aa (.obj kl),aa (.obj kr),x4] S=.ok true S:=by simp[uA,mZ,v7]
   have un:kd (uA c) (tX c) (m+1) [t0,aa (.lst (prs.map gP)),aa (.obj kl),aa (.obj kr),x4] S=M.bind (tX c [t0,aa (.lst (prs.map gP)),aa (.obj kl),aa (.obj kr),x4]) (λx=>match x with
    |.nx ρ2=>kd (uA c) (tX c) m ρ2
    |.ct ρ2=>kd (uA c) (tX c) m ρ2
    |.bk ρ2=>M.pure (.nx ρ2)
    |.rt t=>M.pure (.rt t)) S:=by
    conv=>lhs;unfold kd
    rw[eR,hw];rfl
   rw[un,eR];have ON:=xX left names nd mC;have hc:=A6 (ρ:=[t0,aa (.lst (prs.map gP)),aa (.obj kl),aa (.obj kr),x4]) (S:=S) (js:=[2,1]) (it:=Ip c) (tc:=Iq c) (te:=Io c) (ts:=left.map .str) (st:=λS'=>c6 S' (.obj kl)=aa (left.map .str)) (p:=λt=>match t with|.str x=>mm sec left x | _=>false) (f:=λt=>t)
    (by simp[Ip,lQ rf]) (lQ rf) (by simp;omega) (λt ht=>by
     obtain⟨x,hx,rfl⟩:=au.mp ht;have OR:jV S (.obj kl)=aa (left.map T.str):=by simp[jV,c6,rf]
     have:=Zc2 (c:=c) (prs:=prs) (x:=x) OR;rw[z26 r mC] at this;simp[Iq,this]) (λt ht _=>by simp[Io])
   have ef:((left.map T.str).filter (λt=>match t with|.str x=>mm sec left x | _=>false)).map (λt=>t)=(left.filter (mm sec left)).map T.str:=by
    rw[Dz,dP];rfl
   rw[ef] at hc;have hc:k_ 1 [2,1] (Ip c) (eM 0) (Iq c) (Io c) iu [t0,aa (.lst (prs.map gP)),aa (.obj kl),aa (.obj kr),x4] S=.ok (aL (left.filter (mm sec left))) S:=hc;have Jo:=Zey (S:=S) (x:=aL (left.filter (mm sec left))) (y:=.lst []) (l:=left.filter (mm sec left)) (m:=[]) rfl rfl (λz hz=>OQ z (bF.mp hz).1) (by intro z hz;cases hz);unfold topo;cases q:left.find? (mm sec left) with
   | none=>
     have fe:left.filter (mm sec left)=[]:=rL.mpr (ee.mp q);rw[fe] at hc Jo;refine⟨S,mD.refl _ _ _,?_⟩;have hb:tX c [t0,aa (.lst (prs.map gP)),aa (.obj kl),aa (.obj kr),x4] S=.ok (.rt .bq) S:=by
      simp[tX,hc,Jo]
     rw[hb];rfl
   | some x=>
     have hx:=dB q;obtain⟨fr,fe⟩:∃fr,left.filter (mm sec left)=x::fr:=by
      have:=List.head?_filter (p:=mm sec left) (l:=left);rw[q] at this;cases e:left.filter (mm sec left) with
      |nil=>rw[e] at this;cases this
      |cons y fr=>rw[e] at this;cases this;exact⟨fr,rfl⟩
     rw[fe] at hc Jo;have lX:=vG (y:=.str x) xZ (by simp;omega);have e1:row.map T.str++[T.str x]=(row++[x]).map .str:=by simp
     rw[e1] at lX;have BF:(S.set kr (.lst ((row++[x]).map .str)))[kl]?=aa (.lst (left.map .str)):=by rw[dW (bM ne)];exact rf
     have x8:=Vc BF hx (by omega);have BD:=m5 xZ;have x9:=m5 BF;have hix:cv (aL (x::fr)) (.int 0) S=.ok (.str x) S:=by simp[aL]
     have FU:cv (aL (x::fr)) (.int 0) (S.set kr (.lst ((row++[x]).map .str)))=.ok (.str x) (S.set kr (.lst ((row++[x]).map .str))):=by simp[aL]
     have hb:tX c [t0,aa (.lst (prs.map gP)),aa (.obj kl),aa (.obj kr),x4] S=.ok (.nx [t0,aa (.lst (prs.map gP)),aa (.obj kl),aa (.obj kr),aa (aL (x::fr))]) ((S.set kr (.lst ((row++[x]).map .str))).set kl (.lst ((left.erase x).map .str))):=by
      generalize Up:S.set kr (.lst ((row++[x]).map .str))=S1 at lX x8 x9 FU;simp[tX,hc,Jo,BD,hix,lX,x9,FU,x8]
     rw[hb];have g1:((S.set kr (.lst ((row++[x]).map .str))).set kl (.lst ((left.erase x).map .str)))[kl]?=aa (.lst ((left.erase x).map .str)):=kQ BF;have g2:((S.set kr (.lst ((row++[x]).map .str))).set kl (.lst ((left.erase x).map .str)))[kr]?=aa (.lst ((row++[x]).map .str)):=by rw[dW ne];exact kQ xZ
     have wR:mD S ((S.set kr (.lst ((row++[x]).map .str))).set kl (.lst ((left.erase x).map .str))) kl kr:=⟨by simp,λj h1 h2=>by rw[dW (bM h1),dW (bM h2)]⟩;obtain⟨S',sm,e⟩:=Vt (t0:=t0) r pQ nN n (left.erase x) (row++[x]) m (x4:=aa (aL (x::fr))) (by rw[gE hx];omega) (by omega) (nd.erase x) (λy hy=>mC y (sP hy)) g1 g2 ne (by simp;omega);exact⟨S',wR.trans sm,e⟩
theorem zv8{prs:List (Str×Str)}(r:Jn names sec prs)(pQ:∀x∈names,jY x)(nN:names.length<=100)(nd:names.Nodup) :
  CA c [aL names,.lst (prs.map gP)] S=.ok (match topo sec names.length names [] with|some res=>aL res | none=>.bq) S:=by
 have e1:wH (aL names) S=.ok (.obj S.length) (S++[.lst (names.map .str)]):=by simp[wH,sr,aL]
 have g1:(S++[bY.lst (names.map .str)]++[.lst []])[S.length]?=aa (.lst (names.map .str)):=by rw[bO,xW];rfl
 have g2:(S++[bY.lst (names.map .str)]++[.lst []])[S.length+1]?=aa (.lst (([]:List Str).map .str)):=by rw[bO,n9];rfl
 obtain⟨S',sm,e⟩:=Vt (c:=c) (kl:=S.length) (kr:=S.length+1) (t0:=aa (aL names)) r pQ nN names.length names [] 1000 (x4:=ae) (S:=S++[.lst (names.map .str)]++[.lst []]) rfl (by omega) nd (λx hx=>hx) g1 g2 (by omega) (by simp;omega);have keep:∀j,j<S.length->S'[j]?=S[j]?:=λj hj=>by
  rw[sm.same j (by omega) (by omega),bO,aD hj]
 have hl:S.length<=S'.length:=by rw[sm.len];simp
 have tk:=U' keep hl;cases q:topo sec names.length names [] with
 | none=>
   rw[q] at e;have w1:uw (uA c) (tX c) [aa (aL names),aa (.lst (prs.map gP)),aa (.obj S.length),aa (.obj (S.length+1)),ae] (S++[.lst (names.map .str)]++[.lst []])=_:=e;simp only[bO,d7,bU] at w1;have run:cH 5 (E8 c) [aL names,.lst (prs.map gP)] S=.ok .bq S':=by
    simp[E8,e1,w1]
   exact HX run tk (by simp)
 | some res=>
   rw[q] at e;obtain⟨⟨zI,e⟩,g⟩:=e;have w1:uw (uA c) (tX c) [aa (aL names),aa (.lst (prs.map gP)),aa (.obj S.length),aa (.obj (S.length+1)),ae] (S++[.lst (names.map .str)]++[.lst []])=_:=e;simp only[bO,d7,bU] at w1;have run:cH 5 (E8 c) [aL names,.lst (prs.map gP)] S=.ok (.obj (S.length+1)) S':=by
    simp[E8,e1,w1]
   exact Mf run tk (by omega) g λt ht=>by
    obtain⟨x,_,rfl⟩:=au.mp ht;simp
end DN
namespace DN
open PySem L2 MF
variable {c:Cl}{S:bG}{ρ:Ev}
noncomputable def yA(p:Pc):Bool:=decide (p.pl = "hub")&&p.on
noncomputable def cU(ps:List Pc):List Str:=(ps.filter yA).map (·.nm)
theorem z27{ps:List Pc}{tv:T}(hv:c6 S tv=aa (ps.map Pc.t))(hl:ps.length<=24):E7 c [tv] S=.ok (aL (cU ps)) S:=by
 have cc:=A6 (ρ:=[aa tv]) (S:=S) (js:=[]) (it:=Im c) (tc:=E6 c) (te:=Il c) (ts:=ps.map Pc.t) (st:=λS'=>c6 S' tv=aa (ps.map Pc.t)) (p:=λt=>match t with|.tup [_,.str q,_,_,.bl on]=>decide (q = "hub")&&on | _=>false) (f:=λt=>match t with|.tup (x::_)=>x | _=>.bq)
  (by simp[Im,hv]) hv (by simp;omega) (λt ht=>by
   obtain⟨p,_,rfl⟩:=au.mp ht;by_cases z:p.pl = "hub"
   .simp[E6,Pc.t,z]
   .simp[E6,Pc.t,z]) (λt ht _=>by
   obtain⟨p,_,rfl⟩:=au.mp ht;simp[Il,Pc.t])
 rw[dP,bQ] at cc;have cc:k_ 1 [] (Im c) (eM 0) (E6 c) (Il c) iu [aa tv] S=.ok (.lst ((ps.filter yA).map λp=>.str p.nm)) S:=cc;simp[E7,Tq,cc,aL,cU]
noncomputable def C6(names:List Str)(p:Pc):List (Str×Str):=(p.w0.filter λo=>decide (o∈names)).map λo=>(p.nm,o)
noncomputable def C7(names:List Str)(p:Pc):List (Str×Str):=(p.w1.filter λo=>decide (o∈names)).map λo=>(o,p.nm)
noncomputable def lY(names:List Str)(ps:List Pc):List (Str×Str):=ps.flatMap λp=>if p.nm∈names then C6 names p++C7 names p else[]
theorem Vu{js:List Nat}{l names:List Str}{f:Str->Str×Str}{it:DI}{tc:DT}{te:DE}{st:bG->Prop}(hl:l.length<=900)
  (hi:it ρ S=.ok (l.map T.str,st) S) (hs:st S) (ht:∀o,tc (aa (.str o)::js.map λj=>(ρ[j]?).join) S=.ok (decide (o∈names)) S) (he:∀o,te (aa (.str o)::js.map λj=>(ρ[j]?).join) S=.ok (gP (f o)) S) :
  k_ 1 js it (eM 0) tc te iu ρ S=.ok (.lst (((l.filter λo=>decide (o∈names)).map f).map gP)) S:=by
 have cc:=A6 (ρ:=ρ) (S:=S) (js:=js) (it:=it) (tc:=tc) (te:=te) (ts:=l.map T.str) (st:=st) (p:=λt=>match t with|.str o=>decide (o∈names) | _=>false) (f:=λt=>match t with|.str o=>gP (f o) | _=>.bq) hi hs (by simp;omega)
  (λt h=>by obtain⟨o,_,rfl⟩:=au.mp h;exact ht o) (λt h _=>by obtain⟨o,_,rfl⟩:=au.mp h;exact he o)
 rw[dP,bQ] at cc;rw[bQ];exact cc
theorem zt8{ps:List Pc}{names:List Str}{tv:T}(hv:sE S tv (ps.map Pc.t))(hl:ps.length<=24)(hw:∀p∈ps,p.w0.length<=20/\p.w1.length<=20) :
  Iu c [tv,aL names] S=.ok (.lst ((lY names ps).map gP)) S:=by
 have OS:∀x:bY,c6 (S++[x]) tv=aa (ps.map Pc.t):=λx=>hv _ λk hk=>aD hk;have hvx:=OS (.lst []);have run:cH 4 (MR c) [tv,aL names] S=.ok (.obj S.length) (S++[.lst ((lY names ps).map gP)]):=by
  obtain⟨ρ',S',e,⟨x,rfl⟩,hS,_⟩:=Cv (ρ:=[aa tv,aa (aL names),aa (.obj S.length),ae]) (S:=S++[.lst []]) (it:=iL (af 0)) (g:=eM 3) (body:=Ir c) (ts:=ps.map Pc.t) (st:=λS'=>c6 S' tv=aa (ps.map Pc.t)) (S1:=S++[.lst []])
   (λpre ρ S'=>(∃x,ρ=[aa tv,aa (aL names),aa (.obj S.length),x])/\S'=S++[.lst ((lY names (ps.take pre.length)).map gP)]/\(lY names (ps.take pre.length)).length<=40*pre.length)
   (by simp[hvx]) ⟨⟨_,rfl⟩,rfl,by simp[lY]⟩ (λpre t post ρ S' qe ⟨⟨x,hρ⟩,hS,hb⟩=>by
    subst hρ;obtain⟨A,B,rfl,hA,hB⟩:=fL.mp qe;obtain⟨p,B,rfl,rfl,hB⟩:=gh.mp hB;have cX:pre.length=A.length:=by rw[<- hA];simp
    have e1:(A++p::B).take pre.length=A:=by rw[cX];simp
    have e2:∀t:T,(A++p::B).take (pre++[t]).length=A++[p]:=λt=>by
     rw[aM,aV,cX];exact Jf ..
    rw[e1] at hS hb;rw[e2];have Pq:A.length<24:=by rw[aM,aY] at hl;omega
    have w:=hw p (by simp);have el:lY names (A++[p])=lY names A++(if p.nm∈names then C6 names p++C7 names p else[]):=by
     unfold lY;rw[List.flatMap_append];simp
    rw[el];generalize lY names A=acc at hS hb ⊢;subst hS;have hb2:acc.length<=920:=by omega
    refine⟨OS _,_,rfl,?_⟩;have l1:(C6 names p).length<=20:=by unfold C6;rw[ba];have:=ig (λo=>decide (o∈names)) p.w0;omega
    have l2:(C7 names p).length<=20:=by unfold C7;rw[ba];have:=ig (λo=>decide (o∈names)) p.w1;omega
    have Jp:∀(o:Str) (Z:bG),uu (.str o) (aL names) Z=.ok (.bl (decide (o∈names))) Z:=λo Z=>Vr rfl;have i0:∀Z,cv p.t (.int 0) Z=.ok (.str p.nm) Z:=λZ=>by simp[Pc.t]
    have i3:∀Z,cv p.t (.int 3) Z=.ok (.lst [aL p.w0,aL p.w1,aL p.w2,aL p.w3]) Z:=λZ=>by simp[Pc.t]
    have j0:∀Z,cv (.lst [aL p.w0,aL p.w1,aL p.w2,aL p.w3]) (.int 0) Z=.ok (aL p.w0) Z:=λZ=>by simp
    have j1:∀Z,cv (.lst [aL p.w0,aL p.w1,aL p.w2,aL p.w3]) (.int 1) Z=.ok (aL p.w1) Z:=λZ=>by simp
    have ls:∀(l:List Str) (Z:bG),c6 Z (aL l)=aa (l.map .str):=λl Z=>rfl;by_cases hc:p.nm∈names
    .have c1:=Vu (ρ:=[aa tv,aa (aL names),aa (.obj S.length),aa p.t]) (S:=S++[.lst (acc.map gP)]) (js:=[3,1]) (l:=p.w0) (names:=names) (f:=λo=>(p.nm,o)) (it:=MM c) (tc:=MN c) (te:=ML c) (st:=λS'=>c6 S' (aL p.w0)=aa (p.w0.map T.str)) (by omega)
      (by simp[MM,i3,j0,ls]) rfl (λo=>by simp[MN,Jp]) (λo=>by simp[ML,i0,gP])
     have c2:=λa2:List (Str×Str)=>Vu (ρ:=[aa tv,aa (aL names),aa (.obj S.length),aa p.t]) (S:=S++[.lst (a2.map gP)]) (js:=[3,1]) (l:=p.w1) (names:=names) (f:=λo=>(o,p.nm)) (it:=MP c) (tc:=MQ c) (te:=MO c) (st:=λS'=>c6 S' (aL p.w1)=aa (p.w1.map T.str)) (by omega)
      (by simp[MP,i3,j1,ls]) rfl (λo=>by simp[MQ,Jp]) (λo=>by simp[MO,i0,gP])
     have d1:((p.w0.filter λo=>decide (o∈names)).map λo=>(p.nm,o))=C6 names p:=rfl;have d2:((p.w1.filter λo=>decide (o∈names)).map λo=>(o,p.nm))=C7 names p:=rfl;rw[d1] at c1;rw[d2] at c2;rw[if_pos hc];generalize C6 names p=n1 at c1 l1 ⊢;generalize C7 names p=n2 at c2 l2 ⊢;have x1:=HY (S:=S++[.lst (acc.map gP)]) (k:=S.length) (y:=.lst (n1.map gP)) qZ rfl (by simp only[ba];omega);rw[Fx,<- aK] at x1;have x2:=HY (S:=S++[.lst ((acc++n1).map gP)]) (k:=S.length) (y:=.lst (n2.map gP)) qZ rfl (by simp only[ba,aM];omega);rw[Fx,<- aK] at x2;have k1:=m5 (S:=S++[.lst (acc.map gP)]) (k:=S.length) qZ;have k2:=m5 (S:=S++[.lst ((acc++n1).map gP)]) (k:=S.length) qZ;have c2:=c2 (acc++n1);have t_:=Jp p.nm (S++[.lst (acc.map gP)]);rw[decide_eq_true hc] at t_;refine⟨[aa tv,aa (aL names),aa (.obj S.length),aa p.t],S++[.lst ((acc++n1++n2).map gP)],?_,⟨_,rfl⟩,by rw[bO],?_⟩
     .generalize S++[bY.lst ((acc++n1++n2).map gP)]=Z2 at x2 ⊢
      generalize S++[bY.lst ((acc++n1).map gP)]=Z1 at x1 x2 k2 c2;generalize S++[bY.lst (acc.map gP)]=Z0 at c1 x1 k1 t_ ⊢;simp[Ir,i0,t_,k1,c1,x1,k2,c2,x2]
     .simp only[aM,aV]
      omega
    .have t_:=Jp p.nm (S++[.lst (acc.map gP)])
     rw[decide_eq_false hc] at t_;refine⟨[aa tv,aa (aL names),aa (.obj S.length),aa p.t],S++[.lst (acc.map gP)],?_,⟨_,rfl⟩,by rw[if_neg hc,cW],?_⟩
     .simp[Ir,i0,t_]
     .rw[if_neg hc,cW,aM,aV];omega) (λ_ _ ⟨_,hS,_⟩=>hS▸OS _)
  rw[ba,jS] at hS;subst hS;simp[MR,e]
 refine Mf run (by simp) (aB _) qZ λt ht=>?_;obtain⟨k,_,rfl⟩:=au.mp ht;exact A7 (by simp)
theorem Vv{names:List Str}{ps:List Pc}{a b:Str}:(a,b)∈lY names ps↔∃p∈ps,p.nm∈names/\((a=p.nm/\b∈p.w0/\b∈names)\/(b=p.nm/\a∈p.w1/\a∈names)):=by
 unfold lY;rw[List.mem_flatMap];constructor
 .rintro⟨p,hp,h⟩
  by_cases hn:p.nm∈names
  .rw[if_pos hn,bp] at h
   refine⟨p,hp,hn,?_⟩;rcases h with h | h
   .obtain⟨o,ho,e⟩:=au.mp h
    have:=bF.mp ho;cases e;exact .inl ⟨rfl,this.1,by simpa using this.2⟩
   .obtain⟨o,ho,e⟩:=au.mp h
    have:=bF.mp ho;cases e;exact .inr ⟨rfl,this.1,by simpa using this.2⟩
  .rw[if_neg hn] at h;cases h
 .rintro⟨p,hp,hn,h⟩
  refine⟨p,hp,?_⟩;rw[if_pos hn,bp];rcases h with⟨rfl,h1,h2⟩ | ⟨rfl,h1,h2⟩
  .exact .inl (au.mpr ⟨b,bF.mpr ⟨h1,by simpa using h2⟩,rfl⟩)
  .exact .inr (au.mpr ⟨a,bF.mpr ⟨h1,by simpa using h2⟩,rfl⟩)
end DN
namespace DN
open PySem L2 MF
variable {c:Cl}{S:bG}{ρ:Ev}{sec:Str->List Str}{names:List Str}
noncomputable def jK(p:HP):Bool:=decide (p.pl = "hub")&&p.on
theorem OT{dZ:List HP}{ps:List Pc}(h:dZ.map HP.core=ps.map Pc.full):(dZ.filter jK).map HP.core=(ps.filter yA).map Pc.full:=by
 have e1:(dZ.filter jK).map HP.core=(dZ.map HP.core).filter (λq:pP=>decide (q.2.1 = "hub")&&q.2.2.2.2.1):=by rw[dP];rfl
 have e2:(ps.filter yA).map Pc.full=(ps.map Pc.full).filter (λq:pP=>decide (q.2.1 = "hub")&&q.2.2.2.2.1):=by rw[dP];rfl
 rw[e1,e2,h]
theorem Vw{dZ:List HP}{ps:List Pc}(h:dZ.map HP.core=ps.map Pc.full):dZ.map (·.nm)=ps.map (·.nm):=by
 have:=congrArg (List.map λq:pP=>q.1) h;rw[bQ,bQ] at this;exact this
theorem Vx{dZ:List HP}{ps:List Pc}(h:dZ.map HP.core=ps.map Pc.full){q:Pc}(hq:q∈ps):∃p∈dZ,p.core=q.full:=by
 have:q.full∈ps.map Pc.full:=au.mpr ⟨q,hq,rfl⟩;rw[<- h] at this;obtain⟨p,hp,e⟩:=au.mp this;exact⟨p,hp,e⟩
theorem zL{p:HP}{q:Pc}(e:p.core=q.full):p.nm=q.nm/\p.w0=q.w0/\p.w1=q.w1:=by
 simp only[HP.core,Pc.full,fM] at e;exact⟨e.1,e.2.2.2.2.2.1,e.2.2.2.2.2.2.1⟩
theorem Vy{ps:List Pc}(nd:(ps.map (·.nm)).Nodup):∀p∈ps,∀q∈ps,p.nm=q.nm->p=q:=by
 induction ps with
 |nil=>intro p hp;cases hp
 | cons a r ih=>
   rw[ay,cM] at nd;intro p hp q hq e;rcases aH.mp hp with h1 | h1
   .rcases aH.mp hq with h2 | h2
    .rw[h1,h2]
    .exact absurd (au.mpr ⟨q,h2,by rw[<- e,h1]⟩) nd.1
   .rcases aH.mp hq with h2 | h2
    .exact absurd (au.mpr ⟨p,h1,by rw[e,h2]⟩) nd.1
    .exact ih nd.2 p h1 q h2 e
theorem Zc3{dZ:List HP}{ps:List Pc}(h:dZ.map HP.core=ps.map Pc.full)(nd:(ps.map (·.nm)).Nodup):Jn (cU ps) (mR (cU ps) (dZ.filter jK)) (lY (cU ps) ps):=by
 have hh:=OT h;refine⟨λa ha b=>?_,λ⟨a,b⟩ hp=>?_⟩
 .rw[U5,Vv]
  constructor
  .rintro⟨q,hq,hc⟩
   obtain⟨p,hp,e⟩:=Jl hh hq;obtain⟨e1,e2,e3⟩:=zL e;refine⟨p,(bF.mp hp).1,au.mpr ⟨p,hp,rfl⟩,?_⟩;rw[<- e1,<- e2,<- e3];exact hc
  .rintro⟨p,hp,hn,hc⟩
   obtain⟨p2,l_,e0⟩:=au.mp hn;have:=Vy nd p2 (bF.mp l_).1 p hp e0;subst this;obtain⟨q,hq,e⟩:=Vx hh l_;obtain⟨e1,e2,e3⟩:=zL e;refine⟨q,hq,?_⟩;rw[e1,e2,e3];exact hc
 .obtain⟨p,hp,hn,hc⟩:=Vv.mp hp
  rcases hc with⟨rfl,_,h2⟩ | ⟨rfl,_,h2⟩
  .exact⟨hn,h2⟩
  .exact⟨h2,hn⟩
theorem C8{ps:List Pc}(nd:(ps.map (·.nm)).Nodup):(cU ps).Nodup:=nd.sublist (kZ _ (um))
theorem C9(ps:List Pc):(cU ps).length<=ps.length:=by unfold cU;rw[ba];exact ig ..
theorem BG{ps:List Pc}{x:Str}(h:x∈cU ps):∃p∈ps,p.nm=x:=by
 obtain⟨p,hp,e⟩:=au.mp h;exact⟨p,(bF.mp hp).1,e⟩
theorem z9c:∀k:Nat,k<26->(cR (qY k)).length<=30:=by decide +kernel
structure BH(ps:List Pc):Prop where
 nd:(ps.map (·.nm)).Nodup
 len:ps.length<=24
 w:∀p∈ps,p.w0.length+p.w1.length<=20
 sm:∀p∈ps,(cR p.nm).length<=30
theorem Drawn.OU{ps:List Pc}(D:Drawn ps)(sm:∀p∈ps,(cR p.nm).length<=30):BH ps:=⟨D.nd,by have:=D.len;omega,λp hp=>by have:=D.w p hp;omega,sm⟩
theorem Vz{a b x:Str}(h:(sec x).Nodup):(oV sec a b x).Nodup:=by
 unfold oV
 split
 .rename_i e
  subst e
  split
  .exact h
  .rename_i hb
   exact cq.mpr ⟨h,by simp,λu hu v hv e=>hb (by rw[aC.mp hv] at e;exact e▸hu)⟩
 .exact h
theorem VA{nm x:Str}:∀(os:List Str) {sec:Str->List Str},(sec x).Nodup->((os.foldl (oA names nm) sec) x).Nodup
 |[],sec,h=>h
 |o::os,sec,h=>VA os (by unfold oA;split;exact Vz h;exact h)
theorem VB{nm x:Str}:∀(os:List Str) {sec:Str->List Str},(sec x).Nodup->((os.foldl (sZ names nm) sec) x).Nodup
 |[],sec,h=>h
 |o::os,sec,h=>VB os (by unfold sZ;split;exact Vz h;exact h)
theorem VC{x:Str}:∀(qs:List HP) {sec:Str->List Str},(sec x).Nodup->((qs.foldl (wQ names) sec) x).Nodup
 |[],sec,h=>h
 |q::qs,sec,h=>VC qs (VB _ (VA _ h))
theorem Zez{dZ:List HP}{ps:List Pc}(h:dZ.map HP.core=ps.map Pc.full)(D:BH ps):OM (cU ps) (mR (cU ps) (dZ.filter jK)):=by
 have hh:=OT h;have hl:=C9 ps;have dl:=D.len;have sub:∀a b,b∈mR (cU ps) (dZ.filter jK) a->b∈cU ps:=λa b hb=>by
  obtain⟨q,hq,hc⟩:=U5.mp hb;rcases hc with⟨_,_,h2⟩ | ⟨rfl,_,_⟩
  .exact h2
  .obtain⟨p,hp,e⟩:=Jl hh hq
   obtain⟨e1,_,_⟩:=zL e;exact au.mpr ⟨p,hp,e1.symm⟩
 refine⟨⟨λa ha b hb=>sub a b hb,λa ha=>?_,by omega⟩,λx hx=>?_,by omega⟩
 .have:=xX _ _ (VC (names:=cU ps) (x:=a) (dZ.filter jK) (sec:=λ_=>[]) .nil) (sub a)
  show(mR (cU ps) (dZ.filter jK) a).length<=200;have:(mR (cU ps) (dZ.filter jK) a).length<=(cU ps).length:=this;omega
 .obtain⟨p,hp,rfl⟩:=BG hx
  exact D.sm p hp
theorem z5f(ns:List Int)(start cK:Int)(h0:0<=cK)(h1:cK<=13):∀p∈rF ns start cK,(cR p.nm).length<=30:=λp hp=>by
 obtain⟨k,hk,rfl⟩:=au.mp hp;have:=eZ.mp hk;exact z9c k (by omega)
theorem z9d:eD (aj "ring")=true:=by decide +kernel
theorem z9e:fD (.tup [.str "ring"]) (.tup [.str "ring"]) S=.ok (.bl true) S:=by
 have e:oy S (.tup [.str "ring"])=aa (.tuple [.str "ring"]):=by simp[oy,pd,md]
 have t:toV (.tup [.str "ring"])=ae:=rfl;have k:bP (.tuple [.str "ring"])=true:=by
  have:=z9d;simp[bP,bj,this]
 have:=C4 (.inl t) e e k k (by decide);simp[fD,this,cw,eK]
theorem gB.keep{h:Nat}{pl:List jr}{ps:List HP}{S':bG}(A:gB c S h pl ps)(hk:∀j,j<S.length->S'[j]?=S[j]?):gB c S' h pl ps:=by
 have lk:∀{i:Nat} {v:bY},S[i]?=aa v->S'[i]?=aa v:=λ{i v} e=>by
  rw[hk i (by
   by_cases z:i<S.length
   .exact z
   .rw[ik (by omega)] at e;cases e)]
  exact e
 exact⟨lk A.hall,lk A.places,lk A.pieces,λq hq=>lk (A.place q hq),λp hp=>⟨lk (A.piece p hp).o,lk (A.piece p hp).a0,lk (A.piece p hp).a1,lk (A.piece p hp).a2,lk (A.piece p hp).a3⟩,A.lz,A.pw,A.nd⟩
end DN
namespace DN
open PySem L2 MF
variable {c:Cl}{S:bG}
structure Rn where
 kind:Str
 rule:Str
 num:T
 deeds:List T
 held:List T
 brk:Bool
 prs:List T
 fnd:T
 ard:List T
noncomputable def Rn.fs(x:Rn)(r:Nat):List (Str×T):=[("kind",.str x.kind),("rule",.str x.rule),("number",x.num),("deeds",.obj (r+1)),("held",.obj (r+2)),("broken",.bl x.brk),("pairs",.obj (r+3)),("found",x.fnd),("around",.obj (r+4))]
noncomputable def Rn.block(c:Cl)(x:Rn)(r:Nat):List bY:=[.ins c.run (x.fs r),.lst x.deeds,.lst x.held,.lst x.prs,.lst x.ard]
structure h8(c:Cl)(S:bG)(r:Nat)(x:Rn):Prop where
 o:S[r]?=aa (.ins c.run (x.fs r))
 d:S[r+1]?=aa (.lst x.deeds)
 h:S[r+2]?=aa (.lst x.held)
 p:S[r+3]?=aa (.lst x.prs)
 a:S[r+4]?=aa (.lst x.ard)
section
variable {r:Nat}{x:Rn}
theorem h8.ins(R:h8 c S r x):pD S c.run (.obj r)=aa (r,x.fs r):=q5 R.o
theorem BI:(x.fs r).lookup (aj "kind")=aa (.str x.kind):=by simp[Rn.fs,aJ]
theorem VD:(x.fs r).lookup (aj "rule")=aa (.str x.rule):=by simp[Rn.fs,aJ]
theorem FW:(x.fs r).lookup (aj "number")=aa x.num:=by simp[Rn.fs,aJ]
theorem Jq:(x.fs r).lookup (aj "deeds")=aa (.obj (r+1)):=by simp[Rn.fs,aJ]
theorem VE:(x.fs r).lookup (aj "held")=aa (.obj (r+2)):=by simp[Rn.fs,aJ]
theorem lkB:(x.fs r).lookup (aj "broken")=aa (.bl x.brk):=by simp[Rn.fs,aJ]
theorem FX:(x.fs r).length<900:=by simp[Rn.fs]
theorem zM:(x.fs r).lookup (aj "over")=ae:=by simp[Rn.fs,aJ]
theorem OV:(x.fs r).lookup (aj "step")=ae:=by simp[Rn.fs,aJ]
theorem VF:(x.fs r).lookup (aj "perform")=ae:=by simp[Rn.fs,aJ]
theorem VG:(x.fs r).lookup (aj "fall")=ae:=by simp[Rn.fs,aJ]
theorem Zc4:(x.fs r).lookup (aj "hear")=ae:=by simp[Rn.fs,aJ]
theorem OW:(x.fs r).lookup (aj "leave_the_rest")=ae:=by simp[Rn.fs,aJ]
theorem VH:(x.fs r).lookup (aj "answer")=ae:=by simp[Rn.fs,aJ]
theorem zzo(k ru:Str)(n:T)(ds:List T):Ff c [.obj S.length,.str k,.str ru,n,.lst ds] (S++[.ins c.run []])=.ok .bq (S++(Rn.mk k ru n ds [] false [] .bq []).block c S.length):=by
 simp[Ff,TJ,Bx,Rn.block,Rn.fs,wH,sr]
theorem h8.yB(R:h8 c S r x)(ds:List T):h8 c (S.set (r+1) (.lst ds)) r { x with deeds:=ds }:=
 ⟨by rw[dW (by omega)];exact R.o,kQ R.d,by rw[dW (by omega)];exact R.h,by rw[dW (by omega)];exact R.p,by rw[dW (by omega)];exact R.a⟩
theorem h8.v8{y:Rn}(R:h8 c S r x)(e1:y.deeds=x.deeds)(e2:y.held=x.held)(e3:y.prs=x.prs)(e4:y.ard=x.ard):h8 c (S.set r (.ins c.run (y.fs r))) r y:=
 ⟨kQ R.o,by rw[dW (by omega),e1];exact R.d,by rw[dW (by omega),e2];exact R.h,by rw[dW (by omega),e3];exact R.p,by rw[dW (by omega),e4];exact R.a⟩
theorem OX(t:T):tS (aj "number") t (x.fs r)=Rn.fs { x with num:=t } r:=by simp[Rn.fs]
theorem z9f(b:Bool):tS (aj "broken") (.bl b) (x.fs r)=Rn.fs { x with brk:=b } r:=by simp[Rn.fs]
theorem BJ(R:h8 c S r x):t9 c [.obj r] S=.ok (.bl x.deeds.isEmpty) S:=by
 have e:=FI (lQ R.d);simp[t9,TM,R.ins,Jq,e]
theorem OY(R:h8 c S r x):xM c [.obj r] S=.ok .bq (S.set (r+1) (.lst [])):=by
 simp[xM,TN,R.ins,Jq,m5 R.d,EI,gw,R.d]
end
theorem zzp{ρ:Ev}{S1:bG}{js:List Nat}{it:DI}{tc:DT}{te:DE}{ts:List T}{st:bG->Prop}{p:T->Bool}{f:T->T}(pH:it ρ S=.ok (ts,st) S1)(eY:st S1)(hl:ts.length<=1000)
  (hc:∀t∈ts,tc (aa t::js.map λj=>(ρ[j]?).join) S1=.ok (p t) S1) (he:∀t∈ts,p t=true->te (aa t::js.map λj=>(ρ[j]?).join) S1=.ok (f t) S1) :
  k_ 1 js it (eM 0) tc te iu ρ S=.ok (.lst ((ts.filter p).map f)) S1:=by
 have e:=A6 (ρ:=ρ) (S:=S1) (js:=js) (it:=λ_=>λS=>.ok (ts,st) S) (tc:=tc) (te:=te) rfl eY hl hc he;unfold k_ at e ⊢;rw[eR] at e ⊢;rw[pH];exact e
theorem VI{ps dds:List HP}(nd:(ps.map (·.nm)).Nodup)(hd:∀p∈dds,p∈ps){p:HP}(hp:p∈dds):dds.find? (λq=>decide (q.nm=p.nm))=aa p:=by
 cases e:dds.find? (λq=>decide (q.nm=p.nm)) with
 | none=>
   have:=ee.mp e p hp;simp at this
 | some p'=>
   have h1:p'.nm=p.nm:=by simpa using yQ e
   have h2:=xV nd (hd p' (dB e));have h3:=xV nd (hd p hp);rw[h1,h3] at h2;exact h2.symm
theorem zuc{h k:Nat}{pl:List jr}{ps dds:List HP}{pm:jr}{q:Str}{tn n:T}{S1:bG}(A:gB c S h pl ps)(hq:pl.find? (λp=>decide (p.nm=q))=aa pm)
  (eo:zw c [.obj h,tn] S=.ok (.obj k) S1) (ek:S1[k]?=aa (.lst (dds.map λp=>.str p.nm))) (A1:gB c S1 h pl ps) (hd:∀p∈dds,p∈ps) (hl:dds.length<=100) :
  zx c [.obj h,.str q,tn,n] S=.ok (.obj S1.length) (S1++(Rn.mk pm.kind pm.rule n (dds.map λp=>.tup [.str p.nm,p.dd]) [] false [] .bq []).block c S1.length):=by
 have C1:=qq (m:=aj "find_place") h (by simp) (by simp);have Bd:=qq (m:=aj "find_piece") h (by simp) (by simp);have e1:=IU A hq;have pmm:pm∈pl:=dB hq;have Pl:=q5 (A1.place pm pmm);have cc:=zzp (ρ:=[aa (.obj h),aa (.str q),aa tn,aa n,aa (.obj pm.i),ae]) (S:=S) (S1:=S1) (js:=[0]) (it:=Fg c) (tc:=kG) (te:=M4 c) (ts:=dds.map λp=>.str p.nm) (st:=λS'=>c6 S' (.obj k)=aa (dds.map λp=>.str p.nm)) (p:=λ_=>true)
  (f:=λt=>match t with|.str x=>(match dds.find? (λp=>decide (p.nm=x)) with|some p=>.tup [.str x,p.dd] | none=>.bq) | _=>.bq)
  (by simp[Fg,eo,lQ ek]) (lQ ek) (by simp;omega) (λt ht=>rfl) (λt ht _=>by
   obtain⟨p,hp,rfl⟩:=au.mp ht;have e2:=Fz A1 (xV A1.nd (hd p hp));have e3:=VI A1.nd hd hp;have Po:=q5 (A1.piece p (hd p hp)).o;have lk:p.fs.lookup (aj "deed")=aa p.dd:=by simp[HP.fs,aJ]
   simp[M4,A1.ins,Bd,e2,Po,lk,e3])
 have ef:((dds.map λp=>T.str p.nm).filter λ_=>true).map (λt=>match t with|.str x=>(match dds.find? (λp=>decide (p.nm=x)) with|some p=>T.tup [.str x,p.dd] | none=>.bq) | _=>.bq)=dds.map λp=>T.tup [.str p.nm,p.dd]:=by
  rw[dS.mpr (by simp),bQ];refine dj λp hp=>?_;have e3:=VI A1.nd hd hp;simp[e3]
 rw[ef] at cc;have ri:=zzo (c:=c) (S:=S1) pm.kind pm.rule n (dds.map λp=>.tup [.str p.nm,p.dd]);generalize dds.map (λp=>T.tup [.str p.nm,p.dd])=DL at cc ri ⊢;have lk1:bK (aj "kind") [(aj "kind",T.str pm.kind),(aj "rule",T.str pm.rule)]=aa (.str pm.kind):=by simp[aJ]
 have lk2:bK (aj "rule") [(aj "kind",T.str pm.kind),(aj "rule",T.str pm.rule)]=aa (.str pm.rule):=by simp[aJ]
 simp[zx,M5,A.ins,C1,e1,cc,Pl,lk1,lk2,ri]
theorem z3d{x:Rn}:h8 c (S++x.block c S.length) S.length x:=⟨by rw[xW];rfl,by rw[n9];rfl,by rw[n9];rfl,by rw[n9];rfl,by rw[n9];rfl⟩
end DN
namespace DN
open PySem L2 MF
variable {c:Cl}{S:bG}
section
variable {S0:bG}{h kg kl:Nat}{pl:List jr}{ps:List HP}
theorem z3e{S S':bG}(h:∀j,j<S.length->S'[j]?=S[j]?):S'.take S.length=S:=by
 refine jx λj=>?_;by_cases hj:j<S.length
 .rw[gD hj,h j hj]
 .rw[ik (by simp;omega),ik (by omega)]
end
end DN
namespace DN
open PySem L2 MF
section
variable {nd:Str->Option (List Str)}{C:Str->Prop}{x:Str}
noncomputable def VJ(nd:Str->Option (List Str)):List Str->Option (List Str)
 |[]=>aa []
 | x::xs=>match nd x with
   |none=>ae
   |some ws=>(VJ nd xs).map (ws++·)
def tL(nd:Str->Option (List Str)):Nat->List Str->Option (List Str)
 |0,found=>aa found
 | k+1,found=>match VJ nd found with
   |none=>ae
   |some more=>tL nd k (Tc (Bf (found++more)))
end
end DN
namespace DN
open PySem L2 MF
variable {c:Cl}{S:bG}
theorem iB{f g:DS}{ρ r:Ev}{S S1:bG}(h:f ρ S=.ok (.nx r) S1):aR f g ρ S=g r S1:=by rw[Sw,eR,h]
theorem C_{f g:DS}{ρ:Ev}{t:T}{S S1:bG}(h:f ρ S=.ok (.rt t) S1):aR f g ρ S=.ok (.rt t) S1:=by rw[Sw,eR,h];rfl
theorem OZ{it:DI}{g:DG}{body:DS}{ts:List T}{st:bG->Prop}{ρ:Ev}{S S1:bG}(pH:it ρ S=.ok (ts,st) S1):eW it g body ρ S=d9 st g body ts ρ S1:=by
 unfold eW;rw[eR,pH]
end DN
namespace DN
open PySem L2 MF
variable {c:Cl}{S:bG}{sec:Str->List Str}{names:List Str}
theorem zzr{st:bG->Prop}{g:DG}{body:DS}{v t:T}{B:List T}(Inv:Ev->Prop)(eY:st S)(ht:∀ρ,Inv ρ->∃ρ1,g t ρ=aa ρ1/\body ρ1 S=.ok (.rt v) S) :
  ∀(A:List T) (ρ:Ev),Inv ρ->(∀u∈A,∀ρ,Inv ρ->∃ρ1,g u ρ=aa ρ1/\∃ρ2,body ρ1 S=.ok (.nx ρ2) S/\Inv ρ2)->d9 st g body (A++t::B) ρ S=.ok (.rt v) S
 | [],ρ,h,_=>by
   obtain⟨ρ1,e1,e2⟩:=ht ρ h;rw[bU];unfold d9;rw[if_pos eY,e1];simp only[eR,e2];rfl
 | u::A,ρ,h,ha=>by
   obtain⟨ρ1,e1,ρ2,e2,h2⟩:=ha u (az ..) ρ h;rw[d7];unfold d9;rw[if_pos eY,e1];simp only[eR,e2];exact zzr Inv eY ht A ρ2 h2 λw hw=>ha w (ao _ hw)
theorem VL{st:bG->Prop}{g:DG}{body:DS}(Inv:Ev->Prop)(eY:st S):∀(A:List T) (ρ:Ev),Inv ρ->(∀u∈A,∀ρ,Inv ρ->∃ρ1,g u ρ=aa ρ1/\∃ρ2,body ρ1 S=.ok (.nx ρ2) S/\Inv ρ2)->∃ρ',d9 st g body A ρ S=.ok (.nx ρ') S/\Inv ρ'
 |[],ρ,h,_=>⟨ρ,by unfold d9;rw[if_pos eY],h⟩
 | u::A,ρ,h,ha=>by
   obtain⟨ρ1,e1,ρ2,e2,h2⟩:=ha u (az ..) ρ h;obtain⟨ρ',e3,h3⟩:=VL (st:=st) (g:=g) (body:=body) Inv eY A ρ2 h2 λw hw=>ha w (ao _ hw);refine⟨ρ',?_,h3⟩;unfold d9;rw[if_pos eY,e1];simp only[eR,e2];exact e3
theorem uc{n:Nat}{d:DS}{ts:List T}{t:T}{S S':bG}{ρ:Ev}(hρ:ts.map aa++aQ (n-ts.length) ae=ρ)(h:d ρ S=.ok (.rt t) S'):cH n d ts S=.ok t S':=by subst hρ;rw[Sx,h]
theorem uI{F:Fn}{fr:DA}{ρ:Ev}{ts:List T}{t:T}{n:Nat}{S S1 S2:bG}(hr:fr ρ S=.ok ts S1)(hl:ts.length=n)(h:F ts S1=.ok t S2):fH (bt n F) [] fr ρ S=.ok t S2:=by
 rw[Zb6,eR,hr];show bt n F (ts++[]) S1=_;rw[cW,Zel,if_pos hl,h]
theorem mS{a:DE}{r:DA}{ρ:Ev}{t:T}{ts:List T}{S S1 S2:bG}(h1:a ρ S=.ok t S1)(h2:r ρ S1=.ok ts S2):aP a r ρ S=.ok (t::ts) S2:=by
 rw[z8q,eR,h1];show(r ρ).bind _ S1=_;rw[eR,h2];rfl
theorem Dc{f:DE}{ρ:Ev}{t:T}{S S1:bG}(h:f ρ S=.ok t S1):b_ f ρ S=.ok (.rt t) S1:=by rw[Zej,eR,h];rfl
theorem nE{f:DE}{ρ:Ev}{i:Nat}{t:T}{S S1:bG}(h:f ρ S=.ok t S1):cE i f ρ S=.ok (.nx (ρ.set i (aa t))) S1:=by rw[Zek,eR,h];rfl
end DN
namespace DN
open PySem L2 MF
variable {c:Cl}{S:bG}
inductive Dd where
 |add (a:Int) | say (a:Int) | bq | fail (a:Int)
noncomputable def Dd.t:Dd->T
 |.add a=>.tup [.str "add",.int a]
 |.say a=>.tup [.str "say",.int a]
 |.bq=>.tup [.str "none"]
 |.fail a=>.tup [.str "fail",.int a]
noncomputable def Dd.iy:Dd->Int->T
 |.add a,n=>.int (n+a)
 |.say a,_=>.int a
 |_,_=>.bq
abbrev Rd:=Str×Dd
noncomputable def fq(p:Rd):T:=.tup [.str p.1,p.2.t]
noncomputable def ip(p:Str×Int):T:=.tup [.str p.1,.int p.2]
theorem De(d:Dd)(n:Int):uE c [d.t,.int n] S=.ok (d.iy n) S:=by
 cases d<;>simp[uE,TQ,Dd.t,Dd.iy]
structure Rs where
 kind:Str
 rule:Str
 num:Int
 deeds:List Rd
 held:List (Str×Int)
 brk:Bool
 prs:List (Str×T)
 fnd:T
 ard:List Int
noncomputable def lZ(p:Str×T):T:=.tup [.str p.1,p.2]
noncomputable def Rs.x(x:Rs):Rn:=⟨x.kind,x.rule,.int x.num,x.deeds.map fq,x.held.map ip,x.brk,x.prs.map lZ,x.fnd,x.ard.map .int⟩
noncomputable def Rs.step (x:Rs) (p:Rd) (ds:List Rd):Rs:=match p.2 with
 |.fail a=>{ x with deeds:=ds,held:=x.held++[(p.1,a)] }
 | d=>if x.kind = "all" then { x with deeds:=ds,prs:=x.prs++[(p.1,d.iy x.num)] }
   else if x.kind = "round" then(match d with
    |.add a=>{ x with deeds:=ds,ard:=x.ard++[a],num:=x.num+a }
    |.say a=>{ x with deeds:=[],num:=a }
    |_=>{ x with deeds:=ds })
   else match d with
    |.add a=>if x.kind = "first" then { x with deeds:=[],fnd:=.int (x.num+a) } else { x with deeds:=ds,num:=x.num+a }
    |.say a=>if x.kind = "first" then { x with deeds:=[],fnd:=.int a } else { x with deeds:=ds,num:=a }
    |_=>{ x with deeds:=ds }
structure jy(S S':bG)(r:Nat):Prop where
 len:S'.length=S.length
 same:∀j,(j<r\/r+5<=j)->S'[j]?=S[j]?
theorem jy.set{r i:Nat}{v:bY}(h1:r<=i)(h2:i<r+5):jy S (S.set i v) r:=⟨by simp,λj hj=>dW (by omega)⟩
theorem jy.trans{S1 S2:bG}{r:Nat}(a:jy S S1 r)(b:jy S1 S2 r):jy S S2 r:=⟨b.len.trans a.len,λj hj=>(b.same j hj).trans (a.same j hj)⟩
theorem jy.refl(S:bG)(r:Nat):jy S S r:=⟨rfl,λ_ _=>rfl⟩
section
variable {r:Nat}{x:Rn}
theorem h8.O0(R:h8 c S r x)(hs:List T):h8 c (S.set (r+2) (.lst hs)) r { x with held:=hs }:=
 ⟨by rw[dW (by omega)];exact R.o,by rw[dW (by omega)];exact R.d,kQ R.h,by rw[dW (by omega)];exact R.p,by rw[dW (by omega)];exact R.a⟩
theorem h8.O1(R:h8 c S r x)(hs:List T):h8 c (S.set (r+3) (.lst hs)) r { x with prs:=hs }:=
 ⟨by rw[dW (by omega)];exact R.o,by rw[dW (by omega)];exact R.d,by rw[dW (by omega)];exact R.h,kQ R.p,by rw[dW (by omega)];exact R.a⟩
theorem h8.O2(R:h8 c S r x)(hs:List T):h8 c (S.set (r+4) (.lst hs)) r { x with ard:=hs }:=
 ⟨by rw[dW (by omega)];exact R.o,by rw[dW (by omega)];exact R.d,by rw[dW (by omega)];exact R.h,by rw[dW (by omega)];exact R.p,kQ R.a⟩
theorem VM:(x.fs r).lookup (aj "pairs")=aa (.obj (r+3)):=by simp[Rn.fs,aJ]
theorem lkF:(x.fs r).lookup (aj "found")=aa x.fnd:=by simp[Rn.fs,aJ]
theorem VN:(x.fs r).lookup (aj "around")=aa (.obj (r+4)):=by simp[Rn.fs,aJ]
theorem O3:(x.fs r).lookup (aj "go_within")=ae:=by simp[Rn.fs,aJ]
theorem z9g(t:T):tS (aj "found") t (x.fs r)=Rn.fs { x with fnd:=t } r:=by simp[Rn.fs]
theorem VO(R:h8 c S r x){nm:Str}{cd:T}(sm:Sm nm)(hl:x.held.length<900) :
  (x.rule = "hand" -> ∃S',Bl c [.obj r,.str nm,cd] S=.exc c.deedFault (aa [("piece",.str nm),("code",cd)]) S'/\h8 c S' r { x with brk:=true,deeds:=[] }/\jy S S' r) /\
  (x.rule ≠ "hand" -> ∃S',Bl c [.obj r,.str nm,cd] S=.ok .bq S'/\h8 c S' r { x with held:=x.held++[.tup [.str nm,cd]] }/\jy S S' r):=by
 refine⟨λhr=>?_,λhr=>?_⟩
 .obtain⟨kind,rule,num,deeds,held,brk,prs,fnd,ard⟩:=x
  simp only at hr;subst hr;have R1:=R.v8 (y:=⟨kind, "hand",num,deeds,held,true,prs,fnd,ard⟩) rfl rfl rfl rfl;have R2:=R1.yB [];have l:=OY R1;have ok:EV false (.str nm) cd=true:=by
   unfold Sm at sm;simp[EV,Ib];omega
  refine⟨_,?_,R2,(jy.set (by omega) (by omega)).trans (jy.set (by omega) (by omega))⟩;simp[Bl,M8,R.ins,VD,z9f,FX,R1.ins,OW,l,Mm,ok]
 .have ap:=vG (y:=.tup [.str nm,cd]) R.h (by omega)
  refine⟨_,?_,R.O0 _,jy.set (by omega) (by omega)⟩;simp[Bl,M8,R.ins,VD,hr,VE,m5 R.h,ap]
theorem Zc6(R:h8 c S r x)(t:T):∃S',CN c [.obj r,t] S=.ok .bq S'/\h8 c S' r (if x.kind = "first" then { x with fnd:=t,deeds:=[] } else { x with num:=t })/\jy S S' r:=by
 by_cases h:x.kind = "first"
 .rw[if_pos h]
  obtain⟨kind,rule,num,deeds,held,brk,prs,fnd,ard⟩:=x;simp only at h;subst h;have R1:=R.v8 (y:=⟨"first",rule,num,deeds,held,brk,prs,t,ard⟩) rfl rfl rfl rfl;have l:=OY R1;refine⟨_,?_,R1.yB [],(jy.set (by omega) (by omega)).trans (jy.set (by omega) (by omega))⟩;simp[CN,M9,R.ins,BI,z9g,FX,R1.ins,OW,l]
 .rw[if_neg h]
  refine⟨_,?_,R.v8 (y:={ x with num:=t }) rfl rfl rfl rfl,jy.set (by omega) (by omega)⟩;simp[CN,M9,R.ins,BI,h,OX,FX]
theorem z5g(R:h8 c S r x){n:Int}(hn:x.num=.int n)(hl:x.ard.length<900)(d:Dd):∃S',zA c [.obj r,d.t] S=.ok .bq S'/\h8 c S' r (match d with
   |.add a=>{ x with ard:=x.ard++[.int a],num:=.int (n+a) }
   |.say a=>{ x with num:=.int a,deeds:=[] }
   |_=>x)/\jy S S' r:=by
 cases d with
 | add a=>
   have ap:=vG (y:=.int a) R.a (by omega);have R1:=R.O2 (x.ard++[.int a]);have sa:=De (c:=c) (S:=S.set (r+4) (.lst (x.ard++[.int a]))) (.add a) n;refine⟨_,?_,R1.v8 (y:={ x with ard:=x.ard++[.int a],num:=.int (n+a) }) rfl rfl rfl rfl,(jy.set (by omega) (by omega)).trans (jy.set (by omega) (by omega))⟩;simp only[Dd.t,Dd.iy] at sa;simp[zA,Fi,Dd.t,R.ins,VN,m5 R.a,ap,R1.ins,FW,hn,sa,FX,OX]
 | say a=>
   have R1:=R.v8 (y:={ x with num:=.int a }) rfl rfl rfl rfl;have sa:=De (c:=c) (S:=S) (.say a) n;have l:=OY R1;refine⟨_,?_,R1.yB [],(jy.set (by omega) (by omega)).trans (jy.set (by omega) (by omega))⟩;simp only[Dd.t,Dd.iy] at sa;simp[zA,Fi,Dd.t,R.ins,FW,hn,sa,FX,OX,R1.ins,OW,l]
 |bq=>exact⟨S,by simp[zA,Fi,Dd.t],R,jy.refl S r⟩
 |fail a=>exact⟨S,by simp[zA,Fi,Dd.t],R,jy.refl S r⟩
end
end DN
namespace DN
open PySem L2 MF
variable {c:Cl}{S:bG}{r:Nat}
structure Rs.ok(x:Rs):Prop where
 kind:x.kind = "all" \/ x.kind = "first" \/ x.kind = "chain" \/ x.kind = "round"
 rule:x.rule = "hold" \/ x.rule = "hand"
 sm:∀p∈x.deeds,Sm p.1
 len:x.deeds.length+x.held.length<=100/\x.deeds.length+x.prs.length<=100/\x.deeds.length+x.ard.length<=100
theorem z3g{x:Rs}(R:h8 c S r x.x)(ok:x.ok){p:Rd}(sm:Sm p.1) :
  ((∃a,p.2=.fail a/\x.rule = "hand")->∃a S',p.2=.fail a/\uF c [.obj r,.str p.1,p.2.t] S=.exc c.deedFault (aa [("piece",.str p.1),("code",.int a)]) S'/\h8 c S' r (Rs.x { x with brk:=true,deeds:=[] })/\jy S S' r) /\
  (¬(∃a,p.2=.fail a/\x.rule = "hand")->∃S',uF c [.obj r,.str p.1,p.2.t] S=.ok .bq S'/\h8 c S' r (Rs.x (x.step p x.deeds))/\jy S S' r):=by
 obtain⟨nm,d⟩:=p;simp only at sm ⊢;have l:=ok.len;have hh:x.x.held.length<900:=by simp[Rs.x];omega
 have hp:x.x.prs.length<900:=by simp[Rs.x];omega
 have ha:x.x.ard.length<900:=by simp[Rs.x];omega
 have en:x.x.num=.int x.num:=rfl;have ek:x.x.kind=x.kind:=rfl;refine⟨λ⟨a,e,hr⟩=>?_,λhn=>?_⟩
 .subst e
  obtain⟨S',e,R',k⟩:=(VO R (nm:=nm) (cd:=.int a) sm hh).1 hr;refine⟨a,S',rfl,?_,R',k⟩;simp[uF,Bm,Dd.t,R.ins,VG,e]
 .by_cases hf:∃a,d=.fail a
  .obtain⟨a,rfl⟩:=hf
   have hr:x.x.rule ≠ "hand":=λh=>hn ⟨a,rfl,h⟩;obtain⟨S',e,R',k⟩:=(VO R (nm:=nm) (cd:=.int a) sm hh).2 hr;refine⟨S',?_,?_,k⟩
   .simp[uF,Bm,Dd.t,R.ins,VG,e]
   .have:({ x.x with held:=x.x.held++[.tup [.str nm,.int a]] }:Rn)=Rs.x (x.step (nm,.fail a) x.deeds):=by simp[Rs.x,Rs.step,ip]
    rw[<- this];exact R'
  have nf:∀a,d≠.fail a:=λa e=>hf ⟨a,e⟩;have sa:=De (c:=c) (S:=S) d x.num;have FY:(x.kind = "first" \/ x.kind = "chain")->∃S',uF c [.obj r,.str nm,d.t] S=.ok .bq S'/\h8 c S' r (Rs.x (x.step (nm,d) x.deeds))/\jy S S' r:=λh=>by
   by_cases hd:d=.bq
   .subst hd
    refine⟨S,?_,?_,jy.refl S r⟩
    .rcases h with h | h<;>simp[uF,Bm,Dd.t,R.ins,BI,ek,h]
    .have:x.x=Rs.x (x.step (nm,.bq) x.deeds):=by rcases h with h | h<;>simp[Rs.x,Rs.step,h]
     rw[<- this];exact R
   .obtain⟨S',e,R',k⟩:=Zc6 R (d.iy x.num)
    refine⟨S',?_,?_,k⟩
    .cases d with
     |fail a=>exact absurd rfl (nf a)
     |bq=>exact absurd rfl hd
     | _=>
       simp only[Dd.t,Dd.iy] at sa e ⊢;rcases h with h | h<;>simp[uF,Bm,R.ins,BI,ek,h,Zc4,FW,en,sa,e]
    .have:(if x.x.kind = "first" then({ x.x with fnd:=d.iy x.num,deeds:=[] }:Rn) else { x.x with num:=d.iy x.num })=Rs.x (x.step (nm,d) x.deeds):=by
      cases d with
      |fail a=>exact absurd rfl (nf a)
      |bq=>exact absurd rfl hd
      |_=>rcases h with h | h<;>simp[Rs.x,Rs.step,h,Dd.iy]
     rw[<- this];exact R'
  rcases ok.kind with h | h | h | h
  .have ap:=vG (y:=.tup [.str nm,d.iy x.num]) R.p (by omega)
   refine⟨S.set (r+3) (.lst (x.x.prs++[.tup [.str nm,d.iy x.num]])),?_,?_,jy.set (by omega) (by omega)⟩
   .cases d with
    |fail a=>exact absurd rfl (nf a)
    | _=>
      simp only[Dd.t,Dd.iy] at sa ap ⊢;simp[uF,Bm,R.ins,BI,ek,h,VM,m5 R.p,FW,en,sa,ap]
   .have:({ x.x with prs:=x.x.prs++[.tup [.str nm,d.iy x.num]] }:Rn)=Rs.x (x.step (nm,d) x.deeds):=by
     cases d with
     |fail a=>exact absurd rfl (nf a)
     |_=>simp[Rs.x,Rs.step,h,lZ]
    rw[<- this];exact R.O1 _
  .exact FY (.inl h)
  .exact FY (.inr h)
  .obtain⟨S',e,R',k⟩:=z5g R en ha d
   refine⟨S',?_,?_,k⟩
   .cases d with
    |fail a=>exact absurd rfl (nf a)
    | _=>
      simp only[Dd.t] at e ⊢;simp[uF,Bm,R.ins,BI,ek,h,O3,e]
   .cases d with
    |fail a=>exact absurd rfl (nf a)
    | add a=>
      have:({ x.x with ard:=x.x.ard++[.int a],num:=.int (x.num+a) }:Rn)=Rs.x (x.step (nm,.add a) x.deeds):=by simp[Rs.x,Rs.step,h]
      rw[<- this];exact R'
    | say a=>
      have:({ x.x with num:=.int a,deeds:=[] }:Rn)=Rs.x (x.step (nm,.say a) x.deeds):=by simp[Rs.x,Rs.step,h]
      rw[<- this];exact R'
    | bq=>
      have:x.x=Rs.x (x.step (nm,.bq) x.deeds):=by simp[Rs.x,Rs.step,h]
      rw[<- this];exact R'
theorem zwc{x:Rs}(R:h8 c S r x.x)(hd:x.deeds=[]):uG c [.obj r] S=.ok .bq S:=by
 have o:=BJ R;have e:x.x.deeds.isEmpty=true:=by simp[Rs.x,hd]
 rw[e] at o;simp[uG,IE,R.ins,zM,o]
theorem VP{x:Rs}(R:h8 c S r x.x)(ok:x.ok){p:Rd}{ds:List Rd}(hd:x.deeds=p::ds) :
  ((∃a,p.2=.fail a/\x.rule = "hand")->∃a S',p.2=.fail a/\uG c [.obj r] S=.exc c.deedFault (aa [("piece",.str p.1),("code",.int a)]) S'/\h8 c S' r (Rs.x { x with brk:=true,deeds:=[] })/\jy S S' r) /\
  (¬(∃a,p.2=.fail a/\x.rule = "hand")->∃S',uG c [.obj r] S=.ok (.str p.1) S'/\h8 c S' r (Rs.x (x.step p ds))/\jy S S' r):=by
 have sm:=ok.sm p (by rw[hd];simp);have o:=BJ R;have ed:x.x.deeds=fq p::ds.map fq:=by simp[Rs.x,hd]
 rw[ed] at o;have d:=R.d;rw[ed] at d;have R1:h8 c (S.set (r+1) (.lst (ds.map fq))) r (Rs.x { x with deeds:=ds }):=R.yB (ds.map fq);have k1:jy S (S.set (r+1) (.lst (ds.map fq))) r:=jy.set (by omega) (by omega);have Df:Rs.ok { x with deeds:=ds }:=⟨ok.kind,ok.rule,λq hq=>ok.sm q (by rw[hd];exact ao _ hq),by have:=ok.len;rw[hd] at this;simp at this ⊢;omega⟩;obtain⟨p1,p2⟩:=z3g R1 Df (p:=p) sm;have i0:∀Z,cv (fq p) (.int 0) Z=.ok (.str p.1) Z:=λZ=>by simp[fq]
 have i1:∀Z,cv (fq p) (.int 1) Z=.ok p.2.t Z:=λZ=>by simp[fq]
 have BK:wJ (.obj (r+1)) [.int 0] S=.ok (fq p) (S.set (r+1) (.lst (ds.map fq))):=by simp[wJ,gw,d]
 have o:t9 c [.obj r] S=.ok (.bl false) S:=o;generalize fq p=PT at i0 i1 BK d;generalize p.2.t=DT at i1 p1 p2;refine⟨λh=>?_,λh=>?_⟩
 .obtain⟨a,S',e0,e,R',k⟩:=p1 h
  refine⟨a,S',e0,?_,R',k1.trans k⟩;simp[uG,IE,R.ins,zM,o,Jq,m5 d,BK,R1.ins,VF,i0,i1,e]
 .obtain⟨S',e,R',k⟩:=p2 h
  refine⟨S',?_,?_,k1.trans k⟩
  .simp[uG,IE,R.ins,zM,o,Jq,m5 d,BK,R1.ins,VF,i0,i1,e]
  .have:Rs.step { x with deeds:=ds } p ds=x.step p ds:=rfl
   rw[<- this];exact R'
end DN
namespace DN
open PySem L2 MF
variable {c:Cl}{S:bG}{r:Nat}
noncomputable def rg(k:Str):Dd->Bool
 |.add _=>decide (k = "first")
 |.say _=>decide (k = "first") || decide (k = "round")
 |_=>false
noncomputable def sF(rule:Str):Dd->Option Int
 |.fail a=>if rule = "hand" then aa a else ae
 |_=>ae
noncomputable def fin:List Rd->Rs->Except (Str×Int) Rs
 |[],x=>.ok x
 | p::ds,x=>match sF x.rule p.2 with
   |some a=>.error (p.1,a)
   |none=>if rg x.kind p.2 then .ok (x.step p ds) else fin ds (x.step p ds)
theorem BL{x:Rs}(p:Rd)(ds:List Rd):(x.step p ds).kind=x.kind/\(x.step p ds).rule=x.rule/\(x.step p ds).brk=x.brk/\(x.step p ds).deeds=(if rg x.kind p.2 then[] else ds):=by
 obtain⟨nm,d⟩:=p;by_cases h1:x.kind = "all"
 .cases d<;>simp[Rs.step,rg,h1]
 .by_cases h2:x.kind = "round"
  .cases d<;>simp[Rs.step,rg,h2]
  .by_cases h3:x.kind = "first"
   .cases d<;>simp[Rs.step,rg,h3]
   .cases d<;>simp[Rs.step,rg,h1,h2,h3]
theorem VQ{x:Rs}(p:Rd)(ds:List Rd):(x.step p ds).held.length<=x.held.length+1/\(x.step p ds).prs.length<=x.prs.length+1/\(x.step p ds).ard.length<=x.ard.length+1:=by
 obtain⟨nm,d⟩:=p;by_cases h1:x.kind = "all"
 .cases d<;>simp[Rs.step,h1]
 .by_cases h2:x.kind = "round"
  .cases d<;>simp[Rs.step,h2]
  .by_cases h3:x.kind = "first"
   .cases d<;>simp[Rs.step,h3]
   .cases d<;>simp[Rs.step,h1,h2,h3]
theorem VR{x:Rs}(ok:x.ok){p:Rd}{ds:List Rd}(hd:x.deeds=p::ds):(x.step p ds).ok:=by
 obtain⟨e1,e2,_,e4⟩:=BL (x:=x) p ds;obtain⟨l1,l2,l3⟩:=VQ (x:=x) p ds;have l:=ok.len;rw[hd] at l;have dl:(x.step p ds).deeds.length<=ds.length:=by rw[e4];split<;>simp
 refine⟨by rw[e1];exact ok.kind,by rw[e2];exact ok.rule,λq hq=>?_,by simp at l;omega⟩;rw[e4] at hq
 split at hq
 .cases hq
 .exact ok.sm q (by rw[hd];exact ao _ hq)
theorem O4{rule:Str}{d:Dd}:(∃a,d=.fail a/\rule = "hand")↔∃a,sF rule d=aa a:=by
 cases d<;>simp[sF]
theorem VS:∀(ds:List Rd) (x:Rs) (n:Nat) {S:bG},h8 c S r x.x->x.ok->x.brk=false->x.deeds=ds->ds.length<n ->
  ∃ S',jy S S' r/\match fin ds x with
    |.ok y=>kd (xN c) (zB c) n [aa (.obj r)] S=.ok (.nx [aa (.obj r)]) S'/\h8 c S' r y.x/\y.deeds=[]/\y.brk=false
    |.error (nm,a)=>kd (xN c) (zB c) n [aa (.obj r)] S=.exc c.deedFault (aa [("piece",.str nm),("code",.int a)]) S'
 | [],x,n,S,R,ok,hb,hd,hn=>by
   obtain⟨n,rfl⟩:∃m,n=m+1:=⟨n-1,by omega⟩;have o:=BJ R;have e:x.x.deeds.isEmpty=true:=by simp[Rs.x,hd]
   rw[e] at o;refine⟨S,jy.refl S r,?_,R,hd,hb⟩;exact Vn (by simp[xN,R.ins,zM,o])
 | p :: ds,x,n,S,R,ok,hb,hd,hn=>by
   obtain⟨n,rfl⟩:∃m,n=m+1:=⟨n-1,by omega⟩;have o:=BJ R;have e:x.x.deeds.isEmpty=false:=by simp[Rs.x,hd]
   rw[e] at o;have w0:xN c [aa (.obj r)] S=.ok true S:=by simp[xN,R.ins,zM,o]
   obtain⟨s1,s2⟩:=VP R ok hd;unfold fin;cases hf:sF x.rule p.2 with
   | some a=>
     obtain⟨a',S',e0,e,-,k⟩:=s1 (O4.mpr ⟨a,hf⟩);have:a'=a:=by
      rw[e0] at hf;have:=(by simpa[sF] using hf:x.rule = "hand" /\ a'=a);exact this.2
     subst this;exact⟨S',k,z9a w0 (by simp[zB,R.ins,OV,e])⟩
   | none=>
     obtain⟨S1,e,R1,k⟩:=s2 (λh=>by obtain⟨a,ha⟩:=O4.mp h;rw[hf] at ha;cases ha);have b0:zB c [aa (.obj r)] S=.ok (.nx [aa (.obj r)]) S1:=by simp[zB,R.ins,OV,e]
     obtain⟨e1,e2,e3,e4⟩:=BL (x:=x) p ds;have Df:=VR ok hd;rw[Zc1 w0 b0];have VT:=e3.trans hb;simp only;by_cases hs:rg x.kind p.2=true
     .rw[if_pos hs] at e4 ⊢
      obtain⟨n,rfl⟩:∃m,n=m+1:=⟨n-1,by simp at hn;omega⟩;have o:=BJ R1;have e:(x.step p ds).x.deeds.isEmpty=true:=by simp[Rs.x,e4]
      rw[e] at o;refine⟨S1,k,?_,R1,e4,VT⟩;exact Vn (by simp[xN,R1.ins,zM,o])
     .rw[if_neg hs] at e4 ⊢
      obtain⟨S',k2,ih⟩:=VS ds (x.step p ds) n R1 Df VT e4 (by simp at hn;omega);exact⟨S',k.trans k2,ih⟩
noncomputable def v9(n:Int)(ard:List Int):Int:=ard.foldr (λo b=>b*10+o) n
theorem Zc7(n:Int)(ard:List Int){t:T}(hl:ard.length<=1000)(ht:c6 S t=aa (ard.map .int)):Fj c [.int n,t] S=.ok (.int (v9 n ard)) S:=by
 have run:∀(l:List Int) (b:Int) {x3:Option T},∃q8,d9 (λS'=>c6 S' t=aa (ard.map T.int)) (eM 3) (IF c) (l.map .int) [aa (.int n),aa t,aa (.int b),x3] S=.ok (.nx [aa (.int n),aa t,aa (.int (l.foldl (λb o=>b*10+o) b)),q8]) S:=λl=>by
  induction l with
  |nil=>exact λb x3=>⟨x3,by simp[d9,ht]⟩
  | cons o l ih=>
    intro b x3;obtain⟨q8,e⟩:=ih (b*10+o) (x3:=aa (.int o));refine⟨q8,?_⟩;have hb:IF c [aa (.int n),aa t,aa (.int b),aa (.int o)] S=.ok (.nx [aa (.int n),aa t,aa (.int (b*10+o)),aa (.int o)]) S:=by simp[IF]
    simp only[ay,d9,ht,if_true,eM,uS,mr,eR,hb];exact e
 obtain⟨x3,e⟩:=run ard.reverse n (x3:=ae);have pH:xB (aP (af 1) aF) [aa (.int n),aa t,aa (.int n),ae] S=.ok (ard.reverse.map .int,λS'=>c6 S' t=aa (ard.map T.int)) S:=by simp[ht]
 have ef:ard.reverse.foldl (λb o=>b*10+o) n=v9 n ard:=by rw[List.foldl_reverse];rfl
 rw[ef] at e;have e:=(OZ pH).trans e;unfold Fj;refine uc (ρ:=[aa (.int n),aa t,ae,ae]) rfl ?_;unfold TU;rw[iB (nE (t:=.int n) (S1:=S) (by simp))];exact(iB e).trans (by simp)
noncomputable def Rs.wU(y:Rs):T:=if y.kind = "all" then .lst (y.prs.map lZ) else if y.kind = "first" then y.fnd else if y.kind = "chain" then .int y.num else .int (v9 y.num y.ard)
theorem VU{y:Rs}(R:h8 c S r y.x)(hk:y.kind = "all" \/ y.kind = "first" \/ y.kind = "chain" \/ y.kind = "round")(hd:y.deeds=[])(hb:y.brk=false)(hl:y.ard.length<=1000):Bo c [.obj r] S=.ok y.wU S:=by
 have o:=BJ R;have e:y.x.deeds.isEmpty=true:=by simp[Rs.x,hd]
 rw[e] at o;have ek:y.x.kind=y.kind:=rfl;have eb:y.x.brk=y.brk:=rfl;have en:y.x.num=.int y.num:=rfl;have ef:y.x.fnd=y.fnd:=rfl;have gl:tQ (.obj (r+3)) S=.ok (.lst (y.prs.map lZ)) S:=by
  have:=C5 (lQ R.p);simp[tQ,sr,this,Rs.x]
 have bk:=Zc7 (c:=c) (S:=S) y.num y.ard (t:=.obj (r+4)) hl (lQ R.a);unfold Rs.wU;rcases hk with h | h | h | h<;>simp[Bo,TV,R.ins,lkB,eb,hb,zM,o,BI,ek,h,VM,gl,lkF,ef,FW,en,VN,bk]
theorem VW{y:Rs}(R:h8 c S r y.x):Bn c [.obj r] S=.ok (.lst (y.held.map ip)) S:=by
 have gl:tQ (.obj (r+2)) S=.ok (.lst (y.held.map ip)) S:=by
  have:=C5 (lQ R.h);simp[tQ,sr,this,Rs.x]
 simp[Bn,TR,R.ins,VE,gl]
theorem FZ:∀(ds:List Rd) (x:Rs) {y:Rs},fin ds x=.ok y->y.kind=x.kind/\y.ard.length<=x.ard.length+ds.length
 |[],x,y,e=>by cases e;exact⟨rfl,by simp⟩
 | p :: ds,x,y,e=>by
   unfold fin at e;obtain⟨e1,_⟩:=BL (x:=x) p ds;obtain⟨_,_,l3⟩:=VQ (x:=x) p ds;cases hf:sF x.rule p.2 with
   |some a=>simp[hf] at e
   | none=>
     simp only[hf] at e
     split at e
     .cases e;exact⟨e1,by simp;omega⟩
     .obtain⟨h1,h2⟩:=FZ ds _ e
      exact⟨h1.trans e1,by simp;omega⟩
theorem VX{x:Rn}:(x.fs r).lookup (aj "faults")=ae:=by simp[Rn.fs,aJ]
theorem z5h{x:Rs}(R:h8 c S r x.x)(ok:x.ok)(hb:x.brk=false) :
  ∃ S',jy S S' r/\match fin x.deeds x with
    |.ok y=>vN c [.obj r] S=.ok (.tup [y.wU,.lst (y.held.map ip)]) S'
    |.error (nm,a)=>vN c [.obj r] S=.exc c.deedFault (aa [("piece",.str nm),("code",.int a)]) S':=by
 have l:=ok.len;obtain⟨S',k,h⟩:=VS (c:=c) x.deeds x 1000 R ok hb rfl (by omega);refine⟨S',k,?_⟩;cases e:fin x.deeds x with
 | error q=>
   obtain⟨nm,a⟩:=q;rw[e] at h;have W:uw (xN c) (zB c) [aa (.obj r)] S=.exc c.deedFault (aa [("piece",.str nm),("code",.int a)]) S':=h;simp[vN,M_,W]
 | ok y=>
   rw[e] at h;obtain⟨h1,R',hd,hb'⟩:=h;have W:uw (xN c) (zB c) [aa (.obj r)] S=.ok (.nx [aa (.obj r)]) S':=h1;have ky:=FZ x.deeds x e;have fa:=VU R' (by rw[ky.1];exact ok.kind) hd hb' (by omega);have ff:=VW R';show vN c [.obj r] S=.ok (.tup [y.wU,.lst (y.held.map ip)]) S';generalize y.wU=A at fa ⊢;simp[vN,M_,W,R'.ins,VH,VX,fa,ff]
end DN
namespace DN
open PySem L2 MF
variable {c:Cl}{S:bG}{r:Nat}
noncomputable def fR(k:Str):List Rd->List (Str×Int)
 |[]=>[]
 |(nm,.fail a)::ds=>(nm,a)::fR k ds
 |(_,.add _)::ds=>if k = "first" then[] else fR k ds
 |(_,.say _)::ds=>if k = "first" \/ k = "round" then[] else fR k ds
 |(_,.bq)::ds=>fR k ds
noncomputable def mT(n:Int):List Rd->List (Str×T)
 |[]=>[]
 |(_,.fail _)::ds=>mT n ds
 |(nm,.add a)::ds=>(nm,.int (n+a))::mT n ds
 |(nm,.say a)::ds=>(nm,.int a)::mT n ds
 |(nm,.bq)::ds=>(nm,.bq)::mT n ds
noncomputable def gU(n:Int):List Rd->T
 |[]=>.bq
 |(_,.add a)::_=>.int (n+a)
 |(_,.say a)::_=>.int a
 |_::ds=>gU n ds
noncomputable def jt:List Rd->Int->Int
 |[],n=>n
 |(_,.add a)::ds,n=>jt ds (n+a)
 |(_,.say a)::ds,_=>jt ds a
 |_::ds,n=>jt ds n
noncomputable def jL:List Rd->Int->Int
 |[],n=>n
 |(_,.say a)::_,_=>a
 |(_,.add a)::ds,n=>10*jL ds (n+a)+a
 |_::ds,n=>jL ds n
noncomputable def fW(k:Str)(ds:List Rd)(n:Int):T:=if k = "all" then .lst ((mT n ds).map lZ) else if k = "first" then gU n ds else if k = "chain" then .int (jt ds n) else .int (jL ds n)
theorem z3i(n:Int)(ard:List Int)(a:Int):v9 n (ard++[a])=v9 (n*10+a) ard:=by simp[v9]
theorem Jr:∀(ds:List Rd) (x:Rs) {q:Str×Int},fin ds x=.error q->x.rule = "hand" /\ ∃t,fR x.kind ds=q::t
 |[],x,q,e=>by cases e
 | (nm,d)::ds,x,q,e=>by
   unfold fin at e;obtain⟨e1,e2,_⟩:=BL (x:=x) (nm,d) ds;cases d with
   | fail a=>
     by_cases h:x.rule = "hand"
     .simp[sF,h] at e
      exact⟨h,_,by rw[fR,e]⟩
     .simp[sF,h,rg] at e
      have:=(Jr ds _ e).1;rw[e2] at this;exact absurd this h
   | _=>
     simp only[sF] at e
     split at e
     .cases e
     .rename_i hs
      obtain⟨h1,t,h2⟩:=Jr ds _ e;rw[e1] at h2;rw[e2] at h1;refine⟨h1,t,?_⟩;simp[rg] at hs;simp[fR,hs,h2]
theorem z3j{x:Rs}{nm:Str}{d:Dd}{ds:List Rd}(hd:∀a,d≠.fail a):(x.step (nm,d) ds).held=x.held:=by
 by_cases h1:x.kind = "all"
 .cases d<;>simp_all [Rs.step]
 .by_cases h2:x.kind = "round"
  .cases d<;>simp_all [Rs.step]
  .by_cases h3:x.kind = "first" <;> cases d<;>simp_all [Rs.step]
theorem Js:∀(ds:List Rd) (x:Rs) {y:Rs},fin ds x=.ok y->y.held=x.held++fR x.kind ds/\(x.rule = "hand" -> fR x.kind ds=[])
 |[],x,y,e=>by cases e;simp[fR]
 | (nm,d)::ds,x,y,e=>by
   unfold fin at e;obtain⟨e1,e2,_⟩:=BL (x:=x) (nm,d) ds;have hh:=λhd=>z3j (x:=x) (nm:=nm) (d:=d) (ds:=ds) hd;cases d with
   | fail a=>
     by_cases h:x.rule = "hand"
     .simp[sF,h] at e
     .simp[sF,h,rg] at e
      obtain⟨h1,h2⟩:=Js ds _ e;rw[e1] at h1;exact⟨by rw[h1];simp[Rs.step,fR],λq=>absurd q h⟩
   | _=>
     have hh:=hh (λa e=>by cases e);simp only[sF] at e
     split at e
     .rename_i hs
      cases e;simp[rg] at hs<;>simp[fR,hs,hh]
     .rename_i hs
      obtain⟨h1,h2⟩:=Js ds _ e;rw[e1] at h1 h2;rw[e2] at h2;simp[rg] at hs;simp[fR,hs,h1,hh];exact h2
theorem O5:∀(ds:List Rd) (x:Rs) {y:Rs},fin ds x=.ok y ->
  (x.kind = "all" -> y.prs=x.prs++mT x.num ds)/\(x.kind = "first" -> x.fnd=.bq->y.fnd=gU x.num ds)/\(x.kind = "chain" -> y.num=jt ds x.num)/\(x.kind = "round" -> v9 y.num y.ard=v9 (jL ds x.num) x.ard)
 |[],x,y,e=>by cases e;simp[mT,gU,jt,jL]
 | (nm, d)::ds,x,y,e=>by
   unfold fin at e;obtain⟨e1,e2,_⟩:=BL (x:=x) (nm,d) ds;cases hf:sF x.rule d with
   |some a=>simp[hf] at e
   | none=>
     simp only[hf] at e;by_cases hs:rg x.kind d=true
     .rw[if_pos hs] at e
      cases e;cases d<;>simp[rg] at hs<;>refine⟨λh=>?_,λh h'=>?_,λh=>?_,λh=>?_⟩<;>simp[h] at hs<;>simp[Rs.step,h,gU,jL,v9]
     .rw[if_neg hs] at e
      obtain⟨i1,i2,i3,i4⟩:=O5 ds _ e;rw[e1] at i1 i2 i3 i4;refine⟨λh=>?_,λh h'=>?_,λh=>?_,λh=>?_⟩
      .rw[i1 h]
       cases d<;>simp[Rs.step,h,mT,Dd.iy]
      .cases d<;>simp[rg,h] at hs
       all_goals
        rw[i2 h (by simp[Rs.step,h,h'])];simp[Rs.step,h,gU]
      .rw[i3 h]
       cases d<;>simp[Rs.step,h,jt]
      .rw[i4 h]
       cases d<;>simp[rg,h] at hs
       all_goals simp[Rs.step,h,jL,z3i,Int.mul_comm]
theorem z3k{k ru:Str}{n:Int}{ds:List Rd}(R:h8 c S r (Rs.x ⟨k,ru,n,ds,[],false,[],.bq,[]⟩))(hk:k = "all" \/ k = "first" \/ k = "chain" \/ k = "round")(hr:ru = "hold" \/ ru = "hand")(sm:∀p∈ds,Sm p.1)(hl:ds.length<=100) :
  ∃ S',jy S S' r/\((ru = "hand" /\ ∃q t,fR k ds=q::t/\vN c [.obj r] S=.exc c.deedFault (aa [("piece",.str q.1),("code",.int q.2)]) S') \/
    ((ru = "hand" -> fR k ds=[])/\vN c [.obj r] S=.ok (.tup [fW k ds n,.lst ((fR k ds).map ip)]) S')):=by
 obtain⟨S',kp,h⟩:=z5h R ⟨hk,hr,sm,by simp;omega⟩ rfl;refine⟨S',kp,?_⟩;cases e:fin ds ⟨k,ru,n,ds,[],false,[],.bq,[]⟩ with
 | error q=>
   rw[e] at h;obtain⟨h1,t,h2⟩:=Jr _ _ e;exact .inl ⟨h1,q,t,h2,h⟩
 | ok y=>
   rw[e] at h;obtain⟨h1,h2⟩:=Js _ _ e;obtain⟨i1,i2,i3,i4⟩:=O5 _ _ e;have ek:=(FZ _ _ e).1;have ea:y.wU=fW k ds n:=by
    unfold Rs.wU fW;rw[ek];show(if k = "all" then _ else _)=_;rcases hk with q | q | q | q
    .have:=i1 q;simp at this;simp[q,this]
    .have:=i2 q rfl;simp at this;simp[q,this]
    .have:=i3 q;simp at this;simp[q,this]
    .have:=i4 q
     have:v9 y.num y.ard=jL ds n:=by rw[this];rfl
     simp[q,this]
   have h:vN c [.obj r] S=.ok (.tup [y.wU,.lst (y.held.map ip)]) S':=h;rw[ea,h1] at h;exact .inr ⟨h2,h⟩
end DN
namespace DN
open PySem L2 MF
variable {c:Cl}{S:bG}
noncomputable def Dd.d:Dd->iR
 |.add a=>.tuple [.str "add",.int a]
 |.say a=>.tuple [.str "say",.int a]
 |.bq=>.tuple [.str "none"]
 |.fail a=>.tuple [.str "fail",.int a]
noncomputable def BM(p:Rd):iR:=.tuple [.str p.1,p.2.d]
theorem VY:∀(ds:List Rd),md (ds.map fq)=aa (ds.map BM)
 |[]=>by simp[md]
 | (nm,d)::ds=>by
   have:=VY ds;cases d<;>simp[md,pd,fq,Dd.t,this,BM,Dd.d]
theorem VZ:eD (aj "add")=true/\eD (aj "say")=true/\eD (aj "none")=true/\eD (aj "fail")=true:=by decide +kernel
theorem V0:∀{ds:List Rd},(∀p∈ds,jY p.1)->bj (ds.map BM)=true
 |[],_=>by simp[bj]
 | (nm,d)::ds,h=>by
   have h1:=h (nm,d) (az ..);unfold jY at h1;have ih:=V0 λq hq=>h q (ao _ hq);obtain⟨t1,t2,t3,t4⟩:=VZ;cases d<;>simp[bj,bP,BM,Dd.d,h1,ih,t1,t2,t3,t4]
theorem V5:∀(ds:List Rd),bB (ds.map BM)<=2
 |[]=>by simp[bB]
 | (nm,d)::ds=>by
   have:=V5 ds;cases d<;>simp[bB,c_,BM,Dd.d] at this ⊢<;>omega
theorem O6{t:T}{ts:List T}{ds:List iR}(h:c6 S t=aa ts)(e:md ts=aa ds):oy S t=aa (.list ds):=by
 cases t with
 |lst us=>cases h;simp[oy,pd,e]
 | obj k=>
   unfold c6 at h;cases q:S[k]? with
   |none=>simp[q] at h
   | some v=>
     cases v with
     |lst us=>simp[q] at h;subst h;simp[oy,q,e]
     |_=>simp[q] at h
 |_=>cases h
theorem V6{t:T}{ts:List T}(h:c6 S t=aa ts):toV t=ae:=by
 cases t with
 |lst us=>rfl
 |obj k=>rfl
 |_=>cases h
theorem V7{t:T}{ds:List Rd}(h:c6 S t=aa (ds.map fq))(ok:∀p∈ds,jY p.1):fD t (.lst []) S=.ok (.bl ds.isEmpty) S:=by
 have:=C4 (S:=S) (x:=t) (y:=.lst []) (.inl (V6 h)) (O6 h (VY ds)) (b:=.list []) (by simp[oy,pd,md]) (by simp only[bP];exact V0 ok) (by simp[bP,bj]) (by have:=V5 ds;simp[c_];omega);have e:cw (.list (ds.map BM)) (.list [])=ds.isEmpty:=by
  cases ds<;>simp[cw,eK]
 simp[fD,this,e]
theorem V8(a:T)(l:List T):vE (a::l) (aa 1) ae=l:=by
 unfold vE;simp[HT.pj]
theorem Zc8{t:T}{k:Nat}{v:bY}(h:t≠.obj k):c6 (S.set k v) t=c6 S t:=by
 cases t with
 | obj j=>
   have ne:k≠j:=λe=>h (by rw[e]);have:=dW (S:=S) (v:=v) ne;simp[c6,this]
 |_=>rfl
theorem Jt:∀(ds:List Rd) (n:Nat) (m:Int) {t:T} {k:Nat} {hl:List T} {S:bG},t≠.obj k->c6 S t=aa (ds.map fq)->(∀p∈ds,jY p.1)->S[k]?=aa (.lst hl)->ds.length<n->hl.length+ds.length<=900 ->
  CO c n [t,.int m,.obj k] S=.ok (.int (jL ds m)) (S.set k (.lst (hl++(fR "round" ds).map ip)))
 |ds,0,m,t,k,hl,S,_,_,_,_,h,_=>by omega
 | [],n+1,m,t,k,hl,S,ne,ht,ok,hk,_,_=>by
   have e:=V7 ht ok;have es:S.set k (.lst (hl++(fR "round" []).map ip))=S:=by
    simp only[fR,gr,cW];apply jx;intro j;by_cases h:j=k
    .subst h;rw[kQ hk,hk]
    .rw[dW (bM h)]
   rw[es];show cH 4 (xO (CO c n) c) [t,.int m,.obj k] S=_;have e:fD t (.lst []) S=.ok (.bl true) S:=e;simp[xO,e,jL]
 | (nm,d)::ds,n+1,m,t,k,hl,S,ne,ht,ok,hk,hn,hb=>by
   have e:fD t (.lst []) S=.ok (.bl false) S:=V7 ht ok;have i0:∀Z,c6 Z t=aa (((nm,d)::ds).map fq)->cv t (.int 0) Z=.ok (fq (nm,d)) Z:=λZ h=>by
    have:=C5 h;simp[cv,this]
   have zN:=i0 S ht;have r0:∀Z,cv (fq (nm,d)) (.int 0) Z=.ok (.str nm) Z:=λZ=>by simp[fq]
   have r1:∀Z,cv (fq (nm,d)) (.int 1) Z=.ok d.t Z:=λZ=>by simp[fq]
   have cut:vE (((nm,d)::ds).map fq) (aa 1) ae=ds.map fq:=by
    have:=V8 (fq (nm,d)) (ds.map fq);simpa using this
   have O7:∀p∈ds,jY p.1:=λp hp=>ok p (ao _ hp);have yT:ds.length<n:=by simp at hn;omega
   show cH 4 (xO (CO c n) c) [t,.int m,.obj k] S=_;cases d with
   | say a=>
     have es:S.set k (.lst (hl++(fR "round" ((nm,.say a)::ds)).map ip))=S:=by
      simp[fR];apply jx;intro j;by_cases h:j=k
      .subst h;rw[kQ hk,hk]
      .rw[dW (bM h)]
     rw[es];generalize fq (nm,Dd.say a)=RT at zN r0 r1;simp[xO,e,zN,r1,Dd.t,jL]
   | add a=>
     have ih:=Jt ds n (m+a) (t:=.lst (ds.map fq)) (k:=k) (hl:=hl) (S:=S) (by simp) rfl O7 hk yT (by simp at hb;omega);have eh:fR "round" ((nm,.add a)::ds)=fR "round" ds:=by simp[fR]
     rw[eh];have ml:(-(2 ^ 64)<(10:Int)/\(10:Int)<2 ^ 64)\/(-(2 ^ 64)<jL ds (m+a)/\jL ds (m+a)<2 ^ 64):=.inl (by decide);generalize S.set k (.lst (hl++(fR "round" ds).map ip))=S2 at ih ⊢;have sl:uz (af 0) (uy (eC (.int 1))) ux [aa t,aa (.int m),aa (.obj k),aa (Dd.add a).t] S=.ok (.lst (ds.map fq)) S:=by
      simp only[uz,ux,uy,eR,wK,bX,HW,L',ht,cut]
     generalize ds.map fq=DL at ih sl;generalize fq (nm,Dd.add a)=RT at zN r0 r1;simp only[Dd.t] at sl r1;simp[xO,e,zN,r1,sl,ih,jL]
   | bq=>
     have ih:=Jt ds n m (t:=.lst (ds.map fq)) (k:=k) (hl:=hl) (S:=S) (by simp) rfl O7 hk yT (by simp at hb;omega);have eh:fR "round" ((nm,.bq)::ds)=fR "round" ds:=by simp[fR]
     rw[eh];generalize S.set k (.lst (hl++(fR "round" ds).map ip))=S2 at ih ⊢;have sl:uz (af 0) (uy (eC (.int 1))) ux [aa t,aa (.int m),aa (.obj k),aa Dd.bq.t] S=.ok (.lst (ds.map fq)) S:=by
      simp only[uz,ux,uy,eR,wK,bX,HW,L',ht,cut]
     generalize ds.map fq=DL at ih sl;generalize fq (nm,Dd.bq)=RT at zN r0 r1;simp only[Dd.t] at sl r1;simp[xO,e,zN,r1,sl,ih,jL]
   | fail a=>
     have ap:=vG (y:=ip (nm,a)) hk (by omega);have ih:=Jt ds n m (t:=.lst (ds.map fq)) (k:=k) (hl:=hl++[ip (nm,a)]) (S:=S.set k (.lst (hl++[ip (nm,a)]))) (by simp) rfl O7 (kQ hk) yT (by simp at hb ⊢;omega);have eh:fR "round" ((nm,.fail a)::ds)=(nm,a)::fR "round" ds:=by simp[fR]
     rw[g_,bO] at ih;rw[eh,ay];have ht1:c6 (S.set k (.lst (hl++[ip (nm,a)]))) t=aa (((nm,.fail a)::ds).map fq):=(Zc8 ne).trans ht;have sl:uz (af 0) (uy (eC (.int 1))) ux [aa t,aa (.int m),aa (.obj k),aa (Dd.fail a).t] (S.set k (.lst (hl++[ip (nm,a)])))=.ok (.lst (ds.map fq)) (S.set k (.lst (hl++[ip (nm,a)]))):=by
      simp only[uz,ux,uy,eR,wK,bX,HW,L',ht1,cut]
     have okk:=m5 hk;simp only[ip] at ap sl ih ⊢;generalize S.set k (.lst (hl++[T.tup [.str nm,.int a]]))=S1 at ap sl ih;simp only[List.singleton_append] at ih;generalize S.set k (.lst (hl++(T.tup [.str nm,.int a]::(fR "round" ds).map λp=>.tup [.str p.1,.int p.2])))=S2 at ih ⊢;generalize ds.map fq=DL at ih sl;generalize fq (nm,Dd.fail a)=RT at zN r0 r1;simp only[Dd.t] at sl r1;simp[xO,e,zN,r0,r1,okk,ap,sl,ih,jL]
end DN
namespace DN
open PySem L2 MF
variable {c:Cl}{S:bG}{t:T}{kh kt:Nat}
noncomputable def gH(k:Str)(t:T)(m:Int)(kh kt:Nat)(a b d:Option T):Ev:=[aa (.str k),aa t,aa (.int m),aa (.obj kh),aa (.obj kt),a,b,d]
theorem z5i{k:Str}{m a:Int}{nm:Str}{x7:Option T}{hl:List T}(hk:S[kh]?=aa (.lst hl))(h9:hl.length<900) :
  qm c (gH k t m kh kt (aa (.str nm)) (aa (Dd.fail a).t) x7) S=.ok (.nx (gH k t m kh kt (aa (.str nm)) (aa (Dd.fail a).t) (aa .bq))) (S.set kh (.lst (hl++[ip (nm,a)]))):=by
 have sa:=De (c:=c) (S:=S) (.fail a) m;have ap:=vG (y:=ip (nm,a)) hk (by omega);simp only[Dd.t,Dd.iy,ip] at sa ap ⊢;simp[qm,gH,sa,m5 hk,ap]
theorem z9h{m:Int}{nm:Str}{d:Dd}{x7:Option T}{tl:List T}(hd:∀a,d≠.fail a)(hk:S[kt]?=aa (.lst tl))(h9:tl.length<900) :
  qm c (gH "all" t m kh kt (aa (.str nm)) (aa d.t) x7) S=.ok (.nx (gH "all" t m kh kt (aa (.str nm)) (aa d.t) (aa (d.iy m)))) (S.set kt (.lst (tl++[lZ (nm,d.iy m)]))):=by
 have sa:=De (c:=c) (S:=S) d m;have ap:=vG (y:=lZ (nm,d.iy m)) hk (by omega);cases d with
 |fail a=>exact absurd rfl (hd a)
 | _=>
   simp only[Dd.t,Dd.iy,lZ] at sa ap ⊢;simp[qm,gH,sa,m5 hk,ap]
theorem z5j{k:Str}{m:Int}{nm:Str}{d:Dd}{x7:Option T}(hk:k = "first" \/ k = "chain")(hd:∀a,d≠.fail a) :
  qm c (gH k t m kh kt (aa (.str nm)) (aa d.t) x7) S=(match d with
   |.add a=>if k = "first" then .ok (.rt (.int (m+a))) S else .ok (.nx (gH k t (m+a) kh kt (aa (.str nm)) (aa d.t) (aa (.int (m+a))))) S
   |.say a=>if k = "first" then .ok (.rt (.int a)) S else .ok (.nx (gH k t a kh kt (aa (.str nm)) (aa d.t) (aa (.int a)))) S
   |_=>.ok (.nx (gH k t m kh kt (aa (.str nm)) (aa d.t) (aa .bq))) S):=by
 have sa:=De (c:=c) (S:=S) d m;cases d with
 |fail a=>exact absurd rfl (hd a)
 | _=>
   simp only[Dd.t,Dd.iy] at sa ⊢;rcases hk with rfl | rfl<;>simp[qm,gH,sa,vx,mK]
structure Dg(S S':bG)(kh kt:Nat)(hs ts:List T):Prop where
 len:S'.length=S.length
 h:S'[kh]?=aa (.lst hs)
 t:S'[kt]?=aa (.lst ts)
 same:∀j,j≠kh->j≠kt->S'[j]?=S[j]?
theorem Ju {k:Str} (hk:k = "all" \/ k = "first" \/ k = "chain") (ne:kh≠kt) {st:bG->Prop} (eY:∀S',(∀j,j≠kh->j≠kt->S'[j]?=S[j]?)->st S') :
  ∀ (ds:List Rd) (m:Int) {hl tl:List T} {a b d:Option T} {S1:bG},Dg S S1 kh kt hl tl->hl.length+ds.length<=900->tl.length+ds.length<=900 ->
    ∃ S' a' b' d',Dg S S' kh kt (hl++(fR k ds).map ip) (if k = "all" then tl++(mT m ds).map lZ else tl) /\
      d9 st (qh 5 6) (qm c) (ds.map fq) (gH k t m kh kt a b d) S1=(if k = "first" /\ mK (gU m ds)=false then .ok (.rt (gU m ds)) S' else .ok (.nx (gH k t (if k = "chain" then jt ds m else m) kh kt a' b' d')) S')
 | [],m,hl,tl,a,b,d,S1,A,_,_=>by
   refine⟨S1,a,b,d,?_,?_⟩
   .simpa[fR,mT] using A
   .simp[d9,eY S1 A.same,gU,jt,mK]
 | (nm, dd)::ds,m,hl,tl,a,b,d,S1,A,h1,h2=>by
   have un:∀{ρ':Ev} {S2:bG},qm c (gH k t m kh kt (aa (.str nm)) (aa dd.t) d) S1=.ok (.nx ρ') S2->d9 st (qh 5 6) (qm c) (((nm,dd)::ds).map fq) (gH k t m kh kt a b d) S1=d9 st (qh 5 6) (qm c) (ds.map fq) ρ' S2:=λ{ρ' S2} e=>by
    simp only[ay,d9,eY S1 A.same,if_true,fq,qh];show(M.bind (qm c (gH k t m kh kt (aa (.str nm)) (aa dd.t) d)) _) S1=_;rw[eR,e]
   have lh:hl.length<900:=by simp at h1;omega
   have lt:tl.length<900:=by simp at h2;omega
   by_cases hf:∃x,dd=.fail x
   .obtain⟨x,rfl⟩:=hf
    have A1:Dg S (S1.set kh (.lst (hl++[ip (nm,x)]))) kh kt (hl++[ip (nm,x)]) tl:=⟨by simp[A.len],kQ A.h,by rw[dW ne];exact A.t,λj q1 q2=>by rw[dW (bM q1)];exact A.same j q1 q2⟩;obtain⟨S',a',b',d',A',e'⟩:=Ju hk ne eY ds m (a:=aa (.str nm)) (b:=aa (Dd.fail x).t) (d:=aa .bq) A1 (by simp at h1 ⊢;omega) (by simp at h2;omega);refine⟨S',a',b',d',?_,?_⟩
    .simpa[fR,mT] using A'
    .have ef:gU m ((nm,.fail x)::ds)=gU m ds:=by simp[gU]
     have ec:jt ((nm,.fail x)::ds) m=jt ds m:=by simp[jt]
     rw[un (z5i A.h lh),e',ef,ec]
   .have nf:∀x,dd≠.fail x:=λx e=>hf ⟨x,e⟩
    rcases hk with rfl | hk
    .have A1:Dg S (S1.set kt (.lst (tl++[lZ (nm,dd.iy m)]))) kh kt hl (tl++[lZ (nm,dd.iy m)]):=⟨by simp[A.len],by rw[dW (bM ne)];exact A.h,kQ A.t,λj q1 q2=>by rw[dW (bM q2)];exact A.same j q1 q2⟩
     obtain⟨S',a',b',d',A',e'⟩:=Ju (.inl rfl) ne eY ds m (a:=aa (.str nm)) (b:=aa dd.t) (d:=aa (dd.iy m)) A1 (by simp at h1;omega) (by simp at h2 ⊢;omega);refine⟨S',a',b',d',?_,?_⟩
     .cases dd with
      |fail x=>exact absurd rfl (nf x)
      |_=>simpa[fR,mT,Dd.iy] using A'
     .rw[un (z9h nf A.t lt),e']
      simp
    .have ar:=z5j (c:=c) (S:=S1) (t:=t) (kh:=kh) (kt:=kt) (nm:=nm) (m:=m) (x7:=d) hk nf
     have na:¬k = "all":=by rcases hk with rfl | rfl<;>simp
     have go:∀m' x',qm c (gH k t m kh kt (aa (.str nm)) (aa dd.t) d) S1=.ok (.nx (gH k t m' kh kt (aa (.str nm)) (aa dd.t) x')) S1->fR k ((nm,dd)::ds)=fR k ds->(k = "first" -> gU m ((nm,dd)::ds)=gU m' ds)->(k = "chain" -> jt ((nm,dd)::ds) m=jt ds m')->(k ≠ "chain" -> m'=m) ->
      ∃S' a' b' d',Dg S S' kh kt (hl++(fR k ((nm,dd)::ds)).map ip) (if k = "all" then tl++(mT m ((nm,dd)::ds)).map lZ else tl)/\d9 st (qh 5 6) (qm c) (((nm,dd)::ds).map fq) (gH k t m kh kt a b d) S1=(if k = "first" /\ mK (gU m ((nm,dd)::ds))=false then .ok (.rt (gU m ((nm,dd)::ds))) S' else .ok (.nx (gH k t (if k = "chain" then jt ((nm,dd)::ds) m else m) kh kt a' b' d')) S'):=λm' x' e eh ef ec em=>by
      obtain⟨S',a',b',d',A',e'⟩:=Ju (.inr hk) ne eY ds m' (a:=aa (.str nm)) (b:=aa dd.t) (d:=x') A (by simp at h1;omega) (by simp at h2;omega);refine⟨S',a',b',d',?_,?_⟩
      .rw[eh,if_neg na];rw[if_neg na] at A';exact A'
      .rw[un e,e']
       rcases hk with rfl | rfl
       .rw[ef rfl];simp[em]
       .rw[ec rfl];simp
     cases dd with
     |fail x=>exact absurd rfl (nf x)
     |bq=>exact go m _ ar (by simp[fR]) (λ_=>by simp[gU]) (λ_=>by simp[jt]) (λ_=>rfl)
     | add x=>
       by_cases q:k = "first"
       .subst q
        refine⟨S1,a,b,d,by simpa[fR] using A,?_⟩;simp only[ay,d9,eY S1 A.same,if_true,fq,qh];show(M.bind (qm c (gH "first" t m kh kt (aa (.str nm)) (aa (Dd.add x).t) d)) _) S1=_;rw[eR,ar];simp[gU,mK]
       .have ar:qm c (gH k t m kh kt (aa (.str nm)) (aa (Dd.add x).t) d) S1=(if k = "first" then .ok (.rt (.int (m+x))) S1 else .ok (.nx (gH k t (m+x) kh kt (aa (.str nm)) (aa (Dd.add x).t) (aa (.int (m+x))))) S1):=ar
        rw[if_neg q] at ar;have kc:k = "chain":=hk.resolve_left q;exact go (m+x) _ ar (by simp[fR,q]) (λh=>absurd h q) (λ_=>by simp[jt]) (λh=>absurd kc h)
     | say x=>
       by_cases q:k = "first"
       .subst q
        refine⟨S1,a,b,d,by simpa[fR] using A,?_⟩;simp only[ay,d9,eY S1 A.same,if_true,fq,qh];show(M.bind (qm c (gH "first" t m kh kt (aa (.str nm)) (aa (Dd.say x).t) d)) _) S1=_;rw[eR,ar];simp[gU,mK]
       .have ar:qm c (gH k t m kh kt (aa (.str nm)) (aa (Dd.say x).t) d) S1=(if k = "first" then .ok (.rt (.int x)) S1 else .ok (.nx (gH k t x kh kt (aa (.str nm)) (aa (Dd.say x).t) (aa (.int x)))) S1):=ar
        rw[if_neg q] at ar;have kc:k = "chain":=hk.resolve_left q;exact go x _ ar (by simp[fR,kc]) (λh=>absurd h q) (λ_=>by simp[jt]) (λh=>absurd kc h)
end DN
namespace DN
open PySem L2 MF
variable {c:Cl}{S:bG}
theorem Ze0{k:Str}{kt:Nat}{m:Int}{t1 t3 t5 t6 t7:Option T}(hk:k = "all" \/ k = "first" \/ k = "chain") :
  ∃S',e2 je (E2 (eC (.str "all")) (af 4) (eC (.str "first")) (eC .bq) (eC (.str "chain")) (af 2)) (af 0) [aa (.str k),t1,aa (.int m),t3,aa (.obj kt),t5,t6,t7] S=.ok (if k = "all" then .obj kt else if k = "first" then .bq else .int m) S'/\S.length<=S'.length/\∀j,j<S.length->S'[j]?=S[j]?:=by
 have n1:(dI (aj "all"):cg)≠.inr (aj "first")/\(dI (aj "all"):cg)≠.inr (aj "chain")/\(dI (aj "first"):cg)≠.inr (aj "chain"):=by simp
 have e:E2 (eC (.str "all")) (af 4) (eC (.str "first")) (eC .bq) (eC (.str "chain")) (af 2) [aa (.str k),t1,aa (.int m),t3,aa (.obj kt),t5,t6,t7] S=.ok (.obj S.length) (S++[.dic [(.inr "all",.obj kt),(.inr "first",.bq),(.inr "chain",.int m)]]):=by
  simp[E2,eE]
 refine⟨S++[.dic [(.inr "all",.obj kt),(.inr "first",.bq),(.inr "chain",.int m)]],?_,by simp,λj hj=>aD hj⟩;rw[vF,eR,e];rcases hk with rfl | rfl | rfl<;>simp[je,nU,eE,dO]
structure V9(S:bG)(n:Nat)(k:Str)(ds:List Rd)(m:Int)(a:T):Prop where
 all:k = "all" -> ∃kt,a=.obj kt/\n<=kt/\S[kt]?=aa (.lst ((mT m ds).map lZ))
 els:k ≠ "all" -> a=fW k ds m
theorem z3m{k:Str}{ds:List Rd}{m:Int}{t:T}{kh:Nat}(hk:k = "all" \/ k = "first" \/ k = "chain" \/ k = "round")(hv:∀S',(∀j,j<S.length->j≠kh->S'[j]?=S[j]?)->c6 S' t=aa (ds.map fq))(ne:t≠.obj kh)(ok:∀p∈ds,jY p.1)(hh:S[kh]?=aa (.lst []))(hl:ds.length<24) :
  ∃a S',xP c [.str k,t,.int m,.obj kh] S=.ok a S'/\V9 S' S.length k ds m a/\S'[kh]?=aa (.lst ((fR k ds).map ip))/\S.length<=S'.length/\∀j,j<S.length->j≠kh->S'[j]?=S[j]?:=by
 have rB:kh<S.length:=(aw.mp hh).1;have cl:k ≠ "round" -> ∃a S',xP c [.str k,t,.int m,.obj kh] S=.ok a S'/\V9 S' S.length k ds m a/\S'[kh]?=aa (.lst ((fR k ds).map ip))/\S.length<=S'.length/\∀j,j<S.length->j≠kh->S'[j]?=S[j]?:=λhr=>by
  have zu:k = "all" \/ k = "first" \/ k = "chain":=by
   rcases hk with h | h | h | h
   .exact .inl h
   .exact .inr (.inl h)
   .exact .inr (.inr h)
   .exact absurd h hr
  have vk:∀{S':bG},(∀j,j≠kh->j≠S.length->S'[j]?=(S++[bY.lst []])[j]?)->∀j,j<S.length->j≠kh->S'[j]?=S[j]?:=λh j hj hn=>by rw[h j hn (by omega),aD hj]
  have A0:Dg (S++[.lst []]) (S++[.lst []]) kh S.length [] []:=⟨rfl,nC hh,qZ,λ_ _ _=>rfl⟩;obtain⟨S1,x5,x6,x7,A,e⟩:=Ju (c:=c) (t:=t) (kh:=kh) (kt:=S.length) (S:=S++[.lst []]) zu (by omega) (st:=λS'=>c6 S' t=aa (ds.map fq)) (λS' h=>hv S' (vk h)) ds m (a:=ae) (b:=ae) (d:=ae) A0 (by simp;omega) (by simp;omega);have pH:iL (af 1) (gH k t m kh S.length ae ae ae) (S++[.lst []])=.ok (ds.map fq,λS'=>c6 S' t=aa (ds.map fq)) (S++[.lst []]):=by
   have:=hv (S++[.lst []]) (λj hj _=>aD hj);simp[gH,this]
  have fe:=(OZ pH).trans e;have i0:eV (dN (e2 fD (af 0) (eC (.str "round")))) (b_ (fH (bt 3 (Fk c)) [] (aP (af 1) (aP (af 2) (aP (af 3) aF))))) gp [aa (.str k),aa t,aa (.int m),aa (.obj kh),ae,ae,ae,ae] S=.ok (.nx [aa (.str k),aa t,aa (.int m),aa (.obj kh),ae,ae,ae,ae]) S:=by simp[hr]
  have i1:cE 4 (eA jg aF) [aa (.str k),aa t,aa (.int m),aa (.obj kh),ae,ae,ae,ae] S=.ok (.nx (gH k t m kh S.length ae ae ae)) (S++[.lst []]):=by simp[gH]
  have l1:S1.length=S.length+1:=by rw[A.len];simp
  have hH:=A.h;rw[bU] at hH;by_cases hq:k = "first" /\ mK (gU m ds)=false
  .rw[if_pos hq] at fe
   refine⟨gU m ds,S1,?_,⟨λq=>?_,λ_=>?_⟩,hH,by omega,vk A.same⟩
   .unfold xP
    refine uc (ρ:=[aa (.str k),aa t,aa (.int m),aa (.obj kh),ae,ae,ae,ae]) rfl ?_;unfold IH;rw[iB i0,iB i1];exact C_ fe
   .rw[hq.1] at q;simp at q
   .simp[fW,hq.1]
  .rw [if_neg hq] at fe
   obtain⟨S2,e3,l3,k3⟩:=Ze0 (S:=S1) (k:=k) (kt:=S.length) (m:=if k = "chain" then jt ds m else m) (t1:=aa t) (t3:=aa (.obj kh)) (t5:=x5) (t6:=x6) (t7:=x7) zu;refine⟨if k = "all" then .obj S.length else if k = "first" then .bq else .int (if k = "chain" then jt ds m else m),S2,?_,⟨λq=>⟨S.length,if_pos q,aB _,?_⟩,λq=>?_⟩,?_,by omega,λj hj hn=>by rw[k3 j (by omega)];exact vk A.same j hj hn⟩
   .unfold xP
    refine uc (ρ:=[aa (.str k),aa t,aa (.int m),aa (.obj kh),ae,ae,ae,ae]) rfl ?_;unfold IH;rw[iB i0,iB i1,iB fe];exact Dc e3
   .rw[k3 _ (by omega),A.t,if_pos q];rfl
   .rw[if_neg q]
    unfold fW;rw[if_neg q];by_cases q1:k = "first"
    .rw[if_pos q1,if_pos q1]
     have:mK (gU m ds)=true:=by
      cases h:mK (gU m ds) with
      |true=>rfl
      |false=>exact absurd ⟨q1,h⟩ hq
     cases h:gU m ds<;>rw[h] at this<;>first | rfl | cases this
    .have q2:k = "chain":=(zu.resolve_left q).resolve_left q1
     rw[if_neg q1,if_neg q1,if_pos q2,if_pos q2]
   .rw[k3 _ (by omega)];exact hH
 by_cases hr:k = "round"
 .subst hr
  have vS:=hv S (λ_ _ _=>rfl);have e:=Jt (c:=c) ds 24 m ne vS ok hh hl (by simp;omega);rw[bU] at e;refine⟨.int (jL ds m),_,?_,⟨λq=>by simp at q,λ_=>by simp[fW]⟩,kQ hh,by simp,λj _ hn=>dW (bM hn)⟩;unfold xP;refine uc (ρ:=[aa (.str "round"),aa t,aa (.int m),aa (.obj kh),ae,ae,ae,ae]) rfl ?_;unfold IH;have i0:eV (dN (e2 fD (af 0) (eC (.str "round")))) (b_ (fH (bt 3 (Fk c)) [] (aP (af 1) (aP (af 2) (aP (af 3) aF))))) gp [aa (.str "round"),aa t,aa (.int m),aa (.obj kh),ae,ae,ae,ae] S=.ok (.rt (.int (jL ds m))) (S.set kh (.lst ((fR "round" ds).map ip))):=by
   have e:Fk c [t,.int m,.obj kh] S=_:=e;rw[A3,eR];have:dN (e2 fD (af 0) (eC (.str "round"))) [aa (.str "round"),aa t,aa (.int m),aa (.obj kh),ae,ae,ae,ae] S=.ok true S:=by simp
   rw[this];exact Dc (uI (mS rfl (mS rfl (mS rfl rfl))) rfl e)
  exact C_ i0
 .exact cl hr
end DN
namespace DN
open PySem L2 MF
variable {c:Cl}{S:bG}
theorem V_{S':bG}{n f k:Nat}{us:List T}(hk:n<=k)(hc:S'[k]?=aa (.lst us))(hb:∀t∈us,HB n t):fz S' n (f+1) (.obj k)=aa (.lst us):=by
 unfold fz;rw[if_neg (by simp only[HB];omega)];simp only[hc];rw[Me λt ht=>Cw (hb t ht)];rfl
theorem Ze1(n:Nat)(l:List (Str×Int)):∀t∈l.map ip,HB n t:=λt ht=>by
 obtain⟨p,_,rfl⟩:=au.mp ht;exact A7 (by simp)
theorem O8(n:Nat)(m:Int):∀(ds:List Rd),∀t∈(mT m ds).map lZ,HB n t
 |[],t,h=>by cases h
 | (nm,d)::ds,t,h=>by
   have ih:=O8 n m ds t;cases d with
   |fail a=>exact ih h
   | _=>
     simp only[mT,ay,aH] at h;rcases h with rfl | h
     .exact A7 (by simp)
     .exact ih h
theorem Zda(n:Nat)(k:Str)(ds:List Rd)(m:Int):HB n (fW k ds m):=by
 unfold fW;have fst:∀ds:List Rd,HB n (gU m ds):=λds=>by
  induction ds with
  |nil=>simp[gU]
  | cons p ds ih=>
    obtain⟨nm,d⟩:=p;cases d<;>simp[gU,ih]
 split
 .exact SD (O8 n m ds)
 .split
  .exact fst ds
  .split<;>simp
noncomputable def BN(p:Str×Int):iR:=.tuple [.str p.1,.int p.2]
theorem Wa:∀(l:List (Str×Int)),md (l.map ip)=aa (l.map BN)
 |[]=>by simp[md]
 | p::l=>by
   have:=Wa l;simp[md,pd,ip,this,BN]
theorem Wb{k:Str}:∀{ds:List Rd} {q:Str×Int},q∈fR k ds->∃p∈ds,p.1=q.1
 |[],q,h=>by cases h
 | (nm,d)::ds,q,h=>by
   have ih:q∈fR k ds->∃p∈(nm,d)::ds,p.1=q.1:=λh=>by
    obtain⟨p,hp,e⟩:=Wb h;exact⟨p,ao _ hp,e⟩
   cases d with
   | fail a=>
     simp only[fR,aH] at h;rcases h with rfl | h
     .exact⟨_,az ..,rfl⟩
     .exact ih h
   |bq=>exact ih h
   | _=>
     simp only[fR] at h
     split at h
     .cases h
     .exact ih h
theorem Wc:∀{l:List (Str×Int)},(∀p∈l,jY p.1)->bj (l.map BN)=true
 |[],_=>by simp[bj]
 | p::l,h=>by
   have h1:=h p (az ..);unfold jY at h1;have ih:=Wc λq hq=>h q (ao _ hq);simp[bj,bP,BN,h1,ih]
theorem We:∀(l:List (Str×Int)),bB (l.map BN)<=1
 |[]=>by simp[bB]
 | p::l=>by
   have:=We l;simp[bB,c_,BN] at this ⊢;omega
theorem Zdb{t:T}{l:List (Str×Int)}(h:c6 S t=aa (l.map ip))(ok:∀p∈l,jY p.1):oz t (.lst []) S=.ok (.bl !l.isEmpty) S:=by
 have:=C4 (S:=S) (x:=t) (y:=.lst []) (.inl (V6 h)) (O6 h (Wa l)) (b:=.list []) (by simp[oy,pd,md]) (by simp only[bP];exact Wc ok) (by simp[bP,bj]) (by have:=We l;simp[c_];omega);have e:cw (.list (l.map BN)) (.list [])=l.isEmpty:=by
  cases l<;>simp[cw,eK]
 simp[oz,this,e]
noncomputable def yC(k ru:Str)(ds:List Rd)(m:Int):T:=match ru = "hand",fR k ds with
 |_,[]=>.tup [.str "told",.tup [fW k ds m,.lst []]]
 |_,q::l=>if ru = "hand" then .tup [.str "fault",ip q] else .tup [.str "told",.tup [fW k ds m,.lst ((q::l).map ip)]]
theorem Wf{k ru:Str}{ds:List Rd}{m:Int}{t:T}(hk:k = "all" \/ k = "first" \/ k = "chain" \/ k = "round")(hv:sE S t (ds.map fq))(ok:∀p∈ds,jY p.1)(hl:ds.length<24) :
  zC c [.str k,.str ru,t,.int m] S=.ok (yC k ru ds m) S:=by
 have mZ:t≠.obj S.length:=λe=>by
  have:=hv.now;rw[e] at this;simp[c6] at this
 obtain⟨a,S',e,A,hh,l1,k1⟩:=z3m (c:=c) (S:=S++[.lst []]) (k:=k) (ds:=ds) (m:=m) (t:=t) (kh:=S.length) hk (λS' h=>hv S' λj hj=>by rw[h j (by simp;omega) (by omega),aD hj]) mZ ok qZ hl;have keep:∀j,j<S.length->S'[j]?=S[j]?:=λj hj=>by rw[k1 j (by simp;omega) (by omega),aD hj]
 have tk:=z3e keep;have okh:∀q∈fR k ds,jY q.1:=λq hq=>by
  obtain⟨p,hp,e⟩:=Wb hq;rw[<- e];exact ok p hp
 have nn:=Zdb (S:=S') (t:=.obj S.length) (lQ hh) okh;have fa:∀f,fz S' S.length (f+1) a=aa (fW k ds m):=λf=>by
  by_cases q:k = "all"
  .obtain⟨kt,rfl,h1,h2⟩:=A.all q
   rw[V_ (by simp at h1;omega) h2 (O8 _ _ _)];simp[fW,q]
  .rw[A.els q];exact Cw (Zda _ _ _ _)
 have ap:=uI (F:=xP c) (fr:=aP (af 0) (aP (af 2) (aP (af 3) (aP (af 4) aF)))) (ρ:=[aa (.str k),aa (.str ru),aa t,aa (.int m),aa (.obj S.length),ae]) (n:=4) (mS rfl (mS rfl (mS rfl (mS rfl rfl)))) rfl e;have s1:cE 4 (eA jg aF) [aa (.str k),aa (.str ru),aa t,aa (.int m),ae,ae] S=.ok (.nx [aa (.str k),aa (.str ru),aa t,aa (.int m),aa (.obj S.length),ae]) (S++[.lst []]):=by simp
 have go:∀{v:T},(aR (eV (vw (dN (e2 fD (af 1) (eC (.str "hand")))) (dN (e2 oz (af 4) (eA fN aF)))) (b_ (eA f_ (aP (eC (.str "fault")) (aP (e2 cv (af 4) (eC (.int 0))) aF)))) gp) (b_ (eA f_ (aP (eC (.str "told")) (aP (eA f_ (aP (af 5) (aP (af 4) aF))) aF))))) [aa (.str k),aa (.str ru),aa t,aa (.int m),aa (.obj S.length),aa a] S'=.ok (.rt v) S'->cH 6 (Fm c) [.str k,.str ru,t,.int m] S=.ok v S':=λh=>by
  refine uc (ρ:=[aa (.str k),aa (.str ru),aa t,aa (.int m),ae,ae]) rfl ?_;unfold Fm;rw[iB s1,iB (nE ap)];exact h
 have told:(ru = "hand" -> fR k ds=[])->zC c [.str k,.str ru,t,.int m] S=.ok (.tup [.str "told",.tup [fW k ds m,.lst ((fR k ds).map ip)]]) S:=λh=>by
  have run:cH 6 (Fm c) [.str k,.str ru,t,.int m] S=.ok (.tup [.str "told",.tup [a,.obj S.length]]) S':=go (by
   by_cases q:ru = "hand"
   .rw[h q] at nn
    simp[q,nn]
   .simp[q])
  unfold zC lg;rw[run];have hc:=V_ (f:=3) (aB S.length) hh (Ze1 _ _);have f1:fz S' S.length 6 (.tup [.str "told",.tup [a,.obj S.length]])=aa (.tup [.str "told",.tup [fW k ds m,.lst ((fR k ds).map ip)]]):=by
   have nb:¬HB S.length (.tup [.str "told",.tup [a,.obj S.length]]):=by simp[HB,sV]
   have nb2:¬HB S.length (.tup [a,.obj S.length]):=by simp[HB,sV]
   have f0:fz S' S.length 5 (.str (aj "told"))=aa (.str "told"):=Cw (by simp);have f2:fz S' S.length 5 (.tup [a,.obj S.length])=aa (.tup [fW k ds m,.lst ((fR k ds).map ip)]):=by
    unfold fz;rw[if_neg nb2];simp only[iw,fa 3,hc];rfl
   unfold fz;rw[if_neg nb];simp only[iw,f0,f2];rfl
  simp only[if_pos tk,f1]
 unfold yC;cases hq:fR k ds with
 | nil=>
   have:=told (λ_=>hq);rw[hq] at this;exact this
 | cons q l=>
   simp only;by_cases hr:ru = "hand"
   .rw[if_pos hr]
    rw[hq] at nn hh;have ix:cv (.obj S.length) (.int 0) S'=.ok (ip q) S':=by
     have:=C5 (lQ hh);simp[cv,this]
    have run:cH 6 (Fm c) [.str k,.str ru,t,.int m] S=.ok (.tup [.str "fault",ip q]) S':=go (by
     simp at nn;simp[hr,nn,ix])
    exact HX run tk (A7 λu hu=>by
     simp only[aH,cO,or_false] at hu;rcases hu with rfl | rfl
     .simp
     .exact A7 (by simp))
   .rw[if_neg hr,<- hq]
    exact told (λh=>absurd h hr)
end DN
namespace DN
open PySem L2 MF
variable {c:Cl}{S:bG}
def F0(v:T):Prop:=v=.bq\/∃i,v=.int i
theorem Wg{v:T}(h:F0 v):zD c [v,v] S=.ok (.bl true) S:=by
 rcases h with rfl | ⟨i,rfl⟩
 .simp[zD,M',mL,mK]
 .have e:Fo c [.int i] S=.ok (.bl true) S:=by simp[Fo,TX,kE,oO,pC]
  simp[zD,M',mL,mK,e,pC]
theorem Wh{f d:T}{l:List (Str×T)}(hf:c6 S f=aa (l.map lZ))(hd:c6 S d=aa (l.map lZ))(hv:∀p∈l,F0 p.2)(hl:l.length<=900):vO c [f,d] S=.ok (.bl true) S:=by
 have sf:=C5 hf;have sd:=C5 hd;have lf:hW f S=.ok (.int l.length) S:=by simp[hW,sf]
 have ld:hW d S=.ok (.int l.length) S:=by simp[hW,sd]
 have BO:kE .list f S=.ok (.bl true) S:=by
  cases f with
  |lst us=>rfl
  | obj k=>
    unfold c6 at hf;cases q:S[k]? with
    |none=>simp[q] at hf
    | some v=>
      cases v with
      |lst us=>simp[kE,oO,q]
      |_=>simp[q] at hf
  |_=>cases hf
 have pH:vB (aP (e1 hW (af 1)) aF) [aa f,aa d,ae,ae] S=.ok (qi 0 l.length,λ_=>True) S:=by
  obtain⟨m,hm⟩:∃m:Int,m=(l.length:Int):=⟨_,rfl⟩;have ha:aP (e1 hW (af 1)) aF [aa f,aa d,ae,ae] S=.ok [.int m] S:=by
   rw[hm];simp[ld]
  have h1:m.toNat=l.length:=by omega
  have h2:-1000000<=m/\m<=1000000:=by omega
  rw[Sz,eR,ha];simp only[if_pos h2,h1]
 obtain⟨ρ',e,x2,x3,rfl⟩:=VL (S:=S) (st:=λ_=>True) (g:=eM 2) (body:=II c) (fun ρ=>∃x2 x3,ρ=[aa f,aa d,x2,x3]) trivial (qi 0 l.length) _ ⟨ae,ae,rfl⟩ (λu hu ρ ⟨x2,x3,hρ⟩=>by
  subst hρ;obtain⟨i,hi,rfl⟩:=au.mp hu;have hi:=eZ.mp hi;have ez:(0:Int)+(i:Int)=i:=by omega
  rw[ez];have eg:(l.map lZ)[i]?=aa (lZ l[i]):=by rw[cT,a_ hi];rfl
  have ia:kD (l.map lZ) (i:Int)=aa (lZ l[i]):=Ap eg;have i1:cv f (.int i) S=.ok (lZ l[i]) S:=by simp only[cv,sf,ia]
  have i2:cv d (.int i) S=.ok (lZ l[i]) S:=by simp only[cv,sd,ia]
  have fv:=Wg (c:=c) (S:=S) (hv l[i] (wY hi));generalize l[i]=p at i1 i2 fv;obtain⟨nm,v⟩:=p;simp only[lZ] at i1 i2 fv;have tt:kE .tuple (.tup [.str nm,v]) S=.ok (.bl true) S:=rfl;have l2:hW (.tup [.str nm,v]) S=.ok (.int 2) S:=by simp[hW]
  refine⟨_,rfl,[aa f,aa d,aa (.int i),aa (.tup [.str nm,v])],?_,_,_,rfl⟩;show II c [aa f,aa d,aa (.int i),x3] S=_;simp[II,i1,i2,tt,l2,fv])
 unfold vO;refine uc (ρ:=[aa f,aa d,ae,ae]) rfl ?_;unfold TY;have e0:(eV (lO (si (nA (e1 (kE .list) (af 0)))) (dN (e2 oz (e1 hW (af 0)) (e1 hW (af 1))))) (b_ (eC (.bl false))) gp) [aa f,aa d,ae,ae] S=.ok (.nx [aa f,aa d,ae,ae]) S:=by
  simp[BO,lf,ld]
 rw[iB e0,iB ((OZ pH).trans e)];rfl
theorem O9(m:Int):∀(ds:List Rd),∀p∈mT m ds,F0 p.2
 |[],p,h=>by cases h
 | (nm,d)::ds,p,h=>by
   cases d with
   |fail a=>exact O9 m ds p h
   | _=>
     simp only[mT,aH] at h;rcases h with rfl | h
     .first | exact .inl rfl | exact .inr ⟨_,rfl⟩
     .exact O9 m ds p h
theorem Wi(m:Int):∀(ds:List Rd),(mT m ds).length<=ds.length
 |[]=>by simp[mT]
 | (nm,d)::ds=>by
   have:=Wi m ds;cases d<;>simp[mT]<;>omega
theorem Wj(k:Str):∀(ds:List Rd),(fR k ds).length<=ds.length
 |[]=>by simp[fR]
 | (nm,d)::ds=>by
   have:=Wj k ds;cases d<;>simp only[fR,aY]
   .split<;>simp<;>omega
   .split<;>simp<;>omega
   .omega
   .omega
theorem Wk(m:Int):∀(ds:List Rd),F0 (gU m ds)
 |[]=>.inl rfl
 | (nm,d)::ds=>by
   have:=Wk m ds;cases d with
   |add a=>exact .inr ⟨_,rfl⟩
   |say a=>exact .inr ⟨_,rfl⟩
   |bq=>exact this
   |fail a=>exact this
theorem zzt{f d:T}{l:List (Str×Int)}(hf:c6 S f=aa (l.map ip))(hd:c6 S d=aa (l.map ip))(hl:l.length<=900):vO c [f,d] S=.ok (.bl true) S:=by
 have e:l.map ip=(l.map λp=>(p.1,T.int p.2)).map lZ:=by rw[bQ];rfl
 rw[e] at hf hd;exact Wh hf hd (λp hp=>by obtain⟨q,_,rfl⟩:=au.mp hp;exact .inr ⟨_,rfl⟩) (by simpa using hl)
theorem zwf{k:Str}{ds:List Rd}{m:Int}{f:T}(hf:(k = "all" -> c6 S f=aa ((mT m ds).map lZ))/\(k ≠ "all" -> f=fW k ds m))(hl:ds.length<=900):xQ c [f,fW k ds m] S=.ok (.bl true) S:=by
 by_cases q:k = "all"
 .have ea:fW k ds m=.lst ((mT m ds).map lZ):=by simp[fW,q]
  rw[ea];have al:=Wh (c:=c) (hf.1 q) (d:=.lst ((mT m ds).map lZ)) rfl (O9 m ds) (by have:=Wi m ds;omega);have BO:kE .list (.lst ((mT m ds).map lZ)) S=.ok (.bl true) S:=rfl;generalize T.lst ((mT m ds).map lZ)=A at al BO ⊢;simp[xQ,Na,BO,al]
 .rw[hf.2 q]
  have hv:F0 (fW k ds m):=by
   unfold fW;rw[if_neg q]
   split
   .exact Wk m ds
   .split<;>exact .inr ⟨_,rfl⟩
  have fv:=Wg (c:=c) (S:=S) hv;have BO:kE .list (fW k ds m) S=.ok (.bl false) S:=by rcases hv with h | ⟨i,h⟩<;>rw[h]<;>rfl
  generalize fW k ds m=A at fv BO ⊢;simp[xQ,Na,BO,fv]
end DN
namespace DN
open PySem L2 MF
variable {c:Cl}{S:bG}
open Classical in
def Dd.of(t:T):Dd:=if h:∃d:Dd,d.t=t then h.choose else .bq
theorem Dd.O_{t:T}(h:∃d:Dd,d.t=t):(Dd.of t).t=t:=by
 unfold Dd.of;rw[dif_pos h];exact h.choose_spec
theorem z9i(x:Int):∃d:Dd,d.t=CW x:=by
 unfold CW
 split
 .exact⟨.say _,rfl⟩
 .split
  .exact⟨.bq,rfl⟩
  .split
   .exact⟨.fail _,rfl⟩
   .exact⟨.add _,rfl⟩
def gY(ps:List Pc)(res:List Str):List Rd:=res.map λx=>(x,Dd.of (((ps.find? λp=>decide (p.nm=x)).map (·.dd)).getD .bq))
theorem Pa(ps:List Pc)(res:List Str):(gY ps res).length=res.length:=by simp[gY]
theorem z9j{ps:List Pc}(nd:(ps.map (·.nm)).Nodup){p:Pc}(hp:p∈ps):ps.find? (λq=>decide (q.nm=p.nm))=aa p:=by
 cases ef:ps.find? (λq=>decide (q.nm=p.nm)) with
 | none=>
   have:=ee.mp ef p hp;simp at this
 | some q=>
   have q1:=dB ef;have q2:q.nm=p.nm:=by simpa using yQ ef
   rw[Vy nd q q1 p hp q2]
theorem Wl{ps:List Pc}(nd:(ps.map (·.nm)).Nodup)(hd:∀p∈ps,∃d:Dd,d.t=p.dd){p:Pc}(hp:p∈ps):fq (p.nm,Dd.of (((ps.find? λq=>decide (q.nm=p.nm)).map (·.dd)).getD .bq))=.tup [.str p.nm,p.dd]:=by
 rw[z9j nd hp];show T.tup [.str p.nm,(Dd.of p.dd).t]=_;rw[Dd.O_ (hd p hp)]
theorem Wm{dZ:List HP}{ps:List Pc}(hc:dZ.map HP.core=ps.map Pc.full)(nd:(ps.map (·.nm)).Nodup)(hd:∀p∈ps,∃d:Dd,d.t=p.dd):∀(res:List Str),(∀x∈res,x∈ps.map (·.nm))->∃dds:List HP,dds.map (·.nm)=res/\(∀p∈dds,p∈dZ)/\dds.map (λp=>T.tup [.str p.nm,p.dd])=(gY ps res).map fq
 |[],_=>⟨[],rfl,λp hp=>absurd hp cO,rfl⟩
 | x::res,h=>by
   obtain⟨dds,e1,e2,e3⟩:=Wm hc nd hd res λy hy=>h y (ao _ hy);obtain⟨q,hq,rfl⟩:=au.mp (h x (az ..));obtain⟨p,hp,ec⟩:=Vx hc hq;have en:p.nm=q.nm:=(zL ec).1;have edd:p.dd=q.dd:=by
    simp only[HP.core,Pc.full,fM] at ec;exact ec.2.2.1
   refine⟨p::dds,by rw[ay,e1,en],λr hr=>?_,?_⟩
   .rcases aH.mp hr with rfl | hr
    .exact hp
    .exact e2 r hr
   .rw[ay,e3,en,edd,<- Wl nd hd hq]
    rfl
theorem Wn{h:Nat}{pl:List jr}{dZ:List HP}{ps:List Pc}{pm:jr}{n:Int}(A:gB c S h pl dZ)(hq:pl.find? (λp=>decide (p.nm=("hub" : Str)))=aa pm)(hc:dZ.map HP.core=ps.map Pc.full)(D:BH ps)(hd:∀p∈ps,∃d:Dd,d.t=p.dd) :
  (∀res,topo (mR (cU ps) (dZ.filter jK)) (cU ps).length (cU ps) []=aa res->∃S' r,vM c [.obj h,.str "hub",.int n] S=.ok (.obj r) S'/\h8 c S' r (Rs.x ⟨pm.kind,pm.rule,n,gY ps res,[],false,[],.bq,[]⟩)/\S.length<=r/\S.length<=S'.length/\∀j,j<S.length->S'[j]?=S[j]?) /\
  (topo (mR (cU ps) (dZ.filter jK)) (cU ps).length (cU ps) []=ae->∃S' fs,vM c [.obj h,.str "hub",.int n] S=.exc c.ring fs S'/\∀j,j<S.length->S'[j]?=S[j]?):=by
 have hl:=Vq hc;have dl:=D.len;have F1:(dZ.filter jK).map (·.nm)=cU ps:=Vw (OT hc);have ma:=qq (m:=aj "at") h (by simp) (by simp);have ea:=Oz A hq (by omega);have ea:CK c [.obj h,.str "hub"] S=.ok (aL ((dZ.filter jK).map (·.nm))) S:=ea;rw[F1] at ea;obtain⟨p1,p2⟩:=zrz A (C8 D.nd) F1 (λq hq2=>by
  have Wo:=(bF.mp hq2).1;obtain⟨p,hp,e⟩:=Jl hc Wo;obtain⟨_,e2,e3⟩:=zL e;have:=D.w p hp;rw[e2,e3];exact⟨Wo,this⟩) (Zez hc D)
 have i0:=A.ins;have C1:=qq (m:=aj "find_place") h (by simp) (by simp);have fpl:=IU A hq;refine⟨λres hr=>?_,λhr=>?_⟩
 .obtain⟨S1,e,g,k⟩:=p1 res hr
  obtain⟨oT,e0,hp,_⟩:=CZ (cU ps).length (C8 D.nd) rfl hr;rw[bU] at e0;subst e0;have sub:∀x∈res,x∈ps.map (·.nm):=λx hx=>by
   obtain⟨p,l_,rfl⟩:=BG (hp.mem_iff.mp hx);exact au.mpr ⟨p,l_,rfl⟩
  obtain⟨dds,d1,d2,d3⟩:=Wm hc D.nd hd res sub;have rl:res.length<=24:=by rw[hp.length_eq];have:=C9 ps;omega
  have lt:S.length+1<S1.length:=(aw.mp g).1;have eb:=zuc (n:=.int n) A hq e (dds:=dds) (by rw[g,<- d1,bQ];rfl) (A.keep k) d2 (by have:=congrArg fF d1;simp at this;omega);rw[d3] at eb;refine⟨_,S1.length,?_,z3d,by omega,by simp;omega,λj hj=>by rw[aD (by omega)];exact k j hj⟩;have eb:zx c [.obj h,.str "hub",aL (cU ps),.int n] S=.ok (.obj S1.length) (S1++(Rs.x ⟨pm.kind,pm.rule,n,gY ps res,[],false,[],.bq,[]⟩).block c S1.length):=eb;generalize aL (cU ps)=NL at ea eb;simp[vM,M6,i0,ma,ea,eb]
 .obtain⟨S1,ring,e,k,_⟩:=p2 hr
  refine⟨S1,aa [("ring",aL ring)],?_,k⟩;have eo:zx c [.obj h,.str "hub",aL (cU ps),.int n] S=.exc c.ring (aa [("ring",aL ring)]) S1:=by
   generalize aL (cU ps)=NL at e ⊢;have:Fg c [aa (.obj h),aa (.str "hub"),aa NL,aa (.int n),aa (.obj pm.i),ae] S=.exc c.ring (aa [("ring",aL ring)]) S1:=by simp[Fg,e]
   simp[zx,M5,i0,C1,fpl,k_,this]
  generalize aL (cU ps)=NL at ea eo;simp[vM,M6,i0,ma,ea,eo]
theorem z5k{h:Nat}{pl:List jr}{dZ:List HP}{ps:List Pc}{pm:jr}{n:Int}(A:gB c S h pl dZ)(hq:pl.find? (λp=>decide (p.nm=("hub" : Str)))=aa pm)(hc:dZ.map HP.core=ps.map Pc.full)(D:BH ps)(hd:∀p∈ps,∃d:Dd,d.t=p.dd) :
 (∀res,topo (mR (cU ps) (dZ.filter jK)) (cU ps).length (cU ps) []=aa res->∃S' r,vM c [.obj h,.str "hub",.int n] S=.ok (.obj r) S'/\h8 c S' r (Rs.x ⟨pm.kind,pm.rule,n,gY ps res,[],false,[],.bq,[]⟩)/\S.length<=r/\S.length<=S'.length/\∀j,j<S.length->S'[j]?=S[j]?):=(Wn A hq hc D hd).1
end DN
namespace DN
open PySem L2 MF
variable {c:Cl}{S:bG}
theorem z9k{ps:List Pc}{res:List Str}(D:BH ps)(hs:∀x∈res,x∈ps.map (·.nm)):∀p∈gY ps res,Sm p.1:=λp hp=>by
 obtain⟨x,hx,rfl⟩:=au.mp hp;obtain⟨q,hq,e⟩:=au.mp (hs x hx);have:=D.sm q hq;unfold Sm;show(cR x).length<=100;rw[<- e];omega
theorem Zdc{h:Nat}{pl:List jr}{dZ:List HP}{ps:List Pc}{pm:jr}{n:Int}(A:gB c S h pl dZ)(hq:pl.find? (λp=>decide (p.nm=("hub" : Str)))=aa pm)(hc:dZ.map HP.core=ps.map Pc.full)(D:BH ps)(hd:∀p∈ps,∃d:Dd,d.t=p.dd)
  (hk:pm.kind = "all" \/ pm.kind = "first" \/ pm.kind = "chain" \/ pm.kind = "round") (hr:pm.rule = "hold" \/ pm.rule = "hand") :
  (∀res,topo (mR (cU ps) (dZ.filter jK)) (cU ps).length (cU ps) []=aa res->∃S',(∀j,j<S.length->S'[j]?=S[j]?)/\S.length<=S'.length /\
   ((pm.rule = "hand" /\ ∃q t,fR pm.kind (gY ps res)=q::t/\wN c [.obj h,.str "hub",.int n] S=.exc c.deedFault (aa [("piece",.str q.1),("code",.int q.2)]) S') \/
    ((pm.rule = "hand" -> fR pm.kind (gY ps res)=[])/\wN c [.obj h,.str "hub",.int n] S=.ok (.tup [fW pm.kind (gY ps res) n,.lst ((fR pm.kind (gY ps res)).map ip)]) S'))) /\
  (topo (mR (cU ps) (dZ.filter jK)) (cU ps).length (cU ps) []=ae->∃S' fs,wN c [.obj h,.str "hub",.int n] S=.exc c.ring fs S'/\∀j,j<S.length->S'[j]?=S[j]?):=by
 obtain⟨b1,b2⟩:=Wn (n:=n) A hq hc D hd;refine⟨λres hr'=>?_,λhr'=>?_⟩
 .obtain⟨S1,r,e,R,l1,l2,k⟩:=b1 res hr'
  obtain⟨oT,e0,hp,_⟩:=CZ (cU ps).length (C8 D.nd) rfl hr';rw[bU] at e0;subst e0;have sub:∀x∈res,x∈ps.map (·.nm):=λx hx=>by
   obtain⟨p,l_,rfl⟩:=BG (hp.mem_iff.mp hx);exact au.mpr ⟨p,l_,rfl⟩
  have rl:res.length<=24:=by rw[hp.length_eq];have:=C9 ps;have:=D.len;omega
  obtain⟨S2,k5,h5⟩:=z3k R hk hr (z9k D sub) (by rw[Pa];omega);refine⟨S2,λj hj=>by rw[k5.same j (by omega)];exact k j hj,by rw[k5.len];exact l2,?_⟩;rcases h5 with⟨h1,q,t,h2,h3⟩ | ⟨h1,h2⟩
  .exact .inl ⟨h1,q,t,h2,by simp[wN,IG,e,h3]⟩
  .refine .inr ⟨h1,?_⟩
   generalize T.tup [fW pm.kind (gY ps res) n,.lst ((fR pm.kind (gY ps res)).map ip)]=R2 at h2 ⊢;simp[wN,IG,e,h2]
 .obtain⟨S1,fs,e,k⟩:=b2 hr'
  exact⟨S1,fs,by simp[wN,IG,e],k⟩
end DN
namespace DN
open PySem L2 MF
variable {c:Cl}{S:bG}
noncomputable def zO(x:Int):Str:=if x%4=0 then "all" else if x%4=1 then "first" else if x%4=2 then "chain" else "round"
theorem z9l(x:Int):kD [T.str "all",.str "first",.str "chain",.str "round"] (x%4)=aa (.str (zO x)):=by
 unfold zO;have:x%4=0\/x%4=1\/x%4=2\/x%4=3:=by omega
 rcases this with h | h | h | h<;>rw[h]<;>rfl
theorem z9m(x:Int):zO x = "all" \/ zO x = "first" \/ zO x = "chain" \/ zO x = "round":=by
 unfold zO
 split
 .exact .inl rfl
 .split
  .exact .inr (.inl rfl)
  .split
   .exact .inr (.inr (.inl rfl))
   .exact .inr (.inr (.inr rfl))
theorem z5l(ns:List Int)(start cK:Int):∀p∈rF ns start cK,∃d:Dd,d.t=p.dd:=λp hp=>by
 obtain⟨k,_,rfl⟩:=au.mp hp;exact z9i _
end DN
namespace DN
open PySem L2 MF
variable {c:Cl}{S:bG}
noncomputable def Pc.bare(p:Pc):Pc:={ p with w0:=[],w1:=[] }
noncomputable def BP(ns:List Int):List Pc:=if 0<cellAt ns 1 / 8%3 then(rF ns 3 (cellAt ns 0%11)).map Pc.bare else rF ns 3 (cellAt ns 0%11)
theorem zzu{ps:List Pc}(D:Drawn ps):Drawn (ps.map Pc.bare):=by
 refine⟨?_,by rw[ba];exact D.len,λp hp=>?_,λp hp=>?_,λp hp=>?_,λp hp x hx=>?_⟩
 .rw[bQ];exact D.nd
 all_goals obtain⟨q,hq,rfl⟩:=au.mp hp
 .exact D.pl q hq
 .have:=D.w q hq
  exact⟨by simp[Pc.bare],by simp[Pc.bare],this.2.2.1,this.2.2.2⟩
 .exact D.pQ q hq
 .rcases hx with h | h | h | h
  .simp[Pc.bare] at h
  .simp[Pc.bare] at h
  .exact D.uH q hq x (.inr (.inr (.inl h)))
  .exact D.uH q hq x (.inr (.inr (.inr h)))
structure Pb(ps:List Pc):Prop where
 d:Drawn ps
 sm:∀p∈ps,(cR p.nm).length<=30
 dd:∀p∈ps,∃d:Dd,d.t=p.dd
 ten:ps.length<=10
theorem z5m(ns:List Int):Pb (BP ns):=by
 have h0:=dq (cellAt ns 0) (show(11:Int)≠0 by decide);have h1:=cB (cellAt ns 0) (show(0:Int)<11 by decide);have D:=drawn ns 3 (cellAt ns 0%11) h0 (by omega);have sm:=z5f ns 3 (cellAt ns 0%11) h0 (by omega);have hd:=z5l ns 3 (cellAt ns 0%11);have pl:(rF ns 3 (cellAt ns 0%11)).length<=10:=by simp[rF];omega
 unfold BP;generalize rF ns 3 (cellAt ns 0%11)=ps at D sm hd pl
 split
 .refine⟨zzu D,λp hp=>?_,λp hp=>?_,by simpa using pl⟩
  all_goals obtain⟨q,hq,rfl⟩:=au.mp hp
  .exact sm q hq
  .exact hd q hq
 .exact⟨D,sm,hd,pl⟩
theorem z3s{ps:List Pc}(nd:(ps.map (·.nm)).Nodup){p:Pc}(hp:p∈ps):ps.filter (λq=>decide (q.nm=p.nm))=[p]:=by
 induction ps with
 |nil=>cases hp
 | cons a ps ih=>
   rw[ay,cM] at nd;rw[gq];rcases aH.mp hp with rfl | hp
   .have:ps.filter (λq=>decide (q.nm=p.nm))=[]:=rL.mpr λq hq e=>nd.1 (au.mpr ⟨q,hq,by simpa using e⟩)
    simp[this]
   .have:a.nm≠p.nm:=λe=>nd.1 (e▸au.mpr ⟨p,hp,rfl⟩)
    simp[this,ih nd.2 hp]
theorem z5n{ps:List Pc}(nd:(ps.map (·.nm)).Nodup)(hd:∀p∈ps,∃d:Dd,d.t=p.dd){x:Str}(hx:x∈ps.map (·.nm)){js:List Nat}{ρ:Ev}{it:DI}{tc:DT}{te:DE}{st:bG->Prop}(hl:ps.length<=100)(hi:it ρ S=.ok (ps.map Pc.t,st) S)(hs:st S)
  (ht:∀p∈ps,tc (aa p.t::js.map λj=>(ρ[j]?).join) S=.ok (decide (p.nm=x)) S) (he:∀p∈ps,te (aa p.t::js.map λj=>(ρ[j]?).join) S=.ok (.tup [.str x,p.dd]) S) :
  k_ 1 js it (eM 0) tc te iu ρ S=.ok (.lst ((gY ps [x]).map fq)) S:=by
 have cc:=A6 (ρ:=ρ) (S:=S) (js:=js) (it:=it) (tc:=tc) (te:=te) (ts:=ps.map Pc.t) (st:=st) (p:=λt=>match t with|.tup (.str y::_)=>decide (y=x) | _=>false) (f:=λt=>match t with|.tup [_,_,d,_,_]=>.tup [.str x,d] | _=>.bq) hi hs (by simp;omega)
  (λt h=>by obtain⟨p,hp,rfl⟩:=au.mp h;exact ht p hp) (λt h _=>by obtain⟨p,hp,rfl⟩:=au.mp h;exact he p hp)
 obtain⟨p,hp,rfl⟩:=au.mp hx;rw[cc,dP];have:ps.filter ((λt=>match t with|T.tup (.str y::_)=>decide (y=p.nm) | _=>false)∘Pc.t)=[p]:=z3s nd hp;rw[this];have:=Wl nd hd hp;simp only[gY,ay,gr,this];rfl
theorem z5o(ps:List Pc)(a b:List Str):gY ps (a++b)=gY ps a++gY ps b:=by simp[gY]
theorem Zdd{n:Nat}{a b:T}(ha:HB n a)(hb:HB n b):HB n (.tup [a,b]):=A7 λt ht=>by
 simp only[aH,cO,or_false] at ht;rcases ht with rfl | rfl
 .exact ha
 .exact hb
end DN
namespace DN
open PySem L2 MF
variable {c:Cl}{S:bG}
theorem z3t(ns:List Int)(start cK:Int)(hs:0<=start)(hm0:0<=cK)(hm:cK<=100) :
  E5 c [.lst (ns.map .int),.int start,.int cK] S=.ok (.obj S.length) (S++[.lst ((rF ns start cK).map Pc.t)]):=by
 have hb:-1000000<=cK/\cK<=1000000:=by omega
 obtain⟨ρ',S',e,q⟩:=Cv (ρ:=[aa (.lst (ns.map .int)),aa (.int start),aa (.int cK),aa (.obj S.length),ae,ae,ae,ae,ae,ae]) (S:=S++[.lst []])
  (it:=vB (aP (af 2) aF)) (g:=eM 4) (ts:=qi 0 cK.toNat) (st:=λ_=>True) (S1:=S++[.lst []]) (body:=MI c)
  (λpre ρ S1=>(∃a1 a2 a3 a4 a5 a6,ρ=[aa (.lst (ns.map .int)),aa (.int start),aa (.int cK),aa (.obj S.length),a1,a2,a3,a4,a5,a6])/\S1=S++[.lst (((cz pre.length).map (kH ns start cK)).map Pc.t)])
  (by simp[hb]) ⟨⟨_,_,_,_,_,_,rfl⟩,rfl⟩ (λpre t post ρ S1 BQ ⟨⟨a1,a2,a3,a4,a5,a6,hρ⟩,hS⟩=>by
   obtain⟨rB,rfl⟩:=Uh BQ;subst hρ hS;refine⟨trivial,_,rfl,?_⟩;have c1:0<=start+3*(pre.length:Int):=by omega
   have c2:0<=start+3*(pre.length:Int)+1:=by omega
   have c3:0<=start+3*(pre.length:Int)+2:=by omega
   have hmm:0<cK+1:=by omega
   have cX:(((cz pre.length).map (kH ns start cK)).map Pc.t).length<1000:=by simp;omega
   have Pd:(((cz (pre++[T.int pre.length]).length).map (kH ns start cK)).map Pc.t)=(((cz pre.length).map (kH ns start cK)).map Pc.t)++[(kH ns start cK pre.length).t]:=by
    rw[aM,aV,List.range_succ,aK,aK];rfl
   rw[Pd];generalize (((cz pre.length).map (kH ns start cK)).map Pc.t)=acc at cX ⊢;have lX:=vG (S:=S++[.lst acc]) (k:=S.length) (y:=(kH ns start cK pre.length).t) qZ cX;rw[Fx] at lX;have cI:=m5 (S:=S++[.lst acc]) (k:=S.length) qZ;refine⟨[aa (.lst (ns.map .int)),aa (.int start),aa (.int cK),aa (.obj S.length),aa (.int pre.length),aa (.int (cellAt ns (start+3*pre.length))),aa (.int (cellAt ns (start+3*pre.length+1))),aa (.int (cellAt ns (start+3*pre.length+2))),aa (.str (zF (cellAt ns (start+3*pre.length)))),
    aa (.lst [aL (kH ns start cK pre.length).w0,aL (kH ns start cK pre.length).w1,aL (kH ns start cK pre.length).w2,aL (kH ns start cK pre.length).w3])],S++[.lst (acc++[(kH ns start cK pre.length).t])],?_,⟨_,_,_,_,_,_,rfl⟩,rfl⟩
   have hT:(kH ns start cK pre.length).t=T.tup [T.str (qY pre.length),T.str (zF (cellAt ns (start+3*pre.length))),CW (cellAt ns (start+3*pre.length)),T.lst [aL (sW (cellAt ns (start+3*pre.length+1)) (cK+1)),aL (sW (cellAt ns (start+3*pre.length+1) / 7) (cK+1)),aL (sW (cellAt ns (start+3*pre.length+2)) (cK+1)),aL (sW (cellAt ns (start+3*pre.length+2) / 7) (cK+1))],T.bl (!decide (cellAt ns (start+3*pre.length) / 64%6=1))]:=rfl;rw[hT] at lX ⊢;simp[MI,CV,Oi,Zcp,Zcq,c1,c2,c3,hmm,zzg,cI,lX,kH]) (λ_ _ _=>trivial)
 obtain⟨⟨a1,a2,a3,a4,a5,a6,rfl⟩,rfl⟩:=q;rw[Cs] at e;simp[E5,Tp,e,rF]
theorem z9n{ps:List Pc}(hl:ps.length<=13){k:Nat}{t0:Option T}(hv:S[k]?=aa (.lst (ps.map Pc.t))):k_ 1 [] (Ik c) (eM 0) kG (Ij c) vC [t0,aa (.obj k)] S=.ok (.obj S.length) (S++[.lst ((ps.map Pc.bare).map Pc.t)]):=by
 have cc:=zzl (ρ:=[t0,aa (.obj k)]) (S:=S) (js:=[]) (it:=Ik c) (te:=Ij c) (ts:=ps.map Pc.t) (st:=λS'=>c6 S' (.obj k)=aa (ps.map Pc.t))
  (f:=λt=>match t with|.tup [a,b,d,.lst [_,_,g,h],i]=>.tup [a,b,d,.lst [.lst [],.lst [],g,h],i] | _=>.bq)
  (by simp[Ik,lQ hv]) (lQ hv) (by simp;omega) (λt ht=>by
   obtain⟨p,_,rfl⟩:=au.mp ht;simp[Ij,Pc.t])
 rw[cc];simp only[bQ];rfl
theorem Zde(ns:List Int):∃k S',Cy c [.lst (ns.map .int)] S=.ok (.obj k) S'/\S'[k]?=aa (.lst ((BP ns).map Pc.t)):=by
 have h0:=dq (cellAt ns 0) (show(11:Int)≠0 by decide);have h1:=cB (cellAt ns 0) (show(0:Int)<11 by decide);have D:=drawn ns 3 (cellAt ns 0%11) h0 (by omega);have eP:=z3t (c:=c) (S:=S) ns 3 (cellAt ns 0%11) (by decide) h0 (by omega);have c0:=CV (c:=c) (S:=S) ns 0 (by decide);unfold BP;generalize rF ns 3 (cellAt ns 0%11)=ps at D eP;have c1:=CV (c:=c) (S:=S++[.lst (ps.map Pc.t)]) ns 1 (by decide);have b:=z9n (c:=c) (S:=S++[.lst (ps.map Pc.t)]) (ps:=ps) D.len (t0:=aa (.lst (ns.map .int))) qZ;generalize ns.map T.int=NS at c0 c1 eP b ⊢;have g1:(S++[bY.lst (ps.map Pc.t)])[S.length]?=aa (.lst (ps.map Pc.t)):=qZ;have g2:(S++[bY.lst (ps.map Pc.t)]++[.lst ((ps.map Pc.bare).map Pc.t)])[(S++[bY.lst (ps.map Pc.t)]).length]?=aa (.lst ((ps.map Pc.bare).map Pc.t)):=qZ;by_cases h:0<cellAt ns 1 / 8%3
 .rw[if_pos h]
  refine⟨(S++[bY.lst (ps.map Pc.t)]).length,S++[.lst (ps.map Pc.t)]++[.lst ((ps.map Pc.bare).map Pc.t)],?_,g2⟩;generalize S++[bY.lst (ps.map Pc.t)]++[.lst ((ps.map Pc.bare).map Pc.t)]=S2 at b ⊢;generalize S++[bY.lst (ps.map Pc.t)]=S1 at b eP c1 ⊢;simp[Cy,MJ,c0,c1,eP,h,b]
 .rw[if_neg h]
  refine⟨S.length,S++[.lst (ps.map Pc.t)],?_,g1⟩;generalize S++[bY.lst (ps.map Pc.t)]=S1 at b eP c1 ⊢;simp[Cy,MJ,c0,c1,eP,h]
end DN
namespace DN
open PySem L2 MF
variable {c:Cl}{S:bG}
theorem z9o{ρ:Ev}(fl fi fv:DE):AR fl fi fv ρ S=(fv ρ).bind (λt=>(fl ρ).bind λl=>(fi ρ).bind λi=>λS=>match l,i with
 | .obj j,.int n=>(match S[j]? with
   | some (.lst ts)=>(match rz ts.length n with
     |some m=>.ok (.nx ρ) (S.set j (.lst (ts.set m t)))
     |none=>.bad)
   |_=>.bad)
 |_,_=>.bad) S:=rfl
theorem z9p{n j:Nat}(h:j<n):rz n (j:Int)=aa j:=by
 unfold rz;rw[if_pos (by omega),if_pos (by omega),m_]
end DN
namespace DN
open PySem L2 MF
variable {c:Cl}{S:bG}
noncomputable def gJ(k:Nat):Str:=aj "new" ++ qo ((k:Int)%26)
theorem Zdf:∀k:Nat,k<12->eD (gJ k)=true/\(cR (gJ k)).length<=30:=by decide +kernel
theorem z9q:∀k:Nat,k<12->∀i:Nat,i<11->qY i≠gJ k:=by decide +kernel
theorem z9r:∀k:Nat,k<12->∀j:Nat,j<12->gJ k=gJ j->k=j:=by decide +kernel
theorem Wp:eD (aj "hub")=true/\eD (aj "side")=true:=by decide +kernel
structure yD(n:Nat)(p:Pc):Prop where
 pQ:jY p.nm
 sm:(cR p.nm).length<=30
 w0:p.w0.length<=2+n
 w1:p.w1.length<=2
 w2:p.w2.length<=2
 w3:p.w3.length<=2
 pl:p.pl = "hub" \/ p.pl = "side"
 uH:∀x,x∈p.w0\/x∈p.w1\/x∈p.w2\/x∈p.w3->jY x
 dd:∃d:Dd,d.t=p.dd
 new:∀j,n<=j->j<12->p.nm≠gJ j
theorem yD.up{n:Nat}{p:Pc}(h:yD n p):yD (n+1) p:=⟨h.pQ,h.sm,by have:=h.w0;omega,h.w1,h.w2,h.w3,h.pl,h.uH,h.dd,λj hj hl=>h.new j (by omega) hl⟩
theorem Wq{n:Nat}:∀(ps:List Pc),(∀p∈ps,yD n p)->∃ds,md (ps.map Pc.t)=aa ds/\bj ds=true/\bB ds<=5/\ds.isEmpty=ps.isEmpty
 |[],_=>⟨[],by simp[md],by simp[bj],by simp[bB],rfl⟩
 | p::ps,h=>by
   obtain⟨ds,e1,e2,e3,-⟩:=Wq ps λq hq=>h q (ao _ hq);have P:=h p (az ..);obtain⟨d,hd⟩:=P.dd;have o1:=P.pQ;unfold jY at o1;have o2:eD p.pl=true:=by
    rcases P.pl with e | e<;>rw[e]
    .exact Wp.1
    .exact Wp.2
   have k0:=x_ (l:=p.w0) λx hx=>P.uH x (.inl hx);have k1:=x_ (l:=p.w1) λx hx=>P.uH x (.inr (.inl hx));have k2:=x_ (l:=p.w2) λx hx=>P.uH x (.inr (.inr (.inl hx)));have k3:=x_ (l:=p.w3) λx hx=>P.uH x (.inr (.inr (.inr hx)));have ed:pd d.t=aa d.d:=by cases d<;>simp[pd,md,Dd.t,Dd.d]
   have ld:bP d.d=true:=by
    obtain⟨t1,t2,t3,t4⟩:=VZ;cases d<;>simp[bj,bP,Dd.d,t1,t2,t3,t4]
   have dp:c_ d.d<=1:=by cases d<;>simp[bB,c_,Dd.d]
   refine⟨.tuple [.str p.nm,.str p.pl,d.d,.list [.list (p.w0.map .str),.list (p.w1.map .str),.list (p.w2.map .str),.list (p.w3.map .str)],.bool p.on]::ds,?_,?_,?_,rfl⟩
   .simp[md,pd,Pc.t,<- hd,ed,e1,z89]
   .simp[bj,bP,o1,o2,ld,k0,k1,k2,k3,e2]
   .simp only[bB,c_,Ji]
    omega
theorem z9s{n k:Nat}{ps:List Pc}(h:S[k]?=aa (.lst (ps.map Pc.t)))(ok:∀p∈ps,yD n p):fD (.obj k) (.lst []) S=.ok (.bl ps.isEmpty) S:=by
 obtain⟨ds,e1,e2,e3,e4⟩:=Wq ps ok;have:=C4 (S:=S) (x:=.obj k) (y:=.lst []) (.inl rfl) (O6 (lQ h) e1) (b:=.list []) (by simp[oy,pd,md]) (by simp only[bP];exact e2) (by simp[bP,bj]) (by simp[c_];omega);have e:cw (.list ds) (.list [])=ps.isEmpty:=by
  rw[<- e4];cases ds<;>simp[cw,eK]
 simp[fD,this,e]
theorem gB.but{S':bG}{h:Nat}{pl:List jr}{ps:List HP}(A:gB c S h pl ps)(f:∀j,(j=h\/j=h+1\/j=h+2\/(∃q∈pl,j=q.i)\/∃p∈ps,p.i<=j/\j<p.i+5)->S'[j]?=S[j]?):gB c S' h pl ps:=
 ⟨by rw[f _ (.inl rfl)];exact A.hall,by rw[f _ (.inr (.inl rfl))];exact A.places,by rw[f _ (.inr (.inr (.inl rfl)))];exact A.pieces,λq hq=>by rw[f _ (.inr (.inr (.inr (.inl ⟨q,hq,rfl⟩))))];exact A.place q hq,
  λp hp=>by
   have k:∀i,i<5->S'[p.i+i]?=S[p.i+i]?:=λi hi=>f _ (.inr (.inr (.inr (.inr ⟨p,hp,by omega,by omega⟩))));have P:=A.piece p hp;exact⟨(k 0 (by omega)).trans P.o,(k 1 (by omega)).trans P.a0,(k 2 (by omega)).trans P.a1,(k 3 (by omega)).trans P.a2,(k 4 (by omega)).trans P.a3⟩,A.lz,A.pw,A.nd⟩
theorem h8.but{r:Nat}{x:Rn}{S':bG}(R:h8 c S r x)(h:∀j,r<=j->j<r+5->S'[j]?=S[j]?):h8 c S' r x:=⟨(h _ (by omega) (by omega)).trans R.o,(h _ (by omega) (by omega)).trans R.d,(h _ (by omega) (by omega)).trans R.h,(h _ (by omega) (by omega)).trans R.p,(h _ (by omega) (by omega)).trans R.a⟩
structure Sv(c:Cl)(S:bG)(k h r:Nat)(kind:Str)(n:Nat)(dZ:List HP)(ps:List Pc):Prop where
 hall:gB c S h (o5 kind "hold" h) dZ
 core:dZ.map HP.core=ps.map Pc.full
 cell:S[k]?=aa (.lst (ps.map Pc.t))
 lo:k<h
 hi:h+5<=r
 lz:∀p∈dZ,p.i+5<=r\/r+5<=p.i
 top:r+5<=S.length
 nd:(ps.map (·.nm)).Nodup
 len:ps.length<=10+n
 one:∀p∈ps,yD n p
variable {k h r n:Nat}{kind:Str}{dZ:List HP}{ps:List Pc}{x:Rn}
theorem Sv.put(V:Sv c S k h r kind n dZ ps)(R:h8 c S r x){S1:bG}{oa:List HP}{ps':List Pc}{u:bY}(H:gB c S1 h (o5 kind "hold" h) oa)(hc:oa.map HP.core=ps'.map Pc.full)(R1:h8 c S1 r x)(hu:S1[k]?=aa u)(lz:∀p∈oa,p.i+5<=r\/r+5<=p.i)(nd:(ps'.map (·.nm)).Nodup)(len:ps'.length<=10+(n+1))(one:∀p∈ps',yD (n+1) p) :
  Sv c (S1.set k (.lst (ps'.map Pc.t))) k h r kind (n+1) oa ps'/\h8 c (S1.set k (.lst (ps'.map Pc.t))) r x:=by
 have lo:=V.lo;have hi:=V.hi;have ne:∀j,h<=j->(S1.set k (.lst (ps'.map Pc.t)))[j]?=S1[j]?:=λj hj=>dW (by omega);have top:r+4<S1.length:=(aw.mp R1.a).1;refine⟨⟨H.but λj hj=>ne j ?_,hc,kQ hu,lo,hi,lz,by simp;omega,nd,len,one⟩,R1.but λj h1 h2=>ne j (by omega)⟩;rcases hj with rfl | rfl | rfl | ⟨q,hq,rfl⟩ | ⟨p,hp,h1,h2⟩
 .omega
 .omega
 .omega
 .simp only[o5,aH,cO,or_false] at hq
  rcases hq with rfl | rfl<;>simp
 .have:=H.lz p hp
  omega
end DN
namespace DN
open PySem L2 MF
variable {c:Cl}{S:bG}{k h r n:Nat}{kind:Str}{dZ:List HP}{ps:List Pc}{x:Rn}
theorem Wr:∀(L:List Rw) {g:List Str},(∀x∈L,x.br=ae)->vV g L=g
 |[],_,_=>rfl
 | x::L,g,h=>by
   rw[Ur];have e:pN g x=g:=by simp[pN,h x (az ..)]
   rw[e];exact Wr L λy hy=>h y (ao _ hy)
theorem Ws:∀(L:List Rw) {seen:List Str},(∀x∈L,x.br=ae)->vW seen L
 |[],_,_=>trivial
 | x::L,_,h=>by
   refine⟨λb hb=>?_,Ws L λy hy=>h y (ao _ hy)⟩;rw[h x (az ..)] at hb;cases hb
theorem z5p{α:Type}{l:List α}{j:Nat}(h:j<l.length):∃A q B,l=A++q::B/\A.length=j:=by
 refine⟨l.take j,l[j],l.drop (j+1),?_,by simp;omega⟩;rw[<- jn h,List.take_append_drop]
theorem z9t{A B:List HP}{p:HP}(nd:((A++p::B).map (·.nm)).Nodup):(A++p::B).filter (λq=>!([p.nm]:List Str).contains q.nm)=A++B:=by
 rw[aK,ay,cq,cM] at nd;obtain⟨_,⟨n1,_⟩,n2⟩:=nd;have a:A.filter (λq=>!([p.nm]:List Str).contains q.nm)=A:=dS.mpr λq hq=>by
  have:=n2 q.nm (au.mpr ⟨q,hq,rfl⟩) p.nm (az ..);simp[this]
 have b:B.filter (λq=>!([p.nm]:List Str).contains q.nm)=B:=dS.mpr λq hq=>by
  have:q.nm≠p.nm:=λe=>n1 (e▸au.mpr ⟨q,hq,rfl⟩);simp[this]
 rw[List.filter_append,gq,a,b];simp
theorem Sv.br(V:Sv c S k h r kind n dZ ps):∀y∈dZ.map HP.rw,y.br=ae:=λy hy=>by
 obtain⟨p,hp,rfl⟩:=au.mp hy;obtain⟨q,_,e⟩:=Jl V.core hp;simp only[HP.core,Pc.full,fM] at e;exact e.2.2.2.1
theorem BR{t:DT}{a b:DS}{ρ:Ev}{S1:bG}(h:t ρ S=.ok true S1):eV t a b ρ S=a ρ S1:=by unfold eV;rw[eR,h];rfl
theorem ud{t:DT}{a b:DS}{ρ:Ev}{S1:bG}(h:t ρ S=.ok false S1):eV t a b ρ S=b ρ S1:=by unfold eV;rw[eR,h];rfl
theorem z9u{m:Nat}{d:DS}{ts:List T}{S':bG}{ρ r:Ev}(hρ:ts.map aa++aQ (m-ts.length) ae=ρ)(h:d ρ S=.ok (.nx r) S'):cH m d ts S=.ok .bq S':=by subst hρ;rw[Sx,h]
theorem zP{f:DE}{ρ:Ev}{t:T}{S1:bG}(h:f ρ S=.ok t S1):ic f ρ S=.ok (.nx ρ) S1:=by unfold ic;rw[eR,h];rfl
theorem z9v (V:Sv c S k h r kind n dZ ps) (R:h8 c S r x) (hn:n<12) (cell:Int) :
  ∃S' oa ps',Fh c [.obj h,.obj k,.int cell,.int n] S=.ok .bq S'/\Sv c S' k h r kind (n+1) oa ps'/\h8 c S' r x:=by
 have m26:=dq (n:Int) (show(26:Int)≠0 by decide);have Pe:=cB (n:Int) (show(0:Int)<26 by decide);have hL:(aj "abcdefghijklmnopqrstuvwxyz")=vQ:=rfl;have ha:=Oh m26 Pe;have F2:cv (.str vQ) (.int ((n:Int)%26)) S=.ok (.str (qo ((n:Int)%26))) S:=by simp[cv,jV,c6,Og,ha,qo]
 have xY:fT (.str "new") (.str (qo ((n:Int)%26))) S=.ok (.str (gJ n)) S:=by
  have:(aj "new").length+(qo ((n:Int)%26)).length<=1000:=by rw[Ue];decide
  simp[fT,this,gJ]
 have e0:=z9s V.cell V.one;have hi:=V.hi;have lo:=V.lo;have top:=V.top;have Pf:=V.len;have hm0:=dq cell (show(5:Int)≠0 by decide);have C1:=cB cell (show(0:Int)<5 by decide);have i0:=V.hall.ins;have OQ:=m5 V.cell;have ll:=Vq V.core;by_cases w:cell%5=0\/ps=[]
 ·
  have hq:(o5 kind "hold" h).find? (λp=>decide (p.nm=("hub" : Str)))=aa ⟨"hub",kind, "hold",h+3⟩:=by simp[o5]
  have F1:=Vw V.core;have zc:gJ n∉dZ.map (·.nm):=λhm=>by
   rw[F1] at hm;obtain⟨p,hp,e⟩:=au.mp hm;exact(V.one p hp).new n (aB _) hn e
  have eh:=Uj V.hall (dd:=.tup [.str "add",.int (cell%1000)]) zc hq (by omega);have H1:=V.hall.FC (q := "hub") (dd:=.tup [.str "add",.int (cell%1000)]) (br:=ae) zc;have lt:=V.hall.lt;have key:∀j,j<S.length->j≠h+2->(S.set (h+2) (.dic (fQ (dZ++[gG (gJ n) "hub" (.tup [.str "add",.int (cell%1000)]) ae S.length])))++(gG (gJ n) "hub" (.tup [.str "add",.int (cell%1000)]) ae S.length).block c)[j]?=S[j]?:=λj hj mZ=>by
   rw[aD (by simp;exact hj),dW (bM mZ)]
  have hm:=qq (m:=aj "hang") h (by simp) (by simp);have R1:=R.but (S':=S.set (h+2) (.dic (fQ (dZ++[gG (gJ n) "hub" (.tup [.str "add",.int (cell%1000)]) ae S.length])))++(gG (gJ n) "hub" (.tup [.str "add",.int (cell%1000)]) ae S.length).block c) λj h1 h2=>key j (by omega) (by omega);have hu:=(key k (by omega) (by omega)).trans V.cell;have kl:S.length<=(S.set (h+2) (.dic (fQ (dZ++[gG (gJ n) "hub" (.tup [.str "add",.int (cell%1000)]) ae S.length])))++(gG (gJ n) "hub" (.tup [.str "add",.int (cell%1000)]) ae S.length).block c).length:=by simp
  generalize S.set (h+2) (.dic (fQ (dZ++[gG (gJ n) "hub" (.tup [.str "add",.int (cell%1000)]) ae S.length])))++(gG (gJ n) "hub" (.tup [.str "add",.int (cell%1000)]) ae S.length).block c=S1 at eh H1 R1 hu kl;have ap:=vG (y:=(Pc.t ⟨gJ n, "hub",.tup [.str "add",.int (cell%1000)],[],[],[],[],true⟩)) hu (by simp;omega);have BS:=m5 hu;obtain⟨V2,R2⟩:=V.put R (ps':=ps++[⟨gJ n, "hub",.tup [.str "add",.int (cell%1000)],[],[],[],[],true⟩]) H1 (by rw[aK,aK,V.core];rfl) R1 hu (λp hp=>by
   rcases bp.mp hp with hp | hp
   .exact V.lz p hp
   .cases aC.mp hp
    right;show r+5<=S.length;omega) (by
   rw[aK,cq];refine⟨V.nd,by simp,λa ha b hb=>?_⟩;cases aC.mp hb;intro e;subst e;rw[F1] at zc;exact zc ha) (by simp;omega) (λp hp=>by
   rcases bp.mp hp with hp | hp
   .exact(V.one p hp).up
   .cases aC.mp hp
    obtain⟨a,b⟩:=Zdf n hn;exact⟨a,b,by simp,by simp,by simp,by simp,.inl rfl,by simp,⟨.add (cell%1000),rfl⟩,λj hj hl e=>by have:=z9r n hn j hl e;omega⟩)
  rw[aK,List.map_singleton] at V2 R2;have cond:lO (dN (e2 fD (af 4) (eC (.int 0)))) (dN (e2 fD (af 1) (eA fN aF))) [aa (.obj h),aa (.obj k),aa (.int cell),aa (.int n),aa (.int (cell%5)),aa (.str (gJ n)),ae,ae,ae] S=.ok true S:=by
   by_cases w0:cell%5=0
   .simp[w0]
   .have:ps=[]:=by rcases w with w | w<;>first | exact absurd w w0 | exact w
    subst this;have e0:fD (.obj k) (.lst []) S=.ok (.bl true) S:=e0;simp[w0,e0]
  have pct:Pc.t ⟨gJ n, "hub",.tup [.str "add",.int (cell%1000)],[],[],[],[],true⟩=.tup [.str (gJ n),.str "hub",.tup [.str "add",.int (cell%1000)],.lst [.lst [],.lst [],.lst [],.lst []],.bl true]:=rfl;rw[pct] at ap V2 R2;refine⟨_,_,_,?_,V2,R2⟩;generalize S1.set k _=S2 at ap ⊢;refine uc (ρ:=[aa (.obj h),aa (.obj k),aa (.int cell),aa (.int n),ae,ae,ae,ae,ae]) rfl ?_;unfold M7;refine(iB (nE (t:=.int (cell%5)) (S1:=S) (by simp))).trans ?_;refine(iB (nE (t:=.str (gJ n)) (S1:=S) (by simp[hL,F2,xY]))).trans ?_;refine C_ ((BR cond).trans ?_);refine(iB (zP (t:=.bq) (S1:=S1) (by simp[i0,hm,eh]))).trans ?_;refine(iB (zP (t:=.bq) (S1:=S2) (by simp[BS,ap]))).trans ?_;rfl
 ·
  have w0:cell%5≠0:=λe=>w (.inl e);have wp:ps≠[]:=λe=>w (.inr e);have pos:0<(ps.length:Int):=by
   have:=List.length_pos_iff.mpr wp;omega
  have cond:lO (dN (e2 fD (af 4) (eC (.int 0)))) (dN (e2 fD (af 1) (eA fN aF))) [aa (.obj h),aa (.obj k),aa (.int cell),aa (.int n),aa (.int (cell%5)),aa (.str (gJ n)),ae,ae,ae] S=.ok false S:=by
   have:ps.isEmpty=false:=by simpa using wp
   rw[this] at e0;simp[w0,e0]
  have yE:hW (.obj k) S=.ok (.int ps.length) S:=by simp[hW,jV,lQ V.cell]
  have at_:∀y:Int,∃A q B,ps=A++q::B/\y%(ps.length:Int)=A.length/\cv (.obj k) (.int (y%(ps.length:Int))) S=.ok q.t S:=λy=>by
   have y0:=dq y (show(ps.length:Int)≠0 by omega);have y1:=cB y pos;obtain⟨A,q,B,e,hA⟩:=z5p (l:=ps) (j:=(y%(ps.length:Int)).toNat) (by omega);have hA2:y%(ps.length:Int)=A.length:=by omega
   refine⟨A,q,B,e,hA2,?_⟩;have:kD (ps.map Pc.t) (y%(ps.length:Int))=aa q.t:=by
    rw[Mb y0 (by simpa using y1),<- hA,e];simp
   simp[cv,jV,lQ V.cell,this]
  obtain⟨A,q,B,eP,hA,e7⟩:=at_ (cell / 5);obtain⟨A2,o,B2,eO,hO,e8⟩:=at_ (cell / 50);have hw:=V.one q (by rw[eP];simp);have ho:=V.one o (by rw[eO];simp);have Wt:=V.core;rw[eP,aK,ay] at Wt;obtain⟨h1,p,h2,eh,c1,c2,c3⟩:=Vg Wt;have pm:p∈dZ:=by rw[eh];simp
  have en:=(zL c2).1;have hf:=V.lz p pm;have hfp:=V.hall.lz p pm;have zQ:=V.hall.nd;have sG:∀y∈A++B,y∈ps:=λy hy=>by
   rw[eP];rcases bp.mp hy with hy | hy
   .exact bh _ hy
   .exact bc _ (ao _ hy)
  have F3:=V.nd;have go:∀{S2:bG},(∃ρ',(eV (dN (e2 fD (af 4) (eC (.int 1)))) (aR (ic (i8 c.hall "drop" (bt 2 (CL c)) [] (af 0) (aP (e2 cv (af 7) (eC (.int 0))) aF))) (ic (kz kF wJ (af 1) (aP (af 6) aF)))) (eV (dN (e2 fD (af 4) (eC (.int 4)))) (aR (cE 8 (e2 cv (e2 cv (af 1) (e2 (gI fZ) (e2 (gI jH) (af 2) (eC (.int 50))) (e1 hW (af 1)))) (eC (.int 0)))) (aR (ic (i8 c.hall "wish" (bt 6 (xJ c)) [.bq,.bq,.bq] (af 0) (aP (e2 cv (af 7) (eC (.int 0))) (aP (eA fN (aP (af 8) aF)) aF)))) (AR (af 1) (af 6) (eA f_ (aP (e2 cv (af 7) (eC (.int 0))) (aP (e2 cv (af 7) (eC (.int 1))) (aP (e2 cv (af 7) (eC (.int 2))) (aP (e2 fT (eA fN (aP (e2 fT (e2 cv (e2 cv (af 7) (eC (.int 3))) (eC (.int 0))) (eA fN (aP (af 8) aF))) aF)) (uz (e2 cv (af 7) (eC (.int 3))) (uy (eC (.int 1))) ux)) (aP (e2 cv (af 7) (eC (.int 4))) aF))))))))) (aR (ic (i8 c.hall "switch" (bt 3 (zv c)) [] (af 0) (aP (e2 cv (af 7) (eC (.int 0))) (aP (e2 fD (af 4) (eC (.int 2))) aF)))) (AR (af 1) (af 6) (eA f_ (aP (e2 cv (af 7) (eC (.int 0))) (aP (e2 cv (af 7) (eC (.int 1))) (aP (e2 cv (af 7) (eC (.int 2))) (aP (e2 cv (af 7) (eC (.int 3))) (aP (e2 fD (af 4) (eC (.int 2))) aF)))))))))) [aa (.obj h),aa (.obj k),aa (.int cell),aa (.int n),aa (.int (cell%5)),aa (.str (gJ n)),aa (.int A.length),aa q.t,ae] S=.ok (.nx ρ') S2)->Fh c [.obj h,.obj k,.int cell,.int n] S=.ok .bq S2:=λ⟨ρ',e⟩=>by
   refine z9u (ρ:=[aa (.obj h),aa (.obj k),aa (.int cell),aa (.int n),ae,ae,ae,ae,ae]) (r:=ρ') rfl ?_;unfold M7;refine(iB (nE (t:=.int (cell%5)) (S1:=S) (by simp))).trans ?_;refine(iB (nE (t:=.str (gJ n)) (S1:=S) (by simp[hL,F2,xY]))).trans ?_;refine(iB ((ud cond).trans rfl)).trans ?_;refine(iB (nE (t:=.int A.length) (S1:=S) (by rw[<- hA];generalize (ps.length:Int)=L at yE pos ⊢;simp[yE,fZ,jH,pos]))).trans ?_;rw[hA] at e7;refine(iB (nE (t:=q.t) (S1:=S) (by generalize q.t=Q at e7 ⊢;simp[e7]))).trans ?_;exact e
  have al:A.length<=30:=by
   have:=congrArg fF eP;simp at this;omega
  have Pg:∀(q':Pc),((A++q::B).map Pc.t).set A.length q'.t=(A++q'::B).map Pc.t:=λq'=>by simp
  have zR:∀q':Pc,(A++q'::B).length=ps.length:=λq'=>by rw[eP];simp
  have q0:∀Z:bG,cv q.t (.int 0) Z=.ok (.str q.nm) Z:=λ_=>rfl;have q1:∀Z:bG,cv q.t (.int 1) Z=.ok (.str q.pl) Z:=λ_=>rfl;have q2:∀Z:bG,cv q.t (.int 2) Z=.ok q.dd Z:=λ_=>rfl;have q3:∀Z:bG,cv q.t (.int 3) Z=.ok (.lst [aL q.w0,aL q.w1,aL q.w2,aL q.w3]) Z:=λ_=>rfl;have q4:∀Z:bG,cv q.t (.int 4) Z=.ok (.bl q.on) Z:=λ_=>rfl;have o0:cv o.t (.int 0) S=.ok (.str o.nm) S:=rfl;have Wu:∀q':Pc,q'.nm=q.nm->((A++q'::B).map (·.nm)).Nodup:=λq' e=>by
   rw[eP] at F3;simpa[e] using F3
  have F4:∀q':Pc,yD (n+1) q'->∀y∈A++q'::B,yD (n+1) y:=λq' k1 y hy=>by
   rcases bp.mp hy with z | z
   .exact(V.one y (sG y (bh _ z))).up
   .rcases aH.mp z with rfl | z
    .exact k1
    .exact(V.one y (sG y (bc _ z))).up
  have F5:∀p':HP,p'.i=p.i->∀y∈h1++p'::h2,y.i+5<=r\/r+5<=y.i:=λp' e y hy=>by
   rcases bp.mp hy with z | z
   .exact V.lz y (by rw[eh];exact bh _ z)
   .rcases aH.mp z with rfl | z
    .rw[e];exact hf
    .exact V.lz y (by rw[eh];exact bc _ (ao _ z))
  have F6:∀{Z:bG} {q':Pc} {fv:DE} {ρ:Ev},Z[k]?=aa (.lst (ps.map Pc.t))->fv ρ Z=.ok q'.t Z->ρ[1]?=aa (aa (.obj k))->ρ[6]?=aa (aa (.int A.length))->AR (af 1) (af 6) fv ρ Z=.ok (.nx ρ) (Z.set k (.lst ((A++q'::B).map Pc.t))):=λ{Z q' fv ρ} hz hv h1 h6=>by
   have hx:rz ((A++q::B).map Pc.t).length (A.length:Int)=aa A.length:=z9p (by simp);rw[eP] at hz;rw[z9o,eR,hv];simp only[eR,wK,h1,h6,hz,hx,Pg]
  by_cases w1:cell%5=1
  .obtain⟨S1,ed,H1,key,l1⟩:=Zcv V.hall (nm:=p.nm) (au.mpr ⟨p,pm,rfl⟩) (Ws _ V.br) (by omega)
   rw[Wr _ V.br] at ed H1;have H1:gB c S1 h (o5 kind "hold" h) (h1++h2):=by
    rw[<- z9t (A:=h1) (B:=h2) (p:=p) (by rw[<- eh];exact zQ),<- eh];exact H1
   rw[en] at ed;have hu:S1[k]?=aa (.lst (ps.map Pc.t)):=(key k (by omega) (by omega)).trans V.cell;have R1:=R.but (S':=S1) λj a b=>key j (by omega) (by omega);obtain⟨V2,R2⟩:=V.put R (ps':=A++B) H1 (by rw[aK,aK,c1,c3]) R1 hu (λy hy=>V.lz y (by
    rw[eh];rcases bp.mp hy with z | z
    .exact bh _ z
    .exact bc _ (ao _ z))) (by
    rw[eP] at F3;simp only[aK,ay] at F3 ⊢;exact F3.sublist (JT (JU _) (List.sublist_cons_self ..))) (by have:=congrArg fF eP;simp at this ⊢;omega) (λy hy=>(V.one y (sG y hy)).up)
   have BK:wJ (.obj k) [.int A.length] S1=.ok q.t (S1.set k (.lst ((A++B).map Pc.t))):=by
    have i1:((A++q::B).map Pc.t)[A.length]?=aa q.t:=by simp
    have i2:((A++q::B).map Pc.t).eraseIdx A.length=(A++B).map Pc.t:=by
     rw[aK,ay,mH (by simp),ba,hZ,rq,aK]
    rw[eP] at hu;have i3:(0:Int)<=A.length/\(A.length:Int)<1000:=by omega
    simp only[wJ,gw,hu,if_pos i3,m_,i1,i2]
   refine⟨_,_,_,go ⟨[aa (.obj h),aa (.obj k),aa (.int cell),aa (.int n),aa (.int (cell%5)),aa (.str (gJ n)),aa (.int A.length),aa q.t,ae],?_⟩,V2,R2⟩;have F7:=qq (m:=aj "drop") h (by simp) (by simp);have BS:=m5 hu;refine(BR (S1:=S) (by simp[w1])).trans ?_;generalize S1.set k (.lst ((A++B).map Pc.t))=S2 at BK ⊢;generalize q.t=Q at q0 BK ⊢;refine(iB (zP (t:=aL [q.nm]) (S1:=S1) (by simp[i0,F7,q0,ed]))).trans ?_;exact zP (t:=Q) (by simp[BS,BK])
  .by_cases w4:cell%5=4
   .obtain⟨S1,ew,H1,l1,key⟩:=Uo V.hall pm (t0:=aL [o.nm]) (t1:=.bq) (t2:=.bq) (t3:=.bq) (λ_=>IV _) (λ_=>Ot) (λ_=>Ot) (λ_=>Ot) (by have:=hw.w0;rw[(zL c2).2.1];simp;omega) (by have:=hw.w1;rw[(zL c2).2.2];simp;omega) (by
     simp only[HP.core,Pc.full,fM] at c2;have:=hw.w2;rw[c2.2.2.2.2.2.2.2.1];simp;omega) (by
     simp only[HP.core,Pc.full,fM] at c2;have:=hw.w3;rw[c2.2.2.2.2.2.2.2.2];simp;omega)
    have H1:gB c S1 h (o5 kind "hold" h) (h1++vU p [o.nm] [] [] []::h2):=by
     rw[<- Jg (h1:=h1) (h2:=h2) (p:=p) (by rw[<- eh];exact zQ),<- eh];exact H1
    rw [en] at ew;have hu:S1[k]?=aa (.lst (ps.map Pc.t)):=(key k (by omega)).trans V.cell;have R1:=R.but (S':=S1) λj a b=>key j (by omega);obtain⟨V2,R2⟩:=V.put R (ps':=A++{ q with w0:=q.w0++[o.nm] }::B) H1 (by
     rw [aK,aK,ay,ay,c1,c3];congr 2;simp only[HP.core,Pc.full,fM,vU,cW] at c2 ⊢;obtain⟨a1,a2,a3,a4,a5,a6,a7,a8,a9⟩:=c2;exact⟨a1,a2,a3,a4,a5,by rw[a6],a7,a8,a9⟩) R1 hu (F5 _ rfl) (Wu _ rfl) (by rw[zR];omega) (F4 _ ⟨hw.pQ,hw.sm,by have:=hw.w0;simp;omega,hw.w1,hw.w2,hw.w3,hw.pl,λx hx=>by
      rcases hx with hx | hx
      .rcases bp.mp hx with hx | hx
       .exact hw.uH x (.inl hx)
       .cases aC.mp hx
        exact ho.pQ
      .exact hw.uH x (.inr hx),hw.dd,λj hj hl=>hw.new j (by omega) hl⟩)
    refine⟨_,_,_,go ⟨[aa (.obj h),aa (.obj k),aa (.int cell),aa (.int n),aa (.int (cell%5)),aa (.str (gJ n)),aa (.int A.length),aa q.t,aa (.str o.nm)],?_⟩,V2,R2⟩;have F7:=qq (m:=aj "wish") h (by simp) (by simp);refine(ud (S1:=S) (by simp[w1])).trans ?_;refine(BR (S1:=S) (by simp[w4])).trans ?_;have e8':e2 cv (e2 cv (af 1) (e2 (gI fZ) (e2 (gI jH) (af 2) (eC (.int 50))) (e1 hW (af 1)))) (eC (.int 0)) [aa (.obj h),aa (.obj k),aa (.int cell),aa (.int n),aa (.int (cell%5)),aa (.str (gJ n)),aa (.int A.length),aa q.t,ae] S=.ok (.str o.nm) S:=by
     generalize (ps.length:Int)=L at yE pos e8;generalize o.t=O at e8 o0;generalize q.t=Q;simp[yE,fZ,jH,pos,e8,o0]
    refine(iB (nE e8')).trans ?_;refine(iB (zP (t:=.bq) (S1:=S1) (by
     have ew:xJ c [.obj h,.str q.nm,.lst [.str o.nm],.bq,.bq,.bq] S=.ok .bq S1:=ew;generalize q.t=Q at q0;simp[i0,F7,q0,ew]))).trans ?_
    refine F6 hu ?_ rfl rfl;have w9:q.w0.length+1<=1000:=by have:=hw.w0;omega
    have qt:Pc.t { q with w0:=q.w0++[o.nm] }=.tup [.str q.nm,.str q.pl,q.dd,.lst [.lst (q.w0.map .str++[.str o.nm]),aL q.w1,aL q.w2,aL q.w3],.bl q.on]:=by simp[Pc.t,aL]
    rw[qt];have cl:=V8 (T.lst (q.w0.map T.str)) [T.lst (q.w1.map T.str),T.lst (q.w2.map T.str),T.lst (q.w3.map T.str)];generalize q.t=Q at q0 q1 q2 q3 q4;simp[q0,q1,q2,q3,q4,fT,uz,uy,ux,cl,c6,aL,w9]
   .obtain⟨S1,ew,H1,l1,key⟩:=Uq V.hall pm (decide (cell%5=2))
    have H1:gB c S1 h (o5 kind "hold" h) (h1++{ p with on:=decide (cell%5=2) }::h2):=by
     rw[<- Jg (h1:=h1) (h2:=h2) (p:=p) (by rw[<- eh];exact zQ),<- eh];exact H1
    rw[en] at ew;have hu:S1[k]?=aa (.lst (ps.map Pc.t)):=(key k (by omega)).trans V.cell;have R1:=R.but (S':=S1) λj a b=>key j (by omega);obtain⟨V2,R2⟩:=V.put R (ps':=A++{ q with on:=decide (cell%5=2) }::B) H1 (by
     rw[aK,aK,ay,ay,c1,c3];congr 2;simp only[HP.core,Pc.full,fM] at c2 ⊢;obtain⟨a1,a2,a3,a4,a5,a6,a7,a8,a9⟩:=c2;exact⟨a1,a2,a3,a4,trivial,a6,a7,a8,a9⟩) R1 hu (F5 _ rfl) (Wu _ rfl) (by rw[zR];omega) (F4 _ ⟨hw.pQ,hw.sm,by have:=hw.w0;show q.w0.length<=_;omega,hw.w1,hw.w2,hw.w3,hw.pl,hw.uH,hw.dd,λj hj hl=>hw.new j (by omega) hl⟩)
    refine⟨_,_,_,go ⟨[aa (.obj h),aa (.obj k),aa (.int cell),aa (.int n),aa (.int (cell%5)),aa (.str (gJ n)),aa (.int A.length),aa q.t,ae],?_⟩,V2,R2⟩;have F7:=qq (m:=aj "switch") h (by simp) (by simp);refine(ud (S1:=S) (by simp[w1])).trans ?_;refine(ud (S1:=S) (by simp[w4])).trans ?_;refine(iB (zP (t:=.bq) (S1:=S1) (by
     generalize q.t=Q at q0;simp[i0,F7,q0,ew]))).trans ?_
    refine F6 hu ?_ rfl rfl;have qt:Pc.t { q with on:=decide (cell%5=2) }=.tup [.str q.nm,.str q.pl,q.dd,.lst [aL q.w0,aL q.w1,aL q.w2,aL q.w3],.bl (decide (cell%5=2))]:=rfl;rw[qt];generalize q.t=Q at q0 q1 q2 q3 q4;simp[q0,q1,q2,q3,q4]
end DN
namespace DN
open PySem L2 MF
variable {c:Cl}{S:bG}{k:Nat}{dZ:List HP}{ps:List Pc}
theorem Ze2(n:Nat)(p:Rd):HB n (fq p):=by
 obtain⟨nm,d⟩:=p;refine Zdd (by simp) ?_;cases d<;>exact A7 (by simp)
theorem Wv(hk:S[k]?=aa (.lst (ps.map Pc.t)))(hc:dZ.map HP.core=ps.map Pc.full)(nd:(ps.map (·.nm)).Nodup)(hl:ps.length<=24)(hw:∀p∈ps,p.w0.length<=20/\p.w1.length<=20)(okp:∀p∈ps,jY p.nm)(hd:∀p∈ps,∃d:Dd,d.t=p.dd) :
  xH c [.obj k] S=.ok (match topo (mR (cU ps) (dZ.filter jK)) (cU ps).length (cU ps) [] with|some res=>.lst ((gY ps res).map fq) | none=>.bq) S:=by
 have a1:=z27 (c:=c) (lQ hk) hl;have a2:=zt8 (c:=c) (names:=cU ps) (Vj hk) hl hw;have zQ:=C8 nd;have tN:=C9 ps;have pQ:∀x∈cU ps,jY x:=λx hx=>by
  obtain⟨p,hp,rfl⟩:=BG hx;exact okp p hp
 have a3:=zv8 (c:=c) (S:=S) (Zc3 hc nd) pQ (by omega) zQ;have ue:∀{R0:MF.R Fl} {row:T},CA c [aL (cU ps),.lst ((lY (cU ps) ps).map gP)] S=.ok row S ->
   (aR (eV (dN (e2 mL (af 2) (eC .bq))) (b_ (eC .bq)) gp) (aR (cE 3 (eA jg aF)) (aR (eW (iL (af 2)) (eM 4) (E9 c)) (b_ (af 3))))) [aa (.obj k),aa (aL (cU ps)),aa row,ae,ae] S=R0->MV c [aa (.obj k),ae,ae,ae,ae] S=R0:=λ{R0 row} er h=>by
  unfold MV;refine(iB (nE (uI (mS rfl rfl) rfl a1))).trans ?_;refine(iB (nE (uI (mS rfl (mS (uI (mS rfl (mS rfl rfl)) rfl a2) rfl)) rfl er))).trans ?_;exact h
 cases q:topo (mR (cU ps) (dZ.filter jK)) (cU ps).length (cU ps) [] with
 | none=>
   rw[q] at a3;refine HX (S':=S) (uc (ρ:=[aa (.obj k),ae,ae,ae,ae]) rfl (ue a3 (C_ ?_))) (by simp) (by simp);generalize aL (cU ps)=HN;simp[mL,mK]
 | some res=>
   rw[q] at a3;have a3:CA c [aL (cU ps),.lst ((lY (cU ps) ps).map gP)] S=.ok (aL res) S:=a3;obtain⟨oT,e0,hp,_⟩:=CZ (cU ps).length zQ rfl q;rw[bU] at e0;subst e0;have rl:res.length<=24:=by rw[hp.length_eq];omega
   have sub:∀x∈res,x∈ps.map (·.nm):=λx hx=>by
    obtain⟨p,l_,rfl⟩:=BG (hp.mem_iff.mp hx);exact au.mpr ⟨p,l_,rfl⟩
   have rf:k<S.length:=(aw.mp hk).1;generalize aL (cU ps)=HN at a1 a3 ue;obtain⟨ρ',S',el,⟨x7,rfl⟩,hS⟩:=Cv (ρ:=[aa (.obj k),aa HN,aa (aL res),aa (.obj S.length),ae]) (S:=S++[.lst []]) (it:=iL (af 2)) (g:=eM 4) (body:=E9 c) (ts:=res.map .str) (st:=λS'=>c6 S' (aL res)=aa (res.map .str)) (S1:=S++[.lst []])
    (λpre ρ S'=>(∃x7,ρ=[aa (.obj k),aa HN,aa (aL res),aa (.obj S.length),x7])/\S'=S++[.lst ((gY ps (res.take pre.length)).map fq)])
    (by simp[aL]) ⟨⟨_,rfl⟩,by simp[gY]⟩ (λpre t post ρ S' qe ⟨⟨x7,hρ⟩,hS⟩=>by
     subst hρ hS;obtain⟨A,B,rfl,hA,hB⟩:=fL.mp qe;obtain⟨x,B,rfl,rfl,hB⟩:=gh.mp hB;have cX:pre.length=A.length:=by rw[<- hA];simp
     have e1:(A++x::B).take pre.length=A:=by rw[cX];simp
     have e2:(A++x::B).take (pre++[T.str x]).length=A++[x]:=by
      rw[aM,aV,cX];exact Jf ..
     rw[e1,e2,z5o];have oH:(S++[bY.lst ((gY ps A).map fq)])[k]?=aa (.lst (ps.map Pc.t)):=by rw[aD rf];exact hk
     have oc:=z5n (S:=S++[.lst ((gY ps A).map fq)]) nd hd (sub x (by simp)) (js:=[4]) (ρ:=[aa (.obj k),aa HN,aa (aL (A++x::B)),aa (.obj S.length),aa (.str x)]) (it:=MT c) (tc:=MU c) (te:=MS c) (st:=λS'=>c6 S' (.obj k)=aa (ps.map Pc.t)) (by omega) (by simp[MT,lQ oH]) (lQ oH)
      (λp hp=>by simp[MU,Pc.t]) (λp hp=>by simp[MS,Pc.t])
     have al:A.length<=24:=by simp at rl;omega
     have ex:=HY (S:=S++[.lst ((gY ps A).map fq)]) (k:=S.length) (y:=.lst ((gY ps [x]).map fq)) qZ rfl (by simp[gY];omega);rw[Fx] at ex;have Df:=m5 (S:=S++[.lst ((gY ps A).map fq)]) (k:=S.length) qZ;refine⟨by simp[aL],_,rfl,[aa (.obj k),aa HN,aa (aL (A++x::B)),aa (.obj S.length),aa (.str x)],S++[.lst ((gY ps A).map fq++(gY ps [x]).map fq)],?_,⟨_,rfl⟩,by rw[aK]⟩;show E9 c [aa (.obj k),aa HN,aa (aL (A++x::B)),aa (.obj S.length),aa (.str x)] _=_;generalize S++[bY.lst ((gY ps A).map fq++(gY ps [x]).map fq)]=Z2 at ex ⊢;generalize S++[bY.lst ((gY ps A).map fq)]=Z1 at oc ex Df ⊢;generalize aL (A++x::B)=RT at oc ⊢;generalize (gY ps [x]).map fq=OL at oc ex;simp[E9,Df,oc,ex]) (λ_ _ _=>rfl)
   rw[ba,jS] at hS;subst hS;refine Mf (S':=S++[.lst ((gY ps res).map fq)]) (k:=S.length) (uc (ρ:=[aa (.obj k),ae,ae,ae,ae]) rfl (ue a3 ?_)) (by simp) (aB _) qZ λt ht=>?_
   .refine(iB (r:=[aa (.obj k),aa HN,aa (aL res),ae,ae]) (S1:=S) (by simp[mL,mK,aL])).trans ?_
    refine(iB (nE (t:=.obj S.length) (S1:=S++[.lst []]) (by simp))).trans ?_;refine(iB el).trans ?_;exact Dc rfl
   .obtain⟨p,_,rfl⟩:=au.mp ht
    exact Ze2 _ _
end DN
namespace DN
open PySem L2 MF
variable {c:Cl}{S:bG}{k h r n:Nat}{kind:Str}{dZ:List HP}{ps:List Pc}
theorem Sv.OU(V:Sv c S k h r kind n dZ ps)(hn:n<=12):BH ps:=⟨V.nd,by have:=V.len;omega,λp hp=>by have a:=(V.one p hp).w0;have b:=(V.one p hp).w1;omega,λp hp=>(V.one p hp).sm⟩
theorem z9w{S':bG}(h:∀j,j<S.length->S'[j]?=S[j]?):S.length<=S'.length:=by
 rcases Nat.eq_zero_or_pos S.length with e | e
 .omega
 .have:=(h (S.length-1) (by omega)).trans (a_ (show S.length-1<S.length by omega))
  have:=(aw.mp this).1;omega
theorem z5q{k ru:Str}{m:Int}{ds:List Rd}{y:Rs}(hk:k = "all" \/ k = "first" \/ k = "chain" \/ k = "round")(e:fin ds ⟨k,ru,m,ds,[],false,[],.bq,[]⟩=.ok y):y.wU=fW k ds m:=by
 obtain⟨i1,i2,i3,i4⟩:=O5 _ _ e;have ek:=(FZ _ _ e).1;unfold Rs.wU fW;rw[ek];show(if k = "all" then _ else _)=_;rcases hk with q | q | q | q
 .have:=i1 q;simp at this;simp[q,this]
 .have:=i2 q rfl;simp at this;simp[q,this]
 .have:=i3 q;simp at this;simp[q,this]
 .have:=i4 q
  have:v9 y.num y.ard=jL ds m:=by rw[this];rfl
  simp[q,this]
theorem Ww(k:Str)(ds:List Rd)(m:Int):yC k "hold" ds m=.tup [.str "told",.tup [fW k ds m,.lst ((fR k ds).map ip)]]:=by
 unfold yC;cases fR k ds<;>simp
theorem Wx{m:Int}{ds:List Rd}(hl:ds.length<=100):xQ c [fW kind ds m,fW kind ds m] S=.ok (.bl true) S/\vO c [.lst ((fR kind ds).map ip),.lst ((fR kind ds).map ip)] S=.ok (.bl true) S:=
 ⟨zwf ⟨λz=>by simp[fW,z],λ_=>rfl⟩ (by omega),zzt rfl rfl (by have:=Wj kind ds;omega)⟩
theorem zzv{m:Int}{ds:List Rd}{y:Rs}(R:h8 c S r y.x)(hk:kind = "all" \/ kind = "first" \/ kind = "chain" \/ kind = "round")(e:fin ds ⟨kind, "hold",m,ds,[],false,[],.bq,[]⟩=.ok y)(hd:y.deeds=[])(hb:y.brk=false)(F8:∀p∈ds,jY p.1)(hl:ds.length<24) :
  Fp c [.obj r,.str kind,.lst (ds.map fq),.int m] S=.ok (.bl true) S:=by
 have ea:=z5q hk e;obtain⟨k1,k2⟩:=FZ _ _ e;obtain⟨h1,-⟩:=Js _ _ e;have h1:y.held=fR kind ds:=by simpa using h1
 have k2:y.ard.length<=ds.length:=by simpa using k2
 have fa:=VU R (by rw[k1];exact hk) hd hb (by omega);rw[ea] at fa;have ff:=VW R;rw[h1] at ff;have ou:=Wf (c:=c) (S:=S) (k:=kind) (ru := "hold") (ds:=ds) (m:=m) (t:=.lst (ds.map fq)) hk Vi F8 hl;rw[Ww] at ou;obtain⟨b1,b2⟩:=Wx (c:=c) (S:=S) (kind:=kind) (m:=m) (ds:=ds) (by omega);have i2:=R.ins;generalize ds.map fq=DL at ou ⊢;generalize T.lst ((fR kind ds).map ip)=HL at ou ff b2;generalize fW kind ds m=AN at ou fa b1;refine uc (ρ:=[aa (.obj r),aa (.str kind),aa (.lst DL),aa (.int m),ae]) rfl ?_;unfold T1;refine(iB (nE (t:=.tup [AN,HL]) (S1:=S) (by simp[ou]))).trans ?_;exact Dc (by simp[pC,i2,VH,fa,b1,VX,ff,b2])
theorem Wy(V:Sv c S k h r kind n dZ ps)(hn:n<=12)(hk:kind = "all" \/ kind = "first" \/ kind = "chain" \/ kind = "round")(m:Int) :
  ∃S',Bp c [.obj h,.str kind,.obj k,.int m] S=.ok (.bl true) S'/\∀j,j<S.length->S'[j]?=S[j]?:=by
 have W:=V.OU hn;have Pf:=V.len;have rn:=Wv (c:=c) V.cell V.core V.nd W.len (λp hp=>by have a:=(V.one p hp).w0;have b:=(V.one p hp).w1;omega) (λp hp=>(V.one p hp).pQ) (λp hp=>(V.one p hp).dd);obtain⟨t1,t2⟩:=Zdc (n:=m) V.hall (pm:=⟨"hub",kind, "hold",h+3⟩) (by simp[o5]) V.core W (λp hp=>(V.one p hp).dd) hk (.inl rfl);have zQ:=C8 V.nd;have tN:=C9 ps;have es:vI [c.ring] c.ring c.ring=aa true:=by simp[vI]
 cases q:topo (mR (cU ps) (dZ.filter jK)) (cU ps).length (cU ps) [] with
 | none=>
   rw[q] at rn;obtain⟨S',fs,e,kp⟩:=t2 q;have er:=z9e (S:=S');refine⟨S',uc (ρ:=[aa (.obj h),aa (.str kind),aa (.obj k),aa (.int m),ae,ae,ae]) rfl ?_,kp⟩;unfold Nb;refine(iB (nE (uI (mS rfl rfl) rfl rn))).trans ?_;refine(iB (nE (t:=.bq) (S1:=S) rfl)).trans ?_;refine(iB (r:=[aa (.obj h),aa (.str kind),aa (.obj k),aa (.int m),aa .bq,aa (.tup [.str "ring"]),ae]) (S1:=S') (by simp[IJ,e,H_,es,rD,TZ,qT])).trans ?_;exact C_ (by simp[mL,mK,er])
 | some res=>
   rw[q] at rn;have rn:xH c [.obj k] S=.ok (.lst ((gY ps res).map fq)) S:=rn;obtain⟨S',kp,-,hh⟩:=t1 res q;have e:wN c [.obj h,.str "hub",.int m] S=.ok (.tup [fW kind (gY ps res) m,.lst ((fR kind (gY ps res)).map ip)]) S':=by
    rcases hh with⟨hh,-⟩ | ⟨-,hh⟩
    .have:(aj "hold") = "hand":=hh
     exact absurd this (by decide)
    .exact hh
   obtain⟨oT,e0,hp,_⟩:=CZ (cU ps).length zQ rfl q;rw[bU] at e0;subst e0;have F8:∀p∈gY ps res,jY p.1:=λp l_=>by
    obtain⟨x,hx,rfl⟩:=au.mp l_;obtain⟨p,vh,rfl⟩:=BG (hp.mem_iff.mp hx);exact(V.one p vh).pQ
   have rl:(gY ps res).length<24:=by rw[Pa,hp.length_eq];omega
   have ou:=Wf (c:=c) (S:=S') (k:=kind) (ru := "hold") (ds:=gY ps res) (m:=m) (t:=.lst ((gY ps res).map fq)) hk Vi F8 rl;rw[Ww] at ou;obtain⟨b1,b2⟩:=Wx (c:=c) (S:=S') (kind:=kind) (m:=m) (ds:=gY ps res) (by omega);refine⟨S',uc (ρ:=[aa (.obj h),aa (.str kind),aa (.obj k),aa (.int m),ae,ae,ae]) rfl ?_,kp⟩;generalize (gY ps res).map fq=DL at ou rn;generalize T.lst ((fR kind (gY ps res)).map ip)=HL at ou e b2;generalize fW kind (gY ps res) m=AN at ou e b1;unfold Nb;refine(iB (nE (uI (mS rfl rfl) rfl rn))).trans ?_;refine(iB (nE (t:=.bq) (S1:=S) rfl)).trans ?_;refine(iB (r:=[aa (.obj h),aa (.str kind),aa (.obj k),aa (.int m),aa (.lst DL),aa (.tup [AN,HL]),ae]) (S1:=S') (by simp[IJ,e])).trans ?_;refine(iB (r:=[aa (.obj h),aa (.str kind),aa (.obj k),aa (.int m),aa (.lst DL),aa (.tup [AN,HL]),ae]) (S1:=S') (by simp[mL,mK])).trans ?_;refine(iB (r:=[aa (.obj h),aa (.str kind),aa (.obj k),aa (.int m),aa (.lst DL),aa (.tup [AN,HL]),ae]) (S1:=S') (by simp[kE,oO,hW,jV])).trans ?_;refine(iB (nE (t:=.tup [AN,HL]) (S1:=S') (by simp[ou]))).trans ?_;exact Dc (by simp[pC,b1,b2])
end DN
namespace DN
open PySem L2 MF
variable {c:Cl}{S:bG}{k h r n:Nat}{kind:Str}{dZ:List HP}{ps:List Pc}
theorem Sv.keep{S':bG}(V:Sv c S k h r kind n dZ ps)(f:∀j,j<S.length->S'[j]?=S[j]?):Sv c S' k h r kind n dZ ps:=
 ⟨V.hall.keep f,V.core,(f k (aw.mp V.cell).1).trans V.cell,V.lo,V.hi,V.lz,bJ V.top (z9w f),V.nd,V.len,V.one⟩
theorem Sv.step{S':bG}(V:Sv c S k h r kind n dZ ps)(f:jy S S' r):Sv c S' k h r kind n dZ ps:=by
 have hi:=V.hi;have lo:=V.lo;refine⟨V.hall.but λj hj=>f.same j ?_,V.core,(f.same k (by omega)).trans V.cell,lo,hi,V.lz,by rw[f.len];exact V.top,V.nd,V.len,V.one⟩;rcases hj with rfl | rfl | rfl | ⟨q,hq,rfl⟩ | ⟨p,hp,h1,h2⟩
 .omega
 .omega
 .omega
 .simp only[o5,aH,cO,or_false] at hq
  rcases hq with rfl | rfl<;>simp<;>omega
 .have:=V.lz p hp
  omega
structure BU(c:Cl)(S:bG)(r n:Nat)(yF y:Rs):Prop where
 run:h8 c S r y.x
 ok:y.ok
 rule:y.rule = "hold"
 brk:y.brk=false
 fin:fin y.deeds y=.ok yF
 nN:y.deeds.length<=10-n
theorem Ze3{yF y:Rs}(G:BU c S r n yF y):∃S' t y',uG c [.obj r] S=.ok t S'/\jy S S' r/\BU c S' r (n+1) yF y':=by
 have nN:=G.nN;cases hd:y.deeds with
 | nil=>
   have hf:=G.fin;rw[hd] at nN;exact⟨S,.bq,y,zwc G.run hd,jy.refl S r,⟨G.run,G.ok,G.rule,G.brk,hf,by rw[hd];simp⟩⟩
 | cons p ds=>
   have hn:¬∃a,p.2=.fail a/\y.rule = "hand":=λ⟨a,_,e⟩=>by
    rw[G.rule] at e;exact absurd e (by decide)
   obtain⟨S',e,R',kp⟩:=(VP G.run G.ok hd).2 hn;obtain⟨s1,s2,s3,s4⟩:=BL (x:=y) p ds;have hf:=G.fin;rw[hd] at hf nN;unfold DN.fin at hf;have hx:sF y.rule p.2=ae:=by
    cases q:sF y.rule p.2 with
    |none=>rfl
    |some a=>exact absurd (O4.mpr ⟨a,q⟩) hn
   rw[hx] at hf;have fl:(y.step p ds).deeds.length<=ds.length:=by
    rw[s4]
    split<;>simp
   refine⟨S',.str p.1,y.step p ds,e,kp,⟨R',VR G.ok hd,by rw[s2];exact G.rule,by rw[s3];exact G.brk,?_,by simp at nN;omega⟩⟩;rw[s4];by_cases st:rg y.kind p.2=true
   .simp only[st,if_true] at hf ⊢
    exact hf
   .simp only[st] at hf ⊢
    exact hf
theorem z3u(ns:List Int):∀p∈BP ns,∃i:Nat,i<11/\p.nm=qY i:=by
 have h1:=cB (cellAt ns 0) (show(0:Int)<11 by decide);have q:∀p∈rF ns 3 (cellAt ns 0%11),∃i:Nat,i<11/\p.nm=qY i:=λp hp=>by
  obtain⟨i,hi,rfl⟩:=au.mp hp;have:=eZ.mp hi;exact⟨i,by omega,rfl⟩
 unfold BP
 split
 .intro p hp
  obtain⟨p',hp',rfl⟩:=au.mp hp;exact q p' hp'
 .exact q
theorem Ze4{NS:T}{ns:List Int}{yF:Rs}{m:Int}{rows:T}(Jv:NS=.lst (ns.map .int))(hk:kind = "all" \/ kind = "first" \/ kind = "chain" \/ kind = "round")(hn:n<12)(V:Sv c S k h r kind n dZ ps){y:Rs}(G:BU c S r n yF y) :
  ∃S' oa ps' y',CP c [aa NS,aa (.obj k),aa (.str kind),aa (.int m),aa rows,aa (.obj h),aa (.obj r),aa (.int n)] S=.ok (.nx [aa NS,aa (.obj k),aa (.str kind),aa (.int m),aa rows,aa (.obj h),aa (.obj r),aa (.int n)]) S'/\Sv c S' k h r kind (n+1) oa ps'/\BU c S' r (n+1) yF y':=by
 have ce:=CV (c:=c) (S:=S) ns (33+(n:Int)) (by omega);rw[<- Jv] at ce;obtain⟨S1,F9,Wz,e1,V1,R1⟩:=z9v V G.run hn (cellAt ns (33+(n:Int)));obtain⟨S2,t,y2,es,kp,G2⟩:=Ze3 (⟨R1,G.ok,G.rule,G.brk,G.fin,G.nN⟩:BU c S1 r n yF y);have V2:=V1.step kp;have i1:=R1.ins;have first:∀{R0:MF.R Fl},(eV (vw (dN (e2 fD (af 7) (eC (.int 2)))) (si (nA (fH (bt 4 (Bp c)) [] (aP (af 5) (aP (af 2) (aP (af 1) (aP (e2 fT (af 3) (eC (.int 1))) aF)))))))) (b_ (eC (.bl false))) gp) [aa NS,aa (.obj k),aa (.str kind),aa (.int m),aa rows,aa (.obj h),aa (.obj r),aa (.int n)] S2=R0->CP c [aa NS,aa (.obj k),aa (.str kind),aa (.int m),aa rows,aa (.obj h),aa (.obj r),aa (.int n)] S=R0:=λ{R0} hh=>by
  unfold CP;refine(iB (zP (t:=.bq) (S1:=S1) (by simp[ce,e1]))).trans ?_;refine(iB (zP (t:=t) (S1:=S2) (by simp[i1,OV,es]))).trans ?_;exact hh
 by_cases q:n=2
 .obtain⟨S3,e3,k3⟩:=Wy V2 (by omega) hk (m+1)
  refine⟨S3,F9,Wz,y2,first ?_,V2.keep k3,⟨G2.run.but λj a b=>k3 j (by have:=V2.top;omega),G2.ok,G2.rule,G2.brk,G2.fin,G2.nN⟩⟩;subst q;refine(ud (S1:=S3) ?_).trans rfl;simp[e3]
 .refine⟨S2,F9,Wz,y2,first ?_,V2,G2⟩
  have q2:(n:Int)≠2:=by omega
  refine(ud (S1:=S2) ?_).trans rfl;simp[q2]
theorem Ph(ns:List Int):∃S',T2 c [.lst (ns.map .int)] []=.ok (.bl true) S':=by
 have F:=z5m ns;have nm:=z3u ns;obtain⟨k,S0,eS,mJ⟩:=Zde (c:=c) (S:=[]) ns;have c1:=CV (c:=c) (S:=S0) ns 1 (by decide);have c2:=CV (c:=c) (S:=S0) ns 2 (by decide);generalize BP ns=ps at F nm mJ;have k1:=z9l (cellAt ns 1);have hk:=z9m (cellAt ns 1);generalize zO (cellAt ns 1)=kind at k1 hk;have D:=F.d;have dl:=F.ten;have W:=D.OU F.sm;obtain⟨S1,dZ,eH,H,v_,kS⟩:=zv7 (c:=c) (S:=S0) (kind:=kind) (rule := "hold") (Vj mJ) D.nd (by omega) D.pl (λp hp=>by have:=D.w p hp;omega);have rn:=Wv (c:=c) mJ v_ D.nd (by omega) (λp hp=>by have:=D.w p hp;omega) D.pQ F.dd;obtain⟨NS,Jv⟩:∃NS,NS=T.lst (ns.map .int):=⟨_,rfl⟩;rw[<- Jv] at c1 c2 eS ⊢;generalize hn:cellAt ns 2%2001-1000=m
 suffices fin:∃S',IK c [aa NS,ae,ae,ae,ae,ae,ae,ae] []=.ok (.rt (.bl true)) S' by
  obtain⟨S',ef⟩:=fin;exact⟨S',uc (ρ:=[aa NS,ae,ae,ae,ae,ae,ae,ae]) rfl ef⟩
 have ue:∀{R0:MF.R Fl} {rows:T},xH c [.obj k] S0=.ok rows S0 ->
   (aR (eV (dN (e2 mL (af 4) (eC .bq))) (b_ (eC (.bl true))) gp) (aR (cE 5 (fH (bt 3 (CD c)) [] (aP (af 1) (aP (af 2) (aP (eC (.str "hold")) aF))))) (aR (cE 6 (fH (bt 3 (vM c)) [] (aP (af 5) (aP (eC (.str "hub")) (aP (af 3) aF))))) (aR (eW (vB (aP (eC (.int 12)) aF)) (eM 7) (CP c)) (aR (eV (lO (dN (e2 vx (i8 c.run "over" (bt 1 (t9 c)) [] (af 6) aF) (eC (.bl true)))) (si (nA (fH (bt 4 (Fp c)) [] (aP (af 6) (aP (af 2) (aP (af 4) (aP (af 3) aF)))))))) (b_ (eC (.bl false))) gp) (b_ (fH (bt 4 (Bp c)) [] (aP (af 5) (aP (af 2) (aP (af 1) (aP (af 3) aF))))))))))) [aa NS,aa (.obj k),aa (.str kind),aa (.int m),aa rows,ae,ae,ae] S0=R0 ->
   IK c [aa NS,ae,ae,ae,ae,ae,ae,ae] []=R0:=λ{R0 rows} er hh=>by
  unfold IK;refine(iB (nE (uI (mS rfl rfl) rfl eS))).trans ?_;refine(iB (nE (t:=.str kind) (S1:=S0) (by simp[c1,k1]))).trans ?_;refine(iB (nE (t:=.int m) (S1:=S0) (by simp[c2,hn]))).trans ?_;refine(iB (nE (uI (mS rfl rfl) rfl er))).trans ?_;exact hh
 cases q:topo (mR (cU ps) (dZ.filter jK)) (cU ps).length (cU ps) [] with
 | none=>
   rw[q] at rn;exact⟨S0,ue rn (C_ (by simp[mL,mK]))⟩
 | some res=>
   rw[q] at rn;have rn:xH c [.obj k] S0=.ok (.lst ((gY ps res).map fq)) S0:=rn;have b1:=z5k (n:=m) H (pm:=⟨"hub",kind, "hold",S0.length+3⟩) (by simp[o5]) v_ W F.dd;obtain⟨S2,r,eB,R,l2,l3,k2⟩:=b1 res q;obtain⟨oT,e0,hp,_⟩:=CZ (cU ps).length (C8 D.nd) rfl q;rw[bU] at e0;subst e0;have hl:=C9 ps;have rl:(gY ps res).length<=10:=by rw[Pa,hp.length_eq];omega
   have mem:∀p∈gY ps res,∃q∈ps,q.nm=p.1:=λp l_=>by
    obtain⟨x,hx,rfl⟩:=au.mp l_;obtain⟨p,vh,rfl⟩:=BG (hp.mem_iff.mp hx);exact⟨p,vh,rfl⟩
   have F8:∀p∈gY ps res,jY p.1:=λp l_=>by
    obtain⟨q,hq,e⟩:=mem p l_;rw[<- e];exact D.pQ q hq
   have la:r+4<S2.length:=(aw.mp R.a).1;have WA:k<S0.length:=(aw.mp mJ).1;have lp:S0.length+4<S1.length:=(aw.mp (H.place ⟨"side", "all", "hold",S0.length+4⟩ (by simp[o5]))).1;have V:Sv c S2 k S0.length r kind 0 dZ ps:=by
    refine⟨H.keep k2,v_,((k2 k (by omega)).trans (kS k WA)).trans mJ,WA,by omega,λp l_=>.inl (by have:=(H.piece p l_).lt;omega),by omega,D.nd,by omega,λp l_=>?_⟩;have w:=D.w p l_;refine⟨D.pQ p l_,F.sm p l_,by omega,w.2.1,w.2.2.1,w.2.2.2,D.pl p l_,D.uH p l_,F.dd p l_,λj _ hj e=>?_⟩;obtain⟨i,hi,e2⟩:=nm p l_;rw[e2] at e;exact z9q j hj i hi e
   obtain⟨yF,hF⟩:∃yF,fin (gY ps res) ⟨kind, "hold",m,gY ps res,[],false,[],.bq,[]⟩=.ok yF:=by
    cases e:fin (gY ps res) ⟨kind, "hold",m,gY ps res,[],false,[],.bq,[]⟩ with
    |ok y=>exact⟨y,rfl⟩
    | error z=>
      have:=(Jr _ _ e).1;have:(aj "hold") = "hand":=this;exact absurd this (by decide)
   have G:BU c S2 r 0 yF ⟨kind, "hold",m,gY ps res,[],false,[],.bq,[]⟩:=⟨R,⟨hk,.inl rfl,λp l_=>by
    obtain⟨q,hq,e⟩:=mem p l_;rw[<- e];have:=F.sm q hq;show(cR q.nm).length<=100;omega,by simp;omega⟩,rfl,rfl,hF,by simpa using rl⟩
   generalize zS:T.lst ((gY ps res).map fq)=rows at rn;have pH:∀x,vB (aP (eC (.int 12)) aF) [aa NS,aa (.obj k),aa (.str kind),aa (.int m),aa rows,aa (.obj S0.length),aa (.obj r),x] S2=.ok (qi 0 12,λ_=>True) S2:=λx=>by
    obtain⟨z,hz⟩:∃z:Int,z=12:=⟨_,rfl⟩;have ha:aP (eC (.int 12)) aF [aa NS,aa (.obj k),aa (.str kind),aa (.int m),aa rows,aa (.obj S0.length),aa (.obj r),x] S2=.ok [.int z] S2:=by rw[hz];rfl
    have h1:z.toNat=12:=by omega
    have h2:-1000000<=z/\z<=1000000:=by omega
    rw[Sz,eR,ha];simp only[if_pos h2,h1]
   obtain⟨ρ',S3,el,x7,FQ,ps3,y3,hρ,V3,G3⟩:=Cv (ρ:=[aa NS,aa (.obj k),aa (.str kind),aa (.int m),aa rows,aa (.obj S0.length),aa (.obj r),ae]) (S:=S2) (it:=vB (aP (eC (.int 12)) aF)) (g:=eM 7) (body:=CP c) (ts:=qi 0 12) (st:=λ_=>True) (S1:=S2)
    (λpre ρ S'=>∃x7 oa ps' y,ρ=[aa NS,aa (.obj k),aa (.str kind),aa (.int m),aa rows,aa (.obj S0.length),aa (.obj r),x7]/\Sv c S' k S0.length r kind pre.length oa ps'/\BU c S' r pre.length yF y)
    (pH ae) ⟨ae,dZ,ps,_,rfl,V,G⟩ (λpre t post ρ S' qe ⟨x7,oa,ps',y,hρ,V',G'⟩=>by
     obtain⟨rB,rfl⟩:=Uh qe;subst hρ;obtain⟨S4,BE,ps4,y4,e4,V4,G4⟩:=Ze4 (m:=m) (rows:=rows) Jv hk rB V' G';refine⟨trivial,_,rfl,_,S4,e4,aa (.int pre.length),BE,ps4,y4,rfl,?_,?_⟩
     .rw[aM,aV];exact V4
     .rw[aM,aV];exact G4) (λ_ _ _=>trivial)
   rw[Cs] at V3 G3;subst hρ;have hd:y3.deeds=[]:=fG (by have:=G3.nN;omega);have hy:y3=yF:=by
    have:=G3.fin;rw[hd] at this;injection this
   have ov:=BJ G3.run;have eo:y3.x.deeds.isEmpty=true:=by simp[Rs.x,hd]
   rw[eo] at ov;have en:=zzv G3.run hk (by rw[hy];exact hF) hd G3.brk F8 (by omega);rw[zS] at en;obtain⟨S5,e5,-⟩:=Wy V3 (aB _) hk m;have i3:=G3.run.ins;refine⟨S5,ue rn ?_⟩;refine(iB (r:=[aa NS,aa (.obj k),aa (.str kind),aa (.int m),aa rows,ae,ae,ae]) (S1:=S0) (by rw[<- zS];simp[mL,mK])).trans ?_;refine(iB (nE (uI (mS rfl (mS rfl (mS rfl rfl))) rfl eH))).trans ?_;refine(iB (nE (uI (mS rfl (mS rfl (mS rfl rfl))) rfl eB))).trans ?_;refine(iB el).trans ?_;refine(iB (r:=[aa NS,aa (.obj k),aa (.str kind),aa (.int m),aa rows,aa (.obj S0.length),aa (.obj r),x7]) (S1:=S3) (by simp[i3,zM,ov,vx,en])).trans ?_;exact Dc (uI (mS rfl (mS rfl (mS rfl (mS rfl rfl)))) rfl e5)
end DN
namespace MF
open PySem L2
theorem u{d k:Nat}{A:Nat->Prop}(h:∀k,d<=k->A k)(hd:d<=k:=by decide):A k:=h k hd
section
variable {P:aU}{w:bz}{K:aO}{mg:Str->Option ag}{base h:bR}{x m qual:Str}{st:bS}{dV:ag}{ps:List Str}{C f:ai}{fd:bA}{F:Fn}{d:Nat}
structure FV(K:aO)(x qual:Str)(st:bS)(dV:ag)(ps:List Str)(f:ai)(fd:bA):Prop where
 v:cJ K x qual st dV f fd
 b:lI K fd ps []
structure FN(K:aO)(x:Str)(st:bS)(ps:List Str)(f:ai)(fd:bA):Prop extends FV K x x st .none ps f fd where
 a:qd K bu x=aa (aa (.ref f))
structure FM(K:aO)(C:ai)(m qual:Str)(st:bS)(dV:ag)(ps:List Str)(f:ai)(fd:bA):Prop extends FV K m qual st dV ps f fd where
 a:gQ K (.ref C) m=aa (aa (.ref f))
 i:gR K (.ref f)=true
structure CM(K:aO)(x:Str)(C:ai):Prop where
 a:qd K bu x=aa (aa (.ref C))
 HU:PySem.W.makesIn K C=true
 kp:iS K (.ref C)=true
theorem FN.up(y:FN K x st ps f fd)(X:K.In h)(G:h.Ns bu mg)(o:bH P w K mg base (dM P w) d f fd ps (fO ps.length F)):∀k,d<=k->FnAt P w K mg base k x ps F f fd:=λ_ q=>⟨o.mono q,w5 X G y.a,y.v.kp,y.b⟩
theorem FM.up(y:FM K C m qual st dV ps f fd)(c:nj K C)(o:bH P w K mg base (dM P w) d f fd ps (fO ps.length F)):∀k,d<=k->e_ P w K mg base k C m ps F f fd:=λ_ q=>⟨o.mono q,c,⟨y.a,y.i,y.v.kp⟩,y.b⟩
theorem FM.mk'(y:FM K C "__init__" qual st dV ps f fd)(c:CM K x C)(X:K.In h)(G:h.Ns bu mg)(o:bH P w K mg base (dM P w) d f fd ps (fO ps.length F)):∀k,d<=k->sx P w K mg base k x C ps F f fd:=λ_ q=>⟨o.mono q,w5 X G c.a,⟨c.HU,y.a,y.i,c.kp⟩,y.b⟩
variable {oc:ag}{od an:Option ai}{sl:Array (Option ag)}{kV dc pm cd ct:ag}
theorem Ze5(a:qd K bu x=aa (aa (.ref f)))(l:K.lookup f=aa ⟨oc,od,.func (fw x x (qI st) (ot st) (d8 st) .none kV dc pm an cd ct),sl⟩)(c:oq K cd x=true)(k:iS K (.ref f)=true)
 (b:∀(kV nq pm:ag) (an:Option ai) (hU ct:ag) (us:List ag),us.length=ps.length->yH (fw x x (qI st) (ot st) (d8 st) .none kV nq pm an hU ct) ⟨us,[]⟩=pure (ps.zip us)):FN K x st ps f (fw x x (qI st) (ot st) (d8 st) .none kV dc pm an cd ct):=⟨⟨(He l c k).toV,(He l c k).binds b⟩,a⟩
theorem Ze6(a:gQ K (.ref C) x=aa (aa (.ref f)))(i:gR K (.ref f)=true)(l:K.lookup f=aa ⟨oc,od,.func (fw x qual (qI st) (ot st) (d8 st) .none kV dc pm an cd ct),sl⟩)(c:oq K cd qual=true)(k:iS K (.ref f)=true)
 (b:∀(kV nq pm:ag) (an:Option ai) (hU ct:ag) (us:List ag),us.length=ps.length->yH (fw x qual (qI st) (ot st) (d8 st) .none kV nq pm an hU ct) ⟨us,[]⟩=pure (ps.zip us)):FM K C x qual st .none ps f (fw x qual (qI st) (ot st) (d8 st) .none kV dc pm an cd ct):=⟨⟨(He l c k).toV,(He l c k).binds b⟩,a,i⟩
theorem WB(a:gQ K (.ref C) x=aa (aa (.ref f)))(i:gR K (.ref f)=true)(l:K.lookup f=aa ⟨oc,od,.func (fw x qual (qI st) (ot st) (d8 st) dV kV dc pm an cd ct),sl⟩)(c:oq K cd qual=true)(k:iS K (.ref f)=true)(b:lI K (fw x qual (qI st) (ot st) (d8 st) dV kV dc pm an cd ct) ps []):FM K C x qual st dV ps f (fw x qual (qI st) (ot st) (d8 st) dV kV dc pm an cd ct):=⟨⟨⟨⟨_,_,_,_,_,_,_,_,_,rfl,l,c⟩,k⟩,b⟩,a,i⟩
end
end MF
namespace K07
open PySem L2 MF DN
theorem og{K:W.Frag}{T:ai}{oc:ag}{od an:Option ai}{sl:Array (Option ag)}{n:Nat}{kV dc pm cd ct:ag}(l:K.lookup T=aa ⟨oc,od,.seq #[.none] n,sl⟩):lI K (W.fnOf "hang" "Hall.hang" (qI Bs) (ot Bs) (d8 Bs) (.ref T) kV dc pm an cd ct) ["self", "name", "place", "deed", "by"] []:=λs us X hl=>by
 obtain⟨_,_,_,_,_,rfl⟩:=E1 (show us.length=5 by simpa using hl);exact W.binds_K X rfl l rfl rfl rfl
theorem zpn{K:W.Frag}{T f:ai}{oc:ag}{od:Option ai}{sl:Array (Option ag)}{n:Nat}{fd:bA}(v:cJ K "hang" "Hall.hang" Bs (.ref T) f fd)(l:K.lookup T=aa ⟨oc,od,.seq #[.none] n,sl⟩):lI K fd ["self", "name", "place", "deed", "by"] [.none]:=λs us X hl=>by
 obtain⟨_,_,_,_,_,_,_,_,_,rfl,_,_⟩:=v.ex;obtain⟨_,_,_,_,rfl⟩:=EZ (show us.length=4 by simpa using hl);exact W.binds_K X rfl l rfl rfl rfl
theorem oh{K:W.Frag}{T:ai}{oc:ag}{od an:Option ai}{sl:Array (Option ag)}{n:Nat}{kV dc pm cd ct:ag}(l:K.lookup T=aa ⟨oc,od,.seq #[.none,.none,.none,.none] n,sl⟩):lI K (W.fnOf "wish" "Hall.wish" (qI Bt) (ot Bt) (d8 Bt) (.ref T) kV dc pm an cd ct) ["self", "name", "ahead", "behind", "needs", "bars"] []:=λs us X hl=>by
 obtain⟨_,_,_,_,_,_,rfl⟩:=Mu (show us.length=6 by simpa using hl);exact W.binds_K X rfl l rfl rfl rfl
theorem zpo{K:W.Frag}{T f:ai}{oc:ag}{od:Option ai}{sl:Array (Option ag)}{n:Nat}{fd:bA}(v:cJ K "wish" "Hall.wish" Bt (.ref T) f fd)(l:K.lookup T=aa ⟨oc,od,.seq #[.none,.none,.none,.none] n,sl⟩):lI K fd ["self", "name", "ahead", "behind", "needs", "bars"] [.none,.none,.none]:=λs us X hl=>by
 obtain⟨_,_,_,_,_,_,_,_,_,rfl,_,_⟩:=v.ex;obtain⟨_,_,_,rfl⟩:=EY (show us.length=3 by simpa using hl);exact W.binds_K X rfl l rfl rfl rfl
theorem all_mk{l:W.OpenLaw}{w:bz}{K:W.Frag}{h:bR}{mg:Str->Option ag}{fa:ai}{yn yj Dh ya y4 yh y3 y4x y6g y6r y6o y5c y79 y5f y6z y65 y25 y4a y3s y3f y2w y2u y33 y60 WC y2r y7l y6a WD y4m y6l y5p y3k y4c y3l WE y4l y46 y5j y7e y4w y5y y4r y6p y2b WG y6x y7r y3z y72 y4j y6v y5d y45 y5n y7o y7s y62 y70 y1t y4z y5u y63 y2q y2m y37 y3d y1:ai}  {y4t y4i:Option ai}{y57 y4v:Array (Option ag)}{y59 y54:ag}{y3u y3p:Tok}{y5h y5g:Nat}{y4o y71 y6h y74 y5i y7b y5m y6j y6d y28 y48 y3i y32 y2p y2v y36 y61 y2x y7j y67 y4p y6t y5s y3x y4e y3m y3w y4s y4b y5l y7h y4q y5x y53 y6k y2e y2d y6n y7t y42 y6f y4n y6m y5q y4f y5b y7n y7q y5v y6q y1z y50 y64 y69 y2s y2l y3c y3g y2:bA}
  (X:K.In h) (G:h.Ns bu mg) (hfa:mg "law" = aa (.ref fa))
  (y1x:W.nsIn K bu "HallError" = aa (aa (.ref y4)))
  (y4y:W.nsIn K bu "Ring" = aa (aa (.ref yh)))
  (y1w:W.nsIn K bu "DeedFault" = aa (aa (.ref y3)))
  (y6c:CM K "Hall" yn)
  (yq:nj K yn)
  (y4u:CM K "Piece" yj)
  (y3t:nj K yj)
  (y52:CM K "Place" Dh)
  (y3y:nj K Dh)
  (y78:CM K "Run" ya)
  (yx:nj K ya)
  (y07:FN K "_law_cell_at" Nc ["script", "k"] y4x y4o)
  (y1h:FN K "_law_name" Nd ["k"] y6g y71)
  (y1o:FN K "_law_some" Nf ["cell", "many"] y6r y6h)
  (y1j:FN K "_law_deed" Ng ["cell"] y6o y74)
  (y0r:FN K "_law_pieces" Ni ["script", "start", "many"] y5c y5i)
  (y24:FN K "_law_set" Nj ["script"] y79 y7b)
  (y0p:FN K "_law_at_hub" Nl ["pieces"] y5f y5m)
  (y1l:FN K "_law_free" Nm ["name", "left", "pairs"] y6z y6j)
  (y15:FN K "_law_order" Nn ["names", "pairs"] y65 y6d)
  (y7:FN K "_law_pairs" Np ["pieces", "names"] y25 y28)
  (y00:FN K "_law_rows_now" Nr ["pieces"] y4a y48)
  (yt:FM K yn "__init__" "Hall.__init__" Nt .none ["self"] y3s y3i)
  (yl:FM K Dh "__init__" "Place.__init__" Nu .none ["self", "kind", "rule"] y3f y32)
  (yf:FM K yn "open_place" "Hall.open_place" Nv .none ["self", "name", "kind", "rule"] y2w y2p)
  (yg:FM K yn "find_place" "Hall.find_place" Nw .none ["self", "name"] y2u y2v)
  (ym:FM K yj "__init__" "Piece.__init__" Nx .none ["self", "place", "deed", "by"] y33 y36)
  (y06:FM K yn "hang" "Hall.hang" Bs (.ref WC) ["self", "name", "place", "deed", "by"] y60 y61)
  (y27:K.lookup WC=aa ⟨y59,y4t,.seq #[.none] y5h,y57⟩)
  (yd:FM K yn "find_piece" "Hall.find_piece" Ny .none ["self", "name"] y2r y2x)
  (y2j:FN K "wished" Nz ["names"] y7l y7j)
  (y0b:FM K yn "wish" "Hall.wish" Bt (.ref WD) ["self", "name", "ahead", "behind", "needs", "bars"] y6a y67)
  (y29:K.lookup WD=aa ⟨y54,y4i,.seq #[.none,.none,.none,.none] y5g,y4v⟩)
  (y08:FM K yn "switch" "Hall.switch" NA .none ["self", "name", "on"] y4m y4p)
  (y1k:FN K "_law_hall" NB ["pieces", "kind", "rule"] y6l y6t)
  (y0q:FN K "seconds_of" NC ["hall", "names"] y5p y5s)
  (yu:FN K "earliest_free" ND ["seconds", "left"] y3k y3x)
  (yy:FN K "ring_through" NF ["seconds", "start"] y4c y4e)
  (ys:FN K "shortest_ring" NG ["seconds"] y3l y3m)
  (yc:FM K yh "__init__" "Ring.__init__" NH .none ["self", "ring"] WE y3w)
  (y0a:FN K "order_among" NI ["hall", "names"] y4l y4s)
  (yz:FM K ya "__init__" "Run.__init__" NJ .none ["self", "kind", "rule", "number", "deeds"] y46 y4b)
  (y0s:FN K "begin_over" NK ["hall", "place", "names", "number"] y5j y5l)
  (y23:FM K yn "at" "Hall.at" NN .none ["self", "place"] y7e y7h)
  (y09:FN K "begin" NO ["hall", "place", "number"] y4w y4q)
  (y16:FM K yn "drop" "Hall.drop" NP .none ["self", "name"] y5y y5x)
  (y0e:FN K "_law_changed" NQ ["hall", "pieces", "cell", "k"] y4r y53)
  (y1f:FM K ya "over" "Run.over" NR .none ["self"] y6p y6k)
  (y9:FM K ya "leave_the_rest" "Run.leave_the_rest" NT .none ["self"] y2b y2e)
  (y5:FM K y3 "__init__" "DeedFault.__init__" NU .none ["self", "piece", "code"] WG y2d)
  (y1e:FM K ya "fall" "Run.fall" NV .none ["self", "name", "code"] y6x y6n)
  (y4g:FN K "said" NW ["deed", "number"] y7r y7t)
  (yr:FM K ya "go_within" "Run.go_within" NX .none ["self", "deed"] y3z y42)
  (y1i:FM K ya "hear" "Run.hear" NY .none ["self", "number"] y72 y6f)
  (y05:FM K ya "perform" "Run.perform" NZ .none ["self", "name", "deed"] y4j y4n)
  (y1n:FM K ya "step" "Run.step" N0 .none ["self"] y6v y6m)
  (y0n:FM K ya "faults" "Run.faults" N1 .none ["self"] y5d y5q)
  (yw:FN K "brought_back" N2 ["number", "around"] y45 y4f)
  (y0t:FM K ya "answer" "Run.answer" N3 .none ["self"] y5n y5b)
  (y2k:FN K "finish" N4 ["run"] y7o y7n)
  (y4h:FN K "call" N5 ["hall", "place", "number"] y7s y7q)
  (yi:FN K "_law_round" IQ ["rows", "number", "held"] y62 y5v)
  (y1g:FN K "_law_said" N6 ["deed", "number"] y70 y6q)
  (y6:FN K "_law_answer" N7 ["kind", "rows", "number", "held"] y1t y1z)
  (y0d:FN K "_law_outcome" N8 ["kind", "rule", "rows", "number"] y4z y50)
  (y13:FN K "_law_whole" N_ ["found"] y5u y64)
  (y14:FN K "_law_value" Oa ["found", "due"] y63 y69)
  (ye:FN K "_law_pairs_alike" Ob ["found", "due"] y2q y2s)
  (yb:FN K "_law_answer_right" Od ["found", "due"] y2m y2l)
  (yp:FN K "_law_call_right" Oe ["hall", "kind", "pieces", "number"] y37 y3c)
  (yo:FN K "_law_ends_right" Of ["run", "kind", "rows", "number"] y3d y3g)
  (y0:FN K "law" CU ["script"] y1 y2)
  (y7f:W.nsIn K bu "any" = aa ae)
  (y5w:W.nsIn K bu "bool" = aa ae)
  (y0i:W.nsIn K bu "MOST_PIECES" = aa (aa (.int 24 y3u)))
  (y0j:W.nsIn K bu "MOST_PLACES" = aa (aa (.int 8 y3p)))
  (y0l:W.findIn K (.ref yn) "pieces" = aa ae)
  (y0k:W.findIn K (.ref yn) "places" = aa ae)
  (y0h:W.findIn K (.ref yj) "ahead" = aa ae)
  (y10:W.findIn K (.ref yj) "bars" = aa ae)
  (y0c:W.findIn K (.ref yj) "behind" = aa ae)
  (y1q:W.findIn K (.ref yj) "by" = aa ae)
  (y0v:W.findIn K (.ref yj) "deed" = aa ae)
  (y0m:W.findIn K (.ref yj) "needs" = aa ae)
  (y20:W.findIn K (.ref yj) "on" = aa ae)
  (y0g:W.findIn K (.ref yj) "place" = aa ae)
  (y0x:W.findIn K (.ref Dh) "kind" = aa ae)
  (y0y:W.findIn K (.ref Dh) "rule" = aa ae)
  (y0z:W.findIn K (.ref ya) "around" = aa ae)
  (y11:W.findIn K (.ref ya) "broken" = aa ae)
  (y1c:W.findIn K (.ref ya) "deeds" = aa ae)
  (y18:W.findIn K (.ref ya) "found" = aa ae)
  (y1v:W.findIn K (.ref ya) "held" = aa ae)
  (y1r:W.findIn K (.ref ya) "kind" = aa ae)
  (y0w:W.findIn K (.ref ya) "number" = aa ae)
  (y1b:W.findIn K (.ref ya) "pairs" = aa ae)
  (y1p:W.findIn K (.ref ya) "rule" = aa ae)
  (y7a:W.nsIn K bu "int" = aa ae)
  (y1u:W.nsIn K bu "isinstance" = aa ae)
  (y76:W.nsIn K bu "len" = aa ae)
  (y68:W.nsIn K bu "list" = aa ae)
  (y75:W.nsIn K bu "min" = aa ae)
  (y58:W.nsIn K bu "range" = aa ae)
  (y2f:W.nsIn K bu "reversed" = aa ae)
  (y55:W.nsIn K bu "tuple" = aa ae)
  (nd:[yh].Nodup)
  (y1y:rW K y4=aa lK)
  (y3e:rW K yh=aa (.ref y4::lK))
  (y26:yh≠y4)
  (bi1:W.specialIn K (.ref y4) "__getattribute__" = aa (aa (.builtin "type.__getattribute__")))
  (y7c:W.readsIn K y4 (.type "type")=true)
  (y7d:W.findCls K (.ref y4) (.type "type") "__init__" = aa (.val (.builtin "ValueError.__init__")))
  (y1d:W.findIn K (.ref y3) "__setattr__" = aa (aa (.builtin "object.__setattr__")))
  (y19:W.hasDictIn K y3=true)
  (y17:Hn K y3=true)
  (yv:W.findIn K (.ref y3) "piece" = aa ae)
  (y01:W.findIn K (.ref y3) "code" = aa ae)
  (y0u:px K y3 WG=true)
  (y3q:W.findIn K (.ref yh) "__setattr__" = aa (aa (.builtin "object.__setattr__")))
  (y3n:W.hasDictIn K yh=true)
  (y41:Hn K yh=true)
  (y1s:W.findIn K (.ref yh) "ring" = aa ae)
  (y2z:px K yh WE=true)
  (nl:Mj K=true)
  : ∃fd:bA,(∀(s:aq) (v:ag),rJ s fd ⟨[v],[]⟩ [("script",v)])/\∀base:bR,K.In base->base.Ns bu mg->bH l.prog w K mg base Ee 28 fa fd ["script"] (HZ K):=by
 let c:Cl:={ hall:=yn,place:=Dh,piece:=yj,run:=ya,hallError:=y4,nameThere:=0,noPlace:=0,noPiece:=0,tooMany:=0,noAnswer:=0,ring:=yh,barred:=0,deedFault:=y3 };have e0:=hfa.symm.trans (W.mg_of X G y0.a);cases e0;have T0:Tx K mg c:=⟨y1y,(List.forall_mem_cons.mpr ⟨(λ_=>y3e),λ_ h=>absurd h cO⟩),W.mg_none_of X G y7f,W.mg_none_of X G y5w,⟨_,W.mg_of X G y0i⟩,⟨_,W.mg_of X G y0j⟩,yq,y0l,y0k,y3t,y0h,y10,y0c,y1q,y0v,y0m,y20,y0g,y3y,y0x,y0y,yx,y0z,y11,y1c,y18,y1v,y1r,y0w,y1b,y1p,bi1,y7c,y7d,⟨y1d,y19,y17⟩,yv,y01,⟨y3q,y3n,y41⟩,y1s,W.mg_none_of X G y7a,W.mg_none_of X G y1u,W.mg_none_of X G y76,W.mg_none_of X G y68,W.mg_of X G y1w,W.mg_of X G y1x,W.mg_of X G y4y,W.mg_none_of X G y75,y26,y3e,W.mg_none_of X G y58,W.mg_none_of X G y2f,W.mg_none_of X G y55⟩;obtain⟨oc,od,kV,dc,pm,an,cd,ct,sl,rfl,lk,hc⟩:=y0.v.ex;refine⟨W.fnOf "law" "law" (qI CU) (ot CU) (d8 CU) .none kV dc pm an cd ct,λs v=>.of_eq rfl,λbase _ _=>?_⟩;have Pj:=y07.up X G (zph l.prog w base T0 y07.v );have WH:=y1h.up X G (zvt l.prog w base T0 y1h.v );have y6s:=y1o.up X G (zvu l.prog w base T0 y1o.v (u WH));have y6y:=y1j.up X G (zvv l.prog w base T0 y1j.v );have y5o:=y0r.up X G (zrl l.prog w base T0 y0r.v (u Pj) (u y6s) (u y6y) (u WH));have y77:=y24.up X G (zzc l.prog w base T0 y24.v (u y5o) (u Pj));have y5r:=y0p.up X G (zrm l.prog w base T0 y0p.v );have y6e:=y1l.up X G (zvw l.prog w base T0 y1l.v );have y5t:=y15.up X G (ztl l.prog w base T0 y15.v (u y6e));have y04:=y7.up X G (ztm l.prog w base T0 y7.v );have WI:=y00.up X G (zor l.prog w base T0 y00.v (u y5r) (u y5t) (u y04));have y3v:=yt.mk' y6c X G (zm8 l.prog w base T0 yt.v );have y30:=yl.mk' y52 X G (zmf l.prog w base T0 yl.v );have y2t:=yf.up yq (zll l.prog w base T0 yf.v (u y30));have Pk:=yg.up yq (zlm l.prog w base T0 yg.v );have y35:=ym.mk' y4u X G (zmg l.prog w base T0 ym.v );have WJ:=y06.up yq (ztn l.prog w base T0 y06.v (u Pk) (u y35));have WK:=zpn y06.v y27;have y8:=yd.up yq (zln l.prog w base T0 yd.v );have y7k:=y2j.up X G (z2g l.prog w base T0 y2j.v );have WL:=y0b.up yq (zto l.prog w base T0 y0b.v (u y8) (u y7k));have y56:=zpo y0b.v y29;have WM:=y08.up yq (zpi l.prog w base T0 y08.v (u y8));have y73:=y1k.up X G (zvx l.prog w base T0 y1k.v (u y3v) (u y2t) (u WJ) WK (u WL) (u WM));have y5e:=y0q.up X G (zrn l.prog w base T0 y0q.v (u y8));have y3o:=yu.up X G (zm9 l.prog w base T0 yu.v );have y49:=yy.up X G (zos l.prog w base T0 yy.v );have y3j:=ys.up X G (zna l.prog w base T0 ys.v (u y49));have y40:=znb l.prog w base T0 yc.v y2z;have y5a:=y0a.up X G (zpj l.prog w base T0 y0a.v (u y5e) (u y3o) (u y3j) ⟨y40.mono (by decide),y2z,yc.i,yc.b⟩);have y47:=yz.mk' y78 X G (zot l.prog w base T0 yz.v );have y5k:=y0s.up X G (zro l.prog w base T0 y0s.v (u Pk) (u y5a) (u y8) (u y47));have y7g:=y23.up yq (zzd l.prog w base T0 y23.v (u Pk));have WN:=y09.up X G (z47 l.prog w base T0 y09.v (u y5k) (u y7g));have y66:=y16.up yq (ztp l.prog w base T0 y16.v (u y8));have y4k:=y0e.up X G (zpk l.prog w base T0 y0e.v (u WJ) WK (u y66) (u WL) y56 (u WM));have Jw:=y1f.up yx (zvy l.prog w base T0 y1f.v );have yk:=y9.up yx (zj1 l.prog w base T0 y9.v );have y2c:=zj2 l.prog w base T0 y5.v y0u;have y6i:=y1e.up yx (zvz l.prog w base T0 y1e.v (u yk) ⟨y2c.mono (by decide),y0u,y5.i,y5.b⟩);have WO:=y4g.up X G (z82 l.prog w base T0 y4g.v );have y3r:=yr.up yx (znc l.prog w base T0 yr.v (u WO) (u yk));have y6w:=y1i.up yx (zv0 l.prog w base T0 y1i.v (u yk));have y51:=y05.up yx (zpl l.prog w base T0 y05.v (u y6i) (u WO) (u y3r) (u y6w));have WQ:=y1n.up yx (zv1 l.prog w base T0 y1n.v (u Jw) (u y51));have WR:=y0n.up yx (zrp l.prog w base T0 y0n.v );have y4d:=yw.up X G (zou l.prog w base T0 yw.v );have WS:=y0t.up yx (zrq l.prog w base T0 y0t.v (u Jw) (u y4d));have y7m:=y2k.up X G (z2h l.prog w base T0 y2k.v (u Jw) (u WQ) (u WR) (u WS));have y7p:=y4h.up X G (z83 l.prog w base T0 y4h.v (u y7m) (u WN));have y5z:=yi.up X G (ztr l.prog w base T0 yi.v (W.mg_of X G yi.a) yi.v.kp yi.b 24);have y6u:=y1g.up X G (zv2 l.prog w base T0 y1g.v );have y0o:=y6.up X G (zrr l.prog w base T0 y6.v (u y5z) (u y6u));have WT:=y0d.up X G (zpm l.prog w base T0 y0d.v (u y0o));have y6b:=y13.up X G (zts l.prog w base T0 y13.v );have WU:=y14.up X G (ztt l.prog w base T0 y14.v (u y6b));have Pm:=ye.up X G (zlo l.prog w base T0 ye.v (u WU));have WV:=yb.up X G (zk6 l.prog w base T0 yb.v (u Pm) (u WU));have y3a:=yp.up X G (zmh l.prog w base T0 yp.v (u WI) (u y7p) (u WT) (u Pm) (u WV));have y2y:=yo.up X G (zmi l.prog w base T0 yo.v (u WT) (u Pm) (u WR) (u WV) (u WS));have F_:=Zco l.prog w base T0 y0.v (u y77) (u Pj) (u WI) (u y73) (u WN) (u y4k) (u WQ) (u y3a) (u y2y) (u Jw);exact Zcb F_ nl λns hl=>Ph (c:=c) ns
end K07
open PySem PySem.W PyProof.Rows MF L2
local macro_rules | `(tactic| walk_at "k") => `(tactic| first | kernel_rfl! | k_is)
local macro_rules | `(tactic| walk_at "b") => `(tactic| (intro _ _ _ _ _ _ us hl; first | (obtain ⟨a0, e⟩ := qW hl; subst e; rfl) | (obtain ⟨a0, a1, e⟩ := vK hl; subst e; rfl) | (obtain ⟨a0, a1, a2, e⟩ := EY hl; subst e; rfl) | (obtain ⟨a0, a1, a2, a3, e⟩ := EZ hl; subst e; rfl) | (obtain ⟨a0, a1, a2, a3, a4, e⟩ := E1 hl; subst e; rfl)))
local macro_rules | `(tactic| walk_at "N") => `(tactic| exact Ze5 (by walk_at "k") (by walk_at "k") (by walk_at "k") (by walk_at "k") (by walk_at "b"))
local macro_rules | `(tactic| walk_at "M") => `(tactic| exact Ze6 (by walk_at "k") (by walk_at "k") (by walk_at "k") (by walk_at "k") (by walk_at "k") (by walk_at "b"))
theorem PySem.Challenge.cw_hookhall_k07_whole_run_and_changes_holds : PySem.Challenge.rw_hookhall_k07_whole_run_and_changes.Holds := by
 w_on;o_law;k_head;(case hw=>w_witness2)
 k_fill
 refine MF.ET (l:=B9) (k:=28) ⟨rfl,by decide,by decide,rfl⟩ rfl rfl (λw h Y=>W.kIn_of Y) ?F
 case F=>
  intro w mg fa h KX G xg
  refine' K07.all_mk KX G xg ?y1x ?y4y ?y1w ?y6c ?yq ?y4u ?y3t ?y52 ?y3y ?y78 ?yx ?y07 ?y1h ?y1o ?y1j ?y0r ?y24 ?y0p ?y1l ?y15 ?y7 ?y00 ?yt ?yl ?yf ?yg ?ym ?y06 ?y27 ?yd ?y2j ?y0b ?y29 ?y08 ?y1k ?y0q ?yu ?yy ?ys ?yc ?y0a ?yz ?y0s ?y23 ?y09 ?y16 ?y0e ?y1f ?y9 ?y5 ?y1e ?y4g ?yr ?y1i ?y05 ?y1n ?y0n ?yw ?y0t ?y2k ?y4h ?yi ?y1g ?y6 ?y0d ?y13 ?y14 ?ye ?yb ?yp ?yo ?y0 ?y7f ?y5w ?y0i ?y0j ?y0l ?y0k ?y0h ?y10 ?y0c ?y1q ?y0v ?y0m ?y20 ?y0g ?y0x ?y0y ?y0z ?y11 ?y1c ?y18 ?y1v ?y1r ?y0w ?y1b ?y1p ?y7a ?y1u ?y76 ?y68 ?y75 ?y58 ?y2f ?y55 ?nd ?y1y ?y3e ?y26 ?bi1 ?y7c ?y7d ?y1d ?y19 ?y17 ?yv ?y01 ?y0u ?y3q ?y3n ?y41 ?y1s ?y2z ?nl
  (case y1x | y4y | y1w=>k_is)
  (case y6c=>exact⟨by walk_at "k",by walk_at "k",by walk_at "k"⟩)
  (case yq=>exact⟨by walk_at "k",by walk_at "k",by walk_at "k",by walk_at "k"⟩)
  (case y4u=>exact⟨by walk_at "k",by walk_at "k",by walk_at "k"⟩)
  (case y3t=>exact⟨by walk_at "k",by walk_at "k",by walk_at "k",by walk_at "k"⟩)
  (case y52=>exact⟨by walk_at "k",by walk_at "k",by walk_at "k"⟩)
  (case y3y=>exact⟨by walk_at "k",by walk_at "k",by walk_at "k",by walk_at "k"⟩)
  (case y78=>exact⟨by walk_at "k",by walk_at "k",by walk_at "k"⟩)
  (case yx=>exact⟨by walk_at "k",by walk_at "k",by walk_at "k",by walk_at "k"⟩)
  (case y07 | y1h | y1o | y1j | y0r | y24 | y0p | y1l | y15 | y7 | y00=>walk_at "N")
  (case yt | yl | yf | yg | ym=>walk_at "M")
  (case y06=>exact WB (by walk_at "k") (by walk_at "k") (by walk_at "k") (by walk_at "k") (by walk_at "k") (K07.og (by walk_at "k")))
  (case y27=>k_is)
  (case yd=>walk_at "M")
  (case y2j=>walk_at "N")
  (case y0b=>exact WB (by walk_at "k") (by walk_at "k") (by walk_at "k") (by walk_at "k") (by walk_at "k") (K07.oh (by walk_at "k")))
  (case y29=>k_is)
  (case y08=>walk_at "M")
  (case y1k | y0q | yu | yy | ys=>walk_at "N")
  (case yc=>walk_at "M")
  (case y0a=>walk_at "N")
  (case yz=>walk_at "M")
  (case y0s=>walk_at "N")
  (case y23=>walk_at "M")
  (case y09=>walk_at "N")
  (case y16=>walk_at "M")
  (case y0e=>walk_at "N")
  (case y1f | y9 | y5 | y1e=>walk_at "M")
  (case y4g=>walk_at "N")
  (case yr | y1i | y05 | y1n | y0n=>walk_at "M")
  (case yw=>walk_at "N")
  (case y0t=>walk_at "M")
  (case y2k | y4h | yi | y1g | y6 | y0d | y13 | y14 | ye | yb | yp | yo | y0=>walk_at "N")
  (case y7f | y5w | y0i | y0j | y0l | y0k | y0h | y10 | y0c | y1q | y0v | y0m | y20 | y0g | y0x | y0y | y0z | y11 | y1c | y18 | y1v | y1r | y0w | y1b | y1p | y7a | y1u | y76 | y68 | y75 | y58 | y2f | y55=>k_is)
  (case nd=>decide)
  (case y1y | y3e=>walk_at "k")
  (case y26=>decide)
  (case bi1=>k_is)
  (case y7c | y7d=>walk_at "k")
  (case y1d=>k_is)
  (case y19 | y17=>walk_at "k")
  (case yv | y01=>k_is)
  (case y0u=>walk_at "k")
  (case y3q=>k_is)
  (case y3n | y41=>walk_at "k")
  (case y1s=>k_is)
  (case y2z | nl=>walk_at "k")
end
