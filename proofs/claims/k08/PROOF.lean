import PyProof.Rows.All
import Wide.All
import OpenK.AllK
import Wide.FinOn
import PyProof.EqAt
import PyProof.EqKinds
import PyProof.TupleCall
import PyProof.StrLawsRepr
import Lean
import PyProof.P3Eq
import PyProof.P3In
import PyProof.NeData
import KE.KRevIter
import PyProof.StrWalks
import PyProof.StrBlockH
import PyProof.Conv_int_bool
import PyProof.SetKind
import PyProof.Rows.SetFrom
import PyProof.Rows.SortStr
import PyProof.WalksS
import PyProof.Seq
import PyProof.Walks
import PyProof.FactsAll.set
import PyProof.ForAny
import PyProof.FactsSeq
import PyProof.CollectWalk
import PyProof.SetRoads
import PySem.Challenge.RW_hookhall_k08_pieces_that_matter
theorem PySem.W.Fast.tw7307247436361916667 : True := trivial
theorem PySem.W.Fast.tw14195414103172723862 : True := trivial
theorem PySem.W.Fast.tw11519757295646507202 : True := trivial
theorem PySem.W.Fast.tw17470530578996679582 : True := trivial
theorem PySem.W.Fast.tw17140715829577786476 : True := trivial
theorem PySem.W.Fast.tw10275325065760130057 : True := trivial
theorem PySem.W.Fast.tw9869662630469175891 : True := trivial
theorem PySem.W.Fast.tw9970197752791287459 : True := trivial
theorem PySem.W.Fast.tw14368027902297560242 : True := trivial
theorem PySem.W.Fast.tw18186443688898320113 : True := trivial
theorem PySem.W.Fast.tw10540480993089020861 : True := trivial
theorem PySem.W.Fast.tw10530965045171083759 : True := trivial
theorem PySem.W.Fast.tw5547205493056612910 : True := trivial
theorem PySem.W.Fast.tw5015006604245645308 : True := trivial
theorem PySem.W.Fast.tw17427770764451993881 : True := trivial
theorem PySem.W.Fast.tw1441398078268834914 : True := trivial
theorem PySem.W.Fast.tw18027869404792938811 : True := trivial
theorem PySem.W.Fast.tw17441275779384484995 : True := trivial
theorem PySem.W.Fast.tw8742363595633072646 : True := trivial
theorem PySem.W.Fast.tw12406216081426504160 : True := trivial
theorem PySem.W.Fast.tw7869592450081067810 : True := trivial
theorem PySem.W.Fast.tw13374919083829810619 : True := trivial
theorem PySem.W.Fast.tw40891371934057955 : True := trivial
theorem PySem.W.Fast.tw16577187875871149601 : True := trivial
theorem PySem.W.Fast.tw18330855758648103624 : True := trivial
theorem PySem.W.Fast.tw15596781624175275116 : True := trivial
theorem PySem.W.Fast.tw4275623148054424082 : True := trivial
theorem PySem.W.Fast.tw689444013113056389 : True := trivial
theorem PySem.W.Fast.tw12962259599901943959 : True := trivial
theorem PySem.W.Fast.tw4624922859220869112 : True := trivial
theorem PySem.W.Fast.tw8863813971880862404 : True := trivial
theorem PySem.W.Fast.tw15605398860448735569 : True := trivial
theorem PySem.W.Fast.tw10149597629385766778 : True := trivial
theorem PySem.W.Fast.tw1163104756764348519 : True := trivial
theorem PySem.W.Fast.tw1772097186519478659 : True := trivial
theorem PySem.W.Fast.tw18038751051143735544 : True := trivial
theorem PySem.W.Fast.tw7260477926229522249 : True := trivial
theorem PySem.W.Fast.tw8610997671812859831 : True := trivial
noncomputable section
set_option compiler.extract_closed false
open Array renaming append_assoc->ui,find?_toList->uj,getElem?_eq_getElem->o_,getElem?_toList->kb,length_toList->iA,mem_of_find?_eq_some->oV
open Bool renaming and_eq_true->cv,and_false->zP,eq_iff_iff->ej,false_ne_true->aU,false_or->qt,not_eq_true'->wj,or_false->l_,or_true->C7
open Char renaming toNat->pf
open Eq renaming symm->yV
open False renaming elim->dB
open Int renaming emod_lt_of_pos->dZ,emod_nonneg->fD,toNat_natCast->wR,zero_add->F_
open List renaming all_cons->qv,all_eq_true->nF,any_cons->fC,any_eq_true->f',append_assoc->bJ,append_nil->dj,cons_append->eW,contains_cons->dC,drop_eq_getElem_cons->p_,drop_length->nG,drop_zero->pe,eq_nil_of_length_eq_zero->il,eraseIdxIfInBounds_toArray->nh,exists_mem_of_ne_nil->qc,ext_getElem?->ji,filterMap_cons->lC,filter_congr->wt,filter_eq_nil_iff->rz,filter_eq_self->lG,filter_map->cI,filter_sublist->uq,find?_cons->bU,find?_eq_none->dY,find?_some->oE,findIdx?_cons->uS,findSome?_cons->lI,foldl_cons->iC,forall_mem_cons->tq,getD->wW,getElem?_append_left->aG,getElem?_append_right->c8,getElem?_cons_succ->cV,getElem?_cons_zero->bT,getElem?_eq_getElem->bf,getElem?_eq_none->hV,getElem?_eq_none_iff->p8,getElem?_eq_some_iff->aB,getElem?_map->c9,getElem?_replicate->qS,getElem?_set->mU,getElem?_set_ne->cm,getElem?_set_self->c6,getElem?_take_of_lt->gu,getElem_of_mem->lF,length->fV,length_append->aO,length_cons->aY,length_erase_of_mem->eM,length_filter_le->d7,length_map->aT,length_nil->oC,length_replicate->fF,length_reverse->uo,length_set->gA,length_singleton->ba,length_take->jD,length_take_le'->tj,lookup->bL,lookup_cons->aI,mapM_cons->zR,map_append->bo,map_congr_left->dg,map_cons->aC,map_eq_append_iff->dU,map_eq_cons_iff->eG,map_id'->De,map_id->k7,map_map->bO,map_nil->f_,map_take->BK,mem_append->cH,mem_append_left->ck,mem_append_right->bB,mem_cons->aF,mem_cons_of_mem->au,mem_cons_self->aA,mem_filter->aN,mem_filterMap->i5,mem_map->aq,mem_of_find?_eq_some->cN,mem_of_getElem?->kX,mem_of_mem_erase->ku,mem_range->gQ,mem_singleton->aH,nil_append->bF,nodup_append->dO,nodup_cons->dm,not_mem_nil->cx,of_mem_zip->oB,pairwise_map->wq,range->cn,replicate->aS,set_append_left->ti,set_append_right->kq,set_cons_succ->uR,set_cons_zero->mn,set_set->mT,size_toArray->aL,sum_cons->BJ,take_length->hZ,take_sublist->wb
open List.Pairwise renaming imp->Ga,nil->F9
open List.Sublist renaming map->qy
open List.cons renaming injEq->mF
open Nat renaming add_assoc->Dc,add_comm->Gb,le_of_eq->gV,le_of_lt->m_,le_refl->az,le_succ->jk,le_trans->bz,lt_irrefl->cZ,lt_of_le_of_lt->we,lt_of_lt_of_le->ax,lt_succ_of_lt->jl,lt_succ_self->dE,lt_trans->F6,min_le_left->zQ,ne_of_gt->ka,ne_of_lt->aQ,not_lt_zero->zS,sub_self->ki,zero_le->dJ
open Ne renaming symm->bP
open Option renaming bind_eq_some_iff->jn,bind_some->jm,getD_none->uO,isSome_iff_exists->o9,isSome_map->mj,map_eq_none_iff->qx,map_eq_some_iff->bg,none->ae,some->aa,some->d9
open Option.some renaming inj->bj,injEq->qw
open Or renaming inl->eF,inr->cM
open Prod.mk renaming injEq->oW
open PyProof.Rows renaming AllBare->jP,IntsAre->wd,Subscript_->BF,UnaryOp_->Js,boot_any->Ju,boot_list->Jv,callWith_builtin1->kY,callWith_type1->gY,envOfC->iH,formatField_str->Jp,letGo_keyiter->Jo,not_of->Jt,subscriptTail->uk,subscriptTail_builtinR->wc
open PySem renaming Addr->ai,Around->bW,BindsTo->rj,CmpOp->uL,DictEntry->mS,ExceptHandler->gM,Expr->bt,FuncData->bA,Heap->bN,KeyKind->zN,Keyword->gS,Model->uK,NameKind->yM,PassesOwn->mR,PlainAttrs->sA,Program->aR,PyData->gq,Result->BC,Scope->iz,Shared->aj,Stmt->bR,Value->af,Within->jK,World->bu,assign->lu,assignEach->n9,atKey->sx,attributeBase->b_,backTo->bK,backToKw->eT,behindInMarks->cU,binaryOp->jx,bindArgs->yL,bindC->uN,bindL->uM,bootBuiltins->dz,boot_len->yT,builtinsNs->Bz,cLine->fT,call->um,callWith->iU,call_meets->n_,callerA->oU,cellsFrom->F5,codeAny_call_builtin->mE,codeAny_compStart_list->wm,codeAny_handlers_test->wU,codeAny_mono->jg,compEnvC->mD,compPost->yQ,compareOp->cX,entryPlaceOf->wg,evalArgs_none->s_,exec_Assign_Name_used->wV,findBy->v8,foldedSetIterable->cG,frameOf->pY,getAttr->v9,getItem->ro,getMethod->gz,handleBy->yO,holding->jR,isInstance->BH,keywordEach->cT,leaving->wa,letOwnedTupleGo->lD,mainGlobals->bp,mem_of_lookup->c7,model->aJ,newList->C8,noteFrame->pZ,nsFind->sr,pastItsLine_dict->pS,plainObj_wpAny_Assign_Attribute->o8,pyHashByItsType->Jq,pyIter->BB,refuseLoop->BG,relabel->ly,reprText->cY,seqIndex?->F7,seqIndex_of->yN,setAttr->C0,setFlight->pX,sizeLine_eq->dQ,sliceBounds->iV,slot_list_getitem->C4,standAt->jQ,starEach->av,subscripted->qu,swapsWith->fu,sysModules->eY,tupleKind->pP,tupleKind_room_in1->jy,typeLookup->BE,unbindBehindTheSuite->yS,valueAt->oT,wpAny_Call_Name_kw->fK,wpAny_Call_method0_late->uP,wpAny_FormattedValue_repr->tf,wpAny_Name->BA,wpAny_assign_Name->oS,wpAny_bind->ay,wpAny_call->lx,wpAny_comprehension_free->gO,wpAny_execs_cons->FT,wpAny_execs_nil->i',wpAny_handleBy_cons->zO,wpAny_holding->ke,wpAny_isSubtype_exc->jb,wpAny_isTrue_Compare1->wQ,wpAny_loadPart->mC,wpAny_loadPart_at->eU,wpAny_lookBehind->pR,wpAny_mono->bG,wpAny_newFunctionEnv->yP,wpAny_newObj_type->C9,wpAny_nsSet1->v_,wpAny_passesOwn->fS,wpAny_point->yR,wpAny_pure->bc,wpAny_pyIter_list->CZ,wpAny_pyIter_revIter->yU,wpAny_specialOf->qT,wpAny_standAt->kd,wpAny_truthy_bool->ij
open PySem.Around renaming under->mi
open PySem.Builtin.List renaming listTooLong->iB
open PySem.Builtin.Range renaming rangeSize->FU
open PySem.Calls renaming Name_function_global->oR,callWith_builtin->jL,call_len_list->sZ,evalArgs_plain->sC
open PySem.Challenge renaming pw_hookhall_k08_pieces_that_matter->BI,rw_hookhall_k08_pieces_that_matter->BL
open PySem.CmpOp renaming NotIn->CY
open PySem.Code renaming frames->F4,isFrame->rh,isGuard->C1,quiet_builtin->uQ
open PySem.Data renaming fields->sY
open PySem.DictEntry renaming refKey->su
open PySem.EntryCells renaming newEntry->p7
open PySem.EqMixed renaming eq_bool_str->FW,eq_int_str->FX,eq_str_bool->FY,eq_str_int->FZ,ne_bool_str->F0,ne_int_str->F1,ne_str_bool->F2,ne_str_int->F3
open PySem.EqNone renaming eq_bool_none->Jd,eq_int_none->Je,eq_none_bool->Ja,eq_none_int->Jb,eq_none_none->I_,eq_none_str->Jc,eq_str_none->Jf,ne_bool_none->Jk,ne_int_none->Jl,ne_none_bool->Jh,ne_none_int->Ji,ne_none_none->Jg,ne_none_str->Jj,ne_str_none->Jm
open PySem.F renaming excBase_ValueError->iI,plainAttrs_list->eO,slot_NoneType_hash->fL,slot_dict_items->pb
open PySem.Heap renaming FlyingW->iO,SameBut->fZ,UpToSlots->kZ,get?_push_of_some->aw,get?_push_size->aZ,get?_update_ne->lE,get?_update_other->rq,get?_update_self->hU,lt_size->aE,size_push->gR
open PySem.Heap.IsSliceOf renaming new->C3
open PySem.Heap.Ns1 renaming of_empty->sv
open PySem.Heap.SameBut renaming update->Jr
open PySem.MeetsSeq renaming EqGives->C_
open PySem.Obj renaming mapFields->C6
open PySem.Paired renaming length->lr,snoc->BD
open PySem.PassesOwn renaming leaving->a_
open PySem.PyData renaming canLay0->bM,canLayAll0->be,depth->cR,depthAll->bw,eqv->bX,eqvAll->eI,hasDict->wX,hasDictAll->mm,showable->wo,showableAll->lH,shown->fW,shownAll->ip,str->cy,strOk->d_
open PySem.SeqAt renaming EqAt->F8
open PySem.SeqAt.EqAt renaming int_none->pV,int_str->qq,none_int->pT,none_str->pU,same->sy,str_int->qr,str_none->pW
open PySem.Str renaming empty->eZ,length_append->bS,ofString->ao,ofString_eq_toList->sD
open PySem.Txt renaming join->p9
open PySem.Value renaming bool->dW,builtin->jh,bytes->CW,float->so,int->m8,isInt->CV,isStrOf->zM,none->jJ,ref->aP,str->m9,type->l9
open PySem.W renaming Frag->aM,codeIn->og,findIn->eQ,fnOf->e_,isFn->gE,keepIn->iJ,kitOne->oa,mg_of->wY,nsIn->qd
open PySem.W.WData renaming int->Jn
open PySem.W.WShape renaming has->C5
open PySem.Within renaming cons->pQ
open Sum renaming inl->m7,inr->dH
open True renaming intro->dX
set_option maxHeartbeats 0
set_option Elab.async false
set_option linter.all false
set_option maxRecDepth 100000
namespace L2
open PySem PySem.Spec PyProof.Rows
abbrev bZ:=Sum Int Str
noncomputable def yW:bZ->af->Bool
 |.inl k,v=>CV k v
 |.inr x,v=>zM x v
noncomputable def Df(w:bu):bZ->Int
 |.inl k=>hashInt k
 |.inr x=>hashStr w x
theorem tw:∀{k:bZ} {v:af},yW k v=true->(∃i t,k=m7 i/\v=m8 i t)\/(∃x t,k=dH x/\v=m9 x t)
 | .inl i,v,h=>by
   obtain⟨t,e⟩:=Value.isInt_shape (k:=i) (v:=v) h;exact .inl ⟨i,t,rfl,e⟩
 | .inr x,v,h=>by
   obtain⟨t,e⟩:=Value.isStrOf_shape (x:=x) (v:=v) h;exact .inr ⟨x,t,rfl,e⟩
theorem Wh(i:Int)(t:Tok):yW (.inl i) (.int i t)=true:=by simp[yW,CV]
theorem Wi(x:Str)(t:Tok):yW (.inr x) (.str x t)=true:=by simp[yW,zM]
theorem Wj(a b:Int):decide ((m7 a:bZ)=m7 b)=(a==b):=by
 by_cases e:a=b
 .subst e;simp
 .have h:¬(m7 a:bZ)=m7 b:=λq=>e (Sum.inl.inj q)
  rw[decide_eq_false h];exact(beq_eq_false_iff_ne.mpr e).symm
theorem Wk(a b:Str):decide ((dH a:bZ)=dH b)=decide (a=b):=by
 by_cases e:a=b
 .subst e;simp
 .have h:¬(dH a:bZ)=dH b:=λq=>e (Sum.inr.inj q)
  rw[decide_eq_false h,decide_eq_false e]
theorem Wl(a:Int)(b:Str):decide ((m7 a:bZ)=dH b)=false:=decide_eq_false (λq=>nomatch q)
theorem Wm(a:Str)(b:Int):decide ((dH a:bZ)=m7 b)=false:=decide_eq_false (λq=>nomatch q)
noncomputable def kJ(prog:aR)(w:bu):zN prog w bZ where
 is:=yW
 hash:=Df w
 inj:=λv a b ha hb=>by
  rcases tw ha with⟨i,t,rfl,rfl⟩ | ⟨x,t,rfl,rfl⟩
  .rcases tw hb with⟨j,u,rfl,e⟩ | ⟨y,u,rfl,e⟩
   .injection e with e1 _;rw[e1]
   .exact nomatch e
  .rcases tw hb with⟨j,u,rfl,e⟩ | ⟨y,u,rfl,e⟩
   .exact nomatch e
   .injection e with e1 _;rw[e1]
 byValue:=λk v h=>by
  rcases tw h with⟨i,t,rfl,rfl⟩ | ⟨x,t,rfl,rfl⟩<;>rfl
 pyHash:=λhv h=>by
  rcases tw hv with⟨i,t,rfl,rfl⟩ | ⟨x,t,rfl,rfl⟩
  .exact wpAny_pyHash_int h
  .exact wpAny_pyHash_str h
 eqBool:=λhu hv h=>by
  rcases tw hu with⟨i,t,rfl,rfl⟩ | ⟨x,t,rfl,rfl⟩
  .rcases tw hv with⟨j,u,rfl,rfl⟩ | ⟨y,u,rfl,rfl⟩
   .rw[Wj] at h;exact wpAny_eqBool_int h
   .rw[Wl] at h;exact qq i t y u _ _ _ _ h
  .rcases tw hv with⟨j,u,rfl,rfl⟩ | ⟨y,u,rfl,rfl⟩
   .rw[Wm] at h;exact qr x t j u _ _ _ _ h
   .rw[Wk] at h;exact wpAny_eqBool_str h
 «strs»:=λk x t v h=>by
  rcases tw h with⟨i,u,rfl,e⟩ | ⟨y,u,rfl,e⟩
  .exact nomatch e
  .injection e with e1 _
   subst e1;cases v<;>rfl
theorem Wn(prog:aR)(w:bu)(i:Int)(t:Tok):(kJ prog w).is (.inl i) (.int i t)=true:=Wh i t
theorem Wo(prog:aR)(w:bu)(x:Str)(t:Tok):(kJ prog w).is (.inr x) (.str x t)=true:=Wi x t
inductive V where
 |bH | bl (b:Bool) | int (i:Int) | str (x:Str) | byt (b:Array UInt8) | zT (b:UInt64) | ref (a:ai) | ty (n:String)
 deriving DecidableEq
def RelV:V->af->Prop
 |.bH,u=>u=jJ
 |.bl b,u=>u=dW b
 |.int i,u=>∃t,u=m8 i t
 |.str x,u=>∃t,u=m9 x t
 |.byt b,u=>∃t,u=CW b t
 |.zT b,u=>∃t,u=so b t
 |.ref a,u=>u=aP a
 |.ty n,u=>u=l9 n
abbrev cf:List V->List af->Prop:=Paired RelV
theorem cf.length{xs:List V}{us:List af}(r:cf xs us):xs.length=us.length:=lr r
theorem cf.get:∀{xs:List V} {us:List af} {i:Nat} {x:V},cf xs us->xs[i]?=aa x->∃u,us[i]?=aa u/\RelV x u
 |_,_,_,_,.nil,e=>by simp at e
 |_,_,0,_,.cons r _,e=>by simp at e;subst e;exact⟨_,rfl,r⟩
 | _,_,i+1,x,.cons _ t,e=>by
   obtain⟨u,h1,h2⟩:=cf.get (i:=i) (x:=x) t (by simpa using e);exact⟨u,by simpa using h1,h2⟩
theorem cf.set{x:V}{u:af}(r:RelV x u):∀{xs:List V} {us:List af} (i:Nat),cf xs us->cf (xs.set i x) (us.set i u)
 |_,_,_,.nil=>.nil
 |_,_,0,.cons _ t=>.cons r t
 |_,_,i+1,.cons q t=>.cons q (cf.set r i t)
theorem cf.append:∀{xs ys:List V} {us ws:List af},cf xs us->cf ys ws->cf (xs++ys) (us++ws)
 |_,_,_,_,.nil,s=>s
 |_,_,_,_,.cons r t,s=>.cons r (cf.append t s)
theorem cf.take:∀{xs:List V} {us:List af} (n:Nat),cf xs us->cf (xs.take n) (us.take n)
 |_,_,0,_=>.nil
 |_,_,_+1,.nil=>.nil
 |_,_,n+1,.cons r t=>.cons r (cf.take n t)
theorem cf.drop:∀{xs:List V} {us:List af} (n:Nat),cf xs us->cf (xs.drop n) (us.drop n)
 |_,_,0,r=>r
 |_,_,_+1,.nil=>.nil
 |_,_,n+1,.cons _ t=>cf.drop n t
def jc:Option V->Option af->Prop
 |some v,aa u=>RelV v u
 |none,ae=>True
 |_,_=>False
def KV{κ:Type}:List (κ×V)->List (κ×af)->Prop:=Paired λ(p:κ×V) (q:κ×af)=>p.1=q.1/\RelV p.2 q.2
noncomputable def kV:bZ->V
 |.inl i=>.int i
 |.inr x=>.str x
inductive HO where
 |lst (xs:List V)
 |tup (xs:List V)
 |dK (kvs:List (bZ×V)) | dT (kvs:List (List bZ×V))
 |set (S:Int->Bool) (n:Nat)
 |ins (C dx:ai) (fs:List (Str×V))
 |own (x:ai)
 |xd (fs:List (Str×V))
 |met (f x:ai)
 |Gc (lo hi:Int)
 |eL (o:Obj) (u:HO)
 |uT (ps:Array af)
 |ext (φ:bN->Prop)
abbrev Hp:=ai->Option HO
noncomputable def upd(H:Hp)(a:ai)(o:HO):Hp:=λb=>if b=a then aa o else H b
theorem fX{H:Hp}{a:ai}{o:HO}:upd H a o a=aa o:=by unfold upd;rw[if_pos rfl]
theorem dh{H:Hp}{a b:ai}{o:HO}(h:b≠a):upd H a o b=H b:=by unfold upd;rw[if_neg h]
theorem Wp{H:Hp}{a:ai}{o u:HO}:upd (upd H a o) a u=upd H a u:=by
 funext b;unfold upd;split<;>rfl
theorem Wq{H:Hp}{a b:ai}{o u:HO}(h:H a=aa o)(h':H b=aa u)(d:o≠u):a≠b:=by
 intro e;subst e;rw[h] at h';exact d (bj h')
theorem sE{H:Hp}{a b:ai}{o:HO}(h:H a=aa o)(h':H b=ae):a≠b:=by
 intro e;subst e;rw[h] at h';cases h'
section
variable (P:aR)(w:bu)
def jS(H:Hp)(h:bN)(a:ai):HO->Prop
 |.lst xs=>xs.length<=sizeLine/\∃(cC:List af) (n:Nat),cf xs cC/\h.get? a=aa { cls:=.type "list",data:=.seq cC.toArray n }
 |.tup xs=>xs.length<=sizeLine/\∃cC:List af,cf xs cC/\IsTup h a cC.toArray
 |.dK kvs=>kvs.length<=sizeLine/\(a==eY)=false/\∃vs,KV kvs vs/\h.DictOf (kJ P w) a vs
 |.dT kvs=>kvs.length<=sizeLine/\(a==eY)=false/\∃xs:List (List bZ×ai×af),
  Paired (λ(p:List bZ×V) (q:List bZ×ai×af)=>p.1=q.1/\H q.2.1=aa (.tup (p.1.map kV))/\RelV p.2 q.2.2) kvs xs /\
  ∃o es ep,h.get? a=aa o/\o.ExactDict/\o.data=.dict es ep/\es.toList=xs.map (entryOfKey (pP (kJ P w)))/\(xs.map (·.1)).Nodup
 |.set S n=>h.SetOf (intKind P w) a S n
 |.ins C dx fs=>H dx=aa (.own a)/\fs.length<=1000/\dx≠a/\h.get? a=aa (W.instObj C dx) /\
  ∃mA,h.Ns1 dx mA/\(∀f,jc (fs.lookup f) (mA f))/\jK mA (fs.map (·.1))
 |.own _=>∃o,h.get? a=aa o
 |.xd fs=>∃mA,h.Ns1 a mA/\∀f,jc (fs.lookup f) (mA f)
 |.Gc lo hi=>∃t u v,h.get? a=aa { cls:=.type "range",data:=.fields #[.int lo t,.int hi u,.int 1 v] }
 |.eL o u=>h.get? a=aa o/\jS H h a u
 |.uT ps=>h.get? a=aa { cls:=.none,data:=.fields ps }
 |.met f x=>h.get? a=aa (W.methodObj (.ref f) (.ref x))
 |.ext φ=>φ h/\(∃o,h.get? a=aa o)/\∀h1 h2:bN,φ h1->(∀o,h1.get? a=aa o->h2.get? a=aa o)->φ h2
def iM(H:Hp)(h:bN):Prop:=∀a o,H a=aa o->jS P w H h a o
end
section
variable {P:aR}{w:bu}{H H':Hp}{h h':bN}{a:ai}{o:HO}
theorem jS.lt(x:jS P w H h a o):a<h.objs.size:=by
 cases o with
 |lst xs=>obtain⟨_,_,_,_,e⟩:=x;exact aE e
 |tup xs=>obtain⟨_,_,_,p⟩:=x;exact p.lt
 |dK kvs=>obtain⟨_,_,_,_,o,_,_,e,_⟩:=x;exact aE e
 |dT kvs=>obtain⟨_,_,_,_,o,_,_,e,_⟩:=x;exact aE e
 |set S n=>obtain⟨o,_,_,_,e,_⟩:=x;exact aE e
 |ins C dx fs=>obtain⟨_,_,_,e,_⟩:=x;exact aE e
 |own y=>obtain⟨_,e⟩:=x;exact aE e
 |xd fs=>obtain⟨_,⟨_,_,_,e,_⟩,_⟩:=x;exact aE e
 |Gc lo hi=>obtain⟨_,_,_,e⟩:=x;exact aE e
 |eL ob u=>obtain⟨e,_⟩:=x;exact aE e
 |uT ps=>exact aE (show h.get? a=aa _ from x)
 |met f y=>exact aE (show h.get? a=aa _ from x)
 |ext φ=>obtain⟨_,⟨_,e⟩,_⟩:=x;exact aE e
theorem Paired.zU{α β:Type}{F G:α->β->Prop}:∀{l₁:List α} {l₂:List β},Paired F l₁ l₂->(∀a b,F a b->G a b)->Paired G l₁ l₂
 |_,_,.nil,_=>.nil
 |_,_,.cons r t,f=>.cons (f _ _ r) (Paired.zU t f)
theorem jS.mo(x:jS P w H h a o)(k:∀b u,(b=a\/H b=aa (.own a))->h.get? b=aa u->h'.get? b=aa u)
  (ho:∀b,H b=aa (.own a)->H' b=aa (.own a)) (ht:∀b xs,H b=aa (.tup xs)->H' b=aa (.tup xs)):jS P w H' h' a o:=by
 induction o with
 |lst xs=>obtain⟨z,cC,n,r,e⟩:=x;exact⟨z,cC,n,r,k _ _ (.inl rfl) e⟩
 |tup xs=>obtain⟨z,cC,r,ob,e,c⟩:=x;exact⟨z,cC,r,ob,k _ _ (.inl rfl) e,c⟩
 |dK kvs=>obtain⟨z,y,vs,r,ob,es,ep,e,c⟩:=x;exact⟨z,y,vs,r,ob,es,ep,k _ _ (.inl rfl) e,c⟩
 | dT kvs=>
   obtain⟨z,y,xs,r,ob,es,ep,e,c⟩:=x;exact⟨z,y,xs,Paired.zU r λp q z=>⟨z.1,ht _ _ z.2.1,z.2.2⟩,ob,es,ep,k _ _ (.inl rfl) e,c⟩
 |set S n=>obtain⟨ob,es,ep,t,e,c⟩:=x;exact⟨ob,es,ep,t,k _ _ (.inl rfl) e,c⟩
 | ins C dx fs=>
   obtain⟨d,z,ne,e,mA,⟨od,es,ep,e2,c⟩,r⟩:=x;exact⟨ho _ d,z,ne,k _ _ (.inl rfl) e,mA,⟨od,es,ep,k _ _ (.inr d) e2,c⟩,r⟩
 |own y=>obtain⟨ob,e⟩:=x;exact⟨ob,k _ _ (.inl rfl) e⟩
 |xd fs=>obtain⟨mA,⟨od,es,ep,e,c⟩,r⟩:=x;exact⟨mA,⟨od,es,ep,k _ _ (.inl rfl) e,c⟩,r⟩
 |Gc lo hi=>obtain⟨t,u,v,e⟩:=x;exact⟨t,u,v,k _ _ (.inl rfl) e⟩
 |eL ob u ih=>obtain⟨e,q⟩:=x;exact⟨k _ _ (.inl rfl) e,ih q⟩
 | uT ps=>
   have e:h.get? a=aa { cls:=.none,data:=.fields ps }:=x;show h'.get? a=aa { cls:=.none,data:=.fields ps };exact k a _ (.inl rfl) e
 | met f y=>
   have e:h.get? a=aa (W.methodObj (.ref f) (.ref y)):=x;show h'.get? a=aa (W.methodObj (.ref f) (.ref y));exact k a _ (.inl rfl) e
 |ext φ=>obtain⟨p,⟨o,e⟩,st⟩:=x;exact⟨st _ _ p λo q=>k _ _ (.inl rfl) q,⟨o,k _ _ (.inl rfl) e⟩,st⟩
theorem iM.lt(x:iM P w H h)(e:H a=aa o):a<h.objs.size:=(x a o e).lt
theorem iM.fresh(x:iM P w H h)(e:h.objs.size<=a):H a=ae:=by
 cases q:H a with
 |none=>rfl
 |some u=>exact absurd (ax (x.lt q) e) (cZ _)
theorem iM.kept(x:iM P w H h)(k:∀b u,h.get? b=aa u->h'.get? b=aa u):iM P w H h':=λa o e=>
 (x a o e).mo (λb u _ q=>k b u q) (λ_ q=>q) λ_ _ q=>q
theorem iM.laid(x:iM P w H h)(k:∀b u,h.get? b=aa u->h'.get? b=aa u)(hp:h.objs.size<=a)(new:jS P w (upd H a o) h' a o):iM P w (upd H a o) h':=λb u e=>by
 have hn:=x.fresh hp;by_cases hb:b=a
 .subst hb;rw[fX] at e;cases e;exact new
 .rw[dh hb] at e
  exact(x b u e).mo (λc v _ q=>k c v q) (λc q=>by rw[dh (sE q hn)];exact q) λc xs q=>by rw[dh (sE q hn)];exact q
end
def Rd(H:Hp)(a:ai)(u:HO):Prop:=H a=aa u\/∃o,H a=aa (.eL o u)
theorem Rd.ok{P:aR}{w:bu}{H:Hp}{h:bN}{a:ai}{u:HO}(r:Rd H a u)(x:iM P w H h):jS P w H h a u:=by
 rcases r with r | ⟨o,r⟩
 .exact x a u r
 .obtain⟨_,q⟩:=x a _ r
  exact q
def Dg:Option HO->Prop
 |some (.lst _)=>True
 |some (.dK _)=>True
 |some (.dT _)=>True
 |some (.set _ _)=>True
 |some (.ins _ _ _)=>True
 |some (.ext _)=>True
 |_=>False
section
variable {P:aR}{w:bu}{H:Hp}{h h':bN}{x e:ai}{o':HO}
theorem iM.write(ok:iM P w H h)(mu:Dg (H x))(he:e=x\/H e=aa (.own x))(k:∀b u,b≠e->h.get? b=aa u->h'.get? b=aa u)(BM:∃u,h'.get? e=aa u)
  (new:jS P w (upd H x o') h' x o'):iM P w (upd H x o') h':=λb u q=>by
 have Dh:∀c y,H c=aa (.own y)->c≠x:=λc y r z=>by subst z;rw[r] at mu;exact mu
 have Jw:∀c xs,H c=aa (.tup xs)->c≠x:=λc xs r z=>by subst z;rw[r] at mu;exact mu
 by_cases hb:b=x
 .subst hb;rw[fX] at q;cases q;exact new
 .rw[dh hb] at q
  by_cases zV:b=e
  .have q':H b=aa (.own x):=by
    rcases he with z | z
    .exact absurd (zV.trans z) hb
    .rw[zV];exact z
   rw[q] at q';cases q';obtain⟨v,hv⟩:=BM;exact⟨v,by rw[zV];exact hv⟩
  .refine(ok b u q).mo (λc v hc r=>k c v ?_ r) (λc r=>by rw[dh (Dh c b r)];exact r) λc xs r=>by rw[dh (Jw c xs r)];exact r
   rcases hc with rfl | hc
   .exact zV
   .rintro rfl
    rcases he with z | z
    .exact Dh c b hc z
    .rw[hc] at z;cases z;exact hb rfl
end
structure Un(fs ex:List ai)(H H':Hp)(h h':bN):Prop where
 keep:∀b o,h.get? b=aa o->H b=ae->b∉fs->b∉ex->h'.get? b=aa o
 slot:∀b o,h.get? b=aa o->H b=ae->b∈fs->b∉ex->∃sl,h'.get? b=aa { o with slots:=sl }
 free:∀b o,h.get? b=aa o->H b=ae->b∉ex->H' b=ae
 there:∀b o,h.get? b=aa o->b∉ex->∃o',h'.get? b=aa o'
 tups:∀b xs,H b=aa (.tup xs)->H' b=aa (.tup xs)
 frzs:∀b o u,H b=aa (.eL o u)->H' b=aa (.eL o u)
 tbls:∀b ps,H b=aa (.uT ps)->∃more,H' b=aa (.uT (ps++more))
section
variable {fs wu ex ex':List ai}{H H1 H2:Hp}{h h1 h2 h':bN}{a x e:ai}{o:HO}
theorem Un.any(u:Un fs ex H H1 h h1){b:ai}{ob:Obj}(q:h.get? b=aa ob)(n:H b=ae)(hx:b∉ex):∃sl,h1.get? b=aa { ob with slots:=sl }:=by
 by_cases hb:b∈fs
 .exact u.slot b ob q n hb hx
 .exact⟨ob.slots,u.keep b ob q n hb hx⟩
theorem Un.kept(k:∀b u,h.get? b=aa u->h'.get? b=aa u):Un fs ex H H h h':=
 ⟨λb ob q _ _ _=>k b ob q,λb ob q _ _ _=>⟨ob.slots,k b ob q⟩,λ_ _ _ n _=>n,λb ob q _=>⟨ob,k b ob q⟩,λ_ _ q=>q,λ_ _ _ q=>q,λ_ ps q=>⟨#[],by rw[q];simp⟩⟩
theorem Un.refl:Un fs ex H H h h:=Un.kept λ_ _ q=>q
theorem Un.laid(k:∀b u,h.get? b=aa u->h'.get? b=aa u)(hp:h.objs.size<=a)(hn:H a=ae):Un fs ex H (upd H a o) h h' where
 keep:=λb u q _ _ _=>k b u q
 slot:=λb u q _ _ _=>⟨u.slots,k b u q⟩
 free:=λb u q n _=>by rw[dh (aQ (ax (aE q) hp))];exact n
 there:=λb u q _=>⟨u,k b u q⟩
 tups:=λb xs q=>by rw[dh (sE q hn)];exact q
 frzs:=λb u xs q=>by rw[dh (sE q hn)];exact q
 tbls:=λb ps q=>⟨#[],by rw[dh (sE q hn),q];simp⟩
theorem Un.write(mu:Dg (H x))(he:e=x\/H e=aa (.own x))(k:∀b u,b≠e->h.get? b=aa u->h'.get? b=aa u)(BM:∃u,h'.get? e=aa u):Un fs ex H (upd H x o) h h':=by
 have hx:∀b,H b=ae->b≠x:=λb n z=>by subst z;rw[n] at mu;exact mu
 have hb:∀b,H b=ae->b≠e:=λb n z=>by
  subst z;rcases he with r | r
  .exact hx b n r
  .rw[n] at r;cases r
 have hm:∀b u,H b=aa u->¬Dg (aa u)->b≠x:=λb u q nm z=>by subst z;rw[q] at mu;exact nm mu
 refine⟨λb u q n _ _=>k b u (hb b n) q,λb u q n _ _=>⟨u.slots,k b u (hb b n) q⟩,λb u q n _=>by rw[dh (hx b n)];exact n,λb u q _=>?_,
  λb xs q=>by rw[dh (hm b _ q λz=>z)];exact q,λb u xs q=>by rw[dh (hm b _ q λz=>z)];exact q,λb ps q=>⟨#[],by rw[dh (hm b _ q λz=>z),q];simp⟩⟩
 by_cases zV:b=e
 .subst zV;exact BM
 .exact⟨u,k b u zV q⟩
end
noncomputable def Gd(h:bN)(H:Hp):List ai:=(cn h.objs.size).filter λa=>(H a).isSome
def ph(h:bN)(H:Hp):bN:=W.hideAll h (Gd h H)
theorem Wr(h:bN)(H:Hp):(ph h H).objs.size=h.objs.size:=W.hideAll_size _ _
theorem Ws{h:bN}{H:Hp}{b:ai}{o:Obj}(e:h.get? b=aa o)(n:H b=ae):(ph h H).get? b=aa o:=
 W.hideAll_get _ e λhm=>by
  have q:(H b).isSome=true:=(aN.mp hm).2;rw[n] at q;simp at q
theorem Wt{h:bN}{H:Hp}{b:ai}{o:Obj}(e:(ph h H).get? b=aa o):h.get? b=aa o/\H b=ae:=by
 have e':h.get? b=aa o:=W.of_hideAll (Gd h H) e;refine⟨e',?_⟩;cases q:H b with
 |none=>rfl
 | some x=>
   have hm:b∈Gd h H:=aN.mpr ⟨gQ.mpr (aE e'),by simp[q]⟩;have z:(ph h H).get? b=ae:=W.hideAll_none (Gd h H) hm;rw[z] at e;cases e
noncomputable def Wu(g h:bN)(L:ai):List (ai×Obj):=(cn h.objs.size).filterMap λa=>if a=L\/(g.get? a).isSome=true then ae else(h.get? a).map λo=>(a,o)
noncomputable def iq(g h:bN)(L d:ai):List (ai×Obj):=(Wu g h L).filter λp=>decide (p.1≠d)
structure Mod(K:W.Frag)(mg:Str->Option af)(base:bN):Prop where
 Di:K.In base
 glob:base.Ns bp mg
 blt:∃mb,base.Ns Bz mb/\∀x:Str,x ≠ "__name__" -> mb x=dz x
 nolimit:base.NoLimit
structure Cx where
 prog:aR
 w:bu
 K:W.Frag
 mg:Str->Option af
 base:bN
 A:bW
 N:List Str
 s₀:aj
 H₀:Hp
 env:Env
 outer:List Env
 stack:List Env
 ex:List ai
 fn:Str->Bool
 calm:Bool
 pn:List (ai×Obj)
 xe:af->aj->Prop
 kn:List (Option V):=[]
noncomputable def mG(l:List Env):List ai:=l.filterMap (·.frame)
abbrev Cx.fs(X:Cx):List ai:=mG X.outer
def zW(sc:iz)(x:Str):Prop:=sc.names.lookup x=aa .local\/sc.names.lookup x=aa .cell\/sc.names.lookup x=aa .free
def Loc(sc:iz)(x:Str):Prop:=sc.names.lookup x=aa .local\/sc.names.lookup x=aa .cell
def Look(env:Env)(h:bN)(m:Str->Option af)(x:Str)(u:af):Prop:=
 (env.kindOf x=aa .local/\m x=aa u)\/((env.kindOf x=aa .cell\/env.kindOf x=aa .free)/\∃c,env.cells.lookup x=aa c/\h.IsCell c (aa u))
structure Cx.Ok(X:Cx):Prop where
 mod:Mod X.K X.mg X.base
 kind:X.env.scope.kind=.function
 glob:X.env.globals=bp
 blt:X.env.builtins=Bz
 above:X.s₀.heap.objs.size<=X.env.locals
 inj:∀x y c,X.env.cells.lookup x=aa c->X.env.cells.lookup y=aa c->x=y
 has:∀x,(X.env.kindOf x=aa .cell\/X.env.kindOf x=aa .free)->∃c,X.env.cells.lookup x=aa c
 Dj:∀x c,X.fn x=true->X.env.cells.lookup x=aa c->X.s₀.heap.objs.size<=c
 hd:X.calm=true->X.A.handled=ae
 frames:X.A.frames=aa X.stack
 Ge:X.stack=X.outer\/(X.stack=X.env::X.outer/\X.env.frame=aa X.env.locals)
 Gf:∀b∈X.ex,b≠X.env.locals/\∀x c,X.env.cells.lookup x=aa c->c≠b
 bs:∀b o,X.base.get? b=aa o->X.s₀.heap.get? b=aa o/\X.H₀ b=ae
 wZ:X.base.objs.size<=X.s₀.heap.objs.size
 uU:∀b o,X.base.get? b=aa o->b∉X.ex
 tz:∀b∈X.ex,b∉X.fs
 mV:X.s₀.heap.FunFrames X.base X.outer
 zX:∀b∈X.fs,X.H₀ b=ae
structure Inv(X:Cx)(ag:List (ai×Obj))(σ:List (Option V))(H:Hp)(s:aj):Prop where
 ok:X.Ok
 os:s.os=X.s₀.os
 bare:jP s.gens
 base:Un X.fs X.ex X.H₀ H X.s₀.heap s.heap
 loc:∃m,s.heap.Ns X.env.locals m/\∀(i:Nat) (x:Str) (v:V),X.N[i]?=aa x->σ[i]?=aa (aa v)->zW X.env.scope x->∃u,RelV v u/\Look X.env s.heap m x u
 cell:∀x c,X.env.cells.lookup x=aa c->∃v,s.heap.IsCell c v
 free:H X.env.locals=ae
 iD:∀x c,X.env.cells.lookup x=aa c->H c=ae
 pin:∀p∈X.pn++ag,s.heap.get? p.1=aa p.2/\H p.1=ae/\p.1≠X.env.locals/\p.1∉X.fs/\∀v,p.2.data≠.cell v
 cD:iM X.prog X.w H s.heap
 len:σ.length=X.N.length
 kn:∀(i:Nat) (v:V),X.kn[i]?=aa (aa v)->σ[i]?=aa (aa v)
section
variable {X:Cx}{ag:List (ai×Obj)}{σ:List (Option V)}{H H':Hp}{s:aj}{h':bN}
theorem Cx.Ok.Jx(ok:X.Ok){b:ai}{o:Obj}(e:X.base.get? b=aa o):b∉X.fs:=λhb=>by
 have:=(ok.mV.mem hb).1;rw[e] at this;cases this
theorem Inv.bs(I:Inv X ag σ H s):∀b o,X.base.get? b=aa o->s.heap.get? b=aa o/\H b=ae:=λb o e=>
 ⟨I.base.keep b o (I.ok.bs b o e).1 (I.ok.bs b o e).2 (I.ok.Jx e) (I.ok.uU b o e),I.base.free b o (I.ok.bs b o e).1 (I.ok.bs b o e).2 (I.ok.uU b o e)⟩
theorem Inv.bk(I:Inv X ag σ H s):∀b o,X.base.get? b=aa o->s.heap.get? b=aa o:=λb o e=>(I.bs b o e).1
theorem Inv.mod(I:Inv X ag σ H s):Mod X.K X.mg X.base:=I.ok.mod
theorem Inv.jz(I:Inv X ag σ H s):X.K.In s.heap:=I.ok.mod.Di.keeps I.bk
theorem Inv.fr(I:Inv X ag σ H s):∃m,Fr X.base X.env.locals s.heap m:=
 let ⟨m,hn,_⟩:=I.loc
 ⟨m,hn,I.bk,bz I.ok.wZ I.ok.above⟩
theorem Inv.lt(I:Inv X ag σ H s):X.env.locals<s.heap.objs.size:=let ⟨_,hn,_⟩:=I.loc;hn.lt
theorem Inv.sz(I:Inv X ag σ H s):X.s₀.heap.objs.size<=s.heap.objs.size:=bz I.ok.above (m_ I.lt)
theorem Inv.Jy(I:Inv X ag σ H s){a:ai}(h:s.heap.objs.size<=a):a∉X.fs:=λhb=>by
 obtain⟨_,o,ho,_⟩:=I.ok.mV.mem hb;exact absurd (ax (aE ho) (bz I.sz h)) (cZ _)
theorem Inv.w5(I:Inv X ag σ H s):∀x c,X.env.cells.lookup x=aa c->c≠X.env.locals:=λx c e z=>by
 obtain⟨v,o,ho,hd⟩:=I.cell x c e;obtain⟨m,⟨o',es,ep,wx,wy,_⟩,_⟩:=I.loc;rw[z,wx] at ho;cases ho;rw[wy] at hd;cases hd
theorem Inv.mV(I:Inv X ag σ H s):s.heap.FunFrames X.base X.outer:=by
 have all:∀(l:List Env),(∀b∈mG l,b∈X.fs)->X.s₀.heap.FunFrames X.base l->s.heap.FunFrames X.base l:=by
  intro l
  induction l with
  |nil=>intro _ _;trivial
  | cons env r ih=>
    intro hs hl;obtain⟨hk,⟨L,o,hf,hn,ho,hd⟩,hr⟩:=hl;have hL:L∈X.fs:=hs L (by unfold mG;rw[lC,hf];exact aA);obtain⟨sl,e⟩:=I.base.slot L o ho (I.ok.zX L hL) hL λz=>I.ok.tz L z hL;exact⟨hk,⟨L,_,hf,hn,e,hd⟩,ih (λb hb=>hs b (by unfold mG;rw[lC,hf];exact au _ hb)) hr⟩
 exact all X.outer (λ_ hb=>hb) I.ok.mV
theorem Inv.stack(I:Inv X ag σ H s):s.heap.FunFrames X.base X.stack:=by
 rcases I.ok.Ge with e | ⟨e,hf⟩
 .rw[e];exact I.mV
 .rw[e]
  obtain⟨m,hn,_⟩:=I.loc;refine .cons (by rw[I.ok.kind];decide) hf hn ?_ I.mV;exact Heap.get?_none_of_le (bz I.ok.wZ I.ok.above)
theorem Inv.rB(I:Inv X ag σ H s):∀b∈mG X.stack,b∈X.env.locals::X.fs:=λb hb=>by
 rcases I.ok.Ge with e | ⟨e,hf⟩
 .rw[e] at hb;exact au _ hb
 .rw[e] at hb
  unfold mG at hb;rw[lC,hf] at hb;exact hb
theorem Inv.ni(I:Inv X ag σ H s):∀b∈mG X.stack,H b=ae:=λb hb=>by
 rcases aF.mp (I.rB b hb) with e | hb
 .rw[e];exact I.free
 .obtain⟨_,o,ho,_⟩:=I.ok.mV.mem hb
  exact I.base.free b o ho (I.ok.zX b hb) λz=>I.ok.tz b z hb
theorem Inv.step{g':Array GenState}{t':Nat}{d':Drawn}{ch:List ai}(I:Inv X ag σ H s)
  (wz:∀b∈ch,(b∈X.ex\/X.s₀.heap.objs.size<=b)/\b≠X.env.locals/\(∀x c,X.env.cells.lookup x=aa c->c≠b)/\∀p∈X.pn++ag,p.1≠b)
  (keep:∀b o,b≠X.env.locals->b∉X.fs->b∉ch->s.heap.get? b=aa o->H b=ae->h'.get? b=aa o)
  (slot:∀b o,b≠X.env.locals->b∈X.fs->b∉ch->s.heap.get? b=aa o->H b=ae->∃sl,h'.get? b=aa { o with slots:=sl }) (free:∀b o,b∉ch->s.heap.get? b=aa o->H b=ae->H' b=ae)
  (there:∀b o,b∉ch->s.heap.get? b=aa o->∃o',h'.get? b=aa o')
  (tups:∀b xs,H b=aa (.tup xs)->H' b=aa (.tup xs)) (frzs:∀b o u,H b=aa (.eL o u)->H' b=aa (.eL o u)) (tbls:∀b ps,H b=aa (.uT ps)->∃more,H' b=aa (.uT (ps++more)))
  (ns:∀m,s.heap.Ns X.env.locals m->h'.Ns X.env.locals m) (cD:iM X.prog X.w H' h') (hg:jP g') :
  Inv X ag σ H' { s with heap:=h',gens:=g',drawn:=d',toks:=t' }:=by
 have Pf:∀b o,X.s₀.heap.get? b=aa o->b≠X.env.locals:=λb o e=>aQ (ax (aE e) I.ok.above);have Gg:∀b o,X.s₀.heap.get? b=aa o->b∉X.ex->b∉ch:=λb o e hx hb=>by
  rcases(wz b hb).1 with z | z
  .exact hx z
  .exact absurd (ax (aE e) z) (cZ _)
 have yX:∀x c,X.env.cells.lookup x=aa c->∀v,s.heap.IsCell c v->h'.IsCell c v:=λx c e v ⟨o,ho,hd⟩=>by
  have Dl:c∉ch:=λz=>(wz c z).2.2.1 x c e rfl;by_cases hc:c∈X.fs
  .obtain⟨sl,q⟩:=slot c o (I.w5 x c e) hc Dl ho (I.iD x c e)
   exact⟨_,q,hd⟩
  .exact⟨o,keep c o (I.w5 x c e) hc Dl ho (I.iD x c e),hd⟩
 refine⟨I.ok,I.os,hg,⟨λb o e n hb hx=>?_,λb o e n hb hx=>?_,λb o e n hx=>?_,λb o e hx=>?_,λb xs e=>tups b xs (I.base.tups b xs e),λb o xs e=>frzs b o xs (I.base.frzs b o xs e),λb ps e=>?_⟩,?_,λx c e=>?_,?_,λx c e=>?_,λp hp=>?_,cD,I.len,I.kn⟩
 .exact keep b o (Pf b o e) hb (Gg b o e hx) (I.base.keep b o e n hb hx) (I.base.free b o e n hx)
 .obtain⟨sl,e1⟩:=I.base.slot b o e n hb hx
  obtain⟨Gh,e2⟩:=slot b _ (Pf b o e) hb (Gg b o e hx) e1 (I.base.free b o e n hx);exact⟨Gh,e2⟩
 .obtain⟨o',e1⟩:=I.base.there b o e hx
  exact free b o' (Gg b o e hx) e1 (I.base.free b o e n hx)
 .obtain⟨o',e1⟩:=I.base.there b o e hx
  exact there b o' (Gg b o e hx) e1
 .obtain⟨m1,e1⟩:=I.base.tbls b ps e
  obtain⟨m2,e2⟩:=tbls b _ e1;exact⟨m1++m2,by rw[e2,ui]⟩
 .obtain⟨m,hn,hl⟩:=I.loc
  refine⟨m,ns m hn,λi x v e1 e2 e3=>?_⟩;obtain⟨u,r,l⟩:=hl i x v e1 e2 e3;refine⟨u,r,?_⟩;rcases l with l | ⟨k,c,e,z⟩
  .exact .inl l
  .exact .inr ⟨k,c,e,yX x c e _ z⟩
 .obtain⟨v,z⟩:=I.cell x c e
  exact⟨v,yX x c e v z⟩
 .obtain⟨m,⟨o,_,_,ho,_⟩,_⟩:=I.loc
  exact free _ o (λz=>(wz _ z).2.1 rfl) ho I.free
 .obtain⟨v,o,ho,hd⟩:=I.cell x c e
  exact free c o (λz=>(wz c z).2.2.1 x c e rfl) ho (I.iD x c e)
 .obtain⟨e,n,ne,nf,d⟩:=I.pin p hp
  have Dl:p.1∉ch:=λz=>(wz p.1 z).2.2.2 p hp rfl;exact⟨keep p.1 p.2 ne nf Dl e n,free p.1 p.2 Dl e n,ne,nf,d⟩
theorem Inv.un{t':Nat}(I:Inv X ag σ H s)(u:Un X.fs [] H H' s.heap h')(cD:iM X.prog X.w H' h'):Inv X ag σ H' { s with heap:=h',toks:=t' }:=by
 obtain⟨m,⟨o,es,ep,ho,r⟩,_⟩:=id I.loc;obtain⟨sl,hL⟩:=u.any ho I.free (by simp);exact I.step (g':=s.gens) (d':=s.drawn) (ch:=[]) (λ_ z=>nomatch z) (λb o _ hb _ e n=>u.keep b o e n hb (by simp)) (λb o _ hb _ e n=>u.slot b o e n hb (by simp)) (λb o _ e n=>u.free b o e n (by simp)) (λb o _ e=>u.there b o e (by simp)) u.tups u.frzs u.tbls (λm' hm=>by
  obtain⟨o',zY,zZ,wx,r'⟩:=hm;rw[ho] at wx;cases wx;exact⟨_,zY,zZ,hL,r'⟩) cD I.bare
theorem Inv.call{g':Array GenState}{t':Nat}{d':Drawn}{ch:List ai}(I:Inv X ag σ H s)(u:Un (mG X.stack) ch H H' s.heap h')(cD:iM X.prog X.w H' h')(hg:jP g')
  (wz:∀b∈ch,(b∈X.ex\/X.s₀.heap.objs.size<=b)/\b≠X.env.locals/\(∀x c,X.env.cells.lookup x=aa c->c≠b)/\∀p∈X.pn++ag,p.1≠b) :
  Inv X ag σ H' { s with heap:=h',gens:=g',drawn:=d',toks:=t' }:=by
 obtain⟨m,⟨o,es,ep,ho,r⟩,_⟩:=id I.loc;obtain⟨sl,hL⟩:=u.any ho I.free λz=>(wz _ z).2.1 rfl;exact I.step (ch:=ch) wz (λb o hL hb hc e n=>u.keep b o e n (λz=>(aF.mp (I.rB b z)).elim hL hb) hc) (λb o _ _ hc e n=>u.any e n hc) (λb o hc e n=>u.free b o e n hc) (λb o hc e=>u.there b o e hc) u.tups u.frzs u.tbls (λm' hm=>by
  obtain⟨o',zY,zZ,wx,r'⟩:=hm;rw[ho] at wx;cases wx;exact⟨_,zY,zZ,hL,r'⟩) cD hg
theorem Inv.turned{t':Nat}{it:ai}(I:Inv X ag σ H s)(k:∀b o,b≠it->s.heap.get? b=aa o->h'.get? b=aa o)(hn:H it=ae)(hL:it≠X.env.locals)
  (h1:it∈X.ex\/X.s₀.heap.objs.size<=it) (h2:∀x c,X.env.cells.lookup x=aa c->c≠it) (h3:∀p∈X.pn++ag,p.1≠it):Inv X ag σ H { s with heap:=h',toks:=t' }:=by
 have Pg:∀b u,H b=aa u->b≠it:=λb u e z=>by rw[z,hn] at e;cases e
 refine I.step (g':=s.gens) (d':=s.drawn) (ch:=[it]) (λb hb=>?_) (λb o _ _ hc e _=>k b o (λz=>hc (by simp[z])) e) (λb o _ _ hc e _=>⟨o.slots,k b o (λz=>hc (by simp[z])) e⟩) (λ_ _ _ _ n=>n)
  (λb o hc e=>⟨o,k b o (λz=>hc (by simp[z])) e⟩) (λ_ _ e=>e) (λ_ _ _ e=>e) (λb ps e=>⟨#[],by rw[e];simp⟩) (λm hm=>?_) (λb u e=>?_) I.bare
 .have e:b=it:=by simpa using hb
  subst e;exact⟨h1,hL,h2,h3⟩
 .obtain⟨o,es,ep,ho,r⟩:=hm
  exact⟨o,es,ep,k _ o (bP hL) ho,r⟩
 .refine(I.cD b u e).mo (λc v hc q=>k c v ?_ q) (λ_ q=>q) λ_ _ q=>q
  rcases hc with z | z
  .rw[z];exact Pg b u e
  .exact Pg c _ z
theorem Inv.tok(I:Inv X ag σ H s)(t:Nat):Inv X ag σ H { s with toks:=t }:=I.un (h':=s.heap) (t':=t) Un.refl I.cD
theorem Inv.kept{t':Nat}(I:Inv X ag σ H s)(k:∀b u,s.heap.get? b=aa u->h'.get? b=aa u):Inv X ag σ H { s with heap:=h',toks:=t' }:=I.un (Un.kept k) (I.cD.kept k)
theorem Inv.laid{a:ai}{o:HO}{t':Nat}(I:Inv X ag σ H s)(k:∀b u,s.heap.get? b=aa u->h'.get? b=aa u)(hp:s.heap.objs.size<=a)(new:jS X.prog X.w (upd H a o) h' a o) :
 Inv X ag σ (upd H a o) { s with heap:=h',toks:=t' }:=I.un (Un.laid k hp (I.cD.fresh hp)) (I.cD.laid k hp new)
theorem Inv.write{x e:ai}{o:HO}{t':Nat}(I:Inv X ag σ H s)(mu:Dg (H x))(he:e=x\/H e=aa (.own x))(k:∀b u,b≠e->s.heap.get? b=aa u->h'.get? b=aa u)(BM:∃u,h'.get? e=aa u)
 (new:jS X.prog X.w (upd H x o) h' x o):Inv X ag σ (upd H x o) { s with heap:=h',toks:=t' }:=I.un (Un.write mu he k BM) (I.cD.write mu he k BM new)
theorem Inv.weak{σ':List (Option V)}(I:Inv X ag σ H s)(hl:σ'.length=σ.length)(w:∀(i:Nat) v,σ'[i]?=aa (aa v)->σ[i]?=aa (aa v))(wk:∀(i:Nat) (v:V),X.kn[i]?=aa (aa v)->σ'[i]?=aa (aa v)):Inv X ag σ' H s:=
 ⟨I.ok,I.os,I.bare,I.base,let ⟨m,hn,Ph⟩:=I.loc;⟨m,hn,λi x v e1 e2 e3=>Ph i x v e1 (w i v e2) e3⟩,I.cell,I.free,I.iD,I.pin,I.cD,hl.trans I.len,wk⟩
theorem Inv.nj{iE:List (ai×Obj)}(I:Inv X ag σ H s)(h:∀p∈iE,s.heap.get? p.1=aa p.2/\H p.1=ae/\p.1≠X.env.locals/\p.1∉X.fs/\∀v,p.2.data≠.cell v):Inv X iE σ H s:=
 ⟨I.ok,I.os,I.bare,I.base,I.loc,I.cell,I.free,I.iD,λp hp=>(cH.mp hp).elim (λz=>I.pin p (ck _ z)) (h p),I.cD,I.len,I.kn⟩
theorem Jz{N:List Str}(hN:N.Nodup){i j:Nat}{x:Str}(a:N[i]?=aa x)(b:N[j]?=aa x):i=j:=by
 obtain⟨h1,e1⟩:=aB.mp a;obtain⟨h2,e2⟩:=aB.mp b;exact(List.getElem_inj hN).mp (e1.trans e2.symm)
theorem JA{M:uK}{A:bW}{E:af->aj->Prop}{i:Nat}{x:Str}{v:V}{u:af}{Q:Unit->aj->Prop}(I:Inv X ag σ H s)(hN:X.N.Nodup)(hi:X.N[i]?=aa x)(hx:Loc X.env.scope x)(r:RelV v u)
  (h:∀s',Inv X ag (σ.set i (aa v)) H s'->(∃a,fZ a s.heap s'.heap/\(a=X.env.locals\/X.env.cells.lookup x=aa a))->Q () s') (hf:X.fn x=true\/X.env.scope.names.lookup x=aa .local:=by first | exact .inl rfl | exact .inr rfl | assumption) (hkn:∀u:V,X.kn[i]?≠aa (aa u):=by first | assumption | exact λu h=>nomatch (show(ae:Option (Option V))=aa (aa u) from h) | exact λu h=>nomatch (bj (show aa (ae:Option V)=aa (aa u) from h))):wpAny M A (storeName X.env x u) Q E s:=by
 obtain⟨m,hn,hl⟩:=id I.loc;have z0:(X.env.scope.kind==.class || (X.env.scope.kind==.module&&X.env.locals != X.env.globals))=false:=by rw[I.ok.kind];rfl
 have BN:i < σ.length:=by rw[I.len];exact(aB.mp hi).1
 have w5:=I.w5;have Pj:∀(j:Nat) (v':V),X.kn[j]?=aa (aa v')->(σ.set i (aa v))[j]?=aa (aa v'):=λj v' e=>by
  by_cases hj:j=i
  .subst hj;exact absurd e (hkn v')
  .rw[cm (bP hj)];exact I.kn j v' e
 have sF:∀{a:ai} {h':bN},(∃o,s.heap.get? a=aa o/\H a=ae)->fZ a s.heap h'->iM X.prog X.w H h':=λ{a h'} ha hs b ob e=>by
  obtain⟨_,_,sG⟩:=ha;refine(I.cD b ob e).mo (λc w' hc q=>(hs.2 c ?_).trans q) (λ_ q=>q) λ_ _ q=>q;rintro rfl;rcases hc with rfl | hc
  .rw[sG] at e;cases e
  .rw[sG] at hc;cases hc
 rcases hx with hk | hk
 .refine wpAny_storeName_local hk hn (λh' wA hs=>?_) z0
  obtain⟨oL,_,_,Wv,_⟩:=id hn;refine h _ ⟨I.ok,I.os,I.bare,⟨λb o e n hb hx=>?_,λb o e n hb hx=>?_,I.base.free,λb o e hx=>?_,I.base.tups,I.base.frzs,I.base.tbls⟩,⟨_,wA,λj y v' e1 e2 e3=>?_⟩,λy c e=>?_,I.free,I.iD,λp hp=>?_,sF ⟨oL,Wv,I.free⟩ hs,by simpa using I.len,Pj⟩ ⟨_,hs,.inl rfl⟩
  .exact(hs.2 b (aQ (ax (aE e) I.ok.above))).trans (I.base.keep b o e n hb hx)
  .obtain⟨sl,e1⟩:=I.base.slot b o e n hb hx
   exact⟨sl,(hs.2 b (aQ (ax (aE e) I.ok.above))).trans e1⟩
  .obtain⟨o',e1⟩:=I.base.there b o e hx
   exact⟨o',(hs.2 b (aQ (ax (aE e) I.ok.above))).trans e1⟩
  .by_cases hj:j=i
   .subst hj
    rw[hi] at e1;cases e1;rw[c6 BN] at e2;cases e2;exact⟨u,r,.inl ⟨hk,by simp⟩⟩
   .rw[cm (bP hj)] at e2
    obtain⟨u',r',q⟩:=hl j y v' e1 e2 e3;refine⟨u',r',?_⟩;rcases q with⟨k,e⟩ | ⟨k,c,e,z⟩
    .refine .inl ⟨k,?_⟩
     have:y≠x:=λe=>hj (Jz hN e1 (e▸hi));simp[this,e]
    .exact .inr ⟨k,c,e,z.sameBut hs (w5 y c e)⟩
  .obtain⟨w',z⟩:=I.cell y c e
   exact⟨w',z.sameBut hs (w5 y c e)⟩
  .obtain⟨e,n,ne,nf,d⟩:=I.pin p hp
   exact⟨(hs.2 p.1 ne).trans e,n,ne,nf,d⟩
 .have JB:X.fn x=true:=by
   rcases hf with z | z
   .exact z
   .rw[z] at hk;cases hk
  obtain⟨c,hc⟩:=I.ok.has x (.inl hk);obtain⟨w',z⟩:=I.cell x c hc;refine wpAny_storeName_cell I.ok.kind hk hc z (λh' Gi hs=>?_);obtain⟨oc,BO,JC⟩:=id z;refine h { s with heap:=h' } ⟨I.ok,I.os,I.bare,⟨λb o e n hb hx=>?_,λb o e n hb hx=>?_,I.base.free,λb o e hx=>?_,I.base.tups,I.base.frzs,I.base.tbls⟩,⟨m,hn.sameBut hs (bP (w5 x c hc)),λj y v' e1 e2 e3=>?_⟩,λy c' e=>?_,I.free,I.iD,λp hp=>?_,sF ⟨oc,BO,I.iD x c hc⟩ hs,by simpa using I.len,Pj⟩ ⟨c,hs,.inr hc⟩
  .exact(hs.2 b (aQ (ax (aE e) (I.ok.Dj x c JB hc)))).trans (I.base.keep b o e n hb hx)
  .obtain⟨sl,e1⟩:=I.base.slot b o e n hb hx
   exact⟨sl,(hs.2 b (aQ (ax (aE e) (I.ok.Dj x c JB hc)))).trans e1⟩
  .obtain⟨o',e1⟩:=I.base.there b o e hx
   exact⟨o',(hs.2 b (aQ (ax (aE e) (I.ok.Dj x c JB hc)))).trans e1⟩
  .by_cases hj:j=i
   .subst hj
    rw[hi] at e1;cases e1;rw[c6 BN] at e2;cases e2;exact⟨u,r,.inr ⟨.inl hk,c,hc,Gi⟩⟩
   .rw[cm (bP hj)] at e2
    obtain⟨u',r',q⟩:=hl j y v' e1 e2 e3;refine⟨u',r',?_⟩;rcases q with q | ⟨k,c',e,z'⟩
    .exact .inl q
    .refine .inr ⟨k,c',e,z'.sameBut hs ?_⟩
     rintro rfl;exact hj (Jz hN e1 (I.ok.inj _ _ _ e hc▸hi))
  .by_cases Pk:c'=c
   .subst Pk;exact⟨_,Gi⟩
   .obtain⟨w2,z2⟩:=I.cell y c' e
    exact⟨w2,z2.sameBut hs Pk⟩
  .obtain⟨e,n,ne,nf,d⟩:=I.pin p hp
   refine⟨(hs.2 p.1 ?_).trans e,n,ne,nf,d⟩;intro q;rw[q,BO] at e;have q':oc=p.2:=bj e;exact d w' (by rw[<- q'];exact JC)
theorem Gj{M:uK}{A:bW}{E:af->aj->Prop}{i:Nat}{x:Str}{v:V}{u:af}{Q:Unit->aj->Prop}(I:Inv X ag σ H s)(hN:X.N.Nodup)(hi:X.N[i]?=aa x)(hx:Loc X.env.scope x)(r:RelV v u)
  (h:∀s',Inv X ag (σ.set i (aa v)) H s'->Q () s') (hf:X.fn x=true\/X.env.scope.names.lookup x=aa .local:=by first | exact .inl rfl | exact .inr rfl | assumption) (hkn:∀u:V,X.kn[i]?≠aa (aa u):=by first | assumption | exact λu h=>nomatch (show(ae:Option (Option V))=aa (aa u) from h) | exact λu h=>nomatch (bj (show aa (ae:Option V)=aa (aa u) from h))):wpAny M A (storeName X.env x u) Q E s:=
 JA I hN hi hx r (λs' I' _=>h s' I') hf hkn
theorem Inv.uV{s':aj}{ch:List ai}(I:Inv X ag σ H s)(ho:s'.os=s.os)(u:Un (mG X.stack) ch H H' s.heap s'.heap)(cD:iM X.prog X.w H' s'.heap)(hg:jP s'.gens)
  (wz:∀b∈ch,(b∈X.ex\/X.s₀.heap.objs.size<=b)/\b≠X.env.locals/\(∀x c,X.env.cells.lookup x=aa c->c≠b)/\∀p∈X.pn++ag,p.1≠b):Inv X ag σ H' s':=by
 obtain⟨h',g',d',t',o'⟩:=s';have e:o'=s.os:=ho;subst e;exact I.call (g':=g') (t':=t') (d':=d') u cD hg wz
end
abbrev XK:=af->Option ai->Hp->Prop
abbrev St:=List (Option V)
abbrev VK:=V->Hp->Prop
abbrev TE:=St->Hp->VK->Prop
abbrev TT:=St->Hp->(Bool->Hp->Prop)->Prop
abbrev TA:=St->Hp->(List V->Hp->Prop)->Prop
structure Ends where
 nx:St->Hp->Prop
 rt:VK
 bk:St->Hp->Prop:=λ_ _=>False
 ct:St->Hp->Prop:=λ_ _=>False
abbrev TS:=Ends->St->Hp->Prop
def EP(X:Cx)(ag:List (ai×Obj))(σ:St)(Q:VK)(u:af)(s':aj):Prop:=∃v H',Inv X ag σ H' s'/\RelV v u/\Q v H'
def TP(X:Cx)(ag:List (ai×Obj))(σ:St)(Q:Bool->Hp->Prop)(b:Bool)(s':aj):Prop:=∃H',Inv X ag σ H' s'/\Q b H'
def AP(X:Cx)(ag:List (ai×Obj))(σ:St)(Q:List V->Hp->Prop)(us:List af)(s':aj):Prop:=∃vs H',Inv X ag σ H' s'/\cf vs us/\Q vs H'
def SP(X:Cx)(ag:List (ai×Obj))(D:Ends)(f:Flow)(s':aj):Prop:=
 match f with
 |.next=>∃σ' H',Inv X ag σ' H' s'/\D.nx σ' H'
 |.brk=>∃σ' H',Inv X ag σ' H' s'/\D.bk σ' H'
 |.cont=>∃σ' H',Inv X ag σ' H' s'/\D.ct σ' H'
 |.ret u=>∃v σ' H',Inv X ag σ' H' s'/\RelV v u/\D.rt v H'
def PE(X:Cx)(e:bt)(t:TE):Prop:=
 ∀(ag:List (ai×Obj)) (s:aj) (σ:St) (H:Hp) (Q:VK),Inv X ag σ H s->t σ H Q->wpAny (aJ X.prog X.w) X.A (eval e X.env) (EP X ag σ Q) X.xe s
def PT(X:Cx)(e:bt)(t:TT):Prop:=
 ∀(ag:List (ai×Obj)) (s:aj) (σ:St) (H:Hp) (Q:Bool->Hp->Prop),Inv X ag σ H s->t σ H Q->wpAny (aJ X.prog X.w) X.A (isTrue e X.env (eval e X.env)) (TP X ag σ Q) X.xe s
def PW(X:Cx)(e:bt)(t:TT):Prop:=
 ∀(nH:Sem af) (ag:List (ai×Obj)) (s:aj) (σ:St) (H:Hp) (Q:Bool->Hp->Prop),Inv X ag σ H s->t σ H Q->wpAny (aJ X.prog X.w) X.A (isTrue e X.env nH) (TP X ag σ Q) X.xe s
theorem PW.pt{X:Cx}{e:bt}{t:TT}(h:PW X e t):PT X e t:=h _
def PA(X:Cx)(es:List bt)(t:TA):Prop:=
 ∀(pos:Pos) (ag:List (ai×Obj)) (s:aj) (σ:St) (H:Hp) (Q:List V->Hp->Prop),Inv X ag σ H s->t σ H Q->wpAny (aJ X.prog X.w) X.A (spliced (bK pos (av es X.env))) (AP X ag σ Q) X.xe s
def PS(X:Cx)(st:bR)(t:TS):Prop:=
 ∀(ag:List (ai×Obj)) (s:aj) (σ:St) (H:Hp) (D:Ends),Inv X ag σ H s->t D σ H->wpAny (aJ X.prog X.w) X.A (exec st X.env) (SP X ag D) X.xe s
def k8(X:Cx)(st:List bR)(t:TS):Prop:=
 ∀(ag:List (ai×Obj)) (s:aj) (σ:St) (H:Hp) (D:Ends),Inv X ag σ H s->t D σ H->wpAny (aJ X.prog X.w) X.A (execs st X.env) (SP X ag D) X.xe s
theorem dM{α:Type}{t:Sem α}{Q Q':α->aj->Prop}{M:uK}{A:bW}{E:af->aj->Prop}{s:aj}(h:wpAny M A t Q E s)(hQ:∀a s,Q a s->Q' a s):wpAny M A t Q' E s:=bG h hQ λ_ _ x=>x
section
variable {X:Cx}
theorem bin{a b:bt}{ta tb:TE}(ha:PE X a ta)(hb:PE X b tb){ag:List (ai×Obj)}{s:aj}{σ:St}{H:Hp}{R:V->V->Hp->Prop}(I:Inv X ag σ H s)(h:ta σ H λx H1=>tb σ H1 λy H2=>R x y H2)
  {α:Type} {Q:α->aj->Prop} {f:af->af->Sem α}
  (hf:∀v u s2 x y H2,Inv X ag σ H2 s2->RelV x v->RelV y u->R x y H2->wpAny (aJ X.prog X.w) X.A (f v u) Q X.xe s2) :
  wpAny (aJ X.prog X.w) X.A (eval a X.env) (λv s₁=>wpAny (aJ X.prog X.w) X.A (eval b X.env) (λu s₂=>wpAny (aJ X.prog X.w) X.A (f v u) Q X.xe s₂) X.xe s₁) X.xe s:=by
 refine dM (ha ag s σ H _ I h) λv s1 cS=>?_;obtain⟨x,H1,I1,r1,q1⟩:=cS;refine dM (hb ag s1 σ H1 _ I1 q1) λu s2 cS=>?_;obtain⟨y,H2,I2,r2,q2⟩:=cS;exact hf v u s2 x y H2 I2 r1 r2 q2
def mq(i:Nat):TE:=fun σ H Q=>∃v,σ[i]?=aa (aa v)/\Q v H
def tC(v:V):TE:=λ_ H Q=>Q v H
theorem uW{i:Nat}{x:Str}{pos:Pos}(hN:X.N[i]?=aa x)(hv:zW X.env.scope x)(hd:(x==("__debug__" : Str))=false:=by decide)(tD:(x==("__classdict__" : Str))=false:=by decide):PE X (.Name x pos) (mq i):=by
 intro ag s σ H Q I h;obtain⟨v,e,h⟩:=h;obtain⟨m,hn,hl⟩:=I.loc;obtain⟨u,r,l⟩:=hl i x v hN e hv;have eV:EP X ag σ Q u s:=⟨v,H,I,r,h⟩;rcases l with⟨hk,hm⟩ | ⟨hk,c,hc,yY⟩
 .exact BA (wpAny_loadName_local I.ok.kind hk hn hm eV) hd
 .rcases hk with hk | hk
  .exact BA (wpAny_loadName_cell I.ok.kind hk hc yY eV) hd
  .exact BA (wpAny_loadName_free I.ok.kind hk hc yY eV tD) hd
theorem Ww{i j pos}:PE X (.Constant (.int i) j pos) (tC (.int i)):=λ_ _ _ H _ I h=>wpAny_Constant_int ⟨.int i,H,I.tok _,⟨_,rfl⟩,h⟩
theorem Wx{b j pos}:PE X (.Constant (.bool b) j pos) (tC (.bl b)):=λ_ _ _ H _ I h=>Constant_bool ⟨.bl b,H,I,rfl,h⟩
theorem Wy{j pos}:PE X (.Constant .none j pos) (tC .bH):=λ_ _ _ H _ I h=>Constant_none ⟨.bH,H,I,rfl,h⟩
theorem Gk{x j pos}:PE X (.Constant (.str x) j pos) (tC (.str x)):=λ_ _ _ H _ I h=>Calls.Constant_str ⟨.str x,H,I.tok _,⟨_,rfl⟩,h⟩
def Gl(X:Cx)(x:Str):Prop:=X.env.kindOf x=aa .globalImplicit
theorem yZ{E:af->aj->Prop}{ag:List (ai×Obj)}{s:aj}{σ:St}{H:Hp}{x:Str}{u:af}{pos:Pos}{Q:af->aj->Prop}(I:Inv X ag σ H s)(hg:Gl X x)(hm:X.mg x=aa u)(h:Q u s)
  (hd:(x==("__debug__" : Str))=false:=by decide):wpAny (aJ X.prog X.w) X.A (eval (.Name x pos) X.env) Q E s:=
 oR I.ok.kind hg (Calls.loadGlobal_global (by rw[I.ok.glob];exact I.mod.glob.keeps I.bk) hm h) hd
theorem z1{E:af->aj->Prop}{ag:List (ai×Obj)}{s:aj}{σ:St}{H:Hp}{x:Str}{u:af}{pos:Pos}{Q:af->aj->Prop}(I:Inv X ag σ H s)(hg:Gl X x)(hm:X.mg x=ae)(hv:dz x=aa u)(h:Q u s)
  (hn:x ≠ "__name__":=by decide) (hd:(x==("__debug__" : Str))=false:=by decide):wpAny (aJ X.prog X.w) X.A (eval (.Name x pos) X.env) Q E s:=by
 obtain⟨mb,h1,h2⟩:=I.mod.blt;exact oR I.ok.kind hg (Calls.loadGlobal_builtin (by rw[I.ok.glob];exact I.mod.glob.keeps I.bk) hm (by rw[I.ok.blt];exact h1.keeps I.bk) ((h2 x hn).trans hv) h) hd
theorem Wz{x:Str}{v:V}{u:af}{pos:Pos}(hg:Gl X x)(hm:X.mg x=aa u)(r:RelV v u)(hd:(x==("__debug__" : Str))=false:=by decide):PE X (.Name x pos) (tC v):=
 λ_ _ _ H _ I h=>yZ I hg hm ⟨v,H,I,r,h⟩ hd
theorem WA{x:Str}{v:V}{u:af}{pos:Pos}(hg:Gl X x)(hm:X.mg x=ae)(hv:dz x=aa u)(r:RelV v u)(hn:x ≠ "__name__":=by decide)(hd:(x==("__debug__" : Str))=false:=by decide):PE X (.Name x pos) (tC v):=
 λ_ _ _ H _ I h=>z1 I hg hm hv ⟨v,H,I,r,h⟩ hn hd
variable {a b:bt}{ta tb:TE}{pos:Pos}
def PC(X:Cx)(op:uL)(a b:bt)(t:TE):Prop:=
 ∀ (ag:List (ai×Obj)) (s:aj) (σ:St) (H:Hp) (Q:VK),Inv X ag σ H s->t σ H Q ->
   wpAny (aJ X.prog X.w) X.A (eval a X.env) (λv s₁=>wpAny (aJ X.prog X.w) X.A (eval b X.env) (λu s₂=>wpAny (aJ X.prog X.w) X.A (cX op v u) (EP X ag σ Q) X.xe s₂) X.xe s₁) X.xe s
theorem Pm(b:bt){op:uL}(h:op≠.In)(h2:op≠.NotIn):cU op b=false:=by
 have e1:(op==CmpOp.In)=false:=by cases op<;>first | rfl | exact absurd rfl h
 have e2:(op==CY)=false:=by cases op<;>first | rfl | exact absurd rfl h2
 cases b<;>simp[cU,e1,e2]
def tB(t:TE):TT:=fun σ H Q=>t σ H λx H1=>∃c,x=.bl c/\Q c H1
theorem WB{op:uL}{t:TE}(h:PC X op a b t)(h1:cU op b=false:=by first | exact Pm _ (by decide) (by decide) | rfl):PE X (.Compare a [op] [b] pos) t:=λag s σ H Q I hw=>wpAny_Compare1 (h ag s σ H Q I hw) h1
theorem Pn{op:uL}{t:TE}(h:PC X op a b t)(h1:cU op b=false:=by first | exact Pm _ (by decide) (by decide) | rfl):PT X (.Compare a [op] [b] pos) (tB t):=by
 intro ag s σ H Q I hw;refine wQ (dM (h ag s σ H _ I hw) λv s1 h1=>dM h1 λu s2 h2=>dM h2 λc s3 cS=>?_) h1;obtain⟨x,H1,I1,r1,q1⟩:=cS;obtain⟨d,rfl,q⟩:=q1;cases r1;exact ij ⟨H1,I1,q⟩
variable {tA Gm:TT}{iq:List bt}
def JD(t u:TT):TT:=fun σ H Q=>t σ H λc H1=>if c=true then u σ H1 Q else Q false H1
def WC(t u:TT):TT:=fun σ H Q=>t σ H λc H1=>if c=true then Q true H1 else u σ H1 Q
def JE(t:TT):TT:=fun σ H Q=>t σ H λc H1=>Q (!c) H1
theorem WD(ha:PT X a tA):PW X (.BoolOp .And [a] pos) tA:=by
 intro wh ag s σ H Q I h;refine isTrue_and (dM (ha ag s σ H Q I h) λc s1 e=>?_);cases c with
 |true=>exact isTrue_and_nil e
 |false=>exact e
theorem WE(ha:PT X a tA):PW X (.BoolOp .Or [a] pos) tA:=by
 intro wh ag s σ H Q I h;refine isTrue_or (dM (ha ag s σ H Q I h) λc s1 e=>?_);cases c with
 |false=>exact isTrue_or_nil e
 |true=>exact e
theorem WG(ha:PT X a tA)(hb:PW X (.BoolOp .And (b::iq) pos) Gm):PW X (.BoolOp .And (a::b::iq) pos) (JD tA Gm):=by
 intro wh ag s σ H Q I h;refine isTrue_and (dM (ha ag s σ H _ I h) λc s1 cS=>?_);obtain⟨H1,I1,q1⟩:=cS;cases c with
 |true=>exact hb wh ag s1 σ H1 Q I1 q1
 |false=>exact⟨H1,I1,q1⟩
theorem WH(ha:PT X a tA)(hb:PW X (.BoolOp .Or (b::iq) pos) Gm):PW X (.BoolOp .Or (a::b::iq) pos) (WC tA Gm):=by
 intro wh ag s σ H Q I h;refine isTrue_or (dM (ha ag s σ H _ I h) λc s1 cS=>?_);obtain⟨H1,I1,q1⟩:=cS;cases c with
 |true=>exact⟨H1,I1,q1⟩
 |false=>exact hb wh ag s1 σ H1 Q I1 q1
theorem WI(ha:PT X a tA):PT X (.UnaryOp .Not a pos) (JE tA):=by
 intro ag s σ H Q I h;exact isTrue_not (ha ag s σ H (λc H1=>Q (!c) H1) I h)
def WJ(ta tb:TE):TE:=fun σ H Q=>ta σ H λx H1=>∃c,x=.bl c/\if c=true then tb σ H1 Q else Q (.bl false) H1
theorem WK{op}{t:TE}(h:PE X a t):PE X (.BoolOp op [a] pos) t:=λag s σ H Q I hw=>BoolOp_one (h ag s σ H Q I hw)
theorem WL(ha:PE X a ta)(hb:PE X (.BoolOp .And (b::iq) pos) tb):PE X (.BoolOp .And (a::b::iq) pos) (WJ ta tb):=by
 intro ag s σ H Q I h;refine BoolOp_and (dM (ha ag s σ H _ I h) λv s1 cS=>?_);obtain⟨x,H1,I1,r1,q1⟩:=cS;obtain⟨c,rfl,q1⟩:=q1;cases r1;refine ij ?_;cases c with
 |true=>exact hb ag s1 σ H1 Q I1 q1
 |false=>exact⟨.bl false,H1,I1,rfl,q1⟩
def WM(t:TT)(ta tb:TE):TE:=fun σ H Q=>t σ H λc H1=>if c=true then ta σ H1 Q else tb σ H1 Q
theorem WN{c:bt}(hc:PT X c tA)(ha:PE X a ta)(hb:PE X b tb):PE X (.IfExp c a b pos) (WM tA ta tb):=by
 intro ag s σ H Q I h;refine wpAny_IfExp (dM (hc ag s σ H _ I h) λd s1 cS=>?_);obtain⟨H1,I1,q1⟩:=cS;cases d with
 |true=>exact ha ag s1 σ H1 Q I1 q1
 |false=>exact hb ag s1 σ H1 Q I1 q1
end
def lJ(K:W.Frag)(H:Hp)(a:ai)(xs:List V):Prop:=
 Rd H a (.lst xs) \/
  ∃(o:Obj) (cC:Array af) (n:Nat),K.lookup a=aa o/\o.cls=.type "list" /\ o.dict=ae/\o.data=.seq cC n/\cC.size<=sizeLine/\cf xs cC.toList
def tE(K:W.Frag)(H:Hp)(a:ai)(xs:List V):Prop:=
 Rd H a (.tup xs) \/
  ∃(o:Obj) (cC:Array af) (n:Nat),K.lookup a=aa o/\o.cls=.type "tuple" /\ o.data=.seq cC n/\cC.size<=sizeLine/\cf xs cC.toList
noncomputable def JF:af->Option V
 |.none=>aa .bH
 |.bool b=>aa (.bl b)
 |.int i _=>aa (.int i)
 |.str x _=>aa (.str x)
 |.bytes b _=>aa (.byt b)
 |.float b _=>aa (.zT b)
 |.ref a=>aa (.ref a)
 |.type n=>aa (.ty n)
 |_=>ae
theorem RelV.abs{x:V}{u:af}(r:RelV x u):JF u=aa x:=by
 cases x with
 |bH=>cases r;rfl
 |bl _=>cases r;rfl
 |int _=>obtain⟨t,rfl⟩:=r;rfl
 |str _=>obtain⟨t,rfl⟩:=r;rfl
 |byt _=>obtain⟨t,rfl⟩:=r;rfl
 |zT _=>obtain⟨t,rfl⟩:=r;rfl
 |ref _=>cases r;rfl
 |ty _=>cases r;rfl
theorem RelV.inj{x y:V}{u:af}(r:RelV x u)(q:RelV y u):x=y:=bj (r.abs.symm.trans q.abs)
theorem cf.inj:∀{xs ys:List V} {us:List af},cf xs us->cf ys us->xs=ys
 |_,_,_,.nil,.nil=>rfl
 |_,_,_,.cons r t,.cons r' t'=>by rw[r.inj r',cf.inj t t']
section
variable {X:Cx}{ag:List (ai×Obj)}{σ:St}{H:Hp}{s:aj}{a:ai}{xs ys:List V}
theorem Inv.list(I:Inv X ag σ H s)(h:lJ X.K H a xs):∃cC:List af,cf xs cC/\PlainL s.heap a cC.toArray/\xs.length<=sizeLine:=by
 rcases h with h | ⟨o,cC,n,hk,hc,hd,hs,hz,r⟩
 .obtain⟨z,cC,n,r,e⟩:=h.ok I.cD
  exact⟨cC,r,⟨_,n,e,rfl,rfl,rfl⟩,z⟩
 .refine⟨cC.toList,r,⟨o,n,I.jz a o hk,hc,hd,by simpa using hs⟩,?_⟩
  have e:=r.length;simp only[iA] at e;omega
theorem Inv.tuple(I:Inv X ag σ H s)(h:tE X.K H a xs):∃cC:List af,cf xs cC/\IsTup s.heap a cC.toArray/\xs.length<=sizeLine:=by
 rcases h with h | ⟨o,cC,n,hk,hc,hs,hz,r⟩
 .obtain⟨z,cC,r,p⟩:=h.ok I.cD
  exact⟨cC,r,p,z⟩
 .refine⟨cC.toList,r,⟨o,I.jz a o hk,hc,n,by simpa using hs⟩,?_⟩
  have e:=r.length;simp only[iA] at e;omega
theorem Inv.qz(I:Inv X ag σ H s)(h:lJ X.K H a xs)(h':lJ X.K H a ys):xs=ys:=by
 obtain⟨cC,r,⟨o,n,e,_,_,d⟩,_⟩:=I.list h;obtain⟨its',r',⟨o',n',e',_,_,d'⟩,_⟩:=I.list h';rw[e] at e';cases e';rw[d] at d';injection d' with d1 _;have:cC=its':=by simpa using congrArg Array.toList d1
 subst this;exact r.inj r'
end
abbrev Cx.WO(X:Cx)(E:af->aj->Prop):Cx:={ X with xe:=E }
section
variable {X:Cx}{st:bR}{iq:List bR}{t u:TS}{e:bt}{te:TE}{pos:Pos}
def WQ:TS:=λD σ H=>D.nx σ H
def uX(t u:TS):TS:=λD σ H=>t { D with nx:=u D } σ H
theorem WR:k8 X [] WQ:=λ_ _ σ H _ I h=>i' ⟨σ,H,I,h⟩
theorem Gn(h1:PS X st t)(h2:k8 X iq u):k8 X (st::iq) (uX t u):=by
 intro ag s σ H D I h;refine FT (dM (h1 ag s σ H { D with nx:=u D } I h) λf s1 q=>?_);cases f with
 | next=>
   obtain⟨σ',H',I',q⟩:=q;exact h2 ag s1 σ' H' D I' q
 |ret v=>exact q
 |brk=>exact q
 |cont=>exact q
theorem JG(h1:PS X st t):k8 X [st] t:=by
 intro ag s σ H D I h;refine FT (dM (h1 ag s σ H D I h) λf s1 q=>?_);cases f with
 |next=>exact i' q
 |ret v=>exact q
 |brk=>exact q
 |cont=>exact q
theorem Inv.quiet{ag:List (ai×Obj)}{σ:St}{H:Hp}{s:aj}(I:Inv X ag σ H s):interactive X.env=false:=by simp[interactive,I.ok.kind]
def JH(te:TE):TS:=λD σ H=>te σ H λ_ H1=>D.nx σ H1
theorem JI(he:PE X e te)(hs:fu e ae pos.line X.env=pure false:=by rfl):PS X (.Expr e pos) (JH te):=by
 intro ag s σ H D I h;exact wpAny_Expr_any (dM (he ag s σ H _ I h) λv s1 ⟨x,H1,I1,r1,q1⟩=>⟨σ,H1,I1,q1⟩) I.quiet hs
def JJ(te:TE):TS:=λD σ H=>te σ H D.rt
theorem WS(he:PE X e te):PS X (.Return (aa e) pos) (JJ te):=by
 intro ag s σ H D I h;exact wpAny_Return_some (dM (he ag s σ H _ I h) λv s1 ⟨x,H1,I1,r1,q1⟩=>⟨x,σ,H1,I1,r1,q1⟩)
def JK(c:TT)(t u:TS):TS:=λD σ H=>c σ H λb H1=>if b=true then t D σ H1 else u D σ H1
theorem WT{c:bt}{a b:List bR}{tc:TT}(hc:PT X c tc)(ha:k8 X a t)(hb:k8 X b u):PS X (.If c a b pos) (JK tc t u):=by
 intro ag s σ H D I h;refine wpAny_If (dM (hc ag s σ H _ I h) λd s1 cS=>?_);obtain⟨H1,I1,q1⟩:=cS;cases d with
 |true=>exact ha ag s1 σ H1 D I1 q1
 |false=>exact hb ag s1 σ H1 D I1 q1
end
abbrev TG:=V->St->Hp->(St->Hp->Prop)->Prop
abbrev z7:=List V->St->Hp->(St->Hp->Prop)->Prop
def PG(X:Cx)(z8:bt)(t:TG):Prop:=
 ∀ (ag:List (ai×Obj)) (s:aj) (σ:St) (H:Hp) (v:V) (u:af) (Q:St->Hp->Prop),Inv X ag σ H s->RelV v u->t v σ H Q ->
   wpAny (aJ X.prog X.w) X.A (lu z8 X.env u) (λ_ s'=>∃σ' H',Inv X ag σ' H' s'/\Q σ' H') X.xe s
def Gp(X:Cx)(ts:List bt)(t:z7):Prop:=
 ∀ (ag:List (ai×Obj)) (s:aj) (σ:St) (H:Hp) (vs:List V) (us:List af) (Q:St->Hp->Prop),Inv X ag σ H s->cf vs us->t vs σ H Q ->
   wpAny (aJ X.prog X.w) X.A (assignInOrder ((n9 ts X.env).map (·.2)) us) (λ_ s'=>∃σ' H',Inv X ag σ' H' s'/\Q σ' H') X.xe s
section
variable {X:Cx}{pos:Pos}
def wB(i:Nat):TG:=λv σ H Q=>Q (σ.set i (aa v)) H
theorem kj{i:Nat}{x:Str}(hN:X.N.Nodup)(hi:X.N[i]?=aa x)(hx:Loc X.env.scope x)(hf:X.fn x=true\/X.env.scope.names.lookup x=aa .local:=by first | exact .inl rfl | exact .inr rfl | assumption)(hkn:∀u:V,X.kn[i]?≠aa (aa u):=by first | assumption | exact λu h=>nomatch (show(ae:Option (Option V))=aa (aa u) from h) | exact λu h=>nomatch (bj (show aa (ae:Option V)=aa (aa u) from h))):PG X (.Name x pos) (wB i):=by
 intro ag s σ H v u Q I r h;exact oS (Gj I hN hi hx r (λs' I'=>⟨_,H,I',h⟩) hf hkn)
def Dm:z7:=λvs σ H Q=>vs=[]/\Q σ H
def JL(t:TG)(u:z7):z7:=λvs σ H Q=>∃v r,vs=v::r/\t v σ H fun σ' H'=>u r σ' H' Q
theorem Pp:Gp X [] Dm:=by
 intro ag s σ H vs us Q I r h;obtain⟨e,h⟩:=h;subst e;cases r;exact assignInOrder_nil ⟨σ,H,I,h⟩
theorem Gq{e:bt}{es:List bt}{t:TG}{u:z7}(h1:PG X e t)(h2:Gp X es u)
  (hs:(n9 (e::es) X.env).map (·.2)=lu e X.env::(n9 es X.env).map (·.2):=by rfl):Gp X (e::es) (JL t u):=by
 intro ag s σ H vs us Q I r h;obtain⟨v,vr,e1,h⟩:=h;subst e1;cases r with
 | cons r rr=>
   rw[hs];refine assignInOrder_cons (dM (h1 ag s σ H _ _ _ I r h) λ_ s1 cS=>?_);obtain⟨σ1,H1,I1,q1⟩:=cS;exact h2 ag s1 σ1 H1 _ _ Q I1 rr q1
def Dn(K:W.Frag)(n:Nat)(t:z7):TG:=λv σ H Q=>∃a xs,v=.ref a/\tE K H a xs/\xs.length=n/\t xs σ H Q
theorem Pq{es:List bt}{k:Nat}{t:z7}{n:Nat}(hc:X.calm=true)(h:Gp X es t)
  (hn:(n9 es X.env).length=n:=by rfl) (fm:(n9 es X.env).findIdx? (·.1)=ae:=by rfl):PG X (.Tuple es k pos) (Dn X.K n t):=by
 intro ag s σ H v u Q I r hw;obtain⟨a,xs,e1,hq,hl,hw⟩:=hw;subst e1;cases r;obtain⟨cC,rv,ht,hz⟩:=I.tuple hq;refine assign_Tuple_tuple (I.ok.hd hc) ht (by simp[hn,<- hl,rv.length]) fm λh' hx=>?_;have I1:Inv X ag σ H { s with heap:=h' }:=I.kept (t':=s.toks) λb o e=>hx b o (aQ (aE e)) e;exact h ag _ σ H xs _ Q I1 (by simpa using rv) hw
def w6(te:TE)(g:TG):TS:=λD σ H=>te σ H λx H1=>g x σ H1 D.nx
theorem WU{i:Nat}{x:Str}{e:bt}{te:TE}{jo:Pos}(hN:X.N.Nodup)(hi:X.N[i]?=aa x)(hx:Loc X.env.scope x)(he:PE X e te)(hs:fu e (aa (.Name x jo)) pos.line X.env=pure false:=by rfl)(hf:X.fn x=true\/X.env.scope.names.lookup x=aa .local:=by first | exact .inl rfl | exact .inr rfl | assumption)(hkn:∀u:V,X.kn[i]?≠aa (aa u):=by first | assumption | exact λu h=>nomatch (show(ae:Option (Option V))=aa (aa u) from h) | exact λu h=>nomatch (bj (show aa (ae:Option V)=aa (aa u) from h))) :
  PS X (.Assign [.Name x jo] e pos) (w6 te (wB i)):=by
 intro ag s σ H D I h;refine wpAny_Assign_Name (dM (he ag s σ H _ I h) λv s1 cS=>?_) hs;obtain⟨y,H1,I1,r1,q1⟩:=cS;exact Gj I1 hN hi hx r1 (λs2 I2=>⟨_,H1,I2,q1⟩) hf hkn
end
section
variable {X:Cx}{pos:Pos}
def WV(c:TT)(tb:TS):TS:=λD σ H=>∃W:Nat->St->Hp->Prop,(∃m,W m σ H)/\∀m σ H,W m σ H ->
 c σ H λb H1=>if b=true then∃N:St->Hp->Prop,(∀σ' H',N σ' H'->∃m',m'<m/\W m' σ' H')/\tb { D with nx:=N,ct:=N,bk:=D.nx } σ H1 else D.nx σ H1
theorem WW{c:bt}{body:List bR}{tc:TT}{tb:TS}(hp:mR (aJ X.prog X.w) X.A X.env X.xe)(hc:PT X c tc)(hb:k8 X body tb):PS X (.While c body [] pos) (WV tc tb):=by
 intro ag s σ H D I h;obtain⟨W,⟨m0,w0⟩,turn⟩:=h;refine wpAny_While (codeAny_whileLoop (λn s'=>∃σ' H',Inv X ag σ' H' s'/\W n σ' H') ?_ m0 ⟨σ,H,I,w0⟩);rintro n s1 ⟨σ1,H1,I1,w1⟩;refine fS hp (dM (hc ag s1 σ1 H1 _ I1 (turn n σ1 H1 w1)) λb s2 cS=>?_);obtain⟨H2,I2,q2⟩:=cS;cases b with
 | true=>
   obtain⟨N,hN,q2⟩:=q2;rw[if_pos rfl];refine fS hp (dM (hb ag s2 σ1 H2 _ I2 q2) λf s3 q3=>?_);cases f with
   | next=>
     obtain⟨σ3,H3,I3,n3⟩:=q3;obtain⟨m',hm,w3⟩:=hN σ3 H3 n3;exact⟨m',hm,σ3,H3,I3,w3⟩
   | cont=>
     obtain⟨σ3,H3,I3,n3⟩:=q3;obtain⟨m',hm,w3⟩:=hN σ3 H3 n3;exact⟨m',hm,σ3,H3,I3,w3⟩
   |brk=>exact q3
   |ret v=>exact q3
 | false=>
   rw[if_neg aU];exact i' ⟨σ1,H2,I2,q2⟩
end
structure It where
 go:Nat->Hp->Prop
 Gr:Nat->Hp->V->Hp->Prop
 stop:Nat->Hp->Prop
def k9(X:Cx)(ag:List (ai×Obj))(H:Hp)(b:ai):Prop:=
 H b=ae/\b≠X.env.locals/\b∉X.fs/\(b∈X.ex\/X.s₀.heap.objs.size<=b)/\(∀x c,X.env.cells.lookup x=aa c->c≠b)/\∀p∈X.pn++ag,p.1≠b
theorem Inv.uY{X:Cx}{ag:List (ai×Obj)}{σ:St}{H H':Hp}{s:aj}{b:ai}(I:Inv X ag σ H s)(hb:s.heap.objs.size<=b)(hn:H' b=ae):k9 X ag H' b:=by
 refine⟨hn,ka (ax I.lt hb),I.Jy hb,.inr (bz I.sz hb),λx c e z=>?_,λp hp z=>?_⟩
 .obtain⟨v,q⟩:=I.cell x c e
  exact absurd (ax q.lt (by rw[z];exact hb)) (cZ _)
 .exact absurd (ax (aE (I.pin p hp).1) (by rw[z];exact hb)) (cZ _)
structure pj(P:aR)(w:bu)(K:W.Frag)(tg:bt)(J:It)(fp:List ai)(it:ai)(tn:Nat->bN->Prop):Prop where
 mem:it∈fp
 obj:∀i h,tn i h->∀b∈fp,∃o,h.get? b=aa o/\∀v,o.data≠.cell v
 keep:∀i h h',tn i h->(∀b∈fp,∀o,h.get? b=aa o->h'.get? b=aa o)->tn i h'
 item:∀(X:Cx),X.prog=P->X.w=w->X.K=K->X.calm=true->∀(i:Nat) (ag:List (ai×Obj)) (s:aj) (σ:St) (H:Hp) (E:af->aj->Prop),Inv X ag σ H s->(∀b∈fp,k9 X ag H b)->tn i s.heap->J.go i H ->
  wpAny (aJ P w) X.A (pyNext (.ref it)) (λr s1=>∃u,r=aa u /\
   wpAny (aJ P w) X.A (lD tg (.ref it) u) (λ_ s2=>∃x H',Inv X ag σ H' s2/\RelV x u/\J.Gr i H x H'/\tn (i+1) s2.heap/\∀b∈fp,H' b=ae) E s1) E s
 done:∀(X:Cx),X.prog=P->X.w=w->X.K=K->X.calm=true->∀(i:Nat) (ag:List (ai×Obj)) (s:aj) (σ:St) (H:Hp) (E:af->aj->Prop),Inv X ag σ H s->(∀b∈fp,k9 X ag H b)->tn i s.heap->J.stop i H ->
  wpAny (aJ P w) X.A (pyNext (.ref it)) (λr s1=>r=ae/\Inv X ag σ H s1) E s
 self:∀(A:bW) (i:Nat) (s:aj) (Q:af->aj->Prop) (E:af->aj->Prop),tn i s.heap->Q (.ref it) s->wpAny (aJ P w) A (BB (.ref it)) Q E s
abbrev TI:=St->Hp->(It->Hp->Prop)->Prop
def Gs(X:Cx)(ag:List (ai×Obj))(σ:St)(tg:bt)(R:It->Hp->Prop)(BP:af)(s2:aj):Prop:=
 ∃(it:ai) (fp:List ai) (tn:Nat->bN->Prop) (J:It) (H':Hp),BP=.ref it/\Inv X ag σ H' s2/\pj X.prog X.w X.K tg J fp it tn/\tn 0 s2.heap/\(∀b∈fp,k9 X ag H' b)/\R J H'
def PI(X:Cx)(tg iter:bt)(wi:TI):Prop:=
 ∀ (ag:List (ai×Obj)) (s:aj) (σ:St) (H:Hp) (R:It->Hp->Prop),Inv X ag σ H s->wi σ H R ->
   wpAny (aJ X.prog X.w) X.A (eval iter X.env) (λv s1=>wpAny (aJ X.prog X.w) X.A (BB v) (Gs X ag σ tg R) X.xe s1) X.xe s
theorem JM{M:uK}{A:bW}{E:af->aj->Prop}{s:aj}{tg:bt}{it:ai}{u:af}{o:Obj}{n:String}{vs:Array af}{Q:Unit->aj->Prop}(ho:s.heap.get? it=aa o)(hc:o.cls=.type n)(hd:o.data=.fields vs)
  (hn:["enumerate", "zip", "dict_itemiterator", "dict_reverseitemiterator", "odict_iterator", "itertools.zip_longest", "itertools.pairwise"].contains n=false) (hQ:Q () s):wpAny M A (lD tg (.ref it) u) Q E s:=by
 unfold lD;cases tg<;>first
  |exact bc hQ
  |(cases u<;>first
   |exact bc hQ
   | (refine ay (wpAny_load ho ?_)
      rw[hc,hd];show wpAny M A (if(["enumerate", "zip", "dict_itemiterator", "dict_reverseitemiterator", "odict_iterator", "itertools.zip_longest", "itertools.pairwise"].contains n&&vs[0]?==aa (rawInt _))=true then _ else _) Q E s;rw[if_neg (by intro h;rw[hn,Bool.false_and] at h;cases h)];exact bc hQ))
noncomputable def Pr(K:W.Frag)(a:ai):It:=
 ⟨λi H=>∃xs x,lJ K H a xs/\xs[i]?=aa x,λi H x H'=>H'=H/\∀xs,lJ K H a xs->xs[i]?=aa x,λi H=>∃xs,lJ K H a xs/\xs.length<=i⟩
noncomputable def Gu(lo:Int)(n:Nat):It:=⟨λi _=>i<n,λi H x H'=>H'=H/\x=.int (lo+i),λi _=>n<=i⟩
theorem WX{P:aR}{w:bu}{K:W.Frag}{tg:bt}(a it:ai):pj P w K tg (Pr K a) [it] it (λi h=>h.IsListIter it a i) where
 mem:=by simp
 obj:=λi h st b hb=>by
  have e:b=it:=by simpa using hb
  subst e;obtain⟨o,e,c,d⟩:=st;exact⟨o,e,λv z=>by rw[d] at z;cases z⟩
 keep:=λi h h' st k=>st.at λo e=>k it (by simp) o e
 item:=by
  intro X hP hw hK hc i ag s σ H E I hf st hg;subst hP hw hK;obtain⟨xs,x,hq,hx⟩:=hg;obtain⟨cC,rv,p,hz⟩:=I.list hq;obtain⟨u,hu,ru⟩:=rv.get hx;obtain⟨f0,f1,f2,f3,f4,f5⟩:=hf it (by simp);refine wpAny_pyNext_list_item st p.isList (x:=u) (by simpa using hu) λh' w8 sb=>?_;have I1:Inv X ag σ H { s with heap:=h' }:=I.turned (t':=s.toks) (λb o hb e=>(sb.2 b hb).trans e) f0 f1 f3 f4 f5;obtain⟨o,e,c,d⟩:=id w8;exact⟨u,rfl,JM (s:={ s with heap:=h' }) e c d (by decide) ⟨x,H,I1,ru,⟨rfl,λys hy=>by rw[I.qz hy hq];exact hx⟩,w8,λb hb=>(hf b hb).1⟩⟩
 done:=by
  intro X hP hw hK hc i ag s σ H E I hf st hg;subst hP hw hK;obtain⟨xs,hq,hx⟩:=hg;obtain⟨cC,rv,p,hz⟩:=I.list hq;obtain⟨f0,f1,f2,f3,f4,f5⟩:=hf it (by simp);have hl:=rv.length;exact wpAny_pyNext_list_end (I.ok.hd hc) st p.isList (by simp;omega) λh' eb=>⟨rfl,I.turned (t':=s.toks) (λb o hb e=>eb b o hb e) f0 f1 f3 f4 f5⟩
 self:=λ_ _ _ _ _ st h=>wpAny_pyIter_listiter st h
theorem WY{P:aR}{w:bu}{K:aM}{tg:bt}(it:ai)(lo:Int)(n:Nat):pj P w K tg (Gu lo n) [it] it (λi h=>IsRangeIter h it (lo+(i:Nat)*1) ((n:Int)-(i:Nat)) 1) where
 mem:=by simp
 obj:=λi h st b hb=>by
  have e:b=it:=by simpa using hb
  subst e;exact⟨_,st,λv z=>by
   have z':sY _=Data.cell v:=z;cases z'⟩
 keep:=λi h h' st k=>k it (by simp) _ st
 item:=by
  intro X hP hw hK hc i ag s σ H E I hf st hg;subst hP hw hK;obtain⟨f0,f1,f2,f3,f4,f5⟩:=hf it (by simp);have W:=Walks.range (prog:=X.prog) (w:=X.w) (I.ok.hd hc) it lo 1 n;refine W.item i s _ _ hg st λv h' tk hv w8 kk=>?_;obtain⟨t,rfl⟩:=hv;have I1:Inv X ag σ H { s with heap:=h',toks:=tk }:=I.turned (λb o hb e=>kk b o (by simpa using hb) e) f0 f1 f3 f4 f5;refine⟨_,rfl,JM (s:={ s with heap:=h',toks:=tk }) (n := "range_iterator") w8 rfl rfl (by decide) ⟨.int (lo+i),H,I1,⟨t,?_⟩,⟨rfl,rfl⟩,w8,λb hb=>(hf b hb).1⟩⟩;rw[Int.mul_one]
 done:=by
  intro X hP hw hK hc i ag s σ H E I hf st hg;subst hP hw hK;obtain⟨f0,f1,f2,f3,f4,f5⟩:=hf it (by simp);exact wpAny_pyNext_range_end (I.ok.hd hc) st (by have:n<=i:=hg;omega) λh' eb=>⟨rfl,I.turned (t':=s.toks) (λb o hb e=>eb b o hb e) f0 f1 f3 f4 f5⟩
 self:=λ_ _ _ _ _ st h=>wpAny_pyIter_rangeiter st h
section
variable {X:Cx}{tg:bt}
def Pt(K:W.Frag)(tl:TE):TI:=fun σ H R=>tl σ H λx H1=>∃a,x=.ref a/\(∃xs,lJ K H1 a xs)/\R (Pr K a) H1
theorem mW{l:bt}{tl:TE}(hl:PE X l tl):PI X tg l (Pt X.K tl):=by
 intro ag s σ H R I h;refine dM (hl ag s σ H _ I h) λv s1 cS=>?_;obtain⟨x,H1,I1,r1,q1⟩:=cS;obtain⟨a,e,⟨xs,hq⟩,q⟩:=q1;subst e;cases r1;obtain⟨cC,rv,p,hz⟩:=I1.list hq;refine CZ p.isList ?_;refine⟨s1.heap.objs.size,[s1.heap.objs.size],_,_,H1,rfl,I1.kept (t':=s1.toks) λb o e=>aw _ e,WX a _,⟨_,aZ _ rfl,rfl,rfl⟩,λb hb=>?_,q⟩;have e:b=s1.heap.objs.size:=by simpa using hb
 subst e;exact I1.uY (az _) (I1.cD.fresh (az _))
theorem WZ{ag:List (ai×Obj)}{σ:St}{H:Hp}{s:aj}{R:It->Hp->Prop}{E:af->aj->Prop}{lo hi:Int}{t u v:Tok}{tk:Nat}(I:Inv X ag σ H s)(h1:-(2 ^ 62)<=lo)(h2:lo<2 ^ 62)(h3:-(2 ^ 62)<=hi)(h4:hi<2 ^ 62)
  (q:R (Gu lo (hi-lo).toNat) H):wpAny (aJ X.prog X.w) X.A (BB (.ref s.heap.objs.size)) (Gs X ag σ tg R) E { s with heap:=s.heap.push { cls:=.type "range",data:=.fields #[.int lo t,.int hi u,.int 1 v] },toks:=tk }:=by
 refine wpAny_pyIter_range (IsRange.new ..) (small_one h1 h2 h3 h4) ?_;have I1:Inv X ag σ H { s with heap:=s.heap.push { cls:=.type "range",data:=.fields #[.int lo t,.int hi u,.int 1 v] },toks:=tk }:=I.kept λb o e=>aw _ e;refine⟨(s.heap.push { cls:=.type "range",data:=.fields #[.int lo t,.int hi u,.int 1 v] }).objs.size,[(s.heap.push { cls:=.type "range",data:=.fields #[.int lo t,.int hi u,.int 1 v] }).objs.size],_,_,H,rfl,
  I1.kept (t':=tk) λb o e=>aw _ e,WY _ lo (hi-lo).toNat,?_,λb hb=>?_,q⟩
 .have e1:lo+((0:Nat):Int)*1=lo:=by simp
  have e2:(((hi-lo).toNat:Nat):Int)-((0:Nat):Int)=FU lo hi 1:=by rw[rangeSize_one];split<;>omega
  show IsRangeIter _ _ (lo+((0:Nat):Int)*1) ((((hi-lo).toNat:Nat):Int)-((0:Nat):Int)) 1;rw[e1,e2];exact aZ _ rfl
 .have e:b=(s.heap.push { cls:=.type "range",data:=.fields #[.int lo t,.int hi u,.int 1 v] }).objs.size:=by simpa using hb
  subst e;exact I1.uY (az _) (I1.cD.fresh (az _))
def Pu(ta:TA):TI:=fun σ H R=>ta σ H λvs H1=>∃j:Int,vs=[.int j] /\ -(2 ^ 62)<=j/\j<2 ^ 62/\R (Gu 0 j.toNat) H1
theorem JN{a:bt}{ta:TA}{p pos:Pos}(hg:Gl X "range")(hm:X.mg "range" = ae)(ha:PA X [a] ta)(hs:av [a] X.env=[(false,eval a X.env)]:=by rfl):PI X tg (.Call (.Name "range" p) [a] [] pos) (Pu ta):=by
 intro ag s σ H R I h;refine Call_ (z1 I hg hm boot_range (gY (dM (ha pos ag s σ H _ I h) λus s1 cS=>?_) hs rfl));obtain⟨vs,H1,I1,r1,q1⟩:=cS;obtain⟨j,e,q1,q2,q⟩:=q1;subst e;cases r1 with
 | cons r rr=>
   cases rr;obtain⟨t,rfl⟩:=r;exact call_range_1 (WZ I1 (by omega) (by omega) q1 q2 (by simpa using q))
def Dp(wi:TI)(g:TG)(tb:TS):TS:=λD σ H=>wi σ H λJ H1=>∃W:Nat->Nat->St->Hp->Prop,(∃m,W 0 m σ H1)/\∀i m σ H,W i m σ H ->
 (J.stop i H/\D.nx σ H)\/(J.go i H/\∃N:St->Hp->Prop,(∀σ' H',N σ' H'->∃m',m'<m/\W (i+1) m' σ' H')/\∀x H',J.Gr i H x H'->g x σ H' fun σ2 H2=>tb { D with nx:=N,ct:=N,bk:=D.nx } σ2 H2)
noncomputable def Gv(fp:List ai)(h:bN):List (ai×Obj):=fp.filterMap λb=>(h.get? b).map λo=>(b,o)
theorem Gw{fp:List ai}{h:bN}{b:ai}{o:Obj}(hb:b∈fp)(e:h.get? b=aa o):(b,o)∈Gv fp h:=i5.mpr ⟨b,hb,by rw[e];rfl⟩
theorem W7{fp:List ai}{h:bN}{p:ai×Obj}(hp:p∈Gv fp h):p.1∈fp/\h.get? p.1=aa p.2:=by
 obtain⟨b,hb,e⟩:=i5.mp hp;cases q:h.get? b with
 |none=>rw[q] at e;cases e
 | some o=>
   rw[q] at e;have e':(b,o)=p:=bj e;subst e';exact⟨hb,q⟩
theorem Inv.pinned{ag:List (ai×Obj)}{σ:St}{H:Hp}{s:aj}{fp:List ai}(I:Inv X ag σ H s)(hf:∀b∈fp,k9 X ag H b)(ho:∀b∈fp,∃o,s.heap.get? b=aa o/\∀v,o.data≠.cell v):Inv X (ag++Gv fp s.heap) σ H s:=
 I.nj λp hp=>(cH.mp hp).elim (λz=>I.pin p (bB _ z)) λz=>by
  obtain⟨hb,e⟩:=W7 z;obtain⟨f0,f1,f2,_⟩:=hf p.1 hb;obtain⟨o,e',d⟩:=ho p.1 hb;rw[e] at e';cases e';exact⟨e,f0,f1,f2,d⟩
theorem Inv.nI{ag pl:List (ai×Obj)}{σ:St}{H:Hp}{s:aj}(I:Inv X (ag++pl) σ H s):Inv X ag σ H s:=I.nj λp hp=>I.pin p (bB _ (ck _ hp))
theorem W8{iter:bt}{body:List bR}{wi:TI}{g:TG}{tb:TS}{pos:Pos}(hp:mR (aJ X.prog X.w) X.A X.env X.xe)(hc:X.calm=true)(hi:PI X tg iter wi)(hg:PG X tg g)(hb:k8 X body tb)
  (hs:∀x,cG iter X.env x=pure x:=by intro _;rfl):PS X (.For tg iter body [] pos) (Dp wi g tb):=by
 intro ag s σ H D I h;refine wpAny_For (dM (hi ag s σ H _ I h) λv s1 h1=>dM h1 λBP s2 h2=>?_) hs;obtain⟨it,fp,tn,J,H2,e,I2,T,ur,f2,W,⟨m0,w0⟩,turn⟩:=h2;subst e;have z9:∀{H':Hp},(∀b∈fp,H' b=ae)->∀b∈fp,k9 X ag H' b:=λhn b hb=>⟨hn b hb,(f2 b hb).2⟩;refine codeAny_forLoop_any (λn s'=>∃i σ' H',Inv X ag σ' H' s'/\tn i s'.heap/\(∀b∈fp,H' b=ae)/\W i n σ' H') ?_ m0 ⟨0,σ,H2,I2,ur,λb hb=>(f2 b hb).1,w0⟩;rintro n s3 ⟨i,σ3,H3,I3,BQ,Gx,w3⟩;rcases turn i n σ3 H3 w3 with⟨stop,qn⟩ | ⟨go,N,hN,step⟩
 .refine fS hp (dM (T.done X rfl rfl rfl hc i ag s3 σ3 H3 X.xe I3 (z9 Gx) BQ stop) λr s4 cS=>?_)
  obtain⟨hr,I4⟩:=cS;subst hr;exact i' ⟨σ3,H3,I4,qn⟩
 .refine fS hp (dM (T.item X rfl rfl rfl hc i ag s3 σ3 H3 X.xe I3 (z9 Gx) BQ go) λr s4 cS=>?_)
  obtain⟨u,hr,h4⟩:=cS;subst hr;refine fS hp (dM h4 λ_ s5 cS=>?_);obtain⟨x,H5,I5,r5,y5,JO,W9⟩:=cS;have W_:=I5.pinned (z9 W9) (T.obj _ _ JO);refine fS hp (dM (hg _ s5 σ3 H5 x u _ W_ r5 (step x H5 y5)) λ_ s6 cS=>?_);obtain⟨σ6,H6,I6,q6⟩:=cS;refine fS hp (dM (hb _ s6 σ6 H6 _ I6 q6) λf s7 q7=>?_);have again:∀{σ7:St} {H7:Hp},Inv X (ag++Gv fp s5.heap) σ7 H7 s7->N σ7 H7->∃m,m<n/\∃i σ' H',Inv X ag σ' H' s7/\tn i s7.heap/\(∀b∈fp,H' b=ae)/\W i m σ' H':=λ{σ7 H7} I7 n7=>by
   obtain⟨m',hm,w7⟩:=hN σ7 H7 n7;refine⟨m',hm,i+1,σ7,H7,I7.nI,T.keep _ _ _ JO λb hb o e=>(I7.pin (b,o) (bB _ (bB _ (Gw hb e)))).1,λb hb=>?_,w7⟩;obtain⟨o,e,d⟩:=T.obj _ _ JO b hb;exact(I7.pin (b,o) (bB _ (bB _ (Gw hb e)))).2.1
  cases f with
  |next=>obtain⟨σ7,H7,I7,n7⟩:=q7;exact again I7 n7
  |cont=>obtain⟨σ7,H7,I7,n7⟩:=q7;exact again I7 n7
  |brk=>obtain⟨σ7,H7,I7,q7⟩:=q7;exact⟨σ7,H7,I7.nI,q7⟩
  |ret v=>obtain⟨x7,σ7,H7,I7,r7,q7⟩:=q7;exact⟨x7,σ7,H7,I7.nI,r7,q7⟩
end
abbrev R2:=V->V->Hp->VK->Prop
def kK(X:Cx)(f:af->af->Sem af)(r:R2):Prop:=
 ∀ (ag:List (ai×Obj)) (s:aj) (σ:St) (H:Hp) (x y:V) (v u:af) (Q:VK),Inv X ag σ H s->RelV x v->RelV y u->r x y H Q ->
   wpAny (aJ X.prog X.w) X.A (f v u) (EP X ag σ Q) X.xe s
def JP(X:Cx)(f:af->Sem af)(r:V->Hp->VK->Prop):Prop:=
 ∀ (ag:List (ai×Obj)) (s:aj) (σ:St) (H:Hp) (x:V) (v:af) (Q:VK),Inv X ag σ H s->RelV x v->r x H Q ->
   wpAny (aJ X.prog X.w) X.A (f v) (EP X ag σ Q) X.xe s
def rC(X:Cx)(f:af)(r:List V->Hp->VK->Prop):Prop:=
 ∀ (ag:List (ai×Obj)) (s:aj) (σ:St) (H:Hp) (xs:List V) (us:List af) (Q:VK),Inv X ag σ H s->cf xs us->r xs H Q ->
   wpAny (aJ X.prog X.w) X.A (call f us) (EP X ag σ Q) X.xe s
def JQ(X:Cx)(r:V->Hp->(Bool->Hp->Prop)->Prop):Prop:=
 ∀ (ag:List (ai×Obj)) (s:aj) (σ:St) (H:Hp) (x:V) (v:af) (Q:Bool->Hp->Prop),Inv X ag σ H s->RelV x v->r x H Q ->
   wpAny (aJ X.prog X.w) X.A (truthy v) (TP X ag σ Q) X.xe s
def Dq(r:R2)(ta tb:TE):TE:=fun σ H Q=>ta σ H λx H1=>tb σ H1 λy H2=>r x y H2 Q
def Xa(r:V->Hp->VK->Prop)(ta:TE):TE:=fun σ H Q=>ta σ H λx H1=>r x H1 Q
def rI(C:Int->Int->Prop)(g:Int->Int->V):R2:=λx y H Q=>∃i j,x=.int i/\y=.int j/\C i j/\Q (g i j) H
def w9(g:Int->Int->V):R2:=λx y H Q=>∃i j,x=.int i/\y=.int j/\Q (g i j) H
def rU(g:Int->V):V->Hp->VK->Prop:=λx H Q=>∃i,x=.int i/\Q (g i) H
section
variable {X:Cx}{a b c:bt}{ta tb tc:TE}{pos:Pos}
theorem z_(ha:PE X a ta)(hb:PE X b tb){ag:List (ai×Obj)}{s:aj}{σ:St}{H:Hp}{R:V->V->Hp->Prop}(I:Inv X ag σ H s)
  (h:ta σ H λx H1=>tb σ H1 λy H2=>R x y H2) {Q:af->aj->Prop} {f:af->af->Sem af}
  (hf:∀v u s2 x y H2,Inv X ag σ H2 s2->RelV x v->RelV y u->R x y H2->wpAny (aJ X.prog X.w) X.A (f v u) Q X.xe s2) :
  wpAny (aJ X.prog X.w) X.A (eval a X.env) (λv s₁=>wpAny (aJ X.prog X.w) X.A (eval b X.env) (λu s₂=>wpAny (aJ X.prog X.w) X.A (f v u) Q X.xe s₂) X.xe s₁) X.xe s:=by
 refine dM (ha ag s σ H _ I h) λv s1 cS=>?_;obtain⟨x,H1,I1,r1,q1⟩:=cS;refine dM (hb ag s1 σ H1 _ I1 q1) λu s2 cS=>?_;obtain⟨y,H2,I2,r2,q2⟩:=cS;exact hf v u s2 x y H2 I2 r1 r2 q2
theorem BR{op:Operator}{r:R2}(ho:kK X (jx op) r)(ha:PE X a ta)(hb:PE X b tb):PE X (.BinOp a op b pos) (Dq r ta tb):=by
 intro ag s σ H Q I h;exact wpAny_BinOp (z_ ha hb I h λv u s2 x y H2 I2 rx ry q=>ho ag s2 σ H2 x y v u Q I2 rx ry q)
theorem Xb{op:UnaryOp}{r:V->Hp->VK->Prop}(ho:JP X (unaryOp op) r)(ha:PE X a ta):PE X (.UnaryOp op a pos) (Xa r ta):=by
 intro ag s σ H Q I h;exact UnaryOp_ (dM (ha ag s σ H _ I h) λv s1 ⟨x,H1,I1,r1,q1⟩=>ho ag s1 σ H1 x v Q I1 r1 q1)
theorem Gy{f:af->af->Sem af}{C:Int->Int->Prop}{g:Int->Int->Int}
  (rule:∀(i j:Int) (t u:Tok) (s:aj) (Q:af->aj->Prop) (E:af->aj->Prop),C i j->Q (.int (g i j) s.toks) { s with toks:=s.toks+1 }->wpAny (aJ X.prog X.w) X.A (f (.int i t) (.int j u)) Q E s) :
  kK X f (rI C λi j=>.int (g i j)):=by
 intro ag s σ H x y v u Q I rx ry h;obtain⟨i,j,rfl,rfl,hc,q⟩:=h;obtain⟨t,rfl⟩:=rx;obtain⟨t',rfl⟩:=ry;exact rule i j t t' s _ _ hc ⟨.int (g i j),H,I.tok _,⟨_,rfl⟩,q⟩
theorem Dr{f:af->af->Sem af}{g:Int->Int->Int}
  (rule:∀(i j:Int) (t u:Tok) (s:aj) (Q:af->aj->Prop) (E:af->aj->Prop),Q (.int (g i j) s.toks) { s with toks:=s.toks+1 }->wpAny (aJ X.prog X.w) X.A (f (.int i t) (.int j u)) Q E s) :
  kK X f (w9 λi j=>.int (g i j)):=by
 intro ag s σ H x y v u Q I rx ry h;obtain⟨i,j,rfl,rfl,q⟩:=h;obtain⟨t,rfl⟩:=rx;obtain⟨t',rfl⟩:=ry;exact rule i j t t' s _ _ ⟨.int (g i j),H,I.tok _,⟨_,rfl⟩,q⟩
theorem Aa{f:af->af->Sem af}{g:Int->Int->Bool}
  (rule:∀(i j:Int) (t u:Tok) (s:aj) (Q:af->aj->Prop) (E:af->aj->Prop),Q (.bool (g i j)) s->wpAny (aJ X.prog X.w) X.A (f (.int i t) (.int j u)) Q E s) :
  kK X f (w9 λi j=>.bl (g i j)):=by
 intro ag s σ H x y v u Q I rx ry h;obtain⟨i,j,rfl,rfl,q⟩:=h;obtain⟨t,rfl⟩:=rx;obtain⟨t',rfl⟩:=ry;exact rule i j t t' s _ _ ⟨.bl (g i j),H,I,rfl,q⟩
def JR(i j:Int):Prop:=0<j/\j<1073741824
def JS(i j:Int):Prop:=0<=j/\j<=1000000/\i.natAbs<2 ^ 64
def Ab(i j:Int):Prop:=(-(2 ^ 64)<i/\i<2 ^ 64)\/(-(2 ^ 64)<j/\j<2 ^ 64)
theorem Ab.ok{i j:Int}(h:Ab i j):IntMulOk i j:=by
 rcases h with⟨h1,h2⟩ | ⟨h1,h2⟩
 .exact .of_left (intBits_le_64 h1 h2)
 .exact .of_right (intBits_le_64 h1 h2)
theorem Xd:kK X (jx .Add) (w9 λi j=>.int (i+j)):=Dr λ_ _ _ _ _ _ _ q=>add_int q
theorem Xe:kK X (jx .Sub) (w9 λi j=>.int (i-j)):=Dr λ_ _ _ _ _ _ _ q=>sub_int q
theorem Xf:kK X (jx .Mult) (rI Ab λi j=>.int (i*j)):=Gy λ_ _ _ _ _ _ _ hc q=>mul_int q hc.ok
theorem Xg:kK X (jx .FloorDiv) (rI JR λi j=>.int (i / j)):=Gy λi j _ _ _ _ _ hc q=>by
 have h1:(0:Int)<j:=hc.1;have h2:j<1073741824:=hc.2;exact floordiv_int (by omega) (by rw[Int.fdiv_eq_ediv_of_nonneg i (by omega)];exact q) (.inl (PyProof.noPylong_small (by omega)))
theorem Xh:kK X (jx .Mod) (rI (λ_ j=>0<j) λi j=>.int (i%j)):=Gy λi j _ _ _ _ _ hc q=>by
 have h1:(0:Int)<j:=hc;exact mod_int' (by omega) (by rw[Int.fmod_eq_emod_of_nonneg i (by omega)];exact q)
theorem Xi:kK X (jx .Pow) (rI JS λi j=>.int (i ^ j.toNat)):=Gy λ_ _ _ _ _ _ _ hc q=>pow_int_small hc.1 hc.2.1 hc.2.2 q
theorem Gz{f:af->Sem af}{g:Int->Int}
  (rule:∀(i:Int) (t:Tok) (s:aj) (Q:af->aj->Prop) (E:af->aj->Prop),Q (.int (g i) s.toks) { s with toks:=s.toks+1 }->wpAny (aJ X.prog X.w) X.A (f (.int i t)) Q E s) :
  JP X f (rU λi=>.int (g i)):=by
 intro ag s σ H x v Q I rx h;obtain⟨i,rfl,q⟩:=h;obtain⟨t,rfl⟩:=rx;exact rule i t s _ _ ⟨.int (g i),H,I.tok _,⟨_,rfl⟩,q⟩
theorem Xj:JP X (unaryOp .USub) (rU λi=>.int (-i)):=Gz λ_ _ _ _ _ q=>neg_int q
end
noncomputable def pk:V->V->Bool
 |.bH,.bH=>true | .bH,.int _=>true | .int _,.bH=>true | .bH,.bl _=>true | .bl _,.bH=>true | .bH,.str _=>true | .str _,.bH=>true
 |.int _,.int _=>true | .bl _,.bl _=>true | .str _,.str _=>true | .byt _,.byt _=>true
 |.int _,.str _=>true | .str _,.int _=>true | .bl _,.str _=>true | .str _,.bl _=>true
 |_,_=>false
def Pw:R2:=λx y H Q=>pk x y=true/\Q (.bl (decide (x=y))) H
def Px:R2:=λx y H Q=>pk x y=true/\Q (.bl (!decide (x=y))) H
theorem Py{i j:Int}:decide (V.int i=V.int j)=(i==j):=by
 rw[ej];simp
theorem Pz{i j:Bool}:decide (V.bl i=V.bl j)=(i==j):=by
 rw[ej];simp
theorem PB{i j:Str}:decide (V.str i=V.str j)=(i==j):=by
 rw[ej];simp
theorem PD{i j:Array UInt8}:decide (V.byt i=V.byt j)=(i.toList==j.toList):=by
 rw[ej];cases i;cases j;simp
section
variable {X:Cx}{a b c:bt}{ta tb tc:TE}{pos:Pos}
theorem kM{ag:List (ai×Obj)}{σ:St}{H:Hp}{s:aj}{Q:VK}{k k':Bool}(I:Inv X ag σ H s)(q:Q (.bl k) H)(e:k=k'):EP X ag σ Q (.bool k') s:=by
 subst e;exact⟨.bl k,H,I,rfl,q⟩
theorem PK:kK X (cX .Eq) Pw:=by
 intro ag s σ H x y v u Q I rx ry h;obtain⟨hs,q⟩:=h;cases x with
 | bH=>
   cases rx;cases y with
   |bH=>cases ry;exact I_ (kM I q (by simp))
   |bl j=>cases ry;exact Ja (kM I q (by simp))
   |int j=>obtain⟨t',rfl⟩:=ry;exact Jb (kM I q (by simp))
   |str j=>obtain⟨t',rfl⟩:=ry;exact Jc (kM I q (by simp))
   |_=>exact absurd (show false=true from hs) aU
 | bl i=>
   cases rx;cases y with
   |bH=>cases ry;exact Jd (kM I q (by simp))
   |bl j=>cases ry;exact eq_bool (kM I q Pz)
   |str j=>obtain⟨t',rfl⟩:=ry;exact FW (kM I q (by simp))
   |_=>exact absurd (show false=true from hs) aU
 | int i=>
   obtain⟨t,rfl⟩:=rx;cases y with
   |bH=>cases ry;exact Je (kM I q (by simp))
   |int j=>obtain⟨t',rfl⟩:=ry;exact eq_int (kM I q Py)
   |str j=>obtain⟨t',rfl⟩:=ry;exact FX (kM I q (by simp))
   |_=>exact absurd (show false=true from hs) aU
 | str i=>
   obtain⟨t,rfl⟩:=rx;cases y with
   |bH=>cases ry;exact Jf (kM I q (by simp))
   |bl j=>cases ry;exact FY (kM I q (by simp))
   |int j=>obtain⟨t',rfl⟩:=ry;exact FZ (kM I q (by simp))
   |str j=>obtain⟨t',rfl⟩:=ry;exact eq_str (kM I q PB)
   |_=>exact absurd (show false=true from hs) aU
 | byt i=>
   obtain⟨t,rfl⟩:=rx;cases y with
   |byt j=>obtain⟨t',rfl⟩:=ry;exact W.eq_bytes (kM I q PD)
   |_=>exact absurd (show false=true from hs) aU
 |_=>cases y<;>exact absurd (show false=true from hs) aU
theorem PM:kK X (cX .NotEq) Px:=by
 intro ag s σ H x y v u Q I rx ry h;obtain⟨hs,q⟩:=h;cases x with
 | bH=>
   cases rx;cases y with
   |bH=>cases ry;exact Jg (kM I q (by simp))
   |bl j=>cases ry;exact Jh (kM I q (by simp))
   |int j=>obtain⟨t',rfl⟩:=ry;exact Ji (kM I q (by simp))
   |str j=>obtain⟨t',rfl⟩:=ry;exact Jj (kM I q (by simp))
   |_=>exact absurd (show false=true from hs) aU
 | bl i=>
   cases rx;cases y with
   |bH=>cases ry;exact Jk (kM I q (by simp))
   |bl j=>cases ry;exact ne_bool (kM I q (congrArg not Pz))
   |str j=>obtain⟨t',rfl⟩:=ry;exact F0 (kM I q (by simp))
   |_=>exact absurd (show false=true from hs) aU
 | int i=>
   obtain⟨t,rfl⟩:=rx;cases y with
   |bH=>cases ry;exact Jl (kM I q (by simp))
   |int j=>obtain⟨t',rfl⟩:=ry;exact ne_int (kM I q (congrArg not Py))
   |str j=>obtain⟨t',rfl⟩:=ry;exact F1 (kM I q (by simp))
   |_=>exact absurd (show false=true from hs) aU
 | str i=>
   obtain⟨t,rfl⟩:=rx;cases y with
   |bH=>cases ry;exact Jm (kM I q (by simp))
   |bl j=>cases ry;exact F2 (kM I q (by simp))
   |int j=>obtain⟨t',rfl⟩:=ry;exact F3 (kM I q (by simp))
   |str j=>obtain⟨t',rfl⟩:=ry;exact ne_str (kM I q (congrArg not PB))
   |_=>exact absurd (show false=true from hs) aU
 | byt i=>
   obtain⟨t,rfl⟩:=rx;cases y with
   |byt j=>obtain⟨t',rfl⟩:=ry;exact W.ne_bytes (kM I q (congrArg not PD))
   |_=>exact absurd (show false=true from hs) aU
 |_=>cases y<;>exact absurd (show false=true from hs) aU
theorem Xk:kK X (cX .Lt) (w9 λi j=>.bl (decide (i<j))):=Aa λ_ _ _ _ _ _ _ q=>lt_int q
theorem Xl:kK X (cX .Gt) (w9 λi j=>.bl (decide (j<i))):=Aa λ_ _ _ _ _ _ _ q=>gt_int q
theorem Xm:kK X (cX .GtE) (w9 λi j=>.bl (decide (j<=i))):=Aa λ_ _ _ _ _ _ _ q=>ge_int q
theorem Xn:kK X (cX .Is) (λx y H Q=>y=.bH/\Q (.bl (decide (x=.bH))) H):=by
 intro ag s σ H x y v u Q I rx ry h;obtain⟨rfl,q⟩:=h;cases ry;refine is_none_gen (kM I q ?_);cases x<;>first
  |(cases rx;rfl)
  |(obtain⟨t,rfl⟩:=rx;rfl)
theorem Xo:kK X (cX .IsNot) (λx y H Q=>y=.bH/\Q (.bl (!decide (x=.bH))) H):=by
 intro ag s σ H x y v u Q I rx ry h;obtain⟨rfl,q⟩:=h;cases ry;refine isnot_none_gen (kM I q ?_);cases x<;>first
  |(cases rx;rfl)
  |(obtain⟨t,rfl⟩:=rx;rfl)
theorem kK.or{f:af->af->Sem af}{r r':R2}(h:kK X f r)(h':kK X f r'):kK X f (λx y H Q=>r x y H Q\/r' x y H Q):=by
 intro ag s σ H x y v u Q I rx ry q;rcases q with q | q
 .exact h ag s σ H x y v u Q I rx ry q
 .exact h' ag s σ H x y v u Q I rx ry q
theorem w_(b:bt){op:uL}(h:op≠.In:=by decide)(h2:op≠.NotIn:=by decide):cU op b=false:=by
 have e1:(op==CmpOp.In)=false:=by cases op<;>first | rfl | exact absurd rfl h
 have e2:(op==CY)=false:=by cases op<;>first | rfl | exact absurd rfl h2
 cases b<;>simp[cU,e1,e2]
theorem PN{op:uL}{r:R2}(ho:kK X (cX op) r)(ha:PE X a ta)(hb:PE X b tb)(hm:cU op b=false):PE X (.Compare a [op] [b] pos) (Dq r ta tb):=by
 intro ag s σ H Q I h;exact wpAny_Compare1 (z_ ha hb I h λv u s2 x y H2 I2 rx ry q=>ho ag s2 σ H2 x y v u Q I2 rx ry q) hm
def Xp(t:TE):TT:=fun σ H Q=>t σ H λx H'=>∃k,x=.bl k/\Q k H'
theorem Xq{op:uL}{r:R2}(ho:kK X (cX op) r)(ha:PE X a ta)(hb:PE X b tb)(hm:cU op b=false):PT X (.Compare a [op] [b] pos) (Xp (Dq r ta tb)):=by
 intro ag s σ H Q I h;refine wQ (dM (ha ag s σ H _ I h) λv s1 ⟨x,H1,I1,r1,q1⟩=>dM (hb ag s1 σ H1 _ I1 q1) λu s2 ⟨y,H2,I2,r2,q2⟩=>
  dM (ho ag s2 σ H2 x y v u _ I2 r1 r2 q2) λc s3 ⟨z,H3,I3,r3,k,e,q3⟩=>?_) hm
 subst e;cases r3;exact ij ⟨H3,I3,q3⟩
def uZ(K:W.Frag)(x:V)(H:Hp)(k:Bool):Prop:=
 match x with
 |.bH=>k=false
 |.bl b=>k=b
 |.int i=>k=(i != 0)
 |.str y=>y.length<=sizeLine/\k=((y.length:Int) != 0)
 |.byt y=>y.size<=sizeLine/\k=((y.size:Int) != 0)
 |.ref p=>(∃xs,lJ K H p xs/\k=!xs.isEmpty)\/(∃xs,tE K H p xs/\k=!xs.isEmpty)\/∃kvs,H p=aa (.dK kvs)/\k=!kvs.isEmpty
 |_=>False
theorem Xr{κ:Type}{kvs:List (κ×V)}{vs:List (κ×af)}(r:KV kvs vs):(!vs.isEmpty)=!kvs.isEmpty:=by
 cases r<;>rfl
theorem PQ{xs:List V}{cC:List af}(r:cf xs cC):(!cC.toArray.isEmpty)=!xs.isEmpty:=by
 cases r<;>simp
theorem Ds:(sizeLine:Nat)<2 ^ 63:=by rw[dQ];decide
theorem PR:JQ X (λx H Q=>∃k,uZ X.K x H k/\Q k H):=by
 intro ag s σ H x v Q I rx h;obtain⟨k,e,q⟩:=h;have hl:=Ds;have hs:sizeLine=16777216:=dQ;cases x with
 | bH=>
   cases rx;have e':k=false:=e;subst e';exact truthy_none ⟨H,I,q⟩
 | bl b=>
   cases rx;have e':k=b:=e;subst e';exact ij ⟨H,I,q⟩
 | int i=>
   obtain⟨t,rfl⟩:=rx;have e':k=(i != 0):=e;subst e';exact PySem.P.truthy_int ⟨H,I,q⟩
 | str y=>
   obtain⟨t,rfl⟩:=rx;obtain⟨hy,e'⟩:y.length<=sizeLine/\k=((y.length:Int) != 0):=e;subst e';exact PySem.P.truthy_str (by omega) ⟨H,I.tok _,q⟩
 | byt y=>
   obtain⟨t,rfl⟩:=rx;obtain⟨hy,e'⟩:y.size<=sizeLine/\k=((y.size:Int) != 0):=e;subst e';exact W.truthy_bytes (by omega) ⟨H,I.tok _,q⟩
 | ref p=>
   cases rx;have e':(∃xs,lJ X.K H p xs/\k=!xs.isEmpty)\/(∃xs,tE X.K H p xs/\k=!xs.isEmpty)\/∃kvs,H p=aa (.dK kvs)/\k=!kvs.isEmpty:=e;rcases e' with⟨xs,hx,e'⟩ | ⟨xs,hx,e'⟩ | ⟨kvs,hx,e'⟩
   .subst e'
    obtain⟨cC,r,pl,hz⟩:=I.list hx;have cK:=r.length;exact wpAny_truthy_list pl.isList (by simp only[aL];omega) ⟨H,I.tok _,by rw[PQ r];exact q⟩
   .subst e'
    obtain⟨cC,r,pl,hz⟩:=I.tuple hx;have cK:=r.length;exact truthy_tuple pl (by simp only[aL];omega) ⟨H,I.tok _,by rw[PQ r];exact q⟩
   .subst e'
    obtain⟨hz,hS,vs,r,m⟩:kvs.length<=sizeLine/\(p==eY)=false/\∃vs,KV kvs vs/\s.heap.DictOf (kJ X.prog X.w) p vs:=I.cD p _ hx;have cK:kvs.length=vs.length:=lr r;exact wpAny_truthy_dict hS m (by omega) ⟨H,I.tok _,by rw[Xr r];exact q⟩
 |_=>exact(show False from e).elim
theorem Xs(ha:PE X a ta)(he:∀nH,isTrue a X.env nH=(do let v <- nH;jQ a.pos;jR [v] (truthy v))) :
  PT X a (fun σ H Q=>ta σ H λx H'=>∃k,uZ X.K x H' k/\Q k H'):=by
 intro ag s σ H Q I h;exact isTrue_plain (dM (ha ag s σ H _ I h) λv s1 ⟨x,H1,I1,r1,q1⟩=>PR ag s1 σ H1 x v Q I1 r1 q1) (he _)
theorem Xt:kK X (jx .Add) (λx y H Q=>∃i j,x=.str i/\y=.str j/\i.length+j.length<=sizeLine/\Q (.str (i++j)) H):=by
 intro ag s σ H x y v u Q I rx ry h;obtain⟨i,j,rfl,rfl,hz,q⟩:=h;obtain⟨t,rfl⟩:=rx;obtain⟨t',rfl⟩:=ry;exact add_str (λt' tk=>⟨.str (i++j),H,I.tok _,⟨_,rfl⟩,q⟩) hz
theorem Ac{x:V}{us:List af}(r:cf [x] us):∃u,us=[u]/\RelV x u:=by
 cases r with
 |cons r1 r2=>cases r2;exact⟨_,rfl,r1⟩
theorem Xu{x y:V}{us:List af}(r:cf [x,y] us):∃u w',us=[u,w']/\RelV x u/\RelV y w':=by
 cases r with
 | cons r1 r2=>
   cases r2 with
   |cons r3 r4=>cases r4;exact⟨_,_,rfl,r1,r3⟩
def Dt(K:W.Frag)(x:V)(H:Hp)(n:Nat):Prop:=
 match x with
 |.str y=>y.length<=sizeLine/\n=y.length
 |.byt y=>y.size<=sizeLine/\n=y.size
 |.ref p=>(∃xs,lJ K H p xs/\n=xs.length)\/∃xs,tE K H p xs/\n=xs.length
 |_=>False
theorem Xv:rC X (.builtin "len") (λxs H Q=>∃x n,xs=[x]/\Dt X.K x H n/\Q (.int n) H):=by
 intro ag s σ H xs us Q I r h;obtain⟨x,n,rfl,e,q⟩:=h;obtain⟨u,rfl,rx⟩:=Ac r;have hl:=Ds;have hs:sizeLine=16777216:=dQ;cases x with
 | str y=>
   obtain⟨t,rfl⟩:=rx;obtain⟨hy,e'⟩:y.length<=sizeLine/\n=y.length:=e;subst e';exact len_str (by omega) ⟨.int _,H,I.tok _,⟨_,rfl⟩,q⟩
 | byt y=>
   obtain⟨t,rfl⟩:=rx;obtain⟨hy,e'⟩:y.size<=sizeLine/\n=y.size:=e;subst e';exact W.len_bytes (by omega) ⟨.int _,H,I.tok _,⟨_,rfl⟩,q⟩
 | ref p=>
   cases rx;have e':(∃xs,lJ X.K H p xs/\n=xs.length)\/∃xs,tE X.K H p xs/\n=xs.length:=e;rcases e' with⟨xs,hx,e'⟩ | ⟨xs,hx,e'⟩
   .subst e'
    obtain⟨cC,r',pl,hz⟩:=I.list hx;have cK:=r'.length;exact sZ pl.isList (by simp only[aL];omega) ⟨.int xs.length,H,I.tok _,⟨_,by simp only[aL];rw[cK]⟩,q⟩
   .subst e'
    obtain⟨cC,r',pl,hz⟩:=I.tuple hx;have cK:=r'.length;exact len_tuple pl (by simp only[aL];omega) ⟨.int xs.length,H,I.tok _,⟨_,by simp only[aL];rw[cK]⟩,q⟩
 |_=>exact(show False from e).elim
end
structure rD(h:bN)(x dx C:ai)(mA:Str->Option af):Prop where
 obj:h.get? x=aa (W.instObj C dx)
 ns:h.Ns1 dx mA
 ne:dx≠x
theorem JT{h:bN}{dx:ai}{mA:Str->Option af}(n:h.Ns1 dx mA):∃od,h.get? dx=aa od/\∀name,W.lookIn name od=aa (mA name):=by
 obtain⟨o,es,ep,ho,hd,hk,_,hm⟩:=n;refine⟨o,ho,λname=>?_⟩;have e:=hm name;unfold sr v8 at e;rw[<- uj] at e;unfold W.lookIn;rw[hd];dsimp only
 split
 .rename_i y q
  rw[q] at e;exact congrArg aa e
 .rename_i q
  rw[q] at e;have a:es.toList.any (·.refKey)=false:=by
   rw[List.any_eq_false];intro y hy;obtain⟨z,t,u0⟩:=hk y (Array.mem_toList_iff.mp hy);simp[su,u0]
  have a':¬es.toList.any (·.refKey)=true:=by rw[a];exact aU
  rw[if_neg a'];exact congrArg aa e
theorem rD.look{h:bN}{x dx C:ai}{mA:Str->Option af}(I:rD h x dx C mA):∃od,W.InstAt h x (W.instObj C dx) C (aa od)/\∀name,W.lookIn name od=aa (mA name):=
 let ⟨od,ho,hl⟩:=JT I.ns
 ⟨od,⟨I.obj,rfl,rfl,ho⟩,hl⟩
section
variable {prog:aR}{w:bu}{A:bW}{E:af->aj->Prop}{s:aj}{K:W.Frag}{x dx C f:ai}{mA:Str->Option af}{name:Str}{v:af}
theorem Xw{rE:Bool}{Q:af->aj->Prop}(X:K.In s.heap)(I:rD s.heap x dx C mA)(hg:W.plainGet K C name=true)(hh:W.hasDictIn K C=true)
  (ha:W.findIn K (.ref C) name=aa ae) (hv:mA name=aa v) (Xx:W.handedIn v=true) (h:Q v { s with toks:=s.toks+1 }) :
  wpAny (aJ prog w) A (v9 (.ref x) name rE) Q E s:=by
 obtain⟨od,J,hl⟩:=I.look;exact W.get_value X J (W.plainGet_of hg).1 (W.findObj_own hh ha rfl (by rw[hl,hv])) Xx h
theorem Xy{pl:Sem Bool}{Q:af×List af->aj->Prop}(X:K.In s.heap)(I:rD s.heap x dx C mA)(hg:W.plainGet K C name=true)
  (hf:W.findIn K (.ref C) name=aa (aa (.ref f))) (ht:W.isFn K (.ref f)=true) (hv:mA name=ae) (h:Q (.ref f,[.ref x]) s) :
  wpAny (aJ prog w) A (gz (.ref x) name pl) Q E s:=by
 obtain⟨od,J,hl⟩:=I.look;exact W.method_fn X J (W.plainGet_of hg).1 (W.plainGet_of hg).2 hf (beq_iff_eq.mp ht) (by show(W.lookIn name od).map (·.isSome)=aa false;rw[hl,hv];rfl) h
theorem Xz{ns:List Str}{Q:Unit->aj->Prop}(X:K.In s.heap)(I:rD s.heap x dx C mA)
  (hs:W.findIn K (.ref C) "__setattr__" = aa (aa (.builtin "object.__setattr__"))) (hp:W.plainOver K C=true) (ht:W.takerIn K C name=aa ae) (hh:W.hasDictIn K C=true)
  (hw:jK mA ns) (hsz:ns.length<=sizeLine)
  (h:∀h',rD h' x dx C (λy=>if y=name then aa v else mA y)->fZ dx s.heap h'->Q () { s with heap:=h',toks:=s.toks+2 }) :
  wpAny (aJ prog w) A (C0 (.ref x) name v) Q E s:=by
 obtain⟨od,J,hl⟩:=I.look;refine W.set_plain X J hs (W.osa_open (s:={ s with toks:=s.toks+1 }) (r:=ae) X J hp ht λb=>?_);obtain⟨cd,hc,wy⟩:=W.any_some hh;have hx:s.heap.get? x=aa ⟨.ref C,aa dx,.plain,#[]⟩:=I.obj;refine ay (bc (ay (ay (mC hx (ay (W.Looks.here (s:={ s with toks:=s.toks+1 }) (W.looks_clsIn X hc) ?_))))));rw[wy];refine bc (a:=aa dx) (ay (bc (ay ?_)));refine v_ (s:={ s with toks:=s.toks+1 }) I.ns λh' u1 BS=>?_;obtain⟨oD,PU,PV,Du,Dv,Dw⟩:=u1.count (pQ name v hw);refine ay (pR Du (by rw[Dv];exact pS (bz Dw (by rw[aY];omega))) ?_);exact bc (h _ ⟨(BS.2 _ (bP I.ne)).trans I.obj,u1,I.ne⟩ BS)
theorem XA{R:BC->aj->Prop}{vs:List af}{kw:List (Str×af)}(X:K.In s.heap)(hm:W.makesIn K C=true)
  (hi:W.findIn K (.ref C) "__init__" = aa (aa (.ref f))) (hf:W.typeIn K (.ref f)=aa (.type "function"))
  (h:codeAny (aJ prog w) (A.under (.builtin "type.__call__" ⟨.ref C::vs,kw⟩)) (.call (.ref f) ⟨.ref (s.heap.objs.size+1)::vs,kw⟩) (W.InitBack (s.heap.objs.size+1) R)
   { s with heap:=(s.heap.push W.emptyDict).push (W.instObj C s.heap.objs.size) }) :
  codeAny (aJ prog w) A (.call (.ref C) ⟨vs,kw⟩) R s:=by
 obtain⟨hh,g,d,t,os⟩:=s;exact W.make_core (W.makes_of X hm) (W.looks_findIn X hi) (λself=>W.bind_fn X self hf) (.inl rfl) h
end
noncomputable def iF(f:Str)(v:V):List (Str×V)->List (Str×V)
 |[]=>[(f,v)]
 |(g,x)::r=>if g=f then(g,v)::r else(g,x)::iF f v r
theorem JU(f g:Str)(v:V):∀fs:List (Str×V),(iF f v fs).lookup g=if g=f then aa v else fs.lookup g
 | []=>by
   show bL g [(f,v)]=_;by_cases h:g=f
   .have hb:(g==f)=true:=beq_iff_eq.mpr h
    simp only[bL,hb,if_pos h]
   .have hb:(g==f)=false:=beq_eq_false_iff_ne.mpr h
    simp only[bL,hb,if_neg h]
 | (k,x)::r=>by
   have ih:=JU f g v r;rw[show iF f v ((k,x)::r)=(if k=f then(k,v)::r else(k,x)::iF f v r) from rfl];by_cases hk:k=f
   .rw[if_pos hk]
    by_cases h:g=k
    .have hb:(g==k)=true:=beq_iff_eq.mpr h
     simp only[bL,hb,if_pos (h.trans hk)]
    .have hb:(g==k)=false:=beq_eq_false_iff_ne.mpr h
     simp only[bL,hb,if_neg (λe:g=f=>h (e.trans hk.symm))]
   .rw[if_neg hk]
    by_cases h:g=k
    .have hb:(g==k)=true:=beq_iff_eq.mpr h
     simp only[bL,hb,if_neg (λe:g=f=>hk (h.symm.trans e))]
    .have hb:(g==k)=false:=beq_eq_false_iff_ne.mpr h
     simp only[bL,hb];exact ih
theorem JV(f:Str)(v:V):∀fs:List (Str×V),f∈(iF f v fs).map (·.1)/\∀g,g∈fs.map (·.1)->g∈(iF f v fs).map (·.1)
 |[]=>⟨by simp[iF],λg h=>by simp at h⟩
 | (k,x)::r=>by
   obtain⟨i1,i2⟩:=JV f v r;rw[show iF f v ((k,x)::r)=(if k=f then(k,v)::r else(k,x)::iF f v r) from rfl];by_cases hk:k=f
   .rw[if_pos hk]
    subst hk;exact⟨by simp,λg h=>by simpa using h⟩
   .rw[if_neg hk]
    refine⟨?_,λg h=>?_⟩
    .rw[aC]
     exact au _ i1
    .rw[aC] at h ⊢
     rcases aF.mp h with e | e
     .exact aF.mpr (.inl e)
     .exact au _ (i2 g e)
theorem PX(f:Str)(v:V):∀fs:List (Str×V),(iF f v fs).length<=fs.length+1
 |[]=>by simp[iF]
 | (k,x)::r=>by
   have ih:=PX f v r;rw[show iF f v ((k,x)::r)=(if k=f then(k,v)::r else(k,x)::iF f v r) from rfl];by_cases hk:k=f
   .rw[if_pos hk,aY,aY];omega
   .rw[if_neg hk,aY,aY];omega
theorem jc.some_of{v:V}{o:Option af}(r:jc (aa v) o):∃u,o=aa u/\RelV v u:=by
 cases o with
 |none=>exact(show False from r).elim
 |some u=>exact⟨u,rfl,r⟩
theorem jc.none_of{o:Option af}(r:jc ae o):o=ae:=by
 cases o with
 |none=>rfl
 |some u=>exact(show False from r).elim
theorem PY{v:V}{u:af}(r:RelV v u):W.handedIn u=true:=by
 cases v with
 |bH=>cases (show u=jJ from r);rfl
 |bl b=>cases (show u=dW b from r);rfl
 |int i=>obtain⟨t,e⟩:=(show∃t,u=m8 i t from r);cases e;rfl
 |str x=>obtain⟨t,e⟩:=(show∃t,u=m9 x t from r);cases e;rfl
 |byt b=>obtain⟨t,e⟩:=(show∃t,u=CW b t from r);cases e;rfl
 |zT b=>obtain⟨t,e⟩:=(show∃t,u=so b t from r);cases e;rfl
 |ref a=>cases (show u=aP a from r);rfl
 |ty n=>cases (show u=l9 n from r);rfl
section
variable {P:aR}{w:bu}{H H':Hp}{h h':bN}{a C dx:ai}{fs wu:List (Str×V)}
theorem GA(cD:iM P w H h)(e:H a=aa (.ins C dx fs)):∃mA,rD h a dx C mA/\(∀f,jc (fs.lookup f) (mA f))/\jK mA (fs.map (·.1))/\fs.length<=1000/\H dx=aa (.own a):=by
 obtain⟨d,z,ne,ob,mA,n,r,q⟩:=(show jS P w H h a (.ins C dx fs) from cD a _ e);exact⟨mA,⟨ob,n,ne⟩,r,q,z,d⟩
end
structure nq(K:W.Frag)(C:ai):Prop where
 pg:W.plainGet K C eZ=true
 hd:W.hasDictIn K C=true
 po:W.plainOver K C=true
 sa:W.findIn K (.ref C) "__setattr__" = aa (aa (.builtin "object.__setattr__"))
theorem nq.get{K:W.Frag}{C:ai}(c:nq K C)(f:Str):W.plainGet K C f=true:=c.pg
def lz(K:W.Frag)(C:ai)(f:Str):Prop:=W.findIn K (.ref C) f=aa ae
theorem lz.Dx{K:W.Frag}{C:ai}{f:Str}(n:lz K C f):W.takerIn K C f=aa ae:=by
 unfold W.takerIn;rw[show W.findIn K (.ref C) f=aa ae from n];rfl
structure u3(K:W.Frag)(C:ai)(m:Str)(f:ai):Prop where
 at_:W.findIn K (.ref C) m=aa (aa (.ref f))
 fn:W.isFn K (.ref f)=true
 kp:W.keepIn K (.ref f)=true
section
variable {X:Cx}{ag:List (ai×Obj)}{σ:St}{H:Hp}{s:aj}{a C dx:ai}{fs:List (Str×V)}{f:Str}{v:V}{A:bW}{E:af->aj->Prop}
theorem XB{b:Bool}{Q:af->aj->Prop}(I:Inv X ag σ H s)(e:H a=aa (.ins C dx fs))(c:nq X.K C)(n:lz X.K C f)(l:fs.lookup f=aa v)
  (h:∀u s',Inv X ag σ H s'->RelV v u->Q u s'):wpAny (aJ X.prog X.w) A (v9 (.ref a) f b) Q E s:=by
 obtain⟨mA,O,r,_,_,_⟩:=GA I.cD e;obtain⟨u,hu,ru⟩:=jc.some_of (v:=v) (o:=mA f) (by rw[<- l];exact r f);exact Xw I.jz O (c.get f) c.hd n hu (PY ru) (h u _ (I.tok _) ru)
theorem JW{m:Str}{g:ai}{pl:Sem Bool}{Q:af×List af->aj->Prop}(I:Inv X ag σ H s)(e:H a=aa (.ins C dx fs))(c:nq X.K C)(k:u3 X.K C m g)(l:fs.lookup m=ae)
  (h:Q (.ref g,[.ref a]) s):wpAny (aJ X.prog X.w) A (gz (.ref a) m pl) Q E s:=by
 obtain⟨mA,O,r,_,_,_⟩:=GA I.cD e;have hn:mA m=ae:=jc.none_of (by rw[<- l];exact r m);exact Xy I.jz O (c.get m) k.at_ k.fn hn h
theorem XC{y:V}{u:af}{Q:Unit->aj->Prop}(I:Inv X ag σ H s)(e:H a=aa (.ins C dx fs))(c:nq X.K C)(n:lz X.K C f)(hl:fs.length<1000)(ry:RelV y u)
  (h:∀s',Inv X ag σ (upd H a (.ins C dx (iF f y fs))) s'->Q () s'):wpAny (aJ X.prog X.w) A (C0 (.ref a) f u) Q E s:=by
 obtain⟨mA,O,r,wi,_,ho⟩:=GA I.cD e;have hz:(fs.map (·.1)).length<=sizeLine:=by rw[aT,dQ];omega
 refine Xz I.jz O c.sa c.po n.Dx c.hd wi hz λh' O' sb=>h _ ?_;have hd:∃o,h'.get? dx=aa o:=let ⟨o,_,_,e',_⟩:=O'.ns;⟨o,e'⟩;refine I.write (x:=a) (e:=dx) (by rw[e];exact dX) (.inr ho) (λb q hb z=>(sb.2 b hb).trans z) hd ?_;refine⟨by rw[dh O.ne];exact ho,?_,O.ne,O'.obj,_,O'.ns,λg=>?_,λg hg=>?_⟩
 .have:=PX f y fs;omega
 .show jc ((iF f y fs).lookup g) (if g=f then aa u else mA g)
  rw[JU];by_cases q:g=f
  .rw[if_pos q,if_pos q];exact ry
  .rw[if_neg q,if_neg q];exact r g
 .by_cases q:g=f
  .rw[q];exact(JV f y fs).1
  .refine(JV f y fs).2 g (wi g λz=>hg ?_)
   show(if g=f then aa u else mA g)=ae;rw[if_neg q];exact z
theorem Inv.made(I:Inv X ag σ H s):Inv X ag σ (upd (upd H s.heap.objs.size (.own (s.heap.objs.size+1))) (s.heap.objs.size+1) (.ins C s.heap.objs.size []))
  { s with heap:=(s.heap.push W.emptyDict).push (W.instObj C s.heap.objs.size) }:=by
 have e1:(s.heap.push W.emptyDict).get? s.heap.objs.size=aa W.emptyDict:=aZ s.heap rfl;have e2:((s.heap.push W.emptyDict).push (W.instObj C s.heap.objs.size)).get? (s.heap.objs.size+1)=aa (W.instObj C s.heap.objs.size):=by
  have:=aZ (s.heap.push W.emptyDict) (o:=W.instObj C s.heap.objs.size) rfl;rwa[gR] at this
 have e3:(s.heap.push W.emptyDict).Ns s.heap.objs.size (λ_=>ae):=⟨W.emptyDict,#[],_,e1,rfl,(λe he=>absurd he (by simp)),λ_=>rfl⟩;have I1:=I.laid (a:=s.heap.objs.size) (o:=.own (s.heap.objs.size+1)) (h':=s.heap.push W.emptyDict) (t':=s.toks) (λb u q=>aw _ q) (az _) ⟨_,e1⟩;refine I1.laid (a:=s.heap.objs.size+1) (o:=.ins C s.heap.objs.size []) (t':=s.toks) (λb u q=>aw _ q) (gV (gR _ _)) ?_;have ne:s.heap.objs.size≠s.heap.objs.size+1:=aQ (dE _);refine⟨by rw[dh ne,fX],dJ _,ne,e2,λ_=>ae,(sv e3).at λo q=>aw _ q,λ_=>dX,λy hy=>absurd rfl hy⟩
theorem PZ{prog:aR}{w:bu}{env:Env}{e:bt}{f:Str}{pos:Pos}{s:aj}{Q:af->aj->Prop}(hb:b_ e f env (eval e env)=eval e env)
  (h:wpAny (aJ prog w) A (eval e env) (λo s₁=>wpAny (aJ prog w) A (v9 o f true) Q E s₁) E s):wpAny (aJ prog w) A (eval (.Attribute e f pos) env) Q E s:=
 Attribute_any_ h (by rw[arm_eval_Attribute,hb])
end
def JX(K:W.Frag)(ta:TE)(f:Str):TE:=fun σ H Q=>ta σ H λx H1=>∃a C dx fs v,x=.ref a/\H1 a=aa (.ins C dx fs)/\nq K C/\lz K C f/\fs.lookup f=aa v/\Q v H1
def JY(K:W.Frag)(ta tv:TE)(f:Str):TS:=λD σ H=>tv σ H λy H1=>ta σ H1 λx H2=>∃a C dx fs,x=.ref a/\H2 a=aa (.ins C dx fs)/\nq K C/\lz K C f/\fs.length<1000 /\
 D.nx σ (upd H2 a (.ins C dx (iF f y fs)))
section
variable {X:Cx}{o e value:bt}{f:Str}{pos jo JZ:Pos}{ta tv:TE}
theorem XD(he:PE X e ta)(hb:b_ e f X.env (eval e X.env)=eval e X.env):PE X (.Attribute e f pos) (JX X.K ta f):=by
 intro ag s σ H Q I h;refine PZ hb (dM (he ag s σ H _ I h) λu s1 cS=>?_);obtain⟨x,H1,I1,rx,a,C,dx,fs,v,ex,ea,c,n,l,q⟩:=cS;subst ex;obtain rfl:u=aP a:=rx;exact XB I1 ea c n l λu' s2 I2 ru=>⟨v,H1,I2,ru,q⟩
theorem XE(ha:PE X o ta)(hv:PE X value tv)(hs:fu value (aa (.Attribute o f jo)) pos.line X.env=pure false):PS X (.Assign [.Attribute o f jo] value pos) (JY X.K ta tv f):=by
 intro ag s σ H D I h;refine o8 (dM (hv ag s σ H _ I h) λu s1 cS=>?_) hs;obtain⟨y,H1,I1,ry,q⟩:=cS;refine dM (ha ag s1 σ H1 _ I1 q) λov s2 cS=>?_;obtain⟨x,H2,I2,rx,a,C,dx,fs,ex,ea,c,n,l,q2⟩:=cS;subst ex;obtain rfl:ov=aP a:=rx;exact XC I2 ea c n l ry λs3 I3=>⟨σ,_,I3,q2⟩
theorem z6g{pl:Sem Bool}{m:Str}{cP:Pos}{args:List bt}{ag:List (ai×Obj)}{s:aj}{σ:St}{H:Hp}{Q:af->aj->Prop}{te:TE}(he:PE X e te)(I:Inv X ag σ H s)
  (h:te σ H λx H1=>∃a C dx fs g,x=.ref a/\H1 a=aa (.ins C dx fs)/\nq X.K C/\u3 X.K C m g/\fs.lookup m=ae /\
   ∀s1,Inv X ag σ H1 s1->wpAny (aJ X.prog X.w) X.A (iU pos (.ref g) [.ref a] (bK pos (av args X.env)) (eT pos (cT [] X.env))) Q X.xe s1)
  (ht:eval (.Call (.Attribute e m cP) args [] pos) X.env=(do
   let ov <- eval e X.env
   jQ cP.atName
   let (f,first) <- jR [ov] (gz ov m pl)
   iU pos f first (bK pos (av args X.env)) (eT pos (cT [] X.env)))) :
  wpAny (aJ X.prog X.w) X.A (eval (.Call (.Attribute e m cP) args [] pos) X.env) Q X.xe s:=by
 refine W.methodCall_KW (pl:=pl) (dM (he ag s σ H _ I h) λu s1 cS=>?_) ht;obtain⟨x,H1,I1,rx,a,C,dx,fs,g,ex,ea,c,k,l,q⟩:=cS;subst ex;obtain rfl:u=aP a:=rx;exact JW I1 ea c k l (q s1 I1)
end
section
variable {X:Cx}{ag:List (ai×Obj)}{σ:St}{H:Hp}{s:aj}{A:bW}{E:af->aj->Prop}{Q:af->aj->Prop}{c:af}{b:Bool}
inductive jU(K:W.Frag)(H:Hp):V->af->Prop where
 |bH:jU K H .bH (.type "NoneType")
 |bl (x:Bool):jU K H (.bl x) (.type "bool")
 |int (i:Int):jU K H (.int i) (.type "int")
 |str (x:Str):jU K H (.str x) (.type "str")
 |zT (x:UInt64):jU K H (.zT x) (.type "float")
 |lst {a:ai} {xs:List V} (e:H a=aa (.lst xs)):jU K H (.ref a) (.type "list")
 |eL {a:ai} {o:Obj} {xs:List V} (e:H a=aa (.eL o (.lst xs))):jU K H (.ref a) (.type "list")
 |tup {a:ai} {xs:List V} (e:H a=aa (.tup xs)):jU K H (.ref a) (.type "tuple")
 |dK {a:ai} {kvs:List (bZ×V)} (e:H a=aa (.dK kvs)):jU K H (.ref a) (.type "dict")
 |dT {a:ai} {kvs:List (List bZ×V)} (e:H a=aa (.dT kvs)):jU K H (.ref a) (.type "dict")
 |ins {a C dx:ai} {fs:List (Str×V)} (e:H a=aa (.ins C dx fs)) (cl:nq K C) (ha:W.findIn K (.ref C) "__class__" = aa (aa (.builtin "object.__class__")))
  (hn:W.specialIn K (.builtin "object.__class__") "__get__" = aa (aa (.builtin "getset_descriptor.__get__"))) (P5:W.takesIn K (.builtin "object.__class__")=aa true)
  (hm:W.mroIn K C (.type "object")=aa true):jU K H (.ref a) (.ref C)
theorem XF{x:V}{u t:af}(I:Inv X ag σ H s)(rx:RelV x u)(ty:jU X.K H x t)(e:W.kitOne X.K t c=aa b)(h:∀tk,Q (.bool b) { s with toks:=tk }) :
  wpAny (aJ X.prog X.w) A (call (.builtin "isinstance") [u,c]) Q E s:=by
 cases ty with
 |bH=>cases (show u=jJ from rx);exact W.kia_one W.kitx_none I.jz dX e (λz=>nomatch z) h
 |bl y=>cases (show u=dW y from rx);exact W.kia_one W.kitx_bool I.jz dX e (λz=>nomatch z) h
 |int i=>obtain⟨t,q⟩:=(show∃t,u=m8 i t from rx);cases q;exact W.kia_one W.kitx_int I.jz dX e (λz=>nomatch z) h
 |str y=>obtain⟨t,q⟩:=(show∃t,u=m9 y t from rx);cases q;exact W.kia_one W.kitx_str I.jz dX e (λz=>nomatch z) h
 |zT y=>obtain⟨t,q⟩:=(show∃t,u=so y t from rx);cases q;exact W.kia_one W.kitx_float I.jz dX e (λz=>nomatch z) h
 | @lst a xs ea=>
   cases (show u=aP a from rx);obtain⟨_,_,n,_,h1⟩:=(show jS X.prog X.w H s.heap a (.lst xs) from I.cD a _ ea);exact W.kia_one W.kitx_list I.jz ⟨_,h1,rfl⟩ e (λz=>nomatch z) h
 | @eL a ob xs ea=>
   cases (show u=aP a from rx);obtain⟨_,_,_,n,_,h1⟩:=(show jS X.prog X.w H s.heap a (.eL ob (.lst xs)) from I.cD a _ ea);exact W.kia_one W.kitx_list I.jz ⟨_,h1,rfl⟩ e (λz=>nomatch z) h
 | @tup a xs ea=>
   cases (show u=aP a from rx);obtain⟨_,_,_,p⟩:=(show jS X.prog X.w H s.heap a (.tup xs) from I.cD a _ ea);obtain⟨o,h1,h2,_⟩:=p;exact W.kia_one W.kitx_tuple I.jz ⟨o,h1,h2⟩ e (λz=>nomatch z) h
 | @dK a kvs ea=>
   cases (show u=aP a from rx);obtain⟨_,_,vs,_,p⟩:=(show jS X.prog X.w H s.heap a (.dK kvs) from I.cD a _ ea);obtain⟨o,es,ep,h1,h2,_⟩:=p;exact W.kia_one W.kitx_dict I.jz ⟨o,h1,h2.1⟩ e (λz=>nomatch z) h
 | @dT a kvs ea=>
   cases (show u=aP a from rx);obtain⟨_,_,xs,_,o,es,ep,h1,h2,_⟩:=(show jS X.prog X.w H s.heap a (.dT kvs) from I.cD a _ ea);exact W.kia_one W.kitx_dict I.jz ⟨o,h1,h2.1⟩ e (λz=>nomatch z) h
 | @ins a C dx fs ea cl ha hn P5 hm=>
   cases (show u=aP a from rx);obtain⟨mA,O,_⟩:=GA I.cD ea;obtain⟨od,J,_⟩:=O.look;exact W.kia_one (W.kitx_own (cl.get _) cl.hd ha hn P5 hm) I.jz J e (λz=>nomatch z) h
end
structure eJ(k:Nat)(A:bW):Prop where
 hd:A.handled=ae
 dp:A.depth+3*k+5<recursionLimit
 un:A.units+16*k+200<fT
 gd:A.guards=aa []
theorem eJ.mono{j k:Nat}{A:bW}(r:eJ k A)(h:j<=k):eJ j A:=⟨r.hd,by have:=r.dp;omega,by have:=r.un;omega,r.gd⟩
theorem eJ.deeper{k:Nat}{A:bW}(r:eJ (k+1) A)(env:Env):eJ k (A.deeper env):=
 ⟨r.hd,by have:=r.dp;show A.depth+1+3*k+5<_;omega,by have:=r.un;show A.units+3+16*k+200<_;omega,r.gd⟩
theorem XG{A:bW}{C:ai}{us:List af}{kw:List (Str×af)}:(A.under (.builtin "type.__call__" ⟨.ref C::us,kw⟩)).depth=A.depth+1:=by
 first | rfl | simp[mi,Code.weight,Code.isCreation,C1,Code.isCaller,F4,rh,guardIds]
theorem XH{A:bW}{C:ai}{us:List af}{kw:List (Str×af)}:(A.under (.builtin "type.__call__" ⟨.ref C::us,kw⟩)).units=A.units+1:=by
 first | rfl | simp[mi,Code.cUnits,F4,rh]
theorem XI{A:bW}{C:ai}{us:List af}{kw:List (Str×af)}(h:A.guards=aa []):(A.under (.builtin "type.__call__" ⟨.ref C::us,kw⟩)).guards=aa []:=by
 have e:(Code.builtin "type.__call__" ⟨.ref C::us,kw⟩).guards=[]:=by first | rfl | simp[Code.guards,C1,guardIds]
 unfold mi;simp only[e,h];rfl
theorem eJ.make{k:Nat}{A:bW}(r:eJ (k+1) A)(C:ai)(us:List af)(kw:List (Str×af)):eJ k (A.under (.builtin "type.__call__" ⟨.ref C::us,kw⟩)):=
 ⟨r.hd,by have:=r.dp;rw[XG];omega,by have:=r.un;rw[XH];omega,XI r.gd⟩
theorem eJ.depth{k:Nat}{A:bW}(r:eJ k A):A.depth<recursionLimit:=by have:=r.dp;omega
theorem eJ.units{k:Nat}{A:bW}(r:eJ k A):A.units+64<fT:=by have:=r.un;omega
def tF:TA:=λ_ H Q=>Q [] H
def BU(ta:TE)(tr:TA):TA:=fun σ H Q=>ta σ H λx H1=>tr σ H1 λxs H2=>Q (x::xs) H2
section
variable {X:Cx}{e:bt}{es:List bt}{te:TE}{t:TA}{pos:Pos}
theorem y_:PA X [] tF:=λ_ _ _ _ H Q I h=>Calls.spliced_nil ⟨[],H,I,.nil,h⟩
theorem u4(ha:PE X e te)(hr:PA X es t)(hs:av (e::es) X.env=(false,eval e X.env)::av es X.env:=by rfl):PA X (e::es) (BU te t):=by
 intro pos ag s σ H Q I h;rw[hs];show wpAny _ _ (spliced ((false,eval e X.env)::bK pos (av es X.env))) _ _ s;refine Calls.spliced_cons (dM (ha ag s σ H _ I h) λu s1 cS=>?_);obtain⟨x,H1,I1,r1,q1⟩:=cS;exact dM (hr pos ag s1 σ H1 _ I1 q1) λus s2 ⟨xs,H2,I2,r2,q2⟩=>⟨x::xs,H2,I2,.cons r1 r2,q2⟩
def J0(t:TA):TE:=fun σ H Q=>t σ H λxs H1=>xs.length<=sizeLine/\∀p,H1 p=ae->Q (.ref p) (upd H1 p (.tup xs))
def J4(t:TA):TE:=fun σ H Q=>t σ H λxs H1=>xs.length<=sizeLine/\∀p,H1 p=ae->Q (.ref p) (upd H1 p (.lst xs))
theorem XJ{x1}(h:PA X es t):PE X (.Tuple es x1 pos) (J0 t):=by
 intro ag s σ H Q I hq;refine wpAny_Tuple_spliced (dM (h pos ag s σ H _ I hq) λus s1 ⟨xs,H1,I1,r,z,q⟩=>⟨by rw[<- r.length];exact z,?_⟩);have hf:H1 s1.heap.objs.size=ae:=I1.cD.fresh (az _);refine⟨.ref s1.heap.objs.size,upd H1 s1.heap.objs.size (.tup xs),I1.laid (t':=s1.toks) (λb u e=>aw _ e) (az _) ?_,rfl,q _ hf⟩;exact⟨z,us,r,⟨_,aZ _ rfl,rfl,_,rfl⟩⟩
theorem P6(h:PA X es t):PE X (.List es pos) (J4 t):=by
 intro ag s σ H Q I hq;refine wpAny_List_spliced (dM (h pos ag s σ H _ I hq) λus s1 ⟨xs,H1,I1,r,z,q⟩=>⟨by rw[<- r.length];exact z,?_⟩);have hf:H1 s1.heap.objs.size=ae:=I1.cD.fresh (az _);refine⟨.ref s1.heap.objs.size,upd H1 s1.heap.objs.size (.lst xs),I1.laid (t':=s1.toks) (λb u e=>aw _ e) (az _) ?_,rfl,q _ hf⟩;exact⟨z,us,0,r,aZ _ rfl⟩
end
abbrev Sp:=List V->Hp->VK->XK->Prop
abbrev sH:=List Env->Hp->aj->XK->af->aj->Prop
structure rF(P:aR)(w:bu)(K:W.Frag)(mg:Str->Option af)(base:bN)(A:bW)(outer:List Env)(s:aj)(H:Hp):Prop where
 frames:A.frames=aa outer
 mod:Mod K mg base
 bs:∀b o,base.get? b=aa o->s.heap.get? b=aa o/\H b=ae
 wZ:base.objs.size<=s.heap.objs.size
 mV:s.heap.FunFrames base outer
 zX:∀b∈mG outer,H b=ae
 cD:iM P w H s.heap
 bare:jP s.gens
def CE(outer:List Env)(P:aR)(w:bu)(H:Hp)(s:aj)(Q:VK)(u:af)(s':aj):Prop:=
 ∃v H',s'.os=s.os/\jP s'.gens/\Un (mG outer) [] H H' s.heap s'.heap/\iM P w H' s'.heap/\RelV v u/\Q v H'
def CR(CX:sH)(outer:List Env)(P:aR)(w:bu)(H:Hp)(s:aj)(Q:VK)(E:XK)(r:BC)(s':aj):Prop:=
 match r with
 |.ok (.ret u)=>CE outer P w H s Q u s'
 |.ok _=>False
 |.error e=>CX outer H s E e s'
structure bE(P:aR)(w:bu)(K:W.Frag)(mg:Str->Option af)(base:bN)(CX:sH)(k:Nat)(f:ai)(fd:bA)(ps:List Str)(sp:Sp):Prop where
 len:∀vs H Q E,sp vs H Q E->vs.length=ps.length
 run:∀(A:bW) (outer:List Env) (s:aj) (H:Hp) (args:Args) (us:List af) (vs:List V) (Q:VK) (E:XK),eJ k A->rF P w K mg base A outer s H->rj s fd args (ps.zip us)->cf vs us->sp vs H Q E ->
  codeAny (aJ P w) A (.call (.ref f) args) (CR CX outer P w H s Q E) s
theorem bE.mono{P:aR}{w:bu}{K:W.Frag}{mg:Str->Option af}{base:bN}{CX:sH}{j k:Nat}{f:ai}{fd:bA}{ps:List Str}{sp:Sp}(F:bE P w K mg base CX j f fd ps sp)(h:j<=k) :
 bE P w K mg base CX k f fd ps sp:=⟨F.len,λA outer s H args us vs Q E hr=>F.run A outer s H args us vs Q E (hr.mono h)⟩
theorem bE.imp{P:aR}{w:bu}{K:W.Frag}{mg:Str->Option af}{base:bN}{CX:sH}{k:Nat}{f:ai}{fd:bA}{ps:List Str}{sp P7:Sp}(F:bE P w K mg base CX k f fd ps sp)
  (h:∀vs H Q E,P7 vs H Q E->sp vs H Q E):bE P w K mg base CX k f fd ps P7:=
 ⟨λvs H Q E q=>F.len vs H Q E (h _ _ _ _ q),λA outer s H args us vs Q E hr he hb hv hs=>F.run A outer s H args us vs Q E hr he hb hv (h _ _ _ _ hs)⟩
theorem rF.make{P:aR}{w:bu}{K:W.Frag}{mg:Str->Option af}{base:bN}{A:bW}{outer:List Env}{s:aj}{H:Hp}(e:rF P w K mg base A outer s H)(C:ai)(us:List af)(kw:List (Str×af)) :
 rF P w K mg base (A.under (.builtin "type.__call__" ⟨.ref C::us,kw⟩)) outer s H:=⟨by first | exact e.frames | (simpa[mi,Code.envs,rh,pushEnvs] using e.frames),e.mod,e.bs,e.wZ,e.mV,e.zX,e.cD,e.bare⟩
section
variable {X:Cx}{ag:List (ai×Obj)}{σ:St}{H:Hp}{s s':aj}
theorem Inv.Ad(I:Inv X ag σ H s):rF X.prog X.w X.K X.mg X.base X.A X.stack s H:=
 ⟨I.ok.frames,I.ok.mod,I.bs,bz I.ok.wZ I.sz,I.stack,I.ni,I.cD,I.bare⟩
theorem Inv.after{Q:VK}{u:af}(I:Inv X ag σ H s)(h:CE X.stack X.prog X.w H s Q u s'):EP X ag σ Q u s':=by
 obtain⟨v,H',os,bare,un,cD,r,q⟩:=h;obtain⟨hh,g,d,t,XM⟩:=s';obtain rfl:XM=s.os:=os;exact⟨v,H',I.call (h':=hh) (g':=g) (d':=d) (t':=t) (ch:=[]) un cD bare (λb z=>absurd z (by simp)),r,q⟩
end
def P8(sp:Sp)(jA:List V)(E:XK)(t:TA):TE:=fun σ H Q=>t σ H λvs H1=>sp (vs++jA) H1 Q E
def J5(C:ai)(m:Str)(sp:Sp)(jA:List V)(E:XK)(ta:TE)(t:TA):TE:=fun σ H Q=>ta σ H λx H1=>∃a dx fs,x=.ref a/\H1 a=aa (.ins C dx fs)/\fs.lookup m=ae /\
 t σ H1 λvs H2=>sp (x::(vs++jA)) H2 Q E
def J6(C:ai)(sp:Sp)(jA:List V)(E:XK)(t:TA):TE:=fun σ H Q=>t σ H λvs H1=>∀x dx,H1 x=ae->H1 dx=ae->dx≠x ->
 sp (.ref x::(vs++jA)) (upd (upd H1 dx (.own x)) x (.ins C dx [])) (λv H2=>v=.bH/\Q (.ref x) H2) E
def mH(K:W.Frag)(fd:bA)(ps:List Str)(ds:List af):Prop:=
 ∀(s:aj) (us:List af),K.In s.heap->(us++ds).length=ps.length->rj s fd ⟨us,[]⟩ (ps.zip (us++ds))
theorem mH.all{K:W.Frag}{fd:bA}{ps:List Str}(h:∀us:List af,us.length=ps.length->yL fd ⟨us,[]⟩=pure (ps.zip us)):mH K fd ps []:=λs us _ hl=>by
 rw[dj] at hl ⊢;exact .of_eq (h us hl)
def oF(CX:sH)(X:Cx)(E:XK):Prop:=∀(ag:List (ai×Obj)) (σ:St) (H:Hp) (s:aj) (e:af) (s':aj),Inv X ag σ H s->CX X.stack H s E e s'->X.xe e s'
section
variable {X:Cx}{CX:sH}{k:Nat}{f C:ai}{fd:bA}{ps:List Str}{sp:Sp}{jA:List V}{ds:List af}{E:XK}{x m:Str}{p pos cP:Pos}{e o:bt}{es:List bt}{ta:TE}{t:TA}
theorem J7{ag:List (ai×Obj)}{σ:St}{H:Hp}{s:aj}{Q:VK}{us:List af}{vs:List V}(F:bE X.prog X.w X.K X.mg X.base CX k f fd ps sp)(hr:eJ k X.A)(hb:mH X.K fd ps ds)(hd:cf jA ds)(hx:oF CX X E)
  (I:Inv X ag σ H s) (r:cf vs us) (h:sp (vs++jA) H Q E):wpAny (aJ X.prog X.w) X.A (call (.ref f) us) (EP X ag σ Q) X.xe s:=by
 have r2:cf (vs++jA) (us++ds):=r.append hd;have hl:(us++ds).length=ps.length:=by rw[<- r2.length];exact F.len _ _ _ _ h
 refine lx (jg (F.run X.A X.stack s H ⟨us,[]⟩ (us++ds) (vs++jA) Q E hr I.Ad (hb s us I.jz hl) r2 h) λr s' hq=>?_);cases r with
 |error e=>exact hx ag σ H s e s' I hq
 | ok fl=>
   cases fl with
   |ret u=>exact I.after hq
   |next=>exact dB hq
   |brk=>exact dB hq
   |cont=>exact dB hq
theorem XN(F:bE X.prog X.w X.K X.mg X.base CX k f fd ps sp)(hr:eJ k X.A)(hg:Gl X x)(hm:X.mg x=aa (.ref f))(hk:W.keepIn X.K (.ref f)=true)(hb:mH X.K fd ps ds)(hd:cf jA ds)(hx:oF CX X E)
  (ha:PA X (e::es) t) (jE:(x==("__debug__" : Str))=false:=by decide) (he:av (e::es) X.env=(false,eval e X.env)::av es X.env:=by rfl) (gF:(bK pos (av es X.env)).any (·.1)=false:=by rfl) :
  PE X (.Call (.Name x p) (e::es) [] pos) (P8 sp jA E t):=by
 intro ag s σ H Q I h;refine fK (yZ I hg hm ?_ jE);refine W.callWith_K (h₀:=X.base) I.ok.mod.Di hk (dM (ha pos ag s σ H _ I h) λus s1 ⟨vs,H1,I1,r,q⟩=>⟨I1.jz,?_⟩) he gF;exact J7 F hr hb hd hx I1 r q
theorem P9{pl:Sem Bool}(he:PE X o ta)(c:nq X.K C)(hm:u3 X.K C m f)(F:bE X.prog X.w X.K X.mg X.base CX k f fd ps sp)(hr:eJ k X.A)(hb:mH X.K fd ps ds)(hd:cf jA ds)(hx:oF CX X E)(ha:PA X (e::es) t)
  (fm:av (e::es) X.env=(false,eval e X.env)::av es X.env:=by rfl) (gF:(bK pos (av es X.env)).any (·.1)=false:=by rfl)
  (ht:eval (.Call (.Attribute o m cP) (e::es) [] pos) X.env=(do
   let ov <- eval o X.env
   jQ cP.atName
   let (f,first) <- jR [ov] (gz ov m pl)
   iU pos f first (bK pos (av (e::es) X.env)) (eT pos (cT [] X.env))):=by rfl) :
  PE X (.Call (.Attribute o m cP) (e::es) [] pos) (J5 C m sp jA E ta t):=by
 intro ag s σ H Q I h;refine W.methodCall_KW (pl:=pl) (dM (he ag s σ H _ I h) λu s1 cS=>?_) ht;obtain⟨x,H1,I1,rx,a,dx,fs,ex,ea,l,q⟩:=cS;subst ex;obtain rfl:u=aP a:=rx;refine JW I1 ea c hm l ?_;refine W.callWith_K (first:=[.ref a]) (h₀:=X.base) I.ok.mod.Di hm.kp (dM (ha pos ag s1 σ H1 _ I1 q) λus s2 ⟨vs,H2,I2,r,q2⟩=>⟨I2.jz,?_⟩) fm gF;exact J7 (us:=.ref a::us) (vs:=.ref a::vs) F hr hb hd hx I2 (.cons rfl r) q2
theorem XO{pl:Sem Bool}(he:PE X o ta)(c:nq X.K C)(hm:u3 X.K C m f)(F:bE X.prog X.w X.K X.mg X.base CX k f fd ps sp)(hr:eJ k X.A)(hb:mH X.K fd ps ds)(hd:cf jA ds)(hx:oF CX X E)
  (ht:eval (.Call (.Attribute o m cP) [] [] pos) X.env=(do
   let ov <- eval o X.env
   jQ cP.atName
   let (f,first) <- jR [ov] (gz ov m pl)
   iU pos f first (bK pos (av [] X.env)) (eT pos (cT [] X.env))):=by rfl) :
  PE X (.Call (.Attribute o m cP) [] [] pos) (J5 C m sp jA E ta tF):=by
 intro ag s σ H Q I h;refine W.methodCall_KW (pl:=pl) (dM (he ag s σ H _ I h) λu s1 cS=>?_) ht;obtain⟨x,H1,I1,rx,a,dx,fs,ex,ea,l,q⟩:=cS;subst ex;obtain rfl:u=aP a:=rx;refine JW I1 ea c hm l ?_;exact W.callWith_K0 (first:=[.ref a]) I1.jz hm.kp (J7 (us:=[.ref a]) (vs:=[.ref a]) F hr hb hd hx I1 (.cons rfl .nil) q)
structure Mk(K:W.Frag)(C f:ai):Prop where
 makes:W.makesIn K C=true
 init:W.findIn K (.ref C) "__init__" = aa (aa (.ref f))
 fn:W.isFn K (.ref f)=true
 kp:W.keepIn K (.ref C)=true
theorem P_{ag:List (ai×Obj)}{σ:St}{H:Hp}{s:aj}{Q:VK}{us:List af}{vs:List V}(M:Mk X.K C f)(F:bE X.prog X.w X.K X.mg X.base CX k f fd ps sp)(hr:eJ (k+1) X.A)(hb:mH X.K fd ps ds)(hd:cf jA ds)
  (hx:oF CX X E) (I:Inv X ag σ H s) (r:cf vs us)
  (h:∀x dx,H x=ae->H dx=ae->dx≠x->sp (.ref x::(vs++jA)) (upd (upd H dx (.own x)) x (.ins C dx [])) (λv H2=>v=.bH/\Q (.ref x) H2) E) :
  wpAny (aJ X.prog X.w) X.A (call (.ref C) us) (EP X ag σ Q) X.xe s:=by
 have hq:=h (s.heap.objs.size+1) s.heap.objs.size (I.cD.fresh (jk _)) (I.cD.fresh (az _)) (aQ (dE _));have I2:=Inv.made (C:=C) I;have r2:cf (V.ref (s.heap.objs.size+1)::(vs++jA)) (aP (s.heap.objs.size+1)::(us++ds)):=.cons rfl (r.append hd);have hl:(aP (s.heap.objs.size+1)::us++ds).length=ps.length:=by
  have e:=r2.length;rw[F.len _ _ _ _ hq] at e;exact e.symm
 refine lx (XA (f:=f) I.jz M.makes M.init (beq_iff_eq.mp M.fn) (jg (F.run _ X.stack _ _ ⟨aP (s.heap.objs.size+1)::us,[]⟩ (aP (s.heap.objs.size+1)::(us++ds)) _ _ E (hr.make C us [])
  (I2.Ad.make C us []) (hb _ (aP (s.heap.objs.size+1)::us) I2.jz hl) r2 hq) λr s' Dy=>?_))
 cases r with
 |error e=>exact hx ag σ _ _ e s' I2 Dy
 | ok fl=>
   cases fl with
   | ret u=>
     obtain⟨v,H',I3,rv,ev,q3⟩:=I2.after Dy;subst ev;exact⟨rv,⟨V.ref (s.heap.objs.size+1),H',I3,rfl,q3⟩⟩
   |next=>exact dB Dy
   |brk=>exact dB Dy
   |cont=>exact dB Dy
theorem XQ(M:Mk X.K C f)(F:bE X.prog X.w X.K X.mg X.base CX k f fd ps sp)(hr:eJ (k+1) X.A)(hg:Gl X x)(hm:X.mg x=aa (.ref C))(hb:mH X.K fd ps ds)(hd:cf jA ds)(hx:oF CX X E)
  (ha:PA X (e::es) t) (jE:(x==("__debug__" : Str))=false:=by decide) (he:av (e::es) X.env=(false,eval e X.env)::av es X.env:=by rfl) (gF:(bK pos (av es X.env)).any (·.1)=false:=by rfl) :
  PE X (.Call (.Name x p) (e::es) [] pos) (J6 C sp jA E t):=by
 intro ag s σ H Q I h;refine fK (yZ I hg hm ?_ jE);refine W.callWith_K (h₀:=X.base) I.ok.mod.Di M.kp (dM (ha pos ag s σ H _ I h) λus s1 ⟨vs,H1,I1,r,q⟩=>⟨I1.jz,?_⟩) he gF;exact P_ M F hr hb hd hx I1 r q
theorem XR(M:Mk X.K C f)(F:bE X.prog X.w X.K X.mg X.base CX k f fd ps sp)(hr:eJ (k+1) X.A)(hg:Gl X x)(hm:X.mg x=aa (.ref C))(hb:mH X.K fd ps ds)(hd:cf jA ds)(hx:oF CX X E)
  (jE:(x==("__debug__" : Str))=false:=by decide):PE X (.Call (.Name x p) [] [] pos) (J6 C sp jA E tF):=by
 intro ag s σ H Q I h;refine fK (yZ I hg hm ?_ jE);exact W.callWith_K0 I.jz M.kp (P_ (us:=[]) M F hr hb hd hx I .nil h)
end
structure gj(N P:List Str)(sc:iz):Prop where
 kind:sc.kind=.function
 co:sc.isCoroutine=false
 gen:sc.isGenerator=false
 nd:N.Nodup
 pre:N.take P.length=P
 par:∀x∈P,sc.names.lookup x=aa .local\/sc.names.lookup x=aa .cell
 Ae:∀y∈sc.names,y.2≠.free
theorem P'{kindOf:Str->Option yM}{x:Str}:∀{binds:List (Str×af)} {m:Str->Option af},(∀v,(x,v)∉binds)->uM kindOf binds m x=m x
 |[],_,_=>rfl
 | (n,v)::r,m,h=>by
   unfold uM;rw[P' λw hw=>h w (au _ hw)]
   split
   .have:x≠n:=by rintro rfl;exact h v aA
    simp[this]
   .rfl
theorem Qa{kindOf:Str->Option yM}{x:Str}:∀{binds:List (Str×af)} {m:Str->Option af},(∀v,(x,v)∉binds)->uN kindOf binds m x=m x
 |[],_,_=>rfl
 | (n,v)::r,m,h=>by
   unfold uN;rw[Qa λw hw=>h w (au _ hw)]
   split
   .rfl
   .have:x≠n:=by rintro rfl;exact h v aA
    simp[this]
theorem Qb{kindOf:Str->Option yM}{x:Str}{v:af}:∀{P:List Str} {vs:List af} {i:Nat} {m:Str->Option af},P.Nodup->P[i]?=aa x->vs[i]?=aa v->kindOf x=aa .local ->
  uM kindOf (P.zip vs) m x=aa v
 |[],_,_,_,_,h,_,_=>by simp at h
 |_::_,[],_,_,_,_,h,_=>by simp at h
 | p::P,w::vs,0,m,nd,h1,h2,hk=>by
   simp at h1 h2;subst h1;subst h2;show uM kindOf ((p,w)::P.zip vs) m p=_;unfold uM;rw[P' λv hv=>(dm.mp nd).1 (oB hv).1,if_pos hk];simp
 | p::P,w::vs,i+1,m,nd,h1,h2,hk=>by
   show uM kindOf ((p,w)::P.zip vs) m x=_;unfold uM;exact Qb (i:=i) (dm.mp nd).2 (by simpa using h1) (by simpa using h2) hk
theorem Qc{kindOf:Str->Option yM}{x:Str}{v:af}:∀{P:List Str} {vs:List af} {i:Nat} {m:Str->Option af},P.Nodup->P[i]?=aa x->vs[i]?=aa v->kindOf x≠aa .local ->
  uN kindOf (P.zip vs) m x=aa v
 |[],_,_,_,_,h,_,_=>by simp at h
 |_::_,[],_,_,_,_,h,_=>by simp at h
 | p::P,w::vs,0,m,nd,h1,h2,hk=>by
   simp at h1 h2;subst h1;subst h2;show uN kindOf ((p,w)::P.zip vs) m p=_;unfold uN;rw[Qa λv hv=>(dm.mp nd).1 (oB hv).1,if_neg hk];simp
 | p::P,w::vs,i+1,m,nd,h1,h2,hk=>by
   show uN kindOf ((p,w)::P.zip vs) m x=_;unfold uN;exact Qc (i:=i) (dm.mp nd).2 (by simpa using h1) (by simpa using h2) hk
noncomputable def start(N:List Str)(vs:List V):St:=vs.map aa++aS (N.length-vs.length) ae
noncomputable def h8(CX:sH)(P:aR)(w:bu)(K:W.Frag)(mg:Str->Option af)(base:bN)(N:List Str)(qual:Str)(scope:iz)(f:ai)(cd:af)(A:bW)(outer:List Env)(s:aj)(H:Hp)(E:XK):Cx where
 prog:=P
 w:=w
 K:=K
 mg:=mg
 base:=base
 A:=A.deeper (iH qual scope s.heap.objs.size f cd)
 N:=N
 s₀:=s
 H₀:=H
 env:=iH qual scope s.heap.objs.size f cd
 outer:=outer
 stack:=iH qual scope s.heap.objs.size f cd::outer
 ex:=[]
 calm:=true
 fn:=λ_=>true
 pn:=[]
 xe:=λe s'=>wpAny (aJ P w) (A.deeper (iH qual scope s.heap.objs.size f cd)) (wa (iH qual scope s.heap.objs.size f cd) e) (λ_ J8=>CX outer H s E e J8) (λe' J8=>CX outer H s E e' J8) s'
theorem Qd{sc:iz}{n:Nat}{x:Str}(h:sc.names.lookup x=aa .cell):∃c,(F5 n sc.names []).lookup x=aa c:=by
 have q:=W.cellsFrom_some sc.names n [] (.inl h);exact o9.mp q
theorem XS{CX:sH}{P:aR}{w:bu}{K:W.Frag}{mg:Str->Option af}{base:bN}{N ps:List Str}{qual:Str}{scope:iz}{f:ai}{cd:af}{A:bW}{outer:List Env}{s s1:aj}{H:Hp}{E:XK}{us:List af}{vs:List V}
  (S:gj N ps scope) (hd:A.handled=ae) (e0:rF P w K mg base A outer s H) (hl:vs.length=ps.length) (r:cf vs us)
  (x:InCallC s s.heap.objs.size (uM (iH qual scope s.heap.objs.size f cd).kindOf (ps.zip us) λ_=>ae) (F5 (s.heap.objs.size+1) scope.names []) (uN (iH qual scope s.heap.objs.size f cd).kindOf (ps.zip us) λ_=>ae) s1) :
  Inv (h8 CX P w K mg base N qual scope f cd A outer s H E) [] (start N vs) H s1:=by
 have gF:ps.length<=N.length:=by have:=congrArg fV S.pre;rw[jD] at this;omega
 obtain⟨h1,tk,rfl,hk⟩:=x.done;have Dz:∀b:ai,b∉(h8 CX P w K mg base N qual scope f cd A outer s H E).ex:=λb z=>absurd (show b∈([]:List ai) from z) (by simp);refine⟨⟨e0.mod,S.kind,rfl,rfl,az _,λy z c h1 h2=>?_,λy hy=>?_,λy c _ h=>?_,λ_=>hd,Around.frames_deeper e0.frames,.inr ⟨rfl,rfl⟩,λb z=>absurd z (Dz b),e0.bs,e0.wZ,λb _ _=>Dz b,λb z=>absurd z (Dz b),e0.mV,e0.zX⟩,
  rfl,e0.bare,Un.kept hk,⟨_,x.toInCall.ns,λi y v h1 h2 h3=>?_⟩,λy c h=>⟨_,x.cell y c h⟩,e0.cD.fresh (az _),λy c h=>?_,λp hp=>absurd (show p∈([]:List (ai×Obj)) from hp) (by simp),e0.cD.kept hk,?_,λi v e=>nomatch (show(ae:Option (Option V))=aa (aa v) from e)⟩
 .exact name_of_addr x.apart (c7 h1) (c7 h2)
 .have hy:scope.names.lookup y=aa .cell\/scope.names.lookup y=aa .free:=hy
  rcases hy with hy | hy
  .exact Qd hy
  .exact absurd rfl (S.Ae _ (c7 hy))
 .exact m_ (x.above y c (c7 h))
 .have hi:i<vs.length:=by
   unfold start at h2;by_cases hi:i<vs.length
   .exact hi
   .rw[c8 (by simpa using hi)] at h2
    rw[qS] at h2
    split at h2<;>cases h2
  have ha:vs[i]?=aa v:=by
   unfold start at h2;rw[aG (by simpa using hi),c9] at h2;cases e:vs[i]? with
   |none=>rw[e] at h2;cases h2
   |some a=>rw[e] at h2;cases h2;rfl
  obtain⟨u,hu,rv⟩:=r.get ha;have hp:ps[i]?=aa y:=by
   rw[<- S.pre,gu (by omega)];exact h1
  have Qe:ps.Nodup:=by rw[<- S.pre];exact S.nd.sublist (wb _ _)
  refine⟨u,rv,?_⟩;rcases S.par y (kX hp) with k | k
  .exact .inl ⟨k,Qb Qe hp hu k⟩
  .obtain⟨c,e⟩:=Qd (n:=s.heap.objs.size+1) k
   refine .inr ⟨.inl k,c,e,?_⟩;have q:=x.cell y c e;rw[Qc Qe hp hu (by show scope.names.lookup y≠_;rw[k];decide)] at q;exact q
 .exact e0.cD.fresh (m_ (x.above y c (c7 h)))
 .unfold start
  show _=N.length;rw[aO,aT,fF];omega
theorem XT{CX:sH}{P:aR}{w:bu}{K:W.Frag}{mg:Str->Option af}{base:bN}{k:Nat}{f:ai}{name qual:Str}{params:Arguments}{body:List bR}{scope:iz}{dV kV nr pm gT ct oc:af}{an od:Option ai}
  {qU:Array (Option af)} {N ps:List Str} {sp:Sp} (lk:K.lookup f=aa ⟨oc,od,.func (W.fnOf name qual params body scope dV kV nr pm an gT ct),qU⟩) (tD:W.codeIn K gT qual=true) (S:gj N ps scope)
  (len:∀vs H Q E,sp vs H Q E->vs.length=ps.length)
  (lK:∀(A:bW) (outer:List Env) (s:aj) (H:Hp) (vs:List V) (Q:VK) (E:XK),eJ k (A.deeper (iH qual scope s.heap.objs.size f gT))->sp vs H Q E ->
   ∃t,k8 (h8 CX P w K mg base N qual scope f gT A outer s H E) body t/\t { nx:=λ_ H'=>Q .bH H',rt:=Q } (start N vs) H) :
  bE P w K mg base CX (k+1) f (W.fnOf name qual params body scope dV kV nr pm an gT ct) ps sp:=by
 refine⟨len,λA outer s H args us vs Q E hr e0 hb r oX=>?_⟩;have hl:=len _ _ _ _ oX;have KX:K.In s.heap:=e0.mod.Di.keeps λb o e=>(e0.bs b o e).1;have XU:s.heap.NoLimit:=e0.mod.nolimit.keeps λb o e=>(e0.bs b o e).1;have DB:∀y∈ps.zip us,scope.names.lookup y.1=aa .local\/(scope.names.lookup y.1=aa .cell/\((F5 (s.heap.objs.size+1) scope.names []).lookup y.1).isSome=true):=λ⟨n,v⟩ hy=>by
  rcases S.par n (oB hy).1 with q | q
  .exact .inl q
  .exact .inr ⟨q,W.cellsFrom_some _ _ _ (.inl q)⟩
 refine codeAny_call_function hr.depth (KX _ _ lk) rfl S.co S.gen rfl (W.codeRec_of KX tD) (hb _ _ _ _ ?_);refine wpAny_newFunctionEnv_cells S.kind DB λenv he s1 x=>?_;subst he;refine⟨XU.keeps x.toInCall.keep,codeAny_func ?_⟩;obtain⟨t,ht,hq⟩:=lK A outer s H vs Q E (hr.deeper _) oX;have I:Inv (h8 CX P w K mg base N qual scope f gT A outer s H E) [] (start N vs) H s1:=XS S hr.hd e0 hl r x;refine bG (ht [] s1 (start N vs) H _ I hq) (λfl s' hs=>?_) λe s' hs=>hs;have eV:∀{σ':St} {H':Hp} {v:V} {u:af},Inv (h8 CX P w K mg base N qual scope f gT A outer s H E) [] σ' H' s'->RelV v u->Q v H'->CE outer P w H s Q u s':=
  λ{σ' H' v u} J rv q=>⟨v,H',J.os,J.bare,J.base,J.cD,rv,q⟩
 cases fl with
 | ret u=>
   obtain⟨v,σ',H',J,rv,q⟩:=hs;exact eV J rv q
 | next=>
   obtain⟨σ',H',J,q⟩:=hs;exact eV (v:=V.bH) (u:=jJ) J rfl q
 | brk=>
   obtain⟨_,_,_,q⟩:=hs;exact dB q
 | cont=>
   obtain⟨_,_,_,q⟩:=hs;exact dB q
section
variable {X:Cx}{x:Str}{p pos:Pos}{e:bt}{es:List bt}{t:TA}{id T:String}{r:List V->Hp->VK->Prop}
def GB(r:List V->Hp->VK->Prop)(t:TA):TE:=fun σ H Q=>t σ H λvs H1=>r vs H1 Q
theorem Qf(hc:rC X (.builtin id) r)(hg:Gl X x)(hm:X.mg x=ae)(hv:dz x=aa (.builtin id))(ha:PA X (e::es) t)(hn:x ≠ "__name__":=by decide)(jE:(x==("__debug__" : Str))=false:=by decide)
  (he:av (e::es) X.env=(false,eval e X.env)::av es X.env:=by rfl) (gF:(bK pos (av es X.env)).any (·.1)=false:=by rfl):PE X (.Call (.Name x p) (e::es) [] pos) (GB r t):=by
 intro ag s σ H Q I h;refine fK (z1 I hg hm hv ?_ hn jE);exact kY (dM (ha pos ag s σ H _ I h) λus s1 ⟨vs,H1,I1,r1,q1⟩=>hc ag s1 σ H1 vs us Q I1 r1 q1) he gF
theorem Qg(hc:rC X (.type T) r)(hg:Gl X x)(hm:X.mg x=ae)(hv:dz x=aa (.type T))(ha:PA X (e::es) t)(hn:x ≠ "__name__":=by decide)(jE:(x==("__debug__" : Str))=false:=by decide)
  (he:av (e::es) X.env=(false,eval e X.env)::av es X.env:=by rfl) (gF:(bK pos (av es X.env)).any (·.1)=false:=by rfl):PE X (.Call (.Name x p) (e::es) [] pos) (GB r t):=by
 intro ag s σ H Q I h;refine fK (z1 I hg hm hv ?_ hn jE);exact gY (dM (ha pos ag s σ H _ I h) λus s1 ⟨vs,H1,I1,r1,q1⟩=>hc ag s1 σ H1 vs us Q I1 r1 q1) he gF
end
section
variable {κ:Type}[DecidableEq κ]
noncomputable def kz(kvs:List (κ×V))(k:κ):Option V:=(kvs.find? λkv=>decide (kv.1=k)).map (·.2)
noncomputable def jV(kvs:List (κ×V))(k:κ)(v:V):List (κ×V):=
 if(kvs.any λkv=>decide (kv.1=k))=true then kvs.map (λkv=>if kv.1=k then(kv.1,v) else kv) else kvs++[(k,v)]
theorem GC{p:κ×V}{r:List (κ×V)}{k:κ}(e:p.1=k):kz (p::r) k=aa p.2:=by simp[kz,bU,e]
theorem GD{p:κ×V}{r:List (κ×V)}{k:κ}(e:¬p.1=k):kz (p::r) k=kz r k:=by simp[kz,bU,e]
theorem Qh(k:κ):∀kvs:List (κ×V),(kvs.any λkv=>decide (kv.1=k))=(kz kvs k).isSome
 |[]=>rfl
 | p::r=>by
   rw[fC];by_cases e:p.1=k
   .simp only[GC e,decide_eq_true e,Bool.true_or,Option.isSome_some]
   .rw[GD e,decide_eq_false e,qt];exact Qh k r
theorem J9(kvs:List (κ×V))(k:κ)(v:V):(jV kvs k v).length<=kvs.length+1:=by
 unfold jV
 split
 .rw[aT];omega
 .rw[aO,aY,oC];omega
theorem jc.jd{o:Option V}{u:Option af}(r:jc o u):o.isSome=u.isSome:=by
 cases o with
 | none=>cases u with
   |none=>rfl
   |some _=>exact(show False from r).elim
 | some _=>cases u with
   |none=>exact(show False from r).elim
   |some _=>rfl
theorem KV.val{kvs:List (κ×V)}{vs:List (κ×af)}(r:KV kvs vs)(k:κ):jc (kz kvs k) (oT vs k):=by
 unfold KV at r
 induction r with
 |nil=>exact dX
 | @cons p q ps qs h t ih=>
   obtain⟨h1,h2⟩:=h;by_cases e:p.1=k
   .have e':q.1=k:=h1.symm.trans e
    have b:oT (q::qs) k=aa q.2:=by simp[oT,bU,e']
    rw[GC e,b];exact h2
   .have e':¬q.1=k:=λz=>e (h1.trans z)
    have b:oT (q::qs) k=oT qs k:=by simp[oT,bU,e']
    rw[GD e,b];exact ih
theorem KV.any{kvs:List (κ×V)}{vs:List (κ×af)}(r:KV kvs vs)(k:κ):(kvs.any λkv=>decide (kv.1=k))=vs.any λkv=>decide (kv.1=k):=by
 unfold KV at r
 induction r with
 |nil=>rfl
 |cons h t ih=>rw[fC,fC,ih,h.1]
theorem KV.tG{kvs:List (κ×V)}{vs:List (κ×af)}(r:KV kvs vs)(k:κ){y:V}{u:af}(ry:RelV y u) :
  KV (kvs.map λkv=>if kv.1=k then(kv.1,y) else kv) (vs.map λkv=>if kv.1=k then(kv.1,u) else kv):=by
 unfold KV at r ⊢
 induction r with
 |nil=>exact .nil
 | @cons p q ps qs h t ih=>
   rw[aC,aC];refine .cons ?_ ih;obtain⟨h1,h2⟩:=h;by_cases e:p.1=k
   .rw[if_pos e,if_pos (h1.symm.trans e)];exact⟨h1,ry⟩
   .rw[if_neg e,if_neg (λz=>e (h1.trans z))];exact⟨h1,h2⟩
theorem KV.put{kvs:List (κ×V)}{vs:List (κ×af)}(r:KV kvs vs)(k:κ){y:V}{u:af}(ry:RelV y u):KV (jV kvs k y) (stored vs k u):=by
 unfold jV stored;rw[r.any k];by_cases e:(vs.any λkv=>decide (kv.1=k))=true
 .rw[if_pos e,if_pos e];exact r.tG k ry
 .rw[if_neg e,if_neg e];exact BD r ⟨rfl,ry⟩
theorem KV.length{kvs:List (κ×V)}{vs:List (κ×af)}(r:KV kvs vs):kvs.length=vs.length:=lr r
end
theorem BV{P:aR}{w:bu}{k:bZ}{u:af}(r:RelV (kV k) u):(kJ P w).is k u=true:=by
 cases k with
 |inl i=>obtain⟨t,e⟩:=(show∃t,u=m8 i t from r);subst e;exact Wn P w i t
 |inr x=>obtain⟨t,e⟩:=(show∃t,u=m9 x t from r);subst e;exact Wo P w x t
theorem Qi{P:aR}{w:bu}:∀{ks:List bZ} {us:List af},cf (ks.map kV) us->ItemsAre (kJ P w) ks us
 |[],_,r=>by rw[f_] at r;cases r;exact .nil
 | k::ks,_,r=>by
   rw[aC] at r;cases r with
   |cons h t=>exact .cons (BV h) (Qi t)
abbrev KT(H:Hp):List (List bZ×V)->List (List bZ×ai×af)->Prop:=Paired λp q=>p.1=q.1/\H q.2.1=aa (.tup (p.1.map kV))/\RelV p.2 q.2.2
theorem KT.val{H:Hp}{kvs:List (List bZ×V)}{xs:List (List bZ×ai×af)}(r:KT H kvs xs)(k:List bZ):jc (kz kvs k) ((sx xs k).map (·.2)):=by
 induction r with
 |nil=>exact dX
 | @cons p q ps qs h t ih=>
   obtain⟨h1,_,h2⟩:=h;by_cases e:p.1=k
   .have e':q.1=k:=h1.symm.trans e
    have b:sx (q::qs) k=aa q.2:=by simp[sx,bU,e']
    rw[GC e,b];exact h2
   .have e':¬q.1=k:=λz=>e (h1.trans z)
    have b:sx (q::qs) k=sx qs k:=by simp[sx,bU,e']
    rw[GD e,b];exact ih
theorem KT.tG{H:Hp}{kvs:List (List bZ×V)}{xs:List (List bZ×ai×af)}(r:KT H kvs xs)(k:List bZ){y:V}{u:af}(ry:RelV y u) :
  KT H (kvs.map λkv=>if kv.1=k then(kv.1,y) else kv) (xs.map (putAt k u)):=by
 induction r with
 |nil=>exact .nil
 | @cons p q ps qs h t ih=>
   rw[aC,aC];refine .cons ?_ ih;obtain⟨h1,h2,h3⟩:=h;unfold putAt;by_cases e:p.1=k
   .rw[if_pos e,if_pos (h1.symm.trans e)];exact⟨h1,h2,ry⟩
   .rw[if_neg e,if_neg (λz=>e (h1.trans z))];exact⟨h1,h2,h3⟩
theorem KT.put{H:Hp}{kvs:List (List bZ×V)}{xs:List (List bZ×ai×af)}(r:KT H kvs xs)(k:List bZ){b:ai}{y:V}{u:af}(hb:H b=aa (.tup (k.map kV)))(ry:RelV y u) :
  KT H (jV kvs k y) (storedH xs k b u):=by
 have e:(kvs.any λkv=>decide (kv.1=k))=(sx xs k).isSome:=by
  rw[Qh,(r.val k).jd,mj]
 unfold jV storedH;rw[e];by_cases q:(sx xs k).isSome=true
 .rw[if_pos q,if_pos q];exact r.tG k ry
 .rw[if_neg q,if_neg q];exact BD r ⟨rfl,hb,ry⟩
theorem KT.keeps{H H':Hp}{kvs:List (List bZ×V)}{xs:List (List bZ×ai×af)}(r:KT H kvs xs)(ht:∀b ys,H b=aa (.tup ys)->H' b=aa (.tup ys)):KT H' kvs xs:=
 Paired.zU r λ_ _ z=>⟨z.1,ht _ _ z.2.1,z.2.2⟩
section
variable {P:aR}{w:bu}{H:Hp}{h:bN}{a:ai}
theorem Qj{u:HO}(ok:iM P w H h)(e:Rd H a u):jS P w H h a u:=e.ok ok
theorem xa{kvs:List (bZ×V)}(ok:iM P w H h)(e:Rd H a (.dK kvs)):kvs.length<=sizeLine/\(a==eY)=false/\∃vs,KV kvs vs/\h.DictOf (kJ P w) a vs:=
 show jS P w H h a (.dK kvs) from Qj ok e
theorem Qk{kvs:List (bZ×V)}(ok:iM P w H h)(e:H a=aa (.dK kvs)):kvs.length<=sizeLine/\(a==eY)=false/\∃vs,KV kvs vs/\h.DictOf (kJ P w) a vs:=xa ok (.inl e)
theorem DC{ks:List bZ}(ok:iM P w H h)(e:H a=aa (.tup (ks.map kV))):(pP (kJ P w)).is h ks a:=by
 obtain⟨_,cC,r,o,h1,h2,n,h3⟩:=(show jS P w H h a (.tup (ks.map kV)) from ok a _ e);exact⟨o,cC.toArray,n,h1,h2,h3,by simpa using Qi r⟩
theorem BW{kvs:List (List bZ×V)}(ok:iM P w H h)(e:Rd H a (.dT kvs)):kvs.length<=sizeLine/\(a==eY)=false /\
  ∃xs,KT H kvs xs/\h.DictOfH (pP (kJ P w)) a xs:=by
 obtain⟨z,y,xs,r,o,es,ep,h1,h2,h3,h4,h5⟩:=(show jS P w H h a (.dT kvs) from Qj ok e);refine⟨z,y,xs,r,o,es,ep,h1,h2,h3,h4,λx hx=>?_,h5⟩;have all:∀{l:List (List bZ×V)} {m:List (List bZ×ai×af)},KT H l m->∀x∈m,(pP (kJ P w)).is h x.1 x.2.1:=by
  intro l m q
  induction q with
  |nil=>intro x hx;exact nomatch hx
  | @cons p q ps qs hq t ih=>
    intro x hx;rcases aF.mp hx with e | hx
    .subst e
     exact DC ok (by rw[<- hq.1];exact hq.2.1)
    .exact ih x hx
 exact all r x hx
theorem XW{kvs:List (List bZ×V)}(ok:iM P w H h)(e:H a=aa (.dT kvs)):kvs.length<=sizeLine/\(a==eY)=false /\
 ∃xs,KT H kvs xs/\h.DictOfH (pP (kJ P w)) a xs:=BW ok (.inl e)
end
def nJ(H:Hp)(a:ai)(y:V)(r:Option V):Prop:=
 (∃kvs k,Rd H a (.dK kvs)/\y=kV k/\r=kz kvs k)\/∃kvs k b,Rd H a (.dT kvs)/\y=.ref b/\H b=aa (.tup (k.map kV))/\r=kz kvs k
def DD(H:Hp)(a:ai)(y v:V)(H':Hp):Prop:=
 (∃kvs k,H a=aa (.dK kvs)/\y=kV k/\kvs.length<sizeLine/\H'=upd H a (.dK (jV kvs k v))) \/
 ∃kvs k b,H a=aa (.dT kvs)/\y=.ref b/\H b=aa (.tup (k.map kV))/\kvs.length<sizeLine/\H'=upd H a (.dT (jV kvs k v))
section
variable {X:Cx}{ag:List (ai×Obj)}{σ:St}{H:Hp}{s:aj}{a:ai}{y v:V}{u r:af}{o:Option V}{A:bW}{E:af->aj->Prop}
theorem Inv.rG(I:Inv X ag σ H s):eY<s.heap.objs.size:=by
 have h:bp<s.heap.objs.size:=(I.mod.glob.keeps I.bk).lt;exact F6 (by decide) h
theorem XX{Q:af->aj->Prop}(hu:A.units+1<fT)(I:Inv X ag σ H s)(g:nJ H a y (aa v))(ry:RelV y u)(h:∀w' s',Inv X ag σ H s'->RelV v w'->Q w' s') :
  wpAny (aJ X.prog X.w) A (ro (.ref a) u) Q E s:=by
 rcases g with⟨kvs,k,e,ey,l⟩ | ⟨kvs,k,b,e,ey,eb,l⟩
 .subst ey
  obtain⟨z,hd,vs,mr,dd⟩:=xa I.cD e;obtain⟨w',hw,u5⟩:=jc.some_of (v:=v) (o:=oT vs k) (by rw[l];exact mr.val k);exact wpAny_getItem_of (BV ry) dd.mapOf hw (h w' _ (I.tok _) u5)
 .subst ey
  cases (show u=aP b from ry);obtain⟨z,hd,xs,mr,dd⟩:=BW I.cD e;obtain⟨w',hw,u5⟩:=jc.some_of (v:=v) (o:=(sx xs k).map (·.2)) (by rw[l];exact mr.val k);obtain⟨p,hp,oY⟩:=bg.mp hw;refine wpAny_getItem_heap (jy hu) (DC I.cD eb) dd hp ?_;rw[oY];exact h w' _ (I.tok _) u5
theorem J_{Q:af->aj->Prop}(hu:A.units+1<fT)(I:Inv X ag σ H s)(g:nJ H a y o)(ry:RelV y u)(h:∀s',Inv X ag σ H s'->Q (.bool o.isSome) s') :
  wpAny (aJ X.prog X.w) A (cX .In u (.ref a)) Q E s:=by
 rcases g with⟨kvs,k,e,ey,l⟩ | ⟨kvs,k,b,e,ey,eb,l⟩
 .subst ey
  obtain⟨z,hd,vs,mr,dd⟩:=xa I.cD e;refine wpAny_in_of (BV ry) hd dd.mapOf ?_;rw[<- (mr.val k).jd,<- l];exact h _ (I.tok _)
 .subst ey
  cases (show u=aP b from ry);obtain⟨z,hd,xs,mr,dd⟩:=BW I.cD e;refine wpAny_in_heap (jy hu) (DC I.cD eb) hd dd ?_;have q:=(mr.val k).jd;rw[mj] at q;rw[<- q,<- l];exact h _ (I.tok _)
theorem XY{Q:af->aj->Prop}(hu:A.units+1<fT)(I:Inv X ag σ H s)(g:nJ H a y o)(ry:RelV y u)(h:∀s',Inv X ag σ H s'->Q (.bool (!o.isSome)) s') :
  wpAny (aJ X.prog X.w) A (cX .NotIn u (.ref a)) Q E s:=by
 rcases g with⟨kvs,k,e,ey,l⟩ | ⟨kvs,k,b,e,ey,eb,l⟩
 .subst ey
  obtain⟨z,hd,vs,mr,dd⟩:=xa I.cD e;refine wpAny_notIn_of (BV ry) hd dd.mapOf ?_;rw[<- (mr.val k).jd,<- l];exact h _ (I.tok _)
 .subst ey
  cases (show u=aP b from ry);obtain⟨z,hd,xs,mr,dd⟩:=BW I.cD e;refine wpAny_notIn_heap (jy hu) (DC I.cD eb) hd dd ?_;have q:=(mr.val k).jd;rw[mj] at q;rw[<- q,<- l];exact h _ (I.tok _)
theorem J'{h':bN}{t':Nat}{ob:HO}(I:Inv X ag σ H s)(mu:Dg (H a))(hs:fZ a s.heap h')(he:∃q,h'.get? a=aa q)(new:jS X.prog X.w (upd H a ob) h' a ob) :
  Inv X ag σ (upd H a ob) { s with heap:=h',toks:=t' }:=
 I.write (x:=a) (e:=a) mu (.inl rfl) (λb q hb z=>(hs.2 b hb).trans z) he new
theorem Ql{P:aR}{w:bu}{H':Hp}{h':bN}{kvs:List (bZ×V)}{vs:List (bZ×af)}(z:kvs.length<=sizeLine)(hd:(a==eY)=false)(mr:KV kvs vs)(dd:h'.DictOf (kJ P w) a vs) :
 jS P w H' h' a (.dK kvs):=⟨z,hd,vs,mr,dd⟩
theorem XZ{H':Hp}{Q:Unit->aj->Prop}(hu:A.units+1<fT)(I:Inv X ag σ H s)(g:DD H a y v H')(ry:RelV y u)(rv:RelV v r)(h:∀s',Inv X ag σ H' s'->Q () s') :
  wpAny (aJ X.prog X.w) A (setItem (.ref a) u r) Q E s:=by
 rcases g with⟨kvs,k,e,ey,l,eH⟩ | ⟨kvs,k,b,e,ey,eb,l,eH⟩
 .subst ey eH
  obtain⟨z,hd,vs,mr,dd⟩:=Qk I.cD e;have hz:vs.length<=sizeLine:=by rw[<- mr.length];exact z
  have hl:(jV kvs k v).length<=sizeLine:=by have:=J9 kvs k v;omega
  refine wpAny_setItem_pairs (hsz:=hz) (BV ry) dd λh' Af hs=>h _ ?_;have he:∃q,h'.get? a=aa q:=let ⟨q,_,_,hq,_⟩:=Af;⟨q,hq⟩;exact J' I (by rw[e];exact dX) hs he (Ql hl hd (mr.put k rv) Af)
 .subst ey eH
  cases (show u=aP b from ry);obtain⟨z,hd,xs,mr,dd⟩:=XW I.cD e;have hz:xs.length<=sizeLine:=by rw[<- lr mr];exact z
  have hl:(jV kvs k v).length<=sizeLine:=by have:=J9 kvs k v;omega
  refine wpAny_setItem_heap (hsz:=hz) (jy hu) (DC I.cD eb) dd λh' Af hs=>h _ ?_;obtain⟨q,es,ep,hq,h2,h3,h4,_,h5⟩:=Af;refine J' I (by rw[e];exact dX) hs ⟨q,hq⟩ ⟨hl,hd,_,(mr.put k eb rv).keeps λc ys ec=>?_,q,es,ep,hq,h2,h3,h4,h5⟩;rw[dh (Wq ec e (λz=>nomatch z))];exact ec
end
section
variable {X:Cx}{ag:List (ai×Obj)}{σ:St}{H:Hp}{s:aj}{a:ai}{kvs:List (bZ×V)}{k:bZ}{u:af}{A:bW}{E:af->aj->Prop}
theorem X0{Q:af->aj->Prop}(I:Inv X ag σ H s)(e:Rd H a (.dK kvs))(h:∀t s',Inv X ag σ H s'->Q (.int kvs.length t) s'):wpAny (aJ X.prog X.w) A (call (.builtin "len") [.ref a]) Q E s:=by
 obtain⟨z,hd,vs,mr,dd⟩:=xa I.cD e;refine call_len_dict hd dd (by rw[<- mr.length];rw[dQ] at z;omega) ?_;rw[<- mr.length];exact h _ _ (I.tok _)
end
def Ag(i:bt):Prop:=∀ov iv,qu i false ov iv=operate [ov,iv] (ro ov iv)
theorem X1{prog:aR}{w:bu}{A:bW}{E:af->aj->Prop}{s:aj}{env:Env}{value je:bt}{pos:Pos}{T id:String}{Q:af->aj->Prop}
  (hl:BE (.type T) "__getitem__" = pure (aa (.builtin id))) (hs:Ag je)
  (h:wpAny (aJ prog w) A (eval value env) (λo s₁=>wpAny (aJ prog w) A (eval je env) (λi s₂=>s₂.TypeIs o T/\wpAny (aJ prog w) A (ro o i) Q E s₂) E s₁) E s) :
  wpAny (aJ prog w) A (eval (.Subscript value je pos) env) Q E s:=by
 refine BF (bG h (λo s₁ h₁=>bG h₁ (λi s₂ h₂=>?_) λ_ _ x=>x) λ_ _ x=>x);obtain⟨hT,h₂⟩:=h₂;unfold uk;refine ay ?_;rw[getitemInPython_of_ne hT.not_modules];refine ay (qT hT hl ?_);have eV:wpAny (aJ prog w) A (qu je false o i) (λr s₃=>wpAny (aJ prog w) A (letTemporaryGo value o r >>= λ_=>pure r) Q E s₃) E s₂:=by
  rw[hs o i];exact wpAny_operating (bG h₂ (λr s₃ h₃=>ay (wpAny_letTemporaryGo (bc h₃))) λ_ _ x=>x)
 first
  |exact bc (ay eV)
  |exact ay (bc (ay eV))
  |exact ay eV
theorem X2{X:Cx}{ag:List (ai×Obj)}{σ:St}{H:Hp}{s:aj}{a:ai}{y:V}{o:Option V}(I:Inv X ag σ H s)(g:nJ H a y o):s.TypeIs (.ref a) "dict":=by
 rcases g with⟨kvs,k,e,_,_⟩ | ⟨kvs,k,b,e,_,_,_⟩
 .obtain⟨_,_,vs,_,dd⟩:=xa I.cD e
  exact dd.typeIs
 .obtain⟨_,_,xs,_,dd⟩:=BW I.cD e
  exact dd.typeIs
def X3(td ty:TE):TE:=fun σ H Q=>td σ H λx H1=>ty σ H1 λy H2=>∃a v,x=.ref a/\nJ H2 a y (aa v)/\Q v H2
def X4(ty td:TE):TE:=fun σ H Q=>ty σ H λy H1=>td σ H1 λx H2=>∃a o,x=.ref a/\nJ H2 a y o/\Q (.bl (!o.isSome)) H2
def X5(td ty tv:TE):TS:=λD σ H=>tv σ H λv H1=>td σ H1 λx H2=>ty σ H2 λy H3=>∃a H4,x=.ref a/\DD H3 a y v H4/\D.nx σ H4
section
variable {X:Cx}{o i e value:bt}{pos jo JZ:Pos}{td ty tv:TE}
theorem X6(hu:X.A.units+1<fT)(ho:PE X o td)(hi:PE X i ty)(hs:Ag i):PE X (.Subscript o i pos) (X3 td ty):=by
 intro ag s σ H Q I h;refine X1 PySem.F.slot_dict_getitem.lookup hs (dM (ho ag s σ H _ I h) λu s1 cS=>?_);obtain⟨x,H1,I1,rx,q1⟩:=cS;refine dM (hi ag s1 σ H1 _ I1 q1) λiv s2 cS=>?_;obtain⟨y,H2,I2,ry,a,v,ex,g,q2⟩:=cS;subst ex;obtain rfl:u=aP a:=rx;exact⟨X2 I2 g,XX hu I2 g ry λw' s3 I3 u5=>⟨v,H2,I3,u5,q2⟩⟩
theorem X7(hu:X.A.units+1<fT)(hi:PE X i ty)(ho:PE X o td):PC X .NotIn i o (X4 ty td):=by
 intro ag s σ H Q I h;refine dM (hi ag s σ H _ I h) λiv s1 cS=>?_;obtain⟨y,H1,I1,ry,q1⟩:=cS;refine dM (ho ag s1 σ H1 _ I1 q1) λu s2 cS=>?_;obtain⟨x,H2,I2,rx,a,ov,ex,g,q2⟩:=cS;subst ex;obtain rfl:u=aP a:=rx;exact XY hu I2 g ry λs3 I3=>⟨.bl (!ov.isSome),H2,I3,rfl,q2⟩
theorem X8(hu:X.A.units+1<fT)(ho:PE X o td)(hi:PE X i ty)(hv:PE X value tv)(hs:fu value (aa (.Subscript o i jo)) pos.line X.env=pure false) :
  PS X (.Assign [.Subscript o i jo] value pos) (X5 td ty tv):=by
 intro ag s σ H D I h;refine wpAny_Assign_Subscript (dM (hv ag s σ H _ I h) λr s1 cS=>?_) hs;obtain⟨v,H1,I1,rv,q1⟩:=cS;refine dM (ho ag s1 σ H1 _ I1 q1) λu s2 cS=>?_;obtain⟨x,H2,I2,rx,q2⟩:=cS;refine dM (hi ag s2 σ H2 _ I2 q2) λiv s3 cS=>?_;obtain⟨y,H3,I3,ry,a,H4,ex,g,q3⟩:=cS;subst ex;obtain rfl:u=aP a:=rx;exact XZ hu I3 g ry rv λs4 I4=>⟨σ,H4,I4,q3⟩
end
theorem Qm{P:aR}{w:bu}{H:Hp}(h:bN)(hb:eY<h.objs.size):jS P w H (h.push { cls:=.type "dict",data:=.dict #[] }) h.objs.size (.dK []):=
 ⟨dJ _,beq_eq_false_iff_ne.mpr (bP (aQ hb)),[],.nil,Heap.DictOf.new h⟩
def X9:TE:=λ_ H Q=>∀p,H p=ae->Q (.ref p) (upd H p (.dK []))
section
variable {X:Cx}{pos:Pos}
theorem X_:PE X (.Dict [] [] pos) X9:=λag s σ H Q I h=>
 wpAny_Dict_empty ⟨.ref s.heap.objs.size,_,I.laid (a:=s.heap.objs.size) (o:=.dK []) (t':=s.toks) (λ_ _ q=>aw _ q) (az _) (Qm s.heap I.rG),rfl,h _ (I.cD.fresh (az _))⟩
end
def Ka:List (TE×TE)->St->Hp->(List (V×V)->Hp->Prop)->Prop
 |[],_,H,Q=>Q [] H
 |(tk,tv)::r,σ,H,Q=>tk σ H λx H1=>tv σ H1 λy H2=>Ka r σ H2 λps H3=>Q ((x,y)::ps) H3
abbrev VV:List (V×V)->List (af×af)->Prop:=Paired λp q=>RelV p.1 q.1/\RelV p.2 q.2
def GF(X:Cx)(pos:Pos)(nK:List (Option bt))(nM:List bt)(xb:List (TE×TE)):Prop:=
 ∀ (ag:List (ai×Obj)) (s:aj) (σ:St) (H:Hp) (Q:List (V×V)->Hp->Prop),Inv X ag σ H s->Ka xb σ H Q ->
   wpAny (aJ X.prog X.w) X.A (evalPairs (pairTrees nK nM X.env pos)) (λvs s'=>∃ps H',Inv X ag σ H' s'/\VV ps vs/\Q ps H') X.xe s
theorem Qn{X:Cx}{pos:Pos}:GF X pos [] [] []:=λag s σ H Q I h=>pairTrees_nil_walk ⟨[],H,I,.nil,h⟩
theorem GG{X:Cx}{pos:Pos}{k v:bt}{ks:List (Option bt)}{vs:List bt}{tk tv:TE}{xb:List (TE×TE)}(hk:PE X k tk)(hv:PE X v tv)(hr:GF X pos ks vs xb) :
  GF X pos (aa k::ks) (v::vs) ((tk,tv)::xb):=λag s σ H Q I h=>
 pairTrees_cons_walk (dM (hk ag s σ H _ I h) λu s1 ⟨x,H1,I1,rx,q1⟩=>dM (hv ag s1 σ H1 _ I1 q1) λw2 s2 ⟨y,H2,I2,ry,q2⟩=>
  dM (hr ag s2 σ H2 _ I2 q2) λws s3 ⟨ps,H3,I3,mr,q3⟩=>⟨(x,y)::ps,H3,I3,.cons ⟨rx,ry⟩ mr,q3⟩)
noncomputable def y'(kvs more:List (bZ×V)):List (bZ×V):=more.foldl (λacc kv=>jV acc kv.1 kv.2) kvs
theorem KV.merge:∀{more:List (bZ×V)} {rs:List (bZ×af)} {kvs:List (bZ×V)} {vs:List (bZ×af)},KV more rs->KV kvs vs->KV (y' kvs more) (merged vs rs):=by
 intro more rs kvs vs r;unfold KV at r
 induction r generalizing kvs vs with
 |nil=>intro q;exact q
 | @cons p q ps qs h t ih=>
   intro r0;have e:KV (jV kvs p.1 p.2) (stored vs q.1 q.2):=by
    have:=r0.put p.1 h.2;rw[<- h.1];exact this
   exact ih e
theorem Qo:∀(more kvs:List (bZ×V)),(y' kvs more).length<=kvs.length+more.length
 |[],kvs=>by show kvs.length<=kvs.length+0;omega
 | p::r,kvs=>by
   have h1:=Qo r (jV kvs p.1 p.2);have h2:=J9 kvs p.1 p.2;show(y' (jV kvs p.1 p.2) r).length<=_;rw[aY];omega
theorem Qp{P:aR}{w:bu}:∀{kvs:List (bZ×V)} {ws:List (af×af)},VV (kvs.map λkv=>(kV kv.1,kv.2)) ws->∃rs,Carries (kJ P w) ws rs/\KV kvs rs
 |[],_,r=>by rw[f_] at r;cases r;exact⟨[],dX,.nil⟩
 | p :: kvs,_,r=>by
   rw[aC] at r;cases r with
   | @cons a b as bs h t=>
     obtain⟨rs,c,q⟩:=Qp (P:=P) (w:=w) t;obtain⟨b1,b2⟩:=b;exact⟨(p.1,b2)::rs,⟨BV h.1,rfl,c⟩,.cons ⟨rfl,h.2⟩ q⟩
def X'(xb:List (TE×TE)):TE:=fun σ H Q=>∀p,H p=ae->Ka xb σ (upd H p (.dK [])) λps H2=>H2 p=aa (.dK [])/\∃kvs:List (bZ×V),ps=kvs.map (λkv=>(kV kv.1,kv.2))/\kvs.length<=15/\Q (.ref p) (upd H2 p (.dK (y' [] kvs)))
theorem Qq{X:Cx}{pos:Pos}{nK:List (Option bt)}{nM:List bt}{xb:List (TE×TE)}(h:GF X pos nK nM xb)(hall:nK.all (·.isSome)=true)(hl:nK.length=nM.length)(h0:nK≠[])
  (Ya:nK.length<=15):PE X (.Dict nK nM pos) (X' xb):=by
 intro ag s σ H Q I q;have hn:=I.cD.fresh (az s.heap.objs.size);have I1:=I.laid (a:=s.heap.objs.size) (o:=.dK []) (h':=s.heap.push { cls:=.type "dict",data:=.dict #[] }) (t':=s.toks) (λ_ _ q=>aw _ q) (az _) (Qm s.heap I.rG);refine wpAny_Dict_walk (knd:=kJ X.prog X.w) hall hl h0 Ya (dM (h ag _ σ _ _ I1 (q _ hn)) λws s2 cS=>?_);obtain⟨ps,H2,I2,mr,e,kvs,ep,lk,q2⟩:=cS;subst ep;obtain⟨rs,c,rk⟩:=Qp (P:=X.prog) (w:=X.w) mr;obtain⟨z,hd,vs0,r0,dd⟩:=Qk I2.cD e;cases r0;refine⟨rs,c,dd,λh' Af hs=>⟨.ref s.heap.objs.size,_,?_,rfl,q2⟩⟩;have hz:(y' [] kvs).length<=sizeLine:=by
  have h1:=Qo kvs [];rw[oC] at h1;rw[dQ];omega
 have he:∃q,h'.get? s.heap.objs.size=aa q:=let ⟨q,_,_,hq,_⟩:=Af;⟨q,hq⟩;exact J' I2 (by rw[e];exact dX) hs he (Ql hz hd (rk.merge .nil) Af)
def Yb(H:Hp)(a:ai):Prop:=(∃kvs,Rd H a (.dK kvs))\/∃kvs,Rd H a (.dT kvs)
theorem Yc{X:Cx}{ag:List (ai×Obj)}{σ:St}{H:Hp}{s:aj}{a:ai}(I:Inv X ag σ H s)(d:Yb H a) :
  s.TypeIs (.ref a) "dict" /\ (∀b,aP a=.ref b->∃ob,s.heap.get? b=aa ob/\ob.dict=ae)/\(a==eY)=false:=by
 rcases d with⟨kvs,e⟩ | ⟨kvs,e⟩
 .obtain⟨_,hd,vs,_,dd⟩:=xa I.cD e
  refine⟨dd.typeIs,λb q=>?_,hd⟩;cases q;obtain⟨ob,_,_,h1,h2,_⟩:=dd;exact⟨ob,h1,h2.2.1⟩
 .obtain⟨_,hd,xs,_,dd⟩:=BW I.cD e
  refine⟨dd.typeIs,λb q=>?_,hd⟩;cases q;obtain⟨ob,_,_,h1,h2,_⟩:=dd;exact⟨ob,h1,h2.2.1⟩
end L2
namespace HT
open PySem PyProof.Rows
section
variable {prog:aR}{w:bu}{A:bW}{E:af->aj->Prop}{s:aj}
noncomputable def oG(n d:Nat):Option Int->Nat
 |none=>d
 |some v=>if v<0 then(v+(n:Int)).toNat else min v.toNat n
theorem u6(n d:Nat):oG n d ae=d:=rfl
theorem xc(n d k:Nat):oG n d (aa (k:Int))=min k n:=by
 show(if(k:Int)<0 then((k:Int)+(n:Int)).toNat else min (k:Int).toNat n)=min k n;rw[if_neg (by omega),wR]
end
end HT
namespace L2
open PySem PySem.Spec PyProof.Rows
abbrev TO:=St->Hp->(Option Int->Hp->Prop)->Prop
def PO(X:Cx)(e:Option bt)(t:TO):Prop:=
 ∀ (ag:List (ai×Obj)) (s:aj) (σ:St) (H:Hp) (Q:Option Int->Hp->Prop),Inv X ag σ H s->t σ H Q ->
   wpAny (aJ X.prog X.w) X.A (evalPart e X.env) (λu s'=>∃o H',Inv X ag σ H' s'/\IsPart u o/\Q o H') X.xe s
def Yd:TO:=λ_ H Q=>Q ae H
def Ye(t:TE):TO:=fun σ H Q=>t σ H λx H1=>∃i,x=.int i/\Q (aa i) H1
section
variable {X:Cx}{e:bt}{te:TE}{lo hi:Option bt}{tl th:TO}{pos p2:Pos}
theorem Yf:PO X ae Yd:=by
 intro ag s σ H Q I h;rw[evalPart_none];exact bc ⟨ae,H,I,.none,h⟩
theorem Yg(h:PE X e te):PO X (aa e) (Ye te):=by
 intro ag s σ H Q I hw;rw[evalPart_some];refine dM (h ag s σ H _ I hw) λu s1 cS=>?_;obtain⟨x,H1,I1,r1,q1⟩:=cS;obtain⟨i,rfl,q⟩:=q1;obtain⟨t,rfl⟩:=r1;exact⟨aa i,H1,I1,.int i t,q⟩
def Qr(X:Cx)(r:V->Option Int->Option Int->Hp->VK->Prop):Prop:=
 ∀ (ag:List (ai×Obj)) (s:aj) (σ:St) (H:Hp) (x:V) (v vl vu:af) (lo hi:Option Int) (sl:ai) (Q:VK),Inv X ag σ H s->RelV x v->s.heap.IsSliceOf sl vl vu .none->IsPart vl lo->IsPart vu hi->r x lo hi H Q ->
   ∃T id,BE (.type T) "__getitem__" = pure (aa (.builtin id))/\s.TypeIs v T/\wpAny (aJ X.prog X.w) X.A (ro v (.ref sl)) (EP X ag σ Q) X.xe s
def Yh(r:V->Option Int->Option Int->Hp->VK->Prop)(te:TE)(tl th:TO):TE:=fun σ H Q=>te σ H λx H1=>tl σ H1 λl H2=>th σ H2 λu H3=>r x l u H3 Q
theorem Yi{r:V->Option Int->Option Int->Hp->VK->Prop}(hr:Qr X r)(he:PE X e te)(hl:PO X lo tl)(hu:PO X hi th):PE X (.Subscript e (.Slice lo hi ae p2) pos) (Yh r te tl th):=by
 intro ag s σ H Q I h;refine BF (dM (he ag s σ H _ I h) λv s1 cS=>?_);obtain⟨x,H1,I1,r1,q1⟩:=cS;refine wpAny_Slice (dM (hl ag s1 σ H1 _ I1 q1) λvl s2 cS=>?_);obtain⟨l,H2,I2,pl,q2⟩:=cS;refine dM (hu ag s2 σ H2 _ I2 q2) λvu s3 cS=>?_;obtain⟨u,H3,I3,pu,q3⟩:=cS;rw[evalPart_none];refine bc ?_;have I4:Inv X ag σ H3 { s3 with heap:=s3.heap.push { cls:=.type "slice",data:=.fields #[vl,vu,.none] } }:=I3.kept (t':=s3.toks) λb ob q=>aw _ q;obtain⟨T,id,hT,ht,hg⟩:=hr ag { s3 with heap:=s3.heap.push { cls:=.type "slice",data:=.fields #[vl,vu,.none] } } σ H3 x v vl vu l u s3.heap.objs.size Q I4 r1 (C3 ..) pl pu q3;show wpAny (aJ X.prog X.w) X.A (uk e (.Slice lo hi ae p2) v (.ref s3.heap.objs.size)) (EP X ag σ Q) X.xe { s3 with heap:=s3.heap.push { cls:=.type "slice",data:=.fields #[vl,vu,.none] } };exact tail_any (ops:=[.ref s3.heap.objs.size,v]) ht hT hg (by with_unfolding_all rfl)
noncomputable def u7(xs:List V)(lo hi:Option Int):List V:=(xs.drop (HT.oG xs.length 0 lo)).take (HT.oG xs.length xs.length hi-HT.oG xs.length 0 lo)
theorem Yj(xs:List V)(lo hi:Option Int):(u7 xs lo hi).length<=xs.length:=by
 unfold u7;rw[jD,List.length_drop];omega
end
noncomputable def u9(n:Nat)(i:Int):Option Nat:=if 0<=i then(if i<n then aa i.toNat else ae) else if -(n:Int)<=i then aa (i+n).toNat else ae
noncomputable def kA{α:Type}(xs:List α)(i:Int):Option α:=(u9 xs.length i).bind λj=>xs[j]?
theorem Yk{n:Nat}{i:Int}{j:Nat}(h:u9 n i=aa j):F7 i n=aa j/\j<n /\ -(n:Int)<=i/\i<n:=by
 unfold u9 at h;by_cases h0:0<=i
 .rw[if_pos h0] at h
  by_cases h1:i<n
  .rw[if_pos h1] at h
   have e:i.toNat=j:=bj h;exact⟨by rw[yN h0 h1,e],by omega,by omega,h1⟩
  .rw[if_neg h1] at h;cases h
 .rw[if_neg h0] at h
  by_cases h1:-(n:Int)<=i
  .rw[if_pos h1] at h
   have e:(i+n).toNat=j:=bj h;exact⟨by rw[seqIndex_neg (by omega) h1,e],by omega,h1,by omega⟩
  .rw[if_neg h1] at h;cases h
theorem Kb{α:Type}{xs:List α}{i:Int}{v:α}(h:kA xs i=aa v):∃j,F7 i xs.length=aa j/\xs[j]?=aa v/\j<xs.length /\ -(xs.length:Int)<=i/\i<xs.length:=by
 unfold kA at h;cases e:u9 xs.length i with
 |none=>rw[e] at h;cases h
 | some j=>
   rw[e] at h;obtain⟨h1,h2,h3,h4⟩:=Yk e;exact⟨j,h1,h,h2,h3,h4⟩
theorem Ah{α:Type}{xs:List α}{j:Nat}{v:α}(h:xs[j]?=aa v):kA xs (j:Int)=aa v:=by
 have hj:j<xs.length:=(aB.mp h).1;have e:u9 xs.length (j:Int)=aa j:=by
  unfold u9;rw[if_pos (by omega),if_pos (by omega)];simp
 unfold kA;rw[e];exact h
def Qs(b:bt):Prop:=∀o i,qu b false o i=operate [o,i] (ro o i)
def xf(X:Cx)(r:R2):Prop:=
 ∀ (value je:bt) (ag:List (ai×Obj)) (s:aj) (σ:St) (H:Hp) (x y:V) (v u:af) (Q:VK),Inv X ag σ H s->RelV x v->RelV y u->r x y H Q ->
   qu je false v u=operate [v,u] (ro v u)->wpAny (aJ X.prog X.w) X.A (uk value je v u) (EP X ag σ Q) X.xe s
def Ai(X:Cx)(id:String)(r:V->List V->Hp->VK->Prop):Prop:=
 ∀ (ag:List (ai×Obj)) (s:aj) (σ:St) (H:Hp) (x:V) (xs:List V) (v:af) (us:List af) (Q:VK),Inv X ag σ H s->RelV x v->cf xs us->r x xs H Q ->
   wpAny (aJ X.prog X.w) X.A (call (.builtin id) (v::us)) (EP X ag σ Q) X.xe s
section
variable {X:Cx}{a b:bt}{ta tb:TE}{pos:Pos}
theorem xf.or{r r':R2}(h:xf X r)(h':xf X r'):xf X (λx y H Q=>r x y H Q\/r' x y H Q):=by
 intro value je ag s σ H x y v u Q I rx ry q hs;rcases q with q | q
 .exact h value je ag s σ H x y v u Q I rx ry q hs
 .exact h' value je ag s σ H x y v u Q I rx ry q hs
theorem Yl{r:R2}(hr:xf X r)(ha:PE X a ta)(hb:PE X b tb)(hs:Qs b):PE X (.Subscript a b pos) (Dq r ta tb):=by
 intro ag s σ H Q I h;exact BF (z_ ha hb I h λv u s2 x y H2 I2 rx ry q=>hr a b ag s2 σ H2 x y v u Q I2 rx ry q (hs _ _))
def DF(K:W.Frag):R2:=λx y H Q=>∃p xs i v,x=.ref p/\y=.int i/\lJ K H p xs/\kA xs i=aa v/\Q v H
def DJ(K:W.Frag):R2:=λx y H Q=>∃p xs i v,x=.ref p/\y=.int i/\tE K H p xs/\kA xs i=aa v/\Q v H
def DK:R2:=λx y H Q=>∃z i c,x=.str z/\y=.int i/\z.length<=sizeLine/\kA z.cps.toList i=aa c/\Q (.str ⟨#[c]⟩) H
theorem Ym:xf X (DF X.K):=by
 intro value je ag s σ H x y v u Q I rx ry h hs;obtain⟨p,xs,i,z,rfl,rfl,hq,he,q⟩:=h;cases rx;obtain⟨t,rfl⟩:=ry;obtain⟨cC,r,pl,hz⟩:=I.list hq;obtain⟨j,h1,h2,h3,h4,h5⟩:=Kb he;obtain⟨w,ew,u5⟩:=r.get h2;have hl:=r.length;have hn:=Ds;have eV:EP X ag σ Q w s:=⟨z,H,I,u5,q⟩;by_cases h0:0<=i
 .have hj:i.toNat=j:=by
   rw[yN h0 h5] at h1;exact bj h1
  exact item_listR pl.isList h0 (by omega) (by rw[hj];simpa using ew) eV hs
 .have hj:(i+(cC.toArray.size:Int)).toNat=j:=by
   rw[seqIndex_neg (by omega) h4] at h1;rw[aL,<- hl];exact bj h1
  exact wc (x:=w) pl.isList.typeIs C4.lookup
   (wpAny_getItem_list_neg (Q:=λr s'=>r=w/\EP X ag σ Q r s') pl.isList (by omega) (by rw[aL]<;>omega) (by omega) (by rw[hj];simpa using ew) ⟨rfl,eV⟩) hs
theorem Yn:xf X (DJ X.K):=by
 intro value je ag s σ H x y v u Q I rx ry h hs;obtain⟨p,xs,i,z,rfl,rfl,hq,he,q⟩:=h;cases rx;obtain⟨t,rfl⟩:=ry;obtain⟨cC,r,pl,hz⟩:=I.tuple hq;obtain⟨j,h1,h2,h3,h4,h5⟩:=Kb he;obtain⟨w,ew,u5⟩:=r.get h2;have hl:=r.length;have hn:=Ds;have eV:EP X ag σ Q w s:=⟨z,H,I,u5,q⟩;exact wc (x:=w) pl.typeIs slot_tuple_getitem.lookup
  (getItem_tuple (j:=j) (Q:=λr s'=>r=w/\EP X ag σ Q r s') pl (by omega) (by omega) (by rw[aL,<- hl];exact h1) (by simpa using ew) ⟨rfl,eV⟩) hs
theorem Yo:xf X DK:=by
 intro value je ag s σ H x y v u Q I rx ry h hs;obtain⟨z,i,c,rfl,rfl,hz,he,q⟩:=h;obtain⟨t,rfl⟩:=rx;obtain⟨t',rfl⟩:=ry;obtain⟨j,h1,h2,h3,h4,h5⟩:=Kb he;have hl:z.cps.toList.length=z.length:=by simp[Str.length]
 rw[hl] at h1 h4 h5;have hn:=Ds;exact tail_any (typeIs_str s z t) slot_str_getitem.lookup (getItem_str (c:=c) (by
  have e1:decide (i < -(2 ^ 63:Int))=false:=decide_eq_false (by omega);have e2:decide (i>=2 ^ 63)=false:=decide_eq_false (by omega);rw[e1,e2,l_]) (by rw[h1];simpa using h2) ⟨.str ⟨#[c]⟩,H,I.tok _,⟨_,rfl⟩,q⟩) hs
def Qt(K:W.Frag):R2:=λx y H Q=>DF K x y H Q\/DJ K x y H Q\/DK x y H Q
theorem Yp:xf X (Qt X.K):=Ym.or (Yn.or Yo)
theorem Yq(lo hi:Option Int)(n:Nat):(iV lo hi ae n).1=((HT.oG n 0 lo:Nat):Int)/\(iV lo hi ae n).2.1=((HT.oG n n hi:Nat):Int)/\(iV lo hi ae n).2.2=1:=by
 refine⟨?_,?_,rfl⟩
 .cases lo with
  |none=>simp[iV,HT.oG]
  | some i=>
    simp only[iV,HT.oG,uO,show(1:Int)>0 by decide,if_true];by_cases h:i<0
    .simp only[h,if_true]<;>omega
    .simp only[h,if_false]<;>omega
 .cases hi with
  |none=>simp[iV,HT.oG]
  | some i=>
    simp only[iV,HT.oG,uO,show(1:Int)>0 by decide,if_true];by_cases h:i<0
    .simp only[h,if_true]<;>omega
    .simp only[h,if_false]<;>omega
theorem Yr(cC:List af)(lo hi:Option Int):slicePick cC.toArray lo hi ae=((cC.drop (HT.oG cC.length 0 lo)).take (HT.oG cC.length cC.length hi-HT.oG cC.length 0 lo)).toArray:=by
 obtain⟨h1,h2,h3⟩:=Yq lo hi cC.toArray.size;unfold slicePick;rw[h1,h2,h3];simp only[sliceRange_one,pick_run,aL]<;>rfl
def Kc(K:W.Frag):V->Option Int->Option Int->Hp->VK->Prop:=λx lo hi H Q=>∃a xs,x=.ref a/\lJ K H a xs/\∀p,H p=ae->Q (.ref p) (upd H p (.lst (u7 xs lo hi)))
theorem Ys:Qr X (Kc X.K):=by
 intro ag s σ H x v vl vu lo hi sl Q I rx hs pl pu h;obtain⟨a,xs,rfl,hx,q⟩:=h;cases rx;obtain⟨cC,r,ht,hz⟩:=I.list hx;have cK:=r.length;refine⟨"list",_,C4.lookup,ht.isList.typeIs,?_⟩;refine wpAny_getItem_list_slice ht.isList hs pl pu .none (by simp) ?_ (by rw[aL]<;>omega);rw[Yr,<- cK];refine⟨.ref s.heap.objs.size,_,I.laid (t':=s.toks) (o:=.lst (u7 xs lo hi)) (λb ob q=>aw _ q) (az _) ?_,rfl,q _ (I.cD.fresh (az _))⟩;exact⟨bz (Yj xs lo hi) hz,_,0,(r.drop (HT.oG xs.length 0 lo)).take (HT.oG xs.length xs.length hi-HT.oG xs.length 0 lo),aZ _ rfl⟩
noncomputable def nN:V->Bool
 |.bH=>true
 |.bl _=>true
 |.int _=>true
 |.str _=>true
 |_=>false
noncomputable def qA:V->V->Bool
 |.bH,.bH=>true
 |.bl a,.bl b=>a==b
 |.bl a,.int b=>(if a then 1 else 0)==b
 |.int a,.bl b=>a==(if b then 1 else 0)
 |.int a,.int b=>a==b
 |.str a,.str b=>a==b
 |_,_=>false
theorem Qu{A:bW}{s:aj}{y x:V}{u v:af}(ry:RelV y u)(rx:RelV x v)(fy:nN y=true)(fx:nN x=true):F8 A s u v (qA y x):=by
 cases y with
 | bH=>
   cases ry;cases x with
   |bH=>cases rx;exact sy _
   |bl b=>cases rx;exact SeqAt.EqAt.none_bool b
   |int b=>obtain⟨t,rfl⟩:=rx;exact pT b t
   |str b=>obtain⟨t,rfl⟩:=rx;exact pU b t
   |_=>exact absurd (show false=true from fx) aU
 | bl a=>
   cases ry;cases x with
   |bH=>cases rx;exact SeqAt.EqAt.bool_none a
   |bl b=>cases rx;exact SeqAt.EqAt.bool_bool a b
   |int b=>obtain⟨t,rfl⟩:=rx;exact SeqAt.EqAt.bool_int a b t
   |str b=>obtain⟨t,rfl⟩:=rx;exact SeqAt.EqAt.bool_str a b t
   |_=>exact absurd (show false=true from fx) aU
 | int a=>
   obtain⟨t',rfl⟩:=ry;cases x with
   |bH=>cases rx;exact pV a t'
   |bl b=>cases rx;exact SeqAt.EqAt.int_bool a t' b
   |int b=>obtain⟨t,rfl⟩:=rx;exact SeqAt.EqAt.int_int a t' b t
   |str b=>obtain⟨t,rfl⟩:=rx;exact qq a t' b t
   |_=>exact absurd (show false=true from fx) aU
 | str a=>
   obtain⟨t',rfl⟩:=ry;cases x with
   |bH=>cases rx;exact pW a t'
   |bl b=>cases rx;exact SeqAt.EqAt.str_bool a t' b
   |int b=>obtain⟨t,rfl⟩:=rx;exact qr a t' b t
   |str b=>obtain⟨t,rfl⟩:=rx;exact SeqAt.EqAt.str_str a t' b t
   |_=>exact absurd (show false=true from fx) aU
 |_=>exact absurd (show false=true from fy) aU
noncomputable def wC(x:V)(u:af):Bool:=match u with
 |.none=>qA .bH x
 |.bool b=>qA (.bl b) x
 |.int i _=>qA (.int i) x
 |.str z _=>qA (.str z) x
 |_=>false
theorem DM{x y:V}{u:af}(r:RelV y u)(f:nN y=true):wC x u=qA y x:=by
 cases y with
 |bH=>cases r;rfl
 |bl b=>cases r;rfl
 |int i=>obtain⟨t,rfl⟩:=r;rfl
 |str z=>obtain⟨t,rfl⟩:=r;rfl
 |_=>exact absurd (show false=true from f) aU
theorem Kd{x:V}:∀{xs:List V} {us:List af},cf xs us->xs.all nN=true->us.any (wC x)=xs.any λy=>qA y x
 |_,_,.nil,_=>rfl
 | y::xs,u::us,.cons r t,f=>by
   rw[qv,cv] at f;rw[fC,fC,DM r f.1,Kd t f.2]
theorem Ke{A:bW}{s:aj}{x:V}{v:af}(rx:RelV x v)(fx:nN x=true):∀{xs:List V} {us:List af},cf xs us->xs.all nN=true->∀u∈us,F8 A s u v (wC x u)
 |_,_,.nil,_=>λu hu=>by cases hu
 | y::xs,u::us,.cons r t,f=>λu' hu=>by
   rw[qv,cv] at f;rcases aF.mp hu with rfl | hu
   .rw[DM r f.1];exact Qu r rx f.1 fx
   .exact Ke rx fx t f.2 u' hu
noncomputable def DP(x:V)(xs:List V):Bool:=xs.any λy=>qA y x
def Qv(K:W.Frag)(DQ:Bool):R2:=λx y H Q=>∃p xs,y=.ref p/\(lJ K H p xs\/tE K H p xs)/\nN x=true/\xs.all nN=true/\Q (.bl (if DQ then !DP x xs else DP x xs)) H
theorem Yt:kK X (cX .In) (Qv X.K false):=by
 intro ag s σ H x y v u Q I rx ry h;obtain⟨p,xs,rfl,hq,fx,fs,q⟩:=h;cases ry;rcases hq with hq | hq
 .obtain⟨cC,r,pl,hz⟩:=I.list hq
  refine SeqAt.in_listAt (wC x) pl.isList (λw hw=>Ke rx fx r fs w (by simpa using hw)) ⟨.bl _,H,I,rfl,?_⟩;rw[show cC.toArray.any (wC x)=cC.any (wC x) by simp,Kd r fs];exact q
 .obtain⟨cC,r,pl,hz⟩:=I.tuple hq
  refine SeqAt.in_tupleAt (wC x) pl (λw hw=>Ke rx fx r fs w (by simpa using hw)) ⟨.bl _,H,I,rfl,?_⟩;rw[show cC.toArray.any (wC x)=cC.any (wC x) by simp,Kd r fs];exact q
theorem rC.or{f:af}{r r':List V->Hp->VK->Prop}(h:rC X f r)(h':rC X f r'):rC X f (λxs H Q=>r xs H Q\/r' xs H Q):=by
 intro ag s σ H xs us Q I rs q;rcases q with q | q
 .exact h ag s σ H xs us Q I rs q
 .exact h' ag s σ H xs us Q I rs q
theorem Kf:rC X (.type "list") (λxs H Q=>∃p ys,xs=[.ref p]/\(lJ X.K H p ys\/tE X.K H p ys)/\∀l,H l=ae->Q (.ref l) (upd H l (.lst ys))):=by
 intro ag s σ H xs us Q I r h;obtain⟨p,ys,rfl,hq,q⟩:=h;obtain⟨u,rfl,rx⟩:=Ac r;cases rx;have eV:∀(cC:List af),cf ys cC->ys.length<=sizeLine->∀(h':bN) (c':Nat),(∀b o',s.heap.get? b=aa o'->h'.get? b=aa o') ->
   h'.get? s.heap.objs.size=aa { cls:=.type "list",dict:=ae,data:=.seq cC.toArray c',slots:=#[] }->EP X ag σ Q (.ref s.heap.objs.size) { s with heap:=h' }:=λcC r' hz h' c' kp e=>
  ⟨.ref s.heap.objs.size,_,I.laid (t':=s.toks) kp (az _) (show jS X.prog X.w _ h' _ (.lst ys) from⟨hz,cC,c',r',e⟩),rfl,q _ (I.cD.fresh (az _))⟩
 rcases hq with hq | hq
 .obtain⟨cC,r',pl,hz⟩:=I.list hq
  have cK:=r'.length;obtain⟨o,ho,hc,n,hd⟩:=pl.isList;exact call_list_seq p (.inl rfl) ho hc hd (λh' c' kp e=>eV cC r' hz h' c' kp e) (by simp only[aL]<;>omega)
 .obtain⟨cC,r',pl,hz⟩:=I.tuple hq
  have cK:=r'.length;obtain⟨o,ho,hc,n,hd⟩:=pl;exact call_list_seq p (.inr rfl) ho hc hd (λh' c' kp e=>eV cC r' hz h' c' kp e) (by simp only[aL]<;>omega)
theorem Yu:rC X (.type "tuple") (λxs H Q=>∃p ys,xs=[.ref p]/\((lJ X.K H p ys/\∀l,H l=ae->Q (.ref l) (upd H l (.tup ys)))\/(tE X.K H p ys/\Q (.ref p) H))):=by
 intro ag s σ H xs us Q I r h;obtain⟨p,ys,rfl,h⟩:=h;obtain⟨u,rfl,rx⟩:=Ac r;cases rx;rcases h with⟨hq,q⟩ | ⟨hq,q⟩
 .obtain⟨cC,r',pl,hz⟩:=I.list hq
  have cK:=r'.length;refine call_tuple_list pl.isList (λh' kp=>?_) (by simp only[aL]<;>omega);have I1:Inv X ag σ H { s with heap:=h' }:=I.kept (t':=s.toks) kp;have I2:Inv X ag σ (upd H h'.objs.size (.tup ys)) { s with heap:=h'.push { cls:=.type "tuple",data:=.seq cC.toArray } }:=
   I1.laid (t':=s.toks) (λb o e=>aw _ e) (az _) (show jS X.prog X.w _ _ _ (.tup ys) from⟨hz,cC,r',IsTup.new _ _⟩)
  exact⟨.ref h'.objs.size,_,I2,rfl,q _ (I1.cD.fresh (az _))⟩
 .obtain⟨cC,r',pl,hz⟩:=I.tuple hq
  exact call_tuple_same pl ⟨.ref p,H,I,rfl,q⟩
def Aj(K:W.Frag)(T:String)(x:V)(H:Hp):Prop:=match x with
 |.str _=>T = "str"
 |.int _=>T = "int"
 |.ref p=>(T = "list" /\ ∃xs,lJ K H p xs)\/(T = "tuple" /\ ∃o,K.lookup p=aa o/\o.cls=.type "tuple" /\ o.dict=ae) \/
  (T = "dict" /\ ((∃kvs,H p=aa (.dK kvs))\/∃kvs,H p=aa (.dT kvs)))\/(T = "set" /\ ∃S n,H p=aa (.set S n))
 |_=>False
theorem Qw{ag:List (ai×Obj)}{σ:St}{H:Hp}{s:aj}{T:String}{x:V}{v:af}(I:Inv X ag σ H s)(r:RelV x v)(ty:Aj X.K T x H) :
  s.TypeIs v T/\∀a,v=.ref a->∃ob,s.heap.get? a=aa ob/\ob.dict=ae:=by
 cases x with
 | str z=>
   obtain⟨t,rfl⟩:=r;cases (show T = "str" from ty);exact⟨typeIs_str s z t,λ_ e=>nomatch e⟩
 | int i=>
   obtain⟨t,rfl⟩:=r;cases (show T = "int" from ty);exact⟨typeIs_int s i t,λ_ e=>nomatch e⟩
 | ref p=>
   cases r;rcases ty with⟨rfl,xs,hq⟩ | ⟨rfl,o,hk,hc,hd⟩ | ⟨rfl,hk⟩ | ⟨rfl,S,n,hk⟩
   .obtain⟨cC,_,pl,_⟩:=I.list hq
    refine⟨pl.isList.typeIs,λa e=>?_⟩;cases e;obtain⟨o,n,e,c,hd,_⟩:=pl;exact⟨o,e,hd⟩
   .refine⟨⟨o,I.jz p o hk,hc⟩,λa e=>?_⟩
    cases e;exact⟨o,I.jz _ o hk,hd⟩
   .have z:∃o,s.heap.get? p=aa o/\o.ExactDict:=by
     rcases hk with⟨kvs,hk⟩ | ⟨kvs,hk⟩
     .obtain⟨_,_,_,_,o,_,_,e,ex,_⟩:=I.cD p _ hk
      exact⟨o,e,ex⟩
     .obtain⟨_,_,_,_,o,_,_,e,ex,_⟩:=I.cD p _ hk
      exact⟨o,e,ex⟩
    obtain⟨o,e,ex⟩:=z;refine⟨⟨o,e,ex.1⟩,λa e2=>?_⟩;cases e2;exact⟨o,e,ex.2.1⟩
   .obtain⟨o,_,_,_,e,ex,_⟩:=I.cD p _ hk
    refine⟨⟨o,e,ex.1⟩,λa e2=>?_⟩;cases e2;exact⟨o,e,ex.2.1⟩
 |_=>exact dB ty
def Kg(K:W.Frag)(T:String)(r:V->List V->Hp->VK->Prop)(to:TE):TE:=fun σ H Q=>to σ H λx H1=>Aj K T x H1/\r x [] H1 Q
def Yv(K:W.Frag)(T:String)(r:V->List V->Hp->VK->Prop)(to:TE)(t:TA):TE:=fun σ H Q=>to σ H λx H1=>Aj K T x H1/\t σ H1 λxs H2=>r x xs H2 Q
variable {o e:bt}{es:List bt}{to:TE}{t:TA}{name:Str}{cP fN:Pos}{T id:String}{r:V->List V->Hp->VK->Prop}
theorem Yw(pa:sA T)(slot:Slot T name id)(Ak:typeOf (.builtin id)=pure (.type "method_descriptor"))(hm:Ai X id r)(ho:PE X o to)
  (fG:b_ o name X.env (eval o X.env)=eval o X.env:=by rfl) (fH:(cP.endLine==fN.line)=true:=by rfl):PE X (.Call (.Attribute o name cP) [] [] fN) (Kg X.K T r to):=by
 intro ag s σ H Q I h;refine uP fG fH (dM (ho ag s σ H _ I h) λv s1 cS=>?_);obtain⟨x,H1,I1,r1,ty,q1⟩:=cS;obtain⟨h1,h2⟩:=Qw I1 r1 ty;exact⟨T,id,pa,slot,Ak,h1,h2,jL rfl (s_ (hm ag s1 σ H1 x [] v [] Q I1 r1 .nil q1))⟩
theorem Yx(pa:sA T)(slot:Slot T name id)(Ak:typeOf (.builtin id)=pure (.type "method_descriptor"))(hm:Ai X id r)(ho:PE X o to)(ha:PA X (e::es) t)
  (fG:b_ o name X.env (eval o X.env)=eval o X.env:=by rfl)
  (mv:((bK fN (av (e::es) X.env)).all (λx=>!x.1)&&(eT fN (cT [] X.env)).all (λx=>x.1.isSome)
   && decide ((e::es).length+([]:List gS).length+(if([]:List gS).isEmpty then 0 else 1)<30))=true:=by rfl)
  (fH:(cP.endLine==fN.line)=true:=by rfl) (hs:av (e::es) X.env=(false,eval e X.env)::av es X.env:=by rfl) (rH:(bK fN (av es X.env)).any (·.1)=false:=by rfl) :
  PE X (.Call (.Attribute o name cP) (e::es) [] fN) (Yv X.K T r to t):=by
 intro ag s σ H Q I h;refine wpAny_Call_method_late fG mv fH rfl (dM (ho ag s σ H _ I h) λv s1 cS=>?_);obtain⟨x,H1,I1,r1,ty,q1⟩:=cS;obtain⟨h1,h2⟩:=Qw I1 r1 ty;refine⟨T,id,pa,slot,Ak,h1,h2,?_⟩;have hA:=ha fN ag s1 σ H1 _ I1 q1;rw[hs] at hA ⊢;refine jL (by show(false || (bK fN (av es X.env)).any (·.1))=false;rw[rH]<;>rfl) (sC ?_);exact dM hA λus s2 ⟨vs,H2,I2,r2,q2⟩=>hm ag s2 σ H2 x vs v us Q I2 r1 r2 q2
end
def Kh(X:Cx)(id:String)(r:V->List V->Hp->VK->Prop):Prop:=
 ∀ (ag:List (ai×Obj)) (s:aj) (σ:St) (H:Hp) (x:V) (xs:List V) (v:af) (us:List af) (Q:VK),Inv X ag σ H s->RelV x v->cf xs us->r x xs H Q ->
   wpAny (aJ X.prog X.w) X.A (call (.builtin id) (v::us)) (EP X ag σ Q) X.xe s
theorem cf.one{x:V}{us:List af}(h:cf [x] us):∃u,us=[u]/\RelV x u:=by
 cases h with
 |cons r t=>cases t;exact⟨_,rfl,r⟩
theorem cf.zero:∀{us:List af},cf [] us->us=[]
 |_,.nil=>rfl
theorem cf.eraseIdx:∀{xs:List V} {us:List af} (i:Nat),cf xs us->cf (xs.eraseIdx i) (us.eraseIdx i)
 |_,_,_,.nil=>.nil
 |_,_,0,.cons _ t=>t
 |_,_,i+1,.cons r t=>.cons r (cf.eraseIdx i t)
theorem Ki{α:Type}:∀(l:List α) (i:Nat),(l.eraseIdx i).length<=l.length
 |[],_=>az _
 |_::_,0=>jk _
 |_::r,i+1=>Nat.succ_le_succ (Ki r i)
section
variable {X:Cx}{ag:List (ai×Obj)}{σ:St}{H:Hp}{s:aj}{l b:ai}{xs ys zs:List V}
theorem Inv.u_{cC its':List af}{n:Nat}{f:Array af->Array af}{t':Nat}(I:Inv X ag σ H s)(hH:H l=aa (.lst xs))
  (e:s.heap.get? l=aa { cls:=.type "list",data:=.seq cC.toArray n }) (hf:f cC.toArray=its'.toArray) (hv:cf ys its') (hz:ys.length<=sizeLine) :
  Inv X ag σ (upd H l (.lst ys)) { s with heap:=s.heap.update l (Obj.mapSeq f),toks:=t' }:=by
 have q:=PySem.IsL.update e f;rw[hf] at q;refine I.write (x:=l) (e:=l) (by rw[hH];exact trivial) (.inl rfl) (λb' u hb hu=>(rq s.heap (Obj.mapSeq f) (bP hb)).trans hu) ⟨_,q⟩ ?_;exact⟨hz,its',_,hv,q⟩
theorem Inv.Kj{cC:List af}{t':Nat}(I:Inv X ag σ H s)(hv:cf ys cC)(hz:ys.length<=sizeLine) :
  Inv X ag σ (upd H s.heap.objs.size (.lst ys)) { s with heap:=s.heap.push { cls:=.type "list",data:=.seq cC.toArray },toks:=t' }:=
 I.laid (λ_ _ q=>aw _ q) (az _) ⟨hz,cC,0,hv,aZ _ rfl⟩
theorem Inv.fresh(I:Inv X ag σ H s):H s.heap.objs.size=ae:=I.cD.fresh (az _)
theorem Inv.va(I:Inv X ag σ H s)(hH:H l=aa (.lst xs)):xs.length<=sizeLine/\∃(cC:List af) (n:Nat),cf xs cC/\xs.length=cC.length/\s.heap.get? l=aa { cls:=.type "list",data:=.seq cC.toArray n }:=by
 obtain⟨z,cC,n,r,e⟩:=I.cD l _ hH;exact⟨z,cC,n,r,r.length,e⟩
theorem Yy{n:Nat}(h:n<=sizeLine):iB n=false:=by
 unfold iB;exact decide_eq_false (by omega)
end
section
variable {X:Cx}
def Qx:V->List V->Hp->VK->Prop:=λx vs H Q=>∃l xs y,x=.ref l/\vs=[y]/\H l=aa (.lst xs)/\xs.length<sizeLine/\Q .bH (upd H l (.lst (xs++[y])))
theorem Kk:Kh X "list.append" Qx:=by
 intro ag s σ H x vs v us Q I rx rv h;obtain⟨l,xs,y,rfl,rfl,hH,hz,q⟩:=h;cases rx;obtain⟨u,rfl,ru⟩:=rv.one;obtain⟨z,cC,n,r,hl,e⟩:=I.va hH;refine n_ F.slot_list_append ⟨_,e,rfl⟩ F.entry_list_append (F.args_list_append_2 _ _) (PySem.list_append l cC.toArray n u (by rw[aL];omega)) ⟨e,?_⟩;refine⟨.bH,_,I.u_ (its':=cC++[u]) hH e (by simp) (r.append (.cons ru .nil)) ?_,rfl,q⟩;rw[aO,ba];omega
def Qy:V->List V->Hp->VK->Prop:=λx vs H Q=>∃l xs i k y,x=.ref l/\vs=[.int i]/\H l=aa (.lst xs) /\ -(2 ^ 63)<=i/\i<2 ^ 63/\F7 i xs.length=aa k/\xs[k]?=aa y/\Q y (upd H l (.lst (xs.eraseIdx k)))
theorem Yz:Kh X "list.pop" Qy:=by
 intro ag s σ H x vs v us Q I rx rv h;obtain⟨l,xs,i,k,y,rfl,rfl,hH,h1,h2,hk,hy,q⟩:=h;cases rx;obtain⟨u,rfl,ru⟩:=rv.one;obtain⟨t,rfl⟩:=ru;obtain⟨z,cC,n,r,hl,e⟩:=I.va hH;obtain⟨w,hw,u5⟩:=r.get hy;refine n_ F.slot_list_pop ⟨_,e,rfl⟩ F.entry_list_pop (F.args_list_pop_2 _ _)
  (MeetsSeq.list_pop_at l cC.toArray n i t k w (fitsIndex_both h1 h2) (by rw[aL,<- hl];exact hk) (by rw[<- kb];exact hw) (by rw[aL];omega)) ⟨e,?_⟩
 refine⟨y,_,I.u_ (its':=cC.eraseIdx k) hH e ?_ (r.eraseIdx k) ?_,u5,q⟩
 .show cC.toArray.eraseIdxIfInBounds k=(cC.eraseIdx k).toArray
  rw[nh]
 .have:=Ki xs k
  omega
def Qz:V->List V->Hp->VK->Prop:=λx vs H Q=>∃l xs,x=.ref l/\vs=[]/\H l=aa (.lst xs)/\Q .bH (upd H l (.lst []))
theorem YA:Kh X "list.clear" Qz:=by
 intro ag s σ H x vs v us Q I rx rv h;obtain⟨l,xs,rfl,rfl,hH,q⟩:=h;cases rx;have YB:=rv.zero;subst YB;obtain⟨z,cC,n,r,hl,e⟩:=I.va hH;refine n_ F.slot_list_clear ⟨_,e,rfl⟩ F.entry_list_clear (F.args_list_clear_1 _) (AutoSeq1.list_clear_list_0 l cC.toArray n (by rw[aL];omega)) ⟨e,?_⟩;exact⟨.bH,_,I.u_ (its':=[]) (ys:=[]) hH e rfl .nil (dJ _),rfl,q⟩
end
end L2
namespace Att
open PySem PySem.W PySem.Calls PyProof.Rows
theorem YC{P:Params}{h:bN}:∀(ns:List Int) (vs:List af),WellAll P h vs (ns.map Jn)->wd vs ns:=by
 intro ns
 induction ns with
 | nil=>
   intro vs w;rw[f_] at w;cases w;exact .nil
 | cons n ns ih=>
   intro vs w;rw[aC] at w;cases w with
   | cons a b=>
     cases a;exact .cons _ _ (ih _ b)
theorem YD{l:OpenLaw}{n:Nat}(hn:l.most=aa n){P:Params}{h:bN}{args:List WData}{Am:List af}
  (xg:l.row.toRowW.claim.pre args=true) (Kl:WellAll P h Am args) :
  ∃a vs ns,Am=[aP a]/\args=[WData.list (ns.map Jn)]/\h.get? a=aa { cls:=.type "list",data:=.seq vs.toArray }/\wd vs ns/\ns.length<=n:=by
 have DR:WShape.hasAll [] args [.list .int]=true:=(pre_splitW xg).1;have hc:l.pre.holds [] { args:=args }=true:=(pre_splitW xg).2;obtain⟨d,r,rfl,h1,h2⟩:=hasAllW_cons DR;obtain rfl:=hasAllW_nil h2;obtain⟨xs,rfl,h3⟩:=hasW_list h1;obtain⟨ns,rfl⟩:=items_int h3;have cK:ns.length<=n:=by
  unfold OpenLaw.pre at hc;have h4:(WTm.not (.lt (.lit (.int (n:Int))) (.len (.arg 0)))).holds [] { args:=[.list (ns.map .int)] }=true:=by
   have h4:=(holds_andW hc).1;rw[hn] at h4;exact h4
  have h5:=condW_of h4 (w_not (w_lt w_lit (w_len_list (w_arg rfl))));rw[aT] at h5;refine Nat.le_of_not_lt λq=>?_;have q':(n:Int)<((ns.length:Nat):Int):=by omega
  first
   |(rw[decide_eq_true q'] at h5;exact absurd h5 (by decide))
   |(simp at h5;omega)
 cases Kl with
 | cons w1 w2=>
   cases w2;cases w1 with
   |list ho hall=>exact⟨_,_,ns,rfl,rfl,ho,YC ns _ hall,cK⟩
theorem YE(l:OpenLaw)(args:List WData):l.row.toRowW.claim.post args (.bool true) args=true:=
 postW_of (r:=l.row.toRowW) (X:=(true==true))
  (show C5 [] (.bool true) .bool=true by first | rfl | decide | simp[C5,WShape.arms,WShape.armsAll])
  (show(WTm.eq .res (.lit (.bool true))).value [] { args:=args,res:=aa (.bool true),after:=args }=aa (.bool (true==true)) from w_eq_bool (w_res rfl) w_lit) rfl
theorem qB{l:OpenLaw}{n:Nat}{q:aR}{oZ:List Str}{XP:(Str->Option af)->bN->Prop}{YP:bu->bN->Prop}{d:DefRec}
  (hn:l.most=aa n) (DU:d.params.defaults=[])
  (call:∀(w:bu) (s₀ s₁:aj) (mg mb:Str->Option af) (fa:ai) (o:Obj) (pm cd nr:af) (a:ai) (vs:List af) (ns:List Int),
   Ground q oZ [] XP w s₀ mg mb s₁.heap->YP w s₁.heap ->
   s₁.heap.get? fa=aa o->o.data=.func (docDef d.name d.params d.body d.scope pm cd nr)->s₁.heap.CodeRec cd d.name->mg d.name=aa (.ref fa) ->
   s₁.heap.get? a=aa { cls:=.type "list",data:=.seq vs.toArray }->wd vs ns->ns.length<=n->s₁.gens=#[] ->
   codeAny (aJ l.prog w) oU (.call (.ref fa) ⟨[.ref a],[]⟩) (λr s'=>r=.ok (.ret (.bool true))/\OldK s₁.heap s'.heap/\s'.os=s₁.os/\jP s'.gens) s₁) :
  WalkO q oZ XP YP l.row.toRowW d [] (λf vs=>um f vs):=by
 intro w s₀ s₁ mg mb G Y fa o pm cd nr dV kV ho hd tD hD xh hg args Am as xg YF hrd Kl YG;obtain rfl:dV=.none:=Dflts.none hD DU;obtain rfl:kV=.none:=Dflts.noKw hD;obtain⟨a,vs,ns,rfl,rfl,An,vb,cK⟩:=YD hn xg Kl;refine enter_call (jg (call w s₀ s₁ mg mb fa o pm cd nr a vs ns G Y ho (fd_plain hd) tD xh An vb cK hg) λr s' hq=>?_);obtain⟨rfl,h2,h3,h4⟩:=hq;exact⟨.inl ⟨.bool true,.bool true,[],rfl,λ_=>rfl,.bool true,YE l _,λ_=>⟨F9,λ_ hm=>(nomatch hm)⟩⟩,h2,h3,h4⟩
end Att
namespace L2
open PySem PySem.Spec PyProof.Rows
theorem QA:∀{vs:List af} {ns:List Int},wd vs ns->cf (ns.map V.int) vs
 |_,_,.nil=>.nil
 |_,_,.cons n t h=>.cons ⟨t,rfl⟩ (QA h)
def Ao(H:Hp):Prop:=∀b,H b=ae\/∃o xs,H b=aa (.eL o (.lst xs))
theorem YH {P:aR} {w:bu} {K:W.Frag} {mg mb:Str->Option af} {CX:sH} {k:Nat} {fa a:ai} {fd:bA} {x:Str} {sp:Sp} {s₁:aj} {vs:List af} {ns:List Int}
  (KX:K.In s₁.heap) (QB:s₁.heap.Ns bp mg) (hb:s₁.heap.Ns Bz mb) (YI:∀x:Str,x ≠ "__name__" -> mb x=dz x) (Km:s₁.heap.NoLimit) (hg:s₁.gens=#[])
  (ha:s₁.heap.get? a=aa { cls:=.type "list",data:=.seq vs.toArray }) (hi:wd vs ns) (hl:ns.length<=sizeLine) (hr:eJ k oU)
  (F:∀base:bN,K.In base->base.Ns bp mg->bE P w K mg base CX k fa fd [x] sp) (DV:∀(s:aj) (u:af),rj s fd ⟨[u],[]⟩ [(x,u)])
  (oX:∀H:Hp,Ao H->lJ K H a (ns.map V.int)->sp [.ref a] H (λv _=>v=.bl true) λ_ _ _=>False)
  (Kn:∀H e s',CX [] H s₁ (λ_ _ _=>False) e s'->False) :
  codeAny (aJ P w) oU (.call (.ref fa) ⟨[.ref a],[]⟩) (λr s'=>r=.ok (.ret (.bool true))/\OldK s₁.heap s'.heap/\s'.os=s₁.os/\jP s'.gens) s₁:=by
 have rv := QA hi;have Ko:=hi.length;have core:∀H:Hp,Ao H->lJ K H a (ns.map V.int)->iM P w H s₁.heap->(∀b,H b≠ae->b=a)->(H a≠ae->K.lookup a=ae) ->
   codeAny (aJ P w) oU (.call (.ref fa) ⟨[.ref a],[]⟩) (λr s'=>r=.ok (.ret (.bool true))/\OldK s₁.heap s'.heap/\s'.os=s₁.os/\jP s'.gens) s₁:=by
  intro H hO hS cD hA hK;have sI:∀{b:ai} {o:Obj},s₁.heap.get? b=aa o->H b=ae->(ph s₁.heap H).get? b=aa o:=λe n=>Ws e n;have Dz:∀{b:ai} {o:Obj} {es:Array mS} {ep:Nat},s₁.heap.get? b=aa o->o.data=.dict es ep->H b=ae:=λ{b o es ep} e d=>by
   cases q:H b with
   |none=>rfl
   | some u=>
     have e':b=a:=hA b (by rw[q];simp);subst e';rw[ha] at e;cases e;have d':Data.seq vs.toArray _=Data.dict es ep:=d;cases d'
  have GH:∀{b:ai} {m:Str->Option af},s₁.heap.Ns b m->(ph s₁.heap H).Ns b m:=λ{b m} ⟨o,es,ep,e,d,r⟩=>⟨o,es,ep,sI e (Dz e d),d,r⟩;have QC:K.In (ph s₁.heap H):=λb o e=>sI (KX b o e) (by
   cases q:H b with
   |none=>rfl
   | some u=>
     have e':b=a:=hA b (by rw[q];simp);subst e';rw[hK (by rw[q];simp)] at e;cases e)
  have hM:Mod K mg (ph s₁.heap H):=⟨QC,GH QB,⟨mb,GH hb,YI⟩,let ⟨mc,h1,h2⟩:=Km;⟨mc,GH h1,h2⟩⟩;have e0:rF P w K mg (ph s₁.heap H) oU [] s₁ H:=⟨rfl,hM,λb o e=>Wt e,gV (Wr _ _),trivial,λb hb=>absurd (show b∈([]:List ai) from hb) (by simp),cD,.of_eq hg⟩;refine jg ((F _ QC (GH QB)).run oU [] s₁ H ⟨[.ref a],[]⟩ [.ref a] [.ref a] _ _ hr e0 (DV s₁ (.ref a)) (.cons rfl .nil) (oX H hO hS)) λr s' h=>?_;cases r with
  |error e=>exact(Kn H e s' h).elim
  | ok fl=>
    cases fl with
    |next=>exact dB h
    |brk=>exact dB h
    |cont=>exact dB h
    | ret u=>
      obtain⟨v,H',os,bare,un,Kp,r',q⟩:=h;have q':v=.bl true:=q;subst q';obtain rfl:u=dW true:=r';refine⟨rfl,OldK.of_keep λb o e=>?_,os,bare⟩;cases q:H b with
      |none=>exact un.keep b o e q (by intro z;exact absurd (show b∈([]:List ai) from z) (by simp)) (by simp)
      | some u=>
        rcases hO b with z | ⟨ob,xs,z⟩
        .rw[q] at z;cases z
        .have z2:=un.frzs b ob _ z
         obtain⟨e1,_⟩:=cD b _ z;obtain⟨e2,_⟩:=Kp b _ z2;rw[e] at e1;cases e1;exact e2
 cases hk:K.lookup a with
 | some o=>
   have e:=KX a o hk;rw[ha] at e;cases e;refine core (λ_=>ae) (λ_=>.inl rfl) (.inr ⟨_,vs.toArray,_,hk,rfl,rfl,rfl,by rw[aL,Ko];exact hl,by simpa using rv⟩) (λb u z=>by have z':(ae:Option HO)=aa u:=z;cases z') (λb z=>absurd rfl z) λz=>absurd rfl z
 | none=>
   refine core (λb=>if b=a then aa (.eL { cls:=.type "list",data:=.seq vs.toArray } (.lst (ns.map V.int))) else ae) (λb=>?_) (.inl (.inr ⟨{ cls:=.type "list",data:=.seq vs.toArray },if_pos rfl⟩)) (λb u z=>?_) (λb z=>?_) λ_=>hk
   .by_cases hb:b=a
    .exact .inr ⟨_,_,if_pos hb⟩
    .exact .inl (if_neg hb)
   .by_cases hb:b=a
    .have z':=(if_pos hb).symm.trans z
     cases z';subst hb;exact⟨ha,by rw[aT];exact hl,vs,_,rv,ha⟩
    .have z':=(if_neg hb).symm.trans z
     cases z'
   .by_cases hb:b=a
    .exact hb
    .exact absurd (if_neg hb) z
theorem xi{l:W.OpenLaw}{n k:Nat}{q:aR}{oZ:List Str}{XP:(Str->Option af)->bN->Prop}{YP:bu->bN->Prop}{d:DefRec}{K:Params->W.Frag}{CX:bu->sH}{sp:bu->Sp}{x:Str}
  (hn:l.most=aa n) (u1:n<=sizeLine) (DU:d.params.defaults=[]) (hr:eJ k oU)
  (hY:∀(w:bu) (h:bN),YP w h->(K w.params).In h)
  (F : ∀(w:bu) (mg:Str->Option af) (fa:ai) (h:bN),(K w.params).In h->h.Ns bp mg->mg d.name=aa (.ref fa) ->
   ∃ fd:bA,(∀(s:aj) (u:af),rj s fd ⟨[u],[]⟩ [(x,u)]) /\
     ∀base:bN,(K w.params).In base->base.Ns bp mg->bE l.prog w (K w.params) mg base (CX w) k fa fd [x] (sp w))
  (oX:∀(w:bu) (H:Hp) (a:ai) (ns:List Int),ns.length<=n->Ao H->lJ (K w.params) H a (ns.map V.int)->sp w [.ref a] H (λv _=>v=.bl true) λ_ _ _=>False)
  (Kn:∀(w:bu) (H:Hp) (s:aj) (e:af) (s':aj),CX w [] H s (λ_ _ _=>False) e s'->False) :
  W.WalkO q oZ XP YP l.row.toRowW d [] (λf vs=>um f vs):=by
 refine Att.qB hn DU λw s₀ s₁ mg mb fa o pm cd nr a vs ns G Y ho hd tD xh An vb cK hg=>?_;have KX:=hY w _ Y;obtain⟨fd,hb,hF⟩:=F w mg fa _ KX G.T.g xh;exact YH KX G.T.g G.T.b G.T.builtins G.T.nolimit hg An vb (bz cK u1) hr hF hb (λH hO hS=>oX w H a ns cK hO hS) λH e s'=>Kn w H s₁ e s'
noncomputable def oi(s:bR)(j:Nat):bR:=match s with
 |.ClassDef _ _ _ body _ _ _ _ _ _ _=>body.getD j (.Pass ⟨0,0,0,0⟩)
 |_=>.Pass ⟨0,0,0,0⟩
noncomputable def qE(s:bR):Arguments:=match s with
 |.FunctionDef _ a _ _ _ _ _ _ _ _=>a
 |_=>{ posonlyargs:=[],args:=[],vararg:=ae,kwonlyargs:=[],kw_defaults:=[],kwarg:=ae,defaults:=[] }
noncomputable def oj(s:bR):List bR:=match s with
 |.FunctionDef _ _ b _ _ _ _ _ _ _=>b
 |_=>[]
noncomputable def d8(s:bR):iz:=match s with
 |.FunctionDef _ _ _ _ _ _ sc _ _ _=>sc
 |_=>{ kind:=.function,names:=[],isGenerator:=false,isCoroutine:=false }
abbrev DW:sH:=λ_ _ _ _ _ _=>False
abbrev E0:XK:=λ_ _ _=>False
structure DX(K:W.Frag)(x qual:Str)(st:bR)(f:ai)(fd:bA):Prop where
 ex:∃(oc:af) (od:Option ai) (kV nr pm:af) (an:Option ai) (gT ct:af) (qU:Array (Option af)),
  fd=W.fnOf x qual (qE st) (oj st) (d8 st) .none kV nr pm an gT ct/\K.lookup f=aa ⟨oc,od,.func fd,qU⟩/\W.codeIn K gT qual=true
 kp:W.keepIn K (.ref f)=true
section
variable {P:aR}{w:bu}{K:W.Frag}{mg:Str->Option af}{base:bN}
theorem DX.binds{x qual:Str}{st:bR}{f:ai}{fd:bA}{ps:List Str}(F:DX K x qual st f fd)
  (h:∀(kV nr pm:af) (an:Option ai) (gT ct:af) (us:List af),us.length=ps.length->yL (W.fnOf x qual (qE st) (oj st) (d8 st) .none kV nr pm an gT ct) ⟨us,[]⟩=pure (ps.zip us)):mH K fd ps []:=by
 obtain⟨oc,od,kV,nr,pm,an,gT,ct,qU,rfl,lk,tD⟩:=F.ex;exact .all (h kV nr pm an gT ct)
theorem GI{x qual:Str}{st:bR}{f:ai}{oc:af}{od an:Option ai}{qU:Array (Option af)}{kV nr pm gT ct:af}(l:K.lookup f=aa ⟨oc,od,.func (W.fnOf x qual (qE st) (oj st) (d8 st) .none kV nr pm an gT ct),qU⟩)
 (c:W.codeIn K gT qual=true) (k:W.keepIn K (.ref f)=true):DX K x qual st f (W.fnOf x qual (qE st) (oj st) (d8 st) .none kV nr pm an gT ct):=⟨⟨oc,od,kV,nr,pm,an,gT,ct,qU,rfl,l,c⟩,k⟩
end
theorem YJ{A:bW}{k:Nat}(hr:eJ k A):A.units+1<fT:=we (Nat.add_le_add_left (by decide:1<=64) _) hr.units
theorem QD{n:Nat}(h:n<=1000):n<sizeLine:=we h (by decide)
section
variable {X:Cx}
theorem pv(i:Nat){x:Str}{pos:Pos}(hN:X.N[i]?=aa x:=by rfl)(hv:zW X.env.scope x:=by first | exact eF rfl | exact cM (eF rfl) | exact cM (cM rfl))(hd:(x==("__debug__" : Str))=false:=by decide)
 (tD:(x==("__classdict__" : Str))=false:=by decide):PE X (.Name x pos) (mq i):=uW hN hv hd tD
end
theorem rJ{A B:Prop}(h:B):if false=true then A else B:=by
 rw[if_neg aU];exact h
theorem rK{A B:Prop}(h:A):if true=true then A else B:=by
 rw[if_pos rfl];exact h
section
variable {X:Cx}
theorem YK:rC X (.builtin "len") (λxs H Q=>∃a kvs,xs=[V.ref a]/\H a=aa (.dK kvs)/\Q (.int kvs.length) H):=by
 intro ag s σ H xs us Q I r h;obtain⟨a,kvs,rfl,ha,q⟩:=h;obtain⟨u,rfl,ru⟩:=Ac r;cases ru;exact X0 I (.inl ha) λt s' I'=>⟨.int kvs.length,H,I',⟨t,rfl⟩,q⟩
end
section
variable {α β:Type}
def Dk:Sem α->Prop
 |.pure _=>True
 |.raise _=>True
 |.unsupported _=>True
 |.finish _=>True
 |.rule _ k=>Dk (k ())
 |.at _ k=>Dk (k ())
 |.load _ _ k=>∀o,Dk (k o)
 |.update _ _ f k=>(∀o,(f o).dict=o.dict/\(f o).isFreed=o.isFreed)/\Dk (k ())
 |.loadIfAlive _ k=>∀o,Dk (k o)
 |.point _ k=>Dk (k ())
 |.register _ _=>True
 |.alloc _ k=>∀a,Dk (k a)
 |.fresh k=>∀t,Dk (k t)
 |.ask k=>∀x,Dk (k x)
 |.choose _ _ k=>∀x,Dk (k x)
 |.os _ _ k=>∀x,Dk (k x)
 |.handled _ k=>∀x,Dk (k x)
 |.newGen _ k=>∀x,Dk (k x)
 |.stack k=>∀x,Dk (k x)
 |.thread k=>∀x,Dk (k x)
 |_=>False
def nO(e:ai)(d:Option ai)(h:bN):Prop:=∃o,h.get? e=aa o/\o.dict=d
theorem nO.upd{e a:ai}{d:Option ai}{h:bN}{f:Obj->Obj}(x:nO e d h)(hf:∀o,(f o).dict=o.dict/\(f o).isFreed=o.isFreed):nO e d (h.update a f):=by
 obtain⟨o,h1,h2⟩:=x;by_cases q:a=e
 .subst q
  refine⟨f o,hU f h1 ?_,by rw[(hf o).1];exact h2⟩;rw[(hf o).2];exact(Heap.get?_some_iff.mp h1).2
 .exact⟨o,by rw[rq _ _ q];exact h1,h2⟩
theorem YL{M:uK}{Γ:PySem.Ctx}{e:ai}{d:Option ai}:∀{t:Sem α} {Q:α->Pos->aj->Prop} {E:af->Pos->aj->Prop} {p:Pos} {s:aj},Dk t->nO e d s.heap->Sem.wp M Γ t Q E p s ->
  Sem.wp M Γ t (λa p s'=>Q a p s'/\nO e d s'.heap) (λx p s'=>E x p s'/\nO e d s'.heap) p s:=by
 intro t
 induction t with
 |pure a=>exact λ_ hd h=>⟨h,hd⟩
 |raise a=>exact λ_ hd h=>⟨h,hd⟩
 |unsupported a=>exact λ_ hd h=>h
 |finish a=>exact λ_ hd h=>h
 |rule a k ih=>exact λdk hd h=>ih () dk hd h
 | «at» a k ih=>exact λdk hd h=>ih () dk hd h
 |load a b k ih=>exact λdk hd ⟨o,h1,h2⟩=>⟨o,h1,ih o (dk o) hd h2⟩
 |update a b f k ih=>exact λdk hd ⟨h1,h2⟩=>⟨h1,ih () dk.2 (hd.upd dk.1) h2⟩
 |loadIfAlive a k ih=>exact λdk hd h=>ih _ (dk _) hd h
 |point a k ih=>exact λdk hd h=>ih () dk hd h
 |register a k ih=>exact λdk hd h=>h
 |alloc o k ih=>exact λdk hd h=>ih _ (dk _) (by obtain⟨q,h1,h2⟩:=hd;exact⟨q,aw _ h1,h2⟩) h
 |fresh k ih=>exact λdk hd h=>ih _ (dk _) hd h
 |ask k ih=>exact λdk hd h=>ih _ (dk _) hd h
 |choose a b k ih=>exact λdk hd ⟨h0,h⟩=>⟨h0,ih _ (dk _) hd h⟩
 |os a b k ih=>exact λdk hd h=>ih _ (dk _) hd h
 |call c h a b k ih=>exact λdk=>dk.elim
 |handled a k ih=>exact λdk hd h=>ih _ (dk _) hd h
 |genState g k ih=>exact λdk=>dk.elim
 |newGen c k ih=>exact λdk hd h=>ih _ (dk _) hd h
 |resume g r a k ih=>exact λdk=>dk.elim
 |yield=>exact λdk=>dk.elim
 |stack k ih=>exact λdk hd h=>ih _ (dk _) hd h
 |await=>exact λdk=>dk.elim
 |fork=>exact λdk=>dk.elim
 |thread k ih=>exact λdk hd h=>ih _ (dk _) hd h
theorem DY{M:uK}{A:bW}{e:ai}{d:Option ai}{t:Sem α}{Q:α->aj->Prop}{E:af->aj->Prop}{s:aj}(dk:Dk t)(hd:nO e d s.heap)(h:wpAny M A t Q E s) :
 wpAny M A t (λa s'=>Q a s'/\nO e d s'.heap) (λx s'=>E x s'/\nO e d s'.heap) s:=fun Γ p hi=>YL dk hd (h Γ p hi)
theorem Dk.bind{m:Sem α}{f:α->Sem β}(h:Dk m)(hf:∀a,Dk (f a)):Dk (m >>= f):=by
 revert h
 show Dk m->Dk (Sem.bind m f)
 induction m with
 |pure a=>exact λ_=>hf a
 |raise a=>exact λ_=>trivial
 |unsupported a=>exact λ_=>trivial
 |finish a=>exact λ_=>trivial
 |rule a k ih=>exact λdk=>ih () dk
 | «at» a k ih=>exact λdk=>ih () dk
 |load a b k ih=>exact λdk o=>ih o (dk o)
 |update a b f k ih=>exact λdk=>⟨dk.1,ih () dk.2⟩
 |loadIfAlive a k ih=>exact λdk o=>ih o (dk o)
 |point a k ih=>exact λdk=>ih () dk
 |register a k ih=>exact λdk=>trivial
 |alloc o k ih=>exact λdk o=>ih o (dk o)
 |fresh k ih=>exact λdk o=>ih o (dk o)
 |ask k ih=>exact λdk o=>ih o (dk o)
 |choose a b k ih=>exact λdk o=>ih o (dk o)
 |os a b k ih=>exact λdk o=>ih o (dk o)
 |call c h a b k ih=>exact λdk=>dk.elim
 |handled a k ih=>exact λdk o=>ih o (dk o)
 |genState g k ih=>exact λdk=>dk.elim
 |newGen c k ih=>exact λdk o=>ih o (dk o)
 |resume g r a k ih=>exact λdk=>dk.elim
 |yield=>exact λdk=>dk.elim
 |stack k ih=>exact λdk o=>ih o (dk o)
 |await=>exact λdk=>dk.elim
 |fork=>exact λdk=>dk.elim
 |thread k ih=>exact λdk o=>ih o (dk o)
end
theorem QE{α:Type}{a:α}:Dk (pure a:Sem α):=trivial
theorem Kq{a:ai}:Dk (load a):=λ_=>trivial
theorem QG{a:ai}{f:Obj->Obj}(h:∀o,(f o).dict=o.dict/\(f o).isFreed=o.isFreed):Dk (update a f):=⟨h,trivial⟩
theorem YM{f:Array af->Array af}(o:Obj):(C6 f o).dict=o.dict/\(C6 f o).isFreed=o.isFreed:=by
 obtain⟨c,d,x,sl⟩:=o;cases x<;>exact⟨rfl,rfl⟩
theorem Kr{v u:af}{i:Nat}:Dk (setField v i u):=by
 unfold setField
 split
 .unfold updateField
  refine Kq.bind λo=>?_
  split
  .split
   .exact QG λo=>YM o
   .trivial
  .trivial
 .trivial
theorem GJ{v:af}{i:Nat}:Dk (field v i):=by
 unfold field fieldsOf;refine Dk.bind ?_ λx=>?_
 .split
  .refine Kq.bind λo=>?_
   split<;>trivial
  .trivial
 .split<;>trivial
theorem Ks{v:af}{f:Option ai}:Dk (pX v f):=by
 unfold pX;refine GJ.bind λtb=>?_
 split
 .exact Kr
 .trivial
theorem Kt:Dk stack:=λ_=>trivial
theorem YN{env:Env}{l:List Env}:Dk (behindIsImport env l):=by
 unfold behindIsImport
 split
 .trivial
 .split
  .trivial
  .exact GJ.bind λ_=>trivial
theorem YO{env:Env}{b:Bool}{l:List Env}:Dk (keptBack env b l):=by
 unfold keptBack
 split
 .split
  .trivial
  .unfold underTheClaimsCaller
   refine Dk.bind (m:=stack >>= λ_=>pure _) (Kt.bind λ_=>QE) λ_=>QE
 .trivial
theorem QH:∀l:List Env,Dk (readyFrames l)
 |[]=>trivial
 | env::outer=>by
   unfold readyFrames
   split
   .refine Kq.bind λo=>?_
    split
    .trivial
    .exact YN.bind λb=>YO.bind λv=>Dk.bind (QG (by intro o;obtain⟨c,d,x,sl⟩:=o;cases x<;>exact⟨rfl,rfl⟩)) λ_=>QH outer
   .trivial
theorem YQ{env:Env}:Dk (pY env):=by
 unfold pY;refine Dk.bind ?_ λl=>Dk.bind ?_ λx=>?_
 .unfold frameEnvs
  exact Kt.bind λ_=>trivial
 .unfold frameObject
  split
  .trivial
  .exact(QH _).bind λ_=>trivial
 .split<;>trivial
theorem YR{f:ai}{b:Bool}:Dk (wg f b):=by
 unfold wg;refine Kt.bind λl=>?_
 split<;>trivial
theorem YS{x:String}{vs:List af}:Dk (newFields x vs):=by
 unfold newFields newObj newObjAsIs;dsimp only
 split
 .trivial
 .exact λa=>trivial
theorem QI{v:af}{env:Env}:Dk (pZ v env):=by
 unfold pZ
 split
 .refine GJ.bind λhd=>?_
  have eV:∀f:ai,Dk (do setField v 1 (<- p7 hd (<- pY env) .none (rawInt f) .none (<- wg f (hd != .none)))):=λf=>
   YQ.bind λa=>YR.bind λb=>Dk.bind (by unfold p7;exact YS) λ_=>Kr
  split
  .refine GJ.bind λ_=>?_
   split
   .trivial
   .exact Kr.bind λ_=>eV _
  .exact eV _
 .trivial
theorem QJ{v:af}{env:Env}:Dk (wa env v):=by
 unfold wa;exact QI.bind λ_=>Ks
def dP(P:aR)(w:bu):sH:=λouter H s E e s'=>
 ∃ (ea:ai) (cls a0:af) (B:bN) (H':Hp) (dx:Option ai),e=.ref ea/\s'.os=s.os/\jP s'.gens /\
   iO B outer ea cls a0 s'.heap/\iM P w H' B /\
   (∀b o,s.heap.get? b=aa o->H b=ae->b∉mG outer->B.get? b=aa o) /\
   (∀b o,s.heap.get? b=aa o->H b=ae->b∈mG outer->∃sl,s'.heap.get? b=aa { o with slots:=sl }) /\
   (∀b o,s.heap.get? b=aa o->H b=ae->H' b=ae) /\
   (∀b o,s.heap.get? b=aa o->b∉mG outer->∃o',B.get? b=aa o') /\
   (∀b xs,H b=aa (.tup xs)->H' b=aa (.tup xs))/\(∀b o u,H b=aa (.eL o u)->H' b=aa (.eL o u)) /\
   (∀b ps,H b=aa (.uT ps)->∃more,H' b=aa (.uT (ps++more)))/\nO ea dx s'.heap/\E cls dx H'
theorem iM.hide{P:aR}{w:bu}{H:Hp}{h:bN}{l:List ai}(ok:iM P w H h)(hl:∀b∈l,H b=ae):iM P w H (W.hideAll h l):=λa o e=>
 (ok a o e).mo (λb u hb q=>W.hideAll_get _ q λm=>by
  rcases hb with z | z
  .rw[z] at m;rw[hl a m] at e;cases e
  .rw[hl b m] at z;cases z) (λ_ q=>q) λ_ _ q=>q
section
variable {P:aR}{w:bu}{K:W.Frag}{mg:Str->Option af}{base:bN}{N:List Str}{qual:Str}{scope:iz}{f:ai}{cd:af}{A:bW}{outer:List Env}{s₀:aj}{H₀:Hp}{E:XK}
theorem ee:oF (dP P w) (h8 (dP P w) P w K mg base N qual scope f cd A outer s₀ H₀ E) E:=by
 intro ag σ H s e s' I h;obtain⟨ea,cls,a0,B,H',dx,rfl,ho,hb,oo,cD,keep,slot,free,there,tups,frzs,tbls,hd,hE⟩:=h;let X:=h8 (dP P w) P w K mg base N qual scope f cd A outer s₀ H₀ E;have qF:∀b,b∈mG X.stack↔b=X.env.locals\/b∈mG outer:=λb=>by
  show b∈X.env.locals::mG outer↔_;exact aF
 show wpAny (aJ P w) X.A (wa X.env (.ref ea)) _ _ _;refine bG (DY QJ hd (wpAny_leaves_onW (Q:=λ_ s2=>∃h1,s2={ s' with heap:=h1 }/\iO B outer ea cls a0 h1/\kZ s'.heap h1) (base:=B) (env:=X.env) (outer:=outer) (L:=X.env.locals) I.ok.frames rfl oo λh1 x1 x4=>⟨h1,rfl,x1,x4⟩)) (λ_ s2 z=>?_) λ_ _ z=>z.1;obtain⟨⟨h1,rfl,x1,x4⟩,za⟩:=z;have DZ:∀b,b∈mG X.stack->∀o,s'.heap.get? b=aa o->∃sl,h1.get? b=aa { o with slots:=sl }:=λb hb o e=>by
  obtain⟨o',e',nd⟩:=(oo.2.2.1.mem hb).2;rw[e] at e';cases e';exact x4 b o e nd
 refine⟨ea,cls,a0,B,H',dx,rfl,ho.trans I.os,hb,x1,cD,λb o e n hb=>?_,λb o e n hb=>?_,λb o e n=>?_,λb o e hb=>?_,λb xs q=>tups b xs (I.base.tups b xs q),λb o u q=>frzs b o u (I.base.frzs b o u q),λb ps q=>?_,za,hE⟩
 .have hL:b≠X.env.locals:=aQ (ax (aE e) I.ok.above)
  refine keep b o (I.base.keep b o e n hb (by simp[h8])) (I.base.free b o e n (by simp[h8])) λm=>?_;rcases(qF b).mp m with z | z
  .exact hL z
  .exact hb z
 .obtain⟨sl,e1⟩:=I.base.slot b o e n hb (by simp[h8])
  obtain⟨Gh,e2⟩:=slot b _ e1 (I.base.free b o e n (by simp[h8])) ((qF b).mpr (.inr hb));obtain⟨Ku,e3⟩:=DZ b ((qF b).mpr (.inr hb)) _ e2;exact⟨Ku,e3⟩
 .obtain⟨o',e1⟩:=I.base.there b o e (by simp[h8])
  exact free b o' e1 (I.base.free b o e n (by simp[h8]))
 .have hL:b≠X.env.locals:=aQ (ax (aE e) I.ok.above)
  obtain⟨o',e1⟩:=I.base.there b o e (by simp[h8]);refine there b o' e1 λm=>?_;rcases(qF b).mp m with z | z
  .exact hL z
  .exact hb z
 .obtain⟨m1,q1⟩:=I.base.tbls b ps q
  obtain⟨m2,q2⟩:=tbls b _ q1;exact⟨m1++m2,by rw[q2,ui]⟩
end
abbrev kC:List af:=[.type "ValueError",.type "Exception",.type "BaseException",.type "object"]
noncomputable def o4(K:W.Frag)(C:ai):Option (List af):=match K.lookup C with
 | some ⟨.type "type",_,.cls cd,sl⟩=>(match cd.mro,sl.toList with
   |.ref C'::bm,[_,_,_,_,aa (.builtin _),_]=>bif (C'==C)&&!cd.hasDel&&bm.contains (.type "BaseException") then aa bm else ae
   |_,_=>ae)
 |_=>ae
theorem QK{K:W.Frag}{h:bN}{C:ai}{bm:List af}(X:K.In h)(q:o4 K C=aa bm) :
  bm.contains (.type "BaseException")=true/\∃nm qn N bs qG sn sub ab zb dd k0 k1 k2 k3 k5 D0,h.get? C=aa (excClassObj nm qn C N bs bm qG sn sub ab zb dd k0 k1 k2 k3 k5 D0):=by
 unfold o4 at q
 split at q
 .rename_i YT GK slt look
  split at q
  .rename_i C2 D1 j0 j1 j2 j3 QM j5 em es
   cases c:((C2==C)&&!GK.hasDel&&D1.contains (.type "BaseException")) with
   |false=>rw[c] at q;cases q
   | true=>
     rw[c] at q;have e2:D1=bm:=bj q;simp only[cv,beq_iff_eq,wj] at c;obtain⟨⟨c1,c2⟩,c3⟩:=c;subst c1 e2;refine⟨c3,?_⟩;have ob:=X _ _ look;obtain⟨a1,a2,a3,a4,a5,a6,a7,a8,a9,b1,b2⟩:=GK;have em:a3=.ref C2::D1:=em;have c2:b2=false:=c2;have Kv:slt=#[j0,j1,j2,j3,aa (.builtin QM),j5]:=by
      obtain⟨l⟩:=slt;exact congrArg Array.mk es
     rw[em,c2,Kv] at ob;exact⟨_,_,_,_,_,_,_,_,_,_,_,_,_,_,_,_,ob⟩
  .cases q
 .cases q
theorem QN{M:uK}{A:bW}{E:af->aj->Prop}{K:W.Frag}{s:aj}{e C D:ai}{oe:Obj}{tH xj:List af}{Q:Bool->aj->Prop}(X:K.In s.heap)(qC:o4 K C=aa tH)(qD:o4 K D=aa xj)
  (he:s.heap.get? e=aa oe) (z0:oe.cls=.ref C) (hq:Q ((aP C::tH).contains (.ref D)) s):wpAny M A (excMatches (.ref e) (.ref D)) Q E s:=by
 obtain⟨h,g,d,t,os⟩:=s;obtain⟨bC,_,_,_,_,_,_,_,_,_,_,_,_,_,_,_,_,hC⟩:=QK X qC;obtain⟨bD,_,_,_,_,_,_,_,_,_,_,_,_,_,_,_,_,hD⟩:=QK X qD;have YU:(aP D::xj).contains (.type "BaseException")=true:=by rw[dC,bD,C7]
 have f:=tc_notTuple;unfold excMatches;generalize hv:(aP C::tH).contains (.ref D)=v at hq
 repeat (first | (with_reducible refine eU he ?_;rw[z0]) | with_reducible refine eU hD ?_ | (with_reducible refine jb hD ?_;rw[YU]) | (with_reducible refine jb hC ?_;rw[hv]) | wp_step)
 cases v<;>(wp_walk;exact hq)
section
variable {X:Cx}
abbrev Cx.kN(X:Cx)(pn:List (ai×Obj))(kn:St)(xe:af->aj->Prop):Cx:={ X with pn:=pn,kn:=kn,xe:=xe }
abbrev Cx.gZ(X:Cx)(ea:ai):Cx:={ X with A:=X.A.mark (aa (.ref ea)),calm:=false,xe:=λ_ _=>False }
theorem Cx.Ok.kN(ok:X.Ok)(pn:List (ai×Obj))(kn:St)(xe:af->aj->Prop):(X.kN pn kn xe).Ok:=
 ⟨ok.mod,ok.kind,ok.glob,ok.blt,ok.above,ok.inj,ok.has,ok.Dj,ok.hd,ok.frames,ok.Ge,ok.Gf,ok.bs,ok.wZ,ok.uU,ok.tz,ok.mV,ok.zX⟩
theorem Cx.Ok.gZ(ok:X.Ok)(ea:ai):(X.gZ ea).Ok:=
 ⟨ok.mod,ok.kind,ok.glob,ok.blt,ok.above,ok.inj,ok.has,ok.Dj,(λh=>nomatch h),ok.frames,ok.Ge,ok.Gf,ok.bs,ok.wZ,ok.uU,ok.tz,ok.mV,ok.zX⟩
theorem Inv.gZ{ag:List (ai×Obj)}{σ:St}{H:Hp}{s:aj}(I:Inv X ag σ H s)(ea:ai):Inv (X.gZ ea) ag σ H s:=
 ⟨I.ok.gZ ea,I.os,I.bare,I.base,I.loc,I.cell,I.free,I.iD,I.pin,I.cD,I.len,I.kn⟩
theorem Inv.jW{ag:List (ai×Obj)}{σ:St}{H:Hp}{s:aj}{ea:ai}(ok:X.Ok)(I:Inv (X.gZ ea) ag σ H s):Inv X ag σ H s:=
 ⟨ok,I.os,I.bare,I.base,I.loc,I.cell,I.free,I.iD,I.pin,I.cD,I.len,I.kn⟩
theorem jS.there{P:aR}{w:bu}{H:Hp}{h:bN}{a:ai}{o:HO}(x:jS P w H h a o):∃u,h.get? a=aa u:=by
 cases o with
 |lst xs=>obtain⟨_,_,_,_,e⟩:=x;exact⟨_,e⟩
 |tup xs=>obtain⟨_,_,_,ob,e,_⟩:=x;exact⟨_,e⟩
 |dK kvs=>obtain⟨_,_,_,_,o,_,_,e,_⟩:=x;exact⟨_,e⟩
 |dT kvs=>obtain⟨_,_,_,_,o,_,_,e,_⟩:=x;exact⟨_,e⟩
 |set S n=>obtain⟨o,_,_,_,e,_⟩:=x;exact⟨_,e⟩
 |ins C dx fs=>obtain⟨_,_,_,e,_⟩:=x;exact⟨_,e⟩
 |own y=>exact x
 |xd fs=>obtain⟨_,⟨_,_,_,e,_⟩,_⟩:=x;exact⟨_,e⟩
 |Gc lo hi=>obtain⟨_,_,_,e⟩:=x;exact⟨_,e⟩
 |eL ob u=>obtain⟨e,_⟩:=x;exact⟨_,e⟩
 |uT ps=>exact⟨_,(show h.get? a=aa _ from x)⟩
 |met f y=>exact⟨_,(show h.get? a=aa _ from x)⟩
 |ext φ=>exact x.2.1
abbrev vc:=af->Option ai->ai->Ends->St->Hp->Prop
def PH(X:Cx)(hs:List gM)(t:vc):Prop:=
 ∀ (ag:List (ai×Obj)) (s:aj) (σ:St) (H:Hp) (D:Ends) (ea:ai) (cls a0:af) (dx:Option ai) (B:bN),X.Ok->(∀h',B.StaysIn h'->s.heap.UpToSlots h'->Inv X ag σ H { s with heap:=h' }) ->
   (∀h' φ,B.StaysIn h'->s.heap.UpToSlots h'->jS X.prog X.w H h' ea (.ext φ)->Inv X ag σ (upd H ea (.ext φ)) { s with heap:=h' })->iO B X.stack ea cls a0 s.heap->(nO ea dx s.heap/\H ea=ae)->t cls dx ea D σ H->wpAny (aJ X.prog X.w) X.A (yO (.ref ea) X.env hs) (SP X ag D) X.xe s
def Kw(K:W.Frag)(D:ai)(ts:TS)(tr:vc):vc:=λcls dx ea En σ H=>∃C tH,cls=.ref C/\o4 K C=aa tH /\
 if(aP C::tH).contains (.ref D)=true then ts En σ H else tr cls dx ea En σ H
theorem YV{D:ai}{xj:List af}{x:Str}{np pos:Pos}{b₀:bR}{kO:List bR}{iq:List gM}{ts:TS}{tr:vc}(hg:Gl X x)(hm:X.mg x=aa (.ref D))(qD:o4 X.K D=aa xj)
  (hs:∀ea,k8 (X.gZ ea) (b₀::kO) ts) (hr:PH X iq tr) (jE:(x==("__debug__" : Str))=false:=by decide) :
  PH X (.ExceptHandler (aa (.Name x np)) ae (b₀::kO) pos::iq) (Kw X.K D ts tr):=by
 intro ag s σ H En ea cls a0 dx B ok vd pq oo hd h;obtain⟨C,tH,rfl,qC,h⟩:=h;have I:Inv X ag σ H s:=vd s.heap oo.1 (.refl _);have I':=I.gZ ea;obtain⟨oe,Kx,BO⟩:=oo.there;refine zO (wU ?_) (by intro q;cases q);refine yZ (X:=X.gZ ea) I' hg hm ?_ jE;refine QN I.jz qC qD Kx BO ?_;cases c:(aP C::tH).contains (.ref D) with
 | false=>
   rw[c] at h;exact hr ag s σ H En ea _ a0 dx B ok vd pq oo hd (by simpa using h)
 | true=>
   rw[c] at h;have h:ts En σ H:=by simpa using h
   refine codeAny_handlers_suite (lands_againW oo λh6 tI D2=>?_);refine bG (hs ea ag { s with heap:=h6 } σ H En ((vd h6 tI.1 D2).gZ ea) h) (λf s2 q=>?_) λ_ _ z=>z.elim;cases f with
   |next=>obtain⟨a,b,c,d⟩:=q;exact⟨a,b,c.jW ok,d⟩
   |brk=>obtain⟨a,b,c,d⟩:=q;exact⟨a,b,c.jW ok,d⟩
   |cont=>obtain⟨a,b,c,d⟩:=q;exact⟨a,b,c.jW ok,d⟩
   |ret u=>obtain⟨v,a,b,c,d⟩:=q;exact⟨v,a,b,c.jW ok,d⟩
def Ky(X:Cx)(body:List bR)(th:vc):TS:=λD σ H=>∃(kn:St) (R:XK) (tb:TS),kn.length=σ.length/\(∀(i:Nat) (v:V),kn[i]?=aa (aa v)->σ[i]?=aa (aa v)) /\
 (∀(i:Nat) (v:V),X.kn[i]?=aa (aa v)->kn[i]?=aa (aa v)) /\
 (∀(pn:List (ai×Obj)) (xe:af->aj->Prop),oF (dP X.prog X.w) (X.kN pn kn xe) R->mR (aJ X.prog X.w) X.A X.env xe->k8 (X.kN pn kn xe) body tb) /\
 tb D σ H/\∀cls dx ea H',R cls dx H'->th cls dx ea D kn H'
theorem YW{body:List bR}{h₀:gM}{hs:List gM}{th:vc}{pos:Pos}(YX:PH X (h₀::hs) th)(fm:X.stack=X.env::X.outer:=by rfl)(Kz:X.env.frame=aa X.env.locals:=by rfl) :
  PS X (.Try body (h₀::hs) [] [] pos) (Ky X body th):=by
 intro ag s σ H D I h;obtain⟨kn,R,tb,hl,hk,uu,hb,h,YY⟩:=h;refine wpAny_Try_except ?_;have own:=PassesOwn.looking (M:=aJ X.prog X.w) (A:=X.A) (env:=X.env) (E₁:=X.xe) (K:=λe s₂=>wpAny (aJ X.prog X.w) X.A (pX e ae) (λ_ s₃=>wpAny (aJ X.prog X.w) X.A (yO e X.env (h₀::hs)) (SP X ag D) X.xe s₃) X.xe s₂);have ve:∀{pn:List (ai×Obj)} {xe:af->aj->Prop} {iE:List (ai×Obj)} {σ':St} {H':Hp} {s':aj},(∀p∈X.pn++ag,p∈pn)->Inv (X.kN pn kn xe) iE σ' H' s'->Inv X ag σ' H' s':=λ{pn xe iE σ' H' s'} hp J=>
  ⟨I.ok,J.os,J.bare,J.base,J.loc,J.cell,J.free,J.iD,λp z=>J.pin p (ck _ (hp p z)),J.cD,J.len,λi v e=>J.kn i v (uu i v e)⟩
 have Ap:oF (dP X.prog X.w) (X.kN (X.pn++ag) kn λe s₁=>wpAny (aJ X.prog X.w) X.A (pZ e X.env) (λ_ s₂=>wpAny (aJ X.prog X.w) X.A (pX e ae) (λ_ s₃=>wpAny (aJ X.prog X.w) X.A (yO e X.env (h₀::hs)) (SP X ag D) X.xe s₃) X.xe s₂) X.xe s₁) R:=by
  intro iE σ' H1 s1 e s' I1 T;obtain⟨ea,cls,a0,B,H',dx,rfl,ho,zc,oo,cD,keep,slot,free,there,tups,frzs,tbls,hd,hE⟩:=T;have I2:Inv X ag kn H1 s1:=(ve (λ_ z=>z) I1).weak (by rw[hl,I.len];exact(I1.len).symm) (λi v e=>I1.kn i v e) uu;have vf:∀h',s'.heap.UpToSlots h'->∀b o,s1.heap.get? b=aa o->H1 b=ae->b∈mG X.stack->∃sl,h'.get? b=aa { o with slots:=sl }:=λh' up b o e n hb=>by
   obtain⟨sl,e1⟩:=slot b o e n hb;obtain⟨o',e',nd⟩:=(oo.2.2.1.mem hb).2;rw[e1] at e';cases e';obtain⟨Ku,e2⟩:=up b _ e1 nd;exact⟨Ku,e2⟩
  have vg:∀h',B.StaysIn h'->s'.heap.UpToSlots h'->∀b o,s1.heap.get? b=aa o->∃o',h'.get? b=aa o':=λh' st up b o e=>by
   by_cases hb:b∈mG X.stack
   .obtain⟨sl,e2⟩:=vf h' up b o e (I2.ni b hb) hb
    exact⟨_,e2⟩
   .obtain⟨o',e2⟩:=there b o e hb
    exact⟨o',st b o' e2⟩
  have vd:∀h',B.StaysIn h'->s'.heap.UpToSlots h'->Inv X ag kn H' { s' with heap:=h' }:=λh' st up=>
   I2.uV (s':={ s' with heap:=h' }) (ch:=[]) ho ⟨λb o e n hb _=>st b o (keep b o e n hb),λb o e n hb _=>vf h' up b o e n hb,λb o e n _=>free b o e n,λb o e _=>vg h' st up b o e,tups,frzs,tbls⟩ (cD.kept λb u z=>st b u z) zc (λ_ z=>nomatch z)
  have QO:∀b u,H' b=aa u->b≠ea:=λb u z w=>by
   obtain⟨v,hv⟩:=(cD b u z).there;rw[w,oo.2.1] at hv;cases hv
  have pq:∀h' φ,B.StaysIn h'->s'.heap.UpToSlots h'->jS X.prog X.w H' h' ea (.ext φ)->Inv X ag kn (upd H' ea (.ext φ)) { s' with heap:=h' }:=λh' φ st up new=>by
   have kp:∀b u,H' b=aa u->upd H' ea (.ext φ) b=aa u:=λb u z=>by rw[dh (QO b u z)];exact z
   refine I2.uV (s':={ s' with heap:=h' }) (ch:=[]) ho ⟨λb o e n hb _=>st b o (keep b o e n hb),λb o e n hb _=>vf h' up b o e n hb,λb o e n _=>?_,λb o e _=>vg h' st up b o e,
    λb xs e=>kp b _ (tups b xs e),λb o u e=>kp b _ (frzs b o u e),λb ps e=>let ⟨m,q⟩:=tbls b ps e;⟨m,kp b _ q⟩⟩ (λb u z=>?_) zc (λ_ z=>nomatch z)
   .rw[dh];exact free b o e n
    rintro rfl;by_cases hb:b∈mG X.stack
    .obtain⟨oe,vs,ge,_,gd,_⟩:=oo.first
     obtain⟨o',e',nd⟩:=(oo.2.2.1.mem hb).2;rw[ge] at e';cases e';exact nd vs gd
    .have:=keep b o e n hb
     rw[oo.2.1] at this;cases this
   .by_cases hb:b=ea
    .subst hb;rw[fX] at z;cases z
     exact new
    .rw[dh hb] at z
     exact(cD b u z).mo (λc v _ r=>st c v r) (λc r=>kp c _ r) λc xs r=>kp c _ r
  have KA:X.A.frames=aa (X.env::X.outer):=fm▸I.ok.frames;have KC:iO B (X.env::X.outer) ea cls a0 s'.heap:=fm▸oo;show wpAny (aJ X.prog X.w) X.A (pZ (.ref ea) X.env) _ _ _;refine bG (DY QI hd (wpAny_looks_onW (Q:=λ_ s2=>∃h4,s2={ s' with heap:=h4 }/\Heap.HeldW B (X.env::X.outer) ea cls a0 X.env.locals h4/\kZ s'.heap h4) KA Kz KC λh4 vh GL=>⟨h4,rfl,vh,GL⟩)) (λ_ s2 z=>?_) λ_ _ z=>z.1;obtain⟨⟨h4,rfl,vh,GL⟩,YZ⟩:=z;refine bG (DY Ks YZ (wpAny_landsW (Q:=λ_ s2=>∃h5,s2={ s' with heap:=h5 }/\iO B (X.env::X.outer) ea cls a0 h5/\kZ h4 h5) vh λh5 Aq GN=>⟨h5,rfl,Aq,GN⟩)) (λ_ s2 z=>?_) λ_ _ z=>z.1;obtain⟨⟨h5,rfl,Aq,GN⟩,Y0⟩:=z;exact YX ag { s' with heap:=h5 } kn H' D ea cls a0 dx B I.ok (λh' st up=>vd h' st ((GL.trans GN).trans up)) (λh' φ st up new=>pq h' φ st ((GL.trans GN).trans up) new) (fm▸Aq) ⟨Y0,by cases q:H' ea with|none=>rfl | some u=>exact absurd rfl (QO ea u q)⟩ (YY cls dx ea H' hE)
 have I':Inv (X.kN (X.pn++ag) kn λe s₁=>wpAny (aJ X.prog X.w) X.A (pZ e X.env) (λ_ s₂=>wpAny (aJ X.prog X.w) X.A (pX e ae) (λ_ s₃=>wpAny (aJ X.prog X.w) X.A (yO e X.env (h₀::hs)) (SP X ag D) X.xe s₃) X.xe s₂) X.xe s₁) [] σ H s:=
  ⟨I.ok.kN _ _ _,I.os,I.bare,I.base,I.loc,I.cell,I.free,I.iD,λp z=>I.pin p (by simpa using z),I.cD,I.len,hk⟩
 refine bG (hb _ _ Ap own [] s σ H D I' h) (λf s1 q=>?_) λ_ _ z=>z;cases f with
 |next=>obtain⟨a,b,c,d⟩:=q;exact i' ⟨a,b,ve (λ_ z=>z) c,d⟩
 |brk=>obtain⟨a,b,c,d⟩:=q;exact⟨a,b,ve (λ_ z=>z) c,d⟩
 |cont=>obtain⟨a,b,c,d⟩:=q;exact⟨a,b,ve (λ_ z=>z) c,d⟩
 |ret u=>obtain⟨v,a,b,c,d⟩:=q;exact⟨v,a,b,ve (λ_ z=>z) c,d⟩
end
structure cO(K:W.Frag)(x qual:Str)(st:bR)(dV:af)(f:ai)(fd:bA):Prop where
 ex:∃(oc:af) (od:Option ai) (kV nr pm:af) (an:Option ai) (gT ct:af) (qU:Array (Option af)),
  fd=W.fnOf x qual (qE st) (oj st) (d8 st) dV kV nr pm an gT ct/\K.lookup f=aa ⟨oc,od,.func fd,qU⟩/\W.codeIn K gT qual=true
 kp:W.keepIn K (.ref f)=true
section
variable {P:aR}{w:bu}{K:W.Frag}{mg:Str->Option af}{base:bN}
theorem DX.toV{x qual:Str}{st:bR}{f:ai}{fd:bA}(F:DX K x qual st f fd):cO K x qual st .none f fd:=⟨F.ex,F.kp⟩
theorem cO.KD{x qual:Str}{st:bR}{dV:af}{f:ai}{fd:bA}{N ps:List Str}{k:Nat}{sp:Sp}(F:cO K x qual st dV f fd)(S:gj N ps (d8 st))(len:∀vs H Q E,sp vs H Q E->vs.length=ps.length)
  (lK:∀(gT:af) (A:bW) (outer:List Env) (s:aj) (H:Hp) (vs:List V) (Q:VK) (E:XK),eJ k (A.deeper (iH qual (d8 st) s.heap.objs.size f gT))->sp vs H Q E ->
   ∃t,k8 (h8 (dP P w) P w K mg base N qual (d8 st) f gT A outer s H E) (oj st) t/\t { nx:=λ_ H'=>Q .bH H',rt:=Q } (start N vs) H):bE P w K mg base (dP P w) (k+1) f fd ps sp:=by
 obtain⟨oc,od,kV,nr,pm,an,gT,ct,qU,rfl,lk,tD⟩:=F.ex;exact XT lk tD S len λA outer s H vs Q E hr oX=>lK gT A outer s H vs Q E hr oX
theorem bE.calm{k:Nat}{f:ai}{fd:bA}{ps:List Str}{sp:Sp}(F:bE P w K mg base (dP P w) k f fd ps sp):bE P w K mg base DW k f fd ps (λvs H Q _=>sp vs H Q E0):=
 ⟨λvs H Q _ h=>F.len vs H Q E0 h,λA outer s H args us vs Q E hr e0 hb r h=>jg (F.run A outer s H args us vs Q E0 hr e0 hb r h) λres s' q=>by
  cases res with
  |ok fl=>cases fl<;>exact q
  | error e=>
    obtain⟨_,_,_,_,_,_,_,_,_,_,_,_,_,_,_,_,_,_,_,z⟩:=q;exact z⟩
end
section
variable {X:Cx}{ag:List (ai×Obj)}{σ:St}{H:Hp}{s:aj}{a:ai}
theorem Inv.swap{o1 o2:HO}(I:Inv X ag σ H s)(e:H a=aa o1)(n1:∀xs,o1≠.tup xs)(n2:∀x,o1≠.own x)(n3:∀ps,o1≠.uT ps)(hz:∀o u,X.H₀ a=aa (.eL o u)->o2=.eL o u)
  (new:jS X.prog X.w (upd H a o2) s.heap a o2):Inv X ag σ (upd H a o2) s:=by
 have hf:∀b,H b=ae->upd H a o2 b=ae:=λb n=>by rw[dh (by rintro rfl;rw[e] at n;cases n)];exact n
 have tu:∀b xs,H b=aa (.tup xs)->upd H a o2 b=aa (.tup xs):=λb xs n=>by rw[dh (by rintro rfl;rw[e] at n;exact n1 xs (bj n))];exact n
 refine⟨I.ok,I.os,I.bare,⟨I.base.keep,I.base.slot,λb o q n hx=>hf b (I.base.free b o q n hx),I.base.there,λb xs q=>tu b xs (I.base.tups b xs q),λb o u q=>?_,λb ps q=>?_⟩,I.loc,I.cell,hf _ I.free,λx c q=>hf c (I.iD x c q),λp hp=>?_,λb u q=>?_,I.len,I.kn⟩
 .by_cases hb:b=a
  .subst hb;rw[fX,hz o u q]
  .rw[dh hb];exact I.base.frzs b o u q
 .obtain⟨m,q'⟩:=I.base.tbls b ps q
  exact⟨m,by rw[dh (by rintro rfl;rw[e] at q';exact n3 _ (bj q'))];exact q'⟩
 .obtain⟨a1,a2,a3,a4,a5⟩:=I.pin p hp
  exact⟨a1,hf _ a2,a3,a4,a5⟩
 .by_cases hb:b=a
  .subst hb;rw[fX] at q;cases q;exact new
  .rw[dh hb] at q
   exact(I.cD b u q).mo (λ_ _ _ z=>z) (λc z=>by rw[dh (by rintro rfl;rw[e] at z;exact n2 _ (bj z))];exact z) tu
theorem Inv.freeze{kvs:List (bZ×V)}(I:Inv X ag σ H s)(e:H a=aa (.dK kvs)):(∀o u,X.H₀ a≠aa (.eL o u))/\∃o,s.heap.get? a=aa o/\Inv X ag σ (upd H a (.eL o (.dK kvs))) s:=by
 have nf:∀o u,X.H₀ a≠aa (.eL o u):=λo u q=>by
  have z:=I.base.frzs a o u q;rw[e] at z;cases z
 obtain⟨z,y,vs,r,o,es,ep,q,c⟩:=I.cD a _ e;exact⟨nf,o,q,I.swap e (λ_ h=>nomatch h) (λ_ h=>nomatch h) (λ_ h=>nomatch h) (λo u q=>absurd q (nf o u)) ⟨q,z,y,vs,r,o,es,ep,q,c⟩⟩
theorem Inv.KG{o:Obj}{kvs:List (bZ×V)}(I:Inv X ag σ H s)(nf:∀o u,X.H₀ a≠aa (.eL o u))(e:H a=aa (.eL o (.dK kvs))):Inv X ag σ (upd H a (.dK kvs)) s:=by
 obtain⟨_,z⟩:=I.cD a _ e;exact I.swap e (λ_ h=>nomatch h) (λ_ h=>nomatch h) (λ_ h=>nomatch h) (λo u q=>absurd q (nf o u)) z
theorem Inv.frozen{o:Obj}{kvs:List (bZ×V)}{es:Array mS}{ep:Nat}(I:Inv X ag σ H s)(e:H a=aa (.eL o (.dK kvs)))(hd:o.data=.dict es ep) :
  kvs.length<=sizeLine/\(a==eY)=false/\∃vs,KV kvs vs/\s.heap.DictAt (kJ X.prog X.w) a vs ep:=by
 obtain⟨q,z,y,vs,r,o',zY,zZ,q',c1,c2,c3⟩:=I.cD a _ e;rw[q] at q';cases q';rw[hd] at c2;cases c2;exact⟨z,y,vs,r,o,es,q,c1,hd,c3⟩
end
theorem KV.at{kvs:List (bZ×V)}{vs:List (bZ×af)}(r:KV kvs vs){i:Nat}{k:bZ}{v:V}(e:kvs[i]?=aa (k,v)):∃u,vs[i]?=aa (k,u)/\RelV v u:=by
 induction r generalizing i with
 |nil=>simp at e
 | cons p t ih=>
   cases i with
   | zero=>
     simp at e;rename_i a b _ _;obtain⟨p1,p2⟩:=p;refine⟨b.2,?_,?_⟩
     .simp only[bT,qw]
      rw[e] at p1;exact Prod.ext p1.symm rfl
     .rw[e] at p2;exact p2
   | succ j=>
     obtain⟨u,h1,h2⟩:=ih (i:=j) (by simpa using e);exact⟨u,by simpa using h1,h2⟩
theorem KH{P:aR}{w:bu}{k:bZ}{u:af}(h:(kJ P w).is k u=true):RelV (kV k) u:=by
 rcases tw h with⟨i,t,rfl,rfl⟩ | ⟨x,t,rfl,rfl⟩
 .exact⟨t,rfl⟩
 .exact⟨t,rfl⟩
noncomputable def Ar(a:ai)(o:Obj)(kvs:List (bZ×V)):It:=
 ⟨λi H=>H a=aa (.eL o (.dK kvs))/\i<kvs.length,λi H x H'=>∃p k v,kvs[i]?=aa (k,v)/\H p=ae/\x=.ref p/\H'=upd H p (.tup [kV k,v]),λi H=>H a=aa (.eL o (.dK kvs))/\kvs.length<=i⟩
noncomputable def BX(a:ai)(o:Obj)(kvs:List (bZ×V)):It:=
 ⟨λi H=>H a=aa (.eL o (.dK kvs))/\i<kvs.length,λi H x H'=>∃k v,kvs[i]?=aa (k,v)/\x=kV k/\H'=H,λi H=>H a=aa (.eL o (.dK kvs))/\kvs.length<=i⟩
theorem Y1 {P:aR} {w:bu} {K:W.Frag} {rL:List bt} {kk:Nat} {tp:Pos} {a it:ai} {o:Obj} {es:Array mS} {ep:Nat} {kvs:List (bZ×V)} (hd:o.data=.dict es ep) :
  pj P w K (.Tuple rL kk tp) (Ar a o kvs) [it] it (λi h=>∃ok ov,IsItemIter h it a i kvs.length ep ok ov) where
 mem:=by simp
 obj:=λi h ⟨ok,ov,e⟩ b hb=>by
  obtain rfl:b=it:=by simpa using hb
  exact⟨_,e,(λv z=>nomatch z)⟩
 keep:=λi h h' ⟨ok,ov,e⟩ k=>⟨ok,ov,k it (by simp) _ e⟩
 item:=by
  intro X e1 e2 e3 hc i ag s σ H E I fp ⟨ok,ov,e⟩ ⟨hz,hi⟩;subst e1 e2 e3;obtain⟨f1,f2,f3,f4,f5,f6⟩:=fp it (by simp);obtain⟨zl,_,vs,r,da⟩:=I.frozen hz hd;obtain⟨⟨k,v⟩,hk⟩:∃p,kvs[i]?=aa p:=⟨kvs[i],by simp[hi]⟩;obtain⟨u,hu,ru⟩:=r.at hk;have hl:vs.length=kvs.length:=r.length.symm;refine wpAny_pyNext_items_item (knd:=kJ X.prog X.w) (kvs:=vs) (ok:=ok) (ov:=ov) (by rw[hl];exact e) da hu λkey h1 u0 io ht hsz keep=>⟨_,rfl,?_⟩;refine wpAny_letOwnedTupleGo_items (i:=i+1) (n:=vs.length) io λh2 Y2 sb=>?_;have hp:s.heap.objs.size≠it:=ka (aE e);have I1:Inv X ag σ (upd H s.heap.objs.size (.tup [kV k,v])) { s with heap:=s.heap.push { cls:=.type "tuple",data:=.seq #[key,u] } }:=
   I.laid (t':=s.toks) (λb q z=>aw _ z) (az _) ⟨by show 2<=sizeLine;decide,[key,u],.cons (KH u0) (.cons ru .nil),_,aZ _ rfl,rfl,_,rfl⟩
  have I2:=I1.turned (h':=h2) (t':=s.toks) (it:=it) (λb q hb z=>by
   refine sb.extBut b q hb ?_;by_cases QP:b=s.heap.objs.size
   .rw[QP] at z ⊢
    rw[aZ _ rfl] at z;cases z;exact ht
   .exact keep b q hb (by
     have:=aE z;rw[gR] at this;have lt:b<s.heap.objs.size:=Nat.lt_of_le_of_ne (Nat.le_of_lt_succ this) QP;cases z':s.heap.get? b with
     |some q'=>rw[aw _ z'] at z;exact z
     | none=>
       exfalso;have:(s.heap.push { cls:=.type "tuple",data:=.seq #[key,u] }).get? b=ae:=by
        simp only[Heap.get?,Heap.push] at z' ⊢;rw[Array.getElem?_push_lt lt];rw[o_ lt] at z';exact z'
       rw[this] at z;cases z)) (by rw[dh (bP hp)];exact f1) f2 f4 f5 f6
  exact⟨.ref s.heap.objs.size,_,I2,rfl,⟨_,k,v,hk,I.cD.fresh (az _),rfl,rfl⟩,⟨_,_,by rw[<- hl];exact Y2⟩,λb hb=>by
   obtain rfl:b=it:=by simpa using hb
   rw[dh (bP hp)];exact f1⟩
 done:=by
  intro X e1 e2 e3 hc i ag s σ H E I fp ⟨ok,ov,e⟩ ⟨hz,hi⟩;subst e1 e2 e3;obtain⟨f1,f2,f3,f4,f5,f6⟩:=fp it (by simp);obtain⟨zl,_,vs,r,da⟩:=I.frozen hz hd;have hl:vs.length=kvs.length:=r.length.symm;exact wpAny_pyNext_items_end (knd:=kJ X.prog X.w) (kvs:=vs) (ok:=ok) (ov:=ov) (I.ok.hd hc) (by rw[hl];exact e) da (p8.mpr (by omega)) λh' hx=>⟨rfl,I.turned (t':=s.toks) (λb q hb z=>hx b q hb z) f1 f2 f4 f5 f6⟩
 self:=λA i s Q E ⟨ok,ov,e⟩ h=>W.kcp_self e h
theorem Y3{P:aR}{w:bu}{K:W.Frag}{tg:bt}{a it:ai}{o:Obj}{es:Array mS}{ep:Nat}{kvs:List (bZ×V)}(hd:o.data=.dict es ep) :
  pj P w K tg (BX a o kvs) [it] it (λi h=>h.IsKeyIter it a i kvs.length ep) where
 mem:=by simp
 obj:=λi h ⟨q,e,c,d⟩ b hb=>by
  obtain rfl:b=it:=by simpa using hb
  exact⟨_,e,λv z=>by rw[d] at z;cases z⟩
 keep:=λi h h' ⟨q,e,c⟩ k=>⟨q,k it (by simp) _ e,c⟩
 item:=by
  intro X e1 e2 e3 hc i ag s σ H E I fp e ⟨hz,hi⟩;subst e1 e2 e3;obtain⟨f1,f2,f3,f4,f5,f6⟩:=fp it (by simp);obtain⟨zl,_,vs,r,da⟩:=I.frozen hz hd;obtain⟨⟨k,v⟩,hk⟩:∃p,kvs[i]?=aa p:=⟨kvs[i],by simp[hi]⟩;obtain⟨u,hu,ru⟩:=r.at hk;have hl:vs.length=kvs.length:=r.length.symm;refine wpAny_pyNext_dict_item (knd:=kJ X.prog X.w) (kvs:=vs) (by rw[hl];exact e) da hu λkey h1 u0 io sb=>⟨_,rfl,?_⟩;have I2:Inv X ag σ H { s with heap:=h1 }:=I.turned (h':=h1) (t':=s.toks) (it:=it) (λb q hb z=>sb.extBut b q hb z) f1 f2 f4 f5 f6;refine Jo io ⟨kV k,H,I2,KH u0,⟨k,v,hk,rfl,rfl⟩,by rw[<- hl];exact io,λb hb=>?_⟩;obtain rfl:b=it:=by simpa using hb
  exact f1
 done:=by
  intro X e1 e2 e3 hc i ag s σ H E I fp e ⟨hz,hi⟩;subst e1 e2 e3;obtain⟨f1,f2,f3,f4,f5,f6⟩:=fp it (by simp);obtain⟨zl,_,vs,r,da⟩:=I.frozen hz hd;have hl:vs.length=kvs.length:=r.length.symm;exact wpAny_pyNext_dict_end (knd:=kJ X.prog X.w) (kvs:=vs) (I.ok.hd hc) (by rw[hl];exact e) da (p8.mpr (by omega)) λh' hx=>⟨rfl,I.turned (t':=s.toks) (λb q hb z=>hx b q hb z) f1 f2 f4 f5 f6⟩
 self:=λA i s Q E e h=>wpAny_pyIter_keyiter e h
section
variable {X:Cx}{tg:bt}
def Y4(X:Cx)(te:TE):TI:=fun σ H R=>te σ H λx H1=>∃a kvs,x=.ref a /\
 ((H1 a=aa (.dK kvs)/\∀o,(∀o' u,X.H₀ a≠aa (.eL o' u))->R (Ar a o kvs) (upd H1 a (.eL o (.dK kvs))))\/∃o,H1 a=aa (.eL o (.dK kvs))/\R (Ar a o kvs) H1)
def QQ(X:Cx)(te:TE):TI:=fun σ H R=>te σ H λx H1=>∃a kvs,x=.ref a /\
 ((H1 a=aa (.dK kvs)/\∀o,(∀o' u,X.H₀ a≠aa (.eL o' u))->R (BX a o kvs) (upd H1 a (.eL o (.dK kvs))))\/∃o,H1 a=aa (.eL o (.dK kvs))/\R (BX a o kvs) H1)
theorem QR{ag:List (ai×Obj)}{σ:St}{H:Hp}{s:aj}{a:ai}{o:Obj}{kvs:List (bZ×V)}(I:Inv X ag σ H s)(e:H a=aa (.eL o (.dK kvs))):s.heap.get? a=aa o/\∃es ep,o.data=.dict es ep:=by
 obtain⟨q,z,y,vs,r,o',zY,zZ,q',c1,c2,c3⟩:=I.cD a _ e;rw[q] at q';cases q';exact⟨q,zY,zZ,c2⟩
theorem QS{l:bt}{tl:TE}(hl:PE X l tl):PI X tg l (QQ X tl):=by
 intro ag s σ H R I h;refine dM (hl ag s σ H _ I h) λu s1 cS=>?_;obtain⟨x,H1,I1,r1,a,kvs,e,q⟩:=cS;subst e;obtain rfl:u=aP a:=r1;have go:∀(o:Obj) (H2:Hp),Inv X ag σ H2 s1->H2 a=aa (.eL o (.dK kvs))->R (BX a o kvs) H2->wpAny (aJ X.prog X.w) X.A (BB (.ref a)) (Gs X ag σ tg R) X.xe s1:=λo H2 I2 e2 q2=>by
  obtain⟨g,es,ep,hd⟩:=QR I2 e2;obtain⟨zl,zm,vs,r,da⟩:=I2.frozen e2 hd;have cK:vs.length=kvs.length:=r.length.symm;refine wpAny_pyIter_dict (knd:=kJ X.prog X.w) zm da ?_;have I3:=I2.kept (h':=s1.heap.push { cls:=.type "dict_keyiterator",data:=.fields #[.ref a,.int 0 0,.int vs.length 0,.int ep 0] }) (t':=s1.toks) λb q z=>aw _ z;refine⟨s1.heap.objs.size,[s1.heap.objs.size],_,BX a o kvs,H2,rfl,I3,Y3 hd,⟨_,aZ _ rfl,rfl,by rw[cK];rfl⟩,λb hb=>?_,q2⟩;obtain rfl:b=s1.heap.objs.size:=by simpa using hb
  exact I2.uY (az _) (I2.cD.fresh (az _))
 rcases q with⟨e1,q⟩ | ⟨o,e1,q⟩
 .obtain⟨nf,o,g,I2⟩:=I1.freeze e1
  exact go o _ I2 fX (q o nf)
 .exact go o _ I1 e1 q
theorem Y5{l:bt}{tl:TE}{rL:List bt}{kk:Nat}{tp cP fN:Pos}(hl:PE X l tl)(fG:b_ l "items" X.env (eval l X.env)=eval l X.env:=by rfl)(fH:(cP.endLine==fN.line)=true:=by rfl) :
  PI X (.Tuple rL kk tp) (.Call (.Attribute l "items" cP) [] [] fN) (Y4 X tl):=by
 intro ag s σ H R I h;refine uP fG fH (dM (hl ag s σ H _ I h) λu s1 cS=>?_);obtain⟨x,H1,I1,r1,a,kvs,e,q⟩:=cS;subst e;obtain rfl:u=aP a:=r1;have go:∀(o:Obj) (H2:Hp),Inv X ag σ H2 s1->H2 a=aa (.eL o (.dK kvs))->R (Ar a o kvs) H2->MethodOn X.prog X.w X.A "items" fN (.ref a) [] (λv s2=>wpAny (aJ X.prog X.w) X.A (BB v) (Gs X ag σ (.Tuple rL kk tp) R) X.xe s2) X.xe s1:=λo H2 I2 e2 q2=>by
  obtain⟨g,es,ep,hd⟩:=QR I2 e2;obtain⟨zl,zm,vs,r,da⟩:=I2.frozen e2 hd;have cK:vs.length=kvs.length:=r.length.symm;obtain⟨t1,t2,_⟩:=Yc I2 (.inl ⟨kvs,.inr ⟨o,e2⟩⟩);refine⟨"dict",_,PySem.F.plainAttrs_dict,pb,PySem.F.type_dict_items,t1,t2,jL rfl (s_ ?_)⟩;refine call_meetsIn pb t1 PySem.F.entry_dict_items (PySem.F.args_dict_items_1 _) (meets_dict_items (kJ X.prog X.w) a zm) ⟨⟨vs,da.dictOf⟩,?_⟩;have I3:=I2.kept (h':=s1.heap.push { cls:=.type "dict_items",data:=.fields #[.ref a] }) (t':=s1.toks) λb q z=>aw _ z;refine wpAny_pyIter_items (d:=a) (kvs:=vs) (ep:=ep) (knd:=kJ X.prog X.w) ⟨_,aZ _ rfl,rfl,rfl⟩ (da.push _) ?_;have I4:=I3.kept (h':=(s1.heap.push { cls:=.type "dict_items",data:=.fields #[.ref a] }).push { cls:=.type "dict_itemiterator",data:=.fields #[.none,.bool false,.ref a,.int 0 0,.int vs.length 0,.int ep 0,.none,.none] }) (t':=s1.toks) λb q z=>aw _ z;refine⟨_,[_],_,Ar a o kvs,H2,rfl,I4,Y1 hd,⟨.none,.none,by rw[<- cK];exact aZ _ rfl⟩,λb hb=>?_,q2⟩;rw[aH.mp hb];exact I3.uY (az _) (I3.cD.fresh (az _))
 rcases q with⟨e1,q⟩ | ⟨o,e1,q⟩
 .obtain⟨nf,o,g,I2⟩:=I1.freeze e1
  exact go o _ I2 fX (q o nf)
 .exact go o _ I1 e1 q
def Th(X:Cx)(H:Hp)(R:Hp->Prop):Prop:=∃a o kvs,H a=aa (.eL o (.dK kvs))/\(∀o' u,X.H₀ a≠aa (.eL o' u))/\R (upd H a (.dK kvs))
theorem Y6{e:bt}{t:TE}(h:PE X e t):PE X e (fun σ H Q=>t σ H λv H'=>Th X H' λtK=>Q v tK):=by
 intro ag s σ H Q I q;refine dM (h ag s σ H _ I q) λu s1 z=>?_;obtain⟨v,H1,I1,rv,a,o,kvs,e,nf,r⟩:=z;exact⟨v,_,I1.KG nf e,rv,r⟩
end
def zd(X:Cx)(scope:iz)(cl:List (Str×ai)):List Str->List Nat->Prop
 |[],[]=>True
 |x::xs,j::js=>(X.N[j]?=aa x/\zW X.env.scope x/\(X.env.kindOf x=aa .cell\/X.env.kindOf x=aa .free)/\((ly scope X.env).names.lookup x=aa .cell\/(ly scope X.env).names.lookup x=aa .free)/\cl.lookup x=X.env.cells.lookup x)/\zd X scope cl xs js
 |_,_=>False
noncomputable def ze(σ:St)(js:List Nat):St:=js.map λj=>(σ[j]?).join
theorem zd.len{X:Cx}{scope:iz}{cl:List (Str×ai)}:∀{xs:List Str} {js:List Nat},zd X scope cl xs js->xs.length=js.length
 |[],[],_=>rfl
 |_::xs,_::js,h=>by simp[zd.len h.2]
theorem zd.get{X:Cx}{scope:iz}{cl:List (Str×ai)}:∀{xs:List Str} {js:List Nat} {k:Nat} {x:Str},zd X scope cl xs js->xs[k]?=aa x->∃j,js[k]?=aa j/\X.N[j]?=aa x/\zW X.env.scope x /\
  (X.env.kindOf x=aa .cell\/X.env.kindOf x=aa .free)/\((ly scope X.env).names.lookup x=aa .cell\/(ly scope X.env).names.lookup x=aa .free)/\cl.lookup x=X.env.cells.lookup x
 |[],[],_,_,_,e=>by simp at e
 | y::xs,j::js,0,x,h,e=>by
   simp at e;subst e;exact⟨j,rfl,h.1⟩
 | y::xs,j::js,k+1,x,h,e=>by
   obtain⟨j',h1,h2⟩:=zd.get (k:=k) h.2 (by simpa using e);exact⟨j',by simpa using h1,h2⟩
abbrev iX(X:Cx)(scope:iz)(cl:List (Str×ai))(N':List Str)(fp:List ai)(s3:aj)(H2:Hp):Cx:=
 { X with N:=N',s₀:=s3,H₀:=H2,env:=mD scope cl s3.heap.objs.size X.env,outer:=X.stack,stack:=X.stack,ex:=fp,fn:=λ_=>false,pn:=[],xe:=λ_ _=>False,kn:=[] }
structure uv(X:Cx)(scope:iz)(cl:List (Str×ai))(ts xs:List Str)(js:List Nat):Prop where
 tL:closureFor scope X.env=pure cl
 vi:∀y∈scope.names,y.2≠.cell
 kind:scope.kind=.function
 names:∀y∈scope.names,y.2=.local->scope.names.lookup y.1=aa .local
 sub:∀p∈cl,X.env.cells.lookup p.1=aa p.2
 has:(scope.names.filter λy=>y.2==.free).all (λy=>(cl.map (·.1)).contains y.1)=true
 D3:zd X scope cl xs js
def xk:TT:=λ_ H Q=>Q true H
def GO(p:ai)(J:It)(g:TG)(tc:TT)(te:TE)(Q:VK)(W:Nat->Nat->St->Hp->List V->Prop):Prop:=
 ∀ i m σ2 H2 acc,W i m σ2 H2 acc->H2 p=aa (.lst acc)/\((J.stop i H2/\Q (.ref p) H2)\/(J.go i H2/\∃N:St->Hp->List V->Prop,(∀σ' H' lL,N σ' H' lL->∃m',m'<m/\W (i+1) m' σ' H' lL)/\∀x H3,J.Gr i H2 x H3->g x σ2 H3 fun σ4 H4=>tc σ4 H4 λok H5=>
     if ok=true then te σ4 H5 λy H6=>H6 p=aa (.lst acc)/\acc.length<sizeLine/\N σ4 (upd H6 p (.lst (acc++[y]))) (acc++[y]) else N σ4 H5 acc))
def As(nt:Nat)(js:List Nat)(wi:TI)(g:TG)(tc:TT)(te:TE):TE:=fun σ H Q=>wi σ H λJ H1=>∀p,H1 p=ae ->
 ∃W:Nat->Nat->St->Hp->List V->Prop,(∃m,W 0 m (aS nt ae++ze σ js) (upd H1 p (.lst [])) [])/\GO p J g tc te Q W
section
variable {X:Cx}{ag:List (ai×Obj)}{σ:St}{H1:Hp}{s2:aj}{scope:iz}{cl:List (Str×ai)}{ts xs:List Str}{js:List Nat}{fp:List ai}{it:ai}{tn:Nat->bN->Prop}{J:It}{tg:bt}
theorem QT{s3:aj}{h4:bN}{tk:Nat}{H2:Hp}(C:uv X scope cl ts xs js)(I3:Inv X ag σ H2 s3)(fo:∀b∈fp,k9 X ag H2 b)(fl:∀b∈fp,b<s3.heap.objs.size)
  (ns:∃m,h4.Ns s3.heap.objs.size m) (k:∀b o,s3.heap.get? b=aa o->h4.get? b=aa o) :
  Inv (iX X scope cl (ts++xs) fp s3 H2) [] (aS ts.length ae++ze σ js) H2 { s3 with heap:=h4,toks:=tk }:=by
 have lk:∀x c,cl.lookup x=aa c->X.env.cells.lookup x=aa c:=λx c e=>C.sub (x,c) (c7 e);have clt:∀x c,X.env.cells.lookup x=aa c->c<s3.heap.objs.size:=λx c e=>by
  obtain⟨v,o,ho,_⟩:=I3.cell x c e;exact aE ho
 have KI:∀x,((ly scope X.env).names.lookup x=aa .cell\/(ly scope X.env).names.lookup x=aa .free)->∃c,cl.lookup x=aa c:=λx h=>by
  have sG:(x,NameKind.free)∈scope.names:=by
   obtain⟨k,hk,hm⟩:∃k,(k=.cell\/k=.free)/\(x,k)∈(ly scope X.env).names:=by
    rcases h with h | h
    .exact⟨_,.inl rfl,c7 h⟩
    .exact⟨_,.inr rfl,c7 h⟩
   obtain⟨⟨n,k'⟩,rM,e⟩:=aq.mp hm;have nc:=C.vi _ rM;dsimp only at e nc
   split at e
   .rename_i c
    cases e;simp only[cv,beq_iff_eq] at c;rw[<- c.1.1];exact rM
   .cases e
    rcases hk with rfl | rfl
    .exact absurd rfl nc
    .exact rM
  have q:=nF.mp C.has _ (aN.mpr ⟨sG,rfl⟩);have q:x∈cl.map (·.1):=by simpa using q
  obtain⟨⟨y,c⟩,hy,rfl⟩:=aq.mp q;cases z:cl.lookup y with
  |some c'=>exact⟨c',rfl⟩
  | none=>
    exfalso;have:=List.lookup_eq_none_iff.mp z (y,c) hy;simp at this
 obtain⟨m,hm⟩:=ns;refine⟨⟨I3.ok.mod,C.kind,I3.ok.glob,I3.ok.blt,az _,λx y c h1 h2=>I3.ok.inj x y c (lk x c h1) (lk y c h2),λx h=>KI x h,(λx c h=>nomatch h),I3.ok.hd,I3.ok.frames,.inl rfl,λb hb=>⟨aQ (fl b hb),λx c e=>(fo b hb).2.2.2.2.1 x c (lk x c e)⟩,
   I3.bs,bz I3.ok.wZ I3.sz,λb o e hb=>?_,λb hb hf=>?_,I3.stack,I3.ni⟩,
  rfl,I3.bare,Un.kept k,⟨m,hm,λi x v e1 e2 e3=>?_⟩,λx c e=>?_,I3.cD.fresh (az _),λx c e=>I3.iD x c (lk x c e),λp hp=>absurd hp (by simp),I3.cD.kept k,?_,(λi v e=>nomatch (show(ae:Option (Option V))=aa (aa v) from e))⟩
 .rcases(fo b hb).2.2.2.1 with z | z
  .exact I3.ok.uU b o e z
  .exact absurd (ax (aE (I3.ok.bs b o e).1) z) (cZ _)
 .rcases aF.mp (I3.rB b hf) with z | z
  .exact(fo b hb).2.1 z
  .exact(fo b hb).2.2.1 z
 .by_cases hi:i<ts.length
  .rw[aG (by simpa using hi),qS] at e2
   split at e2<;>cases e2
  .have hi:ts.length<=i:=Nat.not_lt.mp hi
   rw[c8 hi] at e1;rw[c8 (by simpa using hi),fF] at e2;obtain⟨j,hj,hN,hv,hk,uu,hc⟩:=C.D3.get e1;unfold ze at e2;rw[c9,hj] at e2;have e2:(σ[j]?).join=aa v:=by simpa using e2
   have e4:σ[j]?=aa (aa v):=by
    cases q:σ[j]? with
    |none=>rw[q] at e2;cases e2
    |some o=>rw[q] at e2;exact congrArg aa e2
   obtain⟨m0,_,hl⟩:=I3.loc;obtain⟨u,ru,l⟩:=hl j x v hN e4 hv;refine⟨u,ru,.inr ⟨uu,?_⟩⟩;rcases l with⟨z,_⟩ | ⟨_,c,ec,cc⟩
   .rcases hk with hk | hk<;>(rw[z] at hk;cases hk)
   .obtain⟨oc,ho,hd⟩:=cc
    exact⟨c,hc.trans ec,oc,k _ _ ho,hd⟩
 .obtain⟨v,o,ho,hd⟩:=I3.cell x c (lk x c e)
  exact⟨v,o,k _ _ ho,hd⟩
 .show(aS ts.length ae++ze σ js).length=(ts++xs).length
  rw[aO,fF,aO,C.D3.len];simp[ze]
theorem QU{s3:aj}{H2 H':Hp}{s':aj}{σ':St}(I3:Inv X ag σ H2 s3)(fo:∀b∈fp,k9 X ag H2 b)(Ic:Inv (iX X scope cl (ts++xs) fp s3 H2) [] σ' H' s') :
  Inv X ag σ H' s'/\(∃m,s'.heap.Ns s3.heap.objs.size m)/\H' s3.heap.objs.size=ae:=
 ⟨I3.uV Ic.os Ic.base Ic.cD Ic.bare λb hb=>let ⟨_,f2,_,f4,f5,f6⟩:=fo b hb;⟨f4,f2,f5,f6⟩,let ⟨m,hm,_⟩:=Ic.loc;⟨m,hm⟩,Ic.free⟩
variable {jF iter c:bt}{pos:Pos}{g:TG}{tc:TT}{te:TE}{Q:VK}
def D4(Xc:Cx)(fp:List ai)(tn:Nat->bN->Prop)(W:Nat->Nat->St->Hp->List V->Prop)(n:Nat)(s':aj):Prop:=
 ∃i σ' H' acc,Inv Xc [] σ' H' s'/\tn i s'.heap/\(∀b∈fp,H' b=ae)/\W i n σ' H' acc
theorem QW{Xc:Cx}{p:ai}{W:Nat->Nat->St->Hp->List V->Prop}{n:Nat}{s':aj}{E:af->aj->Prop}{R:Option af->aj->Prop}(hc:Xc.calm=true)(T:pj Xc.prog Xc.w Xc.K tg J fp it tn)(go:GO p J g tc te Q W)
  (hg:PG Xc tg g) (Y7:Xc.xe=λ_ _=>False) (fo:∀{H':Hp} {b:ai},H' b=ae->b∈fp->k9 Xc [] H' b) (h:D4 Xc fp tn W n s')
  (Au:∀σ' H' s1,Inv Xc [] σ' H' s1->Q (.ref p) H'->R ae s1)
  (D5:∀v s1,wpAny (aJ Xc.prog Xc.w) Xc.A (lD tg (.ref it) v) (λ_ s2=>wpAny (aJ Xc.prog Xc.w) Xc.A (lu tg Xc.env v) (λ_ s3=>∃(i:Nat) (ag:List (ai×Obj)) (acc:List V) (σ4:St) (H4:Hp) (N:St->Hp->List V->Prop),Inv Xc ag σ4 H4 s3/\(∀σ' H' lL,N σ' H' lL->∃m',m'<n/\W (i+1) m' σ' H' lL) /\
   (∀b∈fp,∃o,(b,o)∈ag/\s3.heap.get? b=aa o)/\(∀h',(∀b∈fp,∀o,s3.heap.get? b=aa o->h'.get? b=aa o)->tn (i+1) h') /\
   tc σ4 H4 λok H5=>if ok=true then te σ4 H5 λy H6=>H6 p=aa (.lst acc)/\acc.length<sizeLine/\N σ4 (upd H6 p (.lst (acc++[y]))) (acc++[y]) else N σ4 H5 acc) E s2) E s1->R (aa v) s1) :
  wpAny (aJ Xc.prog Xc.w) Xc.A (pyNext (.ref it)) R E s':=by
 obtain⟨i,σ',H',acc,I,st,fr,w⟩:=h;obtain⟨hp,cs⟩:=go i n σ' H' acc w;rcases cs with⟨stop,q⟩ | ⟨gg,N,hN,step⟩
 .refine dM (T.done Xc rfl rfl rfl hc i [] s' σ' H' E I (λb hb=>fo (fr b hb) hb) st stop) λr s1 cS=>?_
  obtain⟨hr,I1⟩:=cS;subst hr;exact Au σ' H' s1 I1 q
 .refine dM (T.item Xc rfl rfl rfl hc i [] s' σ' H' E I (λb hb=>fo (fr b hb) hb) st gg) λr s1 cS=>?_
  obtain⟨u,hr,h1⟩:=cS;subst hr;refine D5 u s1 (dM h1 λ_ s2 cS=>?_);obtain⟨x,H3,I3,r3,y3,BQ,Gx⟩:=cS;have Y8:=I3.pinned (λb hb=>fo (Gx b hb) hb) (T.obj _ _ BQ);refine bG (hg _ s2 σ' H3 x u _ Y8 r3 (step x H3 y3)) (λ_ s3 ⟨σ4,H4,I4,q4⟩=>?_) λe s z=>by rw[Y7] at z;exact z.elim
  have pn:∀b∈fp,∀o,s2.heap.get? b=aa o->s3.heap.get? b=aa o:=λb hb o e=>(I4.pin (b,o) (bB _ (bB _ (Gw hb e)))).1;refine⟨i,_,acc,σ4,H4,N,I4,hN,λb hb=>?_,λh' k=>T.keep _ _ _ BQ λb hb o e=>k b hb o (pn b hb o e),q4⟩;obtain⟨o,e,_⟩:=T.obj _ _ BQ b hb;exact⟨o,bB _ (Gw hb e),pn b hb o e⟩
theorem QX(hc:X.calm=true)(C:uv X scope cl ts xs js)(I2:Inv X ag σ H1 s2)(T:pj X.prog X.w X.K tg J fp it tn)(st:tn 0 s2.heap)(fo:∀b∈fp,k9 X ag H1 b)
  (q:∀p,H1 p=ae->∃W:Nat->Nat->St->Hp->List V->Prop,(∃m,W 0 m (aS ts.length ae++ze σ js) (upd H1 p (.lst [])) [])/\GO p J g tc te Q W)
  (hg:∀fp s3 H2,PG (iX X scope cl (ts++xs) fp s3 H2) tg g) (ht:∀fp s3 H2,PT (iX X scope cl (ts++xs) fp s3 H2) c tc) (he:∀fp s3 H2,PE (iX X scope cl (ts++xs) fp s3 H2) jF te)
  {RR:af->ai->BC->aj->Prop} (KJ:∀p C H' s',Inv X ag σ H' s'->(∃m,s'.heap.Ns C m)->H' C=ae->s2.heap.objs.size<=C->Q (.ref p) H'->RR (.ref p) C (.ok .next) s') :
  wpAny (aJ X.prog X.w) X.A (C8 []) (λacc s3=>wpAny (aJ X.prog X.w) X.A (newFunctionEnv scope X.env.globals cl [] X.env.qual ae .none (aa X.env)) (λvj s4=>
   codeAny (aJ X.prog X.w) X.A (.compStart (.ListComp jF [⟨tg,iter,[c],0⟩] scope pos) 0 (.ref it) acc { vj with scope:=ly scope X.env }) (RR acc vj.locals) s4) X.xe s3) X.xe s2:=by
 refine C9 (yP C.vi (by intro y hy;simp at hy) (λh4 Av Aw=>?_) C.kind);dsimp only at Av Aw ⊢;have I3:Inv X ag σ (upd H1 s2.heap.objs.size (.lst [])) { s2 with heap:=s2.heap.push { cls:=.type "list",data:=.seq ([]:List af).toArray } }:=
  I2.laid (t':=s2.toks) (λb o e=>aw _ e) (az _) ⟨dJ _,[],_,.nil,aZ _ rfl⟩
 generalize Ax:({ s2 with heap:=s2.heap.push { cls:=.type "list",data:=.seq ([]:List af).toArray } }:aj)=s3 at I3;have hsz:s3.heap.objs.size=s2.heap.objs.size+1:=by rw[<- Ax];exact gR ..
 have Ay:s2.heap.push { cls:=.type "list",data:=.seq ([]:List af).toArray }=s3.heap:=by rw[<- Ax]
 obtain⟨W,⟨m0,w0⟩,go⟩:=q s2.heap.objs.size (I2.cD.fresh (az _));have fl:∀b∈fp,b<s2.heap.objs.size:=λb hb=>by
  obtain⟨o,e,_⟩:=T.obj _ _ st b hb;exact aE e
 have Az:∀b∈fp,k9 X ag (upd H1 s2.heap.objs.size (.lst [])) b:=λb hb=>⟨by rw[dh (aQ (fl b hb))];exact(fo b hb).1,(fo b hb).2⟩;have k4:∀b o,s3.heap.get? b=aa o->h4.get? b=aa o:=λb o e=>by
  have hb:b≠s3.heap.objs.size:=aQ (aE e);rw[Ay] at Aw;exact Aw.extBut b o hb (aw _ e)
 rw[Ay] at Av;have KL:∀b o,s2.heap.get? b=aa o->h4.get? b=aa o:=λb o e=>k4 b o (by rw[<- Ay];exact aw _ e);have D6:tn 0 h4:=T.keep _ _ _ st λb _ o e=>KL b o e;have Ic:Inv (iX X scope cl (ts++xs) fp s3 (upd H1 s2.heap.objs.size (.lst []))) [] _ (upd H1 s2.heap.objs.size (.lst [])) { s3 with heap:=h4,toks:=s3.toks+([]:List (Str×af)).length }:=
  QT C I3 Az (λb hb=>by rw[hsz];exact jl (fl b hb)) ⟨_,Av⟩ k4
 have KN:∀{H':Hp} {b:ai},H' b=ae->b∈fp->k9 (iX X scope cl (ts++xs) fp s3 (upd H1 s2.heap.objs.size (.lst []))) [] H' b:=λ{H' b} n hb=>
  ⟨n,aQ (show b<s3.heap.objs.size by rw[hsz];exact jl (fl b hb)),λhf=>(Ic.ok.tz b hb) hf,.inl hb,λx c e=>(Ic.ok.Gf b hb).2 x c e,λp hp=>absurd hp (by simp)⟩
 have vm:∀s4:aj,s4={ s3 with heap:=h4,toks:=s3.toks+([]:List (Str×af)).length }->codeAny (aJ X.prog X.w) X.A (.compLoop (.ListComp jF [⟨tg,iter,[c],0⟩] scope pos) 0 (.ref it) (.ref s2.heap.objs.size) (mD scope cl s3.heap.objs.size X.env)) (RR (.ref s2.heap.objs.size) s3.heap.objs.size) s4:=by
  rintro s4 rfl;refine PySem.W.kct_loop (D4 (iX X scope cl (ts++xs) fp s3 (upd H1 s2.heap.objs.size (.lst []))) fp tn W) (λn s' hI=>?_) m0 ⟨0,_,_,[],Ic,D6,λb hb=>(Az b hb).1,w0⟩;refine QW (Xc:=iX X scope cl (ts++xs) fp s3 (upd H1 s2.heap.objs.size (.lst []))) hc T go (hg _ _ _) rfl KN hI (fun σ' H' s1 I1 q1=>?_) (λv s1 h1=>?_)
  .obtain⟨J1,J2,J3⟩:=QU I3 Az I1
   exact KJ _ _ H' s1 J1 J2 J3 (by rw[hsz];exact jk _) q1
  .refine dM h1 λ_ s5 h5=>dM h5 λ_ s6 h6=>?_
   obtain⟨i,iE,acc,σ4,H4,N,I4,hN,vn,vo,q4⟩:=h6;have eV:∀{H7:Hp} {s7:aj} {lL:List V},Inv (iX X scope cl (ts++xs) fp s3 (upd H1 s2.heap.objs.size (.lst []))) iE σ4 H7 s7->N σ4 H7 lL->∃m,m<n/\D4 (iX X scope cl (ts++xs) fp s3 (upd H1 s2.heap.objs.size (.lst []))) fp tn W m s7:=λ{H7 s7 lL} I7 n7=>by
    obtain⟨m',hm,w7⟩:=hN _ _ _ n7;refine⟨m',hm,i+1,σ4,H7,lL,I7.nj (λp hp=>absurd hp (by simp)),vo _ λb hb o e=>?_,λb hb=>?_,w7⟩
    .obtain⟨o',rM,e'⟩:=vn b hb
     rw[e] at e';cases e';exact(I7.pin (b,o) (bB _ rM)).1
    .obtain⟨o',rM,e'⟩:=vn b hb
     exact(I7.pin (b,o') (bB _ rM)).2.1
   refine bG (ht fp s3 _ iE s6 σ4 H4 _ I4 q4) (λok s7 cS=>?_) λ_ _ z=>z.elim;obtain⟨H7,I7,q7⟩:=cS;cases ok with
   | false=>
     have n7:N σ4 H7 acc:=by simpa using q7
     have:=eV I7 n7;simpa using this
   | true=>
     have q7:=(if_pos (c:=(true=true)) rfl).mp q7;show wpAny _ _ (eval jF _) _ _ _;refine bG (he fp s3 _ iE s7 σ4 H7 _ I7 q7) (λy s8 cS=>?_) λ_ _ z=>z.elim;obtain⟨yv,H8,I8,ry,e8,l8,n8⟩:=cS;refine bG (Kk (X:=iX X scope cl (ts++xs) fp s3 (upd H1 s2.heap.objs.size (.lst []))) iE s8 σ4 H8 (.ref s2.heap.objs.size) [yv] (.ref s2.heap.objs.size) [y] (λ_ H9=>H9=upd H8 s2.heap.objs.size (.lst (acc++[yv]))) I8 rfl (.cons ry .nil) ⟨_,acc,yv,rfl,rfl,e8,l8,rfl⟩) (λ_ s9 cS=>?_) λ_ _ z=>z.elim;obtain⟨_,H9,I9,_,e9⟩:=cS;subst e9;exact eV I9 n8
 have vp:=T.self X.A 0 { s3 with heap:=h4,toks:=s3.toks+([]:List (Str×af)).length } (λKO s'=>codeAny (aJ X.prog X.w) X.A (.compLoop (.ListComp jF [⟨tg,iter,[c],0⟩] scope pos) 0 KO (.ref s2.heap.objs.size) (mD scope cl s3.heap.objs.size X.env)) (RR (.ref s2.heap.objs.size) s3.heap.objs.size) s') (notedBy (aJ X.prog X.w) X.A (mD scope cl s3.heap.objs.size X.env) λx s'=>RR (.ref s2.heap.objs.size) s3.heap.objs.size (.error x) s') D6 (vm _ rfl);subst Ax;exact wm (vm _ rfl) vp
theorem QY(hc:X.calm=true)(C:uv X scope cl ts xs js)(I2:Inv X ag σ H1 s2)(T:pj X.prog X.w X.K tg J fp it tn)(st:tn 0 s2.heap)(fo:∀b∈fp,k9 X ag H1 b)
  (q:∀p,H1 p=ae->∃W:Nat->Nat->St->Hp->List V->Prop,(∃m,W 0 m (aS ts.length ae++ze σ js) (upd H1 p (.lst [])) [])/\GO p J g xk te Q W)
  (hg:∀fp s3 H2,PG (iX X scope cl (ts++xs) fp s3 H2) tg g) (he:∀fp s3 H2,PE (iX X scope cl (ts++xs) fp s3 H2) jF te)
  {RR:af->ai->BC->aj->Prop} (KJ:∀p C H' s',Inv X ag σ H' s'->(∃m,s'.heap.Ns C m)->H' C=ae->s2.heap.objs.size<=C->Q (.ref p) H'->RR (.ref p) C (.ok .next) s') :
  wpAny (aJ X.prog X.w) X.A (C8 []) (λacc s3=>wpAny (aJ X.prog X.w) X.A (newFunctionEnv scope X.env.globals cl [] X.env.qual ae .none (aa X.env)) (λvj s4=>
   codeAny (aJ X.prog X.w) X.A (.compStart (.ListComp jF [⟨tg,iter,[],0⟩] scope pos) 0 (.ref it) acc { vj with scope:=ly scope X.env }) (RR acc vj.locals) s4) X.xe s3) X.xe s2:=by
 refine C9 (yP C.vi (by intro y hy;simp at hy) (λh4 Av Aw=>?_) C.kind);dsimp only at Av Aw ⊢;have I3:Inv X ag σ (upd H1 s2.heap.objs.size (.lst [])) { s2 with heap:=s2.heap.push { cls:=.type "list",data:=.seq ([]:List af).toArray } }:=
  I2.laid (t':=s2.toks) (λb o e=>aw _ e) (az _) ⟨dJ _,[],_,.nil,aZ _ rfl⟩
 generalize Ax:({ s2 with heap:=s2.heap.push { cls:=.type "list",data:=.seq ([]:List af).toArray } }:aj)=s3 at I3;have hsz:s3.heap.objs.size=s2.heap.objs.size+1:=by rw[<- Ax];exact gR ..
 have Ay:s2.heap.push { cls:=.type "list",data:=.seq ([]:List af).toArray }=s3.heap:=by rw[<- Ax]
 obtain⟨W,⟨m0,w0⟩,go⟩:=q s2.heap.objs.size (I2.cD.fresh (az _));have fl:∀b∈fp,b<s2.heap.objs.size:=λb hb=>by
  obtain⟨o,e,_⟩:=T.obj _ _ st b hb;exact aE e
 have Az:∀b∈fp,k9 X ag (upd H1 s2.heap.objs.size (.lst [])) b:=λb hb=>⟨by rw[dh (aQ (fl b hb))];exact(fo b hb).1,(fo b hb).2⟩;have k4:∀b o,s3.heap.get? b=aa o->h4.get? b=aa o:=λb o e=>by
  have hb:b≠s3.heap.objs.size:=aQ (aE e);rw[Ay] at Aw;exact Aw.extBut b o hb (aw _ e)
 rw[Ay] at Av;have KL:∀b o,s2.heap.get? b=aa o->h4.get? b=aa o:=λb o e=>k4 b o (by rw[<- Ay];exact aw _ e);have D6:tn 0 h4:=T.keep _ _ _ st λb _ o e=>KL b o e;have Ic:Inv (iX X scope cl (ts++xs) fp s3 (upd H1 s2.heap.objs.size (.lst []))) [] _ (upd H1 s2.heap.objs.size (.lst [])) { s3 with heap:=h4,toks:=s3.toks+([]:List (Str×af)).length }:=
  QT C I3 Az (λb hb=>by rw[hsz];exact jl (fl b hb)) ⟨_,Av⟩ k4
 have KN:∀{H':Hp} {b:ai},H' b=ae->b∈fp->k9 (iX X scope cl (ts++xs) fp s3 (upd H1 s2.heap.objs.size (.lst []))) [] H' b:=λ{H' b} n hb=>
  ⟨n,aQ (show b<s3.heap.objs.size by rw[hsz];exact jl (fl b hb)),λhf=>(Ic.ok.tz b hb) hf,.inl hb,λx c e=>(Ic.ok.Gf b hb).2 x c e,λp hp=>absurd hp (by simp)⟩
 have vm:∀s4:aj,s4={ s3 with heap:=h4,toks:=s3.toks+([]:List (Str×af)).length }->codeAny (aJ X.prog X.w) X.A (.compLoop (.ListComp jF [⟨tg,iter,[],0⟩] scope pos) 0 (.ref it) (.ref s2.heap.objs.size) (mD scope cl s3.heap.objs.size X.env)) (RR (.ref s2.heap.objs.size) s3.heap.objs.size) s4:=by
  rintro s4 rfl;refine PySem.W.kcp_loop (D4 (iX X scope cl (ts++xs) fp s3 (upd H1 s2.heap.objs.size (.lst []))) fp tn W) (λn s' hI=>?_) m0 ⟨0,_,_,[],Ic,D6,λb hb=>(Az b hb).1,w0⟩;refine QW (Xc:=iX X scope cl (ts++xs) fp s3 (upd H1 s2.heap.objs.size (.lst []))) hc T go (hg _ _ _) rfl KN hI (fun σ' H' s1 I1 q1=>?_) (λv s1 h1=>?_)
  .obtain⟨J1,J2,J3⟩:=QU I3 Az I1
   exact KJ _ _ H' s1 J1 J2 J3 (by rw[hsz];exact jk _) q1
  .refine dM h1 λ_ s5 h5=>dM h5 λ_ s6 h6=>?_
   obtain⟨i,iE,acc,σ4,H4,N,I4,hN,vn,vo,q4⟩:=h6;have eV:∀{H7:Hp} {s7:aj} {lL:List V},Inv (iX X scope cl (ts++xs) fp s3 (upd H1 s2.heap.objs.size (.lst []))) iE σ4 H7 s7->N σ4 H7 lL->∃m,m<n/\D4 (iX X scope cl (ts++xs) fp s3 (upd H1 s2.heap.objs.size (.lst []))) fp tn W m s7:=λ{H7 s7 lL} I7 n7=>by
    obtain⟨m',hm,w7⟩:=hN _ _ _ n7;refine⟨m',hm,i+1,σ4,H7,lL,I7.nj (λp hp=>absurd hp (by simp)),vo _ λb hb o e=>?_,λb hb=>?_,w7⟩
    .obtain⟨o',rM,e'⟩:=vn b hb
     rw[e] at e';cases e';exact(I7.pin (b,o) (bB _ rM)).1
    .obtain⟨o',rM,e'⟩:=vn b hb
     exact(I7.pin (b,o') (bB _ rM)).2.1
   have q4:te σ4 H4 (λy H6=>H6 s2.heap.objs.size=aa (.lst acc)/\acc.length<sizeLine/\N σ4 (upd H6 s2.heap.objs.size (.lst (acc++[y]))) (acc++[y])):=by
    have z:=q4;unfold xk at z;dsimp only at z;rw[if_pos rfl] at z;exact z
   refine bG (he fp s3 _ iE s6 σ4 H4 _ I4 q4) (λy s8 cS=>?_) λ_ _ z=>z.elim;obtain⟨yv,H8,I8,ry,e8,l8,n8⟩:=cS;refine bG (Kk (X:=iX X scope cl (ts++xs) fp s3 (upd H1 s2.heap.objs.size (.lst []))) iE s8 σ4 H8 (.ref s2.heap.objs.size) [yv] (.ref s2.heap.objs.size) [y] (λ_ H9=>H9=upd H8 s2.heap.objs.size (.lst (acc++[yv]))) I8 rfl (.cons ry .nil) ⟨_,acc,yv,rfl,rfl,e8,l8,rfl⟩) (λ_ s9 cS=>?_) λ_ _ z=>z.elim;obtain⟨_,H9,I9,_,e9⟩:=cS;subst e9;exact eV I9 n8
 have vp:=T.self X.A 0 { s3 with heap:=h4,toks:=s3.toks+([]:List (Str×af)).length } (λKO s'=>codeAny (aJ X.prog X.w) X.A (.compLoop (.ListComp jF [⟨tg,iter,[],0⟩] scope pos) 0 KO (.ref s2.heap.objs.size) (mD scope cl s3.heap.objs.size X.env)) (RR (.ref s2.heap.objs.size) s3.heap.objs.size) s') (notedBy (aJ X.prog X.w) X.A (mD scope cl s3.heap.objs.size X.env) λx s'=>RR (.ref s2.heap.objs.size) s3.heap.objs.size (.error x) s') D6 (vm _ rfl);subst Ax;exact wm (vm _ rfl) vp
theorem QZ{C:ai}{H':Hp}{s':aj}{h':bN}(I2:Inv X ag σ H1 s2)(I:Inv X ag σ H' s')(n:H' C=ae)(hC:s2.heap.objs.size<=C)(hs:fZ C s'.heap h'):Inv X ag σ H' { s' with heap:=h' }:=by
 refine I.turned (t':=s'.toks) (it:=C) (λb o hb e=>hs.extBut b o hb e) n (ka (ax I2.lt hC)) (.inr (bz I2.sz hC)) (λx c e=>?_) λp hp=>?_
 .obtain⟨v,o,ho,_⟩:=I2.cell x c e
  exact aQ (ax (aE ho) hC)
 .exact aQ (ax (aE (I2.pin p hp).1) hC)
end
section
variable {X:Cx}{jF iter c tg:bt}{pos:Pos}{g:TG}{tc:TT}{te:TE}{wi:TI}{scope:iz}{cl:List (Str×ai)}{ts xs:List Str}{js:List Nat}
theorem Q0(hc:X.calm=true)(C:uv X scope cl ts xs js)(hi:PI X tg iter wi)(hg:∀fp s3 H2,PG (iX X scope cl (ts++xs) fp s3 H2) tg g)(ht:∀fp s3 H2,PT (iX X scope cl (ts++xs) fp s3 H2) c tc)(he:∀fp s3 H2,PE (iX X scope cl (ts++xs) fp s3 H2) jF te)
  (hs:∀x,cG iter X.env x=pure x:=by intro _;rfl):PE X (.ListComp jF [⟨tg,iter,[c],0⟩] scope pos) (As ts.length js wi g tc te):=by
 intro ag s σ H Q I h;rw[eval_ListComp];refine gO (use:=ae) rfl hs C.tL C.kind C.names (dM (hi ag s σ H _ I h) λxv s1 h1=>dM h1 λBP s2 h2=>?_);obtain⟨it,fp,tn,J,H1,rfl,I2,T,ur,fo,q⟩:=h2;exact QX (RR:=yQ (aJ X.prog X.w) X.A X.xe ae (EP X ag σ Q)) hc C I2 T ur fo q hg ht he λp D H' s' I' ns n hD q'=>by
  obtain⟨m,hm⟩:=ns;exact⟨m,hm,λh' sb=>⟨.ref p,H',QZ I2 I' n hD sb,rfl,q'⟩⟩
theorem Y9(hc:X.calm=true)(C:uv X scope cl ts xs js)(hi:PI X tg iter wi)(hg:∀fp s3 H2,PG (iX X scope cl (ts++xs) fp s3 H2) tg g)(he:∀fp s3 H2,PE (iX X scope cl (ts++xs) fp s3 H2) jF te)
  (hs:∀x,cG iter X.env x=pure x:=by intro _;rfl):PE X (.ListComp jF [⟨tg,iter,[],0⟩] scope pos) (As ts.length js wi g xk te):=by
 intro ag s σ H Q I h;rw[eval_ListComp];refine gO (use:=ae) rfl hs C.tL C.kind C.names (dM (hi ag s σ H _ I h) λxv s1 h1=>dM h1 λBP s2 h2=>?_);obtain⟨it,fp,tn,J,H1,rfl,I2,T,ur,fo,q⟩:=h2;exact QY (RR:=yQ (aJ X.prog X.w) X.A X.xe ae (EP X ag σ Q)) hc C I2 T ur fo q hg he λp D H' s' I' ns n hD q'=>by
  obtain⟨m,hm⟩:=ns;exact⟨m,hm,λh' sb=>⟨.ref p,H',QZ I2 I' n hD sb,rfl,q'⟩⟩
theorem Y_{i:Nat}{y:Str}{py nP:Pos}(hc:X.calm=true)(C:uv X scope cl ts xs js)(hi:PI X tg iter wi)(hg:∀fp s3 H2,PG (iX X scope cl (ts++xs) fp s3 H2) tg g)(he:∀fp s3 H2,PE (iX X scope cl (ts++xs) fp s3 H2) jF te)
  (hN:X.N.Nodup) (hy:X.N[i]?=aa y) (hx:Loc X.env.scope y) (hkn:∀u:V,X.kn[i]?≠aa (aa u)) (hf:X.fn y=true\/X.env.scope.names.lookup y=aa .local:=by first | exact .inl rfl | exact .inr rfl | assumption)
  (AA:fu (.ListComp jF [⟨tg,iter,[],0⟩] scope pos) (aa (.Name y py)) nP.line X.env=pure true:=by rfl)
  (hs:∀x,cG iter X.env x=pure x:=by intro _;rfl):PS X (.Assign [.Name y py] (.ListComp jF [⟨tg,iter,[],0⟩] scope pos) nP) (w6 (As ts.length js wi g xk te) (wB i)):=by
 intro ag s σ H D I h;rw[wV _ _ _ _ AA];refine ay (kd (ay ?_));show wpAny _ X.A (do let _ <- comprehension (.ListComp jF [⟨tg,iter,[],0⟩] scope pos) scope X.env _ (C8 []) false (eval iter X.env) (aa (lu (.Name y py) X.env))) _ _ s;refine ay (bG (gO (use:=aa (lu (.Name y py) X.env)) (Q:=λ_ s'=>SP X ag D .next s') rfl hs C.tL C.kind C.names (dM (hi ag s σ H _ I h) λxv s1 h1=>dM h1 λBP s2 h2=>?_)) (λ_ s' hq=>bc (bc hq)) λ_ _ e=>e);obtain⟨it,fp,tn,J,H1,rfl,I2,T,ur,fo,q⟩:=h2;refine QY (Q:=λx H1=>wB i x σ H1 D.nx) (g:=g) (te:=te) (RR:=yQ (aJ X.prog X.w) X.A X.xe (aa (lu (.Name y py) X.env)) (λ_ s'=>SP X ag D .next s')) hc C I2 T ur fo q hg he λp E H' s' I' ns n hE q'=>?_;obtain⟨m,hm⟩:=ns;show wpAny _ X.A (lu (.Name y py) X.env (.ref p)) _ _ _;refine oS (JA I' hN hy hx (show RelV (.ref p) (.ref p) from rfl) (λs3 I3 cS=>?_) hf hkn);obtain⟨b,sb,hb⟩:=cS;refine⟨m,hm.sameBut sb (λz=>?_),λh' KP=>⟨_,H',?_,q'⟩⟩
 .rcases hb with hb | hb
  .exact absurd (ax I2.lt hE) (by rw[z,hb];exact cZ _)
  .obtain⟨v,o,ho,_⟩:=I2.cell y b hb
   exact absurd (ax (aE ho) hE) (by rw[z];exact cZ _)
 .refine I3.turned (t':=s3.toks) (it:=E) (λb o hb e=>KP.extBut b o hb e) n (ka (ax I2.lt hE)) (.inr (bz I2.sz hE)) (λx c e=>?_) λp hp=>?_
  .obtain⟨v,o,ho,_⟩:=I2.cell x c e
   exact aQ (ax (aE ho) hE)
  .exact aQ (ax (aE (I2.pin p hp).1) hE)
end
section
variable {X:Cx}
theorem Q1(hc:X.calm=true):rC X (.type "list") (λxs H Q=>∃a kvs,xs=[.ref a]/\Rd H a (.dK kvs)/\∀l,H l=ae->Q (.ref l) (upd H l (.lst (kvs.map λp=>kV p.1)))):=by
 intro ag s σ H xs us Q I r h;obtain⟨a,kvs,rfl,rd,q⟩:=h;obtain⟨u,rfl,ru⟩:=Ac r;cases ru;obtain⟨zl,zm,vs,rv,d⟩:=xa I.cD rd;obtain⟨ep,da⟩:=d.dictAt;have hl:kvs.length=vs.length:=rv.length;refine W.kdl_call (W.kdl_dict (knd:=kJ X.prog X.w) (kvs:=vs) (ep:=ep) zm) (I.ok.hd hc) da (by omega) λh' tk acc c k e D7=>?_;refine⟨.ref s.heap.objs.size,_,I.laid (t':=tk) (o:=.lst (kvs.map λp=>kV p.1)) k (az _) ⟨by rw[aT];exact zl,acc.toList,c,?_,by simpa using e⟩,rfl,q _ (I.cD.fresh (az _))⟩;obtain⟨n1,n2⟩:=D7;have go:∀(ks:List (bZ×V)) (as:List af),ks.length=as.length->(∀(j:Nat) (u:af),as[j]?=aa u->∃p:bZ×V,ks[j]?=aa p/\RelV (kV p.1) u)->cf (ks.map λp=>kV p.1) as:=by
  intro ks
  induction ks with
  |nil=>intro as hl _;cases as with|nil=>exact .nil | cons _ _=>simp at hl
  | cons p ks ih=>
    intro as hl h;cases as with
    |nil=>simp at hl
    | cons u as=>
      obtain⟨p',e1,r1⟩:=h 0 u rfl;simp at e1;subst e1;exact .cons r1 (ih as (by simpa using hl) λj w' e=>by simpa using h (j+1) w' (by simpa using e))
 refine go kvs acc.toList (by have z:acc.toList.length=acc.size:=iA;omega) λj u e=>?_;obtain⟨k',x',e1,e2⟩:=n2 j u (by rw[<- kb];exact e);have hj:j<kvs.length:=by rw[hl];exact(aB.mp e1).1
 obtain⟨w',e3,_⟩:=rv.at (i:=j) (k:=(kvs[j]).1) (v:=(kvs[j]).2) (by simp[hj]);rw[e1] at e3;cases e3;exact⟨kvs[j],by simp[hj],KH e2⟩
theorem Y':rC X (.builtin "isinstance") (λxs H Q=>∃x c cu t b,xs=[x,c]/\RelV c cu/\(∀u,RelV c u->u=cu)/\jU X.K H x t/\W.kitOne X.K t cu=aa b/\Q (.bl b) H):=by
 intro ag s σ H xs us Q I r h;obtain⟨x,c,cu,t,b,rfl,_,hu,ty,e,q⟩:=h;obtain⟨u,w',rfl,rx,rc⟩:=Xu r;cases hu w' rc;exact XF I rx ty e λtk=>⟨.bl b,H,I.tok tk,rfl,q⟩
theorem Q2:∀{ys:List Str} {us:List af},cf (ys.map V.str) us->StrsAre us ys
 |[],[],_=>.nil
 | y :: ys,u::us,h=>by
   cases h with
   | cons p t=>
     obtain⟨tk,rfl⟩:=p;exact .cons _ _ (Q2 t)
 |[],_::_,h=>nomatch h
 |_::_,[],h=>nomatch h
theorem Za:Ai X "str.join" (λx xs H Q=>∃z l ys,x=.str z/\xs=[.ref l]/\lJ X.K H l (ys.map V.str)/\(ys.map (·.length)).sum+ys.length*z.length<=16777216/\Q (.str (p9 z ys)) H):=by
 intro ag s σ H x xs v us Q I rx rv h;obtain⟨z,l,ys,rfl,rfl,sq,hz,q⟩:=h;obtain⟨t,rfl⟩:=rx;obtain⟨u,rfl,ru⟩:=rv.one;cases ru;obtain⟨cC,r,pl,_⟩:=I.list sq;exact join_list pl.isList (Q2 r) hz λt' k=>⟨.str _,H,I.tok k,⟨t',rfl⟩,q⟩
theorem Zb{e:bt}{te:TE}{pos:Pos}(he:PE X e te):PE X (.FormattedValue e 114 ae pos) (fun σ H Q=>te σ H λv H1=>∃y,v=.str y/\(cY y).length<=sizeLine/\Q (.str (cY y)) H1):=by
 intro ag s σ H Q I h;refine tf (dM (he ag s σ H _ I h) λv s1 cS=>?_);obtain⟨x,H1,I1,r,y,e,l,q⟩:=cS;subst e;obtain⟨t,rfl⟩:=r;refine wpAny_pyReprObj_str (hsz:=l) ?_;exact Jp (hsz:=l) λt' tk=>⟨.str _,H1,I1.tok tk,⟨t',rfl⟩,q⟩
def tJ:Str->List TE->TE
 |acc,[]=>λ_ H Q=>acc.length<=sizeLine/\Q (.str acc) H
 |acc,t::ts=>fun σ H Q=>t σ H λv H1=>∃y,v=.str y/\(acc++y).length<=sizeLine/\tJ (acc++y) ts σ H1 Q
inductive PJ(X:Cx):List bt->List TE->Prop where
 |nil:PJ X [] []
 |cons {e:bt} {es:List bt} {t:TE} {ts:List TE}:PE X e t->PJ X es ts->PJ X (e::es) (t::ts)
theorem Zc{es:List bt}{ts:List TE}(hj:PJ X es ts):∀{acc:Str} {ag:List (ai×Obj)} {s:aj} {σ:St} {H:Hp} {Q:VK},Inv X ag σ H s->tJ acc ts σ H Q ->
  wpAny (aJ X.prog X.w) X.A (joinParts acc (evalEach es X.env)) (EP X ag σ Q) X.xe s:=by
 induction hj with
 |nil=>intro acc ag s σ H Q I h;exact joinParts_nil (hsz:=h.1) ⟨.str acc,H,I.tok _,⟨_,rfl⟩,h.2⟩
 | @cons e es t ts he hj ih=>
   intro acc ag s σ H Q I h;show wpAny _ _ (joinParts acc (eval e X.env::evalEach es X.env)) _ _ _;refine joinParts_cons (dM (he ag s σ H _ I h) λv s1 cS=>?_);obtain⟨x,H1,I1,r,y,e,l,q⟩:=cS;subst e;obtain⟨tk,rfl⟩:=r;exact⟨l,ih I1 q⟩
theorem Q3{a b:bt}{r:List bt}{ts:List TE}{pos:Pos}(h:PJ X (a::b::r) ts):PE X (.JoinedStr (a::b::r) pos) (tJ eZ ts):=λag s σ H Q I q=>JoinedStr_many (Zc h I q)
end
theorem Zd{prog:aR}{w:bu}{A:bW}{E:af->aj->Prop}{s:aj}{Q:Int->aj->Prop}(h:Q 0xFCA86420 { s with toks:=s.toks+1 }):wpAny (aJ prog w) A (pyHash .none) Q E s:=by
 have hT:s.TypeIs .none "NoneType":=rfl;show wpAny _ _ (Jq .none) Q E s;unfold Jq;refine ay ?_;rw[cRoomFor,if_neg (by decide)];refine bc ?_;refine ay (qT hT fL.lookup ?_);rw[if_neg (by decide)];refine ay (qT hT fL.lookup ?_);show wpAny _ _ (callSpecialIfBoundUnlessNone? .none "__hash__" _ >>= _) Q E s;refine ay (wpAny_callSpecialIfBoundUnlessNone?_slot hT fL (wpAny_call_entry fL hT PySem.F.entry_NoneType_hash
  (show wpAny _ _ (do ret (<- mkInt 0xFCA86420)) _ _ s from wpAny_ret_mkInt ?_) (PySem.F.args_NoneType_hash_1 _)))
 show wpAny _ _ (if(decide (-(2:Int) ^ 63<=0xFCA86420)&&decide ((0xFCA86420:Int)<2 ^ 63))=true then _ else _) Q E _;rw[if_pos (by decide)];exact bc h
noncomputable def KQ:Option bZ->af->Bool
 |none,.none=>true
 |none,_=>false
 |some k,v=>yW k v
noncomputable def KR(w:bu):Option bZ->Int
 |none=>0xFCA86420
 |some k=>Df w k
theorem zf{v:af}(h:KQ ae v=true):v=.none:=by
 cases v<;>first | rfl | cases h
theorem KS{k:bZ}(h:yW k .none=true):False:=by
 rcases tw h with⟨_,_,_,e⟩ | ⟨_,_,_,e⟩<;>cases e
noncomputable def KU (prog:aR) (w:bu):zN prog w (Option bZ) where
 is:=KQ
 hash:=KR w
 inj:=λv a b ha hb=>by
  cases a with
  | none=>
    cases b with
    |none=>rfl
    |some b=>cases zf ha;exact(KS hb).elim
  | some a=>
    cases b with
    |none=>cases zf hb;exact(KS ha).elim
    |some b=>exact congrArg aa ((kJ prog w).inj v a b ha hb)
 byValue:=λk v h=>by
  cases k with
  |none=>cases zf h;rfl
  |some k=>exact(kJ prog w).byValue k v h
 pyHash:=λ{A E s k v Q} hv h=>by
  cases k with
  |none=>cases zf hv;exact Zd h
  |some k=>exact(kJ prog w).pyHash (k:=k) hv h
 eqBool:=λ{A E s a b u v Q} hu hv h=>by
  cases a with
  | none=>
    cases zf hu;cases b with
    |none=>cases zf hv;exact sy _ _ _ _ _ (by simpa using h)
    | some b=>
      rcases tw hv with⟨i,t,rfl,rfl⟩ | ⟨x,t,rfl,rfl⟩
      .exact pT _ _ _ _ _ _ (by simpa using h)
      .exact pU _ _ _ _ _ _ (by simpa using h)
  | some a=>
    cases b with
    | none=>
      cases zf hv;rcases tw hu with⟨i,t,rfl,rfl⟩ | ⟨x,t,rfl,rfl⟩
      .exact pV _ _ _ _ _ _ (by simpa using h)
      .exact pW _ _ _ _ _ _ (by simpa using h)
    |some b=>exact(kJ prog w).eqBool (a:=a) (b:=b) hu hv (by simpa using h)
 «strs»:=λk x t v h=>by
  cases k with
  |none=>cases h
  |some k=>exact(kJ prog w).strs k x t v h
theorem Ze{P:aR}{w:bu}{h:bN}{a:ai}{vs:List (bZ×af)}(d:h.DictOf (kJ P w) a vs):∃f,h.MapOf (KU P w) a f/\f ae=ae:=by
 obtain⟨o,es,ep,ho,ex,hd,nK,r⟩:=id d;refine⟨λk=>v8 (KU P w).is es k,⟨o,es,ep,ho,ex,hd,λe he=>?_,λk=>rfl⟩,?_⟩
 .obtain⟨k,h1,h2⟩:=nK e he
  exact⟨aa k,h1,h2⟩
 .show v8 KQ es ae=ae
  unfold v8;rw[qx,Array.find?_eq_none];intro e he z;obtain⟨k,h1,_⟩:=nK e he;rw[zf z] at h1;exact KS h1
section
variable {X:Cx}{o i:bt}{td ty:TE}
def Zf(ty td:TE):TE:=fun σ H Q=>ty σ H λy H1=>td σ H1 λx H2=>∃a,x=.ref a/\((∃r,nJ H2 a y r/\Q (.bl r.isSome) H2)\/(y=.bH/\(∃kvs,Rd H2 a (.dK kvs))/\Q (.bl false) H2))
theorem Q4(hu:X.A.units+1<fT)(hi:PE X i ty)(ho:PE X o td):PC X .In i o (Zf ty td):=by
 intro ag s σ H Q I h;refine dM (hi ag s σ H _ I h) λv s1 cS=>?_;obtain⟨y,H1,I1,ry,q1⟩:=cS;refine dM (ho ag s1 σ H1 _ I1 q1) λu s2 cS=>?_;obtain⟨x,H2,I2,rx,a,ex,q2⟩:=cS;subst ex;cases (show u=aP a from rx);rcases q2 with⟨r,g,q⟩ | ⟨ey,⟨kvs,rd⟩,q⟩
 .exact J_ hu I2 g ry λs' I'=>⟨.bl _,H2,I',rfl,q⟩
 .subst ey
  cases (show v=jJ from ry);obtain⟨z,hd,vs,mr,dd⟩:=xa I2.cD rd;obtain⟨f,mf,fn⟩:=Ze dd;refine wpAny_in_of (knd:=KU X.prog X.w) (k:=ae) (f:=f) rfl hd mf ?_;rw[fn];exact⟨.bl false,H2,I2.tok _,rfl,q⟩
end
section
variable {X:Cx}
theorem Zg:kK X (cX .Is) (λx y H Q=>∃a b,x=.bl a/\y=.bl b/\Q (.bl (a==b)) H):=by
 intro ag s σ H x y v u Q I rx ry h;obtain⟨a,b,rfl,rfl,q⟩:=h;cases rx;cases ry;refine wpAny_is_plain rfl ⟨.bl (a==b),H,I,?_,q⟩;show dW (dW a==dW b)=dW (a==b);cases a<;>cases b<;>rfl
end
section
variable {X:Cx}
theorem GP{xs:List V}{i:Nat}{z:V}(f:xs.all nN=true)(h:xs[i]?=aa z):nN z=true:=nF.mp f z (kX h)
theorem cf.at:∀{xs:List V} {us:List af},cf xs us->∀{i:Nat} {u:af},us[i]?=aa u->∃x,xs[i]?=aa x/\RelV x u
 |_,_,.nil,i,u,h=>by simp at h
 | _,_,.cons r t,0,u,h=>by
   simp at h;subst h;exact⟨_,rfl,r⟩
 | _,_,.cons r t,i+1,u,h=>by
   obtain⟨x,h1,h2⟩:=cf.at t (i:=i) (u:=u) (by simpa using h);exact⟨x,by simpa using h1,h2⟩
end
section
variable {X:Cx}{jF iter c tg:bt}{pos:Pos}{g:TG}{tc:TT}{te:TE}{wi:TI}{scope:iz}{cl:List (Str×ai)}{ts xs:List Str}{js:List Nat}
theorem Zh{i:Nat}{y:Str}{py nP:Pos}(hc:X.calm=true)(C:uv X scope cl ts xs js)(hi:PI X tg iter wi)(hg:∀fp s3 H2,PG (iX X scope cl (ts++xs) fp s3 H2) tg g)(ht:∀fp s3 H2,PT (iX X scope cl (ts++xs) fp s3 H2) c tc)(he:∀fp s3 H2,PE (iX X scope cl (ts++xs) fp s3 H2) jF te)
  (hN:X.N.Nodup) (hy:X.N[i]?=aa y) (hx:Loc X.env.scope y) (hkn:∀u:V,X.kn[i]?≠aa (aa u)) (hf:X.fn y=true\/X.env.scope.names.lookup y=aa .local:=by first | exact .inl rfl | exact .inr rfl | assumption)
  (AA:fu (.ListComp jF [⟨tg,iter,[c],0⟩] scope pos) (aa (.Name y py)) nP.line X.env=pure true:=by rfl)
  (hs:∀x,cG iter X.env x=pure x:=by intro _;rfl):PS X (.Assign [.Name y py] (.ListComp jF [⟨tg,iter,[c],0⟩] scope pos) nP) (w6 (As ts.length js wi g tc te) (wB i)):=by
 intro ag s σ H D I h;rw[wV _ _ _ _ AA];refine ay (kd (ay ?_));show wpAny _ X.A (do let _ <- comprehension (.ListComp jF [⟨tg,iter,[c],0⟩] scope pos) scope X.env _ (C8 []) false (eval iter X.env) (aa (lu (.Name y py) X.env))) _ _ s;refine ay (bG (gO (use:=aa (lu (.Name y py) X.env)) (Q:=λ_ s'=>SP X ag D .next s') rfl hs C.tL C.kind C.names (dM (hi ag s σ H _ I h) λxv s1 h1=>dM h1 λBP s2 h2=>?_)) (λ_ s' hq=>bc (bc hq)) λ_ _ e=>e);obtain⟨it,fp,tn,J,H1,rfl,I2,T,ur,fo,q⟩:=h2;refine QX (Q:=λx H1=>wB i x σ H1 D.nx) (g:=g) (tc:=tc) (te:=te) (RR:=yQ (aJ X.prog X.w) X.A X.xe (aa (lu (.Name y py) X.env)) (λ_ s'=>SP X ag D .next s')) hc C I2 T ur fo q hg ht he λp E H' s' I' ns n hE q'=>?_;obtain⟨m,hm⟩:=ns;show wpAny _ X.A (lu (.Name y py) X.env (.ref p)) _ _ _;refine oS (JA I' hN hy hx (show RelV (.ref p) (.ref p) from rfl) (λs3 I3 cS=>?_) hf hkn);obtain⟨b,sb,hb⟩:=cS;refine⟨m,hm.sameBut sb (λz=>?_),λh' KP=>⟨_,H',?_,q'⟩⟩
 .rcases hb with hb | hb
  .exact absurd (ax I2.lt hE) (by rw[z,hb];exact cZ _)
  .obtain⟨v,o,ho,_⟩:=I2.cell y b hb
   exact absurd (ax (aE ho) hE) (by rw[z];exact cZ _)
 .refine I3.turned (t':=s3.toks) (it:=E) (λb o hb e=>KP.extBut b o hb e) n (ka (ax I2.lt hE)) (.inr (bz I2.sz hE)) (λx c e=>?_) λp hp=>?_
  .obtain⟨v,o,ho,_⟩:=I2.cell x c e
   exact aQ (ax (aE ho) hE)
  .exact aQ (ax (aE (I2.pin p hp).1) hE)
end
end L2
namespace L2
open PySem PySem.Spec PyProof.Rows PySem.Builtin PySem.Builtin.ObjectAttr
noncomputable def qe(C:ai)(dx:Option ai)(t:ai):Obj:={ cls:=.ref C,dict:=dx,data:=.fields #[.ref t,.none,.none,.none,.bool false,.none] }
noncomputable def BY:List af->List af
 |.ref _::r=>BY r
 |l=>l
noncomputable def GQ(l:List af):Bool:=BY l==kC
theorem Q5(self:af):∀l:List af,BG self "__setattr__" l=BG self "__setattr__" (BY l)
 |[]=>rfl
 |v::r=>by cases v<;>first | rfl | (rw[refuseLoop_ref];exact Q5 self r)
theorem Q6(n:String):∀l:List af,l.contains (.type n)=(BY l).contains (.type n)
 |[]=>rfl
 | v::r=>by
   cases v
   case ref a=>rw[dC,show(l9 n==aP a)=false from rfl,qt];exact Q6 n r
   all_goals rfl
theorem Zi(self:af){l:List af}(e:GQ l=true):BG self "__setattr__" l=pure ():=by
 rw[Q5,show BY l=kC from eq_of_beq e];exact PySem.F.store_ValueError.passes self
theorem KW{l:List af}(e:GQ l=true){n:String}(h:kC.contains (.type n)=true):l.contains (.type n)=true:=by
 rw[Q6,show BY l=kC from eq_of_beq e];exact h
theorem Q7{l:List af}(e:GQ l=true):l.contains (.type "object")=true/\l.contains (.type "ValueError")=true/\l.isEmpty=false:=by
 refine⟨KW e (by decide +kernel),KW e (by decide +kernel),?_⟩;cases l with
 |nil=>cases e
 |cons _ _=>rfl
noncomputable def BZ(K:W.Frag)(C:ai):Bool:=(W.clsIn K C).any λcd=>GQ cd.mro
structure rN(K:W.Frag)(C:ai):Prop where
 sa:W.findIn K (.ref C) "__setattr__" = aa (aa (.builtin "object.__setattr__"))
 hd:W.hasDictIn K C=true
 over:BZ K C=true
section
variable {prog:aR}{w:bu}{A:bW}{E:af->aj->Prop}{s:aj}{K:W.Frag}{x C:ai}{R:BC->aj->Prop}
theorem D8{ox:Obj}{od:Option Obj}{name:Str}{tk:Tok}{v:af}(X:K.In s.heap)(I:W.InstAt s.heap x ox C od)(hp:BZ K C=true)(hn:W.findIn K (.ref C) name=aa ae)
  (h:wpAny (aJ prog w) A.in1 (storeInOwnDict (.ref x) (.ref C) (.str name tk) name v false)
   (λeV s'=>match eV with|.done f=>R (.ok f) s' | .again c'=>c'.quiet=true/\codeAny (aJ prog w) A c' R s') (λe s'=>R (.error e) s') s) :
  codeAny (aJ prog w) A (.call (.builtin "object.__setattr__") ⟨[.ref x,.str name tk,v],[]⟩) R s:=by
 have SF:=PySem.F.store_object;obtain⟨cd,hc,ho⟩:=W.any_some hp;obtain⟨o1,o2,o3⟩:=Q7 ho;have KY:W.Looks (aJ prog w) s.heap (BH (.ref x) (.type "object")) true:=
  I.type.andThen (W.looks_mroIn X (by unfold W.mroIn;rw[hc,jm,if_neg (by rw[o3];decide),o1]))
 refine mE SF.slot.plain SF.entry (@W.check_slot (aJ prog w) _ _ s "object.__setattr__" "object" "__setattr__" (.ref x) [.str name tk,v] [] _ SF.kind SF.split KY (SF.args (.ref x) (.str name tk) v) ?_);have ml:W.Looks (aJ prog w) s.heap (mroOf (.ref C)) cd.mro:=(W.looks_clsIn X hc).andThen .now;rw[W.osa_eq,refuse_eq];refine ay (ay (I.type.here (ay (ml.here ?_))));rw[Zi _ ho];exact bc (ay (I.type.here (ay ((W.looks_findIn X hn).here (ay (bc h))))))
theorem Zj{dx t:ai}{mA:Str->Option af}{name:Str}{v:af}{ns:List Str}{Q:Unit->aj->Prop}(X:K.In s.heap)(c:rN K C)(hn:W.findIn K (.ref C) name=aa ae)
  (hx:s.heap.get? x=aa (qe C (aa dx) t)) (px:dx≠x) (n:s.heap.Ns1 dx mA) (hw:jK mA ns) (hsz:ns.length<sizeLine)
  (h:∀h',h'.Ns1 dx (λy=>if y=name then aa v else mA y)->fZ dx s.heap h'->Q () { s with heap:=h',toks:=s.toks+2 }) :
  wpAny (aJ prog w) A (C0 (.ref x) name v) Q E s:=by
 obtain⟨od,ho,hl⟩:=JT n;have J:W.InstAt s.heap x (qe C (aa dx) t) C (aa od):=⟨hx,rfl,rfl,ho⟩;refine W.set_plain X J c.sa (D8 (s:={ s with toks:=s.toks+1 }) X J c.over hn ?_);obtain⟨cd,hc,wy⟩:=W.any_some c.hd;refine ay (bc (ay (ay (mC hx (ay (W.Looks.here (s:={ s with toks:=s.toks+1 }) (W.looks_clsIn X hc) ?_))))));rw[wy];refine bc (a:=aa dx) (ay (bc (ay ?_)));refine v_ (s:={ s with toks:=s.toks+1 }) n λh' u1 BS=>?_;obtain⟨oD,PU,PV,Du,Dv,Dw⟩:=u1.count (pQ name v hw);refine ay (pR Du (by rw[Dv];exact pS (bz Dw (by rw[aY];omega))) ?_);exact bc (h _ u1 BS)
theorem Zk{t:ai}{name:Str}{v:af}{Q:Unit->aj->Prop}(X:K.In s.heap)(c:rN K C)(hn:W.findIn K (.ref C) name=aa ae)
  (hx:s.heap.get? x=aa (qe C ae t))
  (h:∀h',h'.Ns1 s.heap.objs.size (λy=>if y=name then aa v else ae)->h'.get? x=aa (qe C (aa s.heap.objs.size) t)->(∀b o,b≠x->s.heap.get? b=aa o->h'.get? b=aa o)->Q () { s with heap:=h',toks:=s.toks+2 }) :
  wpAny (aJ prog w) A (C0 (.ref x) name v) Q E s:=by
 have J:W.InstAt s.heap x (qe C ae t) C ae:=⟨hx,rfl,rfl,trivial⟩;refine W.set_plain X J c.sa (D8 (s:={ s with toks:=s.toks+1 }) X J c.over hn ?_);obtain⟨cd,hc,wy⟩:=W.any_some c.hd;obtain⟨hh,g,d,tk,os⟩:=s;refine ay (bc (ay (ay (mC hx (ay (W.Looks.here (s:=⟨hh,g,d,tk+1,os⟩) (W.looks_clsIn X hc) ?_))))));rw[wy];have Q8:(hh.push { cls:=.type "dict",data:=.dict #[] }).get? x=aa (qe C ae t):=aw _ hx;have Q9:x≠hh.objs.size:=aQ (aE hx);let h1:=(hh.push { cls:=.type "dict",data:=.dict #[] }).update x λo=>{ o with dict:=aa hh.objs.size };have gd:h1.get? hh.objs.size=aa { cls:=.type "dict",data:=.dict #[] }:=(lE _ _ _ _ Q9.symm).trans (Heap.get?_push_at rfl rfl);have gx:h1.get? x=aa (qe C (aa hh.objs.size) t):=hU _ Q8 rfl;have nd:h1.Ns hh.objs.size (λ_=>ae):=⟨_,#[],_,gd,rfl,λe he=>absurd he (by simp),λ_=>rfl⟩;have main:wpAny (aJ prog w) A.in1 (storeInDict hh.objs.size (.str name tk) name v) (λeV s'=>match eV with|.done f=>(match f with|.ret _=>Q () s' | _=>False) | .again c'=>False) (λ_ _=>False) ⟨h1,g,d,tk+1,os⟩:=by
  unfold storeInDict newKeyGuard;refine ay (bc (ay (v_ (sv nd) λh' wA hs=>?_)));obtain⟨oD,PU,PV,Du,Dv,Dw⟩:=wA.count (Within.cons name v Within.nil);refine ay (pR Du (by rw[Dv];exact pS (bz Dw (by rw[aY,oC,dQ];omega))) ?_);refine bc (h h' wA ((hs.2 x Q9).trans gx) λb o hb q=>(hs.2 b (aQ (aE q))).trans ((lE _ _ _ _ hb).trans (aw _ q)))
 rw[if_neg (by decide)];show wpAny _ _ (if(!true || !typeHasDict (.ref C))=true then pure ae else _) _ _ _;rw[if_neg (by simp[typeHasDict])];refine ay (wpAny_alloc' (ay (wpAny_update' Q8 (bc (bG main (λeV s' z=>?_) λ_ _ z=>z.elim)))));rcases eV with(_ | _ | _ | _) | _<;>first | exact z | exact z.elim
noncomputable def pz(K:W.Frag)(C fI:ai):Bool:=match K.lookup C with
 | some ⟨.type "type",_,.cls cd,sl⟩=>(match cd.mro,sl.toList with
   |.ref C'::bm,[_,_,_,_,aa (.builtin n),_]=>C'==C&&n == "ValueError.__new__" && !cd.hasDel&&W.tailIn K kC bm&&W.nsOkIn K cd.ns&&W.nsIn K cd.ns "__init__" == aa (aa (.ref fI))
   |_,_=>false)
 |_=>false
theorem Zl{h:bN}{N:ai}{mN:Str->Option af}{n:Str}{v:af}(X:K.In h)(G:h.Ns N mN)(e:W.nsIn K N n=aa (aa v)):mN n=aa v:=by
 obtain⟨ob,ents,_,g1,g2,_,look⟩:=G;unfold W.nsIn at e
 split at e
 case h_1 q=>
  have z:=X _ _ q;rw[g1] at z;cases z;cases g2;rw[<- look];unfold sr v8;rw[<- uj]
  split at e
  case h_1 he=>cases e;rw[he];rfl
  case h_2=>split at e<;>cases e
 case h_2=>cases e
theorem D9{h:bN}{fI:ai}(X:K.In h)(q:pz K C fI=true) :
  ∃bm N nm qn bs qG sn sub ab zb dd k0 k1 k2 k3 k5 mN,h.get? C=aa (excClassObj nm qn C N bs bm qG sn sub ab zb dd k0 k1 k2 k3 k5 "ValueError.__new__")/\h.Ns N mN/\mN "__init__" = aa (.ref fI)/\OwnTail h kC bm:=by
 unfold pz at q
 split at q
 .rename_i YT GK slt look
  split at q
  .rename_i C2 D1 j0 j1 j2 j3 QM j5 em es
   simp only[cv,beq_iff_eq,wj] at q;obtain⟨⟨⟨⟨⟨c1,c2⟩,c3⟩,tl⟩,iY⟩,Zm⟩:=q;subst c1 c2;have ob:=X _ _ look;obtain⟨a1,a2,a3,a4,a5,a6,a7,a8,a9,b1,b2⟩:=GK;have em:a3=.ref C2::D1:=em;have c3:b2=false:=c3;have Kv:slt=#[j0,j1,j2,j3,aa (.builtin "ValueError.__new__"),j5]:=by
    obtain⟨l⟩:=slt;exact congrArg Array.mk es
   rw[em,c3,Kv] at ob;exact⟨_,_,_,_,_,_,_,_,_,_,_,_,_,_,_,_,_,ob,.of_isNs (W.isNs_of_in X iY),Zl X (.of_isNs (W.isNs_of_in X iY)) Zm,W.tail_of_in X tl⟩
  .cases q
 .cases q
theorem Zn{B:ai}{pl:Sem Bool}{Q:af×List af->aj->Prop}(X:K.In s.heap)(hg:W.specialIn K (.ref B) "__getattribute__" = aa (aa (.builtin "type.__getattribute__")))
  (hr:W.readsIn K B (.type "type")=true) (e:W.findCls K (.ref B) (.type "type") "__init__" = aa (.val (.builtin "ValueError.__init__")))
  (h:Q (.builtin "ValueError.__init__",[]) { s with toks:=s.toks+1 }):wpAny (aJ prog w) A (gz (.ref B) "__init__" pl) Q E s:=
 W.method_cls X hg (W.cls_value X hr e (by rfl) h)
theorem Zo{fI:ai}{dx:Option ai}{t:ai}{m:af}{Q:af->aj->Prop}(X:K.In s.heap)(q:pz K C fI=true)(hx:s.heap.get? x=aa (qe C dx t))
  (h:∀h' t' GR,h'.get? x=aa (qe C dx t')->(∀b o,b≠x->s.heap.get? b=aa o->h'.get? b=aa o)->Q .none { s with heap:=h',toks:=GR }) :
  wpAny (aJ prog w) A (call (.builtin "ValueError.__init__") [.ref x,m]) Q E s:=by
 obtain⟨bm,N,nm,qn,bs,qG,sn,sub,ab,zb,dd,k0,k1,k2,k3,k5,mN,hC,hN,hni,T⟩:=D9 X q;have F:=iI;obtain⟨hh,g,d,tk,os⟩:=s;refine lx (mE F.init.plain F.initEntry (wpAny_check_init_subT F T hC hx rfl ?_))
 wp_walk
 exact h _ hh.objs.size tk (by rw[hU _ (aw _ hx) rfl];rfl) λb o hb q=>(lE _ _ _ _ hb).trans (aw _ q)
structure Q_(h h':bN)(e C:ai):Prop where
 keeps:∀b o,h.get? b=aa o->h'.get? b=aa o
 new:h.objs.size<=e
 obj:∃t,h'.get? e=aa (qe C ae t)
theorem Zp{fI:ai}{oI:Obj}{us:List af}{Q:Fin->aj->Prop}(X:K.In s.heap)(q:pz K C fI=true)(hf:s.heap.get? fI=aa oI)(KZ:oI.cls=.type "function")(cK:us.length<=sizeLine)
  (hq:∀h' e,Q_ s.heap h' e C->wpAny (aJ prog w) A (call (.ref fI) (.ref e::us)) (λr s'=>r=.none/\Q (.done (.ret (.ref e))) s') E { s with heap:=h' }) :
  wpAny (aJ prog w) A (Builtin.«type.__call__» ⟨.ref C::us,[]⟩) Q E s:=by
 obtain⟨bm,N,nm,qn,bs,qG,sn,sub,ab,zb,dd,k0,k1,k2,k3,k5,mN,gC,gN,gi,T⟩:=D9 X q;have F:=iI;obtain⟨hh,g,d,tk,os⟩:=s
 repeat (first | with_reducible refine eU gC ?_ | with_reducible refine wpAny_madeBy_exc gC ?_ | wp_step)
 refine codeAny_call_builtin_code (uQ _ F.quiet) (wpAny_check_new_subT F T gC ?_);refine codeAny_exc_new_subT F T gC ?_ cK;let h1:=(hh.push { cls:=.type "tuple",data:=.seq us.toArray }).push { cls:=.ref C,data:=.fields #[.ref hh.objs.size,.none,.none,.none,.bool false,.none] };have kp:∀b o,hh.get? b=aa o->h1.get? b=aa o:=λb o z=>aw _ (aw _ z);have ge:h1.get? (hh.objs.size+1)=aa { cls:=.ref C,data:=.fields #[.ref hh.objs.size,.none,.none,.none,.bool false,.none] }:=by
  have:=aZ (hh.push { cls:=.type "tuple",data:=.seq us.toArray }) (o:=qe C ae hh.objs.size) rfl;rwa[gR] at this
 have Ra:=kp _ _ gC;have D_:(aP C::bm).contains (.ref C)=true:=by simp
 have Zq:h1.Ns N mN:=gN.keeps kp;show wpAny _ _ _ _ _ (⟨h1,g,d,tk,os⟩:aj);unfold BH
 repeat (first | with_reducible refine eU ge ?_ | (with_reducible refine jb Ra ?_;rw[D_]) | wp_step)
 show wpAny _ _ (BE (.ref C) _) _ _ _;refine wpAny_typeLookup_tail Ra Zq (T.keeps kp) F.mroIs F.init.lookup ?_;rw[gi];refine ke (ay ?_);unfold bindSpecial;refine ay (wpAny_typeOf (T := "function") ⟨_,kp _ _ hf,KZ⟩ ?_);rw[if_pos (by decide)];refine bc (ay (bG (hq h1 (hh.objs.size+1) ⟨kp,jk _,_,ge⟩) (λr s' z=>?_) λ_ _ z=>z));obtain⟨rfl,z⟩:=z
 wp_walk
 exact z
theorem Zr{fI:ai}{oI:Obj}{us:List af}{Q:af->aj->Prop}(X:K.In s.heap)(q:pz K C fI=true)(hf:s.heap.get? fI=aa oI)(KZ:oI.cls=.type "function")(cK:us.length<=sizeLine)
  (hq:∀h' e,Q_ s.heap h' e C->wpAny (aJ prog w) (A.under (.builtin "type.__call__" ⟨.ref C::us,[]⟩)) (call (.ref fI) (.ref e::us)) (λr s'=>r=.none/\Q (.ref e) s') E { s with heap:=h' }) :
  wpAny (aJ prog w) A (call (.ref C) us) Q E s:=by
 obtain⟨bm,N,nm,qn,bs,qG,sn,sub,ab,zb,dd,k0,k1,k2,k3,k5,mN,gC,gN,gi,T⟩:=D9 X q;have r1:=tc_lookup;have r2:=tc_bind (.ref C);have isT:s.TypeIs (.ref C) "type":=⟨_,gC,rfl⟩;refine lx (codeAny_of_tree ?_);show wpAny _ _ (callAny (.ref C) _) _ _ _;obtain⟨hh,g,d,tk,os⟩:=s
 repeat (any_goals (first | assumption | with_reducible refine eU gC ?_ | wp_step))
 refine⟨rfl,?_⟩;exact codeAny_call_builtin_at (uQ _ (by decide +kernel)) entry_typeCall (wpAny_check_type_call_sub gC (Zp X q hf KZ cK λh' e mk=>hq h' e mk))
theorem Zs{env:Env}{fI:ai}{m:Sem af}{Q:Flow->aj->Prop}(q:pz K C fI=true)(hd:A.handled=ae)
  (h:wpAny (aJ prog w) A m (λv s1=>K.In s1.heap/\∃e t dx,v=.ref e/\s1.heap.get? e=aa (qe C dx t)/\E (.ref e) s1) E s):wpAny (aJ prog w) A (raiseStmt env (aa m) ae) Q E s:=by
 unfold raiseStmt;refine ay (bG h (λv s1 z=>?_) λ_ _ z=>z);obtain⟨X,e,t,dx,rfl,ge,hE⟩:=z;obtain⟨bm,N,nm,qn,bs,qG,sn,sub,ab,zb,dd,k0,k1,k2,k3,k5,mN,gC,gN,gi,T⟩:=D9 X q;have K0:(aP C::bm).contains (.type "BaseException")=true:=by rw[dC,T.hasType iI.hasBase,C7]
 obtain⟨hp,g,d,tk,os⟩:=s1;have ge:hp.get? e=aa { cls:=.ref C,dict:=dx,data:=.fields #[.ref t,.none,.none,.none,.bool false,.none] }:=ge
 repeat (first | with_reducible refine eU ge ?_ | with_reducible refine eU gC ?_ | (with_reducible refine jb gC ?_;rw[K0]) | wp_step)
 exact wpAny_raiseNew_none hd hE
theorem Zt{env:Env}{fI:ai}{y:Str}{np fN pos:Pos}{args:List bt}{Q:Flow->aj->Prop}(q:pz K C fI=true)(hd:A.handled=ae)(gF:(bK fN (av args env)).any (·.1)=false)
  (h:wpAny (aJ prog w) A (eval (.Name y np) env) (λf s1=>f=.ref C/\wpAny (aJ prog w) A (evalArgs (.ref C) true (bK fN (av args env)) []) (λa s2=>a.kw=[]/\K.In s2.heap /\
   wpAny (aJ prog w) A (call (.ref C) a.pos) (λv s3=>K.In s3.heap/\∃e t dx,v=.ref e/\s3.heap.get? e=aa (qe C dx t)/\E (.ref e) s3) E s2) E s1) E s) :
  wpAny (aJ prog w) A (exec (.Raise (aa (.Call (.Name y np) args [] fN)) ae pos) env) Q E s:=by
 rw[arm_exec_Raise];have core:wpAny (aJ prog w) A (eval (.Call (.Name y np) args [] fN) env) (λv s3=>K.In s3.heap/\∃e t dx,v=.ref e/\s3.heap.get? e=aa (qe C dx t)/\E (.ref e) s3) E s:=by
  refine wpAny_Call_ofName (bG h (λf s1 z=>?_) λ_ _ z=>z);obtain⟨rfl,z⟩:=z;unfold iU;refine ay (ke (bG z (λa s2 y2=>ay (kd ?_)) λ_ _ z=>z));obtain⟨ap,ak⟩:=a;obtain⟨e1,X,y2⟩:=y2;obtain rfl:ak=[]:=e1;obtain⟨bm,N,nm,qn,bs,qG,sn,sub,ab,zb,dd,k0,k1,k2,k3,k5,mN,gC,gN,gi,T⟩:=D9 X q;obtain⟨hp,g,d,tk,os⟩:=s2;simp only[gF];refine ay (wpAny_keeperOf_exc gC ?_);exact ay (bG y2 (λv s3 z=>ay (ke (yR (bc z)))) λ_ _ z=>z)
 exact ay (kd (Zs q hd (ay (bG core (λv s3 z=>ay (kd (bc z))) λ_ _ z=>z))))
end
end L2
namespace L2
open PySem PySem.Spec PyProof.Rows
noncomputable def iP(x C:ai)(dx:Option ai):HO:=.ext λh=>∃t,h.get? x=aa (qe C dx t)
noncomputable def tM(H:Hp)(a:ai):Hp:=λb=>if b=a then ae else H b
theorem zg{H:Hp}{a b:ai}(h:b≠a):tM H a b=H b:=by unfold tM;rw[if_neg h]
theorem D'{H:Hp}{a:ai}:tM H a a=ae:=by unfold tM;rw[if_pos rfl]
theorem Zu{H:Hp}{a:ai}{o:HO}(e:H a=aa o):upd H a o=H:=by
 funext b;unfold upd;split
 .rename_i z;rw[z,e]
 .rfl
section
variable {P:aR}{w:bu}{H:Hp}{h h':bN}{x C d:ai}{dx:Option ai}{t:ai}{fs wu:List (Str×V)}
theorem K1(e:h.get? x=aa (qe C dx t)):jS P w H h x (iP x C dx):=⟨⟨t,e⟩,⟨_,e⟩,λ_ _ z k=>let ⟨t,e⟩:=z;⟨t,k _ e⟩⟩
theorem GS(ok:iM P w H h)(e:H x=aa (iP x C dx)):∃t,h.get? x=aa (qe C dx t):=(ok x _ e).1
theorem iM.rO(ok:iM P w H h)(hd:H d=aa (.xd fs))(k:∀b u,b≠d->h.get? b=aa u->h'.get? b=aa u)(new:jS P w (upd H d (.xd wu)) h' d (.xd wu)):iM P w (upd H d (.xd wu)) h':=λb u q=>by
 by_cases hb:b=d
 .subst hb;rw[fX] at q;cases q;exact new
 .rw[dh hb] at q
  refine(ok b u q).mo (λc v hc r=>k c v ?_ r) (λc r=>?_) λc xs r=>?_
  .rintro rfl
   rcases hc with z | z
   .exact hb z.symm
   .rw[hd] at z;cases z
  .rw[dh];exact r
   rintro rfl;rw[hd] at r;cases r
  .rw[dh];exact r
   rintro rfl;rw[hd] at r;cases r
theorem Un.rO{fr ex:List ai}(hd:H d=aa (.xd fs))(k:∀b u,b≠d->h.get? b=aa u->h'.get? b=aa u)(Zv:∃u,h'.get? d=aa u):Un fr ex H (upd H d (.xd wu)) h h':=by
 have ne:∀b,H b=ae->b≠d:=λb n z=>by rw[z,hd] at n;cases n
 refine⟨λb u q n _ _=>k b u (ne b n) q,λb u q n _ _=>⟨u.slots,k b u (ne b n) q⟩,λb u q n _=>by rw[dh (ne b n)];exact n,λb u q _=>?_,
  λb xs q=>?_,λb u xs q=>?_,λb ps q=>⟨#[],?_⟩⟩
 .by_cases z:b=d
  .subst z;exact Zv
  .exact⟨u,k b u z q⟩
 .rw[dh];exact q
  rintro rfl;rw[hd] at q;cases q
 .rw[dh];exact q
  rintro rfl;rw[hd] at q;cases q
 .rw[dh,q];simp
  rintro rfl;rw[hd] at q;cases q
theorem iM.tM(ok:iM P w H h){φ:bN->Prop}(e:H x=aa (.ext φ)):iM P w (tM H x) h:=λb u q=>by
 by_cases hb:b=x
 .subst hb;rw[D'] at q;cases q
 .rw[zg hb] at q
  refine(ok b u q).mo (λ_ _ _ z=>z) (λc r=>?_) λc xs r=>?_
  .rw[zg];exact r
   rintro rfl;rw[e] at r;cases r
  .rw[zg];exact r
   rintro rfl;rw[e] at r;cases r
end
theorem mem_of_lookup{g:Str}{v:V}:∀{fs:List (Str×V)},fs.lookup g=aa v->g∈fs.map (·.1)
 | (k,u)::r,e=>by
   by_cases z:g=k
   .rw[z];exact aA
   .have hb:(g==k)=false:=beq_eq_false_iff_ne.mpr z
    rw[bL,hb] at e;exact au _ (mem_of_lookup e)
theorem Zw{fs:List (Str×V)}{mA:Str->Option af}(r:∀f,jc (fs.lookup f) (mA f)):jK mA (fs.map (·.1)):=λg hg=>by
 have z:=r g;cases e:fs.lookup g with
 |some v=>exact mem_of_lookup e
 | none=>
   rw[e] at z;cases q:mA g with
   |none=>exact absurd q hg
   |some u=>rw[q] at z;exact z.elim
def K2(K:W.Frag)(t:TA):TE:=fun σ H Q=>t σ H λvs H1=>∃a m C fI dx,vs=[.ref a,m]/\H1 a=aa (iP a C dx)/\pz K C fI=true/\Q .bH H1
section
variable {X:Cx}{E:XK}{B:ai}{y f:Str}{np cP pos jo:Pos}{e o value:bt}{es:List bt}{t:TA}{ta tv:TE}
theorem Rb{pl:Sem Bool}(hg:Gl X y)(hm:X.mg y=aa (.ref B))(h1:W.specialIn X.K (.ref B) "__getattribute__" = aa (aa (.builtin "type.__getattribute__")))
  (h2:W.readsIn X.K B (.type "type")=true) (h3:W.findCls X.K (.ref B) (.type "type") "__init__" = aa (.val (.builtin "ValueError.__init__"))) (ha:PA X (e::es) t)
  (jE:(y==("__debug__" : Str))=false:=by decide) (fm:av (e::es) X.env=(false,eval e X.env)::av es X.env:=by rfl) (gF:(bK pos (av es X.env)).any (·.1)=false:=by rfl)
  (ht:eval (.Call (.Attribute (.Name y np) "__init__" cP) (e::es) [] pos) X.env=(do
   let ov <- eval (.Name y np) X.env
   jQ cP.atName
   let (f,first) <- jR [ov] (gz ov "__init__" pl)
   iU pos f first (bK pos (av (e::es) X.env)) (eT pos (cT [] X.env))):=by rfl) :
  PE X (.Call (.Attribute (.Name y np) "__init__" cP) (e::es) [] pos) (K2 X.K t):=by
 intro ag s σ H Q I h;refine W.methodCall_KW (pl:=pl) (yZ I hg hm ?_ jE) ht;refine Zn I.jz h1 h2 h3 ?_;refine kY (dM (ha pos ag _ σ H _ (I.tok _) h) λus s1 cS=>?_) fm gF;obtain⟨vs,H1,I1,r1,a,m,C,fI,dx,ev,ea,q,z⟩:=cS;subst ev;cases r1 with
 | cons ra rm=>
   cases rm with
   | cons rm0 rn=>
     cases rn;obtain rfl:=(show _=aP a from ra);obtain⟨t0,hx⟩:=GS I1.cD ea;refine Zo I1.jz q hx λh' t' GR g k=>⟨.bH,H1,?_,rfl,z⟩;have I2:=I1.write (h':=h') (t':=GR) (x:=a) (e:=a) (o:=iP a C dx) (by rw[ea];exact trivial) (.inl rfl) k ⟨_,g⟩ (K1 g);rw[Zu ea] at I2;exact I2
def GU(K:W.Frag)(ta tv:TE)(f:Str):TS:=λD σ H=>tv σ H λy H1=>ta σ H1 λx H2=>∃a C,x=.ref a/\rN K C/\W.findIn K (.ref C) f=aa ae /\
 ((H2 a=aa (iP a C ae)/\∀d,H2 d=ae->D.nx σ (upd (upd H2 a (iP a C (aa d))) d (.xd [(f,y)]))) \/
  ∃d fs,H2 a=aa (iP a C (aa d))/\H2 d=aa (.xd fs)/\fs.length<1000/\D.nx σ (upd H2 d (.xd (iF f y fs))))
theorem K3(ha:PE X o ta)(hv:PE X value tv)(hs:fu value (aa (.Attribute o f jo)) pos.line X.env=pure false):PS X (.Assign [.Attribute o f jo] value pos) (GU X.K ta tv f):=by
 intro ag s σ H D I h;refine o8 (dM (hv ag s σ H _ I h) λu s1 cS=>?_) hs;obtain⟨y,H1,I1,ry,q⟩:=cS;refine dM (ha ag s1 σ H1 _ I1 q) λov s2 cS=>?_;obtain⟨x,H2,I2,rx,a,C,ex,c,n,q2⟩:=cS;subst ex;obtain rfl:ov=aP a:=rx;rcases q2 with⟨ea,q2⟩ | ⟨d,fs,ea,ed,hl,q2⟩
 .obtain⟨t,hx⟩:=GS I2.cD ea
  refine Zk I2.jz c n hx λh' n1 g k=>⟨σ,_,?_,q2 s2.heap.objs.size (I2.cD.fresh (az _))⟩;have ha':a≠s2.heap.objs.size:=aQ (aE hx);have Zx:H2 s2.heap.objs.size=ae:=I2.cD.fresh (az _);have na:∀b,H2 b=ae->b≠a:=λb z w=>by rw[w,ea] at z;cases z
  have nd:∀b v,s2.heap.get? b=aa v->b≠s2.heap.objs.size:=λb v z=>aQ (aE z);have nk:∀b v,H2 b=aa v->(∀φ,v≠.ext φ)->upd (upd H2 a (iP a C (aa s2.heap.objs.size))) s2.heap.objs.size (.xd [(f,y)]) b=aa v:=λb v z w=>by
   rw[dh (λq=>by rw[q,Zx] at z;cases z),dh (λq=>by rw[q,ea] at z;cases z;exact w _ rfl)];exact z
  have un:Un X.fs [] H2 (upd (upd H2 a (iP a C (aa s2.heap.objs.size))) s2.heap.objs.size (.xd [(f,y)])) s2.heap h':=
   ⟨λb v z nn _ _=>k b v (na b nn) z,λb v z nn _ _=>⟨v.slots,k b v (na b nn) z⟩,λb v z nn _=>by rw[dh (nd b v z),dh (na b nn)];exact nn,
    λb v z _=>(by
     by_cases w:b=a
     .rw[w];exact⟨_,g⟩
     .exact⟨v,k b v w z⟩),
    λb xs z=>nk b _ z (by intro _ w;cases w),λb v xs z=>nk b _ z (by intro _ w;cases w),λb ps z=>⟨#[],by rw[nk b _ z (by intro _ w;cases w)];simp⟩⟩
  refine I2.un un λb v z=>?_;by_cases w:b=s2.heap.objs.size
  .subst w
   rw[fX] at z;cases z;refine⟨_,n1,λg'=>?_⟩;show jc (bL g' [(f,y)]) (if g'=f then aa u else ae);by_cases z2:g'=f
   .have hb:(g'==f)=true:=beq_iff_eq.mpr z2
    simp only[bL,hb,if_pos z2];exact ry
   .have hb:(g'==f)=false:=beq_eq_false_iff_ne.mpr z2
    simp only[bL,hb,if_neg z2];trivial
  .rw[dh w] at z
   by_cases w2:b=a
   .subst w2
    rw[fX] at z;cases z;exact K1 g
   .rw[dh w2] at z
    refine(I2.cD b v z).mo (λc' v' hc r=>k c' v' ?_ r) (λc' r=>nk c' _ r (by intro _ w;cases w)) λc' xs r=>nk c' _ r (by intro _ w;cases w);rcases hc with q | q
    .rw[q];exact w2
    .rintro rfl;rw[ea] at q;cases q
 .obtain⟨t,hx⟩:=GS I2.cD ea
  obtain⟨mA,n1,r⟩:=I2.cD d _ ed;have px:d≠a:=λz=>by rw[z,ea] at ed;cases ed
  have wi:=Zw r;refine Zj I2.jz c n hx px n1 wi (by rw[aT,dQ];omega) λh' n2 sb=>⟨σ,_,?_,q2⟩;obtain⟨od,_,_,Zy,_⟩:=id n2;refine I2.un (Un.rO ed (λb v hb z=>(sb.2 b hb).trans z) ⟨od,Zy⟩) (I2.cD.rO ed (λb v hb z=>(sb.2 b hb).trans z) ⟨_,n2,λg=>?_⟩);show jc ((iF f y fs).lookup g) (if g=f then aa u else mA g);rw[JU];by_cases z:g=f
  .rw[if_pos z,if_pos z];exact ry
  .rw[if_neg z,if_neg z];exact r g
end
def GV(X:Cx)(E:XK):Prop:=∀(ag:List (ai×Obj)) (σ:St) (H1:Hp) (s1:aj) (H:Hp) (s:aj) (ea C t:ai) (dx:Option ai),Inv X ag σ H1 s1->s1.heap.objs.size<=ea->Inv X ag σ H s ->
 H ea=aa (iP ea C dx)->s.heap.get? ea=aa (qe C dx t)->E (.ref C) dx (tM H ea)->X.xe (.ref ea) s
section
variable {P:aR}{w:bu}{K:W.Frag}{mg:Str->Option af}{base:bN}{N:List Str}{qual:Str}{scope:iz}{f:ai}{cd:af}{A:bW}{outer:List Env}{s₀:aj}{H₀:Hp}{E:XK}
theorem Rf:GV (h8 (dP P w) P w K mg base N qual scope f cd A outer s₀ H₀ E) E:=by
 intro ag σ H1 s1 H s ea C t dx I1 B0 I eH he hE;let X:=h8 (dP P w) P w K mg base N qual scope f cd A outer s₀ H₀ E;let B:=W.hideAll s.heap (ea::mG X.stack);have qF:∀b,b∈mG X.stack↔b=X.env.locals\/b∈mG outer:=λb=>by
  show b∈X.env.locals::mG outer↔_;exact aF
 have AB:∀b o,s₀.heap.get? b=aa o->b≠ea:=λb o e=>aQ (ax (aE e) (bz I1.sz B0));have hF:s.heap.FunFrames B X.stack:=W.funFrames_hide I.stack λenv hv a ha=>au _ (i5.mpr ⟨env,hv,ha⟩);have hB:B.get? ea=ae:=W.hideAll_none _ aA;have kB:∀b o,s.heap.get? b=aa o->b≠ea->b∉mG X.stack->B.get? b=aa o:=λb o e n1 n2=>W.hideAll_get _ e λm=>(aF.mp m).elim n1 n2;have K4:∀b v,H b=aa v->(∀φ,v≠.ext φ)->tM H ea b=aa v:=λb v z q=>by
  rw[zg (λy=>by rw[y,eH] at z;cases z;exact q _ rfl)];exact z
 show wpAny (aJ P w) X.A (wa X.env (.ref ea)) _ _ _;refine bG (DY (e:=ea) (d:=dx) QJ ⟨_,he,rfl⟩ (wpAny_leaving_firstW (Q:=λ_ s2=>∃h1,s2={ s with heap:=h1 }/\Heap.LeftW B X.stack ea (.ref C) (.ref t) s.heap h1)
  (base:=B) (env:=X.env) (outer:=outer) (L:=X.env.locals) (a0:=.ref t) I.ok.frames hF rfl he (λb o q=>W.of_hideAll _ q) hB rfl rfl rfl λh1 k=>⟨h1,rfl,k⟩)) (λ_ s2 z=>?_) λ_ _ z=>z.1
 obtain⟨⟨h1,rfl,k1,⟨_,_,k2⟩,k3,k4⟩,za⟩:=z;refine⟨ea,.ref C,.ref t,B,tM H ea,dx,rfl,I.os,I.bare,⟨k1,hB,k2,k3⟩,?_,λb o e n hb=>?_,λb o e n hb=>?_,λb o e n=>?_,λb o e hb=>?_,λb xs e=>?_,λb o u e=>?_,λb ps e=>?_,za,hE⟩
 .refine iM.hide (iM.tM I.cD eH) λb hb=>?_
  rcases aF.mp hb with z | z
  .rw[z];exact D'
  .by_cases q:b=ea
   .rw[q];exact D'
   .rw[zg q];exact I.ni b z
 .have hL:b≠X.env.locals:=aQ (ax (aE e) I.ok.above)
  refine kB b o (I.base.keep b o e n hb (by simp[h8])) (AB b o e) λm=>?_;rcases(qF b).mp m with z | z
  .exact hL z
  .exact hb z
 .obtain⟨sl,e1⟩:=I.base.slot b o e n hb (by simp[h8])
  obtain⟨o',e',nd⟩:=(I.stack.mem ((qF b).mpr (.inr hb))).2;rw[e1] at e';cases e';obtain⟨Gh,e2⟩:=k4 b _ e1 nd;exact⟨Gh,e2⟩
 .rw[zg (AB b o e)];exact I.base.free b o e n (by simp[h8])
 .have hL:b≠X.env.locals:=aQ (ax (aE e) I.ok.above)
  obtain⟨o',e1⟩:=I.base.there b o e (by simp[h8]);refine⟨o',kB b o' e1 (AB b o e) λm=>?_⟩;rcases(qF b).mp m with z | z
  .exact hL z
  .exact hb z
 .exact K4 b _ (I.base.tups b xs e) (by intro _ z;cases z)
 .exact K4 b _ (I.base.frzs b o u e) (by intro _ z;cases z)
 .obtain⟨more,e1⟩:=I.base.tbls b ps e
  exact⟨more,K4 b _ e1 (by intro _ z;cases z)⟩
end
def Zz(C:ai)(sp:Sp)(E:XK)(t:TA):TS:=λ_ σ H=>t σ H λvs H1=>vs.length<=sizeLine/\∀ea,H1 ea=ae ->
 sp (.ref ea::vs) (upd H1 ea (iP ea C ae)) (λv H2=>v=.bH/\∃dx,H2 ea=aa (iP ea C dx)/\E (.ref C) dx (tM H2 ea)) E0
section
variable {X:Cx}{E:XK}{k:Nat}{C fI:ai}{fd:bA}{ps:List Str}{sp:Sp}{y:Str}{np fN pos:Pos}{e:bt}{es:List bt}{t:TA}
theorem Rg(hx:GV X E)(hp:oF (dP X.prog X.w) X E0)(hc:X.calm=true)(q:pz X.K C fI=true)(hf:W.isFn X.K (.ref fI)=true)(F:bE X.prog X.w X.K X.mg X.base (dP X.prog X.w) k fI fd ps sp)(hr:eJ (k+1) X.A)(hb:mH X.K fd ps [])
  (hg:Gl X y) (hm:X.mg y=aa (.ref C)) (ha:PA X (e::es) t)
  (jE:(y==("__debug__" : Str))=false:=by decide) (he:av (e::es) X.env=(false,eval e X.env)::av es X.env:=by rfl) (gF:(bK fN (av es X.env)).any (·.1)=false:=by rfl) :
  PS X (.Raise (aa (.Call (.Name y np) (e::es) [] fN)) ae pos) (Zz C sp E t):=by
 intro ag s σ H D I h;refine Zt (K:=X.K) q (I.ok.hd hc) (by rw[he];show(false || (bK fN (av es X.env)).any (·.1))=false;rw[gF];rfl) (yZ I hg hm ⟨rfl,?_⟩ jE);have a:=ha fN ag s σ H _ I h;rw[he] at a ⊢;refine sC (dM a λus s2 ⟨vs,H2,I2,r,l,z⟩=>⟨rfl,I2.jz,?_⟩);obtain⟨oI,g1,g2⟩:∃oI,s2.heap.get? fI=aa oI/\oI.cls=.type "function":=by
  obtain⟨o,ho,Gi⟩:=bg.mp (show(X.K.lookup fI).map (·.cls)=aa (.type "function") from eq_of_beq hf);exact⟨o,I2.jz _ _ ho,Gi⟩
 refine Zr I2.jz q g1 g2 (by show us.length<=sizeLine;rw[<- r.length];exact l) λh' ea mk=>?_;obtain⟨t0,ZA⟩:=mk.obj;have I3:Inv X ag σ (upd H2 ea (iP ea C ae)) { s2 with heap:=h' }:=I2.laid (t':=s2.toks) mk.keeps mk.new (K1 ZA);have r2:cf (V.ref ea::vs) (aP ea::us):=.cons rfl r;have sq:=z ea (I2.cD.fresh mk.new);have hl:(aP ea::us++[]).length=ps.length:=by
  rw[dj,<- r2.length];exact F.len _ _ _ _ sq
 have bb:=hb { s2 with heap:=h' } (aP ea::us) I3.jz hl;rw[dj] at bb;refine lx (jg (F.run _ X.stack _ _ ⟨aP ea::us,[]⟩ (aP ea::us) _ _ E0 (hr.make C us []) (I3.Ad.make C us []) bb r2 sq) λr' s' hq=>?_);cases r' with
 |error ex=>exact hp ag σ _ _ ex s' I3 hq
 | ok fl=>
   cases fl with
   | ret u=>
     obtain⟨v,H',I4,rv,ev,dx,e4,q4⟩:=I3.after hq;subst ev;obtain⟨t4,g4⟩:=GS I4.cD e4;exact⟨rv,I4.jz,ea,t4,dx,rfl,g4,hx ag σ H2 s2 H' s' ea C t4 dx I2 mk.new I4 e4 g4 q4⟩
   |next=>exact dB hq
   |brk=>exact dB hq
   |cont=>exact dB hq
end
end L2
namespace L2
open PySem PySem.Spec PyProof.Rows PySem.Builtin PySem.Builtin.ObjectAttr
structure tN(K:W.Frag)(C:ai):Prop where
 ga:W.findIn K (.ref C) "__getattribute__" = aa (aa (.builtin "BaseException.__getattribute__"))
 gh:W.findIn K (.ref C) "__getattr__" = aa ae
 hd:W.hasDictIn K C=true
 over:BZ K C=true
section
variable {prog:aR}{w:bu}{A:bW}{E:af->aj->Prop}{s:aj}{K:W.Frag}{x C:ai}
theorem ZC{ox:Obj}{od:Option Obj}{name:Str}{tk:Tok}{fill rE:Bool}{Q:af->aj->Prop}(X:K.In s.heap)(c:tN K C)(J:W.InstAt s.heap x ox C od)
  (h:wpAny (aJ prog w) A.in1 (Builtin.«object.__getattribute__» ⟨[.ref x,.str name tk],[]⟩) (λeV s'=>match eV with|.done (.ret v)=>wpAny (aJ prog w) A (handedOut v) Q E s' | _=>False) (λ_ _=>False) s) :
  wpAny (aJ prog w) A (getAttrBy (.ref x) (.str name tk) fill rE) Q E s:=by
 have FB:=PySem.F.attrBase_ValueError;have ZD:(onTheHeap (aP C)&&jh "BaseException.__getattribute__" == jh "object.__getattribute__")=false:=by
  rw[show(jh "BaseException.__getattribute__" == jh "object.__getattribute__")=false from by decide +kernel,zP]
 obtain⟨cd,gcd,gv⟩:=W.any_some c.over;have K0:W.Looks (aJ prog w) s.heap (BH (.ref x) (.type "BaseException")) true:=
  J.type.andThen (W.looks_mroIn X (by unfold W.mroIn;rw[gcd,jm,if_neg (by rw[(Q7 gv).2.2];decide),KW gv (by decide +kernel)]))
 unfold getAttrBy;refine ke (ay (J.type.here (ay ((W.looks_findIn X c.ga).here ?_))));dsimp only;rw[ZD,if_neg (by decide)];unfold getAttrByItsOwn;refine ay ((W.looks_hook (r:=ae) X (by rw[if_pos (by rfl)];exact c.gh)).here (ay (wpAny_attempt (ke ?_))));unfold callGetattribute;rw[show(rE&&onTheHeap (jh "BaseException.__getattribute__"))=false from by cases rE<;>rfl,if_neg (by decide)];unfold boundAndCalled;rw[FB.ga.bind];refine ay (bc ?_);show wpAny _ _ (call (.builtin "BaseException.__getattribute__") [.ref x,.str name tk]) _ _ _;refine lx (mE FB.ga.plain PySem.F.entry_bexc_ga ?_);refine @W.check_slot (aJ prog w) _ _ s "BaseException.__getattribute__" "BaseException" "__getattribute__" (.ref x) [.str name tk] [] _ (by decide +kernel) (by decide +kernel) K0 (PySem.F.args_bexc_ga (.ref x) (.str name tk)) ?_;refine bG h (λeV s' z=>?_) λ_ _ z=>z.elim;rcases eV with(_ | _ | _ | _) | _<;>first | exact z | exact z.elim
theorem K5{dx:ai}{ox:Obj}{mA:Str->Option af}{name:Str}{v:af}{rE:Bool}{Q:af->aj->Prop}(X:K.In s.heap)(c:tN K C)(hn:W.findIn K (.ref C) name=aa ae)
  (hx:s.heap.get? x=aa ox) (hc:ox.cls=.ref C) (hd:ox.dict=aa dx) (ZE:W.notCls ox=true) (n:s.heap.Ns1 dx mA) (hv:mA name=aa v) (hh:W.handedIn v=true) (h:Q v { s with toks:=s.toks+1 }) :
  wpAny (aJ prog w) A (v9 (.ref x) name rE) Q E s:=by
 obtain⟨od,ho,hl⟩:=JT n;have J:W.InstAt s.heap x ox C (aa od):=⟨hx,hc,ZE,by rw[hd];exact ho⟩;have L:=W.looks_find (M:=aJ prog w) X J (W.findObj_own c.hd hn rfl (by rw[hl,hv]));unfold v9;refine ay (wpAny_mkText (ZC (s:={ s with toks:=s.toks+1 }) X c J ?_));unfold Builtin.«object.__getattribute__»;refine ay (bc (ay (bc (ay (W.Looks.here (s:={ s with toks:=s.toks+1 }) J.type (ay (W.Looks.here (s:={ s with toks:=s.toks+1 }) L ?_)))))));refine bc ?_;show wpAny _ _ (handedOut v) _ _ _;rw[W.handedOut_of hh];exact bc h
end
noncomputable def oH(x C:ai)(dx:Option ai):HO:=.ext λh=>∃o,h.get? x=aa o/\o.cls=.ref C/\o.dict=dx/\W.notCls o=true
theorem ZF{P:aR}{w:bu}{H:Hp}{h:bN}{x C:ai}{dx:Option ai}{o:Obj}(e:h.get? x=aa o)(e1:o.cls=.ref C)(e2:o.dict=dx)(e3:W.notCls o=true):jS P w H h x (oH x C dx):=
 ⟨⟨o,e,e1,e2,e3⟩,⟨o,e⟩,λ_ _ z k=>let ⟨o,e,e1⟩:=z;⟨o,k _ e,e1⟩⟩
theorem ZG{P:aR}{w:bu}{H:Hp}{h:bN}{x C:ai}{dx:Option ai}(ok:iM P w H h)(e:H x=aa (oH x C dx)):∃o,h.get? x=aa o/\o.cls=.ref C/\o.dict=dx/\W.notCls o=true:=(ok x _ e).1
noncomputable def AD(i:Nat)(D:Ends):Ends:={ nx:=fun σ H=>D.nx (σ.set i ae) H,bk:=fun σ H=>D.bk (σ.set i ae) H,ct:=fun σ H=>D.ct (σ.set i ae) H,rt:=D.rt }
def ZH(K:W.Frag)(D:ai)(i:Nat)(ts:TS)(tr:vc):vc:=λcls dx ea En σ H=>∃C tH,cls=.ref C/\o4 K C=aa tH /\
 if(aP C::tH).contains (.ref D)=true then(H ea=ae->ts (AD i En) (σ.set i (aa (.ref ea))) (upd H ea (oH ea C dx))) else tr cls dx ea En σ H
section
variable {X:Cx}
theorem Rh{es:Array mS}(sk:StrKeys es){oc:af}{od:Option ai}{ep:Nat}{qU:Array (Option af)}(y:Str):nsLookByArray y ⟨oc,od,.dict es ep,qU⟩=pure (sr es y):=by
 unfold nsLookByArray sr v8;dsimp only;cases q:es.find? (λe=>e.key.isStr y) with
 |some en=>rfl
 | none=>
   have Ea:(es.any λe=>e.refKey)=false:=by
    rw[Array.any_eq_false'];intro en ZI;obtain⟨_,_,z⟩:=sk en ZI;simp[su,z]
   dsimp only;rw[Ea];rfl
theorem ZJ{M:uK}{A:bW}{E:af->aj->Prop}{s:aj}{a:ai}{m:Str->Option af}{name:Str}{u:af}{Q:Bool->aj->Prop}(hn:s.heap.Ns a m)(hu:m name=aa u)
  (hQ:∀h' m',h'.Ns a m'->(∀y,y≠name->m' y=m y)->fZ a s.heap h'->Q true { s with heap:=h' }):wpAny M A (nsDel a name) Q E s:=by
 obtain⟨o,es,ep,ho,hd,sk,look⟩:=hn;obtain⟨en,gen,_⟩:=bg.mp (show(es.find? λe=>e.key.isStr name).map (·.val)=aa u from(look name).trans hu);have gk:en.key.isStr name=true:=by
  have:=Array.find?_some (p:=λe:mS=>e.key.isStr name) gen;exact this
 have isIn:(es.any λe=>e.key.isStr name)=true:=Array.any_eq_true'.mpr ⟨en,oV gen,gk⟩;obtain⟨j,hj⟩:∃j,es.findIdx? (λe=>e.key.isStr name)=aa j:=by
  cases q:es.findIdx? (λe=>e.key.isStr name) with
  |some j=>exact⟨j,rfl⟩
  | none=>
    have:=(Array.findIdx?_eq_none_iff.mp q) en (oV gen);rw[gk] at this;cases this
 have has:nsHas name o=pure true:=by
  rw[nsHas_eq];unfold nsHasByArray;rw[hd];show(if(es.any λe=>e.key.isStr name)=true then _ else _)=_;rw[isIn];rfl
 unfold nsDel;refine ay (mC ho ?_);rw[has];refine ay (bc (ay (wpAny_updatePart ho (bc ?_))));obtain⟨oc,od,ZK,qU⟩:=o;have hd:ZK=.dict es ep:=hd;subst hd;have e1:Obj.dropName name ⟨oc,od,.dict es ep,qU⟩=⟨oc,od,.dict (es.eraseIdxIfInBounds j) (ep+1),qU⟩:=by rw[Obj.dropName_eq];simp only[Obj.dropNameByArray,hj]
 have Ri:=sk.erase j;refine hQ _ (sr (es.eraseIdxIfInBounds j)) ⟨_,_,_,hU _ ho (by rw[e1];rfl),by rw[e1],Ri,λ_=>rfl⟩ (λy hy=>?_) (Jr ..);have l1:=nsLook_dropName hy ⟨oc,od,.dict es ep,qU⟩;rw[e1,nsLook_eq,Rh Ri,Rh sk] at l1;have l2:sr (es.eraseIdxIfInBounds j) y=sr es y:=by injection l1
 rw[l2,look]
theorem Inv.gone{ag:List (ai×Obj)}{σ:St}{H:Hp}{s:aj}{i:Nat}{x:Str}{h':bN}{t':Nat}{m m':Str->Option af}(I:Inv X ag σ H s)(hN:X.N.Nodup)(hi:X.N[i]?=aa x)(hk:∀u:V,X.kn[i]?≠aa (aa u))
  (hm:∀(j:Nat) (y:Str) (v:V),X.N[j]?=aa y->σ[j]?=aa (aa v)->zW X.env.scope y->∃u,RelV v u/\Look X.env s.heap m y u)
  (hn:h'.Ns X.env.locals m') (K6:∀y,y≠x->m' y=m y) (sb:fZ X.env.locals s.heap h'):Inv X ag (σ.set i ae) H { s with heap:=h',toks:=t' }:=by
 have hL:∀b o,X.s₀.heap.get? b=aa o->b≠X.env.locals:=λb o e=>aQ (ax (aE e) I.ok.above);have BN:i < σ.length:=by rw[I.len];exact(aB.mp hi).1
 refine⟨I.ok,I.os,I.bare,⟨λb o e n hb hx=>(sb.2 b (hL b o e)).trans (I.base.keep b o e n hb hx),λb o e n hb hx=>?_,I.base.free,λb o e hx=>?_,I.base.tups,I.base.frzs,I.base.tbls⟩,⟨m',hn,λj y v e1 e2 e3=>?_⟩,λy c e=>?_,I.free,I.iD,λp hp=>?_,λb ob e=>?_,?_,λj v e=>?_⟩
 .obtain⟨sl,e1⟩:=I.base.slot b o e n hb hx
  exact⟨sl,(sb.2 b (hL b o e)).trans e1⟩
 .obtain⟨o',e1⟩:=I.base.there b o e hx
  exact⟨o',(sb.2 b (hL b o e)).trans e1⟩
 .by_cases hj:j=i
  .subst hj
   rw[c6 BN] at e2;cases e2
  .rw[cm (bP hj)] at e2
   obtain⟨u',r',q⟩:=hm j y v e1 e2 e3;refine⟨u',r',?_⟩;rcases q with⟨k,e⟩ | ⟨k,c,e,z⟩
   .exact .inl ⟨k,by rw[K6 y λw=>hj (Jz hN e1 (w▸hi))];exact e⟩
   .exact .inr ⟨k,c,e,z.sameBut sb (I.w5 y c e)⟩
 .obtain⟨w',z⟩:=I.cell y c e
  exact⟨w',z.sameBut sb (I.w5 y c e)⟩
 .obtain⟨e,n,ne,nf,d⟩:=I.pin p hp
  exact⟨(sb.2 p.1 ne).trans e,n,ne,nf,d⟩
 .refine(I.cD b ob e).mo (λc w' hc q=>(sb.2 c ?_).trans q) (λ_ q=>q) λ_ _ q=>q
  rintro rfl;rcases hc with z | z
  .rw[<- z,I.free] at e;cases e
  .rw[I.free] at z;cases z
 .show(σ.set i ae).length=_
  rw[gA];exact I.len
 .by_cases hj:j=i
  .subst hj;exact absurd e (hk v)
  .rw[cm (bP hj)];exact I.kn j v e
theorem GW{ag:List (ai×Obj)}{σ:St}{H:Hp}{s:aj}{A:bW}{E:af->aj->Prop}{i:Nat}{x:Str}{pos:Pos}{Q:Unit->aj->Prop}(I:Inv X ag σ H s)(hN:X.N.Nodup)(hi:X.N[i]?=aa x)(hx:X.env.scope.names.lookup x=aa .local)(hk:∀u:V,X.kn[i]?≠aa (aa u))
  (h:∀s',Inv X ag (σ.set i ae) H s'->Q () s'):wpAny (aJ X.prog X.w) A (do bindName X.env x .none;yS X.env x pos) Q E s:=by
 have Eb:(X.env.scope.kind==.class || (X.env.scope.kind==.module&&X.env.locals != X.env.globals))=false:=by rw[I.ok.kind];rfl
 have kx:X.env.kindOf x=aa .local:=hx;have BN:i < σ.length:=by rw[I.len];exact(aB.mp hi).1
 refine ay (wpAny_bindName (Gj (v:=.bH) I hN hi (.inl hx) rfl (λs1 I1=>?_) (.inr hx) hk));obtain⟨m,hn,hl⟩:=id I1.loc;obtain⟨u,_,lk⟩:=hl i x .bH hi (c6 BN) (.inl hx);have hu:m x=aa u:=by
  rcases lk with⟨_,z⟩ | ⟨z,_⟩
  .exact z
  .rw[kx] at z;rcases z with z | z<;>cases z
 unfold yS unbindName deleteName;refine wpAny_onRaise (ay (yR (ay ?_)));simp only[kx,Eb];rw[if_neg (by decide)];refine ay (ZJ hn hu λh' m' wA K6 sb=>?_);simp only[Bool.not_true,Bool.false_eq_true,if_false];refine bc (yR ?_);have I2:=I1.gone (t':=s1.toks) hN hi hk hl wA K6 sb;rw[mT] at I2;exact h _ I2
theorem ZL{D:ai}{xj:List af}{i:Nat}{x n:Str}{np pos:Pos}{b₀:bR}{kO:List bR}{iq:List gM}{ts:TS}{tr:vc}(hg:Gl X x)(hm:X.mg x=aa (.ref D))(qD:o4 X.K D=aa xj)(hN:X.N.Nodup)(hi:X.N[i]?=aa n)(hx:X.env.scope.names.lookup n=aa .local)(hk:∀u:V,X.kn[i]?≠aa (aa u))
  (hs:∀ea,k8 (X.gZ ea) (b₀::kO) ts) (hr:PH X iq tr) (jE:(x==("__debug__" : Str))=false:=by decide) :
  PH X (.ExceptHandler (aa (.Name x np)) (aa n) (b₀::kO) pos::iq) (ZH X.K D i ts tr):=by
 intro ag s σ H En ea cls a0 dx B ok vd pq oo hd h;obtain⟨C,tH,rfl,qC,h⟩:=h;have I:Inv X ag σ H s:=vd s.heap oo.1 (.refl _);have I':=I.gZ ea;obtain⟨oe,Kx,BO⟩:=oo.there;refine zO (wU ?_) (by intro q;cases q);refine yZ (X:=X.gZ ea) I' hg hm ?_ jE;refine QN I.jz qC qD Kx BO ?_;cases c:(aP C::tH).contains (.ref D) with
 | false=>
   rw[c] at h;exact hr ag s σ H En ea _ a0 dx B ok vd pq oo hd (by simpa using h)
 | true=>
   rw[c] at h;have h:H ea=ae->ts (AD i En) (σ.set i (aa (.ref ea))) (upd H ea (oH ea C dx)):=by simpa using h
   refine codeAny_handlers_suite_as ?_;refine bG (DY Ks hd.1 (lands_againW (Q:=λ_ s2=>∃h6,s2={ s with heap:=h6 }/\iO B X.stack ea (.ref C) a0 h6/\kZ s.heap h6) oo λh6 tI D2=>⟨h6,rfl,tI,D2⟩)) (λ_ s2 z=>?_) λ_ _ z=>z.1;obtain⟨⟨h6,rfl,tI,D2⟩,oh,go,gd⟩:=z;obtain⟨o1,vs1,g1,g2,g3,_⟩:=tI.first
   have go:h6.get? ea=aa oh:=go;rw[g1] at go;cases go;have I6:Inv X ag σ (upd H ea (oH ea C dx)) { s with heap:=h6 }:=pq h6 _ tI.1 D2 (ZF g1 g2 gd (by unfold W.notCls;rw[g3]));refine Gj (X:=X.gZ ea) (v:=.ref ea) (I6.gZ ea) hN hi (.inl hx) rfl (λs3 I3=>?_) (.inr hx) hk;refine bG (hs ea ag s3 _ _ (AD i En) I3 (h hd.2)) (λf s4 q=>?_) λ_ _ z=>z.elim;cases f with
   |next=>obtain⟨a,b,c,d⟩:=q;exact GW (c.jW ok) hN hi hx hk λs5 I5=>⟨_,_,I5,d⟩
   |brk=>obtain⟨a,b,c,d⟩:=q;exact GW (c.jW ok) hN hi hx hk λs5 I5=>⟨_,_,I5,d⟩
   |cont=>obtain⟨a,b,c,d⟩:=q;exact GW (c.jW ok) hN hi hx hk λs5 I5=>⟨_,_,I5,d⟩
   |ret u=>obtain⟨v,a,b,c,r,d⟩:=q;exact GW (c.jW ok) hN hi hx hk λs5 I5=>⟨v,_,_,I5,r,d⟩
variable {e:bt}{f:Str}{pos:Pos}{ta:TE}
def K7(K:W.Frag)(ta:TE)(f:Str):TE:=fun σ H Q=>ta σ H λx H1=>∃a C d fs v,x=.ref a/\H1 a=aa (oH a C (aa d))/\tN K C/\W.findIn K (.ref C) f=aa ae/\H1 d=aa (.xd fs)/\fs.lookup f=aa v/\Q v H1
theorem ZM(he:PE X e ta)(hb:b_ e f X.env (eval e X.env)=eval e X.env):PE X (.Attribute e f pos) (K7 X.K ta f):=by
 intro ag s σ H Q I h;refine PZ hb (dM (he ag s σ H _ I h) λu s1 cS=>?_);obtain⟨x,H1,I1,rx,a,C,d,fs,v,ex,ea,c,n,ed,l,q⟩:=cS;subst ex;obtain rfl:u=aP a:=rx;obtain⟨o,g1,g2,g3,g4⟩:=ZG I1.cD ea;obtain⟨mA,n1,r⟩:=I1.cD d _ ed;obtain⟨u',hu,ru⟩:=jc.some_of (v:=v) (o:=mA f) (by rw[<- l];exact r f);exact K5 I1.jz c n g1 g2 g3 g4 n1 hu (PY ru) ⟨v,H1,I1.tok _,ru,q⟩
end
end L2
namespace MF
open PySem L2
inductive T where
 |bH | bl (b:Bool) | int (i:Int) | str (x:Str) | lst (ts:List T) | tup (ts:List T) | dic (kvs:List (bZ×T)) | obj (k:Nat)
inductive cg where
 |lst (ts:List T) | dic (kvs:List (bZ×T)) | ins (C:ai) (fs:List (Str×T)) | exc (C:ai) (fs:Option (List (Str×T))) | lck (kvs:List (bZ×T))
abbrev bI:=List cg
structure Wd where
 HS:Hp
 μ:Nat->ai
 n:Nat
 Z:ai->Option (Obj×HO)
 P:Hp
structure Wd.le(W W':Wd):Prop where
 hs:∀a o,W.HS a=aa o->W'.HS a=aa o
 z:∀a o,W.Z a=aa o->W'.Z a=aa o
 p:∀a o,W.P a=aa o->W'.P a=aa o
 n:W.n<=W'.n
 μ:∀k,k<W.n->W'.μ k=W.μ k
theorem Wd.le.refl(W:Wd):W.le W:=⟨λ_ _ h=>h,λ_ _ h=>h,λ_ _ h=>h,az _,λ_ _=>rfl⟩
theorem Wd.le.trans{W W1 W2:Wd}(a:W.le W1)(b:W1.le W2):W.le W2:=
 ⟨λx o h=>b.hs x o (a.hs x o h),λx o h=>b.z x o (a.z x o h),λx o h=>b.p x o (a.p x o h),bz a.n b.n,λk h=>(b.μ k (ax h a.n)).trans (a.μ k h)⟩
mutual
def cz(W:Wd):T->V->Prop
 |.bH,v=>v=.bH
 |.bl b,v=>v=.bl b
 |.int i,v=>v=.int i
 |.str x,v=>v=.str x
 |.lst ts,v=>∃a vs,v=.ref a/\W.HS a=aa (.lst vs)/\aW W ts vs
 |.tup ts,v=>∃a vs,v=.ref a/\W.HS a=aa (.tup vs)/\aW W ts vs
 |.dic kvs,v=>∃a ks,v=.ref a/\W.HS a=aa (.dK ks)/\bQ W kvs ks
 |.obj k,v=>v=.ref (W.μ k)/\k<W.n
def aW(W:Wd):List T->List V->Prop
 |[],vs=>vs=[]
 |t::ts,vs=>∃v r,vs=v::r/\cz W t v/\aW W ts r
def bQ(W:Wd):List (bZ×T)->List (bZ×V)->Prop
 |[],vs=>vs=[]
 |(k,t)::ts,vs=>∃v r,vs=(k,v)::r/\cz W t v/\bQ W ts r
end
mutual
theorem cz.mono{W W':Wd}(l:W.le W'):∀(t:T) (v:V),cz W t v->cz W' t v
 |.bH,_,h=>by simpa[cz] using h
 |.bl _,_,h=>by simpa[cz] using h
 |.int _,_,h=>by simpa[cz] using h
 |.str _,_,h=>by simpa[cz] using h
 | .lst ts,v,h=>by
   obtain⟨a,vs,e,h1,h2⟩:=(by simpa only[cz] using h:∃a vs,v=.ref a/\W.HS a=aa (.lst vs)/\aW W ts vs);simp only[cz];exact⟨a,vs,e,l.hs _ _ h1,aW.mono l ts vs h2⟩
 | .tup ts,v,h=>by
   obtain⟨a,vs,e,h1,h2⟩:=(by simpa only[cz] using h:∃a vs,v=.ref a/\W.HS a=aa (.tup vs)/\aW W ts vs);simp only[cz];exact⟨a,vs,e,l.hs _ _ h1,aW.mono l ts vs h2⟩
 | .dic ks,v,h=>by
   obtain⟨a,vs,e,h1,h2⟩:=(by simpa only[cz] using h:∃a vs,v=.ref a/\W.HS a=aa (.dK vs)/\bQ W ks vs);simp only[cz];exact⟨a,vs,e,l.hs _ _ h1,bQ.mono l ks vs h2⟩
 | .obj k,v,h=>by
   obtain⟨e,h1⟩:=(by simpa only[cz] using h:v=.ref (W.μ k)/\k<W.n);simp only[cz];exact⟨by rw[l.μ k h1];exact e,ax h1 l.n⟩
theorem aW.mono{W W':Wd}(l:W.le W'):∀(ts:List T) (vs:List V),aW W ts vs->aW W' ts vs
 |[],vs,h=>by simpa only[aW] using h
 | t::ts,vs,h=>by
   obtain⟨v,r,e,h1,h2⟩:=(by simpa only[aW] using h:∃v r,vs=v::r/\cz W t v/\aW W ts r);simp only[aW];exact⟨v,r,e,cz.mono l t v h1,aW.mono l ts r h2⟩
theorem bQ.mono{W W':Wd}(l:W.le W'):∀(ts:List (bZ×T)) (vs:List (bZ×V)),bQ W ts vs->bQ W' ts vs
 |[],vs,h=>by simpa only[bQ] using h
 | (k,t)::ts,vs,h=>by
   obtain⟨v,r,e,h1,h2⟩:=(by simpa only[bQ] using h:∃v r,vs=(k,v)::r/\cz W t v/\bQ W ts r);simp only[bQ];exact⟨v,r,e,cz.mono l t v h1,bQ.mono l ts r h2⟩
end
section
variable {W:Wd}
theorem o5{v:V}:cz W .bH v↔v=.bH:=by simp only[cz]
theorem jB{b:Bool}{v:V}:cz W (.bl b) v↔v=.bl b:=by simp only[cz]
theorem jC{i:Int}{v:V}:cz W (.int i) v↔v=.int i:=by simp only[cz]
theorem nu{x:Str}{v:V}:cz W (.str x) v↔v=.str x:=by simp only[cz]
theorem rP{ts:List T}{v:V}:cz W (.lst ts) v↔∃a vs,v=.ref a/\W.HS a=aa (.lst vs)/\aW W ts vs:=by simp only[cz]
theorem rQ{ts:List T}{v:V}:cz W (.tup ts) v↔∃a vs,v=.ref a/\W.HS a=aa (.tup vs)/\aW W ts vs:=by simp only[cz]
theorem xl{ts:List (bZ×T)}{v:V}:cz W (.dic ts) v↔∃a vs,v=.ref a/\W.HS a=aa (.dK vs)/\bQ W ts vs:=by simp only[cz]
theorem nQ{k:Nat}{v:V}:cz W (.obj k) v↔v=.ref (W.μ k)/\k<W.n:=by simp only[cz]
theorem oq{vs:List V}:aW W [] vs↔vs=[]:=by simp only[aW]
theorem nv{t:T}{ts:List T}{vs:List V}:aW W (t::ts) vs↔∃v r,vs=v::r/\cz W t v/\aW W ts r:=by simp only[aW]
theorem qV{vs:List (bZ×V)}:bQ W [] vs↔vs=[]:=by simp only[bQ]
theorem sJ{k:bZ}{t:T}{ts:List (bZ×T)}{vs:List (bZ×V)}:bQ W ((k,t)::ts) vs↔∃v r,vs=(k,v)::r/\cz W t v/\bQ W ts r:=by simp only[bQ]
theorem aW.gb:aW W [] []:=oq.mpr rfl
theorem aW.eB{t:T}{ts:List T}{v:V}{vs:List V}(h:cz W t v)(r:aW W ts vs):aW W (t::ts) (v::vs):=nv.mpr ⟨v,vs,rfl,h,r⟩
theorem aW.length:∀{ts:List T} {vs:List V},aW W ts vs->ts.length=vs.length
 |[],vs,h=>by rw[oq.mp h];rfl
 | t::ts,vs,h=>by
   obtain⟨v,r,e,_,h2⟩:=nv.mp h;subst e;simp[aW.length h2]
theorem aW.get:∀{ts:List T} {vs:List V} {i:Nat} {t:T},aW W ts vs->ts[i]?=aa t->∃v,vs[i]?=aa v/\cz W t v
 |[],_,_,_,_,e=>by simp at e
 | t0::ts,vs,i,t,h,e=>by
   obtain⟨v,r,rfl,h1,h2⟩:=nv.mp h;cases i with
   |zero=>simp at e;subst e;exact⟨v,rfl,h1⟩
   | succ i=>
     obtain⟨v',e1,e2⟩:=aW.get (i:=i) h2 (by simpa using e);exact⟨v',by simpa using e1,e2⟩
theorem aW.get':∀{ts:List T} {vs:List V} {i:Nat} {v:V},aW W ts vs->vs[i]?=aa v->∃t,ts[i]?=aa t/\cz W t v
 |[],_,_,_,h,e=>by rw[oq.mp h] at e;simp at e
 | t0::ts,vs,i,v',h,e=>by
   obtain⟨v,r,rfl,h1,h2⟩:=nv.mp h;cases i with
   |zero=>simp at e;subst e;exact⟨t0,rfl,h1⟩
   | succ i=>
     obtain⟨t,e1,e2⟩:=aW.get' (i:=i) h2 (by simpa using e);exact⟨t,by simpa using e1,e2⟩
theorem aW.append:∀{ts us:List T} {vs ws:List V},aW W ts vs->aW W us ws->aW W (ts++us) (vs++ws)
 |[],_,_,_,h,g=>by rw[oq.mp h];exact g
 | t::ts,us,vs,ws,h,g=>by
   obtain⟨v,r,rfl,h1,h2⟩:=nv.mp h;exact aW.eB h1 (aW.append h2 g)
theorem aW.set{t:T}{v:V}(hv:cz W t v):∀{ts:List T} {vs:List V} (i:Nat),aW W ts vs->aW W (ts.set i t) (vs.set i v)
 |[],_,_,h=>by rw[oq.mp h];exact aW.gb
 | t::ts,vs,i,h=>by
   obtain⟨v,r,rfl,h1,h2⟩:=nv.mp h;cases i with
   |zero=>exact aW.eB hv h2
   |succ i=>exact aW.eB h1 (aW.set hv i h2)
theorem aW.take:∀{ts:List T} {vs:List V} (i:Nat),aW W ts vs->aW W (ts.take i) (vs.take i)
 |ts,vs,0,_=>by simpa using aW.gb
 |[],_,_,h=>by rw[oq.mp h];simpa using aW.gb
 | t::ts,vs,i+1,h=>by
   obtain⟨v,r,rfl,h1,h2⟩:=nv.mp h;exact aW.eB h1 (aW.take i h2)
theorem aW.drop:∀{ts:List T} {vs:List V} (i:Nat),aW W ts vs->aW W (ts.drop i) (vs.drop i)
 |ts,vs,0,h=>by simpa using h
 |[],_,_,h=>by rw[oq.mp h];simpa using aW.gb
 | t::ts,vs,i+1,h=>by
   obtain⟨v,r,rfl,h1,h2⟩:=nv.mp h;simpa using aW.drop i h2
theorem aW.eraseIdx:∀{ts:List T} {vs:List V} (i:Nat),aW W ts vs->aW W (ts.eraseIdx i) (vs.eraseIdx i)
 |[],_,_,h=>by rw[oq.mp h];simpa using aW.gb
 | t::ts,vs,i,h=>by
   obtain⟨v,r,rfl,h1,h2⟩:=nv.mp h;cases i with
   |zero=>exact h2
   |succ i=>exact aW.eB h1 (aW.eraseIdx i h2)
theorem bQ.length:∀{ts:List (bZ×T)} {vs:List (bZ×V)},bQ W ts vs->ts.length=vs.length
 |[],vs,h=>by rw[qV.mp h];rfl
 | (k,t)::ts,vs,h=>by
   obtain⟨v,r,e,_,h2⟩:=sJ.mp h;subst e;simp[bQ.length h2]
theorem bQ.gb:bQ W [] []:=qV.mpr rfl
theorem bQ.eB{k:bZ}{t:T}{ts:List (bZ×T)}{v:V}{vs:List (bZ×V)}(h:cz W t v)(r:bQ W ts vs):bQ W ((k,t)::ts) ((k,v)::vs):=sJ.mpr ⟨v,vs,rfl,h,r⟩
end
def fj(W:Wd):List (Str×T)->List (Str×V)->Prop
 |[],vs=>vs=[]
 |(k,t)::ts,vs=>∃v r,vs=(k,v)::r/\cz W t v/\fj W ts r
theorem fj.mono{W W':Wd}(l:W.le W'):∀{ts:List (Str×T)} {vs:List (Str×V)},fj W ts vs->fj W' ts vs
 |[],_,h=>h
 | (k,t)::ts,vs,h=>by
   obtain⟨v,r,e,h1,h2⟩:=h;exact⟨v,r,e,cz.mono l _ _ h1,fj.mono l h2⟩
theorem fj.length{W:Wd}:∀{ts:List (Str×T)} {vs:List (Str×V)},fj W ts vs->ts.length=vs.length
 |[],_,h=>by rw[show _=[] from h];rfl
 | (k,t)::ts,vs,h=>by
   obtain⟨v,r,rfl,h1,h2⟩:=h;simp[fj.length h2]
def XP(W:Wd):Option ai->Option (List (Str×T))->Prop
 |none,ae=>True
 |some d,aa fs=>∃ks,W.P d=aa (.xd ks)/\fj W fs ks
 |_,_=>False
theorem XP.mono{W W':Wd}(l:W.le W'):∀{dx:Option ai} {fs:Option (List (Str×T))},XP W dx fs->XP W' dx fs
 |none,ae,_=>trivial
 |some _,aa _,⟨ks,h1,h2⟩=>⟨ks,l.p _ _ h1,fj.mono l h2⟩
 |none,aa _,h=>h.elim
 |some _,ae,h=>h.elim
def k_(W:Wd)(H:Hp)(a:ai):cg->Prop
 |.lst ts=>∃vs,H a=aa (.lst vs)/\aW W ts vs
 |.dic kvs=>∃ks,H a=aa (.dK ks)/\bQ W kvs ks
 |.ins C fs=>∃dx ks,H a=aa (.ins C dx ks)/\fj W fs ks
 |.exc C fs=>∃dx,H a=aa (oH a C dx)/\XP W dx fs
 |.lck kvs=>∃o ks,H a=aa (.eL o (.dK ks))/\bQ W kvs ks
theorem k_.mono{W W':Wd}(l:W.le W'){H:Hp}{a:ai}:∀{c:cg},k_ W H a c->k_ W' H a c
 |.lst ts,⟨vs,h1,h2⟩=>⟨vs,h1,aW.mono l _ _ h2⟩
 |.dic ts,⟨vs,h1,h2⟩=>⟨vs,h1,bQ.mono l _ _ h2⟩
 |.ins C ts,⟨dx,vs,h1,h2⟩=>⟨dx,vs,h1,fj.mono l h2⟩
 |.exc C fs,⟨dx,h1,h2⟩=>⟨dx,h1,h2.mono l⟩
 |.lck ts,⟨o,vs,h1,h2⟩=>⟨o,vs,h1,bQ.mono l _ _ h2⟩
theorem k_.at{W:Wd}{H H':Hp}{a:ai}(e:H' a=H a):∀{c:cg},k_ W H a c->k_ W H' a c
 |.lst ts,⟨vs,h1,h2⟩=>⟨vs,e.trans h1,h2⟩
 |.dic ts,⟨vs,h1,h2⟩=>⟨vs,e.trans h1,h2⟩
 |.ins C ts,⟨dx,vs,h1,h2⟩=>⟨dx,vs,e.trans h1,h2⟩
 |.exc C ts,⟨dx,h1,h2⟩=>⟨dx,e.trans h1,h2⟩
 |.lck ts,⟨o,vs,h1,h2⟩=>⟨o,vs,e.trans h1,h2⟩
theorem k_.some{W:Wd}{H:Hp}{a:ai}:∀{c:cg},k_ W H a c->∃o,H a=aa o/\∀y,o≠.own y
 |.lst ts,⟨vs,h1,h2⟩=>⟨_,h1,(by intro _ z;cases z)⟩
 |.dic ts,⟨vs,h1,h2⟩=>⟨_,h1,(by intro _ z;cases z)⟩
 |.ins C ts,⟨dx,vs,h1,h2⟩=>⟨_,h1,(by intro _ z;cases z)⟩
 |.exc C ts,⟨dx,h1,h2⟩=>⟨_,h1,(by intro _ z;cases z)⟩
 |.lck ts,⟨o,vs,h1,h2⟩=>⟨_,h1,(by intro _ z;cases z)⟩
def GX:HO->Prop
 |.eL _ _=>False
 |_=>True
def qf(H:Hp)(a:ai)(o:HO):Prop:=H a=aa o\/((∃q,H a=aa (.eL q o))/\∀xs,o≠.tup xs)
theorem qf.rd{H:Hp}{a:ai}{o:HO}(h:qf H a o):Rd H a o:=by
 rcases h with h | ⟨h,_⟩
 .exact .inl h
 .exact .inr h
theorem qf.ex{H:Hp}{a:ai}{o:HO}(h:qf H a o):∃u,H a=aa u:=by
 rcases h with h | ⟨⟨q,h⟩,_⟩
 .exact⟨_,h⟩
 .exact⟨_,h⟩
theorem qf.at{H H':Hp}{a:ai}{o:HO}(e:H' a=H a)(h:qf H a o):qf H' a o:=by
 rcases h with h | ⟨⟨q,h⟩,n⟩
 .exact .inl (e.trans h)
 .exact .inr ⟨⟨q,e.trans h⟩,n⟩
theorem qf.tup{H:Hp}{a:ai}{xs:List V}(h:qf H a (.tup xs)):H a=aa (.tup xs):=by
 rcases h with h | ⟨_,n⟩
 .exact h
 .exact absurd rfl (n xs)
structure cQ(W:Wd)(S:bI)(H:Hp):Prop where
 sub:∀a o,W.HS a=aa o->qf H a o/\GX o
 len:S.length=W.n
 cell:∀k c,S[k]?=aa c->k_ W H (W.μ k) c/\W.HS (W.μ k)=ae
 inj:∀j k,j<W.n->k<W.n->W.μ j=W.μ k->j=k
 zed:∀a q,W.Z a=aa q->H a=aa (.eL q.1 q.2)
 prv:∀a o,W.P a=aa o->H a=aa o/\W.HS a=ae/\∀k,k<W.n->W.μ k≠a
theorem cQ.lt{W:Wd}{S:bI}{H:Hp}(r:cQ W S H){k:Nat}{c:cg}(h:S[k]?=aa c):k<W.n:=by
 rw[<- r.len];exact(aB.mp h).1
inductive R(α:Type) where
 |ok (a:α) (S:bI)
 |exc (C:ai) (fs:Option (List (Str×T))) (S:bI)
 |bad
abbrev M(α:Type):=bI->R α
noncomputable def M.pure{α:Type}(a:α):M α:=λS=>.ok a S
noncomputable def M.bind{α β:Type}(m:M α)(f:α->M β):M β:=λS=>match m S with
 |.ok a S'=>f a S'
 |.exc C fs S'=>.exc C fs S'
 |.bad=>.bad
noncomputable def M.bad{α:Type}:M α:=λ_=>.bad
def GY(W:Wd)(H:Hp):Option ai->Option (List (Str×T))->Prop
 |none,ae=>True
 |some d,aa fs=>∃ks,H d=aa (.xd ks)/\W.HS d=ae/\fj W fs ks
 |_,_=>False
def bq{α:Type}(E:XK)(W:Wd)(Q:α->Wd->bI->Hp->Prop):R α->Prop
 |.ok a S'=>∀W' H',W.le W'->cQ W' S' H'->Q a W' S' H'
 |.exc C fs S'=>∀W' H' dx,W.le W'->cQ W' S' H'->GY W' H' dx fs->E (.ref C) dx H'
 |.bad=>False
theorem bq.imp{α:Type}{E:XK}{W:Wd}{Q Q':α->Wd->bI->Hp->Prop}{r:R α}(h:bq E W Q r)(f:∀a W' S' H',W.le W'->cQ W' S' H'->Q a W' S' H'->Q' a W' S' H'):bq E W Q' r:=by
 cases r with
 |ok a S=>exact λW' H' l rp=>f a W' S H' l rp (h W' H' l rp)
 |exc C fs S=>exact h
 |bad=>exact h
theorem bq.bind{α β:Type}{E:XK}{W:Wd}{Q:β->Wd->bI->Hp->Prop}{m:M α}{f:α->M β}{S:bI}(h:bq E W Q (M.bind m f S)) :
  bq E W (λa W1 S1 _=>bq E W1 Q (f a S1)) (m S):=by
 unfold M.bind at h;cases e:m S with
 | ok a S1=>
   rw[e] at h;have h:bq E W Q (f a S1):=h;intro W1 H1 l _;show bq E W1 Q (f a S1);cases e2:f a S1 with
   |ok b S2=>rw[e2] at h;exact λW2 H2 l2 rp=>h W2 H2 (l.trans l2) rp
   |exc C fs S2=>rw[e2] at h;exact λW2 H2 dx l2 rp=>h W2 H2 dx (l.trans l2) rp
   |bad=>rw[e2] at h;exact h
 |exc C fs S1=>rw[e] at h;exact h
 |bad=>rw[e] at h;exact h
abbrev Ev:=List (Option T)
def Ec(W:Wd):Option T->Option V->Prop
 |none,_=>True
 |some t,aa v=>cz W t v
 |some _,ae=>False
def gf(W:Wd):Ev->St->Prop
 |[],σ=>σ=[]
 |o::ρ,σ=>∃s r,σ=s::r/\Ec W o s/\gf W ρ r
theorem Ec.mono{W W':Wd}(l:W.le W'):∀{o:Option T} {s:Option V},Ec W o s->Ec W' o s
 |none,_,_=>trivial
 |some t,aa v,h=>cz.mono l t v h
theorem gf.mono{W W':Wd}(l:W.le W'):∀{ρ:Ev} {σ:St},gf W ρ σ->gf W' ρ σ
 |[],_,h=>h
 |o::ρ,σ,⟨s,r,e,h1,h2⟩=>⟨s,r,e,h1.mono l,h2.mono l⟩
theorem gf.get{W:Wd}:∀{ρ:Ev} {σ:St} {i:Nat} {t:T},gf W ρ σ->ρ[i]?=aa (aa t)->∃v,σ[i]?=aa (aa v)/\cz W t v
 |[],_,_,_,_,e=>by simp at e
 | o :: ρ,σ,i,t,⟨s,r,e0,h1,h2⟩,e=>by
   subst e0;cases i with
   | zero=>
     simp at e;subst e;cases s with
     |none=>exact h1.elim
     |some v=>exact⟨v,rfl,h1⟩
   | succ i=>
     obtain⟨v,e1,e2⟩:=gf.get (i:=i) h2 (by simpa using e);exact⟨v,by simpa using e1,e2⟩
theorem gf.set{W:Wd}{t:T}{v:V}(hv:cz W t v):∀{ρ:Ev} {σ:St} (i:Nat),gf W ρ σ->gf W (ρ.set i (aa t)) (σ.set i (aa v))
 |[],σ,i,h=>by rw[show σ=[] from h];exact rfl
 | o::ρ,σ,i,⟨s,r,e0,h1,h2⟩=>by
   subst e0;cases i with
   |zero=>exact⟨_,_,rfl,hv,h2⟩
   |succ i=>exact⟨_,_,rfl,h1,gf.set hv i h2⟩
theorem gf.append{W:Wd}:∀{ρ ρ':Ev} {σ σ':St},gf W ρ σ->gf W ρ' σ'->gf W (ρ++ρ') (σ++σ')
 |[],_,σ,_,h,g=>by rw[show σ=[] from h];exact g
 | o::ρ,ρ',σ,σ',⟨s,r,e0,h1,h2⟩,g=>by
   subst e0;exact⟨_,_,rfl,h1,gf.append h2 g⟩
theorem gf.zh{W:Wd}{σ:St}:∀(n:Nat),σ.length=n->gf W (aS n ae) σ:=by
 induction σ with
 |nil=>intro n h;subst h;exact rfl
 | cons s σ ih=>
   intro n h;subst h;exact⟨s,σ,rfl,trivial,ih _ rfl⟩
theorem gf.vq{W:Wd}:∀{ts:List T} {vs:List V},aW W ts vs->gf W (ts.map aa) (vs.map aa)
 |[],vs,h=>by rw[oq.mp h];exact rfl
 | t::ts,vs,h=>by
   obtain⟨v,r,rfl,h1,h2⟩:=nv.mp h;exact⟨_,_,rfl,h1,gf.vq h2⟩
theorem gf.D3{W:Wd}{ρ:Ev}{σ:St}(h:gf W ρ σ):∀(js:List Nat),gf W (js.map λj=>(ρ[j]?).join) (ze σ js)
 |[]=>rfl
 | j :: js=>by
   refine⟨_,_,rfl,?_,gf.D3 h js⟩;show Ec W ((ρ[j]?).join) ((σ[j]?).join);cases e:ρ[j]? with
   |none=>exact trivial
   | some o=>
     cases o with
     |none=>exact trivial
     | some t=>
       obtain⟨v,e1,h1⟩:=h.get e;rw[e1];exact h1
abbrev DE:=Ev->M T
abbrev DT:=Ev->M Bool
abbrev DA:=Ev->M (List T)
inductive Fl where
 |nx (ρ:Ev) | rt (t:T) | bk (ρ:Ev) | ct (ρ:Ev)
abbrev DS:=Ev->M Fl
abbrev QV(Q:VK):T->Wd->bI->Hp->Prop:=λt W' _ H'=>∀v,cz W' t v->Q v H'
def RE(E:XK)(f:DE):TE:=fun σ H Q=>∃W S ρ,cQ W S H/\gf W ρ σ/\bq E W (QV Q) (f ρ S)
def RT(E:XK)(f:DT):TT:=fun σ H Q=>∃W S ρ,cQ W S H/\gf W ρ σ/\bq E W (λb _ _ H'=>Q b H') (f ρ S)
def RA(E:XK)(f:DA):TA:=fun σ H Q=>∃W S ρ,cQ W S H/\gf W ρ σ/\bq E W (λts W' _ H'=>∀vs,aW W' ts vs->Q vs H') (f ρ S)
def QF(D:Ends):Fl->Wd->bI->Hp->Prop
 |.nx ρ',W',_,H'=>∀σ',gf W' ρ' σ'->D.nx σ' H'
 |.rt t,W',_,H'=>∀v,cz W' t v->D.rt v H'
 |.bk ρ',W',_,H'=>∀σ',gf W' ρ' σ'->D.bk σ' H'
 |.ct ρ',W',_,H'=>∀σ',gf W' ρ' σ'->D.ct σ' H'
def RS(E:XK)(f:DS):TS:=λD σ H=>∃W S ρ,cQ W S H/\gf W ρ σ/\bq E W (QF D) (f ρ S)
theorem iQ{X:Cx}{e:bt}{t t':TE}(h:PE X e t)(w:∀σ H Q,t' σ H Q->t σ H Q):PE X e t':=λag s σ H Q I q=>h ag s σ H Q I (w σ H Q q)
theorem Ed{X:Cx}{e:bt}{t t':TT}(h:PT X e t)(w:∀σ H Q,t' σ H Q->t σ H Q):PT X e t':=λag s σ H Q I q=>h ag s σ H Q I (w σ H Q q)
theorem Rj{X:Cx}{e:List bt}{t t':TA}(h:PA X e t)(w:∀σ H Q,t' σ H Q->t σ H Q):PA X e t':=λp ag s σ H Q I q=>h p ag s σ H Q I (w σ H Q q)
theorem tO{X:Cx}{st:bR}{t t':TS}(h:PS X st t)(w:∀D σ H,t' D σ H->t D σ H):PS X st t':=λag s σ H D I q=>h ag s σ H D I (w D σ H q)
theorem Rk{X:Cx}{st:List bR}{t t':TS}(h:k8 X st t)(w:∀D σ H,t' D σ H->t D σ H):k8 X st t':=λag s σ H D I q=>h ag s σ H D I (w D σ H q)
section
variable {W:Wd}{S:bI}{H:Hp}
theorem cQ.jq(r:cQ W S H){p:ai}(h:H p=ae):W.HS p=ae:=by
 cases e:W.HS p with
 |none=>rfl
 | some o=>
   obtain⟨u,z⟩:=(r.sub p o e).1.ex;rw[h] at z;cases z
theorem cQ.cellAt(r:cQ W S H){k:Nat}(h:k<W.n):∃c,S[k]?=aa c:=by
 rw[<- r.len] at h;exact⟨S[k],bf h⟩
theorem cQ.μne(r:cQ W S H){p:ai}(h:H p=ae){k:Nat}(hk:k<W.n):W.μ k≠p:=by
 intro e;obtain⟨c,hc⟩:=r.cellAt hk;obtain⟨o,ho,_⟩:=(r.cell k c hc).1.some;rw[e,h] at ho;cases ho
noncomputable def Wd.eL(W:Wd)(p:ai)(o:HO):Wd:=⟨upd W.HS p o,W.μ,W.n,W.Z,W.P⟩
theorem Wd.lg{p:ai}{o:HO}(h:W.HS p=ae):W.le (W.eL p o):=⟨λa u e=>by
 show upd W.HS p o a=aa u;rw[dh (λz=>by rw[z,h] at e;cases e)];exact e,λ_ _ e=>e,λ_ _ e=>e,az _,λ_ _=>rfl⟩
theorem qf.upd{p a:ai}{o u:HO}(hp:H p=ae)(h:qf H a u):qf (upd H p o) a u:=by
 obtain⟨w,z⟩:=h.ex;exact h.at (dh (sE z hp))
theorem cQ.extra(r:cQ W S H){p:ai}(hp:H p=ae)(o:HO):cQ W S (upd H p o) where
 sub:=λa u e=>⟨qf.upd hp (r.sub a u e).1,(r.sub a u e).2⟩
 len:=r.len
 cell:=λk c e=>⟨(r.cell k c e).1.at (dh (r.μne hp (r.lt e))),(r.cell k c e).2⟩
 inj:=r.inj
 zed:=λa q e=>by
  have h2:=r.zed a q e;rw[dh (sE h2 hp)];exact h2
 prv:=λa q e=>by
  obtain⟨h1,h2⟩:=r.prv a q e;exact⟨by rw[dh (sE h1 hp)];exact h1,h2⟩
theorem cQ.eL(r:cQ W S H){p:ai}(hp:H p=ae)(o:HO)(no:GX o):cQ (W.eL p o) S (upd H p o) where
 sub:=λa u e=>by
  by_cases z:a=p
  .subst z
   have e:upd W.HS a o a=aa u:=e;rw[fX] at e;cases e;exact⟨.inl fX,no⟩
  .have e:upd W.HS p o a=aa u:=e
   rw[dh z] at e;exact⟨qf.upd hp (r.sub a u e).1,(r.sub a u e).2⟩
 len:=r.len
 cell:=λk c e=>⟨((r.cell k c e).1.at (dh (r.μne hp (r.lt e)))).mono (Wd.lg (r.jq hp)),by
  show upd W.HS p o (W.μ k)=ae;rw[dh (r.μne hp (r.lt e))];exact(r.cell k c e).2⟩
 inj:=r.inj
 zed:=λa q e=>by
  have h2:=r.zed a q e;rw[dh (sE h2 hp)];exact h2
 prv:=λa q e=>by
  obtain⟨h1,h2,h3⟩:=r.prv a q e;have ne:=sE h1 hp;exact⟨by rw[dh ne];exact h1,by show upd W.HS p o a=ae;rw[dh ne];exact h2,h3⟩
noncomputable def Wd.add(W:Wd)(p:ai):Wd:=⟨W.HS,λk=>if k=W.n then p else W.μ k,W.n+1,W.Z,W.P⟩
theorem Wd.i7{p:ai}:W.le (W.add p):=⟨λ_ _ e=>e,λ_ _ e=>e,λ_ _ e=>e,jk _,λk h=>by
 show(if k=W.n then p else W.μ k)=W.μ k;rw[if_neg (aQ h)]⟩
theorem Wd.i8{p:ai}:(W.add p).μ W.n=p:=by show(if W.n=W.n then p else _)=p;rw[if_pos rfl]
theorem Wd.km{p:ai}{k:Nat}(h:k<W.n):(W.add p).μ k=W.μ k:=Wd.i7.μ k h
theorem cQ.qH(r:cQ W S H){p:ai}{H':Hp}(hp:H p=ae)(keep:∀a o,H a=aa o->H' a=aa o)(c:cg)(hc:k_ (W.add p) H' p c):cQ (W.add p) (S++[c]) H' where
 sub:=λa u e=>by
  obtain⟨h1,h2⟩:=r.sub a u e;obtain⟨w,z⟩:=h1.ex;exact⟨h1.at ((keep _ _ z).trans z.symm),h2⟩
 len:=by rw[aO,ba,r.len];rfl
 cell:=λk c' e=>by
  by_cases z:k<S.length
  .rw[aG z] at e
   have hk:k<W.n:=r.len▸z;rw[Wd.km hk];obtain⟨h1,h2⟩:=r.cell k c' e;obtain⟨o,ho,_⟩:=h1.some;exact⟨(h1.at ((keep _ _ ho).trans ho.symm)).mono Wd.i7,h2⟩
  .have hk:k=W.n:=by
    have:=(aB.mp e).1;rw[aO,ba] at this;have l:=r.len;omega
   subst hk;rw[<- r.len,c8 (az _),ki] at e;have e:c=c':=by simpa using e
   subst e;rw[Wd.i8];exact⟨hc,r.jq hp⟩
 inj:=λj k hj hk e=>by
  have hj:j<W.n+1:=hj;have hk:k<W.n+1:=hk;by_cases z:j<W.n
  .by_cases y:k<W.n
   .rw[Wd.km z,Wd.km y] at e;exact r.inj j k z y e
   .have:k=W.n:=by omega
    subst this;rw[Wd.km z,Wd.i8] at e;exact absurd e (r.μne hp z)
  .have:j=W.n:=by omega
   subst this;by_cases y:k<W.n
   .rw[Wd.km y,Wd.i8] at e
    exact absurd e.symm (r.μne hp y)
   .omega
 zed:=λa q e=>by
  exact keep _ _ (r.zed a q e)
 prv:=λa q e=>by
  obtain⟨h1,h2,h3⟩:=r.prv a q e;refine⟨keep _ _ h1,h2,λk hk z=>?_⟩;have hk:k<W.n+1:=hk;by_cases y:k<W.n
  .rw[Wd.km y] at z;exact h3 k y z
  .have:k=W.n:=by omega
   subst this;rw[Wd.i8] at z;rw[z,h1] at hp;cases hp
theorem cQ.lM(r:cQ W S H){p:ai}(hp:H p=ae)(c:cg)(o:HO)(hc:k_ (W.add p) (upd H p o) p c):cQ (W.add p) (S++[c]) (upd H p o):=
 r.qH hp (λa u e=>by rw[dh (sE e hp)];exact e) c hc
theorem cQ.K8(r:cQ W S H){k:Nat}{c:cg}(h:S[k]?=aa c)(nl:∀kvs,c≠.lck kvs):W.Z (W.μ k)=ae:=by
 cases e:W.Z (W.μ k) with
 |none=>rfl
 | some q=>
   have z:=r.zed _ _ e;have y:=(r.cell k c h).1;cases c with
   |lst ts=>obtain⟨_,h1,_⟩:=y;rw[z] at h1;cases h1
   |dic ts=>obtain⟨_,h1,_⟩:=y;rw[z] at h1;cases h1
   |ins _ ts=>obtain⟨_,_,h1,_⟩:=y;rw[z] at h1;cases h1
   |exc _ ts=>obtain⟨_,h1,_⟩:=y;rw[z] at h1;cases h1
   |lck ts=>exact absurd rfl (nl ts)
theorem cQ.cellSet(r:cQ W S H){k:Nat}{c:cg}(h:S[k]?=aa c)(c':cg)(o:HO)(hc:k_ W (upd H (W.μ k) o) (W.μ k) c')(nz:W.Z (W.μ k)=ae:=by
  exact cQ.K8 (by assumption) (by assumption) (by intro _ z;cases z)):cQ W (S.set k c') (upd H (W.μ k) o) where
 sub:=λa u e=>by
  have ne:a≠W.μ k:=λz=>by rw[z,(r.cell k c h).2] at e;cases e
  exact⟨(r.sub a u e).1.at (dh ne),(r.sub a u e).2⟩
 len:=by rw[gA];exact r.len
 cell:=λj c2 e=>by
  by_cases z:j=k
  .subst z
   have hj:=r.lt h;rw[c6 (by rw[r.len];exact hj)] at e;cases e;exact⟨hc,(r.cell j c h).2⟩
  .rw[cm (bP z)] at e
   have hj:=r.lt e;exact⟨(r.cell j c2 e).1.at (dh λy=>z (r.inj j k hj (r.lt h) y)),(r.cell j c2 e).2⟩
 inj:=r.inj
 zed:=λa q e=>by
  rw[dh λz=>by rw[z,nz] at e;cases e];exact r.zed a q e
 prv:=λa q e=>by
  obtain⟨h1,h2,h3⟩:=r.prv a q e;exact⟨by rw[dh (bP (h3 k (r.lt h)))];exact h1,h2,h3⟩
noncomputable def Wd.mX(W:Wd)(p:ai)(o:HO):Wd:=⟨W.HS,W.μ,W.n,W.Z,upd W.P p o⟩
theorem Wd.sL{p:ai}{o:HO}(h:W.P p=ae):W.le (W.mX p o):=⟨λ_ _ e=>e,λ_ _ e=>e,λa u e=>by
 show upd W.P p o a=aa u;rw[dh (λz=>by rw[z,h] at e;cases e)];exact e,az _,λ_ _=>rfl⟩
theorem cQ.xm(r:cQ W S H){p:ai}(h:H p=ae):W.P p=ae:=by
 cases e:W.P p with
 |none=>rfl
 |some o=>rw[(r.prv p o e).1] at h;cases h
theorem cQ.lN{W':Wd}{H':Hp}(r:cQ W S H)(hs:W'.HS=W.HS)(hμ:W'.μ=W.μ)(hn:W'.n=W.n)(hz:W'.Z=W.Z)(c:∀{k:Nat} {c:cg},S[k]?=aa c->k_ W H (W.μ k) c->k_ W' H' (W.μ k) c)
  (sub:∀a o,W.HS a=aa o->qf H a o->qf H' a o) (z:∀a o u,W.Z a=aa (o,u)->H a=aa (.eL o u)->H' a=aa (.eL o u))
  (prv:∀a o,W'.P a=aa o->H' a=aa o/\W.HS a=ae/\∀k,k<W.n->W.μ k≠a):cQ W' S H' where
 sub:=λa o e=>by rw[hs] at e;exact⟨sub a o e (r.sub a o e).1,(r.sub a o e).2⟩
 len:=by rw[hn];exact r.len
 cell:=λk c' e=>by rw[hs,hμ];exact⟨c e (r.cell k c' e).1,(r.cell k c' e).2⟩
 inj:=by rw[hn,hμ];exact r.inj
 zed:=λa o e=>by
  rw[hz] at e;exact z a o.1 o.2 e (r.zed a o e)
 prv:=λa o e=>by rw[hs,hn,hμ];exact prv a o e
mutual
theorem cz.hs{W W':Wd}(hs:W'.HS=W.HS)(hμ:W'.μ=W.μ)(hn:W'.n=W.n):∀(t:T) (v:V),cz W t v->cz W' t v
 |.bH,_,h=>o5.mpr (o5.mp h)
 |.bl _,_,h=>jB.mpr (jB.mp h)
 |.int _,_,h=>jC.mpr (jC.mp h)
 |.str _,_,h=>nu.mpr (nu.mp h)
 |.lst ts,v,h=>by obtain⟨a,vs,e,h1,h2⟩:=rP.mp h;exact rP.mpr ⟨a,vs,e,by rw[hs];exact h1,aW.hs hs hμ hn ts vs h2⟩
 |.tup ts,v,h=>by obtain⟨a,vs,e,h1,h2⟩:=rQ.mp h;exact rQ.mpr ⟨a,vs,e,by rw[hs];exact h1,aW.hs hs hμ hn ts vs h2⟩
 |.dic ts,v,h=>by obtain⟨a,vs,e,h1,h2⟩:=xl.mp h;exact xl.mpr ⟨a,vs,e,by rw[hs];exact h1,bQ.hs hs hμ hn ts vs h2⟩
 |.obj k,v,h=>by obtain⟨e,h1⟩:=nQ.mp h;exact nQ.mpr ⟨by rw[hμ];exact e,by rw[hn];exact h1⟩
theorem aW.hs{W W':Wd}(hs:W'.HS=W.HS)(hμ:W'.μ=W.μ)(hn:W'.n=W.n):∀(ts:List T) (vs:List V),aW W ts vs->aW W' ts vs
 |[],vs,h=>oq.mpr (oq.mp h)
 |t::ts,vs,h=>by obtain⟨v,r,e,h1,h2⟩:=nv.mp h;exact nv.mpr ⟨v,r,e,cz.hs hs hμ hn t v h1,aW.hs hs hμ hn ts r h2⟩
theorem bQ.hs{W W':Wd}(hs:W'.HS=W.HS)(hμ:W'.μ=W.μ)(hn:W'.n=W.n):∀(ts:List (bZ×T)) (vs:List (bZ×V)),bQ W ts vs->bQ W' ts vs
 |[],vs,h=>qV.mpr (qV.mp h)
 |(k,t)::ts,vs,h=>by obtain⟨v,r,e,h1,h2⟩:=sJ.mp h;exact sJ.mpr ⟨v,r,e,cz.hs hs hμ hn t v h1,bQ.hs hs hμ hn ts r h2⟩
end
theorem fj.hs{W W':Wd}(hs:W'.HS=W.HS)(hμ:W'.μ=W.μ)(hn:W'.n=W.n):∀{ts:List (Str×T)} {vs:List (Str×V)},fj W ts vs->fj W' ts vs
 |[],_,h=>h
 |(k,t)::ts,vs,⟨v,r,e,h1,h2⟩=>⟨v,r,e,cz.hs hs hμ hn t v h1,fj.hs hs hμ hn h2⟩
theorem k_.hs{W W':Wd}(hs:W'.HS=W.HS)(hμ:W'.μ=W.μ)(hn:W'.n=W.n)(hp:∀d ks,W.P d=d9 (.xd ks)->W'.P d=d9 (.xd ks)){a:ai}:∀{c:cg},k_ W H a c->k_ W' H a c
 |.lst ts,⟨vs,h1,h2⟩=>⟨vs,h1,aW.hs hs hμ hn _ _ h2⟩
 |.dic ts,⟨vs,h1,h2⟩=>⟨vs,h1,bQ.hs hs hμ hn _ _ h2⟩
 |.ins C ts,⟨dx,vs,h1,h2⟩=>⟨dx,vs,h1,fj.hs hs hμ hn h2⟩
 |.lck ts,⟨o,vs,h1,h2⟩=>⟨o,vs,h1,bQ.hs hs hμ hn _ _ h2⟩
 |.exc C ae,⟨ae,h1,h2⟩=>⟨ae,h1,trivial⟩
 |.exc C (d9 fs),⟨d9 d,h1,⟨ks,h2,h3⟩⟩=>⟨d9 d,h1,ks,hp d ks h2,fj.hs hs hμ hn h3⟩
 |.exc C ae,⟨d9 _,_,h2⟩=>h2.elim
 |.exc C (d9 _),⟨ae,_,h2⟩=>h2.elim
theorem cQ.xn(r:cQ W S H){p:ai}(hp:H p=ae)(o:HO):cQ (W.mX p o) S (upd H p o):=
 r.lN rfl rfl rfl rfl (λe c=>k_.hs (W:=W) (W':=W.mX p o) rfl rfl rfl (λd ks z=>by
  show upd W.P p o d=_;rw[dh (λq=>by have y:=(r.prv d _ z).1;rw[q,hp] at y;cases y)];exact z) (k_.at (dh (r.μne hp (r.lt e))) c)) (λa u _ h=>qf.upd hp h) (λa q u _ h=>by rw[dh (sE h hp)];exact h) λa u e=>by
  have e:upd W.P p o a=aa u:=e;by_cases z:a=p
  .subst z
   rw[fX] at e;cases e;exact⟨fX,r.jq hp,λk hk=>r.μne hp hk⟩
  .rw[dh z] at e ⊢
   exact r.prv a u e
theorem cQ.xp(r:cQ W S H){p:ai}{o:HO}(hp:W.P p=aa o)(nx:∀ks,o≠.xd ks)(ZN:∀q u,o≠.eL q u)(o':HO):cQ (W.mX p o') S (upd H p o'):=by
 obtain⟨h1,h2,h3⟩:=r.prv p o hp;have ne:∀a u,W.HS a=aa u->a≠p:=λa u e z=>by rw[z,h2] at e;cases e
 refine r.lN rfl rfl rfl rfl (λe c=>k_.hs (W:=W) (W':=W.mX p o') rfl rfl rfl (λd ks z=>by
  show upd W.P p o' d=_;rw[dh (λq=>by rw[q,hp] at z;cases z;exact nx _ rfl)];exact z) (k_.at (dh (h3 _ (r.lt e))) c)) (λa u e h=>h.at (dh (ne a u e))) (λa q u e h=>by rw[dh (λz=>by rw[z,h1] at h;cases h;exact ZN _ _ rfl)];exact h) λa u e=>?_
 have e:upd W.P p o' a=aa u:=e;by_cases z:a=p
 .subst z
  rw[fX] at e;cases e;exact⟨fX,h2,h3⟩
 .rw[dh z] at e ⊢
  exact r.prv a u e
noncomputable def Wd.ot(W:Wd)(p:ai):Wd:=⟨W.HS,W.μ,W.n,W.Z,λa=>if a=p then ae else W.P a⟩
theorem cQ.ot(r:cQ W S H)(p:ai)(nx:∀ks,W.P p≠aa (.xd ks)):cQ (W.ot p) S H:=
 r.lN rfl rfl rfl rfl (λe c=>k_.hs (W:=W) (W':=W.ot p) rfl rfl rfl (λd ks z=>by
  show(if d=p then ae else W.P d)=_;rw[if_neg (λq=>by rw[q] at z;exact nx _ z)];exact z) c) (λa u _ h=>h) (λa q u _ h=>h) λa u e=>by
  have e:(if a=p then ae else W.P a)=aa u:=e;by_cases z:a=p
  .rw[if_pos z] at e;cases e
  .rw[if_neg z] at e;exact r.prv a u e
theorem cQ.xq(r:cQ W S H){p:ai}{o:HO}(hp:W.P p=aa o)(no:GX o)(nx:∀ks,o≠.xd ks):cQ ((W.ot p).eL p o) S H:=by
 obtain⟨h1,h2,h3⟩:=r.prv p o hp;have r':=r.ot p (λks z=>by rw[hp] at z;cases z;exact nx _ rfl);have l:(W.ot p).le ((W.ot p).eL p o):=Wd.lg h2;refine⟨λa u e=>?_,r.len,λk c e=>⟨(r'.cell k c e).1.mono l,?_⟩,r.inj,λa q e=>?_,λa u e=>?_⟩
 .have e:upd W.HS p o a=aa u:=e
  by_cases z:a=p
  .subst z
   rw[fX] at e;cases e;exact⟨.inl h1,no⟩
  .rw[dh z] at e;exact r.sub a u e
 .show upd W.HS p o (W.μ k)=ae
  rw[dh (h3 k (r.lt e))];exact(r.cell k c e).2
 .exact r'.zed a q e
 .obtain⟨g1,g2,g3⟩:=r'.prv a u e
  refine⟨g1,?_,g3⟩;show upd W.HS p o a=ae;by_cases z:a=p
  .have e:(if a=p then ae else W.P a)=aa u:=e
   rw[if_pos z] at e;cases e
  .rw[dh z];exact g2
end
noncomputable def cW(S:bI):T->Option (List T)
 |.lst ts=>aa ts
 | .obj k=>match S[k]? with
   |some (.lst ts)=>aa ts
   |_=>ae
 |_=>ae
noncomputable def kP(S:bI):T->Option (List T)
 |.tup ts=>aa ts
 |t=>cW S t
noncomputable def ow(S:bI):T->Option (List (bZ×T))
 |.dic ts=>aa ts
 | .obj k=>match S[k]? with
   |some (.dic ts)=>aa ts
   |_=>ae
 |_=>ae
section
variable {W:Wd}{S:bI}{H:Hp}
theorem Rl{k:Nat}{ts:List T}(h:cW S (.obj k)=aa ts):S[k]?=aa (.lst ts):=by
 unfold cW at h;cases e:S[k]? with
 |none=>simp[e] at h
 |some c=>cases c<;>simp[e] at h;subst h;rfl
theorem ZO{k:Nat}{ts:List (bZ×T)}(h:ow S (.obj k)=aa ts):S[k]?=aa (.dic ts):=by
 unfold ow at h;cases e:S[k]? with
 |none=>simp[e] at h
 |some c=>cases c<;>simp[e] at h;subst h;rfl
theorem cQ.list(r:cQ W S H){t:T}{v:V}{ts:List T}(d:cz W t v)(h:cW S t=aa ts):∃a vs,v=.ref a/\Rd H a (.lst vs)/\aW W ts vs:=by
 cases t with
 | lst xs=>
   have e:xs=ts:=by simpa[cW] using h
   subst e;obtain⟨a,vs,rfl,h1,h2⟩:=rP.mp d;exact⟨a,vs,rfl,(r.sub a _ h1).1.rd,h2⟩
 | obj k=>
   obtain⟨rfl,hk⟩:=nQ.mp d;obtain⟨⟨vs,h1,h2⟩,_⟩:=r.cell k _ (Rl h);exact⟨_,vs,rfl,.inl h1,h2⟩
 |_=>simp[cW] at h
theorem cQ.seq(r:cQ W S H){t:T}{v:V}{ts:List T}(d:cz W t v)(h:kP S t=aa ts):∃a vs,v=.ref a/\(Rd H a (.lst vs)\/Rd H a (.tup vs))/\aW W ts vs:=by
 cases t with
 | tup xs=>
   have e:xs=ts:=by simpa[kP] using h
   subst e;obtain⟨a,vs,rfl,h1,h2⟩:=rQ.mp d;exact⟨a,vs,rfl,.inr (r.sub a _ h1).1.rd,h2⟩
 |lst xs=>obtain⟨a,vs,e,h1,h2⟩:=r.list d (by simpa[kP] using h);exact⟨a,vs,e,.inl h1,h2⟩
 |obj k=>obtain⟨a,vs,e,h1,h2⟩:=r.list d (by simpa[kP] using h);exact⟨a,vs,e,.inl h1,h2⟩
 |_=>simp[kP,cW] at h
theorem cQ.dict(r:cQ W S H){t:T}{v:V}{ts:List (bZ×T)}(d:cz W t v)(h:ow S t=aa ts):∃a vs,v=.ref a/\Rd H a (.dK vs)/\bQ W ts vs:=by
 cases t with
 | dic xs=>
   have e:xs=ts:=by simpa[ow] using h
   subst e;obtain⟨a,vs,rfl,h1,h2⟩:=xl.mp d;exact⟨a,vs,rfl,(r.sub a _ h1).1.rd,h2⟩
 | obj k=>
   obtain⟨rfl,hk⟩:=nQ.mp d;obtain⟨⟨vs,h1,h2⟩,_⟩:=r.cell k _ (ZO h);exact⟨_,vs,rfl,.inl h1,h2⟩
 |_=>simp[ow] at h
end
noncomputable def ah(i:Nat):DE:=fun ρ=>match ρ[i]? with
 |some (aa t)=>M.pure t
 |_=>M.bad
noncomputable def eC(t:T):DE:=λ_=>M.pure t
noncomputable def e2(g:T->T->M T)(fa fb:DE):DE:=fun ρ=>(fa ρ).bind λx=>(fb ρ).bind λy=>g x y
def e1(g:T->M T)(fa:DE):DE:=fun ρ=>(fa ρ).bind g
noncomputable def aK:DA:=λ_=>M.pure []
noncomputable def aV(fa:DE)(r:DA):DA:=fun ρ=>(fa ρ).bind λt=>(r ρ).bind λts=>M.pure (t::ts)
section
variable {X:Cx}{E:XK}{a b e:bt}{es:List bt}{fa fb:DE}{fr:DA}{pos:Pos}
theorem ZP{i:Nat}{σ:St}{H:Hp}{Q:VK}(h:RE E (ah i) σ H Q):mq i σ H Q:=by
 obtain⟨W,S,ρ,r,env,p⟩:=h;unfold ah at p;cases e:ρ[i]? with
 |none=>rw[e] at p;exact p.elim
 | some o=>
   cases o with
   |none=>rw[e] at p;exact p.elim
   | some t=>
     rw[e] at p;obtain⟨v,e1,d⟩:=env.get e;exact⟨v,e1,p W H (Wd.le.refl W) r v d⟩
theorem ev(i:Nat){x:Str}(hN:X.N[i]?=aa x:=by rfl)(hv:zW X.env.scope x:=by first | exact eF rfl | exact cM (eF rfl) | exact cM (cM rfl))(hd:(x==("__debug__" : Str))=false:=by decide)
 (tD:(x==("__classdict__" : Str))=false:=by decide):PE X (.Name x pos) (RE E (ah i)):=iQ (pv i hN hv hd tD) λ_ _ _=>ZP
theorem vt{t:T}{v:V}(hd:∀W,cz W t v){σ:St}{H:Hp}{Q:VK}(h:RE E (eC t) σ H Q):Q v H:=by
 obtain⟨W,S,ρ,r,env,p⟩:=h;exact p W H (Wd.le.refl W) r v (hd W)
theorem cJ{i j}:PE X (.Constant (.int i) j pos) (RE E (eC (.int i))):=iQ Ww λ_ _ _=>vt λW=>jC.mpr rfl
theorem tP{i j}:PE X (.Constant (.bool i) j pos) (RE E (eC (.bl i))):=iQ Wx λ_ _ _=>vt λW=>jB.mpr rfl
theorem gP{i j}:PE X (.Constant (.str i) j pos) (RE E (eC (.str i))):=iQ Gk λ_ _ _=>vt λW=>nu.mpr rfl
theorem sM{j}:PE X (.Constant .none j pos) (RE E (eC .bH)):=iQ Wy λ_ _ _=>vt λW=>o5.mpr rfl
def G2(E:XK)(r:R2)(g:T->T->M T):Prop:=∀(tx ty:T) (W:Wd) (S:bI) (H:Hp) (x y:V) (Q:VK),cQ W S H->cz W tx x->cz W ty y->bq E W (QV Q) (g tx ty S)->r x y H Q
theorem sN{r:R2}{g:T->T->M T}(hg:G2 E r g){σ:St}{H:Hp}{Q:VK}(h:RE E (e2 g fa fb) σ H Q):Dq r (RE E fa) (RE E fb) σ H Q:=by
 obtain⟨W,S,ρ,rp,env,p⟩:=h;refine⟨W,S,ρ,rp,env,(bq.bind p).imp λtx W1 S1 H1 l1 r1 p1 x dx=>?_⟩;refine⟨W1,S1,ρ,r1,env.mono l1,(bq.bind p1).imp λty W2 S2 H2 l2 r2 p2 y dy=>?_⟩;exact hg tx ty W2 S2 H2 x y Q r2 (cz.mono l2 _ _ dx) dy p2
def G1(E:XK)(r:V->Hp->VK->Prop)(g:T->M T):Prop:=∀(tx:T) (W:Wd) (S:bI) (H:Hp) (x:V) (Q:VK),cQ W S H->cz W tx x->bq E W (QV Q) (g tx S)->r x H Q
theorem qW{r:V->Hp->VK->Prop}{g:T->M T}(hg:G1 E r g){σ:St}{H:Hp}{Q:VK}(h:RE E (e1 g fa) σ H Q):RE E fa σ H (λx H1=>r x H1 Q):=by
 obtain⟨W,S,ρ,rp,env,p⟩:=h;exact⟨W,S,ρ,rp,env,(bq.bind p).imp λtx W1 S1 H1 l1 r1 p1 x dx=>hg tx W1 S1 H1 x Q r1 dx p1⟩
theorem bY:PA X [] (RA E aK):=Rj y_ fun σ H Q h=>by
 obtain⟨W,S,ρ,r,env,p⟩:=h;exact p W H (Wd.le.refl W) r [] aW.gb
theorem bh(ha:PE X e (RE E fa))(hr:PA X es (RA E fr))(hs:av (e::es) X.env=(false,eval e X.env)::av es X.env:=by rfl):PA X (e::es) (RA E (aV fa fr)):=
 Rj (u4 ha hr hs) fun σ H Q h=>by
  obtain⟨W,S,ρ,rp,env,p⟩:=h;refine⟨W,S,ρ,rp,env,(bq.bind p).imp λtx W1 S1 H1 l1 r1 p1 x dx=>?_⟩;refine⟨W1,S1,ρ,r1,env.mono l1,(bq.bind p1).imp λts W2 S2 H2 l2 r2 p2 vs jA=>?_⟩;exact p2 W2 H2 (Wd.le.refl _) r2 _ (aW.eB (cz.mono l2 _ _ dx) jA)
end
noncomputable def gI(f:Int->Int->Option T)(x y:T):M T:=λS=>match x,y with
 | .int i,.int j=>(match f i j with
   |some t=>.ok t S
   |none=>.bad)
 |_,_=>.bad
theorem Rm{E:XK}{W:Wd}{S:bI}{f:Int->Int->Option T}{tx ty:T}{Q:T->Wd->bI->Hp->Prop}(p:bq E W Q (gI f tx ty S)):∃i j t,tx=.int i/\ty=.int j/\f i j=aa t/\bq E W Q (.ok t S):=by
 unfold gI at p;cases tx with
 | int i=>
   cases ty with
   | int j=>
     cases e:f i j with
     |none=>simp only[e] at p;exact p.elim
     |some t=>simp only[e] at p;exact⟨i,j,t,rfl,rfl,e,p⟩
   |_=>exact p.elim
 |_=>exact p.elim
noncomputable def vv(i j:Int):Option T:=aa (.int (i-j))
noncomputable def pA(i j:Int):Option T:=if(-(2 ^ 64)<i/\i<2 ^ 64)\/(-(2 ^ 64)<j/\j<2 ^ 64) then aa (.int (i*j)) else ae
noncomputable def lO(i j:Int):Option T:=if 0<j/\j<1073741824 then aa (.int (i / j)) else ae
noncomputable def h_(i j:Int):Option T:=if 0<j then aa (.int (i%j)) else ae
noncomputable def vw(i j:Int):Option T:=if 0<=j/\j<=1000/\i.natAbs<2 ^ 64 then aa (.int (i ^ j.toNat)) else ae
noncomputable def K9(i j:Int):Option T:=aa (.bl (decide (i<j)))
noncomputable def GZ(i j:Int):Option T:=aa (.bl (decide (j<i)))
noncomputable def G_(i j:Int):Option T:=aa (.bl (decide (j<=i)))
section
variable {X:Cx}{E:XK}{a b e:bt}{fa fb:DE}{pos:Pos}
theorem now{E:XK}{W:Wd}{S:bI}{H:Hp}{t:T}{v:V}{Q:VK}(p:bq E W (QV Q) (.ok t S))(r:cQ W S H)(d:cz W t v):Q v H:=p W H (Wd.le.refl W) r v d
theorem G'{f:Int->Int->V}{g:Int->Int->Option T}(h:∀i j t,g i j=aa t->∀W,cz W t (f i j)):G2 E (w9 f) (gI g):=by
 intro tx ty W S H x y Q r dx dy p;obtain⟨i,j,t,rfl,rfl,e,p⟩:=Rm p;exact⟨i,j,jC.mp dx,jC.mp dy,now p r (h i j t e W)⟩
theorem xr{C:Int->Int->Prop}{f:Int->Int->V}{g:Int->Int->Option T}(h:∀i j t,g i j=aa t->C i j/\∀W,cz W t (f i j)):G2 E (rI C f) (gI g):=by
 intro tx ty W S H x y Q r dx dy p;obtain⟨i,j,t,rfl,rfl,e,p⟩:=Rm p;exact⟨i,j,jC.mp dx,jC.mp dy,(h i j t e).1,now p r ((h i j t e).2 W)⟩
theorem K_(ha:PE X a (RE E fa))(hb:PE X b (RE E fb)):PE X (.BinOp a .Sub b pos) (RE E (e2 (gI vv) fa fb)):=iQ (BR Xe ha hb) λ_ _ _=>sN (G' λi j t e W=>by cases e;exact jC.mpr rfl)
theorem B1(ha:PE X a (RE E fa))(hb:PE X b (RE E fb)):PE X (.BinOp a .Mult b pos) (RE E (e2 (gI pA) fa fb)):=iQ (BR Xf ha hb) λ_ _ _=>sN (xr λi j t e=>by
 unfold pA at e;split at e
 .rename_i h;cases e;exact⟨h,λW=>jC.mpr rfl⟩
 .cases e)
theorem vx(ha:PE X a (RE E fa))(hb:PE X b (RE E fb)):PE X (.BinOp a .FloorDiv b pos) (RE E (e2 (gI lO) fa fb)):=iQ (BR Xg ha hb) λ_ _ _=>sN (xr λi j t e=>by
 unfold lO at e;split at e
 .rename_i h;cases e;exact⟨h,λW=>jC.mpr rfl⟩
 .cases e)
theorem oy(ha:PE X a (RE E fa))(hb:PE X b (RE E fb)):PE X (.BinOp a .Mod b pos) (RE E (e2 (gI h_) fa fb)):=iQ (BR Xh ha hb) λ_ _ _=>sN (xr λi j t e=>by
 unfold h_ at e;split at e
 .rename_i h;cases e;exact⟨h,λW=>jC.mpr rfl⟩
 .cases e)
theorem Ro(ha:PE X a (RE E fa))(hb:PE X b (RE E fb)):PE X (.BinOp a .Pow b pos) (RE E (e2 (gI vw) fa fb)):=iQ (BR Xi ha hb) λ_ _ _=>sN (xr λi j t e=>by
 unfold vw at e;split at e
 .rename_i h;cases e;exact⟨⟨h.1,Int.le_trans h.2.1 (by decide),h.2.2⟩,λW=>jC.mpr rfl⟩
 .cases e)
noncomputable def ic(x y:T):M T:=λS=>match x,y with
 |.int i,.int j=>.ok (.int (i+j)) S
 |.str i,.str j=>if i.length+j.length<=1000 then .ok (.str (i++j)) S else .bad
 | _,_=>match cW S x,cW S y with
   |some xs,aa ys=>if xs.length+ys.length<=1000 then .ok (.lst (xs++ys)) S else .bad
   |_,_=>.bad
theorem ZQ:kK X (jx .Add) (λx y H Q=>∃l b xs zs,x=.ref l/\y=.ref b/\Rd H l (.lst xs)/\Rd H b (.lst zs)/\xs.length+zs.length<=sizeLine/\∀p,H p=ae->Q (.ref p) (upd H p (.lst (xs++zs)))):=by
 intro ag s σ H x y v u Q I rx ry h;obtain⟨l,b,xs,zs,rfl,rfl,hH,hB,hz,q⟩:=h;cases rx;cases ry;obtain⟨z,cC,n,r,e⟩:=hH.ok I.cD;obtain⟨z2,oJ,n2,r2,e2⟩:=hB.ok I.cD;have hl:=r.length;have vy:=r2.length;refine PySem.P.add_list e e2 ?_ (by rw[aL,aL];omega);have ea:cC.toArray++oJ.toArray=(cC++oJ).toArray:=by simp
 rw[ea];exact⟨.ref _,_,I.Kj (t':=s.toks) (r.append r2) (by rw[aO];omega),rfl,q _ I.fresh⟩
theorem rG{n:Nat}(h:n<=1000):n<=sizeLine:=m_ (QD h)
theorem Ha{E:XK}{W:Wd}{S:bI}{H:Hp}{Q:VK}{ts:List T}{vs:List V}(p:bq E W (QV Q) (.ok (.lst ts) S))(r:cQ W S H)(d:aW W ts vs):∀a,H a=ae->Q (.ref a) (upd H a (.lst vs)):=λa ha=>by
 have l:W.le (W.eL a (.lst vs)):=Wd.lg (r.jq ha);exact p (W.eL a (.lst vs)) _ l (r.eL ha _ trivial) _ (rP.mpr ⟨a,vs,rfl,fX,aW.mono l _ _ d⟩)
theorem K'{E:XK}{W:Wd}{S:bI}{H:Hp}{Q:VK}{ts:List T}{vs:List V}(p:bq E W (QV Q) (.ok (.tup ts) S))(r:cQ W S H)(d:aW W ts vs):∀a,H a=ae->Q (.ref a) (upd H a (.tup vs)):=λa ha=>by
 have l:W.le (W.eL a (.tup vs)):=Wd.lg (r.jq ha);exact p (W.eL a (.tup vs)) _ l (r.eL ha _ trivial) _ (rQ.mpr ⟨a,vs,rfl,fX,aW.mono l _ _ d⟩)
theorem Rp{E:XK}{W:Wd}{S:bI}{H:Hp}{Q:VK}{ts:List T}{vs:List V}(p:bq E W (QV Q) (.ok (.obj S.length) (S++[.lst ts])))(r:cQ W S H)(d:aW W ts vs):∀a,H a=ae->Q (.ref a) (upd H a (.lst vs)):=λa ha=>by
 refine p (W.add a) _ Wd.i7 (r.lM ha (.lst ts) _ ⟨vs,fX,aW.mono Wd.i7 _ _ d⟩) _ (nQ.mpr ⟨?_,?_⟩)
 .rw[r.len,Wd.i8]
 .rw[r.len];exact dE _
theorem ZR:G2 E (λx y H Q=>(w9 (λi j=>.int (i+j)) x y H Q\/(∃i j,x=.str i/\y=.str j/\i.length+j.length<=sizeLine/\Q (.str (i++j)) H))\/(∃l b xs zs,x=.ref l/\y=.ref b/\Rd H l (.lst xs)/\Rd H b (.lst zs)/\xs.length+zs.length<=sizeLine/\∀p,H p=ae->Q (.ref p) (upd H p (.lst (xs++zs))))) ic:=by
 intro tx ty W S H x y Q r dx dy p;have Ee:∀{tx ty:T},cz W tx x->cz W ty y->bq E W (QV Q) (match cW S tx,cW S ty with|some xs,aa ys=>if xs.length+ys.length<=1000 then .ok (.lst (xs++ys)) S else .bad | _,_=>.bad)->(∃l b xs zs,x=.ref l/\y=.ref b/\Rd H l (.lst xs)/\Rd H b (.lst zs)/\xs.length+zs.length<=sizeLine/\∀p,H p=ae->Q (.ref p) (upd H p (.lst (xs++zs)))):=by
  intro tx ty dx dy p;cases e1:cW S tx with
  |none=>simp only[e1] at p;exact p.elim
  | some xs=>
    cases e2:cW S ty with
    |none=>simp only[e1,e2] at p;exact p.elim
    | some ys=>
      simp only[e1,e2] at p
      split at p
      .rename_i hl
       obtain⟨a,vs,rfl,h1,h2⟩:=r.list dx e1;obtain⟨b,ws,rfl,h3,h4⟩:=r.list dy e2;refine⟨a,b,vs,ws,rfl,rfl,h1,h3,rG (by rw[<- h2.length,<- h4.length];exact hl),Ha p r (h2.append h4)⟩
      .exact p.elim
 unfold ic at p
 split at p
 .exact .inl (.inl ⟨_,_,jC.mp dx,jC.mp dy,now p r (jC.mpr rfl)⟩)
 .split at p
  .rename_i hl
   exact .inl (.inr ⟨_,_,nu.mp dx,nu.mp dy,rG hl,now p r (nu.mpr rfl)⟩)
  .exact p.elim
 .exact .inr (Ee dx dy p)
theorem qg(ha:PE X a (RE E fa))(hb:PE X b (RE E fb)):PE X (.BinOp a .Add b pos) (RE E (e2 ic fa fb)):=iQ (BR ((Xd.or Xt).or ZQ) ha hb) λ_ _ _=>sN ZR
end
end MF
namespace MF
open PySem L2 PySem.SeqAt
mutual
def pd:T->Option gq
 |.bH=>aa .none
 |.bl b=>aa (.bool b)
 |.int i=>aa (.int i)
 |.str x=>aa (.str x)
 |.lst ts=>(md ts).map .list
 |.tup ts=>(md ts).map .tuple
 |.dic _=>ae
 |.obj _=>ae
def md:List T->Option (List gq)
 |[]=>aa []
 | t::ts=>match pd t,md ts with
   |some d,aa ds=>aa (d::ds)
   |_,_=>ae
end
mutual
def kQ(H:Hp):gq->V->Prop
 |.none,v=>v=.bH
 |.bool b,v=>v=.bl b
 |.int i,v=>v=.int i
 |.str x,v=>v=.str x
 |.list ds,v=>∃a vs,v=.ref a/\Rd H a (.lst vs)/\lP H ds vs
 |.tuple ds,v=>∃a vs,v=.ref a/\Rd H a (.tup vs)/\lP H ds vs
 |.dict _,_=>False
def lP(H:Hp):List gq->List V->Prop
 |[],vs=>vs=[]
 |d::ds,vs=>∃v r,vs=v::r/\kQ H d v/\lP H ds r
end
section
variable {W:Wd}{S:bI}{H:Hp}
mutual
theorem La(r:cQ W S H):∀(t:T) (v:V) (d:gq),cz W t v->pd t=aa d->kQ H d v
 |.bH,v,d,h,e=>by simp only[pd] at e;cases e;simp only[kQ];exact o5.mp h
 |.bl _,v,d,h,e=>by simp only[pd] at e;cases e;simp only[kQ];exact jB.mp h
 |.int _,v,d,h,e=>by simp only[pd] at e;cases e;simp only[kQ];exact jC.mp h
 |.str _,v,d,h,e=>by simp only[pd] at e;cases e;simp only[kQ];exact nu.mp h
 | .lst ts,v,d,h,e=>by
   simp only[pd] at e;obtain⟨ds,e1,rfl⟩:=bg.mp e;obtain⟨a,vs,rfl,h1,h2⟩:=rP.mp h;simp only[kQ];exact⟨a,vs,rfl,(r.sub _ _ h1).1.rd,lQ r ts vs ds h2 e1⟩
 | .tup ts,v,d,h,e=>by
   simp only[pd] at e;obtain⟨ds,e1,rfl⟩:=bg.mp e;obtain⟨a,vs,rfl,h1,h2⟩:=rQ.mp h;simp only[kQ];exact⟨a,vs,rfl,(r.sub _ _ h1).1.rd,lQ r ts vs ds h2 e1⟩
 |.dic _,v,d,h,e=>by simp only[pd] at e;cases e
 |.obj _,v,d,h,e=>by simp only[pd] at e;cases e
theorem lQ(r:cQ W S H):∀(ts:List T) (vs:List V) (ds:List gq),aW W ts vs->md ts=aa ds->lP H ds vs
 |[],vs,ds,h,e=>by simp only[md] at e;cases e;simp only[lP];exact oq.mp h
 | t :: ts,vs,ds,h,e=>by
   obtain⟨v,q,rfl,h1,h2⟩:=nv.mp h;simp only[md] at e;cases e1:pd t with
   |none=>simp[e1] at e
   | some d=>
     cases e2:md ts with
     |none=>simp[e1,e2] at e
     | some ZS=>
       simp[e1,e2] at e;subst e;simp only[lP];exact⟨v,q,rfl,La r t v d h1 e1,lQ r ts q ZS h2 e2⟩
end
end
mutual
theorem gB{P:aR}{w:bu}{H:Hp}{h:bN}(ok:iM P w H h):∀(d:gq) (v:V) (u:af),kQ H d v->RelV v u->∃as,Reads h u d as
 |.none,v,u,q,r=>by simp only[kQ] at q;subst q;cases r;exact⟨_,.none⟩
 |.bool b,v,u,q,r=>by simp only[kQ] at q;subst q;cases r;exact⟨_,.bool b⟩
 |.int i,v,u,q,r=>by simp only[kQ] at q;subst q;obtain⟨t,rfl⟩:=r;exact⟨_,.int i t⟩
 |.str i,v,u,q,r=>by simp only[kQ] at q;subst q;obtain⟨t,rfl⟩:=r;exact⟨_,.str i t⟩
 | .list ds,v,u,q,r=>by
   simp only[kQ] at q;obtain⟨a,vs,rfl,h1,h2⟩:=q;cases r;obtain⟨_,cC,n,r,e⟩:=h1.ok ok;obtain⟨as,ra⟩:=jX ok ds vs cC h2 r;exact⟨_,.list e rfl rfl (by simpa using ra)⟩
 | .tuple ds,v,u,q,r=>by
   simp only[kQ] at q;obtain⟨a,vs,rfl,h1,h2⟩:=q;cases r;obtain⟨_,cC,r,o,e,hc,n,hd⟩:=h1.ok ok;obtain⟨as,ra⟩:=jX ok ds vs cC h2 r;exact⟨_,.tuple e hc hd (by simpa using ra)⟩
 |.dict _,v,u,q,r=>by simp only[kQ] at q
theorem jX{P:aR}{w:bu}{H:Hp}{h:bN}(ok:iM P w H h):∀(ds:List gq) (vs:List V) (us:List af),lP H ds vs->cf vs us->∃as,ReadsAll h us ds as
 |[],vs,us,q,r=>by simp only[lP] at q;subst q;cases r;exact⟨_,.nil⟩
 | d :: ds,vs,us,q,r=>by
   simp only[lP] at q;obtain⟨v,vr,rfl,h1,h2⟩:=q;cases r with
   | cons r1 r2=>
     obtain⟨as,ra⟩:=gB ok d v _ h1 r1;obtain⟨bs,rb⟩:=jX ok ds vr _ h2 r2;exact⟨_,.cons ra rb⟩
end
noncomputable def nA(S:bI):T->Option gq
 | .obj k=>match S[k]? with
   |some (.lst ts)=>(md ts).map .list
   |_=>ae
 |t=>pd t
theorem Rq{W:Wd}{S:bI}{H:Hp}(r:cQ W S H){t:T}{v:V}{d:gq}(h:cz W t v)(e:nA S t=aa d):kQ H d v:=by
 cases t with
 | obj k=>
   obtain⟨rfl,hk⟩:=nQ.mp h;unfold nA at e;cases e0:S[k]? with
   |none=>simp[e0] at e
   | some c=>
     cases c with
     | lst ts=>
       simp only[e0] at e;obtain⟨ds,e1,rfl⟩:=bg.mp e;obtain⟨⟨vs,h1,h2⟩,_⟩:=r.cell k _ e0;simp only[kQ];exact⟨_,vs,rfl,.inl h1,lQ r ts vs ds h2 e1⟩
     |dic _=>simp[e0] at e
     |ins _ _=>simp[e0] at e
     |exc _ _=>simp[e0] at e
     |lck _=>simp[e0] at e
 |_=>exact La r _ v d h (by simpa[nA] using e)
noncomputable def toV:T->Option V
 |.bH=>aa .bH
 |.bl b=>aa (.bl b)
 |.int i=>aa (.int i)
 |.str x=>aa (.str x)
 |_=>ae
theorem Ef{W:Wd}{t:T}{v u:V}(h:cz W t v)(e:toV t=aa u):v=u:=by
 cases t<;>simp only[toV,qw] at e<;>first | (subst e;first | exact o5.mp h | exact jB.mp h | exact jC.mp h | exact nu.mp h) | cases e
noncomputable def tQ(S:bI)(x y:T):Option Bool:=match toV x,toV y with
 |some u,aa v=>if pk u v=true then aa (decide (u=v)) else ae
 | _,_=>match nA S x,nA S y with
   |some a,aa b=>if(a.canLay0&&b.canLay0&&decide (a.depth<=50))=true then aa (bX a b) else ae
   |_,_=>ae
noncomputable def gG(x y:T):M T:=λS=>match tQ S x y with
 |some b=>.ok (.bl b) S
 |none=>.bad
noncomputable def mI(x y:T):M T:=λS=>match tQ S x y with
 |some b=>.ok (.bl (!b)) S
 |none=>.bad
def xt(DQ:Bool):R2:=λx y H Q=>∃a b,kQ H a x/\kQ H b y/\a.canLay0=true/\b.canLay0=true/\a.depth<=50/\Q (.bl (if DQ then !bX a b else bX a b)) H
section
variable {X:Cx}{E:XK}{a b e:bt}{es:List bt}{fa fb fc:DE}{fr:DA}{pos:Pos}
theorem Rt(hu:X.A.units+64<fT):kK X (cX .Eq) (xt false):=by
 intro ag s σ H x y v u Q I rx ry h;obtain⟨a,b,ra,rb,ca,cb,hd,q⟩:=h;obtain⟨as,qa⟩:=gB I.cD a x v ra rx;obtain⟨bs,qb⟩:=gB I.cD b y u rb ry;exact compareEq_reads qa qb ca cb (by have:=zQ a.depth b.depth;omega) ⟨.bl _,H,I,rfl,q⟩
theorem Ru(hu:X.A.units+64<fT):kK X (cX .NotEq) (xt true):=by
 intro ag s σ H x y v u Q I rx ry h;obtain⟨a,b,ra,rb,ca,cb,hd,q⟩:=h;obtain⟨as,qa⟩:=gB I.cD a x v ra rx;obtain⟨bs,qb⟩:=gB I.cD b y u rb ry;exact compareNe_reads qa qb ca cb (by have:=zQ a.depth b.depth;omega) ⟨.bl _,H,I,rfl,q⟩
theorem Rv{W:Wd}{S:bI}{H:Hp}{tx ty:T}{x y:V}{c:Bool}(r:cQ W S H)(dx:cz W tx x)(dy:cz W ty y)(e:tQ S tx ty=aa c) :
  (pk x y=true/\c=decide (x=y))\/∃a b,kQ H a x/\kQ H b y/\a.canLay0=true/\b.canLay0=true/\a.depth<=50/\c=bX a b:=by
 have data:(match nA S tx,nA S ty with|some a,aa b=>if(a.canLay0&&b.canLay0&&decide (a.depth<=50))=true then aa (bX a b) else ae | _,_=>ae)=aa c->∃a b,kQ H a x/\kQ H b y/\a.canLay0=true/\b.canLay0=true/\a.depth<=50/\c=bX a b:=λe=>by
  cases e1:nA S tx with
  |none=>simp[e1] at e
  | some a=>
    cases e2:nA S ty with
    |none=>simp[e1,e2] at e
    | some b=>
      simp only[e1,e2] at e
      split at e
      .rename_i hc
       simp only[cv,decide_eq_true_eq] at hc;cases e;exact⟨a,b,Rq r dx e1,Rq r dy e2,hc.1.1,hc.1.2,hc.2,rfl⟩
      .cases e
 unfold tQ at e;cases e1:toV tx with
 |none=>simp only[e1] at e;exact .inr (data e)
 | some u=>
   cases e2:toV ty with
   |none=>simp only[e1,e2] at e;exact .inr (data e)
   | some v=>
     simp only[e1,e2] at e
     split at e
     .rename_i hs
      cases e;have h1:=Ef dx e1;have h2:=Ef dy e2;subst h1 h2;exact .inl ⟨hs,rfl⟩
     .cases e
theorem Rx:G2 E (λx y H Q=>Pw x y H Q\/xt false x y H Q) gG:=by
 intro tx ty W S H x y Q r dx dy p;unfold gG at p;cases e:tQ S tx ty with
 |none=>simp only[e] at p;exact p.elim
 | some c=>
   simp only[e] at p;rcases Rv r dx dy e with⟨h1,rfl⟩ | ⟨a,b,h1,h2,h3,h4,h5,rfl⟩
   .exact .inl ⟨h1,now p r (jB.mpr rfl)⟩
   .exact .inr ⟨a,b,h1,h2,h3,h4,h5,now p r (jB.mpr rfl)⟩
theorem Ry:G2 E (λx y H Q=>Px x y H Q\/xt true x y H Q) mI:=by
 intro tx ty W S H x y Q r dx dy p;unfold mI at p;cases e:tQ S tx ty with
 |none=>simp only[e] at p;exact p.elim
 | some c=>
   simp only[e] at p;rcases Rv r dx dy e with⟨h1,rfl⟩ | ⟨a,b,h1,h2,h3,h4,h5,rfl⟩
   .exact .inl ⟨h1,now p r (jB.mpr rfl)⟩
   .exact .inr ⟨a,b,h1,h2,h3,h4,h5,now p r (jB.mpr rfl)⟩
theorem Lb(hu:X.A.units+64<fT)(ha:PE X a (RE E fa))(hb:PE X b (RE E fb)):PE X (.Compare a [.Eq] [b] pos) (RE E (e2 gG fa fb)):=iQ (PN (PK.or (Rt hu)) ha hb (w_ _)) λ_ _ _=>sN Rx
theorem Lc(hu:X.A.units+64<fT)(ha:PE X a (RE E fa))(hb:PE X b (RE E fb)):PE X (.Compare a [.NotEq] [b] pos) (RE E (e2 mI fa fb)):=iQ (PN (PM.or (Ru hu)) ha hb (w_ _)) λ_ _ _=>sN Ry
noncomputable def Eg(x:T)(ts:List T):Option Bool:=match toV x,ts.mapM toV with
 |some u,aa vs=>if(nN u&&vs.all nN)=true then aa (DP u vs) else ae
 |_,_=>ae
noncomputable def Eh(S:bI)(x y:T):Option Bool:=match kP S y with
 | some ts=>(match Eg x ts with
   |some b=>aa b
   | none=>match pd x,md ts with
     |some d,aa ds=>if(d.canLay0&&be ds&&decide (d.depth<=20)&&decide (bw ds<=20))=true then aa (ds.any λz=>bX z d) else ae
     |_,_=>ae)
 |none=>ae
noncomputable def uw(x y:T):M T:=λS=>match Eh S x y with
 |some b=>.ok (.bl b) S
 |none=>.bad
theorem Ld{W:Wd}:∀{ts:List T} {vs us:List V},aW W ts vs->ts.mapM toV=aa us->vs=us
 | [],vs,us,h,e=>by
   have e:aa []=aa us:=by simpa using e
   rw[oq.mp h,<- bj e]
 | t :: ts,vs,us,h,e=>by
   obtain⟨v,r,rfl,h1,h2⟩:=nv.mp h;rw[zR] at e;cases e1:toV t with
   |none=>simp[e1] at e
   | some u=>
     cases e2:ts.mapM toV with
     |none=>simp[e1,e2] at e
     | some ws=>
       simp[e1,e2] at e;subst e;rw[Ef h1 e1,Ld h2 e2]
def Ei(DQ:Bool):R2:=λx y H Q=>∃p xs ds d,y=.ref p/\(Rd H p (.lst xs)\/Rd H p (.tup xs))/\lP H ds xs/\kQ H d x/\be ds=true/\d.canLay0=true/\d.depth<=20/\bw ds<=20 /\
 Q (.bl (if DQ then !(ds.any λz=>bX z d) else ds.any λz=>bX z d)) H
theorem ZT{W:Wd}{S:bI}{H:Hp}{tx ty:T}{x y:V}{c:Bool}(K:aM)(r:cQ W S H)(dx:cz W tx x)(dy:cz W ty y)(e:Eh S tx ty=aa c) :
  (∃p xs,y=.ref p/\(lJ K H p xs\/tE K H p xs)/\nN x=true/\xs.all nN=true/\c=DP x xs) \/
  ∃p xs ds d,y=.ref p/\(Rd H p (.lst xs)\/Rd H p (.tup xs))/\lP H ds xs/\kQ H d x/\be ds=true/\d.canLay0=true/\d.depth<=20/\bw ds<=20/\c=ds.any λz=>bX z d:=by
 unfold Eh at e;cases e0:kP S ty with
 |none=>simp only[e0] at e;cases e
 | some ts=>
   obtain⟨p,xs,rfl,h1,h2⟩:=r.seq dy e0;simp only[e0] at e;cases ef:Eg tx ts with
   | some b=>
     simp only[ef] at e;cases e;unfold Eg at ef;cases e1:toV tx with
     |none=>simp[e1] at ef
     | some u=>
       cases e2:ts.mapM toV with
       |none=>simp[e1,e2] at ef
       | some us=>
         simp only[e1,e2] at ef
         split at ef
         .rename_i hf
          rw[cv] at hf;cases ef;have q1:=Ef dx e1;have q2:=Ld h2 e2;subst q1 q2;refine .inl ⟨p,xs,rfl,?_,hf.1,hf.2,rfl⟩;rcases h1 with h1 | h1
          .exact .inl (.inl h1)
          .exact .inr (.inl h1)
         .cases ef
   | none =>
     simp only[ef] at e;cases e1:pd tx with
     |none=>simp[e1] at e
     | some d=>
       cases e2:md ts with
       |none=>simp[e1,e2] at e
       | some ds=>
         simp only[e1,e2] at e
         split at e
         .rename_i hc
          simp only[cv,decide_eq_true_eq] at hc;cases e;exact .inr ⟨p,xs,ds,d,rfl,h1,lQ r _ _ _ h2 e2,La r _ _ _ dx e1,hc.1.1.2,hc.1.1.1,hc.1.2,hc.2,rfl⟩
         .cases e
theorem ZU(hu:X.A.units+64<fT):kK X (cX .In) (Ei false):=by
 intro ag s σ H x y v u Q I rx ry h;obtain⟨p,xs,ds,d,rfl,hp,rs,rd,cs,cd,hd,hds,q⟩:=h;cases ry;obtain⟨bs,qb⟩:=gB I.cD d x v rd rx;rcases hp with hp | hp
 .obtain⟨as,qa⟩:=gB I.cD (.list ds) (.ref p) (.ref p) (by simp only[kQ];exact⟨p,xs,rfl,hp,rs⟩) rfl
  exact in_list_reads qa qb cs cd (by omega) ⟨.bl _,H,I,rfl,q⟩
 .obtain⟨as,qa⟩:=gB I.cD (.tuple ds) (.ref p) (.ref p) (by simp only[kQ];exact⟨p,xs,rfl,hp,rs⟩) rfl
  exact in_tuple_reads qa qb cs cd (by omega) ⟨.bl _,H,I,rfl,q⟩
theorem ZV(K:aM):G2 E (λx y H Q=>Qv K false x y H Q\/Ei false x y H Q) uw:=by
 intro tx ty W S H x y Q r dx dy p;unfold uw at p;cases e:Eh S tx ty with
 |none=>simp only[e] at p;exact p.elim
 | some c=>
   simp only[e] at p;rcases ZT K r dx dy e with⟨q,xs,rfl,h1,h2,h3,rfl⟩ | ⟨q,xs,ds,d,rfl,h1,h2,h3,h4,h5,h6,h7,rfl⟩
   .exact .inl ⟨q,xs,rfl,h1,h2,h3,now p r (jB.mpr rfl)⟩
   .exact .inr ⟨q,xs,ds,d,rfl,h1,h2,h3,h4,h5,h6,h7,now p r (jB.mpr rfl)⟩
end
end MF
namespace MF
open PySem L2
noncomputable def Le(t:T):M Bool:=λS=>match t with
 |.bl b=>.ok b S
 |_=>.bad
noncomputable def nR(t:T):M Bool:=λS=>match t with
 |.bH=>.ok false S
 |.bl b=>.ok b S
 |.int i=>.ok (i != 0) S
 |.str x=>if x.length<=1000 then .ok ((x.length:Int) != 0) S else .bad
 | t=>match kP S t with
   |some ts=>.ok (!ts.isEmpty) S
   |none=>.bad
def eK(f:DE):DT:=fun ρ=>(f ρ).bind Le
def qX(f:DE):DT:=fun ρ=>(f ρ).bind nR
noncomputable def xu(f g:DT):DT:=fun ρ=>(f ρ).bind λc=>if c=true then g ρ else M.pure false
noncomputable def vz(f g:DT):DT:=fun ρ=>(f ρ).bind λc=>if c=true then M.pure true else g ρ
noncomputable def zi(f:DT):DT:=fun ρ=>(f ρ).bind λc=>M.pure (!c)
section
variable {X:Cx}{E:XK}{a b c e:bt}{es:List bt}{fa fb fc:DE}{ta tb:DT}{fr:DA}{pos:Pos}
theorem Lf{f:DE}{σ:St}{H:Hp}{Q:Bool->Hp->Prop}(h:RT E (eK f) σ H Q):RE E f σ H (λx H'=>∃k,x=.bl k/\Q k H'):=by
 obtain⟨W,S,ρ,rp,env,p⟩:=h;refine⟨W,S,ρ,rp,env,(bq.bind p).imp λt W1 S1 H1 l1 r1 p1 v dv=>?_⟩;cases t with
 |bl k=>exact⟨k,jB.mp dv,p1 W1 H1 (Wd.le.refl _) r1⟩
 |_=>exact p1.elim
theorem zj{op:uL}{r:R2}{g:T->T->M T}(ho:kK X (cX op) r)(hg:G2 E r g)(ha:PE X a (RE E fa))(hb:PE X b (RE E fb))(hm:cU op b=false):PT X (.Compare a [op] [b] pos) (RT E (eK (e2 g fa fb))):=
 Ed (Xq ho ha hb hm) fun σ H Q h=>sN hg (Lf h)
theorem fB(hu:X.A.units+64<fT)(ha:PE X a (RE E fa))(hb:PE X b (RE E fb)):PT X (.Compare a [.Eq] [b] pos) (RT E (eK (e2 gG fa fb))):=zj (PK.or (Rt hu)) Rx ha hb (w_ _)
theorem pB(hu:X.A.units+64<fT)(ha:PE X a (RE E fa))(hb:PE X b (RE E fb)):PT X (.Compare a [.NotEq] [b] pos) (RT E (eK (e2 mI fa fb))):=zj (PM.or (Ru hu)) Ry ha hb (w_ _)
theorem Lg(ha:PE X a (RE E fa))(hb:PE X b (RE E fb)):PT X (.Compare a [.Lt] [b] pos) (RT E (eK (e2 (gI K9) fa fb))):=zj Xk (G' λi j t e W=>by cases e;exact jB.mpr rfl) ha hb (w_ _)
theorem Ej(ha:PE X a (RE E fa))(hb:PE X b (RE E fb)):PT X (.Compare a [.Gt] [b] pos) (RT E (eK (e2 (gI GZ) fa fb))):=zj Xl (G' λi j t e W=>by cases e;exact jB.mpr rfl) ha hb (w_ _)
theorem Ek(ha:PE X a (RE E fa))(hb:PE X b (RE E fb)):PT X (.Compare a [.GtE] [b] pos) (RT E (eK (e2 (gI G_) fa fb))):=zj Xm (G' λi j t e W=>by cases e;exact jB.mpr rfl) ha hb (w_ _)
theorem xw(hu:X.A.units+64<fT)(ha:PE X a (RE E fa))(hb:PE X b (RE E fb))(hm:cU .In b=false:=by with_unfolding_all rfl):PT X (.Compare a [.In] [b] pos) (RT E (eK (e2 uw fa fb))):=zj (Yt.or (ZU hu)) (ZV X.K) ha hb hm
theorem Rz{W:Wd}{S:bI}{H:Hp}{t:T}{v:V}{Q:Bool->Hp->Prop}{K:aM}(r:cQ W S H)(d:cz W t v)(p:bq E W (λb _ _ H'=>Q b H') (nR t S)):∃k,uZ K v H k/\Q k H:=by
 have go:∀{k:Bool},bq E W (λb _ _ H'=>Q b H') (.ok k S)->Q k H:=λp=>p W H (Wd.le.refl _) r;have sq:∀{t:T},cz W t v->bq E W (λb _ _ H'=>Q b H') (match kP S t with|some ts=>.ok (!ts.isEmpty) S | none=>.bad)->∃k,uZ K v H k/\Q k H:=λ{t} d p=>by
  cases e:kP S t with
  |none=>simp only[e] at p;exact p.elim
  | some ts=>
    simp only[e] at p;obtain⟨a,vs,rfl,h1,h2⟩:=r.seq d e;have hl:(!ts.isEmpty)=!vs.isEmpty:=by
     have:=h2.length;cases ts<;>cases vs<;>simp_all
    refine⟨_,?_,go p⟩;rcases h1 with h1 | h1
    .exact .inl ⟨vs,.inl h1,hl⟩
    .exact .inr (.inl ⟨vs,.inl h1,hl⟩)
 unfold nR at p
 split at p
 .rw[o5.mp d];exact⟨_,rfl,go p⟩
 .rw[jB.mp d];exact⟨_,rfl,go p⟩
 .rw[jC.mp d];exact⟨_,rfl,go p⟩
 .split at p
  .rename_i hl;rw[nu.mp d];exact⟨_,⟨rG hl,rfl⟩,go p⟩
  .exact p.elim
 .exact sq d p
theorem sO(ha:PE X a (RE E fa))(he:∀nH,isTrue a X.env nH=(do let v <- nH;jQ a.pos;jR [v] (truthy v)):=by intro _;rfl):PT X a (RT E (qX fa)):=
 Ed (Xs ha he) fun σ H Q h=>by
  obtain⟨W,S,ρ,rp,env,p⟩:=h;exact⟨W,S,ρ,rp,env,(bq.bind p).imp λt W1 S1 H1 l1 r1 p1 v dv=>Rz r1 dv p1⟩
theorem RB{e:bt}{t t':TT}(h:PW X e t)(w:∀σ H Q,t' σ H Q->t σ H Q):PW X e t':=λwh ag s σ H Q I q=>h wh ag s σ H Q I (w σ H Q q)
theorem B2(ha:PT X a (RT E ta)):PW X (.BoolOp .And [a] pos) (RT E ta):=WD ha
theorem Lh(ha:PT X a (RT E ta)):PW X (.BoolOp .Or [a] pos) (RT E ta):=WE ha
theorem RC{c:Bool}{σ:St}{H:Hp}{Q:Bool->Hp->Prop}(h:RT E (λ_=>M.pure c) σ H Q):Q c H:=by
 obtain⟨W,S,ρ,rp,env,p⟩:=h;exact p W H (Wd.le.refl _) rp
theorem B3(ha:PT X a (RT E ta))(hb:PW X (.BoolOp .And (b::es) pos) (RT E tb)):PW X (.BoolOp .And (a::b::es) pos) (RT E (xu ta tb)):=
 RB (WG ha hb) fun σ H Q h=>by
  obtain⟨W,S,ρ,rp,env,p⟩:=h;refine⟨W,S,ρ,rp,env,(bq.bind p).imp λc W1 S1 H1 l1 r1 p1=>?_⟩;cases c with
  |true=>exact rK ⟨W1,S1,ρ,r1,env.mono l1,p1⟩
  |false=>exact rJ (p1 W1 H1 (Wd.le.refl _) r1)
theorem AE(ha:PT X a (RT E ta))(hb:PW X (.BoolOp .Or (b::es) pos) (RT E tb)):PW X (.BoolOp .Or (a::b::es) pos) (RT E (vz ta tb)):=
 RB (WH ha hb) fun σ H Q h=>by
  obtain⟨W,S,ρ,rp,env,p⟩:=h;refine⟨W,S,ρ,rp,env,(bq.bind p).imp λc W1 S1 H1 l1 r1 p1=>?_⟩;cases c with
  |false=>exact rJ ⟨W1,S1,ρ,r1,env.mono l1,p1⟩
  |true=>exact rK (p1 W1 H1 (Wd.le.refl _) r1)
theorem B4(ha:PT X a (RT E ta)):PT X (.UnaryOp .Not a pos) (RT E (zi ta)):=Ed (WI ha) fun σ H Q h=>by
 obtain⟨W,S,ρ,rp,env,p⟩:=h;exact⟨W,S,ρ,rp,env,(bq.bind p).imp λc W1 S1 H1 l1 r1 p1=>p1 W1 H1 (Wd.le.refl _) r1⟩
noncomputable def xx(f g:DE):DE:=fun ρ=>(f ρ).bind λx=>match x with
 |.bl true=>g ρ
 |.bl false=>M.pure (.bl false)
 |_=>M.bad
noncomputable def AF(f:DE):DE:=fun ρ=>(f ρ).bind λx=>(nR x).bind λb=>M.pure (.bl (!b))
noncomputable def Li(c:DT)(f g:DE):DE:=fun ρ=>(c ρ).bind λb=>if b=true then f ρ else g ρ
theorem ZW{op}(ha:PE X a (RE E fa)):PE X (.BoolOp op [a] pos) (RE E fa):=WK ha
theorem ZX(ha:PE X a (RE E fa))(hb:PE X (.BoolOp .And (b::es) pos) (RE E fb)):PE X (.BoolOp .And (a::b::es) pos) (RE E (xx fa fb)):=iQ (WL ha hb) fun σ H Q h=>by
 obtain⟨W,S,ρ,rp,env,p⟩:=h;refine⟨W,S,ρ,rp,env,(bq.bind p).imp λt W1 S1 H1 l1 r1 p1 v dv=>?_⟩;cases t with
 | bl k=>
   refine⟨k,jB.mp dv,?_⟩;cases k with
   |true=>exact rK ⟨W1,S1,ρ,r1,env.mono l1,p1⟩
   |false=>exact rJ (now p1 r1 (jB.mpr rfl))
 |_=>exact p1.elim
theorem ZY{ta:TE}(ha:PE X a ta):PE X (.UnaryOp .Not a pos) (fun σ H Q=>ta σ H λx H1=>∃k,uZ X.K x H1 k/\Q (.bl (!k)) H1):=by
 intro ag s σ H Q I h;refine Js (dM (ha ag s σ H _ I h) λv s1 cS=>?_);obtain⟨x,H1,I1,r1,k,tr,q1⟩:=cS;refine Jt ?_;exact dM (PR ag s1 σ H1 x v (λb H'=>Q (.bl (!b)) H') I1 r1 ⟨k,tr,q1⟩) λb s2 ⟨H2,I2,q2⟩=>⟨.bl (!b),H2,I2,rfl,q2⟩
theorem ZZ(ha:PE X a (RE E fa)):PE X (.UnaryOp .Not a pos) (RE E (AF fa)):=iQ (ZY ha) fun σ H Q h=>by
 obtain⟨W,S,ρ,rp,env,p⟩:=h;refine⟨W,S,ρ,rp,env,(bq.bind p).imp λt W1 S1 H1 l1 r1 p1 v dv=>?_⟩;refine Rz (Q:=λk H'=>Q (.bl (!k)) H') r1 dv ((bq.bind p1).imp λb W2 S2 H2 l2 r2 p2=>now p2 r2 (jB.mpr rfl))
theorem Z3(hc:PT X c (RT E ta))(ha:PE X a (RE E fa))(hb:PE X b (RE E fb)):PE X (.IfExp c a b pos) (RE E (Li ta fa fb)):=iQ (WN hc ha hb) fun σ H Q h=>by
 obtain⟨W,S,ρ,rp,env,p⟩:=h;refine⟨W,S,ρ,rp,env,(bq.bind p).imp λk W1 S1 H1 l1 r1 p1=>?_⟩;cases k with
 |true=>exact rK ⟨W1,S1,ρ,r1,env.mono l1,p1⟩
 |false=>exact rJ ⟨W1,S1,ρ,r1,env.mono l1,p1⟩
noncomputable def pC:T->Bool
 |.bH=>true
 |_=>false
theorem RD{W:Wd}{t:T}{v:V}(d:cz W t v):decide (v=.bH)=pC t:=by
 cases t with
 |bH=>rw[o5.mp d];rfl
 |bl _=>rw[jB.mp d];rfl
 |int _=>rw[jC.mp d];rfl
 |str _=>rw[nu.mp d];rfl
 |lst _=>obtain⟨a,vs,rfl,_⟩:=rP.mp d;rfl
 |tup _=>obtain⟨a,vs,rfl,_⟩:=rQ.mp d;rfl
 |dic _=>obtain⟨a,vs,rfl,_⟩:=xl.mp d;rfl
 |obj _=>obtain⟨rfl,_⟩:=nQ.mp d;rfl
noncomputable def tS(x y:T):M T:=λS=>match y with
 |.bH=>.ok (.bl (pC x)) S
 | .bl b=>(match x with
   |.bl a=>.ok (.bl (a==b)) S
   |_=>.bad)
 |_=>.bad
noncomputable def zk(x y:T):M T:=λS=>match y with
 |.bH=>.ok (.bl (!pC x)) S
 | .bl b=>(match x with
   |.bl a=>.ok (.bl (!(a==b))) S
   |_=>.bad)
 |_=>.bad
theorem Z4:kK X (cX .IsNot) (λx y H Q=>∃a b,x=.bl a/\y=.bl b/\Q (.bl (!(a==b))) H):=by
 intro ag s σ H x y v u Q I rx ry h;obtain⟨a,b,rfl,rfl,q⟩:=h;cases rx;cases ry;refine wpAny_isNot_plain rfl ⟨.bl (!(a==b)),H,I,?_,q⟩;show dW (!(dW a==dW b))=dW (!(a==b));cases a<;>cases b<;>rfl
theorem Z5:G2 E (λx y H Q=>(y=.bH/\Q (.bl (decide (x=.bH))) H)\/(∃a b,x=.bl a/\y=.bl b/\Q (.bl (a==b)) H)) tS:=by
 intro tx ty W S H x y Q r dx dy p;unfold tS at p
 split at p
 .exact .inl ⟨o5.mp dy,by rw[RD dx];exact now p r (jB.mpr rfl)⟩
 .split at p
  .exact .inr ⟨_,_,jB.mp dx,jB.mp dy,now p r (jB.mpr rfl)⟩
  .exact p.elim
 .exact p.elim
theorem Z6:G2 E (λx y H Q=>(y=.bH/\Q (.bl (!decide (x=.bH))) H)\/(∃a b,x=.bl a/\y=.bl b/\Q (.bl (!(a==b))) H)) zk:=by
 intro tx ty W S H x y Q r dx dy p;unfold zk at p
 split at p
 .exact .inl ⟨o5.mp dy,by rw[RD dx];exact now p r (jB.mpr rfl)⟩
 .split at p
  .exact .inr ⟨_,_,jB.mp dx,jB.mp dy,now p r (jB.mpr rfl)⟩
  .exact p.elim
 .exact p.elim
theorem AG(ha:PE X a (RE E fa))(hb:PE X b (RE E fb)):PT X (.Compare a [.Is] [b] pos) (RT E (eK (e2 tS fa fb))):=zj (Xn.or Zg) Z5 ha hb (w_ _)
theorem Lj(ha:PE X a (RE E fa))(hb:PE X b (RE E fb)):PT X (.Compare a [.IsNot] [b] pos) (RT E (eK (e2 zk fa fb))):=zj (Xo.or Z4) Z6 ha hb (w_ _)
theorem aW.kA{W:Wd}{ts:List T}{vs:List V}{i:Int}{t:T}(h:aW W ts vs)(e:kA ts i=aa t):∃v,L2.kA vs i=aa v/\cz W t v:=by
 unfold L2.kA at e ⊢;rw[<- h.length];cases e1:u9 ts.length i with
 |none=>rw[e1] at e;cases e
 | some j=>
   rw[e1] at e;exact h.get e
noncomputable def dN(x y:T):M T:=λS=>match y with
 | .int i=>(match kP S x with
   | some ts=>(match kA ts i with
     |some t=>.ok t S
     |none=>.bad)
   | none=>match x with
     | .str z=>if z.length<=1000 then(match kA z.cps.toList i with
       |some c=>.ok (.str ⟨#[c]⟩) S
       |none=>.bad) else .bad
     |_=>.bad)
 |_=>.bad
theorem Z7 (K:aM):G2 E (Qt K) dN:=by
 intro tx ty W S H x y Q r dx dy p;unfold dN at p
 split at p
 .rename_i i
  cases e:kP S tx with
  | some ts=>
    simp only[e] at p;cases e2:kA ts i with
    |none=>simp only[e2] at p;exact p.elim
    | some t=>
      simp only[e2] at p;obtain⟨a,vs,rfl,h1,h2⟩:=r.seq dx e;obtain⟨v,e3,dv⟩:=h2.kA e2;rcases h1 with h1 | h1
      .exact .inl ⟨a,vs,i,v,rfl,jC.mp dy,.inl h1,e3,now p r dv⟩
      .exact .inr (.inl ⟨a,vs,i,v,rfl,jC.mp dy,.inl h1,e3,now p r dv⟩)
  | none=>
    simp only[e] at p
    split at p
    .rename_i z
     split at p
     .rename_i hl
      cases e2:kA z.cps.toList i with
      |none=>simp only[e2] at p;exact p.elim
      | some c=>
        simp only[e2] at p;exact .inr (.inr ⟨z,i,c,nu.mp dx,jC.mp dy,rG hl,e2,now p r (nu.mpr rfl)⟩)
     .exact p.elim
    .exact p.elim
 .exact p.elim
theorem cj(ha:PE X a (RE E fa))(hb:PE X b (RE E fb))(hs:Qs b:=by exact λ_ _=>rfl):PE X (.Subscript a b pos) (RE E (e2 dN fa fb)):=iQ (Yl Yp ha hb hs) λ_ _ _=>sN (Z7 X.K)
noncomputable def ft:T->Option bZ
 |.int i=>aa (.inl i)
 |.str x=>aa (.inr x)
 |_=>ae
theorem B5{W:Wd}{t:T}{v:V}{k:bZ}(d:cz W t v)(e:ft t=aa k):v=kV k:=by
 cases t with
 |int i=>cases e;exact jC.mp d
 |str i=>cases e;exact nu.mp d
 |_=>cases e
noncomputable def dR(kvs:List (bZ×T))(k:bZ):Option T:=(kvs.find? λkv=>decide (kv.1=k)).map (·.2)
noncomputable def mY(kvs:List (bZ×T))(k:bZ)(v:T):List (bZ×T):=
 if(kvs.any λkv=>decide (kv.1=k))=true then kvs.map (λkv=>if kv.1=k then(kv.1,v) else kv) else kvs++[(k,v)]
theorem bQ.val{W:Wd}:∀{kvs:List (bZ×T)} {ks:List (bZ×V)} (k:bZ),bQ W kvs ks->(∀t,dR kvs k=aa t->∃v,kz ks k=aa v/\cz W t v)/\(dR kvs k=ae->kz ks k=ae)
 |[],ks,k,h=>by rw[qV.mp h];exact⟨(λt e=>by cases e),λ_=>rfl⟩
 | (k',t)::kvs,ks,k,h=>by
   obtain⟨v,r,rfl,h1,h2⟩:=sJ.mp h;have ih:=bQ.val k h2;by_cases e:k'=k
   .have a:dR ((k',t)::kvs) k=aa t:=by simp[dR,bU,e]
    have b:kz ((k',v)::r) k=aa v:=GC e;rw[a,b];exact⟨λt' e'=>by cases e';exact⟨v,rfl,h1⟩,λz=>by cases z⟩
   .have a:dR ((k',t)::kvs) k=dR kvs k:=by simp[dR,bU,e]
    have b:kz ((k',v)::r) k=kz r k:=GD e;rw[a,b];exact ih
theorem bQ.any{W:Wd}:∀{kvs:List (bZ×T)} {ks:List (bZ×V)} (k:bZ),bQ W kvs ks->(kvs.any λkv=>decide (kv.1=k))=ks.any λkv=>decide (kv.1=k)
 |[],ks,k,h=>by rw[qV.mp h];rfl
 | (k',t)::kvs,ks,k,h=>by
   obtain⟨v,r,rfl,h1,h2⟩:=sJ.mp h;rw[fC,fC,bQ.any k h2]
theorem bQ.tG{W:Wd}{t0:T}{v0:V}(d:cz W t0 v0):∀{kvs:List (bZ×T)} {ks:List (bZ×V)} (k:bZ),bQ W kvs ks->bQ W (kvs.map (λkv=>if kv.1=k then(kv.1,t0) else kv)) (ks.map (λkv=>if kv.1=k then(kv.1,v0) else kv))
 |[],ks,k,h=>by rw[qV.mp h];exact bQ.gb
 | (k',t)::kvs,ks,k,h=>by
   obtain⟨v,r,rfl,h1,h2⟩:=sJ.mp h;have ih:=bQ.tG d k h2;rw[aC,aC];by_cases e:k'=k
   .rw[if_pos e,if_pos e];exact bQ.eB d ih
   .rw[if_neg e,if_neg e];exact bQ.eB h1 ih
theorem bQ.snoc{W:Wd}{t0:T}{v0:V}(d:cz W t0 v0):∀{kvs:List (bZ×T)} {ks:List (bZ×V)} (k:bZ),bQ W kvs ks->bQ W (kvs++[(k,t0)]) (ks++[(k,v0)])
 |[],ks,k,h=>by rw[qV.mp h];exact bQ.eB d bQ.gb
 | (k',t)::kvs,ks,k,h=>by
   obtain⟨v,r,rfl,h1,h2⟩:=sJ.mp h;exact bQ.eB h1 (bQ.snoc d k h2)
theorem bQ.put{W:Wd}{t0:T}{v0:V}(d:cz W t0 v0){kvs:List (bZ×T)}{ks:List (bZ×V)}(k:bZ)(h:bQ W kvs ks):bQ W (mY kvs k t0) (jV ks k v0):=by
 unfold mY jV;rw[h.any k];by_cases e:(ks.any λkv=>decide (kv.1=k))=true
 .rw[if_pos e,if_pos e];exact bQ.tG d k h
 .rw[if_neg e,if_neg e];exact bQ.snoc d k h
noncomputable def i9(x y:T):M T:=λS=>match ow S x,ft y with
 | some kvs,aa k=>(match dR kvs k with
   |some t=>.ok t S
   |none=>.bad)
 |_,_=>.bad
noncomputable def jY(y x:T):M T:=λS=>match ow S x with
 | some kvs=>(match ft y with
   |some k=>.ok (.bl (dR kvs k).isSome) S
   | none=>match y with
     |.bH=>.ok (.bl false) S
     |_=>.bad)
 |none=>.bad
noncomputable def vA(y x:T):M T:=λS=>match ow S x,ft y with
 |some kvs,aa k=>.ok (.bl (!(dR kvs k).isSome)) S
 |_,_=>.bad
theorem Lk{W:Wd}{S:bI}{H:Hp}(r:cQ W S H){tx ty:T}{x y:V}{kvs:List (bZ×T)}{k:bZ}(dx:cz W tx x)(dy:cz W ty y)(e1:ow S tx=aa kvs)(e2:ft ty=aa k) :
  ∃a o,x=.ref a/\nJ H a y o/\(∀t,dR kvs k=aa t->∃v,o=aa v/\cz W t v)/\(dR kvs k).isSome=o.isSome:=by
 obtain⟨a,ks,rfl,h1,h2⟩:=r.dict dx e1;obtain⟨q1,q2⟩:=h2.val k;refine⟨a,kz ks k,rfl,.inl ⟨ks,k,h1,B5 dy e2,rfl⟩,q1,?_⟩;cases e:dR kvs k with
 |none=>rw[q2 e];rfl
 |some t=>obtain⟨v,e3,_⟩:=q1 t e;rw[e3];rfl
theorem AH (hu:X.A.units+1<fT) (ha:PE X a (RE E fa)) (hb:PE X b (RE E fb)) (hs:Ag b:=by exact λ_ _=>rfl):PE X (.Subscript a b pos) (RE E (e2 i9 fa fb)):=
 iQ (X6 hu ha hb hs) fun σ H Q h=>sN (r:=λx y H Q=>∃a v,x=.ref a/\nJ H a y (aa v)/\Q v H) (λtx ty W S H x y Q r dx dy p=>by
  unfold i9 at p;cases e1:ow S tx with
  |none=>simp only[e1] at p;exact p.elim
  | some kvs=>
    cases e2:ft ty with
    |none=>simp only[e1,e2] at p;exact p.elim
    | some k=>
      simp only[e1,e2] at p;cases e3:dR kvs k with
      |none=>simp only[e3] at p;exact p.elim
      | some t=>
        simp only[e3] at p;obtain⟨a,o,rfl,g,q1,_⟩:=Lk r dx dy e1 e2;obtain⟨v,rfl,dv⟩:=q1 t e3;exact⟨a,v,rfl,g,now p r dv⟩) h
theorem RF:G2 E (λy x H Q=>∃a,x=.ref a/\((∃r,nJ H a y r/\Q (.bl r.isSome) H)\/(y=.bH/\(∃kvs,Rd H a (.dK kvs))/\Q (.bl false) H))) jY:=by
 intro ty tx W S H y x Q r dy dx p;unfold jY at p;cases e1:ow S tx with
 |none=>simp only[e1] at p;exact p.elim
 | some kvs=>
   simp only[e1] at p;cases e2:ft ty with
   | some k=>
     simp only[e2] at p;obtain⟨a,o,rfl,g,_,q⟩:=Lk r dx dy e1 e2;exact⟨a,rfl,.inl ⟨o,g,by rw[<- q];exact now p r (jB.mpr rfl)⟩⟩
   | none=>
     simp only[e2] at p
     split at p
     .obtain⟨a,ks,rfl,h1,h2⟩:=r.dict dx e1
      exact⟨a,rfl,.inr ⟨o5.mp dy,⟨ks,h1⟩,now p r (jB.mpr rfl)⟩⟩
     .exact p.elim
theorem Z8:G2 E (λy x H Q=>∃a o,x=.ref a/\nJ H a y o/\Q (.bl (!o.isSome)) H) vA:=by
 intro ty tx W S H y x Q r dy dx p;unfold vA at p;cases e1:ow S tx with
 |none=>simp only[e1] at p;exact p.elim
 | some kvs=>
   cases e2:ft ty with
   |none=>simp only[e1,e2] at p;exact p.elim
   | some k=>
     simp only[e1,e2] at p;obtain⟨a,o,rfl,g,_,q⟩:=Lk r dx dy e1 e2;exact⟨a,o,rfl,g,by rw[<- q];exact now p r (jB.mpr rfl)⟩
theorem Z9(hu:X.A.units+1<fT)(ha:PE X a (RE E fa))(hb:PE X b (RE E fb))(hm:cU .In b=false:=by with_unfolding_all rfl):PE X (.Compare a [.In] [b] pos) (RE E (e2 jY fa fb)):=iQ (WB (Q4 hu ha hb) hm) fun σ H Q h=>sN RF h
theorem Hb(hu:X.A.units+1<fT)(ha:PE X a (RE E fa))(hb:PE X b (RE E fb))(hm:cU .In b=false:=by with_unfolding_all rfl):PT X (.Compare a [.In] [b] pos) (RT E (eK (e2 jY fa fb))):=Ed (Pn (Q4 hu ha hb) hm) fun σ H Q h=>sN RF (Lf h)
theorem Ll(hu:X.A.units+1<fT)(ha:PE X a (RE E fa))(hb:PE X b (RE E fb))(hm:cU .NotIn b=false:=by with_unfolding_all rfl):PT X (.Compare a [.NotIn] [b] pos) (RT E (eK (e2 vA fa fb))):=Ed (Pn (X7 hu ha hb) hm) fun σ H Q h=>sN Z8 (Lf h)
end
noncomputable def ir(ts:List T):M T:=λS=>if ts.length<=1000 then .ok (.lst ts) S else .bad
noncomputable def iR(ts:List T):M T:=λS=>if ts.length<=1000 then .ok (.obj S.length) (S++[.lst ts]) else .bad
noncomputable def gm(ts:List T):M T:=λS=>if ts.length<=1000 then .ok (.tup ts) S else .bad
def eA(g:List T->M T)(f:DA):DE:=fun ρ=>(f ρ).bind g
noncomputable def B6:DE:=λ_ S=>.ok (.obj S.length) (S++[.dic []])
section
variable {X:Cx}{E:XK}{a b c e o:bt}{es:List bt}{fa fb fc:DE}{ta tb:DT}{fr:DA}{pos:Pos}
theorem Lm{g:List T->M T}{r:List V->Hp->VK->Prop}(hg:∀(ts:List T) (W:Wd) (S:bI) (H:Hp) (vs:List V) (Q:VK),cQ W S H->aW W ts vs->bq E W (QV Q) (g ts S)->r vs H Q){σ:St}{H:Hp}{Q:VK}
  (h:RE E (eA g fr) σ H Q):RA E fr σ H (λvs H1=>r vs H1 Q):=by
 obtain⟨W,S,ρ,rp,env,p⟩:=h;exact⟨W,S,ρ,rp,env,(bq.bind p).imp λts W1 S1 H1 l1 r1 p1 vs dv=>hg ts W1 S1 H1 vs Q r1 dv p1⟩
theorem o6(h:PA X es (RA E fr)):PE X (.List es pos) (RE E (eA ir fr)):=iQ (P6 h) fun σ H Q q=>Lm (r:=λvs H Q=>vs.length<=sizeLine/\∀p,H p=ae->Q (.ref p) (upd H p (.lst vs))) (λts W S H vs Q r d p=>by
 unfold ir at p
 split at p
 .rename_i hl;exact⟨rG (by rw[<- d.length];exact hl),Ha p r d⟩
 .exact p.elim) q
theorem qY(h:PA X es (RA E fr)):PE X (.List es pos) (RE E (eA iR fr)):=iQ (P6 h) fun σ H Q q=>Lm (r:=λvs H Q=>vs.length<=sizeLine/\∀p,H p=ae->Q (.ref p) (upd H p (.lst vs))) (λts W S H vs Q r d p=>by
 unfold iR at p
 split at p
 .rename_i hl;exact⟨rG (by rw[<- d.length];exact hl),Rp p r d⟩
 .exact p.elim) q
theorem nB{k}(h:PA X es (RA E fr)):PE X (.Tuple es k pos) (RE E (eA gm fr)):=iQ (XJ h) fun σ H Q q=>Lm (r:=λvs H Q=>vs.length<=sizeLine/\∀p,H p=ae->Q (.ref p) (upd H p (.tup vs))) (λts W S H vs Q r d p=>by
 unfold gm at p
 split at p
 .rename_i hl;exact⟨rG (by rw[<- d.length];exact hl),K' p r d⟩
 .exact p.elim) q
theorem Hc:PE X (.Dict [] [] pos) (RE E B6):=iQ X_ fun σ H Q h a ha=>by
 obtain⟨W,S,ρ,r,env,p⟩:=h;refine p (W.add a) _ Wd.i7 (r.lM ha (.dic []) _ ⟨[],fX,bQ.gb⟩) _ (nQ.mpr ⟨?_,?_⟩)
 .rw[r.len,Wd.i8]
 .rw[r.len];exact dE _
noncomputable def mZ(t:T):M T:=λS=>match kP S t with
 |some ts=>.ok (.int ts.length) S
 | none=>match t with
   |.str x=>if x.length<=1000 then .ok (.int x.length) S else .bad
   |_=>.bad
theorem xy{W:Wd}{t:T}{vs:List V}(h:aW W [t] vs):∃v,vs=[v]/\cz W t v:=by
 obtain⟨v,r,rfl,h1,h2⟩:=nv.mp h;rw[oq.mp h2];exact⟨v,rfl,h1⟩
theorem Ln{x:Str}{id:String}{p:Pos}{r:List V->Hp->VK->Prop}{g:T->M T}(hc:rC X (.builtin id) r)(hg:∀(t:T) (W:Wd) (S:bI) (H:Hp) (v:V) (Q:VK),cQ W S H->cz W t v->bq E W (QV Q) (g t S)->r [v] H Q)
  (gl:Gl X x) (hm:X.mg x=ae) (hv:dz x=aa (.builtin id)) (ha:PE X e (RE E fa)) (hn:x ≠ "__name__") (jE:(x==("__debug__" : Str))=false)
  (he:av [e] X.env=(false,eval e X.env)::av [] X.env) (gF:(bK pos (av [] X.env)).any (·.1)=false):PE X (.Call (.Name x p) [e] [] pos) (RE E (e1 g fa)):=
 iQ (Qf hc gl hm hv (u4 ha y_ he) hn jE he gF) fun σ H Q h=>qW (r:=λx H Q=>r [x] H Q) hg h
theorem Lo{x:Str}{id:String}{p:Pos}{r:List V->Hp->VK->Prop}{g:T->M T}(hc:rC X (.type id) r)(hg:∀(t:T) (W:Wd) (S:bI) (H:Hp) (v:V) (Q:VK),cQ W S H->cz W t v->bq E W (QV Q) (g t S)->r [v] H Q)
  (gl:Gl X x) (hm:X.mg x=ae) (hv:dz x=aa (.type id)) (ha:PE X e (RE E fa)) (hn:x ≠ "__name__") (jE:(x==("__debug__" : Str))=false)
  (he:av [e] X.env=(false,eval e X.env)::av [] X.env) (gF:(bK pos (av [] X.env)).any (·.1)=false):PE X (.Call (.Name x p) [e] [] pos) (RE E (e1 g fa)):=
 iQ (Qg hc gl hm hv (u4 ha y_ he) hn jE he gF) fun σ H Q h=>qW (r:=λx H Q=>r [x] H Q) hg h
theorem Z_(K:aM)(t:T)(W:Wd)(S:bI)(H:Hp)(v:V)(Q:VK)(r:cQ W S H)(d:cz W t v)(p:bq E W (QV Q) (mZ t S)):∃x n,[v]=[x]/\Dt K x H n/\Q (.int n) H:=by
 unfold mZ at p;cases e:kP S t with
 | some ts=>
   simp only[e] at p;obtain⟨a,vs,rfl,h1,h2⟩:=r.seq d e;refine⟨_,ts.length,rfl,?_,now p r (jC.mpr rfl)⟩;rcases h1 with h1 | h1
   .exact .inl ⟨vs,.inl h1,h2.length⟩
   .exact .inr ⟨vs,.inl h1,h2.length⟩
 | none=>
   simp only[e] at p
   split at p
   .split at p
    .rename_i hl;rw[nu.mp d];exact⟨_,_,rfl,⟨rG hl,rfl⟩,now p r (jC.mpr rfl)⟩
    .exact p.elim
   .exact p.elim
theorem Hd{p:Pos}(gl:Gl X "len")(hm:X.mg "len" = ae)(ha:PE X e (RE E fa))
  (he:av [e] X.env=(false,eval e X.env)::av [] X.env:=by rfl) (gF:(bK pos (av [] X.env)).any (·.1)=false:=by rfl):PE X (.Call (.Name "len" p) [e] [] pos) (RE E (e1 mZ fa)):=
 Ln Xv (Z_ X.K) gl hm yT ha (by decide) (by decide) he gF
noncomputable def zo(t:T):M T:=λS=>match t with
 | .obj k=>(match S[k]? with
   |some (.dic kvs)=>.ok (.int kvs.length) S
   |_=>.bad)
 |_=>.bad
theorem RG{p:Pos}(gl:Gl X "len")(hm:X.mg "len" = ae)(ha:PE X e (RE E fa))
  (he:av [e] X.env=(false,eval e X.env)::av [] X.env:=by rfl) (gF:(bK pos (av [] X.env)).any (·.1)=false:=by rfl):PE X (.Call (.Name "len" p) [e] [] pos) (RE E (e1 zo fa)):=
 Ln YK (λt W S H v Q r d p=>by
  unfold zo at p
  split at p
  .rename_i k
   split at p
   .rename_i kvs e
    obtain⟨rfl,_⟩:=nQ.mp d;obtain⟨⟨ks,h1,h2⟩,_⟩:=r.cell k _ e;exact⟨_,ks,rfl,h1,by rw[<- h2.length];exact now p r (jC.mpr rfl)⟩
   .exact p.elim
  .exact p.elim) gl hm yT ha (by decide) (by decide) he gF
noncomputable def kT:bZ->T
 |.inl i=>.int i
 |.inr x=>.str x
theorem RJ{W:Wd}(k:bZ):cz W (kT k) (kV k):=by
 cases k with
 |inl i=>exact jC.mpr rfl
 |inr i=>exact nu.mpr rfl
noncomputable def tT(S:bI)(t:T):Option (List T):=match kP S t with
 |some ts=>aa ts
 |none=>(ow S t).map λkvs=>kvs.map λp=>kT p.1
noncomputable def vB(t:T):M T:=λS=>match tT S t with
 |some ts=>.ok (.lst ts) S
 |none=>.bad
noncomputable def wD(t:T):M T:=λS=>match tT S t with
 |some ts=>.ok (.obj S.length) (S++[.lst ts])
 |none=>.bad
theorem Lp{W:Wd}:∀{kvs:List (bZ×T)} {ks:List (bZ×V)},bQ W kvs ks->aW W (kvs.map λp=>kT p.1) (ks.map λp=>kV p.1)
 |[],ks,h=>by rw[qV.mp h];exact aW.gb
 | (k,t)::kvs,ks,h=>by
   obtain⟨v,r,rfl,h1,h2⟩:=sJ.mp h;exact aW.eB (RJ k) (Lp h2)
abbrev Z'(K:aM):List V->Hp->VK->Prop:=λxs H Q=>(∃p ys,xs=[.ref p]/\(lJ K H p ys\/tE K H p ys)/\∀l,H l=ae->Q (.ref l) (upd H l (.lst ys))) \/
 (∃a kvs,xs=[.ref a]/\Rd H a (.dK kvs)/\∀l,H l=ae->Q (.ref l) (upd H l (.lst (kvs.map λp=>kV p.1))))
theorem RK{K:aM}{W:Wd}{S:bI}{H:Hp}{t:T}{v:V}{ts:List T}{Q:VK}(r:cQ W S H)(d:cz W t v)(e:tT S t=aa ts)(h:∀vs,aW W ts vs->∀l,H l=ae->Q (.ref l) (upd H l (.lst vs))):Z' K [v] H Q:=by
 unfold tT at e;cases e1:kP S t with
 | some us=>
   simp only[e1] at e;cases e;obtain⟨a,vs,rfl,h1,h2⟩:=r.seq d e1;refine .inl ⟨a,vs,rfl,?_,h vs h2⟩;rcases h1 with h1 | h1
   .exact .inl (.inl h1)
   .exact .inr (.inl h1)
 | none=>
   simp only[e1] at e;obtain⟨kvs,e2,rfl⟩:=bg.mp e;obtain⟨a,ks,rfl,h1,h2⟩:=r.dict d e2;exact .inr ⟨a,ks,rfl,h1,h _ (Lp h2)⟩
theorem RL:dz "list" = aa (.type "list"):=by decide +kernel
theorem Zam:dz "tuple" = aa (.type "tuple"):=by decide +kernel
theorem Lq{p:Pos}(hc:X.calm=true)(gl:Gl X "list")(hm:X.mg "list" = ae)(ha:PE X e (RE E fa))
  (he:av [e] X.env=(false,eval e X.env)::av [] X.env:=by rfl) (gF:(bK pos (av [] X.env)).any (·.1)=false:=by rfl):PE X (.Call (.Name "list" p) [e] [] pos) (RE E (e1 vB fa)):=
 Lo (Kf.or (Q1 hc)) (λt W S H v Q r d p=>by
  unfold vB at p;cases e:tT S t with
  |none=>simp only[e] at p;exact p.elim
  |some ts=>simp only[e] at p;exact RK r d e λvs dv=>Ha p r dv) gl hm RL ha (by decide) (by decide) he gF
theorem Lr{p:Pos}(hc:X.calm=true)(gl:Gl X "list")(hm:X.mg "list" = ae)(ha:PE X e (RE E fa))
  (he:av [e] X.env=(false,eval e X.env)::av [] X.env:=by rfl) (gF:(bK pos (av [] X.env)).any (·.1)=false:=by rfl):PE X (.Call (.Name "list" p) [e] [] pos) (RE E (e1 wD fa)):=
 Lo (Kf.or (Q1 hc)) (λt W S H v Q r d p=>by
  unfold wD at p;cases e:tT S t with
  |none=>simp only[e] at p;exact p.elim
  |some ts=>simp only[e] at p;exact RK r d e λvs dv=>Rp p r dv) gl hm RL ha (by decide) (by decide) he gF
noncomputable def He(t:T):M T:=λS=>match kP S t with
 |some ts=>.ok (.tup ts) S
 |none=>.bad
theorem z7b{p:Pos}(gl:Gl X "tuple")(hm:X.mg "tuple" = ae)(ha:PE X e (RE E fa))
  (he:av [e] X.env=(false,eval e X.env)::av [] X.env:=by rfl) (gF:(bK pos (av [] X.env)).any (·.1)=false:=by rfl):PE X (.Call (.Name "tuple" p) [e] [] pos) (RE E (e1 He fa)):=
 Lo Yu (λt W S H v Q r d p=>by
  unfold He at p;cases t with
  | tup ts=>
    simp only[kP] at p;obtain⟨a,vs,rfl,h1,h2⟩:=rQ.mp d;exact⟨a,vs,rfl,.inr ⟨.inl (r.sub _ _ h1).1.rd,now p r d⟩⟩
  | lst ts=>
    simp only[kP,cW] at p;obtain⟨a,vs,rfl,h1,h2⟩:=r.list d rfl;exact⟨a,vs,rfl,.inl ⟨.inl h1,K' p r h2⟩⟩
  | obj k=>
    cases e:cW S (.obj k) with
    |none=>simp only[kP,e] at p;exact p.elim
    | some ts=>
      simp only[kP,e] at p;obtain⟨a,vs,rfl,h1,h2⟩:=r.list d e;exact⟨a,vs,rfl,.inl ⟨.inl h1,K' p r h2⟩⟩
  |_=>exact p.elim) gl hm Zam ha (by decide) (by decide) he gF
inductive BT where
 |list | tuple | str | int | bool
noncomputable def BT.nm:BT->String
 |.list => "list" |.tuple => "tuple" |.str => "str" |.int => "int" |.bool => "bool"
noncomputable def qI(S:bI)(c:BT):T->Option Bool
 |.bH=>aa false
 |.bl _=>aa (match c with|.bool=>true | .int=>true | _=>false)
 |.int _=>aa (match c with|.int=>true | _=>false)
 |.str _=>aa (match c with|.str=>true | _=>false)
 |.lst _=>aa (match c with|.list=>true | _=>false)
 |.tup _=>aa (match c with|.tuple=>true | _=>false)
 |.dic _=>ae
 | .obj k=>match S[k]? with
   |some (.lst _)=>aa (match c with|.list=>true | _=>false)
   |_=>ae
noncomputable def tU(c:BT)(t:T):M T:=λS=>match qI S c t with
 |some b=>.ok (.bl b) S
 |none=>.bad
theorem z7c:dz "isinstance" = aa (.builtin "isinstance"):=by decide +kernel
theorem tyL{K:aM}{H:Hp}{a:ai}{vs:List V}(h:Rd H a (.lst vs)):jU K H (.ref a) (.type "list"):=by
 rcases h with h | ⟨o,h⟩
 .exact .lst h
 .exact .eL h
theorem RM{p q:Pos}{y:Str}(c:BT)(gl:Gl X "isinstance")(hm:X.mg "isinstance" = ae)(ha:PE X e (RE E fa))(gy:Gl X y)(my:X.mg y=ae)(by_:dz y=aa (.type c.nm))(ny:y ≠ "__name__":=by decide)(dy:(y==("__debug__" : Str))=false:=by decide)
  (he:av [e,.Name y q] X.env=(false,eval e X.env)::av [.Name y q] X.env:=by rfl) (he2:av [.Name y q] X.env=(false,eval (.Name y q) X.env)::av [] X.env:=by rfl) (gF:(bK pos (av [.Name y q] X.env)).any (·.1)=false:=by rfl) :
  PE X (.Call (.Name "isinstance" p) [e,.Name y q] [] pos) (RE E (e1 (tU c) fa)):=
 iQ (Qf Y' gl hm z7c (u4 ha (u4 (WA (v:=.ty c.nm) gy my by_ rfl ny dy) y_ he2) he) (by decide) (by decide) he gF) fun σ H Q h=>
  qW (r := λx H Q=>∃x' c' cu t b,[x,.ty c.nm]=[x',c']/\RelV c' cu/\(∀u,RelV c' u->u=cu)/\jU X.K H x' t/\oa X.K t cu=aa b/\Q (.bl b) H) (λt W S H v Q r d p=>by
   have go:∀{ty:af} {b:Bool},bq E W (QV Q) (.ok (.bl b) S)->jU X.K H v ty->oa X.K ty (.type c.nm)=aa b->∃x' c' cu t b,[v,.ty c.nm]=[x',c']/\RelV c' cu/\(∀u,RelV c' u->u=cu)/\jU X.K H x' t/\oa X.K t cu=aa b/\Q (.bl b) H:=
    λp ht hk=>⟨_,_,_,_,_,rfl,rfl,(λu z=>z),ht,hk,now p r (jB.mpr rfl)⟩
   unfold tU at p;cases t with
   |bH=>rw[o5.mp d] at go ⊢;cases c<;>exact go p .bH rfl
   |bl b=>rw[jB.mp d] at go ⊢;cases c<;>exact go p (.bl b) rfl
   |int b=>rw[jC.mp d] at go ⊢;cases c<;>exact go p (.int b) rfl
   |str b=>rw[nu.mp d] at go ⊢;cases c<;>exact go p (.str b) rfl
   |lst ts=>obtain⟨a,vs,rfl,h1,h2⟩:=r.list d rfl;cases c<;>exact go p (tyL h1) rfl
   | tup ts=>
     obtain⟨a,vs,rfl,h1,h2⟩:=rQ.mp d;cases c<;>exact go p (.tup (r.sub _ _ h1).1.tup) rfl
   |dic _=>exact p.elim
   | obj k=>
     obtain⟨rfl,_⟩:=nQ.mp d;cases e:S[k]? with
     |none=>simp only[qI,e] at p;exact p.elim
     | some cl=>
       cases cl with
       | lst ts=>
         simp only[qI,e] at p;obtain⟨⟨vs,h1,h2⟩,_⟩:=r.cell k _ e;cases c<;>exact go p (.lst h1) rfl
       |dic _=>simp only[qI,e] at p;exact p.elim
       |ins _ _=>simp only[qI,e] at p;exact p.elim
       |exc _ _=>simp only[qI,e] at p;exact p.elim
       |lck _=>simp only[qI,e] at p;exact p.elim) h
end
noncomputable def tV(f:Str)(v:T):List (Str×T)->List (Str×T)
 |[]=>[(f,v)]
 |(g,x)::r=>if g=f then(g,v)::r else(g,x)::tV f v r
theorem fj.look{W:Wd}{f:Str}:∀{fs:List (Str×T)} {ks:List (Str×V)},fj W fs ks->(∀t,fs.lookup f=aa t->∃v,ks.lookup f=aa v/\cz W t v)/\(fs.lookup f=ae->ks.lookup f=ae)
 |[],ks,h=>by rw[show ks=[] from h];exact⟨(λt e=>by cases e),λ_=>rfl⟩
 | (g,t)::fs,ks,h=>by
   obtain⟨v,r,rfl,h1,h2⟩:=h;have ih:=fj.look (f:=f) h2;by_cases e:f=g
   .have b:(f==g)=true:=beq_iff_eq.mpr e
    simp only[bL,b];exact⟨λt' e'=>by cases e';exact⟨v,rfl,h1⟩,λz=>by cases z⟩
   .have b:(f==g)=false:=beq_eq_false_iff_ne.mpr e
    simp only[bL,b];exact ih
theorem fj.put{W:Wd}{f:Str}{t0:T}{v0:V}(d:cz W t0 v0):∀{fs:List (Str×T)} {ks:List (Str×V)},fj W fs ks->fj W (tV f t0 fs) (iF f v0 ks)
 |[],ks,h=>by rw[show ks=[] from h];exact⟨_,_,rfl,d,rfl⟩
 | (g,t)::fs,ks,h=>by
   obtain⟨v,r,rfl,h1,h2⟩:=h;have ih:=fj.put (f:=f) d h2;rw[show tV f t0 ((g,t)::fs)=(if g=f then(g,t0)::fs else(g,t)::tV f t0 fs) from rfl,show iF f v0 ((g,v)::r)=(if g=f then(g,v0)::r else(g,v)::iF f v0 r) from rfl];by_cases e:g=f
   .rw[if_pos e,if_pos e];exact⟨_,_,rfl,d,h2⟩
   .rw[if_neg e,if_neg e];exact⟨_,_,rfl,h1,ih⟩
noncomputable def o7(S:bI)(C:ai):T->Option (Nat×List (Str×T))
 | .obj k=>match S[k]? with
   |some (.ins C' fs)=>if C'=C then aa (k,fs) else ae
   |_=>ae
 |_=>ae
theorem cQ.inst {W:Wd} {S:bI} {H:Hp} (r:cQ W S H) {C:ai} {t:T} {v:V} {k:Nat} {fs:List (Str×T)} (d:cz W t v) (h:o7 S C t=aa (k,fs)) :
  ∃dx ks,v=.ref (W.μ k)/\S[k]?=aa (.ins C fs)/\H (W.μ k)=aa (.ins C dx ks)/\fj W fs ks:=by
 cases t with
 | obj j=>
   obtain⟨rfl,hj⟩:=nQ.mp d;unfold o7 at h;cases e:S[j]? with
   |none=>simp[e] at h
   | some c=>
     cases c with
     | ins C' wu=>
       simp only[e] at h
       split at h
       .rename_i hc
        cases h;subst hc;obtain⟨⟨dx,ks,h1,h2⟩,_⟩:=r.cell _ _ e;exact⟨dx,ks,rfl,e,h1,h2⟩
       .cases h
     |lst _=>simp[e] at h
     |dic _=>simp[e] at h
     |exc _ _=>simp[e] at h
     |lck _=>simp[e] at h
 |_=>simp[o7] at h
noncomputable def dD(C:ai)(f:Str)(t:T):M T:=λS=>match o7 S C t with
 | some (_,fs)=>(match fs.lookup f with
   |some u=>.ok u S
   |none=>.bad)
 |none=>.bad
noncomputable def lR(C:ai)(f:Str)(fo fv:DE):DS:=fun ρ=>(fv ρ).bind λt=>(fo ρ).bind λo=>λS=>match o7 S C o with
 |some (k,fs)=>if fs.length<900 then .ok (.nx ρ) (S.set k (.ins C (tV f t fs))) else .bad
 |none=>.bad
noncomputable def xA(fd fk fv:DE):DS:=fun ρ=>(fv ρ).bind λt=>(fd ρ).bind λd=>(fk ρ).bind λk=>λS=>match d,ft k with
 | .obj j,aa key=>(match S[j]? with
   |some (.dic kvs)=>if kvs.length<=900 then .ok (.nx ρ) (S.set j (.dic (mY kvs key t))) else .bad
   |_=>.bad)
 |_,_=>.bad
noncomputable def Zes(fl fi fv:DE):DS:=fun ρ=>(fv ρ).bind λt=>(fl ρ).bind λl=>(fi ρ).bind λi=>λS=>match l,i with
 | .obj j,.int n=>(match S[j]? with
   | some (.lst ts)=>(match u9 ts.length n with
     |some m=>.ok (.nx ρ) (S.set j (.lst (ts.set m t)))
     |none=>.bad)
   |_=>.bad)
 |_,_=>.bad
section
variable {X:Cx}{E:XK}{a b c e o i value:bt}{es:List bt}{fa fb fc fo fv fi:DE}{ta tb:DT}{fr:DA}{pos jo:Pos}{f:Str}{C:ai}
theorem iN(cl:nq X.K C)(na:lz X.K C f)(ha:PE X e (RE E fa))(hb:b_ e f X.env (eval e X.env)=eval e X.env:=by rfl):PE X (.Attribute e f pos) (RE E (e1 (dD C f) fa)):=
 iQ (XD ha hb) fun σ H Q h=>qW (r:=λx H1 Q=>∃a C dx fs v,x=.ref a/\H1 a=aa (.ins C dx fs)/\nq X.K C/\lz X.K C f/\fs.lookup f=aa v/\Q v H1) (λt W S H v Q r d p=>by
  unfold dD at p;cases e:o7 S C t with
  |none=>simp only[e] at p;exact p.elim
  | some q=>
    obtain⟨k,fs⟩:=q;simp only[e] at p;cases e2:fs.lookup f with
    |none=>simp only[e2] at p;exact p.elim
    | some u=>
      simp only[e2] at p;obtain⟨dx,ks,rfl,h0,h1,h2⟩:=r.inst d e;obtain⟨v,e3,dv⟩:=h2.look.1 u e2;exact⟨_,C,dx,ks,v,rfl,h1,cl,na,e3,now p r dv⟩) h
theorem mw(cl:nq X.K C)(na:lz X.K C f)(ho:PE X o (RE E fo))(hv:PE X value (RE E fv))(hs:fu value (aa (.Attribute o f jo)) pos.line X.env=pure false:=by rfl):PS X (.Assign [.Attribute o f jo] value pos) (RS E (lR C f fo fv)):=
 tO (XE ho hv hs) λD σ H h=>by
  obtain⟨W,S,ρ,rp,env,p⟩:=h;refine⟨W,S,ρ,rp,env,(bq.bind p).imp λt W1 S1 H1 l1 r1 p1 y dy=>?_⟩;refine⟨W1,S1,ρ,r1,env.mono l1,(bq.bind p1).imp λo W2 S2 H2 l2 r2 p2 x dx=>?_⟩;cases e:o7 S2 C o with
  |none=>simp only[e] at p2;exact p2.elim
  | some q=>
    obtain⟨k,fs⟩:=q;simp only[e] at p2
    split at p2
    .rename_i hl
     obtain⟨d',ks,rfl,h0,h1,h2⟩:=r2.inst dx e;refine⟨_,C,d',ks,rfl,h1,cl,na,by rw[<- h2.length];omega,?_⟩;exact p2 W2 _ (Wd.le.refl _) (r2.cellSet h0 _ _ ⟨d',_,fX,h2.put (cz.mono l2 _ _ dy)⟩) σ (env.mono (l1.trans l2))
    .exact p2.elim
theorem B7(hu:X.A.units+1<fT)(ho:PE X o (RE E fo))(hi:PE X i (RE E fi))(hv:PE X value (RE E fv))(hs:fu value (aa (.Subscript o i jo)) pos.line X.env=pure false:=by rfl):PS X (.Assign [.Subscript o i jo] value pos) (RS E (xA fo fi fv)):=
 tO (X8 hu ho hi hv hs) λD σ H h=>by
  obtain⟨W,S,ρ,rp,env,p⟩:=h;refine⟨W,S,ρ,rp,env,(bq.bind p).imp λt W1 S1 H1 l1 r1 p1 v dv=>?_⟩;refine⟨W1,S1,ρ,r1,env.mono l1,(bq.bind p1).imp λd W2 S2 H2 l2 r2 p2 x dx=>?_⟩;refine⟨W2,S2,ρ,r2,env.mono (l1.trans l2),(bq.bind p2).imp λk W3 S3 H3 l3 r3 p3 y dy=>?_⟩;have dx:=cz.mono l3 _ _ dx;have dv:=cz.mono (l2.trans l3) _ _ dv
  split at p3
  .rename_i e2
   split at p3
   .rename_i kvs e
    split at p3
    .rename_i hl
     obtain⟨rfl,_⟩:=nQ.mp dx;obtain⟨⟨ks,h1,h2⟩,_⟩:=r3.cell _ _ e;refine⟨_,_,rfl,.inl ⟨ks,_,h1,B5 dy ‹ft k=aa _›,QD (by rw[<- h2.length];omega),rfl⟩,?_⟩;exact p3 W3 _ (Wd.le.refl _) (r3.cellSet e _ _ ⟨_,fX,h2.put dv _⟩) σ (env.mono (l1.trans (l2.trans l3)))
    .exact p3.elim
   .exact p3.elim
  .exact p3.elim
noncomputable def kD(ok:bI->T->Bool)(g:T->List T->M T)(fo:DE)(fr:DA):DE:=fun ρ=>(fo ρ).bind λt=>λS=>if ok S t=true then((fr ρ).bind λts=>g t ts) S else .bad
noncomputable def kS(S:bI)(t:T):Bool:=(cW S t).isSome
noncomputable def Hf(_:bI):T->Bool
 |.str _=>true
 |_=>false
def GM(E:XK)(r:V->List V->Hp->VK->Prop)(g:T->List T->M T):Prop:=∀(t:T) (ts:List T) (W:Wd) (S:bI) (H:Hp) (v:V) (vs:List V) (Q:VK),cQ W S H->cz W t v->aW W ts vs->bq E W (QV Q) (g t ts S)->r v vs H Q
theorem El{K:aM}{W:Wd}{S:bI}{H:Hp}{t:T}{v:V}(r:cQ W S H)(d:cz W t v)(h:kS S t=true):Aj K "list" v H:=by
 obtain⟨ts,e⟩:=o9.mp h;obtain⟨a,vs,rfl,h1,_⟩:=r.list d e;exact .inl ⟨rfl,vs,.inl h1⟩
theorem Zao{K:aM}{W:Wd}{S:bI}{H:Hp}{t:T}{v:V}(r:cQ W S H)(d:cz W t v)(h:Hf S t=true):Aj K "str" v H:=by
 cases t with
 |str x=>rw[nu.mp d];exact rfl
 |_=>cases h
theorem vC{ok:bI->T->Bool}{T' id:String}{name:Str}{r:V->List V->Hp->VK->Prop}{g:T->List T->M T}{cP:Pos}(pa:sA T')(slot:Slot T' name id)(Ak:typeOf (.builtin id)=pure (.type "method_descriptor"))(hm:Ai X id r)
  (cD:∀{W:Wd} {S:bI} {H:Hp} {t:T} {v:V},cQ W S H->cz W t v->ok S t=true->Aj X.K T' v H) (hg:GM E r g) (ho:PE X o (RE E fo)) (ha:PA X (e::es) (RA E fr))
  (fG:b_ o name X.env (eval o X.env)=eval o X.env:=by rfl)
  (mv:((bK pos (av (e::es) X.env)).all (λx=>!x.1)&&(eT pos (cT [] X.env)).all (λx=>x.1.isSome)
   && decide ((e::es).length+([]:List gS).length+(if([]:List gS).isEmpty then 0 else 1)<30))=true:=by rfl)
  (fH:(cP.endLine==pos.line)=true:=by rfl) (hs:av (e::es) X.env=(false,eval e X.env)::av es X.env:=by rfl) (rH:(bK pos (av es X.env)).any (·.1)=false:=by rfl) :
  PE X (.Call (.Attribute o name cP) (e::es) [] pos) (RE E (kD ok g fo fr)):=
 iQ (Yx pa slot Ak hm ho ha fG mv fH hs rH) fun σ H Q h=>by
  obtain⟨W,S,ρ,rp,env,p⟩:=h;refine⟨W,S,ρ,rp,env,(bq.bind p).imp λt W1 S1 H1 l1 r1 p1 v dv=>?_⟩
  split at p1
  .rename_i h
   refine⟨cD r1 dv h,W1,S1,ρ,r1,env.mono l1,(bq.bind p1).imp λts W2 S2 H2 l2 r2 p2 vs jA=>?_⟩;exact hg t ts W2 S2 H2 v vs Q r2 (cz.mono l2 _ _ dv) jA p2
  .exact p1.elim
theorem Zdb{ok:bI->T->Bool}{T' id:String}{name:Str}{r:V->List V->Hp->VK->Prop}{g:T->List T->M T}{cP:Pos}(pa:sA T')(slot:Slot T' name id)(Ak:typeOf (.builtin id)=pure (.type "method_descriptor"))(hm:Ai X id r)
  (cD:∀{W:Wd} {S:bI} {H:Hp} {t:T} {v:V},cQ W S H->cz W t v->ok S t=true->Aj X.K T' v H) (hg:GM E r g) (ho:PE X o (RE E fo))
  (fG:b_ o name X.env (eval o X.env)=eval o X.env:=by rfl) (fH:(cP.endLine==pos.line)=true:=by rfl) :
  PE X (.Call (.Attribute o name cP) [] [] pos) (RE E (kD ok g fo aK)):=
 iQ (Yw pa slot Ak hm ho fG fH) fun σ H Q h=>by
  obtain⟨W,S,ρ,rp,env,p⟩:=h;refine⟨W,S,ρ,rp,env,(bq.bind p).imp λt W1 S1 H1 l1 r1 p1 v dv=>?_⟩
  split at p1
  .rename_i h
   exact⟨cD r1 dv h,hg t [] W1 S1 H1 v [] Q r1 dv aW.gb p1⟩
  .exact p1.elim
noncomputable def gr(S:bI):T->Option (Nat×List T)
 | .obj k=>match S[k]? with
   |some (.lst ts)=>aa (k,ts)
   |_=>ae
 |_=>ae
theorem cQ.gr{W:Wd}{S:bI}{H:Hp}(r:cQ W S H){t:T}{v:V}{k:Nat}{ts:List T}(d:cz W t v)(h:gr S t=aa (k,ts)):∃vs,v=.ref (W.μ k)/\S[k]?=aa (.lst ts)/\H (W.μ k)=aa (.lst vs)/\aW W ts vs:=by
 cases t with
 | obj j=>
   obtain⟨rfl,hj⟩:=nQ.mp d;unfold MF.gr at h;cases e:S[j]? with
   |none=>simp[e] at h
   | some c=>
     cases c with
     | lst us=>
       simp only[e] at h;cases h;obtain⟨⟨vs,h1,h2⟩,_⟩:=r.cell _ _ e;exact⟨vs,rfl,e,h1,h2⟩
     |dic _=>simp[e] at h
     |ins _ _=>simp[e] at h
     |exc _ _=>simp[e] at h
     |lck _=>simp[e] at h
 |_=>simp[MF.gr] at h
noncomputable def jG(t:T)(as:List T):M T:=λS=>match gr S t,as with
 |some (k,ts),[y]=>if ts.length<1000 then .ok .bH (S.set k (.lst (ts++[y]))) else .bad
 |_,_=>.bad
noncomputable def mx(t:T)(as:List T):M T:=λS=>match gr S t,as with
 | some (k,ts),[y]=>(match cW S y with
   |some us=>if ts.length+us.length<=1000 then .ok .bH (S.set k (.lst (ts++us))) else .bad
   |none=>.bad)
 |_,_=>.bad
noncomputable def Em(t:T)(as:List T):M T:=λS=>match gr S t,as with
 |some (k,_),[]=>.ok .bH (S.set k (.lst []))
 |_,_=>.bad
noncomputable def B8(t:T)(as:List T):M T:=λS=>match gr S t,as with
 | some (k,ts),[.int i]=>if 0<=i/\i<1000 then(match ts[i.toNat]? with
   |some y=>.ok y (S.set k (.lst (ts.eraseIdx i.toNat)))
   |none=>.bad) else .bad
 |_,_=>.bad
theorem Zap:GM E Qx jG:=by
 intro t as W S H v vs Q r d da p;unfold jG at p
 split at p
 .rename_i k ts y e
  split at p
  .rename_i hl
   obtain⟨us,rfl,h0,h1,h2⟩:=r.gr d e;obtain⟨w,rfl,dw⟩:=xy da;exact⟨_,us,w,rfl,rfl,h1,ax (by rw[<- h2.length];exact hl) (rG (az _)),p W _ (Wd.le.refl _) (r.cellSet h0 _ _ ⟨_,fX,h2.append (aW.eB dw aW.gb)⟩) _ (o5.mpr rfl)⟩
  .exact p.elim
 .exact p.elim
def RP:V->List V->Hp->VK->Prop:=λx vs H Q=>∃l b xs zs,x=.ref l/\vs=[.ref b]/\H l=aa (.lst xs)/\Rd H b (.lst zs)/\xs.length+zs.length<=sizeLine/\Q .bH (upd H l (.lst (xs++zs)))
theorem zx2:Ai X "list.extend" RP:=by
 intro ag s σ H x vs v us Q I rx rv h;obtain⟨l,b,xs,zs,rfl,rfl,hH,hB,hz,q⟩:=h;cases rx;obtain⟨u,rfl,ru⟩:=rv.one;cases ru;obtain⟨z,cC,n,r,hl,e⟩:=I.va hH;obtain⟨z2,oJ,n2,r2,e2⟩:=hB.ok I.cD;have vy:=r2.length;have hsz:cC.toArray.size+oJ.toArray.size<=sizeLine:=by rw[aL,aL];omega
 have Eo:¬(!cC.toArray.isEmpty&&iB (cC.toArray.size+oJ.toArray.size))=true:=by
  rw[Yy hsz,zP];exact aU
 refine n_ F.slot_list_extend ⟨_,e,rfl⟩ F.entry_list_extend (F.args_list_extend_2 _ _)
  (AutoSeq1.list_extend_list_list_0 l cC.toArray n b oJ.toArray n2 Eo (by rw[aL];omega) (by omega)) ⟨e,e2,?_⟩
 refine⟨.bH,_,I.u_ (its':=cC++oJ) hH e (by simp) (r.append r2) ?_,rfl,q⟩;rw[aO];omega
theorem Zaq:GM E RP mx:=by
 intro t as W S H v vs Q r d da p;unfold mx at p
 split at p
 .rename_i k ts y e
  cases e2:cW S y with
  |none=>simp only[e2] at p;exact p.elim
  | some zs=>
    simp only[e2] at p
    split at p
    .rename_i hl
     obtain⟨us,rfl,h0,h1,h2⟩:=r.gr d e;obtain⟨w,rfl,dw⟩:=xy da;obtain⟨b,ws,rfl,h3,h4⟩:=r.list dw e2;exact⟨_,b,us,ws,rfl,rfl,h1,h3,rG (by rw[<- h2.length,<- h4.length];exact hl),p W _ (Wd.le.refl _) (r.cellSet h0 _ _ ⟨_,fX,h2.append h4⟩) _ (o5.mpr rfl)⟩
    .exact p.elim
 .exact p.elim
theorem z3b:GM E Qz Em:=by
 intro t as W S H v vs Q r d da p;unfold Em at p
 split at p
 .rename_i k ts e
  obtain⟨us,rfl,h0,h1,h2⟩:=r.gr d e;rw[oq.mp da];exact⟨_,us,rfl,rfl,h1,p W _ (Wd.le.refl _) (r.cellSet h0 _ _ ⟨_,fX,aW.gb⟩) _ (o5.mpr rfl)⟩
 .exact p.elim
theorem z3c:GM E Qy B8:=by
 intro t as W S H v vs Q r d da p;unfold B8 at p
 split at p
 .rename_i k ts i e
  split at p
  .rename_i hi
   cases e2:ts[i.toNat]? with
   |none=>simp only[e2] at p;exact p.elim
   | some y=>
     simp only[e2] at p;obtain⟨us,rfl,h0,h1,h2⟩:=r.gr d e;obtain⟨w0,rfl,dw0⟩:=xy da;obtain⟨w,e3,dw⟩:=h2.get e2;have qh:i.toNat<us.length:=(aB.mp e3).1;refine⟨_,us,i,i.toNat,w,rfl,by rw[jC.mp dw0],h1,?_,?_,yN hi.1 (by omega),e3,p W _ (Wd.le.refl _) (r.cellSet h0 _ _ ⟨_,fX,h2.eraseIdx _⟩) _ dw⟩
     .have:=hi.1;omega
     .have:=hi.2;omega
  .exact p.elim
 .exact p.elim
noncomputable def ux:List T->Option (List Str)
 |[]=>aa []
 |.str x::ts=>(ux ts).map (x::·)
 |_::_=>ae
theorem Ls{W:Wd}:∀{ts:List T} {vs:List V} {ys:List Str},aW W ts vs->ux ts=aa ys->vs=ys.map V.str
 |[],vs,ys,h,e=>by cases e;exact oq.mp h
 | t :: ts,vs,ys,h,e=>by
   obtain⟨v,r,rfl,h1,h2⟩:=nv.mp h;cases t with
   | str x=>
     simp only[ux] at e;obtain⟨zs,e1,rfl⟩:=bg.mp e;rw[nu.mp h1,Ls h2 e1];rfl
   |_=>simp[ux] at e
noncomputable def B9(t:T)(as:List T):M T:=λS=>match t,as with
 | .str z,[y]=>(match (cW S y).bind ux with
   |some ys=>if(ys.map (·.length)).sum+ys.length*z.length<=100000 then .ok (.str (p9 z ys)) S else .bad
   |none=>.bad)
 |_,_=>.bad
theorem z7d(K:aM):GM E (λx xs H Q=>∃z l ys,x=.str z/\xs=[.ref l]/\lJ K H l (ys.map V.str)/\(ys.map (·.length)).sum+ys.length*z.length<=16777216/\Q (.str (p9 z ys)) H) B9:=by
 intro t as W S H v vs Q r d da p;unfold B9 at p
 split at p
 .rename_i z y
  cases e:(cW S y).bind ux with
  |none=>simp only[e] at p;exact p.elim
  | some ys=>
    simp only[e] at p
    split at p
    .rename_i hl
     obtain⟨us,e1,e2⟩:=jn.mp e;obtain⟨w,rfl,dw⟩:=xy da;obtain⟨b,ws,rfl,h3,h4⟩:=r.list dw e1;rw[Ls h4 e2] at h3;exact⟨z,b,ys,nu.mp d,rfl,.inl h3,by omega,now p r (nu.mpr rfl)⟩
    .exact p.elim
 .exact p.elim
theorem vD{cP:Pos}(ho:PE X o (RE E fo))(ha:PA X [e] (RA E fr))(fG:b_ o "append" X.env (eval o X.env)=eval o X.env:=by rfl)
  (fH:(cP.endLine==pos.line)=true:=by rfl) (hs:av [e] X.env=(false,eval e X.env)::av [] X.env:=by rfl)
  (mv:((bK pos (av [e] X.env)).all (λx=>!x.1)&&(eT pos (cT [] X.env)).all (λx=>x.1.isSome)&&decide ([e].length+([]:List gS).length+(if([]:List gS).isEmpty then 0 else 1)<30))=true:=by rfl):PE X (.Call (.Attribute o "append" cP) [e] [] pos) (RE E (kD kS jG fo fr)):=
 vC eO PySem.F.slot_list_append PySem.F.type_list_append Kk El Zap ho ha fG mv fH hs rfl
theorem AI{cP:Pos}(ho:PE X o (RE E fo))(ha:PA X [e] (RA E fr))(fG:b_ o "extend" X.env (eval o X.env)=eval o X.env:=by rfl)
  (fH:(cP.endLine==pos.line)=true:=by rfl) (hs:av [e] X.env=(false,eval e X.env)::av [] X.env:=by rfl)
  (mv:((bK pos (av [e] X.env)).all (λx=>!x.1)&&(eT pos (cT [] X.env)).all (λx=>x.1.isSome)&&decide ([e].length+([]:List gS).length+(if([]:List gS).isEmpty then 0 else 1)<30))=true:=by rfl):PE X (.Call (.Attribute o "extend" cP) [e] [] pos) (RE E (kD kS mx fo fr)):=
 vC eO PySem.F.slot_list_extend PySem.F.type_list_extend zx2 El Zaq ho ha fG mv fH hs rfl
theorem z7e{cP:Pos}(ho:PE X o (RE E fo))(ha:PA X [e] (RA E fr))(fG:b_ o "pop" X.env (eval o X.env)=eval o X.env:=by rfl)
  (fH:(cP.endLine==pos.line)=true:=by rfl) (hs:av [e] X.env=(false,eval e X.env)::av [] X.env:=by rfl)
  (mv:((bK pos (av [e] X.env)).all (λx=>!x.1)&&(eT pos (cT [] X.env)).all (λx=>x.1.isSome)&&decide ([e].length+([]:List gS).length+(if([]:List gS).isEmpty then 0 else 1)<30))=true:=by rfl):PE X (.Call (.Attribute o "pop" cP) [e] [] pos) (RE E (kD kS B8 fo fr)):=
 vC eO PySem.F.slot_list_pop PySem.F.type_list_pop Yz El z3c ho ha fG mv fH hs rfl
theorem Zar{cP:Pos}(ho:PE X o (RE E fo))(ha:PA X [e] (RA E fr))(fG:b_ o "join" X.env (eval o X.env)=eval o X.env:=by rfl)
  (fH:(cP.endLine==pos.line)=true:=by rfl) (hs:av [e] X.env=(false,eval e X.env)::av [] X.env:=by rfl)
  (mv:((bK pos (av [e] X.env)).all (λx=>!x.1)&&(eT pos (cT [] X.env)).all (λx=>x.1.isSome)&&decide ([e].length+([]:List gS).length+(if([]:List gS).isEmpty then 0 else 1)<30))=true:=by rfl):PE X (.Call (.Attribute o "join" cP) [e] [] pos) (RE E (kD Hf B9 fo fr)):=
 vC PySem.F.plainAttrs_str PySem.F.slot_str_join PySem.F.type_str_join Za Zao (z7d X.K) ho ha fG mv fH hs rfl
theorem z7f{cP:Pos}(ho:PE X o (RE E fo))(fG:b_ o "clear" X.env (eval o X.env)=eval o X.env:=by rfl)(fH:(cP.endLine==pos.line)=true:=by rfl):PE X (.Call (.Attribute o "clear" cP) [] [] pos) (RE E (kD kS Em fo aK)):=
 Zdb eO PySem.F.slot_list_clear PySem.F.type_list_clear YA El z3b ho fG fH
end
def gU:DS:=fun ρ=>M.pure (.nx ρ)
noncomputable def aX(f g:DS):DS:=fun ρ=>(f ρ).bind λx=>match x with
 |.nx ρ'=>g ρ'
 |o=>M.pure o
noncomputable def cq(f:DE):DS:=fun ρ=>(f ρ).bind λt=>M.pure (.rt t)
noncomputable def jr(f:DE):DS:=fun ρ=>(f ρ).bind λ_=>M.pure (.nx ρ)
noncomputable def cE(i:Nat)(f:DE):DS:=fun ρ=>(f ρ).bind λt=>M.pure (.nx (ρ.set i (aa t)))
noncomputable def gs(c:DT)(f g:DS):DS:=fun ρ=>(c ρ).bind λb=>if b=true then f ρ else g ρ
theorem B_{α:Type}{E:XK}{W W':Wd}{Q:α->Wd->bI->Hp->Prop}{r:R α}(h:bq E W Q r)(l:W.le W'):bq E W' Q r:=by
 cases r with
 |ok a S=>exact λW2 H2 l2 rp=>h W2 H2 (l.trans l2) rp
 |exc C fs S=>exact λW2 H2 dx l2 rp=>h W2 H2 dx (l.trans l2) rp
 |bad=>exact h
section
variable {X:Cx}{E:XK}{a b c e o:bt}{es:List bt}{fa fb fc:DE}{tc:DT}{fr:DA}{pos:Pos}{st:bR}{iq sa sb:List bR}{f g:DS}
theorem Zdc{D:Ends}{σ:St}{H:Hp}(h:RS E gU D σ H):D.nx σ H:=by
 obtain⟨W,S,ρ,rp,env,p⟩:=h;exact p W H (Wd.le.refl _) rp σ env
theorem iu:k8 X [] (RS E gU):=Rk WR λD σ H h=>Zdc h
theorem Zas{D:Ends}{σ:St}{H:Hp}(h:RS E (aX f g) D σ H):uX (RS E f) (RS E g) D σ H:=by
 obtain⟨W,S,ρ,rp,env,p⟩:=h;refine⟨W,S,ρ,rp,env,(bq.bind p).imp λx W1 S1 H1 l1 r1 p1=>?_⟩;cases x with
 |nx ρ'=>exact fun σ' e'=>⟨W1,S1,ρ',r1,e',p1⟩
 |rt t=>exact p1 W1 H1 (Wd.le.refl _) r1
 |bk ρ'=>exact p1 W1 H1 (Wd.le.refl _) r1
 |ct ρ'=>exact p1 W1 H1 (Wd.le.refl _) r1
theorem cA(h1:PS X st (RS E f))(h2:k8 X iq (RS E g)):k8 X (st::iq) (RS E (aX f g)):=Rk (Gn h1 h2) λD σ H h=>Zas h
theorem cL(h1:PS X st (RS E f)):k8 X [st] (RS E f):=JG h1
theorem fM(ha:PE X e (RE E fa)):PS X (.Return (aa e) pos) (RS E (cq fa)):=tO (WS ha) λD σ H h=>by
 obtain⟨W,S,ρ,rp,env,p⟩:=h;exact⟨W,S,ρ,rp,env,(bq.bind p).imp λt W1 S1 H1 l1 r1 p1 v dv=>p1 W1 H1 (Wd.le.refl _) r1 v dv⟩
theorem jM(ha:PE X e (RE E fa))(hs:fu e ae pos.line X.env=pure false:=by rfl):PS X (.Expr e pos) (RS E (jr fa)):=tO (JI ha hs) λD σ H h=>by
 obtain⟨W,S,ρ,rp,env,p⟩:=h;exact⟨W,S,ρ,rp,env,(bq.bind p).imp λt W1 S1 H1 l1 r1 p1 v dv=>p1 W1 H1 (Wd.le.refl _) r1 σ (env.mono l1)⟩
theorem Lu{i:Nat}{D:Ends}{σ:St}{H:Hp}(h:RS E (cE i fa) D σ H):w6 (RE E fa) (wB i) D σ H:=by
 obtain⟨W,S,ρ,rp,env,p⟩:=h;exact⟨W,S,ρ,rp,env,(bq.bind p).imp λt W1 S1 H1 l1 r1 p1 v dv=>p1 W1 H1 (Wd.le.refl _) r1 _ ((env.mono l1).set dv i)⟩
theorem gW{i:Nat}{x:Str}{jo:Pos}(hN:X.N.Nodup)(hi:X.N[i]?=aa x)(hx:Loc X.env.scope x)(he:PE X e (RE E fa))(hs:fu e (aa (.Name x jo)) pos.line X.env=pure false:=by rfl)(hf:X.fn x=true\/X.env.scope.names.lookup x=aa .local:=by first | exact .inl rfl | exact .inr rfl | assumption)
 (hkn:∀u:V,X.kn[i]?≠aa (aa u):=by first | assumption | exact λu h=>nomatch (show(ae:Option (Option V))=aa (aa u) from h) | exact λu h=>nomatch (bj (show aa (ae:Option V)=aa (aa u) from h))) :
 PS X (.Assign [.Name x jo] e pos) (RS E (cE i fa)):=tO (WU hN hi hx he hs hf hkn) λD σ H h=>Lu h
theorem c_(hc:PT X c (RT E tc))(ha:k8 X sa (RS E f))(hb:k8 X sb (RS E g)):PS X (.If c sa sb pos) (RS E (gs tc f g)):=tO (WT hc ha hb) λD σ H h=>by
 obtain⟨W,S,ρ,rp,env,p⟩:=h;refine⟨W,S,ρ,rp,env,(bq.bind p).imp λk W1 S1 H1 l1 r1 p1=>?_⟩;cases k with
 |true=>exact rK ⟨W1,S1,ρ,r1,env.mono l1,p1⟩
 |false=>exact rJ ⟨W1,S1,ρ,r1,env.mono l1,p1⟩
abbrev DG:=T->Ev->Option Ev
def GT(gl:TG)(g:DG):Prop:=∀(W:Wd) (S:bI) (H:Hp) (t:T) (x:V) (ρ ρ2:Ev) (σ:St) (Q:St->Hp->Prop),cQ W S H->cz W t x->gf W ρ σ->g t ρ=aa ρ2->(∀σ2,gf W ρ2 σ2->Q σ2 H)->gl x σ H Q
noncomputable def eE(i:Nat):DG:=λt ρ=>aa (ρ.set i (aa t))
theorem lB(i:Nat):GT (wB i) (eE i):=λW S H t x ρ ρ2 σ Q r d env e h=>by
 cases e;exact h _ (env.set d i)
noncomputable def sP(i j:Nat):DG:=λt ρ=>match t with
 |.tup [a,b]=>aa ((ρ.set i (aa a)).set j (aa b))
 |_=>ae
theorem RQ(K:aM)(i j:Nat):GT (Dn K 2 (JL (wB i) (JL (wB j) Dm))) (sP i j):=λW S H t x ρ ρ2 σ Q r d env e h=>by
 unfold sP at e
 split at e
 .cases e
  obtain⟨p,vs,rfl,h1,h2⟩:=rQ.mp d;obtain⟨v,r1,rfl,d1,h3⟩:=nv.mp h2;obtain⟨w,rfl,d2⟩:=xy h3;exact⟨p,_,rfl,.inl (r.sub _ _ h1).1.rd,rfl,v,_,rfl,w,_,rfl,rfl,h _ ((env.set d1 i).set d2 j)⟩
 .cases e
structure rR(W1:Wd)(ts:List T)(st:bI->Prop)(J:It):Prop where
 go:∀i W' S' H',W1.le W'->cQ W' S' H'->st S'->i<ts.length->J.go i H'/\∀x tK,J.Gr i H' x tK->∃Lv t,W'.le Lv/\cQ Lv S' tK/\ts[i]?=aa t/\cz Lv t x
 stop:∀i W' S' H',W1.le W'->cQ W' S' H'->st S'->i=ts.length->J.stop i H'
abbrev DI:=Ev->M (List T×(bI->Prop))
def RI(E:XK)(it:DI)(wi:TI):Prop:=∀(σ:St) (H:Hp) (R:It->Hp->Prop),(∃W S ρ,cQ W S H/\gf W ρ σ/\bq E W (λq W1 S1 H1=>∀J W2 H2,W1.le W2->cQ W2 S1 H2->rR W2 q.1 q.2 J->R J H2) (it ρ S))->wi σ H R
noncomputable def iL(f:DE):DI:=fun ρ=>(f ρ).bind λt=>λS=>match cW S t with
 |some ts=>.ok (ts,λS'=>cW S' t=aa ts) S
 |none=>.bad
theorem m3(K:aM):RI E (iL fa) (Pt K (RE E fa)):=fun σ H R h=>by
 obtain⟨W,S,ρ,rp,env,p⟩:=h;refine⟨W,S,ρ,rp,env,(bq.bind p).imp λt W1 S1 H1 l1 r1 p1 v dv=>?_⟩;cases e:cW S1 t with
 |none=>simp only[e] at p1;exact p1.elim
 | some ts=>
   simp only[e] at p1;obtain⟨a,vs,rfl,h1,h2⟩:=r1.list dv e;refine⟨a,rfl,⟨vs,.inl h1⟩,p1 W1 H1 (Wd.le.refl _) r1 _ W1 H1 (Wd.le.refl _) r1 ⟨λi W' S' H' l r' st hi=>?_,λi W' S' H' l r' st hi=>?_⟩⟩
   .obtain⟨a',us,ea,g1,g2⟩:=r'.list (cz.mono l _ _ dv) st
    cases ea;have hi':i<us.length:=g2.length▸hi;refine⟨⟨us,us[i],.inl g1,bf hi'⟩,λx tK y=>?_⟩;obtain⟨rfl,y⟩:=y;have ex:=y us (.inl g1);obtain⟨t',e1,d1⟩:=g2.get' ex;exact⟨W',t',Wd.le.refl _,r',e1,d1⟩
   .obtain⟨a',us,ea,g1,g2⟩:=r'.list (cz.mono l _ _ dv) st
    cases ea;exact⟨us,.inl g1,by rw[<- g2.length];exact gV hi.symm⟩
noncomputable def rS(lo:Int)(n:Nat):List T:=(cn n).map λ(k:Nat)=>T.int (lo+k)
theorem Ep(lo:Int)(n:Nat):(rS lo n).length=n:=by simp[rS]
theorem RU{lo:Int}{n i:Nat}(h:i<n):(rS lo n)[i]?=aa (.int (lo+i)):=by simp[rS,h]
noncomputable def AJ(f:DA):DI:=fun ρ=>(f ρ).bind λts=>λS=>match ts with
 |[.int j]=>if -1000000<=j/\j<=1000000 then .ok (rS 0 j.toNat,λ_=>True) S else .bad
 |_=>.bad
theorem z3d(W:Wd)(lo:Int)(n:Nat):rR W (rS lo n) (λ_=>True) (Gu lo n):=⟨λi W' S' H' l r' _ hi=>by
 rw[Ep] at hi;refine⟨hi,λx tK y=>?_⟩;obtain⟨rfl,rfl⟩:=y;exact⟨W',_,Wd.le.refl _,r',RU hi,jC.mpr rfl⟩,λi W' S' H' l r' _ hi=>by
 rw[Ep] at hi;exact gV hi.symm⟩
theorem Lw:RI E (AJ fr) (Pu (RA E fr)):=fun σ H R h=>by
 obtain⟨W,S,ρ,rp,env,p⟩:=h;refine⟨W,S,ρ,rp,env,(bq.bind p).imp λts W1 S1 H1 l1 r1 p1 vs dv=>?_⟩
 split at p1
 .rename_i j
  split at p1
  .rename_i hj
   obtain⟨v,rfl,d1⟩:=xy dv;exact⟨j,by rw[jC.mp d1],by omega,by omega,p1 W1 H1 (Wd.le.refl _) r1 _ W1 H1 (Wd.le.refl _) r1 (z3d W1 0 _)⟩
  .exact p1.elim
 .exact p1.elim
noncomputable def iK(f:DE):DI:=fun ρ=>(f ρ).bind λt=>λS=>match t with
 |.dic kvs=>.ok (kvs.map λp=>kT p.1,λ_=>True) S
 |_=>.bad
noncomputable def Wd.zed(W:Wd)(a:ai)(o:Obj×HO):Wd:=⟨W.HS,W.μ,W.n,λb=>if b=a then aa o else W.Z b,W.P⟩
theorem cQ.AK{W:Wd}{S:bI}{H:Hp}{a:ai}{u:HO}{o:Obj}(r:cQ W S H)(hs:W.HS a=aa u)(hH:H a=aa u)(nt:∀xs,u≠.tup xs)(no:GX u):cQ (W.zed a (o,u)) S (upd H a (.eL o u))/\W.le (W.zed a (o,u)):=by
 have zn:W.Z a=ae:=by
  cases e:W.Z a with
  |none=>rfl
  | some q=>
    have h2:=r.zed a q e;rw[hH] at h2;cases h2;exact no.elim
 have l:W.le (W.zed a (o,u)):=⟨λ_ _ e=>e,λb q e=>by
  show(if b=a then aa (o,u) else W.Z b)=aa q;by_cases z:b=a
  .rw[z,zn] at e;cases e
  .rw[if_neg z];exact e,λ_ _ e=>e,az _,λ_ _=>rfl⟩
 refine⟨⟨λb w e=>?_,r.len,λk c e=>?_,r.inj,λb q e=>?_,λb w e=>?_⟩,l⟩
 .by_cases z:b=a
  .subst z
   have e:W.HS b=aa w:=e;rw[hs] at e;cases e;exact⟨.inr ⟨⟨o,fX⟩,nt⟩,no⟩
  .exact⟨(r.sub b w e).1.at (dh z),(r.sub b w e).2⟩
 .have ne:W.μ k≠a:=λz=>by have:=(r.cell k c e).2;rw[z,hs] at this;cases this
  exact⟨((r.cell k c e).1.at (dh ne)).mono l,(r.cell k c e).2⟩
 .have e:(if b=a then aa (o,u) else W.Z b)=aa q:=e
  by_cases z:b=a
  .rw[if_pos z] at e
   cases e;subst z;exact fX
  .rw[if_neg z] at e
   rw[dh z];exact r.zed b q e
 .obtain⟨h1,h2,h3⟩:=r.prv b w e
  have ne:b≠a:=λz=>by rw[z,hs] at h2;cases h2
  exact⟨by rw[dh ne];exact h1,h2,h3⟩
theorem cQ.AL{W:Wd}{S:bI}{H:Hp}{a:ai}{u:HO}{o:Obj}(r:cQ W S H)(hs:W.HS a=aa u)(hH:H a=aa (.eL o u)):cQ (W.zed a (o,u)) S H/\W.le (W.zed a (o,u)):=by
 have l:W.le (W.zed a (o,u)):=⟨λ_ _ e=>e,λb q e=>by
  show(if b=a then aa (o,u) else W.Z b)=aa q;by_cases z:b=a
  .have h2:=r.zed b q e
   rw[z,hH] at h2;obtain⟨q1,q2⟩:=q;cases h2;rw[if_pos z]
  .rw[if_neg z];exact e,λ_ _ e=>e,az _,λ_ _=>rfl⟩
 refine⟨⟨r.sub,r.len,λk c e=>⟨(r.cell k c e).1.mono l,(r.cell k c e).2⟩,r.inj,λb q e=>?_,r.prv⟩,l⟩;have e:(if b=a then aa (o,u) else W.Z b)=aa q:=e;by_cases z:b=a
 .rw[if_pos z] at e
  cases e;subst z;exact hH
 .rw[if_neg z] at e
  exact r.zed b q e
theorem RV{W:Wd}{a:ai}{o:Obj}{kvs:List (bZ×T)}{ks:List (bZ×V)}(hz:W.Z a=aa (o,.dK ks))(d:bQ W kvs ks):rR W (kvs.map λp=>kT p.1) (λ_=>True) (BX a o ks):=⟨λi W' S' H' l r' _ hi=>by
 have h2:=r'.zed a _ (l.z a _ hz);rw[aT,d.length] at hi;refine⟨⟨h2,hi⟩,λx tK y=>?_⟩;obtain⟨k,v,e1,rfl,rfl⟩:=y;have dk:=Lp d;obtain⟨t,e2,d2⟩:=dk.get' (i:=i) (v:=kV k) (by rw[c9,e1];rfl);exact⟨W',t,Wd.le.refl _,r',e2,cz.mono l _ _ d2⟩,λi W' S' H' l r' _ hi=>by
 have h2:=r'.zed a _ (l.z a _ hz);rw[aT,d.length] at hi;exact⟨h2,gV hi.symm⟩⟩
theorem RW:RI E (iK fa) (QQ X (RE E fa)):=fun σ H R h=>by
 obtain⟨W,S,ρ,rp,env,p⟩:=h;refine⟨W,S,ρ,rp,env,(bq.bind p).imp λt W1 S1 H1 l1 r1 p1 v dv=>?_⟩
 split at p1
 .rename_i kvs
  obtain⟨a,ks,rfl,h1,h2⟩:=xl.mp dv;refine⟨a,ks,rfl,?_⟩;rcases(r1.sub a _ h1).1 with g | ⟨⟨o,g⟩,_⟩
  .refine .inl ⟨g,λo _=>?_⟩
   obtain⟨r2,l2⟩:=r1.AK (o:=o) h1 g (by intro xs z;cases z) trivial;exact p1 W1 H1 (Wd.le.refl _) r1 _ _ _ l2 r2 (RV (by show(if a=a then aa (o,HO.dK ks) else _)=aa (o,HO.dK ks);rw[if_pos rfl]) (bQ.mono l2 _ _ h2))
  .refine .inr ⟨o,g,?_⟩
   obtain⟨r2,l2⟩:=r1.AL h1 g;exact p1 W1 H1 (Wd.le.refl _) r1 _ _ _ l2 r2 (RV (by show(if a=a then aa (o,HO.dK ks) else _)=aa (o,HO.dK ks);rw[if_pos rfl]) (bQ.mono l2 _ _ h2))
 .exact p1.elim
end
open Classical in
noncomputable def fU(st:bI->Prop)(g:DG)(body:DS):List T->Ev->M Fl
 |[],ρ=>λS=>if st S then .ok (.nx ρ) S else .bad
 | t :: ts,ρ=>λS=>if st S then(match g t ρ with
   | some ρ1=>(body ρ1).bind (λx=>match x with
     |.nx ρ2=>fU st g body ts ρ2
     |.ct ρ2=>fU st g body ts ρ2
     |.bk ρ2=>M.pure (.nx ρ2)
     |.rt t=>M.pure (.rt t)) S
   |none=>.bad) else .bad
def eX(it:DI)(g:DG)(body:DS):DS:=fun ρ=>(it ρ).bind λq=>fU q.2 g body q.1 ρ
section
variable {X:Cx}{E:XK}{tg iter:bt}{body:List bR}{it:DI}{wi:TI}{gl:TG}{g:DG}{fb:DS}{pos:Pos}
theorem z3e(hG:GT gl g){D:Ends}{σ:St}{H2:Hp}{W2:Wd}{S1:bI}{ρ:Ev}{ts:List T}{st:bI->Prop}{J:It}(r2:cQ W2 S1 H2)(env:gf W2 ρ σ)(ok:rR W2 ts st J)(p1:bq E W2 (QF D) (fU st g fb ts ρ S1)) :
  Dp (λ_ _ R=>R J H2) gl (RS E fb) D σ H2:=by
 refine⟨λi m σ H=>i<=ts.length/\m=ts.length-i/\∃W S ρ,W2.le W/\cQ W S H/\gf W ρ σ/\bq E W (QF D) (fU st g fb (ts.drop i) ρ S),⟨_,dJ _,rfl,W2,S1,ρ,Wd.le.refl _,r2,env,?_⟩,?_⟩
 .rw[pe]
  exact p1
 .rintro i m σ H ⟨hi,rfl,W3,S3,ρ3,l3,r3,e3,p3⟩
  by_cases qh:i<ts.length
  .rw [p_ qh] at p3
   unfold fU at p3
   split at p3
   .rename_i fm
    obtain⟨go,yl⟩:=ok.go i W3 S3 H l3 r3 fm qh;refine .inr ⟨go,_,fun σ' H' n=>⟨ts.length-(i+1),by omega,qh,rfl,n⟩,λx H' y=>?_⟩;obtain⟨W4,t,l4,r4,et,dt⟩:=yl x H' y;rw[bf qh] at et;cases et;cases e:g ts[i] ρ3 with
    |none=>simp only[e] at p3;exact p3.elim
    | some ρ4=>
      simp only[e] at p3;refine hG W4 S3 H' _ x ρ3 ρ4 σ _ r4 dt (e3.mono l4) e fun σ2 e4=>⟨W4,S3,ρ4,r4,e4,(bq.bind (B_ p3 l4)).imp λfl W5 S5 H5 l5 r5 p5=>?_⟩;cases fl with
      |nx ρ5=>exact fun σ5 e5=>⟨W5,S5,ρ5,l3.trans (l4.trans l5),r5,e5,p5⟩
      |ct ρ5=>exact fun σ5 e5=>⟨W5,S5,ρ5,l3.trans (l4.trans l5),r5,e5,p5⟩
      |bk ρ5=>exact p5 W5 H5 (Wd.le.refl _) r5
      |rt t=>exact p5 W5 H5 (Wd.le.refl _) r5
   .exact p3.elim
  .have e:i=ts.length:=by omega
   subst e;rw[nG] at p3;unfold fU at p3
   split at p3
   .rename_i fm
    exact .inl ⟨ok.stop _ W3 S3 H l3 r3 fm rfl,p3 W3 H (Wd.le.refl _) r3 σ e3⟩
   .exact p3.elim
theorem qJ(hp:mR (aJ X.prog X.w) X.A X.env X.xe)(hc:X.calm=true)(hi:PI X tg iter wi)(hI:RI E it wi)(hg:PG X tg gl)(hG:GT gl g)(hb:k8 X body (RS E fb))
  (hs:∀x,cG iter X.env x=pure x:=by intro _;rfl):PS X (.For tg iter body [] pos) (RS E (eX it g fb)):=
 tO (W8 hp hc hi hg hb hs) λD σ H h=>by
  obtain⟨W,S,ρ,rp,env,p⟩:=h;exact hI σ H _ ⟨W,S,ρ,rp,env,(bq.bind p).imp λq W1 S1 H1 l1 r1 p1 J W2 H2 l2 r2 ok=>z3e hG r2 (env.mono (l1.trans l2)) ok (B_ p1 l2)⟩
end
noncomputable def jZ(c:DT)(body:DS):Nat->Ev->M Fl
 |0,_=>M.bad
 | n + 1,ρ=>(c ρ).bind λb=>if b=true then(body ρ).bind (λx=>match x with
     |.nx ρ2=>jZ c body n ρ2
     |.ct ρ2=>jZ c body n ρ2
     |.bk ρ2=>M.pure (.nx ρ2)
     |.rt t=>M.pure (.rt t)) else M.pure (.nx ρ)
def uy(c:DT)(body:DS):DS:=jZ c body 1000
section
variable {X:Cx}{E:XK}{c:bt}{body:List bR}{tc:DT}{fb:DS}{pos:Pos}
theorem Hg(hp:mR (aJ X.prog X.w) X.A X.env X.xe)(hc:PT X c (RT E tc))(hb:k8 X body (RS E fb)):PS X (.While c body [] pos) (RS E (uy tc fb)):=
 tO (WW hp hc hb) λD σ H h=>by
  obtain⟨W,S,ρ,rp,env,p⟩:=h;refine⟨λm σ H=>∃W S ρ,cQ W S H/\gf W ρ σ/\bq E W (QF D) (jZ tc fb m ρ S),⟨1000,W,S,ρ,rp,env,p⟩,?_⟩;rintro m σ H ⟨W1,S1,ρ1,r1,e1,p1⟩;cases m with
  |zero=>exact p1.elim
  | succ n=>
    refine⟨W1,S1,ρ1,r1,e1,(bq.bind p1).imp λb W2 S2 H2 l2 r2 p2=>?_⟩;cases b with
    |false=>exact rJ (p2 W2 H2 (Wd.le.refl _) r2 σ (e1.mono l2))
    | true=>
      refine rK ⟨fun σ H=>∃W S ρ,cQ W S H/\gf W ρ σ/\bq E W (QF D) (jZ tc fb n ρ S),fun σ' H' q=>⟨n,dE _,q⟩,W2,S2,ρ1,r2,e1.mono l2,?_⟩;refine(bq.bind (show bq E W2 (QF D) (M.bind (fb ρ1) _ S2) from p2)).imp λfl W5 S5 H5 l5 r5 p5=>?_;cases fl with
      |nx ρ5=>exact fun σ5 e5=>⟨W5,S5,ρ5,r5,e5,p5⟩
      |ct ρ5=>exact fun σ5 e5=>⟨W5,S5,ρ5,r5,e5,p5⟩
      |bk ρ5=>exact p5 W5 H5 (Wd.le.refl _) r5
      |rt t=>exact p5 W5 H5 (Wd.le.refl _) r5
end
noncomputable def qZ{α:Type}(m:M α):M α:=λS=>match m S with
 |.exc _ _ _=>.bad
 |r=>r
theorem z3f{α:Type}{E E':XK}{W:Wd}{Q:α->Wd->bI->Hp->Prop}{m:M α}{S:bI}(h:bq E W Q (qZ m S)):bq E' W Q (m S):=by
 unfold qZ at h;cases e:m S with
 |ok a S1=>rw[e] at h;exact h
 |exc C fs S1=>rw[e] at h;exact h.elim
 |bad=>rw[e] at h;exact h.elim
noncomputable def mz:DT:=λ_=>M.pure true
open Classical in
noncomputable def mJ(st:bI->Prop)(g:DG)(tc:DT)(te:DE):List T->Ev->List T->M (List T)
 |[],_,acc=>λS=>if st S then .ok acc S else .bad
 | t::ts,ρ,acc=>λS=>if st S then(match g t ρ with
   |some ρ1=>((tc ρ1).bind λok=>if ok=true then(te ρ1).bind λy=>if acc.length<1000 then mJ st g tc te ts ρ1 (acc++[y]) else M.bad else mJ st g tc te ts ρ1 acc) S
   |none=>.bad) else .bad
def jN(nt:Nat)(js:List Nat)(it:DI)(g:DG)(tc:DT)(te:DE)(eV:List T->M T):DE:=fun ρ=>
 (it ρ).bind λq=>(qZ (mJ q.2 g tc te q.1 (aS nt ae++js.map λj=>(ρ[j]?).join) [])).bind eV
def fO(ts:List T):M T:=M.pure (.lst ts)
theorem Zat(W:Wd)(p:ai):(W.ot p).le W:=⟨λ_ _ e=>e,λ_ _ e=>e,λa o e=>by
 have e:(if a=p then ae else W.P a)=aa o:=e;by_cases z:a=p
 .rw[if_pos z] at e;cases e
 .rw[if_neg z] at e;exact e,az _,λ_ _=>rfl⟩
theorem RX{W W':Wd}(l:W.le W')(p:ai):(W.ot p).le (W'.ot p):=⟨l.hs,l.z,λa o e=>by
 have e:(if a=p then ae else W.P a)=aa o:=e;show(if a=p then ae else W'.P a)=aa o;by_cases z:a=p
 .rw[if_pos z] at e;cases e
 .rw[if_neg z] at e ⊢;exact l.p a o e,l.n,l.μ⟩
theorem RY{W:Wd}{p:ai}{o:HO}:(W.ot p).le ((W.mX p o).ot p):=⟨λ_ _ e=>e,λ_ _ e=>e,λa u e=>by
 have e:(if a=p then ae else W.P a)=aa u:=e;show(if a=p then ae else upd W.P p o a)=aa u;by_cases z:a=p
 .rw[if_pos z] at e;cases e
 .rw[if_neg z] at e ⊢;rw[dh z];exact e,az _,λ_ _=>rfl⟩
theorem Zau{W:Wd}{p:ai}(h:W.P p=ae):W.le (W.ot p):=⟨λ_ _ e=>e,λ_ _ e=>e,λa u e=>by
 show(if a=p then ae else W.P a)=aa u;rw[if_neg (λz=>by rw[z,h] at e;cases e)];exact e,az _,λ_ _=>rfl⟩
theorem gf.hs{W W':Wd}(hs:W'.HS=W.HS)(hμ:W'.μ=W.μ)(hn:W'.n=W.n):∀{ρ:Ev} {σ:St},gf W ρ σ->gf W' ρ σ
 |[],_,h=>h
 |none::ρ,σ,⟨s,r,e,h1,h2⟩=>⟨s,r,e,trivial,gf.hs hs hμ hn h2⟩
 |some t::ρ,σ,⟨ae,r,e,h1,h2⟩=>h1.elim
 |some t::ρ,σ,⟨aa v,r,e,h1,h2⟩=>⟨aa v,r,e,cz.hs hs hμ hn t v h1,gf.hs hs hμ hn h2⟩
def zp(E:XK)(eV:List T->M T):Prop:=∀(acc:List V) (ts:List T) (W1 W3:Wd) (S:bI) (H:Hp) (p:ai) (Q:VK),W1.le (W3.ot p)->W3.P p=aa (.lst acc)->cQ W3 S H->aW W3 ts acc->bq E W1 (QV Q) (eV ts S)->Q (.ref p) H
theorem rT{E:XK}:zp E fO:=λacc ts W1 W3 S H p Q l hp r d h=>by
 have l2:(W3.ot p).le ((W3.ot p).eL p (.lst acc)):=Wd.lg (r.prv p _ hp).2.1;have d1:aW (W3.ot p) ts acc:=aW.hs (W:=W3) (W':=W3.ot p) rfl rfl rfl ts acc d;exact h _ _ (l.trans l2) (r.xq hp trivial (by intro _ z;cases z)) _ (rP.mpr ⟨p,acc,rfl,fX,aW.mono l2 _ _ d1⟩)
section
variable {X:Cx}{E:XK}{jF iter c tg:bt}{it:DI}{wi:TI}{gl:TG}{g:DG}{tc:DT}{AM:TT}{te:DE}{eV:List T->M T}{nt:Nat}{js:List Nat}
theorem bq.rV{α β:Type}{E:XK}{W W2:Wd}{Q:β->Wd->bI->Hp->Prop}{m:M α}{f:α->M β}{S:bI}(h:bq E W2 Q (M.bind m f S))(l:W2.le W):bq E W (λa _ S1 _=>bq E W2 Q (f a S1)) (m S):=by
 unfold M.bind at h;cases e:m S with
 |ok a S1=>rw[e] at h;exact λ_ _ _ _=>h
 |exc C fs S1=>rw[e] at h;exact λW' H' dx l'=>h W' H' dx (l.trans l')
 |bad=>rw[e] at h;exact h
theorem RZ (hG:GT gl g) (Er:∀σ H Q,RT E0 tc σ H Q->AM σ H Q) {PF:List T->bI->Prop} {σ:St} {H2:Hp} {Q:VK} {W2:Wd} {S1:bI} {ρ:Ev} {ts:List T} {st:bI->Prop} {J:It} (r2:cQ W2 S1 H2) (env:gf W2 ρ σ) (ok:rR W2 ts st J)
  (Au:∀(acc:List V) (us:List T) (W3:Wd) (S3:bI) (H3:Hp) (p:ai),W3.P p=aa (.lst acc)->cQ W3 S3 H3->aW W3 us acc->W2.le (W3.ot p)->PF us S3->Q (.ref p) H3)
  (p1:bq E0 W2 (λres _ S' _=>PF res S') (mJ st g tc te ts (aS nt ae++js.map λj=>(ρ[j]?).join) [] S1)):As nt js (λ_ _ R=>R J H2) gl AM (RE E0 te) σ H2 Q:=by
 intro a ha;have pn:W2.P a=ae:=r2.xm ha;refine⟨λi m σ2 H acc=>i<=ts.length/\m=ts.length-i/\∃W3 S ρ tW,W2.le (W3.ot a)/\W3.P a=aa (.lst acc)/\cQ W3 S H/\gf W3 ρ σ2/\aW W3 tW acc /\
  bq E0 W2 (λres _ S' _=>PF res S') (mJ st g tc te (ts.drop i) ρ tW S),⟨_,dJ _,rfl,W2.mX a (.lst []),S1,aS nt ae++js.map λj=>(ρ[j]?).join,[],?_,fX,r2.xn ha _,?_,aW.gb,?_⟩,?_⟩
 .exact(Zau pn).trans RY
 .refine gf.append (gf.zh nt (fF ..)) ?_
  exact(gf.D3 env js).mono (Wd.sL pn)
 .rw[pe];exact p1
 .rintro i m σ2 H acc ⟨hi,rfl,W3,S3,ρ3,tW,l3,hp,r3,e3,qK,p3⟩
  have Hh:W2.le W3:=l3.trans (Zat W3 a);refine⟨(r3.prv a _ hp).1,?_⟩;by_cases qh:i<ts.length
  .rw [p_ qh] at p3
   unfold mJ at p3
   split at p3
   .rename_i fm
    obtain⟨go,yl⟩:=ok.go i W3 S3 H Hh r3 fm qh;refine .inr ⟨go,_,fun σ' H' lL n=>⟨ts.length-(i+1),by omega,qh,rfl,n⟩,λx H' y=>?_⟩;obtain⟨W4,t,l4,r4,et,dt⟩:=yl x H' y;rw[bf qh] at et;cases et;cases e:g ts[i] ρ3 with
    |none=>simp only[e] at p3;exact p3.elim
    | some ρ4=>
      simp only[e] at p3;refine hG W4 S3 H' _ x ρ3 ρ4 σ2 _ r4 dt (e3.mono l4) e fun σ4 e4=>?_;refine Er _ _ _ ⟨W4,S3,ρ4,r4,e4,(bq.rV p3 (Hh.trans l4)).imp λb W5 S5 H5 l5 r5 p5=>?_⟩;have Es:W3.le W5:=l4.trans l5;cases b with
      |false=>exact rJ ⟨W5,S5,ρ4,tW,l3.trans (RX Es a),Es.p a _ hp,r5,e4.mono l5,aW.mono Es _ _ qK,p5⟩
      | true=>
        refine rK ⟨W5,S5,ρ4,r5,e4.mono l5,(bq.rV (show bq E0 W2 _ (M.bind (te ρ4) _ S5) from p5) (Hh.trans Es)).imp λty W6 S6 H6 l6 r6 p6 y dy=>?_⟩;have Lx:W3.le W6:=Es.trans l6;have R0:=Lx.p a _ hp
        split at p6
        .rename_i hl
         have hla:acc.length<1000:=by rw[<- qK.length];exact hl
         refine⟨(r6.prv a _ R0).1,ax hla (rG (az _)),W6.mX a (.lst (acc++[y])),S6,ρ4,tW++[ty],(l3.trans (RX Lx a)).trans RY,fX,r6.xp R0 (by intro _ z;cases z) (by intro _ _ z;cases z) _,?_,?_,p6⟩
         .exact gf.hs (W:=W6) (W':=W6.mX a (.lst (acc++[y]))) rfl rfl rfl ((e4.mono l5).mono l6)
         .exact aW.hs (W:=W6) (W':=W6.mX a (.lst (acc++[y]))) rfl rfl rfl _ _ ((aW.mono Lx _ _ qK).append (aW.eB dy aW.gb))
        .exact p6.elim
   .exact p3.elim
  .have e:i=ts.length:=by omega
   subst e;rw[nG] at p3;unfold mJ at p3
   split at p3
   .rename_i fm
    exact .inl ⟨ok.stop _ W3 S3 H Hh r3 fm rfl,Au acc tW W3 S3 H a hp r3 qK l3 (p3 (W3.ot a) H l3 (r3.ot a (by rw[hp];intro _ z;cases z)))⟩
   .exact p3.elim
theorem Hi(hI:RI E it wi)(hG:GT gl g)(Er:∀σ H Q,RT E0 tc σ H Q->AM σ H Q)(hf:zp E eV){σ:St}{H:Hp}{Q:VK}(h:RE E (jN nt js it g tc te eV) σ H Q):As nt js wi gl AM (RE E0 te) σ H Q:=by
 obtain⟨W,S,ρ,rp,env,p⟩:=h;refine hI σ H _ ⟨W,S,ρ,rp,env,(bq.bind p).imp λq W1 S1 H1 l1 r1 p1 J W2 H2 l2 r2 ok=>?_⟩;exact RZ (PF:=λus S3=>bq E W2 (QV Q) (eV us S3)) hG Er r2 (env.mono (l1.trans l2)) ok (λacc us W3 S3 H3 a hp r3 qK l3 p4=>hf acc us W2 W3 S3 H3 a Q l3 hp r3 qK p4) (z3f (E':=E0) (bq.rV (B_ p1 l2) (Wd.le.refl _)))
variable {scope:iz}{cl:List (Str×ai)}{nts xs:List Str}{pos:Pos}
theorem R3(hc:X.calm=true)(C:uv X scope cl nts xs js)(hi:PI X tg iter wi)(hI:RI E it wi)(hg:∀fp s3 H2,PG (iX X scope cl (nts++xs) fp s3 H2) tg gl)(hG:GT gl g)(he:∀fp s3 H2,PE (iX X scope cl (nts++xs) fp s3 H2) jF (RE E0 te))(hf:zp E eV)
  (hs:∀x,cG iter X.env x=pure x:=by intro _;rfl):PE X (.ListComp jF [⟨tg,iter,[],0⟩] scope pos) (RE E (jN nts.length js it g mz te eV)):=
 iQ (Y9 hc C hi hg he hs) fun σ H Q h=>Hi hI hG (fun σ H Q h=>RC h) hf h
theorem B'(hc:X.calm=true)(C:uv X scope cl nts xs js)(hi:PI X tg iter wi)(hI:RI E it wi)(hg:∀fp s3 H2,PG (iX X scope cl (nts++xs) fp s3 H2) tg gl)(hG:GT gl g)(ht:∀fp s3 H2,PT (iX X scope cl (nts++xs) fp s3 H2) c (RT E0 tc))(he:∀fp s3 H2,PE (iX X scope cl (nts++xs) fp s3 H2) jF (RE E0 te))(hf:zp E eV)
  (hs:∀x,cG iter X.env x=pure x:=by intro _;rfl):PE X (.ListComp jF [⟨tg,iter,[c],0⟩] scope pos) (RE E (jN nts.length js it g tc te eV)):=
 iQ (Q0 hc C hi hg ht he hs) fun σ H Q h=>Hi hI hG (fun σ H Q h=>h) hf h
theorem Ly{i:Nat}{y:Str}{py nP:Pos}(hc:X.calm=true)(C:uv X scope cl nts xs js)(hi:PI X tg iter wi)(hI:RI E it wi)(hg:∀fp s3 H2,PG (iX X scope cl (nts++xs) fp s3 H2) tg gl)(hG:GT gl g)(he:∀fp s3 H2,PE (iX X scope cl (nts++xs) fp s3 H2) jF (RE E0 te))(hf:zp E eV)
  (hN:X.N.Nodup) (hy:X.N[i]?=aa y) (hx:Loc X.env.scope y) (hkn:∀u:V,X.kn[i]?≠aa (aa u)) (Lz:X.fn y=true\/X.env.scope.names.lookup y=aa .local:=by first | exact .inl rfl | exact .inr rfl | assumption)
  (AA:fu (.ListComp jF [⟨tg,iter,[],0⟩] scope pos) (aa (.Name y py)) nP.line X.env=pure true:=by rfl)
  (hs:∀x,cG iter X.env x=pure x:=by intro _;rfl):PS X (.Assign [.Name y py] (.ListComp jF [⟨tg,iter,[],0⟩] scope pos) nP) (RS E (cE i (jN nts.length js it g mz te eV))):=
 tO (Y_ hc C hi hg he hN hy hx hkn Lz AA hs) λD σ H h=>Hi hI hG (fun σ H Q h=>RC h) hf (Lu h)
theorem LA{i:Nat}{y:Str}{py nP:Pos}(hc:X.calm=true)(C:uv X scope cl nts xs js)(hi:PI X tg iter wi)(hI:RI E it wi)(hg:∀fp s3 H2,PG (iX X scope cl (nts++xs) fp s3 H2) tg gl)(hG:GT gl g)(ht:∀fp s3 H2,PT (iX X scope cl (nts++xs) fp s3 H2) c (RT E0 tc))(he:∀fp s3 H2,PE (iX X scope cl (nts++xs) fp s3 H2) jF (RE E0 te))(hf:zp E eV)
  (hN:X.N.Nodup) (hy:X.N[i]?=aa y) (hx:Loc X.env.scope y) (hkn:∀u:V,X.kn[i]?≠aa (aa u)) (Lz:X.fn y=true\/X.env.scope.names.lookup y=aa .local:=by first | exact .inl rfl | exact .inr rfl | assumption)
  (AA:fu (.ListComp jF [⟨tg,iter,[c],0⟩] scope pos) (aa (.Name y py)) nP.line X.env=pure true:=by rfl)
  (hs:∀x,cG iter X.env x=pure x:=by intro _;rfl):PS X (.Assign [.Name y py] (.ListComp jF [⟨tg,iter,[c],0⟩] scope pos) nP) (RS E (cE i (jN nts.length js it g tc te eV))):=
 tO (Zh hc C hi hg ht he hN hy hx hkn Lz AA hs) λD σ H h=>Hi hI hG (fun σ H Q h=>h) hf (Lu h)
end
end MF
namespace MF
open PySem PySem.Spec PyProof.Rows L2
abbrev Fn:=List T->M T
def fE(n:Nat)(F:Fn):Sp:=λvs H Q E=>∃W S ts,cQ W S H/\aW W ts vs/\ts.length=n/\bq E W (QV Q) (F ts S)
noncomputable def cF(n:Nat)(d:DS):Fn:=λts=>(d (ts.map aa++aS (n-ts.length) ae)).bind λx=>match x with
 |.rt t=>M.pure t
 |.nx _=>M.pure .bH
 |_=>M.bad
section
variable {P:aR}{w:bu}{K:aM}{mg:Str->Option af}{base:bN}
theorem Zdd{x qual:Str}{st:bR}{dV:af}{f:ai}{fd:bA}{N ps:List Str}{k:Nat}{d:DS}(F:cO K x qual st dV f fd)(S:gj N ps (d8 st))
  (lK:∀(gT:af) (A:bW) (outer:List Env) (s:aj) (H:Hp) (E:XK),eJ k (A.deeper (iH qual (d8 st) s.heap.objs.size f gT)) ->
   k8 (h8 (dP P w) P w K mg base N qual (d8 st) f gT A outer s H E) (oj st) (RS E d)):bE P w K mg base (dP P w) (k+1) f fd ps (fE ps.length (cF N.length d)):=by
 refine F.KD S (λvs H Q E h=>?_) λgT A outer s H vs Q E hr h=>⟨RS E d,lK gT A outer s H E hr,?_⟩
 .obtain⟨W,S,ts,_,d,e,_⟩:=h
  rw[<- d.length];exact e
 .obtain⟨W,S0,ts,rp,dn,e,p⟩:=h
  refine⟨W,S0,ts.map aa++aS (N.length-ts.length) ae,rp,?_,(bq.bind p).imp λx W1 S1 H1 l1 r1 p1=>?_⟩
  .unfold L2.start
   rw[<- dn.length];exact gf.append (gf.vq dn) (gf.zh _ (fF ..))
  .cases x with
   |rt t=>exact p1 W1 H1 (Wd.le.refl _) r1
   |nx ρ=>exact fun σ' _=>p1 W1 H1 (Wd.le.refl _) r1 .bH (o5.mpr rfl)
   |bk ρ=>exact p1.elim
   |ct ρ=>exact p1.elim
end
mutual
def HB(n:Nat):T->Prop
 |.lst ts=>sQ n ts
 |.tup ts=>sQ n ts
 |.dic kvs=>xB n kvs
 |.obj k=>k<n
 |.bH=>True
 |.bl _=>True
 |.int _=>True
 |.str _=>True
def sQ(n:Nat):List T->Prop
 |[]=>True
 |t::ts=>HB n t/\sQ n ts
def xB(n:Nat):List (bZ×T)->Prop
 |[]=>True
 |(_,t)::ts=>HB n t/\xB n ts
end
def Et(n:Nat):List (Str×T)->Prop
 |[]=>True
 |(_,t)::ts=>HB n t/\Et n ts
mutual
theorem LB{W:Wd}:∀(t:T) (v:V),cz W t v->HB W.n t
 |.bH,_,_=>by simp only[HB]
 |.bl _,_,_=>by simp only[HB]
 |.int _,_,_=>by simp only[HB]
 |.str _,_,_=>by simp only[HB]
 |.lst ts,v,h=>by obtain⟨a,vs,_,_,h2⟩:=rP.mp h;simp only[HB];exact pD ts vs h2
 |.tup ts,v,h=>by obtain⟨a,vs,_,_,h2⟩:=rQ.mp h;simp only[HB];exact pD ts vs h2
 |.dic ts,v,h=>by obtain⟨a,vs,_,_,h2⟩:=xl.mp h;simp only[HB];exact pE ts vs h2
 |.obj k,v,h=>by simp only[HB];exact(nQ.mp h).2
theorem pD{W:Wd}:∀(ts:List T) (vs:List V),aW W ts vs->sQ W.n ts
 |[],_,_=>by simp only[sQ]
 |t::ts,vs,h=>by obtain⟨v,r,_,h1,h2⟩:=nv.mp h;simp only[sQ];exact⟨LB t v h1,pD ts r h2⟩
theorem pE{W:Wd}:∀(ts:List (bZ×T)) (vs:List (bZ×V)),bQ W ts vs->xB W.n ts
 |[],_,_=>by simp only[xB]
 |(k,t)::ts,vs,h=>by obtain⟨v,r,_,h1,h2⟩:=sJ.mp h;simp only[xB];exact⟨LB t v h1,pE ts r h2⟩
end
theorem LC{W:Wd}:∀{ts:List (Str×T)} {vs:List (Str×V)},fj W ts vs->Et W.n ts
 |[],_,_=>trivial
 |(k,t)::ts,vs,⟨v,r,_,h1,h2⟩=>⟨LB t v h1,LC h2⟩
structure Ca(W W':Wd)(n:Nat):Prop where
 hs:∀a o,W.HS a=aa o->W'.HS a=aa o
 μ:∀k,k<n->W'.μ k=W.μ k
 n:W'.n=n
 p:∀a o,W.P a=aa o->W'.P a=aa o
mutual
theorem cz.cut{W W':Wd}{n:Nat}(c:Ca W W' n):∀(t:T) (v:V),HB n t->cz W t v->cz W' t v
 |.bH,_,_,h=>o5.mpr (o5.mp h)
 |.bl _,_,_,h=>jB.mpr (jB.mp h)
 |.int _,_,_,h=>jC.mpr (jC.mp h)
 |.str _,_,_,h=>nu.mpr (nu.mp h)
 |.lst ts,v,b,h=>by obtain⟨a,vs,e,h1,h2⟩:=rP.mp h;simp only[HB] at b;exact rP.mpr ⟨a,vs,e,c.hs _ _ h1,aW.cut c ts vs b h2⟩
 |.tup ts,v,b,h=>by obtain⟨a,vs,e,h1,h2⟩:=rQ.mp h;simp only[HB] at b;exact rQ.mpr ⟨a,vs,e,c.hs _ _ h1,aW.cut c ts vs b h2⟩
 |.dic ts,v,b,h=>by obtain⟨a,vs,e,h1,h2⟩:=xl.mp h;simp only[HB] at b;exact xl.mpr ⟨a,vs,e,c.hs _ _ h1,bQ.cut c ts vs b h2⟩
 |.obj k,v,b,h=>by obtain⟨e,h1⟩:=nQ.mp h;simp only[HB] at b;exact nQ.mpr ⟨by rw[c.μ k b];exact e,by rw[c.n];exact b⟩
theorem aW.cut{W W':Wd}{n:Nat}(c:Ca W W' n):∀(ts:List T) (vs:List V),sQ n ts->aW W ts vs->aW W' ts vs
 |[],vs,_,h=>oq.mpr (oq.mp h)
 |t::ts,vs,b,h=>by obtain⟨v,r,e,h1,h2⟩:=nv.mp h;simp only[sQ] at b;exact nv.mpr ⟨v,r,e,cz.cut c t v b.1 h1,aW.cut c ts r b.2 h2⟩
theorem bQ.cut{W W':Wd}{n:Nat}(c:Ca W W' n):∀(ts:List (bZ×T)) (vs:List (bZ×V)),xB n ts->bQ W ts vs->bQ W' ts vs
 |[],vs,_,h=>qV.mpr (qV.mp h)
 |(k,t)::ts,vs,b,h=>by obtain⟨v,r,e,h1,h2⟩:=sJ.mp h;simp only[xB] at b;exact sJ.mpr ⟨v,r,e,cz.cut c t v b.1 h1,bQ.cut c ts r b.2 h2⟩
end
theorem fj.cut{W W':Wd}{n:Nat}(c:Ca W W' n):∀{ts:List (Str×T)} {vs:List (Str×V)},Et n ts->fj W ts vs->fj W' ts vs
 |[],_,_,h=>h
 |(k,t)::ts,vs,b,⟨v,r,e,h1,h2⟩=>⟨v,r,e,cz.cut c t v b.1 h1,fj.cut c b.2 h2⟩
def LD(n:Nat):cg->Prop
 |.lst ts=>sQ n ts
 |.dic ts=>xB n ts
 |.ins _ fs=>Et n fs
 |.lck ts=>xB n ts
 |.exc _ ae=>True
 |.exc _ (aa fs)=>Et n fs
theorem Zav{W:Wd}{H:Hp}{a:ai}:∀{c:cg},k_ W H a c->LD W.n c
 |.lst _,⟨_,_,h⟩=>pD _ _ h
 |.dic _,⟨_,_,h⟩=>pE _ _ h
 |.ins _ _,⟨_,_,_,h⟩=>LC h
 |.lck _,⟨_,_,_,h⟩=>pE _ _ h
 |.exc _ ae,_=>trivial
 |.exc _ (aa _),⟨aa _,_,_,_,h⟩=>LC h
 |.exc _ (aa _),⟨ae,_,h⟩=>h.elim
theorem k_.cut{W W':Wd}{H:Hp}{a:ai}{n:Nat}(c:Ca W W' n):∀{q:cg},LD n q->k_ W H a q->k_ W' H a q
 |.lst _,b,⟨_,h1,h⟩=>⟨_,h1,aW.cut c _ _ b h⟩
 |.dic _,b,⟨_,h1,h⟩=>⟨_,h1,bQ.cut c _ _ b h⟩
 |.ins _ _,b,⟨_,_,h1,h⟩=>⟨_,_,h1,fj.cut c b h⟩
 |.lck _,b,⟨_,_,h1,h⟩=>⟨_,_,h1,bQ.cut c _ _ b h⟩
 |.exc _ ae,b,⟨ae,h1,_⟩=>⟨ae,h1,trivial⟩
 |.exc _ (d9 _),b,⟨d9 _,h1,ks,h2,h⟩=>⟨_,h1,ks,c.p _ _ h2,fj.cut c b h⟩
 |.exc _ ae,_,⟨d9 _,_,h⟩=>h.elim
 |.exc _ (d9 _),_,⟨ae,_,h⟩=>h.elim
noncomputable def ie{α β:Type}(f:α->Option β):List α->Option (List β)
 |[]=>aa []
 | a::r=>match f a,ie f r with
   |some b,aa bs=>aa (b::bs)
   |_,_=>ae
open Classical in
noncomputable def fz(S:bI)(n:Nat):Nat->T->Option T
 |0,t=>if HB n t then aa t else ae
 | f + 1,t=>if HB n t then aa t else match t with
   | .obj k=>(match S[k]? with
     |some (.lst ts)=>(ie (fz S n f) ts).map .lst
     |some (.dic kvs)=>(ie (λp=>(fz S n f p.2).map λt=>(p.1,t)) kvs).map .dic
     |_=>ae)
   |.lst ts=>(ie (fz S n f) ts).map .lst
   |.tup ts=>(ie (fz S n f) ts).map .tup
   |_=>ae
open Classical in
noncomputable def j4(F:Fn):Fn:=λts S=>match F ts S with
 | .ok t S'=>if S'.take S.length=S then(match fz S' S.length 6 t with
   |some t'=>.ok t' S
   |none=>.bad) else .bad
 |.exc C ae S'=>if S'.take S.length=S then .exc C ae S else .bad
 | .exc C (aa fs) S'=>if S'.take S.length=S then(match ie (λp=>(fz S' S.length 6 p.2).map λt=>(p.1,t)) fs with
   |some wu=>.exc C (aa wu) S
   |none=>.bad) else .bad
 |.bad=>.bad
section
variable {W:Wd}{S:bI}{H:Hp}
noncomputable def Eu:HO->HO
 |.eL _ u=>u
 |o=>o
open Classical in
def Wd.cut(W:Wd)(H:Hp)(n:Nat):Wd:=⟨λa=>if W.HS a≠ae then W.HS a else if(∃k,n<=k/\k<W.n/\W.μ k=a) then(H a).map Eu else ae,W.μ,n,W.Z,W.P⟩
open Classical in
theorem Hj{n:Nat}{a:ai}{o:HO}(h:W.HS a=aa o):(W.cut H n).HS a=aa o:=by
 show(if W.HS a≠ae then W.HS a else _)=aa o;rw[if_pos (by rw[h];intro z;cases z)];exact h
open Classical in
theorem R4{n k:Nat}(r:cQ W S H)(hk:n<=k)(hn:k<W.n):(W.cut H n).HS (W.μ k)=(H (W.μ k)).map Eu:=by
 obtain⟨c,hc⟩:=r.cellAt hn;show(if W.HS (W.μ k)≠ae then _ else if(∃j,n<=j/\j<W.n/\W.μ j=W.μ k) then(H (W.μ k)).map Eu else ae)=_;rw[if_neg (by rw[(r.cell k c hc).2];exact λz=>z rfl),if_pos ⟨k,hk,hn,rfl⟩]
theorem LF{n:Nat}:Ca W (W.cut H n) n:=⟨λ_ _ h=>Hj h,λ_ _=>rfl,rfl,λ_ _ h=>h⟩
theorem LG{W0:Wd}{n:Nat}(l:W0.le W)(hn:W0.n=n):W0.le (W.cut H n):=⟨λa o h=>Hj (l.hs a o h),l.z,l.p,gV hn,l.μ⟩
open Classical in
theorem cQ.cut(r:cQ W S H){n:Nat}(hn:n<=W.n)(hb:∀k c,k<n->S[k]?=aa c->LD n c):cQ (W.cut H n) (S.take n) H where
 sub:=λa o e=>by
  have e:(if W.HS a≠ae then W.HS a else if(∃k,n<=k/\k<W.n/\W.μ k=a) then(H a).map Eu else ae)=aa o:=e
  split at e
  .exact r.sub a o e
  .split at e
   .rename_i hk
    obtain⟨k,h1,h2,rfl⟩:=hk;obtain⟨c,hc⟩:=r.cellAt h2;have z:=(r.cell k c hc).1;cases c with
    |lst ts=>obtain⟨_,h1,_⟩:=z;rw[h1] at e;cases e;exact⟨.inl h1,trivial⟩
    |dic ts=>obtain⟨_,h1,_⟩:=z;rw[h1] at e;cases e;exact⟨.inl h1,trivial⟩
    |ins _ ts=>obtain⟨_,_,h1,_⟩:=z;rw[h1] at e;cases e;exact⟨.inl h1,trivial⟩
    |exc _ ts=>obtain⟨_,h1,_⟩:=z;rw[h1] at e;cases e;exact⟨.inl h1,trivial⟩
    |lck ts=>obtain⟨q,_,h1,_⟩:=z;rw[h1] at e;cases e;exact⟨.inr ⟨⟨q,h1⟩,by intro _ y;cases y⟩,trivial⟩
   .cases e
 len:=by rw[jD,r.len];exact Nat.min_eq_left hn
 cell:=λk c e=>by
  have hk:k<n:=by
   have:=(aB.mp e).1;rw[jD] at this;omega
  rw[gu hk] at e;refine⟨(r.cell k c e).1.cut LF (hb k c hk e),?_⟩;show(if W.HS (W.μ k)≠ae then _ else if(∃j,n<=j/\j<W.n/\W.μ j=W.μ k) then _ else ae)=ae;rw[if_neg (by rw[(r.cell k c e).2];exact λz=>z rfl),if_neg];rintro⟨j,h1,h2,h3⟩;have:=r.inj j k h2 (r.lt e) h3;omega
 inj:=λj k hj hk e=>r.inj j k (ax hj hn) (ax hk hn) e
 zed:=r.zed
 prv:=λa o e=>by
  obtain⟨h1,h2,h3⟩:=r.prv a o e;refine⟨h1,?_,λk hk=>h3 k (ax hk hn)⟩;show(if W.HS a≠ae then _ else if(∃k,n<=k/\k<W.n/\W.μ k=a) then _ else ae)=ae;rw[if_neg (by rw[h2];exact λz=>z rfl),if_neg];rintro⟨j,_,h5,h6⟩;exact h3 j h5 h6
theorem Hk{n:Nat}{g:T->Option T}(hg:∀t t' v,g t=aa t'->cz W t v->cz (W.cut H n) t' v):∀{ts qi:List T} {vs:List V},ie g ts=aa qi->aW W ts vs->aW (W.cut H n) qi vs
 |[],qi,vs,e,h=>by cases e;exact oq.mpr (oq.mp h)
 | t :: ts,qi,vs,e,h=>by
   obtain⟨v,r,rfl,h1,h2⟩:=nv.mp h;unfold ie at e;cases e1:g t with
   |none=>simp[e1] at e
   | some t'=>
     cases e2:ie g ts with
     |none=>simp[e1,e2] at e
     | some R6=>
       simp[e1,e2] at e;subst e;exact aW.eB (hg t t' v e1 h1) (Hk hg e2 h2)
theorem R7{n:Nat}{g:T->Option T}(hg:∀t t' v,g t=aa t'->cz W t v->cz (W.cut H n) t' v):∀{ts qi:List (bZ×T)} {vs:List (bZ×V)},ie (λp=>(g p.2).map λt=>(p.1,t)) ts=aa qi->bQ W ts vs->bQ (W.cut H n) qi vs
 |[],qi,vs,e,h=>by cases e;exact qV.mpr (qV.mp h)
 | (k, t)::ts,qi,vs,e,h=>by
   obtain⟨v,r,rfl,h1,h2⟩:=sJ.mp h;unfold ie at e;cases e1:g t with
   |none=>simp[e1] at e
   | some t'=>
     cases e2:ie (λp=>(g p.2).map λt=>(p.1,t)) ts with
     |none=>simp[e1,e2] at e
     | some R6=>
       simp[e1,e2] at e;subst e;exact bQ.eB (hg t t' v e1 h1) (R7 hg e2 h2)
theorem R8{n:Nat}{g:T->Option T}(hg:∀t t' v,g t=aa t'->cz W t v->cz (W.cut H n) t' v):∀{ts qi:List (Str×T)} {vs:List (Str×V)},ie (λp=>(g p.2).map λt=>(p.1,t)) ts=aa qi->fj W ts vs->fj (W.cut H n) qi vs
 |[],qi,vs,e,h=>by cases e;exact h
 | (k, t)::ts,qi,vs,e,⟨v,r,e0,h1,h2⟩=>by
   unfold ie at e;cases e1:g t with
   |none=>simp[e1] at e
   | some t'=>
     cases e2:ie (λp=>(g p.2).map λt=>(p.1,t)) ts with
     |none=>simp[e1,e2] at e
     | some R6=>
       simp[e1,e2] at e;subst e;exact⟨v,r,e0,hg t t' v e1 h1,R8 hg e2 h2⟩
open Classical in
theorem Zaw{n:Nat}{d:ai}{ks:List (Str×V)}(r:cQ W S H)(hd:H d=aa (.xd ks))(h0:W.HS d=ae):(W.cut H n).HS d=ae:=by
 show(if W.HS d≠ae then W.HS d else if(∃k,n<=k/\k<W.n/\W.μ k=d) then(H d).map Eu else ae)=ae;rw[if_neg (by rw[h0];exact λz=>z rfl),if_neg];rintro⟨k,_,hk,rfl⟩;obtain⟨c,hc⟩:=r.cellAt hk;have z:=(r.cell k c hc).1;cases c with
 |lst ts=>obtain⟨_,h1,_⟩:=z;rw[hd] at h1;cases h1
 |dic ts=>obtain⟨_,h1,_⟩:=z;rw[hd] at h1;cases h1
 |ins _ ts=>obtain⟨_,_,h1,_⟩:=z;rw[hd] at h1;cases h1
 |exc _ ts=>obtain⟨_,h1,_⟩:=z;rw[hd] at h1;cases h1
 |lck ts=>obtain⟨_,_,h1,_⟩:=z;rw[hd] at h1;cases h1
theorem Cb(r:cQ W S H){n:Nat}:∀(f:Nat) (t t':T) (v:V),fz S n f t=aa t'->cz W t v->cz (W.cut H n) t' v
 | 0,t,t',v,e,d=>by
   unfold fz at e
   split at e
   .rename_i h;cases e;exact cz.cut LF _ _ h d
   .cases e
 | f + 1,t,t',v,e,d=>by
   unfold fz at e
   split at e
   .rename_i h;cases e;exact cz.cut LF _ _ h d
   .rename_i hnb
    split at e
    .rename_i k
     obtain⟨rfl,hk⟩:=nQ.mp d;have R9:n<=k:=by
      simp only[HB] at hnb;omega
     split at e
     .rename_i ts ec
      obtain⟨qi,e1,rfl⟩:=bg.mp e;obtain⟨⟨vs,h1,h2⟩,_⟩:=r.cell k _ ec;exact rP.mpr ⟨_,vs,rfl,(R4 r R9 hk).trans (by rw[h1];rfl),Hk (Cb r f) e1 h2⟩
     .rename_i kvs ec
      obtain⟨qi,e1,rfl⟩:=bg.mp e;obtain⟨⟨vs,h1,h2⟩,_⟩:=r.cell k _ ec;exact xl.mpr ⟨_,vs,rfl,(R4 r R9 hk).trans (by rw[h1];rfl),R7 (Cb r f) e1 h2⟩
     .cases e
    .rename_i ts
     obtain⟨qi,e1,rfl⟩:=bg.mp e;obtain⟨a,vs,rfl,h1,h2⟩:=rP.mp d;exact rP.mpr ⟨a,vs,rfl,Hj h1,Hk (Cb r f) e1 h2⟩
    .rename_i ts
     obtain⟨qi,e1,rfl⟩:=bg.mp e;obtain⟨a,vs,rfl,h1,h2⟩:=rQ.mp d;exact rQ.mpr ⟨a,vs,rfl,Hj h1,Hk (Cb r f) e1 h2⟩
    .cases e
end
theorem z7h{n:Nat}{F:Fn}{vs:List V}{H:Hp}{Q:VK}{E:XK}(h:fE n (j4 F) vs H Q E):fE n F vs H Q E:=by
 obtain⟨W,S,ts,rp,d,hl,p⟩:=h;refine⟨W,S,ts,rp,d,hl,?_⟩;have AB:∀{S':bI} {W':Wd} {H':Hp},S'.take S.length=S->W.le W'->cQ W' S' H'->cQ (W'.cut H' W.n) S H':=λ{S' W' H'} e l r=>by
  have:=r.cut (n:=W.n) l.n (λk c hk ec=>by
   have e2:S[k]?=aa c:=by rw[<- e,gu (by rw[rp.len];exact hk)];exact ec
   exact Zav (rp.cell k c e2).1)
  rw[<- rp.len] at this;rw[e] at this;rw[<- rp.len];exact this
 unfold j4 at p;cases e:F ts S with
 |bad=>rw[e] at p;exact p.elim
 | ok t S'=>
   rw[e] at p;simp only at p
   split at p
   .rename_i es
    cases ez:fz S' S.length 6 t with
    |none=>rw[ez] at p;exact p.elim
    | some t'=>
      rw[ez] at p;intro W' H' l r v dv;refine p (W'.cut H' W.n) H' (LG l rfl) (AB es l r) v ?_;rw[rp.len] at ez;exact Cb r 6 t t' v ez dv
   .exact p.elim
 | exc C fs S'=>
   rw[e] at p;cases fs with
   | some fs=>
     simp only at p
     split at p
     .rename_i es
      split at p
      .rename_i wu ef
       intro W' H' dx l r x;refine p (W'.cut H' W.n) H' dx (LG l rfl) (AB es l r) ?_;cases dx with
       |none=>exact x.elim
       | some d=>
         obtain⟨ks,x1,x2,x3⟩:=x;exact⟨ks,x1,Zaw r x1 x2,R8 (Cb r 6) (by rw[<- rp.len];exact ef) x3⟩
      .exact p.elim
     .exact p.elim
   | none=>
     simp only at p
     split at p
     .rename_i es
      intro W' H' dx l r x;refine p (W'.cut H' W.n) H' dx (LG l rfl) (AB es l r) ?_;cases dx with
      |none=>exact trivial
      |some _=>exact x.elim
     .exact p.elim
theorem bE.eL{P:aR}{w:bu}{K:aM}{mg:Str->Option af}{base:bN}{CX:sH}{k:Nat}{f:ai}{fd:bA}{ps:List Str}{n:Nat}{F:Fn}(h:bE P w K mg base CX k f fd ps (fE n F)):bE P w K mg base CX k f fd ps (fE n (j4 F)):=
 h.imp λvs H Q E q=>z7h q
end MF
namespace MF
open PySem PySem.Spec L2
structure FnAt(P:aR)(w:bu)(K:aM)(mg:Str->Option af)(base:bN)(k:Nat)(x:Str)(ps:List Str)(F:Fn)(f:ai)(fd:bA):Prop where
 ok:bE P w K mg base (dP P w) k f fd ps (fE ps.length F)
 m:mg x=aa (.ref f)
 kp:iJ K (.ref f)=true
 b:mH K fd ps []
structure fY(P:aR)(w:bu)(K:aM)(mg:Str->Option af)(base:bN)(k:Nat)(C:ai)(m:Str)(ps:List Str)(F:Fn)(f:ai)(fd:bA):Prop where
 ok:bE P w K mg base (dP P w) k f fd ps (fE ps.length F)
 cl:nq K C
 me:u3 K C m f
 b:mH K fd ps []
structure rW(P:aR)(w:bu)(K:aM)(mg:Str->Option af)(base:bN)(k:Nat)(x:Str)(C:ai)(ps:List Str)(F:Fn)(f:ai)(fd:bA):Prop where
 ok:bE P w K mg base (dP P w) k f fd ps (fE ps.length F)
 m:mg x=aa (.ref C)
 Hl:Mk K C f
 b:mH K fd ps []
noncomputable def fw(F:Fn)(ds:List T)(fr:DA):DE:=fun ρ=>(fr ρ).bind λts=>F (ts++ds)
noncomputable def jO(C:ai)(m:Str)(F:Fn)(ds:List T)(fo:DE)(fr:DA):DE:=fun ρ=>(fo ρ).bind λo=>λS=>match o7 S C o with
 |some (_,fs)=>if(fs.lookup m).isNone=true then((fr ρ).bind λts=>F (o::(ts++ds))) S else .bad
 |none=>.bad
noncomputable def zq(C:ai)(F:Fn)(ds:List T)(fr:DA):DE:=fun ρ=>(fr ρ).bind λts=>λS=>M.bind (F (.obj S.length::(ts++ds))) (λt=>match t with
 |.bH=>M.pure (.obj S.length)
 |_=>M.bad) (S++[.ins C []])
theorem AN{P:aR}{w:bu}{X:Cx}:oF (dP P w) X E0:=λag σ H s e s' I h=>by
 obtain⟨_,_,_,_,_,_,_,_,_,_,_,_,_,_,_,_,_,_,_,z⟩:=h;exact z.elim
section
variable {X:Cx}{E:XK}{k:Nat}{f C:ai}{fd:bA}{ps:List Str}{F:Fn}{x m:Str}{p pos cP:Pos}{e o:bt}{es:List bt}{fo:DE}{fr:DA}{ds:List T}{jA:List V}{R_:List af}
noncomputable def bx(n:Nat)(F:Fn):Fn:=λts S=>if ts.length=n then F ts S else .bad
theorem z3g(hd:∀W,aW W ds jA){σ:St}{H:Hp}{Q:VK}(h:RE E (fw (bx ps.length F) ds fr) σ H Q):P8 (fE ps.length F) jA E (RA E fr) σ H Q:=by
 obtain⟨W,S,ρ,rp,env,q⟩:=h;refine⟨W,S,ρ,rp,env,(bq.bind q).imp λts W1 S1 H1 l1 r1 p1 vs dv=>?_⟩;unfold bx at p1
 split at p1
 .rename_i z;exact⟨W1,S1,ts++ds,r1,dv.append (hd W1),z,p1⟩
 .exact p1.elim
theorem gH{n:Nat}(G:FnAt X.prog X.w X.K X.mg X.base k x ps F f fd)(hr:eJ k X.A)(hg:Gl X x)(hx:oF (dP X.prog X.w) X E)(ha:PA X (e::es) (RA E fr))
  (jE:(x==("__debug__" : Str))=false:=by decide) (he:av (e::es) X.env=(false,eval e X.env)::av es X.env:=by rfl) (gF:(bK pos (av es X.env)).any (·.1)=false:=by rfl) (hn:ps.length=n:=by rfl):PE X (.Call (.Name x p) (e::es) [] pos) (RE E (fw (bx n F) [] fr)):=by
 subst hn;exact iQ (XN G.ok hr hg G.m G.kp G.b .nil hx ha jE he gF) fun σ H Q h=>z3g (λW=>aW.gb) h
theorem LH(hd:∀W,aW W ds jA){σ:St}{H:Hp}{Q:VK}(h:RE E (jO C m (bx ps.length F) ds fo fr) σ H Q):J5 C m (fE ps.length F) jA E (RE E fo) (RA E fr) σ H Q:=by
 obtain⟨W,S,ρ,rp,env,q⟩:=h;refine⟨W,S,ρ,rp,env,(bq.bind q).imp λt W1 S1 H1 l1 r1 p1 v dv=>?_⟩;cases e:o7 S1 C t with
 |none=>simp only[e] at p1;exact p1.elim
 | some q=>
   obtain⟨j,fs⟩:=q;simp only[e] at p1
   split at p1
   .rename_i hm
    obtain⟨dx,ks,rfl,h0,h1,h2⟩:=r1.inst dv e;refine⟨_,dx,ks,rfl,h1,h2.look.2 (Option.isNone_iff_eq_none.mp hm),W1,S1,ρ,r1,env.mono l1,(bq.bind p1).imp λts W2 S2 H2 l2 r2 p2 vs jA=>?_⟩;unfold bx at p2
    split at p2
    .rename_i z;exact⟨W2,S2,t::(ts++ds),r2,aW.eB (cz.mono l2 _ _ dv) (jA.append (hd W2)),z,p2⟩
    .exact p2.elim
   .exact p1.elim
theorem pF{n:Nat}{pl:Sem Bool}(G:fY X.prog X.w X.K X.mg X.base k C m ps F f fd)(hr:eJ k X.A)(hx:oF (dP X.prog X.w) X E)(ho:PE X o (RE E fo))(ha:PA X (e::es) (RA E fr))
  (fm:av (e::es) X.env=(false,eval e X.env)::av es X.env:=by rfl) (gF:(bK pos (av es X.env)).any (·.1)=false:=by rfl)
  (ht:eval (.Call (.Attribute o m cP) (e::es) [] pos) X.env=(do
   let ov <- eval o X.env
   jQ cP.atName
   let (f,first) <- jR [ov] (gz ov m pl)
   iU pos f first (bK pos (av (e::es) X.env)) (eT pos (cT [] X.env))):=by rfl) (hn:ps.length=n:=by rfl):PE X (.Call (.Attribute o m cP) (e::es) [] pos) (RE E (jO C m (bx n F) [] fo fr)):=by
 subst hn;exact iQ (P9 ho G.cl G.me G.ok hr G.b .nil hx ha fm gF ht) fun σ H Q h=>LH (λW=>aW.gb) h
theorem z7i{n:Nat}{pl:Sem Bool}(G:fY X.prog X.w X.K X.mg X.base k C m ps F f fd)(hr:eJ k X.A)(hx:oF (dP X.prog X.w) X E)(hb:mH X.K fd ps R_)(hv:cf jA R_)(hd:∀W,aW W ds jA)(ho:PE X o (RE E fo))(ha:PA X (e::es) (RA E fr))
  (fm:av (e::es) X.env=(false,eval e X.env)::av es X.env:=by rfl) (gF:(bK pos (av es X.env)).any (·.1)=false:=by rfl)
  (ht:eval (.Call (.Attribute o m cP) (e::es) [] pos) X.env=(do
   let ov <- eval o X.env
   jQ cP.atName
   let (f,first) <- jR [ov] (gz ov m pl)
   iU pos f first (bK pos (av (e::es) X.env)) (eT pos (cT [] X.env))):=by rfl) (hn:ps.length=n:=by rfl):PE X (.Call (.Attribute o m cP) (e::es) [] pos) (RE E (jO C m (bx n F) ds fo fr)):=by
 subst hn;exact iQ (P9 ho G.cl G.me G.ok hr hb hv hx ha fm gF ht) fun σ H Q h=>LH hd h
theorem xC{n:Nat}{pl:Sem Bool}(G:fY X.prog X.w X.K X.mg X.base k C m ps F f fd)(hr:eJ k X.A)(hx:oF (dP X.prog X.w) X E)(ho:PE X o (RE E fo))
  (ht:eval (.Call (.Attribute o m cP) [] [] pos) X.env=(do
   let ov <- eval o X.env
   jQ cP.atName
   let (f,first) <- jR [ov] (gz ov m pl)
   iU pos f first (bK pos (av [] X.env)) (eT pos (cT [] X.env))):=by rfl) (hn:ps.length=n:=by rfl):PE X (.Call (.Attribute o m cP) [] [] pos) (RE E (jO C m (bx n F) [] fo aK)):=by
 subst hn;exact iQ (XO ho G.cl G.me G.ok hr G.b .nil hx ht) fun σ H Q h=>by
  have h:=LH (λW=>aW.gb) h;obtain⟨W,S,ρ,rp,env,p⟩:=h;refine⟨W,S,ρ,rp,env,p.imp λt W1 S1 H1 l1 r1 p1 v dv=>?_⟩;obtain⟨a,dx,fs,e1,e2,e3,W2,S2,ρ2,r2,env2,p2⟩:=p1 v dv;exact⟨a,dx,fs,e1,e2,e3,p2 W2 _ (Wd.le.refl _) r2 [] aW.gb⟩
theorem Sa(hd:∀W,aW W ds jA){σ:St}{H:Hp}{Q:VK}(h:RE E (zq C (bx ps.length F) ds fr) σ H Q):J6 C (fE ps.length F) jA E (RA E fr) σ H Q:=by
 obtain⟨W,S,ρ,rp,env,q⟩:=h;refine⟨W,S,ρ,rp,env,(bq.bind q).imp λts W1 S1 H1 l1 r1 p1 vs dv a dx ha hdx px=>?_⟩;have keep:∀b u,H1 b=aa u->upd (upd H1 dx (.own a)) a (.ins C dx []) b=aa u:=λb u z=>by
  rw[dh (sE z ha),dh (sE z hdx)];exact z
 have r2:cQ (W1.add a) (S1++[.ins C []]) (upd (upd H1 dx (.own a)) a (.ins C dx [])):=r1.qH ha keep (.ins C []) ⟨dx,[],fX,rfl⟩;have l2:W1.le (W1.add a):=Wd.i7;have da:cz (W1.add a) (.obj S1.length) (.ref a):=nQ.mpr ⟨by rw[r1.len,Wd.i8],by rw[r1.len];exact dE _⟩;have p2:=bq.bind (B_ p1 l2);by_cases z:(T.obj S1.length::(ts++ds)).length=ps.length
 .have e:bx ps.length F (.obj S1.length::(ts++ds)) (S1++[.ins C []])=F (.obj S1.length::(ts++ds)) (S1++[.ins C []]):=if_pos z
  rw[e] at p2;refine⟨W1.add a,S1++[.ins C []],.obj S1.length::(ts++ds),r2,aW.eB da ((aW.mono l2 _ _ dv).append (hd _)),z,p2.imp λt W3 S3 H3 l3 r3 p4 v dv3=>?_⟩;cases t with
  |bH=>exact⟨o5.mp dv3,now p4 r3 (cz.mono l3 _ _ da)⟩
  |_=>exact p4.elim
 .have e:bx ps.length F (.obj S1.length::(ts++ds)) (S1++[.ins C []])=.bad:=if_neg z
  rw[e] at p2;exact p2.elim
theorem LI{n:Nat}(G:rW X.prog X.w X.K X.mg X.base k x C ps F f fd)(hr:eJ (k+1) X.A)(hg:Gl X x)(hx:oF (dP X.prog X.w) X E)(ha:PA X (e::es) (RA E fr))
  (jE:(x==("__debug__" : Str))=false:=by decide) (he:av (e::es) X.env=(false,eval e X.env)::av es X.env:=by rfl) (gF:(bK pos (av es X.env)).any (·.1)=false:=by rfl) (hn:ps.length=n:=by rfl):PE X (.Call (.Name x p) (e::es) [] pos) (RE E (zq C (bx n F) [] fr)):=by
 subst hn;exact iQ (XQ G.Hl G.ok hr hg G.m G.b .nil hx ha jE he gF) fun σ H Q h=>Sa (λW=>aW.gb) h
theorem z7j{n:Nat}(G:rW X.prog X.w X.K X.mg X.base k x C ps F f fd)(hr:eJ (k+1) X.A)(hg:Gl X x)(hx:oF (dP X.prog X.w) X E)
  (jE:(x==("__debug__" : Str))=false:=by decide) (hn:ps.length=n:=by rfl):PE X (.Call (.Name x p) [] [] pos) (RE E (zq C (bx n F) [] aK)):=by
 subst hn;exact iQ (XR G.Hl G.ok hr hg G.m G.b .nil hx jE) fun σ H Q h=>by
  have h:=Sa (λW=>aW.gb) h;obtain⟨W,S,ρ,rp,env,p⟩:=h;exact p W H (Wd.le.refl _) rp [] aW.gb
theorem Zax{i:Int}{t:Tok}(hg:Gl X x)(hm:X.mg x=aa (.int i t))(hd:(x==("__debug__" : Str))=false:=by decide):PE X (.Name x p) (RE E (eC (.int i))):=
 iQ (Wz (v:=.int i) hg hm ⟨t,rfl⟩ hd) fun σ H Q h=>vt (λW=>jC.mpr rfl) h
noncomputable def Zde(t:T):M T:=λS=>match t with
 |.str y=>if(cY y).length<=1000 then .ok (.str (cY y)) S else .bad
 |_=>.bad
noncomputable def jT:Str->List DE->DE
 |acc,[]=>λ_ S=>if acc.length<=1000 then .ok (.str acc) S else .bad
 | acc,f::fs=>fun ρ=>(f ρ).bind λt=>match t with
   |.str y=>(λS=>if(acc++y).length<=1000 then jT (acc++y) fs ρ S else .bad)
   |_=>M.bad
noncomputable def z7k(C:ai)(fr:DA):DS:=fun ρ=>(fr ρ).bind λts=>λS=>if ts.length<=1000 then .exc C ae S else .bad
noncomputable def rX(xs:List T)(lo hi:Option Int):List T:=(xs.drop (HT.oG xs.length 0 lo)).take (HT.oG xs.length xs.length hi-HT.oG xs.length 0 lo)
abbrev DO:=Ev->M (Option Int)
noncomputable def uz:DO:=λ_=>M.pure ae
noncomputable def uA(f:DE):DO:=fun ρ=>(f ρ).bind λt=>match t with
 |.int i=>M.pure (aa i)
 |_=>M.bad
noncomputable def uB(f:DE)(lo hi:DO):DE:=fun ρ=>(f ρ).bind λt=>(lo ρ).bind λl=>(hi ρ).bind λh=>λS=>match cW S t with
 |some ts=>.ok (.lst (rX ts l h)) S
 |none=>.bad
def RO(E:XK)(f:DO):TO:=fun σ H Q=>∃W S ρ,cQ W S H/\gf W ρ σ/\bq E W (λo _ _ H'=>Q o H') (f ρ S)
theorem Sb{a:Option bt}{t t':TO}(h:PO X a t)(w:∀σ H Q,t' σ H Q->t σ H Q):PO X a t':=λag s σ H Q I q=>h ag s σ H Q I (w σ H Q q)
theorem LJ:PO X ae (RO E uz):=Sb Yf fun σ H Q h=>by
 obtain⟨W,S,ρ,rp,env,p⟩:=h;exact p W H (Wd.le.refl _) rp
theorem LK(h:PE X e (RE E fo)):PO X (aa e) (RO E (uA fo)):=Sb (Yg h) fun σ H Q h=>by
 obtain⟨W,S,ρ,rp,env,p⟩:=h;refine⟨W,S,ρ,rp,env,(bq.bind p).imp λt W1 S1 H1 l1 r1 p1 v dv=>?_⟩;cases t with
 |int i=>exact⟨i,jC.mp dv,p1 W1 H1 (Wd.le.refl _) r1⟩
 |_=>exact p1.elim
theorem LL{lo hi:Option bt}{p2:Pos}{fl fh:DO}(he:PE X e (RE E fo))(hl:PO X lo (RO E fl))(hh:PO X hi (RO E fh)):PE X (.Subscript e (.Slice lo hi ae p2) pos) (RE E (uB fo fl fh)):=
 iQ (Yi Ys he hl hh) fun σ H Q h=>by
  obtain⟨W,S,ρ,rp,env,p⟩:=h;refine⟨W,S,ρ,rp,env,(bq.bind p).imp λt W1 S1 H1 l1 r1 p1 v dv=>?_⟩;refine⟨W1,S1,ρ,r1,env.mono l1,(bq.bind p1).imp λl W2 S2 H2 l2 r2 p2=>?_⟩;refine⟨W2,S2,ρ,r2,env.mono (l1.trans l2),(bq.bind p2).imp λu W3 S3 H3 l3 r3 p3=>?_⟩;cases e:cW S3 t with
  |none=>simp only[e] at p3;exact p3.elim
  | some ts=>
    simp only[e] at p3;obtain⟨a,vs,rfl,h1,h2⟩:=r3.list (cz.mono (l2.trans l3) _ _ dv) e;refine⟨a,vs,rfl,.inl h1,Ha p3 r3 ?_⟩;unfold rX u7;rw[h2.length];exact(h2.drop _).take _
end
end MF
namespace L2
open PySem PySem.Spec PyProof.Rows
noncomputable def Sd(K:W.Frag)(a:ai)(n:Nat):It:=
 ⟨λi H=>∃xs x,lJ K H a xs/\xs.length=n/\i<n/\xs[n-1-i]?=aa x,λi H x H'=>H'=H/\∀xs,lJ K H a xs->xs[n-1-i]?=aa x,λi H=>i=n⟩
theorem z3h{P:aR}{w:bu}{K:W.Frag}{tg:bt}(a it:ai)(n:Nat):pj P w K tg (Sd K a n) [it] it (λi h=>h.IsRevIter it a ((n:Int)-1-(i:Int))) where
 mem:=by simp
 obj:=λi h st b hb=>by
  have e:b=it:=by simpa using hb
  subst e;obtain⟨o,e,c,d⟩:=st;exact⟨o,e,λv z=>by rw[d] at z;cases z⟩
 keep:=λi h h' st k=>st.at λo e=>k it (by simp) o e
 item:=by
  intro X hP hw hK hc i ag s σ H E I hf st hg;subst hP hw hK;obtain⟨xs,x,hq,hn,hi,hx⟩:=hg;obtain⟨cC,rv,p,hz⟩:=I.list hq;obtain⟨u,hu,ru⟩:=rv.get hx;obtain⟨f0,f1,f2,f3,f4,f5⟩:=hf it (by simp);have e0:(n:Int)-1-(i:Int)=((n-1-i:Nat):Int):=by omega
  have ur:=st;rw[e0] at ur;refine wpAny_pyNext_rev_item ur p.isList (x:=u) (by simpa using hu) λh' w8 sb=>?_;have e1:((n-1-i:Nat):Int)-1=(n:Int)-1-((i+1:Nat):Int):=by omega
  rw[e1] at w8;have I1:Inv X ag σ H { s with heap:=h' }:=I.turned (t':=s.toks) (λb o hb e=>(sb.2 b hb).trans e) f0 f1 f3 f4 f5;obtain⟨o,e,c,d⟩:=id w8;exact⟨u,rfl,JM (s:={ s with heap:=h' }) e c d (by decide) ⟨x,H,I1,ru,⟨rfl,λys hy=>by rw[I.qz hy hq];exact hx⟩,w8,λb hb=>(hf b hb).1⟩⟩
 done:=by
  intro X hP hw hK hc i ag s σ H E I hf st hg;subst hP hw hK;have hg:i=n:=hg;subst hg;obtain⟨f0,f1,f2,f3,f4,f5⟩:=hf it (by simp);have e0:(i:Int)-1-(i:Int) = -1:=by omega
  rw[e0] at st;exact wpAny_pyNext_rev_end (I.ok.hd hc) st λh' eb=>⟨rfl,I.turned (t':=s.toks) (λb o hb e=>eb b o hb e) f0 f1 f3 f4 f5⟩
 self:=λ_ _ _ _ _ st h=>yU st h
def Se(K:W.Frag)(ta:TA):TI:=fun σ H R=>ta σ H λvs H1=>∃a xs,vs=[.ref a]/\lJ K H1 a xs/\R (Sd K a xs.length) H1
theorem LM:dz "reversed" = aa (.type "reversed"):=by decide +kernel
theorem Za0{X:Cx}{tg a:bt}{ta:TA}{p pos:Pos}(hg:Gl X "reversed")(hm:X.mg "reversed" = ae)(ha:PA X [a] ta)(hs:av [a] X.env=[(false,eval a X.env)]:=by rfl):PI X tg (.Call (.Name "reversed" p) [a] [] pos) (Se X.K ta):=by
 intro ag s σ H R I h;refine Call_ (z1 I hg hm LM (gY (dM (ha pos ag s σ H _ I h) λus s1 cS=>?_) hs rfl));obtain⟨vs,H1,I1,r1,q1⟩:=cS;obtain⟨b,xs,e,hq,q⟩:=q1;subst e;cases r1 with
 | cons r rr=>
   cases rr;cases r;obtain⟨cC,rv,pl,hz⟩:=I1.list hq;have cK:=rv.length;refine call_reversed_list pl.isList ?_;refine yU (it:=s1.heap.objs.size) (l:=b) (i:=(cC.toArray.size:Int)-1) ⟨_,aZ _ rfl,rfl,rfl⟩ ?_;refine⟨s1.heap.objs.size,[s1.heap.objs.size],_,_,H1,rfl,I1.kept (t':=s1.toks) λb o e=>aw _ e,z3h b _ xs.length,?_,λc hb=>?_,q⟩
   .refine⟨_,aZ _ rfl,rfl,?_⟩
    show sY #[.ref b,rawInt ((cC.toArray.size:Int)-1)]=sY #[.ref b,rawInt ((xs.length:Int)-1-((0:Nat):Int))];rw[show((cC.toArray.size:Int)-1)=(xs.length:Int)-1-((0:Nat):Int) by rw[aL];omega]
   .have e:c=s1.heap.objs.size:=by simpa using hb
    subst e;exact I1.uY (az _) (I1.cD.fresh (az _))
end L2
namespace MF
open PySem L2
theorem Cc{i:Nat}:∀u:V,([]:St)[i]?≠aa (aa u):=λu h=>nomatch (show(ae:Option (Option V))=aa (aa u) from h)
theorem z0j:cf [V.bH] [jJ]:=.cons rfl .nil
theorem z0k(W:Wd):aW W [T.bH] [V.bH]:=aW.eB (o5.mpr rfl) aW.gb
structure Cl where
 hall:ai
 place:ai
 piece:ai
 run:ai
 hallError:ai
 nameThere:ai
 noPlace:ai
 noPiece:ai
 tooMany:ai
 noAnswer:ai
 ring:ai
 barred:ai
 deedFault:ai
section
variable {X:Cx}{E:XK}{a b c e o:bt}{es:List bt}{fa fb fc fo:DE}{fr:DA}{pos p:Pos}{x:Str}
theorem Sf{i:Int}(hg:Gl X x)(hm:∃t,X.mg x=aa (.int i t))(hd:(x==("__debug__" : Str))=false:=by decide):PE X (.Name x p) (RE E (eC (.int i))):=by
 obtain⟨t,hm⟩:=hm;exact Zax hg hm hd
noncomputable def xD(f:DA):DI:=fun ρ=>(f ρ).bind λas=>λS=>match as with
 | [t]=>(match cW S t with
   |some ts=>.ok (ts.reverse,λS'=>cW S' t=aa ts) S
   |none=>.bad)
 |_=>.bad
theorem Za1(K:aM):RI E (xD fr) (Se K (RA E fr)):=fun σ H R h=>by
 obtain⟨W,S,ρ,rp,env,p⟩:=h;refine⟨W,S,ρ,rp,env,(bq.bind p).imp λas W1 S1 H1 l1 r1 p1 vs dv=>?_⟩
 split at p1
 .rename_i t
  cases e:cW S1 t with
  |none=>simp only[e] at p1;exact p1.elim
  | some ts=>
    simp only[e] at p1;obtain⟨v,rfl,d1⟩:=xy dv;obtain⟨a,us,rfl,h1,h2⟩:=r1.list d1 e;have hn:=h2.length;refine⟨a,us,rfl,.inl h1,p1 W1 H1 (Wd.le.refl _) r1 _ W1 H1 (Wd.le.refl _) r1 ⟨λi W' S' H' l r' st hi=>?_,λi W' S' H' l r' st hi=>?_⟩⟩
    .obtain⟨a',zs,ea,g1,g2⟩:=r'.list (cz.mono l _ _ d1) st
     cases ea;have hz:=g2.length;have hi:i<ts.reverse.length:=hi;rw[uo] at hi;have hj:us.length-1-i<zs.length:=by omega
     refine⟨⟨zs,zs[us.length-1-i],.inl g1,by omega,by omega,bf hj⟩,λx tK y=>?_⟩;obtain⟨rfl,y⟩:=y;have ex:=y zs (.inl g1);obtain⟨t',e1,d2⟩:=g2.get' ex;refine⟨W',t',Wd.le.refl _,r',?_,d2⟩;show ts.reverse[i]?=aa t';rw[List.getElem?_reverse (by omega),<- e1];congr 1;omega
    .have hi:i=ts.reverse.length:=hi
     rw[uo] at hi;exact hi.trans hn
 .exact p1.elim
noncomputable def rY(x:T)(ts:List T):Option Nat:=match toV x,ts.mapM toV with
 |some u,aa vs=>if(nN u&&vs.all nN)=true then vs.findIdx? (λy=>qA y u) else ae
 |_,_=>ae
noncomputable def Zd0(t:T)(as:List T):M T:=λS=>match cW S t,as with
 | some ts,[y]=>(match rY y ts with
   |some j=>if ts.length<=1000 then .ok (.int j) S else .bad
   |none=>.bad)
 |_,_=>.bad
noncomputable def AO(t:T)(as:List T):M T:=λS=>match gr S t,as with
 | some (k,ts),[y]=>(match rY y ts with
   |some j=>if ts.length<=1000 then .ok .bH (S.set k (.lst (ts.eraseIdx j))) else .bad
   |none=>.bad)
 |_,_=>.bad
theorem z7l{W:Wd}{x:T}{ts:List T}{v:V}{vs:List V}{j:Nat}(d:cz W x v)(ds:aW W ts vs)(e:rY x ts=aa j) :
  nN v=true/\vs.all nN=true/\(∃z,vs[j]?=aa z/\qA z v=true)/\(∀i z,i<j->vs[i]?=aa z->qA z v=false):=by
 unfold rY at e;cases e1:toV x with
 |none=>simp[e1] at e
 | some u=>
   cases e2:ts.mapM toV with
   |none=>simp[e1,e2] at e
   | some us=>
     simp only[e1,e2] at e
     split at e
     .rename_i hf
      rw[cv] at hf;have q1:=Ef d e1;have q2:=Ld ds e2;subst q1 q2;rw[List.findIdx?_eq_some_iff_getElem] at e;obtain⟨hj,h1,h2⟩:=e;refine⟨hf.1,hf.2,⟨vs[j],bf hj,h1⟩,λi z hi hz=>?_⟩;have hil:i<vs.length:=F6 hi hj;rw[bf hil] at hz;cases hz;have:=h2 i hi;simpa using this
     .cases e
def Sg:V->List V->Hp->VK->Prop:=λx vs H Q=>∃l xs y j,x=.ref l/\vs=[y]/\H l=aa (.lst xs)/\nN y=true/\xs.all nN=true/\xs.length<=1000/\(∃z,xs[j]?=aa z/\qA z y=true)/\(∀i z,i<j->xs[i]?=aa z->qA z y=false)/\Q .bH (upd H l (.lst (xs.eraseIdx j)))
theorem z0m{y x:V}{u v:af}(ry:RelV y u)(rx:RelV x v)(fy:nN y=true)(fx:nN x=true):C_ u v (qA y x):=λprog w A E s Q h=>Qu (A:=A) (s:=s) ry rx fy fx prog w E Q h
theorem z0n:Ai X "list.remove" Sg:=by
 intro ag s σ H x vs v us Q I rx rv h;obtain⟨l,xs,y,j,rfl,rfl,hH,fy,fx,Ew,⟨z,hj,hz⟩,hno,q⟩:=h;cases rx;obtain⟨u,rfl,ru⟩:=rv.one;obtain⟨zz,cC,n,r,hl,e⟩:=I.va hH;have LN:j<cC.length:=by rw[<- hl];exact(aB.mp hj).1
 have ea:∀i (hi:i<cC.length),∃x',xs[i]?=aa x'/\RelV x' cC[i]:=λi hi=>cf.at r (by rw[bf hi]);refine n_ F.slot_list_remove ⟨_,e,rfl⟩ F.entry_list_remove (F.args_list_remove_2 _ _) (MeetsSeq.list_remove l cC.toArray n u (wC y) ?_ j (by simpa using LN) ?_ ?_ (by rw[aL];omega)) ⟨e,?_⟩
 .intro w' hw
  have hw':w'∈cC:=by simpa using hw
  obtain⟨i,hi,rfl⟩:=lF hw';obtain⟨x',h1,h2⟩:=ea i hi;rw[DM h2 (GP fx h1)];exact z0m h2 ru (GP fx h1) fy
 .obtain⟨x',h1,h2⟩:=ea j LN
  rw[hj] at h1;cases h1;have:cC.toArray[j]'(by simpa using LN)=cC[j]:=by simp
  rw[this,DM h2 (GP fx hj)];exact hz
 .intro m hm hmj
  have rM:m<cC.length:=by simpa using hm
  obtain⟨x',h1,h2⟩:=ea m rM;have:cC.toArray[m]'hm=cC[m]:=by simp
  rw[this,DM h2 (GP fx h1)];exact hno m x' hmj h1
 .refine⟨.bH,_,I.u_ (t':=s.toks) (its':=cC.eraseIdx j) hH e ?_ (r.eraseIdx j) ?_,rfl,q⟩
  .show cC.toArray.eraseIdxIfInBounds j=(cC.eraseIdx j).toArray
   rw[nh]
  .have:=Ki xs j
   omega
theorem z0o:GM E Sg AO:=by
 intro t as W S H v vs Q r d da p;unfold AO at p
 split at p
 .rename_i k ts y e
  cases e2:rY y ts with
  |none=>simp only[e2] at p;exact p.elim
  | some j=>
    simp only[e2] at p
    split at p
    .rename_i hl
     obtain⟨us,rfl,h0,h1,h2⟩:=r.gr d e;obtain⟨w,rfl,dw⟩:=xy da;obtain⟨g1,g2,g3,g4⟩:=z7l dw h2 e2;exact⟨_,us,w,j,rfl,rfl,h1,g1,g2,by rw[<- h2.length];exact hl,g3,g4,p W _ (Wd.le.refl _) (r.cellSet h0 _ _ ⟨_,fX,h2.eraseIdx _⟩) _ (o5.mpr rfl)⟩
    .exact p.elim
 .exact p.elim
theorem Sh{cP:Pos}(ho:PE X o (RE E fo))(ha:PA X [e] (RA E fr))(fG:b_ o "remove" X.env (eval o X.env)=eval o X.env:=by rfl)
  (fH:(cP.endLine==pos.line)=true:=by rfl) (hs:av [e] X.env=(false,eval e X.env)::av [] X.env:=by rfl)
  (mv:((bK pos (av [e] X.env)).all (λx=>!x.1)&&(eT pos (cT [] X.env)).all (λx=>x.1.isSome)&&decide ([e].length+([]:List gS).length+(if([]:List gS).isEmpty then 0 else 1)<30))=true:=by rfl):PE X (.Call (.Attribute o "remove" cP) [e] [] pos) (RE E (kD kS AO fo fr)):=
 vC eO PySem.F.slot_list_remove PySem.F.type_list_remove z0n El z0o ho ha fG mv fH hs rfl
end
variable {S:bI}{ρ:Ev}
@[simp]theorem fJ{α β:Type}(m:M α)(f:α->M β):M.bind m f S=(match m S with|.ok a S'=>f a S' | .exc C fs S'=>.exc C fs S' | .bad=>.bad):=rfl
@[simp]theorem LO{α:Type}(a:α):M.pure a S=.ok a S:=rfl
@[simp]theorem Zet{α:Type}:(M.bad:M α) S=.bad:=rfl
@[simp] theorem xE (i:Nat):ah i ρ S=(match ρ[i]? with|some (aa t)=>.ok t S | _=>.bad):=by
  unfold ah
  split<;>simp_all
@[simp]theorem Hm(t:T):eC t ρ S=.ok t S:=rfl
@[simp]theorem vE(g:T->T->M T)(a b:DE):e2 g a b ρ S=(a ρ).bind (λx=>(b ρ).bind λy=>g x y) S:=rfl
@[simp]theorem AQ(g:T->M T)(a:DE):e1 g a ρ S=(a ρ).bind g S:=rfl
@[simp]theorem Zd1:aK ρ S=.ok [] S:=rfl
@[simp]theorem z7m(a:DE)(r:DA):aV a r ρ S=(a ρ).bind (λt=>(r ρ).bind λts=>M.pure (t::ts)) S:=rfl
@[simp]theorem x_eA(g:List T->M T)(f:DA):eA g f ρ S=(f ρ).bind g S:=rfl
@[simp]theorem x_gI(f:Int->Int->Option T)(i j:Int):gI f (.int i) (.int j) S=(match f i j with|some t=>.ok t S | none=>.bad):=rfl
@[simp]theorem Zd2(i j:Int):vv i j=aa (.int (i-j)):=rfl
@[simp]theorem Zeu(i j:Int):K9 i j=aa (.bl (decide (i<j))):=rfl
@[simp]theorem Zev(i j:Int):GZ i j=aa (.bl (decide (j<i))):=rfl
@[simp]theorem Zew(i j:Int):G_ i j=aa (.bl (decide (j<=i))):=rfl
@[simp]theorem Zd3(i j:Int):pA i j=(if(-(2 ^ 64)<i/\i<2 ^ 64)\/(-(2 ^ 64)<j/\j<2 ^ 64) then aa (.int (i*j)) else ae):=rfl
@[simp]theorem Zd4(i j:Int):lO i j=(if 0<j/\j<1073741824 then aa (.int (i / j)) else ae):=rfl
@[simp]theorem Zd5(i j:Int):h_ i j=(if 0<j then aa (.int (i%j)) else ae):=rfl
@[simp]theorem Zd6(i j:Int):vw i j=(if 0<=j/\j<=1000/\i.natAbs<2 ^ 64 then aa (.int (i ^ j.toNat)) else ae):=rfl
@[simp]theorem Zd7(i j:Int):ic (.int i) (.int j) S=.ok (.int (i+j)) S:=rfl
@[simp]theorem Zd8(i j:Str):ic (.str i) (.str j) S=(if i.length+j.length<=1000 then .ok (.str (i++j)) S else .bad):=rfl
@[simp]theorem Za2(xs ys:List T):ic (.lst xs) (.lst ys) S=(if xs.length+ys.length<=1000 then .ok (.lst (xs++ys)) S else .bad):=rfl
@[simp] theorem Zex (i j:Int):gG (.int i) (.int j) S=.ok (.bl (decide (i=j))) S:=by
  simp[gG,tQ,toV,pk]
@[simp] theorem Zey (i j:Str):gG (.str i) (.str j) S=.ok (.bl (decide (i=j))) S:=by
  simp[gG,tQ,toV,pk]
@[simp] theorem Zez (i j:Bool):gG (.bl i) (.bl j) S=.ok (.bl (decide (i=j))) S:=by
  simp[gG,tQ,toV,pk]
@[simp] theorem Ze0 (i j:Int):mI (.int i) (.int j) S=.ok (.bl (!decide (i=j))) S:=by
  simp[mI,tQ,toV,pk]
@[simp] theorem Ze1 (i j:Str):mI (.str i) (.str j) S=.ok (.bl (!decide (i=j))) S:=by
  simp[mI,tQ,toV,pk]
@[simp]theorem Si(b:Bool):Le (.bl b) S=.ok b S:=rfl
@[simp]theorem Zd9(b:Bool):nR (.bl b) S=.ok b S:=rfl
@[simp]theorem Zea(ts:List T):nR (.lst ts) S=.ok (!ts.isEmpty) S:=rfl
@[simp]theorem Sj(f:DE):eK f ρ S=(f ρ).bind Le S:=rfl
@[simp]theorem Ze2(f:DE):qX f ρ S=(f ρ).bind nR S:=rfl
@[simp]theorem Ze3(f g:DT):xu f g ρ S=(f ρ).bind (λc=>if c=true then g ρ else M.pure false) S:=rfl
@[simp]theorem x_or(f g:DT):vz f g ρ S=(f ρ).bind (λc=>if c=true then M.pure true else g ρ) S:=rfl
@[simp]theorem Ze4(f:DT):zi f ρ S=(f ρ).bind (λc=>M.pure (!c)) S:=rfl
@[simp]theorem Zeb(f:DE):AF f ρ S=(f ρ).bind (λx=>(nR x).bind λb=>M.pure (.bl (!b))) S:=rfl
@[simp]theorem Ze5(c:DT)(f g:DE):Li c f g ρ S=(c ρ).bind (λb=>if b=true then f ρ else g ρ) S:=rfl
@[simp]theorem Zec(ts:List T):ir ts S=(if ts.length<=1000 then .ok (.lst ts) S else .bad):=rfl
@[simp]theorem Zed(ts:List T):iR ts S=(if ts.length<=1000 then .ok (.obj S.length) (S++[.lst ts]) else .bad):=rfl
@[simp]theorem Zee(ts:List T):gm ts S=(if ts.length<=1000 then .ok (.tup ts) S else .bad):=rfl
@[simp]theorem z7n:B6 ρ S=.ok (.obj S.length) (S++[.dic []]):=rfl
@[simp]theorem x_nx:gU ρ S=.ok (.nx ρ) S:=rfl
@[simp]theorem Sk(f g:DS):aX f g ρ S=(f ρ).bind (λx=>match x with|.nx ρ'=>g ρ' | o=>M.pure o) S:=rfl
@[simp]theorem Zdf(f:DE):cq f ρ S=(f ρ).bind (λt=>M.pure (.rt t)) S:=rfl
@[simp]theorem Zef(f:DE):jr f ρ S=(f ρ).bind (λ_=>M.pure (.nx ρ)) S:=rfl
@[simp]theorem Zdg(i:Nat)(f:DE):cE i f ρ S=(f ρ).bind (λt=>M.pure (.nx (ρ.set i (aa t)))) S:=rfl
@[simp]theorem AR(c:DT)(f g:DS):gs c f g ρ S=(c ρ).bind (λb=>if b=true then f ρ else g ρ) S:=rfl
@[simp] theorem Za5 (n:Nat) (d:DS) (ts:List T):cF n d ts S=(match d (ts.map aa++aS (n-ts.length) ae) S with
  |.ok (.rt t) S'=>.ok t S' | .ok (.nx _) S'=>.ok .bH S' | .ok _ _=>.bad | .exc C fs S'=>.exc C fs S' | .bad=>.bad):=by
  unfold cF;rw[fJ]
  split<;>simp_all
  rename_i x _ _;cases x<;>rfl
@[simp]theorem Za6(F:Fn)(ds:List T)(fr:DA):fw F ds fr ρ S=(fr ρ).bind (λts=>F (ts++ds)) S:=rfl
@[simp]theorem Zdh(n:Nat)(F:Fn)(ts:List T):bx n F ts S=(if ts.length=n then F ts S else .bad):=rfl
@[simp]theorem Zeg(ts:List T):kP S (.lst ts)=aa ts:=rfl
@[simp]theorem Zeh(ts:List T):kP S (.tup ts)=aa ts:=rfl
@[simp]theorem LP(ts:List T):cW S (.lst ts)=aa ts:=rfl
@[simp]theorem Zei(ts:List T):mZ (.lst ts) S=.ok (.int ts.length) S:=rfl
@[simp]theorem Zdi(ts:List T)(i:Int):dN (.lst ts) (.int i) S=(match kA ts i with|some t=>.ok t S | none=>.bad):=rfl
@[simp]theorem Ze6(ts:List T)(i:Int):dN (.tup ts) (.int i) S=(match kA ts i with|some t=>.ok t S | none=>.bad):=rfl
@[simp]theorem Ze7(z:Str)(i:Int):dN (.str z) (.int i) S=(if z.length<=1000 then(match kA z.cps.toList i with|some c=>.ok (.str ⟨#[c]⟩) S | none=>.bad) else .bad):=rfl
@[simp] theorem Ze8 {α:Type} (a:α) (r:List α):kA (a::r) 0=aa a:=by
  have:(0:Int)=((0:Nat):Int):=rfl;rw[this];exact Ah rfl
@[simp] theorem Ze9 {α:Type} (a b:α) (r:List α):kA (a::b::r) 1=aa b:=by
  have:(1:Int)=((1:Nat):Int):=rfl;rw[this];exact Ah rfl
@[simp] theorem Zfa {α:Type} (a b d:α) (r:List α):kA (a::b::d::r) 2=aa d:=by
  have:(2:Int)=((2:Nat):Int):=rfl;rw[this];exact Ah rfl
@[simp] theorem Zfb {α:Type} (a b d e:α) (r:List α):kA (a::b::d::e::r) 3=aa e:=by
  have:(3:Int)=((3:Nat):Int):=rfl;rw[this];exact Ah rfl
@[simp] theorem Zfc {α:Type} (a b d e f:α) (r:List α):kA (a::b::d::e::f::r) 4=aa f:=by
  have:(4:Int)=((4:Nat):Int):=rfl;rw[this];exact Ah rfl
theorem Sl{α:Type}{ts:List α}{i:Int}(h0:0<=i)(h1:i<ts.length):kA ts i=ts[i.toNat]?:=by
 obtain⟨j,rfl⟩:=Int.eq_ofNat_of_zero_le h0;have hl:j<ts.length:=by omega
 have:=Ah (j:=j) (v:=ts[j]) (bf hl);rw[this,wR,bf hl]
variable {S:bI}{ρ:Ev}
@[simp]theorem LQ{α:Type}{p:Prop}[Decidable p](m n:M α):(if p then m else n) S=if p then m S else n S:=by split<;>rfl
@[simp]theorem AS(f:DE):iL f ρ S=(f ρ).bind (λt=>λS=>match cW S t with|some ts=>.ok (ts,λS'=>cW S' t=aa ts) S | none=>.bad) S:=rfl
@[simp]theorem Zfd(f:DA):AJ f ρ S=(f ρ).bind (λts=>λS=>match ts with|[.int j]=>if -1000000<=j/\j<=1000000 then .ok (rS 0 j.toNat,λ(_:bI)=>True) S else .bad | _=>.bad) S:=rfl
@[simp]theorem Zej(f:DA):xD f ρ S=(f ρ).bind (λas=>λS=>match as with|[t]=>(match cW S t with|some ts=>.ok (ts.reverse,λS'=>cW S' t=aa ts) S | none=>.bad) | _=>.bad) S:=rfl
theorem Sn{st:bI->Prop}{g:DG}{body:DS}(Inv:List T->Ev->bI->Prop):∀(ts pre:List T) (ρ:Ev) (S:bI),Inv pre ρ S ->
  (∀AU t post ρ S,pre++ts=AU++t::post->Inv AU ρ S->st S/\∃ρ1,g t ρ=aa ρ1/\∃ρ2 S2,body ρ1 S=.ok (.nx ρ2) S2/\Inv (AU++[t]) ρ2 S2)->(∀ρ S,Inv (pre++ts) ρ S->st S) ->
  ∃ρ' S',fU st g body ts ρ S=.ok (.nx ρ') S'/\Inv (pre++ts) ρ' S'
 | [],pre,ρ,S,h,_,he=>by
   rw[dj] at he ⊢;refine⟨ρ,S,?_,h⟩;unfold fU;rw[if_pos (he ρ S h)]
 | t::ts,pre,ρ,S,h,hs,he=>by
   obtain⟨fm,ρ1,e1,ρ2,S2,e2,h2⟩:=hs pre t ts ρ S rfl h;have e:pre++t::ts=(pre++[t])++ts:=by simp
   obtain⟨ρ',S',e3,h3⟩:=Sn Inv ts (pre++[t]) ρ2 S2 h2 (by rw[<- e];exact hs) (by rw[<- e];exact he);refine⟨ρ',S',?_,by rw[e];exact h3⟩;unfold fU;rw[if_pos fm,e1];simp only[fJ,e2];exact e3
theorem AV{it:DI}{g:DG}{body:DS}{ts:List T}{st:bI->Prop}{S1:bI}(Inv:List T->Ev->bI->Prop)(rZ:it ρ S=.ok (ts,st) S1)(h0:Inv [] ρ S1)
  (hs:∀pre t post ρ S,ts=pre++t::post->Inv pre ρ S->st S/\∃ρ1,g t ρ=aa ρ1/\∃ρ2 S2,body ρ1 S=.ok (.nx ρ2) S2/\Inv (pre++[t]) ρ2 S2) (he:∀ρ S,Inv ts ρ S->st S) :
  ∃ρ' S',eX it g body ρ S=.ok (.nx ρ') S'/\Inv ts ρ' S':=by
 obtain⟨ρ',S',e,h⟩:=Sn (st:=st) (g:=g) (body:=body) Inv ts [] ρ S1 h0 hs he;refine⟨ρ',S',?_,h⟩;unfold eX;simp only[fJ,rZ];exact e
theorem So{st:bI->Prop}{tc:DT}{te:DE}{caps:Ev}{p:T->Bool}{f:T->T}(fm:st S):∀(ts:List T) (o:Option T) (acc:List T),acc.length+ts.length<=1000->(∀t∈ts,tc (aa t::caps) S=.ok (p t) S)->(∀t∈ts,p t=true->te (aa t::caps) S=.ok (f t) S) ->
  mJ st (eE 0) tc te ts (o::caps) acc S=.ok (acc++(ts.filter p).map f) S
 | [],o,acc,_,_,_=>by
   unfold mJ;rw[if_pos fm];simp
 | t :: ts,o,acc,hl,hc,he=>by
   have ih:=λacc h=>So (tc:=tc) (te:=te) fm ts (aa t) acc h (λu hu=>hc u (au _ hu)) (λu hu=>he u (au _ hu));have h1:=hc t (aA ..);rw[aY] at hl;unfold mJ;rw[if_pos fm];show(M.bind (tc (aa t::caps)) _) S=_;rw[fJ,h1];cases e:p t with
   | false=>
     have:=ih acc (by omega);simpa[e] using this
   | true=>
     have h2:=he t (aA ..) e;have:=ih (acc++[f t]) (by rw[aO,ba];omega);have qh:acc.length<1000:=by omega
     simp only[if_true,fJ,h2,LQ,qh];simpa[e,h2] using this
theorem xF{js:List Nat}{it:DI}{tc:DT}{te:DE}{ts:List T}{st:bI->Prop}{p:T->Bool}{f:T->T}(rZ:it ρ S=.ok (ts,st) S)(fm:st S)(hl:ts.length<=1000)
  (hc:∀t∈ts,tc (aa t::js.map λj=>(ρ[j]?).join) S=.ok (p t) S) (he:∀t∈ts,p t=true->te (aa t::js.map λj=>(ρ[j]?).join) S=.ok (f t) S) :
  jN 1 js it (eE 0) tc te fO ρ S=.ok (.lst ((ts.filter p).map f)) S:=by
 unfold jN;rw[fJ,rZ];show(M.bind (qZ _) fO) S=_;rw[fJ];have:=So (tc:=tc) (te:=te) (caps:=js.map λj=>(ρ[j]?).join) fm ts ae [] (by simpa using hl) hc he;have e2:qZ (mJ st (eE 0) tc te ts (aS 1 ae++js.map λj=>(ρ[j]?).join) []) S=.ok ((ts.filter p).map f) S:=by
  unfold qZ;rw[show(aS 1 (ae:Option T)++js.map λj=>(ρ[j]?).join)=ae::js.map λj=>(ρ[j]?).join from rfl,this];rfl
 simp only[e2];rfl
theorem Hn{js:List Nat}{it:DI}{te:DE}{ts:List T}{st:bI->Prop}{f:T->T}(rZ:it ρ S=.ok (ts,st) S)(fm:st S)(hl:ts.length<=1000)
  (he:∀t∈ts,te (aa t::js.map λj=>(ρ[j]?).join) S=.ok (f t) S) :
  jN 1 js it (eE 0) mz te fO ρ S=.ok (.lst (ts.map f)) S:=by
 have:=xF (tc:=mz) (p:=λ_=>true) rZ fm hl (λ_ _=>rfl) (λt h _=>he t h);rwa[lG.mpr (λ_ _=>rfl)] at this
theorem LR{g:T->Option T}:∀{ts:List T},(∀t∈ts,g t=aa t)->ie g ts=aa ts
 |[],_=>rfl
 | t::ts,h=>by
   unfold ie;rw[h t (aA ..),LR λu hu=>h u (au _ hu)]
theorem Cd{S:bI}{n f:Nat}{t:T}(h:HB n t):fz S n f t=aa t:=by
 cases f<;>(unfold fz;rw[if_pos h])
theorem LS{F:Fn}{ts us:List T}{S':bI}{k:Nat}(h:F ts S=.ok (.obj k) S')(hS:S'.take S.length=S)(hk:S.length<=k)(hc:S'[k]?=aa (.lst us))(hb:∀t∈us,HB S.length t):j4 F ts S=.ok (.lst us) S:=by
 unfold j4;rw[h];simp only[if_pos hS];have e:fz S' S.length 6 (.obj k)=aa (.lst us):=by
  unfold fz;rw[if_neg (by simp only[HB];omega)];simp only[hc];rw[LR λt ht=>Cd (hb t ht)];rfl
 rw[e]
theorem Ex{F:Fn}{ts:List T}{S':bI}{t:T}(h:F ts S=.ok t S')(hS:S'.take S.length=S)(hb:HB S.length t):j4 F ts S=.ok t S:=by
 unfold j4;rw[h];simp only[if_pos hS];rw[Cd hb]
@[simp]theorem x_mt(ok:bI->T->Bool)(g:T->List T->M T)(fo:DE)(fr:DA):kD ok g fo fr ρ S=(fo ρ).bind (λt=>λS=>if ok S t=true then((fr ρ).bind λts=>g t ts) S else .bad) S:=rfl
theorem vF{k:Nat}{ts:List T}{y:T}(h:S[k]?=aa (.lst ts))(hl:ts.length<1000):jG (.obj k) [y] S=.ok .bH (S.set k (.lst (ts++[y]))):=by
 simp[jG,gr,h,hl]
theorem Ho{k:Nat}{ts us:List T}{y:T}(h:S[k]?=aa (.lst ts))(hy:cW S y=aa us)(hl:ts.length+us.length<=1000):mx (.obj k) [y] S=.ok .bH (S.set k (.lst (ts++us))):=by
 simp[mx,gr,h,hy,hl]
theorem nS{k:Nat}{ts:List T}(h:S[k]?=aa (.lst ts)):kS S (.obj k)=true:=by simp[kS,cW,h]
theorem nC{k:Nat}{ts:List T}(h:S[k]?=aa (.lst ts)):cW S (.obj k)=aa ts:=by simp[cW,h]
@[simp]theorem Za7(n:Nat)(x:Str):HB n (.str x):=by simp[HB]
@[simp]theorem Zek(n:Nat)(x:Int):HB n (.int x):=by simp[HB]
@[simp]theorem Zdj(n:Nat)(x:Bool):HB n (.bl x):=by simp[HB]
@[simp]theorem Zel(n:Nat):HB n .bH:=by simp[HB]
theorem LU{n:Nat}:∀{ts:List T},(∀t∈ts,HB n t)->sQ n ts
 |[],_=>by simp only[sQ]
 |t::ts,h=>by simp only[sQ];exact⟨h t (aA ..),LU λu hu=>h u (au _ hu)⟩
theorem Hq{n:Nat}{ts:List T}(h:∀t∈ts,HB n t):HB n (.lst ts):=by simp only[HB];exact LU h
theorem vG{n:Nat}{ts:List T}(h:∀t∈ts,HB n t):HB n (.tup ts):=by simp only[HB];exact LU h
noncomputable def aD(l:List Str):T:=.lst (l.map .str)
theorem Sq{n:Nat}(l:List Str):HB n (aD l):=Hq λt ht=>by
 obtain⟨x,_,rfl⟩:=aq.mp ht;exact Za7 n x
theorem LV:∀(l:List Str),(l.map T.str).mapM toV=aa (l.map V.str)
 |[]=>rfl
 | a::r=>by
   rw[aC,zR,LV r];rfl
theorem LW:∀{l:List Str},(l.map V.str).all nN=true
 |[]=>rfl
 | a::r=>by
   rw[aC,qv,LW];rfl
theorem Sr{x:Str}:∀{l:List Str},DP (.str x) (l.map V.str)=l.contains x
 |[]=>rfl
 | a::r=>by
   rw[dC,<- Sr (l:=r)];show((a==x) || _)=_;rw[BEq.comm];rfl
theorem z3j(x:Str)(l:List Str):Eg (.str x) (l.map T.str)=aa (l.contains x):=by
 unfold Eg;rw[LV];simp only[toV];rw[if_pos (by rw[LW];rfl),Sr]
theorem Ss{x:Str}{y:T}{l:List Str}(h:kP S y=aa (l.map T.str)):uw (.str x) y S=.ok (.bl (l.contains x)) S:=by
 simp[uw,Eh,h,z3j]
@[simp]theorem Zfe(x:Str)(l:List Str):uw (.str x) (aD l) S=.ok (.bl (l.contains x)) S:=Ss rfl
theorem Su{α:Type}:∀{K:List (ai×α)} {a:ai} {o:α},K.lookup a=aa o->(a,o)∈K
 |[],_,_,e=>by cases e
 | (b,x)::K,a,o,e=>by
   rw[aI] at e;cases h:a==b with
   | true=>
     rw[h] at e;cases e;rw[eq_of_beq h];exact aA ..
   | false=>
     rw[h] at e;exact au _ (Su e)
noncomputable def LX(K:aM):Bool:=K.all λp=>!(p.2.cls==l9 "list")
theorem z0u{K:aM}{a:ai}{o:Obj}(h:LX K=true)(e:K.lookup a=aa o):o.cls≠.type "list":=λz=>by
 have hm:(a,o)∈K:=Su e;have:=nF.mp h (a,o) hm;rw[show(a,o).2.cls=l9 "list" from z] at this;simp at this
def Hr(K:aM):Sp:=λvs H Q _=>∃(a:ai) (ns:List Int),vs=[.ref a]/\lJ K H a (ns.map V.int)/\ns.length<=63/\∀H',Q (.bl true) H'
theorem Sv{W:Wd}:∀(ns:List Int),aW W (ns.map T.int) (ns.map V.int)
 |[]=>aW.gb
 |n::ns=>aW.eB (jC.mpr rfl) (Sv ns)
theorem Za9{P:aR}{w:bu}{K:aM}{mg:Str->Option af}{base:bN}{k:Nat}{f:ai}{fd:bA}{F:Fn}(G:bE P w K mg base (dP P w) k f fd ["script"] (fE 1 F))(nl:LX K=true)
  (h:∀ns:List Int,ns.length<=63->∃S',F [.lst (ns.map .int)] []=.ok (.bl true) S'):bE P w K mg base DW k f fd ["script"] (Hr K):=by
 refine G.calm.imp λvs H Q E q=>?_;obtain⟨a,ns,rfl,sq,hl,q⟩:=q;have rd:Rd H a (.lst (ns.map V.int)):=by
  rcases sq with rd | ⟨o,cC,n,hk,hc,_⟩
  .exact rd
  .exact absurd hc (z0u nl hk)
 refine⟨⟨λb=>if b=a then aa (.lst (ns.map V.int)) else ae,λ_=>0,0,λ_=>ae,λ_=>ae⟩,[],[.lst (ns.map .int)],⟨λb o e=>?_,rfl,(λk c e=>by simp at e),(λj k hj=>absurd hj (zS _)),(λb o e=>nomatch e),λb o e=>nomatch e⟩,aW.eB (rP.mpr ⟨a,_,rfl,if_pos rfl,Sv ns⟩) aW.gb,rfl,?_⟩
 .have e:(if b=a then aa (HO.lst (ns.map V.int)) else ae)=aa o:=e
  by_cases z:b=a
  .rw[if_pos z] at e
   cases e;subst z;refine⟨?_,trivial⟩;rcases rd with r | r
   .exact .inl r
   .exact .inr ⟨r,by intro xs z;cases z⟩
  .rw[if_neg z] at e;cases e
 .obtain⟨S',e⟩:=h ns hl
  rw[e];intro W' H' _ _ v dv;rw[jB.mp dv];exact q H'
theorem Ey{l:PySem.W.OpenLaw}{q:aR}{oZ:List Str}{XP:(Str->Option af)->bN->Prop}{YP:bu->bN->Prop}{d:DefRec}{K:Params->aM}{k:Nat}(hk:eJ k PySem.callerA)(hn:l.most=aa 63)(DU:d.params.defaults=[])
  (hY:∀(w:bu) (h:bN),YP w h->(K w.params).In h)
  (F:∀(w:bu) (mg:Str->Option af) (fa:ai) (h:bN),(K w.params).In h->h.Ns bp mg->mg d.name=aa (.ref fa) ->
   ∃fd:bA,(∀(s:aj) (u:af),rj s fd ⟨[u],[]⟩ [("script",u)])/\∀base:bN,(K w.params).In base->base.Ns bp mg->bE l.prog w (K w.params) mg base DW k fa fd ["script"] (Hr (K w.params))) :
  PySem.W.WalkO q oZ XP YP l.row.toRowW d [] (λf vs=>um f vs):=
 L2.xi (n:=63) (k:=k) (x := "script") (CX:=λ_=>DW) (sp:=λw=>Hr (K w.params)) hn (by decide) DU hk hY F (λ_ _ a ns hl _ hS=>⟨a,ns,rfl,hS,hl,λ_=>rfl⟩) λ_ _ _ _ _ z=>z
end MF
namespace MF
open PySem PySem.Spec L2
section
variable {W:Wd}{S:bI}{H:Hp}
theorem cQ.vH(r:cQ W S H){d:ai}{ks:List (Str×V)}(hd:H d=aa (.xd ks))(h0:W.HS d=ae):∃W1:Wd,W.le W1/\cQ W1 S H/\W1.P d=aa (.xd ks)/\W1.HS=W.HS/\W1.μ=W.μ/\W1.n=W.n:=by
 have nc:∀k,k<W.n->W.μ k≠d:=λk hk z=>by
  obtain⟨c,hc⟩:=r.cellAt hk;have q:=(r.cell k c hc).1;rw[z] at q;cases c with
  |lst ts=>obtain⟨_,h1,_⟩:=q;rw[hd] at h1;cases h1
  |dic ts=>obtain⟨_,h1,_⟩:=q;rw[hd] at h1;cases h1
  |ins _ ts=>obtain⟨_,_,h1,_⟩:=q;rw[hd] at h1;cases h1
  |exc _ ts=>obtain⟨_,h1,_⟩:=q;rw[hd] at h1;cases h1
  |lck ts=>obtain⟨_,_,h1,_⟩:=q;rw[hd] at h1;cases h1
 cases e:W.P d with
 | some o=>
   have:=(r.prv d o e).1;rw[hd] at this;cases this;exact⟨W,Wd.le.refl W,r,e,rfl,rfl,rfl⟩
 | none=>
   refine⟨W.mX d (.xd ks),Wd.sL e,?_,fX,rfl,rfl,rfl⟩;refine r.lN rfl rfl rfl rfl (λek c=>k_.hs (W:=W) (W':=W.mX d (.xd ks)) rfl rfl rfl (λd' Sw z=>?_) c) (λa u _ h=>h) (λa q u _ h=>h) λa u z=>?_
   .show upd W.P d (.xd ks) d'=_
    rw[dh (λq=>by rw[q,e] at z;cases z)];exact z
   .have z:upd W.P d (.xd ks) a=aa u:=z
    by_cases q:a=d
    .subst q;rw[fX] at z;cases z;exact⟨hd,h0,nc⟩
    .rw[dh q] at z;exact r.prv a u z
theorem cQ.AW(r:cQ W S H){ea C:ai}{dx:Option ai}{fs:Option (List (Str×T))}(he:H ea=ae)(x:GY W H dx fs) :
  ∃W1:Wd,W.le W1/\cQ W1 (S++[.exc C fs]) (upd H ea (oH ea C dx))/\W1.μ S.length=ea/\S.length<W1.n:=by
 have key:∃W1:Wd,W.le W1/\cQ W1 S H/\XP W1 dx fs/\W1.n=W.n:=by
  cases dx with
  | none=>
    cases fs with
    |none=>exact⟨W,Wd.le.refl W,r,trivial,rfl⟩
    |some _=>exact x.elim
  | some d=>
    cases fs with
    |none=>exact x.elim
    | some fs=>
      obtain⟨ks,x1,x2,x3⟩:=x;obtain⟨W1,l,r1,p1,_,_,n1⟩:=r.vH x1 x2;exact⟨W1,l,r1,⟨ks,p1,fj.mono l x3⟩,n1⟩
 obtain⟨W1,l,r1,x1,n1⟩:=key;refine⟨W1.add ea,l.trans Wd.i7,r1.lM he (.exc C fs) (oH ea C dx) ⟨dx,fX,x1.mono Wd.i7⟩,?_,?_⟩
 .rw[r.len,<- n1];exact Wd.i8
 .rw[r.len,<- n1];exact dE _
end
noncomputable def qL{α:Type}(js:List Nat)(l:List (Option α)):List (Option α):=js.foldl (λr j=>r.set j ae) l
theorem Sx{α:Type}:∀(js:List Nat) (l:List (Option α)),(qL js l).length=l.length
 |[],_=>rfl
 |j::js,l=>by show(qL js (l.set j ae)).length=_;rw[Sx js,gA]
theorem LY{α:Type}:∀(js:List Nat) (l:List (Option α)) {i:Nat} {v:α},(qL js l)[i]?=aa (aa v)->l[i]?=aa (aa v)
 |[],_,_,_,h=>h
 | j::js,l,i,v,h=>by
   have h:=LY js (l.set j ae) h;by_cases z:i=j
   .subst z
    rw[mU] at h;simp at h
   .rwa[cm (bP z)] at h
theorem Sy{α:Type}:∀(js:List Nat) (l:List (Option α)) {i:Nat},i∈js->∀v:α,(qL js l)[i]?≠aa (aa v)
 | j::js,l,i,hi,v=>by
   intro h;have h2:=LY js (l.set j ae) h;rcases aF.mp hi with z | z
   .subst z
    rw[mU] at h2;simp at h2
   .exact Sy js (l.set j ae) z v h
theorem gf.unset{W:Wd}:∀{ρ:Ev} {σ:St} (i:Nat),gf W ρ σ->gf W (ρ.set i ae) (σ.set i ae)
 |[],σ,i,h=>by rw[show σ=[] from h];exact rfl
 | o::ρ,σ,i,⟨s,r,e0,h1,h2⟩=>by
   subst e0;cases i with
   |zero=>exact⟨_,_,rfl,trivial,h2⟩
   |succ i=>exact⟨_,_,rfl,h1,gf.unset i h2⟩
theorem gf.qL{W:Wd}:∀(js:List Nat) {ρ:Ev} {σ:St},gf W ρ σ->gf W (qL js ρ) (qL js σ)
 |[],_,_,h=>h
 |j::js,_,_,h=>gf.qL js (gf.unset j h)
noncomputable def nT{α:Type}:R α->R α
 |.exc _ _ _=>.bad
 |r=>r
noncomputable def Gz(i:Nat):R Fl->R Fl
 |.ok (.nx ρ) S=>.ok (.nx (ρ.set i ae)) S
 |.ok (.bk ρ) S=>.ok (.bk (ρ.set i ae)) S
 |.ok (.ct ρ) S=>.ok (.ct (ρ.set i ae)) S
 |r=>r
theorem bq.nT{α:Type}{E E':XK}{W:Wd}{Q:α->Wd->bI->Hp->Prop}{r:R α}(h:bq E W Q (nT r)):bq E' W Q r:=by
 cases r with
 |ok a S=>exact h
 |exc C fs S=>exact h.elim
 |bad=>exact h
abbrev DH:=ai->Option (List (Str×T))->DS
noncomputable def tX(fb:DS)(js:List Nat)(fh:DH):DS:=fun ρ S=>match fb ρ S with
 |.ok x S'=>.ok x S'
 |.exc C fs S'=>fh C fs (qL js ρ) S'
 |.bad=>.bad
def RH(E:XK)(fh:DH):vc:=λcls dx _ D σ H=>∃C fs W S ρ,cls=.ref C/\cQ W S H/\GY W H dx fs/\gf W ρ σ/\bq E W (QF D) (fh C fs ρ S)
noncomputable def LZ:DH:=λ_ _ _ _=>.bad
noncomputable def Hs(sub:ai->Option Bool)(ds:DS)(r:DH):DH:=λC fs ρ S=>match sub C with
 |some true=>nT (ds ρ S)
 |some false=>r C fs ρ S
 |none=>.bad
noncomputable def xG(sub:ai->Option Bool)(i:Nat)(ds:DS)(r:DH):DH:=λC fs ρ S=>match sub C with
 |some true=>Gz i (nT (ds (ρ.set i (aa (.obj S.length))) (S++[.exc C fs])))
 |some false=>r C fs ρ S
 |none=>.bad
def AX(K:aM)(D:ai)(sub:ai->Option Bool):Prop:=∀C b,sub C=aa b->∃bm,o4 K C=aa bm/\(aP C::bm).contains (.ref D)=b
section
variable {X:Cx}{E:XK}{x n:Str}{np pos:Pos}{b₀:bR}{kO body:List bR}{iq hs:List gM}{h₀:gM}{D:ai}{xj:List af}{sub:ai->Option Bool}{ds fb:DS}{fr fh:DH}{i:Nat}{js:List Nat}
theorem Sz:PH X [] (RH E LZ):=λag s σ H D ea cls a0 dx B ok vd pq oo hd h=>by
 obtain⟨_,_,_,_,_,_,_,_,_,p⟩:=h;exact p.elim
theorem SA{t t':vc}(h:PH X hs t)(w:∀cls dx ea D σ H,t' cls dx ea D σ H->t cls dx ea D σ H):PH X hs t':=λag s σ H D ea cls a0 dx B ok vd pq oo hd q=>h ag s σ H D ea cls a0 dx B ok vd pq oo hd (w _ _ _ _ _ _ q)
theorem Zdk(hg:Gl X x)(hm:X.mg x=aa (.ref D))(qD:o4 X.K D=aa xj)(sk:AX X.K D sub)(hs:∀ea,k8 (X.gZ ea) (b₀::kO) (RS E0 ds))(hr:PH X iq (RH E fr))(jE:(x==("__debug__" : Str))=false:=by decide) :
  PH X (.ExceptHandler (aa (.Name x np)) ae (b₀::kO) pos::iq) (RH E (Hs sub ds fr)):=SA (YV hg hm qD hs hr jE) λcls dx ea En σ H h=>by
 obtain⟨C,fs,W,S,ρ,rfl,r,xo,env,p⟩:=h;unfold Hs at p;cases e:sub C with
 |none=>rw[e] at p;exact p.elim
 | some b=>
   obtain⟨bm,q1,q2⟩:=sk C b e;rw[e] at p;refine⟨C,bm,rfl,q1,?_⟩;rw[q2];cases b with
   |true=>rw[if_pos rfl];exact⟨W,S,ρ,r,env,bq.nT p⟩
   |false=>rw[if_neg (by decide)];exact⟨C,fs,W,S,ρ,rfl,r,xo,env,p⟩
theorem L0(hN:X.N.Nodup)(hi:X.N[i]?=aa n)(hx:X.env.scope.names.lookup n=aa .local)(hg:Gl X x)(hm:X.mg x=aa (.ref D))(qD:o4 X.K D=aa xj)(sk:AX X.K D sub)(hs:∀ea,k8 (X.gZ ea) (b₀::kO) (RS E0 ds))(hr:PH X iq (RH E fr))
  (hk:∀u:V,X.kn[i]?≠aa (aa u):=by exact λu h=>nomatch (show(ae:Option (Option V))=aa (aa u) from h)) (jE:(x==("__debug__" : Str))=false:=by decide) :
  PH X (.ExceptHandler (aa (.Name x np)) (aa n) (b₀::kO) pos::iq) (RH E (xG sub i ds fr)):=SA (ZL hg hm qD hN hi hx hk hs hr jE) λcls dx ea En σ H h=>by
 obtain⟨C,fs,W,S,ρ,rfl,r,xo,env,p⟩:=h;unfold xG at p;cases e:sub C with
 |none=>rw[e] at p;exact p.elim
 | some b=>
   obtain⟨bm,q1,q2⟩:=sk C b e;rw[e] at p;refine⟨C,bm,rfl,q1,?_⟩;rw[q2];cases b with
   |false=>rw[if_neg (by decide)];exact⟨C,fs,W,S,ρ,rfl,r,xo,env,p⟩
   | true=>
     rw[if_pos rfl];intro he;obtain⟨W1,l1,r1,m1,n1⟩:=r.AW (C:=C) he xo;refine⟨W1,_,_,r1,(env.mono l1).set (nQ.mpr ⟨by rw[m1],n1⟩) i,?_⟩
     revert p
     cases ds (ρ.set i (aa (.obj S.length))) (S++[.exc C fs]) with
     |bad=>exact λp=>p.elim
     |exc _ _ _=>exact λp=>p.elim
     | ok y S2=>
       cases y with
       |nx ρ2=>exact λp W2 H2 l2 r2 σ2 e2=>p W2 H2 (l1.trans l2) r2 _ (e2.unset i)
       |bk ρ2=>exact λp W2 H2 l2 r2 σ2 e2=>p W2 H2 (l1.trans l2) r2 _ (e2.unset i)
       |ct ρ2=>exact λp W2 H2 l2 r2 σ2 e2=>p W2 H2 (l1.trans l2) r2 _ (e2.unset i)
       |rt t=>exact λp W2 H2 l2 r2=>p W2 H2 (l1.trans l2) r2
theorem SD(hb:∀(pn:List (ai×Obj)) (kn:St) (xe:af->aj->Prop) (R:XK),(∀j∈js,∀u:V,kn[j]?≠aa (aa u))->oF (dP X.prog X.w) (X.kN pn kn xe) R->mR (aJ X.prog X.w) X.A X.env xe->k8 (X.kN pn kn xe) body (RS R fb))
  (hh:PH X (h₀::hs) (RH E fh)) (h0:X.kn=[]:=by rfl) (fm:X.stack=X.env::X.outer:=by rfl) (Kz:X.env.frame=aa X.env.locals:=by rfl) :
  PS X (.Try body (h₀::hs) [] [] pos) (RS E (tX fb js fh)):=tO (YW hh fm Kz) λD σ H h=>by
 obtain⟨W,S,ρ,r,env,p⟩:=h;refine⟨qL js σ,λcls dx H'=>∃C fs W' S',cls=.ref C/\W.le W'/\cQ W' S' H'/\GY W' H' dx fs/\bq E W' (QF D) (fh C fs (qL js ρ) S'),RS _ fb,Sx js σ,λi v e=>LY js σ e,λi v e=>by rw[h0] at e;simp at e,
  λpn xe Ap own=>hb pn _ xe _ (λj hj u=>Sy js σ hj u) Ap own,⟨W,S,ρ,r,env,?_⟩,λcls dx ea H' q=>?_⟩
 .unfold tX at p
  revert p
  cases fb ρ S with
  |ok y S2=>exact λp=>p
  |bad=>exact λp=>p.elim
  | exc C fs S2=>
    intro p W2 H2 dx l2 r2 x2;refine⟨C,fs,W2,S2,rfl,l2,r2,x2,?_⟩
    revert p
    show bq E W (QF D) (fh C fs (qL js ρ) S2)->_;cases fh C fs (qL js ρ) S2 with
    |ok y S3=>exact λp W3 H3 l3 r3=>p W3 H3 (l2.trans l3) r3
    |exc _ _ _=>exact λp W3 H3 dx l3 r3=>p W3 H3 dx (l2.trans l3) r3
    |bad=>exact λp=>p
 .obtain⟨C,fs,W',S',rfl,l,r',x',p'⟩:=q
  exact⟨C,fs,W',S',_,rfl,r',x',(env.mono l).qL js,p'⟩
end
end MF
namespace MF
open PySem PySem.Spec PyProof.Rows L2
def Ht(qj:Bool)(x y:V):Prop:=∃a,x=.str a/\(cY a).length<=1000/\(qj=true->∃b,y=.str b/\(cY b).length<=1000)
def xH(C:ai)(f g:Str)(qj:Bool):Sp:=λvs H Q _=>∃e x y,vs=[.ref e,x,y]/\H e=aa (iP e C ae)/\Ht qj x y/\f≠g/\∀d,H d=ae->Q .bH (upd (upd H e (iP e C (aa d))) d (.xd [(f,x),(g,y)]))
section
variable {P:aR}{w:bu}{K:aM}{mg:Str->Option af}{base:bN}
theorem z3m{qual:Str}{st:bR}{dV:af}{C fI:ai}{fd:bA}{p1 p2 f g:Str}{k:Nat}{qj:Bool}{tm:TE}(F:cO K "__init__" qual st dV fI fd)(S:gj ["self",p1,p2] ["self",p1,p2] (d8 st))
  (hx:rN K C) (q:pz K C fI=true) (nf:eQ K (.ref C) f=aa ae) (ng:eQ K (.ref C) g=aa ae)
  (lK:∀(gT:af) (A:bW) (outer:List Env) (s:aj) (H:Hp) (E:XK),eJ k (A.deeper (iH qual (d8 st) s.heap.objs.size fI gT)) ->
   k8 (h8 (dP P w) P w K mg base ["self",p1,p2] qual (d8 st) fI gT A outer s H E) (oj st) (uX (JH (K2 K (BU (mq 0) (BU tm tF)))) (uX (GU K (mq 0) (mq 1) f) (GU K (mq 0) (mq 2) g))))
  (AY:∀(e:ai) (x y:V) (H:Hp) (Q:VK),Ht qj x y->(∀m,Q (.str m) H)->tm [aa (.ref e),aa x,aa y] H Q) :
  bE P w K mg base (dP P w) (k+1) fI fd ["self",p1,p2] (xH C f g qj):=by
 refine F.KD S (λvs H Q E h=>?_) λgT A outer s H vs Q E hr h=>⟨_,lK gT A outer s H E hr,?_⟩
 .obtain⟨e,x,y,rfl,_⟩:=h;rfl
 .obtain⟨e,x,y,rfl,he,ok,fg,h⟩:=h
  refine⟨.ref e,rfl,AY e x y H _ ok λm=>?_⟩;refine⟨e,.str m,C,fI,ae,rfl,he,q,?_⟩;refine⟨x,rfl,.ref e,rfl,e,C,rfl,hx,nf,.inl ⟨he,λd hd=>?_⟩⟩;have de:d≠e:=λz=>by rw[z,he] at hd;cases hd
  refine⟨y,rfl,.ref e,rfl,e,C,rfl,hx,ng,.inr ⟨d,[(f,x)],?_,fX,(show 1<1000 by decide),?_⟩⟩
  .rw[dh (bP de),fX]
  .show Q .bH _
   rw[Wp,show iF g y [(f,x)]=[(f,x),(g,y)] from by unfold iF;rw[if_neg fg];rfl];exact h d hd
end
noncomputable def Hu:T->Bool
 |.str b=>decide ((cY b).length<=1000)
 |_=>false
noncomputable def Ez(qj:Bool)(x y:T):Bool:=Hu x&&(!qj || Hu y)
theorem SE{W:Wd}{x:T}{u:V}(h:Hu x=true)(d:cz W x u):∃a,u=.str a/\(cY a).length<=1000:=by
 cases x with
 |str a=>exact⟨a,nu.mp d,of_decide_eq_true h⟩
 |_=>cases h
noncomputable def L1(C:ai)(f g:Str)(qj:Bool)(fr:DA):DS:=fun ρ=>(fr ρ).bind λts=>λS=>match ts with
 |[x,y]=>if Ez qj x y=true then .exc C (aa [(f,x),(g,y)]) S else .bad
 |_=>.bad
theorem z7p{W:Wd}{qj:Bool}{x y:T}{u v:V}(h:Ez qj x y=true)(dx:cz W x u)(dy:cz W y v):Ht qj u v:=by
 unfold Ez at h;rw[cv] at h;obtain⟨a,e1,e2⟩:=SE h.1 dx;refine⟨a,e1,e2,λt=>SE ?_ dy⟩;have h2:=h.2;rw[t] at h2;simpa using h2
section
variable {X:Cx}{E:XK}{k:Nat}{C fI:ai}{fd:bA}{ps:List Str}{f g y:Str}{qj:Bool}{np fN pos:Pos}{e:bt}{es:List bt}{fr:DA}{fa:DE}
theorem z3n(hx:GV X E)(hc:X.calm=true)(fg:f≠g)(q:pz X.K C fI=true)(hf:gE X.K (.ref fI)=true)(F:bE X.prog X.w X.K X.mg X.base (dP X.prog X.w) k fI fd ps (xH C f g qj))(hr:eJ (k+1) X.A)(hb:mH X.K fd ps [])
  (hg:Gl X y) (hm:X.mg y=aa (.ref C)) (ha:PA X (e::es) (RA E fr))
  (jE:(y==("__debug__" : Str))=false:=by decide) (he:av (e::es) X.env=(false,eval e X.env)::av es X.env:=by rfl) (gF:(bK fN (av es X.env)).any (·.1)=false:=by rfl) :
  PS X (.Raise (aa (.Call (.Name y np) (e::es) [] fN)) ae pos) (RS E (L1 C f g qj fr)):=tO (Rg hx AN hc q hf F hr hb hg hm ha jE he gF) λD σ H h=>by
 obtain⟨W,S,ρ,rp,env,p⟩:=h;refine⟨W,S,ρ,rp,env,(bq.bind p).imp λts W1 S1 H1 l1 r1 p1 vs dv=>?_⟩
 split at p1
 case h_2=>exact p1.elim
 case h_1 tx ty=>
  split at p1
  case isFalse=>exact p1.elim
  case isTrue ok=>
   obtain⟨u,r0,rfl,du,d0⟩:=nv.mp dv;obtain⟨v,r1',rfl,SG,d1⟩:=nv.mp d0;obtain rfl:=oq.mp d1;refine⟨by show 2<=sizeLine;rw[dQ];omega,λea B0=>⟨ea,u,v,rfl,fX,z7p ok du SG,fg,λd hd=>⟨rfl,aa d,?_,?_⟩⟩⟩
   .have ne:ea≠d:=λz=>by rw[z,fX] at hd;cases hd
    rw[dh ne,fX]
   .have ne:d≠ea:=λz=>by rw[z,fX] at hd;cases hd
    have za:H1 d=ae:=by rw[dh ne] at hd;exact hd
    have L3:tM (upd (upd (upd H1 ea (iP ea C ae)) ea (iP ea C (aa d))) d (.xd [(f,u),(g,v)])) ea=upd H1 d (.xd [(f,u),(g,v)]):=by
     funext b;by_cases z:b=ea
     .subst z
      rw[D',dh (bP ne)];exact B0.symm
     .rw[zg z]
      by_cases z2:b=d
      .subst z2;rw[fX,fX]
      .rw[dh z2,dh z,dh z,dh z2]
    rw[L3];exact p1 W1 _ (aa d) (Wd.le.refl _) (r1.extra za _) ⟨_,fX,r1.jq za,⟨u,_,rfl,du,⟨v,_,rfl,SG,rfl⟩⟩⟩
noncomputable def vI(C:ai)(f:Str)(t:T):M T:=λS=>match t with
 | .obj k=>(match S[k]? with
   | some (.exc D (aa fs))=>if D=C then(match fs.lookup f with
     |some t=>.ok t S
     |none=>.bad) else .bad
   |_=>.bad)
 |_=>.bad
theorem SH (hX:tN X.K C) (hn:eQ X.K (.ref C) f=aa ae) (he:PE X e (RE E fa)) (hb:b_ e f X.env (eval e X.env)=eval e X.env:=by rfl):PE X (.Attribute e f pos) (RE E (e1 (vI C f) fa)):=
 iQ (ZM he hb) fun σ H Q h=>qW (r:=λx H1 Q=>∃a C d fs v,x=.ref a/\H1 a=aa (oH a C (aa d))/\tN X.K C/\eQ X.K (.ref C) f=aa ae/\H1 d=aa (.xd fs)/\fs.lookup f=aa v/\Q v H1) (λt W S H v Q r d p=>by
  unfold vI at p
  split at p
  case h_2=>exact p.elim
  case h_1 k=>
   split at p
   case h_2=>exact p.elim
   case h_1 D fs ec=>
    split at p
    case isFalse=>exact p.elim
    case isTrue eD=>
     subst eD
     split at p
     case h_2=>exact p.elim
     case h_1 t el=>
      obtain⟨rfl,hk⟩:=nQ.mp d;obtain⟨⟨dx,h1,h2⟩,_⟩:=r.cell k _ ec;cases dx with
      |none=>exact h2.elim
      | some d0=>
        obtain⟨ks,g1,g2⟩:=h2;obtain⟨v,lv,dv⟩:=(fj.look g2).1 t el;exact⟨_,_,d0,ks,v,rfl,h1,hX,hn,(r.prv d0 _ g1).1,lv,now p r dv⟩) h
end
end MF
namespace MF
open PySem L2
noncomputable def Wd.zr(W:Wd)(a:ai):Wd:=⟨W.HS,W.μ,W.n,λb=>if b=a then ae else W.Z b,W.P⟩
section
variable {W:Wd}{S:bI}{H:Hp}
theorem cQ.lock(r:cQ W S H){k:Nat}{kvs:List (bZ×T)}(h:S[k]?=aa (.dic kvs))(o:Obj):∃ks,H (W.μ k)=aa (.dK ks)/\bQ W kvs ks /\
  cQ (W.zed (W.μ k) (o,.dK ks)) (S.set k (.lck kvs)) (upd H (W.μ k) (.eL o (.dK ks)))/\W.le (W.zed (W.μ k) (o,.dK ks)):=by
 obtain⟨⟨ks,h1,h2⟩,h3⟩:=r.cell k _ h;have hk:=r.lt h;have zn:W.Z (W.μ k)=ae:=r.K8 h (by intro _ z;cases z);have l:W.le (W.zed (W.μ k) (o,.dK ks)):=⟨λ_ _ e=>e,λb q e=>by
  show(if b=W.μ k then aa (o,HO.dK ks) else W.Z b)=aa q;by_cases z:b=W.μ k
  .rw[z,zn] at e;cases e
  .rw[if_neg z];exact e,λ_ _ e=>e,az _,λ_ _=>rfl⟩
 refine⟨ks,h1,h2,⟨λb w e=>?_,?_,λj c e=>?_,r.inj,λb q e=>?_,λb w e=>?_⟩,l⟩
 .have ne:b≠W.μ k:=λz=>by rw[z] at e;rw[show(W.zed (W.μ k) (o,HO.dK ks)).HS=W.HS from rfl,h3] at e;cases e
  exact⟨(r.sub b w e).1.at (dh ne),(r.sub b w e).2⟩
 .rw[gA];exact r.len
 .by_cases z:k=j
  .subst z
   have:c=.lck kvs:=by
    rw[c6 (by rw[r.len];exact hk)] at e;exact(bj e).symm
   subst this;exact⟨⟨o,ks,fX,bQ.mono l _ _ h2⟩,h3⟩
  .rw[cm z] at e
   have hj:=r.lt e;have ne:W.μ j≠W.μ k:=λq=>z (r.inj _ _ hk hj q.symm);exact⟨((r.cell j c e).1.at (dh ne)).mono l,(r.cell j c e).2⟩
 .have e:(if b=W.μ k then aa (o,HO.dK ks) else W.Z b)=aa q:=e
  by_cases z:b=W.μ k
  .rw[if_pos z] at e
   cases e;subst z;exact fX
  .rw[if_neg z] at e
   rw[dh z];exact r.zed b q e
 .obtain⟨g1,g2,g3⟩:=r.prv b w e
  have ne:b≠W.μ k:=λz=>g3 k hk z.symm;exact⟨by rw[dh ne];exact g1,g2,g3⟩
theorem k_.zr{a b:ai}:∀{c:cg},k_ W H b c->k_ (W.zr a) H b c:=λ{c} h=>k_.hs (W:=W) (W':=W.zr a) rfl rfl rfl (λ_ _ e=>e) h
theorem cQ.unlock(r:cQ W S H){k:Nat}{kvs:List (bZ×T)}{o:Obj}{ks:List (bZ×V)}(h:S[k]?=aa (.lck kvs))(hz:H (W.μ k)=aa (.eL o (.dK ks))) :
  cQ (W.zr (W.μ k)) (S.set k (.dic kvs)) (upd H (W.μ k) (.dK ks)):=by
 obtain⟨⟨o',Sw,h1,h2⟩,h3⟩:=r.cell k _ h;rw[hz] at h1;cases h1;have hk:=r.lt h;refine⟨λb w e=>?_,?_,λj c e=>?_,r.inj,λb q e=>?_,λb w e=>?_⟩
 .have ne:b≠W.μ k:=λz=>by rw[z] at e;rw[show(W.zr (W.μ k)).HS=W.HS from rfl,h3] at e;cases e
  exact⟨(r.sub b w e).1.at (dh ne),(r.sub b w e).2⟩
 .rw[gA];exact r.len
 .by_cases z:k=j
  .subst z
   have:c=.dic kvs:=by
    rw[c6 (by rw[r.len];exact hk)] at e;exact(bj e).symm
   subst this;exact⟨⟨ks,fX,bQ.hs (W:=W) (W':=W.zr _) rfl rfl rfl _ _ h2⟩,h3⟩
  .rw[cm z] at e
   have hj:=r.lt e;have ne:W.μ j≠W.μ k:=λq=>z (r.inj _ _ hk hj q.symm);exact⟨((r.cell j c e).1.at (dh ne)).zr,(r.cell j c e).2⟩
 .have e:(if b=W.μ k then ae else W.Z b)=aa q:=e
  by_cases z:b=W.μ k
  .rw[if_pos z] at e;cases e
  .rw[if_neg z] at e
   rw[dh z];exact r.zed b q e
 .obtain⟨g1,g2,g3⟩:=r.prv b w e
  have ne:b≠W.μ k:=λz=>g3 k hk z.symm;exact⟨by rw[dh ne];exact g1,g2,g3⟩
theorem Zbd{W1 W4:Wd}{a:ai}(zn:W1.Z a=ae)(l:W1.le W4):W1.le (W4.zr a):=⟨l.hs,λb q e=>by
 show(if b=a then ae else W4.Z b)=aa q;rw[if_neg (λz=>by rw[z,zn] at e;cases e)];exact l.z b q e,l.p,l.n,l.μ⟩
noncomputable def tY(kvs:List (bZ×T)):List T:=kvs.map λp=>.tup [kT p.1,p.2]
theorem bQ.at'{W:Wd}:∀{kvs:List (bZ×T)} {ks:List (bZ×V)} {i:Nat} {k:bZ} {v:V},bQ W kvs ks->ks[i]?=aa (k,v)->∃t,kvs[i]?=aa (k,t)/\cz W t v
 |[],ks,_,_,_,h,e=>by rw[qV.mp h] at e;simp at e
 | (k0,t0)::kvs,ks,i,k,v,h,e=>by
   obtain⟨v0,r,rfl,h1,h2⟩:=sJ.mp h;cases i with
   |zero=>simp at e;obtain⟨rfl,rfl⟩:=e;exact⟨t0,rfl,h1⟩
   | succ i=>
     obtain⟨t,e1,e2⟩:=bQ.at' (i:=i) h2 (by simpa using e);exact⟨t,by simpa using e1,e2⟩
theorem z3o{a:ai}{o:Obj}{kvs:List (bZ×T)}{ks:List (bZ×V)}(hz:W.Z a=aa (o,.dK ks))(d:bQ W kvs ks):rR W (tY kvs) (λ_=>True) (Ar a o ks):=⟨λi W' S' H' l r' _ hi=>by
 have h2:=r'.zed a _ (l.z a _ hz);rw[tY,aT,d.length] at hi;refine⟨⟨h2,hi⟩,λx tK y=>?_⟩;obtain⟨p,k,v,e1,hp,rfl,rfl⟩:=y;obtain⟨t,e2,d2⟩:=d.at' e1;have l2:W'.le (W'.eL p (.tup [kV k,v])):=Wd.lg (r'.jq hp);exact⟨W'.eL p (.tup [kV k,v]),.tup [kT k,t],l2,r'.eL hp _ trivial,by rw[tY,c9,e2];rfl,rQ.mpr ⟨p,_,rfl,fX,aW.eB (RJ k) (aW.eB (cz.mono (l.trans l2) _ _ d2) aW.gb)⟩⟩,λi W' S' H' l r' _ hi=>by
 have h2:=r'.zed a _ (l.z a _ hz);rw[tY,aT,d.length] at hi;exact⟨h2,gV hi.symm⟩⟩
end
open Classical in
def AZ{α:Type}(k:Nat)(kvs:List (bZ×T)):R α->R α
 |.ok a S=>if S[k]?=aa (.lck kvs) then .ok a (S.set k (.dic kvs)) else .bad
 |_=>.bad
def EA(f:List (bZ×T)->List T)(nt:Nat)(js:List Nat)(fd:DE)(g:DG)(tc:DT)(te:DE)(eV:List T->M T):DE:=fun ρ=>(fd ρ).bind λt=>λS=>match t with
 | .obj k=>(match S[k]? with
   |some (.dic kvs)=>AZ k kvs (M.bind (qZ (mJ (λ_=>True) g tc te (f kvs) (aS nt ae++js.map λj=>(ρ[j]?).join) [])) eV (S.set k (.lck kvs)))
   |_=>.bad)
 |_=>.bad
def iW(X:Cx)(J:ai->Obj->List (bZ×V)->It)(te:TE):TI:=fun σ H R=>te σ H λx H1=>∃a kvs,x=.ref a /\
 ((H1 a=aa (.dK kvs)/\∀o,(∀o' u,X.H₀ a≠aa (.eL o' u))->R (J a o kvs) (upd H1 a (.eL o (.dK kvs))))\/∃o,H1 a=aa (.eL o (.dK kvs))/\R (J a o kvs) H1)
def SI(f:List (bZ×T)->List T)(J:ai->Obj->List (bZ×V)->It):Prop:=∀{W:Wd} {a:ai} {o:Obj} {kvs:List (bZ×T)} {ks:List (bZ×V)},W.Z a=aa (o,.dK ks)->bQ W kvs ks->rR W (f kvs) (λ_=>True) (J a o ks)
theorem z7q:SI tY Ar:=λhz d=>z3o hz d
section
variable {X:Cx}{E:XK}{f:List (bZ×T)->List T}{J:ai->Obj->List (bZ×V)->It}{fd:DE}{gl:TG}{g:DG}{tc:DT}{AM:TT}{te:DE}{fb:DS}{eV:List T->M T}{nt:Nat}{js:List Nat}
theorem z7r{W1 W2 W4:Wd}{S4:bI}{H4:Hp}{k:Nat}{kvs:List (bZ×T)}{ks:List (bZ×V)}{o:Obj}(r1n:k<W1.n)(zn:W1.Z (W1.μ k)=ae)(l12:W1.le W2)(hz:W2.Z (W1.μ k)=aa (o,.dK ks))(nf:∀o' u,X.H₀ (W1.μ k)≠aa (.eL o' u))(SJ:W2.le W4)(r4:cQ W4 S4 H4)(e4:S4[k]?=aa (.lck kvs)){Rr:Hp->Prop}
  (h:∀W',W1.le W'->(W'.HS=W4.HS/\W'.μ=W4.μ/\W'.n=W4.n)->∀H',cQ W' (S4.set k (.dic kvs)) H'->Rr H'):Th X H4 Rr:=by
 have SK:=l12.trans SJ;have e:=SK.μ k r1n;have z4:=r4.zed _ _ (SJ.z _ _ hz);refine⟨W1.μ k,o,ks,z4,nf,?_⟩;have hu:=r4.unlock e4 (by rw[e];exact z4);rw[e] at hu;exact h _ (Zbd zn SK) ⟨rfl,rfl,rfl⟩ _ hu
open Classical in
theorem z3p(hJ:SI f J)(hG:GT gl g)(Er:∀σ H Q,RT E0 tc σ H Q->AM σ H Q)(hf:zp E eV){σ:St}{H:Hp}{Q:VK}(h:RE E (EA f nt js fd g tc te eV) σ H Q):As nt js (iW X J (RE E fd)) gl AM (RE E0 te) σ H (λv H'=>Th X H' λtK=>Q v tK):=by
 obtain⟨W,S,ρ,rp,env,p⟩:=h;refine⟨W,S,ρ,rp,env,(bq.bind p).imp λt W1 S1 H1 l1 r1 p1 v dv=>?_⟩;cases t with
 | obj k=>
   obtain⟨rfl,hk⟩:=nQ.mp dv;simp only at p1
   split at p1
   case h_2=>exact p1.elim
   case h_1 kvs ek=>
    obtain⟨⟨ks,g1,g2⟩,_⟩:=r1.cell k _ ek;refine⟨W1.μ k,ks,rfl,.inl ⟨g1,λo nf=>?_⟩⟩;obtain⟨Sw,Hv,g2',r2,l2⟩:=r1.lock ek o;rw[g1] at Hv;cases Hv;have zn:W1.Z (W1.μ k)=ae:=r1.K8 ek (by intro _ z;cases z);have hz:(W1.zed (W1.μ k) (o,.dK ks)).Z (W1.μ k)=aa (o,.dK ks):=by show(if W1.μ k=W1.μ k then aa (o,HO.dK ks) else _)=_;rw[if_pos rfl]
    refine RZ (PF:=λus S3=>bq E W1 (QV Q) (AZ k kvs (eV us S3))) hG Er r2 ((env.mono l1).mono l2) (hJ hz (bQ.mono l2 _ _ g2)) (λacc us W3 S3 H3 a hp r3 qK l3 p4=>?_) ?_
    .refine hf acc us _ W3 S3 H3 a (λv H'=>Th X H' λtK=>Q v tK) l3 hp r3 qK ?_
     revert p4
     cases eV us S3 with
     |bad=>exact λz=>z
     |exc _ _ _=>exact λz=>z.elim
     | ok t S4=>
       intro p4 W4 H4 l4 r4 v4 d4;have p4:bq E W1 (QV Q) (if S4[k]?=aa (.lck kvs) then .ok t (S4.set k (.dic kvs)) else .bad):=p4
       split at p4
       case isFalse=>exact p4.elim
       case isTrue e4=>exact z7r hk zn l2 hz nf l4 r4 e4 λW' l' ⟨q1,q2,q3⟩ H' r'=>p4 W' H' l' r' v4 (cz.hs q1 q2 q3 _ _ d4)
    .revert p1
     show bq E W1 (QV Q) (AZ k kvs (M.bind (qZ (mJ (λ_=>True) g tc te (f kvs) (aS nt ae++js.map λj=>(ρ[j]?).join) [])) eV (S1.set k (.lck kvs))))->_;unfold M.bind qZ;cases mJ (λ_=>True) g tc te (f kvs) (aS nt ae++js.map λj=>(ρ[j]?).join) [] (S1.set k (.lck kvs)) with
     |bad=>exact λz=>z
     |exc _ _ _=>exact λz=>z.elim
     |ok us S3=>exact λz W' H' _ _=>z
 |_=>exact p1.elim
end
section
variable {X:Cx}{E:XK}{jF iter c tg d:bt}{fd:DE}{gl:TG}{g:DG}{tc:DT}{te:DE}{eV:List T->M T}{js:List Nat}{scope:iz}{cl:List (Str×ai)}{nts xs:List Str}{pos cP fN:Pos}{rL:List bt}{kk:Nat}{tp:Pos}{body:List bR}{fb:DS}
theorem z7s(hc:X.calm=true)(C:uv X scope cl nts xs js)(hd:PE X d (RE E fd))(hg:∀fp s3 H2,PG (iX X scope cl (nts++xs) fp s3 H2) (.Tuple rL kk tp) gl)(hG:GT gl g)(ht:∀fp s3 H2,PT (iX X scope cl (nts++xs) fp s3 H2) c (RT E0 tc))(he:∀fp s3 H2,PE (iX X scope cl (nts++xs) fp s3 H2) jF (RE E0 te))(hf:zp E eV)
  (fG:b_ d "items" X.env (eval d X.env)=eval d X.env:=by rfl) (fH:(cP.endLine==fN.line)=true:=by rfl)
  (hs:∀x,cG (.Call (.Attribute d "items" cP) [] [] fN) X.env x=pure x:=by intro _;rfl):PE X (.ListComp jF [⟨.Tuple rL kk tp,.Call (.Attribute d "items" cP) [] [] fN,[c],0⟩] scope pos) (RE E (EA tY nts.length js fd g tc te eV)):=
 iQ (Y6 (Q0 hc C (Y5 hd fG fH) hg ht he hs)) fun σ H Q h=>z3p (X:=X) z7q hG (fun σ H Q h=>h) hf h
end
noncomputable def Hw(fk fv:DE):DE:=fun ρ S=>((fk ρ).bind λk=>(fv ρ).bind λv=>λS'=>match ft k,S'[S.length]? with
 |some key,aa (.dic [])=>.ok (.obj S.length) (S'.set S.length (.dic [(key,v)]))
 |_,_=>.bad) (S++[.dic []])
section
variable {X:Cx}{E:XK}{o e k v:bt}{fd fk fv:DE}{pos cP fN:Pos}
theorem z7t(hk:PE X k (RE E fk))(hv:PE X v (RE E fv)):PE X (.Dict [aa k] [v] pos) (RE E (Hw fk fv)):=iQ (Qq (GG hk hv Qn) rfl rfl (by simp) (by simp)) fun σ H Q h p hp=>by
 obtain⟨W,S,ρ,r,env,p0⟩:=h;have lA:W.le (W.add p):=Wd.i7;have rA:=r.lM hp (.dic []) (.dK []) ⟨[],fX,bQ.gb⟩;have p0:bq E W (QV Q) (((fk ρ).bind λk=>(fv ρ).bind λv=>λS'=>match ft k,S'[S.length]? with
  |some key,aa (.dic [])=>R.ok (T.obj S.length) (S'.set S.length (.dic [(key,v)]))
  |_,_=>.bad) (S++[.dic []])):=p0
 refine⟨W.add p,_,ρ,rA,env.mono lA,(bq.bind (B_ p0 lA)).imp λtk W1 S1 H1 l1 r1 p1 x dx=>?_⟩;refine⟨W1,S1,ρ,r1,(env.mono lA).mono l1,(bq.bind p1).imp λtv W2 S2 H2 l2 r2 p2 y dy=>?_⟩
 split at p2
 case h_2=>exact p2.elim
 case h_1 key ek es=>
  have eN:S.length=W.n:=r.len;have hn:S.length<(W.add p).n:=by rw[eN];exact dE _
  have eμ:W2.μ S.length=p:=by rw[(l1.trans l2).μ _ hn,eN,Wd.i8]
  have u1:=r2.lt es;obtain⟨⟨ks,g1,g2⟩,_⟩:=r2.cell _ _ es;obtain rfl:=qV.mp g2;rw[eμ] at g1;refine⟨g1,[(key,y)],by rw[B5 dx ek];rfl,by simp,?_⟩;have e2:y' [] [(key,y)]=[(key,y)]:=rfl;rw[e2,<- eμ];exact p2 W2 _ (Wd.le.refl _) (r2.cellSet es _ _ ⟨_,fX,bQ.eB dy bQ.gb⟩) _ (nQ.mpr ⟨rfl,u1⟩)
end
noncomputable def qM(L:List ai)(D:ai):ai->Option Bool:=λC=>if C∈L then aa (decide (C=D)) else ae
section
variable {K:aM}{h D:ai}{L:List ai}
theorem SM(D:ai):kC.contains (.ref D)=false:=rfl
theorem L4(C D:ai):(aP C==aP D)=decide (C=D):=by
 by_cases e:C=D
 .subst e;simp
 .rw[decide_eq_false e];exact beq_eq_false_iff_ne.mpr (λz=>e (Value.ref.inj z))
theorem SO(m:∀C∈L,C≠h->o4 K C=aa (.ref h::kC))(mh:o4 K h=aa kC)(hD:D≠h):AX K D (qM L D):=λC b e=>by
 unfold qM at e
 split at e
 case isFalse=>cases e
 case isTrue hC=>
  cases e;by_cases z:C=h
  .subst z;exact⟨_,mh,by rw[dC,SM,L4,l_];exact decide_eq_decide.mpr ⟨yV,yV⟩⟩
  .refine⟨_,m C hC z,?_⟩
   rw[dC,dC,SM,L4,L4,l_,decide_eq_false (show¬D=h from hD),l_];exact decide_eq_decide.mpr ⟨yV,yV⟩
end
theorem Zbf{P:aR}{w:bu}{mg:Str->Option af}{base:bN}{K:aM}{k:Nat}{f:ai}{fd:bA}{ps:List Str}{n:Nat}:bE P w K mg base (dP P w) k f fd ps (fE n λ_=>M.bad):=
 ⟨λvs H Q E h=>by obtain⟨_,_,_,_,_,_,p⟩:=h;exact p.elim,λA outer s H args us vs Q E _ _ _ _ h=>by obtain⟨_,_,_,_,_,_,p⟩:=h;exact p.elim⟩
end MF
namespace L2
open PySem PySem.Spec PyProof.Rows
section
variable {X:Cx}{ag:List (ai×Obj)}{σ:List (Option V)}{H:Hp}{s:aj}{h':bN}
theorem Inv.around{t':Nat}(I:Inv X ag σ H s)(k:∀b o,b≠X.env.locals->s.heap.get? b=aa o->h'.get? b=aa o)(hn:∀m,s.heap.Ns X.env.locals m->h'.Ns X.env.locals m):Inv X ag σ H { s with heap:=h',toks:=t' }:=by
 have nL:∀b u,H b=aa u->b≠X.env.locals:=λb u e z=>by rw[z,I.free] at e;cases e
 refine I.step (g':=s.gens) (d':=s.drawn) (ch:=[]) (λb hb=>absurd hb cx) (λb o hl _ _ e _=>k b o hl e) (λb o hl _ _ e _=>⟨o.slots,k b o hl e⟩) (λ_ _ _ _ n=>n) (λb o _ e=>?_) (λ_ _ e=>e) (λ_ _ _ e=>e) (λb ps e=>⟨#[],by rw[e];simp⟩) hn (λb u e=>?_) I.bare
 .by_cases z:b=X.env.locals
  .obtain⟨m,hm,_⟩:=I.loc
   obtain⟨o',es,ep,ho,_⟩:=hn m hm;exact⟨o',by rw[z];exact ho⟩
  .exact⟨o,k b o z e⟩
 .refine(I.cD b u e).mo (λc v hc q=>k c v ?_ q) (λ_ q=>q) λ_ _ q=>q
  rcases hc with z | z
  .rw[z];exact nL b u e
  .exact nL c _ z
theorem Zbg{h:bN}{a:ai}{m m':Str->Option af}(p:h.Ns a m)(q:h.Ns a m'):m=m':=by
 obtain⟨o,es,ep,ho,hd,_,l⟩:=p;obtain⟨o',zY,zZ,wx,wy,_,l'⟩:=q;rw[ho] at wx;cases wx;rw[hd] at wy;cases wy;funext n;rw[<- l n,l' n]
theorem Hx:∀{xs:List V} {us:List af} {i:Nat} {u:af},cf xs us->us[i]?=aa u->∃x,xs[i]?=aa x/\RelV x u
 |_,_,_,_,.nil,e=>by simp at e
 |_,_,0,_,.cons r _,e=>by simp at e;subst e;exact⟨_,rfl,r⟩
 | _,_,i+1,_,.cons _ t,e=>by
   obtain⟨x,e1,e2⟩:=Hx (i:=i) t (by simpa using e);exact⟨x,by simpa using e1,e2⟩
theorem z0y(hc:X.calm=true):rC X (.builtin "any") (λxs H Q=>∃(a:ai) (bs:List Bool),xs=[.ref a]/\Rd H a (.lst (bs.map V.bl))/\Q (.bl (bs.any id)) H):=by
 intro ag s σ H xs us Q I r h;obtain⟨a,bs,rfl,rd,q⟩:=h;obtain⟨u,rfl,rx⟩:=Ac r;cases (show u=aP a from rx);obtain⟨z,cC,n,rv,e⟩:=rd.ok I.cD;have hl:s.heap.IsList a cC.toArray:=⟨_,e,rfl,n,rfl⟩;have cK:=rv.length;have alt:=aE e;refine call_any_walk (CZ hl ?_);have hh:X.A.in1.handled=ae:=I.ok.hd hc;refine⟨_,_,_,_,_,_,λi=>bs.getD i false,rfl,Walks.list hh s.heap.objs.size a (aQ alt) cC.toArray,⟨⟨_,aZ _ rfl,rfl,rfl⟩,hl.push _⟩,?_,λh' tk hk=>?_⟩
 .intro i v s' Q' E' hP hQ
  obtain⟨x,e1,e2⟩:=Hx (i:=i) (u:=v) rv (by simpa using hP);rw[c9] at e1;cases e3:bs[i]? with
  |none=>rw[e3] at e1;cases e1
  | some b=>
    rw[e3] at e1;cases e1;cases (show v=dW b from e2);have:bs.getD i false=b:=by simp[wW,e3]
    have hQ:Q' (bs.getD i false) s':=hQ;rw[this] at hQ;exact ij hQ
 .have ev:(cn cC.toArray.size).any (λi=>bs.getD i false)=bs.any id:=by
   rw[aL,<- cK,aT,ej,f',f'];constructor
   .rintro⟨i,hi,e⟩
    have hi:=gQ.mp hi;refine⟨bs[i],List.getElem_mem hi,?_⟩;simpa[wW,bf hi] using e
   .rintro⟨b,hb,e⟩
    obtain⟨i,hi,rfl⟩:=lF hb;exact⟨i,gQ.mpr hi,by simpa[wW,bf hi] using e⟩
  rw[ev];exact⟨.bl _,H,I.kept λb o eb=>hk b o (by simpa using aQ (aE eb)) (aw _ eb),rfl,q⟩
def A4:List V->Hp->VK->Prop:=λxs H Q=>∃(a:ai) (ys:List V) (kf:Nat->Int),xs=[.ref a]/\Rd H a (.lst ys)/\0<ys.length/\(∀(i:Nat) x,ys[i]?=aa x->∃b zs,x=.ref b/\Rd H b (.lst zs)/\kf i=(zs.length:Int)) /\
 ∀(i:Nat) x,ys[i]?=aa x->(∀j,j<ys.length->kf i<=kf j/\(j<i->kf i<kf j))->Q x H
theorem L5{H:Hp}{a:ai}{o:HO}(r:Rd H a o):∃u,H a=aa u:=by
 rcases r with r | ⟨q,r⟩
 .exact⟨_,r⟩
 .exact⟨_,r⟩
theorem zuv{xs:List V}{us:List af}{Q:VK}{E:af->aj->Prop}(hc:X.calm=true)(I:Inv X ag σ H s)(r:cf xs us)(h:A4 xs H Q) :
  wpAny (aJ X.prog X.w) X.A (call (.builtin "min") us [(ao "key",.builtin "len")]) (λu s'=>∃v H',Inv X ag σ H' s'/\RelV v u/\Q v H') E s:=by
 obtain⟨a,ys,kf,rfl,rd,px,hk,q⟩:=h;obtain⟨u,rfl,rx⟩:=Ac r;cases (show u=aP a from rx);obtain⟨z,cC,n,rv,e⟩:=rd.ok I.cD;obtain⟨m,hm,_⟩:=I.loc;have cK:=rv.length;have nL:∀b u,H b=aa u->b≠X.env.locals:=λb u e z=>by rw[z,I.free] at e;cases e
 have h0:∀b,({}:bN).get? b=ae:=by intro b;simp[Heap.get?]
 obtain⟨xI,mem⟩:∃xI:List (ai×Obj),∀b o,(b,o)∈xI↔b≠X.env.locals/\s.heap.get? b=aa o:=by
  refine⟨(cn s.heap.objs.size).filterMap λb=>if b=X.env.locals then ae else(s.heap.get? b).map λo=>(b,o),λb o=>?_⟩;rw[i5];constructor
  .rintro⟨c,_,e⟩
   by_cases z:c=X.env.locals
   .rw[if_pos z] at e;cases e
   .rw[if_neg z] at e
    cases e2:s.heap.get? c with
    |none=>rw[e2] at e;cases e
    |some o'=>rw[e2] at e;cases e;exact⟨z,e2⟩
  .rintro⟨z,e⟩
   exact⟨b,gQ.mpr (aE e),by rw[if_neg z,e];rfl⟩
 have F:Fr {} X.env.locals s.heap m:=⟨hm,λb o e=>(by rw[h0] at e;cases e),dJ _⟩;have N:News {} X.env.locals s.heap xI:=λp hp=>by
  obtain⟨b,o⟩:=p;obtain⟨h1,h2⟩:=(mem b o).mp hp;exact⟨h2,h1,h0 _⟩
 obtain⟨ua,ea⟩:=L5 rd;have hl:∀h,Fr {} X.env.locals h m->News {} X.env.locals h xI->h.IsList a cC.toArray:=λh _ N'=>⟨_,(N' (a,_) ((mem a _).mpr ⟨nL a _ ea,e⟩)).1,rfl,n,rfl⟩;refine kmb_min (kid := "len") (vs:=cC) kf (I.ok.hd hc) F N hl (by rw[<- cK];exact px) (λi v hv h tk own F' N'=>?_) (λi v h' GR hv hb F' N'=>?_)
 .obtain⟨x,e1,e2⟩:=Hx rv hv
  obtain⟨b,zs,rfl,SQ,ek⟩:=hk i x e1;cases (show v=aP b from e2);obtain⟨z2,oJ,n2,rv2,eb⟩:=SQ.ok I.cD;obtain⟨ub,eub⟩:=L5 SQ;have hlb:h.IsList b oJ.toArray:=⟨_,(N' (b,_) (ck _ ((mem b _).mpr ⟨nL b _ eub,eb⟩))).1,rfl,n2,rfl⟩;have vy:=rv2.length;have hs:sizeLine=16777216:=dQ;refine sZ (s:={ s with heap:=h,toks:=tk }) hlb (by simp only[aL];omega) ?_;have ek2:kf i=((oJ.toArray.size:Nat):Int):=by rw[ek,aL,vy]
  rw[ek2];exact KskEnd.intro F' N' λp hp=>hp
 .obtain⟨x,e1,e2⟩:=Hx rv hv
  exact⟨x,H,I.around (λb o hb eb=>(N' (b,o) ((mem b o).mpr ⟨hb,eb⟩)).1) (λm' rM=>by rw[Zbg rM hm];exact F'.ns),e2,q i x e1 λj hj=>hb j (by rw[<- cK];exact hj)⟩
theorem z0z{e:bt}{te:TA}{p kp A5 pos:Pos}(hc:X.calm=true)(hg:Gl X "min")(hm:X.mg "min" = ae)(L6:Gl X "len")(A6:X.mg "len" = ae)(he:PA X [e] te)
  (hb:bK pos (av [e] X.env)=(false,eval e X.env)::bK pos (av [] X.env):=by rfl) (gF:(bK pos (av [e] X.env)).any (·.1)=false:=by rfl) :
  PE X (.Call (.Name "min" p) [e] [⟨aa "key",.Name "len" kp,A5⟩] pos) (GB A4 te):=by
 intro ag s σ H Q I h;refine fK (z1 I hg hm boot_min ?_);refine callWith_kw (dM (he pos ag s σ H _ I h) λus s1 cS=>?_) hb gF;obtain⟨vs,H1,I1,r1,q1⟩:=cS;refine kws_cons (z1 I1 L6 A6 boot_len (kws_nil ?_));exact zuv hc I1 r1 q1
theorem z3q{e:bt}{te:TE}{pos:Pos}(hgd:X.A.guards=aa [])(hu:X.A.units+64<fT)(he:PE X e te):PE X (.FormattedValue e 114 ae pos) (fun σ H Q=>te σ H λv H1=>∃d a,MF.kQ H1 d v/\v=.ref a/\d.showable=true/\d.hasDict=false/\d.depth<=50/\d.shown.length<=sizeLine/\Q (.str d.shown) H1):=by
 intro ag s σ H Q I h;refine tf (dM (he ag s σ H _ I h) λv s1 cS=>?_);obtain⟨x,H1,I1,r,d,a,rd,e,hs,hd,hdep,l,q⟩:=cS;subst e;cases (show v=aP a from r);obtain⟨as,rr⟩:=MF.gB I1.cD d _ _ rd rfl;refine pyReprObj_of_reads rr hs (λz=>by rw[hd] at z;cases z) hgd (by omega) (λb o e=>e) (λh' u tk hk=>?_) l;exact Jp (hsz:=l) λt' tk=>⟨.str _,H1,(I1.kept (t':=tk) hk),⟨t',rfl⟩,q⟩
end
end L2
namespace MF
open PySem L2
noncomputable def zt:List T->Option (List Bool)
 |[]=>aa []
 |.bl b::ts=>(zt ts).map (b::·)
 |_::_=>ae
theorem SR{W:Wd}:∀{ts:List T} {vs:List V} {bs:List Bool},aW W ts vs->zt ts=aa bs->vs=bs.map V.bl
 |[],vs,ys,h,e=>by cases e;exact oq.mp h
 | t :: ts,vs,ys,h,e=>by
   obtain⟨v,r,rfl,h1,h2⟩:=nv.mp h;cases t with
   | bl x=>
     simp only[zt] at e;obtain⟨zs,e1,rfl⟩:=bg.mp e;rw[jB.mp h1,SR h2 e1];rfl
   |_=>simp[zt] at e
noncomputable def tZ(t:T):M T:=λS=>match (cW S t).bind zt with
 |some bs=>.ok (.bl (bs.any id)) S
 |none=>.bad
noncomputable def Hy(S:bI)(ts:List T):Option (List Nat):=ie (λt=>(cW S t).map fV) ts
def A7(ls:List Nat)(i:Nat):Prop:=∃n,ls[i]?=aa n/\∀j k,ls[j]?=aa k->n<=k/\(j<i->n<k)
theorem A7.one{ls:List Nat}{i j:Nat}(a:A7 ls i)(b:A7 ls j):i=j:=by
 obtain⟨n,e1,h1⟩:=a;obtain⟨k,e2,h2⟩:=b;have p:=h1 j k e2;have q:=h2 i n e1;rcases Nat.lt_trichotomy i j with h | h | h
 .have:=q.2 h;omega
 .exact h
 .have:=p.2 h;omega
open Classical in
noncomputable def vJ(t:T):M T:=λS=>match cW S t with
 | some ts=>(match Hy S ts with
   | some ls=>if h:∃i,A7 ls i then(match ts[h.choose]? with
     |some u=>.ok u S
     |none=>.bad) else .bad
   |none=>.bad)
 |none=>.bad
theorem SS{α β:Type}{f:α->Option β}:∀{l:List α} {m:List β},ie f l=aa m->l.length=m.length/\∀(i:Nat) x,l[i]?=aa x->∃y,m[i]?=aa y/\f x=aa y
 |[],m,e=>by cases e;exact⟨rfl,λi x h=>by simp at h⟩
 | a :: l,m,e=>by
   unfold ie at e;cases e1:f a with
   |none=>simp[e1] at e
   | some b=>
     cases e2:ie f l with
     |none=>simp[e1,e2] at e
     | some r=>
       simp[e1,e2] at e;subst e;obtain⟨h1,h2⟩:=SS e2;refine⟨by simp[h1],λi x h=>?_⟩;cases i with
       |zero=>simp at h;subst h;exact⟨b,rfl,e1⟩
       |succ i=>simpa using h2 i x (by simpa using h)
theorem SU:∀(l:List Str),lH (l.map cy)=true
 |[]=>by simp[lH]
 |a::r=>by simp[lH,wo,SU r]
theorem SV:∀(l:List Str),mm (l.map cy)=false
 |[]=>by simp[mm]
 |a::r=>by simp[mm,wX,SV r]
theorem SW:∀(l:List Str),bw (l.map cy)=0
 |[]=>by simp[bw]
 |a::r=>by simp[bw,cR,SW r]
theorem SX{H:Hp}:∀(l:List Str),lP H (l.map cy) (l.map V.str)
 |[]=>by simp[lP]
 | a::r=>by
   simp only[aC,lP];exact⟨_,_,rfl,by simp[kQ],SX r⟩
section
variable {X:Cx}{E:XK}{e:bt}{fa:DE}{pos p kp A5:Pos}
theorem Zdl(hc:X.calm=true)(gl:Gl X "any")(hm:X.mg "any" = ae)(ha:PE X e (RE E fa))
  (he:av [e] X.env=(false,eval e X.env)::av [] X.env:=by rfl) (gF:(bK pos (av [] X.env)).any (·.1)=false:=by rfl):PE X (.Call (.Name "any" p) [e] [] pos) (RE E (e1 tZ fa)):=
 Ln (z0y hc) (λt W S H v Q r d p=>by
  unfold tZ at p;cases e:(cW S t).bind zt with
  |none=>rw[e] at p;exact p.elim
  | some bs=>
    rw[e] at p;obtain⟨ts,e1,e2⟩:=jn.mp e;obtain⟨a,vs,rfl,h1,h2⟩:=r.list d e1;rw[SR h2 e2] at h1;exact⟨a,bs,rfl,h1,now p r (jB.mpr rfl)⟩) gl hm Ju ha (by decide) (by decide) he gF
theorem z3s (hc:X.calm=true) (hg:Gl X "min") (hm:X.mg "min" = ae) (L6:Gl X "len") (A6:X.mg "len" = ae) (ha:PE X e (RE E fa))
  (hs:av [e] X.env=(false,eval e X.env)::av [] X.env:=by rfl)
  (hb:bK pos (av [e] X.env)=(false,eval e X.env)::bK pos (av [] X.env):=by rfl) (gF:(bK pos (av [e] X.env)).any (·.1)=false:=by rfl) :
  PE X (.Call (.Name "min" p) [e] [⟨aa "key",.Name "len" kp,A5⟩] pos) (RE E (e1 vJ fa)):=
 iQ (z0z hc hg hm L6 A6 (u4 ha y_ hs) hb gF) fun σ H Q h=>qW (r:=λx H Q=>A4 [x] H Q) (λt W S H v Q r d p=>by
  unfold vJ at p;cases e1:cW S t with
  |none=>simp only[e1] at p;exact p.elim
  | some ts=>
    simp only[e1] at p;cases e2:Hy S ts with
    |none=>simp only[e2] at p;exact p.elim
    | some ls=>
      simp only[e2] at p
      split at p
      case isFalse=>exact p.elim
      case isTrue hx=>
       obtain⟨a,vs,rfl,h1,h2⟩:=r.list d e1;obtain⟨l1,l2⟩:=SS e2;have cK:=h2.length;refine⟨a,vs,λi=>((ls[i]?).getD 0:Nat),rfl,h1,?_,λi x ex=>?_,λi x ex qN=>?_⟩
       .obtain⟨i,n,en,_⟩:=hx
        have:=(aB.mp en).1;omega
       .obtain⟨tx,et,dx⟩:=h2.get' ex
        obtain⟨n,en,hn⟩:=l2 i tx et;obtain⟨us,eu,rfl⟩:=bg.mp hn;obtain⟨b,ws,rfl,g1,g2⟩:=r.list dx eu;refine⟨b,ws,rfl,g1,?_⟩;show(((ls[i]?).getD 0:Nat):Int)=_;rw[en,<- g2.length];rfl
       .obtain⟨tx,et,dx⟩:=h2.get' ex
        obtain⟨n,en,hn⟩:=l2 i tx et;have bi:A7 ls i:=⟨n,en,λj k ek=>by
         have hj:j<vs.length:=by have:=(aB.mp ek).1;omega
         have:=qN j hj;simp only[en,ek,Option.getD_some] at this;omega⟩
        have ec:=A7.one hx.choose_spec bi;rw[ec,et] at p;exact now p r dx) h
end
end MF
namespace MF
open PySem L2 PyProof.Rows
open Classical in
def SY(ys:List Str):List Str:=if h:∃zs:List Str,zs.Perm ys/\sortedS zs=true then h.choose else ys
def Zdm(t:T):M T:=λS=>match (cW S t).bind ux with
 |some ys=>if ys.length<64 then .ok (.lst ((SY ys).map T.str)) S else .bad
 |none=>.bad
theorem S7{W:Wd}:∀(l:List Str),aW W (l.map T.str) (l.map V.str)
 |[]=>aW.gb
 |a::r=>aW.eB (nu.mpr rfl) (S7 r)
def xJ(C:ai)(f:Str):Sp:=λvs H Q _=>∃(e a:ai) (zs:List Str),vs=[.ref e,.ref a]/\H e=aa (iP e C ae)/\Rd H a (.lst (zs.map V.str))/\zs.length<=1000/\(fW (.list (zs.map cy))).length<=800 /\
 ∀l d,H l=ae->l≠d->H d=ae->Q .bH (upd (upd (upd H l (.lst (zs.map V.str))) e (iP e C (aa d))) d (.xd [(f,.ref l)]))
section
variable {P:aR}{w:bu}{K:aM}{mg:Str->Option af}{base:bN}
theorem z3t{qual:Str}{st:bR}{dV:af}{C fI:ai}{fd:bA}{p1 f:Str}{k:Nat}{tm tl:TE}(F:cO K "__init__" qual st dV fI fd)(S:gj ["self",p1] ["self",p1] (d8 st))
  (hx:rN K C) (q:pz K C fI=true) (nf:eQ K (.ref C) f=aa ae)
  (lK:∀(gT:af) (A:bW) (outer:List Env) (s:aj) (H:Hp) (E:XK),eJ k (A.deeper (iH qual (d8 st) s.heap.objs.size fI gT)) ->
   k8 (h8 (dP P w) P w K mg base ["self",p1] qual (d8 st) fI gT A outer s H E) (oj st) (uX (JH (K2 K (BU (mq 0) (BU tm tF)))) (GU K (mq 0) tl f)))
  (AY:∀(e a:ai) (zs:List Str) (H:Hp) (Q:VK),Rd H a (.lst (zs.map V.str))->(fW (.list (zs.map cy))).length<=800->(∀m,Q (.str m) H)->tm [aa (.ref e),aa (.ref a)] H Q)
  (EB:∀(e a:ai) (zs:List Str) (H:Hp) (Q:VK),Rd H a (.lst (zs.map V.str))->(∀l,H l=ae->Q (.ref l) (upd H l (.lst (zs.map V.str))))->tl [aa (.ref e),aa (.ref a)] H Q) :
  bE P w K mg base (dP P w) (k+1) fI fd ["self",p1] (xJ C f):=by
 refine F.KD S (λvs H Q E h=>?_) λgT A outer s H vs Q E hr h=>⟨_,lK gT A outer s H E hr,?_⟩
 .obtain⟨e,a,zs,rfl,_⟩:=h;rfl
 .obtain⟨e,a,zs,rfl,he,rd,hz,DR,h⟩:=h
  refine⟨.ref e,rfl,AY e a zs H _ rd DR λm=>?_⟩;refine⟨e,.str m,C,fI,ae,rfl,he,q,?_⟩;refine EB e a zs H _ rd λl hl=>?_;have le:l≠e:=λz=>by rw[z,he] at hl;cases hl
  refine⟨.ref e,rfl,e,C,rfl,hx,nf,.inl ⟨by rw[dh (bP le)];exact he,λd hd=>?_⟩⟩;have dl:d≠l:=λz=>by rw[z,fX] at hd;cases hd
  rw[dh dl] at hd;exact h l d hl (bP dl) hd
end
noncomputable def L7(C:ai)(f:Str)(fr:DA):DS:=fun ρ=>(fr ρ).bind λts=>λS=>match ts with
 | [x]=>(match (cW S x).bind ux with
   |some zs=>if zs.length<=1000/\(fW (.list (zs.map cy))).length<=800 then .exc C (aa [(f,.lst (zs.map T.str))]) S else .bad
   |none=>.bad)
 |_=>.bad
section
variable {X:Cx}{E:XK}{k:Nat}{C fI:ai}{fd:bA}{ps:List Str}{f y:Str}{np fN pos:Pos}{e:bt}{es:List bt}{fr:DA}
theorem z3u (hx:GV X E) (hc:X.calm=true) (q:pz X.K C fI=true) (hf:gE X.K (.ref fI)=true) (F:bE X.prog X.w X.K X.mg X.base (dP X.prog X.w) k fI fd ps (xJ C f)) (hr:eJ (k+1) X.A) (hb:mH X.K fd ps [])
  (hg:Gl X y) (hm:X.mg y=aa (.ref C)) (ha:PA X (e::es) (RA E fr))
  (jE:(y==("__debug__" : Str))=false:=by decide) (he:av (e::es) X.env=(false,eval e X.env)::av es X.env:=by rfl) (gF:(bK fN (av es X.env)).any (·.1)=false:=by rfl) :
  PS X (.Raise (aa (.Call (.Name y np) (e::es) [] fN)) ae pos) (RS E (L7 C f fr)):=tO (Rg hx AN hc q hf F hr hb hg hm ha jE he gF) λD σ H h=>by
 obtain⟨W,S,ρ,rp,env,p⟩:=h;refine⟨W,S,ρ,rp,env,(bq.bind p).imp λts W1 S1 H1 l1 r1 p1 vs dv=>?_⟩
 split at p1
 case h_2=>exact p1.elim
 case h_1 tx=>
  cases ez:(cW S1 tx).bind ux with
  |none=>simp only[ez] at p1;exact p1.elim
  | some zs=>
    simp only[ez] at p1
    split at p1
    case isFalse=>exact p1.elim
    case isTrue ok=>
     obtain⟨u,rfl,du⟩:=xy dv;obtain⟨us,e1,e2⟩:=jn.mp ez;obtain⟨a,ws,rfl,g1,g2⟩:=r1.list du e1;rw[Ls g2 e2] at g1;obtain⟨ua,S8⟩:=L5 g1;refine⟨by show 1<=sizeLine;rw[dQ];omega,λea B0=>?_⟩;have S9:a≠ea:=λz=>by rw[z,B0] at S8;cases S8
     have Hv:Rd (upd H1 ea (iP ea C ae)) a (.lst (zs.map V.str)):=by
      rcases g1 with g | ⟨o,g⟩
      .exact .inl (by rw[dh S9];exact g)
      .exact .inr ⟨o,by rw[dh S9];exact g⟩
     refine⟨ea,a,zs,rfl,fX,Hv,ok.1,ok.2,λl d hl ld hd=>⟨rfl,aa d,?_,?_⟩⟩
     .have ne:ea≠d:=λz=>by rw[z,fX] at hd;cases hd
      rw[dh ne,fX]
     .have S_:d≠ea:=λz=>by rw[z,fX] at hd;cases hd
      have Ta:l≠ea:=λz=>by rw[z,fX] at hl;cases hl
      have za:H1 d=ae:=by rw[dh S_] at hd;exact hd
      have Ew:H1 l=ae:=by rw[dh Ta] at hl;exact hl
      have L3:tM (upd (upd (upd (upd H1 ea (iP ea C ae)) l (.lst (zs.map V.str))) ea (iP ea C (aa d))) d (.xd [(f,.ref l)])) ea=upd (upd H1 l (.lst (zs.map V.str))) d (.xd [(f,.ref l)]):=by
       funext b;by_cases z:b=ea
       .subst z
        rw[D',dh (bP S_),dh (bP Ta)];exact B0.symm
       .rw[zg z]
        by_cases z2:b=d
        .subst z2;rw[fX,fX]
        .rw[dh z2,dh z,dh z2]
         by_cases z3:b=l
         .subst z3;rw[fX,fX]
         .rw[dh z3,dh z,dh z3]
      rw[L3];have l2:W1.le (W1.eL l (.lst (zs.map V.str))):=Wd.lg (r1.jq Ew);have r2:=r1.eL Ew (.lst (zs.map V.str)) trivial;have Tb:upd H1 l (.lst (zs.map V.str)) d=ae:=by rw[dh (bP ld)];exact za
      exact p1 _ _ (aa d) l2 (r2.extra Tb _) ⟨_,fX,r2.jq Tb,⟨.ref l,_,rfl,rP.mpr ⟨l,_,rfl,fX,S7 zs⟩,rfl⟩⟩
end
theorem vK{α:Type}:∀{l:List α},l.length=1->∃a0,l=[a0]
 |[a0],_=>⟨a0,rfl⟩
theorem EC{α:Type}:∀{l:List α},l.length=2->∃a0 a1,l=[a0,a1]
 |[a0,a1],_=>⟨a0,a1,rfl⟩
theorem L9{α:Type}:∀{l:List α},l.length=3->∃a0 a1 a2,l=[a0,a1,a2]
 |[a0,a1,a2],_=>⟨a0,a1,a2,rfl⟩
theorem ED{α:Type}:∀{l:List α},l.length=4->∃a0 a1 a2 a3,l=[a0,a1,a2,a3]
 |[a0,a1,a2,a3],_=>⟨a0,a1,a2,a3,rfl⟩
theorem EE{α:Type}:∀{l:List α},l.length=5->∃a0 a1 a2 a3 a4,l=[a0,a1,a2,a3,a4]
 |[a0,a1,a2,a3,a4],_=>⟨a0,a1,a2,a3,a4,rfl⟩
theorem L_{α:Type}:∀{l:List α},l.length=6->∃a0 a1 a2 a3 a4 a5,l=[a0,a1,a2,a3,a4,a5]
 |[a0,a1,a2,a3,a4,a5],_=>⟨a0,a1,a2,a3,a4,a5,rfl⟩
noncomputable def t8(t:T):M T:=λS=>match t with
 |.int i=>.ok (.int (-i)) S
 |_=>.bad
section
variable {X:Cx}{E:XK}{e:bt}{fa:DE}{pos:Pos}
theorem Zdn(ha:PE X e (RE E fa)):PE X (.UnaryOp .USub e pos) (RE E (e1 t8 fa)):=iQ (Xb Xj ha) fun σ H Q h=>qW (r:=rU λi=>.int (-i)) (λt W S H v Q r d p=>by
 unfold t8 at p
 split at p
 .rename_i i;exact⟨i,jC.mp d,now p r (jC.mpr rfl)⟩
 .exact p.elim) h
end
def Zbi(te:TE):TE:=fun σ H Q=>te σ H λv H1=>∃d a,kQ H1 d v/\v=.ref a/\d.showable=true/\d.hasDict=false/\d.depth<=50/\d.shown.length<=sizeLine/\Q (.str d.shown) H1
def Zdo(te:TE):TE:=fun σ H Q=>te σ H λv H1=>∃y,v=.str y/\(cY y).length<=sizeLine/\Q (.str (cY y)) H1
def z7u(K:aM):TE:=GB (λxs H Q=>∃p ys,xs=[.ref p]/\(lJ K H p ys\/tE K H p ys)/\∀l,H l=ae->Q (.ref l) (upd H l (.lst ys))) (BU (mq 1) tF)
theorem z3v(pre:String)(hp:(ao pre).length<=100):∀(e a:ai) (zs:List Str) (H:Hp) (Q:VK),Rd H a (.lst (zs.map V.str))->(fW (.list (zs.map cy))).length<=800->(∀m,Q (.str m) H)->tJ eZ [tC (.str pre),Zbi (mq 1)] [aa (.ref e),aa (.ref a)] H Q:=by
 intro e a zs H Q rd hl q;have e0:eZ.length=0:=rfl;have hs:sizeLine=16777216:=dQ;refine⟨_,rfl,by rw[bS];omega,.ref a,rfl,.list (zs.map cy),a,by simp only[kQ];exact⟨a,_,rfl,rd,SX zs⟩,rfl,by simp[wo,SU],by simp[wX,SV],by simp[cR,SW],by omega,_,rfl,by rw[bS,bS];omega,?_⟩;exact⟨by rw[bS,bS];omega,q _⟩
theorem z02(K:aM):∀(e a:ai) (zs:List Str) (H:Hp) (Q:VK),Rd H a (.lst (zs.map V.str))->(∀l,H l=ae->Q (.ref l) (upd H l (.lst (zs.map V.str))))->z7u K [aa (.ref e),aa (.ref a)] H Q:=
 λe a zs H Q rd q=>⟨.ref a,rfl,a,_,rfl,.inl (.inl rd),q⟩
theorem z7v(pre post:String)(hp:(ao pre).length<=100)(hq:(ao post).length<=100):∀(e:ai) (x y:V) (H:Hp) (Q:VK),Ht false x y->(∀m,Q (.str m) H)->tJ eZ [tC (.str pre),Zdo (mq 1),tC (.str post)] [aa (.ref e),aa x,aa y] H Q:=by
 rintro e x y H Q ⟨a,rfl,ha,hb⟩ q;have e0:eZ.length=0:=rfl;have hs:sizeLine=16777216:=dQ;refine⟨_,rfl,by rw[bS];omega,_,rfl,a,rfl,by omega,_,rfl,by rw[bS,bS];omega,_,rfl,by rw[bS,bS,bS];omega,?_⟩;exact⟨by rw[bS,bS,bS];omega,q _⟩
structure L'(P:aR)(w:bu)(K:aM)(mg:Str->Option af)(base:bN)(k:Nat)(C:ai)(f:Str)(ps:List Str)(fI:ai)(fd:bA):Prop where
 ok:bE P w K mg base (dP P w) k fI fd ps (xJ C f)
 q:pz K C fI=true
 hf:gE K (.ref fI)=true
 hb:mH K fd ps []
structure Ma(P:aR)(w:bu)(K:aM)(mg:Str->Option af)(base:bN)(k:Nat)(C:ai)(f g:Str)(qj:Bool)(ps:List Str)(fI:ai)(fd:bA):Prop where
 ok:bE P w K mg base (dP P w) k fI fd ps (xH C f g qj)
 q:pz K C fI=true
 hf:gE K (.ref fI)=true
 hb:mH K fd ps []
section
variable {X:Cx}{E:XK}{e:bt}{es:List bt}{fr:DA}{pos p:Pos}{P:aR}{w:bu}{K:aM}{mg:Str->Option af}{base:bN}{A:bW}{k:Nat}{x:Str}{ps:List Str}{F:Fn}{f:ai}{fd:bA}
theorem Hz{n:Nat}(G:FnAt P w K mg base k x ps F f fd)(hr:eJ k A)(hg:Gl X x)(hx:oF (dP X.prog X.w) X E)(ha:PA X (e::es) (RA E fr))
  (hP:X.prog=P:=by rfl) (hw:X.w=w:=by rfl) (hK:X.K=K:=by rfl) (xh:X.mg=mg:=by rfl) (hB:X.base=base:=by rfl) (hA:X.A=A:=by rfl)
  (jE:(x==("__debug__" : Str))=false:=by decide) (he:av (e::es) X.env=(false,eval e X.env)::av es X.env:=by rfl) (gF:(bK pos (av es X.env)).any (·.1)=false:=by rfl) (hn:ps.length=n:=by rfl) :
  PE X (.Call (.Name x p) (e::es) [] pos) (RE E (fw (bx n F) [] fr)):=by
 subst hP hw hK xh hB hA hn;exact gH G hr hg hx ha jE he gF
end
theorem gX{P:aR}{w:bu}{K:aM}{mg:Str->Option af}{base:bN}{x qual:Str}{st:bR}{dV:af}{f:ai}{fd:bA}{N ps:List Str}{k:Nat}{d:DS}(F:cO K x qual st dV f fd)(S:gj N ps (d8 st))
  (h:∀(gT:af) (A:bW) (outer:List Env) (s:aj) (H:Hp) (E:XK),eJ k (A.deeper (iH qual (d8 st) s.heap.objs.size f gT))->(A.deeper (iH qual (d8 st) s.heap.objs.size f gT)).units+1<fT->(A.deeper (iH qual (d8 st) s.heap.objs.size f gT)).units+64<fT ->
   k8 (h8 (dP P w) P w K mg base N qual (d8 st) f gT A outer s H E) (oj st) (RS E d)):bE P w K mg base (dP P w) (k+1) f fd ps (fE ps.length (cF N.length d)):=
 Zdd F S λgT A outer s H E hr=>h gT A outer s H E hr (YJ hr) hr.units
noncomputable def pG:DS:=λ_=>M.bad
theorem zu{X:Cx}{E:XK}{sts:List bR}:k8 X sts (RS E pG):=λag s σ H D I h=>by
 obtain⟨_,_,_,_,_,p⟩:=h;exact p.elim
section
variable {X:Cx}{E:XK}{e o:bt}{es:List bt}{fo:DE}{fr:DA}{pos cP:Pos}{P:aR}{w:bu}{K:aM}{mg:Str->Option af}{base:bN}{A:bW}{k n:Nat}{C:ai}{m:Str}{ps:List Str}{F:Fn}{f:ai}{fd:bA}
theorem z7w{pl:Sem Bool}(G:fY P w K mg base k C m ps F f fd)(hr:eJ k A)(hx:oF (dP X.prog X.w) X E)(ho:PE X o (RE E fo))(ha:PA X (e::es) (RA E fr))
  (hP:X.prog=P:=by rfl) (hw:X.w=w:=by rfl) (hK:X.K=K:=by rfl) (xh:X.mg=mg:=by rfl) (hB:X.base=base:=by rfl) (hA:X.A=A:=by rfl)
  (fm:av (e::es) X.env=(false,eval e X.env)::av es X.env:=by rfl) (gF:(bK pos (av es X.env)).any (·.1)=false:=by rfl)
  (ht:eval (.Call (.Attribute o m cP) (e::es) [] pos) X.env=(do
   let ov <- eval o X.env
   jQ cP.atName
   let (f,first) <- jR [ov] (gz ov m pl)
   iU pos f first (bK pos (av (e::es) X.env)) (eT pos (cT [] X.env))):=by rfl) (hn:ps.length=n:=by rfl) :
  PE X (.Call (.Attribute o m cP) (e::es) [] pos) (RE E (jO C m (bx n F) [] fo fr)):=by
 subst hP hw hK xh hB hA hn;exact pF G hr hx ho ha fm gF ht
end
variable {E:XK}{fa:DE}
end MF
namespace MF
open PySem L2
noncomputable def EF(k1 v1 k2 v2 k3 v3:DE):DE:=fun ρ S=>((k1 ρ).bind λa1=>(v1 ρ).bind λb1=>(k2 ρ).bind λa2=>(v2 ρ).bind λb2=>(k3 ρ).bind λa3=>(v3 ρ).bind λb3=>λS'=>match ft a1,ft a2,ft a3,S'[S.length]? with
 |some q1,aa q2,aa q3,aa (.dic [])=>if q1≠q2/\q1≠q3/\q2≠q3 then .ok (.obj S.length) (S'.set S.length (.dic [(q1,b1),(q2,b2),(q3,b3)])) else .bad
 |_,_,_,_=>.bad) (S++[.dic []])
section
variable {X:Cx}{E:XK}{k1 v1 k2 v2 k3 v3:bt}{Mb Mc Md Me Mf Mg:DE}{pos:Pos}
theorem z7x(hk1:PE X k1 (RE E Mb))(hv1:PE X v1 (RE E Mc))(uu:PE X k2 (RE E Md))(hv2:PE X v2 (RE E Me))(EG:PE X k3 (RE E Mf))(hv3:PE X v3 (RE E Mg)):PE X (.Dict [aa k1,aa k2,aa k3] [v1,v2,v3] pos) (RE E (EF Mb Mc Md Me Mf Mg)):=
 iQ (Qq (GG hk1 hv1 (GG uu hv2 (GG EG hv3 Qn))) rfl rfl (by simp) (by simp)) fun σ H Q h p hp=>by
 obtain⟨W,S,ρ,r,env,p0⟩:=h;have lA:W.le (W.add p):=Wd.i7;have rA:=r.lM hp (.dic []) (.dK []) ⟨[],fX,bQ.gb⟩;have p0:bq E W (QV Q) (((Mb ρ).bind λa1=>(Mc ρ).bind λb1=>(Md ρ).bind λa2=>(Me ρ).bind λb2=>(Mf ρ).bind λa3=>(Mg ρ).bind λb3=>λS'=>match ft a1,ft a2,ft a3,S'[S.length]? with
 |some q1,aa q2,aa q3,aa (.dic [])=>if q1≠q2/\q1≠q3/\q2≠q3 then .ok (.obj S.length) (S'.set S.length (.dic [(q1,b1),(q2,b2),(q3,b3)])) else .bad
 |_,_,_,_=>.bad) (S++[.dic []])):=p0
 refine⟨W.add p,_,ρ,rA,env.mono lA,(bq.bind (B_ p0 lA)).imp λt1 W1 S1 H1 l1 r1 p1 x1 d1=>?_⟩;refine⟨W1,S1,ρ,r1,(env.mono lA).mono l1,(bq.bind p1).imp λt2 W2 S2 H2 l2 r2 p2 x2 d2=>?_⟩;refine⟨W2,S2,ρ,r2,((env.mono lA).mono l1).mono l2,(bq.bind p2).imp λt3 W3 S3 H3 l3 r3 p3 x3 d3=>?_⟩;refine⟨W3,S3,ρ,r3,(((env.mono lA).mono l1).mono l2).mono l3,(bq.bind p3).imp λt4 W4 S4 H4 l4 r4 p4 x4 d4=>?_⟩;refine⟨W4,S4,ρ,r4,((((env.mono lA).mono l1).mono l2).mono l3).mono l4,(bq.bind p4).imp λt5 W5 S5 H5 l5 r5 p5 x5 d5=>?_⟩;refine⟨W5,S5,ρ,r5,(((((env.mono lA).mono l1).mono l2).mono l3).mono l4).mono l5,(bq.bind p5).imp λt6 W6 S6 H6 l6 r6 p6 x6 d6=>?_⟩
 split at p6
 case h_2=>exact p6.elim
 case h_1 q1 q2 q3 e1 e2 e3 es=>
  have eN:S.length=W.n:=r.len;have hn:S.length<(W.add p).n:=by rw[eN];exact dE _
  have eμ:W6.μ S.length=p:=by rw[((((l1.trans l2).trans l3).trans l4).trans l5 |>.trans l6).μ _ hn,eN,Wd.i8]
  have u1:=r6.lt es;obtain⟨⟨ks,g1,g2⟩,_⟩:=r6.cell _ _ es;obtain rfl:=qV.mp g2;rw[eμ] at g1;by_cases hd:q1≠q2/\q1≠q3/\q2≠q3
  .rw[if_pos hd] at p6
   refine⟨g1,[(q1,x2),(q2,x4),(q3,x6)],?_,by simp,?_⟩
   .rw[B5 d1 e1,B5 d3 e2,B5 d5 e3];rfl
   .have e2:y' [] [(q1,x2),(q2,x4),(q3,x6)]=[(q1,x2),(q2,x4),(q3,x6)]:=by
     obtain⟨h1,h2,h3⟩:=hd;simp[y',jV,h1,h2,h3,bP h1,bP h2,bP h3]
    rw[e2,<- eμ];exact p6 W6 _ (Wd.le.refl _) (r6.cellSet es _ _ ⟨_,fX,bQ.eB (cz.mono (((l3.trans l4).trans l5).trans l6) _ _ d2) (bQ.eB (cz.mono (l5.trans l6) _ _ d4) (bQ.eB d6 bQ.gb))⟩) _ (nQ.mpr ⟨rfl,u1⟩)
  .rw[if_neg hd] at p6
   exact p6.elim
end
end MF
namespace MF
open PySem L2 PyProof.Rows
noncomputable def A8:List Str->List Str
 |[]=>[]
 |x::xs=>if x∈xs then A8 xs else x::A8 xs
end MF
namespace DN
open PySem L2 MF
noncomputable def e8(c:Cl):List ai:=[c.nameThere,c.noPlace,c.noPiece,c.tooMany,c.noAnswer,c.ring,c.barred,c.deedFault]
noncomputable def Zff(_:Cl):Fn:=λ_=>M.bad
noncomputable def Mh(c:Cl):DS:=(aX (gs (eK (e2 (gI K9) (ah 1) (e1 mZ (ah 0)))) (cq (e2 dN (ah 0) (ah 1))) gU) (cq (eC (.int 0))))
def r8(c:Cl):Fn:=cF 2 (Mh c)
noncomputable def Mi(c:Cl):DE:=(e2 dN (ah 1) (e2 (gI h_) (e2 ic (ah 2) (e2 (gI pA) (eC (.int 5)) (ah 0))) (eC (.int 26))))
noncomputable def Mj(c:Cl):DI:=(AJ (aV (e2 ic (eC (.int 2)) (e2 (gI h_) (ah 0) (eC (.int 11)))) aK))
def Ml(c:Cl):DS:=(aX (cE 1 (eC (.str "abcdefghijklmnopqrstuvwxyz"))) (aX (gs (eK (e2 gG (e2 (gI h_) (ah 0) (eC (.int 3))) (eC (.int 1)))) (cq (e2 dN (ah 1) (e2 (gI h_) (ah 0) (eC (.int 26))))) gU) (cq (kD Hf B9 (eC (.str "")) (aV (jN 1 [1,0] (Mj c) (eE 0) mz (Mi c) fO) aK)))))
def wF(c:Cl):Fn:=cF 2 (Ml c)
def HA(c:Cl):DS:=(aX (gs (eK (e2 (gI GZ) (e2 (gI h_) (ah 0) (eC (.int 4))) (eC (.int 1)))) (cq (eA ir aK)) gU) (aX (gs (eK (e2 gG (e2 (gI h_) (ah 0) (eC (.int 4))) (eC (.int 1)))) (cq (eA ir (aV (fw (bx 1 (wF c)) [] (aV (e2 (gI h_) (e2 (gI lO) (ah 0) (eC (.int 4))) (ah 1)) aK)) (aV (fw (bx 1 (wF c)) [] (aV (e2 (gI h_) (e2 (gI lO) (ah 0) (eC (.int 64))) (ah 1)) aK)) aK)))) gU) (cq (eA ir (aV (fw (bx 1 (wF c)) [] (aV (e2 (gI h_) (e2 (gI lO) (ah 0) (eC (.int 4))) (ah 1)) aK)) aK)))))
def wG(c:Cl):Fn:=cF 2 (HA c)
noncomputable def Tc(c:Cl):DS:=(aX (cE 1 (e2 (gI vv) (e2 (gI h_) (e2 (gI lO) (ah 0) (eC (.int 8))) (eC (.int 2001))) (eC (.int 1000)))) (aX (gs (eK (e2 gG (e2 (gI h_) (e2 (gI lO) (ah 0) (eC (.int 8))) (eC (.int 9))) (eC (.int 4)))) (cE 1 (e2 (gI vv) (e2 (gI h_) (ah 0) (e2 (gI vw) (eC (.int 10)) (eC (.int 25)))) (e2 (gI vw) (eC (.int 10)) (eC (.int 24))))) gU) (aX (gs (eK (e2 gG (e2 (gI h_) (ah 0) (eC (.int 8))) (eC (.int 3)))) (cq (eA gm (aV (eC (.str "say")) (aV (ah 1) aK)))) gU) (aX (gs (eK (e2 gG (e2 (gI h_) (ah 0) (eC (.int 8))) (eC (.int 4)))) (cq (eA gm (aV (eC (.str "none")) aK))) gU) (aX (gs (eK (e2 gG (e2 (gI h_) (ah 0) (eC (.int 8))) (eC (.int 5)))) (cq (eA gm (aV (eC (.str "fail")) (aV (ah 1) aK)))) gU) (cq (eA gm (aV (eC (.str "add")) (aV (ah 1) aK)))))))))
def EH(c:Cl):Fn:=cF 2 (Tc c)
def Mm(c:Cl):DS:=(aX (cE 5 (fw (bx 2 (r8 c)) [] (aV (ah 0) (aV (e2 ic (ah 1) (e2 (gI pA) (eC (.int 3)) (ah 4))) aK)))) (aX (cE 6 (fw (bx 2 (r8 c)) [] (aV (ah 0) (aV (e2 ic (e2 ic (ah 1) (e2 (gI pA) (eC (.int 3)) (ah 4))) (eC (.int 1))) aK)))) (aX (cE 7 (fw (bx 2 (r8 c)) [] (aV (ah 0) (aV (e2 ic (e2 ic (ah 1) (e2 (gI pA) (eC (.int 3)) (ah 4))) (eC (.int 2))) aK)))) (aX (cE 8 (e2 dN (eA ir (aV (eC (.str "hub")) (aV (eC (.str "hub")) (aV (eC (.str "hub")) (aV (eC (.str "side")) aK))))) (e2 (gI h_) (e2 (gI lO) (ah 5) (eC (.int 4096))) (eC (.int 4))))) (aX (cE 9 (eA ir (aV (fw (bx 2 (wG c)) [] (aV (ah 6) (aV (e2 ic (ah 2) (eC (.int 1))) aK))) (aV (fw (bx 2 (wG c)) [] (aV (e2 (gI lO) (ah 6) (eC (.int 7))) (aV (e2 ic (ah 2) (eC (.int 1))) aK))) aK)))) (aX (cE 9 (e2 ic (ah 9) (eA ir (aV (fw (bx 2 (wG c)) [] (aV (ah 7) (aV (e2 ic (ah 2) (eC (.int 1))) aK))) (aV (fw (bx 2 (wG c)) [] (aV (e2 (gI lO) (ah 7) (eC (.int 7))) (aV (e2 ic (ah 2) (eC (.int 1))) aK))) aK))))) (jr (kD kS jG (ah 3) (aV (eA gm (aV (fw (bx 1 (wF c)) [] (aV (ah 4) aK)) (aV (ah 8) (aV (fw (bx 1 (EH c)) [] (aV (ah 5) aK)) (aV (ah 9) (aV (e2 mI (e2 (gI h_) (e2 (gI lO) (ah 5) (eC (.int 64))) (eC (.int 6))) (eC (.int 1))) aK)))))) aK)))))))))
def Mn(c:Cl):DS:=(aX (cE 3 (eA iR aK)) (aX (eX (AJ (aV (ah 2) aK)) (eE 4) (Mm c)) (cq (ah 3))))
def HC(c:Cl):Fn:=j4 (cF 10 (Mn c))
noncomputable def HD(c:Cl):DE:=(eA gm (aV (e2 dN (ah 0) (eC (.int 0))) (aV (e2 dN (ah 0) (eC (.int 1))) (aV (e2 dN (ah 0) (eC (.int 2))) (aV (eA ir (aV (eA ir aK) (aV (eA ir aK) (aV (e2 dN (e2 dN (ah 0) (eC (.int 3))) (eC (.int 2))) (aV (e2 dN (e2 dN (ah 0) (eC (.int 3))) (eC (.int 3))) aK))))) (aV (e2 dN (ah 0) (eC (.int 4))) aK))))))
noncomputable def HE(c:Cl):DI:=(iL (ah 1))
def Mo(c:Cl):DS:=(aX (cE 1 (fw (bx 3 (HC c)) [] (aV (ah 0) (aV (eC (.int 3)) (aV (e2 (gI h_) (fw (bx 2 (r8 c)) [] (aV (ah 0) (aV (eC (.int 0)) aK))) (eC (.int 11))) aK))))) (aX (gs (eK (e2 (gI GZ) (e2 (gI h_) (e2 (gI lO) (fw (bx 2 (r8 c)) [] (aV (ah 0) (aV (eC (.int 1)) aK))) (eC (.int 8))) (eC (.int 3))) (eC (.int 0)))) (cE 1 (jN 1 [] (HE c) (eE 0) mz (HD c) fO)) gU) (cq (ah 1))))
def A9(c:Cl):Fn:=cF 2 (Mo c)
noncomputable def Td(c:Cl):DS:=(aX (lR c.hall "places" (ah 0) B6) (lR c.hall "pieces" (ah 0) B6))
def EI(c:Cl):Fn:=cF 1 (Td c)
noncomputable def Te(c:Cl):DS:=(aX (lR c.place "kind" (ah 0) (ah 1)) (lR c.place "rule" (ah 0) (ah 2)))
def EJ(c:Cl):Fn:=cF 3 (Te c)
noncomputable def Tf(c:Cl):DS:=(aX (gs (eK (e2 jY (ah 1) (e1 (dD c.hall "places") (ah 0)))) pG gU) (aX (gs (eK (e2 (gI G_) (e1 zo (e1 (dD c.hall "places") (ah 0))) (eC (.int 8)))) pG gU) (xA (e1 (dD c.hall "places") (ah 0)) (ah 1) (zq c.place (bx 3 (EJ c)) [] (aV (ah 2) (aV (ah 3) aK))))))
def Ce(c:Cl):Fn:=cF 4 (Tf c)
noncomputable def Tg(c:Cl):DS:=(aX (gs (eK (e2 vA (ah 1) (e1 (dD c.hall "places") (ah 0)))) pG gU) (cq (e2 i9 (e1 (dD c.hall "places") (ah 0)) (ah 1))))
def xK(c:Cl):Fn:=cF 2 (Tg c)
noncomputable def Ti(c:Cl):DS:=(aX (lR c.piece "place" (ah 0) (ah 1)) (aX (lR c.piece "deed" (ah 0) (ah 2)) (aX (lR c.piece "by" (ah 0) (ah 3)) (aX (lR c.piece "on" (ah 0) (eC (.bl true))) (aX (lR c.piece "ahead" (ah 0) (eA iR aK)) (aX (lR c.piece "behind" (ah 0) (eA iR aK)) (aX (lR c.piece "needs" (ah 0) (eA iR aK)) (lR c.piece "bars" (ah 0) (eA iR aK)))))))))
def Cf(c:Cl):Fn:=cF 4 (Ti c)
noncomputable def Tj(c:Cl):DS:=(aX (gs (eK (e2 jY (ah 1) (e1 (dD c.hall "pieces") (ah 0)))) pG gU) (aX (jr (jO c.hall "find_place" (bx 2 (xK c)) [] (ah 0) (aV (ah 2) aK))) (aX (gs (eK (e2 zk (ah 4) (eC .bH))) pG gU) (aX (gs (eK (e2 (gI G_) (e1 zo (e1 (dD c.hall "pieces") (ah 0))) (eC (.int 24)))) pG gU) (xA (e1 (dD c.hall "pieces") (ah 0)) (ah 1) (zq c.piece (bx 4 (Cf c)) [] (aV (ah 2) (aV (ah 3) (aV (ah 4) aK)))))))))
def EK(c:Cl):Fn:=cF 5 (Tj c)
noncomputable def Tn(c:Cl):DS:=(aX (gs (eK (e2 vA (ah 1) (e1 (dD c.hall "pieces") (ah 0)))) pG gU) (cq (e2 i9 (e1 (dD c.hall "pieces") (ah 0)) (ah 1))))
def vL(c:Cl):Fn:=cF 2 (Tn c)
noncomputable def Mp(c:Cl):DS:=(cq (Li (eK (e2 tS (ah 0) (eC .bH))) (eA ir aK) (e1 vB (ah 0))))
def sR(c:Cl):Fn:=cF 1 (Mp c)
noncomputable def To(c:Cl):DS:=(aX (cE 6 (jO c.hall "find_piece" (bx 2 (vL c)) [] (ah 0) (aV (ah 1) aK))) (aX (jr (kD kS mx (e1 (dD c.piece "ahead") (ah 6)) (aV (fw (bx 1 (sR c)) [] (aV (ah 2) aK)) aK))) (aX (jr (kD kS mx (e1 (dD c.piece "behind") (ah 6)) (aV (fw (bx 1 (sR c)) [] (aV (ah 3) aK)) aK))) (aX (jr (kD kS mx (e1 (dD c.piece "needs") (ah 6)) (aV (fw (bx 1 (sR c)) [] (aV (ah 4) aK)) aK))) (jr (kD kS mx (e1 (dD c.piece "bars") (ah 6)) (aV (fw (bx 1 (sR c)) [] (aV (ah 5) aK)) aK)))))))
def EL(c:Cl):Fn:=cF 7 (To c)
noncomputable def Tp(c:Cl):DS:=(aX (cE 3 (jO c.hall "find_piece" (bx 2 (vL c)) [] (ah 0) (aV (ah 1) aK))) (lR c.piece "on" (ah 3) (ah 2)))
def EM(c:Cl):Fn:=cF 4 (Tp c)
noncomputable def Mq(c:Cl):DS:=(jr (jO c.hall "hang" (bx 5 (EK c)) [.bH] (ah 3) (aV (e2 dN (ah 4) (eC (.int 0))) (aV (e2 dN (ah 4) (eC (.int 1))) (aV (e2 dN (ah 4) (eC (.int 2))) aK)))))
noncomputable def HF(c:Cl):DS:=(aX (jr (jO c.hall "wish" (bx 6 (EL c)) [] (ah 3) (aV (e2 dN (ah 4) (eC (.int 0))) (aV (e2 dN (e2 dN (ah 4) (eC (.int 3))) (eC (.int 0))) (aV (e1 He (e2 dN (e2 dN (ah 4) (eC (.int 3))) (eC (.int 1)))) (aV (e2 dN (e2 dN (ah 4) (eC (.int 3))) (eC (.int 2))) (aV (e2 dN (e2 dN (ah 4) (eC (.int 3))) (eC (.int 3))) aK))))))) (gs (zi (qX (e2 dN (ah 4) (eC (.int 4))))) (jr (jO c.hall "switch" (bx 3 (EM c)) [] (ah 3) (aV (e2 dN (ah 4) (eC (.int 0))) (aV (eC (.bl false)) aK)))) gU))
def Tq(c:Cl):DS:=(aX (cE 3 (zq c.hall (bx 1 (EI c)) [] aK)) (aX (jr (jO c.hall "open_place" (bx 4 (Ce c)) [] (ah 3) (aV (eC (.str "hub")) (aV (ah 1) (aV (ah 2) aK))))) (aX (jr (jO c.hall "open_place" (bx 4 (Ce c)) [] (ah 3) (aV (eC (.str "side")) (aV (eC (.str "all")) (aV (eC (.str "hold")) aK))))) (aX (eX (iL (ah 0)) (eE 4) (Mq c)) (aX (eX (iL (ah 0)) (eE 4) (HF c)) (cq (ah 3)))))))
def Cg(c:Cl):Fn:=cF 5 (Tq c)
noncomputable def HG(c:Cl):DE:=(e2 dN (ah 0) (eC (.int 0)))
noncomputable def HH(c:Cl):DI:=(iL (ah 0))
noncomputable def EN(c:Cl):DT:=(xu (eK (e2 gG (e2 dN (ah 0) (eC (.int 1))) (eC (.str "hub")))) (qX (e2 dN (ah 0) (eC (.int 4)))))
def Tr(c:Cl):DS:=(cq (jN 1 [] (HH c) (eE 0) (EN c) (HG c) fO))
def Ci(c:Cl):Fn:=cF 1 (Tr c)
noncomputable def A_(c:Cl):DS:=(gs (xu (eK (e2 gG (e2 dN (ah 3) (eC (.int 1))) (ah 0))) (eK (e2 uw (e2 dN (ah 3) (eC (.int 0))) (ah 1)))) (cq (eC (.bl false))) gU)
def Mr(c:Cl):DS:=(aX (eX (iL (ah 2)) (eE 3) (A_ c)) (cq (eC (.bl true))))
def Cj(c:Cl):Fn:=cF 4 (Mr c)
noncomputable def HI(c:Cl):DE:=(ah 0)
noncomputable def HJ(c:Cl):DI:=(iL (ah 2))
def HK(c:Cl):DT:=(qX (fw (bx 3 (Cj c)) [] (aV (ah 0) (aV (ah 1) (aV (ah 2) aK)))))
def t9(c:Cl):DS:=(aX (cE 4 (jN 1 [2,1] (HJ c) (eE 0) (HK c) (HI c) fO)) (aX (gs (eK (e2 gG (ah 4) (eA ir aK))) (cq (eC .bH)) gU) (aX (jr (kD kS jG (ah 3) (aV (e2 dN (ah 4) (eC (.int 0))) aK))) (jr (kD kS AO (ah 2) (aV (e2 dN (ah 4) (eC (.int 0))) aK))))))
noncomputable def uC(c:Cl):DT:=(eK (e2 mI (ah 2) (eA ir aK)))
def EO(c:Cl):DS:=(aX (cE 2 (e1 wD (ah 0))) (aX (cE 3 (eA iR aK)) (aX (uy (uC c) (t9 c)) (cq (ah 3)))))
def Ba(c:Cl):Fn:=j4 (cF 5 (EO c))
noncomputable def Ms(c:Cl):DE:=(eA gm (aV (e2 dN (ah 1) (eC (.int 0))) (aV (ah 0) aK)))
noncomputable def Mt(c:Cl):DI:=(iL (e2 dN (e2 dN (ah 3) (eC (.int 3))) (eC (.int 0))))
noncomputable def Mu(c:Cl):DT:=(eK (e2 uw (ah 0) (ah 2)))
noncomputable def Mv(c:Cl):DE:=(eA gm (aV (ah 0) (aV (e2 dN (ah 1) (eC (.int 0))) aK)))
noncomputable def Mw(c:Cl):DI:=(iL (e2 dN (e2 dN (ah 3) (eC (.int 3))) (eC (.int 1))))
noncomputable def Mx(c:Cl):DT:=(eK (e2 uw (ah 0) (ah 2)))
def HL(c:Cl):DS:=(gs (eK (e2 uw (e2 dN (ah 3) (eC (.int 0))) (ah 1))) (aX (jr (kD kS mx (ah 2) (aV (jN 1 [3,1] (Mt c) (eE 0) (Mu c) (Ms c) fO) aK))) (jr (kD kS mx (ah 2) (aV (jN 1 [3,1] (Mw c) (eE 0) (Mx c) (Mv c) fO) aK)))) gU)
def My(c:Cl):DS:=(aX (cE 2 (eA iR aK)) (aX (eX (iL (ah 0)) (eE 3) (HL c)) (cq (ah 2))))
def Bb(c:Cl):Fn:=j4 (cF 4 (My c))
noncomputable def Ts(c:Cl):DS:=(cq (AF (e1 (dD c.run "deeds") (ah 0))))
def wH(c:Cl):Fn:=cF 1 (Ts c)
noncomputable def Tt(c:Cl):DS:=(jr (kD kS Em (e1 (dD c.run "deeds") (ah 0)) aK))
def xM(c:Cl):Fn:=cF 1 (Tt c)
noncomputable def Mz(c:Cl):DS:=(aX (gs (eK (e2 gG (e1 (dD c.run "rule") (ah 0)) (eC (.str "hand")))) (aX (lR c.run "broken" (ah 0) (eC (.bl true))) (aX (jr (jO c.run "leave_the_rest" (bx 1 (xM c)) [] (ah 0) aK)) (L1 c.deedFault "piece" "code" false (aV (ah 1) (aV (ah 2) aK))))) gU) (jr (kD kS jG (e1 (dD c.run "held") (ah 0)) (aV (eA gm (aV (ah 1) (aV (ah 2) aK))) aK))))
def Bc(c:Cl):Fn:=cF 3 (Mz c)
noncomputable def Tu(c:Cl):DS:=(aX (gs (eK (e2 gG (e2 dN (ah 0) (eC (.int 0))) (eC (.str "add")))) (cq (e2 ic (ah 1) (e2 dN (ah 0) (eC (.int 1))))) gU) (aX (gs (eK (e2 gG (e2 dN (ah 0) (eC (.int 0))) (eC (.str "say")))) (cq (e2 dN (ah 0) (eC (.int 1)))) gU) (cq (eC .bH))))
def uD(c:Cl):Fn:=cF 2 (Tu c)
noncomputable def ER(c:Cl):DS:=(gs (eK (e2 gG (e2 dN (ah 1) (eC (.int 0))) (eC (.str "add")))) (aX (jr (kD kS jG (e1 (dD c.run "around") (ah 0)) (aV (e2 dN (ah 1) (eC (.int 1))) aK))) (lR c.run "number" (ah 0) (fw (bx 2 (uD c)) [] (aV (ah 1) (aV (e1 (dD c.run "number") (ah 0)) aK))))) (gs (eK (e2 gG (e2 dN (ah 1) (eC (.int 0))) (eC (.str "say")))) (aX (lR c.run "number" (ah 0) (fw (bx 2 (uD c)) [] (aV (ah 1) (aV (e1 (dD c.run "number") (ah 0)) aK)))) (jr (jO c.run "leave_the_rest" (bx 1 (xM c)) [] (ah 0) aK))) gU))
def zv(c:Cl):Fn:=cF 2 (ER c)
noncomputable def MA(c:Cl):DS:=(gs (eK (e2 gG (e1 (dD c.run "kind") (ah 0)) (eC (.str "first")))) (aX (lR c.run "found" (ah 0) (ah 1)) (jr (jO c.run "leave_the_rest" (bx 1 (xM c)) [] (ah 0) aK))) (lR c.run "number" (ah 0) (ah 1)))
def Ck(c:Cl):Fn:=cF 2 (MA c)
noncomputable def Bd(c:Cl):DS:=(gs (eK (e2 gG (e2 dN (ah 2) (eC (.int 0))) (eC (.str "fail")))) (jr (jO c.run "fall" (bx 3 (Bc c)) [] (ah 0) (aV (ah 1) (aV (e2 dN (ah 2) (eC (.int 1))) aK)))) (gs (eK (e2 gG (e1 (dD c.run "kind") (ah 0)) (eC (.str "all")))) (jr (kD kS jG (e1 (dD c.run "pairs") (ah 0)) (aV (eA gm (aV (ah 1) (aV (fw (bx 2 (uD c)) [] (aV (ah 2) (aV (e1 (dD c.run "number") (ah 0)) aK))) aK))) aK))) (gs (eK (e2 gG (e1 (dD c.run "kind") (ah 0)) (eC (.str "round")))) (jr (jO c.run "go_within" (bx 2 (zv c)) [] (ah 0) (aV (ah 2) aK))) (gs (eK (e2 mI (e2 dN (ah 2) (eC (.int 0))) (eC (.str "none")))) (jr (jO c.run "hear" (bx 2 (Ck c)) [] (ah 0) (aV (fw (bx 2 (uD c)) [] (aV (ah 2) (aV (e1 (dD c.run "number") (ah 0)) aK))) aK))) gU))))
def uE(c:Cl):Fn:=cF 3 (Bd c)
noncomputable def MB(c:Cl):DS:=(aX (gs (qX (jO c.run "over" (bx 1 (wH c)) [] (ah 0) aK)) (cq (eC .bH)) gU) (aX (cE 1 (kD kS B8 (e1 (dD c.run "deeds") (ah 0)) (aV (eC (.int 0)) aK))) (aX (jr (jO c.run "perform" (bx 3 (uE c)) [] (ah 0) (aV (e2 dN (ah 1) (eC (.int 0))) (aV (e2 dN (ah 1) (eC (.int 1))) aK)))) (cq (e2 dN (ah 1) (eC (.int 0)))))))
def Be(c:Cl):Fn:=cF 2 (MB c)
noncomputable def Tv(c:Cl):DS:=(cq (e1 vB (e1 (dD c.run "held") (ah 0))))
def ES(c:Cl):Fn:=cF 1 (Tv c)
noncomputable def HM(c:Cl):DS:=(cE 2 (e2 ic (e2 (gI pA) (ah 2) (eC (.int 10))) (ah 3)))
def Tw(c:Cl):DS:=(aX (cE 2 (ah 0)) (aX (eX (xD (aV (ah 1) aK)) (eE 3) (HM c)) (cq (ah 2))))
def ET(c:Cl):Fn:=cF 4 (Tw c)
def Tz(c:Cl):DS:=(aX (gs (vz (qX (e1 (dD c.run "broken") (ah 0))) (zi (qX (jO c.run "over" (bx 1 (wH c)) [] (ah 0) aK)))) pG gU) (aX (gs (eK (e2 gG (e1 (dD c.run "kind") (ah 0)) (eC (.str "all")))) (cq (e1 vB (e1 (dD c.run "pairs") (ah 0)))) gU) (aX (gs (eK (e2 gG (e1 (dD c.run "kind") (ah 0)) (eC (.str "first")))) (cq (e1 (dD c.run "found") (ah 0))) gU) (aX (gs (eK (e2 gG (e1 (dD c.run "kind") (ah 0)) (eC (.str "chain")))) (cq (e1 (dD c.run "number") (ah 0))) gU) (cq (fw (bx 2 (ET c)) [] (aV (e1 (dD c.run "number") (ah 0)) (aV (e1 (dD c.run "around") (ah 0)) aK))))))))
def EU(c:Cl):Fn:=cF 1 (Tz c)
noncomputable def zw(c:Cl):DS:=(jr (jO c.run "step" (bx 1 (Be c)) [] (ah 0) aK))
noncomputable def xN(c:Cl):DT:=(zi (qX (jO c.run "over" (bx 1 (wH c)) [] (ah 0) aK)))
def MC(c:Cl):DS:=(aX (uy (xN c) (zw c)) (cq (eA gm (aV (jO c.run "answer" (bx 1 (EU c)) [] (ah 0) aK) (aV (jO c.run "faults" (bx 1 (ES c)) [] (ah 0) aK) aK)))))
def vM(c:Cl):Fn:=cF 1 (MC c)
def HQ(c:Cl):DS:=(cE 1 (fw (bx 1 (vM c)) [] (aV (ah 0) aK)))
noncomputable def MD(c:Cl):DS:=(cq (eA gm (aV (eC (.str "fault")) (aV (eA gm (aV (e1 (vI c.deedFault "piece") (ah 2)) (aV (e1 (vI c.deedFault "code") (ah 2)) aK))) aK))))
def ME(c:Cl):DS:=(aX (tX (HQ c) [1] (xG (qM [c.ring,c.deedFault] c.deedFault) 2 (MD c) LZ)) (cq (eA gm (aV (eC (.str "answer")) (aV (ah 1) aK)))))
def Bf(c:Cl):Fn:=cF 3 (ME c)
noncomputable def Cm(c:Cl):DS:=(xA (ah 2) (ah 3) B6)
noncomputable def Bg(c:Cl):DS:=(gs (eK (e2 jY (ah 5) (ah 2))) (xA (e2 i9 (ah 2) (ah 3)) (ah 5) (eC (.bl true))) gU)
noncomputable def Bh(c:Cl):DS:=(gs (eK (e2 jY (ah 5) (ah 2))) (xA (e2 i9 (ah 2) (ah 5)) (ah 3) (eC (.bl true))) gU)
def Cn(c:Cl):DS:=(aX (cE 4 (jO c.hall "find_piece" (bx 2 (vL c)) [] (ah 0) (aV (ah 3) aK))) (aX (eX (iL (e1 (dD c.piece "ahead") (ah 4))) (eE 5) (Bg c)) (eX (iL (e1 (dD c.piece "behind") (ah 4))) (eE 5) (Bh c))))
def MG(c:Cl):DS:=(aX (cE 2 B6) (aX (eX (iL (ah 1)) (eE 3) (Cm c)) (aX (eX (iL (ah 1)) (eE 3) (Cn c)) (cq (ah 2)))))
def EV(c:Cl):Fn:=j4 (cF 6 (MG c))
noncomputable def HR(c:Cl):DE:=(e2 jY (ah 1) (e2 i9 (ah 2) (ah 0)))
noncomputable def HU(c:Cl):DI:=(iL (ah 1))
def Co(c:Cl):DS:=(gs (zi (qX (e1 tZ (jN 1 [2,0] (HU c) (eE 0) mz (HR c) fO)))) (cq (ah 2)) gU)
def MH(c:Cl):DS:=(aX (eX (iL (ah 1)) (eE 2) (Co c)) (cq (eC .bH)))
def Cp(c:Cl):Fn:=cF 3 (MH c)
noncomputable def t_(c:Cl):DS:=(aX (gs (eK (e2 gG (ah 6) (ah 1))) (cq (ah 5)) gU) (gs (eK (e2 vA (ah 6) (ah 3))) (aX (xA (ah 3) (ah 6) (eC (.bl true))) (jr (kD kS jG (ah 4) (aV (e2 ic (ah 5) (eA ir (aV (ah 6) aK))) aK)))) gU))
def uF(c:Cl):DS:=(eX (iK (e2 i9 (ah 0) (e2 dN (ah 5) (e1 t8 (eC (.int 1)))))) (eE 6) (t_ c))
def uG(c:Cl):DS:=(aX (cE 4 (eA iR aK)) (aX (eX (iL (ah 2)) (eE 5) (uF c)) (cE 2 (ah 4))))
noncomputable def vN(c:Cl):DT:=(qX (ah 2))
def HV(c:Cl):DS:=(aX (cE 2 (eA ir (aV (eA ir (aV (ah 1) aK)) aK))) (aX (cE 3 (Hw (ah 1) (eC (.bl true)))) (aX (uy (vN c) (uG c)) (cq (eA ir aK)))))
def HW(c:Cl):Fn:=j4 (cF 7 (HV c))
def HX(c:Cl):DE:=(fw (bx 2 (HW c)) [] (aV (ah 1) (aV (ah 0) aK)))
noncomputable def EW(c:Cl):DI:=(iK (ah 0))
noncomputable def MI(c:Cl):DE:=(ah 0)
noncomputable def MJ(c:Cl):DI:=(iL (ah 1))
noncomputable def MK(c:Cl):DT:=(qX (ah 0))
def TB(c:Cl):DS:=(aX (cE 1 (jN 1 [0] (EW c) (eE 0) mz (HX c) fO)) (cq (e1 vJ (jN 1 [] (MJ c) (eE 0) (MK c) (MI c) fO))))
def EX(c:Cl):Fn:=cF 2 (TB c)
def uc(c:Cl):DS:=(aX (cE 5 (fw (bx 2 (Cp c)) [] (aV (ah 2) (aV (ah 3) aK)))) (aX (gs (eK (e2 tS (ah 5) (eC .bH))) (L7 c.ring "ring" (aV (fw (bx 1 (EX c)) [] (aV (ah 2) aK)) aK)) gU) (aX (jr (kD kS AO (ah 3) (aV (ah 5) aK))) (jr (kD kS jG (ah 4) (aV (ah 5) aK))))))
noncomputable def uH(c:Cl):DT:=(qX (ah 3))
def ML(c:Cl):DS:=(aX (cE 2 (fw (bx 2 (EV c)) [] (aV (ah 0) (aV (ah 1) aK)))) (aX (cE 3 (e1 wD (ah 1))) (aX (cE 4 (eA iR aK)) (aX (uy (uH c) (uc c)) (cq (ah 4))))))
def wI(c:Cl):Fn:=cF 6 (ML c)
noncomputable def TC(c:Cl):DS:=(aX (lR c.run "kind" (ah 0) (ah 1)) (aX (lR c.run "rule" (ah 0) (ah 2)) (aX (lR c.run "number" (ah 0) (ah 3)) (aX (lR c.run "deeds" (ah 0) (e1 wD (ah 4))) (aX (lR c.run "held" (ah 0) (eA iR aK)) (aX (lR c.run "broken" (ah 0) (eC (.bl false))) (aX (lR c.run "pairs" (ah 0) (eA iR aK)) (aX (lR c.run "found" (ah 0) (eC .bH)) (lR c.run "around" (ah 0) (eA iR aK))))))))))
def EY(c:Cl):Fn:=cF 5 (TC c)
noncomputable def MM(c:Cl):DE:=(eA gm (aV (ah 0) (aV (e1 (dD c.piece "deed") (jO c.hall "find_piece" (bx 2 (vL c)) [] (ah 1) (aV (ah 0) aK))) aK)))
def EZ(c:Cl):DI:=(iL (fw (bx 2 (wI c)) [] (aV (ah 0) (aV (ah 2) aK))))
def MN(c:Cl):DS:=(aX (cE 4 (jO c.hall "find_place" (bx 2 (xK c)) [] (ah 0) (aV (ah 1) aK))) (aX (cE 5 (jN 1 [0] (EZ c) (eE 0) mz (MM c) fO)) (cq (zq c.run (bx 5 (EY c)) [] (aV (e1 (dD c.place "kind") (ah 4)) (aV (e1 (dD c.place "rule") (ah 4)) (aV (ah 3) (aV (ah 5) aK))))))))
def vO(c:Cl):Fn:=cF 6 (MN c)
noncomputable def Cq(c:Cl):DE:=(ah 0)
noncomputable def HY(c:Cl):DE:=(e1 (dD c.hall "pieces") (ah 0))
noncomputable def zx(c:Cl):DT:=(xu (eK (e2 gG (e1 (dD c.piece "place") (ah 1)) (ah 2))) (qX (e1 (dD c.piece "on") (ah 1))))
def TF(c:Cl):DS:=(aX (jr (jO c.hall "find_place" (bx 2 (xK c)) [] (ah 0) (aV (ah 1) aK))) (cq (EA tY 2 [1] (HY c) (sP 0 1) (zx c) (Cq c) fO)))
def q0(c:Cl):Fn:=cF 2 (TF c)
def MO(c:Cl):DS:=(cq (fw (bx 4 (vO c)) [] (aV (ah 0) (aV (ah 1) (aV (jO c.hall "at" (bx 2 (q0 c)) [] (ah 0) (aV (ah 1) aK)) (aV (ah 2) aK))))))
def Bi(c:Cl):Fn:=cF 3 (MO c)
def MP(c:Cl):DS:=(cq (fw (bx 2 (wI c)) [] (aV (ah 0) (aV (jO c.hall "at" (bx 2 (q0 c)) [] (ah 0) (aV (ah 1) aK)) aK))))
def Bj(c:Cl):Fn:=cF 2 (MP c)
noncomputable def HZ(c:Cl):DE:=(ah 0)
def E6(c:Cl):DI:=(iL (jO c.hall "at" (bx 2 (q0 c)) [] (ah 0) (aV (ah 1) aK)))
noncomputable def H_(c:Cl):DT:=(eK (e2 mI (ah 0) (ah 1)))
def TH(c:Cl):DS:=(aX (cE 4 (jN 1 [2] (E6 c) (eE 0) (H_ c) (HZ c) fO)) (cq (fw (bx 4 (vO c)) [] (aV (ah 0) (aV (ah 1) (aV (ah 4) (aV (ah 3) aK)))))))
def E7(c:Cl):Fn:=cF 5 (TH c)
noncomputable def MQ(c:Cl):DE:=(ah 0)
def MR(c:Cl):DI:=(iL (fw (bx 2 (Bj c)) [] (aV (ah 0) (aV (ah 1) aK))))
def Ia(c:Cl):DT:=(eK (e2 mI (fw (bx 1 (Bf c)) [] (aV (fw (bx 4 (E7 c)) [] (aV (ah 2) (aV (ah 3) (aV (ah 0) (aV (ah 4) aK))))) aK)) (ah 1)))
def MS(c:Cl):DS:=(aX (cE 3 (fw (bx 1 (Bf c)) [] (aV (fw (bx 3 (Bi c)) [] (aV (ah 0) (aV (ah 1) (aV (ah 2) aK)))) aK))) (cq (jN 1 [3,0,1,2] (MR c) (eE 0) (Ia c) (MQ c) fO)))
def xO(c:Cl):Fn:=cF 4 (MS c)
def Ib(c:Cl):DS:=(cE 2 (fw (bx 3 (xO c)) [] (aV (ah 0) (aV (eC (.str "hub")) (aV (ah 1) aK)))))
noncomputable def TJ(c:Cl):DS:=(cE 2 (eA gm (aV (eC (.str "ring")) aK)))
def MT(c:Cl):DS:=(aX (cE 2 (eC .bH)) (aX (tX (Ib c) [2] (Hs (qM [c.ring,c.deedFault] c.ring) (TJ c) LZ)) (cq (ah 2))))
def Cr(c:Cl):Fn:=cF 3 (MT c)
noncomputable def xP(Rc:Fn)(c:Cl):DS:=(aX (gs (eK (e2 gG (ah 0) (eA ir aK))) (cq (ah 1)) gU) (aX (cE 3 (e2 dN (e2 dN (ah 0) (eC (.int 0))) (eC (.int 1)))) (aX (gs (eK (e2 gG (e2 dN (ah 3) (eC (.int 0))) (eC (.str "say")))) (cq (e2 dN (ah 3) (eC (.int 1)))) gU) (aX (gs (eK (e2 gG (e2 dN (ah 3) (eC (.int 0))) (eC (.str "add")))) (cq (e2 ic (e2 (gI pA) (eC (.int 10)) (fw (bx 3 Rc) [] (aV (uB (ah 0) (uA (eC (.int 1))) uz) (aV (e2 ic (ah 1) (e2 dN (ah 3) (eC (.int 1)))) (aV (ah 2) aK))))) (e2 dN (ah 3) (eC (.int 1))))) gU) (aX (gs (eK (e2 gG (e2 dN (ah 3) (eC (.int 0))) (eC (.str "fail")))) (jr (kD kS jG (ah 2) (aV (eA gm (aV (e2 dN (e2 dN (ah 0) (eC (.int 0))) (eC (.int 0))) (aV (e2 dN (ah 3) (eC (.int 1))) aK))) aK))) gU) (cq (fw (bx 3 Rc) [] (aV (uB (ah 0) (uA (eC (.int 1))) uz) (aV (ah 1) (aV (ah 2) aK))))))))))
noncomputable def Cs(c:Cl):Nat->Fn
 |0=>λ_=>M.bad
 |n+1=>cF 4 (xP (Cs c n) c)
def E8(c:Cl):Fn:=Cs c 24
noncomputable def qk(c:Cl):DS:=(aX (cE 7 (fw (bx 2 (uD c)) [] (aV (ah 6) (aV (ah 2) aK)))) (gs (eK (e2 gG (e2 dN (ah 6) (eC (.int 0))) (eC (.str "fail")))) (jr (kD kS jG (ah 3) (aV (eA gm (aV (ah 5) (aV (e2 dN (ah 6) (eC (.int 1))) aK))) aK))) (gs (xu (eK (e2 gG (ah 0) (eC (.str "first")))) (eK (e2 zk (ah 7) (eC .bH)))) (cq (ah 7)) (gs (eK (e2 gG (ah 0) (eC (.str "all")))) (jr (kD kS jG (ah 4) (aV (eA gm (aV (ah 5) (aV (ah 7) aK))) aK))) (gs (xu (eK (e2 gG (ah 0) (eC (.str "chain")))) (eK (e2 zk (ah 7) (eC .bH)))) (cE 2 (ah 7)) gU)))))
def Ie(c:Cl):DS:=(aX (gs (eK (e2 gG (ah 0) (eC (.str "round")))) (cq (fw (bx 3 (E8 c)) [] (aV (ah 1) (aV (ah 2) (aV (ah 3) aK))))) gU) (aX (cE 4 (eA iR aK)) (aX (eX (iL (ah 1)) (sP 5 6) (qk c)) (cq (e2 i9 (EF (eC (.str "all")) (ah 4) (eC (.str "first")) (eC .bH) (eC (.str "chain")) (ah 2)) (ah 0))))))
def xQ(c:Cl):Fn:=cF 8 (Ie c)
def E9(c:Cl):DS:=(aX (cE 4 (eA iR aK)) (aX (cE 5 (fw (bx 4 (xQ c)) [] (aV (ah 0) (aV (ah 2) (aV (ah 3) (aV (ah 4) aK)))))) (aX (gs (xu (eK (e2 gG (ah 1) (eC (.str "hand")))) (eK (e2 mI (ah 4) (eA ir aK)))) (cq (eA gm (aV (eC (.str "fault")) (aV (e2 dN (ah 4) (eC (.int 0))) aK)))) gU) (cq (eA gm (aV (eC (.str "told")) (aV (eA gm (aV (ah 5) (aV (ah 4) aK))) aK)))))))
def Ct(c:Cl):Fn:=j4 (cF 6 (E9 c))
noncomputable def MU(c:Cl):DE:=(eA gm (aV (ah 1) (aV (e2 dN (ah 0) (eC (.int 2))) aK)))
noncomputable def MV(c:Cl):DI:=(iL (ah 0))
noncomputable def MW(c:Cl):DT:=(eK (e2 gG (e2 dN (ah 0) (eC (.int 0))) (ah 1)))
def Ig(c:Cl):DS:=(jr (kD kS mx (ah 6) (aV (jN 1 [7] (MV c) (eE 0) (MW c) (MU c) fO) aK)))
def TK(c:Cl):DS:=(aX (cE 5 (fw (bx 2 (Ba c)) [] (aV (ah 1) (aV (fw (bx 2 (Bb c)) [] (aV (ah 0) (aV (ah 1) aK))) aK)))) (aX (cE 6 (eA iR aK)) (aX (eX (iL (ah 5)) (eE 7) (Ig c)) (cq (fw (bx 4 (Ct c)) [] (aV (ah 2) (aV (ah 3) (aV (ah 6) (aV (ah 4) aK)))))))))
def xR(c:Cl):Fn:=j4 (cF 8 (TK c))
noncomputable def MX(c:Cl):DS:=(gs (vz (zi (qX (e1 (tU .str) (e2 dN (ah 0) (ah 2))))) (eK (e2 mI (e2 dN (ah 0) (ah 2)) (e2 dN (ah 1) (ah 2))))) (cq (eC (.bl false))) gU)
def TL(c:Cl):DS:=(aX (gs (vz (zi (qX (e1 (tU .list) (ah 0)))) (eK (e2 mI (e1 mZ (ah 0)) (e1 mZ (ah 1))))) (cq (eC (.bl false))) gU) (aX (eX (AJ (aV (e1 mZ (ah 1)) aK)) (eE 2) (MX c)) (cq (eC (.bl true)))))
def xS(c:Cl):Fn:=cF 3 (TL c)
noncomputable def Ih(c:Cl):DE:=(ah 0)
noncomputable def Ii(c:Cl):DI:=(iL (ah 6))
noncomputable def Ij(c:Cl):DT:=(eK (e2 mI (ah 0) (ah 1)))
def E_(c:Cl):DS:=(aX (cE 12 (jN 1 [11] (Ii c) (eE 0) (Ij c) (Ih c) fO)) (gs (eK (e2 mI (fw (bx 5 (xR c)) [] (aV (ah 1) (aV (ah 12) (aV (ah 2) (aV (ah 3) (aV (ah 4) aK)))))) (ah 9))) (jr (kD kS jG (ah 10) (aV (ah 11) aK))) gU))
def TM(c:Cl):DS:=(aX (cE 1 (uB (fw (bx 1 (A9 c)) [] (aV (ah 0) aK)) uz (uA (eC (.int 8))))) (aX (cE 2 (e2 dN (eA ir (aV (eC (.str "all")) (aV (eC (.str "first")) (aV (eC (.str "chain")) (aV (eC (.str "round")) aK))))) (e2 (gI h_) (fw (bx 2 (r8 c)) [] (aV (ah 0) (aV (eC (.int 1)) aK))) (eC (.int 4))))) (aX (cE 3 (e2 dN (eA ir (aV (eC (.str "hold")) (aV (eC (.str "hand")) aK))) (e2 (gI h_) (e2 (gI lO) (fw (bx 2 (r8 c)) [] (aV (ah 0) (aV (eC (.int 1)) aK))) (eC (.int 4))) (eC (.int 2))))) (aX (cE 4 (e2 (gI vv) (e2 (gI h_) (fw (bx 2 (r8 c)) [] (aV (ah 0) (aV (eC (.int 2)) aK))) (eC (.int 2001))) (eC (.int 1000)))) (aX (cE 5 (fw (bx 3 (Cg c)) [] (aV (ah 1) (aV (ah 2) (aV (ah 3) aK))))) (aX (cE 6 (fw (bx 1 (Ci c)) [] (aV (ah 1) aK))) (aX (cE 7 (fw (bx 2 (Ba c)) [] (aV (ah 6) (aV (fw (bx 2 (Bb c)) [] (aV (ah 1) (aV (ah 6) aK))) aK)))) (aX (cE 8 (fw (bx 2 (Cr c)) [] (aV (ah 5) (aV (ah 4) aK)))) (aX (gs (eK (e2 tS (ah 7) (eC .bH))) (cq (e2 gG (ah 8) (eA gm (aV (eC (.str "ring")) aK)))) gU) (aX (cE 9 (fw (bx 5 (xR c)) [] (aV (ah 1) (aV (ah 6) (aV (ah 2) (aV (ah 3) (aV (ah 4) aK))))))) (aX (cE 10 (eA iR aK)) (aX (eX (iL (ah 7)) (eE 11) (E_ c)) (cq (xx (fw (bx 2 (xS c)) [] (aV (ah 8) (aV (ah 10) aK))) (fw (bx 2 (xS c)) [] (aV (jO c.hall "at" (bx 2 (q0 c)) [] (ah 5) (aV (eC (.str "hub")) aK)) (aV (ah 6) aK)))))))))))))))))
def TN(c:Cl):Fn:=j4 (cF 13 (TM c))
end DN
namespace K08
open PySem L2 MF DN
noncomputable def top(i:Nat):bR:=BI.main.body.getD i (.Pass ⟨0,0,0,0⟩)
structure Tx(K:W.Frag)(mg:Str->Option af)(c:Cl):Prop where
 mh:o4 K c.hallError=aa kC
 mro:∀C∈[c.ring,c.deedFault],C≠c.hallError->o4 K C=aa (.ref c.hallError::kC)
 Fb:mg "any" = ae
 oK:∃t,mg "MOST_PIECES" = aa (.int 24 t)
 oM:∃t,mg "MOST_PLACES" = aa (.int 8 t)
 fP:nq K c.hall
 ei:lz K c.hall "pieces"
 fq:lz K c.hall "places"
 di:nq K c.piece
 i_:lz K c.piece "ahead"
 lS:lz K c.piece "bars"
 iG:lz K c.piece "behind"
 r9:lz K c.piece "by"
 lT:lz K c.piece "deed"
 kU:lz K c.piece "needs"
 lj:lz K c.piece "on"
 kW:lz K c.piece "place"
 lU:nq K c.place
 lV:lz K c.place "kind"
 lW:lz K c.place "rule"
 cp:nq K c.run
 jt:lz K c.run "around"
 ju:lz K c.run "broken"
 iZ:lz K c.run "deeds"
 j6:lz K c.run "found"
 ll:lz K c.run "held"
 gn:lz K c.run "kind"
 dA:lz K c.run "number"
 j7:lz K c.run "pairs"
 nU:lz K c.run "rule"
 mK:tN K c.deedFault
 lX:W.findIn K (.ref c.deedFault) "code" = aa ae
 lp:W.findIn K (.ref c.deedFault) "piece" = aa ae
 TQ:W.specialIn K (.ref c.hallError) "__getattribute__" = aa (aa (.builtin "type.__getattribute__"))
 TR:W.readsIn K c.hallError (.type "type")=true
 TU:W.findCls K (.ref c.hallError) (.type "type") "__init__" = aa (.val (.builtin "ValueError.__init__"))
 pH:rN K c.deedFault
 lq:W.findIn K (.ref c.deedFault) "piece" = aa ae
 lY:W.findIn K (.ref c.deedFault) "code" = aa ae
 xT:rN K c.ring
 pI:W.findIn K (.ref c.ring) "ring" = aa ae
 lZ:mg "isinstance" = ae
 nV:mg "len" = ae
 j8:mg "list" = ae
 mL:mg "DeedFault" = aa (.ref c.deedFault)
 mM:mg "HallError" = aa (.ref c.hallError)
 vP:mg "Ring" = aa (.ref c.ring)
 Fc:mg "min" = ae
 qO:c.deedFault≠c.hallError
 pJ:o4 K c.deedFault=aa (.ref c.hallError::kC)
 Bk:c.ring≠c.hallError
 xU:o4 K c.ring=aa (.ref c.hallError::kC)
 pK:mg "range" = ae
 r_:mg "reversed" = ae
 Fd:mg "str" = ae
 xV:mg "tuple" = ae
local macro_rules | `(tactic| walk_at "s") => `(tactic| exact ⟨rfl, rfl, rfl, by decide +kernel, rfl, by decide +kernel, by decide +kernel⟩)
abbrev MY:bR:=top 35
theorem zoz:gj ["script", "k"] ["script", "k"] (d8 MY):=by walk_at "s"
abbrev MZ:bR:=top 36
theorem TV:gj ["k", "letters"] ["k"] (d8 MZ):=by walk_at "s"
abbrev M0:bR:=top 38
theorem zuy:gj ["cell", "many"] ["cell", "many"] (d8 M0):=by walk_at "s"
abbrev M1:bR:=top 37
theorem M2:gj ["cell", "number"] ["cell"] (d8 M1):=by walk_at "s"
abbrev M3:bR:=top 39
theorem xW:gj ["script", "start", "many", "pieces", "k", "one", "two", "three", "place", "wishes"] ["script", "start", "many"] (d8 M3):=by walk_at "s"
abbrev M4:bR:=top 54
theorem M5:gj ["script", "pieces"] ["script"] (d8 M4):=by walk_at "s"
abbrev M6:bR:=oi (top 32) 0
theorem zmu:gj ["self"] ["self"] (d8 M6):=by walk_at "s"
abbrev M7:bR:=oi (top 30) 0
theorem zlw:gj ["self", "kind", "rule"] ["self", "kind", "rule"] (d8 M7):=by walk_at "s"
abbrev M8:bR:=oi (top 32) 1
theorem zk4:gj ["self", "name", "kind", "rule"] ["self", "name", "kind", "rule"] (d8 M8):=by walk_at "s"
abbrev M9:bR:=oi (top 32) 9
theorem zk5:gj ["self", "name"] ["self", "name"] (d8 M9):=by walk_at "s"
abbrev M_:bR:=oi (top 31) 0
theorem zlx:gj ["self", "place", "deed", "by"] ["self", "place", "deed", "by"] (d8 M_):=by walk_at "s"
abbrev Bl:bR:=oi (top 32) 2
theorem zsz:gj ["self", "name", "place", "deed", "by"] ["self", "name", "place", "deed", "by"] (d8 Bl):=by walk_at "s"
abbrev M':bR:=oi (top 32) 10
theorem zk6:gj ["self", "name"] ["self", "name"] (d8 M'):=by walk_at "s"
abbrev Na:bR:=top 33
theorem z03:gj ["names"] ["names"] (d8 Na):=by walk_at "s"
abbrev Cu:bR:=oi (top 32) 3
theorem TX:gj ["self", "name", "ahead", "behind", "needs", "bars", "piece"] ["self", "name", "ahead", "behind", "needs", "bars"] (d8 Cu):=by walk_at "s"
abbrev Nb:bR:=oi (top 32) 7
theorem TY:gj ["self", "name", "on", "piece"] ["self", "name", "on"] (d8 Nb):=by walk_at "s"
abbrev Nc:bR:=top 40
theorem Ik:gj ["pieces", "kind", "rule", "hall", "piece"] ["pieces", "kind", "rule"] (d8 Nc):=by walk_at "s"
abbrev Nd:bR:=top 41
theorem zqx:gj ["pieces"] ["pieces"] (d8 Nd):=by walk_at "s"
abbrev Nf:bR:=top 43
theorem TZ:gj ["name", "left", "pairs", "pair"] ["name", "left", "pairs"] (d8 Nf):=by walk_at "s"
abbrev Ng:bR:=top 44
theorem Il:gj ["names", "pairs", "left", "found", "free"] ["names", "pairs"] (d8 Ng):=by walk_at "s"
abbrev Nh:bR:=top 42
theorem Ni:gj ["pieces", "names", "pairs", "piece"] ["pieces", "names"] (d8 Nh):=by walk_at "s"
abbrev Nj:bR:=oi (top 18) 1
theorem zuz:gj ["self"] ["self"] (d8 Nj):=by walk_at "s"
abbrev Nk:bR:=oi (top 18) 9
theorem zjg:gj ["self"] ["self"] (d8 Nk):=by walk_at "s"
abbrev Nl:bR:=oi (top 9) 0
theorem zjh:gj ["self", "piece", "code"] ["self", "piece", "code"] (d8 Nl):=by walk_at "s"
abbrev Nm:bR:=oi (top 18) 6
theorem zu0:gj ["self", "name", "code"] ["self", "name", "code"] (d8 Nm):=by walk_at "s"
abbrev Nn:bR:=top 19
theorem z7y:gj ["deed", "number"] ["deed", "number"] (d8 Nn):=by walk_at "s"
abbrev Np:bR:=oi (top 18) 7
theorem zmv:gj ["self", "deed"] ["self", "deed"] (d8 Np):=by walk_at "s"
abbrev Nq:bR:=oi (top 18) 8
theorem zu1:gj ["self", "number"] ["self", "number"] (d8 Nq):=by walk_at "s"
abbrev Nr:bR:=oi (top 18) 5
theorem zo0:gj ["self", "name", "deed"] ["self", "name", "deed"] (d8 Nr):=by walk_at "s"
abbrev Nt:bR:=oi (top 18) 2
theorem T1:gj ["self", "pair"] ["self"] (d8 Nt):=by walk_at "s"
abbrev Nu:bR:=oi (top 18) 4
theorem zqy:gj ["self"] ["self"] (d8 Nu):=by walk_at "s"
abbrev Nv:bR:=top 20
theorem Im:gj ["number", "around", "back", "own"] ["number", "around"] (d8 Nv):=by walk_at "s"
abbrev Nw:bR:=oi (top 18) 3
theorem zqz:gj ["self"] ["self"] (d8 Nw):=by walk_at "s"
abbrev Nx:bR:=top 23
theorem z05:gj ["run"] ["run"] (d8 Nx):=by walk_at "s"
abbrev Ny:bR:=top 26
theorem Nz:gj ["run", "ended", "fault"] ["run"] (d8 Ny):=by walk_at "s"
abbrev NA:bR:=top 13
theorem Bm:gj ["hall", "names", "seconds", "name", "piece", "other"] ["hall", "names"] (d8 NA):=by walk_at "s"
abbrev NB:bR:=top 14
theorem T2:gj ["seconds", "left", "name"] ["seconds", "left"] (d8 NB):=by walk_at "s"
abbrev NC:bR:=top 16
theorem Bn:gj ["seconds", "start", "rows", "reached", "longer", "row", "second"] ["seconds", "start"] (d8 NC):=by walk_at "s"
abbrev ND:bR:=top 15
theorem T3:gj ["seconds", "rings"] ["seconds"] (d8 ND):=by walk_at "s"
abbrev NF:bR:=oi (top 8) 0
theorem zmw:gj ["self", "ring"] ["self", "ring"] (d8 NF):=by walk_at "s"
abbrev NG:bR:=top 12
theorem Fe:gj ["hall", "names", "seconds", "left", "row", "name"] ["hall", "names"] (d8 NG):=by walk_at "s"
abbrev NH:bR:=oi (top 18) 0
theorem zod:gj ["self", "kind", "rule", "number", "deeds"] ["self", "kind", "rule", "number", "deeds"] (d8 NH):=by walk_at "s"
abbrev NI:bR:=top 22
theorem NJ:gj ["hall", "place", "names", "number", "spot", "deeds"] ["hall", "place", "names", "number"] (d8 NI):=by walk_at "s"
abbrev NK:bR:=oi (top 32) 8
theorem zx5:gj ["self", "place"] ["self", "place"] (d8 NK):=by walk_at "s"
abbrev NM:bR:=top 21
theorem z3w:gj ["hall", "place", "number"] ["hall", "place", "number"] (d8 NM):=by walk_at "s"
abbrev NN:bR:=top 11
theorem z3x:gj ["hall", "place"] ["hall", "place"] (d8 NN):=by walk_at "s"
abbrev NO:bR:=top 25
theorem T4:gj ["hall", "place", "name", "number", "others"] ["hall", "place", "name", "number"] (d8 NO):=by walk_at "s"
abbrev NP:bR:=top 24
theorem T5:gj ["hall", "place", "number", "whole"] ["hall", "place", "number"] (d8 NP):=by walk_at "s"
abbrev NQ:bR:=top 56
theorem Io:gj ["hall", "number", "found"] ["hall", "number"] (d8 NQ):=by walk_at "s"
abbrev Ip:bR:=top 46
theorem T6:gj ["rows", "number", "held", "deed"] ["rows", "number", "held"] (d8 Ip):=by walk_at "s"
abbrev NR:bR:=top 45
theorem zu4:gj ["deed", "number"] ["deed", "number"] (d8 NR):=by walk_at "s"
abbrev NU:bR:=top 47
theorem Cv:gj ["kind", "rows", "number", "held", "told", "name", "deed", "said_v"] ["kind", "rows", "number", "held"] (d8 NU):=by walk_at "s"
abbrev NV:bR:=top 48
theorem NW:gj ["kind", "rule", "rows", "number", "held", "answer"] ["kind", "rule", "rows", "number"] (d8 NV):=by walk_at "s"
abbrev NX:bR:=top 55
theorem Iq:gj ["pieces", "names", "kind", "rule", "number", "row", "rows", "name"] ["pieces", "names", "kind", "rule", "number"] (d8 NX):=by walk_at "s"
abbrev NY:bR:=top 53
theorem T7:gj ["found", "due", "k"] ["found", "due"] (d8 NY):=by walk_at "s"
abbrev Cw:bR:=top 57
theorem ud:gj ["script", "pieces", "kind", "rule", "number", "hall", "names", "row", "found", "whole", "due", "name", "others"] ["script"] (d8 Cw):=by walk_at "s"
section
variable (P:aR)(w:bu){K:W.Frag}{mg:Str->Option af}(base:bN){c:Cl}(T:Tx K mg c){f:ai}{fd:bA}{dV:af}
include T
set_option autoImplicit true
local macro_rules | `(tactic| walk_at "o") => `(tactic| first | exact Or.inl rfl | exact Or.inr rfl)
local macro_rules | `(tactic| walk_at "c") => `(tactic| exact ⟨rfl, (by first | exact Or.inr (Or.inl rfl) | exact Or.inr (Or.inr rfl)), (by walk_at "o"), (by walk_at "o"), rfl⟩)
theorem zo1(F:cO K "_law_cell_at" "_law_cell_at" MY dV f fd)  : bE P w K mg base (dP P w) 1 f fd ["script", "k"] (fE 2 (r8 c)):=
 gX F zoz λ_ _ _ _ _ _ hr fA dI=>by exact(cA (c_ (Lg (ev 1) (Hd (by rfl) T.nV (ev 0))) (cL (fM (cj (ev 0) (ev 1)))) iu) (cL (fM cJ)))
theorem zu5(F:cO K "_law_name" "_law_name" MZ dV f fd)  : bE P w K mg base (dP P w) 1 f fd ["k"] (fE 1 (wF c)):=
 gX F TV λ_ _ _ _ _ _ hr fA dI=>by exact(cA (gW (i:=1) TV.nd (by rfl) (by walk_at "o") gP) (cA (c_ (fB dI (oy (ev 0) cJ) cJ) (cL (fM (cj (ev 1) (oy (ev 0) cJ)))) iu) (cL (fM (Zar gP (bh (R3 (xs:=["letters", "k"]) (js:=[1,0]) (nts:=["j"]) (by rfl) ⟨rfl,by decide +kernel,rfl,by decide +kernel,(λp hp=>by rcases aF.mp hp with rfl | hp;(· rfl);rcases aH.mp hp with rfl;rfl),rfl,⟨(by walk_at "c"),⟨(by walk_at "c"),trivial⟩⟩⟩ (JN (by rfl) T.pK (bh (qg cJ (oy (ev 0) cJ)) bY)) Lw (λ_ _ _=>(kj (i:=0) (show(["j", "letters", "k"]:List Str).Nodup by decide +kernel) (by rfl) (by walk_at "o"))) (lB _) (λ_ _ _=>(cj (ev 1) (oy (qg (ev 2) (B1 cJ (ev 0))) cJ))) rT) bY))))))
theorem zu6(F:cO K "_law_some" "_law_some" M0 dV f fd)(G0:FnAt P w K mg base 1 "_law_name" ["k"] (wF c) f0 g0):bE P w K mg base (dP P w) 2 f fd ["cell", "many"] (fE 2 (wG c)):=
 gX F zuy λ_ _ _ _ _ _ hr fA dI=>by exact(cA (c_ (Ej (oy (ev 0) cJ) cJ) (cL (fM (o6 bY))) iu) (cA (c_ (fB dI (oy (ev 0) cJ) cJ) (cL (fM (o6 (bh (gH G0 hr (by rfl) ee (bh (oy (vx (ev 0) cJ) (ev 1)) bY)) (bh (gH G0 hr (by rfl) ee (bh (oy (vx (ev 0) cJ) (ev 1)) bY)) bY))))) iu) (cL (fM (o6 (bh (gH G0 hr (by rfl) ee (bh (oy (vx (ev 0) cJ) (ev 1)) bY)) bY))))))
theorem zu7(F:cO K "_law_deed" "_law_deed" M1 dV f fd)  : bE P w K mg base (dP P w) 1 f fd ["cell"] (fE 1 (EH c)):=
 gX F M2 λ_ _ _ _ _ _ hr fA dI=>by exact(cA (gW (i:=1) M2.nd (by rfl) (by walk_at "o") (K_ (oy (vx (ev 0) cJ) cJ) cJ)) (cA (c_ (fB dI (oy (vx (ev 0) cJ) cJ) cJ) (cL (gW (i:=1) M2.nd (by rfl) (by walk_at "o") (K_ (oy (ev 0) (Ro cJ cJ)) (Ro cJ cJ)))) iu) (cA (c_ (fB dI (oy (ev 0) cJ) cJ) (cL (fM (nB (bh gP (bh (ev 1) bY))))) iu) (cA (c_ (fB dI (oy (ev 0) cJ) cJ) (cL (fM (nB (bh gP bY)))) iu) (cA (c_ (fB dI (oy (ev 0) cJ) cJ) (cL (fM (nB (bh gP (bh (ev 1) bY))))) iu) (cL (fM (nB (bh gP (bh (ev 1) bY))))))))))
theorem zq1(F:cO K "_law_pieces" "_law_pieces" M3 dV f fd)(G0:FnAt P w K mg base 2 "_law_cell_at" ["script", "k"] (r8 c) f0 g0)(G1:FnAt P w K mg base 2 "_law_some" ["cell", "many"] (wG c) f1 g1)(G2:FnAt P w K mg base 2 "_law_deed" ["cell"] (EH c) f2 g2)(G3:FnAt P w K mg base 2 "_law_name" ["k"] (wF c) f3 g3):bE P w K mg base (dP P w) 3 f fd ["script", "start", "many"] (fE 3 (HC c)):=
 bE.eL (gX F xW λ_ _ _ _ _ _ hr fA dI=>by exact(cA (gW (i:=3) xW.nd (by rfl) (by walk_at "o") (qY bY)) (cA (qJ a_ (by rfl) (JN (by rfl) T.pK (bh (ev 2) bY)) Lw (kj (i:=4) xW.nd (by rfl) (by walk_at "o")) (lB _) (cA (gW (i:=5) xW.nd (by rfl) (by walk_at "o") (gH G0 hr (by rfl) ee (bh (ev 0) (bh (qg (ev 1) (B1 cJ (ev 4))) bY)))) (cA (gW (i:=6) xW.nd (by rfl) (by walk_at "o") (gH G0 hr (by rfl) ee (bh (ev 0) (bh (qg (qg (ev 1) (B1 cJ (ev 4))) cJ) bY)))) (cA (gW (i:=7) xW.nd (by rfl) (by walk_at "o") (gH G0 hr (by rfl) ee (bh (ev 0) (bh (qg (qg (ev 1) (B1 cJ (ev 4))) cJ) bY)))) (cA (gW (i:=8) xW.nd (by rfl) (by walk_at "o") (cj (o6 (bh gP (bh gP (bh gP (bh gP bY))))) (oy (vx (ev 5) cJ) cJ))) (cA (gW (i:=9) xW.nd (by rfl) (by walk_at "o") (o6 (bh (gH G1 hr (by rfl) ee (bh (ev 6) (bh (qg (ev 2) cJ) bY))) (bh (gH G1 hr (by rfl) ee (bh (vx (ev 6) cJ) (bh (qg (ev 2) cJ) bY))) bY)))) (cA (gW (i:=9) xW.nd (by rfl) (by walk_at "o") (qg (ev 9) (o6 (bh (gH G1 hr (by rfl) ee (bh (ev 7) (bh (qg (ev 2) cJ) bY))) (bh (gH G1 hr (by rfl) ee (bh (vx (ev 7) cJ) (bh (qg (ev 2) cJ) bY))) bY))))) (cL (jM (vD (ev 3) (bh (nB (bh (gH G3 hr (by rfl) ee (bh (ev 4) bY)) (bh (ev 8) (bh (gH G2 hr (by rfl) ee (bh (ev 5) bY)) (bh (ev 9) (bh (Lc dI (oy (vx (ev 5) cJ) cJ) cJ) bY)))))) bY))))))))))) (cL (fM (ev 3))))))
theorem zx7(F:cO K "_law_set" "_law_set" M4 dV f fd)(G0:FnAt P w K mg base 3 "_law_pieces" ["script", "start", "many"] (HC c) f0 g0)(G1:FnAt P w K mg base 3 "_law_cell_at" ["script", "k"] (r8 c) f1 g1):bE P w K mg base (dP P w) 4 f fd ["script"] (fE 1 (A9 c)):=
 gX F M5 λ_ _ _ _ _ _ hr fA dI=>by exact(cA (gW (i:=1) M5.nd (by rfl) (by walk_at "o") (gH G0 hr (by rfl) ee (bh (ev 0) (bh cJ (bh (oy (gH G1 hr (by rfl) ee (bh (ev 0) (bh cJ bY))) cJ) bY))))) (cA (c_ (Ej (oy (vx (gH G1 hr (by rfl) ee (bh (ev 0) (bh cJ bY))) cJ) cJ) cJ) (cL (Ly (i:=1) (xs:=[]) (js:=[]) (nts:=["piece"]) (by rfl) ⟨rfl,by decide +kernel,rfl,by decide +kernel,(λp hp=>absurd hp cx),rfl,trivial⟩ (mW (ev 1)) (m3 _) (λ_ _ _=>(kj (i:=0) (show(["piece"]:List Str).Nodup by decide +kernel) (by rfl) (by walk_at "o"))) (lB _) (λ_ _ _=>(nB (bh (cj (ev 0) cJ) (bh (cj (ev 0) cJ) (bh (cj (ev 0) cJ) (bh (o6 (bh (o6 bY) (bh (o6 bY) (bh (cj (cj (ev 0) cJ) cJ) (bh (cj (cj (ev 0) cJ) cJ) bY))))) (bh (cj (ev 0) cJ) bY))))))) rT M5.nd (by rfl) (by walk_at "o") Cc)) iu) (cL (fM (ev 1)))))
theorem zmx(F:cO K "__init__" "Hall.__init__" M6 dV f fd)  : bE P w K mg base (dP P w) 1 f fd ["self"] (fE 1 (EI c)):=
 gX F zmu λ_ _ _ _ _ _ hr fA dI=>by exact(cA (mw T.fP T.fq (ev 0) Hc) (cL (mw T.fP T.ei (ev 0) Hc)))
theorem zl7(F:cO K "__init__" "Place.__init__" M7 dV f fd)  : bE P w K mg base (dP P w) 1 f fd ["self", "kind", "rule"] (fE 3 (EJ c)):=
 gX F zlw λ_ _ _ _ _ _ hr fA dI=>by exact(cA (mw T.lU T.lV (ev 0) (ev 1)) (cL (mw T.lU T.lW (ev 0) (ev 2))))
theorem zk7(F:cO K "open_place" "Hall.open_place" M8 dV f fd)(G0:rW P w K mg base 1 "Place" c.place ["self", "kind", "rule"] (EJ c) f0 g0):bE P w K mg base (dP P w) 3 f fd ["self", "name", "kind", "rule"] (fE 4 (Ce c)):=
 gX F zk4 λ_ _ _ _ _ _ hr fA dI=>by exact(cA (c_ (Hb fA (ev 1) (iN T.fP T.fq (ev 0))) zu iu) (cA (c_ (Ek (RG (by rfl) T.nV (iN T.fP T.fq (ev 0))) (Sf (by rfl) T.oM)) zu iu) (cL (B7 fA (iN T.fP T.fq (ev 0)) (ev 1) (LI G0 hr (by rfl) ee (bh (ev 2) (bh (ev 3) bY)))))))
theorem zk8(F:cO K "find_place" "Hall.find_place" M9 dV f fd)  : bE P w K mg base (dP P w) 1 f fd ["self", "name"] (fE 2 (xK c)):=
 gX F zk5 λ_ _ _ _ _ _ hr fA dI=>by exact(cA (c_ (Ll fA (ev 1) (iN T.fP T.fq (ev 0))) zu iu) (cL (fM (AH fA (iN T.fP T.fq (ev 0)) (ev 1)))))
theorem zl8(F:cO K "__init__" "Piece.__init__" M_ dV f fd)  : bE P w K mg base (dP P w) 1 f fd ["self", "place", "deed", "by"] (fE 4 (Cf c)):=
 gX F zlx λ_ _ _ _ _ _ hr fA dI=>by exact(cA (mw T.di T.kW (ev 0) (ev 1)) (cA (mw T.di T.lT (ev 0) (ev 2)) (cA (mw T.di T.r9 (ev 0) (ev 3)) (cA (mw T.di T.lj (ev 0) tP) (cA (mw T.di T.i_ (ev 0) (qY bY)) (cA (mw T.di T.iG (ev 0) (qY bY)) (cA (mw T.di T.kU (ev 0) (qY bY)) (cL (mw T.di T.lS (ev 0) (qY bY))))))))))
theorem zs0(F:cO K "hang" "Hall.hang" Bl dV f fd)(G0:fY P w K mg base 2 c.hall "find_place" ["self", "name"] (xK c) f0 g0)(G1:rW P w K mg base 1 "Piece" c.piece ["self", "place", "deed", "by"] (Cf c) f1 g1):bE P w K mg base (dP P w) 3 f fd ["self", "name", "place", "deed", "by"] (fE 5 (EK c)):=
 gX F zsz λ_ _ _ _ _ _ hr fA dI=>by exact(cA (c_ (Hb fA (ev 1) (iN T.fP T.ei (ev 0))) zu iu) (cA (jM (pF G0 hr ee (ev 0) (bh (ev 2) bY))) (cA (c_ (Lj (ev 4) sM) zu iu) (cA (c_ (Ek (RG (by rfl) T.nV (iN T.fP T.ei (ev 0))) (Sf (by rfl) T.oK)) zu iu) (cL (B7 fA (iN T.fP T.ei (ev 0)) (ev 1) (LI G1 hr (by rfl) ee (bh (ev 2) (bh (ev 3) (bh (ev 4) bY))))))))))
theorem zk9(F:cO K "find_piece" "Hall.find_piece" M' dV f fd)  : bE P w K mg base (dP P w) 1 f fd ["self", "name"] (fE 2 (vL c)):=
 gX F zk6 λ_ _ _ _ _ _ hr fA dI=>by exact(cA (c_ (Ll fA (ev 1) (iN T.fP T.ei (ev 0))) zu iu) (cL (fM (AH fA (iN T.fP T.ei (ev 0)) (ev 1)))))
theorem z06(F:cO K "wished" "wished" Na dV f fd)  : bE P w K mg base (dP P w) 1 f fd ["names"] (fE 1 (sR c)):=
 gX F z03 λ_ _ _ _ _ _ hr fA dI=>by exact(cL (fM (Z3 (AG (ev 0) sM) (o6 bY) (Lq (by rfl) (by rfl) T.j8 (ev 0)))))
theorem zs1(F:cO K "wish" "Hall.wish" Cu dV f fd)(G0:fY P w K mg base 1 c.hall "find_piece" ["self", "name"] (vL c) f0 g0)(G1:FnAt P w K mg base 1 "wished" ["names"] (sR c) f1 g1):bE P w K mg base (dP P w) 2 f fd ["self", "name", "ahead", "behind", "needs", "bars"] (fE 6 (EL c)):=
 gX F TX λ_ _ _ _ _ _ hr fA dI=>by exact(cA (gW (i:=6) TX.nd (by rfl) (by walk_at "o") (pF G0 hr ee (ev 0) (bh (ev 1) bY))) (cA (jM (AI (iN T.di T.i_ (ev 6)) (bh (gH G1 hr (by rfl) ee (bh (ev 2) bY)) bY))) (cA (jM (AI (iN T.di T.iG (ev 6)) (bh (gH G1 hr (by rfl) ee (bh (ev 3) bY)) bY))) (cA (jM (AI (iN T.di T.kU (ev 6)) (bh (gH G1 hr (by rfl) ee (bh (ev 4) bY)) bY))) (cL (jM (AI (iN T.di T.lS (ev 6)) (bh (gH G1 hr (by rfl) ee (bh (ev 5) bY)) bY))))))))
theorem zo2(F:cO K "switch" "Hall.switch" Nb dV f fd)(G0:fY P w K mg base 1 c.hall "find_piece" ["self", "name"] (vL c) f0 g0):bE P w K mg base (dP P w) 2 f fd ["self", "name", "on"] (fE 3 (EM c)):=
 gX F TY λ_ _ _ _ _ _ hr fA dI=>by exact(cA (gW (i:=3) TY.nd (by rfl) (by walk_at "o") (pF G0 hr ee (ev 0) (bh (ev 1) bY))) (cL (mw T.di T.lj (ev 3) (ev 2))))
theorem zu8(F:cO K "_law_hall" "_law_hall" Nc dV f fd)(G0:rW P w K mg base 2 "Hall" c.hall ["self"] (EI c) f0 g0)(G1:fY P w K mg base 3 c.hall "open_place" ["self", "name", "kind", "rule"] (Ce c) f1 g1)(G2:fY P w K mg base 3 c.hall "hang" ["self", "name", "place", "deed", "by"] (EK c) f2 g2)(B21:mH K g2 ["self", "name", "place", "deed", "by"] [.none])(G3:fY P w K mg base 3 c.hall "wish" ["self", "name", "ahead", "behind", "needs", "bars"] (EL c) f3 g3)(G4:fY P w K mg base 3 c.hall "switch" ["self", "name", "on"] (EM c) f4 g4):bE P w K mg base (dP P w) 4 f fd ["pieces", "kind", "rule"] (fE 3 (Cg c)):=
 gX F Ik λ_ _ _ _ _ _ hr fA dI=>by exact(cA (gW (i:=3) Ik.nd (by rfl) (by walk_at "o") (z7j G0 hr (by rfl) ee)) (cA (jM (pF G1 hr ee (ev 3) (bh gP (bh (ev 1) (bh (ev 2) bY))))) (cA (jM (pF G1 hr ee (ev 3) (bh gP (bh gP (bh gP bY))))) (cA (qJ a_ (by rfl) (mW (ev 0)) (m3 _) (kj (i:=4) Ik.nd (by rfl) (by walk_at "o")) (lB _) (cL (jM (z7i G2 hr ee B21 z0j z0k (ev 3) (bh (cj (ev 4) cJ) (bh (cj (ev 4) cJ) (bh (cj (ev 4) cJ) bY))))))) (cA (qJ a_ (by rfl) (mW (ev 0)) (m3 _) (kj (i:=4) Ik.nd (by rfl) (by walk_at "o")) (lB _) (cA (jM (pF G3 hr ee (ev 3) (bh (cj (ev 4) cJ) (bh (cj (cj (ev 4) cJ) cJ) (bh (z7b (by rfl) T.xV (cj (cj (ev 4) cJ) cJ)) (bh (cj (cj (ev 4) cJ) cJ) (bh (cj (cj (ev 4) cJ) cJ) bY))))))) (cL (c_ (B4 (sO (cj (ev 4) cJ))) (cL (jM (pF G4 hr ee (ev 3) (bh (cj (ev 4) cJ) (bh tP bY))))) iu)))) (cL (fM (ev 3))))))))
theorem zq2(F:cO K "_law_at_hub" "_law_at_hub" Nd dV f fd)  : bE P w K mg base (dP P w) 1 f fd ["pieces"] (fE 1 (Ci c)):=
 gX F zqx λ_ _ _ _ _ _ hr fA dI=>by exact(cL (fM (B' (xs:=[]) (js:=[]) (nts:=["piece"]) (by rfl) ⟨rfl,by decide +kernel,rfl,by decide +kernel,(λp hp=>absurd hp cx),rfl,trivial⟩ (mW (ev 0)) (m3 _) (λ_ _ _=>(kj (i:=0) (show(["piece"]:List Str).Nodup by decide +kernel) (by rfl) (by walk_at "o"))) (lB _) (λ_ _ _=>((B3 (fB dI (cj (ev 0) cJ) gP) (B2 (sO (cj (ev 0) cJ))))).pt) (λ_ _ _=>(cj (ev 0) cJ)) rT)))
theorem zu9(F:cO K "_law_free" "_law_free" Nf dV f fd)  : bE P w K mg base (dP P w) 1 f fd ["name", "left", "pairs"] (fE 3 (Cj c)):=
 gX F TZ λ_ _ _ _ _ _ hr fA dI=>by exact(cA (qJ a_ (by rfl) (mW (ev 2)) (m3 _) (kj (i:=3) TZ.nd (by rfl) (by walk_at "o")) (lB _) (cL (c_ ((B3 (fB dI (cj (ev 3) cJ) (ev 0)) (B2 (xw dI (cj (ev 3) cJ) (ev 1))))).pt (cL (fM tP)) iu))) (cL (fM tP)))
theorem zs2(F:cO K "_law_order" "_law_order" Ng dV f fd)(G0:FnAt P w K mg base 1 "_law_free" ["name", "left", "pairs"] (Cj c) f0 g0):bE P w K mg base (dP P w) 2 f fd ["names", "pairs"] (fE 2 (Ba c)):=
 bE.eL (gX F Il λ_ _ _ _ _ _ hr fA dI=>by exact(cA (gW (i:=2) Il.nd (by rfl) (by walk_at "o") (Lr (by rfl) (by rfl) T.j8 (ev 0))) (cA (gW (i:=3) Il.nd (by rfl) (by walk_at "o") (qY bY)) (cA (Hg a_ (pB dI (ev 2) (o6 bY)) (cA (LA (i:=4) (xs:=["left", "pairs"]) (js:=[2,1]) (nts:=["name"]) (by rfl) ⟨rfl,by decide +kernel,rfl,by decide +kernel,(λp hp=>by rcases aF.mp hp with rfl | hp;(· rfl);rcases aH.mp hp with rfl;rfl),rfl,⟨(by walk_at "c"),⟨(by walk_at "c"),trivial⟩⟩⟩ (mW (ev 2)) (m3 _) (λ_ _ _=>(kj (i:=0) (show(["name", "left", "pairs"]:List Str).Nodup by decide +kernel) (by rfl) (by walk_at "o"))) (lB _) (λ_ _ _=>(sO (Hz G0 hr (by rfl) AN (bh (ev 0) (bh (ev 1) (bh (ev 2) bY)))))) (λ_ _ _=>(ev 0)) rT Il.nd (by rfl) (by walk_at "o") Cc) (cA (c_ (fB dI (ev 4) (o6 bY)) (cL (fM sM)) iu) (cA (jM (vD (ev 3) (bh (cj (ev 4) cJ) bY))) (cL (jM (Sh (ev 2) (bh (cj (ev 4) cJ) bY)))))))) (cL (fM (ev 3)))))))
theorem zs3(F:cO K "_law_pairs" "_law_pairs" Nh dV f fd)  : bE P w K mg base (dP P w) 1 f fd ["pieces", "names"] (fE 2 (Bb c)):=
 bE.eL (gX F Ni λ_ _ _ _ _ _ hr fA dI=>by exact(cA (gW (i:=2) Ni.nd (by rfl) (by walk_at "o") (qY bY)) (cA (qJ a_ (by rfl) (mW (ev 0)) (m3 _) (kj (i:=3) Ni.nd (by rfl) (by walk_at "o")) (lB _) (cL (c_ (xw dI (cj (ev 3) cJ) (ev 1)) (cA (jM (AI (ev 2) (bh (B' (xs:=["piece", "names"]) (js:=[3,1]) (nts:=["other"]) (by rfl) ⟨rfl,by decide +kernel,rfl,by decide +kernel,(λp hp=>by rcases aF.mp hp with rfl | hp;(· rfl);rcases aH.mp hp with rfl;rfl),rfl,⟨(by walk_at "c"),⟨(by walk_at "c"),trivial⟩⟩⟩ (mW (cj (cj (ev 3) cJ) cJ)) (m3 _) (λ_ _ _=>(kj (i:=0) (show(["other", "piece", "names"]:List Str).Nodup by decide +kernel) (by rfl) (by walk_at "o"))) (lB _) (λ_ _ _=>(xw dI (ev 0) (ev 2))) (λ_ _ _=>(nB (bh (cj (ev 1) cJ) (bh (ev 0) bY)))) rT) bY))) (cL (jM (AI (ev 2) (bh (B' (xs:=["piece", "names"]) (js:=[3,1]) (nts:=["other"]) (by rfl) ⟨rfl,by decide +kernel,rfl,by decide +kernel,(λp hp=>by rcases aF.mp hp with rfl | hp;(· rfl);rcases aH.mp hp with rfl;rfl),rfl,⟨(by walk_at "c"),⟨(by walk_at "c"),trivial⟩⟩⟩ (mW (cj (cj (ev 3) cJ) cJ)) (m3 _) (λ_ _ _=>(kj (i:=0) (show(["other", "piece", "names"]:List Str).Nodup by decide +kernel) (by rfl) (by walk_at "o"))) (lB _) (λ_ _ _=>(xw dI (ev 0) (ev 2))) (λ_ _ _=>(nB (bh (ev 0) (bh (cj (ev 1) cJ) bY)))) rT) bY))))) iu))) (cL (fM (ev 2))))))
theorem zva(F:cO K "over" "Run.over" Nj dV f fd)  : bE P w K mg base (dP P w) 1 f fd ["self"] (fE 1 (wH c)):=
 gX F zuz λ_ _ _ _ _ _ hr fA dI=>by exact(cL (fM (ZZ (iN T.cp T.iZ (ev 0)))))
theorem zjn(F:cO K "leave_the_rest" "Run.leave_the_rest" Nk dV f fd)  : bE P w K mg base (dP P w) 1 f fd ["self"] (fE 1 (xM c)):=
 gX F zjg λ_ _ _ _ _ _ hr fA dI=>by exact(cL (jM (z7f (iN T.cp T.iZ (ev 0)))))
theorem zjo(F:cO K "__init__" "DeedFault.__init__" Nl dV f fd)(q:pz K c.deedFault f=true):bE P w K mg base (dP P w) 1 f fd ["self", "piece", "code"] (xH c.deedFault "piece" "code" false):=
 z3m F zjh T.pH q T.lq T.lY (λgT A outer s H E hr=>Gn (JI (Rb (by rfl) T.mM T.TQ T.TR T.TU (u4 (uW (i:=0) (by rfl) (by first | exact eF rfl | exact cM (eF rfl) | exact cM (cM rfl))) (u4 (Q3 (.cons Gk (.cons (Zb (uW (i:=1) (by rfl) (by first | exact eF rfl | exact cM (eF rfl) | exact cM (cM rfl)))) (.cons Gk .nil)))) y_)))) (Gn (K3 (uW (i:=0) (by rfl) (by first | exact eF rfl | exact cM (eF rfl) | exact cM (cM rfl))) (uW (i:=1) (by rfl) (by first | exact eF rfl | exact cM (eF rfl) | exact cM (cM rfl))) (by rfl)) (JG (K3 (uW (i:=0) (by rfl) (by first | exact eF rfl | exact cM (eF rfl) | exact cM (cM rfl))) (uW (i:=2) (by rfl) (by first | exact eF rfl | exact cM (eF rfl) | exact cM (cM rfl))) (by rfl))))) (z7v "the deed of " " fell" (by decide) (by decide))
theorem zvb(F:cO K "fall" "Run.fall" Nm dV f fd)(G0:fY P w K mg base 2 c.run "leave_the_rest" ["self"] (xM c) f0 g0)(G1:Ma P w K mg base 1 c.deedFault "piece" "code" false ["self", "piece", "code"] f1 g1):bE P w K mg base (dP P w) 3 f fd ["self", "name", "code"] (fE 3 (Bc c)):=
 gX F zu0 λ_ _ _ _ _ _ hr fA dI=>by exact(cA (c_ (fB dI (iN T.cp T.nU (ev 0)) gP) (cA (mw T.cp T.ju (ev 0) tP) (cA (jM (xC G0 hr ee (ev 0))) (cL (z3n Rf (by rfl) (by decide) G1.q G1.hf G1.ok hr G1.hb (by rfl) T.mL (bh (ev 1) (bh (ev 2) bY)))))) iu) (cL (jM (vD (iN T.cp T.ll (ev 0)) (bh (nB (bh (ev 1) (bh (ev 2) bY))) bY)))))
theorem z7z(F:cO K "said" "said" Nn dV f fd)  : bE P w K mg base (dP P w) 1 f fd ["deed", "number"] (fE 2 (uD c)):=
 gX F z7y λ_ _ _ _ _ _ hr fA dI=>by exact(cA (c_ (fB dI (cj (ev 0) cJ) gP) (cL (fM (qg (ev 1) (cj (ev 0) cJ)))) iu) (cA (c_ (fB dI (cj (ev 0) cJ) gP) (cL (fM (cj (ev 0) cJ))) iu) (cL (fM sM))))
theorem zmy(F:cO K "go_within" "Run.go_within" Np dV f fd)(G0:FnAt P w K mg base 1 "said" ["deed", "number"] (uD c) f0 g0)(G1:fY P w K mg base 1 c.run "leave_the_rest" ["self"] (xM c) f1 g1):bE P w K mg base (dP P w) 2 f fd ["self", "deed"] (fE 2 (zv c)):=
 gX F zmv λ_ _ _ _ _ _ hr fA dI=>by exact(cL (c_ (fB dI (cj (ev 1) cJ) gP) (cA (jM (vD (iN T.cp T.jt (ev 0)) (bh (cj (ev 1) cJ) bY))) (cL (mw T.cp T.dA (ev 0) (gH G0 hr (by rfl) ee (bh (ev 1) (bh (iN T.cp T.dA (ev 0)) bY)))))) (cL (c_ (fB dI (cj (ev 1) cJ) gP) (cA (mw T.cp T.dA (ev 0) (gH G0 hr (by rfl) ee (bh (ev 1) (bh (iN T.cp T.dA (ev 0)) bY)))) (cL (jM (xC G1 hr ee (ev 0))))) iu))))
theorem zvc(F:cO K "hear" "Run.hear" Nq dV f fd)(G0:fY P w K mg base 1 c.run "leave_the_rest" ["self"] (xM c) f0 g0):bE P w K mg base (dP P w) 2 f fd ["self", "number"] (fE 2 (Ck c)):=
 gX F zu1 λ_ _ _ _ _ _ hr fA dI=>by exact(cL (c_ (fB dI (iN T.cp T.gn (ev 0)) gP) (cA (mw T.cp T.j6 (ev 0) (ev 1)) (cL (jM (xC G0 hr ee (ev 0))))) (cL (mw T.cp T.dA (ev 0) (ev 1)))))
theorem zo3(F:cO K "perform" "Run.perform" Nr dV f fd)(G0:fY P w K mg base 3 c.run "fall" ["self", "name", "code"] (Bc c) f0 g0)(G1:FnAt P w K mg base 3 "said" ["deed", "number"] (uD c) f1 g1)(G2:fY P w K mg base 3 c.run "go_within" ["self", "deed"] (zv c) f2 g2)(G3:fY P w K mg base 3 c.run "hear" ["self", "number"] (Ck c) f3 g3):bE P w K mg base (dP P w) 4 f fd ["self", "name", "deed"] (fE 3 (uE c)):=
 gX F zo0 λ_ _ _ _ _ _ hr fA dI=>by exact(cL (c_ (fB dI (cj (ev 2) cJ) gP) (cL (jM (pF G0 hr ee (ev 0) (bh (ev 1) (bh (cj (ev 2) cJ) bY))))) (cL (c_ (fB dI (iN T.cp T.gn (ev 0)) gP) (cL (jM (vD (iN T.cp T.j7 (ev 0)) (bh (nB (bh (ev 1) (bh (gH G1 hr (by rfl) ee (bh (ev 2) (bh (iN T.cp T.dA (ev 0)) bY))) bY))) bY)))) (cL (c_ (fB dI (iN T.cp T.gn (ev 0)) gP) (cL (jM (pF G2 hr ee (ev 0) (bh (ev 2) bY)))) (cL (c_ (pB dI (cj (ev 2) cJ) gP) (cL (jM (pF G3 hr ee (ev 0) (bh (gH G1 hr (by rfl) ee (bh (ev 2) (bh (iN T.cp T.dA (ev 0)) bY))) bY)))) iu))))))))
theorem zvd(F:cO K "step" "Run.step" Nt dV f fd)(G0:fY P w K mg base 4 c.run "over" ["self"] (wH c) f0 g0)(G1:fY P w K mg base 4 c.run "perform" ["self", "name", "deed"] (uE c) f1 g1):bE P w K mg base (dP P w) 5 f fd ["self"] (fE 1 (Be c)):=
 gX F T1 λ_ _ _ _ _ _ hr fA dI=>by exact(cA (c_ (sO (xC G0 hr ee (ev 0))) (cL (fM sM)) iu) (cA (gW (i:=1) T1.nd (by rfl) (by walk_at "o") (z7e (iN T.cp T.iZ (ev 0)) (bh cJ bY))) (cA (jM (pF G1 hr ee (ev 0) (bh (cj (ev 1) cJ) (bh (cj (ev 1) cJ) bY)))) (cL (fM (cj (ev 1) cJ))))))
theorem zq3(F:cO K "faults" "Run.faults" Nu dV f fd)  : bE P w K mg base (dP P w) 1 f fd ["self"] (fE 1 (ES c)):=
 gX F zqy λ_ _ _ _ _ _ hr fA dI=>by exact(cL (fM (Lq (by rfl) (by rfl) T.j8 (iN T.cp T.ll (ev 0)))))
theorem zof(F:cO K "brought_back" "brought_back" Nv dV f fd)  : bE P w K mg base (dP P w) 1 f fd ["number", "around"] (fE 2 (ET c)):=
 gX F Im λ_ _ _ _ _ _ hr fA dI=>by exact(cA (gW (i:=2) Im.nd (by rfl) (by walk_at "o") (ev 0)) (cA (qJ a_ (by rfl) (Za0 (by rfl) T.r_ (bh (ev 1) bY)) (Za1 _) (kj (i:=3) Im.nd (by rfl) (by walk_at "o")) (lB _) (cL (gW (i:=2) Im.nd (by rfl) (by walk_at "o") (qg (B1 (ev 2) cJ) (ev 3))))) (cL (fM (ev 2)))))
theorem zq4(F:cO K "answer" "Run.answer" Nw dV f fd)(G0:fY P w K mg base 1 c.run "over" ["self"] (wH c) f0 g0)(G1:FnAt P w K mg base 1 "brought_back" ["number", "around"] (ET c) f1 g1):bE P w K mg base (dP P w) 2 f fd ["self"] (fE 1 (EU c)):=
 gX F zqz λ_ _ _ _ _ _ hr fA dI=>by exact(cA (c_ ((AE (sO (iN T.cp T.ju (ev 0))) (Lh (B4 (sO (xC G0 hr ee (ev 0))))))).pt zu iu) (cA (c_ (fB dI (iN T.cp T.gn (ev 0)) gP) (cL (fM (Lq (by rfl) (by rfl) T.j8 (iN T.cp T.j7 (ev 0))))) iu) (cA (c_ (fB dI (iN T.cp T.gn (ev 0)) gP) (cL (fM (iN T.cp T.j6 (ev 0)))) iu) (cA (c_ (fB dI (iN T.cp T.gn (ev 0)) gP) (cL (fM (iN T.cp T.dA (ev 0)))) iu) (cL (fM (gH G1 hr (by rfl) ee (bh (iN T.cp T.dA (ev 0)) (bh (iN T.cp T.jt (ev 0)) bY)))))))))
theorem z07(F:cO K "finish" "finish" Nx dV f fd)(G0:fY P w K mg base 5 c.run "over" ["self"] (wH c) f0 g0)(G1:fY P w K mg base 5 c.run "step" ["self"] (Be c) f1 g1)(G2:fY P w K mg base 5 c.run "faults" ["self"] (ES c) f2 g2)(G3:fY P w K mg base 5 c.run "answer" ["self"] (EU c) f3 g3):bE P w K mg base (dP P w) 6 f fd ["run"] (fE 1 (vM c)):=
 gX F z05 λ_ _ _ _ _ _ hr fA dI=>by exact(cA (Hg a_ (B4 (sO (xC G0 hr ee (ev 0)))) (cL (jM (xC G1 hr ee (ev 0))))) (cL (fM (nB (bh (xC G3 hr ee (ev 0)) (bh (xC G2 hr ee (ev 0)) bY))))))
theorem zx8(F:cO K "outcome" "outcome" Ny dV f fd)(G0:FnAt P w K mg base 6 "finish" ["run"] (vM c) f0 g0):bE P w K mg base (dP P w) 7 f fd ["run"] (fE 1 (Bf c)):=
 gX F Nz λ_ _ _ _ _ _ hr fA dI=>by exact(cA (SD (js:=[1]) (fb:=(HQ c)) (λpn kn xe R hk Ap own=>(cL (gW (i:=1) Nz.nd (by rfl) (by walk_at "o") (gH G0 hr (by rfl) Ap (bh (ev 0) bY)) (hkn:=λu=>hk 1 (by decide) u)))) (L0 (i:=2) Nz.nd (by rfl) (by rfl) (by rfl) T.mL T.pJ (SO T.mro T.mh T.qO) (λ_=>(cL (fM (nB (bh gP (bh (nB (bh (SH T.mK T.lp (ev 2)) (bh (SH T.mK T.lX (ev 2)) bY))) bY)))))) Sz)) (cL (fM (nB (bh gP (bh (ev 1) bY))))))
theorem zq5(F:cO K "seconds_of" "seconds_of" NA dV f fd)(G0:fY P w K mg base 1 c.hall "find_piece" ["self", "name"] (vL c) f0 g0):bE P w K mg base (dP P w) 2 f fd ["hall", "names"] (fE 2 (EV c)):=
 bE.eL (gX F Bm λ_ _ _ _ _ _ hr fA dI=>by exact(cA (gW (i:=2) Bm.nd (by rfl) (by walk_at "o") Hc) (cA (qJ a_ (by rfl) (mW (ev 1)) (m3 _) (kj (i:=3) Bm.nd (by rfl) (by walk_at "o")) (lB _) (cL (B7 fA (ev 2) (ev 3) Hc))) (cA (qJ a_ (by rfl) (mW (ev 1)) (m3 _) (kj (i:=3) Bm.nd (by rfl) (by walk_at "o")) (lB _) (cA (gW (i:=4) Bm.nd (by rfl) (by walk_at "o") (pF G0 hr ee (ev 0) (bh (ev 3) bY))) (cA (qJ a_ (by rfl) (mW (iN T.di T.i_ (ev 4))) (m3 _) (kj (i:=5) Bm.nd (by rfl) (by walk_at "o")) (lB _) (cL (c_ (Hb fA (ev 5) (ev 2)) (cL (B7 fA (AH fA (ev 2) (ev 3)) (ev 5) tP)) iu))) (cL (qJ a_ (by rfl) (mW (iN T.di T.iG (ev 4))) (m3 _) (kj (i:=5) Bm.nd (by rfl) (by walk_at "o")) (lB _) (cL (c_ (Hb fA (ev 5) (ev 2)) (cL (B7 fA (AH fA (ev 2) (ev 5)) (ev 3) tP)) iu))))))) (cL (fM (ev 2)))))))
theorem zmz(F:cO K "earliest_free" "earliest_free" NB dV f fd)  : bE P w K mg base (dP P w) 1 f fd ["seconds", "left"] (fE 2 (Cp c)):=
 gX F T2 λ_ _ _ _ _ _ hr fA dI=>by exact(cA (qJ a_ (by rfl) (mW (ev 1)) (m3 _) (kj (i:=2) T2.nd (by rfl) (by walk_at "o")) (lB _) (cL (c_ (B4 (sO (Zdl (by rfl) (by rfl) T.Fb (R3 (xs:=["name", "seconds"]) (js:=[2,0]) (nts:=["first"]) (by rfl) ⟨rfl,by decide +kernel,rfl,by decide +kernel,(λp hp=>by rcases aF.mp hp with rfl | hp;(· rfl);rcases aH.mp hp with rfl;rfl),rfl,⟨(by walk_at "c"),⟨(by walk_at "c"),trivial⟩⟩⟩ (mW (ev 1)) (m3 _) (λ_ _ _=>(kj (i:=0) (show(["first", "name", "seconds"]:List Str).Nodup by decide +kernel) (by rfl) (by walk_at "o"))) (lB _) (λ_ _ _=>(Z9 fA (ev 1) (AH fA (ev 2) (ev 0)))) rT)))) (cL (fM (ev 2))) iu))) (cL (fM sM)))
theorem zog(F:cO K "ring_through" "ring_through" NC dV f fd)  : bE P w K mg base (dP P w) 1 f fd ["seconds", "start"] (fE 2 (HW c)):=
 bE.eL (gX F Bn λ_ _ _ _ _ _ hr fA dI=>by exact(cA (gW (i:=2) Bn.nd (by rfl) (by walk_at "o") (o6 (bh (o6 (bh (ev 1) bY)) bY))) (cA (gW (i:=3) Bn.nd (by rfl) (by walk_at "o") (z7t (ev 1) tP)) (cA (Hg a_ (sO (ev 2)) (cA (gW (i:=4) Bn.nd (by rfl) (by walk_at "o") (qY bY)) (cA (qJ a_ (by rfl) (mW (ev 2)) (m3 _) (kj (i:=5) Bn.nd (by rfl) (by walk_at "o")) (lB _) (cL (qJ a_ (by rfl) (QS (AH fA (ev 0) (cj (ev 5) (Zdn cJ)))) RW (kj (i:=6) Bn.nd (by rfl) (by walk_at "o")) (lB _) (cA (c_ (fB dI (ev 6) (ev 1)) (cL (fM (ev 5))) iu) (cL (c_ (Ll fA (ev 6) (ev 3)) (cA (B7 fA (ev 3) (ev 6) tP) (cL (jM (vD (ev 4) (bh (qg (ev 5) (o6 (bh (ev 6) bY))) bY))))) iu)))))) (cL (gW (i:=2) Bn.nd (by rfl) (by walk_at "o") (ev 4)))))) (cL (fM (o6 bY)))))))
theorem zm0(F:cO K "shortest_ring" "shortest_ring" ND dV f fd)(G0:FnAt P w K mg base 1 "ring_through" ["seconds", "start"] (HW c) f0 g0):bE P w K mg base (dP P w) 2 f fd ["seconds"] (fE 1 (EX c)):=
 gX F T3 λ_ _ _ _ _ _ hr fA dI=>by exact(cA (Ly (i:=1) (xs:=["seconds"]) (js:=[0]) (nts:=["name"]) (by rfl) ⟨rfl,by decide +kernel,rfl,by decide +kernel,(λp hp=>by rcases aH.mp hp with rfl;rfl),rfl,⟨(by walk_at "c"),trivial⟩⟩ (QS (ev 0)) RW (λ_ _ _=>(kj (i:=0) (show(["name", "seconds"]:List Str).Nodup by decide +kernel) (by rfl) (by walk_at "o"))) (lB _) (λ_ _ _=>(Hz G0 hr (by rfl) AN (bh (ev 1) (bh (ev 0) bY)))) rT T3.nd (by rfl) (by walk_at "o") Cc) (cL (fM (z3s (by rfl) (by rfl) T.Fc (by rfl) T.nV (B' (xs:=[]) (js:=[]) (nts:=["ring"]) (by rfl) ⟨rfl,by decide +kernel,rfl,by decide +kernel,(λp hp=>absurd hp cx),rfl,trivial⟩ (mW (ev 1)) (m3 _) (λ_ _ _=>(kj (i:=0) (show(["ring"]:List Str).Nodup by decide +kernel) (by rfl) (by walk_at "o"))) (lB _) (λ_ _ _=>(sO (ev 0))) (λ_ _ _=>(ev 0)) rT)))))
theorem zm1(F:cO K "__init__" "Ring.__init__" NF dV f fd)(q:pz K c.ring f=true):bE P w K mg base (dP P w) 1 f fd ["self", "ring"] (xJ c.ring "ring"):=
 z3t F zmw T.xT q T.pI (λgT A outer s H E hr=>Gn (JI (Rb (by rfl) T.mM T.TQ T.TR T.TU (u4 (uW (i:=0) (by rfl) (by first | exact eF rfl | exact cM (eF rfl) | exact cM (cM rfl))) (u4 (Q3 (.cons Gk (.cons (z3q hr.gd hr.units (uW (i:=1) (by rfl) (by first | exact eF rfl | exact cM (eF rfl) | exact cM (cM rfl)))) .nil))) y_)))) (JG (K3 (uW (i:=0) (by rfl) (by first | exact eF rfl | exact cM (eF rfl) | exact cM (cM rfl))) (Qg Kf (by rfl) T.j8 Jv (u4 (uW (i:=1) (by rfl) (by first | exact eF rfl | exact cM (eF rfl) | exact cM (cM rfl))) y_)) (by rfl)))) (z3v "the wishes go round: " (by decide)) (z02 K)
theorem zo4(F:cO K "order_among" "order_among" NG dV f fd)(G0:FnAt P w K mg base 2 "seconds_of" ["hall", "names"] (EV c) f0 g0)(G1:FnAt P w K mg base 2 "earliest_free" ["seconds", "left"] (Cp c) f1 g1)(G2:FnAt P w K mg base 2 "shortest_ring" ["seconds"] (EX c) f2 g2)(G3:L' P w K mg base 1 c.ring "ring" ["self", "ring"] f3 g3):bE P w K mg base (dP P w) 3 f fd ["hall", "names"] (fE 2 (wI c)):=
 gX F Fe λ_ _ _ _ _ _ hr fA dI=>by exact(cA (gW (i:=2) Fe.nd (by rfl) (by walk_at "o") (gH G0 hr (by rfl) ee (bh (ev 0) (bh (ev 1) bY)))) (cA (gW (i:=3) Fe.nd (by rfl) (by walk_at "o") (Lr (by rfl) (by rfl) T.j8 (ev 1))) (cA (gW (i:=4) Fe.nd (by rfl) (by walk_at "o") (qY bY)) (cA (Hg a_ (sO (ev 3)) (cA (gW (i:=5) Fe.nd (by rfl) (by walk_at "o") (gH G1 hr (by rfl) ee (bh (ev 2) (bh (ev 3) bY)))) (cA (c_ (AG (ev 5) sM) (cL (z3u Rf (by rfl) G3.q G3.hf G3.ok hr G3.hb (by rfl) T.vP (bh (gH G2 hr (by rfl) ee (bh (ev 2) bY)) bY))) iu) (cA (jM (Sh (ev 3) (bh (ev 5) bY))) (cL (jM (vD (ev 4) (bh (ev 5) bY)))))))) (cL (fM (ev 4)))))))
theorem zoh(F:cO K "__init__" "Run.__init__" NH dV f fd)  : bE P w K mg base (dP P w) 1 f fd ["self", "kind", "rule", "number", "deeds"] (fE 5 (EY c)):=
 gX F zod λ_ _ _ _ _ _ hr fA dI=>by exact(cA (mw T.cp T.gn (ev 0) (ev 1)) (cA (mw T.cp T.nU (ev 0) (ev 2)) (cA (mw T.cp T.dA (ev 0) (ev 3)) (cA (mw T.cp T.iZ (ev 0) (Lr (by rfl) (by rfl) T.j8 (ev 4))) (cA (mw T.cp T.ll (ev 0) (qY bY)) (cA (mw T.cp T.ju (ev 0) tP) (cA (mw T.cp T.j7 (ev 0) (qY bY)) (cA (mw T.cp T.j6 (ev 0) sM) (cL (mw T.cp T.jt (ev 0) (qY bY)))))))))))
theorem zq6(F:cO K "begin_over" "begin_over" NI dV f fd)(G0:fY P w K mg base 3 c.hall "find_place" ["self", "name"] (xK c) f0 g0)(G1:FnAt P w K mg base 3 "order_among" ["hall", "names"] (wI c) f1 g1)(G2:fY P w K mg base 3 c.hall "find_piece" ["self", "name"] (vL c) f2 g2)(G3:rW P w K mg base 2 "Run" c.run ["self", "kind", "rule", "number", "deeds"] (EY c) f3 g3):bE P w K mg base (dP P w) 4 f fd ["hall", "place", "names", "number"] (fE 4 (vO c)):=
 gX F NJ λ_ _ _ _ _ _ hr fA dI=>by exact(cA (gW (i:=4) NJ.nd (by rfl) (by walk_at "o") (pF G0 hr ee (ev 0) (bh (ev 1) bY))) (cA (Ly (i:=5) (xs:=["hall"]) (js:=[0]) (nts:=["name"]) (by rfl) ⟨rfl,by decide +kernel,rfl,by decide +kernel,(λp hp=>by rcases aH.mp hp with rfl;rfl),rfl,⟨(by walk_at "c"),trivial⟩⟩ (mW (gH G1 hr (by rfl) ee (bh (ev 0) (bh (ev 2) bY)))) (m3 _) (λ_ _ _=>(kj (i:=0) (show(["name", "hall"]:List Str).Nodup by decide +kernel) (by rfl) (by walk_at "o"))) (lB _) (λ_ _ _=>(nB (bh (ev 0) (bh (iN T.di T.lT (z7w G2 hr AN (ev 1) (bh (ev 0) bY))) bY)))) rT NJ.nd (by rfl) (by walk_at "o") Cc) (cL (fM (LI G3 hr (by rfl) ee (bh (iN T.lU T.lV (ev 4)) (bh (iN T.lU T.lW (ev 4)) (bh (ev 3) (bh (ev 5) bY)))))))))
theorem zx9(F:cO K "at" "Hall.at" NK dV f fd)(G0:fY P w K mg base 1 c.hall "find_place" ["self", "name"] (xK c) f0 g0):bE P w K mg base (dP P w) 2 f fd ["self", "place"] (fE 2 (q0 c)):=
 gX F zx5 λ_ _ _ _ _ _ hr fA dI=>by exact(cA (jM (pF G0 hr ee (ev 0) (bh (ev 1) bY))) (cL (fM (z7s (xs:=["place"]) (js:=[1]) (nts:=["name", "piece"]) (by rfl) ⟨rfl,by decide +kernel,rfl,by decide +kernel,(λp hp=>by rcases aH.mp hp with rfl;rfl),rfl,⟨(by walk_at "c"),trivial⟩⟩ (iN T.fP T.ei (ev 0))  (λ_ _ _=>(Pq (by rfl) (Gq (kj (i:=0) (show(["name", "piece", "place"]:List Str).Nodup by decide +kernel) (by rfl) (by walk_at "o")) (Gq (kj (i:=1) (show(["name", "piece", "place"]:List Str).Nodup by decide +kernel) (by rfl) (by walk_at "o")) Pp)))) (RQ _ _ _) (λ_ _ _=>((B3 (fB dI (iN T.di T.kW (ev 1)) (ev 2)) (B2 (sO (iN T.di T.lj (ev 1)))))).pt) (λ_ _ _=>(ev 0)) rT))))
theorem z3y(F:cO K "begin" "begin" NM dV f fd)(G0:FnAt P w K mg base 4 "begin_over" ["hall", "place", "names", "number"] (vO c) f0 g0)(G1:fY P w K mg base 4 c.hall "at" ["self", "place"] (q0 c) f1 g1):bE P w K mg base (dP P w) 5 f fd ["hall", "place", "number"] (fE 3 (Bi c)):=
 gX F z3w λ_ _ _ _ _ _ hr fA dI=>by exact(cL (fM (gH G0 hr (by rfl) ee (bh (ev 0) (bh (ev 1) (bh (pF G1 hr ee (ev 0) (bh (ev 1) bY)) (bh (ev 2) bY)))))))
theorem z3z(F:cO K "order" "order" NN dV f fd)(G0:FnAt P w K mg base 3 "order_among" ["hall", "names"] (wI c) f0 g0)(G1:fY P w K mg base 3 c.hall "at" ["self", "place"] (q0 c) f1 g1):bE P w K mg base (dP P w) 4 f fd ["hall", "place"] (fE 2 (Bj c)):=
 gX F z3x λ_ _ _ _ _ _ hr fA dI=>by exact(cL (fM (gH G0 hr (by rfl) ee (bh (ev 0) (bh (pF G1 hr ee (ev 0) (bh (ev 1) bY)) bY)))))
theorem zm2(F:cO K "begin_without" "begin_without" NO dV f fd)(G0:fY P w K mg base 4 c.hall "at" ["self", "place"] (q0 c) f0 g0)(G1:FnAt P w K mg base 4 "begin_over" ["hall", "place", "names", "number"] (vO c) f1 g1):bE P w K mg base (dP P w) 5 f fd ["hall", "place", "name", "number"] (fE 4 (E7 c)):=
 gX F T4 λ_ _ _ _ _ _ hr fA dI=>by exact(cA (LA (i:=4) (xs:=["name"]) (js:=[2]) (nts:=["other"]) (by rfl) ⟨rfl,by decide +kernel,rfl,by decide +kernel,(λp hp=>by rcases aH.mp hp with rfl;rfl),rfl,⟨(by walk_at "c"),trivial⟩⟩ (mW (pF G0 hr ee (ev 0) (bh (ev 1) bY))) (m3 _) (λ_ _ _=>(kj (i:=0) (show(["other", "name"]:List Str).Nodup by decide +kernel) (by rfl) (by walk_at "o"))) (lB _) (λ_ _ _=>(pB dI (ev 0) (ev 1))) (λ_ _ _=>(ev 0)) rT T4.nd (by rfl) (by walk_at "o") Cc) (cL (fM (gH G1 hr (by rfl) ee (bh (ev 0) (bh (ev 1) (bh (ev 4) (bh (ev 3) bY))))))))
theorem zs4(F:cO K "mattering" "mattering" NP dV f fd)(G0:FnAt P w K mg base 7 "outcome" ["run"] (Bf c) f0 g0)(G1:FnAt P w K mg base 7 "begin" ["hall", "place", "number"] (Bi c) f1 g1)(G2:FnAt P w K mg base 7 "order" ["hall", "place"] (Bj c) f2 g2)(G3:FnAt P w K mg base 7 "begin_without" ["hall", "place", "name", "number"] (E7 c) f3 g3):bE P w K mg base (dP P w) 8 f fd ["hall", "place", "number"] (fE 3 (xO c)):=
 gX F T5 λ_ _ _ _ _ _ hr fA dI=>by exact(cA (gW (i:=3) T5.nd (by rfl) (by walk_at "o") (gH G0 hr (by rfl) ee (bh (gH G1 hr (by rfl) ee (bh (ev 0) (bh (ev 1) (bh (ev 2) bY)))) bY))) (cL (fM (B' (xs:=["whole", "hall", "place", "number"]) (js:=[3,0,1,2]) (nts:=["name"]) (by rfl) ⟨rfl,by decide +kernel,rfl,by decide +kernel,(λp hp=>by rcases aF.mp hp with rfl | hp;(· rfl);rcases aF.mp hp with rfl | hp;(· rfl);rcases aF.mp hp with rfl | hp;(· rfl);rcases aH.mp hp with rfl;rfl),rfl,⟨(by walk_at "c"),⟨(by walk_at "c"),⟨(by walk_at "c"),⟨(by walk_at "c"),trivial⟩⟩⟩⟩⟩ (mW (gH G2 hr (by rfl) ee (bh (ev 0) (bh (ev 1) bY)))) (m3 _) (λ_ _ _=>(kj (i:=0) (show(["name", "whole", "hall", "place", "number"]:List Str).Nodup by decide +kernel) (by rfl) (by walk_at "o"))) (lB _) (λ_ _ _=>(pB dI (Hz G0 hr (by rfl) AN (bh (Hz G3 hr (by rfl) AN (bh (ev 2) (bh (ev 3) (bh (ev 0) (bh (ev 4) bY))))) bY)) (ev 1))) (λ_ _ _=>(ev 0)) rT))))
theorem zve(F:cO K "_law_told" "_law_told" NQ dV f fd)(G0:FnAt P w K mg base 8 "mattering" ["hall", "place", "number"] (xO c) f0 g0):bE P w K mg base (dP P w) 9 f fd ["hall", "number"] (fE 2 (Cr c)):=
 gX F Io λ_ _ _ _ _ _ hr fA dI=>by exact(cA (gW (i:=2) Io.nd (by rfl) (by walk_at "o") sM) (cA (SD (js:=[2]) (fb:=(Ib c)) (λpn kn xe R hk Ap own=>(cL (gW (i:=2) Io.nd (by rfl) (by walk_at "o") (gH G0 hr (by rfl) Ap (bh (ev 0) (bh gP (bh (ev 1) bY)))) (hkn:=λu=>hk 2 (by decide) u)))) (Zdk (by rfl) T.vP T.xU (SO T.mro T.mh T.Bk) (λ_=>(cL (gW (i:=2) Io.nd (by rfl) (by walk_at "o") (nB (bh gP bY))))) Sz)) (cL (fM (ev 2)))))
theorem zs5(F:cO K "_law_round" "_law_round" Ip dV f fd)(mO:FnAt P w K mg base n "_law_round" ["rows", "number", "held"] Rc f fd):bE P w K mg base (dP P w) (n+1) f fd ["rows", "number", "held"] (fE 3 (cF 4 (xP Rc c))):=
 gX F T6 λ_ _ _ _ _ _ hr fA dI=>by exact(cA (c_ (fB dI (ev 0) (o6 bY)) (cL (fM (ev 1))) iu) (cA (gW (i:=3) T6.nd (by rfl) (by walk_at "o") (cj (cj (ev 0) cJ) cJ)) (cA (c_ (fB dI (cj (ev 3) cJ) gP) (cL (fM (cj (ev 3) cJ))) iu) (cA (c_ (fB dI (cj (ev 3) cJ) gP) (cL (fM (qg (B1 cJ (gH mO hr (by rfl) ee (bh (LL (ev 0) (LK cJ) LJ) (bh (qg (ev 1) (cj (ev 3) cJ)) (bh (ev 2) bY))))) (cj (ev 3) cJ)))) iu) (cA (c_ (fB dI (cj (ev 3) cJ) gP) (cL (jM (vD (ev 2) (bh (nB (bh (cj (cj (ev 0) cJ) cJ) (bh (cj (ev 3) cJ) bY))) bY)))) iu) (cL (fM (gH mO hr (by rfl) ee (bh (LL (ev 0) (LK cJ) LJ) (bh (ev 1) (bh (ev 2) bY)))))))))))
theorem zs6(F:cO K "_law_round" "_law_round" Ip dV f fd)(hm:mg "_law_round" = aa (.ref f))(hk:W.keepIn K (.ref f)=true)(hb:mH K fd ["rows", "number", "held"] [])(n:Nat):bE P w K mg base (dP P w) n f fd ["rows", "number", "held"] (fE 3 (Cs c n)):=by
 induction n with
 |zero=>exact Zbf
 |succ n ih=>exact zs5 P w base T F ⟨ih,hm,hk,hb⟩
theorem zvf(F:cO K "_law_said" "_law_said" NR dV f fd)  : bE P w K mg base (dP P w) 1 f fd ["deed", "number"] (fE 2 (uD c)):=
 gX F zu4 λ_ _ _ _ _ _ hr fA dI=>by exact(cA (c_ (fB dI (cj (ev 0) cJ) gP) (cL (fM (qg (ev 1) (cj (ev 0) cJ)))) iu) (cA (c_ (fB dI (cj (ev 0) cJ) gP) (cL (fM (cj (ev 0) cJ))) iu) (cL (fM sM))))
theorem zq7(F:cO K "_law_answer" "_law_answer" NU dV f fd)(G0:FnAt P w K mg base 24 "_law_round" ["rows", "number", "held"] (E8 c) f0 g0)(G1:FnAt P w K mg base 24 "_law_said" ["deed", "number"] (uD c) f1 g1):bE P w K mg base (dP P w) 25 f fd ["kind", "rows", "number", "held"] (fE 4 (xQ c)):=
 gX F Cv λ_ _ _ _ _ _ hr fA dI=>by exact(cA (c_ (fB dI (ev 0) gP) (cL (fM (gH G0 hr (by rfl) ee (bh (ev 1) (bh (ev 2) (bh (ev 3) bY)))))) iu) (cA (gW (i:=4) Cv.nd (by rfl) (by walk_at "o") (qY bY)) (cA (qJ a_ (by rfl) (mW (ev 1)) (m3 _) (Pq (by rfl) (Gq (kj (i:=5) Cv.nd (by rfl) (by walk_at "o")) (Gq (kj (i:=6) Cv.nd (by rfl) (by walk_at "o")) Pp))) (RQ _ _ _) (cA (gW (i:=7) Cv.nd (by rfl) (by walk_at "o") (gH G1 hr (by rfl) ee (bh (ev 6) (bh (ev 2) bY)))) (cL (c_ (fB dI (cj (ev 6) cJ) gP) (cL (jM (vD (ev 3) (bh (nB (bh (ev 5) (bh (cj (ev 6) cJ) bY))) bY)))) (cL (c_ ((B3 (fB dI (ev 0) gP) (B2 (Lj (ev 7) sM)))).pt (cL (fM (ev 7))) (cL (c_ (fB dI (ev 0) gP) (cL (jM (vD (ev 4) (bh (nB (bh (ev 5) (bh (ev 7) bY))) bY)))) (cL (c_ ((B3 (fB dI (ev 0) gP) (B2 (Lj (ev 7) sM)))).pt (cL (gW (i:=2) Cv.nd (by rfl) (by walk_at "o") (ev 7))) iu)))))))))) (cL (fM (AH fA (z7x gP (ev 4) gP sM gP (ev 2)) (ev 0)))))))
theorem zo5(F:cO K "_law_outcome" "_law_outcome" NV dV f fd)(G0:FnAt P w K mg base 25 "_law_answer" ["kind", "rows", "number", "held"] (xQ c) f0 g0):bE P w K mg base (dP P w) 26 f fd ["kind", "rule", "rows", "number"] (fE 4 (Ct c)):=
 bE.eL (gX F NW λ_ _ _ _ _ _ hr fA dI=>by exact(cA (gW (i:=4) NW.nd (by rfl) (by walk_at "o") (qY bY)) (cA (gW (i:=5) NW.nd (by rfl) (by walk_at "o") (gH G0 hr (by rfl) ee (bh (ev 0) (bh (ev 2) (bh (ev 3) (bh (ev 4) bY)))))) (cA (c_ ((B3 (fB dI (ev 1) gP) (B2 (pB dI (ev 4) (o6 bY))))).pt (cL (fM (nB (bh gP (bh (cj (ev 4) cJ) bY))))) iu) (cL (fM (nB (bh gP (bh (nB (bh (ev 5) (bh (ev 4) bY))) bY)))))))))
theorem zoi(F:cO K "_law_comes_to" "_law_comes_to" NX dV f fd)(G0:FnAt P w K mg base 26 "_law_order" ["names", "pairs"] (Ba c) f0 g0)(G1:FnAt P w K mg base 26 "_law_pairs" ["pieces", "names"] (Bb c) f1 g1)(G2:FnAt P w K mg base 26 "_law_outcome" ["kind", "rule", "rows", "number"] (Ct c) f2 g2):bE P w K mg base (dP P w) 27 f fd ["pieces", "names", "kind", "rule", "number"] (fE 5 (xR c)):=
 bE.eL (gX F Iq λ_ _ _ _ _ _ hr fA dI=>by exact(cA (gW (i:=5) Iq.nd (by rfl) (by walk_at "o") (gH G0 hr (by rfl) ee (bh (ev 1) (bh (gH G1 hr (by rfl) ee (bh (ev 0) (bh (ev 1) bY))) bY)))) (cA (gW (i:=6) Iq.nd (by rfl) (by walk_at "o") (qY bY)) (cA (qJ a_ (by rfl) (mW (ev 5)) (m3 _) (kj (i:=7) Iq.nd (by rfl) (by walk_at "o")) (lB _) (cL (jM (AI (ev 6) (bh (B' (xs:=["name"]) (js:=[7]) (nts:=["piece"]) (by rfl) ⟨rfl,by decide +kernel,rfl,by decide +kernel,(λp hp=>by rcases aH.mp hp with rfl;rfl),rfl,⟨(by walk_at "c"),trivial⟩⟩ (mW (ev 0)) (m3 _) (λ_ _ _=>(kj (i:=0) (show(["piece", "name"]:List Str).Nodup by decide +kernel) (by rfl) (by walk_at "o"))) (lB _) (λ_ _ _=>(fB dI (cj (ev 0) cJ) (ev 1))) (λ_ _ _=>(nB (bh (ev 1) (bh (cj (ev 0) cJ) bY)))) rT) bY))))) (cL (fM (gH G2 hr (by rfl) ee (bh (ev 2) (bh (ev 3) (bh (ev 6) (bh (ev 4) bY)))))))))))
theorem zs7(F:cO K "_law_texts" "_law_texts" NY dV f fd)  : bE P w K mg base (dP P w) 1 f fd ["found", "due"] (fE 2 (xS c)):=
 gX F T7 λ_ _ _ _ _ _ hr fA dI=>by exact(cA (c_ ((AE (B4 (sO (RM .list (by rfl) T.lZ (ev 0) (by rfl) T.j8 (by decide +kernel)))) (Lh (pB dI (Hd (by rfl) T.nV (ev 0)) (Hd (by rfl) T.nV (ev 1)))))).pt (cL (fM tP)) iu) (cA (qJ a_ (by rfl) (JN (by rfl) T.pK (bh (Hd (by rfl) T.nV (ev 1)) bY)) Lw (kj (i:=2) T7.nd (by rfl) (by walk_at "o")) (lB _) (cL (c_ ((AE (B4 (sO (RM .str (by rfl) T.lZ (cj (ev 0) (ev 2)) (by rfl) T.Fd (by decide +kernel)))) (Lh (pB dI (cj (ev 0) (ev 2)) (cj (ev 1) (ev 2)))))).pt (cL (fM tP)) iu))) (cL (fM tP))))
theorem Zbj(F:cO K "law" "law" Cw dV f fd)(G0:FnAt P w K mg base 27 "_law_set" ["script"] (A9 c) f0 g0)(G1:FnAt P w K mg base 27 "_law_cell_at" ["script", "k"] (r8 c) f1 g1)(G2:FnAt P w K mg base 27 "_law_hall" ["pieces", "kind", "rule"] (Cg c) f2 g2)(G3:FnAt P w K mg base 27 "_law_at_hub" ["pieces"] (Ci c) f3 g3)(G4:FnAt P w K mg base 27 "_law_order" ["names", "pairs"] (Ba c) f4 g4)(G5:FnAt P w K mg base 27 "_law_pairs" ["pieces", "names"] (Bb c) f5 g5)(G6:FnAt P w K mg base 27 "_law_told" ["hall", "number"] (Cr c) f6 g6)(G7:FnAt P w K mg base 27 "_law_comes_to" ["pieces", "names", "kind", "rule", "number"] (xR c) f7 g7)(G8:FnAt P w K mg base 27 "_law_texts" ["found", "due"] (xS c) f8 g8)(G9:fY P w K mg base 27 c.hall "at" ["self", "place"] (q0 c) f9 g9):bE P w K mg base (dP P w) 28 f fd ["script"] (fE 1 (TN c)):=
 bE.eL (gX F ud λ_ _ _ _ _ _ hr fA dI=>by exact(cA (gW (i:=1) ud.nd (by rfl) (by walk_at "o") (LL (gH G0 hr (by rfl) ee (bh (ev 0) bY)) LJ (LK cJ))) (cA (gW (i:=2) ud.nd (by rfl) (by walk_at "o") (cj (o6 (bh gP (bh gP (bh gP (bh gP bY))))) (oy (gH G1 hr (by rfl) ee (bh (ev 0) (bh cJ bY))) cJ))) (cA (gW (i:=3) ud.nd (by rfl) (by walk_at "o") (cj (o6 (bh gP (bh gP bY))) (oy (vx (gH G1 hr (by rfl) ee (bh (ev 0) (bh cJ bY))) cJ) cJ))) (cA (gW (i:=4) ud.nd (by rfl) (by walk_at "o") (K_ (oy (gH G1 hr (by rfl) ee (bh (ev 0) (bh cJ bY))) cJ) cJ)) (cA (gW (i:=5) ud.nd (by rfl) (by walk_at "o") (gH G2 hr (by rfl) ee (bh (ev 1) (bh (ev 2) (bh (ev 3) bY))))) (cA (gW (i:=6) ud.nd (by rfl) (by walk_at "o") (gH G3 hr (by rfl) ee (bh (ev 1) bY))) (cA (gW (i:=7) ud.nd (by rfl) (by walk_at "o") (gH G4 hr (by rfl) ee (bh (ev 6) (bh (gH G5 hr (by rfl) ee (bh (ev 1) (bh (ev 6) bY))) bY)))) (cA (gW (i:=8) ud.nd (by rfl) (by walk_at "o") (gH G6 hr (by rfl) ee (bh (ev 5) (bh (ev 4) bY)))) (cA (c_ (AG (ev 7) sM) (cL (fM (Lb dI (ev 8) (nB (bh gP bY))))) iu) (cA (gW (i:=9) ud.nd (by rfl) (by walk_at "o") (gH G7 hr (by rfl) ee (bh (ev 1) (bh (ev 6) (bh (ev 2) (bh (ev 3) (bh (ev 4) bY))))))) (cA (gW (i:=10) ud.nd (by rfl) (by walk_at "o") (qY bY)) (cA (qJ a_ (by rfl) (mW (ev 7)) (m3 _) (kj (i:=11) ud.nd (by rfl) (by walk_at "o")) (lB _) (cA (LA (i:=12) (xs:=["name"]) (js:=[11]) (nts:=["other"]) (by rfl) ⟨rfl,by decide +kernel,rfl,by decide +kernel,(λp hp=>by rcases aH.mp hp with rfl;rfl),rfl,⟨(by walk_at "c"),trivial⟩⟩ (mW (ev 6)) (m3 _) (λ_ _ _=>(kj (i:=0) (show(["other", "name"]:List Str).Nodup by decide +kernel) (by rfl) (by walk_at "o"))) (lB _) (λ_ _ _=>(pB dI (ev 0) (ev 1))) (λ_ _ _=>(ev 0)) rT ud.nd (by rfl) (by walk_at "o") Cc) (cL (c_ (pB dI (gH G7 hr (by rfl) ee (bh (ev 1) (bh (ev 12) (bh (ev 2) (bh (ev 3) (bh (ev 4) bY)))))) (ev 9)) (cL (jM (vD (ev 10) (bh (ev 11) bY)))) iu)))) (cL (fM (ZX (gH G8 hr (by rfl) ee (bh (ev 8) (bh (ev 10) bY))) (ZW (gH G8 hr (by rfl) ee (bh (pF G9 hr ee (ev 5) (bh gP bY)) (bh (ev 6) bY))))))))))))))))))))
end
end K08
namespace DN
open PySem L2 MF
variable {c:Cl}{S:bI}
noncomputable def cellAt(ns:List Int)(k:Int):Int:=if k<ns.length then ns.getD k.toNat 0 else 0
theorem Ff(ns:List Int)(k:Int)(hk:0<=k):r8 c [.lst (ns.map .int),.int k] S=.ok (.int (cellAt ns k)) S:=by
 unfold cellAt;by_cases h:k<ns.length
 .have hh:k.toNat<ns.length:=by omega
  simp[r8,Mh,h,Sl hk,hh]
 .simp[r8,Mh,h]
def xX:Str := "abcdefghijklmnopqrstuvwxyz"
noncomputable def ue(i:Int):Str:=⟨#[xX.cps[i.toNat]?.getD 0]⟩
theorem zya:xX.cps.toList.length=26:=by decide +kernel
theorem T8:xX.length<=1000:=by decide +kernel
theorem T9{i:Int}(h0:0<=i)(h1:i<26):kA xX.cps.toList i=aa (xX.cps[i.toNat]?.getD 0):=by
 have hl:=zya;rw[Sl h0 (by omega),kb];have:i.toNat<xX.cps.size:=by rw[<- iA];omega
 rw[o_ this];rfl
noncomputable def sS(k:Int):Str:=if k%3=1 then ue (k%26) else p9 eZ ((cn (2+k%11).toNat).map λ(j:Nat)=>ue ((k+5*(j:Int))%26))
theorem Ir:∀(l:List Str),ux (l.map T.str)=aa l
 |[]=>rfl
 | a::r=>by
   rw[aC];unfold ux;rw[Ir r];rfl
theorem zyb(i:Int):(ue i).length=1:=rfl
theorem T_(k:Int):∀l:List Nat,((l.map λ(j:Nat)=>ue ((k+5*(j:Int))%26)).map (·.length)).sum=l.length
 |[]=>rfl
 | a::r=>by
   have:=T_ k r;simp only[aC,BJ,aY,zyb] at this ⊢;omega
theorem NZ(k:Int):wF c [.int k] S=.ok (.str (sS k)) S:=by
 have h26:=fD k (show(26:Int)≠0 by decide);have N0:=dZ k (show(0:Int)<26 by decide);have hL:(ao "abcdefghijklmnopqrstuvwxyz")=xX:=rfl;unfold sS;by_cases h:k%3=1
 .have ha:=T9 h26 N0
  simp[wF,Ml,h,hL,T8,ha,ue]
 .have Ua:=fD k (show(11:Int)≠0 by decide)
  have h11':=dZ k (show(0:Int)<11 by decide);have hb:-1000000<=2+k%11/\2+k%11<=1000000:=by omega
  have hm:∀t∈rS 0 (2+k%11).toNat,Mi c [aa t,aa (.str xX),aa (.int k)] S=.ok ((λt=>match t with|.int j=>T.str (ue ((k+5*j)%26)) | _=>.bH) t) S:=by
   intro t ht;obtain⟨j,hj,rfl⟩:=aq.mp ht;have m1:=fD (k+5*(0+(j:Int))) (show(26:Int)≠0 by decide);have m2:=dZ (k+5*(0+(j:Int))) (show(0:Int)<26 by decide);have ha:=T9 m1 m2;rw[F_] at ha;simp[Mi,T8,ha,ue]
  have hc:=Hn (ρ:=[aa (.int k),aa (.str xX)]) (S:=S) (js:=[1,0]) (it:=Mj c) (ts:=rS 0 (2+k%11).toNat) (st:=λ_=>True) (by simp[Mj,hb]) trivial (by rw[Ep];omega) hm;have Bo:=T_ k (cn (2+k%11).toNat);rw[List.length_range] at Bo;have e3:(rS 0 (2+k%11).toNat).map (λt=>match t with|.int j=>T.str (ue ((k+5*j)%26)) | _=>.bH)=((cn (2+k%11).toNat).map λ(j:Nat)=>ue ((k+5*(j:Int))%26)).map T.str:=by
   unfold rS;rw[bO,bO];refine dg λj _=>?_;show T.str (ue ((k+5*(0+(j:Int)))%26))=T.str (ue ((k+5*(j:Int))%26));rw[F_]
  rw[e3] at hc;have cK:((cn (2+k%11).toNat).map λ(j:Nat)=>ue ((k+5*(j:Int))%26)).length<=13:=by simp;omega
  generalize ((cn (2+k%11).toNat).map λ(j:Nat)=>ue ((k+5*(j:Int))%26))=l at hc Bo cK ⊢;have vQ:(l.map (·.length)).sum+l.length*eZ.length<=100000:=by
   rw[Bo,show eZ.length=0 from rfl];omega
  have hj:B9 (.str eZ) [.lst (l.map T.str)] S=.ok (.str (p9 eZ l)) S:=by
   unfold B9;simp only[LP,jm,Ir,if_pos vQ]
  have he:ao "" = eZ:=rfl;simp[wF,Ml,h,hL,hc,he,Hf,hj]
noncomputable def xY(x:Int):Int:=if x / 8%9=4 then x%10 ^ 25-10 ^ 24 else x / 8%2001-1000
noncomputable def zy(x:Int):T:=if x%8=3 then .tup [.str "say",.int (xY x)] else if x%8=4 then .tup [.str "none"] else if x%8=5 then .tup [.str "fail",.int (xY x)] else .tup [.str "add",.int (xY x)]
theorem Zbk(x:Int):EH c [.int x] S=.ok (zy x) S:=by
 unfold zy xY;by_cases h1:x / 8%9=4<;>by_cases h2:x%8=3<;>by_cases h3:x%8=4<;>by_cases h4:x%8=5<;>first
  |omega
  |simp[EH,Tc,h1,h2,h3,h4]
noncomputable def sT(x cB:Int):List Str:=if x%4>1 then[] else if x%4=1 then[sS (x / 4%cB),sS (x / 64%cB)] else[sS (x / 4%cB)]
theorem Zbl(x cB:Int)(hm:0<cB):wG c [.int x,.int cB] S=.ok (aD (sT x cB)) S:=by
 unfold sT aD;by_cases h1:1<x%4
 .simp[wG,HA,h1]
 .by_cases h2:x%4=1
  .simp[wG,HA,h1,h2,hm,NZ]
  .simp[wG,HA,h1,h2,hm,NZ]
structure Pc where
 nm:Str
 pl:Str
 dd:T
 w0:List Str
 w1:List Str
 w2:List Str
 w3:List Str
 on:Bool
def Pc.t(p:Pc):T:=.tup [.str p.nm,.str p.pl,p.dd,.lst [aD p.w0,aD p.w1,aD p.w2,aD p.w3],.bl p.on]
noncomputable def zA(x:Int):Str:=if x / 4096%4=3 then "side" else "hub"
noncomputable def kE(ns:List Int)(start cB:Int)(k:Nat):Pc:=
 { nm:=sS k,pl:=zA (cellAt ns (start+3*k)),dd:=zy (cellAt ns (start+3*k)),
   w0:=sT (cellAt ns (start+3*k+1)) (cB+1),w1:=sT (cellAt ns (start+3*k+1) / 7) (cB+1),
   w2:=sT (cellAt ns (start+3*k+2)) (cB+1),w3:=sT (cellAt ns (start+3*k+2) / 7) (cB+1),on:=!decide (cellAt ns (start+3*k) / 64%6=1) }
noncomputable def q5(ns:List Int)(start cB:Int):List Pc:=(cn cB.toNat).map (kE ns start cB)
theorem zyc(x:Int):kA [T.str "hub",T.str "hub",T.str "hub",T.str "side"] (x / 4096%4)=aa (.str (zA x)):=by
 have h1:=fD (x / 4096) (show(4:Int)≠0 by decide);have h2:=dZ (x / 4096) (show(0:Int)<4 by decide);unfold zA;have:x / 4096%4=0\/x / 4096%4=1\/x / 4096%4=2\/x / 4096%4=3:=by omega
 rcases this with h | h | h | h<;>rw[h]<;>rfl
theorem z70(n:Nat)(x:Int):HB n (zy x):=by
 unfold zy
 split
 .exact vG (by simp)
 .split
  .exact vG (by simp)
  .split
   .exact vG (by simp)
   .exact vG (by simp)
theorem Zdp(n:Nat)(p:Pc)(h:HB n p.dd):HB n p.t:=vG (by
 intro t ht;simp only[aF,cx,or_false] at ht;rcases ht with rfl | rfl | rfl | rfl | rfl
 .simp
 .simp
 .exact h
 .exact Hq (by
   intro t ht;simp only[aF,cx,or_false] at ht;rcases ht with rfl | rfl | rfl | rfl<;>exact Sq _)
 .simp)
theorem Ub{n:Nat}{pre:List T}{t:T}{post:List T}(h:rS 0 n=pre++t::post):pre.length<n/\t=.int pre.length:=by
 have hl:pre.length<(rS 0 n).length:=by rw[h];simp
 rw[Ep] at hl;have e:=RU (lo:=0) hl;rw[h,c8 (az _),ki] at e;simp at e;exact⟨hl,e⟩
theorem Fg{S:bI}{x y:cg}:(S++[x]).set S.length y=S++[y]:=by
 rw[kq _ _ (az _),ki];rfl
theorem qm{S:bI}{x:cg}:(S++[x])[S.length]?=aa x:=by simp
theorem z30(ns:List Int)(start cB:Int)(hs:0<=start)(hm0:0<=cB)(hm:cB<=100) :
  HC c [.lst (ns.map .int),.int start,.int cB] S=.ok (.lst ((q5 ns start cB).map Pc.t)) S:=by
 have run:cF 10 (Mn c) [.lst (ns.map .int),.int start,.int cB] S=.ok (.obj S.length) (S++[.lst ((q5 ns start cB).map Pc.t)]):=by
  have hb:-1000000<=cB/\cB<=1000000:=by omega
  obtain⟨ρ',S',e,q⟩:=AV (ρ:=[aa (.lst (ns.map .int)),aa (.int start),aa (.int cB),aa (.obj S.length),ae,ae,ae,ae,ae,ae]) (S:=S++[.lst []])
   (it:=AJ (aV (ah 2) aK)) (g:=eE 4) (ts:=rS 0 cB.toNat) (st:=λ_=>True) (S1:=S++[.lst []]) (body:=Mm c)
   (λpre ρ S1=>(∃a1 a2 a3 a4 a5 a6,ρ=[aa (.lst (ns.map .int)),aa (.int start),aa (.int cB),aa (.obj S.length),a1,a2,a3,a4,a5,a6])/\S1=S++[.lst (((cn pre.length).map (kE ns start cB)).map Pc.t)])
   (by simp[hb]) ⟨⟨_,_,_,_,_,_,rfl⟩,rfl⟩ (λpre t post ρ S1 Bp ⟨⟨a1,a2,a3,a4,a5,a6,hρ⟩,hS⟩=>by
    obtain⟨qh,rfl⟩:=Ub Bp;subst hρ hS;refine⟨trivial,_,rfl,?_⟩;have c1:0<=start+3*(pre.length:Int):=by omega
    have c2:0<=start+3*(pre.length:Int)+1:=by omega
    have c3:0<=start+3*(pre.length:Int)+2:=by omega
    have hmm:0<cB+1:=by omega
    have cK:(((cn pre.length).map (kE ns start cB)).map Pc.t).length<1000:=by simp;omega
    have N1:(((cn (pre++[T.int pre.length]).length).map (kE ns start cB)).map Pc.t)=(((cn pre.length).map (kE ns start cB)).map Pc.t)++[(kE ns start cB pre.length).t]:=by
     rw[aO,ba,List.range_succ,bo,bo];rfl
    rw[N1];generalize (((cn pre.length).map (kE ns start cB)).map Pc.t)=acc at cK ⊢;have l7:=vF (S:=S++[.lst acc]) (k:=S.length) (y:=(kE ns start cB pre.length).t) qm cK;rw[Fg] at l7;have cD:=nS (S:=S++[.lst acc]) (k:=S.length) qm;refine⟨[aa (.lst (ns.map .int)),aa (.int start),aa (.int cB),aa (.obj S.length),aa (.int pre.length),aa (.int (cellAt ns (start+3*pre.length))),aa (.int (cellAt ns (start+3*pre.length+1))),aa (.int (cellAt ns (start+3*pre.length+2))),aa (.str (zA (cellAt ns (start+3*pre.length)))),
     aa (.lst [aD (kE ns start cB pre.length).w0,aD (kE ns start cB pre.length).w1,aD (kE ns start cB pre.length).w2,aD (kE ns start cB pre.length).w3])],S++[.lst (acc++[(kE ns start cB pre.length).t])],?_,⟨_,_,_,_,_,_,rfl⟩,rfl⟩
    have hT:(kE ns start cB pre.length).t=T.tup [T.str (sS pre.length),T.str (zA (cellAt ns (start+3*pre.length))),zy (cellAt ns (start+3*pre.length)),T.lst [aD (sT (cellAt ns (start+3*pre.length+1)) (cB+1)),aD (sT (cellAt ns (start+3*pre.length+1) / 7) (cB+1)),aD (sT (cellAt ns (start+3*pre.length+2)) (cB+1)),aD (sT (cellAt ns (start+3*pre.length+2) / 7) (cB+1))],T.bl (!decide (cellAt ns (start+3*pre.length) / 64%6=1))]:=rfl;rw[hT] at l7 ⊢;simp[Mm,Ff,NZ,Zbk,Zbl,c1,c2,c3,hmm,zyc,cD,l7,kE]) (λ_ _ _=>trivial)
  obtain⟨⟨a1,a2,a3,a4,a5,a6,rfl⟩,rfl⟩:=q;rw[Ep] at e;simp[Mn,e,q5]
 refine LS run (by simp) (az _) qm λt ht=>?_;obtain⟨p,hp,rfl⟩:=aq.mp ht;obtain⟨k,_,rfl⟩:=aq.mp hp;exact Zdp _ _ (z70 _ _)
end DN
namespace DN
open PySem L2 MF
variable {c:Cl}{S:bI}
structure jj where
 nm:Str
 kind:Str
 rule:Str
 i:Nat
structure HP where
 nm:Str
 pl:Str
 dd:T
 br:Option Str
 on:Bool
 w0:List Str
 w1:List Str
 w2:List Str
 w3:List Str
 i:Nat
noncomputable def Uc:Option Str->T
 |none=>.bH
 |some x=>.str x
def HP.fs(p:HP):List (Str×T):=[("place",.str p.pl),("deed",p.dd),("by",Uc p.br),("on",.bl p.on),("ahead",.obj (p.i+1)),("behind",.obj (p.i+2)),("needs",.obj (p.i+3)),("bars",.obj (p.i+4))]
def HP.block(c:Cl)(p:HP):List cg:=[.ins c.piece p.fs,.lst (p.w0.map .str),.lst (p.w1.map .str),.lst (p.w2.map .str),.lst (p.w3.map .str)]
structure mP(c:Cl)(S:bI)(p:HP):Prop where
 o:S[p.i]?=aa (.ins c.piece p.fs)
 a0:S[p.i+1]?=aa (.lst (p.w0.map .str))
 a1:S[p.i+2]?=aa (.lst (p.w1.map .str))
 a2:S[p.i+3]?=aa (.lst (p.w2.map .str))
 a3:S[p.i+4]?=aa (.lst (p.w3.map .str))
noncomputable def nW(pl:List jj):List (bZ×T):=pl.map λq=>(.inr q.nm,.obj q.i)
noncomputable def ja(ps:List HP):List (bZ×T):=ps.map λp=>(.inr p.nm,.obj p.i)
noncomputable def qo(h:Nat):List (Str×T):=[("places",.obj (h+1)),("pieces",.obj (h+2))]
structure ik(c:Cl)(S:bI)(h:Nat)(pl:List jj)(ps:List HP):Prop where
 hall:S[h]?=aa (.ins c.hall (qo h))
 places:S[h+1]?=aa (.dic (nW pl))
 pieces:S[h+2]?=aa (.dic (ja ps))
 place:∀q∈pl,S[q.i]?=aa (.ins c.place [("kind",.str q.kind),("rule",.str q.rule)])
 piece:∀p∈ps,mP c S p
 uf:∀p∈ps,h+3<=p.i
 pw:ps.Pairwise λp q=>p.i+5<=q.i
 nd:(ps.map (·.nm)).Nodup
theorem N2(x:Str):∀(ps:List HP),dR (ja ps) (.inr x)=(ps.find? λp=>decide (p.nm=x)).map λp=>T.obj p.i
 |[]=>rfl
 | p :: ps=>by
   have ih:=N2 x ps;by_cases h:p.nm=x
   .have:dR (ja (p::ps)) (.inr x)=aa (.obj p.i):=by simp[dR,ja,h]
    rw[this];simp[h]
   .have e:dR (ja (p::ps)) (.inr x)=dR (ja ps) (.inr x):=by
     simp[dR,ja,bU,h]
    rw[e,ih];simp[h]
theorem N3(x:Str):∀(pl:List jj),dR (nW pl) (.inr x)=(pl.find? λp=>decide (p.nm=x)).map λp=>T.obj p.i
 |[]=>rfl
 | p :: ps=>by
   have ih:=N3 x ps;by_cases h:p.nm=x
   .have:dR (nW (p::ps)) (.inr x)=aa (.obj p.i):=by simp[dR,nW,h]
    rw[this];simp[h]
   .have e:dR (nW (p::ps)) (.inr x)=dR (nW ps) (.inr x):=by
     simp[dR,nW,bU,h]
    rw[e,ih];simp[h]
@[simp]theorem Zfg(C:ai)(f:Str)(k:Nat):dD C f (.obj k) S=(match o7 S C (.obj k) with|some (_,fs)=>(match fs.lookup f with|some u=>.ok u S | none=>.bad) | none=>.bad):=rfl
theorem sd{C:ai}{k:Nat}{fs:List (Str×T)}(h:S[k]?=aa (.ins C fs)):o7 S C (.obj k)=aa (k,fs):=by simp[o7,h]
@[simp] theorem Zem (C:ai) (m:Str) (F:Fn) (ds:List T) (fo:DE) (fr:DA) {ρ:Ev}:jO C m F ds fo fr ρ S=(fo ρ).bind (λo=>λS=>match o7 S C o with
  |some (_,fs)=>if(fs.lookup m).isNone=true then((fr ρ).bind λts=>F (o::(ts++ds))) S else .bad
  |none=>.bad) S:=rfl
theorem Fh{k:Nat}{kvs:List (bZ×T)}(h:S[k]?=aa (.dic kvs)):ow S (.obj k)=aa kvs:=by simp[ow,h]
theorem ik.ins{h:Nat}{pl:List jj}{ps:List HP}(A:ik c S h pl ps):o7 S c.hall (.obj h)=aa (h,qo h):=sd A.hall
theorem ik.sU{h:Nat}{pl:List jj}{ps:List HP}(A:ik c S h pl ps):ow S (.obj (h+2))=aa (ja ps):=Fh A.pieces
theorem ik.sV{h:Nat}{pl:List jj}{ps:List HP}(A:ik c S h pl ps):ow S (.obj (h+1))=aa (nW pl):=Fh A.places
theorem Ud(h:Nat):bL (ao "places") (qo h)=aa (.obj (h+1)):=by
 unfold qo;rw[aI];rw[show(ao "places" == ao "places")=true by decide +kernel]
theorem N4(h:Nat):bL (ao "pieces") (qo h)=aa (.obj (h+2)):=by
 unfold qo;rw[aI,show(ao "pieces" == ao "places")=false by decide +kernel];simp only;rw[aI,show(ao "pieces" == ao "pieces")=true by decide +kernel]
theorem q8{m:Str}(h:Nat)(h1:(m==ao "places")=false)(h2:(m==ao "pieces")=false):bL m (qo h)=ae:=by
 unfold qo;rw[aI,h1];simp only;rw[aI,h2];rfl
theorem Iu{h:Nat}{pl:List jj}{ps:List HP}(A:ik c S h pl ps){x:Str}{p:HP}(hp:ps.find? (λp=>decide (p.nm=x))=aa p):vL c [.obj h,.str x] S=.ok (.obj p.i) S:=by
 have e:=N2 x ps;rw[hp] at e;simp[vL,Tn,A.ins,N4,vA,i9,A.sU,ft,e]
theorem Iv{h:Nat}{pl:List jj}{ps:List HP}(A:ik c S h pl ps){x:Str}{p:jj}(hp:pl.find? (λp=>decide (p.nm=x))=aa p):xK c [.obj h,.str x] S=.ok (.obj p.i) S:=by
 have e:=N3 x pl;rw[hp] at e;simp[xK,Tg,A.ins,Ud,vA,i9,A.sV,ft,e]
theorem zB{ps:List HP}(nd:(ps.map (·.nm)).Nodup){p:HP}(hp:p∈ps):ps.find? (λq=>decide (q.nm=p.nm))=aa p:=by
 induction ps with
 |nil=>cases hp
 | cons q ps ih=>
   rw[aC,dm] at nd;rcases aF.mp hp with rfl | hp
   .simp
   .have:q.nm≠p.nm:=λe=>nd.1 (aq.mpr ⟨p,hp,e.symm⟩)
    rw[bU];simp[this,ih nd.2 hp]
end DN
namespace DN
open PySem L2 MF
variable {c:Cl}{S:bI}{ρ:Ev}
@[simp] theorem ztc (a b:String):(ao a=ao b)=(a=b):=by
  apply propext;constructor
  .intro h
   rw[sD,sD] at h;have h1:a.toList.map pf=b.toList.map pf:=by simpa using h
   have inj:∀(x y:List Char),x.map pf=y.map pf->x=y:=by
    intro x
    induction x with
    |nil=>intro y h;cases y with|nil=>rfl | cons _ _=>simp at h
    | cons p x ih=>
      intro y h;cases y with
      |nil=>simp at h
      | cons q y=>
        simp only[aC,mF] at h;rw[ih y h.2];have:p=q:=by
         have:=h.1;apply Char.ext;exact UInt32.toNat_inj.mp this
        rw[this]
   exact String.toList_inj.mp (inj _ _ h1)
  .rintro rfl;rfl
@[simp] theorem z5j (a b:String):(ao a==ao b)=(a==b):=by
  rw[ej,beq_iff_eq,beq_iff_eq,ztc]
@[simp] theorem Zen (C:ai) (F:Fn) (ds:List T) (fr:DA):zq C F ds fr ρ S=(fr ρ).bind (λts=>λS=>M.bind (F (.obj S.length::(ts++ds))) (λt=>match t with
  |.bH=>M.pure (.obj S.length)
  |_=>M.bad) (S++[.ins C []])) S:=rfl
@[simp] theorem Zeo (C:ai) (f:Str) (fo fv:DE):lR C f fo fv ρ S=(fv ρ).bind (λt=>(fo ρ).bind λo=>λS=>match o7 S C o with
  |some (k,fs)=>if fs.length<900 then .ok (.nx ρ) (S.set k (.ins C (tV f t fs))) else .bad
  |none=>.bad) S:=rfl
@[simp] theorem Zbm (fd fk fv:DE):xA fd fk fv ρ S=(fv ρ).bind (λt=>(fd ρ).bind λd=>(fk ρ).bind λk=>λS=>match d,ft k with
  | .obj j,aa key=>(match S[j]? with
    |some (.dic kvs)=>if kvs.length<=900 then .ok (.nx ρ) (S.set j (.dic (mY kvs key t))) else .bad
    |_=>.bad)
  |_,_=>.bad) S:=rfl
@[simp]theorem Zcb(f:Str)(v:T):tV f v []=[(f,v)]:=rfl
@[simp]theorem Zbn(f g:Str)(v x:T)(r:List (Str×T)):tV f v ((g,x)::r)=if g=f then(g,v)::r else(g,x)::tV f v r:=rfl
theorem nX(L:List cg)(j:Nat):(S++L)[S.length+j]?=L[j]?:=by rw[c8 (by omega)];congr 1;omega
theorem Fi(L:List cg)(j:Nat)(v:cg):(S++L).set (S.length+j) v=S++L.set j v:=by rw[kq _ _ (by omega)];congr 2;omega
theorem zC(L:List cg):(S++L)[S.length]?=L[0]?:=nX L 0
theorem Cy(L:List cg)(v:cg):(S++L).set S.length v=S++L.set 0 v:=Fi L 0 v
@[simp] theorem Zep (C:ai) (fs:List (Str×T)) (L:List cg):o7 (S++cg.ins C fs::L) C (.obj S.length)=aa (S.length,fs):=by
  exact sd (by rw[zC];rfl)
theorem zvi:EI c [.obj S.length] (S++[.ins c.hall []])=.ok .bH (S++[.ins c.hall (qo S.length),.dic [],.dic []]):=by
 simp[EI,Td,Cy,qo]
theorem zte(k r:Str):EJ c [.obj S.length,.str k,.str r] (S++[.ins c.place []])=.ok .bH (S++[.ins c.place [("kind",.str k),("rule",.str r)]]):=by
 simp[EJ,Te,Cy]
noncomputable def iS(nm pl:Str)(dd:T)(br:Option Str)(i:Nat):HP:={ nm:=nm,pl:=pl,dd:=dd,br:=br,on:=true,w0:=[],w1:=[],w2:=[],w3:=[],i:=i }
theorem ztf(nm pl:Str)(dd:T)(br:Option Str):Cf c [.obj S.length,.str pl,dd,Uc br] (S++[.ins c.piece []])=.ok .bH (S++(iS nm pl dd br S.length).block c):=by
 simp[Cf,Ti,Cy,HP.block,iS,HP.fs]
theorem eR{k j:Nat}{v:cg}(h:k≠j):(S.set k v)[j]?=S[j]?:=cm h
theorem m4{k:Nat}{v:cg}{u:cg}(h:S[k]?=aa u):(S.set k v)[k]?=aa v:=by
 have:=(aB.mp h).1;simp[mU,this]
theorem nD{L:bI}{k:Nat}{u:cg}(h:S[k]?=aa u):(S++L)[k]?=aa u:=by
 rw[aG (aB.mp h).1];exact h
theorem mP.app{L:bI}{p:HP}(A:mP c S p):mP c (S++L) p:=⟨nD A.o,nD A.a0,nD A.a1,nD A.a2,nD A.a3⟩
theorem ik.app{L:bI}{h:Nat}{pl:List jj}{ps:List HP}(A:ik c S h pl ps):ik c (S++L) h pl ps:=
 ⟨nD A.hall,nD A.places,nD A.pieces,λq hq=>nD (A.place q hq),λp hp=>(A.piece p hp).app,A.uf,A.pw,A.nd⟩
theorem xZ{k j:Nat}{u v:cg}(h:S[k]?=aa u)(g:S[j]?=aa v)(d:u≠v):k≠j:=λe=>by subst e;rw[h] at g;exact d (bj g)
theorem mP.set{k:Nat}{v:cg}{p:HP}(A:mP c S p)(h:∀j,j<5->k≠p.i+j):mP c (S.set k v) p:=
 ⟨by rw[eR (show k≠p.i from h 0 (by decide))];exact A.o,by rw[eR (h 1 (by decide))];exact A.a0,by rw[eR (h 2 (by decide))];exact A.a1,by rw[eR (h 3 (by decide))];exact A.a2,by rw[eR (h 4 (by decide))];exact A.a3⟩
theorem ik.lt{h:Nat}{pl:List jj}{ps:List HP}(A:ik c S h pl ps):h+2<S.length:=(aB.mp A.pieces).1
theorem mP.lt{p:HP}(A:mP c S p):p.i+4<S.length:=(aB.mp A.a3).1
theorem ik.N5{h:Nat}{pl:List jj}{ps:List HP}(A:ik c S h pl ps){nm q:Str}{dd:T}{br:Option Str}(hn:nm∉ps.map (·.nm)) :
  ik c (S.set (h+2) (.dic (ja (ps++[iS nm q dd br S.length])))++(iS nm q dd br S.length).block c) h pl (ps++[iS nm q dd br S.length]):=by
 have hl:=A.lt;have len:(S.set (h+2) (.dic (ja (ps++[iS nm q dd br S.length])))).length=S.length:=by simp
 have nb:∀j,(S.set (h+2) (.dic (ja (ps++[iS nm q dd br S.length])))++(iS nm q dd br S.length).block c)[S.length+j]?=((iS nm q dd br S.length).block c)[j]?:=λj=>by
  have:=nX (S:=S.set (h+2) (.dic (ja (ps++[iS nm q dd br S.length])))) ((iS nm q dd br S.length).block c) j;rw[len] at this;exact this
 have hpc:∀p∈ps,mP c (S.set (h+2) (.dic (ja (ps++[iS nm q dd br S.length])))++(iS nm q dd br S.length).block c) p:=λp hp=>((A.piece p hp).set (λj hj=>by have:=A.uf p hp;omega)).app;refine⟨nD (by rw[eR (by omega)];exact A.hall),nD (by rw[eR (by omega)];exact A.places),nD (m4 A.pieces),λp hp=>nD ?_,λp hp=>?_,λp hp=>?_,?_,?_⟩
 .rw[eR (xZ A.pieces (A.place p hp) (by intro z;cases z))];exact A.place p hp
 .rcases cH.mp hp with hp | hp
  .exact hpc p hp
  .rw[aH.mp hp]
   exact⟨nb 0,nb 1,nb 2,nb 3,nb 4⟩
 .rcases cH.mp hp with hp | hp
  .exact A.uf p hp
  .rw[aH.mp hp];show h+3<=S.length;omega
 .rw[List.pairwise_append]
  refine⟨A.pw,by simp,λp hp r hr=>?_⟩;rw[aH.mp hr];show p.i+5<=S.length;have:=(A.piece p hp).lt;omega
 .rw[bo]
  refine dO.mpr ⟨A.nd,by simp,λx hx y hy e=>?_⟩;simp only[aC,f_,aH] at hy;subst e;rw[hy] at hx;exact hn hx
theorem ik.block{S':bI}{h:Nat}{pl:List jj}{ps:List HP}(A:ik c S h pl ps){p p':HP}(hp:p∈ps)(hnm:p'.nm=p.nm)(hi:p'.i=p.i)(pL:∀k,(k<p.i\/p.i+5<=k)->S'[k]?=S[k]?)
  (hA:mP c S' p'):ik c S' h pl (ps.map λq=>if q.nm=p.nm then p' else q):=by
 have hf:=A.uf p hp;have P:=A.piece p hp;have N6:∀q∈ps,q.nm=p.nm->q=p:=λq hq e=>by
  have h1:=zB A.nd hq;have h2:=zB A.nd hp;rw[e,h2] at h1;exact(bj h1).symm
 have uf:∀q∈ps,q.nm≠p.nm->p.i+5<=q.i\/q.i+5<=p.i:=λq hq ne=>by
  have px:q≠p:=λe=>ne (by rw[e]);have pw:=A.pw;have:∀l:List HP,l.Pairwise (λp q=>p.i+5<=q.i)->p∈l->q∈l->p.i+5<=q.i\/q.i+5<=p.i:=by
   intro l
   induction l with
   |nil=>intro _ h;cases h
   | cons a l ih=>
     intro pw h1 h2;rw[List.pairwise_cons] at pw;rcases aF.mp h1 with e1 | g1
     .rcases aF.mp h2 with e2 | g2
      .exact absurd (e2.trans e1.symm) px
      .rw[e1];exact .inl (pw.1 q g2)
     .rcases aF.mp h2 with e2 | g2
      .rw[e2];exact .inr (pw.1 p g1)
      .exact ih pw.2 g1 g2
  exact this ps pw hp hq
 have Fj:∀q:HP,(if q.nm=p.nm then p' else q).nm=q.nm:=λq=>by split<;>simp_all
 have N7:ja (ps.map λq=>if q.nm=p.nm then p' else q)=ja ps:=by
  unfold ja;rw[bO];refine dg λq hq=>?_;show(dH (if q.nm=p.nm then p' else q).nm,T.obj (if q.nm=p.nm then p' else q).i)=_;rw[Fj];by_cases e:q.nm=p.nm
  .rw[if_pos e,hi,N6 q hq e]
  .rw[if_neg e]
 refine⟨by rw[pL _ (by omega)];exact A.hall,by rw[pL _ (by omega)];exact A.places,by rw[pL _ (by omega),N7];exact A.pieces,λq hq=>?_,λq hq=>?_,λq hq=>?_,?_,?_⟩
 .have Q:=A.place q hq
  have n0:=xZ P.o Q (by intro z;injection z with _ z2;simp[HP.fs] at z2);have n1:=xZ P.a0 Q (by intro z;cases z);have n2:=xZ P.a1 Q (by intro z;cases z);have n3:=xZ P.a2 Q (by intro z;cases z);have n4:=xZ P.a3 Q (by intro z;cases z);rw[pL _ (by omega)];exact Q
 .obtain⟨r,hr,rfl⟩:=aq.mp hq
  by_cases e:r.nm=p.nm
  .rw[if_pos e];exact hA
  .rw[if_neg e]
   have R:=A.piece r hr;have fr:=uf r hr e;exact⟨by rw[pL _ (by omega)];exact R.o,by rw[pL _ (by omega)];exact R.a0,by rw[pL _ (by omega)];exact R.a1,by rw[pL _ (by omega)];exact R.a2,by rw[pL _ (by omega)];exact R.a3⟩
 .obtain⟨r,hr,rfl⟩:=aq.mp hq
  by_cases e:r.nm=p.nm
  .rw[if_pos e,hi];exact hf
  .rw[if_neg e];exact A.uf r hr
 .rw[wq]
  refine A.pw.imp_of_mem λ{a b} ha hb N8=>?_;have ia:(if a.nm=p.nm then p' else a).i=a.i:=by
   by_cases e:a.nm=p.nm
   .rw[if_pos e,hi,N6 a ha e]
   .rw[if_neg e]
  have ib:(if b.nm=p.nm then p' else b).i=b.i:=by
   by_cases e:b.nm=p.nm
   .rw[if_pos e,hi,N6 b hb e]
   .rw[if_neg e]
  rw[ia,ib];exact N8
 .rw[bO]
  rw[show((λx:HP=>x.nm)∘λq=>if q.nm=p.nm then p' else q)=λq:HP=>q.nm from funext λq=>Fj q];exact A.nd
theorem mP.w0{p:HP}(A:mP c S p)(l:List Str):mP c (S.set (p.i+1) (.lst (l.map .str))) { p with w0:=l }:=
 ⟨by rw[eR (show p.i+1≠p.i by omega)];exact A.o,m4 A.a0,by rw[eR (show p.i+1≠p.i+2 by omega)];exact A.a1,by rw[eR (show p.i+1≠p.i+3 by omega)];exact A.a2,by rw[eR (show p.i+1≠p.i+4 by omega)];exact A.a3⟩
theorem mP.w1{p:HP}(A:mP c S p)(l:List Str):mP c (S.set (p.i+2) (.lst (l.map .str))) { p with w1:=l }:=
 ⟨by rw[eR (show p.i+2≠p.i by omega)];exact A.o,by rw[eR (show p.i+2≠p.i+1 by omega)];exact A.a0,m4 A.a1,by rw[eR (show p.i+2≠p.i+3 by omega)];exact A.a2,by rw[eR (show p.i+2≠p.i+4 by omega)];exact A.a3⟩
theorem mP.w2{p:HP}(A:mP c S p)(l:List Str):mP c (S.set (p.i+3) (.lst (l.map .str))) { p with w2:=l }:=
 ⟨by rw[eR (show p.i+3≠p.i by omega)];exact A.o,by rw[eR (show p.i+3≠p.i+1 by omega)];exact A.a0,by rw[eR (show p.i+3≠p.i+2 by omega)];exact A.a1,m4 A.a2,by rw[eR (show p.i+3≠p.i+4 by omega)];exact A.a3⟩
theorem mP.w3{p:HP}(A:mP c S p)(l:List Str):mP c (S.set (p.i+4) (.lst (l.map .str))) { p with w3:=l }:=
 ⟨by rw[eR (show p.i+4≠p.i by omega)];exact A.o,by rw[eR (show p.i+4≠p.i+1 by omega)];exact A.a0,by rw[eR (show p.i+4≠p.i+2 by omega)];exact A.a1,by rw[eR (show p.i+4≠p.i+3 by omega)];exact A.a2,m4 A.a3⟩
theorem mP.turn{p:HP}(A:mP c S p)(b:Bool):mP c (S.set p.i (.ins c.piece { p with on:=b }.fs)) { p with on:=b }:=
 ⟨m4 A.o,by rw[eR (show p.i≠p.i+1 by omega)];exact A.a0,by rw[eR (show p.i≠p.i+2 by omega)];exact A.a1,by rw[eR (show p.i≠p.i+3 by omega)];exact A.a2,by rw[eR (show p.i≠p.i+4 by omega)];exact A.a3⟩
end DN
namespace DN
open PySem L2 MF
variable {c:Cl}{S:bI}{ρ:Ev}
theorem N9(l:List Str):sR c [aD l] S=.ok (aD l) S:=by simp[sR,Mp,tS,pC,aD,vB,tT]
theorem ztg(l:List Str):sR c [.tup (l.map T.str)] S=.ok (aD l) S:=by simp[sR,Mp,tS,pC,aD,vB,tT]
theorem Iw{kvs:List (bZ×T)}{k:bZ}{v:T}(h:dR kvs k=ae):mY kvs k v=kvs++[(k,v)]:=by
 unfold mY;rw[if_neg];intro z;obtain⟨p,hp,e⟩:=f'.mp z;unfold dR at h;rw[qx,dY] at h;exact h p hp e
theorem z09{ps:List HP}{x:Str}(h:x∉ps.map (·.nm)):ps.find? (λp=>decide (p.nm=x))=ae:=by
 rw[dY];intro p hp e;exact h (aq.mpr ⟨p,hp,by simpa using e⟩)
theorem Zbo{h:Nat}{pl:List jj}{ps:List HP}(A:ik c S h pl ps){nm q:Str}{dd:T}{pm:jj}(hn:nm∉ps.map (·.nm))(hq:pl.find? (λp=>decide (p.nm=q))=aa pm)(hl:ps.length<24) :
  EK c [.obj h,.str nm,.str q,dd,.bH] S=.ok .bH (S.set (h+2) (.dic (ja (ps++[iS nm q dd ae S.length])))++(iS nm q dd ae S.length).block c):=by
 have e1:dR (ja ps) (.inr nm)=ae:=by rw[N2,z09 hn];rfl
 have hm:=q8 (m:=ao "find_place") h (by simp) (by simp);have e2:=Iv A hq;have cK:¬(24:Int)<=(ja ps).length:=by simp[ja];omega
 have e3:=ztf (c:=c) (S:=S) nm q dd ae;have len:=A.lt;have e4:(S++(iS nm q dd ae S.length).block c)[h+2]?=aa (.dic (ja ps)):=nD A.pieces;have e5:(S++(iS nm q dd ae S.length).block c).set (h+2) (.dic (mY (ja ps) (.inr nm) (.obj S.length)))=S.set (h+2) (.dic (ja (ps++[iS nm q dd ae S.length])))++(iS nm q dd ae S.length).block c:=by
  rw[ti _ _ (by omega),Iw e1];simp[ja,iS]
 have e6:(ja ps).length<=900:=by simp[ja];omega
 have A2:o7 (S++(iS nm q dd ae S.length).block c) c.hall (.obj h)=aa (h,qo h):=sd (nD A.hall);have e7:zo (.obj (h+2)) S=.ok (.int (ja ps).length) S:=by simp[zo,A.pieces]
 have e3':Cf c [.obj S.length,.str q,dd,.bH] (S++[.ins c.piece []])=.ok .bH (S++(iS nm q dd ae S.length).block c):=e3;simp[EK,Tj,A.ins,N4,jY,A.sU,ft,e1,hm,e2,zk,pC,e7,cK,e3',A2,e4,e6,e5]
theorem Ue{h:Nat}{pl:List jj}{ps:List HP}(A:ik c S h pl ps){nm k r:Str}(hn:pl.find? (λp=>decide (p.nm=nm))=ae)(hl:pl.length<8) :
  Ce c [.obj h,.str nm,.str k,.str r] S=.ok .bH (S.set (h+1) (.dic (nW (pl++[⟨nm,k,r,S.length⟩])))++[.ins c.place [("kind",.str k),("rule",.str r)]]):=by
 have e1:dR (nW pl) (.inr nm)=ae:=by rw[N3,hn];rfl
 have cK:¬(8:Int)<=(nW pl).length:=by simp[nW];omega
 have e3:=zte (c:=c) (S:=S) k r;have len:=A.lt;have e4:(S++[cg.ins c.place [("kind",.str k),("rule",.str r)]])[h+1]?=aa (.dic (nW pl)):=nD A.places;have e5:(S++[cg.ins c.place [("kind",.str k),("rule",.str r)]]).set (h+1) (.dic (mY (nW pl) (.inr nm) (.obj S.length)))=S.set (h+1) (.dic (nW (pl++[⟨nm,k,r,S.length⟩])))++[.ins c.place [("kind",.str k),("rule",.str r)]]:=by
  rw[ti _ _ (by omega),Iw e1];simp[nW]
 have e6:(nW pl).length<=900:=by simp[nW];omega
 have A2:o7 (S++[cg.ins c.place [("kind",.str k),("rule",.str r)]]) c.hall (.obj h)=aa (h,qo h):=sd (nD A.hall);have e7:zo (.obj (h+1)) S=.ok (.int (nW pl).length) S:=by simp[zo,A.places]
 generalize hN:(S++[cg.ins c.place [("kind",.str k),("rule",.str r)]])=N at e3 e4 e5 A2;simp[Ce,Tf,A.ins,Ud,jY,A.sV,ft,e1,e7,cK,e3,A2,e4,e6,e5]
theorem ik.zD{h:Nat}{pl:List jj}{ps:List HP}(A:ik c S h pl ps){nm k r:Str} :
  ik c (S.set (h+1) (.dic (nW (pl++[⟨nm,k,r,S.length⟩])))++[.ins c.place [("kind",.str k),("rule",.str r)]]) h (pl++[⟨nm,k,r,S.length⟩]) ps:=by
 have len:=A.lt;refine⟨nD (by rw[eR (by omega)];exact A.hall),nD (m4 A.places),nD (by rw[eR (by omega)];exact A.pieces),λq hq=>?_,λp hp=>((A.piece p hp).set (λj hj=>by have:=A.uf p hp;omega)).app,A.uf,A.pw,A.nd⟩;rcases cH.mp hq with hq | hq
 .exact nD (by rw[eR (xZ A.places (A.place q hq) (by intro z;cases z))];exact A.place q hq)
 .rw[aH.mp hq]
  have:=zC (S:=S.set (h+1) (.dic (nW (pl++[⟨nm,k,r,S.length⟩])))) [cg.ins c.place [("kind",.str k),("rule",.str r)]];rw[gA] at this;exact this
theorem Ug(p:HP):bL (ao "ahead") p.fs=aa (.obj (p.i+1)):=by simp[HP.fs,aI]
theorem Uh(p:HP):bL (ao "behind") p.fs=aa (.obj (p.i+2)):=by simp[HP.fs,aI]
theorem z31(p:HP):bL (ao "needs") p.fs=aa (.obj (p.i+3)):=by simp[HP.fs,aI]
theorem z71(p:HP):bL (ao "bars") p.fs=aa (.obj (p.i+4)):=by simp[HP.fs,aI]
noncomputable def x9(p:HP)(l0 l1 l2 l3:List Str):HP:={ p with w0:=p.w0++l0,w1:=p.w1++l1,w2:=p.w2++l2,w3:=p.w3++l3 }
theorem Iy{k:Nat}{w l:List Str}(h:S[k]?=aa (.lst (w.map .str)))(hl:w.length+l.length<=1000):mx (.obj k) [aD l] S=.ok .bH (S.set k (.lst ((w++l).map .str))):=by
 have:=Ho (y:=aD l) h rfl (by simpa using hl);rw[this,bo]
theorem Zbp{h:Nat}{pl:List jj}{ps:List HP}(A:ik c S h pl ps){p:HP}(hp:p∈ps){t0 t1 t2 t3:T}{l0 l1 l2 l3:List Str}
  (e0:∀S,sR c [t0] S=.ok (aD l0) S) (e1:∀S,sR c [t1] S=.ok (aD l1) S) (e2:∀S,sR c [t2] S=.ok (aD l2) S) (e3:∀S,sR c [t3] S=.ok (aD l3) S)
  (b0:p.w0.length+l0.length<=1000) (b1:p.w1.length+l1.length<=1000) (b2:p.w2.length+l2.length<=1000) (b3:p.w3.length+l3.length<=1000) :
  ∃S',EL c [.obj h,.str p.nm,t0,t1,t2,t3] S=.ok .bH S'/\ik c S' h pl (ps.map λq=>if q.nm=p.nm then x9 p l0 l1 l2 l3 else q)/\S'.length=S.length/\∀k,(k<p.i\/p.i+5<=k)->S'[k]?=S[k]?:=by
 have P0:=A.piece p hp;have P1:=P0.w0 (p.w0++l0);have P2:=P1.w1 (p.w1++l1);have P3:=P2.w2 (p.w2++l2);have P4:=P3.w3 (p.w3++l3);have hm:=q8 (m:=ao "find_piece") h (by simp) (by simp);have ef:=Iu A (zB A.nd hp);have x0:=Iy P0.a0 b0;have x1:=Iy P1.a1 b1;have x2:=Iy P2.a2 b2;have x3:=Iy P3.a3 b3;have i0:=sd P0.o;have i1:=sd P1.o;have i2:=sd P2.o;have i3:=sd P3.o;have k0:=nS P0.a0;have k1:=nS P1.a1;have k2:=nS P2.a2;have k3:=nS P3.a3;have q1:({ p with w0:=p.w0++l0 }:HP).fs=p.fs:=rfl;have q2:({ p with w0:=p.w0++l0,w1:=p.w1++l1 }:HP).fs=p.fs:=rfl;have q3:({ p with w0:=p.w0++l0,w1:=p.w1++l1,w2:=p.w2++l2 }:HP).fs=p.fs:=rfl;simp only at x0 x1 x2 x3 i0 i1 i2 i3 k0 k1 k2 k3;rw[q1] at i1;rw[q2] at i2;rw[q3] at i3;have Fk:∀k,(k<p.i\/p.i+5<=k)->((((S.set (p.i+1) (.lst ((p.w0++l0).map .str))).set (p.i+2) (.lst ((p.w1++l1).map .str))).set (p.i+3) (.lst ((p.w2++l2).map .str))).set (p.i+4) (.lst ((p.w3++l3).map .str)))[k]?=S[k]?:=λk hk=>by
  rw[eR (by omega),eR (by omega),eR (by omega),eR (by omega)]
 refine⟨_,?_,A.block hp (p':=x9 p l0 l1 l2 l3) rfl rfl Fk P4,by simp,Fk⟩;generalize Ui:S.set (p.i+1) (.lst ((p.w0++l0).map .str))=S1 at *;generalize hS2:S1.set (p.i+2) (.lst ((p.w1++l1).map .str))=S2 at *;generalize hS3:S2.set (p.i+3) (.lst ((p.w2++l2).map .str))=S3 at *;generalize hS4:S3.set (p.i+4) (.lst ((p.w3++l3).map .str))=S4 at *;simp[EL,To,A.ins,hm,ef,i0,i1,i2,i3,Ug,Uh,z31,z71,k0,k1,k2,k3,e0,e1,e2,e3,x0,x1,x2,x3]
theorem z32{h:Nat}{pl:List jj}{ps:List HP}(A:ik c S h pl ps){p:HP}(hp:p∈ps)(b:Bool) :
  ∃S',EM c [.obj h,.str p.nm,.bl b] S=.ok .bH S'/\ik c S' h pl (ps.map λq=>if q.nm=p.nm then { p with on:=b } else q)/\S'.length=S.length/\∀k,(k<p.i\/p.i+5<=k)->S'[k]?=S[k]?:=by
 have P0:=A.piece p hp;have hm:=q8 (m:=ao "find_piece") h (by simp) (by simp);have ef:=Iu A (zB A.nd hp);have Fk:∀k,(k<p.i\/p.i+5<=k)->(S.set p.i (.ins c.piece ({ p with on:=b }:HP).fs))[k]?=S[k]?:=λk hk=>by rw[eR (by omega)]
 have i0:=sd P0.o;have hfs:tV (ao "on") (.bl b) p.fs=({ p with on:=b }:HP).fs:=by simp[HP.fs]
 have cK:p.fs.length<900:=by simp[HP.fs]
 refine⟨_,?_,A.block hp (p':={ p with on:=b }) rfl rfl Fk (P0.turn b),by simp,Fk⟩;simp[EM,Tp,A.ins,hm,ef,i0,hfs,cK]
end DN
namespace DN
open PySem L2 MF
variable {c:Cl}{S:bI}{ρ:Ev}
structure Rw where
 nm:Str
 pl:Str
 br:Option Str
 on:Bool
theorem vR:∀(l m:List Str),l.Nodup->(∀x∈l,x∈m)->l.length<=m.length
 |[],_,_,_=>dJ _
 | x::l,m,nd,h=>by
   rw[dm] at nd;have:=vR l (m.erase x) nd.2 λy hy=>(List.mem_erase_of_ne (λe=>nd.1 (by rw[<- e];exact hy))).mpr (h y (au _ hy));rw[eM (h x (aA ..))] at this;have:=List.length_pos_of_mem (h x (aA ..));rw[aY];omega
noncomputable def HP.rw(p:HP):Rw:=⟨p.nm,p.pl,p.br,p.on⟩
noncomputable def gJ(g:List Str):List (bZ×T):=g.map λx=>(.inr x,.bl true)
theorem Cz(x:Str):∀(g:List Str),dR (gJ g) (.inr x)=if x∈g then aa (.bl true) else ae
 |[]=>by simp[dR,gJ]
 | y::g=>by
   have ih:=Cz x g;by_cases h:y=x
   .simp[dR,gJ,h]
   .have e:dR (gJ (y::g)) (.inr x)=dR (gJ g) (.inr x):=by simp[dR,gJ,bU,h]
    rw[e,ih];simp[bP h]
theorem Uj(g:List Str)(x:Str)(h:x∉g):mY (gJ g) (.inr x) (.bl true)=gJ (g++[x]):=by
 rw[Iw (by rw[Cz,if_neg h])];simp[gJ]
theorem z33{k:Nat}{v:cg}(h:S[k]?=aa v):S.set k v=S:=by
 obtain⟨hl,e⟩:=aB.mp h;rw[<- e];exact List.set_getElem_self hl
theorem Uk(p:HP):bL (ao "place") p.fs=aa (.str p.pl):=by simp[HP.fs,aI]
theorem Ul(p:HP):bL (ao "on") p.fs=aa (.bl p.on):=by simp[HP.fs,aI]
end DN
namespace DN
open PySem L2 MF
variable {sec:Str->List Str}
noncomputable def kF(sec:Str->List Str)(left:List Str)(x:Str):Bool:=!(left.any λf=>decide (x∈sec f))
noncomputable def topo(sec:Str->List Str):Nat->List Str->List Str->Option (List Str)
 |0,_,row=>aa row
 | n+1,left,row=>match left.find? (kF sec left) with
   |none=>ae
   |some x=>topo sec n (left.erase x) (row++[x])
theorem z34{left:List Str}{x:Str}:kF sec left x=true↔∀f∈left,x∉sec f:=by
 unfold kF;simp
theorem x_:∀(n:Nat) {left row res:List Str},left.Nodup->left.length=n->topo sec n left row=aa res->∃kG,res=row++kG/\kG.Perm left /\
  ∀A x B,kG=A++x::B->(left.filter λy=>!A.contains y).find? (kF sec (left.filter λy=>!A.contains y))=aa x
 | 0,left,row,res,_,hl,e=>by
   cases e;have:left=[]:=il hl;subst this;exact⟨[],by simp,.refl _,λA x B h=>by simp at h⟩
 | n + 1,left,row,res,nd,hl,e=>by
   unfold topo at e;cases e1:left.find? (kF sec left) with
   |none=>simp only[e1] at e;cases e
   | some x=>
     simp only[e1] at e;have hm:=cN e1;have vy:(left.erase x).length=n:=by rw[eM hm];omega
     obtain⟨kG,rfl,hp,hs⟩:=x_ n (nd.erase x) vy e;refine⟨x::kG,by simp,(List.Perm.cons x hp).trans (List.perm_cons_erase hm).symm,λA y B h=>?_⟩;cases A with
     | nil=>
       simp only[bF,mF] at h;rw[<- h.1];have:(left.filter λy=>!([]:List Str).contains y)=left:=lG.mpr λ_ _=>rfl;rw[this];exact e1
     | cons a A=>
       simp only[eW,mF] at h;obtain⟨rfl,h⟩:=h;have:=hs A y B h;rw[nd.erase_eq_filter,List.filter_filter] at this;have e3:(left.filter λy=>!A.contains y&&(y != x))=left.filter λy=>!(x::A).contains y:=wt λy _=>by
        rw[dC,Bool.not_or,Bool.and_comm];rfl
       rw[e3] at this;exact this
theorem z1a{left kG:List Str}(hp:kG.Perm left)(hs:∀A x B,kG=A++x::B->(left.filter λy=>!A.contains y).find? (kF sec (left.filter λy=>!A.contains y))=aa x)
  {a b:Str} {A B:List Str} (ha:a∈left) (hb:b∈sec a) (h:kG=A++b::B):a∈A:=by
 have e:=hs A b B h;have hf:=oE e;rw[z34] at hf;by_cases z:a∈A
 .exact z
 .exact absurd hb (hf a (aN.mpr ⟨ha,by simp[z]⟩))
inductive pM(sec:Str->List Str):Str->Str->Prop
 |one {a b:Str}:b∈sec a->pM sec a b
 |more {a b d:Str}:b∈sec a->pM sec b d->pM sec a d
theorem Zbr{l:List Str}(f:Nat->Str)(h:∀i,f i∈l):∃i j,i<j/\f i=f j:=by
 by_cases z:∃i j,i<j/\f i=f j
 .exact z
 .exfalso
  have inj:∀i j,i<j->f i≠f j:=λi j N_ e=>z ⟨i,j,N_,e⟩;have nd:((cn (l.length+1)).map f).Nodup:=by
   rw[List.Nodup,wq];refine Ga (λ{a b} N8=>?_) List.pairwise_lt_range;exact inj a b N8
  have:=vR _ l nd λx hx=>by
   obtain⟨i,_,rfl⟩:=aq.mp hx;exact h i
  simp at this;omega
theorem zye{left:List Str}(px:left≠[])(h:∀x∈left,∃f∈left,x∈sec f):∃s∈left,pM sec s s:=by
 classical
 obtain⟨x0,Iz⟩:=qc left px;let pr:{ x // x∈left }->{ x // x∈left }:=λx=>⟨(h x.1 x.2).choose,(h x.1 x.2).choose_spec.1⟩;have hpr:∀x,x.1∈sec (pr x).1:=λx=>(h x.1 x.2).choose_spec.2;let f:Nat->{ x // x∈left }:=λn=>Nat.rec ⟨x0,Iz⟩ (λ_ x=>pr x) n;have hf:∀n,(f n).1∈sec (f (n+1)).1:=λn=>hpr (f n);have hp:∀j i,i<j->pM sec (f j).1 (f i).1:=by
  intro j
  induction j with
  |zero=>intro i hi;omega
  | succ j ih=>
    intro i hi;by_cases z:i=j
    .subst z;exact .one (hf i)
    .exact .more (hf j) (ih i (by omega))
 obtain⟨i,j,N_,e⟩:=Zbr (λn=>(f n).1) λn=>(f n).2;have p:=hp j i N_;have e:(f i).1=(f j).1:=e;rw[e] at p;exact⟨(f j).1,(f j).2,p⟩
noncomputable def qP(row:List Str):Str:=row.getLast?.getD eZ
noncomputable def wJ(start:Str)(row:List Str):List Str->List Str->List (List Str)->Option (List Str×List (List Str))
 |[],re,lo=>aa (re,lo)
 |s::r,re,lo=>if s=start then ae else if s∈re then wJ start row r re lo else wJ start row r (re++[s]) (lo++[row++[s]])
noncomputable def vT(sec:Str->List Str)(start:Str):List (List Str)->List Str->List (List Str)->Except (List Str) (List Str×List (List Str))
 |[],re,lo=>.ok (re,lo)
 | row::rs,re,lo=>match wJ start row (sec (qP row)) re lo with
   |none=>.error row
   |some (hW,nE)=>vT sec start rs hW nE
noncomputable def se(sec:Str->List Str)(start:Str):Nat->List (List Str)->List Str->List Str
 |0,_,_=>[]
 | n+1,df,re=>if df=[] then[] else match vT sec start df re [] with
   |.error row=>row
   |.ok (hW,lo)=>se sec start n lo hW
structure q9(names:List Str)(re:List Str)(row:List Str):Prop where
 ne:row≠[]
 sub:∀x∈row,x∈names
 len:row.length<=re.length
structure m5(names re:List Str):Prop where
 nd:re.Nodup
 sub:∀x∈re,x∈names
theorem Um(row:List Str)(s:Str):qP (row++[s])=s:=by simp[qP]
theorem Uo{row:List Str}(h:row≠[]):qP row∈row:=by
 unfold qP;rw[List.getLast?_eq_some_getLast h];exact List.getLast_mem h
theorem q9.mono{names re hW row:List Str}(r:q9 names re row)(h:re.length<=hW.length):q9 names hW row:=⟨r.ne,r.sub,bz r.len h⟩
theorem IA{names:List Str}{start:Str}{row:List Str}:∀(ss re:List Str) (lo:List (List Str)),(∀s∈ss,s∈names)->m5 names re->q9 names re row->(∀r∈lo,q9 names re r)->lo.length<=re.length->∀hW nE,wJ start row ss re lo=aa (hW,nE) ->
  m5 names hW/\(∀r∈nE,q9 names hW r)/\nE.length<=hW.length/\(∃u,hW=re++u)/\(∃v,nE=lo++v/\(v=[]\/re.length<hW.length))/\(∀s∈ss,s≠start/\s∈hW)/\(∀x∈hW,x∈re\/∃r∈nE,qP r=x)
 | [],re,lo,hs,h1,h2,h3,h4,hW,nE,e=>by
   cases e;exact⟨h1,h3,h4,⟨[],by simp⟩,⟨[],by simp,.inl rfl⟩,(by intro s hs;cases hs),λx hx=>.inl hx⟩
 | s :: ss,re,lo,hs,h1,h2,h3,h4,hW,nE,e=>by
   unfold wJ at e;by_cases z:s=start
   .rw[if_pos z] at e;cases e
   .rw [if_neg z] at e
    have Up:∀x∈ss,x∈names:=λx hx=>hs x (au _ hx);by_cases y:s∈re
    .rw[if_pos y] at e
     obtain⟨a1,a2,a3,⟨u,a4⟩,a5,a6,a7⟩:=IA ss re lo Up h1 h2 h3 h4 hW nE e;refine⟨a1,a2,a3,⟨u,a4⟩,a5,λx hx=>?_,a7⟩;rcases aF.mp hx with rfl | hx
     .exact⟨z,by rw[a4];exact ck _ y⟩
     .exact a6 x hx
    .rw[if_neg y] at e
     have r1:m5 names (re++[s]):=⟨by
      rw[dO];refine⟨h1.nd,by simp,λa ha b hb e9=>?_⟩;rw[aH] at hb;subst hb e9;exact y ha,λx hx=>by
      rcases cH.mp hx with hx | hx
      .exact h1.sub x hx
      .rw[aH.mp hx];exact hs s (aA ..)⟩
     have ln:(re++[s]).length=re.length+1:=by simp
     have rr:q9 names (re++[s]) (row++[s]):=⟨by simp,λx hx=>by
      rcases cH.mp hx with hx | hx
      .exact h2.sub x hx
      .rw[aH.mp hx];exact hs s (aA ..),by have:=h2.len;simp;omega⟩
     obtain⟨a1,a2,a3,⟨u,a4⟩,⟨v,a5,_⟩,a6,a7⟩:=IA ss (re++[s]) (lo++[row++[s]]) Up r1 (h2.mono (by omega)) (λr hr=>by
      rcases cH.mp hr with hr | hr
      .exact(h3 r hr).mono (by omega)
      .rw[aH.mp hr];exact rr) (by simp;omega) hW nE e
     refine⟨a1,a2,a3,⟨s::u,by rw[a4];simp⟩,⟨(row++[s])::v,by rw[a5];simp,.inr (by rw[a4];simp only[aO,ba];omega)⟩,λx hx=>?_,λx hx=>?_⟩
     .rcases aF.mp hx with rfl | hx
      .exact⟨z,by rw[a4];simp⟩
      .exact a6 x hx
     .rcases a7 x hx with h | h
      .rcases cH.mp h with h | h
       .exact .inl h
       .exact .inr ⟨row++[s],by rw[a5];simp,by rw[Um,aH.mp h]⟩
      .exact .inr h
theorem IB{names:List Str}{start:Str}(oN:∀a∈names,∀b∈sec a,b∈names):∀(df:List (List Str)) (re:List Str) (lo:List (List Str)),m5 names re->(∀r∈df,q9 names re r)->(∀r∈lo,q9 names re r)->lo.length<=re.length->∀hW nE,vT sec start df re lo=.ok (hW,nE) ->
  m5 names hW/\(∀r∈nE,q9 names hW r)/\nE.length<=hW.length/\(∃u,hW=re++u)/\(∃v,nE=lo++v/\(v=[]\/re.length<hW.length))/\(∀r∈df,∀s∈sec (qP r),s≠start/\s∈hW)/\(∀x∈hW,x∈re\/∃r∈nE,qP r=x)
 | [],re,lo,h1,h2,h3,h4,hW,nE,e=>by
   cases e;exact⟨h1,h3,h4,⟨[],by simp⟩,⟨[],by simp,.inl rfl⟩,(by intro s hs;cases hs),λx hx=>.inl hx⟩
 | row :: rs,re,lo,h1,h2,h3,h4,hW,nE,e=>by
   unfold vT at e;cases e1:wJ start row (sec (qP row)) re lo with
   |none=>simp only[e1] at e;cases e
   | some q=>
     obtain⟨qW,lo1⟩:=q;simp only[e1] at e;have hr:=h2 row (aA ..);obtain⟨a1,a2,a3,⟨u,a4⟩,⟨v,a5,Fm⟩,a6,a7⟩:=IA _ re lo (oN _ (hr.sub _ (Uo hr.ne))) h1 hr h3 h4 qW lo1 e1;have Oa:re.length<=qW.length:=by rw[a4];simp
     obtain⟨b1,b2,b3,⟨u2,b4⟩,⟨v2,b5,b5'⟩,b6,b7⟩:=IB oN rs qW lo1 a1 (λr hr=>(h2 r (au _ hr)).mono Oa) a2 a3 hW nE e;have le2:qW.length<=hW.length:=by rw[b4];simp
     refine⟨b1,b2,b3,⟨u++u2,by rw[b4,a4];simp⟩,⟨v++v2,by rw[b5,a5];simp,?_⟩,λr hr' s hs=>?_,λx hx=>?_⟩
     .rcases Fm with rfl | h
      .rcases b5' with rfl | h
       .exact .inl rfl
       .exact .inr (by omega)
      .exact .inr (by omega)
     .rcases aF.mp hr' with rfl | hr'
      .exact⟨(a6 s hs).1,by rw[b4];exact ck _ (a6 s hs).2⟩
      .exact b6 r hr' s hs
     .rcases b7 x hx with h | h
      .rcases a7 x h with h | ⟨r,hr',e⟩
       .exact .inl h
       .exact .inr ⟨r,by rw[b5];exact ck _ hr',e⟩
      .exact .inr h
theorem IC{start:Str}:∀(df:List (List Str)) (re:List Str) (lo:List (List Str)) {row:List Str},vT sec start df re lo=.error row->row∈df
 | r :: rs,re,lo,row,e=>by
   unfold vT at e;cases e1:wJ start r (sec (qP r)) re lo with
   |none=>simp only[e1] at e;cases e;exact aA ..
   | some q=>
     simp only[e1] at e;exact au _ (IC rs _ _ e)
theorem Uq {names:List Str} {start:Str} (oN:∀a∈names,∀b∈sec a,b∈names) (hp:pM sec start start):∀(n:Nat) (df:List (List Str)) (re:List Str),names.length+2<=n+re.length->m5 names re->(∀r∈df,q9 names re r)->start∈re ->
  (∀u∈re,(∀v∈sec u,v≠start/\v∈re)\/∃r∈df,qP r=u)->se sec start n df re≠[]
 | 0,df,re,hf,h1,_,_,_=>by
   have:=vR re names h1.nd h1.sub;omega
 | n + 1,df,re,hf,h1,h2,h3,h4=>by
   have stop:(∀u∈re,∀v∈sec u,v≠start/\v∈re)->False:=λh=>by
    have go:∀a b,pM sec a b->a∈re->b≠start/\b∈re:=by
     intro a b p
     induction p with
     |one e=>exact λha=>h _ ha _ e
     |more e _ ih=>exact λha=>ih (h _ ha _ e).2
    exact(go _ _ hp h3).1 rfl
   unfold se;by_cases z:df=[]
   .exact(stop λu hu=>by
     rcases h4 u hu with h | ⟨r,hr,_⟩
     .exact h
     .rw[z] at hr;cases hr).elim
   .rw [if_neg z]
    cases e:vT sec start df re [] with
    |error row=>exact(h2 row (IC _ _ _ e)).ne
    | ok q=>
      obtain⟨hW,lo⟩:=q;obtain⟨a1,a2,a3,⟨u,a4⟩,⟨v,a5,Fm⟩,a6,a7⟩:=IB oN df re [] h1 h2 (by intro r hr;cases hr) (dJ _) hW lo e;have Ur:∀u∈hW,(∀v∈sec u,v≠start/\v∈hW)\/∃r∈lo,qP r=u:=λx hx=>by
       rcases a7 x hx with h | h
       .rcases h4 x h with g | ⟨r,hr,rfl⟩
        .exact .inl λv hv=>⟨(g v hv).1,by rw[a4];exact ck _ (g v hv).2⟩
        .exact .inl λv hv=>a6 r hr v hv
       .exact .inr h
      rw[bF] at a5;rcases Fm with y | y
      .rw[y] at a5
       subst a5;have hall:∀u∈hW,∀v∈sec u,v≠start/\v∈hW:=λu hu=>by
        rcases Ur u hu with h | ⟨r,hr,_⟩
        .exact h
        .cases hr
       have go:∀a b,pM sec a b->a∈hW->b≠start/\b∈hW:=by
        intro a b p
        induction p with
        |one e=>exact λha=>hall _ ha _ e
        |more e _ ih=>exact λha=>ih (hall _ ha _ e).2
       exact((go _ _ hp (by rw[a4];exact ck _ h3)).1 rfl).elim
      .exact Uq oN hp n lo hW (by omega) a1 a2 (by rw[a4];exact ck _ h3) Ur
theorem Us{names:List Str}{start:Str}(oN:∀a∈names,∀b∈sec a,b∈names):∀(n:Nat) (df:List (List Str)) (re:List Str),m5 names re->(∀r∈df,q9 names re r)->(∀x∈se sec start n df re,x∈names)/\(se sec start n df re).length<=names.length
 |0,df,re,h1,h2=>by simp[se]
 | n+1,df,re,h1,h2=>by
   unfold se;by_cases z:df=[]
   .rw[if_pos z];simp
   .rw[if_neg z]
    cases e:vT sec start df re [] with
    | error row=>
      have r:=h2 row (IC _ _ _ e);have:=vR re names h1.nd h1.sub;exact⟨r.sub,bz r.len this⟩
    | ok q=>
      obtain⟨hW,lo⟩:=q;obtain⟨a1,a2,_⟩:=IB oN df re [] h1 h2 (by intro r hr;cases hr) (dJ _) hW lo e;exact Us oN n lo hW a1 a2
end DN
namespace DN
open PySem L2 MF
variable {c:Cl}{S:bI}{ρ:Ev}
@[simp]theorem Zeq(acc:Str):jT acc [] ρ S=(if acc.length<=1000 then .ok (.str acc) S else .bad):=rfl
@[simp]theorem Zdq(acc:Str)(f:DE)(fs:List DE):jT acc (f::fs) ρ S=(f ρ).bind (λt=>match t with
 |.str y=>(λS=>if(acc++y).length<=1000 then jT (acc++y) fs ρ S else .bad)
 |_=>M.bad) S:=rfl
@[simp]theorem Zer(y:Str):Zde (.str y) S=(if(cY y).length<=1000 then .ok (.str (cY y)) S else .bad):=rfl
@[simp]theorem Zdr(C:ai)(fr:DA):z7k C fr ρ S=(fr ρ).bind (λts=>λS=>if ts.length<=1000 then .exc C ae S else .bad) S:=rfl
@[simp] theorem Zfh (fb:DS) (js:List Nat) (fh:DH):tX fb js fh ρ S=(match fb ρ S with
  |.ok x S'=>.ok x S'
  |.exc C fs S'=>fh C fs (qL js ρ) S'
  |.bad=>.bad):=by unfold tX;split<;>simp_all
def Sm(x:Str):Prop:=(cY x).length<=100
theorem Ut{q:Str}:∀(ps:List HP) {x0 x1:Option T} {acc:List T},(∀p∈ps,S[p.i]?=aa (.ins c.piece p.fs))->acc.length+ps.length<=900 ->
  mJ (λ_=>True) (sP 0 1) (zx c) (Cq c) (tY (ja ps)) [x0,x1,aa (.str q)] acc S=.ok (acc++((ps.filter λp=>decide (p.pl=q)&&p.on).map λp=>T.str p.nm)) S
 | [],x0,x1,acc,_,_=>by
   show mJ _ _ _ _ [] _ acc S=_;unfold mJ;rw[if_pos trivial];simp
 | p :: ps,x0,x1,acc,hp,hl=>by
   have i:=sd (hp p (aA ..));rw[aY] at hl;have ih:=λ(acc:List T) (ha:acc.length+ps.length<=900)=>Ut (q:=q) ps (x0:=aa (.str p.nm)) (x1:=aa (.obj p.i)) (acc:=acc) (λr hr=>hp r (au _ hr)) ha;have ht:zx c [aa (.str p.nm),aa (.obj p.i),aa (.str q)] S=.ok (decide (p.pl=q)&&p.on) S:=by
    by_cases z:p.pl=q
    .simp[zx,i,Uk,Ul,z]
    .simp[zx,i,Uk,Ul,z]
   have he:Cq c [aa (.str p.nm),aa (.obj p.i),aa (.str q)] S=.ok (.str p.nm) S:=by simp[Cq]
   show mJ _ _ _ _ (.tup [.str p.nm,.obj p.i]::tY (ja ps)) _ acc S=_;unfold mJ;rw[if_pos trivial];show(M.bind (zx c [aa (.str p.nm),aa (.obj p.i),aa (.str q)]) _) S=_;rw[fJ,ht];have Ob:acc.length<1000:=by omega
   cases z:(decide (p.pl=q)&&p.on) with
   | false=>
     rw[List.filter_cons_of_neg (by rw[z];decide)];exact ih acc (by omega)
   | true=>
     rw[List.filter_cons_of_pos (by rw[z]),aC];have:=ih (acc++[.str p.nm]) (by rw[aO,ba];omega);rw[bJ] at this;simp only[if_true,fJ,he,LQ,Ob];exact this
theorem yA{h:Nat}{pl:List jj}{ps:List HP}(A:ik c S h pl ps){q:Str}{pm:jj}(hq:pl.find? (λp=>decide (p.nm=q))=aa pm)(hl:ps.length<=800) :
  q0 c [.obj h,.str q] S=.ok (aD ((ps.filter λp=>decide (p.pl=q)&&p.on).map (·.nm))) S:=by
 have hm:=q8 (m:=ao "find_place") h (by simp) (by simp);have e2:=Iv A hq;have lk:=A.pieces;have len:=A.lt;have ec:EA tY 2 [1] (HY c) (sP 0 1) (zx c) (Cq c) fO [aa (.obj h),aa (.str q)] S=.ok (aD ((ps.filter λp=>decide (p.pl=q)&&p.on).map (·.nm))) S:=by
  have e1:HY c [aa (.obj h),aa (.str q)] S=.ok (.obj (h+2)) S:=by simp[HY,A.ins,N4]
  have cc:=Ut (c:=c) (S:=S.set (h+2) (.lck (ja ps))) (q:=q) ps (x0:=ae) (x1:=ae) (acc:=[]) (λp hp=>by rw[eR (by have:=A.uf p hp;omega)];exact(A.piece p hp).o) (by simp;omega);have q2:(S.set (h+2) (.lck (ja ps))).set (h+2) (.dic (ja ps))=S:=by rw[mT,z33 lk]
  have q1:(S.set (h+2) (.lck (ja ps)))[h+2]?=aa (.lck (ja ps)):=m4 lk;unfold EA;rw[fJ,e1];show(match S[h+2]? with|some (.dic kvs)=>AZ (h+2) kvs (M.bind (qZ (mJ _ _ _ _ (tY kvs) [ae,ae,aa (.str q)] [])) fO (S.set (h+2) (.lck kvs))) | _=>.bad)=_;rw[lk];show AZ (h+2) (ja ps) (M.bind (qZ (mJ _ _ _ _ (tY (ja ps)) [ae,ae,aa (.str q)] [])) fO (S.set (h+2) (.lck (ja ps))))=_;have:qZ (mJ (λ_=>True) (sP 0 1) (zx c) (Cq c) (tY (ja ps)) [ae,ae,aa (.str q)] []) (S.set (h+2) (.lck (ja ps)))=.ok ([]++((ps.filter λp=>decide (p.pl=q)&&p.on).map λp=>T.str p.nm)) (S.set (h+2) (.lck (ja ps))):=by
   unfold qZ;rw[cc]
  rw[fJ,this];show AZ (h+2) (ja ps) (R.ok (T.lst ([]++((ps.filter λp=>decide (p.pl=q)&&p.on).map λp=>T.str p.nm))) (S.set (h+2) (.lck (ja ps))))=_;unfold AZ;simp only[q1,if_true,q2];simp[aD]
 simp[q0,TF,A.ins,hm,e2,ec]
theorem Uu{t:T}(l:List Str)(hl:l.length<=1000)(ht:kP S t=aa (l.map T.str)):xS c [aD l,t] S=.ok (.bl true) S:=by
 have cK:mZ t S=.ok (.int l.length) S:=by simp[mZ,ht]
 obtain⟨ρ',S',e,⟨x,rfl⟩,rfl⟩:=AV (ρ:=[aa (aD l),aa t,ae]) (S:=S) (it:=AJ (aV (e1 mZ (ah 1)) aK)) (g:=eE 2) (ts:=rS 0 l.length) (st:=λ_=>True) (S1:=S) (body:=MX c)
  (λ_ ρ S1=>(∃x,ρ=[aa (aD l),aa t,x])/\S1=S)
  (by have:-1000000<=(l.length:Int)/\(l.length:Int)<=1000000:=by omega
      simp[cK,this]) ⟨⟨_,rfl⟩,rfl⟩ (λpre u post ρ S1 oX ⟨⟨x,hρ⟩,hS⟩=>by
   obtain⟨qh,rfl⟩:=Ub oX;subst hρ hS;have Uv:kA (l.map T.str) (pre.length:Int)=aa (.str l[pre.length]):=by rw[Ah];simp[qh]
   have Oc:dN t (.int pre.length) S1=.ok (.str l[pre.length]) S1:=by simp[dN,ht,Uv]
   refine⟨trivial,_,rfl,[aa (aD l),aa t,aa (.int pre.length)],S1,?_,⟨_,rfl⟩,rfl⟩
   .simp[MX,aD,Uv,Oc,tU,qI]) (λ_ _ _=>trivial)
 have h1:tU .list (aD l) S'=.ok (.bl true) S':=rfl;have h2:mZ (aD l) S'=.ok (.int l.length) S':=by simp[aD]
 simp[xS,TL,h1,h2,cK,e]
theorem z72(l:List Str)(hl:l.length<=1000):xS c [aD l,aD l] S=.ok (.bl true) S:=Uu l hl rfl
end DN
namespace DN
open PySem L2 MF
variable {c:Cl}{S:bI}{ρ:Ev}{sec:Str->List Str}{names:List Str}
noncomputable def dr(names:List Str)(sec:Str->List Str):T:=.dic (names.map λn=>(.inr n,.dic (gJ (sec n))))
theorem Od{g:Str->T}{n:Str}:∀{names:List Str},n∈names->dR (names.map λn=>(dH n,g n)) (.inr n)=aa (g n)
 | m :: names,h=>by
   by_cases z:m=n
   .subst z;simp[dR]
   .have h:n∈names:=by
     rcases aF.mp h with h | h
     .exact absurd h.symm z
     .exact h
    have ih:=Od (g:=g) h;unfold dR at ih ⊢;rw[aC,bU];simpa[z] using ih
theorem Oe{g:Str->T}{n:Str}:∀{names:List Str},n∉names->dR (names.map λn=>(dH n,g n)) (.inr n)=ae
 |[],_=>rfl
 | m::names,h=>by
   have z:m≠n:=λe=>h (by simp[e]);have ih:=Oe (g:=g) (n:=n) (names:=names) λe=>h (au _ e);unfold dR at ih ⊢;rw[aC,bU];simpa[z] using ih
theorem Uw{n:Str}(hn:n∈names):i9 (dr names sec) (.str n) S=.ok (.dic (gJ (sec n))) S:=by
 simp[i9,dr,ow,ft,Od hn]
theorem z35(b:Str)(l:List Str):jY (.str b) (.dic (gJ l)) S=.ok (.bl (decide (b∈l))) S:=by
 by_cases z:b∈l
 .simp[jY,ow,ft,Cz,z]
 .simp[jY,ow,ft,Cz,z]
theorem Of{st:bI->Prop}{body:DS}{i:Nat}{ρ0:Ev}{p:T->Option T}(fm:st S):∀(ts:List T) (ρ:Ev),(∀t,ρ.set i (aa t)=ρ0.set i (aa t))->(∀t∈ts,body (ρ0.set i (aa t)) S=match p t with|some r=>.ok (.rt r) S | none=>.ok (.nx (ρ0.set i (aa t))) S) ->
  ∃ρ',(∀t,ρ'.set i (aa t)=ρ0.set i (aa t))/\fU st (eE i) body ts ρ S=match ts.findSome? p with|some r=>.ok (.rt r) S | none=>.ok (.nx ρ') S
 | [],ρ,hρ,_=>⟨ρ,hρ,by
   unfold fU;rw[if_pos fm];rfl⟩
 | t::ts,ρ,hρ,hb=>by
   have h1:=hb t (aA ..);obtain⟨ρ',Ux,e⟩:=Of fm ts (ρ0.set i (aa t)) (λu=>by rw[mT]) λu hu=>hb u (au _ hu);unfold fU;rw[if_pos fm];simp only[eE,hρ t,lI];show∃ρ',_/\(M.bind (body (ρ0.set i (aa t))) _) S=_;rw[fJ,h1];cases e2:p t with
   |some r=>exact⟨ρ',Ux,rfl⟩
   |none=>exact⟨ρ',Ux,e⟩
theorem Uy{α:Type}(f:α->Bool):∀(l:List α),zt (l.map λx=>T.bl (f x))=aa (l.map f)
 |[]=>rfl
 | a::r=>by
   rw[aC];unfold zt;rw[Uy f r];rfl
theorem zyf{k:Nat}{left:List Str}(hk:S[k]?=aa (.lst (left.map .str)))(kH:∀x∈left,x∈names)(hl:left.length<=900) :
  Cp c [dr names sec,.obj k] S=.ok (match left.find? (kF sec left) with|some x=>.str x | none=>.bH) S:=by
 have vU:=nC hk;have any:∀x,e1 tZ (jN 1 [2,0] (HU c) (eE 0) mz (HR c) fO) [aa (dr names sec),aa (.obj k),aa (.str x)] S=.ok (.bl (left.any λf=>decide (x∈sec f))) S:=λx=>by
  have hc:=Hn (ρ:=[aa (dr names sec),aa (.obj k),aa (.str x)]) (S:=S) (js:=[2,0]) (it:=HU c) (te:=HR c) (ts:=left.map .str) (st:=λS'=>cW S' (.obj k)=aa (left.map .str))
   (f:=λt=>match t with|.str y=>.bl (decide (x∈sec y)) | _=>.bH) (by simp[HU,vU]) vU (by simpa using(by omega:left.length<=1000)) (λt ht=>by
    obtain⟨y,hy,rfl⟩:=aq.mp ht;simp[HR,Uw (kH y hy),z35])
  rw[bO] at hc;have e:tZ (.lst (left.map λy=>T.bl (decide (x∈sec y)))) S=.ok (.bl (left.any λf=>decide (x∈sec f))) S:=by
   unfold tZ;simp only[LP,jm,Uy,List.any_map];rfl
  rw[AQ,fJ,hc];exact e
 obtain⟨ρ',_,e⟩:=Of (S:=S) (st:=λS'=>cW S' (.obj k)=aa (left.map .str)) (body:=Co c) (i:=2) (ρ0:=[aa (dr names sec),aa (.obj k),ae]) (p:=λt=>match t with|.str x=>if kF sec left x=true then aa (.str x) else ae | _=>ae) vU (left.map .str) [aa (dr names sec),aa (.obj k),ae] (λ_=>rfl) (λt ht=>by
  obtain⟨x,hx,rfl⟩:=aq.mp ht;have a:=any x;rw[AQ,fJ] at a;by_cases z:(left.any λf=>decide (x∈sec f))=true
  .have z2:kF sec left x=false:=by unfold kF;rw[z];rfl
   simp only[z2];rw[z] at a;simp[Co,a]
  .have z:(left.any λf=>decide (x∈sec f))=false:=by simpa using z
   have z2:kF sec left x=true:=by unfold kF;rw[z];rfl
   simp only[z2,if_true];rw[z] at a;simp[Co,a])
 have ef:(left.map T.str).findSome? (λt=>match t with|.str x=>if kF sec left x=true then aa (T.str x) else ae | _=>ae)=(left.find? (kF sec left)).map T.str:=by
  generalize kF sec left=q;clear e any vU hk kH hl
  induction left with
  |nil=>rfl
  | cons a r ih=>
    rw[aC,lI,bU];cases z:q a with
    |true=>simp[z]
    |false=>simpa[z] using ih
 rw[ef] at e;have es:eX (iL (ah 1)) (eE 2) (Co c) [aa (dr names sec),aa (.obj k),ae] S=fU (λS'=>cW S' (.obj k)=aa (left.map .str)) (eE 2) (Co c) (left.map .str) [aa (dr names sec),aa (.obj k),ae] S:=by
  unfold eX;simp[vU]
 cases z:left.find? (kF sec left) with
 | none=>
   rw[z] at e;simp[Cp,MH,es,e]
 | some x=>
   rw[z] at e;simp[Cp,MH,es,e]
end DN
namespace DN
open PySem L2 MF
variable {c:Cl}{S:bI}{ρ:Ev}{sec:Str->List Str}{names:List Str}
noncomputable def oO(names A:List Str)(k:Nat):List (bZ×T):=A.map λn=>(.inr n,.obj (k+1+names.idxOf n))
noncomputable def g_(S:bI)(names:List Str)(sec:Str->List Str):bI:=S++.dic (oO names names S.length)::names.map λn=>.dic (gJ (sec n))
theorem Uz{A B:List Str}{n:Str}(h:n∉A):(A++n::B).idxOf n=A.length:=by
 rw[List.idxOf_append,if_neg h];simp
theorem Og:(g_ S names sec)[S.length]?=aa (.dic (oO names names S.length)):=by unfold g_;rw[zC];rfl
theorem CA{j:Nat}{u:cg}(h:S[j]?=aa u):(g_ S names sec)[j]?=aa u:=nD h
theorem UA{a:Str}(ha:a∈names):(g_ S names sec)[S.length+1+names.idxOf a]?=aa (.dic (gJ (sec a))):=by
 unfold g_;rw[Dc,nX,Gb 1,cV,c9];have hl:=List.idxOf_lt_length_of_mem ha;rw[bf hl,List.getElem_idxOf hl];rfl
theorem z73{a:Str}{l:List Str}(nd:names.Nodup)(ha:a∈names):(g_ S names sec).set (S.length+1+names.idxOf a) (.dic (gJ l))=g_ S names (λn=>if n=a then l else sec n):=by
 unfold g_;rw[Dc,Fi,Gb 1,uR];congr 2;obtain⟨A,B,rfl⟩:=List.append_of_mem ha;have hA:a∉A:=λhm=>by
  rw[dO] at nd;exact nd.2.2 a hm a (aA ..) rfl
 have hB:a∉B:=λhm=>by
  rw[dO,dm] at nd;exact nd.2.1.1 hm
 rw[Uz hA,bo,aC,kq _ _ (by simp),aT,ki,mn,bo,aC];show _++cg.dic (gJ l)::_=_++cg.dic (gJ (if a=a then l else sec a))::_;rw[if_pos rfl];congr 1
 .exact dg λn hn=>by
   show _=cg.dic (gJ (if n=a then l else sec n));rw[if_neg (λe=>hA (by rw[<- e];exact hn))]
 .congr 1
  exact dg λn hn=>by
   show _=cg.dic (gJ (if n=a then l else sec n));rw[if_neg (λe=>hB (by rw[<- e];exact hn))]
noncomputable def oP(sec:Str->List Str)(a b:Str):Str->List Str:=λn=>if n=a then(if b∈sec a then sec a else sec a++[b]) else sec n
theorem z1h(g:List Str)(x:Str):mY (gJ g) (.inr x) (.bl true)=gJ (if x∈g then g else g++[x]):=by
 by_cases z:x∈g
 .rw[if_pos z]
  unfold mY;have Oh:((gJ g).any λkv=>decide (kv.1=dH x))=true:=f'.mpr ⟨((dH x:bZ),T.bl true),aq.mpr ⟨x,z,rfl⟩,by simp⟩;rw[if_pos Oh];unfold gJ;rw[bO];refine dg λy _=>?_;show(if(dH y:bZ)=dH x then((dH y:bZ),T.bl true) else(dH y,.bl true))=_
  split<;>rfl
 .rw[if_neg z,Uj g x z]
theorem UB{a b x y:Str}:y∈oP sec a b x↔y∈sec x\/(x=a/\y=b):=by
 unfold oP;by_cases z:x=a
 .rw[if_pos z]
  by_cases w:b∈sec a
  .rw[if_pos w,z]
   constructor
   .exact .inl
   .rintro(h | ⟨_,rfl⟩)
    .exact h
    .exact w
  .rw[if_neg w,z,cH,aH]
   simp
 .rw[if_neg z]
  simp[z]
theorem ID{a b x:Str}:(oP sec a b x).length<=(sec x).length+1:=by
 unfold oP
 split
 .rename_i z
  subst z
  split
  .omega
  .simp
 .omega
theorem UC{n:Str}(h:n∈names):dR (oO names names S.length) (.inr n)=aa (.obj (S.length+1+names.idxOf n)):=Od (g:=λn=>.obj (S.length+1+names.idxOf n)) h
theorem z1i{n:Str}(h:n∉names):dR (oO names names S.length) (.inr n)=ae:=Oe (g:=λn=>.obj (S.length+1+names.idxOf n)) h
theorem UD(n:Str):jY (.str n) (.obj S.length) (g_ S names sec)=.ok (.bl (decide (n∈names))) (g_ S names sec):=by
 have d:=Fh (Og (S:=S) (names:=names) (sec:=sec));by_cases z:n∈names
 .simp[jY,d,ft,UC z,z]
 .simp[jY,d,ft,z1i z,z]
theorem UE{a b:Str}{ρ:Ev}{fd fk:DE}(nd:names.Nodup)(ha:a∈names)(hl:(sec a).length<=800)(h1:fd ρ (g_ S names sec)=.ok (.obj (S.length+1+names.idxOf a)) (g_ S names sec))(h2:fk ρ (g_ S names sec)=.ok (.str b) (g_ S names sec)) :
  xA fd fk (eC (.bl true)) ρ (g_ S names sec)=.ok (.nx ρ) (g_ S names (oP sec a b)):=by
 have g:=UA (S:=S) (sec:=sec) ha;have vy:(gJ (sec a)).length<=900:=by simp[gJ];omega
 have e:(λn=>if n=a then(if b∈sec a then sec a else sec a++[b]) else sec n)=oP sec a b:=rfl;simp[h1,h2,ft,g,vy,z1h,z73 nd ha,e]
theorem UG{a:Str}(ha:a∈names):i9 (.obj S.length) (.str a) (g_ S names sec)=.ok (.obj (S.length+1+names.idxOf a)) (g_ S names sec):=by
 have d:=Fh (Og (S:=S) (names:=names) (sec:=sec));simp[i9,d,ft,UC ha]
noncomputable def oz(names:List Str)(nm:Str)(sec:Str->List Str)(o:Str):Str->List Str:=if o∈names then oP sec nm o else sec
noncomputable def sW(names:List Str)(nm:Str)(sec:Str->List Str)(o:Str):Str->List Str:=if o∈names then oP sec o nm else sec
theorem UH{h:Nat}{nm:Str}{t1 t4:Option T}{st:bI->Prop}(nd:names.Nodup)(hn:nm∈names)(fm:∀sec,st (g_ S names sec)):∀(os:List Str) {sec:Str->List Str} {x5:Option T},(∀x,(sec x).length+os.length<=800) ->
  ∃qp,fU st (eE 5) (Bg c) (os.map .str) [aa (.obj h),t1,aa (.obj S.length),aa (.str nm),t4,x5] (g_ S names sec)=.ok (.nx [aa (.obj h),t1,aa (.obj S.length),aa (.str nm),t4,qp]) (g_ S names (os.foldl (oz names nm) sec))
 | [],sec,x5,_=>⟨x5,by
   show fU _ _ _ [] _ _=_;unfold fU;rw[if_pos (fm _)];rfl⟩
 | o :: os,sec,x5,hl=>by
   have hb:Bg c [aa (.obj h),t1,aa (.obj S.length),aa (.str nm),t4,aa (.str o)] (g_ S names sec)=.ok (.nx [aa (.obj h),t1,aa (.obj S.length),aa (.str nm),t4,aa (.str o)]) (g_ S names (oz names nm sec o)):=by
    unfold oz;have d:=UD (S:=S) (names:=names) (sec:=sec) o;by_cases z:o∈names
    .have p:=UE (S:=S) (sec:=sec) (a:=nm) (b:=o) (ρ:=[aa (.obj h),t1,aa (.obj S.length),aa (.str nm),t4,aa (.str o)]) (fd:=e2 i9 (ah 2) (ah 3)) (fk:=ah 5) nd hn (by have:=hl nm;simp at this;omega) (by simp[UG hn]) (by simp)
     rw[if_pos z];simp only[decide_eq_true z] at d;unfold Bg;rw[AR,fJ,Sj,fJ,vE,fJ];simp only[xE,cV,bT,fJ,d,Si,if_true];exact p
    .rw[if_neg z]
     simp only[decide_eq_false z] at d;simp[Bg,d]
   obtain⟨qp,e⟩:=UH (h:=h) (t1:=t1) (t4:=t4) nd hn fm os (sec:=oz names nm sec o) (x5:=aa (.str o)) (λx=>by
    have:=hl x;rw[aY] at this;unfold oz
    split
    .have:=ID (sec:=sec) (a:=nm) (b:=o) (x:=x);omega
    .omega)
   refine⟨qp,?_⟩;show fU _ _ _ (.str o::os.map .str) _ _=_;unfold fU;rw[if_pos (fm _)];show(M.bind (Bg c [aa (.obj h),t1,aa (.obj S.length),aa (.str nm),t4,aa (.str o)]) _) _=_;rw[fJ,hb];exact e
theorem UI{h:Nat}{nm:Str}{t1 t4:Option T}{st:bI->Prop}(nd:names.Nodup)(hn:nm∈names)(fm:∀sec,st (g_ S names sec)):∀(os:List Str) {sec:Str->List Str} {x5:Option T},(∀x,(sec x).length+os.length<=800) ->
  ∃qp,fU st (eE 5) (Bh c) (os.map .str) [aa (.obj h),t1,aa (.obj S.length),aa (.str nm),t4,x5] (g_ S names sec)=.ok (.nx [aa (.obj h),t1,aa (.obj S.length),aa (.str nm),t4,qp]) (g_ S names (os.foldl (sW names nm) sec))
 | [],sec,x5,_=>⟨x5,by
   show fU _ _ _ [] _ _=_;unfold fU;rw[if_pos (fm _)];rfl⟩
 | o :: os,sec,x5,hl=>by
   have hb:Bh c [aa (.obj h),t1,aa (.obj S.length),aa (.str nm),t4,aa (.str o)] (g_ S names sec)=.ok (.nx [aa (.obj h),t1,aa (.obj S.length),aa (.str nm),t4,aa (.str o)]) (g_ S names (sW names nm sec o)):=by
    unfold sW;have d:=UD (S:=S) (names:=names) (sec:=sec) o;by_cases z:o∈names
    .have p:=UE (S:=S) (sec:=sec) (a:=o) (b:=nm) (ρ:=[aa (.obj h),t1,aa (.obj S.length),aa (.str nm),t4,aa (.str o)]) (fd:=e2 i9 (ah 2) (ah 5)) (fk:=ah 3) nd z (by have:=hl o;simp at this;omega) (by simp[UG z]) (by simp)
     rw[if_pos z];simp only[decide_eq_true z] at d;unfold Bh;rw[AR,fJ,Sj,fJ,vE,fJ];simp only[xE,cV,bT,fJ,d,Si,if_true];exact p
    .rw[if_neg z]
     simp only[decide_eq_false z] at d;simp[Bh,d]
   obtain⟨qp,e⟩:=UI (h:=h) (t1:=t1) (t4:=t4) nd hn fm os (sec:=sW names nm sec o) (x5:=aa (.str o)) (λx=>by
    have:=hl x;rw[aY] at this;unfold sW
    split
    .have:=ID (sec:=sec) (a:=o) (b:=nm) (x:=x);omega
    .omega)
   refine⟨qp,?_⟩;show fU _ _ _ (.str o::os.map .str) _ _=_;unfold fU;rw[if_pos (fm _)];show(M.bind (Bh c [aa (.obj h),t1,aa (.obj S.length),aa (.str nm),t4,aa (.str o)]) _) _=_;rw[fJ,hb];exact e
end DN
namespace DN
open PySem L2 MF
variable {c:Cl}{S:bI}{ρ:Ev}{sec:Str->List Str}{names:List Str}
theorem UJ{nm x y:Str}:∀(os:List Str) {sec:Str->List Str},y∈(os.foldl (oz names nm) sec) x↔y∈sec x\/(x=nm/\y∈os/\y∈names)
 |[],sec=>by simp
 | o :: os,sec=>by
   rw[iC,UJ os];unfold oz;by_cases z:o∈names
   .rw[if_pos z,UB]
    constructor
    .rintro((h | ⟨h1,h2⟩) | ⟨h1,h2,h3⟩)
     .exact .inl h
     .exact .inr ⟨h1,by rw[h2];simp,by rw[h2];exact z⟩
     .exact .inr ⟨h1,au _ h2,h3⟩
    .rintro(h | ⟨h1,h2,h3⟩)
     .exact .inl (.inl h)
     .rcases aF.mp h2 with h | h
      .exact .inl (.inr ⟨h1,h⟩)
      .exact .inr ⟨h1,h,h3⟩
   .rw[if_neg z]
    constructor
    .rintro(h | ⟨h1,h2,h3⟩)
     .exact .inl h
     .exact .inr ⟨h1,au _ h2,h3⟩
    .rintro(h | ⟨h1,h2,h3⟩)
     .exact .inl h
     .rcases aF.mp h2 with h | h
      .rw[h] at h3;exact absurd h3 z
      .exact .inr ⟨h1,h,h3⟩
theorem UK{nm x y:Str}:∀(os:List Str) {sec:Str->List Str},y∈(os.foldl (sW names nm) sec) x↔y∈sec x\/(y=nm/\x∈os/\x∈names)
 |[],sec=>by simp
 | o :: os,sec=>by
   rw[iC,UK os];unfold sW;by_cases z:o∈names
   .rw[if_pos z,UB]
    constructor
    .rintro((h | ⟨h1,h2⟩) | ⟨h1,h2,h3⟩)
     .exact .inl h
     .exact .inr ⟨h2,by rw[h1];simp,by rw[h1];exact z⟩
     .exact .inr ⟨h1,au _ h2,h3⟩
    .rintro(h | ⟨h1,h2,h3⟩)
     .exact .inl (.inl h)
     .rcases aF.mp h2 with h | h
      .exact .inl (.inr ⟨h,h1⟩)
      .exact .inr ⟨h1,h,h3⟩
   .rw[if_neg z]
    constructor
    .rintro(h | ⟨h1,h2,h3⟩)
     .exact .inl h
     .exact .inr ⟨h1,au _ h2,h3⟩
    .rintro(h | ⟨h1,h2,h3⟩)
     .exact .inl h
     .rcases aF.mp h2 with h | h
      .rw[h] at h3;exact absurd h3 z
      .exact .inr ⟨h1,h,h3⟩
noncomputable def wK(names:List Str)(sec:Str->List Str)(q:HP):Str->List Str:=q.w1.foldl (sW names q.nm) (q.w0.foldl (oz names q.nm) sec)
theorem z1k{q:HP}{x y:Str}:y∈wK names sec q x↔y∈sec x\/(x=q.nm/\y∈q.w0/\y∈names)\/(y=q.nm/\x∈q.w1/\x∈names):=by
 unfold wK;rw[UK,UJ,or_assoc]
theorem UL{x y:Str}:∀(qs:List HP) {sec:Str->List Str},y∈(qs.foldl (wK names) sec) x↔y∈sec x\/∃q∈qs,(x=q.nm/\y∈q.w0/\y∈names)\/(y=q.nm/\x∈q.w1/\x∈names)
 |[],sec=>by simp
 | q :: qs,sec=>by
   rw[iC,UL qs,z1k,or_assoc];constructor
   .rintro(h | h | ⟨r,hr,h⟩)
    .exact .inl h
    .exact .inr ⟨q,aA ..,h⟩
    .exact .inr ⟨r,au _ hr,h⟩
   .rintro(h | ⟨r,hr,h⟩)
    .exact .inl h
    .rcases aF.mp hr with rfl | hr
     .exact .inr (.inl h)
     .exact .inr (.inr ⟨r,hr,h⟩)
theorem Oi{nm x:Str}:∀(os:List Str) {sec:Str->List Str},((os.foldl (oz names nm) sec) x).length<=(sec x).length+os.length
 |[],sec=>by simp
 | o::os,sec=>by
   have:=Oi (nm:=nm) (x:=x) os (sec:=oz names nm sec o);rw[iC,aY];have h2:(oz names nm sec o x).length<=(sec x).length+1:=by
    unfold oz
    split
    .exact ID
    .omega
   omega
theorem UM{nm x:Str}:∀(os:List Str) {sec:Str->List Str},((os.foldl (sW names nm) sec) x).length<=(sec x).length+os.length
 |[],sec=>by simp
 | o::os,sec=>by
   have:=UM (nm:=nm) (x:=x) os (sec:=sW names nm sec o);rw[iC,aY];have h2:(sW names nm sec o x).length<=(sec x).length+1:=by
    unfold sW
    split
    .exact ID
    .omega
   omega
theorem UN{st:bI->Prop}{h:Nat}{t1:Option T}(nd:names.Nodup)(fm:∀S',st S')(vQ:names.length<=900):∀(B A:List Str) {x3 x4 x5:Option T},names=A++B ->
  ∃yB,fU st (eE 3) (Cm c) (B.map .str) [aa (.obj h),t1,aa (.obj S.length),x3,x4,x5] (S++.dic (oO names A S.length)::aS A.length (.dic []))=.ok (.nx [aa (.obj h),t1,aa (.obj S.length),yB,x4,x5]) (S++.dic (oO names names S.length)::aS names.length (.dic []))
 | [],A,x3,x4,x5,e=>⟨x3,by
   rw[dj] at e;subst e;show fU _ _ _ [] _ _=_;unfold fU;rw[if_pos (fm _)]⟩
 | n::B,A,x3,x4,x5,e=>by
   have hA:n∉A:=λhm=>by
    rw[e,dO] at nd;exact nd.2.2 n hm n (aA ..) rfl
   have hi:names.idxOf n=A.length:=by rw[e];exact Uz hA
   obtain⟨yB,ih⟩:=UN (h:=h) (t1:=t1) nd fm vQ B (A++[n]) (x3:=aa (.str n)) (x4:=x4) (x5:=x5) (by rw[e];simp);refine⟨yB,?_⟩;have cK:(S++cg.dic (oO names A S.length)::aS A.length (.dic [])).length=S.length+1+A.length:=by simp;omega
   have v:dR (oO names A S.length) (.inr n)=ae:=Oe (g:=λn=>.obj (S.length+1+names.idxOf n)) hA;have g:(S++cg.dic (oO names A S.length)::aS A.length (.dic [])++[.dic []])[S.length]?=aa (.dic (oO names A S.length)):=by
    rw[bJ,zC];rfl
   have rG:A.length<=900:=by rw[e] at vQ;simp at vQ;omega
   have hl9:(oO names A S.length).length<=900:=by simp[oO];omega
   have es:(S++cg.dic (oO names A S.length)::aS A.length (cg.dic [])++[cg.dic []]).set S.length (cg.dic (oO names A S.length++[((dH n:bZ),T.obj (S.length+1+A.length))]))=S++.dic (oO names (A++[n]) S.length)::aS (A++[n]).length (.dic []):=by
    rw[bJ,Cy];congr 1;rw[eW,mn];congr 1
    .simp[oO,hi]
    .rw[aO,ba,List.replicate_succ']
   have hb:Cm c [aa (.obj h),t1,aa (.obj S.length),aa (.str n),x4,x5] (S++.dic (oO names A S.length)::aS A.length (.dic []))=.ok (.nx [aa (.obj h),t1,aa (.obj S.length),aa (.str n),x4,x5]) (S++.dic (oO names (A++[n]) S.length)::aS (A++[n]).length (.dic [])):=by
    generalize Ui:(S++cg.dic (oO names A S.length)::aS A.length (.dic []))=S1 at cK g es;unfold Cm;rw[Zbm,fJ,z7n];simp only[fJ,xE,cV,bT,ft,g,if_pos hl9,Iw v,cK,es]
   show fU _ _ _ (.str n::B.map .str) _ _=_;unfold fU;rw[if_pos (fm _)];show(M.bind (Cm c [aa (.obj h),t1,aa (.obj S.length),aa (.str n),x4,x5]) _) _=_;rw[fJ,hb];exact ih
end DN
namespace DN
open PySem L2 MF
variable {c:Cl}{S:bI}{ρ:Ev}{sec:Str->List Str}{names:List Str}
theorem Zds{h:Nat}{pl:List jj}{ps:List HP}(A:ik c S h pl ps)(nd:names.Nodup){q:HP}(hq:q∈ps)(hn:q.nm∈names){t1 x4 x5:Option T}(hl:∀x,(sec x).length<=700)(h01:q.w0.length+q.w1.length<=20) :
  ∃CB qp,Cn c [aa (.obj h),t1,aa (.obj S.length),aa (.str q.nm),x4,x5] (g_ S names sec)=.ok (.nx [aa (.obj h),t1,aa (.obj S.length),aa (.str q.nm),CB,qp]) (g_ S names (wK names sec q)):=by
 have A':∀sec,ik c (g_ S names sec) h pl ps:=λsec=>A.app;have hm:=q8 (m:=ao "find_piece") h (by simp) (by simp);have ef:=Iu (A' sec) (zB A.nd hq);have P:=A.piece q hq;have i1:=sd (CA (names:=names) (sec:=sec) P.o);have i2:=sd (CA (names:=names) (sec:=q.w0.foldl (oz names q.nm) sec) P.o);obtain⟨IE,e1⟩:=UH (c:=c) (S:=S) (h:=h) (t1:=t1) (t4:=aa (.obj q.i)) (st:=λS'=>cW S' (.obj (q.i+1))=aa (q.w0.map .str)) nd hn (λsec=>nC (CA P.a0)) q.w0 (sec:=sec) (x5:=x5) (λx=>by have:=hl x;omega);obtain⟨UO,e2⟩:=UI (c:=c) (S:=S) (h:=h) (t1:=t1) (t4:=aa (.obj q.i)) (st:=λS'=>cW S' (.obj (q.i+2))=aa (q.w1.map .str)) nd hn (λsec=>nC (CA P.a1)) q.w1 (sec:=q.w0.foldl (oz names q.nm) sec) (x5:=IE) (λx=>by have:=hl x;have:=Oi (names:=names) (nm:=q.nm) (x:=x) q.w0 (sec:=sec);omega);have l1:=nC (CA (names:=names) (sec:=sec) P.a0);have l2:=nC (CA (names:=names) (sec:=q.w0.foldl (oz names q.nm) sec) P.a1);have s1:eX (iL (MF.e1 (dD c.piece "ahead") (ah 4))) (eE 5) (Bg c) [aa (.obj h),t1,aa (.obj S.length),aa (.str q.nm),aa (.obj q.i),x5] (g_ S names sec)=.ok (.nx [aa (.obj h),t1,aa (.obj S.length),aa (.str q.nm),aa (.obj q.i),IE]) (g_ S names (q.w0.foldl (oz names q.nm) sec)):=by
  unfold eX;rw[fJ];have:iL (MF.e1 (dD c.piece "ahead") (ah 4)) [aa (.obj h),t1,aa (.obj S.length),aa (.str q.nm),aa (.obj q.i),x5] (g_ S names sec)=.ok (q.w0.map .str,λS'=>cW S' (.obj (q.i+1))=aa (q.w0.map .str)) (g_ S names sec):=by simp[i1,Ug,l1]
  rw[this];exact e1
 have s2:eX (iL (MF.e1 (dD c.piece "behind") (ah 4))) (eE 5) (Bh c) [aa (.obj h),t1,aa (.obj S.length),aa (.str q.nm),aa (.obj q.i),IE] (g_ S names (q.w0.foldl (oz names q.nm) sec))=.ok (.nx [aa (.obj h),t1,aa (.obj S.length),aa (.str q.nm),aa (.obj q.i),UO]) (g_ S names (wK names sec q)):=by
  unfold eX;rw[fJ];have:iL (MF.e1 (dD c.piece "behind") (ah 4)) [aa (.obj h),t1,aa (.obj S.length),aa (.str q.nm),aa (.obj q.i),IE] (g_ S names (q.w0.foldl (oz names q.nm) sec))=.ok (q.w1.map .str,λS'=>cW S' (.obj (q.i+2))=aa (q.w1.map .str)) (g_ S names (q.w0.foldl (oz names q.nm) sec)):=by simp[i2,Uh,l2]
  rw[this];exact e2
 have i0:=(A' sec).ins;exact⟨aa (.obj q.i),UO,by simp[Cn,i0,hm,ef,s1,s2]⟩
theorem UP{h:Nat}{pl:List jj}{ps:List HP}{st:bI->Prop}(A:ik c S h pl ps)(nd:names.Nodup)(fm:∀S',st S'){t1:Option T}:∀(qs:List HP) {sec:Str->List Str} {x3 x4 x5:Option T},(∀q∈qs,q∈ps/\q.nm∈names/\q.w0.length+q.w1.length<=20)->(∀x,(sec x).length+20*qs.length<=700) ->
  ∃yB CB qp,fU st (eE 3) (Cn c) ((qs.map (·.nm)).map .str) [aa (.obj h),t1,aa (.obj S.length),x3,x4,x5] (g_ S names sec)=.ok (.nx [aa (.obj h),t1,aa (.obj S.length),yB,CB,qp]) (g_ S names (qs.foldl (wK names) sec))
 | [],sec,x3,x4,x5,_,_=>⟨x3,x4,x5,by
   show fU _ _ _ [] _ _=_;unfold fU;rw[if_pos (fm _)];rfl⟩
 | q::qs,sec,x3,x4,x5,hq,hl=>by
   obtain⟨q1,q2,q3⟩:=hq q (aA ..);obtain⟨y4,y5,hb⟩:=Zds (names:=names) (sec:=sec) A nd q1 q2 (t1:=t1) (x4:=x4) (x5:=x5) (λx=>by have:=hl x;omega) q3;obtain⟨z3,z4,z5,e⟩:=UP A nd fm qs (t1:=t1) (sec:=wK names sec q) (x3:=aa (.str q.nm)) (x4:=y4) (x5:=y5) (λr hr=>hq r (au _ hr)) (λx=>by
    have h1:=hl x;rw[aY] at h1;have h2:=Oi (names:=names) (nm:=q.nm) (x:=x) q.w0 (sec:=sec);have h3:=UM (names:=names) (nm:=q.nm) (x:=x) q.w1 (sec:=q.w0.foldl (oz names q.nm) sec);unfold wK;omega)
   refine⟨z3,z4,z5,?_⟩;show fU _ _ _ (.str q.nm::(qs.map (·.nm)).map .str) _ _=_;unfold fU;rw[if_pos (fm _)];show(M.bind (Cn c [aa (.obj h),t1,aa (.obj S.length),aa (.str q.nm),x4,x5]) _) _=_;rw[fJ,hb];exact e
theorem IF{α β γ:Type}{f:β->Option γ}{g:α->β}{k:α->γ}:∀{l:List α},(∀x∈l,f (g x)=aa (k x))->ie f (l.map g)=aa (l.map k)
 |[],_=>rfl
 | a::r,h=>by
   rw[aC];unfold ie;rw[h a (aA ..),IF λx hx=>h x (au _ hx)];rfl
theorem Zbt:fz (g_ S names sec) S.length 6 (.obj S.length)=aa (dr names sec):=by
 unfold fz;rw[if_neg (by simp only[HB];omega)];simp only[Og];unfold oO;rw[IF (k:=λn=>((dH n:bZ),T.dic (gJ (sec n)))) λn hn=>?_]
 .rfl
 .have hg:=UA (S:=S) (sec:=sec) hn
  have:fz (g_ S names sec) S.length 5 (.obj (S.length+1+names.idxOf n))=aa (.dic (gJ (sec n))):=by
   unfold fz;rw[if_neg (by simp only[HB];omega)];simp only[hg];unfold gJ;rw[IF (k:=λx=>((dH x:bZ),T.bl true)) λx _=>?_]
   .rfl
   .show(fz (g_ S names sec) S.length 4 (.bl true)).map _=_
    rw[Cd (by simp)];rfl
  show(fz (g_ S names sec) S.length 5 (.obj (S.length+1+names.idxOf n))).map _=_;rw[this];rfl
noncomputable def jv(names:List Str)(qs:List HP):Str->List Str:=qs.foldl (wK names) λ_=>[]
theorem z1l{h:Nat}{pl:List jj}{ps qs:List HP}(A:ik c S h pl ps)(nd:names.Nodup)(hq:qs.map (·.nm)=names)(hs:∀q∈qs,q∈ps/\q.w0.length+q.w1.length<=20)(hl:names.length<=24) :
  EV c [.obj h,aD names] S=.ok (dr names (jv names qs)) S:=by
 have ql:qs.length=names.length:=by rw[<- hq];simp
 obtain⟨x3,e1⟩:=UN (c:=c) (S:=S) (st:=λS'=>cW S' (aD names)=aa (names.map .str)) (h:=h) (t1:=aa (aD names)) nd (λ_=>rfl) (by omega) names [] (x3:=ae) (x4:=ae) (x5:=ae) rfl;have es:(S++cg.dic (oO names names S.length)::aS names.length (.dic []))=g_ S names (λ_=>[]):=by
  unfold g_;congr 2;rw[List.map_const'];rfl
 rw[es] at e1;obtain⟨y3,y4,y5,e2⟩:=UP (c:=c) (S:=S) (names:=names) A nd (st:=λS'=>cW S' (aD names)=aa (names.map .str)) (λ_=>rfl) (t1:=aa (aD names)) qs (sec:=λ_=>[]) (x3:=x3) (x4:=ae) (x5:=ae) (λq h=>⟨(hs q h).1,by rw[<- hq];exact aq.mpr ⟨q,h,rfl⟩,(hs q h).2⟩) (λx=>by show 0+20*qs.length<=700;omega);rw[hq] at e2;have s1:eX (iL (ah 1)) (eE 3) (Cm c) [aa (.obj h),aa (aD names),aa (.obj S.length),ae,ae,ae] (S++[.dic []])=.ok (.nx [aa (.obj h),aa (aD names),aa (.obj S.length),x3,ae,ae]) (g_ S names λ_=>[]):=by
  unfold eX;simp only[fJ,AS,xE,cV,bT];exact e1
 have s2:eX (iL (ah 1)) (eE 3) (Cn c) [aa (.obj h),aa (aD names),aa (.obj S.length),x3,ae,ae] (g_ S names λ_=>[])=.ok (.nx [aa (.obj h),aa (aD names),aa (.obj S.length),y3,y4,y5]) (g_ S names (jv names qs)):=by
  unfold eX;simp only[fJ,AS,xE,cV,bT];exact e2
 have run:cF 6 (MG c) [.obj h,aD names] S=.ok (.obj S.length) (g_ S names (jv names qs)):=by
  simp[MG,s1,s2]
 unfold EV j4;rw[run];have tk:(g_ S names (jv names qs)).take S.length=S:=by unfold g_;simp
 simp only[if_pos tk,Zbt]
theorem CD{qs:List HP}{x y:Str}:y∈jv names qs x↔∃q∈qs,(x=q.nm/\y∈q.w0/\y∈names)\/(y=q.nm/\x∈q.w1/\x∈names):=by
 unfold jv;rw[UL];simp
end DN
namespace DN
open PySem L2 MF
variable {c:Cl}{S:bI}{ρ:Ev}{sec:Str->List Str}{names:List Str}
structure mB(S S':bI)(kR kL:Nat):Prop where
 len:S'.length=S.length
 same:∀j,j≠kR->j≠kL->S'[j]?=S[j]?
theorem mB.refl(S:bI)(a b:Nat):mB S S a b:=⟨rfl,λ_ _ _=>rfl⟩
theorem mB.trans{S S1 S2:bI}{a b:Nat}(p:mB S S1 a b)(q:mB S1 S2 a b):mB S S2 a b:=⟨q.len.trans p.len,λj h1 h2=>(q.same j h1 h2).trans (p.same j h1 h2)⟩
theorem z1m(row:List Str)(s:Str):T.lst (row.map .str++[.str s])=aD (row++[s]):=by simp[aD]
theorem z1n{kR kL:Nat}{start s:Str}{row re:List Str}{lo:List (List Str)}{t0 t2:Option T}(hR:S[kR]?=aa (.dic (gJ re)))(hL:S[kL]?=aa (.lst (lo.map aD)))(hl:re.length<=500)(YG:lo.length<=500)(Bq:row.length<=500) :
  t_ c [t0,aa (.str start),t2,aa (.obj kR),aa (.obj kL),aa (aD row),aa (.str s)] S =
   if s=start then .ok (.rt (aD row)) S else if s∈re then .ok (.nx [t0,aa (.str start),t2,aa (.obj kR),aa (.obj kL),aa (aD row),aa (.str s)]) S
   else .ok (.nx [t0,aa (.str start),t2,aa (.obj kR),aa (.obj kL),aa (aD row),aa (.str s)]) ((S.set kR (.dic (gJ (re++[s])))).set kL (.lst ((lo++[row++[s]]).map aD))):=by
 have ne:kR≠kL:=xZ hR hL (by intro z;cases z);have d:=Fh hR;by_cases z:s=start
 .rw[if_pos z]
  simp[t_,z]
 .rw[if_neg z]
  by_cases y:s∈re
  .rw[if_pos y]
   have v:dR (gJ re) (.inr s)=aa (.bl true):=by rw[Cz,if_pos y]
   simp[t_,z,vA,d,ft,v]
  .rw[if_neg y]
   have v:dR (gJ re) (.inr s)=ae:=by rw[Cz,if_neg y]
   have vy:(gJ re).length<=900:=by simp[gJ];omega
   have IG:(S.set kR (.dic (gJ (re++[s]))))[kL]?=aa (.lst (lo.map aD)):=by rw[eR ne];exact hL
   have cD:=nS IG;have l7:=vF (y:=aD (row++[s])) IG (by simp;omega);have e1:lo.map aD++[aD (row++[s])]=(lo++[row++[s]]).map aD:=by simp
   rw[e1] at l7;have Oj:ic (aD row) (.lst [.str s]) (S.set kR (.dic (gJ (re++[s]))))=.ok (aD (row++[s])) (S.set kR (.dic (gJ (re++[s])))):=by
    have hl3:(row.map T.str).length+[T.str s].length<=1000:=by simp;omega
    show ic (.lst (row.map .str)) (.lst [.str s]) _=_;rw[Za2,if_pos hl3,z1m]
   simp[t_,z,vA,d,ft,v,hR,vy,Uj re s y,cD,Oj,l7]
theorem Ol{kR kL:Nat}{start:Str}{row:List Str}{t0 t2:Option T}(Bq:row.length<=200):∀(ss re:List Str) (lo:List (List Str)) {x6:Option T} {S:bI},S[kR]?=aa (.dic (gJ re))->S[kL]?=aa (.lst (lo.map aD))->re.length+ss.length<=500->lo.length+ss.length<=500 ->
  ∃ S' Br,mB S S' kR kL/\(match wJ start row ss re lo with
    |none=>fU (λ_=>True) (eE 6) (t_ c) (ss.map .str) [t0,aa (.str start),t2,aa (.obj kR),aa (.obj kL),aa (aD row),x6] S=.ok (.rt (aD row)) S'
    |some (hW,nE)=>fU (λ_=>True) (eE 6) (t_ c) (ss.map .str) [t0,aa (.str start),t2,aa (.obj kR),aa (.obj kL),aa (aD row),x6] S=.ok (.nx [t0,aa (.str start),t2,aa (.obj kR),aa (.obj kL),aa (aD row),Br]) S'/\S'[kR]?=aa (.dic (gJ hW))/\S'[kL]?=aa (.lst (nE.map aD)))
 | [],re,lo,x6,S,hR,hL,_,_=>⟨S,x6,mB.refl _ _ _,by
   show fU _ _ _ [] _ S=_/\_;unfold fU;rw[if_pos trivial];exact⟨rfl,hR,hL⟩⟩
 | s :: ss,re,lo,x6,S,hR,hL,h1,h2=>by
   have ne:kR≠kL:=xZ hR hL (by intro z;cases z);rw[aY] at h1 h2;have hb:=z1n (c:=c) (start:=start) (s:=s) (row:=row) (t0:=t0) (t2:=t2) hR hL (by omega) (by omega) (by omega);have un:fU (λ_=>True) (eE 6) (t_ c) ((s::ss).map .str) [t0,aa (.str start),t2,aa (.obj kR),aa (.obj kL),aa (aD row),x6] S=M.bind (t_ c [t0,aa (.str start),t2,aa (.obj kR),aa (.obj kL),aa (aD row),aa (.str s)]) (λx=>match x with
    |.nx ρ2=>fU (λ_=>True) (eE 6) (t_ c) (ss.map .str) ρ2
    |.ct ρ2=>fU (λ_=>True) (eE 6) (t_ c) (ss.map .str) ρ2
    |.bk ρ2=>M.pure (.nx ρ2)
    |.rt t=>M.pure (.rt t)) S:=by
    show fU _ _ _ (.str s::ss.map .str) _ S=_
    conv=>lhs;unfold fU
    rw[if_pos trivial];rfl
   rw[un,fJ];unfold wJ;by_cases z:s=start
   .rw[if_pos z]
    rw[if_pos z] at hb;refine⟨S,x6,mB.refl _ _ _,?_⟩;rw[hb];rfl
   .rw[if_neg z]
    rw[if_neg z] at hb;by_cases y:s∈re
    .rw[if_pos y]
     rw[if_pos y] at hb;obtain⟨S',Br,sm,e⟩:=Ol Bq ss re lo (x6:=aa (.str s)) hR hL (by omega) (by omega);refine⟨S',Br,sm,?_⟩;rw[hb];exact e
    .rw[if_neg y]
     rw[if_neg y] at hb;have hR2:((S.set kR (.dic (gJ (re++[s])))).set kL (.lst ((lo++[row++[s]]).map aD)))[kR]?=aa (.dic (gJ (re++[s]))):=by rw[eR (bP ne)];exact m4 hR
     have IG:((S.set kR (.dic (gJ (re++[s])))).set kL (.lst ((lo++[row++[s]]).map aD)))[kL]?=aa (.lst ((lo++[row++[s]]).map aD)):=m4 (u:=.lst (lo.map aD)) (by rw[eR ne];exact hL);have wL:mB S ((S.set kR (.dic (gJ (re++[s])))).set kL (.lst ((lo++[row++[s]]).map aD))) kR kL:=⟨by simp,λj h1 h2=>by rw[eR (bP h2),eR (bP h1)]⟩;obtain⟨S',Br,sm,e⟩:=Ol Bq ss (re++[s]) (lo++[row++[s]]) (x6:=aa (.str s)) hR2 IG (by simp;omega) (by simp;omega);refine⟨S',Br,wL.trans sm,?_⟩;rw[hb];exact e
theorem z74{row:List Str}(h:row≠[]):dN (aD row) (.int (-1)) S=.ok (.str (qP row)) S:=by
 obtain⟨A,x,rfl⟩:∃A x,row=A++[x]:=⟨row.dropLast,row.getLast h,(List.dropLast_concat_getLast h).symm⟩;have:kA ((A++[x]).map T.str) (-1)=aa (.str x):=by
  have hl:((A++[x]).map T.str).length=A.length+1:=by simp
  have hi:u9 (A.length+1) (-1)=aa A.length:=by
   unfold u9;rw[if_neg (by decide),if_pos (by omega)];congr 1;omega
  unfold kA;rw[hl,hi];simp
 rw[Um];show dN (.lst ((A++[x]).map T.str)) (.int (-1)) S=_;rw[Zdi,this]
end DN
namespace DN
open PySem L2 MF
variable {c:Cl}{S:bI}{ρ:Ev}{sec:Str->List Str}{names:List Str}
theorem z1o(l:List Str):(gJ l).map (λp=>kT p.1)=l.map T.str:=by simp[gJ,kT]
structure SecOk(names:List Str)(sec:Str->List Str):Prop where
 sub:∀a∈names,∀b∈sec a,b∈names
 len:∀a∈names,(sec a).length<=200
 uI:names.length<=100
theorem m5.uI{re:List Str}(h:m5 names re)(k:SecOk names sec):re.length<=100:=bz (vR re names h.nd h.sub) k.uI
theorem UQ{kR kL:Nat}{start:Str}{t2:Option T}{st:bI->Prop}(ok:SecOk names sec):∀(df:List (List Str)) (re:List Str) (lo:List (List Str)) {x5 x6:Option T} {S:bI},S[kR]?=aa (.dic (gJ re))->S[kL]?=aa (.lst (lo.map aD))->m5 names re->(∀r∈df,q9 names re r)->(∀r∈lo,q9 names re r)->lo.length<=re.length->(∀S',mB S S' kR kL->st S') ->
  ∃ S' qp Br,mB S S' kR kL/\(match vT sec start df re lo with
    |.error row=>fU st (eE 5) (uF c) (df.map aD) [aa (dr names sec),aa (.str start),t2,aa (.obj kR),aa (.obj kL),x5,x6] S=.ok (.rt (aD row)) S'
    |.ok (hW,nE)=>fU st (eE 5) (uF c) (df.map aD) [aa (dr names sec),aa (.str start),t2,aa (.obj kR),aa (.obj kL),x5,x6] S=.ok (.nx [aa (dr names sec),aa (.str start),t2,aa (.obj kR),aa (.obj kL),qp,Br]) S'/\S'[kR]?=aa (.dic (gJ hW))/\S'[kL]?=aa (.lst (nE.map aD)))
 | [],re,lo,x5,x6,S,hR,hL,_,_,_,_,fm=>⟨S,x5,x6,mB.refl _ _ _,by
   show fU _ _ _ [] _ S=_/\_;unfold fU;rw[if_pos (fm S (mB.refl _ _ _))];exact⟨rfl,hR,hL⟩⟩
 | row::df,re,lo,x5,x6,S,hR,hL,h1,h2,h3,h4,fm=>by
   have hr:=h2 row (aA ..);have vV:=hr.sub _ (Uo hr.ne);have f1:=h1.uI ok;have f2:=ok.len _ vV;obtain⟨S1,y6,wL,e1⟩:=Ol (c:=c) (kR:=kR) (kL:=kL) (start:=start) (row:=row) (t0:=aa (dr names sec)) (t2:=t2) (by have:=hr.len;omega) (sec (qP row)) re lo (x6:=x6) hR hL (by omega) (by omega);have un:fU st (eE 5) (uF c) ((row::df).map aD) [aa (dr names sec),aa (.str start),t2,aa (.obj kR),aa (.obj kL),x5,x6] S=M.bind (uF c [aa (dr names sec),aa (.str start),t2,aa (.obj kR),aa (.obj kL),aa (aD row),x6]) (λx=>match x with
    |.nx ρ2=>fU st (eE 5) (uF c) (df.map aD) ρ2
    |.ct ρ2=>fU st (eE 5) (uF c) (df.map aD) ρ2
    |.bk ρ2=>M.pure (.nx ρ2)
    |.rt t=>M.pure (.rt t)) S:=by
    show fU _ _ _ (aD row::df.map aD) _ S=_
    conv=>lhs;unfold fU
    rw[if_pos (fm S (mB.refl _ _ _))];rfl
   have hb:uF c [aa (dr names sec),aa (.str start),t2,aa (.obj kR),aa (.obj kL),aa (aD row),x6] S=fU (λ_=>True) (eE 6) (t_ c) ((sec (qP row)).map .str) [aa (dr names sec),aa (.str start),t2,aa (.obj kR),aa (.obj kL),aa (aD row),x6] S:=by
    have hi:iK (e2 i9 (ah 0) (e2 dN (ah 5) (MF.e1 t8 (eC (.int 1))))) [aa (dr names sec),aa (.str start),t2,aa (.obj kR),aa (.obj kL),aa (aD row),x6] S=.ok ((sec (qP row)).map .str,λ_=>True) S:=by
     have hd:=Uw (S:=S) (sec:=sec) vV;have ha:=z74 (S:=S) hr.ne;unfold iK;rw[fJ,vE,fJ];simp only[xE,bT,fJ,vE,cV,AQ,Hm,t8,ha,hd,z1o]
    unfold uF eX;rw[fJ,hi]
   rw[un,fJ,hb];unfold vT;cases q:wJ start row (sec (qP row)) re lo with
   | none=>
     rw[q] at e1;refine⟨S1,x5,y6,wL,?_⟩;simp only at e1 ⊢;rw[e1];rfl
   | some p=>
     obtain⟨qW,lo1⟩:=p;rw[q] at e1;simp only at e1;obtain⟨e1,g1,g2⟩:=e1;obtain⟨a1,a2,a3,⟨u,a4⟩,_,_,_⟩:=IA _ re lo (ok.sub _ vV) h1 hr h3 h4 qW lo1 q;have Oa:re.length<=qW.length:=by rw[a4];simp
     obtain⟨S2,z5,z6,sm2,e2⟩:=UQ ok df qW lo1 (x5:=aa (aD row)) (x6:=y6) (t2:=t2) (start:=start) (S:=S1) g1 g2 a1 (λr hr=>(h2 r (au _ hr)).mono Oa) a2 a3 (λS' h=>fm S' (wL.trans h));refine⟨S2,z5,z6,wL.trans sm2,?_⟩;rw[e1];exact e2
theorem Fo{t:T}{ts:List T}(h:cW S t=aa ts):nR t S=.ok (!ts.isEmpty) S:=by
 cases t with
 |lst us=>cases h;rfl
 | obj k=>
   have:kP S (.obj k)=aa ts:=h;unfold nR;simp[this]
 |_=>simp[cW] at h
theorem UR{kR:Nat}{start:Str}(ok:SecOk names sec):∀(n:Nat) (df:List (List Str)) (re:List Str) (m:Nat) {tR:T} {x4 x5 x6:Option T} {S:bI},n+1<=m->names.length+2<=n+re.length->S[kR]?=aa (.dic (gJ re))->(∀S',(∀j,j<S.length->j≠kR->S'[j]?=S[j]?)->cW S' tR=aa (df.map aD))->m5 names re->(∀r∈df,q9 names re r) ->
  ∃S' ρ',jZ (vN c) (uG c) m [aa (dr names sec),aa (.str start),aa tR,aa (.obj kR),x4,x5,x6] S=(if se sec start n df re=[] then .ok (.nx ρ') S' else .ok (.rt (aD (se sec start n df re))) S')/\(∀j,j<kR->S'[j]?=S[j]?)/\S.length<=S'.length
 | 0,df,re,m,tR,x4,x5,x6,S,_,hf,_,_,h1,_=>by
   have:=vR re names h1.nd h1.sub;omega
 |n+1,df,re,0,tR,x4,x5,x6,S,hm,_,_,_,_,_=>by omega
 | n + 1, df,re,m+1,tR,x4,x5,x6,S,hm,hf,hR,hT,h1,h2=>by
   have hl:=hT S λ_ _ _=>rfl;have US:=(aB.mp hR).1;have hw:vN c [aa (dr names sec),aa (.str start),aa tR,aa (.obj kR),x4,x5,x6] S=.ok (!df.isEmpty) S:=by
    simp[vN,Fo hl]
   have un:jZ (vN c) (uG c) (m+1) [aa (dr names sec),aa (.str start),aa tR,aa (.obj kR),x4,x5,x6] S=if(!df.isEmpty)=true then M.bind (uG c [aa (dr names sec),aa (.str start),aa tR,aa (.obj kR),x4,x5,x6]) (λx=>match x with
    |.nx ρ2=>jZ (vN c) (uG c) m ρ2
    |.ct ρ2=>jZ (vN c) (uG c) m ρ2
    |.bk ρ2=>M.pure (.nx ρ2)
    |.rt t=>M.pure (.rt t)) S else .ok (.nx [aa (dr names sec),aa (.str start),aa tR,aa (.obj kR),x4,x5,x6]) S:=by
    conv=>lhs;unfold jZ
    rw[fJ,hw];simp only
    split<;>rfl
   rw[un];unfold se;by_cases z:df=[]
   .subst z
    exact⟨S,[aa (dr names sec),aa (.str start),aa tR,aa (.obj kR),x4,x5,x6],by simp,λ_ _=>rfl,az _⟩
   .have z':df.isEmpty=false:=by simpa using z
    simp only[z',Bool.not_false,if_true,if_neg z];rw[fJ];have hL:(S++[cg.lst []])[S.length]?=aa (.lst (([]:List (List Str)).map aD)):=qm;have hR':(S++[cg.lst []])[kR]?=aa (.dic (gJ re)):=nD hR;have UT:∀S',mB (S++[cg.lst []]) S' kR S.length->cW S' tR=aa (df.map aD):=λS' sm=>hT S' λj hj px=>by
     rw[sm.same j px (by omega),aG hj]
    obtain⟨S1,y5,y6,sm,e⟩:=UQ (c:=c) (kR:=kR) (kL:=S.length) (start:=start) (t2:=aa tR) (st:=λS'=>cW S' tR=aa (df.map aD)) ok df re [] (x5:=x5) (x6:=x6) (S:=S++[.lst []]) hR' hL h1 h2 (by intro r hr;cases hr) (dJ _) UT;have vW:∀j,j<kR->S1[j]?=S[j]?:=λj hj=>by rw[sm.same j (by omega) (by omega),aG (by omega)]
    have vK:S1.length=S.length+1:=by rw[sm.len];simp
    have Fp:eX (iL (ah 2)) (eE 5) (uF c) [aa (dr names sec),aa (.str start),aa tR,aa (.obj kR),aa (.obj S.length),x5,x6] (S++[.lst []])=fU (λS'=>cW S' tR=aa (df.map aD)) (eE 5) (uF c) (df.map aD) [aa (dr names sec),aa (.str start),aa tR,aa (.obj kR),aa (.obj S.length),x5,x6] (S++[.lst []]):=by
     have:=UT _ (mB.refl _ _ _);unfold eX;simp[this]
    cases q:vT sec start df re [] with
    | error row=>
      rw[q] at e;have hb:uG c [aa (dr names sec),aa (.str start),aa tR,aa (.obj kR),x4,x5,x6] S=.ok (.rt (aD row)) S1:=by
       simp[uG,Fp,e]
      have px:=(h2 row (IC _ _ _ q)).ne;refine⟨S1,[],?_,vW,by omega⟩;rw[hb,if_neg px];rfl
    | ok p=>
      obtain⟨hW,lo⟩:=p;rw[q] at e;obtain⟨e,g1,g2⟩:=e;have hb:uG c [aa (dr names sec),aa (.str start),aa tR,aa (.obj kR),x4,x5,x6] S=.ok (.nx [aa (dr names sec),aa (.str start),aa (.obj S.length),aa (.obj kR),aa (.obj S.length),y5,y6]) S1:=by
       simp[uG,Fp,e]
      obtain⟨a1,a2,a3,⟨u,a4⟩,⟨v,a5,Fm⟩,_,_⟩:=IB ok.sub df re [] h1 h2 (by intro r hr;cases hr) (dJ _) hW lo q;rw[bF] at a5;have UU:∀S',(∀j,j<S1.length->j≠kR->S'[j]?=S1[j]?)->cW S' (.obj S.length)=aa (lo.map aD):=λS' h=>nC (by rw[h S.length (by omega) (by omega)];exact g2);rw[hb];rcases Fm with y | y
      .rw [y] at a5
       subst a5;have r0:se sec start n [] hW=[]:=by cases n<;>simp[se]
       have Ew:=UU S1 λ_ _ _=>rfl;cases m with
       |zero=>omega
       | succ m=>
         refine⟨S1,[aa (dr names sec),aa (.str start),aa (.obj S.length),aa (.obj kR),aa (.obj S.length),y5,y6],?_,vW,by omega⟩;rw[if_pos r0];show jZ _ _ (m+1) _ S1=_;unfold jZ;have hw1:vN c [aa (dr names sec),aa (.str start),aa (.obj S.length),aa (.obj kR),aa (.obj S.length),y5,y6] S1=.ok false S1:=by
          simp[vN,Fo Ew]
         rw[fJ,hw1];rfl
      .obtain⟨S2,ρ2,w1,w2,w3⟩:=UR ok n lo hW m (tR:=.obj S.length) (x4:=aa (.obj S.length)) (x5:=y5) (x6:=y6) (S:=S1) (start:=start) (kR:=kR) (by omega) (by omega) g1 UU a1 a2
       exact⟨S2,ρ2,w1,λj hj=>(w2 j hj).trans (vW j hj),by omega⟩
end DN
namespace DN
open PySem L2 MF
variable {c:Cl}{S:bI}{ρ:Ev}{sec:Str->List Str}{names:List Str}
noncomputable def oQ(sec:Str->List Str)(names:List Str)(start:Str):List Str:=se sec start (names.length+1) [[start]] [start]
theorem Om{start:Str}(h:start∈names):m5 names [start]/\∀r∈[[start]],q9 names [start] r:=by
 refine⟨⟨by simp,λx hx=>by rw[aH.mp hx];exact h⟩,λr hr=>?_⟩;rw[aH.mp hr];exact⟨by simp,λx hx=>by rw[aH.mp hx];exact h,az _⟩
theorem z75{start:Str}(ok:SecOk names sec)(h:start∈names)(hp:pM sec start start):oQ sec names start≠[]:=by
 obtain⟨a,b⟩:=Om h;refine Uq ok.sub hp (names.length+1) [[start]] [start] (by simp) a b (by simp) λu hu=>.inr ⟨[start],by simp,?_⟩;rw[aH.mp hu];rfl
theorem z36{start:Str}(ok:SecOk names sec)(h:start∈names):(∀x∈oQ sec names start,x∈names)/\(oQ sec names start).length<=names.length:=by
 obtain⟨a,b⟩:=Om h;exact Us ok.sub _ _ _ a b
theorem UW{S S':bI}(h:∀j,j<S.length->S'[j]?=S[j]?)(hl:S.length<=S'.length):S'.take S.length=S:=by
 apply ji;intro j;rw[List.getElem?_take];by_cases z:j<S.length
 .rw[if_pos z];exact h j z
 .rw[if_neg z,hV (by omega)]
theorem Zbu{start:Str}(ok:SecOk names sec)(hs:start∈names):HW c [dr names sec,.str start] S=.ok (aD (oQ sec names start)) S:=by
 obtain⟨a,b⟩:=Om hs;have hd:Hw (ah 1) (eC (.bl true)) [aa (dr names sec),aa (.str start),aa (.lst [.lst [.str start]]),ae,ae,ae,ae] S=.ok (.obj S.length) (S++[.dic (gJ [start])]):=by
  simp[Hw,ft,gJ,Cy]
 have uI:=ok.uI;obtain⟨S',ρ',e,k1,k2⟩:=UR (c:=c) (kR:=S.length) (start:=start) ok (names.length+1) [[start]] [start] 1000 (tR:=.lst [.lst [.str start]]) (x4:=ae) (x5:=ae) (x6:=ae) (S:=S++[.dic (gJ [start])]) (by omega) (by simp) qm (λ_ _=>rfl) a b;have keep:∀j,j<S.length->S'[j]?=S[j]?:=λj hj=>by rw[k1 j hj,aG hj]
 have hl:S.length<=S'.length:=by simp at k2;omega
 have e':uy (vN c) (uG c) [aa (dr names sec),aa (.str start),aa (.lst [.lst [.str start]]),aa (.obj S.length),ae,ae,ae] (S++[.dic (gJ [start])])=_:=e;have run:cF 7 (HV c) [dr names sec,.str start] S=.ok (aD (oQ sec names start)) S':=by
  by_cases z:oQ sec names start=[]
  .have z':se sec start (names.length+1) [[start]] [start]=[]:=z
   rw[if_pos z'] at e';rw[z];simp[HV,hd,e',aD]
  .have z':¬se sec start (names.length+1) [[start]] [start]=[]:=z
   rw[if_neg z'] at e';simp[HV,hd,e'];rfl
 exact Ex run (UW keep hl) (Sq _)
theorem UX:∀(ls:List Nat),ls≠[]->∃i,A7 ls i
 |[],h=>absurd rfl h
 | [n],_=>⟨0,n,rfl,λj k e=>by
   cases j with
   |zero=>simp at e;subst e;exact⟨az _,λh=>absurd h (cZ _)⟩
   |succ j=>simp at e⟩
 | n::m::r,_=>by
   obtain⟨i,k,ek,hk⟩:=UX (m::r) (by simp);by_cases z:k<n
   .refine⟨i+1,k,by simpa using ek,λj u eu=>?_⟩
    cases j with
    |zero=>simp at eu;subst eu;exact⟨by omega,λ_=>z⟩
    | succ j=>
      have:=hk j u (by simpa using eu);exact⟨this.1,λh=>this.2 (by omega)⟩
   .refine⟨0,n,rfl,λj u eu=>?_⟩
    cases j with
    |zero=>simp at eu;subst eu;exact⟨az _,λh=>absurd h (cZ _)⟩
    | succ j=>
      have:=hk j u (by simpa using eu);exact⟨by omega,λh=>absurd h (zS _)⟩
structure IH(sec:Str->List Str)(names ring:List Str):Prop where
 ne:ring≠[]
 of:∃n∈names,ring=oQ sec names n
 min:∀n∈names,oQ sec names n≠[]->ring.length<=(oQ sec names n).length
theorem zyg(ok:SecOk names sec)(hex:∃n∈names,oQ sec names n≠[]):∃ring,EX c [dr names sec] S=.ok (aD ring) S/\IH sec names ring:=by
 have uI:=ok.uI;have hk:EW c [aa (dr names sec),ae] S=.ok (names.map .str,λ_=>True) S:=by
  have:(names.map λn=>((dH n:bZ),T.dic (gJ (sec n)))).map (λp=>kT p.1)=names.map T.str:=by simp[kT]
  simp[EW,iK,dr,kT]
 have c1:=Hn (ρ:=[aa (dr names sec),ae]) (S:=S) (js:=[0]) (it:=EW c) (te:=HX c) (ts:=names.map .str) (st:=λ_=>True) (f:=λt=>match t with|.str n=>aD (oQ sec names n) | _=>.bH) hk trivial (by simp;omega) (λt ht=>by
  obtain⟨n,hn,rfl⟩:=aq.mp ht;simp[HX,Zbu ok hn])
 rw[bO] at c1;have c1:jN 1 [0] (EW c) (eE 0) mz (HX c) fO [aa (dr names sec),ae] S=.ok (.lst (names.map λn=>aD (oQ sec names n))) S:=c1;have c2:=xF (ρ:=[aa (dr names sec),aa (.lst (names.map λn=>aD (oQ sec names n)))]) (S:=S) (js:=[]) (it:=MJ c) (tc:=MK c) (te:=MI c) (ts:=names.map λn=>aD (oQ sec names n)) (st:=λS'=>cW S' (.lst (names.map λn=>aD (oQ sec names n)))=aa (names.map λn=>aD (oQ sec names n)))
  (p:=λt=>match t with|.lst us=>!us.isEmpty | _=>false) (f:=λt=>t) (by simp[MJ]) rfl (by simp;omega) (λt ht=>by
   obtain⟨n,hn,rfl⟩:=aq.mp ht;simp[MK,aD]) (λt ht _=>by simp[MI])
 have ef:((names.map λn=>aD (oQ sec names n)).filter (λt=>match t with|.lst us=>!us.isEmpty | _=>false)).map (λt=>t)=((names.map (oQ sec names)).filter λr=>!r.isEmpty).map aD:=by
  rw[De,cI,cI,bO];congr 1;refine wt λn _=>?_;simp[aD]
 rw[ef] at c2;generalize wM:((names.map (oQ sec names)).filter λr=>!r.isEmpty)=rs at c2;have mem:∀r∈rs,r≠[]/\∃n∈names,r=oQ sec names n:=λr hr=>by
  rw[<- wM] at hr;obtain⟨h1,h2⟩:=aN.mp hr;obtain⟨n,hn,rfl⟩:=aq.mp h1;exact⟨by simpa using h2,n,hn,rfl⟩
 have rne:rs≠[]:=by
  obtain⟨n,hn,h⟩:=hex;intro z;have:oQ sec names n∈rs:=by rw[<- wM];exact aN.mpr ⟨aq.mpr ⟨n,hn,rfl⟩,by simpa using h⟩
  rw[z] at this;cases this
 have Fq:Hy S (rs.map aD)=aa (rs.map fV):=by
  unfold Hy;exact IF (k:=fV) λr _=>by simp[aD]
 have qN:=UX (rs.map fV) (by simpa using rne);have hm:∃ring∈rs,vJ (.lst (rs.map aD)) S=.ok (aD ring) S/\∀r∈rs,ring.length<=r.length:=by
  obtain⟨n,en,Oo⟩:=qN.choose_spec;rw[c9] at en;obtain⟨ring,er,el⟩:=bg.mp en;refine⟨ring,kX er,?_,λr hr=>?_⟩
  case refine_2=>
   obtain⟨j,hj,e⟩:=lF hr;have:=(Oo j r.length (by rw[c9,bf hj,e];rfl)).1;omega
  have e2:(rs.map aD)[qN.choose]?=aa (aD ring):=by rw[c9,er];rfl
  unfold vJ;simp only[LP,Fq,dif_pos qN,e2]
 obtain⟨ring,hr,em,hmn⟩:=hm;refine⟨ring,?_,(mem ring hr).1,(mem ring hr).2,λn hn h=>hmn _ (by rw[<- wM];exact aN.mpr ⟨aq.mpr ⟨n,hn,rfl⟩,by simpa using h⟩)⟩;simp[EX,TB,c1,c2,em]
end DN
namespace DN
open PySem L2 MF
variable {c:Cl}{S:bI}{ρ:Ev}{sec:Str->List Str}{names:List Str}
theorem UY:∀(zs:List Str),(∀z∈zs,(cY z).length<=30)->((ip (zs.map cy)).map (·.length)).sum<=30*zs.length/\(ip (zs.map cy)).length=zs.length
 |[],_=>by simp[ip]
 | z::zs,h=>by
   obtain⟨a,b⟩:=UY zs λx hx=>h x (au _ hx);have:=h z (aA ..);simp only[aC,ip,fW,BJ,aY];omega
theorem zvj{zs:List Str}(h:∀z∈zs,(cY z).length<=30)(hl:zs.length<=24):(fW (.list (zs.map cy))).length<=800:=by
 obtain⟨a,b⟩:=UY zs h;have:=listText_len_le (ip (zs.map cy));simp only[fW];omega
theorem z76{x:Str}{A B:List Str}(h:x∉A):rY (.str x) ((A++x::B).map T.str)=aa A.length:=by
 have go:∀(A B:List Str),x∉A->((A++x::B).map V.str).findIdx? (λy=>qA y (.str x))=aa A.length:=by
  intro A
  induction A with
  | nil=>
    intro B _;rw[bF,aC,uS];simp[qA]
  | cons a A ih=>
    intro B h;have h1:a≠x:=λe=>h (by simp[e]);have:=ih B λz=>h (au _ z);rw[eW,aC,uS,this];simp[qA,h1]
 unfold rY;rw[LV];simp only[toV];rw[if_pos (by rw[LW];rfl),go A B h]
theorem UZ{k:Nat}{left:List Str}{x:Str}(hk:S[k]?=aa (.lst (left.map .str)))(hx:x∈left)(hl:left.length<=1000):AO (.obj k) [.str x] S=.ok .bH (S.set k (.lst ((left.erase x).map .str))):=by
 obtain⟨A,B,rfl,hA⟩:=List.eq_append_cons_of_mem hx;have e1:(A++x::B).erase x=A++B:=by rw[List.erase_append_right _ hA,List.erase_cons_head]
 have e2:((A++x::B).map T.str).eraseIdx A.length=(A++B).map T.str:=by
  rw[bo,aC,List.eraseIdx_append_of_length_le (by simp),aT,ki,List.eraseIdx_cons_zero,bo]
 have vy:((A++x::B).map T.str).length<=1000:=by rw[aT];exact hl
 unfold AO;simp only[gr,hk,z76 hA,if_pos vy,e2,e1]
structure II(names:List Str)(sec:Str->List Str):Prop extends SecOk names sec where
 sm:∀x∈names,(cY x).length<=30
 Fs:names.length<=24
theorem U0{kl kr h:Nat}{t1:Option T}(ok:II names sec):∀(n:Nat) (left row:List Str) (m:Nat) {x5:Option T} {S:bI},left.length=n->n+1<=m->left.Nodup->(∀x∈left,x∈names)->S[kl]?=aa (.lst (left.map .str))->S[kr]?=aa (.lst (row.map .str))->kl≠kr->row.length+n<=900 ->
  (∀res,topo sec n left row=aa res->∃S' qp,jZ (uH c) (uc c) m [aa (.obj h),t1,aa (dr names sec),aa (.obj kl),aa (.obj kr),x5] S=.ok (.nx [aa (.obj h),t1,aa (dr names sec),aa (.obj kl),aa (.obj kr),qp]) S'/\S'[kr]?=aa (.lst (res.map .str))/\mB S S' kl kr) /\
  (topo sec n left row=ae->∃S' ring,jZ (uH c) (uc c) m [aa (.obj h),t1,aa (dr names sec),aa (.obj kl),aa (.obj kr),x5] S=.exc c.ring (aa [("ring",aD ring)]) S'/\mB S S' kl kr/\IH sec names ring)
 |n,left,row,0,x5,S,_,hm,_,_,_,_,_,_=>by omega
 | 0,left,row,m+1,x5,S,hl,_,_,_,sf,yC,ne,_=>by
   have:left=[]:=il hl;subst this;have hw:uH c [aa (.obj h),t1,aa (dr names sec),aa (.obj kl),aa (.obj kr),x5] S=.ok false S:=by
    simp[uH,Fo (nC sf)]
   refine⟨λres e=>?_,λe=>by cases e⟩;cases e;refine⟨S,x5,?_,yC,mB.refl _ _ _⟩;unfold jZ;rw[fJ,hw];rfl
 | n + 1,left,row,m+1,x5,S,hl,hm,nd,kH,sf,yC,ne,hr=>by
   have vX:left≠[]:=λe=>by rw[e] at hl;simp at hl
   have hw:uH c [aa (.obj h),t1,aa (dr names sec),aa (.obj kl),aa (.obj kr),x5] S=.ok true S:=by
    have:(left.map T.str).isEmpty=false:=by simpa using vX
    simp[uH,Fo (nC sf),this,vX]
   have un:jZ (uH c) (uc c) (m+1) [aa (.obj h),t1,aa (dr names sec),aa (.obj kl),aa (.obj kr),x5] S=M.bind (uc c [aa (.obj h),t1,aa (dr names sec),aa (.obj kl),aa (.obj kr),x5]) (λx=>match x with
    |.nx ρ2=>jZ (uH c) (uc c) m ρ2
    |.ct ρ2=>jZ (uH c) (uc c) m ρ2
    |.bk ρ2=>M.pure (.nx ρ2)
    |.rt t=>M.pure (.rt t)) S:=by
    conv=>lhs;unfold jZ
    rw[fJ,hw];rfl
   rw[un,fJ];have f100:=ok.uI;have Oq:=vR left names nd kH;have ef:=zyf (c:=c) (sec:=sec) sf kH (by omega);unfold topo;cases q:left.find? (kF sec left) with
   | none=>
     rw[q] at ef;have hall:∀x∈left,∃f∈left,x∈sec f:=λx hx=>by
      have:=dY.mp q x hx;unfold kF at this;simpa using this
     obtain⟨s,hs,hp⟩:=zye vX hall;obtain⟨ring,er,sh⟩:=zyg (c:=c) (S:=S) ok.toSecOk ⟨s,kH s hs,z75 ok.toSecOk (kH s hs) hp⟩;obtain⟨n0,hn0,Ft⟩:=sh.of;obtain⟨U1,rs2⟩:=z36 ok.toSecOk hn0;rw[<- Ft] at U1 rs2;have DR:=zvj (zs:=ring) (λz hz=>ok.sm z (U1 z hz)) (by have:=ok.Fs;omega);have Fu:ring.length<=1000/\(fW (.list (ring.map cy))).length<=800:=⟨by have:=ok.Fs;omega,DR⟩;refine⟨λres e=>(by cases e),λ_=>⟨S,ring,?_,mB.refl _ _ _,sh⟩⟩;have hb:uc c [aa (.obj h),t1,aa (dr names sec),aa (.obj kl),aa (.obj kr),x5] S=.exc c.ring (aa [("ring",aD ring)]) S:=by
      have U2:((cW S (aD ring)).bind ux)=aa ring:=by simp[aD,Ir]
      simp only[aD] at U2;simp[uc,ef,tS,pC,L7,er,aD,U2,Ir,Fu]
     rw[hb]
   | some x=>
     rw[q] at ef;have hx:=cN q;have yD:=UZ sf hx (by omega);have Bs:(S.set kl (.lst ((left.erase x).map .str)))[kr]?=aa (.lst (row.map .str)):=by rw[eR ne];exact yC
     have l7:=vF (y:=.str x) Bs (by simp;omega);have e1:row.map T.str++[T.str x]=(row++[x]).map .str:=by simp
     rw[e1] at l7;have Bt:=nS sf;have yE:=nS Bs;have hb:uc c [aa (.obj h),t1,aa (dr names sec),aa (.obj kl),aa (.obj kr),x5] S=.ok (.nx [aa (.obj h),t1,aa (dr names sec),aa (.obj kl),aa (.obj kr),aa (.str x)]) ((S.set kl (.lst ((left.erase x).map .str))).set kr (.lst ((row++[x]).map .str))):=by
      simp only[bo,aC,f_] at l7 ⊢;simp[uc,ef,tS,pC,Bt,yD,yE,l7]
     rw[hb];have g1:((S.set kl (.lst ((left.erase x).map .str))).set kr (.lst ((row++[x]).map .str)))[kl]?=aa (.lst ((left.erase x).map .str)):=by rw[eR (bP ne)];exact m4 sf
     have g2:((S.set kl (.lst ((left.erase x).map .str))).set kr (.lst ((row++[x]).map .str)))[kr]?=aa (.lst ((row++[x]).map .str)):=m4 Bs;have wL:mB S ((S.set kl (.lst ((left.erase x).map .str))).set kr (.lst ((row++[x]).map .str))) kl kr:=⟨by simp,λj h1 h2=>by rw[eR (bP h2),eR (bP h1)]⟩;obtain⟨a,b⟩:=U0 (h:=h) (t1:=t1) ok n (left.erase x) (row++[x]) m (x5:=aa (.str x)) (by rw[eM hx];omega) (by omega) (nd.erase x) (λy hy=>kH y (ku hy)) g1 g2 ne (by simp;omega);refine⟨λres e=>?_,λe=>?_⟩
     .obtain⟨S',qp,w1,w2,w3⟩:=a res e
      exact⟨S',qp,w1,w2,wL.trans w3⟩
     .obtain⟨S',ring,w1,w2,sh⟩:=b e
      exact⟨S',ring,w1,wL.trans w2,sh⟩
theorem Ot{h:Nat}{pl:List jj}{ps qs:List HP}(A:ik c S h pl ps)(nd:names.Nodup)(hq:qs.map (·.nm)=names)(hs:∀q∈qs,q∈ps/\q.w0.length+q.w1.length<=20)(ok:II names (jv names qs)) :
  (∀res,topo (jv names qs) names.length names []=aa res->∃S',wI c [.obj h,aD names] S=.ok (.obj (S.length+1)) S'/\S'[S.length+1]?=aa (.lst (res.map .str))/\∀j,j<S.length->S'[j]?=S[j]?) /\
  (topo (jv names qs) names.length names []=ae->∃S' ring,wI c [.obj h,aD names] S=.exc c.ring (aa [("ring",aD ring)]) S'/\(∀j,j<S.length->S'[j]?=S[j]?)/\IH (jv names qs) names ring):=by
 have es:=z1l A nd hq hs ok.Fs;have Fs:=ok.Fs;have e1:wD (aD names) S=.ok (.obj S.length) (S++[.lst (names.map .str)]):=by simp[wD,tT,aD]
 have cK:(S++[cg.lst (names.map .str)]).length=S.length+1:=by simp
 have g1:(S++[cg.lst (names.map .str)]++[.lst []])[S.length]?=aa (.lst (names.map .str)):=by rw[bJ,zC];rfl
 have g2:(S++[cg.lst (names.map .str)]++[.lst []])[S.length+1]?=aa (.lst (([]:List Str).map .str)):=by rw[bJ,nX];rfl
 obtain⟨a,b⟩:=U0 (c:=c) (kl:=S.length) (kr:=S.length+1) (h:=h) (t1:=aa (aD names)) ok names.length names [] 1000 (x5:=ae) (S:=S++[.lst (names.map .str)]++[.lst []]) rfl (by omega) nd (λx hx=>hx) g1 g2 (by omega) (by simp;omega);have keep:∀S',mB (S++[cg.lst (names.map .str)]++[.lst []]) S' S.length (S.length+1)->∀j,j<S.length->S'[j]?=S[j]?:=λS' sm j hj=>by
  rw[sm.same j (by omega) (by omega),bJ,aG hj]
 refine⟨λres e=>?_,λe=>?_⟩
 .obtain⟨S',qp,w1,w2,w3⟩:=a res e
  have w1:uy (uH c) (uc c) [aa (.obj h),aa (aD names),aa (dr names (jv names qs)),aa (.obj S.length),aa (.obj (S.length+1)),ae] (S++[.lst (names.map .str)]++[.lst []])=_:=w1;simp only[bJ,eW,bF] at w1;refine⟨S',?_,w2,keep S' w3⟩;simp[wI,ML,es,e1,w1]
 .obtain⟨S',ring,w1,w3,sh⟩:=b e
  have w1:uy (uH c) (uc c) [aa (.obj h),aa (aD names),aa (dr names (jv names qs)),aa (.obj S.length),aa (.obj (S.length+1)),ae] (S++[.lst (names.map .str)]++[.lst []])=_:=w1;simp only[bJ,eW,bF] at w1;refine⟨S',ring,?_,keep S' w3,sh⟩;simp[wI,ML,es,e1,w1]
end DN
namespace DN
open PySem L2 MF
variable {c:Cl}{S:bI}{ρ:Ev}
theorem Fv{α:Type}(A B:List α)(p:α):(A++p::B).take (A.length+1)=A++[p]:=by
 rw[show A++p::B=(A++[p])++B by simp];exact List.take_left' (by simp)
theorem z37{α:Type}(A B:List α)(p:α):(A++p::B).drop (A.length+1)=B:=by
 rw[show A++p::B=(A++[p])++B by simp];exact List.drop_left' (by simp)
abbrev pN:=Str×Str×T×Option Str×Bool×List Str×List Str×List Str×List Str
noncomputable def HP.core(p:HP):pN:=(p.nm,p.pl,p.dd,p.br,p.on,p.w0,p.w1,p.w2,p.w3)
noncomputable def Pc.fresh(p:Pc):pN:=(p.nm,p.pl,p.dd,ae,true,[],[],[],[])
noncomputable def Pc.full(p:Pc):pN:=(p.nm,p.pl,p.dd,ae,p.on,p.w0,p.w1,p.w2,p.w3)
theorem zyh{l:List HP}{m:List pN}(h:l.map HP.core=m):l.map (·.nm)=m.map (·.1):=by
 rw[<- h,bO];rfl
theorem U3{h1 h2:List HP}{p x:HP}(nd:((h1++p::h2).map (·.nm)).Nodup):(h1++p::h2).map (λq=>if q.nm=p.nm then x else q)=h1++x::h2:=by
 rw[bo,aC,if_pos rfl];rw[bo,aC,dO] at nd;obtain⟨_,n2,n3⟩:=nd;rw[dm] at n2;congr 1
 .refine(dg λq hq=>?_).trans (k7 _)
  rw[if_neg λe=>n3 q.nm (aq.mpr ⟨q,hq,rfl⟩) p.nm (aA ..) e];rfl
 .congr 1
  refine(dg λq hq=>?_).trans (k7 _);rw[if_neg λe=>n2.1 (aq.mpr ⟨q,hq,e⟩)];rfl
theorem zyi{l:List HP}{A B:List pN}{x:pN}(h:l.map HP.core=A++x::B):∃h1 p h2,l=h1++p::h2/\h1.map HP.core=A/\p.core=x/\h2.map HP.core=B:=by
 obtain⟨h1,r,rfl,e1,e2⟩:=dU.mp h;obtain⟨p,h2,rfl,e3,e4⟩:=eG.mp e2;exact⟨h1,p,h2,rfl,e1,e3,e4⟩
noncomputable def vY(kind rule:Str)(n:Nat):List jj:=[⟨"hub",kind,rule,n+3⟩,⟨"side", "all", "hold",n+4⟩]
theorem U4(l:List Str):He (aD l) S=.ok (.tup (l.map T.str)) S:=rfl
theorem Zdt:ik c (S++[.ins c.hall (qo S.length),.dic [],.dic []]) S.length [] []:=
 ⟨by rw[zC];rfl,by rw[nX];rfl,by rw[nX];rfl,(by intro q hq;cases hq),(by intro q hq;cases hq),(by intro q hq;cases hq),.nil,.nil⟩
def sg(S:bI)(t:T)(ts:List T):Prop:=∀S',(∀k,k<S.length->S'[k]?=S[k]?)->cW S' t=aa ts
theorem U5{ts:List T}:sg S (.lst ts) ts:=λ_ _=>rfl
theorem z1t{k:Nat}{ts:List T}(h:S[k]?=aa (.lst ts)):sg S (.obj k) ts:=λS' hk=>by
 rw[nC];rw[hk k (aB.mp h).1];exact h
theorem sg.now{t:T}{ts:List T}(h:sg S t ts):cW S t=aa ts:=h S λ_ _=>rfl
theorem zvk{ps:List Pc}{tv:T}{kind rule:Str}(hv:sg S tv (ps.map Pc.t))(nd:(ps.map (·.nm)).Nodup)(hl:ps.length<=24)(gF:∀p∈ps,p.pl = "hub" \/ p.pl = "side")(hw:∀p∈ps,p.w0.length<=900/\p.w1.length<=900/\p.w2.length<=900/\p.w3.length<=900) :
  ∃S' dG,Cg c [tv,.str kind,.str rule] S=.ok (.obj S.length) S'/\ik c S' S.length (vY kind rule S.length) dG/\dG.map HP.core=ps.map Pc.full/\∀k,k<S.length->S'[k]?=S[k]?:=by
 have H0:=Zdt (c:=c) (S:=S);have o1:=Ue H0 (nm := "hub") (k:=kind) (r:=rule) rfl (by decide);have H1:=H0.zD (nm := "hub") (k:=kind) (r:=rule);have o2:=Ue H1 (nm := "side") (k := "all") (r := "hold") (by simp) (by simp);have H2:=H1.zD (nm := "side") (k := "all") (r := "hold");generalize U6:((S++[cg.ins c.hall (qo S.length),.dic [],.dic []]).set (S.length+1) (.dic (nW ([]++[⟨"hub",kind,rule,(S++[cg.ins c.hall (qo S.length),.dic [],.dic []]).length⟩])))++[.ins c.place [("kind",.str kind),("rule",.str rule)]])=S1 at o1 H1 o2 H2;have vK:S1.length=S.length+4:=by rw[<- U6];simp
 generalize U7:(S1.set (S.length+1) (.dic (nW ([]++[⟨"hub",kind,rule,(S++[cg.ins c.hall (qo S.length),.dic [],.dic []]).length⟩]++[⟨"side", "all", "hold",S1.length⟩])))++[.ins c.place [("kind",.str "all"),("rule",.str "hold")]])=S2 at o2 H2;have ep:([]++[⟨"hub",kind,rule,(S++[cg.ins c.hall (qo S.length),.dic [],.dic []]).length⟩]++[⟨"side", "all", "hold",S1.length⟩]:List jj)=vY kind rule S.length:=by
  rw[vK];simp[vY]
 rw[ep] at H2;have EC:S2.length=S.length+5:=by rw[<- U7];simp[vK]
 have zE:∀k,k<S.length->S2[k]?=S[k]?:=λk hk=>by
  have a1:S1[k]?=S[k]?:=by
   rw[<- U6,aG (by simp;omega),eR (by omega),aG hk]
  rw[<- U7,aG (by simp;omega),eR (by omega),a1]
 have Fw:=q8 (m:=ao "open_place") S.length (by simp) (by simp);have A6:=q8 (m:=ao "hang") S.length (by simp) (by simp);have U8:=q8 (m:=ao "wish") S.length (by simp) (by simp);have hm4:=q8 (m:=ao "switch") S.length (by simp) (by simp);obtain⟨ρ3,S3,f3,⟨x3,rfl⟩,Ou,H3,c3,k3⟩:=AV (ρ:=[aa tv,aa (.str kind),aa (.str rule),aa (.obj S.length),ae]) (S:=S2) (it:=iL (ah 0)) (g:=eE 4) (body:=Mq c) (ts:=ps.map Pc.t) (st:=λS'=>cW S' tv=aa (ps.map Pc.t)) (S1:=S2)
  (λpre ρ S'=>(∃x,ρ=[aa tv,aa (.str kind),aa (.str rule),aa (.obj S.length),x])/\∃dG,ik c S' S.length (vY kind rule S.length) dG/\dG.map HP.core=(ps.take pre.length).map Pc.fresh/\∀k,k<S.length->S'[k]?=S[k]?)
  (by simp[hv _ zE]) ⟨⟨_,rfl⟩,[],H2,rfl,zE⟩ (λpre t post ρ S' oX ⟨⟨x,hρ⟩,dG,H,hc,hk⟩=>by
   subst hρ;obtain⟨A,B,rfl,hA,hB⟩:=dU.mp oX;obtain⟨p,B,rfl,rfl,hB⟩:=eG.mp hB;have cK:pre.length=A.length:=by rw[<- hA];simp
   have e1:(A++p::B).take pre.length=A:=by rw[cK];simp
   have e2:(A++p::B).take (pre++[p.t]).length=A++[p]:=by
    rw[aO,ba,cK];exact Fv ..
   rw[e1] at hc;have hn:p.nm∉dG.map (·.nm):=by
    rw[zyh hc,bO];rw[bo,aC,dO] at nd;intro hm;obtain⟨q,hq,e⟩:=aq.mp hm;exact nd.2.2 q.nm (aq.mpr ⟨q,hq,rfl⟩) p.nm (aA ..) e
   have hL:dG.length<24:=by
    have:dG.length=A.length:=by have:=congrArg fV hc;simpa using this
    rw[aO,aY] at hl;omega
   obtain⟨pm,hpm⟩:∃pm,(vY kind rule S.length).find? (λq=>decide (q.nm=p.pl))=aa pm:=by
    rcases gF p (by simp) with e | e
    .exact⟨⟨"hub",kind,rule,S.length+3⟩,by rw[e];simp[vY]⟩
    .exact⟨⟨"side", "all", "hold",S.length+4⟩,by rw[e];simp[vY]⟩
   have hh:=Zbo H (dd:=p.dd) hn hpm hL;refine⟨hv _ hk,_,rfl,[aa tv,aa (.str kind),aa (.str rule),aa (.obj S.length),aa p.t],_,?_,⟨_,rfl⟩,_,H.N5 (dd:=p.dd) (br:=ae) (q:=p.pl) hn,?_,λk uu=>?_⟩
   .simp[Mq,Pc.t,H.ins,A6,hh]
   .rw[e2,bo,bo,hc]
    rfl
   .have:=H.lt
    rw[aG (by simp;omega),eR (by omega)];exact hk k uu) (λ_ S' ⟨_,_,_,_,hk⟩=>hv S' hk)
 rw [aT,hZ] at c3;obtain⟨ρ4,S4,f4,⟨x4,rfl⟩,Ov,H4,c4,k4⟩:=AV (ρ:=[aa tv,aa (.str kind),aa (.str rule),aa (.obj S.length),x3]) (S:=S3) (it:=iL (ah 0)) (g:=eE 4) (body:=HF c) (ts:=ps.map Pc.t) (st:=λS'=>cW S' tv=aa (ps.map Pc.t)) (S1:=S3)
  (λpre ρ S'=>(∃x,ρ=[aa tv,aa (.str kind),aa (.str rule),aa (.obj S.length),x])/\∃dG,ik c S' S.length (vY kind rule S.length) dG/\dG.map HP.core=(ps.take pre.length).map Pc.full++(ps.drop pre.length).map Pc.fresh/\∀k,k<S.length->S'[k]?=S[k]?)
  (by simp[hv _ k3]) ⟨⟨_,rfl⟩,Ou,H3,by simpa using c3,k3⟩ (λpre t post ρ S' oX ⟨⟨x,hρ⟩,dG,H,hc,hk⟩=>by
   subst hρ;obtain⟨A,B,rfl,hA,hB⟩:=dU.mp oX;obtain⟨p,B,rfl,rfl,hB⟩:=eG.mp hB;have cK:pre.length=A.length:=by rw[<- hA];simp
   have e1:(A++p::B).take pre.length=A:=by rw[cK];simp
   have e1':(A++p::B).drop pre.length=p::B:=by rw[cK];simp
   have e2:(A++p::B).take (pre++[p.t]).length=A++[p]:=by
    rw[aO,ba,cK];exact Fv ..
   have e2':(A++p::B).drop (pre++[p.t]).length=B:=by
    rw[aO,ba,cK];exact z37 ..
   rw[e1,e1',aC] at hc;rw[e2,e2'];obtain⟨h1,hp,h2,rfl,g1,g2,g3⟩:=zyi hc;have Fx:hp∈h1++hp::h2:=by simp
   have w:=hw p (by simp);obtain⟨b1,b2,b3,b4,b5,b6,b7,b8,b9⟩:hp.nm=p.nm/\hp.pl=p.pl/\hp.dd=p.dd/\hp.br=ae/\hp.on=true/\hp.w0=[]/\hp.w1=[]/\hp.w2=[]/\hp.w3=[]:=by
    have:=g2;simp only[HP.core,Pc.fresh,oW] at this;exact this
   obtain⟨S5,w1,w2,w3,w4⟩:=Zbp H Fx (t0:=aD p.w0) (t1:=.tup (p.w1.map T.str)) (t2:=aD p.w2) (t3:=aD p.w3) (λS=>N9 _) (λS=>ztg _) (λS=>N9 _) (λS=>N9 _)
    (by rw[b6];simp;omega) (by rw[b7];simp;omega) (by rw[b8];simp;omega) (by rw[b9];simp;omega)
   rw[U3 H.nd] at w2;rw[b1] at w1;have uf:=H.uf hp Fx;have k5:∀k,k<S.length->S5[k]?=S[k]?:=λk uu=>by rw[w4 k (by omega)];exact hk k uu
   have c5:(x9 hp p.w0 p.w1 p.w2 p.w3).core=(p.nm,p.pl,p.dd,ae,true,p.w0,p.w1,p.w2,p.w3):=by
    simp[x9,HP.core,b1,b2,b3,b4,b5,b6,b7,b8,b9]
   refine⟨hv _ hk,_,rfl,[aa tv,aa (.str kind),aa (.str rule),aa (.obj S.length),aa p.t],?_⟩;by_cases CF:p.on=true
   .refine⟨S5,?_,⟨_,rfl⟩,_,w2,?_,k5⟩
    .simp[HF,Pc.t,H.ins,w2.ins,U8,U4,w1,CF]
    .rw[bo,aC,g1,g3,c5,bo]
     simp[Pc.full,CF]
   .have CF:p.on=false:=by simpa using CF
    have Fy:x9 hp p.w0 p.w1 p.w2 p.w3∈h1++x9 hp p.w0 p.w1 p.w2 p.w3::h2:=by simp
    obtain⟨S6,s1,s2,s3,s4⟩:=z32 w2 Fy false;rw[U3 w2.nd] at s2;have n6:(x9 hp p.w0 p.w1 p.w2 p.w3).nm=p.nm:=b1;have i6:(x9 hp p.w0 p.w1 p.w2 p.w3).i=hp.i:=rfl;rw[n6] at s1;refine⟨S6,?_,⟨_,rfl⟩,_,s2,?_,λk uu=>?_⟩
    .simp[HF,Pc.t,H.ins,w2.ins,U8,hm4,U4,w1,CF,s1]
    .rw[bo,aC,g1,g3,bo]
     simp[Pc.full,CF,HP.core,x9,b1,b2,b3,b4,b5,b6,b7,b8,b9]
    .rw[s4 k (by rw[i6];omega)];exact k5 k uu) (λ_ S' ⟨_,_,_,_,hk⟩=>hv S' hk)
 rw[aT,hZ,nG,f_,dj] at c4;refine⟨S4,Ov,?_,H4,c4,k4⟩;have i0:=H0.ins;have i1:=H1.ins;simp[Cg,Tq,zvi,i0,i1,Fw,o1,o2,f3,f4]
theorem zyj{ps:List Pc}{kind rule:Str}(nd:(ps.map (·.nm)).Nodup)(hl:ps.length<=24)(gF:∀p∈ps,p.pl = "hub" \/ p.pl = "side")(hw:∀p∈ps,p.w0.length<=900/\p.w1.length<=900/\p.w2.length<=900/\p.w3.length<=900) :
 ∃S' dG,Cg c [.lst (ps.map Pc.t),.str kind,.str rule] S=.ok (.obj S.length) S'/\ik c S' S.length (vY kind rule S.length) dG/\dG.map HP.core=ps.map Pc.full/\∀k,k<S.length->S'[k]?=S[k]?:=zvk U5 nd hl gF hw
end DN
namespace DN
open PySem L2 MF
variable {c:Cl}{S:bI}{ρ:Ev}
def iY(x:Str):Prop:=d_ x=true
theorem Ow:∀(l:List Str),md (l.map T.str)=aa (l.map cy)
 |[]=>by simp[md]
 |a::r=>by simp[md,pd,Ow r]
theorem Fz:∀{l:List Str},(∀x∈l,iY x)->be (l.map cy)=true
 |[],_=>by simp[be]
 | a::r,h=>by
   simp only[aC,be,bM,cv];exact⟨h a (aA ..),Fz λx hx=>h x (au _ hx)⟩
theorem Ox:∀(l:List Str),bw (l.map cy)=0
 |[]=>by simp[bw]
 |a::r=>by simp[bw,cR,Ox r]
theorem Oy:∀(l m:List Str),eI (l.map cy) (m.map cy)=decide (l=m)
 |[],[]=>by simp[eI]
 |[],_::_=>by simp[eI]
 |_::_,[]=>by simp[eI]
 | a::r,b::s=>by
   simp only[aC,eI,bX,Oy r s];rw[ej];simp
theorem CG{x y:T}{a b:gq}(hx:toV x=ae\/toV y=ae)(ha:nA S x=aa a)(hb:nA S y=aa b)(ca:a.canLay0=true)(cb:b.canLay0=true)(da:a.depth<=50):tQ S x y=aa (bX a b):=by
 unfold tQ;rcases hx with h | h
 .rw[h];simp[ha,hb,ca,cb,da]
 .rw[h]
  cases toV x<;>simp[ha,hb,ca,cb,da]
theorem IJ{t:T}{l:List Str}(h:cW S t=aa (l.map T.str)):nA S t=aa (.list (l.map cy)):=by
 cases t with
 |lst ts=>simp[cW] at h;subst h;simp[nA,pd,Ow]
 |obj k=>have:=Rl h;simp[nA,this,Ow]
 |_=>simp[cW] at h
theorem U9{t:T}{ts:List T}(h:cW S t=aa ts):toV t=ae:=by
 cases t<;>first | rfl | simp[cW] at h
theorem U_{x y:T}{l m:List Str}(hx:cW S x=aa (l.map T.str))(hy:cW S y=aa (m.map T.str))(ol:∀z∈l,iY z)(om:∀z∈m,iY z):mI x y S=.ok (.bl (!decide (l=m))) S:=by
 have:=CG (.inl (U9 hx)) (IJ hx) (IJ hy) (by simp only[bM];exact Fz ol) (by simp only[bM];exact Fz om) (by simp[cR,Ox]);simp[mI,this,bX,Oy]
abbrev W3:=Str×List Str×List Str
def Pc.w(p:Pc):W3:=(p.nm,p.w2,p.w3)
noncomputable def HP.w(p:HP):W3:=(p.nm,p.w2,p.w3)
theorem FA{t:T}{ts:List T}(h:cW S t=aa ts):kP S t=aa ts:=by
 cases t<;>first | exact h | simp[cW] at h
end DN
namespace DN
open PySem L2 MF
variable {c:Cl}{S:bI}
section
variable {w:DT}{b:DS}{n:Nat}{ρ ρ2:Ev}{C:ai}{fs:Option (List (Str×T))}{t:T}{S1 S2:bI}
theorem Zbw(h:w ρ S=.ok true S1)(e:b ρ S1=.ok (.nx ρ2) S2):jZ w b (n+1) ρ S=jZ w b n ρ2 S2:=by
 simp[jZ,h,e]
theorem z77(h:w ρ S=.ok true S1)(e:b ρ S1=.exc C fs S2):jZ w b (n+1) ρ S=.exc C fs S2:=by
 simp[jZ,h,e]
theorem U'(h:w ρ S=.ok false S1):jZ w b (n+1) ρ S=.ok (.nx ρ) S1:=by
 simp[jZ,h]
end
noncomputable def Oz(la lb:List Str):T:=.dic [(.inr "a",.dic (gJ la)),(.inr "b",.dic (gJ lb))]
local macro_rules | `(tactic| walk_at "r") => `(tactic| simp [uG, uF, t_, vN, eX, fU, iK, eE, i9, t8, ow, ft, Oz, gJ, dR, vA, kA, u9, mY, jG, gr, kS, cW, kT, nR, kP])
end DN
namespace DN
open PySem L2 MF
variable {c:Cl}{S:bI}{sec:Str->List Str}{names:List Str}
section
variable {h:Nat}{pl:List jj}{ps qs:List HP}(A:ik c S h pl ps)(hq:qs.map (·.nm)=(["a", "b"]:List Str))(hs:∀q∈qs,q∈ps/\q.w0.length+q.w1.length<=20)
include A hq hs
end
end DN
namespace DN
open PySem L2 MF
variable {c:Cl}{S:bI}{ρ:Ev}
theorem z38:((cn 26).map λ(k:Nat)=>sS k).Nodup:=by decide +kernel
theorem Va:∀k:Nat,k<26->iY (sS k):=by unfold iY;decide +kernel
theorem Vb{k m:Int}(h0:0<m)(h1:m<=26):iY (sS (k%m)):=by
 have a:=fD k (show m≠0 by omega);have b:=dZ k h0;have:=Va (k%m).toNat (by omega);rwa[Int.toNat_of_nonneg a] at this
theorem z78{x cB:Int}(h0:0<cB)(h1:cB<=26):∀z∈sT x cB,iY z:=by
 intro z hz;unfold sT at hz
 split at hz
 .cases hz
 .split at hz
  .simp only[aF,cx,or_false] at hz
   rcases hz with rfl | rfl<;>exact Vb h0 h1
  .simp only[aH] at hz
   subst hz;exact Vb h0 h1
theorem IK(x cB:Int):(sT x cB).length<=2:=by
 unfold sT
 split
 .simp
 .split<;>simp
structure Drawn(ps:List Pc):Prop where
 nd:(ps.map (·.nm)).Nodup
 len:ps.length<=13
 pl:∀p∈ps,p.pl = "hub" \/ p.pl = "side"
 w:∀p∈ps,p.w0.length<=2/\p.w1.length<=2/\p.w2.length<=2/\p.w3.length<=2
 si:∀p∈ps,iY p.nm
 OA:∀p∈ps,∀x,x∈p.w0\/x∈p.w1\/x∈p.w2\/x∈p.w3->iY x
theorem drawn(ns:List Int)(start cB:Int)(h0:0<=cB)(h1:cB<=13):Drawn (q5 ns start cB):=by
 have mem:∀p∈q5 ns start cB,∃k:Nat,k<cB.toNat/\p=kE ns start cB k:=λp hp=>by
  obtain⟨k,hk,rfl⟩:=aq.mp hp;exact⟨k,gQ.mp hk,rfl⟩
 refine⟨?_,by simp[q5];omega,λp hp=>?_,λp hp=>?_,λp hp=>?_,λp hp x hx=>?_⟩
 .have e:(q5 ns start cB).map (·.nm)=(cn cB.toNat).map λ(k:Nat)=>sS k:=by
   unfold q5;rw[bO];rfl
  rw[e];have hs:((cn cB.toNat).map λ(k:Nat)=>sS k).Sublist ((cn 26).map λ(k:Nat)=>sS k):=by
   refine qy _ ?_;rw[show(26:Nat)=cB.toNat+(26-cB.toNat) by omega,List.range_add];exact List.sublist_append_left ..
  exact z38.sublist hs
 .obtain⟨k,_,rfl⟩:=mem p hp
  show zA _=_\/zA _=_;unfold zA
  split
  .exact .inr rfl
  .exact .inl rfl
 .obtain⟨k,_,rfl⟩:=mem p hp
  exact⟨IK _ _,IK _ _,IK _ _,IK _ _⟩
 .obtain⟨k,hk,rfl⟩:=mem p hp
  exact Va k (by omega)
 .obtain⟨k,_,rfl⟩:=mem p hp
  have q:(0:Int)<cB+1:=by omega
  have q':cB+1<=26:=by omega
  rcases hx with h | h | h | h<;>exact z78 q q' x h
theorem IL{dG:List HP}{ps:List Pc}(h:dG.map HP.core=ps.map Pc.full):dG.length=ps.length:=by
 have:=congrArg fV h;simpa using this
theorem FC{dG:List HP}{ps:List Pc}(h:dG.map HP.core=ps.map Pc.full){p:HP}(hp:p∈dG):∃q∈ps,p.core=q.full:=by
 have:p.core∈dG.map HP.core:=aq.mpr ⟨p,hp,rfl⟩;rw[h] at this;obtain⟨q,hq,e⟩:=aq.mp this;exact⟨q,hq,e.symm⟩
end DN
namespace DN
open PySem L2 MF
variable {c:Cl}{S:bI}{ρ:Ev}{sec:Str->List Str}{names:List Str}
noncomputable def IM(prs:List (Str×Str))(left:List Str)(x:Str):Bool:=!(prs.any λp=>decide (p.2=x)&&decide (p.1∈left))
noncomputable def gD(p:Str×Str):T:=.tup [.str p.1,.str p.2]
structure CH(names:List Str)(sec:Str->List Str)(prs:List (Str×Str)):Prop where
 iff:∀a∈names,∀b,b∈sec a↔(a,b)∈prs
 sub:∀p∈prs,p.1∈names/\p.2∈names
theorem z1w{prs:List (Str×Str)}(r:CH names sec prs){left:List Str}(hl:∀x∈left,x∈names)(x:Str):IM prs left x=kF sec left x:=by
 unfold IM kF;congr 1;rw[ej,f',f'];constructor
 .rintro⟨⟨a,b⟩,hp,e⟩
  simp only[cv,decide_eq_true_eq] at e;obtain⟨rfl,ha⟩:=e;exact⟨a,ha,by simpa using(r.iff a (hl a ha) b).mpr hp⟩
 .rintro⟨f,hf,e⟩
  exact⟨(f,x),(r.iff f (hl f hf) x).mp (by simpa using e),by simp[hf]⟩
theorem Vc{x:Str}{y:T}{l:List Str}(h:kP S y=aa (l.map T.str)):uw (.str x) y S=.ok (.bl (decide (x∈l))) S:=by
 have:=Ss (x:=x) h;simp[this]
theorem Vd(left:List Str)(x:Str):∀(prs:List (Str×Str)),(prs.map gD).findSome? (λt=>match t with|.tup [.str a,.str b]=>if(decide (b=x)&&decide (a∈left))=true then aa (T.bl false) else ae | _=>ae)=if(prs.any λp=>decide (p.2=x)&&decide (p.1∈left))=true then aa (.bl false) else ae
 |[]=>rfl
 | p :: r=>by
   have ih:=Vd left x r;rw[aC,lI,fC];cases z:(decide (p.2=x)&&decide (p.1∈left)) with
   |true=>simp only[gD,z];rfl
   | false=>
     simp only[gD,z,qt];exact ih
theorem Zbx{prs:List (Str×Str)}{left:List Str}{L:T}{x:Str}(hL:kP S L=aa (left.map T.str)):Cj c [.str x,L,.lst (prs.map gD)] S=.ok (.bl (IM prs left x)) S:=by
 obtain⟨ρ',_,e⟩:=Of (S:=S) (st:=λS'=>cW S' (.lst (prs.map gD))=aa (prs.map gD)) (body:=A_ c) (i:=3) (ρ0:=[aa (.str x),aa L,aa (.lst (prs.map gD)),ae])
  (p:=λt=>match t with|.tup [.str a,.str b]=>if(decide (b=x)&&decide (a∈left))=true then aa (.bl false) else ae | _=>ae) rfl (prs.map gD) [aa (.str x),aa L,aa (.lst (prs.map gD)),ae] (λ_=>rfl) (λt ht=>by
   obtain⟨⟨a,b⟩,hp,rfl⟩:=aq.mp ht;have hi:=Vc (x:=a) hL;by_cases z:b=x
   .by_cases y:a∈left
    .simp[A_,gD,z,y,hi]
    .simp[A_,gD,z,y,hi]
   .simp[A_,gD,z])
 have ef:=Vd left x prs;rw[ef] at e;have es:eX (iL (ah 2)) (eE 3) (A_ c) [aa (.str x),aa L,aa (.lst (prs.map gD)),ae] S=fU (λS'=>cW S' (.lst (prs.map gD))=aa (prs.map gD)) (eE 3) (A_ c) (prs.map gD) [aa (.str x),aa L,aa (.lst (prs.map gD)),ae] S:=by
  unfold eX;rw[fJ,AS,fJ];rfl
 have e2:=es.trans e;unfold IM;by_cases z:(prs.any λp=>decide (p.2=x)&&decide (p.1∈left))=true
 .rw[if_pos z] at e2
  rw[z];simp[Cj,Mr,e2]
 .rw[if_neg z] at e2
  have z:(prs.any λp=>decide (p.2=x)&&decide (p.1∈left))=false:=by simpa using z
  rw[z];simp[Cj,Mr,e2]
theorem Zdu{x y:T}{l m:List Str}(hx:cW S x=aa (l.map T.str))(hy:cW S y=aa (m.map T.str))(ol:∀z∈l,iY z)(om:∀z∈m,iY z):gG x y S=.ok (.bl (decide (l=m))) S:=by
 have:=CG (.inl (U9 hx)) (IJ hx) (IJ hy) (by simp only[bM];exact Fz ol) (by simp only[bM];exact Fz om) (by simp[cR,Ox]);simp[gG,this,bX,Oy]
theorem Ve{kl kr:Nat}{t0:Option T}{prs:List (Str×Str)}(r:CH names sec prs)(si:∀x∈names,iY x)(uI:names.length<=100):∀(n:Nat) (left row:List Str) (m:Nat) {x4:Option T} {S:bI},left.length=n->n+1<=m->left.Nodup->(∀x∈left,x∈names)->S[kl]?=aa (.lst (left.map .str))->S[kr]?=aa (.lst (row.map .str))->kl≠kr->row.length+n<=900 ->
  ∃ S',mB S S' kl kr/\(match topo sec n left row with
    |some res=>(∃CB,jZ (uC c) (t9 c) m [t0,aa (.lst (prs.map gD)),aa (.obj kl),aa (.obj kr),x4] S=.ok (.nx [t0,aa (.lst (prs.map gD)),aa (.obj kl),aa (.obj kr),CB]) S')/\S'[kr]?=aa (.lst (res.map .str))
    |none=>jZ (uC c) (t9 c) m [t0,aa (.lst (prs.map gD)),aa (.obj kl),aa (.obj kr),x4] S=.ok (.rt .bH) S')
 |n,left,row,0,x4,S,_,hm,_,_,_,_,_,_=>by omega
 | 0,left,row,m+1,x4,S,hl,_,_,_,sf,yC,ne,_=>by
   have:left=[]:=il hl;subst this;have px:=U_ (S:=S) (x:=.obj kl) (y:=.lst []) (l:=[]) (m:=[]) (nC sf) rfl (by intro z hz;cases hz) (by intro z hz;cases hz);have hw:uC c [t0,aa (.lst (prs.map gD)),aa (.obj kl),aa (.obj kr),x4] S=.ok false S:=by simp[uC,px]
   refine⟨S,mB.refl _ _ _,⟨x4,?_⟩,yC⟩;unfold jZ;rw[fJ,hw];rfl
 | n + 1,left,row,m+1,x4,S,hl,hm,nd,kH,sf,yC,ne,hr=>by
   have vX:left≠[]:=λe=>by rw[e] at hl;simp at hl
   have Vf:∀x∈left,iY x:=λx hx=>si x (kH x hx);have px:=U_ (S:=S) (x:=.obj kl) (y:=.lst []) (l:=left) (m:=[]) (nC sf) rfl Vf (by intro z hz;cases hz);have hw:uC c [t0,aa (.lst (prs.map gD)),aa (.obj kl),aa (.obj kr),x4] S=.ok true S:=by simp[uC,px,vX]
   have un:jZ (uC c) (t9 c) (m+1) [t0,aa (.lst (prs.map gD)),aa (.obj kl),aa (.obj kr),x4] S=M.bind (t9 c [t0,aa (.lst (prs.map gD)),aa (.obj kl),aa (.obj kr),x4]) (λx=>match x with
    |.nx ρ2=>jZ (uC c) (t9 c) m ρ2
    |.ct ρ2=>jZ (uC c) (t9 c) m ρ2
    |.bk ρ2=>M.pure (.nx ρ2)
    |.rt t=>M.pure (.rt t)) S:=by
    conv=>lhs;unfold jZ
    rw[fJ,hw];rfl
   rw[un,fJ];have Oq:=vR left names nd kH;have hc:=xF (ρ:=[t0,aa (.lst (prs.map gD)),aa (.obj kl),aa (.obj kr),x4]) (S:=S) (js:=[2,1]) (it:=HJ c) (tc:=HK c) (te:=HI c) (ts:=left.map .str) (st:=λS'=>cW S' (.obj kl)=aa (left.map .str)) (p:=λt=>match t with|.str x=>kF sec left x | _=>false) (f:=λt=>t)
    (by simp[HJ,nC sf]) (nC sf) (by simp;omega) (λt ht=>by
     obtain⟨x,hx,rfl⟩:=aq.mp ht;have OB:kP S (.obj kl)=aa (left.map T.str):=by simp[kP,cW,sf]
     have:=Zbx (c:=c) (prs:=prs) (x:=x) OB;rw[z1w r kH] at this;simp[HK,this]) (λt ht _=>by simp[HI])
   have ef:((left.map T.str).filter (λt=>match t with|.str x=>kF sec left x | _=>false)).map (λt=>t)=(left.filter (kF sec left)).map T.str:=by
    rw[De,cI];rfl
   rw[ef] at hc;have hc:jN 1 [2,1] (HJ c) (eE 0) (HK c) (HI c) fO [t0,aa (.lst (prs.map gD)),aa (.obj kl),aa (.obj kr),x4] S=.ok (aD (left.filter (kF sec left))) S:=hc;have IP:=Zdu (S:=S) (x:=aD (left.filter (kF sec left))) (y:=.lst []) (l:=left.filter (kF sec left)) (m:=[]) rfl rfl (λz hz=>Vf z (aN.mp hz).1) (by intro z hz;cases hz);unfold topo;cases q:left.find? (kF sec left) with
   | none=>
     have fe:left.filter (kF sec left)=[]:=rz.mpr (dY.mp q);rw[fe] at hc IP;refine⟨S,mB.refl _ _ _,?_⟩;have hb:t9 c [t0,aa (.lst (prs.map gD)),aa (.obj kl),aa (.obj kr),x4] S=.ok (.rt .bH) S:=by
      simp[t9,hc,IP]
     rw[hb];rfl
   | some x=>
     have hx:=cN q;obtain⟨fr,fe⟩:∃fr,left.filter (kF sec left)=x::fr:=by
      have:=List.head?_filter (p:=kF sec left) (l:=left);rw[q] at this;cases e:left.filter (kF sec left) with
      |nil=>rw[e] at this;cases this
      |cons y fr=>rw[e] at this;cases this;exact⟨fr,rfl⟩
     rw[fe] at hc IP;have l7:=vF (y:=.str x) yC (by simp;omega);have e1:row.map T.str++[T.str x]=(row++[x]).map .str:=by simp
     rw[e1] at l7;have Bu:(S.set kr (.lst ((row++[x]).map .str)))[kl]?=aa (.lst (left.map .str)):=by rw[eR (bP ne)];exact sf
     have yD:=UZ Bu hx (by omega);have Bt:=nS yC;have yE:=nS Bu;have Oc:dN (aD (x::fr)) (.int 0) S=.ok (.str x) S:=by simp[aD]
     have FD:dN (aD (x::fr)) (.int 0) (S.set kr (.lst ((row++[x]).map .str)))=.ok (.str x) (S.set kr (.lst ((row++[x]).map .str))):=by simp[aD]
     have hb:t9 c [t0,aa (.lst (prs.map gD)),aa (.obj kl),aa (.obj kr),x4] S=.ok (.nx [t0,aa (.lst (prs.map gD)),aa (.obj kl),aa (.obj kr),aa (aD (x::fr))]) ((S.set kr (.lst ((row++[x]).map .str))).set kl (.lst ((left.erase x).map .str))):=by
      generalize Ui:S.set kr (.lst ((row++[x]).map .str))=S1 at l7 yD yE FD;simp[t9,hc,IP,Bt,Oc,l7,yE,FD,yD]
     rw[hb];have g1:((S.set kr (.lst ((row++[x]).map .str))).set kl (.lst ((left.erase x).map .str)))[kl]?=aa (.lst ((left.erase x).map .str)):=m4 Bu;have g2:((S.set kr (.lst ((row++[x]).map .str))).set kl (.lst ((left.erase x).map .str)))[kr]?=aa (.lst ((row++[x]).map .str)):=by rw[eR ne];exact m4 yC
     have wL:mB S ((S.set kr (.lst ((row++[x]).map .str))).set kl (.lst ((left.erase x).map .str))) kl kr:=⟨by simp,λj h1 h2=>by rw[eR (bP h1),eR (bP h2)]⟩;obtain⟨S',sm,e⟩:=Ve (t0:=t0) r si uI n (left.erase x) (row++[x]) m (x4:=aa (aD (x::fr))) (by rw[eM hx];omega) (by omega) (nd.erase x) (λy hy=>kH y (ku hy)) g1 g2 ne (by simp;omega);exact⟨S',wL.trans sm,e⟩
theorem Vg{prs:List (Str×Str)}(r:CH names sec prs)(si:∀x∈names,iY x)(uI:names.length<=100)(nd:names.Nodup) :
  Ba c [aD names,.lst (prs.map gD)] S=.ok (match topo sec names.length names [] with|some res=>aD res | none=>.bH) S:=by
 have e1:wD (aD names) S=.ok (.obj S.length) (S++[.lst (names.map .str)]):=by simp[wD,tT,aD]
 have g1:(S++[cg.lst (names.map .str)]++[.lst []])[S.length]?=aa (.lst (names.map .str)):=by rw[bJ,zC];rfl
 have g2:(S++[cg.lst (names.map .str)]++[.lst []])[S.length+1]?=aa (.lst (([]:List Str).map .str)):=by rw[bJ,nX];rfl
 obtain⟨S',sm,e⟩:=Ve (c:=c) (kl:=S.length) (kr:=S.length+1) (t0:=aa (aD names)) r si uI names.length names [] 1000 (x4:=ae) (S:=S++[.lst (names.map .str)]++[.lst []]) rfl (by omega) nd (λx hx=>hx) g1 g2 (by omega) (by simp;omega);have keep:∀j,j<S.length->S'[j]?=S[j]?:=λj hj=>by
  rw[sm.same j (by omega) (by omega),bJ,aG hj]
 have hl:S.length<=S'.length:=by rw[sm.len];simp
 have tk:=UW keep hl;cases q:topo sec names.length names [] with
 | none=>
   rw[q] at e;have w1:uy (uC c) (t9 c) [aa (aD names),aa (.lst (prs.map gD)),aa (.obj S.length),aa (.obj (S.length+1)),ae] (S++[.lst (names.map .str)]++[.lst []])=_:=e;simp only[bJ,eW,bF] at w1;have run:cF 5 (EO c) [aD names,.lst (prs.map gD)] S=.ok .bH S':=by
    simp[EO,e1,w1]
   exact Ex run tk (by simp)
 | some res=>
   rw[q] at e;obtain⟨⟨CB,e⟩,g⟩:=e;have w1:uy (uC c) (t9 c) [aa (aD names),aa (.lst (prs.map gD)),aa (.obj S.length),aa (.obj (S.length+1)),ae] (S++[.lst (names.map .str)]++[.lst []])=_:=e;simp only[bJ,eW,bF] at w1;have run:cF 5 (EO c) [aD names,.lst (prs.map gD)] S=.ok (.obj (S.length+1)) S':=by
    simp[EO,e1,w1]
   exact LS run tk (by omega) g λt ht=>by
    obtain⟨x,_,rfl⟩:=aq.mp ht;simp
end DN
namespace DN
open PySem L2 MF
variable {c:Cl}{S:bI}{ρ:Ev}
noncomputable def sj(p:Pc):Bool:=decide (p.pl = "hub")&&p.on
noncomputable def bV(ps:List Pc):List Str:=(ps.filter sj).map (·.nm)
theorem z1x{ps:List Pc}{tv:T}(hv:cW S tv=aa (ps.map Pc.t))(hl:ps.length<=24):Ci c [tv] S=.ok (aD (bV ps)) S:=by
 have cc:=xF (ρ:=[aa tv]) (S:=S) (js:=[]) (it:=HH c) (tc:=EN c) (te:=HG c) (ts:=ps.map Pc.t) (st:=λS'=>cW S' tv=aa (ps.map Pc.t)) (p:=λt=>match t with|.tup [_,.str q,_,_,.bl on]=>decide (q = "hub")&&on | _=>false) (f:=λt=>match t with|.tup (x::_)=>x | _=>.bH)
  (by simp[HH,hv]) hv (by simp;omega) (λt ht=>by
   obtain⟨p,_,rfl⟩:=aq.mp ht;by_cases z:p.pl = "hub"
   .simp[EN,Pc.t,z]
   .simp[EN,Pc.t,z]) (λt ht _=>by
   obtain⟨p,_,rfl⟩:=aq.mp ht;simp[HG,Pc.t])
 rw[cI,bO] at cc;have cc:jN 1 [] (HH c) (eE 0) (EN c) (HG c) fO [aa tv] S=.ok (.lst ((ps.filter sj).map λp=>.str p.nm)) S:=cc;simp[Ci,Tr,cc,aD,bV]
theorem z4a{ps:List Pc}(hl:ps.length<=24):Ci c [.lst (ps.map Pc.t)] S=.ok (aD (bV ps)) S:=z1x rfl hl
noncomputable def CI(names:List Str)(p:Pc):List (Str×Str):=(p.w0.filter λo=>decide (o∈names)).map λo=>(p.nm,o)
noncomputable def CJ(names:List Str)(p:Pc):List (Str×Str):=(p.w1.filter λo=>decide (o∈names)).map λo=>(o,p.nm)
noncomputable def kI(names:List Str)(ps:List Pc):List (Str×Str):=ps.flatMap λp=>if p.nm∈names then CI names p++CJ names p else[]
theorem Vh{js:List Nat}{l names:List Str}{f:Str->Str×Str}{it:DI}{tc:DT}{te:DE}{st:bI->Prop}(hl:l.length<=900)
  (hi:it ρ S=.ok (l.map T.str,st) S) (hs:st S) (ht:∀o,tc (aa (.str o)::js.map λj=>(ρ[j]?).join) S=.ok (decide (o∈names)) S) (he:∀o,te (aa (.str o)::js.map λj=>(ρ[j]?).join) S=.ok (gD (f o)) S) :
  jN 1 js it (eE 0) tc te fO ρ S=.ok (.lst (((l.filter λo=>decide (o∈names)).map f).map gD)) S:=by
 have cc:=xF (ρ:=ρ) (S:=S) (js:=js) (it:=it) (tc:=tc) (te:=te) (ts:=l.map T.str) (st:=st) (p:=λt=>match t with|.str o=>decide (o∈names) | _=>false) (f:=λt=>match t with|.str o=>gD (f o) | _=>.bH) hi hs (by simp;omega)
  (λt h=>by obtain⟨o,_,rfl⟩:=aq.mp h;exact ht o) (λt h _=>by obtain⟨o,_,rfl⟩:=aq.mp h;exact he o)
 rw[cI,bO] at cc;rw[bO];exact cc
theorem ztm{ps:List Pc}{names:List Str}{tv:T}(hv:sg S tv (ps.map Pc.t))(hl:ps.length<=24)(hw:∀p∈ps,p.w0.length<=20/\p.w1.length<=20) :
  Bb c [tv,aD names] S=.ok (.lst ((kI names ps).map gD)) S:=by
 have OC:∀x:cg,cW (S++[x]) tv=aa (ps.map Pc.t):=λx=>hv _ λk hk=>aG hk;have hvx:=OC (.lst []);have run:cF 4 (My c) [tv,aD names] S=.ok (.obj S.length) (S++[.lst ((kI names ps).map gD)]):=by
  obtain⟨ρ',S',e,⟨x,rfl⟩,hS,_⟩:=AV (ρ:=[aa tv,aa (aD names),aa (.obj S.length),ae]) (S:=S++[.lst []]) (it:=iL (ah 0)) (g:=eE 3) (body:=HL c) (ts:=ps.map Pc.t) (st:=λS'=>cW S' tv=aa (ps.map Pc.t)) (S1:=S++[.lst []])
   (λpre ρ S'=>(∃x,ρ=[aa tv,aa (aD names),aa (.obj S.length),x])/\S'=S++[.lst ((kI names (ps.take pre.length)).map gD)]/\(kI names (ps.take pre.length)).length<=40*pre.length)
   (by simp[hvx]) ⟨⟨_,rfl⟩,rfl,by simp[kI]⟩ (λpre t post ρ S' oX ⟨⟨x,hρ⟩,hS,hb⟩=>by
    subst hρ;obtain⟨A,B,rfl,hA,hB⟩:=dU.mp oX;obtain⟨p,B,rfl,rfl,hB⟩:=eG.mp hB;have cK:pre.length=A.length:=by rw[<- hA];simp
    have e1:(A++p::B).take pre.length=A:=by rw[cK];simp
    have e2:∀t:T,(A++p::B).take (pre++[t]).length=A++[p]:=λt=>by
     rw[aO,ba,cK];exact Fv ..
    rw[e1] at hS hb;rw[e2];have Ph:A.length<24:=by rw[aO,aY] at hl;omega
    have w:=hw p (by simp);have el:kI names (A++[p])=kI names A++(if p.nm∈names then CI names p++CJ names p else[]):=by
     unfold kI;rw[List.flatMap_append];simp
    rw[el];generalize kI names A=acc at hS hb ⊢;subst hS;have hb2:acc.length<=920:=by omega
    refine⟨OC _,_,rfl,?_⟩;have l1:(CI names p).length<=20:=by unfold CI;rw[aT];have:=d7 (λo=>decide (o∈names)) p.w0;omega
    have l2:(CJ names p).length<=20:=by unfold CJ;rw[aT];have:=d7 (λo=>decide (o∈names)) p.w1;omega
    have IQ:∀(o:Str) (Z:bI),uw (.str o) (aD names) Z=.ok (.bl (decide (o∈names))) Z:=λo Z=>Vc rfl;have i0:∀Z,dN p.t (.int 0) Z=.ok (.str p.nm) Z:=λZ=>by simp[Pc.t]
    have i3:∀Z,dN p.t (.int 3) Z=.ok (.lst [aD p.w0,aD p.w1,aD p.w2,aD p.w3]) Z:=λZ=>by simp[Pc.t]
    have j0:∀Z,dN (.lst [aD p.w0,aD p.w1,aD p.w2,aD p.w3]) (.int 0) Z=.ok (aD p.w0) Z:=λZ=>by simp
    have j1:∀Z,dN (.lst [aD p.w0,aD p.w1,aD p.w2,aD p.w3]) (.int 1) Z=.ok (aD p.w1) Z:=λZ=>by simp
    have ls:∀(l:List Str) (Z:bI),cW Z (aD l)=aa (l.map .str):=λl Z=>rfl;by_cases hc:p.nm∈names
    .have c1:=Vh (ρ:=[aa tv,aa (aD names),aa (.obj S.length),aa p.t]) (S:=S++[.lst (acc.map gD)]) (js:=[3,1]) (l:=p.w0) (names:=names) (f:=λo=>(p.nm,o)) (it:=Mt c) (tc:=Mu c) (te:=Ms c) (st:=λS'=>cW S' (aD p.w0)=aa (p.w0.map T.str)) (by omega)
      (by simp[Mt,i3,j0,ls]) rfl (λo=>by simp[Mu,IQ]) (λo=>by simp[Ms,i0,gD])
     have c2:=λa2:List (Str×Str)=>Vh (ρ:=[aa tv,aa (aD names),aa (.obj S.length),aa p.t]) (S:=S++[.lst (a2.map gD)]) (js:=[3,1]) (l:=p.w1) (names:=names) (f:=λo=>(o,p.nm)) (it:=Mw c) (tc:=Mx c) (te:=Mv c) (st:=λS'=>cW S' (aD p.w1)=aa (p.w1.map T.str)) (by omega)
      (by simp[Mw,i3,j1,ls]) rfl (λo=>by simp[Mx,IQ]) (λo=>by simp[Mv,i0,gD])
     have d1:((p.w0.filter λo=>decide (o∈names)).map λo=>(p.nm,o))=CI names p:=rfl;have d2:((p.w1.filter λo=>decide (o∈names)).map λo=>(o,p.nm))=CJ names p:=rfl;rw[d1] at c1;rw[d2] at c2;rw[if_pos hc];generalize CI names p=n1 at c1 l1 ⊢;generalize CJ names p=n2 at c2 l2 ⊢;have x1:=Ho (S:=S++[.lst (acc.map gD)]) (k:=S.length) (y:=.lst (n1.map gD)) qm rfl (by simp only[aT];omega);rw[Fg,<- bo] at x1;have x2:=Ho (S:=S++[.lst ((acc++n1).map gD)]) (k:=S.length) (y:=.lst (n2.map gD)) qm rfl (by simp only[aT,aO];omega);rw[Fg,<- bo] at x2;have k1:=nS (S:=S++[.lst (acc.map gD)]) (k:=S.length) qm;have k2:=nS (S:=S++[.lst ((acc++n1).map gD)]) (k:=S.length) qm;have c2:=c2 (acc++n1);have ug:=IQ p.nm (S++[.lst (acc.map gD)]);rw[decide_eq_true hc] at ug;refine⟨[aa tv,aa (aD names),aa (.obj S.length),aa p.t],S++[.lst ((acc++n1++n2).map gD)],?_,⟨_,rfl⟩,by rw[bJ],?_⟩
     .generalize S++[cg.lst ((acc++n1++n2).map gD)]=Z2 at x2 ⊢
      generalize S++[cg.lst ((acc++n1).map gD)]=Z1 at x1 x2 k2 c2;generalize S++[cg.lst (acc.map gD)]=Z0 at c1 x1 k1 ug ⊢;simp[HL,i0,ug,k1,c1,x1,k2,c2,x2]
     .simp only[aO,ba]
      omega
    .have ug:=IQ p.nm (S++[.lst (acc.map gD)])
     rw[decide_eq_false hc] at ug;refine⟨[aa tv,aa (aD names),aa (.obj S.length),aa p.t],S++[.lst (acc.map gD)],?_,⟨_,rfl⟩,by rw[if_neg hc,dj],?_⟩
     .simp[HL,i0,ug]
     .rw[if_neg hc,dj,aO,ba];omega) (λ_ _ ⟨_,hS,_⟩=>hS▸OC _)
  rw[aT,hZ] at hS;subst hS;simp[My,e]
 refine LS run (by simp) (az _) qm λt ht=>?_;obtain⟨k,_,rfl⟩:=aq.mp ht;exact vG (by simp)
theorem Vi{ps:List Pc}{names:List Str}(hl:ps.length<=24)(hw:∀p∈ps,p.w0.length<=2/\p.w1.length<=2):Bb c [.lst (ps.map Pc.t),aD names] S=.ok (.lst ((kI names ps).map gD)) S:=ztm U5 hl λp hp=>by have:=hw p hp;omega
theorem IS{names:List Str}{ps:List Pc}{a b:Str}:(a,b)∈kI names ps↔∃p∈ps,p.nm∈names/\((a=p.nm/\b∈p.w0/\b∈names)\/(b=p.nm/\a∈p.w1/\a∈names)):=by
 unfold kI;rw[List.mem_flatMap];constructor
 .rintro⟨p,hp,h⟩
  by_cases hn:p.nm∈names
  .rw[if_pos hn,cH] at h
   refine⟨p,hp,hn,?_⟩;rcases h with h | h
   .obtain⟨o,ho,e⟩:=aq.mp h
    have:=aN.mp ho;cases e;exact .inl ⟨rfl,this.1,by simpa using this.2⟩
   .obtain⟨o,ho,e⟩:=aq.mp h
    have:=aN.mp ho;cases e;exact .inr ⟨rfl,this.1,by simpa using this.2⟩
  .rw[if_neg hn] at h;cases h
 .rintro⟨p,hp,hn,h⟩
  refine⟨p,hp,?_⟩;rw[if_pos hn,cH];rcases h with⟨rfl,h1,h2⟩ | ⟨rfl,h1,h2⟩
  .exact .inl (aq.mpr ⟨b,aN.mpr ⟨h1,by simpa using h2⟩,rfl⟩)
  .exact .inr (aq.mpr ⟨a,aN.mpr ⟨h1,by simpa using h2⟩,rfl⟩)
end DN
namespace DN
open PySem L2 MF
variable {c:Cl}{S:bI}{ρ:Ev}{sec:Str->List Str}{names:List Str}
noncomputable def gK(p:HP):Bool:=decide (p.pl = "hub")&&p.on
theorem yF{dG:List HP}{ps:List Pc}(h:dG.map HP.core=ps.map Pc.full):(dG.filter gK).map HP.core=(ps.filter sj).map Pc.full:=by
 have e1:(dG.filter gK).map HP.core=(dG.map HP.core).filter (λq:pN=>decide (q.2.1 = "hub")&&q.2.2.2.2.1):=by rw[cI];rfl
 have e2:(ps.filter sj).map Pc.full=(ps.map Pc.full).filter (λq:pN=>decide (q.2.1 = "hub")&&q.2.2.2.2.1):=by rw[cI];rfl
 rw[e1,e2,h]
theorem FE{dG:List HP}{ps:List Pc}(h:dG.map HP.core=ps.map Pc.full):dG.map (·.nm)=ps.map (·.nm):=by
 have:=congrArg (List.map λq:pN=>q.1) h;rw[bO,bO] at this;exact this
theorem OD{dG:List HP}{ps:List Pc}(h:dG.map HP.core=ps.map Pc.full){q:Pc}(hq:q∈ps):∃p∈dG,p.core=q.full:=by
 have:q.full∈ps.map Pc.full:=aq.mpr ⟨q,hq,rfl⟩;rw[<- h] at this;obtain⟨p,hp,e⟩:=aq.mp this;exact⟨p,hp,e⟩
theorem zF{p:HP}{q:Pc}(e:p.core=q.full):p.nm=q.nm/\p.w0=q.w0/\p.w1=q.w1:=by
 simp only[HP.core,Pc.full,oW] at e;exact⟨e.1,e.2.2.2.2.2.1,e.2.2.2.2.2.2.1⟩
theorem OE{ps:List Pc}(nd:(ps.map (·.nm)).Nodup):∀p∈ps,∀q∈ps,p.nm=q.nm->p=q:=by
 induction ps with
 |nil=>intro p hp;cases hp
 | cons a r ih=>
   rw[aC,dm] at nd;intro p hp q hq e;rcases aF.mp hp with h1 | h1
   .rcases aF.mp hq with h2 | h2
    .rw[h1,h2]
    .exact absurd (aq.mpr ⟨q,h2,by rw[<- e,h1]⟩) nd.1
   .rcases aF.mp hq with h2 | h2
    .exact absurd (aq.mpr ⟨p,h1,by rw[e,h2]⟩) nd.1
    .exact ih nd.2 p h1 q h2 e
theorem Zby{dG:List HP}{ps:List Pc}(h:dG.map HP.core=ps.map Pc.full)(nd:(ps.map (·.nm)).Nodup):CH (bV ps) (jv (bV ps) (dG.filter gK)) (kI (bV ps) ps):=by
 have hh:=yF h;refine⟨λa ha b=>?_,λ⟨a,b⟩ hp=>?_⟩
 .rw[CD,IS]
  constructor
  .rintro⟨q,hq,hc⟩
   obtain⟨p,hp,e⟩:=FC hh hq;obtain⟨e1,e2,e3⟩:=zF e;refine⟨p,(aN.mp hp).1,aq.mpr ⟨p,hp,rfl⟩,?_⟩;rw[<- e1,<- e2,<- e3];exact hc
  .rintro⟨p,hp,hn,hc⟩
   obtain⟨p2,oY,e0⟩:=aq.mp hn;have:=OE nd p2 (aN.mp oY).1 p hp e0;subst this;obtain⟨q,hq,e⟩:=OD hh oY;obtain⟨e1,e2,e3⟩:=zF e;refine⟨q,hq,?_⟩;rw[e1,e2,e3];exact hc
 .obtain⟨p,hp,hn,hc⟩:=IS.mp hp
  rcases hc with⟨rfl,_,h2⟩ | ⟨rfl,_,h2⟩
  .exact⟨hn,h2⟩
  .exact⟨h2,hn⟩
theorem CK{ps:List Pc}(nd:(ps.map (·.nm)).Nodup):(bV ps).Nodup:=nd.sublist (qy _ (uq))
theorem CL(ps:List Pc):(bV ps).length<=ps.length:=by unfold bV;rw[aT];exact d7 ..
theorem FF{ps:List Pc}{x:Str}(h:x∈bV ps):∃p∈ps,p.nm=x:=by
 obtain⟨p,hp,e⟩:=aq.mp h;exact⟨p,(aN.mp hp).1,e⟩
theorem z79:∀k:Nat,k<26->(cY (sS k)).length<=30:=by decide +kernel
structure yG(ps:List Pc):Prop where
 nd:(ps.map (·.nm)).Nodup
 len:ps.length<=24
 w:∀p∈ps,p.w0.length+p.w1.length<=20
 sm:∀p∈ps,(cY p.nm).length<=30
theorem Drawn.drw{ps:List Pc}(D:Drawn ps)(sm:∀p∈ps,(cY p.nm).length<=30):yG ps:=⟨D.nd,by have:=D.len;omega,λp hp=>by have:=D.w p hp;omega,sm⟩
theorem Vj{a b x:Str}(h:(sec x).Nodup):(oP sec a b x).Nodup:=by
 unfold oP
 split
 .rename_i e
  subst e
  split
  .exact h
  .rename_i hb
   exact dO.mpr ⟨h,by simp,λu hu v hv e=>hb (by rw[aH.mp hv] at e;exact e▸hu)⟩
 .exact h
theorem Vk{nm x:Str}:∀(os:List Str) {sec:Str->List Str},(sec x).Nodup->((os.foldl (oz names nm) sec) x).Nodup
 |[],sec,h=>h
 |o::os,sec,h=>Vk os (by unfold oz;split;exact Vj h;exact h)
theorem Vl{nm x:Str}:∀(os:List Str) {sec:Str->List Str},(sec x).Nodup->((os.foldl (sW names nm) sec) x).Nodup
 |[],sec,h=>h
 |o::os,sec,h=>Vl os (by unfold sW;split;exact Vj h;exact h)
theorem OF{x:Str}:∀(qs:List HP) {sec:Str->List Str},(sec x).Nodup->((qs.foldl (wK names) sec) x).Nodup
 |[],sec,h=>h
 |q::qs,sec,h=>OF qs (Vl _ (Vk _ h))
theorem Vm{dG:List HP}{ps:List Pc}(h:dG.map HP.core=ps.map Pc.full)(D:yG ps):II (bV ps) (jv (bV ps) (dG.filter gK)):=by
 have hh:=yF h;have hl:=CL ps;have dl:=D.len;have sub:∀a b,b∈jv (bV ps) (dG.filter gK) a->b∈bV ps:=λa b hb=>by
  obtain⟨q,hq,hc⟩:=CD.mp hb;rcases hc with⟨_,_,h2⟩ | ⟨rfl,_,_⟩
  .exact h2
  .obtain⟨p,hp,e⟩:=FC hh hq
   obtain⟨e1,_,_⟩:=zF e;exact aq.mpr ⟨p,hp,e1.symm⟩
 refine⟨⟨λa ha b hb=>sub a b hb,λa ha=>?_,by omega⟩,λx hx=>?_,by omega⟩
 .have:=vR _ _ (OF (names:=bV ps) (x:=a) (dG.filter gK) (sec:=λ_=>[]) .nil) (sub a)
  show(jv (bV ps) (dG.filter gK) a).length<=200;have:(jv (bV ps) (dG.filter gK) a).length<=(bV ps).length:=this;omega
 .obtain⟨p,hp,rfl⟩:=FF hx
  exact D.sm p hp
theorem z8a{h:Nat}{pl:List jj}{dG:List HP}{ps:List Pc}{pm:jj}(A:ik c S h pl dG)(hq:pl.find? (λp=>decide (p.nm=("hub" : Str)))=aa pm)(hc:dG.map HP.core=ps.map Pc.full)(D:yG ps) :
  (∀res,topo (jv (bV ps) (dG.filter gK)) (bV ps).length (bV ps) []=aa res->∃S',Bj c [.obj h,.str "hub"] S=.ok (.obj (S.length+1)) S'/\S'[S.length+1]?=aa (.lst (res.map .str))/\∀j,j<S.length->S'[j]?=S[j]?) /\
  (topo (jv (bV ps) (dG.filter gK)) (bV ps).length (bV ps) []=ae->∃S' ring,Bj c [.obj h,.str "hub"] S=.exc c.ring (aa [("ring",aD ring)]) S'/\(∀j,j<S.length->S'[j]?=S[j]?)/\IH (jv (bV ps) (dG.filter gK)) (bV ps) ring):=by
 have hl:=IL hc;have dl:=D.len;have yH:(dG.filter gK).map (·.nm)=bV ps:=FE (yF hc);have ma:=q8 (m:=ao "at") h (by simp) (by simp);have ea:=yA A hq (by omega);have ea:q0 c [.obj h,.str "hub"] S=.ok (aD ((dG.filter gK).map (·.nm))) S:=ea;rw[yH] at ea;obtain⟨p1,p2⟩:=Ot A (CK D.nd) yH (λq zG=>by
  have FG:=(aN.mp zG).1;obtain⟨p,hp,e⟩:=FC hc FG;obtain⟨_,e2,e3⟩:=zF e;have:=D.w p hp;rw[e2,e3];exact⟨FG,this⟩) (Vm hc D)
 have i0:=A.ins;refine⟨λres hr=>?_,λhr=>?_⟩
 .obtain⟨S',e,g,k⟩:=p1 res hr
  exact⟨S',by simp[Bj,MP,i0,ma,ea,e],g,k⟩
 .obtain⟨S',ring,e,k,sh⟩:=p2 hr
  exact⟨S',ring,by simp[Bj,MP,i0,ma,ea,e],k,sh⟩
theorem z4b(ns:List Int)(start cB:Int)(h0:0<=cB)(h1:cB<=13):∀p∈q5 ns start cB,(cY p.nm).length<=30:=λp hp=>by
 obtain⟨k,hk,rfl⟩:=aq.mp hp;have:=gQ.mp hk;exact z79 k (by omega)
theorem z8b:d_ (ao "ring")=true:=by decide +kernel
theorem z8c:gG (.tup [.str "ring"]) (.tup [.str "ring"]) S=.ok (.bl true) S:=by
 have e:nA S (.tup [.str "ring"])=aa (.tuple [.str "ring"]):=by simp[nA,pd,md]
 have t:toV (.tup [.str "ring"])=ae:=rfl;have k:bM (.tuple [.str "ring"])=true:=by
  have:=z8b;simp[bM,be,this]
 have:=CG (.inl t) e e k k (by decide);simp[gG,this,bX,eI]
theorem ik.keep{h:Nat}{pl:List jj}{ps:List HP}{S':bI}(A:ik c S h pl ps)(hk:∀j,j<S.length->S'[j]?=S[j]?):ik c S' h pl ps:=by
 have lk:∀{i:Nat} {v:cg},S[i]?=aa v->S'[i]?=aa v:=λ{i v} e=>by
  rw[hk i (by
   by_cases z:i<S.length
   .exact z
   .rw[hV (by omega)] at e;cases e)]
  exact e
 exact⟨lk A.hall,lk A.places,lk A.pieces,λq hq=>lk (A.place q hq),λp hp=>⟨lk (A.piece p hp).o,lk (A.piece p hp).a0,lk (A.piece p hp).a1,lk (A.piece p hp).a2,lk (A.piece p hp).a3⟩,A.uf,A.pw,A.nd⟩
end DN
namespace DN
open PySem L2 MF
variable {c:Cl}{S:bI}
structure Rn where
 kind:Str
 rule:Str
 num:T
 deeds:List T
 held:List T
 brk:Bool
 prs:List T
 fnd:T
 ard:List T
noncomputable def Rn.fs(x:Rn)(r:Nat):List (Str×T):=[("kind",.str x.kind),("rule",.str x.rule),("number",x.num),("deeds",.obj (r+1)),("held",.obj (r+2)),("broken",.bl x.brk),("pairs",.obj (r+3)),("found",x.fnd),("around",.obj (r+4))]
noncomputable def Rn.block(c:Cl)(x:Rn)(r:Nat):List cg:=[.ins c.run (x.fs r),.lst x.deeds,.lst x.held,.lst x.prs,.lst x.ard]
structure iT(c:Cl)(S:bI)(r:Nat)(x:Rn):Prop where
 o:S[r]?=aa (.ins c.run (x.fs r))
 d:S[r+1]?=aa (.lst x.deeds)
 h:S[r+2]?=aa (.lst x.held)
 p:S[r+3]?=aa (.lst x.prs)
 a:S[r+4]?=aa (.lst x.ard)
section
variable {r:Nat}{x:Rn}
theorem iT.ins(R:iT c S r x):o7 S c.run (.obj r)=aa (r,x.fs r):=sd R.o
theorem Bv:(x.fs r).lookup (ao "kind")=aa (.str x.kind):=by simp[Rn.fs,aI]
theorem Vn:(x.fs r).lookup (ao "rule")=aa (.str x.rule):=by simp[Rn.fs,aI]
theorem FH:(x.fs r).lookup (ao "number")=aa x.num:=by simp[Rn.fs,aI]
theorem IT:(x.fs r).lookup (ao "deeds")=aa (.obj (r+1)):=by simp[Rn.fs,aI]
theorem Vo:(x.fs r).lookup (ao "held")=aa (.obj (r+2)):=by simp[Rn.fs,aI]
theorem lkB:(x.fs r).lookup (ao "broken")=aa (.bl x.brk):=by simp[Rn.fs,aI]
theorem FI:(x.fs r).length<900:=by simp[Rn.fs]
theorem CN:(x.fs r).lookup (ao "over")=ae:=by simp[Rn.fs,aI]
theorem Vp:(x.fs r).lookup (ao "step")=ae:=by simp[Rn.fs,aI]
theorem Vq:(x.fs r).lookup (ao "perform")=ae:=by simp[Rn.fs,aI]
theorem Vr:(x.fs r).lookup (ao "fall")=ae:=by simp[Rn.fs,aI]
theorem Zb0:(x.fs r).lookup (ao "hear")=ae:=by simp[Rn.fs,aI]
theorem OG:(x.fs r).lookup (ao "leave_the_rest")=ae:=by simp[Rn.fs,aI]
theorem Zdv:(x.fs r).lookup (ao "answer")=ae:=by simp[Rn.fs,aI]
theorem zym(k ru:Str)(n:T)(ds:List T):EY c [.obj S.length,.str k,.str ru,n,.lst ds] (S++[.ins c.run []])=.ok .bH (S++(Rn.mk k ru n ds [] false [] .bH []).block c S.length):=by
 simp[EY,TC,Cy,Rn.block,Rn.fs,wD,tT]
theorem iT.yI(R:iT c S r x)(ds:List T):iT c (S.set (r+1) (.lst ds)) r { x with deeds:=ds }:=
 ⟨by rw[eR (by omega)];exact R.o,m4 R.d,by rw[eR (by omega)];exact R.h,by rw[eR (by omega)];exact R.p,by rw[eR (by omega)];exact R.a⟩
theorem iT.vZ{y:Rn}(R:iT c S r x)(e1:y.deeds=x.deeds)(e2:y.held=x.held)(e3:y.prs=x.prs)(e4:y.ard=x.ard):iT c (S.set r (.ins c.run (y.fs r))) r y:=
 ⟨m4 R.o,by rw[eR (by omega),e1];exact R.d,by rw[eR (by omega),e2];exact R.h,by rw[eR (by omega),e3];exact R.p,by rw[eR (by omega),e4];exact R.a⟩
theorem OH(t:T):tV (ao "number") t (x.fs r)=Rn.fs { x with num:=t } r:=by simp[Rn.fs]
theorem z8d(b:Bool):tV (ao "broken") (.bl b) (x.fs r)=Rn.fs { x with brk:=b } r:=by simp[Rn.fs]
theorem FJ(R:iT c S r x):wH c [.obj r] S=.ok (.bl x.deeds.isEmpty) S:=by
 have e:=Fo (nC R.d);simp[wH,Ts,R.ins,IT,e]
theorem OI(R:iT c S r x):xM c [.obj r] S=.ok .bH (S.set (r+1) (.lst [])):=by
 simp[xM,Tt,R.ins,IT,nS R.d,Em,gr,R.d]
end
theorem zyn{ρ:Ev}{S1:bI}{js:List Nat}{it:DI}{tc:DT}{te:DE}{ts:List T}{st:bI->Prop}{p:T->Bool}{f:T->T}(rZ:it ρ S=.ok (ts,st) S1)(fm:st S1)(hl:ts.length<=1000)
  (hc:∀t∈ts,tc (aa t::js.map λj=>(ρ[j]?).join) S1=.ok (p t) S1) (he:∀t∈ts,p t=true->te (aa t::js.map λj=>(ρ[j]?).join) S1=.ok (f t) S1) :
  jN 1 js it (eE 0) tc te fO ρ S=.ok (.lst ((ts.filter p).map f)) S1:=by
 have e:=xF (ρ:=ρ) (S:=S1) (js:=js) (it:=λ_=>λS=>.ok (ts,st) S) (tc:=tc) (te:=te) rfl fm hl hc he;unfold jN at e ⊢;rw[fJ] at e ⊢;rw[rZ];exact e
theorem Vs{ps dds:List HP}(nd:(ps.map (·.nm)).Nodup)(hd:∀p∈dds,p∈ps){p:HP}(hp:p∈dds):dds.find? (λq=>decide (q.nm=p.nm))=aa p:=by
 cases e:dds.find? (λq=>decide (q.nm=p.nm)) with
 | none=>
   have:=dY.mp e p hp;simp at this
 | some p'=>
   have h1:p'.nm=p.nm:=by simpa using oE e
   have h2:=zB nd (hd p' (cN e));have h3:=zB nd (hd p hp);rw[h1,h3] at h2;exact h2.symm
theorem Vt{h k:Nat}{pl:List jj}{ps dds:List HP}{pm:jj}{q:Str}{tn n:T}{S1:bI}(A:ik c S h pl ps)(hq:pl.find? (λp=>decide (p.nm=q))=aa pm)
  (eo:wI c [.obj h,tn] S=.ok (.obj k) S1) (ek:S1[k]?=aa (.lst (dds.map λp=>.str p.nm))) (A1:ik c S1 h pl ps) (hd:∀p∈dds,p∈ps) (hl:dds.length<=100) :
  vO c [.obj h,.str q,tn,n] S=.ok (.obj S1.length) (S1++(Rn.mk pm.kind pm.rule n (dds.map λp=>.tup [.str p.nm,p.dd]) [] false [] .bH []).block c S1.length):=by
 have Fw:=q8 (m:=ao "find_place") h (by simp) (by simp);have A6:=q8 (m:=ao "find_piece") h (by simp) (by simp);have e1:=Iv A hq;have pmm:pm∈pl:=cN hq;have Pl:=sd (A1.place pm pmm);have cc:=zyn (ρ:=[aa (.obj h),aa (.str q),aa tn,aa n,aa (.obj pm.i),ae]) (S:=S) (S1:=S1) (js:=[0]) (it:=EZ c) (tc:=mz) (te:=MM c) (ts:=dds.map λp=>.str p.nm) (st:=λS'=>cW S' (.obj k)=aa (dds.map λp=>.str p.nm)) (p:=λ_=>true)
  (f:=λt=>match t with|.str x=>(match dds.find? (λp=>decide (p.nm=x)) with|some p=>.tup [.str x,p.dd] | none=>.bH) | _=>.bH)
  (by simp[EZ,eo,nC ek]) (nC ek) (by simp;omega) (λt ht=>rfl) (λt ht _=>by
   obtain⟨p,hp,rfl⟩:=aq.mp ht;have e2:=Iu A1 (zB A1.nd (hd p hp));have e3:=Vs A1.nd hd hp;have Po:=sd (A1.piece p (hd p hp)).o;have lk:p.fs.lookup (ao "deed")=aa p.dd:=by simp[HP.fs,aI]
   simp[MM,A1.ins,A6,e2,Po,lk,e3])
 have ef:((dds.map λp=>T.str p.nm).filter λ_=>true).map (λt=>match t with|.str x=>(match dds.find? (λp=>decide (p.nm=x)) with|some p=>T.tup [.str x,p.dd] | none=>.bH) | _=>.bH)=dds.map λp=>T.tup [.str p.nm,p.dd]:=by
  rw[lG.mpr (by simp),bO];refine dg λp hp=>?_;have e3:=Vs A1.nd hd hp;simp[e3]
 rw[ef] at cc;have ri:=zym (c:=c) (S:=S1) pm.kind pm.rule n (dds.map λp=>.tup [.str p.nm,p.dd]);generalize dds.map (λp=>T.tup [.str p.nm,p.dd])=DL at cc ri ⊢;have lk1:bL (ao "kind") [(ao "kind",T.str pm.kind),(ao "rule",T.str pm.rule)]=aa (.str pm.kind):=by simp[aI]
 have lk2:bL (ao "rule") [(ao "kind",T.str pm.kind),(ao "rule",T.str pm.rule)]=aa (.str pm.rule):=by simp[aI]
 simp[vO,MN,A.ins,Fw,e1,cc,Pl,lk1,lk2,ri]
theorem Vu{x:Rn}:iT c (S++x.block c S.length) S.length x:=⟨by rw[zC];rfl,by rw[nX];rfl,by rw[nX];rfl,by rw[nX];rfl,by rw[nX];rfl⟩
end DN
namespace DN
open PySem L2 MF
variable {c:Cl}{S:bI}
section
variable {S0:bI}{h kg kl:Nat}{pl:List jj}{ps:List HP}
theorem z11{S S':bI}(h:∀j,j<S.length->S'[j]?=S[j]?):S'.take S.length=S:=by
 refine ji λj=>?_;by_cases hj:j<S.length
 .rw[gu hj,h j hj]
 .rw[hV (by simp;omega),hV (by omega)]
end
end DN
namespace DN
open PySem L2 MF
section
variable {nd:Str->Option (List Str)}{C:Str->Prop}{x:Str}
noncomputable def Vv(nd:Str->Option (List Str)):List Str->Option (List Str)
 |[]=>aa []
 | x::xs=>match nd x with
   |none=>ae
   |some ws=>(Vv nd xs).map (ws++·)
def tL(nd:Str->Option (List Str)):Nat->List Str->Option (List Str)
 |0,found=>aa found
 | k+1,found=>match Vv nd found with
   |none=>ae
   |some more=>tL nd k (SY (A8 (found++more)))
end
end DN
namespace DN
open PySem L2 MF
variable {c:Cl}{S:bI}
theorem mQ{f g:DS}{ρ r:Ev}{S S1:bI}(h:f ρ S=.ok (.nx r) S1):aX f g ρ S=g r S1:=by rw[Sk,fJ,h]
theorem OJ{f g:DS}{ρ:Ev}{t:T}{S S1:bI}(h:f ρ S=.ok (.rt t) S1):aX f g ρ S=.ok (.rt t) S1:=by rw[Sk,fJ,h];rfl
theorem Vw{it:DI}{g:DG}{body:DS}{ts:List T}{st:bI->Prop}{ρ:Ev}{S S1:bI}(rZ:it ρ S=.ok (ts,st) S1):eX it g body ρ S=fU st g body ts ρ S1:=by
 unfold eX;rw[fJ,rZ]
end DN
namespace DN
open PySem L2 MF
variable {c:Cl}{S:bI}{sec:Str->List Str}{names:List Str}
theorem zH{n:Nat}{d:DS}{ts:List T}{t:T}{S S':bI}{ρ:Ev}(hρ:ts.map aa++aS (n-ts.length) ae=ρ)(h:d ρ S=.ok (.rt t) S'):cF n d ts S=.ok t S':=by subst hρ;rw[Za5,h]
theorem sX{F:Fn}{fr:DA}{ρ:Ev}{ts:List T}{t:T}{n:Nat}{S S1 S2:bI}(hr:fr ρ S=.ok ts S1)(hl:ts.length=n)(h:F ts S1=.ok t S2):fw (bx n F) [] fr ρ S=.ok t S2:=by
 rw[Za6,fJ,hr];show bx n F (ts++[]) S1=_;rw[dj,Zdh,if_pos hl,h]
theorem jw{a:DE}{r:DA}{ρ:Ev}{t:T}{ts:List T}{S S1 S2:bI}(h1:a ρ S=.ok t S1)(h2:r ρ S1=.ok ts S2):aV a r ρ S=.ok (t::ts) S2:=by
 rw[z7m,fJ,h1];show(r ρ).bind _ S1=_;rw[fJ,h2];rfl
theorem IU{f:DE}{ρ:Ev}{t:T}{S S1:bI}(h:f ρ S=.ok t S1):cq f ρ S=.ok (.rt t) S1:=by rw[Zdf,fJ,h];rfl
theorem q_{f:DE}{ρ:Ev}{i:Nat}{t:T}{S S1:bI}(h:f ρ S=.ok t S1):cE i f ρ S=.ok (.nx (ρ.set i (aa t))) S1:=by rw[Zdg,fJ,h];rfl
end DN
namespace DN
open PySem L2 MF
variable {c:Cl}{S:bI}
inductive Dd where
 |add (a:Int) | say (a:Int) | bH | fail (a:Int)
noncomputable def Dd.t:Dd->T
 |.add a=>.tup [.str "add",.int a]
 |.say a=>.tup [.str "say",.int a]
 |.bH=>.tup [.str "none"]
 |.fail a=>.tup [.str "fail",.int a]
noncomputable def Dd.ig:Dd->Int->T
 |.add a,n=>.int (n+a)
 |.say a,_=>.int a
 |_,_=>.bH
abbrev Rd:=Str×Dd
noncomputable def fQ(p:Rd):T:=.tup [.str p.1,p.2.t]
noncomputable def iw(p:Str×Int):T:=.tup [.str p.1,.int p.2]
theorem CO(d:Dd)(n:Int):uD c [d.t,.int n] S=.ok (d.ig n) S:=by
 cases d<;>simp[uD,Tu,Dd.t,Dd.ig]
structure Rs where
 kind:Str
 rule:Str
 num:Int
 deeds:List Rd
 held:List (Str×Int)
 brk:Bool
 prs:List (Str×T)
 fnd:T
 ard:List Int
noncomputable def rf(p:Str×T):T:=.tup [.str p.1,p.2]
noncomputable def Rs.x(x:Rs):Rn:=⟨x.kind,x.rule,.int x.num,x.deeds.map fQ,x.held.map iw,x.brk,x.prs.map rf,x.fnd,x.ard.map .int⟩
noncomputable def Rs.step (x:Rs) (p:Rd) (ds:List Rd):Rs:=match p.2 with
 |.fail a=>{ x with deeds:=ds,held:=x.held++[(p.1,a)] }
 | d=>if x.kind = "all" then { x with deeds:=ds,prs:=x.prs++[(p.1,d.ig x.num)] }
   else if x.kind = "round" then(match d with
    |.add a=>{ x with deeds:=ds,ard:=x.ard++[a],num:=x.num+a }
    |.say a=>{ x with deeds:=[],num:=a }
    |_=>{ x with deeds:=ds })
   else match d with
    |.add a=>if x.kind = "first" then { x with deeds:=[],fnd:=.int (x.num+a) } else { x with deeds:=ds,num:=x.num+a }
    |.say a=>if x.kind = "first" then { x with deeds:=[],fnd:=.int a } else { x with deeds:=ds,num:=a }
    |_=>{ x with deeds:=ds }
structure jH(S S':bI)(r:Nat):Prop where
 len:S'.length=S.length
 same:∀j,(j<r\/r+5<=j)->S'[j]?=S[j]?
theorem jH.set{r i:Nat}{v:cg}(h1:r<=i)(h2:i<r+5):jH S (S.set i v) r:=⟨by simp,λj hj=>eR (by omega)⟩
theorem jH.trans{S1 S2:bI}{r:Nat}(a:jH S S1 r)(b:jH S1 S2 r):jH S S2 r:=⟨b.len.trans a.len,λj hj=>(b.same j hj).trans (a.same j hj)⟩
theorem jH.refl(S:bI)(r:Nat):jH S S r:=⟨rfl,λ_ _=>rfl⟩
section
variable {r:Nat}{x:Rn}
theorem iT.OK(R:iT c S r x)(hs:List T):iT c (S.set (r+2) (.lst hs)) r { x with held:=hs }:=
 ⟨by rw[eR (by omega)];exact R.o,by rw[eR (by omega)];exact R.d,m4 R.h,by rw[eR (by omega)];exact R.p,by rw[eR (by omega)];exact R.a⟩
theorem iT.OM(R:iT c S r x)(hs:List T):iT c (S.set (r+3) (.lst hs)) r { x with prs:=hs }:=
 ⟨by rw[eR (by omega)];exact R.o,by rw[eR (by omega)];exact R.d,by rw[eR (by omega)];exact R.h,m4 R.p,by rw[eR (by omega)];exact R.a⟩
theorem iT.ON(R:iT c S r x)(hs:List T):iT c (S.set (r+4) (.lst hs)) r { x with ard:=hs }:=
 ⟨by rw[eR (by omega)];exact R.o,by rw[eR (by omega)];exact R.d,by rw[eR (by omega)];exact R.h,by rw[eR (by omega)];exact R.p,m4 R.a⟩
theorem Vx:(x.fs r).lookup (ao "pairs")=aa (.obj (r+3)):=by simp[Rn.fs,aI]
theorem lkF:(x.fs r).lookup (ao "found")=aa x.fnd:=by simp[Rn.fs,aI]
theorem Vy:(x.fs r).lookup (ao "around")=aa (.obj (r+4)):=by simp[Rn.fs,aI]
theorem OO:(x.fs r).lookup (ao "go_within")=ae:=by simp[Rn.fs,aI]
theorem z8f(t:T):tV (ao "found") t (x.fs r)=Rn.fs { x with fnd:=t } r:=by simp[Rn.fs]
theorem Vz(R:iT c S r x){nm:Str}{cd:T}(sm:Sm nm)(hl:x.held.length<900) :
  (x.rule = "hand" -> ∃S',Bc c [.obj r,.str nm,cd] S=.exc c.deedFault (aa [("piece",.str nm),("code",cd)]) S'/\iT c S' r { x with brk:=true,deeds:=[] }/\jH S S' r) /\
  (x.rule ≠ "hand" -> ∃S',Bc c [.obj r,.str nm,cd] S=.ok .bH S'/\iT c S' r { x with held:=x.held++[.tup [.str nm,cd]] }/\jH S S' r):=by
 refine⟨λhr=>?_,λhr=>?_⟩
 .obtain⟨kind,rule,num,deeds,held,brk,prs,fnd,ard⟩:=x
  simp only at hr;subst hr;have R1:=R.vZ (y:=⟨kind, "hand",num,deeds,held,true,prs,fnd,ard⟩) rfl rfl rfl rfl;have R2:=R1.yI [];have l:=OI R1;have ok:Ez false (.str nm) cd=true:=by
   unfold Sm at sm;simp[Ez,Hu];omega
  refine⟨_,?_,R2,(jH.set (by omega) (by omega)).trans (jH.set (by omega) (by omega))⟩;simp[Bc,Mz,R.ins,Vn,z8d,FI,R1.ins,OG,l,L1,ok]
 .have ap:=vF (y:=.tup [.str nm,cd]) R.h (by omega)
  refine⟨_,?_,R.OK _,jH.set (by omega) (by omega)⟩;simp[Bc,Mz,R.ins,Vn,hr,Vo,nS R.h,ap]
theorem Zb1(R:iT c S r x)(t:T):∃S',Ck c [.obj r,t] S=.ok .bH S'/\iT c S' r (if x.kind = "first" then { x with fnd:=t,deeds:=[] } else { x with num:=t })/\jH S S' r:=by
 by_cases h:x.kind = "first"
 .rw[if_pos h]
  obtain⟨kind,rule,num,deeds,held,brk,prs,fnd,ard⟩:=x;simp only at h;subst h;have R1:=R.vZ (y:=⟨"first",rule,num,deeds,held,brk,prs,t,ard⟩) rfl rfl rfl rfl;have l:=OI R1;refine⟨_,?_,R1.yI [],(jH.set (by omega) (by omega)).trans (jH.set (by omega) (by omega))⟩;simp[Ck,MA,R.ins,Bv,z8f,FI,R1.ins,OG,l]
 .rw[if_neg h]
  refine⟨_,?_,R.vZ (y:={ x with num:=t }) rfl rfl rfl rfl,jH.set (by omega) (by omega)⟩;simp[Ck,MA,R.ins,Bv,h,OH,FI]
theorem z4c(R:iT c S r x){n:Int}(hn:x.num=.int n)(hl:x.ard.length<900)(d:Dd):∃S',zv c [.obj r,d.t] S=.ok .bH S'/\iT c S' r (match d with
   |.add a=>{ x with ard:=x.ard++[.int a],num:=.int (n+a) }
   |.say a=>{ x with num:=.int a,deeds:=[] }
   |_=>x)/\jH S S' r:=by
 cases d with
 | add a=>
   have ap:=vF (y:=.int a) R.a (by omega);have R1:=R.ON (x.ard++[.int a]);have sa:=CO (c:=c) (S:=S.set (r+4) (.lst (x.ard++[.int a]))) (.add a) n;refine⟨_,?_,R1.vZ (y:={ x with ard:=x.ard++[.int a],num:=.int (n+a) }) rfl rfl rfl rfl,(jH.set (by omega) (by omega)).trans (jH.set (by omega) (by omega))⟩;simp only[Dd.t,Dd.ig] at sa;simp[zv,ER,Dd.t,R.ins,Vy,nS R.a,ap,R1.ins,FH,hn,sa,FI,OH]
 | say a=>
   have R1:=R.vZ (y:={ x with num:=.int a }) rfl rfl rfl rfl;have sa:=CO (c:=c) (S:=S) (.say a) n;have l:=OI R1;refine⟨_,?_,R1.yI [],(jH.set (by omega) (by omega)).trans (jH.set (by omega) (by omega))⟩;simp only[Dd.t,Dd.ig] at sa;simp[zv,ER,Dd.t,R.ins,FH,hn,sa,FI,OH,R1.ins,OG,l]
 |bH=>exact⟨S,by simp[zv,ER,Dd.t],R,jH.refl S r⟩
 |fail a=>exact⟨S,by simp[zv,ER,Dd.t],R,jH.refl S r⟩
end
end DN
namespace DN
open PySem L2 MF
variable {c:Cl}{S:bI}{r:Nat}
structure Rs.ok(x:Rs):Prop where
 kind:x.kind = "all" \/ x.kind = "first" \/ x.kind = "chain" \/ x.kind = "round"
 rule:x.rule = "hold" \/ x.rule = "hand"
 sm:∀p∈x.deeds,Sm p.1
 len:x.deeds.length+x.held.length<=100/\x.deeds.length+x.prs.length<=100/\x.deeds.length+x.ard.length<=100
theorem z12{x:Rs}(R:iT c S r x.x)(ok:x.ok){p:Rd}(sm:Sm p.1) :
  ((∃a,p.2=.fail a/\x.rule = "hand")->∃a S',p.2=.fail a/\uE c [.obj r,.str p.1,p.2.t] S=.exc c.deedFault (aa [("piece",.str p.1),("code",.int a)]) S'/\iT c S' r (Rs.x { x with brk:=true,deeds:=[] })/\jH S S' r) /\
  (¬(∃a,p.2=.fail a/\x.rule = "hand")->∃S',uE c [.obj r,.str p.1,p.2.t] S=.ok .bH S'/\iT c S' r (Rs.x (x.step p x.deeds))/\jH S S' r):=by
 obtain⟨nm,d⟩:=p;simp only at sm ⊢;have l:=ok.len;have hh:x.x.held.length<900:=by simp[Rs.x];omega
 have hp:x.x.prs.length<900:=by simp[Rs.x];omega
 have ha:x.x.ard.length<900:=by simp[Rs.x];omega
 have en:x.x.num=.int x.num:=rfl;have ek:x.x.kind=x.kind:=rfl;refine⟨λ⟨a,e,hr⟩=>?_,λhn=>?_⟩
 .subst e
  obtain⟨S',e,R',k⟩:=(Vz R (nm:=nm) (cd:=.int a) sm hh).1 hr;refine⟨a,S',rfl,?_,R',k⟩;simp[uE,Bd,Dd.t,R.ins,Vr,e]
 .by_cases hf:∃a,d=.fail a
  .obtain⟨a,rfl⟩:=hf
   have hr:x.x.rule ≠ "hand":=λh=>hn ⟨a,rfl,h⟩;obtain⟨S',e,R',k⟩:=(Vz R (nm:=nm) (cd:=.int a) sm hh).2 hr;refine⟨S',?_,?_,k⟩
   .simp[uE,Bd,Dd.t,R.ins,Vr,e]
   .have:({ x.x with held:=x.x.held++[.tup [.str nm,.int a]] }:Rn)=Rs.x (x.step (nm,.fail a) x.deeds):=by simp[Rs.x,Rs.step,iw]
    rw[<- this];exact R'
  have nf:∀a,d≠.fail a:=λa e=>hf ⟨a,e⟩;have sa:=CO (c:=c) (S:=S) d x.num;have FK:(x.kind = "first" \/ x.kind = "chain")->∃S',uE c [.obj r,.str nm,d.t] S=.ok .bH S'/\iT c S' r (Rs.x (x.step (nm,d) x.deeds))/\jH S S' r:=λh=>by
   by_cases hd:d=.bH
   .subst hd
    refine⟨S,?_,?_,jH.refl S r⟩
    .rcases h with h | h<;>simp[uE,Bd,Dd.t,R.ins,Bv,ek,h]
    .have:x.x=Rs.x (x.step (nm,.bH) x.deeds):=by rcases h with h | h<;>simp[Rs.x,Rs.step,h]
     rw[<- this];exact R
   .obtain⟨S',e,R',k⟩:=Zb1 R (d.ig x.num)
    refine⟨S',?_,?_,k⟩
    .cases d with
     |fail a=>exact absurd rfl (nf a)
     |bH=>exact absurd rfl hd
     | _=>
       simp only[Dd.t,Dd.ig] at sa e ⊢;rcases h with h | h<;>simp[uE,Bd,R.ins,Bv,ek,h,Zb0,FH,en,sa,e]
    .have:(if x.x.kind = "first" then({ x.x with fnd:=d.ig x.num,deeds:=[] }:Rn) else { x.x with num:=d.ig x.num })=Rs.x (x.step (nm,d) x.deeds):=by
      cases d with
      |fail a=>exact absurd rfl (nf a)
      |bH=>exact absurd rfl hd
      |_=>rcases h with h | h<;>simp[Rs.x,Rs.step,h,Dd.ig]
     rw[<- this];exact R'
  rcases ok.kind with h | h | h | h
  .have ap:=vF (y:=.tup [.str nm,d.ig x.num]) R.p (by omega)
   refine⟨S.set (r+3) (.lst (x.x.prs++[.tup [.str nm,d.ig x.num]])),?_,?_,jH.set (by omega) (by omega)⟩
   .cases d with
    |fail a=>exact absurd rfl (nf a)
    | _=>
      simp only[Dd.t,Dd.ig] at sa ap ⊢;simp[uE,Bd,R.ins,Bv,ek,h,Vx,nS R.p,FH,en,sa,ap]
   .have:({ x.x with prs:=x.x.prs++[.tup [.str nm,d.ig x.num]] }:Rn)=Rs.x (x.step (nm,d) x.deeds):=by
     cases d with
     |fail a=>exact absurd rfl (nf a)
     |_=>simp[Rs.x,Rs.step,h,rf]
    rw[<- this];exact R.OM _
  .exact FK (.inl h)
  .exact FK (.inr h)
  .obtain⟨S',e,R',k⟩:=z4c R en ha d
   refine⟨S',?_,?_,k⟩
   .cases d with
    |fail a=>exact absurd rfl (nf a)
    | _=>
      simp only[Dd.t] at e ⊢;simp[uE,Bd,R.ins,Bv,ek,h,OO,e]
   .cases d with
    |fail a=>exact absurd rfl (nf a)
    | add a=>
      have:({ x.x with ard:=x.x.ard++[.int a],num:=.int (x.num+a) }:Rn)=Rs.x (x.step (nm,.add a) x.deeds):=by simp[Rs.x,Rs.step,h]
      rw[<- this];exact R'
    | say a=>
      have:({ x.x with num:=.int a,deeds:=[] }:Rn)=Rs.x (x.step (nm,.say a) x.deeds):=by simp[Rs.x,Rs.step,h]
      rw[<- this];exact R'
    | bH=>
      have:x.x=Rs.x (x.step (nm,.bH) x.deeds):=by simp[Rs.x,Rs.step,h]
      rw[<- this];exact R'
theorem Zb2{x:Rs}(R:iT c S r x.x)(ok:x.ok){p:Rd}{ds:List Rd}(hd:x.deeds=p::ds) :
  ((∃a,p.2=.fail a/\x.rule = "hand")->∃a S',p.2=.fail a/\Be c [.obj r] S=.exc c.deedFault (aa [("piece",.str p.1),("code",.int a)]) S'/\iT c S' r (Rs.x { x with brk:=true,deeds:=[] })/\jH S S' r) /\
  (¬(∃a,p.2=.fail a/\x.rule = "hand")->∃S',Be c [.obj r] S=.ok (.str p.1) S'/\iT c S' r (Rs.x (x.step p ds))/\jH S S' r):=by
 have sm:=ok.sm p (by rw[hd];simp);have o:=FJ R;have ed:x.x.deeds=fQ p::ds.map fQ:=by simp[Rs.x,hd]
 rw[ed] at o;have d:=R.d;rw[ed] at d;have R1:iT c (S.set (r+1) (.lst (ds.map fQ))) r (Rs.x { x with deeds:=ds }):=R.yI (ds.map fQ);have k1:jH S (S.set (r+1) (.lst (ds.map fQ))) r:=jH.set (by omega) (by omega);have zI:Rs.ok { x with deeds:=ds }:=⟨ok.kind,ok.rule,λq hq=>ok.sm q (by rw[hd];exact au _ hq),by have:=ok.len;rw[hd] at this;simp at this ⊢;omega⟩;obtain⟨p1,p2⟩:=z12 R1 zI (p:=p) sm;have i0:∀Z,dN (fQ p) (.int 0) Z=.ok (.str p.1) Z:=λZ=>by simp[fQ]
 have i1:∀Z,dN (fQ p) (.int 1) Z=.ok p.2.t Z:=λZ=>by simp[fQ]
 have OP:B8 (.obj (r+1)) [.int 0] S=.ok (fQ p) (S.set (r+1) (.lst (ds.map fQ))):=by simp[B8,gr,d]
 have o:wH c [.obj r] S=.ok (.bl false) S:=o;generalize fQ p=PT at i0 i1 OP d;generalize p.2.t=DT at i1 p1 p2;refine⟨λh=>?_,λh=>?_⟩
 .obtain⟨a,S',e0,e,R',k⟩:=p1 h
  refine⟨a,S',e0,?_,R',k1.trans k⟩;simp[Be,MB,R.ins,CN,o,IT,nS d,OP,R1.ins,Vq,i0,i1,e]
 .obtain⟨S',e,R',k⟩:=p2 h
  refine⟨S',?_,?_,k1.trans k⟩
  .simp[Be,MB,R.ins,CN,o,IT,nS d,OP,R1.ins,Vq,i0,i1,e]
  .have:Rs.step { x with deeds:=ds } p ds=x.step p ds:=rfl
   rw[<- this];exact R'
end DN
namespace DN
open PySem L2 MF
variable {c:Cl}{S:bI}{r:Nat}
noncomputable def rg(k:Str):Dd->Bool
 |.add _=>decide (k = "first")
 |.say _=>decide (k = "first") || decide (k = "round")
 |_=>false
noncomputable def uh(rule:Str):Dd->Option Int
 |.fail a=>if rule = "hand" then aa a else ae
 |_=>ae
noncomputable def eV:List Rd->Rs->Except (Str×Int) Rs
 |[],x=>.ok x
 | p::ds,x=>match uh x.rule p.2 with
   |some a=>.error (p.1,a)
   |none=>if rg x.kind p.2 then .ok (x.step p ds) else eV ds (x.step p ds)
theorem CP{x:Rs}(p:Rd)(ds:List Rd):(x.step p ds).kind=x.kind/\(x.step p ds).rule=x.rule/\(x.step p ds).brk=x.brk/\(x.step p ds).deeds=(if rg x.kind p.2 then[] else ds):=by
 obtain⟨nm,d⟩:=p;by_cases h1:x.kind = "all"
 .cases d<;>simp[Rs.step,rg,h1]
 .by_cases h2:x.kind = "round"
  .cases d<;>simp[Rs.step,rg,h2]
  .by_cases h3:x.kind = "first"
   .cases d<;>simp[Rs.step,rg,h3]
   .cases d<;>simp[Rs.step,rg,h1,h2,h3]
theorem VA{x:Rs}(p:Rd)(ds:List Rd):(x.step p ds).held.length<=x.held.length+1/\(x.step p ds).prs.length<=x.prs.length+1/\(x.step p ds).ard.length<=x.ard.length+1:=by
 obtain⟨nm,d⟩:=p;by_cases h1:x.kind = "all"
 .cases d<;>simp[Rs.step,h1]
 .by_cases h2:x.kind = "round"
  .cases d<;>simp[Rs.step,h2]
  .by_cases h3:x.kind = "first"
   .cases d<;>simp[Rs.step,h3]
   .cases d<;>simp[Rs.step,h1,h2,h3]
theorem z8g{x:Rs}(ok:x.ok){p:Rd}{ds:List Rd}(hd:x.deeds=p::ds):(x.step p ds).ok:=by
 obtain⟨e1,e2,_,e4⟩:=CP (x:=x) p ds;obtain⟨l1,l2,l3⟩:=VA (x:=x) p ds;have l:=ok.len;rw[hd] at l;have dl:(x.step p ds).deeds.length<=ds.length:=by rw[e4];split<;>simp
 refine⟨by rw[e1];exact ok.kind,by rw[e2];exact ok.rule,λq hq=>?_,by simp at l;omega⟩;rw[e4] at hq
 split at hq
 .cases hq
 .exact ok.sm q (by rw[hd];exact au _ hq)
theorem VB{rule:Str}{d:Dd}:(∃a,d=.fail a/\rule = "hand")↔∃a,uh rule d=aa a:=by
 cases d<;>simp[uh]
theorem VC:∀(ds:List Rd) (x:Rs) (n:Nat) {S:bI},iT c S r x.x->x.ok->x.brk=false->x.deeds=ds->ds.length<n ->
  ∃ S',jH S S' r/\match eV ds x with
    |.ok y=>jZ (xN c) (zw c) n [aa (.obj r)] S=.ok (.nx [aa (.obj r)]) S'/\iT c S' r y.x/\y.deeds=[]/\y.brk=false
    |.error (nm,a)=>jZ (xN c) (zw c) n [aa (.obj r)] S=.exc c.deedFault (aa [("piece",.str nm),("code",.int a)]) S'
 | [],x,n,S,R,ok,hb,hd,hn=>by
   obtain⟨n,rfl⟩:∃m,n=m+1:=⟨n-1,by omega⟩;have o:=FJ R;have e:x.x.deeds.isEmpty=true:=by simp[Rs.x,hd]
   rw[e] at o;refine⟨S,jH.refl S r,?_,R,hd,hb⟩;exact U' (by simp[xN,R.ins,CN,o])
 | p :: ds,x,n,S,R,ok,hb,hd,hn=>by
   obtain⟨n,rfl⟩:∃m,n=m+1:=⟨n-1,by omega⟩;have o:=FJ R;have e:x.x.deeds.isEmpty=false:=by simp[Rs.x,hd]
   rw[e] at o;have w0:xN c [aa (.obj r)] S=.ok true S:=by simp[xN,R.ins,CN,o]
   obtain⟨s1,s2⟩:=Zb2 R ok hd;unfold eV;cases hf:uh x.rule p.2 with
   | some a=>
     obtain⟨a',S',e0,e,-,k⟩:=s1 (VB.mpr ⟨a,hf⟩);have:a'=a:=by
      rw[e0] at hf;have:=(by simpa[uh] using hf:x.rule = "hand" /\ a'=a);exact this.2
     subst this;exact⟨S',k,z77 w0 (by simp[zw,R.ins,Vp,e])⟩
   | none=>
     obtain⟨S1,e,R1,k⟩:=s2 (λh=>by obtain⟨a,ha⟩:=VB.mp h;rw[hf] at ha;cases ha);have b0:zw c [aa (.obj r)] S=.ok (.nx [aa (.obj r)]) S1:=by simp[zw,R.ins,Vp,e]
     obtain⟨e1,e2,e3,e4⟩:=CP (x:=x) p ds;have zI:=z8g ok hd;rw[Zbw w0 b0];have VD:=e3.trans hb;simp only;by_cases hs:rg x.kind p.2=true
     .rw[if_pos hs] at e4 ⊢
      obtain⟨n,rfl⟩:∃m,n=m+1:=⟨n-1,by simp at hn;omega⟩;have o:=FJ R1;have e:(x.step p ds).x.deeds.isEmpty=true:=by simp[Rs.x,e4]
      rw[e] at o;refine⟨S1,k,?_,R1,e4,VD⟩;exact U' (by simp[xN,R1.ins,CN,o])
     .rw[if_neg hs] at e4 ⊢
      obtain⟨S',k2,ih⟩:=VC ds (x.step p ds) n R1 zI VD e4 (by simp at hn;omega);exact⟨S',k.trans k2,ih⟩
noncomputable def wN(n:Int)(ard:List Int):Int:=ard.foldr (λo b=>b*10+o) n
theorem Zb3(n:Int)(ard:List Int){t:T}(hl:ard.length<=1000)(ht:cW S t=aa (ard.map .int)):ET c [.int n,t] S=.ok (.int (wN n ard)) S:=by
 have run:∀(l:List Int) (b:Int) {x3:Option T},∃yB,fU (λS'=>cW S' t=aa (ard.map T.int)) (eE 3) (HM c) (l.map .int) [aa (.int n),aa t,aa (.int b),x3] S=.ok (.nx [aa (.int n),aa t,aa (.int (l.foldl (λb o=>b*10+o) b)),yB]) S:=λl=>by
  induction l with
  |nil=>exact λb x3=>⟨x3,by simp[fU,ht]⟩
  | cons o l ih=>
    intro b x3;obtain⟨yB,e⟩:=ih (b*10+o) (x3:=aa (.int o));refine⟨yB,?_⟩;have hb:HM c [aa (.int n),aa t,aa (.int b),aa (.int o)] S=.ok (.nx [aa (.int n),aa t,aa (.int (b*10+o)),aa (.int o)]) S:=by simp[HM]
    simp only[aC,fU,ht,if_true,eE,uR,mn,fJ,hb];exact e
 obtain⟨x3,e⟩:=run ard.reverse n (x3:=ae);have rZ:xD (aV (ah 1) aK) [aa (.int n),aa t,aa (.int n),ae] S=.ok (ard.reverse.map .int,λS'=>cW S' t=aa (ard.map T.int)) S:=by simp[ht]
 have ef:ard.reverse.foldl (λb o=>b*10+o) n=wN n ard:=by rw[List.foldl_reverse];rfl
 rw[ef] at e;have e:=(Vw rZ).trans e;unfold ET;refine zH (ρ:=[aa (.int n),aa t,ae,ae]) rfl ?_;unfold Tw;rw[mQ (q_ (t:=.int n) (S1:=S) (by simp))];exact(mQ e).trans (by simp)
noncomputable def Rs.zJ(y:Rs):T:=if y.kind = "all" then .lst (y.prs.map rf) else if y.kind = "first" then y.fnd else if y.kind = "chain" then .int y.num else .int (wN y.num y.ard)
theorem z4d{y:Rs}(R:iT c S r y.x)(hk:y.kind = "all" \/ y.kind = "first" \/ y.kind = "chain" \/ y.kind = "round")(hd:y.deeds=[])(hb:y.brk=false)(hl:y.ard.length<=1000):EU c [.obj r] S=.ok y.zJ S:=by
 have o:=FJ R;have e:y.x.deeds.isEmpty=true:=by simp[Rs.x,hd]
 rw[e] at o;have ek:y.x.kind=y.kind:=rfl;have eb:y.x.brk=y.brk:=rfl;have en:y.x.num=.int y.num:=rfl;have ef:y.x.fnd=y.fnd:=rfl;have gl:vB (.obj (r+3)) S=.ok (.lst (y.prs.map rf)) S:=by
  have:=FA (nC R.p);simp[vB,tT,this,Rs.x]
 have bk:=Zb3 (c:=c) (S:=S) y.num y.ard (t:=.obj (r+4)) hl (nC R.a);unfold Rs.zJ;rcases hk with h | h | h | h<;>simp[EU,Tz,R.ins,lkB,eb,hb,CN,o,Bv,ek,h,Vx,gl,lkF,ef,FH,en,Vy,bk]
theorem z4e{y:Rs}(R:iT c S r y.x):ES c [.obj r] S=.ok (.lst (y.held.map iw)) S:=by
 have gl:vB (.obj (r+2)) S=.ok (.lst (y.held.map iw)) S:=by
  have:=FA (nC R.h);simp[vB,tT,this,Rs.x]
 simp[ES,Tv,R.ins,Vo,gl]
theorem OQ:∀(ds:List Rd) (x:Rs) {y:Rs},eV ds x=.ok y->y.kind=x.kind/\y.ard.length<=x.ard.length+ds.length
 |[],x,y,e=>by cases e;exact⟨rfl,by simp⟩
 | p :: ds,x,y,e=>by
   unfold eV at e;obtain⟨e1,_⟩:=CP (x:=x) p ds;obtain⟨_,_,l3⟩:=VA (x:=x) p ds;cases hf:uh x.rule p.2 with
   |some a=>simp[hf] at e
   | none=>
     simp only[hf] at e
     split at e
     .cases e;exact⟨e1,by simp;omega⟩
     .obtain⟨h1,h2⟩:=OQ ds _ e
      exact⟨h1.trans e1,by simp;omega⟩
theorem z4f{x:Rn}:(x.fs r).lookup (ao "faults")=ae:=by simp[Rn.fs,aI]
theorem z4g{x:Rs}(R:iT c S r x.x)(ok:x.ok)(hb:x.brk=false) :
  ∃ S',jH S S' r/\match eV x.deeds x with
    |.ok y=>vM c [.obj r] S=.ok (.tup [y.zJ,.lst (y.held.map iw)]) S'
    |.error (nm,a)=>vM c [.obj r] S=.exc c.deedFault (aa [("piece",.str nm),("code",.int a)]) S':=by
 have l:=ok.len;obtain⟨S',k,h⟩:=VC (c:=c) x.deeds x 1000 R ok hb rfl (by omega);refine⟨S',k,?_⟩;cases e:eV x.deeds x with
 | error q=>
   obtain⟨nm,a⟩:=q;rw[e] at h;have W:uy (xN c) (zw c) [aa (.obj r)] S=.exc c.deedFault (aa [("piece",.str nm),("code",.int a)]) S':=h;simp[vM,MC,W]
 | ok y=>
   rw[e] at h;obtain⟨h1,R',hd,hb'⟩:=h;have W:uy (xN c) (zw c) [aa (.obj r)] S=.ok (.nx [aa (.obj r)]) S':=h1;have ky:=OQ x.deeds x e;have fa:=z4d R' (by rw[ky.1];exact ok.kind) hd hb' (by omega);have ff:=z4e R';show vM c [.obj r] S=.ok (.tup [y.zJ,.lst (y.held.map iw)]) S';generalize y.zJ=A at fa ⊢;simp[vM,MC,W,R'.ins,Zdv,z4f,fa,ff]
end DN
namespace DN
open PySem L2 MF
variable {c:Cl}{S:bI}{r:Nat}
noncomputable def fR(k:Str):List Rd->List (Str×Int)
 |[]=>[]
 |(nm,.fail a)::ds=>(nm,a)::fR k ds
 |(_,.add _)::ds=>if k = "first" then[] else fR k ds
 |(_,.say _)::ds=>if k = "first" \/ k = "round" then[] else fR k ds
 |(_,.bH)::ds=>fR k ds
noncomputable def m6(n:Int):List Rd->List (Str×T)
 |[]=>[]
 |(_,.fail _)::ds=>m6 n ds
 |(nm,.add a)::ds=>(nm,.int (n+a))::m6 n ds
 |(nm,.say a)::ds=>(nm,.int a)::m6 n ds
 |(nm,.bH)::ds=>(nm,.bH)::m6 n ds
noncomputable def gL(n:Int):List Rd->T
 |[]=>.bH
 |(_,.add a)::_=>.int (n+a)
 |(_,.say a)::_=>.int a
 |_::ds=>gL n ds
noncomputable def jf:List Rd->Int->Int
 |[],n=>n
 |(_,.add a)::ds,n=>jf ds (n+a)
 |(_,.say a)::ds,_=>jf ds a
 |_::ds,n=>jf ds n
noncomputable def jI:List Rd->Int->Int
 |[],n=>n
 |(_,.say a)::_,_=>a
 |(_,.add a)::ds,n=>10*jI ds (n+a)+a
 |_::ds,n=>jI ds n
noncomputable def iy(k:Str)(ds:List Rd)(n:Int):T:=if k = "all" then .lst ((m6 n ds).map rf) else if k = "first" then gL n ds else if k = "chain" then .int (jf ds n) else .int (jI ds n)
theorem z13(n:Int)(ard:List Int)(a:Int):wN n (ard++[a])=wN (n*10+a) ard:=by simp[wN]
theorem OR:∀(ds:List Rd) (x:Rs) {q:Str×Int},eV ds x=.error q->x.rule = "hand" /\ ∃t,fR x.kind ds=q::t
 |[],x,q,e=>by cases e
 | (nm,d)::ds,x,q,e=>by
   unfold eV at e;obtain⟨e1,e2,_⟩:=CP (x:=x) (nm,d) ds;cases d with
   | fail a=>
     by_cases h:x.rule = "hand"
     .simp[uh,h] at e
      exact⟨h,_,by rw[fR,e]⟩
     .simp[uh,h,rg] at e
      have:=(OR ds _ e).1;rw[e2] at this;exact absurd this h
   | _=>
     simp only[uh] at e
     split at e
     .cases e
     .rename_i hs
      obtain⟨h1,t,h2⟩:=OR ds _ e;rw[e1] at h2;rw[e2] at h1;refine⟨h1,t,?_⟩;simp[rg] at hs;simp[fR,hs,h2]
theorem z14{x:Rs}{nm:Str}{d:Dd}{ds:List Rd}(hd:∀a,d≠.fail a):(x.step (nm,d) ds).held=x.held:=by
 by_cases h1:x.kind = "all"
 .cases d<;>simp_all [Rs.step]
 .by_cases h2:x.kind = "round"
  .cases d<;>simp_all [Rs.step]
  .by_cases h3:x.kind = "first" <;> cases d<;>simp_all [Rs.step]
theorem OS:∀(ds:List Rd) (x:Rs) {y:Rs},eV ds x=.ok y->y.held=x.held++fR x.kind ds/\(x.rule = "hand" -> fR x.kind ds=[])
 |[],x,y,e=>by cases e;simp[fR]
 | (nm,d)::ds,x,y,e=>by
   unfold eV at e;obtain⟨e1,e2,_⟩:=CP (x:=x) (nm,d) ds;have hh:=λhd=>z14 (x:=x) (nm:=nm) (d:=d) (ds:=ds) hd;cases d with
   | fail a=>
     by_cases h:x.rule = "hand"
     .simp[uh,h] at e
     .simp[uh,h,rg] at e
      obtain⟨h1,h2⟩:=OS ds _ e;rw[e1] at h1;exact⟨by rw[h1];simp[Rs.step,fR],λq=>absurd q h⟩
   | _=>
     have hh:=hh (λa e=>by cases e);simp only[uh] at e
     split at e
     .rename_i hs
      cases e;simp[rg] at hs<;>simp[fR,hs,hh]
     .rename_i hs
      obtain⟨h1,h2⟩:=OS ds _ e;rw[e1] at h1 h2;rw[e2] at h2;simp[rg] at hs;simp[fR,hs,h1,hh];exact h2
theorem VE:∀(ds:List Rd) (x:Rs) {y:Rs},eV ds x=.ok y ->
  (x.kind = "all" -> y.prs=x.prs++m6 x.num ds)/\(x.kind = "first" -> x.fnd=.bH->y.fnd=gL x.num ds)/\(x.kind = "chain" -> y.num=jf ds x.num)/\(x.kind = "round" -> wN y.num y.ard=wN (jI ds x.num) x.ard)
 |[],x,y,e=>by cases e;simp[m6,gL,jf,jI]
 | (nm, d)::ds,x,y,e=>by
   unfold eV at e;obtain⟨e1,e2,_⟩:=CP (x:=x) (nm,d) ds;cases hf:uh x.rule d with
   |some a=>simp[hf] at e
   | none=>
     simp only[hf] at e;by_cases hs:rg x.kind d=true
     .rw[if_pos hs] at e
      cases e;cases d<;>simp[rg] at hs<;>refine⟨λh=>?_,λh h'=>?_,λh=>?_,λh=>?_⟩<;>simp[h] at hs<;>simp[Rs.step,h,gL,jI,wN]
     .rw[if_neg hs] at e
      obtain⟨i1,i2,i3,i4⟩:=VE ds _ e;rw[e1] at i1 i2 i3 i4;refine⟨λh=>?_,λh h'=>?_,λh=>?_,λh=>?_⟩
      .rw[i1 h]
       cases d<;>simp[Rs.step,h,m6,Dd.ig]
      .cases d<;>simp[rg,h] at hs
       all_goals
        rw[i2 h (by simp[Rs.step,h,h'])];simp[Rs.step,h,gL]
      .rw[i3 h]
       cases d<;>simp[Rs.step,h,jf]
      .rw[i4 h]
       cases d<;>simp[rg,h] at hs
       all_goals simp[Rs.step,h,jI,z13,Int.mul_comm]
theorem z16{k ru:Str}{n:Int}{ds:List Rd}(R:iT c S r (Rs.x ⟨k,ru,n,ds,[],false,[],.bH,[]⟩))(hk:k = "all" \/ k = "first" \/ k = "chain" \/ k = "round")(hr:ru = "hold" \/ ru = "hand")(sm:∀p∈ds,Sm p.1)(hl:ds.length<=100) :
  ∃ S',jH S S' r/\((ru = "hand" /\ ∃q t,fR k ds=q::t/\vM c [.obj r] S=.exc c.deedFault (aa [("piece",.str q.1),("code",.int q.2)]) S') \/
    ((ru = "hand" -> fR k ds=[])/\vM c [.obj r] S=.ok (.tup [iy k ds n,.lst ((fR k ds).map iw)]) S')):=by
 obtain⟨S',kp,h⟩:=z4g R ⟨hk,hr,sm,by simp;omega⟩ rfl;refine⟨S',kp,?_⟩;cases e:eV ds ⟨k,ru,n,ds,[],false,[],.bH,[]⟩ with
 | error q=>
   rw[e] at h;obtain⟨h1,t,h2⟩:=OR _ _ e;exact .inl ⟨h1,q,t,h2,h⟩
 | ok y=>
   rw[e] at h;obtain⟨h1,h2⟩:=OS _ _ e;obtain⟨i1,i2,i3,i4⟩:=VE _ _ e;have ek:=(OQ _ _ e).1;have ea:y.zJ=iy k ds n:=by
    unfold Rs.zJ iy;rw[ek];show(if k = "all" then _ else _)=_;rcases hk with q | q | q | q
    .have:=i1 q;simp at this;simp[q,this]
    .have:=i2 q rfl;simp at this;simp[q,this]
    .have:=i3 q;simp at this;simp[q,this]
    .have:=i4 q
     have:wN y.num y.ard=jI ds n:=by rw[this];rfl
     simp[q,this]
   have h:vM c [.obj r] S=.ok (.tup [y.zJ,.lst (y.held.map iw)]) S':=h;rw[ea,h1] at h;exact .inr ⟨h2,h⟩
end DN
namespace DN
open PySem L2 MF
variable {c:Cl}{S:bI}
noncomputable def Dd.d:Dd->gq
 |.add a=>.tuple [.str "add",.int a]
 |.say a=>.tuple [.str "say",.int a]
 |.bH=>.tuple [.str "none"]
 |.fail a=>.tuple [.str "fail",.int a]
noncomputable def Bw(p:Rd):gq:=.tuple [.str p.1,p.2.d]
theorem VF:∀(ds:List Rd),md (ds.map fQ)=aa (ds.map Bw)
 |[]=>by simp[md]
 | (nm,d)::ds=>by
   have:=VF ds;cases d<;>simp[md,pd,fQ,Dd.t,this,Bw,Dd.d]
theorem Zb4:d_ (ao "add")=true/\d_ (ao "say")=true/\d_ (ao "none")=true/\d_ (ao "fail")=true:=by decide +kernel
theorem VG:∀{ds:List Rd},(∀p∈ds,iY p.1)->be (ds.map Bw)=true
 |[],_=>by simp[be]
 | (nm,d)::ds,h=>by
   have h1:=h (nm,d) (aA ..);unfold iY at h1;have ih:=VG λq hq=>h q (au _ hq);obtain⟨t1,t2,t3,t4⟩:=Zb4;cases d<;>simp[be,bM,Bw,Dd.d,h1,ih,t1,t2,t3,t4]
theorem VH:∀(ds:List Rd),bw (ds.map Bw)<=2
 |[]=>by simp[bw]
 | (nm,d)::ds=>by
   have:=VH ds;cases d<;>simp[bw,cR,Bw,Dd.d] at this ⊢<;>omega
theorem VI{t:T}{ts:List T}{ds:List gq}(h:cW S t=aa ts)(e:md ts=aa ds):nA S t=aa (.list ds):=by
 cases t with
 |lst us=>cases h;simp[nA,pd,e]
 | obj k=>
   unfold cW at h;cases q:S[k]? with
   |none=>simp[q] at h
   | some v=>
     cases v with
     |lst us=>simp[q] at h;subst h;simp[nA,q,e]
     |_=>simp[q] at h
 |_=>cases h
theorem VJ{t:T}{ts:List T}(h:cW S t=aa ts):toV t=ae:=by
 cases t with
 |lst us=>rfl
 |obj k=>rfl
 |_=>cases h
theorem VL{t:T}{ds:List Rd}(h:cW S t=aa (ds.map fQ))(ok:∀p∈ds,iY p.1):gG t (.lst []) S=.ok (.bl ds.isEmpty) S:=by
 have:=CG (S:=S) (x:=t) (y:=.lst []) (.inl (VJ h)) (VI h (VF ds)) (b:=.list []) (by simp[nA,pd,md]) (by simp only[bM];exact VG ok) (by simp[bM,be]) (by have:=VH ds;simp[cR];omega);have e:bX (.list (ds.map Bw)) (.list [])=ds.isEmpty:=by
  cases ds<;>simp[bX,eI]
 simp[gG,this,e]
theorem z8h(a:T)(l:List T):rX (a::l) (aa 1) ae=l:=by
 unfold rX;simp[HT.oG]
theorem Zb5{t:T}{k:Nat}{v:cg}(h:t≠.obj k):cW (S.set k v) t=cW S t:=by
 cases t with
 | obj j=>
   have ne:k≠j:=λe=>h (by rw[e]);have:=eR (S:=S) (v:=v) ne;simp[cW,this]
 |_=>rfl
theorem IV:∀(ds:List Rd) (n:Nat) (m:Int) {t:T} {k:Nat} {hl:List T} {S:bI},t≠.obj k->cW S t=aa (ds.map fQ)->(∀p∈ds,iY p.1)->S[k]?=aa (.lst hl)->ds.length<n->hl.length+ds.length<=900 ->
  Cs c n [t,.int m,.obj k] S=.ok (.int (jI ds m)) (S.set k (.lst (hl++(fR "round" ds).map iw)))
 |ds,0,m,t,k,hl,S,_,_,_,_,h,_=>by omega
 | [],n+1,m,t,k,hl,S,ne,ht,ok,hk,_,_=>by
   have e:=VL ht ok;have es:S.set k (.lst (hl++(fR "round" []).map iw))=S:=by
    simp only[fR,f_,dj];apply ji;intro j;by_cases h:j=k
    .subst h;rw[m4 hk,hk]
    .rw[eR (bP h)]
   rw[es];show cF 4 (xP (Cs c n) c) [t,.int m,.obj k] S=_;have e:gG t (.lst []) S=.ok (.bl true) S:=e;simp[xP,e,jI]
 | (nm,d)::ds,n+1,m,t,k,hl,S,ne,ht,ok,hk,hn,hb=>by
   have e:gG t (.lst []) S=.ok (.bl false) S:=VL ht ok;have i0:∀Z,cW Z t=aa (((nm,d)::ds).map fQ)->dN t (.int 0) Z=.ok (fQ (nm,d)) Z:=λZ h=>by
    have:=FA h;simp[dN,this]
   have zK:=i0 S ht;have r0:∀Z,dN (fQ (nm,d)) (.int 0) Z=.ok (.str nm) Z:=λZ=>by simp[fQ]
   have r1:∀Z,dN (fQ (nm,d)) (.int 1) Z=.ok d.t Z:=λZ=>by simp[fQ]
   have cut:rX (((nm,d)::ds).map fQ) (aa 1) ae=ds.map fQ:=by
    have:=z8h (fQ (nm,d)) (ds.map fQ);simpa using this
   have OT:∀p∈ds,iY p.1:=λp hp=>ok p (au _ hp);have wA:ds.length<n:=by simp at hn;omega
   show cF 4 (xP (Cs c n) c) [t,.int m,.obj k] S=_;cases d with
   | say a=>
     have es:S.set k (.lst (hl++(fR "round" ((nm,.say a)::ds)).map iw))=S:=by
      simp[fR];apply ji;intro j;by_cases h:j=k
      .subst h;rw[m4 hk,hk]
      .rw[eR (bP h)]
     rw[es];generalize fQ (nm,Dd.say a)=RT at zK r0 r1;simp[xP,e,zK,r1,Dd.t,jI]
   | add a=>
     have ih:=IV ds n (m+a) (t:=.lst (ds.map fQ)) (k:=k) (hl:=hl) (S:=S) (by simp) rfl OT hk wA (by simp at hb;omega);have eh:fR "round" ((nm,.add a)::ds)=fR "round" ds:=by simp[fR]
     rw[eh];have ml:(-(2 ^ 64)<(10:Int)/\(10:Int)<2 ^ 64)\/(-(2 ^ 64)<jI ds (m+a)/\jI ds (m+a)<2 ^ 64):=.inl (by decide);generalize S.set k (.lst (hl++(fR "round" ds).map iw))=S2 at ih ⊢;have sl:uB (ah 0) (uA (eC (.int 1))) uz [aa t,aa (.int m),aa (.obj k),aa (Dd.add a).t] S=.ok (.lst (ds.map fQ)) S:=by
      simp only[uB,uz,uA,fJ,xE,bT,Hm,LO,ht,cut]
     generalize ds.map fQ=DL at ih sl;generalize fQ (nm,Dd.add a)=RT at zK r0 r1;simp only[Dd.t] at sl r1;simp[xP,e,zK,r1,sl,ih,jI]
   | bH=>
     have ih:=IV ds n m (t:=.lst (ds.map fQ)) (k:=k) (hl:=hl) (S:=S) (by simp) rfl OT hk wA (by simp at hb;omega);have eh:fR "round" ((nm,.bH)::ds)=fR "round" ds:=by simp[fR]
     rw[eh];generalize S.set k (.lst (hl++(fR "round" ds).map iw))=S2 at ih ⊢;have sl:uB (ah 0) (uA (eC (.int 1))) uz [aa t,aa (.int m),aa (.obj k),aa Dd.bH.t] S=.ok (.lst (ds.map fQ)) S:=by
      simp only[uB,uz,uA,fJ,xE,bT,Hm,LO,ht,cut]
     generalize ds.map fQ=DL at ih sl;generalize fQ (nm,Dd.bH)=RT at zK r0 r1;simp only[Dd.t] at sl r1;simp[xP,e,zK,r1,sl,ih,jI]
   | fail a=>
     have ap:=vF (y:=iw (nm,a)) hk (by omega);have ih:=IV ds n m (t:=.lst (ds.map fQ)) (k:=k) (hl:=hl++[iw (nm,a)]) (S:=S.set k (.lst (hl++[iw (nm,a)]))) (by simp) rfl OT (m4 hk) wA (by simp at hb ⊢;omega);have eh:fR "round" ((nm,.fail a)::ds)=(nm,a)::fR "round" ds:=by simp[fR]
     rw[mT,bJ] at ih;rw[eh,aC];have ht1:cW (S.set k (.lst (hl++[iw (nm,a)]))) t=aa (((nm,.fail a)::ds).map fQ):=(Zb5 ne).trans ht;have sl:uB (ah 0) (uA (eC (.int 1))) uz [aa t,aa (.int m),aa (.obj k),aa (Dd.fail a).t] (S.set k (.lst (hl++[iw (nm,a)])))=.ok (.lst (ds.map fQ)) (S.set k (.lst (hl++[iw (nm,a)]))):=by
      simp only[uB,uz,uA,fJ,xE,bT,Hm,LO,ht1,cut]
     have okk:=nS hk;simp only[iw] at ap sl ih ⊢;generalize S.set k (.lst (hl++[T.tup [.str nm,.int a]]))=S1 at ap sl ih;simp only[List.singleton_append] at ih;generalize S.set k (.lst (hl++(T.tup [.str nm,.int a]::(fR "round" ds).map λp=>.tup [.str p.1,.int p.2])))=S2 at ih ⊢;generalize ds.map fQ=DL at ih sl;generalize fQ (nm,Dd.fail a)=RT at zK r0 r1;simp only[Dd.t] at sl r1;simp[xP,e,zK,r0,r1,okk,ap,sl,ih,jI]
end DN
namespace DN
open PySem L2 MF
variable {c:Cl}{S:bI}{t:T}{kh kt:Nat}
noncomputable def gw(k:Str)(t:T)(m:Int)(kh kt:Nat)(a b d:Option T):Ev:=[aa (.str k),aa t,aa (.int m),aa (.obj kh),aa (.obj kt),a,b,d]
theorem z4h{k:Str}{m a:Int}{nm:Str}{x7:Option T}{hl:List T}(hk:S[kh]?=aa (.lst hl))(h9:hl.length<900) :
  qk c (gw k t m kh kt (aa (.str nm)) (aa (Dd.fail a).t) x7) S=.ok (.nx (gw k t m kh kt (aa (.str nm)) (aa (Dd.fail a).t) (aa .bH))) (S.set kh (.lst (hl++[iw (nm,a)]))):=by
 have sa:=CO (c:=c) (S:=S) (.fail a) m;have ap:=vF (y:=iw (nm,a)) hk (by omega);simp only[Dd.t,Dd.ig,iw] at sa ap ⊢;simp[qk,gw,sa,nS hk,ap]
theorem z8i{m:Int}{nm:Str}{d:Dd}{x7:Option T}{tl:List T}(hd:∀a,d≠.fail a)(hk:S[kt]?=aa (.lst tl))(h9:tl.length<900) :
  qk c (gw "all" t m kh kt (aa (.str nm)) (aa d.t) x7) S=.ok (.nx (gw "all" t m kh kt (aa (.str nm)) (aa d.t) (aa (d.ig m)))) (S.set kt (.lst (tl++[rf (nm,d.ig m)]))):=by
 have sa:=CO (c:=c) (S:=S) d m;have ap:=vF (y:=rf (nm,d.ig m)) hk (by omega);cases d with
 |fail a=>exact absurd rfl (hd a)
 | _=>
   simp only[Dd.t,Dd.ig,rf] at sa ap ⊢;simp[qk,gw,sa,nS hk,ap]
theorem z4i{k:Str}{m:Int}{nm:Str}{d:Dd}{x7:Option T}(hk:k = "first" \/ k = "chain")(hd:∀a,d≠.fail a) :
  qk c (gw k t m kh kt (aa (.str nm)) (aa d.t) x7) S=(match d with
   |.add a=>if k = "first" then .ok (.rt (.int (m+a))) S else .ok (.nx (gw k t (m+a) kh kt (aa (.str nm)) (aa d.t) (aa (.int (m+a))))) S
   |.say a=>if k = "first" then .ok (.rt (.int a)) S else .ok (.nx (gw k t a kh kt (aa (.str nm)) (aa d.t) (aa (.int a)))) S
   |_=>.ok (.nx (gw k t m kh kt (aa (.str nm)) (aa d.t) (aa .bH))) S):=by
 have sa:=CO (c:=c) (S:=S) d m;cases d with
 |fail a=>exact absurd rfl (hd a)
 | _=>
   simp only[Dd.t,Dd.ig] at sa ⊢;rcases hk with rfl | rfl<;>simp[qk,gw,sa,zk,pC]
structure CQ(S S':bI)(kh kt:Nat)(hs ts:List T):Prop where
 len:S'.length=S.length
 h:S'[kh]?=aa (.lst hs)
 t:S'[kt]?=aa (.lst ts)
 same:∀j,j≠kh->j≠kt->S'[j]?=S[j]?
theorem IW {k:Str} (hk:k = "all" \/ k = "first" \/ k = "chain") (ne:kh≠kt) {st:bI->Prop} (fm:∀S',(∀j,j≠kh->j≠kt->S'[j]?=S[j]?)->st S') :
  ∀ (ds:List Rd) (m:Int) {hl tl:List T} {a b d:Option T} {S1:bI},CQ S S1 kh kt hl tl->hl.length+ds.length<=900->tl.length+ds.length<=900 ->
    ∃ S' a' b' d',CQ S S' kh kt (hl++(fR k ds).map iw) (if k = "all" then tl++(m6 m ds).map rf else tl) /\
      fU st (sP 5 6) (qk c) (ds.map fQ) (gw k t m kh kt a b d) S1=(if k = "first" /\ pC (gL m ds)=false then .ok (.rt (gL m ds)) S' else .ok (.nx (gw k t (if k = "chain" then jf ds m else m) kh kt a' b' d')) S')
 | [],m,hl,tl,a,b,d,S1,A,_,_=>by
   refine⟨S1,a,b,d,?_,?_⟩
   .simpa[fR,m6] using A
   .simp[fU,fm S1 A.same,gL,jf,pC]
 | (nm, dd)::ds,m,hl,tl,a,b,d,S1,A,h1,h2=>by
   have un:∀{ρ':Ev} {S2:bI},qk c (gw k t m kh kt (aa (.str nm)) (aa dd.t) d) S1=.ok (.nx ρ') S2->fU st (sP 5 6) (qk c) (((nm,dd)::ds).map fQ) (gw k t m kh kt a b d) S1=fU st (sP 5 6) (qk c) (ds.map fQ) ρ' S2:=λ{ρ' S2} e=>by
    simp only[aC,fU,fm S1 A.same,if_true,fQ,sP];show(M.bind (qk c (gw k t m kh kt (aa (.str nm)) (aa dd.t) d)) _) S1=_;rw[fJ,e]
   have lh:hl.length<900:=by simp at h1;omega
   have lt:tl.length<900:=by simp at h2;omega
   by_cases hf:∃x,dd=.fail x
   .obtain⟨x,rfl⟩:=hf
    have A1:CQ S (S1.set kh (.lst (hl++[iw (nm,x)]))) kh kt (hl++[iw (nm,x)]) tl:=⟨by simp[A.len],m4 A.h,by rw[eR ne];exact A.t,λj q1 q2=>by rw[eR (bP q1)];exact A.same j q1 q2⟩;obtain⟨S',a',b',d',A',e'⟩:=IW hk ne fm ds m (a:=aa (.str nm)) (b:=aa (Dd.fail x).t) (d:=aa .bH) A1 (by simp at h1 ⊢;omega) (by simp at h2;omega);refine⟨S',a',b',d',?_,?_⟩
    .simpa[fR,m6] using A'
    .have ef:gL m ((nm,.fail x)::ds)=gL m ds:=by simp[gL]
     have ec:jf ((nm,.fail x)::ds) m=jf ds m:=by simp[jf]
     rw[un (z4h A.h lh),e',ef,ec]
   .have nf:∀x,dd≠.fail x:=λx e=>hf ⟨x,e⟩
    rcases hk with rfl | hk
    .have A1:CQ S (S1.set kt (.lst (tl++[rf (nm,dd.ig m)]))) kh kt hl (tl++[rf (nm,dd.ig m)]):=⟨by simp[A.len],by rw[eR (bP ne)];exact A.h,m4 A.t,λj q1 q2=>by rw[eR (bP q2)];exact A.same j q1 q2⟩
     obtain⟨S',a',b',d',A',e'⟩:=IW (.inl rfl) ne fm ds m (a:=aa (.str nm)) (b:=aa dd.t) (d:=aa (dd.ig m)) A1 (by simp at h1;omega) (by simp at h2 ⊢;omega);refine⟨S',a',b',d',?_,?_⟩
     .cases dd with
      |fail x=>exact absurd rfl (nf x)
      |_=>simpa[fR,m6,Dd.ig] using A'
     .rw[un (z8i nf A.t lt),e']
      simp
    .have ar:=z4i (c:=c) (S:=S1) (t:=t) (kh:=kh) (kt:=kt) (nm:=nm) (m:=m) (x7:=d) hk nf
     have na:¬k = "all":=by rcases hk with rfl | rfl<;>simp
     have go:∀m' x',qk c (gw k t m kh kt (aa (.str nm)) (aa dd.t) d) S1=.ok (.nx (gw k t m' kh kt (aa (.str nm)) (aa dd.t) x')) S1->fR k ((nm,dd)::ds)=fR k ds->(k = "first" -> gL m ((nm,dd)::ds)=gL m' ds)->(k = "chain" -> jf ((nm,dd)::ds) m=jf ds m')->(k ≠ "chain" -> m'=m) ->
      ∃S' a' b' d',CQ S S' kh kt (hl++(fR k ((nm,dd)::ds)).map iw) (if k = "all" then tl++(m6 m ((nm,dd)::ds)).map rf else tl)/\fU st (sP 5 6) (qk c) (((nm,dd)::ds).map fQ) (gw k t m kh kt a b d) S1=(if k = "first" /\ pC (gL m ((nm,dd)::ds))=false then .ok (.rt (gL m ((nm,dd)::ds))) S' else .ok (.nx (gw k t (if k = "chain" then jf ((nm,dd)::ds) m else m) kh kt a' b' d')) S'):=λm' x' e eh ef ec em=>by
      obtain⟨S',a',b',d',A',e'⟩:=IW (.inr hk) ne fm ds m' (a:=aa (.str nm)) (b:=aa dd.t) (d:=x') A (by simp at h1;omega) (by simp at h2;omega);refine⟨S',a',b',d',?_,?_⟩
      .rw[eh,if_neg na];rw[if_neg na] at A';exact A'
      .rw[un e,e']
       rcases hk with rfl | rfl
       .rw[ef rfl];simp[em]
       .rw[ec rfl];simp
     cases dd with
     |fail x=>exact absurd rfl (nf x)
     |bH=>exact go m _ ar (by simp[fR]) (λ_=>by simp[gL]) (λ_=>by simp[jf]) (λ_=>rfl)
     | add x=>
       by_cases q:k = "first"
       .subst q
        refine⟨S1,a,b,d,by simpa[fR] using A,?_⟩;simp only[aC,fU,fm S1 A.same,if_true,fQ,sP];show(M.bind (qk c (gw "first" t m kh kt (aa (.str nm)) (aa (Dd.add x).t) d)) _) S1=_;rw[fJ,ar];simp[gL,pC]
       .have ar:qk c (gw k t m kh kt (aa (.str nm)) (aa (Dd.add x).t) d) S1=(if k = "first" then .ok (.rt (.int (m+x))) S1 else .ok (.nx (gw k t (m+x) kh kt (aa (.str nm)) (aa (Dd.add x).t) (aa (.int (m+x))))) S1):=ar
        rw[if_neg q] at ar;have kc:k = "chain":=hk.resolve_left q;exact go (m+x) _ ar (by simp[fR,q]) (λh=>absurd h q) (λ_=>by simp[jf]) (λh=>absurd kc h)
     | say x=>
       by_cases q:k = "first"
       .subst q
        refine⟨S1,a,b,d,by simpa[fR] using A,?_⟩;simp only[aC,fU,fm S1 A.same,if_true,fQ,sP];show(M.bind (qk c (gw "first" t m kh kt (aa (.str nm)) (aa (Dd.say x).t) d)) _) S1=_;rw[fJ,ar];simp[gL,pC]
       .have ar:qk c (gw k t m kh kt (aa (.str nm)) (aa (Dd.say x).t) d) S1=(if k = "first" then .ok (.rt (.int x)) S1 else .ok (.nx (gw k t x kh kt (aa (.str nm)) (aa (Dd.say x).t) (aa (.int x)))) S1):=ar
        rw[if_neg q] at ar;have kc:k = "chain":=hk.resolve_left q;exact go x _ ar (by simp[fR,kc]) (λh=>absurd h q) (λ_=>by simp[jf]) (λh=>absurd kc h)
end DN
namespace DN
open PySem L2 MF
variable {c:Cl}{S:bI}
theorem Zdw{k:Str}{kt:Nat}{m:Int}{t1 t3 t5 t6 t7:Option T}(hk:k = "all" \/ k = "first" \/ k = "chain") :
  ∃S',e2 i9 (EF (eC (.str "all")) (ah 4) (eC (.str "first")) (eC .bH) (eC (.str "chain")) (ah 2)) (ah 0) [aa (.str k),t1,aa (.int m),t3,aa (.obj kt),t5,t6,t7] S=.ok (if k = "all" then .obj kt else if k = "first" then .bH else .int m) S'/\S.length<=S'.length/\∀j,j<S.length->S'[j]?=S[j]?:=by
 have n1:(dH (ao "all"):bZ)≠.inr (ao "first")/\(dH (ao "all"):bZ)≠.inr (ao "chain")/\(dH (ao "first"):bZ)≠.inr (ao "chain"):=by simp
 have e:EF (eC (.str "all")) (ah 4) (eC (.str "first")) (eC .bH) (eC (.str "chain")) (ah 2) [aa (.str k),t1,aa (.int m),t3,aa (.obj kt),t5,t6,t7] S=.ok (.obj S.length) (S++[.dic [(.inr "all",.obj kt),(.inr "first",.bH),(.inr "chain",.int m)]]):=by
  simp[EF,ft]
 refine⟨S++[.dic [(.inr "all",.obj kt),(.inr "first",.bH),(.inr "chain",.int m)]],?_,by simp,λj hj=>aG hj⟩;rw[vE,fJ,e];rcases hk with rfl | rfl | rfl<;>simp[i9,ow,ft,dR]
structure VM(S:bI)(n:Nat)(k:Str)(ds:List Rd)(m:Int)(a:T):Prop where
 all:k = "all" -> ∃kt,a=.obj kt/\n<=kt/\S[kt]?=aa (.lst ((m6 m ds).map rf))
 els:k ≠ "all" -> a=iy k ds m
theorem z17{k:Str}{ds:List Rd}{m:Int}{t:T}{kh:Nat}(hk:k = "all" \/ k = "first" \/ k = "chain" \/ k = "round")(hv:∀S',(∀j,j<S.length->j≠kh->S'[j]?=S[j]?)->cW S' t=aa (ds.map fQ))(ne:t≠.obj kh)(ok:∀p∈ds,iY p.1)(hh:S[kh]?=aa (.lst []))(hl:ds.length<24) :
  ∃a S',xQ c [.str k,t,.int m,.obj kh] S=.ok a S'/\VM S' S.length k ds m a/\S'[kh]?=aa (.lst ((fR k ds).map iw))/\S.length<=S'.length/\∀j,j<S.length->j≠kh->S'[j]?=S[j]?:=by
 have qh:kh<S.length:=(aB.mp hh).1;have cl:k ≠ "round" -> ∃a S',xQ c [.str k,t,.int m,.obj kh] S=.ok a S'/\VM S' S.length k ds m a/\S'[kh]?=aa (.lst ((fR k ds).map iw))/\S.length<=S'.length/\∀j,j<S.length->j≠kh->S'[j]?=S[j]?:=λhr=>by
  have EG:k = "all" \/ k = "first" \/ k = "chain":=by
   rcases hk with h | h | h | h
   .exact .inl h
   .exact .inr (.inl h)
   .exact .inr (.inr h)
   .exact absurd h hr
  have vk:∀{S':bI},(∀j,j≠kh->j≠S.length->S'[j]?=(S++[cg.lst []])[j]?)->∀j,j<S.length->j≠kh->S'[j]?=S[j]?:=λh j hj hn=>by rw[h j hn (by omega),aG hj]
  have A0:CQ (S++[.lst []]) (S++[.lst []]) kh S.length [] []:=⟨rfl,nD hh,qm,λ_ _ _=>rfl⟩;obtain⟨S1,x5,x6,x7,A,e⟩:=IW (c:=c) (t:=t) (kh:=kh) (kt:=S.length) (S:=S++[.lst []]) EG (by omega) (st:=λS'=>cW S' t=aa (ds.map fQ)) (λS' h=>hv S' (vk h)) ds m (a:=ae) (b:=ae) (d:=ae) A0 (by simp;omega) (by simp;omega);have rZ:iL (ah 1) (gw k t m kh S.length ae ae ae) (S++[.lst []])=.ok (ds.map fQ,λS'=>cW S' t=aa (ds.map fQ)) (S++[.lst []]):=by
   have:=hv (S++[.lst []]) (λj hj _=>aG hj);simp[gw,this]
  have fe:=(Vw rZ).trans e;have i0:gs (eK (e2 gG (ah 0) (eC (.str "round")))) (cq (fw (bx 3 (E8 c)) [] (aV (ah 1) (aV (ah 2) (aV (ah 3) aK))))) gU [aa (.str k),aa t,aa (.int m),aa (.obj kh),ae,ae,ae,ae] S=.ok (.nx [aa (.str k),aa t,aa (.int m),aa (.obj kh),ae,ae,ae,ae]) S:=by simp[hr]
  have i1:cE 4 (eA iR aK) [aa (.str k),aa t,aa (.int m),aa (.obj kh),ae,ae,ae,ae] S=.ok (.nx (gw k t m kh S.length ae ae ae)) (S++[.lst []]):=by simp[gw]
  have l1:S1.length=S.length+1:=by rw[A.len];simp
  have hH:=A.h;rw[bF] at hH;by_cases hq:k = "first" /\ pC (gL m ds)=false
  .rw[if_pos hq] at fe
   refine⟨gL m ds,S1,?_,⟨λq=>?_,λ_=>?_⟩,hH,by omega,vk A.same⟩
   .unfold xQ
    refine zH (ρ:=[aa (.str k),aa t,aa (.int m),aa (.obj kh),ae,ae,ae,ae]) rfl ?_;unfold Ie;rw[mQ i0,mQ i1];exact OJ fe
   .rw[hq.1] at q;simp at q
   .simp[iy,hq.1]
  .rw [if_neg hq] at fe
   obtain⟨S2,e3,l3,k3⟩:=Zdw (S:=S1) (k:=k) (kt:=S.length) (m:=if k = "chain" then jf ds m else m) (t1:=aa t) (t3:=aa (.obj kh)) (t5:=x5) (t6:=x6) (t7:=x7) EG;refine⟨if k = "all" then .obj S.length else if k = "first" then .bH else .int (if k = "chain" then jf ds m else m),S2,?_,⟨λq=>⟨S.length,if_pos q,az _,?_⟩,λq=>?_⟩,?_,by omega,λj hj hn=>by rw[k3 j (by omega)];exact vk A.same j hj hn⟩
   .unfold xQ
    refine zH (ρ:=[aa (.str k),aa t,aa (.int m),aa (.obj kh),ae,ae,ae,ae]) rfl ?_;unfold Ie;rw[mQ i0,mQ i1,mQ fe];exact IU e3
   .rw[k3 _ (by omega),A.t,if_pos q];rfl
   .rw[if_neg q]
    unfold iy;rw[if_neg q];by_cases q1:k = "first"
    .rw[if_pos q1,if_pos q1]
     have:pC (gL m ds)=true:=by
      cases h:pC (gL m ds) with
      |true=>rfl
      |false=>exact absurd ⟨q1,h⟩ hq
     cases h:gL m ds<;>rw[h] at this<;>first | rfl | cases this
    .have q2:k = "chain":=(EG.resolve_left q).resolve_left q1
     rw[if_neg q1,if_neg q1,if_pos q2,if_pos q2]
   .rw[k3 _ (by omega)];exact hH
 by_cases hr:k = "round"
 .subst hr
  have vS:=hv S (λ_ _ _=>rfl);have e:=IV (c:=c) ds 24 m ne vS ok hh hl (by simp;omega);rw[bF] at e;refine⟨.int (jI ds m),_,?_,⟨λq=>by simp at q,λ_=>by simp[iy]⟩,m4 hh,by simp,λj _ hn=>eR (bP hn)⟩;unfold xQ;refine zH (ρ:=[aa (.str "round"),aa t,aa (.int m),aa (.obj kh),ae,ae,ae,ae]) rfl ?_;unfold Ie;have i0:gs (eK (e2 gG (ah 0) (eC (.str "round")))) (cq (fw (bx 3 (E8 c)) [] (aV (ah 1) (aV (ah 2) (aV (ah 3) aK))))) gU [aa (.str "round"),aa t,aa (.int m),aa (.obj kh),ae,ae,ae,ae] S=.ok (.rt (.int (jI ds m))) (S.set kh (.lst ((fR "round" ds).map iw))):=by
   have e:E8 c [t,.int m,.obj kh] S=_:=e;rw[AR,fJ];have:eK (e2 gG (ah 0) (eC (.str "round"))) [aa (.str "round"),aa t,aa (.int m),aa (.obj kh),ae,ae,ae,ae] S=.ok true S:=by simp
   rw[this];exact IU (sX (jw rfl (jw rfl (jw rfl rfl))) rfl e)
  exact OJ i0
 .exact cl hr
end DN
namespace DN
open PySem L2 MF
variable {c:Cl}{S:bI}
theorem VN{S':bI}{n f k:Nat}{us:List T}(hk:n<=k)(hc:S'[k]?=aa (.lst us))(hb:∀t∈us,HB n t):fz S' n (f+1) (.obj k)=aa (.lst us):=by
 unfold fz;rw[if_neg (by simp only[HB];omega)];simp only[hc];rw[LR λt ht=>Cd (hb t ht)];rfl
theorem VO(n:Nat)(l:List (Str×Int)):∀t∈l.map iw,HB n t:=λt ht=>by
 obtain⟨p,_,rfl⟩:=aq.mp ht;exact vG (by simp)
theorem OU(n:Nat)(m:Int):∀(ds:List Rd),∀t∈(m6 m ds).map rf,HB n t
 |[],t,h=>by cases h
 | (nm,d)::ds,t,h=>by
   have ih:=OU n m ds t;cases d with
   |fail a=>exact ih h
   | _=>
     simp only[m6,aC,aF] at h;rcases h with rfl | h
     .exact vG (by simp)
     .exact ih h
theorem VP(n:Nat)(k:Str)(ds:List Rd)(m:Int):HB n (iy k ds m):=by
 unfold iy;have fst:∀ds:List Rd,HB n (gL m ds):=λds=>by
  induction ds with
  |nil=>simp[gL]
  | cons p ds ih=>
    obtain⟨nm,d⟩:=p;cases d<;>simp[gL,ih]
 split
 .exact Hq (OU n m ds)
 .split
  .exact fst ds
  .split<;>simp
noncomputable def uJ(p:Str×Int):gq:=.tuple [.str p.1,.int p.2]
theorem OV:∀(l:List (Str×Int)),md (l.map iw)=aa (l.map uJ)
 |[]=>by simp[md]
 | p::l=>by
   have:=OV l;simp[md,pd,iw,this,uJ]
theorem OW{k:Str}:∀{ds:List Rd} {q:Str×Int},q∈fR k ds->∃p∈ds,p.1=q.1
 |[],q,h=>by cases h
 | (nm,d)::ds,q,h=>by
   have ih:q∈fR k ds->∃p∈(nm,d)::ds,p.1=q.1:=λh=>by
    obtain⟨p,hp,e⟩:=OW h;exact⟨p,au _ hp,e⟩
   cases d with
   | fail a=>
     simp only[fR,aF] at h;rcases h with rfl | h
     .exact⟨_,aA ..,rfl⟩
     .exact ih h
   |bH=>exact ih h
   | _=>
     simp only[fR] at h
     split at h
     .cases h
     .exact ih h
theorem OX:∀{l:List (Str×Int)},(∀p∈l,iY p.1)->be (l.map uJ)=true
 |[],_=>by simp[be]
 | p::l,h=>by
   have h1:=h p (aA ..);unfold iY at h1;have ih:=OX λq hq=>h q (au _ hq);simp[be,bM,uJ,h1,ih]
theorem OY:∀(l:List (Str×Int)),bw (l.map uJ)<=1
 |[]=>by simp[bw]
 | p::l=>by
   have:=OY l;simp[bw,cR,uJ] at this ⊢;omega
theorem Zb8{t:T}{l:List (Str×Int)}(h:cW S t=aa (l.map iw))(ok:∀p∈l,iY p.1):mI t (.lst []) S=.ok (.bl !l.isEmpty) S:=by
 have:=CG (S:=S) (x:=t) (y:=.lst []) (.inl (VJ h)) (VI h (OV l)) (b:=.list []) (by simp[nA,pd,md]) (by simp only[bM];exact OX ok) (by simp[bM,be]) (by have:=OY l;simp[cR];omega);have e:bX (.list (l.map uJ)) (.list [])=l.isEmpty:=by
  cases l<;>simp[bX,eI]
 simp[mI,this,e]
noncomputable def yJ(k ru:Str)(ds:List Rd)(m:Int):T:=match ru = "hand",fR k ds with
 |_,[]=>.tup [.str "told",.tup [iy k ds m,.lst []]]
 |_,q::l=>if ru = "hand" then .tup [.str "fault",iw q] else .tup [.str "told",.tup [iy k ds m,.lst ((q::l).map iw)]]
theorem zyp{k ru:Str}{ds:List Rd}{m:Int}{t:T}(hk:k = "all" \/ k = "first" \/ k = "chain" \/ k = "round")(hv:sg S t (ds.map fQ))(ok:∀p∈ds,iY p.1)(hl:ds.length<24) :
  Ct c [.str k,.str ru,t,.int m] S=.ok (yJ k ru ds m) S:=by
 have px:t≠.obj S.length:=λe=>by
  have:=hv.now;rw[e] at this;simp[cW] at this
 obtain⟨a,S',e,A,hh,l1,k1⟩:=z17 (c:=c) (S:=S++[.lst []]) (k:=k) (ds:=ds) (m:=m) (t:=t) (kh:=S.length) hk (λS' h=>hv S' λj hj=>by rw[h j (by simp;omega) (by omega),aG hj]) px ok qm hl;have keep:∀j,j<S.length->S'[j]?=S[j]?:=λj hj=>by rw[k1 j (by simp;omega) (by omega),aG hj]
 have tk:=z11 keep;have IX:∀q∈fR k ds,iY q.1:=λq hq=>by
  obtain⟨p,hp,e⟩:=OW hq;rw[<- e];exact ok p hp
 have nn:=Zb8 (S:=S') (t:=.obj S.length) (nC hh) IX;have fa:∀f,fz S' S.length (f+1) a=aa (iy k ds m):=λf=>by
  by_cases q:k = "all"
  .obtain⟨kt,rfl,h1,h2⟩:=A.all q
   rw[VN (by simp at h1;omega) h2 (OU _ _ _)];simp[iy,q]
  .rw[A.els q];exact Cd (VP _ _ _ _)
 have ap:=sX (F:=xQ c) (fr:=aV (ah 0) (aV (ah 2) (aV (ah 3) (aV (ah 4) aK)))) (ρ:=[aa (.str k),aa (.str ru),aa t,aa (.int m),aa (.obj S.length),ae]) (n:=4) (jw rfl (jw rfl (jw rfl (jw rfl rfl)))) rfl e;have s1:cE 4 (eA iR aK) [aa (.str k),aa (.str ru),aa t,aa (.int m),ae,ae] S=.ok (.nx [aa (.str k),aa (.str ru),aa t,aa (.int m),aa (.obj S.length),ae]) (S++[.lst []]):=by simp
 have go:∀{v:T},(aX (gs (xu (eK (e2 gG (ah 1) (eC (.str "hand")))) (eK (e2 mI (ah 4) (eA ir aK)))) (cq (eA gm (aV (eC (.str "fault")) (aV (e2 dN (ah 4) (eC (.int 0))) aK)))) gU) (cq (eA gm (aV (eC (.str "told")) (aV (eA gm (aV (ah 5) (aV (ah 4) aK))) aK))))) [aa (.str k),aa (.str ru),aa t,aa (.int m),aa (.obj S.length),aa a] S'=.ok (.rt v) S'->cF 6 (E9 c) [.str k,.str ru,t,.int m] S=.ok v S':=λh=>by
  refine zH (ρ:=[aa (.str k),aa (.str ru),aa t,aa (.int m),ae,ae]) rfl ?_;unfold E9;rw[mQ s1,mQ (q_ ap)];exact h
 have told:(ru = "hand" -> fR k ds=[])->Ct c [.str k,.str ru,t,.int m] S=.ok (.tup [.str "told",.tup [iy k ds m,.lst ((fR k ds).map iw)]]) S:=λh=>by
  have run:cF 6 (E9 c) [.str k,.str ru,t,.int m] S=.ok (.tup [.str "told",.tup [a,.obj S.length]]) S':=go (by
   by_cases q:ru = "hand"
   .rw[h q] at nn
    simp[q,nn]
   .simp[q])
  unfold Ct j4;rw[run];have hc:=VN (f:=3) (az S.length) hh (VO _ _);have f1:fz S' S.length 6 (.tup [.str "told",.tup [a,.obj S.length]])=aa (.tup [.str "told",.tup [iy k ds m,.lst ((fR k ds).map iw)]]):=by
   have nb:¬HB S.length (.tup [.str "told",.tup [a,.obj S.length]]):=by simp[HB,sQ]
   have nb2:¬HB S.length (.tup [a,.obj S.length]):=by simp[HB,sQ]
   have f0:fz S' S.length 5 (.str (ao "told"))=aa (.str "told"):=Cd (by simp);have f2:fz S' S.length 5 (.tup [a,.obj S.length])=aa (.tup [iy k ds m,.lst ((fR k ds).map iw)]):=by
    unfold fz;rw[if_neg nb2];simp only[ie,fa 3,hc];rfl
   unfold fz;rw[if_neg nb];simp only[ie,f0,f2];rfl
  simp only[if_pos tk,f1]
 unfold yJ;cases hq:fR k ds with
 | nil=>
   have:=told (λ_=>hq);rw[hq] at this;exact this
 | cons q l=>
   simp only;by_cases hr:ru = "hand"
   .rw[if_pos hr]
    rw[hq] at nn hh;have ix:dN (.obj S.length) (.int 0) S'=.ok (iw q) S':=by
     have:=FA (nC hh);simp[dN,this]
    have run:cF 6 (E9 c) [.str k,.str ru,t,.int m] S=.ok (.tup [.str "fault",iw q]) S':=go (by
     simp at nn;simp[hr,nn,ix])
    exact Ex run tk (vG λu hu=>by
     simp only[aF,cx,or_false] at hu;rcases hu with rfl | rfl
     .simp
     .exact vG (by simp))
   .rw[if_neg hr,<- hq]
    exact told (λh=>absurd h hr)
end DN
namespace DN
open PySem L2 MF
variable {c:Cl}{S:bI}
def FL(v:T):Prop:=v=.bH\/∃i,v=.int i
theorem OZ(m:Int):∀(ds:List Rd),∀p∈m6 m ds,FL p.2
 |[],p,h=>by cases h
 | (nm,d)::ds,p,h=>by
   cases d with
   |fail a=>exact OZ m ds p h
   | _=>
     simp only[m6,aF] at h;rcases h with rfl | h
     .first | exact .inl rfl | exact .inr ⟨_,rfl⟩
     .exact OZ m ds p h
theorem z4j(m:Int):∀(ds:List Rd),(m6 m ds).length<=ds.length
 |[]=>by simp[m6]
 | (nm,d)::ds=>by
   have:=z4j m ds;cases d<;>simp[m6]<;>omega
theorem VQ(m:Int):∀(ds:List Rd),FL (gL m ds)
 |[]=>.inl rfl
 | (nm,d)::ds=>by
   have:=VQ m ds;cases d with
   |add a=>exact .inr ⟨_,rfl⟩
   |say a=>exact .inr ⟨_,rfl⟩
   |bH=>exact this
   |fail a=>exact this
end DN
namespace DN
open PySem L2 MF
variable {c:Cl}{S:bI}
open Classical in
def Dd.of(t:T):Dd:=if h:∃d:Dd,d.t=t then h.choose else .bH
theorem Dd.O0{t:T}(h:∃d:Dd,d.t=t):(Dd.of t).t=t:=by
 unfold Dd.of;rw[dif_pos h];exact h.choose_spec
theorem z8j(x:Int):∃d:Dd,d.t=zy x:=by
 unfold zy
 split
 .exact⟨.say _,rfl⟩
 .split
  .exact⟨.bH,rfl⟩
  .split
   .exact⟨.fail _,rfl⟩
   .exact⟨.add _,rfl⟩
def gc(ps:List Pc)(res:List Str):List Rd:=res.map λx=>(x,Dd.of (((ps.find? λp=>decide (p.nm=x)).map (·.dd)).getD .bH))
theorem O1(ps:List Pc)(res:List Str):(gc ps res).length=res.length:=by simp[gc]
theorem z8k{ps:List Pc}(nd:(ps.map (·.nm)).Nodup){p:Pc}(hp:p∈ps):ps.find? (λq=>decide (q.nm=p.nm))=aa p:=by
 cases ef:ps.find? (λq=>decide (q.nm=p.nm)) with
 | none=>
   have:=dY.mp ef p hp;simp at this
 | some q=>
   have q1:=cN ef;have q2:q.nm=p.nm:=by simpa using oE ef
   rw[OE nd q q1 p hp q2]
theorem VR{ps:List Pc}(nd:(ps.map (·.nm)).Nodup)(hd:∀p∈ps,∃d:Dd,d.t=p.dd){p:Pc}(hp:p∈ps):fQ (p.nm,Dd.of (((ps.find? λq=>decide (q.nm=p.nm)).map (·.dd)).getD .bH))=.tup [.str p.nm,p.dd]:=by
 rw[z8k nd hp];show T.tup [.str p.nm,(Dd.of p.dd).t]=_;rw[Dd.O0 (hd p hp)]
theorem O2{dG:List HP}{ps:List Pc}(hc:dG.map HP.core=ps.map Pc.full)(nd:(ps.map (·.nm)).Nodup)(hd:∀p∈ps,∃d:Dd,d.t=p.dd):∀(res:List Str),(∀x∈res,x∈ps.map (·.nm))->∃dds:List HP,dds.map (·.nm)=res/\(∀p∈dds,p∈dG)/\dds.map (λp=>T.tup [.str p.nm,p.dd])=(gc ps res).map fQ
 |[],_=>⟨[],rfl,λp hp=>absurd hp cx,rfl⟩
 | x::res,h=>by
   obtain⟨dds,e1,e2,e3⟩:=O2 hc nd hd res λy hy=>h y (au _ hy);obtain⟨q,hq,rfl⟩:=aq.mp (h x (aA ..));obtain⟨p,hp,ec⟩:=OD hc hq;have en:p.nm=q.nm:=(zF ec).1;have edd:p.dd=q.dd:=by
    simp only[HP.core,Pc.full,oW] at ec;exact ec.2.2.1
   refine⟨p::dds,by rw[aC,e1,en],λr hr=>?_,?_⟩
   .rcases aF.mp hr with rfl | hr
    .exact hp
    .exact e2 r hr
   .rw[aC,e3,en,edd,<- VR nd hd hq]
    rfl
theorem z8l{h:Nat}{pl:List jj}{dG:List HP}{ps:List Pc}{pm:jj}{n:Int}(A:ik c S h pl dG)(hq:pl.find? (λp=>decide (p.nm=("hub" : Str)))=aa pm)(hc:dG.map HP.core=ps.map Pc.full)(D:yG ps)(hd:∀p∈ps,∃d:Dd,d.t=p.dd) :
  (∀res,topo (jv (bV ps) (dG.filter gK)) (bV ps).length (bV ps) []=aa res->∃S' r,Bi c [.obj h,.str "hub",.int n] S=.ok (.obj r) S'/\iT c S' r (Rs.x ⟨pm.kind,pm.rule,n,gc ps res,[],false,[],.bH,[]⟩)/\S.length<=r/\S.length<=S'.length/\∀j,j<S.length->S'[j]?=S[j]?) /\
  (topo (jv (bV ps) (dG.filter gK)) (bV ps).length (bV ps) []=ae->∃S' fs,Bi c [.obj h,.str "hub",.int n] S=.exc c.ring fs S'/\∀j,j<S.length->S'[j]?=S[j]?):=by
 have hl:=IL hc;have dl:=D.len;have yH:(dG.filter gK).map (·.nm)=bV ps:=FE (yF hc);have ma:=q8 (m:=ao "at") h (by simp) (by simp);have ea:=yA A hq (by omega);have ea:q0 c [.obj h,.str "hub"] S=.ok (aD ((dG.filter gK).map (·.nm))) S:=ea;rw[yH] at ea;obtain⟨p1,p2⟩:=Ot A (CK D.nd) yH (λq zG=>by
  have FG:=(aN.mp zG).1;obtain⟨p,hp,e⟩:=FC hc FG;obtain⟨_,e2,e3⟩:=zF e;have:=D.w p hp;rw[e2,e3];exact⟨FG,this⟩) (Vm hc D)
 have i0:=A.ins;have Fw:=q8 (m:=ao "find_place") h (by simp) (by simp);have fpl:=Iv A hq;refine⟨λres hr=>?_,λhr=>?_⟩
 .obtain⟨S1,e,g,k⟩:=p1 res hr
  obtain⟨kG,e0,hp,_⟩:=x_ (bV ps).length (CK D.nd) rfl hr;rw[bF] at e0;subst e0;have sub:∀x∈res,x∈ps.map (·.nm):=λx hx=>by
   obtain⟨p,oY,rfl⟩:=FF (hp.mem_iff.mp hx);exact aq.mpr ⟨p,oY,rfl⟩
  obtain⟨dds,d1,d2,d3⟩:=O2 hc D.nd hd res sub;have rl:res.length<=24:=by rw[hp.length_eq];have:=CL ps;omega
  have lt:S.length+1<S1.length:=(aB.mp g).1;have eb:=Vt (n:=.int n) A hq e (dds:=dds) (by rw[g,<- d1,bO];rfl) (A.keep k) d2 (by have:=congrArg fV d1;simp at this;omega);rw[d3] at eb;refine⟨_,S1.length,?_,Vu,by omega,by simp;omega,λj hj=>by rw[aG (by omega)];exact k j hj⟩;have eb:vO c [.obj h,.str "hub",aD (bV ps),.int n] S=.ok (.obj S1.length) (S1++(Rs.x ⟨pm.kind,pm.rule,n,gc ps res,[],false,[],.bH,[]⟩).block c S1.length):=eb;generalize aD (bV ps)=NL at ea eb;simp[Bi,MO,i0,ma,ea,eb]
 .obtain⟨S1,ring,e,k,_⟩:=p2 hr
  refine⟨S1,aa [("ring",aD ring)],?_,k⟩;have eo:vO c [.obj h,.str "hub",aD (bV ps),.int n] S=.exc c.ring (aa [("ring",aD ring)]) S1:=by
   generalize aD (bV ps)=NL at e ⊢;have:EZ c [aa (.obj h),aa (.str "hub"),aa NL,aa (.int n),aa (.obj pm.i),ae] S=.exc c.ring (aa [("ring",aD ring)]) S1:=by simp[EZ,e]
   simp[vO,MN,i0,Fw,fpl,jN,this]
  generalize aD (bV ps)=NL at ea eo;simp[Bi,MO,i0,ma,ea,eo]
end DN
namespace DN
open PySem L2 MF
variable {c:Cl}{S:bI}
theorem VS{ps:List Pc}{res:List Str}(D:yG ps)(hs:∀x∈res,x∈ps.map (·.nm)):∀p∈gc ps res,Sm p.1:=λp hp=>by
 obtain⟨x,hx,rfl⟩:=aq.mp hp;obtain⟨q,hq,e⟩:=aq.mp (hs x hx);have:=D.sm q hq;unfold Sm;show(cY x).length<=100;rw[<- e];omega
end DN
namespace DN
open PySem L2 MF
variable {c:Cl}{S:bI}
noncomputable def zL(x:Int):Str:=if x%4=0 then "all" else if x%4=1 then "first" else if x%4=2 then "chain" else "round"
noncomputable def CS(x:Int):Str:=if x / 4%2=0 then "hold" else "hand"
theorem z8m(x:Int):kA [T.str "all",.str "first",.str "chain",.str "round"] (x%4)=aa (.str (zL x)):=by
 unfold zL;have:x%4=0\/x%4=1\/x%4=2\/x%4=3:=by omega
 rcases this with h | h | h | h<;>rw[h]<;>rfl
theorem z8n(x:Int):kA [T.str "hold",.str "hand"] (x / 4%2)=aa (.str (CS x)):=by
 unfold CS;have:x / 4%2=0\/x / 4%2=1:=by omega
 rcases this with h | h<;>rw[h]<;>rfl
theorem z8o(x:Int):zL x = "all" \/ zL x = "first" \/ zL x = "chain" \/ zL x = "round":=by
 unfold zL
 split
 .exact .inl rfl
 .split
  .exact .inr (.inl rfl)
  .split
   .exact .inr (.inr (.inl rfl))
   .exact .inr (.inr (.inr rfl))
theorem z8p(x:Int):CS x = "hold" \/ CS x = "hand":=by
 unfold CS
 split
 .exact .inl rfl
 .exact .inr rfl
theorem z4k(ns:List Int)(start cB:Int):∀p∈q5 ns start cB,∃d:Dd,d.t=p.dd:=λp hp=>by
 obtain⟨k,_,rfl⟩:=aq.mp hp;exact z8j _
end DN
namespace DN
open PySem L2 MF
variable {c:Cl}{S:bI}{sec Bx:Str->List Str}{names:List Str}
theorem VT:∀(n:Nat) {left row:List Str},left.Nodup->left.length=n->topo sec n left row=ae->∃l:List Str,l≠[]/\(∀x∈l,x∈left)/\∀x∈l,∃f∈l,x∈sec f
 |0,left,row,_,_,e=>by cases e
 | n + 1,left,row,nd,hl,e=>by
   unfold topo at e;cases q:left.find? (kF sec left) with
   | none=>
     refine⟨left,λz=>by rw[z] at hl;simp at hl,λx hx=>hx,λx hx=>?_⟩;have:=dY.mp q x hx;unfold kF at this;simpa using this
   | some x=>
     simp only[q] at e;have hm:=cN q;obtain⟨l,h1,h2,h3⟩:=VT n (nd.erase x) (by rw[eM hm];omega) e;exact⟨l,h1,λy hy=>ku (h2 y hy),h3⟩
theorem z4l {j9 res:List Str} (nd:names.Nodup) (h:topo sec names.length names []=aa res) (hs:∀x∈j9,x∈names) (oN:∀a∈j9,∀b∈Bx a,b∈sec a) (nd':j9.Nodup):∃O3,topo Bx j9.length j9 []=aa O3:=by
 cases q:topo Bx j9.length j9 [] with
 |some r=>exact⟨r,rfl⟩
 | none =>
   obtain⟨l,h1,h2,h3⟩:=VT j9.length nd' rfl q;obtain⟨kG,e0,hp,BS⟩:=x_ names.length nd rfl h;rw[bF] at e0;subst e0;have ex:∀t:List Str,(∃x∈l,x∈t)->∃A x B,t=A++x::B/\x∈l/\∀y∈A,y∉l:=λt=>by
    induction t with
    |nil=>rintro⟨x,_,hx⟩;cases hx
    | cons a t ih=>
      rintro⟨x,hx,hxt⟩;by_cases ha:a∈l
      .exact⟨[],a,t,rfl,ha,λy hy=>absurd hy cx⟩
      .obtain⟨A,z,B,e,hz,hA⟩:=ih ⟨x,hx,by
        rcases aF.mp hxt with rfl | h
        .exact absurd hx ha
        .exact h⟩
       refine⟨a::A,z,B,by rw[e];rfl,hz,λy hy=>?_⟩;rcases aF.mp hy with rfl | hy
       .exact ha
       .exact hA y hy
   obtain⟨x0,Iz⟩:=qc l h1;obtain⟨A,x,B,e,hx,hA⟩:=ex res ⟨x0,Iz,hp.mem_iff.mpr (hs x0 (h2 x0 Iz))⟩;obtain⟨f,hf,hfx⟩:=h3 x hx;have:=z1a hp BS (hs f (h2 f hf)) (oN f (h2 f hf) x hfx) e;exact absurd hf (hA f this)
section
variable {dG:List HP}{ps:List Pc}{P:Str->Bool}
noncomputable def dS(ps:List Pc)(P:Str->Bool):List Str:=(bV ps).filter P
noncomputable def j_(dG:List HP)(P:Str->Bool):List HP:=(dG.filter gK).filter λp=>P p.nm
theorem VU(h:dG.map HP.core=ps.map Pc.full):(j_ dG P).map (·.nm)=dS ps P:=by
 unfold j_ dS;have e:(dG.filter gK).map (·.nm)=bV ps:=FE (yF h);rw[<- e,cI];rfl
theorem FO{x:Str}:x∈dS ps P↔(∃p∈ps,sj p=true/\p.nm=x)/\P x=true:=by
 unfold dS bV;rw[aN,aq];constructor
 .rintro⟨⟨p,hp,e⟩,h⟩
  obtain⟨h1,h2⟩:=aN.mp hp;exact⟨⟨p,h1,h2,e⟩,h⟩
 .rintro⟨⟨p,h1,h2,e⟩,h⟩
  exact⟨⟨p,aN.mpr ⟨h1,h2⟩,e⟩,h⟩
theorem VW(h:dG.map HP.core=ps.map Pc.full){q:HP}(hq:q∈j_ dG P):∃p∈ps,sj p=true/\P p.nm=true/\p.nm=q.nm/\p.w0=q.w0/\p.w1=q.w1:=by
 obtain⟨h1,h2⟩:=aN.mp hq;obtain⟨p,hp,e⟩:=FC (yF h) h1;obtain⟨e1,e2,e3⟩:=zF e;obtain⟨h3,h4⟩:=aN.mp hp;exact⟨p,h3,h4,by rw[<- e1];exact h2,e1.symm,e2.symm,e3.symm⟩
theorem z2e(h:dG.map HP.core=ps.map Pc.full){p:Pc}(hp:p∈ps)(hh:sj p=true)(hP:P p.nm=true):∃q∈j_ dG P,p.nm=q.nm/\p.w0=q.w0/\p.w1=q.w1:=by
 obtain⟨q,hq,e⟩:=OD (yF h) (aN.mpr ⟨hp,hh⟩);obtain⟨e1,e2,e3⟩:=zF e;exact⟨q,aN.mpr ⟨hq,by rw[e1];exact hP⟩,e1.symm,e2.symm,e3.symm⟩
theorem z8q(h:dG.map HP.core=ps.map Pc.full)(nd:(ps.map (·.nm)).Nodup):CH (dS ps P) (jv (dS ps P) (j_ dG P)) (kI (dS ps P) ps):=by
 refine⟨λa ha b=>?_,λ⟨a,b⟩ hp=>?_⟩
 .rw[CD,IS]
  constructor
  .rintro⟨q,hq,hc⟩
   obtain⟨p,hp,h1,h2,e1,e2,e3⟩:=VW h hq;refine⟨p,hp,FO.mpr ⟨⟨p,hp,h1,rfl⟩,h2⟩,?_⟩;rw[e1,e2,e3];exact hc
  .rintro⟨p,hp,hn,hc⟩
   obtain⟨⟨p2,oY,h1,e0⟩,h2⟩:=FO.mp hn;have:=OE nd p2 oY p hp e0;subst this;obtain⟨q,hq,e1,e2,e3⟩:=z2e h hp h1 h2;refine⟨q,hq,?_⟩;rw[<- e1,<- e2,<- e3];exact hc
 .obtain⟨p,hp,hn,hc⟩:=IS.mp hp
  rcases hc with⟨rfl,_,h2⟩ | ⟨rfl,_,h2⟩
  .exact⟨hn,h2⟩
  .exact⟨h2,hn⟩
theorem CT(nd:(ps.map (·.nm)).Nodup):(dS ps P).Nodup:=(CK nd).sublist uq
theorem O4(ps:List Pc):(dS ps P).length<=ps.length:=bz (d7 ..) (CL ps)
theorem z2f(h:dG.map HP.core=ps.map Pc.full)(D:yG ps):II (dS ps P) (jv (dS ps P) (j_ dG P)):=by
 have hl:=O4 (P:=P) ps;have dl:=D.len;have sub:∀a b,b∈jv (dS ps P) (j_ dG P) a->b∈dS ps P:=λa b hb=>by
  obtain⟨q,hq,hc⟩:=CD.mp hb;rcases hc with⟨_,_,h2⟩ | ⟨rfl,_,_⟩
  .exact h2
  .rw[<- VU h];exact aq.mpr ⟨q,hq,rfl⟩
 refine⟨⟨λa ha b hb=>sub a b hb,λa ha=>?_,by omega⟩,λx hx=>?_,by omega⟩
 .have:=vR _ _ (OF (names:=dS ps P) (x:=a) (j_ dG P) (sec:=λ_=>[]) .nil) (sub a)
  show(jv (dS ps P) (j_ dG P) a).length<=200;have:(jv (dS ps P) (j_ dG P) a).length<=(dS ps P).length:=this;omega
 .obtain⟨⟨p,hp,_,rfl⟩,_⟩:=FO.mp hx
  exact D.sm p hp
theorem zvr{h:Nat}{pl:List jj}{pm:jj}{n:Int}(A:ik c S h pl dG)(hq:pl.find? (λp=>decide (p.nm=("hub" : Str)))=aa pm)(hc:dG.map HP.core=ps.map Pc.full)(D:yG ps)(hd:∀p∈ps,∃d:Dd,d.t=p.dd){res:List Str}(hr:topo (jv (dS ps P) (j_ dG P)) (dS ps P).length (dS ps P) []=aa res) :
  ∃S' r,vO c [.obj h,.str "hub",aD (dS ps P),.int n] S=.ok (.obj r) S'/\iT c S' r (Rs.x ⟨pm.kind,pm.rule,n,gc ps res,[],false,[],.bH,[]⟩)/\S.length<=r/\S.length<=S'.length/\∀j,j<S.length->S'[j]?=S[j]?:=by
 have dl:=D.len;obtain⟨p1,-⟩:=Ot A (CT (P:=P) D.nd) (VU hc) (λq zG=>by
  obtain⟨p,hp,_,_,_,e2,e3⟩:=VW hc zG;have:=D.w p hp;rw[<- e2,<- e3];exact⟨(aN.mp (aN.mp zG).1).1,this⟩) (z2f hc D)
 obtain⟨S1,e,g,k⟩:=p1 res hr;obtain⟨kG,e0,hp,_⟩:=x_ (dS ps P).length (CT D.nd) rfl hr;rw[bF] at e0;subst e0;have sub:∀x∈res,x∈ps.map (·.nm):=λx hx=>by
  obtain⟨⟨p,oY,_,e⟩,_⟩:=FO.mp (hp.mem_iff.mp hx);exact aq.mpr ⟨p,oY,e⟩
 obtain⟨dds,d1,d2,d3⟩:=O2 hc D.nd hd res sub;have rl:res.length<=24:=by rw[hp.length_eq];have:=O4 (P:=P) ps;omega
 have lt:S.length+1<S1.length:=(aB.mp g).1;have eb:=Vt (n:=.int n) A hq e (dds:=dds) (by rw[g,<- d1,bO];rfl) (A.keep k) d2 (by have:=congrArg fV d1;simp at this;omega);rw[d3] at eb;exact⟨_,S1.length,eb,Vu,by omega,by simp;omega,λj hj=>by rw[aG (by omega)];exact k j hj⟩
end
end DN
namespace DN
open PySem L2 MF
variable {c:Cl}{S:bI}
noncomputable def v5(k ru:Str)(ds:List Rd):Option (Str×Int):=if ru = "hand" then(fR k ds).head? else ae
noncomputable def gp(tag k ru:Str)(ds:List Rd)(m:Int):T:=match v5 k ru ds with
 |some q=>.tup [.str "fault",iw q]
 |none=>.tup [.str tag,.tup [iy k ds m,.lst ((fR k ds).map iw)]]
theorem z8r(k ru:Str)(ds:List Rd)(m:Int):yJ k ru ds m=gp "told" k ru ds m:=by
 unfold yJ gp v5;by_cases hr:ru = "hand"
 .cases fR k ds<;>simp[hr]
 .cases fR k ds<;>simp[hr]
noncomputable def prD(p:Str×T):gq:=.tuple [.str p.1,match p.2 with|.int i=>.int i | _=>.none]
noncomputable def pO:T->gq
 |.int i=>.int i
 |_=>.none
noncomputable def qQ(k:Str)(ds:List Rd)(m:Int):gq:=if k = "all" then .list ((m6 m ds).map λp=>.tuple [.str p.1,pO p.2]) else pO (iy k ds m)
noncomputable def nY(tag k ru:Str)(ds:List Rd)(m:Int):gq:=match v5 k ru ds with
 |some q=>.tuple [.str "fault",uJ q]
 |none=>.tuple [.str tag,.tuple [qQ k ds m,.list ((fR k ds).map uJ)]]
theorem VX{v:T}(h:FL v):pd v=aa (pO v)/\(pO v).canLay0=true/\(pO v).depth=0:=by
 rcases h with rfl | ⟨i,rfl⟩<;>simp[pd,pO,bM,cR]
theorem VY(m:Int):∀{l:List (Str×T)},(∀p∈l,FL p.2)->(∀p∈l,iY p.1)->md (l.map rf)=aa (l.map λp=>.tuple [.str p.1,pO p.2])/\be (l.map λp=>.tuple [.str p.1,pO p.2])=true/\bw (l.map λp=>.tuple [.str p.1,pO p.2])<=1
 |[],_,_=>by simp[md,be,bw]
 | p::l,h1,h2=>by
   obtain⟨a,b,d⟩:=VY m (l:=l) (λq hq=>h1 q (au _ hq)) (λq hq=>h2 q (au _ hq));obtain⟨v1,v2,v3⟩:=VX (h1 p (aA ..));have o:=h2 p (aA ..);unfold iY at o;refine⟨by simp[md,pd,rf,v1,a],by simp[be,bM,o,v2,b],?_⟩;simp[bw,cR,v3] at d ⊢;omega
theorem VZ{m:Int}:∀{ds:List Rd} {q:Str×T},q∈m6 m ds->∃p∈ds,p.1=q.1
 |[],q,h=>by cases h
 | (nm,d)::ds,q,h=>by
   have ih:q∈m6 m ds->∃p∈(nm,d)::ds,p.1=q.1:=λh=>by
    obtain⟨p,hp,e⟩:=VZ h;exact⟨p,au _ hp,e⟩
   cases d with
   |fail a=>exact ih h
   | _=>
     simp only[m6,aF] at h;rcases h with rfl | h
     .exact⟨_,aA ..,rfl⟩
     .exact ih h
theorem z8s{k:Str}{ds:List Rd}{m:Int}(q:¬k = "all"):FL (iy k ds m):=by
 unfold iy;rw[if_neg q]
 split
 .exact VQ m ds
 .split<;>exact .inr ⟨_,rfl⟩
theorem Zb9{k:Str}{ds:List Rd}{m:Int}(ok:∀p∈ds,iY p.1):pd (iy k ds m)=aa (qQ k ds m)/\(qQ k ds m).canLay0=true/\(qQ k ds m).depth<=2:=by
 by_cases q:k = "all"
 .obtain⟨a,b,d⟩:=VY m (OZ m ds) (λp hp=>by obtain⟨r,hr,e⟩:=VZ hp;rw[<- e];exact ok r hr)
  refine⟨by simp[iy,qQ,q,pd,a],?_,?_⟩
  .simp only[qQ,if_pos q,bM];exact b
  .simp only[qQ,if_pos q,cR];omega
 .obtain⟨v1,v2,v3⟩:=VX (z8s (ds:=ds) (m:=m) q)
  unfold qQ;rw[if_neg q];exact⟨v1,v2,by omega⟩
theorem z8t:d_ (ao "fault")=true/\d_ (ao "told")=true/\d_ (ao "answer")=true:=by decide +kernel
theorem V0{tag k ru:Str}{ds:List Rd}{m:Int}(ht:tag = "told" \/ tag = "answer")(ok:∀p∈ds,iY p.1):nA S (gp tag k ru ds m)=aa (nY tag k ru ds m)/\(nY tag k ru ds m).canLay0=true/\(nY tag k ru ds m).depth<=50:=by
 have IX:∀q∈fR k ds,iY q.1:=λq hq=>by
  obtain⟨p,hp,e⟩:=OW hq;rw[<- e];exact ok p hp
 obtain⟨t1,t2,t3⟩:=z8t;have tt:d_ tag=true:=by rcases ht with rfl | rfl<;>assumption
 unfold gp nY;cases hf:v5 k ru ds with
 | some q=>
   have hq:iY q.1:=IX q (by
    unfold v5 at hf
    split at hf
    .exact List.mem_of_mem_head? hf
    .cases hf)
   unfold iY at hq;simp only;exact⟨by simp[nA,pd,md,iw,uJ],by simp[bM,be,uJ,t1,hq],by simp[cR,bw,uJ]⟩
 | none=>
   obtain⟨a1,a2,a3⟩:=Zb9 (k:=k) (m:=m) ok;have l1:=OX IX;have l2:=OY (fR k ds);have l3:=OV (fR k ds);simp only;exact⟨by simp[nA,pd,md,a1,l3],by simp[bM,be,tt,a2,l1],by simp[cR,bw];omega⟩
noncomputable def wO(k ru:Str)(m:Int)(ds es:List Rd):Bool:=!bX (nY "told" k ru ds m) (nY "told" k ru es m)
theorem V1{tag k ru:Str}{m:Int}{ds es:List Rd}(ht:tag = "told" \/ tag = "answer")(o1:∀p∈ds,iY p.1)(o2:∀p∈es,iY p.1):mI (gp tag k ru ds m) (gp tag k ru es m) S=.ok (.bl (wO k ru m ds es)) S:=by
 obtain⟨a1,a2,a3⟩:=V0 (S:=S) (k:=k) (ru:=ru) (m:=m) ht o1;obtain⟨b1,b2,b3⟩:=V0 (S:=S) (k:=k) (ru:=ru) (m:=m) ht o2;have tv:∀ds,toV (gp tag k ru ds m)=ae:=λds=>by
  unfold gp;cases v5 k ru ds<;>rfl
 have e:=CG (S:=S) (.inl (tv ds)) a1 b1 a2 b2 a3;have e2:bX (nY tag k ru ds m) (nY tag k ru es m)=bX (nY "told" k ru ds m) (nY "told" k ru es m):=by
  rcases ht with rfl | rfl
  .rfl
  .unfold nY
   cases v5 k ru ds<;>cases v5 k ru es<;>simp[bX,eI]
 simp[mI,e,e2,wO]
theorem V2{r:Nat}{k ru:Str}{n:Int}{ds:List Rd}(R:iT c S r (Rs.x ⟨k,ru,n,ds,[],false,[],.bH,[]⟩))(hk:k = "all" \/ k = "first" \/ k = "chain" \/ k = "round")(hr:ru = "hold" \/ ru = "hand")(sm:∀p∈ds,Sm p.1)(hl:ds.length<=100) :
  ∃S',Bf c [.obj r] S=.ok (gp "answer" k ru ds n) S'/\S.length<=S'.length/\∀j,j<r->S'[j]?=S[j]?:=by
 have rl:r<S.length:=(aB.mp R.o).1;obtain⟨S',k5,h⟩:=z16 R hk hr sm hl;rcases h with⟨h1,q,t,h2,h3⟩ | ⟨h1,h2⟩
 .have ef:gp "answer" k ru ds n=.tup [.str "fault",iw q]:=by simp[gp,v5,h1,h2]
  rw[ef];have e1:qM [c.ring,c.deedFault] c.deedFault c.deedFault=aa true:=by simp[qM]
  have g:(S'++[cg.exc c.deedFault (aa [("piece",.str q.1),("code",.int q.2)])])[S'.length]?=aa (.exc c.deedFault (aa [("piece",.str q.1),("code",.int q.2)])):=by simp
  have b2:MD c [aa (.obj r),ae,aa (.obj S'.length)] (S'++[.exc c.deedFault (aa [("piece",.str q.1),("code",.int q.2)])])=.ok (.rt (.tup [.str "fault",iw q])) (S'++[.exc c.deedFault (aa [("piece",.str q.1),("code",.int q.2)])]):=by
   simp[MD,vI,g,aI,iw]
  refine⟨S'++[.exc c.deedFault (aa [("piece",.str q.1),("code",.int q.2)])],?_,by simp[k5.len],λj hj=>?_⟩
  .simp[Bf,ME,HQ,h3,xG,e1,qL,b2,nT,MF.Gz]
  .rw[aG (by rw[k5.len];omega)]
   exact k5.same j (.inl hj)
 .have ef:gp "answer" k ru ds n=.tup [.str "answer",.tup [iy k ds n,.lst ((fR k ds).map iw)]]:=by
   unfold gp v5;by_cases q:ru = "hand"
   .simp[q,h1 q]
   .simp[q]
  rw[ef];refine⟨S',?_,by rw[k5.len];exact az _,λj hj=>k5.same j (.inl hj)⟩;generalize T.tup [iy k ds n,.lst ((fR k ds).map iw)]=R2 at h2 ⊢;simp[Bf,ME,HQ,h2]
end DN
namespace DN
open PySem L2 MF
variable {c:Cl}{S:bI}
structure oA(S0 S:bI):Prop where
 len:S0.length<=S.length
 same:∀j,j<S0.length->S[j]?=S0[j]?
theorem oA.refl(S:bI):oA S S:=⟨az _,λ_ _=>rfl⟩
theorem oA.trans{S0 S1 S2:bI}(a:oA S0 S1)(b:oA S1 S2):oA S0 S2:=⟨bz a.len b.len,λj hj=>(b.same j (ax hj a.len)).trans (a.same j hj)⟩
theorem V3{S0:bI}{st:bI->Prop}{tc:DT}{te:DE}{caps:Ev}{p:T->Bool}{f:T->T}(fm:∀S,oA S0 S->st S):∀(ts:List T) (o:Option T) (acc:List T) {S:bI},oA S0 S->acc.length+ts.length<=1000->(∀t∈ts,∀S,oA S0 S->∃S',oA S S'/\tc (aa t::caps) S=.ok (p t) S')->(∀t∈ts,∀S,te (aa t::caps) S=.ok (f t) S) ->
  ∃S',oA S S'/\mJ st (eE 0) tc te ts (o::caps) acc S=.ok (acc++(ts.filter p).map f) S'
 | [],o,acc,S,hE,_,_,_=>by
   refine⟨S,oA.refl S,?_⟩;unfold mJ;rw[if_pos (fm S hE)];simp
 | t :: ts,o,acc,S,hE,hl,hc,he=>by
   rw[aY] at hl;obtain⟨S1,E1,h1⟩:=hc t (aA ..) S hE;have ih:=λacc h=>V3 (tc:=tc) (te:=te) fm ts (aa t) acc (S:=S1) (hE.trans E1) h (λu hu=>hc u (au _ hu)) (λu hu=>he u (au _ hu));have h2:=he t (aA ..) S1;unfold mJ;rw[if_pos (fm S hE)];show∃S',oA S S'/\(M.bind (tc (aa t::caps)) _) S=_;rw[fJ,h1];cases e:p t with
   | false=>
     obtain⟨S',E',e'⟩:=ih acc (by omega);exact⟨S',E1.trans E',by simpa[e] using e'⟩
   | true=>
     obtain⟨S',E',e'⟩:=ih (acc++[f t]) (by rw[aO,ba];omega);have qh:acc.length<1000:=by omega
     refine⟨S',E1.trans E',?_⟩;simp only[if_true,fJ,h2,LQ,qh];simpa[e,h2] using e'
theorem zyq{ρ:Ev}{S1:bI}{js:List Nat}{it:DI}{tc:DT}{te:DE}{ts:List T}{st:bI->Prop}{p:T->Bool}{f:T->T}(rZ:it ρ S=.ok (ts,st) S1)(fm:∀S,oA S1 S->st S)(hl:ts.length<=1000)
  (hc:∀t∈ts,∀S,oA S1 S->∃S',oA S S'/\tc (aa t::js.map λj=>(ρ[j]?).join) S=.ok (p t) S') (he:∀t∈ts,∀S,te (aa t::js.map λj=>(ρ[j]?).join) S=.ok (f t) S) :
  ∃S',oA S1 S'/\jN 1 js it (eE 0) tc te fO ρ S=.ok (.lst ((ts.filter p).map f)) S':=by
 obtain⟨S',E,e⟩:=V3 (tc:=tc) (te:=te) (caps:=js.map λj=>(ρ[j]?).join) fm ts ae [] (oA.refl S1) (by simpa using hl) hc he;refine⟨S',E,?_⟩;unfold jN;rw[fJ,rZ];show(M.bind (qZ _) fO) S1=_;rw[fJ];have e2:qZ (mJ st (eE 0) tc te ts (aS 1 ae++js.map λj=>(ρ[j]?).join) []) S1=.ok ((ts.filter p).map f) S':=by
  unfold qZ;rw[show(aS 1 (ae:Option T)++js.map λj=>(ρ[j]?).join)=ae::js.map λj=>(ρ[j]?).join from rfl,e];rfl
 simp only[e2];rfl
section
variable {h:Nat}{pl:List jj}{pm:jj}{dG:List HP}{ps:List Pc}{n:Int}
noncomputable def ko(x:Str):Str->Bool:=λy=>!decide (y=x)
theorem z2h(A:ik c S h pl dG)(hq:pl.find? (λp=>decide (p.nm=("hub" : Str)))=aa pm)(hc:dG.map HP.core=ps.map Pc.full)(D:yG ps)(hd:∀p∈ps,∃d:Dd,d.t=p.dd)(x:Str){res:List Str}(hr:topo (jv (dS ps (ko x)) (j_ dG (ko x))) (dS ps (ko x)).length (dS ps (ko x)) []=aa res) :
  ∃S' r,E7 c [.obj h,.str "hub",.str x,.int n] S=.ok (.obj r) S'/\iT c S' r (Rs.x ⟨pm.kind,pm.rule,n,gc ps res,[],false,[],.bH,[]⟩)/\S.length<=r/\oA S S':=by
 have hl:=IL hc;have dl:=D.len;have yH:(dG.filter gK).map (·.nm)=bV ps:=FE (yF hc);have ma:=q8 (m:=ao "at") h (by simp) (by simp);have ea:=yA A hq (by omega);have ea:q0 c [.obj h,.str "hub"] S=.ok (aD ((dG.filter gK).map (·.nm))) S:=ea;rw[yH] at ea;have hln:=CL ps;have it1:E6 c [aa (.obj h),aa (.str "hub"),aa (.str x),aa (.int n),ae] S=.ok ((bV ps).map .str,λS'=>cW S' (aD (bV ps))=aa ((bV ps).map .str)) S:=by
  generalize hN:bV ps=N at ea ⊢;simp[E6,A.ins,ma,ea,aD]
 have cc:=xF (ρ:=[aa (.obj h),aa (.str "hub"),aa (.str x),aa (.int n),ae]) (S:=S) (js:=[2]) (it:=E6 c) (tc:=H_ c) (te:=HZ c) (ts:=(bV ps).map .str) (st:=λS'=>cW S' (aD (bV ps))=aa ((bV ps).map .str))
  (p:=λt=>match t with|.str y=>ko x y | _=>false) (f:=id)
  it1 rfl (by simp;omega) (λt ht=>by
   obtain⟨y,_,rfl⟩:=aq.mp ht;simp[H_,ko]) (λt ht _=>by simp[HZ])
 have ef:(((bV ps).map T.str).filter (λt=>match t with|.str y=>ko x y | _=>false)).map id=(dS ps (ko x)).map .str:=by
  rw[cI,k7];rfl
 rw[ef] at cc;have cc:jN 1 [2] (E6 c) (eE 0) (H_ c) (HZ c) fO [aa (.obj h),aa (.str "hub"),aa (.str x),aa (.int n),ae] S=.ok (aD (dS ps (ko x))) S:=cc;obtain⟨S',r,e,R,l1,l2,k⟩:=zvr (n:=n) (P:=ko x) A hq hc D hd hr;refine⟨S',r,?_,R,l1,l2,k⟩;generalize aD (dS ps (ko x))=N at cc e;simp[E7,TH,cc,e]
theorem z4m(A:ik c S h pl dG)(hq:pl.find? (λp=>decide (p.nm=("hub" : Str)))=aa pm)(hc:dG.map HP.core=ps.map Pc.full)(D:yG ps)(hd:∀p∈ps,∃d:Dd,d.t=p.dd)(si:∀p∈ps,iY p.nm)
  (hk:pm.kind = "all" \/ pm.kind = "first" \/ pm.kind = "chain" \/ pm.kind = "round") (hr:pm.rule = "hold" \/ pm.rule = "hand") :
  (∀res,topo (jv (bV ps) (dG.filter gK)) (bV ps).length (bV ps) []=aa res->∀rs:Str->List Str,(∀x,topo (jv (dS ps (ko x)) (j_ dG (ko x))) (dS ps (ko x)).length (dS ps (ko x)) []=aa (rs x)) ->
   ∃S',oA S S'/\xO c [.obj h,.str "hub",.int n] S=.ok (aD (res.filter λx=>wO pm.kind pm.rule n (gc ps (rs x)) (gc ps res))) S') /\
  (topo (jv (bV ps) (dG.filter gK)) (bV ps).length (bV ps) []=ae->∃S' fs,xO c [.obj h,.str "hub",.int n] S=.exc c.ring fs S'/\∀j,j<S.length->S'[j]?=S[j]?):=by
 obtain⟨b1,b2⟩:=z8l (n:=n) A hq hc D hd;have dl:=D.len;refine⟨λres hr' rs wM=>?_,λhr'=>?_⟩
 .obtain⟨S1,r,e,R,l1,l2,k⟩:=b1 res hr'
  have sub:∀{P:Str->Bool} {l:List Str},topo (jv (dS ps P) (j_ dG P)) (dS ps P).length (dS ps P) []=aa l->(∀x∈l,x∈ps.map (·.nm))/\l.length<=24:=λ{P l} h=>by
   obtain⟨kG,e0,hp,_⟩:=x_ (dS ps P).length (CT D.nd) rfl h;rw[bF] at e0;subst e0;refine⟨λx hx=>?_,by rw[hp.length_eq];have:=O4 (P:=P) ps;omega⟩;obtain⟨⟨p,oY,_,e⟩,_⟩:=FO.mp (hp.mem_iff.mp hx);exact aq.mpr ⟨p,oY,e⟩
  have FP:(∀x∈res,x∈ps.map (·.nm))/\res.length<=24:=by
   obtain⟨kG,e0,hp,_⟩:=x_ (bV ps).length (CK D.nd) rfl hr';rw[bF] at e0;subst e0;refine⟨λx hx=>?_,by rw[hp.length_eq];have:=CL ps;omega⟩;obtain⟨p,oY,rfl⟩:=FF (hp.mem_iff.mp hx);exact aq.mpr ⟨p,oY,rfl⟩
  have By:∀l:List Str,(∀x∈l,x∈ps.map (·.nm))->∀p∈gc ps l,iY p.1:=λl hl p hp=>by
   obtain⟨x,hx,rfl⟩:=aq.mp hp;obtain⟨q,zG,e⟩:=aq.mp (hl x hx);show iY x;rw[<- e];exact si q zG
  obtain⟨S2,e2,l3,k2⟩:=V2 R hk hr (VS D FP.1) (by rw[O1];omega);have E2:oA S S2:=⟨by omega,λj hj=>by rw[k2 j (by omega)];exact k j hj⟩;have A2:=A.keep E2.same;obtain⟨o1,-⟩:=z8a A2 hq hc D;obtain⟨S3,e3,g3,k3⟩:=o1 res hr';have lt3:S2.length+1<S3.length:=(aB.mp g3).1;have E3:oA S2 S3:=⟨by omega,k3⟩;have A3:=A2.keep k3;obtain⟨S4,E4,cc⟩:=zyq (ρ:=[aa (.obj h),aa (.str "hub"),aa (.int n),aa (gp "answer" pm.kind pm.rule (gc ps res) n)]) (S:=S2) (S1:=S3) (js:=[3,0,1,2]) (it:=MR c) (tc:=Ia c) (te:=MQ c) (ts:=res.map .str) (st:=λS'=>cW S' (.obj (S2.length+1))=aa (res.map .str))
   (p:=λt=>match t with|.str x=>wO pm.kind pm.rule n (gc ps (rs x)) (gc ps res) | _=>false) (f:=id)
   (by
    generalize gp "answer" pm.kind pm.rule (gc ps res) n=W;simp[MR,e3,nC g3]) (λS' hE=>nC (by rw[hE.same _ lt3];exact g3)) (by simp;omega) (λt ht S' hE=>by
    obtain⟨x,hx,rfl⟩:=aq.mp ht;have A':=A3.keep hE.same;obtain⟨V4,sx2⟩:=sub (wM x);obtain⟨S5,r5,e5,R5,l5,E5⟩:=z2h (n:=n) A' hq hc D hd x (wM x);obtain⟨S6,e6,l6,k6⟩:=V2 R5 hk hr (VS D V4) (by rw[O1];omega);have ne:=V1 (S:=S6) (tag := "answer") (k:=pm.kind) (ru:=pm.rule) (m:=n) (.inr rfl) (By (rs x) V4) (By res FP.1);refine⟨S6,⟨bz E5.len l6,λj hj=>by rw[k6 j (by omega)];exact E5.same j hj⟩,?_⟩;show Ia c [aa (.str x),aa (gp "answer" pm.kind pm.rule (gc ps res) n),aa (.obj h),aa (.str "hub"),aa (.int n)] S'=.ok (wO pm.kind pm.rule n (gc ps (rs x)) (gc ps res)) S6;generalize gp "answer" pm.kind pm.rule (gc ps res) n=W at ne ⊢;generalize gp "answer" pm.kind pm.rule (gc ps (rs x)) n=W2 at ne e6;simp[Ia,e5,e6,ne]) (λt ht S'=>by simp[MQ])
  have ef:((res.map T.str).filter (λt=>match t with|.str x=>wO pm.kind pm.rule n (gc ps (rs x)) (gc ps res) | _=>false)).map id=(res.filter λx=>wO pm.kind pm.rule n (gc ps (rs x)) (gc ps res)).map .str:=by
   rw[cI,k7];rfl
  rw[ef] at cc;refine⟨S4,(E2.trans E3).trans E4,?_⟩;unfold xO;refine zH (ρ:=[aa (.obj h),aa (.str "hub"),aa (.int n),ae]) rfl ?_;unfold MS;exact(mQ (q_ (sX (jw (sX (jw rfl (jw rfl (jw rfl rfl))) rfl e) rfl) rfl e2))).trans (IU cc)
 .obtain⟨S1,fs,e,k⟩:=b2 hr'
  exact⟨S1,fs,by simp[xO,MS,e],k⟩
end
end DN
namespace DN
open PySem L2 MF
variable {c:Cl}{S:bI}
noncomputable def Pc.bare(p:Pc):Pc:={ p with w0:=[],w1:=[] }
noncomputable def yK(ns:List Int):List Pc:=if 0<cellAt ns 1 / 8%3 then(q5 ns 3 (cellAt ns 0%11)).map Pc.bare else q5 ns 3 (cellAt ns 0%11)
theorem Zca{ps:List Pc}(hl:ps.length<=13){t0:Option T}:jN 1 [] (HE c) (eE 0) mz (HD c) fO [t0,aa (.lst (ps.map Pc.t))] S=.ok (.lst ((ps.map Pc.bare).map Pc.t)) S:=by
 have cc:=Hn (ρ:=[t0,aa (.lst (ps.map Pc.t))]) (S:=S) (js:=[]) (it:=HE c) (te:=HD c) (ts:=ps.map Pc.t) (st:=λS'=>cW S' (.lst (ps.map Pc.t))=aa (ps.map Pc.t))
  (f:=λt=>match t with|.tup [a,b,d,.lst [_,_,g,h],i]=>.tup [a,b,d,.lst [.lst [],.lst [],g,h],i] | _=>.bH)
  (by simp[HE]) rfl (by simp;omega) (λt ht=>by
   obtain⟨p,_,rfl⟩:=aq.mp ht;simp[HD,Pc.t])
 rw[cc];simp only[bO];rfl
theorem Zdx(ns:List Int):A9 c [.lst (ns.map .int)] S=.ok (.lst ((yK ns).map Pc.t)) S:=by
 have h0:=fD (cellAt ns 0) (show(11:Int)≠0 by decide);have h1:=dZ (cellAt ns 0) (show(0:Int)<11 by decide);have D:=drawn ns 3 (cellAt ns 0%11) h0 (by omega);have eP:=z30 (c:=c) (S:=S) ns 3 (cellAt ns 0%11) (by decide) h0 (by omega);have c0:=Ff (c:=c) (S:=S) ns 0 (by decide);have c1:=Ff (c:=c) (S:=S) ns 1 (by decide);unfold yK;generalize q5 ns 3 (cellAt ns 0%11)=ps at D eP;have b:=Zca (c:=c) (S:=S) (ps:=ps) D.len (t0:=aa (.lst (ns.map .int)));generalize ns.map T.int=NS at c0 c1 eP b ⊢;by_cases h:0<cellAt ns 1 / 8%3
 .rw[if_pos h]
  generalize (ps.map Pc.bare).map Pc.t=QL at b;generalize ps.map Pc.t=PL at eP b;simp[A9,Mo,c0,c1,eP,h,b]
 .rw[if_neg h]
  generalize ps.map Pc.t=PL at eP;simp[A9,Mo,c0,c1,eP,h]
theorem zyr{ps:List Pc}(D:Drawn ps):Drawn (ps.map Pc.bare):=by
 refine⟨?_,by rw[aT];exact D.len,λp hp=>?_,λp hp=>?_,λp hp=>?_,λp hp x hx=>?_⟩
 .rw[bO];exact D.nd
 all_goals obtain⟨q,hq,rfl⟩:=aq.mp hp
 .exact D.pl q hq
 .have:=D.w q hq
  exact⟨by simp[Pc.bare],by simp[Pc.bare],this.2.2.1,this.2.2.2⟩
 .exact D.si q hq
 .rcases hx with h | h | h | h
  .simp[Pc.bare] at h
  .simp[Pc.bare] at h
  .exact D.OA q hq x (.inr (.inr (.inl h)))
  .exact D.OA q hq x (.inr (.inr (.inr h)))
structure v7(ps:List Pc):Prop where
 d:Drawn ps
 sm:∀p∈ps,(cY p.nm).length<=30
 dd:∀p∈ps,∃d:Dd,d.t=p.dd
 O5:ps.length<=10
theorem z4n(ns:List Int):v7 (yK ns):=by
 have h0:=fD (cellAt ns 0) (show(11:Int)≠0 by decide);have h1:=dZ (cellAt ns 0) (show(0:Int)<11 by decide);have D:=drawn ns 3 (cellAt ns 0%11) h0 (by omega);have sm:=z4b ns 3 (cellAt ns 0%11) h0 (by omega);have hd:=z4k ns 3 (cellAt ns 0%11);have pl:(q5 ns 3 (cellAt ns 0%11)).length<=10:=by simp[q5];omega
 unfold yK;generalize q5 ns 3 (cellAt ns 0%11)=ps at D sm hd pl
 split
 .refine⟨zyr D,λp hp=>?_,λp hp=>?_,by simpa using pl⟩
  all_goals obtain⟨q,hq,rfl⟩:=aq.mp hp
  .exact sm q hq
  .exact hd q hq
 .exact⟨D,sm,hd,pl⟩
theorem v7.take{ps:List Pc}(F:v7 ps)(n:Nat):v7 (ps.take n):=by
 have m:∀p∈ps.take n,p∈ps:=λp hp=>List.mem_of_mem_take hp;refine⟨⟨?_,bz (tj ..) F.d.len,λp hp=>F.d.pl p (m p hp),λp hp=>F.d.w p (m p hp),λp hp=>F.d.si p (m p hp),λp hp=>F.d.OA p (m p hp)⟩,λp hp=>F.sm p (m p hp),λp hp=>F.dd p (m p hp),bz (tj ..) F.O5⟩;rw[BK];exact F.d.nd.sublist (wb ..)
theorem z2i{ps:List Pc}(nd:(ps.map (·.nm)).Nodup){p:Pc}(hp:p∈ps):ps.filter (λq=>decide (q.nm=p.nm))=[p]:=by
 induction ps with
 |nil=>cases hp
 | cons a ps ih=>
   rw[aC,dm] at nd;rw[List.filter_cons];rcases aF.mp hp with rfl | hp
   .have:ps.filter (λq=>decide (q.nm=p.nm))=[]:=rz.mpr λq hq e=>nd.1 (aq.mpr ⟨q,hq,by simpa using e⟩)
    simp[this]
   .have:a.nm≠p.nm:=λe=>nd.1 (e▸aq.mpr ⟨p,hp,rfl⟩)
    simp[this,ih nd.2 hp]
theorem z4o{ps:List Pc}(nd:(ps.map (·.nm)).Nodup)(hd:∀p∈ps,∃d:Dd,d.t=p.dd){x:Str}(hx:x∈ps.map (·.nm)){js:List Nat}{ρ:Ev}{it:DI}{tc:DT}{te:DE}{st:bI->Prop}(hl:ps.length<=100)(hi:it ρ S=.ok (ps.map Pc.t,st) S)(hs:st S)
  (ht:∀p∈ps,tc (aa p.t::js.map λj=>(ρ[j]?).join) S=.ok (decide (p.nm=x)) S) (he:∀p∈ps,te (aa p.t::js.map λj=>(ρ[j]?).join) S=.ok (.tup [.str x,p.dd]) S) :
  jN 1 js it (eE 0) tc te fO ρ S=.ok (.lst ((gc ps [x]).map fQ)) S:=by
 have cc:=xF (ρ:=ρ) (S:=S) (js:=js) (it:=it) (tc:=tc) (te:=te) (ts:=ps.map Pc.t) (st:=st) (p:=λt=>match t with|.tup (.str y::_)=>decide (y=x) | _=>false) (f:=λt=>match t with|.tup [_,_,d,_,_]=>.tup [.str x,d] | _=>.bH) hi hs (by simp;omega)
  (λt h=>by obtain⟨p,hp,rfl⟩:=aq.mp h;exact ht p hp) (λt h _=>by obtain⟨p,hp,rfl⟩:=aq.mp h;exact he p hp)
 obtain⟨p,hp,rfl⟩:=aq.mp hx;rw[cc,cI];have:ps.filter ((λt=>match t with|T.tup (.str y::_)=>decide (y=p.nm) | _=>false)∘Pc.t)=[p]:=z2i nd hp;rw[this];have:=VR nd hd hp;simp only[gc,aC,f_,this];rfl
theorem z4p(ps:List Pc)(a b:List Str):gc ps (a++b)=gc ps a++gc ps b:=by simp[gc]
theorem IY{n:Nat}{a b:T}(ha:HB n a)(hb:HB n b):HB n (.tup [a,b]):=vG λt ht=>by
 simp only[aF,cx,or_false] at ht;rcases ht with rfl | rfl
 .exact ha
 .exact hb
theorem z8u(n:Nat)(tag k ru:Str)(ds:List Rd)(m:Int):HB n (gp tag k ru ds m):=by
 unfold gp;cases v5 k ru ds with
 |some q=>exact IY (by simp) (IY (by simp) (by simp))
 |none=>exact IY (by simp) (IY (VP _ _ _ _) (Hq (VO _ _)))
theorem V5{ps:List Pc}{names:List Str}{sec:Str->List Str}{k ru:Str}{n:Int}{res:List Str}(F:v7 ps)(r:CH names sec (kI names ps))(nd:names.Nodup)(hs:∀x∈names,x∈ps.map (·.nm))(hk:k = "all" \/ k = "first" \/ k = "chain" \/ k = "round")(ht:topo sec names.length names []=aa res) :
  xR c [.lst (ps.map Pc.t),aD names,.str k,.str ru,.int n] S=.ok (gp "told" k ru (gc ps res) n) S:=by
 have dl:=F.O5;have nl:names.length<=10:=by
  have:=vR names (ps.map (·.nm)) nd hs;simp at this;omega
 have V6:∀x∈ps.map (·.nm),iY x:=λx hx=>by
  obtain⟨p,hp,rfl⟩:=aq.mp hx;exact F.d.si p hp
 have a2:=Vi (c:=c) (S:=S) (ps:=ps) (names:=names) (by omega) (λp hp=>by have:=F.d.w p hp;omega);have a3:=Vg (c:=c) (S:=S) r (λx hx=>V6 x (hs x hx)) (by omega) nd;rw[ht] at a3;have a3:Ba c [aD names,.lst ((kI names ps).map gD)] S=.ok (aD res) S:=a3;obtain⟨kG,e0,hp,_⟩:=x_ names.length nd rfl ht;rw[bF] at e0;subst e0;have sub:∀x∈res,x∈ps.map (·.nm):=λx hx=>hs x (hp.mem_iff.mp hx);have rl:res.length<=10:=by rw[hp.length_eq];exact nl
 obtain⟨ρ',S',el,⟨x7,rfl⟩,hS⟩:=AV (ρ:=[aa (.lst (ps.map Pc.t)),aa (aD names),aa (.str k),aa (.str ru),aa (.int n),aa (aD res),aa (.obj S.length),ae]) (S:=S++[.lst []]) (it:=iL (ah 5)) (g:=eE 7) (body:=Ig c) (ts:=res.map .str) (st:=λS'=>cW S' (aD res)=aa (res.map .str)) (S1:=S++[.lst []])
  (λpre ρ S'=>(∃x7,ρ=[aa (.lst (ps.map Pc.t)),aa (aD names),aa (.str k),aa (.str ru),aa (.int n),aa (aD res),aa (.obj S.length),x7])/\S'=S++[.lst ((gc ps (res.take pre.length)).map fQ)])
  (by simp[aD]) ⟨⟨_,rfl⟩,by simp[gc]⟩ (λpre t post ρ S' oX ⟨⟨x7,hρ⟩,hS⟩=>by
   subst hρ hS;obtain⟨A,B,rfl,hA,hB⟩:=dU.mp oX;obtain⟨x,B,rfl,rfl,hB⟩:=eG.mp hB;have cK:pre.length=A.length:=by rw[<- hA];simp
   have e1:(A++x::B).take pre.length=A:=by rw[cK];simp
   have e2:(A++x::B).take (pre++[T.str x]).length=A++[x]:=by
    rw[aO,ba,cK];exact Fv ..
   rw[e1,e2,z4p];have oc:=z4o (S:=S++[.lst ((gc ps A).map fQ)]) F.d.nd F.dd (sub x (by simp)) (js:=[7]) (ρ:=[aa (.lst (ps.map Pc.t)),aa (aD names),aa (.str k),aa (.str ru),aa (.int n),aa (aD (A++x::B)),aa (.obj S.length),aa (.str x)]) (it:=MV c) (tc:=MW c) (te:=MU c) (st:=λS'=>cW S' (.lst (ps.map Pc.t))=aa (ps.map Pc.t)) (by omega) (by simp[MV]) rfl
    (λp hp=>by simp[MW,Pc.t]) (λp hp=>by simp[MU,Pc.t])
   have al:A.length<=10:=by simp at rl;omega
   have ex:=Ho (S:=S++[.lst ((gc ps A).map fQ)]) (k:=S.length) (y:=.lst ((gc ps [x]).map fQ)) qm rfl (by simp[gc];omega);rw[Fg] at ex;have zI:=nS (S:=S++[.lst ((gc ps A).map fQ)]) (k:=S.length) qm;refine⟨by simp[aD],_,rfl,[aa (.lst (ps.map Pc.t)),aa (aD names),aa (.str k),aa (.str ru),aa (.int n),aa (aD (A++x::B)),aa (.obj S.length),aa (.str x)],S++[.lst ((gc ps A).map fQ++(gc ps [x]).map fQ)],?_,⟨_,rfl⟩,by rw[bo]⟩;show Ig c [aa (.lst (ps.map Pc.t)),aa (aD names),aa (.str k),aa (.str ru),aa (.int n),aa (aD (A++x::B)),aa (.obj S.length),aa (.str x)] _=_;generalize S++[cg.lst ((gc ps A).map fQ++(gc ps [x]).map fQ)]=Z2 at ex ⊢;generalize S++[cg.lst ((gc ps A).map fQ)]=Z1 at oc ex zI ⊢;generalize aD (A++x::B)=RT at oc ⊢;generalize aD names=NT at oc ⊢;generalize ps.map Pc.t=PL at oc ⊢;generalize (gc ps [x]).map fQ=OL at oc ex;simp[Ig,zI,oc,ex]) (λ_ _ _=>rfl)
 rw[aT,hZ] at hS;subst hS;have By:∀p∈gc ps res,iY p.1:=λp oY=>by
  obtain⟨x,hx,rfl⟩:=aq.mp oY;exact V6 x (sub x hx)
 have ou:=zyp (c:=c) (S:=S++[.lst ((gc ps res).map fQ)]) (k:=k) (ru:=ru) (ds:=gc ps res) (m:=n) (t:=.obj S.length) hk (z1t qm) By (by rw[O1];omega);rw[z8r] at ou;refine Ex (S':=S++[.lst ((gc ps res).map fQ)]) ?_ (by simp) (z8u _ _ _ _ _ _);refine zH (ρ:=[aa (.lst (ps.map Pc.t)),aa (aD names),aa (.str k),aa (.str ru),aa (.int n),ae,ae,ae]) rfl ?_;unfold TK;refine(mQ (q_ (sX (jw rfl (jw (sX (jw rfl (jw rfl rfl)) rfl a2) rfl)) rfl a3))).trans ?_;refine(mQ (q_ (t:=.obj S.length) (S1:=S++[.lst []]) (by simp))).trans ?_;refine(mQ el).trans ?_;exact IU (sX (jw rfl (jw rfl (jw rfl (jw rfl rfl)))) rfl ou)
end DN
namespace DN
open PySem L2 MF
variable {c:Cl}{S:bI}
theorem z8v{dG:List HP}{ps:List Pc}{P:Str->Bool}{a b:Str}(h:b∈jv (dS ps P) (j_ dG P) a):b∈jv (bV ps) (dG.filter gK) a:=by
 obtain⟨q,hq,hc⟩:=CD.mp h;refine CD.mpr ⟨q,(aN.mp hq).1,?_⟩;rcases hc with⟨e,h1,h2⟩ | ⟨e,h1,h2⟩
 .exact .inl ⟨e,h1,(aN.mp h2).1⟩
 .exact .inr ⟨e,h1,(aN.mp h2).1⟩
theorem zvs{names:List Str}{x:Str}{ρ:Ev}(h6:ρ[6]?=aa (aa (aD names)))(Ua:ρ[11]?=aa (aa (.str x)))(hl:names.length<=100):jN 1 [11] (Ii c) (eE 0) (Ij c) (Ih c) fO ρ S=.ok (aD (names.filter (ko x))) S:=by
 have cc:=xF (ρ:=ρ) (S:=S) (js:=[11]) (it:=Ii c) (tc:=Ij c) (te:=Ih c) (ts:=names.map .str) (st:=λS'=>cW S' (aD names)=aa (names.map .str))
  (p:=λt=>match t with|.str y=>ko x y | _=>false) (f:=id)
  (by simp[Ii,h6,aD]) rfl (by simp;omega) (λt ht=>by
   obtain⟨y,_,rfl⟩:=aq.mp ht;simp[Ij,ko,Ua]) (λt ht _=>by simp[Ih])
 rw[cc,cI,k7];rfl
def O6(c:Cl):DS:=(aX (gs (eK (e2 tS (ah 7) (eC .bH))) (cq (e2 gG (ah 8) (eA gm (aV (eC (.str "ring")) aK)))) gU) (aX (cE 9 (fw (bx 5 (xR c)) [] (aV (ah 1) (aV (ah 6) (aV (ah 2) (aV (ah 3) (aV (ah 4) aK))))))) (aX (cE 10 (eA iR aK)) (aX (eX (iL (ah 7)) (eE 11) (E_ c)) (cq (xx (fw (bx 2 (xS c)) [] (aV (ah 8) (aV (ah 10) aK))) (fw (bx 2 (xS c)) [] (aV (jO c.hall "at" (bx 2 (q0 c)) [] (ah 5) (aV (eC (.str "hub")) aK)) (aV (ah 6) aK)))))))))
theorem O7(nd:[c.ring,c.deedFault].Nodup)(ns:List Int):TN c [.lst (ns.map .int)] []=.ok (.bl true) []:=by
 have F:=(z4n ns).take 8;have eS:=Zdx (c:=c) (S:=[]) ns;have cut:rX ((yK ns).map Pc.t) ae (aa 8)=((yK ns).take 8).map Pc.t:=by
  unfold rX;rw[HT.u6,show(aa 8:Option Int)=aa ((8:Nat):Int) from rfl,HT.xc,pe,Nat.sub_zero,<- BK,aT];congr 1;rw[<- List.take_eq_take_min]
 have c1:=Ff (c:=c) (S:=[]) ns 1 (by decide);have c2:=Ff (c:=c) (S:=[]) ns 2 (by decide);have e1:uB (fw (bx 1 (A9 c)) [] (aV (ah 0) aK)) uz (uA (eC (.int 8))) [aa (.lst (ns.map .int)),ae,ae,ae,ae,ae,ae,ae,ae,ae,ae,ae,ae] []=.ok (.lst (((yK ns).take 8).map Pc.t)) []:=by
  rw[<- cut];generalize (yK ns).map Pc.t=PL at eS;generalize ns.map T.int=NS at eS ⊢;simp[uB,uz,uA,eS]
 generalize (yK ns).take 8=ps at F e1;have k1:=z8m (cellAt ns 1);have k2:=z8n (cellAt ns 1);have hk:=z8o (cellAt ns 1);have hr:=z8p (cellAt ns 1);generalize zL (cellAt ns 1)=kind at k1 hk;generalize CS (cellAt ns 1)=rule at k2 hr;have D:=F.d;have dl:=F.O5;have W:=D.drw F.sm;obtain⟨S1,dG,eH,H,qR,-⟩:=zyj (c:=c) (S:=[]) (kind:=kind) (rule:=rule) D.nd (by omega) D.pl (λp hp=>by have:=D.w p hp;omega);have a1:=z4a (c:=c) (S:=S1) (ps:=ps) (by omega);have r:=Zby qR D.nd;have IZ:=CK D.nd;have hl:=CL ps;have kH:∀x∈bV ps,x∈ps.map (·.nm):=λx hx=>by
  obtain⟨p,hp,rfl⟩:=FF hx;exact aq.mpr ⟨p,hp,rfl⟩
 have si:∀x∈bV ps,iY x:=λx hx=>by
  obtain⟨p,hp,rfl⟩:=FF hx;exact D.si p hp
 have a2:=Vi (c:=c) (S:=S1) (ps:=ps) (names:=bV ps) (by omega) (λp hp=>by have:=D.w p hp;omega);have a3:=Vg (c:=c) (S:=S1) r si (by omega) IZ;have hq:(vY kind rule ([]:bI).length).find? (λp=>decide (p.nm=("hub" : Str)))=aa ⟨"hub",kind,rule,0+3⟩:=by simp[vY]
 obtain⟨m1,m2⟩:=z4m (n:=cellAt ns 2%2001-1000) H hq qR W F.dd D.si hk hr;generalize ns.map T.int=NS at c1 c2 e1 ⊢;generalize hn:cellAt ns 2%2001-1000=n at m1 m2;have e2:qM [c.ring,c.deedFault] c.ring c.ring=aa true:=by simp[qM]
 suffices eV:∃x8 S2 S',Cr c [.obj 0,.int n] S1=.ok x8 S2/\O6 c [aa (.lst NS),aa (.lst (ps.map Pc.t)),aa (.str kind),aa (.str rule),aa (.int n),aa (.obj 0),aa (aD (bV ps)),aa (match topo (jv (bV ps) (dG.filter gK)) (bV ps).length (bV ps) [] with|some res=>aD res | none=>.bH),aa x8,ae,ae,ae,ae] S2=.ok (.rt (.bl true)) S' by
  obtain⟨x8,S2,S',e8,ef⟩:=eV;refine Ex (S':=S') (zH (ρ:=[aa (.lst NS),ae,ae,ae,ae,ae,ae,ae,ae,ae,ae,ae,ae]) rfl ?_) rfl (Zdj _ _);unfold TM;refine(mQ (q_ e1)).trans ?_;refine(mQ (q_ (t:=.str kind) (S1:=[]) ?_)).trans ?_
  .generalize ps.map Pc.t=PL
   simp[c1,k1]
  refine(mQ (q_ (t:=.str rule) (S1:=[]) ?_)).trans ?_
  .generalize ps.map Pc.t=PL
   simp[c1,k2]
  refine(mQ (q_ (t:=.int n) (S1:=[]) ?_)).trans ?_
  .generalize ps.map Pc.t=PL
   simp[c2,hn]
  refine(mQ (q_ (sX (jw rfl (jw rfl (jw rfl rfl))) rfl eH))).trans ?_;refine(mQ (q_ (sX (jw rfl rfl) rfl a1))).trans ?_;refine(mQ (q_ (sX (jw rfl (jw (sX (jw rfl (jw rfl rfl)) rfl a2) rfl)) rfl a3))).trans ?_;refine(mQ (q_ (sX (jw rfl (jw rfl rfl)) rfl e8))).trans ?_;exact ef
 cases q:topo (jv (bV ps) (dG.filter gK)) (bV ps).length (bV ps) [] with
 | none=>
   obtain⟨S2,fs,e,-⟩:=m2 q;have e:xO c [.obj 0,.str "hub",.int n] S1=.exc c.ring fs S2:=e;have er:=z8c (S:=S2);refine⟨.tup [.str "ring"],S2,S2,by simp[Cr,MT,Ib,e,Hs,e2,qL,TJ,nT],?_⟩;unfold O6;exact OJ (by simp[tS,pC,er])
 | some res=>
   have ex:∀x,∃l,topo (jv (dS ps (ko x)) (j_ dG (ko x))) (dS ps (ko x)).length (dS ps (ko x)) []=aa l:=λx=>z4l IZ q (λy hy=>(aN.mp hy).1) (λa _ b hb=>z8v hb) (CT D.nd);obtain⟨rs,wM⟩:∃rs:Str->List Str,∀x,topo (jv (dS ps (ko x)) (j_ dG (ko x))) (dS ps (ko x)).length (dS ps (ko x)) []=aa (rs x):=⟨λx=>(ex x).choose,λx=>(ex x).choose_spec⟩;obtain⟨S2,E2,e⟩:=m1 res q rs wM;have e:xO c [.obj 0,.str "hub",.int n] S1=.ok (aD (res.filter λx=>wO kind rule n (gc ps (rs x)) (gc ps res))) S2:=e;generalize hD:(λx=>wO kind rule n (gc ps (rs x)) (gc ps res))=dF at e;have hx:∀x,dF x=wO kind rule n (gc ps (rs x)) (gc ps res):=λx=>by rw[<- hD]
   have H2:=H.keep E2.same;obtain⟨kG,e0,hp,_⟩:=x_ (bV ps).length IZ rfl q;rw[bF] at e0;subst e0;have rl:res.length<=10:=by rw[hp.length_eq];omega
   have By:∀l:List Str,(∀x∈l,x∈bV ps)->∀p∈gc ps l,iY p.1:=λl hl p oY=>by
    obtain⟨x,hx,rfl⟩:=aq.mp oY;exact si x (hl x hx)
   have O8:∀x,∀y∈rs x,y∈bV ps:=λx y hy=>by
    obtain⟨t2,e0,oY,_⟩:=x_ (dS ps (ko x)).length (CT D.nd) rfl (wM x);rw[bF] at e0;rw[e0] at hy;exact(aN.mp (oY.mem_iff.mp hy)).1
   have w1:=λZ:bI=>V5 (c:=c) (S:=Z) (k:=kind) (ru:=rule) (n:=n) F r IZ kH hk q;have w2:=λ(Z:bI) (x:Str)=>V5 (c:=c) (S:=Z) (k:=kind) (ru:=rule) (n:=n) F (z8q (P:=ko x) qR D.nd) (CT D.nd) (λy hy=>kH y (aN.mp hy).1) hk (wM x);refine⟨aD (res.filter dF),S2,S2++[.lst ((res.filter dF).map .str)],by
    generalize aD (res.filter dF)=L at e;simp[Cr,MT,Ib,e],?_⟩
   have O9:=Uu (c:=c) (S:=S2++[.lst ((res.filter dF).map .str)]) (t:=.obj S2.length) (res.filter dF) (by have:=d7 dF res;omega) (FA (nC qm));obtain⟨ρ',S',el,⟨O_,FQ,rfl⟩,hS⟩:=AV (ρ:=[aa (.lst NS),aa (.lst (ps.map Pc.t)),aa (.str kind),aa (.str rule),aa (.int n),aa (.obj 0),aa (aD (bV ps)),aa (aD res),aa (aD (res.filter dF)),aa (gp "told" kind rule (gc ps res) n),aa (.obj S2.length),ae,ae]) (S:=S2++[.lst []]) (it:=iL (ah 7)) (g:=eE 11) (body:=E_ c) (ts:=res.map .str) (st:=λS'=>cW S' (aD res)=aa (res.map .str)) (S1:=S2++[.lst []])
    (λpre ρ S'=>(∃O_ FQ,ρ=[aa (.lst NS),aa (.lst (ps.map Pc.t)),aa (.str kind),aa (.str rule),aa (.int n),aa (.obj 0),aa (aD (bV ps)),aa (aD res),aa (aD (res.filter dF)),aa (gp "told" kind rule (gc ps res) n),aa (.obj S2.length),O_,FQ])/\S'=S2++[.lst (((res.take pre.length).filter dF).map .str)])
    (by simp[aD]) ⟨⟨_,_,rfl⟩,by simp⟩ (λpre t post ρ S' oX ⟨⟨O_,FQ,hρ⟩,hS⟩=>by
     subst hρ hS;have hx:∃A x B,res=A++x::B/\t=.str x/\pre.length=A.length:=by
      obtain⟨A,B,e3,hA,hB⟩:=dU.mp oX;obtain⟨x,B,e4,e5,hB⟩:=eG.mp hB;exact⟨A,x,B,by rw[e3,e4],e5.symm,by rw[<- hA];simp⟩
     obtain⟨A,x,B,er,rfl,cK⟩:=hx;have k1:res.take pre.length=A:=by rw[cK,er];simp
     have k2:res.take (pre++[T.str x]).length=A++[x]:=by
      rw[aO,ba,cK,er];exact Fv ..
     rw[k1,k2,List.filter_append];have al:A.length<=10:=by rw[er] at rl;simp at rl;omega
     have fl:=d7 dF A;refine⟨rfl,_,rfl,?_⟩;generalize aD (res.filter dF)=L8;generalize hAl:A.filter dF=Al at fl ⊢;have oc:=zvs (c:=c) (S:=S2++[.lst (Al.map .str)]) (names:=bV ps) (x:=x) (ρ:=[aa (.lst NS),aa (.lst (ps.map Pc.t)),aa (.str kind),aa (.str rule),aa (.int n),aa (.obj 0),aa (aD (bV ps)),aa (aD res),aa L8,aa (gp "told" kind rule (gc ps res) n),aa (.obj S2.length),aa (.str x),FQ]) rfl rfl (by omega);have cw:=w2 (S2++[.lst (Al.map .str)]) x;have ne:=V1 (S:=S2++[.lst (Al.map .str)]) (tag := "told") (k:=kind) (ru:=rule) (m:=n) (.inl rfl) (By (rs x) (O8 x)) (By res λy hy=>hp.mem_iff.mp hy);have ap:=vF (S:=S2++[.lst (Al.map .str)]) (k:=S2.length) (y:=.str x) qm (by simp;omega);rw[Fg] at ap;have zI:=nS (S:=S2++[.lst (Al.map .str)]) (k:=S2.length) qm;have eN:aD ((bV ps).filter (ko x))=aD (dS ps (ko x)):=rfl;rw[eN] at oc;refine⟨[aa (.lst NS),aa (.lst (ps.map Pc.t)),aa (.str kind),aa (.str rule),aa (.int n),aa (.obj 0),aa (aD (bV ps)),aa (aD res),aa L8,aa (gp "told" kind rule (gc ps res) n),aa (.obj S2.length),aa (.str x),aa (aD (dS ps (ko x)))],S2++[.lst ((Al++[x].filter dF).map .str)],?_,⟨_,_,rfl⟩,rfl⟩;show E_ c [aa (.lst NS),aa (.lst (ps.map Pc.t)),aa (.str kind),aa (.str rule),aa (.int n),aa (.obj 0),aa (aD (bV ps)),aa (aD res),aa L8,aa (gp "told" kind rule (gc ps res) n),aa (.obj S2.length),aa (.str x),FQ] _=_;unfold E_;refine(mQ (q_ oc)).trans ?_;have cw:=sX (F:=xR c) (fr:=aV (ah 1) (aV (ah 12) (aV (ah 2) (aV (ah 3) (aV (ah 4) aK))))) (ρ:=[aa (.lst NS),aa (.lst (ps.map Pc.t)),aa (.str kind),aa (.str rule),aa (.int n),aa (.obj 0),aa (aD (bV ps)),aa (aD res),aa L8,aa (gp "told" kind rule (gc ps res) n),aa (.obj S2.length),aa (.str x),aa (aD (dS ps (ko x)))]) (n:=5) (jw rfl (jw rfl (jw rfl (jw rfl (jw rfl rfl))))) rfl cw;show gs (eK (MF.e2 mI (fw (bx 5 (xR c)) [] (aV (ah 1) (aV (ah 12) (aV (ah 2) (aV (ah 3) (aV (ah 4) aK)))))) (ah 9))) (jr (kD kS jG (ah 10) (aV (ah 11) aK))) gU [aa (.lst NS),aa (.lst (ps.map Pc.t)),aa (.str kind),aa (.str rule),aa (.int n),aa (.obj 0),aa (aD (bV ps)),aa (aD res),aa L8,aa (gp "told" kind rule (gc ps res) n),aa (.obj S2.length),aa (.str x),aa (aD (dS ps (ko x)))] _=_;generalize fw (bx 5 (xR c)) [] (aV (ah 1) (aV (ah 12) (aV (ah 2) (aV (ah 3) (aV (ah 4) aK)))))=CC at cw ⊢;generalize gp "told" kind rule (gc ps res) n=W0 at cw ne ⊢;generalize gp "told" kind rule (gc ps (rs x)) n=W1 at cw ne;generalize aD (dS ps (ko x))=SN at cw ⊢;generalize aD (bV ps)=HN at cw ⊢;generalize aD res=RN at cw ⊢;generalize ps.map Pc.t=PL at cw ⊢;rw[<- hx] at ne;cases dq:dF x with
     | true=>
       rw[dq] at ne;simp[cw,ne,zI,ap,dq]
     | false=>
       rw[dq] at ne;simp[cw,ne,dq]) (λ_ _ _=>rfl)
   rw[aT,hZ] at hS;subst hS;have H4:=H2.app (L:=[.lst ((res.filter dF).map .str)]);have ea:=yA H4 hq (by have:=IL qR;omega);have yH:(dG.filter gK).map (·.nm)=bV ps:=FE (yF qR);have ea:q0 c [.obj 0,.str "hub"] (S2++[.lst ((res.filter dF).map .str)])=.ok (aD ((dG.filter gK).map (·.nm))) (S2++[.lst ((res.filter dF).map .str)]):=ea;rw[yH] at ea;have Pa:=z72 (c:=c) (S:=S2++[.lst ((res.filter dF).map .str)]) (bV ps) (by omega);have ma:=q8 (m:=ao "at") 0 (by simp) (by simp);have i0:o7 (S2++[.lst ((res.filter dF).map .str)]) c.hall (.obj 0)=aa (0,qo 0):=H4.ins;unfold O6;refine(mQ (r:=[aa (.lst NS),aa (.lst (ps.map Pc.t)),aa (.str kind),aa (.str rule),aa (.int n),aa (.obj 0),aa (aD (bV ps)),aa (aD res),aa (aD (res.filter dF)),ae,ae,ae,ae]) (S1:=S2) ?_).trans ?_
   .generalize aD (res.filter dF)=L8
    generalize ps.map Pc.t=PL;simp[tS,pC,aD]
   refine(mQ (q_ (sX (jw rfl (jw rfl (jw rfl (jw rfl (jw rfl rfl))))) rfl (w1 S2)))).trans ?_;refine(mQ (q_ (t:=.obj S2.length) (S1:=S2++[.lst []]) (by simp))).trans ?_;refine(mQ el).trans ?_;generalize S2++[cg.lst ((res.filter dF).map .str)]=S4 at O9 Pa ea i0 ⊢;generalize aD (res.filter dF)=L8 at O9 ⊢;generalize gp "told" kind rule (gc ps res) n=W0;generalize aD (bV ps)=HN at Pa ea ⊢;generalize aD res=RN;generalize ps.map Pc.t=PL;simp[O9,Pa,ea,i0,ma,xx]
end DN
namespace MF
open PySem L2
theorem u{d k:Nat}{A:Nat->Prop}(h:∀k,d<=k->A k)(hd:d<=k:=by decide):A k:=h k hd
section
variable {P:aR}{w:bu}{K:aM}{mg:Str->Option af}{base h:bN}{x m qual:Str}{st:bR}{dV:af}{ps:List Str}{C f:ai}{fd:bA}{F:Fn}{d:Nat}
structure FV(K:aM)(x qual:Str)(st:bR)(dV:af)(ps:List Str)(f:ai)(fd:bA):Prop where
 v:cO K x qual st dV f fd
 b:mH K fd ps []
structure FN(K:aM)(x:Str)(st:bR)(ps:List Str)(f:ai)(fd:bA):Prop extends FV K x x st .none ps f fd where
 a:qd K bp x=aa (aa (.ref f))
structure FM(K:aM)(C:ai)(m qual:Str)(st:bR)(dV:af)(ps:List Str)(f:ai)(fd:bA):Prop extends FV K m qual st dV ps f fd where
 a:eQ K (.ref C) m=aa (aa (.ref f))
 i:gE K (.ref f)=true
structure CM(K:aM)(x:Str)(C:ai):Prop where
 a:qd K bp x=aa (aa (.ref C))
 Hl:PySem.W.makesIn K C=true
 kp:iJ K (.ref C)=true
theorem FN.up(y:FN K x st ps f fd)(X:K.In h)(G:h.Ns bp mg)(o:bE P w K mg base (dP P w) d f fd ps (fE ps.length F)):∀k,d<=k->FnAt P w K mg base k x ps F f fd:=λ_ q=>⟨o.mono q,wY X G y.a,y.v.kp,y.b⟩
theorem FM.up(y:FM K C m qual st dV ps f fd)(c:nq K C)(o:bE P w K mg base (dP P w) d f fd ps (fE ps.length F)):∀k,d<=k->fY P w K mg base k C m ps F f fd:=λ_ q=>⟨o.mono q,c,⟨y.a,y.i,y.v.kp⟩,y.b⟩
theorem FM.mk'(y:FM K C "__init__" qual st dV ps f fd)(c:CM K x C)(X:K.In h)(G:h.Ns bp mg)(o:bE P w K mg base (dP P w) d f fd ps (fE ps.length F)):∀k,d<=k->rW P w K mg base k x C ps F f fd:=λ_ q=>⟨o.mono q,wY X G c.a,⟨c.Hl,y.a,y.i,c.kp⟩,y.b⟩
variable {oc:af}{od an:Option ai}{sl:Array (Option af)}{kV dc pm cd ct:af}
theorem Zdy(a:qd K bp x=aa (aa (.ref f)))(l:K.lookup f=aa ⟨oc,od,.func (e_ x x (qE st) (oj st) (d8 st) .none kV dc pm an cd ct),sl⟩)(c:og K cd x=true)(k:iJ K (.ref f)=true)
 (b:∀(kV nr pm:af) (an:Option ai) (gT ct:af) (us:List af),us.length=ps.length->yL (e_ x x (qE st) (oj st) (d8 st) .none kV nr pm an gT ct) ⟨us,[]⟩=pure (ps.zip us)):FN K x st ps f (e_ x x (qE st) (oj st) (d8 st) .none kV dc pm an cd ct):=⟨⟨(GI l c k).toV,(GI l c k).binds b⟩,a⟩
theorem Zdz(a:eQ K (.ref C) x=aa (aa (.ref f)))(i:gE K (.ref f)=true)(l:K.lookup f=aa ⟨oc,od,.func (e_ x qual (qE st) (oj st) (d8 st) .none kV dc pm an cd ct),sl⟩)(c:og K cd qual=true)(k:iJ K (.ref f)=true)
 (b:∀(kV nr pm:af) (an:Option ai) (gT ct:af) (us:List af),us.length=ps.length->yL (e_ x qual (qE st) (oj st) (d8 st) .none kV nr pm an gT ct) ⟨us,[]⟩=pure (ps.zip us)):FM K C x qual st .none ps f (e_ x qual (qE st) (oj st) (d8 st) .none kV dc pm an cd ct):=⟨⟨(GI l c k).toV,(GI l c k).binds b⟩,a,i⟩
theorem V7(a:eQ K (.ref C) x=aa (aa (.ref f)))(i:gE K (.ref f)=true)(l:K.lookup f=aa ⟨oc,od,.func (e_ x qual (qE st) (oj st) (d8 st) dV kV dc pm an cd ct),sl⟩)(c:og K cd qual=true)(k:iJ K (.ref f)=true)(b:mH K (e_ x qual (qE st) (oj st) (d8 st) dV kV dc pm an cd ct) ps []):FM K C x qual st dV ps f (e_ x qual (qE st) (oj st) (d8 st) dV kV dc pm an cd ct):=⟨⟨⟨⟨_,_,_,_,_,_,_,_,_,rfl,l,c⟩,k⟩,b⟩,a,i⟩
end
end MF
namespace K08
open PySem L2 MF DN
theorem nZ{K:W.Frag}{T:ai}{oc:af}{od an:Option ai}{sl:Array (Option af)}{n:Nat}{kV dc pm cd ct:af}(l:K.lookup T=aa ⟨oc,od,.seq #[.none] n,sl⟩):mH K (W.fnOf "hang" "Hall.hang" (qE Bl) (oj Bl) (d8 Bl) (.ref T) kV dc pm an cd ct) ["self", "name", "place", "deed", "by"] []:=λs us X hl=>by
 obtain⟨_,_,_,_,_,rfl⟩:=EE (show us.length=5 by simpa using hl);exact W.binds_K X rfl l rfl rfl rfl
theorem zo7{K:W.Frag}{T f:ai}{oc:af}{od:Option ai}{sl:Array (Option af)}{n:Nat}{fd:bA}(v:cO K "hang" "Hall.hang" Bl (.ref T) f fd)(l:K.lookup T=aa ⟨oc,od,.seq #[.none] n,sl⟩):mH K fd ["self", "name", "place", "deed", "by"] [.none]:=λs us X hl=>by
 obtain⟨_,_,_,_,_,_,_,_,_,rfl,_,_⟩:=v.ex;obtain⟨_,_,_,_,rfl⟩:=ED (show us.length=4 by simpa using hl);exact W.binds_K X rfl l rfl rfl rfl
theorem n5{K:W.Frag}{T:ai}{oc:af}{od an:Option ai}{sl:Array (Option af)}{n:Nat}{kV dc pm cd ct:af}(l:K.lookup T=aa ⟨oc,od,.seq #[.none,.none,.none,.none] n,sl⟩):mH K (W.fnOf "wish" "Hall.wish" (qE Cu) (oj Cu) (d8 Cu) (.ref T) kV dc pm an cd ct) ["self", "name", "ahead", "behind", "needs", "bars"] []:=λs us X hl=>by
 obtain⟨_,_,_,_,_,_,rfl⟩:=L_ (show us.length=6 by simpa using hl);exact W.binds_K X rfl l rfl rfl rfl
theorem all_mk{l:W.OpenLaw}{w:bu}{K:W.Frag}{h:bN}{mg:Str->Option af}{fa:ai}{yn yh CU y8 y4 yb y1 y4f y6a y6j y6f y58 y7d y3e y2v y2p y2k y2x y5s V8 y2l y7l y63 V9 y4r y6x y5i y66 y5l y64 y6d y2b V_ y6h y7m y3b y6z y4l y6b y5c y3z y5g y7h y77 y5b y3m y40 y38 V' y4c y45 y50 y74 y2f y4e y3d y5x y6m y61 y6v y4z y4t y44 y5m y2:ai}  {y4x y4o:Option ai}{y49 y4p:Array (Option af)}{y4u y4a:af}{y3g y3i:Tok}{y52 y54:Nat}{y4k y6c y6n y6t y4y y70 y3n y2y y2m y2n y32 y5t y2q y7j y5r y4q y6w y59 y6g y5v y5u y6l y28 y2a y69 y7n y3j y6s y4d y6q y51 y3y y55 y7g y72 y5f y3r y43 y3f y39 y4j y3v y5d y79 y2d y47 y3l y62 y68 y5p y67 y5a y4s y3u y5o y3:bA}
  (X:K.In h) (G:h.Ns bp mg) (hfa:mg "law" = aa (.ref fa))
  (y1v:W.nsIn K bp "HallError" = aa (aa (.ref y4)))
  (y4i:W.nsIn K bp "Ring" = aa (aa (.ref yb)))
  (y1x:W.nsIn K bp "DeedFault" = aa (aa (.ref y1)))
  (y5k:CM K "Hall" yn)
  (yt:nq K yn)
  (y48:CM K "Piece" yh)
  (y3q:nq K yh)
  (y4g:CM K "Place" CU)
  (y37:nq K CU)
  (y76:CM K "Run" y8)
  (yv:nq K y8)
  (y08:FN K "_law_cell_at" MY ["script", "k"] y4f y4k)
  (y1h:FN K "_law_name" MZ ["k"] y6a y6c)
  (y1e:FN K "_law_some" M0 ["cell", "many"] y6j y6n)
  (y1f:FN K "_law_deed" M1 ["cell"] y6f y6t)
  (y0p:FN K "_law_pieces" M3 ["script", "start", "many"] y58 y4y)
  (y23:FN K "_law_set" M4 ["script"] y7d y70)
  (yl:FM K yn "__init__" "Hall.__init__" M6 .none ["self"] y3e y3n)
  (yk:FM K CU "__init__" "Place.__init__" M7 .none ["self", "kind", "rule"] y2v y2y)
  (yd:FM K yn "open_place" "Hall.open_place" M8 .none ["self", "name", "kind", "rule"] y2p y2m)
  (yf:FM K yn "find_place" "Hall.find_place" M9 .none ["self", "name"] y2k y2n)
  (yj:FM K yh "__init__" "Piece.__init__" M_ .none ["self", "place", "deed", "by"] y2x y32)
  (y07:FM K yn "hang" "Hall.hang" Bl (.ref V8) ["self", "name", "place", "deed", "by"] y5s y5t)
  (y26:K.lookup V8=aa ⟨y4u,y4x,.seq #[.none] y52,y49⟩)
  (yc:FM K yn "find_piece" "Hall.find_piece" M' .none ["self", "name"] y2l y2q)
  (y2h:FN K "wished" Na ["names"] y7l y7j)
  (y12:FM K yn "wish" "Hall.wish" Cu (.ref V9) ["self", "name", "ahead", "behind", "needs", "bars"] y63 y5r)
  (y2z:K.lookup V9=aa ⟨y4a,y4o,.seq #[.none,.none,.none,.none] y54,y4p⟩)
  (y06:FM K yn "switch" "Hall.switch" Nb .none ["self", "name", "on"] y4r y4q)
  (y1o:FN K "_law_hall" Nc ["pieces", "kind", "rule"] y6x y6w)
  (y0k:FN K "_law_at_hub" Nd ["pieces"] y5i y59)
  (y1g:FN K "_law_free" Nf ["name", "left", "pairs"] y66 y6g)
  (y0y:FN K "_law_order" Ng ["names", "pairs"] y5l y5v)
  (y11:FN K "_law_pairs" Nh ["pieces", "names"] y64 y5u)
  (y1i:FM K y8 "over" "Run.over" Nj .none ["self"] y6d y6l)
  (y7:FM K y8 "leave_the_rest" "Run.leave_the_rest" Nk .none ["self"] y2b y28)
  (y6:FM K y1 "__init__" "DeedFault.__init__" Nl .none ["self", "piece", "code"] V_ y2a)
  (y1l:FM K y8 "fall" "Run.fall" Nm .none ["self", "name", "code"] y6h y69)
  (y46:FN K "said" Nn ["deed", "number"] y7m y7n)
  (yo:FM K y8 "go_within" "Run.go_within" Np .none ["self", "deed"] y3b y3j)
  (y1j:FM K y8 "hear" "Run.hear" Nq .none ["self", "number"] y6z y6s)
  (y02:FM K y8 "perform" "Run.perform" Nr .none ["self", "name", "deed"] y4l y4d)
  (y1m:FM K y8 "step" "Run.step" Nt .none ["self"] y6b y6q)
  (y0n:FM K y8 "faults" "Run.faults" Nu .none ["self"] y5c y51)
  (yy:FN K "brought_back" Nv ["number", "around"] y3z y3y)
  (y0l:FM K y8 "answer" "Run.answer" Nw .none ["self"] y5g y55)
  (y2i:FN K "finish" Nx ["run"] y7h y7g)
  (y25:FN K "outcome" Ny ["run"] y77 y72)
  (y0i:FN K "seconds_of" NA ["hall", "names"] y5b y5f)
  (yq:FN K "earliest_free" NB ["seconds", "left"] y3m y3r)
  (yx:FN K "ring_through" NC ["seconds", "start"] y40 y43)
  (ym:FN K "shortest_ring" ND ["seconds"] y38 y3f)
  (ya:FM K yb "__init__" "Ring.__init__" NF .none ["self", "ring"] V' y39)
  (y09:FN K "order_among" NG ["hall", "names"] y4c y4j)
  (yw:FM K y8 "__init__" "Run.__init__" NH .none ["self", "kind", "rule", "number", "deeds"] y45 y3v)
  (y0m:FN K "begin_over" NI ["hall", "place", "names", "number"] y50 y5d)
  (y24:FM K yn "at" "Hall.at" NK .none ["self", "place"] y74 y79)
  (y9:FN K "begin" NM ["hall", "place", "number"] y2f y2d)
  (y04:FN K "order" NN ["hall", "place"] y4e y47)
  (yp:FN K "begin_without" NO ["hall", "place", "name", "number"] y3d y3l)
  (y0z:FN K "mattering" NP ["hall", "place", "number"] y5x y62)
  (y1n:FN K "_law_told" NQ ["hall", "number"] y6m y68)
  (ye:FN K "_law_round" Ip ["rows", "number", "held"] y61 y5p)
  (y1k:FN K "_law_said" NR ["deed", "number"] y6v y67)
  (y0q:FN K "_law_answer" NU ["kind", "rows", "number", "held"] y4z y5a)
  (y05:FN K "_law_outcome" NV ["kind", "rule", "rows", "number"] y4t y4s)
  (yu:FN K "_law_comes_to" NX ["pieces", "names", "kind", "rule", "number"] y44 y3u)
  (y10:FN K "_law_texts" NY ["found", "due"] y5m y5o)
  (y0:FN K "law" Cw ["script"] y2 y3)
  (y7b:W.nsIn K bp "any" = aa ae)
  (y0c:W.nsIn K bp "MOST_PIECES" = aa (aa (.int 24 y3g)))
  (y0f:W.nsIn K bp "MOST_PLACES" = aa (aa (.int 8 y3i)))
  (y0h:W.findIn K (.ref yn) "pieces" = aa ae)
  (y0d:W.findIn K (.ref yn) "places" = aa ae)
  (y0g:W.findIn K (.ref yh) "ahead" = aa ae)
  (y0w:W.findIn K (.ref yh) "bars" = aa ae)
  (y03:W.findIn K (.ref yh) "behind" = aa ae)
  (y1q:W.findIn K (.ref yh) "by" = aa ae)
  (y0r:W.findIn K (.ref yh) "deed" = aa ae)
  (y0b:W.findIn K (.ref yh) "needs" = aa ae)
  (y1s:W.findIn K (.ref yh) "on" = aa ae)
  (y0e:W.findIn K (.ref yh) "place" = aa ae)
  (y0v:W.findIn K (.ref CU) "kind" = aa ae)
  (y0t:W.findIn K (.ref CU) "rule" = aa ae)
  (y0u:W.findIn K (.ref y8) "around" = aa ae)
  (y0s:W.findIn K (.ref y8) "broken" = aa ae)
  (y18:W.findIn K (.ref y8) "deeds" = aa ae)
  (y17:W.findIn K (.ref y8) "found" = aa ae)
  (y1y:W.findIn K (.ref y8) "held" = aa ae)
  (y1p:W.findIn K (.ref y8) "kind" = aa ae)
  (y0x:W.findIn K (.ref y8) "number" = aa ae)
  (y1c:W.findIn K (.ref y8) "pairs" = aa ae)
  (y1u:W.findIn K (.ref y8) "rule" = aa ae)
  (y1t:W.nsIn K bp "isinstance" = aa ae)
  (y75:W.nsIn K bp "len" = aa ae)
  (y5y:W.nsIn K bp "list" = aa ae)
  (y78:W.nsIn K bp "min" = aa ae)
  (y4b:W.nsIn K bp "range" = aa ae)
  (y2g:W.nsIn K bp "reversed" = aa ae)
  (y71:W.nsIn K bp "str" = aa ae)
  (y4v:W.nsIn K bp "tuple" = aa ae)
  (nd:[yb,y1].Nodup)
  (y0j:o4 K y1=aa (.ref y4::kC))
  (y1r:o4 K y4=aa kC)
  (y2t:o4 K yb=aa (.ref y4::kC))
  (y5:y1≠y4)
  (y22:yb≠y4)
  (y15:W.findIn K (.ref y1) "__getattribute__" = aa (aa (.builtin "BaseException.__getattribute__")))
  (y1b:W.findIn K (.ref y1) "__getattr__" = aa ae)
  (y1a:W.hasDictIn K y1=true)
  (y1d:BZ K y1=true)
  (yz:W.findIn K (.ref y1) "code" = aa ae)
  (ys:W.findIn K (.ref y1) "piece" = aa ae)
  (bi1:W.specialIn K (.ref y4) "__getattribute__" = aa (aa (.builtin "type.__getattribute__")))
  (y7e:W.readsIn K y4 (.type "type")=true)
  (y7a:W.findCls K (.ref y4) (.type "type") "__init__" = aa (.val (.builtin "ValueError.__init__")))
  (y14:W.findIn K (.ref y1) "__setattr__" = aa (aa (.builtin "object.__setattr__")))
  (y16:W.hasDictIn K y1=true)
  (y19:BZ K y1=true)
  (yr:W.findIn K (.ref y1) "piece" = aa ae)
  (y01:W.findIn K (.ref y1) "code" = aa ae)
  (y0o:pz K y1 V_=true)
  (y3o:W.findIn K (.ref yb) "__setattr__" = aa (aa (.builtin "object.__setattr__")))
  (y35:W.hasDictIn K yb=true)
  (y3s:BZ K yb=true)
  (y1w:W.findIn K (.ref yb) "ring" = aa ae)
  (y2w:pz K yb V'=true)
  (nl:LX K=true)
  : ∃fd:bA,(∀(s:aj) (v:af),rj s fd ⟨[v],[]⟩ [("script",v)])/\∀base:bN,K.In base->base.Ns bp mg->bE l.prog w K mg base DW 28 fa fd ["script"] (Hr K):=by
 let c:Cl:={ hall:=yn,place:=CU,piece:=yh,run:=y8,hallError:=y4,nameThere:=0,noPlace:=0,noPiece:=0,tooMany:=0,noAnswer:=0,ring:=yb,barred:=0,deedFault:=y1 };have e0:=hfa.symm.trans (W.mg_of X G y0.a);cases e0;have T0:Tx K mg c:=⟨y1r,(tq.mpr ⟨(λ_=>y2t),tq.mpr ⟨(λ_=>y0j),λ_ h=>absurd h cx⟩⟩),W.mg_none_of X G y7b,⟨_,W.mg_of X G y0c⟩,⟨_,W.mg_of X G y0f⟩,yt,y0h,y0d,y3q,y0g,y0w,y03,y1q,y0r,y0b,y1s,y0e,y37,y0v,y0t,yv,y0u,y0s,y18,y17,y1y,y1p,y0x,y1c,y1u,⟨y15,y1b,y1a,y1d⟩,yz,ys,bi1,y7e,y7a,⟨y14,y16,y19⟩,yr,y01,⟨y3o,y35,y3s⟩,y1w,W.mg_none_of X G y1t,W.mg_none_of X G y75,W.mg_none_of X G y5y,W.mg_of X G y1x,W.mg_of X G y1v,W.mg_of X G y4i,W.mg_none_of X G y78,y5,y0j,y22,y2t,W.mg_none_of X G y4b,W.mg_none_of X G y2g,W.mg_none_of X G y71,W.mg_none_of X G y4v⟩;obtain⟨oc,od,kV,dc,pm,an,cd,ct,sl,rfl,lk,hc⟩:=y0.v.ex;refine⟨W.fnOf "law" "law" (qE Cw) (oj Cw) (d8 Cw) .none kV dc pm an cd ct,λs v=>.of_eq rfl,λbase _ _=>?_⟩;have Pb:=y08.up X G (zo1 l.prog w base T0 y08.v );have Wa:=y1h.up X G (zu5 l.prog w base T0 y1h.v );have y6u:=y1e.up X G (zu6 l.prog w base T0 y1e.v (u Wa));have y65:=y1f.up X G (zu7 l.prog w base T0 y1f.v );have y5h:=y0p.up X G (zq1 l.prog w base T0 y0p.v (u Pb) (u y6u) (u y65) (u Wa));have y7c:=y23.up X G (zx7 l.prog w base T0 y23.v (u y5h) (u Pb));have y3p:=yl.mk' y5k X G (zmx l.prog w base T0 yl.v );have y33:=yk.mk' y4g X G (zl7 l.prog w base T0 yk.v );have y2o:=yd.up yt (zk7 l.prog w base T0 yd.v (u y33));have Pd:=yf.up yt (zk8 l.prog w base T0 yf.v );have y2u:=yj.mk' y48 X G (zl8 l.prog w base T0 yj.v );have y5z:=y07.up yt (zs0 l.prog w base T0 y07.v (u Pd) (u y2u));have y4h:=zo7 y07.v y26;have yg:=yc.up yt (zk9 l.prog w base T0 yc.v );have y7i:=y2h.up X G (z06 l.prog w base T0 y2h.v );have y5w:=y12.up yt (zs1 l.prog w base T0 y12.v (u yg) (u y7i));have y4m:=y06.up yt (zo2 l.prog w base T0 y06.v (u yg));have y6p:=y1o.up X G (zu8 l.prog w base T0 y1o.v (u y3p) (u y2o) (u y5z) y4h (u y5w) (u y4m));have y57:=y0k.up X G (zq2 l.prog w base T0 y0k.v );have y6r:=y1g.up X G (zu9 l.prog w base T0 y1g.v );have Wb:=y0y.up X G (zs2 l.prog w base T0 y0y.v (u y6r));have Wc:=y11.up X G (zs3 l.prog w base T0 y11.v );have Pe:=y1i.up yv (zva l.prog w base T0 y1i.v );have yi:=y7.up yv (zjn l.prog w base T0 y7.v );have y29:=zjo l.prog w base T0 y6.v y0o;have y6e:=y1l.up yv (zvb l.prog w base T0 y1l.v (u yi) ⟨y29.mono (by decide),y0o,y6.i,y6.b⟩);have We:=y46.up X G (z7z l.prog w base T0 y46.v );have y3h:=yo.up yv (zmy l.prog w base T0 yo.v (u We) (u yi));have y6o:=y1j.up yv (zvc l.prog w base T0 y1j.v (u yi));have y4n:=y02.up yv (zo3 l.prog w base T0 y02.v (u y6e) (u We) (u y3h) (u y6o));have y6i:=y1m.up yv (zvd l.prog w base T0 y1m.v (u Pe) (u y4n));have y5e:=y0n.up yv (zq3 l.prog w base T0 y0n.v );have y3w:=yy.up X G (zof l.prog w base T0 yy.v );have y56:=y0l.up yv (zq4 l.prog w base T0 y0l.v (u Pe) (u y3w));have y7k:=y2i.up X G (z07 l.prog w base T0 y2i.v (u Pe) (u y6i) (u y5e) (u y56));have y73:=y25.up X G (zx8 l.prog w base T0 y25.v (u y7k));have y5j:=y0i.up X G (zq5 l.prog w base T0 y0i.v (u yg));have y3c:=yq.up X G (zmz l.prog w base T0 yq.v );have y42:=yx.up X G (zog l.prog w base T0 yx.v );have y36:=ym.up X G (zm0 l.prog w base T0 ym.v (u y42));have y3a:=zm1 l.prog w base T0 ya.v y2w;have Wf:=y09.up X G (zo4 l.prog w base T0 y09.v (u y5j) (u y3c) (u y36) ⟨y3a.mono (by decide),y2w,ya.i,ya.b⟩);have y3x:=yw.mk' y76 X G (zoh l.prog w base T0 yw.v );have Wg:=y0m.up X G (zq6 l.prog w base T0 y0m.v (u Pd) (u Wf) (u yg) (u y3x));have I0:=y24.up yt (zx9 l.prog w base T0 y24.v (u Pd));have y21:=y9.up X G (z3y l.prog w base T0 y9.v (u Wg) (u I0));have y31:=y04.up X G (z3z l.prog w base T0 y04.v (u Wf) (u I0));have y3k:=yp.up X G (zm2 l.prog w base T0 yp.v (u I0) (u Wg));have y5n:=y0z.up X G (zs4 l.prog w base T0 y0z.v (u y73) (u y21) (u y31) (u y3k));have y6y:=y1n.up X G (zve l.prog w base T0 y1n.v (u y5n));have y5q:=ye.up X G (zs6 l.prog w base T0 ye.v (W.mg_of X G ye.a) ye.v.kp ye.b 24);have y6k:=y1k.up X G (zvf l.prog w base T0 y1k.v );have y53:=y0q.up X G (zq7 l.prog w base T0 y0q.v (u y5q) (u y6k));have y4w:=y05.up X G (zo5 l.prog w base T0 y05.v (u y53));have y41:=yu.up X G (zoi l.prog w base T0 yu.v (u Wb) (u Wc) (u y4w));have y60:=y10.up X G (zs7 l.prog w base T0 y10.v );have FR:=Zbj l.prog w base T0 y0.v (u y7c) (u Pb) (u y6p) (u y57) (u Wb) (u Wc) (u y6y) (u y41) (u y60) (u I0);exact Za9 FR nl λns hl=>⟨_,O7 (c:=c) nd ns⟩
end K08
open PySem PySem.W PyProof.Rows MF L2
local macro_rules | `(tactic| walk_at "k") => `(tactic| first | kernel_rfl! | k_is)
local macro_rules | `(tactic| walk_at "b") => `(tactic| (intro _ _ _ _ _ _ us hl; first | (obtain ⟨a0, e⟩ := vK hl; subst e; rfl) | (obtain ⟨a0, a1, e⟩ := EC hl; subst e; rfl) | (obtain ⟨a0, a1, a2, e⟩ := L9 hl; subst e; rfl) | (obtain ⟨a0, a1, a2, a3, e⟩ := ED hl; subst e; rfl) | (obtain ⟨a0, a1, a2, a3, a4, e⟩ := EE hl; subst e; rfl)))
local macro_rules | `(tactic| walk_at "N") => `(tactic| exact Zdy (by walk_at "k") (by walk_at "k") (by walk_at "k") (by walk_at "k") (by walk_at "b"))
local macro_rules | `(tactic| walk_at "M") => `(tactic| exact Zdz (by walk_at "k") (by walk_at "k") (by walk_at "k") (by walk_at "k") (by walk_at "k") (by walk_at "b"))
theorem PySem.Challenge.cw_hookhall_k08_pieces_that_matter_holds : PySem.Challenge.rw_hookhall_k08_pieces_that_matter.Holds := by
 w_on;o_law;k_head;(case hw=>w_witness2)
 k_fill
 refine MF.Ey (l:=BL) (k:=28) ⟨rfl,by decide,by decide,rfl⟩ rfl rfl (λw h Y=>W.kIn_of Y) ?F
 case F=>
  intro w mg fa h KX G xh
  refine' K08.all_mk KX G xh ?y1v ?y4i ?y1x ?y5k ?yt ?y48 ?y3q ?y4g ?y37 ?y76 ?yv ?y08 ?y1h ?y1e ?y1f ?y0p ?y23 ?yl ?yk ?yd ?yf ?yj ?y07 ?y26 ?yc ?y2h ?y12 ?y2z ?y06 ?y1o ?y0k ?y1g ?y0y ?y11 ?y1i ?y7 ?y6 ?y1l ?y46 ?yo ?y1j ?y02 ?y1m ?y0n ?yy ?y0l ?y2i ?y25 ?y0i ?yq ?yx ?ym ?ya ?y09 ?yw ?y0m ?y24 ?y9 ?y04 ?yp ?y0z ?y1n ?ye ?y1k ?y0q ?y05 ?yu ?y10 ?y0 ?y7b ?y0c ?y0f ?y0h ?y0d ?y0g ?y0w ?y03 ?y1q ?y0r ?y0b ?y1s ?y0e ?y0v ?y0t ?y0u ?y0s ?y18 ?y17 ?y1y ?y1p ?y0x ?y1c ?y1u ?y1t ?y75 ?y5y ?y78 ?y4b ?y2g ?y71 ?y4v ?nd ?y0j ?y1r ?y2t ?y5 ?y22 ?y15 ?y1b ?y1a ?y1d ?yz ?ys ?bi1 ?y7e ?y7a ?y14 ?y16 ?y19 ?yr ?y01 ?y0o ?y3o ?y35 ?y3s ?y1w ?y2w ?nl
  (case y1v | y4i | y1x=>k_is)
  (case y5k=>exact⟨by walk_at "k",by walk_at "k",by walk_at "k"⟩)
  (case yt=>exact⟨by walk_at "k",by walk_at "k",by walk_at "k",by walk_at "k"⟩)
  (case y48=>exact⟨by walk_at "k",by walk_at "k",by walk_at "k"⟩)
  (case y3q=>exact⟨by walk_at "k",by walk_at "k",by walk_at "k",by walk_at "k"⟩)
  (case y4g=>exact⟨by walk_at "k",by walk_at "k",by walk_at "k"⟩)
  (case y37=>exact⟨by walk_at "k",by walk_at "k",by walk_at "k",by walk_at "k"⟩)
  (case y76=>exact⟨by walk_at "k",by walk_at "k",by walk_at "k"⟩)
  (case yv=>exact⟨by walk_at "k",by walk_at "k",by walk_at "k",by walk_at "k"⟩)
  (case y08 | y1h | y1e | y1f | y0p | y23=>walk_at "N")
  (case yl | yk | yd | yf | yj=>walk_at "M")
  (case y07=>exact V7 (by walk_at "k") (by walk_at "k") (by walk_at "k") (by walk_at "k") (by walk_at "k") (K08.nZ (by walk_at "k")))
  (case y26=>k_is)
  (case yc=>walk_at "M")
  (case y2h=>walk_at "N")
  (case y12=>exact V7 (by walk_at "k") (by walk_at "k") (by walk_at "k") (by walk_at "k") (by walk_at "k") (K08.n5 (by walk_at "k")))
  (case y2z=>k_is)
  (case y06=>walk_at "M")
  (case y1o | y0k | y1g | y0y | y11=>walk_at "N")
  (case y1i | y7 | y6 | y1l=>walk_at "M")
  (case y46=>walk_at "N")
  (case yo | y1j | y02 | y1m | y0n=>walk_at "M")
  (case yy=>walk_at "N")
  (case y0l=>walk_at "M")
  (case y2i | y25 | y0i | yq | yx | ym=>walk_at "N")
  (case ya=>walk_at "M")
  (case y09=>walk_at "N")
  (case yw=>walk_at "M")
  (case y0m=>walk_at "N")
  (case y24=>walk_at "M")
  (case y9 | y04 | yp | y0z | y1n | ye | y1k | y0q | y05 | yu | y10 | y0=>walk_at "N")
  (case y7b | y0c | y0f | y0h | y0d | y0g | y0w | y03 | y1q | y0r | y0b | y1s | y0e | y0v | y0t | y0u | y0s | y18 | y17 | y1y | y1p | y0x | y1c | y1u | y1t | y75 | y5y | y78 | y4b | y2g | y71 | y4v=>k_is)
  (case nd=>decide)
  (case y0j | y1r | y2t=>walk_at "k")
  (case y5 | y22=>decide)
  (case y15 | y1b | y1a=>k_is)
  (case y1d=>walk_at "k")
  (case yz | ys | bi1=>k_is)
  (case y7e | y7a=>walk_at "k")
  (case y14=>k_is)
  (case y16 | y19=>walk_at "k")
  (case yr | y01=>k_is)
  (case y0o=>walk_at "k")
  (case y3o=>k_is)
  (case y35 | y3s=>walk_at "k")
  (case y1w=>k_is)
  (case y2w | nl=>walk_at "k")
end
