import PyProof.Rows.All
import KE.KDictOf
import KE.KEqDict
import KE.KFromBytes
import KE.KIntText
import KE.KIsAll
import KE.KItem
import KE.KItemsList
import KE.KLam
import KE.KPairComp
import KE.KRevIter
import PySem.Challenge.RW_readgrove_k93_whole_plainer_ones_read_al
open Option renaming some->aa,none->ae
open Bool renaming true->ab,false->ac
local macro_rules|`(↥$x)=>`($(x).length)
local macro_rules|`(⇑$x)=>`($(x).heap.objs.size)
local macro_rules|`(∅)=>`(by decide)
local macro_rules|`(↑$x)=>`(List $x)
local macro_rules|`(tactic|let $d:letDecl)=>`(tactic|have $d:letDecl)
local macro_rules|`(tactic|show $x)=>`(tactic|exact $x)
local macro_rules|`(tactic|apply $x)=>`(tactic|refine $x)
local macro_rules|`(#[$x])=>`(⟨$x⟩)|`(#[$x,$xs,*])=>`(⟨$x,$xs,*⟩)
local macro_rules|`(tactic|let #[$xs,*]:=$e)=>do{let ps←xs.getElems.mapM fun x=>match x with|`($i:ident)=>`(Lean.Parser.Tactic.rcasesPatLo|$i:ident)|_=>`(Lean.Parser.Tactic.rcasesPatLo|_);`(tactic|obtain ⟨$[$ps],*⟩:=$e)}
open PySem.Challenge renaming rw_readgrove_k93_whole_plainer_ones_read_al->Xf,pw_readgrove_k93_whole_plainer_ones_read_al->Xg
open PySem renaming wpAny_bind->Aa,Value->Ae,wpAny_pure->Ah,Shared->Ak,Addr->Am,sizeLine->Ap,Str->Av,Program->Be,wpAny->Bo,World->Bv,starEach->Cg,Expr->Cm,wpAny_call_entry->Cs,Around->Cw,model->Cy,bootBuiltins->Cz,wpAny_holding->Dg,wpAny_field->Dh,wpAny_callSpecial?_slot->Dj,compareOp->Dr,wpAny_newObj_type->Du,wpAny_Call_Name_kw->Dy,Heap->Dz,builtinLookup_eq_fast->Ef,eval->El,mainGlobals->Em,DictEntry->Eu,wpAny_seqItems->Fp,binaryOp->Fq,FuncData->Fs,wpAny_isInstance->Ft,cLine->Fu,wpAny_setField_rec->Gg,tupleKind_room_in1->Gh,sysModules->Gi,Paired->Gk,wpAny_specialOf->Gp,typeLookup_type->Gq,Builtin->Hk,wpAny_attempt->Hr,attributeBase->Hs,wpAny_notOrdered_dict->Hu,rawInt->Hy,wpAny_truthy_bool->Ia,tupleKind->Ib,wpAny_rule->Ic,Pos->Ih,pyNext->Ij,IsPair->Iq,wpAny_of_eq->Ir,wpAny_tupleItemsOf->Iz,assignEach->Ja,mem_of_lookup->Jg,wpAny_dictEntries->Jh,wpAny_mono->Jl,wpAny_typeNameOfWhole_valiter->Jw,wpAny_typeNameOfWhole_keyiter->Jx,wpAny_pyIter_tuple->Ka,call_meetsIn->Kb,wpAny_passesOwn->Kg,plainId_quiet->Kh,isSubtype_tuple_tuple->Km,holding->Kq,foldedSetIterable->Kr,Stmt->Kx,typeLookup->Ld,sizeLine_eq->Le,call_meets->Lf,NameKind->Lg,wpAny_typeOf->Ll,wpAny_forIn_list->Lm,wpAny_typeNameOf_valiter->Lz,wpAny_typeNameOf_keyiter->Ma,Scope->Mb,size_of_entries->Md,codeAny_builtin->Me,codeAny->Mf,keywordEach->Mq,wpAny_pyIter_list->Mx,isSubtype_type->My,firstArgMember->Mz,atKey->Ng,behindInMarks->Nj,Obj->Nl,sliceBounds->Nt,backTo->Nx,wpAny_richCompare_same_room->Oc,storedH->Od,swapsWith->Oh,wpAny_setField->Om,getattributeRaised->Oo,PyData->Ou,wpAny_pyIter_enum->Pb,wpAny_letGo->Pc,ItemsOf->Pg,assign->Ph,backToKw->Pr,codeAny_mono->Qf,PlainAttrs->Qh,wpAny_updateSeq->Qj,wpAny_execs_nil->Qk,wpAny_dictEpoch->Ql,letOwnedTupleGo->Qn,wpAny_isOneOf_valiter->Qr,wpAny_updateSeq_pair->Qx,wpAny_pyIter_keyiter->Qy,isSubtype_stop->Ra,callType_codes->Rb,IsZip->Rf,standAt->Ri,getMethod->Rj,Keyword->Rm,wpAny_standAt->Sa,wpAny_onRaise->Sf,field->Si,wpAny_dictSet_heap->Sm,pyIter->Sn,entryOfKey->So,wpAny_pyIter_slot->Sy,valueAt->Sz,callerA->Ta,wpAny_pyIter_zip->Tg,wpAny_eqBool_int->Ti,wpAny_Dict_empty->Tj,noFill_tuple_add->Tn,entryFor_of_tree->To,Result->Tp,Params->Ts,IsPart->Tt,storedH_new->Tu,importedModules->Ua,Sem->Uc,Within->Ud,getItem->Ui,BindsTo->Ul,entry_at->Um,entryFor->Uo,carriedByValue->Uq,wpAny_handled->Uv,strLen_append->Uw,signature?_of->Ux,seq_tuple_add->Uy,rangeSize_one->Uz,call->Vb,updateSeq->Vd,treeTable->Ve,bindL->Vf,bindC->Vg,PassesOwn->Vh,typeOf->Vl,stored->Vm,newExc->Vn,isTrue->Vo,concat_meets->Vp,call_range_1->Vq,callType_new->Vr,argsOk->Vt,Tok->Vu,Env->Vv,wpAny_throw->Vz,seqIndex_of->Wa,getAttr?->Wc,callWith->We,CmpOp->Wh,wpAny_Name->Wi,typeIs_str->Wj,typeIs_int->Wk,reduceHash->Wl,isInstance->Wm,closureFor->Wn,builtinsNs->Wo,unaryOp->Wq,setItem->Wr,putAt->Ws,dictSet->Wt,seqIndex?->Wv,eqIsQuiet->Wx,cellsFrom->Wy
open List renaming length_map->Ab,length_append->Ag,mem_singleton->Ai,getElem?_eq_some_iff->An,mem_map->Ao,mem_of_getElem?->Au,mem_cons->Ax,map_append->Ay,getElem?_map->Az,mem_append->Bb,mem_append_left->Bf,size_toArray->Bg,append_assoc->Bh,map_cons->Bi,getElem?_eq_getElem->Bj,mem_append_right->Bm,append_nil->Bn,mem_cons_of_mem->Bp,length_cons->Bq,map_map->Br,mem_cons_self->Bw,length_singleton->Bz,take_length->Cb,take_add_one->Ce,range->Cf,nodup_cons->Cp,lookup->Cq,replicate->Cu,length_take->Dc,length_reverse->Ds,drop_eq_getElem_cons->Eb,filter_cons->Ec,find?_cons->Ee,not_mem_nil->Eg,lookup_cons->Eh,length_drop->Ei,getElem?_cons_succ->Ek,nodup_append->Er,map_congr_left->Ey,filterMap_cons->Ez,mem_flatMap->Fe,nodup_nil->Fh,mem_nil_iff->Fi,getElem?_append_right->Fw,exists_cons_of_ne_nil->Fx,mem_filter->Gb,any_cons->Ge,pairwise_map->Gs,length_filter_le->Gw,mem_range->Gx,any_eq_true->Hc,all_eq_true->He,nodup_iff_pairwise_ne->Hi,length_range->Hj,nil_append->Ho,foldl_cons->Hq,map_eq_cons_iff->Hv,pairwise_singleton->Hw,mem_zipIdx_iff_getElem?->Hx,replicate_succ->Hz,zip_cons_cons->Ii,eq_nil_or_concat->Il,concat_eq_append->Im,getElem?_append_left->Iw,pairwise_append->Jb,length->Jc,flatten_cons->Jd,length_pos_iff->Ji,perm_middle->Jj,length_eq_zero_iff->Jk,filter_append->Jq,length_nil->Ju,take_append_drop->Jy,reverse_cons->Kd,mem_of_mem_take->Kj,getElem?_of_mem->Kk,getD_eq_getElem?_getD->Kl,zipIdx_cons->Ks,append_inj'->Kt,any_map->Ku,map_eq_nil_iff->Lc,all_cons->Lk,of_mem_zip->Lp,forIn_cons->Lq,filterMap_map->Lu,foldl_append->Mi,flatMap_cons->Mj,getElem?_reverse->Mr,drop_length->Mu,cons_ne_nil->Mv,mem_of_mem_drop->Nd,map_nil->Np,all_map->Nq,mem_filterMap->Nw,mem_of_find?_eq_some->Ob,nodup_range->Ox,take_of_length_le->Pd,length_eq_one_iff->Pe,forIn_nil->Py,filter->Qa,drop_zero->Qb,mem_map_of_mem->Qo,getElem?_range->Qp,filter_sublist->Qq,take_sublist->Rl,cons_append->Sk,append_cons->Sl,length_zip->Su,filter_nil->Sv,map->Tf,map_take->Tv,map_drop->Tw,foldl->Vi,Nodup->Vj,getD->Vy
open PySem.W renaming Frag->Ac,findIn->Fv,kia_one->Gu,fnOf->Gv,keepIn->Hf,emptyDict->Hh,instObj->Iu,mg_of->Ky,kitOne->Lv,codeIn->Lw,callWith_K->Nh,plainGet->Oe,isFn->Oq,lookIn->Pj,plainGet_of->Pu,methodObj->Qs,hasDictIn->Qt,takerIn->Rp,makesIn->Rq,OpenLaw->Rr,nsIn->Tq
open PySem.Heap renaming get?_push_of_some->Af,get?_push_size->Aw,lt_size->Ba,size_push->Es,get?_update_self->Ew,SameBut->Fb,get?_update_other->Gf,ExtBut->Qc,IsTuple->Rn
open Nat renaming le_refl->Aj,le_trans->Ar,ne_of_lt->Bl,lt_of_lt_of_le->Ci,ne_of_gt->Co,zero_le->Cr,mul_le_mul->Ej,succ_le_succ->Ep,lt_succ_self->Fl,mul_le_mul_left->Fo,add_le_add_right->Ga,lt_trans->Gm,lt_of_le_of_lt->Gz,le_succ->Ht,le_of_lt->Ie,toDigits->Je,le_add_right->Jm,sub_self->La,lt_irrefl->Ln,add_assoc->Lo,lt_of_succ_lt->Ml,le_of_succ_le_succ->Mo,add_le_add_left->Nm,zero_add->Nv,lt_succ_of_lt->Oi,toDigits_of_lt_base->Oz,min_le_left->Pq,sub_zero->Ru,le_succ_of_le->Rx,le_of_eq->Ry,min_le_right->Sq,le_of_not_lt->Ss,le_add_left->Tc,digitChar->Ug,succ_pos->Us,succ_mul->Ut,add_comm->Uu,log2_lt->Vc
open Bool renaming false_ne_true->Bc,and_eq_true->De,eq_iff_iff->Fd,false_eq_true->Fz,not_not->Hl,or_true->Nr,not_true->Oj,false_or->Ol,false_and->Qe,or_false->Qw,eq_false_iff->Ro,or_eq_true->Sx
open Option renaming map_eq_some_iff->Bd,isSome_iff_exists->Ed,isSome_map->Ly
open False renaming elim->Bs
open PyProof.Rows renaming callWith_type1->Bx,slot_tuple_getitem->Li,envOfC->Na,AllBare->Qi,IntsAre->Vx,Call_->Wu,len_tuple->Ww
open Ne renaming symm->Ca
open PySem.Str renaming ofString->Cd,empty->Wf
open Option.some renaming inj->Cj
open Prod renaming fst->Ck,ext->Jt,snd->Lj
open Int renaming toNat_natCast->Cv,eq_ofNat_of_zero_le->Jn,add_nonneg->Nz,natCast_nonneg->Rg,emod_lt_of_pos->Rh,le_refl->Sw,natCast_add->Td,emod_nonneg->Te,toNat->Wg
open PySem.Builtin.SmallTypes renaming ownedTupleIsFree->Dk,nextOf->Dl,stopIteration->Ke
open PySem.Txt renaming partition->Dq,mul->Ur
open PySem.Paired renaming length->Ea
open Prod.mk renaming inj->Eo,injEq->Kz
open PySem.Builtin.Tuple renaming tupleHashOf->Fc,tupleExact->Hm
open List.cons renaming injEq->Ff,inj->Kn
open PySem.Builtin.List renaming listExtendWith->Fg,listLengthHint->Jo,listFitsIndex->Jr,listTooLong->Kf
open Array renaming length_toList->Fj,getElem?_toList->Fm,toArray_toList->Hb,getElem?_eq_some_iff->Ig,forIn_toList->Ls,getElem?_eq_getElem->Oa
open PySem.F renaming slot_dict_valueiterator_next->Gj,slot_dict_keyiterator_next->Gy,slot_zip_next->Jf,slot_tuple_iterator_next->Lb,slot_tuple_hash->Lh,entry_dict_get->Lx,slot_tuple_eq->Mg,slot_dict_get->Mh,plainAttrs_list->Ms,slot_dict_setdefault->Nb,plain_extend_loop->Nu,args_tuple_add_2->Ny,plainAttrs_dict->Of,entry_tuple_add->Og,slot_tuple_add->Ot,args_zip_next_1->Oy,slot_list_getattribute->Pa,slot_zip_getattribute->Pm,entry_zip_next->Po,slot_list_pop->Qd,args_object_init_2->Qv
open PySem.Heap.SameBut renaming update->Ha
open PySem.Builtin.Dict_items renaming ownsTuple->Hn
open PySem.Obj renaming mapSeq->Ik,data_mapFields->Js,data_mapDictKeys->Nf,isFreed_of_fields->Pw,cls_mapFields->Rt,mapFields->Ue
open PySem.Builtin.Range renaming rangeSize->Iv
open PySem.Around renaming under_plainId->Iy,under->Tz
open PySem.Calls renaming spliced_cons->Jp,spliced_nil->Jz,callWith_builtin->Mc
open PySem.Builtin.Slice renaming slicePlaces->Jv,sliceAdjust->Nc
open PySem.PyData renaming depth->Ki,eqv->Nk,strOk->Ow,eqvAll->Qg,depthAll->Sj
open PySem.Builtin.Dict renaming updateFrom->Ko,showsAll->Lr,keyAndDefault->Mw
open PySem.Builtin.Str renaming occurrences->Kv,strSub->Pp
open PySem.AutoSeq1 renaming wpAny_loadPart'->Kw
open Function renaming comp->Mp
open Classical renaming byContradiction->Ni
open List.Perm renaming append_left->Ov
open PySem.W.OpenRow renaming toRowW->Pk
open Sum.inl renaming injEq->Px
open PySem.W.RowW renaming records->Rk
open Iff renaming rfl->Rz
open Sum.inr renaming injEq->Tb,inj->Ub
open PySem.IsRange renaming new->Uh
open PySem.Shared renaming heap->Uj
open PySem.Code renaming isFrame->Uk
open PySem.Walks renaming list->Va
open Char renaming toNat->Vk
open PyProof.Rows.IsTup renaming new->Vw
open PySem.SeqAt renaming EqAt->Wz
theorem Xa.{u}{c:Prop}{h:Decidable c}(n:¬c){q:Sort u}{t e:q}:ite c t e=e:=if_neg n
theorem Xb.{u}{c:Prop}{h:Decidable c}(n:c){q:Sort u}{t e:q}:ite c t e=t:=if_pos n
theorem Xc{p:Prop}[Decidable p](h:decide p=ab):p:=of_decide_eq_true h
theorem Xd{p:Prop}[Decidable p](h:p):decide p=ab:=decide_eq_true h
theorem Xe{p:Prop}[Decidable p](h:¬p):decide p=ac:=decide_eq_false h
set_option Elab.async false
set_option compiler.extract_closed false
set_option bootstrap.genMatcherCode false
set_option linter.all false
noncomputable section
set_option genSizeOf false
set_option maxRecDepth 100000
open PySem Spec PyProof.Rows
namespace L2
open PySem Spec PyProof.Rows
noncomputable def dX(s:Kx)(j:Nat):Kx:=match s with
 | .ClassDef _ _ _ p _ _ _ _ _ _ _=>p.getD j (.Pass #[0,0,0,0])
 | _=>.Pass #[0,0,0,0]
noncomputable def iU(s:Kx):Arguments:=match s with
 | .FunctionDef _ a _ _ _ _ _ _ _ _=>a
 | _=>{posonlyargs:=[],args:=[],vararg:=ae,kwonlyargs:=[],kw_defaults:=[],kwarg:=ae,defaults:=[]}
noncomputable def gC(s:Kx):↑Kx:=match s with
 | .FunctionDef _ _ b _ _ _ _ _ _ _=>b
 | _=>[]
noncomputable def dR(s:Kx):Mb:=match s with
 | .FunctionDef _ _ _ _ _ _ sc _ _ _=>sc
 | _=>{kind:=.function,names:=[],isGenerator:=ac,isCoroutine:=ac}
end L2
namespace L2
open PySem Spec PyProof.Rows L2
structure Q5 where
 x:String
 q:String
 s:Kx
 m:Ae
 b:Bool
 r:Nat
 t:Nat
 l:Int
 n:Int
 k:Nat
def top(i:Nat):Kx:=Xg.main.body.getD i (.Pass #[0,0,0,0])
def en(P:Ts)(x:String)(t:Vu)(v:Ae):Eu:=#[PyData.keyHash P (Cd x),.str (Cd x) t,v]
noncomputable abbrev sT(x:String)(t:Vu):Ae:=.str (Cd x) t
noncomputable abbrev cO(x:String)(a:Vu)(q:String)(b c:Vu)(l n:Int)(r:Am)(u v w y z:Ae)(k:Int)(d:Vu):Nl:=#[.type "code",ae,.fields [sT x a,sT q b,sT "/claim/cut.py" c,.int l 0,.int n 0,.int 0 0,.int 0 0,.int 3 0,.ref r,.bool ab,.int 181 0,u,v,w,y,z,.int k 0,.int l 0,sT "/claim/cut.py" d].toArray,#[]]
noncomputable abbrev fO(x q:Av)(s:Kx)(m c:Ae):Fs:=Gv x q (iU s) (gC s) (dR s) .none .none .none m ae c .none
abbrev m0:Ae:=sT "readgrove.grammars" 223
abbrev m1:Ae:=sT "readgrove.covers" 266
abbrev m2:Ae:=sT "readgrove.queues" 293
abbrev m3:Ae:=sT "readgrove.leasts" 361
abbrev m4:Ae:=sT "readgrove.spans" 525
abbrev m5:Ae:=sT "readgrove.readings" 542
abbrev m6:Ae:=sT "readgrove.nexts" 562
abbrev m7:Ae:=sT "readgrove.trees" 581
abbrev m8:Ae:=sT "readgrove.plainer" 621
abbrev m9:Ae:=sT "law_readgrove_k93_whole_plainer_ones_read_al" 858
def Q5.c(d:Q5):Am:=d.r+(if d.b then 3 else 5)
abbrev Q5.fd(d:Q5):Fs:=fO d.x d.q d.s d.m (.ref d.c)
def Q5.g(d:Q5)(i:Nat):Ae:=if d.b then .none else .ref (d.r+i)
def Q5.o(d:Q5):↑(Am×Nl):=[(d.c,cO d.x d.t d.q (d.t+1) (d.t+2) d.l d.n d.r (.ref (d.r+1)) .none (d.g 2) (d.g 3) (.ref (d.r+(if d.b then 2 else 4))) d.k (d.k+1)),(d.c+1,#[.type "function",ae,.func d.fd,#[]])]
def tbl:↑Q5:=[#["made_of","made_of",top 6,m0,ab,40,229,9,2,232],
 #["is_name","is_name",top 7,m0,ac,45,235,11,1,241],
 #["names","names",top 8,m0,ac,52,244,15,1,250],
 #["first_name","first_name",top 9,m0,ac,59,253,20,1,257],
 #["rules_of","rules_of",top 10,m0,ab,66,260,22,2,263],
 #["marks","marks",top 12,m1,ab,71,268,25,1,271],
 #["places_of","places_of",top 13,m1,ac,76,274,27,1,278],
 #["row_steps","row_steps",top 14,m1,ab,83,281,29,1,284],
 #["part_facts","part_facts",top 15,m1,ab,88,287,31,3,290],
 #["__init__","Queue.__init__",dX (top 17) 0,m2,ac,100,307,36,1,311],
 #["is_done","Queue.is_done",dX (top 17) 1,m2,ac,107,314,40,1,318],
 #["place_of","Queue.place_of",dX (top 17) 3,m2,ac,121,330,49,2,338],
 #["put","Queue.put",dX (top 17) 2,m2,ac,114,321,43,3,327],
 #["take","Queue.take",dX (top 17) 4,m2,ac,128,341,60,1,348],
 #["added","added",top 19,m3,ac,142,363,69,2,368],
 #["__init__","Search.__init__",dX (top 20) 0,m3,ac,156,383,73,3,389],
 #["reach","Search.reach",dX (top 20) 1,m3,ac,163,392,83,4,400],
 #["settle","Search.settle",dX (top 20) 4,m3,ac,184,430,110,4,442],
 #["step_by_name","Search.step_by_name",dX (top 20) 3,m3,ac,177,417,105,5,427],
 #["take_next","Search.take_next",dX (top 20) 2,m3,ac,170,403,89,1,414],
 #["least_trees","least_trees",top 21,m3,ac,198,461,119,4,471],
 #["facts_within","facts_within",top 22,m3,ab,205,474,127,3,477],
 #["knot_of","knot_of",top 25,m3,ac,224,508,154,2,513],
 #["same_word","same_word",top 24,m3,ac,217,499,152,3,505],
 #["made_of_best","made_of_best",top 23,m3,ac,210,480,138,5,496],
 #["best_tree","best_tree",top 26,m3,ac,231,516,156,3,522],
 #["row_trees","row_trees",top 28,m4,ac,238,527,159,3,533],
 #["no_weights","no_weights",top 29,m4,ab,245,536,161,1,539],
 #["whole_fact","whole_fact",top 31,m5,ac,250,544,164,2,549],
 #["reading","reading",top 32,m5,ac,257,552,166,2,559],
 #["words_of","words_of",top 34,m6,ac,264,564,171,1,572],
 #["shortest_lengths","shortest_lengths",top 35,m6,ab,271,575,179,1,578],
 #["is_tree","is_tree",top 37,m7,ac,276,583,184,1,587],
 #["row_of","row_of",top 38,m7,ac,283,590,186,1,597],
 #["right_knot","right_knot",top 39,m7,ab,290,600,196,3,603],
 #["right_tree","right_tree",top 40,m7,ab,295,606,203,3,609],
 #["is_reading","is_reading",top 41,m7,ac,300,612,213,3,618],
 #["made_names","made_names",top 45,m8,ac,307,627,218,2,636],
 #["slots","slots",top 46,m8,ac,314,639,228,1,643],
 #["__init__","Plainer.__init__",dX (top 47) 0,m8,ac,328,658,232,1,662],
 #["put_rule","Plainer.put_rule",dX (top 47) 1,m8,ac,335,665,235,4,672],
 #["is_part","Plainer.is_part",dX (top 47) 2,m8,ab,342,675,238,2,678],
 #["grammar_and_backs","Plainer.grammar_and_backs",dX (top 47) 3,m8,ac,347,681,241,1,685],
 #["nothing_read","nothing_read",top 48,m8,ac,361,697,243,1,703],
 #["empty_trees","empty_trees",top 49,m8,ab,368,706,248,1,709],
 #["wordy_names","wordy_names",top 50,m8,ab,373,712,251,1,715],
 #["thinned","thinned",top 51,m8,ab,378,718,263,4,721],
 #["put_thinned","put_thinned",top 52,m8,ac,383,724,270,5,736],
 #["no_empty","no_empty",top 53,m8,ac,390,739,276,1,752],
 #["check_no_empty","check_no_empty",top 54,m8,ab,397,755,295,1,758],
 #["is_single","is_single",top 55,m8,ac,402,761,301,2,766],
 #["single_chains","single_chains",top 56,m8,ac,409,769,303,3,780],
 #["chain_pieces","chain_pieces",top 57,m8,ac,416,783,314,3,791],
 #["put_chained","put_chained",top 58,m8,ab,423,794,319,4,797],
 #["no_single","no_single",top 59,m8,ac,428,800,327,1,807],
 #["long_ends","long_ends",top 60,m8,ac,435,810,336,1,817],
 #["shortened","shortened",top 61,m8,ac,442,820,342,2,825],
 #["twos","twos",top 62,m8,ac,449,828,344,1,839],
 #["put_together","put_together",top 63,m8,ac,456,842,355,2,849],
 #["back_tree","back_tree",top 64,m8,ab,463,852,365,2,855],
 #["_law_cell_at","_law_cell_at",top 66,m9,ac,468,860,381,2,865],
 #["_law_parts","_law_parts",top 67,m9,ac,475,868,385,2,876],
 #["_law_grammar","_law_grammar",top 68,m9,ac,482,879,394,1,889],
 #["_law_row","_law_row",top 69,m9,ab,489,892,407,2,895],
 #["_law_good","_law_good",top 70,m9,ab,494,898,409,1,901],
 #["law","law",top 71,m9,ac,499,904,417,1,925]]
def xC(P:Ts)(x:String)(a t:Nat)(l:Int):↑(Am×Nl):=[(a-1,#[.type "dict",ae,.dict [en P "__module__" (t+7) (sT "readgrove.errors" 187),en P "__firstlineno__" (t+11) (.int l (t+10)),en P "__static_attributes__" (t+12) (.ref (a-2)),en P "__doc__" (t+13) .none].toArray 2,#[]]),(a,#[.type "type",ae,.cls #[x,[.ref 24],[.ref a,.ref 24,.type "ValueError",.type "Exception",.type "BaseException",.type "object"],a-1,x,ab,[],[],ac,ae,ac],[aa (.ref (a-9)),ae,aa (sT x t),aa (sT x (t+8)),aa (.builtin "ValueError.__new__"),aa (.bool ab)].toArray])]
def dL(i:Nat):Q5:=tbl.getD i #["","",top 0,.none,ab,0,0,0,0,0]
def B2(i:Nat):Am:=(dL i).c+1
def eP(P:Ts)(i:Nat):Eu:=en P (dL i).x ((dL i).k+2) (.ref (B2 i))
def hpK:Ts->Ac:=λP=>tbl.flatMap Q5.o++xC P "NoGrammar" 37 207 4++[(nat_lit 3,#[(.type "dict"),ae,.dict ([en P "__name__" 165 (sT "law_readgrove_k93_whole_plainer_ones_read_al" 858),en P "__doc__" 166 .none,en P "__package__" 167 .none,en P "__loader__" 168 (.builtin "__main__.__loader__#opaque"),en P "__spec__" 169 .none,en P "__annotations__" 170 (.ref 6),en P "__builtins__" 171 (.ref 4),en P "__file__" 173 (sT "/claim/cut.py" 172),en P "__cached__" 174 .none,en P "GroveError" 206 (.ref 24),en P "NoGrammar" 222 (.ref 37),en P "GREAT_LETTERS" 226 (sT "ABCDEFGHIJKLMNOPQRSTUVWXYZ" 225),en P "FIGURES" 228 (sT "0123456789" 227)]++[0,1,2,3,4,5,6,7,8].map (eP P)++[en P "Queue" 360 (.ref 137)]++[14].map (eP P)++[en P "Search" 460 (.ref 193)]++[20,21,24,23,22,25,26,27,28,29,30,31,32,33,34,35,36].map (eP P)++[en P "WHOLE" 624 (sT "whole" 623),en P "FIGURED_NAMES" 626 (.int 10000 625)]++[37,38].map (eP P)++[en P "Plainer" 696 (.ref 356)]++[43,44,45,46,47,48,49,50,51,52,53,54,55,56,57,58,59,60,61,62,63,64,65].map (eP P)).toArray 70,#[]]),
 (nat_lit 23,#[(.type "dict"),ae,.dict [en P "__module__" 196 (sT "readgrove.errors" 187),en P "__firstlineno__" 200 (.int 2 199),en P "__static_attributes__" 201 (.ref 22),en P "__weakref__" 203 (.ref 25),en P "__doc__" 204 .none].toArray 3,#[]]),
 (nat_lit 24,#[(.type "type"),ae,.cls #[(Cd "GroveError"),[(.type "ValueError")],[(.ref 24),(.type "ValueError"),(.type "Exception"),(.type "BaseException"),(.type "object")],23,(Cd "GroveError"),ab,[],[(.ref 37)],ac,ae,ac],[aa (.ref 15),ae,aa (sT "GroveError" 189),aa (sT "GroveError" 197),aa (.builtin "ValueError.__new__"),aa (.bool ab)].toArray]),
 (nat_lit 136,#[(.type "dict"),ae,.dict [en P "__module__" 302 (sT "readgrove.queues" 293),en P "__firstlineno__" 306 (.int 34 305),en P "__init__" 313 (.ref 106),en P "is_done" 320 (.ref 113),en P "put" 329 (.ref 120),en P "place_of" 340 (.ref 127),en P "take" 350 (.ref 134),en P "__static_attributes__" 353 (.ref 135),en P "__dict__" 355 (.ref 138),en P "__weakref__" 357 (.ref 139),en P "__doc__" 358 .none].toArray 4,#[]]),
 (nat_lit 137,#[(.type "type"),ae,.cls #[(Cd "Queue"),[(.type "object")],[(.ref 137),(.type "object")],136,(Cd "Queue"),ab,[],[],ac,ae,ac],[ae,ae,aa (sT "Queue" 295),aa (sT "Queue" 303),aa (.builtin "object.__new__"),aa (.bool ab)].toArray]),
 (nat_lit 192,#[(.type "dict"),ae,.dict [en P "__module__" 378 (sT "readgrove.leasts" 361),en P "__firstlineno__" 382 (.int 71 381),en P "__init__" 391 (.ref 162),en P "reach" 402 (.ref 169),en P "take_next" 416 (.ref 176),en P "step_by_name" 429 (.ref 183),en P "settle" 444 (.ref 190),en P "__static_attributes__" 453 (.ref 191),en P "__dict__" 455 (.ref 194),en P "__weakref__" 457 (.ref 195),en P "__doc__" 458 .none].toArray 4,#[]]),
 (nat_lit 193,#[(.type "type"),ae,.cls #[(Cd "Search"),[(.type "object")],[(.ref 193),(.type "object")],192,(Cd "Search"),ab,[],[],ac,ae,ac],[ae,ae,aa (sT "Search" 371),aa (sT "Search" 379),aa (.builtin "object.__new__"),aa (.bool ab)].toArray]),
 (nat_lit 355,#[(.type "dict"),ae,.dict [en P "__module__" 653 (sT "readgrove.plainer" 621),en P "__firstlineno__" 657 (.int 230 656),en P "__init__" 664 (.ref 334),en P "put_rule" 674 (.ref 341),en P "is_part" 680 (.ref 346),en P "grammar_and_backs" 687 (.ref 353),en P "__static_attributes__" 689 (.ref 354),en P "__dict__" 691 (.ref 357),en P "__weakref__" 693 (.ref 358),en P "__doc__" 694 .none].toArray 4,#[]]),
 (nat_lit 356,#[(.type "type"),ae,.cls #[(Cd "Plainer"),[(.type "object")],[(.ref 356),(.type "object")],355,(Cd "Plainer"),ab,[],[],ac,ae,ac],[ae,ae,aa (sT "Plainer" 646),aa (sT "Plainer" 654),aa (.builtin "object.__new__"),aa (.bool ab)].toArray])]
def MV:↑Am:=tbl.flatMap (λd=>[d.c,d.c+1])++[36,37,3,23,24,136,137,192,193,355,356]
def qv:Be:={Xg with main:={Xg.main with body:=([1,2,4,5,6,7,8,9,10,12,13,14,15,17,19,20,21,22,23,24,25,26,28,29,31,32,34,35,37,38,39,40,41,43,44,45,46,47,48,49,50,51,52,53,54,55,56,57,58,59,60,61,62,63,64,66,67,68,69,70,71]:↑Nat).map top}}
def hk:PySem.W.Hook:=PySem.W.kHook hpK MV (λ_=>by kernel_rfl)
theorem B3{Z q j:Type}{o:Option Z}{f:Z->q}{g:Z->j}{a:q}{b:j}(h:o.map f=aa a)(k:o.map g=aa b):o.map (λs=>(f s,g s))=aa (a,b):=by
 cases o with
 | none=>cases h
 | some s=>cases h;cases k;rfl
open PySem.W in
theorem sR(p:Be)(w:Bv)(N:Nat):openEnds Ve p w N=(fencedOpening Ve p w N).bind λs=>match s.heap.isNs Em&&s.gens.size==0 with
 | true=>(PySem.W.Fast.tw14082659384304107361 PySem.W.Fast.tw14364793385576792824 p w ⇑s (s.heap.nsMap Em "__annotations__") N s (topStub p)).bind λt=>match staticsOk (Ua p.main.body) s.heap t.heap&&namesBound p t.heap&&gensDone t&&laidKept s.heap t.heap with
  | true=>aa t
  | false=>ae
 | false=>ae:=by rw[<-PySem.W.Fast.te14082659384304107361,<-PySem.W.Fast.te14364793385576792824];rfl
abbrev l7(w:Bv):=PySem.W.openEnds Ve Xf.row.prog w 6446
open PySem.W in
abbrev j9:=λs=>openSeen qv [] (Ua Xf.row.prog.main.body) (λs=>xlAt qv [] s&&recOk (Rk (Pk Xf.row)) s) ab s
set_option maxHeartbeats 0 in
theorem B4(w:Bv):(l7 w).map hk.obs=aa (hk.val w):=by unfold l7;rw[sR];kernel_rfl
set_option maxHeartbeats 0 in
open PySem.W in
theorem MW(w:Bv):(l7 w).map (λs=>(j9 s).1)=aa (openGood qv []).1:=by unfold l7;rw[sR];kernel_rfl
set_option maxHeartbeats 0 in
open PySem.W in
theorem MX(w:Bv):(l7 w).map (λs=>((j9 s).2.1,(j9 s).2.2.1,(j9 s).2.2.2.1))=aa (bltViewBooted,ab,ab):=by unfold l7;rw[sR];kernel_rfl
set_option maxHeartbeats 0 in
open PySem.W in
theorem MY(w:Bv):(l7 w).map (λs=>(j9 s).2.2.2.2)=aa (pinGoodD (drecsOf qv),plainGoodE qv (looseW qv []),plainGoodD qv [],wideGood qv,clsGoodW qv []):=by unfold l7;rw[sR];kernel_rfl
theorem MZ{Z q j m l i:Type}{o:Option Z}{e:Z->i}{f:Z->q}{g:Z->j}{h:Z->m}{k:Z->l}{u:i}{a:q}{b:j}{c:m}{d:l}(v:o.map e=aa u)(x:o.map (λs=>(f s,g s,h s))=aa (a,b,c))(z:o.map k=aa d):o.map (λs=>(e s,f s,g s,h s,k s))=aa (u,a,b,c,d):=by
 cases o with
 | none=>cases v
 | some s=>cases v;cases x;cases z;rfl
open PySem.W in
theorem qJ(w:Bv):(openEnds Ve Xf.row.prog w 6446).map (λs=>openSeen qv [] (Ua Xf.row.prog.main.body) (λs=>xlAt qv [] s&&recOk (Rk (Pk Xf.row)) s) ab s)=aa (openGood qv []):=MZ (e:=λs=>(j9 s).1) (f:=λs=>(j9 s).2.1) (g:=λs=>(j9 s).2.2.1) (h:=λs=>(j9 s).2.2.2.1) (k:=λs=>(j9 s).2.2.2.2) (MW w) (MX w) (MY w)
set_option maxHeartbeats 0 in
theorem M8:Xf.wellSaid=ab:=by kernel_rfl
open PySem.W in
theorem M9:LeftO Xf.row.prog qv [] (λs=>xlAt qv [] s&&recOk (Rk (Pk Xf.row)) s) hk.obs hk.val 6446:=λw=>B3 (qJ w) (B4 w)
end L2
namespace L2
abbrev Pn:=↑(Am×Nl)
noncomputable abbrev lO(x:Array Ae)(n:Nat:=0):Nl:={cls:=.type "list",data:=.seq x n}
abbrev Db(x:Av):Prop:=(x==("__debug__" : Av))=ac
abbrev aC:=Sum Int Av
noncomputable def nQ:aC->Ae->Bool
 | .inl k,v=>Value.isInt k v
 | .inr x,v=>Value.isStrOf x v
noncomputable def NA(w:Bv):aC->Int
 | .inl k=>hashInt k
 | .inr x=>hashStr w x
theorem kA:∀{k:aC} {v:Ae},nQ k v=ab->(∃i t,k=Sum.inl i/\v=Value.int i t)\/(∃x t,k=Sum.inr x/\v=Value.str x t)
 | .inl i,v,h=>by
  let#[t,e]:=Value.isInt_shape (k:=i) (v:=v) h;show .inl #[i,t,rfl,e]
 | .inr x,v,h=>by
  let#[t,e]:=Value.isStrOf_shape (x:=x) (v:=v) h;show .inr #[x,t,rfl,e]
theorem NB(i:Int)(t:Vu):nQ (.inl i) (.int i t)=ab:=by simp[nQ,Value.isInt]
theorem NC(x:Av)(t:Vu):nQ (.inr x) (.str x t)=ab:=by simp[nQ,Value.isStrOf]
theorem ND(a b:Int):decide ((Sum.inl a:aC)=Sum.inl b)=(a==b):=by
 by_cases e:a=b
 .subst e;simp
 .let h:¬(Sum.inl a:aC)=Sum.inl b:=λq=>e (Sum.inl.inj q);rw[Xe h];show(beq_eq_false_iff_ne.mpr e).symm
theorem NF(a b:Av):decide ((Sum.inr a:aC)=Sum.inr b)=decide (a=b):=by
 by_cases e:a=b
 .subst e;simp
 .let h:¬(Sum.inr a:aC)=Sum.inr b:=λq=>e (Ub q);rw[Xe h,Xe e]
theorem NG(a:Int)(b:Av):decide ((Sum.inl a:aC)=Sum.inr b)=ac:=Xe (λq=>nomatch q)
theorem NH(a:Av)(b:Int):decide ((Sum.inr a:aC)=Sum.inl b)=ac:=Xe (λq=>nomatch q)
noncomputable def bT(prog:Be)(w:Bv):PySem.KeyKind prog w aC where
 is:=nQ
 hash:=NA w
 inj:=λv a b T Y=>by
  rcases kA T with⟨i,t,rfl,rfl⟩|⟨x,t,rfl,rfl⟩
  .rcases kA Y with⟨j,u,rfl,e⟩|⟨y,u,rfl,e⟩
   .injection e with e1 _;rw[e1]
   .show nomatch e
  .rcases kA Y with⟨j,u,rfl,e⟩|⟨y,u,rfl,e⟩
   .show nomatch e
   .injection e with e1 _;rw[e1]
 byValue:=λk v h=>by
  rcases kA h with⟨i,t,rfl,rfl⟩|⟨x,t,rfl,rfl⟩<;>rfl
 pyHash:=λc h=>by
  rcases kA c with⟨i,t,rfl,rfl⟩|⟨x,t,rfl,rfl⟩
  .show wpAny_pyHash_int h
  .show wpAny_pyHash_str h
 eqBool:=λC c h=>by
  rcases kA C with⟨i,t,rfl,rfl⟩|⟨x,t,rfl,rfl⟩
  .rcases kA c with⟨j,u,rfl,rfl⟩|⟨y,u,rfl,rfl⟩
   .rw[ND]at h;show Ti h
   .rw[NG]at h;show SeqAt.EqAt.int_str i t y u _ _ _ _ h
  .rcases kA c with⟨j,u,rfl,rfl⟩|⟨y,u,rfl,rfl⟩
   .rw[NH]at h;show SeqAt.EqAt.str_int x t j u _ _ _ _ h
   .rw[NF]at h;show wpAny_eqBool_str h
 «strs»:=λk x t v h=>by
  rcases kA h with⟨i,u,rfl,e⟩|⟨y,u,rfl,e⟩
  .show nomatch e
  .injection e with e1 _;subst e1;cases v<;>rfl
theorem NI(prog:Be)(w:Bv)(i:Int)(t:Vu):(bT prog w).is (.inl i) (.int i t)=ab:=NB i t
theorem NJ(prog:Be)(w:Bv)(x:Av)(t:Vu):(bT prog w).is (.inr x) (.str x t)=ab:=NC x t
inductive V where
 | non|bl (b:Bool)|int (i:Int)|str (x:Av)|byt (b:Array UInt8)|flt (b:UInt64)|ref (a:Am)|ty (n:String)
 deriving DecidableEq
def RelV:V->Ae->Prop
 | .non,u=>u=Value.none
 | .bl b,u=>u=Value.bool b
 | .int i,u=>∃t,u=Value.int i t
 | .str x,u=>∃t,u=Value.str x t
 | .byt b,u=>∃t,u=Value.bytes b t
 | .flt b,u=>∃t,u=Value.float b t
 | .ref a,u=>u=Value.ref a
 | .ty n,u=>u=Value.type n
abbrev aY:↑V->↑Ae->Prop:=Gk RelV
theorem aY.length(r:aY xs us):↥xs=↥us:=Ea r
theorem aY.get:∀{xs:↑V} {us:↑Ae} {i:Nat} {x:V},aY xs us->xs[i]? = aa x->∃u,us[i]? = aa u/\RelV x u
 | _,_,_,_,.nil,e=>by simp at e
 | _,_,0,_,.cons r _,e=>by simp at e;subst e;show#[_,rfl,r]
 | _,_,i+1,x,.cons _ t,e=>by
  let#[u,h1,h2]:=aY.get (i:=i) (x:=x) t (by simpa using e);show#[u,by simpa using h1,h2]
theorem aY.set(r:RelV x u):∀{xs:↑V} {us:↑Ae} (i:Nat),aY xs us->aY (xs.set i x) (us.set i u)
 | _,_,_,.nil=>.nil
 | _,_,0,.cons _ t=>.cons r t
 | _,_,i+1,.cons q t=>.cons q (aY.set r i t)
theorem aY.append:∀{xs ys:↑V} {us ws:↑Ae},aY xs us->aY ys ws->aY (xs++ys) (us++ws):=by
 intro xs ys us ws h s
 induction h with
 | nil=>show s
 | cons r t E=>show .cons r E
theorem aY.take:∀{xs:↑V} {us:↑Ae} (n:Nat),aY xs us->aY (xs.take n) (us.take n)
 | _,_,0,_=>.nil
 | _,_,_+1,.nil=>.nil
 | _,_,n+1,.cons r t=>.cons r (aY.take n t)
theorem aY.drop:∀{xs:↑V} {us:↑Ae} (n:Nat),aY xs us->aY (xs.drop n) (us.drop n)
 | _,_,0,r=>r
 | _,_,_+1,.nil=>.nil
 | _,_,n+1,.cons _ t=>aY.drop n t
def fM:Option V->Option Ae->Prop
 | some v,aa u=>RelV v u
 | none,ae=>True
 | _,_=>False
def KV{b:Type}:↑(b×V)->↑(b×Ae)->Prop:=Gk λ(p:b×V) (q:b×Ae)=>p.1=q.1/\RelV p.2 q.2
noncomputable def kV:aC->V
 | .inl i=>.int i
 | .inr x=>.str x
inductive HO where
 | lst (xs:↑V)
 | tup (xs:↑V)
 | dK (kvs:↑(aC×V))|dT (kvs:↑(↑aC×V))
 | set (S:Int->Bool) (n:Nat)
 | ins (C dx:Am) (fs:↑(Av×V))
 | own (x:Am)
 | xd (fs:↑(Av×V))
 | met (f x:Am)
 | rng (lo hi:Int)
 | frz (o:Nl) (u:HO)
 | tbl (ps:Array Ae)
 | ext (φ:Dz->Prop)
abbrev Hp:=Am->Option HO
noncomputable def aL(H:Hp)(a:Am)(o:HO):Hp:=λb=>if b=a then aa o else H b
theorem b7{H:Hp}{a:Am}{o:HO}:aL H a o a=aa o:=by unfold aL;rw[Xb rfl]
theorem bD{H:Hp}{a b:Am}{o:HO}(h:b≠a):aL H a o b=H b:=by unfold aL;rw[Xa h]
theorem sS{H:Hp}{a b:Am}{o u:HO}(h:H a=aa o)(h':H b=aa u)(d:o≠u):a≠b:=by
 intro e;subst e;rw[h]at h';show d (Cj h')
theorem eR{H:Hp}{a b:Am}{o:HO}(h:H a=aa o)(h':H b=ae):a≠b:=by
 intro e;subst e;rw[h]at h';cases h'
section
variable (P:Be)(w:Bv)
def bZ(H:Hp)(h:Dz)(a:Am):HO->Prop
 | .lst xs=>↥xs<=Ap/\∃(its:↑Ae) (n:Nat),aY xs its/\h.get? a=aa (lO its.toArray n)
 | .tup xs=>↥xs<=Ap/\∃its:↑Ae,aY xs its/\IsTup h a its.toArray
 | .dK kvs=>↥kvs<=Ap/\(a==Gi)=ac/\∃vs,KV kvs vs/\h.DictOf (bT P w) a vs
 | .dT kvs=>↥kvs<=Ap/\(a==Gi)=ac/\∃xs:↑(↑aC×Am×Ae),
   Gk (λ(p:↑aC×V) (q:↑aC×Am×Ae)=>p.1=q.1/\H q.2.1=aa (.tup (p.1.map kV))/\RelV p.2 q.2.2) kvs xs/\
   ∃o es ep,h.get? a=aa o/\o.ExactDict/\o.data=.dict es ep/\es.toList=xs.map (So (Ib (bT P w)))/\(xs.map (·.1)).Nodup
 | .set S n=>h.SetOf (intKind P w) a S n
 | .ins C s fs=>H s=aa (.own a)/\↥fs<=1000/\s≠a/\h.get? a=aa (Iu C s)/\
   ∃i,h.Ns1 s i/\(∀f,fM (fs.lookup f) (i f))/\Ud i (fs.map (·.1))
 | .own _=>∃o,h.get? a=aa o
 | .xd fs=>∃i,h.Ns1 a i/\∀f,fM (fs.lookup f) (i f)
 | .rng lo hi=>∃t u v,h.get? a=aa {cls:=.type "range",data:=.fields [.int lo t,.int hi u,.int 1 v].toArray}
 | .frz o u=>h.get? a=aa o/\bZ H h a u
 | .tbl ps=>h.get? a=aa {cls:=.none,data:=.fields ps}
 | .met f x=>h.get? a=aa (Qs (.ref f) (.ref x))
 | .ext j=>j h/\(∃o,h.get? a=aa o)/\∀h1 h2:Dz,j h1->(∀o,h1.get? a=aa o->h2.get? a=aa o)->j h2
def cR(H:Hp)(h:Dz):Prop:=∀a o,H a=aa o->bZ P w H h a o
end
section
variable {P:Be}{w:Bv}{H H':Hp}{h h':Dz}{a:Am}{o:HO}
theorem bZ.lt(x:bZ P w H h a o):a<h.objs.size:=by
 cases o with
 | lst xs=>let#[_,_,_,_,e]:=x;show Ba e
 | tup xs=>let#[_,_,_,p]:=x;show p.lt
 | dK kvs=>let#[_,_,_,_,o,_,_,e,_]:=x;show Ba e
 | dT kvs=>let#[_,_,_,_,o,_,_,e,_]:=x;show Ba e
 | set S n=>let#[o,_,_,_,e,_]:=x;show Ba e
 | ins C s fs=>let#[_,_,_,e,_]:=x;show Ba e
 | own y=>let#[_,e]:=x;show Ba e
 | xd fs=>obtain⟨_,⟨_,_,_,e,_⟩,_⟩:=x;show Ba e
 | rng lo hi=>let#[_,_,_,e]:=x;show Ba e
 | frz ob u=>let#[e,_]:=x;show Ba e
 | tbl ps=>show Ba (show h.get? a=aa _ from x)
 | met f y=>show Ba (show h.get? a=aa _ from x)
 | ext j=>obtain⟨_,⟨_,e⟩,_⟩:=x;show Ba e
theorem Paired.mapP{q j:Type}{F G:q->j->Prop}:∀{l₁:↑q} {l₂:↑j},Gk F l₁ l₂->(∀a b,F a b->G a b)->Gk G l₁ l₂:=by
 intro l₁ l₂ h f
 induction h with
 | nil=>show .nil
 | cons r t E=>show .cons (f _ _ r) E
theorem bZ.stay(x:bZ P w H h a o)(k:∀b u,(b=a\/H b=aa (.own a))->h.get? b=aa u->h'.get? b=aa u)(D:∀b,H b=aa (.own a)->H' b=aa (.own a))(ht:∀b xs,H b=aa (.tup xs)->H' b=aa (.tup xs)):bZ P w H' h' a o:=by
 induction o with
 | lst xs=>let#[z,its,n,r,e]:=x;show#[z,its,n,r,k _ _ (.inl rfl) e]
 | tup xs=>let#[z,its,r,ob,e,c]:=x;show#[z,its,r,ob,k _ _ (.inl rfl) e,c]
 | dK kvs=>let#[z,y,vs,r,ob,es,ep,e,c]:=x;show#[z,y,vs,r,ob,es,ep,k _ _ (.inl rfl) e,c]
 | dT kvs=>
  let#[z,y,xs,r,ob,es,ep,e,c]:=x;show#[z,y,xs,Paired.mapP r λp q z=>#[z.1,ht _ _ z.2.1,z.2.2],ob,es,ep,k _ _ (.inl rfl) e,c]
 | set S n=>let#[ob,es,ep,t,e,c]:=x;show#[ob,es,ep,t,k _ _ (.inl rfl) e,c]
 | ins C s fs=>
  obtain⟨d,z,ne,e,i,⟨g,es,ep,A,c⟩,r⟩:=x;show#[D _ d,z,ne,k _ _ (.inl rfl) e,i,#[g,es,ep,k _ _ (.inr d) A,c],r]
 | own y=>let#[ob,e]:=x;show#[ob,k _ _ (.inl rfl) e]
 | xd fs=>obtain⟨i,⟨g,es,ep,e,c⟩,r⟩:=x;show#[i,#[g,es,ep,k _ _ (.inl rfl) e,c],r]
 | rng lo hi=>let#[t,u,v,e]:=x;show#[t,u,v,k _ _ (.inl rfl) e]
 | frz ob u E=>let#[e,q]:=x;show#[k _ _ (.inl rfl) e,E q]
 | tbl ps=>
  let e:h.get? a=aa {cls:=.none,data:=.fields ps}:=x;change h'.get? a=aa {cls:=.none,data:=.fields ps};show k a _ (.inl rfl) e
 | met f y=>
  let e:h.get? a=aa (Qs (.ref f) (.ref y)):=x;change h'.get? a=aa (Qs (.ref f) (.ref y));show k a _ (.inl rfl) e
 | ext j=>obtain⟨p,⟨o,e⟩,st⟩:=x;show#[st _ _ p λo q=>k _ _ (.inl rfl) q,#[o,k _ _ (.inl rfl) e],st]
theorem cR.lt(x:cR P w H h)(e:H a=aa o):a<h.objs.size:=(x a o e).lt
theorem cR.fresh(x:cR P w H h)(e:h.objs.size<=a):H a=ae:=by
 cases q:H a with
 | none=>rfl
 | some u=>show absurd (Ci (x.lt q) e) (Ln _)
theorem cR.kept(x:cR P w H h)(k:∀b u,h.get? b=aa u->h'.get? b=aa u):cR P w H h':=λa o e=>
 (x a o e).stay (λb u _ q=>k b u q) (λ_ q=>q) λ_ _ q=>q
theorem cR.laid(x:cR P w H h)(k:∀b u,h.get? b=aa u->h'.get? b=aa u)(S:h.objs.size<=a)(new:bZ P w (aL H a o) h' a o):cR P w (aL H a o) h':=λb u e=>by
 let D:=x.fresh S
 by_cases Y:b=a
 .subst Y;rw[b7]at e;cases e;show new
 .rw[bD Y]at e;show(x b u e).stay (λc v _ q=>k c v q) (λc q=>by rw[bD (eR q D)];show q) λc xs q=>by rw[bD (eR q D)];show q
end
def Rd(H:Hp)(a:Am)(u:HO):Prop:=H a=aa u\/∃o,H a=aa (.frz o u)
theorem Rd.ok(r:Rd H a u)(x:cR P w H h):bZ P w H h a u:=by
 rcases r with r|⟨o,r⟩
 .show x a u r
 .let#[_,q]:=x a _ r;show q
def qK:Option HO->Prop
 | some (.lst _)=>True
 | some (.dK _)=>True
 | some (.dT _)=>True
 | some (.set _ _)=>True
 | some (.ins _ _ _)=>True
 | some (.ext _)=>True
 | _=>False
section
variable {P:Be}{w:Bv}{H:Hp}{h h':Dz}{x e:Am}{o':HO}
theorem cR.write(ok:cR P w H h)(d:qK (H x))(m:e=x\/H e=aa (.own x))(k:∀b u,b≠e->h.get? b=aa u->h'.get? b=aa u)(f:∃u,h'.get? e=aa u)(new:bZ P w (aL H x o') h' x o'):cR P w (aL H x o') h':=λb u q=>by
 let i:∀c y,H c=aa (.own y)->c≠x:=λc y r z=>by subst z;rw[r]at d;show d
 let j:∀c xs,H c=aa (.tup xs)->c≠x:=λc xs r z=>by subst z;rw[r]at d;show d
 by_cases Y:b=x
 .subst Y;rw[b7]at q;cases q;show new
 .rw[bD Y]at q
  by_cases a:b=e
  .let W:H b=aa (.own x):=by
    rcases m with z|z
    .show absurd (a.trans z) Y
    .rw[a];show z
   rw[q]at W;cases W;let#[v,g]:=f;show#[v,by rw[a];show g]
  .apply(ok b u q).stay (λc v hc r=>k c v ?_ r) (λc r=>by rw[bD (i c b r)];show r) λc xs r=>by rw[bD (j c xs r)];show r
   rcases hc with rfl|hc
   .show a
   .rintro rfl;rcases m with z|z
    .show i c b hc z
    .rw[hc]at z;cases z;show Y rfl
end
structure Un(fs ex:↑Am)(H H':Hp)(h h':Dz):Prop where
 keep:∀b o,h.get? b=aa o->H b=ae->b∉fs->b∉ex->h'.get? b=aa o
 slot:∀b o,h.get? b=aa o->H b=ae->b∈fs->b∉ex->∃sl,h'.get? b=aa {o with slots:=sl}
 free:∀b o,h.get? b=aa o->H b=ae->b∉ex->H' b=ae
 there:∀b o,h.get? b=aa o->b∉ex->∃o',h'.get? b=aa o'
 tups:∀b xs,H b=aa (.tup xs)->H' b=aa (.tup xs)
 frzs:∀b o u,H b=aa (.frz o u)->H' b=aa (.frz o u)
 tbls:∀b ps,H b=aa (.tbl ps)->∃more,H' b=aa (.tbl (ps++more))
section
variable {fs fs' ex ex':↑Am}{H H1 H2:Hp}{h h1 h2 h':Dz}{a x e:Am}{o:HO}
theorem Un.any(u:Un fs ex H H1 h h1)(q:h.get? b=aa ob)(n:H b=ae)(B:b∉ex):∃sl,h1.get? b=aa {ob with slots:=sl}:=by
 by_cases Y:b∈fs
 .show u.slot b ob q n Y B
 .show#[ob.slots,u.keep b ob q n Y B]
theorem Un.kept(k:∀b u,h.get? b=aa u->h'.get? b=aa u):Un fs ex H H h h':=
 #[λb ob q _ _ _=>k b ob q,λb ob q _ _ _=>#[ob.slots,k b ob q],λ_ _ _ n _=>n,λb ob q _=>#[ob,k b ob q],λ_ _ q=>q,λ_ _ _ q=>q,λ_ ps q=>#[#[],by rw[q];simp]]
theorem Un.refl:Un fs ex H H h h:=Un.kept λ_ _ q=>q
theorem Un.laid(k:∀b u,h.get? b=aa u->h'.get? b=aa u)(S:h.objs.size<=a)(P:H a=ae):Un fs ex H (aL H a o) h h' where
 keep:=λb u q _ _ _=>k b u q
 slot:=λb u q _ _ _=>#[u.slots,k b u q]
 free:=λb u q n _=>by rw[bD (Bl (Ci (Ba q) S))];show n
 there:=λb u q _=>#[u,k b u q]
 tups:=λb xs q=>by rw[bD (eR q P)];show q
 frzs:=λb u xs q=>by rw[bD (eR q P)];show q
 tbls:=λb ps q=>#[#[],by rw[bD (eR q P),q];simp]
theorem Un.write(d:qK (H x))(m:e=x\/H e=aa (.own x))(k:∀b u,b≠e->h.get? b=aa u->h'.get? b=aa u)(f:∃u,h'.get? e=aa u):Un fs ex H (aL H x o) h h':=by
 let B:∀b,H b=ae->b≠x:=λb n z=>by subst z;rw[n]at d;show d
 let Y:∀b,H b=ae->b≠e:=λb n z=>by
  subst z;rcases m with r|r
  .show B b n r
  .rw[n]at r;cases r
 let N:∀b u,H b=aa u->¬qK (aa u)->b≠x:=λb u q nm z=>by subst z;rw[q]at d;show nm d
 apply#[λb u q n _ _=>k b u (Y b n) q,λb u q n _ _=>#[u.slots,k b u (Y b n) q],λb u q n _=>by rw[bD (B b n)];show n,λb u q _=>?_,
  λb xs q=>by rw[bD (N b _ q λz=>z)];show q,λb u xs q=>by rw[bD (N b _ q λz=>z)];show q,λb ps q=>#[#[],by rw[bD (N b _ q λz=>z),q];simp]]
 by_cases a:b=e
 .subst a;show f
 .show#[u,k b u a q]
end
noncomputable def sU(h:Dz)(H:Hp):↑Am:=(Cf h.objs.size).filter λa=>(H a).isSome
noncomputable def kT(h:Dz)(H:Hp):Dz:=PySem.W.hideAll h (sU h H)
theorem NK(h:Dz)(H:Hp):(kT h H).objs.size=h.objs.size:=PySem.W.hideAll_size _ _
theorem NL(e:h.get? b=aa o)(n:H b=ae):(kT h H).get? b=aa o:=
 PySem.W.hideAll_get _ e λN=>by
  let q:(H b).isSome=ab:=(Gb.mp N).2;rw[n]at q;simp at q
theorem NM(e:(kT h H).get? b=aa o):h.get? b=aa o/\H b=ae:=by
 let U:h.get? b=aa o:=PySem.W.of_hideAll (sU h H) e;apply#[U,?_];cases q:H b with
 | none=>rfl
 | some x=>
  let N:b∈sU h H:=Gb.mpr #[Gx.mpr (Ba U),by simp[q]];let z:(kT h H).get? b=ae:=PySem.W.hideAll_none (sU h H) N;rw[z]at e;cases e
structure Mod(K:Ac)(mg:Av->Option Ae)(base:Dz):Prop where
 kin:K.In base
 glob:base.Ns Em mg
 blt:∃mb,base.Ns Wo mb/\∀x:Av,x≠"__name__"->mb x=Cz x
 nolimit:base.NoLimit
structure Cx where
 prog:Be
 w:Bv
 K:Ac
 mg:Av->Option Ae
 base:Dz
 A:Cw
 N:↑Av
 s₀:Ak
 H₀:Hp
 env:Env
 outer:↑Env
 stack:↑Env
 ex:↑Am
 fn:Av->Bool
 calm:Bool
 pn:↑(Am×Nl)
 xe:Ae->Ak->Prop
noncomputable abbrev Cx.m(X:Cx):=Cy X.prog X.w
abbrev Cx.a(X:Cx){q:Type}(t:Uc q)(Q:q->Ak->Prop)(E:Ae->Ak->Prop)(s:Ak):Prop:=Bo X.m X.A t Q E s
abbrev Se(X:Cx)(e:Cm)(es:↑Cm):Prop:=Cg (e::es) X.env=(ac,El e X.env)::Cg es X.env
abbrev Sb(X:Cx)(pos:Ih)(es:↑Cm):Prop:=(Nx pos (Cg es X.env)).any (·.1)=ac
abbrev Fy(X:Cx)(x:Av):Prop:=X.fn x=ab\/X.env.scope.names.lookup x=aa .local
noncomputable def iB(l:↑Env):↑Am:=l.filterMap (·.frame)
noncomputable abbrev Cx.fs(X:Cx):↑Am:=iB X.outer
def sW(sc:Mb)(x:Av):Prop:=sc.names.lookup x=aa .local\/sc.names.lookup x=aa .cell\/sc.names.lookup x=aa .free
def Loc(sc:Mb)(x:Av):Prop:=sc.names.lookup x=aa .local\/sc.names.lookup x=aa .cell
def Look(env:Env)(h:Dz)(m:Av->Option Ae)(x:Av)(u:Ae):Prop:=
 (env.kindOf x=aa .local/\m x=aa u)\/((env.kindOf x=aa .cell\/env.kindOf x=aa .free)/\∃c,env.cells.lookup x=aa c/\h.IsCell c (aa u))
structure Cx.Ok(X:Cx):Prop where
 mod:Mod X.K X.mg X.base
 kind:X.env.scope.kind=.function
 glob:X.env.globals=Em
 blt:X.env.builtins=Wo
 above:⇑X.s₀<=X.env.locals
 inj:∀x y c,X.env.cells.lookup x=aa c->X.env.cells.lookup y=aa c->x=y
 has:∀x,(X.env.kindOf x=aa .cell\/X.env.kindOf x=aa .free)->∃c,X.env.cells.lookup x=aa c
 cab:∀x c,X.fn x=ab->X.env.cells.lookup x=aa c->⇑X.s₀<=c
 hd:X.calm=ab->X.A.handled=ae
 frames:X.A.frames=aa X.stack
 stk:X.stack=X.outer\/(X.stack=X.env::X.outer/\X.env.frame=aa X.env.locals)
 exf:∀b∈X.ex,b≠X.env.locals/\∀x c,X.env.cells.lookup x=aa c->c≠b
 bs:∀b o,X.base.get? b=aa o->X.s₀.heap.get? b=aa o/\X.H₀ b=ae
 bsz:X.base.objs.size<=⇑X.s₀
 noex:∀b o,X.base.get? b=aa o->b∉X.ex
 exfs:∀b∈X.ex,b∉X.fs
 funs:X.s₀.heap.FunFrames X.base X.outer
 frf:∀b∈X.fs,X.H₀ b=ae
structure Inv(X:Cx)(af:Pn)(Z:↑(Option V))(H:Hp)(s:Ak):Prop where
 ok:X.Ok
 os:s.os=X.s₀.os
 bare:Qi s.gens
 base:Un X.fs X.ex X.H₀ H X.s₀.heap s.heap
 loc:∃m,s.heap.Ns X.env.locals m/\∀(i:Nat) (x:Av) (v:V),X.N[i]? = aa x->Z[i]? = aa (aa v)->sW X.env.scope x->∃u,RelV v u/\Look X.env s.heap m x u
 cell:∀x c,X.env.cells.lookup x=aa c->∃v,s.heap.IsCell c v
 free:H X.env.locals=ae
 freeC:∀x c,X.env.cells.lookup x=aa c->H c=ae
 pin:∀p∈X.pn++af,s.heap.get? p.1=aa p.2/\H p.1=ae/\p.1≠X.env.locals/\p.1∉X.fs/\∀v,p.2.data≠.cell v
 hok:cR X.prog X.w H s.heap
 len:↥Z=↥X.N
section
variable {X:Cx}{af:Pn}{Z:↑(Option V)}{H H':Hp}{s:Ak}{h':Dz}
theorem Cx.Ok.nofr(ok:X.Ok)(e:X.base.get? b=aa o):b∉X.fs:=λY=>by
 have:=(ok.funs.mem Y).1;rw[e]at this;cases this
theorem Inv.bs(I:Inv X af Z H s):∀b o,X.base.get? b=aa o->s.heap.get? b=aa o/\H b=ae:=λb o e=>
 #[I.base.keep b o (I.ok.bs b o e).1 (I.ok.bs b o e).2 (I.ok.nofr e) (I.ok.noex b o e),I.base.free b o (I.ok.bs b o e).1 (I.ok.bs b o e).2 (I.ok.noex b o e)]
theorem Inv.bk(I:Inv X af Z H s):∀b o,X.base.get? b=aa o->s.heap.get? b=aa o:=λb o e=>(I.bs b o e).1
theorem Inv.mod(I:Inv X af Z H s):Mod X.K X.mg X.base:=I.ok.mod
theorem Inv.kIn(I:Inv X af Z H s):X.K.In s.heap:=I.ok.mod.kin.keeps I.bk
theorem Inv.lt(I:Inv X af Z H s):X.env.locals<⇑s:=let #[_,hn,_]:=I.loc;hn.lt
theorem Inv.sz(I:Inv X af Z H s):⇑X.s₀<=⇑s:=Ar I.ok.above (Ie I.lt)
theorem Inv.nofs(I:Inv X af Z H s)(h:⇑s<=a):a∉X.fs:=λY=>by
 let#[_,o,f,_]:=I.ok.funs.mem Y;show absurd (Ci (Ba f) (Ar I.sz h)) (Ln _)
theorem Inv.cne(I:Inv X af Z H s):∀x c,X.env.cells.lookup x=aa c->c≠X.env.locals:=λx c e z=>by
 let#[v,o,f,hd]:=I.cell x c e;obtain⟨m,⟨o',es,ep,F,g,_⟩,_⟩:=I.loc;rw[z,F]at f;cases f;rw[g]at hd;cases hd
theorem Inv.funs(I:Inv X af Z H s):s.heap.FunFrames X.base X.outer:=by
 let all:∀(l:↑Env),(∀b∈iB l,b∈X.fs)->X.s₀.heap.FunFrames X.base l->s.heap.FunFrames X.base l:=by
  intro l
  induction l with
  | nil=>intro _ _;trivial
  | cons env r E=>
   intro F hl;obtain⟨hk,⟨L,o,hf,P,f,hd⟩,G⟩:=hl;let i:L∈X.fs:=F L (by unfold iB;rw[Ez,hf];show Bw);let#[sl,e]:=I.base.slot L o f (I.ok.frf L i) i λz=>I.ok.exfs L z i;show#[hk,#[L,_,hf,P,e,hd],E (λb Y=>F b (by unfold iB;rw[Ez,hf];show Bp _ Y)) G]
 show all X.outer (λ_ Y=>Y) I.ok.funs
theorem Inv.stack(I:Inv X af Z H s):s.heap.FunFrames X.base X.stack:=by
 rcases I.ok.stk with e|⟨e,hf⟩
 .rw[e];show I.funs
 .rw[e];let#[m,P,_]:=I.loc;apply .cons (by rw[I.ok.kind];decide) hf P ?_ I.funs;show Heap.get?_none_of_le (Ar I.ok.bsz I.ok.above)
theorem Inv.stkSub(I:Inv X af Z H s):∀b∈iB X.stack,b∈X.env.locals::X.fs:=λb Y=>by
 rcases I.ok.stk with e|⟨e,hf⟩
 .rw[e]at Y;show Bp _ Y
 .rw[e]at Y;unfold iB at Y;rw[Ez,hf]at Y;show Y
theorem Inv.stkFree(I:Inv X af Z H s):∀b∈iB X.stack,H b=ae:=λb Y=>by
 rcases Ax.mp (I.stkSub b Y) with e|Y
 .rw[e];show I.free
 .let#[_,o,f,_]:=I.ok.funs.mem Y;show I.base.free b o f (I.ok.frf b Y) λz=>I.ok.exfs b z Y
theorem Inv.step{g':Array GenState}{t':Nat}{d':Drawn}{ch:↑Am}(I:Inv X af Z H s)(a:∀b∈ch,(b∈X.ex\/⇑X.s₀<=b)/\b≠X.env.locals/\(∀x c,X.env.cells.lookup x=aa c->c≠b)/\∀p∈X.pn++af,p.1≠b)(keep:∀b o,b≠X.env.locals->b∉X.fs->b∉ch->s.heap.get? b=aa o->H b=ae->h'.get? b=aa o)(slot:∀b o,b≠X.env.locals->b∈X.fs->b∉ch->s.heap.get? b=aa o->H b=ae->∃sl,h'.get? b=aa {o with slots:=sl})(free:∀b o,b∉ch->s.heap.get? b=aa o->H b=ae->H' b=ae)(there:∀b o,b∉ch->s.heap.get? b=aa o->∃o',h'.get? b=aa o')(tups:∀b xs,H b=aa (.tup xs)->H' b=aa (.tup xs))(frzs:∀b o u,H b=aa (.frz o u)->H' b=aa (.frz o u))(tbls:∀b ps,H b=aa (.tbl ps)->∃more,H' b=aa (.tbl (ps++more)))(ns:∀m,s.heap.Ns X.env.locals m->h'.Ns X.env.locals m)(hok:cR X.prog X.w H' h')(hg:Qi g'):
  Inv X af Z H' {s with heap:=h',gens:=g',drawn:=d',toks:=t'}:=by
 let t:∀b o,X.s₀.heap.get? b=aa o->b≠X.env.locals:=λb o e=>Bl (Ci (Ba e) I.ok.above);let j:∀b o,X.s₀.heap.get? b=aa o->b∉X.ex->b∉ch:=λb o e B Y=>by
  rcases(a b Y).1 with z|z
  .show B z
  .show absurd (Ci (Ba e) z) (Ln _)
 let h:∀x c,X.env.cells.lookup x=aa c->∀v,s.heap.IsCell c v->h'.IsCell c v:=λx c e v #[o,f,hd]=>by
  let g:c∉ch:=λz=>(a c z).2.2.1 x c e rfl
  by_cases hc:c∈X.fs
  .let#[sl,q]:=slot c o (I.cne x c e) hc g f (I.freeC x c e);show#[_,q,hd]
  .show#[o,keep c o (I.cne x c e) hc g f (I.freeC x c e),hd]
 apply#[I.ok,I.os,hg,#[λb o e n Y B=>?_,λb o e n Y B=>?_,λb o e n B=>?_,λb o e B=>?_,λb xs e=>tups b xs (I.base.tups b xs e),λb o xs e=>frzs b o xs (I.base.frzs b o xs e),λb ps e=>?_],?_,λx c e=>?_,?_,λx c e=>?_,λp S=>?_,hok,I.len]
 .show keep b o (t b o e) Y (j b o e B) (I.base.keep b o e n Y B) (I.base.free b o e n B)
 .let#[sl,J]:=I.base.slot b o e n Y B;let#[y,D]:=slot b _ (t b o e) Y (j b o e B) J (I.base.free b o e n B);show#[y,D]
 .let#[o',J]:=I.base.there b o e B;show free b o' (j b o e B) J (I.base.free b o e n B)
 .let#[o',J]:=I.base.there b o e B;show there b o' (j b o e B) J
 .let#[m1,J]:=I.base.tbls b ps e;let#[m2,D]:=tbls b _ J;show#[m1++m2,by rw[D,Array.append_assoc]]
 .let#[m,P,hl]:=I.loc;apply#[m,ns m P,λi x v J D W=>?_];let#[u,r,l]:=hl i x v J D W;apply#[u,r,?_];rcases l with l|⟨k,c,e,z⟩
  .show .inl l
  .show .inr #[k,c,e,h x c e _ z]
 .let#[v,z]:=I.cell x c e;show#[v,h x c e v z]
 .obtain⟨m,⟨o,_,_,f,_⟩,_⟩:=I.loc;show free _ o (λz=>(a _ z).2.1 rfl) f I.free
 .let#[v,o,f,hd]:=I.cell x c e;show free c o (λz=>(a c z).2.2.1 x c e rfl) f (I.freeC x c e)
 .let#[e,n,ne,A,d]:=I.pin p S;let g:p.1∉ch:=λz=>(a p.1 z).2.2.2 p S rfl;show#[keep p.1 p.2 ne A g e n,free p.1 p.2 g e n,ne,A,d]
theorem Inv.un{t':Nat}(I:Inv X af Z H s)(u:Un X.fs [] H H' s.heap h')(hok:cR X.prog X.w H' h'):Inv X af Z H' {s with heap:=h',toks:=t'}:=by
 obtain⟨m,⟨o,es,ep,f,r⟩,_⟩:=id I.loc;let#[sl,i]:=u.any f I.free (by simp);show I.step (g':=s.gens) (d':=s.drawn) (ch:=[]) (λ_ z=>nomatch z) (λb o _ Y _ e n=>u.keep b o e n Y (by simp)) (λb o _ Y _ e n=>u.slot b o e n Y (by simp)) (λb o _ e n=>u.free b o e n (by simp)) (λb o _ e=>u.there b o e (by simp)) u.tups u.frzs u.tbls (λq N=>by
  let#[o',E,t,F,g]:=N;rw[f]at F;cases F;show#[_,E,t,i,g]) hok I.bare
theorem Inv.call{g':Array GenState}{t':Nat}{d':Drawn}{ch:↑Am}(I:Inv X af Z H s)(u:Un (iB X.stack) ch H H' s.heap h')(hok:cR X.prog X.w H' h')(hg:Qi g')(a:∀b∈ch,(b∈X.ex\/⇑X.s₀<=b)/\b≠X.env.locals/\(∀x c,X.env.cells.lookup x=aa c->c≠b)/\∀p∈X.pn++af,p.1≠b):
  Inv X af Z H' {s with heap:=h',gens:=g',drawn:=d',toks:=t'}:=by
 obtain⟨m,⟨o,es,ep,f,r⟩,_⟩:=id I.loc;let#[sl,i]:=u.any f I.free λz=>(a _ z).2.1 rfl;show I.step (ch:=ch) a (λb o i Y hc e n=>u.keep b o e n (λz=>(Ax.mp (I.stkSub b z)).elim i Y) hc) (λb o _ _ hc e n=>u.any e n hc) (λb o hc e n=>u.free b o e n hc) (λb o hc e=>u.there b o e hc) u.tups u.frzs u.tbls (λq N=>by
  let#[o',E,t,F,g]:=N;rw[f]at F;cases F;show#[_,E,t,i,g]) hok hg
theorem Inv.turned{t':Nat}{it:Am}(I:Inv X af Z H s)(k:∀b o,b≠it->s.heap.get? b=aa o->h'.get? b=aa o)(P:H it=ae)(i:it≠X.env.locals)(h1:it∈X.ex\/⇑X.s₀<=it)(h2:∀x c,X.env.cells.lookup x=aa c->c≠it)(F:∀p∈X.pn++af,p.1≠it):Inv X af Z H {s with heap:=h',toks:=t'}:=by
 let a:∀b u,H b=aa u->b≠it:=λb u e z=>by rw[z,P]at e;cases e
 apply I.step (g':=s.gens) (d':=s.drawn) (ch:=[it]) (λb Y=>?_) (λb o _ _ hc e _=>k b o (λz=>hc (by simp[z])) e) (λb o _ _ hc e _=>#[o.slots,k b o (λz=>hc (by simp[z])) e]) (λ_ _ _ _ n=>n)
  (λb o hc e=>#[o,k b o (λz=>hc (by simp[z])) e]) (λ_ _ e=>e) (λ_ _ _ e=>e) (λb ps e=>#[#[],by rw[e];simp]) (λm N=>?_) (λb u e=>?_) I.bare
 .let e:b=it:=by simpa using Y
  subst e;show#[h1,i,h2,F]
 .let#[o,es,ep,f,r]:=N;show#[o,es,ep,k _ o (Ca i) f,r]
 .apply(I.hok b u e).stay (λc v hc q=>k c v ?_ q) (λ_ q=>q) λ_ _ q=>q;rcases hc with z|z
  .rw[z];show a b u e
  .show a c _ z
theorem Inv.tok(I:Inv X af Z H s)(t:Nat):Inv X af Z H {s with toks:=t}:=I.un (h':=s.heap) (t':=t) Un.refl I.hok
theorem Inv.kept{t':Nat}(I:Inv X af Z H s)(k:∀b u,s.heap.get? b=aa u->h'.get? b=aa u):Inv X af Z H {s with heap:=h',toks:=t'}:=I.un (Un.kept k) (I.hok.kept k)
theorem Inv.laid{t':Nat}(I:Inv X af Z H s)(k:∀b u,s.heap.get? b=aa u->h'.get? b=aa u)(S:⇑s<=a)(new:bZ X.prog X.w (aL H a o) h' a o):
  Inv X af Z (aL H a o) {s with heap:=h',toks:=t'}:=I.un (Un.laid k S (I.hok.fresh S)) (I.hok.laid k S new)
theorem Inv.write{t':Nat}(I:Inv X af Z H s)(d:qK (H x))(m:e=x\/H e=aa (.own x))(k:∀b u,b≠e->s.heap.get? b=aa u->h'.get? b=aa u)(f:∃u,h'.get? e=aa u)(new:bZ X.prog X.w (aL H x o) h' x o):Inv X af Z (aL H x o) {s with heap:=h',toks:=t'}:=I.un (Un.write d m k f) (I.hok.write d m k f new)
theorem Inv.pins_of(I:Inv X af Z H s)(h:∀p∈a,s.heap.get? p.1=aa p.2/\H p.1=ae/\p.1≠X.env.locals/\p.1∉X.fs/\∀v,p.2.data≠.cell v):Inv X a Z H s:=
 #[I.ok,I.os,I.bare,I.base,I.loc,I.cell,I.free,I.freeC,λp S=>(Bb.mp S).elim (λz=>I.pin p (Bf _ z)) (h p),I.hok,I.len]
theorem B5{N:↑Av}(f:N.Nodup){i j:Nat}{x:Av}(a:N[i]? = aa x)(b:N[j]? = aa x):i=j:=by
 let#[h1,J]:=An.mp a;let#[h2,D]:=An.mp b;show(List.getElem_inj f).mp (J.trans D.symm)
theorem B6{M:Model}{A:Cw}{E:Ae->Ak->Prop}{i:Nat}{x:Av}{v:V}{u:Ae}{Q:Unit->Ak->Prop}(I:Inv X af Z H s)(f:X.N.Nodup)(hi:X.N[i]? = aa x)(B:Loc X.env.scope x)(r:RelV v u)(h:∀U,Inv X af (Z.set i (aa v)) H U->(∃a,Fb a s.heap U.heap/\(a=X.env.locals\/X.env.cells.lookup x=aa a))->Q () U)(hf:Fy X x:=by first|exact .inl rfl|exact .inr rfl|assumption):Bo M A (storeName X.env x u) Q E s:=by
 let#[m,P,hl]:=id I.loc;let hcls:(X.env.scope.kind==.class||(X.env.scope.kind==.module&&X.env.locals !=X.env.globals))=ac:=by rw[I.ok.kind];rfl
 let hiσ:i<↥Z:=by rw[I.len];show(An.mp hi).1
 let cne:=I.cne;let l:∀{a:Am} {h':Dz},(∃o,s.heap.get? a=aa o/\H a=ae)->Fb a s.heap h'->cR X.prog X.w H h':=λ{a h'} T F b ob e=>by
  let#[_,_,G]:=T;apply(I.hok b ob e).stay (λc t hc q=>(F.2 c ?_).trans q) (λ_ q=>q) λ_ _ q=>q;rintro rfl;rcases hc with rfl|hc
  .rw[G]at e;cases e
  .rw[G]at hc;cases hc
 rcases B with hk|hk
 .apply wpAny_storeName_local hk P (λh' hn' F=>?_) hcls;let#[oL,_,_,hoL,_]:=id P;apply h _ #[I.ok,I.os,I.bare,#[λb o e n Y B=>?_,λb o e n Y B=>?_,I.base.free,λb o e B=>?_,I.base.tups,I.base.frzs,I.base.tbls],#[_,hn',λj y v' J D N=>?_],λy c e=>?_,I.free,I.freeC,λp S=>?_,l #[oL,hoL,I.free] F,by simpa using I.len] #[_,F,.inl rfl]
  .show(F.2 b (Bl (Ci (Ba e) I.ok.above))).trans (I.base.keep b o e n Y B)
  .let#[sl,J]:=I.base.slot b o e n Y B;show#[sl,(F.2 b (Bl (Ci (Ba e) I.ok.above))).trans J]
  .let#[o',J]:=I.base.there b o e B;show#[o',(F.2 b (Bl (Ci (Ba e) I.ok.above))).trans J]
  .by_cases hj:j=i
   .subst hj;rw[hi]at J;cases J;rw[List.getElem?_set_self hiσ]at D;cases D;show#[u,r,.inl #[hk,by simp]]
   .rw[List.getElem?_set_ne (Ca hj)]at D;let#[K,g,q]:=hl j y v' J D N;apply#[K,g,?_];rcases q with⟨k,e⟩|⟨k,c,e,z⟩
    .apply .inl #[k,?_];have:y≠x:=λe=>hj (B5 f J (e▸hi));simp[this,e]
    .show .inr #[k,c,e,z.sameBut F (cne y c e)]
  .let#[t,z]:=I.cell y c e;show#[t,z.sameBut F (cne y c e)]
  .let#[e,n,ne,nf,d]:=I.pin p S;show#[(F.2 p.1 ne).trans e,n,ne,nf,d]
 .let hfn:X.fn x=ab:=by
   rcases hf with z|z
   .show z
   .rw[z]at hk;cases hk
  let#[c,hc]:=I.ok.has x (.inl hk);let#[t,z]:=I.cell x c hc;apply wpAny_storeName_cell I.ok.kind hk hc z (λh' hc' F=>?_);let#[L,R,hocd]:=id z;apply h {s with heap:=h'} #[I.ok,I.os,I.bare,#[λb o e n Y B=>?_,λb o e n Y B=>?_,I.base.free,λb o e B=>?_,I.base.tups,I.base.frzs,I.base.tbls],#[m,P.sameBut F (Ca (cne x c hc)),λj y v' J D N=>?_],λy O e=>?_,I.free,I.freeC,λp S=>?_,l #[L,R,I.freeC x c hc] F,by simpa using I.len] #[c,F,.inr hc]
  .show(F.2 b (Bl (Ci (Ba e) (I.ok.cab x c hfn hc)))).trans (I.base.keep b o e n Y B)
  .let#[sl,J]:=I.base.slot b o e n Y B;show#[sl,(F.2 b (Bl (Ci (Ba e) (I.ok.cab x c hfn hc)))).trans J]
  .let#[o',J]:=I.base.there b o e B;show#[o',(F.2 b (Bl (Ci (Ba e) (I.ok.cab x c hfn hc)))).trans J]
  .by_cases hj:j=i
   .subst hj;rw[hi]at J;cases J;rw[List.getElem?_set_self hiσ]at D;cases D;show#[u,r,.inr #[.inl hk,c,hc,hc']]
   .rw[List.getElem?_set_ne (Ca hj)]at D;let#[K,g,q]:=hl j y v' J D N;apply#[K,g,?_];rcases q with q|⟨k,O,e,z'⟩
    .show .inl q
    .apply .inr #[k,O,e,z'.sameBut F ?_];rintro rfl;show hj (B5 f J (I.ok.inj _ _ _ e hc▸hi))
  .by_cases hcc:O=c
   .subst hcc;show#[_,hc']
   .let#[w2,C]:=I.cell y O e;show#[w2,C.sameBut F hcc]
  .let#[e,n,ne,nf,d]:=I.pin p S;apply#[(F.2 p.1 ?_).trans e,n,ne,nf,d];intro q;rw[q,R]at e;let W:L=p.2:=Cj e;show d t (by rw[<-W];show hocd)
theorem B7{E:Ae->Ak->Prop}{i:Nat}{Q:Unit->Ak->Prop}(I:Inv X af Z H s)(f:X.N.Nodup)(hi:X.N[i]? = aa x)(B:Loc X.env.scope x)(r:RelV v u)(h:∀j,Inv X af (Z.set i (aa v)) H j->Q () j)(hf:Fy X x:=by first|exact .inl rfl|exact .inr rfl|assumption):Bo M A (storeName X.env x u) Q E s:=
 B6 I f hi B r (λj c _=>h j c) hf
theorem Inv.call'(I:Inv X af Z H s)(f:j.os=s.os)(u:Un (iB X.stack) ch H H' s.heap j.heap)(hok:cR X.prog X.w H' j.heap)(hg:Qi j.gens)(a:∀b∈ch,(b∈X.ex\/⇑X.s₀<=b)/\b≠X.env.locals/\(∀x c,X.env.cells.lookup x=aa c->c≠b)/\∀p∈X.pn++af,p.1≠b):Inv X af Z H' j:=by
 let#[h',g',d',t',o']:=j;let e:o'=s.os:=f;subst e;show I.call (g':=g') (t':=t') (d':=d') u hok hg a
end
abbrev XK:=Ae->Option Am->Hp->Prop
abbrev St:=↑(Option V)
abbrev VK:=V->Hp->Prop
abbrev TE:=St->Hp->VK->Prop
abbrev TT:=St->Hp->(Bool->Hp->Prop)->Prop
abbrev TA:=St->Hp->(↑V->Hp->Prop)->Prop
structure kU where
 nx:St->Hp->Prop
 rt:VK
 bk:St->Hp->Prop:=λ_ _=>False
 ct:St->Hp->Prop:=λ_ _=>False
abbrev TS:=kU->St->Hp->Prop
def EP(X:Cx)(af:Pn)(Z:St)(Q:VK)(u:Ae)(j:Ak):Prop:=∃v l,Inv X af Z l j/\RelV v u/\Q v l
def TP(X:Cx)(af:Pn)(Z:St)(Q:Bool->Hp->Prop)(b:Bool)(j:Ak):Prop:=∃l,Inv X af Z l j/\Q b l
def AP(X:Cx)(af:Pn)(Z:St)(Q:↑V->Hp->Prop)(us:↑Ae)(j:Ak):Prop:=∃vs l,Inv X af Z l j/\aY vs us/\Q vs l
def SP(X:Cx)(af:Pn)(D:kU)(f:Flow)(j:Ak):Prop:=
 match f with
 | .next=>∃C l,Inv X af C l j/\D.nx C l
 | .brk=>∃C l,Inv X af C l j/\D.bk C l
 | .cont=>∃C l,Inv X af C l j/\D.ct C l
 | .ret u=>∃v C l,Inv X af C l j/\RelV v u/\D.rt v l
def PE(X:Cx)(e:Cm)(t:TE):Prop:=
 ∀(af:Pn) (s:Ak) (Z:St) (H:Hp) (Q:VK),Inv X af Z H s->t Z H Q->X.a (El e X.env) (EP X af Z Q) X.xe s
def PT(X:Cx)(e:Cm)(t:TT):Prop:=
 ∀(af:Pn) (s:Ak) (Z:St) (H:Hp) (Q:Bool->Hp->Prop),Inv X af Z H s->t Z H Q->X.a (Vo e X.env (El e X.env)) (TP X af Z Q) X.xe s
def PW(X:Cx)(e:Cm)(t:TT):Prop:=
 ∀(whole:Uc Ae) (af:Pn) (s:Ak) (Z:St) (H:Hp) (Q:Bool->Hp->Prop),Inv X af Z H s->t Z H Q->X.a (Vo e X.env whole) (TP X af Z Q) X.xe s
def PW.pt(h:PW X e t):PT X e t:=h _
def PA(X:Cx)(es:↑Cm)(t:TA):Prop:=
 ∀(pos:Ih) (af:Pn) (s:Ak) (Z:St) (H:Hp) (Q:↑V->Hp->Prop),Inv X af Z H s->t Z H Q->X.a (spliced (Nx pos (Cg es X.env))) (AP X af Z Q) X.xe s
def PS(X:Cx)(st:Kx)(t:TS):Prop:=
 ∀(af:Pn) (s:Ak) (Z:St) (H:Hp) (D:kU),Inv X af Z H s->t D Z H->X.a (exec st X.env) (SP X af D) X.xe s
def fN(X:Cx)(st:↑Kx)(t:TS):Prop:=
 ∀(af:Pn) (s:Ak) (Z:St) (H:Hp) (D:kU),Inv X af Z H s->t D Z H->X.a (execs st X.env) (SP X af D) X.xe s
def aV{q:Type}{t:Uc q}{Q Y:q->Ak->Prop}{M:Model}{A:Cw}{E:Ae->Ak->Prop}{s:Ak}(h:Bo M A t Q E s)(X:∀a s,Q a s->Y a s):Bo M A t Y E s:=Jl h X λ_ _ x=>x
section
variable {X:Cx}
def NN(i:Nat):TE:=λZ H Q=>∃v,Z[i]? = aa (aa v)/\Q v H
def tC(v:V):TE:=λ_ H Q=>Q v H
def B8{i:Nat}(f:X.N[i]? = aa x)(g:sW X.env.scope x)(hd:Db x:=by decide)(B:(x==("__classdict__" : Av))=ac:=by decide):PE X (.Name x pos) (NN i):=by
 intro af s Z H Q I h;let#[v,e,h]:=h;let#[m,D,hl]:=I.loc;let#[u,r,l]:=hl i x v f e g;let fin:EP X af Z Q u s:=#[v,H,I,r,h];rcases l with⟨hk,P⟩|⟨hk,c,hc,a⟩
 .show Wi (wpAny_loadName_local I.ok.kind hk D P fin) hd
 .rcases hk with hk|hk
  .show Wi (wpAny_loadName_cell I.ok.kind hk hc a fin) hd
  .show Wi (wpAny_loadName_free I.ok.kind hk hc a fin B) hd
def NO{i j pos}:PE X (.Constant (.int i) j pos) (tC (.int i)):=λ_ _ _ H _ I h=>wpAny_Constant_int #[.int i,H,I.tok _,#[_,rfl],h]
def NQ{b j pos}:PE X (.Constant (.bool b) j pos) (tC (.bl b)):=λ_ _ _ H _ I h=>Constant_bool #[.bl b,H,I,rfl,h]
def NR{j pos}:PE X (.Constant .none j pos) (tC .non):=λ_ _ _ H _ I h=>Constant_none #[.non,H,I,rfl,h]
def NS{x j pos}:PE X (.Constant (.str x) j pos) (tC (.str x)):=λ_ _ _ H _ I h=>Calls.Constant_str #[.str x,H,I.tok _,#[_,rfl],h]
def Gl(X:Cx)(x:Av):Prop:=X.env.kindOf x=aa .globalImplicit
def sX{E:Ae->Ak->Prop}{Q:Ae->Ak->Prop}(I:Inv X af Z H s)(hg:Gl X x)(N:X.mg x=aa u)(h:Q u s)(hd:Db x:=by decide):X.a (El (.Name x pos) X.env) Q E s:=
 Calls.Name_function_global I.ok.kind hg (Calls.loadGlobal_global (by rw[I.ok.glob];show I.mod.glob.keeps I.bk) N h) hd
def fP{E:Ae->Ak->Prop}{Q:Ae->Ak->Prop}(I:Inv X af Z H s)(hg:Gl X x)(N:X.mg x=ae)(c:Cz x=aa u)(h:Q u s)(P:x≠"__name__":=by decide)(hd:Db x:=by decide):X.a (El (.Name x pos) X.env) Q E s:=by
 let#[M,L,Y]:=I.mod.blt;show Calls.Name_function_global I.ok.kind hg (Calls.loadGlobal_builtin (by rw[I.ok.glob];show I.mod.glob.keeps I.bk) N (by rw[I.ok.blt];show L.keeps I.bk) ((Y x P).trans c) h) hd
def NT(hg:Gl X x)(N:X.mg x=aa u)(r:RelV v u)(hd:Db x:=by decide):PE X (.Name x pos) (tC v):=
 λ_ _ _ H _ I h=>sX I hg N #[v,H,I,r,h] hd
def NU(hg:Gl X x)(N:X.mg x=ae)(c:Cz x=aa u)(r:RelV v u)(P:x≠"__name__":=by decide)(hd:Db x:=by decide):PE X (.Name x pos) (tC v):=
 λ_ _ _ H _ I h=>fP I hg N c #[v,H,I,r,h] P hd
variable {a b:Cm}{ta tb:TE}{pos:Ih}
variable {tA tB':TT}{rest:↑Cm}
def NV(t u:TT):TT:=λZ H Q=>t Z H λc B=>if c=ab then u Z B Q else Q ac B
def NW(t u:TT):TT:=λZ H Q=>t Z H λc B=>if c=ab then Q ab B else u Z B Q
def NY(t:TT):TT:=λZ H Q=>t Z H λc B=>Q (!c) B
def NZ(T:PT X a tA):PW X (.BoolOp .And [a] pos) tA:=by
 intro d af s Z H Q I h;apply isTrue_and (aV (T af s Z H Q I h) λc U e=>?_);cases c with
 | true=>show isTrue_and_nil e
 | false=>show e
def N0(T:PT X a tA):PW X (.BoolOp .Or [a] pos) tA:=by
 intro d af s Z H Q I h;apply isTrue_or (aV (T af s Z H Q I h) λc U e=>?_);cases c with
 | false=>show isTrue_or_nil e
 | true=>show e
def N1(T:PT X a tA)(Y:PW X (.BoolOp .And (b::rest) pos) tB'):PW X (.BoolOp .And (a::b::rest) pos) (NV tA tB'):=by
 intro d af s Z H Q I h;apply isTrue_and (aV (T af s Z H _ I h) λc U #[B,M,W]=>?_);cases c with
 | true=>show Y d af U Z B Q M W
 | false=>show#[B,M,W]
def N2(T:PT X a tA)(Y:PW X (.BoolOp .Or (b::rest) pos) tB'):PW X (.BoolOp .Or (a::b::rest) pos) (NW tA tB'):=by
 intro d af s Z H Q I h;apply isTrue_or (aV (T af s Z H _ I h) λc U #[B,M,W]=>?_);cases c with
 | true=>show#[B,M,W]
 | false=>show Y d af U Z B Q M W
def N3(T:PT X a tA):PT X (.UnaryOp .Not a pos) (NY tA):=by
 intro af s Z H Q I h;show isTrue_not (T af s Z H (λc B=>Q (!c) B) I h)
def N4(ta tb:TE):TE:=λZ H Q=>ta Z H λx B=>∃c,x=.bl c/\if c=ab then tb Z B Q else Q (.bl ac) B
def N5(ta tb:TE):TE:=λZ H Q=>ta Z H λx B=>∃c,x=.bl c/\if c=ab then Q (.bl ab) B else tb Z B Q
def N6{op}(h:PE X a t):PE X (.BoolOp op [a] pos) t:=λaf s Z H Q I hw=>BoolOp_one (h af s Z H Q I hw)
def N7(T:PE X a ta)(Y:PE X (.BoolOp .And (b::rest) pos) tb):PE X (.BoolOp .And (a::b::rest) pos) (N4 ta tb):=by
 intro af s Z H Q I h;apply BoolOp_and (aV (T af s Z H _ I h) λv U E=>?_);let#[x,B,M,l,W]:=E;let#[c,rfl,W]:=W;cases l;apply Ia ?_;cases c with
 | true=>show Y af U Z B Q M W
 | false=>show#[.bl ac,B,M,rfl,W]
def N8(T:PE X a ta)(Y:PE X (.BoolOp .Or (b::rest) pos) tb):PE X (.BoolOp .Or (a::b::rest) pos) (N5 ta tb):=by
 intro af s Z H Q I h;apply BoolOp_or (aV (T af s Z H _ I h) λv U E=>?_);let#[x,B,M,l,W]:=E;let#[c,rfl,W]:=W;cases l;apply Ia ?_;cases c with
 | false=>show Y af U Z B Q M W
 | true=>show#[.bl ab,B,M,rfl,W]
def N9(t:TT)(ta tb:TE):TE:=λZ H Q=>t Z H λc B=>if c=ab then ta Z B Q else tb Z B Q
def OA{c:Cm}(hc:PT X c tA)(T:PE X a ta)(Y:PE X b tb):PE X (.IfExp c a b pos) (N9 tA ta tb):=by
 intro af s Z H Q I h;apply wpAny_IfExp (aV (hc af s Z H _ I h) λd U #[B,M,W]=>?_);cases d with
 | true=>show T af U Z B Q M W
 | false=>show Y af U Z B Q M W
end
def bL(K:Ac)(H:Hp)(a:Am)(xs:↑V):Prop:=
 Rd H a (.lst xs)\/
  ∃(o:Nl) (its:Array Ae) (n:Nat),K.lookup a=aa o/\o.cls=.type "list"/\o.dict=ae/\o.data=.seq its n/\its.size<=Ap/\aY xs its.toList
def bJ(K:Ac)(H:Hp)(a:Am)(xs:↑V):Prop:=
 Rd H a (.tup xs)\/
  ∃(o:Nl) (its:Array Ae) (n:Nat),K.lookup a=aa o/\o.cls=.type "tuple"/\o.data=.seq its n/\its.size<=Ap/\aY xs its.toList
noncomputable def OB:Ae->Option V
 | .none=>aa .non
 | .bool b=>aa (.bl b)
 | .int i _=>aa (.int i)
 | .str x _=>aa (.str x)
 | .bytes b _=>aa (.byt b)
 | .float b _=>aa (.flt b)
 | .ref a=>aa (.ref a)
 | .type n=>aa (.ty n)
 | _=>ae
def RelV.abs(r:RelV x u):OB u=aa x:=by
 cases x with
 | non=>cases r;rfl
 | bl _=>cases r;rfl
 | int _=>let#[t,rfl]:=r;rfl
 | str _=>let#[t,rfl]:=r;rfl
 | byt _=>let#[t,rfl]:=r;rfl
 | flt _=>let#[t,rfl]:=r;rfl
 | ref _=>cases r;rfl
 | ty _=>cases r;rfl
def RelV.inj(r:RelV x u)(q:RelV y u):x=y:=Cj (r.abs.symm.trans q.abs)
def aY.inj:∀{xs ys:↑V} {us:↑Ae},aY xs us->aY ys us->xs=ys:=by
 intro xs ys us h k
 induction h generalizing ys with
 | nil=>cases k;rfl
 | cons r t E=>
  cases k with
  | cons g t'=>rw[r.inj g,E t']
section
variable {X:Cx}{af:Pn}{Z:St}{H:Hp}{s:Ak}{a:Am}{xs ys:↑V}
def bL.of{K:Ac}(h:H a=aa (.lst xs)):bL K H a xs:=.inl (.inl h)
def bJ.of{K:Ac}(h:H a=aa (.tup xs)):bJ K H a xs:=.inl (.inl h)
def Inv.list(I:Inv X af Z H s)(h:bL X.K H a xs):∃its:↑Ae,aY xs its/\PlainL s.heap a its.toArray/\↥xs<=Ap:=by
 rcases h with h|⟨o,its,n,hk,hc,hd,F,hz,r⟩
 .let#[z,its,n,r,e]:=h.ok I.hok;show#[its,r,#[_,n,e,rfl,rfl,rfl],z]
 .apply#[its.toList,r,#[o,n,I.kIn a o hk,hc,hd,by simpa using F],?_];let e:=↥r;simp only[Fj]at e;lia
def Inv.tuple(I:Inv X af Z H s)(h:bJ X.K H a xs):∃its:↑Ae,aY xs its/\IsTup s.heap a its.toArray/\↥xs<=Ap:=by
 rcases h with h|⟨o,its,n,hk,hc,F,hz,r⟩
 .let#[z,its,r,p]:=h.ok I.hok;show#[its,r,p,z]
 .apply#[its.toList,r,#[o,I.kIn a o hk,hc,n,by simpa using F],?_];let e:=↥r;simp only[Fj]at e;lia
def Inv.list_inj(I:Inv X af Z H s)(h:bL X.K H a xs)(h':bL X.K H a ys):xs=ys:=by
 obtain⟨its,r,⟨o,n,e,_,_,d⟩,_⟩:=I.list h;obtain⟨its',g,⟨R,M,U,_,_,d'⟩,_⟩:=I.list h';rw[e]at U;cases U;rw[d]at d';injection d' with d1 _;have:its=its':=by simpa using congrArg Array.toList d1
 subst this;show r.inj g
def Inv.tuple_inj(I:Inv X af Z H s)(h:bJ X.K H a xs)(h':bJ X.K H a ys):xs=ys:=by
 obtain⟨its,r,⟨o,e,_,n,d⟩,_⟩:=I.tuple h;obtain⟨its',g,⟨R,U,_,M,d'⟩,_⟩:=I.tuple h';rw[e]at U;cases U;rw[d]at d';injection d' with d1 _;have:its=its':=by simpa using congrArg Array.toList d1
 subst this;show r.inj g
end
noncomputable abbrev Cx.wish(X:Cx)(E:Ae->Ak->Prop):Cx:={X with xe:=E}
noncomputable abbrev Cx.nox(X:Cx):Cx:=X.wish λ_ _=>False
def Cx.Ok.wish{X:Cx}(ok:X.Ok)(E:Ae->Ak->Prop):(X.wish E).Ok:=
 #[ok.mod,ok.kind,ok.glob,ok.blt,ok.above,ok.inj,ok.has,ok.cab,ok.hd,ok.frames,ok.stk,ok.exf,ok.bs,ok.bsz,ok.noex,ok.exfs,ok.funs,ok.frf]
def Cx.Ok.unwish{X:Cx}{E:Ae->Ak->Prop}(ok:(X.wish E).Ok):X.Ok:=
 #[ok.mod,ok.kind,ok.glob,ok.blt,ok.above,ok.inj,ok.has,ok.cab,ok.hd,ok.frames,ok.stk,ok.exf,ok.bs,ok.bsz,ok.noex,ok.exfs,ok.funs,ok.frf]
section
variable {X:Cx}{af:Pn}{Z:St}{H:Hp}{s:Ak}{E:Ae->Ak->Prop}
def Inv.wish(I:Inv X af Z H s)(E:Ae->Ak->Prop):Inv (X.wish E) af Z H s:=#[I.ok.wish E,I.os,I.bare,I.base,I.loc,I.cell,I.free,I.freeC,I.pin,I.hok,I.len]
def Inv.unwish(I:Inv (X.wish E) af Z H s):Inv X af Z H s:=#[I.ok.unwish,I.os,I.bare,I.base,I.loc,I.cell,I.free,I.freeC,I.pin,I.hok,I.len]
def SP.unwish(h:SP (X.wish E) af D f s'):SP X af D f s':=by
 cases f with
 | next=>let#[σ',H',I,q]:=h;show#[σ',H',I.unwish,q]
 | brk=>let#[σ',H',I,q]:=h;show#[σ',H',I.unwish,q]
 | cont=>let#[σ',H',I,q]:=h;show#[σ',H',I.unwish,q]
 | ret u=>let#[v,σ',H',I,r,q]:=h;show#[v,σ',H',I.unwish,r,q]
def fN.nox{st:↑Kx}{t:TS}(h:fN X.nox st t):fN X st t:=λaf s Z H D I hw=>
 Jl (h af s Z H D (I.wish _) hw) (λ_ _ q=>q.unwish) λ_ _ z=>Bs z
end
section
variable {X:Cx}{st:Kx}{rest:↑Kx}{t u:TS}{e:Cm}{te:TE}{pos:Ih}
def OC:TS:=λD Z H=>D.nx Z H
def OD(t u:TS):TS:=λD Z H=>t {D with nx:=u D} Z H
def OE:fN X [] OC:=λ_ _ Z H _ I h=>Qk #[Z,H,I,h]
def OF(h1:PS X st t)(h2:fN X rest u):fN X (st::rest) (OD t u):=by
 intro af s Z H D I h;apply wpAny_execs_cons (aV (h1 af s Z H {D with nx:=u D} I h) λf s1 q=>?_);cases f with
 | next=>
  let#[σ',H',I',q]:=q;show h2 af s1 σ' H' D I' q
 | ret v=>show q
 | brk=>show q
 | cont=>show q
def OG(h1:PS X st t):fN X [st] t:=by
 intro af s Z H D I h;apply wpAny_execs_cons (aV (h1 af s Z H D I h) λf s1 q=>?_);cases f with
 | next=>show Qk q
 | ret v=>show q
 | brk=>show q
 | cont=>show q
def Inv.quiet(I:Inv X af Z H s):interactive X.env=ac:=by simp[interactive,I.ok.kind]
def OH(te:TE):TS:=λD Z H=>te Z H λ_ B=>D.nx Z B
def OI(m:PE X e te)(F:Oh e ae pos.line X.env=pure ac:=by rfl):PS X (.Expr e pos) (OH te):=by
 intro af s Z H D I h;show wpAny_Expr_any (aV (m af s Z H _ I h) λv U #[x,B,M,l,W]=>#[Z,B,M,W]) I.quiet F
def OJ(te:TE):TS:=λD Z H=>te Z H D.rt
def OL(m:PE X e te):PS X (.Return (aa e) pos) (OJ te):=by
 intro af s Z H D I h;show wpAny_Return_some (aV (m af s Z H _ I h) λv U #[x,B,M,l,W]=>#[x,Z,B,M,l,W])
def OM:TS:=λD _ H=>D.rt .non H
def ON:PS X (.Return ae pos) OM:=λ_ _ Z H _ I h=>wpAny_Return_none #[.non,Z,H,I,rfl,h]
def OO(c:TT)(t u:TS):TS:=λD Z H=>c Z H λb B=>if b=ab then t D Z B else u D Z B
def OP{c:Cm}{a b:↑Kx}{tc:TT}(hc:PT X c tc)(T:fN X a t)(Y:fN X b u):PS X (.If c a b pos) (OO tc t u):=by
 intro af s Z H D I h;apply wpAny_If (aV (hc af s Z H _ I h) λd U #[B,M,W]=>?_);cases d with
 | true=>show T af U Z B D M W
 | false=>show Y af U Z B D M W
def OQ:TS:=λ_ _ _=>False
def OR:PS X st OQ:=λ_ _ _ _ _ _ h=>h.elim
end
abbrev TG:=V->St->Hp->(St->Hp->Prop)->Prop
abbrev jL:=↑V->St->Hp->(St->Hp->Prop)->Prop
def PG(X:Cx)(b:Cm)(t:TG):Prop:=
 ∀(af:Pn) (s:Ak) (Z:St) (H:Hp) (v:V) (u:Ae) (Q:St->Hp->Prop),Inv X af Z H s->RelV v u->t v Z H Q->
  X.a (Ph b X.env u) (λ_ j=>∃C l,Inv X af C l j/\Q C l) X.xe s
def iJ(X:Cx)(ts:↑Cm)(t:jL):Prop:=
 ∀(af:Pn) (s:Ak) (Z:St) (H:Hp) (vs:↑V) (us:↑Ae) (Q:St->Hp->Prop),Inv X af Z H s->aY vs us->t vs Z H Q->
  X.a (assignInOrder ((Ja ts X.env).map (·.2)) us) (λ_ j=>∃C l,Inv X af C l j/\Q C l) X.xe s
abbrev sY:=V->V->V->Hp->(Hp->Prop)->Prop
def sZ(X:Cx)(t:sY):Prop:=
 ∀(af:Pn) (s:Ak) (Z:St) (H:Hp) (o i v:V) (p g u:Ae) (Q:Hp->Prop),Inv X af Z H s->RelV o p->RelV i g->RelV v u->t o i v H Q->
  X.a (Wr p g u) (λ_ j=>∃l,Inv X af Z l j/\Q l) X.xe s
section
variable {X:Cx}{pos:Ih}
def wV(i:Nat):TG:=λv Z H Q=>Q (Z.set i (aa v)) H
def OS{i:Nat}(f:X.N.Nodup)(hi:X.N[i]? = aa x)(B:Loc X.env.scope x)(hf:Fy X x:=by first|exact .inl rfl|exact .inr rfl|assumption):PG X (.Name x pos) (wV i):=by
 intro af s Z H v u Q I r h;show wpAny_assign_Name (B7 I f hi B r (λj c=>#[_,H,c,h]) hf)
def OT:jL:=λvs Z H Q=>vs=[]/\Q Z H
def OU(t:TG)(u:jL):jL:=λvs Z H Q=>∃v r,vs=v::r/\t v Z H λC l=>u r C l Q
def OV:iJ X [] OT:=by
 intro af s Z H vs us Q I r h;let#[e,h]:=h;subst e;cases r;show assignInOrder_nil #[Z,H,I,h]
def OW{e:Cm}{es:↑Cm}{t:TG}{u:jL}(L:PG X e t)(Y:iJ X es u)(F:(Ja (e::es) X.env).map (·.2)=Ph e X.env::(Ja es X.env).map (·.2):=by rfl):iJ X (e::es) (OU t u):=by
 intro af s Z H vs us Q I r h;let#[v,a,J,h]:=h;subst J;cases r with
 | cons r k=>
  rw[F];apply assignInOrder_cons (aV (L af s Z H _ _ _ I r h) λ_ U #[x,B,M,W]=>?_);show Y af U x B _ _ Q M k W
def OX(K:Ac)(n:Nat)(t:jL):TG:=λv Z H Q=>∃a xs,v=.ref a/\bJ K H a xs/\↥xs=n/\t xs Z H Q
def OY{k:Nat}{n:Nat}(hc:X.calm=ab)(h:iJ X es t)(P:↥(Ja es X.env)=n:=by rfl)(V:(Ja es X.env).findIdx? (·.1)=ae:=by rfl):PG X (.Tuple es k pos) (OX X.K n t):=by
 intro af s Z H v u Q I r hw;let#[a,xs,J,hq,hl,hw]:=hw;subst J;cases r;let#[its,R,ht,hz]:=I.tuple hq;apply assign_Tuple_tuple (I.ok.hd hc) ht (by simp[P,<-hl,↥R]) V λh' B=>?_;let M:Inv X af Z H {s with heap:=h'}:=I.kept (t':=s.toks) λb o e=>B b o (Bl (Ba e)) e;show h af _ Z H xs _ Q M (by simpa using R) hw
def OZ(to a:TE)(t:sY):TG:=λv Z H Q=>to Z H λo B=>a Z B λi L=>t o i v L λR=>Q Z R
def O0{o i:Cm}{to a:TE}{t:sY}(f:PE X o to)(hi:PE X i a)(F:sZ X t)(T:∀v,Ph (.Subscript o i pos) X.env v=(do
   let p <-Kq [v] (El o X.env)
   let g <-Kq [v,p] (El i X.env)
   Ri pos
   Kq [v,p,g] (Wr p g v)
   release [v,p,g] []):=by intro _;rfl):PG X (.Subscript o i pos) (OZ to a t):=by
 intro af s Z H v u Q I r h;rw[T];apply Aa (Dg (aV (f af s Z H _ I h) λp U E=>?_));let#[x,B,M,l,W]:=E;apply Aa (Dg (aV (hi af U Z B _ M W) λg d Y=>?_));let#[y,L,J,m,n]:=Y;apply Aa (Sa (Aa (Dg (aV (F af d Z L x y v p g u _ J l m r n) λ_ K C=>?_))));let#[R,w,V]:=C;show wpAny_release #[Z,R,w,V]
def tB(te:TE)(g:TG):TS:=λD Z H=>te Z H λx B=>g x Z B D.nx
def O3{tg e:Cm}{te:TE}{g:TG}(m:PE X e te)(hg:PG X tg g)(F:swapsWithSole [tg] e pos.line X.env=pure ac:=by rfl)(hw:swappedStores [tg] e X.env=pure ae:=by rfl)(L:(Ja [tg] X.env).map (·.2)=[Ph tg X.env]:=by rfl):PS X (.Assign [tg] e pos) (tB te g):=by
 intro af s Z H D I h;apply wpAny_Assign_stores (aV (m af s Z H _ I h) λv U E=>?_) F hw;let#[x,B,M,l,W]:=E;rw[L];show aV (hg af U Z B x v _ M l W) λ_ d q=>q
def O4{i:Nat}{x:Av}{e:Cm}{te:TE}{a:Ih}(f:X.N.Nodup)(hi:X.N[i]? = aa x)(B:Loc X.env.scope x)(m:PE X e te)(F:Oh e (aa (.Name x a)) pos.line X.env=pure ac:=by rfl)(hf:Fy X x:=by first|exact .inl rfl|exact .inr rfl|assumption):
  PS X (.Assign [.Name x a] e pos) (tB te (wV i)):=by
 intro af s Z H D I h;apply wpAny_Assign_Name (aV (m af s Z H _ I h) λv U E=>?_) F;let#[y,P,M,l,W]:=E;show B7 M f hi B l (λd J=>#[_,P,J,W]) hf
end
section
variable {X:Cx}{pos:Ih}
def O5(c:TT)(tb:TS):TS:=λD Z H=>∃W:Nat->St->Hp->Prop,(∃m,W m Z H)/\∀m Z H,W m Z H->
 c Z H λb B=>if b=ab then ∃N:St->Hp->Prop,(∀C l,N C l->∃q,q<m/\W q C l)/\tb {D with nx:=N,ct:=N,bk:=D.nx} Z B else D.nx Z B
def O6{c:Cm}{body:↑Kx}{tc:TT}{tb:TS}(hp:Vh X.m X.A X.env X.xe)(hc:PT X c tc)(hb:fN X body tb):PS X (.While c body [] pos) (O5 tc tb):=by
 intro af s Z H D I h;obtain⟨W,⟨m0,w0⟩,turn⟩:=h;apply wpAny_While (codeAny_whileLoop (λn s'=>∃σ' H',Inv X af σ' H' s'/\W n σ' H') ?_ m0 #[Z,H,I,w0]);rintro n s1 ⟨σ1,H1,I1,w1⟩;apply Kg hp (aV (hc af s1 σ1 H1 _ I1 (turn n σ1 H1 w1)) λb s2 z0=>?_);let#[H2,I2,q2]:=z0;cases b with
 | true=>
  let#[N,hN,q2]:=q2;rw[Xb rfl];apply Kg hp (aV (hb af s2 σ1 H2 _ I2 q2) λf s3 q3=>?_);cases f with
  | next=>
   let#[σ3,H3,I3,n3]:=q3;let#[m',hm,w3]:=hN σ3 H3 n3;show#[m',hm,σ3,H3,I3,w3]
  | cont=>
   let#[σ3,H3,I3,n3]:=q3;let#[m',hm,w3]:=hN σ3 H3 n3;show#[m',hm,σ3,H3,I3,w3]
  | brk=>show q3
  | ret v=>show q3
 | false=>
  rw[Xa Bc];show Qk #[σ1,H2,I2,q2]
end
structure It where
 go:Nat->Hp->Prop
 yld:Nat->Hp->V->Hp->Prop
 stop:Nat->Hp->Prop
def gR(X:Cx)(af:Pn)(H:Hp)(b:Am):Prop:=
 H b=ae/\b≠X.env.locals/\b∉X.fs/\(b∈X.ex\/⇑X.s₀<=b)/\(∀x c,X.env.cells.lookup x=aa c->c≠b)/\∀p∈X.pn++af,p.1≠b
def Inv.fpOk(I:Inv X af Z H s)(Y:⇑s<=b)(P:l b=ae):gR X af l b:=by
 apply#[P,Co (Ci I.lt Y),I.nofs Y,.inr (Ar I.sz Y),λx c e z=>?_,λp S z=>?_]
 .let#[v,q]:=I.cell x c e;show absurd (Ci q.lt (by rw[z];show Y)) (Ln _)
 .show absurd (Ci (Ba (I.pin p S).1) (by rw[z];show Y)) (Ln _)
structure iK(P:Be)(w:Bv)(K:Ac)(tg:Cm)(J:It)(fp:↑Am)(it:Am)(tn:Nat->Dz->Prop):Prop where
 mem:it∈fp
 obj:∀i h,tn i h->∀b∈fp,∃o,h.get? b=aa o/\∀v,o.data≠.cell v
 keep:∀i h h',tn i h->(∀b∈fp,∀o,h.get? b=aa o->h'.get? b=aa o)->tn i h'
 item:∀(X:Cx),X.prog=P->X.w=w->X.K=K->X.calm=ab->∀(i:Nat) (af:Pn) (s:Ak) (Z:St) (H:Hp) (E:Ae->Ak->Prop),Inv X af Z H s->(∀b∈fp,gR X af H b)->tn i s.heap->J.go i H->
  Bo (Cy P w) X.A (Ij (.ref it)) (λr s1=>∃u,r=aa u/\
   Bo (Cy P w) X.A (Qn tg (.ref it) u) (λ_ s2=>∃x H',Inv X af Z H' s2/\RelV x u/\J.yld i H x H'/\tn (i+1) s2.heap/\∀b∈fp,H' b=ae) E s1) E s
 done:∀(X:Cx),X.prog=P->X.w=w->X.K=K->X.calm=ab->∀(i:Nat) (af:Pn) (s:Ak) (Z:St) (H:Hp) (E:Ae->Ak->Prop),Inv X af Z H s->(∀b∈fp,gR X af H b)->tn i s.heap->J.stop i H->
  Bo (Cy P w) X.A (Ij (.ref it)) (λr s1=>r=ae/\Inv X af Z H s1) E s
 self:∀(A:Cw) (i:Nat) (s:Ak) (Q:Ae->Ak->Prop) (E:Ae->Ak->Prop),tn i s.heap->Q (.ref it) s->Bo (Cy P w) A (Sn (.ref it)) Q E s
abbrev TI:=St->Hp->(It->Hp->Prop)->Prop
def tD(X:Cx)(af:Pn)(Z:St)(tg:Cm)(R:It->Hp->Prop)(U:Ae)(d:Ak):Prop:=
 ∃(it:Am) (fp:↑Am) (M:Nat->Dz->Prop) (J:It) (l:Hp),U=.ref it/\Inv X af Z l d/\iK X.prog X.w X.K tg J fp it M/\M 0 d.heap/\(∀b∈fp,gR X af l b)/\R J l
def PI(X:Cx)(tg b:Cm)(d:TI):Prop:=
 ∀(af:Pn) (s:Ak) (Z:St) (H:Hp) (R:It->Hp->Prop),Inv X af Z H s->d Z H R->
  X.a (El b X.env) (λv U=>X.a (Sn v) (tD X af Z tg R) X.xe U) X.xe s
def oQ{E:Ae->Ak->Prop}{Q:Unit->Ak->Prop}(f:s.heap.get? it=aa o)(hc:o.cls=.type n)(hd:o.data=.fields vs)(P : ["enumerate","zip","dict_itemiterator","dict_reverseitemiterator","odict_iterator","itertools.zip_longest","itertools.pairwise"].contains n=ac)(X:Q () s):Bo M A (Qn tg (.ref it) u) Q E s:=by
 unfold Qn;cases tg<;>first
  | exact Ah X
  | (cases u<;>first
    | exact Ah X
    | (refine Aa (wpAny_load f ?_)
       rw[hc,hd];change Bo M A (if (["enumerate","zip","dict_itemiterator","dict_reverseitemiterator","odict_iterator","itertools.zip_longest","itertools.pairwise"].contains n&&vs[0]?==aa (Hy _))=ab then _ else _) Q E s;rw[Xa (by intro h;rw[P,Qe]at h;cases h)];exact Ah X))
noncomputable def oR(K:Ac)(a:Am):It:=
 #[λi H=>∃xs x,bL K H a xs/\xs[i]? = aa x,λi H x l=>l=H/\∀xs,bL K H a xs->xs[i]? = aa x,λi H=>∃xs,bL K H a xs/\↥xs<=i]
noncomputable def wW(K:Ac)(a:Am):It:=
 #[λi H=>∃xs x,bJ K H a xs/\xs[i]? = aa x,λi H x l=>l=H/\∀xs,bJ K H a xs->xs[i]? = aa x,λi H=>∃xs,bJ K H a xs/\↥xs<=i]
noncomputable def qL(lo:Int)(n:Nat):It:=#[λi _=>i<n,λi H x l=>l=H/\x=.int (lo+i),λi _=>n<=i]
theorem O7{P:Be}{w:Bv}{K:Ac}{tg:Cm}(a it:Am):iK P w K tg (oR K a) [it] it (λi h=>h.IsListIter it a i) where
 mem:=by simp
 obj:=λi h st b Y=>by
  let e:b=it:=by simpa using Y
  subst e;let#[o,e,c,d]:=st;show#[o,e,λv z=>by rw[d]at z;cases z]
 keep:=λi h h' st k=>st.at λo e=>k it (by simp) o e
 item:=by
  intro X m hw W hc i af s Z H E I hf st hg;subst m hw W;let#[xs,x,hq,B]:=hg;let#[its,R,p,hz]:=I.list hq;let#[u,C,ru]:=R.get B;let#[f0,T,t,g,j,y]:=hf it (by simp);apply wpAny_pyNext_list_item st p.isList (x:=u) (by simpa using C) λh' l sb=>?_;let M:Inv X af Z H {s with heap:=h'}:=I.turned (t':=s.toks) (λb o Y e=>(sb.2 b Y).trans e) f0 T g j y;let#[o,e,c,d]:=id l;show#[u,rfl,oQ (s:={s with heap:=h'}) e c d ∅ #[x,H,M,ru,#[rfl,λys O=>by rw[I.list_inj O hq];show B],l,λb Y=>(hf b Y).1]]
 done:=by
  intro X m hw W hc i af s Z H E I hf st hg;subst m hw W;let#[xs,hq,B]:=hg;let#[its,R,p,hz]:=I.list hq;let#[f0,T,t,g,j,y]:=hf it (by simp);let hl:=↥R;show wpAny_pyNext_list_end (I.ok.hd hc) st p.isList (by simp;lia) λh' D=>#[rfl,I.turned (t':=s.toks) (λb o Y e=>D b o Y e) f0 T g j y]
 self:=λ_ _ _ _ _ st h=>wpAny_pyIter_listiter st h
theorem O8{P:Be}{w:Bv}{K:Ac}{tg:Cm}(a it:Am):iK P w K tg (wW K a) [it] it (λi h=>h.IsTupleIter it a i) where
 mem:=by simp
 obj:=λi h st b Y=>by
  let e:b=it:=by simpa using Y
  subst e;let#[o,e,c,d]:=st;show#[o,e,λv z=>by rw[d]at z;cases z]
 keep:=λi h h' st k=>st.at λo e=>k it (by simp) o e
 item:=by
  intro X m hw W hc i af s Z H E I hf st hg;subst m hw W;let#[xs,x,hq,B]:=hg;let#[its,R,p,hz]:=I.tuple hq;let#[u,C,ru]:=R.get B;let#[f0,T,t,g,j,y]:=hf it (by simp);apply wpAny_pyNext_tuple_item st (show s.heap.IsTuple a its.toArray from p) (x:=u) (by simpa using C) λh' l sb=>?_;let M:Inv X af Z H {s with heap:=h'}:=I.turned (t':=s.toks) (λb o Y e=>(sb.2 b Y).trans e) f0 T g j y;let#[o,e,c,d]:=id l;show#[u,rfl,oQ (s:={s with heap:=h'}) e c d ∅ #[x,H,M,ru,#[rfl,λys O=>by rw[I.tuple_inj O hq];show B],l,λb Y=>(hf b Y).1]]
 done:=by
  intro X m hw W hc i af s Z H E I hf st hg;subst m hw W;let#[xs,hq,B]:=hg;let#[its,R,p,hz]:=I.tuple hq;let#[f0,T,t,g,j,y]:=hf it (by simp);let hl:=↥R;show wpAny_pyNext_tuple_end (I.ok.hd hc) st (show s.heap.IsTuple a its.toArray from p) (by simp;lia) λh' D=>#[rfl,I.turned (t':=s.toks) (λb o Y e=>D b o Y e) f0 T g j y]
 self:=λ_ _ _ _ _ st h=>wpAny_pyIter_tupleiter st h
theorem O9{P:Be}{w:Bv}{K:Ac}{tg:Cm}(it:Am)(lo:Int)(n:Nat):iK P w K tg (qL lo n) [it] it (λi h=>IsRangeIter h it (lo+(i:Nat)*1) ((n:Int)-(i:Nat)) 1) where
 mem:=by simp
 obj:=λi h st b Y=>by
  let e:b=it:=by simpa using Y
  subst e;show#[_,st,λv z=>by
   let Q:Data.fields _=Data.cell v:=z;cases Q]
 keep:=λi h h' st k=>k it (by simp) _ st
 item:=by
  intro X m hw V hc i af s Z H E I hf st hg;subst m hw V;let#[f0,T,U,g,j,y]:=hf it (by simp);let W:=Walks.range (prog:=X.prog) (w:=X.w) (I.ok.hd hc) it lo 1 n;apply W.item i s _ _ hg st λv h' tk c l F=>?_;let#[t,rfl]:=c;let M:Inv X af Z H {s with heap:=h',toks:=tk}:=I.turned (λb o Y e=>F b o (by simpa using Y) e) f0 T g j y;apply#[_,rfl,oQ (s:={s with heap:=h',toks:=tk}) (n:="range_iterator") l rfl rfl ∅ #[.int (lo+i),H,M,#[t,?_],#[rfl,rfl],l,λb Y=>(hf b Y).1]];rw[Int.mul_one]
 done:=by
  intro X m hw V hc i af s Z H E I hf st hg;subst m hw V;let#[f0,T,U,g,j,y]:=hf it (by simp);show wpAny_pyNext_range_end (I.ok.hd hc) st (by have:n<=i:=hg;lia) λh' D=>#[rfl,I.turned (t':=s.toks) (λb o Y e=>D b o Y e) f0 T g j y]
 self:=λ_ _ _ _ _ st h=>wpAny_pyIter_rangeiter st h
section
variable {X:Cx}{tg:Cm}
def B9{R:It->Hp->Prop}{E:Ae->Ak->Prop}{lo hi:Int}{tk:Nat}(I:Inv X af Z H s)(L : -(2 ^ 62)<=lo)(W:lo<2 ^ 62)(F : -(2 ^ 62)<=hi)(T:hi<2 ^ 62)(q:R (qL lo (hi-lo).toNat) H):X.a (Sn (.ref ⇑s)) (tD X af Z tg R) E {s with heap:=s.heap.push {cls:=.type "range",data:=.fields [.int lo t,.int hi u,.int 1 v].toArray},toks:=tk}:=by
 apply wpAny_pyIter_range (Uh ..) (small_one L W F T) ?_;let M:Inv X af Z H {s with heap:=s.heap.push {cls:=.type "range",data:=.fields [.int lo t,.int hi u,.int 1 v].toArray},toks:=tk}:=I.kept λb o e=>Af _ e;apply#[(s.heap.push {cls:=.type "range",data:=.fields [.int lo t,.int hi u,.int 1 v].toArray}).objs.size,[(s.heap.push {cls:=.type "range",data:=.fields [.int lo t,.int hi u,.int 1 v].toArray}).objs.size],_,_,H,rfl,
  M.kept (t':=tk) λb o e=>Af _ e,O9 _ lo (hi-lo).toNat,?_,λb Y=>?_,q]
 .let J:lo+((0:Nat):Int)*1=lo:=by simp
  let D:(((hi-lo).toNat:Nat):Int)-((0:Nat):Int)=Iv lo hi 1:=by rw[Uz];split<;>lia
  change IsRangeIter _ _ (lo+((0:Nat):Int)*1) ((((hi-lo).toNat:Nat):Int)-((0:Nat):Int)) 1;rw[J,D];show Aw _ rfl
 .let e:b=(s.heap.push {cls:=.type "range",data:=.fields [.int lo t,.int hi u,.int 1 v].toArray}).objs.size:=by simpa using Y
  subst e;show M.fpOk (Aj _) (M.hok.fresh (Aj _))
def PB(ta:TA):TI:=λZ H R=>ta Z H λvs B=>∃j:Int,vs=[.int j]/\-(2 ^ 62)<=j/\j<2 ^ 62/\R (qL 0 j.toNat) B
def PC(ta:TA):TI:=λZ H R=>ta Z H λvs B=>∃i j:Int,vs=[.int i,.int j]/\(-(2 ^ 62)<=i/\i<2 ^ 62/\-(2 ^ 62)<=j/\j<2 ^ 62)/\R (qL i (j-i).toNat) B
def PD{a:Cm}{ta:TA}{p pos:Ih}(hg:Gl X "range")(N:X.mg "range" = ae)(T:PA X [a] ta)(F:Cg [a] X.env=[(ac,El a X.env)]:=by rfl):PI X tg (.Call (.Name "range" p) [a] [] pos) (PB ta):=by
 intro af s Z H R I h;apply Wu (fP I hg N boot_range (Bx (aV (T pos af s Z H _ I h) λus U E=>?_) F rfl));let#[vs,B,M,l,W]:=E;let#[j,e,W,n,q]:=W;subst e;cases l with
 | cons r k=>
  cases k;let#[t,rfl]:=r;show Vq (B9 M (by lia) (by lia) W n (by simpa using q))
def PF{a b:Cm}{ta:TA}{p pos:Ih}(hg:Gl X "range")(N:X.mg "range" = ae)(T:PA X [a,b] ta)(F:Cg [a,b] X.env=[(ac,El a X.env),(ac,El b X.env)]:=by rfl)(f:Cg [b] X.env=[(ac,El b X.env)]:=by rfl):
  PI X tg (.Call (.Name "range" p) [a,b] [] pos) (PC ta):=by
 intro af s Z H R I h;apply Wu (fP I hg N boot_range (Bx (aV (T pos af s Z H _ I h) λus U E=>?_) (by rw[F,f]) (by rw[f];rfl)));let#[vs,B,M,l,W]:=E;obtain⟨i,j,e,⟨W,n,Y,d⟩,q⟩:=W;subst e;cases l with
 | cons r k=>
  cases k with
  | cons g k=>
   cases k;let#[t,rfl]:=r;let#[t',rfl]:=g;show call_range_2 (B9 M W n Y d q)
def PH(d:TI)(g:TG)(tb:TS):TS:=λD Z H=>d Z H λJ B=>∃W:Nat->Nat->St->Hp->Prop,(∃m,W 0 m Z B)/\∀i m Z H,W i m Z H->
 (J.stop i H/\D.nx Z H)\/(J.go i H/\∃N:St->Hp->Prop,(∀C l,N C l->∃q,q<m/\W (i+1) q C l)/\∀x l,J.yld i H x l->g x Z l λa L=>tb {D with nx:=N,ct:=N,bk:=D.nx} a L)
noncomputable def qM(fp:↑Am)(h:Dz):Pn:=fp.filterMap λb=>(h.get? b).map λo=>(b,o)
def tE(Y:b∈fp)(e:h.get? b=aa o):(b,o)∈qM fp h:=Nw.mpr #[b,Y,by rw[e];rfl]
def PJ(S:p∈qM fp h):p.1∈fp/\h.get? p.1=aa p.2:=by
 let#[b,Y,e]:=Nw.mp S;cases q:h.get? b with
 | none=>rw[q]at e;cases e
 | some o=>
  rw[q]at e;let U:(b,o)=p:=Cj e;subst U;show#[Y,q]
def Inv.pinned(I:Inv X af Z H s)(hf:∀b∈fp,gR X af H b)(f:∀b∈fp,∃o,s.heap.get? b=aa o/\∀v,o.data≠.cell v):Inv X (af++qM fp s.heap) Z H s:=
 I.pins_of λp S=>(Bb.mp S).elim (λz=>I.pin p (Bm _ z)) λz=>by
  let#[Y,e]:=PJ z;let#[f0,T,t,_]:=hf p.1 Y;let#[o,U,d]:=f p.1 Y;rw[e]at U;cases U;show#[e,f0,T,t,d]
def Inv.unpinned(I:Inv X (af++pl) Z H s):Inv X af Z H s:=I.pins_of λp S=>I.pin p (Bm _ (Bf _ S))
def PK{iter:Cm}{Q:↑Kx}{wi:TI}{g:TG}{tb:TS}{pos:Ih}(S:Vh X.m X.A X.env X.xe)(hc:X.calm=ab)(hi:PI X tg iter wi)(hg:PG X tg g)(Y:fN X Q tb)(F:∀x,Kr iter X.env x=pure x:=by intro _;rfl):PS X (.For tg iter Q [] pos) (PH wi g tb):=by
 intro af s Z H D I h;apply wpAny_For (aV (hi af s Z H _ I h) λv U L=>aV L λitv R A=>?_) F;obtain⟨it,fp,tn,J,w,e,V,T,st2,c,W,⟨m0,w0⟩,turn⟩:=A;subst e;let stat:∀{l:Hp},(∀b∈fp,l b=ae)->∀b∈fp,gR X af l b:=λK b Y=>#[K b Y,(c b Y).2]
 apply codeAny_forLoop_any (λn j=>∃i C l,Inv X af C l j/\tn i j.heap/\(∀b∈fp,l b=ae)/\W i n C l) ?_ m0 #[0,Z,w,V,st2,λb Y=>(c b Y).1,w0];rintro n t ⟨i,B,a,k,st3,fr3,w3⟩;rcases turn i n B a w3 with⟨stop,qn⟩|⟨go,N,z,step⟩
 .apply Kg S (aV (T.done X rfl rfl rfl hc i af t B a X.xe k (stat fr3) st3 stop) λr s4 E=>?_);let#[G,I4]:=E;subst G;show Qk #[B,a,I4,qn]
 .apply Kg S (aV (T.item X rfl rfl rfl hc i af t B a X.xe k (stat fr3) st3 go) λr s4 p=>?_);let#[u,G,O]:=p;subst G;apply Kg S (aV O λ_ s5 M=>?_);let#[x,H5,I5,r5,y5,st5,fr5]:=M;let I5':=I5.pinned (stat fr5) (T.obj _ _ st5);apply Kg S (aV (hg _ s5 B H5 x u _ I5' r5 (step x H5 y5)) λ_ s6 z3=>?_);let#[σ6,H6,I6,q6]:=z3;apply Kg S (aV (Y _ s6 σ6 H6 _ I6 q6) λf s7 q7=>?_);let y:∀{σ7:St} {H7:Hp},Inv X (af++qM fp s5.heap) σ7 H7 s7->N σ7 H7->∃m,m<n/\∃i C l,Inv X af C l s7/\tn i s7.heap/\(∀b∈fp,l b=ae)/\W i m C l:=λ{σ7 H7} I7 n7=>by
   let#[q,P,w7]:=z σ7 H7 n7;apply#[q,P,i+1,σ7,H7,I7.unpinned,T.keep _ _ _ st5 λb Y o e=>(I7.pin (b,o) (Bm _ (Bm _ (tE Y e)))).1,λb Y=>?_,w7];let#[o,e,d]:=T.obj _ _ st5 b Y;show(I7.pin (b,o) (Bm _ (Bm _ (tE Y e)))).2.1
  cases f with
  | next=>let#[σ7,H7,I7,n7]:=q7;show y I7 n7
  | cont=>let#[σ7,H7,I7,n7]:=q7;show y I7 n7
  | brk=>let#[σ7,H7,I7,q7]:=q7;show#[σ7,H7,I7.unpinned,q7]
  | ret v=>let#[x7,σ7,H7,I7,r7,q7]:=q7;show#[x7,σ7,H7,I7.unpinned,r7,q7]
end
abbrev R2:=V->V->Hp->VK->Prop
def bF(X:Cx)(f:Ae->Ae->Uc Ae)(r:R2):Prop:=
 ∀(af:Pn) (s:Ak) (Z:St) (H:Hp) (x y:V) (v u:Ae) (Q:VK),Inv X af Z H s->RelV x v->RelV y u->r x y H Q->
  X.a (f v u) (EP X af Z Q) X.xe s
def qN(X:Cx)(f:Ae->Uc Ae)(r:V->Hp->VK->Prop):Prop:=
 ∀(af:Pn) (s:Ak) (Z:St) (H:Hp) (x:V) (v:Ae) (Q:VK),Inv X af Z H s->RelV x v->r x H Q->
  X.a (f v) (EP X af Z Q) X.xe s
def cN(X:Cx)(f:Ae)(r:↑V->Hp->VK->Prop):Prop:=
 ∀(af:Pn) (s:Ak) (Z:St) (H:Hp) (xs:↑V) (us:↑Ae) (Q:VK),Inv X af Z H s->aY xs us->r xs H Q->
  X.a (call f us) (EP X af Z Q) X.xe s
def PL(X:Cx)(r:V->Hp->(Bool->Hp->Prop)->Prop):Prop:=
 ∀(af:Pn) (s:Ak) (Z:St) (H:Hp) (x:V) (v:Ae) (Q:Bool->Hp->Prop),Inv X af Z H s->RelV x v->r x H Q->
  X.a (truthy v) (TP X af Z Q) X.xe s
def qO(r:R2)(ta tb:TE):TE:=λZ H Q=>ta Z H λx B=>tb Z B λy L=>r x y L Q
def PM(r:V->Hp->VK->Prop)(ta:TE):TE:=λZ H Q=>ta Z H λx B=>r x B Q
def rI(C:Int->Int->Prop)(g:Int->Int->V):R2:=λx y H Q=>∃i j,x=.int i/\y=.int j/\C i j/\Q (g i j) H
def l8(g:Int->Int->V):R2:=λx y H Q=>∃i j,x=.int i/\y=.int j/\Q (g i j) H
def rU(g:Int->V):V->Hp->VK->Prop:=λx H Q=>∃i,x=.int i/\Q (g i) H
section
variable {X:Cx}{a b c:Cm}{ta tb tc:TE}{pos:Ih}
def wX(T:PE X a ta)(Y:PE X b tb){af:Pn}{s:Ak}{Z:St}{H:Hp}{R:V->V->Hp->Prop}(I:Inv X af Z H s)(h:ta Z H λx B=>tb Z B λy L=>R x y L){Q:Ae->Ak->Prop}{f:Ae->Ae->Uc Ae}(hf:∀v u d x y L,Inv X af Z L d->RelV x v->RelV y u->R x y L->X.a (f v u) Q X.xe d):
  X.a (El a X.env) (λv p=>X.a (El b X.env) (λu E=>X.a (f v u) Q X.xe E) X.xe p) X.xe s:=by
 apply aV (T af s Z H _ I h) λv U #[x,B,M,l,W]=>?_;apply aV (Y af U Z B _ M W) λu d #[y,L,i,m,n]=>?_;show hf v u d x y L i l m n
def PQ(f:bF X (Fq op) r)(T:PE X a ta)(Y:PE X b tb):PE X (.BinOp a op b pos) (qO r ta tb):=by
 intro af s Z H Q I h;show wpAny_BinOp (wX T Y I h λv u d x y L i S N q=>f af d Z L x y v u Q i S N q)
def PR{op:UnaryOp}{r:V->Hp->VK->Prop}(f:qN X (Wq op) r)(T:PE X a ta):PE X (.UnaryOp op a pos) (PM r ta):=by
 intro af s Z H Q I h;show UnaryOp_ (aV (T af s Z H _ I h) λv U #[x,B,M,l,W]=>f af U Z B x v Q M l W)
def qP{f:Ae->Ae->Uc Ae}{C:Int->Int->Prop}{g:Int->Int->Int}(b:∀(i j:Int) (t u:Vu) (s:Ak) (Q:Ae->Ak->Prop) (E:Ae->Ak->Prop),C i j->Q (.int (g i j) s.toks) {s with toks:=s.toks+1}->X.a (f (.int i t) (.int j u)) Q E s):
  bF X f (rI C λi j=>.int (g i j)):=by
 intro af s Z H x y v u Q I S N h;let#[i,j,rfl,rfl,hc,q]:=h;let#[t,rfl]:=S;let#[t',rfl]:=N;show b i j t t' s _ _ hc #[.int (g i j),H,I.tok _,#[_,rfl],q]
def CA{f:Ae->Ae->Uc Ae}{g:Int->Int->Int}(b:∀(i j:Int) (t u:Vu) (s:Ak) (Q:Ae->Ak->Prop) (E:Ae->Ak->Prop),Q (.int (g i j) s.toks) {s with toks:=s.toks+1}->X.a (f (.int i t) (.int j u)) Q E s):
  bF X f (l8 λi j=>.int (g i j)):=by
 intro af s Z H x y v u Q I S N h;let#[i,j,rfl,rfl,q]:=h;let#[t,rfl]:=S;let#[t',rfl]:=N;show b i j t t' s _ _ #[.int (g i j),H,I.tok _,#[_,rfl],q]
def wY{f:Ae->Ae->Uc Ae}{g:Int->Int->Bool}(b:∀(i j:Int) (t u:Vu) (s:Ak) (Q:Ae->Ak->Prop) (E:Ae->Ak->Prop),Q (.bool (g i j)) s->X.a (f (.int i t) (.int j u)) Q E s):
  bF X f (l8 λi j=>.bl (g i j)):=by
 intro af s Z H x y v u Q I S N h;let#[i,j,rfl,rfl,q]:=h;let#[t,rfl]:=S;let#[t',rfl]:=N;show b i j t t' s _ _ #[.bl (g i j),H,I,rfl,q]
def wZ(i j:Int):Prop:=0<=j/\j<=1000000/\i.natAbs<2 ^ 64
def oS(i j:Int):Prop:=(-(2 ^ 64)<i/\i<2 ^ 64)\/(-(2 ^ 64)<j/\j<2 ^ 64)
def oS.ok{i j:Int}(h:oS i j):IntMulOk i j:=by
 rcases h with⟨L,Z⟩|⟨L,Z⟩
 .show .of_left (intBits_le_64 L Z)
 .show .of_right (intBits_le_64 L Z)
def PU:bF X (Fq .Add) (l8 λi j=>.int (i+j)):=CA λ_ _ _ _ _ _ _ q=>add_int q
def PV:bF X (Fq .Sub) (l8 λi j=>.int (i-j)):=CA λ_ _ _ _ _ _ _ q=>sub_int q
def PX:bF X (Fq .Mult) (rI oS λi j=>.int (i*j)):=qP λ_ _ _ _ _ _ _ hc q=>mul_int q hc.ok
def PY:bF X (Fq .Mod) (rI (λ_ j=>0<j) λi j=>.int (i % j)):=qP λi j _ _ _ _ _ hc q=>by
 let L:(0:Int)<j:=hc;show mod_int' (by lia) (by rw[Int.fmod_eq_emod_of_nonneg i (by lia)];show q)
def PZ:bF X (Fq .Pow) (rI wZ λi j=>.int (i ^ j.toNat)):=qP λ_ _ _ _ _ _ _ hc q=>pow_int_small hc.1 hc.2.1 hc.2.2 q
def P0{f:Ae->Uc Ae}{g:Int->Int}(b:∀(i:Int) (t:Vu) (s:Ak) (Q:Ae->Ak->Prop) (E:Ae->Ak->Prop),Q (.int (g i) s.toks) {s with toks:=s.toks+1}->X.a (f (.int i t)) Q E s):
  qN X f (rU λi=>.int (g i)):=by
 intro af s Z H x v Q I S h;let#[i,rfl,q]:=h;let#[t,rfl]:=S;show b i t s _ _ #[.int (g i),H,I.tok _,#[_,rfl],q]
def P1:qN X (Wq .USub) (rU λi=>.int (-i)):=P0 λ_ _ _ _ _ q=>neg_int q
end
noncomputable def tF:V->V->Bool
 | .non,.non=>ab|.non,.int _=>ab|.int _,.non=>ab|.non,.bl _=>ab|.bl _,.non=>ab|.non,.str _=>ab|.str _,.non=>ab
 | .int _,.int _=>ab|.bl _,.bl _=>ab|.str _,.str _=>ab|.byt _,.byt _=>ab
 | .int _,.str _=>ab|.str _,.int _=>ab|.bl _,.str _=>ab|.str _,.bl _=>ab
 | _,_=>ac
def P2:R2:=λx y H Q=>tF x y=ab/\Q (.bl (decide (x=y))) H
def P4:R2:=λx y H Q=>tF x y=ab/\Q (.bl (!decide (x=y))) H
def CB{i j:Int}:decide (V.int i=V.int j)=(i==j):=by
 rw[Fd];simp
def CC{i j:Bool}:decide (V.bl i=V.bl j)=(i==j):=by
 rw[Fd];simp
def CD:decide (V.str i=V.str j)=(i==j):=by
 rw[Fd];simp
def CF:decide (V.byt i=V.byt j)=(i.toList==j.toList):=by
 rw[Fd];cases i;cases j;simp
section
variable {X:Cx}{a b c:Cm}{ta tb tc:TE}{pos:Ih}
def c8{k u:Bool}(I:Inv X af Z H s)(q:Q (.bl k) H)(e:k=u):EP X af Z Q (.bool u) s:=by
 subst e;show#[.bl k,H,I,rfl,q]
def P6:bF X (Dr .Eq) P2:=by
 intro af s Z H x y v u Q I rx ry h;let#[hs,q]:=h;cases x with
 | non=>
  cases rx;cases y with
  | non=>cases ry;show PySem.EqNone.eq_none_none (c8 I q (by simp))
  | bl j=>cases ry;show PySem.EqNone.eq_none_bool (c8 I q (by simp))
  | int j=>let#[t',rfl]:=ry;show PySem.EqNone.eq_none_int (c8 I q (by simp))
  | str j=>let#[t',rfl]:=ry;show PySem.EqNone.eq_none_str (c8 I q (by simp))
  | _=>show absurd (show ac=ab from hs) Bc
 | bl i=>
  cases rx;cases y with
  | non=>cases ry;show PySem.EqNone.eq_bool_none (c8 I q (by simp))
  | bl j=>cases ry;show eq_bool (c8 I q CC)
  | str j=>let#[t',rfl]:=ry;show PySem.EqMixed.eq_bool_str (c8 I q (by simp))
  | _=>show absurd (show ac=ab from hs) Bc
 | int i=>
  let#[t,rfl]:=rx;cases y with
  | non=>cases ry;show PySem.EqNone.eq_int_none (c8 I q (by simp))
  | int j=>let#[t',rfl]:=ry;show eq_int (c8 I q CB)
  | str j=>let#[t',rfl]:=ry;show PySem.EqMixed.eq_int_str (c8 I q (by simp))
  | _=>show absurd (show ac=ab from hs) Bc
 | str i=>
  let#[t,rfl]:=rx;cases y with
  | non=>cases ry;show PySem.EqNone.eq_str_none (c8 I q (by simp))
  | bl j=>cases ry;show PySem.EqMixed.eq_str_bool (c8 I q (by simp))
  | int j=>let#[t',rfl]:=ry;show PySem.EqMixed.eq_str_int (c8 I q (by simp))
  | str j=>let#[t',rfl]:=ry;show eq_str (c8 I q CD)
  | _=>show absurd (show ac=ab from hs) Bc
 | byt i=>
  let#[t,rfl]:=rx;cases y with
  | byt j=>let#[t',rfl]:=ry;show PySem.W.eq_bytes (c8 I q CF)
  | _=>show absurd (show ac=ab from hs) Bc
 | _=>cases y<;>exact absurd (show ac=ab from hs) Bc
def P7:bF X (Dr .NotEq) P4:=by
 intro af s Z H x y v u Q I rx ry h;let#[hs,q]:=h;cases x with
 | non=>
  cases rx;cases y with
  | non=>cases ry;show PySem.EqNone.ne_none_none (c8 I q (by simp))
  | bl j=>cases ry;show PySem.EqNone.ne_none_bool (c8 I q (by simp))
  | int j=>let#[t',rfl]:=ry;show PySem.EqNone.ne_none_int (c8 I q (by simp))
  | str j=>let#[t',rfl]:=ry;show PySem.EqNone.ne_none_str (c8 I q (by simp))
  | _=>show absurd (show ac=ab from hs) Bc
 | bl i=>
  cases rx;cases y with
  | non=>cases ry;show PySem.EqNone.ne_bool_none (c8 I q (by simp))
  | bl j=>cases ry;show ne_bool (c8 I q (congrArg not CC))
  | str j=>let#[t',rfl]:=ry;show PySem.EqMixed.ne_bool_str (c8 I q (by simp))
  | _=>show absurd (show ac=ab from hs) Bc
 | int i=>
  let#[t,rfl]:=rx;cases y with
  | non=>cases ry;show PySem.EqNone.ne_int_none (c8 I q (by simp))
  | int j=>let#[t',rfl]:=ry;show ne_int (c8 I q (congrArg not CB))
  | str j=>let#[t',rfl]:=ry;show PySem.EqMixed.ne_int_str (c8 I q (by simp))
  | _=>show absurd (show ac=ab from hs) Bc
 | str i=>
  let#[t,rfl]:=rx;cases y with
  | non=>cases ry;show PySem.EqNone.ne_str_none (c8 I q (by simp))
  | bl j=>cases ry;show PySem.EqMixed.ne_str_bool (c8 I q (by simp))
  | int j=>let#[t',rfl]:=ry;show PySem.EqMixed.ne_str_int (c8 I q (by simp))
  | str j=>let#[t',rfl]:=ry;show ne_str (c8 I q (congrArg not CD))
  | _=>show absurd (show ac=ab from hs) Bc
 | byt i=>
  let#[t,rfl]:=rx;cases y with
  | byt j=>let#[t',rfl]:=ry;show PySem.W.ne_bytes (c8 I q (congrArg not CF))
  | _=>show absurd (show ac=ab from hs) Bc
 | _=>cases y<;>exact absurd (show ac=ab from hs) Bc
def P8:bF X (Dr .Lt) (l8 λi j=>.bl (decide (i<j))):=wY λ_ _ _ _ _ _ _ q=>lt_int q
def P9:bF X (Dr .LtE) (l8 λi j=>.bl (decide (i<=j))):=wY λ_ _ _ _ _ _ _ q=>le_int q
def QA:bF X (Dr .Gt) (l8 λi j=>.bl (decide (j<i))):=wY λ_ _ _ _ _ _ _ q=>gt_int q
def QB:bF X (Dr .In) (λx y H Q=>∃i j,x=.str i/\y=.str j/\Q (.bl (!(Kv j i 0 ↥j 1).isEmpty)) H):=by
 intro af s Z H x y v u Q I S N h;let#[i,j,rfl,rfl,q]:=h;let#[t,rfl]:=S;let#[t',rfl]:=N;show in_str (c8 I q rfl)
def QC:bF X (Dr .IsNot) (λx y H Q=>y=.non/\Q (.bl (!decide (x=.non))) H):=by
 intro af s Z H x y v u Q I S N h;let#[rfl,q]:=h;cases N;apply isnot_none_gen (c8 I q ?_);cases x<;>first
  | (cases S;rfl)
  | (let#[t,rfl]:=S;rfl)
def QD:bF X (Dr .NotIn) (λx y H Q=>∃i j,x=.str i/\y=.str j/\Q (.bl (!(!(Kv j i 0 ↥j 1).isEmpty))) H):=by
 intro af s Z H x y v u Q I S N h;let#[i,j,rfl,rfl,q]:=h;let#[t,rfl]:=S;let#[t',rfl]:=N;show notIn_str (c8 I q rfl)
def bF.or{f:Ae->Ae->Uc Ae}(h:bF X f r)(h':bF X f g):bF X f (λx y H Q=>r x y H Q\/g x y H Q):=by
 intro af s Z H x y v u Q I S N q;rcases q with q|q
 .show h af s Z H x y v u Q I S N q
 .show h' af s Z H x y v u Q I S N q
def CG(b:Cm)(h:op≠.In:=by decide)(Z:op≠.NotIn:=by decide):Nj op b=ac:=by
 let J:(op==CmpOp.In)=ac:=by cases op<;>first|rfl|exact absurd rfl h
 let D:(op==CmpOp.NotIn)=ac:=by cases op<;>first|rfl|exact absurd rfl Z
 cases b<;>simp[Nj,J,D]
def QE(f:bF X (Dr op) r)(T:PE X a ta)(Y:PE X b tb)(N:Nj op b=ac):PE X (.Compare a [op] [b] pos) (qO r ta tb):=by
 intro af s Z H Q I h;show wpAny_Compare1 (wX T Y I h λv u d x y L i S B q=>f af d Z L x y v u Q i S B q) N
def CH(t:TE):TT:=λZ H Q=>t Z H λx l=>∃k,x=.bl k/\Q k l
def QF{op:Wh}{r:R2}(f:bF X (Dr op) r)(T:PE X a ta)(Y:PE X b tb)(N:Nj op b=ac):PT X (.Compare a [op] [b] pos) (CH (qO r ta tb)):=by
 intro af s Z H Q I h;apply wpAny_isTrue_Compare1 (aV (T af s Z H _ I h) λv U #[x,B,M,l,W]=>aV (Y af U Z B _ M W) λu d #[y,L,i,m,n]=>
  aV (f af d Z L x y v u _ i l m n) λc K #[z,R,w,j,k,e,V]=>?_) N
 subst e;cases j;show Ia #[R,w,V]
def CI(r g:R2)(ta tb tc:TE):TE:=λZ H Q=>ta Z H λx B=>tb Z B λy L=>r x y L λz R=>∃k,z=.bl k/\
 (if k=ab then tc Z R λJ f=>g y J f Q else Q (.bl ac) R)
def QG{op p:Wh}{r E:R2}(f:bF X (Dr op) r)(F:bF X (Dr p) E)(T:PE X a ta)(Y:PE X b tb)(hc:PE X c tc)(N:lastMarks [op,p] [b,c]=ac:=by with_unfolding_all rfl):PT X (.Compare a [op,p] [b,c] pos) (CH (CI r E ta tb tc)):=by
 intro af s σ H Q I h;apply isTrue_chain (aV (T af s σ H _ I h) λv U #[x,B,M,l,W]=>test_link (aV (Y af U σ B _ M W) λu g #[y,L,i,m,n]=>
  aV (f af g σ L x y v u _ i l m n) λd K #[z,R,w,j,k,e,Z]=>?_)) N
 subst e;cases j;apply Ia ?_;cases k with
 | false=>
  let#[q,A,V]:=Z;cases A;show ite_ff #[R,w,V]
 | true=>
  apply ite_tt (test_last (aV (hc af K σ R _ w Z) λJ P #[O,H4,S,r4,G]=>aV (F af P σ H4 y O u J _ S m r4 G) λd' o #[C,H5,I5,r5,t,D,q5]=>?_));subst D;cases r5;show Ia #[H5,I5,q5]
def CJ(K:Ac)(x:V)(H:Hp)(k:Bool):Prop:=
 match x with
 | .non=>k=ac
 | .bl b=>k=b
 | .int i=>k=(i !=0)
 | .str y=>↥y<=Ap/\k=((↥y:Int) !=0)
 | .byt y=>y.size<=Ap/\k=((y.size:Int) !=0)
 | .ref p=>(∃xs,bL K H p xs/\k = !xs.isEmpty)\/(∃xs,bJ K H p xs/\k = !xs.isEmpty)\/∃kvs,H p=aa (.dK kvs)/\k = !kvs.isEmpty
 | _=>False
def QH{b:Type}{kvs:↑(b×V)}{vs:↑(b×Ae)}(r:KV kvs vs):(!vs.isEmpty) = !kvs.isEmpty:=by
 cases r<;>rfl
def CK{xs:↑V}{its:↑Ae}(r:aY xs its):(!its.toArray.isEmpty) = !xs.isEmpty:=by
 cases r<;>simp
def iV:(Ap:Nat)<2 ^ 63:=by rw[Le];decide
def QI:PL X (λx H Q=>∃k,CJ X.K x H k/\Q k H):=by
 intro af s Z H x v Q I rx h;let#[k,e,q]:=h;let hl:=iV;let hs:Ap=16777216:=Le;cases x with
 | non=>
  cases rx;let e':k=ac:=e;subst e';show truthy_none #[H,I,q]
 | bl b=>
  cases rx;let e':k=b:=e;subst e';show Ia #[H,I,q]
 | int i=>
  let#[t,rfl]:=rx;let e':k=(i !=0):=e;subst e';show PySem.P.truthy_int #[H,I,q]
 | str y=>
  let#[t,rfl]:=rx;obtain⟨hy,e'⟩:↥y<=Ap/\k=((↥y:Int) !=0):=e;subst e';show PySem.P.truthy_str (by lia) #[H,I.tok _,q]
 | byt y=>
  let#[t,rfl]:=rx;obtain⟨hy,e'⟩:y.size<=Ap/\k=((y.size:Int) !=0):=e;subst e';show PySem.W.truthy_bytes (by lia) #[H,I.tok _,q]
 | ref p=>
  cases rx;let e':(∃xs,bL X.K H p xs/\k = !xs.isEmpty)\/(∃xs,bJ X.K H p xs/\k = !xs.isEmpty)\/∃kvs,H p=aa (.dK kvs)/\k = !kvs.isEmpty:=e;rcases e' with⟨xs,hx,e'⟩|⟨xs,hx,e'⟩|⟨kvs,hx,e'⟩
  .subst e';let#[its,r,pl,hz]:=I.list hx;let hlen:=↥r;show wpAny_truthy_list pl.isList (by simp only[Bg];lia) #[H,I.tok _,by rw[CK r];show q]
  .subst e';let#[its,r,pl,hz]:=I.tuple hx;let hlen:=↥r;show truthy_tuple pl (by simp only[Bg];lia) #[H,I.tok _,by rw[CK r];show q]
  .subst e';obtain⟨hz,hS,vs,r,m⟩:↥kvs<=Ap/\(p==Gi)=ac/\∃vs,KV kvs vs/\s.heap.DictOf (bT X.prog X.w) p vs:=I.hok p _ hx;let hlen:↥kvs=↥vs:=Ea r;show wpAny_truthy_dict hS m (by lia) #[H,I.tok _,by rw[QH r];show q]
 | _=>show Bs e
def QJ(T:PE X a ta)(m:∀whole,Vo a X.env whole=(do let v <-whole;Ri a.pos;Kq [v] (truthy v))):
  PT X a (λZ H Q=>ta Z H λx l=>∃k,CJ X.K x l k/\Q k l):=by
 intro af s Z H Q I h;show isTrue_plain (aV (T af s Z H _ I h) λv U E=>by let#[x,B,M,A,W]:=E;show QI af U Z B x v Q M A W) (m _)
def QK:bF X (Fq .Add) (λx y H Q=>∃i j,x=.str i/\y=.str j/\↥i+↥j<=Ap/\Q (.str (i++j)) H):=by
 intro af s Z H x y v u Q I S N h;let#[i,j,rfl,rfl,hz,q]:=h;let#[t,rfl]:=S;let#[t',rfl]:=N;show add_str (λt' tk=>#[.str (i++j),H,I.tok _,#[_,rfl],q]) hz
def vals1(r:aY [x] us):∃u,us=[u]/\RelV x u:=by
 cases r with
 | cons l m=>cases m;show#[_,rfl,l]
def vals2(r:aY [x,y] us):∃u J,us=[u,J]/\RelV x u/\RelV y J:=by
 cases r with
 | cons l m=>
  cases m with
  | cons a W=>cases W;show#[_,_,rfl,l,a]
def QL:cN X (.type "str") (λxs H Q=>∃i,xs=[.int i]/\i.natAbs.log2<1920/\Q (.str (toString i)) H):=by
 intro af s Z H xs us Q I r h;let#[i,rfl,hz,q]:=h;let#[u,rfl,t,rfl]:=vals1 r;show PySem.P.str_of_int hz #[.str _,H,I.tok _,#[_,rfl],q]
end
structure nR(h:Dz)(x dx C:Am)(mA:Av->Option Ae):Prop where
 obj:h.get? x=aa (Iu C dx)
 ns:h.Ns1 dx mA
 ne:dx≠x
def QM{h:Dz}{dx:Am}{mA:Av->Option Ae}(n:h.Ns1 dx mA):∃g,h.get? dx=aa g/\∀name,Pj name g=aa (mA name):=by
 let#[o,es,ep,f,hd,hk,_,N]:=n;apply#[o,f,λname=>?_];let e:=N name;unfold nsFind findBy at e;rw[<-Array.find?_toList]at e;unfold Pj;rw[hd];dsimp only;split
 .rename_i y q;rw[q]at e;show congrArg aa e
 .rename_i q;rw[q]at e;let a:es.toList.any (·.refKey)=ac:=by
   rw[List.any_eq_false];intro y O;let#[z,t,u]:=hk y (Array.mem_toList_iff.mp O);simp[DictEntry.refKey,u]
  let b:¬es.toList.any (·.refKey)=ab:=by rw[a];show Bc
  rw[Xa b];show congrArg aa e
def nR.look{mA:Av->Option Ae}(I:nR h x dx C mA):∃g,PySem.W.InstAt h x (Iu C dx) C (aa g)/\∀name,Pj name g=aa (mA name):=
 let #[g,ho,hl]:=QM I.ns
 #[g,#[I.obj,rfl,rfl,ho],hl]
section
variable {prog:Be}{w:Bv}{A:Cw}{E:Ae->Ak->Prop}{s:Ak}{K:Ac}{x dx C f:Am}{mA:Av->Option Ae}{name:Av}{v:Ae}
def QN{a:Bool}{Q:Ae->Ak->Prop}(X:K.In s.heap)(I:nR s.heap x dx C mA)(hg:Oe K C name=ab)(hh:Qt K C=ab)(T:Fv K (.ref C) name=aa ae)(c:mA name=aa v)(d:PySem.W.handedIn v=ab)(h:Q v {s with toks:=s.toks+1}):
  Bo (Cy prog w) A (getAttr (.ref x) name a) Q E s:=by
 let#[g,J,hl]:=I.look;show PySem.W.get_value X J (Pu hg).1 (PySem.W.findObj_own hh T rfl (by rw[hl,c])) d h
def QO{Q:Ae×↑Ae->Ak->Prop}(X:K.In s.heap)(I:nR s.heap x dx C mA)(hg:Oe K C name=ab)(hf:Fv K (.ref C) name=aa (aa (.ref f)))(ht:Oq K (.ref f)=ab)(c:mA name=ae)(h:Q (.ref f,[.ref x]) s):
  Bo (Cy prog w) A (Rj (.ref x) name pl) Q E s:=by
 let#[g,J,hl]:=I.look;show PySem.W.method_fn X J (Pu hg).1 (Pu hg).2 hf (beq_iff_eq.mp ht) (by change(Pj name g).map (·.isSome)=aa ac;rw[hl,c];rfl) h
def QP{Q:Unit->Ak->Prop}(X:K.In s.heap)(I:nR s.heap x dx C mA)(F:Fv K (.ref C) "__setattr__" = aa (aa (.builtin "object.__setattr__")))(S:PySem.W.plainOver K C=ab)(ht:Rp K C name=aa ae)(hh:Qt K C=ab)(hw:Ud mA ns)(hsz:↥ns<=Ap)(h:∀h',nR h' x dx C (λy=>if y=name then aa v else mA y)->Fb dx s.heap h'->Q () {s with heap:=h',toks:=s.toks+2}):
  Bo (Cy prog w) A (setAttr (.ref x) name v) Q E s:=by
 let#[g,J,hl]:=I.look;apply PySem.W.set_plain X J F (PySem.W.osa_open (s:={s with toks:=s.toks+1}) (r:=ae) X J S ht λb=>?_);let#[m,hc,n]:=PySem.W.any_some hh;let B:s.heap.get? x=aa #[.ref C,aa dx,.plain,#[]]:=I.obj;apply Aa (Ah (Aa (Aa (wpAny_loadPart B (Aa (PySem.W.Looks.here (s:={s with toks:=s.toks+1}) (PySem.W.looks_clsIn X hc) ?_))))));rw[n];apply Ah (a:=aa dx) (Aa (Ah (Aa ?_)));apply wpAny_nsSet1 (s:={s with toks:=s.toks+1}) I.ns λh' R f=>?_;let#[k,j,i,c,d,e]:=R.count (PySem.Within.cons name v hw);apply Aa (wpAny_lookBehind c (by rw[d];show pastItsLine_dict (Ar e (by rw[Bq];lia))) ?_);show Ah (h _ #[(f.2 _ (Ca I.ne)).trans I.obj,R,I.ne] f)
def QQ{R:Tp->Ak->Prop}(X:K.In s.heap)(N:Rq K C=ab)(hi:Fv K (.ref C) "__init__" = aa (aa (.ref f)))(hf:PySem.W.typeIn K (.ref f)=aa (.type "function"))(h:Mf (Cy prog w) (A.under (.builtin "type.__call__" #[.ref C::vs,b])) (.call (.ref f) #[.ref (⇑s+1)::vs,b]) (PySem.W.InitBack (⇑s+1) R)
   {s with heap:=(s.heap.push Hh).push (Iu C ⇑s)}):
  Mf (Cy prog w) A (.call (.ref C) #[vs,b]) R s:=by
 let#[hh,g,d,t,os]:=s;show PySem.W.make_core (PySem.W.makes_of X N) (PySem.W.looks_findIn X hi) (λself=>PySem.W.bind_fn X self hf) (.inl rfl) h
end
noncomputable def putF(f:Av)(v:V):↑(Av×V)->↑(Av×V)
 | []=>[(f,v)]
 | (g,x)::r=>if g=f then(g,v)::r else(g,x)::putF f v r
theorem CL(f g:Av)(v:V):∀fs:↑(Av×V),(putF f v fs).lookup g=if g=f then aa v else fs.lookup g
 | []=>by
  change Cq g [(f,v)]=_
  by_cases h:g=f
  .let Y:(g==f)=ab:=beq_iff_eq.mpr h;simp only[Cq,Y,Xb h]
  .let Y:(g==f)=ac:=beq_eq_false_iff_ne.mpr h;simp only[Cq,Y,Xa h]
 | (k,x)::r=>by
  let E:=CL f g v r;rw[show putF f v ((k,x)::r)=(if k=f then(k,v)::r else(k,x)::putF f v r) from rfl]
  by_cases hk:k=f
  .rw[Xb hk]
   by_cases h:g=k
   .let Y:(g==k)=ab:=beq_iff_eq.mpr h;simp only[Cq,Y,Xb (h.trans hk)]
   .let Y:(g==k)=ac:=beq_eq_false_iff_ne.mpr h;simp only[Cq,Y,Xa (λe:g=f=>h (e.trans hk.symm))]
  .rw[Xa hk]
   by_cases h:g=k
   .let Y:(g==k)=ab:=beq_iff_eq.mpr h;simp only[Cq,Y,Xa (λe:g=f=>hk (h.symm.trans e))]
   .let Y:(g==k)=ac:=beq_eq_false_iff_ne.mpr h;simp only[Cq,Y];show E
theorem w4(f:Av)(v:V):∀fs:↑(Av×V),f∈(putF f v fs).map (·.1)/\∀g,g∈fs.map (·.1)->g∈(putF f v fs).map (·.1)
 | []=>#[by simp[putF],λg h=>by simp at h]
 | (k,x)::r=>by
  let#[a,d]:=w4 f v r;rw[show putF f v ((k,x)::r)=(if k=f then(k,v)::r else(k,x)::putF f v r) from rfl]
  by_cases hk:k=f
  .rw[Xb hk];subst hk;show#[by simp,λg h=>by simpa using h]
  .rw[Xa hk];apply#[?_,λg h=>?_]
   .rw[Bi];show Bp _ a
   .rw[Bi]at h⊢;rcases Ax.mp h with e|e
    .show Ax.mpr (.inl e)
    .show Bp _ (d g e)
theorem CM(f:Av)(v:V):∀fs:↑(Av×V),↥(putF f v fs)<=↥fs+1
 | []=>by simp[putF]
 | (k,x)::r=>by
  let E:=CM f v r;rw[show putF f v ((k,x)::r)=(if k=f then(k,v)::r else(k,x)::putF f v r) from rfl]
  by_cases hk:k=f
  .rw[Xb hk,Bq,Bq];lia
  .rw[Xa hk,Bq,Bq];lia
def fM.some_of(r:fM (aa v) o):∃u,o=aa u/\RelV v u:=by
 cases o with
 | none=>show Bs r
 | some u=>show#[u,rfl,r]
def fM.none_of(r:fM ae o):o=ae:=by
 cases o with
 | none=>rfl
 | some u=>show Bs r
def QS(r:RelV v u):PySem.W.handedIn u=ab:=by
 cases v with
 | non=>cases (show u=Value.none from r);rfl
 | bl b=>cases (show u=Value.bool b from r);rfl
 | int i=>let#[t,e]:=(show ∃t,u=Value.int i t from r);cases e;rfl
 | str x=>let#[t,e]:=(show ∃t,u=Value.str x t from r);cases e;rfl
 | byt b=>let#[t,e]:=(show ∃t,u=Value.bytes b t from r);cases e;rfl
 | flt b=>let#[t,e]:=(show ∃t,u=Value.float b t from r);cases e;rfl
 | ref a=>cases (show u=Value.ref a from r);rfl
 | ty n=>cases (show u=Value.type n from r);rfl
section
variable {P:Be}{w:Bv}{H H':Hp}{h h':Dz}{a C dx:Am}{fs fs':↑(Av×V)}
def tG(hok:cR P w H h)(e:H a=aa (.ins C dx fs)):∃mA,nR h a dx C mA/\(∀f,fM (fs.lookup f) (mA f))/\Ud mA (fs.map (·.1))/\↥fs<=1000/\H dx=aa (.own a):=by
 let#[d,z,ne,ob,mA,n,r,q]:=(show bZ P w H h a (.ins C dx fs) from hok a _ e);show#[mA,#[ob,n,ne],r,q,z,d]
end
structure gD(K:Ac)(C:Am):Prop where
 pg:Oe K C Wf=ab
 hd:Qt K C=ab
 po:PySem.W.plainOver K C=ab
 sa:Fv K (.ref C) "__setattr__" = aa (aa (.builtin "object.__setattr__"))
def gD.get{K:Ac}{C:Am}(c:gD K C)(f:Av):Oe K C f=ab:=c.pg
def fH(K:Ac)(C:Am)(f:Av):Prop:=Fv K (.ref C) f=aa ae
def fH.taker{K:Ac}{C:Am}{f:Av}(n:fH K C f):Rp K C f=aa ae:=by
 unfold Rp;rw[show Fv K (.ref C) f=aa ae from n];rfl
structure oU(K:Ac)(C:Am)(m:Av)(f:Am):Prop where
 at_:Fv K (.ref C) m=aa (aa (.ref f))
 fn:Oq K (.ref f)=ab
 kp:Hf K (.ref f)=ab
section
variable {X:Cx}{af:Pn}{Z:St}{H:Hp}{s:Ak}{a C dx:Am}{fs:↑(Av×V)}{f:Av}{v:V}{A:Cw}{E:Ae->Ak->Prop}
def QT{b:Bool}{Q:Ae->Ak->Prop}(I:Inv X af Z H s)(e:H a=aa (.ins C dx fs))(c:gD X.K C)(n:fH X.K C f)(l:fs.lookup f=aa v)(h:∀u s',Inv X af Z H s'->RelV v u->Q u s'):Bo X.m A (getAttr (.ref a) f b) Q E s:=by
 let#[mA,O,r,_,_,_]:=tG I.hok e;let#[u,Y,ru]:=fM.some_of (v:=v) (o:=mA f) (by rw[<-l];show r f);show QN I.kIn O (c.get f) c.hd n Y (QS ru) (h u _ (I.tok _) ru)
def CN{Q:Ae×↑Ae->Ak->Prop}(I:Inv X af Z H s)(e:H a=aa (.ins C dx fs))(c:gD X.K C)(k:oU X.K C m g)(l:fs.lookup m=ae)(h:Q (.ref g,[.ref a]) s):Bo X.m A (Rj (.ref a) m pl) Q E s:=by
 let#[mA,O,r,_,_,_]:=tG I.hok e;let P:mA m=ae:=fM.none_of (by rw[<-l];show r m);show QO I.kIn O (c.get m) k.at_ k.fn P h
def QU{Q:Unit->Ak->Prop}(I:Inv X af Z H s)(e:H a=aa (.ins C dx fs))(c:gD X.K C)(n:fH X.K C f)(hl:↥fs<1000)(N:RelV y u)(h:∀s',Inv X af Z (aL H a (.ins C dx (putF f y fs))) s'->Q () s'):Bo X.m A (setAttr (.ref a) f u) Q E s:=by
 let#[mA,O,r,d,_,D]:=tG I.hok e;let hz:↥(fs.map (·.1))<=Ap:=by rw[Ab,Le];lia
 apply QP I.kIn O c.sa c.po n.taker c.hd d hz λh' i sb=>h _ ?_;let hd:∃o,h'.get? dx=aa o:=let #[o,_,_,e',_]:=i.ns;#[o,e'];apply I.write (x:=a) (e:=dx) (by rw[e];show True.intro) (.inr D) (λb q Y z=>(sb.2 b Y).trans z) hd ?_;apply#[by rw[bD O.ne];show D,?_,O.ne,i.obj,_,i.ns,λg=>?_,λg hg=>?_]
 .have:=CM f y fs;lia
 .change fM ((putF f y fs).lookup g) (if g=f then aa u else mA g);rw[CL]
  by_cases q:g=f
  .rw[Xb q,Xb q];show N
  .rw[Xa q,Xa q];show r g
 .by_cases q:g=f
  .rw[q];show(w4 f y fs).1
  .apply(w4 f y fs).2 g (d g λz=>hg ?_);change(if g=f then aa u else mA g)=ae;rw[Xa q];show z
def Inv.made(I:Inv X af Z H s):Inv X af Z (aL (aL H ⇑s (.own (⇑s+1))) (⇑s+1) (.ins C ⇑s []))
  {s with heap:=(s.heap.push Hh).push (Iu C ⇑s)}:=by
 let J:(s.heap.push Hh).get? ⇑s=aa Hh:=Aw s.heap rfl;let D:((s.heap.push Hh).push (Iu C ⇑s)).get? (⇑s+1)=aa (Iu C ⇑s):=by
  have:=Aw (s.heap.push Hh) (o:=Iu C ⇑s) rfl;rwa [Es]at this
 let Y:(s.heap.push Hh).Ns ⇑s (λ_=>ae):=#[Hh,#[],_,J,rfl,(λe m=>absurd m (by simp)),λ_=>rfl];let M:=I.laid (a:=⇑s) (o:=.own (⇑s+1)) (h':=s.heap.push Hh) (t':=s.toks) (λb u q=>Af _ q) (Aj _) #[_,J];apply M.laid (a:=⇑s+1) (o:=.ins C ⇑s []) (t':=s.toks) (λb u q=>Af _ q) (Ry (Es _ _)) ?_;let ne:⇑s≠⇑s+1:=Bl (Fl _);apply#[by rw[bD ne,b7],Cr _,ne,D,λ_=>ae,(Heap.Ns1.of_empty Y).at λo q=>Af _ q,λ_=>True.intro,λy O=>absurd rfl O]
def QV{Q:Ae->Ak->Prop}(Y:Hs e f env (El e env)=El e env)(h:Bo (Cy prog w) A (El e env) (λo y=>Bo (Cy prog w) A (getAttr o f ab) Q E y) E s):Bo (Cy prog w) A (El (.Attribute e f pos) env) Q E s:=
 Attribute_any_ h (by rw[arm_eval_Attribute,Y])
end
def QW(K:Ac)(ta:TE)(f:Av):TE:=λZ H Q=>ta Z H λx B=>∃a C dx fs v,x=.ref a/\B a=aa (.ins C dx fs)/\gD K C/\fH K C f/\fs.lookup f=aa v/\Q v B
def QX(K:Ac)(ta tv:TE)(f:Av):TS:=λD Z H=>tv Z H λy B=>ta Z B λx L=>∃a C dx fs,x=.ref a/\L a=aa (.ins C dx fs)/\gD K C/\fH K C f/\↥fs<1000/\
 D.nx Z (aL L a (.ins C dx (putF f y fs)))
section
variable {X:Cx}{o e value:Cm}{f:Av}{pos pos' tpos:Ih}{ta tv:TE}
def QY(m:PE X e ta)(Y:Hs e f X.env (El e X.env)=El e X.env):PE X (.Attribute e f pos) (QW X.K ta f):=by
 intro af s Z H Q I h;apply QV Y (aV (m af s Z H _ I h) λu U E=>?_);let#[x,B,M,S,a,C,dx,fs,v,ex,j,c,n,l,q]:=E;subst ex;obtain rfl:u=Value.ref a:=S;show QT M j c n l λP d i ru=>#[v,B,i,ru,q]
def QZ(T:PE X o ta)(g:PE X value tv)(F:Oh value (aa (.Attribute o f pos')) pos.line X.env=pure ac):PS X (.Assign [.Attribute o f pos'] value pos) (QX X.K ta tv f):=by
 intro af s Z H D I h;apply plainObj_wpAny_Assign_Attribute (aV (g af s Z H _ I h) λu U #[y,B,M,N,q]=>aV (T af U Z B _ M q) λp d Y=>?_) F;let#[x,L,i,S,a,C,dx,fs,ex,j,c,n,l,G]:=Y;subst ex;obtain rfl:p=Value.ref a:=S;show QU i j c n l N λR w=>#[Z,_,w,G]
end
section
variable {X:Cx}{af:Pn}{Z:St}{H:Hp}{s:Ak}{A:Cw}{E:Ae->Ak->Prop}{Q:Ae->Ak->Prop}{c:Ae}{b:Bool}
inductive iC(K:Ac)(H:Hp):V->Ae->Prop where
 | non:iC K H .non (.type "NoneType")
 | bl (x:Bool):iC K H (.bl x) (.type "bool")
 | int (i:Int):iC K H (.int i) (.type "int")
 | str (x:Av):iC K H (.str x) (.type "str")
 | flt (x:UInt64):iC K H (.flt x) (.type "float")
 | lst {a:Am} {xs:↑V} (e:H a=aa (.lst xs)):iC K H (.ref a) (.type "list")
 | frz {a:Am} {o:Nl} {xs:↑V} (e:H a=aa (.frz o (.lst xs))):iC K H (.ref a) (.type "list")
 | tup {a:Am} {xs:↑V} (e:H a=aa (.tup xs)):iC K H (.ref a) (.type "tuple")
 | dK {a:Am} {kvs:↑(aC×V)} (e:H a=aa (.dK kvs)):iC K H (.ref a) (.type "dict")
 | dT {a:Am} {kvs:↑(↑aC×V)} (e:H a=aa (.dT kvs)):iC K H (.ref a) (.type "dict")
 | ins {a C dx:Am} {fs:↑(Av×V)} (e:H a=aa (.ins C dx fs)) (cl:gD K C) (ha:Fv K (.ref C) "__class__" = aa (aa (.builtin "object.__class__")))
   (hn:PySem.W.specialIn K (.builtin "object.__class__") "__get__" = aa (aa (.builtin "getset_descriptor.__get__"))) (htk:PySem.W.takesIn K (.builtin "object.__class__")=aa ab)
   (hm:PySem.W.mroIn K C (.type "object")=aa ab):iC K H (.ref a) (.ref C)
def Q0(I:Inv X af Z H s)(S:RelV x u)(ty:iC X.K H x t)(e:Lv X.K t c=aa b)(h:∀tk,Q (.bool b) {s with toks:=tk}):
  Bo X.m A (call (.builtin "isinstance") [u,c]) Q E s:=by
 cases ty with
 | non=>cases (show u=Value.none from S);show Gu PySem.W.kitx_none I.kIn True.intro e (λz=>nomatch z) h
 | bl y=>cases (show u=Value.bool y from S);show Gu PySem.W.kitx_bool I.kIn True.intro e (λz=>nomatch z) h
 | int i=>let#[t,q]:=(show ∃t,u=Value.int i t from S);cases q;show Gu PySem.W.kitx_int I.kIn True.intro e (λz=>nomatch z) h
 | str y=>let#[t,q]:=(show ∃t,u=Value.str y t from S);cases q;show Gu PySem.W.kitx_str I.kIn True.intro e (λz=>nomatch z) h
 | flt y=>let#[t,q]:=(show ∃t,u=Value.float y t from S);cases q;show Gu PySem.W.kitx_float I.kIn True.intro e (λz=>nomatch z) h
 | @lst a xs j=>
  cases (show u=Value.ref a from S);let#[_,_,n,_,L]:=(show bZ X.prog X.w H s.heap a (.lst xs) from I.hok a _ j);show Gu PySem.W.kitx_list I.kIn #[_,L,rfl] e (λz=>nomatch z) h
 | @frz a ob xs j=>
  cases (show u=Value.ref a from S);let#[_,_,_,n,_,L]:=(show bZ X.prog X.w H s.heap a (.frz ob (.lst xs)) from I.hok a _ j);show Gu PySem.W.kitx_list I.kIn #[_,L,rfl] e (λz=>nomatch z) h
 | @tup a xs j=>
  cases (show u=Value.ref a from S);let#[_,_,_,p]:=(show bZ X.prog X.w H s.heap a (.tup xs) from I.hok a _ j);let#[o,L,Y,_]:=p;show Gu PySem.W.kitx_tuple I.kIn #[o,L,Y] e (λz=>nomatch z) h
 | @dK a kvs j=>
  cases (show u=Value.ref a from S);let#[_,_,vs,_,p]:=(show bZ X.prog X.w H s.heap a (.dK kvs) from I.hok a _ j);let#[o,es,ep,L,Y,_]:=p;show Gu PySem.W.kitx_dict I.kIn #[o,L,Y.1] e (λz=>nomatch z) h
 | @dT a kvs j=>
  cases (show u=Value.ref a from S);let#[_,_,xs,_,o,es,ep,L,Y,_]:=(show bZ X.prog X.w H s.heap a (.dT kvs) from I.hok a _ j);show Gu PySem.W.kitx_dict I.kIn #[o,L,Y.1] e (λz=>nomatch z) h
 | @ins a C dx fs j cl T P f N=>
  cases (show u=Value.ref a from S);let#[mA,O,_]:=tG I.hok j;let#[g,J,_]:=O.look;show Gu (PySem.W.kitx_own (cl.get _) cl.hd T P f N) I.kIn J e (λz=>nomatch z) h
end
structure cI(k:Nat)(A:Cw):Prop where
 hd:A.handled=ae
 dp:A.depth+3*k+5<recursionLimit
 un:A.units+16*k+200<Fu
def cI.mono{j k:Nat}(r:cI k A)(h:j<=k):cI j A:=#[r.hd,by have:=r.dp;lia,by have:=r.un;lia]
def cI.deeper{k:Nat}(r:cI (k+1) A)(env:Env):cI k (A.deeper env):=
 #[r.hd,by have:=r.dp;change A.depth+1+3*k+5<_;lia,by have:=r.un;change A.units+3+16*k+200<_;lia]
def Q1{A:Cw}{C:Am}{us:↑Ae}{b:↑(Av×Ae)}:(A.under (.builtin "type.__call__" #[.ref C::us,b])).depth=A.depth+1:=by
 first|rfl|simp[Tz,Code.weight,Code.isCreation,Code.isGuard,Code.isCaller,Code.frames,Uk,guardIds]
def Q2{A:Cw}{C:Am}{us:↑Ae}{b:↑(Av×Ae)}:(A.under (.builtin "type.__call__" #[.ref C::us,b])).units=A.units+1:=by
 first|rfl|simp[Tz,Code.cUnits,Code.frames,Uk]
def cI.make{k:Nat}(r:cI (k+1) A)(C:Am)(us:↑Ae)(b:↑(Av×Ae)):cI k (A.under (.builtin "type.__call__" #[.ref C::us,b])):=
 #[r.hd,by have:=r.dp;rw[Q1];lia,by have:=r.un;rw[Q2];lia]
def cI.depth{k:Nat}(r:cI k A):A.depth<recursionLimit:=by have:=r.dp;lia
def cI.units{k:Nat}(r:cI k A):A.units+64<Fu:=by have:=r.un;lia
def w6:TA:=λ_ H Q=>Q [] H
def Q3(ta:TE)(a:TA):TA:=λZ H Q=>ta Z H λx B=>a Z B λxs L=>Q (x::xs) L
section
variable {X:Cx}{e:Cm}{es:↑Cm}{te:TE}{t:TA}{pos:Ih}
def Q4:PA X [] w6:=λ_ _ _ _ H Q I h=>Jz #[[],H,I,.nil,h]
def Q6(T:PE X e te)(G:PA X es t)(F:Se X e es:=by rfl):PA X (e::es) (Q3 te t):=by
 intro pos af s Z H Q I h;rw[F];change Bo _ _ (spliced ((ac,El e X.env)::Nx pos (Cg es X.env))) _ _ s;apply Jp (aV (T af s Z H _ I h) λu U E=>?_);let#[x,B,M,l,W]:=E;show aV (G pos af U Z B _ M W) λus d Y=>by let#[xs,L,i,m,n]:=Y;show#[x::xs,L,i,.cons l m,n]
def Q7(t:TA):TE:=λZ H Q=>t Z H λxs B=>↥xs<=Ap/\∀p,B p=ae->Q (.ref p) (aL B p (.tup xs))
def Q8(t:TA):TE:=λZ H Q=>t Z H λxs B=>↥xs<=Ap/\∀p,B p=ae->Q (.ref p) (aL B p (.lst xs))
def Q9{x1}(h:PA X es t):PE X (.Tuple es x1 pos) (Q7 t):=by
 intro af s Z H Q I hq;apply wpAny_Tuple_spliced (aV (h pos af s Z H _ I hq) λus U #[xs,B,M,r,z,q]=>#[by rw[<-↥r];show z,?_]);let hf:B ⇑U=ae:=M.hok.fresh (Aj _);apply#[.ref ⇑U,aL B ⇑U (.tup xs),M.laid (t':=U.toks) (λb u e=>Af _ e) (Aj _) ?_,rfl,q _ hf];show#[z,us,r,#[_,Aw _ rfl,rfl,_,rfl]]
def CO(h:PA X es t):PE X (.List es pos) (Q8 t):=by
 intro af s Z H Q I hq;apply wpAny_List_spliced (aV (h pos af s Z H _ I hq) λus U #[xs,B,M,r,z,q]=>#[by rw[<-↥r];show z,?_]);let hf:B ⇑U=ae:=M.hok.fresh (Aj _);apply#[.ref ⇑U,aL B ⇑U (.lst xs),M.laid (t':=U.toks) (λb u e=>Af _ e) (Aj _) ?_,rfl,q _ hf];show#[z,us,0,r,Aw _ rfl]
end
abbrev Sp:=↑V->Hp->VK->XK->Prop
abbrev kB:=↑Env->Hp->Ak->XK->Ae->Ak->Prop
structure nS(P:Be)(w:Bv)(K:Ac)(mg:Av->Option Ae)(base:Dz)(A:Cw)(outer:↑Env)(s:Ak)(H:Hp):Prop where
 frames:A.frames=aa outer
 mod:Mod K mg base
 bs:∀b o,base.get? b=aa o->s.heap.get? b=aa o/\H b=ae
 bsz:base.objs.size<=⇑s
 funs:s.heap.FunFrames base outer
 frf:∀b∈iB outer,H b=ae
 hok:cR P w H s.heap
 bare:Qi s.gens
def CE(outer:↑Env)(P:Be)(w:Bv)(H:Hp)(s:Ak)(Q:VK)(u:Ae)(s':Ak):Prop:=
 ∃v H',s'.os=s.os/\Qi s'.gens/\Un (iB outer) [] H H' s.heap s'.heap/\cR P w H' s'.heap/\RelV v u/\Q v H'
def CR(CX:kB)(outer:↑Env)(P:Be)(w:Bv)(H:Hp)(s:Ak)(Q:VK)(E:XK)(r:Tp)(s':Ak):Prop:=
 match r with
 | .ok (.ret u)=>CE outer P w H s Q u s'
 | .ok _=>False
 | .error e=>CX outer H s E e s'
structure iW(P:Be)(w:Bv)(K:Ac)(mg:Av->Option Ae)(base:Dz)(CX:kB)(k:Nat)(f:Am)(fd:Fs)(ps:↑Av)(sp:Sp):Prop where
 len:∀vs H Q E,sp vs H Q E->↥vs=↥ps
 run:∀(A:Cw) (outer:↑Env) (s:Ak) (H:Hp) (args:Args) (us:↑Ae) (vs:↑V) (Q:VK) (E:XK),cI k A->nS P w K mg base A outer s H->Ul s fd args (ps.zip us)->aY vs us->sp vs H Q E->
  Mf (Cy P w) A (.call (.ref f) args) (CR CX outer P w H s Q E) s
abbrev Cx.f(X:Cx):=iW X.prog X.w X.K X.mg X.base
def nS.make{P:Be}{w:Bv}{K:Ac}{mg:Av->Option Ae}{base:Dz}{A:Cw}{outer:↑Env}{s:Ak}{H:Hp}(e:nS P w K mg base A outer s H)(C:Am)(us:↑Ae)(b:↑(Av×Ae)):
  nS P w K mg base (A.under (.builtin "type.__call__" #[.ref C::us,b])) outer s H:=#[by first|exact e.frames|(simpa [Tz,Code.envs,Uk,pushEnvs] using e.frames),e.mod,e.bs,e.bsz,e.funs,e.frf,e.hok,e.bare]
section
variable {X:Cx}{af:Pn}{Z:St}{H:Hp}{s s':Ak}
def Inv.env0(I:Inv X af Z H s):nS X.prog X.w X.K X.mg X.base X.A X.stack s H:=
 #[I.ok.frames,I.ok.mod,I.bs,Ar I.ok.bsz I.sz,I.stack,I.stkFree,I.hok,I.bare]
def Inv.after(I:Inv X af Z H s)(h:CE X.stack X.prog X.w H s Q u s'):EP X af Z Q u s':=by
 let#[v,H',os,bare,un,hok,r,q]:=h;let#[hh,g,d,t,a]:=s';obtain rfl:a=s.os:=os;show#[v,H',I.call (h':=hh) (g':=g) (d':=d) (t':=t) (ch:=[]) un hok bare (λb z=>absurd z (by simp)),r,q]
end
def CP(sp:Sp)(dvs:↑V)(E:XK)(t:TA):TE:=λZ H Q=>t Z H λvs B=>sp (vs++dvs) B Q E
def w9(C:Am)(m:Av)(sp:Sp)(dvs:↑V)(E:XK)(ta:TE)(t:TA):TE:=λZ H Q=>ta Z H λx B=>∃a dx fs,x=.ref a/\B a=aa (.ins C dx fs)/\fs.lookup m=ae/\
 t Z B λvs L=>sp (x::(vs++dvs)) L Q E
def CQ(C:Am)(sp:Sp)(dvs:↑V)(E:XK)(t:TA):TE:=λZ H Q=>t Z H λvs B=>∀x dx,B x=ae->B dx=ae->dx≠x->
 sp (.ref x::(vs++dvs)) (aL (aL B dx (.own x)) x (.ins C dx [])) (λv L=>v=.non/\Q (.ref x) L) E
def Binds(K:Ac)(fd:Fs)(ps:↑Av)(ds:↑Ae):Prop:=
 ∀(s:Ak) (us:↑Ae),K.In s.heap->↥(us++ds)=↥ps->Ul s fd #[us,[]] (ps.zip (us++ds))
def Binds.all{K:Ac}{fd:Fs}{ps:↑Av}(h:∀us:↑Ae,↥us=↥ps->bindArgs fd #[us,[]]=pure (ps.zip us)):Binds K fd ps []:=λs us _ hl=>by
 rw[Bn]at hl⊢;show .of_eq (h us hl)
def l9(CX:kB)(X:Cx)(E:XK):Prop:=∀(af:Pn) (Z:St) (H:Hp) (s:Ak) (e:Ae) (s':Ak),Inv X af Z H s->CX X.stack H s E e s'->X.xe e s'
section
variable {X:Cx}{CX:kB}{k:Nat}{f C:Am}{fd:Fs}{ps:↑Av}{sp:Sp}{dvs:↑V}{ds:↑Ae}{E:XK}{x m:Av}{p pos apos:Ih}{e o:Cm}{es:↑Cm}{ta:TE}{t:TA}
def tH(F:X.f CX k f fd ps sp)(hr:cI k X.A)(hb:Binds X.K fd ps ds)(hd:aY dvs ds)(hx:l9 CX X E)(I:Inv X af Z H s)(r:aY vs us)(h:sp (vs++dvs) H Q E):X.a (call (.ref f) us) (EP X af Z Q) X.xe s:=by
 let r2:aY (vs++dvs) (us++ds):=r.append hd;let hl:↥(us++ds)=↥ps:=by rw[<-↥r2];show F.len _ _ _ _ h
 apply wpAny_call (Qf (F.run X.A X.stack s H #[us,[]] (us++ds) (vs++dvs) Q E hr I.env0 (hb s us I.kIn hl) r2 h) λr s' hq=>?_);cases r with
 | error e=>show hx af Z H s e s' I hq
 | ok fl=>
  cases fl with
  | ret u=>show I.after hq
  | next=>show Bs hq
  | brk=>show Bs hq
  | cont=>show Bs hq
def RA(F:X.f CX k f fd ps sp)(G:cI k X.A)(hg:Gl X x)(N:X.mg x=aa (.ref f))(hk:Hf X.K (.ref f)=ab)(Y:Binds X.K fd ps ds)(hd:aY dvs ds)(B:l9 CX X E)(T:PA X (e::es) t)(i:Db x:=by decide)(m:Se X e es:=by rfl)(y:Sb X pos es:=by rfl):
  PE X (.Call (.Name x p) (e::es) [] pos) (CP sp dvs E t):=by
 intro af s Z H Q I h;apply Dy (sX I hg N ?_ i);apply Nh (h₀:=X.base) I.ok.mod.kin hk (aV (T pos af s Z H _ I h) λus U #[vs,P,M,r,q]=>#[M.kIn,?_]) m y;show tH F G Y hd B M r q
def RB(d:PE X o ta)(c:gD X.K C)(N:oU X.K C m f)(F:X.f CX k f fd ps sp)(G:cI k X.A)(Y:Binds X.K fd ps ds)(hd:aY dvs ds)(B:l9 CX X E)(T:PA X (e::es) t)(V:Se X e es:=by rfl)(y:Sb X pos es:=by rfl)(ht:El (.Call (.Attribute o m apos) (e::es) [] pos) X.env=(do
   let p <-El o X.env
   Ri apos.atName
   let (f,first) <-Kq [p] (Rj p m pl)
   We pos f first (Nx pos (Cg (e::es) X.env)) (Pr pos (Mq [] X.env))):=by rfl):
  PE X (.Call (.Attribute o m apos) (e::es) [] pos) (w9 C m sp dvs E ta t):=by
 intro af s Z H Q I h;apply PySem.W.methodCall_KW (pl:=pl) (aV (d af s Z H _ I h) λu U z=>?_) ht;let#[x,P,M,S,a,dx,fs,ex,j,l,q]:=z;subst ex;obtain rfl:u=Value.ref a:=S;apply CN M j c N l ?_;apply Nh (first:=[.ref a]) (h₀:=X.base) I.ok.mod.kin N.kp (aV (T pos af U Z P _ M q) λus g #[vs,L,i,r,n]=>#[i.kIn,?_]) V y;show tH (us:=.ref a::us) (vs:=.ref a::vs) F G Y hd B i (.cons rfl r) n
def RC(d:PE X o ta)(c:gD X.K C)(N:oU X.K C m f)(F:X.f CX k f fd ps sp)(G:cI k X.A)(Y:Binds X.K fd ps ds)(hd:aY dvs ds)(B:l9 CX X E)(ht:El (.Call (.Attribute o m apos) [] [] pos) X.env=(do
   let p <-El o X.env
   Ri apos.atName
   let (f,first) <-Kq [p] (Rj p m pl)
   We pos f first (Nx pos (Cg [] X.env)) (Pr pos (Mq [] X.env))):=by rfl):
  PE X (.Call (.Attribute o m apos) [] [] pos) (w9 C m sp dvs E ta w6):=by
 intro af s Z H Q I h;apply PySem.W.methodCall_KW (pl:=pl) (aV (d af s Z H _ I h) λu U z=>?_) ht;let#[x,P,M,S,a,dx,fs,ex,j,l,q]:=z;subst ex;obtain rfl:u=Value.ref a:=S;apply CN M j c N l ?_;show PySem.W.callWith_K0 (first:=[.ref a]) M.kIn N.kp (tH (us:=[.ref a]) (vs:=[.ref a]) F G Y hd B M (.cons rfl .nil) q)
structure Mk(K:Ac)(C f:Am):Prop where
 makes:Rq K C=ab
 init:Fv K (.ref C) "__init__" = aa (aa (.ref f))
 fn:Oq K (.ref f)=ab
 kp:Hf K (.ref C)=ab
def CS(M:Mk X.K C f)(F:X.f CX k f fd ps sp)(hr:cI (k+1) X.A)(hb:Binds X.K fd ps ds)(hd:aY dvs ds)(hx:l9 CX X E)(I:Inv X af Z H s)(r:aY vs us)(h:∀x dx,H x=ae->H dx=ae->dx≠x->sp (.ref x::(vs++dvs)) (aL (aL H dx (.own x)) x (.ins C dx [])) (λv H2=>v=.non/\Q (.ref x) H2) E):
  X.a (call (.ref C) us) (EP X af Z Q) X.xe s:=by
 let hq:=h (⇑s+1) ⇑s (I.hok.fresh (Ht _)) (I.hok.fresh (Aj _)) (Bl (Fl _));let I2:=Inv.made (C:=C) I;let r2:aY (V.ref (⇑s+1)::(vs++dvs)) (Value.ref (⇑s+1)::(us++ds)):=.cons rfl (r.append hd);let hl:↥(Value.ref (⇑s+1)::us++ds)=↥ps:=by
  let e:=↥r2;rw[F.len _ _ _ _ hq]at e;show e.symm
 apply wpAny_call (QQ (f:=f) I.kIn M.makes M.init (beq_iff_eq.mp M.fn) (Qf (F.run _ X.stack _ _ #[Value.ref (⇑s+1)::us,[]] (Value.ref (⇑s+1)::(us++ds)) _ _ E (hr.make C us [])
  (I2.env0.make C us []) (hb _ (Value.ref (⇑s+1)::us) I2.kIn hl) r2 hq) λr s' hq'=>?_))
 cases r with
 | error e=>show hx af Z _ _ e s' I2 hq'
 | ok fl=>
  cases fl with
  | ret u=>
   let#[v,H',I3,rv,ev,q3]:=I2.after hq';subst ev;show#[rv,#[V.ref (⇑s+1),H',I3,rfl,q3]]
  | next=>show Bs hq'
  | brk=>show Bs hq'
  | cont=>show Bs hq'
def RD(M:Mk X.K C f)(F:X.f CX k f fd ps sp)(G:cI (k+1) X.A)(hg:Gl X x)(N:X.mg x=aa (.ref C))(Y:Binds X.K fd ps ds)(hd:aY dvs ds)(B:l9 CX X E)(T:PA X (e::es) t)(i:Db x:=by decide)(m:Se X e es:=by rfl)(y:Sb X pos es:=by rfl):
  PE X (.Call (.Name x p) (e::es) [] pos) (CQ C sp dvs E t):=by
 intro af s Z H Q I h;apply Dy (sX I hg N ?_ i);apply Nh (h₀:=X.base) I.ok.mod.kin M.kp (aV (T pos af s Z H _ I h) λus U #[vs,P,g,r,q]=>#[g.kIn,?_]) m y;show CS M F G Y hd B g r q
def RE(M:Mk X.K C f)(F:X.f CX k f fd ps sp)(G:cI (k+1) X.A)(hg:Gl X x)(N:X.mg x=aa (.ref C))(Y:Binds X.K fd ps ds)(hd:aY dvs ds)(B:l9 CX X E)(i:Db x:=by decide):PE X (.Call (.Name x p) [] [] pos) (CQ C sp dvs E w6):=by
 intro af s Z H Q I h;apply Dy (sX I hg N ?_ i);show PySem.W.callWith_K0 I.kIn M.kp (CS (us:=[]) M F G Y hd B I .nil h)
end
structure mB(N P:↑Av)(sc:Mb):Prop where
 kind:sc.kind=.function
 co:sc.isCoroutine=ac
 gen:sc.isGenerator=ac
 nd:N.Nodup
 pre:N.take ↥P=P
 par:∀x∈P,sc.names.lookup x=aa .local\/sc.names.lookup x=aa .cell
 nofree:∀y∈sc.names,y.2≠.free
theorem CU{a:Av->Option Lg}:∀{binds:↑(Av×Ae)} {m:Av->Option Ae},(∀v,(x,v)∉binds)->Vf a binds m x=m x
 | [],_,_=>rfl
 | (n,v)::r,m,h=>by
  unfold Vf;rw[CU λw hw=>h w (Bp _ hw)];split
  .have:x≠n:=by rintro rfl;show h v Bw
   simp[this]
  .rfl
theorem CV{a:Av->Option Lg}:∀{binds:↑(Av×Ae)} {m:Av->Option Ae},(∀v,(x,v)∉binds)->Vg a binds m x=m x
 | [],_,_=>rfl
 | (n,v)::r,m,h=>by
  unfold Vg;rw[CV λw hw=>h w (Bp _ hw)];split
  .rfl
  .have:x≠n:=by rintro rfl;show h v Bw
   simp[this]
theorem CW{a:Av->Option Lg}{x:Av}{v:Ae}:∀{P:↑Av} {vs:↑Ae} {i:Nat} {m:Av->Option Ae},P.Nodup->P[i]? = aa x->vs[i]? = aa v->a x=aa .local->
  Vf a (P.zip vs) m x=aa v
 | [],_,_,_,_,h,_,_=>by simp at h
 | _::_,[],_,_,_,_,h,_=>by simp at h
 | p::P,w::vs,0,m,nd,L,Z,hk=>by
  simp at L Z;subst L;subst Z;change Vf a ((p,w)::P.zip vs) m p=_;unfold Vf;rw[CU λv c=>(Cp.mp nd).1 (Lp c).1,Xb hk];simp
 | p::P,w::vs,i+1,m,nd,L,Z,hk=>by
  change Vf a ((p,w)::P.zip vs) m x=_;unfold Vf;show CW (i:=i) (Cp.mp nd).2 (by simpa using L) (by simpa using Z) hk
theorem CY{a:Av->Option Lg}{x:Av}{v:Ae}:∀{P:↑Av} {vs:↑Ae} {i:Nat} {m:Av->Option Ae},P.Nodup->P[i]? = aa x->vs[i]? = aa v->a x≠aa .local->
  Vg a (P.zip vs) m x=aa v
 | [],_,_,_,_,h,_,_=>by simp at h
 | _::_,[],_,_,_,_,h,_=>by simp at h
 | p::P,w::vs,0,m,nd,L,Z,hk=>by
  simp at L Z;subst L;subst Z;change Vg a ((p,w)::P.zip vs) m p=_;unfold Vg;rw[CV λv c=>(Cp.mp nd).1 (Lp c).1,Xa hk];simp
 | p::P,w::vs,i+1,m,nd,L,Z,hk=>by
  change Vg a ((p,w)::P.zip vs) m x=_;unfold Vg;show CY (i:=i) (Cp.mp nd).2 (by simpa using L) (by simpa using Z) hk
noncomputable def start(N:↑Av)(vs:↑V):St:=vs.map aa++Cu (↥N-↥vs) ae
noncomputable def kC(CX:kB)(P:Be)(w:Bv)(K:Ac)(mg:Av->Option Ae)(base:Dz)(N:↑Av)(d:Av)(M:Mb)(f:Am)(m:Ae)(A:Cw)(outer:↑Env)(s:Ak)(H:Hp)(E:XK):Cx where
 prog:=P
 w:=w
 K:=K
 mg:=mg
 base:=base
 A:=A.deeper (Na d M ⇑s f m)
 N:=N
 s₀:=s
 H₀:=H
 env:=Na d M ⇑s f m
 outer:=outer
 stack:=Na d M ⇑s f m::outer
 ex:=[]
 calm:=ab
 fn:=λ_=>ab
 pn:=[]
 xe:=λe s'=>Bo (Cy P w) (A.deeper (Na d M ⇑s f m)) (leaving (Na d M ⇑s f m) e) (λ_ V=>CX outer H s E e V) (λU V=>CX outer H s E U V) s'
def CZ{sc:Mb}{n:Nat}{x:Av}(h:sc.names.lookup x=aa .cell):∃c,(Wy n sc.names []).lookup x=aa c:=by
 let q:=PySem.W.cellsFrom_some sc.names n [] (.inl h);show Ed.mp q
def RF{CX:kB}{P:Be}{w:Bv}{K:Ac}{mg:Av->Option Ae}{base:Dz}{N ps:↑Av}{d:Av}{M:Mb}{f:Am}{m:Ae}{A:Cw}{outer:↑Env}{s U:Ak}{H:Hp}{E:XK}{us:↑Ae}{vs:↑V}(S:mB N ps M)(hd:A.handled=ae)(I:nS P w K mg base A outer s H)(hl:↥vs=↥ps)(r:aY vs us)(x:InCallC s ⇑s (Vf (Na d M ⇑s f m).kindOf (ps.zip us) λ_=>ae) (Wy (⇑s+1) M.names []) (Vg (Na d M ⇑s f m).kindOf (ps.zip us) λ_=>ae) U):
  Inv (kC CX P w K mg base N d M f m A outer s H E) [] (start N vs) H U:=by
 let j:↥ps<=↥N:=by have:=congrArg Jc S.pre;rw[Dc]at this;lia
 let#[L,tk,rfl,hk]:=x.done;let X:∀b:Am,b∉(kC CX P w K mg base N d M f m A outer s H E).ex:=λb z=>absurd (show b∈([]:↑Am) from z) (by simp);apply#[#[I.mod,S.kind,rfl,rfl,Aj _,λy z c L Z=>?_,λy O=>?_,λy c _ h=>?_,λ_=>hd,Around.frames_deeper I.frames,.inr #[rfl,rfl],λb z=>absurd z (X b),I.bs,I.bsz,λb _ _=>X b,λb z=>absurd z (X b),I.funs,I.frf],
  rfl,I.bare,Un.kept hk,#[_,x.toInCall.ns,λi y v L Z F=>?_],λy c h=>#[_,x.cell y c h],I.hok.fresh (Aj _),λy c h=>?_,λp B=>absurd (show p∈([]:↑(Am×Nl)) from B) (by simp),I.hok.kept hk,?_]
 .show name_of_addr x.apart (Jg L) (Jg Z)
 .let O:M.names.lookup y=aa .cell\/M.names.lookup y=aa .free:=O;rcases O with O|O
  .show CZ O
  .show absurd rfl (S.nofree _ (Jg O))
 .show Ie (x.above y c (Jg h))
 .let hi:i<↥vs:=by
   unfold start at Z
   by_cases hi:i<↥vs
   .show hi
   .rw[Fw (by simpa using hi)]at Z;rw[List.getElem?_replicate]at Z;split at Z<;>cases Z
  let T:vs[i]? = aa v:=by
   unfold start at Z;rw[Iw (by simpa using hi),Az]at Z;cases e:vs[i]? with
   | none=>rw[e]at Z;cases Z
   | some a=>rw[e]at Z;cases Z;rfl
  let#[u,C,R]:=r.get T;let B:ps[i]? = aa y:=by
   rw[<-S.pre,List.getElem?_take_of_lt (by lia)];show L
  let g:ps.Nodup:=by rw[<-S.pre];show S.nd.sublist (Rl _ _)
  apply#[u,R,?_];rcases S.par y (Au B) with k|k
  .show .inl #[k,CW g B C k]
  .let#[c,e]:=CZ (n:=⇑s+1) k;apply .inr #[.inl k,c,e,?_];let q:=x.cell y c e;rw[CY g B C (by change M.names.lookup y≠_;rw[k];decide)]at q;show q
 .show I.hok.fresh (Ie (x.above y c (Jg h)))
 .unfold start;change _=↥N;rw[Ag,Ab,List.length_replicate];lia
def RG{CX:kB}{P:Be}{w:Bv}{K:Ac}{mg:Av->Option Ae}{base:Dz}{k:Nat}{f:Am}{name qual:Av}{params:Arguments}{body:↑Kx}{scope:Mb}{dV kV doc pm cdv ct oc:Ae}{an od:Option Am}{osl:Array (Option Ae)}{N ps:↑Av}{sp:Sp}(lk:K.lookup f=aa #[oc,od,.func (Gv name qual params body scope dV kV doc pm an cdv ct),osl])(hcd:Lw K cdv qual=ab)(S:mB N ps scope)(len:∀vs H Q E,sp vs H Q E->↥vs=↥ps)(hbody:∀(A:Cw) (outer:↑Env) (s:Ak) (H:Hp) (vs:↑V) (Q:VK) (E:XK),cI k (A.deeper (Na qual scope ⇑s f cdv))->sp vs H Q E->
   ∃t,fN (kC CX P w K mg base N qual scope f cdv A outer s H E) body t/\t {nx:=λ_ H'=>Q .non H',rt:=Q} (start N vs) H):
  iW P w K mg base CX (k+1) f (Gv name qual params body scope dV kV doc pm an cdv ct) ps sp:=by
 apply#[len,λA outer s H args us vs Q E hr e0 hb r hsp=>?_];let hl:=len _ _ _ _ hsp;let KX:K.In s.heap:=e0.mod.kin.keeps λb o e=>(e0.bs b o e).1;let lim:s.heap.NoLimit:=e0.mod.nolimit.keeps λb o e=>(e0.bs b o e).1;let hkind:∀y∈ps.zip us,scope.names.lookup y.1=aa .local\/(scope.names.lookup y.1=aa .cell/\((Wy (⇑s+1) scope.names []).lookup y.1).isSome=ab):=λ#[n,v] hy=>by
  rcases S.par n (Lp hy).1 with q|q
  .show .inl q
  .show .inr #[q,PySem.W.cellsFrom_some _ _ _ (.inl q)]
 apply codeAny_call_function hr.depth (KX _ _ lk) rfl S.co S.gen rfl (PySem.W.codeRec_of KX hcd) (hb _ _ _ _ ?_);apply wpAny_newFunctionEnv_cells S.kind hkind λenv he s1 x=>?_;subst he;apply#[lim.keeps x.toInCall.keep,codeAny_func ?_];let#[t,ht,hq]:=hbody A outer s H vs Q E (hr.deeper _) hsp;let I:Inv (kC CX P w K mg base N qual scope f cdv A outer s H E) [] (start N vs) H s1:=RF S hr.hd e0 hl r x;apply Jl (ht [] s1 (start N vs) H _ I hq) (λfl s' hs=>?_) λe s' hs=>hs;let fin:∀{σ':St} {H':Hp} {v:V} {u:Ae},Inv (kC CX P w K mg base N qual scope f cdv A outer s H E) [] σ' H' s'->RelV v u->Q v H'->CE outer P w H s Q u s':=
  λ{σ' H' v u} J rv q=>#[v,H',J.os,J.bare,J.base,J.hok,rv,q]
 cases fl with
 | ret u=>
  let#[v,σ',H',J,rv,q]:=hs;show fin J rv q
 | next=>
  let#[σ',H',J,q]:=hs;show fin (v:=V.non) (u:=Value.none) J rfl q
 | brk=>
  let#[_,_,_,q]:=hs;show Bs q
 | cont=>
  let#[_,_,_,q]:=hs;show Bs q
section
variable {X:Cx}{x:Av}{p pos:Ih}{e:Cm}{es:↑Cm}{t:TA}{id T:String}{r:↑V->Hp->VK->Prop}
def xA(r:↑V->Hp->VK->Prop)(t:TA):TE:=λZ H Q=>t Z H λvs B=>r vs B Q
def RH(hc:cN X (.builtin id) r)(hg:Gl X x)(N:X.mg x=ae)(c:Cz x=aa (.builtin id))(T:PA X (e::es) t)(P:x≠"__name__":=by decide)(i:Db x:=by decide)(m:Se X e es:=by rfl)(y:Sb X pos es:=by rfl):PE X (.Call (.Name x p) (e::es) [] pos) (xA r t):=by
 intro af s Z H Q I h;apply Dy (fP I hg N c ?_ P i);show PyProof.Rows.callWith_builtin1 (aV (T pos af s Z H _ I h) λus U #[vs,B,M,l,W]=>hc af U Z B vs us Q M l W) m y
def RI(hc:cN X (.type T) r)(hg:Gl X x)(N:X.mg x=ae)(c:Cz x=aa (.type T))(m:PA X (e::es) t)(P:x≠"__name__":=by decide)(i:Db x:=by decide)(d:Se X e es:=by rfl)(y:Sb X pos es:=by rfl):PE X (.Call (.Name x p) (e::es) [] pos) (xA r t):=by
 intro af s Z H Q I h;apply Dy (fP I hg N c ?_ P i);show Bx (aV (m pos af s Z H _ I h) λus U #[vs,B,M,l,W]=>hc af U Z B vs us Q M l W) d y
end
end L2
namespace HT
section
variable {prog:Be}{w:Bv}{A:Cw}{E:Ae->Ak->Prop}{s:Ak}
def cat_tup{Q:Ae->Ak->Prop}(ht:IsTup s.heap t vs.toArray)(Y:IsTup s.heap b ws.toArray)(c:vs≠[])(L:ws=[]->Q (.ref t) s)(Z:ws≠[]->Q (.ref ⇑s) {s with heap:=s.heap.push {cls:=.type "tuple",data:=.seq (vs++ws).toArray}})(hsz:↥vs+↥ws<=Ap):Bo (Cy prog w) A (Fq .Add (.ref t) (.ref b)) Q E s:=by
 obtain⟨⟨cls,x,data,sl⟩,f,hc,n,hd⟩:=id ht;obtain⟨⟨m,k,l,i⟩,g,d,j,U⟩:=id Y;simp only at hc hd d U;subst hc hd d U;let e:vs.toArray++ws.toArray=(vs++ws).toArray:=by simp
 by_cases hw:ws=[]
 .show Vp #[_,f,rfl] #[_,g,rfl] Tn Uy Ot Og (Ny _ _)
   (tuple_addW1 t b vs.toArray ws.toArray n j x k sl i (by simpa using c) (by simp[hw])) #[f,g,L hw]
 .apply Vp #[_,f,rfl] #[_,g,rfl] Tn Uy Ot Og (Ny _ _)
   (tuple_addW2 t b vs.toArray ws.toArray n j x k sl i (by simpa using c) (by simpa using hw) (by rw[Bg,Bg];show hsz)) #[f,g,?_]
  rw[e];show Z hw
def sIx(n d:Nat):Option Int->Nat
 | none=>d
 | some v=>if v<0 then(v+(n:Int)).toNat else min v.toNat n
def sIx_nat(n d k:Nat):sIx n d (aa (k:Int))=min k n:=by
 change(if (k:Int)<0 then((k:Int)+(n:Int)).toNat else min (k:Int).toNat n)=min k n;rw[Xa (by lia),Cv]
def RJ(n d:Nat)(hd:d<=n)(o:Option Int):sIx n d o<=n:=by
 cases o with
 | none=>show hd
 | some v=>
  change(if v<0 then(v+(n:Int)).toNat else min v.toNat n)<=n
  by_cases c:v<0
  .rw[Xb c];lia
  .rw[Xa c];show Sq _ _
def C0(v:Int)(n d:Nat):(if v<0 then max (v+(n:Int)) 0 else min v (n:Int))=((sIx n d (aa v):Nat):Int):=by
 change(if v<0 then max (v+(n:Int)) 0 else min v (n:Int))=(((if v<0 then(v+(n:Int)).toNat else min v.toNat n):Nat):Int)
 by_cases c:v<0
 .simp only[Xb c];lia
 .simp only[Xa c];lia
def RK(lo hi:Option Int)(n:Nat):Nc lo hi 1 (n:Int)=(((sIx n 0 lo:Nat):Int),((sIx n n hi:Nat):Int)):=by
 let L:¬((1:Int)<0):=by lia
 unfold Nc;simp only[L,if_false];apply Jt ?_ ?_
 .cases lo with
  | none=>rfl
  | some v=>show C0 v n 0
 .cases hi with
  | none=>rfl
  | some v=>show C0 v n n
def RL(i j:Nat):Jv (i:Int) (j:Int) 1=j-i:=by
 unfold Jv;let L:(1:Int) > 0:=by lia
 simp only[L,if_true,Int.ediv_one];split<;>lia
def C1{Q:Option Int->Ak->Prop}(p:Tt v o)(h:Q o s):Bo (Cy prog w) A (Builtin.Slice.slicePartIndex v) Q E s:=by
 cases p with
 | none=>show slicePart_none h
 | int i t=>show slicePart_int h
def RM{sl:Am}{j c:Ae}{lo hi:Option Int}{n:Nat}{Q:Int×Int×Nat->Ak->Prop}(F:s.heap.IsSliceOf sl j c .none)(pl:Tt j lo)(y:Tt c hi)(h:Q (((sIx n 0 lo:Nat):Int),1,sIx n n hi-sIx n 0 lo) s):Bo (Cy prog w) A (Builtin.Slice.sliceApplied (.ref sl) (pure (n:Int))) Q E s:=by
 let#[os,b,e,d]:=id F;unfold Builtin.Slice.sliceApplied Builtin.Slice.sliceFields;apply Aa (Aa (Dh b d (x:=j) rfl (Aa (Dh b d (x:=c) rfl (Aa (Dh b d (x:=.none) rfl (Ah ?_)))))));apply Aa (slicePart_none ?_);change Bo _ _ (if ((1:Int)==0)=ab then _ else _) _ _ s;rw[Xa ∅];apply Aa (C1 pl (Aa (C1 y (Aa (Ah ?_)))));change Bo _ _ (match Nc lo hi 1 (n:Int) with|(lo,hi)=>pure (lo,(1:Int),Jv lo hi 1)) _ _ s;rw[RK lo hi n];change Bo _ _ (pure (((sIx n 0 lo:Nat):Int),(1:Int),Jv ((sIx n 0 lo:Nat):Int) ((sIx n n hi:Nat):Int) 1)) _ _ s;rw[RL];show Ah h
def RN(xs:Array Ae)(i k:Nat):((Cf k).filterMap λ(m:Nat)=>xs[((i:Int)+(m:Int)*1).toNat]?).toArray=((xs.toList.drop i).take k).toArray:=by
 let e:(λ(m:Nat)=>xs[((i:Int)+(m:Int)*1).toNat]?)=λm=>xs[i+m]?:=by
  funext m;have:((i:Int)+(m:Int)*1).toNat=i+m:=by lia
  rw[this]
 rw[e];have:=pick_run xs i k;rw[Lu]at this;let D:((λx=>xs[x]?) ∘ λx=>i+x)=λm=>xs[i+m]?:=rfl;rw[D]at this;rw[this]
def getItem_tuple_cut{t sl:Am}{items:Array Ae}{j c:Ae}{lo hi:Option Int}{Q:Ae->Ak->Prop}(ht:IsTup s.heap t items)(F:s.heap.IsSliceOf sl j c .none)(pl:Tt j lo)(y:Tt c hi)(hw:¬(sIx items.size 0 lo=0/\sIx items.size items.size hi=items.size))(h:Q (.ref ⇑s) {s with heap:=s.heap.push {cls:=.type "tuple",data:=.seq ((items.toList.drop (sIx items.size 0 lo)).take (sIx items.size items.size hi-sIx items.size 0 lo)).toArray}})(hsz:items.size<=Ap):Bo (Cy prog w) A (Ui (.ref t) (.ref sl)) Q E s:=by
 let a:sizeOk (.seq ((items.toList.drop (sIx items.size 0 lo)).take (sIx items.size items.size hi-sIx items.size 0 lo)).toArray):=by
  change((items.toList.drop (sIx items.size 0 lo)).take (sIx items.size items.size hi-sIx items.size 0 lo)).toArray.size<=Ap;rw[Bg,Dc,Ei,Fj];omega
 let hj:sIx items.size items.size hi<=items.size:=RJ _ _ (Aj _) hi;let#[os,b,e,d]:=id F;let f:s.TypeIs (.ref sl) "slice":=#[os,b,e];unfold Ui
 try with_reducible refine Dg ?_
 first|refine Aa (Ah ?_)|skip
 apply Aa (wpAny_sequenceKey ht.typeIs ∅ ?_);apply Aa (Dj (name:=Cd "__getitem__") ht.typeIs Li
  (Cs Li ht.typeIs entry_tuple_getitem ?_ (args_tuple_getitem _ _)))
 change Bo _ _ (Builtin.Tuple.tupleItemsOf (.ref t)>>=_) _ _ s;apply Aa (tupleItemsOf_ ht ?_);apply Aa (Ll f ?_);rw[Xb ∅];apply Aa (RM F pl y ?_);let g:¬((((sIx items.size 0 lo:Nat):Int)==0&&(1:Int)==1&&(sIx items.size items.size hi-sIx items.size 0 lo)==items.size)=ab):=by
  intro q;rw[De,De]at q;let W:((sIx items.size 0 lo:Nat):Int)=0:=eq_of_beq q.1.1;let n:sIx items.size items.size hi-sIx items.size 0 lo=items.size:=eq_of_beq q.2;show hw #[by omega,by omega]
 change Bo _ _ (if (((sIx items.size 0 lo:Nat):Int)==0&&(1:Int)==1&&(sIx items.size items.size hi-sIx items.size 0 lo)==items.size)=ab then _ else _) _ _ s;rw[Xa g,RN]
 first
  | exact Aa (m:=Hm _) (Du (Ah #[_,rfl,Ah h]) a)
  | exact Aa (m:=Hm _) (Du (Aa (Ah (Ah #[_,rfl,Ah h]))) a)
  | exact Aa (Aa (m:=Hm _) (Du (Ah (Ah #[_,rfl,Ah h])) a))
  | exact Aa (Aa (m:=Hm _) (Du (Ah #[_,rfl,Ah h]) a))
end
end HT
namespace L2
abbrev TO:=St->Hp->(Option Int->Hp->Prop)->Prop
def PO(X:Cx)(e:Option Cm)(t:TO):Prop:=
 ∀(af:Pn) (s:Ak) (Z:St) (H:Hp) (Q:Option Int->Hp->Prop),Inv X af Z H s->t Z H Q->
  X.a (evalPart e X.env) (λu j=>∃o l,Inv X af Z l j/\Tt u o/\Q o l) X.xe s
def RO:TO:=λ_ H Q=>Q ae H
def RP(t:TE):TO:=λZ H Q=>t Z H λx B=>∃i,x=.int i/\Q (aa i) B
section
variable {X:Cx}{e:Cm}{te:TE}{lo hi:Option Cm}{tl th:TO}{pos p2:Ih}
def RQ:PO X ae RO:=by
 intro af s Z H Q I h;rw[evalPart_none];show Ah #[ae,H,I,.none,h]
def RS(h:PE X e te):PO X (aa e) (RP te):=by
 intro af s Z H Q I hw;rw[evalPart_some];apply aV (h af s Z H _ I hw) λu U E=>?_;let#[x,B,M,l,W]:=E;let#[i,rfl,q]:=W;let#[t,rfl]:=l;show#[aa i,B,M,.int i t,q]
def tI(X:Cx)(r:V->Option Int->Option Int->Hp->VK->Prop):Prop:=
 ∀(af:Pn) (s:Ak) (Z:St) (H:Hp) (x:V) (v j c:Ae) (lo hi:Option Int) (sl:Am) (Q:VK),Inv X af Z H s->RelV x v->s.heap.IsSliceOf sl j c .none->Tt j lo->Tt c hi->r x lo hi H Q->
  ∃T id,Ld (.type T) "__getitem__" = pure (aa (.builtin id))/\s.TypeIs v T/\X.a (Ui v (.ref sl)) (EP X af Z Q) X.xe s
def RU(r:V->Option Int->Option Int->Hp->VK->Prop)(te:TE)(tl th:TO):TE:=λZ H Q=>te Z H λx B=>tl Z B λl L=>th Z L λu R=>r x l u R Q
def RV{r:V->Option Int->Option Int->Hp->VK->Prop}(G:tI X r)(m:PE X e te)(hl:PO X lo tl)(C:PO X hi th):PE X (.Subscript e (.Slice lo hi ae p2) pos) (RU r te tl th):=by
 intro af s Z H Q I h;apply Subscript_ (aV (m af s Z H _ I h) λv U E=>?_);let#[x,B,M,A,W]:=E;apply wpAny_Slice (aV (hl af U Z B _ M W) λj d #[l,L,i,pl,n]=>aV (C af d Z L _ i n) λc K S=>?_);let#[u,R,w,y,Y]:=S;rw[evalPart_none];apply Ah ?_;let k:Inv X af Z R {K with heap:=K.heap.push {cls:=.type "slice",data:=.fields [j,c,.none].toArray}}:=w.kept (t':=K.toks) λb ob q=>Af _ q;let#[T,id,N,ht,hg]:=G af {K with heap:=K.heap.push {cls:=.type "slice",data:=.fields [j,c,.none].toArray}} Z R x v j c l u ⇑K Q k A (Heap.IsSliceOf.new ..) pl y Y;change X.a (subscriptTail e (.Slice lo hi ae p2) v (.ref ⇑K)) (EP X af Z Q) X.xe {K with heap:=K.heap.push {cls:=.type "slice",data:=.fields [j,c,.none].toArray}};show tail_any (ops:=[.ref ⇑K,v]) ht N hg (by with_unfolding_all rfl)
noncomputable def mC(xs:↑V)(lo hi:Option Int):↑V:=(xs.drop (HT.sIx ↥xs 0 lo)).take (HT.sIx ↥xs ↥xs hi-HT.sIx ↥xs 0 lo)
def C3(xs:↑V)(lo hi:Option Int):↥(mC xs lo hi)<=↥xs:=by
 unfold mC;rw[Dc,Ei];lia
def RW(K:Ac):V->Option Int->Option Int->Hp->VK->Prop:=λx lo hi H Q=>∃a xs,x=.ref a/\bJ K H a xs/\
 ¬(HT.sIx ↥xs 0 lo=0/\HT.sIx ↥xs ↥xs hi=↥xs)/\∀p,H p=ae->Q (.ref p) (aL H p (.tup (mC xs lo hi)))
def RX:tI X (RW X.K):=by
 intro af s Z H x v j c lo hi sl Q I S F pl y h;let#[a,xs,rfl,B,hw,q]:=h;cases S;let#[its,r,ht,hz]:=I.tuple B;let Y:its.toArray.size=↥xs:=by rw[Bg];show r.length.symm
 apply#["tuple",_,Li.lookup,ht.typeIs,?_];apply HT.getItem_tuple_cut ht F pl y (by rw[Y];show hw) ?_ (by rw[Y];show hz);rw[Y];apply#[.ref ⇑s,_,I.laid (t':=s.toks) (o:=.tup (mC xs lo hi)) (λb ob q=>Af _ q) (Aj _) ?_,rfl,q _ (I.hok.fresh (Aj _))];show#[Ar (C3 xs lo hi) hz,_,(r.drop (HT.sIx ↥xs 0 lo)).take (HT.sIx ↥xs ↥xs hi-HT.sIx ↥xs 0 lo),Vw _ _]
def RY(K:Ac):R2:=λx y H Q=>∃a b xs ys,x=.ref a/\y=.ref b/\bJ K H a xs/\bJ K H b ys/\xs≠[]/\↥xs+↥ys<=Ap/\
 (ys=[]->Q (.ref a) H)/\(ys≠[]->∀p,H p=ae->Q (.ref p) (aL H p (.tup (xs++ys))))
def aY.nil_iff(r:aY xs us):us=[]↔xs=[]:=by
 cases r with
 | nil=>simp
 | cons _ _=>simp
def RZ:bF X (Fq .Add) (RY X.K):=by
 intro af s Z H x y v u Q I S N h;let#[a,b,xs,ys,rfl,rfl,T,Y,B,hz,W,n]:=h;cases S;cases N;let#[its,l,G,_]:=I.tuple T;let#[t,m,p2,_]:=I.tuple Y;apply HT.cat_tup G p2 (λz=>B (l.nil_iff.mp z)) (λz=>#[.ref a,H,I,rfl,W (m.nil_iff.mp z)]) (λz=>?_) (by rw[<-↥l,<-↥m];show hz);apply#[.ref ⇑s,_,I.laid (t':=s.toks) (o:=.tup (xs++ys)) (λb ob q=>Af _ q) (Aj _) ?_,rfl,n (λw=>z (m.nil_iff.mpr w)) _ (I.hok.fresh (Aj _))];show#[by rw[Ag];show hz,_,l.append m,Vw _ _]
end
noncomputable def gW(n:Nat)(i:Int):Option Nat:=if 0<=i then(if i<n then aa i.toNat else ae) else if -(n:Int)<=i then aa (i+n).toNat else ae
noncomputable def cC{q:Type}(xs:↑q)(i:Int):Option q:=(gW ↥xs i).bind λj=>xs[j]?
def xB{n:Nat}{i:Int}{j:Nat}(h:gW n i=aa j):Wv i n=aa j/\j<n/\-(n:Int)<=i/\i<n:=by
 unfold gW at h
 by_cases v:0<=i
 .rw[Xb v]at h
  by_cases L:i<n
  .rw[Xb L]at h;let e:i.toNat=j:=Cj h;show#[by rw[Wa v L,e],by lia,by lia,L]
  .rw[Xa L]at h;cases h
 .rw[Xa v]at h
  by_cases L : -(n:Int)<=i
  .rw[Xb L]at h;let e:(i+n).toNat=j:=Cj h;show#[by rw[seqIndex_neg (by lia) L,e],by lia,L,by lia]
  .rw[Xa L]at h;cases h
def xD{q:Type}{xs:↑q}{i:Int}{v:q}(h:cC xs i=aa v):∃j,Wv i ↥xs=aa j/\xs[j]? = aa v/\j<↥xs/\-(↥xs:Int)<=i/\i<↥xs:=by
 unfold cC at h;cases e:gW ↥xs i with
 | none=>rw[e]at h;cases h
 | some j=>
  rw[e]at h;let#[L,Z,F,T]:=xB e;show#[j,L,h,Z,F,T]
def kW{q:Type}{xs:↑q}{j:Nat}{v:q}(h:xs[j]? = aa v):cC xs (j:Int)=aa v:=by
 let hj:j<↥xs:=(An.mp h).1;let e:gW ↥xs (j:Int)=aa j:=by
  unfold gW;rw[Xb (by lia),Xb (by lia)];simp
 unfold cC;rw[e];show h
def C4{q:Type}(xs:↑q)(v:q):cC (xs++[v]) (-1)=aa v:=by
 let hl:↥(xs++[v])=↥xs+1:=by simp
 let e:gW ↥(xs++[v]) (-1)=aa ↥xs:=by
  unfold gW;rw[hl,Xa ∅,Xb (by lia)];congr 1;lia
 unfold cC;rw[e];change(xs++[v])[↥xs]? = aa v;simp
def C5(b:Cm):Prop:=∀o i,subscripted b ac o i=operate [o,i] (Ui o i)
def iX(X:Cx)(r:R2):Prop:=
 ∀(e b:Cm) (af:Pn) (s:Ak) (Z:St) (H:Hp) (x y:V) (v u:Ae) (Q:VK),Inv X af Z H s->RelV x v->RelV y u->r x y H Q->
  subscripted b ac v u=operate [v,u] (Ui v u)->X.a (subscriptTail e b v u) (EP X af Z Q) X.xe s
def fQ(X:Cx)(id:String)(r:V->↑V->Hp->VK->Prop):Prop:=
 ∀(af:Pn) (s:Ak) (Z:St) (H:Hp) (x:V) (xs:↑V) (v:Ae) (us:↑Ae) (Q:VK),Inv X af Z H s->RelV x v->aY xs us->r x xs H Q->
  X.a (call (.builtin id) (v::us)) (EP X af Z Q) X.xe s
section
variable {X:Cx}{a b:Cm}{ta tb:TE}{pos:Ih}
def iX.or(h:iX X r)(h':iX X g):iX X (λx y H Q=>r x y H Q\/g x y H Q):=by
 intro e b af s Z H x y v u Q I S N q F;rcases q with q|q
 .show h e b af s Z H x y v u Q I S N q F
 .show h' e b af s Z H x y v u Q I S N q F
def R0(G:iX X r)(T:PE X a ta)(Y:PE X b tb)(F:C5 b):PE X (.Subscript a b pos) (qO r ta tb):=by
 intro af s Z H Q I h;show Subscript_ (wX T Y I h λv u d x y L i S N q=>G a b af d Z L x y v u Q i S N q (F _ _))
def R1(K:Ac):R2:=λx y H Q=>∃p xs i v,x=.ref p/\y=.int i/\bL K H p xs/\cC xs i=aa v/\Q v H
def R4(K:Ac):R2:=λx y H Q=>∃p xs i v,x=.ref p/\y=.int i/\bJ K H p xs/\cC xs i=aa v/\Q v H
def R5:R2:=λx y H Q=>∃z i c,x=.str z/\y=.int i/\↥z<=Ap/\cC z.cps.toList i=aa c/\Q (.str #[[c].toArray]) H
def R6:iX X (R1 X.K):=by
 intro e b af s Z H x y v u Q I S N h F;let#[p,xs,i,z,rfl,rfl,hq,m,q]:=h;cases S;let#[t,rfl]:=N;let#[its,r,pl,hz]:=I.list hq;let#[j,L,Y,l,T,O]:=xD m;let#[w,o,V]:=r.get Y;let hl:=↥r;let P:=iV;let fin:EP X af Z Q w s:=#[z,H,I,V,q]
 by_cases B:0<=i
 .let hj:i.toNat=j:=by
   rw[Wa B O]at L;show Cj L
  show item_listR pl.isList B (by lia) (by rw[hj];simpa using o) fin F
 .let hj:(i+(its.toArray.size:Int)).toNat=j:=by
   rw[seqIndex_neg (by lia) T]at L;rw[Bg,<-hl];show Cj L
  show subscriptTail_builtinR (x:=w) pl.isList.typeIs slot_list_getitem.lookup
   (wpAny_getItem_list_neg (Q:=λr M=>r=w/\EP X af Z Q r M) pl.isList (by lia) (by rw[Bg]<;>lia) (by lia) (by rw[hj];simpa using o) #[rfl,fin]) F
def R7:iX X (R4 X.K):=by
 intro e b af s Z H x y v u Q I S N h F;let#[p,xs,i,z,rfl,rfl,hq,m,q]:=h;cases S;let#[t,rfl]:=N;let#[its,r,pl,hz]:=I.tuple hq;let#[j,L,Y,l,T,O]:=xD m;let#[w,o,V]:=r.get Y;let hl:=↥r;let P:=iV;let fin:EP X af Z Q w s:=#[z,H,I,V,q];show subscriptTail_builtinR (x:=w) pl.typeIs slot_tuple_getitem.lookup
  (getItem_tuple (j:=j) (Q:=λr M=>r=w/\EP X af Z Q r M) pl (by lia) (by lia) (by rw[Bg,<-hl];show L) (by simpa using o) #[rfl,fin]) F
def R8:iX X R5:=by
 intro e b af s Z H x y v u Q I S N h F;let#[z,i,c,rfl,rfl,hz,m,q]:=h;let#[t,rfl]:=S;let#[t',rfl]:=N;let#[j,L,Y,K,T,O]:=xD m;let hl:↥z.cps.toList=↥z:=by simp[Str.length]
 rw[hl]at L T O;let P:=iV;show tail_any (Wj s z t) slot_str_getitem.lookup (getItem_str (c:=c) (by
  let J:decide (i < -(2 ^ 63:Int))=ac:=Xe (by lia);let D:decide (i ≥ 2 ^ 63)=ac:=Xe (by lia);rw[J,D,Qw]) (by rw[L];simpa using Y) #[.str #[[c].toArray],H,I.tok _,#[_,rfl],q]) F
def R9(its:↑Ae)(n j:Nat)(u:Ae):Ik (·.setIfInBounds j u) (lO its.toArray n)=(lO (its.set j u).toArray n):=by
 simp[Ik]
def Inv.lst{af:Pn}{Z:St}{H:Hp}{s:Ak}{p:Am}{xs:↑V}(I:Inv X af Z H s)(h:H p=aa (.lst xs)):
  ∃(its:↑Ae) (n:Nat),aY xs its/\s.heap.get? p=aa (lO its.toArray n)/\↥xs<=Ap:=by
 let#[z,its,n,r,e]:=I.hok p _ h;show#[its,n,r,e,z]
def Inv.lstUpd{af:Pn}{Z:St}{H:Hp}{s:Ak}{p:Am}{xs ys:↑V}{its its':↑Ae}{n M:Nat}{f:Nl->Nl}(I:Inv X af Z H s)(h:H p=aa (.lst xs))(D:s.heap.get? p=aa (lO its.toArray n))(hf:f (lO its.toArray n)=(lO its'.toArray M))(r:aY ys its')(hz:↥ys<=Ap)(t:Nat):
  Inv X af Z (aL H p (.lst ys)) {s with heap:=s.heap.update p f,toks:=t}:=by
 let e:(s.heap.update p f).get? p=aa (lO its'.toArray M):=by
  rw[Ew f D (by rw[hf]<;>rfl),hf]
 apply I.write (x:=p) (e:=p) (by rw[h];trivial) (.inl rfl) (λb u Y q=>(Gf _ _ (Ca Y)).trans q) #[_,e] ?_;show#[hz,its',M,r,e]
def SA:V->V->V->Hp->(Hp->Prop)->Prop:=λo i v H Q=>∃p xs k j,o=.ref p/\i=.int k/\H p=aa (.lst xs)/\gW ↥xs k=aa j/\Q (aL H p (.lst (xs.set j v)))
def SD:sZ X SA:=by
 intro af s Z H o i v D g u Q I x w R h;let#[p,xs,k,j,rfl,rfl,S,hj,q]:=h;cases x;let#[t,rfl]:=w;let#[its,n,r,f,hz]:=I.lst S;let#[L,Y,F,T]:=xB hj;let hl:=↥r;let P:=iV;let c:Inv X af Z (aL H p (.lst (xs.set j v))) {s with heap:=s.heap.update p (Ik (·.setIfInBounds j u))}:=
  I.lstUpd S f (R9 its n j u) (r.set R j) (by rw[List.length_set];show hz) s.toks
 by_cases B:0<=k
 .let hk:k.toNat=j:=by
   rw[Wa B T]at L;show Cj L
  show PySem.W.ki_setAt f B (by lia) (by rw[Bg,<-hl];show T) (by rw[hk];show#[_,c,q])
 .let hk:(k+(its.toArray.size:Int)).toNat=j:=by
   rw[seqIndex_neg (by lia) F]at L;rw[Bg,<-hl];show Cj L
  show PySem.W.ki_setBack f (by lia) (by rw[Bg,<-hl];show F) (by lia) (by rw[hk];show#[_,c,q])
def SE(lo hi:Option Int)(n:Nat):(Nt lo hi ae n).1=((HT.sIx n 0 lo:Nat):Int)/\(Nt lo hi ae n).2.1=((HT.sIx n n hi:Nat):Int)/\(Nt lo hi ae n).2.2=1:=by
 apply#[?_,?_,rfl]
 .cases lo with
  | none=>simp[Nt,HT.sIx]
  | some i=>
   simp only[Nt,HT.sIx,Option.getD_none,show(1:Int) > 0 by decide,if_true]
   by_cases h:i<0
   .simp only[h,if_true]<;>lia
   .simp only[h,if_false]<;>lia
 .cases hi with
  | none=>simp[Nt,HT.sIx]
  | some i=>
   simp only[Nt,HT.sIx,Option.getD_none,show(1:Int) > 0 by decide,if_true]
   by_cases h:i<0
   .simp only[h,if_true]<;>lia
   .simp only[h,if_false]<;>lia
def SF(its:↑Ae)(lo hi:Option Int):slicePick its.toArray lo hi ae=((its.drop (HT.sIx ↥its 0 lo)).take (HT.sIx ↥its ↥its hi-HT.sIx ↥its 0 lo)).toArray:=by
 let#[L,Z,F]:=SE lo hi its.toArray.size;unfold slicePick;rw[L,Z,F];simp only[sliceRange_one,pick_run,Bg]<;>rfl
def SG(K:Ac):V->Option Int->Option Int->Hp->VK->Prop:=λx lo hi H Q=>∃a xs,x=.ref a/\bL K H a xs/\∀p,H p=ae->Q (.ref p) (aL H p (.lst (mC xs lo hi)))
def xE:tI X (SG X.K):=by
 intro af s Z H x v j c lo hi sl Q I S F pl y h;let#[a,xs,rfl,B,q]:=h;cases S;let#[its,r,ht,hz]:=I.list B;let Y:=↥r;apply#["list",_,slot_list_getitem.lookup,ht.isList.typeIs,?_];apply wpAny_getItem_list_slice ht.isList F pl y .none (by simp) ?_ (by rw[Bg]<;>lia);rw[SF,<-Y];apply#[.ref ⇑s,_,I.laid (t':=s.toks) (o:=.lst (mC xs lo hi)) (λb ob q=>Af _ q) (Aj _) ?_,rfl,q _ (I.hok.fresh (Aj _))];show#[Ar (C3 xs lo hi) hz,_,0,(r.drop (HT.sIx ↥xs 0 lo)).take (HT.sIx ↥xs ↥xs hi-HT.sIx ↥xs 0 lo),Aw _ rfl]
noncomputable def kD:V->Bool
 | .non=>ab
 | .bl _=>ab
 | .int _=>ab
 | .str _=>ab
 | _=>ac
noncomputable def kE:V->V->Bool
 | .non,.non=>ab
 | .bl a,.bl b=>a==b
 | .bl a,.int b=>(if a then 1 else 0)==b
 | .int a,.bl b=>a==(if b then 1 else 0)
 | .int a,.int b=>a==b
 | .str a,.str b=>a==b
 | _,_=>ac
def SH(N:RelV y u)(S:RelV x v)(c:kD y=ab)(fx:kD x=ab):Wz A s u v (kE y x):=by
 cases y with
 | non=>
  cases N;cases x with
  | non=>cases S;show SeqAt.EqAt.same _
  | bl b=>cases S;show SeqAt.EqAt.none_bool b
  | int b=>let#[t,rfl]:=S;show SeqAt.EqAt.none_int b t
  | str b=>let#[t,rfl]:=S;show SeqAt.EqAt.none_str b t
  | _=>show absurd (show ac=ab from fx) Bc
 | bl a=>
  cases N;cases x with
  | non=>cases S;show SeqAt.EqAt.bool_none a
  | bl b=>cases S;show SeqAt.EqAt.bool_bool a b
  | int b=>let#[t,rfl]:=S;show SeqAt.EqAt.bool_int a b t
  | str b=>let#[t,rfl]:=S;show SeqAt.EqAt.bool_str a b t
  | _=>show absurd (show ac=ab from fx) Bc
 | int a=>
  let#[t',rfl]:=N;cases x with
  | non=>cases S;show SeqAt.EqAt.int_none a t'
  | bl b=>cases S;show SeqAt.EqAt.int_bool a t' b
  | int b=>let#[t,rfl]:=S;show SeqAt.EqAt.int_int a t' b t
  | str b=>let#[t,rfl]:=S;show SeqAt.EqAt.int_str a t' b t
  | _=>show absurd (show ac=ab from fx) Bc
 | str a=>
  let#[t',rfl]:=N;cases x with
  | non=>cases S;show SeqAt.EqAt.str_none a t'
  | bl b=>cases S;show SeqAt.EqAt.str_bool a t' b
  | int b=>let#[t,rfl]:=S;show SeqAt.EqAt.str_int a t' b t
  | str b=>let#[t,rfl]:=S;show SeqAt.EqAt.str_str a t' b t
  | _=>show absurd (show ac=ab from fx) Bc
 | _=>show absurd (show ac=ab from c) Bc
noncomputable def gX(x:V)(u:Ae):Bool:=match u with
 | .none=>kE .non x
 | .bool b=>kE (.bl b) x
 | .int i _=>kE (.int i) x
 | .str z _=>kE (.str z) x
 | _=>ac
def C6(r:RelV y u)(f:kD y=ab):gX x u=kE y x:=by
 cases y with
 | non=>cases r;rfl
 | bl b=>cases r;rfl
 | int i=>let#[t,rfl]:=r;rfl
 | str z=>let#[t,rfl]:=r;rfl
 | _=>show absurd (show ac=ab from f) Bc
def tJ:∀{xs:↑V} {us:↑Ae},aY xs us->xs.all kD=ab->us.any (gX x)=xs.any λy=>kE y x:=by
 intro xs us h f
 induction h with
 | nil=>rfl
 | cons r t E=>
  rw[Lk,De]at f;rw[Ge,Ge,C6 r f.1,E f.2]
theorem qQ(S:RelV x v)(fx:kD x=ab):∀{xs:↑V} {us:↑Ae},aY xs us->xs.all kD=ab->∀u∈us,Wz A s u v (gX x u)
 | _,_,.nil,_=>λu C=>by cases C
 | y::xs,u::us,.cons r t,f=>λK C=>by
  rw[Lk,De]at f;rcases Ax.mp C with rfl|C
  .rw[C6 r f.1];show SH r S f.1 fx
  .show qQ S fx t f.2 K C
noncomputable def inV(x:V)(xs:↑V):Bool:=xs.any λy=>kE y x
def C7(K:Ac)(neg:Bool):R2:=λx y H Q=>∃p xs,y=.ref p/\(bL K H p xs\/bJ K H p xs)/\kD x=ab/\xs.all kD=ab/\Q (.bl (if neg then !inV x xs else inV x xs)) H
def SI:bF X (Dr .In) (C7 X.K ac):=by
 intro af s Z H x y v u Q I S N h;let#[p,xs,rfl,hq,fx,fs,q]:=h;cases N;rcases hq with hq|hq
 .let#[its,r,pl,hz]:=I.list hq;apply SeqAt.in_listAt (gX x) pl.isList (λw hw=>qQ S fx r fs w (by simpa using hw)) #[.bl _,H,I,rfl,?_];rw[show its.toArray.any (gX x)=its.any (gX x) by simp,tJ r fs];show q
 .let#[its,r,pl,hz]:=I.tuple hq;apply SeqAt.in_tupleAt (gX x) pl (λw hw=>qQ S fx r fs w (by simpa using hw)) #[.bl _,H,I,rfl,?_];rw[show its.toArray.any (gX x)=its.any (gX x) by simp,tJ r fs];show q
def SJ:bF X (Dr .NotIn) (C7 X.K ab):=by
 intro af s Z H x y v u Q I S N h;let#[p,xs,rfl,hq,fx,fs,q]:=h;cases N;rcases hq with hq|hq
 .let#[its,r,pl,hz]:=I.list hq;apply SeqAt.notIn_listAt (gX x) pl.isList (λw hw=>qQ S fx r fs w (by simpa using hw)) #[.bl _,H,I,rfl,?_];rw[show its.toArray.any (gX x)=its.any (gX x) by simp,tJ r fs];show q
 .let#[its,r,pl,hz]:=I.tuple hq;apply SeqAt.notIn_tupleAt (gX x) pl (λw hw=>qQ S fx r fs w (by simpa using hw)) #[.bl _,H,I,rfl,?_];rw[show its.toArray.any (gX x)=its.any (gX x) by simp,tJ r fs];show q
def SM:cN X (.builtin "len") (λxs H Q=>∃p ys,xs=[.ref p]/\(bL X.K H p ys\/bJ X.K H p ys)/\Q (.int ↥ys) H):=by
 intro af s Z H xs us Q I r h;let#[p,ys,rfl,hq,q]:=h;let#[u,rfl,S]:=vals1 r;cases S;let P:=iV;rcases hq with hq|hq
 .let#[its,g,pl,hz]:=I.list hq;let Y:=↥g;show Calls.call_len_list pl.isList (by simp only[Bg]<;>lia) #[.int ↥ys,H,I.tok _,#[s.toks+1,by rw[Bg,Y]],q]
 .let#[its,g,pl,hz]:=I.tuple hq;let Y:=↥g;show Ww pl (by simp only[Bg]<;>lia) #[.int ↥ys,H,I.tok _,#[s.toks+1,by rw[Bg,Y]],q]
def SN:cN X (.builtin "len") (λxs H Q=>∃z,xs=[.str z]/\↥z<=Ap/\Q (.int ↥z) H):=by
 intro af s Z H xs us Q I r h;let#[z,rfl,hz,q]:=h;let#[u,rfl,t,rfl]:=vals1 r;let P:=iV;show len_str (by lia) #[.int ↥z,H,I.tok _,#[_,rfl],q]
def cN.or{r g:↑V->Hp->VK->Prop}(h:cN X f r)(h':cN X f g):cN X f (λxs H Q=>r xs H Q\/g xs H Q):=by
 intro af s Z H xs us Q I rs q;rcases q with q|q
 .show h af s Z H xs us Q I rs q
 .show h' af s Z H xs us Q I rs q
def SO:cN X (.type "list") (λxs H Q=>∃p ys,xs=[.ref p]/\(bL X.K H p ys\/bJ X.K H p ys)/\∀l,H l=ae->Q (.ref l) (aL H l (.lst ys))):=by
 intro af s Z H xs us Q I r h;let#[p,ys,rfl,hq,q]:=h;let#[u,rfl,S]:=vals1 r;cases S;let fin:∀(its:↑Ae),aY ys its->↥ys<=Ap->∀(h':Dz) (d:Nat),(∀b R,s.heap.get? b=aa R->h'.get? b=aa R)->
   h'.get? ⇑s=aa {cls:=.type "list",dict:=ae,data:=.seq its.toArray d,slots:=#[]}->EP X af Z Q (.ref ⇑s) {s with heap:=h'}:=λits g hz h' d kp e=>
  #[.ref ⇑s,_,I.laid (t':=s.toks) kp (Aj _) (show bZ X.prog X.w _ h' _ (.lst ys) from#[hz,its,d,g,e]),rfl,q _ (I.hok.fresh (Aj _))]
 rcases hq with hq|hq
 .let#[its,g,pl,hz]:=I.list hq;let Y:=↥g;let#[o,f,hc,n,hd]:=pl.isList;show call_list_seq p (.inl rfl) f hc hd (λh' d kp e=>fin its g hz h' d kp e) (by simp only[Bg]<;>lia)
 .let#[its,g,pl,hz]:=I.tuple hq;let Y:=↥g;let#[o,f,hc,n,hd]:=pl;show call_list_seq p (.inr rfl) f hc hd (λh' d kp e=>fin its g hz h' d kp e) (by simp only[Bg]<;>lia)
def SQ:cN X (.type "tuple") (λxs H Q=>∃p ys,xs=[.ref p]/\((bL X.K H p ys/\∀l,H l=ae->Q (.ref l) (aL H l (.tup ys)))\/(bJ X.K H p ys/\Q (.ref p) H))):=by
 intro af s Z H xs us Q I r h;let#[p,ys,rfl,h]:=h;let#[u,rfl,S]:=vals1 r;cases S;rcases h with⟨hq,q⟩|⟨hq,q⟩
 .let#[its,g,pl,hz]:=I.list hq;let Y:=↥g;apply call_tuple_list pl.isList (λh' kp=>?_) (by simp only[Bg]<;>lia);let M:Inv X af Z H {s with heap:=h'}:=I.kept (t':=s.toks) kp;let i:Inv X af Z (aL H h'.objs.size (.tup ys)) {s with heap:=h'.push {cls:=.type "tuple",data:=.seq its.toArray}}:=
   M.laid (t':=s.toks) (λb o e=>Af _ e) (Aj _) (show bZ X.prog X.w _ _ _ (.tup ys) from#[hz,its,g,Vw _ _])
  show#[.ref h'.objs.size,_,i,rfl,q _ (M.hok.fresh (Aj _))]
 .let#[its,g,pl,hz]:=I.tuple hq;show call_tuple_same pl #[.ref p,H,I,rfl,q]
def tK(K:Ac)(T:String)(x:V)(H:Hp):Prop:=match x with
 | .str _=>T = "str"
 | .int _=>T = "int"
 | .ref p=>(T = "list"/\∃xs,bL K H p xs)\/(T = "tuple"/\∃o,K.lookup p=aa o/\o.cls=.type "tuple"/\o.dict=ae)\/
   (T = "dict"/\((∃kvs,Rd H p (.dK kvs))\/∃kvs,Rd H p (.dT kvs)))\/(T = "set"/\∃S n,H p=aa (.set S n))
 | _=>False
def C8(I:Inv X af Z H s)(r:RelV x v)(ty:tK X.K T x H):
  s.TypeIs v T/\∀a,v=.ref a->∃ob,s.heap.get? a=aa ob/\ob.dict=ae:=by
 cases x with
 | str z=>
  let#[t,rfl]:=r;cases (show T = "str" from ty);show#[Wj s z t,λ_ e=>nomatch e]
 | int i=>
  let#[t,rfl]:=r;cases (show T = "int" from ty);show#[Wk s i t,λ_ e=>nomatch e]
 | ref p=>
  cases r;rcases ty with⟨rfl,xs,hq⟩|⟨rfl,o,hk,hc,hd⟩|⟨rfl,hk⟩|⟨rfl,S,n,hk⟩
  .let#[its,_,pl,_]:=I.list hq;apply#[pl.isList.typeIs,λa e=>?_];cases e;let#[o,n,e,c,hd,_]:=pl;show#[o,e,hd]
  .apply#[#[o,I.kIn p o hk,hc],λa e=>?_];cases e;show#[o,I.kIn _ o hk,hd]
  .let z:∃o,s.heap.get? p=aa o/\o.ExactDict:=by
    rcases hk with⟨kvs,hk⟩|⟨kvs,hk⟩
    .let#[_,_,_,_,o,_,_,e,ex,_]:=hk.ok I.hok;show#[o,e,ex]
    .let#[_,_,_,_,o,_,_,e,ex,_]:=hk.ok I.hok;show#[o,e,ex]
   let#[o,e,ex]:=z;apply#[#[o,e,ex.1],λa D=>?_];cases D;show#[o,e,ex.2.1]
  .let#[o,_,_,_,e,ex,_]:=I.hok p _ hk;apply#[#[o,e,ex.1],λa D=>?_];cases D;show#[o,e,ex.2.1]
 | _=>show Bs ty
def SU(K:Ac)(T:String)(r:V->↑V->Hp->VK->Prop)(to:TE):TE:=λZ H Q=>to Z H λx B=>tK K T x B/\r x [] B Q
def SW(K:Ac)(T:String)(r:V->↑V->Hp->VK->Prop)(to:TE)(t:TA):TE:=λZ H Q=>to Z H λx B=>tK K T x B/\t Z B λxs L=>r x xs L Q
variable {o e:Cm}{es:↑Cm}{to:TE}{t:TA}{name:Av}{apos cpos:Ih}{T id:String}{r:V->↑V->Hp->VK->Prop}
def C9(z:Qh T)(slot:Slot T name id)(q:Vl (.builtin id)=pure (.type "method_descriptor"))(N:fQ X id r)(f:PE X o to)(y:Hs o name X.env (El o X.env)=El o X.env:=by rfl)(b:(apos.endLine==cpos.line)=ab:=by rfl):PE X (.Call (.Attribute o name apos) [] [] cpos) (SU X.K T r to):=by
 intro af s Z H Q I h;apply wpAny_Call_method0_late y b (aV (f af s Z H _ I h) λv U E=>?_);let#[x,B,M,l,ty,W]:=E;let#[L,Y]:=C8 M l ty;show#[T,id,z,slot,q,L,Y,Mc rfl (PySem.evalArgs_none (N af U Z B x [] v [] Q M l .nil W))]
def SX(z:Qh T)(slot:Slot T name id)(q:Vl (.builtin id)=pure (.type "method_descriptor"))(N:fQ X id r)(f:PE X o to)(m:PA X (e::es) t)(y:Hs o name X.env (El o X.env)=El o X.env:=by rfl)(u:((Nx cpos (Cg (e::es) X.env)).all (λx=>!x.1)&&(Pr cpos (Mq [] X.env)).all (λx=>x.1.isSome)
  &&decide (↥(e::es)+↥([]:↑Rm)+(if ([]:↑Rm).isEmpty then 0 else 1)<30))=ab:=by rfl)(b:(apos.endLine==cpos.line)=ab:=by rfl)(F:Se X e es:=by rfl)(c:Sb X cpos es:=by rfl):
  PE X (.Call (.Attribute o name apos) (e::es) [] cpos) (SW X.K T r to t):=by
 intro af s Z H Q I h;apply wpAny_Call_method_late y u b rfl (aV (f af s Z H _ I h) λv U E=>?_);let#[x,B,M,l,ty,W]:=E;let#[L,V]:=C8 M l ty;apply#[T,id,z,slot,q,L,V,?_];let p:=m cpos af U Z B _ M W;rw[F]at p⊢;apply Mc (by change(ac||(Nx cpos (Cg es X.env)).any (·.1))=ac;rw[c]<;>rfl) (Calls.evalArgs_plain ?_);show aV p λus d Y=>by let#[vs,w,i,P,n]:=Y;show N af d Z w x vs v us Q i l P n
end
def qR(X:Cx)(id:String)(r:V->↑V->Hp->VK->Prop):Prop:=
 ∀(af:Pn) (s:Ak) (Z:St) (H:Hp) (x:V) (xs:↑V) (v:Ae) (us:↑Ae) (Q:VK),Inv X af Z H s->RelV x v->aY xs us->r x xs H Q->
  X.a (call (.builtin id) (v::us)) (EP X af Z Q) X.xe s
def aY.one:∀{x:V} {us:↑Ae},aY [x] us->∃u,us=[u]/\RelV x u:=by
 intro x us h;cases h with
 | cons r t=>cases t;show#[_,rfl,r]
theorem aY.zero:∀{us:↑Ae},aY [] us->us=[]
 | _,.nil=>rfl
def aY.dropLast(h:aY xs us):aY xs.dropLast us.dropLast:=by
 induction h with
 | nil=>show .nil
 | cons r t E=>
  cases t with
  | nil=>show .nil
  | cons q t'=>show .cons r E
theorem aY.rep(h:aY xs us):∀k:Nat,aY (Cu k xs).flatten (Cu k us).flatten
 | 0=>.nil
 | k+1=>by
  rw[Hz,Hz,Jd,Jd];show aY.append h (aY.rep h k)
def SY{q:Type}(l:↑q):l.eraseIdx (↥l-1)=l.dropLast:=by
 induction l with
 | nil=>rfl
 | cons a r E=>
  cases r with
  | nil=>rfl
  | cons b r=>
   let e:↥(a::b::r)-1=(↥(b::r)-1)+1:=by
    let L:↥(a::b::r)=↥r+2:=rfl;let Z:↥(b::r)=↥r+1:=rfl;lia
   rw[e,List.eraseIdx_cons_succ,E]
   all_goals rfl
theorem foldl_rep(its:↑Ae):∀(k:Nat) (acc:↑Ae),
  Vi (λx1 x2=>x1++x2) acc.toArray (Cu k its.toArray)=(acc++(Cu k its).flatten).toArray
 | 0,acc=>by simp
 | k+1,acc=>by
  let e:acc.toArray++its.toArray=(acc++its).toArray:=by simp
  let D:(acc++its)++(Cu k its).flatten=acc++(Cu (k+1) its).flatten:=by
   rw[Hz,Jd,Bh]
  rw[<-D,<-foldl_rep its k (acc++its),<-e,Hz,Hq]
section
variable {X:Cx}{af:Pn}{Z:St}{H:Hp}{s:Ak}{l b:Am}{xs ys zs:↑V}
def Inv.lset{its its':↑Ae}{n:Nat}{f:Array Ae->Array Ae}{t':Nat}(I:Inv X af Z H s)(B:H l=aa (.lst xs))(e:s.heap.get? l=aa (lO its.toArray n))(hf:f its.toArray=its'.toArray)(c:aY ys its')(hz:↥ys<=Ap):
  Inv X af Z (aL H l (.lst ys)) {s with heap:=s.heap.update l (Ik f),toks:=t'}:=by
 let q:=PySem.IsL.update e f;rw[hf]at q;apply I.write (x:=l) (e:=l) (by rw[B];show trivial) (.inl rfl) (λd u Y C=>(Gf s.heap (Ik f) (Ca Y)).trans C) #[_,q] ?_;show#[hz,its',_,c,q]
def Inv.lnew{t':Nat}(I:Inv X af Z H s)(c:aY ys its)(hz:↥ys<=Ap):
  Inv X af Z (aL H ⇑s (.lst ys)) {s with heap:=s.heap.push (lO its.toArray),toks:=t'}:=
 I.laid (λ_ _ q=>Af _ q) (Aj _) #[hz,its,0,c,Aw _ rfl]
def Inv.fresh(I:Inv X af Z H s):H ⇑s=ae:=I.hok.fresh (Aj _)
def Inv.lstM(I:Inv X af Z H s)(B:H l=aa (.lst xs)):↥xs<=Ap/\∃(its:↑Ae) (n:Nat),aY xs its/\↥xs=↥its/\s.heap.get? l=aa (lO its.toArray n):=by
 let#[z,its,n,r,e]:=I.hok l _ B;show#[z,its,n,r,↥r,e]
def xF{n:Nat}(h:n<=Ap):Kf n=ac:=by
 unfold Kf;show Xe (by lia)
end
section
variable {X:Cx}
def rAppend:V->↑V->Hp->VK->Prop:=λx vs H Q=>∃l xs y,x=.ref l/\vs=[y]/\H l=aa (.lst xs)/\↥xs<Ap/\Q .non (aL H l (.lst (xs++[y])))
def DA:qR X "list.append" rAppend:=by
 intro af s Z H x vs v us Q I S R h;let#[l,xs,y,rfl,rfl,B,hz,q]:=h;cases S;let#[u,rfl,ru]:=R.one;let#[z,its,n,r,hl,e]:=I.lstM B;apply Lf F.slot_list_append #[_,e,rfl] F.entry_list_append (F.args_list_append_2 _ _) (PySem.list_append l its.toArray n u (by rw[Bg];lia)) #[e,?_];apply#[.non,_,I.lset (its':=its++[u]) B e (by simp) (r.append (.cons ru .nil)) ?_,rfl,q];rw[Ag,Bz];lia
def rExtend:V->↑V->Hp->VK->Prop:=λx vs H Q=>∃l b xs zs,x=.ref l/\vs=[.ref b]/\H l=aa (.lst xs)/\H b=aa (.lst zs)/\↥xs+↥zs<=Ap/\Q .non (aL H l (.lst (xs++zs)))
def DB:qR X "list.extend" rExtend:=by
 intro af s Z H x vs v us Q I S R h;let#[l,b,xs,zs,rfl,rfl,B,a,hz,q]:=h;cases S;let#[u,rfl,ru]:=R.one;cases ru;let#[z,its,n,r,hl,e]:=I.lstM B;let#[C,t,j,m,A,D]:=I.lstM a;let hsz:its.toArray.size+t.toArray.size<=Ap:=by rw[Bg,Bg];lia
 let c:¬(!its.toArray.isEmpty&&Kf (its.toArray.size+t.toArray.size))=ab:=by
  rw[xF hsz,Bool.and_false];show Bc
 apply Lf F.slot_list_extend #[_,e,rfl] F.entry_list_extend (F.args_list_extend_2 _ _)
  (AutoSeq1.list_extend_list_list_0 l its.toArray n b t.toArray j c (by rw[Bg];lia) (by lia)) #[e,D,?_]
 apply#[.non,_,I.lset (its':=its++t) B e (by simp) (r.append m) ?_,rfl,q];rw[Ag];lia
def rPopQ:V->↑V->Hp->VK->Prop:=λx vs H Q=>∃l xs y,x=.ref l/\vs=[]/\H l=aa (.lst xs)/\xs[↥xs-1]? = aa y/\Q y (aL H l (.lst xs.dropLast))
def S4:qR X "list.pop" rPopQ:=by
 intro af s Z H x vs v us Q I S R h;let#[l,xs,y,rfl,rfl,B,O,q]:=h;cases S;let b:=R.zero;subst b;let#[z,its,n,r,hl,e]:=I.lstM B;let#[u,C,ru]:=r.get O;let a:its.toArray[its.toArray.size-1]? = aa u:=by
  change its.toArray[↥its-1]? = aa u;rw[<-Fm,<-hl];show C
 apply Lf Qd #[_,e,rfl] F.entry_list_pop (F.args_list_pop_1 _) (MeetsSeq.list_pop_last l its.toArray n u a (by rw[Bg];lia)) #[e,?_];apply#[y,_,I.lset (its':=its.dropLast) B e ?_ r.dropLast ?_,ru,q]
 .change its.toArray.eraseIdxIfInBounds (its.toArray.size-1)=its.dropLast.toArray;rw[Bg,List.eraseIdxIfInBounds_toArray,SY]
 .rw[List.length_dropLast];lia
def S5:R2:=λx y H Q=>∃l b xs zs,x=.ref l/\y=.ref b/\H l=aa (.lst xs)/\H b=aa (.lst zs)/\↥xs+↥zs<=Ap/\∀p,H p=ae->Q (.ref p) (aL H p (.lst (xs++zs)))
def S6:bF X (Fq .Add) S5:=by
 intro af s Z H x y v u Q I S N h;let#[l,b,xs,zs,rfl,rfl,B,a,hz,q]:=h;cases S;cases N;let#[z,its,n,r,hl,e]:=I.lstM B;let#[C,t,k,m,A,D]:=I.lstM a;apply PySem.P.add_list e D ?_ (by rw[Bg,Bg];lia);let j:its.toArray++t.toArray=(its++t).toArray:=by simp
 rw[j];show#[.ref _,_,I.lnew (t':=s.toks) (r.append m) (by rw[Ag];lia),rfl,q _ I.fresh]
def S7:R2:=λx y H Q=>∃l k xs,x=.ref l/\y=.int k/\H l=aa (.lst xs)/\-(2 ^ 63)<=k/\k<2 ^ 63/\↥xs*k.toNat<=Ap/\
 ∀p,H p=ae->Q (.ref p) (aL H p (.lst (Cu k.toNat xs).flatten))
def S8{q:Type}(xs:↑q)(k:Nat):(Cu k xs).flatten.length=k*↥xs:=by
 induction k with
 | zero=>simp
 | succ k E=>rw[Hz,Jd,Ag,E,Ut,Uu]
def S9:bF X (Fq .Mult) S7:=by
 intro af s Z H x y v u Q I rx ry h;let#[l,k,xs,rfl,rfl,hH,h1,h2,hz,q]:=h;cases rx;let#[t,rfl]:=ry;let#[z,its,n,r,hl,e]:=I.lstM hH;let hlen:its.toArray.size*k.toNat<=Ap:=by rw[Bg,<-hl];show hz
 let hcap:¬its.toArray.size*k.toNat > (2 ^ 63-1)/8:=by
  have:(Ap:Nat)<=(2 ^ 63-1)/8:=by decide
  lia
 let hfit:¬(!Builtin.List.listFitsIndex k)=ab:=by
  rw[fitsIndex_both h1 h2];show Bc
 let hlong:¬Kf (its.toArray.size*k.toNat)=ab:=by
  rw[xF hlen];show Bc
 let hnew:Vi (λx1 x2=>x1++x2) #[] (Cu (if its.toArray.isEmpty=ab then 0 else k.toNat) its.toArray)=(Cu k.toNat its).flatten.toArray:=by
  let f0:∀m:Nat,Vi (λx1 x2=>x1++x2) #[] (Cu m its.toArray)=(Cu m its).flatten.toArray:=λm=>by
   have:=foldl_rep its m [];rw[Ho]at this;show this
  rw[f0];cases its with
  | nil=>simp
  | cons a r'=>rw[Xa (by simp)]
 apply wpAny_binaryOp_repeat_ref (T:="list") (U:="int") ∅ #[_,e,rfl] (λs'=>Wk s' k t) noFill_list_mul F.fills_int_mul F.slot_int_rmul repeat_list F.slot_int_index.lookup
  (Lf F.slot_int_rmul (Wk s k t) F.entry_int_rmul (F.args_int_rmul_2 _ _) (int___rmul___int_list k t l its.toArray n)
   #[e,rfl,#[_,e,rfl],Lf F.slot_list_mul #[_,e,rfl] F.entry_list_mul (F.args_list_mul_2 _ _) (AutoListH.list___mul___list_int_3 l its.toArray n k t hfit hcap hlong) #[e,?_]])
 rw[hnew];show#[.ref _,_,I.lnew (t':=s.toks) (r.rep k.toNat) (by rw[S8,Nat.mul_comm];show hz),rfl,q _ I.fresh]
end
section
variable {U:Type}[DecidableEq U]
noncomputable def fW(kvs:↑(U×V))(k:U):Option V:=(kvs.find? λn=>decide (n.1=k)).map (·.2)
noncomputable def dZ(kvs:↑(U×V))(k:U)(v:V):↑(U×V):=
 if (kvs.any λn=>decide (n.1=k))=ab then kvs.map (λn=>if n.1=k then(n.1,v) else n) else kvs++[(k,v)]
noncomputable def nU(kvs:↑(U×V))(k:U):↑(U×V):=kvs.filter λn=>decide (n.1≠k)
def tL{p:U×V}{r:↑(U×V)}{k:U}(e:p.1=k):fW (p::r) k=aa p.2:=by simp[fW,Ee,e]
def tM{p:U×V}{r:↑(U×V)}{k:U}(e:¬p.1=k):fW (p::r) k=fW r k:=by simp[fW,Ee,e]
theorem DC(k:U):∀kvs:↑(U×V),(kvs.any λn=>decide (n.1=k))=(fW kvs k).isSome
 | []=>rfl
 | p::r=>by
  rw[Ge]
  by_cases e:p.1=k
  .simp only[tL e,Xd e,Bool.true_or,Option.isSome_some]
  .rw[tM e,Xe e,Ol];show DC k r
def oV(kvs:↑(U×V))(k:U)(v:V):↥(dZ kvs k v)<=↥kvs+1:=by
 unfold dZ;split
 .rw[Ab];lia
 .rw[Ag,Bq,Ju];lia
def fM.isSome_eq(r:fM o u):o.isSome=u.isSome:=by
 cases o with
 | none=>cases u with
  | none=>rfl
  | some _=>show Bs r
 | some _=>cases u with
  | none=>show Bs r
  | some _=>rfl
def fM.getD(r:fM o u)(c:RelV d d'):RelV (o.getD d) (u.getD d'):=by
 cases o with
 | none=>cases u with
  | none=>show c
  | some _=>show Bs r
 | some _=>cases u with
  | none=>show Bs r
  | some _=>show r
def KV.val{kvs:↑(U×V)}{vs:↑(U×Ae)}(r:KV kvs vs)(k:U):fM (fW kvs k) (Sz vs k):=by
 unfold KV at r
 induction r with
 | nil=>show True.intro
 | @cons p q ps qs h t E=>
  let#[L,Z]:=h
  by_cases e:p.1=k
  .let Y:q.1=k:=L.symm.trans e;let b:Sz (q::qs) k=aa q.2:=by simp[Sz,Ee,Y]
   rw[tL e,b];show Z
  .let Y:¬q.1=k:=λz=>e (L.trans z);let b:Sz (q::qs) k=Sz qs k:=by simp[Sz,Ee,Y]
   rw[tM e,b];show E
def KV.any(r:KV kvs vs)(k:U):(kvs.any λn=>decide (n.1=k))=vs.any λn=>decide (n.1=k):=by
 unfold KV at r
 induction r with
 | nil=>rfl
 | cons h t E=>rw[Ge,Ge,E,h.1]
def KV.repl(r:KV kvs vs)(k:U)(N:RelV y u):
  KV (kvs.map λn=>if n.1=k then(n.1,y) else n) (vs.map λn=>if n.1=k then(n.1,u) else n):=by
 unfold KV at r⊢
 induction r with
 | nil=>show .nil
 | @cons p q ps qs h t E=>
  rw[Bi,Bi];apply .cons ?_ E;let#[L,Z]:=h
  by_cases e:p.1=k
  .rw[Xb e,Xb (L.symm.trans e)];show#[L,N]
  .rw[Xa e,Xa (λz=>e (L.trans z))];show#[L,Z]
def KV.put(r:KV kvs vs)(k:U)(N:RelV y u):KV (dZ kvs k y) (Vm vs k u):=by
 unfold dZ Vm;rw[r.any k]
 by_cases e:(vs.any λn=>decide (n.1=k))=ab
 .rw[Xb e,Xb e];show r.repl k N
 .rw[Xa e,Xa e];show Paired.snoc r #[rfl,N]
theorem KV.length{kvs:↑(U×V)}{vs:↑(U×Ae)}(r:KV kvs vs):↥kvs=↥vs:=Ea r
def TB(kvs:↑(U×V))(k:U):↥(nU kvs k)<=↥kvs:=Gw _ _
end
def jM(r:RelV (kV k) u):(bT P w).is k u=ab:=by
 cases k with
 | inl i=>let#[t,e]:=(show ∃t,u=Value.int i t from r);subst e;show NI P w i t
 | inr x=>let#[t,e]:=(show ∃t,u=Value.str x t from r);subst e;show NJ P w x t
theorem DD:∀{ks:↑aC} {us:↑Ae},aY (ks.map kV) us->ItemsAre (bT P w) ks us
 | [],_,r=>by rw[Np]at r;cases r;show .nil
 | k::ks,_,r=>by
  rw[Bi]at r;cases r with
  | cons h t=>show .cons (jM h) (DD t)
abbrev KT(H:Hp):↑(↑aC×V)->↑(↑aC×Am×Ae)->Prop:=Gk λp q=>p.1=q.1/\H q.2.1=aa (.tup (p.1.map kV))/\RelV p.2 q.2.2
def KT.val{H:Hp}{kvs:↑(↑aC×V)}{xs:↑(↑aC×Am×Ae)}(r:KT H kvs xs)(k:↑aC):fM (fW kvs k) ((Ng xs k).map (·.2)):=by
 induction r with
 | nil=>show True.intro
 | @cons p q ps qs h t E=>
  let#[L,_,Z]:=h
  by_cases e:p.1=k
  .let U:q.1=k:=L.symm.trans e;let b:Ng (q::qs) k=aa q.2:=by simp[Ng,Ee,U]
   rw[tL e,b];show Z
  .let U:¬q.1=k:=λz=>e (L.trans z);let b:Ng (q::qs) k=Ng qs k:=by simp[Ng,Ee,U]
   rw[tM e,b];show E
def KT.repl(r:KT H kvs xs)(k:↑aC)(N:RelV y u):
  KT H (kvs.map λn=>if n.1=k then(n.1,y) else n) (xs.map (Ws k u)):=by
 induction r with
 | nil=>show .nil
 | @cons p q ps qs h t E=>
  rw[Bi,Bi];apply .cons ?_ E;let#[L,Z,F]:=h;unfold Ws
  by_cases e:p.1=k
  .rw[Xb e,Xb (L.symm.trans e)];show#[L,Z,N]
  .rw[Xa e,Xa (λz=>e (L.trans z))];show#[L,Z,F]
def KT.put(r:KT H kvs xs)(k:↑aC)(Y:H b=aa (.tup (k.map kV)))(N:RelV y u):
  KT H (dZ kvs k y) (Od xs k b u):=by
 let e:(kvs.any λn=>decide (n.1=k))=(Ng xs k).isSome:=by
  rw[DC,(r.val k).isSome_eq,Ly]
 unfold dZ Od;rw[e]
 by_cases q:(Ng xs k).isSome=ab
 .rw[Xb q,Xb q];show r.repl k N
 .rw[Xa q,Xa q];show Paired.snoc r #[rfl,Y,N]
def KT.keeps(r:KT H kvs xs)(ht:∀b ys,H b=aa (.tup ys)->l b=aa (.tup ys)):KT l kvs xs:=
 Paired.mapP r λ_ _ z=>#[z.1,ht _ _ z.2.1,z.2.2]
section
variable {P:Be}{w:Bv}{H:Hp}{h:Dz}{a:Am}
def DE(ok:cR P w H h)(e:Rd H a u):bZ P w H h a u:=e.ok ok
def mD(ok:cR P w H h)(e:Rd H a (.dK kvs)):↥kvs<=Ap/\(a==Gi)=ac/\∃vs,KV kvs vs/\h.DictOf (bT P w) a vs:=
 show bZ P w H h a (.dK kvs) from DE ok e
def DF(ok:cR P w H h)(e:H a=aa (.dK kvs)):↥kvs<=Ap/\(a==Gi)=ac/\∃vs,KV kvs vs/\h.DictOf (bT P w) a vs:=mD ok (.inl e)
def iL(ok:cR P w H h)(e:H a=aa (.tup (ks.map kV))):(Ib (bT P w)).is h ks a:=by
 let#[_,its,r,o,L,Z,n,F]:=(show bZ P w H h a (.tup (ks.map kV)) from ok a _ e);show#[o,its.toArray,n,L,Z,F,by simpa using DD r]
def nV(ok:cR P w H h)(e:Rd H a (.dT kvs)):↥kvs<=Ap/\(a==Gi)=ac/\
  ∃xs,KT H kvs xs/\h.DictOfH (Ib (bT P w)) a xs:=by
 let#[z,y,xs,r,o,es,ep,L,Z,F,T,O]:=(show bZ P w H h a (.dT kvs) from DE ok e);apply#[z,y,xs,r,o,es,ep,L,Z,F,T,λx B=>?_,O];let all:∀{l:↑(↑aC×V)} {m:↑(↑aC×Am×Ae)},KT H l m->∀x∈m,(Ib (bT P w)).is h x.1 x.2.1:=by
  intro l m q
  induction q with
  | nil=>intro x B;show nomatch B
  | @cons p q ps qs hq t E=>
   intro x B;rcases Ax.mp B with e|B
   .subst e;show iL ok (by rw[<-hq.1];show hq.2.1)
   .show E x B
 show all r x B
def qS(ok:cR P w H h)(e:H a=aa (.dT kvs)):↥kvs<=Ap/\(a==Gi)=ac/\
  ∃xs,KT H kvs xs/\h.DictOfH (Ib (bT P w)) a xs:=nV ok (.inl e)
end
def gY(H:Hp)(a:Am)(y:V)(r:Option V):Prop:=
 (∃kvs k,Rd H a (.dK kvs)/\y=kV k/\r=fW kvs k)\/∃kvs k b,Rd H a (.dT kvs)/\y=.ref b/\H b=aa (.tup (k.map kV))/\r=fW kvs k
def mE(H:Hp)(a:Am)(y v:V)(l:Hp):Prop:=
 (∃kvs k,H a=aa (.dK kvs)/\y=kV k/\↥kvs<Ap/\l=aL H a (.dK (dZ kvs k v)))\/
 ∃kvs k b,H a=aa (.dT kvs)/\y=.ref b/\H b=aa (.tup (k.map kV))/\↥kvs<Ap/\l=aL H a (.dT (dZ kvs k v))
def mE.k{H:Hp}{a:Am}{kvs:↑(aC×V)}{k:aC}{v:V}(e:H a=aa (.dK kvs))(hl:↥kvs<Ap):mE H a (kV k) v (aL H a (.dK (dZ kvs k v))):=.inl #[kvs,k,e,rfl,hl,rfl]
def mE.t{H:Hp}{a b:Am}{kvs:↑(↑aC×V)}{k:↑aC}{v:V}(e:H a=aa (.dT kvs))(D:H b=aa (.tup (k.map kV)))(hl:↥kvs<Ap):
  mE H a (.ref b) v (aL H a (.dT (dZ kvs k v))):=.inr #[kvs,k,b,e,rfl,D,hl,rfl]
section
variable {X:Cx}{af:Pn}{Z:St}{H:Hp}{s:Ak}{a:Am}{y v:V}{u r:Ae}{o:Option V}{A:Cw}{E:Ae->Ak->Prop}
def Inv.big(I:Inv X af Z H s):Gi<⇑s:=by
 let h:Em<⇑s:=(I.mod.glob.keeps I.bk).lt;show Gm ∅ h
def TC{Q:Ae->Ak->Prop}(C:A.units+1<Fu)(I:Inv X af Z H s)(g:gY H a y (aa v))(N:RelV y u)(h:∀J j,Inv X af Z H j->RelV v J->Q J j):
  Bo X.m A (Ui (.ref a) u) Q E s:=by
 rcases g with⟨kvs,k,e,B,l⟩|⟨kvs,k,b,e,B,D,l⟩
 .subst B;let#[z,hd,vs,i,x]:=mD I.hok e;let#[J,hw,V]:=fM.some_of (v:=v) (o:=Sz vs k) (by rw[l];show i.val k);show wpAny_getItem_of (jM N) x.mapOf hw (h J _ (I.tok _) V)
 .subst B;cases (show u=Value.ref b from N);let#[z,hd,xs,i,x]:=nV I.hok e;let#[J,hw,V]:=fM.some_of (v:=v) (o:=(Ng xs k).map (·.2)) (by rw[l];show i.val k);let#[p,S,O]:=Bd.mp hw;apply wpAny_getItem_heap (Gh C) (iL I.hok D) x S ?_;rw[O];show h J _ (I.tok _) V
def TF{Q:Ae->Ak->Prop}(C:A.units+1<Fu)(I:Inv X af Z H s)(g:gY H a y o)(N:RelV y u)(h:∀j,Inv X af Z H j->Q (.bool o.isSome) j):
  Bo X.m A (Dr .In u (.ref a)) Q E s:=by
 rcases g with⟨kvs,k,e,B,l⟩|⟨kvs,k,b,e,B,D,l⟩
 .subst B;let#[z,hd,vs,i,x]:=mD I.hok e;apply wpAny_in_of (jM N) hd x.mapOf ?_;rw[<-(i.val k).isSome_eq,<-l];show h _ (I.tok _)
 .subst B;cases (show u=Value.ref b from N);let#[z,hd,xs,i,x]:=nV I.hok e;apply wpAny_in_heap (Gh C) (iL I.hok D) hd x ?_;let q:=(i.val k).isSome_eq;rw[Ly]at q;rw[<-q,<-l];show h _ (I.tok _)
def TH{Q:Ae->Ak->Prop}(C:A.units+1<Fu)(I:Inv X af Z H s)(g:gY H a y o)(N:RelV y u)(h:∀j,Inv X af Z H j->Q (.bool (!o.isSome)) j):
  Bo X.m A (Dr .NotIn u (.ref a)) Q E s:=by
 rcases g with⟨kvs,k,e,B,l⟩|⟨kvs,k,b,e,B,D,l⟩
 .subst B;let#[z,hd,vs,i,x]:=mD I.hok e;apply wpAny_notIn_of (jM N) hd x.mapOf ?_;rw[<-(i.val k).isSome_eq,<-l];show h _ (I.tok _)
 .subst B;cases (show u=Value.ref b from N);let#[z,hd,xs,i,x]:=nV I.hok e;apply wpAny_notIn_heap (Gh C) (iL I.hok D) hd x ?_;let q:=(i.val k).isSome_eq;rw[Ly]at q;rw[<-q,<-l];show h _ (I.tok _)
def nW{t':Nat}(I:Inv X af Z H s)(d:qK (H a))(F:Fb a s.heap h')(m:∃q,h'.get? a=aa q)(new:bZ X.prog X.w (aL H a ob) h' a ob):
  Inv X af Z (aL H a ob) {s with heap:=h',toks:=t'}:=
 I.write (x:=a) (e:=a) d (.inl rfl) (λb q Y z=>(F.2 b Y).trans z) m new
def DG(z:↥kvs<=Ap)(hd:(a==Gi)=ac)(i:KV kvs vs)(x:h'.DictOf (bT P w) a vs):
  bZ P w l h' a (.dK kvs):=#[z,hd,vs,i,x]
def TJ{Q:Unit->Ak->Prop}(C:A.units+1<Fu)(I:Inv X af Z H s)(g:mE H a y v L)(N:RelV y u)(R:RelV v r)(h:∀j,Inv X af Z L j->Q () j):
  Bo X.m A (Wr (.ref a) u r) Q E s:=by
 rcases g with⟨kvs,k,e,B,l,f⟩|⟨kvs,k,b,e,B,D,l,f⟩
 .subst B f;let#[z,hd,vs,i,x]:=DF I.hok e;let hz:↥vs<=Ap:=by rw[<-↥i];show z
  let hl:↥(dZ kvs k v)<=Ap:=by have:=oV kvs k v;lia
  apply wpAny_setItem_pairs (hsz:=hz) (jM N) x λh' p F=>h _ ?_;let d:∃q,h'.get? a=aa q:=let #[q,_,_,hq,_]:=p;#[q,hq];show nW I (by rw[e];show True.intro) F d (DG hl hd (i.put k R) p)
 .subst B f;cases (show u=Value.ref b from N);let#[z,hd,xs,i,x]:=qS I.hok e;let hz:↥xs<=Ap:=by rw[<-Ea i];show z
  let hl:↥(dZ kvs k v)<=Ap:=by have:=oV kvs k v;lia
  apply wpAny_setItem_heap (hsz:=hz) (Gh C) (iL I.hok D) x λh' p F=>h _ ?_;let#[q,es,ep,hq,Y,K,T,_,O]:=p;apply nW I (by rw[e];show True.intro) F #[q,hq] #[hl,hd,_,(i.put k D R).keeps λc ys t=>?_,q,es,ep,hq,Y,K,T,O];rw[bD (sS t e (λz=>nomatch z))];show t
end
section
variable {X:Cx}{af:Pn}{Z:St}{H:Hp}{s:Ak}{a:Am}{kvs:↑(aC×V)}{k:aC}{u:Ae}{A:Cw}{E:Ae->Ak->Prop}
def TL{Q:Ae->Ak->Prop}(I:Inv X af Z H s)(e:Rd H a (.dK kvs))(h:∀t j,Inv X af Z H j->Q (.int ↥kvs t) j):Bo X.m A (call (.builtin "len") [.ref a]) Q E s:=by
 let#[z,hd,vs,i,x]:=mD I.hok e;apply call_len_dict hd x (by rw[<-↥i];rw[Le]at z;lia) ?_;rw[<-↥i];show h _ _ (I.tok _)
end
def TM(I:Inv X af Z H s)(g:gY H a y o):s.TypeIs (.ref a) "dict":=by
 rcases g with⟨kvs,k,e,_,_⟩|⟨kvs,k,b,e,_,_,_⟩
 .let#[_,_,vs,_,x]:=mD I.hok e;show x.typeIs
 .let#[_,_,xs,_,x]:=nV I.hok e;show x.typeIs
def DH(h:Dz)(Y:Gi<h.objs.size):bZ P w H (h.push {cls:=.type "dict",data:=.dict #[]}) h.objs.size (.dK []):=
 #[Cr _,beq_eq_false_iff_ne.mpr (Ca (Bl Y)),[],.nil,Heap.DictOf.new h]
def DI(h:Dz)(Y:Gi<h.objs.size):bZ P w H (h.push {cls:=.type "dict",data:=.dict #[]}) h.objs.size (.dT []):=
 #[Cr _,beq_eq_false_iff_ne.mpr (Ca (Bl Y)),[],.nil,_,#[],0,Aw _ rfl,#[rfl,rfl,rfl],rfl,rfl,Fh]
def TN:TE:=λ_ H Q=>∀p,H p=ae->Q (.ref p) (aL H p (.dK []))
def TQ:TE:=λ_ H Q=>∀p,H p=ae->Q (.ref p) (aL H p (.dT []))
section
variable {X:Cx}{pos:Ih}
def TR:PE X (.Dict [] [] pos) TN:=λaf s Z H Q I h=>
 Tj #[.ref ⇑s,_,I.laid (a:=⇑s) (o:=.dK []) (t':=s.toks) (λ_ _ q=>Af _ q) (Aj _) (DH s.heap I.big),rfl,h _ (I.hok.fresh (Aj _))]
def TU:PE X (.Dict [] [] pos) TQ:=λaf s Z H Q I h=>
 Tj #[.ref ⇑s,_,I.laid (a:=⇑s) (o:=.dT []) (t':=s.toks) (λ_ _ q=>Af _ q) (Aj _) (DI s.heap I.big),rfl,h _ (I.hok.fresh (Aj _))]
end
def tN:↑(TE×TE)->St->Hp->(↑(V×V)->Hp->Prop)->Prop
 | [],_,H,Q=>Q [] H
 | (tk,j)::r,Z,H,Q=>tk Z H λx H1=>j Z H1 λy L=>tN r Z L λps R=>Q ((x,y)::ps) R
abbrev VV:↑(V×V)->↑(Ae×Ae)->Prop:=Gk λp q=>RelV p.1 q.1/\RelV p.2 q.2
def tO(X:Cx)(pos:Ih)(keys:↑(Option Cm))(b:↑Cm)(f:↑(TE×TE)):Prop:=
 ∀(af:Pn) (s:Ak) (Z:St) (H:Hp) (Q:↑(V×V)->Hp->Prop),Inv X af Z H s->tN f Z H Q->
  X.a (evalPairs (pairTrees keys b X.env pos)) (λvs j=>∃ps l,Inv X af Z l j/\VV ps vs/\Q ps l) X.xe s
def DJ:tO X pos [] [] []:=λaf s Z H Q I h=>pairTrees_nil_walk #[[],H,I,.nil,h]
def DK(hk:PE X k tk)(c:PE X v j)(G:tO X pos ks vs f):
  tO X pos (aa k::ks) (v::vs) ((tk,j)::f):=λaf s Z H Q I h=>
 pairTrees_cons_walk (aV (hk af s Z H _ I h) λu U #[x,H1,M,S,W]=>aV (c af U Z H1 _ M W) λF d #[y,L,J,N,n]=>
  aV (G af d Z L _ J n) λws K Y=>by let#[ps,R,w,i,V]:=Y;show#[(x,y)::ps,R,w,.cons #[S,N] i,V])
noncomputable def qT(kvs more:↑(aC×V)):↑(aC×V):=more.foldl (λacc n=>dZ acc n.1 n.2) kvs
def KV.merge:∀{more:↑(aC×V)} {rs:↑(aC×Ae)} {kvs:↑(aC×V)} {vs:↑(aC×Ae)},KV more rs->KV kvs vs->KV (qT kvs more) (merged vs rs):=by
 intro more rs kvs vs r;unfold KV at r
 induction r generalizing kvs vs with
 | nil=>intro q;show q
 | @cons p q ps qs h t E=>
  intro l;let e:KV (dZ kvs p.1 p.2) (Vm vs q.1 q.2):=by
   have:=l.put p.1 h.2;rw[<-h.1];show this
  show E e
theorem DL:∀(more kvs:↑(aC×V)),↥(qT kvs more)<=↥kvs+↥more
 | [],kvs=>by change ↥kvs<=↥kvs+0;lia
 | p::r,kvs=>by
  let L:=DL r (dZ kvs p.1 p.2);let Z:=oV kvs p.1 p.2;change(qT (dZ kvs p.1 p.2) r).length<=_;rw[Bq];lia
theorem DM:∀{kvs:↑(aC×V)} {ws:↑(Ae×Ae)},VV (kvs.map λn=>(kV n.1,n.2)) ws->∃rs,Carries (bT P w) ws rs/\KV kvs rs
 | [],_,r=>by rw[Np]at r;cases r;show#[[],True.intro,.nil]
 | p::kvs,_,r=>by
  rw[Bi]at r;cases r with
  | @cons a b as bs h t=>
   let#[rs,c,q]:=DM (P:=P) (w:=w) t;let#[S,j]:=b;show#[(p.1,j)::rs,#[jM h.1,rfl,c],.cons #[rfl,h.2] q]
def TV(f:↑(TE×TE)):TE:=λZ H Q=>∀p,H p=ae->tN f Z (aL H p (.dK [])) λps L=>L p=aa (.dK [])/\∃kvs:↑(aC×V),ps=kvs.map (λn=>(kV n.1,n.2))/\↥kvs<=15/\Q (.ref p) (aL L p (.dK (qT [] kvs)))
def TX(h:tO X pos keys b f)(G:keys.all (·.isSome)=ab)(hl:↥keys=↥b)(v:keys≠[])(g:↥keys<=15):PE X (.Dict keys b pos) (TV f):=by
 intro af s Z H Q I q;let D:=I.hok.fresh (Aj ⇑s);let M:=I.laid (a:=⇑s) (o:=.dK []) (h':=s.heap.push {cls:=.type "dict",data:=.dict #[]}) (t':=s.toks) (λ_ _ q=>Af _ q) (Aj _) (DH s.heap I.big);apply wpAny_Dict_walk (knd:=bT X.prog X.w) G hl v g (aV (h af _ Z _ _ M (q _ D)) λws d E=>?_);let#[ps,Y,J,i,e,kvs,ep,r,n]:=E;subst ep;let#[rs,c,rk]:=DM (P:=X.prog) (w:=X.w) i;let#[z,hd,j,l,x]:=DF J.hok e;cases l;apply#[rs,c,x,λh' p F=>#[.ref ⇑s,_,?_,rfl,n]];let hz:↥(qT [] kvs)<=Ap:=by
  let L:=DL kvs [];rw[Ju]at L;rw[Le];lia
 let m:∃q,h'.get? ⇑s=aa q:=let #[q,_,_,hq,_]:=p;#[q,hq];show nW J (by rw[e];show True.intro) F m (DG hz hd (rk.merge .nil) p)
section
variable {X:Cx}{af:Pn}{Z:St}{H:Hp}{s:Ak}{a:Am}{y d:V}{u r:Ae}{o:Option V}{A:Cw}{E:Ae->Ak->Prop}
def DN{Q:Ae->Ak->Prop}(C:A.units+1<Fu)(I:Inv X af Z H s)(g:gY H a y o)(N:RelV y u)(h:∀J j,Inv X af Z H j->RelV (o.getD .non) J->Q J j):
  Bo X.m A (call (.builtin "dict.get") [.ref a,u]) Q E s:=by
 rcases g with⟨kvs,k,e,B,l⟩|⟨kvs,k,b,e,B,D,l⟩
 .subst B;let#[z,hd,vs,i,x]:=mD I.hok e;apply Kb Mh x.typeIs Lx (PySem.F.args_dict_get_2 _ _) (meets_dict_get (bT X.prog X.w) a (jM N) hd) #[_,x.mapOf,h _ _ (I.tok _) ?_];rw[l];show(i.val k).getD rfl
 .subst B;cases (show u=Value.ref b from N);let#[z,hd,xs,i,x]:=nV I.hok e;apply Kb Mh x.typeIs Lx (PySem.F.args_dict_get_2 _ _) (meetsH_dict_get (Ib (bT X.prog X.w)) a b hd) #[Gh C,k,xs,iL I.hok D,x,h _ _ (I.tok _) ?_];rw[l];show(i.val k).getD rfl
def DO{Q:Ae->Ak->Prop}(C:A.units+1<Fu)(I:Inv X af Z H s)(g:gY H a y o)(N:RelV y u)(c:RelV d r)(h:∀J j,Inv X af Z H j->RelV (o.getD d) J->Q J j):
  Bo X.m A (call (.builtin "dict.get") [.ref a,u,r]) Q E s:=by
 rcases g with⟨kvs,k,e,B,l⟩|⟨kvs,k,b,e,B,D,l⟩
 .subst B;let#[z,hd,vs,i,x]:=mD I.hok e;apply Kb Mh x.typeIs Lx (PySem.F.args_dict_get_3 _ _ _) (meets_dict_get_default (bT X.prog X.w) a (jM N) hd r) #[_,x.mapOf,h _ _ (I.tok _) ?_];rw[l];show(i.val k).getD c
 .subst B;cases (show u=Value.ref b from N);let#[z,hd,xs,i,x]:=nV I.hok e;apply Kb Mh x.typeIs Lx (PySem.F.args_dict_get_3 _ _ _) (meetsH_dict_get_default (Ib (bT X.prog X.w)) a b hd r) #[Gh C,k,xs,iL I.hok D,x,h _ _ (I.tok _) ?_];rw[l];show(i.val k).getD c
end
end L2
namespace Att
open PySem.W PySem.Calls
def TY:∀(ns:↑Int) (vs:↑Ae),WellAll P h vs (ns.map WData.int)->Vx vs ns:=by
 intro ns
 induction ns with
 | nil=>
  intro vs w;rw[Np]at w;cases w;show .nil
 | cons n ns E=>
  intro vs w;rw[Bi]at w;cases w with
  | cons a b=>
   cases a;show .cons _ _ (E _ b)
def TZ{l:OpenLaw}{n:Nat}(D:l.most=aa n){P:Ts}{h:Dz}{args:↑WData}{vals:↑Ae}(b:l.row.toRowW.claim.pre args=ab)(e:WellAll P h vals args):
  ∃a vs ns,vals=[Value.ref a]/\args=[WData.list (ns.map WData.int)]/\h.get? a=aa {cls:=.type "list",data:=.seq vs.toArray}/\Vx vs ns/\↥ns<=n:=by
 let J:WShape.hasAll [] args [.list .int]=ab:=(pre_splitW b).1;let hc:l.pre.holds [] {args:=args} = ab:=(pre_splitW b).2;let#[d,r,rfl,L,Z]:=hasAllW_cons J;obtain rfl:=hasAllW_nil Z;let#[xs,rfl,F]:=hasW_list L;let#[ns,rfl]:=items_int F;let Y:↥ns<=n:=by
  unfold OpenLaw.pre at hc;let T:(WTm.not (.lt (.lit (.int (n:Int))) (.len (.arg 0)))).holds [] {args:=[.list (ns.map .int)]} = ab:=by
   let T:=(holds_andW hc).1;rw[D]at T;show T
  let O:=condW_of T (w_not (w_lt w_lit (w_len_list (w_arg rfl))));rw[Ab]at O;apply Ss λq=>?_;let W:(n:Int)<((↥ns:Nat):Int):=by lia
  first
   | (rw[Xd W]at O;exact absurd O ∅)
   | (simp at O;lia)
 cases e with
 | cons u y=>
  cases y;cases u with
  | list f G=>show#[_,_,ns,rfl,rfl,f,TY ns _ G,Y]
def T6(l:OpenLaw)(args:↑WData):l.row.toRowW.claim.post args (.bool ab) args=ab:=
 postW_of (r:=l.row.toRowW) (X:=(ab==ab))
  (show WShape.has [] (.bool ab) .bool=ab by first|rfl|decide|simp[WShape.has,WShape.arms,WShape.armsAll])
  (show(WTm.eq .res (.lit (.bool ab))).value [] {args:=args,res:=aa (.bool ab),after:=args} = aa (.bool (ab==ab)) from w_eq_bool (w_res rfl) w_lit) rfl
def attach_call{l:OpenLaw}{n:Nat}{q:Be}{loose:↑Av}{XP:(Av->Option Ae)->Dz->Prop}{YP:Bv->Dz->Prop}{d:DefRec}(P:l.most=aa n)(C:d.params.defaults=[])(call:∀(w:Bv) (s₀ y:Ak) (mg M:Av->Option Ae) (fa:Am) (o:Nl) (p m z:Ae) (a:Am) (vs:↑Ae) (ns:↑Int),
   Ground q loose [] XP w s₀ mg M y.heap->YP w y.heap->
   y.heap.get? fa=aa o->o.data=.func (docDef d.name d.params d.body d.scope p m z)->y.heap.CodeRec m d.name->mg d.name=aa (.ref fa)->
   y.heap.get? a=aa {cls:=.type "list",data:=.seq vs.toArray}->Vx vs ns->↥ns<=n->y.gens = #[]->
   Mf (Cy l.prog w) Ta (.call (.ref fa) #[[.ref a],[]]) (λr j=>r=.ok (.ret (.bool ab))/\OldK y.heap j.heap/\j.os=y.os/\Qi j.gens) y):
  WalkO q loose XP YP l.row.toRowW d [] (λf vs=>Vb f vs):=by
 intro w s₀ y mg M G Y fa o p m z dV kV D hd B E I hg args vals as b g h e B4;obtain rfl:dV=.none:=Dflts.none E C;obtain rfl:kV=.none:=Dflts.noKw E;let#[a,vs,ns,rfl,rfl,t,c,A]:=TZ P b e;apply enter_call (Qf (call w s₀ y mg M fa o p m z a vs ns G Y D (fd_plain hd) B I t c A hg) λr j hq=>?_);let#[rfl,Z,F,T]:=hq;show#[.inl #[.bool ab,.bool ab,[],rfl,λ_=>rfl,.bool ab,T6 l _,λ_=>#[List.Pairwise.nil,λ_ N=>(nomatch N)]],Z,F,T]
end Att
namespace L2
def T7:∀{vs:↑Ae} {ns:↑Int},Vx vs ns->aY (ns.map V.int) vs:=by
 intro vs ns h
 induction h with
 | nil=>show .nil
 | cons n t h E=>show .cons #[t,rfl] E
def tP(H:Hp):Prop:=∀b,H b=ae\/∃o xs,H b=aa (.frz o (.lst xs))
def T8{P:Be}{w:Bv}{K:Ac}{mg mb:Av->Option Ae}{CX:kB}{k:Nat}{fa a:Am}{fd:Fs}{x:Av}{sp:Sp}{s1:Ak}{vs:↑Ae}{ns:↑Int}(KX:K.In s1.heap)(hns:s1.heap.Ns Em mg)(hb:s1.heap.Ns Wo mb)(hbb:∀x:Av,x≠"__name__"->mb x=Cz x)(hlim:s1.heap.NoLimit)(hg:s1.gens = #[])(ha:s1.heap.get? a=aa (lO vs.toArray))(hi:Vx vs ns)(hl:↥ns<=Ap)(hr:cI k Ta)(F:∀base:Dz,K.In base->base.Ns Em mg->iW P w K mg base CX k fa fd [x] sp)(hbind:∀(s:Ak) (u:Ae),Ul s fd #[[u],[]] [(x,u)])(hsp:∀H:Hp,tP H->bL K H a (ns.map V.int)->sp [.ref a] H (λv _=>v=.bl ab) λ_ _ _=>False)(hCX:∀H e s',CX [] H s1 (λ_ _ _=>False) e s'->False):
  Mf (Cy P w) Ta (.call (.ref fa) #[[.ref a],[]]) (λr s'=>r=.ok (.ret (.bool ab))/\OldK s1.heap s'.heap/\s'.os=s1.os/\Qi s'.gens) s1:=by
 let rv:=T7 hi;let lenV:=↥hi;let core:∀H:Hp,tP H->bL K H a (ns.map V.int)->cR P w H s1.heap->(∀b,H b≠ae->b=a)->(H a≠ae->K.lookup a=ae)->
   Mf (Cy P w) Ta (.call (.ref fa) #[[.ref a],[]]) (λr s'=>r=.ok (.ret (.bool ab))/\OldK s1.heap s'.heap/\s'.os=s1.os/\Qi s'.gens) s1:=by
  intro H hO hS hok hA hK;let base_of:∀{b:Am} {o:Nl},s1.heap.get? b=aa o->H b=ae->(kT s1.heap H).get? b=aa o:=λe n=>NL e n;let noA:∀{b:Am} {o:Nl} {es:Array Eu} {ep:Nat},s1.heap.get? b=aa o->o.data=.dict es ep->H b=ae:=λ{b o es ep} e d=>by
   cases q:H b with
   | none=>rfl
   | some u=>
    let e':b=a:=hA b (by rw[q];simp);subst e';rw[ha]at e;cases e;let d':Data.seq vs.toArray _=Data.dict es ep:=d;cases d'
  let nsK:∀{b:Am} {m:Av->Option Ae},s1.heap.Ns b m->(kT s1.heap H).Ns b m:=λ{b m} #[o,es,ep,e,d,r]=>#[o,es,ep,base_of e (noA e d),d,r]
  let hKb:K.In (kT s1.heap H):=λb o e=>base_of (KX b o e) (by
   cases q:H b with
   | none=>rfl
   | some u=>
    let e':b=a:=hA b (by rw[q];simp);subst e';rw[hK (by rw[q];simp)]at e;cases e)
  let hM:Mod K mg (kT s1.heap H):=#[hKb,nsK hns,#[mb,nsK hb,hbb],let #[mc,h1,h2]:=hlim;#[mc,nsK h1,h2]];let e0:nS P w K mg (kT s1.heap H) Ta [] s1 H:=#[rfl,hM,λb o e=>NM e,Ry (NK _ _),trivial,λb hb=>absurd (show b∈([]:↑Am) from hb) (by simp),hok,.of_eq hg];apply Qf ((F _ hKb (nsK hns)).run Ta [] s1 H #[[.ref a],[]] [.ref a] [.ref a] _ _ hr e0 (hbind s1 (.ref a)) (.cons rfl .nil) (hsp H hO hS)) λr s' h=>?_;cases r with
  | error e=>show(hCX H e s' h).elim
  | ok fl=>
   cases fl with
   | next=>show Bs h
   | brk=>show Bs h
   | cont=>show Bs h
   | ret u=>
    let#[v,H',os,bare,un,hok',r',q]:=h;let q':v=.bl ab:=q;subst q';obtain rfl:u=Value.bool ab:=r';apply#[rfl,OldK.of_keep λb o e=>?_,os,bare];cases q:H b with
    | none=>show un.keep b o e q (by intro z;show absurd (show b∈([]:↑Am) from z) (by simp)) (by simp)
    | some u=>
     rcases hO b with z|⟨ob,xs,z⟩
     .rw[q]at z;cases z
     .let z2:=un.frzs b ob _ z;let#[e1,_]:=hok b _ z;let#[e2,_]:=hok' b _ z2;rw[e]at e1;cases e1;show e2
 cases hk:K.lookup a with
 | some o=>
  let e:=KX a o hk;rw[ha]at e;cases e;apply core (λ_=>ae) (λ_=>.inl rfl) (.inr #[_,vs.toArray,_,hk,rfl,rfl,rfl,by rw[Bg,lenV];show hl,by simpa using rv]) (λb u z=>by let z':(ae:Option HO)=aa u:=z;cases z') (λb z=>absurd rfl z) λz=>absurd rfl z
 | none=>
  apply core (λb=>if b=a then aa (.frz (lO vs.toArray) (.lst (ns.map V.int))) else ae) (λb=>?_) (.inl (.inr #[(lO vs.toArray),Xb rfl])) (λb u z=>?_) (λb z=>?_) λ_=>hk
  .by_cases hb:b=a
   .show .inr #[_,_,Xb hb]
   .show .inl (Xa hb)
  .by_cases hb:b=a
   .let z':=(Xb hb).symm.trans z;cases z';subst hb;show#[ha,by rw[Ab];show hl,vs,_,rv,ha]
   .let z':=(Xa hb).symm.trans z;cases z'
  .by_cases hb:b=a
   .show hb
   .show absurd (Xa hb) z
def T9{l:Rr}{n k:Nat}{q:Be}{loose:↑Av}{XP:(Av->Option Ae)->Dz->Prop}{YP:Bv->Dz->Prop}{d:DefRec}{K:Ts->Ac}{CX:Bv->kB}{sp:Bv->Sp}{x:Av}(P:l.most=aa n)(R:n<=Ap)(C:d.params.defaults=[])(J:cI k Ta)(Z:∀(w:Bv) (h:Dz),YP w h->(K w.params).In h)(F:∀(w:Bv) (mg:Av->Option Ae) (fa:Am) (h:Dz),(K w.params).In h->h.Ns Em mg->mg d.name=aa (.ref fa)->
   ∃fd:Fs,(∀(s:Ak) (u:Ae),Ul s fd #[[u],[]] [(x,u)])/\
    ∀base:Dz,(K w.params).In base->base.Ns Em mg->iW l.prog w (K w.params) mg base (CX w) k fa fd [x] (sp w))(L:∀(w:Bv) (H:Hp) (a:Am) (ns:↑Int),↥ns<=n->tP H->bL (K w.params) H a (ns.map V.int)->sp w [.ref a] H (λv _=>v=.bl ab) λ_ _ _=>False)(r:∀(w:Bv) (H:Hp) (s:Ak) (e:Ae) (M:Ak),CX w [] H s (λ_ _ _=>False) e M->False):
  PySem.W.WalkO q loose XP YP l.row.toRowW d [] (λf vs=>Vb f vs):=by
 apply Att.attach_call P C λw s₀ y mg A fa o p m z a vs ns G Y D hd B I t c N hg=>?_;let E:=Z w _ Y;let#[fd,j,Q]:=F w mg fa _ E G.T.g I;show T8 E G.T.g G.T.b G.T.builtins G.T.nolimit hg t c (Ar N R) J Q j (λH i O=>L w H a ns N i O) λH e M=>r w H y e M
abbrev eW:kB:=λ_ _ _ _ _ _=>False
abbrev E0:XK:=λ_ _ _=>False
def oW:l9 eW X E0:=λ_ _ _ _ _ _ _ h=>h.elim
structure iY(K:Ac)(x qual:Av)(st:Kx)(f:Am)(fd:Fs):Prop where
 ex:∃(oc:Ae) (od:Option Am) (kV doc pm:Ae) (an:Option Am) (cdv ct:Ae) (osl:Array (Option Ae)),
  fd=Gv x qual (iU st) (gC st) (dR st) .none kV doc pm an cdv ct/\K.lookup f=aa #[oc,od,.func fd,osl]/\Lw K cdv qual=ab
 kp:Hf K (.ref f)=ab
section
variable {P:Be}{w:Bv}{K:Ac}{mg:Av->Option Ae}{base:Dz}
def iY.ok{x d:Av}{st:Kx}{f:Am}{fd:Fs}{N ps:↑Av}{k:Nat}{sp:Sp}(F:iY K x d st f fd)(S:mB N ps (dR st))(len:∀vs H Q E,sp vs H Q E->↥vs=↥ps)(c:∀(i:Ae) (A:Cw) (outer:↑Env) (s:Ak) (H:Hp) (vs:↑V) (Q:VK) (E:XK),cI k (A.deeper (Na d (dR st) ⇑s f i))->sp vs H Q E->
   ∃t,fN (kC eW P w K mg base N d (dR st) f i A outer s H E).nox (gC st) t/\t {nx:=λ_ l=>Q .non l,rt:=Q} (start N vs) H):iW P w K mg base eW (k+1) f fd ps sp:=by
 let#[a,g,kV,z,p,e,i,ct,b,rfl,r,B]:=F.ex;apply RG r B S len λA outer s H vs Q E G L=>?_;let#[t,h,q]:=c i A outer s H vs Q E G L;show#[t,h.nox,q]
def iY.binds{x d:Av}{st:Kx}{f:Am}{fd:Fs}{ps:↑Av}(F:iY K x d st f fd)(h:∀(kV z p:Ae) (e:Option Am) (i ct:Ae) (us:↑Ae),↥us=↥ps->bindArgs (Gv x d (iU st) (gC st) (dR st) .none kV z p e i ct) #[us,[]]=pure (ps.zip us)):Binds K fd ps []:=by
 let#[a,g,kV,z,p,e,i,ct,b,rfl,r,B]:=F.ex;show .all (h kV z p e i ct)
def oX{x d:Av}{st:Kx}{f:Am}{a:Ae}{g e:Option Am}{b:Array (Option Ae)}{kV z p i ct:Ae}(l:K.lookup f=aa #[a,g,.func (Gv x d (iU st) (gC st) (dR st) .none kV z p e i ct),b])(c:Lw K i d=ab)(k:Hf K (.ref f)=ab):iY K x d st f (Gv x d (iU st) (gC st) (dR st) .none kV z p e i ct):=#[#[a,g,kV,z,p,e,i,ct,b,rfl,l,c],k]
end
def DP{k:Nat}(G:cI k A):A.units+1<Fu:=Gz (Nm (by decide:1<=64) _) G.units
section
variable {X:Cx}
def UA:cN X (.builtin "len") (λxs H Q=>∃a kvs,xs=[V.ref a]/\H a=aa (.dK kvs)/\Q (.int ↥kvs) H):=by
 intro af s Z H xs us Q I r h;let#[a,kvs,rfl,T,q]:=h;let#[u,rfl,ru]:=vals1 r;cases ru;show TL I (.inl T) λt j c=>#[.int ↥kvs,H,c,#[t,rfl],q]
end
def UB{A B:Prop}(h:B):if ac=ab then A else B:=by
 rw[Xa Bc];show h
def UC{A B:Prop}(h:A):if ab=ab then A else B:=by
 rw[Xb rfl];show h
end L2
set_option maxHeartbeats 4000000
namespace L2
structure kF where
 cl:↑(Av×Am)
 s:Ak
 H:Hp
 fp:↑Am
 C:Am
noncomputable def eD(X:Cx)(sc:Mb)(N':↑Av)(B:kF):Cx where
 prog:=X.prog
 w:=X.w
 K:=X.K
 mg:=X.mg
 base:=X.base
 A:=X.A
 N:=N'
 s₀:=B.s
 H₀:=B.H
 env:=compEnvC sc B.cl B.C X.env
 outer:=X.stack
 stack:=X.stack
 ex:=B.fp
 fn:=λ_=>ac
 calm:=X.calm
 pn:=[]
 xe:=λ_ _=>False
noncomputable def gE(cells:↑(Av×Am)):↑(Av×Lg)->↑(Av×Am)->↑(Av×Am)
 | [],acc=>acc
 | (n,k)::r,acc=>if k=.free then gE cells r ((n,(cells.lookup n).getD 0)::acc) else gE cells r acc
def DQ(h:∀y∈scope.names,y.2=.free->∃c,env.cells.lookup y.1=aa c):Wn scope env=pure (gE env.cells scope.names []):=by
 let key:∀(names:↑(Av×Lg)) (acc:↑(Av×Am)),(∀y∈names,y.2=.free->∃c,env.cells.lookup y.1=aa c)->
   (forIn names acc λ(x:Av×Lg) (cs:↑(Av×Am))=>(if (x.2==NameKind.free)=ab then(do let a <-cellOf env x.1;pure (ForInStep.yield ((x.1,a)::cs))) else pure (ForInStep.yield cs):Uc (ForInStep (↑(Av×Am)))))=(pure (gE env.cells names acc):Uc _):=by
  intro names
  induction names with
  | nil=>intro acc _;rfl
  | cons y r ih=>
   intro acc hy;let#[n,k]:=y;rw[Lq]
   by_cases hk:k=.free
   .subst hk;let#[c,hc]:=hy (n,.free) Bw rfl;let e1:cellOf env n=(pure c:Uc Am):=by
     unfold cellOf;rw[show env.cells.lookup n=aa c from hc]
    simp only[beq_self_eq_true,if_true,e1,pure_bind];rw[ih _ λz hz=>hy z (Bp _ hz)];simp only[gE,if_true];rw[show env.cells.lookup n=aa c from hc];rfl
   .let hb:(k==NameKind.free)=ac:=by simpa using hk
    simp only[hb,Fz,if_false,pure_bind];rw[ih _ λz hz=>hy z (Bp _ hz)];simp only[gE,Xa hk]
 let e:Wn scope env=((forIn scope.names [] λ(x:Av×Lg) (cs:↑(Av×Am))=>(if (x.2==NameKind.free)=ab then(do let a <-cellOf env x.1;pure (ForInStep.yield ((x.1,a)::cs))) else pure (ForInStep.yield cs):Uc (ForInStep (↑(Av×Am)))))>>=λcs=>pure cs):=by
  unfold Wn;rfl
 rw[e,key _ _ h,pure_bind]
theorem xG:∀{names:↑(Av×Lg)} {acc:↑(Av×Am)},(∀y∈names,y.2=.free->∃c,cells.lookup y.1=aa c)->
  (∀x c,acc.lookup x=aa c->cells.lookup x=aa c)->(gE cells names acc).lookup x=aa c->cells.lookup x=aa c
 | [],acc,_,T,e=>T x c e
 | (n,k)::r,acc,O,T,e=>by
  let G:∀y∈r,y.2=.free->∃c,cells.lookup y.1=aa c:=λz hz=>O z (Bp _ hz);unfold gE at e
  by_cases hk:k=.free
  .subst hk;rw[Xb rfl]at e;let#[d,hd]:=O (n,.free) Bw rfl;let hd:cells.lookup n=aa d:=hd;apply xG G (λz b q=>?_) e;rw[Eh]at q
   by_cases hz:z=n
   .subst hz;rw[beq_self_eq_true,hd]at q;rw[hd];show q
   .have:(z==n)=ac:=beq_eq_false_iff_ne.mpr hz;rw[this]at q;show T z b q
  .rw[Xa hk]at e;show xG G T e
theorem tQ:∀{names:↑(Av×Lg)} {acc:↑(Av×Am)},((x,NameKind.free)∈names\/∃c,acc.lookup x=aa c)->∃c,(gE cells names acc).lookup x=aa c
 | [],acc,h=>by
  rcases h with h|h
  .cases h
  .show h
 | (n,k)::r,acc,h=>by
  unfold gE
  by_cases hk:k=.free
  .subst hk;rw[Xb rfl];apply tQ ?_
   by_cases B:x=n
   .subst B;right;rw[Eh,beq_self_eq_true];show#[_,rfl]
   .let Y:(x==n)=ac:=beq_eq_false_iff_ne.mpr B;rcases h with h|⟨c,h⟩
    .rcases Ax.mp h with e|h
     .cases e;show absurd rfl B
     .show .inl h
    .right;rw[Eh,Y];show#[c,h]
  .rw[Xa hk];apply tQ ?_;rcases h with h|h
   .rcases Ax.mp h with e|h
    .cases e;show absurd rfl hk
    .show .inl h
   .show .inr h
structure nX(N':↑Av)(sc osc:Mb):Prop where
 kind:sc.kind=.function
 nd:N'.Nodup
 nocell:∀y∈sc.names,y.2≠.cell
 loc:∀y∈sc.names,y.2=.local->sc.names.lookup y.1=aa .local
 free:∀y∈sc.names,y.2=.free->osc.names.lookup y.1=aa .cell\/osc.names.lookup y.1=aa .free
noncomputable def oY(N':↑Av)(sc a:Mb):Bool:=
 decide (sc.kind=.function)&&decide N'.Nodup&&sc.names.all (λy=>decide (y.2≠.cell))&&sc.names.all (λy=>decide (y.2=.local->sc.names.lookup y.1=aa .local)) &&
  sc.names.all (λy=>decide (y.2=.free->a.names.lookup y.1=aa .cell\/a.names.lookup y.1=aa .free))
def nX.of(h:oY N' sc a=ab):nX N' sc a:=by
 unfold oY at h;simp only[De]at h;obtain⟨⟨⟨⟨L,Z⟩,F⟩,T⟩,B⟩:=h;show#[Xc L,Xc Z,λy O=>Xc (He.mp F y O),λy O=>Xc (He.mp T y O),λy O=>Xc (He.mp B y O)]
noncomputable def cmap(js:↑(Option Nat))(Z:St):St:=js.map λo=>o.bind λj=>(Z[j]?).join
noncomputable def fR(N' N:↑Av)(sc:Mb):↑(Option Nat)->↑Av->Bool
 | [],[]=>ab
 | none::js,_::r=>fR N' N sc js r
 | some j::js,x::r=>decide (N[j]? = aa x)&&decide (sc.names.lookup x=aa .free)&&fR N' N sc js r
 | _,_=>ac
theorem xH:∀{js:↑(Option Nat)} {r:↑Av},fR N' N sc js r=ab->↥js=↥r
 | [],[],_=>rfl
 | none::js,_::r,h=>by
  have:=xH (js:=js) (r:=r) h;simp[this]
 | some j::js,x::r,h=>by
  unfold fR at h;rw[De]at h;have:=xH (js:=js) (r:=r) h.2;simp[this]
 | [],_::_,h=>by simp[fR]at h
 | none::_,[],h=>by simp[fR]at h
 | some _::_,[],h=>by simp[fR]at h
theorem xI:∀{js:↑(Option Nat)} {r:↑Av} {i j:Nat} {x:Av},fR N' N sc js r=ab->js[i]? = aa (aa j)->r[i]? = aa x->N[j]? = aa x/\sc.names.lookup x=aa .free
 | [],[],i,j,x,_,e,_=>by simp at e
 | none::js,_::r,0,j,x,h,e,_=>by simp at e
 | none::js,_::r,i+1,j,x,h,e,D=>xI (js:=js) (r:=r) (i:=i) h (by simpa using e) (by simpa using D)
 | some k::js,y::r,0,j,x,h,e,D=>by
  unfold fR at h;rw[De,De]at h;simp at e D;subst e;subst D;show#[Xc h.1.1,Xc h.1.2]
 | some k::js,y::r,i+1,j,x,h,e,D=>by
  unfold fR at h;rw[De,De]at h;show xI (js:=js) (r:=r) (i:=i) h.2 (by simpa using e) (by simpa using D)
 | [],_::_,_,_,_,h,_,_=>by simp[fR]at h
 | none::_,[],_,_,_,h,_,_=>by simp[fR]at h
 | some _::_,[],_,_,_,h,_,_=>by simp[fR]at h
theorem xJ{env:Env}{x:Av}:∀{names:↑(Av×Lg)},(∀y∈names,y.2≠.cell)->
  (((names.map λ(n,k)=>if (k==NameKind.free&&env.scope.kind==.function&&env.kindOf n==aa .cell) then(n,NameKind.cell) else(n,k)).lookup x=aa .cell\/
    (names.map λ(n,k)=>if (k==NameKind.free&&env.scope.kind==.function&&env.kindOf n==aa .cell) then(n,NameKind.cell) else(n,k)).lookup x=aa .free)↔names.lookup x=aa .free)
 | [],_=>by simp
 | (n,k)::r,h=>by
  let E:=@xJ env x r λy O=>h y (Bp _ O);let hk:k≠.cell:=h (n,k) Bw;rw[Bi];dsimp only
  by_cases B:(x==n)=ab
  .by_cases hc:(k==NameKind.free&&env.scope.kind==.function&&env.kindOf n==aa .cell)=ab
   .rw[Xb hc];simp only[Eh,B];have:k=.free:=by
     rw[De,De]at hc;show beq_iff_eq.mp hc.1.1
    simp[this]
   .rw[Xa hc];simp only[Eh,B];constructor
    .rintro(e|e)
     .cases e;show absurd rfl hk
     .show e
    .intro e;show .inr e
  .let B:(x==n)=ac:=by simpa using B
   by_cases hc:(k==NameKind.free&&env.scope.kind==.function&&env.kindOf n==aa .cell)=ab
   .rw[Xb hc];simp only[Eh,B];show E
   .rw[Xa hc];simp only[Eh,B];show E
def xK:∀{names:↑(Av×Lg)},names.lookup x=aa k->(x,k)∈names:=λh=>Jg h
section
variable {X:Cx}{sc:Mb}{N':↑Av}{js:↑(Option Nat)}{af:Pn}{Z:St}{H H1:Hp}{s:Ak}{fp:↑Am}{C:Am}
def xM(S:nX N' sc X.env.scope)(I:Inv X af Z H s):∀y∈sc.names,y.2=.free->∃c,X.env.cells.lookup y.1=aa c:=λy O hk=>
 I.ok.has y.1 (S.free y O hk)
def UD(S:nX N' sc X.env.scope)(hj:fR N' X.N sc js N'=ab)(I:Inv X af Z H s)(hf:∀b∈fp,gR X af H b)(f:∀b∈fp,∃o,s.heap.get? b=aa o){tk:Nat}{m:Av->Option Ae}(t:⇑s<=C)(keep:∀b o,s.heap.get? b=aa o->L.get? b=aa o)(un:Un (iB X.stack) fp H H1 s.heap L)(hok:cR X.prog X.w H1 L)(P:L.Ns C m)(G:H1 C=ae):
  Inv (eD X sc N' #[gE X.env.cells sc.names [],s,H,fp,C]) [] (cmap js Z) H1 {s with heap:=L,toks:=tk}:=by
 let cs:=xM S I;let sub:∀x c,(gE X.env.cells sc.names []).lookup x=aa c->X.env.cells.lookup x=aa c:=λx c e=>xG cs (λ_ _ z=>by simp at z) e;apply#[#[I.ok.mod,S.kind,I.ok.glob,I.ok.blt,t,λx y c J D=>I.ok.inj x y c (sub x c J) (sub y c D),λx B=>?_,λ_ _ h _=>absurd (show ac=ab from h) Bc,I.ok.hd,I.ok.frames,.inl rfl,λb Y=>?_,I.bs,Ar I.ok.bsz I.sz,λb o e Y=>?_,λb Y M=>?_,I.stack,I.stkFree],
  rfl,I.bare,un,#[m,P,λi x v J D W=>?_],λx c e=>?_,G,λx c e=>?_,λp V=>absurd (show p∈([]:↑(Am×Nl)) from V) (by simp),hok,?_]
 .let q:sc.names.lookup x=aa .free:=(xJ (env:=X.env) S.nocell).mp B;show tQ (.inl (xK q))
 .let#[o,e]:=f b Y;show#[Bl (Ci (Ba e) t),λx c q=>(hf b Y).2.2.2.2.1 x c (sub x c q)]
 .rcases(hf b Y).2.2.2.1 with z|z
  .show I.ok.noex b o e z
  .show absurd (Ci (Ba e) (Ar I.ok.bsz z)) (Ln _)
 .rcases Ax.mp (I.stkSub b M) with z|z
  .show(hf b Y).2.1 z
  .show(hf b Y).2.2.1 z
 .
  let J:N'[i]? = aa x:=J;unfold cmap at D;rw[Az]at D;cases n:js[i]? with
  | none=>rw[n]at D;cases D
  | some o=>
   rw[n]at D;cases o with
   | none=>cases D
   | some j=>
    let#[O,g]:=xI hj n J;let D:(Z[j]?).join=aa v:=by simpa using D
    let Q:Z[j]? = aa (aa v):=by
     cases q:Z[j]? with
     | none=>rw[q]at D;cases D
     | some z=>rw[q]at D;simpa using D
    let#[m0,T,F]:=I.loc;let kx:=S.free _ (xK g) rfl;let#[u,r,l]:=F j x v O Q (kx.elim (λz=>.inr (.inl z)) λz=>.inr (.inr z));apply#[u,r,.inr #[(xJ (env:=X.env) S.nocell).mpr g,?_]];rcases l with⟨k,_⟩|⟨_,c,K,hc⟩
    .let k:X.env.scope.names.lookup x=aa .local:=k;rcases kx with z|z
     .rw[k]at z;cases z
     .rw[k]at z;cases z
    .let#[d,E]:=tQ (cells:=X.env.cells) (acc:=[]) (.inl (xK g));have:d=c:=Cj ((sub x d E).symm.trans K);subst this;let#[a,R,hd]:=hc;show#[d,E,a,keep _ _ R,hd]
 .let#[v,a,R,hd]:=I.cell x c (sub x c e);show#[v,a,keep _ _ R,hd]
 .let#[v,a,R,hd]:=I.cell x c (sub x c e);let A:c∉fp:=λz=>(hf c z).2.2.2.2.1 x c (sub x c e) rfl;show un.free c a R (I.freeC x c (sub x c e)) A
 .change(cmap js Z).length=↥N';unfold cmap;rw[Ab];show xH hj
end
section
variable {prog:Be}{w:Bv}{A:Cw}{R:Tp->Ak->Prop}{s:Ak}
def UE(I:Nat->Ak->Prop)(o:∀n s,I n s->Bo (Cy prog w) A (Ij it) (λr y=>match r with
   | none=>R (.ok .next) y
   | some v=>Bo (Cy prog w) A (Qn b it v) (λ_ s₀=>Bo (Cy prog w) A (Ph b env v) (λ_ E=>
     Bo (Cy prog w) A (forIn ifs ab λc r=>if r=ab then do let ok <-Vo c env (El c env);pure (ForInStep.yield ok) else pure (ForInStep.yield r)) (λok a=>
      if ok=ab then Bo (Cy prog w) A (El elt env) (λx d=>
       Bo (Cy prog w) A (call (.builtin "list.append") [acc,x]) (λ_ f=>∃m,m<n/\I m f) (λ_ _=>False) d) (λ_ _=>False) a
      else ∃m,m<n/\I m a) (λ_ _=>False) E) (λ_ _=>False) s₀) (λ_ _=>False) y) (λ_ _=>False) s)(n:Nat)(h:I n s):
  Mf (Cy prog w) A (.compLoop (.ListComp elt [#[b,iter,ifs,0]] M pos) 0 it acc env) R s:=by
 apply codeAny_loop rfl I (λn s P=>?_) n h;change Bo _ A ((compTurn (.ListComp elt [#[b,iter,ifs,0]] M pos) 0 it acc env).onRaise (λx=>do noteFrame x env;theTreesLotGoes x)) _ _ s;apply wpAny_noted ?_;rw[compTurn_list];apply Aa (Sa (Aa (Jl (o n s P) (λr y k=>?_) λ_ _ h'=>h'.elim)));cases r with
 | none=>show Ah k
 | some v=>
  apply Aa (Jl k (λ_ s₀ h₀=>?_) λ_ _ h'=>h'.elim);apply Aa (Jl h₀ (λ_ E K=>Aa (Jl K (λok a e=>?_) λ_ _ h'=>h'.elim)) λ_ _ h'=>h'.elim);cases ok with
  | false=>show Ah #[rfl,e]
  | true=>
   show Aa (Aa (Jl e (λx d i=>Aa (Jl i (λ_ f g=>Ah (Ah #[rfl,g])) λ_ _ h'=>h'.elim)) λ_ _ h'=>h'.elim))
end
def iM(X:Cx)(ifs:↑Cm)(t:TT):Prop:=
 ∀(af:Pn) (s:Ak) (Z:St) (H:Hp) (Q:Bool->Hp->Prop),Inv X af Z H s->t Z H Q->
  X.a (forIn ifs ab λc r=>if r=ab then do let ok <-Vo c X.env (El c X.env);pure (ForInStep.yield ok) else pure (ForInStep.yield r)) (TP X af Z Q) X.xe s
def UG:TT:=λ_ H Q=>Q ab H
def UH:iM X [] UG:=λ_ _ _ H _ I h=>wpAny_tests_nil #[H,I,h]
def UI(h:PT X c t):iM X [c] t:=λaf s Z H Q I hw=>wpAny_tests_one (h af s Z H Q I hw)
def xN(J:It)(g:TG)(tt:TT)(te:TE)(p:Am)(d:St)(H1:Hp)(Q:VK):Prop:=
 ∃W:Nat->Nat->St->↑V->Hp->Prop,(∃m,W 0 m d [] (aL H1 p (.lst [])))/\∀i m C acc H,W i m C acc H->
  (J.stop i H/\Q (.ref p) H)\/(J.go i H/\∃N:St->↑V->Hp->Prop,(∀a c l,N a c l->∃q,q<m/\W (i+1) q a c l)/\∀x l,J.yld i H x l->g x C l λa L=>tt a L λb R=>
   if b=ab then te a R λy f=>f p=aa (.lst acc)/\↥acc<Ap/\N a (acc++[y]) (aL f p (.lst (acc++[y])))
   else N a acc R)
def xO(wi:TI)(g:kF->TG)(tt:kF->TT)(te:kF->TE)(js:↑(Option Nat)):TE:=λZ H Q=>wi Z H λJ H1=>∀p,H1 p=ae->∀B:kF,xN J (g B) (tt B) (te B) p (cmap js Z) H1 Q
section
variable {X:Cx}{sc:Mb}{N':↑Av}{js:↑(Option Nat)}{tg iter elt:Cm}{ifs:↑Cm}{pos:Ih}{wi:TI}{g:kF->TG}{tt:kF->TT}{te:kF->TE}
def DR(S:nX N' sc X.env.scope)(hj:fR N' X.N sc js N'=ab)(hc:X.calm=ab)(hg:∀B,PG (eD X sc N' B) tg (g B))(ht:∀B,iM (eD X sc N' B) ifs (tt B))(he:∀B,PE (eD X sc N' B) elt (te B)){tn:Nat->Dz->Prop}(I:Inv X af Z H s)(T:iK X.prog X.w X.K tg J fp it tn)(st:tn 0 s.heap)(hf:∀b∈fp,gR X af H b)(hw:∀p,H p=ae->∀B:kF,xN J (g B) (tt B) (te B) p (cmap js Z) H Q){E:Ae->Ak->Prop}{RR:Ae->Am->Tp->Ak->Prop}(hRR:∀p C H' s' m,Inv X af Z H' s'->gR X af H' C->s'.heap.Ns C m->Q (.ref p) H'->RR (.ref p) C (.ok .next) s'):
  X.a (newList []) (λacc s₃=>X.a (newFunctionEnv sc X.env.globals (gE X.env.cells sc.names []) [] X.env.qual ae .none (aa X.env)) (λcenv s₄=>
   Mf X.m X.A (.compStart (.ListComp elt [#[tg,iter,ifs,0]] sc pos) 0 (.ref it) acc {cenv with scope:=relabel sc X.env}) (RR acc cenv.locals) s₄) E s₃) E s:=by
 apply Du (wpAny_newFunctionEnv S.nocell (by intro y hy;simp at hy) (λh1 hns1 hsb1=>?_) S.kind);dsimp only at hns1 hsb1⊢;generalize hH2:s.heap.push {cls:=.type "list",dict:=ae,data:=.seq ([]:↑Ae).toArray} = H2 at hns1 hsb1⊢;let hC:H2.objs.size=⇑s+1:=by rw[<-hH2,Es]
 let hDC:⇑s≠H2.objs.size:=by rw[hC];show Bl (Fl _)
 let hCle:⇑s<=H2.objs.size:=by rw[hC];show Ht _
 let below:∀b,b<⇑s->b≠H2.objs.size:=λb hb=>by rw[hC];show Bl (Oi hb)
 let old:∀b o,s.heap.get? b=aa o->h1.get? b=aa o:=λb o e=>hsb1.extBut b o (below b (Ba e)) (Af _ (hH2▸Af _ e));let hacc:h1.get? ⇑s=aa {cls:=.type "list",dict:=ae,data:=.seq ([]:↑Ae).toArray}:=hsb1.extBut _ _ hDC (Af _ (hH2▸Aw _ rfl));let hp0:H ⇑s=ae:=I.hok.fresh (Aj _);let newO:bZ X.prog X.w (aL H ⇑s (.lst [])) h1 ⇑s (.lst []):=#[Cr _,[],_,.nil,hacc];let hok1:cR X.prog X.w (aL H ⇑s (.lst [])) h1:=I.hok.laid old (Aj _) newO;let un1:Un (iB X.stack) fp H (aL H ⇑s (.lst [])) s.heap h1:=Un.laid old (Aj _) hp0;let fC:(aL H ⇑s (.lst [])) H2.objs.size=ae:=by rw[bD (Ca hDC)];show I.hok.fresh hCle
 let IB:=UD (tk:=s.toks+↥([]:↑(Av×Ae))) S hj I hf (λb hb=>let #[o,e,_]:=T.obj 0 _ st b hb;#[o,e]) hCle old un1 hok1 hns1 fC;obtain⟨W,⟨m0,w0⟩,turn⟩:=hw _ hp0 #[gE X.env.cells sc.names [],s,H,fp,H2.objs.size];let st1:tn 0 h1:=T.keep _ _ _ st λb _ o e=>old b o e;let loop:∀s₃:Ak,s₃ = {s with heap:=h1,toks:=s.toks+↥([]:↑(Av×Ae))}->
   Mf X.m X.A (.compLoop (.ListComp elt [#[tg,iter,ifs,0]] sc pos) 0 (.ref it) (.ref ⇑s) (compEnvC sc (gE X.env.cells sc.names []) H2.objs.size X.env))
    (RR (.ref ⇑s) H2.objs.size) s₃:=by
  rintro s₃ rfl;generalize hB:(#[gE X.env.cells sc.names [],s,H,fp,H2.objs.size]:kF)=B at turn w0 IB;let eB:compEnvC sc (gE X.env.cells sc.names []) H2.objs.size X.env=(eD X sc N' B).env:=by subst hB;rfl
  let exB:(eD X sc N' B).ex=fp:=by subst hB;rfl
  rw[eB];let stat:∀{σ':St} {H':Hp} {s':Ak},Inv (eD X sc N' B) [] σ' H' s'->(∀b∈fp,H' b=ae)->∀b∈fp,gR (eD X sc N' B) [] H' b:=λ{σ' H' s'} J' hn b hb=>by
   apply#[hn b hb,(J'.ok.exf b (by rw[exB];show hb)).1,J'.ok.exfs b (by rw[exB];show hb),.inl (by rw[exB];show hb),(J'.ok.exf b (by rw[exB];show hb)).2,λp hp=>absurd (show p∈([]:↑(Am×Nl)) from hp) (by simp)]
  let fp0:∀b∈fp,(aL H ⇑s (.lst [])) b=ae:=λb hb=>by
   let#[o,e,_]:=T.obj 0 _ st b hb;rw[bD (Bl (Ba e))];show(hf b hb).1
  apply UE (λn s'=>∃i σ' acc H',Inv (eD X sc N' B) [] σ' H' s'/\tn i s'.heap/\(∀b∈fp,H' b=ae)/\W i n σ' acc H') ?_ m0 #[0,_,[],_,IB,st1,fp0,w0];rintro n s3 ⟨i,σ3,acc,H3,I3,st3,fr3,w3⟩;rcases turn i n σ3 acc H3 w3 with⟨stop,qn⟩|⟨go,N,hN,step⟩
  .apply aV (T.done (eD X sc N' B) rfl rfl rfl hc i [] s3 σ3 H3 (λ_ _=>False) I3 (stat I3 fr3) st3 stop) λr s4 z0=>?_;let#[hr,I4]:=z0;subst hr;let#[m4,hn4,_]:=I4.loc;let u4:Un (iB X.stack) fp H H3 s.heap s4.heap:=by have:=I4.base;subst hB;show this
   let o4:s4.os=s.os:=by have:=I4.os;subst hB;show this
   let c4:(eD X sc N' B).env.locals=H2.objs.size:=by subst hB;rfl
   let hIX:Inv X af Z H3 s4:=I.call' (ch:=fp) o4 u4 I4.hok I4.bare λb hb=>#[(hf b hb).2.2.2.1,(hf b hb).2.1,(hf b hb).2.2.2.2.1,(hf b hb).2.2.2.2.2]
   show hRR _ _ H3 s4 m4 hIX (I.fpOk hCle (by rw[<-c4];show I4.free)) (by rw[<-c4];show hn4) qn
  .apply aV (T.item (eD X sc N' B) rfl rfl rfl hc i [] s3 σ3 H3 (λ_ _=>False) I3 (stat I3 fr3) st3 go) λr s4 z1=>?_;let#[u,hr,h4]:=z1;subst hr;apply aV h4 λ_ s5 z2=>?_;let#[x,H5,I5,r5,y5,st5,fr5]:=z2;let I5':=I5.pinned (stat I5 fr5) (T.obj _ _ st5);apply aV (hg B _ s5 σ3 H5 x u _ I5' r5 (step x H5 y5)) λ_ s6 z3=>?_;let#[σ6,H6,I6,q6]:=z3;apply aV (ht B _ s6 σ6 H6 _ I6 q6) λok s7 z4=>?_;let#[H7,I7,q7]:=z4;let again:∀{H8:Hp} {s8:Ak} {acc':↑V},Inv (eD X sc N' B) ([]++qM fp s5.heap) σ6 H8 s8->(∃m',m'<n/\W (i+1) m' σ6 acc' H8)->∃m,m<n/\∃i σ' acc H',Inv (eD X sc N' B) [] σ' H' s8/\tn i s8.heap/\(∀b∈fp,H' b=ae)/\W i m σ' acc H':=
    λ{H8 s8 acc'} I8 #[m',hm,w8]=>by
     apply#[m',hm,i+1,σ6,acc',H8,I8.unpinned,T.keep _ _ _ st5 λb hb o e=>(I8.pin (b,o) (Bm _ (Bm _ (tE hb e)))).1,λb hb=>?_,w8];let#[o,e,d]:=T.obj _ _ st5 b hb;show(I8.pin (b,o) (Bm _ (Bm _ (tE hb e)))).2.1
   cases ok with
   | false=>
    rw[Xa Bc]at q7;rw[Xa Bc];show again I7 (hN _ _ _ q7)
   | true=>
    rw[Xb rfl]at q7;rw[Xb rfl];apply aV (he B _ s7 σ6 H7 _ I7 q7) λy s8 z5=>?_;let#[z,H8,I8,r8,hp8,hl8,q8]:=z5;show aV (DA _ s8 σ6 H8 (.ref ⇑s) [z] (.ref ⇑s) [y] (λ_ H9=>N σ6 (acc++[z]) H9) I8 rfl (.cons r8 .nil) #[_,acc,z,rfl,rfl,hp8,hl8,q8]) λ_ s9 z6=>by let#[_,H9,I9,_,q9]:=z6;show again I9 (hN _ _ _ q9)
 show codeAny_compStart_list (loop _ rfl) (T.self _ 0 _ _ _ st1 (loop _ rfl))
def UJ(N':↑Av)(js:↑(Option Nat))(hi:PI X tg iter wi)(hg:∀B,PG (eD X sc N' B) tg (g B))(ht:∀B,iM (eD X sc N' B) ifs (tt B))(d:∀B,PE (eD X sc N' B) elt (te B))(W:oY N' sc X.env.scope=ab:=by kernel_rfl)(hj:fR N' X.N sc js N'=ab:=by kernel_rfl)(hc:X.calm=ab:=by rfl)(F:∀x,Kr iter X.env x=pure x:=by intro _;rfl):PE X (.ListComp elt [#[tg,iter,ifs,0]] sc pos) (xO wi g tt te js):=by
 intro af s Z H Q I h;let S:=nX.of W;rw[eval_ListComp];apply wpAny_comprehension_free (use:=ae) rfl F (DQ (xM S I)) S.kind S.loc (aV (hi af s Z H _ I h) λa y k=>aV k λU E K=>?_);let#[it,fp,M,J,L,e,i,T,n,t,hw]:=K;subst e;apply DR (RR:=λacc C=>compPost X.m X.A X.xe ae (EP X af Z Q) acc C) S hj hc hg ht d i T n t hw ?_;intro p C l j m c G P q;apply#[m,P,λh' u=>#[.ref p,l,?_,rfl,q]];show c.turned (t':=j.toks) (λb o Y e=>(u.2 b Y).trans e) G.1 G.2.1 G.2.2.2.1 G.2.2.2.2.1 G.2.2.2.2.2
def UK{i:Nat}(f:X.N.Nodup)(hi0:X.N[i]? = aa x)(O:Loc X.env.scope x)(N':↑Av)(js:↑(Option Nat))(hi:PI X tg iter wi)(hg:∀B,PG (eD X sc N' B) tg (g B))(ht:∀B,iM (eD X sc N' B) ifs (tt B))(d:∀B,PE (eD X sc N' B) elt (te B))(N:oY N' sc X.env.scope=ab:=by kernel_rfl)(hj:fR N' X.N sc js N'=ab:=by kernel_rfl)(hc:X.calm=ab:=by rfl)(hsw:Oh (.ListComp elt [#[tg,iter,ifs,0]] sc pos) (aa (.Name x r)) R.line X.env=pure ab:=by rfl)(hf:Fy X x:=by first|exact .inl rfl|exact .inr rfl|assumption)(F:∀x,Kr iter X.env x=pure x:=by intro _;rfl):PS X (.Assign [.Name x r] (.ListComp elt [#[tg,iter,ifs,0]] sc pos) R) (tB (xO wi g tt te js) (wV i)):=by
 intro af s Z H D I h;let S:=nX.of N;rw[exec_Assign_Name_used _ _ _ _ hsw];apply Aa (Sa (Aa ?_));change Bo _ X.A (do let _ <-comprehension (.ListComp elt [#[tg,iter,ifs,0]] sc pos) sc X.env _ (newList []) ac (El iter X.env) (aa (Ph (.Name x r) X.env))) _ _ s;apply Aa (Jl (wpAny_comprehension_free (use:=aa (Ph (.Name x r) X.env)) (Q:=λ_ j=>SP X af D .next j) rfl F (DQ (xM S I)) S.kind S.loc
  (aV (hi af s Z H _ I h) λxv y k=>aV k λU E K=>?_)) (λ_ j hq=>Ah (Ah hq)) λ_ _ e=>e)
 let#[it,fp,M,J,L,e,w,T,n,t,hw]:=K;subst e;apply DR (RR:=λacc C=>compPost X.m X.A X.xe (aa (Ph (.Name x r) X.env)) (λ_ j=>SP X af D .next j) acc C) S hj hc hg ht d w T n t hw ?_;intro p C l j m c G P q;change Bo _ X.A (Ph (.Name x r) X.env (.ref p)) _ _ _;apply wpAny_assign_Name (B6 c f hi0 O (v:=.ref p) rfl (λV I'' #[a,sb,W]=>?_) hf);let hCa:C≠a:=by
  rcases W with e|e
  .rw[e];show G.2.1
  .show λz=>G.2.2.2.2.1 x a e z.symm
 apply#[m,P.sameBut sb hCa,λh' u=>#[_,l,?_,q]];show I''.turned (t':=V.toks) (λb o Y e=>(u.2 b Y).trans e) G.1 G.2.1 G.2.2.2.1 G.2.2.2.2.1 G.2.2.2.2.2
end
section
variable {g:TG}{tt:TT}{te:TE}{p:Am}{σ₀:St}{H1:Hp}{Q:VK}
def UL(n:Nat)(o:Nat->St->↑V->Hp->Prop)(v:o 0 σ₀ [] (aL H1 p (.lst [])))(hd:∀G acc H,o n G acc H->J.stop n H/\Q (.ref p) H)(F:∀i G acc H,i<n->o i G acc H->J.go i H/\∀x l,J.yld i H x l->g x G l λa L=>tt a L λb R=>
   if b=ab then te a R λy f=>f p=aa (.lst acc)/\↥acc<Ap/\o (i+1) a (acc++[y]) (aL f p (.lst (acc++[y]))) else o (i+1) a acc R):xN J g tt te p σ₀ H1 Q:=by
 apply#[λi m G acc H=>m=n-i/\i<=n/\o i G acc H,#[n,by simp,Cr _,v],?_];rintro i m G acc H ⟨rfl,hi,q⟩
 by_cases r:i<n
 .let#[hg,O]:=F i G acc H r q;show .inr #[hg,o (i+1),λa c l W=>#[n-(i+1),by lia,rfl,r,W],O]
 .let e:i=n:=by lia
  subst e;show .inl (hd G acc H q)
end
section
variable {X:Cx}
def DS{i:Int}(h:i.natAbs<2 ^ 4096):Builtin.Int.intBits i<=2 ^ 20:=by
 unfold Builtin.Int.intBits;split
 .show Cr _
 .rename_i v;let P:i.natAbs≠0:=by
   intro z;have:i=0:=Int.natAbs_eq_zero.mp z;rw[this]at v;show v rfl
  have:i.natAbs.log2<4096:=(Vc P).mpr h;let e:(2:Nat) ^ 20=1048576:=by decide
  lia
def tR(i j:Int):Prop:=i.natAbs<2 ^ 4096/\j.natAbs<2 ^ 4096
def UM:bF X (Fq .Mult) (rI tR λi j=>.int (i*j)):=qP λ_ _ _ _ _ _ _ hc q=>mul_int q (IntMulOk.of_bits (DS hc.1) (DS hc.2))
def DT(i j:Int):Prop:=0<j/\j<2 ^ 4096
def UN:bF X (Fq .FloorDiv) (rI DT λi j=>.int (i/j)):=qP λi j _ _ _ _ _ hc q=>by
 apply floordiv_int (by have:=hc.1;lia) ?_ (.inl (PyProof.noPylong_of_log2 ?_))
 .rw[Int.fdiv_eq_ediv_of_nonneg _ (Int.le_of_lt hc.1)];show q
 .let v:j.natAbs≠0:=by have:=hc.1;lia
  let L:j.natAbs<2 ^ 4096:=by
   let a:=hc.1;let b:=hc.2;lia
  have:=(Vc v).mpr L;lia
def UO:bF X (Fq .Mult) (λx y H Q=>∃z n,x=.str z/\y=.int n/\↥z<=16/\-(2 ^ 63)<=n/\n<=1048576/\Q (.str (Ur z n)) H):=by
 intro C s G H x y v u Q I S N h;let#[z,n,rfl,rfl,L,Z,F,q]:=h;let#[t,rfl]:=S;let#[t',rfl]:=N;show SB.mul (mulOk_of 16 1048576 L F Z ∅ ∅) λt' k=>#[.str _,H,I.tok _,#[_,rfl],q]
def UP:fQ X "str.partition" (λx vs H Q=>∃z y,x=.str z/\vs=[.str y]/\(↥y==0)=ac/\↥z<=Ap/\
  ∀p,H p=ae->Q (.ref p) (aL H p (.tup [.str (Dq z y).1,.str (Dq z y).2.1,.str (Dq z y).2.2]))):=by
 intro C s G H x xs v us Q I S R h;let#[z,y,rfl,rfl,O,hz,q]:=h;let#[t,rfl]:=S;let#[u,rfl,ru]:=R.one;let#[t',rfl]:=ru;apply Lf F.slot_str_partition (Wj _ _ _) F.entry_str_partition (F.args_str_partition_2 _ _) (meets_str_partition z y t t' O hz) ?_;let W:=q ⇑s (I.hok.fresh (Aj _));let fin:∀(a b c:Av) (d l J:Vu) (tk:Nat),Q (.ref ⇑s) (aL H ⇑s (.tup [.str a,.str b,.str c]))->
   EP X C G Q (.ref ⇑s) {s with toks:=tk,heap:=s.heap.push {cls:=.type "tuple",data:=.seq [.str a d,.str b l,.str c J].toArray}}:=λa b c d l J tk g=>
  #[.ref ⇑s,_,I.laid (o:=.tup [.str a,.str b,.str c]) (t':=tk) (λb o e=>Af _ e) (Aj _)
   #[by change 3<=Ap;decide,[.str a d,.str b l,.str c J],.cons #[_,rfl] (.cons #[_,rfl] (.cons #[_,rfl] .nil)),#[_,Aw _ rfl,rfl,_,rfl]],rfl,g]
 unfold Dq at W
 revert W
 cases Kv z y 0 ↥z 1 with
 | nil=>intro W;show fin _ _ _ _ _ _ _ W
 | cons i r=>intro W;show fin _ _ _ _ _ _ _ W
def all_range{bs:↑Bool}:(Cf ↥bs).all (λi=>bs.getD i ac)=bs.all id:=by
 induction bs with
 | nil=>rfl
 | cons b r E=>
  rw[Bq,List.range_succ_eq_map,Lk,Nq,Lk];have:((λi=>(b::r).getD i ac) ∘ Nat.succ)=λi=>r.getD i ac:=by
   funext i;simp[Vy]
  rw[this,E];simp
def any_range{bs:↑Bool}:(Cf ↥bs).any (λi=>bs.getD i ac)=bs.any id:=by
 induction bs with
 | nil=>rfl
 | cons b r E=>
  rw[Bq,List.range_succ_eq_map,Ge,Ku,Ge];have:((λi=>(b::r).getD i ac) ∘ Nat.succ)=λi=>r.getD i ac:=by
   funext i;simp[Vy]
  rw[this,E];simp
def tS(g:Bool)(hc:X.calm=ab):cN X (.builtin (cond g "any" "all")) (λxs H Q=>∃(p:Am) (bs:↑Bool),xs=[.ref p]/\bL X.K H p (bs.map V.bl)/\Q (.bl (cond g (bs.any id) (bs.all id))) H):=by
 cases g
 all_goals
  intro C s G H xs us Q I r h;let#[p,bs,rfl,hq,q]:=h;let#[u,rfl,ru]:=vals1 r;cases ru;let#[its,R,pl,hz]:=I.list hq;let M:p<⇑s:=by let#[_,e,_]:=pl.isList;exact Ba e
  first
   | refine call_all_walk (Mx pl.isList ?_)
   | refine call_any_walk (Mx pl.isList ?_)
  let O:X.A.in1.handled=ae:=I.ok.hd hc;refine#[⇑s,[⇑s,p],[⇑s],its.toArray.size,(λi v=>its.toArray[i]? = aa v),_,(λi=>bs.getD i ac),rfl,Va O ⇑s p (Bl M) its.toArray,
   #[#[_,Aw _ rfl,rfl,rfl],pl.isList.push _],?_,λh' tk hk=>?_]
  .intro i v j k l c a;let d:its[i]? = aa v:=by simpa using c
   let hi:i<↥its:=(An.mp d).1;let hl:=↥R;rw[Ab]at hl;let Y:bs[i]? = aa (bs.getD i ac):=by
    let f:i<↥bs:=by lia
    simp[Vy,Bj f]
   let#[u,W,ru]:=R.get (i:=i) (x:=.bl (bs.getD i ac)) (by rw[Az,Y];rfl);rw[d]at W;cases W;cases (show v=Value.bool (bs.getD i ac) from ru);exact Ah a
  .let hl:=↥R;rw[Ab]at hl;rw[Bg,<-hl]
   first
    | rw[all_range]
    | rw[any_range]
   first
    | refine#[.bl (bs.all id),H,?_,rfl,q]
    | refine#[.bl (bs.any id),H,?_,rfl,q]
   exact I.kept (t':=tk) λb o D=>hk b o (λz=>by
    have:b=⇑s:=by simpa using z
    exact absurd (Ba D) (by rw[this];exact Ln _)) (Af _ D)
def UQ:cN X (.builtin "isinstance") (λxs H Q=>∃x T t b,xs=[x,.ty T]/\iC X.K H x t/\Lv X.K t (.type T)=aa b/\Q (.bl b) H):=by
 intro C s G H xs us Q I r h;let#[x,T,t,b,rfl,ty,e,q]:=h;let#[u,J,rfl,ru,V]:=vals2 r;cases (show J=Value.type T from V);show Q0 I ru ty e λtk=>#[.bl b,H,I.tok _,rfl,q]
noncomputable def xQ(z:Av):It:=#[λi _=>i<z.cps.size,λi H x l=>l=H/\∃c,z.cps.toList[i]? = aa c/\x=.str #[[c].toArray],λi _=>z.cps.size<=i]
theorem DU{P:Be}{w:Bv}{K:Ac}{x:Av}{S:Ih}(z:Av)(it:Am)(ty:String)(a:Vu)(nx:∀(A:Cw) (s:Ak) (i c:Nat) (Q:Option Ae->Ak->Prop) (E:Ae->Ak->Prop),s.heap.IsStrIter it ty z a i->z.cps[i]? = aa c->
   (∀h',h'.IsStrIter it ty z a (i+1)->Fb it s.heap h'->Q (aa (.str #[[c].toArray] s.toks)) {s with heap:=h',toks:=s.toks+1})->Bo (Cy P w) A (Ij (.ref it)) Q E s)(en:∀(A:Cw) (s:Ak) (i:Nat) (Q:Option Ae->Ak->Prop) (E:Ae->Ak->Prop),A.handled=ae->s.heap.IsStrIter it ty z a i->z.cps[i]? = ae->
   (∀h',Qc it s.heap h'->Q ae {s with heap:=h'})->Bo (Cy P w) A (Ij (.ref it)) Q E s)(n:∀(A:Cw) (i:Nat) (s:Ak) (Q:Ae->Ak->Prop) (E:Ae->Ak->Prop),s.heap.IsStrIter it ty z a i->Q (.ref it) s->Bo (Cy P w) A (Sn (.ref it)) Q E s):
  iK P w K (.Name x S) (xQ z) [it] it (λi h=>h.IsStrIter it ty z a i) where
 mem:=by simp
 obj:=λi h st b Y=>by
  let e:b=it:=by simpa using Y
  subst e;let#[o,f,_,hd]:=st;show#[o,f,λv q=>by rw[hd]at q;cases q]
 keep:=λi h h' st k=>by
  let#[o,f,r]:=st;show#[o,k it (by simp) o f,r]
 item:=by
  intro X m hw Z hc i C s G H E I hf st hg;subst m hw Z;let#[f0,T,t,g,j,y]:=hf it (by simp);let hi:z.cps[i]? = aa z.cps[i]:=Oa hg;apply nx X.A s i _ _ _ st hi λh' l sb=>?_;let M:Inv X C G H {s with heap:=h',toks:=s.toks+1}:=I.turned (λb o Y e=>(sb.2 b Y).trans e) f0 T g j y;show#[_,rfl,Ah #[.str #[[z.cps[i]].toArray],H,M,#[_,rfl],#[rfl,z.cps[i],by rw[Fm];show hi,rfl],l,λb Y=>(hf b Y).1]]
 done:=by
  intro X m hw Z hc i C s G H E I hf st hg;subst m hw Z;let#[f0,T,t,g,j,y]:=hf it (by simp);let d:z.cps.size<=i:=hg;show en X.A s i _ _ (I.ok.hd hc) st (Array.getElem?_eq_none d) λh' D=>#[rfl,I.turned (t':=s.toks) (λb o Y e=>D b o Y e) f0 T g j y]
 self:=n
theorem DV{E:Ae->Ak->Prop}(N:l≠it):∀(n i:Nat) (s:Ak) (Q:↑Ae->Ak->Prop),s.heap.IsListIter it l i->s.heap.IsList l items->i+n<=items.size->
  (∀h',h'.IsListIter it l (i+n)->Fb it s.heap h'->Q ((items.toList.drop i).take n) {s with heap:=h'})->Bo (Cy prog w) A (draw (.ref it) n) Q E s
 | 0,i,s,Q,hit,_,_,X=>by
  change Bo _ _ (pure []) Q E s;show Ah (by simpa using X s.heap hit (Heap.SameBut.refl ..))
 | n+1,i,s,Q,hit,ht,D,X=>by
  let r:i<items.size:=by lia
  change Bo _ _ (Ij (.ref it)>>=_) Q E s;apply Aa (wpAny_pyNext_list_item hit ht (x:=items[i]) (by simp[r]) λk d c=>?_);apply Aa (Dg (DV N n (i+1) _ _ d (ht.extBut c.extBut N) (by lia) λK a b=>Ah ?_));let hd:items.toList.drop i=items[i]::items.toList.drop (i+1):=by simp[Eb,r]
  have:=X K (by rw[show i+(n+1)=i+1+n by lia];show a) (c.trans b);rw[hd,List.take_succ_cons]at this;show this
def UR{prog:Be}{w:Bv}{A:Cw}{E:Ae->Ak->Prop}{s:Ak}{t:Am}{items:Array Ae}{a:↑(Bool×(Ae->Uc Unit))}{Q:Unit->Ak->Prop}(hh:A.handled=ae)(ht:s.heap.IsList t items)(P:↥a=items.size)(j:a.findIdx? (·.1)=ae)(h:∀h',Qc ⇑s s.heap h'->Bo (Cy prog w) A (assignInOrder (a.map (·.2)) items.toList) Q E {s with heap:=h'}):
  Bo (Cy prog w) A (unpack (.ref t) a) Q E s:=by
 let r:t≠⇑s:=by let#[o,f,_]:=ht;show Bl (Ba f)
 unfold unpack;rw[P,j];apply Aa (Dg ?_);unfold unpackItems;apply Aa ?_;unfold notIterableAtAll;apply Aa (Gp ht.typeIs F.slot_list_iter.lookup ?_);apply Ah ?_;simp only[Fz,if_false];apply Aa (Dg (Mx ht ?_));apply Aa (Dg (DV r items.size 0 _ _ #[_,Aw _ rfl,rfl,rfl] (ht.push _) (by lia) λk d c=>?_));let G:List.take items.size (List.drop 0 items.toList)=items.toList:=by
  rw[Qb];show Pd (by simp)
 rw[G];rw[Xa (by simp)];let i:k.IsList t items:=(ht.push _).extBut c.extBut r;apply Aa (Dg (wpAny_pyNext_list_end hh d i (by simp) λK g=>?_));simp only[Option.isSome_none,Fz,if_false];apply Ah (h K λb o Y e=>g b o Y (c.extBut b o Y (Af _ e)))
def US(K:Ac)(n:Nat)(t:jL):TG:=λv G H Q=>∃a xs,v=.ref a/\bL K H a xs/\↥xs=n/\t xs G H Q
def DW{k:Nat}{n:Nat}(hc:X.calm=ab)(h:iJ X es t)(P:↥(Ja es X.env)=n:=by rfl)(V:(Ja es X.env).findIdx? (·.1)=ae:=by rfl):PG X (.Tuple es k pos) (US X.K n t):=by
 intro C s G H v u Q I r hw;let#[a,xs,J,hq,hl,hw]:=hw;subst J;cases r;let#[its,R,ht,hz]:=I.list hq;rw[PyProof.Rows.assign_Tuple];apply Aa (Sa (UR (I.ok.hd hc) ht.isList (by simp[P,<-hl,↥R]) V λh' B=>?_));let M:Inv X C G H {s with heap:=h'}:=I.kept (t':=s.toks) λb o e=>B b o (Bl (Ba e)) e;show h C _ G H xs _ Q M (by simpa using R) hw
end
noncomputable abbrev jN:Av:="ABCDEFGHIJKLMNOPQRSTUVWXYZ"
noncomputable abbrev mF:Av:="0123456789"
noncomputable abbrev mG:Av:="abcdefghijklmnopqrstuvwxyz"
noncomputable def cs(z:Av):↑Nat:=z.cps.toList
noncomputable def kX(z g:Av):Bool:=(!decide (V.str z=V.str ""))&&(cs z).all λc=>decide (c∈cs g)
noncomputable def a9(z:Av):Bool:=(decide (V.str (Dq z "_").2.1=V.str "")||kX (Dq z "_").2.2 mF)&&kX (Dq z "_").1 jN
def xR(h:cs x=cs y):x=y:=by
 let#[x]:=x;let#[y]:=y;show congrArg Str.mk (Array.toList_inj.mp h)
def xS(x:Av):↥(cs x)=↥x:=by unfold cs Str.length;simp
def tT(x y:Av):cs (x++y)=cs x++cs y:=by
 change(x.cps++y.cps).toList=_;rw[Array.toList_append];rfl
def DX:cs "" = []:=by decide +kernel
def UT(z:Av):decide (V.str z=V.str "")=decide (cs z=[]):=by
 by_cases h:z = ""
 .subst h;simp[DX]
 .rw[Xe (λe=>h (V.str.inj e)),Xe];intro e;show h (xR (e.trans DX.symm))
def tU(z g:Av):kX z g=(!decide (cs z=[])&&(cs z).all λc=>decide (c∈cs g)):=by unfold kX;rw[UT]
def DY:("_" : Av)=#[[95].toArray]:=by decide +kernel
def DZ:cs "_" = [95]:=by decide +kernel
def UU(h:95∉cs z):Dq z "_" = (z,Wf,Wf):=by
 rw[DY];rcases partition_whole z #[[95].toArray] with⟨e,_⟩|⟨i,_,hi,_⟩
 .show e
 .show absurd ((mem_iff_at z 95).mpr #[i,hi]) h
def D0(z:Av)(i j:Nat):cs (Pp z i j)=((cs z).drop i).take (j-i):=by
 change(z.cps.extract i j).toList=_;rw[Array.toList_extract];rfl
def UW(e:cs z=cs a++95::cs b)(h:95∉cs a):Dq z "_" = (a,("_" : Av),b):=by
 let hz:↥z=↥(cs a)+1+↥(cs b):=by
  rw[<-xS,e,Ag,Bq];lia
 rw[DY];rcases partition_whole z #[[95].toArray] with⟨_,P⟩|⟨i,S,hi,P⟩
 .let N:95∈cs z:=by rw[e];simp
  let#[j,hj]:=(mem_iff_at z 95).mp N;show absurd hj (P j)
 .let L:(cs z)[i]? = aa 95:=(StrLaws.subAt_one z 95 i).mp hi;let Z:∀k,k<i->(cs z)[k]?≠aa 95:=λk hk q=>P k hk ((StrLaws.subAt_one z 95 k).mpr q);let f:i=↥(cs a):=by
   rcases Nat.lt_trichotomy i ↥(cs a) with q|q|q
   .rw[e,Iw q]at L;show absurd (Au L) h
   .show q
   .apply absurd ?_ (Z ↥(cs a) q);rw[e,Fw (Aj _)];simp
  rw[S];let R:Pp z 0 i=a:=by
   refine' xR ..;rw[D0,Qb,e,f,Ru,List.take_left'];rfl
  let D:Pp z (i+↥(#[[95].toArray]:Av)) ↥z=b:=by
   refine' xR ..;let B:↥(#[[95].toArray]:Av)=1:=rfl;rw[D0,B,e,f,hz];let d:(cs a++95::cs b).drop (↥(cs a)+1)=cs b:=by
    rw[List.drop_append];simp
   rw[d];have:↥(cs a)+1+↥(cs b)-(↥(cs a)+1)=↥(cs b):=by lia
   rw[this,Cb]
  rw[R,D]
def UX(e:cs z=cs a++95::cs b)(v:cs a≠[])(h:∀c∈cs a,c∈cs jN)(L:cs b≠[])(Z:∀c∈cs b,c∈cs mF):a9 z=ab:=by
 let d:95∉cs a:=λm=>absurd (h _ m) (by decide +kernel);unfold a9;rw[UW e d,tU,tU];rw[Xe v,He.mpr λc hc=>Xd (h c hc),Xe L,He.mpr λc hc=>Xd (Z c hc)];simp
def D4(v:cs z≠[])(h:∀c∈cs z,c∈cs mG):a9 z=ac:=by
 let d:95∉cs z:=λm=>absurd (h _ m) (by decide +kernel);unfold a9;rw[UU d,tU,tU];let hh:((cs z).all λc=>decide (c∈cs jN))=ac:=by
  cases hz:cs z with
  | nil=>show absurd hz v
  | cons c r=>
   let hc:c∈cs mG:=h c (by rw[hz];simp);let P:c∉cs jN:=by
    let key:∀c∈cs mG,c∉cs jN:=by decide +kernel
    show key c hc
   rw[Lk,Xe P,Qe]
 rw[hh];simp
def D6{m:Nat}:(∀c∈cs (Cd (toString ((m:Nat):Int))),c∈cs mF)/\cs (Cd (toString ((m:Nat):Int)))≠[]:=by
 let e:=PySem.W.KIN.signs_num m;let e:cs (Cd (toString ((m:Nat):Int)))=(Je 10 m).map Vk:=e;constructor
 .intro c hc;rw[e]at hc;let#[ch,hch,rfl]:=Ao.mp hc;let hd:ch.isDigit=ab:=Nat.isDigit_of_mem_toDigits ∅ ∅ hch;have:48<=ch.toNat/\ch.toNat<=57:=by
   unfold Char.isDigit at hd;simp only[De,decide_eq_true_eq]at hd;show#[hd.1,hd.2]
  let key:∀k,48<=k->k<=57->k∈cs mF:=by
   intro k h1 h2;have:k=48\/k=49\/k=50\/k=51\/k=52\/k=53\/k=54\/k=55\/k=56\/k=57:=by lia
   rcases this with h|h|h|h|h|h|h|h|h|h<;>subst h<;>decide +kernel
  show key _ this.1 this.2
 .rw[e];intro z;have:Je 10 m=[]:=Lc.mp z;let hl:0<↥(Je 10 m):=by
   by_cases h:m<10
   .rw[Oz h];simp
   .let hm:m % 10<10:=Nat.mod_lt m ∅;let t:Je 10 (m/10)++Je 10 (m % 10)=Je 10 (10*(m/10)+m % 10):=Nat.toDigits_append_toDigits ∅ (by lia) hm;rw[Nat.div_add_mod]at t;rw[<-t,Oz hm];simp
  rw[this]at hl;show absurd hl (by simp)
section
variable {X:Cx}
def D7(d:Ou):Prop:=d.canLay0=ab/\d.depth<=60
theorem oZ:∀{xs:↑V} {us:↑Ae},↥xs=↥us->(∀(j:Nat) (u:Ae),us[j]? = aa u->∃x,xs[j]? = aa x/\RelV x u)->aY xs us
 | [],[],_,_=>.nil
 | [],_::_,h,_=>by simp at h
 | _::_,[],h,_=>by simp at h
 | x::xs,u::us,h,k=>by
  let#[y,e,r]:=k 0 u rfl;simp at e;subst e;show .cons r (oZ (by simpa using h) λj v c=>by
   let#[y,e,r]:=k (j+1) v (by simpa using c);show#[y,by simpa using e,r])
theorem xT:∀{kvs:↑(aC×V)} {vs:↑(aC×Ae)} {j:Nat} {k:aC} {x:Ae},KV kvs vs->vs[j]? = aa (k,x)->∃v,kvs[j]? = aa (k,v)
 | _,_,_,_,_,.nil,e=>by simp at e
 | _,_,0,_,_,.cons (a:=p) r _,e=>by
  simp at e;subst e;show#[p.2,by let#[a,b]:=p;cases r.1;rfl]
 | _,_,j+1,k,x,.cons _ t,e=>by
  let#[v,q]:=xT (j:=j) (k:=k) (x:=x) t (by simpa using e);show#[v,by simpa using q]
def tV(h:nQ k v=ab):RelV (kV k) v:=by
 rcases kA h with⟨i,t,rfl,rfl⟩|⟨x,t,rfl,rfl⟩
 .show#[t,rfl]
 .show#[t,rfl]
def UY(hc:X.calm=ab):cN X (.type "list") (λxs H Q=>∃d kvs,xs=[.ref d]/\H d=aa (.dK kvs)/\∀l,H l=ae->Q (.ref l) (aL H l (.lst (kvs.map λn=>kV n.1)))):=by
 intro C s G H xs us Q I r h;let#[d,kvs,rfl,hd,q]:=h;let#[u,rfl,ru]:=vals1 r;cases ru;let#[hz,N,vs,R,E]:=(show bZ X.prog X.w H s.heap d (.dK kvs) from I.hok d _ hd);let#[ep,T]:=E.dictAt;let hl:=↥R;apply PySem.W.kdl_call (PySem.W.kdl_dict (knd:=bT X.prog X.w) (kvs:=vs) (ep:=ep) N) (I.ok.hd hc) T (by rw[<-hl];show hz) λh' tk c M hk p J=>?_;apply#[.ref ⇑s,_,I.laid (o:=.lst (kvs.map λn=>kV n.1)) (t':=tk) hk (Aj _) #[by rw[Ab];show hz,c.toList,M,?_,by rw[Hb];show p],rfl,q _ (I.hok.fresh (Aj _))];apply oZ (by let L:=J.1;let Z:↥c.toList=c.size:=Fj;let F:↥(kvs.map λn=>kV n.1)=↥kvs:=Ab ..;lia) λj v g=>?_;let#[k,x,B,D]:=J.2 j v (by rw[<-Fm];show g);let#[y,O]:=xT R B;show#[kV k,by rw[Az,O];rfl,tV D]
def D8{n:Nat}(i:Nat)(h:i≠0):n+i≠n:=by lia
def gF{n a:Nat}(i:Nat)(h:a<n):a≠n+i:=by lia
def qU{n a:Nat}(h:a<n):a≠n:=by lia
def D9{n:Nat}(i:Nat):n<=n+i:=by lia
def EA:Cz "zip" = aa (.type "zip"):=by decide +kernel
end
section
variable {X:Cx}
noncomputable def xU(K:Ac)(a:Am)(xs:↑V):It:=
 #[λi H=>bL K H a xs/\i<↥xs,
   λi H x l=>∃p u,xs[i]? = aa u/\H p=ae/\x=.ref p/\l=aL H p (.tup [.int (i:Nat),u]),
   λi H=>bL K H a xs/\↥xs<=i]
def Inv.laidT{C:Pn}{G:St}{H:Hp}{s:Ak}{fp:↑Am}{y:Dz}{tk:Nat}{xs:↑V}{its:↑Ae}(I:Inv X C G H s)(hf:∀b∈fp,gR X C H b)(j:∀q o,q∉fp->s.heap.get? q=aa o->y.get? q=aa o)(hz:↥xs<=Ap)(R:aY xs its)(l:y.get? ⇑s=aa {cls:=.type "tuple",data:=.seq its.toArray}):
  Inv X C G (aL H ⇑s (.tup xs)) {s with heap:=y,toks:=tk}:=by
 let d:H ⇑s=ae:=I.hok.fresh (Aj _);let A:∀q∈fp,H q=ae:=λq hq=>(hf q hq).1;apply I.step (g':=s.gens) (d':=s.drawn) (t':=tk) (ch:=fp) (λq hq=>#[(hf q hq).2.2.2.1,(hf q hq).2.1,(hf q hq).2.2.2.2.1,(hf q hq).2.2.2.2.2])
  (λq o _ _ hc e _=>j q o hc e) (λq o _ _ hc e _=>#[o.slots,j q o hc e]) (λq o _ e n=>by rw[bD (Bl (Ba e))];show n)
  (λq o hc e=>#[o,j q o hc e]) (λq L e=>by rw[bD (eR e d)];show e) (λq o L e=>by rw[bD (eR e d)];show e) (λq ps e=>#[#[],by rw[bD (eR e d),e];simp]) (λm N=>?_) ?_ I.bare
 .let#[o,es,ep,f,r]:=N;show#[o,es,ep,j _ o (λz=>absurd rfl (hf _ z).2.1) f,r]
 .intro q o e
  by_cases hq:q=⇑s
  .subst hq;rw[b7]at e;cases e;show#[hz,its,R,#[_,l,rfl,_,rfl]]
  .rw[bD hq]at e;apply(I.hok q o e).stay (λt J ht g=>j t J (λz=>?_) g) (λt g=>by rw[bD (eR g d)];show g) λt L g=>by rw[bD (eR g d)];show g
   let W:=A t z;rcases ht with rfl|ht
   .rw[W]at e;cases e
   .rw[W]at ht;cases ht
def Inv.turnedT{C:Pn}{G:St}{H:Hp}{s:Ak}{fp:↑Am}{y:Dz}{tk:Nat}(I:Inv X C G H s)(hf:∀b∈fp,gR X C H b)(j:∀q o,q∉fp->s.heap.get? q=aa o->y.get? q=aa o):Inv X C G H {s with heap:=y,toks:=tk}:=by
 let A:∀q∈fp,H q=ae:=λq hq=>(hf q hq).1;apply I.step (g':=s.gens) (d':=s.drawn) (t':=tk) (ch:=fp) (λq hq=>#[(hf q hq).2.2.2.1,(hf q hq).2.1,(hf q hq).2.2.2.2.1,(hf q hq).2.2.2.2.2])
   (λq o _ _ hc e _=>j q o hc e) (λq o _ _ hc e _=>#[o.slots,j q o hc e]) (λq o _ e n=>n)
   (λq o hc e=>#[o,j q o hc e]) (λq L e=>e) (λq o L e=>e) (λq ps e=>#[#[],by rw[e];simp]) (λm N=>?_) ?_ I.bare
 .let#[o,es,ep,f,r]:=N;show#[o,es,ep,j _ o (λz=>absurd rfl (hf _ z).2.1) f,r]
 .intro q o e;apply(I.hok q o e).stay (λt J ht g=>j t J (λz=>?_) g) (λt g=>g) λt L g=>g;let W:=A t z;rcases ht with rfl|ht
  .rw[W]at e;cases e
  .rw[W]at ht;cases ht
theorem UZ{P:Be}{w:Bv}{K:Ac}{es:↑Cm}{kx:Nat}{r:Ih}(a e it:Am)(xs:↑V)(N:e≠it):
  iK P w K (.Tuple es kx r) (xU K a xs) [e,it] e (λi h=>(∃old,IsEnum h e it (i:Nat) old)/\h.IsListIter it a i) where
 mem:=by simp
 obj:=λi h st c hc=>by
  obtain⟨⟨old,L⟩,⟨F,T,_,p⟩⟩:=st;simp only[Ax,Fi,or_false]at hc;rcases hc with rfl|rfl
  .show#[_,L,λv q=>by cases q]
  .show#[_,T,λv q=>by rw[p]at q;cases q]
 keep:=λi h h' st k=>by
  obtain⟨⟨old,L⟩,⟨F,T,W⟩⟩:=st;show#[#[old,k e (by simp) _ L],#[F,k it (by simp) _ T,W]]
 item:=by
  intro X m hw Z hc i C s G H E I hf st hg;subst m hw Z;obtain⟨⟨old,L⟩,T⟩:=st;let#[n,hi]:=hg;let#[its,R,pl,hz]:=I.list n;let#[u,Y,ru]:=R.get (Bj hi);apply wpAny_pyNext_enum_item L T pl.isList (x:=u) (by simpa using Y) N λh' f g J O hk=>?_;apply#[_,rfl,wpAny_letOwnedTupleGo_enum f λy U sb=>?_];let d:H ⇑s=ae:=I.hok.fresh (Aj _);let b:e<⇑s:=Ba L;let D:it<⇑s:=by let#[_,q,_]:=T;show Ba q
  let j:∀q o,q∉[e,it]->s.heap.get? q=aa o->y.get? q=aa o:=λq o hq eq=>by
   simp only[Ax,Fi,or_false,not_or]at hq;show(sb.2 q hq.1).trans (hk q o hq.1 hq.2 eq)
  let l:y.get? ⇑s=aa {cls:=.type "tuple",data:=.seq [.int (i:Nat) s.toks,u].toArray}:=(sb.2 _ (Co b)).trans J;let M:Inv X C G (aL H ⇑s (.tup [.int (i:Nat),xs[i]])) {s with heap:=y,toks:=s.toks+1}:=I.laidT (its:=[.int (i:Nat) s.toks,u]) hf j (by change 2<=Ap;decide) (.cons #[_,rfl] (.cons ru .nil)) l;apply#[.ref ⇑s,_,M,rfl,#[⇑s,xs[i],Bj hi,d,rfl,rfl],#[#[u,by rw[Td];show U],g.extBut sb.extBut N.symm],λq hq=>?_];rw[bD]
  .show(hf q hq).1
  .intro eq;subst eq;simp only[Ax,Fi,or_false]at hq;rcases hq with q|q
   .show Co b q
   .show Co D q
 done:=by
  intro X m hw Z hc i C s G H E I hf st hg;subst m hw Z;obtain⟨⟨old,L⟩,T⟩:=st;let#[n,t]:=hg;let#[its,R,pl,hz]:=I.list n;let B:=↥R;apply wpAny_pyNext_enum_end (I.ok.hd hc) L T pl.isList (by simp;lia) λh' hk=>#[rfl,?_]
  show I.turnedT (tk:=s.toks) hf λq o hq eq=>hk q o (λz=>hq (by simp[z])) eq
 self:=λ_ _ _ _ _ st h=>by
  obtain⟨⟨old,L⟩,_⟩:=st;show Pb L h
def U0(K:Ac)(d:TA):TI:=λG H R=>d G H λvs H1=>∃a xs,vs=[.ref a]/\bL K H1 a xs/\R (xU K a xs) H1
def U1{a:Cm}{d:TA}{p pos:Ih}{es:↑Cm}{kx:Nat}{r:Ih}(hg:Gl X "enumerate")(N:X.mg "enumerate" = ae)(T:PA X [a] d)(F:Cg [a] X.env=[(ac,El a X.env)]:=by rfl):
  PI X (.Tuple es kx r) (.Call (.Name "enumerate" p) [a] [] pos) (U0 X.K d):=by
 intro C s G H R I h;apply Wu (fP I hg N boot_enumerate (Bx (aV (T pos C s G H _ I h) λus U E=>?_) F rfl));let#[vs,H1,M,l,W]:=E;let#[a,xs,rfl,n,q]:=W;let#[u,rfl,ru]:=vals1 l;cases ru;let#[its,j,pl,hz]:=M.list n;apply call_enumerate_list pl.isList λh' J Y f k=>?_;apply Pb J ?_;apply#[⇑U+1,[⇑U+1,⇑U],_,_,H1,rfl,M.kept (t':=U.toks) k,UZ a _ _ xs (D8 1 ∅),#[#[_,J],Y],λq hq=>?_,q];let b:⇑U<=q:=by
  simp only[Ax,Fi,or_false]at hq;rcases hq with e|e
  .rw[e];show D9 1
  .rw[e];show Aj _
 show M.fpOk b (M.hok.fresh b)
end
section
variable {prog:Be}{w:Bv}{A:Cw}{E:Ae->Ak->Prop}{s:Ak}
inductive nY(prog:Be)(w:Bv)(hh:Dz)(A0:Cw):↑Ae->↑Int->Nat->Prop
 | nil:nY prog w hh A0 [] [] 0
 | cons {v:Ae} {vs:↑Ae} {i:Int} {is:↑Int} {d n:Nat} (h:∀(E:Ae->Ak->Prop) (s:Ak) (Q:Int->Ak->Prop),s.heap=hh->Q i {s with toks:=s.toks+d}->Bo (Cy prog w) A0 (pyHash v) Q E s) (t:nY prog w hh A0 vs is n):nY prog w hh A0 (v::vs) (i::is) (d+n)
def U2{a:Am}{o:Nl}{items:Array Ae}{n m:Nat}{is:↑Int}{Q:Int->Ak->Prop}(C:A.units<Fu)(f:s.heap.get? a=aa o)(N:o.cls=.type "tuple")(hd:o.data=.seq items n)(hi:nY prog w s.heap A.in1 items.toList is m)(h:Q (Wl (Fc is)) {s with toks:=s.toks+(m+1)}):Bo (Cy prog w) A (pyHash (.ref a)) Q E s:=by
 let H:s.TypeIs (.ref a) "tuple":=#[o,f,N];unfold pyHash
 first|unfold pyHashByItsType|skip
 first|refine Aa (wpAny_cRoomFor_or (.inr C) ?_)|skip
 apply Aa (Gp H Lh.lookup ?_);rw[Xa (by rw[beq_builtin_none];show Bc)];apply Aa (Gp H Lh.lookup ?_);apply Aa (wpAny_callSpecialIfBoundUnlessNone?_slot H Lh (Cs Lh H PySem.F.entry_tuple_hash ?_ (PySem.F.args_tuple_hash_1 _)));apply Aa (Ah ?_);apply Aa (Iz f hd ?_);apply Aa ?_;rw[<-Ls];apply Lm _
  (λrest (b:Array Int) j=>∃done left k u,is=done++left/\nY prog w s.heap A.in1 rest left u/\b.toList=done/\j = {s with toks:=s.toks+k}/\k+u=m)
  _ ?_ ?_ _ _ #[[],is,0,m,rfl,hi,rfl,rfl,by lia]
 .rintro x rest b j ⟨done,left,k,u,rfl,hl,Y,rfl,hk⟩;cases hl with
  | @cons _ _ i c d M B e=>
   apply Aa (B _ _ _ rfl ?_)
   first
    | exact Ah #[done++[i],c,k+d,M,by simp,e,by simp[Y],by simp[Lo],by lia]
    | exact Aa (Ah (Ah #[done++[i],c,k+d,M,by simp,e,by simp[Y],by simp[Lo],by lia]))
 .rintro b j ⟨done,left,k,u,rfl,hl,Y,rfl,hk⟩;cases hl;rw[Bn]at h;dsimp only;rw[Y];let v:k=m:=by lia
  subst v;apply wpAny_ret_mkInt ?_;unfold Wl at h
  by_cases G:(decide (-(2:Int) ^ 63<=Fc done)&&decide (Fc done<2 ^ 63))=ab
  .rw[Xb G]at h;change Bo _ _ (if (decide (-(2:Int) ^ 63<=Fc done)&&decide (Fc done<2 ^ 63))=ab then _ else _) Q E _;rw[Xb G];show Ah (by simpa [Lo] using h)
  .rw[Xa G]at h;change Bo _ _ (if (decide (-(2:Int) ^ 63<=Fc done)&&decide (Fc done<2 ^ 63))=ab then _ else _) Q E _;rw[Xa G];show Aa (Ic (Ah (by simpa [Lo] using h)))
inductive kY(prog:Be)(w:Bv)(hh:Dz)(A0:Cw):↑Ae->↑Ae->Bool->Prop
 | nil:kY prog w hh A0 [] [] ab
 | cons {u v:Ae} {us vs:↑Ae} {b c:Bool} (h:∀(E:Ae->Ak->Prop) (s:Ak) (Q:Bool->Ak->Prop),s.heap=hh->Q b s->Bo (Cy prog w) A0 (eqBool u v) Q E s) (t:kY prog w hh A0 us vs c):kY prog w hh A0 (u::us) (v::vs) (b&&c)
def kY.len{b:Bool}(h:kY prog w hh A0 us vs b):↥us=↥vs:=by
 induction h with
 | nil=>rfl
 | cons _ _ E=>simp[E]
def U3{L nb:Nat}{r:Bool}{Q:Bool->Ak->Prop}(C:A.units<Fu)(g:s.heap.get? a=aa G)(H:G.cls=.type "tuple")(O:G.data=.seq xs L)(x:s.heap.get? b=aa ob)(I:ob.cls=.type "tuple")(i:ob.data=.seq ys nb)(hi:kY prog w s.heap A.in1 xs.toList ys.toList r)(same:a=b->r=ab)(h:Q r s):Bo (Cy prog w) A (eqBool (.ref a) (.ref b)) Q E s:=by
 let d:s.TypeIs (.ref a) "tuple":=#[G,g,H];let y:s.TypeIs (.ref b) "tuple":=#[ob,x,I];unfold eqBool
 try with_reducible refine Dg ?_
 change Bo _ _ (if (Value.ref a==Value.ref b)=ab then _ else _) Q E s
 by_cases k:(Value.ref a==Value.ref b)=ab
 .rw[Xb k];let e:a=b:=by have:=eq_of_beq k;injection this
  rw[same e]at h;show Aa (Ic (Ah h))
 .rw[Xa k];apply Aa (Oc (op:=.Eq) d y Mg (Cs Mg d PySem.F.entry_tuple_eq ?_ (PySem.F.args_tuple_eq_2 _ _)) C);change Bo _ _ (Wm (.ref b) (.type "tuple")>>=_) _ _ s;apply Aa (Ft y Km ?_);simp only[Oj,Fz,if_false];apply Aa (Iz g O ?_);apply Aa (Iz x i ?_);apply Aa ?_;apply Lm _
   (λrest q j=>q.1=ae/\j=s/\∃us vs c,rest=List.zip us vs/\kY prog w s.heap A.in1 us vs c/\c=r)
   _ ?_ ?_ _ _ #[rfl,rfl,xs.toList,ys.toList,r,rfl,hi,rfl]
  .rintro⟨u,v⟩ rest q j ⟨hq,rfl,us,vs,c,hz,m,rfl⟩;cases m with
   | nil=>simp at hz
   | @cons K P J p V N B f=>
    simp only[Ii,Ff,Kz]at hz;obtain⟨⟨rfl,rfl⟩,rfl⟩:=hz;apply Aa (B _ _ _ rfl ?_);cases V with
    | true=>
     simp only[Oj,Fz,if_false];show Ah #[rfl,rfl,J,p,N,rfl,f,by rw[Bool.true_and]]
    | false=>
     simp only[Bool.not_false,if_true];rw[Qe]at h;show Aa (Ah (Ah (Ah #[_,rfl,(λe=>nomatch e),Ia h])))
  .rintro⟨W,n⟩ j ⟨hq,rfl,us,vs,c,hz,m,rfl⟩;simp only at hq;subst hq;apply Ah ?_;let hsz:(xs.size==ys.size)=ab:=by
    have:=hi.len;simp at this;simpa using this
   let hc:c=ab:=by
    cases m with
    | nil=>rfl
    | cons _ _=>simp at hz
   subst hc;apply#[_,rfl,(λe=>nomatch e),?_];change Bo _ _ (truthOfDropped (.bool (xs.size==ys.size))) Q E _;rw[hsz];show Ia h
def U4{K:Type}[DecidableEq K]{knd:KeyKind prog w K}{m:Nat}{ks:↑K}{a:Am}{Q:Bool->Ak->Prop}(hk:IsTupleKey knd s.heap ks a)(h:Q ab s):Bo (Cy prog w) A (Wx (m+1) (.ref a)) Q E s:=by
 let H:=hk.typeIs;let#[o,items,n,f,N,hd,hi]:=hk;unfold Wx;apply Aa (Gp H Mg.lookup ?_)
 try dsimp only
 apply Aa (Ft H Km ?_);rw[Xa ∅]
 try dsimp only
 apply Aa (Fp f hd (Aa ?_));change Bo _ _ (forIn items _ _) _ _ _;rw[<-Ls];apply Lm _ (λrest q j=>q.1=ae/\j=s/\∀v∈rest,Uq v=ab) _ ?_ ?_ _ _ #[rfl,rfl,hi.byValue]
 .rintro v rest q j ⟨hq,rfl,G⟩;rw[eqIsQuiet_byValue _ (G v Bw)];apply Aa (Ah ?_);rw[Xa ∅];show Ah #[rfl,rfl,λu b=>G u (Bp _ b)]
 .rintro⟨W,g⟩ j ⟨hq,rfl,_⟩;simp only at hq;subst hq;show Ah h
end
abbrev bQ:=aC×↑aC
section
variable {prog:Be}{w:Bv}
def tW(prog:Be)(w:Bv)(tl:↑Int)(h:Dz)(x:bQ)(a:Am):Prop:=
 ∃o items n v z ts,h.get? a=aa o/\o.cls=.type "tuple"/\o.data=.seq items n/\items.toList=v::.ref z::ts/\(bT prog w).is x.1 v=ab/\IsTupleKey (bT prog w) h x.2 z/\ItemsAre (bT prog w) (tl.map Sum.inl) ts
noncomputable def U5(prog:Be)(w:Bv)(tl:↑Int)(x:bQ):Int:=Wl (Fc ((bT prog w).hash x.1::tupleKeyHash (bT prog w) x.2::tl.map λi=>(bT prog w).hash (Sum.inl i)))
theorem EB:∀{tl:↑Int} {ts:↑Ae},ItemsAre (bT prog w) (tl.map Sum.inl) ts->nY prog w hh A ts (tl.map λi=>(bT prog w).hash (Sum.inl i)) ↥tl
 | [],_,h=>by cases h;show .nil
 | i::tl,_,h=>by
  cases h with
  | @cons _ v _ vs L t=>
   have:=nY.cons (A0:=A) (hh:=hh) (d:=1) (λE s Q _ q=>(bT prog w).pyHash L q) (EB t);rw[Bq,Uu];show this
theorem EC:∀{tl:↑Int} {ts us:↑Ae},ItemsAre (bT prog w) (tl.map Sum.inl) ts->ItemsAre (bT prog w) (tl.map Sum.inl) us->kY prog w hh A ts us ab
 | [],_,_,h,h'=>by cases h;cases h';show .nil
 | i::tl,_,_,h,h'=>by
  cases h with
  | @cons _ v _ vs L t=>
   cases h' with
   | @cons _ P _ p a t'=>show kY.cons (b:=ab) (λE s Q _ q=>(bT prog w).eqBool L a (by rw[Xd rfl];show q)) (EC t t')
def tW.inj(B:tW prog w tl h x a)(O:tW prog w tl h y a):x=y:=by
 let#[o,items,n,v,z,ts,J,_,Z,L,l,I,_]:=B;let#[R,p,M,P,c,d,T,_,g,j,r,b,_]:=O;obtain rfl:o=R:=Cj (J.symm.trans T);rw[Z]at g;injection g with g1 _;subst g1;rw[L]at j;simp only[Ff,Value.ref.injEq]at j;let#[rfl,rfl,rfl]:=j;show Jt ((bT prog w).inj _ _ _ l r) (I.inj b)
noncomputable def iZ(prog:Be)(w:Bv)(tl:↑Int):HeapKind prog w bQ where
 is:=tW prog w tl
 hash:=U5 prog w tl
 draws:=λx=>(1+((↥x.2+1)+↥tl))+1
 room:=λA=>A.units+1<Fu
 inj:=λB O=>B.inj O
 keeps:=λ{h h' k a d o es ep} x f hd F=>by
  let#[R,items,n,v,z,ts,J,D,Z,L,l,I,e7]:=x;let N:a≠d:=by
   rintro rfl;obtain rfl:R=o:=Cj (J.symm.trans f);rw[hd]at Z;show nomatch Z
  show#[R,items,n,v,z,ts,(F.2 a N).trans J,D,Z,L,l,I.keeps f hd F,e7]
 pyHash:=λ{A E s k a Q} C hk h=>by
  let#[o,items,n,v,z,ts,J,D,Z,L,l,I,e7]:=hk;let hu1:A.in1.units<Fu:=C;apply U2 (Ml C) J D Z (m:=1+((↥k.2+1)+↥tl)) (is:=(bT prog w).hash k.1::tupleKeyHash (bT prog w) k.2::tl.map λi=>(bT prog w).hash (Sum.inl i)) ?_ h;rw[L];apply .cons (d:=1) (λE j Y _ q=>(bT prog w).pyHash l q) (.cons (d:=↥k.2+1) (λE j Y es q=>?_) (EB e7));show wpAny_pyHash_tuple hu1 (by rw[es];show I) q
 eqBool:=λ{A E s x y a b Q} C B O h=>by
  let same:a=b->x=y:=λe=>by subst e;show B.inj O
  let#[o,items,n,v,z,ts,J,D,Z,L,l,I,e7]:=B;let#[R,p,M,P,pa',ts',T,t,V,U,S,f6,f7]:=O;let hu1:A.in1.units<Fu:=C;let X:(decide (x.1=y.1)&&(decide (x.2=y.2)&&ab))=decide (x=y):=by
   rw[Bool.and_true,Fd,De,decide_eq_true_eq,decide_eq_true_eq,decide_eq_true_eq,Prod.ext_iff]
  apply U3 (Ml C) J D Z T t V (r:=decide (x.1=y.1)&&(decide (x.2=y.2)&&ab)) ?_ (λe=>by rw[X,same e];simp) (by rw[X];show h);rw[L,U];apply .cons (λE j Y _ q=>(bT prog w).eqBool l S q) (.cons (λE j Y es q=>?_) (EC e7 f7));show wpAny_eqBool_tuple hu1 (by rw[es];show I) (by rw[es];show f6) q
 quiet:=λ{A E s k a Q} hk h=>by
  let#[o,items,n,v,z,ts,J,D,Z,L,l,I,e7]:=hk;let H:s.TypeIs (.ref a) "tuple":=#[o,J,D];unfold Wx;apply Aa (Gp H Mg.lookup ?_)
  try dsimp only
  apply Aa (Ft H Km ?_);rw[Xa ∅]
  try dsimp only
  apply Aa (Fp J Z (Aa ?_));change Bo _ _ (forIn items _ _) _ _ _;rw[<-Ls];apply Lm _ (λrest q j=>q.1=ae/\j=s/\∀u∈rest,Uq u=ab\/u=.ref z) _ ?_ ?_ _ _ #[rfl,rfl,λu C=>?_]
  .rintro u rest q j ⟨hq,rfl,G⟩;let next:∀K∈rest,Uq K=ab\/K=.ref z:=λK hu'=>G K (Bp _ hu');rcases G u Bw with c|rfl
   .rw[eqIsQuiet_byValue _ c];apply Aa (Ah ?_);rw[Xa ∅];show Ah #[rfl,rfl,next]
   .apply Aa (U4 I ?_);rw[Xa ∅];show Ah #[rfl,rfl,next]
  .rintro⟨W,g⟩ j ⟨hq,rfl,_⟩;simp only at hq;subst hq;show Ah h
  .rw[L]at C;rcases Ax.mp C with rfl|C
   .show .inl ((bT prog w).byValue _ _ l)
   .rcases Ax.mp C with rfl|C
    .show .inr rfl
    .show .inl (e7.byValue u C)
end
section
open PySem.W
section
variable {prog:Be}{w:Bv}{A:Cw}{E:Ae->Ak->Prop}{s:Ak}
def tX(v:Bool){i ep:Nat}{Q:Option Ae->Ak->Prop}(hit:cond v (s.heap.IsValIter it d i es.size ep) (s.heap.IsKeyIter it d i es.size ep))(c:s.heap.get? d=aa g)(M:g.data=.dict es ep)(hi:i<es.size)(X:∀h',cond v (h'.IsValIter it d (i+1) es.size ep) (h'.IsKeyIter it d (i+1) es.size ep)->Fb it s.heap h'->Q (aa (cond v es[i].val es[i].key)) {s with heap:=h'}):Bo (Cy prog w) A (Ij (.ref it)) Q E s:=by
 cases v
 all_goals
  dsimp only[cond]at hit X⊢;let H:=hit.typeIs;let#[o,f,hc,hd]:=id hit;let k:¬((Value.ref d==Value.none)=ab):=Bc
  first
   | let up:(s.heap.update it (Ue (·.setIfInBounds 1 (Hy ((i:Int)+1))))).IsKeyIter it d (i+1) es.size ep:=
    #[_,Ew _ f (Pw (Js hd _)),(Rt ..).trans hc,by rw[Js hd];simp[Hy]]
   | let up:(s.heap.update it (Ue (·.setIfInBounds 1 (Hy ((i:Int)+1))))).IsValIter it d (i+1) es.size ep:=
    #[_,Ew _ f (Pw (Js hd _)),(Rt ..).trans hc,by rw[Js hd];simp[Hy]]
  let a:=up.typeIs (s:={s with heap:=s.heap.update it (Ue (·.setIfInBounds 1 (Hy ((i:Int)+1))))});unfold Ij
  first
   | refine Aa (Hr (Dj (name:=Cd "__next__") H Gy (Cs Gy H PySem.F.entry_dict_keyiterator_next ?_ (PySem.F.args_dict_keyiterator_next_1 _))))
   | refine Aa (Hr (Dj (name:=Cd "__next__") H Gj (Cs Gj H PySem.F.entry_dict_valueiterator_next ?_ (PySem.F.args_dict_valueiterator_next_1 _))))
  refine Aa (Ah (Aa (Aa ?_)))
  first
   | refine Aa (Jx H (Ah ?_))|refine Aa (Ma H (Ah ?_))
   | refine Aa (Jw H (Ah ?_))|refine Aa (Lz H (Ah ?_))
  refine Aa (wpAny_fieldsOf f hd ?_)
  first
   | rw[show Hn "dict_keyiterator" = ac by decide]
   | rw[show Hn "dict_valueiterator" = ac by decide]
  rw[Xa Bc];change Bo _ _ (if (Value.ref d==Value.none)=ab then _ else _) _ _ _;rw[Xa k];refine Aa (Ah (Aa (Jh c M ?_)));rw[Xa (by simp)];refine Aa (Ah (Aa (Ql c M ?_)));rw[Xa (by simp)];refine Ah ?_;simp only[show ¬((i:Int)<0) by lia,if_false,Cv,Oa hi];refine Aa ?_
  first
   | refine Aa (Jx H (Ah ?_))|refine Aa (Ma H (Ah ?_))
   | refine Aa (Jw H (Ah ?_))|refine Aa (Lz H (Ah ?_))
  first
   | refine Aa (wpAny_isOneOf_keyiter H ?_)
   | refine Aa (Qr H ?_)
  change Bo _ _ (setField (.ref it) 1 (Hy ((i:Int)+1))>>=_) _ _ _
  first
   | refine Aa (Om f hd (by simp) (Aa (Dg (Aa (wpAny_isOneOf_keyiter a ?_)))))
   | refine Aa (Om f hd (by simp) (Aa (Dg (Aa (Qr a (Aa (Qr a ?_)))))))
  first
   | change Bo _ _ (pure es[i].key) _ _ _
   | change Bo _ _ (pure es[i].val) _ _ _
  exact Ah (Ah #[_,rfl,Ah (X _ up (Ha ..))])
def tY(v:Bool){i ep:Nat}{Q:Option Ae->Ak->Prop}(hh:A.handled=ae)(hit:cond v (s.heap.IsValIter it d i es.size ep) (s.heap.IsKeyIter it d i es.size ep))(c:s.heap.get? d=aa g)(M:g.data=.dict es ep)(hi:es.size<=i)(X:∀h',Qc it s.heap h'->Q ae {s with heap:=h'}):Bo (Cy prog w) A (Ij (.ref it)) Q E s:=by
 cases v
 all_goals
  dsimp only[cond]at hit X⊢;let H:=hit.typeIs;let#[o,f,hc,hd]:=id hit;let k:¬((Value.ref d==Value.none)=ab):=Bc;unfold Ij
  first
   | refine Aa (Hr (Dj (name:=Cd "__next__") H Gy (Cs Gy H PySem.F.entry_dict_keyiterator_next ?_ (PySem.F.args_dict_keyiterator_next_1 _))))
   | refine Aa (Hr (Dj (name:=Cd "__next__") H Gj (Cs Gj H PySem.F.entry_dict_valueiterator_next ?_ (PySem.F.args_dict_valueiterator_next_1 _))))
  refine Aa (Ah (Aa (Aa ?_)))
  first
   | refine Aa (Jx H (Ah ?_))|refine Aa (Ma H (Ah ?_))
   | refine Aa (Jw H (Ah ?_))|refine Aa (Lz H (Ah ?_))
  refine Aa (wpAny_fieldsOf f hd ?_)
  first
   | rw[show Hn "dict_keyiterator" = ac by decide]
   | rw[show Hn "dict_valueiterator" = ac by decide]
  rw[Xa Bc];change Bo _ _ (if (Value.ref d==Value.none)=ab then _ else _) _ _ _;rw[Xa k];refine Aa (Ah (Aa (Jh c M ?_)));rw[Xa (by simp)];refine Aa (Ah (Aa (Ql c M ?_)));rw[Xa (by simp)];refine Ah ?_;simp only[show ¬((i:Int)<0) by lia,if_false,Cv,Array.getElem?_eq_none hi];refine Aa ?_
  first
   | refine Aa (Jx H (Ah ?_))|refine Aa (Ma H (Ah ?_))
   | refine Aa (Jw H (Ah ?_))|refine Aa (Lz H (Ah ?_))
  change Bo _ _ (setField (.ref it) 0 .none>>=_) _ _ _;refine Aa (Om f hd (by simp) ?_);change Bo _ _ (Vn (.type "StopIteration") []>>=_) _ _ _;refine Aa ?_;simp only[Vn,newTuple];refine Aa (Du (Aa (m:=Mz _ _) (Ir (a:=Value.none) (by first|rfl|(simp only[Mz];rfl)) (Du ?_ (by size_fits)))) (by size_fits));simp only[raiseNew];refine Aa (Uv ?_);rw[show A.in1.handled=ae from hh];refine Aa (Ah (Vz ?_));refine Aa (Ft (T:="StopIteration") (b:=ab) #[_,Aw _ rfl,rfl] Ra ?_);exact Ah (X _ (((Ha ..).extBut.push _).push _))
theorem U6(hh:A.handled=ae)(I d:Am)(N:d≠I)(es:Array Eu)(ep:Nat):
  Walks prog w A I [I,d] [I] es.size (λi v=>∃e,es[i]? = aa e/\v=e.key) (λi h=>h.IsKeyIter I d i es.size ep/\∃g,h.get? d=aa g/\g.data=.dict es ep) where
 sub:=λb Y=>by simp at Y;simp[Y]
 frame:=λ_ _ _ st hk=>#[st.1.at λo e=>hk I (by simp) o e,let #[g,L,Z]:=st.2;#[g,hk d (by simp) g L,Z]]
 item:=λi s Q E hi st X=>by
  let#[g,L,Z]:=st.2;apply tX ac st.1 L Z hi λh' a u=>?_;show X _ h' s.toks #[es[i],by simp[hi],rfl] #[a,g,u.extBut d g N L,Z] λb o Y e=>u.extBut b o (λh=>Y (by simp[h])) e
 done:=λs Q E st X=>by
  let#[g,L,Z]:=st.2;show tY ac hh st.1 L Z (Aj _) λh' f=>X h' s.toks λb o Y e=>f b o (λh=>Y (by simp[h])) e
 self:=λ_ _ _ _ st X=>Qy st.1 X
theorem U7(hh:A.handled=ae)(I d:Am)(N:d≠I)(es:Array Eu)(ep:Nat):
  Walks prog w A I [I,d] [I] es.size (λi v=>∃e,es[i]? = aa e/\v=e.val) (λi h=>h.IsValIter I d i es.size ep/\∃g,h.get? d=aa g/\g.data=.dict es ep) where
 sub:=λb Y=>by simp at Y;simp[Y]
 frame:=λ_ _ _ st hk=>#[st.1.at λo e=>hk I (by simp) o e,let #[g,L,Z]:=st.2;#[g,hk d (by simp) g L,Z]]
 item:=λi s Q E hi st X=>by
  let#[g,L,Z]:=st.2;apply tX ab st.1 L Z hi λh' a u=>?_;show X _ h' s.toks #[es[i],by simp[hi],rfl] #[a,g,u.extBut d g N L,Z] λb o Y e=>u.extBut b o (λh=>Y (by simp[h])) e
 done:=λs Q E st X=>by
  let#[g,L,Z]:=st.2;show tY ab hh st.1 L Z (Aj _) λh' f=>X h' s.toks λb o Y e=>f b o (λh=>Y (by simp[h])) e
 self:=λ_ _ _ _ st X=>wpAny_pyIter_valiter st.1 X
def gG(h:Dz)(a:Am)(es:Array Eu)(ep:Nat):Prop:=∃o,h.get? a=aa o/\o.ExactDict/\o.data=.dict es ep
def gG.typeIs{ep:Nat}(h:gG s.heap d es ep):s.TypeIs (.ref d) "dict":=let #[o,ho,hc,_]:=h;#[o,ho,hc.1]
def gG.at{ep:Nat}(x:gG h d es ep)(e:∀o,h.get? d=aa o->h'.get? d=aa o):gG h' d es ep:=let #[o,ho,r]:=x;#[o,e o ho,r]
def gG.lt{ep:Nat}(x:gG h d es ep):d<h.objs.size:=let #[_,ho,_]:=x;Ba ho
def tZ{d:Am}{es:Array Eu}{ep:Nat}{Q:Ae->Ak->Prop}(hd:(d==Gi)=ac)(N:gG s.heap d es ep)(X:Q (.ref ⇑s) {s with heap:=s.heap.push {cls:=.type "dict_keyiterator",data:=.fields [.ref d,.int 0 0,.int es.size 0,.int ep 0].toArray}}):Bo (Cy prog w) A (Sn (.ref d)) Q E s:=by
 let H:=N.typeIs;let#[o,f,hc,a]:=N;apply Sy H PySem.F.slot_dict_iter (Cs PySem.F.slot_dict_iter H PySem.F.entry_dict_iter ?_ (PySem.F.args_dict_iter_1 _));unfold Hk.«dict.__iter__»;apply Aa ?_;unfold Builtin.Dict.dictSlotNone;apply Aa (Hu H (Ah ?_));change Bo _ _ (Lr d>>=_) _ _ _;unfold Lr;rw[Xa (by rw[hd];show Bc)];apply Aa (Ah (Aa (Jh f a (Aa (Ql f a ?_)))));apply Aa (Du (Ah #[_,rfl,"dict_keyiterator",_,#[_,Aw _ rfl,rfl],Gy.lookup,?_]));simpa [Hy] using X
def U8{ep:Nat}{Q:Ae->Ak->Prop}(c:s.heap.IsValuesView v d)(N:gG s.heap d es ep)(X:Q (.ref ⇑s) {s with heap:=s.heap.push {cls:=.type "dict_valueiterator",data:=.fields [.ref d,.int 0 0,.int es.size 0,.int ep 0].toArray}}):Bo (Cy prog w) A (Sn (.ref v)) Q E s:=by
 let H:=c.typeIs;let#[p,b,g,e]:=id c;let#[o,f,hc,a]:=N;apply Sy H PySem.F.slot_dict_values_iter (Cs PySem.F.slot_dict_values_iter H PySem.F.entry_dict_values_iter ?_ (PySem.F.args_dict_values_iter_1 _));unfold Hk.«dict_values.__iter__»;apply Aa (Ah (Aa ?_));unfold Builtin.Dict_items.dictOf;apply Aa (Dh b e (x:=.ref d) rfl (Ah (Aa ?_)));unfold Builtin.Dict_items.newIterator;apply Aa (Jh f a (Aa (Ql f a ?_)));simp only[show Hn "dict_valueiterator" = ac by decide,Fz,if_false];apply Du (Ah #[_,rfl,"dict_valueiterator",_,#[_,Aw _ rfl,rfl],Gj.lookup,?_]);simpa [Hy] using X
theorem ED{ep:Nat}(lo:(d==Gi)=ac):KdlSrc prog w "dict" d d es.size (λi v=>∃e,es[i]? = aa e/\v=e.key) (λh=>gG h d es ep) where
 type:=λ_ N=>N.typeIs
 there:=λ_ N=>#[N.lt,N.lt]
 keep:=λ_ _ N hk=>N.at λo e=>hk d (.inl rfl) o e
 notList:=by decide
 notTuple:=by decide
 hint:=λ_ _ _ _ N hq=>kdl_hint_dict N.typeIs hq
 iter:=λ_ _ hh N=>#[_,_,(λ_ _ hq=>tZ lo N hq),U6 hh _ d (Bl N.lt) es ep,#[#[_,Aw _ rfl,rfl,rfl],let #[o,ho,_,hd]:=N;#[o,Af _ ho,hd]]]
theorem U9{ep:Nat}:KdlSrc prog w "dict_values" r d es.size (λi v=>∃e,es[i]? = aa e/\v=e.val) (λh=>h.IsValuesView r d/\gG h d es ep) where
 type:=λ_ N=>N.1.typeIs
 there:=λ_ N=>#[let #[_,ho,_]:=N.1;Ba ho,N.2.lt]
 keep:=λ_ _ N hk=>#[let #[o,ho,x]:=N.1;#[o,hk r (.inl rfl) o ho,x],N.2.at λo e=>hk d (.inr rfl) o e]
 notList:=by decide
 notTuple:=by decide
 hint:=λ_ _ _ _ N hq=>kdl_hint_values N.1.typeIs hq
 iter:=λ_ _ hh N=>#[_,_,(λ_ _ hq=>U8 N.1 N.2 hq),U7 hh _ d (Bl N.2.lt) es ep,#[#[_,Aw _ rfl,rfl,rfl],let #[o,ho,_,hd]:=N.2;#[o,Af _ ho,hd]]]
end
end
end L2
namespace PySem
namespace Rv
open L2
def VA:TypeCalled "reversed" "reversed.__new__" "object.__init__":=
 #[by decide +kernel,by decide +kernel,#[_,_,F.mro_reversed],madeBy_type F.mro_reversed F.lookup_reversed_new (by decide +kernel),by decide +kernel,F.sub_reversed_self,
  .of (owner:="object") (n:="__init__") (by rw[Gq,Ef];kernel_rfl) (by decide +kernel) (by decide +kernel) (by decide +kernel) (by first|exact .inl (by decide +kernel)|exact .inr (by decide +kernel)) (by rw[My];kernel_rfl)]
def VB:Ld (.type "tuple") "__reversed__" = pure ae:=by rw[Gq,Ef];kernel_rfl
def rvObj(t:Am)(i:Int):Nl:={cls:=.type "reversed",data:=.fields [.ref t,Hy i].toArray}
def VC(t:Am)(items:Array Ae):
  Meets (Hk.«reversed.__new__» #[[.type "reversed",.ref t],[]]) (λ_ R s=>s.heap.IsTuple t items/\items.size<=Ap/\
   ∀i,R (.ok (.ret (.ref ⇑s))) {s with toks:=i,heap:=s.heap.push (rvObj t ((items.size:Int)-1))}):=
 .of_wp λprog w A R s h=>by
  let#[S,g,d,tk,os]:=s;let#[ht,hz,h]:=h;let q:=Heap.IsTuple.typeIs (s:=#[S,g,d,tk,os]) ht;unfold Hk.«reversed.__new__»;apply Aa (Ir (newClass_reversed _) (by
   dsimp only;apply Aa (Ir (a:=()) rfl (Aa (Ir (a:=()) (by first|rfl|kernel_rfl) ?_)))
   try dsimp only
   apply Aa (Gp q VB (Aa ?_))
   wp_delta
   apply Aa (Ft (T:="tuple") (b:=ac) q (by rw[My];kernel_rfl) ?_)
   try dsimp only
   rw[Xa ∅];apply Aa (Gp q F.slot_tuple_getitem.lookup ?_);generalize c:("tuple.__getitem__" : String)=id0;dsimp only;rw[Xb (by subst c;decide +kernel)];apply Ah ?_;rw[Xa ∅];apply Aa (Ww (s:=#[S,g,d,tk,os]) (t:=t) (items:=items) ht (by have:=iV;lia) (Aa (Ir (a:=aa (items.size:Int)) rfl (Aa (m:=Builtin.SmallTypes.newRecord _ _) ?_))));unfold Builtin.SmallTypes.newRecord;dsimp only;show Du (Ah #[_,rfl,h _]) (by first|size_fits|decide)))
section
variable {prog:Be}{w:Bv}{A:Cw}{E:Ae->Ak->Prop}{s:Ak}
def call_rev{Q:Ae->Ak->Prop}(ht:s.heap.IsTuple t items)(hz:items.size<=Ap)(h:∀i,Q (.ref ⇑s) {s with toks:=i,heap:=s.heap.push (rvObj t ((items.size:Int)-1))}):Bo (Cy prog w) A (call (.type "reversed") [.ref t]) Q E s:=
 Vr VA ∅ (F.typeCall_reversed_1 _) (F.newCall_reversed_1 _) (λobj=>Qv obj _) F.entry_reversed_new (VC t items) #[ht,hz,λi=>#[#[_,Aw _ rfl,rfl],h i]]
def qV:Slot "reversed" "__next__" "reversed.__next__":=
 .of (owner:="reversed") (n:="__next__") (by rw[Gq,Ef];kernel_rfl) (by decide +kernel) (by decide +kernel) (by decide +kernel) (by first|exact .inl (by decide +kernel)|exact .inr (by decide +kernel)) (by rw[My];kernel_rfl)
def EE:Slot "reversed" "__iter__" "reversed.__iter__":=
 .of (owner:="reversed") (n:="__iter__") (by rw[Gq,Ef];kernel_rfl) (by decide +kernel) (by decide +kernel) (by decide +kernel) (by first|exact .inl (by decide +kernel)|exact .inr (by decide +kernel)) (by rw[My];kernel_rfl)
def EF:Uo table "reversed.__next__" = aa Hk.«reversed.__next__»:=To (by kernel_rfl)
def VD:Uo table "reversed.__iter__" = aa Hk.«dict_keyiterator.__iter__»:=
 entryFor_alias (id':="dict_keyiterator.__iter__") (by kernel_rfl) (by first|rfl|decide +kernel) (by decide +kernel) (by kernel_rfl)
def xV:Manifest.owners.lookup (String.ofList ['d','e','s','r','e','v','e','r'].reverse)=aa Manifest.sig_reversed:=by kernel_rfl
def EG(a:Ae):Vt "reversed.__next__" #[[a],[]]:=by
 unfold Vt;rw[Ux (id:="reversed.__next__") (n:=['_','_','t','x','e','n','_','_']) (o:=['d','e','s','r','e','v','e','r']) (by kernel_rfl) xV]
 kernel_rfl
def VE(a:Ae):Vt "reversed.__iter__" #[[a],[]]:=by
 unfold Vt;rw[Ux (id:="reversed.__iter__") (n:=['_','_','r','e','t','i','_','_']) (o:=['d','e','s','r','e','v','e','r']) (by kernel_rfl) xV]
 kernel_rfl
abbrev IsRv(h:Dz)(a t:Am)(i:Int):Prop:=h.get? a=aa {cls:=.type "reversed",dict:=ae,data:=.fields [.ref t,Hy i].toArray,slots:=#[]}
def i0{i:Int}(x:IsRv s.heap a t i):s.TypeIs (.ref a) "reversed":=#[_,x,rfl]
def next_item{a t:Am}{i:Nat}{items:Array Ae}{x:Ae}{Q:Option Ae->Ak->Prop}(G:IsRv s.heap a t i)(ht:s.heap.IsTuple t items)(B:items[i]? = aa x)(hi:(i:Int)<2 ^ 63)(X:∀h' tk,IsRv h' a t ((i:Int)-1)->Fb a s.heap h'->Q (aa x) {s with heap:=h',toks:=tk}):Bo (Cy prog w) A (Ij (.ref a)) Q E s:=by
 unfold Ij;apply Aa (Hr (Dj (name:=Cd "__next__") (i0 G) qV (Cs qV (i0 G) EF ?_ (EG _))));unfold Hk.«reversed.__next__»;apply Aa (Ir (a:=(Value.ref a,[])) rfl ?_);dsimp only;apply Aa (Dh G rfl (x:=.ref t) rfl (Aa (Dh G rfl (x:=Hy (i:Int)) rfl ?_)));change Bo _ _ (if (i:Int)<0 then _ else _) _ _ _;rw[Xa (by lia)];apply Aa (Gp ht.typeIs F.slot_tuple_getitem.lookup ?_);rw[Xa ∅];let r:i<items.size:=(Ig.mp B).1;let b:gW items.size (i:Int)=aa i:=by unfold gW;rw[Xb (by lia),Xb (by lia),Cv]
 apply Aa (wpAny_mkInt (Aa (Hr (getItem_tuple (j:=i) (x:=x) ht (by lia) hi (xB b).1 B ?_))));dsimp only;apply Aa (Dh (s:={s with toks:=s.toks+1}) G rfl (x:=Hy (i:Int)) rfl ?_);show Aa (Gg (s:={s with toks:=s.toks+1}) G (by simp) λL l sb=>Ah #[x,rfl,Ah (X L _ l sb)])
def next_end{a t:Am}{Q:Option Ae->Ak->Prop}(hh:A.handled=ae)(G:IsRv s.heap a t (-1))(X:∀h',Qc a s.heap h'->Q ae {s with heap:=h'}):Bo (Cy prog w) A (Ij (.ref a)) Q E s:=by
 unfold Ij;apply Aa (Hr (Dj (name:=Cd "__next__") (i0 G) qV (Cs qV (i0 G) EF ?_ (EG _))));unfold Hk.«reversed.__next__»;apply Aa (Ir (a:=(Value.ref a,[])) rfl ?_);dsimp only;apply Aa (Dh G rfl (x:=.ref t) rfl (Aa (Dh G rfl (x:=Hy (-1)) rfl ?_)));change Bo _ _ (if (-1:Int)<0 then _ else _) _ _ _;rw[Xb ∅];apply Aa (Ic (Aa ?_))
 wp_delta
 apply Aa (Gg G (by simp) λL l d=>Gg l (by simp) λZ P i=>Aa ?_);unfold Ke;apply Aa (m:=Vn (.type "StopIteration") []) ?_;simp only[Vn,newTuple];apply Aa (Du (Aa (m:=Mz _ _) (Ir (a:=Value.none) (by first|rfl|(simp only[Mz];rfl)) (Du ?_ (by size_fits)))) (by size_fits));simp only[raiseNew];apply Aa (Uv ?_);rw[show A.in1.handled=ae from hh];apply Aa (Ah (Vz (Aa ?_)));apply Ft (T:="StopIteration") (b:=ab) #[_,Aw _ rfl,rfl] Ra (Ah (X _ λc o hc e=>?_));show Af _ (Af _ (i.extBut _ _ hc (d.extBut _ _ hc e)))
def iter_self{i:Int}{Q:Ae->Ak->Prop}(G:IsRv s.heap a t i)(h:Q (.ref a) s):Bo (Cy prog w) A (Sn (.ref a)) Q E s:=by
 apply Sy (i0 G) EE (Cs EE (i0 G) VD ?_ (VE _));change Bo _ _ (ret (.ref a)) _ _ s;show Ah #[_,rfl,"reversed",_,i0 G,qV.lookup,h]
end
theorem VF(hh:A.handled=ae)(I t:Am)(N:t≠I)(items:Array Ae)(hz:items.size<=Ap):
  Walks prog w A I [I,t] [I] items.size (λi v=>items[items.size-1-i]? = aa v) (λi h=>i<=items.size/\IsRv h I t ((items.size:Int)-1-(i:Int))/\h.IsTuple t items) where
 sub:=λb Y=>by simp at Y;simp[Y]
 frame:=λi h h' x hk=>#[x.1,hk I (by simp) _ x.2.1,by let#[o,e,r]:=x.2.2;show#[o,hk t (by simp) o e,r]]
 item:=λi s Q E hi x X=>by
  let#[x1,x2,x3]:=x;let B:items[items.size-1-i]? = aa (items[items.size-1-i]'(by lia)):=Oa (by lia);rw[show(items.size:Int)-1-(i:Int)=((items.size-1-i:Nat):Int) by lia]at x2;apply next_item x2 x3 B (by have:=iV;lia) λh' tk r sb=>X _ h' tk B #[hi,?_,?_] λb o Y a=>sb.extBut b o (λh=>Y (by simp[h])) a
  .rw[show(items.size:Int)-1-((i+1:Nat):Int)=((items.size-1-i:Nat):Int)-1 by lia];show r
  .let#[o,e,q]:=x3;show#[o,(sb.2 t N).trans e,q]
 done:=λs Q E x X=>by
  let x2:=x.2.1;rw[show(items.size:Int)-1-(items.size:Int) = -1 by lia]at x2;show next_end hh x2 λh' m=>X h' s.toks λb o Y a=>m b o (λh=>Y (by simp[h])) a
 self:=λ_ _ _ _ x X=>iter_self x.2.1 X
end Rv
end PySem
namespace PySem
namespace Rv
open L2
section
variable {prog:Be}{w:Bv}{A:Cw}{E:Ae->Ak->Prop}{s:Ak}
def no_len:Ld (.type "reversed") "__len__" = pure ae:=by rw[Gq,Ef];kernel_rfl
def has_hint:Ld (.type "reversed") "__length_hint__" = pure (aa (.builtin "reversed.__length_hint__")):=by rw[Gq,Ef];kernel_rfl
def EH:Slot "reversed" "__length_hint__" "reversed.__length_hint__":=
 .of (owner:="reversed") (n:="__length_hint__") (by rw[Gq,Ef];kernel_rfl) (by decide +kernel) (by decide +kernel) (by decide +kernel) (by first|exact .inl (by decide +kernel)|exact .inr (by decide +kernel)) (by rw[My];kernel_rfl)
def VG:Uo table "reversed.__length_hint__" = aa Hk.«reversed.__length_hint__»:=To (by kernel_rfl)
def VH(a:Ae):Vt "reversed.__length_hint__" #[[a],[]]:=by
 unfold Vt;rw[Ux (id:="reversed.__length_hint__") (n:=['_','_','t','n','i','h','_','h','t','g','n','e','l','_','_']) (o:=['d','e','s','r','e','v','e','r']) (by kernel_rfl) xV]
 kernel_rfl
def VI{r t:Am}{items:Array Ae}{Q:Ae->Ak->Prop}(G:IsRv s.heap r t ((items.size:Int)-1))(ht:s.heap.IsTuple t items)(hz:items.size<=Ap)(h:∀tk i,Q (.int items.size tk) {s with toks:=i}):Bo (Cy prog w) A (call (.builtin "reversed.__length_hint__") [.ref r]) Q E s:=by
 apply Cs EH (i0 G) VG ?_ (VH _);unfold Hk.«reversed.__length_hint__»;let d:=iV;apply Aa (Ir (a:=Value.ref r) rfl (Aa (Dh G rfl (x:=.ref t) rfl ?_)));rw[Xa (show ¬(Value.ref t==Value.none)=ab from Bc)];apply Aa (Ww (t:=t) (items:=items) ht (by lia) (Aa (Ir (a:=aa (items.size:Int)) rfl ?_)))
 try dsimp only
 apply Aa (Dh (s:={s with toks:=s.toks+1+1}) G rfl (x:=Hy ((items.size:Int)-1)) rfl ?_);change Bo _ _ (if (items.size:Int)<(items.size:Int)-1+1 then _ else _) _ _ _;rw[Xa (by lia),show(items.size:Int)-1+1=items.size by lia];show Aa (wpAny_mkInt (Ah #[_,rfl,h _ _]))
def hint{r t:Am}{items:Array Ae}{Q:Bool->Ak->Prop}(G:IsRv s.heap r t ((items.size:Int)-1))(ht:s.heap.IsTuple t items)(hz:items.size<=Ap)(h:∀b tk,Q b {s with toks:=tk}):Bo (Cy prog w) A (Jo (.ref r)) Q E s:=by
 unfold Jo;apply Aa (Gp (i0 G) no_len ?_)
 try dsimp only
 rw[Xa ∅];rw[Xa ∅];apply Aa (Gp (i0 G) has_hint ?_);generalize c:("reversed.__length_hint__" : String)=id0
 try dsimp only
 rw[show splitId id0=aa ("reversed","__length_hint__") from by subst c;decide +kernel];subst c;apply Aa (Ft (T:="reversed") (b:=ab) (i0 G) F.sub_reversed_self ?_)
 try dsimp only
 rw[Xa ∅];rw[Xa (by decide +kernel)];apply Aa (Ic (Aa (Ir (EH.bind _) ?_)))
 try dsimp only
 apply Aa (Hr (VI G ht hz λtk i=>?_));let J:asInt? (Value.int (items.size:Int) tk)=pure (aa (items.size:Int)):=rfl;change Bo _ _ (asInt? (Value.int (items.size:Int) tk)>>=_) _ _ _;rw[J,pure_bind]
 try dsimp only
 let d:=iV;let a:Jr (items.size:Int)=ab:=by
  unfold Jr;rw[De];show#[Xd (by lia),Xd (by lia)]
 rw[Xa (show ¬(!Builtin.List.listFitsIndex (items.size:Int))=ab by rw[a];show Bc),Xa (show ¬(items.size:Int)<0 by lia),Xa (by rw[Cv];show λz=>absurd z (by rw[xF hz];decide))];show Ah (h _ _)
end
end Rv
end PySem
namespace PySem
namespace Rv
open L2
section
variable {prog:Be}{w:Bv}{A:Cw}{E:Ae->Ak->Prop}{s:Ak}
def extend_rev{R:Tp->Ak->Prop}{S r t:Am}{items:Array Ae}{a:Nat}(hh:A.handled=ae)(G:IsRv s.heap r t ((items.size:Int)-1))(ht:s.heap.IsTuple t items)(hz:items.size<=Ap)(p:S≠r)(x:S≠t)(l:t≠r)(O:s.heap.get? S=aa {cls:=.type "list",data:=.seq #[] a})(g:∀h' tk c d,(∀b o,b≠S->b≠r->s.heap.get? b=aa o->h'.get? b=aa o)->h'.get? S=aa {cls:=.type "list",dict:=ae,data:=.seq c d,slots:=#[]}->Pg (λi v=>items[items.size-1-i]? = aa v) c items.size->R (.ok (.ret .none)) {s with heap:=h',toks:=tk}):
  Bo (Cy prog w) A.in1 (Fg (.ref S) (.ref r) .none)
   (λfin j=>match fin with|.done f=>R (.ok f) j|.again d=>d.quiet=ab/\Mf (Cy prog w) A d R j) (λe j=>R (.error e) j) s:=by
 let W:=VF (prog:=prog) (w:=w) (A:=A.in1) hh r t l items hz;let z:S∉[r,t]:=by simp[p,x]
 let loop:∀(h:Dz) (k tk:Nat),IsRv h r t ((items.size:Int)-1)->h.IsTuple t items->(∀b o,b≠S->s.heap.get? b=aa o->h.get? b=aa o)->h.get? S=aa {cls:=.type "list",data:=.seq #[] k}->
   Mf (Cy prog w) A (.builtin "list.extend.loop" #[[.ref S,.ref r,.none],[]]) R {s with heap:=h,toks:=tk}:=λh k tk L Z hk F=>by
  apply codeAny_extend_loopS W.toS hz S z .none items.size 0 _ #[] k rfl (Cr _) #[Cr _,by simpa using L,Z] F (ItemsOf.nil _) λj c d N n J=>?_;rw[Moved.eq_with N];show g j.heap j.toks c d (λb o Y y e=>N.heap b o (by simp[Y,y]) (hk b o Y e)) n J
 unfold Fg;apply Aa (Ll (T:="reversed") (i0 G) ?_);rw[Xa (by simp[Builtin.List.listSameRef,p])];apply Aa (iter_self G (Aa (Dg (hint G ht hz λb tk=>?_))));apply wpAny_ite_split (λ_=>?_) (λ_=>Ah #[Kh Nu _,loop _ a _ G ht (λb o _ e=>e) O]);apply Aa (Ic (Aa (m:=Builtin.List.listTouch _) ?_));change Bo _ _ (Vd S (·.push .none)>>=λ_=>Vd S (·.pop)) _ _ _;let H:=Ew (Ik (·.push Value.none)) O rfl;let u:=Ew (Ik (·.pop)) H rfl;let V:∀b o,b≠S->s.heap.get? b=aa o->((s.heap.update S (Ik (·.push Value.none))).update S (Ik (·.pop))).get? b=aa o:=λb o Y e=>by
  rw[Gf _ _ (Ca Y),Gf _ _ (Ca Y)];show e
 apply Aa (Qj (s:={s with toks:=tk}) O rfl (Qj (hz:=by seq_fits) H rfl (Ah #[Kh Nu _,loop _ _ _ (V r _ (Ca p) G) ?_ V u])));let#[o,e,q]:=ht;show#[o,V t o (Ca x) e,q]
def list_rev{Q:Ae->Ak->Prop}(hh:A.handled=ae)(G:IsRv s.heap r t ((items.size:Int)-1))(ht:s.heap.IsTuple t items)(hz:items.size<=Ap)(l:t≠r)(X:∀h' tk c d,(∀b o,b≠r->s.heap.get? b=aa o->h'.get? b=aa o)->h'.get? ⇑s=aa {cls:=.type "list",dict:=ae,data:=.seq c d,slots:=#[]}->Pg (λi v=>items[items.size-1-i]? = aa v) c items.size->
   Q (.ref ⇑s) {s with heap:=h',toks:=tk}):Bo (Cy prog w) A (call (.type "list") [.ref r]) Q E s:=by
 let a:r<⇑s:=Ba G;let lt:t<⇑s:=by let#[o,e,_]:=ht;show Ba e
 apply Rb (Q₁:=λobj y=>obj=.ref ⇑s/\y = {s with heap:=s.heap.push {cls:=.type "list",data:=.seq #[]}}) PySem.F.called_list (PySem.F.typeCall_list_1 _) PySem.F.entry_list_init (code_list_new _ #[rfl,rfl]) ?_;rintro obj y ⟨rfl,rfl⟩;let k:(s.heap.push {cls:=.type "list",data:=.seq #[]}).get? ⇑s=aa {cls:=.type "list",data:=.seq #[]}:=Aw _ rfl;let H:=Ew (Ik λ_=>(#[]:Array Ae)) k rfl;let V:∀b o,b≠⇑s->s.heap.get? b=aa o->((s.heap.push {cls:=.type "list",data:=.seq #[]}).update ⇑s (Ik λ_=>(#[]:Array Ae))).get? b=aa o:=λb o Y e=>by
  rw[Gf _ _ (Ca Y)];show Af _ e
 apply#[#[_,k,rfl],PySem.F.args_list_init_2 _ _,?_];change Bo _ _ (Builtin.List.listItems (.ref ⇑s)>>=λold=>Builtin.List.listUpdate (.ref ⇑s) (λ_=>#[])>>=λ_=>letGo old.toList.reverse>>=λ_=>Fg (.ref ⇑s) (.ref r) .none) _ _ _;apply Aa (wpAny_listItems k rfl (Aa ?_));change Bo _ _ (Vd ⇑s (λ_=>#[])) _ _ _;apply Qj k rfl (Aa (Pc (extend_rev (A:=A.in1) hh (V r _ (Bl a) G) ?_ hz (Co a) (Co lt) l H λh' tk c d hk n J=>#[rfl,X h' tk c d (λb o Y e=>hk b o (Bl (Ba e)) Y (V b o (Bl (Ba e)) e)) n J])));let#[o,e,q]:=ht;show#[o,V t o (Bl lt) e,q]
end
end Rv
end PySem
namespace L2
section
variable {X:Cx}{a:Cm}{ta:TA}{p p2 pos pos2:Ih}
def EI(r:aY xs its)(h:Pg (λi v=>its.toArray[its.toArray.size-1-i]? = aa v) acc its.toArray.size):aY xs.reverse acc.toList:=by
 let hl:=↥r;let T:acc.size=↥its:=by simpa using h.1
 let a:↥acc.toList=acc.size:=Fj;apply oZ (by rw[Ds];lia) λj v c=>?_;let d:acc[j]? = aa v:=by rw[<-Fm];show c
 let hj:j<acc.size:=(Ig.mp d).1;let e:=h.2 j v d;let U:its[↥its-1-j]? = aa v:=by simpa using e
 let M:↥its-1-j<↥xs:=by lia
 let#[u,C,ru]:=r.get (Bj M);rw[U]at C;cases C;apply#[xs[↥its-1-j],?_,ru];rw[Mr (by lia),Bj (by lia)];congr 2;lia
def VJ(K:Ac)(ta:TA):TE:=λG H Q=>ta G H λvs B=>∃t xs,vs=[.ref t]/\bJ K B t xs/\∀q,B q=ae->Q (.ref q) (aL B q (.lst xs.reverse))
def xW:Cz "reversed" = aa (.type "reversed"):=by decide +kernel
def EJ:Cz "list" = aa (.type "list"):=by decide +kernel
def VL(hc:X.calm=ab)(hg:Gl X "list")(N:X.mg "list" = ae)(m:Gl X "reversed")(x:X.mg "reversed" = ae)(T:PA X [a] ta)(w:Cg [.Call (.Name "reversed" p2) [a] [] pos2] X.env=[(ac,El (.Call (.Name "reversed" p2) [a] [] pos2) X.env)]:=by rfl)(f:Cg [a] X.env=[(ac,El a X.env)]:=by rfl):
  PE X (.Call (.Name "list" p) [.Call (.Name "reversed" p2) [a] [] pos2] [] pos) (VJ X.K ta):=by
 intro C s G H Q I h;apply Dy (fP I hg N EJ (Bx ?_ w rfl));rw[w];apply Jp (Dy (fP I m x xW (Bx (aV (T pos2 C s G H _ I h) λus U #[vs,B,M,l,W]=>?_) f rfl)));let#[t,xs,rfl,hq,q]:=W;let#[u,rfl,ru]:=vals1 l;cases ru;let#[its,R,pl,hz]:=M.tuple hq;let hsz:its.toArray.size<=Ap:=by rw[Bg];have:=↥R;lia
 apply Rv.call_rev (t:=t) (items:=its.toArray) pl hsz λi=>Jz ?_;let lt:t<⇑U:=by let#[o,e,_]:=(show U.heap.IsTuple t its.toArray from pl);show Ba e
 apply Rv.list_rev (s:={U with toks:=i,heap:=U.heap.push (Rv.rvObj t ((its.toArray.size:Int)-1))}) (t:=t) (items:=its.toArray) (M.ok.hd hc) (Aw _ rfl) ?_ hsz (Bl lt) λh' tk c d hk O J=>?_
 .let#[o,e,r]:=(show U.heap.IsTuple t its.toArray from pl);show#[o,Af _ e,r]
 .let S:({U with toks:=i,heap:=U.heap.push (Rv.rvObj t ((its.toArray.size:Int)-1))}:Ak).heap.objs.size=⇑U+1:=Es ..;rw[S]at O⊢;let D:⇑U<=⇑U+1:=Ht _;let g:=EI R J;apply#[.ref (⇑U+1),_,M.laid (o:=.lst xs.reverse) (t':=tk) (λb o e=>hk b o (Bl (Ba e)) (Af _ e)) D #[by rw[Ds];show hz,c.toList,d,g,by rw[Hb];show O],rfl,q _ (M.hok.fresh D)]
end
end L2
namespace PySem
namespace Zt
open L2
section
variable {prog:Be}{w:Bv}{A:Cw}{E:Ae->Ak->Prop}{s:Ak}
def VM{O:Type}{Q:O->Ak->Prop}(hh:A.handled=ae)(hE:∀h' e,(∀c o,s.heap.get? c=aa o->h'.get? c=aa o)->(∃o,h'.get? e=aa o/\o.cls=.type "StopIteration")->E (.ref e) {s with heap:=h'}):
  Bo (Cy prog w) A (Ke:Uc O) Q E s:=by
 unfold Ke;apply Aa (m:=Vn (.type "StopIteration") []) ?_;simp only[Vn,newTuple];apply Aa (Du (Aa (m:=Mz _ _) (Ir (a:=Value.none) (by first|rfl|(simp only[Mz];rfl)) (Du ?_ (by size_fits)))) (by size_fits));simp only[raiseNew];apply Aa (Uv ?_);rw[hh];apply Aa (Ah (Vz (hE _ _ (λc o e=>Af _ (Af _ e)) #[_,Aw _ rfl,rfl])))
structure eX(prog:Be)(w:Bv)(i l:Am)(xs:Array Ae)(St:Nat->Dz->Prop):Prop where
 keep:∀k h h',St k h->(∀c,c=i\/c=l->∀o,h.get? c=aa o->h'.get? c=aa o)->St k h'
 there:∀k h,St k h->i<h.objs.size
 item:∀(A:Cw) (E:Ae->Ak->Prop) (s:Ak) (k:Nat) (x:Ae) (Q:Ae->Ak->Prop),St k s.heap->xs[k]? = aa x->(∀h',St (k+1) h'->Fb i s.heap h'->Q x {s with heap:=h'})->
  Bo (Cy prog w) A (Dl (.ref i)) Q E s
 stop:∀(A:Cw) (E:Ae->Ak->Prop) (s:Ak) (k:Nat) (Q:Ae->Ak->Prop),A.handled=ae->St k s.heap->xs[k]? = ae->
  (∀h' e,Qc i s.heap h'->(∃o,h'.get? e=aa o/\o.cls=.type "StopIteration")->E (.ref e) {s with heap:=h'})->Bo (Cy prog w) A (Dl (.ref i)) Q E s
theorem EK(i l:Am)(N:l≠i)(xs:Array Ae):eX prog w i l xs (λk h=>h.IsListIter i l k/\h.IsList l xs) where
 keep:=λk h h' x hk=>#[x.1.at λo e=>hk i (.inl rfl) o e,x.2.at λo e=>hk l (.inr rfl) o e]
 there:=λk h x=>by let#[_,e,_]:=x.1;show Ba e
 item:=λA E s k x Q st B X=>wpAny_nextOf_list_item st.1 st.2 B λh' a b=>X h' #[a,st.2.at λo e=>(b.2 l N).trans e] b
 stop:=λA E s k Q hh st B j=>wpAny_nextOf_list_end hh st.1 st.2 B λh' e a b=>j h' e a b
theorem side_tuple(i l:Am)(hne:l≠i)(xs:Array Ae):eX prog w i l xs (λk h=>h.IsTupleIter i l k/\h.IsTuple l xs) where
 keep:=λk h h' x hk=>by
  obtain⟨⟨o,e,r⟩,⟨u,g,q⟩⟩:=x;show#[#[o,hk i (.inl rfl) o e,r],#[u,hk l (.inr rfl) u g,q]]
 there:=λk h x=>by let#[_,e,_]:=x.1;show Ba e
 item:=λA E s k x Q st hx hQ=>by
  obtain⟨⟨o,ho,hc,hd⟩,⟨u,hu,hcu,n,hdu⟩⟩:=st;let ty:s.TypeIs (.ref i) "tuple_iterator":=#[o,ho,hc];unfold Dl;apply Aa (Dj (name:=Cd "__next__") ty Lb (Cs Lb ty F.entry_tuple_iterator_next ?_ (F.args_tuple_iterator_next_1 _)));change Bo _ _ (Si (.ref i) 0>>=λq=>_) _ _ _;apply Aa (Dh ho hd (x:=.ref l) rfl ?_);change Bo _ _ (if (Value.ref l==Value.none)=ab then _ else _) _ _ s;rw[Xa (show ¬(Value.ref l==Value.none)=ab from λz=>nomatch z)];change Bo _ _ (Si (.ref i) 1>>=λq=>_) _ _ _;apply Aa (Dh ho hd (x:=.int k 0) rfl ?_);change Bo _ _ (seqItems? (.ref l)>>=λq=>_) _ _ _;apply Aa (Fp hu hdu ?_);simp only[Cv,hx];apply Aa (Om ho hd (by simp) (Ah #[x,rfl,Ah (hQ _ #[#[_,Ew _ ho (Pw (Js hd _)),(Rt ..).trans hc,?_],#[u,?_,hcu,n,hdu]] (Ha ..))]))
  .rw[Js hd];simp[Hy]
  .show(Gf _ _ (Ca hne)).trans hu
 stop:=λA E s k Q hh st hx hE=>by
  obtain⟨⟨o,ho,hc,hd⟩,⟨u,hu,hcu,n,hdu⟩⟩:=st;let ty:s.TypeIs (.ref i) "tuple_iterator":=#[o,ho,hc];unfold Dl;apply Aa (Dj (name:=Cd "__next__") ty Lb (Cs Lb ty F.entry_tuple_iterator_next ?_ (F.args_tuple_iterator_next_1 _)));change Bo _ _ (Si (.ref i) 0>>=λq=>_) _ _ _;apply Aa (Dh ho hd (x:=.ref l) rfl ?_);change Bo _ _ (if (Value.ref l==Value.none)=ab then _ else _) _ _ s;rw[Xa (show ¬(Value.ref l==Value.none)=ab from λz=>nomatch z)];change Bo _ _ (Si (.ref i) 1>>=λq=>_) _ _ _;apply Aa (Dh ho hd (x:=.int k 0) rfl ?_);change Bo _ _ (seqItems? (.ref l)>>=λq=>_) _ _ _;apply Aa (Fp hu hdu ?_);simp only[Cv,hx];apply Aa (Ic (Aa (Om ho hd (by simp) (VM hh λh' e hk he=>hE h' e (λc q hc' g=>hk c q ((Gf _ _ (Ca hc')).trans g)) he))))
structure Apart(z TI TO i1 i2 l1 l2:Am):Prop where
 nd : [z,TI,TO,i1,i2].Nodup
 a:l1≠z/\l1≠TI/\l1≠TO/\l1≠i1/\l1≠i2
 b:l2≠z/\l2≠TI/\l2≠TO/\l2≠i1/\l2≠i2
variable {z TI TO i1 i2 l1 l2:Am}{xs ys:Array Ae}{S1 S2:Nat->Dz->Prop}
def item{k:Nat}{Q:Ae->Ak->Prop}(D:Apart z TI TO i1 i2 l1 l2)(r:eX prog w i1 l1 xs S1)(W2:eX prog w i2 l2 ys S2)(hz:Rf s.heap z TI TO .none)(hI:Iq s.heap TI (.ref i1) (.ref i2))(hO:Iq s.heap TO a b)(L:S1 k s.heap)(Z:S2 k s.heap)(B:xs[k]? = aa x)(O:ys[k]? = aa y)(X:∀h',Rf h' z TI TO (Hy ⇑s)->Iq h' TO x y->S1 (k+1) h'->S2 (k+1) h'->Iq h' ⇑s x y->(∀c o,c≠z->c≠TO->c≠i1->c≠i2->s.heap.get? c=aa o->h'.get? c=aa o)->Q (.ref ⇑s) {s with heap:=h'}):
  Bo (Cy prog w) A (Hk.«zip.__next__» #[[.ref z],[]]) (λfin j=>∃v,fin=.done (.ret v)/\Q v j) E s:=by
 let nd:=D.nd;simp only[Cp,Ax,Eg,or_false,not_or,not_false_eq_true,Fh,and_true]at nd;obtain⟨⟨zI,zO,Y,C⟩,⟨IO,M,i⟩,⟨O1,O2⟩,n12⟩:=nd;let#[J,aI,aO,S,g]:=D.a;let#[bz,bI,bO,R,b2]:=D.b;change Bo _ _ (Si (.ref z) 2>>=λq=>_) _ _ _;apply Aa (Dh hz rfl (x:=.bool ac) rfl ?_);change Bo _ _ (Si (.ref z) 3>>=λq=>_) _ _ _;apply Aa (Dh hz rfl (x:=.ref TI) rfl (Aa (Fp hI rfl ?_)));change Bo _ _ (Dk (.ref z)>>=λq=>_) _ _ _;apply Aa ?_;unfold Dk;apply Aa (Dh hz rfl (x:=.none) rfl (Ah ?_));simp only[if_true];apply Aa (Ic (Aa (Dh hz rfl (x:=.ref TO) rfl (Aa (Gg hz (by simp) λH W U=>Aa ?_)))));simp only[Ks,List.zipIdx_nil,Lq,Py];let V:∀c,c=i1\/c=l1->c≠z/\c≠TO/\c≠i2:=λc hc=>by
  rcases hc with rfl|rfl
  .show#[Ca Y,Ca O1,n12]
  .show#[J,aO,g]
 let t:∀c,c=i2\/c=l2->c≠z/\c≠TO/\c≠i1:=λc hc=>by
  rcases hc with rfl|rfl
  .show#[Ca C,Ca O2,Ca n12]
  .show#[bz,bO,R]
 apply Aa (Aa (Sf ?_));change Bo _ _ (Dl (.ref i1)>>=λq=>_) _ _ _;apply Aa (r.item _ _ {s with heap:=H} k x _ (r.keep k _ _ L λc hc o e=>U.extBut c o (V c hc).1 e) B λG h d=>Ah ?_);let n:Iq G TO a b:=d.extBut _ _ O1 (U.extBut _ _ (Ca zO) hO);apply Aa (Fp n rfl (Aa (Qx n λf o3 K=>Aa (Pc (Ah ?_)))))
 replace o3:Iq f TO x b:=o3
 apply Aa (Aa (Sf ?_));change Bo _ _ (Dl (.ref i2)>>=λq=>_) _ _ _;apply Aa (W2.item _ _ {s with heap:=f} k y _ (W2.keep k _ _ Z λc hc o e=>K.extBut c o (t c hc).2.1 (d.extBut c o (t c hc).2.2 (U.extBut c o (t c hc).1 e))) O λg4 t4 I=>Ah ?_);let F:Iq g4 TO x b:=I.extBut _ _ O2 o3;apply Aa (Fp F rfl (Aa (Qx F λg5 p s5=>Aa (Pc (Ah (Ah ?_))))))
 replace p:Iq g5 TO x y:=p
 apply Aa (Fp p rfl (Aa (wpAny_newTuple ?_)));let size5:g5.objs.size=⇑s:=by rw[s5.1,I.1,K.1,d.1,U.1]
 let z5:Rf g5 z TI TO .ellipsis:=s5.extBut _ _ zO (I.extBut _ _ C (K.extBut _ _ zO (d.extBut _ _ Y W)));let lz:z<g5.objs.size:=Ba z5;apply Aa (m:=Builtin.SmallTypes.ownedTupleHandOut _ _) ?_;unfold Builtin.SmallTypes.ownedTupleHandOut;let z6:Rf (g5.push {cls:=.type "tuple",data:=.seq [x,y].toArray}) z TI TO .ellipsis:=Af _ z5;apply Aa (Gg z6 (by simp) λg7 z7 s7=>Gg z7 (by simp) λg8 z8 s8=>Ah #[_,rfl,?_]);let up:∀c o,c≠z->g5.get? c=aa o->g8.get? c=aa o:=λc o hc e=>s8.extBut _ _ hc (s7.extBut _ _ hc (Af _ e));let t8:Iq g8 g5.objs.size x y:=s8.extBut _ _ (Co lz) (s7.extBut _ _ (Co lz) (Aw _ rfl));let l:S1 (k+1) g8:=r.keep _ _ _ h λc hc o e=>up c o (V c hc).1 (s5.extBut _ _ (V c hc).2.1 (I.extBut _ _ (V c hc).2.2 (K.extBut _ _ (V c hc).2.1 e)));let P:S2 (k+1) g8:=W2.keep _ _ _ t4 λc hc o e=>up c o (t c hc).1 (s5.extBut _ _ (t c hc).2.1 e);change Q (.ref g5.objs.size) _
 replace z8:Rf g8 z TI TO (Hy g5.objs.size):=z8
 rw[size5]at z8 t8⊢;show X g8 z8 (up _ _ (Ca zO) p) l P t8 λc o N u T c4 e=>up c o N (s5.extBut _ _ u (I.extBut _ _ c4 (K.extBut _ _ u (d.extBut _ _ T (U.extBut _ _ N e)))))
def stop{k:Nat}{Q:Fin->Ak->Prop}(hh:A.handled=ae)(D:Apart z TI TO i1 i2 l1 l2)(r:eX prog w i1 l1 xs S1)(P:eX prog w i2 l2 ys S2)(hz:Rf s.heap z TI TO .none)(hI:Iq s.heap TI (.ref i1) (.ref i2))(hO:Iq s.heap TO a b)(L:S1 k s.heap)(Z:S2 k s.heap)(hend:xs[k]? = ae\/ys[k]? = ae)(hE:∀h' e,(∀c o,c≠z->c≠TO->c≠i1->c≠i2->s.heap.get? c=aa o->h'.get? c=aa o)->(∃o,h'.get? e=aa o/\o.cls=.type "StopIteration")->E (.ref e) {s with heap:=h'}):
  Bo (Cy prog w) A (Hk.«zip.__next__» #[[.ref z],[]]) Q E s:=by
 let nd:=D.nd;simp only[Cp,Ax,Eg,or_false,not_or,not_false_eq_true,Fh,and_true]at nd;obtain⟨⟨zI,zO,Y,C⟩,⟨IO,M,i⟩,⟨O1,O2⟩,n12⟩:=nd;let#[p,aI,aO,j,g]:=D.a;let#[bz,bI,bO,S,R]:=D.b;let V:∀c,c=i1\/c=l1->c≠z:=λc hc=>by rcases hc with rfl|rfl;show Ca Y;show p
 let t:∀c,c=i2\/c=l2->c≠z/\c≠TO/\c≠i1:=λc hc=>by
  rcases hc with rfl|rfl
  .show#[Ca C,Ca O2,Ca n12]
  .show#[bz,bO,S]
 change Bo _ _ (Si (.ref z) 2>>=λq=>_) _ _ _;apply Aa (Dh hz rfl (x:=.bool ac) rfl ?_);change Bo _ _ (Si (.ref z) 3>>=λq=>_) _ _ _;apply Aa (Dh hz rfl (x:=.ref TI) rfl (Aa (Fp hI rfl ?_)));change Bo _ _ (Dk (.ref z)>>=λq=>_) _ _ _;apply Aa ?_;unfold Dk;apply Aa (Dh hz rfl (x:=.none) rfl (Ah ?_));simp only[if_true];apply Aa (Ic (Aa (Dh hz rfl (x:=.ref TO) rfl (Aa (Gg hz (by simp) λH W U=>Aa ?_)))));simp only[Ks,List.zipIdx_nil,Lq,Py];apply Aa (Aa (Sf ?_));change Bo _ _ (Dl (.ref i1)>>=λq=>_) _ _ _;cases B:xs[k]? with
 | none=>
  apply Aa (r.stop _ _ {s with heap:=H} k _ hh (r.keep k _ _ L λc hc o e=>U.extBut c o (V c hc) e) B λG e d m=>?_);let#[oe,ge,ce]:=m;let n:Rf G z TI TO .ellipsis:=d _ _ Y W;let ez:e≠z:=λu=>by subst u;rw[n]at ge;cases ge;simp at ce
  show Gg n (by simp) λf _ K=>hE f e (λc o N _ T _ u=>K.extBut _ _ N (d _ _ T (U.extBut _ _ N u))) #[oe,K.extBut _ _ ez ge,ce]
 | some x=>
  let O:ys[k]? = ae:=by rcases hend with h|h;rw[B]at h;cases h;show h
  apply Aa (r.item _ _ {s with heap:=H} k x _ (r.keep k _ _ L λc hc o e=>U.extBut c o (V c hc) e) B λG X d=>Ah ?_);let J:Iq G TO a b:=d.extBut _ _ O1 (U.extBut _ _ (Ca zO) hO);apply Aa (Fp J rfl (Aa (Qx J λf l K=>Aa (Pc (Ah ?_)))));apply Aa (Aa (Sf ?_));change Bo _ _ (Dl (.ref i2)>>=λq=>_) _ _ _;apply Aa (P.stop _ _ {s with heap:=f} k _ hh (P.keep k _ _ Z λc hc o e=>K.extBut c o (t c hc).2.1 (d.extBut c o (t c hc).2.2 (U.extBut c o (t c hc).1 e))) O λy e I m=>?_);let#[oe,ge,ce]:=m;let q4:Rf y z TI TO .ellipsis:=I _ _ C (K.extBut _ _ zO (d.extBut _ _ Y W));let ez:e≠z:=λu=>by subst u;rw[q4]at ge;cases ge;simp at ce
  show Gg q4 (by simp) λg5 _ s5=>hE g5 e (λc o N F T v u=>s5.extBut _ _ N (I _ _ v (K.extBut _ _ F (d.extBut _ _ T (U.extBut _ _ N u))))) #[oe,s5.extBut _ _ ez ge,ce]
end
end Zt
end PySem
namespace PySem
namespace Zt
open L2
section
variable {prog:Be}{w:Bv}{A:Cw}{E:Ae->Ak->Prop}{s:Ak}{z TI TO i1 i2 l1 l2:Am}{xs ys:Array Ae}{S1 S2:Nat->Dz->Prop}
def next_item{k:Nat}{Q:Option Ae->Ak->Prop}(D:Apart z TI TO i1 i2 l1 l2)(r:eX prog w i1 l1 xs S1)(n:eX prog w i2 l2 ys S2)(hz:Rf s.heap z TI TO .none)(P:Iq s.heap TI (.ref i1) (.ref i2))(i:Iq s.heap TO a b)(L:S1 k s.heap)(Z:S2 k s.heap)(B:xs[k]? = aa x)(O:ys[k]? = aa y)(X:∀h',Rf h' z TI TO (Hy ⇑s)->Iq h' TO x y->S1 (k+1) h'->S2 (k+1) h'->Iq h' ⇑s x y->(∀c o,c≠z->c≠TO->c≠i1->c≠i2->s.heap.get? c=aa o->h'.get? c=aa o)->Q (aa (.ref ⇑s)) {s with heap:=h'}):
  Bo (Cy prog w) A (Ij (.ref z)) Q E s:=by
 let ty:s.TypeIs (.ref z) "zip":=#[_,hz,rfl];unfold Ij;show Aa (Hr (Dj (name:=Cd "__next__") ty Jf (Cs Jf ty Po (item D r n hz P i L Z B O λh' N u T t f V=>Ah (X h' N u T t f V)) (Oy _))))
def next_stop{k:Nat}{Q:Option Ae->Ak->Prop}(hh:A.handled=ae)(D:Apart z TI TO i1 i2 l1 l2)(r:eX prog w i1 l1 xs S1)(n:eX prog w i2 l2 ys S2)(hz:Rf s.heap z TI TO .none)(P:Iq s.heap TI (.ref i1) (.ref i2))(i:Iq s.heap TO a b)(L:S1 k s.heap)(Z:S2 k s.heap)(l:xs[k]? = ae\/ys[k]? = ae)(X:∀h',(∀c o,c≠z->c≠TO->c≠i1->c≠i2->s.heap.get? c=aa o->h'.get? c=aa o)->Q ae {s with heap:=h'}):Bo (Cy prog w) A (Ij (.ref z)) Q E s:=by
 let ty:s.TypeIs (.ref z) "zip":=#[_,hz,rfl];unfold Ij;apply Aa (Hr (Dj (name:=Cd "__next__") ty Jf (Cs Jf ty Po (stop hh D r n hz P i L Z l λh' e hk #[o,f,hc]=>?_) (Oy _))));show Aa (Ft (T:="StopIteration") (b:=ab) #[o,f,hc] Ra (Ah (X _ hk)))
end
noncomputable abbrev zh1(h:Dz)(a:Am):Dz:=h.push {cls:=.type "tuple_iterator",data:=.fields [.ref a,.int 0 0].toArray}
noncomputable abbrev zh2(h:Dz)(a b:Am):Dz:=(zh1 h a).push {cls:=.type "tuple_iterator",data:=.fields [.ref b,.int 0 0].toArray}
noncomputable abbrev zh3(h:Dz)(a b:Am):Dz:=(zh2 h a b).push {cls:=.type "tuple",data:=.seq [.ref h.objs.size,.ref (zh1 h a).objs.size].toArray}
noncomputable abbrev zh4(h:Dz)(a b:Am):Dz:=(zh3 h a b).push {cls:=.type "tuple",data:=.seq [.none,.none].toArray}
noncomputable abbrev zh5(h:Dz)(a b:Am):Dz:=(zh4 h a b).push {cls:=.type "zip",data:=.fields [.none,.bool ac,.bool ac,.ref (zh2 h a b).objs.size,.ref (zh3 h a b).objs.size].toArray}
def meets_new(a b:Am)(xs ys:Array Ae):
  Meets (Hk.«zip.__new__» #[[.type "zip",.ref a,.ref b],[]]) (λ_ R s=>s.heap.IsTuple a xs/\s.heap.IsTuple b ys/\R (.ok (.ret (.ref (zh4 s.heap a b).objs.size))) {s with heap:=zh5 s.heap a b}):=
 .of_wp λprog w A R s h=>by
  let#[S,g,d,tk,os]:=s;let#[ta,l,h]:=h;let f:=sub_zip;let i:Rn (Uj #[S,g,d,tk,os]) a xs:=ta;let c:Rn (Uj #[S.push {cls:=.type "tuple_iterator",data:=.fields [.ref a,.int 0 0].toArray},g,d,tk,os]) b ys:=by
   let#[o,e,r]:=(show S.IsTuple b ys from l);show#[o,Af _ e,r]
  wp_walk using Ka i,Ka c
  show#[_,rfl,h]
end Zt
end PySem
namespace L2
noncomputable def t5(K:Ac)(a b:Am)(xs ys:↑V):It:=
 #[λi H=>bJ K H a xs/\bJ K H b ys/\i<↥xs/\i<↥ys,
   λi H x l=>∃p u v,xs[i]? = aa u/\ys[i]? = aa v/\H p=ae/\x=.ref p/\l=aL H p (.tup [u,v]),
   λi H=>bJ K H a xs/\bJ K H b ys/\(↥xs<=i\/↥ys<=i)]
theorem VN{P:Be}{w:Bv}{K:Ac}{es:↑Cm}{kx:Nat}{px:Ih}(a b z TI TO i1 i2:Am)(xs ys:↑V)(D:Zt.Apart z TI TO i1 i2 a b):
  iK P w K (.Tuple es kx px) (t5 K a b xs ys) [z,TI,TO,i1,i2] z (λi h=>Rf h z TI TO .none/\Iq h TI (.ref i1) (.ref i2)/\(∃c d,Iq h TO c d)/\h.IsTupleIter i1 a i/\h.IsTupleIter i2 b i) where
 mem:=by simp
 obj:=λi h st c hc=>by
  obtain⟨L,Z,⟨p,q,F⟩,⟨n,T,_,d4⟩,⟨Q,O,_,d5⟩⟩:=st;simp only[Ax,Fi,or_false]at hc;rcases hc with rfl|rfl|rfl|rfl|rfl
  .show#[_,L,λv g=>nomatch g]
  .show#[_,Z,λv g=>nomatch g]
  .show#[_,F,λv g=>nomatch g]
  .show#[_,T,λv g=>by rw[d4]at g;cases g]
  .show#[_,O,λv g=>by rw[d5]at g;cases g]
 keep:=λi h h' st k=>by
  obtain⟨L,Z,⟨p,q,F⟩,⟨n,T,r4⟩,⟨Q,O,r5⟩⟩:=st;show#[k z (by simp) _ L,k TI (by simp) _ Z,#[p,q,k TO (by simp) _ F],#[n,k i1 (by simp) _ T,r4],#[Q,k i2 (by simp) _ O,r5]]
 item:=by
  intro X m hw A hc i C s G H E I hf st hg;subst m hw A;obtain⟨L,Z,⟨c,d,F⟩,T,O⟩:=st;let#[hqa,hqb,hi,hj]:=hg;let#[its,R,pl,hz]:=I.tuple hqa;let#[t,rv2,pl2,hz2]:=I.tuple hqb;let#[u,Y,ru]:=R.get (Bj hi);let#[v,J,rvv]:=rv2.get (Bj hj);apply Zt.next_item D (Zt.side_tuple i1 a D.a.2.2.2.1 its.toArray) (Zt.side_tuple i2 b D.b.2.2.2.2 t.toArray) L Z F #[T,pl] #[O,pl2] (x:=u) (y:=v) (by simpa using Y) (by simpa using J) λh' N c2 U c4 c5 hk=>?_;apply#[_,rfl,wpAny_letOwnedTupleGo_zip N λB z' sb=>?_];let nd:=D.nd;simp only[Cp,Ax,Eg,or_false,not_or,not_false_eq_true,Fh,and_true]at nd;obtain⟨⟨zI,zO,f,S⟩,⟨IO,I1',I2'⟩,⟨O1,O2⟩,n12⟩:=nd;let l:H ⇑s=ae:=I.hok.fresh (Aj _);let ltz:z<⇑s:=Ba L;let j:∀q o,q∉[z,TI,TO,i1,i2]->s.heap.get? q=aa o->B.get? q=aa o:=λq o hq e=>by
   simp only[Ax,Fi,or_false,not_or]at hq;show(sb.2 q hq.1).trans (hk q o hq.1 hq.2.2.1 hq.2.2.2.1 hq.2.2.2.2 e)
  let W:B.get? ⇑s=aa {cls:=.type "tuple",data:=.seq [u,v].toArray}:=(sb.2 _ (Co ltz)).trans c5;let M:Inv X C G (aL H ⇑s (.tup [xs[i],ys[i]])) {s with heap:=B,toks:=s.toks}:=I.laidT (its:=[u,v]) hf j (by change 2<=Ap;decide) (.cons ru (.cons rvv .nil)) W;let low:∀q∈[z,TI,TO,i1,i2],q<⇑s:=λq hq=>by
   simp only[Ax,Fi,or_false]at hq;rcases hq with rfl|rfl|rfl|rfl|rfl
   .show ltz
   .show Ba Z
   .show Ba F
   .let#[_,e,_]:=T;show Ba e
   .let#[_,e,_]:=O;show Ba e
  apply#[.ref ⇑s,_,M,rfl,#[⇑s,xs[i],ys[i],Bj hi,Bj hj,l,rfl,rfl],#[z',(sb.2 _ (Ca zI)).trans (hk _ _ (Ca zI) IO I1' I2' Z),#[u,v,(sb.2 _ (Ca zO)).trans c2],?_,?_],λq hq=>?_]
  .let#[o,e,r]:=U.1;show#[o,(sb.2 _ (Ca f)).trans e,r]
  .let#[o,e,r]:=c4.1;show#[o,(sb.2 _ (Ca S)).trans e,r]
  .rw[bD (Bl (low q hq))];show(hf q hq).1
 done:=by
  intro X m hw A hc i C s G H E I hf st hg;subst m hw A;obtain⟨L,Z,⟨c,d,F⟩,T,O⟩:=st;let#[hqa,hqb,hij]:=hg;let#[its,R,pl,hz]:=I.tuple hqa;let#[t,rv2,pl2,hz2]:=I.tuple hqb;let l1:=↥R;let l2:=↥rv2;apply Zt.next_stop (I.ok.hd hc) D (Zt.side_tuple i1 a D.a.2.2.2.1 its.toArray) (Zt.side_tuple i2 b D.b.2.2.2.2 t.toArray) L Z F #[T,pl] #[O,pl2] (hij.elim (λq=>.inl (by simp;lia)) λq=>.inr (by simp;lia)) λh' hk=>#[rfl,?_]
  show I.turnedT (tk:=s.toks) hf λq o hq e=>hk q o (λy=>hq (by simp[y])) (λy=>hq (by simp[y])) (λy=>hq (by simp[y])) (λy=>hq (by simp[y])) e
 self:=λ_ _ _ _ _ st h=>Tg st.1 h
def EL(n:Nat): [n+4,n+2,n+3,n,n+1].Nodup:=by
 simp only[Cp,Ax,Eg,or_false,not_or,not_false_eq_true,Fh,and_true];lia
def EM{n q:Nat}(h:q∈[n+4,n+2,n+3,n,n+1]):n<=q:=by
 simp only[Ax,Fi,or_false]at h;lia
section
variable {X:Cx}
def VO{R:It->Hp->Prop}{kx:Nat}(M:Inv X C G H1 U)(n:bJ X.K H1 a xs)(g:bJ X.K H1 b ys)(q:R (t5 X.K a b xs ys) H1):
  X.a (call (.type "zip") [.ref a,.ref b]) (λv U=>X.a (Sn v) (tD X C G (.Tuple es kx r) R) X.xe U) X.xe U:=by
 let#[its,j,pl,hz]:=M.tuple n;let#[t,h,f,E]:=M.tuple g;let z:a<⇑U:=by let#[_,e,_]:=(show U.heap.IsTuple a its.toArray from pl);show Ba e
 let i:b<⇑U:=by let#[_,e,_]:=(show U.heap.IsTuple b t.toArray from f);show Ba e
 let m:(Zt.zh1 U.heap a).objs.size=⇑U+1:=Es ..;let d:(Zt.zh2 U.heap a b).objs.size=⇑U+2:=by rw[Es,m]
 let x:(Zt.zh3 U.heap a b).objs.size=⇑U+3:=by rw[Es,d]
 let P:(Zt.zh4 U.heap a b).objs.size=⇑U+4:=by rw[Es,x]
 let k:∀c o,U.heap.get? c=aa o->(Zt.zh5 U.heap a b).get? c=aa o:=λc o e=>Af _ (Af _ (Af _ (Af _ (Af _ e))));let l:(Zt.zh5 U.heap a b).get? (Zt.zh4 U.heap a b).objs.size=aa _:=Aw _ rfl;let L:(Zt.zh5 U.heap a b).get? (Zt.zh3 U.heap a b).objs.size=aa _:=Af _ (Aw _ rfl);let Z:(Zt.zh5 U.heap a b).get? (Zt.zh2 U.heap a b).objs.size=aa _:=Af _ (Af _ (Aw _ rfl));let D:(Zt.zh5 U.heap a b).get? (Zt.zh1 U.heap a).objs.size=aa _:=Af _ (Af _ (Af _ (Aw _ rfl)));let J:(Zt.zh5 U.heap a b).get? ⇑U=aa _:=Af _ (Af _ (Af _ (Af _ (Aw _ rfl))));apply Vr F.called_zip ∅ (F.typeCall_zip_2 _ _) (F.newCall_zip_2 _ _) (λobj=>F.args_object_init_3 obj _ _) F.entry_zip_new (Zt.meets_new a b its.toArray t.toArray) #[pl,f,#[_,l,rfl],?_];apply Tg l ?_;rw[d,x,P]at l;rw[m,d]at Z;rw[x]at L;rw[m]at D;rw[P];apply#[⇑U+4,[⇑U+4,⇑U+2,⇑U+3,⇑U,⇑U+1],_,_,H1,rfl,M.kept (t':=U.toks) k,
  VN a b (⇑U+4) (⇑U+2) (⇑U+3) ⇑U (⇑U+1) xs ys #[EL _,#[gF 4 z,gF 2 z,gF 3 z,qU z,gF 1 z],#[gF 4 i,gF 2 i,gF 3 i,qU i,gF 1 i]],#[l,Z,#[_,_,L],#[_,J,rfl,rfl],#[_,D,rfl,rfl]],λq hq=>M.fpOk (EM hq) (M.hok.fresh (EM hq)),q]
def VP(K:Ac)(ta:TA):TI:=λG H R=>ta G H λvs H1=>∃a b xs ys,vs=[.ref a,.ref b]/\bJ K H1 a xs/\bJ K H1 b ys/\R (t5 K a b xs ys) H1
def VQ{kx:Nat}(hg:Gl X "zip")(N:X.mg "zip" = ae)(T:PA X [a,b] ta)(F:Cg [a,b] X.env=[(ac,El a X.env),(ac,El b X.env)]:=by rfl)(f:Cg [b] X.env=[(ac,El b X.env)]:=by rfl):
  PI X (.Tuple es kx r) (.Call (.Name "zip" p) [a,b] [] pos) (VP X.K ta):=by
 intro C s G H R I h;apply Wu (fP I hg N EA (Bx (aV (T pos C s G H _ I h) λus U #[vs,H1,M,l,W]=>?_) (by rw[F,f]) (by rw[f];rfl)));let#[a,b,xs,ys,rfl,L,Z,q]:=W;let#[u,v,rfl,ru,m]:=vals2 l;cases ru;cases m;show VO M L Z q
end
section
variable {X:Cx}
theorem EN:∀{vs:↑Ae} {ks:↑Av},↥vs=↥ks->(∀(j:Nat) v,vs[j]? = aa v->∃x t,ks[j]? = aa x/\v=.str x t)->StrsAre vs ks
 | [],[],_,_=>.nil
 | [],_::_,e,_=>by simp at e
 | _::_,[],e,_=>by simp at e
 | v::vs,k::ks,e,h=>by
  let#[x,t,L,rfl]:=h 0 v rfl;cases (show k=x by simpa using L);show .cons k t (EN (by simpa using e) λj v c=>by simpa using h (j+1) v (by simpa using c))
theorem EO:∀{vs:↑Ae} {ss:↑Av},StrsAre vs ss->aY (ss.map V.str) vs
 | _,_,.nil=>.nil
 | _,_,.cons y t r=>.cons #[t,rfl] (EO r)
def VR(hc:X.calm=ab):cN X (.builtin "sorted") (λxs H Q=>∃(d:Am) (kvs:↑(aC×V)) (ks:↑Av),xs=[.ref d]/\H d=aa (.dK kvs)/\kvs.map Ck=ks.map Sum.inr/\↥ks<64/\
  ∀ss:↑Av,ss.Perm ks->∀p,H p=ae->Q (.ref p) (aL H p (.lst (ss.map V.str)))):=by
 intro C s G H xs us Q I r h;let#[d,kvs,ks,rfl,hd,hks,h64,q]:=h;let#[u,rfl,ru]:=vals1 r;cases ru;let#[hz,N,vs,R,E]:=(show bZ X.prog X.w H s.heap d (.dK kvs) from I.hok d _ hd);let#[ep,T]:=E.dictAt;let hl:=↥R;let hkl:↥kvs=↥ks:=by have:=congrArg Jc hks;simpa using this
 apply Calls.call_function_entry kind_sorted plain_sorted entry_sorted (args_sorted1 _) ?_;unfold Hk.«sorted»;apply Aa (m:=checkCount "sorted" 1 1 _) (Ah (Aa (PySem.W.kdu_collect (A:=X.A.in1) (PySem.W.kdl_dict (knd:=bT X.prog X.w) (kvs:=vs) (ep:=ep) N) (I.ok.hd hc) T (by rw[<-hl];show hz) λh' tk acc hk K=>?_)));let hsz:↥acc.toList=↥ks:=by let L:=K.1;let Z:↥acc.toList=acc.size:=Fj;lia
 let i:StrsAre acc.toList ks:=EN hsz λj v c=>by
  let#[k,x,B,a]:=K.2 j v (by rw[<-Fm];show c);let#[y,O]:=xT R B;let J:(kvs.map Ck)[j]? = aa k:=by rw[Az,O];rfl
  rw[hks,Az]at J;let#[z,n,rfl]:=Bd.mp J;let#[t,e]:=(show RelV (kV (Sum.inr z)) v from tV a);show#[z,t,n,e]
 let M:Inv X C G H {s with heap:=h',toks:=tk}:=I.kept (t':=tk) hk;apply Aa (wpAny_newList ?_ (by rw[hsz];lia));let f:(h'.push (seqObj "list" acc.toList.toArray 0)).get? h'.objs.size=aa (seqObj "list" acc.toList.toArray 0):=Aw _ rfl;apply Aa (Dg (Cs slot_list_sort #[_,f,rfl] entry_list_sort (list_sort_treeK strKind_oneLt f i.keysOf (λv1 v2 rest e=>keyKind_strs (by rw[<-e];show i)) (by rw[hsz];show h64) λl P g=>#[_,rfl,?_]) (args_list_sort _)));let#[ss,L,Z,F]:=sorted_out_str i P g;let#[e,D]:=sortedHeap_at (out:=(arrOf l).map (·.2)) f;let Y:↥ss=↥ks:=Z.length_eq;apply Ah #[_,rfl,.ref h'.objs.size,_,M.laid (o:=.lst (ss.map V.str)) (t':=tk) (λb o U=>?_) (Aj _) #[by rw[Ab];show Ar (Ie (by lia:↥ss<64)) ∅,((arrOf l).map (·.2)).toList,e,EO L,by rw[Hb];show D],rfl,q ss Z _ M.fresh];let S:b<h'.objs.size:=Ba U;show(sortedHeap_old (Bl S) (by rw[Es];show Oi S)).trans (Af _ U)
end
abbrev NX(es:↑(bQ×Am×V))(xs:↑(bQ×Am×Ae)):Prop:=Gk (λp q=>p.1=q.1/\p.2.1=q.2.1/\RelV p.2.2 q.2.2) es xs
def dN(P:Be)(w:Bv)(tl:↑Int)(a:Am)(es:↑(bQ×Am×V))(h:Dz):Prop:=
 ∃o B ep xs,h.get? a=aa o/\o.ExactDict/\o.data=.dict B ep/\B.toList=xs.map (So (iZ P w tl))/\NX es xs/\(xs.map (·.1)).Nodup/\↥xs<=Ap/\(a==Gi)=ac
def dN.stay(x:dN P w tl a es L)(k:∀o,L.get? a=aa o->Z.get? a=aa o):dN P w tl a es Z:=by
 let#[o,B,ep,xs,e,r]:=x;show#[o,B,ep,xs,k o e,r]
def dN.ok(x:dN P w tl a es h):bZ P w H h a (.ext (dN P w tl a es)):=
 #[x,let #[o,_,_,_,e,_]:=x;#[o,e],λL Z y k=>y.stay k]
def gZ(P:Be)(w:Bv)(tl:↑Int)(a:Am)(es:↑(bQ×Am×V))(o:Nl)(h:Dz):Prop:=h.get? a=aa o/\dN P w tl a es h
def gZ.ok(x:gZ P w tl a es o h):bZ P w H h a (.ext (gZ P w tl a es o)):=
 #[x,#[o,x.1],λL Z y k=>#[k _ y.1,y.2.stay k]]
def VS(o:Nl)(es:↑(bQ×Am×V)):Prop:=∃B ep,o.data=.dict B ep/\B.size=↥es/\∀(j:Nat) (e:Eu),B[j]? = aa e->∃z:bQ×Am×V,es[j]? = aa z/\e.key=.ref z.2.1
def g9(H:Hp)(tl:↑Int)(x:bQ)(b:Am):Prop:=∃z,H b=aa (.tup (kV x.1::.ref z::tl.map V.int))/\H z=aa (.tup (x.2.map kV))
theorem ER:∀{tl:↑Int} {us:↑Ae},aY (tl.map V.int) us->ItemsAre (bT P w) (tl.map Sum.inl) us
 | [],_,h=>by cases h;show .nil
 | i::tl,_,h=>by
  cases h with
  | cons r t=>
   let#[tk,rfl]:=r;show .cons (jM (k:=Sum.inl i) #[tk,rfl]) (ER t)
def g9.is(hok:cR P w H h)(n:g9 H tl x b):(iZ P w tl).is h x b:=by
 let#[z,J,D]:=n;let#[_,its,r,o,L,Z,m,F]:=(show bZ P w H h b (.tup (kV x.1::.ref z::tl.map V.int)) from hok b _ J);cases r with
 | @cons _ v _ vs l U=>
  cases U with
  | @cons _ Y _ a g f=>
   cases (show Y=Value.ref z from g);show#[o,_,m,v,z,a,L,Z,F,by simp,jM l,iL hok D,ER f]
abbrev SV:=L2.St
inductive W where
 | non|bl (b:Bool)|int (i:Int)|str (x:Av)|ty (n:String)|tup (ws:↑W)|rl (ws:↑W)|sc (ws:↑W)|ref (a:Am)
 | dk (kvs:↑(aC×W))|dt (kvs:↑(↑aC×W))|fk (kvs:↑(aC×W))|ft (kvs:↑(↑aC×W))
inductive MO where
 | lst (ws:↑W)|dK (kvs:↑(aC×W))|dT (kvs:↑(↑aC×W))|fix (vs:↑V)|ins (C dx:Am) (fs:↑(Av×W))|dn (P:Be) (w:Bv) (tl:↑Int) (kvs:↑(bQ×W))|vw (d:Am)|dh (P:Be) (w:Bv) (tl:↑Int) (kvs:↑(bQ×W)) (o:Nl)
abbrev Mm:=Am->Option MO
noncomputable def ziR(pos:Ih):Option Am->Array Ae
 | none=>#[]
 | some c=>[Hy pos.line,Hy pos.col,.ref c].toArray
noncomputable def put(M:Mm)(a:Am)(o:MO):Mm:=λb=>if b=a then aa o else M b
noncomputable def del(M:Mm)(a:Am):Mm:=λb=>if b=a then ae else M b
def aK{M:Mm}{a:Am}{o:MO}:put M a o a=aa o:=by unfold put;rw[Xb rfl]
def aW{M:Mm}{a b:Am}{o:MO}(h:b≠a):put M a o b=M b:=by unfold put;rw[Xa h]
def cF:put (put M a o) a u=put M a u:=by
 funext b;unfold put;split<;>rfl
def iD(h:M a=ae):del (put M a o) a=M:=by
 funext b;unfold del put;split
 .rename_i e;rw[e,h]
 .rfl
def pA{M:Mm}{a:Am}:del M a a=ae:=by unfold del;rw[Xb rfl]
def jO{M:Mm}{a b:Am}(h:b≠a):del M a b=M b:=by unfold del;rw[Xa h]
def mH(h:a≠b):put (put M a o) b u=put (put M b u) a o:=by
 funext c;unfold put
 by_cases L:c=b
 .by_cases Z:c=a
  .show absurd (Z.symm.trans L) h
  .rw[Xb L,Xa Z,Xb L]
 .by_cases Z:c=a
  .rw[Xa L,Xb Z,Xb Z]
  .rw[Xa L,Xa Z,Xa Z,Xa L]
def xX(h:M a=aa o):put M a o=M:=by
 funext b;unfold put;split
 .rename_i e;rw[e,h]
 .rfl
def Sub(M M':Mm):Prop:=∀a o,M a=aa o->M' a=aa o
def Sub.refl(M:Mm):Sub M M:=λ_ _ h=>h
def aZ:Sub M M:=Sub.refl M
def Sub.trans(a:Sub M M1)(b:Sub M1 M2):Sub M M2:=λc o h=>b c o (a c o h)
def Sub.new(h:M a=ae):Sub M (put M a o):=λb u e=>by
 rw[aW (λz=>by rw[z,h]at e;cases e)];show e
def Sub.put(h:Sub M M'):Sub (put M a o) (put M' a o):=λb u e=>by
 unfold L2.put at e⊢;split at e
 .rename_i z;rw[Xb z];show e
 .rename_i z;rw[Xa z];show h b u e
def Sub.del:Sub (del M a) M:=λb u e=>by
 unfold L2.del at e;split at e
 .cases e
 .show e
def Sub.non(h:Sub M M')(e:M' a=ae):M a=ae:=by
 cases q:M a with
 | none=>rfl
 | some o=>rw[h a o q]at e;cases e
def kZ(K:Ac)(H:Hp)(a:Am)(xs:↑V):Prop:=
 (∃o,H a=aa (.frz o (.lst xs)))\/
  ∃(o:Nl) (its:Array Ae) (n:Nat),K.lookup a=aa o/\o.cls=.type "list"/\o.dict=ae/\o.data=.seq its n/\its.size<=Ap/\aY xs its.toList
def kZ.sq{K:Ac}{H:Hp}{a:Am}{xs:↑V}(h:kZ K H a xs):bL K H a xs:=by
 rcases h with⟨o,h⟩|h
 .show .inl (.inr #[o,h])
 .show .inr h
mutual
inductive AV(K:Ac)(H:Hp)(M:Mm):V->W->Prop
 | non:AV K H M .non .non
 | bl (b:Bool):AV K H M (.bl b) (.bl b)
 | int (i:Int):AV K H M (.int i) (.int i)
 | str (x:Av):AV K H M (.str x) (.str x)
 | ty (n:String):AV K H M (.ty n) (.ty n)
 | tup {a:Am} {xs:↑V} {ws:↑W}:H a=aa (.tup xs)->aJ K H M xs ws->AV K H M (.ref a) (.tup ws)
 | sc {a:Am} {xs:↑V} {ws:↑W}:kZ K H a xs->aJ K H M xs ws->AV K H M (.ref a) (.sc ws)
 | rl {a:Am} {xs:↑V} {ws:↑W}:H a=aa (.lst xs)->M a=ae->aJ K H M xs ws->AV K H M (.ref a) (.rl ws)
 | ref (a:Am):AV K H M (.ref a) (.ref a)
 | dk {a:Am} {ks:↑(aC×V)} {kvs:↑(aC×W)}:H a=aa (.dK ks)->M a=ae->ks.map Ck=kvs.map Ck->aJ K H M (ks.map Lj) (kvs.map Lj)->AV K H M (.ref a) (.dk kvs)
 | dt {a:Am} {ks:↑(↑aC×V)} {kvs:↑(↑aC×W)}:H a=aa (.dT ks)->M a=ae->ks.map Ck=kvs.map Ck->aJ K H M (ks.map Lj) (kvs.map Lj)->AV K H M (.ref a) (.dt kvs)
 | fk {a:Am} {o:Nl} {ks:↑(aC×V)} {kvs:↑(aC×W)}:H a=aa (.frz o (.dK ks))->ks.map Ck=kvs.map Ck->aJ K H M (ks.map Lj) (kvs.map Lj)->AV K H M (.ref a) (.fk kvs)
 | ft {a:Am} {o:Nl} {ks:↑(↑aC×V)} {kvs:↑(↑aC×W)}:H a=aa (.frz o (.dT ks))->ks.map Ck=kvs.map Ck->aJ K H M (ks.map Lj) (kvs.map Lj)->AV K H M (.ref a) (.ft kvs)
inductive aJ(K:Ac)(H:Hp)(M:Mm):↑V->↑W->Prop
 | nil:aJ K H M [] []
 | cons {v:V} {vs:↑V} {w:W} {ws:↑W}:AV K H M v w->aJ K H M vs ws->aJ K H M (v::vs) (w::ws)
end
abbrev bR(K:Ac)(H:Hp)(M:Mm)(b:Type):↑(b×V)->↑(b×W)->Prop:=Gk λp q=>p.1=q.1/\AV K H M p.2 q.2
theorem nZ{K:Ac}{H:Hp}{M:Mm}{b:Type}:∀{ks:↑(b×V)} {kvs:↑(b×W)},ks.map Ck=kvs.map Ck->aJ K H M (ks.map Lj) (kvs.map Lj)->bR K H M b ks kvs
 | [],[],_,_=>.nil
 | [],_::_,e,_=>by simp at e
 | _::_,[],e,_=>by simp at e
 | p::ps,q::qs,e,h=>by
  rw[Bi,Bi]at e h;rw[Ff]at e;cases h with
  | cons x r=>show .cons #[e.1,x] (nZ e.2 r)
def bR.keys{K:Ac}{H:Hp}{M:Mm}{b:Type}{ks:↑(b×V)}{kvs:↑(b×W)}(h:bR K H M b ks kvs):ks.map Ck=kvs.map Ck:=by
 induction h with
 | nil=>rfl
 | cons r _ E=>rw[Bi,Bi,E,r.1]
def bR.vals{K:Ac}{H:Hp}{M:Mm}{b:Type}{ks:↑(b×V)}{kvs:↑(b×W)}(h:bR K H M b ks kvs):aJ K H M (ks.map Lj) (kvs.map Lj):=by
 induction h with
 | nil=>show .nil
 | cons r _ E=>show .cons r.2 E
def AO(K:Ac)(H:Hp)(M:Mm)(a:Am):MO->Prop
 | .lst ws=>∃vs,H a=aa (.lst vs)/\aJ K H M vs ws
 | .dK kvs=>∃ks,H a=aa (.dK ks)/\bR K H M aC ks kvs
 | .dT kvs=>∃ks,H a=aa (.dT ks)/\bR K H M (↑aC) ks kvs
 | .fix vs=>H a=aa (.lst vs)
 | .ins C s fs=>∃i,H a=aa (.ins C s i)/\bR K H M Av i fs
 | .dn P w tl kvs=>∃es,H a=aa (.ext (dN P w tl a es))/\Gk (λ(e:bQ×Am×V) (p:bQ×W)=>e.1=p.1/\g9 H tl e.1 e.2.1/\AV K H M e.2.2 p.2) es kvs
 | .vw d=>H a=aa (.ext λh=>h.IsValuesView a d)
 | .dh P w tl kvs o=>∃es,H a=aa (.ext (gZ P w tl a es o))/\VS o es/\Gk (λ(e:bQ×Am×V) (p:bQ×W)=>e.1=p.1/\g9 H tl e.1 e.2.1/\AV K H M e.2.2 p.2) es kvs
def AM(K:Ac)(H:Hp)(M:Mm):Prop:=∀a o,M a=aa o->AO K H M a o
structure Kp(H:Hp)(M:Mm)(H':Hp)(M':Mm):Prop where
 fr:∀a o,M a=ae->H a=aa o->H' a=aa o/\M' a=ae
 dom:∀a o,M a=aa o->∃u,H' a=aa u
structure Go(H:Hp)(M:Mm)(H':Hp)(M':Mm):Prop where
 ht:∀b xs,H b=aa (.tup xs)->H' b=aa (.tup xs)
 hf:∀b o u,H b=aa (.frz o u)->H' b=aa (.frz o u)
 hl:∀b o,M b=ae->H b=aa o->H' b=aa o/\M' b=ae
section
variable {K:Ac}{H H' H1 H2:Hp}{M M' M1 M2:Mm}{a:Am}
def AO.has(h:AO K H M a o):∃u,H a=aa u:=by
 cases o with
 | lst ws=>let#[vs,e,_]:=h;show#[_,e]
 | dK kvs=>let#[ks,e,_]:=h;show#[_,e]
 | dT kvs=>let#[ks,e,_]:=h;show#[_,e]
 | fix vs=>show#[_,h]
 | ins C dx fs=>let#[gs,e,_]:=h;show#[_,e]
 | dn P w tl kvs=>let#[gs,e,_]:=h;show#[_,e]
 | vw d=>show#[_,h]
 | dh P w tl kvs o=>let#[gs,e,_]:=h;show#[_,e]
def AM.nonM(O:AM K H M)(h:H a=ae):M a=ae:=by
 cases q:M a with
 | none=>rfl
 | some o=>let#[u,e]:=(O a o q).has;rw[h]at e;cases e
def AM.noTup(am:AM K H M)(h:H a=aa (.tup xs)):M a=ae:=by
 cases q:M a with
 | none=>rfl
 | some o=>
  have:=am a o q;cases o with
  | lst ws=>let#[vs,e,_]:=this;rw[h]at e;cases e
  | dK kvs=>let#[ks,e,_]:=this;rw[h]at e;cases e
  | dT kvs=>let#[ks,e,_]:=this;rw[h]at e;cases e
  | fix vs=>let e:H a=aa (.lst vs):=this;rw[h]at e;cases e
  | ins C dx fs=>let#[gs,e,_]:=this;rw[h]at e;cases e
  | dn P w tl kvs=>let#[gs,e,_]:=this;rw[h]at e;cases e
  | vw d=>let e:H a=aa (.ext λh=>h.IsValuesView a d):=this;rw[h]at e;cases e
  | dh P w tl kvs o=>let#[gs,e,_]:=this;rw[h]at e;cases e
def AM.noFrz(am:AM K H M)(h:H a=aa (.frz ob u)):M a=ae:=by
 cases q:M a with
 | none=>rfl
 | some o=>
  have:=am a o q;cases o with
  | lst ws=>let#[vs,e,_]:=this;rw[h]at e;cases e
  | dK kvs=>let#[ks,e,_]:=this;rw[h]at e;cases e
  | dT kvs=>let#[ks,e,_]:=this;rw[h]at e;cases e
  | fix vs=>let e:H a=aa (.lst vs):=this;rw[h]at e;cases e
  | ins C dx fs=>let#[gs,e,_]:=this;rw[h]at e;cases e
  | dn P w tl kvs=>let#[gs,e,_]:=this;rw[h]at e;cases e
  | vw d=>let e:H a=aa (.ext λh=>h.IsValuesView a d):=this;rw[h]at e;cases e
  | dh P w tl kvs o=>let#[gs,e,_]:=this;rw[h]at e;cases e
def Kp.refl(O:AM K H M):Kp H M H M:=#[λa o h e=>#[e,h],λa o h=>(O a o h).has]
theorem Kp.trans(x:Kp H M H1 M1)(y:Kp H1 M1 H2 M2):Kp H M H2 M2 where
 fr:=λa o h e=>by
  let#[J,F]:=x.fr a o h e;show y.fr a o F J
 dom:=λa o h=>by
  let#[u,e]:=x.dom a o h;cases q:M1 a with
  | none=>show#[u,(y.fr a u q e).1]
  | some g=>show y.dom a g q
theorem Kp.sub(x:Kp H M H1 M1)(h:Sub M2 M1):Kp H M H1 M2 where
 fr:=λa o n e=>#[(x.fr a o n e).1,h.non (x.fr a o n e).2]
 dom:=x.dom
def Kp.go(O:AM K H M)(k:Kp H M H' M'):Go H M H' M':=#[λb xs e=>(k.fr b _ (O.noTup e) e).1,λb o u e=>(k.fr b _ (O.noFrz e) e).1,k.fr]
def Go.sub(h:Sub M' M):Go H M H M':=#[λ_ _ e=>e,λ_ _ _ e=>e,λb o n e=>#[e,h.non n]]
def AV.go(g:Go H M H' M')(h:AV K H M v w):AV K H' M' v w:=AV.rec (motive_1:=λv w _=>AV K H' M' v w) (motive_2:=λvs ws _=>aJ K H' M' vs ws) .non .bl .int .str .ty (λe _ q=>.tup (g.ht _ _ e) q) (λe _ q=>.sc (e.elim (λz=>.inl (z.elim λo q=>#[o,g.hf _ _ _ q])) .inr) q) (λe n _ q=>.rl (g.hl _ _ n e).1 (g.hl _ _ n e).2 q) .ref
  (λe n P _ q=>.dk (g.hl _ _ n e).1 (g.hl _ _ n e).2 P q) (λe n P _ q=>.dt (g.hl _ _ n e).1 (g.hl _ _ n e).2 P q) (λe P _ q=>.fk (g.hf _ _ _ e) P q) (λe P _ q=>.ft (g.hf _ _ _ e) P q) .nil (λ_ _ x r=>.cons x r) h
def aJ.go(g:Go H M H' M')(h:aJ K H M vs ws):aJ K H' M' vs ws:=aJ.rec (motive_1:=λv w _=>AV K H' M' v w) (motive_2:=λvs ws _=>aJ K H' M' vs ws) .non .bl .int .str .ty (λe _ q=>.tup (g.ht _ _ e) q) (λe _ q=>.sc (e.elim (λz=>.inl (z.elim λo q=>#[o,g.hf _ _ _ q])) .inr) q) (λe n _ q=>.rl (g.hl _ _ n e).1 (g.hl _ _ n e).2 q) .ref
  (λe n P _ q=>.dk (g.hl _ _ n e).1 (g.hl _ _ n e).2 P q) (λe n P _ q=>.dt (g.hl _ _ n e).1 (g.hl _ _ n e).2 P q) (λe P _ q=>.fk (g.hf _ _ _ e) P q) (λe P _ q=>.ft (g.hf _ _ _ e) P q) .nil (λ_ _ x r=>.cons x r) h
def bR.go{b:Type}{ks:↑(b×V)}{kvs:↑(b×W)}(g:Go H M H' M')(h:bR K H M b ks kvs):bR K H' M' b ks kvs:=Paired.mapP h λp q z=>#[z.1,z.2.go g]
def AO.go{o:MO}(g:Go H M H' M')(e:H' a=H a)(h:AO K H M a o):AO K H' M' a o:=by
 cases o with
 | lst ws=>let#[vs,e1,r]:=h;show#[vs,by rw[e];show e1,r.go g]
 | dK kvs=>let#[vs,e1,r]:=h;show#[vs,by rw[e];show e1,r.go g]
 | dT kvs=>let#[vs,e1,r]:=h;show#[vs,by rw[e];show e1,r.go g]
 | fix vs=>show e.trans h
 | ins C dx fs=>let#[gs,e1,r]:=h;show#[gs,by rw[e];show e1,r.go g]
 | dn P w tl kvs=>let#[gs,e1,r]:=h;show#[gs,by rw[e];show e1,Paired.mapP r λp q z=>#[z.1,let #[pa,n1,n2]:=z.2.1;#[pa,g.ht _ _ n1,g.ht _ _ n2],z.2.2.go g]]
 | vw d=>show e.trans h
 | dh P w tl kvs o=>let#[gs,e1,z0,r]:=h;show#[gs,by rw[e];show e1,z0,Paired.mapP r λp q z=>#[z.1,let #[pa,n1,n2]:=z.2.1;#[pa,g.ht _ _ n1,g.ht _ _ n2],z.2.2.go g]]
def AM.sub(O:AM K H M')(h:Sub M M'):AM K H M:=λa o e=>(O a o (h a o e)).go (Go.sub h) rfl
def AV.sub(h:Sub M' M)(x:AV K H M v w):AV K H M' v w:=x.go (Go.sub h)
def aJ.sub(h:Sub M' M)(x:aJ K H M v w):aJ K H M' v w:=x.go (Go.sub h)
def AV.kp(O:AM K H M)(k:Kp H M H' M')(h:AV K H M v w):AV K H' M' v w:=h.go (k.go O)
def aJ.kp(O:AM K H M)(k:Kp H M H' M')(h:aJ K H M vs ws):aJ K H' M' vs ws:=h.go (k.go O)
theorem aJ.length:∀{vs:↑V} {ws:↑W},aJ K H M vs ws->↥vs=↥ws
 | _,_,.nil=>rfl
 | _,_,.cons _ r=>by simp[aJ.length r]
theorem aJ.append:∀{vs us:↑V} {ws L:↑W},aJ K H M vs ws->aJ K H M us L->aJ K H M (vs++us) (ws++L)
 | _,_,_,_,.nil,s=>s
 | _,_,_,_,.cons x r,s=>.cons x (aJ.append r s)
theorem aJ.getW:∀{vs:↑V} {ws:↑W} {i:Nat} {w:W},aJ K H M vs ws->ws[i]? = aa w->∃v,vs[i]? = aa v/\AV K H M v w
 | _,_,_,_,.nil,e=>by simp at e
 | _,_,0,_,.cons x _,e=>by simp at e;subst e;show#[_,rfl,x]
 | _,_,i+1,w,.cons _ r,e=>by
  let#[v,L,Z]:=aJ.getW (i:=i) (w:=w) r (by simpa using e);show#[v,by simpa using L,Z]
theorem aJ.getV:∀{vs:↑V} {ws:↑W} {i:Nat} {v:V},aJ K H M vs ws->vs[i]? = aa v->∃w,ws[i]? = aa w/\AV K H M v w
 | _,_,_,_,.nil,e=>by simp at e
 | _,_,0,_,.cons x _,e=>by simp at e;subst e;show#[_,rfl,x]
 | _,_,i+1,v,.cons _ r,e=>by
  let#[w,L,Z]:=aJ.getV (i:=i) (v:=v) r (by simpa using e);show#[w,by simpa using L,Z]
theorem aJ.set(x:AV K H M v w):∀{vs:↑V} {ws:↑W} (i:Nat),aJ K H M vs ws->aJ K H M (vs.set i v) (ws.set i w)
 | _,_,_,.nil=>.nil
 | _,_,0,.cons _ t=>.cons x t
 | _,_,i+1,.cons q t=>.cons q (aJ.set x i t)
theorem aJ.take:∀{vs:↑V} {ws:↑W} (n:Nat),aJ K H M vs ws->aJ K H M (vs.take n) (ws.take n)
 | _,_,0,_=>by simp;show .nil
 | _,_,_+1,.nil=>.nil
 | _,_,n+1,.cons x t=>.cons x (aJ.take n t)
theorem aJ.drop:∀{vs:↑V} {ws:↑W} (n:Nat),aJ K H M vs ws->aJ K H M (vs.drop n) (ws.drop n)
 | _,_,0,h=>h
 | _,_,_+1,.nil=>.nil
 | _,_,n+1,.cons _ t=>aJ.drop n t
def aJ.reverse(h:aJ K H M vs ws):aJ K H M vs.reverse ws.reverse:=by
 induction vs generalizing ws with
 | nil=>cases h;show .nil
 | cons v vs E=>
  cases h with
  | cons x r=>rw[Kd,Kd];show(E r).append (.cons x .nil)
def aJ.dropLast(h:aJ K H M vs ws):aJ K H M vs.dropLast ws.dropLast:=by
 rw[List.dropLast_eq_take,List.dropLast_eq_take,↥h];show h.take _
theorem aJ.flatRep(h:aJ K H M vs ws):∀n:Nat,aJ K H M (Cu n vs).flatten (Cu n ws).flatten
 | 0=>.nil
 | n+1=>by
  rw[Hz,Hz,Jd,Jd];show h.append (aJ.flatRep h n)
def aJ.int(is:↑Int):aJ K H M (is.map V.int) (is.map W.int):=by
 induction is with
 | nil=>show .nil
 | cons i r E=>show .cons (.int i) E
def ES(S:H p=ae)(F:∀b,b≠p->M b=ae->M' b=ae):Go H M (aL H p u) M':=
 #[λb xs e=>by rw[bD (eR e S)];show e,λb o x e=>by rw[bD (eR e S)];show e,λb o n e=>#[by rw[bD (eR e S)];show e,F b (eR e S) n]]
def ET(S:H p=ae):Go H M (aL H p u) (put M p o):=ES S λb ne n=>by rw[aW ne];show n
def go_same(S:H p=ae):Go H M (aL H p u) M:=ES S λb ne n=>n
def AM.laid(O:AM K H M)(S:H p=ae)(h:AO K (aL H p u) (put M p o) p o):AM K (aL H p u) (put M p o)/\Kp H M (aL H p u) (put M p o):=by
 apply#[λa x e=>?_,λa x h e=>#[?_,?_],λa x h=>?_]
 .by_cases T:a=p
  .subst T;rw[aK]at e;cases e;show h
  .rw[aW T]at e;show(O a x e).go (ET S) (bD T)
 .rw[bD (eR e S)];show e
 .rw[aW (eR e S)];show h
 .let#[y,e]:=(O a x h).has;show#[y,by rw[bD (eR e S)];show e]
def EU:Go H (put M p o) H (put M p u):=#[λ_ _ e=>e,λ_ _ _ e=>e,λb x n e=>#[e,by
 let ne:b≠p:=λz=>by rw[z,aK]at n;cases n
 rw[aW ne]at n⊢;show n]]
def AM.tup{p:Am}{u:HO}(O:AM K H M)(S:H p=ae):AM K (aL H p u) M/\Kp H M (aL H p u) M:=by
 apply#[λa x e=>?_,λa x h e=>#[?_,h],λa x h=>?_]
 .let ne:a≠p:=λz=>by rw[z,O.nonM S]at e;cases e
  show(O a x e).go (go_same S) (bD ne)
 .rw[bD (eR e S)];show e
 .let#[y,e]:=(O a x h).has;show#[y,by rw[bD (eR e S)];show e]
def n4(O:AM K H M)(hl:M l=aa c):Go H M (aL H l u) (put M l o):=
 #[λb xs e=>by rw[bD (λz=>by rw[<-z,O.noTup e]at hl;cases hl)];show e,λb ob x e=>by rw[bD (λz=>by rw[<-z,O.noFrz e]at hl;cases hl)];show e,
   λb x n e=>by
  let ne:b≠l:=λz=>by rw[<-z,n]at hl;cases hl
  rw[bD ne,aW ne];show#[e,n]]
def AM.write(O:AM K H M)(hl:M l=aa c)(h:AO K (aL H l u) (put M l o) l o):AM K (aL H l u) (put M l o)/\Kp H M (aL H l u) (put M l o):=by
 apply#[λa x e=>?_,λa x h e=>?_,λa x h=>?_]
 .by_cases T:a=l
  .subst T;rw[aK]at e;cases e;show h
  .rw[aW T]at e;show(O a x e).go (n4 O hl) (bD T)
 .have:a≠l:=λz=>by rw[z,hl]at h;cases h
  rw[bD this,aW this];show#[e,h]
 .by_cases T:a=l
  .subst T;show#[u,b7]
  .let#[y,e]:=(O a x h).has;show#[y,by rw[bD T];show e]
def AM.lst(O:AM K H M){ws:↑W}(h:M a=aa (.lst ws)):∃vs,H a=aa (.lst vs)/\aJ K H M vs ws:=O a _ h
def aJ.newT(S:H p=ae)(h:aJ K H M vs ws):aJ K (aL H p u) M vs ws:=h.go (go_same S)
def aJ.newL(S:H p=ae)(h:aJ K H M vs ws):aJ K (aL H p u) (put M p o) vs ws:=h.go (ET S)
def aJ.wr(O:AM K H M)(hl:M l=aa c)(h:aJ K H M vs ws):aJ K (aL H l u) (put M l o) vs ws:=h.go (n4 O hl)
def AV.wr(O:AM K H M)(hl:M l=aa c)(h:AV K H M v w):AV K (aL H l u) (put M l o) v w:=h.go (n4 O hl)
end
abbrev S3:=↑(Option W)
abbrev K3:=W->Mm->Prop
abbrev aP:=S3->Mm->K3->Prop
abbrev dE:=S3->Mm->(Bool->Mm->Prop)->Prop
abbrev cV:=S3->Mm->(↑W->Mm->Prop)->Prop
abbrev R3:=W->W->Mm->K3->Prop
structure D3 where
 nx:S3->Mm->Prop
 rt:K3
 bk:S3->Mm->Prop:=λ_ _=>False
 ct:S3->Mm->Prop:=λ_ _=>False
abbrev aE:=D3->S3->Mm->Prop
def AS(K:Ac)(H:Hp)(M:Mm):SV->S3->Prop:=Gk λp l=>∀w,l=aa w->∃v,p=aa v/\AV K H M v w
section
variable {K:Ac}{H H':Hp}{M M':Mm}
def AS.kp(O:AM K H M)(k:Kp H M H' M')(h:AS K H M G U):AS K H' M' G U:=
 Paired.mapP h λp l z w e=>by let#[v,J,r]:=z w e;show#[v,J,r.kp O k]
def AS.sub(g:Sub M' M)(h:AS K H M G U):AS K H M' G U:=
 Paired.mapP h λp l z w e=>by let#[v,J,r]:=z w e;show#[v,J,r.sub g]
theorem AS.get:∀{G:SV} {U:S3} {i:Nat},AS K H M G U->U[i]? = aa (aa w)->∃v,G[i]? = aa (aa v)/\AV K H M v w
 | _,_,_,.nil,e=>by simp at e
 | _,_,0,.cons r _,e=>by
  simp at e;let#[v,L,Z]:=r w e;show#[v,by rw[L];rfl,Z]
 | _,_,i+1,.cons _ t,e=>by
  let#[v,L,Z]:=AS.get (i:=i) t (by simpa using e);show#[v,by simpa using L,Z]
theorem AS.set(r:AV K H M v w):∀{G:SV} {U:S3} (i:Nat),AS K H M G U->AS K H M (G.set i (aa v)) (U.set i (aa w))
 | _,_,_,.nil=>.nil
 | _,_,0,.cons _ t=>.cons (λx e=>#[v,rfl,by cases e;show r]) t
 | _,_,i+1,.cons q t=>.cons q (AS.set r i t)
theorem AS.nones:∀n:Nat,AS K H M (Cu n ae) (Cu n ae)
 | 0=>.nil
 | n+1=>.cons (λ_ e=>nomatch e) (AS.nones n)
def AS.start(h:aJ K H M vs ws)(n:Nat):AS K H M (vs.map aa++Cu n ae) (ws.map aa++Cu n ae):=by
 induction vs generalizing ws with
 | nil=>cases h;show AS.nones n
 | cons v vs E=>
  cases h with
  | cons x r=>show .cons (λw e=>#[v,rfl,by cases e;show x]) (E r)
end
def Up(K:Ac)(H:Hp)(M:Mm)(R:K3)(Q:VK):Prop:=∀v H' w M',Kp H M H' M'->AM K H' M'->AV K H' M' v w->R w M'->Q v H'
def up(K:Ac)(t:aP):TE:=λG H Q=>∃U M R,AS K H M G U/\AM K H M/\t U M R/\Up K H M R Q
def k7(K:Ac)(t:dE):TT:=λG H Q=>∃(U:S3) (M:Mm) (R:Bool->Mm->Prop),AS K H M G U/\AM K H M/\t U M R/\∀b H' M',Kp H M H' M'->AM K H' M'->R b M'->Q b H'
def pB(K:Ac)(t:cV):TA:=λG H Q=>∃(U:S3) (M:Mm) (R:↑W->Mm->Prop),AS K H M G U/\AM K H M/\t U M R/\∀vs H' ws M',Kp H M H' M'->AM K H' M'->aJ K H' M' vs ws->R ws M'->Q vs H'
def iE(K:Ac)(H:Hp)(M:Mm)(R:S3->Mm->Prop)(Q:SV->Hp->Prop):Prop:=∀C H' f M',Kp H M H' M'->AM K H' M'->AS K H' M' C f->R f M'->Q C H'
structure qW(K:Ac)(H:Hp)(M:Mm)(D:D3)(E:kU):Prop where
 nx:iE K H M D.nx E.nx
 rt:Up K H M D.rt E.rt
 bk:iE K H M D.bk E.bk
 ct:iE K H M D.ct E.ct
def qX(K:Ac)(t:aE):TS:=λE G H=>∃U M D,AS K H M G U/\AM K H M/\t D U M/\qW K H M D E
section
variable {K:Ac}{H H1:Hp}{M M1:Mm}
def Up.kp(h:Up K H M R Q)(k:Kp H M H1 M1):Up K H1 M1 R Q:=λv H' w M' u O av r=>h v H' w M' (k.trans u) O av r
def iE.kp{R:S3->Mm->Prop}{Q:SV->Hp->Prop}(h:iE K H M R Q)(k:Kp H M H1 M1):iE K H1 M1 R Q:=λv H' w M' u O av r=>h v H' w M' (k.trans u) O av r
def qW.kp(h:qW K H M D E)(k:Kp H M H1 M1):qW K H1 M1 D E:=#[h.nx.kp k,h.rt.kp k,h.bk.kp k,h.ct.kp k]
def Up.at(h:Up K H M R Q)(O:AM K H M)(av:AV K H M v w)(r:R w M):Q v H:=h v H w M (Kp.refl O) O av r
end
@[irreducible] def k9(p:Am)(M:Mm)(R:K3):Prop:=(∃ws,M p=aa (.lst ws)/\R (.rl ws) (del M p))\/(∃kvs,M p=aa (.dK kvs)/\R (.dk kvs) (del M p))\/(∃kvs,M p=aa (.dT kvs)/\R (.dt kvs) (del M p))\/R (.ref p) M
def frz:W->Mm->K3->Prop
 | .ref p,M,R=>k9 p M R
 | w,M,R=>R w M
def Up.frz{K:Ac}{H:Hp}{M:Mm}{R:K3}{Q:VK}(h:Up K H M R Q):Up K H M (λw M'=>frz w M' R) Q:=λv H' w M' k O av r=>by
 let j:=av;cases av<;>first|exact h _ _ _ _ k O j r|skip
 case ref p=>
  let r:k9 p M' R:=r;unfold k9 at r;rcases r with⟨ws,e,r⟩|⟨kvs,e,r⟩|⟨kvs,e,r⟩|r
  .let#[vs,f,q]:=O.lst e;show h _ _ _ _ (k.sub Sub.del) (O.sub Sub.del) (.rl f pA (q.sub Sub.del)) r
  .let#[ks,f,q]:=O _ _ e;show h _ _ _ _ (k.sub Sub.del) (O.sub Sub.del) (.dk f pA q.keys (q.vals.sub Sub.del)) r
  .let#[ks,f,q]:=O _ _ e;show h _ _ _ _ (k.sub Sub.del) (O.sub Sub.del) (.dt f pA q.keys (q.vals.sub Sub.del)) r
  .show h _ _ _ _ k O (.ref p) r
def EV(S:M p=ae)(r:R (.rl ws) M):k9 p (put M p (.lst ws)) R:=by unfold k9;show .inl #[ws,aK,by rw[iD S];show r]
def EW(S:M p=ae)(r:R (.dk kvs) M):k9 p (put M p (.dK kvs)) R:=by unfold k9;show .inr (.inl #[kvs,aK,by rw[iD S];show r])
def VT(S:M p=ae)(r:R (.dt kvs) M):k9 p (put M p (.dT kvs)) R:=by unfold k9;show .inr (.inr (.inl #[kvs,aK,by rw[iD S];show r]))
def aR(ws:↑W)(M:Mm)(R:K3):Prop:=∀p,M p=ae->R (.ref p) (put M p (.lst ws))
def i4(kvs:↑(aC×W))(M:Mm)(R:K3):Prop:=∀p,M p=ae->R (.ref p) (put M p (.dK kvs))
def jP(kvs:↑(↑aC×W))(M:Mm)(R:K3):Prop:=∀p,M p=ae->R (.ref p) (put M p (.dT kvs))
def aR.frz{M:Mm}{ws:↑W}{R:K3}(r:R (.rl ws) M):aR ws M λw M'=>L2.frz w M' R:=λp S=>EV S r
def i4.frz{M:Mm}{kvs:↑(aC×W)}{R:K3}(r:R (.dk kvs) M):i4 kvs M λw M'=>L2.frz w M' R:=λp S=>EW S r
def jP.frz{M:Mm}{kvs:↑(↑aC×W)}{R:K3}(r:R (.dt kvs) M):jP kvs M λw M'=>L2.frz w M' R:=λp S=>VT S r
abbrev bP(t:aP):aP:=λU M R=>t U M λw M'=>frz w M' R
def VU(K:Ac)(H:Hp)(M:Mm)(v:V):W->Prop
 | .non=>v=.non
 | .bl b=>v=.bl b
 | .int i=>v=.int i
 | .str x=>v=.str x
 | .ty n=>v=.ty n
 | .tup ws=>∃a xs,v=.ref a/\H a=aa (.tup xs)/\aJ K H M xs ws
 | .sc ws=>∃a xs,v=.ref a/\kZ K H a xs/\aJ K H M xs ws
 | .rl ws=>∃a xs,v=.ref a/\H a=aa (.lst xs)/\M a=ae/\aJ K H M xs ws
 | .ref a=>v=.ref a
 | .dk kvs=>∃a ks,v=.ref a/\H a=aa (.dK ks)/\M a=ae/\bR K H M aC ks kvs
 | .dt kvs=>∃a ks,v=.ref a/\H a=aa (.dT ks)/\M a=ae/\bR K H M (↑aC) ks kvs
 | .fk kvs=>∃a ks,v=.ref a/\(∃o,H a=aa (.frz o (.dK ks)))/\bR K H M aC ks kvs
 | .ft kvs=>∃a ks,v=.ref a/\(∃o,H a=aa (.frz o (.dT ks)))/\bR K H M (↑aC) ks kvs
section
variable {K:Ac}{H:Hp}{M:Mm}{v:V}{vs:↑V}{w:W}{ws:↑W}{C:Prop}
def AV.inv(h:AV K H M v w):VU K H M v w:=by
 cases h
 case non|bl|int|str|ty|ref=>rfl
 case tup|sc=>rename_i e q;show#[_,_,rfl,e,q]
 case rl=>rename_i e n q;show#[_,_,rfl,e,n,q]
 case dk|dt=>rename_i e n z q;show#[_,_,rfl,e,n,nZ z q]
 case fk|ft=>rename_i e z q;show#[_,_,rfl,#[_,e],nZ z q]
def AV.tupE(h:AV K H M v (.tup ws))(c:∀a xs,v=.ref a->H a=aa (.tup xs)->aJ K H M xs ws->C):C:=
 let #[a,xs,e,f,q]:=h.inv;c a xs e f q
def AV.scE(h:AV K H M v (.sc ws))(c:∀a xs,v=.ref a->kZ K H a xs->aJ K H M xs ws->C):C:=
 let #[a,xs,e,f,q]:=h.inv;c a xs e f q
def AV.rlE(h:AV K H M v (.rl ws))(c:∀a xs,v=.ref a->H a=aa (.lst xs)->aJ K H M xs ws->C):C:=
 let #[a,xs,e,f,_,q]:=h.inv;c a xs e f q
def aJ.nil_(h:aJ K H M vs []):vs=[]:=by cases h;rfl
def aJ.one(h:aJ K H M vs [w]):∃v,vs=[v]/\AV K H M v w:=by
 cases h with
 | cons x r=>rw[r.nil_];show#[_,rfl,x]
def aJ.oneE(h:aJ K H M vs [w])(c:∀v,vs=[v]->AV K H M v w->C):C:=h.one.elim λv h=>c v h.1 h.2
def aJ.two(h:aJ K H M vs [w,z]):∃v u,vs=[v,u]/\AV K H M v w/\AV K H M u z:=by
 cases h with
 | cons x r=>let#[u,rfl,y]:=r.one;show#[_,_,rfl,x,y]
def AM.lstE(O:AM K H M)(e:M a=aa (.lst ws))(c:∀xs,H a=aa (.lst xs)->aJ K H M xs ws->C):C:=(O.lst e).elim λv h=>c v h.1 h.2
def iF(e:vs=[x])(f:x=y):vs=[y]:=by rw[e,f]
end
def up.el{K:Ac}{H:Hp}{G:SV}{C:Prop}{t:aP}{Q:VK}(h:up K t G H Q)(c:∀U M R,AS K H M G U->AM K H M->t U M R->Up K H M R Q->C):C:=by let#[U,M,R,a,b,h,k]:=h;show c U M R a b h k
def k7.el{K:Ac}{H:Hp}{G:SV}{C:Prop}{t:dE}{Q:Bool->Hp->Prop}(h:k7 K t G H Q)(c:∀U M R,AS K H M G U->AM K H M->t U M R->(∀b H' M',Kp H M H' M'->AM K H' M'->R b M'->Q b H')->C):C:=by let#[U,M,R,a,b,h,k]:=h;show c U M R a b h k
def pB.el{K:Ac}{H:Hp}{G:SV}{C:Prop}{t:cV}{Q:↑V->Hp->Prop}(h:pB K t G H Q)(c:∀U M R,AS K H M G U->AM K H M->t U M R->(∀vs H' ws M',Kp H M H' M'->AM K H' M'->aJ K H' M' vs ws->R ws M'->Q vs H')->C):C:=by let#[U,M,R,a,b,h,k]:=h;show c U M R a b h k
def qX.el{K:Ac}{H:Hp}{G:SV}{C:Prop}{t:aE}{E:kU}(h:qX K t E G H)(c:∀U M D,AS K H M G U->AM K H M->t D U M->qW K H M D E->C):C:=by let#[U,M,D,a,b,h,k]:=h;show c U M D a b h k
section
variable {X:Cx}
def PE.weak(h:PE X e t)(k:∀G H Q,t' G H Q->t G H Q):PE X e t':=λC s G H Q I q=>h C s G H Q I (k G H Q q)
def PT.weak(h:PT X e t)(k:∀G H Q,t' G H Q->t G H Q):PT X e t':=λC s G H Q I q=>h C s G H Q I (k G H Q q)
def PW.weak(h:PW X e t)(k:∀G H Q,t' G H Q->t G H Q):PW X e t':=λd C s G H Q I q=>h d C s G H Q I (k G H Q q)
def PA.weak(h:PA X es t)(k:∀G H Q,t' G H Q->t G H Q):PA X es t':=λpos C s G H Q I q=>h pos C s G H Q I (k G H Q q)
def PS.weak{st:PySem.Stmt}{t t':TS}(h:PS X st t)(k:∀D G H,t' D G H->t D G H):PS X st t':=λC s G H D I q=>h C s G H D I (k D G H q)
def fN.weak{st:List PySem.Stmt}{t t':TS}(h:fN X st t)(k:∀D G H,t' D G H->t D G H):fN X st t':=λC s G H D I q=>h C s G H D I (k D G H q)
def PO.weak(h:PO X e t)(k:∀G H Q,t' G H Q->t G H Q):PO X e t':=λC s G H Q I q=>h C s G H Q I (k G H Q q)
def iM.weak(h:iM X es t)(k:∀G H Q,t' G H Q->t G H Q):iM X es t':=λC s G H Q I q=>h C s G H Q I (k G H Q q)
end
abbrev E3(X:Cx)(e:Cm)(t:aP):Prop:=PE X e (up X.K t)
abbrev T3(X:Cx)(e:Cm)(t:dE):Prop:=PT X e (k7 X.K t)
abbrev W3(X:Cx)(e:Cm)(t:dE):Prop:=PW X e (k7 X.K t)
abbrev A3(X:Cx)(es:↑Cm)(t:cV):Prop:=PA X es (pB X.K t)
def cJ(K:Ac)(r:R3):R2:=λx y H Q=>∃P l M R,AM K H M/\AV K H M x P/\AV K H M y l/\r P l M R/\Up K H M R Q
def EX(K:Ac)(r:W->Mm->K3->Prop):V->Hp->VK->Prop:=λx H Q=>∃P M R,AM K H M/\AV K H M x P/\r P M R/\Up K H M R Q
def fA(K:Ac)(r:↑W->Mm->K3->Prop):↑V->Hp->VK->Prop:=λxs H Q=>∃ws M R,AM K H M/\aJ K H M xs ws/\r ws M R/\Up K H M R Q
def jQ(K:Ac)(r:W->↑W->Mm->K3->Prop):V->↑V->Hp->VK->Prop:=λx xs H Q=>∃P ws M R,AM K H M/\AV K H M x P/\aJ K H M xs ws/\r P ws M R/\Up K H M R Q
section
variable {X:Cx}{a b c:Cm}{ta tb tc:aP}{pos:Ih}
def so{q:Type}:Option q->(q->Prop)->Prop
 | some a,Q=>Q a
 | none,_=>False
def so.el{q:Type}{o:Option q}{Q:q->Prop}(h:so o Q):∃a,o=aa a/\Q a:=by
 cases o
 .show h.elim
 .show#[_,rfl,h]
def so.of{q:Type}{o:Option q}{a:q}{Q:q->Prop}(e:o=aa a)(h:Q a):so o Q:=by subst e;show h
noncomputable abbrev mJ:W->(Bool->Prop)->Prop
 | .bl k,Q=>Q k
 | _,_=>False
def mJ.el{Q:Bool->Prop}(h:mJ w Q):∃k,w=.bl k/\Q k:=by cases w<;>first|exact#[_,rfl,h]|exact h.elim
abbrev sz:↑W->Prop->Prop
 | [],Q=>Q
 | [_],Q=>Q
 | [_,_],Q=>Q
 | [_,_,_],Q=>Q
 | [_,_,_,_],Q=>Q
 | ws,Q=>↥ws<=Ap/\Q
def sz.el{Q:Prop}(h:sz ws Q):↥ws<=Ap/\Q:=by
 unfold sz at h;split at h
 case h_6=>show h
 all_goals exact#[Ar (by simp) (show 4<=Ap by decide),h]
noncomputable abbrev cP(i:Nat):aP:=λU M R=>match U[i]? with
 | some (aa w)=>R w M
 | _=>False
def VW{i:Nat}(h:cP i U M R):∃w,U[i]? = aa (aa w)/\R w M:=by
 unfold cP at h;split at h
 .show#[_,‹_›,h]
 .show h.elim
abbrev vC(w:W):aP:=λ_ M R=>R w M
def v(i:Nat)(f:X.N[i]? = aa x:=by rfl)(c:sW X.env.scope x:=by first|exact Or.inl rfl|exact Or.inr (Or.inl rfl)|exact Or.inr (Or.inr rfl))(hd:Db x:=by decide)(B:(x==("__classdict__" : Av))=ac:=by decide):E3 X (.Name x pos) (cP i):=(B8 f c hd B).weak λG H Q E=>by
 let#[U,M,R,as,O,h,k]:=E;let#[w,e,r]:=VW h;let#[v,J,av]:=as.get e;show#[v,J,k.at O av r]
def VX{i j pos}:E3 X (.Constant (.int i) j pos) (vC (.int i)):=NO.weak λG H Q E=>E.el λU M R as O r k=>k.at O (.int i) r
def VY{b j pos}:E3 X (.Constant (.bool b) j pos) (vC (.bl b)):=NQ.weak λG H Q E=>E.el λU M R as O r k=>k.at O (.bl b) r
def VZ{j pos}:E3 X (.Constant .none j pos) (vC .non):=NR.weak λG H Q E=>E.el λU M R as O r k=>k.at O .non r
def V0{x j pos}:E3 X (.Constant (.str x) j pos) (vC (.str x)):=NS.weak λG H Q E=>E.el λU M R as O r k=>k.at O (.str x) r
def qY{x:Av}{y:V}{w:W}{u:Ae}{pos:Ih}(hg:Gl X x)(N:X.mg x=aa u)(r:RelV y u)(hw:∀H M,AV X.K H M y w)(hd:Db x:=by decide):E3 X (.Name x pos) (vC w):=
 (NT hg N r hd).weak λG H Q E=>E.el λU M R as O r k=>k.at O (hw H M) r
def EY{x:Av}{y:V}{w:W}{u:Ae}{pos:Ih}(hg:Gl X x)(N:X.mg x=ae)(c:Cz x=aa u)(r:RelV y u)(hw:∀H M,AV X.K H M y w)(P:x≠"__name__":=by decide)(hd:Db x:=by decide):E3 X (.Name x pos) (vC w):=
 (NU hg N c r P hd).weak λG H Q E=>E.el λU M R as O r k=>k.at O (hw H M) r
def V1(T:E3 X a ta):E3 X a (bP ta):=T.weak λG H Q E=>E.el λU M R as O h k=>#[U,M,_,as,O,h,k.frz]
abbrev aH(r:R3)(ta tb:aP):aP:=λU M R=>ta U M λx M1=>tb U M1 λy M2=>r x y M2 R
abbrev aG:=cP 0
abbrev aN:=cP 1
abbrev aT:=cP 2
abbrev bB:=cP 3
abbrev bG:=cP 4
abbrev cG:=cP 5
abbrev dO:=cP 6
abbrev eE:=cP 7
abbrev jR:=cP 8
abbrev mK:=cP 9
abbrev t6:=cP 10
abbrev qZ:=cP 11
abbrev rA:=cP 12
abbrev EZ:=cP 13
abbrev kG:=cP 14
abbrev rB:=cP 15
abbrev pC:=cP 16
abbrev t7:=cP 17
abbrev vI(i:Int):=vC (.int i)
abbrev bM:=vI 0
abbrev bC:=vI 1
abbrev jS:=vI 2
abbrev rC:=vI 3
def t9{K:Ac}{r:R3}{G:SV}{H:Hp}{Q:VK}(h:up K (aH r ta tb) G H Q):qO (cJ K r) (up K ta) (up K tb) G H Q:=by
 let#[U,M,R,as,O,h,k]:=h;apply#[U,M,_,as,O,h,λx H1 P M1 V j d L=>#[U,M1,_,as.kp O V,j,L,λy H2 l M2 t N m Z=>?_]];show#[P,l,M2,R,N,d.kp j t,m,Z,(k.kp V).kp t]
def V2(f:bF X (Fq op) (cJ X.K r))(T:E3 X a ta)(Y:E3 X b tb):E3 X (.BinOp a op b pos) (aH r ta tb):=(PQ f T Y).weak λ_ _ _ h=>t9 h
def V3(ho:bF X (Dr op) (cJ X.K r))(ha:E3 X a ta)(hb:E3 X b tb)(hm:Nj op b=ac:=by first|exact CG _|with_unfolding_all rfl):E3 X (.Compare a [op] [b] pos) (aH r ta tb):=(QE ho ha hb hm).weak λ_ _ _ h=>t9 h
abbrev bU(t:aP):dE:=λU M Q=>t U M λw M'=>mJ w λk=>Q k M'
def AV.bl_inv{K:Ac}{H:Hp}{M:Mm}{v:V}{k:Bool}(h:AV K H M v (.bl k)):v=.bl k:=by cases h;rfl
def V4(f:bF X (Dr op) (cJ X.K r))(T:E3 X a ta)(Y:E3 X b tb)(N:Nj op b=ac:=by first|exact CG _|with_unfolding_all rfl):T3 X (.Compare a [op] [b] pos) (bU (aH r ta tb)):=
 (QF f T Y N).weak λG H Q E=>E.el λU M R as O h k=>t9 #[U,M,_,as,O,h,λv H' w M' u z av h=>by
  let#[c,rfl,r]:=h.el;show#[c,av.bl_inv,k c H' M' u z r]]
abbrev kH(r:W->Mm->K3->Prop)(ta:aP):aP:=λU M R=>ta U M λx M1=>r x M1 R
def V5{r:W->Mm->K3->Prop}(f:qN X (Wq op) (EX X.K r))(T:E3 X a ta):E3 X (.UnaryOp op a pos) (kH r ta):=
 (PR f T).weak λG H Q E=>E.el λU M R as O h k=>#[U,M,_,as,O,h,λx H1 P M1 V j d L=>#[P,M1,R,j,d,L,k.kp V]]
def uA:W->Mm->(Bool->Mm->Prop)->Prop
 | .non,M,Q=>Q ac M
 | .bl b,M,Q=>Q b M
 | .int i,M,Q=>Q (i !=0) M
 | .str y,M,Q=>↥y<=Ap/\Q ((↥y:Int) !=0) M
 | .tup ws,M,Q=>Q (!ws.isEmpty) M
 | .rl ws,M,Q=>Q (!ws.isEmpty) M
 | .sc ws,M,Q=>Q (!ws.isEmpty) M
 | .dk kvs,M,Q=>Q (!kvs.isEmpty) M
 | .ref p,M,Q=>(∃ws,M p=aa (.lst ws)/\Q (!ws.isEmpty) M)\/∃kvs,M p=aa (.dK kvs)/\Q (!kvs.isEmpty) M
 | _,_,_=>False
abbrev dS(t:aP):dE:=λU M Q=>t U M λw M'=>uA w M' Q
def aJ.empty{K:Ac}{H:Hp}{M:Mm}{vs:↑V}{ws:↑W}(h:aJ K H M vs ws):(!ws.isEmpty) = !vs.isEmpty:=by cases h<;>rfl
def V6(T:E3 X a ta)(m:∀whole,Vo a X.env whole=(do let v <-whole;Ri a.pos;Kq [v] (truthy v)):=by intro _;rfl):T3 X a (dS ta):=
 (QJ T m).weak λG H Q E=>E.el λU M R as O h k=>#[U,M,_,as,O,h,λv H' w M' u z av r=>by
  cases av with
  | non=>show#[ac,rfl,k _ _ _ u z r]
  | bl b=>show#[b,rfl,k _ _ _ u z r]
  | int i=>show#[_,rfl,k _ _ _ u z r]
  | str y=>show#[_,#[r.1,rfl],k _ _ _ u z r.2]
  | ty n=>show Bs r
  | tup e q=>show#[_,.inr (.inl #[_,bJ.of e,q.empty]),k _ _ _ u z r]
  | rl e n q=>show#[_,.inl #[_,bL.of e,q.empty],k _ _ _ u z r]
  | sc e q=>show#[_,.inl #[_,e.sq,q.empty],k _ _ _ u z r]
  | @dk a ks kvs e n P q=>show#[!kvs.isEmpty,.inr (.inr #[_,e,by have:=nZ P q;cases this<;>rfl]),k _ _ _ u z r]
  | dt e n P q=>show Bs r
  | fk e P q=>show Bs r
  | ft e P q=>show Bs r
  | ref p=>
   rcases r with⟨ws,e,r⟩|⟨kvs,e,r⟩
   .let#[vs,J,q]:=z.lst e;show#[_,.inl #[_,bL.of J,q.empty],k _ _ _ u z r]
   .let#[ks,J,q]:=z _ _ e;show#[!kvs.isEmpty,.inr (.inr #[_,J,by cases q<;>rfl]),k _ _ _ u z r]]
abbrev n5(t u:dE):dE:=λU M Q=>t U M λc M1=>if c=ab then u U M1 Q else Q ac M1
abbrev jT(t u:dE):dE:=λU M Q=>t U M λc M1=>if c=ab then Q ab M1 else u U M1 Q
abbrev iN(t:dE):dE:=λU M Q=>t U M λc M1=>Q (!c) M1
variable {tA tB':dE}{rest:↑Cm}
def V7(T:T3 X a tA):W3 X (.BoolOp .And [a] pos) tA:=NZ T
def V8(T:T3 X a tA):W3 X (.BoolOp .Or [a] pos) tA:=N0 T
def V9(T:T3 X a tA)(Y:W3 X (.BoolOp .And (b::rest) pos) tB'):W3 X (.BoolOp .And (a::b::rest) pos) (n5 tA tB'):=
 (N1 T Y).weak λG H Q E=>E.el λU M R as O h k=>#[U,M,_,as,O,h,λc H1 M1 V j L=>by
  cases c with
  | true=>show#[U,M1,R,as.kp O V,j,L,λb H' M' u z r=>k b H' M' (V.trans u) z r]
  | false=>show k ac H1 M1 V j L]
def WA(T:T3 X a tA)(Y:W3 X (.BoolOp .Or (b::rest) pos) tB'):W3 X (.BoolOp .Or (a::b::rest) pos) (jT tA tB'):=
 (N2 T Y).weak λG H Q E=>E.el λU M R as O h k=>#[U,M,_,as,O,h,λc H1 M1 V j L=>by
  cases c with
  | true=>show k ab H1 M1 V j L
  | false=>show#[U,M1,R,as.kp O V,j,L,λb H' M' u z r=>k b H' M' (V.trans u) z r]]
def WB(T:T3 X a tA):T3 X (.UnaryOp .Not a pos) (iN tA):=
 (N3 T).weak λG H Q E=>E.el λU M R as O h k=>#[U,M,_,as,O,h,λc H1 M1 V j L=>k (!c) H1 M1 V j L]
abbrev rD(ta tb:aP):aP:=λU M R=>ta U M λx M1=>mJ x λc=>if c=ab then tb U M1 R else R (.bl ac) M1
abbrev mL(ta tb:aP):aP:=λU M R=>ta U M λx M1=>mJ x λc=>if c=ab then R (.bl ab) M1 else tb U M1 R
def WC{op}(h:E3 X a ta):E3 X (.BoolOp op [a] pos) ta:=N6 h
def v_and(T:E3 X a ta)(Y:E3 X (.BoolOp .And (b::rest) pos) tb):E3 X (.BoolOp .And (a::b::rest) pos) (rD ta tb):=
 (N7 T Y).weak λG H Q E=>E.el λU M R as O h k=>#[U,M,_,as,O,h,λx H1 P M1 V j d h=>by
  let#[c,rfl,L]:=h.el;apply#[c,d.bl_inv,?_];cases c with
  | true=>show#[U,M1,R,as.kp O V,j,L,k.kp V]
  | false=>show(k.kp V).at j (.bl ac) L]
def v_or(T:E3 X a ta)(Y:E3 X (.BoolOp .Or (b::rest) pos) tb):E3 X (.BoolOp .Or (a::b::rest) pos) (mL ta tb):=
 (N8 T Y).weak λG H Q E=>E.el λU M R as O h k=>#[U,M,_,as,O,h,λx H1 P M1 V j d h=>by
  let#[c,rfl,L]:=h.el;apply#[c,d.bl_inv,?_];cases c with
  | true=>show(k.kp V).at j (.bl ab) L
  | false=>show#[U,M1,R,as.kp O V,j,L,k.kp V]]
abbrev uB(t:dE)(ta tb:aP):aP:=λU M R=>t U M λc M1=>if c=ab then ta U M1 R else tb U M1 R
def WE(hc:T3 X c tA)(T:E3 X a ta)(Y:E3 X b tb):E3 X (.IfExp c a b pos) (uB tA ta tb):=
 (OA hc T Y).weak λG H Q E=>E.el λU M R as O h k=>#[U,M,_,as,O,h,λc H1 M1 V j L=>by
  cases c with
  | true=>show#[U,M1,R,as.kp O V,j,L,k.kp V]
  | false=>show#[U,M1,R,as.kp O V,j,L,k.kp V]]
abbrev aB:cV:=λ_ M R=>R [] M
abbrev aA(ta:aP)(a:cV):cV:=λU M R=>ta U M λx M1=>a U M1 λxs M2=>R (x::xs) M2
variable {e:Cm}{es:↑Cm}{te:aP}{t:cV}
def pD:A3 X [] aB:=Q4.weak λG H Q E=>E.el λU M R as O h k=>k [] H [] M (Kp.refl O) O .nil h
def n6(T:E3 X e te)(G:A3 X es t)(F:Se X e es:=by rfl):A3 X (e::es) (aA te t):=
 (Q6 T G F).weak λl H Q E=>E.el λU M R as O h k=>#[U,M,_,as,O,h,λx H1 P M1 V j d L=>#[U,M1,_,as.kp O V,j,L,λxs H2 ws M2 Y N m Z=>
  k (x::xs) H2 (P::ws) M2 (V.trans Y) N (.cons (d.kp j Y) m) Z]]
abbrev bA(t:cV):aP:=λU M R=>t U M λws M1=>sz ws (R (.tup ws) M1)
abbrev gH(t:cV):aP:=λU M R=>t U M λws M1=>sz ws (aR ws M1 R)
def laidT{K:Ac}{H:Hp}{M:Mm}{R:K3}{Q:VK}{p:Am}{xs:↑V}{ws:↑W}(O:AM K H M)(k:Up K H M R Q)(S:H p=ae)(d:aJ K H M xs ws)(r:R (.tup ws) M):Q (.ref p) (aL H p (.tup xs)):=by
 let#[N,t]:=O.tup (u:=.tup xs) S;show k _ _ _ _ t N (.tup b7 (d.newT S)) r
def gJ{K:Ac}{H:Hp}{M:Mm}{R:K3}{Q:VK}{p:Am}{xs:↑V}{ws:↑W}(O:AM K H M)(k:Up K H M R Q)(S:H p=ae)(d:aJ K H M xs ws)(r:∀p,M p=ae->R (.ref p) (put M p (.lst ws))):Q (.ref p) (aL H p (.lst xs)):=by
 let#[N,t]:=O.laid (o:=.lst ws) (u:=.lst xs) S #[xs,b7,d.newL S];show k _ _ _ _ t N (.ref p) (r p (O.nonM S))
def rE{K:Ac}{H:Hp}{M:Mm}{R:K3}{Q:VK}{l:Am}{xs:↑V}{ws b:↑W}{y:V}{w:W}(O:AM K H M)(k:Up K H M R Q)(hl:M l=aa (.lst b))(d:aJ K H M xs ws)(m:AV K H M y w)(r:R w (put M l (.lst ws))):Q y (aL H l (.lst xs)):=by
 let#[N,t]:=O.write (o:=.lst ws) (u:=.lst xs) hl #[xs,b7,d.wr O hl];show k _ _ _ _ t N (m.wr O hl) r
def WG{x1}(h:A3 X es t):E3 X (.Tuple es x1 pos) (bA t):=
 (Q9 h).weak λG H Q E=>E.el λU M R as O h k=>#[U,M,_,as,O,h,λxs H1 ws M1 V j m r=>#[by rw[↥m];show r.el.1,λp S=>laidT j (k.kp V) S m r.el.2]]
def WH(h:A3 X es t):E3 X (.List es pos) (gH t):=
 (CO h).weak λG H Q E=>E.el λU M R as O h k=>#[U,M,_,as,O,h,λxs H1 ws M1 V j m r=>#[by rw[↥m];show r.el.1,λp S=>gJ j (k.kp V) S m r.el.2]]
abbrev a7(r:↑W->Mm->K3->Prop)(t:cV):aP:=λU M R=>t U M λws M1=>r ws M1 R
variable {x:Av}{p:Ih}{id T:String}{r:↑W->Mm->K3->Prop}
def E1{K:Ac}{G:SV}{H:Hp}{Q:VK}(h:up K (a7 r t) G H Q):xA (fA K r) (pB K t) G H Q:=by
 let#[U,M,R,as,O,h,k]:=h;show#[U,M,_,as,O,h,λxs H1 ws M1 V j m L=>#[ws,M1,R,j,m,L,k.kp V]]
def rF(hc:cN X (.builtin id) (fA X.K r))(hg:Gl X x)(N:X.mg x=ae)(c:Cz x=aa (.builtin id))(T:A3 X (e::es) t)(P:x≠"__name__":=by decide)(i:Db x:=by decide)(F:Se X e es:=by rfl)(y:Sb X pos es:=by rfl):E3 X (.Call (.Name x p) (e::es) [] pos) (a7 r t):=(RH hc hg N c T P i F y).weak λ_ _ _ h=>E1 h
def lB(hc:cN X (.type T) (fA X.K r))(hg:Gl X x)(N:X.mg x=ae)(c:Cz x=aa (.type T))(m:A3 X (e::es) t)(P:x≠"__name__":=by decide)(i:Db x:=by decide)(F:Se X e es:=by rfl)(y:Sb X pos es:=by rfl):E3 X (.Call (.Name x p) (e::es) [] pos) (a7 r t):=(RI hc hg N c m P i F y).weak λ_ _ _ h=>E1 h
abbrev a8:=↑W->Mm->K3->Prop
def fS(K:Ac)(sp:a8):Sp:=λvs H Q _=>∃ws M R,AM K H M/\aJ K H M vs ws/\sp ws M R/\Up K H M R Q
variable {k:Nat}{f:Am}{fd:Fs}{ps:↑Av}{sp:a8}
abbrev aS(sp:a8)(t:cV):aP:=λU M R=>t U M λws M1=>sp ws M1 R
def E2{K:Ac}{G:SV}{H:Hp}{Q:VK}(h:up K (aS sp t) G H Q):CP (fS K sp) [] E0 (pB K t) G H Q:=by
 let#[U,M,R,as,O,h,k]:=h;show#[U,M,_,as,O,h,λxs H1 ws M1 V j m L=>#[ws,M1,R,j,by rw[Bn];show m,L,k.kp V]]
def E4(F:X.f eW k f fd ps (fS X.K sp))(G:cI k X.A)(hg:Gl X x)(N:X.mg x=aa (.ref f))(hk:Hf X.K (.ref f)=ab)(Y:Binds X.K fd ps [])(T:A3 X (e::es) t)(i:Db x:=by decide)(m:Se X e es:=by rfl)(y:Sb X pos es:=by rfl):
  E3 X (.Call (.Name x p) (e::es) [] pos) (aS sp t):=(RA F G hg N hk Y .nil oW T i m y).weak λ_ _ _ h=>E2 h
def jU(T:String):W->Mm->Prop
 | .str _,_=>T = "str"
 | .int _,_=>T = "int"
 | .rl _,_=>T = "list"
 | .sc _,_=>T = "list"
 | .dk _,_=>T = "dict"
 | .dt _,_=>T = "dict"
 | .fk _,_=>T = "dict"
 | .ft _,_=>T = "dict"
 | .ref p,M=>(T = "list"/\∃ws,M p=aa (.lst ws))\/(T = "dict"/\((∃kvs,M p=aa (.dK kvs))\/∃kvs,M p=aa (.dT kvs)))
 | _,_=>False
def E5{K:Ac}{H:Hp}{M:Mm}{v:V}{w:W}(O:AM K H M)(av:AV K H M v w)(h:jU T w M):tK K T v H:=by
 cases av with
 | str y=>show h
 | int i=>show h
 | rl e n q=>show .inl #[h,_,bL.of e]
 | sc e q=>show .inl #[h,_,e.sq]
 | dk e n P q=>show .inr (.inr (.inl #[h,.inl #[_,.inl e]]))
 | dt e n P q=>show .inr (.inr (.inl #[h,.inr #[_,.inl e]]))
 | ref p=>
  rcases h with⟨e,ws,h⟩|⟨e,h⟩
  .let#[vs,J,_]:=O.lst h;show .inl #[e,vs,bL.of J]
  .apply .inr (.inr (.inl #[e,?_]));rcases h with⟨kvs,h⟩|⟨kvs,h⟩
   .let#[ks,J,_]:=O _ _ h;show .inl #[ks,.inl J]
   .let#[ks,J,_]:=O _ _ h;show .inr #[ks,.inl J]
 | non=>show h.elim
 | bl b=>show h.elim
 | ty n=>show h.elim
 | tup e q=>show h.elim
 | fk e P q=>show .inr (.inr (.inl #[h,.inl #[_,.inr #[_,e]]]))
 | ft e P q=>show .inr (.inr (.inl #[h,.inr #[_,.inr #[_,e]]]))
variable {o:Cm}{to:aP}{name:Av}{apos cpos:Ih}{rm:W->↑W->Mm->K3->Prop}
abbrev lC(T:String)(r:W->↑W->Mm->K3->Prop)(to:aP):aP:=λU M R=>to U M λx M1=>jU T x M1/\r x [] M1 R
abbrev c9(T:String)(r:W->↑W->Mm->K3->Prop)(to:aP)(t:cV):aP:=λU M R=>to U M λx M1=>jU T x M1/\t U M1 λxs M2=>r x xs M2 R
def WI(z:Qh T)(slot:Slot T name id)(q:Vl (.builtin id)=pure (.type "method_descriptor"))(N:fQ X id (jQ X.K rm))(f:E3 X o to)(y:Hs o name X.env (El o X.env)=El o X.env:=by rfl)(b:(apos.endLine==cpos.line)=ab:=by rfl):E3 X (.Call (.Attribute o name apos) [] [] cpos) (lC T rm to):=
 (C9 z slot q N f y b).weak λG H Q E=>E.el λU M R as O h k=>#[U,M,_,as,O,h,λx H1 P M1 V j d #[ty,L]=>#[E5 j d ty,P,[],M1,R,j,d,.nil,L,k.kp V]]
def mM(z:Qh T)(slot:Slot T name id)(q:Vl (.builtin id)=pure (.type "method_descriptor"))(N:fQ X id (jQ X.K rm))(f:E3 X o to)(m:A3 X (e::es) t)(y:Hs o name X.env (El o X.env)=El o X.env:=by rfl)(u:((Nx cpos (Cg (e::es) X.env)).all (λx=>!x.1)&&(Pr cpos (Mq [] X.env)).all (λx=>x.1.isSome)
  &&decide (↥(e::es)+↥([]:↑Rm)+(if ([]:↑Rm).isEmpty then 0 else 1)<30))=ab:=by rfl)(b:(apos.endLine==cpos.line)=ab:=by rfl)(F:Se X e es:=by rfl)(c:Sb X cpos es:=by rfl):
  E3 X (.Call (.Attribute o name apos) (e::es) [] cpos) (c9 T rm to t):=
 (SX z slot q N f m y u b F c).weak λG H Q E=>E.el λU M R as O h k=>#[U,M,_,as,O,h,λx H1 p M1 V j d #[ty,L]=>#[E5 j d ty,U,M1,_,as.kp O V,j,L,λxs H2 ws M2 Y P g Z=>
  #[p,ws,M2,R,P,d.kp j Y,g,Z,(k.kp V).kp Y]]]
end
section
variable {X:Cx}
def lE{f:Ae->Ae->Uc Ae}(B:bF X f r)(h:∀x y H Q M R,AM X.K H M->Up X.K H M R Q->∀P l,a P l M R->AV X.K H M x P->AV X.K H M y l->r x y H Q):bF X f (cJ X.K a):=
 λaf s Z H x y v u Q I S N E=>by let#[P,l,M,R,O,d,m,L,k]:=E;show B af s Z H x y v u Q I S N (h x y H Q M R O k P l L d m)
def WJ(B:iX X r)(h:∀x y H Q M R,AM X.K H M->Up X.K H M R Q->∀P l,a P l M R->AV X.K H M x P->AV X.K H M y l->r x y H Q):iX X (cJ X.K a):=
 λe b af s Z H x y v u Q I S N #[P,l,M,R,O,d,m,L,k]=>B e b af s Z H x y v u Q I S N (h x y H Q M R O k P l L d m)
def xY{r:↑V->Hp->VK->Prop}{a:↑W->Mm->K3->Prop}(v:cN X f r)(h:∀xs H Q M R,AM X.K H M->Up X.K H M R Q->∀ws,a ws M R->aJ X.K H M xs ws->r xs H Q):cN X f (fA X.K a):=
 λaf s Z H xs us Q I rs E=>by let#[ws,M,R,O,d,L,k]:=E;show v af s Z H xs us Q I rs (h xs H Q M R O k ws L d)
abbrev E6:R3
 | .int i,.int j,M,R=>R (.int (i+j)) M
 | .tup xs,.tup ys,M,R=>xs≠[]/\↥xs+↥ys<=Ap/\R (.tup (xs++ys)) M
 | .ref a,.ref b,M,R=>∃xs ys,M a=aa (.lst xs)/\M b=aa (.lst ys)/\↥xs+↥ys<=Ap/\aR (xs++ys) M R
 | .rl xs,.ref b,M,R=>∃ys,M b=aa (.lst ys)/\↥xs+↥ys<=Ap/\aR (xs++ys) M R
 | .ref a,.rl ys,M,R=>∃xs,M a=aa (.lst xs)/\↥xs+↥ys<=Ap/\aR (xs++ys) M R
 | .rl xs,.rl ys,M,R=>↥xs+↥ys<=Ap/\aR (xs++ys) M R
 | _,_,_,_=>False
def lG(M:Mm):W->↑W->Prop
 | .ref a,ws=>M a=aa (.lst ws)
 | .rl ws,L=>ws=L
 | _,_=>False
def mN{K:Ac}{H:Hp}{M:Mm}{v:V}{w:W}{ws:↑W}(O:AM K H M)(h:AV K H M v w)(e:lG M w ws):∃a xs,v=.ref a/\H a=aa (.lst xs)/\aJ K H M xs ws:=by
 cases w<;>first|exact Bs e|skip
 case ref a=>show O.lstE e λxs f q=>#[_,_,h.inv,f,q]
 case rl zs=>show h.rlE λa xs J f q=>#[_,_,J,f,by rw[<-show zs=ws from e];show q]
def WK{P:W->W->Prop}(N:∀i j,R (.int (i+j)) M->P (.int i) (.int j))(u:∀xs ys,xs≠[]/\↥xs+↥ys<=Ap/\R (.tup (xs++ys)) M->P (.tup xs) (.tup ys))(T:∀x y xs ys,lG M x xs->lG M y ys->↥xs+↥ys<=Ap->aR (xs++ys) M R->P x y):∀x y,E6 x y M R->P x y:=by
 intro x y h;cases x<;>first|exact Bs h|(cases y<;>first|exact Bs h|skip)
 case int.int=>show N _ _ h
 case tup.tup=>show u _ _ h
 case ref.ref=>let#[xs,ys,e,f,l,r]:=h;show T _ _ _ _ e f l r
 case rl.ref=>let#[ys,f,l,r]:=h;show T _ _ _ _ rfl f l r
 case ref.rl=>let#[xs,e,l,r]:=h;show T _ _ _ _ e rfl l r
 case rl.rl=>show T _ _ _ _ rfl rfl h.1 h.2
def WL:bF X (Fq .Add) (cJ X.K E6):=lE (PU.or (RZ.or S6)) λx y H Q M R O k=>WK
 (λi j h d m=>.inl #[i,j,d.inv,m.inv,k.at O (.int _) h])
 (λxs ys h d m=>d.tupE λa us J T W=>m.tupE λb vs D t n=>.inr (.inl #[a,b,us,vs,J,D,bJ.of T,bJ.of t,
  λz=>h.1 (Jk.mp (by rw[<-↥W,z];rfl)),by rw[↥W,↥n];show h.2.1,
  λz=>k.at O (by rw[<-J];show d) (by rw[<-Bn xs,<-Jk.mp (show ↥ys=0 by rw[<-↥n,z];rfl)];show h.2.2),
  λ_ p S=>laidT O k S (W.append n) h.2.2]))
 (λP Y xs ys L Z l r d m=>.inr (.inr (by
  let#[a,us,J,T,W]:=mN O d L;let#[b,vs,D,t,n]:=mN O m Z;show#[a,b,us,vs,J,D,T,t,by rw[↥W,↥n];show l,λp S=>gJ O k S (W.append n) r])))
noncomputable abbrev rG(C:Int->Int->Prop)(g:Int->Int->W):R3
 | .int i,.int j,M,R=>C i j/\R (g i j) M
 | _,_,_,_=>False
def WM{C:Int->Int->Prop}{g:Int->Int->W}{P:W->W->Prop}(c:∀i j,C i j/\R (g i j) M->P (.int i) (.int j))(x y:W)(h:rG C g x y M R):P x y:=by
 cases x<;>first|exact Bs h|(cases y<;>first|exact Bs h|exact c _ _ h)
def xZ{f:Ae->Ae->Uc Ae}{C:Int->Int->Prop}{g:Int->Int->V}{g':Int->Int->W}(v:bF X f (rI C g))(hg:∀H M i j,AV X.K H M (g i j) (g' i j)):bF X f (cJ X.K (rG C g')):=
 lE v λx y H Q M R O k=>WM λi j h d m=>#[i,j,d.inv,m.inv,h.1,k.at O (hg H M i j) h.2]
abbrev pE(g:Int->Int->W):R3
 | .int i,.int j,M,R=>R (g i j) M
 | _,_,_,_=>False
def WN{g:Int->Int->W}{P:W->W->Prop}(c:∀i j,R (g i j) M->P (.int i) (.int j))(x y:W)(h:pE g x y M R):P x y:=by
 cases x<;>first|exact Bs h|(cases y<;>first|exact Bs h|exact c _ _ h)
def uC{f:Ae->Ae->Uc Ae}{g:Int->Int->V}{g':Int->Int->W}(v:bF X f (l8 g))(hg:∀H M i j,AV X.K H M (g i j) (g' i j)):bF X f (cJ X.K (pE g')):=
 lE v λx y H Q M R O k=>WN λi j h d m=>#[i,j,d.inv,m.inv,k.at O (hg H M i j) h]
abbrev rH:R3:=pE λi j=>.int (i-j)
def WO:bF X (Fq .Sub) (cJ X.K rH):=uC PV λ_ _ _ _=>.int _
abbrev i6:R3:=rG DT λi j=>.int (i/j)
def WQ:bF X (Fq .FloorDiv) (cJ X.K i6):=xZ UN λ_ _ _ _=>.int _
abbrev gK:R3:=rG (λ_ j=>0<j) λi j=>.int (i % j)
def WR:bF X (Fq .Mod) (cJ X.K gK):=xZ PY λ_ _ _ _=>.int _
abbrev yA:R3:=rG wZ λi j=>.int (i ^ j.toNat)
def WS:bF X (Fq .Pow) (cJ X.K yA):=xZ PZ λ_ _ _ _=>.int _
abbrev E7:R3
 | .int i,.int j,M,R=>(oS i j\/tR i j)/\R (.int (i*j)) M
 | .ref a,.int n,M,R=>∃xs,M a=aa (.lst xs)/\-(2 ^ 63)<=n/\n<2 ^ 63/\↥xs*n.toNat<=Ap/\aR (Cu n.toNat xs).flatten M R
 | .rl xs,.int n,M,R=>-(2 ^ 63)<=n/\n<2 ^ 63/\↥xs*n.toNat<=Ap/\aR (Cu n.toNat xs).flatten M R
 | _,_,_,_=>False
def WT{P:W->W->Prop}(N:∀i j,(oS i j\/tR i j)/\R (.int (i*j)) M->P (.int i) (.int j))(T:∀x n xs,lG M x xs->-(2 ^ 63)<=n/\n<2 ^ 63/\↥xs*n.toNat<=Ap/\aR (Cu n.toNat xs).flatten M R->P x (.int n)):∀x y,E7 x y M R->P x y:=by
 intro x y h;cases x<;>first|exact Bs h|(cases y<;>first|exact Bs h|skip)
 case int.int=>show N _ _ h
 case ref.int=>let#[xs,e,h]:=h;show T _ _ _ e h
 case rl.int=>show T _ _ _ rfl h
def WU:bF X (Fq .Mult) (cJ X.K E7):=lE (PX.or (UM.or S9)) λx y H Q M R O k=>WT
 (λi j h d m=>h.1.elim (λz=>.inl #[i,j,d.inv,m.inv,z,k.at O (.int _) h.2]) λz=>.inr (.inl #[i,j,d.inv,m.inv,z,k.at O (.int _) h.2]))
 (λP n xs L h d m=>.inr (.inr (by
  let#[a,us,J,T,W]:=mN O d L;show#[a,n,us,J,m.inv,T,h.1,h.2.1,by rw[↥W];show h.2.2.1,λp S=>gJ O k S (W.flatRep _) h.2.2.2])))
abbrev kI:W->Mm->K3->Prop
 | .int i,M,R=>R (.int (-i)) M
 | _,_,_=>False
def WV:qN X (Wq .USub) (EX X.K kI):=by
 rintro af s Z H x v Q I S ⟨P,M,R,O,d,h,k⟩;cases P<;>first|exact Bs h|skip
 case int i=>show P1 af s Z H _ v Q I S #[i,d.inv,k.at O (.int _) h]
abbrev mO:R3:=pE λi j=>.bl (decide (i<j))
def yB:bF X (Dr .Lt) (cJ X.K mO):=uC P8 λ_ _ _ _=>.bl _
abbrev yC:R3:=pE λi j=>.bl (decide (i<=j))
def yD:bF X (Dr .LtE) (cJ X.K yC):=uC P9 λ_ _ _ _=>.bl _
abbrev yE:R3:=pE λi j=>.bl (decide (j<i))
def E8:bF X (Dr .Gt) (cJ X.K yE):=uC QA λ_ _ _ _=>.bl _
noncomputable def isNon:W->Bool
 | .non=>ab
 | _=>ac
def n8(neg:Bool):R3
 | x,.non,M,R=>R (.bl (if neg then !isNon x else isNon x)) M
 | _,_,_,_=>False
def AV.isNon{K:Ac}{H:Hp}{M:Mm}{v:V}{w:W}(h:AV K H M v w):decide (v=.non)=L2.isNon w:=by cases h<;>rfl
def WW{n:Bool}{P:W->W->Prop}(c:∀x,R (.bl (if n then !isNon x else isNon x)) M->P x .non)(x y:W)(h:n8 n x y M R):P x y:=by
 cases y<;>first|exact Bs h|exact c _ h
def E9:bF X (Dr .IsNot) (cJ X.K (n8 ab)):=lE QC λx y H Q M R O k=>WW λw h d m=>#[m.inv,by rw[d.isNon];show k.at O (.bl _) h]
mutual
inductive Snap(M:Mm):W->Ou->Prop
 | non:Snap M .non .none
 | bl (b:Bool):Snap M (.bl b) (.bool b)
 | int (i:Int):Snap M (.int i) (.int i)
 | str (x:Av):Snap M (.str x) (.str x)
 | tup {ws:↑W} {ds:↑Ou}:iO M ws ds->Snap M (.tup ws) (.tuple ds)
 | rl {ws:↑W} {ds:↑Ou}:iO M ws ds->Snap M (.rl ws) (.list ds)
 | ref {a:Am} {ws:↑W} {ds:↑Ou}:M a=aa (.lst ws)->iO M ws ds->Snap M (.ref a) (.list ds)
inductive iO(M:Mm):↑W->↑Ou->Prop
 | nil:iO M [] []
 | cons {w:W} {ws:↑W} {d:Ou} {ds:↑Ou}:Snap M w d->iO M ws ds->iO M (w::ws) (d::ds)
end
section
variable {af:Pn}{Z:SV}{H:Hp}{s:Ak}{M:Mm}
def iO.reads(I:Inv X af Z H s)(O:AM X.K H M)(h:iO M ws j):∀{vs:↑V} {us:↑Ae},aJ X.K H M vs ws->aY vs us->∃as,ReadsAll s.heap us j as:=
 iO.rec (motive_1:=λw d _=>∀{v:V} {u:Ae},AV X.K H M v w->RelV v u->∃as,Reads s.heap u d as) (motive_2:=λws j _=>∀{vs:↑V} {us:↑Ae},aJ X.K H M vs ws->aY vs us->∃as,ReadsAll s.heap us j as)
  (λav r=>by rw[show _=_ from av.inv]at r;rw[show _=_ from r];show#[_,.none])
  (λb _ _ av r=>by rw[show _=_ from av.inv]at r;rw[show _=_ from r];show#[_,.bool b])
  (λi _ _ av r=>by rw[show _=_ from av.inv]at r;show r.elim λt r=>by rw[r];show#[_,.int i t])
  (λx _ _ av r=>by rw[show _=_ from av.inv]at r;show r.elim λt r=>by rw[r];show#[_,.str x t])
  (λ_ E _ _ av r=>av.tupE λa xs e f q=>by
   rw[e]at r;rw[show _=_ from r];obtain⟨its,R,⟨o,J,D,n,Y⟩,_⟩:=I.tuple (bJ.of f);show(E q R).elim λas z=>#[_,.tuple J D Y (by simpa using z)])
  (λ_ E _ _ av r=>av.rlE λa xs e f q=>by
   rw[e]at r;rw[show _=_ from r];let#[its,R,pl,_]:=I.list (bL.of f);let#[o,J,D,n,Y]:=pl.isList;show(E q R).elim λas z=>#[_,.list J D Y (by simpa using z)])
  (λT _ E _ _ av r=>O.lstE T λvs f q=>by
   rw[show _=_ from av.inv]at r;rw[show _=_ from r];let#[its,R,pl,_]:=I.list (bL.of f);let#[o,J,D,n,Y]:=pl.isList;show(E q R).elim λas z=>#[_,.list J D Y (by simpa using z)])
  (λav r=>by cases av;cases r;show#[_,.nil])
  (λ_ _ c Q _ _ av r=>by
   cases av with
   | cons a b=>
    cases r with
    | cons l m=>show(c a l).elim λx g=>(Q b m).elim λy G=>#[_,.cons g G]) h
def Snap.reads(I:Inv X af Z H s)(O:AM X.K H M){w:W}{d:Ou}{v:V}{u:Ae}(h:Snap M w d)(av:AV X.K H M v w)(r:RelV v u):∃as,Reads s.heap u d as:=
 (iO.reads I O (.cons h .nil) (.cons av .nil) (.cons r .nil)).elim λ_ z=>by
  cases z with
  | cons q _=>show#[_,q]
end
@[irreducible] def mP(neg:Bool)(x y:W)(M:Mm)(R:K3):Prop:=∃n a,Snap M x n/\Snap M y a/\D7 n/\D7 a/\R (.bl (if neg then !PyData.eqv n a else Nk n a)) M
def dU(neg:Bool):R3
 | .int i,.int j,M,R=>R (.bl (if neg then !decide (i=j) else decide (i=j))) M
 | .str i,.str j,M,R=>R (.bl (if neg then !decide (i=j) else decide (i=j))) M
 | .bl i,.bl j,M,R=>R (.bl (if neg then !decide (i=j) else decide (i=j))) M
 | x,y,M,R=>mP neg x y M R
def FA{i j:Int}:decide (V.int i=V.int j)=decide (i=j):=by rw[Fd];simp
def uD:decide (V.str i=V.str j)=decide (i=j):=by rw[Fd];simp
def FC{i j:Bool}:decide (V.bl i=V.bl j)=decide (i=j):=by rw[Fd];simp
def FD{n:Bool}{P:W->W->Prop}(N:∀i j,R (.bl (if n then !decide (i=j) else decide (i=j))) M->P (.int i) (.int j))(u:∀i j,R (.bl (if n then !decide (i=j) else decide (i=j))) M->P (.str i) (.str j))(T:∀i j,R (.bl (if n then !decide (i=j) else decide (i=j))) M->P (.bl i) (.bl j))(t:∀x y,mP n x y M R->P x y)(x y:W)(h:dU n x y M R):P x y:=by
 cases x<;>first|exact t _ _ h|(cases y<;>first|exact N _ _ h|exact u _ _ h|exact T _ _ h|exact t _ _ h)
def sV(e:x=i)(f:y=j)(h:tF i j=ab):tF x y=ab:=by rw[e,f];show h
def dV{i j:V}{x y:V}{b:Bool}{Q:Bool->Prop}(e:x=i)(f:y=j)(h:decide (i=j)=b)(q:Q b):Q (decide (x=y)):=by rw[e,f,h];show q
def WX(C:X.A.units+64<Fu):bF X (Dr .Eq) (cJ X.K (mP ac)):=by
 rintro af s Z H x y v u Q I S N ⟨P,l,M,R,O,d,m,h,k⟩;unfold mP at h;let#[n,a,T,Y,fa,z,q]:=h;let#[as,i]:=T.reads I O d S;let#[bs,rb]:=Y.reads I O m N;show SeqAt.compareEq_reads i rb fa.1 z.1 (Gz (Nm (Ar (Pq _ _) (Ar fa.2 ∅)) _) C) #[.bl _,H,I,rfl,k.at O (.bl _) q]
def WY(C:X.A.units+64<Fu):bF X (Dr .NotEq) (cJ X.K (mP ab)):=by
 rintro af s Z H x y v u Q I S N ⟨P,l,M,R,O,d,m,h,k⟩;unfold mP at h;let#[n,a,T,Y,fa,z,q]:=h;let#[as,i]:=T.reads I O d S;let#[bs,rb]:=Y.reads I O m N;show SeqAt.compareNe_reads i rb fa.1 z.1 (Gz (Nm (Ar (Pq _ _) (Ar fa.2 ∅)) _) C) #[.bl _,H,I,rfl,k.at O (.bl _) q]
def FE(C:X.A.units+64<Fu):bF X (Dr .Eq) (cJ X.K (dU ac)):=lE (P6.or (WX C)) λx y H Q M R O k=>FD
 (λi j h d m=>.inl #[sV d.inv m.inv rfl,dV (Q:=λb=>Q (.bl b) H) d.inv m.inv FA (k.at O (.bl _) h)])
 (λi j h d m=>.inl #[sV d.inv m.inv rfl,dV (Q:=λb=>Q (.bl b) H) d.inv m.inv uD (k.at O (.bl _) h)])
 (λi j h d m=>.inl #[sV d.inv m.inv rfl,dV (Q:=λb=>Q (.bl b) H) d.inv m.inv FC (k.at O (.bl _) h)])
 (λP l h d m=>.inr #[P,l,M,R,O,d,m,h,k])
def FF(C:X.A.units+64<Fu):bF X (Dr .NotEq) (cJ X.K (dU ab)):=lE (P7.or (WY C)) λx y H Q M R O k=>FD
 (λi j h d m=>.inl #[sV d.inv m.inv rfl,dV (Q:=λb=>Q (.bl !b) H) d.inv m.inv FA (k.at O (.bl _) h)])
 (λi j h d m=>.inl #[sV d.inv m.inv rfl,dV (Q:=λb=>Q (.bl !b) H) d.inv m.inv uD (k.at O (.bl _) h)])
 (λi j h d m=>.inl #[sV d.inv m.inv rfl,dV (Q:=λb=>Q (.bl !b) H) d.inv m.inv FC (k.at O (.bl _) h)])
 (λP l h d m=>.inr #[P,l,M,R,O,d,m,h,k])
noncomputable def wK:aC->W
 | .inl i=>.int i
 | .inr x=>.str x
noncomputable def aM{U:Type}[DecidableEq U](kvs:↑(U×W))(k:U):Option W:=(kvs.find? λn=>decide (n.1=k)).map (·.2)
noncomputable def bW{U:Type}[DecidableEq U](kvs:↑(U×W))(k:U)(v:W):↑(U×W):=
 if (kvs.any λn=>decide (n.1=k))=ab then kvs.map (λn=>if n.1=k then(n.1,v) else n) else kvs++[(k,v)]
def AV.key{K:Ac}{H:Hp}{M:Mm}{v:V}{k:aC}(h:AV K H M v (wK k)):v=kV k:=by
 cases k<;>exact h.inv
theorem aJ.keys{K:Ac}{H:Hp}{M:Mm}:∀{vs:↑V} {k:↑aC},aJ K H M vs (k.map wK)->vs=k.map kV
 | _,[],h=>by cases h;rfl
 | _,a::r,h=>by
  cases h with
  | cons x y=>rw[x.key,aJ.keys y];rfl
section
variable {U:Type}[DecidableEq U]{K:Ac}{H:Hp}{M:Mm}
def uE(h:bR K H M U ks kvs)(k:U):(aM kvs k=ae/\fW ks k=ae)\/∃v w,aM kvs k=aa w/\fW ks k=aa v/\AV K H M v w:=by
 induction h with
 | nil=>show .inl #[rfl,rfl]
 | @cons p q ps qs r t E=>
  by_cases e:p.1=k
  .apply .inr #[p.2,q.2,?_,?_,r.2]
   .unfold aM;rw[Ee,Xd (by rw[<-r.1];show e)];rfl
   .show tL e
  .let D:¬q.1=k:=by rw[<-r.1];show e
   let l:aM (q::qs) k=aM qs k:=by unfold aM;rw[Ee,Xe D]
   rw[l,tM e];show E
def WZ(h:bR K H M U ks kvs)(k:U):(ks.any λn=>decide (n.1=k))=(kvs.any λn=>decide (n.1=k)):=by
 induction h with
 | nil=>rfl
 | cons r t E=>rw[Ge,Ge,E,r.1]
def W0{ks:↑(U×V)}{kvs:↑(U×W)}{v:V}{w:W}{k:U}(av:AV K H M v w)(h:bR K H M U ks kvs):bR K H M U (ks.map (λn=>if n.1=k then(n.1,v) else n)) (kvs.map (λn=>if n.1=k then(n.1,w) else n)):=by
 induction h with
 | nil=>show .nil
 | @cons p q ps qs r t E=>
  rw[Bi,Bi];apply .cons ?_ E
  by_cases e:p.1=k
  .rw[Xb e,Xb (by rw[<-r.1];show e)];show#[r.1,av]
  .rw[Xa e,Xa (by rw[<-r.1];show e)];show r
theorem W4{ks:↑(U×V)}{kvs:↑(U×W)}{v:V}{w:W}{k:U}(av:AV K H M v w)(h:bR K H M U ks kvs):bR K H M U (ks++[(k,v)]) (kvs++[(k,w)]):=by
 induction h with
 | nil=>show .cons #[rfl,av] .nil
 | cons r t E=>show .cons r E
def rJ{ks:↑(U×V)}{kvs:↑(U×W)}{v:V}{w:W}(h:bR K H M U ks kvs)(k:U)(av:AV K H M v w):bR K H M U (dZ ks k v) (bW kvs k w):=by
 unfold dZ bW;rw[WZ h k];split
 .show W0 av h
 .show W4 av h
end
def eY(M:Mm):W->W->Option W->Prop
 | .ref a,y,o=>(∃kvs k,M a=aa (.dK kvs)/\y=wK k/\o=aM kvs k)\/∃kvs k,M a=aa (.dT kvs)/\y=.tup (k.map wK)/\o=aM kvs k
 | .dk kvs,y,o=>∃k,y=wK k/\o=aM kvs k
 | .dt kvs,y,o=>∃k,y=.tup (k.map wK)/\o=aM kvs k
 | .fk kvs,y,o=>∃k,y=wK k/\o=aM kvs k
 | .ft kvs,y,o=>∃k,y=.tup (k.map wK)/\o=aM kvs k
 | _,_,_=>False
def yF{K:Ac}{H:Hp}{M:Mm}{a:Am}{y:V}{k:aC}{ks:↑(aC×V)}{kvs:↑(aC×W)}(J:Rd H a (.dK ks))(q:bR K H M aC ks kvs)(m:AV K H M y (wK k)):(aM kvs k=ae/\gY H a y ae)\/∃v w,aM kvs k=aa w/\gY H a y (aa v)/\AV K H M v w:=by
 rw[m.key];rcases uE q k with⟨B,o⟩|⟨v,w,B,o,av⟩
 .show .inl #[B,by rw[<-o];show .inl #[_,_,J,rfl,rfl]]
 .show .inr #[v,w,B,by rw[<-o];show .inl #[_,_,J,rfl,rfl],av]
def yG{K:Ac}{H:Hp}{M:Mm}{a:Am}{y:V}{k:↑aC}{ks:↑(↑aC×V)}{kvs:↑(↑aC×W)}(J:Rd H a (.dT ks))(q:bR K H M (↑aC) ks kvs)(m:AV K H M y (.tup (k.map wK))):(aM kvs k=ae/\gY H a y ae)\/∃v w,aM kvs k=aa w/\gY H a y (aa v)/\AV K H M v w:=
 m.tupE λb xs e D c=>by
  rw[c.keys]at D;rcases uE q k with⟨B,o⟩|⟨v,w,B,o,av⟩
  .show .inl #[B,by rw[<-o];show .inr #[_,_,_,J,e,D,rfl]]
  .show .inr #[v,w,B,by rw[<-o];show .inr #[_,_,_,J,e,D,rfl],av]
def uF{K:Ac}{H:Hp}{M:Mm}{x y:V}{P l:W}{o:Option W}(O:AM K H M)(d:AV K H M x P)(m:AV K H M y l)(h:eY M P l o):∃a,x=.ref a/\((o=ae/\gY H a y ae)\/∃v w,o=aa w/\gY H a y (aa v)/\AV K H M v w):=by
 cases P<;>first|exact Bs h|skip
 case ref a=>
  rcases h with⟨kvs,k,e,rfl,rfl⟩|⟨kvs,k,e,rfl,rfl⟩
  .let#[ks,J,q]:=O _ _ e;show#[a,d.inv,yF (.inl J) q m]
  .let#[ks,J,q]:=O _ _ e;show#[a,d.inv,yG (.inl J) q m]
 all_goals
  let#[k,rfl,rfl]:=h;let d:=d.inv
 case dk=>let#[a,ks,e,f,_,q]:=d;show#[a,e,yF (.inl f) q m]
 case dt=>let#[a,ks,e,f,_,q]:=d;show#[a,e,yG (.inl f) q m]
 case fk=>let#[a,ks,e,f,q]:=d;show#[a,e,yF (.inr f) q m]
 case ft=>let#[a,ks,e,f,q]:=d;show#[a,e,yG (.inr f) q m]
@[irreducible] def mQ(a:Am)(y:W)(M:Mm)(R:K3):Prop:=(∃i ws w,y=.int i/\M a=aa (.lst ws)/\cC ws i=aa w/\R w M)\/∃w,eY M (.ref a) y (aa w)/\R w M
def yH{i:Int}(h:M a=aa (.lst ws))(e:cC ws i=aa w)(r:R w M):mQ a (.int i) M R:=by unfold mQ;show .inl #[i,ws,w,rfl,h,e,r]
def FG(h:eY M (.ref a) y (aa w))(r:R w M):mQ a y M R:=by unfold mQ;show .inr #[w,h,r]
noncomputable abbrev rK:R3
 | .tup ws,.int i,M,R=>so (cC ws i) λw=>R w M
 | .rl ws,.int i,M,R=>so (cC ws i) λw=>R w M
 | .sc ws,.int i,M,R=>so (cC ws i) λw=>R w M
 | .dk kvs,y,M,R=>∃w,eY M (.dk kvs) y (aa w)/\R w M
 | .dt kvs,y,M,R=>∃w,eY M (.dt kvs) y (aa w)/\R w M
 | .fk kvs,y,M,R=>∃w,eY M (.fk kvs) y (aa w)/\R w M
 | .ft kvs,y,M,R=>∃w,eY M (.ft kvs) y (aa w)/\R w M
 | .str z,.int i,M,R=>↥z<=Ap/\so (cC z.cps.toList i) λc=>R (.str #[[c].toArray]) M
 | .ref a,y,M,R=>mQ a y M R
 | _,_,_,_=>False
abbrev vX:=aH rK
def yI{K:Ac}{H:Hp}{M:Mm}{vs:↑V}{ws:↑W}{i:Int}{w:W}(q:aJ K H M vs ws)(h:cC ws i=aa w):∃v,cC vs i=aa v/\AV K H M v w:=by
 unfold cC at h⊢;rw[↥q];cases e:gW ↥ws i with
 | none=>rw[e]at h;cases h
 | some j=>
  rw[e]at h;show q.getW (i:=j) h
def W5(C:X.A.units+1<Fu):iX X (λx y H Q=>∃a v,x=.ref a/\gY H a y (aa v)/\Q v H):=by
 intro e b af s Z H x y v u Q I S N h l;let#[a,z,rfl,g,q]:=h;cases S;show tail_any (TM I g) PySem.F.slot_dict_getitem.lookup (TC C I g N λJ K w V=>#[z,H,w,V,q]) l
def W6{P:W->W->Prop}(N:∀ws i w,cC ws i=aa w->R w M->P (.tup ws) (.int i))(u:∀ws i w,cC ws i=aa w->R w M->P (.sc ws) (.int i))(T:∀x ws i w,lG M x ws->cC ws i=aa w->R w M->P x (.int i))(t:∀z i,↥z<=Ap/\(so (cC z.cps.toList i) λc=>R (.str #[[c].toArray]) M)->P (.str z) (.int i))(f:∀x y w,eY M x y (aa w)->R w M->P x y)(x y:W)(h:rK x y M R):P x y:=by
 cases x
 case non|bl|int|ty=>show Bs h
 case dk|dt|fk|ft=>show h.elim λw h=>f _ _ _ h.1 h.2
 case ref a=>
  let h:mQ a y M R:=h;unfold mQ at h;show h.elim (λE=>by let#[i,ws,w,I,e,D,r]:=E;rw[I];show T _ _ _ _ e D r) λY=>by let#[w,e,r]:=Y;show f _ _ _ e r
 all_goals cases y<;>first|exact Bs h|skip
 case tup.int=>let#[w,e,r]:=so.el h;show N _ _ _ e r
 case sc.int=>let#[w,e,r]:=so.el h;show u _ _ _ e r
 case rl.int=>let#[w,e,r]:=so.el h;show T _ _ _ _ rfl e r
 case str.int=>show t _ _ h
def W7(C:X.A.units+1<Fu):iX X (cJ X.K rK):=WJ (R6.or (R7.or (R8.or (W5 C)))) λx y H Q M R O k=>W6
 (λws i w h r d m=>d.tupE λa xs e f q=>let #[z,e3,av]:=yI q h;.inr (.inl #[a,xs,i,z,e,m.inv,bJ.of f,e3,k.at O av r]))
 (λws i w h r d m=>d.scE λa xs e f q=>let #[z,e3,av]:=yI q h;.inl #[a,xs,i,z,e,m.inv,f.sq,e3,k.at O av r])
 (λP ws i w L h r d m=>let #[a,xs,e,f,q]:=mN O d L;let #[z,e3,av]:=yI q h;.inl #[a,xs,i,z,e,m.inv,bL.of f,e3,k.at O av r])
 (λz i h d m=>let #[c,e,r]:=so.el h.2;.inr (.inr (.inl #[z,i,c,d.inv,m.inv,h.1,e,k.at O (.str _) r])))
 (λP l w g r d m=>.inr (.inr (.inr (by
  let#[a,e,g]:=uF O d m g;rcases g with⟨z,_⟩|⟨z,J,U,g',av⟩
  .cases z
  .show#[a,z,e,g',k.at O av (by rw[<-Cj U];show r)]))))
variable {a b:Cm}{ta tb:aP}{pos:Ih}
def W8(C:X.A.units+1<Fu)(T:E3 X a ta)(Y:E3 X b tb)(F:C5 b:=by show λ_ _=>rfl):E3 X (.Subscript a b pos) (aH rK ta tb):=(R0 (W7 C) T Y F).weak λ_ _ _ h=>t9 h
noncomputable def eG(ws:↑W)(lo hi:Option Int):↑W:=(ws.drop (HT.sIx ↥ws 0 lo)).take (HT.sIx ↥ws ↥ws hi-HT.sIx ↥ws 0 lo)
abbrev FH:W->Option Int->Option Int->Mm->K3->Prop
 | .rl ws,lo,hi,M,R=>aR (eG ws lo hi) M R
 | .sc ws,lo,hi,M,R=>aR (eG ws lo hi) M R
 | .ref a,lo,hi,M,R=>∃ws,M a=aa (.lst ws)/\aR (eG ws lo hi) M R
 | .tup ws,lo,hi,M,R=>¬(HT.sIx ↥ws 0 lo=0/\HT.sIx ↥ws ↥ws hi=↥ws)/\R (.tup (eG ws lo hi)) M
 | _,_,_,_,_=>False
def uG{K:Ac}{H:Hp}{M:Mm}{vs:↑V}{ws:↑W}{lo hi:Option Int}(q:aJ K H M vs ws):aJ K H M (mC vs lo hi) (eG ws lo hi):=by
 unfold mC eG;rw[↥q];show(q.drop _).take _
def W9(K:Ac)(r:W->Option Int->Option Int->Mm->K3->Prop):V->Option Int->Option Int->Hp->VK->Prop:=λx lo hi H Q=>∃P M R,AM K H M/\AV K H M x P/\r P lo hi M R/\Up K H M R Q
def XA:tI X (W9 X.K FH):=by
 rintro af s Z H x v j c lo hi sl Q I U F pl y ⟨P,M,R,O,d,h,k⟩;cases P<;>first|exact Bs h|skip
 case tup ws=>show d.tupE λa xs e f q=>RX af s Z H _ v j c lo hi sl Q I U F pl y #[a,xs,e,bJ.of f,by rw[↥q];show h.1,λp S=>laidT O k S (uG q) h.2]
 case sc ws=>show d.scE λa xs e f q=>xE af s Z H _ v j c lo hi sl Q I U F pl y #[a,xs,e,f.sq,λp S=>gJ O k S (uG q) h]
 case rl ws=>show d.rlE λa xs e f q=>xE af s Z H _ v j c lo hi sl Q I U F pl y #[a,xs,e,bL.of f,λp S=>gJ O k S (uG q) h]
 case ref a=>
  let#[ws,e,r]:=h;show O.lstE e λvs f q=>xE af s Z H _ v j c lo hi sl Q I U F pl y #[a,vs,d.inv,bL.of f,λp S=>gJ O k S (uG q) r]
abbrev pF:=S3->Mm->(Option Int->Mm->Prop)->Prop
def pG(K:Ac)(t:pF):TO:=λZ H Q=>∃(U:S3) (M:Mm) (R:Option Int->Mm->Prop),AS K H M Z U/\AM K H M/\t U M R/\∀o l V,Kp H M l V->AM K l V->R o V->Q o l
def pG.el{K:Ac}{H:Hp}{Z:SV}{C:Prop}{t:pF}{Q:Option Int->Hp->Prop}(h:pG K t Z H Q)(c:∀U M R,AS K H M Z U->AM K H M->t U M R->(∀o l V,Kp H M l V->AM K l V->R o V->Q o l)->C):C:=by let#[U,M,R,a,b,h,k]:=h;show c U M R a b h k
abbrev pH:pF:=λ_ M Q=>Q ae M
abbrev yJ:W->(Int->Prop)->Prop
 | .int i,Q=>Q i
 | _,_=>False
def yJ.el{Q:Int->Prop}(h:yJ w Q):∃i,w=.int i/\Q i:=by cases w<;>first|exact#[_,rfl,h]|exact h.elim
abbrev mR(t:aP):pF:=λU M Q=>t U M λx I=>yJ x λi=>Q (aa i) I
def XB:PO X ae (pG X.K pH):=RQ.weak λZ H Q E=>E.el λU M R as O h k=>k ae H M (Kp.refl O) O h
def XC(h:E3 X a ta):PO X (aa a) (pG X.K (mR ta)):=(RS h).weak λZ H Q E=>E.el λU M R as O h k=>#[U,M,_,as,O,h,λx B P I V j d h=>by
 let#[i,e,L]:=h.el;subst e;show#[i,d.inv,k _ _ _ V j L]]
noncomputable def fT:W->Bool
 | .non=>ab
 | .bl _=>ab
 | .int _=>ab
 | .str _=>ab
 | _=>ac
noncomputable def yK:W->W->Bool
 | .non,.non=>ab
 | .bl a,.bl b=>a==b
 | .bl a,.int b=>(if a then 1 else 0)==b
 | .int a,.bl b=>a==(if b then 1 else 0)
 | .int a,.int b=>a==b
 | .str a,.str b=>a==b
 | _,_=>ac
noncomputable def inW(x:W)(ws:↑W):Bool:=ws.any λy=>yK y x
def AV.flat{K:Ac}{H:Hp}{M:Mm}{v:V}{w:W}(h:AV K H M v w)(f:fT w=ab):kD v=ab:=by cases h<;>first|rfl|exact f
noncomputable def yL:W->V
 | .non=>.non
 | .bl b=>.bl b
 | .int i=>.int i
 | .str x=>.str x
 | _=>.non
def AV.flv{K:Ac}{H:Hp}{M:Mm}{v:V}{w:W}(h:AV K H M v w)(f:fT w=ab):v=yL w:=by
 cases w<;>first|exact h.inv|exact absurd f Bc
def XD:∀{w z:W},fT w=ab->fT z=ab->kE (yL w) (yL z)=yK w z:=by
 intro w z f g;cases w<;>first|exact absurd f Bc|(cases z<;>first|rfl|exact absurd g Bc)
def AV.eq{K:Ac}{H:Hp}{M:Mm}{v u:V}{w z:W}(h:AV K H M v w)(Z:AV K H M u z)(f:fT w=ab)(t:fT z=ab):kE v u=yK w z:=by
 rw[h.flv f,Z.flv t];show XD f t
theorem aJ.inn{K:Ac}{H:Hp}{M:Mm}{u:V}{z:W}(hz:AV K H M u z)(a:fT z=ab):∀{vs:↑V} {ws:↑W},aJ K H M vs ws->ws.all fT=ab->vs.all kD=ab/\inV u vs=inW z ws
 | _,_,.nil,_=>#[rfl,rfl]
 | _,_,.cons x r,f=>by
  rw[Lk,De]at f;let#[L,Z]:=aJ.inn hz a r f.2;apply#[by rw[Lk,x.flat f.1,L];rfl,?_];unfold inV inW at Z⊢;rw[Ge,Ge,Z,x.eq hz f.1 a]
noncomputable def occ(i j:Av):Bool:=!(Kv j i 0 ↥j 1).isEmpty
noncomputable abbrev cL(neg:Bool):R3
 | .str i,.str j,M,R=>R (.bl (if neg then !occ i j else occ i j)) M
 | x,.tup ws,M,R=>fT x=ab/\ws.all fT=ab/\R (.bl (if neg then !inW x ws else inW x ws)) M
 | x,.rl ws,M,R=>fT x=ab/\ws.all fT=ab/\R (.bl (if neg then !inW x ws else inW x ws)) M
 | x,.ref a,M,R=>(∃ws,M a=aa (.lst ws)/\fT x=ab/\ws.all fT=ab/\R (.bl (if neg then !inW x ws else inW x ws)) M)\/∃o,eY M (.ref a) x o/\R (.bl (if neg then !o.isSome else o.isSome)) M
 | x,.dk kvs,M,R=>∃o,eY M (.dk kvs) x o/\R (.bl (if neg then !o.isSome else o.isSome)) M
 | x,.dt kvs,M,R=>∃o,eY M (.dt kvs) x o/\R (.bl (if neg then !o.isSome else o.isSome)) M
 | x,.fk kvs,M,R=>∃o,eY M (.fk kvs) x o/\R (.bl (if neg then !o.isSome else o.isSome)) M
 | x,.ft kvs,M,R=>∃o,eY M (.ft kvs) x o/\R (.bl (if neg then !o.isSome else o.isSome)) M
 | _,_,_,_=>False
def FI(M:Mm):W->↑W->Prop
 | .tup ws,L=>ws=L
 | x,ws=>lG M x ws
def FJ{K:Ac}{H:Hp}{M:Mm}{v:V}{w:W}{ws:↑W}(O:AM K H M)(h:AV K H M v w)(e:FI M w ws):∃a xs,v=.ref a/\(bL K H a xs\/bJ K H a xs)/\aJ K H M xs ws:=by
 cases w
 case tup zs=>show h.tupE λa xs J f q=>#[_,_,J,.inr (bJ.of f),by rw[<-show zs=ws from e];show q]
 case ref|rl=>let#[a,xs,J,f,q]:=mN O h e;show#[a,xs,J,.inl (bL.of f),q]
 all_goals exact Bs e
def FK{n:Bool}{P:W->W->Prop}(N:∀i j,R (.bl (if n then !occ i j else occ i j)) M->P (.str i) (.str j))(u:∀x y ws,FI M y ws->fT x=ab/\ws.all fT=ab/\R (.bl (if n then !inW x ws else inW x ws)) M->P x y)(T:∀x y o,eY M y x o->R (.bl (if n then !o.isSome else o.isSome)) M->P x y)(x y:W)(h:cL n x y M R):P x y:=by
 cases y
 case non|bl|int|ty|sc=>exfalso;cases x<;>exact h
 case str=>cases x<;>first|exact Bs h|exact N _ _ h
 case tup=>show u _ _ _ rfl (by cases x<;>exact h)
 case rl=>show u _ _ _ rfl (by cases x<;>exact h)
 case ref a=>
  let h:(∃ws,M a=aa (.lst ws)/\fT x=ab/\ws.all fT=ab/\R (.bl (if n then !inW x ws else inW x ws)) M)\/∃o,eY M (.ref a) x o/\R (.bl (if n then !o.isSome else o.isSome)) M:=by cases x<;>exact h
  show h.elim (λ#[ws,e,h]=>u _ _ _ e h) λ#[o,g,r]=>T _ _ _ g r
 case dk kvs=>let h:∃o,eY M (.dk kvs) x o/\R (.bl (if n then !o.isSome else o.isSome)) M:=(by cases x<;>exact h);show h.elim λo h=>T _ _ _ h.1 h.2
 case dt kvs=>let h:∃o,eY M (.dt kvs) x o/\R (.bl (if n then !o.isSome else o.isSome)) M:=(by cases x<;>exact h);show h.elim λo h=>T _ _ _ h.1 h.2
 case fk kvs=>let h:∃o,eY M (.fk kvs) x o/\R (.bl (if n then !o.isSome else o.isSome)) M:=(by cases x<;>exact h);show h.elim λo h=>T _ _ _ h.1 h.2
 case ft kvs=>let h:∃o,eY M (.ft kvs) x o/\R (.bl (if n then !o.isSome else o.isSome)) M:=(by cases x<;>exact h);show h.elim λo h=>T _ _ _ h.1 h.2
def FL(n:Bool):R2:=λx y H Q=>∃a o,y=.ref a/\gY H a x o/\Q (.bl (if n then !o.isSome else o.isSome)) H
def XE(C:X.A.units+1<Fu):bF X (Dr .In) (FL ac):=by
 rintro af s Z H x y v u Q I S N ⟨a,o,rfl,g,q⟩;cases N;show TF C I g S λK w=>#[.bl _,H,w,rfl,q]
def XF(C:X.A.units+1<Fu):bF X (Dr .NotIn) (FL ab):=by
 rintro af s Z H x y v u Q I S N ⟨a,o,rfl,g,q⟩;cases N;show TH C I g S λK w=>#[.bl _,H,w,rfl,q]
def FN{K:Ac}{H:Hp}{M:Mm}{x y:V}{P l:W}{o:Option W}(O:AM K H M)(d:AV K H M x P)(m:AV K H M y l)(h:eY M P l o):∃a R,x=.ref a/\gY H a y R/\R.isSome=o.isSome:=by
 obtain⟨a,e,⟨rfl,g⟩|⟨v,w,rfl,g,_⟩⟩:=uF O d m h
 .show#[a,_,e,g,rfl]
 .show#[a,_,e,g,rfl]
def FO(C:X.A.units+1<Fu):bF X (Dr .In) (cJ X.K (cL ac)):=lE (QB.or (SI.or (XE C))) λx y H Q M R O k=>FK
 (λi j h d m=>.inl #[i,j,d.inv,m.inv,k.at O (.bl _) h])
 (λP l ws e h d m=>let #[a,xs,e1,f,q]:=FJ O m e;.inr (.inl #[a,xs,e1,f,d.flat h.1,(aJ.inn d h.1 q h.2.1).1,by rw[(aJ.inn d h.1 q h.2.1).2];show k.at O (.bl _) h.2.2]))
 (λP l o g r d m=>let #[a,o',e,g,z]:=FN O m d g;.inr (.inr #[a,o',e,g,by rw[z];show k.at O (.bl _) r]))
def FP(C:X.A.units+1<Fu):bF X (Dr .NotIn) (cJ X.K (cL ab)):=lE (QD.or (SJ.or (XF C))) λx y H Q M R O k=>FK
 (λi j h d m=>.inl #[i,j,d.inv,m.inv,k.at O (.bl _) h])
 (λP l ws e h d m=>let #[a,xs,e1,f,q]:=FJ O m e;.inr (.inl #[a,xs,e1,f,d.flat h.1,(aJ.inn d h.1 q h.2.1).1,by rw[(aJ.inn d h.1 q h.2.1).2];show k.at O (.bl _) h.2.2]))
 (λP l o g r d m=>let #[a,o',e,g,z]:=FN O m d g;.inr (.inr #[a,o',e,g,by rw[z];show k.at O (.bl _) r]))
noncomputable abbrev cT:↑W->Mm->K3->Prop
 | [.tup ws],M,R=>R (.int ↥ws) M
 | [.rl ws],M,R=>R (.int ↥ws) M
 | [.sc ws],M,R=>R (.int ↥ws) M
 | [.dk kvs],M,R=>R (.int ↥kvs) M
 | [.str z],M,R=>↥z<=Ap/\R (.int ↥z) M
 | [.ref a],M,R=>(∃ws,M a=aa (.lst ws)/\R (.int ↥ws) M)\/∃kvs,M a=aa (.dK kvs)/\R (.int ↥kvs) M
 | _,_,_=>False
def XG{P:↑W->Prop}(N:∀ws,R (.int ↥ws) M->P [.tup ws])(u:∀ws,R (.int ↥ws) M->P [.sc ws])(T:∀x ws,lG M x ws->R (.int ↥ws) M->P [x])(t:∀z,↥z<=Ap/\R (.int ↥z) M->P [.str z])(f:∀kvs,R (.int ↥kvs) M->P [.dk kvs])(V:∀a kvs,M a=aa (.dK kvs)->R (.int ↥kvs) M->P [.ref a])(l:↑W)(h:cT l M R):P l:=by
 match l,h with
 | [.tup _],h=>show N _ h
 | [.rl _],h=>show T _ _ rfl h
 | [.sc _],h=>show u _ h
 | [.dk _],h=>show f _ h
 | [.str _],h=>show t _ h
 | [.ref _],h=>show h.elim (λE=>by let#[ws,e,r]:=E;show T _ _ e r) λY=>by let#[ws,e,r]:=Y;show V _ _ e r
def XH:cN X (.builtin "len") (fA X.K cT):=xY (SM.or (SN.or UA)) λxs H Q M R O k=>XG
 (λws h d=>d.oneE λv J av=>av.tupE λa us e f q=>.inl #[_,_,iF J e,.inr (bJ.of f),by rw[↥q];show k.at O (.int _) h])
 (λws h d=>d.oneE λv J av=>av.scE λa us e f q=>.inl #[_,_,iF J e,.inl f.sq,by rw[↥q];show k.at O (.int _) h])
 (λx ws I h d=>d.oneE λv J av=>let #[a,us,e,f,q]:=mN O av I;.inl #[_,_,iF J e,.inl (bL.of f),by rw[↥q];show k.at O (.int _) h])
 (λz h d=>d.oneE λv J av=>.inr (.inl #[z,iF J av.inv,h.1,k.at O (.int _) h.2]))
 (λkvs h d=>d.oneE λv J av=>let #[a,ks,e,f,_,q]:=av.inv;.inr (.inr #[a,ks,iF J e,f,by rw[Ea q];show k.at O (.int _) h]))
 (λa kvs I h d=>d.oneE λv J av=>let #[ks,f,q]:=O _ _ I;.inr (.inr #[a,ks,iF J av.inv,f,by rw[Ea q];show k.at O (.int _) h]))
def yM:↑W->Mm->K3->Prop
 | [.tup ws],M,R=>aR ws M R
 | [.rl ws],M,R=>aR ws M R
 | [.sc ws],M,R=>aR ws M R
 | [.dk kvs],M,R=>aR (kvs.map λn=>wK n.1) M R
 | [.ref a],M,R=>(∃ws,M a=aa (.lst ws)/\aR ws M R)\/∃kvs,M a=aa (.dK kvs)/\aR (kvs.map λn=>wK n.1) M R
 | _,_,_=>False
def FQ{K:Ac}{H:Hp}{M:Mm}{ks:↑(aC×V)}{kvs:↑(aC×W)}(h:bR K H M aC ks kvs):aJ K H M (ks.map λn=>kV n.1) (kvs.map λn=>wK n.1):=by
 induction h with
 | nil=>show .nil
 | @cons p q ps qs r t E=>
  apply .cons ?_ E;change AV K H M (kV p.1) (wK q.1);rw[r.1];cases q.1 with
  | inl i=>show .int i
  | inr x=>show .str x
def XI{P:↑W->Prop}(N:∀ws,aR ws M R->P [.tup ws])(u:∀ws,aR ws M R->P [.sc ws])(T:∀x ws,lG M x ws->aR ws M R->P [x])(f:∀kvs:↑(aC×W),aR (kvs.map λn=>wK n.1) M R->P [.dk kvs])(V:∀a kvs,M a=aa (.dK kvs)->aR (kvs.map λn=>wK n.1) M R->P [.ref a])(l:↑W)(h:yM l M R):P l:=by
 match l,h with
 | [.tup _],h=>show N _ h
 | [.rl _],h=>show T _ _ rfl h
 | [.sc _],h=>show u _ h
 | [.dk _],h=>show f _ h
 | [.ref _],h=>show h.elim (λE=>by let#[ws,e,r]:=E;show T _ _ e r) λY=>by let#[ws,e,r]:=Y;show V _ _ e r
def FR(hc:X.calm=ab):cN X (.type "list") (fA X.K yM):=xY (SO.or (UY hc)) λxs H Q M R O k=>XI
 (λws h d=>d.oneE λv J av=>av.tupE λa us e f q=>.inl #[_,_,iF J e,.inr (bJ.of f),λp S=>gJ O k S q h])
 (λws h d=>d.oneE λv J av=>av.scE λa us e f q=>.inl #[_,_,iF J e,.inl f.sq,λp S=>gJ O k S q h])
 (λx ws I h d=>d.oneE λv J av=>let #[a,us,e,f,q]:=mN O av I;.inl #[_,_,iF J e,.inl (bL.of f),λp S=>gJ O k S q h])
 (λkvs h d=>d.oneE λv J av=>let #[a,ks,e,f,_,q]:=av.inv;.inr #[a,ks,iF J e,f,λp S=>gJ O k S (FQ q) h])
 (λa kvs I h d=>d.oneE λv J av=>let #[ks,f,q]:=O _ _ I;.inr #[a,ks,iF J av.inv,f,λp S=>gJ O k S (FQ q) h])
def rL:↑W->Mm->K3->Prop
 | [.tup ws],M,R=>R (.tup ws) M
 | [.rl ws],M,R=>R (.tup ws) M
 | [.ref a],M,R=>∃ws,M a=aa (.lst ws)/\R (.tup ws) M
 | _,_,_=>False
def XJ{P:↑W->Prop}(N:∀ws,R (.tup ws) M->P [.tup ws])(T:∀x ws,lG M x ws->R (.tup ws) M->P [x])(l:↑W)(h:rL l M R):P l:=by
 match l,h with
 | [.tup _],h=>show N _ h
 | [.rl _],h=>show T _ _ rfl h
 | [.ref _],h=>show h.elim λws h=>T _ _ h.1 h.2
def XM:cN X (.type "tuple") (fA X.K rL):=xY SQ λxs H Q M R O k=>XJ
 (λws h d=>d.oneE λv J av=>av.tupE λa us e f q=>#[_,_,iF J e,.inr #[bJ.of f,k.at O (by rw[<-e];show av) h]])
 (λx ws I h d=>d.oneE λv J av=>let #[a,us,e,f,q]:=mN O av I;#[_,_,iF J e,.inl #[bL.of f,λp S=>laidT O k S q h]])
def FT:↑W->Mm->K3->Prop
 | [.int i],M,R=>i.natAbs.log2<1920/\R (.str (toString i)) M
 | _,_,_=>False
def XN:cN X (.type "str") (fA X.K FT):=by
 rintro af s Z H xs us Q I rs ⟨ws,M,R,O,m,h,k⟩
 match ws,h with
 | [.int i],h=>
  let#[v,rfl,av]:=m.one;cases av;show QL af s Z H _ us Q I rs #[i,rfl,h.1,k.at O (.str _) h.2]
noncomputable def bools(bs:↑Bool):↑W:=bs.map W.bl
theorem aJ.bools{K:Ac}{H:Hp}{M:Mm}:∀{bs:↑Bool} {vs:↑V},aJ K H M vs (L2.bools bs)->vs=bs.map V.bl
 | [],_,h=>by cases h;rfl
 | b::r,_,h=>by
  cases h with
  | cons x y=>cases x;rw[aJ.bools y];rfl
abbrev rM:↑W->Mm->K3->Prop
 | [.ref a],M,R=>∃bs,M a=aa (.lst (bools bs))/\R (.bl (bs.all id)) M
 | [.rl ws],M,R=>∃bs,ws=bools bs/\R (.bl (bs.all id)) M
 | _,_,_=>False
def XO(hc:X.calm=ab):cN X (.builtin "all") (fA X.K rM):=by
 rintro af s Z H xs us Q I rs ⟨ws,M,R,O,m,h,k⟩
 match ws,h with
 | [.ref a],h=>
  let#[v,rfl,av]:=m.one;cases av;let#[bs,e,r]:=h;let#[vs,f,q]:=O.lst e;rw[q.bools]at f;show tS ac hc af s Z H _ us Q I rs #[a,bs,rfl,bL.of f,k.at O (.bl _) r]
 | [.rl ws],h=>
  let#[v,rfl,av]:=m.one;let#[bs,rfl,r]:=h;cases av with
  | rl f _ q=>
   rw[q.bools]at f;show tS ac hc af s Z H _ us Q I rs #[_,bs,rfl,bL.of f,k.at O (.bl _) r]
def eS:W->↑W->Mm->K3->Prop
 | .ref l,[y],M,R=>∃ws,M l=aa (.lst ws)/\↥ws<Ap/\R .non (put M l (.lst (ws++[y])))
 | _,_,_,_=>False
def XQ:fQ X "list.append" (jQ X.K eS):=by
 rintro af s Z H x xs v us Q I S rs ⟨P,ws,M,R,O,d,m,h,k⟩
 match P,ws,h with
 | .ref l,[y],h=>
  let#[z,rfl,E]:=m.one;cases d;let#[ws,e,hl,r]:=h;let#[vs,f,q]:=O.lst e;show DA af s Z H _ _ v us Q I S rs #[l,vs,z,rfl,rfl,f,by rw[↥q];show hl,rE O k e (q.append (.cons E .nil)) .non r]
def rN:W->↑W->Mm->K3->Prop
 | .ref l,[.ref b],M,R=>∃ws L,M l=aa (.lst ws)/\M b=aa (.lst L)/\↥ws+↥L<=Ap/\R .non (put M l (.lst (ws++L)))
 | .ref l,[.rl L],M,R=>∃ws,M l=aa (.lst ws)/\↥ws+↥L<=Ap/\R .non (put M l (.lst (ws++L)))
 | _,_,_,_=>False
def XR:fQ X "list.extend" (jQ X.K rN):=by
 rintro af s Z H x xs v us Q I S rs ⟨P,ws,M,R,O,d,m,h,k⟩
 match P,ws,h with
 | .ref l,[.ref b],h=>
  let#[z,rfl,E]:=m.one;cases d;cases E;let#[ws,L,e,D,hl,r]:=h;let#[vs,f,q]:=O.lst e;let#[a,t,n]:=O.lst D;show DB af s Z H _ _ v us Q I S rs #[l,b,vs,a,rfl,rfl,f,t,by rw[↥q,↥n];show hl,rE O k e (q.append n) .non r]
 | .ref l,[.rl L],h=>
  let#[z,rfl,E]:=m.one;cases d;cases E with
  | rl t _ n=>
   let#[ws,e,hl,r]:=h;let#[vs,f,q]:=O.lst e;show DB af s Z H _ _ v us Q I S rs #[l,_,vs,_,rfl,rfl,f,t,by rw[↥q,↥n];show hl,rE O k e (q.append n) .non r]
def lH:W->↑W->Mm->K3->Prop
 | .ref l,[],M,R=>∃ws w,M l=aa (.lst (ws++[w]))/\R w (put M l (.lst ws))
 | _,_,_,_=>False
def XS:fQ X "list.pop" (jQ X.K lH):=by
 rintro af s Z H x xs v us Q I S rs ⟨P,ws,M,R,O,d,m,h,k⟩
 match P,ws,h with
 | .ref l,[],h=>
  cases m;cases d;let#[ws,w,e,r]:=h;let#[vs,f,q]:=O.lst e;let hl:=↥q;rw[Ag,Bz]at hl;let#[z,hz,E]:=q.getW (i:=↥ws) (w:=w) (by simp);apply S4 af s Z H _ _ v us Q I S rs #[l,vs,z,rfl,rfl,f,by rw[hl];show hz,rE O k e ?_ E r];have:=q.dropLast;rw[List.dropLast_concat]at this;show this
abbrev uH:aP:=λ_ M R=>i4 [] M R
abbrev lI:aP:=λ_ M R=>jP [] M R
def XT:E3 X (.Dict [] [] pos) uH:=TR.weak λZ H Q #[U,M,R,as,O,h,k] p S=>by
 let#[N,t]:=O.laid (o:=.dK []) (u:=.dK []) S #[[],b7,.nil];show k _ _ _ _ t N (.ref p) (h p (O.nonM S))
def XU:E3 X (.Dict [] [] pos) lI:=TU.weak λZ H Q #[U,M,R,as,O,h,k] p S=>by
 let#[N,t]:=O.laid (o:=.dT []) (u:=.dT []) S #[[],b7,.nil];show k _ _ _ _ t N (.ref p) (h p (O.nonM S))
end
abbrev P3(X:Cx)(st:Kx)(t:aE):Prop:=PS X st (qX X.K t)
abbrev i7(X:Cx)(st:↑Kx)(t:aE):Prop:=fN X st (qX X.K t)
abbrev eT:=W->S3->Mm->(S3->Mm->Prop)->Prop
abbrev mS:=↑W->S3->Mm->(S3->Mm->Prop)->Prop
def iP(K:Ac)(g:eT):TG:=λv Z H Q=>∃w U M R,AV K H M v w/\AS K H M Z U/\AM K H M/\g w U M R/\iE K H M R Q
def pI(K:Ac)(g:mS):jL:=λvs Z H Q=>∃ws U M R,aJ K H M vs ws/\AS K H M Z U/\AM K H M/\g ws U M R/\iE K H M R Q
def iP.el{K:Ac}{H:Hp}{Z:SV}{C:Prop}{t:eT}{v:V}{Q:SV->Hp->Prop}(h:iP K t v Z H Q)(c:∀w U M R,AV K H M v w->AS K H M Z U->AM K H M->t w U M R->iE K H M R Q->C):C:=by let#[w,U,M,R,a,b,d,h,k]:=h;show c w U M R a b d h k
def pI.el{K:Ac}{H:Hp}{Z:SV}{C:Prop}{t:mS}{v:↑V}{Q:SV->Hp->Prop}(h:pI K t v Z H Q)(c:∀w U M R,aJ K H M v w->AS K H M Z U->AM K H M->t w U M R->iE K H M R Q->C):C:=by let#[w,U,M,R,a,b,d,h,k]:=h;show c w U M R a b d h k
section
variable {X:Cx}{pos:Ih}
def _root_.L2.PG.weak(h:PG X e t)(k:∀v Z H Q,t' v Z H Q->t v Z H Q):PG X e t':=λaf s Z H v u Q I r q=>h af s Z H v u Q I r (k v Z H Q q)
def _root_.L2.iJ.weak(h:iJ X e t)(k:∀v Z H Q,t' v Z H Q->t v Z H Q):iJ X e t':=λaf s Z H v u Q I r q=>h af s Z H v u Q I r (k v Z H Q q)
def iE.at{K:Ac}{H:Hp}{M:Mm}{R:S3->Mm->Prop}{Q:SV->Hp->Prop}(h:iE K H M R Q)(O:AM K H M){Z:SV}{U:S3}(as:AS K H M Z U)(r:R U M):Q Z H:=h Z H U M (Kp.refl O) O as r
abbrev a6(i:Nat):eT:=λw U M R=>R (U.set i (aa w)) M
def FU{i:Nat}(f:X.N.Nodup)(hi:X.N[i]? = aa x:=by rfl)(B:Loc X.env.scope x:=by first|exact .inl rfl|exact .inr rfl)(hf:Fy X x:=by first|exact .inl rfl|exact .inr rfl|assumption):PG X (.Name x pos) (iP X.K (a6 i)):=
 (OS f hi B hf).weak λv Z H Q E=>E.el λw U M R av as O h k=>k.at O (as.set av i) h
abbrev eZ:mS:=λws U M R=>ws=[]/\R U M
abbrev cB(t:eT)(u:mS):mS:=λws U M R=>match ws with
 | w::r=>t w U M λf V=>u r f V R
 | []=>False
def jV:iJ X [] (pI X.K eZ):=OV.weak λvs Z H Q z=>z.el λws U M R av as O h k=>#[aJ.nil_ (by rw[<-h.1];show av),k.at O as h.2]
def fB{e:Cm}{es:↑Cm}{t:eT}{u:mS}(L:PG X e (iP X.K t))(Y:iJ X es (pI X.K u))(F:(Ja (e::es) X.env).map (·.2)=Ph e X.env::(Ja es X.env).map (·.2):=by rfl):iJ X (e::es) (pI X.K (cB t u)):=
 (OW L Y F).weak λvs Z H Q E=>E.el λws U M R av as O h k=>by
  cases av with
  | nil=>show Bs h
  | cons x r=>show#[_,_,rfl,_,U,M,_,x,as,O,h,λC l f V q z T h'=>#[_,f,V,R,r.kp O q,T,z,h',k.kp q]]
abbrev e8(n:Nat)(g:mS):eT:=λw U M R=>match w with
 | .tup ws=>↥ws=n/\g ws U M R
 | .rl ws=>↥ws=n/\g ws U M R
 | .ref a=>∃ws,M a=aa (.lst ws)/\↥ws=n/\g ws U M R
 | _=>False
def jW{k:Nat}{n:Nat}(hc:X.calm=ab)(h:iJ X es (pI X.K t))(P:↥(Ja es X.env)=n:=by rfl)(V:(Ja es X.env).findIdx? (·.1)=ae:=by rfl):PG X (.Tuple es k pos) (iP X.K (e8 n t)):=by
 rintro af s Z H v u Q I r ⟨w,U,M,R,av,as,O,hw,F⟩;cases w<;>first|exact Bs hw|skip
 case tup ws=>show av.tupE λa xs e f q=>OY hc h P V af s Z H _ u Q I r #[a,xs,e,bJ.of f,by rw[↥q];show hw.1,_,U,M,R,q,as,O,hw.2,F]
 case rl ws=>show av.rlE λa xs e f q=>DW hc h P V af s Z H _ u Q I r #[a,xs,e,bL.of f,by rw[↥q];show hw.1,_,U,M,R,q,as,O,hw.2,F]
 case ref a=>show hw.elim λws hw=>O.lstE hw.1 λxs f q=>DW hc h P V af s Z H _ u Q I r #[a,xs,av.inv,bL.of f,by rw[↥q];show hw.2.1,_,U,M,R,q,as,O,hw.2.2,F]
abbrev fX(te:aP)(g:eT):aE:=λD U M=>te U M λx I=>g x U I D.nx
def XW{K:Ac}{te:aP}{g:eT}{D:kU}{Z:SV}{H:Hp}(h:qX K (fX te g) D Z H):tB (up K te) (iP K g) D Z H:=by
 let#[U,M,Q,as,O,h,k]:=h;show#[U,M,_,as,O,h,λx B P I V j d L=>#[P,U,I,Q.nx,d,as.kp O V,j,L,k.nx.kp V]]
def XX(m:E3 X e te)(hg:PG X tg (iP X.K g))(F:swapsWithSole [tg] e pos.line X.env=pure ac:=by rfl)(hw:swappedStores [tg] e X.env=pure ae:=by rfl)(L:(Ja [tg] X.env).map (·.2)=[Ph tg X.env]:=by rfl):P3 X (.Assign [tg] e pos) (fX te g):=(O3 m hg F hw L).weak λ_ _ _ h=>XW h
abbrev aQ(i:Nat)(te:aP):aE:=λD U M=>te U M λx I=>D.nx (U.set i (aa x)) I
def XY{i:Nat}(f:X.N.Nodup)(m:E3 X e te)(hi:X.N[i]? = aa x:=by rfl)(B:Loc X.env.scope x:=by first|exact .inl rfl|exact .inr rfl)(F:Oh e (aa (.Name x a)) pos.line X.env=pure ac:=by rfl)(hf:Fy X x:=by first|exact .inl rfl|exact .inr rfl|assumption):
  P3 X (.Assign [.Name x a] e pos) (aQ i te):=(O4 f hi B m F hf).weak λD Z H E=>E.el λU M Q as O h k=>#[U,M,_,as,O,h,λy P Y I V j l L=>k.nx _ _ _ _ V j ((as.kp O V).set l i) L]
def uI(o i v:W)(M:Mm)(Q:Mm->Prop):Prop:=match o with
 | .ref a=>(∃ws k j,i=.int k/\M a=aa (.lst ws)/\gW ↥ws k=aa j/\Q (put M a (.lst (ws.set j v))))\/
   (∃kvs k,i=wK k/\M a=aa (.dK kvs)/\↥kvs<Ap/\Q (put M a (.dK (bW kvs k v))))\/
   ∃kvs k,i=.tup (k.map wK)/\M a=aa (.dT kvs)/\↥kvs<Ap/\Q (put M a (.dT (bW kvs k v)))
 | _=>False
def XZ(K:Ac):sY:=λo i v H Q=>∃S wi d M R,AV K H M o S/\AV K H M i wi/\AV K H M v d/\AM K H M/\uI S wi d M R/\∀l V,Kp H M l V->AM K l V->R V->Q l
def set_dict(C:X.A.units+1<Fu):sZ X (λo i v H Q=>∃a l,o=.ref a/\mE H a i v l/\Q l):=by
 intro af s Z H o i v p g u Q I x w R h;let#[a,l,rfl,d,q]:=h;cases x;show TJ C I d w R λf k=>#[l,k,q]
def FV{U:Type}[DecidableEq U]{K:Ac}{H:Hp}{M:Mm}{ks:↑(U×V)}{kvs:↑(U×W)}{n:U}{v:V}{d:W}{a:Am}{o:MO}{u:HO}(O:AM K H M)(e:M a=aa o)(q:bR K H M U ks kvs)(av:AV K H M v d){R:MO}:bR K (aL H a u) (put M a R) U (dZ ks n v) (bW kvs n d):=Paired.mapP (rJ q n av) λp q z=>#[z.1,z.2.wr O e]
def X0(C:X.A.units+1<Fu):sZ X (XZ X.K):=by
 rintro af s Z H o i v p g u Q I x w m ⟨S,wi,d,M,R,F,y,av,O,h,k⟩;cases S<;>first|exact Bs h|skip
 rename_i a;rcases h with⟨ws,n,j,l,e,hj,r⟩|⟨kvs,n,l,e,hl,r⟩|⟨kvs,n,l,e,hl,r⟩
 .rw[l]at y;let#[vs,f,q]:=O.lst e;let#[N,Y]:=O.write (o:=.lst (ws.set j d)) (u:=.lst (vs.set j v)) e #[_,b7,(aJ.set av j q).wr O e];show SD af s Z H _ _ v p g u Q I x w m #[a,vs,n,j,F.inv,y.inv,f,by rw[↥q];show hj,k _ _ Y N r]
 .rw[l]at y;let#[ks,f,q]:=O _ _ e;let#[N,Y]:=O.write (o:=.dK (bW kvs n d)) (u:=.dK (dZ ks n v)) e #[_,b7,FV O e q av];show set_dict C af s Z H _ _ v p g u Q I x w m #[a,_,F.inv,by rw[y.key];show mE.k f (by rw[Ea q];show hl),k _ _ Y N r]
 .rw[l]at y;let#[ks,f,q]:=O _ _ e;let#[N,Y]:=O.write (o:=.dT (bW kvs n d)) (u:=.dT (dZ ks n v)) e #[_,b7,FV O e q av];show y.tupE λb xs D z c=>set_dict C af s Z H _ _ v p g u Q I x w m #[a,_,F.inv,by rw[D];show mE.t f (by rw[<-c.keys];show z) (by rw[Ea q];show hl),k _ _ Y N r]
abbrev i8(to a:aP):eT:=λw U M R=>to U M λo I=>a U I λi G=>uI o i w G λH=>R U H
def w_sub(C:X.A.units+1<Fu)(f:E3 X o to)(hi:E3 X i a)(T:∀v,Ph (.Subscript o i pos) X.env v=(do
   let p <-Kq [v] (El o X.env)
   let g <-Kq [v,p] (El i X.env)
   Ri pos
   Kq [v,p,g] (Wr p g v)
   release [v,p,g] []):=by intro _;rfl):PG X (.Subscript o i pos) (iP X.K (i8 to a)):=
 (O0 f hi (X0 C) T).weak λv Z H Q E=>E.el λw U M R av as O h k=>#[U,M,_,as,O,h,λo B S I P j F L=>#[U,I,_,as.kp O P,j,L,λi J wi G t N y Y=>
  #[S,wi,w,G,_,F.kp j t,y,(av.kp O P).kp j t,N,Y,λl V u z r=>k _ _ _ _ ((P.trans t).trans u) z (((as.kp O P).kp j t).kp N u) r]]]
abbrev cS:aE:=λD U M=>D.nx U M
abbrev aF(t u:aE):aE:=λD U M=>t {D with nx:=u D} U M
variable {st:Kx}{rest:↑Kx}{t u:aE}{e:Cm}{te:aP}
def X1:i7 X [] cS:=OE.weak λD Z H E=>E.el λU M Q as O h k=>k.nx.at O as h
def X2(L:P3 X st t)(Y:i7 X rest u):i7 X (st::rest) (aF t u):=(OF L Y).weak λD Z H E=>E.el λU M Q as O h k=>
 #[U,M,_,as,O,h,#[λC l f V q z T h'=>#[f,V,Q,T,z,h',k.kp q],k.rt,k.bk,k.ct]]
def X3(L:P3 X st t):i7 X [st] t:=OG L
abbrev b8(te:aP):aE:=λD U M=>te U M λ_ I=>D.nx U I
def X4(m:E3 X e te)(F:Oh e ae pos.line X.env=pure ac:=by rfl):P3 X (.Expr e pos) (b8 te):=(OI m F).weak λD Z H E=>E.el λU M Q as O h k=>
 #[U,M,_,as,O,h,λv l w V u z av r=>k.nx _ _ _ _ u z (as.kp O u) r]
abbrev bH(te:aP):aE:=λD U M=>te U M D.rt
def X5(m:E3 X e te):P3 X (.Return (aa e) pos) (bH te):=(OL m).weak λD Z H E=>E.el λU M Q as O h k=>#[U,M,_,as,O,h,k.rt]
abbrev yN:aE:=λD _ M=>D.rt .non M
def X6:P3 X (.Return ae pos) yN:=ON.weak λD Z H E=>E.el λU M Q as O h k=>k.rt.at O .non h
abbrev b9(c:dE)(t u:aE):aE:=λD U M=>c U M λb I=>if b=ab then t D U I else u D U I
def X7(hc:T3 X c J)(T:i7 X a t)(Y:i7 X b u):P3 X (.If c a b pos) (b9 J t u):=(OP hc T Y).weak λD Z H E=>E.el λU M Q as O h k=>
 #[U,M,_,as,O,h,λb B I V j L=>by
  cases b with
  | true=>show#[U,I,Q,as.kp O V,j,L,k.kp V]
  | false=>show#[U,I,Q,as.kp O V,j,L,k.kp V]]
def X8:P3 X st (λ_ _ _=>False):=OR.weak λD Z H E=>E.el λU M Q as O h k=>h.elim
def jX(c:dE)(tb:aE):aE:=λD U M=>∃o:Nat->S3->Mm->Prop,(∃m,o m U M)/\∀m U M,o m U M->
 c U M λb I=>if b=ab then tb {D with nx:=λf V=>∃q a,q<m/\Sub a V/\o q f a,ct:=λf V=>∃q a,q<m/\Sub a V/\o q f a,bk:=D.nx} U I else D.nx U I
def X9(S:Vh X.m X.A X.env X.xe)(hc:T3 X c J)(Y:i7 X p tb):P3 X (.While c p [] pos) (jX J tb):=
 (O6 S hc Y).weak λD Z H E=>by
  obtain⟨U,M,Q,as,O,⟨o,⟨m,v⟩,h⟩,k⟩:=E;apply#[λm C l=>∃f V,Kp H M l V/\AM X.K l V/\AS X.K l V C f/\o m f V,#[m,U,M,Kp.refl O,O,as,v],?_];rintro m x B ⟨e,I,i,j,r,P⟩;apply#[e,I,_,r,j,h m e I P,λb L G t N K=>?_];cases b with
  | false=>show k.nx _ _ _ _ (i.trans t) N (r.kp j t) K
  | true=>
   let K:tb {Q with nx:=λf V=>∃q a,q<m/\Sub a V/\o q f a,ct:=λf V=>∃q a,q<m/\Sub a V/\o q f a,bk:=Q.nx} e G:=K;apply#[λC l=>∃q f V,q<m/\Kp H M l V/\AM X.K l V/\AS X.K l V C f/\o q f V,λC l g=>by let#[q,f,V,W,n,w,d,s]:=g;show#[q,W,f,V,n,w,d,s],e,G,_,r.kp j t,N,K,?_];let y:iE X.K L G (λf V=>∃q a,q<m/\Sub a V/\o q f a) (λC l=>∃q f V,q<m/\Kp H M l V/\AM X.K l V/\AS X.K l V C f/\o q f V):=
    λC l f V u z T R=>by let#[q,a,W,n,w]:=R;show#[q,f,a,W,((i.trans t).trans u).sub n,z.sub n,T.sub n,w]
   show#[y,(k.rt.kp i).kp t,(k.nx.kp i).kp t,y]
abbrev gL:=S3->Mm->(↑W->(Mm->Prop)->Mm->Prop)->Prop
structure hJ(K:Ac)(H0:Hp)(M0:Mm)(J:It)(ws:↑W)(keep:Mm->Prop):Prop where
 go:∀i H M,Kp H0 M0 H M->AM K H M->keep M->i<↥ws->J.go i H
 stop:∀H M,Kp H0 M0 H M->AM K H M->keep M->J.stop ↥ws H
 yld:∀i H M x H',Kp H0 M0 H M->AM K H M->keep M->i<↥ws->J.yld i H x H'->∃w,ws[i]? = aa w/\Kp H M H' M/\AM K H' M/\AV K H' M x w
def fY(K:Ac)(wi:gL):TI:=λZ H Q=>∃(U:S3) (M:Mm) (R:↑W->(Mm->Prop)->Mm->Prop),AS K H M Z U/\AM K H M/\wi U M R/\∀J l ws keep V,Kp H M l V->AM K l V->hJ K l V J ws keep->R ws keep V->Q J l
def fY.el{K:Ac}{H:Hp}{Z:SV}{C:Prop}{t:gL}{Q:It->Hp->Prop}(h:fY K t Z H Q)(c:∀U M R,AS K H M Z U->AM K H M->t U M R->(∀J l ws keep V,Kp H M l V->AM K l V->hJ K l V J ws keep->R ws keep V->Q J l)->C):C:=by let#[U,M,R,a,b,h,k]:=h;show c U M R a b h k
def _root_.L2.PI.weak{tg iter:Cm}{t t':TI}(h:PI X tg iter t)(k:∀Z H R,t' Z H R->t Z H R):PI X tg iter t':=λaf s Z H R I q=>h af s Z H R I (k Z H R q)
@[irreducible] def pJ(ws:↑W)(keep:Mm->Prop)(g:eT)(tb:aE)(D:D3)(U:S3)(M:Mm):Prop:=
 ∃o:Nat->S3->Mm->Prop,o 0 U M/\(∀i U M,i<=↥ws->o i U M->keep M)/\
  (∀i w U M,ws[i]? = aa w->o i U M->g w U M λs G=>tb {D with nx:=λf V=>∃a,Sub a V/\o (i+1) f a,ct:=λf V=>∃a,Sub a V/\o (i+1) f a,bk:=D.nx} s G)/\
  ∀U M,o ↥ws U M->D.nx U M
abbrev dG(wi:gL)(g:eT)(tb:aE):aE:=λD U M=>wi U M λws keep I=>pJ ws keep g tb D U I
def YA(S:Vh X.m X.A X.env X.xe)(hc:X.calm=ab)(hi:PI X tg iter (fY X.K wi))(hg:PG X tg (iP X.K g))(Y:i7 X p tb)(F:∀x,Kr iter X.env x=pure x:=by intro _;rfl):P3 X (.For tg iter p [] pos) (dG wi g tb):=
 (PK S hc hi hg Y F).weak λD Z H E=>E.el λU M D' as O h k=>by
  apply#[U,M,_,as,O,h,λJ B ws keep I P j it hw=>?_];unfold pJ at hw;let#[o,v,hk,F,hd]:=hw;apply#[λi m C l=>m=↥ws-i/\i<=↥ws/\∃f V,Kp B I l V/\AM X.K l V/\AS X.K l V C f/\o i f V,#[_,rfl,Cr _,U,I,Kp.refl j,j,as.kp O P,v],?_];rintro i m Q L ⟨rfl,hi,s,G,t,N,as2,p2⟩
  by_cases r:i<↥ws
  .apply .inr #[it.go i L G t N (hk i s G hi p2) r,λC l=>∃f V,Kp B I l V/\AM X.K l V/\AS X.K l V C f/\o (i+1) f V,λC l q=>#[↥ws-(i+1),by lia,rfl,r,q],λx R y=>?_];let#[w,hw,k3,b,d]:=it.yld i L G x R t N (hk i s G hi p2) r y;apply#[w,s,G,_,d,as2.kp N k3,b,F i w s G hw p2,λσ4 H4 τ4 M4 k4 am4 as4 T=>#[τ4,M4,_,as4,am4,T,?_]];let W:=((t.trans k3).trans k4);let c:iE X.K H4 M4 (λf V=>∃a,Sub a V/\o (i+1) f a) (λC l=>∃f V,Kp B I l V/\AM X.K l V/\AS X.K l V C f/\o (i+1) f V):=
    λC l f V u z as' #[a,n,K]=>#[f,a,(W.trans u).sub n,z.sub n,as'.sub n,K]
   show#[c,k.rt.kp (P.trans W),k.nx.kp (P.trans W),c]
  .let e:i=↥ws:=by lia
   subst e;show .inl #[it.stop L G t N (hk _ s G hi p2),k.nx _ _ _ _ (P.trans t) N as2 (hd s G p2)]
def yO{keep:Mm->Prop}(o:Nat->S3->Mm->Prop)(v:o 0 U M)(hk:∀i U M,i<=↥ws->o i U M->keep M)(F:∀i w U M,ws[i]? = aa w->o i U M->g w U M λs G=>tb {D with nx:=λf V=>∃a,Sub a V/\o (i+1) f a,ct:=λf V=>∃a,Sub a V/\o (i+1) f a,bk:=D.nx} s G)(hd:∀U M,o ↥ws U M->D.nx U M):pJ ws keep g tb D U M:=by unfold pJ;show#[o,v,hk,F,hd]
variable {tg l a b:Cm}{tl ta tb':aP}
theorem YB{K:Ac}{j:Hp}{s:Mm}{p:Am}{ws:↑W}:hJ K j s (oR K p) ws λM=>M p=aa (.lst ws) where
 go:=λi H M _ O e hi=>by
  let#[vs,f,q]:=O.lst e;show#[vs,vs[i]'(by rw[↥q];show hi),bL.of f,by simp]
 stop:=λH M _ O e=>by
  let#[vs,f,q]:=O.lst e;show#[vs,bL.of f,by rw[↥q];show Aj _]
 yld:=λi H M x l _ O e hi y=>by
  let#[rfl,y]:=y;let#[vs,f,q]:=O.lst e;let#[w,hw,av]:=q.getV (y vs (bL.of f));show#[w,hw,Kp.refl O,O,av]
def FX{K:Ac}{j:Hp}{s:Mm}{p:Am}{vs:↑V}{ws:↑W}(g:AM K j s)(st:∀H M,Kp j s H M->bL K H p vs)(B:aJ K j s vs ws):hJ K j s (oR K p) ws λ_=>True:=by
 apply#[λi H M k O _ hi=>#[vs,vs[i]'(by rw[↥B];show hi),st H M k,by simp],λH M k O _=>#[vs,st H M k,by rw[↥B];show Aj _],λi H M x l k O _ hi y=>?_];let#[rfl,y]:=y;let#[w,hw,av]:=(B.kp g k).getV (y vs (st _ M k));show#[w,hw,Kp.refl O,O,av]
def YC{K:Ac}{j:Hp}{s:Mm}{p:Am}{vs:↑V}{ws:↑W}(g:AM K j s)(e:kZ K j p vs)(B:aJ K j s vs ws):hJ K j s (oR K p) ws λ_=>True:=
 FX g (λH M k=>by
  apply kZ.sq ?_;rcases e with⟨o,e⟩|e
  .show .inl #[o,(k.fr _ _ (g.noFrz e) e).1]
  .show .inr e) B
def YD{K:Ac}{j:Hp}{s:Mm}{p:Am}{vs:↑V}{ws:↑W}(g:AM K j s)(e:j p=aa (.lst vs))(n:s p=ae)(B:aJ K j s vs ws):hJ K j s (oR K p) ws λ_=>True:=
 FX g (λH M k=>bL.of (k.fr _ _ n e).1) B
def YE{K:Ac}{j:Hp}{s:Mm}{p:Am}{vs:↑V}{ws:↑W}(g:AM K j s)(e:j p=aa (.tup vs))(B:aJ K j s vs ws):hJ K j s (wW K p) ws λ_=>True:=by
 let st:∀H M,Kp j s H M->bJ K H p vs:=λH M k=>bJ.of (k.fr _ _ (g.noTup e) e).1;apply#[λi H M k O _ hi=>#[vs,vs[i]'(by rw[↥B];show hi),st H M k,by simp],λH M k O _=>#[vs,st H M k,by rw[↥B];show Aj _],λi H M x l k O _ hi y=>?_];let#[rfl,y]:=y;let#[w,hw,av]:=(B.kp g k).getV (y vs (st _ M k));show#[w,hw,Kp.refl O,O,av]
theorem FY{K:Ac}{j:Hp}{s:Mm}{lo:Int}{n:Nat}:hJ K j s (qL lo n) ((Cf n).map λi=>W.int (lo+(i:Nat))) λ_=>True where
 go:=λi H M _ O _ hi=>by change i<n;simpa using hi
 stop:=λH M _ O _=>by change n<=_;simp
 yld:=λi H M x l _ O _ hi y=>by
  let#[rfl,rfl]:=y;let hi:i<n:=by simpa using hi
  show#[.int (lo+i),by simp[hi],Kp.refl O,O,.int _]
theorem YF{K:Ac}{j:Hp}{s:Mm}{z:Av}:hJ K j s (xQ z) (z.cps.toList.map λc=>W.str #[[c].toArray]) λ_=>True where
 go:=λi H M _ O _ hi=>by change i<z.cps.size;simpa using hi
 stop:=λH M _ O _=>by change z.cps.size<=_;simp
 yld:=λi H M x l _ O _ hi y=>by
  let#[rfl,c,hc,rfl]:=y;show#[.str #[[c].toArray],by rw[Az,hc];rfl,Kp.refl O,O,.str _]
def lJ(X:Cx)(tg:Cm)(r:V->Hp->(It->Hp->Prop)->Prop):Prop:=
 ∀(af:Pn) (s:Ak) (Z:SV) (H:Hp) (x:V) (u:Ae) (R:It->Hp->Prop),Inv X af Z H s->RelV x u->r x H R->X.a (Sn u) (tD X af Z tg R) X.xe s
def yP:lJ X tg (λx H R=>∃a,x=.ref a/\(∃xs,bL X.K H a xs)/\R (oR X.K a) H):=by
 rintro af U Z B x u R M l ⟨a,rfl,⟨xs,hq⟩,q⟩;cases l;let#[its,m,p,hz]:=M.list hq;apply Mx p.isList ?_;apply#[⇑U,[⇑U],_,_,B,rfl,M.kept (t':=U.toks) λb o e=>Af _ e,O7 a _,#[_,Aw _ rfl,rfl,rfl],λb Y=>?_,q];let e:b=⇑U:=by simpa using Y
 subst e;show M.fpOk (Aj _) (M.hok.fresh (Aj _))
def YG:lJ X tg (λx H R=>∃a,x=.ref a/\(∃xs,bJ X.K H a xs)/\R (wW X.K a) H):=by
 rintro af U Z B x u R M l ⟨a,rfl,⟨xs,hq⟩,q⟩;cases l;let#[its,m,p,hz]:=M.tuple hq;apply Ka (show U.heap.IsTuple a its.toArray from p) ?_;apply#[⇑U,[⇑U],_,_,B,rfl,M.kept (t':=U.toks) λb o e=>Af _ e,O8 a _,#[_,Aw _ rfl,rfl,rfl],λb Y=>?_,q];let e:b=⇑U:=by simpa using Y
 subst e;show M.fpOk (Aj _) (M.hok.fresh (Aj _))
def YH:lJ X (.Name x r) (λx H R=>∃z,x=.str z/\R (xQ z) H):=by
 rintro af U Z B x u R M l ⟨z,rfl,q⟩;let#[t,rfl]:=l;let fp:∀b∈[⇑U],gR X af B b:=λb Y=>by
  let e:b=⇑U:=by simpa using Y
  subst e;show M.fpOk (Aj _) (M.hok.fresh (Aj _))
 cases T:z.cps.all (· < 128)
 .apply wpAny_pyIter_wide T ?_;show#[⇑U,[⇑U],_,_,B,rfl,M.kept (t':=U.toks) λb o e=>Af _ e,
   DU z _ "str_iterator" t (λA s i c Q E a b d=>wpAny_pyNext_wide_item a b d) (λA s i Q E a b c d=>wpAny_pyNext_wide_end a b c d) (λA i s Q E a b=>wpAny_pyIter_striter_wide a b),#[_,Aw _ rfl,rfl,rfl],fp,q]
 .apply wpAny_pyIter_ascii T ?_;show#[⇑U,[⇑U],_,_,B,rfl,M.kept (t':=U.toks) λb o e=>Af _ e,
   DU z _ "str_ascii_iterator" t (λA s i c Q E a b d=>wpAny_pyNext_ascii_item a b d) (λA s i Q E a b c d=>wpAny_pyNext_ascii_end a b c d) (λA i s Q E a b=>wpAny_pyIter_striter_ascii a b),#[_,Aw _ rfl,rfl,rfl],fp,q]
def _root_.L2.PI.of{r:V->Hp->(It->Hp->Prop)->Prop}{tl:TE}(hl:PE X l tl)(G:lJ X tg r):PI X tg l (λZ H R=>tl Z H λx B=>r x B R):=λaf s Z H R I h=>
 aV (hl af s Z H _ I h) λu U #[x,B,M,A,W]=>G af U Z B x u R M A W
def rO(K:Ac)(r:W->Mm->(↑W->(Mm->Prop)->Mm->Prop)->Prop):V->Hp->(It->Hp->Prop)->Prop:=λx H Q=>∃(P:W) (M:Mm) (R:↑W->(Mm->Prop)->Mm->Prop),AV K H M x P/\AM K H M/\r P M R/\
 ∀J l ws keep I,Kp H M l I->AM K l I->hJ K l I J ws keep->R ws keep I->Q J l
abbrev kJ:W->Mm->(↑W->(Mm->Prop)->Mm->Prop)->Prop
 | .tup ws,I,R=>R ws (λ_=>True) I
 | .rl ws,I,R=>R ws (λ_=>True) I
 | .sc ws,I,R=>R ws (λ_=>True) I
 | .ref a,I,R=>∃ws,I a=aa (.lst ws)/\R ws (λM=>M a=aa (.lst ws)) I
 | _,_,_=>False
noncomputable abbrev dH:W->Mm->(↑W->(Mm->Prop)->Mm->Prop)->Prop
 | .tup ws,I,R=>R ws (λ_=>True) I
 | .rl ws,I,R=>R ws (λ_=>True) I
 | .sc ws,I,R=>R ws (λ_=>True) I
 | .str z,I,R=>R (z.cps.toList.map λc=>W.str #[[c].toArray]) (λ_=>True) I
 | .ref a,I,R=>∃ws,I a=aa (.lst ws)/\R ws (λM=>M a=aa (.lst ws)) I
 | _,_,_=>False
def FZ:lJ X tg (rO X.K kJ):=by
 rintro af s Z H x u Q I l ⟨P,M,R,d,O,h,k⟩;let k:=λJ ws keep=>k J H ws keep M (Kp.refl O) O;cases P<;>first|exact Bs h|skip
 case tup ws=>show d.tupE λa xs e f q=>YG af s Z H _ u Q I l #[a,e,#[xs,bJ.of f],k _ _ _ (YE O f q) h]
 case rl ws=>let#[a,xs,e,f,n,q]:=d.inv;show yP af s Z H _ u Q I l #[a,e,#[xs,bL.of f],k _ _ _ (YD O f n q) h]
 case sc ws=>show d.scE λa xs e f q=>yP af s Z H _ u Q I l #[a,e,#[xs,f.sq],k _ _ _ (YC O f q) h]
 case ref a=>show h.elim λws h=>O.lstE h.1 λvs f q=>yP af s Z H _ u Q I l #[a,d.inv,#[vs,bL.of f],k _ _ _ YB h.2]
def YI:lJ X (.Name y c) (rO X.K dH):=by
 rintro af s Z H x u Q I l ⟨P,M,R,d,O,h,k⟩;cases P<;>first|exact Bs h|skip
 case str z=>show YH af s Z H _ u Q I l #[z,d.inv,k _ _ _ _ _ (Kp.refl O) O YF h]
 all_goals exact FZ af s Z H x u Q I l #[_,M,R,d,O,h,k]
abbrev cA(r:W->Mm->(↑W->(Mm->Prop)->Mm->Prop)->Prop)(tl:aP):gL:=λU M R=>tl U M λw I=>r w I R
def uJ{r:W->Mm->(↑W->(Mm->Prop)->Mm->Prop)->Prop}(hl:E3 X l tl)(G:lJ X tg (rO X.K r)):PI X tg l (fY X.K (cA r tl)):=(PI.of hl G).weak λZ H Q E=>E.el λU M R as O h k=>
 #[U,M,_,as,O,h,λx B P I i j d L=>#[P,I,R,d,j,L,λJ C ws keep V u z it r=>k J C ws keep V (i.trans u) z it r]]
def YJ(hl:E3 X l tl):PI X tg l (fY X.K (cA kJ tl)):=uJ hl FZ
def YK(hl:E3 X l tl):PI X (.Name y c) l (fY X.K (cA dH tl)):=uJ hl YI
noncomputable def lK(lo:Int)(n:Nat):↑W:=(Cf n).map λi=>W.int (lo+(i:Nat))
abbrev uK(ta:cV):gL:=λU M R=>ta U M λws I=>∃j:Int,ws=[.int j]/\-(2 ^ 62)<=j/\j<2 ^ 62/\R (lK 0 j.toNat) (λ_=>True) I
abbrev F0(ta:cV):gL:=λU M R=>ta U M λws I=>∃i j:Int,ws=[.int i,.int j]/\(-(2 ^ 62)<=i/\i<2 ^ 62/\-(2 ^ 62)<=j/\j<2 ^ 62)/\R (lK i (j-i).toNat) (λ_=>True) I
def YL{m:cV}{p pos:Ih}(hg:Gl X "range")(N:X.mg "range" = ae)(T:A3 X [a] m)(F:Cg [a] X.env=[(ac,El a X.env)]:=by rfl):PI X tg (.Call (.Name "range" p) [a] [] pos) (fY X.K (uK m)):=
 (PD hg N T F).weak λZ H Q E=>E.el λU M R as O h k=>#[U,M,_,as,O,h,λvs B ws I V s d #[j,e,L,Y,r]=>by
  rw[e]at d;let#[v,e,av]:=d.one;show#[j,iF e av.inv,L,Y,k _ _ _ _ _ V s FY r]]
def YM(hg:Gl X "range")(N:X.mg "range" = ae)(T:A3 X [a,b] m)(F:Cg [a,b] X.env=[(ac,El a X.env),(ac,El b X.env)]:=by rfl)(f:Cg [b] X.env=[(ac,El b X.env)]:=by rfl):
  PI X tg (.Call (.Name "range" p) [a,b] [] pos) (fY X.K (F0 m)):=
 (PF hg N T F f).weak λZ H Q E=>E.el λU M R as O h k=>#[U,M,_,as,O,h,λvs B ws I V s d #[i,j,e,L,r]=>by
  rw[e]at d;let#[v,u,e,av,o]:=d.two;show#[i,j,by rw[e,show _=_ from av.inv,show _=_ from o.inv],L,k _ _ _ _ _ V s FY r]]
@[irreducible] def fZ(ws:↑W)(keep:Mm->Prop)(g:eT)(tt:dE)(te:aP)(c:S3)(I:Mm)(R:K3):Prop:=
 ∀p,I p=ae->∃o:Nat->S3->↑W->Mm->Prop,o 0 c [] I/\(∀vs i U acc M,i<=↥ws->M p=ae->o i U acc M->keep (put M p (.fix vs)))/\
  (∀vs i w U acc M,ws[i]? = aa w->M p=ae->o i U acc M->g w U (put M p (.fix vs)) λs G=>tt s G λb H=>
   if b=ab then te s H λy a=>a p=aa (.fix vs)/\↥acc<Ap/\∃d,Sub d (del a p)/\o (i+1) s (acc++[y]) d
   else H p=aa (.fix vs)/\∃d,Sub d (del H p)/\o (i+1) s acc d)/\
  ∀U acc M,M p=ae->o ↥ws U acc M->R (.ref p) (put M p (.lst acc))
noncomputable def yQ(js:↑(Option Nat))(U:S3):S3:=js.map λo=>o.bind λj=>(U[j]?).join
theorem AS.cmap{K:Ac}{H:Hp}{M:Mm}{Z:SV}{U:S3}(h:AS K H M Z U):∀js:↑(Option Nat),AS K H M (cmap js Z) (yQ js U)
 | []=>.nil
 | none::r=>.cons (λ_ e=>nomatch e) (AS.cmap h r)
 | some j::r=>.cons (λw e=>by
   let e:(U[j]?).join=aa w:=e;cases q:U[j]? with
   | none=>rw[q]at e;cases e
   | some z=>
    rw[q]at e;let e:z=aa w:=e;subst e;let#[v,L,Y]:=h.get q;show#[v,by change(Z[j]?).join=aa v;rw[L];rfl,Y]) (AS.cmap h r)
abbrev d8(wi:gL)(g:eT)(tt:dE)(te:aP)(js:↑(Option Nat)):aP:=λU M R=>wi U M λws keep I=>fZ ws keep g tt te (yQ js U) I R
def F1(h:up X.K (d8 wi g tt te js) Z H Q):xO (fY X.K wi) (λ_=>iP X.K g) (λ_=>k7 X.K tt) (λ_=>up X.K te) js Z H Q:=by
 let#[U,M,R,as,O,h,k]:=h;apply#[U,M,_,as,O,h,λJ P ws keep I s j it G p S B=>?_];unfold fZ at G;let#[K,v,hk,F,hd]:=G p (j.nonM S);let#[amp,kp]:=j.laid (o:=.fix []) (u:=.lst []) S b7;let hMp:=j.nonM S;apply UL ↥ws (λi C c l=>∃f acc V,V p=ae/\Kp P I l (put V p (.fix c))/\AM X.K l (put V p (.fix c))/\AS X.K l (put V p (.fix c)) C f/\aJ X.K l (put V p (.fix c)) c acc/\K i f acc V) ?_ ?_ ?_
 .show#[yQ js U,[],I,hMp,kp,amp,((as.kp O s).kp j kp).cmap js,.nil,v]
 .rintro C c l ⟨f,acc,V,mp,q,z,L,av,pv⟩;apply#[it.stop l _ q z (hk _ _ _ _ _ (Aj _) mp pv),?_];let hp':l p=aa (.lst c):=z p _ aK;apply k _ l _ (put V p (.lst acc)) (s.trans #[λa o n e=>?_,q.dom]) (λa o e=>?_) (.ref p) (hd f acc V mp pv)
  .let#[x,y]:=q.fr a o n e;show#[x,by rw[aW (eR e S)]at y⊢;show y]
  .by_cases T:a=p
   .subst T;rw[aK]at e;cases e;show#[c,hp',av.go EU]
   .rw[aW T]at e;show(z a o (by rw[aW T];show e)).go EU rfl
 .rintro i C c l hi ⟨f,acc,V,mp,q,z,L,av,pv⟩;let hkp:=hk c i f acc V (Ie hi) mp pv;apply#[it.go i l _ q z hkp hi,λx t y=>?_];let#[w,hw,r,Y,d]:=it.yld i l _ x t q z hkp hi y;apply#[w,f,_,_,d,L.kp z r,Y,F c i w f acc V hw mp pv,λσ4 H4 τ4 M4 k4 am4 as4 W=>#[τ4,M4,_,as4,am4,W,λb H5 M5 k5 am5 N=>?_]];let A:Kp l (put V p (.fix c)) H5 M5:=(r.trans k4).trans k5;cases b with
  | false=>
   obtain⟨m5,M6,sb,pv6⟩:M5 p=aa (.fix c)/\∃M6,Sub M6 (del M5 p)/\K (i+1) τ4 acc M6:=N;let sb':Sub (put M6 p (.fix c)) M5:=by
    have:=(sb.trans Sub.del).put (a:=p) (o:=.fix c);rwa [xX m5]at this
   show UB #[τ4,acc,M6,sb.non pA,(q.trans A).sub sb',am5.sub sb',(as4.kp am4 k5).sub sb',(av.kp z A).sub sb',pv6]
  | true=>
   let N:te τ4 M5 λy M4=>M4 p=aa (.fix c)/\↥acc<Ap/\∃M5,Sub M5 (del M4 p)/\K (i+1) τ4 (acc++[y]) M5:=N;apply UC #[τ4,M5,_,as4.kp am4 k5,am5,N,λy H6 D M6 k6 am6 m E=>?_];let#[m6,hl,M7,sb,pv7]:=E;let kk6:=A.trans k6;let hp6:H6 p=aa (.lst c):=am6 p _ m6;let#[am8,k8]:=am6.write (o:=.fix (c++[y])) (u:=.lst (c++[y])) m6 b7;let sb':Sub (put M7 p (.fix (c++[y]))) (put M6 p (.fix (c++[y]))):=(sb.trans Sub.del).put;apply#[hp6,by rw[↥av];show hl,τ4,acc++[D],M7,sb.non pA,((q.trans kk6).trans k8).sub sb',am8.sub sb',(((as4.kp am4 k5).kp am5 k6).kp am6 k8).sub sb',?_,pv7];show(((av.kp z kk6).append (.cons m .nil)).kp am6 k8).sub sb'
variable {sc:Mb}{N':↑Av}{js:↑(Option Nat)}{iter elt:Cm}{ifs:↑Cm}{wi:gL}{g:eT}{tt:dE}
abbrev eU:dE:=λ_ M Q=>Q ab M
def YN:iM X [] (k7 X.K eU):=UH.weak λZ H Q E=>E.el λU M R as O h k=>k ab H M (Kp.refl O) O h
def YO{c:Cm}{t:dE}(h:T3 X c t):iM X [c] (k7 X.K t):=UI h
def f9(N':↑Av)(js:↑(Option Nat))(hi:PI X tg iter (fY X.K wi))(hg:∀B,PG (eD X sc N' B) tg (iP X.K g))(ht:∀B,iM (eD X sc N' B) ifs (k7 X.K tt))(m:∀B,PE (eD X sc N' B) elt (up X.K te))(Z:oY N' sc X.env.scope=ab:=by kernel_rfl)(hj:fR N' X.N sc js N'=ab:=by kernel_rfl)(hc:X.calm=ab:=by rfl)(F:∀x,Kr iter X.env x=pure x:=by intro _;rfl):
  E3 X (.ListComp elt [#[tg,iter,ifs,0]] sc pos) (d8 wi g tt te js):=(UJ N' js hi hg ht m Z hj hc F).weak λ_ _ _ h=>F1 h
end
noncomputable def uL(N:↑Av)(ws:↑W):S3:=ws.map aa++Cu (↥N-↥ws) ae
noncomputable def n9(R:K3):D3:={nx:=λ_ V=>∃a,Sub a V/\R .non a,rt:=λw V=>∃a,Sub a V/\R w a}
abbrev bK(sp:a8)(c:aE)(N:↑Av):Prop:=∀ws M R,sp ws M R->c (n9 R) (uL N ws) M
section
variable {P:Be}{w:Bv}{K:Ac}{mg:Av->Option Ae}{base:Dz}
def yR{x d:Av}{st:Kx}{f:Am}{fd:Fs}{N ps:↑Av}{k:Nat}{sp:a8}(F:iY K x d st f fd)(S:mB N ps (dR st))(len:∀ws M R,sp ws M R->↥ws=↥ps)(c:∀(i:Ae) (A:Cw) (outer:↑Env) (s:Ak) (H:Hp) (E:XK) (ws:↑W) (M:Mm) (R:K3),cI k (A.deeper (Na d (dR st) ⇑s f i))->sp ws M R->
   ∃t,i7 (kC eW P w K mg base N d (dR st) f i A outer s H E).nox (gC st) t/\t (n9 R) (uL N ws) M):iW P w K mg base eW (k+1) f fd ps (fS K sp):=by
 apply F.ok S (λvs H Q E g=>by let#[ws,M,R,O,av,h,_]:=g;rw[↥av];show len ws M R h) λi A outer s H vs Q E G Y=>?_;let#[ws,M,R,O,av,h,n]:=Y;let#[t,ht,h']:=c i A outer s H E ws M R G h;apply#[_,ht,uL N ws,M,n9 R,?_,O,h',#[λC l L V u D T J=>by let#[a,sb,r]:=J;show n _ l _ a (u.sub sb) (D.sub sb) .non r,λv l w V u D j z3=>by let#[a,sb,r]:=z3;show n v l w a (u.sub sb) (D.sub sb) (j.sub sb) r,λ_ _ _ _ _ _ _ z=>z.elim,λ_ _ _ _ _ _ _ z=>z.elim]];unfold L2.start uL;rw[↥av];show AS.start av _
def rP:a8:=λws M R=>∃ns:↑Int,ws=[.sc (ns.map W.int)]/\↥ns<=63/\(M=λ_=>ae)/\∀V,R (.bl ab) V
def YQ{H:Hp}{a:Am}{ns:↑Int}(hl:↥ns<=63)(f:tP H)(F:bL K H a (ns.map V.int)):fS K rP [.ref a] H (λv _=>v=.bl ab) λ_ _ _=>False:=by
 let G:kZ K H a (ns.map V.int):=by
  rcases F with(e|⟨o,e⟩)|e
  .rcases f a with z|⟨o,xs,z⟩
   .rw[z]at e;cases e
   .rw[z]at e;cases e
  .show .inl #[o,e]
  .show .inr e
 show#[[.sc (ns.map W.int)],λ_=>ae,λw _=>w=.bl ab,λa o e=>(nomatch e),.cons (.sc G (aJ.int ns)) .nil,#[ns,rfl,hl,rfl,λ_=>rfl],λv l w I _ _ av r=>by subst r;show av.bl_inv]
end
section
variable {X:Cx}{a b c:Cm}{ta tb tc:aP}{pos:Ih}
abbrev yS(r g:R3)(ta tb tc:aP):aP:=λU M R=>ta U M λx I=>tb U I λy G=>r x y G λz H=>mJ z λk=>if k=ab then tc U H λw a=>g y w a R else R (.bl ac) H
abbrev YR:aE:=λ_ _ _=>False
def F4(M:Mm):W->String->Prop
 | .non,T=>T = "NoneType"
 | .bl _,T=>T = "bool"
 | .int _,T=>T = "int"
 | .str _,T=>T = "str"
 | .tup _,T=>T = "tuple"
 | .rl _,T=>T = "list"
 | .dk _,T=>T = "dict"
 | .ref a,T=>(T = "list"/\∃ws,M a=aa (.lst ws))\/(T = "dict"/\((∃kvs,M a=aa (.dK kvs))\/∃kvs,M a=aa (.dT kvs)))
 | _,_=>False
noncomputable def F5:↑(String×String×Bool):=[("int","int",ab),("int","bool",ac),("int","str",ac),("int","tuple",ac),("int","list",ac),("bool","bool",ab),("bool","int",ab),("bool","str",ac),("bool","list",ac),("bool","tuple",ac),("str","str",ab),("str","int",ac),("str","tuple",ac),("str","list",ac),("str","bool",ac),("tuple","tuple",ab),("tuple","list",ac),("tuple","str",ac),("tuple","int",ac),("tuple","bool",ac),("list","list",ab),("list","tuple",ac),("list","str",ac),("list","int",ac),("list","bool",ac),("NoneType","list",ac),("NoneType","tuple",ac),("NoneType","int",ac),("NoneType","str",ac),("NoneType","bool",ac),("dict","dict",ab),("dict","list",ac)]
noncomputable def yT(n T:String):Option Bool:=(F5.find? λp=>p.1==n&&p.2.1==T).map λp=>p.2.2
def F6(K:Ac):↑(String×String×Bool)->Prop
 | []=>True
 | p::l=>Lv K (.type p.1) (.type p.2.1)=aa p.2.2/\F6 K l
theorem F7{K:Ac}:∀{l:↑(String×String×Bool)},F6 K l->∀p∈l,Lv K (.type p.1) (.type p.2.1)=aa p.2.2
 | _::_,h,_,m=>by
  cases m with
  | head=>show h.1
  | tail _ m=>show F7 h.2 _ m
def YS(K:Ac):∀p∈F5,Lv K (.type p.1) (.type p.2.1)=aa p.2.2:=by
 apply F7 ?_
 repeat refine#[by kernel_rfl,?_]
 trivial
def YT(K:Ac){b:Bool}(h:yT n T=aa b):Lv K (.type n) (.type T)=aa b:=by
 let#[p,S,e]:=Bd.mp h;let L:=List.find?_some S;let Z:=YS K p (Ob S);rw[De,beq_iff_eq,beq_iff_eq]at L;rw[<-L.1,<-L.2,Z,e]
def mT:↑W->Mm->K3->Prop
 | [w,.ty T],M,R=>∃n b,F4 M w n/\yT n T=aa b/\R (.bl b) M
 | _,_,_=>False
def YU:cN X (.builtin "isinstance") (fA X.K mT):=by
 rintro C s G H xs us Q I rs ⟨ws,M,R,O,m,h,k⟩
 match ws,h with
 | [w,.ty T],h=>
  let#[v,u,rfl,av,o]:=m.two;cases o;let#[n,b,P,F,r]:=h;let ty:iC X.K H v (.type n):=by
   cases w<;>first|exact Bs P|skip
   case non=>rw[show n=_ from P,show v=_ from av.inv];show .non
   case bl b=>rw[show n=_ from P,show v=_ from av.inv];show .bl b
   case int i=>rw[show n=_ from P,show v=_ from av.inv];show .int i
   case str x=>rw[show n=_ from P,show v=_ from av.inv];show .str x
   case tup=>let#[a,xs,ev,e,q]:=av.inv;rw[show n=_ from P,ev];show .tup e
   case rl=>let#[a,xs,ev,e,_,q]:=av.inv;rw[show n=_ from P,ev];show .lst e
   case dk=>let#[a,xs,ev,e,_,q]:=av.inv;rw[show n=_ from P,ev];show .dK e
   case ref a=>
    rw[show v=_ from av.inv];rcases P with⟨e,ws,h⟩|⟨e,h⟩
    .subst e;let#[vs,f,_]:=O.lst h;show .lst f
    .subst e;rcases h with⟨kvs,h⟩|⟨kvs,h⟩
     .let#[ks,f,_]:=O _ _ h;show .dK f
     .let#[ks,f,_]:=O _ _ h;show .dT f
  show UQ C s G H _ us Q I rs #[v,T,_,b,rfl,ty,YT X.K F,k.at O (.bl b) r]
def F8:W->↑W->Mm->K3->Prop
 | .str z,[.str y],M,R=>(↥y==0)=ac/\↥z<=Ap/\R (.tup [.str (Dq z y).1,.str (Dq z y).2.1,.str (Dq z y).2.2]) M
 | _,_,_,_=>False
def m_partition:fQ X "str.partition" (jQ X.K F8):=by
 rintro C s G H x xs v us Q I U rs ⟨P,ws,M,R,O,d,m,h,k⟩
 match P,ws,h with
 | .str z,[.str y],h=>
  let#[u,rfl,o]:=m.one;cases d;cases o;show UP C s G H _ _ v us Q I U rs #[z,y,rfl,rfl,h.1,h.2.1,λp S=>laidT O k S (.cons (.str _) (.cons (.str _) (.cons (.str _) .nil))) h.2.2]
end
section
variable {X:Cx}{a b:Cm}{ta tb:aP}{pos:Ih}{es:↑Cm}{t:cV}
def F9{K:Ac}{H:Hp}{M:Mm}{R:K3}{Q:VK}{p:Am}{xs:↑V}{ws:↑W}(O:AM K H M)(k:Up K H M R Q)(S:H p=ae)(d:aJ K H M xs ws)(r:R (.rl ws) M):Q (.ref p) (aL H p (.lst xs)):=by
 let#[N,t]:=O.tup (u:=.lst xs) S;show k _ _ _ _ t N (.rl b7 (O.nonM S) (d.newT S)) r
abbrev gA(t:cV):aP:=λU M R=>t U M λws I=>sz ws (R (.rl ws) I)
def YV(h:A3 X es t):E3 X (.List es pos) (gA t):=
 (CO h).weak λG H Q E=>E.el λU M R as O h k=>#[U,M,_,as,O,h,λxs B ws I V j m r=>#[by rw[↥m];show r.el.1,λp S=>F9 j (k.kp V) S m r.el.2]]
def GA{f:Ae->Ae->Uc Ae}(h:bF X f (cJ X.K r))(k:∀x y M R,g x y M R->r x y M λw V=>frz w V R):bF X f (cJ X.K g):=λC s G H x y v u Q I S N #[P,l,M,R,O,d,m,h',n]=>
 h C s G H x y v u Q I S N #[P,l,M,_,O,d,m,k _ _ _ _ h',n.frz]
def GB{r g:↑W->Mm->K3->Prop}(h:cN X f (fA X.K r))(k:∀x M R,g x M R->r x M λw V=>frz w V R):cN X f (fA X.K g):=λC s G H xs us Q I rs #[ws,M,R,O,d,h',n]=>
 h C s G H xs us Q I rs #[ws,M,_,O,d,k _ _ _ h',n.frz]
noncomputable abbrev dW:R3
 | .int i,.int j,M,R=>R (.int (i+j)) M
 | .tup xs,.tup ys,M,R=>xs≠[]/\↥xs+↥ys<=Ap/\R (.tup (xs++ys)) M
 | .ref a,.ref b,M,R=>∃xs ys,M a=aa (.lst xs)/\M b=aa (.lst ys)/\↥xs+↥ys<=Ap/\R (.rl (xs++ys)) M
 | .rl xs,.ref b,M,R=>∃ys,M b=aa (.lst ys)/\↥xs+↥ys<=Ap/\R (.rl (xs++ys)) M
 | .ref a,.rl ys,M,R=>∃xs,M a=aa (.lst xs)/\↥xs+↥ys<=Ap/\R (.rl (xs++ys)) M
 | .rl xs,.rl ys,M,R=>↥xs+↥ys<=Ap/\R (.rl (xs++ys)) M
 | _,_,_,_=>False
def GC:bF X (Fq .Add) (cJ X.K dW):=GA WL λx y M R h=>by
 cases x<;>first|exact Bs h|(cases y<;>first|exact Bs h|skip)
 case int.int i j=>show h
 case tup.tup i j=>show h
 case ref.ref i j=>let#[xs,ys,L,Z,F,r]:=h;show#[xs,ys,L,Z,F,aR.frz r]
 case rl.ref i j=>let#[ys,Z,F,r]:=h;show#[ys,Z,F,aR.frz r]
 case ref.rl i j=>let#[ys,Z,F,r]:=h;show#[ys,Z,F,aR.frz r]
 case rl.rl i j=>show#[h.1,aR.frz h.2]
abbrev uM:R3
 | .int i,.int j,M,R=>(oS i j\/tR i j)/\R (.int (i*j)) M
 | .ref a,.int n,M,R=>∃xs,M a=aa (.lst xs)/\-(2 ^ 63)<=n/\n<2 ^ 63/\↥xs*n.toNat<=Ap/\R (.rl (Cu n.toNat xs).flatten) M
 | .rl xs,.int n,M,R=>-(2 ^ 63)<=n/\n<2 ^ 63/\↥xs*n.toNat<=Ap/\R (.rl (Cu n.toNat xs).flatten) M
 | _,_,_,_=>False
def YW:bF X (Fq .Mult) (cJ X.K uM):=GA WU λx y M R h=>by
 cases x<;>first|exact Bs h|(cases y<;>first|exact Bs h|skip)
 case int.int i j=>show h
 case ref.int i j=>let#[xs,L,Z,F,T,r]:=h;show#[xs,L,Z,F,T,aR.frz r]
 case rl.int i j=>let#[Z,F,T,r]:=h;show#[Z,F,T,aR.frz r]
abbrev dP:↑W->Mm->K3->Prop
 | [.tup ws],M,R=>R (.rl ws) M
 | [.rl ws],M,R=>R (.rl ws) M
 | [.sc ws],M,R=>R (.rl ws) M
 | [.dk kvs],M,R=>R (.rl (kvs.map λn=>wK n.1)) M
 | [.ref a],M,R=>(∃ws,M a=aa (.lst ws)/\R (.rl ws) M)\/∃kvs,M a=aa (.dK kvs)/\R (.rl (kvs.map λn=>wK n.1)) M
 | _,_,_=>False
def YX(hc:X.calm=ab):cN X (.type "list") (fA X.K dP):=GB (FR hc) λx M R h=>by
 match x,h with
 | [.tup ws],h=>show aR.frz h
 | [.rl ws],h=>show aR.frz h
 | [.sc ws],h=>show aR.frz h
 | [.dk kvs],h=>show aR.frz h
 | [.ref a],h=>
  rcases h with⟨ws,e,r⟩|⟨kvs,e,r⟩
  .show .inl #[ws,e,aR.frz r]
  .show .inr #[kvs,e,aR.frz r]
abbrev GD:W->Option Int->Option Int->Mm->K3->Prop
 | .rl ws,lo,hi,M,R=>R (.rl (eG ws lo hi)) M
 | .sc ws,lo,hi,M,R=>R (.rl (eG ws lo hi)) M
 | .ref a,lo,hi,M,R=>∃ws,M a=aa (.lst ws)/\R (.rl (eG ws lo hi)) M
 | .tup ws,lo,hi,M,R=>¬(HT.sIx ↥ws 0 lo=0/\HT.sIx ↥ws ↥ws hi=↥ws)/\R (.tup (eG ws lo hi)) M
 | _,_,_,_,_=>False
def YY(h:GD x l u M R):FH x l u M λw V=>frz w V R:=by
 cases x<;>first|exact Bs h|skip
 case tup ws=>show h
 case rl ws=>show aR.frz h
 case sc ws=>show aR.frz h
 case ref a=>let#[ws,e,r]:=h;show#[ws,e,aR.frz r]
abbrev oA(ta:aP)(tl b:pF):aP:=λU M R=>ta U M λx I=>tl U I λl G=>b U G λu H=>GD x l u H R
def YZ{lo hi:Option Cm}{tl b:pF}{y:Ih}(m:E3 X a ta)(hl:PO X lo (pG X.K tl))(C:PO X hi (pG X.K b)):E3 X (.Subscript a (.Slice lo hi ae y) pos) (oA ta tl b):=
 (RV XA m hl C).weak λG H Q E=>E.el λU M R as O h k=>#[U,M,_,as,O,h,λx B P I V j d L=>#[U,I,_,as.kp O V,j,L,λl w c t N Z=>#[U,c,_,(as.kp O V).kp j t,N,Z,λu S J v W F=>
  #[P,J,_,W,(d.kp j t).kp N v,YY F,(((k.kp V).kp t).kp v).frz]]]]
variable {sc:Mb}{N':↑Av}{js:↑(Option Nat)}{tg iter elt:Cm}{ifs:↑Cm}{wi:gL}{g:eT}{tt:dE}{te:aP}
def uN{i:Nat}(f:X.N.Nodup)(N':↑Av)(js:↑(Option Nat))(hi:PI X tg iter (fY X.K wi))(hg:∀B,PG (eD X sc N' B) tg (iP X.K g))(ht:∀B,iM (eD X sc N' B) ifs (k7 X.K tt))(m:∀B,PE (eD X sc N' B) elt (up X.K te))(b:X.N[i]? = aa x:=by rfl)(J:Loc X.env.scope x:=by first|exact .inl rfl|exact .inr rfl)(Z:oY N' sc X.env.scope=ab:=by kernel_rfl)(hj:fR N' X.N sc js N'=ab:=by kernel_rfl)(hc:X.calm=ab:=by rfl)(a:Oh (.ListComp elt [#[tg,iter,ifs,0]] sc pos) (aa (.Name x r)) R.line X.env=pure ab:=by rfl)(hf:Fy X x:=by first|exact .inl rfl|exact .inr rfl|assumption)(F:∀x,Kr iter X.env x=pure x:=by intro _;rfl):P3 X (.Assign [.Name x r] (.ListComp elt [#[tg,iter,ifs,0]] sc pos) R) (aQ i (bP (d8 wi g tt te js))):=
 (UK f b J N' js hi hg ht m Z hj hc a hf F).weak λD G H E=>E.el λU M Q as O h k=>F1 #[U,M,_,as,O,h,Up.frz λy P Y I V j l L=>k.nx _ _ _ _ V j ((as.kp O V).set l i) L]
end
def Pl:Nat->W->Prop
 | _,.non=>True
 | _,.int _=>True
 | _,.str x=>Ow x=ab
 | n+1,.tup ws=>∀w∈ws,Pl n w
 | n+1,.rl ws=>∀w∈ws,Pl n w
 | _,_=>False
noncomputable def cX(M:Mm):W->W
 | .ref a=>match M a with
  | some (.lst ws)=>.rl ws
  | _=>.ref a
 | w=>w
section
variable {M:Mm}
theorem yU{n:Nat}(E:∀{w:W},Pl n w->∃d,Snap M w d/\d.canLay0=ab/\d.depth<=n):∀{ws:↑W},(∀w∈ws,Pl n w)->∃j,iO M ws j/\PyData.canLayAll0 j=ab/\Sj j<=n
 | [],_=>#[[],.nil,rfl,by simp[Sj]]
 | w::ws,h=>by
  let#[d,s,c,e]:=E (h w Bw);let#[j,ss,a,b]:=yU E λz hz=>h z (Bp _ hz);show#[d::j,.cons s ss,by simp[PyData.canLayAll0,c,a],by simp only[Sj];lia]
def Y0:∀{n:Nat} {w:W},Pl n w->∃d,Snap M w d/\d.canLay0=ab/\d.depth<=n:=by
 intro n
 induction n with
 | zero=>
  intro w h;cases w<;>first|exact Bs h|skip
  case non=>show#[_,.non,rfl,by simp[Ki]]
  case int i=>show#[_,.int i,rfl,by simp[Ki]]
  case str x=>show#[_,.str x,h,by simp[Ki]]
 | succ n E=>
  intro w h;cases w<;>first|exact Bs h|skip
  case non=>show#[_,.non,rfl,by simp[Ki]]
  case int i=>show#[_,.int i,rfl,by simp[Ki]]
  case str x=>show#[_,.str x,h,by simp[Ki]]
  case tup ws=>
   let#[j,s,c,e]:=yU E h;show#[_,.tup s,by simpa [PyData.canLay0] using c,by simp only[Ki];lia]
  case rl ws=>
   let#[j,s,c,e]:=yU E h;show#[_,.rl s,by simpa [PyData.canLay0] using c,by simp only[Ki];lia]
def GF{n:Nat}(h:Pl n (cX M w)):∃d,Snap M w d/\Snap M (cX M w) d/\d.canLay0=ab/\d.depth<=n:=by
 let#[d,s,c,e]:=Y0 (M:=M) h;apply#[d,?_,s,c,e];cases w<;>first|exact s|skip
 case ref a=>
  cases q:M a with
  | none=>
   let e:cX M (.ref a)=.ref a:=by simp[cX,q]
   rw[e]at s;show s
  | some o=>
   cases o with
   | lst ws=>
    let e:cX M (.ref a)=.rl ws:=by simp[cX,q]
    rw[e]at s;cases s with
    | rl r=>show .ref q r
   | dK _=>
    let e:cX M (.ref a)=.ref a:=by simp[cX,q]
    rw[e]at s;show s
   | dT _=>
    let e:cX M (.ref a)=.ref a:=by simp[cX,q]
    rw[e]at s;show s
   | fix _=>
    let e:cX M (.ref a)=.ref a:=by simp[cX,q]
    rw[e]at s;show s
   | ins _ _ _=>
    let e:cX M (.ref a)=.ref a:=by simp[cX,q]
    rw[e]at s;show s
   | dn _ _ _ _=>
    let e:cX M (.ref a)=.ref a:=by simp[cX,q]
    rw[e]at s;show s
   | vw _=>
    let e:cX M (.ref a)=.ref a:=by simp[cX,q]
    rw[e]at s;show s
   | dh _ _ _ _ _=>
    let e:cX M (.ref a)=.ref a:=by simp[cX,q]
    rw[e]at s;show s
def GG{n:Nat}(E:∀{x y:W} {s a:Ou},Pl n x->Pl n y->Snap M x s->Snap M y a->(Nk s a=ab↔x=y)):∀{xs ys:↑W} {s a:↑Ou},(∀w∈xs,Pl n w)->(∀w∈ys,Pl n w)->iO M xs s->iO M ys a->(Qg s a=ab↔xs=ys):=by
 intro xs
 induction xs with
 | nil=>
  intro ys s a B O U d;cases U;cases d<;>simp[Qg]
 | cons x xs b=>
  intro ys s a B O U d;cases U with
  | cons U l=>
   cases d with
   | nil=>simp[Qg]
   | cons d m=>
    rw[Qg,De,E (B x Bw) (O _ Bw) U d,b (λz hz=>B z (Bp _ hz)) (λz hz=>O z (Bp _ hz)) l m];simp
def Y1:∀{n:Nat} {x y:W} {s a:Ou},Pl n x->Pl n y->Snap M x s->Snap M y a->(Nk s a=ab↔x=y):=by
 intro n
 induction n with
 | zero=>
  intro x y s a B O sx b;cases sx<;>first|exact Bs B|skip
  all_goals cases b<;>first|exact Bs O|simp[Nk]
 | succ n E=>
  intro x y s a B O sx b;cases sx<;>first|exact Bs B|skip
  all_goals cases b<;>first|exact Bs O|skip
  all_goals first|(simp[Nk];done)|skip
  case tup.tup r1 _ _ r2=>rw[Nk,GG E B O r1 r2];simp
  case rl.rl r1 _ _ r2=>rw[Nk,GG E B O r1 r2];simp
def Y2{neg:Bool}(n:Nat)(P:n<=60)(B:Pl n (cX M x))(O:Pl n (cX M y))(h:∀b:Bool,(b=ab↔cX M x=cX M y)->R (.bl (if neg then !b else b)) M):mP neg x y M R:=by
 let#[s,U,c,N,J]:=GF B;let#[a,d,e,u,D]:=GF O;unfold mP;show#[s,a,U,d,#[N,by lia],#[u,by lia],h _ (Y1 B O c e)]
def pK{neg:Bool}(n:Nat)(P:n<=60)(B:Pl n (cX M x))(O:Pl n (cX M y))(h:∀b:Bool,(b=ab↔cX M x=cX M y)->R (.bl (if neg then !b else b)) M):dU neg x y M R:=by
 let d:=Y2 n P B O h;cases x<;>first|exact d|skip
 case int i=>
  cases y<;>first|exact d|skip
  case int j=>show h (decide (i=j)) (by simp[cX])
 case str i=>
  cases y<;>first|exact d|skip
  case str j=>show h (decide (i=j)) (by simp[cX])
 case bl i=>
  cases y<;>first|exact d|skip
  case bl j=>show(show False by cases n<;>exact B).elim
end
def Y3{neg:Bool}(n:Nat)(P:n<=60)(B:Pl n (cX M x))(e:cX M y=cX M x)(h:R (.bl (!neg)) M):dU neg x y M R:=by
 apply pK n P B (by rw[e];show B) λb Y=>?_;have:b=ab:=Y.mpr e.symm;subst this;cases neg<;>exact h
def uO{keep:Mm->Prop}(St:S3->Prop)(h:W->S3)(e:W->Option W->Prop)(hl:↥ws<=Ap)(hk:∀M,Sub I M->keep M)(v:St c)(ht:∀w∈ws,St (h w))(hg:∀w∈ws,∀U M (C:S3->Mm->Prop),St U->C (h w) M->g w U M C)(F:∀w∈ws,∀M (C:K3) (D:Mm->Prop),Sub I M->(∀y,e w (aa y)->C y M)->(e w ae->D M)->tt (h w) M λb H=>if b=ab then te (h w) H C else D H)(r:∀os,Gk e ws os->aR (os.filterMap id) I R):fZ ws keep g tt te c I R:=by
 unfold fZ;intro p S;apply#[λi U acc M=>St U/\(∃os,Gk e (ws.take i) os/\acc=os.filterMap id)/\M=I,#[v,#[[],by simp;show .nil,rfl],rfl],?_,?_,?_]
 .rintro vs i U acc M _ d ⟨_,_,rfl⟩;show hk _ (Sub.new S)
 .rintro vs i w U acc M hw d ⟨st,⟨os,po,rfl⟩,rfl⟩;let N:w∈ws:=Au hw;let hi:i<↥ws:=(An.mp hw).1;let f:ws.take (i+1)=ws.take i++[w]:=by rw[Ce,hw];rfl
  let snoc:∀o,e w o->Gk e (ws.take (i+1)) (os++[o]):=λo x=>by
   rw[f];clear hw d st f
   revert os
   generalize ws.take i=l;intro os po
   induction po with
   | nil=>show .cons x .nil
   | cons a b E=>show .cons a E
  let Y:↥(os.filterMap id)<Ap:=by
   let L:=List.length_filterMap_le id os;let Z:=Ea po;rw[Dc]at Z;lia
  apply hg w N U _ _ st (F w N _ _ _ (Sub.new S) (λy O=>#[aK,Y,M,?_,ht w N,#[_,snoc _ O,?_],rfl]) λP=>#[aK,M,?_,ht w N,#[_,snoc _ P,?_],rfl])
  .rw[iD S];show aZ
  .simp
  .rw[iD S];show aZ
  .simp
 .rintro U acc M d ⟨_,⟨os,po,rfl⟩,rfl⟩;rw[Cb]at po;show r os po p S
def yV(rest:S3):S3->Prop:=λU=>∃o,U=o::rest
def mU{keep:Mm->Prop}(f:W->W)(hl:↥ws<=Ap)(hk:∀M,Sub I M->keep M)(F:∀w∈ws,∀M (C:K3),Sub I M->C (f w) M->te (aa w::rest) M C)(r:aR (ws.map f) I R):fZ ws keep (a6 0) eU te (o::rest) I R:=by
 apply uO (yV rest) (λw=>aa w::rest) (λw o=>o=aa (f w)) hl hk #[_,rfl] (λw _=>#[_,rfl]) ?_ ?_ ?_
 .rintro w _ U M C ⟨o,rfl⟩ h;show h
 .intro w hw M C D sb L _;change(if ab=ab then te (aa w::rest) M C else D M);rw[Xb rfl];show F w hw M C sb (L _ rfl)
 .intro os po;have:os.filterMap id=ws.map f:=by
   clear r F hl hk
   induction po with
   | nil=>rfl
   | cons a b E=>subst a;simp[E]
  rw[this];show r
def Y4{keep:Mm->Prop}(f:W->Option W)(hl:↥ws<=Ap)(hk:∀M,Sub I M->keep M)(F:∀w∈ws,∀M (C:K3) (D:Mm->Prop),Sub I M->(∀y,f w=aa y->C y M)->(f w=ae->D M)->tt (aa w::rest) M λb H=>if b=ab then te (aa w::rest) H C else D H)(r:aR (ws.filterMap f) I R):fZ ws keep (a6 0) tt te (o::rest) I R:=by
 apply uO (yV rest) (λw=>aa w::rest) (λw o=>o=f w) hl hk #[_,rfl] (λw _=>#[_,rfl]) ?_ ?_ ?_
 .rintro w _ U M C ⟨o,rfl⟩ h;show h
 .intro w hw M C D sb L Z;show F w hw M C D sb (λy e=>L y e.symm) λe=>Z e.symm
 .intro os po;have:os.filterMap id=ws.filterMap f:=by
   clear r F hl hk
   induction po with
   | nil=>rfl
   | @cons a b c d e _ E=>
    subst e;cases q:f a<;>simp[q,E]
  rw[this];show r
def uP{keep:Mm->Prop}(P:W->W->Prop)(hl:↥ws<=Ap)(hk:∀M,Sub I M->keep M)(F:∀w∈ws,∀M (C:K3),Sub I M->(∀y,P w y->C y M)->te (aa w::rest) M C)(r:∀ys,Gk P ws ys->aR ys I R):fZ ws keep (a6 0) eU te (o::rest) I R:=by
 apply uO (yV rest) (λw=>aa w::rest) (λw o=>∃y,o=aa y/\P w y) hl hk #[_,rfl] (λw _=>#[_,rfl]) ?_ ?_ ?_
 .rintro w _ U M C ⟨o,rfl⟩ h;show h
 .intro w hw M C D sb L _;change(if ab=ab then te (aa w::rest) M C else D M);rw[Xb rfl];show F w hw M C sb λy c=>L y #[y,rfl,c]
 .intro os po;have:∃ys,os=ys.map aa/\Gk P ws ys:=by
   clear r F hl hk
   induction po with
   | nil=>show#[[],rfl,.nil]
   | cons a b E=>
    let#[y,rfl,c]:=a;let#[ys,rfl,h]:=E;show#[y::ys,rfl,.cons c h]
  let#[ys,rfl,c]:=this;rw[Lu];have:(ys.filterMap (id ∘ aa))=ys:=by simp
  rw[this];show r ys c
def Paired.all{P:W->W->Prop}{Q:W->Prop}(h:Gk P xs ys)(k:∀x y,P x y->Q y):∀y∈ys,Q y:=by
 induction h with
 | nil=>intro y O;cases O
 | cons a b E=>
  intro y O;rcases Ax.mp O with rfl|O
  .show k _ _ a
  .show E y O
def Y5(rest:S3):S3->Prop:=λU=>∃g s,U=g::s::rest
noncomputable def Y6(rest:S3):W->S3
 | .tup [a,b]=>aa a::aa b::rest
 | _=>ae::ae::rest
abbrev yW:eT:=e8 2 (cB (a6 0) (cB (a6 1) eZ))
def uQ{keep:Mm->Prop}(P:W->Option W->Prop)(hw:∀w∈ws,∃a b,w=.tup [a,b])(hl:↥ws<=Ap)(hk:∀M,Sub I M->keep M)(F:∀a b,.tup [a,b]∈ws->∀M (C:K3) (D:Mm->Prop),Sub I M->(∀y,P (.tup [a,b]) (aa y)->C y M)->(P (.tup [a,b]) ae->D M)->tt (aa a::aa b::rest) M λd H=>if d=ab then te (aa a::aa b::rest) H C else D H)(r:∀os,Gk P ws os->aR (os.filterMap id) I R):fZ ws keep yW tt te (g::s::rest) I R:=by
 apply uO (Y5 rest) (Y6 rest) P hl hk #[_,_,rfl] (λw N=>?_) ?_ ?_ r
 .let#[a,b,rfl]:=hw w N;show#[_,_,rfl]
 .rintro w N U M C ⟨Y,o,rfl⟩ h;let#[a,b,rfl]:=hw w N;show#[rfl,rfl,h]
 .intro w N M C D sb L Z;let#[a,b,rfl]:=hw w N;show F a b N M C D sb L Z
def GH{keep:Mm->Prop}(P:W->W->Prop)(hw:∀w∈ws,∃a b,w=.tup [a,b])(hl:↥ws<=Ap)(hk:∀M,Sub I M->keep M)(F:∀a b,.tup [a,b]∈ws->∀M (C:K3),Sub I M->(∀y,P (.tup [a,b]) y->C y M)->te (aa a::aa b::rest) M C)(r:∀ys,Gk P ws ys->aR ys I R):fZ ws keep yW eU te (g::s::rest) I R:=by
 apply uQ (λw o=>∃y,o=aa y/\P w y) hw hl hk (λa b N M C D sb L _=>?_) λos po=>?_
 .change(if ab=ab then te (aa a::aa b::rest) M C else D M);rw[Xb rfl];show F a b N M C sb λy c=>L y #[y,rfl,c]
 .have:∃ys,os=ys.map aa/\Gk P ws ys:=by
   clear r F hl hk hw
   induction po with
   | nil=>show#[[],rfl,.nil]
   | cons a b E=>
    let#[y,rfl,c]:=a;let#[ys,rfl,h]:=E;show#[y::ys,rfl,.cons c h]
  let#[ys,rfl,c]:=this;rw[Lu];have:(ys.filterMap (id ∘ aa))=ys:=by simp
  rw[this];show r ys c
structure Df(K:Ac)(mg:Av->Option Ae)(x:Av)(st:Kx)(ps:↑Av)(f:Am)(fd:Fs):Prop where
 fn:iY K x x st f fd
 at_:mg x=aa (.ref f)
 bi:Binds K fd ps []
def Y7:Cz "len" = aa (.builtin "len"):=PySem.boot_len
def uR:Cz "list" = aa (.type "list"):=by decide +kernel
def GI:Cz "tuple" = aa (.type "tuple"):=by decide +kernel
def Y8:Cz "str" = aa (.type "str"):=by decide +kernel
def Y9:Cz "int" = aa (.type "int"):=by decide +kernel
def yX:Cz "dict" = aa (.type "dict"):=by decide +kernel
def ZA:Cz "isinstance" = aa (.builtin "isinstance"):=by decide +kernel
def ZC:Cz "all" = aa (.builtin "all"):=by decide +kernel
def ZD:Cz "any" = aa (.builtin "any"):=by decide +kernel
def ZE:Cz "sorted" = aa (.builtin "sorted"):=by decide +kernel
def rQ{q:Type}(x:q)(xs:↑q):cC (x::xs) 0=aa x:=by simp[cC,gW]
def GJ{q:Type}{xs:↑q}{i:Int}(v:0<=i)(L:i<↥xs):∃x,cC xs i=aa x/\xs[i.toNat]? = aa x/\x∈xs:=by
 let r:i.toNat<↥xs:=by lia
 apply#[xs[i.toNat],?_,Bj r,List.getElem_mem r];simp[cC,gW,v,L,r]
def pL{q:Type}{xs:↑q}{i n:Int}(P:n=↥xs)(S:0<n):∃x,cC xs (i % n)=aa x/\x∈xs:=by
 let v:0<=i % n:=Te _ (by lia);let L:i % n<n:=Rh _ S;let#[x,e,_,m]:=GJ (xs:=xs) v (by lia);show#[x,e,m]
def GK{ws:↑W}{lo hi:Option Int}{w:W}(h:w∈eG ws lo hi):w∈ws:=Nd (Kj h)
def GN{ws:↑W}{lo hi:Option Int}:↥(eG ws lo hi)<=↥ws:=by
 unfold eG;rw[Dc,Ei];show Ar (Sq _ _) (Nat.sub_le _ _)
def oB(ws:↑W):Prop:=∀w∈ws,∃i,w=W.int i
def ints_map(ns:↑Int):oB (ns.map W.int):=λw h=>by
 let#[i,_,e]:=Ao.mp h;show#[i,e.symm]
def oB.cut(h:oB ws)(lo hi:Option Int):oB (eG ws lo hi):=λw m=>h w (GK m)
def small{n:Nat}(h:n<=10000000):n<=Ap:=Ar h ∅
def dA{n:Nat}(h:n<10000000):n<Ap:=Ci h ∅
def ZF{S:↑W}{i j:Int}(v:0<=i)(L:0<=j):↥(eG S (aa i) (aa j))<=(j-i).toNat:=by
 unfold eG HT.sIx;simp only[];rw[Xa (Int.not_lt.mpr v),Xa (Int.not_lt.mpr L),Dc];apply Ar (Pq _ _) (Nat.sub_le_of_le_add ?_);rw[<-Nat.add_min_add_left];apply Nat.le_min.mpr #[Ar (Pq _ _) ?_,Ar (Sq _ _) (Tc _ _)];have:j<=(((j-i).toNat+i.toNat:Nat):Int):=by
  rw[Td,Int.toNat_of_nonneg v];have:=Int.self_le_toNat (j-i);let h:=Int.add_le_add_right this i;rwa [Int.sub_add_cancel]at h
 show Int.toNat_le.mpr this
def uS{b:Bool}(P:∀m,F4 M w m↔m=n)(F:yT n T=aa b):mT [w,.ty T] M R↔R (.bl b) M:=
 #[λE=>by let#[_,_,L,Z,K]:=E;cases (P _).mp L;cases F.symm.trans Z;show K,λh=>#[n,b,(P n).mpr rfl,F,h]]
def ZG{i:Int}:mT [W.int i,.ty "int"] M R↔R (.bl ab) M:=uS (λ_=>Rz) ∅
def ZH:mT [W.str x,.ty "tuple"] M R↔R (.bl ac) M:=uS (λ_=>Rz) ∅
def ZI:mT [W.tup ws,.ty "tuple"] M R↔R (.bl ab) M:=uS (λ_=>Rz) ∅
def GO:mT [W.tup ws,.ty "int"] M R↔R (.bl ac) M:=uS (λ_=>Rz) ∅
def uU{M:Mm}{a:Am}{k:Av}{v:W}{kvs:↑(aC×W)}{Q:Mm->Prop}(h:M a=aa (.dK kvs))(hl:↥kvs<Ap)(q:Q (put M a (.dK (bW kvs (Sum.inr k) v)))):uI (.ref a) (.str k) v M Q:=.inr (.inl #[kvs,.inr k,rfl,h,hl,q])
def pM{M:Mm}{a:Am}{k:↑aC}{v:W}{kvs:↑(↑aC×W)}{Q:Mm->Prop}(h:M a=aa (.dT kvs))(hl:↥kvs<Ap)(q:Q (put M a (.dT (bW kvs k v)))):uI (.ref a) (.tup (k.map wK)) v M Q:=.inr (.inr #[kvs,k,rfl,h,hl,q])
section
variable {X:Cx}{a b c:Cm}{ta tb tc:aP}{pos:Ih}
def ZJ{K:Ac}{r g:R3}{G:SV}{H:Hp}{Q:VK}(h:up K (yS r g ta tb tc) G H Q):CI (cJ K r) (cJ K g) (up K ta) (up K tb) (up K tc) G H Q:=by
 let#[U,M,R,as,O,h,k]:=h;apply#[U,M,_,as,O,h,λx B P I V j d L=>#[U,I,_,as.kp O V,j,L,λy A l o t N m Z=>#[P,l,o,_,N,d.kp j t,m,Z,λz S e J v W E h=>?_]]];let#[c,rfl,F]:=mJ.el h;apply#[c,E.bl_inv,?_];cases c with
 | false=>show((k.kp V).kp t).kp v |>.at W (.bl ac) F
 | true=>show#[U,J,_,((as.kp O V).kp j t).kp N v,W,F,λw f b a Y n i T=>#[l,b,a,R,n,(m.kp N v).kp W Y,i,T,(((k.kp V).kp t).kp v).kp Y]]
def ZK{op p:Wh}{r g:R3}(f:bF X (Dr op) (cJ X.K r))(F:bF X (Dr p) (cJ X.K g))(T:E3 X a ta)(Y:E3 X b tb)(hc:E3 X c tc)(N:lastMarks [op,p] [b,c]=ac:=by with_unfolding_all rfl):T3 X (.Compare a [op,p] [b,c] pos) (bU (yS r g ta tb tc)):=
 (QG f F T Y hc N).weak λG H Q E=>E.el λU M R as O h k=>ZJ #[U,M,_,as,O,h,λv l w V u z av h=>by
  let#[c,rfl,r]:=mJ.el h;show#[c,av.bl_inv,k c l V u z r]]
noncomputable abbrev rR:↑W->Mm->K3->Prop
 | [.ref a],M,R=>∃bs,M a=aa (.lst (bools bs))/\R (.bl (bs.any id)) M
 | [.rl ws],M,R=>∃bs,ws=bools bs/\R (.bl (bs.any id)) M
 | _,_,_=>False
def ZL(hc:X.calm=ab):cN X (.builtin "any") (fA X.K rR):=by
 rintro C s G H xs us Q I rs ⟨ws,M,R,O,m,h,k⟩
 match ws,h with
 | [.ref a],h=>
  let#[v,rfl,av]:=m.one;obtain rfl:=av.inv;let#[bs,e,r]:=h;let#[vs,f,q]:=O.lst e;rw[q.bools]at f;show tS ab hc C s G H _ us Q I rs #[a,bs,rfl,bL.of f,k.at O (.bl _) r]
 | [.rl ws],h=>
  let#[v,rfl,av]:=m.one;let#[bs,rfl,r]:=h;cases av with
  | rl f _ q=>
   rw[q.bools]at f;show tS ab hc C s G H _ us Q I rs #[_,bs,rfl,bL.of f,k.at O (.bl _) r]
end
noncomputable def gM:Nat->↑W->↑W
 | _,[]=>[]
 | n,w::r=>.tup [.int n,w]::gM (n+1) r
theorem kK:∀{ws:↑W} {n:Nat},↥(gM n ws)=↥ws
 | [],_=>rfl
 | _::r,n=>by simp[gM,kK (ws:=r)]
theorem rS:∀{ws:↑W} {n i:Nat},(gM n ws)[i]? = (ws[i]?).map λw=>W.tup [.int ((n+i:Nat):Int),w]
 | [],_,_=>by simp[gM]
 | w::r,n,0=>by simp[gM]
 | w::r,n,i+1=>by
  rw[gM,Ek,Ek,rS];congr 2;funext w;congr 4;lia
section
variable {X:Cx}{a b c:Cm}{ta tb tc:aP}{pos:Ih}
def GP{K:Ac}{j:Hp}{s:Mm}{p:Am}{vs:↑V}{ws:↑W}{keep:Mm->Prop}(B:aJ K j s vs ws)(g:AM K j s)(st:∀H M,Kp j s H M->AM K H M->keep M->bL K H p vs):hJ K j s (xU K p vs) (gM 0 ws) keep:=by
 apply#[λi H M k O kp hi=>#[st H M k O kp,by rw[kK]at hi;rw[↥B];show hi],λH M k O kp=>#[st H M k O kp,by rw[kK,↥B];show Aj _],λi H M x l k O kp hi y=>?_];let#[f,u,C,P,rfl,rfl]:=y;let#[w,hw,av]:=(B.kp g k).getV C;let#[N,t]:=O.tup (u:=.tup [.int (i:Nat),u]) P;apply#[.tup [.int ((i:Nat):Int),w],by rw[rS,hw];simp,t,N,.tup b7 (.cons (.int _) (.cons (av.go (go_same P)) .nil))]
abbrev uV(ta:cV):gL:=λU M R=>ta U M λws I=>match ws with
 | [.rl L]=>R (gM 0 L) (λ_=>True) I
 | [.sc L]=>R (gM 0 L) (λ_=>True) I
 | [.ref p]=>∃L,I p=aa (.lst L)/\False
 | _=>False
def ZM{kx:Nat}(hg:Gl X "enumerate")(N:X.mg "enumerate" = ae)(T:A3 X [a] m)(F:Cg [a] X.env=[(ac,El a X.env)]:=by rfl):PI X (.Tuple es kx S) (.Call (.Name "enumerate" p) [a] [] pos) (fY X.K (uV m)):=
 (U1 hg N T F).weak λG H Q E=>E.el λU M R as O h k=>#[U,M,_,as,O,h,λvs B ws I V j d r=>by
  match ws,r with
  | [.rl L],r=>
   let#[v,rfl,av]:=d.one;cases av with
   | rl e n q=>show#[_,_,rfl,bL.of e,k _ _ _ _ _ V j (GP q j λH M k _ _=>bL.of (k.fr _ _ n e).1) r]
  | [.sc L],r=>
   let#[v,rfl,av]:=d.one;cases av with
   | sc e q=>show#[_,_,rfl,e.sq,k _ _ _ _ _ V j (GP q j λH M k _ _=>by
     apply kZ.sq ?_;rcases e with⟨o,e⟩|e
     .show .inl #[o,(k.fr _ _ (j.noFrz e) e).1]
     .show .inr e) r]
  | [.ref p],r=>let#[_,_,f]:=r;show f.elim]
noncomputable def i9:↑W->↑W->↑W
 | x::xs,y::ys=>.tup [x,y]::i9 xs ys
 | _,_=>[]
theorem uW:∀{xs ys:↑W},↥(i9 xs ys)=min ↥xs ↥ys
 | [],_=>by simp[i9]
 | _::_,[]=>by simp[i9]
 | _::xs,_::ys=>by simp[i9,uW (xs:=xs)]
theorem GQ:∀{xs ys:↑W} {i:Nat} {x y:W},xs[i]? = aa x->ys[i]? = aa y->(i9 xs ys)[i]? = aa (.tup [x,y])
 | [],_,_,_,_,h,_=>by simp at h
 | _::_,[],_,_,_,_,h=>by simp at h
 | _::xs,_::ys,0,_,_,h,h'=>by simp at h h';simp[i9,h,h']
 | _::xs,_::ys,i+1,_,_,h,h'=>by simpa [i9] using GQ (xs:=xs) (ys:=ys) (i:=i) (by simpa using h) (by simpa using h')
end
section
variable {X:Cx}{a b c:Cm}{ta tb tc:aP}{pos:Ih}
def ZN{K:Ac}{j:Hp}{s:Mm}{p q:Am}{vs us:↑V}{ws L:↑W}(g:AM K j s)(J:j p=aa (.tup vs))(D:j q=aa (.tup us))(A:aJ K j s vs ws)(m:aJ K j s us L):hJ K j s (t5 K p q vs us) (i9 ws L) λ_=>True:=by
 let U:∀H M,Kp j s H M->bJ K H p vs:=λH M k=>bJ.of (k.fr _ _ (g.noTup J) J).1;let d:∀H M,Kp j s H M->bJ K H q us:=λH M k=>bJ.of (k.fr _ _ (g.noTup D) D).1;apply#[λi H M k O _ hi=>#[U H M k,d H M k,?_,?_],λH M k O _=>#[U H M k,d H M k,?_],λi H M x l k O _ hi y=>?_]
 .rw[uW]at hi;rw[↥A];lia
 .rw[uW]at hi;rw[↥m];lia
 .rw[uW,↥A,↥m];lia
 .let#[f,u,v,C,c,P,rfl,rfl]:=y;let#[w,hw,av]:=(A.kp g k).getV C;let#[z,hz,E]:=(m.kp g k).getV c;let#[N,t]:=O.tup (u:=.tup [u,v]) P;show#[.tup [w,z],GQ hw hz,t,N,.tup b7 (.cons (av.go (go_same P)) (.cons (E.go (go_same P)) .nil))]
def ZO:↑W->Mm->(↑W->(Mm->Prop)->Mm->Prop)->Prop
 | [.tup xs,.tup ys],M,R=>R (i9 xs ys) (λ_=>True) M
 | _,_,_=>False
abbrev yY(ta:cV):gL:=λU M R=>ta U M λws I=>ZO ws I R
def ZP{kx:Nat}(hg:Gl X "zip")(N:X.mg "zip" = ae)(T:A3 X [a,b] m)(F:Cg [a,b] X.env=[(ac,El a X.env),(ac,El b X.env)]:=by rfl)(f:Cg [b] X.env=[(ac,El b X.env)]:=by rfl):
  PI X (.Tuple es kx S) (.Call (.Name "zip" p) [a,b] [] pos) (fY X.K (yY m)):=
 (VQ hg N T F f).weak λG H Q E=>E.el λU M R as O h k=>#[U,M,_,as,O,h,λvs B ws I V j d r=>by
  match ws,r with
  | [.tup xs,.tup ys],r=>
   let#[v,u,e,av,o]:=d.two;let#[i,x1,t,J,W]:=av.inv;let#[g,x2,c,D,n]:=o.inv;show#[i,g,_,_,by rw[e,t,c],bJ.of J,bJ.of D,k _ _ _ _ _ V j (ZN j J D W n) r]]
def GR:W->Mm->K3->Prop
 | .tup ws,M,R=>R (.rl ws.reverse) M
 | _,_,_=>False
abbrev GS(ta:aP):aP:=λU M R=>ta U M λw I=>GR w I R
def ZQ{p y pos b:Ih}(hg:Gl X "list")(N:X.mg "list" = ae)(m:Gl X "reversed")(x:X.mg "reversed" = ae)(T:E3 X a ta)(hc:X.calm=ab:=by rfl)(u:Cg [.Call (.Name "reversed" y) [a] [] b] X.env=[(ac,El (.Call (.Name "reversed" y) [a] [] b) X.env)]:=by rfl)(f:Cg [a] X.env=[(ac,El a X.env)]:=by rfl):
  E3 X (.Call (.Name "list" p) [.Call (.Name "reversed" y) [a] [] b] [] pos) (GS ta):=
 (VL hc hg N m x (n6 T pD (f.trans rfl)) u f).weak λG H Q E=>E.el λU M R as O h k=>#[U,M,λws I=>match ws with | [w]=>GR w I R|_=>False,as,O,h,λvs B ws I V j d r=>by
  match ws,r with
  | [w],r=>
   let#[v,rfl,av]:=d.one;cases av<;>first|exact Bs r|skip
   case tup a xs ws e q=>show#[a,xs,rfl,bJ.of e,λp S=>F9 j (k.kp V) S q.reverse r]]
end
section
variable {X:Cx}
def ZR:↑W->Mm->K3->Prop
 | [.dk kvs],M,R=>∃ks:↑Av,kvs.map Ck=ks.map Sum.inr/\↥ks<64/\∀ss:↑Av,ss.Perm ks->aR (ss.map W.str) M R
 | _,_,_=>False
def GU:↑W->Mm->K3->Prop
 | [.dk kvs],M,R=>∃ks:↑Av,kvs.map Ck=ks.map Sum.inr/\↥ks<64/\∀ss:↑Av,ss.Perm ks->R (.rl (ss.map W.str)) M
 | _,_,_=>False
def ZS{K:Ac}{H:Hp}{M:Mm}(ss:↑Av):aJ K H M (ss.map V.str) (ss.map W.str):=by
 induction ss with
 | nil=>show .nil
 | cons s r E=>show .cons (.str s) E
def ZT(hc:X.calm=ab):cN X (.builtin "sorted") (fA X.K ZR):=by
 rintro C s G H xs us Q I rs ⟨ws,M,R,O,m,h,k⟩
 match ws,h with
 | [.dk kvs],h=>
  let#[v,rfl,av]:=m.one;let#[ks,hk,a,r]:=h;cases av with
  | dk e n P q=>show VR hc C s G H _ us Q I rs #[_,_,ks,rfl,e,P.trans hk,a,λss S p b=>gJ O k b (ZS ss) (r ss S)]
def ZU(hc:X.calm=ab):cN X (.builtin "sorted") (fA X.K GU):=GB (ZT hc) λx M R h=>by
 match x,h with
 | [.dk kvs],#[ks,L,Z,r]=>show#[ks,L,Z,λss S=>aR.frz (r ss S)]
end
end L2
namespace PySem
namespace Dp
open L2
section
variable {prog:Be}{w:Bv}{A:Cw}{E:Ae->Ak->Prop}{s:Ak}
def ZV:Ld (.type "list") "keys" = pure ae:=by rw[Gq,Ef];kernel_rfl
def keys_miss{k:Nat}{Q:Option Ae->Ak->Prop}(hx:s.heap.get? a=aa {cls:=.type "list",data:=.seq xs k})(hA:A.handled=ae)(h:∀h' tk,(∀b o,s.heap.get? b=aa o->h'.get? b=aa o)->Q ae {s with heap:=h',toks:=tk}):Bo (Cy prog w) A (Wc (.ref a) (Cd "keys")) Q E s:=by
 let#[hp,g,d,tk,os]:=s;let hT:∀tk',(#[hp,g,d,tk',os]:Ak).TypeIs (.ref a) "list":=λ_=>#[_,hx,rfl]
 let f1:=sub_AttributeError;let f3:=Pa.lookup;let f4:=Pa.bind (.ref a);let f5:=am_list_getattr_none;unfold Wc getAttrBy? getAttrBy
 repeat (any_goals (first|assumption|exact hT _|((with_reducible change Bo _ _ (call (Value.builtin "list.__getattribute__") _ _) _ _ _);refine Lf Pa (hT _) am_entry_list_getattribute (F.args_list_getattribute_2 _ _) (meets_getattribute_miss_list a xs k #[] (Cd "keys") _ ZV (by decide +kernel) (by decide +kernel)) #[hx,hA,λh' tk' e hx'=>?_])|wp_step))
 let#[t',u',he]:=hx'.there;let hx2:=hx'.of.keeps;change Bo _ _ (Oo _ _ _ _ _ _ _) _ _ _;unfold Oo
 repeat (any_goals (first|assumption|wp_step))
 show h _ _ hx2
def entry_loop:Uo table "dict.update.loop" = aa Hk.«dict.update.loop»:=To (by kernel_rfl)
def plain_loop:plainId "dict.update.loop" = ab:=by decide +kernel
variable {K:Type}[DecidableEq K]{knd:KeyKind prog w K}
def ZW(kvs:↑(K×Ae))(k:K)(v:Ae):↥(Vm kvs k v)<=↥kvs+1:=by
 unfold Vm;split
 .rw[Ab];lia
 .rw[Ag,Bz];show Aj _
noncomputable def all(kvs:↑(K×Ae))(ps:↑(K×Ae)):↑(K×Ae):=ps.foldl (λkvs p=>Vm kvs p.1 p.2) kvs
def ZX{Dd:Nat->Dz->Prop}{R:Tp->Ak->Prop}(hh:A.handled=ae)(B:d≠I)(C:d≠l)(z:l≠I)(fr:∀{i h h'},Dd i h->(∀b o,b≠I->h.get? b=aa o->h'.get? b=aa o)->Dd i h')(st:∀{i:Nat} {t:Ak},i<items.size->Dd i t.heap->∃(a:Am) (key v:Ae),items[i]? = aa (.ref a)/\t.heap.IsTuple a [key,v].toArray/\∀{E:Ae->Ak->Prop} {Q:Unit->Ak->Prop},(∀Z tk,Dd (i+1) Z->Fb d t.heap Z->Q () {t with heap:=Z,toks:=tk})->Bo (Cy prog w) A.in1 (Wt d key v) Q E t):
  ∀(k i:Nat) (s:Ak),items.size-i=k->i<=items.size->s.heap.IsListIter I l i->s.heap.IsList l items->Dd i s.heap->
  (∀h' tk,(∀b o,b≠d->b≠I->s.heap.get? b=aa o->h'.get? b=aa o)->Dd items.size h'->R (.ok (.ret .none)) {s with heap:=h',toks:=tk})->
  Mf (Cy prog w) A (.builtin "dict.update.loop" #[[.ref d,.ref I,Hy (i:Int),.none],[]]) R s:=by
 intro k
 induction k with
 | zero=>
  intro i s hk hi hit qJ hd g;let G:i=items.size:=by lia
  apply Me entry_loop ?_;rw[Iy plain_loop _];change Bo _ A.in1 (Ij (.ref I)>>=_) _ _ s;let W:=Va (prog:=prog) (w:=w) (A:=A.in1) hh I l z items;apply Aa (W.done s _ _ (by rw[<-G];show#[hit,qJ]) λh' tk P=>?_);change Bo _ A.in1 (Builtin.Dict.addKeywords d []>>=_) _ _ _;rw[G]at hd;show Aa (Ah (Ah (g h' tk (λb o _ Y e=>P b o (by simp[Y]) e) (fr hd λb o Y e=>P b o (by simp[Y]) e))))
 | succ k N=>
  intro i s hk hi hit qJ hd g;let r:i<items.size:=by lia
  apply Me entry_loop ?_;rw[Iy plain_loop _];change Bo _ A.in1 (Ij (.ref I)>>=_) _ _ s;let W:=Va (prog:=prog) (w:=w) (A:=A.in1) hh I l z items;apply Aa (W.item i s _ _ r #[hit,qJ] λv h' tk c V P=>?_);obtain⟨a,key,u,m,⟨o,f,hc,n,U⟩,go⟩:=st (t:={s with heap:=h',toks:=tk}) r (fr hd λb o Y e=>P b o (by simp[Y]) e);rw[m]at c;cases c;change Bo _ A.in1 (Kq [Value.ref a] _>>=_) _ _ _;apply Aa (Dg (Aa (wpAny_tryCatch ?_)));unfold Builtin.Dict.pairItems;apply Aa (Ll (T:="tuple") #[o,f,hc] ?_);rw[Xb ∅];apply Aa (Fp f U (Ah ?_));change Bo _ _ (Kq [key,u] (Wt d key u)) _ _ _;apply Dg (go λZ x p D=>?_);apply Ah #[Kh plain_loop _,?_];show N (i+1) _ (by lia) r (V.1.at λo e=>(D.2 I (Ca B)).trans e) (V.2.at λo e=>(D.2 l (Ca C)).trans e) p λF y q j=>g F y (λb o L Z e=>q b o L Z ((D.2 b L).trans (P b o (by simp[Z]) e))) j
def callG{c:Nat}{Dd:Nat->Dz->Prop}{Q:Ae->Ak->Prop}(hh:A.handled=ae)(hx:s.heap.get? l=aa {cls:=.type "list",data:=.seq items c})(d0:Dd 0 (s.heap.push {cls:=.type "dict",data:=.dict #[]}))(fr:∀{i h h'},Dd i h->(∀b o,@LE.le Nat _ b ⇑s->h.get? b=aa o->h'.get? b=aa o)->Dd i h')(st:∀{i:Nat} {t:Ak},i<items.size->Dd i t.heap->(∀b o,s.heap.get? b=aa o->t.heap.get? b=aa o)->∃(a:Am) (key v:Ae),items[i]? = aa (.ref a)/\s.heap.IsTuple a [key,v].toArray/\∀{E:Ae->Ak->Prop} {Q:Unit->Ak->Prop},(∀h2 tk,Dd (i+1) h2->Fb ⇑s t.heap h2->Q () {t with heap:=h2,toks:=tk})->Bo (Cy prog w) A.in1.in1 (Wt ⇑s key v) Q E t)(h:∀h' tk,(∀b o,s.heap.get? b=aa o->h'.get? b=aa o)->Dd items.size h'->Q (.ref ⇑s) {s with heap:=h',toks:=tk}):
  Bo (Cy prog w) A (call (.type "dict") [.ref l]) Q E s:=by
 apply Rb (Q₁:=λobj s1=>obj=.ref ⇑s/\s1 = {s with heap:=s.heap.push {cls:=.type "dict",data:=.dict #[]}}) F.kt_called_dict (F.kt_typeCall_dict_1 _) F.entry_dict_init (kt_code_dict_new _ #[rfl,rfl]) ?_;rintro obj s1 ⟨rfl,rfl⟩;let lt:l<⇑s:=Ba hx;let hx':(s.heap.push {cls:=.type "dict",data:=.dict #[]}).get? l=aa {cls:=.type "list",data:=.seq items c}:=Af _ hx;let hty:({s with heap:=s.heap.push {cls:=.type "dict",data:=.dict #[]}}:Ak).TypeIs (.ref ⇑s) "dict":=#[_,Aw _ rfl,rfl];apply#[hty,F.args_dict_init_2 _ _,?_];unfold Hk.«dict.__init__»;apply Aa ?_;unfold Builtin.Dict.selfAndRest;apply Aa (Hu hty ?_);change Bo _ _ (pure (⇑s,[Value.ref l])) _ _ _;apply Ah ?_;change Bo _ _ (Ko "dict.__init__" ⇑s (.ref l) [] .none) _ _ _;unfold Ko;apply Aa (Ll (T:="list") #[_,hx',rfl] ?_);rw[Xb ∅];apply Aa (keys_miss hx' hh λh1 tk1 hk1=>?_);rw[Xb ∅];let hx1:=hk1 _ _ hx';let l1:⇑s<h1.objs.size:=Ba (hk1 _ _ (Aw _ rfl));apply Aa (Ic (Aa (Mx (items:=items) #[_,hx1,rfl,c,rfl] ?_)));let gI:(h1.push {cls:=.type "list_iterator",data:=.fields [.ref l,.int 0 0].toArray}).IsListIter h1.objs.size l 0:=#[_,Aw _ rfl,rfl,rfl];let up:∀b o,s.heap.get? b=aa o->(h1.push {cls:=.type "list_iterator",data:=.fields [.ref l,.int 0 0].toArray}).get? b=aa o:=λb o e=>Af _ (hk1 b o (Af _ e));let nI:∀{b:Am},@LE.le Nat _ b ⇑s->b≠h1.objs.size:=λhb=>Bl (Gz hb l1);apply Ah #[Kh plain_loop _,?_];apply ZX (A:=A.in1) (d:=⇑s) (I:=h1.objs.size) (l:=l) (items:=items) (Dd:=λi h=>Dd i h/\∀b o,s.heap.get? b=aa o->h.get? b=aa o) hh (Bl l1) (Co lt) (Bl (Gm lt l1)) (λ#[z1,z2] hm=>#[fr z1 λb o hb e=>hm b o (nI hb) e,λb o e=>hm b o (nI (Ie (Ba e))) (z2 b o e)]) (λhi #[z1,z2]=>?_) items.size 0 _ rfl (Cr _) gI #[_,Af _ hx1,rfl,c,rfl] #[fr d0 λb o _ e=>Af _ (hk1 b o e),up] λh2 tk2 _ hd2=>#[rfl,h h2 tk2 hd2.2 hd2.1]
 obtain⟨a,key,v,g1,⟨o,g2,g3⟩,go⟩:=st hi z1 z2;show#[a,key,v,g1,#[o,z2 a o g2,g3],λk=>go λh2 tk z hs=>k h2 tk #[z,λb o e=>(hs.2 b (Bl (Ba e))).trans (z2 b o e)] hs]
def take_at{q:Type}{ps:↑q}{i:Nat}{p:q}(h:ps[i]? = aa p):ps.take (i+1)=ps.take i++[p]:=by rw[Ce,h];rfl
def ZY(ps:↑(K×Ae)):∀kvs,↥(all kvs ps)<=↥kvs+↥ps:=by
 induction ps with
 | nil=>show λ_=>Aj _
 | cons p ps E=>show λkvs=>Ar (E _) (by have:=ZW kvs p.1 p.2;rw[Bq];lia)
def call_pairs{l:Am}{items:Array Ae}{c:Nat}{ps:↑(K×Ae)}{Q:Ae->Ak->Prop}(hh:A.handled=ae)(hx:s.heap.get? l=aa {cls:=.type "list",data:=.seq items c})(hn:↥ps=items.size)(hz:items.size<=Ap)(hp:∀(j:Nat) (p:K×Ae),ps[j]? = aa p->∃(a:Am) (key:Ae),items[j]? = aa (.ref a)/\s.heap.IsTuple a [key,p.2].toArray/\knd.is p.1 key=ab)(h:∀h' tk,(∀b o,s.heap.get? b=aa o->h'.get? b=aa o)->h'.DictOf knd ⇑s (all [] ps)->Q (.ref ⇑s) {s with heap:=h',toks:=tk}):
  Bo (Cy prog w) A (call (.type "dict") [.ref l]) Q E s:=by
 apply callG (Dd:=λi h=>h.DictOf knd ⇑s (all [] (ps.take i))) hh hx (Heap.DictOf.new s.heap) (λ#[o,es,ep,ho,rest] hm=>#[o,es,ep,hm _ o (Aj _) ho,rest]) (λ{i t} hi hd _=>?_) λh' tk e d=>h h' tk e (by rw[<-hn,Cb]at d;show d);obtain⟨p,hpi⟩:∃p,ps[i]? = aa p:=#[_,Bj (by lia)];let#[a,key,g1,g2,g3]:=hp i p hpi;let len:=ZY (ps.take i) [];rw[Dc,Ju]at len;apply#[a,key,p.2,g1,g2,λk=>wpAny_dictSet_pairs g3 hd (λh2 d2 s2=>k h2 _ ?_ s2) (by lia)];rw[take_at hpi,all,Mi];show d2
end
end Dp
end PySem
namespace L2
section
variable {X:Cx}
noncomputable def jY(kvs:↑(aC×W))(ps:↑(aC×W)):↑(aC×W):=ps.foldl (λkvs p=>bW kvs p.1 p.2) kvs
noncomputable def oC(ps:↑(aC×W)):↑W:=ps.map λp=>.tup [wK p.1,p.2]
def yZ:↑W->Mm->K3->Prop
 | [.rl ws],M,R=>∃ps:↑(aC×W),ws=oC ps/\↥ws<=Ap/\i4 (jY [] ps) M R
 | _,_,_=>False
theorem y0(I:L2.Inv X af Z H s):∀{ps:↑(aC×W)} {vs:↑V} {its:↑Ae},aJ X.K H M vs (oC ps)->aY vs its->
  ∃(ks:↑(aC×V)) (rs:↑(aC×Ae)),bR X.K H M aC ks ps/\KV ks rs/\↥rs=↥its/\
   ∀(j:Nat) (p:aC×Ae),rs[j]? = aa p->∃(a:Am) (key:Ae),its[j]? = aa (.ref a)/\s.heap.IsTuple a [key,p.2].toArray/\(bT X.prog X.w).is p.1 key=ab
 | [],_,_,.nil,.nil=>#[[],[],.nil,.nil,rfl,λj p h=>by simp at h]
 | (k,w)::ps,_,_,.cons av c,.cons R l=>by
  let#[ks,rs,L,U,F,T]:=y0 I c l;let#[a,xs,ev,e,q]:=av.inv;rw[ev]at R;let#[Y,o,ex,f,g]:=q.two;let#[t,m,pl,_]:=I.tuple (bJ.of e);rw[ex,f.key]at m;let#[P,d,B,x1,x2]:=vals2 m;rw[B]at pl;apply#[(k,o)::ks,(k,d)::rs,.cons #[rfl,g] L,.cons #[rfl,x2] U,congrArg (· + 1) F,λj p hj=>?_];cases j with
  | zero=>rw[<-Cj hj];show#[a,P,congrArg aa R,pl,jM x1]
  | succ j=>show T j p hj
def GV(h:bR X.K H M aC ks ps):∀{rs:↑(aC×Ae)} {kvs:↑(aC×W)} {g:↑(aC×V)} {us:↑(aC×Ae)},KV ks rs->bR X.K H M aC g kvs->KV g us->
  ∃c:↑(aC×V),bR X.K H M aC c (jY kvs ps)/\KV c (Dp.all us rs)/\↥c<=↥g+↥ps:=by
 induction h with
 | nil=>
  intro rs kvs g us B L Z;cases B;show#[g,L,Z,Aj _]
 | @cons a p ks ps x r E=>
  intro rs kvs g us B L Z;cases B with
  | @cons _ b _ rs y t=>
   let#[k,w]:=p;let#[i,v]:=a;let#[Y,u]:=b;let#[x1,x2]:=x;let#[m,d]:=y;cases x1;cases m;let#[c,I,G,f]:=E (kvs:=bW _ k w) t (rJ L k x2) (Z.put k d);have:=oV g k v;show#[c,I,G,by simp at f⊢;lia]
def ZZ(hc:X.calm=ab):cN X (.type "dict") (fA X.K yZ):=by
 rintro af s Z H xs us Q I rs ⟨ws,M,R,O,m,h,k⟩
 match ws,h with
 | [.rl ws],h=>
  let#[v,rfl,av]:=m.one;let#[ps,rfl,hz,r]:=h;let#[u,rfl,ru]:=vals1 rs;cases av with
  | rl f n q=>
   cases ru;let#[z,its,c,U,hl,e]:=I.lstM f;let#[ks,a,L,Y,F,T]:=y0 I q U;let#[g,J,G,l]:=GV L Y .nil .nil;apply Dp.call_pairs (knd:=bT X.prog X.w) (items:=its.toArray) (ps:=a) (I.ok.hd hc) e (by simpa using F) (by rw[Bg];lia) (λj p hj=>by simpa using T j p hj) λh' tk hk hd=>?_;let E:↥ps<=Ap:=by simpa [oC] using hz
   let d:=I.hok.fresh (Aj _);apply#[.ref ⇑s,aL H ⇑s (.dK g),I.laid (o:=.dK g) (t':=tk) hk (Aj _) #[by simp at l;lia,beq_eq_false_iff_ne.mpr (Ca (Bl I.big)),_,G,hd],rfl,?_];let#[N,t]:=O.laid (o:=.dK (jY [] ps)) (u:=.dK g) d #[g,b7,pkv_new d J];show k _ _ _ _ t N (.ref _) (r _ (O.nonM d))
where
 pkv_new:∀{H:Hp} {M:Mm} {p:Am} {ks g:↑(aC×V)} {kvs b:↑(aC×W)},H p=ae->bR X.K H M aC ks kvs->bR X.K (aL H p (.dK g)) (put M p (.dK b)) aC ks kvs:=λS h=>nZ h.keys (h.vals.newL S)
def GW:↑W->Mm->K3->Prop
 | [.rl ws],M,R=>∃ps:↑(aC×W),ws=oC ps/\↥ws<=Ap/\R (.dk (jY [] ps)) M
 | _,_,_=>False
def Z0(hc:X.calm=ab):cN X (.type "dict") (fA X.K GW):=by
 rintro af s Z H xs us Q I rs ⟨ws,M,R,O,m,h,k⟩
 match ws,h with
 | [.rl ws],h=>
  let#[v,rfl,av]:=m.one;let#[ps,rfl,hz,r]:=h;let#[u,rfl,ru]:=vals1 rs;cases av with
  | rl f n q=>
   cases ru;let#[z,its,c,U,hl,e]:=I.lstM f;let#[ks,a,L,Y,F,T]:=y0 I q U;let#[g,J,G,l]:=GV L Y .nil .nil;apply Dp.call_pairs (knd:=bT X.prog X.w) (items:=its.toArray) (ps:=a) (I.ok.hd hc) e (by simpa using F) (by rw[Bg];lia) (λj p hj=>by simpa using T j p hj) λh' tk hk hd=>?_;let E:↥ps<=Ap:=by simpa [oC] using hz
   let d:=I.hok.fresh (Aj _);apply#[.ref ⇑s,aL H ⇑s (.dK g),I.laid (o:=.dK g) (t':=tk) hk (Aj _) #[by simp at l;lia,beq_eq_false_iff_ne.mpr (Ca (Bl I.big)),_,G,hd],rfl,?_];let#[N,t]:=O.tup (u:=.dK g) d;show k _ _ _ _ t N (.dk b7 (O.nonM d) J.keys (J.vals.newT d)) r
end
noncomputable def d9(f:Av)(w:W):↑(Av×W)->↑(Av×W)
 | []=>[(f,w)]
 | (k,x)::r=>if k=f then(k,w)::r else(k,x)::d9 f w r
section
variable {K:Ac}{H:Hp}{M:Mm}
def bR.look(p:bR K H M Av i fs)(h:fs.lookup f=aa w):∃v,i.lookup f=aa v/\AV K H M v w:=by
 induction p with
 | nil=>cases h
 | @cons a b _ _ r t E=>
  let#[k,v]:=a;let#[u,J]:=b;let#[rfl,av]:=r
  by_cases hk:(f==k)=ab
  .simp only[Cq,hk]at h⊢;cases h;show#[v,rfl,av]
  .let q:(f==k)=ac:=by simpa using hk
   simp only[Cq,q]at h⊢;show E h
def bR.lookN(p:bR K H M Av i fs)(h:fs.lookup f=ae):i.lookup f=ae:=by
 induction p with
 | nil=>rfl
 | @cons a b _ _ r t E=>
  let#[k,v]:=a;let#[u,J]:=b;let#[rfl,av]:=r
  by_cases hk:(f==k)=ab
  .simp only[Cq,hk]at h;cases h
  .let q:(f==k)=ac:=by simpa using hk
   simp only[Cq,q]at h⊢;show E h
def bR.putF{f:Av}{v:V}{w:W}(av:AV K H M v w){i:↑(Av×V)}{fs:↑(Av×W)}(p:bR K H M Av i fs):bR K H M Av (L2.putF f v i) (d9 f w fs):=by
 induction p with
 | nil=>show .cons #[rfl,av] .nil
 | @cons a b _ _ r t E=>
  let#[k,P]:=a;let#[u,J]:=b;let#[rfl,j]:=r;change bR K H M Av (if k=f then(k,v)::_ else(k,P)::L2.putF f v _) (if k=f then(k,w)::_ else(k,J)::d9 f w _)
  by_cases hk:k=f
  .rw[Xb hk,Xb hk];show .cons #[rfl,av] t
  .rw[Xa hk,Xa hk];show .cons #[rfl,j] E
def bR.len{b:Type}{i:↑(b×V)}{fs:↑(b×W)}(h:bR K H M b i fs):↥i=↥fs:=by
 have:=congrArg Jc h.keys;simpa using this
end
section
variable {X:Cx}{C:Am}{f m:Av}{pos apos cpos:Ih}{ta tv:aP}{o e value:Cm}{es:↑Cm}{t:cV}{sp:a8}
abbrev cY(C:Am)(ta:aP)(f:Av):aP:=λU M R=>ta U M λx I=>∃a s fs w,x=.ref a/\I a=aa (.ins C s fs)/\fs.lookup f=aa w/\R w I
def Z1(c:gD X.K C)(n:fH X.K C f)(m:E3 X o ta)(Y:Hs o f X.env (El o X.env)=El o X.env:=by rfl):E3 X (.Attribute o f pos) (cY C ta f):=
 (QY m Y).weak λZ H Q E=>E.el λU M R as O h k=>#[U,M,_,as,O,h,λx B P I V j d E=>by
  let#[a,s,fs,w,J,D,W,r]:=E;subst J;obtain rfl:=d.inv;let#[i,L,q]:=j a _ D;let#[v,l,av]:=q.look W;show#[a,C,s,i,v,rfl,L,c,n,l,k _ _ _ _ V j av r]]
abbrev iQ(C:Am)(ta:aP)(f:Av)(tv:aP):aE:=λD U M=>tv U M λy I=>ta U I λx G=>∃a s fs,x=.ref a/\G a=aa (.ins C s fs)/\↥fs<1000/\D.nx U (put G a (.ins C s (d9 f y fs)))
def Z2(c:gD X.K C)(n:fH X.K C f)(T:E3 X o ta)(g:E3 X value tv)(F:Oh value (aa (.Attribute o f apos)) pos.line X.env=pure ac:=by rfl):P3 X (.Assign [.Attribute o f apos] value pos) (iQ C ta f tv):=
 (QZ T g F).weak λD Z H E=>E.el λU M Q as O h k=>#[U,M,_,as,O,h,λy B l I V j m L=>#[U,I,_,as.kp O V,j,L,λx Y P G t N d E=>by
  let#[a,s,fs,J,A,hl,r]:=E;subst J;obtain rfl:=d.inv;let#[i,S,q]:=N a _ A;apply#[a,C,s,i,rfl,S,c,n,by rw[q.len];show hl,?_];let#[W,v]:=N.write (o:=.ins C s (d9 f l fs)) (u:=.ins C s (L2.putF f y i)) A #[_,b7,((q.putF (m.kp j t))).go (n4 N A)];show k.nx _ _ _ _ ((V.trans t).trans v) W (((as.kp O V).kp j t).kp N v) r]]
variable {k:Nat}{g:Am}{fd:Fs}{ps:↑Av}
abbrev eA(C:Am)(m:Av)(sp:a8)(ta:aP)(t:cV):aP:=λU M R=>ta U M λx I=>∃a s fs,x=.ref a/\I a=aa (.ins C s fs)/\fs.lookup m=ae/\t U I λws G=>sp (.ref a::ws) G R
def Z3(h:up X.K (eA C m sp ta t) Z H Q):w9 C m (fS X.K sp) [] E0 (up X.K ta) (pB X.K t) Z H Q:=by
 let#[U,M,R,as,O,h,k]:=h;apply#[U,M,_,as,O,h,λx B P I V j d E=>?_];let#[a,s,fs,J,D,l,L]:=E;subst J;obtain rfl:=d.inv;let#[i,S,q]:=j a _ D;apply#[a,s,i,rfl,S,q.lookN l,U,I,_,as.kp O V,j,L,λvs w ws G Y N c W=>#[.ref a::ws,G,R,N,?_,W,k.kp (V.trans Y)]];rw[Bn];show .cons (.ref a) c
def oE(c:gD X.K C)(N:oU X.K C m g)(F:X.f eW k g fd ps (fS X.K sp))(G:cI k X.A)(Y:Binds X.K fd ps [])(d:E3 X o ta)(T:A3 X (e::es) t)(V:Se X e es:=by rfl)(y:Sb X pos es:=by rfl)(ht:El (.Call (.Attribute o m apos) (e::es) [] pos) X.env=(do
   let p <-El o X.env
   Ri apos.atName
   let (f,first) <-Kq [p] (Rj p m pl)
   We pos f first (Nx pos (Cg (e::es) X.env)) (Pr pos (Mq [] X.env))):=by rfl):
  E3 X (.Call (.Attribute o m apos) (e::es) [] pos) (eA C m sp ta t):=(RB (pl:=pl) d c N F G Y .nil oW T V y ht).weak λ_ _ _ h=>Z3 h
def uX(c:gD X.K C)(N:oU X.K C m g)(F:X.f eW k g fd ps (fS X.K sp))(G:cI k X.A)(Y:Binds X.K fd ps [])(d:E3 X o ta)(ht:El (.Call (.Attribute o m apos) [] [] pos) X.env=(do
   let p <-El o X.env
   Ri apos.atName
   let (f,first) <-Kq [p] (Rj p m pl)
   We pos f first (Nx pos (Cg [] X.env)) (Pr pos (Mq [] X.env))):=by rfl):
  E3 X (.Call (.Attribute o m apos) [] [] pos) (eA C m sp ta aB):=(RC (pl:=pl) d c N F G Y .nil oW ht).weak λZ H Q h=>by
 let#[U,M,R,as,O,h,k]:=h;apply#[U,M,_,as,O,h,λx B P I V j E z=>?_];let#[a,s,fs,J,D,W,L]:=z;subst J;obtain rfl:=E.inv;let#[i,S,q]:=j a _ D;show#[a,s,i,rfl,S,q.lookN W,[.ref a],I,R,j,.cons (.ref a) .nil,L,k.kp V]
abbrev lL(C:Am)(sp:a8)(t:cV):aP:=λU M R=>t U M λws I=>∀a s,I a=ae->I s=ae->s≠a->sp (.ref a::ws) (put I a (.ins C s [])) λw G=>w=.non/\R (.ref a) G
def AM.made{K:Ac}{H:Hp}{M:Mm}{x s:Am}(O:AM K H M)(B:H x=ae)(hd:H s=ae)(ne:s≠x):AM K (aL (aL H s (.own x)) x (.ins C s [])) (put M x (.ins C s []))/\Kp H M (aL (aL H s (.own x)) x (.ins C s [])) (put M x (.ins C s [])):=by
 let#[j,V]:=O.tup (u:=.own x) hd;let n:aL H s (.own x) x=ae:=by rw[bD (Ca ne)];show B
 let#[N,t]:=j.laid (o:=.ins C s []) (u:=.ins C s []) n #[[],b7,.nil];show#[N,V.trans t]
def GX(O:AM X.K H M)(c:aJ X.K H M vs ws)(h:∀a s,M a=ae->M s=ae->s≠a->sp (.ref a::ws) (put M a (.ins C s [])) λw G=>w=.non/\R (.ref a) G)(k:Up X.K H M R Q):
  ∀x s,H x=ae->H s=ae->s≠x->fS X.K sp (.ref x::(vs++[])) (aL (aL H s (.own x)) x (.ins C s [])) (λv L=>v=.non/\Q (.ref x) L) E0:=by
 intro x s B hd ne;let#[j,i]:=O.made (C:=C) B hd ne;apply#[.ref x::ws,_,_,j,?_,h x s (O.nonM B) (O.nonM hd) ne,λv L w G t N av r=>?_]
 .rw[Bn];show .cons (.ref x) (c.kp O i)
 .let#[rfl,r]:=r;obtain rfl:=av.inv;show#[rfl,k _ _ _ _ (i.trans t) N (.ref x) r]
def Z4(M:Mk X.K C g)(F:X.f eW k g fd ps (fS X.K sp))(G:cI (k+1) X.A)(hg:Gl X x)(N:X.mg x=aa (.ref C))(Y:Binds X.K fd ps [])(T:A3 X (e::es) t)(i:Db x:=by decide)(m:Se X e es:=by rfl)(y:Sb X pos es:=by rfl):
  E3 X (.Call (.Name x p) (e::es) [] pos) (lL C sp t):=(RD M F G hg N Y .nil oW T i m y).weak λZ H Q E=>E.el λU M R as O h k=>#[U,M,_,as,O,h,λvs B ws I V j c L=>GX j c L (k.kp V)]
def GY(M:Mk X.K C g)(F:X.f eW k g fd ps (fS X.K sp))(G:cI (k+1) X.A)(hg:Gl X x)(N:X.mg x=aa (.ref C))(Y:Binds X.K fd ps [])(i:Db x:=by decide):E3 X (.Call (.Name x p) [] [] pos) (lL C sp aB):=(RE M F G hg N Y .nil oW i).weak λZ H Q E=>E.el λU M R as O h k=>GX O .nil h k
end
section
variable {prog:Be}{w:Bv}{K:Type}[DecidableEq K]{knd:HeapKind prog w K}{A:Cw}{E:Ae->Ak->Prop}{s:Ak}{d a:Am}{k:K}{xs:↑(K×Am×Ae)}
def GZ{Q:Ae->Ak->Prop}(C:knd.room A)(u:knd.is s.heap k a)(N:s.heap.DictOfH knd d xs)(hsz:↥xs<=Ap)(L:∀p,Ng xs k=aa p->Q p.2 {s with toks:=s.toks+knd.draws k})(Z:Ng xs k=ae->∀h',h'.DictOfH knd d (Od xs k a y)->Fb d s.heap h'->Q y {s with heap:=h',toks:=s.toks+knd.draws k}):
  Bo (Cy prog w) A (dictSetDefault d (.ref a) y) Q E s:=by
 let#[o,es,ep,f,hc,hd,m,X,P]:=N;unfold dictSetDefault;apply Dg (Aa (knd.pyHash C u (Aa (wpAny_dictFind_heap (s:={s with toks:=s.toks+knd.draws k}) C u f hd m X P (λg=>?_) λj p hj=>?_))))
 .let hk:=atKey_none_of_get g;let b:k∉xs.map (·.1):=not_mem_keys_of_get g;apply Aa (Ic (Aa (wpAny_updateDictKeys (hz:=by let e:=Md m;lia) (s:={s with toks:=s.toks+knd.draws k}) f hd (Ah (Z hk _ #[_,_,ep+1,Ew _ f (Obj.isFreed_of_dict (Nf hd _)),
   hc.mapDictKeys _,Nf hd _,?_,λx B=>?_,?_] (Ha ..))))))
  .rw[Tu hk];simp[m,So]
  .rw[Tu hk]at B;rcases Bb.mp B with q|q
   .show knd.keeps (X x q) f hd (Ha ..)
   .obtain rfl:=Ai.mp q;show knd.keeps u f hd (Ha ..)
  .rw[Tu hk,Ay,Er];apply#[P,by simp,λx B y O=>?_];simp only[Bi,Np,Ai]at O;subst O;show λe=>b (e▸B)
 .apply Aa (Jh (s:={s with toks:=s.toks+knd.draws k}) f hd ?_);rw[Um m j,hj];show Aa (Ic (Ah (L p (atKey_of_get P hj))))
theorem G0:∀{xs:↑(K×Am×Ae)} {j:Nat} {p:Am×Ae},(xs.map (·.1)).Nodup->xs[j]? = aa (k,p)->xs.eraseIdx j=xs.filter λx=>decide (x.1≠k)
 | [],j,p,_,h=>by simp at h
 | x::r,0,p,P,h=>by
  let e:x=(k,p):=by simpa using h
  subst e;rw[Bi,Cp]at P;rw[List.eraseIdx_zero,List.tail_cons,List.filter_cons_of_neg (by simp)];apply(List.filter_eq_self.mpr λy O=>?_).symm;rw[decide_eq_true_eq];show λe=>P.1 (Ao.mpr #[y,O,e])
 | x::r,j+1,p,P,h=>by
  rw[Bi,Cp]at P;let hj:r[j]? = aa (k,p):=by simpa using h
  let B:x.1≠k:=λe=>P.1 (Ao.mpr #[(k,p),Au hj,e.symm]);rw[List.eraseIdx_cons_succ,G0 P.2 hj,List.filter_cons_of_pos (by simpa using B)]
def Z5{v:Ae}{b:Am}{Q:Option Eu->Ak->Prop}(C:knd.room A)(u:knd.is s.heap k a)(N:s.heap.DictOfH knd d xs)(hsz:↥xs<=Ap)(c:Ng xs k=aa (b,v))(h:∀h',h'.DictOfH knd d (xs.filter λx=>decide (x.1≠k))->Fb d s.heap h'->Q (aa #[knd.hash k,.ref b,v]) {s with heap:=h',toks:=s.toks+knd.draws k}):
  Bo (Cy prog w) A (Builtin.Dict.takeOut d (.ref a)) Q E s:=by
 let#[o,es,ep,f,hc,hd,m,X,P]:=N;unfold Builtin.Dict.takeOut;apply Dg (Aa (knd.pyHash C u (Aa (wpAny_dictFind_heap (s:={s with toks:=s.toks+knd.draws k}) C u f hd m X P (λg=>?_) λj p hj=>?_))))
 .rw[atKey_none_of_get g]at c;cases c
 .rw[atKey_of_get P hj]at c;cases c;let i:=G0 P hj;apply Aa (Jh (s:={s with toks:=s.toks+knd.draws k}) f hd ?_);rw[Um m j,hj];apply Aa (wpAny_updateDictKeys (hz:=by let e:=Md m;lia) (s:={s with toks:=s.toks+knd.draws k}) f hd (Ah (h _ #[_,_,ep+1,Ew _ f (Obj.isFreed_of_dict (Nf hd _)),
   hc.mapDictKeys _,Nf hd _,?_,λx B=>knd.keeps (X x (Gb.mp B).1) f hd (Ha ..),?_] (Ha ..))))
  .rw[<-i];let D:(xs.eraseIdx j).map (So knd)=(xs.map (So knd)).eraseIdx j:=by simp[List.eraseIdx_eq_take_drop_succ,Tv,Tw]
   rw[D,<-m];let#[l]:=es;simp
  .show P.sublist (Qq.map _)
end
section
variable {X:Cx}{af:Pn}{Z:St}{H:Hp}{s:Ak}{a b:Am}{v:V}{r:Ae}{A:Cw}{E:Ae->Ak->Prop}{kvs:↑(↑aC×V)}{k:↑aC}
def KT.drop(i:KT H kvs xs)(k:↑aC):KT H (nU kvs k) (xs.filter λx=>decide (x.1≠k)):=by
 induction i with
 | nil=>show .nil
 | @cons p q ps qs h t E=>
  unfold nU at E⊢;rw[Ec,Ec,<-h.1];split
  .show .cons h E
  .show E
def Z6{Q:Ae->Ak->Prop}(C:A.units+1<Fu)(I:Inv X af Z H s)(e:H a=aa (.dT kvs))(D:H b=aa (.tup (k.map kV)))(d:RelV v r)(hl:↥kvs<Ap)(L:∀T J j,fW kvs k=aa T->Inv X af Z H j->RelV T J->Q J j)(F:fW kvs k=ae->∀j,Inv X af Z (aL H a (.dT (dZ kvs k v))) j->Q r j):
  Bo X.m A (call (.builtin "dict.setdefault") [.ref a,.ref b,r]) Q E s:=by
 let#[z,hd,xs,i,x]:=qS I.hok e;let hz:↥xs<=Ap:=by rw[<-Ea i];show z
 let g:=i.val k;apply Kb Nb x.typeIs PySem.F.entry_dict_setdefault (PySem.F.args_dict_setdefault_3 _ _ _)
  (S:=λA R U=>(Ib (bT X.prog X.w)).room A.in1/\(Ib (bT X.prog X.w)).is U.heap k b/\U.heap.DictOfH (Ib (bT X.prog X.w)) a xs/\
   (∀p,Ng xs k=aa p->R (.ok (.ret p.2)) {U with toks:=U.toks+(↥k+1)})/\
   (Ng xs k=ae->∀h',h'.DictOfH (Ib (bT X.prog X.w)) a (Od xs k b r)->Fb a U.heap h'->R (.ok (.ret r)) {U with heap:=h',toks:=U.toks+(↥k+1)}))
  (.of_wp λA R U #[B,W,n,O,Y]=>?_) #[Gh C,iL I.hok D,x,λp N=>?_,λP h' V l=>?_]
 .unfold Hk.«dict.setdefault»;apply Aa ?_;unfold Mw;apply Aa (Hu n.typeIs ?_);apply Ah ?_;dsimp only;rw[Xa (by rw[hd];show Bc)];show Aa (GZ B W n hz (λp N=>Ah #[_,rfl,O p N]) λP h' y u=>Ah #[_,rfl,Y P h' y u])
 .rw[N]at g;cases q:fW kvs k with
  | none=>rw[q]at g;show Bs g
  | some T=>rw[q]at g;show L T _ _ q (I.tok _) g
 .rw[P]at g;let q:fW kvs k=ae:=by
   cases q:fW kvs k with
   | none=>rfl
   | some T=>rw[q]at g;show Bs g
  let h:↥(dZ kvs k v)<=Ap:=by have:=oV kvs k v;lia
  let#[W,es,ep,hq,G,f,t,_,M]:=V;apply F q _ (nW (t':=s.toks+(↥k+1)) I (by rw[e];show True.intro) l #[W,hq] #[h,hd,_,(i.put k D d).keeps λc ys K=>?_,W,es,ep,hq,G,f,t,M]);rw[bD (sS K e (λz=>nomatch z))];show K
def Z7{Q:Ae->Ak->Prop}(C:A.units+1<Fu)(I:Inv X af Z H s)(e:H a=aa (.dT kvs))(D:H b=aa (.tup (k.map kV)))(l:fW kvs k=aa v)(h:∀J j,Inv X af Z (aL H a (.dT (nU kvs k))) j->RelV v J->Q J j):Bo X.m A (call (.builtin "dict.pop") [.ref a,.ref b]) Q E s:=by
 let#[z,hd,xs,i,M]:=qS I.hok e;let hz:↥xs<=Ap:=by rw[<-Ea i];show z
 let#[J,hw,V]:=fM.some_of (v:=v) (o:=(Ng xs k).map (·.2)) (by rw[<-l];show i.val k);obtain⟨⟨c,w2⟩,hc,rfl⟩:=Bd.mp hw;apply Kb PySem.F.slot_dict_pop M.typeIs PySem.F.entry_dict_pop (PySem.F.args_dict_pop_2 _ _)
  (S:=λA R U=>(Ib (bT X.prog X.w)).room A.in1/\(Ib (bT X.prog X.w)).is U.heap k b/\U.heap.DictOfH (Ib (bT X.prog X.w)) a xs/\
   ∀h',h'.DictOfH (Ib (bT X.prog X.w)) a (xs.filter λx=>decide (x.1≠k))->Fb a U.heap h'->R (.ok (.ret w2)) {U with heap:=h',toks:=U.toks+(↥k+1)})
  (.of_wp λA R U #[B,W,n,F]=>?_) #[Gh C,iL I.hok D,M,λh' p O=>?_]
 .unfold Hk.«dict.pop»;apply Aa ?_;unfold Mw;apply Aa (Hu n.typeIs ?_);apply Ah ?_;dsimp only;rw[Xa (show ¬((keyPart (Value.ref b)).isSome=ab) from Bc)];let#[o,es,ep,f,hc',g,d,Y,P]:=id n;let N:es.isEmpty=ac:=by
   let L:=Md d;cases xs with
   | nil=>cases hc
   | cons x r=>rw[Array.isEmpty_eq_false_iff];intro z;rw[z]at L;simp at L
  apply Aa (Jh f g ?_);apply Aa (Ah ?_);rw[N,Xa Bc];apply Aa (Z5 B W n hz hc λh' y u=>?_);rw[Xa (by simp)];show Aa (Pc (Ah #[_,rfl,F h' y u]))
 .let#[W,es,ep,hq,G,T,t,_,q]:=p;apply h w2 _ (nW (t':=s.toks+(↥k+1)) I (by rw[e];show True.intro) O #[W,hq] #[Ar (TB kvs k) z,hd,_,(i.drop k).keeps λc ys K=>?_,W,es,ep,hq,G,T,t,q]) V;rw[bD (sS K e (λz=>nomatch z))];show K
end
section
variable {X:Cx}
def uY:W->↑W->Mm->K3->Prop
 | d,[y],M,R=>∃o,eY M d y o/\R (o.getD .non) M
 | d,[y,v],M,R=>∃o,eY M d y o/\R (o.getD v) M
 | _,_,_,_=>False
def Z8(C:X.A.units+1<Fu):fQ X "dict.get" (jQ X.K uY):=by
 rintro af s Z H x xs v us Q I S rs ⟨P,ws,M,R,O,d,m,h,k⟩
 match ws,h with
 | [y],h=>
  let#[z,rfl,E]:=m.one;let#[o,g,r]:=h;let#[a,rfl,G]:=uF O d E g;cases S;let#[u,rfl,ru]:=rs.one;rcases G with⟨rfl,f⟩|⟨T,t,rfl,f,av⟩
  .show DN C I f ru λJ j c V=>#[_,H,c,V,k.at O .non r]
  .show DN C I f ru λJ j c V=>#[_,H,c,V,k.at O av r]
 | [y,q],h=>
  let#[z,Y,rfl,E,U]:=m.two;let#[o,g,r]:=h;let#[a,rfl,G]:=uF O d E g;cases S;let#[u,N,rfl,ru,l]:=vals2 rs;rcases G with⟨rfl,f⟩|⟨T,t,rfl,f,av⟩
  .show DO C I f ru l λJ j c V=>#[_,H,c,V,k.at O U r]
  .show DO C I f ru l λJ j c V=>#[_,H,c,V,k.at O av r]
def pN:W->↑W->Mm->K3->Prop
 | .ref a,[.tup ks,v],M,R=>∃kvs k,M a=aa (.dT kvs)/\ks=k.map wK/\↥kvs<Ap/\(∀w,aM kvs k=aa w->R w M)/\(aM kvs k=ae->R v (put M a (.dT (bW kvs k v))))
 | _,_,_,_=>False
def Z9(C:X.A.units+1<Fu):fQ X "dict.setdefault" (jQ X.K pN):=by
 rintro af s Z H x xs v us Q I S rs ⟨P,ws,M,R,O,d,m,h,k⟩
 match P,ws,h with
 | .ref a,[.tup ks,G],h=>
  let#[z,Y,rfl,E,U]:=m.two;let#[kvs,n,e,rfl,hl,L,K]:=h;obtain rfl:=d.inv;cases S;let#[u,N,rfl,ru,l]:=vals2 rs;let#[i,J,q]:=O _ _ e;cases E with
  | @tup b vs _ t g=>
   cases (show u=Value.ref b from ru);rw[g.keys]at t;let r:=uE q n;apply Z6 C I J t l (by rw[q.len];show hl) (λw T j D c V=>?_) λD j c=>?_
   .rcases r with⟨_,p⟩|⟨F,y,B,p,av⟩
    .rw[p]at D;cases D
    .rw[p]at D;cases D;show#[_,H,c,V,k.at O av (L y B)]
   .rcases r with⟨B,p⟩|⟨F,y,B,p,av⟩
    .let#[W,f]:=O.write (o:=.dT (bW kvs n G)) (u:=.dT (dZ i n Y)) e #[_,b7,(rJ q n U).go (n4 O e)];show#[_,_,c,l,k _ _ _ _ f W (U.wr O e) (K B)]
    .rw[p]at D;cases D
noncomputable def lM{b:Type}[DecidableEq b](kvs:↑(b×W))(k:b):↑(b×W):=kvs.filter λn=>decide (n.1≠k)
def zaa{b:Type}[DecidableEq b]{K:Ac}{H:Hp}{M:Mm}{i:↑(b×V)}{kvs:↑(b×W)}(h:bR K H M b i kvs)(k:b):bR K H M b (nU i k) (lM kvs k):=by
 induction h with
 | nil=>show .nil
 | @cons p q ps qs r t E=>
  unfold nU lM at E⊢;rw[Ec,Ec,<-r.1];split
  .show .cons r E
  .show E
def G1:W->↑W->Mm->K3->Prop
 | .ref a,[.tup ks],M,R=>∃kvs k w,M a=aa (.dT kvs)/\ks=k.map wK/\aM kvs k=aa w/\R w (put M a (.dT (lM kvs k)))
 | _,_,_,_=>False
def zab(C:X.A.units+1<Fu):fQ X "dict.pop" (jQ X.K G1):=by
 rintro af s Z H x xs v us Q I S rs ⟨P,ws,M,R,O,d,m,h,k⟩
 match P,ws,h with
 | .ref a,[.tup ks],h=>
  let#[z,rfl,E]:=m.one;let#[kvs,n,w,e,rfl,l,r]:=h;obtain rfl:=d.inv;cases S;let#[u,rfl,ru]:=rs.one;let#[i,J,q]:=O _ _ e;cases E with
  | @tup b vs _ D f=>
   cases (show u=Value.ref b from ru);rw[f.keys]at D;rcases uE q n with⟨B,p⟩|⟨F,y,B,p,av⟩
   .rw[B]at l;cases l
   .rw[B]at l;cases l;let#[W,Y]:=O.write (o:=.dT (lM kvs n)) (u:=.dT (nU i n)) e #[_,b7,(zaa q n).go (n4 O e)];show Z7 C I J D p λU j c V=>#[_,_,c,V,k _ _ _ _ Y W (av.wr O e) r]
end
section
variable {X:Cx}{af:Pn}{Z:St}{H:Hp}{s:Ak}{a b:Am}{v:V}{r:Ae}{A:Cw}{E:Ae->Ak->Prop}{es:↑(bQ×Am×V)}{tl:↑Int}{x:bQ}
def zac{o e:Cm}{args:↑Cm}{to:TE}{t:TA}{name:Av}{apos cpos:Ih}{T id:String}{k:V->↑V->Hp->VK->Prop}{tq:V->Hp->Prop}(z:Qh T)(slot:Slot T name id)(q:Vl (.builtin id)=pure (.type "method_descriptor"))(N:fQ X id k)(f:PE X o to)(m:PA X (e::args) t)(tp:∀af Z H s x v,Inv X af Z H s->RelV x v->tq x H->s.TypeIs v T/\∀a,v=.ref a->∃ob,s.heap.get? a=aa ob/\ob.dict=ae)(y:Hs o name X.env (El o X.env)=El o X.env)(u:((Nx cpos (Cg (e::args) X.env)).all (λx=>!x.1)&&(Pr cpos (Mq [] X.env)).all (λx=>x.1.isSome)&&decide (↥(e::args)+↥([]:↑Rm)+(if ([]:↑Rm).isEmpty then 0 else 1)<30))=ab)(b:(apos.endLine==cpos.line)=ab)(F:Se X e args)(c:Sb X cpos args):
  PE X (.Call (.Attribute o name apos) (e::args) [] cpos) (λZ H Q=>to Z H λx B=>tq x B/\t Z B λxs w=>k x xs w Q):=by
 intro af s Z H Q I h;apply wpAny_Call_method_late y u b rfl (aV (f af s Z H _ I h) λv U E=>?_);let#[x,B,M,l,ty,W]:=E;let#[L,S]:=tp _ _ _ _ _ _ M l ty;apply#[T,id,z,slot,q,L,S,?_];let p:=m cpos af U Z B _ M W;rw[F]at p⊢;apply Mc (by change(ac||(Nx cpos (Cg args X.env)).any (·.1))=ac;rw[c]<;>rfl) (Calls.evalArgs_plain ?_);show aV p λus d Y=>by let#[vs,w,i,P,n]:=Y;show N af d Z w x vs v us Q i l P n
def zad{o:Cm}{to:TE}{name:Av}{apos cpos:Ih}{T id:String}{k:V->↑V->Hp->VK->Prop}{tq:V->Hp->Prop}(z:Qh T)(slot:Slot T name id)(q:Vl (.builtin id)=pure (.type "method_descriptor"))(N:fQ X id k)(f:PE X o to)(tp:∀af Z H s x v,Inv X af Z H s->RelV x v->tq x H->s.TypeIs v T/\∀a,v=.ref a->∃ob,s.heap.get? a=aa ob/\ob.dict=ae)(y:Hs o name X.env (El o X.env)=El o X.env)(b:(apos.endLine==cpos.line)=ab):PE X (.Call (.Attribute o name apos) [] [] cpos) (λZ H Q=>to Z H λx B=>tq x B/\k x [] B Q):=by
 intro af s Z H Q I h;apply wpAny_Call_method0_late y b (aV (f af s Z H _ I h) λv U E=>?_);let#[x,B,M,l,ty,W]:=E;let#[L,Y]:=tp _ _ _ _ _ _ M l ty;show#[T,id,z,slot,q,L,Y,Mc rfl (PySem.evalArgs_none (N af U Z B x [] v [] Q M l .nil W))]
def G2{q j:Type}{F:q->j->Prop}{a c:↑q}{b d:↑j}(p:Gk F a b)(h:Gk F c d):Gk F (a++c) (b++d):=by
 induction p with
 | nil=>show h
 | cons r t E=>show .cons r E
def pO(I:Inv X af Z H s)(e:H a=aa (.ext (dN X.prog X.w tl a es))):dN X.prog X.w tl a es s.heap:=(show bZ X.prog X.w H s.heap a (.ext (dN X.prog X.w tl a es)) from I.hok a _ e).1
def NX.val(q:NX es xs)(x:bQ):(Ng xs x=ae/\∀e∈es,e.1≠x)\/∃b v u,Ng xs x=aa (b,u)/\(x,b,v)∈es/\RelV v u:=by
 induction q with
 | nil=>show .inl #[rfl,λe m=>nomatch m]
 | @cons p z ps L h t E=>
  let#[G,y,K]:=p;let#[Y,C,z3]:=z;let#[rfl,rfl,F]:=h;unfold Ng at E⊢;rw[Ee]
  by_cases B:G=x
  .subst B;rw[Xd rfl];show .inr #[y,K,z3,rfl,Bw,F]
  .rw[Xe B];rcases E with⟨a,d⟩|⟨b,v,u,a,d,c⟩
   .apply .inl #[a,λe m=>?_];rcases Ax.mp m with rfl|m
    .show B
    .show d e m
   .show .inr #[b,v,u,a,Bp _ d,c]
def zae{Q:Ae->Ak->Prop}(C:A.units+2<Fu)(I:Inv X af Z H s)(e:H a=aa (.ext (dN X.prog X.w tl a es)))(ks:∀z∈es,g9 H tl z.1 z.2.1)(D:g9 H tl x b)(g:RelV v r)(hl:↥es<Ap)(L:∀c v0 k j,(x,c,v0)∈es->Inv X af Z H j->RelV v0 k->Q k j)(F:(∀z∈es,z.1≠x)->∀j,Inv X af Z (aL H a (.ext (dN X.prog X.w tl a (es++[(x,b,v)])))) j->Q r j):
  Bo X.m A (call (.builtin "dict.setdefault") [.ref a,.ref b,r]) Q E s:=by
 let#[o,B,ep,xs,f,hc,hd,d,nx,P,hz,hsys]:=pO I e;let isAll:∀z∈xs,(iZ X.prog X.w tl).is s.heap z.1 z.2.1:=by
  have:∀{es:↑(bQ×Am×V)} {xs:↑(bQ×Am×Ae)},NX es xs->(∀z∈es,g9 H tl z.1 z.2.1)->∀z∈xs,(iZ X.prog X.w tl).is s.heap z.1 z.2.1:=by
   intro es xs q
   induction q with
   | nil=>intro _ z hz;cases hz
   | @cons p z ps J h t T=>
    intro hk u C;rcases Ax.mp C with rfl|C
    .have:=(hk p Bw).is I.hok;rw[h.1,h.2.1]at this;show this
    .show T (λy O=>hk y (Bp _ O)) u C
  show this nx ks
 let M:s.heap.DictOfH (iZ X.prog X.w tl) a xs:=#[o,B,ep,f,hc,hd,d,isAll,P];let Y:↥xs=↥es:=(Ea nx).symm;apply Kb Nb M.typeIs PySem.F.entry_dict_setdefault (PySem.F.args_dict_setdefault_3 _ _ _)
  (S:=λA R U=>(iZ X.prog X.w tl).room A.in1/\(iZ X.prog X.w tl).is U.heap x b/\U.heap.DictOfH (iZ X.prog X.w tl) a xs/\
   (∀p,Ng xs x=aa p->R (.ok (.ret p.2)) {U with toks:=U.toks+(iZ X.prog X.w tl).draws x})/\
   (Ng xs x=ae->∀h',h'.DictOfH (iZ X.prog X.w tl) a (Od xs x b r)->Fb a U.heap h'->R (.ok (.ret r)) {U with heap:=h',toks:=U.toks+(iZ X.prog X.w tl).draws x}))
  (.of_wp λA R U #[K,W,n,q3,q4]=>?_) #[C,D.is I.hok,M,λp N=>?_,λhno h' dd' l=>?_]
 .unfold Hk.«dict.setdefault»;apply Aa ?_;unfold Mw;apply Aa (Hu n.typeIs (Ah ?_));dsimp only;rw[Xa (by rw[hsys];show Bc)];show Aa (GZ K W n hz (λp N=>Ah #[_,rfl,q3 p N]) λP h' hm' hs'=>Ah #[_,rfl,q4 P h' hm' hs'])
 .rcases nx.val x with⟨i1,_⟩|⟨c,v0,u,i1,i2,i3⟩
  .rw[i1]at N;cases N
  .rw[i1]at N;cases N;show L c v0 u _ i2 (I.tok _) i3
 .rcases nx.val x with⟨_,i2⟩|⟨c,v0,u,i1,_,_⟩
  .rw[Tu hno]at dd';let#[W,es',ep',hq,G,i,g4,_,g5]:=dd';apply F i2 _ (nW (t':=s.toks+(iZ X.prog X.w tl).draws x) I (by rw[e];show True.intro) l #[W,hq] (dN.ok #[W,es',ep',_,hq,G,i,g4,G2 nx (.cons #[rfl,rfl,g] .nil),g5,?_,hsys]));rw[Ag,Y];simp;lia
  .rw[i1]at hno;cases hno
end
noncomputable def gN(tl:↑Int)(x:bQ):W:=.tup (wK x.1::.tup (x.2.map wK)::tl.map W.int)
section
variable {K:Ac}{H:Hp}{M:Mm}
def G3(k:aC):AV K H M (kV k) (wK k):=by cases k<;>first|exact .int _|exact .str _
theorem uZ:∀ks:↑aC,aJ K H M (ks.map kV) (ks.map wK)
 | []=>.nil
 | k::r=>.cons (G3 k) (uZ r)
theorem G4:∀tl:↑Int,aJ K H M (tl.map V.int) (tl.map W.int)
 | []=>.nil
 | i::r=>.cons (.int i) (G4 r)
theorem aJ.intsN:∀{tl:↑Int} {vs:↑V},aJ K H M vs (tl.map W.int)->vs=tl.map V.int
 | [],_,h=>by cases h;rfl
 | i::r,_,h=>by
  cases h with
  | cons a b=>cases a;rw[aJ.intsN b];rfl
def g9.av(n:g9 H tl x b):AV K H M (.ref b) (gN tl x):=by
 let#[z,J,D]:=n;show .tup J (.cons (G3 x.1) (.cons (.tup D (uZ x.2)) (G4 tl)))
def zaf{tl:↑Int}{x:bQ}{v:V}(h:AV K H M v (gN tl x)):∃b,v=.ref b/\g9 H tl x b:=by
 unfold gN at h;cases h with
 | @tup b xs _ e q=>
  cases q with
  | @cons o c _ _ f W=>
   cases W with
   | @cons F a _ _ g n=>
    let J:=f.key;subst J;let Z:=n.intsN;subst Z;cases g with
    | @tup z ys _ L d=>
     rw[d.keys]at L;show#[b,rfl,z,e,L]
end
section
variable {X:Cx}
abbrev G5(P:Be)(w:Bv)(tl:↑Int):aP:=λU M R=>∀p,M p=ae->R (.ref p) (put M p (.dn P w tl []))
def zag:E3 X (.Dict [] [] pos) (G5 X.prog X.w tl):=by
 rintro af s Z H Q I ⟨U,M,R,as,O,h,k⟩;let hf:=I.hok.fresh (Aj ⇑s);let Y:=I.big;let#[N,t]:=O.laid (o:=.dn X.prog X.w tl []) (u:=.ext (dN X.prog X.w tl ⇑s [])) hf #[[],b7,.nil];apply Tj #[.ref ⇑s,_,I.laid (a:=⇑s) (o:=.ext (dN X.prog X.w tl ⇑s [])) (t':=s.toks) (λ_ _ q=>Af _ q) (Aj _) (dN.ok #[_,#[],0,[],Aw _ rfl,#[rfl,rfl,rfl],rfl,rfl,.nil,Fh,Cr _,?_]),rfl,k _ _ _ _ t N (.ref _) (h _ (O.nonM hf))];rw[beq_eq_false_iff_ne];show Co Y
abbrev zah(P:Be)(w:Bv)(tl:↑Int)(x:W)(M:Mm):Prop:=∃a kvs,x=.ref a/\M a=aa (.dn P w tl kvs)
def G6{P:Be}{w:Bv}{tl:↑Int}{af:Pn}{Z:SV}{H:Hp}{s:Ak}{v:V}{u:Ae}(I:Inv X af Z H s)(r:RelV v u)(h:∃a es,v=.ref a/\H a=aa (.ext (dN P w tl a es))):s.TypeIs u "dict"/\∀a,u=.ref a->∃ob,s.heap.get? a=aa ob/\ob.dict=ae:=by
 let#[a,es,rfl,e]:=h;cases (show u=Value.ref a from r);let#[o,B,ep,xs,f,hc,hd,_]:=(show bZ X.prog X.w H s.heap a (.ext (dN P w tl a es)) from I.hok a _ e).1;apply#[#[o,f,hc.1],λb U=>?_];cases U;show#[o,f,hc.2.1]
abbrev G7(P:Be)(w:Bv)(tl:↑Int)(to:aP)(tk tv:aP):aP:=λU M R=>to U M λd I=>zah P w tl d I/\tk U I λb G=>tv U G λv H=>∃a kvs x,d=.ref a/\H a=aa (.dn P w tl kvs)/\b=gN tl x/\↥kvs<Ap/\
 (∀t,aM kvs x=aa t->R t H)/\(aM kvs x=ae->R v (put H a (.dn P w tl (kvs++[(x,v)]))))
abbrev PN(K:Ac)(H:Hp)(M:Mm)(tl:↑Int)(es:↑(bQ×Am×V))(kvs:↑(bQ×W)):Prop:=Gk (λ(e:bQ×Am×V) (p:bQ×W)=>e.1=p.1/\g9 H tl e.1 e.2.1/\AV K H M e.2.2 p.2) es kvs
def PN.look{K:Ac}{H:Hp}{M:Mm}{tl:↑Int}{es:↑(bQ×Am×V)}{kvs:↑(bQ×W)}(q:PN K H M tl es kvs)(P:(es.map (·.1)).Nodup)(x:bQ):(aM kvs x=ae/\∀e∈es,e.1≠x)\/∃w,aM kvs x=aa w/\∀c v,(x,c,v)∈es->AV K H M v w:=by
 induction q with
 | nil=>show .inl #[rfl,λe m=>nomatch m]
 | @cons p z ps L h t E=>
  rw[Bi,Cp]at P;let#[G,y,i]:=p;let#[Y,C]:=z;let#[rfl,_,F]:=h;unfold aM at E⊢;rw[Ee]
  by_cases B:G=x
  .subst B;rw[Xd rfl];apply .inr #[C,rfl,λc v N=>?_];rcases Ax.mp N with e|N
   .cases e;show F
   .show absurd (Ao.mpr #[_,N,rfl]) P.1
  .rw[Xe B];rcases E P.2 with⟨a,d⟩|⟨w,a,d⟩
   .apply .inl #[a,λe m=>?_];rcases Ax.mp m with rfl|m
    .show B
    .show d e m
   .apply .inr #[w,a,λc v N=>?_];rcases Ax.mp N with e|N
    .cases e;show absurd rfl B
    .show d c v N
def zai(nx:NX es xs):es.map (·.1)=xs.map (·.1):=by
 induction nx with
 | nil=>rfl
 | cons h _ E=>rw[Bi,Bi,E,h.1]
def dN.nodup(x:dN P w tl a es h):(es.map (·.1)).Nodup:=by
 let#[o,B,ep,xs,_,_,_,_,nx,D,_]:=x;rw[zai nx];show D
def PN.keys{K:Ac}{H:Hp}{M:Mm}{tl:↑Int}{es:↑(bQ×Am×V)}{kvs:↑(bQ×W)}(q:PN K H M tl es kvs):aJ K H M (es.map λe=>V.ref e.2.1) (kvs.map λp=>gN tl p.1):=by
 induction q with
 | nil=>show .nil
 | @cons p z ps L h _ E=>
  apply .cons ?_ E;change AV K H M (.ref p.2.1) (gN tl z.1);rw[<-h.1];show g9.av h.2.1
def PN.vals{K:Ac}{H:Hp}{M:Mm}{tl:↑Int}{es:↑(bQ×Am×V)}{kvs:↑(bQ×W)}(q:PN K H M tl es kvs):aJ K H M (es.map λe=>e.2.2) (kvs.map λp=>p.2):=by
 induction q with
 | nil=>show .nil
 | cons h _ E=>show .cons h.2.2 E
def PN.ats{K:Ac}{H:Hp}{M:Mm}{tl:↑Int}{es:↑(bQ×Am×V)}{kvs:↑(bQ×W)}(q:PN K H M tl es kvs):∀z∈es,g9 H tl z.1 z.2.1:=by
 induction q with
 | nil=>intro z hz;cases hz
 | cons h _ E=>
  intro z hz;rcases Ax.mp hz with rfl|hz
  .show h.2.1
  .show E z hz
def zaj{tl:↑Int}{o ek ev:Cm}{to tk tv:aP}{apos cpos:Ih}(Y:X.A.units+2<Fu)(f:E3 X o to)(hk:E3 X ek tk)(T:E3 X ev tv)(hbase:Hs o "setdefault" X.env (El o X.env)=El o X.env:=by rfl)(hfew:((Nx cpos (Cg [ek,ev] X.env)).all (λx=>!x.1)&&(Pr cpos (Mq [] X.env)).all (λx=>x.1.isSome)&&decide (↥([ek,ev]:↑Cm)+↥([]:↑Rm)+(if ([]:↑Rm).isEmpty then 0 else 1)<30))=ab:=by rfl)(hline:(apos.endLine==cpos.line)=ab:=by rfl)(l:Cg [ek,ev] X.env=(ac,El ek X.env)::Cg [ev] X.env:=by rfl)(hs2:Cg [ev] X.env=(ac,El ev X.env)::Cg [] X.env:=by rfl)(hplain:(Nx cpos (Cg [ev] X.env)).any (·.1)=ac:=by rfl):
  E3 X (.Call (.Attribute o "setdefault" apos) [ek,ev] [] cpos) (G7 X.prog X.w tl to tk tv):=by
 let N:fQ X "dict.setdefault" (λd vs H Q=>∃M R w kw ww a kvs x y z,AM X.K H M/\d=.ref a/\vs=[y,z]/\AV X.K H M y kw/\AV X.K H M z ww/\M a=aa (.dn X.prog X.w tl kvs)/\kw=gN tl x/\↥kvs<Ap/\(∀w0,aM kvs x=aa w0->R w0 M)/\(aM kvs x=ae->R ww (put M a (.dn X.prog X.w tl (kvs++[(x,ww)]))))/\w=()/\Up X.K H M R Q):=by
  rintro af s Z H d vs v us Q I rd rs ⟨M,R,_,kw,ww,a,kvs,x,y,z,O,rfl,rfl,ay,az,e,rfl,hl,L,K,_,k⟩;cases (show v=Value.ref a from rd);let#[u,u1,rfl,ru,ru1]:=vals2 rs;let#[es,J,q]:=O _ _ e;let#[b,rfl,nb]:=zaf ay;cases (show u=Value.ref b from ru);let nd:=dN.nodup (pO I J);let lk:=PN.look q nd x;apply zae Y I J (PN.ats q) nb ru1 (by rw[Ea q];show hl) (λc v0 w' n N I' rw'=>?_) λhno n I'=>?_
  .rcases lk with⟨_,l2⟩|⟨w,l1,l2⟩
   .show absurd rfl (l2 _ N)
   .show#[_,H,I',rw',k.at O (l2 c v0 N) (L w l1)]
  .rcases lk with⟨l1,_⟩|⟨w,l1,l2⟩
   .let g:=n4 (o:=.dn X.prog X.w tl (kvs++[(x,ww)])) (u:=.ext (dN X.prog X.w tl a (es++[(x,b,z)]))) O e;let#[am3,k3]:=O.write (o:=.dn X.prog X.w tl (kvs++[(x,ww)])) (u:=.ext (dN X.prog X.w tl a (es++[(x,b,z)]))) e #[_,b7,G2 (Paired.mapP q λp r t=>#[t.1,let #[pa,n1,n2]:=t.2.1;#[pa,g.ht _ _ n1,g.ht _ _ n2],t.2.2.go g]) (.cons #[rfl,let #[pa,n1,n2]:=nb;#[pa,g.ht _ _ n1,g.ht _ _ n2],az.go g] .nil)];show#[_,_,I',ru1,k _ _ _ _ k3 am3 (az.wr O e) (K l1)]
   .exfalso;have:∀{es:↑(bQ×Am×V)} {kvs:↑(bQ×W)},PN X.K H M tl es kvs->(∀z∈es,z.1≠x)->aM kvs x=ae:=by
     intro es kvs q
     induction q with
     | nil=>intro _;rfl
     | @cons p r ps rs h t E=>
      intro hz;unfold aM at E⊢;rw[Ee,Xe (by rw[<-h.1];show hz p Bw)];show E λy C=>hz y (Bp _ C)
    rw[this q hno]at l1;cases l1
 apply(zac (tq:=λx H=>∃a es,x=.ref a/\H a=aa (.ext (dN X.prog X.w tl a es))) Of Nb PySem.F.type_dict_setdefault N f (n6 hk (n6 T pD hs2) l) (λaf Z H s x v I r h=>G6 I r h) hbase hfew hline l hplain).weak ?_;rintro Z H Q ⟨U,M,R,as,O,h,k⟩;apply#[U,M,_,as,O,h,λd B wd G i j ad S=>?_];obtain⟨⟨a,kvs,J,D⟩,L⟩:=S;subst J;cases ad;let#[es,e3,q]:=j _ _ D;apply#[#[a,es,rfl,e3],U,G,λws M3=>match ws with | [kw,v]=>∃a' kvs x,W.ref a=.ref a'/\M3 a'=aa (.dn X.prog X.w tl kvs)/\kw=gN tl x/\↥kvs<Ap/\(∀w0,aM kvs x=aa w0->R w0 M3)/\(aM kvs x=ae->R v (put M3 a' (.dn X.prog X.w tl (kvs++[(x,v)]))))|_=>False,as.kp O i,j,?_,λvs H2 ws M2 m P avs r=>?_]
 .show L
 .match ws,r with
  | [kw,ww],#[a',kvs,x,ea,e4,e5,hl,g1,g2]=>
   cases ea;let#[y,z,rfl,ay,az]:=avs.two;show#[M2,R,(),kw,ww,a,kvs,x,y,z,P,rfl,rfl,ay,az,e4,e5,hl,g1,g2,rfl,k.kp (i.trans m)]
end
section
variable {X:Cx}{af:Pn}{Z:St}{H:Hp}{s:Ak}{a d:Am}{es:↑(bQ×Am×V)}{tl:↑Int}{A:Cw}{E:Ae->Ak->Prop}
def zak{ep:Nat}{Q:Ae->Ak->Prop}(hd:(d==Gi)=ac)(N:gG s.heap d B ep)(X:Q (.ref ⇑s) {s with heap:=s.heap.push {cls:=.type "dict_values",data:=.fields [.ref d].toArray}}):Bo (Cy prog w) A (call (.builtin "dict.values") [.ref d]) Q E s:=
 Kb PySem.F.slot_dict_values N.typeIs PySem.F.entry_dict_values (PySem.F.args_dict_values_1 _) (S:=λ_ R U=>gG U.heap d B ep/\R (.ok (.ret (.ref ⇑U))) {U with heap:=U.heap.push {cls:=.type "dict_values",data:=.fields [.ref d].toArray}})
  (.of_wp λA R U #[W,n]=>by
   apply Aa ?_;unfold Builtin.Dict.noArgs;apply Aa (Hu W.typeIs (Ah ?_));change Bo _ _ (Lr d>>=_) _ _ _;unfold Lr;rw[Xa (by rw[hd];show Bc)];show Aa (Ah (Aa (Du (Ah #[_,rfl,n]))))) #[N,X]
def rT(x:dN P w tl a es h):∃B ep,gG h a B ep/\B.size=↥es/\B.size<=Ap/\(a==Gi)=ac/\
  (∀(j:Nat) (e:Eu),B[j]? = aa e->∃z:bQ×Am×V,es[j]? = aa z/\e.key=.ref z.2.1/\RelV z.2.2 e.val):=by
 let#[o,B,ep,xs,L,Z,F,T,nx,_,i,K]:=x;let J:=Md T;let D:=Ea nx;apply#[B,ep,#[o,L,Z,F],by lia,by lia,K,λj e m=>?_];rw[Um T j]at m;let#[q,hq,rfl]:=Bd.mp m;let key:∀{es:↑(bQ×Am×V)} {xs:↑(bQ×Am×Ae)} {j:Nat} {q:bQ×Am×Ae},NX es xs->xs[j]? = aa q->∃z,es[j]? = aa z/\z.2.1=q.2.1/\RelV z.2.2 q.2.2:=by
  intro es xs j q n
  induction n generalizing j with
  | nil=>intro h;simp at h
  | @cons p z ps Q h t E=>
   intro hj;cases j with
   | zero=>simp at hj;subst hj;show#[p,rfl,h.2.1,h.2.2]
   | succ j=>rw[Ek]at hj⊢;show E hj
 let#[z,H,G,f]:=key nx hq;show#[z,H,by change Value.ref q.2.1=_;rw[G],f]
def y6{n:Nat}{P:Nat->Ae->Prop}{b:Dz->Prop}(hc:X.calm=ab)(I:Inv X af Z H s)(S:PySem.W.KdlSrc X.prog X.w T r d n P b)(ok:b s.heap)(D:n<=Ap)(B:↥xs=n)(m:∀j v,P j v->∃x,xs[j]? = aa x/\RelV x v)(q:∀l,H l=ae->Q (.ref l) (aL H l (.lst xs))):X.a (call (.type "list") [.ref r]) (EP X af Z Q) X.xe s:=by
 apply PySem.W.kdl_call S (I.ok.hd hc) ok D λh' tk c M hk O J=>?_;apply#[.ref ⇑s,_,I.laid (o:=.lst xs) (t':=tk) hk (Aj _) #[by rw[B];show D,c.toList,M,?_,by rw[Hb];show O],rfl,q _ (I.hok.fresh (Aj _))];apply oZ (by let L:=J.1;let Y:↥c.toList=c.size:=Fj;lia) λj v g=>?_;show m j v (J.2 j v (by rw[<-Fm];show g))
end
section
variable {X:Cx}
abbrev G8(P:Be)(w:Bv)(tl:↑Int)(to:aP):aP:=λτ M R=>to τ M λd M1=>∃a kvs,d=.ref a/\M1 a=aa (.dn P w tl kvs)/\∀p,M1 p=ae->R (.ref p) (put M1 p (.vw a))
def zal(ho:E3 X o to)(hbase:Hs o "values" X.env (El o X.env)=El o X.env:=by rfl)(hline:(apos.endLine==cpos.line)=ab:=by rfl):
  E3 X (.Call (.Attribute o "values" apos) [] [] cpos) (G8 X.prog X.w tl to):=by
 let hm:fQ X "dict.values" (λx vs H Q=>∃M R a kvs,AM X.K H M/\x=.ref a/\vs=[]/\M a=aa (.dn X.prog X.w tl kvs)/\(∀p,M p=ae->R (.ref p) (put M p (.vw a)))/\Up X.K H M R Q):=by
  rintro af s Z H x vs v us Q I rx rs ⟨M,R,a,kvs,am,rfl,rfl,e,h,k⟩;cases (show v=Value.ref a from rx);cases rs;let#[es,e1,q]:=am _ _ e;let#[ents,ep,hr,_,_,hsys,_]:=rT (pO I e1);let hf:=I.hok.fresh (Aj ⇑s);let#[am2,k2]:=am.laid (o:=.vw a) (u:=.ext λh=>h.IsValuesView ⇑s a) hf b7;apply zak hsys hr #[.ref ⇑s,_,I.laid (a:=⇑s) (o:=.ext λh=>h.IsValuesView ⇑s a) (t':=s.toks) (λ_ _ z=>Af _ z) (Aj _) #[#[_,Aw _ rfl,rfl,rfl],#[_,Aw _ rfl],λh1 h2 #[o,ho,r] kk=>#[o,kk o ho,r]],rfl,k _ _ _ _ k2 am2 (.ref _) (h _ (am.nonM hf))]
 apply(zad (tq:=λx H=>∃a es,x=.ref a/\H a=aa (.ext (dN X.prog X.w tl a es))) Of PySem.F.slot_dict_values PySem.F.type_dict_values hm ho (λaf Z H s x v I r h=>G6 I r h) hbase hline).weak ?_;rintro Z H Q ⟨τ,M,R,as,am,h,k⟩;apply#[τ,M,_,as,am,h,λd H1 wd M1 k1 am1 ad z0=>?_];let#[a,kvs,e1,e2,h1]:=z0;subst e1;cases ad;let#[es,e3,q]:=am1 _ _ e2;show#[#[a,es,rfl,e3],M1,R,a,kvs,am1,rfl,rfl,e2,h1,k.kp k1]
def y7(P:Be)(w:Bv)(tl:↑Int):↑W->Mm->K3->Prop
 | [.ref a],M,R=>(∃kvs,M a=aa (.dn P w tl kvs)/\aR (kvs.map λp=>gN tl p.1) M R)\/∃d kvs,M a=aa (.vw d)/\M d=aa (.dn P w tl kvs)/\aR (kvs.map λp=>p.2) M R
 | _,_,_=>False
def zam(hc:X.calm=ab):cN X (.type "list") (fA X.K (y7 X.prog X.w tl)):=by
 rintro af s Z H xs us Q I rs ⟨ws,M,R,am,axs,h,k⟩
 match ws,h with
 | [.ref a],h=>
  let#[v,rfl,av]:=axs.one;cases av;let#[u,rfl,ru]:=vals1 rs;cases (show u=Value.ref a from ru);rcases h with⟨kvs,e,r⟩|⟨d,kvs,e0,e,r⟩
  .let#[es,e1,q]:=am _ _ e;let#[ents,ep,hr,h1,h2,hsys,hget]:=rT (pO I e1);apply y6 hc I (ED (es:=ents) (ep:=ep) hsys) hr h2 (xs:=es.map λe=>V.ref e.2.1) (by rw[Ab];show h1.symm) (λj v z0=>?_) λl hl=>gJ am k hl (PN.keys q) r;let#[en,he,hv]:=z0;let#[z,g1,g2,_]:=hget j en he;show#[.ref z.2.1,by rw[Az,g1];rfl,by rw[hv,g2];rfl]
  .let#[es,e1,q]:=am _ _ e;let e2:H a=aa (.ext λh=>h.IsValuesView a d):=am _ _ e0;let hv:s.heap.IsValuesView a d:=(show bZ X.prog X.w H s.heap a (.ext λh=>h.IsValuesView a d) from I.hok a _ e2).1;let#[ents,ep,hr,h1,h2,hsys,hget]:=rT (pO I e1);apply y6 hc I (U9 (r:=a) (d:=d) (es:=ents) (ep:=ep)) #[hv,hr] h2 (xs:=es.map λe=>e.2.2) (by rw[Ab];show h1.symm) (λj v z1=>?_) λl hl=>gJ am k hl (PN.vals q) r;let#[en,he,hv]:=z1;let#[z,g1,_,g3]:=hget j en he;show#[z.2.2,by rw[Az,g1];rfl,by rw[hv];show g3]
end
end L2
namespace PySem
namespace Tr
open PySem.AutoSeq1 (wpAny_loadPart')
section
variable {prog:Be}{w:Bv}{A:Cw}{E:Ae->Ak->Prop}{s:Ak}
def zan{Q:↑Ae->Ak->Prop}{n:Nat}{b:Int}(hh:A.handled=ae)(hr:IsRange s.heap r 0 b 1 t u v)(hsm:Builtin.Range.small 0 b 1=ab)(hn:Iv 0 b 1=n)(hl:n<=2 ^ 24)(hQ:∀h' tk acc',(∀c o,s.heap.get? c=aa o->h'.get? c=aa o)->Pg (λi v=>∃t,v=.int (0+i*1) t) acc' n->Q acc'.toList {s with heap:=h',toks:=tk}):
  Bo (Cy prog w) A (collect (.ref r)) Q E s:=by
 unfold collect;apply Aa (wpAny_runValue (Me F.entry_proto_collect ?_));rw[Iy F.plain_proto_collect _];change Bo _ A.in1 (newList []>>=λl=>again (.builtin "list.__iadd__" #[[l,.ref r],[]])) _ _ s;apply Aa (Du (Ah #[Kh F.plain_list_iadd _,Me F.entry_list_iadd ?_]));rw[Iy F.plain_list_iadd _];change Bo _ A.in1 (Fg (.ref ⇑s) (.ref r) (.ref ⇑s)) _ _ _;let g0:(s.heap.push {cls:=.type "list",data:=.seq ([]:↑Ae).toArray}).get? ⇑s=aa {cls:=.type "list",data:=.seq #[] 0}:=Aw _ rfl;let last:∀(h':Dz) (tk:Nat) (acc:Array Ae) (c:Nat),(∀b o,b≠⇑s->(s.heap.push {cls:=.type "list",data:=.seq ([]:↑Ae).toArray}).get? b=aa o->h'.get? b=aa o)->h'.get? ⇑s=aa {cls:=.type "list",dict:=ae,data:=.seq acc c,slots:=#[]}->Pg (λi v=>∃t,v=.int (0+i*1) t) acc n->
   Bo (Cy prog w) A (match Value.ref ⇑s with
   | Value.ref a=>do
    match (<-load a).data with
     | Data.seq xs _=>pure xs.toList
     | _=>unsupported "internal:collect"
   | _=>unsupported "internal:collect") Q E {s with heap:=h',toks:=tk}:=by
  intro h' tk acc c hk hS hacc;change Bo _ A (load ⇑s>>=_) _ _ _;show Aa (wpAny_load hS (Ah (hQ h' tk acc (λb o e=>hk b o (Bl (Ba e)) (Af _ e)) hacc)))
 apply Jl (wpAny_extend_range (A:=A) (R:=λq s'=>∃h' tk acc c,q=.ok (.ret (.ref ⇑s))/\s' = {s with heap:=h',toks:=tk}/\(∀b o,b≠⇑s->(s.heap.push {cls:=.type "list",data:=.seq ([]:↑Ae).toArray}).get? b=aa o->h'.get? b=aa o)/\h'.get? ⇑s=aa {cls:=.type "list",dict:=ae,data:=.seq acc c,slots:=#[]}/\Pg (λi v=>∃t,v=.int (0+i*1) t) acc n)
  (s:={s with heap:=s.heap.push {cls:=.type "list",data:=.seq ([]:↑Ae).toArray}}) hh (Af _ hr) hsm hn hl _ (.ref ⇑s) 0 g0 λh' tk acc c hk hS hacc=>#[h',tk,acc,c,rfl,rfl,hk,hS,hacc]) (λfin s' h=>?_) (λe s' h=>?_)
 .cases fin with
  | done f=>
   let#[h',tk,acc,c,e,rfl,q1,q2,q3]:=h;cases e;show last h' tk acc c q1 q2 q3
  | again c'=>show#[h.1,Qf h.2 λq s'' hr=>by let#[h',tk,acc,c,rfl,rfl,q1,q2,q3]:=hr;show last h' tk acc c q1 q2 q3]
 .let#[h',tk,acc,c,e,_]:=h;cases e
def made{n:Nat}{b:Int}{Q:Ae->Ak->Prop}(hh:A.handled=ae)(hr:IsRange s.heap r 0 b 1 t u v)(hsm:Builtin.Range.small 0 b 1=ab)(hn:Iv 0 b 1=n)(hl:n<=2 ^ 24)(h:∀(h':Dz) (tk:Nat) (acc:Array Ae),(∀c o,s.heap.get? c=aa o->h'.get? c=aa o)->Pg (λi v=>∃t,v=.int (0+i*1) t) acc n->Q (.ref h'.objs.size) {s with heap:=h'.push {cls:=.type "tuple",data:=.seq acc},toks:=tk}):
  Bo (Cy prog w) A (call (.type "tuple") [.ref r]) Q E s:=by
 apply callType_newIn F.called_tuple ∅ (F.typeCall_tuple_1 _) (F.newCall_tuple_1 _) (λobj=>Qv obj _) F.entry_tuple_new
  (S:=λA R s=>A.handled=ae/\IsRange s.heap r 0 b 1 t u v/\∀(h':Dz) (tk:Nat) (acc:Array Ae),(∀c o,s.heap.get? c=aa o->h'.get? c=aa o)->Pg (λi v=>∃t,v=.int (0+i*1) t) acc n->R (.ok (.ret (.ref h'.objs.size))) {s with heap:=h'.push {cls:=.type "tuple",data:=.seq acc},toks:=tk})
  (.of_wp λA R s h=>?_) #[hh,hr,λh' tk acc hk hacc=>#[#[_,Aw _ rfl,rfl],h h' tk acc hk hacc]]
 let#[hp,g,d,tk,os]:=s;let#[hA,ht,h]:=h;let hsub:=sub_tuple_self;let hinit:=init_tuple_lookup;let hmh:=madeHere_tuple;let hT:Shared.TypeIs #[hp,g,d,tk,os] (.ref r) "range":=#[_,ht,rfl]
 wp_walk using wpAny_loadPart' ht,Ll hT,zan (A:=A.in1) hA ht hsm hn hl
 intro h' tk acc hk hacc;change Bo _ _ (Hm acc.toList.toArray>>=λv=>ret v) _ _ _;unfold Hm;apply Aa (Du ?_ (by change acc.toList.toArray.size<=Ap;rw[Hb,hacc.1,Le];show hl));apply Ah #[_,rfl,?_];rw[Hb];show h h' tk acc hk hacc
end
end Tr
end PySem
namespace L2
section
variable {X:Cx}{a:Cm}{ta:TA}{p p2 pos pos2:Ih}
def zao(ta:TA):TE:=λZ H Q=>ta Z H λvs H1=>∃n:Nat,vs=[.int n]/\n<=1000/\∀q,H1 q=ae->Q (.ref q) (aL H1 q (.tup ((Cf n).map λ(i:Nat)=>V.int i)))
def zap(hc:X.calm=ab)(hg:Gl X "tuple")(hm:X.mg "tuple" = ae)(hg2:Gl X "range")(hm2:X.mg "range" = ae)(ha:PA X [a] ta)(hs1:Cg [.Call (.Name "range" p2) [a] [] pos2] X.env=[(ac,El (.Call (.Name "range" p2) [a] [] pos2) X.env)]:=by rfl)(hs2:Cg [a] X.env=[(ac,El a X.env)]:=by rfl):
  PE X (.Call (.Name "tuple" p) [.Call (.Name "range" p2) [a] [] pos2] [] pos) (zao ta):=by
 intro af s Z H Q I h;apply Dy (fP I hg hm (by decide +kernel:Cz "tuple" = aa (.type "tuple")) (Bx ?_ hs1 rfl));rw[hs1];apply Jp (Dy (fP I hg2 hm2 (by decide +kernel:Cz "range" = aa (.type "range")) (Bx (aV (ha pos2 af s Z H _ I h) λus s1 z0=>?_) hs2 rfl)));let#[vs,H1,I1,r1,q1]:=z0;let#[n,rfl,hn,q]:=q1;let#[u,rfl,ru]:=vals1 r1;let#[t,rfl]:=ru;apply Vq (Jz ?_);let sz:Iv 0 (n:Int) 1=(n:Nat):=by rw[Uz];split<;>lia
 apply Tr.made (n:=n) (b:=(n:Int)) (I1.ok.hd hc) (Uh _ _ _ _ _ _ _) (PySem.small_one ∅ ∅ (by lia) (by lia)) sz (by lia) λh' tk acc hk hacc=>?_;let up:∀b o,s1.heap.get? b=aa o->h'.get? b=aa o:=λb o e=>hk b o (Af _ e);let le:⇑s1<=h'.objs.size:=by
  show Ie (Ba (hk ⇑s1 _ (Aw _ rfl)))
 apply#[.ref h'.objs.size,_,I1.laid (a:=h'.objs.size) (o:=.tup ((Cf n).map λ(i:Nat)=>V.int i)) (t':=tk) (λb o e=>Af _ (up b o e)) le #[by simp[Le];lia,acc.toList,?_,#[_,Aw _ rfl,rfl,0,by simp]],rfl,q _ (I1.hok.fresh le)];apply oZ (by simp[hacc.1]) λj v hv=>?_;let hv':acc[j]? = aa v:=by simpa using hv
 let#[t',rfl]:=hacc.2 j v hv';let hj:j<n:=by have:=(Ig.mp hv').1;rw[hacc.1]at this;show this
 apply#[.int j,?_,t',by simp];simp[hj]
end
section
variable {X:Cx}{a:Cm}{ta:aP}
abbrev G9(ta:aP):aP:=λτ M R=>ta τ M λw M1=>∃n:Nat,w=.int n/\n<=1000/\R (.tup ((Cf n).map λ(i:Nat)=>W.int i)) M1
def zaq(hg:Gl X "tuple")(hm:X.mg "tuple" = ae)(hg2:Gl X "range")(hm2:X.mg "range" = ae)(ha:E3 X a ta)(hc:X.calm=ab:=by rfl)(hs1:Cg [.Call (.Name "range" p2) [a] [] pos2] X.env=[(ac,El (.Call (.Name "range" p2) [a] [] pos2) X.env)]:=by rfl)(hs2:Cg [a] X.env=[(ac,El a X.env)]:=by rfl):
  E3 X (.Call (.Name "tuple" p) [.Call (.Name "range" p2) [a] [] pos2] [] pos) (G9 ta):=
 (zap hc hg hm hg2 hm2 (n6 ha pD (hs2.trans rfl)) hs1 hs2).weak λZ H Q z0=>z0.el λτ M R as am h k=>#[τ,M,λws M1=>match ws with | [w]=>∃n:Nat,w=.int n/\n<=1000/\R (.tup ((Cf n).map λ(i:Nat)=>W.int i)) M1|_=>False,as,am,h,λvs H1 ws M1 k1 am1 ax r=>by
  match ws,r with
  | [w],#[n,e,hn,r]=>
   subst e;let#[v,rfl,av]:=ax.one;obtain rfl:=av.inv;apply#[n,rfl,hn,λq hq=>?_];let#[am2,k2]:=am1.tup (u:=.tup ((Cf n).map λ(i:Nat)=>V.int i)) hq;apply k _ _ _ _ (k1.trans k2) am2 (.tup b7 ?_) r;have:∀l:↑Nat,aJ X.K (aL H1 q (.tup ((Cf n).map λ(i:Nat)=>V.int i))) M1 (l.map λ(i:Nat)=>V.int i) (l.map λ(i:Nat)=>W.int i):=by
    intro l
    induction l with
    | nil=>show .nil
    | cons i r ih=>show .cons (.int _) ih
   show this _]
def HA:↑W->Mm->K3->Prop
 | [.ref a],M,R=>∃kvs:↑(↑aC×W),M a=aa (.dT kvs)/\aR (kvs.map λp=>.tup (p.1.map wK)) M R
 | _,_,_=>False
def zar(hc:X.calm=ab):cN X (.type "list") (fA X.K HA):=by
 rintro af s Z H xs us Q I rs ⟨ws,M,R,am,axs,h,k⟩
 match ws,h with
 | [.ref a],#[kvs,e,r]=>
  let#[v,rfl,av]:=axs.one;obtain rfl:=av.inv;let#[u,rfl,ru]:=vals1 rs;cases (show u=Value.ref a from ru);let#[ks,e1,q]:=am _ _ e;let#[z,hsys,ys,rel,dd]:=qS I.hok e1;let#[o,ents,ep,ho,hcl,hd,he,_,_]:=dd;let s1:=Md he;let s2:=Ea rel;apply y6 hc I (ED (es:=ents) (ep:=ep) hsys) #[o,ho,hcl,hd] (by lia) (xs:=ys.map λy=>V.ref y.2.1) (by rw[Ab];lia) (λj v #[en,hen,hv]=>?_) λl hl=>gJ am k hl ?_ r
  .rw[Um he j]at hen;let#[y,hy,rfl]:=Bd.mp hen;show#[.ref y.2.1,by rw[Az,hy];rfl,by rw[hv];rfl]
  .have:∀{ks:↑(↑aC×V)} {kvs:↑(↑aC×W)} {ys:↑(↑aC×Am×Ae)},bR X.K H M (↑aC) ks kvs->KT H ks ys->aJ X.K H M (ys.map λy=>V.ref y.2.1) (kvs.map λp=>.tup (p.1.map wK)):=by
    intro ks kvs ys q
    induction q generalizing ys with
    | nil=>intro rel;cases rel;show .nil
    | @cons p z ps zs h t ih=>
     intro rel;cases rel with
     | @cons _ y _ ys' g t'=>
      apply .cons ?_ (ih t');let g2:=g.2.1;rw[h.1]at g2;show .tup g2 (uZ z.1)
   show this q rel
end
end L2
namespace PySem
namespace Zd
open L2 Zt
section
variable {prog:Be}{w:Bv}{A:Cw}{E:Ae->Ak->Prop}{s:Ak}
variable {z TI TO i1 i2 l1 l2:Am}{xs ys:Array Ae}{S1 S2:Nat->Dz->Prop}
abbrev pP(h:Dz)(z TI TO p:Am)(b:Bool):Prop:=
 h.get? z=aa {cls:=.type "zip",dict:=ae,data:=.fields [Hy p,.bool b,.bool ac,.ref TI,.ref TO].toArray,slots:=#[]}
def HB{b:Bool}{Q:Bool->Ak->Prop}(hz:pP s.heap z TI TO p b)(hp:s.heap.get? p=aa o)(h:∀h',pP h' z TI TO p ab->Fb z s.heap h'->Q ac {s with heap:=h'}):
  Bo (Cy prog w) A (Dk (.ref z)) Q E s:=by
 unfold Dk;apply Aa (Dh hz rfl (x:=Hy p) rfl ?_);change Bo _ _ (loadIfAlive ((p:Int).toNat)>>=_) _ _ _;rw[Cv];apply Aa (PySem.W.kdx_alive hp ?_);simp only[Option.isNone_some,Fz,if_false];apply Aa (Dh hz rfl (x:=.bool b) rfl ?_);cases b with
 | true=>
  rw[Xa (show ¬((Value.bool ab !=Value.bool ab)=ab) from Bc)];show Ah (h _ hz (Heap.SameBut.refl _ _))
 | false=>
  rw[Xb (show(Value.bool ac !=Value.bool ab)=ab from rfl)];show Aa (Gg hz (by simp) λh' hz' hs'=>Ah (h h' hz' hs'))
def zas{k:Nat}{b:Bool}{Q:Ae->Ak->Prop}(D:Zt.Apart z TI TO i1 i2 l1 l2)(W1:eX prog w i1 l1 xs S1)(W2:eX prog w i2 l2 ys S2)(hz:pP s.heap z TI TO p b)(hp:s.heap.get? p=aa o)(hI:Iq s.heap TI (.ref i1) (.ref i2))(h1:S1 k s.heap)(h2:S2 k s.heap)(hx:xs[k]? = aa x)(hy:ys[k]? = aa y)(hQ:∀h',pP h' z TI TO p ab->S1 (k+1) h'->S2 (k+1) h'->Iq h' ⇑s x y->(∀c o,c≠z->c≠i1->c≠i2->s.heap.get? c=aa o->h'.get? c=aa o)->Q (.ref ⇑s) {s with heap:=h'}):
  Bo (Cy prog w) A (Hk.«zip.__next__» #[[.ref z],[]]) (λfin s'=>∃v,fin=.done (.ret v)/\Q v s') E s:=by
 let nd:=D.nd;simp only[Cp,Ax,Eg,or_false,not_or,not_false_eq_true,Fh,and_true]at nd;obtain⟨⟨zI,zO,z1,z2⟩,⟨IO,I1,I2⟩,⟨O1,O2⟩,n12⟩:=nd;let#[az,aI,aO,a1,a2]:=D.a;let#[bz,bI,bO,b1,b2]:=D.b;let k1:∀c,c=i1\/c=l1->c≠z/\c≠i2:=λc hc=>by
  rcases hc with rfl|rfl
  .show#[Ca z1,n12]
  .show#[az,a2]
 let k2:∀c,c=i2\/c=l2->c≠z/\c≠i1:=λc hc=>by
  rcases hc with rfl|rfl
  .show#[Ca z2,Ca n12]
  .show#[bz,b1]
 change Bo _ _ (Si (.ref z) 2>>=λq=>_) _ _ _;apply Aa (Dh hz rfl (x:=.bool ac) rfl ?_);change Bo _ _ (Si (.ref z) 3>>=λq=>_) _ _ _;apply Aa (Dh hz rfl (x:=.ref TI) rfl (Aa (Fp hI rfl ?_)));change Bo _ _ (Dk (.ref z)>>=λq=>_) _ _ _;apply Aa (HB hz hp λg1 q1 s1=>?_);simp only[Fz,if_false];apply Aa ?_;rw[<-Ls];simp only[Lq,Py];apply Aa (Aa (Dg ?_));change Bo _ _ (Dl (.ref i1)>>=λq=>_) _ _ _;apply Aa (W1.item _ _ {s with heap:=g1} k x _ (W1.keep k _ _ h1 λc hc o e=>s1.extBut c o (k1 c hc).1 e) hx λg2 t2 s2=>Ah ?_);apply Ah ?_;apply Aa (Aa (Dg ?_));change Bo _ _ (Dl (.ref i2)>>=λq=>_) _ _ _;apply Aa (W2.item _ _ {s with heap:=g2} k y _ (W2.keep k _ _ h2 λc hc o e=>s2.extBut c o (k2 c hc).2 (s1.extBut c o (k2 c hc).1 e)) hy λg3 t3 s3=>Ah ?_);apply Ah (Ah ?_);apply Aa (wpAny_newTuple (Ah #[_,rfl,?_]) (hsz:=by change 2<=Ap;decide));let size3:g3.objs.size=⇑s:=by rw[s3.1,s2.1,s1.1]
 let up:∀c o,c≠z->c≠i1->c≠i2->s.heap.get? c=aa o->(g3.push {cls:=.type "tuple",data:=.seq [x,y].toArray}).get? c=aa o:=λc o c1 c2 c3 e=>Af _ (s3.extBut _ _ c3 (s2.extBut _ _ c2 (s1.extBut _ _ c1 e)));change Q (.ref g3.objs.size) _;rw[size3];apply hQ _ (Af _ (s3.extBut _ _ z2 (s2.extBut _ _ z1 q1))) (W1.keep _ _ _ t2 λc hc o e=>Af _ (s3.extBut _ _ (k1 c hc).2 e)) (W2.keep _ _ _ t3 λc hc o e=>Af _ e) ?_ up;rw[<-size3];show Aw _ rfl
def zat{k:Nat}{b:Bool}{Q:Fin->Ak->Prop}(hh:A.handled=ae)(D:Zt.Apart z TI TO i1 i2 l1 l2)(W1:eX prog w i1 l1 xs S1)(W2:eX prog w i2 l2 ys S2)(hz:pP s.heap z TI TO p b)(hp:s.heap.get? p=aa o)(hI:Iq s.heap TI (.ref i1) (.ref i2))(h1:S1 k s.heap)(hend:xs[k]? = ae)(hE:∀h' e,(∀c o,c≠z->c≠i1->s.heap.get? c=aa o->h'.get? c=aa o)->(∃o,h'.get? e=aa o/\o.cls=.type "StopIteration")->E (.ref e) {s with heap:=h'}):
  Bo (Cy prog w) A (Hk.«zip.__next__» #[[.ref z],[]]) Q E s:=by
 let nd:=D.nd;simp only[Cp,Ax,Eg,or_false,not_or,not_false_eq_true,Fh,and_true]at nd;obtain⟨⟨zI,zO,z1,z2⟩,⟨IO,I1,I2⟩,⟨O1,O2⟩,n12⟩:=nd;let#[az,aI,aO,a1,a2]:=D.a;let k1:∀c,c=i1\/c=l1->c≠z/\c≠i2:=λc hc=>by
  rcases hc with rfl|rfl
  .show#[Ca z1,n12]
  .show#[az,a2]
 change Bo _ _ (Si (.ref z) 2>>=λq=>_) _ _ _;apply Aa (Dh hz rfl (x:=.bool ac) rfl ?_);change Bo _ _ (Si (.ref z) 3>>=λq=>_) _ _ _;apply Aa (Dh hz rfl (x:=.ref TI) rfl (Aa (Fp hI rfl ?_)));change Bo _ _ (Dk (.ref z)>>=λq=>_) _ _ _;apply Aa (HB hz hp λg1 q1 s1=>?_);simp only[Fz,if_false];apply Aa ?_;rw[<-Ls];simp only[Lq,Py];apply Aa (Aa (Dg ?_));change Bo _ _ (Dl (.ref i1)>>=λq=>_) _ _ _;show Aa (W1.stop _ _ {s with heap:=g1} k _ hh (W1.keep k _ _ h1 λc hc o e=>s1.extBut c o (k1 c hc).1 e) hend λg2 e s2 he=>hE g2 e (λc o c1 c3 u=>s2 _ _ c3 (s1.extBut _ _ c1 u)) he)
def Zs(d z TI TO i1 i2:Am)(S1 S2:Nat->Dz->Prop)(k:Nat)(h:Dz):Prop:=
 Iq h TI (.ref i1) (.ref i2)/\S1 k h/\S2 k h/\d<h.objs.size/\z<h.objs.size/\TO<h.objs.size/\i1<h.objs.size/\i2<h.objs.size/\
  ((Rf h z TI TO .none/\∃a b,Iq h TO a b)\/∃p b o,pP h z TI TO p b/\h.get? p=aa o/\p≠z/\p≠TO/\p≠i1/\p≠i2/\p≠d)
def next{k:Nat}{Q:Option Ae->Ak->Prop}(D:Zt.Apart z TI TO i1 i2 l1 l2)(W1:eX prog w i1 l1 xs S1)(W2:eX prog w i2 l2 ys S2)(st:Zs d z TI TO i1 i2 S1 S2 k s.heap)(hx:xs[k]? = aa x)(hy:ys[k]? = aa y)(hQ:∀h',Zs d z TI TO i1 i2 S1 S2 (k+1) h'->Iq h' ⇑s x y->(∀c o,c≠z->c≠TO->c≠i1->c≠i2->s.heap.get? c=aa o->h'.get? c=aa o)->Q (aa (.ref ⇑s)) {s with heap:=h'}):
  Bo (Cy prog w) A (Ij (.ref z)) Q E s:=by
 let nd:=D.nd;simp only[Cp,Ax,Eg,or_false,not_or,not_false_eq_true,Fh,and_true]at nd;obtain⟨⟨zI,zO,z1,z2⟩,⟨IO,I1,I2⟩,⟨O1,O2⟩,n12⟩:=nd;let#[hI,s1,s2,ld,lz,lO,li1,li2,st]:=st;rcases st with⟨hz,a,b,hO⟩|⟨p,b,o,hz,hp,p1,p2,p3,p4,p5⟩
 .apply next_item D W1 W2 hz hI hO s1 s2 hx hy λh' c1 c2 c3 c4 c5 c6=>hQ h' ?_ c5 c6;let l:=Ba c5;show#[c6 _ _ (Ca zI) IO I1 I2 hI,c3,c4,Gm ld l,Gm lz l,Gm lO l,Gm li1 l,Gm li2 l,.inr #[⇑s,ac,_,c1,c5,Co lz,Co lO,Co li1,Co li2,Co ld]]
 .let ty:s.TypeIs (.ref z) "zip":=#[_,hz,rfl];unfold Ij;apply Aa (Hr (Dj (name:=Cd "__next__") ty Jf (Cs Jf ty Po (zas D W1 W2 hz hp hI s1 s2 hx hy λh' c1 c2 c3 c4 c5=>Ah (hQ h' ?_ c4 λc o e1 e2 e3 e4=>c5 c o e1 e3 e4)) (Oy _))));let l:=Ba c4;show#[c5 _ _ (Ca zI) I1 I2 hI,c2,c3,Gm ld l,Gm lz l,Gm lO l,Gm li1 l,Gm li2 l,.inr #[p,ab,o,c1,c5 p o p1 p3 p4 hp,p1,p2,p3,p4,p5]]
def done{k:Nat}{Q:Option Ae->Ak->Prop}(hh:A.handled=ae)(D:Zt.Apart z TI TO i1 i2 l1 l2)(W1:eX prog w i1 l1 xs S1)(W2:eX prog w i2 l2 ys S2)(st:Zs d z TI TO i1 i2 S1 S2 k s.heap)(hx:xs[k]? = ae)(hQ:∀h',(∀c o,c≠z->c≠TO->c≠i1->c≠i2->s.heap.get? c=aa o->h'.get? c=aa o)->Q ae {s with heap:=h'}):
  Bo (Cy prog w) A (Ij (.ref z)) Q E s:=by
 let#[hI,s1,s2,ld,lz,lO,li1,li2,st]:=st;rcases st with⟨hz,a,b,hO⟩|⟨p,b,o,hz,hp,p1,p2,p3,p4,p5⟩
 .show next_stop hh D W1 W2 hz hI hO s1 s2 (.inl hx) hQ
 .let ty:s.TypeIs (.ref z) "zip":=#[_,hz,rfl];unfold Ij;apply Aa (Hr (Dj (name:=Cd "__next__") ty Jf (Cs Jf ty Po (zat (xs:=xs) hh D W1 W2 hz hp hI s1 hx λh' e hk #[o,ho,hc]=>?_) (Oy _))));show Aa (Ft (T:="StopIteration") (b:=ab) #[o,ho,hc] Ra (Ah (hQ _ λc o e1 e2 e3 e4=>hk c o e1 e3)))
def Zs.at{k:Nat}(D:Zt.Apart z TI TO i1 i2 l1 l2)(W1:eX prog w i1 l1 xs S1)(W2:eX prog w i2 l2 ys S2)(hd:d≠z/\d≠TI/\d≠TO/\d≠i1/\d≠i2/\d≠l1/\d≠l2)(st:Zs d z TI TO i1 i2 S1 S2 k h)(hs:Fb d h h'):Zs d z TI TO i1 i2 S1 S2 k h':=by
 let#[hI,s1,s2,ld,lz,lO,li1,li2,st]:=st;let#[d1,d2,d3,d4,d5,d6,d7]:=hd;apply#[(hs.2 _ (Ca d2)).trans hI,W1.keep _ _ _ s1 λc hc o e=>(hs.2 c ?_).trans e,W2.keep _ _ _ s2 λc hc o e=>(hs.2 c ?_).trans e,by rw[hs.1];show ld,by rw[hs.1];show lz,by rw[hs.1];show lO,by rw[hs.1];show li1,by rw[hs.1];show li2,?_]
 .rcases hc with rfl|rfl
  .show Ca d4
  .show Ca d6
 .rcases hc with rfl|rfl
  .show Ca d5
  .show Ca d7
 .rcases st with⟨hz,a,b,hO⟩|⟨p,b,o,hz,hp,p1,p2,p3,p4,p5⟩
  .show .inl #[(hs.2 _ (Ca d1)).trans hz,a,b,(hs.2 _ (Ca d3)).trans hO]
  .show .inr #[p,b,o,(hs.2 _ (Ca d1)).trans hz,(hs.2 _ p5).trans hp,p1,p2,p3,p4,p5]
abbrev TK(prog:Be)(w:Bv):=Ib (bT prog w)
def allH(es:↑(↑aC×Am×Ae))(ps:↑(↑aC×Am×Ae)):↑(↑aC×Am×Ae):=ps.foldl (λes p=>Od es p.1 p.2.1 p.2.2) es
def y8(es:↑(↑aC×Am×Ae))(k:↑aC)(a:Am)(v:Ae):↥(Od es k a v)<=↥es+1:=by
 unfold Od;split
 .rw[Ab];lia
 .rw[Ag,Bz];show Aj _
def oF(x:(TK prog w).is h k a)(e:∀o,h.get? a=aa o->h'.get? a=aa o):(TK prog w).is h' k a:=by
 let#[o,items,n,ho,r]:=x;show#[o,items,n,e o ho,r]
def loop{d:Am}{ps:↑(↑aC×Am×Ae)}{R:Tp->Ak->Prop}(hh:A.handled=ae)(hu:(TK prog w).room A.in1)(D:Zt.Apart z TI TO i1 i2 l1 l2)(W1:eX prog w i1 l1 xs S1)(W2:eX prog w i2 l2 ys S2)(hd:d≠z/\d≠TI/\d≠TO/\d≠i1/\d≠i2/\d≠l1/\d≠l2)(hz:↥ps<=Ap)(hx:∀j:Nat,xs[j]? = (ps[j]?).map λp=>.ref p.2.1)(hy:∀j:Nat,ys[j]? = (ps[j]?).map λp=>p.2.2)(hk:∀p∈ps,p.2.1≠z/\p.2.1≠TO/\p.2.1≠i1/\p.2.1≠i2/\p.2.1≠d):
  ∀(m k:Nat) (s:Ak) (es:↑(↑aC×Am×Ae)),↥ps-k=m->k<=↥ps->↥es<=k->Zs d z TI TO i1 i2 S1 S2 k s.heap->s.heap.DictOfH (TK prog w) d es->(∀e∈es,e∈ps\/∃p∈ps,p.2.1=e.2.1)->
  (∀p∈ps,(TK prog w).is s.heap p.1 p.2.1)->
  (∀h' tk,(∀b o,b≠d->b≠z->b≠TO->b≠i1->b≠i2->s.heap.get? b=aa o->h'.get? b=aa o)->h'.DictOfH (TK prog w) d (allH es (ps.drop k))->R (.ok (.ret .none)) {s with heap:=h',toks:=tk})->
  Mf (Cy prog w) A (.builtin "dict.update.loop" #[[.ref d,.ref z,Hy (k:Int),.none],[]]) R s:=by
 intro m;let dictAt:∀{h h':Dz} {es:↑(↑aC×Am×Ae)},h.DictOfH (TK prog w) d es->(∀e∈es,e∈ps\/∃p∈ps,p.2.1=e.2.1)->(∀c o,c≠z->c≠TO->c≠i1->c≠i2->h.get? c=aa o->h'.get? c=aa o)->h'.DictOfH (TK prog w) d es:=by
  rintro h h' es ⟨o,en,ep,ho,hc,hdd,he,his,hn⟩ hes hm;apply#[o,en,ep,hm d o hd.1 hd.2.2.1 hd.2.2.2.1 hd.2.2.2.2.1 ho,hc,hdd,he,λx hx'=>oF (his x hx') λo' e=>?_,hn];have:x.2.1≠z/\x.2.1≠TO/\x.2.1≠i1/\x.2.1≠i2:=by
   rcases hes x hx' with q|⟨p,q,e'⟩
   .have:=hk x q;show#[this.1,this.2.1,this.2.2.1,this.2.2.2.1]
   .have:=hk p q;rw[e']at this;show#[this.1,this.2.1,this.2.2.1,this.2.2.2.1]
  show hm _ _ this.1 this.2.1 this.2.2.1 this.2.2.2 e
 induction m with
 | zero=>
  intro k s es hm hle hl st hdd hes hkeys hR;let hin:k=↥ps:=by lia
  apply Me Dp.entry_loop ?_;rw[Iy Dp.plain_loop _];change Bo _ A.in1 (Ij (.ref z)>>=_) _ _ s;apply Aa (done hh D W1 W2 st (by rw[hx,hin];simp) λh' hm'=>?_);change Bo _ A.in1 (Builtin.Dict.addKeywords d []>>=_) _ _ _;apply Aa (Ah (Ah (hR h' _ (λb o _ b1 b2 b3 b4 e=>hm' b o b1 b2 b3 b4 e) ?_)));rw[List.drop_of_length_le (by lia)];show dictAt hdd hes hm'
 | succ m ih=>
  intro k s es hm hle hl st hdd hes hkeys hR;let hlt:k<↥ps:=by lia
  obtain⟨p,hp⟩:∃p,ps[k]? = aa p:=#[_,Bj hlt];let hpm:p∈ps:=Au hp;apply Me Dp.entry_loop ?_;rw[Iy Dp.plain_loop _];change Bo _ A.in1 (Ij (.ref z)>>=_) _ _ s;apply Aa (next D W1 W2 st (x:=.ref p.2.1) (y:=p.2.2) (by rw[hx,hp];rfl) (by rw[hy,hp];rfl) λh' st' hpair hm'=>?_);let hdd':=dictAt hdd hes hm';let hkeys':∀q∈ps,(TK prog w).is h' q.1 q.2.1:=λq hq=>oF (hkeys q hq) λo e=>hm' _ o (hk q hq).1 (hk q hq).2.1 (hk q hq).2.2.1 (hk q hq).2.2.2.1 e;change Bo _ A.in1 (Kq [Value.ref ⇑s] _>>=_) _ _ _;apply Aa (Dg (Aa (wpAny_tryCatch ?_)));unfold Builtin.Dict.pairItems;apply Aa (Ll (T:="tuple") #[_,hpair,rfl] ?_);rw[Xb ∅];apply Aa (Fp hpair rfl (Ah ?_));change Bo _ _ (Kq [Value.ref p.2.1,p.2.2] (Wt d (.ref p.2.1) p.2.2)) _ _ _;apply Dg (Sm (knd:=TK prog w) hu (hkeys' p hpm) hdd' (hsz:=by lia) λh2 hd3 hs2=>?_);let e1:ps.drop k=p::ps.drop (k+1):=by rw[Eb hlt];congr 1;show(An.mp hp).2
  apply Ah #[Kh Dp.plain_loop _,?_];apply ih (k+1) _ (Od es p.1 p.2.1 p.2.2) (by lia) hlt (by have:=y8 es p.1 p.2.1 p.2.2;lia) (st'.at D W1 W2 hd hs2) hd3 (λe he=>?_) (λq hq=>oF (hkeys' q hq) λo e=>(hs2.2 _ (hk q hq).2.2.2.2).trans e) λh3 tk3 hk3 hd4=>?_
  .unfold Od at he;split at he
   .let#[e0,he0,rfl]:=Ao.mp he;have:(Ws p.1 p.2.2 e0).2.1=e0.2.1:=by unfold Ws;split<;>rfl
    rw[this];rcases hes e0 he0 with q|⟨p',q,e'⟩
    .show .inr #[e0,q,rfl]
    .show .inr #[p',q,e']
   .rcases Bb.mp he with q|q
    .show hes e q
    .obtain rfl:=Ai.mp q;show .inl hpm
  .apply hR h3 tk3 (λb o h1 b1 b2 b3 b4 e=>hk3 b o h1 b1 b2 b3 b4 ((hs2.2 b h1).trans (hm' b o b1 b2 b3 b4 e))) ?_;rw[e1];show hd4
end
end Zd
end PySem
namespace PySem
namespace Zd
open L2 Zt
open PySem.Sem (wp)
def zau:Ld (.type "zip") "__getattr__" = pure ae:=by rw[Gq,Ef];kernel_rfl
def zav:Ld (.type "zip") "keys" = pure ae:=by rw[Gq,Ef];kernel_rfl
def zaw:Uo table "zip.__getattribute__" = aa Hk.«object.__getattribute__»:=
 entryFor_alias (id':="object.__getattribute__") (by kernel_rfl) (by decide +kernel) (by decide +kernel) (by kernel_rfl)
def zax(a:Am)(vs:Array Ae)(name:Av)(u:Vu)(hmiss:Ld (.type "zip") name=pure ae)(hname:(["__module__","__name__","__qualname__","__doc__","__annotations__"]:↑Av).contains name=ac)(hsz:↥name+100<=Ap):
  Meets (Hk.«object.__getattribute__» #[[.ref a,.str name u],[]]) (λA R s=>s.heap.get? a=aa {cls:=.type "zip",dict:=ae,data:=.fields vs,slots:=#[]}/\raisesAttr (.ref a) name A R s):=
 Meets.of_wp λprog w A R s hs=>by
  let#[hp,g,d,tk,os]:=s;let#[hx,hs]:=hs;let hT:(#[hp,g,d,tk,os]:Ak).TypeIs (.ref a) "zip":=#[_,hx,rfl];unfold Hk.«object.__getattribute__»
  repeat (any_goals (first|assumption|wp_step))
  simp only[hname,Fz,if_false]
  repeat (any_goals (first|assumption|wp_step))
  show wpAny_raiseAttrError hs.1 hs.2 (attrMsg_fits (by decide +kernel) hsz)
section
variable {prog:Be}{w:Bv}{A:Cw}{E:Ae->Ak->Prop}{s:Ak}
def keys_miss{Q:Option Ae->Ak->Prop}(hx:s.heap.get? a=aa {cls:=.type "zip",data:=.fields vs})(hA:A.handled=ae)(h:∀h' tk,(∀b o,s.heap.get? b=aa o->h'.get? b=aa o)->Q ae {s with heap:=h',toks:=tk}):Bo (Cy prog w) A (Wc (.ref a) (Cd "keys")) Q E s:=by
 let#[hp,g,d,tk,os]:=s;let hT:∀tk',(#[hp,g,d,tk',os]:Ak).TypeIs (.ref a) "zip":=λ_=>#[_,hx,rfl]
 let f1:=sub_AttributeError;let f3:=Pm.lookup;let f4:=Pm.bind (.ref a);let f5:=zau;unfold Wc getAttrBy? getAttrBy
 repeat (any_goals (first|assumption|exact hT _|((with_reducible change Bo _ _ (call (Value.builtin "zip.__getattribute__") _ _) _ _ _);refine Lf Pm (hT _) zaw (F.args_zip_getattribute_2 _ _) (zax a vs (Cd "keys") _ zav (by decide +kernel) (by decide +kernel)) #[hx,hA,λh' tk' e hx'=>?_])|wp_step))
 let#[t',u',he]:=hx'.there;let hx2:=hx'.of.keeps;change Bo _ _ (Oo _ _ _ _ _ _ _) _ _ _;unfold Oo
 repeat (any_goals (first|assumption|wp_step))
 show h _ _ hx2
def call_zip{l1 l2:Am}{xs ys:Array Ae}{ps:↑(↑aC×Am×Ae)}{Q:Ae->Ak->Prop}(hh:A.handled=ae)(hu:A.units+2<Fu)(h1:s.heap.IsList l1 xs)(h2:s.heap.IsList l2 ys)(hz:↥ps<=Ap)(hx:∀j:Nat,xs[j]? = (ps[j]?).map λp=>.ref p.2.1)(hy:∀j:Nat,ys[j]? = (ps[j]?).map λp=>p.2.2)(hkeys:∀p∈ps,(TK prog w).is s.heap p.1 p.2.1)(h:∀h' tk d,⇑s<=d->(∀b o,s.heap.get? b=aa o->h'.get? b=aa o)->h'.DictOfH (TK prog w) d (allH [] ps)->Q (.ref d) {s with heap:=h',toks:=tk}):
  Bo (Cy prog w) A (call (.type "zip") [.ref l1,.ref l2]) (λv s1=>Bo (Cy prog w) A (call (.type "dict") [v]) Q E s1) E s:=by
 let la:@LT.lt Nat _ l1 ⇑s:=by let#[_,e,_]:=h1;show Ba e
 let lb:@LT.lt Nat _ l2 ⇑s:=by let#[_,e,_]:=h2;show Ba e
 apply call_zip_2 h1 h2 λg g1 g2 g3 g4 g5 g6 gk=>?_;apply Rb (Q₁:=λobj s₁=>obj=.ref g.objs.size/\s₁ = {s with heap:=g.push {cls:=.type "dict",data:=.dict #[]}}) F.kt_called_dict (F.kt_typeCall_dict_1 _) F.entry_dict_init (kt_code_dict_new _ #[rfl,rfl]) ?_;rintro obj s₁ ⟨rfl,rfl⟩;let hnew:(g.push {cls:=.type "dict",data:=.dict #[]}).DictOfH (TK prog w) g.objs.size []:=Heap.DictOfH.new g;let z1:=Af {cls:=.type "dict",data:=.dict #[]} g1;let hty:({s with heap:=g.push {cls:=.type "dict",data:=.dict #[]}}:Ak).TypeIs (.ref g.objs.size) "dict":=hnew.typeIs;apply#[hty,F.args_dict_init_2 _ _,?_];unfold Hk.«dict.__init__»;apply Aa ?_;unfold Builtin.Dict.selfAndRest;apply Aa (Hu hty ?_);change Bo _ _ (pure (g.objs.size,[Value.ref (⇑s+4)])) _ _ _;apply Ah ?_;change Bo _ _ (Ko "dict.__init__" g.objs.size (.ref (⇑s+4)) [] .none) _ _ _;unfold Ko;apply Aa (Ll (T:="zip") #[_,z1,rfl] ?_);rw[Xb ∅];apply Aa (keys_miss z1 hh λk1 tk1 hk1=>?_);rw[Xb ∅];let up:∀b o,g.get? b=aa o->k1.get? b=aa o:=λb o e=>hk1 b o (Af _ e);apply Aa (Ic (Aa (Tg (up _ _ g1) ?_)));apply Ah #[Kh Dp.plain_loop _,?_];let hd1:k1.DictOfH (TK prog w) g.objs.size []:=by
  let#[o,es,ep,ho,r1,r2,r3,r4,r5]:=hnew;show#[o,es,ep,hk1 _ o ho,r1,r2,r3,(λx hx=>nomatch hx),r5]
 let lg:g.objs.size<k1.objs.size:=by
  let#[o,es,ep,ho,_]:=hd1;show Ba ho
 let D:Zt.Apart (⇑s+4) (⇑s+2) (⇑s+3) ⇑s (⇑s+1) l1 l2:=#[EL _,#[gF 4 la,gF 2 la,gF 3 la,qU la,gF 1 la],#[gF 4 lb,gF 2 lb,gF 3 lb,qU lb,gF 1 lb]];let eg:g.objs.size=⇑s+5:=g6;let i1:k1.IsListIter ⇑s l1 0:=g4.at (up _);let i2:k1.IsListIter (⇑s+1) l2 0:=g5.at (up _);let ll1:k1.IsList l1 xs:=h1.at λo e=>up _ _ (gk _ _ e);let ll2:k1.IsList l2 ys:=h2.at λo e=>up _ _ (gk _ _ e);let lk:∀p∈ps,@LT.lt Nat _ p.2.1 ⇑s:=λp hp=>by
  let#[o,items,n,e,_]:=hkeys p hp;show Ba e
 apply loop (A:=A.in1) (d:=g.objs.size) (ps:=ps) hh (Gh (A:=A.in1) (show(A.units+1)+1<Fu from hu)) D (EK _ _ (qU la) xs) (EK _ _ (gF 1 lb) ys) #[Co (by lia),Co (by lia),Co (by lia),Co (by lia),Co (by lia),Co (by lia),Co (by lia)] hz hx hy (λp hp=>by have:=lk p hp;show#[Bl (by lia),Bl (by lia),Bl (by lia),Bl (by lia),Bl (by lia)]) ↥ps 0 _ [] rfl (Cr _) (Aj _)
  #[up _ _ g2,#[i1,ll1],#[i2,ll2],lg,(show @LT.lt Nat _ (⇑s+4) k1.objs.size by lia),(show @LT.lt Nat _ (⇑s+3) k1.objs.size by lia),(show @LT.lt Nat _ ⇑s k1.objs.size by lia),(show @LT.lt Nat _ (⇑s+1) k1.objs.size by lia),.inl #[up _ _ g1,_,_,up _ _ g3]] hd1 (λe he=>nomatch he) (λp hp=>oF (hkeys p hp) λo e=>up _ _ (gk _ _ e)) λh2 tk2 hk2 hd2=>?_
 apply#[rfl,h h2 tk2 g.objs.size (by lia) (λb o e=>?_) hd2];let lb':@LT.lt Nat _ b ⇑s:=Ba e;show hk2 b o (Bl (by lia)) (Bl (by lia)) (Bl (by lia)) (Bl (by lia)) (Bl (by lia)) (up _ _ (gk _ _ e))
end
end Zd
end PySem
namespace L2
noncomputable def jZ(ks:↑(↑aC×V))(ps:↑(↑aC×V)):↑(↑aC×V):=ps.foldl (λk p=>dZ k p.1 p.2) ks
theorem HC{H:Hp}:∀{qs:↑(↑aC×Am×V)} {us ws:↑Ae},aY (qs.map λq=>V.ref q.2.1) us->aY (qs.map λq=>q.2.2) ws->
  ∃ps:↑(↑aC×Am×Ae),us=ps.map (λp=>.ref p.2.1)/\ws=ps.map (λp=>p.2.2)/\Gk (λ(q:↑aC×Am×V) (p:↑aC×Am×Ae)=>q.1=p.1/\q.2.1=p.2.1/\RelV q.2.2 p.2.2) qs ps
 | [],_,_,h1,h2=>by cases h1;cases h2;show#[[],rfl,rfl,.nil]
 | q::qs,_,_,h1,h2=>by
  cases h1 with
  | @cons _ u _ us r1 t1=>
   cases h2 with
   | @cons _ w _ ws r2 t2=>
    let#[ps,e1,e2,e3]:=HC (H:=H) t1 t2;cases (show u=Value.ref q.2.1 from r1);show#[(q.1,q.2.1,w)::ps,by rw[Bi,e1],by rw[Bi,e2],.cons #[rfl,rfl,r2] e3]
def HD(h:Gk (λ(q:↑aC×Am×V) (p:↑aC×Am×Ae)=>q.1=p.1/\q.2.1=p.2.1/\RelV q.2.2 p.2.2) qs ps):
  ∀{kvs:↑(↑aC×V)} {es:↑(↑aC×Am×Ae)},(∀q∈qs,H q.2.1=aa (.tup (q.1.map kV)))->KT H kvs es->KT H (jZ kvs (qs.map λq=>(q.1,q.2.2))) (Zd.allH es ps):=by
 induction h with
 | nil=>intro kvs es _ k;show k
 | @cons q p qs ps r t ih=>
  intro kvs es hq k;let#[q1,q2,q3]:=q;let#[p1,p2,p3]:=p;let#[rfl,rfl,r3]:=r;show ih (λz hz=>hq z (Bp _ hz)) (k.put q1 (hq _ Bw) r3)
theorem y9:∀(ps:↑(↑aC×V)) (ks:↑(↑aC×V)),↥(jZ ks ps)<=↥ks+↥ps
 | [],ks=>Aj _
 | p::ps,ks=>by
  let h1:=y9 ps (dZ ks p.1 p.2);let h2:=oV ks p.1 p.2;change(jZ (dZ ks p.1 p.2) ps).length<=↥ks+(↥ps+1);lia
section
variable {X:Cx}{a b:Cm}{ta:TA}{p p2 pos pos2:Ih}
def zay(K:Ac)(ta:TA):TE:=λZ H Q=>ta Z H λvs H1=>∃a b xs ys,∃qs:↑(↑aC×Am×V),vs=[.ref a,.ref b]/\bL K H1 a xs/\bL K H1 b ys/\xs=(qs.map λq=>.ref q.2.1)/\ys=(qs.map λq=>q.2.2)/\(∀q∈qs,H1 q.2.1=aa (.tup (q.1.map kV)))/\
 ∀p,H1 p=ae->Q (.ref p) (aL H1 p (.dT (jZ [] (qs.map λq=>(q.1,q.2.2)))))
def zaz(hc:X.calm=ab)(hu:X.A.units+2<Fu)(hg:Gl X "dict")(hm:X.mg "dict" = ae)(hg2:Gl X "zip")(hm2:X.mg "zip" = ae)(ha:PA X [a,b] ta)(hs1:Cg [.Call (.Name "zip" p2) [a,b] [] pos2] X.env=[(ac,El (.Call (.Name "zip" p2) [a,b] [] pos2) X.env)]:=by rfl)(hs:Cg [a,b] X.env=[(ac,El a X.env),(ac,El b X.env)]:=by rfl)(hs2:Cg [b] X.env=[(ac,El b X.env)]:=by rfl):
  PE X (.Call (.Name "dict" p) [.Call (.Name "zip" p2) [a,b] [] pos2] [] pos) (zay X.K ta):=by
 intro af s Z H Q I h;apply Dy (fP I hg hm (by decide +kernel:Cz "dict" = aa (.type "dict")) (Bx ?_ hs1 rfl));rw[hs1];apply Jp (Dy (fP I hg2 hm2 EA (Bx (aV (ha pos2 af s Z H _ I h) λus s1 z0=>?_) (by rw[hs,hs2]) (by rw[hs2];rfl))));let#[vs,H1,I1,r1,q1]:=z0;let#[l1,l2,xs,ys,qs,rfl,hqa,hqb,rfl,rfl,hq,q]:=q1;let#[u,v,rfl,ru,rv]:=vals2 r1;cases ru;cases rv;let#[its,rv1,pl,hz]:=I1.list hqa;let#[its2,rv2,pl2,hz2]:=I1.list hqb;let#[ps,e1,e2,e3]:=HC (H:=H1) rv1 rv2;let ln:=Ea e3;rw[Ab]at hz;apply Jl (Zd.call_zip (E:=X.xe) (ps:=ps) (I1.ok.hd hc) hu pl.isList pl2.isList (by lia) (λj=>?_) (λj=>?_) (λz hz'=>?_) (λh' tk d hd hk dd=>?_)) (λv s2 hv=>Jz hv) λ_ _ e=>e
 .rw[e1,<-Fm];simp
 .rw[e2,<-Fm];simp
 .have:∀{qs:↑(↑aC×Am×V)} {ps:↑(↑aC×Am×Ae)},Gk (λ(q:↑aC×Am×V) (p:↑aC×Am×Ae)=>q.1=p.1/\q.2.1=p.2.1/\RelV q.2.2 p.2.2) qs ps->(∀q∈qs,H1 q.2.1=aa (.tup (q.1.map kV)))->∀z∈ps,H1 z.2.1=aa (.tup (z.1.map kV)):=by
   intro qs ps h
   induction h with
   | nil=>intro _ z hz;cases hz
   | @cons q p qs ps r t ih=>
    intro hq z hz;rcases Ax.mp hz with rfl|hz
    .have:=hq q Bw;rw[r.1,r.2.1]at this;show this
    .show ih (λy hy=>hq y (Bp _ hy)) z hz
  show iL I1.hok (this e3 hq z hz')
 .let hfr:=I1.hok.fresh hd;let hbig:=I1.big;let len:=y9 (qs.map λq=>(q.1,q.2.2)) [];rw[Ab]at len;apply#[.ref d,_,I1.laid (o:=.dT (jZ [] (qs.map λq=>(q.1,q.2.2)))) (t':=tk) hk hd #[by simp at len;lia,beq_eq_false_iff_ne.mpr (Co (Ci hbig hd)),_,(HD e3 hq .nil).keeps λc ys ec=>?_,?_],rfl,q d hfr]
  .rw[bD (eR ec hfr)];show ec
  .let#[o,en,ep,r1,r2,r3,r4,_,r5]:=dd;show#[o,en,ep,r1,r2,r3,r4,r5]
end
noncomputable def jA(kvs:↑(↑aC×W))(ps:↑(↑aC×W)):↑(↑aC×W):=ps.foldl (λkvs p=>bW kvs p.1 p.2) kvs
section
variable {X:Cx}{a b:Cm}{ta:cV}
abbrev HE(ta:cV):aP:=λτ M R=>ta τ M λws M1=>∃ps:↑(↑aC×W),ws=[.rl (ps.map λp=>.tup (p.1.map wK)),.rl (ps.map λp=>p.2)]/\R (.dt (jA [] ps)) M1
def zaA(hu:X.A.units+2<Fu)(hg:Gl X "dict")(hm:X.mg "dict" = ae)(hg2:Gl X "zip")(hm2:X.mg "zip" = ae)(ha:A3 X [a,b] ta)(hc:X.calm=ab:=by rfl)(hs1:Cg [.Call (.Name "zip" p2) [a,b] [] pos2] X.env=[(ac,El (.Call (.Name "zip" p2) [a,b] [] pos2) X.env)]:=by rfl)(hs:Cg [a,b] X.env=[(ac,El a X.env),(ac,El b X.env)]:=by rfl)(hs2:Cg [b] X.env=[(ac,El b X.env)]:=by rfl):
  E3 X (.Call (.Name "dict" p) [.Call (.Name "zip" p2) [a,b] [] pos2] [] pos) (HE ta):=
 (zaz hc hu hg hm hg2 hm2 ha hs1 hs hs2).weak λZ H Q z0=>z0.el λτ M R as am h k=>#[τ,M,_,as,am,h,λvs H1 ws M1 k1 am1 ax r=>by
  let#[ps,rfl,r]:=r;let#[v,u,rfl,av,au]:=ax.two;cases av with
  | @rl l1 xs _ f1 n1 q1=>
   cases au with
   | @rl l2 ys _ f2 n2 q2=>
    let key:∀{ps:↑(↑aC×W)} {xs ys:↑V},aJ X.K H1 M1 xs (ps.map λp=>.tup (p.1.map wK))->aJ X.K H1 M1 ys (ps.map λp=>p.2)->∃qs:↑(↑aC×Am×V),xs=(qs.map λq=>.ref q.2.1)/\ys=(qs.map λq=>q.2.2)/\(∀q∈qs,H1 q.2.1=aa (.tup (q.1.map kV)))/\bR X.K H1 M1 (↑aC) (qs.map λq=>(q.1,q.2.2)) ps:=by
     intro ps
     induction ps with
     | nil=>intro xs ys h1 h2;cases h1;cases h2;show#[[],rfl,rfl,(λq hq=>nomatch hq),.nil]
     | cons p ps ih=>
      intro xs ys h1 h2;cases h1 with
      | @cons x xs' _ _ a1 t1=>
       cases h2 with
       | @cons y ys' _ _ a2 t2=>
        let#[qs,e1,e2,e3,e4]:=ih t1 t2;cases a1 with
        | @tup c zs _ ec qc=>
         rw[qc.keys]at ec;apply#[(p.1,c,y)::qs,by rw[e1];rfl,by rw[e2];rfl,λq hq=>?_,.cons #[rfl,a2] e4];rcases Ax.mp hq with rfl|hq
         .show ec
         .show e3 q hq
    let#[qs,e1,e2,e3,e4]:=key q1 q2;apply#[l1,l2,xs,ys,qs,rfl,bL.of f1,bL.of f2,e1,e2,e3,λd hd=>?_];let puts:∀{ps:↑(↑aC×W)} {qs:↑(↑aC×V)} {ks:↑(↑aC×V)} {kvs:↑(↑aC×W)},bR X.K H1 M1 (↑aC) qs ps->bR X.K H1 M1 (↑aC) ks kvs->bR X.K H1 M1 (↑aC) (jZ ks qs) (jA kvs ps):=by
     intro ps qs ks kvs h
     induction h generalizing ks kvs with
     | nil=>intro h;show h
     | @cons q p qs ps r t ih=>
      intro h;let#[q1,q2]:=q;let#[p1,p2]:=p;let#[rfl,r2]:=r;show ih (rJ h q1 r2)
    let g:=puts (ks:=[]) (kvs:=[]) e4 .nil;let#[am2,k2]:=am1.tup (u:=.dT (jZ [] (qs.map λq=>(q.1,q.2.2)))) hd;show k _ _ _ _ (k1.trans k2) am2 (.dt b7 (am1.nonM hd) g.keys (g.vals.newT hd)) r]
end
structure Dm(K:Ac)(C:Am)(x qual:Av)(st:Kx)(ps:↑Av)(f:Am)(fd:Fs):Prop where
 fn:iY K x qual st f fd
 me:oU K C x f
 bi:Binds K fd ps []
structure Di(K:Ac)(C:Am)(x qual:Av)(st:Kx)(ps:↑Av)(f:Am)(fd:Fs):Prop where
 fn:iY K x qual st f fd
 mak:Mk K C f
 bi:Binds K fd ps []
def zA{k:Nat}(G:cI k A):A.units+2<Fu:=by have:=G.un;lia
noncomputable def lN:↑(Int×Int)->Bool
 | []=>ac
 | z::l=>if z.1=z.2 then lN l else decide (z.1<z.2)
noncomputable def dJ(a b:Int×Int):Bool:=lN [(a.1,b.1),(a.2,b.2)]
def pQ:dJ a b=ab↔a.1<b.1\/(a.1=b.1/\a.2<b.2):=by
 unfold dJ lN lN lN;split
 .split<;>simp<;>lia
 .simp;lia
def j0:dJ b a=ac↔a.1<b.1\/(a.1=b.1/\a.2<=b.2):=by
 rw[<-Bool.not_eq_true,pQ];lia
section
variable {prog:Be}{w:Bv}{A:Cw}{E:Ae->Ak->Prop}{s:Ak}
def zaB{L nb:Nat}{x1 x2 m d:Int}{Q:Ae->Ak->Prop}(C:A.units+1<Fu)(g:s.heap.get? a=aa G)(H:G.cls=.type "tuple")(O:G.data=.seq xs L)(x:s.heap.get? b=aa ob)(I:ob.cls=.type "tuple")(i:ob.data=.seq ys nb)(ex:xs.toList=[.int x1 U,.int x2 f])(B:ys.toList=[.int m Y,.int d o])(h:Q (.bool (dJ (x1,x2) (m,d))) s):Bo (Cy prog w) A (Dr .Lt (.ref a) (.ref b)) Q E s:=by
 let y:s.TypeIs (.ref b) "tuple":=#[ob,x,I];apply Oc (op:=.Lt) #[G,g,H] y PySem.F.slot_tuple_lt (Cs PySem.F.slot_tuple_lt #[G,g,H] PySem.F.entry_tuple_lt ?_ (PySem.F.args_tuple_lt_2 _ _)) (Ml C);change Bo _ _ (Wm (.ref b) (.type "tuple")>>=_) _ _ s;apply Aa (Ft y Km (Aa (Iz g O (Aa (Iz x i (Aa ?_))))));rw[ex,B];let J:=congrArg Jc ex;let D:=congrArg Jc B;apply Lm _ (λrest q j=>q.1=ae/\j=s/\∃l,lN l=dJ (x1,x2) (m,d)/\Gk (λp (z:Int×Int)=>∃t u,p=(Value.int z.1 t,Value.int z.2 u)) rest l) _ ?_ ?_ _ _ #[rfl,rfl,[(x1,m),(x2,d)],rfl,.cons #[_,_,rfl] (.cons #[_,_,rfl] .nil)]
 .rintro p rest q j ⟨hq,rfl,l,hl,S⟩;cases S with
  | @cons _ z _ l a b=>
   let#[t,u,rfl]:=a;apply Aa (Ti ?_);unfold lN at hl;cases hi:z.1==z.2
   .rw[Xa (ne_of_beq_false hi)]at hl;rw[<-hl]at h;show Aa (Ic (Aa (PyProof.Rows.lt_int (Aa (Ah (Ah (Ah #[_,rfl,(λe=>nomatch e),h])))))))
   .rw[Xb (eq_of_beq hi)]at hl;show Ah #[rfl,rfl,l,hl,b]
 .rintro⟨W,n⟩ j ⟨rfl,rfl,l,hl,S⟩;cases S;apply Ah #[_,rfl,(λe=>nomatch e),?_];rw[<-hl]at h;rw[Fj]at J D;rw[J,D];show h
def zaC{L nb:Nat}{x1 x2 m d:Int}{Q:Ae->Ak->Prop}(C:A.units+1<Fu)(g:s.heap.get? a=aa G)(H:G.cls=.type "tuple")(O:G.data=.seq xs L)(x:s.heap.get? b=aa ob)(I:ob.cls=.type "tuple")(i:ob.data=.seq ys nb)(ex:xs.toList=[.int x1 U,.int x2 f])(B:ys.toList=[.int m Y,.int d o])(h:Q (.bool (dJ (m,d) (x1,x2))) s):Bo (Cy prog w) A (Dr .Gt (.ref a) (.ref b)) Q E s:=by
 let y:s.TypeIs (.ref b) "tuple":=#[ob,x,I];apply Oc (op:=.Gt) #[G,g,H] y PySem.F.slot_tuple_gt (Cs PySem.F.slot_tuple_gt #[G,g,H] PySem.F.entry_tuple_gt ?_ (PySem.F.args_tuple_gt_2 _ _)) (Ml C);change Bo _ _ (Wm (.ref b) (.type "tuple")>>=_) _ _ s;apply Aa (Ft y Km (Aa (Iz g O (Aa (Iz x i (Aa ?_))))));rw[ex,B];let J:=congrArg Jc ex;let D:=congrArg Jc B;apply Lm _ (λrest q j=>q.1=ae/\j=s/\∃l,lN l=dJ (m,d) (x1,x2)/\Gk (λp (z:Int×Int)=>∃t u,p=(Value.int z.2 t,Value.int z.1 u)) rest l) _ ?_ ?_ _ _ #[rfl,rfl,[(m,x1),(d,x2)],rfl,.cons #[_,_,rfl] (.cons #[_,_,rfl] .nil)]
 .rintro p rest q j ⟨hq,rfl,l,hl,S⟩;cases S with
  | @cons _ z _ l a b=>
   let#[t,u,rfl]:=a;apply Aa (Ti ?_);unfold lN at hl;cases hi:z.2==z.1
   .rw[Xa (Ca (ne_of_beq_false hi))]at hl;rw[<-hl]at h;show Aa (Ic (Aa (PyProof.Rows.gt_int (Aa (Ah (Ah (Ah #[_,rfl,(λe=>nomatch e),h])))))))
   .rw[Xb (eq_of_beq hi).symm]at hl;show Ah #[rfl,rfl,l,hl,b]
 .rintro⟨W,n⟩ j ⟨rfl,rfl,l,hl,S⟩;cases S;apply Ah #[_,rfl,(λe=>nomatch e),?_];rw[<-hl]at h;rw[Fj]at J D;rw[J,D];show h
end
section
variable {X:Cx}
def rInsert:V->↑V->Hp->VK->Prop:=λx vs H Q=>∃l xs y i,x=.ref l/\vs=[.int (i:Nat),y]/\H l=aa (.lst xs)/\↥xs<Ap/\i<=↥xs/\Q .non (aL H l (.lst (xs.take i++y::xs.drop i)))
theorem aY.splitAt:∀{xs:↑V} {us:↑Ae} (i:Nat),aY xs us->aY (xs.take i) (us.take i)/\aY (xs.drop i) (us.drop i)
 | _,_,0,h=>#[.nil,h]
 | _,_,i+1,.nil=>#[.nil,.nil]
 | _,_,i+1,.cons r t=>by
  let#[L,Z]:=aY.splitAt i t;show#[.cons r L,Z]
def zaD:qR X "list.insert" rInsert:=by
 intro C s G H x vs v us Q I S R h;let#[l,xs,y,i,rfl,rfl,B,hz,hi,q]:=h;cases S;let#[K,o,rfl,A,m]:=vals2 R;let#[tk,rfl]:=A;let#[z,its,n,r,hl,e]:=I.lstM B;let Y:↥its=↥xs:=r.length.symm;let O:Ap=16777216:=Le;let b:¬(!Builtin.List.listFitsIndex ((i:Nat):Int))=ab:=by
  let L:Jr ((i:Nat):Int)=ab:=by
   unfold Jr;rw[De,decide_eq_true_eq,decide_eq_true_eq];lia
  rw[L];decide
 let u:its.toArray.size<=Ap:=by rw[Bg];lia
 generalize hj:((i:Nat):Int)=j at b e⊢;let N:=PySem.AutoSeq1.list_insert_list_int_val_1 l its.toArray n j tk o b u;apply Lf F.slot_list_insert #[_,e,rfl] F.entry_list_insert (F.args_list_insert_3 _ _ _) N #[e,?_];let#[L,Z]:=aY.splitAt i r;apply#[.non,_,I.lset (its':=its.take i++o::its.drop i) B e ?_ (L.append (.cons m Z)) ?_,rfl,q]
 .let hk:(if j<0 then(j+(its.toArray.size:Int)).toNat else min j.toNat its.toArray.size)=i:=by
   rw[<-hj,Xa (by lia),Cv,Bg];lia
  change(its.toArray.extract 0 (if j<0 then(j+(its.toArray.size:Int)).toNat else min j.toNat its.toArray.size)).push o++its.toArray.extract (if j<0 then(j+(its.toArray.size:Int)).toNat else min j.toNat its.toArray.size)=_;rw[hk];refine' Array.toList_inj.mp ..;simp[Array.toList_append,Array.toList_push];rw[Pd (by rw[Ei];lia)]
 .rw[Ag,Bq,Dc,Ei];lia
end
section
variable {X:Cx}
abbrev zB:R3:=λx y M R=>∃a b c d:Int,x=.tup [.int a,.int b]/\y=.tup [.int c,.int d]/\R (.bl (dJ (a,b) (c,d))) M
abbrev HF:R3:=λx y M R=>∃a b c d:Int,x=.tup [.int a,.int b]/\y=.tup [.int c,.int d]/\R (.bl (dJ (c,d) (a,b))) M
def u3{C:Pn}{G:SV}{H:Hp}{M:Mm}{s:Ak}{x:V}{v:Ae}{a b:Int}(I:Inv X C G H s)(S:RelV x v)(d:AV X.K H M x (.tup [.int a,.int b])):∃p o its n t u,v=.ref p/\s.heap.get? p=aa o/\o.cls=.type "tuple"/\o.data=.seq its n/\its.toList=[.int a t,.int b u]:=by
 cases d with
 | @tup p xs _ e q=>
  cases (show v=Value.ref p from S);let#[y,z,rfl,P,E]:=q.two;obtain rfl:=P.inv;obtain rfl:=E.inv;let#[_,its,r,o,L,Z,m,F]:=(show bZ X.prog X.w H s.heap p (.tup [.int a,.int b]) from I.hok p _ e);let#[Y,J,rfl,l,g]:=vals2 r;let#[U,rfl]:=l;let#[f,rfl]:=g;show#[p,o,_,m,U,f,rfl,L,Z,F,by simp]
def HG(Y:X.A.units+1<Fu):bF X (Dr .Lt) (cJ X.K zB):=by
 rintro C s G H x y v u Q I S N ⟨P,l,M,R,O,E,m,⟨a,b,c,d,rfl,rfl,r⟩,k⟩;let#[p,o,its,n,U,g,rfl,L,Z,F,T]:=u3 I S E;let#[w,D,its',W,e,h,rfl,J,B,f,t]:=u3 I N m;show zaB Y L Z F J B f T t #[.bl _,H,I,rfl,k.at O (.bl _) r]
def HH(Y:X.A.units+1<Fu):bF X (Dr .Gt) (cJ X.K HF):=by
 rintro C s G H x y v u Q I S N ⟨P,l,M,R,O,E,m,⟨a,b,c,d,rfl,rfl,r⟩,k⟩;let#[p,o,its,n,U,g,rfl,L,Z,F,T]:=u3 I S E;let#[w,D,its',W,e,h,rfl,J,B,f,t]:=u3 I N m;show zaC Y L Z F J B f T t #[.bl _,H,I,rfl,k.at O (.bl _) r]
def HI:W->↑W->Mm->K3->Prop
 | .ref l,[.int i,y],M,R=>∃ws,M l=aa (.lst ws)/\↥ws<Ap/\0<=i/\i<=↥ws/\R .non (put M l (.lst (ws.take i.toNat++y::ws.drop i.toNat)))
 | _,_,_,_=>False
theorem HJ{K:Ac}{H:Hp}{M:Mm}:∀{vs:↑V} {ws:↑W} (i:Nat),aJ K H M vs ws->aJ K H M (vs.take i) (ws.take i)/\aJ K H M (vs.drop i) (ws.drop i)
 | _,_,0,h=>#[.nil,h]
 | _,_,i+1,.nil=>#[.nil,.nil]
 | _,_,i+1,.cons r t=>by
  let#[L,Z]:=HJ i t;show#[.cons r L,Z]
def zaE:fQ X "list.insert" (jQ X.K HI):=by
 rintro C s G H x xs v us Q I S rs ⟨P,ws,M,R,O,d,m,h,k⟩
 match P,ws,h with
 | .ref l,[.int i,y],h=>
  let#[u,z,rfl,o,E]:=m.two;obtain rfl:=d.inv;obtain rfl:=o.inv;let#[ws,e,hl,B,L,r]:=h;let#[i,rfl]:=Jn B;let#[vs,f,q]:=O.lst e;let#[W,n]:=HJ i q;rw[Cv]at r;show zaD C s G H _ _ v us Q I S rs #[l,vs,z,i,rfl,rfl,f,by rw[↥q];show hl,by rw[↥q];lia,rE O k e (W.append (.cons E n)) .non r]
end
structure aD where
 name:Av
 parts:↑Av
 cost:Int
def rV(t:Av):Prop:=∀c∈cs t,c<128
structure dB(t:Av):Prop where
 len:↥t<=20
 nm:a9 t=ab
 hd:∃c r,cs t=c::r/\c∈cs jN
 asc:rV t
structure jB(t:Av):Prop where
 len:↥t<=20
 ne:cs t≠[]
 sm:∀c∈cs t,c∈cs mG
def zaF:∀c∈cs mG,c<128:=by decide +kernel
def zaG:∀c∈cs jN,c<128:=by decide +kernel
def zaH:∀c∈cs mF,c<128:=by decide +kernel
def jB.asc(h:jB t):rV t:=λc hc=>zaF c (h.sm c hc)
noncomputable def cZ(acc:↑Av)(t:Av):↑Av:=if t∈acc then acc else acc++[t]
noncomputable def lP(acc:↑Av)(rs:↑aD):↑Av:=(rs.map aD.name).foldl cZ acc
noncomputable def namesOf(rs:↑aD):↑Av:=lP [] rs
def kL:u∈cZ acc t↔u∈acc\/u=t:=by
 unfold cZ;split
 .rename_i h;constructor
  .show .inl
  .rintro(q|q)
   .show q
   .rw[q];show h
 .rw[Bb,Ai]
def zaI:↥(cZ acc t)<=↥acc+1:=by
 unfold cZ;split
 .lia
 .rw[Ag];show Aj _
theorem u5:∀{ts acc:↑Av} {u:Av},u∈ts.foldl cZ acc↔u∈acc\/u∈ts
 | [],acc,u=>by simp
 | t::r,acc,u=>by
  rw[Hq,u5,kL,Ax];constructor
  .rintro((h|h)|h)
   .show .inl h
   .show .inr (.inl h)
   .show .inr (.inr h)
  .rintro(h|h|h)
   .show .inl (.inl h)
   .show .inl (.inr h)
   .show .inr h
def iR:u∈namesOf rs↔∃r∈rs,r.name=u:=by
 unfold namesOf lP;rw[u5];simp
def zaJ(h:rV t):Ow t=ab:=by
 unfold Ow;rw[Array.all_eq_true'];intro c hc;have:=h c (by unfold cs;show Array.mem_toList_iff.mpr hc);show Xd (by lia)
def zaK(g:Bool)(t:Av):Prop:=if g then dB t else jB t
noncomputable def HK:Bool->Av
 | true=>Txt.upper mG
 | false=>mG
def zaL(n:Int)(v:0<=n)(L:n<10000)(hl:↥t<=8)(N:cs t≠[])(h:∀c∈cs t,c∈cs (HK ab)):zaK ab (t++"_"++Cd (toString n)):=by
 let u:HK ab=jN:=by change Txt.upper mG=jN;decide +kernel
 rw[u]at h;let b:↥(Cd (toString n))<=10:=PySem.W.KT.len_num v (by lia);let d:↥("_" : Av)=1:=by decide +kernel
 let#[m,rfl]:=Jn v;let a:=D6 (m:=m);let K:cs (t++"_"++Cd (toString ((m:Nat):Int)))=cs t++95::cs (Cd (toString ((m:Nat):Int))):=by rw[tT,tT,DZ];simp
 apply#[by rw[Uw,Uw,d];lia,UX K N h a.2 a.1,?_,λc hc=>?_]
 .cases e:cs t with
  | nil=>show absurd e N
  | cons c r=>show#[c,_,by rw[K,e];rfl,h c (by rw[e];simp)]
 .rw[K]at hc;rcases Bb.mp hc with q|q
  .show zaG c (h c q)
  .rcases Ax.mp q with q|q
   .lia
   .show zaH c (a.1 c q)
def zaM{n:Int}(v:0<=n)(L:n<10000):n.natAbs.log2<1920:=by
 rcases Nat.eq_zero_or_pos n.natAbs with h|S
 .rw[h];decide
 .have:n.natAbs<2 ^ 14:=by
   have:(2:Nat) ^ 14=16384:=by decide
   lia
  have:=(Vc (Co S)).mpr this;lia
theorem rW:∀(ts acc:↑Av),↥(ts.foldl cZ acc)<=↥acc+↥ts
 | [],acc=>by simp
 | t::r,acc=>by
  rw[Hq,Bq];have:=rW r (cZ acc t);have:=zaI (acc:=acc) (t:=t);lia
noncomputable def bX(r:aD):W:=.tup [.str r.name,.tup (r.parts.map W.str),.int r.cost]
noncomputable def bE(rs:↑aD):W:=.rl (rs.map bX)
abbrev bV:=Int×Int
noncomputable def jC(a b:bV):bV:=(a.1+b.1,a.2+b.2)
section
variable {U J:Type}[DecidableEq U]
noncomputable def cU(t:↑(U×J))(k:U):Option J:=(t.find? λe=>decide (e.1=k)).map (·.2)
noncomputable def mV(t:↑(U×J))(k:U)(v:J):↑(U×J):=if (t.any λe=>decide (e.1=k))=ab then t.map (λe=>if e.1=k then(e.1,v) else e) else t++[(k,v)]
def mW(e:U×J)(t:↑(U×J))(k:U):cU (e::t) k=if e.1=k then aa e.2 else cU t k:=by
 unfold cU;rw[Ee]
 by_cases h:e.1=k
 .rw[Xd h,Xb h];rfl
 .rw[Xe h,Xa h]
def mX(t:↑(U×J))(k:U):(t.any λe=>decide (e.1=k))=(cU t k).isSome:=by
 induction t with
 | nil=>rfl
 | cons e t E=>
  rw[Ge,mW,E]
  by_cases h:e.1=k
  .rw[Xd h,Xb h];rfl
  .rw[Xe h,Xa h];rfl
def HL(a b:↑(U×J))(k:U):cU (a++b) k=(cU a k).or (cU b k):=by
 unfold cU;rw[List.find?_append,Option.map_or]
def zaN(t:↑(U×J))(k j:U)(v:J):cU (t.map (λe=>if e.1=k then(e.1,v) else e)) j=if k=j then(cU t j).map λ_=>v else cU t j:=by
 induction t with
 | nil=>change ae=_;split<;>rfl
 | cons e t E=>
  rw[Bi,mW,mW,E]
  by_cases hk:e.1=k
  .rw[Xb hk]
   by_cases hj:k=j
   .rw[Xb hj,Xb (hk.trans hj),Xb (hk.trans hj),Xb hj];rfl
   .rw[Xa hj,Xa (λz=>hj (hk.symm.trans z)),Xa (λz=>hj (hk.symm.trans z)),Xa hj]
  .rw[Xa hk]
   by_cases hj:e.1=j
   .rw[Xb hj,Xb hj,Xa (λz=>hk (hj.trans z.symm))]
   .rw[Xa hj,Xa hj]
def zaO(t:↑(U×J))(k j:U)(v:J):cU (mV t k v) j=if k=j then aa v else cU t j:=by
 unfold mV;rw[mX];split
 .rename_i h;rw[zaN]
  by_cases hj:k=j
  .subst hj;let#[_,e]:=Ed.mp h;rw[Xb rfl,Xb rfl,e];rfl
  .rw[Xa hj,Xa hj]
 .rename_i h;rw[HL,mW];change(cU t j).or (if k=j then aa v else ae)=_
  by_cases hj:k=j
  .subst hj;rw[Xb rfl,Xb rfl];cases e:cU t k with
   | none=>rfl
   | some z=>rw[e]at h;show absurd rfl h
  .rw[Xa hj,Xa hj,Option.or_none]
def zaP(t:↑(U×J))(k:U)(v:J):↥(mV t k v)<=↥t+1:=by
 unfold mV;split
 .rw[Ab];lia
 .simp
end
def zaQ{U J:Type}[DecidableEq U]{t:↑(U×J)}{k:U}(h:∀e∈t,e.1≠k):cU t k=ae:=by
 unfold cU;rw[List.find?_eq_none.mpr λe m z=>h e m (Xc z)];rfl
def HM{U J:Type}[DecidableEq U]{t:↑(U×J)}{k:U}{v:J}(h:cU t k=ae):mV t k v=t++[(k,v)]:=by
 unfold mV;rw[mX,h];rfl
def rX{U J:Type}[DecidableEq U]{t:↑(U×J)}{k:U}{v:J}(h:cU t k=aa v):∃a b,t=a++(k,v)::b:=by
 induction t with
 | nil=>cases h
 | cons e t E=>
  rw[mW]at h
  by_cases hk:e.1=k
  .rw[Xb hk]at h;cases h;show#[[],t,by rw[<-hk];rfl]
  .rw[Xa hk]at h;let#[a,b,rfl]:=E h;show#[e::a,b,rfl]
def iG{U J:Type}[DecidableEq U]{t:↑(U×J)}{k:U}:(cU t k).isSome=ab↔k∈t.map (·.1):=by
 rw[<-mX,Hc,Ao];show#[λ#[x,h,e]=>#[x,h,Xc e],λ#[x,h,e]=>#[x,h,Xd e]]
theorem len_sub{q:Type}[DecidableEq q]:∀{a b:↑q},a.Nodup->(∀x∈a,x∈b)->↥a<=↥b
 | [],b,_,_=>Cr _
 | x::a,b,P,F=>by
  rw[Cp]at P;let B:=F x Bw;let E:=len_sub (a:=a) (b:=b.erase x) P.2 λy O=>by
   let N:y≠x:=λe=>P.1 (by rw[<-e];show O);show(List.mem_erase_of_ne N).mpr (F y (Bp _ O))
  rw[List.length_erase_of_mem B]at E;have:=List.length_pos_of_mem B;rw[Bq];lia
theorem j1{q J:Type}{f:q->↑J}{k:Nat}:∀{l:↑q},(∀x∈l,↥(f x)=k)->↥(l.flatMap f)=↥l*k
 | [],_=>by simp
 | x::l,h=>by
  rw[Mj,Ag,h x Bw,j1 λy O=>h y (Bp _ O),Bq,Ut];lia
structure Sr where
 rs:↑aD
 own:Av->Bool
 places:↑Int
 steps:Av->Int->↑(Int×Int)
 wt:Nat->Int
abbrev cD:=Av×Int×Int
abbrev cQ:=↑(cD×bV×Nat×↑Int)
def jD{U:Type}[DecidableEq U]{kvs:↑(U×W)}{k j:U}{w:W}:aM (bW kvs k w) j=if k=j then aa w else aM kvs j:=zaO kvs k j w
def oG{U:Type}[DecidableEq U](e:U×W)(t:↑(U×W))(k:U):aM (e::t) k=if e.1=k then aa e.2 else aM t k:=mW e t k
theorem u6{U:Type}[DecidableEq U]{k j:U}:∀{kvs:↑(U×W)},aM (lM kvs k) j=if k=j then ae else aM kvs j
 | []=>by unfold lM;rw[Sv];split<;>rfl
 | e::t=>by
  let E:=u6 (k:=k) (j:=j) (kvs:=t);unfold lM at E⊢;rw[Ec]
  by_cases h:e.1=k
  .rw[Xa (by simp[h]),E,oG]
   by_cases hj:k=j
   .rw[Xb hj,Xb hj]
   .rw[Xa hj,Xa hj,Xa (by rw[h];show hj)]
  .rw[Xb (by simp[h]),oG,E,oG]
   by_cases hj:k=j
   .rw[Xb hj,Xb hj,Xa (by rw[<-hj];show h)]
   .rw[Xa hj,Xa hj]
def zC{U:Type}[DecidableEq U](kvs:↑(U×W))(k:U)(w:W):↥(bW kvs k w)<=↥kvs+1:=zaP kvs k w
structure c7{U:Type}(kk:U->↑aC)(M0 M:Mm)(a:Am)(kvs:↑(↑aC×W))(g:U->Option (↑W)):Prop where
 sub:L2.Sub M0 M
 new:M0 a=ae
 at_:M a=aa (.dT kvs)
 non:∀k,g k=ae->aM kvs (kk k)=ae
 som:∀k ws,g k=aa ws->∃p,aM kvs (kk k)=aa (.ref p)/\p≠a/\M0 p=ae/\M p=aa (.lst ws)
 inj:∀k j p,aM kvs (kk k)=aa (.ref p)->aM kvs (kk j)=aa (.ref p)->k=j
def gO(h:L2.Sub M0 M)(n:M0 p=ae):L2.Sub M0 (put M p o):=λa u e=>by
 rw[aW (λz=>by rw[z,n]at e;cases e)];show h a u e
section
variable {U:Type}[DecidableEq U]{kk:U->↑aC}{M0 M:Mm}{a p:Am}{kvs:↑(↑aC×W)}{g:U->Option (↑W)}{o:MO}{k:U}{ws:↑W}
theorem c7.lift(h:c7 kk M0 M a kvs g)(S:M p=ae\/∃u,M0 p=aa u):c7 kk (put M0 p o) (put M p o) a kvs g:=by
 let ne:∀{b:Am},M0 b=ae->(∃u,M b=aa u)->b≠p:=λ{b} B #[u,L] e=>by
  subst e;rcases S with z|⟨v,z⟩
  .rw[L]at z;cases z
  .rw[B]at z;cases z
 apply#[Sub.put h.sub,?_,?_,h.non,λk ws e=>?_,h.inj]
 .rw[aW (ne h.new #[_,h.at_])];show h.new
 .rw[aW (ne h.new #[_,h.at_])];show h.at_
 .let#[q,L,Z,F,T]:=h.som k ws e;have:=ne F #[_,T];show#[q,L,Z,by rw[aW this];show F,by rw[aW this];show T]
theorem c7.more(h:c7 kk M0 M a kvs g)(S:M p=ae):c7 kk M0 (put M p o) a kvs g:=by
 let ne:∀{b:Am},(∃u,M b=aa u)->b≠p:=λ{b} #[u,L] e=>by subst e;rw[S]at L;cases L
 apply#[gO h.sub (h.sub.non S),h.new,by rw[aW (ne #[_,h.at_])];show h.at_,h.non,λk ws e=>?_,h.inj];let#[q,L,Z,F,T]:=h.som k ws e;show#[q,L,Z,F,by rw[aW (ne #[_,T])];show T]
theorem c7.has(h:c7 kk M0 M a kvs g)(e:g k=aa ws):∃p,aM kvs (kk k)=aa (.ref p)/\M p=aa (.lst ws):=by
 let#[q,L,_,_,T]:=h.som k ws e;show#[q,L,T]
theorem c7.look(h:c7 kk M0 M a kvs g)(k:U):(aM kvs (kk k)).isSome=(g k).isSome:=by
 cases e:g k with
 | none=>rw[h.non k e];rfl
 | some ws=>let#[q,L,_]:=h.has e;rw[L];rfl
def c7.wr(h:c7 kk M0 M a kvs g)(hk:aM kvs (kk k)=aa (.ref p)):c7 kk M0 (put M p (.lst ws)) a kvs (λj=>if k=j then aa ws else g j):=by
 obtain⟨b,I⟩:∃b,g k=aa b:=by
  cases e:g k with
  | none=>rw[h.non k e]at hk;cases hk
  | some ws=>show#[_,rfl]
 let#[q,L,Z,F,T]:=h.som k b I;rw[hk]at L;cases L;apply#[gO h.sub F,h.new,by rw[aW (Ca Z)];show h.at_,λj e=>?_,λj us e=>?_,h.inj]
 .by_cases hj:k=j
  .rw[Xb hj]at e;cases e
  .rw[Xa hj]at e;show h.non j e
 .by_cases hj:k=j
  .rw[Xb hj]at e;cases e;subst hj;show#[p,hk,Z,F,aK]
  .rw[Xa hj]at e;let#[q,H,G,f,t]:=h.som j us e;apply#[q,H,G,f,?_];rw[aW (λz=>hj (h.inj k j p hk (by rw[<-z];show H)))];show t
def c7.add(c:∀k j,kk k=kk j->k=j)(h:c7 kk M0 M a kvs g)(hg:g k=ae)(S:M p=ae):c7 kk M0 (put (put M p (.lst ws)) a (.dT (bW kvs (kk k) (.ref p)))) a (bW kvs (kk k) (.ref p)) (λj=>if k=j then aa ws else g j):=by
 let ne:∀{b:Am},(∃u,M b=aa u)->b≠p:=λ{b} #[u,L] e=>by subst e;rw[S]at L;cases L
 let d:p≠a:=Ca (ne #[_,h.at_]);let l:∀j q,aM kvs (kk j)=aa (.ref q)->∃u,M q=aa u:=λj q e=>by
  cases m:g j with
  | none=>rw[h.non j m]at e;cases e
  | some us=>
   let#[W,H,_,_,t]:=h.som j us m;rw[e]at H;cases H;show#[_,t]
 apply#[gO (gO h.sub (h.sub.non S)) h.new,h.new,aK,λj e=>?_,λj us e=>?_,λi j q J D=>?_]
 .by_cases hj:k=j
  .rw[Xb hj]at e;cases e
  .rw[Xa hj]at e;rw[jD,Xa (λz=>hj (c _ _ z))];show h.non j e
 .by_cases hj:k=j
  .rw[Xb hj]at e;cases e;subst hj;show#[p,by rw[jD,Xb rfl],d,h.sub.non S,by rw[aW d,aK]]
  .rw[Xa hj]at e;let#[q,H,G,f,t]:=h.som j us e;show#[q,by rw[jD,Xa (λz=>hj (c _ _ z))];show H,G,f,by rw[aW G,aW (ne #[_,t])];show t]
 .rw[jD]at J D
  by_cases L:kk k=kk i
  .by_cases Z:kk k=kk j
   .show(c _ _ L).symm.trans (c _ _ Z)
   .rw[Xb L]at J;rw[Xa Z]at D;cases J;let#[u,z]:=l j p D;rw[S]at z;cases z
  .by_cases Z:kk k=kk j
   .rw[Xa L]at J;rw[Xb Z]at D;cases D;let#[u,z]:=l i p J;rw[S]at z;cases z
   .rw[Xa L]at J;rw[Xa Z]at D;show h.inj i j q J D
def c7.del(c:∀k j,kk k=kk j->k=j)(h:c7 kk M0 M a kvs g):c7 kk M0 (put M a (.dT (lM kvs (kk k)))) a (lM kvs (kk k)) (λj=>if k=j then ae else g j):=by
 apply#[gO h.sub h.new,h.new,aK,λj e=>?_,λj us e=>?_,λi j q J D=>?_]
 .rw[u6]
  by_cases hj:k=j
  .rw[Xb (by rw[hj])]
  .rw[Xa hj]at e;rw[Xa (λz=>hj (c _ _ z))];show h.non j e
 .by_cases hj:k=j
  .rw[Xb hj]at e;cases e
  .rw[Xa hj]at e;let#[q,H,G,f,t]:=h.som j us e;show#[q,by rw[u6,Xa (λz=>hj (c _ _ z))];show H,G,f,by rw[aW G];show t]
 .rw[u6]at J D;split at J
  .cases J
  .split at D
   .cases D
   .show h.inj i j q J D
theorem c7.same{g':U->Option (↑W)}(h:c7 kk M0 M a kvs g)(e:∀k,g' k=g k):c7 kk M0 M a kvs g':=by
 have:g'=g:=funext e;rw[this];show h
def dC(h:M a=aa (.lst ws)):jU "list" (.ref a) M:=.inl #[rfl,_,h]
def u7(h:M a=aa (.dT kvs)):jU "dict" (.ref a) M:=.inr #[rfl,.inr #[_,h]]
def c7.push{Q:Mm->Mm->Prop}{G:Mm}{x:W}{R:K3}{T:W->Mm->Prop}(c:∀k j,kk k=kk j->k=j)(f:∀{N d:Mm} {p:Am} {o:MO},Q N d->(d p=ae\/∃u,N p=aa u)->Q (put N p o) (put d p o))(sb:∀{N d:Mm},Q N d->L2.Sub N d)(u:Q M G)(t:c7 kk M0 M a kvs g)(n:∀y N,eS y [x] N R->T y N)(P:↥kvs<10000000)(hl:↥((g k).getD [])<10000000)(r:∀N d b,c7 kk M0 N a b (λj=>if k=j then aa ((g k).getD []++[x]) else g j)->Q N d->↥b<=↥kvs+1->R .non d):jU "dict" (.ref a) G/\∀p,G p=ae->pN (.ref a) [.tup ((kk k).map wK),.ref p] (put G p (.lst [])) λy N=>jU "list" y N/\T y N:=by
 let m:=sb u _ _ t.at_;apply#[u7 m,λp S=>?_];let l:=(sb u).non S;let ne:p≠a:=λz=>by rw[z,m]at S;cases S
 apply#[kvs,kk k,by rw[aW (Ca ne)];show m,rfl,dA P,λw hw=>?_,λhw=>?_]
 .cases e:g k with
  | none=>rw[t.non k e]at hw;cases hw
  | some ws=>
   let#[q,L,Z]:=t.has e;rw[hw]at L;cases L;let z:put M p (.lst []) q=aa (.lst ((g k).getD [])):=by rw[aW (λz=>by rw[z,l]at Z;cases Z),e];show Z
   let Y:=f (o:=.lst []) u (.inl S);let y:=sb Y _ _ z;show#[dC y,n _ _ #[_,y,dA hl,r _ _ kvs ((t.more l).wr hw) (f Y (.inr #[_,z])) (Ht _)]]
 .let e:g k=ae:=by
   cases e:g k with
   | none=>rfl
   | some ws=>let#[_,L,_]:=t.has e;rw[hw]at L;cases L
  let J:=f (p:=a) (o:=.dT (bW kvs (kk k) (.ref p))) (f (o:=.lst []) u (.inl S)) (.inr #[.dT kvs,by rw[aW (Ca ne)];show t.at_]);let z:put (put M p (.lst [])) a (.dT (bW kvs (kk k) (.ref p))) p=aa (.lst []):=by rw[aW ne,aK]
  let y:=sb J _ _ z;apply#[dC y,n _ _ #[[],y,dA ∅,r _ _ _ (((t.add c (ws:=[]) e l).wr (ws:=[x]) (by rw[jD,Xb rfl])).same λj=>?_) (f J (.inr #[_,z])) (zC ..)]];rw[e]
  by_cases hj:k=j
  .rw[Xb hj,Xb hj];rfl
  .rw[Xa hj,Xa hj,Xa hj]
end
noncomputable def lo{q:Type}(f:q->W)(l:↑q):Option (↑W):=if l=[] then ae else aa (l.map f)
def rY{q:Type}(f:q->W)(l:↑q):(lo f l).getD []=l.map f:=by cases l<;>rfl
def u9{q:Type}(f:q->W)(l:↑q)(x:q):lo f (l++[x])=aa ((lo f l).getD []++[f x]):=by
 rw[rY];unfold lo;rw[Xa (by simp),Ay];rfl
structure Cc where
 q:Am
 s:Am
 f:Am
 g:Am
 p:Am
 h:Am
 i:Am
 c:Am
 t:Am
noncomputable def cW(c:bV):W:=.tup [.int c.1,.int c.2]
noncomputable def cK(c:bV):↑aC:=[Sum.inl c.1,Sum.inl c.2]
def HN:∀a b:bV,cK a=cK b->a=b:=λa b h=>by
 unfold cK at h;simp only[Ff,Px,and_true]at h;show Jt h.1 h.2
noncomputable def gP(cut:↑Int):W:=.tup (cut.map W.int)
abbrev Itm:=Nat×↑Int×Int
noncomputable abbrev eI(x:Itm):↑Int:=x.2.1++[x.2.2]
noncomputable def kM(x:Itm):W:=.tup [.int x.1,gP (eI x)]
structure Aq where
 o:Am
 d:Am
 c:Am
 w:Am
noncomputable def qf(A:Aq):↑(Av×W):=[("costs",.ref A.c),("waiting",.ref A.w)]
def pR:Cq ("costs" : Av) (qf A)=aa (W.ref A.c):=by kernel_rfl
def pU:Cq ("waiting" : Av) (qf A)=aa (W.ref A.w):=by kernel_rfl
def zaR:Cq ("place_of" : Av) (qf A)=ae:=by kernel_rfl
def zaS:Cq ("put" : Av) (qf A)=ae:=by kernel_rfl
def zaT:Cq ("take" : Av) (qf A)=ae:=by kernel_rfl
def zaU:Cq ("is_done" : Av) (qf A)=ae:=by kernel_rfl
structure Qm(C:Cc)(M0 M:Mm)(A:Aq)(cs:↑bV):Prop where
 sub:L2.Sub M0 M
 no:M0 A.o=ae
 nc:M0 A.c=ae
 ne:A.o≠A.c
 ob:M A.o=aa (.ins C.q A.d (qf A))
 co:M A.c=aa (.lst (cs.map cW))
abbrev Qu:=↑(bV×Itm)
noncomputable abbrev wG(q:Qu)(c:bV):Option (↑W):=lo (λe=>kM e.2) (q.filter λe=>decide (e.1=c))
structure QR(C:Cc)(M0 M:Mm)(A:Aq)(q:Qu)(m:Nat):Prop where
 le:↥q<=m
 ex:∃M1 kvs cs,Qm C M0 M1 A cs/\c7 cK M1 M A.w kvs (wG q)/\cs.Pairwise (λa b=>dJ b a=ab)/\(∀c,c∈cs↔c∈q.map (·.1))/\↥kvs<=m
def vA:wG q c=ae↔c∉q.map (·.1):=by
 have:(q.filter λe=>decide (e.1=c))=[]↔c∉q.map (·.1):=by
  rw[List.filter_eq_nil_iff];show#[λh z=>let #[e,h1,h2]:=Ao.mp z;h e h1 (Xd h2),λh e m z=>h (Ao.mpr #[e,m,Xc z])]
 rw[<-this];unfold wG lo;split
 .show#[λ_=>‹_›,λ_=>rfl]
 .show#[(λh=>nomatch h),λh=>absurd h ‹_›]
theorem HP:∀{q:Qu},c∈q.map (·.1)->∃W x n,q=W++(c,x)::n/\c∉n.map (·.1)
 | e::q,h=>by
  by_cases Z:c∈q.map (·.1)
  .let#[a,x,b,rfl,F]:=HP Z;show#[e::a,x,b,rfl,F]
  .rcases Ax.mp h with rfl|h
   .show#[[],e.2,q,rfl,Z]
   .show absurd h Z
def Qm.lift{C:Cc}{M0 M:Mm}{A:Aq}{cs:↑bV}{p:Am}{o:MO}(h:Qm C M0 M A cs)(S:M p=ae\/∃u,M0 p=aa u):Qm C (put M0 p o) (put M p o) A cs:=by
 let ne:∀{b:Am},M0 b=ae->(∃u,M b=aa u)->b≠p:=λ{b} B #[u,L] e=>by
  subst e;rcases S with z|⟨v,z⟩
  .rw[L]at z;cases z
  .rw[B]at z;cases z
 let F:=ne h.no #[_,h.ob];let j:=ne h.nc #[_,h.co];show#[Sub.put h.sub,by rw[aW F];show h.no,by rw[aW j];show h.nc,h.ne,by rw[aW F];show h.ob,by rw[aW j];show h.co]
def Qm.costs{C:Cc}{M0 M:Mm}{A:Aq}{cs cs':↑bV}(h:Qm C M0 M A cs):Qm C M0 (put M A.c (.lst (cs'.map cW))) A cs':=
 #[gO h.sub h.nc,h.no,h.nc,h.ne,by rw[aW h.ne];show h.ob,aK]
def QR.lift{m:Nat}(h:QR C M0 M A q m)(S:M p=ae\/∃u,M0 p=aa u):QR C (put M0 p o) (put M p o) A q m:=by
 let#[I,kvs,cs,L,Z,F]:=h.ex;apply#[h.le,put I p o,kvs,cs,L.lift ?_,Z.lift ?_,F]
 .rcases S with z|z
  .show .inl (Z.sub.non z)
  .show .inr z
 .rcases S with z|⟨u,z⟩
  .show .inl z
  .show .inr #[u,L.sub _ _ z]
def QR.sub{m:Nat}(h:QR C M0 M A q m):L2.Sub M0 M:=by
 let#[I,kvs,cs,L,Z,F]:=h.ex;show L.sub.trans Z.sub
def QR.ob{m:Nat}(h:QR C M0 M A q m):M A.o=aa (.ins C.q A.d (qf A)):=by
 let#[I,kvs,cs,L,Z,F]:=h.ex;show Z.sub _ _ L.ob
section
variable {ws:↑W}{g:eT}{tb:aE}{D:D3}{τ:S3}{M:Mm}
def mY(o:Nat->S3->Mm->Prop)(v:o 0 τ M)(F:∀i w τ M,ws[i]? = aa w->o i τ M->g w τ M λs G=>tb {D with nx:=λf V=>∃a,Sub a V/\o (i+1) f a,ct:=λf V=>∃a,Sub a V/\o (i+1) f a,bk:=D.nx} s G)(hd:∀τ M,o ↥ws τ M->D.nx τ M):pJ ws (λ_=>True) g tb D τ M:=yO o v (λ_ _ _ _ _=>trivial) F hd
def eO(o:Nat->S3->Mm->Prop)(v:o 0 τ M)(F:∀i w τ M,ws[i]? = aa w->o i τ M->∀Q:D3,(∀τ M,o (i+1) τ M->Q.nx τ M)->g w τ M λs G=>tb Q s G)(hd:∀τ M,o ↥ws τ M->D.nx τ M):pJ ws (λ_=>True) g tb D τ M:=mY o v (λi w τ M e p=>F i w τ M e p _ λ_ M z=>#[M,aZ,z]) hd
def mZ(o:Nat->S3->Mm->Prop)(v:∃m,o m τ M)(F:∀m τ M,o m τ M->∀Q:D3,(∀q τ M,q<m->o q τ M->Q.nx τ M)->c τ M λb I=>if b=ab then tb Q τ I else D.nx τ I):jX c tb D τ M:=#[o,v,λm τ M p=>F m τ M p _ λq _ M l z=>#[q,M,l,aZ,z]]
end
def HQ(C:Cc):a8:=λws M R=>∃M0 a s,ws=[.ref a]/\M=put M0 a (.ins C.q s [])/\M0 a=ae/\∀V (A:Aq),A.o=a->QR C M0 V A [] 0->R .non V
def HR(C:Cc):a8:=λws M R=>∃M0 A q m,ws=[.ref A.o]/\QR C M0 M A q m/\R (.bl (decide (q=[]))) M
def HS(C:Cc):a8:=λws M R=>∃(A:Aq) (cs:↑bV) (c:bV),ws=[.ref A.o,cW c]/\M A.o=aa (.ins C.q A.d (qf A))/\M A.c=aa (.lst (cs.map cW))/\cs.Pairwise (λa b=>dJ b a=ab)/\∀i:Nat,i<=↥cs->(∀d∈cs.take i,dJ c d=ab)->(∀d∈cs.drop i,dJ c d=ac)->R (.int i) M
def HU(C:Cc):a8:=λws M R=>∃M0 A q m c x,ws=[.ref A.o,cW c,kM x]/\QR C M0 M A q m/\m<9000000/\∀V,QR C M0 V A (q++[(c,x)]) (m+1)->R .non V
def HV(C:Cc):a8:=λws M R=>∃M0 A q m,ws=[.ref A.o]/\QR C M0 M A q m/\q≠[]/\∀V W c x n,q=W++(c,x)::n->(∀e∈q,dJ e.1 c=ac)->QR C M0 V A (W++n) m->R (.tup [cW c,kM x]) V
noncomputable abbrev zaV:↑Av:=["self"]
abbrev zaW(C:Cc):aE:=
   (aF (iQ C.q aG "costs" (gH aB))
   (iQ C.q aG "waiting" lI))
noncomputable abbrev zaX:↑Av:=["self"]
abbrev zaY(C:Cc):aE:=
   (bH (aH (dU ac) (a7 cT (aA (cY C.q aG "costs") aB)) bM))
noncomputable abbrev zaZ:↑Av:=["self","cost","thing"]
abbrev za0(C:Cc):aE:=
   (aF (b9 (bU (aH (cL ab) aN (cY C.q aG "waiting")))
    (aF (fX (gH aB) (i8 (cY C.q aG "waiting") aN))
   (b8 (c9 "list" HI (cY C.q aG "costs") (aA (eA C.q "place_of" (HS C) aG (aA aN aB)) (aA aN aB)))))
    cS)
   (b8 (c9 "list" eS (vX (cY C.q aG "waiting") aN) (aA aT aB))))
noncomputable abbrev za1:↑Av:=["self","cost","low","high","middle"]
abbrev za2(C:Cc):aE:=
   (aF (aQ 4 (aH i6 (aH dW aT bB) jS))
   (b9 (bU (aH HF (vX (cY C.q aG "costs") bG) aN))
    (aQ 2 (aH dW bG bC))
    (aQ 3 bG)))
abbrev za3(C:Cc):aE:=(aF (aQ 2 bM) (aF (aQ 3 (a7 cT (aA (cY C.q aG "costs") aB))) (aF (jX (bU (aH mO aT bB)) (za2 C)) (bH aT))))
noncomputable abbrev za4:↑Av:=["self","cost","things","thing"]
abbrev za5(C:Cc):aE:=
   (b9 (bU (aH (dU ac) (a7 cT (aA aT aB)) bM))
    (aF (b8 (lC "list" lH (cY C.q aG "costs")))
   (b8 (c9 "dict" G1 (cY C.q aG "waiting") (aA aN aB))))
    cS)
abbrev za6(C:Cc):aE:=(aF (aQ 1 (vX (cY C.q aG "costs") (kH kI bC))) (aF (aQ 2 (vX (cY C.q aG "waiting") aN)) (aF (aQ 3 (lC "list" lH aT)) (aF (za5 C) (bH (bA (aA aN (aA bB aB))))))))
def z3:3<=Ap:=by decide
def bS{b:Bool}{P Q:Prop}(L:b=ab->P)(Z:b=ac->Q):if b=ab then P else Q:=by cases b;show Z rfl;show L rfl
def za7{R:↑W->(Mm->Prop)->Mm->Prop}(e:w=.rl ws)(h:R ws (λ_=>True) M):L2.kJ w M R:=by rw[e];show h
def oH(h:M a=aa (.dT kvs))(hl:aM kvs k=aa w)(r:R w M):mQ a (.tup (k.map wK)) M R:=FG (.inr #[kvs,k,h,rfl,hl.symm]) r
def fI{C a s:Am}{fs:↑(Av×W)}{f:Av}{w:W}{M:Mm}{R:W->Prop}(h:M a=aa (.ins C s fs))(l:fs.lookup f=aa w)(r:R w):∃b s fs w,W.ref a=.ref b/\M b=aa (.ins C s fs)/\fs.lookup f=aa w/\R w:=#[a,s,fs,w,rfl,h,l,r]
def mI{C a s:Am}{fs:↑(Av×W)}{f:Av}{M:Mm}{R:Am->Prop}(h:M a=aa (.ins C s fs))(l:fs.lookup f=ae)(r:R a):∃b s fs,W.ref a=.ref b/\M b=aa (.ins C s fs)/\fs.lookup f=ae/\R b:=#[a,s,fs,rfl,h,l,r]
def za8:bK (HR C) (zaY C) zaX:=by
 rintro _ M R ⟨M0,A,q,m,rfl,hq,r⟩;let#[I,kvs,cs,m1,U,_,mem,_]:=hq.ex;apply fI hq.ob pR (.inl #[_,U.sub _ _ m1.co,M,aZ,?_]);let e:decide ((↥(cs.map cW):Int)=0)=decide (q=[]):=by
  cases cs with
  | nil=>
   cases q with
   | nil=>rfl
   | cons e q=>show nomatch (mem e.1).mpr (Bw ..)
  | cons d cs=>
   cases q with
   | nil=>show nomatch (mem d).mp (Bw ..)
   | cons e q=>show(Xe (by rw[Bi,Bq];lia))
 change R (.bl (decide ((↥(cs.map cW):Int)=0))) M;rw[e];show r
def za9:bK (HQ C) (zaW C) zaV:=by
 rintro _ M R ⟨M0,a,s,rfl,rfl,T,r⟩;apply(λp S=>?_);let d:p≠a:=λe=>by rw[e,aK]at S;cases S
 let m:M0 p=ae:=by rw[aW d]at S;show S
 apply#[a,s,[],rfl,by rw[aW (Ca d),aK],by decide,λw hw=>?_];let f:w≠a:=λe=>by rw[e,aK]at hw;cases hw
 let g:w≠p:=λe=>by rw[e,aW d,aK]at hw;cases hw
 let i:M0 w=ae:=by rw[aW f,aW g,aW f]at hw;show hw
 apply#[a,s,d9 "costs" (.ref p) [],rfl,by rw[aW (Ca f),aK],(show(1:Nat)<1000 by decide),_,aZ,r _ #[a,s,p,w] rfl #[Aj _,put (put M0 p (.lst [])) a (.ins C.q s (qf #[a,s,p,w])),[],[],#[gO (gO (aZ) m) T,T,m,Ca d,aK,by rw[aW d,aK];rfl],?_,.nil,(λc=>#[(λh=>nomatch h),(λh=>nomatch h)]),Aj _]];let e:put (put (put (put (put M0 a (.ins C.q s [])) p (.lst [])) a (.ins C.q s (d9 "costs" (.ref p) []))) w (.dT [])) a (.ins C.q s (d9 "waiting" (.ref w) (d9 "costs" (.ref p) [])))=put (put (put M0 p (.lst [])) a (.ins C.q s (qf #[a,s,p,w]))) w (.dT []):=by
  let eq:d9 "waiting" (.ref w) (d9 "costs" (.ref p) [])=qf #[a,s,p,w]:=by
   change(if (("costs" : Av)=("waiting" : Av)) then _ else _)=_;rw[Xa (by decide +kernel)];rfl
  rw[eq];funext b;unfold put
  by_cases L:b=a<;>by_cases Z:b=w<;>by_cases F:b=p<;>simp_all
 rw[e];show#[gO (aZ) (by rw[aW f,aW g];show i),by rw[aW f,aW g];show i,aK,(λ_ _=>rfl),(λk ws e=>nomatch e),(λk j p e=>nomatch e)]
def HW(h:dJ a b=ab)(k:dJ b c=ab):dJ a c=ab:=by
 rw[pQ]at *;lia
def pV:dJ a a=ac:=by rw[j0];lia
def zba:bK (HS C) (za3 C) za1:=by
 rintro _ M R ⟨A,cs,c,rfl,f,hc,g,r⟩;apply fI f pR (.inl #[_,hc,?_]);apply mZ (λm τ V=>∃lo hi:Nat,∃o,τ=[aa (.ref A.o),aa (cW c),aa (.int lo),aa (.int hi),o]/\V=M/\hi<=↥cs/\lo<=hi/\m=hi-lo/\(∀d∈cs.take lo,dJ c d=ab)/\∀d∈cs.drop hi,dJ c d=ac) #[_,0,↥cs,ae,by rw[Ab];rfl,rfl,Aj _,Cr _,rfl,(λ_ h=>nomatch h),by rw[Mu];show λ_ h=>nomatch h] ?_;rintro m τ V ⟨lo,hi,o,rfl,rfl,L,Z,rfl,F,U⟩ D E;apply(bS (λY=>?_) λY=>#[_,aZ,r lo (by lia) F ((show hi=lo by have:=of_decide_eq_false Y;lia)▸U)]);let S:=Xc Y;apply#[#[by decide,by decide],?_];obtain⟨b,N⟩:∃b,b=(lo+hi)/2:=#[_,rfl];let i:((lo:Int)+(hi:Int))/2=(b:Nat):=by lia
 dsimp only;rw[i];let k:b<↥cs:=by lia
 let sp:=Jy b cs;rw[Eb k]at sp;let hd:cs[b]? = aa cs[b]:=Bj k;let tk:cs.take (b+1)=cs.take b++[cs[b]]:=by rw[Ce,hd];rfl
 let dr:=Eb k;generalize cs[b]=d at sp hd tk dr;rw[<-sp,Jb,List.pairwise_cons]at g;apply fI f pR (yH (w:=cW d) hc (kW (by rw[Az,hd];rfl)) #[d.1,d.2,c.1,c.2,rfl,rfl,bS (λz=>?_) λz=>?_])
 .apply E _ _ _ (by lia) #[b+1,hi,_,rfl,rfl,L,by lia,rfl,λa T=>?_,U];rw[tk]at T;rcases Bb.mp T with T|T
  .show HW z (g.2.2 a T d (.head _))
  .rw[Ai.mp T];show z
 .apply E _ _ _ (by lia) #[lo,b,_,rfl,rfl,by lia,by lia,rfl,F,λa T=>?_];rw[dr]at T;rcases Ax.mp T with e|T
  .rw[e];show z
  .apply Ro.mpr λh=>?_;rw[show dJ c d=ab from HW h (g.2.1.1 a T)]at z;cases z
def zbb:bK (HU C) (za0 C) zaZ:=by
 rintro _ M R ⟨M0,A,q,m,c,x,rfl,hq,N,r⟩;let#[I,kvs,cs,m1,U,nd,mem,B]:=hq.ex;let hl:=hq.le;apply fI hq.ob pU (.inr #[_,.inr #[kvs,cK c,U.at_,rfl,rfl],?_]);rw[U.look c];let n:∀j,wG (q++[(c,x)]) j=if c=j then aa ((wG q c).getD []++[kM x]) else wG q j:=λj=>by
  change lo _ (Qa _ _)=_;rw[Jq]
  by_cases hj:c=j
  .subst hj;rw[Xb rfl,Ec,Xb (Xd rfl)];show u9 ..
  .rw[Xa hj,Ec,Xa (λz=>hj (Xc z)),Sv,Bn]
 let le:↥(q++[(c,x)])<=m+1:=by rw[Ag];show Ep hl
 let me:∀d,d∈(q++[(c,x)]).map (·.1)↔d=c\/d∈cs:=λd=>by rw[mem,Ay,Bb,or_comm];show or_congr Ai Rz
 cases hg:wG q c with
 | some ws=>
  let#[p,g,l]:=U.has hg;let hw:ws=(q.filter λe=>decide (e.1=c)).map λe=>kM e.2:=by rw[<-rY,show lo _ _=aa ws from hg];rfl
  let hc:c∈cs:=(mem c).mpr (Ni λz=>by rw[vA.mpr z]at hg;cases hg);let hf:=Gw (λe=>decide (e.1=c)) q;apply fI hq.ob pU (oH U.at_ g #[dC l,_,l,dA (by rw[hw,Ab];lia),_,aZ,r _ #[le,I,kvs,cs,m1,(U.wr g).same λj=>by rw[n,hg];rfl,nd,λd=>?_,Rx B]]);rw[me];show#[.inr,λh=>h.elim (λz=>z▸hc) id]
 | none=>
  let P:c∉cs:=λz=>vA.mp hg ((mem c).mp z);let D:=len_sub (nd.imp λh e=>by rw[e,pV]at h;cases h) λd hd=>(mem d).mp hd;rw[Ab]at D;apply λp S=>?_;let f:=U.add HN (ws:=[]) hg S;let v:A.o≠p:=λe=>by rw[<-e,hq.ob]at S;cases S
  apply fI (by rw[aW v];show hq.ob) pU (pM (k:=cK c) (kvs:=kvs) (by rw[aW (λe=>by rw[<-e,U.at_]at S;cases S)];show U.at_) (dA (by lia)) ?_);let s:=f.sub _ _ m1.ob;let u:=f.sub _ _ m1.co;apply fI s pR #[dC u,mI s zaR #[A,cs,c,rfl,s,u,nd,λi hi y O=>#[_,u,dA (by rw[Ab];lia),by lia,by rw[Ab];lia,?_]]];rw[show(cs.map cW).take (Wg (i:Nat))++cW c::(cs.map cW).drop (Wg (i:Nat))=(cs.take i++c::cs.drop i).map cW by rw[Cv,Ay,Bi,Tv,Tw]];let t:=f.lift (p:=A.c) (o:=.lst ((cs.take i++c::cs.drop i).map cW)) (.inr #[_,m1.co]);let m3:=m1.costs (cs':=cs.take i++c::cs.drop i);let#[w,g,l]:=t.has (k:=c) (ws:=[]) (by rw[Xb rfl]);apply fI (t.sub _ _ m3.ob) pU (oH t.at_ g #[dC l,_,l,dA ∅,_,aZ,r _ #[le,_,_,_,m3,(t.wr g).same (λj=>?_),?_,λd=>by rw[me,Jj.mem_iff,Jy,Ax],Ar (zC ..) (Ep B)]])
  .rw[n j,hg]
   by_cases hj:c=j
   .rw[Xb hj,Xb hj];rfl
   .rw[Xa hj,Xa hj,Xa hj]
  .rw[<-Jy i cs,Jb]at nd;apply Jb.mpr #[nd.1,List.pairwise_cons.mpr #[λd hd=>?_,nd.2.1],λa T b Y=>(Ax.mp Y).elim (λe=>e▸y a T) (nd.2.2 a T b)];let z:=O d hd;let ne:d≠c:=λe=>P (e▸Nd hd);rw[j0]at z;rw[pQ];apply z.imp_right λz=>#[z.1,by have:d.2≠c.2:=λe=>ne (Jt z.1 e);lia]
def zbc:bK (HV C) (za6 C) za4:=by
 rintro _ M R ⟨M0,A,q,m,rfl,hq,N,r⟩;let#[I,kvs,cs,m1,U,nd,mem,B]:=hq.ex;rcases Il cs with rfl|⟨cs,c,rfl⟩
 .cases q with
  | nil=>show absurd rfl N
  | cons e q=>show nomatch (mem e.1).mpr (Bw ..)
 rw[Im]at m1 nd mem;let#[W,x,n,rfl,P]:=HP ((mem c).mp (by simp));let mn:∀e∈W++(c,x)::n,dJ e.1 c=ac:=λe D=>by
  rcases Bb.mp ((mem e.1).mpr (Ao.mpr #[e,D,rfl])) with h|h
  .have:=(Jb.mp nd).2.2 _ h c (.head _);rw[pQ]at this;rw[j0];lia
  .rw[Ai.mp h];show pV
 obtain⟨ys,O⟩:∃ys,ys=W.filter λe=>decide (e.1=c):=#[_,rfl];let Z:(n.filter λe=>decide (e.1=c))=[]:=List.filter_eq_nil_iff.mpr λe D z=>P (Ao.mpr #[e,D,Xc z]);let hf:wG (W++(c,x)::n) c=aa (ys.map (λe=>kM e.2)++[kM x]):=by
  change lo _ (Qa _ _)=_;rw[Jq,Ec,Xb (Xd rfl),Z,<-O,u9,rY]
 let hg:∀j,wG (W++n) j=if c=j then lo (λe=>kM e.2) ys else wG (W++(c,x)::n) j:=λj=>by
  change lo _ (Qa _ _)=if c=j then _ else lo _ (Qa _ _);rw[Jq,Jq,Ec]
  by_cases hj:c=j
  .subst hj;rw[Xb rfl,Z,Bn,<-O]
  .rw[Xa hj,Xa (λz=>hj (Xc z))]
 let#[p,g,l]:=U.has hf;let a:I A.c=aa (.lst (cs.map cW++[cW c])):=by rw[m1.co,Ay];rfl
 let le:↥(W++n)<=m:=Ar (by rw[Ag,Ag,Bq];lia) hq.le;let me:∀d,d∈cs++[c]↔d=c\/d∈(W++n).map (·.1):=λd=>by rw[mem,Ay,Bi,Jj.mem_iff,Ax,Ay]
 let f:=U.wr (ws:=ys.map λe=>kM e.2) g;apply fI hq.ob pR (yH (U.sub _ _ a) (C4 _ _) (fI hq.ob pU (oH U.at_ g #[dC l,#[_,_,l,.inl #[_,aK,?_]]])));cases ys with
 | nil=>
  let m2:=m1.costs (cs':=cs);let t:=f.lift (p:=A.c) (o:=.lst (cs.map cW)) (.inr #[_,a]);let hc:c∉(W++n).map (·.1):=vA.mp ((hg c).trans (Xb rfl));apply fI (f.sub _ _ m1.ob) pR #[dC (f.sub _ _ a),_,_,f.sub _ _ a,fI (t.sub _ _ m2.ob) pU #[u7 t.at_,_,cK c,_,t.at_,rfl,g,_,aZ,r _ _ _ _ _ rfl mn #[le,_,_,cs,m2,(t.del (k:=c) HN).same (λj=>?_),(Jb.mp nd).1,λd=>#[λh=>?_,λh=>?_],Ar (Gw ..) B]]]
  .rw[hg]
   by_cases hj:c=j
   .rw[Xb hj,Xb hj];rfl
   .rw[Xa hj,Xa hj,Xa hj]
  .apply((me d).mp (Bf _ h)).resolve_left λz=>?_;have:=(Jb.mp nd).2.2 d h c (.head _);rw[z,pV]at this;cases this
  .show(Bb.mp ((me d).mpr (.inr h))).resolve_right λz=>hc (Ai.mp z▸h)
 | cons y ys=>
  apply#[_,aZ,r _ _ _ _ _ rfl mn #[le,_,_,_,m1,f.same (λj=>hg j),nd,λd=>(me d).trans #[λh=>h.elim (λz=>?_) id,.inr],B]];rw[z];show Ni λz=>by have:=(hg c).symm.trans (vA.mpr z);rw[Xb rfl]at this;cases this
noncomputable def cH(x:Itm):Int:=(eI x).headD 0
noncomputable abbrev fD(x:Itm)(e:Int):Itm:=(x.1,eI x,e)
def vB{e:Int}:cH (fD x e)=cH x:=by
 let#[n,p,l]:=x;unfold cH;cases p<;>rfl
noncomputable def ky(x:Itm):Nat×Nat×Int×Int:=(x.1,↥x.2.1,cH x,x.2.2)
noncomputable def kx(x:Itm):↑aC:=[Sum.inl x.1,Sum.inl (↥(eI x):Nat),Sum.inl (cH x),Sum.inl x.2.2]
def pW:kx x=kx y↔ky x=ky y:=by
 unfold kx ky;simp only[Ag,Bz,Ff,Px,and_true,Int.natCast_inj,Nat.add_right_cancel_iff,Kz]
def zbd{e:Int}(h:ky x=ky y):ky (fD x e)=ky (fD y e):=by
 unfold ky at *;simp only[Kz]at *;rw[vB,vB,Ag,Ag];show#[h.1,congrArg (· + 1) h.2.1,h.2.2.1,trivial]
noncomputable def ev(e:bV×Itm):Nat×Nat×Int×Int×Int:=(e.2.1,↥e.2.2.1,cH e.2,e.2.2.1.getLastD 0,e.2.2.2)
def zD{e:Int}(h:ev z=ev (c,fD x e)):∃p,z.2=fD (x.1,p,x.2.2) e/\ky (x.1,p,x.2.2)=ky x:=by
 let#[d,n,p,l]:=z;unfold ev at h;simp only[Kz,vB]at h;let#[rfl,Z,F,T,rfl]:=h;rcases Il p with rfl|⟨p,b,rfl⟩
 .rw[Ag]at Z;cases Z
 rw[Im]at Z F T⊢;simp only[List.getLastD_concat,Ag,Bz,Nat.add_right_cancel_iff]at Z T;subst T;apply#[p,rfl,?_];have:cH (x.1,p,x.2.2)=cH x:=vB.symm.trans F;unfold ky;rw[this,Z]
noncomputable def fs(B:cQ):↑cD:=B.map (·.1)
def eV(G:Sr)(B:cQ)(t:Av)(p e:Int):Prop:=e∈G.places/\if G.own t=ab then(t,p,e)∈fs B else ∃c,(e,c)∈G.steps t p
def eV.mono{p e:Int}(i:∀f∈fs B,f∈fs B')(h:eV G B t p e):eV G B' t p e:=by
 apply#[h.1,?_];let h:=h.2;split
 .rw[Xb ‹_›]at h;show i _ h
 .rw[Xa ‹_›]at h;show h
inductive Ct(G:Sr)(B:cQ):↑Av->↑Int->Int->Prop
 | one {p:Int}:p∈G.places->Ct G B [] [] p
 | snoc {ps:↑Av} {c:↑Int} {p e:Int} {t:Av}:Ct G B ps c p->eV G B t p e->Ct G B (ps++[t]) (c++[p]) e
def Ct.mono{p:Int}(i:∀f∈fs B,f∈fs B')(h:Ct G B ps c p):Ct G B' ps c p:=by
 induction h with
 | one h=>show .one h
 | snoc _ h E=>show .snoc E (h.mono i)
def Ct.len{p:Int}(h:Ct G B ps c p):↥c=↥ps:=by
 induction h with
 | one=>rfl
 | snoc _ _ E=>rw[Ag,Ag,E];rfl
def Ct.plc{p:Int}(h:Ct G B ps c p):∀q∈c++[p],q∈G.places:=by
 induction h with
 | one h=>show λq hq=>Ai.mp hq▸h
 | snoc _ h E=>show λq hq=>(Bb.mp hq).elim (E q) λz=>Ai.mp z▸h.1
def Ct.inv{p e:Int}(h:Ct G B ps (c++[p]) e):∃qs t,ps=qs++[t]/\Ct G B qs c p/\eV G B t p e:=by
 generalize hc:c++[p]=d at h;cases h with
 | one=>cases c<;>cases hc
 | snoc h k=>
  let#[rfl,Z]:=Kt hc rfl;cases Z;show#[_,_,rfl,h,k]
structure Gd(G:Sr):Prop where
 n:↥G.rs<=20000
 p:∀r∈G.rs,↥r.parts<=4
 pl:↥G.places<=4
 wt:∀n,0<=G.wt n
 st:∀t p,p∈G.places->(∀z∈G.steps t p,z.1∈G.places/\0<=z.2)/\((G.steps t p).map (·.1)).Nodup
def At(G:Sr)(k:Av×Int)(x:Itm):Prop:=x.2.2=k.2/\G.own k.1=ab/\∃r,G.rs[x.1]? = aa r/\r.parts[↥x.2.1]? = aa k.1
structure Sd(G:Sr)(B:cQ)(P:Qu)(x:Itm)(r:aD):Prop where
 ru:G.rs[x.1]? = aa r
 le:↥x.2.1<=↥r.parts
 ct:Ct G B (r.parts.take ↥x.2.1) x.2.1 x.2.2
 pd:∀c p,x.2.1=c++[p]->∃y∈P,ky y.2=ky (x.1,c,p)
structure SS where
 q:Qu
 rk:↑(↑aC×W)
 best:cQ
 en:Av×Int->↑(Int×bV)
 bg:Av×Int->Qu
 bn:Nat
 n:Nat
def Ord(G:Sr)(B:cQ):Prop:=∀pre e post,B=pre++e::post->∃r c p,G.rs[e.2.2.1]? = aa r/\e.1=(r.name,(c++[p]).headD 0,p)/\e.2.2.2=c++[p]/\Ct G pre r.parts c p/\e.1∉fs pre
def pX(st:SS)(X:Qu)(x:Itm):Prop:=(aM st.rk (kx x)).isSome=ab\/∃z∈X,ky z.2=ky x
abbrev Nn(c:bV):Prop:=0<=c.1/\0<=c.2
structure J(G:Sr)(st:SS)(P T X:Qu)(cur:bV):Prop where
 g:Gd G
 nd:((T++st.q++X).map ev).Nodup
 nk:((P++st.q).map λe=>(e.1,ky e.2)).Nodup
 pt:∀y∈P,y∈T
 sd:∀x∈T++st.q++X,Nn x.1/\∃r,Sd G st.best P x.2 r
 lo:∀x∈st.q++X,dJ x.1 cur=ac
 pr:∀y∈P,aM st.rk (kx y.2)=aa (cW y.1)/\dJ cur y.1=ac
 it:∀x∈st.q,∃d,aM st.rk (kx x.2)=aa (cW d)/\dJ x.1 d=ac
 hit:∀x w,aM st.rk (kx x)=aa w->∃e∈P++st.q,w=cW e.1/\ky e.2=ky x
 rl:st.n<=↥(T++st.q)
 fin:∀y∈P,∀r,G.rs[y.2.1]? = aa r->r.parts[↥y.2.2.1]? = ae->(r.name,cH y.2,y.2.2.2)∈fs st.best
 nx:∀y∈P,∀r t e,G.rs[y.2.1]? = aa r->r.parts[↥y.2.2.1]? = aa t->eV G st.best t y.2.2.2 e->pX st X (fD y.2 e)
 bg:∀k x,x∈st.bg k↔x∈P/\At G k x.2
 bd:∀k,((st.bg k).map λe=>ky e.2).Nodup
 en:∀k e,e∈(st.en k).map (·.1)↔(k.1,k.2,e)∈fs st.best
 ed:∀k,((st.en k).map (·.1)).Nodup/\∀z∈st.en k,z.1∈G.places/\Nn z.2
 ini:∀n r p,G.rs[n]? = aa r->p∈G.places->pX st X (n,[],p)
 ln:↥st.best<=↥T/\st.bn<=↥T
 bs:Ord G st.best
section
variable {G:Sr}{st:SS}{P T X:Qu}{c d cur:bV}{x:bV×Itm}{q1 q2:Qu}{r:aD}{t:Av}{B B':cQ}
theorem zE(h:cW a=cW b):a=b:=by
 unfold cW at h;simp only[W.tup.injEq,Ff,W.int.injEq,and_true]at h;show Jt h.1 h.2
theorem pX.tl(h:pX st (x::X) y)(hk:∀z,(aM st.rk (kx z)).isSome=ab->(aM l.rk (kx z)).isSome=ab)(B:(aM l.rk (kx x.2)).isSome=ab):pX l X y:=by
 rcases h with h|⟨z,hz,e⟩
 .show .inl (hk _ h)
 .rcases Ax.mp hz with rfl|hz
  .apply .inl ?_;rw[<-pW.mpr e];show B
  .show .inr #[z,hz,e]
theorem J.skip(j:J G st P T (x::X) cur)(h:(aM st.rk (kx x.2)).isSome=ab):J G st P (T++[x]) X cur:=by
 let S:(T++[x]++st.q++X).Perm (T++st.q++x::X):=by
  simp only[Bh];show Ov _ (by rw[<-Bh];show(List.perm_append_comm.append_right _).trans (by simp))
 apply#[j.g,(S.map _).nodup_iff.mpr j.nd,j.nk,λy O=>Bf _ (j.pt y O),λy O=>j.sd y (S.mem_iff.mp O),λy O=>j.lo y ((Bb.mp O).elim (Bf _) λz=>Bm _ (.tail _ z)),j.pr,j.it,j.hit,?_,j.fin,λy O r t e L Z F=>(j.nx y O r t e L Z F).tl (λ_ h=>h) h,j.bg,j.bd,j.en,j.ed,λn r p L Z=>(j.ini n r p L Z).tl (λ_ h=>h) h,?_,j.bs]
 .have:=j.rl;rw[Ag]at *;rw[Ag];lia
 .have:=j.ln;rw[Ag];lia
theorem J.reach(j:J G st P T (x::X) cur)(h:∀d,aM st.rk (kx x.2)=aa (cW d)->dJ x.1 d=ab):J G {st with rk:=bW st.rk (kx x.2) (cW x.1),q:=st.q++[x],n:=st.n+1} P T X cur:=by
 let e:T++(st.q++[x])++X=T++st.q++x::X:=by simp
 let N:∀y,y∈T++(st.q++[x])++X↔y∈T++st.q++x::X:=λy=>by rw[e]
 let B:(aM (bW st.rk (kx x.2) (cW x.1)) (kx x.2)).isSome=ab:=by rw[jD,Xb rfl];rfl
 let i:∀z,(aM st.rk (kx z)).isSome=ab->(aM (bW st.rk (kx x.2) (cW x.1)) (kx z)).isSome=ab:=λz hz=>by
  rw[jD];split
  .rfl
  .show hz
 let f:=j.lo x (Bm _ (.head _));let c:∀y∈P,kx y.2≠kx x.2:=λy O z=>by
  let#[L,Z]:=j.pr y O;rw[z]at L;have:=h _ L;rw[pQ]at this;rw[j0]at Z f;lia
 let V:∀e∈P++st.q,ky e.2=ky x.2->e.1≠x.1:=λe D z w=>by
  rcases Bb.mp D with D|D
  .show c e D (pW.mpr z)
  .let#[d,L,Z]:=j.it e D;rw[pW.mpr z]at L;have:=h _ L;rw[<-w,Z]at this;cases this
 apply#[j.g,by rw[e];show j.nd,?_,j.pt,λy O=>j.sd y ((N y).mp O),λy O=>j.lo y (by simpa [or_assoc] using O),λy O=>#[?_,(j.pr y O).2],λy O=>?_,λy w hw=>?_,?_,j.fin,λy O r t e L Z F=>(j.nx y O r t e L Z F).tl i B,j.bg,j.bd,j.en,j.ed,λn r p L Z=>(j.ini n r p L Z).tl i B,j.ln,j.bs]
 .rw[<-Bh,Ay,Er];apply#[j.nk,Hw ..,λa m b Y z=>?_];let#[e,D,rfl]:=Ao.mp m;rw[Ai.mp Y]at z;show V e D (Eo z).2 (Eo z).1
 .change aM (bW _ _ _) _=_;rw[jD,Xa λz=>c y O z.symm];show(j.pr y O).1
 .change ∃d,aM (bW _ _ _) _=_/\_;rw[jD];rcases Bb.mp O with O|O
  .let#[d,L,Z]:=j.it y O;split
   .rename_i z;rw[<-z]at L;have:=h _ L;apply#[_,rfl,?_];rw[pQ]at this;rw[j0]at *;lia
   .show#[d,L,Z]
  .rw[Ai.mp O,Xb rfl];show#[_,rfl,pV]
 .let hw:aM (bW _ _ _) _=_:=hw;rw[jD]at hw;change ∃e∈P++(st.q++[x]),_;rw[<-Bh];split at hw
  .rename_i z;cases hw;show#[x,Bm _ (.head _),rfl,pW.mp z]
  .let#[e,D,h]:=j.hit y w hw;show#[e,Bf _ D,h]
 .change _<=↥(T++(st.q++[x]));rw[<-Bh,Ag];show Ep j.rl
theorem J.stale(j:J G st P T [] cur)(hq:st.q=q1++x::q2)(hd:aM st.rk (kx x.2)=aa (cW d))(hl:dJ d x.1=ab):J G {st with q:=q1++q2} P (T++[x]) [] cur:=by
 let S:(T++[x]++(q1++q2)).Perm (T++st.q):=by
  rw[hq,Bh,List.singleton_append];show Ov _ Jj.symm
 let F:∀y∈q1++q2,y∈st.q:=λy O=>by rw[hq];show Jj.mem_iff.mpr (.tail _ O)
 let nd:=j.nd;rw[Bn]at nd;let nk:=j.nk;let a:(P++st.q).Perm (x::(P++(q1++q2))):=by rw[hq,<-Bh,<-Bh];show Jj
 rw[(a.map _).nodup_iff,Bi,Cp]at nk;apply#[j.g,by rw[Bn];show(S.map _).nodup_iff.mpr nd,nk.2,λy O=>Bf _ (j.pt y O),λy O=>j.sd y ?_,λy O=>j.lo y ?_,j.pr,λy O=>j.it y (F y O),λy w hw=>?_,by rw[S.length_eq];show j.rl,j.fin,j.nx,j.bg,j.bd,j.en,j.ed,j.ini,?_,j.bs]
 .rw[Bn]at O⊢;show S.mem_iff.mp O
 .rw[Bn]at O⊢;show F y O
 .let#[e,m,L,Z]:=j.hit y w hw;apply#[e,(Ax.mp (a.mem_iff.mp m)).resolve_left λz=>?_,L,Z];subst z;let hw:aM st.rk (kx y)=aa w:=hw;rw[<-pW.mpr Z,hd,L]at hw;rw[zE (Cj hw),pV]at hl;cases hl
 .have:=j.ln;rw[Ag];show#[Ar this.1 (Jm _ _),Ar this.2 (Jm _ _)]
structure jE(G:Sr)(st:SS)(P T:Qu)(cur:bV)(x:bV×Itm)(q1 q2:Qu)(r:aD):Prop where
 j:J G st P T [] cur
 hq:st.q=q1++x::q2
 mn:∀e∈st.q,dJ e.1 x.1=ac
 at_:aM st.rk (kx x.2)=aa (cW x.1)
 ru:G.rs[x.2.1]? = aa r
theorem jE.xq(k:jE G st P T cur x q1 q2 r):x∈st.q:=by rw[k.hq];simp
theorem jE.xP(k:jE G st P T cur x q1 q2 r):∀y∈P,ky y.2≠ky x.2:=λy O z=>by
 let L:=(k.j.pr y O).1;rw[pW.mpr z,k.at_]at L;let nk:=k.j.nk;rw[Ay,Er]at nk;show nk.2.2 _ (Ao.mpr #[y,O,rfl]) _ (Ao.mpr #[x,k.xq,rfl]) (Jt (zE (Cj L)).symm z)
theorem jE.sx(k:jE G st P T cur x q1 q2 r):Nn x.1/\Sd G st.best P x.2 r:=by
 let#[h,g,s]:=k.j.sd x (Bf _ (Bm _ k.xq));cases k.ru.symm.trans s.ru;show#[h,s]
theorem Sd.next{b:Qu}{x:Itm}{e:Int}(s:Sd G B P x r)(h:r.parts[↥x.2.1]? = aa t)(i:∀f∈fs B,f∈fs B')(ok:eV G B' t x.2.2 e)(hz:∃y∈b,ky y.2=ky x):Sd G B' b (fD x e) r:=by
 let L:=(An.mp h).1;apply#[s.ru,by rw[Ag];show L,?_,λc p z=>?_]
 .change Ct G B' (r.parts.take ↥(x.2.1++[x.2.2])) (x.2.1++[x.2.2]) e;rw[Ag,Bz,Ce,h];show .snoc (s.ct.mono i) ok
 .let#[rfl,Z]:=Kt z rfl;cases Z;show hz
theorem J.step{E:Av×Int->↑(Int×bV)}{b:Av×Int->Qu}{n:Nat}(k:jE G st P T cur x q1 q2 r)(hl:↥B<=↥st.best+1/\n<=st.bn+1)(I:(X.map ev).Nodup)(D:∀y∈X,∀z∈T++st.q,ev z≠ev y)(l:∀y∈X,Nn y.1/\dJ y.1 x.1=ac/\∃r,Sd G B (P++[x]) y.2 r)(i:∀f∈fs st.best,f∈fs B)(fin:r.parts[↥x.2.2.1]? = ae->(r.name,cH x.2,x.2.2.2)∈fs B)(nx:∀y r t e,(y∈P/\¬eV G st.best t y.2.2.2 e)\/y=x->G.rs[y.2.1]? = aa r->r.parts[↥y.2.2.1]? = aa t->eV G B t y.2.2.2 e->∃z∈X,ky z.2=ky (fD y.2 e))(bg:∀t,(b t=st.bg t/\¬At G t x.2)\/(b t=st.bg t++[x]/\At G t x.2))(en:∀k e,e∈(E k).map (·.1)↔(k.1,k.2,e)∈fs B)(ed:∀k,((E k).map (·.1)).Nodup/\∀z∈E k,z.1∈G.places/\Nn z.2)(bs:Ord G B):J G #[q1++q2,st.rk,B,E,b,n,st.n] (P++[x]) (T++[x]) X x.1:=by
 let j:=k.j;let hq:=k.hq;let S:∀{A:Qu},(A++[x]++(q1++q2)).Perm (A++st.q):=λ{A}=>by
  rw[hq,Bh,List.singleton_append];show Ov _ Jj.symm
 let nd:=j.nd;rw[Bn]at nd;let lo:=j.lo;rw[Bn]at lo;let F:∀y∈q1++q2,y∈st.q:=λy O=>by rw[hq];show Jj.mem_iff.mpr (.tail _ O)
 let lt:∀{y},y∈P++[x]->y∈P\/y=x:=λh=>(Bb.mp h).imp_right Ai.mp;apply#[j.g,?_,(S.map _).nodup_iff.mpr j.nk,λy O=>(lt O).elim (λh=>Bf _ (j.pt y h)) λh=>Bm _ (Ai.mpr h),λy O=>?_,λy O=>(Bb.mp O).elim (λh=>k.mn y (F y h)) λh=>(l y h).2.1,λy O=>?_,λy O=>j.it y (F y O),λy w hw=>?_,by rw[S.length_eq];show j.rl,λy O W L Z=>?_,λy O r t e L Z K=>?_,λt y=>?_,λt=>?_,en,ed,λn r p L Z=>.inl ((j.ini n r p L Z).resolve_right λ#[_,h,_]=>nomatch h),?_,bs]
 .rw[Ay,Er];apply#[(S.map _).nodup_iff.mpr nd,I,λa m b Y e=>?_];let#[z,hz,rfl]:=Ao.mp m;let#[y,O,rfl]:=Ao.mp Y;show D y O z (S.mem_iff.mp hz) e
 .rcases Bb.mp O with O|O
  .let#[v,r,s]:=j.sd y (Bf _ (S.mem_iff.mp O));show#[v,r,s.ru,s.le,s.ct.mono i,λc p z=>(s.pd c p z).elim λy h=>#[y,Bf _ h.1,h.2]]
  .show#[(l y O).1,(l y O).2.2]
 .rcases lt O with O|rfl
  .let#[L,Z]:=j.pr y O;let K:=lo x k.xq;apply#[L,?_];rw[j0]at *;lia
  .show#[k.at_,pV]
 .let#[e,d,h]:=j.hit y w hw;show#[e,S.mem_iff.mpr d,h]
 .rcases lt O with O|rfl
  .show i _ (j.fin y O W L Z)
  .cases k.ru.symm.trans L;show fin Z
 .by_cases o:y∈P/\eV G st.best t y.2.2.2 e
  .show .inl ((j.nx y o.1 r t e L Z o.2).resolve_right λ#[_,h,_]=>nomatch h)
  .show .inr (nx y r t e ((lt O).imp_left λh=>#[h,λz=>o #[h,z]]) L Z K)
 .change y∈b t↔_;rcases bg t with⟨h,n⟩|⟨h,a⟩
  .rw[h,j.bg];show#[λz=>#[Bf _ z.1,z.2],λz=>#[(lt z.1).resolve_right λe=>n (e▸z.2),z.2]]
  .rw[h,Bb,j.bg];show#[λz=>z.elim (λz=>#[Bf _ z.1,z.2]) λz=>by rw[Ai.mp z];show#[Bm _ (Ai.mpr rfl),a],λz=>(lt z.1).imp (λh=>#[h,z.2]) λh=>Ai.mpr h]
 .change((b t).map _).Nodup;rcases bg t with⟨h,n⟩|⟨h,a⟩
  .rw[h];show j.bd t
  .rw[h,Ay,Er];apply#[j.bd t,Hw ..,λy O z hz e=>?_];let#[u,C,rfl]:=Ao.mp O;show k.xP u ((j.bg t u).mp C).1 (e.trans (Ai.mp hz))
 .let h:=j.ln;rw[Ag];show#[Ar hl.1 (Ep h.1),Ar hl.2 (Ep h.2)]
theorem J.part{b:Av×Int->Qu}{n:Nat}(k:jE G st P T cur x q1 q2 r)(S:r.parts[↥x.2.2.1]? = aa t)(D:n<=st.bn+1)(K:∀y∈X,Nn y.1/\dJ y.1 x.1=ac/\y.2=fD x.2 y.2.2.2/\eV G st.best t x.2.2.2 y.2.2.2)(f:(X.map λy=>y.2.2.2).Nodup)(C:∀e,eV G st.best t x.2.2.2 e->∃y∈X,y.2.2.2=e)(Y:∀k,b k=if G.own t=ab/\(t,x.2.2.2)=k then st.bg k++[x] else st.bg k):J G #[q1++q2,st.rk,st.best,st.en,b,n,st.n] (P++[x]) (T++[x]) X x.1:=by
 let s:=k.sx.2;let j:=k.j;let m:∀u,At G u x.2↔G.own t=ab/\(t,x.2.2.2)=u:=λu=>by
  apply#[λ#[v,L,c,Z,F]=>?_,λ#[L,Z]=>Z▸#[rfl,L,r,k.ru,S]];cases k.ru.symm.trans Z;cases S.symm.trans F;show#[L,Jt rfl v]
 apply J.step k #[Ht _,D] ?_ (λy O z hz w=>?_) (λy O=>?_) (λ_ h=>h) (λZ=>?_) (λy g t' e h L Z F=>?_) (λt'=>?_) j.en j.ed j.bs
 .unfold Vj at f⊢;rw[Gs]at f⊢;show f.imp λh e=>h (Eo (Eo (Eo (Eo e).2).2).2).2
 .let#[_,_,O,_]:=K y O;let w:ev z=ev (y.1,fD x.2 y.2.2.2):=by rw[w,<-O]
  let#[p,L,Z]:=zD w;let#[_,_,M]:=j.sd z (Bf _ hz);rw[L]at M;let#[A,a,F]:=M.pd p x.2.2.2 rfl;show k.xP A a (F.trans Z)
 .let#[L,Z,F,U]:=K y O;show#[L,Z,r,F▸s.next S (λ_ h=>h) U #[x,Bm _ (.head _),rfl]]
 .rw[S]at Z;cases Z
 .rcases h with h|rfl
  .show absurd F h.2
  .cases k.ru.symm.trans L;cases S.symm.trans Z;let#[z,hz,h]:=C e F;show#[z,hz,by rw[(K z hz).2.2.1,h]]
 .rw[Y,m]
  by_cases h:G.own t=ab/\(t,x.2.2.2)=t'
  .rw[Xb h];show .inr #[rfl,h]
  .rw[Xa h];show .inl #[rfl,h]
theorem J.old(k:jE G st P T cur x q1 q2 r)(S:r.parts[↥x.2.2.1]? = ae)(l:(r.name,cH x.2,x.2.2.2)∈fs st.best):J G {st with q:=q1++q2} (P++[x]) (T++[x]) [] x.1:=by
 let no:∀{g t},G.rs[x.2.1]? = aa g->g.parts[↥x.2.2.1]? = aa t->False:=λL Z=>by
  cases k.ru.symm.trans L;rw[S]at Z;cases Z
 apply J.step k #[Ht _,Ht _] .nil (λ_ h=>nomatch h) (λ_ h=>nomatch h) (λ_ h=>h) (λ_=>l) (λy g t e h L Z F=>?_) (λt=>.inl #[rfl,λ#[_,_,g,L,Z]=>no L Z]) k.j.en k.j.ed k.j.bs;rcases h with h|rfl
 .show absurd F h.2
 .show(no L Z).elim
theorem J.set(k:jE G st P T cur x q1 q2 r)(S:r.parts[↥x.2.2.1]? = ae)(q:(r.name,cH x.2,x.2.2.2)∉fs st.best):J G #[q1++q2,st.rk,st.best++[((r.name,cH x.2,x.2.2.2),x.1,x.2.1,eI x.2)],λt=>if (r.name,cH x.2)=t then st.en t++[(x.2.2.2,x.1)] else st.en t,st.bg,st.bn,st.n] (P++[x]) (T++[x]) ((st.bg (r.name,cH x.2)).map λe=>(jC e.1 x.1,fD e.2 x.2.2.2)) x.1:=by
 let j:=k.j;let#[i,s]:=k.sx;let hk:↥x.2.2.1=↥r.parts:=Nat.le_antisymm s.le (List.getElem?_eq_none_iff.mp S);let ct:=s.ct;rw[hk,Cb]at ct;let no:∀{g t},G.rs[x.2.1]? = aa g->g.parts[↥x.2.2.1]? = aa t->False:=λL Z=>by
  cases k.ru.symm.trans L;rw[S]at Z;cases Z
 let tl:∀f,f∈fs (st.best++[((r.name,cH x.2,x.2.2.2),x.1,x.2.1,eI x.2)])↔f∈fs st.best\/f=(r.name,cH x.2,x.2.2.2):=λf=>by
  unfold fs;rw[Ay,Bb,List.map_singleton,Ai]
 let H:x.2.2.2∈G.places:=ct.plc _ (Bm _ (.head _));let F:∀y∈st.bg (r.name,cH x.2),y∈P/\y.2.2.2=cH x.2/\G.own r.name=ab/\Nn y.1/\∃g,Sd G st.best P y.2 g/\g.parts[↥y.2.2.1]? = aa r.name:=λy O=>by
  let#[L,v,Z,g,K,R]:=(j.bg _ y).mp O;let#[D,E,d]:=j.sd y (Bf _ (Bf _ (j.pt y L)));cases K.symm.trans d.ru;show#[L,v,Z,D,_,d,R]
 apply J.step k #[by rw[Ag];show Aj _,Ht _] ?_ (λy O z hz w=>?_) (λy O=>?_) (λf h=>(tl f).mpr (.inl h)) (λ_=>(tl _).mpr (.inr rfl)) (λy g t e h L Z K=>?_) (λt=>.inl #[rfl,λ#[_,_,g,L,Z]=>no L Z]) (λu e=>?_) (λu=>?_) λpre e post h=>?_
 .have:=j.bd (r.name,cH x.2);unfold Vj at this⊢;rw[Gs]at this;rw[Br,Gs];apply this.imp λ{a b} h e=>h ?_;let#[p,L,Z]:=zD (c:=jC b.1 x.1) (x:=b.2) (e:=x.2.2.2) (z:=(jC a.1 x.1,fD a.2 x.2.2.2)) e;rw[<-Z];let#[N,A]:=Eo L;let l:=(Eo A).1;let#[Q,M]:=Kt l rfl;show congrArg ky (Jt N (Jt Q (Kn M).1))
 .let#[y,C,rfl]:=Ao.mp O;let#[L,v,Z,_,g,U,K]:=F y C;let#[p,N,A]:=zD w;let#[_,E,d]:=j.sd z (Bf _ hz);rw[N]at d;cases U.ru.symm.trans d.ru;let#[qs,t,l,_,ok]:=d.ct.inv;let el:↥p=↥y.2.2.1:=(Eo (Eo A).2).1;let l:List.take ↥(p++[y.2.2.2]) g.parts=qs++[t]:=l;rw[Ag,Bz,Ce,el,K]at l;cases (Kt l rfl).2;let ok:=ok.2;rw[Xb Z,v]at ok;show q ok
 .let#[y,C,rfl]:=Ao.mp O;let#[L,v,Z,D,g,U,K]:=F y C;apply#[#[Nz D.1 i.1,Nz D.2 i.2],?_,g,U.next K (λf h=>(tl f).mpr (.inl h)) #[H,?_] #[y,Bf _ L,rfl]]
  .rw[j0];change _<y.1.1+x.1.1\/_=y.1.1+x.1.1/\_<=y.1.2+x.1.2;have:=D.1;have:=D.2;lia
  .rw[Xb Z,v];show(tl _).mpr (.inr rfl)
 .rcases h with⟨h,R⟩|rfl
  .let V:G.own t=ab:=Ni λo=>by
    apply R #[K.1,?_];let K:=K.2;rw[Xa o]at K⊢;show K
   let B:=K.2;rw[Xb V]at B;let#[I,e]:=Eo (((tl _).mp B).resolve_left λz=>R #[K.1,by rw[Xb V];show z]);let#[N,e]:=Eo e;subst I e;show#[_,Ao.mpr #[y,(j.bg _ y).mpr #[h,N,V,g,L,Z],rfl],rfl]
  .show(no L Z).elim
 .rw[tl]
  by_cases z:(r.name,cH x.2)=u
  .subst z;rw[Xb rfl,Ay,Bb,j.en];show or_congr Rz #[λh=>by rw[Ai.mp h],λh=>by cases h;show .head _]
  .rw[Xa z,j.en];show#[.inl,λh=>h.resolve_right λh=>z (Jt (Eo h).1.symm (Eo (Eo h).2).1.symm)]
 .by_cases z:(r.name,cH x.2)=u
  .subst z;rw[Xb rfl,Ay,Er];apply#[#[(j.ed _).1,Hw ..,λa m b Y e=>q ?_],λy O=>(Bb.mp O).elim ((j.ed _).2 y) λh=>by rw[Ai.mp h];show#[H,i]];rw[e,Ai.mp Y]at m;show(j.en _ _).mp m
  .rw[Xa z];show j.ed u
 .rcases Il post with rfl|⟨post,y,rfl⟩
  .let#[L,Z]:=Kt h rfl;cases Z;rw[<-L];show#[r,_,_,k.ru,rfl,rfl,ct,q]
  .rw[Im,<-Sk,<-Bh]at h;show j.bs pre e post (Kt h rfl).1
noncomputable def zF:SS:=#[[],[],[],λ_=>[],λ_=>[],0,0]
noncomputable def nB(G:Sr):Qu:=(Cf ↥G.rs).flatMap λn=>G.places.map λp=>((G.wt n,1),n,[],p)
theorem J.start(g:Gd G)(S:G.places.Nodup):J G zF [] [] (nB G) (0,0):=by
 let N:∀x∈nB G,∃n p,x=((G.wt n,1),n,[],p)/\n<↥G.rs/\p∈G.places:=λx B=>by
  let#[n,P,B]:=Fe.mp B;let#[p,S,rfl]:=Ao.mp B;show#[n,p,rfl,Gx.mp P,S]
 apply#[g,?_,.nil,(λ_ h=>nomatch h),λx B=>?_,λx B=>?_,(λ_ h=>nomatch h),(λ_ h=>nomatch h),(λx w h=>nomatch (show ae=aa w from h)),Aj _,(λ_ h=>nomatch h),(λ_ h=>nomatch h),λt x=>#[(λh=>nomatch h),λh=>(nomatch h.1)],λ_=>.nil,λk e=>#[(λh=>nomatch h),(λh=>nomatch h)],λk=>#[.nil,λ_ h=>nomatch h],λn r p L Z=>.inr #[((G.wt n,1),n,[],p),Fe.mpr #[n,Gx.mpr (An.mp L).1,Ao.mpr #[p,Z,rfl]],rfl],#[Aj _,Aj _],λpre e post h=>by cases pre<;>cases h]
 .change((nB G).map ev).Nodup;unfold nB;rw[List.map_flatMap];apply List.pairwise_flatMap.mpr #[λn _=>?_,Ox.imp λ{a b} h x B y O e=>?_]
  .rw[Br,Gs];show S.imp λh e=>h (Eo (Eo (Eo (Eo e).2).2).2).2
  .simp only[Br,Ao]at B O;let#[p,_,rfl]:=B;let#[q,_,D]:=O;rw[<-D]at e;show h (Eo e).1
 .let#[n,p,rfl,P,S]:=N x B;show#[#[g.wt n,(by decide:(0:Int)<=1)],_,Bj P,Cr _,.one S,λc p z=>by cases c<;>cases z]
 .let#[n,p,rfl,P,S]:=N x B;have:=g.wt n;rw[j0];change 0<G.wt n\/0=G.wt n/\(0:Int)<=1;lia
theorem J.few(j:J G st P T X cur):↥(T++st.q++X)<=8000000:=by
 have:=len_sub (b:=(Cf ↥G.rs).flatMap λn=>(Cf 5).flatMap λk=>G.places.flatMap λa=>(0::G.places).flatMap λb=>G.places.map λc=>(n,k,a,b,c)) j.nd λy O=>by
  let#[x,B,rfl]:=Ao.mp O;let#[_,r,s]:=j.sd x B;let Z:=j.g.p r (Au s.ru);let F:=s.le;let pl:=s.ct.plc;let hh:cH x.2∈G.places:=by
   apply pl _ ?_;change(x.2.2.1++_).headD 0∈_;cases x.2.2.1<;>exact .head _
  let hg:x.2.2.1.getLastD 0∈0::G.places:=by
   rcases Il x.2.2.1 with e|⟨c,p,e⟩
   .rw[e];show .head _
   .rw[Im]at e;rw[e,List.getLastD_concat];show .tail _ (pl p (by rw[e];simp))
  show Fe.mpr #[x.2.1,Gx.mpr (An.mp s.ru).1,Fe.mpr #[_,Gx.mpr (by lia),Fe.mpr #[_,hh,Fe.mpr #[_,hg,Ao.mpr #[_,pl _ (by simp),rfl]]]]]
 rw[Ab,j1 λn _=>j1 λk _=>j1 λa _=>j1 λb _=>Ab _,Hj,Hj,Bq]at this;let L:=j.g.n;let Z:=j.g.pl;apply Ar this (Ar (Ej L (Fo 5 (Ej Z (Ej (Ep Z) Z)))) ∅)
theorem J.small(j:J G st P T X cur):↥T<=8000000/\st.n<=8000000/\st.bn<=8000000/\↥st.best<=8000000:=by
 let h:=j.few;have:=j.rl;have:=j.ln;rw[Ag,Ag]at *;show#[by lia,by lia,by lia,by lia]
theorem J.bl(j:J G st P T X cur):↥(st.bg k)<=8000000:=by
 let nd:(st.bg k).Nodup:=by
  have:=j.bd k;unfold Vj at this⊢;rw[Gs]at this;show this.imp λh e=>h (by rw[e])
 show Ar (len_sub nd λx B=>j.pt x ((j.bg k x).mp B).1) j.small.1
structure oI(G:Sr)(B:cQ):Prop where
 cl:∀r∈G.rs,∀c p,Ct G B r.parts c p->(r.name,(c++[p]).headD 0,p)∈fs B
 bs:Ord G B
theorem J.done(j:J G st P T [] cur)(hq:st.q=[]):oI G st.best:=by
 apply#[λr O c p ct=>?_,j.bs];let#[n,D]:=Kk O;let a:∀{x},pX st [] x->∃y∈P,ky y.2=ky x:=λ{x} h=>by
  let#[w,hw]:=Ed.mp (h.resolve_right λ#[_,h,_]=>nomatch h);let#[e,m,_,h]:=j.hit x w hw;rw[hq,Bn]at m;show#[e,m,h]
 let go:∀{ps c p},Ct G st.best ps c p->∀rest,r.parts=ps++rest->∃y∈P,ky y.2=ky (n,c,p):=λ{ps c p} h=>by
  induction h with
  | one h=>show λ_ _=>a (j.ini n r _ D h)
  | @snoc ps c p e t h k E=>
   intro rest N;let#[y,I,A]:=E (t::rest) (by rw[N,Bh];rfl);let Z:=A;unfold ky at Z;simp only[Kz]at Z;let#[Y,C,_,U]:=Z;let#[z,hz,L]:=a (j.nx y I r t e (by rw[Y];show D) (by rw[C,h.len,N,Bh,Fw (Aj _),La];rfl) (U▸k));show#[z,hz,L.trans (zbd A)]
 let#[y,I,e]:=go ct [] (Bn _).symm;unfold ky at e;simp only[Kz]at e;let#[Y,C,z3,U]:=e;have:=j.fin y I r (by rw[Y];show D) (List.getElem?_eq_none (by rw[C,ct.len];show Aj _));rw[z3,U]at this;show this
end
noncomputable def ownB(rs:↑aD)(t:Av):Bool:=decide (t∈namesOf rs)
def oJ(h:r∈rs):ownB rs r.name=ab:=Xd (iR.mpr #[r,h,rfl])
noncomputable def kN(rs:↑aD)(ss:↑Av):Sr:=#[rs,ownB rs,[0],λt p=>if p=0/\t∈ss then [(0,1)] else [],λ_=>0]
inductive fE(rs:↑aD)(w:Bool):Av->Prop
 | mk {r:aD}:r∈rs->(∀t∈r.parts,ownB rs t=ab->fE rs w t)->(∀t∈r.parts,ownB rs t=ac->w=ab)->fE rs w r.name
section
variable {G:Sr}{B:cQ}
def HX(o:Ord G B){Q:cD->Prop}(h:∀r∈G.rs,∀c p pre,(∀f∈fs pre,Q f)->Ct G pre r.parts c p->Q (r.name,(c++[p]).headD 0,p)):∀f∈fs B,Q f:=by
 have:∀k pre post,↥pre=k->B=pre++post->∀f∈fs pre,Q f:=by
  intro k
  induction k with
  | zero=>intro pre post h _ X K;rw[Jk.mp h]at K;cases K
  | succ k E=>
   intro pre post hl Y X K;rcases Il pre with rfl|⟨pre,e,rfl⟩
   .cases hl
   rw[Im]at K Y hl;rw[Ag]at hl;let Y:B=pre++e::post:=by rw[Y,Bh];rfl
   let go:=E pre (e::post) (Nat.succ.inj hl) Y;unfold fs at K;rw[Ay]at K;rcases Bb.mp K with L|L
   .show go X L
   .let#[r,c,p,Z,F,_,T,_]:=o pre e post Y;rw[(Ai.mp L).trans F];show h r (Au Z) c p pre go T
 show this ↥B B [] rfl (Bn B).symm
def Ct.all{p:Int}(h:Ct G B ps c p):∀t∈ps,∃x∈G.places,∃y,eV G B t x y:=by
 induction h with
 | one=>show λ_ h=>nomatch h
 | @snoc _ _ p _ _ h k E=>show λt ht=>(Bb.mp ht).elim (E t) λz=>Ai.mp z▸#[p,h.plc p (by simp),_,k]
def zG{p e:Int}:(c++[p]++[e]).headD 0=(c++[p]).headD 0:=by cases c<;>rfl
theorem HY:∀{ps qs:↑Av} {c:↑Int},(∀t∈ps,eV G B t 0 0)->Ct G B qs c 0->∃d,Ct G B (qs++ps) d 0/\(d++[0]).headD 0=(c++[0]).headD 0
 | [],qs,c,_,h=>#[c,by rw[Bn];show h,rfl]
 | t::ps,qs,c,S,h=>by
  let#[d,L,Z]:=HY (λu C=>S u (.tail _ C)) (.snoc h (S t (.head _)));show#[d,by rw[Bh]at L;show L,Z.trans zG]
def HZ{w:Bool}(hw:∀r∈rs,∀t∈r.parts,ownB rs t=ac->(t∈ss↔w=ab))(F:oI (kN rs ss) B)(f:cD):f∈fs B↔f.2=(0,0)/\fE rs w f.1:=by
 let one:∀{q:Int},q∈(kN rs ss).places->q=0:=λh=>Ai.mp h;constructor
 .apply HX (Q:=λf=>f.2=(0,0)/\fE rs w f.1) F.bs (λr G c p pre go ct=>?_) f;let pl:=ct.plc;let hd:(c++[p]).headD 0=0:=one (pl _ (by cases c<;>exact .head _));apply#[by rw[hd,one (pl p (by simp))],.mk G (λt ht D=>?_) λt ht D=>?_]
  all_goals
   let#[x,_,y,k]:=ct.all t ht;let k:=k.2
  .rw[Xb (show(kN rs ss).own t=ab from D)]at k;show(go _ k).2
  .rw[Xa (by change ¬ownB rs t=ab;rw[D];decide)]at k;let#[d,k]:=k;let k:(y,d)∈if x=0/\t∈ss then [((0:Int),(1:Int))] else []:=k;split at k
   .rename_i z;show(hw r G t ht D).mp z.2
   .cases k
 .let#[X,p,e]:=f;rintro⟨L,h⟩;cases L
  revert h
  change fE rs w X->(X,0,0)∈fs B;intro h
  induction h with
  | @mk r G _ Z E=>
   let ok:∀t∈r.parts,eV (kN rs ss) B t 0 0:=λt ht=>by
    apply#[.head _,?_];split
    .rename_i D;show E t ht D
    .rename_i D;let D:ownB rs t=ac:=Ro.mpr D;apply#[1,?_];change _∈if (0:Int)=0/\t∈ss then [((0:Int),(1:Int))] else [];rw[Xb #[rfl,(hw r G t ht D).mpr (Z t ht D)]];show .head _
   let#[c,K,T]:=HY (qs:=[]) (c:=[]) ok (.one (.head _));have:=F.cl r G c 0 K;rw[T]at this;show this
def IA(o:Ord G B):(fs B).Nodup:=by
 unfold fs;rw[Hi,Gs];apply List.pairwise_iff_getElem.mpr λi j hi hj t e=>?_;let#[r,c,p,_,_,_,_,F]:=o _ _ _ (show B=B.take j++B[j]::B.drop (j+1) by rw[<-Eb hj,Jy]);apply F (Ao.mpr #[B[i],?_,e]);rw[List.mem_iff_getElem];show#[i,by rw[Dc];lia,by rw[List.getElem_take]]
def vD(o:Ord G B)(g:Gd G):↥B<=16*↥(namesOf G.rs):=by
 have:=len_sub (b:=(namesOf G.rs).flatMap λX=>G.places.flatMap λp=>G.places.map λe=>(X,p,e)) (IA o) λf hf=>HX o (Q:=λf=>f∈_) (λr J c p pre _ ct=>Fe.mpr #[r.name,iR.mpr #[r,J,rfl],Fe.mpr #[_,ct.plc _ (by cases c<;>exact .head _),Ao.mpr #[_,ct.plc _ (by simp),rfl]]]) f hf;rw[j1 λX _=>j1 λp _=>Ab _]at this;unfold fs at this;rw[Ab]at this;let h:=g.pl;apply Ar this ?_;rw[Nat.mul_comm];show Nat.mul_le_mul_right _ (Ej h h)
end
def IC(L:↥rs<=20000)(Z:∀r∈rs,↥r.parts<=4):Gd (kN rs ss):=by
 apply#[L,Z,(by decide:1<=4),λ_=>Sw _,λt p _=>?_];change(∀z∈(if p=0/\t∈ss then [((0:Int),(1:Int))] else []),z.1∈[(0:Int)]/\_)/\((if p=0/\t∈ss then [((0:Int),(1:Int))] else []).map (·.1)).Nodup;split
 .show#[λz hz=>by rw[Ai.mp hz];decide,Hw ..]
 .show#[(λ_ h=>nomatch h),.nil]
open Classical in
def lQ(rs:↑aD)(w:Bool)(t:Av):Bool:=decide (fE rs w t)
def nC{w:Bool}:lQ rs w t=ab↔fE rs w t:=by unfold lQ;show @decide_eq_true_iff _ (Classical.propDecidable _)
section
variable {X:Cx}
abbrev zH:R3:=λx y M R=>∃i j,x=.str i/\y=.str j/\↥i+↥j<=Ap/\R (.str (i++j)) M
abbrev ID:R3:=λx y M R=>∃z n,x=.str z/\y=.int n/\↥z<=16/\-(2 ^ 63)<=n/\n<=1048576/\R (.str (Ur z n)) M
def zbe:bF X (Fq .Add) (cJ X.K zH):=by
 rintro C s G H x y v u Q I S N ⟨P,l,M,R,O,d,m,⟨i,j,rfl,rfl,L,Z⟩,k⟩;show QK C s G H _ _ v u Q I S N #[i,j,d.inv,m.inv,L,k.at O (.str _) Z]
def zbf:bF X (Fq .Mult) (cJ X.K ID):=by
 rintro C s G H x y v u Q I S N ⟨P,l,M,R,O,d,m,⟨z,n,rfl,rfl,L,Z,F,T⟩,k⟩;show UO C s G H _ _ v u Q I S N #[z,n,d.inv,m.inv,L,Z,F,k.at O (.str _) T]
end
def zJ:a8:=λws M R=>∃z g:Av,ws=[.str z,.str g]/\↥z<=1000/\R (.bl (kX z g)) M
def zK:a8:=λws M R=>∃z:Av,ws=[.str z]/\↥z<=1000/\R (.bl (a9 z)) M
def jF:a8:=λws M R=>∃rs:↑aD,ws=[.rl (rs.map bX)]/\↥rs<=20000/\aR ((namesOf rs).map W.str) M R
def oK:a8:=λws M R=>∃(r:aD) (rs:↑aD),ws=[.rl ((r::rs).map bX)]/\R (.str r.name) M
def rZ:a8:=λws M R=>∃(L:↑W) (k:Int),(ws=[.sc L,.int k]\/ws=[.rl L,.int k])/\oB L/\0<=k/\∀i,R (.int i) M
noncomputable abbrev zbg:↑Av:=["text","signs"]
abbrev zbh:aE:=
   (bH (rD (aH (dU ab) aG (vC (.str ""))) (a7 rM (aA (bP (d8 (cA dH aG) (a6 0) eU (aH (cL ac) aG aN) [ae,aa 1])) aB))))
noncomputable abbrev zbi:↑Av:=["part","pieces","right_end"]
abbrev zbj:aE:=
   (aQ 1 (c9 "str" F8 aG (aA (vC (.str "_")) aB)))
abbrev zbk:aE:=
   (aQ 2 (mL (aH (dU ac) (vX aN bC) (vC (.str ""))) (aS zJ (aA (vX aN jS) (aA (vC (.str "0123456789")) aB)))))
abbrev IE:aE:=
   (bH (rD aT (aS zJ (aA (vX aN bM) (aA (vC (.str "ABCDEFGHIJKLMNOPQRSTUVWXYZ")) aB)))))
abbrev zbl:aE:=(aF zbj (aF zbk IE))
noncomputable abbrev zbm:↑Av:=["grammar","found","rule"]
abbrev zbn:aE:=
   (aQ 1 uH)
abbrev zbo:aE:=
   (fX (vC (.bl ab)) (i8 aN (vX aT bM)))
abbrev zbp:aE:=
   (dG (cA dH aG) (a6 2) zbo)
abbrev zbq:aE:=
   (bH (a7 yM (aA aN aB)))
abbrev zbr:aE:=(aF zbn (aF zbp zbq))
noncomputable abbrev zbs:↑Av:=["grammar"]
abbrev zbt:aE:=
   (bH (vX (vX aG bM) bM))
noncomputable abbrev zbu:↑Av:=["script","k"]
abbrev zbv:aE:=
   (aF (b9 (bU (aH mO aN (a7 cT (aA aG aB))))
    (bH (vX aG aN))
    cS)
   (bH bM))
def zbw:∀ws M R,rZ ws M R->↥ws=2:=by rintro ws M R ⟨_,_,rfl|rfl,_⟩<;>rfl
def zbx(c:Nat)(g:Av):occ #[[c].toArray] g=decide (c∈cs g):=StrLaws.found_one g c
def nD{b:Bool}{P Q:Prop}(L:b=ab->P)(Z:b=ac->Q):if b=ab then P else Q:=by cases b;show Z rfl;show L rfl
def zby:bK zJ zbh zbg:=by
 rintro _ M R ⟨z,g,rfl,hz,r⟩;let i:kX z g=(!decide (z = "")&&(cs z).all λc=>decide (c∈cs g)):=by rw[<-uD];rfl
 apply(nD (λY=>(mU (rest:=[aa (.str g)]) (λw=>match w with|.str x=>.bl (occ x g)|_=>.non) (small (by rw[Ab];show Ar (Ry (xS z)) (Ar hz ∅))) (λ_ _=>trivial) (λw hw V C sb L=>?_) (aR.frz #[(cs z).map λc=>decide (c∈cs g),?_,_,aZ,?_]))) λY=>#[_,aZ,?_])
 .let#[c,_,rfl]:=Ao.mp hw;show L
 .unfold bools;rw[Br,Br];show Ey λc _=>congrArg W.bl (zbx c g)
 .rw[i,show(!decide (z = ""))=ab from Y,Bool.true_and]at r;rw[Nq];show r
 .rw[i,show(!decide (z = ""))=ac from Y,Qe]at r;show r
def zbz(z:Av):(Dq z "_").1.length<=↥z/\(Dq z "_").2.2.length<=↥z:=by
 have:=fact_partition z "_";show#[this.1,this.2.2]
def zbA(z:Av):a9 z=((decide ((Dq z "_").2.1 = "")||kX (Dq z "_").2.2 mF)&&kX (Dq z "_").1 jN):=by
 unfold a9;rw[uD]
def zbB:bK zK zbl zbi:=by
 rintro _ M R ⟨z,rfl,hz,r⟩;let#[L,F]:=zbz z;rw[zbA z]at r;let go:∀{b:Bool} {M:Mm},R (.bl (b&&kX (Dq z "_").1 jN)) M->IE (n9 R) [aa (.str z),aa (.tup [.str (Dq z "_").1,.str (Dq z "_").2.1,.str (Dq z "_").2.2]),aa (.bl b)] M:=λ{b M} r=>(nD (λY=>#[_,_,rfl,Ar L hz,_,aZ,by rw[Y]at r;show r]) λY=>#[_,aZ,by rw[Y]at r;show r])
 show#[rfl,by decide +kernel,Ar hz ∅,nD (λY=>go (b:=ab) (by rw[show decide ((Dq z "_").2.1 = "")=ab from Y]at r;show r)) λY=>#[_,_,rfl,Ar F hz,go (by rw[show decide ((Dq z "_").2.1 = "")=ac from Y]at r;show r)]]
noncomputable def cE(t:Av):aC×W:=(Sum.inr t,.bl ab)
def vE(acc:↑Av)(t:Av):bW (acc.map cE) (Sum.inr t:aC) (.bl ab)=(cZ acc t).map cE:=by
 unfold bW cZ;let e:((acc.map cE).any λkv=>decide (kv.1=Sum.inr t))=decide (t∈acc):=by
  rw[Ku,Fd];simp[cE,Mp]
 rw[e]
 by_cases h:t∈acc
 .rw[Xb (Xd h),Xb h,Br];apply Ey λu hu=>?_;simp[cE,Mp]
 .rw[Xa (by simpa using h),Xa h,Ay];rfl
def zbC:bK jF zbr zbm:=by
 rintro _ M R ⟨rs,rfl,hl,r⟩;apply λp S=>((mY (λi U V=>∃o,U=[aa (.rl (rs.map bX)),aa (.ref p),o]/\V=put M p (.dK ((namesOf (rs.take i)).map cE))) #[_,rfl,rfl] ?_ ?_))
 .rintro i w U V hw ⟨o,rfl,rfl⟩;rw[Az]at hw;let#[q,hq,rfl]:=Bd.mp hw;let hi:i<↥rs:=(An.mp hq).1;let e:namesOf (rs.take (i+1))=cZ (namesOf (rs.take i)) q.name:=by
   rw[Ce,hq];unfold namesOf lP;simp
  let Y:↥(namesOf (rs.take i))<=i:=by
   have:=rW ((rs.take i).map aD.name) [];unfold namesOf lP;simp at this;simp;lia
  apply(uU aK (by rw[Ab];show dA (by lia)) #[_,aZ,_,rfl,?_]);rw[cF,vE,e]
 .rintro U V ⟨o,rfl,rfl⟩;rw[Ab,Cb];apply(.inr #[_,aK,λq hq=>?_]);let t:q≠p:=λe=>by subst e;rw[aK]at hq;cases hq
  rw[aW t]at hq;apply#[_,?_,r q hq];rw[Br];show Sub.put (Sub.new S)
def zbD:bK oK zbt zbs:=by
 rintro _ M R ⟨q,rs,rfl,r⟩;show(so.of (kW (j:=0) rfl) #[_,aZ,r])
def zL{t:Av}{ts:↑Av}:inW (.str t) (ts.map W.str)=decide (t∈ts):=by
 unfold inW;rw[Ku,Fd,Hc,decide_eq_true_eq];show#[λ#[x,h,e]=>eq_of_beq (show(x==t)=ab from e)▸h,λh=>#[t,h,beq_self_eq_true t]]
def zM(ts:↑Av):(ts.map W.str).all fT=ab:=by
 rw[Nq,He];intro t _;rfl
def zbE:bK rZ zbv zbu:=by
 rintro _ M R ⟨L,k,e,hi,hk,r⟩;let go:decide (k<↥L)=ab->so (cC L k) λw=>∃V,L2.Sub V M/\R w V:=λhd=>by
  let#[x,e,_,m]:=GJ hk (Xc hd);let#[i,rfl]:=hi x m;show so.of e #[_,aZ,r i]
 rcases e with rfl|rfl
 .show nD go λ_=>#[_,aZ,r 0]
 .show nD go λ_=>#[_,aZ,r 0]
noncomputable def eK(k:Av×Int):↑aC:=[Sum.inr k.1,Sum.inl k.2]
def IF:∀a b:Av×Int,eK a=eK b->a=b:=λa b h=>Jt (Ub (Kn h).1) (Sum.inl.inj (Kn (Kn h).2).1)
noncomputable def vF(z:Int×bV):W:=.tup [.int z.1,cW z.2]
noncomputable def r6(y:bV×Itm):W:=.tup [.int y.2.1,gP (eI y.2),cW y.1]
noncomputable def fK(f:cD):↑aC:=[Sum.inr f.1,Sum.inl f.2.1,Sum.inl f.2.2]
noncomputable def eJ(e:bV×Nat×↑Int):W:=.tup [cW e.1,.int e.2.1,gP e.2.2]
def lR:∀a b:cD,fK a=fK b->a=b:=λa b h=>by
 unfold fK at h;simp only[Ff,Px,Tb,and_true]at h;let#[f,g,J]:=a;let#[V,j,c]:=b;simp only at h;let#[L,Z,F]:=h;rw[L,Z,F]
section
variable {U J:Type}[DecidableEq U]{kk:U->↑aC}{f:J->W}
noncomputable abbrev eC(kk:U->↑aC)(f:J->W)(t:↑(U×J)):↑(↑aC×W):=t.map λe=>(kk e.1,f e.2)
def oM(c:∀a b,kk a=kk b->a=b)(t:↑(U×J))(k:U):aM (eC kk f t) (kk k)=(cU t k).map f:=by
 induction t with
 | nil=>rfl
 | cons e t E=>
  change aM ((kk e.1,f e.2)::eC kk f t) (kk k)=_;rw[oG,mW,E]
  by_cases h:e.1=k
  .rw[Xb (by rw[h]),Xb h];rfl
  .rw[Xa (λz=>h (c _ _ z)),Xa h]
def IG(c:∀a b,kk a=kk b->a=b)(t:↑(U×J))(k:U)(v:J):bW (eC kk f t) (kk k) (f v)=eC kk f (mV t k v):=by
 unfold bW mV;rw[show((eC kk f t).any λn=>decide (n.1=kk k))=(aM (eC kk f t) (kk k)).isSome from mX _ _,oM c,mX];cases cU t k with
 | none=>simp
 | some w=>
  simp only[Option.map_some,Option.isSome_some,if_true,Br];refine' Ey ..;intro e _;simp only[Mp]
  by_cases h:e.1=k
  .rw[Xb (by rw[h]),Xb h]
  .rw[Xa (λz=>h (c _ _ z)),Xa h]
end
structure Env where
 rs:↑aD
 own:↑(aC×W)
 stp:↑(↑aC×W)
structure Ad where
 s:Am
 d:Am
 Q:Aq
 r:Am
 b:Am
 e:Am
 g:Am
noncomputable def sf(E:Env)(A:Ad):↑(Av×W):=[("grammar",(bE E.rs)),("own",(.dk E.own)),("steps",(.dt E.stp)),("queue",(.ref A.Q.o)),("reached",(.ref A.r)),("best",(.ref A.b)),("ends",(.ref A.e)),("begun",(.ref A.g))]
def II:Cq ("grammar" : Av) (sf E A)=aa (bE E.rs):=by kernel_rfl
def zbF:Cq ("own" : Av) (sf E A)=aa (W.dk E.own):=by kernel_rfl
def zbG:Cq ("steps" : Av) (sf E A)=aa (W.dt E.stp):=by kernel_rfl
def zN:Cq ("queue" : Av) (sf E A)=aa (W.ref A.Q.o):=by kernel_rfl
def vG:Cq ("reached" : Av) (sf E A)=aa (W.ref A.r):=by kernel_rfl
def zP:Cq ("best" : Av) (sf E A)=aa (W.ref A.b):=by kernel_rfl
def IJ:Cq ("ends" : Av) (sf E A)=aa (W.ref A.e):=by kernel_rfl
def IK:Cq ("begun" : Av) (sf E A)=aa (W.ref A.g):=by kernel_rfl
def vH:Cq ("reach" : Av) (sf E A)=ae:=by kernel_rfl
def zbH:Cq ("take_next" : Av) (sf E A)=ae:=by kernel_rfl
def zbI:Cq ("step_by_name" : Av) (sf E A)=ae:=by kernel_rfl
def zbJ:Cq ("settle" : Av) (sf E A)=ae:=by kernel_rfl
structure Mn(C:Cc)(E:Env)(M0 M:Mm)(A:Ad)(rk:↑(↑aC×W))(bs:cQ):Prop where
 sub:L2.Sub M0 M
 ns:M0 A.s=ae
 nr:M0 A.r=ae
 nb:M0 A.b=ae
 sr:A.s≠A.r
 sb:A.s≠A.b
 rb:A.r≠A.b
 os:M A.s=aa (.ins C.s A.d (sf E A))
 or:M A.r=aa (.dT rk)
 ob:M A.b=aa (.dT (eC fK eJ bs))
def Kept(M:Mm):Option (Am×↑W)->Prop
 | none=>True
 | some x=>M x.1=aa (.lst x.2)
structure SK(C:Cc)(E:Env)(M0 M:Mm)(A:Ad)(st:SS)(kp:Option (Am×↑W)):Prop where
 ex:∃M1 M2 M3 e g,Mn C E M0 M1 A st.rk st.best/\c7 eK M1 M2 A.e e (λt=>lo vF (st.en t))/\c7 eK M2 M3 A.g g (λt=>lo r6 (st.bg t))/\QR C M3 M A.Q st.q st.n/\↥st.rk<=st.n/\↥e<=↥st.best/\↥g<=st.bn/\Kept M3 kp
abbrev SR(C:Cc)(E:Env)(M0 M:Mm)(A:Ad)(st:SS):Prop:=SK C E M0 M A st ae
def c7.get{b q:Type}[DecidableEq b]{n:b->↑aC}{M0 M:Mm}{a:Am}{kvs:↑(↑aC×W)}{f:q->W}{h:b->↑q}(t:c7 n M0 M a kvs λk=>lo f (h k))(k:b):(aM kvs (n k)=ae/\h k=[])\/∃p,aM kvs (n k)=aa (.ref p)/\M p=aa (.lst ((h k).map f)):=by
 cases e:h k with
 | nil=>show .inl #[t.non k (by change lo f (h k)=_;rw[e];rfl),rfl]
 | cons y ys=>show .inr (t.has (by change lo f (h k)=_;rw[e];rfl))
section
variable {C:Cc}{E:Env}{M0 M:Mm}{A:Ad}{st:SS}{kp:Option (Am×↑W)}
def SK.up(h:SK C E M0 M A st kp):∃I,Mn C E M0 I A st.rk st.best/\L2.Sub I M/\↥st.rk<=st.n:=by
 let#[I,G,H,e,g,L,Z,F,T,O,_]:=h.ex;show#[I,L,(Z.sub.trans F.sub).trans T.sub,O]
def SK.os(h:SK C E M0 M A st kp):M A.s=aa (.ins C.s A.d (sf E A)):=let #[_,m,s,_]:=h.up;s _ _ m.os
def SK.or(h:SK C E M0 M A st kp):M A.r=aa (.dT st.rk):=let #[_,m,s,_]:=h.up;s _ _ m.or
def SK.ob(h:SK C E M0 M A st kp):M A.b=aa (.dT (eC fK eJ st.best)):=let #[_,m,s,_]:=h.up;s _ _ m.ob
def SK.free(h:SK C E M0 M A st kp):SR C E M0 M A st:=by
 let#[I,G,H,e,g,L,Z,F,T,O,i,K,_]:=h.ex;show#[I,G,H,e,g,L,Z,F,T,O,i,K,trivial]
def SK.kept(h:SK C E M0 M A st (aa (p,ws))):M p=aa (.lst ws):=by
 let#[I,G,H,e,g,L,Z,F,T,O,i,_,K]:=h.ex;show T.sub _ _ K
def SK.rpush(h:SK C E M0 M A st kp)(k:↑aC)(w:W):∃H,QR C H (put M A.r (.dT (bW st.rk k w))) A.Q st.q st.n/\put M A.r (.dT (bW st.rk k w)) A.s=aa (.ins C.s A.d (sf E A))/\∀V q,QR C H V A.Q q (st.n+1)->SK C E M0 V A {st with rk:=bW st.rk k w,q:=q,n:=st.n+1} kp:=by
 let#[I,G,H,e,g,m,Z,F,T,O,i,K,a]:=h.ex;let t:=Z.sub _ _ m.or;let v:=F.sub _ _ t;apply#[_,T.lift (.inr #[_,v]),by rw[aW m.sr];show h.os,λV q hq=>#[_,_,_,e,g,#[gO m.sub m.nr,m.ns,m.nr,m.nb,m.sr,m.sb,m.rb,by rw[aW m.sr];show m.os,aK,by rw[aW (Ca m.rb)];show m.ob],Z.lift (.inr #[_,m.or]),F.lift (.inr #[_,t]),hq,Ar (zC ..) (Ep O),i,K,?_]];cases kp with
 | none=>trivial
 | some x=>
  let a:H x.1=aa (.lst x.2):=a;change put H A.r _ x.1=aa (.lst x.2);rw[aW (λz=>by rw[z,v]at a;cases a)];show a
def SK.que(h:SK C E M0 M A st kp):∃H,QR C H M A.Q st.q st.n/\∀V q,QR C H V A.Q q st.n->SK C E M0 V A {st with q:=q} kp:=by
 let#[I,G,H,e,g,L,Z,F,T,O]:=h.ex;show#[H,T,λV q hq=>#[I,G,H,e,g,L,Z,F,hq,O]]
def SK.bo(h:SR C E M0 M A st):put M A.b o A.s=aa (.ins C.s A.d (sf E A)):=by
 let#[_,m,_]:=h.up;rw[aW m.sb];show h.os
def SK.epush(h:SR C E M0 M A st){v:cD×bV×Nat×↑Int}{t:Av×Int}{c:Int×bV}{R:K3}{T:W->Mm->Prop}(s:∀y G,eS y [vF c] G R->T y G)(P:↥st.best<=8000000)(hl:↥(st.en t)<=8000000)(r:∀V,SR C E M0 V A {st with best:=st.best++[v],en:=λj=>if t=j then st.en j++[c] else st.en j}->R .non V):
  jU "dict" (.ref A.e) (put M A.b (.dT (eC fK eJ (st.best++[v]))))/\∀p,put M A.b (.dT (eC fK eJ (st.best++[v]))) p=ae->pN (.ref A.e) [.tup [.str t.1,.int t.2],.ref p] (put (put M A.b (.dT (eC fK eJ (st.best++[v])))) p (.lst [])) λy G=>jU "list" y G/\T y G:=by
 let#[I,G,H,e,g,m,Z,F,O,B,i,K,_]:=h.ex;let Y:=Z.sub _ _ m.ob;apply c7.push (Q:=λN d=>∃H g,c7 eK N H A.g g (λt=>lo r6 (st.bg t))/\QR C H d A.Q st.q st.n/\↥g<=st.bn) (k:=t) IF (λ#[_,g,a,b,l] S=>#[_,g,a.lift (S.imp_left b.sub.non),b.lift (S.imp_right λJ=>by let#[u,z]:=J;show#[u,a.sub _ _ z]),l]) (λf=>by let#[_,_,a,b,_]:=f;show a.sub.trans b.sub) #[_,g,F.lift (.inr #[_,Y]),O.lift (.inr #[_,F.sub _ _ Y]),K] (Z.lift (p:=A.b) (o:=.dT (eC fK eJ (st.best++[v]))) (.inr #[_,m.ob])) s (by lia) (by rw[rY,Ab];lia) λN d kvs t' #[H,g,a,b,l] hk=>r _ #[_,_,_,_,g,#[gO m.sub m.nb,m.ns,m.nr,m.nb,m.sr,m.sb,m.rb,by rw[aW m.sb];show m.os,by rw[aW m.rb];show m.or,aK],t'.same λj=>?_,a,b,B,?_,l,trivial]
 .change lo _ (if t=j then _ else _)=_
  by_cases hj:t=j
  .subst hj;rw[Xb rfl,Xb rfl];show u9 ..
  .rw[Xa hj,Xa hj]
 .change _<=↥(_++[v]);rw[Ag];show Ar hk (Ep i)
def SK.gpush(h:SR C E M0 M A st)(P:st.bn<=8000000)(hl:↥(st.bg t)<=8000000)(r:∀V,SR C E M0 V A {st with bg:=λj=>if t=j then st.bg j++[y] else st.bg j,bn:=st.bn+1}->R .non V):
  jU "dict" (.ref A.g) M/\∀p,M p=ae->pN (.ref A.g) [.tup [.str t.1,.int t.2],.ref p] (put M p (.lst [])) λz G=>jU "list" z G/\eS z [r6 y] G R:=by
 let#[I,G,H,e,g,m,Z,F,T,O,i,K,_]:=h.ex;apply c7.push (Q:=λN d=>QR C N d A.Q st.q st.n) (k:=t) IF QR.lift QR.sub T F (λ_ _ h=>h) (by lia) (by rw[rY,Ab];lia) λN d kvs t' u hk=>r _ #[_,_,_,e,_,m,Z,t'.same λj=>?_,u,O,i,Ar hk (Ep K),trivial];change lo _ (if t=j then _ else _)=_
 by_cases hj:t=j
 .subst hj;rw[Xb rfl,Xb rfl];show u9 ..
 .rw[Xa hj,Xa hj]
def SK.ends_at(h:SR C E M0 M A st)(t:Av×Int):∃kvs,M A.e=aa (.dT kvs)/\((aM kvs (eK t)=ae/\st.en t=[])\/∃p,aM kvs (eK t)=aa (.ref p)/\SK C E M0 M A st (aa (p,(st.en t).map vF))):=by
 let#[I,G,H,e,g,L,Z,F,T,O,i,K,_]:=h.ex;show#[e,T.sub _ _ (F.sub _ _ Z.at_),(Z.get t).imp_right λ#[p,a,b]=>#[p,a,I,G,H,e,g,L,Z,F,T,O,i,K,F.sub _ _ b]]
def SK.begun_at(h:SR C E M0 M A st)(t:Av×Int):∃kvs,M A.g=aa (.dT kvs)/\((aM kvs (eK t)=ae/\st.bg t=[])\/∃p,aM kvs (eK t)=aa (.ref p)/\SK C E M0 M A st (aa (p,(st.bg t).map r6))):=by
 let#[I,G,H,e,g,L,Z,F,T,O,i,K,_]:=h.ex;show#[g,T.sub _ _ F.at_,(F.get t).imp_right λ#[p,a,b]=>#[p,a,I,G,H,e,g,L,Z,F,T,O,i,K,b]]
end
def lU:a8:=λws M R=>∃ts:↑Av,ws=[.rl (ts.map W.str)]/\↥ts<=20000/\R (.dk ((ts.foldl cZ []).map cE)) M
noncomputable def ownOf(rs:↑aD):↑(aC×W):=((namesOf rs).foldl cZ []).map cE
def vJ:a8:=λws M R=>∃a b:bV,ws=[cW a,cW b]/\R (cW (jC a b)) M
def pY(C:Cc):a8:=λws M R=>∃(G:Sr) (E:Env) (M0:Mm) (A:Ad) (st:SS) (P T X:Qu) (v:bV) (x:bV×Itm) (kp:Option (Am×↑W)),ws=[.ref A.s,.int x.2.1,gP (eI x.2),cW x.1]/\SK C E M0 M A st kp/\J G st P T (x::X) v/\∀V l B,SK C E M0 V A l kp->J G l P B X v->↥T<=↥B->R .non V
structure Tk(C:Cc)(G:Sr)(E:Env)(M0 M:Mm)(A:Ad)(st:SS)(P T:Qu)(cur:bV)(x:bV×Itm)(r:aD)(R:K3):Prop where
 q:∃q1 q2,jE G st P T cur x q1 q2 r/\SR C E M0 M A {st with q:=q1++q2}
 k:∀M' st' P' T' cur',SR C E M0 M' A st'->J G st' P' T' [] cur'->↥T<↥T'->R .non M'
def IL(C:Cc):a8:=λws M R=>∃(G:Sr) (E:Env) (M0:Mm) (A:Ad) (st:SS) (P T:Qu) (v:bV) (x:bV×Itm) (r:aD) (t:Av),ws=[.ref A.s,.int x.2.1,gP (eI x.2),cW x.1,.tup [.str t,.int x.2.2.2]]/\Tk C G E M0 M A st P T v x r R/\r.parts[↥x.2.2.1]? = aa t/\G.own t=ab
def IM(C:Cc):a8:=λws M R=>∃(G:Sr) (E:Env) (M0:Mm) (A:Ad) (st:SS) (P T:Qu) (v:bV) (x:bV×Itm) (r:aD),ws=[.ref A.s,.int x.2.1,gP (eI x.2),cW x.1]/\Tk C G E M0 M A st P T v x r R/\r.parts[↥x.2.2.1]? = ae/\G.rs=E.rs
structure IP(G:Sr)(E:Env):Prop where
 rs:G.rs=E.rs
 own:∀t,(aM E.own (Sum.inr t:aC)).isSome=G.own t
 stp:∀t p,(aM E.stp (eK (t,p))=ae/\G.steps t p=[])\/aM E.stp (eK (t,p))=aa (.rl ((G.steps t p).map λz=>.tup [.int z.1,.int z.2]))
def IQ(C:Cc):a8:=λws M R=>∃(G:Sr) (E:Env) (M0:Mm) (A:Ad) (st:SS) (P T:Qu) (v:bV),ws=[.ref A.s]/\SR C E M0 M A st/\IP G E/\J G st P T [] v/\st.q≠[]/\∀V l b B a,SR C E M0 V A l->J G l b B [] a->↥T<↥B->R .non V
def IS(C:Cc):a8:=λws M R=>∃(M0:Mm) (s dx:Am) (rs:↑aD) (stp:↑(↑aC×W)),ws=[.ref s,bE rs,.dt stp]/\↥rs<=20000/\M=put M0 s (.ins C.s dx [])/\M0 s=ae/\∀V (A:Ad),A.s=s->SR C #[rs,ownOf rs,stp] M0 V A zF->R .non V
def zQ(C:Cc):a8:=λws M R=>∃(G:Sr) (E:Env),ws=[bE E.rs,.rl (G.places.map W.int),.dt E.stp,.rl ((Cf ↥G.rs).map λn=>.int (G.wt n))]/\E.own=ownOf E.rs/\IP G E/\Gd G/\G.places.Nodup/\∀B,oI G B->jP (eC fK eJ B) M R
noncomputable abbrev zbK:↑Av:=["things"]
abbrev zbL:aE:=
   (bH (a7 GW (aA (bP (d8 (cA dH aG) (a6 0) eU (bA (aA aG (aA (vC (.bl ab)) aB))) [ae])) aB)))
noncomputable abbrev zbM:↑Av:=["cost","other"]
abbrev zbN:aE:=
   (bH (bA (aA (aH dW (vX aG bM) (vX aN bM)) (aA (aH dW (vX aG bC) (vX aN bC)) aB))))
noncomputable abbrev zbO:↑Av:=["self","grammar","steps"]
abbrev IT(C:Cc):aE:=
   (iQ C.s aG "queue" (lL C.q (HQ C) aB))
abbrev zbP(C:Cc):aE:=(aF (iQ C.s aG "grammar" aN) (aF (iQ C.s aG "own" (aS lU (aA (bP (aS jF (aA aN aB))) aB))) (aF (iQ C.s aG "steps" aT) (aF (IT C) (aF (iQ C.s aG "reached" lI) (aF (iQ C.s aG "best" lI) (aF (iQ C.s aG "ends" lI) (iQ C.s aG "begun" lI))))))))
noncomputable abbrev zbQ:↑Av:=["self","number","cut","cost","key"]
abbrev zbR(C:Cc):aE:=
   (aF (aQ 4 (bA (aA aN (aA (a7 cT (aA aT aB)) (aA (vX aT bM) (aA (vX aT (kH kI bC)) aB))))))
   (b9 (jT (bU (aH (cL ab) bG (cY C.s aG "reached"))) (bU (aH zB bB (vX (cY C.s aG "reached") bG))))
    (aF (fX bB (i8 (cY C.s aG "reached") bG))
   (b8 (eA C.q "put" (HU C) (cY C.s aG "queue") (aA bB (aA (bA (aA aN (aA aT aB))) aB)))))
    cS))
noncomputable abbrev zbS:↑Av:=["self","taken","cost","number","cut","parts","end","price"]
abbrev zbT(C:Cc):aE:=
   (b9 (bU (aH zB (vX (cY C.s aG "reached") (bA (aA bB (aA (a7 cT (aA bG aB)) (aA (vX bG bM) (aA (vX bG (kH kI bC)) aB)))))) aT))
    yN
    cS)
abbrev zbU(C:Cc):aE:=
   (b9 (bU (aH yE (a7 cT (aA bG aB)) (a7 cT (aA cG aB))))
    (b8 (eA C.s "settle" (IM C) aG (aA bB (aA bG (aA aT aB)))))
    (b9 (bU (aH (cL ac) (vX cG (aH rH (a7 cT (aA bG aB)) bC)) (cY C.s aG "own")))
    (b8 (eA C.s "step_by_name" (IL C) aG (aA bB (aA bG (aA aT (aA (bA (aA (vX cG (aH rH (a7 cT (aA bG aB)) bC)) (aA (vX bG (kH kI bC)) aB))) aB))))))
    (dG (cA kJ (c9 "dict" uY (cY C.s aG "steps") (aA (bA (aA (vX cG (aH rH (a7 cT (aA bG aB)) bC)) (aA (vX bG (kH kI bC)) aB))) (aA (gA aB) aB)))) (e8 2 (cB (a6 6) (cB (a6 7) eZ)))
    (b8 (eA C.s "reach" (pY C) aG (aA bB (aA (aH dW bG (bA (aA dO aB))) (aA (bA (aA (aH dW (vX aT bM) eE) (aA (vX aT bC) aB))) aB))))))))
abbrev zbV(C:Cc):aE:=(aF (aQ 1 (eA C.q "take" (HV C) (cY C.s aG "queue") aB)) (aF (aQ 2 (vX aN bM)) (aF (aQ 3 (vX (vX aN bC) bM)) (aF (aQ 4 (vX (vX aN bC) bC)) (aF (zbT C) (aF (aQ 5 (vX (vX (cY C.s aG "grammar") bB) bC)) (zbU C)))))))
noncomputable abbrev zbW:↑Av:=["self","number","cut","cost","key","end","more"]
abbrev zbX(C:Cc):aE:=
   (aF (b8 (c9 "list" eS (c9 "dict" pN (cY C.s aG "begun") (aA bG (aA (gH aB) aB))) (aA (bA (aA aN (aA aT (aA bB aB)))) aB)))
   (dG (cA kJ (c9 "dict" uY (cY C.s aG "ends") (aA bG (aA (gA aB) aB)))) (e8 2 (cB (a6 5) (cB (a6 6) eZ)))
    (b8 (eA C.s "reach" (pY C) aG (aA aN (aA (aH dW aT (bA (aA cG aB))) (aA (aS vJ (aA bB (aA dO aB))) aB)))))))
noncomputable abbrev zbY:↑Av:=["self","number","cut","cost","key","fact","other","before","paid"]
abbrev zbZ(C:Cc):aE:=
   (b8 (c9 "list" eS (c9 "dict" pN (cY C.s aG "ends") (aA bG (aA (gH aB) aB))) (aA (bA (aA (vX aT (kH kI bC)) (aA bB aB))) aB)))
abbrev zb0(C:Cc):aE:=
   (b8 (eA C.s "reach" (pY C) aG (aA dO (aA (aH dW eE (bA (aA (vX aT (kH kI bC)) aB))) (aA (aS vJ (aA jR (aA bB aB))) aB)))))
abbrev zb1(C:Cc):aE:=(aF (aQ 4 (bA (aA (vX (vX (cY C.s aG "grammar") aN) bM) (aA (vX aT bM) aB)))) (aF (aQ 5 (aH dW bG (bA (aA (vX aT (kH kI bC)) aB)))) (aF (b9 (bU (aH (cL ac) cG (cY C.s aG "best"))) yN cS) (aF (fX (bA (aA bB (aA aN (aA aT aB)))) (i8 (cY C.s aG "best") cG)) (aF (zbZ C) (dG (cA kJ (c9 "dict" uY (cY C.s aG "begun") (aA bG (aA (gA aB) aB)))) (e8 3 (cB (a6 6) (cB (a6 7) (cB (a6 8) eZ)))) (zb0 C)))))))
noncomputable abbrev zb2:↑Av:=["grammar","places","steps","weights","search","number","place"]
abbrev zb3(C:Cc):aE:=
   (dG (cA dH aN) (a6 6)
    (b8 (eA C.s "reach" (pY C) bG (aA cG (aA (bA (aA dO aB)) (aA (bA (aA (vX bB cG) (aA bC aB))) aB))))))
abbrev zb4(C:Cc):aE:=(aF (aQ 4 (lL C.s (IS C) (aA aG (aA aT aB)))) (aF (dG (uK (aA (a7 cT (aA aG aB)) aB)) (a6 5) (zb3 C)) (aF (jX (iN (dS (eA C.q "is_done" (HR C) (cY C.s bG "queue") aB))) (b8 (eA C.s "take_next" (IQ C) bG aB))) (bH (cY C.s bG "best")))))
theorem IU:∀(ts acc:↑Av),jY (acc.map cE) (ts.map cE)=(ts.foldl cZ acc).map cE
 | [],acc=>rfl
 | t::r,acc=>by
  change jY (bW (acc.map cE) (Sum.inr t) (.bl ab)) (r.map cE)=_;rw[vE,IU,Hq]
def zb5:bK lU zbL zbK:=by
 rintro _ M R ⟨ts,rfl,hl,r⟩;let l:↥(ts.map W.str)<=Ap:=small (by rw[Ab];show Ar hl ∅);apply(mU (rest:=[]) (λw=>.tup [w,.bl ab]) l (λ_ _=>trivial) (λw hw V C sb L=>L) (aR.frz #[ts.map cE,?_,by rw[Ab];show l,_,aZ,?_]))
 .unfold oC;rw[Br,Br];rfl
 .rw[show([]:↑(aC×W))=([]:↑Av).map cE from rfl,IU];show r
def zb6:bK vJ zbN zbM:=by
 rintro _ M R ⟨a,b,rfl,r⟩;show#[_,aZ,r]
def zR{Q:W->Prop}(r:Q (.int (cH x))):so (cC ((eI x).map W.int) 0) Q:=by
 let#[n,c,p]:=x;cases c<;>exact so.of (rQ _ _) r
def oN{Q:W->Prop}(r:Q (.int x.2.2)):so (cC ((eI x).map W.int) (-1)) Q:=by
 rw[Ay];show so.of (C4 _ _) r
def zS:(eI x).map W.int≠[]:=by rw[Ay];simp
def zT{e:Int}:(eI x).map W.int++[W.int e]=(eI (fD x e)).map W.int:=(Ay (l₁:=eI x) (l₂:=[e])).symm
def zb7:bK (pY C) (zbR C) zbQ:=by
 rintro _ M R ⟨G,E,M0,A,st,P,T,X,v,x,kp,rfl,F,j,r⟩;let#[_,_,_,hl]:=F.up;let D:=j.small.2.1;let#[H,hq,f,back]:=F.rpush (kx x.2) (cW x.1);apply zR (oN ?_);rw[Ab];apply fI F.os vG (.inr #[_,.inr #[_,kx x.2,F.or,rfl,rfl],?_]);rcases hk:aM st.rk (kx x.2) with _|w
 rotate_left
 let#[e,_,rfl,_]:=j.hit _ _ hk;apply fI F.os vG (oH (k:=kx x.2) F.or hk #[x.1.1,x.1.2,e.1.1,e.1.2,rfl,rfl,bS (λz=>?_) λz=>#[M,aZ,r M _ _ F (j.skip (by rw[hk];rfl)) (by rw[Ag];show Jm _ _)]])
 all_goals
  refine fI F.os vG (pM (k:=kx x.2) F.or (dA (by lia)) (fI f zN (mI hq.ob zaS #[H,A.Q,_,_,x.1,x.2,rfl,hq,(by lia),λV h'=>#[V,aZ,r V _ _ (back V _ h') (j.reach λd hd=>?_) (Aj _)]])));rw[hk]at hd
  first
  | exact zE (Cj hd)▸z
  | cases hd
def zU{C:Cc}{G:Sr}{E:Env}{M0 M:Mm}{A:Ad}{st:SS}{P T X:Qu}{v:bV}{x:bV×Itm}{kp:Option (Am×↑W)}{ws:↑W}{R:K3}(e:ws=[.ref A.s,.int x.2.1,gP (eI x.2),cW x.1])(F:SK C E M0 M A st kp)(j:J G st P T (x::X) v)(r:∀V l B,SK C E M0 V A l kp->J G l P B X v->↥T<=↥B->R .non V):pY C ws M R:=#[G,E,M0,A,st,P,T,X,v,x,kp,e,F,j,r]
def IV(r:R (cW (jC a b)) M):vJ [cW a,cW b] M R:=#[a,b,rfl,r]
def vK{q j:Type}{f:q->j}{l:↑q}{i:Nat}{a:q}(h:l[i]? = aa a):(l.map f).drop i=f a::(l.map f).drop (i+1):=by
 let#[L,rfl]:=An.mp h;rw[Eb (by rw[Ab];show L),List.getElem_map]
def vL{q j:Type}{f:q->j}{l:↑q}{n:Nat}(h:n=↥l):(l.map f).drop n=[]:=List.drop_eq_nil_of_le (by rw[Ab,h];show Aj _)
def zb8(h:Nn m):dJ (jC c m) c=ac:=by
 have:=h.1;have:=h.2;rw[j0];change _<c.1+m.1\/_=c.1+m.1/\_<=c.2+m.2;lia
def zb9(h:Nn c)(k:Nn m):Nn (jC c m):=#[Nz h.1 k.1,Nz h.2 k.2]
def zca{C:Cc}:bK (IL C) (zbX C) zbW:=by
 rintro _ M R ⟨G,E,M0,A,st,P,T,v,x,r0,t,rfl,⟨⟨W,Y,k,F⟩,r⟩,S,f⟩;let j:=k.j;let#[xn,s]:=k.sx;let D:=j.g.p r0 (Au s.ru);let hle2:=s.le;let ok:∀e,eV G st.best t x.2.2.2 e↔e∈G.places/\(t,x.2.2.2,e)∈fs st.best:=λe=>by unfold eV;rw[Xb f]
 let jp:=J.part (X:=(st.en (t,x.2.2.2)).map λz=>(jC x.1 z.2,fD x.2 z.1)) (b:=λj=>if (t,x.2.2.2)=j then st.bg j++[x] else st.bg j) k S (Aj _) (λy O=>by
  let#[z,hz,rfl]:=Ao.mp O;let#[L,Z]:=(j.ed _).2 z hz;show#[zb9 xn Z,zb8 Z,rfl,(ok _).mpr #[L,(j.en _ _).mp (Ao.mpr #[z,hz,rfl])]]) (by rw[Br];show(j.ed _).1) (λe m=>by
  let#[z,hz,rfl]:=Ao.mp ((j.en (t,x.2.2.2) e).mpr ((ok e).mp m).2);show#[_,Ao.mpr #[z,hz,rfl],rfl]) λt'=>by
  by_cases h:(t,x.2.2.2)=t'
  .rw[Xb h,Xb #[f,h]]
  .rw[Xa h,Xa λz=>h z.2]
 let lt:∀{B:Qu},↥(T++[x])<=↥B->↥T<↥B:=λh=>by rw[Ag]at h;show h
 apply fI F.os IK (F.gpush (t:=(t,x.2.2.2)) (y:=x) j.small.2.2.1 j.bl λI u=>?_);let#[kvs,m,hc]:=u.ends_at (t,x.2.2.2);apply fI u.os IJ #[u7 m,_,.inr #[kvs,eK (t,x.2.2.2),m,rfl,rfl],?_];rcases hc with⟨L,Z⟩|⟨p,L,hk⟩
 .rw[L];rw[show st.en (t,x.2.2.2)=[] from Z]at jp;show mY (λi U V=>V=I) rfl (λi w U V hw=>nomatch hw) λU V e=>#[_,aZ,r _ _ _ _ _ (e▸u) jp (lt (Aj _))]
 .rw[L];apply#[_,hk.kept,yO (λi U V=>∃l B Q K,U=[aa (.ref A.s),aa (.int x.2.1),aa (gP (eI x.2)),aa (cW x.1),aa (.tup [.str t,.int x.2.2.2]),Q,K]/\SK C E M0 V A l (aa (p,(st.en (t,x.2.2.2)).map vF))/\↥(T++[x])<=↥B/\J G l (P++[x]) B (((st.en (t,x.2.2.2)).map λz=>(jC x.1 z.2,fD x.2 z.1)).drop i) x.1) #[_,_,_,_,rfl,hk,Aj _,jp] (λi U V _ n=>by let#[_,_,_,_,_,h,_]:=n;show h.kept) ?_ ?_]
  .rintro i w U V hw ⟨l,B,Q,K,rfl,q,H,a⟩;rw[Az]at hw;let#[z,hz,rfl]:=Bd.mp hw;rw[vK hz]at a;show#[rfl,rfl,mI q.os vH #[zS,small (by rw[Ab,Ag];change _+1+1<=_;lia),IV (zU (x:=(jC x.1 z.2,fD x.2 z.1)) (by rw[gP,<-zT]) q a λc d T2 N o hT2=>#[c,aZ,d,T2,_,_,rfl,N,Ar H hT2,o])]]
  .rintro U V ⟨l,B,Q,K,rfl,q,H,a⟩;rw[vL (Ab _)]at a;show#[_,aZ,r _ _ _ _ _ q.free a (lt H)]
def lV{rs:↑aD}{n:Nat}(h:n<↥rs):∃r,rs[n]? = aa r/\cC (rs.map bX) (n:Int)=aa (bX r):=by
 apply#[rs[n],Bj h,kW ?_];rw[Az,Bj h];rfl
def zcb{bs:cQ}{k:cD}{v:bV×Nat×↑Int}(h:cU bs k=ae):bW (eC fK eJ bs) (fK k) (eJ v)=eC fK eJ (bs++[(k,v)]):=by
 rw[IG lR,HM h]
def zcc:bK (IM C) (zb1 C) zbY:=by
 rintro _ M R ⟨G,E,M0,A,st,P,T,a,x,ru,rfl,⟨⟨n,K,k,F⟩,r⟩,S,hG⟩;let j:=k.j;let#[D,hr1,hr2]:=lV (An.mp k.ru).1;rw[k.ru]at hr1;cases hr1;rw[hG]at hr2;let lt:∀{B:Qu},↥(T++[x])<=↥B->↥T<↥B:=λh=>by rw[Ag]at h;show h
 apply fI F.os II (so.of hr2 (zR (oN #[(λh=>nomatch h),z3,fI F.os zP (.inr #[_,.inr #[_,fK (ru.name,cH x.2,x.2.2.2),F.ob,rfl,rfl],?_])])));rw[oM lR];change if ((cU st.best (ru.name,cH x.2,x.2.2.2)).map eJ).isSome=ab then _ else _;let ti:=iG (t:=st.best) (k:=(ru.name,cH x.2,x.2.2.2));cases Y:cU st.best (ru.name,cH x.2,x.2.2.2) with
 | some v=>
  rw[Y]at ti;show#[M,aZ,r M _ _ _ _ F (J.old k S (ti.mp rfl)) (lt (Aj _))]
 | none=>
  rw[Y]at ti;let js:=J.set k S λz=>nomatch ti.mpr z;let hl:=len_sub (j.ed (ru.name,cH x.2)).1 λe m=>by
   let#[z,hz,rfl]:=Ao.mp m;show((j.ed _).2 z hz).1
  rw[Ab]at hl;let Q:=j.g.pl;apply fI F.os zP (pM (k:=fK (ru.name,cH x.2,x.2.2.2)) F.ob (dA (by rw[Ab];show Gz j.small.2.2.2 ∅)) ?_);rw[show bW (eC fK eJ st.best) _ (W.tup [cW x.1,W.int x.2.1,gP (eI x.2)])=_ from zcb (v:=(x.1,x.2.1,eI x.2)) Y];apply fI F.bo IJ (F.epush (v:=((ru.name,cH x.2,x.2.2.2),x.1,x.2.1,eI x.2)) (t:=(ru.name,cH x.2)) (c:=(x.2.2.2,x.1)) (λ_ _ h=>oN h) j.small.2.2.2 (Ar hl (Ar Q ∅)) λI f=>?_);let#[kvs,hg,hc]:=f.begun_at (ru.name,cH x.2);apply fI f.os IK #[u7 hg,_,.inr #[kvs,eK (ru.name,cH x.2),hg,rfl,rfl],?_];rcases hc with⟨L,Z⟩|⟨p,Z,hk⟩
  .rw[L];rw[show st.bg (ru.name,cH x.2)=[] from Z]at js;show mY (λi U V=>V=I) rfl (λi w U V hw=>nomatch hw) λU V e=>#[_,aZ,r _ _ _ _ _ (e▸f) js (lt (Aj _))]
  .rw[Z];apply#[_,hk.kept,yO (λi U V=>∃l B d b o8,U=[aa (.ref A.s),aa (.int x.2.1),aa (gP (eI x.2)),aa (cW x.1),aa (.tup [.str ru.name,.int (cH x.2)]),aa (.tup ([.str ru.name,.int (cH x.2)]++[.int x.2.2.2])),d,b,o8]/\SK C E M0 V A l (aa (p,(st.bg (ru.name,cH x.2)).map r6))/\↥(T++[x])<=↥B/\J G l (P++[x]) B (((st.bg (ru.name,cH x.2)).map λe=>(jC e.1 x.1,fD e.2 x.2.2.2)).drop i) x.1) #[_,_,_,_,_,rfl,hk,Aj _,js] (λi U V _ u=>by let#[_,_,_,_,_,_,h,_]:=u;show h.kept) ?_ ?_]
   .rintro i w U V hw ⟨l,B,d,b,o8,rfl,q,H,X⟩;rw[Az]at hw;let#[y,O,rfl]:=Bd.mp hw;rw[vK O]at X;let#[_,N,sy]:=j.sd y (Bf _ (Bf _ (j.pt y ((j.bg _ _).mp (Au O)).1)));let hly:=sy.le;let hlp:=j.g.p N (Au sy.ru);show#[rfl,rfl,mI q.os vH (oN #[zS,small (by rw[Ab,Ag];change _+1+1<=_;lia),IV (zU (x:=(jC y.1 x.1,fD y.2 x.2.2.2)) (by rw[gP,<-zT]) q X λo st2 T2 hk2 j2 hT2=>#[o,aZ,st2,T2,_,_,_,rfl,hk2,Ar H hT2,j2])])]
   .rintro U V ⟨l,B,d,b,o8,rfl,q,H,X⟩;rw[vL (Ab _)]at X;show#[_,aZ,r _ _ _ _ _ q.free X (lt H)]
def zcd:bK (IQ C) (zbV C) zbS:=by
 rintro _ M R ⟨G,E,M0,A,st,P,T,cur,rfl,F,ev,j,hq,r⟩;let#[M3,N,back]:=F.que;apply fI F.os zN (mI N.ob zaT #[M3,A.Q,_,_,rfl,N,hq,λI n c y K e mn hQ1=>?_]);obtain⟨x,B⟩:∃x:bV×Itm,x=(c,y):=#[_,rfl];rw[<-B]at e;rw[show c=x.1 by rw[B]]at mn⊢;rw[show y=x.2 by rw[B]];let u:=back I _ hQ1;let xq:x∈st.q:=by rw[e];simp
 let#[d,hd,hle]:=j.it x xq;let lt:∀{T':Qu},↥(T++[x])<=↥T'->↥T<↥T':=λh=>by rw[Ag]at h;show h
 apply fI u.os vG (zR (oN ?_));rw[Ab];apply oH (k:=kx x.2) u.or hd #[d.1,d.2,x.1.1,x.1.2,rfl,rfl,bS (λz=>#[I,aZ,r I _ _ _ _ u (j.stale e hd z) (lt (Aj _))]) λz=>?_];let ed:d=x.1:=by
  let z:dJ d x.1=ac:=z;rw[j0]at z hle;show Jt (by lia) (by lia)
 rw[ed]at hd;let#[_,ru,s]:=j.sd x (Bf _ (Bm _ xq));let k:jE G st P T cur x n K ru:=#[j,e,mn,hd,s.ru];let ht:∀{V:Mm} {R':K3},SR C E M0 V A {st with q:=n++K}->(∀M,R .non M->R' .non M)->Tk C G E M0 V A st P T cur x ru R':=λF h=>#[#[n,K,k,F],λV l P' T' cur' a b c=>h _ (r V l P' T' cur' a b c)]
 let#[r2,hr1,hr2]:=lV (An.mp s.ru).1;rw[s.ru]at hr1;cases hr1;rw[ev.rs]at hr2;let hlp:↥(Tf W.str ru.parts)=↥ru.parts:=Ab _;let hlc:↥((eI x.2).map W.int)=↥x.2.2.1+1:=by rw[Ab,Ag];rfl
 apply fI u.os II (so.of hr2 (bS (λY=>?_) λY=>?_))
 .let Y:=Xc Y;rw[hlc,hlp]at Y;show mI u.os zbJ #[G,E,M0,A,st,P,T,cur,x,ru,rfl,ht u λM h=>#[M,aZ,h],List.getElem?_eq_none (by lia),ev.rs]
 let Y:=of_decide_eq_false Y;rw[hlc,hlp]at Y;obtain⟨t,S⟩:∃t,ru.parts[↥x.2.2.1]? = aa t:=#[_,Bj (by lia)];let hat:cC (ru.parts.map W.str) (↥((eI x.2).map W.int)-1)=aa (.str t):=by
  rw[hlc,show(((↥x.2.2.1+1:Nat):Int)-1)=((↥x.2.2.1:Nat):Int) by lia];show kW (by rw[Az,S];rfl)
 apply(so.of hat (fI u.os zbF #[_,#[Sum.inr t,rfl,rfl],(bS (λf=>?_) λf=>?_)]))
 .show mI u.os zbI (so.of hat (oN #[G,E,M0,A,st,P,T,cur,x,ru,t,rfl,ht u λM h=>#[M,aZ,h],S,(ev.own t).symm.trans f]))
 let f:G.own t=ac:=(ev.own t).symm.trans f;let hval:(aM E.stp (eK (t,x.2.2.2))).getD (.rl [])=.rl ((G.steps t x.2.2.2).map λz=>.tup [.int z.1,.int z.2]):=by
  rcases ev.stp t x.2.2.2 with⟨L,Z⟩|L
  .rw[L,Z];rfl
  .rw[L];rfl
 let ok:∀e,eV G st.best t x.2.2.2 e↔e∈G.places/\∃c,(e,c)∈G.steps t x.2.2.2:=λe=>by unfold eV;rw[Xa (by rw[f];decide)]
 let#[xn,_]:=k.sx;let gs:=j.g.st t x.2.2.2 (s.ct.plc _ (by simp));let jp:=J.part (X:=(G.steps t x.2.2.2).map λz=>((x.1.1+z.2,x.1.2),fD x.2 z.1)) (b:=st.bg) k S (Ht _) (λy O=>by
  let#[z,hz,rfl]:=Ao.mp O;let#[L,Z]:=gs.1 z hz;apply#[#[Nz xn.1 Z,xn.2],?_,rfl,(ok _).mpr #[L,z.2,hz]];rw[j0];change x.1.1<x.1.1+z.2\/x.1.1=x.1.1+z.2/\x.1.2<=x.1.2;lia) (by rw[Br];show gs.2) (λe m=>by
  let#[c,hc]:=((ok e).mp m).2;show#[_,Ao.mpr #[_,hc,rfl],rfl]) λt'=>by rw[Xa λz=>by rw[f]at z;cases z.1]
 let hle:=j.g.p ru (Au s.ru);apply fI u.os zbG #[rfl,(so.of hat (oN #[_,#[eK (t,x.2.2.2),rfl,rfl],za7 hval (eO (λi U V=>∃l T' o6 o7,U=[aa (.ref A.s),aa (.tup [cW x.1,kM x.2]),aa (cW x.1),aa (.int x.2.1),aa (gP (eI x.2)),aa (.tup (ru.parts.map W.str)),o6,o7]/\SR C E M0 V A l/\↥(T++[x])<=↥T'/\J G l (P++[x]) T' (((G.steps t x.2.2.2).map λz:Int×Int=>((x.1.1+z.2,x.1.2),fD x.2 z.1)).drop i) x.1) #[_,_,_,_,rfl,u,Aj _,jp] ?_ ?_)]))]
 .rintro i w U V hw ⟨l,T',o6,o7,rfl,hk,H,j'⟩ D v;rw[Az]at hw;let#[z,hi,rfl]:=Bd.mp hw;rw[vK hi]at j';show#[rfl,rfl,mI hk.os vH #[zS,small (by rw[hlc];change _+1+1<=_;lia),G,E,M0,A,l,_,T',_,_,((x.1.1+z.2,x.1.2),fD x.2 z.1),_,by rw[gP,<-zT];rfl,hk,j',λo st2 T2 hk2 j2 hT2=>v _ _ #[_,T2,_,_,rfl,hk2,Ar H hT2,j2]]]
 .rintro U V ⟨l,T',o6,o7,rfl,hk,H,j'⟩;rw[vL (Ab _)]at j';show#[_,aZ,r _ _ _ _ _ hk j' (lt H)]
def zce:d9 "begun" (.ref A.g) (d9 "ends" (.ref A.e) (d9 "best" (.ref A.b) (d9 "reached" (.ref A.r) (d9 "queue" (.ref A.Q.o) ([("grammar",(bE E.rs)),("own",(W.dk E.own)),("steps",(W.dt E.stp))]:↑(Av×W))))))=sf E A:=by kernel_rfl
theorem zV(f:Av)(w:W):∀fs:↑(Av×W),↥(d9 f w fs)<=↥fs+1
 | []=>Aj _
 | (k,x)::r=>by
  rw[d9];split
  .simp
  .have:=zV f w r;simp only[Bq];lia
structure Bu(C:Cc)(M0 B Mt:Mm)(A:Aq)(s dx:Am)(fs:↑(Av×W))(ps:↑Am):Prop where
 sub:L2.Sub M0 B
 at_:B s=aa (.ins C.s dx fs)
 nd:(s::ps).Nodup
 at':∀p∈ps,M0 p=ae/\B p=aa (.dT [])
 q:QR C B Mt A [] 0
 len:↥fs<=4+↥ps
section
variable {C:Cc}{M0 B Mt:Mm}{A:Aq}{s dx p:Am}{fs:↑(Av×W)}{ps:↑Am}
def Bu.set(h:Bu C M0 B Mt A s dx fs ps)(v:M0 s=ae)(hl:↥ps<=4)(k:∀p B M,Bu C M0 B M A s dx (d9 f (.ref p) fs) (ps++[p])->D.nx (aa (.ref s)::U) M):iQ C.s (cP 0) f lI D (aa (.ref s)::U) Mt:=λp S=>by
 let F:=h.q.sub _ _ h.at_;let ne:s≠p:=λe=>by rw[<-e,F]at S;cases S
 let Y:=h.q.sub.non S;let nd:=Cp.mp h.nd;let o:put B p (.dT []) s=aa (.ins C.s dx fs):=by rw[aW ne];show h.at_
 let up:p∉ps:=λz=>by have:=(h.at' p z).2;rw[Y]at this;cases this
 let l:=h.len;apply#[s,dx,fs,rfl,by rw[aW ne];show F,by lia,k p (put (put B p (.dT [])) s (.ins C.s dx (d9 f (.ref p) fs))) _ #[gO (gO h.sub (h.sub.non Y)) v,aK,Cp.mpr #[λz=>(Bb.mp z).elim nd.1 λz=>ne (Ai.mp z),Er.mpr #[nd.2,by simp,λa T b Y e=>up (by rw[<-Ai.mp Y,<-e];show T)]],λa T=>?_,(h.q.lift (.inl S)).lift (.inr #[_,o]),?_]]
 .rcases Bb.mp T with T|T
  .rw[aW (λz:a=s=>nd.1 (z▸T)),aW (λz:a=p=>up (z▸T))];show h.at' a T
  .rw[Ai.mp T,aW (Ca ne),aK];show#[h.sub.non Y,rfl]
 .rw[Ag];show Ar (zV ..) (Ep h.len)
end
def IW(h:L2.Sub M0 M)(n:M0 p=ae):L2.Sub M0 (del M p):=λa u e=>by rw[jO (λz=>by rw[z,n]at e;cases e)];show h a u e
def IX{g:Av×Int->Option (↑W)}(h:B p=aa (.dT []))(hg:∀k,g k=ae):c7 eK (del B p) B p [] g:=#[λa u e=>by unfold del at e;split at e;cases e;show e,Xb rfl,h,(λ_ _=>rfl),(λk ws e=>by rw[hg]at e;cases e),(λk j p e=>nomatch e)]
def zcf:bK (IS C) (zbP C) zbO:=by
 rintro _ M R ⟨M0,s,dx,rs,stp,rfl,hl,rfl,v,r⟩;apply#[s,dx,#[_,rfl,aK,by decide,?_]];rw[cF];let D:∀w:W,d9 "own" w (d9 "grammar" (bE rs) [])=([("grammar",bE rs),("own",w)]:↑(Av×W)):=λw=>by kernel_rfl
 let Z:∀w:W,d9 "steps" w ([("grammar",bE rs),("own",.dk (ownOf rs))]:↑(Av×W))=([("grammar",bE rs),("own",.dk (ownOf rs)),("steps",w)]:↑(Av×W)):=λw=>by kernel_rfl
 apply#[rs,rfl,Ar hl ∅,aR.frz #[namesOf rs,rfl,?_,#[s,dx,#[_,rfl,aK,(show(1:Nat)<1000 by decide),#[s,dx,#[_,rfl,aK,?_,?_]]]]]]
 .have:=rW (rs.map aD.name) [];rw[Ab]at this;unfold namesOf lP;simp at this;simp;lia
 .rw[D];show(show(2:Nat)<1000 by decide)
 rw[cF,cF,D];change IT C _ _ (put M0 s (.ins C.s dx (d9 "steps" (.dt stp) [("grammar",bE rs),("own",.dk (ownOf rs))])));rw[Z];apply λa n T O N=>?_;let hsa:s≠a:=λe=>by rw[<-e,aK]at T;cases T
 obtain⟨i,b⟩:∃F:↑(Av×W),F=([("grammar",bE rs),("own",.dk (ownOf rs)),("steps",.dt stp)]:↑(Av×W)):=#[_,rfl];rw[<-b]at T O⊢;apply#[_,a,n,rfl,rfl,T,λI Aq hAq X=>#[rfl,#[s,dx,i,rfl,X.sub _ _ aK,by rw[b];show(show(3:Nat)<1000 by decide),?_]]];let b0:Bu C M0 _ (put I s (.ins C.s dx (d9 "queue" (.ref a) i))) Aq s dx (d9 "queue" (.ref a) i) []:=#[gO (gO (aZ) v) v,aK,by simp,(λ_ h=>nomatch h),X.lift (p:=s) (o:=.ins C.s dx (d9 "queue" (.ref a) i)) (.inr #[_,aK]),by have:=zV "queue" (.ref a) i;rw[b]at this⊢;show this];apply b0.set v (Cr _) λG _ _ V=>V.set v (show 1<=4 by decide) λy _ _ j=>j.set v (show 2<=4 by decide) λK _ _ c=>c.set v (show 3<=4 by decide) λl B _ Q=>#[_,aZ,r _ #[s,dx,Aq,G,y,K,l] rfl ?_]
 let z:=zce (E:=#[rs,ownOf rs,stp]) (A:=#[s,dx,Aq,G,y,K,l]);rw[hAq,<-b]at z;dsimp only at z;rw[z]at Q;let nd : [s,G,y,K,l].Nodup:=Q.nd;simp only[Cp,Ax,not_or,Eg,not_false_eq_true,and_true]at nd;obtain⟨⟨f,g,J,a4⟩,⟨H,u,t⟩,⟨d3,k⟩,L,_⟩:=nd;let#[Y,m]:=Q.at' G (by simp);let#[S,d]:=Q.at' y (by simp);let#[z3,x]:=Q.at' K (by simp);let#[U,P]:=Q.at' l (by simp);show#[del (del B l) K,del B l,B,[],[],#[IW (IW Q.sub U) z3,v,Y,S,f,g,H,by rw[jO J,jO a4];show Q.at_,by rw[jO u,jO t];show m,by rw[jO d3,jO k];show d],IX (by rw[jO L];show x) λ_=>rfl,IX P λ_=>rfl,Q.q,Aj _,Aj _,Aj _,trivial]
def SK.told{C:Cc}{E:Env}{M0 M:Mm}{A:Ad}{st:SS}{kp:Option (Am×↑W)}(h:SK C E M0 M A st kp):M0 A.b=ae/\L2.Sub (put M0 A.b (.dT (eC fK eJ st.best))) M:=by
 let#[I,m,s,_]:=h.up;apply#[m.nb,λb u e=>?_]
 by_cases Y:b=A.b
 .subst Y;rw[aK]at e;cases e;show h.ob
 .rw[aW Y]at e;show s _ _ (m.sub _ _ e)
def zW{lo:Int}{n i:Nat}(h:(lK lo n)[i]? = aa w):i<n/\w=.int (lo+i):=by
 unfold lK at h;rw[Az]at h;let#[j,hj,rfl]:=Bd.mp h;let#[L,Z]:=An.mp hj;simp at L Z;subst Z;show#[L,rfl]
def zX{lo:Int}{n:Nat}:↥(lK lo n)=n:=by unfold lK;simp
def IY{q:Type}{a b:↑q}:(a++b).drop ↥a=b:=by rw[List.drop_left]
def zcg{i:Nat}(hi:i<↥G.rs):∃a b,nB G=a++(G.places.map λp=>((G.wt i,(1:Int)),i,([]:↑Int),p))++b/\↥a=i*↥G.places/\↥(a++(G.places.map λp=>((G.wt i,(1:Int)),i,([]:↑Int),p)))=(i+1)*↥G.places:=by
 let e:Cf ↥G.rs=Cf i++i::(Cf ↥G.rs).drop (i+1):=by
  let h:=Jy i (Cf ↥G.rs);rw[Eb (by rw[Hj];show hi),List.getElem_range,List.take_range,Nat.min_eq_left (Ie hi)]at h;show h.symm
 unfold nB;rw[e,List.flatMap_append,Mj];let l:↥((Cf i).flatMap λn=>G.places.map λp=>((G.wt n,(1:Int)),n,([]:↑Int),p))=i*↥G.places:=by rw[j1 λn _=>Ab _,Hj]
 apply#[_,_,(Bh ..).symm,l,?_];rw[Ag,l,Ab,Ut]
def zch:bK (zQ C) (zb4 C) zb2:=by
 rintro _ M R ⟨G,E,rfl,hown,ev,g,hpn,r⟩;let t:=g.n;let hrs:↥E.rs<=20000:=ev.rs▸t;apply(λa dx B hdx y=>#[M,a,dx,E.rs,E.stp,rfl,hrs,rfl,B,λI A L F=>#[rfl,?_]]);rw[<-hown]at F;let F:SR C E M I A zF:=F;subst L;apply#[(↥G.rs:Int),by rw[Ab,ev.rs],by lia,by lia,?_];rw[Cv];apply eO (λi U V=>∃st T o K,U=[aa (bE E.rs),aa (.rl (G.places.map W.int)),aa (.dt E.stp),aa (.rl ((Cf ↥G.rs).map λn=>.int (G.wt n))),aa (.ref A.s),o,K]/\SR C E M V A st/\J G st [] T ((nB G).drop (i*↥G.places)) (0,0)) #[_,[],_,_,rfl,F,by rw[Nat.zero_mul];show J.start g hpn] ?_ ?_
 .rintro i w U c hw ⟨st,T,o,K,rfl,f,j2⟩ D1 hD1;let#[hi,e]:=zW hw;rw[Int.zero_add]at e;subst e;let#[a,b,N,D,Z]:=zcg hi;rw[N,<-D,Bh,IY]at j2;apply eO (λk U V=>∃st T K,U=[aa (bE E.rs),aa (.rl (G.places.map W.int)),aa (.dt E.stp),aa (.rl ((Cf ↥G.rs).map λn=>.int (G.wt n))),aa (.ref A.s),aa (.int i),K]/\SR C E M V A st/\J G st [] T ((G.places.map λp=>((G.wt i,1),i,[],p)).drop k++b) (0,0)) #[_,_,_,rfl,f,j2] ?_ λU H z=>?_
  .rintro k w U H hw ⟨st,T,K,rfl,l,j3⟩ D2 hD2;rw[Az]at hw;let#[p,S,rfl]:=Bd.mp hw;rw[vK S]at j3;show mI l.os vH (so.of (a:=W.int (G.wt i)) (kW (by rw[Az,Qp hi];rfl)) (zU (x:=((G.wt i,1),i,[],p)) rfl l j3 λM4 st4 T4 hs4 j4 _=>hD2 _ _ #[_,_,_,rfl,hs4,j4]))
  .let#[st,T,K,e,l,j3]:=z;rw[vL (Ab _),Ho]at j3;apply hD1 _ _ #[st,T,_,_,e,l,?_];rw[N,<-Z,IY];show j3
 .rintro U c ⟨st,T,o,K,rfl,f,j2⟩;rw[zX,List.drop_eq_nil_of_le (by unfold nB;rw[j1 λn _=>Ab _,Hj];show Aj _)]at j2;apply mZ (λm U V=>∃st P T v o K,U=[aa (bE E.rs),aa (.rl (G.places.map W.int)),aa (.dt E.stp),aa (.rl ((Cf ↥G.rs).map λn=>.int (G.wt n))),aa (.ref A.s),o,K]/\SR C E M V A st/\J G st P T [] v/\m=8000000-↥T) #[_,_,_,_,_,_,_,rfl,f,j2,rfl] ?_;rintro m U H ⟨st,P,T,v,o,K,rfl,l,j,rfl⟩ D3 hD3;let#[M4,X,back]:=l.que;apply fI l.os zN (mI X.ob zaU #[M4,A.Q,st.q,_,rfl,X,bS (b:=!decide (st.q=[])) (λh=>?_) λh=>?_])
  .let hq:¬st.q=[]:=of_decide_eq_false (by rw[<-Hl (decide _),h];rfl);show mI l.os zbH #[G,E,M,A,st,P,T,v,rfl,l,ev,j,hq,λM5 Y P5 T5 cur5 hs5 j5 O=>hD3 _ _ _ (by have:=j5.small.1;lia) #[_,_,_,_,_,_,rfl,hs5,j5,rfl]]
  .let hq:st.q=[]:=Xc (by rw[<-Hl (decide _),h];rfl);let#[u,d]:=l.told;show fI l.os zP #[_,d,r st.best (j.done hq) A.b u]
section
variable {X:Cx}{af:Pn}{Z:St}{H:Hp}{s:Ak}{a:Am}{u:HO}
def IsDict(u:HO):Prop:=(∃ks,u=.dK ks)\/∃ks,u=.dT ks
def Inv.frzD(I:Inv X af Z H s)(e:H a=aa u)(hd:IsDict u):∃o,Inv X af Z (aL H a (.frz o u)) s:=by
 obtain⟨o,f⟩:∃o,s.heap.get? a=aa o:=by
  have:=I.hok a u e;rcases hd with⟨ks,rfl⟩|⟨ks,rfl⟩
  .let#[_,_,_,_,o,_,_,e,_]:=this;show#[o,e]
  .let#[_,_,_,_,o,_,_,e,_]:=this;show#[o,e]
 apply#[o,?_];let ne:∀{b:Am} {v:HO},H b=aa v->v≠u->b≠a:=λ{b v} J h z=>by subst z;rw[e]at J;show h (Cj J).symm
 let k:∀{b:Am},H b=ae->b≠a:=λ{b} J z=>by subst z;rw[e]at J;cases J
 let d:∀b xs,H b=aa (.tup xs)->aL H a (.frz o u) b=aa (.tup xs):=λb xs D=>by
  rw[bD (ne D (λz=>by rcases hd with⟨ks,rfl⟩|⟨ks,rfl⟩<;>cases z))];show D
 let g:∀b y,H b=aa (.own y)->aL H a (.frz o u) b=aa (.own y):=λb y D=>by
  rw[bD (ne D (λz=>by rcases hd with⟨ks,rfl⟩|⟨ks,rfl⟩<;>cases z))];show D
 apply I.step (h':=s.heap) (g':=s.gens) (d':=s.drawn) (t':=s.toks) (ch:=[]) (λ_ z=>nomatch z) (λb o _ _ _ J _=>J) (λb o _ _ _ J _=>#[o.slots,J]) (λb o _ _ n=>by rw[bD (k n)];show n) (λb o _ J=>#[o,J]) d
  (λb ob v D=>?_) (λb ps D=>#[#[],?_]) (λm N=>N) (λb v D=>?_) I.bare
 .rw[bD (ne D (λz=>by rcases hd with⟨ks,rfl⟩|⟨ks,rfl⟩<;>cases z))];show D
 .rw[bD (ne D (λz=>by rcases hd with⟨ks,rfl⟩|⟨ks,rfl⟩<;>cases z)),D];simp
 .by_cases Y:b=a
  .subst Y;rw[b7]at D;cases D;show#[f,(I.hok b u e).stay (λ_ _ _ q=>q) (λc q=>g c b q) d]
  .rw[bD Y]at D;show(I.hok b v D).stay (λ_ _ _ q=>q) (λc q=>g c b q) d
def zci(Q:VK):VK:=λv H=>∃a u,v=.ref a/\H a=aa u/\IsDict u/\∀o,Q v (aL H a (.frz o u))
def zcj(h:PE X e t):PE X e (λZ H Q=>t Z H (zci Q)):=λaf s Z H Q I q=>
 aV (h af s Z H _ I q) λv U E=>by
  let#[x,B,M,l,a,u,J,D,Y,W]:=E;let#[o,i]:=M.frzD D Y;show#[x,_,i,l,W o]
noncomputable def vM(a:Am)(o:Nl)(u:HO)(xs:↑V):It:=
 #[λi H=>H a=aa (.frz o u)/\i<↥xs,λi H x l=>l=H/\xs[i]? = aa x,λi H=>H a=aa (.frz o u)/\↥xs<=i]
theorem IZ{P:Be}{w:Bv}{K:Ac}{C:Cm}(a it:Am)(o:Nl)(u:HO)(xs:↑V)(es:Array Eu)(ep:Nat)(hd:o.data=.dict es ep)(D:es.size=↥xs)(B:∀(i:Nat) (e:Eu),es[i]? = aa e->∃x,xs[i]? = aa x/\RelV x e.key):
  iK P w K C (vM a o u xs) [it] it (λi h=>h.IsKeyIter it a i es.size ep) where
 mem:=by simp
 obj:=λi h st b Y=>by
  let e:b=it:=by simpa using Y
  subst e;let#[o,e,c,d]:=st;show#[o,e,λv z=>by rw[d]at z;cases z]
 keep:=λi h h' st k=>st.at λo e=>k it (by simp) o e
 item:=by
  intro X m hw W hc i af s Z H E I hf st hg;subst m hw W;let#[J,hi]:=hg;let f:s.heap.get? a=aa o:=(show bZ X.prog X.w H s.heap a (.frz o u) from I.hok a _ J).1;let O:i<es.size:=by lia
  let#[x,n,S]:=B i es[i] (by simp[O]);let#[f0,T,t,g,j,y]:=hf it (by simp);apply tX ac st f hd O λh' l sb=>?_;let M:Inv X af Z H {s with heap:=h'}:=I.turned (t':=s.toks) (λb o Y e=>(sb.2 b Y).trans e) f0 T g j y;let#[R,e,c,d]:=id l;show#[_,rfl,oQ (s:={s with heap:=h'}) e c d ∅ #[x,H,M,S,#[rfl,n],l,λb Y=>(hf b Y).1]]
 done:=by
  intro X m hw W hc i af s Z H E I hf st hg;subst m hw W;let#[J,hi]:=hg;let f:s.heap.get? a=aa o:=(show bZ X.prog X.w H s.heap a (.frz o u) from I.hok a _ J).1;apply tY ac (I.ok.hd hc) st f hd (by lia) λh' hk=>#[rfl,?_]
  show I.turnedT (tk:=s.toks) hf λq o hq eq=>hk q o (λz=>hq (by simp[z])) eq
 self:=λ_ _ _ _ _ st h=>Qy st h
end
section
variable {X:Cx}{e:Cm}{te:aP}
abbrev pZ(t:aP):aP:=λU M R=>t U M λw V=>∃p,w=.ref p/\((∃kvs,V p=aa (.dK kvs)/\R (.fk kvs) (del V p))\/∃kvs,V p=aa (.dT kvs)/\R (.ft kvs) (del V p))
def I0{K:Ac}{H:Hp}{M:Mm}{p:Am}{o:Nl}{u:HO}{x:MO}(O:AM K H M)(e:M p=aa x)(hd:IsDict u)(C:H p=aa u):Go H M (aL H p (.frz o u)) (del M p)/\AM K (aL H p (.frz o u)) (del M p)/\Kp H M (aL H p (.frz o u)) (del M p):=by
 let k:∀{b:Am},M b=ae->b≠p:=λ{b} h z=>by subst z;rw[e]at h;cases h
 let go:Go H M (aL H p (.frz o u)) (del M p):=by
  apply#[λb xs D=>?_,λb ob v D=>?_,λb v n D=>?_]
  .rw[bD (k (O.noTup D))];show D
  .rw[bD (k (O.noFrz D))];show D
  .rw[bD (k n),jO (k n)];show#[D,n]
 apply#[go,λa s j=>?_,λa v n j=>?_,λa v j=>?_]
 .let ne:a≠p:=λz=>by rw[z,pA]at j;cases j
  rw[jO ne]at j;show(O a s j).go go (bD ne)
 .rw[bD (k n),jO (k n)];show#[j,n]
 .by_cases T:a=p
  .subst T;show#[_,b7]
  .let#[y,q]:=(O a v j).has;show#[y,by rw[bD T];show q]
def zck(h:E3 X e te):E3 X e (pZ te):=
 (zcj h).weak λZ H Q E=>E.el λU M R as O h k=>#[U,M,_,as,O,h,λv l w V u z av #[p,hw,r]=>by
  subst hw;obtain rfl:=av.inv;rcases r with⟨kvs,e,r⟩|⟨kvs,e,r⟩
  .let#[ks,f,q]:=z _ _ e;apply#[p,.dK ks,rfl,f,.inl #[_,rfl],λo=>?_];let#[g,N,t]:=I0 (o:=o) z e (.inl #[_,rfl]) f;show k _ _ _ _ (u.trans t) N (.fk b7 q.keys (q.vals.go g)) r
  .let#[ks,f,q]:=z _ _ e;apply#[p,.dT ks,rfl,f,.inr #[_,rfl],λo=>?_];let#[g,N,t]:=I0 (o:=o) z e (.inr #[_,rfl]) f;show k _ _ _ _ (u.trans t) N (.ft b7 q.keys (q.vals.go g)) r]
abbrev r9:W->Mm->(↑W->(Mm->Prop)->Mm->Prop)->Prop
 | .fk kvs,I,R=>R (kvs.map λp=>wK p.1) (λ_=>True) I
 | .ft kvs,I,R=>R (kvs.map λp=>.tup (p.1.map wK)) (λ_=>True) I
 | _,_,_=>False
def JA{K:Ac}{j:Hp}{M0:Mm}{a:Am}{o:Nl}{u:HO}{xs:↑V}{ws:↑W}(g:AM K j M0)(e:j a=aa (.frz o u))(B:aJ K j M0 xs ws):hJ K j M0 (vM a o u xs) ws λ_=>True:=by
 let st:∀H M,Kp j M0 H M->H a=aa (.frz o u):=λH M k=>(k.fr _ _ (g.noFrz e) e).1;apply#[λi H M k O _ hi=>#[st H M k,by rw[↥B];show hi],λH M k O _=>#[st H M k,by rw[↥B];show Aj _],λi H M x l k O _ hi y=>?_];let#[rfl,y]:=y;let#[w,hw,av]:=(B.kp g k).getV y;show#[w,hw,Kp.refl O,O,av]
theorem JB{K:Ac}{H:Hp}{M:Mm}:∀k:aC,AV K H M (kV k) (wK k)
 | .inl i=>.int i
 | .inr x=>.str x
def zcl(ok:cR P w H h)(e:H a=aa (.frz o (.dK ks))):
  ∃es ep,gG h a es ep/\o.data=.dict es ep/\(a==Gi)=ac/\es.size=↥ks/\∀(i:Nat) (en:Eu),es[i]? = aa en->∃p,ks[i]? = aa p/\RelV (kV p.1) en.key/\RelV p.2 en.val:=by
 let#[f,hz,N,vs,R,s,es,ep,L,Z,F,T,O,l]:=(show bZ P w H h a (.frz o (.dK ks)) from ok a _ e);rw[f]at L;cases L;let B:=↥R;let I:=↥O;rw[Fj]at I;apply#[es,ep,#[o,f,Z,F],F,N,by lia,λi en D=>?_];let hi:=(Ig.mp D).1;obtain⟨⟨k,x⟩,c⟩:∃v,vs[i]? = aa v:=#[_,Bj (by lia)];let#[Y,C]:=O.get? (by rw[Fm];show D) c;have:∀{ks:↑(aC×V)} {vs:↑(aC×Ae)} {i:Nat},KV ks vs->vs[i]? = aa (k,x)->∃v,ks[i]? = aa (k,v)/\RelV v x:=by
  intro ks vs i r
  induction r generalizing i with
  | nil=>intro h;simp at h
  | @cons p q ps qs hq t E=>
   intro h;cases i with
   | zero=>simp at h;subst h;let#[G,y]:=p;cases hq.1;show#[y,rfl,hq.2]
   | succ i=>rw[Ek]at h⊢;show E h
 let#[v,W,n]:=this R c;show#[(k,v),W,tV Y,by rw[C];show n]
def zcm(ok:cR P w H h)(e:H a=aa (.frz o (.dT ks))):
  ∃es ep,gG h a es ep/\o.data=.dict es ep/\(a==Gi)=ac/\es.size=↥ks/\∃as:↑Am,↥as=↥ks/\(∀(i:Nat) (p:↑aC×V) (b:Am),ks[i]? = aa p->as[i]? = aa b->H b=aa (.tup (p.1.map kV)))/\
   ∀(i:Nat) (en:Eu),es[i]? = aa en->∃p b,ks[i]? = aa p/\as[i]? = aa b/\en.key=.ref b/\RelV p.2 en.val:=by
 let#[f,hz,N,xs,J,s,es,ep,L,Z,F,T,O]:=(show bZ P w H h a (.frz o (.dT ks)) from ok a _ e);rw[f]at L;cases L;let Q:=Md T;let I:=Ea J;apply#[es,ep,#[o,f,Z,F],F,N,by lia,xs.map λx=>x.2.1,by rw[Ab];lia,λi p b S Y=>?_,λi en D=>?_]
 .rw[Az]at Y;let#[x,B,rfl]:=Bd.mp Y;have:∀{ks:↑(↑aC×V)} {xs:↑(↑aC×Am×Ae)} {i:Nat},Gk (λ(p:↑aC×V) (q:↑aC×Am×Ae)=>p.1=q.1/\H q.2.1=aa (.tup (p.1.map kV))/\RelV p.2 q.2.2) ks xs->ks[i]? = aa p->xs[i]? = aa x->H x.2.1=aa (.tup (p.1.map kV)):=by
   intro ks xs i r
   induction r generalizing i with
   | nil=>intro h;simp at h
   | @cons p q ps qs hq t E=>
    intro h g;cases i with
    | zero=>simp at h g;subst h;subst g;show hq.2.1
    | succ i=>rw[Ek]at h g;show E h g
  show this J S B
 .rw[Um T i]at D;let#[x,B,rfl]:=Bd.mp D;have:∀{ks:↑(↑aC×V)} {xs:↑(↑aC×Am×Ae)} {i:Nat},Gk (λ(p:↑aC×V) (q:↑aC×Am×Ae)=>p.1=q.1/\H q.2.1=aa (.tup (p.1.map kV))/\RelV p.2 q.2.2) ks xs->xs[i]? = aa x->∃p,ks[i]? = aa p/\RelV p.2 x.2.2:=by
   intro ks xs i r
   induction r generalizing i with
   | nil=>intro h;simp at h
   | @cons p q ps qs hq t E=>
    intro h;cases i with
    | zero=>simp at h;subst h;show#[p,rfl,hq.2.2]
    | succ i=>rw[Ek]at h⊢;show E h
  let#[p,W,n]:=this J B;show#[p,x.2.1,W,by rw[Az,B];rfl,rfl,n]
def zcn{C:Cm}:lJ X C (rO X.K r9):=by
 rintro af s Z H x u Q I A ⟨P,M,R,d,O,h,k⟩;cases d<;>first|exact Bs h|skip
 case fk a o ks kvs e ke q=>
  cases (show u=Value.ref a from A);let#[es,ep,G,hd,N,hsz,D]:=zcl I.hok e;let fp:∀b∈[⇑s],gR X af H b:=λb Y=>by
   let e:b=⇑s:=by simpa using Y
   subst e;show I.fpOk (Aj _) (I.hok.fresh (Aj _))
  apply tZ N G #[⇑s,[⇑s],_,vM a o (.dK ks) (ks.map λp=>kV p.1),H,rfl,I.kept (t':=s.toks) λb o e=>Af _ e,IZ a _ o _ _ es ep hd (by rw[Ab];show hsz) (λi en m=>?_),#[_,Aw _ rfl,rfl,rfl],fp,k _ _ _ _ _ (Kp.refl O) O (JA O e ?_) h]
  .let#[p,L,U,_]:=D i en m;show#[kV p.1,by rw[Az,L];rfl,U]
  .let hk:(ks.map λp=>kV p.1)=(ks.map Ck).map kV:=by rw[Br];rfl
   let hw:(kvs.map λp=>wK p.1)=(kvs.map Ck).map wK:=by rw[Br];rfl
   rw[hk,hw,ke];generalize kvs.map Ck=l
   induction l with
   | nil=>show .nil
   | cons z l E=>show .cons (JB z) E
 case ft a o ks kvs e ke q=>
  cases (show u=Value.ref a from A);let#[es,ep,G,hd,N,hsz,as,hl,T,D]:=zcm I.hok e;let fp:∀b∈[⇑s],gR X af H b:=λb Y=>by
   let e:b=⇑s:=by simpa using Y
   subst e;show I.fpOk (Aj _) (I.hok.fresh (Aj _))
  apply tZ N G #[⇑s,[⇑s],_,vM a o (.dT ks) (as.map V.ref),H,rfl,I.kept (t':=s.toks) λb o e=>Af _ e,IZ a _ o _ _ es ep hd (by rw[Ab];lia) (λi en m=>?_),#[_,Aw _ rfl,rfl,rfl],fp,k _ _ _ _ _ (Kp.refl O) O (JA O e ?_) h]
  .let#[p,b,L,U,F,_]:=D i en m;show#[.ref b,by rw[Az,U];rfl,by rw[F];rfl]
  .let hw:(kvs.map λp=>W.tup (p.1.map wK))=(ks.map Ck).map λz=>W.tup (z.map wK):=by rw[ke,Br];rfl
   rw[hw];have:∀(ks:↑(↑aC×V)) (as:↑Am),↥as=↥ks->(∀(i:Nat) (p:↑aC×V) (b:Am),ks[i]? = aa p->as[i]? = aa b->H b=aa (.tup (p.1.map kV)))->aJ X.K H M (as.map V.ref) ((ks.map Ck).map λz=>W.tup (z.map wK)):=by
    intro ks
    induction ks with
    | nil=>intro as hl _;cases as with
     | nil=>show .nil
     | cons b r=>simp at hl
    | cons p ks E=>
     intro as hl T;cases as with
     | nil=>simp at hl
     | cons b r=>
      apply .cons (.tup (T 0 p b rfl rfl) (uZ p.1)) (E r (by simpa using hl) λi p b L U=>T (i+1) p b (by simpa using L) (by simpa using U))
   show this ks as hl T
def zco(hl:E3 X l tl):PI X C l (fY X.K (cA r9 tl)):=uJ hl zcn
end
end L2
namespace PySem
namespace Dt
open L2
open PySem.Zd (TK allH y8 oF)
section
variable {prog:Be}{w:Bv}{A:Cw}{E:Ae->Ak->Prop}{s:Ak}
def call_pairs{c:Nat}{Q:Ae->Ak->Prop}(hh:A.handled=ae)(C:A.units+2<Fu)(B:s.heap.get? l=aa {cls:=.type "list",data:=.seq items c})(P:↥ps=items.size)(hz:items.size<=Ap)(u:∀p∈ps,(TK prog w).is s.heap p.1 p.2.1)(S:∀(j:Nat) (p:↑aC×Am×Ae),ps[j]? = aa p->∃(a:Am),items[j]? = aa (.ref a)/\s.heap.IsTuple a [.ref p.2.1,p.2.2].toArray)(h:∀h' tk,(∀b o,s.heap.get? b=aa o->h'.get? b=aa o)->h'.DictOfH (TK prog w) ⇑s (allH [] ps)->Q (.ref ⇑s) {s with heap:=h',toks:=tk}):
  Bo (Cy prog w) A (call (.type "dict") [.ref l]) Q E s:=by
 let r:∀p∈ps,@LT.lt Nat _ p.2.1 ⇑s:=λp S=>by
  let#[o,items,n,e,_]:=u p S;show Ba e
 apply Dp.callG (Dd:=λi h=>∃es,es=allH [] (ps.take i)/\h.DictOfH (TK prog w) ⇑s es/\↥es<=i/\∀e∈es,@LT.lt Nat _ e.2.1 ⇑s) hh B #[[],rfl,Heap.DictOfH.new s.heap,Aj _,λ_ h=>nomatch h] ?_ (λ{i t} hi hd ext=>?_) λh' tk e z=>by let#[es,J,v,_]:=z;show h h' tk e (by rw[<-P,Cb]at J;rw[<-J];show v)
 .rintro i h h' ⟨es,m,⟨o,en,ep,f,hc,M,F,X,L⟩,hl,W⟩ N;show#[es,m,#[o,en,ep,N _ o (Aj _) f,hc,M,F,λx K=>oF (X x K) λR e=>N _ R (Ie (W x K)) e,L],hl,W]
 let#[es,m,hd,hl,W]:=hd;obtain⟨p,y⟩:∃p,ps[i]? = aa p:=#[_,Bj (by lia)];let g:p∈ps:=Au y;let#[a,H,G]:=S i p y;apply#[a,_,p.2.2,H,G,λk=>Sm (knd:=TK prog w) (Gh (A:=A.in1) (show(A.units+1)+1<Fu from C)) (oF (u p g) (ext _)) hd (λZ v d=>k Z _ #[_,?_,v,?_,λe m=>?_] d) (by lia)]
 .rw[m,Dp.take_at y];unfold allH;rw[Mi];rfl
 .have:=y8 es p.1 p.2.1 p.2.2;lia
 unfold Od at m;split at m
 .let#[I,D,rfl]:=Ao.mp m;rw[show(Ws p.1 p.2.2 I).2.1=I.2.1 by unfold Ws;split<;>rfl];show W I D
 .rcases Bb.mp m with q|q
  .show W e q
  .rw[Ai.mp q];show r p g
end
end Dt
end PySem
namespace L2
section
variable {X:Cx}
noncomputable def oO(ps:↑(↑aC×W)):↑W:=ps.map λp=>.tup [.tup (p.1.map wK),p.2]
theorem JC(I:L2.Inv X C G H s):∀{ps:↑(↑aC×W)} {vs:↑V} {its:↑Ae},aJ X.K H M vs (oO ps)->aY vs its->
  ∃(qs:↑(↑aC×Am×V)) (rs:↑(↑aC×Am×Ae)),bR X.K H M (↑aC) (qs.map λq=>(q.1,q.2.2)) ps/\(∀q∈qs,H q.2.1=aa (.tup (q.1.map kV)))/\Gk (λ(q:↑aC×Am×V) (p:↑aC×Am×Ae)=>q.1=p.1/\q.2.1=p.2.1/\RelV q.2.2 p.2.2) qs rs/\↥rs=↥its/\
   (∀z∈rs,H z.2.1=aa (.tup (z.1.map kV)))/\∀(j:Nat) (p:↑aC×Am×Ae),rs[j]? = aa p->∃(a:Am),its[j]? = aa (.ref a)/\s.heap.IsTuple a [.ref p.2.1,p.2.2].toArray
 | [],_,_,.nil,.nil=>#[[],[],.nil,(λq hq=>nomatch hq),.nil,rfl,(λq hq=>nomatch hq),λj p h=>by simp at h]
 | (k,w)::ps,_,_,.cons av c,.cons R l=>by
  let#[qs,rs,L,Z,F,T,O,i]:=JC I c l;let#[a,xs,ev,e,q]:=av.inv;rw[ev]at R;let#[Y,o,ex,f,g]:=q.two;let#[b,Q,u,D,A]:=f.inv;rw[A.keys]at D;let#[t,m,pl,_]:=I.tuple (bJ.of e);rw[ex,u]at m;let#[P,d,B,x1,x2]:=vals2 m;rw[B,show P=.ref b from x1]at pl;apply#[(k,b,o)::qs,(k,b,d)::rs,.cons #[rfl,g] L,List.forall_mem_cons.mpr #[D,Z],.cons #[rfl,rfl,x2] F,congrArg (· + 1) T,List.forall_mem_cons.mpr #[D,O],λj p hj=>?_];cases j with
  | zero=>rw[<-Cj hj];show#[a,congrArg aa R,pl]
  | succ j=>show i j p hj
def zY:↑W->Mm->K3->Prop
 | [.rl ws],M,R=>∃ps:↑(↑aC×W),ws=oO ps/\↥ws<=Ap/\jP (jA [] ps) M R
 | _,_,_=>False
def zcp(hc:X.calm=ab)(Y:X.A.units+2<Fu):cN X (.type "dict") (fA X.K zY):=by
 rintro C s G H xs us Q I rs ⟨ws,M,R,O,m,h,k⟩
 match ws,h with
 | [.rl ws],h=>
  let#[v,rfl,av]:=m.one;let#[ps,rfl,hz,r]:=h;let#[u,rfl,ru]:=vals1 rs;cases av with
  | rl f n q=>
   cases ru;let#[z,its,c,U,hl,e]:=I.lstM f;let#[qs,rs',L,Z,F,T,B,h6]:=JC I q U;let hz2:↥ps<=Ap:=by simpa [oO] using hz
   let hql:↥qs=↥ps:=by have:=Ea L;rwa [Ab]at this
   apply Dt.call_pairs (items:=its.toArray) (ps:=rs') (I.ok.hd hc) Y e (by simpa using T) (by rw[Bg];lia) (λp S=>iL I.hok (B p S)) (λj p hj=>by simpa using h6 j p hj) λh' tk hk x=>?_;let d:=I.hok.fresh (Aj _);let len:=y9 (qs.map λq=>(q.1,q.2.2)) [];rw[Ab]at len;let puts:∀{ps:↑(↑aC×W)} {qs:↑(↑aC×V)} {ks:↑(↑aC×V)} {kvs:↑(↑aC×W)},bR X.K H M (↑aC) qs ps->bR X.K H M (↑aC) ks kvs->bR X.K H M (↑aC) (jZ ks qs) (jA kvs ps):=by
    intro ps qs ks kvs h
    induction h generalizing ks kvs with
    | nil=>intro h;show h
    | @cons q p qs ps r t E=>
     intro h;let#[J,i]:=q;let#[b,y]:=p;let#[rfl,D]:=r;show E (rJ h J D)
   let g:=puts (ks:=[]) (kvs:=[]) L .nil;apply#[.ref ⇑s,aL H ⇑s (.dT (jZ [] (qs.map λq=>(q.1,q.2.2)))),I.laid (o:=.dT (jZ [] (qs.map λq=>(q.1,q.2.2)))) (t':=tk) hk (Aj _) #[by simp at len;lia,beq_eq_false_iff_ne.mpr (Ca (Bl I.big)),_,(HD F Z .nil).keeps λc ys w=>?_,?_],rfl,?_]
   .rw[bD (eR w d)];show w
   .let#[o,en,ep,l,D,a,r4,_,r5]:=x;show#[o,en,ep,l,D,a,r4,r5]
   .let#[N,P]:=O.laid (o:=.dT (jA [] ps)) (u:=.dT (jZ [] (qs.map λq=>(q.1,q.2.2)))) d #[_,b7,nZ g.keys (g.vals.newL d)];show k _ _ _ _ P N (.ref _) (r _ (O.nonM d))
end
def vN(rs:↑aD)(ws:↑Av):Prop:=∀r∈rs,∀t∈r.parts,ownB rs t=ac->t∈ws
structure GL(rs:↑aD):Prop where
 few:↥rs<=20000
 prt:∀r∈rs,↥r.parts<=4
 wds:∃U:↑Av,↥U<64/\vN rs U
def zZ(h:acc.Nodup):(cZ acc t).Nodup:=by
 unfold cZ;split
 .show h
 .rename_i P;rw[Er];apply#[h,by simp,λa T b Y e=>P ?_];have:b=t:=by simpa using Y
  rw[<-this,<-e];show T
def z9(rs:↑aD):↥(namesOf rs)<=↥rs:=by
 have:∀(qs:↑aD) (acc:↑Av),↥(lP acc qs)<=↥acc+↥qs:=by
  intro qs
  induction qs with
  | nil=>intro acc;show Aj _
  | cons r qs E=>
   intro acc;let L:=E (cZ acc r.name);let Z:↥(cZ acc r.name)<=↥acc+1:=by unfold cZ;split<;>simp
   change(lP (cZ acc r.name) qs).length<=_;rw[Bq];lia
 have:=this rs [];rw[Ju,Nv]at this;show this
def AA{O:Type}{l:↑O}{k:Nat}{x:O}(h:l[k]? = aa x):l.take (k+1)=l.take k++[x]:=by
 rw[List.take_succ,h];rfl
theorem AB{P:Av->W->Prop}:∀{fs:↑cD} {ys:↑W},Gk (λw y=>∃f v,w=W.tup ((fK f).map wK)/\y=W.tup [.str f.1,v]/\P f.1 v) (fs.map λf=>W.tup ((fK f).map wK)) ys->∃kvs:↑(aC×W),ys=oC kvs/\kvs.map (·.1)=(fs.map λf=>(Sum.inr f.1:aC))/\∀e∈kvs,∀X,e.1=Sum.inr X->P X e.2
 | [],_,h=>by cases h;show#[[],rfl,rfl,λ_ h=>nomatch h]
 | f::fs,_,h=>by
  cases h with
  | cons a b=>
   obtain⟨⟨n,i,j⟩,v,e,rfl,hp⟩:=a;let#[kvs,rfl,h2,h3]:=AB b;cases e;show#[(Sum.inr f.1,v)::kvs,rfl,by rw[Bi,Bi,h2],λe he X hX=>(Ax.mp he).elim (λz=>by subst z;cases hX;show hp) λz=>h3 e z X hX]
theorem JD{k:aC}{v:W}:∀{ps acc:↑(aC×W)},aM (jY acc ps) k=aa v->(k,v)∈ps\/aM acc k=aa v
 | [],acc,h=>.inr h
 | p::ps,acc,h=>by
  rcases JD (ps:=ps) (acc:=bW acc p.1 p.2) h with z|z
  .show .inl (.tail _ z)
  .rw[jD]at z
   by_cases e:p.1=k
   .rw[Xb e]at z;cases z;rw[<-e];show .inl (.head _)
   .rw[Xa e]at z;show .inr z
theorem JE:∀{ps acc:↑(aC×W)},(aM (jY acc ps) k).isSome=((aM acc k).isSome||ps.any λp=>decide (p.1=k))
 | [],acc=>by simp[jY]
 | p::ps,acc=>by
  change(aM (jY (bW acc p.1 p.2) ps) k).isSome=_;rw[JE,jD]
  by_cases e:p.1=k
  .rw[Xb e,Ge,Xd e];simp
  .rw[Xa e,Ge,Xe e,Ol]
def JF{w:Bool}(hw:∀r∈rs,∀t∈r.parts,ownB rs t=ac->(t∈ss↔w=ab))(F:oI (kN rs ss) B)(h:kvs.map (·.1)=(fs B).map λf=>(Sum.inr f.1:aC))(X:Av):(aM (jY [] kvs) (Sum.inr X:aC)).isSome=lQ rs w X:=by
 rw[JE,show(aM ([]:↑(aC×W)) (Sum.inr X:aC)).isSome=ac from rfl,Ol,Fd,Hc,nC];let hm:(∃x∈kvs,decide (x.1=(Sum.inr X:aC))=ab)↔(Sum.inr X:aC)∈kvs.map (·.1):=by simp
 rw[hm,h,Ao];constructor
 .rintro⟨f,h1,h2⟩;cases h2;show((HZ hw F f).mp h1).2
 .show λz=>#[(X,0,0),(HZ hw F _).mpr #[rfl,z],rfl]
def eL(rs:↑aD)(t:Av):Bool:=lQ rs ab t||!ownB rs t
def fU(rs:↑aD):↑aD:=rs.filter λr=>r.parts.all (eL rs)
noncomputable def cM(rs:↑aD)(D:↑Av)(t:Av):Bool:=decide (t∈D)||!ownB rs t
noncomputable def fJ(rs:↑aD)(D:↑Av)(r:aD):↑Av:=if r.parts.any (cM rs D)=ab then cZ D r.name else D
def gS(rs:↑aD)(D:↑Av):↑Av:=(fU rs).foldl (fJ rs) D
def eQ(rs:↑aD):Nat->↑Av
 | 0=>[]
 | n+1=>gS rs (eQ rs n)
def JG(rs:↑aD)(D:↑Av)(r:aD):∃q,fJ rs D r=D++q:=by
 unfold fJ cZ;split
 .split
  .show#[[],by simp]
  .show#[_,rfl]
 .show#[[],by simp]
theorem vO(rs:↑aD):∀(qs:↑aD) (D:↑Av),∃q,qs.foldl (fJ rs) D=D++q
 | [],D=>#[[],by simp]
 | r::qs,D=>by
  let#[a,T]:=JG rs D r;let#[b,Y]:=vO rs qs (fJ rs D r);rw[Hq,Y,T,Bh];show#[_,rfl]
def zcq(h:↥(gS rs D)<=↥D):gS rs D=D:=by
 let#[q,hq]:=vO rs (fU rs) D;let e:gS rs D=D++q:=hq;rw[e,Ag]at h;have:q=[]:=Jk.mp (by lia);rw[e,this,Bn]
structure Wd(rs:↑aD)(D:↑Av):Prop where
 nd:D.Nodup
 own:∀X∈D,ownB rs X=ab
 why:∀X∈D,∃r∈rs,r.name=X/\(∀t∈r.parts,eL rs t=ab)/\∃p∈r.parts,p≠X/\(p∈D\/ownB rs p=ac)
def Wd.nil(rs:↑aD):Wd rs []:=#[Fh,(λ_ h=>nomatch h),(λ_ h=>nomatch h)]
def vP:r∈fU rs↔r∈rs/\∀t∈r.parts,eL rs t=ab:=by
 unfold fU;rw[Gb,He]
def Wd.step(d:Wd rs D)(G:r∈fU rs):Wd rs (fJ rs D r):=by
 unfold fJ;split
 .rename_i h
  by_cases N:r.name∈D
  .unfold cZ;rw[Xb N];show d
  .let#[L,Z]:=vP.mp G;let#[p,S,a]:=Hc.mp h;let e:cZ D r.name=D++[r.name]:=by unfold cZ;rw[Xa N]
   apply#[zZ d.nd,λX K=>?_,λX K=>?_]
   .rcases kL.mp K with z|z
    .show d.own X z
    .rw[z];show oJ L
   .rcases kL.mp K with z|z
    .let#[q,H,Y,f,t,W,M,b]:=d.why X z;apply#[q,H,Y,f,t,W,M,?_];rcases b with y|y
     .show .inl (kL.mpr (.inl y))
     .show .inr y
    .unfold cM at a;rw[Sx]at a;apply#[r,L,z.symm,Z,p,S,?_,?_]
     .rintro rfl;rcases a with y|y
      .rw[z]at y;show N (Xc y)
      .rw[z,oJ L]at y;cases y
     .rcases a with y|y
      .show .inl (kL.mpr (.inl (Xc y)))
      .right;cases e:ownB rs p with
       | false=>rfl
       | true=>rw[e]at y;cases y
 .show d
theorem Wd.fold:∀{qs:↑aD} {D:↑Av},Wd rs D->(∀r∈qs,r∈fU rs)->Wd rs (qs.foldl (fJ rs) D)
 | [],D,d,_=>d
 | r::qs,D,d,h=>Wd.fold (qs:=qs) (d.step (h r Bw)) λq hq=>h q (Bp _ hq)
theorem Wd.rounds(rs:↑aD):∀n,Wd rs (eQ rs n)
 | 0=>Wd.nil rs
 | n+1=>Wd.fold (Wd.rounds rs n) λ_ h=>h
def Wd.len(d:Wd rs D):↥D<=↥(namesOf rs):=len_sub d.nd λx B=>Xc (d.own x B)
def JH(h:gS rs D=D)(G:r∈fU rs)(S:∃p∈r.parts,cM rs D p=ab):r.name∈D:=by
 let mono:∀(qs:↑aD) (E:↑Av),(∀x∈D,x∈E)->r∈qs->r.name∈qs.foldl (fJ rs) E:=by
  intro qs
  induction qs with
  | nil=>intro E _ h;cases h
  | cons q qs N=>
   intro E j P;rw[Hq];let a:∀x∈D,x∈fJ rs E q:=λx B=>by
    let#[z,e]:=JG rs E q;rw[e];show Bf _ (j x B)
   rcases Ax.mp P with rfl|z
   .let#[z,e]:=vO rs qs (fJ rs E r);rw[e];apply Bf _ ?_;unfold fJ;rw[Xb]
    .show kL.mpr (.inr rfl)
    .let#[p,L,Z]:=S;apply Hc.mpr #[p,L,?_];unfold cM at Z⊢;rw[Sx]at Z⊢;rcases Z with y|y
     .show .inl (Xd (j p (Xc y)))
     .show .inr y
   .show N _ a z
 have:=mono (fU rs) D (λ_ h=>h) G;let e:(fU rs).foldl (fJ rs) D=D:=h;rwa [e]at this
abbrev hV:=↑Av×↑W
noncomputable def gT(keep drop:Av->Bool)(E:Av->W)(told:↑hV)(t:Av):↑hV:=
 (if keep t=ab then told.map λx=>(x.1++[t],x.2++[W.int ↥x.1]) else [])++(if drop t=ab then told.map λx=>(x.1,x.2++[W.tup [.str "whole",E t]]) else [])
noncomputable def kO(keep drop:Av->Bool)(E:Av->W)(ps:↑Av):↑hV:=ps.foldl (gT keep drop E) [([],[])]
section
variable {keep drop:Av->Bool}{E:Av->W}
def zcr(told:↑hV)(t:Av):↥(gT keep drop E told t)<=2*↥told:=by
 unfold gT;rw[Ag];split<;>split<;>simp<;>lia
theorem JI:∀(ps:↑Av) (told:↑hV),↥(ps.foldl (gT keep drop E) told)<=2 ^ ↥ps*↥told
 | [],told=>by simp
 | t::ps,told=>by
  let L:=JI ps (gT keep drop E told t);let Z:=zcr (keep:=keep) (drop:=drop) (E:=E) told t;rw[Hq,Bq,Nat.pow_succ]
  calc _<=2 ^ ↥ps*↥(gT keep drop E told t):=L
   _<=2 ^ ↥ps*(2*↥told):=Fo _ Z
   _=2 ^ ↥ps*2*↥told:=by rw[Nat.mul_assoc]
end
def zcs(I:gS rs D=D)(h:fE rs ab X):X∈D\/fE rs ac X:=by
 induction h with
 | @mk r G S _ E=>
  by_cases hw:∃p∈r.parts,cM rs D p=ab
  .apply .inl (JH I (vP.mpr #[G,λt ht=>?_]) hw);unfold eL;cases f:ownB rs t with
   | true=>rw[nC.mpr (S t ht f)];rfl
   | false=>show Nr _
  .let no:∀t∈r.parts,ownB rs t=ac->False:=λt ht f=>hw #[t,ht,by unfold cM;rw[f];show Nr _];show .inr (.mk G (λt ht f=>(E t ht f).resolve_left λz=>hw #[t,ht,by unfold cM;rw[Xd z];rfl]) λt ht f=>(no t ht f).elim)
def zct(E:gS rs D=D)(h:eL rs t=ab):cM rs D t=ab\/fE rs ac t:=by
 unfold eL at h;rw[Sx]at h;rcases h with z|z
 .rcases zcs E (nC.mp z) with y|y
  .left;unfold cM;rw[Xd y];rfl
  .show .inr y
 .left;unfold cM;rw[z];simp
def JJ:∀d,d<10->(Ug d).toNat=48+d:=by decide
def zcu{m:Nat}(h:10<=m):Je 10 m=Je 10 (m/10)++[Ug (m % 10)]:=Nat.toDigits_of_base_le ∅ h
def zcv:∀m:Nat,PySem.NumText.digitsVal ((Je 10 m).map Vk)=m:=by
 intro m
 induction m using Nat.strongRecOn with
 | ind m ih=>
  by_cases h:m<10
  .rw[Oz h];change 0*10+((Ug m).toNat-48)=m;rw[JJ m h];lia
  .rw[zcu (by lia),Ay,Bi,Np,PySem.NumText.digitsVal_snoc,ih (m/10) (by lia),JJ _ (Nat.mod_lt _ ∅)];lia
noncomputable def jG(m:Nat):Av:=Cd (toString ((m:Nat):Int))
def JK(m:Nat):cs (jG m)=(Je 10 m).map Vk:=PySem.W.KIN.signs_num m
def zcw{m:Nat}(h:m<10 ^ 60):↥(jG m)<=60:=by
 rw[<-xS,JK,Ab];show(Nat.length_toDigits_le_iff ∅ ∅).mpr h
def zcx{c:Nat}(h:c∈cs mF):48<=c/\c<=57:=by
 let key:∀c∈cs mF,48<=c/\c<=57:=by decide +kernel
 show key c h
def JL{m:Nat}(h:m<10 ^ 60):PySem.intText? (jG m)=aa (m:Int):=by
 let#[L,Z]:=D6 (m:=m);have:=PySem.intText_digits (x:=jG m) (λc hc=>zcx (L c hc)) Z (by have:=zcw h;lia);rw[this];congr 2;let e:=zcv m;rw[<-JK]at e;show e
noncomputable def jH{O:Type}[DecidableEq O](acc:↑O)(t:O):↑O:=if t∈acc then acc else acc++[t]
section
variable {O:Type}[DecidableEq O]
def zcy{acc:↑O}{t u:O}:u∈jH acc t↔u∈acc\/u=t:=by
 unfold jH;split
 .rename_i h;constructor
  .show .inl
  .rintro(q|q)
   .show q
   .rw[q];show h
 .rw[Bb,Ai]
def zcz{acc:↑O}{t:O}:↥(jH acc t)<=↥acc+1:=by
 unfold jH;split
 .lia
 .rw[Ag];show Aj _
def zcA{acc:↑O}{t:O}(h:acc.Nodup):(jH acc t).Nodup:=by
 unfold jH;split
 .show h
 .rename_i n;rw[Er];apply#[h,by simp,λx B y Z=>?_];rw[Ai]at Z;subst Z;show λe=>n (e▸B)
noncomputable def jI(acc ts:↑O):↑O:=ts.foldl jH acc
theorem JM:∀{ts acc:↑O} {u:O},u∈jI acc ts↔u∈acc\/u∈ts
 | [],acc,u=>by simp[jI]
 | t::r,acc,u=>by
  change u∈jI (jH acc t) r↔_;rw[JM,zcy,Ax,or_assoc]
theorem AD:∀{ts acc:↑O},↥(jI acc ts)<=↥acc+↥ts
 | [],acc=>Aj _
 | t::r,acc=>by
  let L:=AD (ts:=r) (acc:=jH acc t);let Z:=zcz (acc:=acc) (t:=t);change(jI (jH acc t) r).length<=_;rw[Bq];lia
theorem JN:∀{ts acc:↑O},acc.Nodup->(jI acc ts).Nodup
 | [],_,h=>h
 | t::r,acc,h=>JN (ts:=r) (zcA h)
end
noncomputable def gU(ps:↑Av):↑(↑Av):=(Cf (↥ps-2)).map λk=>ps.drop (k+1)
noncomputable def nE(rs:↑aD):↑(↑Av):=(rs.map λr=>gU r.parts).flatten
noncomputable def bY(rs:↑aD):↑(↑Av):=jI [] (nE rs)
def JO:e∈gU ps↔∃k,k+2<↥ps/\e=ps.drop (k+1):=by
 unfold gU;rw[Ao];constructor
 .rintro⟨k,hk,rfl⟩;rw[Gx]at hk;show#[k,by lia,rfl]
 .rintro⟨k,hk,rfl⟩;show#[k,by rw[Gx];lia,rfl]
def sA:e∈bY rs↔∃r∈rs,∃k,k+2<↥r.parts/\e=r.parts.drop (k+1):=by
 unfold bY nE;rw[JM];simp only[Eg,false_or,List.mem_flatten,Ao];constructor
 .rintro⟨l,⟨r,G,rfl⟩,m⟩;show#[r,G,JO.mp m]
 .rintro⟨r,G,h⟩;show#[_,#[r,G,rfl],JO.mpr h]
def vQ(G:r∈rs)(h:2<↥r.parts):r.parts.drop 1∈bY rs:=sA.mpr #[r,G,0,by lia,rfl]
def vR(m:e∈bY rs)(h:2<↥e):e.drop 1∈bY rs:=by
 let#[r,G,k,hk,rfl]:=sA.mp m;rw[Ei]at h;show sA.mpr #[r,G,k+1,by lia,by rw[List.drop_drop]]
theorem JP:∀{rs:↑aD},(∀r∈rs,↥r.parts<=4)->↥(nE rs)<=2*↥rs
 | [],_=>Aj _
 | r::rs,h=>by
  let L:=JP (rs:=rs) λq hq=>h q (Bp _ hq);let Z:=h r Bw;unfold nE at L⊢;rw[Bi,Jd,Ag,Bq];unfold gU;rw[Ab,Hj];unfold gU at L;lia
def AE(h:∀r∈rs,↥r.parts<=4):↥(bY rs)<=2*↥rs:=by
 let L:=AD (ts:=nE rs) (acc:=[]);let Z:=JP h;unfold bY;simp at L;lia
def JQ:(bY rs).Nodup:=JN Fh
noncomputable def e9(i:Nat):Av:="M"++"_"++jG i
def JR(i:Nat):cs (e9 i)=77::95::cs (jG i):=by
 unfold e9;rw[tT,tT,DZ];rfl
def zcB{i j:Nat}(hi:i<10 ^ 60)(hj:j<10 ^ 60)(h:cs (jG i)=cs (jG j)):i=j:=by
 let e:jG i=jG j:=by
  generalize jG i=a at h⊢;generalize jG j=b at h⊢;obtain⟨⟨a⟩⟩:=a;obtain⟨⟨b⟩⟩:=b;simp[cs]at h;rw[h]
 let L:=JL hi;rw[e,JL hj]at L;injection L with h2;lia
def JS{i j:Nat}(hi:i<10 ^ 60)(hj:j<10 ^ 60)(h:e9 i=e9 j):i=j:=by
 let e:=congrArg cs h;rw[JR,JR]at e;simp only[Ff,true_and]at e;show zcB hi hj e
noncomputable def gQ(old:↑Av)(t:Nat):↑Av:=((Cf t).map e9).filter λn=>!decide (n∈old)
def JT(old:↑Av)(t:Nat):gQ old (t+1)=if e9 t∈old then gQ old t else gQ old t++[e9 t]:=by
 unfold gQ;rw[List.range_succ,Ay,Jq]
 by_cases h:e9 t∈old
 .simp[h]
 .simp[h]
def JU(old:↑Av)(t:Nat)(ht:t<10 ^ 60):t<=↥(gQ old t)+↥old:=by
 let key:↥(((Cf t).map e9).filter λn=>decide (n∈old))<=↥old:=by
  apply List.Nodup.length_le_of_subset ?_ λn P=>by simpa using (Gb.mp P).2
  apply List.Nodup.sublist Qq ?_;rw[Hi,Gs];apply List.Pairwise.imp_of_mem ?_ (Ox (n:=t));intro a b T Y k e;rw[Gx]at T Y;show k (JS (by lia) (by lia) e)
 let e:=List.length_eq_countP_add_countP (λn=>decide (n∈old)) (l:=(Cf t).map e9);rw[List.countP_eq_length_filter,List.countP_eq_length_filter]at e;rw[Ab,Hj]at e;unfold gQ;let D:(((Cf t).map e9).filter λn=>!decide (n∈old))=(((Cf t).map e9).filter λa=>decide ¬decide (a∈old)=ab):=by
  congr 1;funext a;simp
 rw[D];lia
noncomputable def kP(old:↑Av)(n:Nat):↑Av:=(gQ old (n+↥old)).take n
def zcC(old:↑Av){t u:Nat}(h:t<=u):∃r,gQ old u=gQ old t++r:=by
 induction u with
 | zero=>
  cases Nat.le_zero.mp h;show#[[],by simp]
 | succ u E=>
  by_cases e:t=u+1
  .subst e;show#[[],by simp]
  .let#[r,G]:=E (by lia);rw[JT];split
   .show#[r,G]
   .show#[r++[e9 u],by rw[G,Bh]]
def zcD{n t:Nat}(P:↥(gQ old t)=n)(ht:t<=n+↥old):gQ old t=kP old n:=by
 let#[r,G]:=zcC old ht;unfold kP;rw[G,<-P,List.take_left'];rfl
def JV{n:Nat}(h:n+↥old<10 ^ 60):↥(kP old n)=n:=by
 have:=JU old (n+↥old) h;unfold kP;rw[Dc];lia
def JW{n:Nat}(h:t∈kP old n):t∉old/\∃i,i<n+↥old/\t=e9 i:=by
 unfold kP at h;let h:=Kj h;unfold gQ at h;let#[L,Z]:=Gb.mp h;let#[i,hi,rfl]:=Ao.mp L;rw[Gx]at hi;show#[by simpa using Z,i,hi,rfl]
noncomputable def fF(e:↑Av):↑aC:=e.map Sum.inr
theorem AF:∀{a b:↑Av},a.map (Sum.inr:Av->aC)=b.map Sum.inr->a=b
 | [],[],_=>rfl
 | [],_::_,h=>by cases h
 | _::_,[],h=>by cases h
 | x::a,y::b,h=>by
  simp only[Bi,Ff,Tb]at h;rw[h.1,AF h.2]
def AG(h:fF a=fF b):a=b:=AF h
noncomputable def iS(rs:↑aD):↑Av:=kP (namesOf rs) ↥(bY rs)
noncomputable def oP(rs:↑aD):↑(↑Av×Av):=(bY rs).zip (iS rs)
noncomputable def hW(rs:↑aD):↑(↑aC×W):=(oP rs).map λp=>(fF p.1,.str p.2)
noncomputable def eF(rs:↑aD)(e:↑Av):Av:=((oP rs).lookup e).getD ""
theorem vS:∀{es:↑(↑Av)} {ns:↑Av} {e:↑Av},↥es=↥ns->e∈es->∃n∈ns,(es.zip ns).lookup e=aa n
 | [],_,e,_,h=>by cases h
 | x::es,[],e,h,_=>by cases h
 | x::es,n::ns,e,h,d=>by
  rw[Ii,Eh]
  by_cases B:e=x
  .subst B;rw[beq_self_eq_true];show#[n,Bw,rfl]
  .rw[beq_eq_false_iff_ne.mpr B];rcases Ax.mp d with L|L
   .show absurd L B
   .let#[m,N,J]:=vS (es:=es) (ns:=ns) (by simpa using h) L;show#[m,Bp _ N,J]
theorem JX:∀(l:↑(↑Av×Av)) (e:↑Av),aM (l.map λp=>((fF p.1,W.str p.2):↑aC×W)) (fF e)=(l.lookup e).map W.str
 | [],e=>rfl
 | (x,n)::l,e=>by
  unfold aM;rw[Bi,Ee,Eh]
  by_cases B:e=x
  .subst B;simp
  .rw[beq_eq_false_iff_ne.mpr B,Xe (λh=>B (AG h).symm)];show JX l e
structure hZ(rs:↑aD):Prop where
 few:↥rs<=20000
 prt:∀r∈rs,↥r.parts<=4
 sum:↥(bY rs)+↥(namesOf rs)<=9000
def JY(rs:↑aD):↥(namesOf rs)<=↥rs:=by
 have:=rW (rs.map aD.name) [];unfold namesOf lP;simpa using this
def hZ.len(f:hZ rs):↥(iS rs)=↥(bY rs):=JV (Gz f.sum ∅)
def AH(f:hZ rs)(m:e∈bY rs):aM (hW rs) (fF e)=aa (.str (eF rs e))/\eF rs e∈iS rs:=by
 let#[n,P,J]:=vS (ns:=iS rs) f.len.symm m;let D:eF rs e=n:=by unfold eF oP;rw[J];rfl
 rw[D];apply#[?_,P];unfold hW;rw[JX];unfold oP;rw[J];rfl
noncomputable def dD(rs:↑aD)(ps:↑Av):↑Av:=if ↥ps<=2 then ps else [ps.headD "",eF rs (ps.drop 1)]
def AI(rs:↑aD)(ps:↑Av):↥(dD rs ps)<=2:=by
 unfold dD;split
 .assumption
 .simp
abbrev NP:=Av×↑Av
noncomputable def sC(ps:↑Av):W:=.tup ((Cf ↥ps).map λ(i:Nat)=>W.int i)
noncomputable def addT(acc:↑(NP×W))(it:NP×W):↑(NP×W):=if it.1∈acc.map Ck then acc else acc++[it]
noncomputable def kQ(x:NP):bQ:=(Sum.inr x.1,x.2.map Sum.inr)
def zcE(h:kQ x=kQ y):x=y:=by
 let#[a,b]:=x;let#[c,d]:=y;unfold kQ at h;rw[Kz]at h;let L:=h.1;injection L with L;show Jt L (AF h.2)
noncomputable def kvsOf(l:↑(NP×W)):↑(bQ×W):=l.map λp=>(kQ p.1,p.2)
def JZ(l:↑(NP×W))(x:NP):(aM (kvsOf l) (kQ x)=ae/\x∉l.map Ck)\/(∃w,aM (kvsOf l) (kQ x)=aa w)/\x∈l.map Ck:=by
 induction l with
 | nil=>show .inl #[rfl,by simp]
 | cons p l E=>
  unfold kvsOf aM at E⊢;rw[Bi,Ee,Bi,Ax]
  by_cases h:p.1=x
  .rw[Xd (by rw[h])];show .inr #[#[_,rfl],.inl h.symm]
  .rw[Xe (λe=>h (zcE e))];rcases E with⟨L,Z⟩|⟨L,Z⟩
   .show .inl #[L,λe=>by rcases e with e|e;show h e.symm;show Z e]
   .show .inr #[L,.inr Z]
noncomputable def kR(x:NP):aD:=#[x.1,x.2,0]
def J0(x:NP):gN [0] (kQ x)=bX (kR x):=by
 unfold gN kQ bX kR;simp[wK,Mp]
structure Sh(t:Av):Prop where
 len:↥t<=60
 ne:cs t≠[]
 asc:rV t
def jB.sh(h:jB t):Sh t:=#[by have:=h.len;lia,h.ne,h.asc]
def dB.sh(h:dB t):Sh t:=#[by have:=h.len;lia,by let#[c,r,e,_]:=h.hd;rw[e];simp,h.asc]
def zcF{b:Type}[DecidableEq b]{kvs:↑(b×W)}{k:b}{v:W}(h:k∉kvs.map Ck):bW kvs k v=kvs++[(k,v)]:=by
 unfold bW;rw[Xa];rw[Hc];rintro⟨p,S,e⟩;show h (Ao.mpr #[p,S,by simpa using e])
theorem J1:∀{ps acc:↑(↑aC×W)},((acc++ps).map Ck).Nodup->jA acc ps=acc++ps
 | [],acc,_=>by simp[jA]
 | p::ps,acc,h=>by
  let P:p.1∉acc.map Ck:=by
   rw[Ay,Bi,Er]at h;intro N;show h.2.2 _ N _ Bw rfl
  change jA (bW acc p.1 p.2) ps=_;rw[zcF P];let e:acc++[(p.1,p.2)]++ps=acc++p::ps:=by simp
  rw[J1 (by rw[e];show h),e]
def J2(f:hZ rs):(hW rs).map Ck=(bY rs).map fF:=by
 unfold hW oP;rw[Br];have:∀{es:↑(↑Av)} {ns:↑Av},↥es=↥ns->(es.zip ns).map (Ck ∘ λ(p:↑Av×Av)=>((fF p.1,W.str p.2):↑aC×W))=es.map fF:=by
  intro es
  induction es with
  | nil=>intro ns _;rfl
  | cons e es E=>
   intro ns h;cases ns with
   | nil=>cases h
   | cons n ns=>rw[Ii,Bi,Bi,E (by simpa using h)];rfl
 show this f.len.symm
def zcG(f:hZ rs):jA [] (hW rs)=hW rs:=by
 rw[J1]
 .simp
 .rw[Ho,J2 f,Hi,Gs];show(Hi.mp JQ).imp λh e=>h (AG e)
def zcH(f:hZ rs):((hW rs).map λp=>p.2)=(iS rs).map W.str:=by
 unfold hW oP;rw[Br];have:∀{es:↑(↑Av)} {ns:↑Av},↥es=↥ns->(es.zip ns).map ((λ(p:↑aC×W)=>p.2) ∘ λ(p:↑Av×Av)=>((fF p.1,W.str p.2):↑aC×W))=ns.map W.str:=by
  intro es
  induction es with
  | nil=>intro ns h;cases ns with|nil=>rfl|cons _ _=>cases h
  | cons e es E=>
   intro ns h;cases ns with
   | nil=>cases h
   | cons n ns=>rw[Ii,Bi,Bi,E (by simpa using h)];rfl
 show this f.len.symm
def sD(l:↑Av):(fF l).map wK=l.map W.str:=by
 unfold fF;rw[Br];rfl
def zcI(f:hZ rs):((hW rs).map λp=>W.tup (p.1.map wK))=(bY rs).map λe=>W.tup (e.map W.str):=by
 let e:((hW rs).map λp=>W.tup (p.1.map wK))=((hW rs).map Ck).map λk=>W.tup (k.map wK):=by rw[Br];rfl
 rw[e,J2 f,Br];show Ey λl _=>by change W.tup ((fF l).map wK)=_;rw[sD]
noncomputable def f0(rs:↑aD):Av:=(rs.headD #["",[],0]).name
noncomputable abbrev aX(l:↑(NP×W)):↑aD:=l.map λz=>kR z.1
def Ex(Q:NP×W->Prop)(l:↑(NP×W))(k:Nat)(S:NP->Prop)(n:↑(NP×W)):Prop:=∃q,n=l++q/\↥q<=k/\(∀z∈q,Q z)/\∀x,S x->x∈n.map Ck
def J3{i:Nat}(h:i<10000):dB (e9 i):=zaL (t:="M") (i:Int) (Rg i) (by lia) (by decide +kernel) (by decide +kernel) (by decide +kernel)
section
variable {l l1 l2:↑(NP×W)}{k j m:Nat}{S T U:NP->Prop}{Q Q':NP×W->Prop}
def Ex.len(h:Ex Q l k S l1):↥l1<=↥l+k:=by
 let#[q,rfl,h,_]:=h;rw[Ag];show Nm h _
def Ex.all{P:NP×W->Prop}(h:Ex Q l k S l1)(L:∀z∈l,P z)(Z:∀z,Q z->P z):∀z∈l1,P z:=by
 let#[q,rfl,_,h,_]:=h;show λz hz=>(Bb.mp hz).elim (L z) λw=>Z z (h z w)
def Ex.had(h:Ex Q l k S l1)(B:x∈l.map Ck\/S x):x∈l1.map Ck:=by
 let#[q,rfl,_,_,h]:=h;show B.elim (λz=>by rw[Ay];show Bf _ z) (h x)
def Ex.no(h:∀x,¬S x):Ex Q l k S l:=#[[],(Bn l).symm,Cr _,(λ_ h=>nomatch h),λx z=>(h x z).elim]
def Ex.cg(h:Ex Q l k S l1)(f:∀z,Q z->Q' z)(e:∀x,T x->S x):Ex Q' l k T l1:=by
 let#[q,L,Z,F,U]:=h;show#[q,L,Z,λz hz=>f _ (F z hz),λx B=>U x (e x B)]
def Ex.le(h:Ex Q l k S l1)(e:k<=j):Ex Q l j S l1:=by
 let#[q,L,Z,F]:=h;show#[q,L,Ar Z e,F]
def Ex.step{O:Type}{ys:↑O}{T:O->NP->Prop}{i:Nat}{y:O}(g:Ex Q l (k*i) (λx=>∃y∈ys.take i,T y x) l1)(h:ys[i]? = aa y)(b:Ex Q l1 k (T y) l2):Ex Q l (k*(i+1)) (λx=>∃y∈ys.take (i+1),T y x) l2:=by
 let#[q,rfl,Z,F,U]:=g;let#[p,rfl,t,v,Y]:=b;apply#[q++p,Bh ..,by rw[Ag];show Nat.add_le_add Z t,λz hz=>(Bb.mp hz).elim (F z) (v z),λx #[A,X,B]=>?_];rw[Ce,h]at X;rcases Bb.mp X with X|X
 .rw[Ay];show Bf _ (U x #[A,X,B])
 .rw[Ai.mp X]at B;show Y x B
def Ex.start{O:Type}{ys:↑O}{T:O->NP->Prop}:Ex Q l (k*0) (λx=>∃y∈ys.take 0,T y x) l:=.no λ_ #[_,h,_]=>nomatch h
def Ex.addT(x:NP)(v:W):Ex (λz=>z=(x,v)) l 1 (λy=>y=x) (addT l (x,v)):=by
 unfold L2.addT;split
 .rename_i h;show#[[],(Bn l).symm,Cr _,(λ_ h=>nomatch h),λy e=>by rw[e];show h]
 .show#[_,rfl,Aj _,λz hz=>Ai.mp hz,λy e=>by rw[e,Ay];show Bm _ (.head _)]
def Ex.one{x:NP}{v:W}(h:Ex (λz=>z=(x,v)) l 1 (λy=>y=x) l1)(n:x∉l.map Ck):l1=l++[(x,v)]:=by
 let#[q,rfl,L,Z,F]:=h
 match q,L,Z with
 | [],_,_=>show absurd (by simpa using F x rfl) n
 | [z],_,Z=>rw[Z z (.head _)]
 | _::_::_,L,_=>show absurd (Mo L) (by simp)
def J4(h:rs≠[]):(namesOf rs)[0]? = aa (f0 rs):=by
 let#[r,rs,rfl]:=Fx h;have:∀(ts acc:↑Av),(r.name::acc) <+: ts.foldl cZ (r.name::acc):=by
  intro ts
  induction ts with
  | nil=>show λ_=>List.prefix_rfl
  | cons t ts E=>
   intro acc;rw[Hq];unfold cZ;split
   .show E acc
   .show List.IsPrefix.trans (List.prefix_append _ _) (E (acc++[t]))
 let#[q,hq]:=this (rs.map aD.name) [];unfold namesOf lP;rw[Bi,Hq,show cZ [] r.name=[r.name] from rfl,<-hq];rfl
def Hd(F:Av)(p:Prop)(l:↑(NP×W)):Prop:=p->∃z t,l=z::t/\z.1.1=F
def Hd.ex{p:Prop}(h:Hd F p l)(e:Ex Q l k S l1):Hd F p l1:=λN=>by
 let#[z,t,rfl,L]:=h N;let#[q,rfl,_]:=e;show#[z,_,rfl,L]
def Hd.f0(h:Hd F True l):f0 (aX l)=F:=by
 let#[z,t,rfl,L]:=h trivial;show L
def Hd.of{p:Prop}(h:Ex Q [] k S l1)(X:∀z,Q z->z.1.1=F)(N:p->∃x,S x):Hd F p l1:=λh'=>by
 let#[x,B]:=N h';let#[q,e,_,K,T]:=h;rw[Ho]at e;cases l1 with
 | nil=>cases T x B
 | cons z t=>show#[z,t,rfl,X _ (K z (e▸.head _))]
end
noncomputable abbrev gB(n:Nat)(us:↑W):W:=.tup [.int n,.tup us]
noncomputable abbrev vT(T:W):W:=.tup [.str "whole",T]
inductive RT(nm:Av->Bool)(rs:↑aD):Nat->↑Av->↑W->↑Av->Prop
 | nil {h:Nat}:RT nm rs h [] [] []
 | word {h:Nat} {t:Av} {ps row:↑Av} {ws:↑W}:nm t=ac->RT nm rs h ps ws row->RT nm rs h (t::ps) (.str t::ws) (t::row)
 | knot {h k n:Nat} {r:aD} {us ws:↑W} {ps a b:↑Av}:nm r.name=ab->rs[n]? = aa r->h+1<=k->RT nm rs h r.parts us a->RT nm rs k ps ws b->RT nm rs k (r.name::ps) (gB n us::ws) (a++b)
section
variable {nm:Av->Bool}{rs:↑aD}{sem:Av->↑Av}
def RT.app{h:Nat}(x:RT nm rs h ps ws a)(k:RT nm rs h qs us b):RT nm rs h (ps++qs) (ws++us) (a++b):=by
 induction x with
 | nil=>show k
 | word h _ E=>show .word h (E k)
 | knot L Z v F _ _ E=>rw[Bh];show .knot L Z v F (E k)
def RT.mono{h k:Nat}(x:RT nm rs h ps ws a)(hk:h<=k):RT nm rs k ps ws a:=by
 induction x with
 | nil=>show .nil
 | word h _ E=>show .word h (E hk)
 | knot L Z v F _ _ E=>show .knot L Z (Ar v hk) F (E hk)
def RT.len{h:Nat}(x:RT nm rs h ps ws a):↥ws=↥ps:=by
 induction x with
 | nil=>rfl
 | word _ _ E=>show congrArg (· + 1) E
 | knot _ _ _ _ _ _ E=>show congrArg (· + 1) E
end
inductive Pt(rows:↑(↑W)):Nat->↑W->↑W->Prop
 | nil {d:Nat}:Pt rows d [] []
 | slot {d k:Nat} {r ps out:↑W}:rows[k]? = aa r->Pt rows d ps out->Pt rows d (.int k::ps) (r++out)
 | whole {d:Nat} {T:W} {ps out:↑W}:Pt rows d ps out->Pt rows d (vT T::ps) (T::out)
 | knot {d n:Nat} {us ps a b:↑W}:↥a<=100->Pt rows d us a->Pt rows (d+1) ps b->Pt rows (d+1) (gB n us::ps) (gB n a::b)
def Pt.mono{d e:Nat}(h:Pt rows d ps out):d<=e->Pt rows e ps out:=by
 induction h generalizing e with
 | nil=>show λ_=>.nil
 | slot h _ E=>show λl=>.slot h (E l)
 | whole _ E=>show λl=>.whole (E l)
 | knot h _ _ c Q=>
  intro l;cases e with
  | zero=>cases l
  | succ e=>show .knot h (c (Mo l)) (Q l)
inductive Pf(nm:Av->Bool)(rs:↑aD)(sem:Av->↑Av)(H:Nat):Nat->Nat->↑W->↑Av->↑Av->Prop
 | nil {d k:Nat}:Pf nm rs sem H d k [] [] []
 | slot {d k:Nat} {pcs:↑W} {p:Av} {parts ps:↑Av}:Pf nm rs sem H d (k+1) pcs parts ps->Pf nm rs sem H d k (.int k::pcs) (p::parts) (sem p++ps)
 | whole {d k:Nat} {T:W} {pcs:↑W} {X:Av} {parts ps:↑Av}:RT nm rs H [X] [T] []->Pf nm rs sem H d k pcs parts ps->Pf nm rs sem H d k (vT T::pcs) parts (X::ps)
 | knot {d k n:Nat} {r:aD} {us pcs:↑W} {pa pb ps:↑Av}:nm r.name=ab->rs[n]? = aa r->↥r.parts<=100->Pf nm rs sem H d k us pa r.parts->Pf nm rs sem H (d+1) (k+↥pa) pcs pb ps->Pf nm rs sem H (d+1) k (gB n us::pcs) (pa++pb) (r.name::ps)
inductive Vs(nm:Av->Bool)(rs:↑aD)(sem:Av->↑Av)(h:Nat):↑Av->↑(↑W)->↑Av->Prop
 | nil:Vs nm rs sem h [] [] []
 | cons {p:Av} {ps a b:↑Av} {r:↑W} {rows:↑(↑W)}:RT nm rs h (sem p) r a->Vs nm rs sem h ps rows b->Vs nm rs sem h (p::ps) (r::rows) (a++b)
section
variable {nm:Av->Bool}{rs:↑aD}{sem:Av->↑Av}{H h:Nat}
def Vs.split:∀{rows:↑(↑W)} {w:↑Av},Vs nm rs sem h (z++l) rows w->∃i rb q wb,rows=i++rb/\w=q++wb/\↥i=↥z/\Vs nm rs sem h z i q/\Vs nm rs sem h l rb wb:=by
 induction z with
 | nil=>show λh=>#[[],_,[],_,rfl,rfl,rfl,.nil,h]
 | cons p z E=>
  intro rows w h;cases h with
  | cons x h=>
   let#[i,rb,q,wb,rfl,rfl,e,L,Z]:=E h;show#[_::i,rb,_++q,wb,rfl,by rw[Bh],congrArg (· + 1) e,.cons x L,Z]
def Pf.run{d k:Nat}(x:Pf nm rs sem H d k s parts ps)(B:H<=h):∀{pre rows post:↑(↑W)} {w:↑Av},↥pre=k->Vs nm rs sem h parts rows w->∃out,Pt (pre++rows++post) d s out/\RT nm rs (h+d) ps out w:=by
 induction x with
 | nil=>
  intro pre rows post w _ v;cases v;show#[[],.nil,.nil]
 | @slot d k s p parts ps _ E=>
  intro pre rows post w e v;cases v with
  | @cons _ _ a b r rows x v=>
   let#[out,L,Z]:=E (pre:=pre++[r]) (rows:=rows) (post:=post) (by rw[Ag,e];rfl) v;let J:pre++[r]++rows++post=pre++r::rows++post:=by simp
   rw[J]at L;show#[r++out,.slot (by subst e;simp) L,(x.mono (Jm _ _)).app Z]
 | @whole d k T s X parts ps t _ E=>
  intro pre rows post w e v;let#[out,L,Z]:=E (post:=post) e v;show#[_::out,.whole L,(t.mono (Ar B (Jm _ _))).app Z]
 | @knot d k n r us s z l ps P G hl _ _ c Q=>
  intro pre rows post w e v;let#[i,rb,q,wb,rfl,rfl,el,o,F]:=v.split;let#[m,f,g]:=c (post:=rb++post) e o;let#[A,V,j]:=Q (pre:=pre++i) (post:=post) (by rw[Ag,e,el]) F;rw[show pre++i++(rb++post)=pre++(i++rb)++post by simp]at f;rw[show pre++i++rb++post=pre++(i++rb)++post by simp]at V;show#[_,.knot (by rw[g.len];show hl) f V,.knot P G (Aj _) g j]
end
inductive Bk(backs:↑(↑W))(d:Nat):↑W->↑(↑W)->Prop
 | nil:Bk backs d [] []
 | word {t:Av} {ws:↑W} {rows:↑(↑W)}:Bk backs d ws rows->Bk backs d (.str t::ws) ([.str t]::rows)
 | knot {n:Nat} {pcs us out ws:↑W} {r1 rows:↑(↑W)}:backs[n]? = aa pcs->Bk backs d us r1->Pt r1 d pcs out->↥out<=100->Bk backs d ws rows->Bk backs d (gB n us::ws) (out::rows)
def RT.back{H h d:Nat}{nm:Av->Bool}{sem:Av->↑Av}(hw:∀t,nm t=ac->sem t=[t])(hl:∀t,↥(sem t)<=100)(hf:∀(n:Nat) (r:aD),ts[n]? = aa r->∃s,backs[n]? = aa s/\Pf nm rs sem H d 0 s r.parts (sem r.name))(x:RT nm ts h ps ws row):∃rows,Bk backs d ws rows/\Vs nm rs sem (H+d*h) ps rows row:=by
 induction x with
 | nil=>show#[[],.nil,.nil]
 | @word h t ps row ws ht _ E=>
  let#[rows,L,Z]:=E;show#[_,.word L,.cons (a:=[t]) (by rw[hw t ht];show .word ht .nil) Z]
 | @knot h k n r us ws ps a b _ G hk _ _ c Q=>
  let#[l,i,g]:=c;let#[rows,V,j]:=Q;let#[s,e,f]:=hf _ _ G;let#[out,L,Z]:=f.run (h:=H+d*h) (Jm _ _) (pre:=[]) (post:=[]) rfl g;rw[Ho,Bn]at L;have:=Fo d hk;rw[Nat.mul_add,Nat.mul_one]at this;show#[_,.knot e i L (by rw[Z.len];show hl _) V,.cons (Z.mono (by lia)) j]
section
variable {nm:Av->Bool}{rs:↑aD}{sem:Av->↑Av}{H:Nat}
def Pf.app{d k:Nat}(h:Pf nm rs sem H d k a z e):Pf nm rs sem H d (k+↥z) b l c->Pf nm rs sem H d k (a++b) (z++l) (e++c):=by
 induction h with
 | nil=>show id
 | @slot d k s p parts ps _ E=>
  intro g;rw[Bh];show .slot (E (by rw[Bq,Uu ↥parts 1,<-Lo]at g;show g))
 | whole t _ E=>show λg=>.whole t (E g)
 | @knot d k n r us s z l ps L Z v F _ _ E=>
  intro g;rw[Bh];show .knot L Z v F (E (by rw[Ag,<-Lo]at g;show g))
theorem Pf.slots{d:Nat}:∀(parts:↑Av) (k:Nat),Pf nm rs sem H d k ((List.range' k ↥parts).map λi=>.int (i:Nat)) parts (parts.flatMap sem)
 | [],_=>.nil
 | p::parts,k=>.slot (Pf.slots parts (k+1))
def J5{ps:↑Av}(h:∀p∈ps,sem p=[p]):ps.flatMap sem=ps:=by
 induction ps with
 | nil=>rfl
 | cons p ps E=>rw[Mj,h p (Bw ..),E λq hq=>h q (Bp _ hq)];rfl
def Pf.one{d k n:Nat}(L:nm r.name=ab)(Z:rs[n]? = aa r)(v:↥r.parts<=100)(F:Pf nm rs sem H d k us z r.parts):Pf nm rs sem H (d+1) k [gB n us] z [r.name]:=by
 have:=Pf.knot L Z v F (.nil (k:=k+↥z));rwa [Bn]at this
def Pf.mono{d e k:Nat}(h:Pf nm rs sem H d k s z ps):d<=e->Pf nm rs sem H e k s z ps:=by
 induction h generalizing e with
 | nil=>show λ_=>.nil
 | slot _ E=>show λl=>.slot (E l)
 | whole t _ E=>show λl=>.whole t (E l)
 | knot L Z v _ _ c Q=>
  intro l;cases e with
  | zero=>cases l
  | succ e=>show .knot L Z v (c (Mo l)) (Q l)
end
def Hg:Nat->W->Prop
 | 0,_=>False
 | h+1,w=>(∃t,w=.str t)\/∃n us,w=gB n us/\↥us<=4/\∀u∈us,Hg h u
theorem Hg.mono:∀{h k:Nat} {w:W},Hg h w->h<=k->Hg k w
 | 0,_,_,x,_=>x.elim
 | _+1,0,_,_,l=>nomatch l
 | _+1,_+1,_,.inl x,_=>.inl x
 | _+1,_+1,_,.inr #[n,us,e,l,f],z=>.inr #[n,us,e,l,λu C=>(f u C).mono (Mo z)]
def RT.hg{nm:Av->Bool}{h:Nat}(x:RT nm rs h ps ws a)(S:∀r∈rs,↥r.parts<=4):∀w∈ws,Hg (h+1) w:=by
 induction x with
 | nil=>show λ_ h=>nomatch h
 | word _ _ E=>show λw hw=>(Ax.mp hw).elim (λz=>.inl #[_,z]) (E w)
 | @knot h k n r us ws ps a b _ G hk C _ c Q=>
  apply λw hw=>(Ax.mp hw).elim (λz=>?_) (Q w);let#[j,rfl]:=Nat.exists_eq_add_of_le hk;show .inr #[n,us,z,by rw[C.len];show S r (Au G),λu C=>(c u C).mono (by lia)]
inductive Fn(d:Nat)(backs:↑(↑W))(out:↑W):Nat->↑(W×Bool)->↑(↑W)->Prop
 | done:Fn d backs out 0 [] [out]
 | word {m:Nat} {S:↑(W×Bool)} {T:↑(↑W)} {t:Av}:↥T<=5000000->Fn d backs out m S (T++[[.str t]])->Fn d backs out (m+1) (S++[(.str t,ac)]) T
 | down {m n:Nat} {S:↑(W×Bool)} {T:↑(↑W)} {us:↑W}:↥S+↥us<=5000000->Fn d backs out m (S++[(gB n us,ab)]++us.reverse.map λu=>(u,ac)) T->Fn d backs out (m+1) (S++[(gB n us,ac)]) T
 | up {m n:Nat} {S:↑(W×Bool)} {T rows:↑(↑W)} {us pcs o:↑W}:↥T<=5000000->↥rows=↥us->↥us<=100->backs[n]? = aa pcs->Pt rows d pcs o->↥o<=100->Fn d backs out m S (T++[o])->Fn d backs out (m+1) (S++[(gB n us,ab)]) (T++rows)
def Bk.len{d:Nat}(h:Bk backs d ws rows):↥rows=↥ws:=by
 induction h with
 | nil=>rfl
 | word _ E=>show congrArg (· + 1) E
 | knot _ _ _ _ _ _ E=>show congrArg (· + 1) E
def Bk.fn{d:Nat}(x:Bk backs d ws rows):∀{h m:Nat} {S:↑(W×Bool)} {T:↑(↑W)},(∀w∈ws,Hg h w)->↥S+↥ws+5*h<=5000000->↥T+↥ws+5*h<=5000000->Fn d backs out m S (T++rows)->∃q,Fn d backs out q (S++ws.reverse.map λu=>(u,ac)) T:=by
 induction x with
 | nil=>
  intro h m S T _ _ _ f;rw[Bn]at f;show#[m,by rw[List.reverse_nil,Np,Bn];show f]
 | @word t ws rows _ E=>
  intro h m S T hg O H f;rw[Bq]at O H;let#[q,g]:=E (S:=S) (T:=T++[[.str t]]) (λw hw=>hg w (Bp _ hw)) (by lia) (by rw[Ag,Bz];lia) (by rw[Bh];show f);apply#[q+1,?_];rw[Kd,Ay,<-Bh];show .word (by lia) g
 | @knot n s us o ws l rows Y L N D _ c Q=>
  intro h m S T hg O H f;rw[Bq]at O H;let#[q,g]:=Q (S:=S) (T:=T++[o]) (λw hw=>hg w (Bp _ hw)) (by lia) (by rw[Ag,Bz];lia) (by rw[Bh];show f);cases h with
  | zero=>show(hg _ (Bw ..)).elim
  | succ h=>
   rcases hg _ (Bw ..) with⟨_,z⟩|⟨M,J,z,hl,C⟩
   .cases z
   .cases z;let a:↥(S++ws.reverse.map λu=>(u,ac))=↥S+↥ws:=by rw[Ag,Ab,Ds]
    let#[m2,G]:=c C (by rw[Ag,a,Bz];lia) (by lia) (Fn.up (by lia) L.len (Ar hl ∅) Y N D g);apply#[m2+1,?_];rw[Kd,Ay,<-Bh];show .down (by rw[a];lia) G
def Bk.start{d:Nat}{h:Nat}(x:Bk backs d [w] [o])(hg:Hg h w)(hh:h<=900000):∃m,Fn d backs o m [(w,ac)] []:=x.fn (S:=[]) (T:=[]) (λu C=>by rw[Ai.mp C];show hg) (by change 0+1+5*h<=_;lia) (by change 0+1+5*h<=_;lia) .done
inductive Th(keep drop:Av->Bool):↑Av->↑Av->Prop
 | nil:Th keep drop [] []
 | kp {t:Av} {ps l:↑Av}:keep t=ab->Th keep drop ps l->Th keep drop (t::ps) (t::l)
 | dr {t:Av} {ps l:↑Av}:drop t=ab->Th keep drop ps l->Th keep drop (t::ps) l
section
variable {keep drop:Av->Bool}{E:Av->W}{ps l:↑Av}
theorem J6:∀{ps l:↑Av} {told:↑hV},(∃x∈ps.foldl (gT keep drop E) told,x.1=l)↔∃y∈told,∃q,l=y.1++q/\Th keep drop ps q
 | [],l,told=>#[λg=>by let#[x,h,e]:=g;show#[x,h,[],by rw[Bn,e],.nil],λY=>by let#[y,h,q,e,k]:=Y;show#[y,h,by cases k;rw[e,Bn]]]
 | t::ps,l,told=>by
  rw[Hq,J6];unfold gT;constructor
  .rintro⟨y,O,q,rfl,k⟩;rcases Bb.mp O with O|O<;>split at O
   .rename_i h;let#[z,hz,rfl]:=Ao.mp O;show#[z,hz,t::q,Bh ..,.kp h k]
   .cases O
   .rename_i h;let#[z,hz,rfl]:=Ao.mp O;show#[z,hz,q,rfl,.dr h k]
   .cases O
  .rintro⟨y,O,q,rfl,k⟩;cases k with
   | kp h k=>show#[_,Bf _ (by rw[Xb h];show Ao.mpr #[y,O,rfl]),_,by simp,k]
   | dr h k=>show#[(y.1,y.2++[W.tup [.str "whole",E t]]),Bm _ (by rw[Xb h];show Ao.mpr #[y,O,rfl]),_,rfl,k]
def AJ:(∃x∈kO keep drop E ps,x.1=l)↔Th keep drop ps l:=by
 unfold kO;rw[J6];show#[λ#[y,h,q,e,k]=>by rw[Ai.mp h]at e;rw[e];show k,λk=>#[_,Ai.mpr rfl,_,rfl,k]]
def Th.len(h:Th keep drop ps l):↥l<=↥ps:=by
 induction h with
 | nil=>show Aj _
 | kp _ _ E=>show Ep E
 | dr _ _ E=>show Rx E
def Th.sub(h:Th keep drop ps l):∀t∈l,t∈ps/\keep t=ab:=by
 induction h with
 | nil=>show λ_ h=>nomatch h
 | kp k _ E=>
  intro t ht;rcases Ax.mp ht with rfl|ht
  .show#[.head _,k]
  .show#[.tail _ (E t ht).1,(E t ht).2]
 | dr _ _ E=>show λt ht=>#[.tail _ (E t ht).1,(E t ht).2]
theorem Th.all:∀{ps:↑Av},(∀t∈ps,keep t=ab\/drop t=ab)->∃l,Th keep drop ps l/\∀t∈ps,keep t=ab->t∈l
 | [],_=>#[[],.nil,λ_ h=>nomatch h]
 | t::ps,h=>by
  let#[l,k,m]:=Th.all λt ht=>h t (.tail _ ht);cases e:keep t with
  | true=>show#[_,.kp e k,λp S hk=>(Ax.mp S).elim (λz=>z▸.head _) λz=>.tail _ (m p z hk)]
  | false=>show#[_,.dr ((h t (.head _)).resolve_left λz=>by rw[e]at z;cases z) k,λp S hk=>(Ax.mp S).elim (λz=>by rw[z,e]at hk;cases hk) λz=>m p z hk]
end
section
variable {rs:↑aD}{D:↑Av}{drop:Av->Bool}
def vU(h:rs≠[]):∃r∈rs,r.name=f0 rs:=by
 cases rs with
 | nil=>show absurd rfl h
 | cons r rs=>show#[r,.head _,rfl]
theorem J7{nm:Av->Bool}{sem:Av->↑Av}{H d:Nat}{keep drop:Av->Bool}{E:Av->W}(j:∀t,drop t=ab->RT nm rs H [t] [E t] []):∀{ps qs:↑Av} {told:↑hV} {y:hV},(∀t∈ps,sem t=[t])->(∀x∈told,Pf nm rs sem H d 0 x.2 x.1 qs)->y∈ps.foldl (gT keep drop E) told->Pf nm rs sem H d 0 y.2 y.1 (qs++ps)
 | [],qs,told,y,_,h,O=>by rw[Bn];show h y O
 | t::ps,qs,told,y,F,h,O=>by
  rw[Sl];apply J7 j (λu C=>F u (.tail _ C)) (λx B=>?_) O;unfold gT at B;rcases Bb.mp B with B|B<;>split at B
  .let#[z,hz,rfl]:=Ao.mp B;have:=Pf.app (h z hz) (b:=[.int ((0+↥z.1:Nat):Int)]) (.slot (p:=t) .nil);rw[Bn,F t (.head _),Nv]at this;show this
  .cases B
  .rename_i hd;let#[z,hz,rfl]:=Ao.mp B;have:=Pf.app (h z hz) (.whole (j t hd) .nil);rw[Bn]at this;show this
  .cases B
def h9(rs:↑aD)(D:↑Av)(drop:Av->Bool)(X:Av)(l:↑Av):Prop:=∃r∈rs,r.name=X/\Th (cM rs D) drop r.parts l/\l≠[]/\l≠[X]
def J8(d:Wd rs D)(E:gS rs D=D)(hd:∀t,drop t=ab↔fE rs ac t)(K:X∈D):∃l,h9 rs D drop X l:=by
 let#[r,G,en,hf,p,S,N,hw]:=d.why X K;let#[l,L,Z]:=Th.all (keep:=cM rs D) (drop:=drop) λt ht=>(zct E (hf t ht)).imp_right (hd t).mpr;let y:=Z p S (by unfold cM;rcases hw with z|z;rw[Xd z];rfl;rw[z];show Nr _);show#[l,r,G,en,L,(λe=>by rw[e]at y;cases y),λe=>by rw[e]at y;show N (Ai.mp y)]
end
def vV:a8:=λws M R=>∃rs:↑aD,ws=[bE rs]/\↥rs<=20000/\aR (rs.map λ_=>W.int 0) M R
noncomputable abbrev zcJ:↑Av:=["grammar"]
abbrev zcK:aE:=
   (bH (d8 (cA dH aG) (a6 0) eU bM [ae]))
def zcL:bK vV zcK zcJ:=by
 rintro _ M R ⟨rs,rfl,hl,r⟩;apply(mU (rest:=[]) (λ_=>.int 0) (small (by rw[Ab];lia)) (λ_ _=>trivial) (λw hw V C sb L=>L) ?_)
 .intro p S;apply#[_,aZ,?_];let e:(rs.map bX).map (λ_=>W.int 0)=rs.map λ_=>W.int 0:=by rw[Br];rfl
  rw[e];show r p S
def J9:a8:=λws M R=>∃(rs:↑aD) (U:↑Av),ws=[bE rs]/\↥rs<=20000/\↥U<64/\vN rs U/\∀ss:↑Av,vN rs ss->ss.Nodup->(∀t∈ss,t∈U)->R (.rl (ss.map W.str)) M
def AK:a8:=λws M R=>∃rs:↑aD,ws=[bE rs]/\GL rs/\∀kvs:↑(aC×W),(∀X:Av,(aM kvs (Sum.inr X:aC)).isSome=lQ rs ab X)->i4 kvs M R
noncomputable abbrev zcM:↑Av:=["grammar","own","found","rule","part"]
abbrev zcN:aE:=
   (aQ 1 (aS lU (aA (bP (aS jF (aA aG aB))) aB)))
abbrev zcO:aE:=
   (aQ 2 uH)
abbrev zcP:aE:=
   (dG (cA dH (vX bB bC)) (a6 4)
    (b9 (bU (aH (cL ab) bG aN))
    (fX (vC (.bl ab)) (i8 aT bG))
    cS))
abbrev zcQ:aE:=
   (dG (cA dH aG) (a6 3) zcP)
abbrev zcR:aE:=
   (bH (a7 GU (aA (bP aT) aB)))
abbrev zcS:aE:=(aF zcN (aF zcO (aF zcQ zcR)))
noncomputable abbrev zcT:↑Av:=["grammar","steps","best"]
abbrev zcU(C:Cc):aE:=
   (aQ 1 (bP (a7 zY (aA (bP (d8 (cA dH (aS J9 (aA aG aB))) (a6 0) eU (bA (aA (bA (aA aG (aA bM aB))) (aA (gA (aA (bA (aA bM (aA bC aB))) aB)) aB))) [ae])) aB))))
abbrev zcV(C:Cc):aE:=
   (bH (a7 yZ (aA (bP (d8 (cA r9 aT) (a6 0) eU (bA (aA (vX aG bM) (aA (vX (vX (vX aN aG) bM) bM) aB))) [ae,aa 2])) aB)))
abbrev zcW(C:Cc):aE:=(aF (zcU C) (aF (aQ 2 (pZ (aS (zQ C) (aA aG (aA (gA (aA bM aB)) (aA aN (aA (bP (aS vV (aA aG aB))) aB))))))) (zcV C)))
def sE(ts:↑Av)(n:Av):(aM (ts.map cE) (Sum.inr n:aC)).isSome=decide (n∈ts):=by
 induction ts with
 | nil=>rfl
 | cons t ts ih=>
  unfold aM at ih⊢;rw[Bi,Ee]
  by_cases h:t=n
  .subst h;simp[cE]
  .rw[show decide ((cE t).1=(Sum.inr n:aC))=ac by simp[cE,h]];rw[ih];let h2:¬n=t:=λe=>h e.symm;simp[h2]
def lX(rs:↑aD)(t:Av):(aM (ownOf rs) (Sum.inr t:aC)).isSome=ownB rs t:=by
 unfold ownOf ownB;rw[sE,Fd];simp only[decide_eq_true_eq];rw[u5];simp
def zcX:bK J9 zcS zcM:=by
 rintro _ M R ⟨rs,U,rfl,hl,hU,aU,r⟩;apply#[rs,rfl,Ar hl ∅,aR.frz ?_];apply#[namesOf rs,rfl,by have:=z9 rs;lia,?_];obtain⟨ow,how⟩:∃ow,ow=(((namesOf rs).foldl cZ []).map cE):=#[_,rfl];let lo:∀t,(aM ow (Sum.inr t:aC)).isSome=ownB rs t:=λt=>by rw[how];show lX rs t
 rw[<-how];apply λp hp=>?_;apply mY (λi τ M'=>∃(ss:↑Av) (o3 o4:Option W),τ=[aa (.rl (rs.map bX)),aa (.dk ow),aa (.ref p),o3,o4]/\M'=put M p (.dK (ss.map cE))/\ss.Nodup/\(∀t∈ss,t∈U)/\∀q∈rs.take i,∀t∈q.parts,ownB rs t=ac->t∈ss) #[[],_,_,rfl,rfl,Fh,by simp,by simp] ?_ ?_
 .rintro i w τ M' hw ⟨ss,o3,o4,rfl,rfl,nd,hsU,hin⟩;rw[Az]at hw;let#[q,hq,rfl]:=Bd.mp hw;apply ?_;apply mY (ws:=q.parts.map W.str) (λj τ M'=>∃(s2:↑Av) (o4:Option W),τ=[aa (.rl (rs.map bX)),aa (.dk ow),aa (.ref p),aa (bX q),o4]/\M'=put M p (.dK (s2.map cE))/\s2.Nodup/\(∀t∈s2,t∈U)/\(∀t∈ss,t∈s2)/\∀t∈q.parts.take j,ownB rs t=ac->t∈s2) #[ss,_,rfl,rfl,nd,hsU,λ_ h=>h,by simp] ?_ ?_
  .rintro j w τ M' hw ⟨s2,o4,rfl,rfl,nd2,hsU2,hs2,hin2⟩;rw[Az]at hw;let#[t,ht,rfl]:=Bd.mp hw;apply#[_,#[Sum.inr t,rfl,rfl],?_];change if (!(aM ow (Sum.inr t:aC)).isSome)=ab then _ else _;rw[lo t];cases ho:ownB rs t with
   | true=>
    apply#[_,aZ,s2,_,rfl,rfl,nd2,hsU2,hs2,λx hx hox=>?_];rw[AA ht]at hx;rcases Bb.mp hx with z|z
    .show hin2 x z hox
    .rw[Ai.mp z,ho]at hox;cases hox
   | false=>
    let hl2:↥s2<=↥U:=len_sub nd2 hsU2;apply(uU aK (by rw[Ab];show dA (by lia)) #[_,aZ,cZ s2 t,_,rfl,by rw[cF,vE],zZ nd2,λx hx=>?_,λx hx=>kL.mpr (.inl (hs2 x hx)),λx hx hox=>?_])
    .rcases kL.mp hx with z|z
     .show hsU2 x z
     .rw[z];show aU q (Au hq) t (Au ht) ho
    .rw[AA ht]at hx;rcases Bb.mp hx with z|z
     .show kL.mpr (.inl (hin2 x z hox))
     .show kL.mpr (.inr (by simpa using z))
  .rintro τ M' ⟨s2,o4,rfl,rfl,nd2,hsU2,hs2,hin2⟩;rw[Ab,Cb]at hin2;apply#[_,aZ,s2,_,_,rfl,rfl,nd2,hsU2,λx hx t ht ho=>?_];rw[AA hq]at hx;rcases Bb.mp hx with z|z
   .show hs2 t (hin x z t ht ho)
   .rw[Ai.mp z]at ht;show hin2 t ht ho
 .rintro τ M' ⟨ss,o3,o4,rfl,rfl,nd,hsU,hin⟩;rw[Ab,Cb]at hin;apply(EW hp ?_);let hl2:↥ss<=↥U:=len_sub nd hsU;apply#[ss,by rw[Br];rfl,by lia,λs3 hperm=>#[_,aZ,r s3 (λq hq t ht ho=>hperm.mem_iff.mpr (hin q hq t ht ho)) (hperm.nodup_iff.mpr nd) λt ht=>hsU t (hperm.mem_iff.mp ht)]]
section
variable {X:Cx}{a:Cm}{ta:TA}{p p2 pos pos2:Ih}
def zcY(ta:TA):TE:=λG H Q=>ta G H λvs B=>∃n:Nat,vs=[.int n]/\n<=1000/\∀q,B q=ae->Q (.ref q) (aL B q (.lst ((Cf n).map λ(i:Nat)=>V.int i)))
def zcZ(hc:X.calm=ab)(hg:Gl X "list")(hm:X.mg "list" = ae)(hg2:Gl X "range")(hm2:X.mg "range" = ae)(ha:PA X [a] ta)(hs1:Cg [.Call (.Name "range" p2) [a] [] pos2] X.env=[(ac,El (.Call (.Name "range" p2) [a] [] pos2) X.env)]:=by rfl)(hs2:Cg [a] X.env=[(ac,El a X.env)]:=by rfl):
  PE X (.Call (.Name "list" p) [.Call (.Name "range" p2) [a] [] pos2] [] pos) (zcY ta):=by
 intro af s Z H Q I h;apply Dy (fP I hg hm (by decide +kernel:Cz "list" = aa (.type "list")) (Bx ?_ hs1 rfl));rw[hs1];apply Jp (Dy (fP I hg2 hm2 (by decide +kernel:Cz "range" = aa (.type "range")) (Bx (aV (ha pos2 af s Z H _ I h) λus s1 z0=>?_) hs2 rfl)));let#[vs,H1,I1,r1,q1]:=z0;let#[n,rfl,hn,q]:=q1;let#[u,rfl,ru]:=vals1 r1;let#[t,rfl]:=ru;apply Vq (Jz ?_);let sz:Iv 0 (n:Int) 1=(n:Nat):=by rw[Uz];split<;>lia
 apply call_list_range (n:=n) (b:=(n:Int)) (I1.ok.hd hc) (Uh _ _ _ _ _ _ _) (PySem.small_one ∅ ∅ (by lia) (by lia)) sz (by lia) λh' tk acc c hk hS hacc=>?_;let up:∀b o,s1.heap.get? b=aa o->h'.get? b=aa o:=λb o e=>hk b o (Af _ e);let ez:(s1.heap.push {cls:=.type "range",data:=.fields [.int 0 0,.int (n:Int) t,.int 1 0].toArray}).objs.size=⇑s1+1:=Es _ _;apply#[.ref _,_,I1.laid (o:=.lst ((Cf n).map λ(i:Nat)=>V.int i)) (t':=tk) up ?_ #[by simp[Le];lia,acc.toList,c,?_,by rw[Hb];show hS],rfl,q _ (I1.hok.fresh ?_)]
 .first|exact Ie (Nat.lt_of_lt_of_eq (Fl _) (Es _ _).symm)|(rw[Es];exact Ht _)
 .apply oZ (by simp[hacc.1]) λj v hv=>?_;let hv':acc[j]? = aa v:=by simpa using hv
  let#[t',rfl]:=hacc.2 j v hv';let hj:j<n:=by have:=(Ig.mp hv').1;rw[hacc.1]at this;show this
  apply#[.int j,?_,t',by simp];simp[hj]
 .first|exact Ie (Nat.lt_of_lt_of_eq (Fl _) (Es _ _).symm)|(rw[Es];exact Ht _)
end
section
variable {X:Cx}{a:Cm}{ta:aP}
def KA(ta:aP):aP:=λU M R=>ta U M λw I=>∃n:Nat,w=.int n/\n<=1000/\aR ((Cf n).map λ(i:Nat)=>W.int i) I R
def zc0(hg:Gl X "list")(N:X.mg "list" = ae)(m:Gl X "range")(x:X.mg "range" = ae)(T:E3 X a ta)(hc:X.calm=ab:=by rfl)(u:Cg [.Call (.Name "range" p2) [a] [] pos2] X.env=[(ac,El (.Call (.Name "range" p2) [a] [] pos2) X.env)]:=by rfl)(f:Cg [a] X.env=[(ac,El a X.env)]:=by rfl):
  E3 X (.Call (.Name "list" p) [.Call (.Name "range" p2) [a] [] pos2] [] pos) (KA ta):=
 (zcZ hc hg N m x (n6 T pD (f.trans rfl)) u f).weak λG H Q g=>g.el λU M R as O h k=>#[U,M,λws I=>∃n:Nat,ws=[.int n]/\n<=1000/\aR ((Cf n).map λ(i:Nat)=>W.int i) I R,as,O,(show aA ta aB U M _ from(show ta U M _ from by
  apply(id h:ta U M _) |> λz=>?_
  show Eq.mp (congrArg (ta U M) (funext λw=>funext λI=>propext #[λ#[n,e,r]=>#[n,by rw[e],r],λ#[n,e,r]=>#[n,(Kn e).1,r]])) z)),λvs B ws I s j d #[n,e,P,r]=>by
  subst e;let#[v,rfl,av]:=d.one;obtain rfl:=av.inv;apply#[n,rfl,P,λq hq=>gJ j (k.kp s) hq ?_ r];have:∀l:↑Nat,aJ X.K B I (l.map λ(i:Nat)=>V.int i) (l.map λ(i:Nat)=>W.int i):=by
   intro l
   induction l with
   | nil=>show .nil
   | cons i r E=>show .cons (.int _) E
  show this _]
end
noncomputable abbrev nF(row:↑Av):W:=.rl (row.map W.str)
noncomputable def iH(fs:↑cD):↑(↑aC×W):=fs.map λf=>(fK f,.bl ab)
noncomputable def j6(row:↑Av):↑(↑aC×W):=(row.zipIdx).map λx=>([Sum.inr x.1,Sum.inl (x.2:Int)],.rl [.tup [.int ((x.2:Int)+1),.int 0]])
def KC:a8:=λws M R=>∃row:↑Av,ws=[nF row]/\↥row<=60/\aR ((Cf (↥row+1)).map λ(i:Nat)=>W.int i) M R
def KD:a8:=λws M R=>∃row:↑Av,ws=[nF row]/\↥row<=60/\jP (j6 row) M R
noncomputable abbrev zc1:↑Av:=["row"]
abbrev zc2:aE:=
   (bH (KA (aH dW (a7 cT (aA aG aB)) bC)))
noncomputable abbrev zc3:↑Av:=["row"]
abbrev zc4:aE:=
   (bH (a7 zY (aA (bP (d8 (uV (aA aG aB)) (e8 2 (cB (a6 0) (cB (a6 1) eZ))) eU (bA (aA (bA (aA aN (aA aG aB))) (aA (gA (aA (bA (aA (aH dW aG bC) (aA bM aB))) aB)) aB))) [ae,ae])) aB)))
def KG(r:aR ws M R):aR ws M λw V=>∃a,L2.Sub a V/\R w a:=λp S=>#[_,aZ,r p S]
def KH(r:jP ws M R):jP ws M λw V=>∃a,L2.Sub a V/\R w a:=λp S=>#[_,aZ,r p S]
def zc5:bK KC zc2 zc1:=by
 rintro _ M R ⟨row,rfl,hl,r⟩;show#[↥row+1,by rw[Ab];rfl,by lia,KG r]
def enum_zip(ws:↑Av):∀n:Nat,gM n (ws.map W.str)=(ws.zipIdx n).map λx=>W.tup [.int (x.2:Int),.str x.1]:=by
 induction ws with
 | nil=>intro n;rfl
 | cons w ws E=>intro n;rw[Bi,gM,E,Ks,Bi]
theorem AL:∀{ps acc:↑(↑aC×W)},((acc++ps).map (·.1)).Nodup->jA acc ps=acc++ps
 | [],acc,_=>by simp[jA]
 | p::ps,acc,h=>by
  let P:aM acc p.1=ae:=by
   rw[Ay,Er]at h;show zaQ λe m z=>h.2.2 _ (Ao.mpr #[e,m,rfl]) p.1 (by simp) z
  let e:bW acc p.1 p.2=acc++[p]:=by
   unfold bW;rw[Xa (by rw[show(acc.any λn=>decide (n.1=p.1))=(aM acc p.1).isSome from mX acc p.1,P];decide)]
  change jA (bW acc p.1 p.2) ps=_;rw[e,AL (by rw[Bh];show h),Bh];rfl
def zc6(row:↑Av):((j6 row).map (·.1)).Nodup:=by
 unfold j6;rw[Br];have:∀(row:↑Av) (n:Nat),((row.zipIdx n).map ((λx:↑aC×W=>x.1) ∘ λx:Av×Nat=>(([Sum.inr x.1,Sum.inl (x.2:Int)]:↑aC),W.rl [.tup [.int ((x.2:Int)+1),.int 0]]))).Nodup:=by
  intro row
  induction row with
  | nil=>intro n;show Fh
  | cons t row E=>
   intro n;rw[Ks,Bi,Cp];apply#[λN=>?_,E _];let#[x,B,e]:=Ao.mp N;let L:=List.mem_zipIdx B;simp only[Mp,Ff,Tb,Px,and_true]at e;lia
 show this row 0
def zc7:bK KD zc4 zc3:=by
 rintro _ M R ⟨row,rfl,hl,r⟩;apply ?_;apply GH (ws:=gM 0 (row.map W.str)) (rest:=[]) (λw y=>∃x:Av×Nat,w=W.tup [.int (x.2:Int),.str x.1]/\y=.tup [.tup (([Sum.inr x.1,Sum.inl (x.2:Int)]:↑aC).map wK),.rl [.tup [.int ((x.2:Int)+1),.int 0]]]) (λw hw=>?_) (small (by rw[kK,Ab];lia)) (λ_ _=>trivial) (λa b N V C sb L=>?_) λys po=>?_
 .rw[enum_zip]at hw;let#[x,_,rfl]:=Ao.mp hw;show#[_,_,rfl]
 .rw[enum_zip]at N;let#[x,_,e]:=Ao.mp N;simp only[W.tup.injEq,Ff,and_true]at e;let#[rfl,rfl]:=e;show(L _ #[x,rfl,rfl])
 .let O:ys=oO (j6 row):=by
   rw[enum_zip]at po;unfold oO j6;rw[Br]
   revert po
   generalize row.zipIdx=l;intro po
   induction l generalizing ys with
   | nil=>cases po;rfl
   | cons x l E=>
    cases po with
    | cons h t=>
     let#[c,J,rfl]:=h;simp only[W.tup.injEq,Ff,W.int.injEq,W.str.injEq,and_true]at J;have:x=c:=Jt J.2 (by lia);subst this;rw[E _ t];rfl
  subst O;apply aR.frz #[j6 row,rfl,small (by unfold oO j6;rw[Ab,Ab,List.length_zipIdx];lia),?_];rw[AL (by simpa using zc6 row),Ho];show KH r
noncomputable def lY(ss:↑Av):↑(↑aC×W):=ss.map λt=>([Sum.inr t,Sum.inl 0],.rl [.tup [.int 0,.int 1]])
def zc8(h:ss.Nodup):((lY ss).map (·.1)).Nodup:=by
 unfold lY;rw[Br]
 induction ss with
 | nil=>simp
 | cons t ss E=>
  rw[Cp]at h;rw[Bi,Cp];apply#[λN=>?_,E h.2];let#[x,B,e]:=Ao.mp N;have:x=t:=by simpa using e
  show h.1 (by rw[<-this];show B)
def zc9(ss:↑Av)(t:Av)(p:Int):aM (lY ss) (eK (t,p))=if p=0/\t∈ss then aa (.rl [.tup [.int 0,.int 1]]) else ae:=by
 unfold lY eK
 induction ss with
 | nil=>simp[aM]
 | cons x ss E=>
  rw[Bi,oG,E]
  by_cases L:p=0
  .subst L
   by_cases Z:x=t
   .subst Z;rw[Xb rfl,Xb #[rfl,by simp]]
   .rw[Xa (λz=>Z (by simpa using z))]
    by_cases F:t∈ss
    .rw[Xb #[rfl,F],Xb #[rfl,Bp _ F]]
    .rw[Xa (λz=>F z.2),Xa (λz=>by rcases Ax.mp z.2 with q|q;show Z q.symm;show F q)]
  .rw[Xa (λz=>L (by simp at z;show z.2.symm)),Xa (λz=>L z.1),Xa (λz=>L z.1)]
def KI:((eC fK eJ B).map λp=>W.tup (p.1.map wK))=(B.map (·.1)).map λf=>W.tup ((fK f).map wK):=by rw[Br,Br];rfl
def KJ(n:Nat)(rs:↑aD)(h:n=↥rs):((Cf n).map λ_=>W.int 0)=rs.map λ_=>W.int 0:=by
 rw[List.map_const',List.map_const',Hj,h]
def zda:bK AK (zcW C) zcT:=by
 rintro _ M R ⟨rs,rfl,g,r⟩;let hf:=g.few;let#[U,n,o]:=g.wds;apply#[rs,U,rfl,by lia,n,o,λss i nd k=>?_];let l:↥ss<=↥U:=len_sub nd k;apply mU (rest:=[]) (λw=>.tup [.tup [w,.int 0],.rl [.tup [.int 0,.int 1]]]) (small (by rw[Ab];lia)) (λ_ _=>trivial) (λw hw V C sb L=>L) (aR.frz ?_);apply#[lY ss,?_,small (by rw[Ab,Ab];lia),?_]
 .unfold oO lY;rw[Br,Br];rfl
 rw[AL (by simpa using zc8 nd),Ho];apply jP.frz #[rs,rfl,by lia,aR.frz #[kN rs ss,#[rs,ownOf rs,lY ss],by rw[<-KJ ↥rs rs rfl];rfl,rfl,#[rfl,λt=>lX rs t,λt p=>?_],IC g.few g.prt,Hw ..,λB F j m=>#[j,rfl,.inr #[_,aK,?_]]]]
 .change(aM (lY ss) (eK (t,p))=ae/\(if p=0/\t∈ss then [((0:Int),(1:Int))] else [])=[])\/aM (lY ss) (eK (t,p))=aa (.rl ((if p=0/\t∈ss then [((0:Int),(1:Int))] else []).map λz=>.tup [.int z.1,.int z.2]));rw[zc9]
  by_cases h:p=0/\t∈ss
  .right;rw[Xb h,Xb h];rfl
  .left;rw[Xa h,Xa h];show#[rfl,rfl]
 .rw[iD m];let a:=vD F.bs (IC g.few g.prt);let e:↥(namesOf (kN rs ss).rs)<=↥rs:=z9 _;change fZ ((eC fK eJ B).map λp=>W.tup (p.1.map wK)) _ _ _ _ _ _ _;rw[KI];apply uP (rest:=[aa (.ft (eC fK eJ B))]) (λw y=>∃f v,w=W.tup ((fK f).map wK)/\y=W.tup [.str f.1,v]/\True) (small (by rw[Ab,Ab];lia)) (λ_ _=>trivial) (λw hw V C sb L=>?_) λys b=>aR.frz ?_
  .let#[f,hf,rfl]:=Ao.mp hw;let#[v,c]:=Ed.mp (iG.mpr hf);show#[eJ v,#[fK f,rfl,by rw[oM lR,c];rfl],L _ #[f,_,rfl,rfl,trivial]]
  .let#[kvs,rfl,hk,_]:=AB (P:=λ_ _=>True) b;let d:=Ea b;rw[Ab,Ab]at d;show#[kvs,rfl,small (by lia),λp S=>#[_,aZ,r _ (JF (λq hq t ht D=>#[λ_=>rfl,λ_=>i q hq t ht D]) F hk) p S]]
noncomputable def p6(l:↑(NP×W)):W:=.tup [.rl ((aX l).map bX),.rl (l.map λz=>z.2)]
def vW(rs:↑aD)(z:NP×W):Prop:=(∃n r,rs[n]? = aa r/\z=((r.name,dD rs r.parts),.tup [.tup [.int (n:Nat),sC (dD rs r.parts)]]))\/∃e∈bY rs,z=((eF rs e,dD rs e),sC (dD rs e))
def AN:a8:=λws M R=>∃(old:↑Av) (n:Nat),ws=[.rl (old.map W.str),.int n]/\n+↥old<=9000/\aR ((kP old n).map W.str) M R
def vY:a8:=λws M R=>∃ps:↑Av,ws=[.tup (ps.map W.str)]/\↥ps<=1000/\R (sC ps) M
structure j7(P:Be)(w:Bv)(C:Am)(M:Mm)(a d dx:Am)(l:↑(NP×W)):Prop where
 ob:M a=aa (.ins C dx [("backs",.ref d)])
 di:M d=aa (.dn P w [0] (kvsOf l))
def p7(P:Be)(w:Bv)(C:Am):a8:=λws M R=>∃a s,ws=[.ref a]/\M a=aa (.ins C s [])/\∀d,M d=ae->R .non (put (put M d (.dn P w [0] [])) a (.ins C s [("backs",.ref d)]))
def nG(P:Be)(w:Bv)(C:Am):a8:=λws M R=>∃a d s l,∃(x:NP) (v:W),ws=[.ref a,.str x.1,.tup (x.2.map W.str),v]/\j7 P w C M a d s l/\↥l<=5000000/\∀n,Ex (λz=>z=(x,v)) l 1 (λy=>y=x) n->R .non (put M d (.dn P w [0] (kvsOf n)))
def p8(P:Be)(w:Bv)(C:Am):a8:=λws M R=>∃a d s l,ws=[.ref a]/\j7 P w C M a d s l/\R (p6 l) M
def KL:a8:=λws M R=>∃rs:↑aD,ws=[.rl (rs.map bX)]/\hZ rs/\aR ((bY rs).map λe=>W.tup (e.map W.str)) M R
def AQ:a8:=λws M R=>∃(rs:↑aD) (ps:↑Av),ws=[.tup (ps.map W.str),.dt (hW rs)]/\hZ rs/\(2<↥ps->ps.drop 1∈bY rs)/\R (.tup ((dD rs ps).map W.str)) M
def AR:a8:=λws M R=>∃rs:↑aD,ws=[.rl (rs.map bX)]/\hZ rs/\rs≠[]/\∀l,(∀z∈l,vW rs z)->(∀r∈rs,(r.name,dD rs r.parts)∈l.map Ck)->(∀e∈bY rs,(eF rs e,dD rs e)∈l.map Ck)->↥l<=↥rs+↥(bY rs)->Hd (f0 rs) True l->R (p6 l) M
noncomputable abbrev zdb:↑Av:=["old","count","taken","made","tried","name"]
abbrev zdc:aE:=
   (aQ 2 (aS lU (aA aG aB)))
abbrev zdd:aE:=
   (aQ 3 (gH aB))
abbrev zde:aE:=
   (aQ 4 bM)
abbrev zdf:aE:=
   (aF (aQ 5 (aH zH (aH zH (aH ID (vC (.str "M")) (aH dW bC (aH i6 bG (vI 10000)))) (vC (.str "_"))) (a7 FT (aA (aH gK bG (vI 10000)) aB))))
   (aF (aQ 4 (aH dW bG bC))
   (b9 (bU (aH (cL ab) cG aT))
    (b8 (c9 "list" eS bB (aA cG aB)))
    cS)))
abbrev zdg:aE:=
   (jX (bU (aH mO (a7 cT (aA bB aB)) aN)) zdf)
abbrev zdh:aE:=
   (bH bB)
abbrev zdi:aE:=(aF zdc (aF zdd (aF zde (aF zdg zdh))))
noncomputable abbrev zdj:↑Av:=["parts"]
abbrev zdk:aE:=
   (bH (G9 (a7 cT (aA aG aB))))
noncomputable abbrev zdl:↑Av:=["self"]
abbrev zdm(P:Be)(w:Bv)(C:Am):aE:=
   (iQ C aG "backs" (G5 P w [0]))
noncomputable abbrev zdn:↑Av:=["self","name","parts","pieces"]
abbrev zdo(P:Be)(w:Bv)(C:Am):aE:=
   (b8 (G7 P w [0] (cY C aG "backs") (bA (aA aN (aA aT (aA bM aB)))) bB))
noncomputable abbrev zdp:↑Av:=["self"]
abbrev zdq(P:Be)(w:Bv)(C:Am):aE:=
   (bH (bA (aA (bP (a7 (y7 P w [0]) (aA (cY C aG "backs") aB))) (aA (bP (a7 (y7 P w [0]) (aA (G8 P w [0] (cY C aG "backs")) aB))) aB))))
noncomputable abbrev zdr:↑Av:=["grammar","found","rule","k"]
abbrev zds:aE:=
   (aQ 1 lI)
abbrev zdt:aE:=
   (dG (F0 (aA bC (aA (aH rH (a7 cT (aA (vX aT bC) aB)) bC) aB))) (a6 3)
    (fX (vC (.bl ab)) (i8 aN (oA (vX aT bC) (mR bB) pH))))
abbrev zdu:aE:=
   (dG (cA dH aG) (a6 2) zdt)
abbrev zdv:aE:=
   (bH (a7 HA (aA aN aB)))
abbrev zdw:aE:=(aF zds (aF zdu zdv))
noncomputable abbrev zdx:↑Av:=["parts","made"]
abbrev zdy:aE:=
   (bH (uB (bU (aH yC (a7 cT (aA aG aB)) jS)) aG (bA (aA (vX aG bM) (aA (vX aN (oA aG (mR bC) pH)) aB)))))
noncomputable abbrev zdz:↑Av:=["grammar","ends","made","plain","number","rule","parts","end"]
abbrev zdA(P:Be)(w:Bv)(C:Am):aE:=
   (aF (aQ 6 (aS AQ (aA (vX cG bC) (aA aT aB))))
   (b8 (eA C "put_rule" (nG P w C) bB (aA (vX cG bM) (aA dO (aA (bA (aA (bA (aA bG (aA (aS vY (aA dO aB)) aB))) aB)) aB))))))
abbrev zdB(P:Be)(w:Bv)(C:Am):aE:=
   (aF (aQ 6 (aS AQ (aA eE (aA aT aB))))
   (b8 (eA C "put_rule" (nG P w C) bB (aA (vX aT eE) (aA dO (aA (aS vY (aA dO aB)) aB))))))
abbrev zdC(P:Be)(w:Bv)(C:Am):aE:=(aF (aQ 1 (bP (aS KL (aA aG aB)))) (aF (aQ 2 (HE (aA aN (aA (bP (aS AN (aA (bP (aS jF (aA aG aB))) (aA (a7 cT (aA aN aB)) aB)))) aB)))) (aF (aQ 3 (lL C (p7 P w C) aB)) (aF (dG (uV (aA aG aB)) (e8 2 (cB (a6 4) (cB (a6 5) eZ))) (zdA P w C)) (aF (dG (cA dH aN) (a6 7) (zdB P w C)) (bH (eA C "grammar_and_backs" (p8 P w C) bB aB)))))))
def AU:Cq ("backs" : Av) [(("backs" : Av),W.ref d)]=aa (.ref d):=by rw[Eh,beq_self_eq_true]
def KN:Ur ("M" : Av) 1 = "M":=by decide +kernel
def zdD:bK AN zdi zdb:=by
 rintro _ M R ⟨old,n,rfl,hl,r⟩;apply#[old,rfl,by lia,λp S=>?_];apply#[λm U V=>∃t o,m=n+↥old-t/\t<=n+↥old/\↥(gQ old t)<=n/\U=[aa (.rl (old.map W.str)),aa (.int n),aa (.dk ((old.foldl cZ []).map cE)),aa (.ref p),aa (.int (t:Nat)),o]/\V=put M p (.lst ((gQ old t).map W.str)),#[_,0,ae,rfl,Cr _,Cr _,rfl,rfl],?_];rintro m U V ⟨t,o,rfl,ht,Y,rfl,rfl⟩;let tl:=JU old t (Gz ht (Gz hl ∅));apply .inl #[_,aK,nD (λhc=>?_) λhc=>?_]
 .let hc:↥(gQ old t)<n:=by have:=Xc hc;rw[Ab]at this;lia
  let J:(t:Int)/10000=0:=Int.ediv_eq_zero_of_lt (by lia) (by lia);let D:(t:Int) % 10000=t:=Int.emod_eq_of_lt (by lia) (by lia);let en:(Ur ("M" : Av) (1+(t:Int)/10000)++"_"++Cd (toString ((t:Int) % 10000)))=e9 t:=by
   rw[J,D,show((1:Int)+0)=1 from rfl,KN];rfl
  let B:↥("M" : Av)=1:=by decide +kernel
  let I:↥("_" : Av)=1:=by decide +kernel
  let b:↥(Cd (toString ((t:Int) % 10000)))<=10:=by rw[D];show PySem.W.KT.len_num (by lia) (by lia)
  let a:↥(Ur ("M" : Av) (1+(t:Int)/10000))=1:=by rw[J,show((1:Int)+0)=1 from rfl,KN];show B
  apply#[#[by decide,by decide],("M" : Av),1+(t:Int)/10000,rfl,rfl,by lia,by lia,by lia,_,_,rfl,rfl,small (by lia),(by decide:(0:Int)<10000),zaM (Te _ ∅) (Rh _ ∅),_,_,rfl,rfl,small (by rw[Uw];lia),?_];rw[en];let c:decide (e9 t∈old.foldl cZ [])=decide (e9 t∈old):=by
   rw[Fd,decide_eq_true_eq,decide_eq_true_eq,u5];simp
  let ts:=JT old t;apply#[_,#[Sum.inr (e9 t),rfl,rfl],?_];change if (!(aM ((old.foldl cZ []).map cE) (Sum.inr (e9 t):aC)).isSome)=ab then _ else _;rw[sE,c];apply nD (λN=>?_) λN=>?_
  .let N:e9 t∉old:=λz=>by rw[Xd z]at N;cases N
   rw[Xa N]at ts;apply#[.inl #[rfl,_,aK],_,aK,dA (by rw[Ab];lia),_,_,?_,aZ,t+1,_,rfl,by lia,by rw[ts,Ag,Bz];lia,rfl,?_]
   .lia
   .rw[cF,ts,Ay];rfl
  .let N:e9 t∈old:=Xc (by rw[<-Hl (decide _),N];rfl);rw[Xb N]at ts;show#[_,_,by lia,aZ,t+1,_,rfl,by lia,by rw[ts];show Y,rfl,by rw[ts]]
 .let hc:¬↥(gQ old t)<n:=λz=>by have:=of_decide_eq_false hc;rw[Ab]at this;lia
  let e:=zcD (old:=old) (n:=n) (t:=t) (by lia) ht;rw[e];show#[_,aZ,r p S]
def zdE:bK vY zdk zdj:=by
 rintro _ M R ⟨ps,rfl,hl,r⟩;show#[↥ps,by rw[Ab],hl,_,aZ,r]
def zdF:bK (p7 P w C) (zdm P w C) zdl:=by
 rintro _ M R ⟨a,s,rfl,T,r⟩;apply λd hd=>?_;let N:a≠d:=λe=>by subst e;rw[T]at hd;cases hd
 show#[a,s,[],rfl,by rw[aW N];show T,by decide,_,aZ,r d hd]
def zdG:bK (nG P w C) (zdo P w C) zdn:=by
 rintro _ M R ⟨a,d,s,l,x,v,rfl,i,hl,r⟩;let r:=r (addT l (x,v)) (Ex.addT x v);apply#[a,s,_,.ref d,rfl,i.ob,AU,#[d,_,rfl,i.di],d,_,kQ x,rfl,i.di,?_,by unfold kvsOf;rw[Ab];show dA (by lia),?_,?_]
 .unfold gN kQ;simp[wK,Mp]
 .intro t e;rcases JZ l x with⟨L,_⟩|⟨_,Z⟩
  .rw[L]at e;cases e
  .unfold addT at r;rw[Xb Z,xX i.di]at r;show#[_,aZ,r]
 .intro e;rcases JZ l x with⟨_,Z⟩|⟨⟨t,L⟩,_⟩
  .unfold addT at r;rw[Xa Z]at r;unfold kvsOf at r;rw[Ay]at r;show#[_,aZ,r]
  .rw[L]at e;cases e
def zdH(l:↑(NP×W)):((kvsOf l).map λz=>gN [0] z.1)=(aX l).map bX:=by
 unfold kvsOf;rw[Br,Br];show Ey λz _=>J0 z.1
def zdI(l:↑(NP×W)):((kvsOf l).map λz=>z.2)=l.map λz=>z.2:=by unfold kvsOf;rw[Br];rfl
def zdJ:bK (p8 P w C) (zdq P w C) zdp:=by
 rintro _ M R ⟨a,d,s,l,rfl,i,r⟩;apply#[a,s,_,.ref d,rfl,i.ob,AU,.inl #[_,i.di,aR.frz #[a,s,_,.ref d,rfl,i.ob,AU,d,_,rfl,i.di,λv c=>.inr #[d,_,aK,by rw[aW λe=>by rw[<-e,i.di]at c;cases c];show i.di,aR.frz #[_,Sub.new c,?_]]]]];rw[zdH,zdI];show r
noncomputable def jJ(e:↑Av):↑aC×W:=(fF e,.bl ab)
def zdK(acc:↑(↑Av))(e:↑Av):bW (acc.map jJ) (fF e) (.bl ab)=(jH acc e).map jJ:=by
 unfold bW jH;let h:((acc.map jJ).any λn=>decide (n.1=fF e))=decide (e∈acc):=by
  rw[Ku,Fd,Hc,decide_eq_true_eq];constructor
  .rintro⟨x,B,h⟩;have:=AG (Xc h);rw[<-this];show B
  .intro h;show#[e,h,by simp[jJ]]
 rw[h]
 by_cases h:e∈acc
 .rw[Xb (Xd h),Xb h,Br];apply Ey λu C=>?_;change(if (jJ u).1=fF e then((jJ u).1,W.bl ab) else jJ u)=jJ u
  by_cases hh:(jJ u).1=fF e
  .rw[Xb hh];rfl
  .rw[Xa hh]
 .rw[Xa (by simpa using h),Xa h,Ay];rfl
def zdL{rs:↑aD}{i:Nat}{r:aD}(h:rs[i]? = aa r):nE (rs.take (i+1))=nE (rs.take i)++gU r.parts:=by
 unfold nE;rw[Ce,h,Ay,List.flatten_append];simp
def KO{q:Type}[DecidableEq q](acc a b:↑q):jI acc (a++b)=jI (jI acc a) b:=Mi
def zdM{rs:↑aD}{i:Nat}{r:aD}(h:rs[i]? = aa r):bY (rs.take (i+1))=jI (bY (rs.take i)) (gU r.parts):=by
 unfold bY;rw[zdL h,KO]
def zdN{j:Nat}(h:j<↥ps-2):(gU ps).take (j+1)=(gU ps).take j++[ps.drop (j+1)]:=by
 have:(gU ps)[j]? = aa (ps.drop (j+1)):=by
  unfold gU;rw[Az,Qp h];rfl
 rw[Ce,this];rfl
def KP{k:Nat}(h:k<=↥ws):eG ws (aa (k:Int)) ae=ws.drop k:=by
 unfold eG;let J:HT.sIx ↥ws 0 (aa (k:Int))=k:=by
  rw[HT.sIx_nat];lia
 let D:HT.sIx ↥ws ↥ws ae=↥ws:=rfl;rw[J,D,Pd (by rw[Ei];show Aj _)]
def zdO:bK AQ zdy zdx:=by
 rintro _ M R ⟨rs,ps,rfl,f,m,r⟩;unfold dD at r;let el:(↥(ps.map W.str):Int)<=2↔↥ps<=2:=by rw[Ab];lia
 apply nD (λh=>?_) λh=>?_
 .rw[Xb (el.mp (Xc h))]at r;show#[_,aZ,r]
 .let hl:¬↥ps<=2:=λz=>of_decide_eq_false h (el.mpr z);rw[Xa hl]at r;cases ps with
  | nil=>simp at hl
  | cons x ps=>
   let N:=m (by lia);let K:(1:Int)=((1:Nat):Int):=rfl;apply so.of (rQ _ _) #[λB=>?_,_,#[fF ps,?_,(AH f N).1.symm],_,aZ,r]
   .let L:=B.1;rw[K,HT.sIx_nat]at L;simp at L
   .rw[K,KP (by simp),sD];rfl
def zdP:bK KL zdw zdr:=by
 rintro _ M R ⟨rs,rfl,f,r⟩;apply λp S=>eO (λi U V=>∃g s,U=[aa (.rl (rs.map bX)),aa (.ref p),g,s]/\V=put M p (.dT ((bY (rs.take i)).map jJ))) #[_,_,rfl,rfl] ?_ ?_
 .rintro i w U V hw ⟨g,s,rfl,rfl⟩ O E;rw[Az]at hw;let#[q,hq,rfl]:=Bd.mp hw;let N:q∈rs:=Au hq;let T:=f.prt q N;let hi:i<↥rs:=(An.mp hq).1;let u:=f.few;let b:=AE (rs:=rs.take i) λr G=>f.prt r (Kj G);rw[Dc]at b;let k:↥(q.parts.map W.str)=↥q.parts:=Ab ..;apply#[1,_,rfl,#[by decide,by decide,by lia,by lia],?_];let X:((↥(q.parts.map W.str):Int)-1-1).toNat=↥q.parts-2:=by lia
  rw[X];apply eO (λj U V=>∃s,U=[aa (.rl (rs.map bX)),aa (.ref p),aa (bX q),s]/\V=put M p (.dT ((jI (bY (rs.take i)) ((gU q.parts).take j)).map jJ))) #[_,rfl,rfl] ?_ ?_
  .rintro j w U V hw ⟨s,rfl,rfl⟩ O E;unfold lK at hw;rw[Az]at hw;let#[a,hj,rfl]:=Bd.mp hw;let I:j<↥q.parts-2:=by have:=(An.mp hj).1;simpa using this
   obtain rfl:a=j:=by rw[Qp I]at hj;show(Cj hj).symm
   let K:((1:Int)+(a:Int))=((a+1:Nat):Int):=by lia
   rw[K];apply#[λB=>?_,?_]
   .rw[HT.sIx_nat]at B;have:=B.1;lia
   .rw[KP (by lia),<-Tw,<-sD];let Q:=AD (ts:=(gU q.parts).take a) (acc:=bY (rs.take i));let o:=List.length_take_le a (gU q.parts);apply pM aK (by rw[Ab];show dA (by lia)) (E _ _ #[_,rfl,?_]);rw[cF,zdK,zdN I,KO];rfl
  .rintro U V ⟨s,rfl,rfl⟩;apply E _ _ #[_,_,rfl,?_];have:↥(lK 1 (↥q.parts-2))=↥(gU q.parts):=by unfold lK gU;simp
   rw[this,Cb,zdM hq]
 .rintro U V ⟨g,s,rfl,rfl⟩;rw[Ab,Cb];apply#[_,aK,λq hq=>?_];let t:q≠p:=λe=>by subst e;rw[aK]at hq;cases hq
  rw[aW t]at hq;apply#[_,?_,r q hq];rw[Br];let e:(bY rs).map ((λ(p:↑aC×W)=>W.tup (p.1.map wK)) ∘ jJ)=(bY rs).map λe=>W.tup (e.map W.str):=Ey λl _=>by change W.tup ((fF l).map wK)=_;rw[sD]
  rw[e];show Sub.put (Sub.new S)
noncomputable def Bt(P:Be)(w:Bv)(C:Am)(M:Mm)(a d s:Am)(l:↑(NP×W)):Mm:=put (put M a (.ins C s [("backs",.ref d)])) d (.dn P w [0] (kvsOf l))
def Bt.pl(h:a≠d):j7 P w C (Bt P w C M a d s l) a d s l:=#[by unfold Bt;rw[aW h,aK],aK]
def Bt.sub(T:M a=ae)(hd:M d=ae)(h:a≠d):Sub M (Bt P w C M a d s l):=(Sub.new T).trans (Sub.new (by rw[aW (Ca h)];show hd))
def Bt.put:L2.put (Bt P w C M a d s l) d (.dn P w [0] (kvsOf n))=Bt P w C M a d s n:=cF
def Bt.first(h:a≠d):L2.put (L2.put (L2.put M a o) d (.dn P w [0] [])) a (.ins C s [("backs",.ref d)])=Bt P w C M a d s []:=by
 unfold Bt kvsOf;rw[mH (Ca h),cF];rfl
def nH:Cq ("put_rule" : Av) [(("backs" : Av),W.ref d)]=ae:=by
 rw[Eh,show(("put_rule" : Av)==("backs" : Av))=ac by decide +kernel];rfl
def sG:Cq ("grammar_and_backs" : Av) [(("backs" : Av),W.ref d)]=ae:=by
 rw[Eh,show(("grammar_and_backs" : Av)==("backs" : Av))=ac by decide +kernel];rfl
def zdQ:bK AR (zdC P w C) zdz:=by
 rintro _ M R ⟨rs,rfl,f,J,r⟩;let hf:=f.few;let y:=f.sum;let D:=AE f.prt;apply#[rs,rfl,f,aR.frz #[rs,rfl,by lia,aR.frz #[namesOf rs,↥(bY rs),by rw[Ab],by lia,aR.frz #[hW rs,by rw[zcI f,zcH f];rfl,?_]]]];rw[zcG f];apply λa s T k _=>#[a,s,rfl,aK,λd hd=>#[rfl,?_]]
 let had:a≠d:=λe=>by rw[<-e,aK]at hd;cases hd
 rw[aW (Ca had)]at hd;rw[Bt.first had];generalize t:(bY rs).map (λe=>W.tup (e.map W.str))=E;apply eO (λi U V=>∃l X H K,U=[aa (.rl (rs.map bX)),aa (.rl E),aa (.dt (hW rs)),aa (.ref a),X,H,K,ae]/\V=Bt P w C M a d s l/\(∀z∈l,vW rs z)/\(∀r∈rs.take i,(r.name,dD rs r.parts)∈l.map Ck)/\↥l<=i/\(0<i->Hd (f0 rs) True l)) #[[],_,_,_,rfl,rfl,(λ_ h=>nomatch h),(λ_ h=>nomatch h),Aj _,λh=>absurd h ∅] ?_ ?_
 .rintro i v U V hw ⟨l,X,H,K,rfl,rfl,hl,hc,o,hd⟩ O I;rw[rS,Az,Option.map_map]at hw;let#[q,hq,rfl]:=Bd.mp hw;let Z:=AI rs q.parts;let hi:i<↥rs:=(An.mp hq).1;apply#[rfl,rfl,rs,q.parts,rfl,f,vQ (Au hq),mI (Bt.pl had).ob nH #[dD rs q.parts,rfl,by lia,a,d,s,l,(q.name,dD rs q.parts),_,rfl,Bt.pl had,by lia,λn g=>I _ _ #[n,_,_,_,rfl,Bt.put,g.all hl (λz e=>.inl #[i,q,hq,by rw[e,Nv]]),(λr G=>g.had (by rw[Ce,hq]at G;show(Bb.mp G).imp (hc r) λz=>by rw[Ai.mp z])),Ar g.len (Ep o),λ_=>?_]]];cases i with
  | zero=>
   cases l with
   | nil=>
    apply Hd.of g (λz e=>?_) λ_=>#[_,rfl]
    cases rs with
    | nil=>cases hq
    | cons j rs=>cases hq;rw[e];rfl
   | cons z l=>cases o
  | succ i=>show(hd (Us i)).ex g
 .rintro U V ⟨L,X,H,K,rfl,rfl,F,b,x,p⟩;rw[kK,Ab]at x p b;rw[Cb]at b;let p:=p (Ji.mpr J);apply eO (λi U V=>∃l X H K A,U=[aa (.rl (rs.map bX)),aa (.rl E),aa (.dt (hW rs)),aa (.ref a),X,H,K,A]/\V=Bt P w C M a d s l/\(∀z∈l,vW rs z)/\(∀r∈rs,(r.name,dD rs r.parts)∈l.map Ck)/\(∀e∈(bY rs).take i,(eF rs e,dD rs e)∈l.map Ck)/\↥l<=↥rs+i/\Hd (f0 rs) True l) #[L,_,_,_,_,rfl,rfl,F,b,(λ_ h=>nomatch h),x,p] ?_ ?_
  .rintro i v U V hw ⟨l,X,H,K,A,rfl,rfl,hl,hc,c,o,hd⟩ O I;rw[<-t,Az]at hw;let#[e,m,rfl]:=Bd.mp hw;let N:e∈bY rs:=Au m;let Z:=AI rs e;let hi:i<↥(bY rs):=(An.mp m).1;show#[rs,e,rfl,f,vR N,mI (Bt.pl had).ob nH #[.str (eF rs e),#[fF e,by rw[sD],(AH f N).1.symm],dD rs e,rfl,by lia,a,d,s,l,(eF rs e,dD rs e),_,rfl,Bt.pl had,by lia,λn g=>I _ _ #[n,_,_,_,_,rfl,Bt.put,g.all hl (λz q=>.inr #[e,N,q]),(λr G=>g.had (.inl (hc r G))),(λu Y=>g.had (by rw[Ce,m]at Y;show(Bb.mp Y).imp (c u) λz=>by rw[Ai.mp z])),Ar g.len (Ep o),hd.ex g]]]
  .rintro U V ⟨l,X,H,K,A,rfl,rfl,hl,hc,c,o,B⟩;rw[<-t,Ab]at o c;rw[Cb]at c;show mI (Bt.pl had).ob sG #[a,d,s,l,rfl,Bt.pl had,_,Bt.sub T hd had,r l hl hc c o B]
theorem nJ{ps:↑Av}{M:Mm}(h:∀t∈ps,Sh t):Pl 2 (cX M (.tup (ps.map W.str))):=λw hw=>by
 let#[t,ht,rfl]:=Ao.mp hw;show zaJ (h t ht).asc
section
variable {X:Cx}{pos:Ih}{a b:Cm}{ta tb te:aP}
theorem dQ{i:Nat}(hi:X.N[i]? = aa x:=by rfl)(B:Loc X.env.scope x:=by first|exact .inl rfl|exact .inr rfl)(f:X.N.Nodup:=by show Xc (by kernel_rfl))(hf:Fy X x:=by first|exact .inl rfl|exact .inr rfl|assumption):PG X (.Name x pos) (iP X.K (a6 i)):=FU f hi B hf
variable {tg iter elt:Cm}{ifs:↑Cm}{sc:Mb}{wi:gL}{g:eT}{tt:dE}
end
theorem sH(a:sc.kind=.function:=by rfl)(b:sc.isCoroutine=ac:=by rfl)(c:sc.isGenerator=ac:=by rfl)(d:N.Nodup:=by decide +kernel)(e:N.take ↥ps=ps:=by rfl)(f:∀x∈ps,sc.names.lookup x=aa .local\/sc.names.lookup x=aa .cell:=by decide +kernel)(g:∀y∈sc.names,y.2≠.free:=by decide +kernel):mB N ps sc:=#[a,b,c,d,e,f,g]
theorem KQ{C:↑Ae->Prop}(h:C [])(us:↑Ae)(e:↥us=0):C us:=by rw[Jk.mp e];show h
theorem sI{C:↑Ae->Prop}{n:Nat}(k:∀a us,↥us=n->C (a::us)):∀us:↑Ae,↥us=n+1->C us
 | a::l,e=>k a l (Nat.succ.inj e)
theorem vZ{C:↑Ae->Prop}(h:∀a,C [a]):∀us:↑Ae,↥us=1->C us:=sI λa=>KQ (h a)
theorem v3{C:↑Ae->Prop}(h:∀a b,C [a,b]):∀us:↑Ae,↥us=2->C us:=sI λa=>vZ (h a)
theorem v5{C:↑Ae->Prop}(h:∀a b c,C [a,b,c]):∀us:↑Ae,↥us=3->C us:=sI λa=>v3 (h a)
theorem v7{C:↑Ae->Prop}(h:∀a b c d,C [a,b,c,d]):∀us:↑Ae,↥us=4->C us:=sI λa=>v5 (h a)
theorem AW{C:↑Ae->Prop}(h:∀a b c d e,C [a,b,c,d,e]):∀us:↑Ae,↥us=5->C us:=sI λa=>v7 (h a)
def AX(x q:Av)(st:Kx)(ps:↑Av):Prop:=∀(kV doc pm:Ae) (an:Option Am) (cdv ct:Ae) (us:↑Ae),↥us=↥ps->bindArgs (Gv x q (iU st) (gC st) (dR st) .none kV doc pm an cdv ct) #[us,[]]=pure (ps.zip us)
section
variable {K:Ac}{mg:Av->Option Ae}{h:Dz}{x q:Av}{st:Kx}{C f:Am}{ps:↑Av}{an:Option Am}{kV doc pm cdv ct:Ae}
theorem dF(X:K.In h)(G:h.Ns Em mg)(Y:AX x x st ps:=by first|exact λ_ _ _ _ _ _=>vZ λ_=>rfl|exact λ_ _ _ _ _ _=>v3 λ_ _=>rfl|exact λ_ _ _ _ _ _=>v5 λ_ _ _=>rfl|exact λ_ _ _ _ _ _=>v7 λ_ _ _ _=>rfl|exact λ_ _ _ _ _ _=>AW λ_ _ _ _ _=>rfl|exact λ_ _ _ _ _ _=>ar6 λ_ _ _ _ _ _=>rfl|exact λ_ _ _ _ _ _=>ar7 λ_ _ _ _ _ _ _=>rfl|exact λ_ _ _ _ _ _=>KQ rfl)(n:Tq K Em x=aa (aa (.ref f)):=by kernel_rfl)(l:K.lookup f=aa #[.type "function",ae,.func (Gv x x (iU st) (gC st) (dR st) .none kV doc pm an cdv ct),#[]]:=by kernel_rfl)(c:Lw K cdv x=ab:=by kernel_rfl)(k:Hf K (.ref f)=ab:=by kernel_rfl):Df K mg x st ps f (Gv x x (iU st) (gC st) (dR st) .none kV doc pm an cdv ct):=#[oX l c k,Ky X G n,(oX l c k).binds Y]
theorem dM(Y:AX x q st ps:=by first|exact λ_ _ _ _ _ _=>vZ λ_=>rfl|exact λ_ _ _ _ _ _=>v3 λ_ _=>rfl|exact λ_ _ _ _ _ _=>v5 λ_ _ _=>rfl|exact λ_ _ _ _ _ _=>v7 λ_ _ _ _=>rfl|exact λ_ _ _ _ _ _=>AW λ_ _ _ _ _=>rfl)(a:Fv K (.ref C) x=aa (aa (.ref f)):=by kernel_rfl)(n:Oq K (.ref f)=ab:=by kernel_rfl)(l:K.lookup f=aa #[.type "function",ae,.func (Gv x q (iU st) (gC st) (dR st) .none kV doc pm an cdv ct),#[]]:=by kernel_rfl)(c:Lw K cdv q=ab:=by kernel_rfl)(k:Hf K (.ref f)=ab:=by kernel_rfl):Dm K C x q st ps f (Gv x q (iU st) (gC st) (dR st) .none kV doc pm an cdv ct):=#[oX l c k,#[a,n,k],(oX l c k).binds Y]
theorem dI(Y:AX x q st ps:=by first|exact λ_ _ _ _ _ _=>vZ λ_=>rfl|exact λ_ _ _ _ _ _=>v3 λ_ _=>rfl|exact λ_ _ _ _ _ _=>v5 λ_ _ _=>rfl|exact λ_ _ _ _ _ _=>v7 λ_ _ _ _=>rfl|exact λ_ _ _ _ _ _=>AW λ_ _ _ _ _=>rfl)(m:Rq K C=ab:=by kernel_rfl)(a:Fv K (.ref C) "__init__" = aa (aa (.ref f)):=by kernel_rfl)(n:Oq K (.ref f)=ab:=by kernel_rfl)(d:Hf K (.ref C)=ab:=by kernel_rfl)(l:K.lookup f=aa #[.type "function",ae,.func (Gv x q (iU st) (gC st) (dR st) .none kV doc pm an cdv ct),#[]]:=by kernel_rfl)(c:Lw K cdv q=ab:=by kernel_rfl)(k:Hf K (.ref f)=ab:=by kernel_rfl):Di K C x q st ps f (Gv x q (iU st) (gC st) (dR st) .none kV doc pm an cdv ct):=#[oX l c k,#[m,a,n,d],(oX l c k).binds Y]
variable {P:Be}{w:Bv}{base:Dz}{fd:Fs}{N:↑Av}{k:Nat}{sp:a8}{rd:aE}
theorem zdR(P:Be)(w:Bv)(mg:Av->Option Ae)(base:Dz)(k:Nat)(F:iY K x q st f fd)(_:Binds K fd ps [])(S:mB N ps (dR st))(len:∀ws M R,sp ws M R->↥ws=↥ps)(a:bK sp rd N)(d:∀{cdv:Ae} {A:Cw} {outer:↑Vv} {s:Ak} {H:Hp} {E:XK},cI k (A.deeper (Na q (dR st) ⇑s f cdv))->(A.deeper (Na q (dR st) ⇑s f cdv)).units+1<Fu->N.Nodup->i7 (kC eW P w K mg base N q (dR st) f cdv A outer s H E).nox (gC st) rd):iW P w K mg base eW (k+1) f fd ps (fS K sp):=
 yR F S len λ_ _ _ _ _ _ _ _ _ G h=>#[rd,d G (DP G) S.nd,a _ _ _ h]
theorem AY(P:Be)(w:Bv)(mg:Av->Option Ae)(base:Dz)(k:Nat)(F:iY K x q st f fd)(_:Binds K fd ps [])(S:mB N ps (dR st))(a:bK sp rd N)(d:∀{cdv:Ae} {A:Cw} {outer:↑Vv} {s:Ak} {H:Hp} {E:XK},cI k (A.deeper (Na q (dR st) ⇑s f cdv))->(A.deeper (Na q (dR st) ⇑s f cdv)).units+1<Fu->N.Nodup->i7 (kC eW P w K mg base N q (dR st) f cdv A outer s H E).nox (gC st) rd)(len:∀ws M R,sp ws M R->↥ws=↥ps:=by intro _ _ _ h;repeat (first|(let#[rfl,_]:=h;exact rfl)|let#[_,h]:=h)):iW P w K mg base eW (k+1) f fd ps (fS K sp):=
 yR F S len λ_ _ _ _ _ _ _ _ _ G h=>#[rd,d G (DP G) S.nd,a _ _ _ h]
end
section
variable {X:Cx}{pos p:Ih}{x:Av}{st:Kx}{e:Cm}{es:↑Cm}{t:cV}{k j:Nat}{f:Am}{fd:Fs}{ps:↑Av}{sp:a8}
theorem b6(F:X.f eW k f fd ps (fS X.K sp))(D:Df X.K X.mg x st ps f fd)(G:cI j X.A)(T:A3 X (e::es) t)(hj:k<=j:=by decide)(hg:Gl X x:=by rfl)(i:Db x:=by decide)(m:Se X e es:=by rfl)(y:Sb X pos es:=by rfl):
  E3 X (.Call (.Name x p) (e::es) [] pos) (aS sp t):=E4 F (G.mono hj) hg D.at_ D.fn.kp D.bi T i m y
end
section
variable {X:Cx}
def zdS(tk j:TE):TE:=λG H Q=>∀p,H p=ae->tN [(tk,j)] G (aL H p (.dT [])) λps L=>∃(b:Am) (y:V) (k:↑aC),ps=[(.ref b,y)]/\L p=aa (.dT [])/\L b=aa (.tup (k.map kV))/\Q (.ref p) (aL L p (.dT [(k,y)]))
theorem zdT{k v:Cm}{tk tv:TE}{pos:Ih}(hu:X.A.units+1<Fu)(hk:PE X k tk)(hv:PE X v tv):PE X (.Dict [aa k] [v] pos) (zdS tk tv):=by
 intro af s Z H Q I q;let hn:=I.hok.fresh (Aj ⇑s);let I1:=I.laid (a:=⇑s) (o:=.dT []) (h':=s.heap.push {cls:=.type "dict",data:=.dict #[]}) (t':=s.toks) (λ_ _ q=>Af _ q) (Aj _) (DI s.heap I.big);apply wpAny_Dict_any rfl rfl (λh=>nomatch h) (by decide:1<=15) (aV (DK hk hv DJ af _ Z _ _ I1 (q _ hn)) λws s2 z0=>?_);let#[ps,H2,I2,rel,b,y,k,ep,e,eb,q2]:=z0;subst ep;cases rel with
 | @cons a1 b1 _ _ r1 r2=>
  cases r2;let#[u1,u2]:=b1;let#[ru,rv]:=r1;cases (show u1=Value.ref b from ru);let#[z,hd,xs,rel,dd]:=qS I2.hok e;cases rel;unfold storeAll;rw[Lq];apply Aa (Aa (Sm (hsz:=Cr _) (Ml hu) (iL I2.hok eb) dd λh' dd' hs=>Ah ?_));change Bo _ _ (pure PUnit.unit) _ _ _;apply Ah #[.ref _,_,?_,rfl,q2];let#[q,es,ep,hq,h2,h3,h4,_,h5]:=dd';apply nW I2 (by rw[e];show True.intro) hs #[q,hq] #[show 1<=Ap by decide,hd,_,((show KT H2 [] [] from .nil).put k eb rv).keeps λc ys ec=>?_,q,es,ep,hq,h2,h3,h4,h5];rw[bD (sS ec e (λz=>nomatch z))];show ec
end
section
variable {X:Cx}{a b:Cm}{ta tb:aP}{pos p:Ih}
abbrev KR(ta tb:aP):aP:=λU M R=>∀p,M p=ae->ta U (put M p (.dT [])) λx I=>tb U I λy G=>G p=aa (.dT [])/\∃k:↑aC,x=.tup (k.map wK)/\R (.ref p) (put G p (.dT [(k,y)]))
theorem zdU(C:X.A.units+1<Fu)(T:E3 X a ta)(Y:E3 X b tb):E3 X (.Dict [aa a] [b] pos) (KR ta tb):=
 (zdT C T Y).weak λG H Q E=>E.el λU M R as O h k=>λp S=>by
  let#[g,i]:=O.laid (o:=.dT []) (u:=.dT []) S #[[],b7,.nil];apply#[U,_,_,as.kp O i,g,h p (O.nonM S),λx B P I V j d L=>#[U,I,_,(as.kp O i).kp g V,j,L,λy Z l s t N m #[e,n,ex,r]=>?_]];subst ex;let#[ks,f,q]:=N _ _ e;cases q;let z:=d.kp j t;show z.tupE λc xs K D w=>by
   let#[W,v]:=N.write (o:=.dT [(n,l)]) (u:=.dT [(n,y)]) e #[_,b7,.cons #[rfl,m.wr N e] .nil];show#[c,y,n,by rw[K],f,by rw[<-w.keys];show D,k _ _ _ _ (((i.trans V).trans t).trans v) W (.ref _) r]
variable {x:Av}{e:Cm}{es:↑Cm}{t:cV}{k j i:Nat}{f:Am}{fd:Fs}{ps:↑Av}{sp:a8}
abbrev AZ(i:Nat)(f:Am)(sp:a8)(t:cV):aP:=λU M R=>U[i]? = aa (aa (.ref f))/\aS sp t U M R
theorem KS(ef:g=f)(F:X.f eW k f fd ps (fS X.K sp))(G:cI j X.A)(hk:Hf X.K (.ref f)=ab)(Y:Binds X.K fd ps [])(T:A3 X (e::es) t)(hj:k<=j:=by decide)(a:X.N[i]? = aa x:=by rfl)(c:sW X.env.scope x:=by first|exact Or.inl rfl|exact Or.inr (Or.inl rfl)|exact Or.inr (Or.inr rfl))(hd:Db x:=by decide)(n:(x==("__classdict__" : Av))=ac:=by decide)(m:Se X e es:=by rfl)(y:Sb X pos es:=by rfl):
  E3 X (.Call (.Name x p) (e::es) [] pos) (AZ i g sp t):=by
 subst ef;intro C s l H Q I #[U,M,R,as,O,#[L,h],D];let gc:=E2 (K:=X.K) #[U,M,R,as,O,h,D];let#[v,J,av]:=as.get L;apply Dy (aV (B8 (pos:=p) a c hd n C s l H (λw Z=>w=.ref g/\Z=H) I #[v,J,av.inv,rfl]) λu W E=>?_);let#[w,B,S,P,o,eH]:=E;subst o eH;cases P;show Nh (h₀:=X.base) S.ok.mod.kin hk (aV (T pos C W l B _ S gc) λus d b=>by let#[vs,z,V,r,q]:=b;show#[V.kIn,tH F (G.mono hj) Y .nil oW V r q]) m y
theorem KU{g f:Am}{fd:Fs}{ps:↑Av}{x:Av}{pos:Ih}{st:Kx}(a:g=f)(D:Df X.K X.mg x st ps f fd)(hg:Gl X x:=by rfl)(hd:Db x:=by decide):E3 X (.Name x pos) (vC (.ref g)):=by
 subst a;show qY (y:=.ref g) hg D.at_ rfl (λ_ _=>.ref _) hd
end
end L2
namespace PySem
namespace Et
open L2
section
variable {prog:Be}{w:Bv}{A:Cw}{E:Ae->Ak->Prop}{s:Ak}
theorem draws(hh:A.handled=ae)(it l:Am)(N:l≠it)(items:Array Ae):Draws prog w A it [it,l] items.size (λi v=>items[i]? = aa v) (λi h=>h.IsTupleIter it l i/\h.IsTuple l items) where
 live:=λ_ _ st=>let #[o,ho,_]:=st.1;#[o,ho]
 frame:=λk h h' st hk=>(Zt.side_tuple (prog:=prog) (w:=w) it l N items).keep k h h' st λc hc o e=>hk c (by rcases hc with rfl|rfl<;>simp) o e
 item:=λi s Q E hi st X=>(Zt.side_tuple it l N items).item A E s i items[i] Q st (by simp[hi]) λh' a b=>X _ h' s.toks (by simp[hi]) a b
 done:=λs Q E st j=>(Zt.side_tuple it l N items).stop A E s _ Q hh st (by simp) j
theorem meets_new(l:Am)(items:Array Ae)(n:Nat)(a:Option Am)(sl:Array (Option Ae)):
  Meets (Hk.«enumerate.__new__» #[[.type "enumerate",.ref l],[]]) (λ_ R s=>s.heap.get? l=aa {cls:=.type "tuple",dict:=a,data:=.seq items n,slots:=sl}/\
   R (.ok (.ret (.ref (s.heap.push {cls:=.type "tuple_iterator",data:=.fields [.ref l,.int 0 0].toArray}).objs.size)))
    {s with heap:=(s.heap.push {cls:=.type "tuple_iterator",data:=.fields [.ref l,.int 0 0].toArray}).push {cls:=.type "enumerate",data:=.fields [.none,.bool ac,.ref ⇑s,Hy 0,.none,.none].toArray}}):=
 .of_wp λprog w A R s h=>by
  let#[S,g,d,tk,os]:=s;let#[hl,h]:=h;let f:=sub_enumerate;let i:Rn (Uj #[S,g,d,tk,os]) l items:=#[_,hl,rfl,n,rfl]
  wp_walk using Kw hl
  apply wpAny_stack_any λst=>Ah ?_;split
  .rename_i c _ _ _ _ _;cases (c==Value.type "enumerate")
   .wp_walk using Kw hl,Ka i
    show#[_,rfl,h]
   .wp_walk using Kw hl,Ka i
    show#[_,rfl,h]
  .wp_walk using Kw hl,Ka i
   show#[_,rfl,h]
theorem call_new{Q:Ae->Ak->Prop}(i:s.heap.IsTuple l items)(h:∀h',IsEnum h' (⇑s+1) ⇑s 0 .none->h'.IsTupleIter ⇑s l 0->(∀b o,s.heap.get? b=aa o->h'.get? b=aa o)->Q (.ref (⇑s+1)) {s with heap:=h'}):
  Bo (Cy prog w) A (call (.type "enumerate") [.ref l]) Q E s:=by
 obtain⟨⟨c,a,dt,sl⟩,hl,hc,n,hd⟩:=i;cases (show c=.type "tuple" from hc);cases (show dt=.seq items n from hd);apply Vr F.called_enumerate ∅ (F.typeCall_enumerate_1 _) (F.newCall_enumerate_1 _) (λobj=>Qv obj _) F.entry_enumerate_new (meets_new l items n a sl) #[hl,?_];let hz:(s.heap.push {cls:=.type "tuple_iterator",data:=.fields [.ref l,.int 0 0].toArray}).objs.size=⇑s+1:=Es ..;change _/\_;rw[hz];let m:IsEnum ((s.heap.push {cls:=.type "tuple_iterator",data:=.fields [.ref l,.int 0 0].toArray}).push {cls:=.type "enumerate",data:=.fields [.none,.bool ac,.ref ⇑s,Hy 0,.none,.none].toArray}) (⇑s+1) ⇑s 0 .none:=by
  have:=Aw (s.heap.push {cls:=.type "tuple_iterator",data:=.fields [.ref l,.int 0 0].toArray}) (o:={cls:=.type "enumerate",data:=.fields [.none,.bool ac,.ref ⇑s,Hy 0,.none,.none].toArray}) rfl;rw[hz]at this;show this
 show#[#[_,m,rfl],h _ m #[_,Af _ (Aw _ rfl),rfl,rfl] λb o x=>Af _ (Af _ x)]
end
end Et
end PySem
namespace L2
section
variable {X:Cx}
noncomputable def KW(K:Ac)(a:Am)(xs:↑V):It:=
 #[λi H=>bJ K H a xs/\i<↥xs,
   λi H x l=>∃p u,xs[i]? = aa u/\H p=ae/\x=.ref p/\l=aL H p (.tup [.int (i:Nat),u]),
   λi H=>bJ K H a xs/\i=↥xs]
theorem zdV{P:Be}{w:Bv}{K:Ac}{es:↑Cm}{kx:Nat}{r:Ih}(a e it:Am)(xs:↑V)(N:e≠it)(S:e≠a)(t:a≠it):
  iK P w K (.Tuple es kx r) (KW K a xs) [e,it] e (λi h=>(∃old,IsEnum h e it (i:Nat) old)/\h.IsTupleIter it a i) where
 mem:=by simp
 obj:=λi h st c hc=>by
  obtain⟨⟨old,L⟩,⟨F,T,_,p⟩⟩:=st;simp only[Ax,Fi,or_false]at hc;rcases hc with rfl|rfl
  .show#[_,L,λv q=>by cases q]
  .show#[_,T,λv q=>by rw[p]at q;cases q]
 keep:=λi h h' st k=>by
  obtain⟨⟨old,L⟩,⟨F,T,W⟩⟩:=st;show#[#[old,k e (by simp) _ L],#[F,k it (by simp) _ T,W]]
 item:=by
  intro X m hw Z hc i C s G H E I hf st hg;subst m hw Z;obtain⟨⟨old,L⟩,T⟩:=st;let#[n,hi]:=hg;let#[its,R,pl,hz]:=I.tuple n;let#[u,Y,ru]:=R.get (Bj hi);let hl:=↥R;apply wpAny_pyNext_enum_itemD (Et.draws (A:=X.A.in1) (I.ok.hd hc) it a t its.toArray) L #[T,pl] (by simp;lia) N (by simp[N,S]) λx h' tk B f g J O hk=>?_;let ex:x=u:=by
   let B:its.toArray[i]? = aa x:=B;rw[List.getElem?_toArray,Y]at B;show(Cj B).symm
  subst ex;apply#[_,rfl,wpAny_letOwnedTupleGo_enum f λy U sb=>?_];let d:H ⇑s=ae:=I.hok.fresh (Aj _);let b:e<⇑s:=Ba L;let D:it<⇑s:=by let#[_,q,_]:=T;show Ba q
  let j:∀q o,q∉[e,it]->s.heap.get? q=aa o->y.get? q=aa o:=λq o hq eq=>by
   simp only[Ax,Fi,or_false,not_or]at hq;show(sb.2 q hq.1).trans (hk q o hq.1 hq.2 eq)
  let l:y.get? ⇑s=aa {cls:=.type "tuple",data:=.seq [.int (i:Nat) tk,x].toArray}:=(sb.2 _ (Co b)).trans J;let M:Inv X C G (aL H ⇑s (.tup [.int (i:Nat),xs[i]])) {s with heap:=y,toks:=tk+1}:=I.laidT (its:=[.int (i:Nat) tk,x]) hf j (by change 2<=Ap;decide) (.cons #[_,rfl] (.cons ru .nil)) l;apply#[.ref ⇑s,_,M,rfl,#[⇑s,xs[i],Bj hi,d,rfl,rfl],#[#[x,by rw[Td];show U],g.1.extBut sb.extBut N.symm],λq hq=>?_];rw[bD]
  .show(hf q hq).1
  .intro eq;subst eq;simp only[Ax,Fi,or_false]at hq;rcases hq with q|q
   .show Co b q
   .show Co D q
 done:=by
  intro X m hw Z hc i C s G H E I hf st hg;subst m hw Z;obtain⟨⟨old,L⟩,T⟩:=st;let#[n,rfl]:=hg;let#[its,R,pl,hz]:=I.tuple n;let Q:=↥R;apply wpAny_pyNext_enum_endD (Et.draws (A:=X.A.in1) (I.ok.hd hc) it a t its.toArray) L (show Heap.IsTupleIter s.heap it a its.toArray.size/\Rn s.heap a its.toArray from#[by rw[Bg,<-Q];show T,pl]) λh' hk=>#[rfl,?_]
  show I.turnedT (tk:=s.toks) hf λq o hq eq=>hk q o (λz=>hq (by simp[z])) eq
 self:=λ_ _ _ _ _ st h=>by
  obtain⟨⟨old,L⟩,_⟩:=st;show Pb L h
def zdW(K:Ac)(ta:TA):TI:=λG H R=>ta G H λvs B=>∃a xs,vs=[.ref a]/\bJ K B a xs/\R (KW K a xs) B
theorem zdX{a:Cm}{ta:TA}{p pos:Ih}{es:↑Cm}{kx:Nat}{r:Ih}(hg:Gl X "enumerate")(N:X.mg "enumerate" = ae)(T:PA X [a] ta)(F:Cg [a] X.env=[(ac,El a X.env)]:=by rfl):
  PI X (.Tuple es kx r) (.Call (.Name "enumerate" p) [a] [] pos) (zdW X.K ta):=by
 intro C s G H R I h;apply Wu (fP I hg N boot_enumerate (Bx (aV (T pos C s G H _ I h) λus U E=>?_) F rfl));let#[vs,B,M,l,W]:=E;let#[a,xs,rfl,n,q]:=W;let#[u,rfl,ru]:=vals1 l;cases ru;let#[its,j,pl,hz]:=M.tuple n;let z:a<⇑U:=by let#[o,e,_]:=pl;show Ba e
 apply Et.call_new pl λh' J Y k=>?_;apply Pb J ?_;apply#[⇑U+1,[⇑U+1,⇑U],_,_,B,rfl,M.kept (t':=U.toks) k,zdV a _ _ xs (D8 1 ∅) (Ca (Bl (Oi z))) (Bl z),#[#[_,J],Y],λq hq=>?_,q];let b:⇑U<=q:=by
  simp only[Ax,Fi,or_false]at hq;rcases hq with e|e
  .rw[e];show D9 1
  .rw[e];show Aj _
 show M.fpOk b (M.hok.fresh b)
end
section
variable {X:Cx}{a:Cm}
abbrev A1(ta:cV):gL:=λU M R=>ta U M λws I=>∃L,ws=[.tup L]/\R (gM 0 L) (λ_=>True) I
theorem zdY{kx:Nat}(hg:Gl X "enumerate")(N:X.mg "enumerate" = ae)(T:A3 X [a] m)(F:Cg [a] X.env=[(ac,El a X.env)]:=by rfl):PI X (.Tuple es kx S) (.Call (.Name "enumerate" p) [a] [] pos) (fY X.K (A1 m)):=
 (zdX hg N T F).weak λG H Q E=>E.el λU M R as O h k=>#[U,M,_,as,O,h,λvs B ws I V j d #[L,o,r]=>by
  subst o;let#[v,rfl,av]:=d.one;show av.tupE λb xs D z c=>#[b,xs,by rw[D],bJ.of z,k _ _ _ _ _ V j (by
   let st:∀H M,Kp B I H M->AM X.K H M->bJ X.K H b xs:=λH M k _=>bJ.of (k.fr _ _ (j.noTup z) z).1;apply#[λi H M k O kp hi=>#[st H M k O,by rw[kK]at hi;rw[↥c];show hi],λH M k O kp=>#[st H M k O,by rw[kK,↥c]],λi H M x l k O kp hi y=>?_];let#[f,u,C,P,rfl,rfl]:=y;let#[w,hw,av]:=(c.kp j k).getV C;let#[g,t]:=O.tup (u:=.tup [.int (i:Nat),u]) P;show#[.tup [.int ((i:Nat):Int),w],by rw[rS,hw];simp,t,g,.tup b7 (.cons (.int _) (.cons (av.go (go_same P)) .nil))]) r]]
end
section
variable {X:Cx}
theorem v8(ok:cR P w H h)(e:H a=aa (.frz o (.dK ks))):∃vs es ep,KV ks vs/\o.data=.dict es ep/\h.DictAt (bT P w) a vs ep/\(a==Gi)=ac:=by
 let#[f,hz,N,vs,R,s,es,ep,L,r]:=(show bZ P w H h a (.frz o (.dK ks)) from ok a _ e);rw[f]at L;cases L;show#[vs,es,ep,R,r.2.1,#[o,es,f,r],N]
noncomputable def v9(a:Am)(o:Nl)(ks:↑(aC×V)):It:=
 #[λi H=>H a=aa (.frz o (.dK ks))/\i<↥ks,
   λi H x l=>∃p z,ks[i]? = aa z/\H p=ae/\x=.ref p/\l=aL H p (.tup [kV z.1,z.2]),
   λi H=>H a=aa (.frz o (.dK ks))/\i=↥ks]
theorem zdZ(r:KV ks vs){i:Nat}(h:ks[i]? = aa z):∃x,vs[i]? = aa (z.1,x)/\RelV z.2 x:=by
 induction r generalizing i with
 | nil=>cases h
 | @cons p q ps qs hq t E=>
  cases i with
  | zero=>cases h;let#[W,n]:=q;cases hq.1;show#[n,rfl,hq.2]
  | succ i=>rw[Ek]at h⊢;show E h
theorem zd0{P:Be}{w:Bv}{K:Ac}{es:↑Cm}{kx:Nat}{r:Ih}(a it:Am)(o:Nl)(ks:↑(aC×V))(en:Array Eu)(ep:Nat)(hd:o.data=.dict en ep)(n:a≠it):
  iK P w K (.Tuple es kx r) (v9 a o ks) [it] it (λi h=>∃ok p,IsItemIter h it a i ↥ks ep ok p) where
 mem:=by simp
 obj:=λi h st b Y=>by
  cases (by simpa using Y:b=it);let#[ok,p,e]:=st;show#[_,e,λv z=>by cases z]
 keep:=λi h h' st k=>by
  let#[ok,p,e]:=st;show#[ok,p,k it (by simp) _ e]
 item:=by
  intro X m hw Z hc i C s G H E I hf st hg;subst m hw Z;let#[ok,p,L]:=st;let#[J,hi]:=hg;let#[vs,c,t,R,g,T,_]:=v8 I.hok J;cases hd.symm.trans g;obtain⟨z,hz⟩:∃z,ks[i]? = aa z:=#[_,Bj hi];let#[x,B,S]:=zdZ R hz;rw[↥R]at L;apply wpAny_pyNext_items_item L T B λkey h' u f N hsz hk=>?_;apply#[_,rfl,wpAny_letOwnedTupleGo_items f λy U sb=>?_];let d:H ⇑s=ae:=I.hok.fresh (Aj _);let D:it<⇑s:=Ba L;let j:∀q o,q∉[it]->s.heap.get? q=aa o->y.get? q=aa o:=λq o hq eq=>by
   let hq:q≠it:=by simpa using hq
   show(sb.2 q hq).trans (hk q o hq eq)
  let l:y.get? ⇑s=aa {cls:=.type "tuple",data:=.seq [key,x].toArray}:=(sb.2 _ (Co D)).trans N;let M:Inv X C G (aL H ⇑s (.tup [kV z.1,z.2])) {s with heap:=y,toks:=s.toks}:=I.laidT (its:=[key,x]) hf j (by change 2<=Ap;decide) (.cons (tV u) (.cons S .nil)) l;apply#[.ref ⇑s,_,M,rfl,#[⇑s,z,hz,d,rfl,rfl],#[key,x,by rw[↥R];show U],λq hq=>?_];rw[bD]
  .show(hf q hq).1
  .cases (by simpa using hq:q=it);show Bl D
 done:=by
  intro X m hw Z hc i C s G H E I hf st hg;subst m hw Z;let#[ok,p,L]:=st;let#[J,rfl]:=hg;let#[vs,c,t,R,g,T,_]:=v8 I.hok J;cases hd.symm.trans g;rw[↥R]at L;apply wpAny_pyNext_items_end (I.ok.hd hc) L T (by simp) λh' hk=>#[rfl,?_]
  show I.turnedT (tk:=s.toks) hf λq o hq eq=>hk q o (λz=>hq (by simp[z])) eq
 self:=λ_ _ _ _ _ st h=>by
  let#[ok,p,e]:=st;show PySem.W.kcp_self e h
abbrev rItems:V->↑V->Hp->VK->Prop:=λx vs H Q=>∃a o ks,x=.ref a/\vs=[]/\H a=aa (.frz o (.dK ks))/\∀p,H p=ae->Q (.ref p) (aL H p (.ext λh=>h.IsItemsView p a))
theorem zd1:fQ X "dict.items" rItems:=by
 rintro C s G H x vs v us Q I S rs ⟨a,o,ks,rfl,rfl,e,q⟩;cases (show v=Value.ref a from S);cases rs;let#[vs,es,ep,R,hd,T,N]:=v8 I.hok e;apply Kb PySem.F.slot_dict_items T.dictOf.typeIs PySem.F.entry_dict_items (PySem.F.args_dict_items_1 _) (meets_dict_items (bT X.prog X.w) a N) #[#[vs,T.dictOf],?_];let hf:=I.hok.fresh (Aj ⇑s);show#[.ref ⇑s,_,I.laid (a:=⇑s) (o:=.ext λh=>h.IsItemsView ⇑s a) (t':=s.toks) (λ_ _ z=>Af _ z) (Aj _) #[#[_,Aw _ rfl,rfl,rfl],#[_,Aw _ rfl],λL Z #[o,f,r] n=>#[o,n o f,r]],rfl,q _ hf]
end
section
variable {X:Cx}
abbrev KY(to:aP):gL:=λU M R=>to U M λd I=>∃kvs,d=.fk kvs/\R (kvs.map λp=>.tup [wK p.1,p.2]) (λ_=>True) I
theorem zd2{K:Ac}{j:Hp}{s:Mm}{a:Am}{o:Nl}{ks:↑(aC×V)}{kvs:↑(aC×W)}(g:AM K j s)(e:j a=aa (.frz o (.dK ks)))(B:bR K j s aC ks kvs):hJ K j s (v9 a o ks) (kvs.map λp=>.tup [wK p.1,p.2]) λ_=>True:=by
 let st:∀H M,Kp j s H M->H a=aa (.frz o (.dK ks)):=λH M k=>(k.fr _ _ (g.noFrz e) e).1;let hl:=Ea B;apply#[λi H M k O _ hi=>#[st H M k,by rw[Ab]at hi;lia],λH M k O _=>#[st H M k,by rw[Ab];lia],λi H M x l k O _ hi y=>?_];let#[f,z,hz,P,rfl,rfl]:=y;obtain⟨y,I,J,av⟩:∃y,kvs[i]? = aa y/\z.1=y.1/\AV K j s z.2 y.2:=by
  have:∀{ks:↑(aC×V)} {kvs:↑(aC×W)} {i:Nat},bR K j s aC ks kvs->ks[i]? = aa z->∃y,kvs[i]? = aa y/\z.1=y.1/\AV K j s z.2 y.2:=by
   intro ks kvs i r
   induction r generalizing i with
   | nil=>intro h;cases h
   | @cons p q ps qs hq t E=>
    intro h;cases i with
    | zero=>cases h;show#[q,rfl,hq]
    | succ i=>rw[Ek]at h⊢;show E h
  show this B hz
 let#[N,Y]:=O.tup (u:=.tup [kV z.1,z.2]) P;show#[.tup [wK y.1,y.2],by rw[Az,I];rfl,Y,N,.tup b7 (.cons (by rw[J];show JB _) (.cons ((av.kp g k).go (go_same P)) .nil))]
theorem zd3{o:Cm}{to:aP}{es:↑Cm}{kx:Nat}{Z apos cpos:Ih}(f:E3 X o to)(y:Hs o "items" X.env (El o X.env)=El o X.env:=by rfl)(z:(apos.endLine==cpos.line)=ab:=by rfl):
  PI X (.Tuple es kx Z) (.Call (.Attribute o "items" apos) [] [] cpos) (fY X.K (KY to)):=by
 intro C s l H Q I #[U,M,R,as,O,h,k];apply aV (C9 Of PySem.F.slot_dict_items PySem.F.type_dict_items zd1 f y z C s l H (λx L=>∃p a o ks,x=.ref p/\L p=aa (.ext λh=>h.IsItemsView p a)/\L a=aa (.frz o (.dK ks))/\Q (v9 a o ks) L) I #[U,M,_,as,O,h,λd B wd G V j ad #[kvs,J,r]=>?_]) λv g #[x,L,i,m,p,a,o,ks,ex,ep,W,q]=>?_
 .subst J;cases ad with
  | @fk a n ks _ e P q=>
   apply#[.inr (.inr (.inl #[rfl,.inl #[_,.inr #[_,e]]])),a,n,ks,rfl,rfl,e,λp S=>?_];let#[N,t]:=j.tup (u:=.ext λh=>h.IsItemsView p a) S;let D:aL B p (.ext λh=>h.IsItemsView p a) a=aa (.frz n (.dK ks)):=(bD (eR e S)).trans e;show#[p,a,n,ks,rfl,b7,D,k _ _ _ _ _ (V.trans t) N (zd2 N D (nZ P (q.newT S))) r]
 .subst ex;cases (show v=Value.ref p from m);let c:g.heap.IsItemsView p a:=(show bZ X.prog X.w L g.heap p (.ext λh=>h.IsItemsView p a) from i.hok p _ ep).1;let#[vs,E,ep',A,hd,T,_]:=v8 i.hok W;let hge:⇑g<=⇑g:=Aj _;apply wpAny_pyIter_items c T #[⇑g,[⇑g],_,v9 a o ks,L,rfl,i.kept (t':=g.toks) λb o e=>Af _ e,zd0 a _ o ks E ep' hd (Bl T.lt_size),#[.none,.none,by rw[↥A];show Aw _ rfl],λb Y=>?_,q];cases (by simpa using Y:b=⇑g);show i.fpOk hge (i.hok.fresh hge)
end
section
variable {X:Cx}
theorem zd4:bF X (Fq .Add) (λx y H Q=>∃a b xs,x=.ref a/\y=.ref b/\bJ X.K H a []/\bJ X.K H b xs/\Q (.ref b) H):=by
 rintro C s G H x y v u Q I S N ⟨a,b,xs,rfl,rfl,T,Y,q⟩;cases (show v=Value.ref a from S);cases (show u=Value.ref b from N);obtain⟨its,R,⟨⟨cls,M,data,sl⟩,f,hc,n,hd⟩,_⟩:=I.tuple T;obtain⟨t,h,⟨⟨m,k,l,i⟩,g,d,j,U⟩,_⟩:=I.tuple Y;cases R;simp only at hc hd d U;subst hc hd d U;show Vp #[_,f,rfl] #[_,g,rfl] Tn Uy Ot Og (Ny _ _) (tuple_addW0 a b _ t.toArray n j M k sl i rfl) #[f,g,.ref b,H,I,rfl,q]
theorem zd5:qR X "list.pop" (λx vs H Q=>∃l y ys,x=.ref l/\vs=[.int 0]/\H l=aa (.lst (y::ys))/\Q y (aL H l (.lst ys))):=by
 intro C s G H x vs v us Q I S R h;let#[l,y,ys,rfl,rfl,B,q]:=h;cases S;let#[a,rfl,d,W]:=vals1 R;subst W;let#[z,its,n,r,hl,e]:=I.lstM B;cases r with
 | @cons _ u _ J ru r=>
  apply Lf Qd #[_,e,rfl] F.entry_list_pop (F.args_list_pop_2 _ _) (MeetsSeq.list_pop_at l _ n 0 d 0 u ∅ (by simp[Wv]) rfl (by rw[Bg];lia)) #[e,?_];apply#[y,_,I.lset (its':=J) B e ?_ r ?_,ru,q]
  .rw[List.eraseIdxIfInBounds_toArray];rfl
  .show Ar (Ht _) z
noncomputable def KZ(K:Ac)(a:Am)(xs:↑V):It:=
 #[λi H=>bJ K H a xs/\i<↥xs,λi H x l=>l=H/\xs.reverse[i]? = aa x,λi H=>bJ K H a xs/\i=↥xs]
theorem zd6{P:Be}{w:Bv}{K:Ac}{tg:Cm}(a it:Am)(xs:↑V)(n:a≠it):iK P w K tg (KZ K a xs) [it] it (λi h=>Rv.IsRv h it a ((↥xs:Int)-1-(i:Int))) where
 mem:=by simp
 obj:=λi h st b Y=>by
  cases (by simpa using Y:b=it);show#[_,st,λv z=>by cases z]
 keep:=λi h h' st k=>k it (by simp) _ st
 item:=by
  intro X m hw Z hc i C s G H E I hf st hg;subst m hw Z;let#[hq,hi]:=hg;let#[its,R,p,hz]:=I.tuple hq;let hl:=↥R;let B:xs.reverse[i]? = aa xs[↥xs-1-i]:=by rw[Mr hi];show Bj (by lia)
  let#[u,W,ru]:=R.get (Bj (l:=xs) (i:=↥xs-1-i) (by lia));let#[f0,T,t,g,j,y]:=hf it (by simp);rw[show(↥xs:Int)-1-(i:Int)=((↥xs-1-i:Nat):Int) by lia]at st;apply Rv.next_item st p (x:=u) (by simpa using W) (by have:=iV;lia) λh' tk N sb=>?_;let M:Inv X C G H {s with heap:=h',toks:=tk}:=I.turned (t':=tk) (λb o Y e=>(sb.2 b Y).trans e) f0 T g j y;apply#[u,rfl,oQ (s:={s with heap:=h',toks:=tk}) N rfl rfl ∅ #[_,H,M,ru,#[rfl,B],?_,λb Y=>(hf b Y).1]];rw[show(↥xs:Int)-1-((i+1:Nat):Int)=((↥xs-1-i:Nat):Int)-1 by lia];show N
 done:=by
  intro X m hw Z hc i C s G H E I hf st hg;subst m hw Z;let#[hq,rfl]:=hg;rw[show(↥xs:Int)-1-(↥xs:Int) = -1 by lia]at st;apply Rv.next_end (I.ok.hd hc) st λh' hk=>#[rfl,?_]
  show I.turnedT (tk:=s.toks) hf λq o hq eq=>hk q o (λz=>hq (by simp[z])) eq
 self:=λ_ _ _ _ _ st h=>Rv.iter_self st h
theorem zd7(hg:Gl X "reversed")(N:X.mg "reversed" = ae)(T:PA X [a] ta)(F:Cg [a] X.env=[(ac,El a X.env)]:=by rfl):
  PI X tg (.Call (.Name "reversed" p) [a] [] pos) (λG H R=>ta G H λvs B=>∃a xs,vs=[.ref a]/\bJ X.K B a xs/\R (KZ X.K a xs) B):=by
 intro C s G H R I h;apply Wu (fP I hg N xW (Bx (aV (T pos C s G H _ I h) λus U E=>?_) F rfl));let#[vs,B,M,l,W]:=E;let#[a,xs,rfl,n,q]:=W;let#[u,rfl,ru]:=vals1 l;cases ru;let#[its,j,pl,hz]:=M.tuple n;let hl:=↥j;let z:a<⇑U:=by let#[o,e,_]:=pl;show Ba e
 apply Rv.call_rev pl (by rw[Bg,<-hl];show hz) λtk=>?_;let st:Rv.IsRv (U.heap.push (Rv.rvObj a ((its.toArray.size:Int)-1))) ⇑U a ((its.toArray.size:Int)-1):=Aw _ rfl;apply Rv.iter_self st #[⇑U,[⇑U],_,_,B,rfl,M.kept (t':=tk) (λb o e=>Af _ e),zd6 a _ xs (Bl z),?_,λb Y=>?_,q]
 .rw[Bg,<-hl]at st;change Rv.IsRv _ _ _ ((↥xs:Int)-1-((0:Nat):Int));rw[show(↥xs:Int)-1-((0:Nat):Int)=(↥xs:Int)-1 by lia,show(its.toArray.size:Int)=(↥xs:Int) by rw[Bg,hl]];show st
 .cases (by simpa using Y:b=⇑U);show M.fpOk (Aj _) (M.hok.fresh (Aj _))
end
section
variable {X:Cx}{a b:Cm}{ta tb:aP}{pos:Ih}
abbrev nK:R3:=λx y M R=>∃xs ys,x=.tup xs/\y=.tup ys/\↥xs+↥ys<=Ap/\R (.tup (xs++ys)) M
theorem zd8:bF X (Fq .Add) (cJ X.K nK):=by
 rintro C s G H x y v u Q I S N ⟨P,l,M,R,O,d,m,⟨xs,ys,rfl,rfl,hl,r⟩,k⟩
 by_cases B:xs=[]
 .subst B;apply d.tupE λf o J T W=>m.tupE λg F D t n=>?_;cases W.nil_;show zd4 C s G H x y v u Q I S N #[f,g,F,J,D,bJ.of T,bJ.of t,by rw[<-D];show k.at O m r]
 .show GC C s G H x y v u Q I S N #[.tup xs,.tup ys,M,R,O,d,m,#[B,hl,r],k]
def K0:W->↑W->Mm->K3->Prop:=λx vs M R=>∃l y ys,x=.ref l/\vs=[.int 0]/\M l=aa (.lst (y::ys))/\R y (put M l (.lst ys))
theorem zd9:fQ X "list.pop" (jQ X.K K0):=by
 rintro C s G H x xs v us Q I S rs ⟨P,ws,M,R,O,d,m,⟨l,y,ys,rfl,rfl,e,r⟩,k⟩;let#[vs,f,q]:=O.lst e;cases q with
 | @cons A p _ _ av q=>
  let#[z,J,E]:=m.one;let#[N,t]:=O.write (o:=.lst ys) (u:=.lst p) e #[_,b7,q.wr O e];show zd5 C s G H x xs v us Q I S rs #[l,A,p,d.inv,by rw[J,E.inv],f,k _ _ _ _ t N (av.wr O e) r]
abbrev A2(ta:cV):gL:=λU M R=>ta U M λws I=>∃L,ws=[.tup L]/\R L.reverse (λ_=>True) I
theorem zea(hg:Gl X "reversed")(N:X.mg "reversed" = ae)(T:A3 X [a] m)(F:Cg [a] X.env=[(ac,El a X.env)]:=by rfl):PI X tg (.Call (.Name "reversed" p) [a] [] pos) (fY X.K (A2 m)):=
 (zd7 hg N T F).weak λG H Q E=>E.el λU M R as O h k=>#[U,M,_,as,O,h,λvs B ws I V j d #[L,o,r]=>by
  subst o;let#[v,rfl,av]:=d.one;show av.tupE λb xs D z c=>#[b,xs,by rw[D],bJ.of z,k _ _ _ _ _ V j (by
   let st:∀H M,Kp B I H M->bJ X.K H b xs:=λH M k=>bJ.of (k.fr _ _ (j.noTup z) z).1;apply#[λi H M k O kp hi=>#[st H M k,by rw[Ds]at hi;rw[↥c];show hi],λH M k O kp=>#[st H M k,by rw[Ds,↥c]],λi H M x l k O kp hi y=>?_];let#[rfl,y]:=y;let#[w,hw,av]:=((c.kp j k).reverse).getV y;show#[w,hw,Kp.refl O,O,av]) r]]
abbrev K1(ta tb:aP):aP:=λU M R=>∀p,M p=ae->ta U (put M p (.dK [])) λx I=>tb U I λy G=>G p=aa (.dK [])/\∃k:aC,x=wK k/\R (.ref p) (put G p (.dK [(k,y)]))
theorem zeb(T:E3 X a ta)(Y:E3 X b tb):E3 X (.Dict [aa a] [b] pos) (K1 ta tb):=
 (TX (DK T Y DJ) rfl rfl (by simp) (by simp)).weak λG H Q E=>E.el λU M R as O h k=>λp S=>by
  let#[g,i]:=O.laid (o:=.dK []) (u:=.dK []) S #[[],b7,.nil];apply#[U,_,_,as.kp O i,g,h p (O.nonM S),λx B P I V j d L=>#[U,I,_,(as.kp O i).kp g V,j,L,λy Z l c t N m #[e,n,ex,r]=>?_]];subst ex;let#[ks,f,q]:=N _ _ e;cases q;let#[W,v]:=N.write (o:=.dK [(n,l)]) (u:=.dK [(n,y)]) e #[_,b7,.cons #[rfl,m.wr N e] .nil];show#[f,[(n,y)],by rw[(d.kp j t).key];rfl,by simp,k _ _ _ _ (((i.trans V).trans t).trans v) W (.ref _) r]
end
abbrev CT:=↑(Av×↑Nat)
structure fG(rs:↑aD):Prop where
 ne:rs≠[]
 few:↥rs<=400
 nam:↥(namesOf rs)<=20
 prt:∀r∈rs,↥r.parts<=4
 wds:∃U:↑Av,↥U<64/\vN rs U
 hd:∀r∈rs,dB r.name
 pt:∀r∈rs,∀t∈r.parts,dB t\/jB t
 own:∀r∈rs,∀t∈r.parts,a9 t=ownB rs t
theorem zec(h:dB p\/jB p):Sh p:=h.elim dB.sh jB.sh
theorem fG.shn(g:fG rs):∀r∈rs,Sh r.name:=λr G=>(g.hd r G).sh
theorem fG.sh(g:fG rs):∀r∈rs,∀t∈r.parts,Sh t:=λr G t ht=>zec (g.pt r G t ht)
noncomputable def dY(rs:↑aD)(f:Av->↑Av)(t:Av):↑Av:=if t∈namesOf rs\/a9 t=ac then [t] else f t
theorem lZ{f:Av->↑Av}(h:t∈namesOf rs\/a9 t=ac):dY rs f t=[t]:=Xb h
theorem fG.sem{f:Av->↑Av}(g:fG rs)(G:r∈rs):∀t∈r.parts,dY rs f t=[t]:=λt ht=>lZ (by
 rw[g.own r G t ht];cases e:ownB rs t with
 | true=>show .inl (Xc e)
 | false=>show .inr rfl)
def Qz(rs:↑aD)(f:Av->↑Av)(H d:Nat)(z:NP×W):Prop:=∃s,z.2=.tup s/\Pf a9 rs (dY rs f) H d 0 s z.1.2 (dY rs f z.1.1)
def Pz(rs:↑aD)(z:NP×W):Prop:=(∀t∈z.1.2,dB t\/jB t)/\↥z.1.2<=4
theorem fG.gl(g:fG rs):GL rs:=#[Ar g.few ∅,g.prt,g.wds]
theorem fG.few100(g:fG rs):↥rs<=20000:=Ar g.few ∅
noncomputable def iT(c:↑Nat):↑W:=c.map λn=>W.int (n:Nat)
noncomputable def fV(c:CT):↑(aC×W):=c.map λe=>(Sum.inr e.1,W.tup (iT e.2))
inductive Cn(rs:↑aD)(X:Av):↑Nat->Av->Prop
 | nil:Cn rs X [] X
 | snoc {c:↑Nat} {n:Nat} {r:aD} {Z:Av}:Cn rs X c r.name->rs[n]? = aa r->r.parts=[Z]->Cn rs X (c++[n]) Z
noncomputable def wA(c:↑Nat)(us:↑W):↑W:=c.foldr (λn acc=>[gB n acc]) us
theorem Cn.pf{sem:Av->↑Av}(h:Cn rs X c Z)(g:∀r∈rs,dB r.name){H d:Nat}(S:Pf a9 rs sem H d 0 us ps [Z]):Pf a9 rs sem H (d+↥c) 0 (wA c us) ps [X]:=by
 induction h generalizing us d with
 | nil=>show S
 | @snoc c n r Z _ G e E=>
  have:=E (Pf.one (g r (Au G)).nm G (by rw[e];show(by decide:1<=100)) (by rw[e];show S));unfold wA;rw[List.foldr_append,Ag,<-Lo,Nat.add_right_comm];show this
noncomputable def sglB(rs:↑aD)(r:aD):Bool:=match r.parts with
 | [t]=>ownB rs t
 | _=>ac
noncomputable def numsOf(rs:↑aD)(X:Av):↑Nat:=(rs.zipIdx.filter λx=>decide (x.1.name=X)).map (·.2)
theorem p9{n:Nat}:n∈numsOf rs X↔∃r,rs[n]? = aa r/\r.name=X:=by
 unfold numsOf;rw[Ao];constructor
 .rintro⟨⟨r,k⟩,h,rfl⟩;rw[Gb,decide_eq_true_eq]at h;show#[r,(Hx.mp h.1),h.2]
 .rintro⟨r,h,e⟩;show#[(r,n),by rw[Gb,decide_eq_true_eq];show#[Hx.mpr h,e],rfl]
inductive Rc(rs:↑aD):Av->Av->Prop
 | rf {X:Av}:Rc rs X X
 | st {r:aD} {Y Z:Av}:r∈rs->r.parts=[Y]->ownB rs Y=ab->Rc rs Y Z->Rc rs r.name Z
theorem Rc.snoc{rs:↑aD}{X Y:Av}{r:aD}(h:Rc rs X r.name)(G:r∈rs)(e:r.parts=[Y])(o:ownB rs Y=ab):Rc rs X Y:=by
 generalize hz:r.name=Z at h
 induction h with
 | rf=>rw[<-hz];show .st G e o .rf
 | st a b c _ E=>show .st a b c (E hz)
def iA(rs:↑aD)(X:Av)(l:↑Av):Prop:=∃r∈rs,Rc rs X r.name/\r.parts=l/\sglB rs r=ac/\∀t∈l,eL rs t=ab
theorem Cn.rc(h:Cn rs X c Z):ownB rs Z=ab->Rc rs X Z:=by
 induction h with
 | nil=>show λ_=>.rf
 | snoc _ G e E=>show λo=>(E (oJ (Au G))).snoc (Au G) e o
def wB:a8:=λws M R=>∃(rs:↑aD) (X:Av),ws=[bE rs,.str X]/\↥rs<=400/\aR ((numsOf rs X).map λ(n:Nat)=>W.int n) M R
def A4:a8:=λws M R=>∃(rs:↑aD) (r:aD),ws=[.dk (ownOf rs),bX r]/\R (.bl (sglB rs r)) M
def K2:a8:=λws M R=>∃(rs:↑aD) (X:Av),ws=[bE rs,.dk (ownOf rs),.str X]/\fG rs/\X∈namesOf rs/\∀c:CT,(∀Z,Rc rs X Z->Z∈c.map (·.1))->↥c<=↥(namesOf rs)->(∀e∈c,↥e.2<=19/\Cn rs X e.2 e.1)->i4 (fV c) M R
def K4:a8:=λws M R=>∃(c:↑Nat) (n:Nat) (ps:↑Av),ws=[.tup (iT c),.int n,.tup (ps.map W.str)]/\↥ps<=1000/\R (.tup (wA c [.tup [.int (n:Nat),sC ps]])) M
def K5(P:Be)(w:Bv)(C:Cc):a8:=λws M R=>∃(a d dx:Am) (l:↑(NP×W)) (rs:↑aD) (X:Av) (kvs:↑(aC×W)) (f:Av->↑Av),ws=[.ref a,bE rs,.str X,.dk kvs]/\j7 P w C.p M a d dx l/\↥l<=200000/\fG rs/\X∈namesOf rs/\(∀t,(aM kvs (Sum.inr t:aC)).isSome=lQ rs ab t)/\∀l',Ex (λz=>z.1.1=X/\(Qz rs f 0 20 z/\Pz rs z)/\iA rs X z.1.2) l (↥rs*↥(namesOf rs)) (λx=>x.1=X/\iA rs X x.2) l'->R .non (put M d (.dn P w [0] (kvsOf l')))
noncomputable abbrev noL(F:Av):↑(NP×W):=[((F,[F,F]),.tup [.tup [.int 0,.tup [.int 0,.int 1]]])]
def A5:a8:=λws M R=>∃rs:↑aD,ws=[bE rs]/\rs≠[]/\R (p6 (noL (f0 rs))) M
noncomputable abbrev zed:↑Av:=["grammar","name"]
abbrev zee:aE:=
   (bH (d8 (uV (aA aG aB)) (e8 2 (cB (a6 0) (cB (a6 1) eZ))) (bU (aH (dU ac) (vX aN bM) aT)) aG [ae,ae,aa 1]))
noncomputable abbrev zef:↑Av:=["grammar","name","plain"]
abbrev zeg(P:Be)(w:Bv)(C:Cc):aE:=
   (b8 (eA C.p "put_rule" (nG P w C.p) aT (aA aN (aA (bA (aA aN (aA aN aB))) (aA (bA (aA (bA (aA bM (aA (bA (aA bM (aA bC aB))) aB))) aB)) aB)))))
abbrev zeh(P:Be)(w:Bv)(C:Cc):aE:=(aF (aQ 1 (aS oK (aA aG aB))) (aF (aQ 2 (lL C.p (p7 P w C.p) aB)) (aF (zeg P w C) (bH (eA C.p "grammar_and_backs" (p8 P w C.p) aT aB)))))
noncomputable abbrev zei:↑Av:=["own","rule"]
abbrev zej:aE:=
   (bH (rD (aH (dU ac) (a7 cT (aA (vX aN bC) aB)) bC) (aH (cL ac) (vX (vX aN bC) bM) aG)))
noncomputable abbrev zek:↑Av:=["grammar","own","name","chains","waiting","here","number","part"]
abbrev zel:aE:=
   (aQ 3 (K1 aT (bA aB)))
abbrev zem:aE:=
   (aQ 4 (gH (aA aT aB)))
abbrev zen:aE:=
   (aF (aQ 5 (c9 "list" K0 bG (aA bM aB)))
   (dG (cA dH (bP (aS wB (aA aG (aA cG aB))))) (a6 6)
    (aF (aQ 7 (uB (dS (aS A4 (aA aN (aA (vX aG dO) aB)))) (vX (vX (vX aG dO) bC) bM) cG))
   (b9 (bU (aH (cL ab) eE bB))
    (aF (fX (aH nK (vX bB cG) (bA (aA dO aB))) (i8 bB eE))
   (b8 (c9 "list" eS bG (aA eE aB))))
    cS))))
abbrev zeo:aE:=
   (jX (dS bG) zen)
abbrev zep:aE:=
   (bH bB)
abbrev zeq:aE:=(aF zel (aF zem (aF zeo zep)))
noncomputable abbrev zer:↑Av:=["chain","number","parts","pieces","single"]
abbrev zes:aE:=
   (aQ 3 (bA (aA (bA (aA aN (aA (aS vY (aA aT aB)) aB))) aB)))
abbrev zet:aE:=
   (aQ 3 (bA (aA (bA (aA bG (aA bB aB))) aB)))
abbrev zeu:aE:=
   (dG (A2 (aA aG aB)) (a6 4) zet)
abbrev zev:aE:=
   (bH bB)
abbrev zew:aE:=(aF zes (aF zeu zev))
noncomputable abbrev zex:↑Av:=["plain","grammar","name","fruitful","own","here","chain","number","parts","is_fruitful"]
abbrev zey(P:Be)(w:Bv)(C:Cc):aE:=
   (dG (cA dH (bP (aS wB (aA aN (aA cG aB))))) (a6 7)
    (aF (aQ 8 (vX (vX aN eE) bC))
   (aF (aQ 9 (a7 rM (aA (bP (d8 (cA dH jR) (a6 0) eU (mL (aH (cL ac) aG aN) (aH (cL ab) aG aT)) [ae,aa 3,aa 4])) aB)))
   (b9 (n5 (dS mK) (iN (dS (aS A4 (aA bG (aA (vX aN eE) aB))))))
    (b8 (eA C.p "put_rule" (nG P w C.p) aG (aA aT (aA jR (aA (aS K4 (aA dO (aA eE (aA jR aB)))) aB)))))
    cS))))
abbrev zez(P:Be)(w:Bv)(C:Cc):aE:=(aF (aQ 4 (aS lU (aA (bP (aS jF (aA aN aB))) aB))) (dG (KY (pZ (aS K2 (aA aN (aA bG (aA aT aB)))))) (e8 2 (cB (a6 5) (cB (a6 6) eZ))) (zey P w C)))
noncomputable def wC(X:Av):W->Option W
 | .tup [.int i,.tup (.str n::_)]=>if n=X then aa (.int i) else ae
 | _=>ae
def A6(rs:↑aD):∀n:Nat,gM n (rs.map bX)=(rs.zipIdx n).map λx=>W.tup [.int (x.2:Int),bX x.1]:=by
 induction rs with
 | nil=>intro n;rfl
 | cons r rs E=>intro n;rw[Bi,Ks,Bi,<-E];rfl
def zeA{F:W->Option W}{ws:↑W}{os:↑(Option W)}(h:Gk (λw o=>o=F w) ws os):os.filterMap id=ws.filterMap F:=by
 induction h with
 | nil=>rfl
 | cons a _ E=>rw[a,Ez,Ez,E];rfl
def zeB(rs:↑aD)(X:Av):(gM 0 (rs.map bX)).filterMap (wC X)=(numsOf rs X).map λ(n:Nat)=>W.int n:=by
 unfold numsOf;rw[A6,Lu,Br];generalize rs.zipIdx=l
 induction l with
 | nil=>rfl
 | cons x l E=>
  rw[Ez,Ec,E];let e:(wC X ∘ λx:aD×Nat=>W.tup [.int (x.2:Int),bX x.1]) x=if x.1.name=X then aa (.int x.2) else ae:=rfl;rw[e]
  by_cases h:x.1.name=X
  .rw[Xb h,Xb (Xd h)];rfl
  .rw[Xa h,Xa (by rw[Xe h];decide)]
def zeC:bK wB zee zed:=by
 rintro _ M R ⟨rs,X,rfl,hl,r⟩;apply uQ (rest:=[aa (.str X)]) (λw o=>o=wC X w) (λw hw=>?_) (small (by rw[kK,Ab];lia)) (λ_ _=>trivial) (λa b N V C D sb L Z=>?_) λos po=>?_
 .rw[A6]at hw;let#[x,_,rfl]:=Ao.mp hw;show#[_,_,rfl]
 .rw[A6]at N;obtain⟨⟨q,k⟩,B,e⟩:=Ao.mp N;cases e;let ep:wC X (.tup [.int (k:Int),bX q])=if q.name=X then aa (.int k) else ae:=rfl;show bS (b:=decide (q.name=X)) (λz=>L _ (by rw[ep,Xb (Xc z)])) λz=>Z (by rw[ep,Xa (of_decide_eq_false z)])
 .rw[zeA po,zeB];show λp S=>#[_,aZ,r p S]
def zeD:bK A4 zej zei:=by
 rintro _ M R ⟨rs,⟨nm,ps,c⟩,rfl,r⟩
 match ps,r with
 | [],r=>show#[_,aZ,r]
 | [t],r=>
  let e:sglB rs #[nm,[t],c]=(aM (ownOf rs) (Sum.inr t:aC)).isSome:=(lX rs t).symm;rw[e]at r;show#[_,#[Sum.inr t,rfl,rfl],_,aZ,r]
 | a::b::l,r=>show#[_,aZ,r]
def zeE:bK K4 zew zer:=by
 rintro _ M R ⟨c,n,ps,rfl,hl,r⟩;apply#[ps,rfl,hl,_,rfl,?_];apply eO (λi U V=>∃o,U=[aa (.tup (iT c)),aa (.int n),aa (.tup (ps.map W.str)),aa (.tup (wA (c.drop (↥c-i)) [.tup [.int n,sC ps]])),o]/\V=M) #[_,by rw[Ru,Mu];rfl,rfl] ?_ ?_
 .rintro i w U V hw ⟨o,rfl,rfl⟩ O E;let hi:=(An.mp hw).1;rw[Ds]at hi;unfold iT at hi hw;rw[Ab]at hi;rw[Mr (by rw[Ab];show hi),Ab,Az]at hw;let#[k,hk,rfl]:=Bd.mp hw;let#[L,rfl]:=An.mp hk;let e:c.drop (↥c-(i+1))=c[↥c-1-i]::c.drop (↥c-i):=by
   rw[show ↥c-(i+1)=↥c-1-i by lia,Eb L,show ↥c-1-i+1=↥c-i by lia]
  show E _ _ #[_,by rw[e];rfl,rfl]
 .rintro U V ⟨o,rfl,rfl⟩;let e:(iT c).reverse.length=↥c:=by unfold iT;rw[Ds,Ab]
  rw[e,La];show#[_,aZ,r]
def A7(c:CT)(Z:Av):aM (fV c) (Sum.inr Z:aC)=(cU c Z).map λv=>W.tup (iT v):=by
 unfold fV aM cU
 induction c with
 | nil=>rfl
 | cons e c ih=>
  rw[Bi,Ee,Ee]
  by_cases h:e.1=Z
  .rw[Xd h,Xd (show(Sum.inr e.1:aC)=Sum.inr Z by rw[h])];rfl
  .rw[Xe h,Xe (λz:(Sum.inr e.1:aC)=Sum.inr Z=>h (Ub z))];show ih
def zeF{c:CT}{Z:Av}(h:cU c Z=ae)(v:↑Nat):bW (fV c) (Sum.inr Z:aC) (.tup (iT v))=fV (c++[(Z,v)]):=by
 unfold bW;rw[Xa (by rw[show((fV c).any λkv=>decide (kv.1=(Sum.inr Z:aC)))=(aM (fV c) (Sum.inr Z:aC)).isSome from mX _ _,A7,h];decide)];unfold fV;rw[Ay];rfl
abbrev zeG:aE:=b9 (bU (aH (L2.cL ab) eE bB)) (aF (fX (aH nK (aH L2.rK bB cG) (bA (aA dO aB))) (i8 bB eE)) (b8 (c9 "list" L2.eS bG (aA eE aB)))) cS
structure gV(rs:↑aD)(X:Av)(m:Nat)(E:aD->Prop)(ch:CT)(wt:↑Av):Prop where
 nd:(ch.map (·.1)).Nodup
 own:∀k∈ch.map (·.1),k∈namesOf rs
 wk:∀k∈wt,k∈ch.map (·.1)
 top:X∈ch.map (·.1)
 cl:∀r∈rs,∀Y,r.parts=[Y]->ownB rs Y=ab->r.name∈ch.map (·.1)->r.name∈wt\/E r\/Y∈ch.map (·.1)
 len:∀e∈ch,↥e.2<↥ch/\Cn rs X e.2 e.1
 ms:↥wt+↥(namesOf rs)=↥ch+m
 mn:m<=↥(namesOf rs)
def gV.few{m:Nat}{E:aD->Prop}(I:gV rs X m E ch wt):↥ch<=↥(namesOf rs):=by
 have:=len_sub I.nd I.own;rwa [Ab]at this
def gV.to{m:Nat}{E l:aD->Prop}(I:gV rs X m E ch wt)(h:∀r∈rs,∀Y,r.parts=[Y]->ownB rs Y=ab->E r->l r\/Y∈ch.map (·.1)):gV rs X m l ch wt:=
 #[I.nd,I.own,I.wk,I.top,λr G Y e o hk=>(I.cl r G Y e o hk).imp_right λz=>z.elim (h r G Y e o) .inr,I.len,I.ms,I.mn]
def gV.add{rs:↑aD}{X y:Av}{m:Nat}{E:aD->Prop}{ch:CT}{wt:↑Av}{v:↑Nat}(I:gV rs X m E ch wt)(O:y∈namesOf rs)(P:cU ch y=ae)(c:↥v<=↥ch/\Cn rs X v y):gV rs X m E (ch++[(y,v)]) (wt++[y]):=by
 let P:y∉ch.map (·.1):=λz=>by rw[<-iG,P]at z;cases z
 let e:↥(ch++[(y,v)])=↥ch+1:=Ag;let i:(ch++[(y,v)]).map (·.1)=ch.map (·.1)++[y]:=Ay;let all:∀{p:Av->Prop},(∀k∈ch.map (·.1),p k)->p y->∀k∈(ch++[(y,v)]).map (·.1),p k:=λL Z k hk=>by
  rw[i]at hk;rcases Bb.mp hk with h|h
  .show L k h
  .rw[Ai.mp h];show Z
 apply#[?_,all I.own O,λk hk=>?_,by rw[i];show Bf _ I.top,λr J Y e o hk=>?_,λx B=>?_,?_,I.mn]
 .rw[i,Er];show#[I.nd,by simp,λa T b G z=>P (by rw[<-Ai.mp G,<-z];show T)]
 .rw[i];rcases Bb.mp hk with h|h
  .show Bf _ (I.wk k h)
  .show Bm _ h
 .rw[i]at hk⊢;rcases Bb.mp hk with h|h
  .show(I.cl r J Y e o h).imp (Bf _) λz=>z.imp_right (Bf _)
  .show .inl (Bm _ h)
 .rw[e];rcases Bb.mp B with h|h
  .show#[Oi (I.len x h).1,(I.len x h).2]
  .rw[Ai.mp h];show#[Nat.lt_succ_of_le c.1,c.2]
 .have:=I.ms;rw[e,Ag,Bz];lia
def gV.done{m:Nat}(I:gV rs X m (λ_=>False) ch [])(Z:Av)(h:Rc rs X Z):Z∈ch.map (·.1):=by
 have:∀{A B},Rc rs A B->A∈ch.map (·.1)->B∈ch.map (·.1):=λh=>by
  induction h with
  | rf=>show id
  | st a b c _ E=>show λk=>E (((I.cl _ a _ b c k).resolve_left λz=>nomatch z).resolve_left id)
 show this h I.top
def zeH:bK K2 zeq zek:=by
 rintro _ M R ⟨rs,X,rfl,g,hX,r⟩;let hf:=g.few;let hnm:=g.nam;apply λp hp=>#[aK,Sum.inr X,rfl,?_]
 rw[cF];apply λq hq=>?_;let hpq:q≠p:=λe=>by rw[e,aK]at hq;cases hq
 let hq0:M q=ae:=by rw[aW hpq]at hq;show hq
 let atp:∀{A B:MO},put (put M p A) q B p=aa A:=λ{A B}=>by rw[aW (Ca hpq),aK]
 let setp:∀{A A' B:MO},put (put (put M p A) q B) p A'=put (put M p A') q B:=λ{A A' B}=>by rw[mH hpq,cF]
 apply mZ (λm τ M'=>∃ch wt o5 o6 o7,τ=[aa (bE rs),aa (.dk (ownOf rs)),aa (.str X),aa (.ref p),aa (.ref q),o5,o6,o7]/\M'=put (put M p (.dK (fV ch))) q (.lst (wt.map W.str))/\gV rs X m (λ_=>False) ch wt)
  #[_,[(X,[])],[X],_,_,_,rfl,rfl,#[by simp,λk hk=>by rw[Ai.mp hk];show hX,λ_ h=>h,Ai.mpr rfl,λr _ Y _ _ hk=>.inl hk,λe he=>by rw[Ai.mp he];show#[Nat.one_pos,.nil],rfl,Aj _]] ?_
 rintro m τ M' ⟨ch,wt,o5,o6,o7,rfl,rfl,I⟩ Dw hDw;apply .inl #[_,aK,bS (λh=>?_) λh=>?_]
 .cases wt with
  | nil=>cases h
  | cons hr wt=>
  let hms:(↥wt+1)+↥(namesOf rs)=↥ch+m:=I.ms;let hcl:=I.few;obtain⟨m,rfl⟩:∃m',m=m'+1:=#[m-1,by lia];let Ip:gV rs X m (λr=>r.name=hr) ch wt:=#[I.nd,I.own,λk h=>I.wk k (Bp _ h),I.top,λr h Y e o hk=>(I.cl r h Y e o hk).elim (λz=>(Ax.mp z).elim (λz=>.inr (.inl z)) .inl) λz=>.inr (.inr (z.resolve_left id)),I.len,by lia,by have:=I.mn;lia];let hh:hr∈ch.map (·.1):=I.wk hr Bw;apply#[dC aK,_,_,_,rfl,rfl,aK,?_];rw[cF];apply#[rs,hr,rfl,by lia,aR.frz ?_];apply eO (λj τ M'=>∃ch2 wt2 o6 o7,τ=[aa (bE rs),aa (.dk (ownOf rs)),aa (.str X),aa (.ref p),aa (.ref q),aa (.str hr),o6,o7]/\M'=put (put M p (.dK (fV ch2))) q (.lst (wt2.map W.str))/\gV rs X m (λr=>r.name=hr/\∀n∈(numsOf rs hr).take j,rs[n]?≠aa r) ch2 wt2/\hr∈ch2.map (·.1)) #[ch,wt,_,_,rfl,rfl,Ip.to (λ_ _ _ _ _ z=>.inl #[z,λ_ h=>nomatch h]),hh] ?_ ?_
  .rintro j x τ M' hx ⟨ch2,wt2,o6,o7,rfl,rfl,I2,hh2⟩ Dx hD;rw[Az]at hx;let#[n,hn,rfl]:=Bd.mp hx;let hc2:=I2.few;let hms2:=I2.ms;let hmn2:=I2.mn;let#[ru,hru,en]:=p9.mp (Au hn);let#[ru',h1,h2]:=lV (rs:=rs) (n:=n) (An.mp hru).1;cases (show aa ru'=aa ru from h1.symm.trans hru);let#[v,hv]:=Ed.mp (iG.mpr hh2);let hvl:↥v<↥ch2/\Cn rs X v hr:=by
    let#[a,b,e3]:=rX hv;show I2.len (hr,v) (by rw[e3];simp)
   let fin:∀{D:D3} {y:Av},y∈namesOf rs->(y∉ch2.map (·.1)->Cn rs X (v++[n]) y)->(∀Y,ru.parts=[Y]->ownB rs Y=ab->Y=y)->(∀ch3 wt3,gV rs X m (λr=>r.name=hr/\∀n∈(numsOf rs hr).take (j+1),rs[n]?≠aa r) ch3 wt3->hr∈ch3.map (·.1)->D.nx [aa (bE rs),aa (.dk (ownOf rs)),aa (.str X),aa (.ref p),aa (.ref q),aa (.str hr),aa (.int n),aa (.str y)] (put (put M p (.dK (fV ch3))) q (.lst (wt3.map W.str))))->zeG D [aa (bE rs),aa (.dk (ownOf rs)),aa (.str X),aa (.ref p),aa (.ref q),aa (.str hr),aa (.int n),aa (.str y)] (put (put M p (.dK (fV ch2))) q (.lst (wt2.map W.str))):=λ{D y} hy hyc hyY k=>by
    let nx:∀{ch3 wt3},gV rs X m (λr=>r.name=hr/\∀n∈(numsOf rs hr).take j,rs[n]?≠aa r) ch3 wt3->y∈ch3.map (·.1)->gV rs X m (λr=>r.name=hr/\∀n∈(numsOf rs hr).take (j+1),rs[n]?≠aa r) ch3 wt3:=λI3 h3=>I3.to λr h Y e o z=>by
     by_cases er:rs[n]? = aa r
     .rw[hru]at er;cases er;show .inr (hyY Y e o▸h3)
     .apply .inl #[z.1,λn' hn'=>?_];rw[Ce,hn]at hn';rcases Bb.mp hn' with q|q
      .show z.2 n' q
      .rw[Ai.mp q];show er
    apply .inr #[_,.inl #[fV ch2,Sum.inr y,atp,rfl,rfl],?_];change if (!(aM (fV ch2) (Sum.inr y:aC)).isSome)=ab then _ else _;rw[A7,Ly];apply bS (λhn=>?_) λhn=>k ch2 wt2 (nx I2 (iG.mp (by rw[<-Hl (cU ch2 y).isSome,hn];rfl))) hh2;let hn:cU ch2 y=ae:=by
     cases e:cU ch2 y with
     | none=>rfl
     | some z=>rw[e]at hn;cases hn
    apply FG (.inl #[fV ch2,Sum.inr hr,atp,rfl,(by rw[A7,hv];rfl)]) #[_,_,rfl,rfl,?_,uU atp (by unfold fV;rw[Ab];show dA (by lia)) ?_]
    .show small (by unfold iT;rw[Ab];change ↥v+1<=10000000;lia)
    .rw[show W.tup (iT v++[W.int n])=.tup (iT (v++[n])) by unfold iT;rw[Ay];rfl,zeF hn,setp];apply#[dC aK,_,aK,dA (by rw[Ab];lia),?_];rw[cF,show(Tf W.str wt2++[W.str y])=Tf W.str (wt2++[y]) by rw[Ay];rfl];show k _ _ (nx (I2.add hy hn #[by rw[Ag];show hvl.1,hyc λz=>by rw[<-iG,hn]at z;cases z]) (by rw[Ay];show Bm _ (.head _))) (by rw[Ay];show Bf _ hh2)
   apply so.of h2 #[rs,ru,rfl,bS (b:=sglB rs ru) (λhs1=>?_) λhs1=>?_]
   .obtain⟨t,et,ot⟩:∃t,ru.parts=[t]/\ownB rs t=ab:=by
     unfold sglB at hs1;split at hs1
     .rename_i t e;show#[t,e,hs1]
     .cases hs1
    apply so.of h2 (so.of (o:=cC (ru.parts.map W.str) 0) (a:=.str t) (by rw[et];rfl) (fin (Xc ot) (λ_=>.snoc (en▸hvl.2) hru et) (λY e _=>by rw[et]at e;cases e;rfl) λch3 wt3 I3 hh3=>?_));show hD _ _ #[ch3,wt3,_,_,rfl,rfl,I3,hh3]
   .apply fin (I2.own _ hh2) (λz=>absurd hh2 z) (λY e o=>by unfold sglB at hs1;rw[e]at hs1;show absurd o (by rw[show ownB rs Y=ac from hs1];decide)) λch3 wt3 I3 hh3=>?_;show hD _ _ #[ch3,wt3,_,_,rfl,rfl,I3,hh3]
  .rintro τ M' ⟨ch2,wt2,o6,o7,rfl,rfl,I2,_⟩;rw[Ab,Cb]at I2;apply hDw m _ _ (Fl m) #[ch2,wt2,_,_,_,rfl,rfl,I2.to λr h Y _ _ z=>?_];let#[n,hn]:=Kk h;show absurd hn (z.2 n (p9.mpr #[r,hn,z.1]))
 .let hcl:=I.few;cases wt with
  | cons _ _=>cases h
  | nil=>
  apply#[_,?_,r ch I.done (by lia) (λe he=>#[by have:=(I.len e he).1;lia,(I.len e he).2]) p hp];show Sub.new (by rw[aW hpq];show hq0)
def K6(h:M d=aa o):put M d o=M:=by
 funext b
 by_cases e:b=d
 .subst e;rw[aK,h]
 .rw[aW e]
def A8{ts:↑Av}{rest:S3}{K:aP}{o:Option W}{keep:Mm->Prop}{M:Mm}{R:K3}(f:Av->Bool)(hl:↥ts<=1000)(hk:∀M,keep M)(F:∀t∈ts,∀V (C:K3),L2.Sub M V->C (.bl (f t)) V->K (aa (.str t)::rest) V C)(r:R (.rl (bools (ts.map f))) M):
  fZ (ts.map W.str) keep (a6 0) eU K (o::rest) M λw V=>frz w V R:=by
 apply uP (rest:=rest) (λw y=>∃t,w=.str t/\y=.bl (f t)) (small (by rw[Ab];lia)) (λ_ _=>hk _) (λw hw V C sb L=>?_) λys po=>aR.frz ?_
 .let#[t,ht,rfl]:=Ao.mp hw;show F t ht V C sb (L _ #[t,rfl,rfl])
 .let e:ys=bools (ts.map f):=by
   clear F r hl
   induction ts generalizing ys with
   | nil=>cases po;rfl
   | cons t ts E=>
    cases po with
    | cons a b=>
     let#[t',J,rfl]:=a;cases J;rw[E _ b];rfl
  rw[e];show r
def wF(rs:↑aD)(X:Av):↥(numsOf rs X)<=↥rs:=by
 unfold numsOf;rw[Ab];show Ar (Gw _ _) (Ry (List.length_zipIdx))
section
variable {P:Be}{w:Bv}{C:Cc}
def j7.putD(pl:j7 P w c M a d s l)(n:↑(NP×W)):j7 P w c (put M d (.dn P w [0] (kvsOf n))) a d s n:=#[by
 have:a≠d:=λe=>by let L:=pl.ob;rw[e,pl.di]at L;cases L
 rw[aW this];show pl.ob,aK]
def Pf.slot0{nm:Av->Bool}{sem:Av->↑Av}{H d:Nat}(h:ps.flatMap sem=qs):Pf nm rs sem H d 0 ((Cf ↥ps).map λ(i:Nat)=>W.int i) ps qs:=by
 have:=Pf.slots (nm:=nm) (rs:=rs) (sem:=sem) (H:=H) (d:=d) ps 0;rwa [<-List.range_eq_range',h]at this
def A9(rs:↑aD)(X:Av)(n:Nat)(x:NP):Prop:=x.1=X/\∃r,rs[n]? = aa r/\r.parts=x.2/\sglB rs r=ac/\∀t∈r.parts,eL rs t=ab
def zeI:bK (K5 P w C) (zez P w C) zex:=by
 rintro _ M R ⟨a,d,dx,l,rs,X,kvs,f,rfl,pl,hl,g,hX,hkv,r⟩;let hf:=g.few;let hnl:=g.nam;apply#[rs,rfl,by lia,aR.frz #[namesOf rs,rfl,by lia,rs,X,rfl,g,hX,λc hcX hc3 hcn p0 hp0=>#[p0,rfl,.inl #[_,aK,?_]]]];rw[iD hp0];apply#[_,rfl,?_];apply eO (λi τ M'=>∃l1 o5 o6 o7 o8 o9,τ=[aa (.ref a),aa (bE rs),aa (.str X),aa (.dk kvs),aa (.dk (ownOf rs)),o5,o6,o7,o8,o9]/\M'=put M d (.dn P w [0] (kvsOf l1))/\Ex (λz=>z.1.1=X/\(Qz rs f 0 20 z/\Pz rs z)/\iA rs X z.1.2) l (↥rs*i) (λx=>∃e∈c.take i,∃n∈numsOf rs e.1,A9 rs X n x) l1) #[l,_,_,_,_,_,rfl,(K6 pl.di).symm,Ex.start] ?_ ?_
 .rintro i v τ M' hv ⟨l1,o5,o6,o7,o8,o9,rfl,rfl,g1⟩ Dx hD;rw[Az]at hv;let#[e',he',rfl]:=Bd.mp hv;unfold fV at he';rw[Az]at he';obtain⟨⟨Z,ci⟩,he,rfl⟩:=Bd.mp he';let hi:=(An.mp he).1;let hpi:↥rs*i<=400*20:=Ej hf (by lia);let#[hc2,hcn]:=hcn _ (Au he);let g1l:=g1.len;change _/\_;apply#[rfl,rfl,rs,Z,rfl,by lia,aR.frz ?_];apply eO (λj τ M'=>∃l2 o7 o8 o9,τ=[aa (.ref a),aa (bE rs),aa (.str X),aa (.dk kvs),aa (.dk (ownOf rs)),aa (.str Z),aa (.tup (iT ci)),o7,o8,o9]/\M'=put M d (.dn P w [0] (kvsOf l2))/\Ex (λz=>z.1.1=X/\(Qz rs f 0 20 z/\Pz rs z)/\iA rs X z.1.2) l1 (1*j) (λx=>∃n∈(numsOf rs Z).take j,A9 rs X n x) l2) #[l1,_,_,_,rfl,rfl,Ex.start] ?_ ?_
  .rintro j y τ M' hy ⟨l2,o7,o8,o9,rfl,rfl,g2⟩ Dx hD;rw[Az]at hy;let#[n,hn,rfl]:=Bd.mp hy;let#[ru,hru,en]:=p9.mp (Au hn);let#[ru',h1,h2]:=lV (rs:=rs) (n:=n) (An.mp hru).1;cases (show aa ru'=aa ru from h1.symm.trans hru);let hpr:=g.prt ru (Au hru);let hjl:=Ci (An.mp hn).1 (wF rs Z);let g2l:=g2.len;let no:(ru.parts.all (eL rs)=ab->sglB rs ru=ab)->Ex (λz=>z.1.1=X/\(Qz rs f 0 20 z/\Pz rs z)/\iA rs X z.1.2) l1 (1*(j+1)) (λx=>∃n∈(numsOf rs Z).take (j+1),A9 rs X n x) l2:=λhno=>g2.step hn (.no λx z0=>by
    let#[_,q,hq,_,h3,h4]:=z0;rw[hru]at hq;cases hq;rw[hno (He.mpr h4)]at h3;cases h3)
   apply so.of h2 ?_;apply A8 (rest:=[aa (.dk kvs),aa (.dk (ownOf rs))]) (eL rs) (by lia) (λ_=>trivial) (λt ht M' C sb h1=>?_) ?_
   .unfold eL at h1;rw[<-hkv]at h1;apply#[_,#[Sum.inr t,rfl,rfl],bS (b:=(aM kvs (Sum.inr t:aC)).isSome) (λz=>by rw[z]at h1;show h1) λz=>#[_,#[Sum.inr t,rfl,rfl],?_]];rw[z,Ol,<-lX]at h1;show h1
   apply#[_,rfl,?_];let e2:(ru.parts.map (eL rs)).all id=ru.parts.all (eL rs):=by rw[Nq];rfl
   rw[e2];apply bS (b:=ru.parts.all (eL rs)) (λha=>?_) λha=>hD _ _ #[l2,_,_,_,rfl,rfl,no λz=>by rw[ha]at z;cases z];apply so.of h2 #[rs,ru,rfl,bS (b:=!sglB rs ru) (λhs=>?_) λhs=>?_]
   .apply mI (pl.putD l2).ob nH #[ci,n,ru.parts,rfl,by lia,a,d,dx,l2,(X,ru.parts),_,rfl,pl.putD l2,by lia,λl' g'=>hD _ _ #[l',_,_,_,rfl,cF,g2.step hn (g'.cg (λz ez=>?_) λx=>?_)]]
    .let hm:=Au hru;rw[ez];apply#[rfl,#[#[_,rfl,?_],g.pt ru hm,hpr],ru,hm,en▸hcn.rc (by rw[<-en];show oJ hm),rfl,by rw[<-Hl (sglB rs ru),hs];rfl,He.mp ha];change Pf _ _ _ _ _ _ _ _ (dY rs f X);rw[lZ (.inl hX)];show(hcn.pf g.hd (d:=1) (by
      rw[show Z=ru.name from en.symm];show Pf.one (g.hd ru hm).nm hru (by lia) (Pf.slot0 (J5 (g.sem hm))))).mono (show 1+↥ci<=20 by have:↥ci<=19:=hc2;lia)
    .rintro⟨rfl,q,hq,h3,_⟩;rw[hru]at hq;cases hq;rw[h3]
   .show hD _ _ #[l2,_,_,_,rfl,rfl,no λ_=>by cases q:sglB rs ru;rw[q]at hs;cases hs;rfl]
  .rintro τ M' ⟨l2,o7,o8,o9,rfl,rfl,g2⟩;rw[Ab,Cb]at g2;have:=wF rs Z;show hD _ _ #[l2,_,_,_,_,_,rfl,rfl,g1.step he (g2.le (by lia))]
 .rintro τ M' ⟨l1,o5,o6,o7,o8,o9,rfl,rfl,g1⟩;let e:↥((fV c).map λp=>W.tup [wK p.1,p.2])=↥c:=by unfold fV;rw[Ab,Ab]
  rw[e,Cb]at g1;apply#[_,aZ,r l1 ((g1.le (Fo _ hc3)).cg (λ_ h=>h) λx=>?_)];rintro⟨h1,q,hq,hc,h2,h3,h4⟩;let#[e,he,en]:=Ao.mp (hcX _ hc);let#[n,hn]:=Kk hq;show#[e,he,n,p9.mpr #[q,hn,en.symm],h1,q,hn,h2,h3,h2▸h4]
def zeJ:bK A5 (zeh P w C) zef:=by
 rintro _ M R ⟨rs,rfl,D,r⟩;obtain⟨B,l,rfl⟩:∃q l,rs=q::l:=by
  cases rs with
  | nil=>show absurd rfl D
  | cons q l=>show#[q,l,rfl]
 apply#[B,l,rfl,λa s T k N=>#[a,s,rfl,aK,λd hd=>#[rfl,?_]]];let had:a≠d:=λe=>by rw[<-e,aK]at hd;cases hd
 rw[aW (Ca had)]at hd;rw[Bt.first had];apply mI (Bt.pl had).ob nH #[a,d,s,[],(B.name,[B.name,B.name]),_,rfl,Bt.pl had,Cr _,λn g=>?_];rw[Bt.put];obtain rfl:=g.one (λh=>nomatch h);show mI (Bt.pl had).ob sG #[a,d,s,_,rfl,Bt.pl had,_,Bt.sub T hd had,r]
end
abbrev En:=cD×bV×Nat×↑Int
structure BA(G:Sr)(pre:cQ)(e:En)(r:aD):Prop where
 no:cU pre e.1=ae
 ru:G.rs[e.2.2.1]? = aa r
 fa:e.1=(r.name,e.2.2.2.getD 0 0,e.2.2.2.getD ↥r.parts 0)
 ln:↥r.parts+1<=↥e.2.2.2
 pn:∀k t,r.parts[k]? = aa t->eV G pre t (e.2.2.2.getD k 0) (e.2.2.2.getD (k+1) 0)
def BB(G:Sr)(B:cQ):Prop:=∀pre e post,B=pre++e::post->∃r,BA G pre e r
def getD_last{p:Int}:(c++[p]).getD ↥c 0=p:=by rw[Kl,Fw (Aj _),La];rfl
def K7{p:Int}{k:Nat}(h:k<↥c):(c++[p]).getD k 0=c.getD k 0:=by rw[Kl,Iw h,<-Kl]
def Ct.get{p:Int}(h:Ct G B ps c p):∀k t,ps[k]? = aa t->eV G B t ((c++[p]).getD k 0) ((c++[p]).getD (k+1) 0):=by
 induction h with
 | one=>show λk t h=>nomatch h
 | @snoc ps c p e t h o E=>
  intro k u hk;let hl:=h.len;let r:=(An.mp hk).1;rw[Ag,Bz]at r;let J:↥(c++[p])=↥ps+1:=by rw[Ag,hl];rfl
  rw[K7 (by lia)]
  by_cases z:k<↥ps
  .rw[K7 (c:=c++[p]) (k:=k+1) (by lia)];rw[Iw z]at hk;show E k u hk
  .have:k=↥ps:=by lia
   subst this;rw[Fw (Aj _),La]at hk;cases hk;rw[<-hl,getD_last,show ↥c+1=↥(c++[p]) by rw[Ag];rfl,getD_last];show o
def zeK(o:Ord G B):BB G B:=λpre e post Y=>by
 let#[r,c,p,L,Z,F,T,O]:=o pre e post Y;apply#[r,Option.not_isSome_iff_eq_none.mp λh=>O (iG.mp h),L,?_,?_,λk t ht=>?_]
 .rw[F,<-T.len,getD_last,Z];cases c<;>rfl
 .rw[F,Ag,T.len];show Aj _
 .rw[F];show T.get k t ht
noncomputable def qA(G:Sr)(n:Nat):↑Av:=((G.rs[n]?).map aD.parts).getD []
def BC(fs:↑cD)(f:cD):(aM (iH fs) (fK f)).isSome=decide (f∈fs):=by
 unfold iH
 induction fs with
 | nil=>rfl
 | cons g fs E=>
  rw[Bi,oG]
  by_cases h:g=f
  .subst h;rw[Xb rfl];simp
  .rw[Xa (λz=>h (lR _ _ z)),E];have:¬f=g:=λz=>h z.symm;simp[this]
def zeL{fs:↑cD}{f:cD}(h:f∉fs):bW (iH fs) (fK f) (.bl ab)=iH (fs++[f]):=by
 unfold bW;rw[Xa (by rw[show((iH fs).any λn=>decide (n.1=fK f))=(aM (iH fs) (fK f)).isSome from mX _ _,BC,decide_eq_true_eq];show h)];unfold iH;rw[Ay];rfl
noncomputable def eN(f:cD):W:=.tup ((fK f).map wK)
noncomputable def nL(own:Av->Bool)(ps:↑Av)(cut:↑Int):↑cD:=ps.zipIdx.filterMap λx=>if own x.1=ab then aa (x.1,cut.getD x.2 0,cut.getD (x.2+1) 0) else ae
abbrev Sg(row:↑Av)(p e:Int)(w:↑Av):Prop:=row.drop p.toNat=w++row.drop e.toNat
structure Wb(G:Sr)(B:cQ)(row:↑Av):Prop where
 own:∀t,G.own t=ownB G.rs t
 few:↥G.rs<=20000
 ord:BB G B
 nd:(B.map (·.1)).Nodup
 bl:↥B<=320000
 pl:∀r∈G.rs,↥r.parts<=4
 hd:∀r∈G.rs,a9 r.name=ab/\∀t∈r.parts,a9 t=ownB G.rs t
 st:∀t p e c,(e,c)∈G.steps t p->Sg row p e [t]
noncomputable abbrev nM(B:cQ):W:=.ft (eC fK eJ B)
def K8:a8:=λws M R=>∃(rs:↑aD) (ps:↑Av) (cut:↑Int),ws=[.dk (ownOf rs),.tup (ps.map W.str),gP cut]/\↥ps+1<=↥cut/\↥ps<=100/\aR ((nL (ownB rs) ps cut).map eN) M R
def wH(G:Sr)(B:cQ)(p:cD->Bool):Prop:=∀e∈B,p e.1=ab->∀f∈nL G.own (qA G e.2.2.1) e.2.2.2,p f=ab
def K9:a8:=λws M R=>∃(G:Sr) (B:cQ) (top:cD),ws=[bE G.rs,nM B,eN top]/\(∃row,Wb G B row)/\top∈B.map (·.1)/\∀p:cD->Bool,p top=ab->wH G B p->(∀q:cD->Bool,q top=ab->wH G B q->∀f,p f=ab->q f=ab)->aR (((B.map (·.1)).filter p).map eN) M R
def LA:a8:=λws M R=>∃(t:Av) (b e:Int),ws=[.str t,.int b,.int e]/\R (.str t) M
def LB:a8:=λws M R=>∃(n:Nat) (p:Am) (vs:↑W),ws=[.int n,.ref p]/\M p=aa (.lst vs)/\R (gB n vs) M
def LC(C:Cc):a8:=λws M R=>∃(G:Sr) (B:cQ) (row:↑Av) (top:cD),ws=[bE G.rs,nM B,eN top,.ref C.f,.ref C.g]/\Wb G B row/\top∈B.map (·.1)/\∀v w,RT a9 G.rs ↥B [top.1] [v] w->Sg row top.2.1 top.2.2 w->R v M
def BD(C:Cc):a8:=λws M R=>∃(G:Sr) (B:cQ) (row:↑Av) (top:cD),ws=[bE G.rs,nM B,eN top]/\Wb G B row/\top∈B.map (·.1)/\∀v w,RT a9 G.rs ↥B [top.1] [v] w->Sg row top.2.1 top.2.2 w->R v M
noncomputable abbrev zeM:↑Av:=["own","parts","cut"]
abbrev zeN:aE:=
   (bH (d8 (A1 (aA aN aB)) (e8 2 (cB (a6 0) (cB (a6 1) eZ))) (bU (aH (cL ac) aN aT)) (bA (aA aN (aA (vX bB aG) (aA (vX bB (aH dW aG bC)) aB)))) [ae,ae,aa 0,aa 2]))
noncomputable abbrev zeO:↑Av:=["grammar","best","top","own","found","waiting","told","fact"]
abbrev zeP:aE:=
   (aQ 3 (aS lU (aA (bP (aS jF (aA aG aB))) aB)))
abbrev zeQ:aE:=
   (aQ 4 (KR aT (vC (.bl ab))))
abbrev zeR:aE:=
   (aQ 5 (gH (aA aT aB)))
abbrev zeS:aE:=
   (aF (aQ 6 (vX aN (lC "list" lH cG)))
   (dG (cA dH (bP (aS K8 (aA bB (aA (vX (vX aG (vX dO bC)) bC) (aA (vX dO jS) aB)))))) (a6 7)
    (b9 (bU (aH (cL ab) eE bG))
    (aF (fX (vC (.bl ab)) (i8 bG eE))
   (b8 (c9 "list" eS cG (aA eE aB))))
    cS)))
abbrev zeT:aE:=
   (jX (dS cG) zeS)
abbrev zeU:aE:=
   (bH (d8 (cA r9 aN) (a6 0) (bU (aH (cL ac) aG aN)) aG [ae,aa 4]))
abbrev zeV:aE:=(aF zeP (aF zeQ (aF zeR (aF zeT zeU))))
noncomputable abbrev zeW:↑Av:=["grammar","best","top","of_word","of_rule","own","made","fact","number","cut","values","k","part"]
abbrev zeX(C:Cc):aE:=
   (aF (aQ 8 (vX (vX aN eE) bC))
   (aF (aQ 9 (vX (vX aN eE) jS))
   (aF (aQ 10 (gH aB))
   (aF (dG (A1 (aA (vX (vX aG jR) bC) aB)) (e8 2 (cB (a6 11) (cB (a6 12) eZ)))
    (b9 (bU (aH (cL ac) rA cG))
    (b8 (c9 "list" eS t6 (aA (vX dO (bA (aA rA (aA (vX mK qZ) (aA (vX mK (aH dW qZ bC)) aB))))) aB)))
    (b8 (c9 "list" eS t6 (aA (AZ 3 C.f LA (aA rA (aA (vX mK qZ) (aA (vX mK (aH dW qZ bC)) aB)))) aB)))))
   (fX (AZ 4 C.g LB (aA jR (aA t6 aB))) (i8 dO eE))))))
abbrev zeY(C:Cc):aE:=(aF (aQ 5 (aS lU (aA (bP (aS jF (aA aG aB))) aB))) (aF (aQ 6 lI) (aF (dG (cA dH (bP (aS K9 (aA aG (aA aN (aA aT aB)))))) (a6 7) (zeX C)) (bH (vX dO aT)))))
noncomputable abbrev zeZ:↑Av:=["word","begin","end"]
abbrev ze0:aE:=
   (bH aG)
noncomputable abbrev ze1:↑Av:=["number","children"]
abbrev ze2:aE:=
   (bH (bA (aA aG (aA (a7 rL (aA aN aB)) aB))))
noncomputable abbrev ze3:↑Av:=["grammar","best","top"]
abbrev ze4(C:Cc):aE:=
   (bH (aS (LC C) (aA aG (aA aN (aA aT (aA (vC (.ref C.f)) (aA (vC (.ref C.g)) aB)))))))
def wI(h:↥rs<=20000):↥(namesOf rs)<=20000:=by
 let L:=rW (rs.map aD.name) [];rw[Ab,Ju,Nv]at L;show Ar L h
def wJ{cut:↑Int}{k:Nat}(h:k<↥cut):cC (cut.map W.int) (k:Int)=aa (.int (cut.getD k 0)):=kW (by rw[Az,Kl,Bj h];rfl)
def ze5:bK LA ze0 zeZ:=by
 rintro _ M R ⟨t,b,e,rfl,r⟩;show#[_,aZ,r]
def ze6:bK LB ze2 ze1:=by
 rintro _ M R ⟨n,p,vs,rfl,e,r⟩;show#[_,e,_,aZ,r]
def ze7:bK (BD C) (ze4 C) ze3:=by
 rintro _ M R ⟨G,B,row,top,rfl,w,ht,r⟩;show#[G,B,row,top,rfl,w,ht,λv w h k=>#[_,aZ,r v w h k]]
noncomputable def BE(rs:↑aD)(cut:↑Int):W->Option W
 | .tup [.int i,.str t]=>if ownB rs t=ab then aa (eN (t,cut.getD i.toNat 0,cut.getD (i.toNat+1) 0)) else ae
 | _=>ae
def ze8{F:W->Option W}{ws:↑W}{os:↑(Option W)}(h:Gk (λw o=>o=F w) ws os):os.filterMap id=ws.filterMap F:=by
 induction h with
 | nil=>rfl
 | cons a _ E=>rw[a,Ez,Ez,E];rfl
def ze9(rs:↑aD)(cut:↑Int)(ps:↑Av):(gM 0 (ps.map W.str)).filterMap (BE rs cut)=(nL (ownB rs) ps cut).map eN:=by
 unfold nL;rw[enum_zip,Lu,List.map_filterMap];apply congrArg (λf=>List.filterMap f ps.zipIdx) (funext λx=>?_);change(if ownB rs x.1=ab then _ else ae)=_;rw[Cv]
 by_cases h:ownB rs x.1=ab
 .rw[Xb h,Xb h];rfl
 .rw[Xa h,Xa h];rfl
def zfa:bK K8 zeN zeM:=by
 rintro _ M R ⟨rs,ps,cut,rfl,hc,hp,r⟩;apply#[_,rfl,uQ (rest:=[aa (.dk (ownOf rs)),aa (gP cut)]) (λw o=>o=BE rs cut w) (λw hw=>?_) (small (by rw[kK,Ab];lia)) (λ_ _=>trivial) (λa b hm M' C D sb h1 h2=>?_) λos po=>?_]
 .rw[enum_zip]at hw;let#[x,_,rfl]:=Ao.mp hw;show#[_,_,rfl]
 .rw[enum_zip]at hm;obtain⟨⟨t,k⟩,hx,e⟩:=Ao.mp hm;cases e;let hk:=(An.mp (Hx.mp hx)).1;let ep:BE rs cut (.tup [.int (k:Int),.str t])=if ownB rs t=ab then aa (eN (t,cut.getD k 0,cut.getD (k+1) 0)) else ae:=rfl;let ho:(aM (ownOf rs) (Sum.inr t:aC)).isSome=ownB rs t:=lX rs t;show#[_,#[Sum.inr t,rfl,rfl],bS (λz=>(so.of (wJ (by lia)) (so.of (wJ (k:=k+1) (by lia)) (h1 _ (by rw[ep,Xb (ho.symm.trans z)];rfl))))) λz=>h2 (by rw[ep,Xa (ne_true_of_eq_false (ho.symm.trans z))])]
 .rw[ze8 po,ze9];show KG r
structure FW(G:Sr)(B:cQ)(top:cD)(ex:cD->Prop)(fs wt:↑cD):Prop where
 tp:top∈fs
 nd:fs.Nodup
 sub:∀f∈fs,f∈B.map (·.1)
 wq:∀f∈wt,f∈fs
 wl:↥wt<=↥fs
 cl:∀e∈B,e.1∈fs->e.1∈wt\/ex e.1\/∀f∈nL G.own (qA G e.2.2.1) e.2.2.2,f∈fs
 mn:∀q:cD->Bool,q top=ab->wH G B q->∀f∈fs,q f=ab
def FW.len{G:Sr}{B:cQ}{top:cD}{fs wt:↑cD}{ex:cD->Prop}(h:FW G B top ex fs wt):↥fs<=↥B:=by
 have:=len_sub h.nd h.sub;rw[Ab]at this;show this
def FW.add{G:Sr}{B:cQ}{top g:cD}{fs wt:↑cD}{ex:cD->Prop}(h:FW G B top ex fs wt)(hg:g∉fs)(Y:g∈B.map (·.1))(N:∀q:cD->Bool,q top=ab->wH G B q->q g=ab):FW G B top ex (fs++[g]) (wt++[g]):=by
 apply#[Bf _ h.tp,?_,λf hf=>?_,λf hf=>?_,(by rw[Ag,Ag];show Ga h.wl _),λe m hf=>?_,λq L Z f hf=>(Bb.mp hf).elim (h.mn q L Z f) λz=>by rw[Ai.mp z];show N q L Z]
 .rw[Er];show#[h.nd,(by simp),λa T b Y e=>hg (by cases Ai.mp Y;rw[<-e];show T)]
 .rcases Bb.mp hf with z|z
  .show h.sub f z
  .cases Ai.mp z;show Y
 .rcases Bb.mp hf with z|z
  .show Bf _ (h.wq f z)
  .show Bm _ z
 .rcases Bb.mp hf with z|z
  .rcases h.cl e m z with y|y|y
   .show .inl (Bf _ y)
   .show .inr (.inl y)
   .show .inr (.inr λf hf=>Bf _ (y f hf))
  .show .inl (Bm _ z)
noncomputable def qB(fs:↑cD):W->Option W
 | .tup [.str n,.int b,.int e]=>if (n,b,e)∈fs then aa (.tup [.str n,.int b,.int e]) else ae
 | _=>ae
def zfb(fs i:↑cD):(i.map eN).filterMap (qB fs)=(i.filter λf=>decide (f∈fs)).map eN:=by
 induction i with
 | nil=>rfl
 | cons f i E=>
  let e:qB fs (eN f)=if f∈fs then aa (eN f) else ae:=rfl;rw[Bi,Ez,Ec,e,E]
  by_cases h:f∈fs
  .rw[Xb h,Xb (Xd h),Bi]
  .rw[Xa h,Xa (by rw[Xe h];show Bc)]
def LD(h:f∈B.map (·.1)):∃v,cU B f=aa v/\aM (eC fK eJ B) (fK f)=aa (eJ v):=by
 let#[v,c]:=Ed.mp (iG.mpr h);show#[v,c,by rw[oM lR,c];rfl]
def zfc{G:Sr}{B:cQ}(o:BB G B){e:En}(m:e∈B):cU B e.1=aa e.2:=by
 let#[a,b,sp]:=List.append_of_mem m;let#[r,E]:=o a e b sp;rw[sp,HL,E.no,mW,Xb rfl];rfl
def LF(E:BA G pre e r)(hg:g∈nL G.own r.parts e.2.2.2):g∈pre.map (·.1):=by
 obtain⟨⟨t,k⟩,B,J⟩:=Nw.mp hg;let B:=Hx.mp B
 by_cases f:G.own t=ab
 .rw[Xb f]at J;cases J;have:=(E.pn k t B).2;rw[Xb f]at this;show this
 .rw[Xa f]at J;cases J
def BF(E:BA G pre e r):qA G e.2.2.1=r.parts:=by unfold qA;rw[E.ru];rfl
def zfd:bK K9 zeV zeO:=by
 rintro _ M R ⟨G,B,top,rfl,⟨row,w⟩,ht,r⟩;let hown:G.own=ownB G.rs:=funext w.own;apply#[G.rs,rfl,w.few,aR.frz #[namesOf G.rs,rfl,wI w.few,λp S=>#[aK,fK top,rfl,(λq hq=>?_)]]];rw[cF]at hq⊢;let t:q≠p:=λe=>by rw[e,aK]at hq;cases hq
 let hq0:M q=ae:=by rw[aW t]at hq;show hq
 let atp:∀{X Y:MO},put (put M p X) q Y p=aa X:=λ{X Y}=>by rw[aW (Ca t),aK]
 let setp:∀{X X' Y:MO},put (put (put M p X) q Y) p X'=put (put M p X') q Y:=λ{X X' Y}=>by rw[mH t,cF]
 apply mZ (λm U V=>∃fs wt K J,U=[aa (bE G.rs),aa (nM B),aa (eN top),aa (.dk (ownOf G.rs)),aa (.ref p),aa (.ref q),K,J]/\V=put (put M p (.dT (iH fs))) q (.lst (wt.map eN))/\FW G B top (λ_=>False) fs wt/\m=2*(↥B-↥fs)+↥wt)
  #[_,[top],[top],_,_,rfl,rfl,#[List.mem_singleton_self _,(by simp),λf hf=>by cases Ai.mp hf;show ht,λf hf=>hf,Aj _,λe _ hf=>.inl hf,λq L _ f hf=>by rw[Ai.mp hf];show L],rfl] ?_
 rintro m U V ⟨fs,wt,K,J,rfl,rfl,F,rfl⟩ Dw hDw;apply(.inl #[_,aK,bS (λh=>?_) λh=>?_])
 .rcases Il wt with e|⟨wt',f,e⟩
  .rw[e]at h;cases h
  rw[Im]at e;subst e;let#[v,c,lv]:=LD (F.sub f (F.wq f (by simp)));let#[pre,post,sp]:=rX c;let#[ru,E]:=w.ord pre _ post sp;let#[Q,L,Z]:=lV (rs:=G.rs) (n:=v.2.1) (An.mp E.ru).1;cases (show aa Q=aa ru from L.symm.trans E.ru);apply#[dC aK,_,_,by rw[Ay];show aK,_,#[fK f,rfl,lv.symm],(so.of Z #[G.rs,ru.parts,v.2.2,rfl,E.ln,Ar (w.pl ru (Au L)) ∅,aR.frz ?_])];rw[cF,<-hown];obtain⟨pf,hpf⟩:∃pf,pf=nL G.own ru.parts v.2.2:=#[_,rfl];rw[<-hpf];let hpB:∀g∈pf,g∈B.map (·.1):=λg hg=>by
   rw[hpf]at hg;rw[sp,Ay];show Bf _ (LF E hg)
  let A:=F.len;apply eO (λj U V=>∃fs2 i J,U=[aa (bE G.rs),aa (nM B),aa (eN top),aa (.dk (ownOf G.rs)),aa (.ref p),aa (.ref q),aa (eJ v),J]/\V=put (put M p (.dT (iH fs2))) q (.lst (i.map eN))/\(∀g∈pf.take j,g∈fs2)/\FW G B top (λx=>x=f) fs2 i/\2*(↥B-↥fs2)+↥i+1<=2*(↥B-↥fs)+↥(wt'++[f])) ?_ ?_ ?_
  .apply#[fs,wt',#[_,rfl,rfl,(λg hg=>nomatch hg),#[F.tp,F.nd,F.sub,λx O=>F.wq x (Bf _ O),Ar (by rw[Ag];show Jm _ _) F.wl,λe d hf=>?_,F.mn],by rw[Ag];show Aj _]];rcases F.cl e d hf with y|y|y
   .rcases Bb.mp y with y|y
    .show .inl y
    .show .inr (.inl (Ai.mp y))
   .show y.elim
   .show .inr (.inr y)
  .rintro j x U V O ⟨fs2,i,J,rfl,rfl,T,F2,N⟩ D1 hD1;rw[Az]at O;let#[g,hg,rfl]:=Bd.mp O;let hgm:=Au hg;let hl2:=F2.len;let hbl:=w.bl;apply(.inr #[_,.inr #[iH fs2,fK g,atp,rfl,rfl],?_]);change if (!(aM (iH fs2) (fK g)).isSome)=ab then _ else _;rw[BC];apply bS (λP=>?_) λP=>?_
   .let P:g∉fs2:=of_decide_eq_false (by rw[<-Hl (decide _),P];rfl);let F3:=F2.add P (hpB g hgm) λq L Z=>Z (f,v) (by rw[sp];simp) (F.mn q L Z f (F.wq f (by simp))) g (by rw[show qA G v.2.1=ru.parts from BF E,<-hpf];show hgm);let hl3:=F3.len;rw[Ag,Bz]at hl3;let lw:=F2.wl;apply(pM (k:=fK g) atp (by unfold iH;rw[Ab];show dA (by lia)) ?_);rw[zeL P,setp];apply#[dC aK,#[_,aK,dA (by rw[Ab];lia),hD1 _ _ #[fs2++[g],i++[g],#[_,rfl,?_,λy I=>?_,F3,?_]]]]
    .rw[cF,Ay];rfl
    .rw[Ce,hg]at I;rcases Bb.mp I with z|z
     .show Bf _ (T y z)
     .show Bm _ z
    .rw[Ag,Ag,Bz];lia
   .let P:g∈fs2:=Xc (by rw[<-Hl (decide _),P];rfl);apply hD1 _ _ #[fs2,i,#[_,rfl,rfl,λy I=>?_,F2,N]];rw[Ce,hg]at I;rcases Bb.mp I with z|z
    .show T y z
    .cases Ai.mp z;show P
  .rintro U V ⟨fs2,i,J,rfl,rfl,T,F2,N⟩;rw[Ab,Cb]at T;apply hDw _ _ _ N #[fs2,i,_,#[_,rfl,rfl,#[F2.tp,F2.nd,F2.sub,F2.wq,F2.wl,λe d hf=>?_,F2.mn],rfl]];rcases F2.cl e d hf with y|y|y
   .show .inl y
   .have:=zfc w.ord d;rw[y,c]at this;apply .inr (.inr λg hg=>T g ?_);rw[<-Cj this,show qA G v.2.1=ru.parts from BF E]at hg;rw[hpf];show hg
   .show .inr (.inr y)
 .let e:wt=[]:=by
   cases wt with
   | nil=>rfl
   | cons a b=>cases h
  subst e;let hbl:=w.bl;apply(Y4 (rest:=[aa (.ref p)]) (qB fs) (small (by rw[Ab,Ab];lia)) (λ_ _=>trivial) (λx O H C D sb d1 d2=>?_) ?_)
  .rw[Br]at O;let#[e,d,rfl]:=Ao.mp O;let ei:qB fs (eN e.1)=if e.1∈fs then aa (eN e.1) else ae:=rfl;apply(.inr #[_,.inr #[iH fs,fK e.1,sb _ _ atp,rfl,rfl],?_]);change if (aM (iH fs) (fK e.1)).isSome=ab then _ else _;rw[BC];show bS (λz=>(d1 _ (by change qB fs (eN e.1)=_;rw[ei,Xb (Xc z)];rfl))) λz=>d2 (by change qB fs (eN e.1)=_;rw[ei,Xa (of_decide_eq_false z)])
  .let e:((eC fK eJ B).map λp=>W.tup (p.1.map wK))=(B.map (·.1)).map eN:=by rw[Br,Br];rfl
   rw[e,zfb];let z:=r (λf=>decide (f∈fs)) (Xd F.tp) λe d hf f N=>by
    rcases F.cl e d (Xc hf) with y|y|y
    .cases y
    .show y.elim
    .show Xd (y f N)
   let z:=z λq L Z f hf=>F.mn q L Z f (Xc hf);intro s l;let u:s≠q:=λe=>by rw[e,aK]at l;cases l
   let o:s≠p:=λe=>by rw[e,atp]at l;cases l
   rw[aW u,aW o]at l;show#[_,Sub.put (gO (gO (aZ) S) hq0),z s l]
def zfe(nd:l.Nodup)(e:l=a++f::b){j:Nat}(h:l[j]? = aa f):l.take j=a:=by
 have:j=↥a:=(List.getElem?_inj (An.mp h).1 nd).mp (h.trans (by rw[e,Fw (Aj _),La];rfl));rw[this,e,List.take_left]
noncomputable abbrev qC(T:↑(cD×W)):↑(↑aC×W):=eC fK (λw=>w) T
def zff{T:↑(cD×W)}{g:cD}{v:W}(h:g∉T.map (·.1)):bW (qC T) (fK g) v=qC (T++[(g,v)]):=by
 apply(IG (f:=λw=>w) lR _ g v).trans ?_;rw[HM (Option.not_isSome_iff_eq_none.mp λz=>h (iG.mp z))]
def zfg{C:Cc}:bK (LC C) (zeY C) zeW:=by
 rintro _ M R ⟨G,B,row,top,rfl,w,ht,r⟩;let hown:G.own=ownB G.rs:=funext w.own;let nd:=w.nd;apply#[G.rs,rfl,w.few,aR.frz #[namesOf G.rs,rfl,wI w.few,λp hp=>#[G,B,top,rfl,#[row,w],ht,λP hP hcl _=>aR.frz ?_]]];obtain⟨F,hF⟩:∃F,F=(B.map (·.1)).filter P:=#[_,rfl];rw[<-hF];let ndF:F.Nodup:=by rw[hF];show nd.filter _
 let lF:↥F<=320000:=Ar (by rw[hF];show Gw _ _) (by rw[Ab];show w.bl);apply mY (λj τ M'=>∃T o7 o8 o9 o10 o11 o12,τ=[aa (bE G.rs),aa (nM B),aa (eN top),aa (.ref C.f),aa (.ref C.g),aa (.dk (ownOf G.rs)),aa (.ref p),o7,o8,o9,o10,o11,o12]/\M'=put M p (.dT (qC T))/\T.map (·.1)=F.take j/\∀e∈T,∃u,RT a9 G.rs j [e.1.1] [e.2] u/\Sg row e.1.2.1 e.1.2.2 u) #[[],_,_,_,_,_,_,rfl,rfl,rfl,λ_ h=>nomatch h] ?_ ?_
 .rintro j x τ M' hx ⟨T,o7,o8,o9,o10,o11,o12,rfl,rfl,hT,hR⟩;rw[Az]at hx;let#[f,hf,rfl]:=Bd.mp hx;let hfm:f∈F:=Au hf;let hfm2:=hfm;rw[hF]at hfm2;let#[hfB,hfP]:=Gb.mp hfm2;let#[v,hv,lv]:=LD hfB;let#[pre,post,sp]:=rX hv;let#[ru,E]:=w.ord pre _ post sp;let#[ru',h1,h2]:=lV (rs:=G.rs) (n:=v.2.1) (An.mp E.ru).1;cases (show aa ru'=aa ru from h1.symm.trans E.ru);let hpl:=w.pl ru (Au h1);let hcutl:↥ru.parts+1<=↥v.2.2:=E.ln;let htk:F.take j=(pre.map (·.1)).filter P:=zfe ndF (by rw[hF,sp,Ay,Bi,Jq,Ec,Xb hfP]) hf;let hpf:∀k t,ru.parts[k]? = aa t->G.own t=ab->(t,v.2.2.getD k 0,v.2.2.getD (k+1) 0)∈F.take j:=λk t hk ho=>by
   let hg:(t,v.2.2.getD k 0,v.2.2.getD (k+1) 0)∈nL G.own ru.parts v.2.2:=Nw.mpr #[(t,k),Hx.mpr hk,by rw[Xb ho]];rw[htk];apply Gb.mpr #[LF E hg,hcl (f,v) (by rw[sp];simp) hfP _ ?_];rw[BF E];show hg
  let hnf:f∉F.take j:=λz=>by
   rw[htk]at z;have:=(Gb.mp z).1;rw[<-iG,E.no]at this;cases this
  apply#[_,#[fK f,rfl,lv.symm],_,#[fK f,rfl,lv.symm],λq hq=>?_];let hpq:q≠p:=λe=>by rw[e,aK]at hq;cases hq
  let atp:∀{X Y:MO},put (put M p X) q Y p=aa X:=λ{X Y}=>by rw[aW (Ca hpq),aK]
  apply(so.of h2 #[_,rfl,?_]);apply eO (λk τ M'=>∃vs o11 o12,τ=[aa (bE G.rs),aa (nM B),aa (eN top),aa (.ref C.f),aa (.ref C.g),aa (.dk (ownOf G.rs)),aa (.ref p),aa (eN f),aa (.int v.2.1),aa (gP v.2.2),aa (.ref q),o11,o12]/\M'=put (put M p (.dT (qC T))) q (.lst vs)/\∃u,RT a9 G.rs j (ru.parts.take k) vs u/\Sg row (v.2.2.getD 0 0) (v.2.2.getD k 0) u) #[[],_,_,rfl,rfl,[],.nil,rfl] ?_ ?_
  .rintro k x τ M' hx ⟨vs,o11,o12,rfl,rfl,u,hvs,hsg⟩ Dx hD;rw[rS,Az]at hx;cases hs:ru.parts[k]? with
   | none=>rw[hs]at hx;cases hx
   | some t=>
    rw[hs]at hx;cases hx;let hk1:=(An.mp hs).1;let ho:(aM (ownOf G.rs) (Sum.inr t:aC)).isSome=G.own t:=by rw[hown];show lX G.rs t
    let lk:↥vs<Ap:=dA (by rw[hvs.len,Dc];lia);let c1:cC (v.2.2.map W.int) ((0+k:Nat):Int)=aa (.int (v.2.2.getD k 0)):=by rw[Nv];show wJ (by lia)
    let c2:cC (v.2.2.map W.int) (((0+k:Nat):Int)+1)=aa (.int (v.2.2.getD (k+1) 0)):=by rw[Nv];show wJ (k:=k+1) (by lia)
    let fin:∀y,put (put (put M p (.dT (qC T))) q (.lst vs)) q (.lst (vs++[y]))=put (put M p (.dT (qC T))) q (.lst (vs++[y])):=λy=>cF;apply#[rfl,rfl,_,#[Sum.inr t,rfl,rfl],bS (λz=>?_) λz=>?_]
    .let#[y,hy]:=Ed.mp (iG.mpr (by rw[hT];show hpf k t hs (ho.symm.trans z):(t,v.2.2.getD k 0,v.2.2.getD (k+1) 0)∈T.map (·.1)));obtain⟨u2,hy2,hg2⟩:∃u,RT a9 G.rs j [t] [y] u/\Sg row (v.2.2.getD k 0) (v.2.2.getD (k+1) 0) u:=by
      let#[a,b,e]:=rX hy;show hR ((t,v.2.2.getD k 0,v.2.2.getD (k+1) 0),y) (by rw[e];simp)
     show#[dC aK,so.of c1 (so.of c2 (oH (k:=fK (t,v.2.2.getD k 0,v.2.2.getD (k+1) 0)) (w:=y) atp (by rw[oM lR,hy];rfl) #[_,aK,lk,hD _ _ #[_,_,_,rfl,fin _,u++u2,by rw[Ce,hs];show hvs.app hy2,by rw[Sg,hsg,hg2,Bh]]]))]
    .let ow:¬G.own t=ab:=λy=>by rw[ho,y]at z;cases z
     let hp:=(E.pn k t hs).2;rw[Xa ow]at hp;let#[d,hp]:=hp;let hn:a9 t=ac:=by rw[(w.hd ru (Au h1)).2 t (Au hs),<-w.own];show Ro.mpr ow
     show#[dC aK,rfl,so.of c1 (so.of c2 #[t,_,_,rfl,_,aK,lk,hD _ _ #[_,_,_,rfl,fin _,u++[t],by rw[Ce,hs];show hvs.app (.word hn .nil),by rw[Sg,hsg,w.st _ _ _ _ hp,Bh]]])]
  .rintro τ M' ⟨vs,o11,o12,rfl,rfl,u,hvs,hsg⟩;let hTl:↥T=j:=by
    have:=congrArg Jc hT;rw[Ab,Dc]at this;have:=(An.mp hf).1;lia
   have:=(An.mp hf).1;rw[kK,Ab]at hvs hsg;rw[Cb]at hvs;apply#[rfl,v.2.1,q,vs,rfl,aK,pM (k:=fK f) atp (dA (by rw[Ab];lia)) ?_];rw[zff (by rw[hT];show hnf),mH hpq,cF];apply#[_,Sub.new ?_,T++[(f,gB v.2.1 vs)],_,_,_,_,_,_,rfl,rfl,?_,λe he=>?_]
   .rw[aW hpq];rw[aW hpq]at hq;show hq
   .rw[Ay,hT,Ce,hf];rfl
   .rcases Bb.mp he with he|he
    .let#[u',h,k]:=hR e he;show#[u',h.mono (Ht _),k]
    .rw[Ai.mp he];let fa:f=(ru.name,v.2.2.getD 0 0,v.2.2.getD ↥ru.parts 0):=E.fa;rw[fa];show#[u++[],.knot (w.hd ru (Au h1)).1 h1 (Aj _) hvs .nil,by rw[Bn];show hsg]
 .rintro τ M' ⟨T,o7,o8,o9,o10,o11,o12,rfl,rfl,hT,hR⟩;rw[Ab]at hR;rw[Ab,Cb]at hT;let#[y,hy]:=Ed.mp (iG.mpr (by rw[hT,hF];show Gb.mpr #[ht,hP]:top∈T.map (·.1)));let#[a,b,e]:=rX hy;let#[u,h1,h2]:=hR (top,y) (by rw[e];simp);show oH (k:=fK top) (w:=y) aK (by rw[oM lR,hy];rfl) #[_,Sub.new hp,r y u (h1.mono (by rw[hF];show Ar (Gw _ _) (by rw[Ab];show Aj _))) h2]
section
variable {X:Cx}{af:Pn}{Z:St}{H:Hp}{s:Ak}{a:Am}
def Inv.swap{F G:Dz->Prop}(I:Inv X af Z H s)(e:H a=aa (.ext F))(hg:∀l,bZ X.prog X.w l s.heap a (.ext G)):Inv X af Z (aL H a (.ext G)) s:=by
 let ne:∀{b:Am} {v:HO},H b=aa v->v≠.ext F->b≠a:=λ{b v} J h z=>by subst z;rw[e]at J;show h (Cj J).symm
 let k:∀{b:Am},H b=ae->b≠a:=λ{b} J z=>by subst z;rw[e]at J;cases J
 let d:∀b xs,H b=aa (.tup xs)->aL H a (.ext G) b=aa (.tup xs):=λb xs D=>by
  rw[bD (ne D (λz=>by cases z))];show D
 let g:∀b y,H b=aa (.own y)->aL H a (.ext G) b=aa (.own y):=λb y D=>by
  rw[bD (ne D (λz=>by cases z))];show D
 apply I.step (h':=s.heap) (g':=s.gens) (d':=s.drawn) (t':=s.toks) (ch:=[]) (λ_ z=>nomatch z) (λb o _ _ _ J _=>J) (λb o _ _ _ J _=>#[o.slots,J]) (λb o _ _ n=>by rw[bD (k n)];show n) (λb o _ J=>#[o,J]) d
  (λb ob v D=>?_) (λb ps D=>#[#[],?_]) (λm N=>N) (λb v D=>?_) I.bare
 .rw[bD (ne D (λz=>by cases z))];show D
 .rw[bD (ne D (λz=>by cases z)),D];simp
 .by_cases Y:b=a
  .subst Y;rw[b7]at D;cases D;show hg _
  .rw[bD Y]at D;show(I.hok b v D).stay (λ_ _ _ q=>q) (λc q=>g c b q) d
noncomputable def BG(P:Be)(w:Bv)(tl:↑Int)(a:Am)(o:Nl)(n:Nat):It:=
 #[λi H=>(∃es,H a=aa (.ext (gZ P w tl a es o)))/\i<n,λi H x l=>l=H/\∃b en B ep,o.data=.dict B ep/\B[i]? = aa en/\en.key=.ref b/\x=.ref b,λi H=>(∃es,H a=aa (.ext (gZ P w tl a es o)))/\n<=i]
theorem zfh{P:Be}{w:Bv}{K:Ac}{C:Cm}{tl:↑Int}(a it:Am)(o:Nl)(B:Array Eu)(ep:Nat)(hd:o.data=.dict B ep)(hk:∀(i:Nat) (en:Eu),B[i]? = aa en->∃b,en.key=.ref b):
  iK P w K C (BG P w tl a o B.size) [it] it (λi h=>h.IsKeyIter it a i B.size ep) where
 mem:=by simp
 obj:=λi h st b Y=>by
  let e:b=it:=by simpa using Y
  subst e;let#[o,e,c,d]:=st;show#[o,e,λv z=>by rw[d]at z;cases z]
 keep:=λi h h' st k=>st.at λo e=>k it (by simp) o e
 item:=by
  intro X m hw W hc i af s Z H E I hf st hg;subst m hw W;obtain⟨⟨es,J⟩,hi⟩:=hg;let f:s.heap.get? a=aa o:=(show bZ X.prog X.w H s.heap a (.ext (gZ X.prog X.w tl a es o)) from I.hok a _ J).1.1;let#[b,Y]:=hk i B[i] (by simp[hi]);let#[f0,T,t,g,j,y]:=hf it (by simp);apply tX ac st f hd hi λh' l sb=>?_;let M:Inv X af Z H {s with heap:=h'}:=I.turned (t':=s.toks) (λb o Y e=>(sb.2 b Y).trans e) f0 T g j y;let#[R,e,c,d]:=id l;show#[_,rfl,oQ (s:={s with heap:=h'}) e c d ∅ #[.ref b,H,M,Y,#[rfl,b,_,_,_,hd,by simp[hi],Y,rfl],l,λb Y=>(hf b Y).1]]
 done:=by
  intro X m hw W hc i af s Z H E I hf st hg;subst m hw W;obtain⟨⟨es,J⟩,hi⟩:=hg;let f:s.heap.get? a=aa o:=(show bZ X.prog X.w H s.heap a (.ext (gZ X.prog X.w tl a es o)) from I.hok a _ J).1.1;apply tY ac (I.ok.hd hc) st f hd (by lia) λh' hk=>#[rfl,?_]
  show I.turnedT (tk:=s.toks) hf λq o hq eq=>hk q o (λz=>hq (by simp[z])) eq
 self:=λ_ _ _ _ _ st h=>Qy st h
end
section
variable {X:Cx}
abbrev BH(P:Be)(w:Bv)(tl:↑Int):W->Mm->(↑W->(Mm->Prop)->Mm->Prop)->Prop:=λx I R=>∃a kvs o,x=.ref a/\I a=aa (.dh P w tl kvs o)/\R (kvs.map λp=>gN tl p.1) (λM=>M a=aa (.dh P w tl kvs o)) I
def zfi{K:Ac}{j:Hp}{s:Mm}{P:Be}{w:Bv}{tl:↑Int}{a:Am}{o:Nl}{kvs:↑(bQ×W)}{B:Array Eu}{ep:Nat}(hd:o.data=.dict B ep)(D:B.size=↥kvs):hJ K j s (BG P w tl a o B.size) (kvs.map λp=>gN tl p.1) λM=>M a=aa (.dh P w tl kvs o):=by
 apply#[λi H M k O e hi=>?_,λH M k O e=>?_,λi H M x l k O e hi y=>?_]
 .let#[es,J,_]:=O _ _ e;rw[Ab]at hi;show#[#[es,J],by lia]
 .let#[es,J,_]:=O _ _ e;show#[#[es,J],by rw[Ab];lia]
 .let#[rfl,b,en,c,Q,A,m,Y,rfl]:=y;cases hd.symm.trans A;obtain⟨es,J,⟨d,f,U,hsz,hz⟩,q⟩:=O _ _ e;cases hd.symm.trans U;let#[z,g,C]:=hz i en m;rw[Y]at C;cases C;have:∀{es:↑(bQ×Am×V)} {kvs:↑(bQ×W)} {i:Nat},PN K l M tl es kvs->es[i]? = aa z->∃p,kvs[i]? = aa p/\z.1=p.1/\g9 l tl z.1 z.2.1:=by
   intro es kvs i r
   induction r generalizing i with
   | nil=>intro h;cases h
   | @cons p q ps qs hq t E=>
    intro h;cases i with
    | zero=>cases h;show#[q,rfl,hq.1,hq.2.1]
    | succ i=>rw[Ek]at h⊢;show E h
  let#[p,G,n,I]:=this q g;show#[gN tl p.1,by rw[Az,G];rfl,Kp.refl O,O,by rw[<-n];show g9.av I]
def zfj{C:Cm}{tl:↑Int}:lJ X C (rO X.K (BH X.prog X.w tl)):=by
 rintro af s Z H x u Q I l ⟨P,M,R,d,O,⟨a,kvs,o,rfl,e,h⟩,k⟩;obtain rfl:=d.inv;cases (show u=Value.ref a from l);obtain⟨es,J,⟨B,ep,hd,hsz,hz⟩,q⟩:=O _ _ e;let hl:=Ea q;let hh:=(show bZ X.prog X.w H s.heap a (.ext (gZ X.prog X.w tl a es o)) from I.hok a _ J).1;let#[c,t,G,_,_,N,_]:=rT hh.2;let fp:∀b∈[⇑s],gR X af H b:=λb Y=>by
  let e:b=⇑s:=by simpa using Y
  subst e;show I.fpOk (Aj _) (I.hok.fresh (Aj _))
 let G:gG s.heap a B ep:=by
  let#[D,g,f,T]:=G;rw[hh.1]at g;cases g;show#[o,hh.1,f,hd]
 show tZ N G #[⇑s,[⇑s],_,BG X.prog X.w tl a o B.size,H,rfl,I.kept (t':=s.toks) λb o e=>Af _ e,zfh a _ o B ep hd (λi en m=>(hz i en m).elim λz y=>#[_,y.2]),#[_,Aw _ rfl,rfl,rfl],fp,k _ _ _ _ _ (Kp.refl O) O (zfi hd (by lia)) h]
def zfk(hl:E3 X l tl):PI X C l (fY X.K (cA (BH X.prog X.w n) tl)):=uJ hl zfj
def BI{K:Ac}{H:Hp}{M:Mm}{a:Am}{g o:MO}{u:HO}(O:AM K H M)(e:M a=aa g):Go H M (aL H a u) (put M a o):=by
 let k:∀{b:Am},M b=ae->b≠a:=λ{b} h z=>by subst z;rw[e]at h;cases h
 apply#[λb xs D=>?_,λb ob v D=>?_,λb v n D=>?_]
 .rw[bD (k (O.noTup D))];show D
 .rw[bD (k (O.noFrz D))];show D
 .rw[bD (k n),aW (k n)];show#[D,n]
def LG{K:Ac}{H:Hp}{M:Mm}{a:Am}{g o:MO}{u:HO}(O:AM K H M)(e:M a=aa g)(F:AO K (aL H a u) (put M a o) a o):AM K (aL H a u) (put M a o)/\Kp H M (aL H a u) (put M a o):=by
 let go:Go H M (aL H a u) (put M a o):=BI O e;apply#[λb s D=>?_,λb v n D=>go.hl b v n D,λb v D=>?_]
 .by_cases Y:b=a
  .subst Y;rw[aK]at D;cases D;show F
  .rw[aW Y]at D;show(O b s D).go go (bD Y)
 .by_cases Y:b=a
  .subst Y;show#[_,b7]
  .let#[y,q]:=(O b v D).has;show#[y,by rw[bD Y];show q]
abbrev BJ(P:Be)(w:Bv)(tl:↑Int)(K:aP):aP:=λU M R=>∃a kvs,M a=aa (.dn P w tl kvs)/\∀o,K U (put M a (.dh P w tl kvs o)) λx V=>V a=aa (.dh P w tl kvs o)/\R x (put V a (.dn P w tl kvs))
def zfl{tl:↑Int}{e:Cm}{K:aP}(h:E3 X e K):E3 X e (BJ X.prog X.w tl K):=by
 rintro af s σ H Q I ⟨U,M,R,as,O,⟨a,kvs,T,h'⟩,k⟩;let#[es,N,q]:=O _ _ T;let B:=pO I N;let#[A,ep,J,hsz,_,_,hz]:=rT B;let#[o,f,hc,hd]:=J;let held:gZ X.prog X.w tl a es o s.heap:=#[f,B];let i:=I.swap N (G:=gZ X.prog X.w tl a es o) λ_=>held.ok;let go:Go H M (aL H a (.ext (gZ X.prog X.w tl a es o))) (put M a (.dh X.prog X.w tl kvs o)):=BI O T;let#[P,t]:=LG (o:=.dh X.prog X.w tl kvs o) (u:=.ext (gZ X.prog X.w tl a es o)) O T #[es,b7,#[A,ep,hd,hsz,λj en m=>(hz j en m).elim λz y=>#[z,y.1,y.2.1]],Paired.mapP q λp r z=>#[z.1,let #[pa,n1,n2]:=z.2.1;#[pa,go.ht _ _ n1,go.ht _ _ n2],z.2.2.go go]];apply aV (h af s σ _ (λx S=>∃E,S a=aa (.ext (gZ X.prog X.w tl a E o))/\Q x (aL S a (.ext (dN X.prog X.w tl a E)))) i #[U,_,_,as.kp O t,P,h' o,λv l w V W D av #[eM,r]=>?_]) λv g #[x,S,b,c,E,Z,C]=>?_
 .let#[E,L,_,d]:=D _ _ eM;let go4:Go l V (aL l a (.ext (dN X.prog X.w tl a E))) (put V a (.dn X.prog X.w tl kvs)):=BI D eM;let#[n,Y]:=LG (o:=.dn X.prog X.w tl kvs) (u:=.ext (dN X.prog X.w tl a E)) D eM #[E,b7,Paired.mapP d λp r z=>#[z.1,let #[pa,n1,n2]:=z.2.1;#[pa,go4.ht _ _ n1,go4.ht _ _ n2],z.2.2.go go4]];show#[E,L,k _ _ _ _ ((t.trans W).trans Y) n (av.go go4) r]
 .let F:=(show bZ X.prog X.w S g.heap a (.ext (gZ X.prog X.w tl a E o)) from b.hok a _ Z).1;show#[x,_,b.swap Z (λ_=>dN.ok F.2),c,C]
end
def LH(P:Be)(w:Bv)(C:Am):a8:=λws M R=>∃a d s l,∃x:Av,ws=[.ref a,.str x]/\j7 P w C M a d s l/\↥l<=5000000/\∀b,(b=ab↔∃z∈l,x∈z.1.2)->R (.bl b) M
noncomputable abbrev zfm:↑Av:=["self","name"]
abbrev zfn(P:Be)(w:Bv)(C:Am):aE:=
   (bH (a7 rR (aA (bP (BJ P w [0] (d8 (cA (BH P w [0]) (cY C aG "backs")) (a6 0) eU (aH (cL ac) aN (vX aG bC)) [ae,aa 1]))) aB)))
def zfo:bK (LH P w C) (zfn P w C) zfm:=by
 rintro _ M R ⟨a,d,s,l,x,rfl,pl,hl,r⟩;let had:a≠d:=λe=>by let L:=pl.ob;rw[e,pl.di]at L;cases L
 apply#[d,kvsOf l,pl.di,λo=>?_];let T:put M d (.dh P w [0] (kvsOf l) o) a=aa (.ins C s [("backs",.ref d)]):=by rw[aW had];show pl.ob
 let y:Cq ("backs" : Av) [(("backs" : Av),W.ref d)]=aa (.ref d):=by rw[Eh,show(("backs" : Av)==("backs" : Av))=ab by decide +kernel]
 apply#[a,s,_,_,rfl,T,y,d,kvsOf l,o,rfl,aK,?_];let v:((kvsOf l).map λp=>gN [0] p.1)=(l.map λz=>kR z.1).map bX:=by
  unfold kvsOf;rw[Br,Br];show Ey λz _=>J0 z.1
 rw[v];apply mU (rest:=[aa (.str x)]) (λw=>match w with|.tup [_,.tup ps,_]=>.bl (inW (.str x) ps)|_=>.non) (small (by rw[Ab,Ab];lia)) (λV sb=>sb _ _ aK) (λw hw V C sb L=>?_) λp S=>?_
 .let#[q,hq,rfl]:=Ao.mp hw;show#[rfl,zM _,L]
 .let b:p≠d:=λe=>by rw[e,aK]at S;cases S
  let m:M p=ae:=by rw[aW b]at S;show S
  apply#[by rw[aW (Ca b),aK],?_];rw[mH b,cF,show put M d (.dn P w [0] (kvsOf l))=M from xX pl.di];apply EV m ?_;let J:(((l.map λz=>kR z.1).map bX).map λw=>match w with|.tup [_,.tup ps,_]=>W.bl (inW (.str x) ps)|_=>.non)=bools (l.map λz=>inW (.str x) (z.1.2.map W.str)):=by
   unfold bools;rw[Br,Br,Br];rfl
  rw[J];apply#[_,rfl,_,aZ,r _ ?_];rw[Ku,Hc];apply exists_congr λz=>and_congr Rz ?_;change inW (.str x) (z.1.2.map W.str)=ab↔_;rw[zL,decide_eq_true_eq]
inductive Dv(nm:Av->Bool)(rs:↑aD):↑Av->↑Av->Prop
 | nil:Dv nm rs [] []
 | wd {t:Av} {ps row:↑Av}:nm t=ac->Dv nm rs ps row->Dv nm rs (t::ps) (t::row)
 | nd {r:aD} {ps a b:↑Av}:r∈rs->nm r.name=ab->Dv nm rs r.parts a->Dv nm rs ps b->Dv nm rs (r.name::ps) (a++b)
section
variable {nm:Av->Bool}{rs rs':↑aD}{ps qs a b row:↑Av}{t:Av}
def Dv.app(h:Dv nm rs ps a)(k:Dv nm rs qs b):Dv nm rs (ps++qs) (a++b):=by
 induction h with
 | nil=>show k
 | wd n _ E=>show .wd n E
 | nd r n p _ _ E=>rw[Bh];show .nd r n p E
def Dv.one(h:r∈rs)(n:nm r.name=ab)(k:Dv nm rs r.parts a):Dv nm rs [r.name] a:=by
 have:=Dv.nd h n k .nil;rwa [Bn]at this
def Dv.cut(h:Dv nm rs (t::ps) row):∃a b,row=a++b/\Dv nm rs [t] a/\Dv nm rs ps b:=by
 cases h with
 | wd n h=>show#[[t],_,rfl,.wd n .nil,h]
 | nd r n p h=>show#[_,_,rfl,.one r n p,h]
def Dv.none(h:Dv nm rs [] row):row=[]:=by cases h;rfl
def Dv.inv(h:Dv nm rs [t] row)(n:nm t=ab):∃r∈rs,r.name=t/\Dv nm rs r.parts row:=by
 generalize e : [t]=l at h;cases h with
 | nil=>cases e
 | wd m _=>cases e;rw[n]at m;cases m
 | nd r _ p q=>cases e;rw[q.none,Bn];show#[_,r,rfl,p]
def Dv.sim(k:∀r∈rs,nm r.name=ab->∀a,Dv nm rs' r.parts a->Dv nm rs' [r.name] a)(h:Dv nm rs ps row):Dv nm rs' ps row:=by
 induction h with
 | nil=>show .nil
 | wd n _ E=>show .wd n E
 | nd r n _ _ c Q=>show(k _ r n _ c).app Q
def RT.dv{h:Nat}(x:RT nm rs h ps ws row):Dv nm rs ps row:=by
 induction x with
 | nil=>show .nil
 | word n _ E=>show .wd n E
 | knot n r _ _ _ c Q=>show .nd (Au r) n c Q
end
noncomputable def fL(rs:↑aD)(row:↑Av):Sr:=#[rs,ownB rs,(Cf (↥row+1)).map λ(i:Nat)=>(i:Int),λt p=>if 0<=p/\row[p.toNat]? = aa t then [(p+1,0)] else [],λ_=>0]
def zfp{rs:↑aD}:fL rs []=kN rs []:=by
 unfold fL kN;apply congrArg (λs=>Sr.mk rs (ownB rs) [0] s λ_=>0) (funext λt=>funext λp=>?_);rw[Xa (λz=>(by cases z.2):¬(0<=p/\([]:↑Av)[p.toNat]? = aa t)),Xa (λz=>(by cases z.2):¬(p=0/\t∈([]:↑Av)))]
section
variable {rs:↑aD}{row:↑Av}
def qD{p:Int}:p∈(fL rs row).places↔∃i:Nat,p=i/\i<=↥row:=by
 change p∈(Cf (↥row+1)).map _↔_;rw[Ao];show#[λ#[i,h,e]=>#[i,e.symm,Nat.le_of_lt_succ (Gx.mp h)],λ#[i,e,h]=>#[i,Gx.mpr (Nat.lt_succ_of_le h),e.symm]]
def BK{p e c:Int}:(e,c)∈(fL rs row).steps t p↔∃i:Nat,p=i/\row[i]? = aa t/\e=(i+1:Nat)/\c=0:=by
 change(e,c)∈(if 0<=p/\row[p.toNat]? = aa t then [(p+1,(0:Int))] else [])↔_;constructor
 .split
  .rename_i z;intro h;cases Ai.mp h;show#[p.toNat,by lia,z.2,by lia,rfl]
  .show λh=>nomatch h
 .rintro⟨i,rfl,h,rfl,rfl⟩;rw[Xb #[Rg i,by rw[Cv];show h]];show .head _
def wL(L:↥rs<=20000)(Z:∀r∈rs,↥r.parts<=4)(G:↥row<=3):Gd (fL rs row):=by
 apply#[L,Z,?_,λ_=>Sw _,λt p S=>#[λz hz=>?_,?_]]
 .change((Cf (↥row+1)).map _).length<=4;rw[Ab,Hj];lia
 .let#[i,rfl,h,J,D]:=BK.mp hz;show#[qD.mpr #[i+1,J,(An.mp h).1],by rw[D];show Sw _]
 .change((if 0<=p/\row[p.toNat]? = aa t then [(p+1,(0:Int))] else []).map (·.1)).Nodup;split
  .show Hw ..
  .show .nil
def zfq{p e c:Int}(h:(e,c)∈(fL rs row).steps t p):Sg row p e [t]:=by
 let#[i,rfl,k,rfl,_]:=BK.mp h;let#[L,Z]:=An.mp k;rw[Sg,Cv,Cv,Eb L,Z];rfl
def zfr{i j:Nat}(hi:i<=↥row)(hj:j<=↥row)(h:row.drop i=row.drop j):i=j:=by
 have:=congrArg Jc h;rw[Ei,Ei]at this;lia
def zfs{B:cQ}{nm:Av->Bool}(F:oI (fL rs row) B)(g:∀r∈rs,∀t∈r.parts,nm t=ownB rs t){ps w:↑Av}(h:Dv nm rs ps w):(∀t∈ps,nm t=ownB rs t)->∀{i j:Nat} {qs:↑Av} {c:↑Int},row.drop i=w++row.drop j->j<=↥row->Ct (fL rs row) B qs c i->∃d,Ct (fL rs row) B (qs++ps) d j/\(d++[(j:Int)]).headD 0=(c++[(i:Int)]).headD 0:=by
 let le:∀{qs c} {i:Nat},Ct (fL rs row) B qs c i->i<=↥row:=λ{qs c i} ct=>by
  let#[k,e,h]:=qD.mp (ct.plc i (by simp));lia
 induction h with
 | nil=>
  intro _ i j qs c e hj ct;have:=zfr (le ct) hj e;subst this;show#[c,by rw[Bn];show ct,rfl]
 | @wd t ps w n _ E=>
  intro P i j qs c e hj ct;let hi:i<↥row:=by
   have:=congrArg Jc e;rw[Ei,Ag,Bq]at this;lia
  rw[Eb hi,Sk]at e;let#[J,D]:=Kn e;let ok:eV (fL rs row) B t i ((i+1:Nat):Int):=by
   apply#[qD.mpr #[i+1,rfl,hi],?_];rw[Xa (show ¬(fL rs row).own t=ab by change ¬ownB rs t=ab;rw[<-P t (.head _),n];decide)];show#[0,BK.mpr #[i,rfl,by rw[<-J];show Bj hi,rfl,rfl]]
  let#[d,L,Z]:=E (λu C=>P u (.tail _ C)) D hj (.snoc ct ok);show#[d,by rw[Bh]at L;show L,Z.trans zG]
 | @nd r ps a b G n _ _ y Q=>
  intro P i j qs c e hj ct;rw[Bh]at e;let hi:=le ct;let N:i+↥a<=↥row:=by
   have:=congrArg Jc e;rw[Ei,Ag]at this;lia
  let D:row.drop (i+↥a)=b++row.drop j:=by rw[<-List.drop_drop,e,List.drop_left]
  let#[I,L,Z]:=y (g r G) (i:=i) (j:=i+↥a) (qs:=[]) (c:=[]) (by rw[D];show e) N (.one (qD.mpr #[i,rfl,hi]));let K:=F.cl r G _ _ L;rw[Z]at K;let ok:eV (fL rs row) B r.name i ((i+↥a:Nat):Int):=#[qD.mpr #[_,rfl,N],by rw[Xb (show(fL rs row).own r.name=ab from oJ G)];show K];let#[d,T,O]:=Q (λu C=>P u (.tail _ C)) D hj (.snoc ct ok);show#[d,by rw[Bh]at T;show T,O.trans zG]
end
structure Gr(rs:↑aD):Prop where
 ne:rs≠[]
 few:↥rs<=20000
 prt:∀r∈rs,↥r.parts<=4
 nam:∀r∈rs,a9 r.name=ab
 own:∀r∈rs,∀t∈r.parts,a9 t=ownB rs t
def Gr.wb(g:Gr rs)(G:↥row<=3)(F:oI (fL rs row) B):Wb (fL rs row) B row:=
 #[λ_=>rfl,g.few,zeK F.bs,IA F.bs,Ar (vD F.bs (wL g.few g.prt G)) (Fo 16 (Ar (z9 _) g.few)),g.prt,λr G=>#[g.nam r G,g.own r G],λ_ _ _ _ h=>zfq h]
def BL(C:Cc):a8:=λws M R=>∃(rs:↑aD) (row:↑Av),ws=[bE rs,nF row,.rl (rs.map λ_=>W.int 0)]/\Gr rs/\↥row<=3/\∀B,oI (fL rs row) B->jP (eC fK eJ B) M R
def LI:a8:=λws M R=>∃(rs:↑aD) (row:↑Av),ws=[bE rs,nF row]/\rs≠[]/\R (eN (f0 rs,0,↥row)) M
def qE(C:Cc):a8:=λws M R=>∃(rs:↑aD) (row:↑Av),ws=[bE rs,nF row]/\Gr rs/\↥row<=3/\(∀v,RT a9 rs (16*↥(namesOf rs)) [f0 rs] [v] row->R v M)/\(¬Dv a9 rs [f0 rs] row->R .non M)
noncomputable abbrev zft:↑Av:=["grammar","row","weights"]
abbrev zfu(C:Cc):aE:=
   (bH (aS (zQ C) (aA aG (aA (bP (aS KC (aA aN aB))) (aA (bP (aS KD (aA aN aB))) (aA aT aB))))))
def zfv(row:↑Av)(t:Av)(p:Int):aM (j6 row) (eK (t,p))=if 0<=p/\row[p.toNat]? = aa t then aa (.rl [.tup [.int (p+1),.int 0]]) else ae:=by
 let key:∀(row:↑Av) (n:Nat),aM ((row.zipIdx n).map λx=>(([Sum.inr x.1,Sum.inl (x.2:Int)]:↑aC),W.rl [.tup [.int ((x.2:Int)+1),.int 0]])) (eK (t,p))=if (n:Int)<=p/\row[p.toNat-n]? = aa t then aa (.rl [.tup [.int (p+1),.int 0]]) else ae:=by
  intro row
  induction row with
  | nil=>intro n;rw[Xa λz=>nomatch z.2];rfl
  | cons u row E=>
   intro n;rw[Ks,Bi,oG,E];dsimp only
   by_cases h:u=t/\(n:Int)=p
   .let#[rfl,rfl]:=h;rw[Xb (show([Sum.inr u,Sum.inl (n:Int)]:↑aC)=eK (u,(n:Int)) from rfl),Xb #[Sw _,by rw[Cv,La];rfl]]
   .rw[Xa λz=>h (by unfold eK at z;simp at z;show z)]
    by_cases S:(n:Int)<p
    .let e:p.toNat-n=(p.toNat-(n+1))+1:=by lia
     rw[e,Ek]
     by_cases hq:row[p.toNat-(n+1)]? = aa t
     .rw[Xb #[by lia,hq],Xb #[by lia,hq]]
     .rw[Xa λz=>hq z.2,Xa λz=>hq z.2]
    .rw[Xa λz=>by have:=z.1;lia,Xa λz=>?_];let e:(n:Int)=p:=by have:=z.1;lia
     let z:=z.2;rw[show p.toNat-n=0 by lia]at z;show h #[Cj z,e]
 show key row 0
def zfw:bK (BL C) (zfu C) zft:=by
 rintro _ M R ⟨rs,row,rfl,g,G,r⟩;apply#[row,rfl,by lia,aR.frz #[row,rfl,by lia,jP.frz #[fL rs row,#[rs,ownOf rs,j6 row],?_,rfl,#[rfl,lX rs,λt p=>?_],wL g.few g.prt G,?_,λB F=>KH (r B F)]]]
 .rw[<-KJ ↥rs rs rfl];change [bE rs,W.rl ((Cf (↥row+1)).map λ(i:Nat)=>W.int i),_,_]=[bE rs,W.rl (((Cf (↥row+1)).map λ(i:Nat)=>(i:Int)).map W.int),_,_];rw[Br];rfl
 .change(aM (j6 row) (eK (t,p))=ae/\(if 0<=p/\row[p.toNat]? = aa t then [(p+1,(0:Int))] else [])=[])\/aM (j6 row) (eK (t,p))=aa (.rl ((if 0<=p/\row[p.toNat]? = aa t then [(p+1,(0:Int))] else []).map λz=>.tup [.int z.1,.int z.2]));rw[zfv]
  by_cases h:0<=p/\row[p.toNat]? = aa t
  .right;rw[Xb h,Xb h];rfl
  .left;rw[Xa h,Xa h];show#[rfl,rfl]
 .change((Cf (↥row+1)).map λ(i:Nat)=>(i:Int)).Nodup;rw[Hi,Gs];show Ox.imp λh e=>h (Int.ofNat.inj e)
noncomputable abbrev zfx:↑Av:=["grammar","row"]
abbrev zfy:aE:=
   (bH (bA (aA (aS oK (aA aG aB)) (aA bM (aA (a7 cT (aA aN aB)) aB)))))
noncomputable abbrev zfz:↑Av:=["grammar","row","best","top"]
abbrev zfA(C:Cc):aE:=(aF (aQ 2 (pZ (aS (BL C) (aA aG (aA aN (aA (bP (aS vV (aA aG aB))) aB))))))
   (aF (aQ 3 (aS LI (aA aG (aA aN aB))))
   (bH (uB (bU (aH (cL ac) bB aT)) (aS (BD C) (aA aG (aA aT (aA bB aB)))) (vC .non)))))
def zfB:bK LI zfy zfx:=by
 rintro _ M R ⟨rs,row,rfl,P,r⟩;let#[q,l,rfl]:=Fx P;rw[<-Ab (as:=row) W.str]at r;show#[q,l,rfl,_,aZ,r]
def zfC:bK (qE C) (zfA C) zfz:=by
 rintro _ M R ⟨rs,row,rfl,g,G,m,l⟩;apply#[rs,rfl,g.few,aR.frz #[rs,row,rfl,g,G,λB F p S=>#[p,rfl,.inr #[_,aK,?_]]]];rw[iD S];apply#[rs,row,rfl,g.ne,_,#[fK (f0 rs,0,↥row),rfl,rfl],?_];change if (aM (eC fK eJ B) (fK (f0 rs,0,↥row))).isSome=ab then _ else _;rw[oM lR,Ly];let few:=vD F.bs (wL g.few g.prt G);apply bS (λz=>#[fL rs row,B,row,(f0 rs,0,↥row),rfl,g.wb G F,iG.mp z,λv w J hw=>#[_,aZ,m v ?_]]) λz=>#[_,aZ,l λd=>?_]
 .let hw:row.drop 0=w++row.drop (Wg (↥row:Int)):=hw;rw[Cv,Mu,Bn,Qb]at hw;rw[hw];show J.mono few
 .let#[q,hq,e]:=vU g.ne;let#[r,L,Z,K]:=d.inv (by rw[<-e];show g.nam q hq);let#[c,T,O]:=zfs F g.own K (g.own r L) (i:=0) (j:=↥row) (qs:=[]) (c:=[]) (by rw[Mu,Bn];rfl) (Aj _) (.one (qD.mpr #[0,rfl,Cr _]));have:=F.cl r L _ _ T;rw[O,Z]at this;let this:(f0 rs,(0:Int),(↥row:Int))∈B.map (·.1):=this;rw[iG.mpr this]at z;cases z
def zfD(rs:↑aD)(D:↑Av):Prop:=∃n,D=eQ rs n/\gS rs D=D
noncomputable def drK(kvs:↑(aC×W))(t:Av):Bool:=(aM kvs (Sum.inr t:aC)).isSome
noncomputable def iI(kvs:↑(aC×W))(t:Av):W:=(aM kvs (Sum.inr t:aC)).getD .non
noncomputable abbrev wM(rs:↑aD)(D:↑Av)(kvs:↑(aC×W))(ps:↑Av):↑hV:=kO (cM rs D) (drK kvs) (iI kvs) ps
noncomputable def kS(x:hV):W:=.tup [.tup (x.1.map W.str),.tup x.2]
def LJ(rs:↑aD)(kvs:↑(aC×W)):Prop:=∀X,drK kvs X=ab->RT a9 rs 320 [X] [iI kvs X] []
def fG.gr(g:fG rs):Gr rs:=#[g.ne,g.few100,g.prt,λr G=>(g.hd r G).nm,g.own]
def LK(C:Cc):a8:=λws M R=>∃rs:↑aD,ws=[bE rs]/\fG rs/\∀kvs,(∀X,drK kvs X=lQ rs ac X)->LJ rs kvs->i4 kvs M R
def LL:a8:=λws M R=>∃rs:↑aD,ws=[bE rs]/\fG rs/\∀D,zfD rs D->i4 (D.map cE) M R
def LM:a8:=λws M R=>∃(rs:↑aD) (D:↑Av) (kvs:↑(aC×W)) (ps:↑Av),ws=[.tup (ps.map W.str),.dk (ownOf rs),.dk (D.map cE),.dk kvs]/\↥ps<=4/\R (.rl ((wM rs D kvs ps).map kS)) M
def LN(P:Be)(w:Bv)(C:Cc):a8:=λws M R=>∃(a d s:Am) (l:↑(NP×W)) (rs:↑aD) (X:Av) (D:↑Av) (kvs:↑(aC×W)) (f:Av->↑Av),ws=[.ref a,bE rs,.str X,.dk (D.map cE),.dk kvs]/\j7 P w C.p M a d s l/\↥l<=200000/\fG rs/\X∈namesOf rs/\LJ rs kvs/\∀n,Ex (λz=>z.1.1=X/\(Qz rs f 320 1 z/\Pz rs z)/\h9 rs D (drK kvs) X z.1.2) l (16*↥rs) (λx=>x.1=X/\h9 rs D (drK kvs) X x.2) n->R .non (put M d (.dn P w [0] (kvsOf n)))
structure Tl(rs:↑aD)(m:Av)(f:Av->↑Av)(H d n:Nat)(l:↑(NP×W)):Prop where
 hd:dB m
 len:↥l<=n
 f0:l≠[]/\dY rs f (f0 (aX l))=[f0 rs]
 al:∀z∈l,(z.1.1=m\/z.1.1∈namesOf rs)/\Qz rs f H d z/\Pz rs z
 sl:∀t,↥(f t)<=100
structure BM(rs:↑aD)(D:↑Av)(drop:Av->Bool)(l:↑(NP×W)):Prop where
 wd:Wd rs D
 fx:gS rs D=D
 dr:∀t,drop t=ab↔fE rs ac t
 is:(l=noL (f0 rs)/\f0 rs∉D/\drop (f0 rs)=ac)\/∃m f lb T,l=lb++T/\Tl rs m f 320 1 (16*(↥rs*↥(namesOf rs))+2) l/\(∀X ps,X∈namesOf rs->h9 rs D drop X ps->(X,ps)∈T.map Ck)/\(∀z∈T,h9 rs D drop z.1.1 z.1.2)/\
  ((drop (f0 rs)=ac/\lb=[]/\f0 (aX l)=f0 rs)\/drop (f0 rs)=ab/\((lb.map Ck=[(f0 rs,[])]/\∀z∈T,f0 rs∉z.1.2)\/m∉namesOf rs/\lb.map Ck=[(m,[f0 rs]),(m,[])]/\∃z∈T,f0 rs∈z.1.2))
def BN:a8:=λws M R=>∃rs:↑aD,ws=[bE rs]/\fG rs/\∀D drop l,BM rs D drop l->R (p6 l) M
noncomputable abbrev zfE:↑Av:=["grammar","best"]
abbrev zfF(C:Cc):aE:=
   (aF (aQ 1 (pZ (aS (BL C) (aA aG (aA (gA aB) (aA (bP (aS vV (aA aG aB))) aB))))))
   (bH (a7 yZ (aA (bP (d8 (cA r9 aN) (a6 0) eU (bA (aA (vX aG bM) (aA (aS (BD C) (aA aN (aA aT (aA aG aB)))) aB))) [ae,aa 0,aa 1])) aB))))
noncomputable abbrev zfG:↑Av:=["grammar","own","fruitful","rules","wordy","size","rule"]
abbrev zfH:aE:=
   (aQ 1 (aS lU (aA (bP (aS jF (aA aG aB))) aB)))
abbrev zfI:aE:=
   (aQ 2 (bP (aS AK (aA aG aB))))
abbrev zfJ:aE:=
   (aQ 3 (bP (d8 (cA dH aG) (a6 0) (dS (a7 rM (aA (bP (d8 (cA dH (vX aG bC)) (a6 0) eU (mL (aH (cL ac) aG aN) (aH (cL ab) aG aT)) [ae,aa 1,aa 2])) aB))) aG [ae,aa 2,aa 1])))
abbrev LO:aE:=
   (aQ 4 uH)
abbrev zfK:aE:=
   (aQ 5 (kH kI bC))
abbrev zfL:aE:=
   (aF (aQ 5 (a7 cT (aA bG aB)))
   (dG (cA dH bB) (a6 6)
    (b9 (dS (a7 rR (aA (bP (d8 (cA dH (vX dO bC)) (a6 0) eU (mL (aH (cL ac) aG aN) (aH (cL ab) aG aT)) [ae,aa 4,aa 1])) aB)))
    (fX (vC (.bl ab)) (i8 bG (vX dO bM)))
    cS)))
abbrev zfM:aE:=
   (jX (bU (aH mO cG (a7 cT (aA bG aB)))) zfL)
abbrev zfN:aE:=
   (bH bG)
abbrev zfO:aE:=(aF zfH (aF zfI (aF zfJ (aF LO (aF zfK (aF zfM zfN))))))
noncomputable abbrev zfP:↑Av:=["parts","own","wordy","empties","told","part","kept","left"]
abbrev zfQ:aE:=
   (aQ 4 (gA (aA (bA (aA (bA aB) (aA (bA aB) aB))) aB)))
abbrev zfR:aE:=
   (aF (aQ 6 (bP (d8 (cA kJ bG) (e8 2 (cB (a6 0) (cB (a6 1) eZ))) (jT (bU (aH (cL ac) aT bB)) (bU (aH (cL ab) aT bG))) (bA (aA (aH nK aG (bA (aA aT aB))) (aA (aH nK aN (bA (aA (a7 cT (aA aG aB)) aB))) aB))) [ae,ae,aa 5,aa 2,aa 1])))
   (aF (aQ 7 (bP (d8 (cA kJ bG) (e8 2 (cB (a6 0) (cB (a6 1) eZ))) (bU (aH (cL ac) aT bB)) (bA (aA aG (aA (aH nK aN (bA (aA (bA (aA (vC (.str "whole")) (aA (vX bB aT) aB))) aB))) aB))) [ae,ae,aa 5,aa 3])))
   (aQ 4 (aH dW dO eE))))
abbrev zfS:aE:=
   (dG (cA dH aG) (a6 5) zfR)
abbrev zfT:aE:=
   (bH bG)
abbrev zfU:aE:=(aF zfQ (aF zfS zfT))
noncomputable abbrev zfV:↑Av:=["plain","grammar","name","wordy","empties","own","number","parts","pieces"]
abbrev zfW(P:Be)(w:Bv)(C:Cc):aE:=
   (aF (aQ 5 (aS lU (aA (bP (aS jF (aA aN aB))) aB)))
   (dG (cA dH (bP (aS wB (aA aN (aA aT aB))))) (a6 6)
    (dG (cA kJ (bP (aS LM (aA (vX (vX aN dO) bC) (aA cG (aA bB (aA bG aB))))))) (e8 2 (cB (a6 7) (cB (a6 8) eZ)))
    (b9 (n5 (bU (aH (dU ab) eE (bA aB))) (bU (aH (dU ab) eE (bA (aA aT aB)))))
    (b8 (eA C.p "put_rule" (nG P w C.p) aG (aA aT (aA eE (aA (bA (aA (bA (aA dO (aA jR aB))) aB)) aB)))))
    cS))))
noncomputable abbrev zfX:↑Av:=["grammar","first","wordy","empties","plain","name","ahead","begin","told","begun"]
abbrev LP(P:Be)(w:Bv)(C:Cc):aE:=
   (aQ 4 (lL C.p (p7 P w C.p) aB))
abbrev LQ(P:Be)(w:Bv)(C:Cc):aE:=
   (dG (cA dH (bP (aS jF (aA aG aB)))) (a6 5) (b8 (aS (LN P w C) (aA bG (aA aG (aA cG (aA aT (aA bB aB))))))))
abbrev BO(P:Be)(w:Bv)(C:Cc):aE:=
   (aQ 6 (lL C.p (p7 P w C.p) aB))
abbrev LR(P:Be)(w:Bv)(C:Cc):aE:=
   (b9 (bU (aH (cL ac) aN bB))
    (aF (aQ 7 aN)
   (aF (b9 (dS (eA C.p "is_part" (LH P w C.p) bG (aA aN aB)))
    (aF (aQ 7 (vX (bP (aS AN (aA (bP (aS jF (aA aG aB))) (aA bC aB)))) bM))
   (b8 (eA C.p "put_rule" (nG P w C.p) dO (aA eE (aA (bA (aA aN aB)) (aA (bA (aA bM aB)) aB))))))
    cS)
   (b8 (eA C.p "put_rule" (nG P w C.p) dO (aA eE (aA (bA aB) (aA (bA (aA (bA (aA (vC (.str "whole")) (aA (vX bB aN) aB))) aB)) aB)))))))
    cS)
abbrev BP(P:Be)(w:Bv)(C:Cc):aE:=
   (aQ 8 (eA C.p "grammar_and_backs" (p8 P w C.p) bG aB))
abbrev BQ(P:Be)(w:Bv)(C:Cc):aE:=
   (aQ 9 (eA C.p "grammar_and_backs" (p8 P w C.p) dO aB))
abbrev BR(P:Be)(w:Bv)(C:Cc):aE:=
   (bH (bA (aA (aH dW (vX mK bM) (vX jR bM)) (aA (aH dW (vX mK bC) (vX jR bC)) aB))))
abbrev zfY(P:Be)(w:Bv)(C:Cc):aE:=(aF (aQ 1 (aS oK (aA aG aB))) (aF (aQ 2 (bP (aS LL (aA aG aB)))) (aF (aQ 3 (bP (aS (LK C) (aA aG aB)))) (aF (b9 (n5 (bU (aH (cL ab) aN aT)) (bU (aH (cL ab) aN bB))) (bH (aS A5 (aA aG aB))) cS) (aF (LP P w C) (aF (LQ P w C) (aF (BO P w C) (aF (LR P w C) (aF (BP P w C) (aF (BQ P w C) (BR P w C)))))))))))
def zfZ{rs:↑aD}{keep:Mm->Prop}{a:dE}{K:aP}{o:Option W}{rest:S3}{I:Mm}{R:K3}(f:aD->Option W)(hl:↥rs<=1000)(hk:∀M,L2.Sub I M->keep M)(F:∀q∈rs,∀M (C:K3) (D:Mm->Prop),L2.Sub I M->(∀y,f q=aa y->C y M)->(f q=ae->D M)->a (aa (bX q)::rest) M λb H=>if b=ab then K (aa (bX q)::rest) H C else D H)(r:aR (rs.filterMap f) I R):fZ (rs.map bX) keep (a6 0) a K (o::rest) I R:=by
 unfold fZ;intro p S;apply#[λi U acc M=>(∃o,U=o::rest)/\acc=(rs.take i).filterMap f/\M=I,#[#[_,rfl],rfl,rfl],?_,?_,?_]
 .rintro vs i U acc M _ d ⟨_,_,rfl⟩;show hk _ (Sub.new S)
 .rintro vs i w U acc M hw d ⟨⟨o,rfl⟩,rfl,rfl⟩;rw[Az]at hw;let#[q,hq,rfl]:=Bd.mp hw;let tk:rs.take (i+1)=rs.take i++[q]:=by rw[Ce,hq];rfl
  let Y:↥((rs.take i).filterMap f)<Ap:=dA (by let L:=List.length_filterMap_le f (rs.take i);rw[Dc]at L;lia);apply F q (Au hq) _ _ _ (Sub.new S) (λy O=>#[aK,Y,M,by rw[iD S];show aZ,#[_,rfl],?_,rfl]) λP=>#[aK,M,by rw[iD S];show aZ,#[_,rfl],?_,rfl]
  .rw[tk,List.filterMap_append];simp[O]
  .rw[tk,List.filterMap_append];simp[P]
 .rintro U acc M d ⟨_,rfl,rfl⟩;rw[Ab,Cb];show r p S
def zf0(rs:↑aD)(p:aD->Bool):rs.filterMap (λq=>if p q=ab then aa (bX q) else ae)=(rs.filter p).map bX:=by
 induction rs with
 | nil=>rfl
 | cons q rs E=>
  rw[Ez,Ec,E];cases p q<;>rfl
def zf1:bK (LK C) (zfF C) zfE:=by
 rintro _ M R ⟨rs,rfl,g,r⟩;apply#[rs,rfl,g.few100,aR.frz #[rs,[],rfl,g.gr,Cr _,λB F p hp=>#[p,rfl,.inr #[_,aK,?_]]]];rw[iD hp];let hbl:↥B<=320:=Ar (vD F.bs (wL g.few100 g.prt (Cr 3))) (Fo 16 g.nam);let wb:=g.gr.wb (row:=[]) (Cr 3) F;rw[zfp]at F;change fZ ((eC fK eJ B).map λp=>W.tup (p.1.map wK)) _ _ _ _ _ _ _;rw[KI];apply uP (rest:=[aa (bE rs),aa (nM B)]) (λw y=>∃f v,w=W.tup ((fK f).map wK)/\y=W.tup [.str f.1,v]/\RT a9 rs 320 [f.1] [v] []) (small (by rw[Ab,Ab];lia)) (λ_ _=>trivial) (λw hw M' C sb h1=>?_) λys po=>aR.frz ?_
 .let#[f,hf,rfl]:=Ao.mp hw;apply#[fL rs [],B,[],f,rfl,wb,hf,λv w hv hw=>h1 _ #[f,v,rfl,rfl,?_]];rw[Sg,List.drop_nil,List.drop_nil,Bn]at hw;subst hw;show hv.mono hbl
 .let#[kvs,rfl,hk,hv]:=AB (P:=λX v=>RT a9 rs 320 [X] [v] []) po;let hyl:=Ea po;rw[Ab,Ab]at hyl;apply#[kvs,rfl,small (by lia),λq hq=>#[_,aZ,r _ (JF (ss:=[]) (w:=ac) (λq hq t ht ho=>#[(λz=>nomatch z),λz=>(Bc z).elim]) F hk) (λX hX=>?_) q hq]];let#[v,e]:=Ed.mp hX;unfold iI;rw[e];rcases JD e with z|z
  .show hv _ z X rfl
  .cases z
def zf2{ts:↑Av}{f:Av->Bool}:(ts.map f).all id=ts.all f:=by rw[Nq];rfl
def zf3{ts:↑Av}{f:Av->Bool}:(ts.map f).any id=ts.any f:=by rw[Ku];rfl
def LS{b:Bool}(h0:τ[0]? = aa (aa (.str t)))(hx:τ[1]? = aa (aa x))(hd:∀R:K3,R (.bl b) M->cL ac (.str t) x M R)(h2:τ[2]? = aa (aa (.dk (ownOf rs))))(r:R (.bl (b||!ownB rs t)) M):
  mL (aH (cL ac) (cP 0) (cP 1)) (aH (cL ab) (cP 0) (cP 2)) τ M R:=by
 simp only[mL,aH,cP,h0,hx,h2];apply hd _ (bS (λz=>?_) λz=>#[_,#[Sum.inr t,rfl,rfl],?_])
 .rw[z]at r;show r
 .change R (.bl (!(aM (ownOf rs) (Sum.inr t:aC)).isSome)) M;rw[z,Ol]at r;rw[lX];show r
def zf4:bK LL zfO zfG:=by
 rintro _ M R ⟨rs,rfl,g,r⟩;let h17:=g.few;let h100:=g.few100;apply#[rs,rfl,Ar h100 ∅,aR.frz #[namesOf rs,rfl,wI h100,rs,rfl,g.gl,λkvs hk=>i4.frz ?_]];let hfr:∀t:Av,(aM kvs (Sum.inr t:aC)).isSome=lQ rs ab t:=hk;apply(zfZ (rest:=[aa (.dk kvs),aa (.dk (ownOf rs))]) (λq=>if q.parts.all (eL rs)=ab then aa (bX q) else ae) (by lia) (λ_ _=>trivial) (λq hq M' C D sb h1 h2=>?_) (aR.frz ?_))
 .let hp:=g.prt q hq;apply(A8 (rest:=[aa (.dk kvs),aa (.dk (ownOf rs))]) (eL rs) (by lia) (λ_=>trivial) (λt ht M2 C2 sb2 h3=>LS (b:=lQ rs ab t) rfl rfl (λR h=>#[_,#[Sum.inr t,rfl,rfl],by change R (.bl (aM kvs (Sum.inr t:aC)).isSome) _;rw[hfr];show h]) rfl h3) #[_,rfl,?_]);change uA (.bl ((q.parts.map (eL rs)).all id)) _ _;rw[zf2];show bS (λz=>(h1 _ (by rw[Xb z]))) λz=>h2 (by rw[Xa (by rw[z];show Bc)])
 rw[zf0];change(aF LO _) _ [aa (bE rs),aa (.dk (ownOf rs)),aa (.dk kvs),aa (.rl ((fU rs).map bX)),ae,ae,ae] _;apply λp hp=>?_;let lW:=λn=>Ar (Wd.rounds rs n).len g.nam;let lF:↥(fU rs)<=400:=Ar (Gw _ _) h17;apply mZ (λm τ M'=>∃(n:Nat) (s:Int) (o6:Option W),τ=[aa (bE rs),aa (.dk (ownOf rs)),aa (.dk kvs),aa (.rl ((fU rs).map bX)),aa (.ref p),aa (.int s),o6]/\M'=put M p (.dK ((eQ rs n).map cE))/\(s<↥(eQ rs n)\/∃k,n=k+1/\s=↥(eQ rs k))/\m=2*(30-↥(eQ rs n))+(if s<↥(eQ rs n) then 1 else 0)) #[_,0,_,_,rfl,rfl,.inl (by change(-1:Int)<0;decide),rfl] ?_;rintro m τ M' ⟨n,s,o6,rfl,rfl,hs,rfl⟩ Dw hDw;apply(.inr #[_,aK,bS (λz=>?_) λz=>?_])
 .let z:=Xc z;rw[Ab]at z;rw[Xb z]at hDw;apply(.inr #[_,aK,(eO (λj τ M'=>∃o6,τ=[aa (bE rs),aa (.dk (ownOf rs)),aa (.dk kvs),aa (.rl ((fU rs).map bX)),aa (.ref p),aa (.int ↥((eQ rs n).map cE)),o6]/\M'=put M p (.dK ((((fU rs).take j).foldl (fJ rs) (eQ rs n)).map cE))) #[_,rfl,rfl] ?_ ?_)])
  .rintro j x τ M' hx ⟨o6,rfl,rfl⟩ Dx hN;rw[Az]at hx;let#[q,hq,rfl]:=Bd.mp hx;let hqm:=Au hq;let hp4:=g.prt q (vP.mp hqm).1;obtain⟨D,hD⟩:∃D,D=((fU rs).take j).foldl (fJ rs) (eQ rs n):=#[_,rfl];let wD:Wd rs D:=by rw[hD];show(Wd.rounds rs n).fold λr hr=>Kj hr
   let lD:=Ar wD.len g.nam;let hnx:((fU rs).take (j+1)).foldl (fJ rs) (eQ rs n)=fJ rs D q:=by rw[Ce,hq,Mi,<-hD];rfl
   rw[<-hD];apply(A8 (rest:=[aa (.ref p),aa (.dk (ownOf rs))]) (cM rs D) (by lia) (λ_=>trivial) (λt ht M2 C2 sb2 h3=>LS (b:=decide (t∈D)) rfl rfl (λR h=>.inr #[_,.inl #[_,Sum.inr t,sb2 _ _ aK,rfl,rfl],by change R (.bl (aM (D.map cE) (Sum.inr t:aC)).isSome) _;rw[sE];show h]) rfl h3) #[_,rfl,?_]);change uA (.bl ((q.parts.map (cM rs D)).any id)) _ _;rw[zf3];apply bS (λz=>(uU aK (dA (by rw[Ab];lia)) (hN _ _ #[_,rfl,?_]))) λz=>hN _ _ #[_,rfl,?_]
   .rw[hnx,cF,vE];unfold fJ;rw[Xb z]
   .rw[hnx];unfold fJ;rw[Xa (by rw[z];show Bc)]
  .rintro τ M' ⟨o6,rfl,rfl⟩;let ek:((fU rs).take ↥((fU rs).map bX)).foldl (fJ rs) (eQ rs n)=eQ rs (n+1):=by rw[Ab,Cb];rfl
   rw[ek];apply hDw _ _ _ ?_ #[n+1,_,_,rfl,rfl,.inr #[n,rfl,by rw[Ab]],rfl];let#[q,hq]:=vO rs (fU rs) (eQ rs n);let e:↥(eQ rs (n+1))=↥(eQ rs n)+↥q:=by change(gS rs (eQ rs n)).length=_;unfold gS;rw[hq,Ag]
   have:=lW (n+1);rw[Ab];split<;>lia
 .let z:=of_decide_eq_false z;rw[Ab]at z;rcases hs with hs|⟨k,rfl,rfl⟩
  .show absurd hs z
  .let e:gS rs (eQ rs k)=eQ rs k:=zcq (by have:↥(eQ rs (k+1))=↥(gS rs (eQ rs k)):=rfl;lia);let e1:eQ rs (k+1)=eQ rs k:=e;show#[_,aZ,r _ #[k+1,rfl,by rw[e1];show e] p hp]
def LU{l:↑hV}{keep:Mm->Prop}{a:dE}{K:aP}{g s:Option W}{rest:S3}{I:Mm}{R:K3}(b:Bool)(f:hV->W)(hl:↥l<=1000)(hk:∀M,keep M)(F:∀x∈l,∀M (C:K3) (D:Mm->Prop),L2.Sub I M->(b=ab->C (f x) M)->(b=ac->D M)->a (aa (.tup (x.1.map W.str))::aa (.tup x.2)::rest) M λb H=>if b=ab then K (aa (.tup (x.1.map W.str))::aa (.tup x.2)::rest) H C else D H)(r:R (.rl (if b=ab then l.map f else [])) I):fZ (l.map kS) keep yW a K (g::s::rest) I λw V=>frz w V R:=by
 unfold fZ;intro p S;apply#[λi U acc M=>(∃g s,U=g::s::rest)/\acc=(if b=ab then(l.take i).map f else [])/\M=I,#[#[_,_,rfl],by split<;>rfl,rfl],λ_ _ _ _ _ _ _ _=>hk _,?_,?_]
 .rintro vs i w U acc M hw d ⟨⟨g,s,rfl⟩,rfl,rfl⟩;rw[Az]at hw;let#[x,B,rfl]:=Bd.mp hw;let hi:=(An.mp B).1;let N:↥(if b=ab then(l.take i).map f else [])<Ap:=dA (by split<;>simp<;>lia);apply#[rfl,rfl,F x (Au B) _ _ _ (Sub.new S) (λY=>#[aK,N,M,by rw[iD S];show aZ,#[_,_,rfl],?_,rfl]) λY=>#[aK,M,by rw[iD S];show aZ,#[_,_,rfl],?_,rfl]]
  .rw[Xb Y,Xb Y,Ce,B,Ay];rfl
  .rw[Y];rfl
 .rintro U acc M d ⟨_,rfl,rfl⟩;rw[Ab,Cb];show aR.frz r p S
def zf5{keep drop:Av->Bool}{E:Av->W}(h:x∈kO keep drop E ps):↥x.1<=↥ps/\↥x.2<=↥ps:=by
 have:∀(ps:↑Av) (told:↑hV) (n:Nat),(∀y∈told,↥y.1<=n/\↥y.2<=n)->∀x∈ps.foldl (gT keep drop E) told,↥x.1<=n+↥ps/\↥x.2<=n+↥ps:=by
  intro ps
  induction ps with
  | nil=>intro told n h x B;show h x B
  | cons t ps N=>
   intro told n h x B;have:=N (gT keep drop E told t) (n+1) (λy O=>?_) x B
   .rw[Bq];lia
   .unfold gT at O;rcases Bb.mp O with O|O
    .split at O
     .let#[z,hz,rfl]:=Ao.mp O;have:=h z hz;simp only[Ag,Bz];lia
     .cases O
    .split at O
     .let#[z,hz,rfl]:=Ao.mp O;have:=h z hz;simp only[Ag,Bz];lia
     .cases O
 have:=this ps [([],[])] 0 (λy O=>by rw[Ai.mp O];show#[Aj _,Aj _]) x h;lia
def zf6(h:R (.rl ws) M):frz (.rl ws) M R:=h
def LV{keep drop:Av->Bool}{E:Av->W}(h:↥ps<=4):↥(kO keep drop E ps)<=16:=by
 have:=JI (keep:=keep) (drop:=drop) (E:=E) ps [([],[])];rw[Bz,Nat.mul_one]at this;show Ar this (Nat.pow_le_pow_right (n:=2) ∅ h)
def zf7:bK LM zfU zfP:=by
 rintro _ M R ⟨rs,D,kvs,ps,rfl,hp4,r⟩;apply(mY (ws:=ps.map W.str) (λi τ M'=>∃o5 o6 o7,τ=[aa (.tup (ps.map W.str)),aa (.dk (ownOf rs)),aa (.dk (D.map cE)),aa (.dk kvs),aa (.rl ((kO (cM rs D) (drK kvs) (iI kvs) (ps.take i)).map kS)),o5,o6,o7]/\M'=M) #[_,_,_,rfl,rfl] ?_ ?_)
 .rintro i x τ M' hx ⟨o5,o6,o7,rfl,rfl⟩;rw[Az]at hx;let#[t,ht,rfl]:=Bd.mp hx;obtain⟨l,hl⟩:∃l,l=kO (cM rs D) (drK kvs) (iI kvs) (ps.take i):=#[_,rfl];let l16:↥l<=16:=by rw[hl];show LV (by rw[Dc];lia)
  let lx:∀x∈l,↥x.1<=4/\↥x.2<=4:=λx hx=>by
   rw[hl]at hx;let#[h1,h2]:=zf5 hx;rw[Dc]at h1 h2;show#[by lia,by lia]
  let hnx:kO (cM rs D) (drK kvs) (iI kvs) (ps.take (i+1))=gT (cM rs D) (drK kvs) (iI kvs) l t:=by
   rw[Ce,ht,hl];unfold kO;rw[Mi];rfl
  rw[hnx,<-hl];apply(LU (rest:=[aa (.str t),aa (.dk (D.map cE)),aa (.dk (ownOf rs))]) (cM rs D t) (λx=>kS (x.1++[t],x.2++[W.int ↥x.1])) (by lia) (λ_=>trivial) (λx hx M C E sb h1 h2=>?_) ?_)
  .let#[x1,x2]:=lx x hx;let go:cM rs D t=ab->bA (aA (aH nK (cP 0) (bA (aA (cP 2) aB))) (aA (aH nK (cP 1) (bA (aA (a7 cT (aA (cP 0) aB)) aB))) aB)) (aa (.tup (x.1.map W.str))::aa (.tup x.2)::[aa (.str t),aa (.dk (D.map cE)),aa (.dk (ownOf rs))]) M C:=λz=>by
    apply#[_,_,rfl,rfl,small (by rw[Ab];change _+1<=_;lia),_,_,rfl,rfl,small (by change _+1<=_;lia),?_];have:=h1 z;unfold kS at this;rw[Ay]at this;rw[Ab];show this
   apply#[_,#[Sum.inr t,rfl,rfl],?_];change if (aM (D.map cE) (Sum.inr t:aC)).isSome=ab then _ else _;rw[sE];apply bS (λz=>go (by unfold cM;rw[z];rfl)) λz=>#[_,#[Sum.inr t,rfl,rfl],?_]
   change if (!(aM (ownOf rs) (Sum.inr t:aC)).isSome)=ab then _ else _;rw[lX];show bS (λy=>go (by unfold cM;rw[y,Nr])) λy=>h2 (by unfold cM;rw[z,y];rfl)
  .apply(LU (rest:=[aa (.str t),aa (.dk kvs)]) (drK kvs t) (λx=>kS (x.1,x.2++[W.tup [.str "whole",iI kvs t]])) (by lia) (λ_=>trivial) (λx hx M C E sb h1 h2=>?_) ?_)
   .let#[x1,x2]:=lx x hx;apply#[_,#[Sum.inr t,rfl,rfl],?_];change if (aM kvs (Sum.inr t:aC)).isSome=ab then _ else _;apply bS (λz=>?_) λz=>h2 z;let lk:aa (iI kvs t)=aM kvs (Sum.inr t:aC):=by
     let#[v,hv]:=Ed.mp z;unfold iI;rw[hv];rfl
    show#[_,#[Sum.inr t,rfl,lk],_,_,rfl,rfl,small (by change _+1<=_;lia),h1 z]
   .apply#[small ?_,?_]
    .split<;>split<;>simp<;>lia
    .let e:(if cM rs D t=ab then l.map λx=>kS (x.1++[t],x.2++[W.int ↥x.1]) else [])++(if drK kvs t=ab then l.map λx=>kS (x.1,x.2++[W.tup [.str "whole",iI kvs t]]) else [])=(gT (cM rs D) (drK kvs) (iI kvs) l t).map kS:=by
      unfold gT;rw[Ay];congr 1
      .split
       .rw[Br];rfl
       .rfl
      .split
       .rw[Br];rfl
       .rfl
     rw[<-e];show#[_,aZ,_,_,_,rfl,rfl]
 .rintro τ M' ⟨o5,o6,o7,rfl,rfl⟩;rw[Ab,Cb];show#[_,aZ,r]
theorem sJ:∀{a b:↑Av},a.map W.str=b.map W.str->a=b
 | [],[],_=>rfl
 | [],_::_,h=>nomatch h
 | _::_,[],h=>nomatch h
 | x::a,y::b,h=>by
  rw[Bi,Bi,Ff,W.str.injEq]at h;rw[h.1,sJ h.2]
section
variable {P:Be}{w:Bv}{C:Cc}
def BS(X:Av)(y:hV)(x:NP):Prop:=x=(X,y.1)/\y.1≠[]/\y.1≠[X]
def zf8:bK (LN P w C) (zfW P w C) zfV:=by
 rintro _ M R ⟨a,d,s,l,rs,X,D,kvs,f,rfl,pl,hl,g,u,hem,r⟩;let I:=g.few100;let h17:=g.few;apply#[rs,rfl,I,aR.frz #[namesOf rs,rfl,wI I,rs,X,rfl,h17,aR.frz ?_]];apply eO (λi U V=>∃Q Y J o8,U=[aa (.ref a),aa (bE rs),aa (.str X),aa (.dk (D.map cE)),aa (.dk kvs),aa (.dk (ownOf rs)),Y,J,o8]/\V=put M d (.dn P w [0] (kvsOf Q))/\Ex (λz=>z.1.1=X/\(Qz rs f 320 1 z/\Pz rs z)/\h9 rs D (drK kvs) X z.1.2) l (16*i) (λx=>∃n∈(numsOf rs X).take i,∃r,rs[n]? = aa r/\∃y∈wM rs D kvs r.parts,BS X y x) Q) #[l,_,_,_,rfl,(K6 pl.di).symm,Ex.start] ?_ ?_
 .rintro i y U V O ⟨Q,Y,J,o8,rfl,rfl,H⟩ Dx E;rw[Az]at O;let#[n,K,rfl]:=Bd.mp O;let#[ru,c,en]:=p9.mp (Au K);let#[A,L,Z]:=lV (rs:=rs) (n:=n) (An.mp c).1;cases (show aa A=aa ru from L.symm.trans c);let N:=Au c;let hp4:=g.prt ru N;let hi:=Ci (An.mp K).1 (wF rs X);let p:=H.len;apply so.of Z #[rs,D,kvs,ru.parts,rfl,hp4,?_];obtain⟨ys,hys⟩:∃ys,ys=wM rs D kvs ru.parts:=#[_,rfl];rw[<-hys];let y16:↥ys<=16:=by rw[hys];show LV hp4
  apply zf6 (eO (ws:=ys.map kS) (λj U V=>∃o J o8,U=[aa (.ref a),aa (bE rs),aa (.str X),aa (.dk (D.map cE)),aa (.dk kvs),aa (.dk (ownOf rs)),aa (.int n),J,o8]/\V=put M d (.dn P w [0] (kvsOf o))/\Ex (λz=>z.1.1=X/\(Qz rs f 320 1 z/\Pz rs z)/\h9 rs D (drK kvs) X z.1.2) Q (1*j) (λx=>∃y∈ys.take j,BS X y x) o) #[Q,_,_,rfl,rfl,Ex.start] ?_ ?_)
  .rintro j y U V O ⟨o,J,o8,rfl,rfl,G⟩ Dx E;rw[Az]at O;let#[y,hyj,rfl]:=Bd.mp O;let hj:=(An.mp hyj).1;let g2l:=G.len;let ym:y∈wM rs D kvs ru.parts:=hys▸Au hyj;let yth:Th _ _ _ _:=AJ.mp #[y,ym,rfl];let ysh:∀t∈y.1,Sh t:=λt ht=>g.sh ru N t (yth.sub t ht).1;let Xsh:∀t∈[X],Sh t:=λt ht=>by rw[Ai.mp ht,<-en];show g.shn ru N
   let no:(y.1≠[]->y.1=[X])->Ex (λz=>z.1.1=X/\(Qz rs f 320 1 z/\Pz rs z)/\h9 rs D (drK kvs) X z.1.2) Q (1*(j+1)) (λx=>∃y∈ys.take (j+1),BS X y x) o:=λz=>G.step hyj (.no λx h=>h.2.2 (z h.2.1));apply#[rfl,rfl,pK 2 ∅ (nJ ysh) (nJ (ps:=[]) (λt ht=>nomatch ht)) λS hb1=>bS (λm=>?_) λm=>E _ _ #[o,_,_,rfl,rfl,no λz=>?_]]
   .apply pK 2 ∅ (nJ ysh) (nJ (ps:=[X]) Xsh) λb2 hb2=>bS (λv=>?_) λv=>E _ _ #[o,_,_,rfl,rfl,no λ_=>?_]
    .apply mI (pl.putD o).ob nH #[a,d,s,o,(X,y.1),_,rfl,pl.putD o,by lia,λk g'=>E _ _ #[k,_,_,rfl,cF,G.step hyj (g'.cg (λz ez=>?_) λx h=>h.1)]];rw[ez];apply#[rfl,#[#[_,rfl,?_],λt ht=>g.pt ru N t (yth.sub t ht).1,Ar yth.len hp4],ru,N,en,yth,λe=>?_,λe=>?_]
     rotate_left
     .rw[hb1.mpr (by change W.tup (y.1.map W.str)=_;rw[show y.1=[] from e];rfl)]at m;cases m
     .rw[hb2.mpr (by change W.tup (y.1.map W.str)=_;rw[show y.1=[X] from e];rfl)]at v;cases v
     change Pf _ _ _ _ _ _ _ _ (dY rs f X);rw[lZ (.inl u),<-en];show Pf.one (g.hd ru N).nm c (by lia) (J7 hem (qs:=[]) (g.sem N) (λx B=>by rw[Ai.mp B];show .nil) ym)
    .let v:b2=ab:=by cases b2;cases v;rfl
     show sJ (by have:=hb2.mp v;injection this)
   .let m:S=ab:=by cases S;cases m;rfl
    show absurd (sJ (b:=[]) (by have:=hb1.mp m;injection this)) z
  .rintro U V ⟨o,J,o8,rfl,rfl,G⟩;rw[Ab,Cb,hys]at G;apply E _ _ #[o,_,_,_,rfl,rfl,H.step K ((G.le (by rw[<-hys];lia)).cg (λ_ h=>h) λx #[q,hq,h]=>?_)];rw[c]at hq;cases hq;show h
 .rintro U V ⟨Q,Y,J,o8,rfl,rfl,H⟩;rw[Ab,Cb]at H;have:=wF rs X;apply#[_,aZ,r Q ((H.le (by lia)).cg (λ_ h=>h) λx=>?_)];rintro⟨L,q,hq,en,Z,F,T⟩;let#[n,K]:=Kk hq;let#[y,O,e]:=AJ.mpr Z;show#[n,p9.mpr #[q,K,en],q,K,y,O,by rw[e,<-L],e▸F,e▸T]
end
section
variable {P:Be}{w:Bv}{C:Cc}
def zf9:Cq ("is_part" : Av) [(("backs" : Av),W.ref d)]=ae:=by
 rw[Eh,show(("is_part" : Av)==("backs" : Av))=ac by decide +kernel];rfl
def zga:bK BN (zfY P w C) zfX:=by
 rintro _ M R ⟨rs,rfl,g,r⟩;let h100:=g.few100;let hnm:=g.nam;let#[q0,l,e0]:=Fx g.ne;apply#[q0,l,by rw[e0];rfl,rs,rfl,g,λD hD=>i4.frz #[rs,rfl,g,λkvs he hem=>i4.frz ?_]];obtain⟨F,hF⟩:∃F,F=q0.name:=#[_,rfl];rw[<-hF];let hF0:f0 rs=F:=by rw[hF,e0];rfl
 let hFn:F∈namesOf rs:=iR.mpr #[q0,by rw[e0];show .head _,hF.symm];let hFh:dB F:=by rw[hF];show g.hd q0 (by rw[e0];show .head _)
 let hdr:∀t,drK kvs t=ab↔fE rs ac t:=λt=>by rw[he,nC]
 let hfew:=g.few;obtain⟨wd,fx⟩:Wd rs D/\gS rs D=D:=by
  let#[n,e1,e2]:=hD;show#[by rw[e1];show Wd.rounds rs n,e2]
 obtain⟨f,hf⟩:∃f:Av->↑Av,f=λ_=>[F]:=#[_,rfl];let sF:dY rs f F=[F]:=lZ (.inl hFn);let go:F∈D\/drK kvs F=ab->(aF (LP P w C) (aF (LQ P w C) (aF (BO P w C) (aF (LR P w C) (aF (BP P w C) (aF (BQ P w C) (BR P w C))))))) (n9 R) [aa (bE rs),aa (.str F),aa (.dk (D.map cE)),aa (.dk kvs),ae,ae,ae,ae,ae,ae] M:=λhc=>by
  let has:drK kvs F=ac->∃l,h9 rs D (drK kvs) F l:=λz=>by
   let hFD:=hc.resolve_right (by rw[z];show Bc);show J8 wd fx hdr hFD
  apply λa dx ha hdx hne=>#[a,dx,rfl,aK,λd hd=>#[rfl,?_]]
  let had:a≠d:=λe=>by rw[<-e,aK]at hd;cases hd
  rw[aW (Ca had)]at hd;rw[Bt.first had];apply#[rs,rfl,h100,aR.frz ?_];apply eO (λi τ M'=>∃T o5,τ=[aa (bE rs),aa (.str F),aa (.dk (D.map cE)),aa (.dk kvs),aa (.ref a),o5,ae,ae,ae,ae]/\M'=Bt P w C.p M a d dx T/\(∀z∈T,z.1.1∈namesOf rs/\(Qz rs f 320 1 z/\Pz rs z)/\h9 rs D (drK kvs) z.1.1 z.1.2)/\(∀X ps,X∈(namesOf rs).take i->h9 rs D (drK kvs) X ps->(X,ps)∈T.map Ck)/\↥T<=16*↥rs*i/\(0<i->Hd F (∃l,h9 rs D (drK kvs) F l) T)) #[[],_,rfl,rfl,(λ_ h=>nomatch h),(λ_ _ h=>nomatch h),Aj _,λh=>absurd h ∅] ?_ ?_
  .rintro i v τ M' hv ⟨T,o5,rfl,rfl,g1,g1c,g1l,h1⟩ Dx hD;rw[Az]at hv;let#[X,hX,rfl]:=Bd.mp hv;let hi:=(An.mp hX).1;let hXm:=Au hX;let hpi:16*↥rs*i<=16*400*20:=Ej (Fo 16 hfew) (by lia);apply#[a,d,dx,T,rs,X,D,kvs,f,rfl,Bt.pl had,by lia,g,hXm,hem,λl' g'=>hD _ _ #[l',aa (.str X),rfl,Bt.put,g'.all g1 (λz hz=>#[hz.1▸hXm,hz.2.1,hz.1▸hz.2.2]),λY ps hY hp=>g'.had ?_,Ar g'.len (by rw[Nat.mul_succ];show Ga g1l _),λ_=>?_]]
   .rw[Ce,hX]at hY;show(Bb.mp hY).imp (λz=>g1c Y ps z hp) λz=>by rw[Ai.mp z]at hp⊢;show#[rfl,hp]
   cases i with
   | zero=>
    cases T with
    | nil=>
     have:F=X:=by rw[J4 g.ne,hF0]at hX;cases hX;rfl
     show Hd.of g' (λx h=>h.1.trans this.symm) λ#[l,hl]=>#[(X,l),rfl,this▸hl]
    | cons z l=>rw[Nat.mul_zero]at g1l;cases g1l
   | succ i=>show(h1 (Us i)).ex g'
  .rintro τ M' ⟨T,o5,rfl,rfl,g1,g1c,g1l,h1⟩;rw[Ab]at h1 g1l g1c;rw[Cb]at g1c;let hT:=h1 (Ji.mpr λz=>by rw[z]at hFn;cases hFn);let lT:↥T<=128000:=Ar g1l (Ej (Fo 16 hfew) hnm);change(aF (BO P w C) _) _ _ (Bt P w C.p M a d dx T);let sb1:L2.Sub M (Bt P w C.p M a d dx T):=Bt.sub ha hd had;let pl1:j7 P w C.p (Bt P w C.p M a d dx T) a d dx T:=Bt.pl had;generalize hM1:Bt P w C.p M a d dx T=M1 at sb1 pl1;apply λa2 dx2 ha2 hdx2 hne2=>#[a2,dx2,rfl,aK,λd2 hd2=>#[rfl,?_]]
   let had2:a2≠d2:=λe=>by rw[<-e,aK]at hd2;cases hd2
   rw[aW (Ca had2)]at hd2;rw[Bt.first had2];let sb2:∀l,L2.Sub M (Bt P w C.p M1 a2 d2 dx2 l):=λl=>sb1.trans (Bt.sub ha2 hd2 had2);let pl2:∀l,j7 P w C.p (Bt P w C.p M1 a2 d2 dx2 l) a d dx T:=λl=>#[Bt.sub ha2 hd2 had2 _ _ pl1.ob,Bt.sub ha2 hd2 had2 _ _ pl1.di]
   let fin:∀(lb:↑(NP×W)) (o7:Option W) (m:Av),↥lb<=2->dB m->(lb++T≠[]/\dY rs f (f0 (aX (lb++T)))=[F])->(∀z∈lb,z.1.1=m/\Qz rs f 320 1 z/\Pz rs z)->((drK kvs F=ac/\lb=[]/\f0 (aX (lb++T))=F)\/drK kvs F=ab/\((lb.map Ck=[(F,[])]/\∀z∈T,F∉z.1.2)\/m∉namesOf rs/\lb.map Ck=[(m,[F]),(m,[])]/\∃z∈T,F∈z.1.2))->(aF (BP P w C) (aF (BQ P w C) (BR P w C))) (n9 R) [aa (bE rs),aa (.str F),aa (.dk (D.map cE)),aa (.dk kvs),aa (.ref a),o5,aa (.ref a2),o7,ae,ae] (Bt P w C.p M1 a2 d2 dx2 lb):=λlb o7 m B3 hm h0 hal his=>by
    apply mI (pl2 lb).ob sG #[a,d,dx,_,rfl,pl2 lb,mI (Bt.pl had2).ob sG #[a2,d2,dx2,_,rfl,Bt.pl had2,?_]];have:=r D (drK kvs) (lb++T) #[wd,fx,hdr,.inr #[m,f,lb,T,rfl,#[hm,by rw[Ag,<-Nat.mul_assoc];lia,by rw[hF0];show h0,λz hz=>(Bb.mp hz).elim (λy=>#[.inl (hal z y).1,(hal z y).2]) λy=>#[.inr (g1 z y).1,(g1 z y).2.1],λt=>by rw[hf];show(by decide:1<=100)],g1c,λz hz=>(g1 z hz).2.2,by rw[hF0];show his]];unfold p6 aX at this;rw[Ay,Ay,Ay]at this;show#[small (by simp only[Ab];lia),small (by simp only[Ab];lia),_,sb2 lb,this]
   let f0l:∀{x:NP×W} {t:↑(NP×W)},f0 (aX (x::t))=x.1.1:=λ{x t}=>rfl;apply#[_,#[Sum.inr F,rfl,rfl],bS (b:=drK kvs F) (λy1=>?_) λy1=>fin [] _ F (Cr _) hFh ?_ (λ_ h=>nomatch h) (.inl #[y1,rfl,?_])]
   .let#[v,hv]:=Ed.mp y1;let ev:iI kvs F=v:=by unfold iI;rw[hv];rfl
    let hw:∀X,dY rs f X=[F]->Qz rs f 320 1 ((X,[]),.tup [vT v])/\Pz rs ((X,[]),.tup [vT v]):=λX e=>#[#[_,rfl,by
     change Pf _ _ _ _ _ _ _ _ (dY rs f X);rw[e];show .whole (ev▸hem F y1) .nil],(λ_ h=>nomatch h),Cr _]
    apply mI (pl2 []).ob zf9 #[a,d,dx,T,F,rfl,pl2 [],by lia,λb hb=>bS (b:=b) (λy2=>?_) λy2=>?_]
    .apply#[rs,rfl,h100,aR.frz #[namesOf rs,1,rfl,by lia,aR.frz ?_]];let#[x,hx]:=Pe.mp (JV (old:=namesOf rs) (n:=1) (Gz (show 1+↥(namesOf rs)<=21 by lia) ∅));rw[hx];apply mI (Bt.pl had2).ob nH #[a2,d2,dx2,[],(x,[F]),_,rfl,Bt.pl had2,Cr _,λl1 g2=>?_];rw[Bt.put];obtain rfl:=g2.one (λh=>nomatch h);apply mI (Bt.pl had2).ob nH #[_,#[Sum.inr F,rfl,hv.symm],a2,d2,dx2,_,(x,[]),_,rfl,Bt.pl had2,by change 1<=_;lia,λl2 g3=>?_];rw[Bt.put];obtain rfl:=g3.one (λh=>nomatch (Eo (Ai.mp h)).2);let#[x1,i,xi,x2]:=JW (by rw[hx];show .head _:x∈kP (namesOf rs) 1);let hxh:dB x:=x2▸J3 (by lia);let sx:dY rs f x=[F]:=by
      unfold dY;rw[Xa (λz=>z.elim x1 λz=>by rw[hxh.nm]at z;cases z),hf]
     apply fin _ _ x (Aj _) hxh #[Mv _ _,sx] (λz hz=>?_) (.inr #[y1,.inr #[x1,rfl,hb.mp y2]]);rcases Ax.mp hz with rfl|hz
     .apply#[rfl,#[_,rfl,?_],λt ht=>.inl (by rw[Ai.mp ht];show hFh),by change 1<=4;decide];change Pf _ _ _ _ _ _ _ _ (dY rs f x);rw[sx];have:=Pf.slot (nm:=a9) (rs:=rs) (sem:=dY rs f) (H:=320) (d:=1) (k:=0) (p:=F) .nil;rw[sF]at this;show this
     .rw[Ai.mp hz];show#[rfl,hw x sx]
    .apply mI (Bt.pl had2).ob nH #[_,#[Sum.inr F,rfl,hv.symm],a2,d2,dx2,[],(F,[]),_,rfl,Bt.pl had2,Cr _,λl2 g3=>?_];rw[Bt.put];obtain rfl:=g3.one (λh=>nomatch h);show fin _ _ F (by change 1<=2;lia) hFh #[Mv _ _,sF] (λz hz=>by rw[Ai.mp hz];show#[rfl,hw F sF]) (.inr #[y1,.inl #[rfl,λz hz h=>by rw[hb.mpr #[z,hz,h]]at y2;cases y2]])
   .let#[z,t,e,e2]:=hT (has y1);rw[e,Ho,f0l,e2];show#[Mv _ _,sF]
   .let#[z,t,e,e2]:=hT (has y1);rw[e,Ho,f0l,e2]
 apply#[_,#[Sum.inr F,rfl,rfl],?_];change if (!(aM (D.map cE) (Sum.inr F:aC)).isSome)=ab then _ else _;rw[sE];apply bS (λy1=>#[_,#[Sum.inr F,rfl,rfl],bS (b:=!drK kvs F) (λy2=>?_) λy2=>go (.inr ?_)]) λy1=>go (.inl ?_)
 .show#[rs,rfl,g.ne,_,aZ,r D (drK kvs) _ #[wd,fx,hdr,.inl #[rfl,by rw[hF0];show of_decide_eq_false (by rw[<-Hl (decide (F∈D)),y1];rfl),by rw[hF0,<-Hl (drK kvs F),y2];rfl]]]
 .rw[<-Hl (drK kvs F),y2];rfl
 .show Xc (by rw[<-Hl (decide (F∈D)),y1];rfl)
end
def LW(h:sglB rs r=ab):∃Y,r.parts=[Y]/\ownB rs Y=ab:=by
 unfold sglB at h;split at h
 .rename_i t e;show#[t,e,h]
 .cases h
def BU(h:eL rs t=ab)(o:ownB rs t=ab):fE rs ab t:=by
 unfold eL at h;rw[o,Oj,Qw]at h;show nC.mp h
def LX(h:fE rs ab t):eL rs t=ab:=by unfold eL;rw[nC.mpr h];rfl
def LY(h:ownB rs t=ac):eL rs t=ab:=by unfold eL;rw[h];show Nr _
def LZ(h:fE rs ab X):∃l,iA rs X l:=by
 induction h with
 | @mk r G S _ E=>
  cases F:sglB rs r with
  | false=>show#[_,r,G,.rf,rfl,F,λt ht=>by
    cases f:ownB rs t with
    | true=>show LX (S t ht f)
    | false=>show LY f]
  | true=>
   let#[Y,e,o]:=LW F;let#[l,q,L,Z,K]:=E Y (by rw[e];show .head _) o;show#[l,q,L,.st G e o Z,K]
def l6(rs:↑aD):Prop:=∀r∈rs,r.parts=[]->r.name=f0 rs/\∀q∈rs,f0 rs∉q.parts
def BV(rs:↑aD)(l:↑(NP×W)):Prop:=(l=noL (f0 rs)/\¬fE rs ab (f0 rs))\/(∃f,Tl rs (f0 rs) f 0 20 (↥rs*↥(namesOf rs)*↥(namesOf rs)) l)/\f0 (aX l)=f0 rs/\(∀X ps,X∈namesOf rs->iA rs X ps->(X,ps)∈l.map Ck)/\∀z∈l,iA rs z.1.1 z.1.2
def L0:a8:=λws M R=>∃rs:↑aD,ws=[bE rs]/\fG rs/\l6 rs/\R .non M
def L1:a8:=λws M R=>∃rs:↑aD,ws=[bE rs]/\fG rs/\l6 rs/\∀l,BV rs l->R (p6 l) M
noncomputable abbrev zgb:↑Av:=["grammar","first","is_part","rule"]
abbrev zgc:aE:=
   (b9 (n5 (bU (aH (dU ac) (vX bB bC) (bA aB))) (jT (bU (aH (dU ab) (vX bB bM) aN)) (dS aT)))
    YR
    cS)
abbrev zgd:aE:=(aF (aQ 1 (aS oK (aA aG aB))) (aF (aQ 2 (a7 rR (aA (bP (d8 (cA dH aG) (a6 0) eU (aH (cL ac) aN (vX aG bC)) [ae,aa 1])) aB)))
   (dG (cA dH aG) (a6 3) zgc)))
noncomputable abbrev zge:↑Av:=["grammar","fruitful","plain","name"]
abbrev zgf(P:Be)(w:Bv)(C:Cc):aE:=(aF (b8 (aS L0 (aA aG aB))) (aF (aQ 1 (bP (aS AK (aA aG aB))))
   (aF (b9 (bU (aH (cL ab) (aS oK (aA aG aB)) aN)) (bH (aS A5 (aA aG aB))) cS)
   (aF (aQ 2 (lL C.p (p7 P w C.p) aB))
   (aF (dG (cA dH (bP (aS jF (aA aG aB)))) (a6 3) (b8 (aS (K5 P w C) (aA aT (aA aG (aA bB (aA aN aB)))))))
   (bH (eA C.p "grammar_and_backs" (p8 P w C.p) aT aB)))))))
def zgg:bK L0 zgd zgb:=by
 rintro _ M R ⟨rs,rfl,g,e,r⟩;let hf:=g.few;let#[B,l,I]:=Fx g.ne;let Q:f0 rs=B.name:=by rw[I];rfl
 apply#[B,l,by rw[I];rfl,?_];apply mU (rest:=[aa (.str B.name)]) (λw=>match w with|.tup [_,.tup ps,_]=>.bl (inW (.str B.name) ps)|_=>.non) (small (by rw[Ab];lia)) (λ_ _=>trivial) (λw hw V C sb L=>?_) (aR.frz ?_)
 .let#[q,hq,rfl]:=Ao.mp hw;show#[rfl,zM _,L]
 let J:((rs.map bX).map λw=>match w with|.tup [_,.tup ps,_]=>W.bl (inW (.str B.name) ps)|_=>.non)=bools (rs.map λq=>decide (B.name∈q.parts)):=by
  unfold bools;rw[Br,Br];apply Ey λz _=>?_;change W.bl (inW (.str B.name) (z.parts.map W.str))=.bl (decide (B.name∈z.parts));rw[zL]
 rw[J];apply#[_,rfl,?_];generalize Y:(rs.map λq=>decide (B.name∈q.parts)).any id=b;apply eO (λi U V=>∃o,U=[aa (.rl (rs.map bX)),aa (.str B.name),aa (.bl b),o]/\V=M) #[_,rfl,rfl] ?_ ?_
 .rintro i w U V hw ⟨o,rfl,rfl⟩ O E;rw[Az]at hw;let#[q,hq,rfl]:=Bd.mp hw;let N:=Au hq;apply pK 2 ∅ (nJ (g.sh q N)) (nJ (ps:=[]) (λt ht=>nomatch ht)) λc hc=>?_;let go:=E _ _ #[aa (bX q),rfl,rfl];apply bS (b:=c) (λm=>?_) λm=>go;let#[F,j]:=e q N (sJ (b:=[]) (W.tup.inj (hc.mp m)));apply bS (b:=!decide (q.name=B.name)) (λd=>?_) λd=>bS (b:=b) (λx=>?_) λx=>go
  .rw[Xd (F.trans Q)]at d;cases d
  .rw[<-Y,Ku,Hc]at x;let#[z,hz,h]:=x;show absurd (Xc h) (Q▸j z hz)
 .rintro U V ⟨o,rfl,rfl⟩;show#[_,aZ,r]
section
variable {P:Be}{w:Bv}{C:Cc}
def zgh:bK L1 (zgf P w C) zge:=by
 rintro _ M R ⟨rs,rfl,g,fu,r⟩;let hfew:=g.few;let hnm:=g.nam;let#[q0,l,e0]:=Fx g.ne;let hF:f0 rs=q0.name:=by rw[e0];rfl
 apply#[rs,rfl,g,fu,rs,rfl,g.gl,λkvs hk=>i4.frz #[q0,l,by rw[e0];rfl,_,#[Sum.inr q0.name,rfl,rfl],bS (b:=!(aM kvs (Sum.inr q0.name:aC)).isSome) (λhn=>?_) λhn=>?_]]
 .apply#[rs,rfl,g.ne,_,aZ,r _ (.inl #[rfl,λz=>?_])];rw[hk,nC.mpr (hF▸z)]at hn;cases hn
 let hn:fE rs ab (f0 rs):=nC.mp (by rw[hF,<-hk,<-Hl (aM kvs _).isSome,hn];rfl);apply λa dx ha hdx hne=>#[a,dx,rfl,aK,λd hd=>#[rfl,?_]]
 let had:a≠d:=λe=>by rw[<-e,aK]at hd;cases hd
 rw[aW (Ca had)]at hd;rw[Bt.first had];apply#[rs,rfl,by lia,aR.frz ?_];obtain⟨f,hf⟩:∃f:Av->↑Av,f=λ_=>[]:=#[_,rfl];apply eO (λi τ M'=>∃T o3,τ=[aa (bE rs),aa (.dk kvs),aa (.ref a),o3]/\M'=Bt P w C.p M a d dx T/\(∀z∈T,z.1.1∈namesOf rs/\(Qz rs f 0 20 z/\Pz rs z)/\iA rs z.1.1 z.1.2)/\(∀X ps,X∈(namesOf rs).take i->iA rs X ps->(X,ps)∈T.map Ck)/\↥T<=↥rs*↥(namesOf rs)*i/\(0<i->Hd (f0 rs) True T)) #[[],_,rfl,rfl,(λ_ h=>nomatch h),(λ_ _ h=>nomatch h),Aj _,λh=>absurd h ∅] ?_ ?_
 .rintro i v τ M' hv ⟨T,o3,rfl,rfl,g1,g1c,g1l,h1⟩ Dx hD;rw[Az]at hv;let#[X,hX,rfl]:=Bd.mp hv;let hi:=(An.mp hX).1;let hXm:=Au hX;let hpi:↥rs*↥(namesOf rs)*i<=400*20*20:=Ej (Ej hfew hnm) (by lia);apply#[a,d,dx,T,rs,X,kvs,f,rfl,Bt.pl had,by lia,g,hXm,hk,λl' g'=>hD _ _ #[l',aa (.str X),rfl,Bt.put,g'.all g1 (λz hz=>#[hz.1▸hXm,hz.2.1,hz.1▸hz.2.2]),λY ps hY hp=>g'.had ?_,Ar g'.len (by rw[Nat.mul_succ];show Ga g1l _),λ_=>?_]]
  .rw[Ce,hX]at hY;show(Bb.mp hY).imp (λz=>g1c Y ps z hp) λz=>by rw[Ai.mp z]at hp⊢;show#[rfl,hp]
  cases i with
  | zero=>
   cases T with
   | nil=>
    have:f0 rs=X:=by rw[J4 g.ne]at hX;cases hX;rfl
    show Hd.of g' (λx h=>h.1.trans this.symm) λ_=>(LZ hn).elim λl hl=>#[(X,l),rfl,this▸hl]
   | cons z l=>rw[Nat.mul_zero]at g1l;cases g1l
  | succ i=>show(h1 (Us i)).ex g'
 .rintro τ M' ⟨T,o3,rfl,rfl,g1,g1c,g1l,h1⟩;rw[Ab]at h1 g1l g1c;rw[Cb]at g1c;let n0:f0 rs∈namesOf rs:=(vU g.ne).elim λr h=>iR.mpr #[r,h.1,h.2];let#[z,t,e,e2]:=h1 (Ji.mpr λz=>by rw[z]at n0;cases n0) trivial;apply mI (Bt.pl had).ob sG #[a,d,dx,_,rfl,Bt.pl had,_,Bt.sub ha hd had,r T (.inr #[#[f,(vU g.ne).elim λr h=>h.2▸g.hd r h.1,g1l,#[by rw[e];show Mv _ _,?_],λz hz=>#[.inr (g1 z hz).1,(g1 z hz).2.1],λt=>by rw[hf];show Cr _],by rw[e];show e2,g1c,λz hz=>(g1 z hz).2.2])];rw[e];change dY rs f z.1.1=_;rw[e2];show lZ (.inl n0)
end
abbrev Dn:=Dv a9
section
variable {rs pl:↑aD}{D:↑Av}{drop:Av->Bool}
def BW(g:∀r∈rs,∀t∈r.parts,a9 t=ownB rs t)(h:Dn rs ps row):(∀t∈ps,a9 t=ownB rs t)->∀t∈ps,eL rs t=ab:=by
 induction h with
 | nil=>show λ_ _ h=>nomatch h
 | wd n _ E=>show λP u C=>(Ax.mp C).elim (λz=>z▸LY ((P _ (.head _))▸n)) (E (λt ht=>P t (.tail _ ht)) u)
 | nd G n _ _ c Q=>show λP u C=>(Ax.mp C).elim (λz=>z▸LX (.mk G (λt ht o=>BU (c (g _ G) t ht) o) λ_ _ _=>rfl)) (Q (λt ht=>P t (.tail _ ht)) u)
def zgi(g:∀r∈rs,∀t∈r.parts,a9 t=ownB rs t)(I:gS rs D=D)(hd:∀t,drop t=ab↔fE rs ac t)(S:∀X l,h9 rs D drop X l->∃q∈pl,q.name=X/\q.parts=l)(h:Dn rs ps row):
  (∀t∈ps,a9 t=ownB rs t)->(row=[]->∀t∈ps,fE rs ac t)/\(row≠[]->∃p∈ps,cM rs D p=ab)/\∃l,Th (cM rs D) drop ps l/\Dn pl l row:=by
 induction h with
 | nil=>show λ_=>#[(λ_ _ h=>nomatch h),λh=>absurd rfl h,[],.nil,.nil]
 | @wd t ps row n _ E=>
  intro P;let#[_,_,l,U,O]:=E λt ht=>P t (.tail _ ht);let hw:cM rs D t=ab:=by unfold cM;rw[show ownB rs t=ac from(P t (.head _))▸n];show Nr _
  show#[(λz=>nomatch z),λ_=>#[t,.head _,hw],_,.kp hw U,.wd n O]
 | @nd r ps a b G n T _ c Q=>
  intro P;let#[y,m,B,s,v]:=c (g r G);let#[j,d,o,k,w]:=Q λt ht=>P t (.tail _ ht);let i:=BW g T (g r G)
  by_cases T:a=[]
  .let fr:fE rs ac r.name:=.mk G (λt ht _=>y T t ht) λt ht f=>by
    cases y T t ht with
    | mk h _ _=>rw[oJ h]at f;cases f
   subst T;show#[λe u C=>(Ax.mp C).elim (λz=>z▸fr) (j e u),λe=>(d e).elim λp h=>#[p,.tail _ h.1,h.2],o,.dr ((hd _).mpr fr) k,w]
  .let hw:cM rs D r.name=ab:=by
    unfold cM;rw[Xd (JH I (vP.mpr #[G,i]) (m T))];rfl
   apply#[λe=>absurd (List.append_eq_nil_iff.mp e).1 T,λ_=>#[_,.head _,hw],_,.kp hw k,Dv.app (ps:=[r.name]) ?_ w]
   by_cases hl:B=[r.name]
   .rw[<-hl];show v
   .let#[q,hq,J,A]:=S r.name B #[r,G,rfl,s,(λz=>T (by rw[z]at v;show v.none)),hl];rw[<-J];show .one hq (by rw[J];show n) (by rw[A];show v)
def zgj(g:∀r∈rs,∀t∈r.parts,a9 t=ownB rs t)(S:∀X l,X∈namesOf rs->iA rs X l->∃q∈pl,q.name=X/\q.parts=l)(hq:∀q∈pl,iA rs q.name q.parts)(h:Dn rs ps row):
  (∀t∈ps,a9 t=ownB rs t)->Dn pl ps row:=by
 induction h with
 | nil=>show λ_=>.nil
 | wd n _ E=>show λP=>.wd n (E λt ht=>P t (.tail _ ht))
 | @nd r ps a b G n T _ c Q=>
  intro P;let f:=BW g T (g r G);let y:=c (g r G);let put:∀l,iA rs r.name l->Dn pl l a->Dn pl [r.name] a:=λl hc k=>by
   let#[q,hq,J,D]:=S r.name l (iR.mpr #[r,G,rfl]) hc;rw[<-J];show .one hq (by rw[J];show n) (by rw[D];show k)
  apply Dv.app (ps:=[r.name]) ?_ (Q λt ht=>P t (.tail _ ht));cases F:sglB rs r with
  | false=>show put _ #[r,G,.rf,rfl,F,f] y
  | true=>
   let#[Y,e,o]:=LW F;rw[e]at y;let#[q,W,K,Z]:=y.inv (by rw[g r G Y (by rw[e];show .head _)];show o);let#[s,U,d,R]:=hq q W;rw[K]at d;show put _ #[s,U,.st G e o d,R] Z
def qF(h:(X,ps)∈l.map Ck):∃q∈aX l,q.name=X/\q.parts=ps:=by
 let#[z,hz,e]:=Ao.mp h;show#[_,Ao.mpr #[z,hz,rfl],by rw[e];rfl,by rw[e];rfl]
def sL(h:∀r∈rs,a9 r.name=ab)(k:a9 t=ab->∃q∈rs,q.name=t):a9 t=ownB rs t:=by
 cases e:a9 t with
 | true=>
  let#[q,hq,rfl]:=k e;show(oJ hq).symm
 | false=>
  apply(Xe λz=>?_).symm;let#[q,hq,rfl]:=iR.mp z;rw[h q hq]at e;cases e
end
structure Gn(U:↑Av)(rs:↑aD):Prop where
 ne:rs≠[]
 prt:∀r∈rs,↥r.parts<=4
 hd:∀r∈rs,dB r.name
 pt:∀r∈rs,∀t∈r.parts,dB t\/(jB t/\t∈U)
 own:∀r∈rs,∀t∈r.parts,a9 t=ownB rs t
section
variable {rs:↑aD}{U D:↑Av}{drop:Av->Bool}{l:↑(NP×W)}
def Gn.g60(g:Gn U rs)(L:↥rs<=400)(Z:↥(namesOf rs)<=20)(n:↥U<64):fG rs:=
 #[g.ne,L,Z,g.prt,#[U,n,λr G t ht f=>(g.pt r G t ht).elim (λz=>by rw[<-g.own r G t ht,z.nm]at f;cases f) λz=>z.2],g.hd,λr G t ht=>(g.pt r G t ht).imp_right λz=>z.1,g.own]
def Gn.gr(g:Gn U rs)(h:↥rs<=20000):Gr rs:=#[g.ne,h,g.prt,λr G=>(g.hd r G).nm,g.own]
def Gn.f0(g:Gn U rs):dB (f0 rs)/\f0 rs∈namesOf rs:=(vU g.ne).elim λr h=>h.2▸#[g.hd r h.1,iR.mpr #[r,h.1,rfl]]
def Gn.top(g:Gn U rs):∀t∈[L2.f0 rs],a9 t=ownB rs t:=λt ht=>by rw[Ai.mp ht,g.f0.1.nm];show(Xd g.f0.2).symm
def Gn.noL(g:Gn U rs):Gn U (aX (noL (L2.f0 rs))):=by
 let h:=g.f0.1;let N:∀r∈aX (L2.noL (L2.f0 rs)),r=#[L2.f0 rs,[L2.f0 rs,L2.f0 rs],0]:=λr G=>Ai.mp G;let S:∀r∈aX (L2.noL (L2.f0 rs)),∀t∈r.parts,t=L2.f0 rs:=λr G t ht=>by
  rw[N r G]at ht;rcases Ax.mp ht with z|z
  .show z
  .show Ai.mp z
 apply#[Mv _ _,λr G=>by rw[N r G];change 2<=4;decide,λr G=>by rw[N r G];show h,λr G t ht=>.inl (S r G t ht▸h),λr G t ht=>sL (λq hq=>by rw[N q hq];show h.nm) λ_=>#[_,.head _,(S r G t ht).symm]]
def zgk(hf:a9 f=ab)(h:Dn (aX (noL f)) ps row):f∉ps:=by
 induction h with
 | nil=>show λh=>nomatch h
 | wd n _ E=>show λh=>(Ax.mp h).elim (λe=>by rw[<-e,hf]at n;cases n) E
 | nd r _ _ _ E _=>
  let r:_=_:=Ai.mp r;rw[r]at E;show absurd (.head _) E
end
noncomputable abbrev jK(l:↑(NP×W)):W:=.rl (l.map λz=>z.2)
noncomputable def L3:W->↑W
 | .tup us=>us
 | _=>[]
structure sM(U:↑Av)(k:Nat)(rs:↑aD)(l:↑(NP×W)):Prop where
 gn:Gn U (aX l)
 up:∀row,Dn rs [f0 rs] row->Dn (aX l) [f0 (aX l)] row
 bk:∀h w row,h<=890000->RT a9 (aX l) h [f0 (aX l)] [w] row->∃(backs:↑(↑W)) (o:W) (m d:Nat),jK l=.rl (backs.map W.tup)/\Fn d backs [o] m [(w,ac)] []/\d<=50/\RT a9 rs (320+k*h) [f0 rs] [o] row
section
variable {rs:↑aD}{U D:↑Av}{drop:Av->Bool}{l:↑(NP×W)}
def zgl{f:Av->↑Av}(h:∀t,↥(f t)<=100)(t:Av):↥(dY rs f t)<=100:=by
 unfold dY;split
 .show(by decide:1<=100)
 .show h t
def BX{f:Av->↑Av}{H d h:Nat}(hl:∀t,↥(f t)<=100)(al:∀z∈l,Qz rs f H d z/\↥z.1.2<=4)(K:dY rs f (f0 (aX l))=[f0 rs])(hd:d<=20)(B:H<=320)(hh:h<=890000)(x:RT a9 (aX l) h [f0 (aX l)] [w] row):∃(backs:↑(↑W)) (o:W) (m k:Nat),jK l=.rl (backs.map W.tup)/\Fn k backs [o] m [(w,ac)] []/\k<=50/\RT a9 rs (320+d*h) [f0 rs] [o] row:=by
 let#[rows,L,Z]:=x.back (H:=H) (d:=d) (sem:=dY rs f) (rs:=rs) (backs:=l.map λz=>L3 z.2) (λt ht=>lZ (.inr ht)) (zgl hl) λn r G=>by
  rw[Az]at G;let#[z,hz,rfl]:=Bd.mp G;let#[s,e,p]:=(al z (Au hz)).1;show#[s,by rw[Az,hz,Option.map_some,e];rfl,p]
 cases Z with
 | @cons _ _ a c r rows y v=>
  cases v;rw[K]at y;let#[o,rfl]:=Pe.mp y.len;let#[m,hf]:=L.start (x.hg (λr G=>by let#[z,hz,rfl]:=Ao.mp G;show(al z hz).2) w (.head _)) (by lia);apply#[_,o,m,d,?_,hf,by lia,by rw[Bn];show y.mono (Ga B _)];rw[Br];apply congrArg W.rl (Ey λz hz=>?_);let#[s,e,_]:=(al z hz).1;change z.2=W.tup (L3 z.2);rw[e];rfl
def L4{h:Nat}{Q:Prop}(g:Gn U rs)(x:RT a9 (aX (noL (f0 rs))) h [f0 (aX (noL (f0 rs)))] [w] row):Q:=absurd (.head _) (zgk g.f0.1.nm x.dv)
def zgm(rs:↑aD):(namesOf rs).Nodup:=by
 have:∀(ts acc:↑Av),acc.Nodup->(ts.foldl cZ acc).Nodup:=by
  intro ts
  induction ts with
  | nil=>intro acc h;show h
  | cons t ts E=>intro acc h;show E _ (zZ h)
 show this _ _ Fh
def wN{tl:↑aD}{l:↑Av}(h:∀r∈tl,r.name∈l):↥(namesOf tl)<=↥l:=len_sub (zgm tl) λx B=>by
 let#[r,G,rfl]:=iR.mp B;show h r G
def L5(F:Av):l6 (aX (noL F)):=λr G e=>by rw[Ai.mp G]at e;cases e
def BM.stg(g:Gn U rs)(h:BM rs D drop l):sM U 1 rs l/\l6 (aX l)/\↥l<=16*(↥rs*↥(namesOf rs))+2/\↥(namesOf (aX l))<=↥(namesOf rs)+1:=by
 let#[wd,fx,dr,h]:=h;let key:∀{pl:↑aD} {row},(∀X l,h9 rs D drop X l->∃q∈pl,q.name=X/\q.parts=l)->Dn rs [f0 rs] row->(row=[]/\drop (f0 rs)=ab)\/(row≠[]/\f0 rs∈D/\Dn pl [f0 rs] row):=λ{pl row} S k=>by
  let#[Z,K,l,R,N]:=zgi g.own fx dr S k g.top
  by_cases e:row=[]
  .show .inl #[e,(dr _).mpr (Z e _ (.head _))]
  .let#[p,S,hw]:=K e;rw[Ai.mp S]at hw;unfold cM at hw;rw[Xd g.f0.2 |> (show ownB rs (f0 rs)=ab from ·),Oj,Qw]at hw;apply .inr #[e,Xc hw,?_];cases R with
   | kp _ h=>cases h;show N
   | dr _ h=>cases h;show absurd N.none e
 rcases h with⟨rfl,L,Z⟩|⟨m,f,i,T,rfl,tl,hc,H,h⟩
 .apply#[#[g.noL,λrow k=>?_,λ_ _ _ _ x=>L4 g x],L5 _,Tc 1 _ |> Rx,Ar (JY _) (Tc 1 _)];rcases key (pl:=rs.flatMap λr=>(kO (cM rs D) drop (λ_=>W.non) r.parts).map λx=>#[r.name,x.1,0]) (λX l #[r,G,e,ht,_]=>by
   let#[x,B,rfl]:=AJ.mpr ht;show#[#[r.name,x.1,0],Fe.mpr #[r,G,Ao.mpr #[x,B,rfl]],e,rfl]) k with⟨_,z⟩|⟨_,z,_⟩
  .rw[Z]at z;cases z
  .show absurd z L
 let I:∀X ps,h9 rs D drop X ps->∃q∈aX T,q.name=X/\q.parts=ps:=λX ps ht=>by
  have #[r,G,e,_]:=ht;show qF (hc X ps (iR.mpr #[r,G,e]) ht)
 let s:∀{q},q∈aX T->q∈aX (i++T):=λ{q} hq=>by unfold aX at *;rw[Ay];show Bm _ hq
 let a:∀r∈aX (i++T),dB r.name/\r.name∈m::namesOf rs:=λr G=>by
  let#[z,hz,rfl]:=Ao.mp G;rcases(tl.al z hz).1 with e|e
  .show#[by change dB z.1.1;rw[e];show tl.hd,Ax.mpr (.inl e)]
  .let#[q,hq,A]:=iR.mp e;show#[(show dB z.1.1 from A▸g.hd q hq),.tail _ e]
 let v:∀{t},cM rs D t=ab->a9 t=ab->dB t->(a9 t=ownB rs t)->∃q∈aX (i++T),q.name=t:=λ{t} hw P _ M=>by
  unfold cM at hw;rw[<-M,P,Oj,Qw]at hw;let#[ps,ht]:=J8 wd fx dr (Xc hw);let#[q,hq,e,_]:=I t ps ht;show#[q,s hq,e]
 let pT:∀z∈T,∀t∈z.1.2,∃r∈rs,t∈r.parts/\cM rs D t=ab:=λz hz t ht=>by
  let#[r,G,_,b,_]:=H z hz;show#[r,G,(b.sub t ht).1,(b.sub t ht).2]
 let oT:∀z∈T,∀t∈z.1.2,a9 t=ab->∃q∈aX (i++T),q.name=t:=λz hz t ht P=>by
  let#[r,G,L,Z]:=pT z hz t ht;let M:=g.own r G t L;rcases g.pt r G t L with k|k
  .show v Z P k M
  .rw[D4 k.1.ne k.1.sm]at P;cases P
 let j:∀z∈i,∀t∈z.1.2,t=f0 rs/\∃z∈T,f0 rs∈z.1.2:=λz hz t ht=>by
  rcases h with⟨_,rfl,_⟩|⟨_,⟨e,_⟩|⟨_,e,E⟩⟩
  .cases hz
  .have:=Qo (f:=Ck) hz;rw[e]at this;rw[Ai.mp this]at ht;cases ht
  .have:=Qo (f:=Ck) hz;rw[e]at this;rcases Ax.mp this with k|k
   .rw[k]at ht;show#[Ai.mp ht,E]
   .rw[Ai.mp k]at ht;cases ht
 let gn:Gn U (aX (i++T)):=by
  refine#[λe=>tl.f0.1 (Lc.mp e),λr G=>?_,λr G=>(a r G).1,λr G t ht=>?_,λr G t ht=>sL (λq hq=>(a q hq).1.nm) λP=>?_]<;>let#[z,hz,rfl]:=Ao.mp G
  .show(tl.al z hz).2.2.2
  .rcases Bb.mp hz with hz|hz
   .show .inl ((j z hz t ht).1▸g.f0.1)
   .let#[r,G,L,_]:=pT z hz t ht;show g.pt r G t L
  .rcases Bb.mp hz with hz|hz
   .let#[rfl,y,O,hf]:=j z hz t ht;show oT y O _ hf P
   .show oT z hz t ht P
 apply#[#[gn,λrow k=>?_,λh w row hh x=>BX tl.sl (λz hz=>#[(tl.al z hz).2.1,(tl.al z hz).2.2.2]) tl.f0.2 ∅ (Aj _) hh x],λr G e=>?_,tl.len,Ar (wN λr G=>(a r G).2) (Aj _)]
 .rcases key I k with⟨rfl,z⟩|⟨_,_,z⟩
  .rcases h with⟨L,_⟩|⟨_,⟨e,_⟩|⟨_,e,_⟩⟩
   .rw[L]at z;cases z
   .let#[y,c,rfl,J,A]:=Hv.mp e;let O:f0 (aX (y::c++T))=y.1.1:=rfl;rw[O];show .one (r:=kR y.1) (.head _) (by change a9 y.1.1=ab;rw[J];show g.f0.1.nm) (by change Dn _ y.1.2 _;rw[J];show .nil)
   .let#[y,c,rfl,J,A]:=Hv.mp e;let#[d,C,rfl,Y,u]:=Hv.mp A;let O:f0 (aX (y::d::C++T))=(kR d.1).name:=by change y.1.1=d.1.1;rw[J,Y]
    rw[O];show .one (r:=kR d.1) (.tail _ (.head _)) (by change a9 d.1.1=ab;rw[Y];show tl.hd.nm) (by change Dn _ d.1.2 _;rw[Y];show .nil)
  .let z:Dn (aX (i++T)) [f0 rs] row:=z.sim λr m n _ q=>.one (s m) n q;rcases h with⟨_,_,K⟩|⟨_,⟨e,_⟩|⟨_,e,_⟩⟩
   .rw[K];show z
   .let#[y,c,rfl,J,_]:=Hv.mp e;let O:f0 (aX (y::c++T))=f0 rs:=by change y.1.1=_;rw[J]
    rw[O];show z
   .let#[y,c,rfl,J,_]:=Hv.mp e;let O:f0 (aX (y::c++T))=(kR y.1).name:=rfl;rw[O];show .one (r:=kR y.1) (.head _) (by change a9 y.1.1=ab;rw[J];show tl.hd.nm) (by change Dn _ y.1.2 _;rw[J];show z)
 .let#[z,hz,rfl]:=Ao.mp G;let nT:∀z∈T,z.1.2≠[]:=λz hz=>by let#[_,_,_,_,h,_]:=H z hz;show h
  let hz:z∈i:=(Bb.mp hz).resolve_right λk=>nT z k e;let o:=Qo (f:=Ck) hz;let no:∀{F:Av},(∀z∈T,F∉z.1.2)->(∀z∈i,F∉z.1.2)->∀q∈aX (i++T),F∉q.parts:=λ{F} L Z q hq Q=>by
   let#[y,O,rfl]:=Ao.mp hq;show(Bb.mp O).elim (λk=>Z y k Q) λk=>L y k Q
  rcases h with⟨_,rfl,_⟩|⟨_,⟨J,Z⟩|⟨L,J,_⟩⟩
  .cases hz
  .let#[y,c,rfl,A,Y]:=Hv.mp J;rw[Lc.mp Y]at hz o⊢;let O:f0 (aX ([y]++T))=f0 rs:=by change y.1.1=_;rw[A]
   rw[Lc.mp Y]at no;rw[O];rw[Ai.mp hz];show#[by change y.1.1=_;rw[A],no Z λz hz k=>by rw[Ai.mp hz,A]at k;cases k]
  .let O:f0 (aX (i++T))=m:=by
    let#[y,c,rfl,A,Y]:=Hv.mp J;change y.1.1=_;rw[A]
   rw[O];apply#[?_,no (λz hz k=>?_) λz hz k=>L ((j z hz m k).1▸g.f0.2)]
   .rw[J]at o;rcases Ax.mp o with k|k
    .change z.1.1=_;rw[k]
    .change z.1.1=_;rw[Ai.mp k]
   .let#[r,G,V,_]:=pT z hz m k;have:=g.own r G m V;rw[tl.hd.nm]at this;show L (Xc this.symm)
end
def wO(rs:↑aD):Prop:=∀r∈rs,∀t,r.parts=[t]->a9 t=ac
section
variable {rs:↑aD}{U D:↑Av}{l:↑(NP×W)}
def Rc.end_(h:Rc rs X Z):X=Z\/∃r∈rs,Z∈r.parts:=by
 induction h with
 | rf=>show .inl rfl
 | st a b _ _ E=>show .inr (E.elim (λe=>#[_,a,by rw[b,<-e];show .head _]) id)
def BV.stg(g:Gn U rs)(s:l6 rs)(h:BV rs l):sM U 20 rs l/\l6 (aX l)/\wO (aX l)/\↥l<=↥rs*↥(namesOf rs)*↥(namesOf rs)/\↥(namesOf (aX l))<=↥(namesOf rs):=by
 let V:1<=↥(namesOf rs):=List.length_pos_of_mem g.f0.2;let Y:1<=↥rs:=Ji.mpr g.ne;rcases h with⟨rfl,L⟩|⟨⟨f,tl⟩,v,hc,H⟩
 .apply#[#[g.noL,λrow k=>absurd (BU (BW g.own k g.top _ (.head _)) (Xd g.f0.2)) L,λ_ _ _ _ x=>L4 g x],L5 _,λr G t e=>?_,Ej (Ej Y V) V,Ar (JY _) V];rw[Ai.mp G]at e;cases e
 let a:∀r∈aX l,dB r.name/\r.name∈namesOf rs:=λr G=>by
  let#[z,hz,rfl]:=Ao.mp G;have:z.1.1∈namesOf rs:=(tl.al z hz).1.elim (λe=>e▸g.f0.2) id;let#[q,hq,A]:=iR.mp this;show#[(show dB z.1.1 from A▸g.hd q hq),this]
 let S:∀X ps,X∈namesOf rs->iA rs X ps->∃q∈aX l,q.name=X/\q.parts=ps:=λX ps L Z=>qF (hc X ps L Z);let hq:∀q∈aX l,iA rs q.name q.parts:=λq hq=>by
  let#[z,hz,rfl]:=Ao.mp hq;show H z hz
 let pt:∀q∈aX l,∀t∈q.parts,∃r∈rs,t∈r.parts/\eL rs t=ab:=λq b t ht=>by
  let#[r,G,_,e,_,hf]:=hq q b;show#[r,G,e▸ht,hf t ht]
 apply#[#[#[λe=>tl.f0.1 (Lc.mp e),λr G=>?_,λr G=>(a r G).1,λr G t ht=>?_,λr G t ht=>sL (λq hq=>(a q hq).1.nm) λP=>?_],λrow k=>?_,λh w row hh x=>BX tl.sl (λz hz=>#[(tl.al z hz).2.1,(tl.al z hz).2.2.2]) tl.f0.2 (Aj _) ∅ hh x],λr G e=>?_,λr G t e=>?_,tl.len,wN λr G=>(a r G).2]
 .let#[z,hz,rfl]:=Ao.mp G;show(tl.al z hz).2.2.2
 .let#[q,hq,k,_]:=pt r G t ht;show g.pt q hq t k
 .let#[q,hq,k,hf]:=pt r G t ht;let D:ownB rs t=ab:=(g.own q hq t k).symm.trans P;let#[ps,hc]:=LZ (BU hf D);let#[n,L,Z,_]:=S t ps (Xc D) hc;show#[n,L,Z]
 .rw[v];show zgj g.own S hq k g.top
 .let#[q,b,d,A,_]:=hq r G;let#[T,c]:=s q b (A.trans e);rw[v];rw[T]at d;apply#[d.end_.resolve_right λ#[p,S,k]=>c p S k,λp S k=>?_];let#[y,L,Z,_]:=pt p S _ k;show c y L Z
 .let#[q,b,_,A,F,_]:=hq r G;rw[e]at A;have:=g.own q b t (by rw[A];show .head _);unfold sglB at F;rw[A]at F;rw[this];show F
def j8(rs:↑aD)(t:Av):↑Av:=((bY rs).find? λe=>decide (eF rs e=t)).getD []
theorem L6:∀{es:↑(↑Av)} {ns:↑Av} {a b:↑Av} {n:Av},ns.Nodup->(es.zip ns).lookup a=aa n->(es.zip ns).lookup b=aa n->a=b
 | [],_,_,_,_,_,h,_=>nomatch h
 | _::_,[],_,_,_,_,h,_=>nomatch h
 | e::es,m::ns,a,b,n,P,h,k=>by
  let no:∀{c},(es.zip ns).lookup c=aa m->False:=λ{c} h=>by
   have:(c,m)∈es.zip ns:=by
    let#[B,o,e,_]:=List.lookup_eq_some_iff.mp h;rw[e];simp
   show(Cp.mp P).1 (Lp this).2
  rw[Ii,Eh]at h k
  by_cases x:a=e<;>by_cases y:b=e
  .rw[x,y]
  .rw[beq_eq_false_iff_ne.mpr y]at k;rw[x,beq_self_eq_true]at h;cases h;show(no k).elim
  .rw[beq_eq_false_iff_ne.mpr x]at h;rw[y,beq_self_eq_true]at k;cases k;show(no h).elim
  .rw[beq_eq_false_iff_ne.mpr x]at h;rw[beq_eq_false_iff_ne.mpr y]at k;show L6 (Cp.mp P).2 h k
def zgn(f:hZ rs):(iS rs).Nodup:=by
 unfold iS kP gQ;apply(List.Nodup.sublist Qq ?_).sublist (Rl _ _);rw[Hi,Gs];apply List.Pairwise.imp_of_mem ?_ Ox;intro a b T Y k e;rw[Gx]at T Y;have:=f.sum;show k (JS (Gm (Ci T this) ∅) (Gm (Ci Y this) ∅) e)
def zgo(f:hZ rs)(T:a∈bY rs)(Y:b∈bY rs)(h:eF rs a=eF rs b):a=b:=by
 let#[x,_,J]:=vS (ns:=iS rs) f.len.symm T;let#[y,_,D]:=vS (ns:=iS rs) f.len.symm Y;unfold eF oP at h;rw[J,D]at h;cases h;show L6 (zgn f) J D
def L7{ps:↑Av}(h:¬↥ps<=2):∃p,ps=p::ps.drop 1/\dD rs ps=[p,eF rs (ps.drop 1)]:=by
 cases ps with
 | nil=>show absurd ∅ h
 | cons p ps=>show#[p,rfl,by unfold dD;rw[Xa h];rfl]
def L8(g:Gn U rs)(fe:hZ rs)(ht:∀z∈l,vW rs z)(c1:∀r∈rs,(r.name,dD rs r.parts)∈l.map Ck)(c2:∀e∈bY rs,(eF rs e,dD rs e)∈l.map Ck)(h0:Hd (f0 rs) True l):sM U 1 rs l/\(∀r∈aX l,↥r.parts<=2)/\(l6 rs->l6 (aX l))/\(wO rs->wO (aX l))/\↥(namesOf (aX l))<=↥(namesOf rs)+↥(bY rs):=by
 let nf:∀{e:↑Av},e∈bY rs->dB (eF rs e)/\eF rs e∈iS rs/\eF rs e∉namesOf rs:=λhe=>by
  let h1:=(AH fe he).2;let#[h2,i,hi,e]:=JW h1;have:=fe.sum;show#[e▸J3 (by lia),h1,h2]
 let sm:∀{r:aD},r∈rs->∀p∈r.parts,dY rs (j8 rs) p=[p]:=λhr p hp=>lZ (by
  rw[g.own _ hr p hp];cases e:ownB rs p with
  | true=>show .inl (Xc e)
  | false=>show .inr rfl)
 let ep:∀{e:↑Av},e∈bY rs->(∃r∈rs,∀p∈e,p∈r.parts)/\2<=↥e/\↥e<=3:=λhe=>by
  let#[q,hq,k,hk,rfl]:=sA.mp he;have:=g.prt q hq;show#[#[q,hq,λp hp=>Nd hp],by rw[Ei];lia,by rw[Ei];lia]
 let sl:∀t,↥(j8 rs t)<=100:=λt=>by
  unfold j8;cases h:(bY rs).find? λe=>decide (eF rs e=t) with
  | none=>show Cr _
  | some e=>show Ar (ep (Ob h)).2.2 ∅
 let sem:∀{e:↑Av},e∈bY rs->dY rs (j8 rs) (eF rs e)=e:=λ{e} he=>by
  unfold dY;rw[Xa λz=>z.elim (nf he).2.2 λz=>by rw[(nf he).1.nm]at z;cases z];unfold j8;cases h:(bY rs).find? λx=>decide (eF rs x=eF rs e) with
  | none=>show absurd (Xd rfl) (List.find?_eq_none.mp h e he)
  | some x=>show zgo fe (Ob h) he (Xc (List.find?_some h :))
 let sp:∀{ps:↑Av},(∃r∈rs,∀p∈ps,p∈r.parts)->(2<↥ps->ps.drop 1∈bY rs)->(∀p∈dD rs ps,p∈ps\/∃e∈bY rs,p=eF rs e)/\(dD rs ps).flatMap (dY rs (j8 rs))=ps/\(↥ps<=2->dD rs ps=ps)/\(2<↥ps->↥(dD rs ps)=2):=λ{ps} #[r,hr,h1] h2=>by
  by_cases z:↥ps<=2
  .let e:dD rs ps=ps:=by unfold dD;rw[Xb z]
   rw[e];show#[λp hp=>.inl hp,J5 λp hp=>sm hr p (h1 p hp),λ_=>rfl,λk=>absurd k (Nat.not_lt_of_le z)]
  .let#[x,e1,e2]:=L7 (rs:=rs) z;let he:=h2 (Nat.lt_of_not_le z);let hx:=sm hr x (h1 x (by rw[e1];show .head _));rw[e2];apply#[λp hp=>(Ax.mp hp).elim (λz=>.inl (by rw[z,e1];show .head _)) λz=>.inr #[_,he,Ai.mp z],?_,λk=>absurd k z,λ_=>rfl];rw[Mj,Mj,hx,sem he,List.flatMap_nil,Bn];show e1.symm
 let slo:∀ps:↑Av,Pf a9 rs (dY rs (j8 rs)) 0 0 0 ((Cf ↥ps).map λ(i:Nat)=>W.int i) ps (ps.flatMap (dY rs (j8 rs))):=λps=>by
  rw[List.range_eq_range'];show Pf.slots ps 0
 let key:∀z∈l,(dB z.1.1/\z.1.1∈namesOf rs++iS rs)/\(∃ps,z.1.2=dD rs ps/\(∃r∈rs,∀p∈ps,p∈r.parts)/\(2<↥ps->ps.drop 1∈bY rs)/\((∃r∈rs,r.name=z.1.1/\r.parts=ps)\/2<=↥ps))/\Qz rs (j8 rs) 0 1 z:=λz hz=>by
  rcases ht z hz with⟨n,r,hr,rfl⟩|⟨e,he,rfl⟩
  .let hm:=Au hr;let hn:=iR.mpr #[r,hm,rfl];let hp:∃q∈rs,∀p∈r.parts,p∈q.parts:=#[r,hm,λ_ h=>h];let#[_,s2,_]:=sp hp λh=>vQ hm h;apply#[#[g.hd r hm,Bf _ hn],#[_,rfl,hp,λh=>vQ hm h,.inl #[r,hm,rfl,rfl]],_,rfl,?_];change Pf _ _ _ _ _ _ _ _ (dY rs (j8 rs) r.name);rw[lZ (.inl hn)];let h4:=g.prt r hm;show Pf.one (g.hd r hm).nm hr (by lia) (by have:=slo (dD rs r.parts);rw[s2]at this;show this)
  .let#[h1,h2,h3]:=ep he;let#[_,s2,_]:=sp h1 λh=>vR he h;apply#[#[(nf he).1,Bm _ (nf he).2.1],#[_,rfl,h1,λh=>vR he h,.inr h2],_,rfl,?_];change Pf _ _ _ _ _ _ _ _ (dY rs (j8 rs) (eF rs e));rw[sem he];have:=slo (dD rs e);rw[s2]at this;show this.mono ∅
 let nk:∀r∈aX l,dB r.name/\r.name∈namesOf rs++iS rs:=λr hr=>by
  let#[z,hz,rfl]:=Ao.mp hr;show(key z hz).1
 let l2:∀r∈aX l,↥r.parts<=2:=λr hr=>by
  let#[z,hz,rfl]:=Ao.mp hr;obtain⟨_,⟨ps,e,_⟩,_⟩:=key z hz;change ↥z.1.2<=2;rw[e];show AI rs _
 let pt:∀r∈aX l,∀t∈r.parts,(∃q∈rs,t∈q.parts)\/∃e∈bY rs,t=eF rs e:=λr hr t ht=>by
  let#[z,hz,rfl]:=Ao.mp hr;obtain⟨_,⟨ps,e,hp,hd,_⟩,_⟩:=key z hz;let ht:t∈z.1.2:=ht;rw[e]at ht;apply((sp hp hd).1 t ht).imp_left λh=>?_;let#[q,hq,k]:=hp;show#[q,hq,k t h]
 apply#[#[#[λe=>?_,λr hr=>Ar (l2 r hr) ∅,λr hr=>(nk r hr).1,λr hr t ht=>?_,λr hr t ht=>sL (λq hq=>(nk q hq).1.nm) λhn=>?_],λrow k=>?_,λh w row hh x=>BX sl (λz hz=>#[(key z hz).2.2,Ar (l2 _ (Ao.mpr #[z,hz,rfl])) ∅]) (by rw[h0.f0];show lZ (.inl g.f0.2)) ∅ ∅ hh x],l2,λfu r hr e=>?_,λsg r hr t e=>?_,?_]
 .let#[z',t,e1,_]:=h0 trivial;rw[e1]at e;cases e
 .rcases pt r hr t ht with⟨q,hq,k⟩|⟨e,he,rfl⟩
  .show g.pt q hq t k
  .show .inl (nf he).1
 .rcases pt r hr t ht with⟨q,hq,k⟩|⟨e,he,rfl⟩
  .let#[q2,h1,h2]:=iR.mp (Xc ((g.own q hq t k).symm.trans hn));let#[q3,h3,h4,_]:=qF (c1 q2 h1);show#[q3,h3,h4.trans h2]
  .let#[q3,h3,h4,_]:=qF (c2 e he);show#[q3,h3,h4]
 .let up:∀n {ps a},↥ps<=n->(2<↥ps->ps.drop 1∈bY rs)->Dn (aX l) ps a->Dn (aX l) (dD rs ps) a:=λn=>by
   induction n with
   | zero=>show λ{ps a} hl _ k=>by unfold dD;rw[Xb (Ar hl ∅)];show k
   | succ n ih=>
    intro ps a hl hd k
    by_cases h2:↥ps<=2
    .unfold dD;rwa [Xb h2]
    .let#[p,e1,e2]:=L7 (rs:=rs) h2;let he:=hd (Nat.lt_of_not_le h2);rw[e1]at k;let#[a,b,rfl,k1,k2]:=k.cut;rw[e2];apply k1.app (ps:=[p]) ?_;let#[q,hq,q1,q2]:=qF (c2 _ he);rw[<-q1];show .one hq (by rw[q1];show(nf he).1.nm) (by rw[q2];show ih (by rw[Ei];lia) (λh=>vR he h) k2)
  rw[h0.f0];apply k.sim λr hr n a k=>?_;let#[q,hq,q1,q2]:=qF (c1 r hr);rw[<-q1];show .one hq (by rw[q1];show n) (by rw[q2];show up _ (Aj _) (λh=>vQ hr h) k)
 .let#[z,hz,rfl]:=Ao.mp hr;obtain⟨_,⟨ps,e1,hp,hd,hk⟩,_⟩:=key z hz;let#[_,_,s3,s4]:=sp hp hd;let e:z.1.2=[]:=e;rw[e1]at e;let hl:↥ps<=2:=Ss λk=>by have:=s4 k;rw[e]at this;cases this
  rw[s3 hl]at e;rcases hk with⟨q,hq,k1,k2⟩|k
  .let#[f1,f2]:=fu q hq (k2.trans e);rw[h0.f0];apply#[k1.symm.trans f1,λp hp k=>?_];rcases pt p hp _ k with⟨q,hq,k⟩|⟨u,hu,k⟩
   .show f2 q hq k
   .show(nf hu).2.2 (k▸g.f0.2)
  .rw[e]at k;show absurd k ∅
 .let#[z,hz,rfl]:=Ao.mp hr;obtain⟨_,⟨ps,e1,hp,hd,hk⟩,_⟩:=key z hz;let#[_,_,s3,s4]:=sp hp hd;let e:z.1.2=[t]:=e;rw[e1]at e;let hl:↥ps<=2:=Ss λk=>by have:=s4 k;rw[e]at this;cases this
  rw[s3 hl]at e;rcases hk with⟨q,hq,_,k2⟩|k
  .show sg q hq t (k2.trans e)
  .rw[e]at k;show absurd k (show ¬2<=1 by decide)
 .have:=wN (l:=namesOf rs++iS rs) λr hr=>(nk r hr).2;rw[Ag,fe.len]at this;show this
end
end L2
namespace PySem
namespace Rw
open L2
section
variable {prog:Be}{w:Bv}{A:Cw}{E:Ae->Ak->Prop}{s:Ak}
def no_len:Ld (.type "list_reverseiterator") "__len__" = pure ae:=by rw[Gq,Ef];kernel_rfl
def has_hint:Ld (.type "list_reverseiterator") "__length_hint__" = pure (aa (.builtin "list_reverseiterator.__length_hint__")):=by rw[Gq,Ef];kernel_rfl
def hint{r l:Am}{i:Int}{Q:Bool->Ak->Prop}(G:s.heap.IsRevIter r l i)(h:Q ac s):Bo (Cy prog w) A (Jo (.ref r)) Q E s:=by
 unfold Jo;apply Aa (Gp G.typeIs no_len ?_)
 try dsimp only
 rw[Xa ∅];rw[Xa ∅];apply Aa (Gp G.typeIs has_hint ?_);generalize c:("list_reverseiterator.__length_hint__" : String)=id0
 try dsimp only
 rw[show splitId id0=aa ("list_reverseiterator","__length_hint__") from by subst c;decide +kernel];subst c;apply Aa (Ft (T:="list_reverseiterator") (b:=ab) G.typeIs (by rw[My];kernel_rfl) ?_)
 try dsimp only
 rw[Xa ∅];rw[Xb (by decide +kernel)];rw[Xa ∅];show Ah h
def extend_rev{R:Tp->Ak->Prop}{S r t:Am}{items:Array Ae}{a:Nat}(hh:A.handled=ae)(G:s.heap.IsRevIter r t ((items.size:Int)-1))(ht:s.heap.IsList t items)(hz:items.size<=Ap)(p:S≠r)(x:S≠t)(l:t≠r)(O:s.heap.get? S=aa {cls:=.type "list",data:=.seq #[] a})(g:∀h' tk c d,(∀b o,b≠S->b≠r->s.heap.get? b=aa o->h'.get? b=aa o)->h'.get? S=aa {cls:=.type "list",dict:=ae,data:=.seq c d,slots:=#[]}->Pg (λi v=>items[items.size-1-i]? = aa v) c items.size->R (.ok (.ret .none)) {s with heap:=h',toks:=tk}):
  Bo (Cy prog w) A.in1 (Fg (.ref S) (.ref r) .none)
   (λfin j=>match fin with|.done f=>R (.ok f) j|.again d=>d.quiet=ab/\Mf (Cy prog w) A d R j) (λe j=>R (.error e) j) s:=by
 let W:=Walks.listRev (prog:=prog) (w:=w) (A:=A.in1) hh r t l items;let z:S∉[r,t]:=by simp[p,x]
 unfold Fg;apply Aa (Ll (T:="list_reverseiterator") G.typeIs ?_);rw[Xa (by simp[Builtin.List.listSameRef,p])];apply Aa (wpAny_pyIter_revIter G (Aa (Dg (hint G ?_))));apply wpAny_ite_split (λk=>absurd k ∅) (λ_=>Ah #[Kh Nu _,?_]);apply codeAny_extend_loopS W.toS hz S z .none items.size 0 _ #[] a rfl (Cr _) #[Cr _,by simpa using G,ht] O (ItemsOf.nil _) λj c d N n J=>?_;rw[Moved.eq_with N];show g j.heap j.toks c d (λb o Y y e=>N.heap b o (by simp[Y,y]) e) n J
def list_rev{Q:Ae->Ak->Prop}(hh:A.handled=ae)(G:s.heap.IsRevIter r t ((items.size:Int)-1))(ht:s.heap.IsList t items)(hz:items.size<=Ap)(l:t≠r)(X:∀h' tk c d,(∀b o,b≠r->s.heap.get? b=aa o->h'.get? b=aa o)->h'.get? ⇑s=aa {cls:=.type "list",dict:=ae,data:=.seq c d,slots:=#[]}->Pg (λi v=>items[items.size-1-i]? = aa v) c items.size->
   Q (.ref ⇑s) {s with heap:=h',toks:=tk}):Bo (Cy prog w) A (call (.type "list") [.ref r]) Q E s:=by
 let a:r<⇑s:=by let#[o,e,_]:=id G;show Ba e
 let lt:t<⇑s:=by let#[o,e,_]:=id ht;show Ba e
 apply Rb (Q₁:=λobj y=>obj=.ref ⇑s/\y = {s with heap:=s.heap.push {cls:=.type "list",data:=.seq #[]}}) PySem.F.called_list (PySem.F.typeCall_list_1 _) PySem.F.entry_list_init (code_list_new _ #[rfl,rfl]) ?_;rintro obj y ⟨rfl,rfl⟩;let k:(s.heap.push {cls:=.type "list",data:=.seq #[]}).get? ⇑s=aa {cls:=.type "list",data:=.seq #[]}:=Aw _ rfl;let H:=Ew (Ik λ_=>(#[]:Array Ae)) k rfl;let V:∀b o,b≠⇑s->s.heap.get? b=aa o->((s.heap.push {cls:=.type "list",data:=.seq #[]}).update ⇑s (Ik λ_=>(#[]:Array Ae))).get? b=aa o:=λb o Y e=>by
  rw[Gf _ _ (Ca Y)];show Af _ e
 apply#[#[_,k,rfl],PySem.F.args_list_init_2 _ _,?_];change Bo _ _ (Builtin.List.listItems (.ref ⇑s)>>=λold=>Builtin.List.listUpdate (.ref ⇑s) (λ_=>#[])>>=λ_=>letGo old.toList.reverse>>=λ_=>Fg (.ref ⇑s) (.ref r) .none) _ _ _;apply Aa (wpAny_listItems k rfl (Aa ?_));change Bo _ _ (Vd ⇑s (λ_=>#[])) _ _ _;show Qj k rfl (Aa (Pc (extend_rev (A:=A.in1) hh (G.at (h':=_) λo e=>V r o (Bl a) e) (ht.at λo e=>V t o (Bl lt) e) hz (Co a) (Co lt) l H λh' tk c d hk n J=>#[rfl,X h' tk c d (λb o Y e=>hk b o (Bl (Ba e)) Y (V b o (Bl (Ba e)) e)) n J])))
end
end Rw
end PySem
namespace L2
section
variable {X:Cx}{a:Cm}{ta:TA}{p p2 pos pos2:Ih}
def zgp(K:Ac)(ta:TA):TE:=λG H Q=>ta G H λvs B=>∃t xs,vs=[.ref t]/\bL K B t xs/\∀q,B q=ae->Q (.ref q) (aL B q (.lst xs.reverse))
def zgq(hc:X.calm=ab)(hg:Gl X "list")(N:X.mg "list" = ae)(m:Gl X "reversed")(x:X.mg "reversed" = ae)(T:PA X [a] ta)(w:Cg [.Call (.Name "reversed" p2) [a] [] pos2] X.env=[(ac,El (.Call (.Name "reversed" p2) [a] [] pos2) X.env)]:=by rfl)(f:Cg [a] X.env=[(ac,El a X.env)]:=by rfl):
  PE X (.Call (.Name "list" p) [.Call (.Name "reversed" p2) [a] [] pos2] [] pos) (zgp X.K ta):=by
 intro C s G H Q I h;apply Dy (fP I hg N EJ (Bx ?_ w rfl));rw[w];apply Jp (Dy (fP I m x xW (Bx (aV (T pos2 C s G H _ I h) λus U #[vs,B,M,l,W]=>?_) f rfl)));let#[t,xs,rfl,hq,q]:=W;let#[u,rfl,ru]:=vals1 l;cases ru;let#[its,R,pl,hz]:=M.list hq;let hsz:its.toArray.size<=Ap:=by rw[Bg];have:=↥R;lia
 let lt:t<⇑U:=by let#[o,e,_]:=pl.isList;show Ba e
 apply call_reversed_list pl.isList (Jz ?_);let st:(U.heap.push (revObj t ((its.toArray.size:Int)-1))).IsRevIter ⇑U t ((its.toArray.size:Int)-1):=#[_,Aw _ rfl,rfl,rfl];apply Rw.list_rev (s:={U with heap:=U.heap.push (revObj t ((its.toArray.size:Int)-1))}) (t:=t) (items:=its.toArray) (M.ok.hd hc) st (pl.isList.at λo e=>Af _ e) hsz (Bl lt) λh' tk c d hk O J=>?_;let S:({U with heap:=U.heap.push (revObj t ((its.toArray.size:Int)-1))}:Ak).heap.objs.size=⇑U+1:=Es ..;rw[S]at O⊢;let D:⇑U<=⇑U+1:=Ht _;let g:=EI R J;show#[.ref (⇑U+1),_,M.laid (o:=.lst xs.reverse) (t':=tk) (λb o e=>hk b o (Bl (Ba e)) (Af _ e)) D #[by rw[Ds];show hz,c.toList,d,g,by rw[Hb];show O],rfl,q _ (M.hok.fresh D)]
end
section
variable {X:Cx}{a:Cm}{ta:aP}
def L9(ta:aP):aP:=λU M R=>ta U M λw I=>∃ws,w=.rl ws/\aR ws.reverse I R
def zgr(hg:Gl X "list")(N:X.mg "list" = ae)(m:Gl X "reversed")(x:X.mg "reversed" = ae)(T:E3 X a ta)(hc:X.calm=ab:=by rfl)(u:Cg [.Call (.Name "reversed" p2) [a] [] pos2] X.env=[(ac,El (.Call (.Name "reversed" p2) [a] [] pos2) X.env)]:=by rfl)(f:Cg [a] X.env=[(ac,El a X.env)]:=by rfl):
  E3 X (.Call (.Name "list" p) [.Call (.Name "reversed" p2) [a] [] pos2] [] pos) (L9 ta):=
 (zgq hc hg N m x (n6 T pD (f.trans rfl)) u f).weak λG H Q E=>E.el λU M R as O h k=>#[U,M,λws I=>match ws with | [w]=>∃ws,w=.rl ws/\aR ws.reverse I R|_=>False,as,O,h,λvs B ws I V j d r=>by
  match ws,r with
  | [w],#[xs,e,r]=>
   subst e;let#[v,rfl,av]:=d.one;let#[b,ys,D,z,nb,c]:=av.inv;show#[b,ys,by rw[D],bL.of z,λp S=>gJ j (k.kp V) S c.reverse r]]
end
noncomputable abbrev WD:↑Av:=["a","ab","b"]
def sN:a8:=λws M R=>(∃t,ws=[.str t]/\R (.bl ac) M)\/∃us,ws=[.tup us]/\R (.bl ab) M
def sO:Nat->a8
 | 0=>λ_ _ _=>False
 | n+1=>λws M R=>∃s rows out,ws=[.tup s,.rl (rows.map W.rl)]/\Pt rows n s out/\↥out<=1000/\aR out M R
abbrev sP:a8:=sO 60
def qG:a8:=λws M R=>∃(backs:↑(↑W)) (w o:W) (m d:Nat),ws=[.rl (backs.map W.tup),w]/\Fn d backs [o] m [(w,ac)] []/\d<=50/\R o M
def MA:a8:=λws M R=>∃(rs:↑aD) (X:Av) (w:W) (row:↑Av) (h:Nat),ws=[w]/\RT a9 rs h [X] [w] row/\(∀r∈rs,↥r.parts<=4)/\h<=900000/\↥row<=3/\aR (row.map W.str) M R
def MB:a8:=λws M R=>∃(rs:↑aD) (n:Nat) (r:aD) (us:↑W) (row:↑Av) (h:Nat),ws=[bE rs,.str r.name,gB n us]/\Gn WD rs/\rs[n]? = aa r/\RT a9 rs h r.parts us row/\R (.bl ab) M
def MC:a8:=λws M R=>∃(rs:↑aD) (X:Av) (w:W) (row:↑Av) (h:Nat),ws=[bE rs,.str X,w]/\Gn WD rs/\a9 X=ab/\RT a9 rs h [X] [w] row/\h<=900000/\R (.bl ab) M
def qH:a8:=λws M R=>∃(rs:↑aD) (w:W) (row:↑Av) (h:Nat),ws=[bE rs,nF row,w]/\Gn WD rs/\RT a9 rs h [f0 rs] [w] row/\h<=900000/\↥row<=3/\(∀t∈row,t∈WD)/\R (.bl ab) M
def MD(f:↑Av):Prop:=f≠[]/\↥f<=3/\f.Nodup/\∀t∈f,dB t
def BY:a8:=λws M R=>∃(d:Int) (f:↑Av),ws=[.int d,.rl (f.map W.str)]/\MD f/\∀ps:↑Av,↥ps<=4->(∀t∈ps,t∈WD\/t∈f)->R (.tup (ps.map W.str)) M
def ME:a8:=λws M R=>∃L:↑Int,ws=[.sc (L.map W.int)]/\↥L<=63/\∀rs:↑aD,Gn WD rs->↥rs<=7->↥(namesOf rs)<=3->aR (rs.map bX) M R
def MF:a8:=λws M R=>∃(cs:↑W) (n:Int),ws=[.rl cs,.int n]/\oB cs/\↥cs<=20/\0<=n/\n<=3/\∀row:↑Av,↥row<=3->(∀t∈row,t∈WD)->R (nF row) M
def MG:a8:=λws M R=>∃rs:↑aD,ws=[bE rs]/\Gn WD rs/\↥rs<=20000/\(∀r∈rs,↥r.parts<=2/\r.cost=0)/\l6 rs/\wO rs/\R (.bl ab) M
noncomputable abbrev zgs:↑Av:=["child"]
abbrev zgt:aE:=
   (bH (a7 mT (aA aG (aA (vC (.ty "tuple")) aB))))
noncomputable abbrev zgu:↑Av:=["tree","row","waiting","child"]
abbrev zgv:aE:=
   (aQ 1 (gH aB))
abbrev zgw:aE:=
   (aQ 2 (gH (aA aG aB)))
abbrev zgx:aE:=
   (aF (aQ 3 (lC "list" lH aT))
   (b9 (dS (aS sN (aA bB aB)))
    (b8 (c9 "list" rN aT (aA (GS (vX bB bC)) aB)))
    (b8 (c9 "list" eS aN (aA bB aB)))))
abbrev zgy:aE:=
   (jX (dS aT) zgx)
abbrev zgz:aE:=
   (bH aN)
abbrev zgA:aE:=(aF zgv (aF zgw (aF zgy zgz)))
noncomputable abbrev zgB:↑Av:=["grammar","name","tree","rule"]
abbrev zgC:aE:=
   (b9 (jT (iN (dS (aS sN (aA aT aB)))) (iN (bU (yS yC mO bM (vX aT bM) (a7 cT (aA aG aB))))))
    (bH (vC (.bl ac)))
    cS)
abbrev zgD:aE:=
   (aQ 3 (vX aG (vX aT bM)))
abbrev zgE:aE:=
   (b9 (jT (bU (aH (dU ab) (vX bB bM) aN)) (bU (aH (dU ab) (a7 cT (aA (vX bB bC) aB)) (a7 cT (aA (vX aT bC) aB)))))
    (bH (vC (.bl ac)))
    cS)
abbrev zgF:aE:=
   (bH (a7 rM (aA (bP (d8 (yY (aA (vX bB bC) (aA (vX aT bC) aB))) (e8 2 (cB (a6 0) (cB (a6 1) eZ))) eU (mL (aS zK (aA aG aB)) (aH (dU ac) aN aG)) [ae,ae])) aB)))
abbrev zgG:aE:=(aF zgC (aF zgD (aF zgE zgF)))
noncomputable abbrev zgH:↑Av:=["grammar","name","tree","waiting","pair","knot","parts"]
abbrev zgI:aE:=
   (aQ 3 (gH (aA (bA (aA aN (aA aT aB))) aB)))
abbrev zgJ:aE:=
   (aF (aQ 4 (lC "list" lH bB))
   (aF (b9 (iN (dS (aS MB (aA aG (aA (vX bG bM) (aA (vX bG bC) aB))))))
    (bH (vC (.bl ac)))
    cS)
   (aF (aQ 5 (vX bG bC))
   (aF (aQ 6 (vX (vX aG (vX cG bM)) bC))
   (b8 (c9 "list" rN bB (aA (bP (d8 (yY (aA dO (aA (vX cG bC) aB))) (e8 2 (cB (a6 0) (cB (a6 1) eZ))) (dS (aS zK (aA aG aB))) (bA (aA aG (aA aN aB))) [ae,ae])) aB)))))))
abbrev zgK:aE:=
   (jX (dS bB) zgJ)
abbrev zgL:aE:=
   (bH (vC (.bl ab)))
abbrev zgM:aE:=(aF zgI (aF zgK zgL))
noncomputable abbrev zgN:↑Av:=["grammar","row","tree"]
abbrev zgO:aE:=
   (bH (rD (aS MC (aA aG (aA (aS oK (aA aG aB)) (aA aT aB)))) (aH (dU ac) (bP (aS MA (aA aT aB))) aN)))
noncomputable abbrev MH:↑Av:=["pieces","rows","told","piece"]
abbrev zgP(sP:a8):aE:=
   (b9 (dS (a7 mT (aA bB (aA (vC (.ty "int")) aB))))
    (b8 (c9 "list" rN aT (aA (vX aN bB) aB)))
    (b9 (bU (aH (dU ac) (vX bB bM) (vC (.str "whole"))))
    (b8 (c9 "list" eS aT (aA (vX bB bC) aB)))
    (b8 (c9 "list" eS aT (aA (bA (aA (vX bB bM) (aA (a7 rL (aA (bP (aS sP (aA (vX bB bC) (aA aN aB)))) aB)) aB))) aB)))))
abbrev zgQ(sP:a8):aE:=(aF (aQ 2 (gH aB)) (aF (dG (cA dH aG) (a6 3) (zgP sP)) (bH aT)))
noncomputable abbrev zgR:↑Av:=["backs","tree","told","waiting","pair","child","rows"]
abbrev zgS:aE:=
   (aQ 2 (gH aB))
abbrev zgT:aE:=
   (aQ 3 (gH (aA (bA (aA aN (aA (vC (.bl ac)) aB))) aB)))
abbrev zgU:aE:=
   (aF (aQ 4 (lC "list" lH bB))
   (aF (aQ 5 (vX bG bM))
   (b9 (iN (dS (aS sN (aA cG aB))))
    (b8 (c9 "list" eS aT (aA (gA (aA cG aB)) aB)))
    (b9 (dS (vX bG bC))
    (aF (aQ 6 (bP (d8 (cA dH (vX cG bC)) (a6 0) eU (lC "list" lH aN) [ae,aa 2])))
   (b8 (c9 "list" eS aT (aA (bP (aS sP (aA (vX aG (vX cG bM)) (aA (bP (L9 dO)) aB)))) aB))))
    (aF (b8 (c9 "list" eS bB (aA (bA (aA cG (aA (vC (.bl ab)) aB))) aB)))
   (b8 (c9 "list" rN bB (aA (bP (d8 (A2 (aA (vX cG bC) aB)) (a6 0) eU (bA (aA aG (aA (vC (.bl ac)) aB))) [ae])) aB))))))))
abbrev zgV:aE:=
   (jX (dS bB) zgU)
abbrev zgW:aE:=
   (bH (vX (vX aT bM) bM))
abbrev zgX:aE:=(aF zgS (aF zgT (aF zgV zgW)))
noncomputable abbrev zgY:↑Av:=["d","heads","parts","k","one"]
abbrev zgZ:aE:=
   (aQ 2 (gH aB))
abbrev zg0:aE:=
   (aF (aQ 4 (aH gK (aH i6 aG (aH dW (vI 6) (aH uM (vI 90) bB))) (vI 15)))
   (b9 (bU (aH mO bG (vI 8)))
    (b8 (c9 "list" eS aT (aA (vX (gA (aA (vC (.str "a")) (aA (vC (.str "ab")) (aA (vC (.str "b")) aB)))) (aH gK bG rC)) aB)))
    (b8 (c9 "list" eS aT (aA (vX aN (aH gK bG (a7 cT (aA aN aB)))) aB)))))
abbrev zg1:aE:=
   (dG (uK (aA (vX (gA (aA bM (aA bC (aA jS (aA (vI 4) (aA rC (aA bC aB))))))) (aH gK aG (vI 6))) aB)) (a6 3) zg0)
abbrev zg2:aE:=
   (bH (a7 rL (aA aT aB)))
abbrev zg3:aE:=(aF zgZ (aF zg1 zg2))
noncomputable abbrev zg4:↑Av:=["script","cell","heads","rules","k","d","name"]
abbrev zg5:aE:=
   (aQ 1 (aS rZ (aA aG (aA bM aB))))
abbrev zg6:aE:=
   (aQ 2 (oA (vX (gA (aA (gA (aA (vC (.str "S")) (aA (vC (.str "S_1")) (aA (vC (.str "S_12")) aB)))) (aA (gA (aA (vC (.str "S")) (aA (vC (.str "S_0")) (aA (vC (.str "S_1")) aB)))) aB))) (aH gK (aH i6 aN (vI 30)) jS)) pH (mR (aH dW bC (aH gK (aH i6 aN jS) rC)))))
abbrev MI:aE:=
   (aQ 3 (gH aB))
abbrev MJ:aE:=
   (aF (aQ 6 (vX aT (aH gK cG (a7 cT (aA aT aB)))))
   (aF (b9 (bU (aH mO bG (a7 cT (aA aT aB))))
    (aQ 6 (vX aT bG))
    cS)
   (b8 (c9 "list" eS bB (aA (bA (aA dO (aA (aS BY (aA (aH i6 cG rC) (aA aT aB))) (aA (aH gK (aH i6 cG (vI 900)) (vI 4)) aB)))) aB)))))
abbrev zg7:aE:=
   (aF (aQ 5 (aS rZ (aA aG (aA (aH dW bC bG) aB))))
   (aF (b9 (bU (aH (dU ac) (aH gK aN jS) bC))
    (aQ 5 (aH i6 (aH uM (aH dW (aH gK cG (aH yA (vI 10) (vI 40))) bG) (aH dW (aH dW (aH gK cG (aH yA (vI 10) (vI 40))) (aH uM (vI 5) bG)) jS)) (vI 7)))
    cS)
   MJ))
abbrev MK:aE:=
   (dG (uK (aA (aH dW (a7 cT (aA aT aB)) (aH gK (aH i6 aN (vI 6)) (vI 5))) aB)) (a6 4) zg7)
abbrev ML:aE:=
   (bH bB)
abbrev zg8:aE:=(aF zg5 (aF zg6 (aF MI (aF MK ML))))
noncomputable abbrev zg9:↑Av:=["cells","most"]
abbrev zha:aE:=
   (bH (bP (d8 (cA dH (oA aG pH (mR aN))) (a6 0) eU (vX (gA (aA (vC (.str "a")) (aA (vC (.str "ab")) (aA (vC (.str "b")) aB)))) (aH gK aG rC)) [ae])))
noncomputable abbrev zhb:↑Av:=["rules","first","name","parts","cost"]
abbrev zhc:aE:=
   (aQ 1 (vX (vX aG bM) bM))
abbrev MM:aE:=
   (b9 (n5 (bU (aH (dU ac) bB (bA aB))) (jT (bU (aH (dU ab) aT aN)) (dS (a7 rR (aA (bP (d8 (cA dH aG) (a6 0) eU (aH (cL ac) aN (vX aG bC)) [ae,aa 1])) aB)))))
    (bH (vC (.bl ac)))
    cS)
abbrev zhd:aE:=
   (aF (b9 (jT (bU (aH yE (a7 cT (aA bB aB)) jS)) (jT (n5 (bU (aH (dU ac) (a7 cT (aA bB aB)) bC)) (bU (aH (cL ac) (vX (vX bB bM) bM) (vC (.str "STU"))))) (bU (aH (dU ab) bG bM))))
    (bH (vC (.bl ac)))
    cS)
   MM)
abbrev zhe:aE:=
   (dG (cA kJ aG) (e8 3 (cB (a6 2) (cB (a6 3) (cB (a6 4) eZ)))) zhd)
abbrev zhf:aE:=
   (bH (vC (.bl ab)))
abbrev zhg:aE:=(aF zhc (aF zhe zhf))
noncomputable abbrev zhh:↑Av:=["script","rules","one","one_backs","two","two_backs","three","three_backs","four","four_backs","five","five_backs","begin","cells","row","reads","tree","other"]
abbrev zhi(C:Cc):aE:=
   (aF (aQ 13 (aH dW (oA aG (mR rA) (mR (aH dW rA (vI 8)))) (gA (aA (aS rZ (aA aG (aA bM aB))) aB))))
   (aF (aQ 14 (aS MF (aA (oA EZ (mR bC) pH) (aA (aH gK (vX EZ bM) (vI 4)) aB))))
   (aF (aQ 15 (aH (n8 ab) (aS (qE C) (aA (a7 dP (aA aN aB)) (aA (a7 dP (aA kG aB)) aB))) (vC .non)))
   (aF (b9 (jT (bU (aH (dU ab) (aH (n8 ab) (aS (qE C) (aA (a7 dP (aA aT aB)) (aA (a7 dP (aA kG aB)) aB))) (vC .non)) rB)) (bU (aH (dU ab) (aH (n8 ab) (aS (qE C) (aA (a7 dP (aA bG aB)) (aA (a7 dP (aA kG aB)) aB))) (vC .non)) rB)))
    (bH (vC (.bl ac)))
    cS)
   (aF (aQ 16 (aS (qE C) (aA (a7 dP (aA dO aB)) (aA (a7 dP (aA kG aB)) aB))))
   (aF (aQ 17 (aS (qE C) (aA (a7 dP (aA t6 aB)) (aA (a7 dP (aA kG aB)) aB))))
   (aF (b9 (jT (bU (aH (dU ab) (aH (n8 ab) pC (vC .non)) rB)) (bU (aH (dU ab) (aH (n8 ab) t7 (vC .non)) rB)))
    (bH (vC (.bl ac)))
    cS)
   (b9 (dS rB)
    (aF (aQ 17 (aS qG (aA (a7 dP (aA qZ aB)) (aA t7 aB))))
   (aF (b9 (iN (dS (aS qH (aA (a7 dP (aA jR aB)) (aA (a7 dP (aA kG aB)) (aA t7 aB))))))
    (bH (vC (.bl ac)))
    cS)
   (aF (b9 (iN (dS (aS qH (aA (a7 dP (aA aN aB)) (aA (a7 dP (aA kG aB)) (aA (aS qG (aA (a7 dP (aA mK aB)) (aA t7 aB))) aB))))))
    (bH (vC (.bl ac)))
    cS)
   (aF (aQ 16 (aS qG (aA (a7 dP (aA eE aB)) (aA pC aB))))
   (aF (b9 (iN (dS (aS qH (aA (a7 dP (aA bG aB)) (aA (a7 dP (aA kG aB)) (aA pC aB))))))
    (bH (vC (.bl ac)))
    cS)
   (aF (aQ 16 (aS qG (aA (a7 dP (aA cG aB)) (aA pC aB))))
   (aF (b9 (iN (dS (aS qH (aA (a7 dP (aA aT aB)) (aA (a7 dP (aA kG aB)) (aA pC aB))))))
    (bH (vC (.bl ac)))
    cS)
   (b9 (iN (dS (aS qH (aA (a7 dP (aA aN aB)) (aA (a7 dP (aA kG aB)) (aA (aS qG (aA (a7 dP (aA bB aB)) (aA pC aB))) aB))))))
    (bH (vC (.bl ac)))
    cS))))))))
    cS))))))))
abbrev zhj(C:Cc):aE:=(aF (aQ 1 (bP (aS ME (aA aG aB)))) (aF (fX (aS BN (aA (a7 dP (aA aN aB)) aB)) (e8 2 (cB (a6 2) (cB (a6 3) eZ)))) (aF (fX (aS L1 (aA (a7 dP (aA aT aB)) aB)) (e8 2 (cB (a6 4) (cB (a6 5) eZ)))) (aF (fX (aS AR (aA (a7 dP (aA bG aB)) aB)) (e8 2 (cB (a6 6) (cB (a6 7) eZ)))) (aF (b9 (iN (dS (aS MG (aA dO aB)))) (bH (vC (.bl ac))) cS) (aF (fX (aS AR (aA (a7 dP (aA aN aB)) aB)) (e8 2 (cB (a6 8) (cB (a6 9) eZ)))) (aF (fX (aS BN (aA (a7 dP (aA jR aB)) aB)) (e8 2 (cB (a6 10) (cB (a6 11) eZ)))) (aF (dG (cA dH (gA (aA (vI 10) (aA (vI 30) aB)))) (a6 12) (zhi C)) (bH (vC (.bl ab)))))))))))
def zhk:bK sN zgt zgs:=by
 rintro _ M R (⟨t,rfl,r⟩|⟨us,rfl,r⟩)
 .show ZH.mpr #[_,aZ,r]
 .show ZI.mpr #[_,aZ,r]
def zhl{n:Nat}:bK (sO (n+1)) (zgQ (sO n)) MH:=by
 rintro _ M R ⟨s,rows,out,rfl,S,hl,r⟩;apply λq hq=>?_;apply eO (λi U V=>∃acc rest o,U=[aa (.tup s),aa (.rl (rows.map W.rl)),aa (.ref q),o]/\V=put M q (.lst acc)/\out=acc++rest/\Pt rows n (s.drop i) rest) #[[],out,ae,rfl,rfl,rfl,S] ?_ ?_
 .rintro i w U V hw ⟨acc,rest,o,rfl,rfl,e,h⟩ D E;let#[hi,rfl]:=An.mp hw;rw[Eb hi]at h;rw[e,Ag]at hl;generalize B:s[i]=x at h⊢;generalize s.drop (i+1)=tl at h E;cases h with
  | @slot _ k l _ g hk h=>
   rw[Ag]at hl;apply ZG.mpr ?_;apply#[dC aK,so.of (a:=W.rl l) (kW (by rw[Az,hk];rfl)) #[acc,aK,small (by lia),?_]];rw[cF];show E _ _ #[acc++l,g,_,rfl,rfl,by rw[e,Bh],h]
  | @whole _ T _ g h=>
   rw[Bq]at hl;apply GO.mpr #[dC aK,acc,aK,dA (by lia),?_];rw[cF];show E _ _ #[acc++[T],g,_,rfl,rfl,by rw[e,Bh];rfl,h]
  | @knot d m us _ a b j L Z=>
   rw[Bq]at hl;apply GO.mpr (pK (x:=.int m) (y:=.str "whole") 1 ∅ trivial (show Ow ("whole" : Av)=ab by decide +kernel) λc hc=>bS (b:=c) (λz=>absurd (hc.mp z) (λh=>nomatch h)) λ_=>#[dC aK,us,rows,a,rfl,L,by lia,aR.frz #[acc,aK,dA (by lia),?_]]);rw[cF];show E _ _ #[acc++[gB m a],b,_,rfl,rfl,by rw[e,Bh];rfl,Z]
 .rintro U V ⟨acc,rest,o,rfl,rfl,e,h⟩;rw[Mu]at h;cases h;rw[Bn]at e;show#[_,aZ,by rw[e]at r;show r q hq]
def zhm:∀ws M R,sN ws M R->↥ws=1:=by rintro ws M R (⟨_,rfl,_⟩|⟨_,rfl,_⟩)<;>rfl
theorem zhn:∀n ws M R,sO n ws M R->↥ws=2
 | 0,_,_,_,h=>h.elim
 | n+1,_,_,_,#[_,_,_,e,_]=>by rw[e];rfl
noncomputable def BZ(x:W×Bool):W:=.tup [x.1,.bl x.2]
def zho{keep:Mm->Prop}{N:↑W->Mm}(f:∀l,N l t=aa (.lst l))(S:∀l n,put (N l) t (.lst n)=N n)(hl:↥L=↥us)(C:↥us<=100)(hk:∀M,keep M)(r:R (.rl L.reverse) (N A)):
  fZ us keep (a6 0) eU (lC "list" lH (cP 1)) [o,aa (.ref t)] (N (A++L)) λw V=>frz w V R:=by
 unfold fZ;intro p m;let b:∀l,N l p=ae:=λl=>by
  let e:p≠t:=λe=>by rw[e,f]at m;cases m
  rw[<-S (A++L) l,aW e];show m
 let a:t≠p:=λe=>by rw[<-e,f]at m;cases m
 apply#[λi U acc M=>∃o,U=[o,aa (.ref t)]/\acc=L.reverse.take i/\M=N (A++L.take (↥L-i)),#[_,rfl,rfl,by rw[Ru,Cb]],λ_ _ _ _ _ _ _ _=>hk _,?_,?_]
 .rintro vs i w U acc M hw d ⟨o,rfl,rfl,rfl⟩;let hi:=(An.mp hw).1;obtain⟨x,B⟩:∃x,L[↥L-(i+1)]? = aa x:=#[_,Bj (by lia)];let J:L.take (↥L-i)=L.take (↥L-(i+1))++[x]:=by rw[show ↥L-i=↥L-(i+1)+1 by lia,Ce,B];rfl
  let D:L.reverse.take (i+1)=L.reverse.take i++[x]:=by rw[Ce,Mr (by lia),show ↥L-1-i=↥L-(i+1) by lia,B];rfl
  let ht:∀{o:MO},put (N (A++L.take (↥L-i))) p o t=aa (.lst ((A++L.take (↥L-(i+1)))++[x])):=by intro o;rw[aW a,f,J,Bh]
  apply#[dC ht,_,_,ht,by rw[aW (Ca a),aK],dA (by rw[Dc,Ds];lia),N (A++L.take (↥L-(i+1))),?_,_,rfl,D.symm,rfl];rw[mH (Ca a),iD (by rw[S];show b _),S];show aZ
 .rintro U acc M d ⟨o,rfl,rfl,rfl⟩;rw[<-hl,La,List.take_zero,Bn,<-Ds,Cb];show aR.frz r p (b _)
def zhp:bK qG zgX zgR:=by
 rintro _ M R ⟨backs,w,o,m,d,rfl,hf,hd,r⟩;apply λt ht=>λq hq=>?_;let b:q≠t:=λe=>by rw[e,aK]at hq;cases hq
 let i:M q=ae:=by rw[aW b]at hq;show hq
 let c:∀{A B:MO},put (put M t A) q B t=aa A:=λ{A B}=>by rw[aW (Ca b),aK]
 let g:∀{A j B:MO},put (put (put M t A) q B) t j=put (put M t j) q B:=λ{A j B}=>by rw[mH b,cF]
 apply mZ (λm U V=>∃S T X H K,U=[aa (.rl (backs.map W.tup)),aa w,aa (.ref t),aa (.ref q),X,H,K]/\V=put (put M t (.lst (T.map W.rl))) q (.lst (S.map BZ))/\Fn d backs [o] m S T) #[m,[(w,ac)],[],_,_,_,rfl,rfl,hf] ?_;rintro m U V ⟨S,T,X,H,K,rfl,rfl,f⟩ D E;apply .inl #[_,aK,bS (λh=>?_) λh=>?_]
 .cases f with
  | done=>cases h
  | @word m S _ x hl f=>
   rw[Ay];apply#[dC aK,_,_,aK,?_];rw[cF];apply .inl #[x,rfl,dC c,_,c,dA (by rw[Ab];lia),?_];rw[g];show E _ _ _ (Fl _) #[S,T++[[.str x]],_,_,_,rfl,by rw[Ay];rfl,f]
  | @down m n S _ us hl f=>
   rw[Ay];apply#[dC aK,_,_,aK,?_];rw[cF];apply .inr #[_,rfl,dC aK,_,aK,dA (by rw[Ab];lia),?_];rw[cF];apply#[dC aK,_,rfl,?_];apply mU (rest:=[]) (λw=>.tup [w,.bl ac]) (small (by rw[Ds];lia)) (λ_ _=>trivial) (λw hw V C sb O=>O) (aR.frz #[_,aK,small (by simp only[Ag,Ab,Ds,Bq,Ju];lia),?_]);rw[cF];show E _ _ _ (Fl _) #[_,T,_,_,_,rfl,by rw[Ay,Ay,Br];rfl,f]
  | @up m n S T rows us s u hl O Z F J Q f=>
   rw[Ay,Ay];apply#[dC aK,_,_,aK,?_];rw[cF];apply .inr #[_,rfl,?_];apply zho (t:=t) (N:=λl=>put (put M t (.lst l)) q (.lst (S.map BZ))) (A:=T.map W.rl) (L:=rows.map W.rl) (λ_=>c) (λ_ _=>g) (by rw[Ab];show O) Z (λ_=>trivial) ?_;apply#[dC c,so.of (show cC [W.int n,W.tup us] 0=aa (.int n) from rfl) (so.of (a:=W.tup s) (kW (by rw[Az,F];rfl)) ?_)];apply#[_,rfl,aR.frz #[s,rows,u,by rw[List.reverse_reverse],J.mono (Ar hd ∅),by lia,aR.frz #[_,c,dA (by rw[Ab];lia),?_]]];rw[g];show E _ _ _ (Fl _) #[S,T++[u],_,_,_,rfl,by rw[Ay];rfl,f]
 .cases f with
  | done=>show yH c (show cC [W.rl [o]] 0=aa (.rl [o]) from rfl) (so.of (show cC [o] 0=aa o from rfl) #[_,(Sub.new ht).trans (Sub.new (by rw[aW b];show i)),r])
  | word|down|up=>rw[Ay]at h;revert h;cases Tf BZ _<;>intro h<;>cases h
def nN{A B:Mm->Prop}(h:B M):uA (.bl ab) M λc I=>if (!c)=ab then A I else B I:=h
inductive Fr(row:↑Av):Nat->↑W->↑Av->Prop
 | done:Fr row 0 [] row
 | word {m:Nat} {S:↑W} {acc:↑Av} {t:Av}:↥acc<=3->Fr row m S (acc++[t])->Fr row (m+1) (S++[.str t]) acc
 | knot {m n:Nat} {S us:↑W} {acc:↑Av}:↥S+↥us<=5000000->Fr row m (S++us.reverse) acc->Fr row (m+1) (S++[gB n us]) acc
inductive Fk(rs:↑aD):Nat->↑(Av×W)->Prop
 | done:Fk rs 0 []
 | knot {m n h:Nat} {S:↑(Av×W)} {us:↑W} {r:aD} {a:↑Av}:rs[n]? = aa r->RT a9 rs h r.parts us a->↥S+↥us<=5000000->Fk rs m (S++(r.parts.zip us).filter λz=>a9 z.1)->Fk rs (m+1) (S++[(r.name,gB n us)])
section
variable {rs:↑aD}{row:↑Av}
def RT.fr(N:∀r∈rs,↥r.parts<=4){h:Nat}(x:RT a9 rs h ps ws a):∀{m:Nat} {S:↑W} {acc:↑Av},↥S+↥ws+5*h<=5000000->↥(acc++a)<=3->Fr row m S (acc++a)->∃q,Fr row q (S++ws.reverse) acc:=by
 induction x with
 | nil=>show λ{m S acc} _ _ f=>#[m,by rw[Bn]at f;rw[List.reverse_nil,Bn];show f]
 | @word h t ps e ws _ _ E=>
  intro m S acc O hl f;rw[Sl]at f hl;let#[q,g]:=E (by rw[Bq]at O;lia) hl f;apply#[q+1,?_];rw[Kd,<-Bh];apply .word ?_ g;rw[Ag,Ag]at hl;lia
 | @knot h k n r us ws ps a b _ G hk C _ c Q=>
  intro m S acc O hl f;rw[<-Bh]at f hl;let T:=N r (Au G);let d:=C.len;rw[Bq]at O;let#[m1,H]:=Q (S:=S) (acc:=acc++a) (by lia) hl f;let#[m2,Y]:=c (S:=S++ws.reverse) (acc:=acc) (by rw[Ag,Ds];lia) (by rw[Ag]at hl;lia) H;apply#[m2+1,?_];rw[Kd,<-Bh];show .knot (by rw[Ag,Ds];lia) Y
def RT.fk(N:∀r∈rs,↥r.parts<=4){h:Nat}{ps a:↑Av}{ws:↑W}(x:RT a9 rs h ps ws a):∀{m:Nat} {S:↑(Av×W)},↥S+↥ws+5*h<=5000000->Fk rs m S->∃q,Fk rs q (S++(ps.zip ws).filter λz=>a9 z.1):=by
 induction x with
 | nil=>show λ{m S} _ f=>#[m,by rw[List.zip_nil_left,Sv,Bn];show f]
 | @word h t ps e ws n _ E=>
  intro m S O f;rw[Bq]at O;rw[Ii,Ec,Xa (by change ¬a9 t=ab;rw[n];decide)];show E (by lia) f
 | @knot h k n r us ws ps a b nm G hk C _ c Q=>
  intro m S O f;let T:=N r (Au G);let d:=C.len;rw[Bq]at O;let#[m1,H]:=c (S:=S) (by lia) f;let#[m2,Y]:=Q (S:=S++[(r.name,gB n us)]) (by rw[Ag,Bz];lia) (Fk.knot G C (by lia) H);rw[Ii,Ec,Xb (show a9 r.name=ab from nm),Sl];show#[m2,Y]
def RT.two{h:Nat}(x:RT a9 rs h ps ws a):∀z∈ps.zip ws,a9 z.1=ab\/z.2=.str z.1:=by
 induction x with
 | nil=>show λ_ h=>nomatch h
 | word _ _ E=>show λz hz=>(Ax.mp hz).elim (λe=>.inr (by rw[e])) (E z)
 | knot n _ _ _ _ _ E=>show λz hz=>(Ax.mp hz).elim (λe=>.inl (by rw[e];show n)) (E z)
end
noncomputable def wQ(z:Av×W):W:=.tup [.str z.1,z.2]
theorem nO:∀{ps:↑Av} {us:↑W},i9 (ps.map W.str) us=(ps.zip us).map wQ
 | [],_=>by cases ‹↑W›<;>rfl
 | _::_,[]=>rfl
 | p::ps,u::us=>congrArg (W.tup [.str p,u]::·) nO
def zhq(h:Gk (λ_ y=>y=W.bl ab) ws ys):ys=bools (ws.map λ_=>ab):=by
 induction h with
 | nil=>rfl
 | cons a _ E=>rw[a,E];rfl
def zhr:bK MB zgG zgB:=by
 rintro _ M R ⟨rs,n,ru,us,row,h,rfl,g,c,G,r⟩;let hk:=(An.mp c).1;let#[Q,L,Z]:=lV hk;cases (show aa Q=aa ru from L.symm.trans c);let N:=Au c;let T:=g.prt ru N;let d:cC [W.int n,W.tup us] 0=aa (.int n):=rfl;apply .inr #[_,rfl,nN (so.of d (bS (b:=decide ((0:Int)<=n)) (λ_=>bS (b:=!decide ((n:Int)<↥(rs.map bX))) (λz=>?_) λ_=>id (so.of Z (bS (b:=!decide (ru.name=ru.name)) (λz=>?_) λ_=>bS (b:=!decide ((↥(ru.parts.map W.str):Int)=↥us)) (λz=>?_) λ_=>?_))) λz=>?_))]
 .rw[Xd (by rw[Ab];lia)]at z;cases z
 .rw[Xd rfl]at z;cases z
 .rw[Xd (by rw[Ab,G.len])]at z;cases z
 .apply GH (rest:=[]) (λ_ y=>y=W.bl ab) (λw hw=>?_) (small (by rw[nO,Ab,Su];lia)) (λ_ _=>trivial) (λa b hw V C sb L=>?_) λys O=>aR.frz ?_
  .rw[nO]at hw;let#[z,_,rfl]:=Ao.mp hw;show#[_,_,rfl]
  .rw[nO]at hw;obtain⟨⟨p,u⟩,hz,e⟩:=Ao.mp hw;cases e;let S:=(Lp hz).1;let F:Sh p:=(g.pt ru N p S).elim dB.sh λk=>k.1.sh;apply#[p,rfl,Ar F.len ∅,bS (b:=a9 p) (λ_=>L _ rfl) λP=>?_];let e:u=.str p:=(G.two _ hz).resolve_left (by change ¬a9 p=ab;rw[P];decide);subst e;show L _ (by rw[Xd rfl];rfl)
  .rw[zhq O];apply#[_,rfl,_,aZ,?_];rw[Nq,show(i9 (ru.parts.map W.str) us).all (id ∘ λ_=>ab)=ab from He.mpr λ_ _=>rfl];show r
 .show absurd (Rg n) (of_decide_eq_false z)
def zhs:bK MA zgA zgu:=by
 rintro _ M R ⟨rs,X,w,row,h,rfl,x,N,hh,hl,r⟩;let#[m,f]:=x.fr (row:=row) N (m:=0) (S:=[]) (acc:=[]) (by change 0+1+_<=_;lia) hl .done;apply λt ht=>λq hq=>?_;let b:q≠t:=λe=>by rw[e,aK]at hq;cases hq
 let i:M q=ae:=by rw[aW b]at hq;show hq
 let c:∀{A B:MO},put (put M t A) q B t=aa A:=λ{A B}=>by rw[aW (Ca b),aK]
 let g:∀{A j B:MO},put (put (put M t A) q B) t j=put (put M t j) q B:=λ{A j B}=>by rw[mH b,cF]
 apply mZ (λm U V=>∃S acc o,U=[aa w,aa (.ref t),aa (.ref q),o]/\V=put (put M t (.lst (acc.map W.str))) q (.lst S)/\Fr row m S acc) #[m,[w],[],_,rfl,rfl,f] ?_;rintro m U V ⟨S,acc,o,rfl,rfl,f⟩ D E;apply .inl #[_,aK,bS (λh=>?_) λh=>?_]
 .cases f with
  | done=>cases h
  | @word m S _ t' T f=>
   apply#[dC aK,_,_,aK,?_];rw[cF];apply .inl #[t',rfl,dC c,_,c,dA (by rw[Ab];lia),?_];rw[g];show E _ _ _ (Fl _) #[S,acc++[t'],_,rfl,by rw[Ay];rfl,f]
  | @knot m n S us _ F f=>
   apply#[dC aK,_,_,aK,?_];rw[cF];apply .inr #[_,rfl,dC aK,_,aK,small (by rw[Ds];lia),?_];rw[cF];show E _ _ _ (Fl _) #[_,acc,_,rfl,rfl,f]
 .cases f with
  | done=>show#[_,Sub.new (by rw[aW b];show i),r t ht]
  | @word m S=>revert h;cases S<;>intro h<;>cases h
  | @knot m n S=>revert h;cases S<;>intro h<;>cases h
def zht:bK MC zgM zgH:=by
 rintro _ M R ⟨rs,X,w,row,h,rfl,g,A,x,hh,r⟩;let#[m,f]:=x.fk g.prt (m:=0) (S:=[]) (by change 0+1+_<=_;lia) .done;rw[show([X].zip [w]).filter (λz=>a9 z.1)=[(X,w)] by change Qa _ [(X,w)]=_;rw[Ec,Xb A];rfl]at f;apply λq hq=>?_;apply mZ (λm U V=>∃S y H K,U=[aa (bE rs),aa (.str X),aa w,aa (.ref q),y,H,K]/\V=put M q (.lst (S.map wQ))/\Fk rs m S) #[m,[(X,w)],_,_,_,rfl,rfl,f] ?_;rintro m U V ⟨S,y,H,K,rfl,rfl,f⟩ D I;apply .inl #[_,aK,bS (λh=>?_) λh=>?_]
 .cases f with
  | done=>cases h
  | @knot m n h' S us ru a c G F f=>
   let#[Q,L,Z]:=lV (An.mp c).1;cases (show aa Q=aa ru from L.symm.trans c);let N:=Au c;let T:=g.prt ru N;rw[Ay];apply#[dC aK,_,_,aK,?_];rw[cF];apply#[rs,n,ru,us,a,h',rfl,g,c,G,nN (so.of Z #[dC aK,?_])];apply uQ (rest:=[]) (λw o=>∃p u,w=.tup [.str p,u]/\o=if a9 p=ab then aa w else ae) (λw hw=>?_) (small (by rw[nO,Ab,Su];lia)) (λ_ _=>trivial) (λa b hw V C Dn sb L Z=>?_) λos po=>aR.frz ?_
   .rw[nO]at hw;let#[z,_,rfl]:=Ao.mp hw;show#[_,_,rfl]
   .rw[nO]at hw;obtain⟨⟨p,u⟩,hz,e⟩:=Ao.mp hw;cases e;let F:Sh p:=(g.pt ru N p (Lp hz).1).elim dB.sh λk=>k.1.sh;show#[p,rfl,Ar F.len ∅,bS (b:=a9 p) (λP=>L _ #[p,u,rfl,by rw[Xb P]]) λP=>Z #[p,u,rfl,by rw[Xa (by rw[P];decide)]]]
   .let e:os.filterMap id=((ru.parts.zip us).filter λz=>a9 z.1).map wQ:=by
     rw[nO]at po
     revert po
     generalize ru.parts.zip us=l;intro po
     induction l generalizing os with
     | nil=>cases po;rfl
     | cons z l E=>
      cases po with
      | cons a b=>
       let#[p,u,J,rfl]:=a;cases J;rw[Ec,Ez];split<;>simp_all
    rw[e];apply#[_,aK,small (by rw[Ab,Ab];have:=Gw (λz:Av×W=>a9 z.1) (ru.parts.zip us);rw[Su]at this;have:=G.len;lia),?_];rw[cF];show I _ _ _ (Fl _) #[_,_,_,_,rfl,by rw[Ay],f]
 .cases f with
  | done=>show#[_,Sub.new hq,r]
  | knot=>rw[Ay]at h;revert h;cases Tf wQ _<;>intro h<;>cases h
def zhu:bK qH zgO zgN:=by
 rintro _ M R ⟨rs,w,row,h,rfl,g,x,hh,hl,hw,r⟩;let#[B,l,I]:=Fx g.ne;let Q:f0 rs=B.name:=by rw[I];rfl
 let wd:∀t∈WD,Ow t=ab:=by decide +kernel
 apply#[B,l,by rw[I];rfl,rs,f0 rs,w,row,h,by rw[Q],g,g.f0.1.nm,x,hh,?_];apply#[rs,f0 rs,w,row,h,rfl,x,g.prt,hh,hl,aR.frz (Y3 (neg:=ac) 2 ∅ (λw a=>?_) rfl #[_,aZ,r])];let#[t,ht,rfl]:=Ao.mp a;show wd t (hw t ht)
def MN:∀t∈WD,jB t:=λt ht=>by
 simp only[Ax,Eg,or_false]at ht;rcases ht with rfl|rfl|rfl<;>exact#[by decide +kernel,by decide +kernel,by decide +kernel]
def zhv:∀t∈WD,∃c rest,cs t=c::rest/\occ #[[c].toArray] "STU" = ac:=λt ht=>by
 simp only[Ax,Eg,or_false]at ht;rcases ht with rfl|rfl|rfl<;>exact#[_,_,rfl,by decide +kernel]
noncomputable abbrev B0:↑Av:=["S","S_1","S_12"]
noncomputable abbrev B1:↑Av:=["S","S_0","S_1"]
def MP:∀t∈B0++B1,dB t:=λt ht=>by
 simp only[Sk,Ho,Ax,Eg,or_false]at ht;rcases ht with rfl|rfl|rfl|rfl|rfl|rfl<;>exact#[by decide +kernel,by decide +kernel,#[_,_,rfl,by decide +kernel],by unfold rV;decide +kernel]
def MQ{k:Nat}:eG ws ae (aa (k:Int))=ws.take k:=by
 unfold eG;rw[HT.sIx_nat,show HT.sIx ↥ws 0 ae=0 from rfl,Qb,Ru,<-List.take_eq_take_min]
def zhw:bK BY zg3 zgY:=by
 rintro _ M R ⟨d,f,rfl,⟨J,hl,_,hh⟩,r⟩;apply λp S=>?_;let#[w,hw,N]:=pL (xs:=[W.int 0,.int 1,.int 2,.int 4,.int 3,.int 1]) (i:=d) (n:=6) rfl ∅;obtain⟨n,rfl,P⟩:∃n:Nat,w=.int n/\n<=4:=by
  simp only[Ax,Eg,or_false]at N;rcases N with rfl|rfl|rfl|rfl|rfl|rfl
  all_goals first|exact#[0,rfl,by decide]|exact#[1,rfl,by decide]|exact#[2,rfl,by decide]|exact#[3,rfl,by decide]|exact#[4,rfl,by decide]
 apply#[small ∅,(by decide:(0:Int)<6),so.of hw #[_,rfl,by lia,by lia,?_]];rw[Cv];apply eO (λi U V=>∃(ps:↑Av) (G X:Option W),U=[aa (.int d),aa (.rl (f.map W.str)),aa (.ref p),G,X]/\V=put M p (.lst (ps.map W.str))/\↥ps<=i/\∀t∈ps,t∈WD\/t∈f) #[[],_,_,rfl,rfl,Aj _,λ_ h=>nomatch h] ?_ ?_
 .rintro i w U V hw ⟨ps,G,X,rfl,rfl,y,B⟩ D E;let#[hi,rfl]:=zW hw;let a:∀(t:Av) U,U=[aa (.int d),aa (.rl (f.map W.str)),aa (.ref p),aa (.int (0+(i:Int))),aa (.int (d/(6+90*(0+(i:Int))) % 15))]->(t∈WD\/t∈f)->D.nx U (put (put M p (.lst (ps.map W.str))) p (.lst (ps.map W.str++[W.str t]))):=λt U e ht=>by
   rw[cF];apply E _ _ #[ps++[t],_,_,e,by rw[Ay];rfl,by rw[Ag];show Ep y,λu C=>(Bb.mp C).elim (B u) λz=>by rw[Ai.mp z];show ht]
  apply#[.inl (.inl #[by decide,by decide]),#[by lia,Int.lt_of_le_of_lt (show 6+90*(0+(i:Int))<=1000 by lia) (by decide +kernel)],(by decide:(0:Int)<15),bS (b:=decide (d/(6+90*(0+(i:Int))) % 15<8)) (λ_=>?_) λ_=>?_]
  .let#[v,c,s]:=pL (xs:=WD.map W.str) (i:=d/(6+90*(0+(i:Int))) % 15) (n:=3) rfl ∅;let#[t,ht,rfl]:=Ao.mp s;show#[dC aK,(by decide:(0:Int)<3),so.of c #[_,aK,dA (by rw[Ab];lia),a t _ rfl (.inl ht)]]
  .let#[v,c,s]:=pL (xs:=f.map W.str) (i:=d/(6+90*(0+(i:Int))) % 15) (n:=(↥(f.map W.str):Int)) rfl (by rw[Ab];have:=Ji.mpr J;lia);let#[t,ht,rfl]:=Ao.mp s;show#[dC aK,by rw[Ab];have:=Ji.mpr J;lia,so.of c #[_,aK,dA (by rw[Ab];lia),a t _ rfl (.inr ht)]]
 .rintro U V ⟨ps,G,X,rfl,rfl,y,B⟩;rw[zX]at y;show#[_,aK,_,Sub.new S,r ps (by lia) B]
def zhx:bK MF zha zg9:=by
 rintro _ M R ⟨cells,n,rfl,hi,hl,B,F,r⟩;let#[k,rfl]:=Jn B;apply uP (ws:=eG cells ae (aa (k:Int))) (rest:=[]) (λ_ y=>∃t∈WD,y=W.str t) (small (by have:=GN (ws:=cells) (lo:=ae) (hi:=aa (k:Int));lia)) (λ_ _=>trivial) (λw hw V C sb L=>?_) λys b=>aR.frz ?_
 .let#[i,rfl]:=hi w (GK hw);let#[v,c,s]:=pL (xs:=WD.map W.str) (i:=i) (n:=3) rfl ∅;let#[t,ht,rfl]:=Ao.mp s;show#[(by decide:(0:Int)<3),so.of c (L _ #[t,ht,rfl])]
 .obtain⟨row,rfl,G,hw⟩:∃row:↑Av,ys=row.map W.str/\↥row=↥(eG cells ae (aa (k:Int)))/\∀t∈row,t∈WD:=by
   revert b
   generalize eG cells ae (aa (k:Int))=l;intro b
   induction b with
   | nil=>show#[[],rfl,rfl,λ_ h=>nomatch h]
   | cons a _ E=>
    let#[t,ht,rfl]:=a;let#[row,rfl,L,Z]:=E;show#[t::row,rfl,congrArg (· + 1) L,λu Y=>(Ax.mp Y).elim (λe=>e▸ht) (Z u)]
  rw[MQ,Dc]at G;show#[_,aZ,r row (by lia) hw]
def MR{d x:Int}(v:0<=x)(L:x<=1000):(d % 10 ^ 40+x).natAbs<2 ^ 4096:=by
 let a:=Te d (show(10:Int) ^ 40≠0 by decide);let b:=Rh d (show(0:Int)<10 ^ 40 by decide);let c:(d % 10 ^ 40+x).natAbs<10 ^ 41:=by lia
 show Gm c (by decide +kernel)
def zhy:bK ME zg8 zg4:=by
 rintro _ M R ⟨L,rfl,hz,r⟩;let hi:=L2.ints_map L;apply#[_,0,.inl rfl,hi,by decide,λc=>?_];let#[w,hw,N]:=pL (xs:=[W.rl (B0.map W.str),W.rl (B1.map W.str)]) (i:=c/30) (n:=2) rfl ∅;obtain⟨F,rfl,l,hsn,J⟩:∃F:↑Av,w=.rl (F.map W.str)/\↥F=3/\F.Nodup/\∀t∈F,dB t:=by
  simp only[Ax,Eg,or_false]at N;rcases N with rfl|rfl
  .show#[B0,rfl,rfl,by decide +kernel,λt ht=>MP t (Bf _ ht)]
  .show#[B1,rfl,rfl,by decide +kernel,λt ht=>MP t (Bm _ ht)]
 apply#[#[by decide,by decide +kernel],(by decide:(0:Int)<2),so.of hw #[#[by decide,by decide +kernel],(by decide:(0:Int)<3),?_]];let#[k,y]:=Jn (show 0<=1+c/2 % 3 by lia);let hk:1<=k/\k<=3:=by lia
 change(aF MI (aF MK ML)) (n9 R) [aa (.sc (L.map W.int)),aa (.int c),aa (.rl (eG (F.map W.str) ae (aa (1+c/2 % 3)))),ae,ae,ae,ae] M;rw[y,MQ,<-Tv];obtain⟨f,hh⟩:∃f,f=F.take k:=#[_,rfl];rw[<-hh];let hl:↥f=k:=by rw[hh,Dc];lia
 let Q:MD f:=#[(λe=>by rw[e]at hl;have:=hk.1;rw[<-hl]at this;cases this),by lia,by rw[hh];show hsn.sublist (Rl _ _),λt ht=>J t (Kj (hh▸ht))];apply λp S=>?_;let T:↥(f.map W.str)=k:=by rw[Ab,hl]
 apply#[#[by decide,by decide +kernel],(by decide:(0:Int)<5),_,rfl,by lia,by lia,?_];let#[n,en]:=Jn (show 0<=c/6 % 5 by lia);let P:n<=4:=by lia
 rw[show((↥(f.map W.str):Int)+c/6 % 5)=((k+n:Nat):Int) by rw[T,en];lia,Cv];apply eO (λi U V=>∃(qs:↑aD) (X H K:Option W),U=[aa (.sc (L.map W.int)),aa (.int c),aa (.rl (f.map W.str)),aa (.ref p),X,H,K]/\V=put M p (.lst (qs.map bX))/\↥qs=i/\(∀r∈qs,r.name∈f/\↥r.parts<=4/\∀t∈r.parts,t∈WD\/t∈f)/\∀j,j<i->j<k->(qs[j]?).map aD.name=f[j]?) #[[],_,_,_,rfl,rfl,rfl,(λ_ h=>nomatch h),λj h=>absurd h (Nat.not_lt_zero j)] ?_ ?_
 .rintro i w U V hw ⟨qs,X,H,K,rfl,rfl,m,hq,x⟩ D E;let#[O,rfl]:=zW hw;let fin:∀(d:Int) U,U=[aa (.sc (L.map W.int)),aa (.int c),aa (.rl (f.map W.str)),aa (.ref p),aa (.int (0+(i:Int))),aa (.int d),K]->MJ D U (put M p (.lst (qs.map bX))):=by
   rintro d _ rfl;let#[v,g,s]:=pL (xs:=f.map W.str) (i:=d) (n:=(↥(f.map W.str):Int)) rfl (by rw[T];lia);let#[t,ht,rfl]:=Ao.mp s;let go:∀(t:Av) (o:Option W) U,U=[aa (.sc (L.map W.int)),aa (.int c),aa (.rl (f.map W.str)),aa (.ref p),aa (.int (0+(i:Int))),aa (.int d),aa (.str t)]->t∈f->(i<k->f[i]? = aa t)->(b8 (c9 "list" eS (cP 3) (aA (bA (aA (cP 6) (aA (aS BY (aA (aH i6 (cP 5) (vC (.int 3))) (aA (cP 2) aB))) (aA (aH gK (aH i6 (cP 5) (vC (.int 900))) (vC (.int 4))) aB)))) aB))) D U (put M p (.lst (qs.map bX))):=by
    rintro t o _ rfl ht hti;apply#[dC aK,#[by decide,by decide +kernel],d/3,f,rfl,Q,λps A B=>#[#[by decide,by decide +kernel],(by decide:(0:Int)<4),_,aK,dA (by rw[Ab];lia),?_]];rw[cF];apply E _ _ #[qs++[#[t,ps,d/900 % 4]],_,_,_,rfl,by rw[Ay];rfl,by rw[Ag,m];rfl,λr G=>?_,λj hj Z=>?_]
    .rcases Bb.mp G with G|G
     .show hq r G
     .rw[Ai.mp G];show#[ht,A,B]
    .by_cases z:j<i
     .rw[Iw (by lia)];show x j z Z
     .have:j=i:=by lia
      subst this;rw[<-m,Fw (Aj _),La,m,hti Z];rfl
   apply#[by rw[T];lia,so.of g (bS (b:=decide ((0+(i:Int))<↥(f.map W.str))) (λz=>?_) λz=>?_)]
   .let z:=Xc z;obtain⟨u,C⟩:∃u,f[i]? = aa u:=#[_,Bj (by lia)];rw[Int.zero_add]at go⊢;show so.of (a:=W.str u) (kW (by rw[Az,C];rfl)) (go u ae _ rfl (Au C) λ_=>C)
   .let z:=of_decide_eq_false z;show go t ae _ rfl ht λh=>absurd (show(0+(i:Int))<↥(f.map W.str) by lia) z
  apply#[_,1+(0+(i:Int)),.inl rfl,hi,by lia,λd=>#[(by decide:(0:Int)<2),bS (b:=decide (c % 2=1)) (λ_=>?_) λ_=>fin d _ rfl]];let Y:wZ 10 40:=#[by decide,by decide,by decide];apply#[Y,(by decide:(0:Int)<10 ^ 40),Y,(by decide:(0:Int)<10 ^ 40),.inl (.inl #[by decide,by decide]),.inr #[MR (by lia) (by lia),?_],#[by decide,by decide +kernel],fin _ _ rfl];change(d % 10 ^ 40+5*(0+(i:Int))+2).natAbs<_;rw[Int.add_assoc];show MR (by lia) (by lia)
 .rintro U V ⟨qs,X,H,K,rfl,rfl,m,hq,x⟩;rw[zX]at m x;let hd:∀r∈qs,dB r.name:=λr G=>Q.2.2.2 _ (hq r G).1;apply#[_,aZ,r qs #[λe=>?_,λq G=>(hq q G).2.1,hd,λq G t ht=>((hq q G).2.2 t ht).elim (λz=>.inr #[MN t z,z]) λz=>.inl (Q.2.2.2 t z),λq G t ht=>sL (λr G=>(hd r G).nm) λP=>?_] (by lia) (Ar (wN λq G=>(hq q G).1) (by lia)) p S]
  .rw[e]at m;have:(0:Nat)=k+n:=m;lia
  .let ht:t∈f:=((hq q G).2.2 t ht).resolve_left λz=>by
    let w:=MN t z;rw[D4 w.ne w.sm]at P;cases P
   let#[j,hj]:=Kk ht;let I:=(An.mp hj).1;have:=x j (by lia) (by lia);rw[hj]at this;let#[r,G,e]:=Bd.mp this;show#[r,Au G,e]
theorem MS{x:Int}{A B:Prop}(h:x=0)(k:B):if (!decide (x=0))=ab then A else B:=by rw[Xd h];show k
theorem zhz:bK MG zhg zhb:=by
 rintro _ M R ⟨rs,rfl,g,hfew,h2,fu,sg,r⟩;let#[q0,l,e0]:=Fx g.ne;let hF:f0 rs=q0.name:=by rw[e0];rfl
 let a0:cC (rs.map bX) 0=aa (bX q0):=by rw[e0];show rQ _ _
 let shp:∀q∈rs,∀t∈q.parts,Sh t:=λq hq t ht=>(g.pt q hq t ht).elim dB.sh λk=>k.1.sh;apply so.of a0 ?_;apply eO (λi τ M'=>∃o2 o3 o4,τ=[aa (bE rs),aa (.str q0.name),o2,o3,o4]/\M=M') #[_,_,_,rfl,rfl] ?_ ?_
 .rintro i w τ M' hw ⟨o2,o3,o4,rfl,rfl⟩ D hD;rw[Az]at hw;let#[q,hq,rfl]:=Bd.mp hw;let hm:=Au hq;let#[hl2,hc]:=h2 q hm;let hpl:↥(q.parts.map W.str)=↥q.parts:=Ab _;let go:=hD _ _ #[aa (.str q.name),aa (.tup (q.parts.map W.str)),aa (.int q.cost),rfl,rfl];let fin:MM D [aa (bE rs),aa (.str q0.name),aa (.str q.name),aa (.tup (q.parts.map W.str)),aa (.int q.cost)] M:=by
   apply pK 2 ∅ (nJ (shp q hm)) (nJ (ps:=[]) (λt ht=>nomatch ht)) λb hb=>bS (b:=b) (λy1=>?_) λy1=>go;let#[n1,n2]:=fu q hm (sJ (b:=[]) (W.tup.inj (hb.mp y1)));apply bS (b:=!decide (q.name=q0.name)) (λy2=>?_) λy2=>?_
   .rw[Xd (n1.trans hF)]at y2;cases y2
   apply mU (rest:=[aa (.str q0.name)]) (λw=>match w with|.tup [_,.tup ps,_]=>.bl (inW (.str q0.name) ps)|_=>.non) (small (by rw[Ab];lia)) (λ_ _=>trivial) (λw hw M' C sb h1=>?_) (aR.frz ?_)
   .let#[q,hq,rfl]:=Ao.mp hw;show#[rfl,zM _,h1]
   let e1:((rs.map bX).map λw=>match w with|.tup [_,.tup ps,_]=>W.bl (inW (.str q0.name) ps)|_=>.non)=bools (rs.map λq=>decide (q0.name∈q.parts)):=by
    unfold bools;rw[Br,Br];apply Ey λz _=>?_;change W.bl (inW (.str q0.name) (z.parts.map W.str))=.bl (decide (q0.name∈z.parts));rw[zL]
   rw[e1];apply#[_,rfl,?_];apply bS (b:=(rs.map λq=>decide (q0.name∈q.parts)).any id) (λy3=>?_) λy3=>go;rw[Ku,Hc]at y3;let#[z,hz,h]:=y3;show absurd (Xc h) (hF▸n2 z hz)
  apply#[rfl,rfl,bS (b:=decide ((↥(q.parts.map W.str):Int) > 2)) (λz=>?_) λ_=>bS (b:=decide ((↥(q.parts.map W.str):Int)=1)) (λz=>?_) λ_=>MS hc fin]
  .have:=Xc z;rw[hpl]at this;lia
  .let z:=Xc z;rw[hpl]at z;let#[t,et]:=Pe.mp (show ↥q.parts=1 by lia);let ht:t∈q.parts:=by rw[et];show .head _
   let hn:=sg q hm t et;let htw:jB t/\t∈WD:=(g.pt q hm t ht).resolve_left λk=>by rw[k.nm]at hn;cases hn
   let#[c,rest,ec,ho]:=zhv t htw.2;apply so.of (o:=cC (q.parts.map W.str) 0) (a:=.str t) (by rw[et];rfl) #[small (Ar htw.1.len ∅),so.of (o:=cC t.cps.toList 0) (a:=c) (by rw[show t.cps.toList=c::rest from ec];show rQ _ _) ?_];apply bS (b:=occ #[[c].toArray] "STU") (λz=>?_) λ_=>MS hc fin;rw[ho]at z;cases z
 .rintro τ M' ⟨o2,o3,o4,rfl,rfl⟩;show#[_,aZ,r]
def qI(rs:↑aD)(row:↑Av)(w:W):Prop:=(w=.non/\¬Dn rs [f0 rs] row)\/isNon w=ac/\RT a9 rs (16*↥(namesOf rs)) [f0 rs] [w] row
section
variable {rs:↑aD}{row:↑Av}{w v:W}{l:↑(NP×W)}{U:↑Av}{k:Nat}
theorem qI.iff(h:qI rs row w):isNon w=ac↔Dn rs [f0 rs] row:=by
 rcases h with⟨rfl,h⟩|⟨h,x⟩
 .show#[(λz=>nomatch z),λz=>absurd z h]
 .show#[λ_=>x.dv,λ_=>h]
theorem qI.rt(h:qI rs row w)(n:isNon w=ac):RT a9 rs (16*↥(namesOf rs)) [f0 rs] [w] row:=by
 rcases h with⟨rfl,_⟩|h
 .cases n
 .show h.2
theorem sQ{R:W->Prop}(g:Gn U rs)(k:∀w,qI rs row w->R w):(∀v,RT a9 rs (16*↥(namesOf rs)) [f0 rs] [v] row->R v)/\(¬Dn rs [f0 rs] row->R .non):=by
 apply#[λv x=>k v (.inr #[?_,x]),λh=>k _ (.inl #[rfl,h])];generalize e : [v]=l at x;generalize e2 : [f0 rs]=ps at x;cases x with
 | nil=>cases e
 | word n _=>rw[<-(Kn e2).1,g.f0.1.nm]at n;cases n
 | knot=>cases e;rfl
theorem sM.iff(s:sM U k rs l)(hn:16*↥(namesOf (aX l))<=890000)(h1:qI (aX l) row v):isNon v=ac↔Dn rs [f0 rs] row:=by
 apply#[λn=>?_,λh=>h1.iff.mpr (s.up row h)];let#[_,_,_,_,_,_,_,x]:=s.bk _ _ _ hn (h1.rt n);show x.dv
theorem wR{a b:W}(h:isNon a=ac↔isNon b=ac):isNon a=isNon b:=by
 cases e:isNon a with
 | false=>show(h.mp e).symm
 | true=>
  cases f:isNon b with
  | true=>rfl
  | false=>rw[h.mpr f]at e;cases e
theorem zhA(g:Gn WD rs):↥(bY rs)<=(↥(namesOf rs)+3)*((↥(namesOf rs)+3)*(↥(namesOf rs)+4)):=by
 obtain⟨A,hA⟩:∃A,A=namesOf rs++WD:=#[_,rfl];let lA:↥A=↥(namesOf rs)+3:=by rw[hA,Ag];rfl
 have:=len_sub (b:=A.flatMap λa=>A.flatMap λb=>[a,b]::A.map λc=>[a,b,c]) (JQ (rs:=rs)) λe he=>by
  let#[r,hr,k,hk,rfl]:=sA.mp he;let h4:=g.prt r hr;let inA:∀t∈r.parts.drop (k+1),t∈A:=λt ht=>by
   let ht:=Nd ht;rw[hA];rcases g.pt r hr t ht with z|z
   .show Bf _ (Xc ((g.own r hr t ht).symm.trans z.nm))
   .show Bm _ z.2
  let ll:↥(r.parts.drop (k+1))=↥r.parts-(k+1):=Ei;generalize r.parts.drop (k+1)=e at inA ll
  match e,ll,inA with
  | [a,b],_,h=>show Fe.mpr #[a,h a (.head _),Fe.mpr #[b,h b (.tail _ (.head _)),.head _]]
  | [a,b,c],_,h=>show Fe.mpr #[a,h a (.head _),Fe.mpr #[b,h b (.tail _ (.head _)),.tail _ (Ao.mpr #[c,h c (.tail _ (.tail _ (.head _))),rfl])]]
  | [],h,_=>rw[Ju]at h;lia
  | [_],h,_=>rw[Bz]at h;lia
  | _::_::_::_::_,h,_=>simp only[Bq]at h;lia
 rw[j1 λa _=>j1 λb _=>by rw[Bq,Ab],lA]at this;show this
end
theorem wU{a b:Bool}{P Q:Prop}(e:a=b)(h:Q):if (!decide (a=b))=ab then P else Q:=by rw[Xd e];show h
theorem zhB{C:Cc}:bK rP (zhj C) zhh:=by
 rintro _ M R ⟨ns,rfl,hl,hM,r⟩;let hi:=L2.ints_map ns;apply#[ns,rfl,hl,λrs g hlen hnam=>aR.frz ?_];apply#[rs,rfl,g.g60 (by lia) (by lia) ∅,λD drop l1 hE=>#[rfl,rfl,?_]];let#[s1,fu1,len1,nm1]:=hE.stg g;let len1:↥(aX l1)<=338:=by
  rw[Ab];apply Ar len1 (Ga (Fo 16 (Ej hlen hnam)) 2)
 let nm1:↥(namesOf (aX l1))<=4:=by lia
 apply#[aX l1,rfl,s1.gn.g60 (by lia) (by lia) ∅,fu1,λl2 hS=>#[rfl,rfl,?_]];let#[s2,fu2,sg2,len2,nm2]:=hS.stg s1.gn fu1;let len2:↥(aX l2)<=5408:=by
  rw[Ab];show Ar len2 (Ej (Ej len1 nm1) nm1)
 let nm2:↥(namesOf (aX l2))<=4:=by lia
 let en2:↥(bY (aX l2))<=392:=Ar (zhA s2.gn) (Ej (Ga nm2 3) (Ej (Ga nm2 3) (Ga nm2 4)));let few2:hZ (aX l2):=#[by lia,s2.gn.prt,by lia];apply#[aX l2,rfl,few2,s2.gn.ne,λl3 t3 c31 c32 len3 hd3=>#[rfl,rfl,?_]];let#[s3,p3,fu3,sg3,nm3]:=L8 s2.gn few2 t3 c31 c32 hd3;let len3:↥(aX l3)<=5800:=by rw[Ab];lia
 let nm3:↥(namesOf (aX l3))<=396:=by lia
 apply#[aX l3,rfl,s3.gn,by lia,λq hq=>#[p3 q hq,by let#[z,_,rfl]:=Ao.mp hq;rfl],fu3 fu2,sg3 sg2,nN ?_];let en0:=AE g.prt;let few0:hZ rs:=#[by lia,g.prt,by lia];apply#[rs,rfl,few0,g.ne,λl4 t4 c41 c42 len4 hd4=>#[rfl,rfl,?_]];let#[s4,p4,_,_,nm4]:=L8 g few0 t4 c41 c42 hd4;let len4:↥(aX l4)<=21:=by rw[Ab];lia
 let nm4:↥(namesOf (aX l4))<=17:=by lia
 apply#[aX l4,rfl,s4.gn.g60 (by lia) (by lia) ∅,λD5 drop5 l5 hE5=>#[rfl,rfl,?_]];let#[s5,_,len5,nm5]:=hE5.stg s4.gn;let len5:↥(aX l5)<=5714:=by
  rw[Ab];show Ar len5 (Ga (Fo 16 (Ej len4 nm4)) 2)
 let nm5:↥(namesOf (aX l5))<=18:=by lia
 apply eO (λi τ M'=>∃o12 o13 o14 o15 o16 o17,τ=[aa (.sc (ns.map W.int)),aa (bE rs),aa (bE (aX l1)),aa (jK l1),aa (bE (aX l2)),aa (jK l2),aa (bE (aX l3)),aa (jK l3),aa (bE (aX l4)),aa (jK l4),aa (bE (aX l5)),aa (jK l5),o12,o13,o14,o15,o16,o17]/\M=M') #[_,_,_,_,_,_,rfl,rfl] ?_ ?_
 .rintro i w τ M' hw ⟨o12,o13,o14,o15,o16,o17,rfl,rfl⟩ Dx hD;obtain⟨b,rfl,hb0,hb1⟩:∃b:Int,w=.int b/\0<=b/\b<=30:=by
   have:=Au hw;simp only[Ax,Eg,or_false]at this;rcases this with rfl|rfl
   .show#[10,rfl,by decide,by decide]
   .show#[30,rfl,by decide,by decide]
  apply#[_,0,.inl rfl,hi,by decide,λc=>?_];obtain⟨cells,hc⟩:∃cells,cells=eG (ns.map W.int) (aa b) (aa (b+8))++[W.int c]:=#[_,rfl];let cl:=ZF (S:=ns.map W.int) (i:=b) (j:=b+8) hb0 (by lia);let ci:oB cells:=λw hw=>by
   rw[hc]at hw;show(Bb.mp hw).elim (hi.cut _ _ w) λz=>#[c,Ai.mp z]
  let cl2:↥cells<=9:=by rw[hc,Ag,Bz];lia
  obtain⟨c0,hc0⟩:∃c0:Int,cC cells 0=aa (.int c0):=by
   cases e:cells with
   | nil=>rw[hc]at e;show absurd e (by simp)
   | cons a z=>
    let#[i,rfl]:=ci a (by rw[e];show .head _);show#[i,rQ _ _]
  apply#[small (by change _+1<=_;lia),?_];rw[<-hc];apply so.of hc0 #[(by decide:(0:Int)<4),_,c0 % 4,rfl,ci.cut _ _,Ar GN (by lia),by lia,by lia,λrow hrl hrw=>?_];apply#[rs,row,rfl,g.gr (by lia),hrl,sQ g λw0 h0=>?_];apply#[aX l1,row,rfl,s1.gn.gr (by lia),hrl,sQ s1.gn λw1 h1=>?_];let i1:=s1.iff (by lia) h1;apply wU (congrArg not (wR (i1.trans h0.iff.symm))) #[aX l2,row,rfl,s2.gn.gr (by lia),hrl,sQ s2.gn λw2 h2=>?_];let i2:=(s2.iff (by lia) h2).trans (h1.iff.symm.trans i1);apply wU (congrArg not (wR (i2.trans h0.iff.symm))) #[aX l3,row,rfl,s3.gn.gr (by lia),hrl,sQ s3.gn λw3 h3=>#[aX l5,row,rfl,s5.gn.gr (by lia),hrl,sQ s5.gn λw5 h5=>?_]];let i3:=(s3.iff (by lia) h3).trans (h2.iff.symm.trans i2);let i5:isNon w5=ac↔Dn rs [f0 rs] row:=by
   apply#[λn=>?_,λh=>h5.iff.mpr (s5.up row (s4.up row h))];let#[_,_,_,_,_,_,_,x]:=s5.bk _ _ _ (by lia) (h5.rt n);let#[_,_,_,_,_,_,_,y]:=s4.bk _ _ _ (by lia) x;show y.dv
  let go:∀o16 o17,Dx.nx [aa (.sc (ns.map W.int)),aa (bE rs),aa (bE (aX l1)),aa (jK l1),aa (bE (aX l2)),aa (jK l2),aa (bE (aX l3)),aa (jK l3),aa (bE (aX l4)),aa (jK l4),aa (bE (aX l5)),aa (jK l5),aa (.int b),aa (.rl cells),aa (nF row),aa (.bl (!isNon w0)),o16,o17] M:=λo16 o17=>hD _ _ #[_,_,_,_,_,_,rfl,rfl];apply wU (congrArg not (wR (i3.trans h0.iff.symm))) (wU (congrArg not (wR (i5.trans h0.iff.symm))) (bS (b:=!isNon w0) (λy=>?_) λ_=>go _ _));let d0:Dn rs [f0 rs] row:=h0.iff.mp (by rw[<-Hl (isNon w0),y];rfl);let#[b5,o5,m5,d5,e5,f5,hd5,y5]:=s5.bk _ _ _ (by lia) (h5.rt (i5.mpr d0));let#[b4,o4,m4,d4,e4,f4,hd4,y4]:=s4.bk _ _ _ (by lia) y5;let#[b3,o3,m3,d3,e3,f3,hd3,y3]:=s3.bk _ _ _ (by lia) (h3.rt (i3.mpr d0));let#[b2,o2,m2,d2,e2,f2,hd2,y2]:=s2.bk _ _ _ (by lia) y3;let#[b1,o1,m1,d1,e1,f1,hd1,y1]:=s1.bk _ _ _ (by lia) y2;apply#[b5,_,o5,m5,d5,congrArg (λx=>[x,w5]) e5,f5,hd5,aX l4,o5,row,_,rfl,s4.gn,y5,by lia,hrl,hrw,nN ?_];apply#[b4,_,o4,m4,d4,congrArg (λx=>[x,o5]) e4,f4,hd4,rs,o4,row,_,rfl,g,y4,by lia,hrl,hrw,nN ?_];apply#[b3,_,o3,m3,d3,congrArg (λx=>[x,w3]) e3,f3,hd3,aX l2,o3,row,_,rfl,s2.gn,y3,by lia,hrl,hrw,nN ?_];apply#[b2,_,o2,m2,d2,congrArg (λx=>[x,o3]) e2,f2,hd2,aX l1,o2,row,_,rfl,s1.gn,y2,by lia,hrl,hrw,nN ?_];show#[b1,_,o1,m1,d1,congrArg (λx=>[x,o2]) e1,f1,hd1,rs,o1,row,_,rfl,g,y1,by lia,hrl,hrw,nN (go _ _)]
 .rintro τ M' ⟨o12,o13,o14,o15,o16,o17,rfl,rfl⟩;show#[_,aZ,r _]
structure Tx(mg:Av->Option Ae):Prop where
 c_FIGURED_NAMES:∃t,mg "FIGURED_NAMES" = aa (.int 10000 t)
 c_FIGURES:∃t,mg "FIGURES" = aa (.str "0123456789" t)
 c_GREAT_LETTERS:∃t,mg "GREAT_LETTERS" = aa (.str "ABCDEFGHIJKLMNOPQRSTUVWXYZ" t)
 c_WHOLE:∃t,mg "WHOLE" = aa (.str "whole" t)
 all_:mg "all" = ae
 any_:mg "any" = ae
 dict_:mg "dict" = ae
 enumerate_:mg "enumerate" = ae
 int_:mg "int" = ae
 isinstance_:mg "isinstance" = ae
 len_:mg "len" = ae
 list_:mg "list" = ae
 range_:mg "range" = ae
 reversed_:mg "reversed" = ae
 sorted_:mg "sorted" = ae
 str_:mg "str" = ae
 tuple_:mg "tuple" = ae
 zip_:mg "zip" = ae
structure Kc(K:Ac)(mg:Av->Option Ae)(C:Cc):Prop where
 cls_Queue:gD K C.q
 at__Queue:mg "Queue" = aa (.ref C.q)
 cls_Search:gD K C.s
 at__Search:mg "Search" = aa (.ref C.s)
 cls_Plainer:gD K C.p
 at__Plainer:mg "Plainer" = aa (.ref C.p)
 na_costs:fH K C.q "costs"
 na_waiting:fH K C.q "waiting"
 na_grammar:fH K C.s "grammar"
 na_own:fH K C.s "own"
 na_steps:fH K C.s "steps"
 na_queue:fH K C.s "queue"
 na_reached:fH K C.s "reached"
 na_best:fH K C.s "best"
 na_ends:fH K C.s "ends"
 na_begun:fH K C.s "begun"
 na_backs:fH K C.p "backs"
structure Al(K:Ac)(mg:Av->Option Ae)(C:Cc)(fa:Nat->Am)(fb:Nat->Fs):Prop extends Tx mg,Kc K mg C where
 x0:Df K mg "made_of" (top 6) ["text","signs"] (fa 0) (fb 0)
 x1:Df K mg "is_name" (top 7) ["part"] (fa 1) (fb 1)
 x2:Df K mg "names" (top 8) ["grammar"] (fa 2) (fb 2)
 x3:Df K mg "first_name" (top 9) ["grammar"] (fa 3) (fb 3)
 x4:Df K mg "rules_of" (top 10) ["grammar","name"] (fa 4) (fb 4)
 x5:Df K mg "marks" (top 12) ["things"] (fa 5) (fb 5)
 x6:Df K mg "places_of" (top 13) ["row"] (fa 6) (fb 6)
 x7:Df K mg "row_steps" (top 14) ["row"] (fa 7) (fb 7)
 x8:Df K mg "part_facts" (top 15) ["own","parts","cut"] (fa 8) (fb 8)
 x9:Di K C.q "__init__" "Queue.__init__" (dX (top 17) 0) ["self"] (fa 9) (fb 9)
 x10:Dm K C.q "is_done" "Queue.is_done" (dX (top 17) 1) ["self"] (fa 10) (fb 10)
 x11:Dm K C.q "place_of" "Queue.place_of" (dX (top 17) 3) ["self","cost"] (fa 11) (fb 11)
 x12:Dm K C.q "put" "Queue.put" (dX (top 17) 2) ["self","cost","thing"] (fa 12) (fb 12)
 x13:Dm K C.q "take" "Queue.take" (dX (top 17) 4) ["self"] (fa 13) (fb 13)
 x14:Df K mg "added" (top 19) ["cost","other"] (fa 14) (fb 14)
 x15:Di K C.s "__init__" "Search.__init__" (dX (top 20) 0) ["self","grammar","steps"] (fa 15) (fb 15)
 x16:Dm K C.s "reach" "Search.reach" (dX (top 20) 1) ["self","number","cut","cost"] (fa 16) (fb 16)
 x17:Dm K C.s "settle" "Search.settle" (dX (top 20) 4) ["self","number","cut","cost"] (fa 17) (fb 17)
 x18:Dm K C.s "step_by_name" "Search.step_by_name" (dX (top 20) 3) ["self","number","cut","cost","key"] (fa 18) (fb 18)
 x19:Dm K C.s "take_next" "Search.take_next" (dX (top 20) 2) ["self"] (fa 19) (fb 19)
 x20:Df K mg "least_trees" (top 21) ["grammar","places","steps","weights"] (fa 20) (fb 20)
 x21:Df K mg "facts_within" (top 22) ["grammar","best","top"] (fa 21) (fb 21)
 x22:Df K mg "knot_of" (top 25) ["number","children"] (fa 22) (fb 22)
 x23:Df K mg "same_word" (top 24) ["word","begin","end"] (fa 23) (fb 23)
 x24:Df K mg "made_of_best" (top 23) ["grammar","best","top","of_word","of_rule"] (fa 24) (fb 24)
 x25:Df K mg "best_tree" (top 26) ["grammar","best","top"] (fa 25) (fb 25)
 x26:Df K mg "row_trees" (top 28) ["grammar","row","weights"] (fa 26) (fb 26)
 x27:Df K mg "no_weights" (top 29) ["grammar"] (fa 27) (fb 27)
 x28:Df K mg "whole_fact" (top 31) ["grammar","row"] (fa 28) (fb 28)
 x29:Df K mg "reading" (top 32) ["grammar","row"] (fa 29) (fb 29)
 x30:Df K mg "words_of" (top 34) ["grammar"] (fa 30) (fb 30)
 x31:Df K mg "shortest_lengths" (top 35) ["grammar"] (fa 31) (fb 31)
 x32:Df K mg "is_tree" (top 37) ["child"] (fa 32) (fb 32)
 x33:Df K mg "row_of" (top 38) ["tree"] (fa 33) (fb 33)
 x34:Df K mg "right_knot" (top 39) ["grammar","name","tree"] (fa 34) (fb 34)
 x35:Df K mg "right_tree" (top 40) ["grammar","name","tree"] (fa 35) (fb 35)
 x36:Df K mg "is_reading" (top 41) ["grammar","row","tree"] (fa 36) (fb 36)
 x37:Df K mg "made_names" (top 45) ["old","count"] (fa 37) (fb 37)
 x38:Df K mg "slots" (top 46) ["parts"] (fa 38) (fb 38)
 x39:Di K C.p "__init__" "Plainer.__init__" (dX (top 47) 0) ["self"] (fa 39) (fb 39)
 x40:Dm K C.p "put_rule" "Plainer.put_rule" (dX (top 47) 1) ["self","name","parts","pieces"] (fa 40) (fb 40)
 x41:Dm K C.p "is_part" "Plainer.is_part" (dX (top 47) 2) ["self","name"] (fa 41) (fb 41)
 x42:Dm K C.p "grammar_and_backs" "Plainer.grammar_and_backs" (dX (top 47) 3) ["self"] (fa 42) (fb 42)
 x43:Df K mg "nothing_read" (top 48) ["grammar"] (fa 43) (fb 43)
 x44:Df K mg "empty_trees" (top 49) ["grammar"] (fa 44) (fb 44)
 x45:Df K mg "wordy_names" (top 50) ["grammar"] (fa 45) (fb 45)
 x46:Df K mg "thinned" (top 51) ["parts","own","wordy","empties"] (fa 46) (fb 46)
 x47:Df K mg "put_thinned" (top 52) ["plain","grammar","name","wordy","empties"] (fa 47) (fb 47)
 x48:Df K mg "no_empty" (top 53) ["grammar"] (fa 48) (fb 48)
 x49:Df K mg "check_no_empty" (top 54) ["grammar"] (fa 49) (fb 49)
 x50:Df K mg "is_single" (top 55) ["own","rule"] (fa 50) (fb 50)
 x51:Df K mg "single_chains" (top 56) ["grammar","own","name"] (fa 51) (fb 51)
 x52:Df K mg "chain_pieces" (top 57) ["chain","number","parts"] (fa 52) (fb 52)
 x53:Df K mg "put_chained" (top 58) ["plain","grammar","name","fruitful"] (fa 53) (fb 53)
 x54:Df K mg "no_single" (top 59) ["grammar"] (fa 54) (fb 54)
 x55:Df K mg "long_ends" (top 60) ["grammar"] (fa 55) (fb 55)
 x56:Df K mg "shortened" (top 61) ["parts","made"] (fa 56) (fb 56)
 x57:Df K mg "twos" (top 62) ["grammar"] (fa 57) (fb 57)
 x58:Df K mg "put_together" (top 63) ["pieces","rows"] (fa 58) (fb 58)
 x59:Df K mg "back_tree" (top 64) ["backs","tree"] (fa 59) (fb 59)
 x60:Df K mg "_law_cell_at" (top 66) ["script","k"] (fa 60) (fb 60)
 x61:Df K mg "_law_parts" (top 67) ["d","heads"] (fa 61) (fb 61)
 x62:Df K mg "_law_grammar" (top 68) ["script"] (fa 62) (fb 62)
 x63:Df K mg "_law_row" (top 69) ["cells","most"] (fa 63) (fb 63)
 x64:Df K mg "_law_good" (top 70) ["rules"] (fa 64) (fb 64)
 x65:Df K mg "law" (top 71) ["script"] (fa 65) (fb 65)
 f_same_word:C.f=fa 23
 f_knot_of:C.g=fa 22
theorem bN{K:Ac}{x q:Av}{st:Kx}{f:Am}{ps:↑Av}{fd:Fs}{N:↑Av}{sp:a8}{rd:aE}(P:Be)(w:Bv)(mg:Av->Option Ae)(base:Dz)(k:Nat)(F:iY K x q st f fd)(b:Binds K fd ps [])(good:bK sp rd N)(S:mB N ps (dR st):=by show sH)(tm:∀{cdv:Ae} {A:Cw} {outer:↑Vv} {s:Ak} {H:Hp} {E:XK},cI k (A.deeper (Na q (dR st) ⇑s f cdv))->(A.deeper (Na q (dR st) ⇑s f cdv)).units+1<Fu->N.Nodup->i7 (kC eW P w K mg base N q (dR st) f cdv A outer s H E).nox (gC st) rd:=by intro _ _ _ _ _ _ hr hu nd;walk_at "t")(len:∀ws M R,sp ws M R->↥ws=↥ps:=by intro _ _ _ h;repeat (first|(let#[rfl,_]:=h;exact rfl)|let#[_,h]:=h)):iW P w K mg base eW (k+1) f fd ps (fS K sp):=AY P w mg base k F b S good tm len
section
variable {P:Be}{w:Bv}{K:Ac}{mg:Av->Option Ae}{base:Dz}{C:Cc}{fa:Nat->Am}{fb:Nat->Fs}(Y:Al K mg C fa fb)
seal L2.PE L2.PA L2.PS L2.fN L2.PT L2.PG L2.PI L2.PO
set_option hygiene false in
local macro_rules | `(tactic| walk_at "t") => `(tactic| repeat' first
 | (change fN _ _ _;first|refine X3 ?_|refine X2 ?_ ?_|exact X1)
 | (change PA _ _ _;first|refine n6 ?_ ?_|exact pD)
 | (change PE _ _ (up _ (bP _));refine V1 ?_)
 | (change PE _ _ (up _ (pZ _));refine zck ?_)
 | (change PE _ _ (up _ (BJ _ _ _ _));refine zfl ?_)
 | (change PE _ (.Name _ _) _;first|exact v _|exact KU Y.f_knot_of Y.x22|exact KU Y.f_same_word Y.x23|exact Y.c_FIGURED_NAMES.elim λ_ h=>qY (y:=V.int 10000) (by rfl) h #[_,rfl] (λ_ _=>.int _)|exact Y.c_FIGURES.elim λ_ h=>qY (y:=V.str "0123456789") (by rfl) h #[_,rfl] (λ_ _=>.str _)|exact Y.c_GREAT_LETTERS.elim λ_ h=>qY (y:=V.str "ABCDEFGHIJKLMNOPQRSTUVWXYZ") (by rfl) h #[_,rfl] (λ_ _=>.str _)|exact Y.c_WHOLE.elim λ_ h=>qY (y:=V.str "whole") (by rfl) h #[_,rfl] (λ_ _=>.str _)|exact EY (by rfl) Y.int_ Y9 (y:=.ty "int") rfl (λ_ _=>.ty _)|exact EY (by rfl) Y.tuple_ GI (y:=.ty "tuple") rfl (λ_ _=>.ty _))
 | (change PE _ (.Constant _ _ _) _;first|exact VX|exact V0|exact VY|exact VZ)
 | (change PE _ (.Subscript _ (.Slice _ _ _ _) _) _;refine YZ ?_ ?_ ?_)
 | (change PE _ (.Subscript _ _ _) _;refine W8 hu ?_ ?_)
 | (change PE _ (.Tuple _ _ _) _;refine WG ?_)
 | (change PE _ (.List _ _) _;first|refine YV ?_|refine WH ?_)
 | (change PE _ (.Dict _ _ _) _;first|exact XT|exact XU|exact zag (tl:=[0])|refine zeb ?_ ?_|refine zdU hu ?_ ?_)
 | (change PE _ (.BinOp _ _ _ _) _;refine V2 (by first|exact GC|exact zbe|exact zd8|exact WQ|exact WR|exact YW|exact zbf|exact WS|exact WO) ?_ ?_)
 | (change PE _ (.UnaryOp _ _ _) _;refine V5 WV ?_)
 | (change PE _ (.Compare _ _ _ _) _;refine V3 (by first|exact FE hr.units|exact HH hu|exact FO hu|exact HG hu|exact FF hr.units|exact FP hu|exact E8|exact E9|exact yD|exact yB) ?_ ?_)
 | (change PE _ (.BoolOp _ _ _) _;first|refine WC ?_|refine v_and ?_ ?_|refine v_or ?_ ?_)
 | (change PE _ (.IfExp _ _ _ _) _;refine WE ?_ ?_ ?_)
 | (change PE _ (.Attribute _ _ _) _;refine Z1 (by first|exact Y.cls_Plainer|exact Y.cls_Queue|exact Y.cls_Search) (by first|exact Y.na_backs|exact Y.na_begun|exact Y.na_best|exact Y.na_costs|exact Y.na_ends|exact Y.na_grammar|exact Y.na_own|exact Y.na_queue|exact Y.na_reached|exact Y.na_steps|exact Y.na_waiting) ?_)
 | (change PE _ (.ListComp _ _ _ _) _;first|refine f9 (hj:=by rfl) ["sign","signs"] [ae,aa 1] ?_ (λB=>by first|exact dQ|exact jW rfl (fB dQ (fB dQ jV))) (λB=>?_) λB=>?_|refine f9 ["number","rule","name"] [ae,ae,aa 1] ?_ (λB=>?_) (λB=>?_) λB=>?_|refine f9 (hj:=by rfl) ["thing"] [ae] ?_ (λB=>by first|exact dQ|exact jW rfl (fB dQ (fB dQ jV))) (λB=>?_) λB=>?_|refine f9 (hj:=by rfl) ["place","word"] [ae,ae] ?_ (λB=>by first|exact dQ|exact jW rfl (fB dQ (fB dQ jV))) (λB=>?_) λB=>?_|refine f9 ["k","part","own","cut"] [ae,ae,aa 0,aa 2] ?_ (λB=>?_) (λB=>?_) λB=>?_|refine f9 ["fact","found"] [ae,aa 4] ?_ (λB=>?_) (λB=>?_) λB=>?_|refine f9 (hj:=by rfl) ["rule"] [ae] ?_ (λB=>by first|exact dQ|exact jW rfl (fB dQ (fB dQ jV))) (λB=>?_) λB=>?_|refine f9 (hj:=by rfl) ["word"] [ae] ?_ (λB=>by first|exact dQ|exact jW rfl (fB dQ (fB dQ jV))) (λB=>?_) λB=>?_|refine f9 ["fact","best"] [ae,aa 2] ?_ (λB=>?_) (λB=>?_) λB=>?_|refine f9 (hj:=by rfl) ["part","child"] [ae,ae] ?_ (λB=>by first|exact dQ|exact jW rfl (fB dQ (fB dQ jV))) (λB=>?_) λB=>?_|refine f9 (hj:=by rfl) ["rule","name"] [ae,aa 1] ?_ (λB=>by first|exact dQ|exact jW rfl (fB dQ (fB dQ jV))) (λB=>?_) λB=>?_|refine f9 ["fact","grammar","best"] [ae,aa 0,aa 1] ?_ (λB=>?_) (λB=>?_) λB=>?_|refine f9 ["part","fruitful","own"] [ae,aa 1,aa 2] ?_ (λB=>?_) (λB=>?_) λB=>?_|refine f9 ["part","wordy","own"] [ae,aa 4,aa 1] ?_ (λB=>?_) (λB=>?_) λB=>?_|refine f9 (hj:=by rfl) ["rule","first"] [ae,aa 1] ?_ (λB=>by first|exact dQ|exact jW rfl (fB dQ (fB dQ jV))) (λB=>?_) λB=>?_|refine f9 ["part","fruitful","own"] [ae,aa 3,aa 4] ?_ (λB=>?_) (λB=>?_) λB=>?_|refine f9 (hj:=by rfl) ["part"] [ae] ?_ (λB=>by first|exact dQ|exact jW rfl (fB dQ (fB dQ jV))) (λB=>?_) λB=>?_|refine f9 (hj:=by rfl) ["cell"] [ae] ?_ (λB=>by first|exact dQ|exact jW rfl (fB dQ (fB dQ jV))) (λB=>?_) λB=>?_)
 | (change PE _ (.Call (.Name _ _) _ _ _) _;first|refine b6 (zhC Y) Y.x0 hr ?_|refine b6 (zhH Y) Y.x5 hr ?_|refine b6 (zhE Y) Y.x2 hr ?_|refine b6 (zhQ Y) Y.x14 hr ?_|refine b6 (zhK Y) Y.x8 hr ?_|refine b6 (zhX Y) Y.x21 hr ?_|refine b6 (zh0 Y) Y.x24 hr ?_|refine b6 (zhW Y) Y.x20 hr ?_|refine b6 (zhI Y) Y.x6 hr ?_|refine b6 (zhJ Y) Y.x7 hr ?_|refine b6 (zhF Y) Y.x3 hr ?_|refine b6 (zh7 Y) Y.x26 hr ?_|refine b6 (zh8 Y) Y.x27 hr ?_|refine b6 (zh9 Y) Y.x28 hr ?_|refine b6 (zh6 Y) Y.x25 hr ?_|refine b6 (zib Y) Y.x30 hr ?_|refine b6 (zid Y) Y.x32 hr ?_|refine b6 (zhD Y) Y.x1 hr ?_|refine b6 (zif Y) Y.x34 hr ?_|refine b6 (zig Y) Y.x35 hr ?_|refine b6 (zie Y) Y.x33 hr ?_|refine b6 (zic Y) Y.x31 hr ?_|refine b6 (zhG Y) Y.x4 hr ?_|refine b6 (zis Y) Y.x46 hr ?_|refine b6 (zir Y) Y.x45 hr ?_|refine b6 (ziq Y) Y.x44 hr ?_|refine b6 (zio Y) Y.x43 hr ?_|refine b6 (zit Y) Y.x47 hr ?_|refine b6 (zii Y) Y.x37 hr ?_|refine b6 (ziw Y) Y.x50 hr ?_|refine b6 (zij Y) Y.x38 hr ?_|refine b6 (zix Y) Y.x51 hr ?_|refine b6 (ziy Y) Y.x52 hr ?_|refine b6 (ziv Y) Y.x49 hr ?_|refine b6 (ziz Y) Y.x53 hr ?_|refine b6 (ziB Y) Y.x55 hr ?_|refine b6 (ziC Y) Y.x56 hr ?_|refine b6 (ziE Y) Y.x58 hr ?_|refine b6 (ziG Y) Y.x60 hr ?_|refine b6 (ziH Y) Y.x61 hr ?_|refine b6 (ziI Y) Y.x62 hr ?_|refine b6 (ziu Y) Y.x48 hr ?_|refine b6 (ziA Y) Y.x54 hr ?_|refine b6 (ziD Y) Y.x57 hr ?_|refine b6 (ziK Y) Y.x64 hr ?_|refine b6 (ziJ Y) Y.x63 hr ?_|refine b6 (zia Y) Y.x29 hr ?_|refine b6 (ziF Y) Y.x59 hr ?_|refine b6 (zih Y) Y.x36 hr ?_|refine rF (XO rfl) (by rfl) Y.all_ ZC ?_|refine rF (ZL rfl) (by rfl) Y.any_ ZD ?_|refine rF (ZU rfl) (by rfl) Y.sorted_ ZE ?_|refine rF YU (by rfl) Y.isinstance_ ZA ?_|refine rF XH (by rfl) Y.len_ Y7 ?_|refine lB (ZZ rfl) (by rfl) Y.dict_ yX ?_|refine lB (Z0 rfl) (by rfl) Y.dict_ yX ?_|refine lB (zcp rfl (zA hr)) (by rfl) Y.dict_ yX ?_|refine lB (FR rfl) (by rfl) Y.list_ uR ?_|refine lB (YX rfl) (by rfl) Y.list_ uR ?_|refine lB (zam (tl:=[0]) rfl) (by rfl) Y.list_ uR ?_|refine lB (zar rfl) (by rfl) Y.list_ uR ?_|refine lB XN (by rfl) Y.str_ Y8 ?_|refine lB XM (by rfl) Y.tuple_ GI ?_|refine KS (i:=3) Y.f_same_word (zhZ Y) hr Y.x23.fn.kp Y.x23.bi ?_|refine KS (i:=4) Y.f_knot_of (zhY Y) hr Y.x22.fn.kp Y.x22.bi ?_|exact GY Y.x39.mak (zik Y) (hr.mono ∅) (by rfl) Y.at__Plainer Y.x39.bi|exact GY Y.x9.mak (zhL Y) (hr.mono ∅) (by rfl) Y.at__Queue Y.x9.bi|refine Z4 Y.x15.mak (zhR Y) (hr.mono ∅) (by rfl) Y.at__Search Y.x15.bi ?_|refine zc0 (by rfl) Y.list_ (by rfl) Y.range_ ?_|refine zaq (by rfl) Y.tuple_ (by rfl) Y.range_ ?_|refine zgr (by rfl) Y.list_ (by rfl) Y.reversed_ ?_|refine zaA (zA hr) (by rfl) Y.dict_ (by rfl) Y.zip_ ?_|refine E4 (MT Y n) (hr.mono (by lia)) (by rfl) Y.x58.at_ Y.x58.fn.kp Y.x58.bi ?_|refine ZQ (by rfl) Y.list_ (by rfl) Y.reversed_ ?_)
 | (change PE _ (.Call (.Attribute _ _ _) _ _ _) _;first|refine oE Y.cls_Queue Y.x11.me (zhN Y) (hr.mono ∅) Y.x11.bi ?_ ?_|refine oE Y.cls_Queue Y.x12.me (zhO Y) (hr.mono ∅) Y.x12.bi ?_ ?_|refine oE Y.cls_Search Y.x16.me (zhS Y) (hr.mono ∅) Y.x16.bi ?_ ?_|refine oE Y.cls_Search Y.x17.me (zhT Y) (hr.mono ∅) Y.x17.bi ?_ ?_|refine oE Y.cls_Search Y.x18.me (zhU Y) (hr.mono ∅) Y.x18.bi ?_ ?_|refine oE Y.cls_Plainer Y.x40.me (zil Y) (hr.mono ∅) Y.x40.bi ?_ ?_|refine oE Y.cls_Plainer Y.x41.me (zim Y) (hr.mono ∅) Y.x41.bi ?_ ?_|refine uX Y.cls_Queue Y.x13.me (zhP Y) (hr.mono ∅) Y.x13.bi ?_|refine uX Y.cls_Queue Y.x10.me (zhM Y) (hr.mono ∅) Y.x10.bi ?_|refine uX Y.cls_Search Y.x19.me (zhV Y) (hr.mono ∅) Y.x19.bi ?_|refine uX Y.cls_Plainer Y.x42.me (zin Y) (hr.mono ∅) Y.x42.bi ?_|refine mM Of F.slot_dict_get F.type_dict_get (Z8 hu) ?_ ?_|refine mM Of F.slot_dict_pop F.type_dict_pop (zab hu) ?_ ?_|refine mM Of F.slot_dict_setdefault F.type_dict_setdefault (Z9 hu) ?_ ?_|refine mM Ms F.slot_list_append F.type_list_append XQ ?_ ?_|refine mM Ms F.slot_list_extend F.type_list_extend XR ?_ ?_|refine mM Ms F.slot_list_insert F.type_list_insert zaE ?_ ?_|refine mM Ms Qd F.type_list_pop zd9 ?_ ?_|refine mM F.plainAttrs_str F.slot_str_partition F.type_str_partition m_partition ?_ ?_|refine WI Ms Qd F.type_list_pop XS ?_|refine zaj (zA hr) ?_ ?_ ?_|refine zal ?_)
 | (change PS _ (.Assign [.Name _ _] (.ListComp _ _ _ _) _) _;first|refine uN nd ["rule","fruitful","own"] [ae,aa 2,aa 1] ?_ (λB=>?_) (λB=>?_) λB=>?_|refine uN nd ["some","pieces","part","wordy","own"] [ae,ae,aa 5,aa 2,aa 1] ?_ (λB=>?_) (λB=>?_) λB=>?_|refine uN nd ["some","pieces","part","empties"] [ae,ae,aa 5,aa 3] ?_ (λB=>?_) (λB=>?_) λB=>?_|refine uN nd ["part","told"] [ae,aa 2] ?_ (λB=>?_) (λB=>?_) λB=>?_)
 | (change PS _ (.Assign [.Name _ _] _ _) _;refine XY nd ?_)
 | (change PS _ (.Assign [.Attribute _ _ _] _ _) _;refine Z2 (by first|exact Y.cls_Plainer|exact Y.cls_Queue|exact Y.cls_Search) (by first|exact Y.na_backs|exact Y.na_begun|exact Y.na_best|exact Y.na_costs|exact Y.na_ends|exact Y.na_grammar|exact Y.na_own|exact Y.na_queue|exact Y.na_reached|exact Y.na_steps|exact Y.na_waiting) ?_ ?_)
 | (change PS _ (.Assign _ _ _) _;refine XX ?_ ?_)
 | (change PS _ (.If _ _ _ _) _;refine X7 ?_ ?_ ?_)
 | (change PS _ (.For _ _ _ _ _) _;first|refine YA PassesOwn.never rfl ?_ ?_ ?_|refine s_fzL ?_)
 | (change PS _ (.While _ _ _ _) _;refine X9 PassesOwn.never ?_ ?_)
 | (change PS _ (.Expr _ _) _;refine X4 ?_)
 | (change PS _ (.Return _ _) _;first|refine X5 ?_|exact X6)
 | exact X8
 | (change PT _ (.Compare _ _ _ _) _;first|refine ZK yD yB ?_ ?_ ?_|refine V4 (by first|exact FE hr.units|exact HH hu|exact FO hu|exact HG hu|exact FF hr.units|exact FP hu|exact E8|exact E9|exact yD|exact yB) ?_ ?_)
 | (change PT _ (.BoolOp _ _ _) _;refine PW.pt ?_)
 | (change PT _ (.UnaryOp _ _ _) _;refine WB ?_)
 | (change PT _ _ _;refine V6 ?_)
 | (change PW _ _ _;first|refine V7 ?_|refine V8 ?_|refine V9 ?_ ?_|refine WA ?_ ?_)
 | (change PG _ (.Name _ _) _;first|exact FU nd|exact dQ)
 | (change PG _ (.Tuple _ _ _) _;refine jW rfl ?_)
 | (change PG _ _ _;refine w_sub hu ?_ ?_)
 | (change iJ _ _ _;first|refine fB ?_ ?_|exact jV)
 | (change iM _ _ _;first|exact YN|refine YO ?_)
 | (change PO _ _ _;first|exact XB|refine XC ?_)
 | (change PI _ _ _ _;first|refine ZP (by rfl) Y.zip_ ?_|refine YL (by rfl) Y.range_ ?_|refine YM (by rfl) Y.range_ ?_|refine ZM (by rfl) Y.enumerate_ ?_|refine zdY (by rfl) Y.enumerate_ ?_|refine zea (by rfl) Y.reversed_ ?_|refine zd3 ?_|refine YK ?_|refine YJ ?_|refine zco ?_|refine zfk ?_))
def zhC:=bN P w mg base 0 Y.x0.fn Y.x0.bi zby
def zhD:=bN P w mg base 1 Y.x1.fn Y.x1.bi zbB
def zhE:=bN P w mg base 0 Y.x2.fn Y.x2.bi zbC
def zhF:=bN P w mg base 0 Y.x3.fn Y.x3.bi zbD
def zhG:=bN P w mg base 0 Y.x4.fn Y.x4.bi zeC
def zhH:=bN P w mg base 0 Y.x5.fn Y.x5.bi zb5
def zhI:=bN P w mg base 0 Y.x6.fn Y.x6.bi zc5
def zhJ:=bN P w mg base 0 Y.x7.fn Y.x7.bi zc7
def zhK:=bN P w mg base 0 Y.x8.fn Y.x8.bi zfa
def zhL:=bN P w mg base 0 Y.x9.fn Y.x9.bi za9
def zhM:=bN P w mg base 0 Y.x10.fn Y.x10.bi za8
def zhN:=bN P w mg base 0 Y.x11.fn Y.x11.bi zba
def zhO:=bN P w mg base 1 Y.x12.fn Y.x12.bi zbb
def zhP:=bN P w mg base 0 Y.x13.fn Y.x13.bi zbc
def zhQ:=bN P w mg base 0 Y.x14.fn Y.x14.bi zb6
def zhR:=bN P w mg base 2 Y.x15.fn Y.x15.bi zcf
def zhS:=bN P w mg base 2 Y.x16.fn Y.x16.bi zb7
def zhT:=bN P w mg base 3 Y.x17.fn Y.x17.bi zcc
def zhU:=bN P w mg base 3 Y.x18.fn Y.x18.bi zca
def zhV:=bN P w mg base 4 Y.x19.fn Y.x19.bi zcd
def zhW:=bN P w mg base 5 Y.x20.fn Y.x20.bi zch
def zhX:=bN P w mg base 1 Y.x21.fn Y.x21.bi zfd
def zhY:=bN P w mg base 0 Y.x22.fn Y.x22.bi ze6
def zhZ:=bN P w mg base 0 Y.x23.fn Y.x23.bi ze5
def zh0:=bN P w mg base 2 Y.x24.fn Y.x24.bi zfg
def zh6:=bN P w mg base 3 Y.x25.fn Y.x25.bi ze7
def zh7:=bN P w mg base 6 Y.x26.fn Y.x26.bi zfw
def zh8:=bN P w mg base 0 Y.x27.fn Y.x27.bi zcL
def zh9:=bN P w mg base 1 Y.x28.fn Y.x28.bi zfB
def zia:=bN P w mg base 7 Y.x29.fn Y.x29.bi zfC
def zib:=bN P w mg base 1 Y.x30.fn Y.x30.bi zcX
def zic:=bN P w mg base 6 Y.x31.fn Y.x31.bi zda
def zid:=AY (len:=zhm) P w mg base 0 Y.x32.fn Y.x32.bi sH zhk λhr hu nd=>by walk_at "t"
def zie:=bN P w mg base 1 Y.x33.fn Y.x33.bi zhs
def zif:=bN P w mg base 2 Y.x34.fn Y.x34.bi zhr
def zig:=bN P w mg base 3 Y.x35.fn Y.x35.bi zht
def zih:=bN P w mg base 4 Y.x36.fn Y.x36.bi zhu
def zii:=bN P w mg base 1 Y.x37.fn Y.x37.bi zdD
def zij:=bN P w mg base 0 Y.x38.fn Y.x38.bi zdE
def zik:=bN P w mg base 0 Y.x39.fn Y.x39.bi zdF
def zil:=bN P w mg base 0 Y.x40.fn Y.x40.bi zdG
def zim:=bN P w mg base 0 Y.x41.fn Y.x41.bi zfo
def zin:=bN P w mg base 0 Y.x42.fn Y.x42.bi zdJ
def zio:=bN P w mg base 2 Y.x43.fn Y.x43.bi zeJ
def ziq:=bN P w mg base 7 Y.x44.fn Y.x44.bi zf1
def zir:=bN P w mg base 7 Y.x45.fn Y.x45.bi zf4
def zis:=bN P w mg base 0 Y.x46.fn Y.x46.bi zf7
def zit:=bN P w mg base 1 Y.x47.fn Y.x47.bi zf8
def ziu:=bN P w mg base 8 Y.x48.fn Y.x48.bi zga
def ziv:=bN P w mg base 1 Y.x49.fn Y.x49.bi zgg
def ziw:=bN P w mg base 0 Y.x50.fn Y.x50.bi zeD
def zix:=bN P w mg base 1 Y.x51.fn Y.x51.bi zeH
def ziy:=bN P w mg base 1 Y.x52.fn Y.x52.bi zeE
def ziz:=bN P w mg base 2 Y.x53.fn Y.x53.bi zeI
def ziA:=bN P w mg base 7 Y.x54.fn Y.x54.bi zgh
def ziB:=bN P w mg base 0 Y.x55.fn Y.x55.bi zdP
def ziC:=bN P w mg base 0 Y.x56.fn Y.x56.bi zdO
def ziD:=bN P w mg base 2 Y.x57.fn Y.x57.bi zdQ
theorem MT(Y:Al K mg C fa fb):∀n,iW P w K mg base eW (1+n) (fa 58) (fb 58) ["pieces","rows"] (fS K (sO n))
 | 0=>yR (k:=0) Y.x58.fn (sH (N:=MH)) (λ_ _ _ h=>h.elim) λ_ _ _ _ _ _ _ _ _ _ h=>h.elim
 | n+1=>zdR P w mg base (1+n) Y.x58.fn Y.x58.bi sH (zhn (n+1)) zhl λhr hu nd=>by walk_at "t"
def ziE:=MT (P:=P) (w:=w) (base:=base) Y 60
def ziF:=bN P w mg base 61 Y.x59.fn Y.x59.bi zhp
def ziG:=AY (len:=zbw) P w mg base 0 Y.x60.fn Y.x60.bi sH zbE λhr hu nd=>by walk_at "t"
def ziH:=bN P w mg base 0 Y.x61.fn Y.x61.bi zhw
def ziI:=bN P w mg base 1 Y.x62.fn Y.x62.bi zhy
def ziJ:=bN P w mg base 0 Y.x63.fn Y.x63.bi zhx
def ziK:=bN P w mg base 0 Y.x64.fn Y.x64.bi zhz
def ziL:=bN P w mg base 62 Y.x65.fn Y.x65.bi zhB
end
section
variable {w:Bv}{h:Dz}{mg:Av->Option Ae}
theorem nA{K:Ac}{C:Am}{f:Av}(h:Fv K (.ref C) f=aa ae:=by kernel_rfl):fH K C f:=h
theorem mv{x:Av}{v:Ae}(X:(hpK w.params).In h)(G:h.Ns Em mg)(e:Tq (hpK w.params) Em x=aa (aa v):=by kernel_rfl):mg x=aa v:=Ky X G e
theorem mn{x:Av}(X:(hpK w.params).In h)(G:h.Ns Em mg)(e:Tq (hpK w.params) Em x=aa ae:=by kernel_rfl):mg x=ae:=PySem.W.mg_none_of X G e
theorem ziM(X:(hpK w.params).In h)(G:h.Ns Em mg):Tx mg:=#[#[625,Ky (v:=.int 10000 625) X G (by kernel_rfl)],#[227,Ky (v:=.str "0123456789" 227) X G (by kernel_rfl)],#[225,Ky (v:=.str "ABCDEFGHIJKLMNOPQRSTUVWXYZ" 225) X G (by kernel_rfl)],#[623,Ky (v:=.str "whole" 623) X G (by kernel_rfl)],mn X G,mn X G,mn X G,mn X G,mn X G,mn X G,mn X G,mn X G,mn X G,mn X G,mn X G,mn X G,mn X G,mn X G]
theorem ziN(X:(hpK w.params).In h)(G:h.Ns Em mg):Kc (hpK w.params) mg #[137,193,223,230,356,0,0,0,0]:=#[#[by kernel_rfl,by kernel_rfl,by kernel_rfl,by kernel_rfl],mv X G,#[by kernel_rfl,by kernel_rfl,by kernel_rfl,by kernel_rfl],mv X G,#[by kernel_rfl,by kernel_rfl,by kernel_rfl,by kernel_rfl],mv X G,nA,nA,nA,nA,nA,nA,nA,nA,nA,nA,nA]
def MU(i:Nat):Fs:=(dL i).fd
theorem ziO(X:(hpK w.params).In h)(G:h.Ns Em mg):Al (hpK w.params) mg #[137,193,223,230,356,0,0,0,0] B2 MU:=by
 refine#[ziM X G,ziN X G,?_,?_,?_,?_,?_,?_,?_,?_,?_,?_,?_,?_,?_,?_,?_,?_,?_,?_,?_,?_,?_,?_,?_,?_,?_,?_,?_,?_,?_,?_,?_,?_,?_,?_,?_,?_,?_,?_,?_,?_,?_,?_,?_,?_,?_,?_,?_,?_,?_,?_,?_,?_,?_,?_,?_,?_,?_,?_,?_,?_,?_,?_,?_,?_,?_,?_,rfl,rfl]<;>first|exact dF X G|exact dM|exact dI
end
theorem ziP{l:Rr}{w:Bv}{h:Dz}{mg:Av->Option Ae}{fa:Am}(X:(hpK w.params).In h)(G:h.Ns Em mg)(hfa:mg "law" = aa (.ref fa)):
  ∃fd:Fs,(∀(s:Ak) (v:Ae),Ul s fd #[[v],[]] [("script",v)])/\∀base:Dz,(hpK w.params).In base->base.Ns Em mg->iW l.prog w (hpK w.params) mg base eW 63 fa fd ["script"] (fS (hpK w.params) rP):=by
 let e:=hfa.symm.trans (Ky (v:=.ref 505) X G (by kernel_rfl));cases e;show#[MU 65,λs v=>.of_eq rfl,λbase _ _=>ziL (ziO X G)]
theorem ziQ{l:Rr}{q:Be}{loose:↑Av}{XP:(Av->Option Ae)->Dz->Prop}{YP:Bv->Dz->Prop}{d:DefRec}{K:Ts->Ac}(hn:l.most=aa 63)(hdf:d.params.defaults=[])(hY:∀(w:Bv) (h:Dz),YP w h->(K w.params).In h)(F:∀(w:Bv) (mg:Av->Option Ae) (fa:Am) (h:Dz),(K w.params).In h->h.Ns Em mg->mg d.name=aa (.ref fa)->
   ∃fd:Fs,(∀(s:Ak) (u:Ae),Ul s fd #[[u],[]] [("script",u)])/\∀base:Dz,(K w.params).In base->base.Ns Em mg->iW l.prog w (K w.params) mg base eW 63 fa fd ["script"] (fS (K w.params) rP)):
  PySem.W.WalkO q loose XP YP l.row.toRowW d [] (λf vs=>Vb f vs):=
 L2.T9 (n:=63) (k:=63) (x:="script") (CX:=λ_=>eW) (sp:=λw=>fS (K w.params) rP) hn ∅ hdf #[rfl,by decide,by decide] hY F (λ_ _ a ns hl ho hS=>YQ hl ho hS) λ_ _ _ _ _ z=>z
end L2
open PySem PySem.W PyProof.Rows
set_option maxRecDepth 100000 in
set_option maxHeartbeats 0 in
theorem PySem.Challenge.cw_readgrove_k93_whole_plainer_ones_read_al_holds : PySem.Challenge.rw_readgrove_k93_whole_plainer_ones_read_al.Holds := by
 w_on; refine PySem.W.holds_law L2.M8 λsaid => ?_
 refine PySem.W.holds_open (r := Xf.row) (q := L2.qv) (loose := []) (N := 6446)
  (Xt := λs => xlAt L2.qv [] s&&recOk (Rk (Pk Xf.row)) s)
  (XP := XL L2.qv []) (Yf := L2.hk.obs) (Ya := L2.hk.val) (YP := L2.hk.says) ?hl L2.hk.of L2.hk.keeps
  (λs e => xl_of s (Bool.and_eq_true_iff.mp e).1) XL.keeps (by rfl) (by rfl) (by rfl) (λs e => recFacts_of (Bool.and_eq_true_iff.mp e).2)
  (by rfl) (by assumption) (by decide +kernel) #[rfl, rfl, rfl, rfl, rfl, by decide +kernel] ?hw ?hc
 case hw => w_witness2
 case hc => exact L2.ziQ (l := Xf) rfl rfl (λw h Y => PySem.W.kIn_of Y) (λw mg fa h KX G hmg => L2.ziP KX G hmg)
 case hl => exact L2.M9
