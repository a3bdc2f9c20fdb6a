import PyProof.Rows.All
import KE.KDictOf
import KE.KEqDict
import KE.KFromBytes
import KE.KIntText
import KE.KItem
import KE.KItemsList
import KE.KLam
import KE.KPairComp
import KE.KRevIter
import KE.KTryMore
import PySem.Challenge.RW_readgrove_k62_refused_with_empty_rules
open PySem.Challenge renaming rw_readgrove_k62_refused_with_empty_rules->Va,pw_readgrove_k62_refused_with_empty_rules->Vb
open PySem renaming wpAny_bind->Aa,Value->Ae,wpAny_pure->Af,Shared->Ah,Addr->Aj,sizeLine->Ao,Program->Ar,Str->Aw,World->Bk,wpAny->Bl,Expr->Cb,starEach->Cj,wpAny_call_entry->Ck,Around->Cn,wpAny_callSpecial?_slot->Cp,model->Cq,Heap->Cr,bootBuiltins->Cs,wpAny_newObj_type->Cz,wpAny_field->De,wpAny_holding->Dh,compareOp->Dj,wpAny_Call_Name_kw->Dv,mainGlobals->Dw,FuncData->Dz,DictEntry->Ec,wpAny_seqItems->Ed,binaryOp->Ee,eval->El,cLine->Ex,wpAny_setField_rec->Ez,tupleKind_room_in1->Fb,sysModules->Fc,Paired->Ff,wpAny_mono->Fo,wpAny_isInstance->Fq,attributeBase->Fx,wpAny_rule->Ga,Builtin->Gg,wpAny_notOrdered_dict->Gh,builtinLookup_eq_fast->Gi,wpAny_attempt->Gm,Stmt->Gn,tupleKind->Gw,foldedSetIterable->Gx,Pos->Gy,rawInt->Gz,pyNext->Hg,wpAny_tupleItemsOf->Hm,assignEach->Hn,IsPair->Ht,wpAny_specialOf->Hu,wpAny_execs_nil->Hv,mem_of_lookup->Hw,wpAny_dictEntries->Hx,swapsWith->Ig,wpAny_typeNameOfWhole_valiter->Ik,wpAny_typeNameOfWhole_keyiter->Il,call_meetsIn->Ir,wpAny_passesOwn->Iw,typeLookup_type->Iy,isSubtype_tuple_tuple->Jc,wpAny_truthy_bool->Je,holding->Jf,wpAny_of_eq->Jn,sizeLine_eq->Jo,Scope->Jp,NameKind->Jr,wpAny_forIn_list->Jw,wpAny_typeNameOf_valiter->Kh,wpAny_typeNameOf_keyiter->Ki,size_of_entries->Kk,codeAny_builtin->Kl,call_meets->Ks,keywordEach->Kv,wpAny_pyIter_list->Ky,firstArgMember->Kz,codeAny_mono->La,Obj->Lc,atKey->Li,wpAny_items_cons->Lm,wpAny_execs_cons->Ln,wpAny_eqBool_int->Lo,strLen_append->Ls,behindInMarks->Lu,sliceBounds->Ly,backTo->Me,wpAny_typeOf->Mo,wpAny_richCompare_same_room->Mp,storedH->Mq,codeAny->Mr,wpAny_setField->Na,wpAny_pyIter_tuple->Nb,getattributeRaised->Nc,PyData->Ng,wpAny_pyIter_enum->Nr,plainId_quiet->Nv,assign->Nw,backToKw->Og,typeOf->Ox,typeLookup->Oy,PlainAttrs->Pa,wpAny_dictEpoch->Pc,letOwnedTupleGo->Pd,wpAny_isOneOf_valiter->Pe,wpAny_updateSeq_pair->Po,wpAny_pyIter_keyiter->Pp,isSubtype_type->Pq,isSubtype_stop->Pr,standAt->Pu,getMethod->Pw,PassesOwn->Py,Keyword->Pz,wpAny_standAt->Qh,wpAny_onRaise->Qi,field->Qj,IsZip->Qn,ExceptHandler->Qo,wpAny_dictSet_heap->Qp,isInstance->Qq,entryOfKey->Qr,wpAny_pyIter_slot->Qy,valueAt->Qz,callerA->Ra,wpAny_Dict_empty->Rg,pyIter->Rh,noFill_tuple_add->Ri,Params->Rk,IsPart->Rl,wpAny_letGo->Rn,storedH_new->Ro,Model->Rq,importedModules->Ru,Sem->Rw,Within->Rx,getItem->Sf,BindsTo->Sk,entry_at->Sl,carriedByValue->Sn,wpAny_handled->Ss,seq_tuple_add->Su,rangeSize_one->Sv,call->Sx,treeTable->Sz,bindL->Ta,bindC->Tb,stored->Te,newExc->Tf,isTrue->Tg,concat_meets->Th,call_range_1->Ti,Tok->Tj,Result->Tn,ItemsOf->To,wpAny_throw->Tu,seqIndex_of->Tv,handleBy->Tw,getAttr?->Tz,entryFor->Ua,callWith->Ub,wpAny_call->Uc,wpAny_Name->Ud,typeIs_str->Ue,typeIs_int->Ug,reduceHash->Uh,closureFor->Ui,builtinsNs->Uj,unaryOp->Uk,setItem->Ul,putAt->Um,dictSet->Uo,seqIndex?->Ur,eqIsQuiet->Us,cellsFrom->Ut
open List renaming length_map->Ab,length_append->Ak,mem_singleton->Am,getElem?_eq_some_iff->An,getElem?_map->Ap,mem_of_getElem?->Ay,map_append->Az,mem_append->Ba,mem_cons_of_mem->Bb,mem_map->Bc,mem_cons->Bd,map_cons->Be,mem_append_left->Bg,mem_cons_self->Bi,size_toArray->Bj,map_map->Bm,getElem?_eq_getElem->Bp,take_length->Br,mem_append_right->Bs,length_cons->Bu,take_add_one->Bw,replicate->Bz,length_take->Ca,range->Cd,lookup->Ce,length_singleton->Cf,append_nil->Dc,nodup_cons->Dl,find?_cons->Dn,append_assoc->Ds,lookup_cons->Dx,map_congr_left->Eg,getElem?_cons_succ->Ej,nodup_append->Ek,mem_filter->Ep,any_cons->Er,replicate_succ->Es,filterMap_cons->Eu,length_replicate->Ew,nodup_nil->Ey,filter_cons->Fn,length_range->Ft,foldl_cons->Fw,eq_nil_or_concat->Gb,concat_eq_append->Gd,any_eq_true->Ge,all_eq_true->Gf,length_eq_zero_iff->Gp,flatten_cons->Gq,mem_zipIdx_iff_getElem?->Gs,map_eq_nil_iff->Gv,not_mem_nil->Hc,mem_nil_iff->Hd,length_drop->He,nodup_iff_pairwise_ne->Hf,mem_range->Hz,length->Ia,forIn_cons->Ii,length_filter_le->Iq,foldl_append->Iu,getElem?_append_right->Jb,drop_eq_getElem_cons->Jl,all_cons->Jv,mem_filterMap->Ka,filterMap_map->Kb,take_of_length_le->Ko,map_nil->Kq,zipIdx_cons->Kw,mem_of_mem_take->Lf,map->Lg,nil_append->Lj,length_nil->Lk,length_pos_iff->Lq,getElem?_range->Lr,any_map->Lw,zip_cons_cons->Lz,map_singleton->Ma,forIn_nil->Mb,pairwise_iff_getElem->Mi,getLastD_eq_getLast?->Mj,pairwise_map->Mw,any_eq_false->Mx,perm_middle->Ni,append_eq_nil_iff->Nt,all_map->Nu,getElem?_eq_none->Of,getElem?_set_ne->Ot,getElem?_of_mem->Ou,getElem_mem->Ql,of_mem_zip->Qw,map_drop->Rr,foldl->Tc,getD->Tt
open PySem.W renaming Frag->Ac,exmOne->Dq,keepIn->Em,findIn->Fe,fnOf->Fh,emptyDict->Fp,exm_cls->Fs,instObj->Hj,Looks->Ib,mg_of->Jj,callWith_K->Jq,kitOne->Kd,codeIn->Ke,plainGet->Ms,isFn->Nd,hideAll->Nh,lookIn->Nx,plainGet_of->Oh,hideAll_get->Oi,methodObj->Pf,hasDictIn->Pg,takerIn->Qa,makesIn->Qb,OpenLaw->Qc,excIn->Rb,nsIn->Rj
open PySem.Heap renaming get?_push_of_some->Ag,get?_push_size->Au,lt_size->Bh,SameBut->Eh,size_push->Gk,get?_update_self->Hi,get?_update_other->Kr,ExtBut->Ov,FlyingW->Si,IsTuple->Uq
open Nat renaming le_refl->Ai,le_trans->Bf,ne_of_lt->Bo,lt_of_lt_of_le->Bx,ne_of_gt->Co,zero_le->Ea,lt_of_le_of_lt->Fl,le_succ->Fz,lt_trans->Gj,toDigits->Hq,le_of_lt->Hr,lt_irrefl->Im,lt_succ_self->Jk,lt_of_succ_lt->Kt,toDigits_of_lt_base->Nm,succ_le_succ->Nn,min_le_left->Oe,add_le_add_left->Ph,add_assoc->Pm,zero_add->Qe,lt_succ_of_lt->Qf,le_of_eq->Qg,min_le_right->Qv,le_add_left->Rc,digitChar->Rz,log2_lt->Sy
open Bool renaming false_ne_true->Av,false_eq_true->Cm,and_eq_true->Cy,eq_iff_iff->Dy,not_true->Ha,not_not->Ie,or_true->Lx,not_false->Mc,false_and->Md,false_or->Mz,true_and->Pk,or_eq_true->Qx
open Option renaming map_eq_some_iff->Ax,isSome_iff_exists->Eb,toList_some->Hb,isSome_map->Mh,map_some->Nl
open False renaming elim->Bn
open Ne renaming symm->Bq
open PySem.Str renaming ofString->Bv,empty->Qt
open PyProof.Rows renaming callWith_type1->Cg,slot_tuple_getitem->Jt,envOfC->Lp,AllBare->My,IntsAre->Tq
open Option.some renaming inj->Ci
open PySem.Builtin.SmallTypes renaming ownedTupleIsFree->Ct,nextOf->Cv,stopIteration->Iv
open PySem.Paired renaming length->Cu,snoc->Sg
open PySem.Txt renaming partition->Cw,mul->Hy,upper->Qs
open List.cons renaming injEq->Dk
open Int renaming toNat_natCast->Du,emod_lt_of_pos->Eo,emod_nonneg->Fj,eq_ofNat_of_zero_le->Np,natCast_add->Rf,zero_add->So,le_trans->Sq,not_lt->Ts
open Prod renaming fst->Ef,snd->Ju,ext->Oq
open PySem.Builtin.Tuple renaming tupleHashOf->Ei,tupleExact->Fu
open PySem.F renaming slot_dict_valueiterator_next->Fd,slot_dict_keyiterator_next->Fi,slot_zip_next->Hs,slot_tuple_iterator_next->Jm,slot_tuple_hash->Js,entry_dict_get->Kf,slot_tuple_eq->Km,slot_dict_get->Kn,slot_dict_setdefault->Lb,args_tuple_add_2->Mg,plainAttrs_dict->Mu,entry_tuple_add->Mv,slot_tuple_add->Nf,plainAttrs_list->Nj,args_zip_next_1->Nk,slot_list_getattribute->Nq,slot_zip_getattribute->Oa,entry_zip_next->Ob,slot_list_pop->Ow,args_object_init_2->Pj
open Array renaming getElem?_toList->Fg,length_toList->Gu,toArray_toList->Ho,getElem?_eq_some_iff->Iz,forIn_toList->Jz,toList_append->Pb
open PySem.Heap.SameBut renaming update->Fm
open PySem.Builtin.Dict_items renaming ownsTuple->Fv
open PySem.Builtin.Range renaming rangeSize->Hk
open PySem.Around renaming under_plainId->Hl,under->Rt
open Prod.mk renaming injEq->Ic,inj->Ny
open PySem.Obj renaming data_mapFields->Ih,data_mapDictKeys->Lh,isFreed_of_fields->Ol,mapSeq->Pt,cls_mapFields->Qd,mapFields->Ry
open PySem.Builtin.Slice renaming slicePlaces->Ij,sliceAdjust->Ld
open PySem.PyData renaming depth->Ja,eqv->Lv,eqvAll->Oz,depthAll->Qk,strOk->Rp
open PySem.Builtin.Dict renaming updateFrom->Jd,showsAll->Jy,keyAndDefault->Kx
open PySem.Builtin.Str renaming occurrences->Jg,strSub->Oc
open PySem.AutoSeq1 renaming wpAny_loadPart'->Jh
open PySem.Spec renaming part->Ji
open PySem.Calls renaming spliced_cons->Jx,callWith_builtin->Kj,spliced_nil->Ml,evalArgs_plain->Om
open List.Perm renaming append_left->Kg
open Function renaming comp->Ku
open PySem.Builtin.List renaming listTooLong->Ll
open Sum.inl renaming injEq->Mf
open PySem.W.OpenRow renaming toRowW->Nz
open PySem.W.KT renaming len_num->Od
open PySem.W.Looks renaming ld->Oj
open Sum.inr renaming injEq->Oo
open PySem.W.RowW renaming records->Px
open PySem.IsRange renaming new->Sa
open PySem.Code renaming isFrame->Sj
open PySem.Walks renaming list->Sw
open Char renaming toNat->Td
open PyProof.Rows.IsTup renaming new->Tp
open PySem.SeqAt renaming EqAt->Uu
theorem Uv.{u}{c:Prop}{h:Decidable c}(n:¬c){y:Sort u}{t e:y}:ite c t e=e:=if_neg n
theorem Uw.{u}{c:Prop}{h:Decidable c}(n:c){y:Sort u}{t e:y}:ite c t e=t:=if_pos n
theorem Ux{p:Prop}[Decidable p](h:decide p=true):p:=of_decide_eq_true h
theorem Uy{p:Prop}[Decidable p](h:p):decide p=true:=decide_eq_true h
theorem Uz{p:Prop}[Decidable p](h:¬p):decide p=false:=decide_eq_false h
set_option Elab.async false
set_option compiler.extract_closed false
set_option bootstrap.genMatcherCode false
set_option linter.all false
noncomputable section
set_option genSizeOf false
set_option maxRecDepth 100000
open PySem Spec PyProof.Rows
namespace L2
open PySem Spec PyProof.Rows
def dS(s:Gn)(j:Nat):Gn:=match s with
 | .ClassDef _ _ _ O _ _ _ _ _ _ _=>O.getD j (.Pass ⟨0,0,0,0⟩)
 | _=>.Pass ⟨0,0,0,0⟩
def iR(s:Gn):Arguments:=match s with
 | .FunctionDef _ a _ _ _ _ _ _ _ _=>a
 | _=>{posonlyargs:=[],args:=[],vararg:=none,kwonlyargs:=[],kw_defaults:=[],kwarg:=none,defaults:=[]}
def fX(s:Gn):List Gn:=match s with
 | .FunctionDef _ _ b _ _ _ _ _ _ _=>b
 | _=>[]
def dN(s:Gn):Jp:=match s with
 | .FunctionDef _ _ _ _ _ _ sc _ _ _=>sc
 | _=>{kind:=.function,names:=[],isGenerator:=false,isCoroutine:=false}
end L2
namespace L2
open PySem Spec PyProof.Rows L2
structure Q5 where
 x:String
 q:String
 s:Gn
 m:Ae
 b:Bool
 r:Nat
 t:Nat
 l:Int
 n:Int
 k:Nat
def top(i:Nat):Gn:=Vb.main.body.getD i (.Pass ⟨0,0,0,0⟩)
def en(P:Rk)(x:String)(t:Tj)(v:Ae):Ec:=⟨PyData.keyHash P (Bv x),.str (Bv x) t,v⟩
abbrev sT(x:String)(t:Tj):Ae:=.str (Bv x) t
abbrev cO(x:String)(a:Tj)(q:String)(b c:Tj)(l n:Int)(r:Aj)(u v w y z:Ae)(k:Int)(d:Tj):Lc:=⟨.type "code",none,.fields #[sT x a,sT q b,sT "/claim/cut.py" c,.int l 0,.int n 0,.int 0 0,.int 0 0,.int 3 0,.ref r,.bool true,.int 181 0,u,v,w,y,z,.int k 0,.int l 0,sT "/claim/cut.py" d],#[]⟩
abbrev fO(x q:Aw)(s:Gn)(m c:Ae):Dz:=Fh x q (iR s) (fX s) (dN s) .none .none .none m none c .none
abbrev m0:Ae:=sT "readgrove.grammars" 303
abbrev m1:Ae:=sT "readgrove.covers" 364
abbrev m2:Ae:=sT "readgrove.queues" 391
abbrev m3:Ae:=sT "readgrove.leasts" 459
abbrev m4:Ae:=sT "readgrove.spans" 623
abbrev m5:Ae:=sT "readgrove.nexts" 640
abbrev m6:Ae:=sT "readgrove.plainer" 659
abbrev m7:Ae:=sT "law_readgrove_k62_refused_with_empty_rules" 880
def Q5.c(d:Q5):Aj:=d.r+(if d.b then 3 else 5)
abbrev Q5.fd(d:Q5):Dz:=fO d.x d.q d.s d.m (.ref d.c)
def Q5.g(d:Q5)(i:Nat):Ae:=if d.b then .none else .ref (d.r+i)
def Q5.o(d:Q5):List (Aj×Lc):=[(d.c,cO d.x d.t d.q (d.t+1) (d.t+2) d.l d.n d.r (.ref (d.r+1)) .none (d.g 2) (d.g 3) (.ref (d.r+(if d.b then 2 else 4))) d.k (d.k+1)),(d.c+1,⟨.type "function",none,.func d.fd,#[]⟩)]
def tbl:List Q5:=[⟨"made_of","made_of",top 11,m0,true,100,309,19,2,312⟩,
 ⟨"is_name","is_name",top 12,m0,false,105,315,21,1,321⟩,
 ⟨"names","names",top 13,m0,false,112,324,25,1,330⟩,
 ⟨"first_name","first_name",top 14,m0,false,119,333,30,1,337⟩,
 ⟨"rules_of","rules_of",top 15,m0,true,126,340,32,2,343⟩,
 ⟨"check_rule","check_rule",top 16,m0,false,131,346,34,2,352⟩,
 ⟨"grammar_of","grammar_of",top 17,m0,false,138,355,40,1,361⟩,
 ⟨"marks","marks",top 19,m1,true,145,366,48,1,369⟩,
 ⟨"places_of","places_of",top 20,m1,false,150,372,50,1,376⟩,
 ⟨"row_steps","row_steps",top 21,m1,true,157,379,52,1,382⟩,
 ⟨"part_facts","part_facts",top 22,m1,true,162,385,54,3,388⟩,
 ⟨"__init__","Queue.__init__",dS (top 24) 0,m2,false,174,405,59,1,409⟩,
 ⟨"is_done","Queue.is_done",dS (top 24) 1,m2,false,181,412,63,1,416⟩,
 ⟨"place_of","Queue.place_of",dS (top 24) 3,m2,false,195,428,72,2,436⟩,
 ⟨"put","Queue.put",dS (top 24) 2,m2,false,188,419,66,3,425⟩,
 ⟨"take","Queue.take",dS (top 24) 4,m2,false,202,439,83,1,446⟩,
 ⟨"added","added",top 26,m3,false,216,461,92,2,466⟩,
 ⟨"__init__","Search.__init__",dS (top 27) 0,m3,false,230,481,96,3,487⟩,
 ⟨"reach","Search.reach",dS (top 27) 1,m3,false,237,490,106,4,498⟩,
 ⟨"settle","Search.settle",dS (top 27) 4,m3,false,258,528,133,4,540⟩,
 ⟨"step_by_name","Search.step_by_name",dS (top 27) 3,m3,false,251,515,128,5,525⟩,
 ⟨"take_next","Search.take_next",dS (top 27) 2,m3,false,244,501,112,1,512⟩,
 ⟨"least_trees","least_trees",top 28,m3,false,272,559,142,4,569⟩,
 ⟨"facts_within","facts_within",top 29,m3,true,279,572,150,3,575⟩,
 ⟨"knot_of","knot_of",top 32,m3,false,298,606,177,2,611⟩,
 ⟨"same_word","same_word",top 31,m3,false,291,597,175,3,603⟩,
 ⟨"made_of_best","made_of_best",top 30,m3,false,284,578,161,5,594⟩,
 ⟨"best_tree","best_tree",top 33,m3,false,305,614,179,3,620⟩,
 ⟨"row_trees","row_trees",top 35,m4,false,312,625,182,3,631⟩,
 ⟨"no_weights","no_weights",top 36,m4,true,319,634,184,1,637⟩,
 ⟨"words_of","words_of",top 38,m5,false,324,642,187,1,650⟩,
 ⟨"shortest_lengths","shortest_lengths",top 39,m5,true,331,653,195,1,656⟩,
 ⟨"made_names","made_names",top 43,m6,false,336,665,202,2,674⟩,
 ⟨"slots","slots",top 44,m6,false,343,677,212,1,681⟩,
 ⟨"__init__","Plainer.__init__",dS (top 45) 0,m6,false,357,696,216,1,700⟩,
 ⟨"put_rule","Plainer.put_rule",dS (top 45) 1,m6,false,364,703,219,4,710⟩,
 ⟨"is_part","Plainer.is_part",dS (top 45) 2,m6,true,371,713,222,2,716⟩,
 ⟨"grammar_and_backs","Plainer.grammar_and_backs",dS (top 45) 3,m6,false,376,719,225,1,723⟩,
 ⟨"nothing_read","nothing_read",top 46,m6,false,390,735,227,1,741⟩,
 ⟨"empty_trees","empty_trees",top 47,m6,true,397,744,232,1,747⟩,
 ⟨"wordy_names","wordy_names",top 48,m6,true,402,750,235,1,753⟩,
 ⟨"thinned","thinned",top 49,m6,true,407,756,247,4,759⟩,
 ⟨"put_thinned","put_thinned",top 50,m6,false,412,762,254,5,774⟩,
 ⟨"no_empty","no_empty",top 51,m6,false,419,777,260,1,790⟩,
 ⟨"check_no_empty","check_no_empty",top 52,m6,true,426,793,279,1,796⟩,
 ⟨"is_single","is_single",top 53,m6,false,431,799,285,2,804⟩,
 ⟨"single_chains","single_chains",top 54,m6,false,438,807,287,3,818⟩,
 ⟨"chain_pieces","chain_pieces",top 55,m6,false,445,821,298,3,829⟩,
 ⟨"put_chained","put_chained",top 56,m6,true,452,832,303,4,835⟩,
 ⟨"no_single","no_single",top 57,m6,false,457,838,311,1,845⟩,
 ⟨"long_ends","long_ends",top 58,m6,false,464,848,320,1,855⟩,
 ⟨"shortened","shortened",top 59,m6,false,471,858,326,2,863⟩,
 ⟨"twos","twos",top 60,m6,false,478,866,328,1,877⟩,
 ⟨"_law_cell_at","_law_cell_at",top 62,m7,false,485,882,340,2,887⟩,
 ⟨"_law_stir","_law_stir",top 63,m7,false,492,890,344,2,896⟩,
 ⟨"_law_drawn","_law_drawn",top 64,m7,false,499,899,348,2,907⟩,
 ⟨"_law_unlike","_law_unlike",top 65,m7,false,506,910,358,3,924⟩,
 ⟨"_law_rule","_law_rule",top 66,m7,false,513,927,373,4,937⟩,
 ⟨"_law_rules","_law_rules",top 67,m7,true,520,940,382,3,943⟩,
 ⟨"_law_refused","_law_refused",top 68,m7,false,525,946,391,2,953⟩,
 ⟨"_law_due","_law_due",top 69,m7,true,532,956,405,1,959⟩,
 ⟨"law","law",top 70,m7,false,537,962,412,1,973⟩]
def xC(P:Rk)(x:String)(a t:Nat)(l:Int):List (Aj×Lc):=[(a-1,⟨.type "dict",none,.dict [en P "__module__" (t+7) (sT "readgrove.errors" 187),en P "__firstlineno__" (t+11) (.int l (t+10)),en P "__static_attributes__" (t+12) (.ref (a-2)),en P "__doc__" (t+13) .none].toArray 2,#[]⟩),(a,⟨.type "type",none,.cls ⟨x,[.ref 24],[.ref a,.ref 24,.type "ValueError",.type "Exception",.type "BaseException",.type "object"],a-1,x,true,[],[],false,none,false⟩,#[some (.ref (a-9)),none,some (sT x t),some (sT x (t+8)),some (.builtin "ValueError.__new__"),some (.bool true)]⟩)]
def dL(i:Nat):Q5:=tbl.getD i ⟨"","",top 0,.none,true,0,0,0,0,0⟩
def B4(i:Nat):Aj:=(dL i).c+1
def eP(P:Rk)(i:Nat):Ec:=en P (dL i).x ((dL i).k+2) (.ref (B4 i))
def hpK:Rk->Ac:=λP=>tbl.flatMap Q5.o++xC P "NoGrammar" 37 207 4++xC P "NoReading" 49 223 6++xC P "Endless" 61 239 8++xC P "TooMany" 73 255 10++xC P "NoText" 85 271 12++xC P "NoOrder" 97 287 14++[(nat_lit 3,⟨(.type "dict"),none,.dict ([en P "__name__" 165 (sT "law_readgrove_k62_refused_with_empty_rules" 880),en P "__doc__" 166 .none,en P "__package__" 167 .none,en P "__loader__" 168 (.builtin "__main__.__loader__#opaque"),en P "__spec__" 169 .none,en P "__annotations__" 170 (.ref 6),en P "__builtins__" 171 (.ref 4),en P "__file__" 173 (sT "/claim/cut.py" 172),en P "__cached__" 174 .none,en P "GroveError" 206 (.ref 24),en P "NoGrammar" 222 (.ref 37),en P "NoReading" 238 (.ref 49),en P "Endless" 254 (.ref 61),en P "TooMany" 270 (.ref 73),en P "NoText" 286 (.ref 85),en P "NoOrder" 302 (.ref 97),en P "GREAT_LETTERS" 306 (sT "ABCDEFGHIJKLMNOPQRSTUVWXYZ" 305),en P "FIGURES" 308 (sT "0123456789" 307)]++[0,1,2,3,4,5,6,7,8,9,10].map (eP P)++[en P "Queue" 458 (.ref 211)]++[16].map (eP P)++[en P "Search" 558 (.ref 267)]++[22,23,26,25,24,27,28,29,30,31].map (eP P)++[en P "WHOLE" 662 (sT "whole" 661),en P "FIGURED_NAMES" 664 (.int 10000 663)]++[32,33].map (eP P)++[en P "Plainer" 734 (.ref 385)]++[38,39,40,41,42,43,44,45,46,47,48,49,50,51,52,53,54,55,56,57,58,59,60,61].map (eP P)).toArray 71,#[]⟩),
 (nat_lit 23,⟨(.type "dict"),none,.dict [en P "__module__" 196 (sT "readgrove.errors" 187),en P "__firstlineno__" 200 (.int 2 199),en P "__static_attributes__" 201 (.ref 22),en P "__weakref__" 203 (.ref 25),en P "__doc__" 204 .none].toArray 3,#[]⟩),
 (nat_lit 24,⟨(.type "type"),none,.cls ⟨(Bv "GroveError"),[(.type "ValueError")],[(.ref 24),(.type "ValueError"),(.type "Exception"),(.type "BaseException"),(.type "object")],23,(Bv "GroveError"),true,[],[(.ref 37),(.ref 49),(.ref 61),(.ref 73),(.ref 85),(.ref 97)],false,none,false⟩,#[some (.ref 15),none,some (sT "GroveError" 189),some (sT "GroveError" 197),some (.builtin "ValueError.__new__"),some (.bool true)]⟩),
 (nat_lit 210,⟨(.type "dict"),none,.dict [en P "__module__" 400 (sT "readgrove.queues" 391),en P "__firstlineno__" 404 (.int 57 403),en P "__init__" 411 (.ref 180),en P "is_done" 418 (.ref 187),en P "put" 427 (.ref 194),en P "place_of" 438 (.ref 201),en P "take" 448 (.ref 208),en P "__static_attributes__" 451 (.ref 209),en P "__dict__" 453 (.ref 212),en P "__weakref__" 455 (.ref 213),en P "__doc__" 456 .none].toArray 4,#[]⟩),
 (nat_lit 211,⟨(.type "type"),none,.cls ⟨(Bv "Queue"),[(.type "object")],[(.ref 211),(.type "object")],210,(Bv "Queue"),true,[],[],false,none,false⟩,#[none,none,some (sT "Queue" 393),some (sT "Queue" 401),some (.builtin "object.__new__"),some (.bool true)]⟩),
 (nat_lit 266,⟨(.type "dict"),none,.dict [en P "__module__" 476 (sT "readgrove.leasts" 459),en P "__firstlineno__" 480 (.int 94 479),en P "__init__" 489 (.ref 236),en P "reach" 500 (.ref 243),en P "take_next" 514 (.ref 250),en P "step_by_name" 527 (.ref 257),en P "settle" 542 (.ref 264),en P "__static_attributes__" 551 (.ref 265),en P "__dict__" 553 (.ref 268),en P "__weakref__" 555 (.ref 269),en P "__doc__" 556 .none].toArray 4,#[]⟩),
 (nat_lit 267,⟨(.type "type"),none,.cls ⟨(Bv "Search"),[(.type "object")],[(.ref 267),(.type "object")],266,(Bv "Search"),true,[],[],false,none,false⟩,#[none,none,some (sT "Search" 469),some (sT "Search" 477),some (.builtin "object.__new__"),some (.bool true)]⟩),
 (nat_lit 384,⟨(.type "dict"),none,.dict [en P "__module__" 691 (sT "readgrove.plainer" 659),en P "__firstlineno__" 695 (.int 214 694),en P "__init__" 702 (.ref 363),en P "put_rule" 712 (.ref 370),en P "is_part" 718 (.ref 375),en P "grammar_and_backs" 725 (.ref 382),en P "__static_attributes__" 727 (.ref 383),en P "__dict__" 729 (.ref 386),en P "__weakref__" 731 (.ref 387),en P "__doc__" 732 .none].toArray 4,#[]⟩),
 (nat_lit 385,⟨(.type "type"),none,.cls ⟨(Bv "Plainer"),[(.type "object")],[(.ref 385),(.type "object")],384,(Bv "Plainer"),true,[],[],false,none,false⟩,#[none,none,some (sT "Plainer" 684),some (sT "Plainer" 692),some (.builtin "object.__new__"),some (.bool true)]⟩)]
def OM:List Aj:=tbl.flatMap (λd=>[d.c,d.c+1])++[36,37,48,49,60,61,72,73,84,85,96,97,3,23,24,210,211,266,267,384,385]
def qv:Ar:={Vb with main:={Vb.main with body:=([1,2,3,4,5,6,7,9,10,11,12,13,14,15,16,17,19,20,21,22,24,26,27,28,29,30,31,32,33,35,36,38,39,41,42,43,44,45,46,47,48,49,50,51,52,53,54,55,56,57,58,59,60,62,63,64,65,66,67,68,69,70]:List Nat).map top}}
def hk:PySem.W.Hook:=PySem.W.kHook hpK OM (λ_=>by kernel_rfl)
theorem B5{Z y i:Type}{o:Option Z}{f:Z->y}{g:Z->i}{a:y}{b:i}(h:o.map f=some a)(k:o.map g=some b):o.map (λs=>(f s,g s))=some (a,b):=by
 cases o with
 | none=>cases h
 | some s=>cases h;cases k;rfl
open PySem.W in
theorem r9(p:Ar)(w:Bk)(N:Nat):openEnds Sz p w N=(fencedOpening Sz p w N).bind λs=>match s.heap.isNs Dw&&s.gens.size==0 with
 | true=>(PySem.W.Fast.tw14082659384304107361 PySem.W.Fast.tw14364793385576792824 p w s.heap.objs.size (s.heap.nsMap Dw "__annotations__") N s (topStub p)).bind λt=>match staticsOk (Ru p.main.body) s.heap t.heap&&namesBound p t.heap&&gensDone t&&laidKept s.heap t.heap with
  | true=>some t
  | false=>none
 | false=>none:=by rw[<-PySem.W.Fast.te14082659384304107361,<-PySem.W.Fast.te14364793385576792824];rfl
abbrev lJ(w:Bk):=PySem.W.openEnds Sz Va.row.prog w 8320
open PySem.W in
abbrev jS:=λs=>openSeen qv [] (Ru Va.row.prog.main.body) (λs=>xlAt qv [] s&&recOk (Px (Nz Va.row)) s) true s
set_option maxHeartbeats 0 in
theorem sA(w:Bk):(lJ w).map hk.obs=some (hk.val w):=by unfold lJ;rw[r9];kernel_rfl
set_option maxHeartbeats 0 in
open PySem.W in
theorem ON(w:Bk):(lJ w).map (λs=>(jS s).1)=some (openGood qv []).1:=by unfold lJ;rw[r9];kernel_rfl
set_option maxHeartbeats 0 in
open PySem.W in
theorem OO(w:Bk):(lJ w).map (λs=>((jS s).2.1,(jS s).2.2.1,(jS s).2.2.2.1))=some (bltViewBooted,true,true):=by unfold lJ;rw[r9];kernel_rfl
set_option maxHeartbeats 0 in
open PySem.W in
theorem OP(w:Bk):(lJ w).map (λs=>(jS s).2.2.2.2)=some (pinGoodD (drecsOf qv),plainGoodE qv (looseW qv []),plainGoodD qv [],wideGood qv,clsGoodW qv []):=by unfold lJ;rw[r9];kernel_rfl
theorem OQ{Z y i l m j:Type}{o:Option Z}{e:Z->j}{f:Z->y}{g:Z->i}{h:Z->l}{k:Z->m}{u:j}{a:y}{b:i}{c:l}{d:m}(v:o.map e=some u)(x:o.map (λs=>(f s,g s,h s))=some (a,b,c))(z:o.map k=some d):o.map (λs=>(e s,f s,g s,h s,k s))=some (u,a,b,c,d):=by
 cases o with
 | none=>cases v
 | some s=>cases v;cases x;cases z;rfl
open PySem.W in
theorem mW(w:Bk):(openEnds Sz Va.row.prog w 8320).map (λs=>openSeen qv [] (Ru Va.row.prog.main.body) (λs=>xlAt qv [] s&&recOk (Px (Nz Va.row)) s) true s)=some (openGood qv []):=OQ (e:=λs=>(jS s).1) (f:=λs=>(jS s).2.1) (g:=λs=>(jS s).2.2.1) (h:=λs=>(jS s).2.2.2.1) (k:=λs=>(jS s).2.2.2.2) (ON w) (OO w) (OP w)
set_option maxHeartbeats 0 in
theorem sC:Va.wellSaid=true:=by kernel_rfl
open PySem.W in
theorem OR:LeftO Va.row.prog qv [] (λs=>xlAt qv [] s&&recOk (Px (Nz Va.row)) s) hk.obs hk.val 8320:=λw=>B5 (mW w) (sA w)
end L2
namespace L2
abbrev Pn:=List (Aj×Lc)
abbrev lO(x:Array Ae)(n:Nat:=0):Lc:={cls:=.type "list",data:=.seq x n}
abbrev Db(x:Aw):Prop:=(x==("__debug__" : Aw))=false
abbrev aB:=Sum Int Aw
def mX:aB->Ae->Bool
 | .inl k,v=>Value.isInt k v
 | .inr x,v=>Value.isStrOf x v
def OS(w:Bk):aB->Int
 | .inl k=>hashInt k
 | .inr x=>hashStr w x
theorem jT:∀{k:aB} {v:Ae},mX k v=true->(∃i t,k=Sum.inl i/\v=Value.int i t)\/(∃x t,k=Sum.inr x/\v=Value.str x t)
 | .inl i,v,h=>by
  obtain⟨t,e⟩:=Value.isInt_shape (k:=i) (v:=v) h;exact .inl ⟨i,t,rfl,e⟩
 | .inr x,v,h=>by
  obtain⟨t,e⟩:=Value.isStrOf_shape (x:=x) (v:=v) h;exact .inr ⟨x,t,rfl,e⟩
theorem OT(i:Int)(t:Tj):mX (.inl i) (.int i t)=true:=by simp[mX,Value.isInt]
theorem OU(x:Aw)(t:Tj):mX (.inr x) (.str x t)=true:=by simp[mX,Value.isStrOf]
theorem OV(a b:Int):decide ((Sum.inl a:aB)=Sum.inl b)=(a==b):=by
 by_cases e:a=b
 .subst e;simp
 .have h:¬(Sum.inl a:aB)=Sum.inl b:=λq=>e (Sum.inl.inj q);rw[Uz h];exact(beq_eq_false_iff_ne.mpr e).symm
theorem OW(a b:Aw):decide ((Sum.inr a:aB)=Sum.inr b)=decide (a=b):=by
 by_cases e:a=b
 .subst e;simp
 .have h:¬(Sum.inr a:aB)=Sum.inr b:=λq=>e (Sum.inr.inj q);rw[Uz h,Uz e]
theorem OX(a:Int)(b:Aw):decide ((Sum.inl a:aB)=Sum.inr b)=false:=Uz (λq=>nomatch q)
theorem OY(a:Aw)(b:Int):decide ((Sum.inr a:aB)=Sum.inl b)=false:=Uz (λq=>nomatch q)
def bQ(prog:Ar)(w:Bk):PySem.KeyKind prog w aB where
 is:=mX
 hash:=OS w
 inj:=λv a b l Y=>by
  rcases jT l with⟨i,t,rfl,rfl⟩|⟨x,t,rfl,rfl⟩
  .rcases jT Y with⟨j,u,rfl,e⟩|⟨y,u,rfl,e⟩
   .injection e with e1 _;rw[e1]
   .exact nomatch e
  .rcases jT Y with⟨j,u,rfl,e⟩|⟨y,u,rfl,e⟩
   .exact nomatch e
   .injection e with e1 _;rw[e1]
 byValue:=λk v h=>by
  rcases jT h with⟨i,t,rfl,rfl⟩|⟨x,t,rfl,rfl⟩<;>rfl
 pyHash:=λc h=>by
  rcases jT c with⟨i,t,rfl,rfl⟩|⟨x,t,rfl,rfl⟩
  .exact wpAny_pyHash_int h
  .exact wpAny_pyHash_str h
 eqBool:=λJ c h=>by
  rcases jT J with⟨i,t,rfl,rfl⟩|⟨x,t,rfl,rfl⟩
  .rcases jT c with⟨j,u,rfl,rfl⟩|⟨y,u,rfl,rfl⟩
   .rw[OV]at h;exact Lo h
   .rw[OX]at h;exact SeqAt.EqAt.int_str i t y u _ _ _ _ h
  .rcases jT c with⟨j,u,rfl,rfl⟩|⟨y,u,rfl,rfl⟩
   .rw[OY]at h;exact SeqAt.EqAt.str_int x t j u _ _ _ _ h
   .rw[OW]at h;exact wpAny_eqBool_str h
 «strs»:=λk x t v h=>by
  rcases jT h with⟨i,u,rfl,e⟩|⟨y,u,rfl,e⟩
  .exact nomatch e
  .injection e with e1 _;subst e1;cases v<;>rfl
theorem OZ(prog:Ar)(w:Bk)(i:Int)(t:Tj):(bQ prog w).is (.inl i) (.int i t)=true:=OT i t
theorem O0(prog:Ar)(w:Bk)(x:Aw)(t:Tj):(bQ prog w).is (.inr x) (.str x t)=true:=OU x t
inductive V where
 | non|bl (b:Bool)|int (i:Int)|str (x:Aw)|byt (b:Array UInt8)|flt (b:UInt64)|ref (a:Aj)|ty (n:String)
 deriving DecidableEq
def RelV:V->Ae->Prop
 | .non,u=>u=Value.none
 | .bl b,u=>u=Value.bool b
 | .int i,u=>∃t,u=Value.int i t
 | .str x,u=>∃t,u=Value.str x t
 | .byt b,u=>∃t,u=Value.bytes b t
 | .flt b,u=>∃t,u=Value.float b t
 | .ref a,u=>u=Value.ref a
 | .ty n,u=>u=Value.type n
abbrev aX:List V->List Ae->Prop:=Ff RelV
theorem aX.length{xs:List V}{us:List Ae}(r:aX xs us):xs.length=us.length:=Cu r
theorem aX.get:∀{xs:List V} {us:List Ae} {i:Nat} {x:V},aX xs us->xs[i]? = some x->∃u,us[i]? = some u/\RelV x u
 | _,_,_,_,.nil,e=>by simp at e
 | _,_,0,_,.cons r _,e=>by simp at e;subst e;exact⟨_,rfl,r⟩
 | _,_,i+1,x,.cons _ t,e=>by
  obtain⟨u,h1,h2⟩:=aX.get (i:=i) (x:=x) t (by simpa using e);exact⟨u,by simpa using h1,h2⟩
theorem aX.set{x:V}{u:Ae}(r:RelV x u):∀{xs:List V} {us:List Ae} (i:Nat),aX xs us->aX (xs.set i x) (us.set i u)
 | _,_,_,.nil=>.nil
 | _,_,0,.cons _ t=>.cons r t
 | _,_,i+1,.cons q t=>.cons q (aX.set r i t)
theorem aX.append:∀{xs B:List V} {us ws:List Ae},aX xs us->aX B ws->aX (xs++B) (us++ws)
 | _,_,_,_,.nil,s=>s
 | _,_,_,_,.cons r t,s=>.cons r (aX.append t s)
theorem aX.take:∀{xs:List V} {us:List Ae} (n:Nat),aX xs us->aX (xs.take n) (us.take n)
 | _,_,0,_=>.nil
 | _,_,_+1,.nil=>.nil
 | _,_,n+1,.cons r t=>.cons r (aX.take n t)
theorem aX.drop:∀{xs:List V} {us:List Ae} (n:Nat),aX xs us->aX (xs.drop n) (us.drop n)
 | _,_,0,r=>r
 | _,_,_+1,.nil=>.nil
 | _,_,n+1,.cons _ t=>aX.drop n t
def fH:Option V->Option Ae->Prop
 | some v,some u=>RelV v u
 | none,none=>True
 | _,_=>False
def KV{c:Type}:List (c×V)->List (c×Ae)->Prop:=Ff λ(p:c×V) (q:c×Ae)=>p.1=q.1/\RelV p.2 q.2
def kV:aB->V
 | .inl i=>.int i
 | .inr x=>.str x
inductive HO where
 | lst (xs:List V)
 | tup (xs:List V)
 | dK (kvs:List (aB×V))|dT (kvs:List (List aB×V))
 | set (S:Int->Bool) (n:Nat)
 | ins (C dx:Aj) (fs:List (Aw×V))
 | own (x:Aj)
 | xd (fs:List (Aw×V))
 | met (f x:Aj)
 | rng (lo hi:Int)
 | frz (o:Lc) (u:HO)
 | tbl (ps:Array Ae)
 | ext (φ:Cr->Prop)
abbrev Hp:=Aj->Option HO
def aN(H:Hp)(a:Aj)(o:HO):Hp:=λb=>if b=a then some o else H b
theorem b8{H:Hp}{a:Aj}{o:HO}:aN H a o a=some o:=by unfold aN;rw[Uw rfl]
theorem bB{H:Hp}{a b:Aj}{o:HO}(h:b≠a):aN H a o b=H b:=by unfold aN;rw[Uv h]
theorem sD{H:Hp}{a b:Aj}{o u:HO}(h:H a=some o)(h':H b=some u)(d:o≠u):a≠b:=by
 intro e;subst e;rw[h]at h';exact d (Ci h')
theorem eO{H:Hp}{a b:Aj}{o:HO}(h:H a=some o)(h':H b=none):a≠b:=by
 intro e;subst e;rw[h]at h';cases h'
section
variable (P:Ar)(w:Bk)
def b9(H:Hp)(h:Cr)(a:Aj):HO->Prop
 | .lst xs=>xs.length<=Ao/\∃(its:List Ae) (n:Nat),aX xs its/\h.get? a=some (lO its.toArray n)
 | .tup xs=>xs.length<=Ao/\∃its:List Ae,aX xs its/\IsTup h a its.toArray
 | .dK kvs=>kvs.length<=Ao/\(a==Fc)=false/\∃vs,KV kvs vs/\h.DictOf (bQ P w) a vs
 | .dT kvs=>kvs.length<=Ao/\(a==Fc)=false/\∃xs:List (List aB×Aj×Ae),
   Ff (λ(p:List aB×V) (q:List aB×Aj×Ae)=>p.1=q.1/\H q.2.1=some (.tup (p.1.map kV))/\RelV p.2 q.2.2) kvs xs/\
   ∃o es ep,h.get? a=some o/\o.ExactDict/\o.data=.dict es ep/\es.toList=xs.map (Qr (Gw (bQ P w)))/\(xs.map (·.1)).Nodup
 | .set S n=>h.SetOf (intKind P w) a S n
 | .ins C dx fs=>H dx=some (.own a)/\fs.length<=1000/\dx≠a/\h.get? a=some (Hj C dx)/\
   ∃g,h.Ns1 dx g/\(∀f,fH (fs.lookup f) (g f))/\Rx g (fs.map (·.1))
 | .own _=>∃o,h.get? a=some o
 | .xd fs=>∃g,h.Ns1 a g/\∀f,fH (fs.lookup f) (g f)
 | .rng lo hi=>∃t u v,h.get? a=some {cls:=.type "range",data:=.fields #[.int lo t,.int hi u,.int 1 v]}
 | .frz o u=>h.get? a=some o/\b9 H h a u
 | .tbl ps=>h.get? a=some {cls:=.none,data:=.fields ps}
 | .met f x=>h.get? a=some (Pf (.ref f) (.ref x))
 | .ext i=>i h/\(∃o,h.get? a=some o)/\∀h1 h2:Cr,i h1->(∀o,h1.get? a=some o->h2.get? a=some o)->i h2
def cG(H:Hp)(h:Cr):Prop:=∀a o,H a=some o->b9 P w H h a o
end
section
variable {P:Ar}{w:Bk}{H H':Hp}{h h':Cr}{a:Aj}{o:HO}
theorem b9.lt(x:b9 P w H h a o):a<h.objs.size:=by
 cases o with
 | lst xs=>obtain⟨_,_,_,_,e⟩:=x;exact Bh e
 | tup xs=>obtain⟨_,_,_,p⟩:=x;exact p.lt
 | dK kvs=>obtain⟨_,_,_,_,o,_,_,e,_⟩:=x;exact Bh e
 | dT kvs=>obtain⟨_,_,_,_,o,_,_,e,_⟩:=x;exact Bh e
 | set S n=>obtain⟨o,_,_,_,e,_⟩:=x;exact Bh e
 | ins C dx fs=>obtain⟨_,_,_,e,_⟩:=x;exact Bh e
 | own y=>obtain⟨_,e⟩:=x;exact Bh e
 | xd fs=>obtain⟨_,⟨_,_,_,e,_⟩,_⟩:=x;exact Bh e
 | rng lo hi=>obtain⟨_,_,_,e⟩:=x;exact Bh e
 | frz ob u=>obtain⟨e,_⟩:=x;exact Bh e
 | tbl ps=>exact Bh (show h.get? a=some _ from x)
 | met f y=>exact Bh (show h.get? a=some _ from x)
 | ext φ=>obtain⟨_,⟨_,e⟩,_⟩:=x;exact Bh e
theorem Paired.mapP{y i:Type}{F G:y->i->Prop}:∀{d:List y} {c:List i},Ff F d c->(∀a b,F a b->G a b)->Ff G d c
 | _,_,.nil,_=>.nil
 | _,_,.cons r t,f=>.cons (f _ _ r) (Paired.mapP t f)
theorem b9.stay(x:b9 P w H h a o)(k:∀b u,(b=a\/H b=some (.own a))->h.get? b=some u->h'.get? b=some u)(ho:∀b,H b=some (.own a)->H' b=some (.own a))(ht:∀b xs,H b=some (.tup xs)->H' b=some (.tup xs)):b9 P w H' h' a o:=by
 induction o with
 | lst xs=>obtain⟨z,its,n,r,e⟩:=x;exact⟨z,its,n,r,k _ _ (.inl rfl) e⟩
 | tup xs=>obtain⟨z,its,r,ob,e,c⟩:=x;exact⟨z,its,r,ob,k _ _ (.inl rfl) e,c⟩
 | dK kvs=>obtain⟨z,y,vs,r,ob,es,ep,e,c⟩:=x;exact⟨z,y,vs,r,ob,es,ep,k _ _ (.inl rfl) e,c⟩
 | dT kvs=>
  obtain⟨z,y,xs,r,ob,es,ep,e,c⟩:=x;exact⟨z,y,xs,Paired.mapP r λp q z=>⟨z.1,ht _ _ z.2.1,z.2.2⟩,ob,es,ep,k _ _ (.inl rfl) e,c⟩
 | set S n=>obtain⟨ob,es,ep,t,e,c⟩:=x;exact⟨ob,es,ep,t,k _ _ (.inl rfl) e,c⟩
 | ins C dx fs=>
  obtain⟨d,z,ne,e,mA,⟨od,es,ep,e2,c⟩,r⟩:=x;exact⟨ho _ d,z,ne,k _ _ (.inl rfl) e,mA,⟨od,es,ep,k _ _ (.inr d) e2,c⟩,r⟩
 | own y=>obtain⟨ob,e⟩:=x;exact⟨ob,k _ _ (.inl rfl) e⟩
 | xd fs=>obtain⟨mA,⟨od,es,ep,e,c⟩,r⟩:=x;exact⟨mA,⟨od,es,ep,k _ _ (.inl rfl) e,c⟩,r⟩
 | rng lo hi=>obtain⟨t,u,v,e⟩:=x;exact⟨t,u,v,k _ _ (.inl rfl) e⟩
 | frz ob u ih=>obtain⟨e,q⟩:=x;exact⟨k _ _ (.inl rfl) e,ih q⟩
 | tbl ps=>
  have e:h.get? a=some {cls:=.none,data:=.fields ps}:=x;show h'.get? a=some {cls:=.none,data:=.fields ps};exact k a _ (.inl rfl) e
 | met f y=>
  have e:h.get? a=some (Pf (.ref f) (.ref y)):=x;show h'.get? a=some (Pf (.ref f) (.ref y));exact k a _ (.inl rfl) e
 | ext φ=>obtain⟨p,⟨o,e⟩,st⟩:=x;exact⟨st _ _ p λo q=>k _ _ (.inl rfl) q,⟨o,k _ _ (.inl rfl) e⟩,st⟩
theorem cG.lt(x:cG P w H h)(e:H a=some o):a<h.objs.size:=(x a o e).lt
theorem cG.fresh(x:cG P w H h)(e:h.objs.size<=a):H a=none:=by
 cases q:H a with
 | none=>rfl
 | some u=>exact absurd (Bx (x.lt q) e) (Im _)
theorem cG.kept(x:cG P w H h)(k:∀b u,h.get? b=some u->h'.get? b=some u):cG P w H h':=λa o e=>
 (x a o e).stay (λb u _ q=>k b u q) (λ_ q=>q) λ_ _ q=>q
theorem cG.laid(x:cG P w H h)(k:∀b u,h.get? b=some u->h'.get? b=some u)(B:h.objs.size<=a)(new:b9 P w (aN H a o) h' a o):cG P w (aN H a o) h':=λb u e=>by
 have U:=x.fresh B
 by_cases Y:b=a
 .subst Y;rw[b8]at e;cases e;exact new
 .rw[bB Y]at e;exact(x b u e).stay (λc v _ q=>k c v q) (λc q=>by rw[bB (eO q U)];exact q) λc xs q=>by rw[bB (eO q U)];exact q
end
def Rd(H:Hp)(a:Aj)(u:HO):Prop:=H a=some u\/∃o,H a=some (.frz o u)
theorem Rd.ok{P:Ar}{w:Bk}{H:Hp}{h:Cr}{a:Aj}{u:HO}(r:Rd H a u)(x:cG P w H h):b9 P w H h a u:=by
 rcases r with r|⟨o,r⟩
 .exact x a u r
 .obtain⟨_,q⟩:=x a _ r;exact q
def pZ:Option HO->Prop
 | some (.lst _)=>True
 | some (.dK _)=>True
 | some (.dT _)=>True
 | some (.set _ _)=>True
 | some (.ins _ _ _)=>True
 | some (.ext _)=>True
 | _=>False
section
variable {P:Ar}{w:Bk}{H:Hp}{h h':Cr}{x e:Aj}{o':HO}
theorem cG.write(ok:cG P w H h)(d:pZ (H x))(L:e=x\/H e=some (.own x))(k:∀b u,b≠e->h.get? b=some u->h'.get? b=some u)(f:∃u,h'.get? e=some u)(new:b9 P w (aN H x o') h' x o'):cG P w (aN H x o') h':=λb u q=>by
 have g:∀c y,H c=some (.own y)->c≠x:=λc y r z=>by subst z;rw[r]at d;exact d
 have i:∀c xs,H c=some (.tup xs)->c≠x:=λc xs r z=>by subst z;rw[r]at d;exact d
 by_cases Y:b=x
 .subst Y;rw[b8]at q;cases q;exact new
 .rw[bB Y]at q
  by_cases a:b=e
  .have S:H b=some (.own x):=by
    rcases L with z|z
    .exact absurd (a.trans z) Y
    .rw[a];exact z
   rw[q]at S;cases S;obtain⟨v,m⟩:=f;exact⟨v,by rw[a];exact m⟩
  .refine(ok b u q).stay (λc v hc r=>k c v ?_ r) (λc r=>by rw[bB (g c b r)];exact r) λc xs r=>by rw[bB (i c xs r)];exact r
   rcases hc with rfl|hc
   .exact a
   .rintro rfl;rcases L with z|z
    .exact g c b hc z
    .rw[hc]at z;cases z;exact Y rfl
end
structure Un(fs ex:List Aj)(H H':Hp)(h h':Cr):Prop where
 keep:∀b o,h.get? b=some o->H b=none->b∉fs->b∉ex->h'.get? b=some o
 slot:∀b o,h.get? b=some o->H b=none->b∈fs->b∉ex->∃sl,h'.get? b=some {o with slots:=sl}
 free:∀b o,h.get? b=some o->H b=none->b∉ex->H' b=none
 there:∀b o,h.get? b=some o->b∉ex->∃o',h'.get? b=some o'
 tups:∀b xs,H b=some (.tup xs)->H' b=some (.tup xs)
 frzs:∀b o u,H b=some (.frz o u)->H' b=some (.frz o u)
 tbls:∀b ps,H b=some (.tbl ps)->∃more,H' b=some (.tbl (ps++more))
section
variable {fs fs' ex ex':List Aj}{H H1 H2:Hp}{h h1 h2 h':Cr}{a x e:Aj}{o:HO}
theorem Un.any(u:Un fs ex H H1 h h1){b:Aj}{ob:Lc}(q:h.get? b=some ob)(n:H b=none)(S:b∉ex):∃sl,h1.get? b=some {ob with slots:=sl}:=by
 by_cases Y:b∈fs
 .exact u.slot b ob q n Y S
 .exact⟨ob.slots,u.keep b ob q n Y S⟩
theorem Un.kept(k:∀b u,h.get? b=some u->h'.get? b=some u):Un fs ex H H h h':=
 ⟨λb ob q _ _ _=>k b ob q,λb ob q _ _ _=>⟨ob.slots,k b ob q⟩,λ_ _ _ n _=>n,λb ob q _=>⟨ob,k b ob q⟩,λ_ _ q=>q,λ_ _ _ q=>q,λ_ ps q=>⟨#[],by rw[q];simp⟩⟩
theorem Un.refl:Un fs ex H H h h:=Un.kept λ_ _ q=>q
theorem Un.laid(k:∀b u,h.get? b=some u->h'.get? b=some u)(B:h.objs.size<=a)(U:H a=none):Un fs ex H (aN H a o) h h' where
 keep:=λb u q _ _ _=>k b u q
 slot:=λb u q _ _ _=>⟨u.slots,k b u q⟩
 free:=λb u q n _=>by rw[bB (Bo (Bx (Bh q) B))];exact n
 there:=λb u q _=>⟨u,k b u q⟩
 tups:=λb xs q=>by rw[bB (eO q U)];exact q
 frzs:=λb u xs q=>by rw[bB (eO q U)];exact q
 tbls:=λb ps q=>⟨#[],by rw[bB (eO q U),q];simp⟩
theorem Un.write(d:pZ (H x))(P:e=x\/H e=some (.own x))(k:∀b u,b≠e->h.get? b=some u->h'.get? b=some u)(f:∃u,h'.get? e=some u):Un fs ex H (aN H x o) h h':=by
 have S:∀b,H b=none->b≠x:=λb n z=>by subst z;rw[n]at d;exact d
 have Y:∀b,H b=none->b≠e:=λb n z=>by
  subst z;rcases P with r|r
  .exact S b n r
  .rw[n]at r;cases r
 have J:∀b u,H b=some u->¬pZ (some u)->b≠x:=λb u q nm z=>by subst z;rw[q]at d;exact nm d
 refine⟨λb u q n _ _=>k b u (Y b n) q,λb u q n _ _=>⟨u.slots,k b u (Y b n) q⟩,λb u q n _=>by rw[bB (S b n)];exact n,λb u q _=>?_,
  λb xs q=>by rw[bB (J b _ q λz=>z)];exact q,λb u xs q=>by rw[bB (J b _ q λz=>z)];exact q,λb ps q=>⟨#[],by rw[bB (J b _ q λz=>z),q];simp⟩⟩
 by_cases a:b=e
 .subst a;exact f
 .exact⟨u,k b u a q⟩
end
def sE(h:Cr)(H:Hp):List Aj:=(Cd h.objs.size).filter λa=>(H a).isSome
def kD(h:Cr)(H:Hp):Cr:=Nh h (sE h H)
theorem O3(h:Cr)(H:Hp):(kD h H).objs.size=h.objs.size:=PySem.W.hideAll_size _ _
theorem O4{h:Cr}{H:Hp}{b:Aj}{o:Lc}(e:h.get? b=some o)(n:H b=none):(kD h H).get? b=some o:=
 Oi _ e λJ=>by
  have q:(H b).isSome=true:=(Ep.mp J).2;rw[n]at q;simp at q
theorem O5{h:Cr}{H:Hp}{b:Aj}{o:Lc}(e:(kD h H).get? b=some o):h.get? b=some o/\H b=none:=by
 have M:h.get? b=some o:=PySem.W.of_hideAll (sE h H) e;refine⟨M,?_⟩;cases q:H b with
 | none=>rfl
 | some x=>
  have J:b∈sE h H:=Ep.mpr ⟨Hz.mpr (Bh M),by simp[q]⟩;have z:(kD h H).get? b=none:=PySem.W.hideAll_none (sE h H) J;rw[z]at e;cases e
structure Mod(K:Ac)(mg:Aw->Option Ae)(base:Cr):Prop where
 kin:K.In base
 glob:base.Ns Dw mg
 blt:∃mb,base.Ns Uj mb/\∀x:Aw,x≠"__name__"->mb x=Cs x
 nolimit:base.NoLimit
structure Cx where
 prog:Ar
 w:Bk
 K:Ac
 mg:Aw->Option Ae
 base:Cr
 A:Cn
 N:List Aw
 s₀:Ah
 H₀:Hp
 env:Env
 outer:List Env
 stack:List Env
 ex:List Aj
 fn:Aw->Bool
 calm:Bool
 pn:List (Aj×Lc)
 xe:Ae->Ah->Prop
abbrev Cx.m(X:Cx):=Cq X.prog X.w
abbrev Cx.a(X:Cx){y:Type}(t:Rw y)(Q:y->Ah->Prop)(E:Ae->Ah->Prop)(s:Ah):Prop:=Bl X.m X.A t Q E s
abbrev Se(X:Cx)(e:Cb)(es:List Cb):Prop:=Cj (e::es) X.env=(false,El e X.env)::Cj es X.env
abbrev Sb(X:Cx)(pos:Gy)(es:List Cb):Prop:=(Me pos (Cj es X.env)).any (·.1)=false
abbrev Fy(X:Cx)(x:Aw):Prop:=X.fn x=true\/X.env.scope.names.lookup x=some .local
def dX(l:List Env):List Aj:=l.filterMap (·.frame)
abbrev Cx.fs(X:Cx):List Aj:=dX X.outer
def sF(sc:Jp)(x:Aw):Prop:=sc.names.lookup x=some .local\/sc.names.lookup x=some .cell\/sc.names.lookup x=some .free
def Loc(sc:Jp)(x:Aw):Prop:=sc.names.lookup x=some .local\/sc.names.lookup x=some .cell
def Look(env:Env)(h:Cr)(m:Aw->Option Ae)(x:Aw)(u:Ae):Prop:=
 (env.kindOf x=some .local/\m x=some u)\/((env.kindOf x=some .cell\/env.kindOf x=some .free)/\∃c,env.cells.lookup x=some c/\h.IsCell c (some u))
structure Cx.Ok(X:Cx):Prop where
 mod:Mod X.K X.mg X.base
 kind:X.env.scope.kind=.function
 glob:X.env.globals=Dw
 blt:X.env.builtins=Uj
 above:X.s₀.heap.objs.size<=X.env.locals
 inj:∀x y c,X.env.cells.lookup x=some c->X.env.cells.lookup y=some c->x=y
 has:∀x,(X.env.kindOf x=some .cell\/X.env.kindOf x=some .free)->∃c,X.env.cells.lookup x=some c
 cab:∀x c,X.fn x=true->X.env.cells.lookup x=some c->X.s₀.heap.objs.size<=c
 hd:X.calm=true->X.A.handled=none
 frames:X.A.frames=some X.stack
 stk:X.stack=X.outer\/(X.stack=X.env::X.outer/\X.env.frame=some X.env.locals)
 exf:∀b∈X.ex,b≠X.env.locals/\∀x c,X.env.cells.lookup x=some c->c≠b
 bs:∀b o,X.base.get? b=some o->X.s₀.heap.get? b=some o/\X.H₀ b=none
 bsz:X.base.objs.size<=X.s₀.heap.objs.size
 noex:∀b o,X.base.get? b=some o->b∉X.ex
 exfs:∀b∈X.ex,b∉X.fs
 funs:X.s₀.heap.FunFrames X.base X.outer
 frf:∀b∈X.fs,X.H₀ b=none
structure Inv(X:Cx)(pins:Pn)(Z:List (Option V))(H:Hp)(s:Ah):Prop where
 ok:X.Ok
 os:s.os=X.s₀.os
 bare:My s.gens
 base:Un X.fs X.ex X.H₀ H X.s₀.heap s.heap
 loc:∃m,s.heap.Ns X.env.locals m/\∀(i:Nat) (x:Aw) (v:V),X.N[i]? = some x->Z[i]? = some (some v)->sF X.env.scope x->∃u,RelV v u/\Look X.env s.heap m x u
 cell:∀x c,X.env.cells.lookup x=some c->∃v,s.heap.IsCell c v
 free:H X.env.locals=none
 freeC:∀x c,X.env.cells.lookup x=some c->H c=none
 pin:∀p∈X.pn++pins,s.heap.get? p.1=some p.2/\H p.1=none/\p.1≠X.env.locals/\p.1∉X.fs/\∀v,p.2.data≠.cell v
 hok:cG X.prog X.w H s.heap
 len:Z.length=X.N.length
section
variable {X:Cx}{pins:Pn}{Z:List (Option V)}{H H':Hp}{s:Ah}{h':Cr}
theorem Cx.Ok.nofr(ok:X.Ok){b:Aj}{o:Lc}(e:X.base.get? b=some o):b∉X.fs:=λY=>by
 have:=(ok.funs.mem Y).1;rw[e]at this;cases this
theorem Inv.bs(I:Inv X pins Z H s):∀b o,X.base.get? b=some o->s.heap.get? b=some o/\H b=none:=λb o e=>
 ⟨I.base.keep b o (I.ok.bs b o e).1 (I.ok.bs b o e).2 (I.ok.nofr e) (I.ok.noex b o e),I.base.free b o (I.ok.bs b o e).1 (I.ok.bs b o e).2 (I.ok.noex b o e)⟩
theorem Inv.bk(I:Inv X pins Z H s):∀b o,X.base.get? b=some o->s.heap.get? b=some o:=λb o e=>(I.bs b o e).1
theorem Inv.mod(I:Inv X pins Z H s):Mod X.K X.mg X.base:=I.ok.mod
theorem Inv.kIn(I:Inv X pins Z H s):X.K.In s.heap:=I.ok.mod.kin.keeps I.bk
theorem Inv.lt(I:Inv X pins Z H s):X.env.locals<s.heap.objs.size:=let ⟨_,hn,_⟩:=I.loc;hn.lt
theorem Inv.sz(I:Inv X pins Z H s):X.s₀.heap.objs.size<=s.heap.objs.size:=Bf I.ok.above (Hr I.lt)
theorem Inv.nofs(I:Inv X pins Z H s){a:Aj}(h:s.heap.objs.size<=a):a∉X.fs:=λY=>by
 obtain⟨_,o,D,_⟩:=I.ok.funs.mem Y;exact absurd (Bx (Bh D) (Bf I.sz h)) (Im _)
theorem Inv.cne(I:Inv X pins Z H s):∀x c,X.env.cells.lookup x=some c->c≠X.env.locals:=λx c e z=>by
 obtain⟨v,o,D,hd⟩:=I.cell x c e;obtain⟨m,⟨o',es,ep,d,g,_⟩,_⟩:=I.loc;rw[z,d]at D;cases D;rw[g]at hd;cases hd
theorem Inv.funs(I:Inv X pins Z H s):s.heap.FunFrames X.base X.outer:=by
 have all:∀(l:List Env),(∀b∈dX l,b∈X.fs)->X.s₀.heap.FunFrames X.base l->s.heap.FunFrames X.base l:=by
  intro l
  induction l with
  | nil=>intro _ _;trivial
  | cons env r E=>
   intro F hl;obtain⟨hk,⟨L,o,hf,U,D,hd⟩,g⟩:=hl;have j:L∈X.fs:=F L (by unfold dX;rw[Eu,hf];exact Bi);obtain⟨sl,e⟩:=I.base.slot L o D (I.ok.frf L j) j λz=>I.ok.exfs L z j;exact⟨hk,⟨L,_,hf,U,e,hd⟩,E (λb Y=>F b (by unfold dX;rw[Eu,hf];exact Bb _ Y)) g⟩
 exact all X.outer (λ_ Y=>Y) I.ok.funs
theorem Inv.stack(I:Inv X pins Z H s):s.heap.FunFrames X.base X.stack:=by
 rcases I.ok.stk with e|⟨e,hf⟩
 .rw[e];exact I.funs
 .rw[e];obtain⟨m,U,_⟩:=I.loc;refine .cons (by rw[I.ok.kind];decide) hf U ?_ I.funs;exact Heap.get?_none_of_le (Bf I.ok.bsz I.ok.above)
theorem Inv.stkSub(I:Inv X pins Z H s):∀b∈dX X.stack,b∈X.env.locals::X.fs:=λb Y=>by
 rcases I.ok.stk with e|⟨e,hf⟩
 .rw[e]at Y;exact Bb _ Y
 .rw[e]at Y;unfold dX at Y;rw[Eu,hf]at Y;exact Y
theorem Inv.stkFree(I:Inv X pins Z H s):∀b∈dX X.stack,H b=none:=λb Y=>by
 rcases Bd.mp (I.stkSub b Y) with e|Y
 .rw[e];exact I.free
 .obtain⟨_,o,D,_⟩:=I.ok.funs.mem Y;exact I.base.free b o D (I.ok.frf b Y) λz=>I.ok.exfs b z Y
theorem Inv.step{g':Array GenState}{t':Nat}{d':Drawn}{ch:List Aj}(I:Inv X pins Z H s)(f:∀b∈ch,(b∈X.ex\/X.s₀.heap.objs.size<=b)/\b≠X.env.locals/\(∀x c,X.env.cells.lookup x=some c->c≠b)/\∀p∈X.pn++pins,p.1≠b)(keep:∀b o,b≠X.env.locals->b∉X.fs->b∉ch->s.heap.get? b=some o->H b=none->h'.get? b=some o)(slot:∀b o,b≠X.env.locals->b∈X.fs->b∉ch->s.heap.get? b=some o->H b=none->∃sl,h'.get? b=some {o with slots:=sl})(free:∀b o,b∉ch->s.heap.get? b=some o->H b=none->H' b=none)(there:∀b o,b∉ch->s.heap.get? b=some o->∃o',h'.get? b=some o')(tups:∀b xs,H b=some (.tup xs)->H' b=some (.tup xs))(frzs:∀b o u,H b=some (.frz o u)->H' b=some (.frz o u))(tbls:∀b ps,H b=some (.tbl ps)->∃more,H' b=some (.tbl (ps++more)))(ns:∀m,s.heap.Ns X.env.locals m->h'.Ns X.env.locals m)(hok:cG X.prog X.w H' h')(W:My g'):
  Inv X pins Z H' {s with heap:=h',gens:=g',drawn:=d',toks:=t'}:=by
 have a:∀b o,X.s₀.heap.get? b=some o->b≠X.env.locals:=λb o e=>Bo (Bx (Bh e) I.ok.above);have A:∀b o,X.s₀.heap.get? b=some o->b∉X.ex->b∉ch:=λb o e S Y=>by
  rcases(f b Y).1 with z|z
  .exact S z
  .exact absurd (Bx (Bh e) z) (Im _)
 have h:∀x c,X.env.cells.lookup x=some c->∀v,s.heap.IsCell c v->h'.IsCell c v:=λx c e v ⟨o,D,hd⟩=>by
  have j:c∉ch:=λz=>(f c z).2.2.1 x c e rfl
  by_cases hc:c∈X.fs
  .obtain⟨sl,q⟩:=slot c o (I.cne x c e) hc j D (I.freeC x c e);exact⟨_,q,hd⟩
  .exact⟨o,keep c o (I.cne x c e) hc j D (I.freeC x c e),hd⟩
 refine⟨I.ok,I.os,W,⟨λb o e n Y S=>?_,λb o e n Y S=>?_,λb o e n S=>?_,λb o e S=>?_,λb xs e=>tups b xs (I.base.tups b xs e),λb o xs e=>frzs b o xs (I.base.frzs b o xs e),λb ps e=>?_⟩,?_,λx c e=>?_,?_,λx c e=>?_,λp B=>?_,hok,I.len⟩
 .exact keep b o (a b o e) Y (A b o e S) (I.base.keep b o e n Y S) (I.base.free b o e n S)
 .obtain⟨sl,T⟩:=I.base.slot b o e n Y S;obtain⟨y,G⟩:=slot b _ (a b o e) Y (A b o e S) T (I.base.free b o e n S);exact⟨y,G⟩
 .obtain⟨o',T⟩:=I.base.there b o e S;exact free b o' (A b o e S) T (I.base.free b o e n S)
 .obtain⟨o',T⟩:=I.base.there b o e S;exact there b o' (A b o e S) T
 .obtain⟨m1,T⟩:=I.base.tbls b ps e;obtain⟨m2,G⟩:=tbls b _ T;exact⟨m1++m2,by rw[G,Array.append_assoc]⟩
 .obtain⟨m,U,hl⟩:=I.loc;refine⟨m,ns m U,λi x v T G t=>?_⟩;obtain⟨u,r,l⟩:=hl i x v T G t;refine⟨u,r,?_⟩;rcases l with l|⟨k,c,e,z⟩
  .exact .inl l
  .exact .inr ⟨k,c,e,h x c e _ z⟩
 .obtain⟨v,z⟩:=I.cell x c e;exact⟨v,h x c e v z⟩
 .obtain⟨m,⟨o,_,_,D,_⟩,_⟩:=I.loc;exact free _ o (λz=>(f _ z).2.1 rfl) D I.free
 .obtain⟨v,o,D,hd⟩:=I.cell x c e;exact free c o (λz=>(f c z).2.2.1 x c e rfl) D (I.freeC x c e)
 .obtain⟨e,n,ne,g,d⟩:=I.pin p B;have j:p.1∉ch:=λz=>(f p.1 z).2.2.2 p B rfl;exact⟨keep p.1 p.2 ne g j e n,free p.1 p.2 j e n,ne,g,d⟩
theorem Inv.un{t':Nat}(I:Inv X pins Z H s)(u:Un X.fs [] H H' s.heap h')(hok:cG X.prog X.w H' h'):Inv X pins Z H' {s with heap:=h',toks:=t'}:=by
 obtain⟨m,⟨o,es,ep,D,r⟩,_⟩:=id I.loc;obtain⟨sl,j⟩:=u.any D I.free (by simp);exact I.step (g':=s.gens) (d':=s.drawn) (ch:=[]) (λ_ z=>nomatch z) (λb o _ Y _ e n=>u.keep b o e n Y (by simp)) (λb o _ Y _ e n=>u.slot b o e n Y (by simp)) (λb o _ e n=>u.free b o e n (by simp)) (λb o _ e=>u.there b o e (by simp)) u.tups u.frzs u.tbls (λa J=>by
  obtain⟨o',l,Q,d,A⟩:=J;rw[D]at d;cases d;exact⟨_,l,Q,j,A⟩) hok I.bare
theorem Inv.call{g':Array GenState}{t':Nat}{d':Drawn}{ch:List Aj}(I:Inv X pins Z H s)(u:Un (dX X.stack) ch H H' s.heap h')(hok:cG X.prog X.w H' h')(W:My g')(f:∀b∈ch,(b∈X.ex\/X.s₀.heap.objs.size<=b)/\b≠X.env.locals/\(∀x c,X.env.cells.lookup x=some c->c≠b)/\∀p∈X.pn++pins,p.1≠b):
  Inv X pins Z H' {s with heap:=h',gens:=g',drawn:=d',toks:=t'}:=by
 obtain⟨m,⟨o,es,ep,D,r⟩,_⟩:=id I.loc;obtain⟨sl,j⟩:=u.any D I.free λz=>(f _ z).2.1 rfl;exact I.step (ch:=ch) f (λb o j Y hc e n=>u.keep b o e n (λz=>(Bd.mp (I.stkSub b z)).elim j Y) hc) (λb o _ _ hc e n=>u.any e n hc) (λb o hc e n=>u.free b o e n hc) (λb o hc e=>u.there b o e hc) u.tups u.frzs u.tbls (λa J=>by
  obtain⟨o',l,Q,d,A⟩:=J;rw[D]at d;cases d;exact⟨_,l,Q,j,A⟩) hok W
theorem Inv.turned{t':Nat}{it:Aj}(I:Inv X pins Z H s)(k:∀b o,b≠it->s.heap.get? b=some o->h'.get? b=some o)(U:H it=none)(j:it≠X.env.locals)(h1:it∈X.ex\/X.s₀.heap.objs.size<=it)(h2:∀x c,X.env.cells.lookup x=some c->c≠it)(f:∀p∈X.pn++pins,p.1≠it):Inv X pins Z H {s with heap:=h',toks:=t'}:=by
 have a:∀b u,H b=some u->b≠it:=λb u e z=>by rw[z,U]at e;cases e
 refine I.step (g':=s.gens) (d':=s.drawn) (ch:=[it]) (λb Y=>?_) (λb o _ _ hc e _=>k b o (λz=>hc (by simp[z])) e) (λb o _ _ hc e _=>⟨o.slots,k b o (λz=>hc (by simp[z])) e⟩) (λ_ _ _ _ n=>n)
  (λb o hc e=>⟨o,k b o (λz=>hc (by simp[z])) e⟩) (λ_ _ e=>e) (λ_ _ _ e=>e) (λb ps e=>⟨#[],by rw[e];simp⟩) (λm J=>?_) (λb u e=>?_) I.bare
 .have e:b=it:=by simpa using Y
  subst e;exact⟨h1,j,h2,f⟩
 .obtain⟨o,es,ep,D,r⟩:=J;exact⟨o,es,ep,k _ o (Bq j) D,r⟩
 .refine(I.hok b u e).stay (λc v hc q=>k c v ?_ q) (λ_ q=>q) λ_ _ q=>q;rcases hc with z|z
  .rw[z];exact a b u e
  .exact a c _ z
theorem Inv.tok(I:Inv X pins Z H s)(t:Nat):Inv X pins Z H {s with toks:=t}:=I.un (h':=s.heap) (t':=t) Un.refl I.hok
theorem Inv.kept{t':Nat}(I:Inv X pins Z H s)(k:∀b u,s.heap.get? b=some u->h'.get? b=some u):Inv X pins Z H {s with heap:=h',toks:=t'}:=I.un (Un.kept k) (I.hok.kept k)
theorem Inv.laid{a:Aj}{o:HO}{t':Nat}(I:Inv X pins Z H s)(k:∀b u,s.heap.get? b=some u->h'.get? b=some u)(B:s.heap.objs.size<=a)(new:b9 X.prog X.w (aN H a o) h' a o):
  Inv X pins Z (aN H a o) {s with heap:=h',toks:=t'}:=I.un (Un.laid k B (I.hok.fresh B)) (I.hok.laid k B new)
theorem Inv.write{x e:Aj}{o:HO}{t':Nat}(I:Inv X pins Z H s)(d:pZ (H x))(P:e=x\/H e=some (.own x))(k:∀b u,b≠e->s.heap.get? b=some u->h'.get? b=some u)(f:∃u,h'.get? e=some u)(new:b9 X.prog X.w (aN H x o) h' x o):Inv X pins Z (aN H x o) {s with heap:=h',toks:=t'}:=I.un (Un.write d P k f) (I.hok.write d P k f new)
theorem Inv.pins_of{a:Pn}(I:Inv X pins Z H s)(h:∀p∈a,s.heap.get? p.1=some p.2/\H p.1=none/\p.1≠X.env.locals/\p.1∉X.fs/\∀v,p.2.data≠.cell v):Inv X a Z H s:=
 ⟨I.ok,I.os,I.bare,I.base,I.loc,I.cell,I.free,I.freeC,λp B=>(Ba.mp B).elim (λz=>I.pin p (Bg _ z)) (h p),I.hok,I.len⟩
theorem v9{N:List Aw}(Z:N.Nodup){i j:Nat}{x:Aw}(a:N[i]? = some x)(b:N[j]? = some x):i=j:=by
 obtain⟨h1,T⟩:=An.mp a;obtain⟨h2,G⟩:=An.mp b;exact(List.getElem_inj Z).mp (T.trans G.symm)
theorem B6{M:Rq}{A:Cn}{E:Ae->Ah->Prop}{i:Nat}{x:Aw}{v:V}{u:Ae}{Q:Unit->Ah->Prop}(I:Inv X pins Z H s)(N:X.N.Nodup)(hi:X.N[i]? = some x)(S:Loc X.env.scope x)(r:RelV v u)(h:∀W,Inv X pins (Z.set i (some v)) H W->(∃a,Eh a s.heap W.heap/\(a=X.env.locals\/X.env.cells.lookup x=some a))->Q () W)(hf:Fy X x:=by first|exact .inl rfl|exact .inr rfl|assumption):Bl M A (storeName X.env x u) Q E s:=by
 obtain⟨m,U,hl⟩:=id I.loc;have hcls:(X.env.scope.kind==.class||(X.env.scope.kind==.module&&X.env.locals !=X.env.globals))=false:=by rw[I.ok.kind];rfl
 have hiσ:i<Z.length:=by rw[I.len];exact(An.mp hi).1
 have cne:=I.cne;have f:∀{a:Aj} {h':Cr},(∃o,s.heap.get? a=some o/\H a=none)->Eh a s.heap h'->cG X.prog X.w H h':=λ{a h'} l F b ob e=>by
  obtain⟨_,_,K⟩:=l;refine(I.hok b ob e).stay (λc P hc q=>(F.2 c ?_).trans q) (λ_ q=>q) λ_ _ q=>q;rintro rfl;rcases hc with rfl|hc
  .rw[K]at e;cases e
  .rw[K]at hc;cases hc
 rcases S with hk|hk
 .refine wpAny_storeName_local hk U (λh' hn' F=>?_) hcls;obtain⟨oL,_,_,hoL,_⟩:=id U;refine h _ ⟨I.ok,I.os,I.bare,⟨λb o e n Y S=>?_,λb o e n Y S=>?_,I.base.free,λb o e S=>?_,I.base.tups,I.base.frzs,I.base.tbls⟩,⟨_,hn',λj y v' T G t=>?_⟩,λy c e=>?_,I.free,I.freeC,λp B=>?_,f ⟨oL,hoL,I.free⟩ F,by simpa using I.len⟩ ⟨_,F,.inl rfl⟩
  .exact(F.2 b (Bo (Bx (Bh e) I.ok.above))).trans (I.base.keep b o e n Y S)
  .obtain⟨sl,T⟩:=I.base.slot b o e n Y S;exact⟨sl,(F.2 b (Bo (Bx (Bh e) I.ok.above))).trans T⟩
  .obtain⟨o',T⟩:=I.base.there b o e S;exact⟨o',(F.2 b (Bo (Bx (Bh e) I.ok.above))).trans T⟩
  .by_cases D:j=i
   .subst D;rw[hi]at T;cases T;rw[List.getElem?_set_self hiσ]at G;cases G;exact⟨u,r,.inl ⟨hk,by simp⟩⟩
   .rw[Ot (Bq D)]at G;obtain⟨u',R,q⟩:=hl j y v' T G t;refine⟨u',R,?_⟩;rcases q with⟨k,e⟩|⟨k,c,e,z⟩
    .refine .inl ⟨k,?_⟩;have:y≠x:=λe=>D (v9 N T (e▸hi));simp[this,e]
    .exact .inr ⟨k,c,e,z.sameBut F (cne y c e)⟩
  .obtain⟨P,z⟩:=I.cell y c e;exact⟨P,z.sameBut F (cne y c e)⟩
  .obtain⟨e,n,ne,nf,d⟩:=I.pin p B;exact⟨(F.2 p.1 ne).trans e,n,ne,nf,d⟩
 .have hfn:X.fn x=true:=by
   rcases hf with z|z
   .exact z
   .rw[z]at hk;cases hk
  obtain⟨c,hc⟩:=I.ok.has x (.inl hk);obtain⟨P,z⟩:=I.cell x c hc;refine wpAny_storeName_cell I.ok.kind hk hc z (λh' hc' F=>?_);obtain⟨O,C,hocd⟩:=id z;refine h {s with heap:=h'} ⟨I.ok,I.os,I.bare,⟨λb o e n Y S=>?_,λb o e n Y S=>?_,I.base.free,λb o e S=>?_,I.base.tups,I.base.frzs,I.base.tbls⟩,⟨m,U.sameBut F (Bq (cne x c hc)),λj y v' T G t=>?_⟩,λy L e=>?_,I.free,I.freeC,λp B=>?_,f ⟨O,C,I.freeC x c hc⟩ F,by simpa using I.len⟩ ⟨c,F,.inr hc⟩
  .exact(F.2 b (Bo (Bx (Bh e) (I.ok.cab x c hfn hc)))).trans (I.base.keep b o e n Y S)
  .obtain⟨sl,T⟩:=I.base.slot b o e n Y S;exact⟨sl,(F.2 b (Bo (Bx (Bh e) (I.ok.cab x c hfn hc)))).trans T⟩
  .obtain⟨o',T⟩:=I.base.there b o e S;exact⟨o',(F.2 b (Bo (Bx (Bh e) (I.ok.cab x c hfn hc)))).trans T⟩
  .by_cases D:j=i
   .subst D;rw[hi]at T;cases T;rw[List.getElem?_set_self hiσ]at G;cases G;exact⟨u,r,.inr ⟨.inl hk,c,hc,hc'⟩⟩
   .rw[Ot (Bq D)]at G;obtain⟨u',R,q⟩:=hl j y v' T G t;refine⟨u',R,?_⟩;rcases q with q|⟨k,L,e,z'⟩
    .exact .inl q
    .refine .inr ⟨k,L,e,z'.sameBut F ?_⟩;rintro rfl;exact D (v9 N T (I.ok.inj _ _ _ e hc▸hi))
  .by_cases hcc:L=c
   .subst hcc;exact⟨_,hc'⟩
   .obtain⟨w2,g⟩:=I.cell y L e;exact⟨w2,g.sameBut F hcc⟩
  .obtain⟨e,n,ne,nf,d⟩:=I.pin p B;refine⟨(F.2 p.1 ?_).trans e,n,ne,nf,d⟩;intro q;rw[q,C]at e;have J:O=p.2:=Ci e;exact d P (by rw[<-J];exact hocd)
theorem wA{M:Rq}{A:Cn}{E:Ae->Ah->Prop}{i:Nat}{x:Aw}{v:V}{u:Ae}{Q:Unit->Ah->Prop}(I:Inv X pins Z H s)(Y:X.N.Nodup)(hi:X.N[i]? = some x)(S:Loc X.env.scope x)(r:RelV v u)(h:∀W,Inv X pins (Z.set i (some v)) H W->Q () W)(hf:Fy X x:=by first|exact .inl rfl|exact .inr rfl|assumption):Bl M A (storeName X.env x u) Q E s:=
 B6 I Y hi S r (λW n _=>h W n) hf
theorem Inv.call'{W:Ah}{ch:List Aj}(I:Inv X pins Z H s)(D:W.os=s.os)(u:Un (dX X.stack) ch H H' s.heap W.heap)(hok:cG X.prog X.w H' W.heap)(Y:My W.gens)(f:∀b∈ch,(b∈X.ex\/X.s₀.heap.objs.size<=b)/\b≠X.env.locals/\(∀x c,X.env.cells.lookup x=some c->c≠b)/\∀p∈X.pn++pins,p.1≠b):Inv X pins Z H' W:=by
 obtain⟨h',g',d',t',o'⟩:=W;have e:o'=s.os:=D;subst e;exact I.call (g':=g') (t':=t') (d':=d') u hok Y f
end
abbrev XK:=Ae->Option Aj->Hp->Prop
abbrev St:=List (Option V)
abbrev VK:=V->Hp->Prop
abbrev TE:=St->Hp->VK->Prop
abbrev TT:=St->Hp->(Bool->Hp->Prop)->Prop
abbrev TA:=St->Hp->(List V->Hp->Prop)->Prop
structure gT where
 nx:St->Hp->Prop
 rt:VK
 bk:St->Hp->Prop:=λ_ _=>False
 ct:St->Hp->Prop:=λ_ _=>False
abbrev TS:=gT->St->Hp->Prop
def EP(X:Cx)(pins:Pn)(Z:St)(Q:VK)(u:Ae)(W:Ah):Prop:=∃v j,Inv X pins Z j W/\RelV v u/\Q v j
def TP(X:Cx)(pins:Pn)(Z:St)(Q:Bool->Hp->Prop)(b:Bool)(W:Ah):Prop:=∃j,Inv X pins Z j W/\Q b j
def AP(X:Cx)(pins:Pn)(Z:St)(Q:List V->Hp->Prop)(us:List Ae)(W:Ah):Prop:=∃vs j,Inv X pins Z j W/\aX vs us/\Q vs j
def SP(X:Cx)(pins:Pn)(D:gT)(f:Flow)(W:Ah):Prop:=
 match f with
 | .next=>∃l j,Inv X pins l j W/\D.nx l j
 | .brk=>∃l j,Inv X pins l j W/\D.bk l j
 | .cont=>∃l j,Inv X pins l j W/\D.ct l j
 | .ret u=>∃v l j,Inv X pins l j W/\RelV v u/\D.rt v j
def PE(X:Cx)(e:Cb)(t:TE):Prop:=
 ∀(pins:Pn) (s:Ah) (Z:St) (H:Hp) (Q:VK),Inv X pins Z H s->t Z H Q->X.a (El e X.env) (EP X pins Z Q) X.xe s
def PT(X:Cx)(e:Cb)(t:TT):Prop:=
 ∀(pins:Pn) (s:Ah) (Z:St) (H:Hp) (Q:Bool->Hp->Prop),Inv X pins Z H s->t Z H Q->X.a (Tg e X.env (El e X.env)) (TP X pins Z Q) X.xe s
def PW(X:Cx)(e:Cb)(t:TT):Prop:=
 ∀(c:Rw Ae) (pins:Pn) (s:Ah) (Z:St) (H:Hp) (Q:Bool->Hp->Prop),Inv X pins Z H s->t Z H Q->X.a (Tg e X.env c) (TP X pins Z Q) X.xe s
theorem PW.pt(h:PW X e t):PT X e t:=h _
def PA(X:Cx)(es:List Cb)(t:TA):Prop:=
 ∀(pos:Gy) (pins:Pn) (s:Ah) (Z:St) (H:Hp) (Q:List V->Hp->Prop),Inv X pins Z H s->t Z H Q->X.a (spliced (Me pos (Cj es X.env))) (AP X pins Z Q) X.xe s
def PS(X:Cx)(st:Gn)(t:TS):Prop:=
 ∀(pins:Pn) (s:Ah) (Z:St) (H:Hp) (D:gT),Inv X pins Z H s->t D Z H->X.a (exec st X.env) (SP X pins D) X.xe s
def eR(X:Cx)(st:List Gn)(t:TS):Prop:=
 ∀(pins:Pn) (s:Ah) (Z:St) (H:Hp) (D:gT),Inv X pins Z H s->t D Z H->X.a (execs st X.env) (SP X pins D) X.xe s
theorem aY{y:Type}{t:Rw y}{Q f:y->Ah->Prop}{M:Rq}{A:Cn}{E:Ae->Ah->Prop}{s:Ah}(h:Bl M A t Q E s)(H:∀a s,Q a s->f a s):Bl M A t f E s:=Fo h H λ_ _ x=>x
section
variable {X:Cx}
def O6(i:Nat):TE:=λZ H Q=>∃v,Z[i]? = some (some v)/\Q v H
def tC(v:V):TE:=λ_ H Q=>Q v H
theorem B7{i:Nat}(Y:X.N[i]? = some x)(g:sF X.env.scope x)(hd:Db x:=by decide)(z:(x==("__classdict__" : Aw))=false:=by decide):PE X (.Name x pos) (O6 i):=by
 intro pins s Z H Q I h;obtain⟨v,e,h⟩:=h;obtain⟨m,U,hl⟩:=I.loc;obtain⟨u,r,l⟩:=hl i x v Y e g;have fin:EP X pins Z Q u s:=⟨v,H,I,r,h⟩;rcases l with⟨hk,J⟩|⟨hk,c,hc,a⟩
 .exact Ud (wpAny_loadName_local I.ok.kind hk U J fin) hd
 .rcases hk with hk|hk
  .exact Ud (wpAny_loadName_cell I.ok.kind hk hc a fin) hd
  .exact Ud (wpAny_loadName_free I.ok.kind hk hc a fin z) hd
theorem O7{i j pos}:PE X (.Constant (.int i) j pos) (tC (.int i)):=λ_ _ _ H _ I h=>wpAny_Constant_int ⟨.int i,H,I.tok _,⟨_,rfl⟩,h⟩
theorem O8{b j pos}:PE X (.Constant (.bool b) j pos) (tC (.bl b)):=λ_ _ _ H _ I h=>Constant_bool ⟨.bl b,H,I,rfl,h⟩
theorem O9{x j pos}:PE X (.Constant (.str x) j pos) (tC (.str x)):=λ_ _ _ H _ I h=>Calls.Constant_str ⟨.str x,H,I.tok _,⟨_,rfl⟩,h⟩
def Gl(X:Cx)(x:Aw):Prop:=X.env.kindOf x=some .globalImplicit
theorem iS{E:Ae->Ah->Prop}{Q:Ae->Ah->Prop}(I:Inv X pins Z H s)(Y:Gl X x)(J:X.mg x=some u)(h:Q u s)(hd:Db x:=by decide):X.a (El (.Name x pos) X.env) Q E s:=
 Calls.Name_function_global I.ok.kind Y (Calls.loadGlobal_global (by rw[I.ok.glob];exact I.mod.glob.keeps I.bk) J h) hd
theorem iA{E:Ae->Ah->Prop}{Q:Ae->Ah->Prop}(I:Inv X pins Z H s)(t:Gl X x)(J:X.mg x=none)(c:Cs x=some u)(h:Q u s)(U:x≠"__name__":=by decide)(hd:Db x:=by decide):X.a (El (.Name x pos) X.env) Q E s:=by
 obtain⟨M,O,Y⟩:=I.mod.blt;exact Calls.Name_function_global I.ok.kind t (Calls.loadGlobal_builtin (by rw[I.ok.glob];exact I.mod.glob.keeps I.bk) J (by rw[I.ok.blt];exact O.keeps I.bk) ((Y x U).trans c) h) hd
theorem PC(Z:Gl X x)(J:X.mg x=some u)(r:RelV v u)(hd:Db x:=by decide):PE X (.Name x pos) (tC v):=
 λ_ _ _ H _ I h=>iS I Z J ⟨v,H,I,r,h⟩ hd
theorem PD(Z:Gl X x)(J:X.mg x=none)(c:Cs x=some u)(r:RelV v u)(U:x≠"__name__":=by decide)(hd:Db x:=by decide):PE X (.Name x pos) (tC v):=
 λ_ _ _ H _ I h=>iA I Z J c ⟨v,H,I,r,h⟩ U hd
variable {a b:Cb}{ta tb:TE}{pos:Gy}
variable {tA tB':TT}{rest:List Cb}
def PF(t u:TT):TT:=λZ H Q=>t Z H λc G=>if c=true then u Z G Q else Q false G
def PH(t u:TT):TT:=λZ H Q=>t Z H λc G=>if c=true then Q true G else u Z G Q
def PJ(t:TT):TT:=λZ H Q=>t Z H λc G=>Q (!c) G
theorem PK(l:PT X a tA):PW X (.BoolOp .And [a] pos) tA:=by
 intro d pins s Z H Q I h;refine isTrue_and (aY (l pins s Z H Q I h) λc M e=>?_);cases c with
 | true=>exact isTrue_and_nil e
 | false=>exact e
theorem PL(l:PT X a tA):PW X (.BoolOp .Or [a] pos) tA:=by
 intro d pins s Z H Q I h;refine isTrue_or (aY (l pins s Z H Q I h) λc M e=>?_);cases c with
 | false=>exact isTrue_or_nil e
 | true=>exact e
theorem PM(l:PT X a tA)(Y:PW X (.BoolOp .And (b::rest) pos) tB'):PW X (.BoolOp .And (a::b::rest) pos) (PF tA tB'):=by
 intro d pins s Z H Q I h;refine isTrue_and (aY (l pins s Z H _ I h) λc M ⟨G,L,f⟩=>?_);cases c with
 | true=>exact Y d pins M Z G Q L f
 | false=>exact⟨G,L,f⟩
theorem PQ(l:PT X a tA)(Y:PW X (.BoolOp .Or (b::rest) pos) tB'):PW X (.BoolOp .Or (a::b::rest) pos) (PH tA tB'):=by
 intro d pins s Z H Q I h;refine isTrue_or (aY (l pins s Z H _ I h) λc M ⟨G,L,f⟩=>?_);cases c with
 | true=>exact⟨G,L,f⟩
 | false=>exact Y d pins M Z G Q L f
theorem PR(l:PT X a tA):PT X (.UnaryOp .Not a pos) (PJ tA):=by
 intro pins s Z H Q I h;exact isTrue_not (l pins s Z H (λc G=>Q (!c) G) I h)
def PU(ta tb:TE):TE:=λZ H Q=>ta Z H λx G=>∃c,x=.bl c/\if c=true then tb Z G Q else Q (.bl false) G
def PV(ta tb:TE):TE:=λZ H Q=>ta Z H λx G=>∃c,x=.bl c/\if c=true then Q (.bl true) G else tb Z G Q
theorem PX{op}(h:PE X a t):PE X (.BoolOp op [a] pos) t:=λpins s Z H Q I hw=>BoolOp_one (h pins s Z H Q I hw)
theorem PY(l:PE X a ta)(Y:PE X (.BoolOp .And (b::rest) pos) tb):PE X (.BoolOp .And (a::b::rest) pos) (PU ta tb):=by
 intro pins s Z H Q I h;refine BoolOp_and (aY (l pins s Z H _ I h) λv M ⟨x,G,L,B,f⟩=>?_);obtain⟨c,rfl,f⟩:=f;cases B;refine Je ?_;cases c with
 | true=>exact Y pins M Z G Q L f
 | false=>exact⟨.bl false,G,L,rfl,f⟩
theorem PZ(l:PE X a ta)(Y:PE X (.BoolOp .Or (b::rest) pos) tb):PE X (.BoolOp .Or (a::b::rest) pos) (PV ta tb):=by
 intro pins s Z H Q I h;refine BoolOp_or (aY (l pins s Z H _ I h) λv M ⟨x,G,L,B,f⟩=>?_);obtain⟨c,rfl,f⟩:=f;cases B;refine Je ?_;cases c with
 | false=>exact Y pins M Z G Q L f
 | true=>exact⟨.bl true,G,L,rfl,f⟩
def P0(t:TT)(ta tb:TE):TE:=λZ H Q=>t Z H λc G=>if c=true then ta Z G Q else tb Z G Q
theorem P1{c:Cb}(hc:PT X c tA)(l:PE X a ta)(Y:PE X b tb):PE X (.IfExp c a b pos) (P0 tA ta tb):=by
 intro pins s Z H Q I h;refine wpAny_IfExp (aY (hc pins s Z H _ I h) λd M ⟨G,L,f⟩=>?_);cases d with
 | true=>exact l pins M Z G Q L f
 | false=>exact Y pins M Z G Q L f
end
def bH(K:Ac)(H:Hp)(a:Aj)(xs:List V):Prop:=
 Rd H a (.lst xs)\/
  ∃(o:Lc) (its:Array Ae) (n:Nat),K.lookup a=some o/\o.cls=.type "list"/\o.dict=none/\o.data=.seq its n/\its.size<=Ao/\aX xs its.toList
def bW(K:Ac)(H:Hp)(a:Aj)(xs:List V):Prop:=
 Rd H a (.tup xs)\/
  ∃(o:Lc) (its:Array Ae) (n:Nat),K.lookup a=some o/\o.cls=.type "tuple"/\o.data=.seq its n/\its.size<=Ao/\aX xs its.toList
def P2:Ae->Option V
 | .none=>some .non
 | .bool b=>some (.bl b)
 | .int i _=>some (.int i)
 | .str x _=>some (.str x)
 | .bytes b _=>some (.byt b)
 | .float b _=>some (.flt b)
 | .ref a=>some (.ref a)
 | .type n=>some (.ty n)
 | _=>none
theorem RelV.abs(r:RelV x u):P2 u=some x:=by
 cases x with
 | non=>cases r;rfl
 | bl _=>cases r;rfl
 | int _=>obtain⟨t,rfl⟩:=r;rfl
 | str _=>obtain⟨t,rfl⟩:=r;rfl
 | byt _=>obtain⟨t,rfl⟩:=r;rfl
 | flt _=>obtain⟨t,rfl⟩:=r;rfl
 | ref _=>cases r;rfl
 | ty _=>cases r;rfl
theorem RelV.inj(r:RelV x u)(q:RelV y u):x=y:=Ci (r.abs.symm.trans q.abs)
theorem aX.inj:∀{xs ys:List V} {us:List Ae},aX xs us->aX ys us->xs=ys
 | _,_,_,.nil,.nil=>rfl
 | _,_,_,.cons r t,.cons A t'=>by rw[r.inj A,aX.inj t t']
section
variable {X:Cx}{pins:Pn}{Z:St}{H:Hp}{s:Ah}{a:Aj}{xs ys:List V}
theorem bH.of{K:Ac}(h:H a=some (.lst xs)):bH K H a xs:=.inl (.inl h)
theorem bW.of{K:Ac}(h:H a=some (.tup xs)):bW K H a xs:=.inl (.inl h)
theorem Inv.list(I:Inv X pins Z H s)(h:bH X.K H a xs):∃its:List Ae,aX xs its/\PlainL s.heap a its.toArray/\xs.length<=Ao:=by
 rcases h with h|⟨o,its,n,hk,hc,hd,F,hz,r⟩
 .obtain⟨z,its,n,r,e⟩:=h.ok I.hok;exact⟨its,r,⟨_,n,e,rfl,rfl,rfl⟩,z⟩
 .refine⟨its.toList,r,⟨o,n,I.kIn a o hk,hc,hd,by simpa using F⟩,?_⟩;have e:=r.length;simp only[Gu]at e;lia
theorem Inv.tuple(I:Inv X pins Z H s)(h:bW X.K H a xs):∃its:List Ae,aX xs its/\IsTup s.heap a its.toArray/\xs.length<=Ao:=by
 rcases h with h|⟨o,its,n,hk,hc,F,hz,r⟩
 .obtain⟨z,its,r,p⟩:=h.ok I.hok;exact⟨its,r,p,z⟩
 .refine⟨its.toList,r,⟨o,I.kIn a o hk,hc,n,by simpa using F⟩,?_⟩;have e:=r.length;simp only[Gu]at e;lia
theorem Inv.list_inj(I:Inv X pins Z H s)(h:bH X.K H a xs)(h':bH X.K H a ys):xs=ys:=by
 obtain⟨its,r,⟨o,n,e,_,_,d⟩,_⟩:=I.list h;obtain⟨its',A,⟨L,c,M,_,_,d'⟩,_⟩:=I.list h';rw[e]at M;cases M;rw[d]at d';injection d' with d1 _;have:its=its':=by simpa using congrArg Array.toList d1
 subst this;exact r.inj A
theorem Inv.tuple_inj(I:Inv X pins Z H s)(h:bW X.K H a xs)(h':bW X.K H a ys):xs=ys:=by
 obtain⟨its,r,⟨o,e,_,n,d⟩,_⟩:=I.tuple h;obtain⟨its',A,⟨L,M,_,c,d'⟩,_⟩:=I.tuple h';rw[e]at M;cases M;rw[d]at d';injection d' with d1 _;have:its=its':=by simpa using congrArg Array.toList d1
 subst this;exact r.inj A
end
abbrev Cx.wish(X:Cx)(E:Ae->Ah->Prop):Cx:={X with xe:=E}
abbrev Cx.nox(X:Cx):Cx:=X.wish λ_ _=>False
theorem Cx.Ok.wish{X:Cx}(ok:X.Ok)(E:Ae->Ah->Prop):(X.wish E).Ok:=
 ⟨ok.mod,ok.kind,ok.glob,ok.blt,ok.above,ok.inj,ok.has,ok.cab,ok.hd,ok.frames,ok.stk,ok.exf,ok.bs,ok.bsz,ok.noex,ok.exfs,ok.funs,ok.frf⟩
theorem Cx.Ok.unwish{X:Cx}{E:Ae->Ah->Prop}(ok:(X.wish E).Ok):X.Ok:=
 ⟨ok.mod,ok.kind,ok.glob,ok.blt,ok.above,ok.inj,ok.has,ok.cab,ok.hd,ok.frames,ok.stk,ok.exf,ok.bs,ok.bsz,ok.noex,ok.exfs,ok.funs,ok.frf⟩
section
variable {X:Cx}{pins:Pn}{Z:St}{H:Hp}{s:Ah}{E:Ae->Ah->Prop}
theorem Inv.wish(I:Inv X pins Z H s)(E:Ae->Ah->Prop):Inv (X.wish E) pins Z H s:=⟨I.ok.wish E,I.os,I.bare,I.base,I.loc,I.cell,I.free,I.freeC,I.pin,I.hok,I.len⟩
theorem Inv.unwish(I:Inv (X.wish E) pins Z H s):Inv X pins Z H s:=⟨I.ok.unwish,I.os,I.bare,I.base,I.loc,I.cell,I.free,I.freeC,I.pin,I.hok,I.len⟩
theorem SP.unwish(h:SP (X.wish E) pins D f s'):SP X pins D f s':=by
 cases f with
 | next=>obtain⟨σ',H',I,q⟩:=h;exact⟨σ',H',I.unwish,q⟩
 | brk=>obtain⟨σ',H',I,q⟩:=h;exact⟨σ',H',I.unwish,q⟩
 | cont=>obtain⟨σ',H',I,q⟩:=h;exact⟨σ',H',I.unwish,q⟩
 | ret u=>obtain⟨v,σ',H',I,r,q⟩:=h;exact⟨v,σ',H',I.unwish,r,q⟩
theorem eR.nox{st:List Gn}{t:TS}(h:eR X.nox st t):eR X st t:=λpins s Z H D I hw=>
 Fo (h pins s Z H D (I.wish _) hw) (λ_ _ q=>q.unwish) λ_ _ z=>Bn z
end
section
variable {X:Cx}{st:Gn}{rest:List Gn}{t u:TS}{e:Cb}{te:TE}{pos:Gy}
def P4:TS:=λD Z H=>D.nx Z H
def P5(t u:TS):TS:=λD Z H=>t {D with nx:=u D} Z H
theorem B8:eR X [] P4:=λ_ _ Z H _ I h=>Hv ⟨Z,H,I,h⟩
theorem B9(h1:PS X st t)(h2:eR X rest u):eR X (st::rest) (P5 t u):=by
 intro pins s Z H D I h;refine Ln (aY (h1 pins s Z H {D with nx:=u D} I h) λf s1 q=>?_);cases f with
 | next=>
  obtain⟨σ',H',I',q⟩:=q;exact h2 pins s1 σ' H' D I' q
 | ret v=>exact q
 | brk=>exact q
 | cont=>exact q
theorem CA(h1:PS X st t):eR X [st] t:=by
 intro pins s Z H D I h;refine Ln (aY (h1 pins s Z H D I h) λf s1 q=>?_);cases f with
 | next=>exact Hv q
 | ret v=>exact q
 | brk=>exact q
 | cont=>exact q
theorem Inv.quiet(I:Inv X pins Z H s):interactive X.env=false:=by simp[interactive,I.ok.kind]
def CB(te:TE):TS:=λD Z H=>te Z H λ_ G=>D.nx Z G
theorem wB(P:PE X e te)(F:Ig e none pos.line X.env=pure false:=by rfl):PS X (.Expr e pos) (CB te):=by
 intro pins s Z H D I h;exact wpAny_Expr_any (aY (P pins s Z H _ I h) λv M ⟨x,G,L,B,f⟩=>⟨Z,G,L,f⟩) I.quiet F
def P6(te:TE):TS:=λD Z H=>te Z H D.rt
theorem CC(P:PE X e te):PS X (.Return (some e) pos) (P6 te):=by
 intro pins s Z H D I h;exact wpAny_Return_some (aY (P pins s Z H _ I h) λv M ⟨x,G,L,B,f⟩=>⟨x,Z,G,L,B,f⟩)
def P7:TS:=λD _ H=>D.rt .non H
theorem P8:PS X (.Return none pos) P7:=λ_ _ Z H _ I h=>wpAny_Return_none ⟨.non,Z,H,I,rfl,h⟩
def CD(c:TT)(t u:TS):TS:=λD Z H=>c Z H λb G=>if b=true then t D Z G else u D Z G
theorem CF{c:Cb}{a b:List Gn}{tc:TT}(hc:PT X c tc)(l:eR X a t)(Y:eR X b u):PS X (.If c a b pos) (CD tc t u):=by
 intro pins s Z H D I h;refine wpAny_If (aY (hc pins s Z H _ I h) λd M ⟨G,L,f⟩=>?_);cases d with
 | true=>exact l pins M Z G D L f
 | false=>exact Y pins M Z G D L f
def P9:TS:=λ_ _ _=>False
theorem QA:PS X st P9:=λ_ _ _ _ _ _ h=>h.elim
end
abbrev TG:=V->St->Hp->(St->Hp->Prop)->Prop
abbrev jD:=List V->St->Hp->(St->Hp->Prop)->Prop
def PG(X:Cx)(b:Cb)(t:TG):Prop:=
 ∀(pins:Pn) (s:Ah) (Z:St) (H:Hp) (v:V) (u:Ae) (Q:St->Hp->Prop),Inv X pins Z H s->RelV v u->t v Z H Q->
  X.a (Nw b X.env u) (λ_ W=>∃l j,Inv X pins l j W/\Q l j) X.xe s
def iI(X:Cx)(ts:List Cb)(t:jD):Prop:=
 ∀(pins:Pn) (s:Ah) (Z:St) (H:Hp) (vs:List V) (us:List Ae) (Q:St->Hp->Prop),Inv X pins Z H s->aX vs us->t vs Z H Q->
  X.a (assignInOrder ((Hn ts X.env).map (·.2)) us) (λ_ W=>∃l j,Inv X pins l j W/\Q l j) X.xe s
abbrev sG:=V->V->V->Hp->(Hp->Prop)->Prop
def sH(X:Cx)(t:sG):Prop:=
 ∀(pins:Pn) (s:Ah) (Z:St) (H:Hp) (o i v:V) (y c u:Ae) (Q:Hp->Prop),Inv X pins Z H s->RelV o y->RelV i c->RelV v u->t o i v H Q->
  X.a (Ul y c u) (λ_ W=>∃j,Inv X pins Z j W/\Q j) X.xe s
section
variable {X:Cx}{pos:Gy}
def wC(i:Nat):TG:=λv Z H Q=>Q (Z.set i (some v)) H
theorem QB{i:Nat}(Y:X.N.Nodup)(hi:X.N[i]? = some x)(S:Loc X.env.scope x)(hf:Fy X x:=by first|exact .inl rfl|exact .inr rfl|assumption):PG X (.Name x pos) (wC i):=by
 intro pins s Z H v u Q I r h;exact wpAny_assign_Name (wA I Y hi S r (λW n=>⟨_,H,n,h⟩) hf)
def QC:jD:=λvs Z H Q=>vs=[]/\Q Z H
def QD(t:TG)(u:jD):jD:=λvs Z H Q=>∃v r,vs=v::r/\t v Z H λl j=>u r l j Q
theorem QE:iI X [] QC:=by
 intro pins s Z H vs us Q I r h;obtain⟨e,h⟩:=h;subst e;cases r;exact assignInOrder_nil ⟨Z,H,I,h⟩
theorem QF{e:Cb}{es:List Cb}{t:TG}{u:jD}(O:PG X e t)(Y:iI X es u)(F:(Hn (e::es) X.env).map (·.2)=Nw e X.env::(Hn es X.env).map (·.2):=by rfl):iI X (e::es) (QD t u):=by
 intro pins s Z H vs us Q I r h;obtain⟨v,a,T,h⟩:=h;subst T;cases r with
 | cons r m=>
  rw[F];refine assignInOrder_cons (aY (O pins s Z H _ _ _ I r h) λ_ M ⟨x,G,L,f⟩=>?_);exact Y pins M x G _ _ Q L m f
def QG(K:Ac)(n:Nat)(t:jD):TG:=λv Z H Q=>∃a xs,v=.ref a/\bW K H a xs/\xs.length=n/\t xs Z H Q
theorem QH{k:Nat}{n:Nat}(hc:X.calm=true)(h:iI X es t)(U:(Hn es X.env).length=n:=by rfl)(j:(Hn es X.env).findIdx? (·.1)=none:=by rfl):PG X (.Tuple es k pos) (QG X.K n t):=by
 intro pins s Z H v u Q I r hw;obtain⟨a,xs,T,N,hl,hw⟩:=hw;subst T;cases r;obtain⟨its,R,ht,hz⟩:=I.tuple N;refine assign_Tuple_tuple (I.ok.hd hc) ht (by simp[U,<-hl,R.length]) j λh' S=>?_;have L:Inv X pins Z H {s with heap:=h'}:=I.kept (t':=s.toks) λb o e=>S b o (Bo (Bh e)) e;exact h pins _ Z H xs _ Q L (by simpa using R) hw
def QI(S a:TE)(t:sG):TG:=λv Z H Q=>S Z H λo G=>a Z G λi z=>t o i v z λw=>Q Z w
theorem QJ{o i:Cb}{S a:TE}{t:sG}(D:PE X o S)(hi:PE X i a)(F:sH X t)(l:∀v,Nw (.Subscript o i pos) X.env v=(do
   let N <-Jf [v] (El o X.env)
   let c <-Jf [v,N] (El i X.env)
   Pu pos
   Jf [v,N,c] (Ul N c v)
   release [v,N,c] []):=by intro _;rfl):PG X (.Subscript o i pos) (QI S a t):=by
 intro pins s Z H v u Q I r h;rw[l];refine Aa (Dh (aY (D pins s Z H _ I h) λN M ⟨x,G,L,B,f⟩=>?_));refine Aa (Dh (aY (hi pins M Z G _ L f) λc g ⟨y,z,R,U,p⟩=>?_));refine Aa (Qh (Aa (Dh (aY (F pins g Z z x y v N c u _ R B U r p) λ_ j ⟨w,E,P⟩=>?_))));exact wpAny_release ⟨Z,w,E,P⟩
def sI(te:TE)(g:TG):TS:=λD Z H=>te Z H λx G=>g x Z G D.nx
theorem QK{tg e:Cb}{te:TE}{g:TG}(P:PE X e te)(Y:PG X tg g)(F:swapsWithSole [tg] e pos.line X.env=pure false:=by rfl)(hw:swappedStores [tg] e X.env=pure none:=by rfl)(O:(Hn [tg] X.env).map (·.2)=[Nw tg X.env]:=by rfl):PS X (.Assign [tg] e pos) (sI te g):=by
 intro pins s Z H D I h;refine wpAny_Assign_stores (aY (P pins s Z H _ I h) λv M ⟨x,G,L,B,f⟩=>?_) F hw;rw[O];exact aY (Y pins M Z G x v _ L B f) λ_ V q=>q
theorem QL{i:Nat}{x:Aw}{e:Cb}{te:TE}{a:Gy}(Y:X.N.Nodup)(hi:X.N[i]? = some x)(S:Loc X.env.scope x)(P:PE X e te)(F:Ig e (some (.Name x a)) pos.line X.env=pure false:=by rfl)(hf:Fy X x:=by first|exact .inl rfl|exact .inr rfl|assumption):
  PS X (.Assign [.Name x a] e pos) (sI te (wC i)):=by
 intro pins s Z H D I h;refine wpAny_Assign_Name (aY (P pins s Z H _ I h) λv M ⟨y,G,L,B,f⟩=>?_) F;exact wA L Y hi S B (λg R=>⟨_,G,R,f⟩) hf
end
section
variable {X:Cx}{pos:Gy}
def QM(c:TT)(tb:TS):TS:=λD Z H=>∃W:Nat->St->Hp->Prop,(∃m,W m Z H)/\∀m Z H,W m Z H->
 c Z H λb G=>if b=true then ∃N:St->Hp->Prop,(∀l j,N l j->∃a,a<m/\W a l j)/\tb {D with nx:=N,ct:=N,bk:=D.nx} Z G else D.nx Z G
theorem QN{c:Cb}{body:List Gn}{tc:TT}{tb:TS}(hp:Py X.m X.A X.env X.xe)(hc:PT X c tc)(hb:eR X body tb):PS X (.While c body [] pos) (QM tc tb):=by
 intro pins s Z H D I h;obtain⟨W,⟨m0,w0⟩,turn⟩:=h;refine wpAny_While (codeAny_whileLoop (λn s'=>∃σ' H',Inv X pins σ' H' s'/\W n σ' H') ?_ m0 ⟨Z,H,I,w0⟩);rintro n s1 ⟨σ1,H1,I1,w1⟩;refine Iw hp (aY (hc pins s1 σ1 H1 _ I1 (turn n σ1 H1 w1)) λb s2 ⟨H2,I2,q2⟩=>?_);cases b with
 | true=>
  obtain⟨N,hN,q2⟩:=q2;rw[Uw rfl];refine Iw hp (aY (hb pins s2 σ1 H2 _ I2 q2) λf s3 q3=>?_);cases f with
  | next=>
   obtain⟨σ3,H3,I3,n3⟩:=q3;obtain⟨m',hm,w3⟩:=hN σ3 H3 n3;exact⟨m',hm,σ3,H3,I3,w3⟩
  | cont=>
   obtain⟨σ3,H3,I3,n3⟩:=q3;obtain⟨m',hm,w3⟩:=hN σ3 H3 n3;exact⟨m',hm,σ3,H3,I3,w3⟩
  | brk=>exact q3
  | ret v=>exact q3
 | false=>
  rw[Uv Av];exact Hv ⟨σ1,H2,I2,q2⟩
end
structure It where
 go:Nat->Hp->Prop
 yld:Nat->Hp->V->Hp->Prop
 stop:Nat->Hp->Prop
def gF(X:Cx)(pins:Pn)(H:Hp)(b:Aj):Prop:=
 H b=none/\b≠X.env.locals/\b∉X.fs/\(b∈X.ex\/X.s₀.heap.objs.size<=b)/\(∀x c,X.env.cells.lookup x=some c->c≠b)/\∀p∈X.pn++pins,p.1≠b
theorem Inv.fpOk(I:Inv X pins Z H s)(Y:s.heap.objs.size<=b)(U:j b=none):gF X pins j b:=by
 refine⟨U,Co (Bx I.lt Y),I.nofs Y,.inr (Bf I.sz Y),λx c e z=>?_,λp B z=>?_⟩
 .obtain⟨v,q⟩:=I.cell x c e;exact absurd (Bx q.lt (by rw[z];exact Y)) (Im _)
 .exact absurd (Bx (Bh (I.pin p B).1) (by rw[z];exact Y)) (Im _)
structure iT(P:Ar)(w:Bk)(K:Ac)(tg:Cb)(J:It)(fp:List Aj)(it:Aj)(tn:Nat->Cr->Prop):Prop where
 mem:it∈fp
 obj:∀i h,tn i h->∀b∈fp,∃o,h.get? b=some o/\∀v,o.data≠.cell v
 keep:∀i h h',tn i h->(∀b∈fp,∀o,h.get? b=some o->h'.get? b=some o)->tn i h'
 item:∀(X:Cx),X.prog=P->X.w=w->X.K=K->X.calm=true->∀(i:Nat) (pins:Pn) (s:Ah) (Z:St) (H:Hp) (E:Ae->Ah->Prop),Inv X pins Z H s->(∀b∈fp,gF X pins H b)->tn i s.heap->J.go i H->
  Bl (Cq P w) X.A (Hg (.ref it)) (λr s1=>∃u,r=some u/\
   Bl (Cq P w) X.A (Pd tg (.ref it) u) (λ_ s2=>∃x H',Inv X pins Z H' s2/\RelV x u/\J.yld i H x H'/\tn (i+1) s2.heap/\∀b∈fp,H' b=none) E s1) E s
 done:∀(X:Cx),X.prog=P->X.w=w->X.K=K->X.calm=true->∀(i:Nat) (pins:Pn) (s:Ah) (Z:St) (H:Hp) (E:Ae->Ah->Prop),Inv X pins Z H s->(∀b∈fp,gF X pins H b)->tn i s.heap->J.stop i H->
  Bl (Cq P w) X.A (Hg (.ref it)) (λr s1=>r=none/\Inv X pins Z H s1) E s
 self:∀(A:Cn) (i:Nat) (s:Ah) (Q:Ae->Ah->Prop) (E:Ae->Ah->Prop),tn i s.heap->Q (.ref it) s->Bl (Cq P w) A (Rh (.ref it)) Q E s
abbrev TI:=St->Hp->(It->Hp->Prop)->Prop
def wF(X:Cx)(pins:Pn)(Z:St)(tg:Cb)(R:It->Hp->Prop)(c:Ae)(g:Ah):Prop:=
 ∃(it:Aj) (fp:List Aj) (E:Nat->Cr->Prop) (J:It) (j:Hp),c=.ref it/\Inv X pins Z j g/\iT X.prog X.w X.K tg J fp it E/\E 0 g.heap/\(∀b∈fp,gF X pins j b)/\R J j
def PI(X:Cx)(tg t:Cb)(d:TI):Prop:=
 ∀(pins:Pn) (s:Ah) (Z:St) (H:Hp) (R:It->Hp->Prop),Inv X pins Z H s->d Z H R->
  X.a (El t X.env) (λv M=>X.a (Rh v) (wF X pins Z tg R) X.xe M) X.xe s
theorem oI{E:Ae->Ah->Prop}{Q:Unit->Ah->Prop}(D:s.heap.get? it=some o)(hc:o.cls=.type n)(hd:o.data=.fields vs)(U : ["enumerate","zip","dict_itemiterator","dict_reverseitemiterator","odict_iterator","itertools.zip_longest","itertools.pairwise"].contains n=false)(H:Q () s):Bl M A (Pd tg (.ref it) u) Q E s:=by
 unfold Pd;cases tg<;>first
  | exact Af H
  | (cases u<;>first
    | exact Af H
    | (refine Aa (wpAny_load D ?_)
       rw[hc,hd];show Bl M A (if (["enumerate","zip","dict_itemiterator","dict_reverseitemiterator","odict_iterator","itertools.zip_longest","itertools.pairwise"].contains n&&vs[0]?==some (Gz _))=true then _ else _) Q E s;rw[Uv (by intro h;rw[U,Md]at h;cases h)];exact Af H))
def oJ(K:Ac)(a:Aj):It:=
 ⟨λi H=>∃xs x,bH K H a xs/\xs[i]? = some x,λi H x j=>j=H/\∀xs,bH K H a xs->xs[i]? = some x,λi H=>∃xs,bH K H a xs/\xs.length<=i⟩
def wH(K:Ac)(a:Aj):It:=
 ⟨λi H=>∃xs x,bW K H a xs/\xs[i]? = some x,λi H x j=>j=H/\∀xs,bW K H a xs->xs[i]? = some x,λi H=>∃xs,bW K H a xs/\xs.length<=i⟩
def p6(lo:Int)(n:Nat):It:=⟨λi _=>i<n,λi H x j=>j=H/\x=.int (lo+i),λi _=>n<=i⟩
theorem QO{P:Ar}{w:Bk}{K:Ac}{tg:Cb}(a it:Aj):iT P w K tg (oJ K a) [it] it (λi h=>h.IsListIter it a i) where
 mem:=by simp
 obj:=λi h st b Y=>by
  have e:b=it:=by simpa using Y
  subst e;obtain⟨o,e,c,d⟩:=st;exact⟨o,e,λv z=>by rw[d]at z;cases z⟩
 keep:=λi h h' st k=>st.at λo e=>k it (by simp) o e
 item:=by
  intro X g hw B hc i pins s Z H E I hf st W;subst g hw B;obtain⟨xs,x,N,S⟩:=W;obtain⟨its,T,p,hz⟩:=I.list N;obtain⟨u,J,ru⟩:=T.get S;obtain⟨R,V,l,f,M,G⟩:=hf it (by simp);refine wpAny_pyNext_list_item st p.isList (x:=u) (by simpa using J) λh' F sb=>?_;have L:Inv X pins Z H {s with heap:=h'}:=I.turned (t':=s.toks) (λb o Y e=>(sb.2 b Y).trans e) R V f M G;obtain⟨o,e,c,d⟩:=id F;exact⟨u,rfl,oI (s:={s with heap:=h'}) e c d (by decide) ⟨x,H,L,ru,⟨rfl,λys C=>by rw[I.list_inj C N];exact S⟩,F,λb Y=>(hf b Y).1⟩⟩
 done:=by
  intro X g hw B hc i pins s Z H E I hf st W;subst g hw B;obtain⟨xs,N,S⟩:=W;obtain⟨its,T,p,hz⟩:=I.list N;obtain⟨R,V,l,f,M,G⟩:=hf it (by simp);have hl:=T.length;exact wpAny_pyNext_list_end (I.ok.hd hc) st p.isList (by simp;lia) λh' t=>⟨rfl,I.turned (t':=s.toks) (λb o Y e=>t b o Y e) R V f M G⟩
 self:=λ_ _ _ _ _ st h=>wpAny_pyIter_listiter st h
theorem QP{P:Ar}{w:Bk}{K:Ac}{tg:Cb}(a it:Aj):iT P w K tg (wH K a) [it] it (λi h=>h.IsTupleIter it a i) where
 mem:=by simp
 obj:=λi h st b Y=>by
  have e:b=it:=by simpa using Y
  subst e;obtain⟨o,e,c,d⟩:=st;exact⟨o,e,λv z=>by rw[d]at z;cases z⟩
 keep:=λi h h' st k=>st.at λo e=>k it (by simp) o e
 item:=by
  intro X g hw B hc i pins s Z H E I hf st W;subst g hw B;obtain⟨xs,x,N,S⟩:=W;obtain⟨its,T,p,hz⟩:=I.tuple N;obtain⟨u,J,ru⟩:=T.get S;obtain⟨R,V,l,f,M,G⟩:=hf it (by simp);refine wpAny_pyNext_tuple_item st (show s.heap.IsTuple a its.toArray from p) (x:=u) (by simpa using J) λh' F sb=>?_;have L:Inv X pins Z H {s with heap:=h'}:=I.turned (t':=s.toks) (λb o Y e=>(sb.2 b Y).trans e) R V f M G;obtain⟨o,e,c,d⟩:=id F;exact⟨u,rfl,oI (s:={s with heap:=h'}) e c d (by decide) ⟨x,H,L,ru,⟨rfl,λys C=>by rw[I.tuple_inj C N];exact S⟩,F,λb Y=>(hf b Y).1⟩⟩
 done:=by
  intro X g hw B hc i pins s Z H E I hf st W;subst g hw B;obtain⟨xs,N,S⟩:=W;obtain⟨its,T,p,hz⟩:=I.tuple N;obtain⟨R,V,l,f,M,G⟩:=hf it (by simp);have hl:=T.length;exact wpAny_pyNext_tuple_end (I.ok.hd hc) st (show s.heap.IsTuple a its.toArray from p) (by simp;lia) λh' t=>⟨rfl,I.turned (t':=s.toks) (λb o Y e=>t b o Y e) R V f M G⟩
 self:=λ_ _ _ _ _ st h=>wpAny_pyIter_tupleiter st h
theorem QQ{P:Ar}{w:Bk}{K:Ac}{tg:Cb}(it:Aj)(lo:Int)(n:Nat):iT P w K tg (p6 lo n) [it] it (λi h=>IsRangeIter h it (lo+(i:Nat)*1) ((n:Int)-(i:Nat)) 1) where
 mem:=by simp
 obj:=λi h st b Y=>by
  have e:b=it:=by simpa using Y
  subst e;exact⟨_,st,λv z=>by
   have D:Data.fields _=Data.cell v:=z;cases D⟩
 keep:=λi h h' st k=>k it (by simp) _ st
 item:=by
  intro X g hw Q hc i pins s Z H E I hf st U;subst g hw Q;obtain⟨R,V,l,f,M,G⟩:=hf it (by simp);have W:=Walks.range (prog:=X.prog) (w:=X.w) (I.ok.hd hc) it lo 1 n;refine W.item i s _ _ U st λv h' tk c F j=>?_;obtain⟨t,rfl⟩:=c;have L:Inv X pins Z H {s with heap:=h',toks:=tk}:=I.turned (λb o Y e=>j b o (by simpa using Y) e) R V f M G;refine⟨_,rfl,oI (s:={s with heap:=h',toks:=tk}) (n:="range_iterator") F rfl rfl (by decide) ⟨.int (lo+i),H,L,⟨t,?_⟩,⟨rfl,rfl⟩,F,λb Y=>(hf b Y).1⟩⟩;rw[Int.mul_one]
 done:=by
  intro X g hw Q hc i pins s Z H E I hf st U;subst g hw Q;obtain⟨R,V,l,f,M,G⟩:=hf it (by simp);exact wpAny_pyNext_range_end (I.ok.hd hc) st (by have:n<=i:=U;lia) λh' B=>⟨rfl,I.turned (t':=s.toks) (λb o Y e=>B b o Y e) R V f M G⟩
 self:=λ_ _ _ _ _ st h=>wpAny_pyIter_rangeiter st h
section
variable {X:Cx}{tg:Cb}
theorem CG{R:It->Hp->Prop}{E:Ae->Ah->Prop}{lo hi:Int}{tk:Nat}(I:Inv X pins Z H s)(O : -(2 ^ 62)<=lo)(W:lo<2 ^ 62)(f : -(2 ^ 62)<=hi)(h4:hi<2 ^ 62)(q:R (p6 lo (hi-lo).toNat) H):X.a (Rh (.ref s.heap.objs.size)) (wF X pins Z tg R) E {s with heap:=s.heap.push {cls:=.type "range",data:=.fields #[.int lo t,.int hi u,.int 1 v]},toks:=tk}:=by
 refine wpAny_pyIter_range (Sa ..) (small_one O W f h4) ?_;have L:Inv X pins Z H {s with heap:=s.heap.push {cls:=.type "range",data:=.fields #[.int lo t,.int hi u,.int 1 v]},toks:=tk}:=I.kept λb o e=>Ag _ e;refine⟨(s.heap.push {cls:=.type "range",data:=.fields #[.int lo t,.int hi u,.int 1 v]}).objs.size,[(s.heap.push {cls:=.type "range",data:=.fields #[.int lo t,.int hi u,.int 1 v]}).objs.size],_,_,H,rfl,
  L.kept (t':=tk) λb o e=>Ag _ e,QQ _ lo (hi-lo).toNat,?_,λb Y=>?_,q⟩
 .have T:lo+((0:Nat):Int)*1=lo:=by simp
  have G:(((hi-lo).toNat:Nat):Int)-((0:Nat):Int)=Hk lo hi 1:=by rw[Sv];split<;>lia
  show IsRangeIter _ _ (lo+((0:Nat):Int)*1) ((((hi-lo).toNat:Nat):Int)-((0:Nat):Int)) 1;rw[T,G];exact Au _ rfl
 .have e:b=(s.heap.push {cls:=.type "range",data:=.fields #[.int lo t,.int hi u,.int 1 v]}).objs.size:=by simpa using Y
  subst e;exact L.fpOk (Ai _) (L.hok.fresh (Ai _))
def QS(ta:TA):TI:=λZ H R=>ta Z H λvs G=>∃j:Int,vs=[.int j]/\-(2 ^ 62)<=j/\j<2 ^ 62/\R (p6 0 j.toNat) G
def QT(ta:TA):TI:=λZ H R=>ta Z H λvs G=>∃i j:Int,vs=[.int i,.int j]/\(-(2 ^ 62)<=i/\i<2 ^ 62/\-(2 ^ 62)<=j/\j<2 ^ 62)/\R (p6 i (j-i).toNat) G
theorem QU{a:Cb}{ta:TA}{p pos:Gy}(Y:Gl X "range")(J:X.mg "range" = none)(l:PA X [a] ta)(F:Cj [a] X.env=[(false,El a X.env)]:=by rfl):PI X tg (.Call (.Name "range" p) [a] [] pos) (QS ta):=by
 intro pins s Z H R I h;refine Call_ (iA I Y J boot_range (Cg (aY (l pos pins s Z H _ I h) λus M ⟨vs,G,L,B,f⟩=>?_) F rfl));obtain⟨j,e,f,O,q⟩:=f;subst e;cases B with
 | cons r m=>
  cases m;obtain⟨t,rfl⟩:=r;exact Ti (CG L (by lia) (by lia) f O (by simpa using q))
theorem QV{a b:Cb}{ta:TA}{p pos:Gy}(W:Gl X "range")(J:X.mg "range" = none)(l:PA X [a,b] ta)(F:Cj [a,b] X.env=[(false,El a X.env),(false,El b X.env)]:=by rfl)(Y:Cj [b] X.env=[(false,El b X.env)]:=by rfl):
  PI X tg (.Call (.Name "range" p) [a,b] [] pos) (QT ta):=by
 intro pins s Z H R I h;refine Call_ (iA I W J boot_range (Cg (aY (l pos pins s Z H _ I h) λus M ⟨vs,G,L,B,f⟩=>?_) (by rw[F,Y]) (by rw[Y];rfl)));obtain⟨i,j,e,⟨f,O,y,C⟩,q⟩:=f;subst e;cases B with
 | cons r m=>
  cases m with
  | cons A m=>
   cases m;obtain⟨t,rfl⟩:=r;obtain⟨t',rfl⟩:=A;exact call_range_2 (CG L f O y C q)
def QW(d:TI)(g:TG)(tb:TS):TS:=λD Z H=>d Z H λJ G=>∃W:Nat->Nat->St->Hp->Prop,(∃m,W 0 m Z G)/\∀i m Z H,W i m Z H->
 (J.stop i H/\D.nx Z H)\/(J.go i H/\∃N:St->Hp->Prop,(∀l j,N l j->∃a,a<m/\W (i+1) a l j)/\∀x j,J.yld i H x j->g x Z j λf z=>tb {D with nx:=N,ct:=N,bk:=D.nx} f z)
def p7(fp:List Aj)(h:Cr):Pn:=fp.filterMap λb=>(h.get? b).map λo=>(b,o)
theorem sJ(Y:b∈fp)(e:h.get? b=some o):(b,o)∈p7 fp h:=Ka.mpr ⟨b,Y,by rw[e];rfl⟩
theorem QX(B:p∈p7 fp h):p.1∈fp/\h.get? p.1=some p.2:=by
 obtain⟨b,Y,e⟩:=Ka.mp B;cases q:h.get? b with
 | none=>rw[q]at e;cases e
 | some o=>
  rw[q]at e;have M:(b,o)=p:=Ci e;subst M;exact⟨Y,q⟩
theorem Inv.pinned(I:Inv X pins Z H s)(hf:∀b∈fp,gF X pins H b)(D:∀b∈fp,∃o,s.heap.get? b=some o/\∀v,o.data≠.cell v):Inv X (pins++p7 fp s.heap) Z H s:=
 I.pins_of λp B=>(Ba.mp B).elim (λz=>I.pin p (Bs _ z)) λz=>by
  obtain⟨Y,e⟩:=QX z;obtain⟨R,V,l,_⟩:=hf p.1 Y;obtain⟨o,M,d⟩:=D p.1 Y;rw[e]at M;cases M;exact⟨e,R,V,l,d⟩
theorem Inv.unpinned(I:Inv X (pins++pl) Z H s):Inv X pins Z H s:=I.pins_of λp B=>I.pin p (Bs _ (Bg _ B))
theorem CH{iter:Cb}{body:List Gn}{wi:TI}{g:TG}{tb:TS}{pos:Gy}(hp:Py X.m X.A X.env X.xe)(hc:X.calm=true)(hi:PI X tg iter wi)(hg:PG X tg g)(hb:eR X body tb)(hs:∀x,Gx iter X.env x=pure x:=by intro _;rfl):PS X (.For tg iter body [] pos) (QW wi g tb):=by
 intro pins s Z H D I h;refine wpAny_For (aY (hi pins s Z H _ I h) λv s1 h1=>aY h1 λitv s2 h2=>?_) hs;obtain⟨it,fp,tn,J,H2,e,I2,T,st2,f2,W,⟨m0,w0⟩,turn⟩:=h2;subst e;have stat:∀{H':Hp},(∀b∈fp,H' b=none)->∀b∈fp,gF X pins H' b:=λhn b hb=>⟨hn b hb,(f2 b hb).2⟩
 refine codeAny_forLoop_any (λn s'=>∃i σ' H',Inv X pins σ' H' s'/\tn i s'.heap/\(∀b∈fp,H' b=none)/\W i n σ' H') ?_ m0 ⟨0,Z,H2,I2,st2,λb hb=>(f2 b hb).1,w0⟩;rintro n s3 ⟨i,σ3,H3,I3,st3,fr3,w3⟩;rcases turn i n σ3 H3 w3 with⟨stop,qn⟩|⟨go,N,hN,step⟩
 .refine Iw hp (aY (T.done X rfl rfl rfl hc i pins s3 σ3 H3 X.xe I3 (stat fr3) st3 stop) λr s4 ⟨hr,I4⟩=>?_);subst hr;exact Hv ⟨σ3,H3,I4,qn⟩
 .refine Iw hp (aY (T.item X rfl rfl rfl hc i pins s3 σ3 H3 X.xe I3 (stat fr3) st3 go) λr s4 ⟨u,hr,h4⟩=>?_);subst hr;refine Iw hp (aY h4 λ_ s5 ⟨x,H5,I5,r5,y5,st5,fr5⟩=>?_);have I5':=I5.pinned (stat fr5) (T.obj _ _ st5);refine Iw hp (aY (hg _ s5 σ3 H5 x u _ I5' r5 (step x H5 y5)) λ_ s6 ⟨σ6,H6,I6,q6⟩=>?_);refine Iw hp (aY (hb _ s6 σ6 H6 _ I6 q6) λf s7 q7=>?_);have again:∀{σ7:St} {H7:Hp},Inv X (pins++p7 fp s5.heap) σ7 H7 s7->N σ7 H7->∃m,m<n/\∃i σ' H',Inv X pins σ' H' s7/\tn i s7.heap/\(∀b∈fp,H' b=none)/\W i m σ' H':=λ{σ7 H7} I7 n7=>by
   obtain⟨m',hm,w7⟩:=hN σ7 H7 n7;refine⟨m',hm,i+1,σ7,H7,I7.unpinned,T.keep _ _ _ st5 λb hb o e=>(I7.pin (b,o) (Bs _ (Bs _ (sJ hb e)))).1,λb hb=>?_,w7⟩;obtain⟨o,e,d⟩:=T.obj _ _ st5 b hb;exact(I7.pin (b,o) (Bs _ (Bs _ (sJ hb e)))).2.1
  cases f with
  | next=>obtain⟨σ7,H7,I7,n7⟩:=q7;exact again I7 n7
  | cont=>obtain⟨σ7,H7,I7,n7⟩:=q7;exact again I7 n7
  | brk=>obtain⟨σ7,H7,I7,q7⟩:=q7;exact⟨σ7,H7,I7.unpinned,q7⟩
  | ret v=>obtain⟨x7,σ7,H7,I7,r7,q7⟩:=q7;exact⟨x7,σ7,H7,I7.unpinned,r7,q7⟩
end
abbrev R2:=V->V->Hp->VK->Prop
def bC(X:Cx)(f:Ae->Ae->Rw Ae)(r:R2):Prop:=
 ∀(pins:Pn) (s:Ah) (Z:St) (H:Hp) (x y:V) (v u:Ae) (Q:VK),Inv X pins Z H s->RelV x v->RelV y u->r x y H Q->
  X.a (f v u) (EP X pins Z Q) X.xe s
def p9(X:Cx)(f:Ae->Rw Ae)(r:V->Hp->VK->Prop):Prop:=
 ∀(pins:Pn) (s:Ah) (Z:St) (H:Hp) (x:V) (v:Ae) (Q:VK),Inv X pins Z H s->RelV x v->r x H Q->
  X.a (f v) (EP X pins Z Q) X.xe s
def cM(X:Cx)(f:Ae)(r:List V->Hp->VK->Prop):Prop:=
 ∀(pins:Pn) (s:Ah) (Z:St) (H:Hp) (xs:List V) (us:List Ae) (Q:VK),Inv X pins Z H s->aX xs us->r xs H Q->
  X.a (call f us) (EP X pins Z Q) X.xe s
def QY(X:Cx)(r:V->Hp->(Bool->Hp->Prop)->Prop):Prop:=
 ∀(pins:Pn) (s:Ah) (Z:St) (H:Hp) (x:V) (v:Ae) (Q:Bool->Hp->Prop),Inv X pins Z H s->RelV x v->r x H Q->
  X.a (truthy v) (TP X pins Z Q) X.xe s
def qA(r:R2)(ta tb:TE):TE:=λZ H Q=>ta Z H λx G=>tb Z G λy z=>r x y z Q
def QZ(r:V->Hp->VK->Prop)(ta:TE):TE:=λZ H Q=>ta Z H λx G=>r x G Q
def rI(C:Int->Int->Prop)(g:Int->Int->V):R2:=λx y H Q=>∃i j,x=.int i/\y=.int j/\C i j/\Q (g i j) H
def jU(g:Int->Int->V):R2:=λx y H Q=>∃i j,x=.int i/\y=.int j/\Q (g i j) H
def rU(g:Int->V):V->Hp->VK->Prop:=λx H Q=>∃i,x=.int i/\Q (g i) H
section
variable {X:Cx}{a b c:Cb}{ta tb tc:TE}{pos:Gy}
theorem wI(l:PE X a ta)(Y:PE X b tb){pins:Pn}{s:Ah}{Z:St}{H:Hp}{R:V->V->Hp->Prop}(I:Inv X pins Z H s)(h:ta Z H λx G=>tb Z G λy z=>R x y z){Q:Ae->Ah->Prop}{f:Ae->Ae->Rw Ae}(hf:∀v u g x y z,Inv X pins Z z g->RelV x v->RelV y u->R x y z->X.a (f v u) Q X.xe g):
  X.a (El a X.env) (λv i=>X.a (El b X.env) (λu t=>X.a (f v u) Q X.xe t) X.xe i) X.xe s:=by
 refine aY (l pins s Z H _ I h) λv M ⟨x,G,L,B,n⟩=>?_;refine aY (Y pins M Z G _ L n) λu g ⟨y,z,w,U,p⟩=>?_;exact hf v u g x y z w B U p
theorem Q0(D:bC X (Ee op) r)(l:PE X a ta)(Y:PE X b tb):PE X (.BinOp a op b pos) (qA r ta tb):=by
 intro pins s Z H Q I h;exact wpAny_BinOp (wI l Y I h λv u g x y z i d L q=>D pins g Z z x y v u Q i d L q)
theorem Q1{op:UnaryOp}{r:V->Hp->VK->Prop}(D:p9 X (Uk op) r)(l:PE X a ta):PE X (.UnaryOp op a pos) (QZ r ta):=by
 intro pins s Z H Q I h;exact UnaryOp_ (aY (l pins s Z H _ I h) λv M ⟨x,G,L,B,f⟩=>D pins M Z G x v Q L B f)
theorem oK{f:Ae->Ae->Rw Ae}{C:Int->Int->Prop}{g:Int->Int->Int}(b:∀(i j:Int) (t u:Tj) (s:Ah) (Q:Ae->Ah->Prop) (E:Ae->Ah->Prop),C i j->Q (.int (g i j) s.toks) {s with toks:=s.toks+1}->X.a (f (.int i t) (.int j u)) Q E s):
  bC X f (rI C λi j=>.int (g i j)):=by
 intro pins s Z H x y v u Q I d L h;obtain⟨i,j,rfl,rfl,hc,q⟩:=h;obtain⟨t,rfl⟩:=d;obtain⟨t',rfl⟩:=L;exact b i j t t' s _ _ hc ⟨.int (g i j),H,I.tok _,⟨_,rfl⟩,q⟩
theorem wJ{f:Ae->Ae->Rw Ae}{g:Int->Int->Int}(b:∀(i j:Int) (t u:Tj) (s:Ah) (Q:Ae->Ah->Prop) (E:Ae->Ah->Prop),Q (.int (g i j) s.toks) {s with toks:=s.toks+1}->X.a (f (.int i t) (.int j u)) Q E s):
  bC X f (jU λi j=>.int (g i j)):=by
 intro pins s Z H x y v u Q I d L h;obtain⟨i,j,rfl,rfl,q⟩:=h;obtain⟨t,rfl⟩:=d;obtain⟨t',rfl⟩:=L;exact b i j t t' s _ _ ⟨.int (g i j),H,I.tok _,⟨_,rfl⟩,q⟩
theorem sL{f:Ae->Ae->Rw Ae}{g:Int->Int->Bool}(b:∀(i j:Int) (t u:Tj) (s:Ah) (Q:Ae->Ah->Prop) (E:Ae->Ah->Prop),Q (.bool (g i j)) s->X.a (f (.int i t) (.int j u)) Q E s):
  bC X f (jU λi j=>.bl (g i j)):=by
 intro pins s Z H x y v u Q I d L h;obtain⟨i,j,rfl,rfl,q⟩:=h;obtain⟨t,rfl⟩:=d;obtain⟨t',rfl⟩:=L;exact b i j t t' s _ _ ⟨.bl (g i j),H,I,rfl,q⟩
def qB(i j:Int):Prop:=0<=j/\j<=1000000/\i.natAbs<2 ^ 64
def oM(i j:Int):Prop:=(-(2 ^ 64)<i/\i<2 ^ 64)\/(-(2 ^ 64)<j/\j<2 ^ 64)
theorem oM.ok{i j:Int}(h:oM i j):IntMulOk i j:=by
 rcases h with⟨O,Z⟩|⟨O,Z⟩
 .exact .of_left (intBits_le_64 O Z)
 .exact .of_right (intBits_le_64 O Z)
theorem Q2(k:Nat):(0:Int)<=2 ^ k:=by
 rw[two_pow_cast];exact Int.natCast_nonneg _
theorem Q3:bC X (Ee .Add) (jU λi j=>.int (i+j)):=wJ λ_ _ _ _ _ _ _ q=>add_int q
theorem Q4:bC X (Ee .Sub) (jU λi j=>.int (i-j)):=wJ λ_ _ _ _ _ _ _ q=>sub_int q
theorem Q6:bC X (Ee .Mult) (rI oM λi j=>.int (i*j)):=oK λ_ _ _ _ _ _ _ hc q=>mul_int q hc.ok
theorem Q7:bC X (Ee .Mod) (rI (λ_ j=>0<j) λi j=>.int (i % j)):=oK λi j _ _ _ _ _ hc q=>by
 have O:(0:Int)<j:=hc;exact mod_int' (by lia) (by rw[Int.fmod_eq_emod_of_nonneg i (by lia)];exact q)
theorem Q8:bC X (Ee .Pow) (rI qB λi j=>.int (i ^ j.toNat)):=oK λ_ _ _ _ _ _ _ hc q=>pow_int_small hc.1 hc.2.1 hc.2.2 q
theorem Q9:bC X (Ee .RShift) (rI (λ_ j=>0<=j) λi j=>.int (i/2 ^ j.toNat)):=oK λi j _ _ _ _ _ hc q=>
 rshift_int hc (by rw[Int.fdiv_eq_ediv_of_nonneg i (Q2 _)];exact q)
theorem RA:bC X (Ee .BitAnd) (jU λi j=>.int (Builtin.bitAnd i j)):=wJ λ_ _ _ _ _ _ _ q=>and_int q
theorem RB{f:Ae->Rw Ae}{g:Int->Int}(b:∀(i:Int) (t:Tj) (s:Ah) (Q:Ae->Ah->Prop) (E:Ae->Ah->Prop),Q (.int (g i) s.toks) {s with toks:=s.toks+1}->X.a (f (.int i t)) Q E s):
  p9 X f (rU λi=>.int (g i)):=by
 intro pins s Z H x v Q I d h;obtain⟨i,rfl,q⟩:=h;obtain⟨t,rfl⟩:=d;exact b i t s _ _ ⟨.int (g i),H,I.tok _,⟨_,rfl⟩,q⟩
theorem RC:p9 X (Uk .USub) (rU λi=>.int (-i)):=RB λ_ _ _ _ _ q=>neg_int q
end
def sM:V->V->Bool
 | .non,.non=>true|.non,.int _=>true|.int _,.non=>true|.non,.bl _=>true|.bl _,.non=>true|.non,.str _=>true|.str _,.non=>true
 | .int _,.int _=>true|.bl _,.bl _=>true|.str _,.str _=>true|.byt _,.byt _=>true
 | .int _,.str _=>true|.str _,.int _=>true|.bl _,.str _=>true|.str _,.bl _=>true
 | _,_=>false
def RD:R2:=λx y H Q=>sM x y=true/\Q (.bl (decide (x=y))) H
def RE:R2:=λx y H Q=>sM x y=true/\Q (.bl (!decide (x=y))) H
theorem CI{i j:Int}:decide (V.int i=V.int j)=(i==j):=by
 rw[Dy];simp
theorem CJ{i j:Bool}:decide (V.bl i=V.bl j)=(i==j):=by
 rw[Dy];simp
theorem CK:decide (V.str i=V.str j)=(i==j):=by
 rw[Dy];simp
theorem CL:decide (V.byt i=V.byt j)=(i.toList==j.toList):=by
 rw[Dy];cases i;cases j;simp
section
variable {X:Cx}{a b c:Cb}{ta tb tc:TE}{pos:Gy}
theorem c8{k o:Bool}(I:Inv X pins Z H s)(q:Q (.bl k) H)(e:k=o):EP X pins Z Q (.bool o) s:=by
 subst e;exact⟨.bl k,H,I,rfl,q⟩
theorem RF:bC X (Dj .Eq) RD:=by
 intro pins s Z H x y v u Q I rx ry h;obtain⟨hs,q⟩:=h;cases x with
 | non=>
  cases rx;cases y with
  | non=>cases ry;exact PySem.EqNone.eq_none_none (c8 I q (by simp))
  | bl j=>cases ry;exact PySem.EqNone.eq_none_bool (c8 I q (by simp))
  | int j=>obtain⟨t',rfl⟩:=ry;exact PySem.EqNone.eq_none_int (c8 I q (by simp))
  | str j=>obtain⟨t',rfl⟩:=ry;exact PySem.EqNone.eq_none_str (c8 I q (by simp))
  | _=>exact absurd (show false=true from hs) Av
 | bl i=>
  cases rx;cases y with
  | non=>cases ry;exact PySem.EqNone.eq_bool_none (c8 I q (by simp))
  | bl j=>cases ry;exact eq_bool (c8 I q CJ)
  | str j=>obtain⟨t',rfl⟩:=ry;exact PySem.EqMixed.eq_bool_str (c8 I q (by simp))
  | _=>exact absurd (show false=true from hs) Av
 | int i=>
  obtain⟨t,rfl⟩:=rx;cases y with
  | non=>cases ry;exact PySem.EqNone.eq_int_none (c8 I q (by simp))
  | int j=>obtain⟨t',rfl⟩:=ry;exact eq_int (c8 I q CI)
  | str j=>obtain⟨t',rfl⟩:=ry;exact PySem.EqMixed.eq_int_str (c8 I q (by simp))
  | _=>exact absurd (show false=true from hs) Av
 | str i=>
  obtain⟨t,rfl⟩:=rx;cases y with
  | non=>cases ry;exact PySem.EqNone.eq_str_none (c8 I q (by simp))
  | bl j=>cases ry;exact PySem.EqMixed.eq_str_bool (c8 I q (by simp))
  | int j=>obtain⟨t',rfl⟩:=ry;exact PySem.EqMixed.eq_str_int (c8 I q (by simp))
  | str j=>obtain⟨t',rfl⟩:=ry;exact eq_str (c8 I q CK)
  | _=>exact absurd (show false=true from hs) Av
 | byt i=>
  obtain⟨t,rfl⟩:=rx;cases y with
  | byt j=>obtain⟨t',rfl⟩:=ry;exact PySem.W.eq_bytes (c8 I q CL)
  | _=>exact absurd (show false=true from hs) Av
 | _=>cases y<;>exact absurd (show false=true from hs) Av
theorem RG:bC X (Dj .NotEq) RE:=by
 intro pins s Z H x y v u Q I rx ry h;obtain⟨hs,q⟩:=h;cases x with
 | non=>
  cases rx;cases y with
  | non=>cases ry;exact PySem.EqNone.ne_none_none (c8 I q (by simp))
  | bl j=>cases ry;exact PySem.EqNone.ne_none_bool (c8 I q (by simp))
  | int j=>obtain⟨t',rfl⟩:=ry;exact PySem.EqNone.ne_none_int (c8 I q (by simp))
  | str j=>obtain⟨t',rfl⟩:=ry;exact PySem.EqNone.ne_none_str (c8 I q (by simp))
  | _=>exact absurd (show false=true from hs) Av
 | bl i=>
  cases rx;cases y with
  | non=>cases ry;exact PySem.EqNone.ne_bool_none (c8 I q (by simp))
  | bl j=>cases ry;exact ne_bool (c8 I q (congrArg not CJ))
  | str j=>obtain⟨t',rfl⟩:=ry;exact PySem.EqMixed.ne_bool_str (c8 I q (by simp))
  | _=>exact absurd (show false=true from hs) Av
 | int i=>
  obtain⟨t,rfl⟩:=rx;cases y with
  | non=>cases ry;exact PySem.EqNone.ne_int_none (c8 I q (by simp))
  | int j=>obtain⟨t',rfl⟩:=ry;exact ne_int (c8 I q (congrArg not CI))
  | str j=>obtain⟨t',rfl⟩:=ry;exact PySem.EqMixed.ne_int_str (c8 I q (by simp))
  | _=>exact absurd (show false=true from hs) Av
 | str i=>
  obtain⟨t,rfl⟩:=rx;cases y with
  | non=>cases ry;exact PySem.EqNone.ne_str_none (c8 I q (by simp))
  | bl j=>cases ry;exact PySem.EqMixed.ne_str_bool (c8 I q (by simp))
  | int j=>obtain⟨t',rfl⟩:=ry;exact PySem.EqMixed.ne_str_int (c8 I q (by simp))
  | str j=>obtain⟨t',rfl⟩:=ry;exact ne_str (c8 I q (congrArg not CK))
  | _=>exact absurd (show false=true from hs) Av
 | byt i=>
  obtain⟨t,rfl⟩:=rx;cases y with
  | byt j=>obtain⟨t',rfl⟩:=ry;exact PySem.W.ne_bytes (c8 I q (congrArg not CL))
  | _=>exact absurd (show false=true from hs) Av
 | _=>cases y<;>exact absurd (show false=true from hs) Av
theorem RH:bC X (Dj .Lt) (jU λi j=>.bl (decide (i<j))):=sL λ_ _ _ _ _ _ _ q=>lt_int q
theorem RI:bC X (Dj .LtE) (jU λi j=>.bl (decide (i<=j))):=sL λ_ _ _ _ _ _ _ q=>le_int q
theorem RJ:bC X (Dj .Gt) (jU λi j=>.bl (decide (j<i))):=sL λ_ _ _ _ _ _ _ q=>gt_int q
theorem RK:bC X (Dj .GtE) (jU λi j=>.bl (decide (j<=i))):=sL λ_ _ _ _ _ _ _ q=>ge_int q
theorem RL:bC X (Dj .In) (λx y H Q=>∃i j,x=.str i/\y=.str j/\Q (.bl (!(Jg j i 0 j.length 1).isEmpty)) H):=by
 intro pins s Z H x y v u Q I d L h;obtain⟨i,j,rfl,rfl,q⟩:=h;obtain⟨t,rfl⟩:=d;obtain⟨t',rfl⟩:=L;exact in_str (c8 I q rfl)
theorem RM:bC X (Dj .NotIn) (λx y H Q=>∃i j,x=.str i/\y=.str j/\Q (.bl (!(!(Jg j i 0 j.length 1).isEmpty))) H):=by
 intro pins s Z H x y v u Q I d L h;obtain⟨i,j,rfl,rfl,q⟩:=h;obtain⟨t,rfl⟩:=d;obtain⟨t',rfl⟩:=L;exact notIn_str (c8 I q rfl)
theorem bC.or{f:Ae->Ae->Rw Ae}(h:bC X f r)(h':bC X f A):bC X f (λx y H Q=>r x y H Q\/A x y H Q):=by
 intro pins s Z H x y v u Q I d L q;rcases q with q|q
 .exact h pins s Z H x y v u Q I d L q
 .exact h' pins s Z H x y v u Q I d L q
theorem CM(b:Cb)(h:op≠.In:=by decide)(Z:op≠.NotIn:=by decide):Lu op b=false:=by
 have T:(op==CmpOp.In)=false:=by cases op<;>first|rfl|exact absurd rfl h
 have G:(op==CmpOp.NotIn)=false:=by cases op<;>first|rfl|exact absurd rfl Z
 cases b<;>simp[Lu,T,G]
theorem RN(D:bC X (Dj op) r)(l:PE X a ta)(Y:PE X b tb)(J:Lu op b=false):PE X (.Compare a [op] [b] pos) (qA r ta tb):=by
 intro pins s Z H Q I h;exact wpAny_Compare1 (wI l Y I h λv u g x y z i d L q=>D pins g Z z x y v u Q i d L q) J
def RO(t:TE):TT:=λZ H Q=>t Z H λx H'=>∃k,x=.bl k/\Q k H'
theorem RP(D:bC X (Dj op) r)(l:PE X a ta)(Y:PE X b tb)(J:Lu op b=false):PT X (.Compare a [op] [b] pos) (RO (qA r ta tb)):=by
 intro pins s Z H Q I h;refine wpAny_isTrue_Compare1 (aY (l pins s Z H _ I h) λv M ⟨x,G,L,B,f⟩=>aY (Y pins M Z G _ L f) λu g ⟨y,S,i,R,p⟩=>
  aY (D pins g Z S x y v u _ i B R p) λc j ⟨z,w,E,m,k,e,P⟩=>?_) J
 subst e;cases m;exact Je ⟨w,E,P⟩
def CN(K:Ac)(x:V)(H:Hp)(k:Bool):Prop:=
 match x with
 | .non=>k=false
 | .bl b=>k=b
 | .int i=>k=(i !=0)
 | .str y=>y.length<=Ao/\k=((y.length:Int) !=0)
 | .byt y=>y.size<=Ao/\k=((y.size:Int) !=0)
 | .ref p=>(∃xs,bH K H p xs/\k = !xs.isEmpty)\/(∃xs,bW K H p xs/\k = !xs.isEmpty)\/∃kvs,H p=some (.dK kvs)/\k = !kvs.isEmpty
 | _=>False
theorem RQ{c:Type}{kvs:List (c×V)}{vs:List (c×Ae)}(r:KV kvs vs):(!vs.isEmpty) = !kvs.isEmpty:=by
 cases r<;>rfl
theorem CO{xs:List V}{its:List Ae}(r:aX xs its):(!its.toArray.isEmpty) = !xs.isEmpty:=by
 cases r<;>simp
theorem kE:(Ao:Nat)<2 ^ 63:=by rw[Jo];decide
theorem RS:QY X (λx H Q=>∃k,CN X.K x H k/\Q k H):=by
 intro pins s Z H x v Q I rx h;obtain⟨k,e,q⟩:=h;have hl:=kE;have hs:Ao=16777216:=Jo;cases x with
 | non=>
  cases rx;have e':k=false:=e;subst e';exact truthy_none ⟨H,I,q⟩
 | bl b=>
  cases rx;have e':k=b:=e;subst e';exact Je ⟨H,I,q⟩
 | int i=>
  obtain⟨t,rfl⟩:=rx;have e':k=(i !=0):=e;subst e';exact PySem.P.truthy_int ⟨H,I,q⟩
 | str y=>
  obtain⟨t,rfl⟩:=rx;obtain⟨hy,e'⟩:y.length<=Ao/\k=((y.length:Int) !=0):=e;subst e';exact PySem.P.truthy_str (by lia) ⟨H,I.tok _,q⟩
 | byt y=>
  obtain⟨t,rfl⟩:=rx;obtain⟨hy,e'⟩:y.size<=Ao/\k=((y.size:Int) !=0):=e;subst e';exact PySem.W.truthy_bytes (by lia) ⟨H,I.tok _,q⟩
 | ref p=>
  cases rx;have e':(∃xs,bH X.K H p xs/\k = !xs.isEmpty)\/(∃xs,bW X.K H p xs/\k = !xs.isEmpty)\/∃kvs,H p=some (.dK kvs)/\k = !kvs.isEmpty:=e;rcases e' with⟨xs,hx,e'⟩|⟨xs,hx,e'⟩|⟨kvs,hx,e'⟩
  .subst e';obtain⟨its,r,pl,hz⟩:=I.list hx;have hlen:=r.length;exact wpAny_truthy_list pl.isList (by simp only[Bj];lia) ⟨H,I.tok _,by rw[CO r];exact q⟩
  .subst e';obtain⟨its,r,pl,hz⟩:=I.tuple hx;have hlen:=r.length;exact truthy_tuple pl (by simp only[Bj];lia) ⟨H,I.tok _,by rw[CO r];exact q⟩
  .subst e';obtain⟨hz,hS,vs,r,m⟩:kvs.length<=Ao/\(p==Fc)=false/\∃vs,KV kvs vs/\s.heap.DictOf (bQ X.prog X.w) p vs:=I.hok p _ hx;have hlen:kvs.length=vs.length:=Cu r;exact wpAny_truthy_dict hS m (by lia) ⟨H,I.tok _,by rw[RQ r];exact q⟩
 | _=>exact Bn e
theorem RT(l:PE X a ta)(P:∀c,Tg a X.env c=(do let v <-c;Pu a.pos;Jf [v] (truthy v))):
  PT X a (λZ H Q=>ta Z H λx H'=>∃k,CN X.K x H' k/\Q k H'):=by
 intro pins s Z H Q I h;exact isTrue_plain (aY (l pins s Z H _ I h) λv M ⟨x,G,L,B,f⟩=>RS pins M Z G x v Q L B f) (P _)
theorem RU:bC X (Ee .Add) (λx y H Q=>∃i j,x=.str i/\y=.str j/\i.length+j.length<=Ao/\Q (.str (i++j)) H):=by
 intro pins s Z H x y v u Q I d L h;obtain⟨i,j,rfl,rfl,hz,q⟩:=h;obtain⟨t,rfl⟩:=d;obtain⟨t',rfl⟩:=L;exact add_str (λt' tk=>⟨.str (i++j),H,I.tok _,⟨_,rfl⟩,q⟩) hz
theorem vals1(r:aX [x] us):∃u,us=[u]/\RelV x u:=by
 cases r with
 | cons B R=>cases R;exact⟨_,rfl,B⟩
theorem vals2(r:aX [x,y] us):∃u P,us=[u,P]/\RelV x u/\RelV y P:=by
 cases r with
 | cons B R=>
  cases R with
  | cons m t=>cases t;exact⟨_,_,rfl,B,m⟩
theorem RV:cM X (.type "str") (λxs H Q=>∃i,xs=[.int i]/\i.natAbs.log2<1920/\Q (.str (toString i)) H):=by
 intro pins s Z H xs us Q I r h;obtain⟨i,rfl,hz,q⟩:=h;obtain⟨u,rfl,t,rfl⟩:=vals1 r;exact PySem.P.str_of_int hz ⟨.str _,H,I.tok _,⟨_,rfl⟩,q⟩
end
structure mY(h:Cr)(x dx C:Aj)(mA:Aw->Option Ae):Prop where
 obj:h.get? x=some (Hj C dx)
 ns:h.Ns1 dx mA
 ne:dx≠x
theorem RW{h:Cr}{dx:Aj}{mA:Aw->Option Ae}(n:h.Ns1 dx mA):∃B,h.get? dx=some B/\∀name,Nx name B=some (mA name):=by
 obtain⟨o,es,ep,D,hd,hk,_,J⟩:=n;refine⟨o,D,λname=>?_⟩;have e:=J name;unfold nsFind findBy at e;rw[<-Array.find?_toList]at e;unfold Nx;rw[hd];dsimp only;split
 .rename_i y q;rw[q]at e;exact congrArg some e
 .rename_i q;rw[q]at e;have a:es.toList.any (·.refKey)=false:=by
   rw[Mx];intro y K;obtain⟨z,t,f⟩:=hk y (Array.mem_toList_iff.mp K);simp[DictEntry.refKey,f]
  have b:¬es.toList.any (·.refKey)=true:=by rw[a];exact Av
  rw[Uv b];exact congrArg some e
theorem mY.look{mA:Aw->Option Ae}(I:mY h x dx C mA):∃B,PySem.W.InstAt h x (Hj C dx) C (some B)/\∀name,Nx name B=some (mA name):=
 let ⟨B,ho,hl⟩:=RW I.ns
 ⟨B,⟨I.obj,rfl,rfl,ho⟩,hl⟩
section
variable {prog:Ar}{w:Bk}{A:Cn}{E:Ae->Ah->Prop}{s:Ah}{K:Ac}{x dx C f:Aj}{mA:Aw->Option Ae}{name:Aw}{v:Ae}
theorem RX{a:Bool}{Q:Ae->Ah->Prop}(X:K.In s.heap)(I:mY s.heap x dx C mA)(Z:Ms K C name=true)(hh:Pg K C=true)(l:Fe K (.ref C) name=some none)(c:mA name=some v)(d:PySem.W.handedIn v=true)(h:Q v {s with toks:=s.toks+1}):
  Bl (Cq prog w) A (getAttr (.ref x) name a) Q E s:=by
 obtain⟨B,J,hl⟩:=I.look;exact PySem.W.get_value X J (Oh Z).1 (PySem.W.findObj_own hh l rfl (by rw[hl,c])) d h
theorem RY{Q:Ae×List Ae->Ah->Prop}(X:K.In s.heap)(I:mY s.heap x dx C mA)(Z:Ms K C name=true)(hf:Fe K (.ref C) name=some (some (.ref f)))(ht:Nd K (.ref f)=true)(c:mA name=none)(h:Q (.ref f,[.ref x]) s):
  Bl (Cq prog w) A (Pw (.ref x) name pl) Q E s:=by
 obtain⟨B,J,hl⟩:=I.look;exact PySem.W.method_fn X J (Oh Z).1 (Oh Z).2 hf (beq_iff_eq.mp ht) (by show(Nx name B).map (·.isSome)=some false;rw[hl,c];rfl) h
theorem RZ{Q:Unit->Ah->Prop}(X:K.In s.heap)(I:mY s.heap x dx C mA)(F:Fe K (.ref C) "__setattr__" = some (some (.builtin "object.__setattr__")))(B:PySem.W.plainOver K C=true)(ht:Qa K C name=some none)(hh:Pg K C=true)(hw:Rx mA ns)(hsz:ns.length<=Ao)(h:∀h',mY h' x dx C (λy=>if y=name then some v else mA y)->Eh dx s.heap h'->Q () {s with heap:=h',toks:=s.toks+2}):
  Bl (Cq prog w) A (setAttr (.ref x) name v) Q E s:=by
 obtain⟨U,J,hl⟩:=I.look;refine PySem.W.set_plain X J F (PySem.W.osa_open (s:={s with toks:=s.toks+1}) (r:=none) X J B ht λb=>?_);obtain⟨R,hc,g⟩:=PySem.W.any_some hh;have S:s.heap.get? x=some ⟨.ref C,some dx,.plain,#[]⟩:=I.obj;refine Aa (Af (Aa (Aa (wpAny_loadPart S (Aa (PySem.W.Looks.here (s:={s with toks:=s.toks+1}) (PySem.W.looks_clsIn X hc) ?_))))));rw[g];refine Af (a:=some dx) (Aa (Af (Aa ?_)));refine wpAny_nsSet1 (s:={s with toks:=s.toks+1}) I.ns λh' M Y=>?_;obtain⟨j,f,i,e,d,c⟩:=M.count (PySem.Within.cons name v hw);refine Aa (wpAny_lookBehind e (by rw[d];exact pastItsLine_dict (Bf c (by rw[Bu];lia))) ?_);exact Af (h _ ⟨(Y.2 _ (Bq I.ne)).trans I.obj,M,I.ne⟩ Y)
theorem R0{R:Tn->Ah->Prop}(X:K.In s.heap)(J:Qb K C=true)(hi:Fe K (.ref C) "__init__" = some (some (.ref f)))(hf:PySem.W.typeIn K (.ref f)=some (.type "function"))(h:Mr (Cq prog w) (A.under (.builtin "type.__call__" ⟨.ref C::vs,b⟩)) (.call (.ref f) ⟨.ref (s.heap.objs.size+1)::vs,b⟩) (PySem.W.InitBack (s.heap.objs.size+1) R)
   {s with heap:=(s.heap.push Fp).push (Hj C s.heap.objs.size)}):
  Mr (Cq prog w) A (.call (.ref C) ⟨vs,b⟩) R s:=by
 obtain⟨hh,g,d,t,os⟩:=s;exact PySem.W.make_core (PySem.W.makes_of X J) (PySem.W.looks_findIn X hi) (λself=>PySem.W.bind_fn X self hf) (.inl rfl) h
end
def putF(f:Aw)(v:V):List (Aw×V)->List (Aw×V)
 | []=>[(f,v)]
 | (g,x)::r=>if g=f then(g,v)::r else(g,x)::putF f v r
theorem CP(f g:Aw)(v:V):∀fs:List (Aw×V),(putF f v fs).lookup g=if g=f then some v else fs.lookup g
 | []=>by
  show Ce g [(f,v)]=_
  by_cases h:g=f
  .have Y:(g==f)=true:=beq_iff_eq.mpr h;simp only[Ce,Y,Uw h]
  .have Y:(g==f)=false:=beq_eq_false_iff_ne.mpr h;simp only[Ce,Y,Uv h]
 | (k,x)::r=>by
  have E:=CP f g v r;rw[show putF f v ((k,x)::r)=(if k=f then(k,v)::r else(k,x)::putF f v r) from rfl]
  by_cases hk:k=f
  .rw[Uw hk]
   by_cases h:g=k
   .have Y:(g==k)=true:=beq_iff_eq.mpr h;simp only[Ce,Y,Uw (h.trans hk)]
   .have Y:(g==k)=false:=beq_eq_false_iff_ne.mpr h;simp only[Ce,Y,Uv (λe:g=f=>h (e.trans hk.symm))]
  .rw[Uv hk]
   by_cases h:g=k
   .have Y:(g==k)=true:=beq_iff_eq.mpr h;simp only[Ce,Y,Uv (λe:g=f=>hk (h.symm.trans e))]
   .have Y:(g==k)=false:=beq_eq_false_iff_ne.mpr h;simp only[Ce,Y];exact E
theorem wL(f:Aw)(v:V):∀fs:List (Aw×V),f∈(putF f v fs).map (·.1)/\∀g,g∈fs.map (·.1)->g∈(putF f v fs).map (·.1)
 | []=>⟨by simp[putF],λg h=>by simp at h⟩
 | (k,x)::r=>by
  obtain⟨a,i⟩:=wL f v r;rw[show putF f v ((k,x)::r)=(if k=f then(k,v)::r else(k,x)::putF f v r) from rfl]
  by_cases hk:k=f
  .rw[Uw hk];subst hk;exact⟨by simp,λg h=>by simpa using h⟩
  .rw[Uv hk];refine⟨?_,λg h=>?_⟩
   .rw[Be];exact Bb _ a
   .rw[Be]at h⊢;rcases Bd.mp h with e|e
    .exact Bd.mpr (.inl e)
    .exact Bb _ (i g e)
theorem CQ(f:Aw)(v:V):∀fs:List (Aw×V),(putF f v fs).length<=fs.length+1
 | []=>by simp[putF]
 | (k,x)::r=>by
  have E:=CQ f v r;rw[show putF f v ((k,x)::r)=(if k=f then(k,v)::r else(k,x)::putF f v r) from rfl]
  by_cases hk:k=f
  .rw[Uw hk,Bu,Bu];lia
  .rw[Uv hk,Bu,Bu];lia
theorem fH.some_of(r:fH (some v) o):∃u,o=some u/\RelV v u:=by
 cases o with
 | none=>exact Bn r
 | some u=>exact⟨u,rfl,r⟩
theorem fH.none_of(r:fH none o):o=none:=by
 cases o with
 | none=>rfl
 | some u=>exact Bn r
theorem R1(r:RelV v u):PySem.W.handedIn u=true:=by
 cases v with
 | non=>cases (show u=Value.none from r);rfl
 | bl b=>cases (show u=Value.bool b from r);rfl
 | int i=>obtain⟨t,e⟩:=(show ∃t,u=Value.int i t from r);cases e;rfl
 | str x=>obtain⟨t,e⟩:=(show ∃t,u=Value.str x t from r);cases e;rfl
 | byt b=>obtain⟨t,e⟩:=(show ∃t,u=Value.bytes b t from r);cases e;rfl
 | flt b=>obtain⟨t,e⟩:=(show ∃t,u=Value.float b t from r);cases e;rfl
 | ref a=>cases (show u=Value.ref a from r);rfl
 | ty n=>cases (show u=Value.type n from r);rfl
section
variable {P:Ar}{w:Bk}{H H':Hp}{h h':Cr}{a C dx:Aj}{fs fs':List (Aw×V)}
theorem wM(hok:cG P w H h)(e:H a=some (.ins C dx fs)):∃mA,mY h a dx C mA/\(∀f,fH (fs.lookup f) (mA f))/\Rx mA (fs.map (·.1))/\fs.length<=1000/\H dx=some (.own a):=by
 obtain⟨d,z,ne,ob,mA,n,r,q⟩:=(show b9 P w H h a (.ins C dx fs) from hok a _ e);exact⟨mA,⟨ob,n,ne⟩,r,q,z,d⟩
end
structure gH(K:Ac)(C:Aj):Prop where
 pg:Ms K C Qt=true
 hd:Pg K C=true
 po:PySem.W.plainOver K C=true
 sa:Fe K (.ref C) "__setattr__" = some (some (.builtin "object.__setattr__"))
theorem gH.get{K:Ac}{C:Aj}(c:gH K C)(f:Aw):Ms K C f=true:=c.pg
def eZ(K:Ac)(C:Aj)(f:Aw):Prop:=Fe K (.ref C) f=some none
theorem eZ.taker{K:Ac}{C:Aj}{f:Aw}(n:eZ K C f):Qa K C f=some none:=by
 unfold Qa;rw[show Fe K (.ref C) f=some none from n];rfl
structure oN(K:Ac)(C:Aj)(m:Aw)(f:Aj):Prop where
 at_:Fe K (.ref C) m=some (some (.ref f))
 fn:Nd K (.ref f)=true
 kp:Em K (.ref f)=true
section
variable {X:Cx}{pins:Pn}{Z:St}{H:Hp}{s:Ah}{a C dx:Aj}{fs:List (Aw×V)}{f:Aw}{v:V}{A:Cn}{E:Ae->Ah->Prop}
theorem R4{b:Bool}{Q:Ae->Ah->Prop}(I:Inv X pins Z H s)(e:H a=some (.ins C dx fs))(c:gH X.K C)(n:eZ X.K C f)(l:fs.lookup f=some v)(h:∀u s',Inv X pins Z H s'->RelV v u->Q u s'):Bl X.m A (getAttr (.ref a) f b) Q E s:=by
 obtain⟨mA,O,r,_,_,_⟩:=wM I.hok e;obtain⟨u,J,ru⟩:=fH.some_of (v:=v) (o:=mA f) (by rw[<-l];exact r f);exact RX I.kIn O (c.get f) c.hd n J (R1 ru) (h u _ (I.tok _) ru)
theorem CS{Q:Ae×List Ae->Ah->Prop}(I:Inv X pins Z H s)(e:H a=some (.ins C dx fs))(c:gH X.K C)(k:oN X.K C m g)(l:fs.lookup m=none)(h:Q (.ref g,[.ref a]) s):Bl X.m A (Pw (.ref a) m pl) Q E s:=by
 obtain⟨mA,O,r,_,_,_⟩:=wM I.hok e;have U:mA m=none:=fH.none_of (by rw[<-l];exact r m);exact RY I.kIn O (c.get m) k.at_ k.fn U h
theorem R5{Q:Unit->Ah->Prop}(I:Inv X pins Z H s)(e:H a=some (.ins C dx fs))(c:gH X.K C)(n:eZ X.K C f)(hl:fs.length<1000)(L:RelV y u)(h:∀s',Inv X pins Z (aN H a (.ins C dx (putF f y fs))) s'->Q () s'):Bl X.m A (setAttr (.ref a) f u) Q E s:=by
 obtain⟨mA,O,r,d,_,D⟩:=wM I.hok e;have hz:(fs.map (·.1)).length<=Ao:=by rw[Ab,Jo];lia
 refine RZ I.kIn O c.sa c.po n.taker c.hd d hz λh' i sb=>h _ ?_;have hd:∃o,h'.get? dx=some o:=let ⟨o,_,_,e',_⟩:=i.ns;⟨o,e'⟩;refine I.write (x:=a) (e:=dx) (by rw[e];exact True.intro) (.inr D) (λb q Y z=>(sb.2 b Y).trans z) hd ?_;refine⟨by rw[bB O.ne];exact D,?_,O.ne,i.obj,_,i.ns,λg=>?_,λg W=>?_⟩
 .have:=CQ f y fs;lia
 .show fH ((putF f y fs).lookup g) (if g=f then some u else mA g);rw[CP]
  by_cases q:g=f
  .rw[Uw q,Uw q];exact L
  .rw[Uv q,Uv q];exact r g
 .by_cases q:g=f
  .rw[q];exact(wL f y fs).1
  .refine(wL f y fs).2 g (d g λz=>W ?_);show(if g=f then some u else mA g)=none;rw[Uv q];exact z
theorem Inv.made(I:Inv X pins Z H s):Inv X pins Z (aN (aN H s.heap.objs.size (.own (s.heap.objs.size+1))) (s.heap.objs.size+1) (.ins C s.heap.objs.size []))
  {s with heap:=(s.heap.push Fp).push (Hj C s.heap.objs.size)}:=by
 have T:(s.heap.push Fp).get? s.heap.objs.size=some Fp:=Au s.heap rfl;have G:((s.heap.push Fp).push (Hj C s.heap.objs.size)).get? (s.heap.objs.size+1)=some (Hj C s.heap.objs.size):=by
  have:=Au (s.heap.push Fp) (o:=Hj C s.heap.objs.size) rfl;rwa [Gk]at this
 have t:(s.heap.push Fp).Ns s.heap.objs.size (λ_=>none):=⟨Fp,#[],_,T,rfl,(λe P=>absurd P (by simp)),λ_=>rfl⟩;have L:=I.laid (a:=s.heap.objs.size) (o:=.own (s.heap.objs.size+1)) (h':=s.heap.push Fp) (t':=s.toks) (λb u q=>Ag _ q) (Ai _) ⟨_,T⟩;refine L.laid (a:=s.heap.objs.size+1) (o:=.ins C s.heap.objs.size []) (t':=s.toks) (λb u q=>Ag _ q) (Qg (Gk _ _)) ?_;have ne:s.heap.objs.size≠s.heap.objs.size+1:=Bo (Jk _);refine⟨by rw[bB ne,b8],Ea _,ne,G,λ_=>none,(Heap.Ns1.of_empty t).at λo q=>Ag _ q,λ_=>True.intro,λy K=>absurd rfl K⟩
theorem R6{Q:Ae->Ah->Prop}(Y:Fx e f env (El e env)=El e env)(h:Bl (Cq prog w) A (El e env) (λo y=>Bl (Cq prog w) A (getAttr o f true) Q E y) E s):Bl (Cq prog w) A (El (.Attribute e f pos) env) Q E s:=
 Attribute_any_ h (by rw[arm_eval_Attribute,Y])
end
def R7(K:Ac)(ta:TE)(f:Aw):TE:=λZ H Q=>ta Z H λx G=>∃a C dx fs v,x=.ref a/\G a=some (.ins C dx fs)/\gH K C/\eZ K C f/\fs.lookup f=some v/\Q v G
def R8(K:Ac)(ta tv:TE)(f:Aw):TS:=λD Z H=>tv Z H λy G=>ta Z G λx z=>∃a C dx fs,x=.ref a/\z a=some (.ins C dx fs)/\gH K C/\eZ K C f/\fs.length<1000/\
 D.nx Z (aN z a (.ins C dx (putF f y fs)))
section
variable {X:Cx}{o e value:Cb}{f:Aw}{pos pos' tpos:Gy}{ta tv:TE}
theorem R9(P:PE X e ta)(Y:Fx e f X.env (El e X.env)=El e X.env):PE X (.Attribute e f pos) (R7 X.K ta f):=by
 intro pins s Z H Q I h;refine R6 Y (aY (P pins s Z H _ I h) λu M ⟨x,G,L,d,a,C,dx,fs,v,ex,k,c,n,l,q⟩=>?_);subst ex;obtain rfl:u=Value.ref a:=d;exact R4 L k c n l λz g i ru=>⟨v,G,i,ru,q⟩
theorem SA(S:PE X o ta)(m:PE X value tv)(F:Ig value (some (.Attribute o f pos')) pos.line X.env=pure false):PS X (.Assign [.Attribute o f pos'] value pos) (R8 X.K ta tv f):=by
 intro pins s Z H D I h;refine plainObj_wpAny_Assign_Attribute (aY (m pins s Z H _ I h) λu M ⟨y,G,L,B,q⟩=>aY (S pins M Z G _ L q) λN g ⟨x,z,i,d,a,C,dx,fs,ex,Q,c,n,l,p⟩=>?_) F;subst ex;obtain rfl:N=Value.ref a:=d;exact R5 i Q c n l B λj E=>⟨Z,_,E,p⟩
end
structure cC(k:Nat)(A:Cn):Prop where
 hd:A.handled=none
 dp:A.depth+3*k+5<recursionLimit
 un:A.units+16*k+200<Ex
theorem cC.mono{j k:Nat}(r:cC k A)(h:j<=k):cC j A:=⟨r.hd,by have:=r.dp;lia,by have:=r.un;lia⟩
theorem cC.deeper{k:Nat}(r:cC (k+1) A)(env:Env):cC k (A.deeper env):=
 ⟨r.hd,by have:=r.dp;show A.depth+1+3*k+5<_;lia,by have:=r.un;show A.units+3+16*k+200<_;lia⟩
theorem SD{A:Cn}{C:Aj}{us:List Ae}{b:List (Aw×Ae)}:(A.under (.builtin "type.__call__" ⟨.ref C::us,b⟩)).depth=A.depth+1:=by
 first|rfl|simp[Rt,Code.weight,Code.isCreation,Code.isGuard,Code.isCaller,Code.frames,Sj,guardIds]
theorem SE{A:Cn}{C:Aj}{us:List Ae}{b:List (Aw×Ae)}:(A.under (.builtin "type.__call__" ⟨.ref C::us,b⟩)).units=A.units+1:=by
 first|rfl|simp[Rt,Code.cUnits,Code.frames,Sj]
theorem cC.make{k:Nat}(r:cC (k+1) A)(C:Aj)(us:List Ae)(b:List (Aw×Ae)):cC k (A.under (.builtin "type.__call__" ⟨.ref C::us,b⟩)):=
 ⟨r.hd,by have:=r.dp;rw[SD];lia,by have:=r.un;rw[SE];lia⟩
theorem cC.depth{k:Nat}(r:cC k A):A.depth<recursionLimit:=by have:=r.dp;lia
theorem cC.units{k:Nat}(r:cC k A):A.units+64<Ex:=by have:=r.un;lia
def wN:TA:=λ_ H Q=>Q [] H
def SF(ta:TE)(a:TA):TA:=λZ H Q=>ta Z H λx G=>a Z G λxs z=>Q (x::xs) z
section
variable {X:Cx}{e:Cb}{es:List Cb}{te:TE}{t:TA}{pos:Gy}
theorem SG:PA X [] wN:=λ_ _ _ _ H Q I h=>Ml ⟨[],H,I,.nil,h⟩
theorem SH(l:PE X e te)(g:PA X es t)(F:Se X e es:=by rfl):PA X (e::es) (SF te t):=by
 intro pos pins s Z H Q I h;rw[F];show Bl _ _ (spliced ((false,El e X.env)::Me pos (Cj es X.env))) _ _ s;refine Jx (aY (l pins s Z H _ I h) λu M ⟨x,G,L,B,f⟩=>?_);exact aY (g pos pins M Z G _ L f) λus V ⟨xs,z,i,R,p⟩=>⟨x::xs,z,i,.cons B R,p⟩
def SI(t:TA):TE:=λZ H Q=>t Z H λxs G=>xs.length<=Ao/\∀p,G p=none->Q (.ref p) (aN G p (.tup xs))
def SJ(t:TA):TE:=λZ H Q=>t Z H λxs G=>xs.length<=Ao/\∀p,G p=none->Q (.ref p) (aN G p (.lst xs))
theorem SM{x1}(h:PA X es t):PE X (.Tuple es x1 pos) (SI t):=by
 intro pins s Z H Q I N;refine wpAny_Tuple_spliced (aY (h pos pins s Z H _ I N) λus M ⟨xs,G,L,r,z,q⟩=>⟨by rw[<-r.length];exact z,?_⟩);have hf:G M.heap.objs.size=none:=L.hok.fresh (Ai _);refine⟨.ref M.heap.objs.size,aN G M.heap.objs.size (.tup xs),L.laid (t':=M.toks) (λb u e=>Ag _ e) (Ai _) ?_,rfl,q _ hf⟩;exact⟨z,us,r,⟨_,Au _ rfl,rfl,_,rfl⟩⟩
theorem CU(h:PA X es t):PE X (.List es pos) (SJ t):=by
 intro pins s Z H Q I N;refine wpAny_List_spliced (aY (h pos pins s Z H _ I N) λus M ⟨xs,G,L,r,z,q⟩=>⟨by rw[<-r.length];exact z,?_⟩);have hf:G M.heap.objs.size=none:=L.hok.fresh (Ai _);refine⟨.ref M.heap.objs.size,aN G M.heap.objs.size (.lst xs),L.laid (t':=M.toks) (λb u e=>Ag _ e) (Ai _) ?_,rfl,q _ hf⟩;exact⟨z,us,0,r,Au _ rfl⟩
end
abbrev Sp:=List V->Hp->VK->XK->Prop
abbrev jE:=List Env->Hp->Ah->XK->Ae->Ah->Prop
structure mZ(P:Ar)(w:Bk)(K:Ac)(mg:Aw->Option Ae)(base:Cr)(A:Cn)(outer:List Env)(s:Ah)(H:Hp):Prop where
 frames:A.frames=some outer
 mod:Mod K mg base
 bs:∀b o,base.get? b=some o->s.heap.get? b=some o/\H b=none
 bsz:base.objs.size<=s.heap.objs.size
 funs:s.heap.FunFrames base outer
 frf:∀b∈dX outer,H b=none
 hok:cG P w H s.heap
 bare:My s.gens
def CE(outer:List Env)(P:Ar)(w:Bk)(H:Hp)(s:Ah)(Q:VK)(u:Ae)(s':Ah):Prop:=
 ∃v H',s'.os=s.os/\My s'.gens/\Un (dX outer) [] H H' s.heap s'.heap/\cG P w H' s'.heap/\RelV v u/\Q v H'
def CR(CX:jE)(outer:List Env)(P:Ar)(w:Bk)(H:Hp)(s:Ah)(Q:VK)(E:XK)(r:Tn)(s':Ah):Prop:=
 match r with
 | .ok (.ret u)=>CE outer P w H s Q u s'
 | .ok _=>False
 | .error e=>CX outer H s E e s'
structure e8(P:Ar)(w:Bk)(K:Ac)(mg:Aw->Option Ae)(base:Cr)(CX:jE)(k:Nat)(f:Aj)(fd:Dz)(ps:List Aw)(sp:Sp):Prop where
 len:∀vs H Q E,sp vs H Q E->vs.length=ps.length
 run:∀(A:Cn) (outer:List Env) (s:Ah) (H:Hp) (args:Args) (us:List Ae) (vs:List V) (Q:VK) (E:XK),cC k A->mZ P w K mg base A outer s H->Sk s fd args (ps.zip us)->aX vs us->sp vs H Q E->
  Mr (Cq P w) A (.call (.ref f) args) (CR CX outer P w H s Q E) s
abbrev Cx.f(X:Cx):=e8 X.prog X.w X.K X.mg X.base
theorem mZ.make{P:Ar}{w:Bk}{K:Ac}{mg:Aw->Option Ae}{base:Cr}{A:Cn}{outer:List Env}{s:Ah}{H:Hp}(e:mZ P w K mg base A outer s H)(C:Aj)(us:List Ae)(b:List (Aw×Ae)):
  mZ P w K mg base (A.under (.builtin "type.__call__" ⟨.ref C::us,b⟩)) outer s H:=⟨by first|exact e.frames|(simpa [Rt,Code.envs,Sj,pushEnvs] using e.frames),e.mod,e.bs,e.bsz,e.funs,e.frf,e.hok,e.bare⟩
section
variable {X:Cx}{pins:Pn}{Z:St}{H:Hp}{s s':Ah}
theorem Inv.env0(I:Inv X pins Z H s):mZ X.prog X.w X.K X.mg X.base X.A X.stack s H:=
 ⟨I.ok.frames,I.ok.mod,I.bs,Bf I.ok.bsz I.sz,I.stack,I.stkFree,I.hok,I.bare⟩
theorem Inv.after(I:Inv X pins Z H s)(h:CE X.stack X.prog X.w H s Q u s'):EP X pins Z Q u s':=by
 obtain⟨v,H',os,bare,un,hok,r,q⟩:=h;obtain⟨hh,g,d,t,a⟩:=s';obtain rfl:a=s.os:=os;exact⟨v,H',I.call (h':=hh) (g':=g) (d':=d) (t':=t) (ch:=[]) un hok bare (λb z=>absurd z (by simp)),r,q⟩
end
def CV(sp:Sp)(dvs:List V)(E:XK)(t:TA):TE:=λZ H Q=>t Z H λvs G=>sp (vs++dvs) G Q E
def wO(C:Aj)(m:Aw)(sp:Sp)(dvs:List V)(E:XK)(ta:TE)(t:TA):TE:=λZ H Q=>ta Z H λx G=>∃a dx fs,x=.ref a/\G a=some (.ins C dx fs)/\fs.lookup m=none/\
 t Z G λvs z=>sp (x::(vs++dvs)) z Q E
def CW(C:Aj)(sp:Sp)(dvs:List V)(E:XK)(t:TA):TE:=λZ H Q=>t Z H λvs G=>∀x dx,G x=none->G dx=none->dx≠x->
 sp (.ref x::(vs++dvs)) (aN (aN G dx (.own x)) x (.ins C dx [])) (λv z=>v=.non/\Q (.ref x) z) E
def Binds(K:Ac)(fd:Dz)(ps:List Aw)(ds:List Ae):Prop:=
 ∀(s:Ah) (us:List Ae),K.In s.heap->(us++ds).length=ps.length->Sk s fd ⟨us,[]⟩ (ps.zip (us++ds))
theorem Binds.all{K:Ac}{fd:Dz}{ps:List Aw}(h:∀us:List Ae,us.length=ps.length->bindArgs fd ⟨us,[]⟩=pure (ps.zip us)):Binds K fd ps []:=λs us _ hl=>by
 rw[Dc]at hl⊢;exact .of_eq (h us hl)
def kF(CX:jE)(X:Cx)(E:XK):Prop:=∀(pins:Pn) (Z:St) (H:Hp) (s:Ah) (e:Ae) (s':Ah),Inv X pins Z H s->CX X.stack H s E e s'->X.xe e s'
section
variable {X:Cx}{CX:jE}{k:Nat}{f C:Aj}{fd:Dz}{ps:List Aw}{sp:Sp}{dvs:List V}{ds:List Ae}{E:XK}{x m:Aw}{p pos apos:Gy}{e o:Cb}{es:List Cb}{ta:TE}{t:TA}
theorem sN(F:X.f CX k f fd ps sp)(hr:cC k X.A)(hb:Binds X.K fd ps ds)(hd:aX dvs ds)(hx:kF CX X E)(I:Inv X pins Z H s)(r:aX vs us)(h:sp (vs++dvs) H Q E):X.a (call (.ref f) us) (EP X pins Z Q) X.xe s:=by
 have r2:aX (vs++dvs) (us++ds):=r.append hd;have hl:(us++ds).length=ps.length:=by rw[<-r2.length];exact F.len _ _ _ _ h
 refine Uc (La (F.run X.A X.stack s H ⟨us,[]⟩ (us++ds) (vs++dvs) Q E hr I.env0 (hb s us I.kIn hl) r2 h) λr s' hq=>?_);cases r with
 | error e=>exact hx pins Z H s e s' I hq
 | ok fl=>
  cases fl with
  | ret u=>exact I.after hq
  | next=>exact Bn hq
  | brk=>exact Bn hq
  | cont=>exact Bn hq
theorem CY(F:X.f CX k f fd ps sp)(g:cC k X.A)(W:Gl X x)(J:X.mg x=some (.ref f))(hk:Em X.K (.ref f)=true)(Y:Binds X.K fd ps ds)(hd:aX dvs ds)(S:kF CX X E)(l:PA X (e::es) t)(o:Db x:=by decide)(P:Se X e es:=by rfl)(b:Sb X pos es:=by rfl):
  PE X (.Call (.Name x p) (e::es) [] pos) (CV sp dvs E t):=by
 intro pins s Z H Q I h;refine Dv (iS I W J ?_ o);refine Jq (h₀:=X.base) I.ok.mod.kin hk (aY (l pos pins s Z H _ I h) λus M ⟨vs,G,L,r,q⟩=>⟨L.kIn,?_⟩) P b;exact sN F g Y hd S L r q
theorem SN(P:PE X o ta)(c:gH X.K C)(J:oN X.K C m f)(F:X.f CX k f fd ps sp)(g:cC k X.A)(Y:Binds X.K fd ps ds)(hd:aX dvs ds)(S:kF CX X E)(W:PA X (e::es) t)(j:Se X e es:=by rfl)(b:Sb X pos es:=by rfl)(ht:El (.Call (.Attribute o m apos) (e::es) [] pos) X.env=(do
   let y <-El o X.env
   Pu apos.atName
   let (f,first) <-Jf [y] (Pw y m pl)
   Ub pos f first (Me pos (Cj (e::es) X.env)) (Og pos (Kv [] X.env))):=by rfl):
  PE X (.Call (.Attribute o m apos) (e::es) [] pos) (wO C m sp dvs E ta t):=by
 intro pins s Z H Q I h;refine PySem.W.methodCall_KW (pl:=pl) (aY (P pins s Z H _ I h) λu M ⟨x,G,L,d,a,dx,fs,ex,T,l,q⟩=>?_) ht;subst ex;obtain rfl:u=Value.ref a:=d;refine CS L T c J l ?_;refine Jq (first:=[.ref a]) (h₀:=X.base) I.ok.mod.kin J.kp (aY (W pos pins M Z G _ L q) λus V ⟨vs,z,i,r,p⟩=>⟨i.kIn,?_⟩) j b;exact sN (us:=.ref a::us) (vs:=.ref a::vs) F g Y hd S i (.cons rfl r) p
theorem SO(P:PE X o ta)(c:gH X.K C)(J:oN X.K C m f)(F:X.f CX k f fd ps sp)(g:cC k X.A)(Y:Binds X.K fd ps ds)(hd:aX dvs ds)(S:kF CX X E)(ht:El (.Call (.Attribute o m apos) [] [] pos) X.env=(do
   let y <-El o X.env
   Pu apos.atName
   let (f,first) <-Jf [y] (Pw y m pl)
   Ub pos f first (Me pos (Cj [] X.env)) (Og pos (Kv [] X.env))):=by rfl):
  PE X (.Call (.Attribute o m apos) [] [] pos) (wO C m sp dvs E ta wN):=by
 intro pins s Z H Q I h;refine PySem.W.methodCall_KW (pl:=pl) (aY (P pins s Z H _ I h) λu M ⟨x,G,L,d,a,dx,fs,ex,T,l,q⟩=>?_) ht;subst ex;obtain rfl:u=Value.ref a:=d;refine CS L T c J l ?_;exact PySem.W.callWith_K0 (first:=[.ref a]) L.kIn J.kp (sN (us:=[.ref a]) (vs:=[.ref a]) F g Y hd S L (.cons rfl .nil) q)
structure Mk(K:Ac)(C f:Aj):Prop where
 makes:Qb K C=true
 init:Fe K (.ref C) "__init__" = some (some (.ref f))
 fn:Nd K (.ref f)=true
 kp:Em K (.ref C)=true
theorem CZ(M:Mk X.K C f)(F:X.f CX k f fd ps sp)(hr:cC (k+1) X.A)(hb:Binds X.K fd ps ds)(hd:aX dvs ds)(hx:kF CX X E)(I:Inv X pins Z H s)(r:aX vs us)(h:∀x dx,H x=none->H dx=none->dx≠x->sp (.ref x::(vs++dvs)) (aN (aN H dx (.own x)) x (.ins C dx [])) (λv H2=>v=.non/\Q (.ref x) H2) E):
  X.a (call (.ref C) us) (EP X pins Z Q) X.xe s:=by
 have hq:=h (s.heap.objs.size+1) s.heap.objs.size (I.hok.fresh (Fz _)) (I.hok.fresh (Ai _)) (Bo (Jk _));have I2:=Inv.made (C:=C) I;have r2:aX (V.ref (s.heap.objs.size+1)::(vs++dvs)) (Value.ref (s.heap.objs.size+1)::(us++ds)):=.cons rfl (r.append hd);have hl:(Value.ref (s.heap.objs.size+1)::us++ds).length=ps.length:=by
  have e:=r2.length;rw[F.len _ _ _ _ hq]at e;exact e.symm
 refine Uc (R0 (f:=f) I.kIn M.makes M.init (beq_iff_eq.mp M.fn) (La (F.run _ X.stack _ _ ⟨Value.ref (s.heap.objs.size+1)::us,[]⟩ (Value.ref (s.heap.objs.size+1)::(us++ds)) _ _ E (hr.make C us [])
  (I2.env0.make C us []) (hb _ (Value.ref (s.heap.objs.size+1)::us) I2.kIn hl) r2 hq) λr s' hq'=>?_))
 cases r with
 | error e=>exact hx pins Z _ _ e s' I2 hq'
 | ok fl=>
  cases fl with
  | ret u=>
   obtain⟨v,H',I3,rv,ev,q3⟩:=I2.after hq';subst ev;exact⟨rv,⟨V.ref (s.heap.objs.size+1),H',I3,rfl,q3⟩⟩
  | next=>exact Bn hq'
  | brk=>exact Bn hq'
  | cont=>exact Bn hq'
theorem SQ(M:Mk X.K C f)(F:X.f CX k f fd ps sp)(g:cC (k+1) X.A)(V:Gl X x)(J:X.mg x=some (.ref C))(Y:Binds X.K fd ps ds)(hd:aX dvs ds)(S:kF CX X E)(l:PA X (e::es) t)(o:Db x:=by decide)(P:Se X e es:=by rfl)(b:Sb X pos es:=by rfl):
  PE X (.Call (.Name x p) (e::es) [] pos) (CW C sp dvs E t):=by
 intro pins s Z H Q I h;refine Dv (iS I V J ?_ o);refine Jq (h₀:=X.base) I.ok.mod.kin M.kp (aY (l pos pins s Z H _ I h) λus L ⟨vs,G,W,r,q⟩=>⟨W.kIn,?_⟩) P b;exact CZ M F g Y hd S W r q
theorem SU(M:Mk X.K C f)(F:X.f CX k f fd ps sp)(g:cC (k+1) X.A)(W:Gl X x)(J:X.mg x=some (.ref C))(Y:Binds X.K fd ps ds)(hd:aX dvs ds)(S:kF CX X E)(o:Db x:=by decide):PE X (.Call (.Name x p) [] [] pos) (CW C sp dvs E wN):=by
 intro pins s Z H Q I h;refine Dv (iS I W J ?_ o);exact PySem.W.callWith_K0 I.kIn M.kp (CZ (us:=[]) M F g Y hd S I .nil h)
end
structure lK(N P:List Aw)(sc:Jp):Prop where
 kind:sc.kind=.function
 co:sc.isCoroutine=false
 gen:sc.isGenerator=false
 nd:N.Nodup
 pre:N.take P.length=P
 par:∀x∈P,sc.names.lookup x=some .local\/sc.names.lookup x=some .cell
 nofree:∀y∈sc.names,y.2≠.free
theorem C0{a:Aw->Option Jr}:∀{binds:List (Aw×Ae)} {m:Aw->Option Ae},(∀v,(x,v)∉binds)->Ta a binds m x=m x
 | [],_,_=>rfl
 | (n,v)::r,m,h=>by
  unfold Ta;rw[C0 λw hw=>h w (Bb _ hw)];split
  .have:x≠n:=by rintro rfl;exact h v Bi
   simp[this]
  .rfl
theorem C3{a:Aw->Option Jr}:∀{binds:List (Aw×Ae)} {m:Aw->Option Ae},(∀v,(x,v)∉binds)->Tb a binds m x=m x
 | [],_,_=>rfl
 | (n,v)::r,m,h=>by
  unfold Tb;rw[C3 λw hw=>h w (Bb _ hw)];split
  .rfl
  .have:x≠n:=by rintro rfl;exact h v Bi
   simp[this]
theorem C4{a:Aw->Option Jr}{x:Aw}{v:Ae}:∀{P:List Aw} {vs:List Ae} {i:Nat} {m:Aw->Option Ae},P.Nodup->P[i]? = some x->vs[i]? = some v->a x=some .local->
  Ta a (P.zip vs) m x=some v
 | [],_,_,_,_,h,_,_=>by simp at h
 | _::_,[],_,_,_,_,h,_=>by simp at h
 | p::P,w::vs,0,m,nd,O,Z,hk=>by
  simp at O Z;subst O;subst Z;show Ta a ((p,w)::P.zip vs) m p=_;unfold Ta;rw[C0 λv c=>(Dl.mp nd).1 (Qw c).1,Uw hk];simp
 | p::P,w::vs,i+1,m,nd,O,Z,hk=>by
  show Ta a ((p,w)::P.zip vs) m x=_;unfold Ta;exact C4 (i:=i) (Dl.mp nd).2 (by simpa using O) (by simpa using Z) hk
theorem C5{a:Aw->Option Jr}{x:Aw}{v:Ae}:∀{P:List Aw} {vs:List Ae} {i:Nat} {m:Aw->Option Ae},P.Nodup->P[i]? = some x->vs[i]? = some v->a x≠some .local->
  Tb a (P.zip vs) m x=some v
 | [],_,_,_,_,h,_,_=>by simp at h
 | _::_,[],_,_,_,_,h,_=>by simp at h
 | p::P,w::vs,0,m,nd,O,Z,hk=>by
  simp at O Z;subst O;subst Z;show Tb a ((p,w)::P.zip vs) m p=_;unfold Tb;rw[C3 λv c=>(Dl.mp nd).1 (Qw c).1,Uv hk];simp
 | p::P,w::vs,i+1,m,nd,O,Z,hk=>by
  show Tb a ((p,w)::P.zip vs) m x=_;unfold Tb;exact C5 (i:=i) (Dl.mp nd).2 (by simpa using O) (by simpa using Z) hk
def start(N:List Aw)(vs:List V):St:=vs.map some++Bz (N.length-vs.length) none
def cZ(CX:jE)(P:Ar)(w:Bk)(K:Ac)(mg:Aw->Option Ae)(base:Cr)(N:List Aw)(m:Aw)(d:Jp)(f:Aj)(R:Ae)(A:Cn)(outer:List Env)(s:Ah)(H:Hp)(E:XK):Cx where
 prog:=P
 w:=w
 K:=K
 mg:=mg
 base:=base
 A:=A.deeper (Lp m d s.heap.objs.size f R)
 N:=N
 s₀:=s
 H₀:=H
 env:=Lp m d s.heap.objs.size f R
 outer:=outer
 stack:=Lp m d s.heap.objs.size f R::outer
 ex:=[]
 calm:=true
 fn:=λ_=>true
 pn:=[]
 xe:=λe W=>Bl (Cq P w) (A.deeper (Lp m d s.heap.objs.size f R)) (leaving (Lp m d s.heap.objs.size f R) e) (λ_ j=>CX outer H s E e j) (λM j=>CX outer H s E M j) W
theorem C6{sc:Jp}{n:Nat}{x:Aw}(h:sc.names.lookup x=some .cell):∃c,(Ut n sc.names []).lookup x=some c:=by
 have q:=PySem.W.cellsFrom_some sc.names n [] (.inl h);exact Eb.mp q
theorem SW{CX:jE}{P:Ar}{w:Bk}{K:Ac}{mg:Aw->Option Ae}{base:Cr}{N ps:List Aw}{m:Aw}{d:Jp}{f:Aj}{R:Ae}{A:Cn}{outer:List Env}{s M:Ah}{H:Hp}{E:XK}{us:List Ae}{vs:List V}(S:lK N ps d)(hd:A.handled=none)(F:mZ P w K mg base A outer s H)(hl:vs.length=ps.length)(r:aX vs us)(x:InCallC s s.heap.objs.size (Ta (Lp m d s.heap.objs.size f R).kindOf (ps.zip us) λ_=>none) (Ut (s.heap.objs.size+1) d.names []) (Tb (Lp m d s.heap.objs.size f R).kindOf (ps.zip us) λ_=>none) M):
  Inv (cZ CX P w K mg base N m d f R A outer s H E) [] (start N vs) H M:=by
 have j:ps.length<=N.length:=by have:=congrArg Ia S.pre;rw[Ca]at this;lia
 obtain⟨O,tk,rfl,hk⟩:=x.done;have Q:∀b:Aj,b∉(cZ CX P w K mg base N m d f R A outer s H E).ex:=λb z=>absurd (show b∈([]:List Aj) from z) (by simp);refine⟨⟨F.mod,S.kind,rfl,rfl,Ai _,λy z c O Z=>?_,λy I=>?_,λy c _ h=>?_,λ_=>hd,Around.frames_deeper F.frames,.inr ⟨rfl,rfl⟩,λb z=>absurd z (Q b),F.bs,F.bsz,λb _ _=>Q b,λb z=>absurd z (Q b),F.funs,F.frf⟩,
  rfl,F.bare,Un.kept hk,⟨_,x.toInCall.ns,λi y v O Z L=>?_⟩,λy c h=>⟨_,x.cell y c h⟩,F.hok.fresh (Ai _),λy c h=>?_,λp B=>absurd (show p∈([]:List (Aj×Lc)) from B) (by simp),F.hok.kept hk,?_⟩
 .exact name_of_addr x.apart (Hw O) (Hw Z)
 .have I:d.names.lookup y=some .cell\/d.names.lookup y=some .free:=I;rcases I with I|I
  .exact C6 I
  .exact absurd rfl (S.nofree _ (Hw I))
 .exact Hr (x.above y c (Hw h))
 .have hi:i<vs.length:=by
   unfold start at Z
   by_cases hi:i<vs.length
   .exact hi
   .rw[Jb (by simpa using hi)]at Z;rw[List.getElem?_replicate]at Z;split at Z<;>cases Z
  have l:vs[i]? = some v:=by
   unfold start at Z;rw[List.getElem?_append_left (by simpa using hi),Ap]at Z;cases e:vs[i]? with
   | none=>rw[e]at Z;cases Z
   | some a=>rw[e]at Z;cases Z;rfl
  obtain⟨u,J,T⟩:=r.get l;have B:ps[i]? = some y:=by
   rw[<-S.pre,List.getElem?_take_of_lt (by lia)];exact O
  have g:ps.Nodup:=by rw[<-S.pre];exact S.nd.sublist (List.take_sublist _ _)
  refine⟨u,T,?_⟩;rcases S.par y (Ay B) with k|k
  .exact .inl ⟨k,C4 g B J k⟩
  .obtain⟨c,e⟩:=C6 (n:=s.heap.objs.size+1) k;refine .inr ⟨.inl k,c,e,?_⟩;have q:=x.cell y c e;rw[C5 g B J (by show d.names.lookup y≠_;rw[k];decide)]at q;exact q
 .exact F.hok.fresh (Hr (x.above y c (Hw h)))
 .unfold start;show _=N.length;rw[Ak,Ab,Ew];lia
theorem C7{CX:jE}{P:Ar}{w:Bk}{K:Ac}{mg:Aw->Option Ae}{base:Cr}{k:Nat}{f:Aj}{name qual:Aw}{params:Arguments}{body:List Gn}{scope:Jp}{dV kV doc pm cdv ct oc:Ae}{an od:Option Aj}{osl:Array (Option Ae)}{N ps:List Aw}{sp:Sp}(lk:K.lookup f=some ⟨oc,od,.func (Fh name qual params body scope dV kV doc pm an cdv ct),osl⟩)(hcd:Ke K cdv qual=true)(S:lK N ps scope)(len:∀vs H Q E,sp vs H Q E->vs.length=ps.length)(hbody:∀(A:Cn) (outer:List Env) (s:Ah) (H:Hp) (vs:List V) (Q:VK) (E:XK),cC k (A.deeper (Lp qual scope s.heap.objs.size f cdv))->sp vs H Q E->
   ∃t,eR (cZ CX P w K mg base N qual scope f cdv A outer s H E) body t/\t {nx:=λ_ H'=>Q .non H',rt:=Q} (start N vs) H):
  e8 P w K mg base CX (k+1) f (Fh name qual params body scope dV kV doc pm an cdv ct) ps sp:=by
 refine⟨len,λA outer s H args us vs Q E hr e0 hb r hsp=>?_⟩;have hl:=len _ _ _ _ hsp;have KX:K.In s.heap:=e0.mod.kin.keeps λb o e=>(e0.bs b o e).1;have lim:s.heap.NoLimit:=e0.mod.nolimit.keeps λb o e=>(e0.bs b o e).1;have hkind:∀y∈ps.zip us,scope.names.lookup y.1=some .local\/(scope.names.lookup y.1=some .cell/\((Ut (s.heap.objs.size+1) scope.names []).lookup y.1).isSome=true):=λ⟨n,v⟩ hy=>by
  rcases S.par n (Qw hy).1 with q|q
  .exact .inl q
  .exact .inr ⟨q,PySem.W.cellsFrom_some _ _ _ (.inl q)⟩
 refine codeAny_call_function hr.depth (KX _ _ lk) rfl S.co S.gen rfl (PySem.W.codeRec_of KX hcd) (hb _ _ _ _ ?_);refine wpAny_newFunctionEnv_cells S.kind hkind λenv he s1 x=>?_;subst he;refine⟨lim.keeps x.toInCall.keep,codeAny_func ?_⟩;obtain⟨t,ht,hq⟩:=hbody A outer s H vs Q E (hr.deeper _) hsp;have I:Inv (cZ CX P w K mg base N qual scope f cdv A outer s H E) [] (start N vs) H s1:=SW S hr.hd e0 hl r x;refine Fo (ht [] s1 (start N vs) H _ I hq) (λfl s' hs=>?_) λe s' hs=>hs;have fin:∀{σ':St} {H':Hp} {v:V} {u:Ae},Inv (cZ CX P w K mg base N qual scope f cdv A outer s H E) [] σ' H' s'->RelV v u->Q v H'->CE outer P w H s Q u s':=
  λ{σ' H' v u} J rv q=>⟨v,H',J.os,J.bare,J.base,J.hok,rv,q⟩
 cases fl with
 | ret u=>
  obtain⟨v,σ',H',J,rv,q⟩:=hs;exact fin J rv q
 | next=>
  obtain⟨σ',H',J,q⟩:=hs;exact fin (v:=V.non) (u:=Value.none) J rfl q
 | brk=>
  obtain⟨_,_,_,q⟩:=hs;exact Bn q
 | cont=>
  obtain⟨_,_,_,q⟩:=hs;exact Bn q
section
variable {X:Cx}{x:Aw}{p pos:Gy}{e:Cb}{es:List Cb}{t:TA}{id T:String}{r:List V->Hp->VK->Prop}
def wQ(r:List V->Hp->VK->Prop)(t:TA):TE:=λm H Q=>t m H λvs G=>r vs G Q
theorem SX(hc:cM X (.builtin id) r)(Z:Gl X x)(J:X.mg x=none)(c:Cs x=some (.builtin id))(l:PA X (e::es) t)(U:x≠"__name__":=by decide)(o:Db x:=by decide)(P:Se X e es:=by rfl)(b:Sb X pos es:=by rfl):PE X (.Call (.Name x p) (e::es) [] pos) (wQ r t):=by
 intro C s m H Q I h;refine Dv (iA I Z J c ?_ U o);exact PyProof.Rows.callWith_builtin1 (aY (l pos C s m H _ I h) λus M ⟨vs,G,L,B,f⟩=>hc C M m G vs us Q L B f) P b
theorem SY(hc:cM X (.type T) r)(Z:Gl X x)(J:X.mg x=none)(c:Cs x=some (.type T))(l:PA X (e::es) t)(U:x≠"__name__":=by decide)(o:Db x:=by decide)(P:Se X e es:=by rfl)(b:Sb X pos es:=by rfl):PE X (.Call (.Name x p) (e::es) [] pos) (wQ r t):=by
 intro C s m H Q I h;refine Dv (iA I Z J c ?_ U o);exact Cg (aY (l pos C s m H _ I h) λus M ⟨vs,G,L,B,f⟩=>hc C M m G vs us Q L B f) P b
end
end L2
namespace HT
section
variable {prog:Ar}{w:Bk}{A:Cn}{E:Ae->Ah->Prop}{s:Ah}
theorem cat_tup{Q:Ae->Ah->Prop}(ht:IsTup s.heap t vs.toArray)(Y:IsTup s.heap b ws.toArray)(c:vs≠[])(O:ws=[]->Q (.ref t) s)(Z:ws≠[]->Q (.ref s.heap.objs.size) {s with heap:=s.heap.push {cls:=.type "tuple",data:=.seq (vs++ws).toArray}})(hsz:vs.length+ws.length<=Ao):Bl (Cq prog w) A (Ee .Add (.ref t) (.ref b)) Q E s:=by
 obtain⟨⟨cls,dd,data,sl⟩,D,hc,n,hd⟩:=id ht;obtain⟨⟨k,h,j,i⟩,g,f,n2,G⟩:=id Y;simp only at hc hd f G;subst hc hd f G;have e:vs.toArray++ws.toArray=(vs++ws).toArray:=by simp
 by_cases hw:ws=[]
 .exact Th ⟨_,D,rfl⟩ ⟨_,g,rfl⟩ Ri Su Nf Mv (Mg _ _)
   (tuple_addW1 t b vs.toArray ws.toArray n n2 dd h sl i (by simpa using c) (by simp[hw])) ⟨D,g,O hw⟩
 .refine Th ⟨_,D,rfl⟩ ⟨_,g,rfl⟩ Ri Su Nf Mv (Mg _ _)
   (tuple_addW2 t b vs.toArray ws.toArray n n2 dd h sl i (by simpa using c) (by simpa using hw) (by rw[Bj,Bj];exact hsz)) ⟨D,g,?_⟩
  rw[e];exact Z hw
def sIx(n d:Nat):Option Int->Nat
 | none=>d
 | some v=>if v<0 then(v+(n:Int)).toNat else min v.toNat n
theorem sIx_nat(n d k:Nat):sIx n d (some (k:Int))=min k n:=by
 show(if (k:Int)<0 then((k:Int)+(n:Int)).toNat else min (k:Int).toNat n)=min k n;rw[Uv (by lia),Du]
theorem S4(n d:Nat)(hd:d<=n)(o:Option Int):sIx n d o<=n:=by
 cases o with
 | none=>exact hd
 | some v=>
  show(if v<0 then(v+(n:Int)).toNat else min v.toNat n)<=n
  by_cases c:v<0
  .rw[Uw c];lia
  .rw[Uv c];exact Qv _ _
theorem C8(v:Int)(n d:Nat):(if v<0 then max (v+(n:Int)) 0 else min v (n:Int))=((sIx n d (some v):Nat):Int):=by
 show(if v<0 then max (v+(n:Int)) 0 else min v (n:Int))=(((if v<0 then(v+(n:Int)).toNat else min v.toNat n):Nat):Int)
 by_cases c:v<0
 .simp only[Uw c];lia
 .simp only[Uv c];lia
theorem S5(lo hi:Option Int)(n:Nat):Ld lo hi 1 (n:Int)=(((sIx n 0 lo:Nat):Int),((sIx n n hi:Nat):Int)):=by
 have O:¬((1:Int)<0):=by lia
 unfold Ld;simp only[O,if_false];refine Oq ?_ ?_
 .cases lo with
  | none=>rfl
  | some v=>exact C8 v n 0
 .cases hi with
  | none=>rfl
  | some v=>exact C8 v n n
theorem S6(i j:Nat):Ij (i:Int) (j:Int) 1=j-i:=by
 unfold Ij;have O:(1:Int) > 0:=by lia
 simp only[O,if_true,Int.ediv_one];split<;>lia
theorem C9{Q:Option Int->Ah->Prop}(p:Rl v o)(h:Q o s):Bl (Cq prog w) A (Builtin.Slice.slicePartIndex v) Q E s:=by
 cases p with
 | none=>exact slicePart_none h
 | int i t=>exact slicePart_int h
theorem S7{sl:Aj}{c O:Ae}{lo hi:Option Int}{n:Nat}{Q:Int×Int×Nat->Ah->Prop}(F:s.heap.IsSliceOf sl c O .none)(pl:Rl c lo)(W:Rl O hi)(h:Q (((sIx n 0 lo:Nat):Int),1,sIx n n hi-sIx n 0 lo) s):Bl (Cq prog w) A (Builtin.Slice.sliceApplied (.ref sl) (pure (n:Int))) Q E s:=by
 obtain⟨os,b,d,U⟩:=id F;unfold Builtin.Slice.sliceApplied Builtin.Slice.sliceFields;refine Aa (Aa (De b U (x:=c) rfl (Aa (De b U (x:=O) rfl (Aa (De b U (x:=.none) rfl (Af ?_)))))));refine Aa (slicePart_none ?_);show Bl _ _ (if ((1:Int)==0)=true then _ else _) _ _ s;rw[Uv (by decide)];refine Aa (C9 pl (Aa (C9 W (Aa (Af ?_)))));show Bl _ _ (match Ld lo hi 1 (n:Int) with|(lo,hi)=>pure (lo,(1:Int),Ij lo hi 1)) _ _ s;rw[S5 lo hi n];show Bl _ _ (pure (((sIx n 0 lo:Nat):Int),(1:Int),Ij ((sIx n 0 lo:Nat):Int) ((sIx n n hi:Nat):Int) 1)) _ _ s;rw[S6];exact Af h
theorem S8(xs:Array Ae)(i k:Nat):((Cd k).filterMap λ(m:Nat)=>xs[((i:Int)+(m:Int)*1).toNat]?).toArray=((xs.toList.drop i).take k).toArray:=by
 have e:(λ(m:Nat)=>xs[((i:Int)+(m:Int)*1).toNat]?)=λm=>xs[i+m]?:=by
  funext m;have:((i:Int)+(m:Int)*1).toNat=i+m:=by lia
  rw[this]
 rw[e];have:=pick_run xs i k;rw[Kb]at this;have G:((λx=>xs[x]?) ∘ λx=>i+x)=λm=>xs[i+m]?:=rfl;rw[G]at this;rw[this]
theorem getItem_tuple_cut{t sl:Aj}{items:Array Ae}{c O:Ae}{lo hi:Option Int}{Q:Ae->Ah->Prop}(ht:IsTup s.heap t items)(F:s.heap.IsSliceOf sl c O .none)(pl:Rl c lo)(W:Rl O hi)(hw:¬(sIx items.size 0 lo=0/\sIx items.size items.size hi=items.size))(h:Q (.ref s.heap.objs.size) {s with heap:=s.heap.push {cls:=.type "tuple",data:=.seq ((items.toList.drop (sIx items.size 0 lo)).take (sIx items.size items.size hi-sIx items.size 0 lo)).toArray}})(hsz:items.size<=Ao):Bl (Cq prog w) A (Sf (.ref t) (.ref sl)) Q E s:=by
 have a:sizeOk (.seq ((items.toList.drop (sIx items.size 0 lo)).take (sIx items.size items.size hi-sIx items.size 0 lo)).toArray):=by
  show((items.toList.drop (sIx items.size 0 lo)).take (sIx items.size items.size hi-sIx items.size 0 lo)).toArray.size<=Ao;rw[Bj,Ca,He,Gu];omega
 have D:sIx items.size items.size hi<=items.size:=S4 _ _ (Ai _) hi;obtain⟨os,b,d,U⟩:=id F;have e:s.TypeIs (.ref sl) "slice":=⟨os,b,d⟩;unfold Sf
 try with_reducible refine Dh ?_
 first|refine Aa (Af ?_)|skip
 refine Aa (wpAny_sequenceKey ht.typeIs (by decide) ?_);refine Aa (Cp (name:=Bv "__getitem__") ht.typeIs Jt
  (Ck Jt ht.typeIs entry_tuple_getitem ?_ (args_tuple_getitem _ _)))
 show Bl _ _ (Builtin.Tuple.tupleItemsOf (.ref t)>>=_) _ _ s;refine Aa (tupleItemsOf_ ht ?_);refine Aa (Mo e ?_);rw[Uw (by decide)];refine Aa (S7 F pl W ?_);have g:¬((((sIx items.size 0 lo:Nat):Int)==0&&(1:Int)==1&&(sIx items.size items.size hi-sIx items.size 0 lo)==items.size)=true):=by
  intro q;rw[Cy,Cy]at q;have f:((sIx items.size 0 lo:Nat):Int)=0:=eq_of_beq q.1.1;have p:sIx items.size items.size hi-sIx items.size 0 lo=items.size:=eq_of_beq q.2;exact hw ⟨by omega,by omega⟩
 show Bl _ _ (if (((sIx items.size 0 lo:Nat):Int)==0&&(1:Int)==1&&(sIx items.size items.size hi-sIx items.size 0 lo)==items.size)=true then _ else _) _ _ s;rw[Uv g,S8]
 first
  | exact Aa (m:=Fu _) (Cz (Af ⟨_,rfl,Af h⟩) a)
  | exact Aa (m:=Fu _) (Cz (Aa (Af (Af ⟨_,rfl,Af h⟩))) a)
  | exact Aa (Aa (m:=Fu _) (Cz (Af (Af ⟨_,rfl,Af h⟩)) a))
  | exact Aa (Aa (m:=Fu _) (Cz (Af ⟨_,rfl,Af h⟩) a))
end
end HT
namespace L2
abbrev TO:=St->Hp->(Option Int->Hp->Prop)->Prop
def PO(X:Cx)(e:Option Cb)(t:TO):Prop:=
 ∀(C:Pn) (s:Ah) (m:St) (H:Hp) (Q:Option Int->Hp->Prop),Inv X C m H s->t m H Q->
  X.a (evalPart e X.env) (λu W=>∃o j,Inv X C m j W/\Rl u o/\Q o j) X.xe s
def S9:TO:=λ_ H Q=>Q none H
def TB(t:TE):TO:=λm H Q=>t m H λx G=>∃i,x=.int i/\Q (some i) G
section
variable {X:Cx}{e:Cb}{te:TE}{lo hi:Option Cb}{tl th:TO}{pos p2:Gy}
theorem TC:PO X none S9:=by
 intro C s m H Q I h;rw[evalPart_none];exact Af ⟨none,H,I,.none,h⟩
theorem TF(h:PE X e te):PO X (some e) (TB te):=by
 intro C s m H Q I hw;rw[evalPart_some];refine aY (h C s m H _ I hw) λu M ⟨x,G,L,B,f⟩=>?_;obtain⟨i,rfl,q⟩:=f;obtain⟨t,rfl⟩:=B;exact⟨some i,G,L,.int i t,q⟩
def sO(X:Cx)(r:V->Option Int->Option Int->Hp->VK->Prop):Prop:=
 ∀(C:Pn) (s:Ah) (m:St) (H:Hp) (x:V) (v c O:Ae) (lo hi:Option Int) (sl:Aj) (Q:VK),Inv X C m H s->RelV x v->s.heap.IsSliceOf sl c O .none->Rl c lo->Rl O hi->r x lo hi H Q->
  ∃T id,Oy (.type T) "__getitem__" = pure (some (.builtin id))/\s.TypeIs v T/\X.a (Sf v (.ref sl)) (EP X C m Q) X.xe s
def TH(r:V->Option Int->Option Int->Hp->VK->Prop)(te:TE)(tl th:TO):TE:=λm H Q=>te m H λx G=>tl m G λl z=>th m z λu w=>r x l u w Q
theorem TJ{r:V->Option Int->Option Int->Hp->VK->Prop}(g:sO X r)(P:PE X e te)(hl:PO X lo tl)(J:PO X hi th):PE X (.Subscript e (.Slice lo hi none p2) pos) (TH r te tl th):=by
 intro C s m H Q I h;refine Subscript_ (aY (P C s m H _ I h) λv M ⟨x,G,L,B,f⟩=>?_);refine wpAny_Slice (aY (hl C M m G _ L f) λc i ⟨l,z,R,pl,p⟩=>aY (J C i m z _ R p) λO j ⟨u,w,E,W,y⟩=>?_);rw[evalPart_none];refine Af ?_;have k:Inv X C m w {j with heap:=j.heap.push {cls:=.type "slice",data:=.fields #[c,O,.none]}}:=E.kept (t':=j.toks) λb ob q=>Ag _ q;obtain⟨T,id,U,ht,Z⟩:=g C {j with heap:=j.heap.push {cls:=.type "slice",data:=.fields #[c,O,.none]}} m w x v c O l u j.heap.objs.size Q k B (Heap.IsSliceOf.new ..) pl W y;show X.a (subscriptTail e (.Slice lo hi none p2) v (.ref j.heap.objs.size)) (EP X C m Q) X.xe {j with heap:=j.heap.push {cls:=.type "slice",data:=.fields #[c,O,.none]}};exact tail_any (ops:=[.ref j.heap.objs.size,v]) ht U Z (by with_unfolding_all rfl)
def lL(xs:List V)(lo hi:Option Int):List V:=(xs.drop (HT.sIx xs.length 0 lo)).take (HT.sIx xs.length xs.length hi-HT.sIx xs.length 0 lo)
theorem DA(xs:List V)(lo hi:Option Int):(lL xs lo hi).length<=xs.length:=by
 unfold lL;rw[Ca,He];lia
def TL(K:Ac):V->Option Int->Option Int->Hp->VK->Prop:=λx lo hi H Q=>∃a xs,x=.ref a/\bW K H a xs/\
 ¬(HT.sIx xs.length 0 lo=0/\HT.sIx xs.length xs.length hi=xs.length)/\∀p,H p=none->Q (.ref p) (aN H p (.tup (lL xs lo hi)))
theorem TM:sO X (TL X.K):=by
 intro C s m H x v c O lo hi sl Q I d F pl W h;obtain⟨a,xs,rfl,S,hw,q⟩:=h;cases d;obtain⟨its,r,ht,hz⟩:=I.tuple S;have j:its.toArray.size=xs.length:=by rw[Bj];exact r.length.symm
 refine⟨"tuple",_,Jt.lookup,ht.typeIs,?_⟩;refine HT.getItem_tuple_cut ht F pl W (by rw[j];exact hw) ?_ (by rw[j];exact hz);rw[j];refine⟨.ref s.heap.objs.size,_,I.laid (t':=s.toks) (o:=.tup (lL xs lo hi)) (λb ob q=>Ag _ q) (Ai _) ?_,rfl,q _ (I.hok.fresh (Ai _))⟩;exact⟨Bf (DA xs lo hi) hz,_,(r.drop (HT.sIx xs.length 0 lo)).take (HT.sIx xs.length xs.length hi-HT.sIx xs.length 0 lo),Tp _ _⟩
def TN(K:Ac):R2:=λx y H Q=>∃a b xs B,x=.ref a/\y=.ref b/\bW K H a xs/\bW K H b B/\xs≠[]/\xs.length+B.length<=Ao/\
 (B=[]->Q (.ref a) H)/\(B≠[]->∀p,H p=none->Q (.ref p) (aN H p (.tup (xs++B))))
theorem aX.nil_iff(r:aX xs us):us=[]↔xs=[]:=by
 cases r with
 | nil=>simp
 | cons _ _=>simp
theorem TQ:bC X (Ee .Add) (TN X.K):=by
 intro C s m H x y v u Q I d L h;obtain⟨a,b,xs,B,rfl,rfl,l,Y,S,hz,f,p⟩:=h;cases d;cases L;obtain⟨its,W,N,_⟩:=I.tuple l;obtain⟨c,R,p2,_⟩:=I.tuple Y;refine HT.cat_tup N p2 (λz=>S (W.nil_iff.mp z)) (λz=>⟨.ref a,H,I,rfl,f (R.nil_iff.mp z)⟩) (λz=>?_) (by rw[<-W.length,<-R.length];exact hz);refine⟨.ref s.heap.objs.size,_,I.laid (t':=s.toks) (o:=.tup (xs++B)) (λb ob q=>Ag _ q) (Ai _) ?_,rfl,p (λw=>z (R.nil_iff.mpr w)) _ (I.hok.fresh (Ai _))⟩;exact⟨by rw[Ak];exact hz,_,W.append R,Tp _ _⟩
end
def gJ(n:Nat)(i:Int):Option Nat:=if 0<=i then(if i<n then some i.toNat else none) else if -(n:Int)<=i then some (i+n).toNat else none
def b7{y:Type}(xs:List y)(i:Int):Option y:=(gJ xs.length i).bind λj=>xs[j]?
theorem wR{n:Nat}{i:Int}{j:Nat}(h:gJ n i=some j):Ur i n=some j/\j<n/\-(n:Int)<=i/\i<n:=by
 unfold gJ at h
 by_cases Y:0<=i
 .rw[Uw Y]at h
  by_cases O:i<n
  .rw[Uw O]at h;have e:i.toNat=j:=Ci h;exact⟨by rw[Tv Y O,e],by lia,by lia,O⟩
  .rw[Uv O]at h;cases h
 .rw[Uv Y]at h
  by_cases O : -(n:Int)<=i
  .rw[Uw O]at h;have e:(i+n).toNat=j:=Ci h;exact⟨by rw[seqIndex_neg (by lia) O,e],by lia,O,by lia⟩
  .rw[Uv O]at h;cases h
theorem wU{y:Type}{xs:List y}{i:Int}{v:y}(h:b7 xs i=some v):∃j,Ur i xs.length=some j/\xs[j]? = some v/\j<xs.length/\-(xs.length:Int)<=i/\i<xs.length:=by
 unfold b7 at h;cases e:gJ xs.length i with
 | none=>rw[e]at h;cases h
 | some j=>
  rw[e]at h;obtain⟨O,Z,f,h4⟩:=wR e;exact⟨j,O,h,Z,f,h4⟩
theorem iJ{y:Type}{xs:List y}{j:Nat}{v:y}(h:xs[j]? = some v):b7 xs (j:Int)=some v:=by
 have D:j<xs.length:=(An.mp h).1;have e:gJ xs.length (j:Int)=some j:=by
  unfold gJ;rw[Uw (by lia),Uw (by lia)];simp
 unfold b7;rw[e];exact h
theorem DB{y:Type}(xs:List y)(v:y):b7 (xs++[v]) (-1)=some v:=by
 have hl:(xs++[v]).length=xs.length+1:=by simp
 have e:gJ (xs++[v]).length (-1)=some xs.length:=by
  unfold gJ;rw[hl,Uv (by decide),Uw (by lia)];congr 1;lia
 unfold b7;rw[e];show(xs++[v])[xs.length]? = some v;simp
def DC(b:Cb):Prop:=∀o i,subscripted b false o i=operate [o,i] (Sf o i)
def iU(X:Cx)(r:R2):Prop:=
 ∀(e b:Cb) (C:Pn) (s:Ah) (m:St) (H:Hp) (x y:V) (v u:Ae) (Q:VK),Inv X C m H s->RelV x v->RelV y u->r x y H Q->
  subscripted b false v u=operate [v,u] (Sf v u)->X.a (subscriptTail e b v u) (EP X C m Q) X.xe s
def e9(X:Cx)(id:String)(r:V->List V->Hp->VK->Prop):Prop:=
 ∀(C:Pn) (s:Ah) (m:St) (H:Hp) (x:V) (xs:List V) (v:Ae) (us:List Ae) (Q:VK),Inv X C m H s->RelV x v->aX xs us->r x xs H Q->
  X.a (call (.builtin id) (v::us)) (EP X C m Q) X.xe s
section
variable {X:Cx}{a b:Cb}{ta tb:TE}{pos:Gy}
theorem iU.or(h:iU X r)(h':iU X A):iU X (λx y H Q=>r x y H Q\/A x y H Q):=by
 intro e b C s m H x y v u Q I d L q F;rcases q with q|q
 .exact h e b C s m H x y v u Q I d L q F
 .exact h' e b C s m H x y v u Q I d L q F
theorem TR(g:iU X r)(l:PE X a ta)(Y:PE X b tb)(F:DC b):PE X (.Subscript a b pos) (qA r ta tb):=by
 intro C s m H Q I h;exact Subscript_ (wI l Y I h λv u V x y z i d L q=>g a b C V m z x y v u Q i d L q (F _ _))
def TU(K:Ac):R2:=λx y H Q=>∃p xs i v,x=.ref p/\y=.int i/\bH K H p xs/\b7 xs i=some v/\Q v H
def TV(K:Ac):R2:=λx y H Q=>∃p xs i v,x=.ref p/\y=.int i/\bW K H p xs/\b7 xs i=some v/\Q v H
def TX:R2:=λx y H Q=>∃z i c,x=.str z/\y=.int i/\z.length<=Ao/\b7 z.cps.toList i=some c/\Q (.str ⟨#[c]⟩) H
theorem TY:iU X (TU X.K):=by
 intro e b C s m H x y v u Q I d L h F;obtain⟨p,xs,i,z,rfl,rfl,N,P,q⟩:=h;cases d;obtain⟨t,rfl⟩:=L;obtain⟨its,r,pl,hz⟩:=I.list N;obtain⟨j,O,Z,f,h4,J⟩:=wU P;obtain⟨w,S,V⟩:=r.get Z;have hl:=r.length;have U:=kE;have fin:EP X C m Q w s:=⟨z,H,I,V,q⟩
 by_cases Y:0<=i
 .have D:i.toNat=j:=by
   rw[Tv Y J]at O;exact Ci O
  exact item_listR pl.isList Y (by lia) (by rw[D];simpa using S) fin F
 .have D:(i+(its.toArray.size:Int)).toNat=j:=by
   rw[seqIndex_neg (by lia) h4]at O;rw[Bj,<-hl];exact Ci O
  exact subscriptTail_builtinR (x:=w) pl.isList.typeIs slot_list_getitem.lookup
   (wpAny_getItem_list_neg (Q:=λr W=>r=w/\EP X C m Q r W) pl.isList (by lia) (by rw[Bj]<;>lia) (by lia) (by rw[D];simpa using S) ⟨rfl,fin⟩) F
theorem TZ:iU X (TV X.K):=by
 intro e b C s m H x y v u Q I d L h F;obtain⟨p,xs,i,z,rfl,rfl,N,P,q⟩:=h;cases d;obtain⟨t,rfl⟩:=L;obtain⟨its,r,pl,hz⟩:=I.tuple N;obtain⟨j,O,Z,f,h4,J⟩:=wU P;obtain⟨w,S,V⟩:=r.get Z;have hl:=r.length;have U:=kE;have fin:EP X C m Q w s:=⟨z,H,I,V,q⟩;exact subscriptTail_builtinR (x:=w) pl.typeIs slot_tuple_getitem.lookup
  (getItem_tuple (j:=j) (Q:=λr W=>r=w/\EP X C m Q r W) pl (by lia) (by lia) (by rw[Bj,<-hl];exact O) (by simpa using S) ⟨rfl,fin⟩) F
theorem T1:iU X TX:=by
 intro e b C s m H x y v u Q I d L h F;obtain⟨z,i,c,rfl,rfl,hz,P,q⟩:=h;obtain⟨t,rfl⟩:=d;obtain⟨t',rfl⟩:=L;obtain⟨j,O,Z,f,h4,J⟩:=wU P;have hl:z.cps.toList.length=z.length:=by simp[Str.length]
 rw[hl]at O h4 J;have U:=kE;exact tail_any (Ue s z t) slot_str_getitem.lookup (getItem_str (c:=c) (by
  have T:decide (i < -(2 ^ 63:Int))=false:=Uz (by lia);have G:decide (i ≥ 2 ^ 63)=false:=Uz (by lia);rw[T,G,Bool.or_false]) (by rw[O];simpa using Z) ⟨.str ⟨#[c]⟩,H,I.tok _,⟨_,rfl⟩,q⟩) F
theorem T2(its:List Ae)(n j:Nat)(u:Ae):Pt (·.setIfInBounds j u) (lO its.toArray n)=(lO (its.set j u).toArray n):=by
 simp[Pt]
theorem Inv.lst(I:Inv X C m H s)(h:H p=some (.lst xs)):
  ∃(its:List Ae) (n:Nat),aX xs its/\s.heap.get? p=some (lO its.toArray n)/\xs.length<=Ao:=by
 obtain⟨z,its,n,r,e⟩:=I.hok p _ h;exact⟨its,n,r,e,z⟩
theorem Inv.lstUpd{C:Pn}{m:St}{H:Hp}{s:Ah}{p:Aj}{xs B:List V}{its its':List Ae}{n c:Nat}{f:Lc->Lc}(I:Inv X C m H s)(h:H p=some (.lst xs))(D:s.heap.get? p=some (lO its.toArray n))(hf:f (lO its.toArray n)=(lO its'.toArray c))(r:aX B its')(hz:B.length<=Ao)(t:Nat):
  Inv X C m (aN H p (.lst B)) {s with heap:=s.heap.update p f,toks:=t}:=by
 have e:(s.heap.update p f).get? p=some (lO its'.toArray c):=by
  rw[Hi f D (by rw[hf]<;>rfl),hf]
 refine I.write (x:=p) (e:=p) (by rw[h];trivial) (.inl rfl) (λb u Y q=>(Kr _ _ (Bq Y)).trans q) ⟨_,e⟩ ?_;exact⟨hz,its',c,r,e⟩
def T4:V->V->V->Hp->(Hp->Prop)->Prop:=λo i v H Q=>∃p xs k j,o=.ref p/\i=.int k/\H p=some (.lst xs)/\gJ xs.length k=some j/\Q (aN H p (.lst (xs.set j v)))
theorem T5:sH X T4:=by
 intro C s m H o i v N c u Q I x w T h;obtain⟨p,xs,k,j,rfl,rfl,B,Y,q⟩:=h;cases x;obtain⟨t,rfl⟩:=w;obtain⟨its,n,r,D,hz⟩:=I.lst B;obtain⟨O,Z,f,h4⟩:=wR Y;have hl:=r.length;have U:=kE;have y:Inv X C m (aN H p (.lst (xs.set j v))) {s with heap:=s.heap.update p (Pt (·.setIfInBounds j u))}:=
  I.lstUpd B D (T2 its n j u) (r.set T j) (by rw[List.length_set];exact hz) s.toks
 by_cases J:0<=k
 .have hk:k.toNat=j:=by
   rw[Tv J h4]at O;exact Ci O
  exact PySem.W.ki_setAt D J (by lia) (by rw[Bj,<-hl];exact h4) (by rw[hk];exact⟨_,y,q⟩)
 .have hk:(k+(its.toArray.size:Int)).toNat=j:=by
   rw[seqIndex_neg (by lia) f]at O;rw[Bj,<-hl];exact Ci O
  exact PySem.W.ki_setBack D (by lia) (by rw[Bj,<-hl];exact f) (by lia) (by rw[hk];exact⟨_,y,q⟩)
theorem T6(lo hi:Option Int)(n:Nat):(Ly lo hi none n).1=((HT.sIx n 0 lo:Nat):Int)/\(Ly lo hi none n).2.1=((HT.sIx n n hi:Nat):Int)/\(Ly lo hi none n).2.2=1:=by
 refine⟨?_,?_,rfl⟩
 .cases lo with
  | none=>simp[Ly,HT.sIx]
  | some i=>
   simp only[Ly,HT.sIx,Option.getD_none,show(1:Int) > 0 by decide,if_true]
   by_cases h:i<0
   .simp only[h,if_true]<;>lia
   .simp only[h,if_false]<;>lia
 .cases hi with
  | none=>simp[Ly,HT.sIx]
  | some i=>
   simp only[Ly,HT.sIx,Option.getD_none,show(1:Int) > 0 by decide,if_true]
   by_cases h:i<0
   .simp only[h,if_true]<;>lia
   .simp only[h,if_false]<;>lia
theorem T7(its:List Ae)(lo hi:Option Int):slicePick its.toArray lo hi none=((its.drop (HT.sIx its.length 0 lo)).take (HT.sIx its.length its.length hi-HT.sIx its.length 0 lo)).toArray:=by
 obtain⟨O,Z,f⟩:=T6 lo hi its.toArray.size;unfold slicePick;rw[O,Z,f];simp only[sliceRange_one,pick_run,Bj]<;>rfl
def T8(K:Ac):V->Option Int->Option Int->Hp->VK->Prop:=λx lo hi H Q=>∃a xs,x=.ref a/\bH K H a xs/\∀p,H p=none->Q (.ref p) (aN H p (.lst (lL xs lo hi)))
theorem wV:sO X (T8 X.K):=by
 intro C s m H x v c O lo hi sl Q I d F pl W h;obtain⟨a,xs,rfl,S,q⟩:=h;cases d;obtain⟨its,r,ht,hz⟩:=I.list S;have j:=r.length;refine⟨"list",_,slot_list_getitem.lookup,ht.isList.typeIs,?_⟩;refine wpAny_getItem_list_slice ht.isList F pl W .none (by simp) ?_ (by rw[Bj]<;>lia);rw[T7,<-j];refine⟨.ref s.heap.objs.size,_,I.laid (t':=s.toks) (o:=.lst (lL xs lo hi)) (λb ob q=>Ag _ q) (Ai _) ?_,rfl,q _ (I.hok.fresh (Ai _))⟩;exact⟨Bf (DA xs lo hi) hz,_,0,(r.drop (HT.sIx xs.length 0 lo)).take (HT.sIx xs.length xs.length hi-HT.sIx xs.length 0 lo),Au _ rfl⟩
def jV:V->Bool
 | .non=>true
 | .bl _=>true
 | .int _=>true
 | .str _=>true
 | _=>false
def jW:V->V->Bool
 | .non,.non=>true
 | .bl a,.bl b=>a==b
 | .bl a,.int b=>(if a then 1 else 0)==b
 | .int a,.bl b=>a==(if b then 1 else 0)
 | .int a,.int b=>a==b
 | .str a,.str b=>a==b
 | _,_=>false
theorem T9(L:RelV y u)(d:RelV x v)(e:jV y=true)(c:jV x=true):Uu A s u v (jW y x):=by
 cases y with
 | non=>
  cases L;cases x with
  | non=>cases d;exact SeqAt.EqAt.same _
  | bl b=>cases d;exact SeqAt.EqAt.none_bool b
  | int b=>obtain⟨t,rfl⟩:=d;exact SeqAt.EqAt.none_int b t
  | str b=>obtain⟨t,rfl⟩:=d;exact SeqAt.EqAt.none_str b t
  | _=>exact absurd (show false=true from c) Av
 | bl a=>
  cases L;cases x with
  | non=>cases d;exact SeqAt.EqAt.bool_none a
  | bl b=>cases d;exact SeqAt.EqAt.bool_bool a b
  | int b=>obtain⟨t,rfl⟩:=d;exact SeqAt.EqAt.bool_int a b t
  | str b=>obtain⟨t,rfl⟩:=d;exact SeqAt.EqAt.bool_str a b t
  | _=>exact absurd (show false=true from c) Av
 | int a=>
  obtain⟨t',rfl⟩:=L;cases x with
  | non=>cases d;exact SeqAt.EqAt.int_none a t'
  | bl b=>cases d;exact SeqAt.EqAt.int_bool a t' b
  | int b=>obtain⟨t,rfl⟩:=d;exact SeqAt.EqAt.int_int a t' b t
  | str b=>obtain⟨t,rfl⟩:=d;exact SeqAt.EqAt.int_str a t' b t
  | _=>exact absurd (show false=true from c) Av
 | str a=>
  obtain⟨t',rfl⟩:=L;cases x with
  | non=>cases d;exact SeqAt.EqAt.str_none a t'
  | bl b=>cases d;exact SeqAt.EqAt.str_bool a t' b
  | int b=>obtain⟨t,rfl⟩:=d;exact SeqAt.EqAt.str_int a t' b t
  | str b=>obtain⟨t,rfl⟩:=d;exact SeqAt.EqAt.str_str a t' b t
  | _=>exact absurd (show false=true from c) Av
 | _=>exact absurd (show false=true from e) Av
def gU(x:V)(u:Ae):Bool:=match u with
 | .none=>jW .non x
 | .bool b=>jW (.bl b) x
 | .int i _=>jW (.int i) x
 | .str z _=>jW (.str z) x
 | _=>false
theorem DD(r:RelV y u)(f:jV y=true):gU x u=jW y x:=by
 cases y with
 | non=>cases r;rfl
 | bl b=>cases r;rfl
 | int i=>obtain⟨t,rfl⟩:=r;rfl
 | str z=>obtain⟨t,rfl⟩:=r;rfl
 | _=>exact absurd (show false=true from f) Av
theorem qC:∀{xs:List V} {us:List Ae},aX xs us->xs.all jV=true->us.any (gU x)=xs.any λy=>jW y x
 | _,_,.nil,_=>rfl
 | y::xs,u::us,.cons r t,f=>by
  rw[Jv,Cy]at f;rw[Er,Er,DD r f.1,qC t f.2]
theorem qD(d:RelV x v)(c:jV x=true):∀{xs:List V} {us:List Ae},aX xs us->xs.all jV=true->∀u∈us,Uu A s u v (gU x u)
 | _,_,.nil,_=>λu J=>by cases J
 | y::xs,u::us,.cons r t,f=>λz J=>by
  rw[Jv,Cy]at f;rcases Bd.mp J with rfl|J
  .rw[DD r f.1];exact T9 r d f.1 c
  .exact qD d c t f.2 z J
def inV(x:V)(xs:List V):Bool:=xs.any λy=>jW y x
def DE(K:Ac)(neg:Bool):R2:=λx y H Q=>∃p xs,y=.ref p/\(bH K H p xs\/bW K H p xs)/\jV x=true/\xs.all jV=true/\Q (.bl (if neg then !inV x xs else inV x xs)) H
theorem UA:bC X (Dj .In) (DE X.K false):=by
 intro C s m H x y v u Q I d L h;obtain⟨p,xs,rfl,N,c,fs,q⟩:=h;cases L;rcases N with N|N
 .obtain⟨its,r,pl,hz⟩:=I.list N;refine SeqAt.in_listAt (gU x) pl.isList (λw hw=>qD d c r fs w (by simpa using hw)) ⟨.bl _,H,I,rfl,?_⟩;rw[show its.toArray.any (gU x)=its.any (gU x) by simp,qC r fs];exact q
 .obtain⟨its,r,pl,hz⟩:=I.tuple N;refine SeqAt.in_tupleAt (gU x) pl (λw hw=>qD d c r fs w (by simpa using hw)) ⟨.bl _,H,I,rfl,?_⟩;rw[show its.toArray.any (gU x)=its.any (gU x) by simp,qC r fs];exact q
theorem UB:bC X (Dj .NotIn) (DE X.K true):=by
 intro C s m H x y v u Q I d L h;obtain⟨p,xs,rfl,N,c,fs,q⟩:=h;cases L;rcases N with N|N
 .obtain⟨its,r,pl,hz⟩:=I.list N;refine SeqAt.notIn_listAt (gU x) pl.isList (λw hw=>qD d c r fs w (by simpa using hw)) ⟨.bl _,H,I,rfl,?_⟩;rw[show its.toArray.any (gU x)=its.any (gU x) by simp,qC r fs];exact q
 .obtain⟨its,r,pl,hz⟩:=I.tuple N;refine SeqAt.notIn_tupleAt (gU x) pl (λw hw=>qD d c r fs w (by simpa using hw)) ⟨.bl _,H,I,rfl,?_⟩;rw[show its.toArray.any (gU x)=its.any (gU x) by simp,qC r fs];exact q
theorem UC:cM X (.builtin "len") (λxs H Q=>∃p B,xs=[.ref p]/\(bH X.K H p B\/bW X.K H p B)/\Q (.int B.length) H):=by
 intro C s m H xs us Q I r h;obtain⟨p,B,rfl,N,q⟩:=h;obtain⟨u,rfl,d⟩:=vals1 r;cases d;have U:=kE;rcases N with N|N
 .obtain⟨its,A,pl,hz⟩:=I.list N;have j:=A.length;exact Calls.call_len_list pl.isList (by simp only[Bj]<;>lia) ⟨.int B.length,H,I.tok _,⟨s.toks+1,by rw[Bj,j]⟩,q⟩
 .obtain⟨its,A,pl,hz⟩:=I.tuple N;have j:=A.length;exact len_tuple pl (by simp only[Bj]<;>lia) ⟨.int B.length,H,I.tok _,⟨s.toks+1,by rw[Bj,j]⟩,q⟩
theorem UD:cM X (.builtin "len") (λxs H Q=>∃z,xs=[.str z]/\z.length<=Ao/\Q (.int z.length) H):=by
 intro C s m H xs us Q I r h;obtain⟨z,rfl,hz,q⟩:=h;obtain⟨u,rfl,t,rfl⟩:=vals1 r;have U:=kE;exact len_str (by lia) ⟨.int z.length,H,I.tok _,⟨_,rfl⟩,q⟩
theorem cM.or{r A:List V->Hp->VK->Prop}(h:cM X f r)(h':cM X f A):cM X f (λxs H Q=>r xs H Q\/A xs H Q):=by
 intro C s m H xs us Q I rs q;rcases q with q|q
 .exact h C s m H xs us Q I rs q
 .exact h' C s m H xs us Q I rs q
theorem UE:cM X (.type "list") (λxs H Q=>∃p B,xs=[.ref p]/\(bH X.K H p B\/bW X.K H p B)/\∀l,H l=none->Q (.ref l) (aN H l (.lst B))):=by
 intro C s m H xs us Q I r h;obtain⟨p,B,rfl,N,q⟩:=h;obtain⟨u,rfl,d⟩:=vals1 r;cases d;have fin:∀(its:List Ae),aX B its->B.length<=Ao->∀(h':Cr) (M:Nat),(∀b L,s.heap.get? b=some L->h'.get? b=some L)->
   h'.get? s.heap.objs.size=some {cls:=.type "list",dict:=none,data:=.seq its.toArray M,slots:=#[]}->EP X C m Q (.ref s.heap.objs.size) {s with heap:=h'}:=λits A hz h' M kp e=>
  ⟨.ref s.heap.objs.size,_,I.laid (t':=s.toks) kp (Ai _) (show b9 X.prog X.w _ h' _ (.lst B) from⟨hz,its,M,A,e⟩),rfl,q _ (I.hok.fresh (Ai _))⟩
 rcases N with N|N
 .obtain⟨its,A,pl,hz⟩:=I.list N;have j:=A.length;obtain⟨o,D,hc,n,hd⟩:=pl.isList;exact call_list_seq p (.inl rfl) D hc hd (λh' M kp e=>fin its A hz h' M kp e) (by simp only[Bj]<;>lia)
 .obtain⟨its,A,pl,hz⟩:=I.tuple N;have j:=A.length;obtain⟨o,D,hc,n,hd⟩:=pl;exact call_list_seq p (.inr rfl) D hc hd (λh' M kp e=>fin its A hz h' M kp e) (by simp only[Bj]<;>lia)
theorem UG:cM X (.type "tuple") (λxs H Q=>∃p B,xs=[.ref p]/\((bH X.K H p B/\∀l,H l=none->Q (.ref l) (aN H l (.tup B)))\/(bW X.K H p B/\Q (.ref p) H))):=by
 intro C s m H xs us Q I r h;obtain⟨p,B,rfl,h⟩:=h;obtain⟨u,rfl,d⟩:=vals1 r;cases d;rcases h with⟨N,q⟩|⟨N,q⟩
 .obtain⟨its,A,pl,hz⟩:=I.list N;have j:=A.length;refine call_tuple_list pl.isList (λh' kp=>?_) (by simp only[Bj]<;>lia);have L:Inv X C m H {s with heap:=h'}:=I.kept (t':=s.toks) kp;have i:Inv X C m (aN H h'.objs.size (.tup B)) {s with heap:=h'.push {cls:=.type "tuple",data:=.seq its.toArray}}:=
   L.laid (t':=s.toks) (λb o e=>Ag _ e) (Ai _) (show b9 X.prog X.w _ _ _ (.tup B) from⟨hz,its,A,Tp _ _⟩)
  exact⟨.ref h'.objs.size,_,i,rfl,q _ (L.hok.fresh (Ai _))⟩
 .obtain⟨its,A,pl,hz⟩:=I.tuple N;exact call_tuple_same pl ⟨.ref p,H,I,rfl,q⟩
def sP(K:Ac)(T:String)(x:V)(H:Hp):Prop:=match x with
 | .str _=>T = "str"
 | .int _=>T = "int"
 | .ref p=>(T = "list"/\∃xs,bH K H p xs)\/(T = "tuple"/\∃o,K.lookup p=some o/\o.cls=.type "tuple"/\o.dict=none)\/
   (T = "dict"/\((∃kvs,Rd H p (.dK kvs))\/∃kvs,Rd H p (.dT kvs)))\/(T = "set"/\∃S n,H p=some (.set S n))
 | _=>False
theorem DF(I:Inv X C m H s)(r:RelV x v)(ty:sP X.K T x H):
  s.TypeIs v T/\∀a,v=.ref a->∃ob,s.heap.get? a=some ob/\ob.dict=none:=by
 cases x with
 | str z=>
  obtain⟨t,rfl⟩:=r;cases (show T = "str" from ty);exact⟨Ue s z t,λ_ e=>nomatch e⟩
 | int i=>
  obtain⟨t,rfl⟩:=r;cases (show T = "int" from ty);exact⟨Ug s i t,λ_ e=>nomatch e⟩
 | ref p=>
  cases r;rcases ty with⟨rfl,xs,N⟩|⟨rfl,o,hk,hc,hd⟩|⟨rfl,hk⟩|⟨rfl,S,n,hk⟩
  .obtain⟨its,_,pl,_⟩:=I.list N;refine⟨pl.isList.typeIs,λa e=>?_⟩;cases e;obtain⟨o,n,e,c,hd,_⟩:=pl;exact⟨o,e,hd⟩
  .refine⟨⟨o,I.kIn p o hk,hc⟩,λa e=>?_⟩;cases e;exact⟨o,I.kIn _ o hk,hd⟩
  .have z:∃o,s.heap.get? p=some o/\o.ExactDict:=by
    rcases hk with⟨kvs,hk⟩|⟨kvs,hk⟩
    .obtain⟨_,_,_,_,o,_,_,e,ex,_⟩:=hk.ok I.hok;exact⟨o,e,ex⟩
    .obtain⟨_,_,_,_,o,_,_,e,ex,_⟩:=hk.ok I.hok;exact⟨o,e,ex⟩
   obtain⟨o,e,ex⟩:=z;refine⟨⟨o,e,ex.1⟩,λa G=>?_⟩;cases G;exact⟨o,e,ex.2.1⟩
  .obtain⟨o,_,_,_,e,ex,_⟩:=I.hok p _ hk;refine⟨⟨o,e,ex.1⟩,λa G=>?_⟩;cases G;exact⟨o,e,ex.2.1⟩
 | _=>exact Bn ty
def UH(K:Ac)(T:String)(r:V->List V->Hp->VK->Prop)(to:TE):TE:=λm H Q=>to m H λx G=>sP K T x G/\r x [] G Q
def UI(K:Ac)(T:String)(r:V->List V->Hp->VK->Prop)(to:TE)(t:TA):TE:=λm H Q=>to m H λx G=>sP K T x G/\t m G λxs z=>r x xs z Q
variable {o e:Cb}{es:List Cb}{to:TE}{t:TA}{name:Aw}{apos cpos:Gy}{T id:String}{r:V->List V->Hp->VK->Prop}
theorem DG(Y:Pa T)(slot:Slot T name id)(u:Ox (.builtin id)=pure (.type "method_descriptor"))(J:e9 X id r)(D:PE X o to)(n:Fx o name X.env (El o X.env)=El o X.env:=by rfl)(y:(apos.endLine==cpos.line)=true:=by rfl):PE X (.Call (.Attribute o name apos) [] [] cpos) (UH X.K T r to):=by
 intro C s m H Q I h;refine wpAny_Call_method0_late n y (aY (D C s m H _ I h) λv M ⟨x,G,L,B,ty,f⟩=>?_);obtain⟨O,Z⟩:=DF L B ty;exact⟨T,id,Y,slot,u,O,Z,Kj rfl (PySem.evalArgs_none (J C M m G x [] v [] Q L B .nil f))⟩
theorem UJ(Y:Pa T)(slot:Slot T name id)(u:Ox (.builtin id)=pure (.type "method_descriptor"))(J:e9 X id r)(D:PE X o to)(l:PA X (e::es) t)(n:Fx o name X.env (El o X.env)=El o X.env:=by rfl)(d:((Me cpos (Cj (e::es) X.env)).all (λx=>!x.1)&&(Og cpos (Kv [] X.env)).all (λx=>x.1.isSome)
  &&decide ((e::es).length+([]:List Pz).length+(if ([]:List Pz).isEmpty then 0 else 1)<30))=true:=by rfl)(y:(apos.endLine==cpos.line)=true:=by rfl)(F:Se X e es:=by rfl)(b:Sb X cpos es:=by rfl):
  PE X (.Call (.Attribute o name apos) (e::es) [] cpos) (UI X.K T r to t):=by
 intro C s m H Q I h;refine wpAny_Call_method_late n d y rfl (aY (D C s m H _ I h) λv M ⟨x,G,L,B,ty,f⟩=>?_);obtain⟨O,Z⟩:=DF L B ty;refine⟨T,id,Y,slot,u,O,Z,?_⟩;have q:=l cpos C M m G _ L f;rw[F]at q⊢;refine Kj (by show(false||(Me cpos (Cj es X.env)).any (·.1))=false;rw[b]<;>rfl) (Om ?_);exact aY q λus g ⟨vs,z,i,R,p⟩=>J C g m z x vs v us Q i B R p
end
def sQ(X:Cx)(id:String)(r:V->List V->Hp->VK->Prop):Prop:=
 ∀(pins:Pn) (s:Ah) (Z:St) (H:Hp) (x:V) (xs:List V) (v:Ae) (us:List Ae) (Q:VK),Inv X pins Z H s->RelV x v->aX xs us->r x xs H Q->
  X.a (call (.builtin id) (v::us)) (EP X pins Z Q) X.xe s
theorem aX.one:∀{x:V} {us:List Ae},aX [x] us->∃u,us=[u]/\RelV x u
 | _,_,.cons r .nil=>⟨_,rfl,r⟩
theorem aX.zero:∀{us:List Ae},aX [] us->us=[]
 | _,.nil=>rfl
theorem aX.dropLast(h:aX xs us):aX xs.dropLast us.dropLast:=by
 induction h with
 | nil=>exact .nil
 | cons r t E=>
  cases t with
  | nil=>exact .nil
  | cons q t'=>exact .cons r E
theorem aX.rep(h:aX xs us):∀k:Nat,aX (Bz k xs).flatten (Bz k us).flatten
 | 0=>.nil
 | k+1=>by
  rw[Es,Es,Gq,Gq];exact aX.append h (aX.rep h k)
theorem UK{y:Type}(l:List y):l.eraseIdx (l.length-1)=l.dropLast:=by
 induction l with
 | nil=>rfl
 | cons a r E=>
  cases r with
  | nil=>rfl
  | cons b r=>
   have e:(a::b::r).length-1=((b::r).length-1)+1:=by
    have O:(a::b::r).length=r.length+2:=rfl;have Z:(b::r).length=r.length+1:=rfl;lia
   rw[e,List.eraseIdx_cons_succ,E]
   all_goals rfl
theorem foldl_rep(its:List Ae):∀(k:Nat) (acc:List Ae),
  Tc (λx1 x2=>x1++x2) acc.toArray (Bz k its.toArray)=(acc++(Bz k its).flatten).toArray
 | 0,acc=>by simp
 | k+1,acc=>by
  have e:acc.toArray++its.toArray=(acc++its).toArray:=by simp
  have G:(acc++its)++(Bz k its).flatten=acc++(Bz (k+1) its).flatten:=by
   rw[Es,Gq,Ds]
  rw[<-G,<-foldl_rep its k (acc++its),<-e,Es,Fw]
section
variable {X:Cx}{pins:Pn}{Z:St}{H:Hp}{s:Ah}{l b:Aj}{xs ys zs:List V}
theorem Inv.lset{its its':List Ae}{n:Nat}{f:Array Ae->Array Ae}{t':Nat}(I:Inv X pins Z H s)(o:H l=some (.lst xs))(e:s.heap.get? l=some (lO its.toArray n))(hf:f its.toArray=its'.toArray)(c:aX ys its')(hz:ys.length<=Ao):
  Inv X pins Z (aN H l (.lst ys)) {s with heap:=s.heap.update l (Pt f),toks:=t'}:=by
 have q:=PySem.IsL.update e f;rw[hf]at q;refine I.write (x:=l) (e:=l) (by rw[o];exact trivial) (.inl rfl) (λd u Y J=>(Kr s.heap (Pt f) (Bq Y)).trans J) ⟨_,q⟩ ?_;exact⟨hz,its',_,c,q⟩
theorem Inv.lnew{t':Nat}(I:Inv X pins Z H s)(c:aX ys its)(hz:ys.length<=Ao):
  Inv X pins Z (aN H s.heap.objs.size (.lst ys)) {s with heap:=s.heap.push (lO its.toArray),toks:=t'}:=
 I.laid (λ_ _ q=>Ag _ q) (Ai _) ⟨hz,its,0,c,Au _ rfl⟩
theorem Inv.fresh(I:Inv X pins Z H s):H s.heap.objs.size=none:=I.hok.fresh (Ai _)
theorem Inv.lstM(I:Inv X pins Z H s)(o:H l=some (.lst xs)):xs.length<=Ao/\∃(its:List Ae) (n:Nat),aX xs its/\xs.length=its.length/\s.heap.get? l=some (lO its.toArray n):=by
 obtain⟨z,its,n,r,e⟩:=I.hok l _ o;exact⟨z,its,n,r,r.length,e⟩
theorem UL{n:Nat}(h:n<=Ao):Ll n=false:=by
 unfold Ll;exact Uz (by lia)
end
section
variable {X:Cx}
def rAppend:V->List V->Hp->VK->Prop:=λx vs H Q=>∃l xs y,x=.ref l/\vs=[y]/\H l=some (.lst xs)/\xs.length<Ao/\Q .non (aN H l (.lst (xs++[y])))
theorem DH:sQ X "list.append" rAppend:=by
 intro pins s Z H x vs v us Q I d T h;obtain⟨l,xs,y,rfl,rfl,o,hz,q⟩:=h;cases d;obtain⟨u,rfl,ru⟩:=T.one;obtain⟨z,its,n,r,hl,e⟩:=I.lstM o;refine Ks F.slot_list_append ⟨_,e,rfl⟩ F.entry_list_append (F.args_list_append_2 _ _) (PySem.list_append l its.toArray n u (by rw[Bj];lia)) ⟨e,?_⟩;refine⟨.non,_,I.lset (its':=its++[u]) o e (by simp) (r.append (.cons ru .nil)) ?_,rfl,q⟩;rw[Ak,Cf];lia
def rPopQ:V->List V->Hp->VK->Prop:=λx vs H Q=>∃l xs y,x=.ref l/\vs=[]/\H l=some (.lst xs)/\xs[xs.length-1]? = some y/\Q y (aN H l (.lst xs.dropLast))
theorem UM:sQ X "list.pop" rPopQ:=by
 intro pins s Z H x vs v us Q I d T h;obtain⟨l,xs,y,rfl,rfl,o,K,q⟩:=h;cases d;have a:=T.zero;subst a;obtain⟨z,its,n,r,hl,e⟩:=I.lstM o;obtain⟨u,J,ru⟩:=r.get K;have b:its.toArray[its.toArray.size-1]? = some u:=by
  show its.toArray[its.length-1]? = some u;rw[<-Fg,<-hl];exact J
 refine Ks Ow ⟨_,e,rfl⟩ F.entry_list_pop (F.args_list_pop_1 _) (MeetsSeq.list_pop_last l its.toArray n u b (by rw[Bj];lia)) ⟨e,?_⟩;refine⟨y,_,I.lset (its':=its.dropLast) o e ?_ r.dropLast ?_,ru,q⟩
 .show its.toArray.eraseIdxIfInBounds (its.toArray.size-1)=its.dropLast.toArray;rw[Bj,List.eraseIdxIfInBounds_toArray,UK]
 .rw[List.length_dropLast];lia
def UN:R2:=λx y H Q=>∃l b xs zs,x=.ref l/\y=.ref b/\H l=some (.lst xs)/\H b=some (.lst zs)/\xs.length+zs.length<=Ao/\∀p,H p=none->Q (.ref p) (aN H p (.lst (xs++zs)))
theorem UO:bC X (Ee .Add) UN:=by
 intro pins s Z H x y v u Q I d L h;obtain⟨l,b,xs,zs,rfl,rfl,o,a,hz,q⟩:=h;cases d;cases L;obtain⟨z,its,n,r,hl,e⟩:=I.lstM o;obtain⟨J,c,n2,R,m,G⟩:=I.lstM a;refine PySem.P.add_list e G ?_ (by rw[Bj,Bj];lia);have k:its.toArray++c.toArray=(its++c).toArray:=by simp
 rw[k];exact⟨.ref _,_,I.lnew (t':=s.toks) (r.append R) (by rw[Ak];lia),rfl,q _ I.fresh⟩
def UP:R2:=λx y H Q=>∃l k xs,x=.ref l/\y=.int k/\H l=some (.lst xs)/\-(2 ^ 63)<=k/\k<2 ^ 63/\xs.length*k.toNat<=Ao/\
 ∀p,H p=none->Q (.ref p) (aN H p (.lst (Bz k.toNat xs).flatten))
theorem UQ{y:Type}(xs:List y)(k:Nat):(Bz k xs).flatten.length=k*xs.length:=by
 induction k with
 | zero=>simp
 | succ k E=>rw[Es,Gq,Ak,E,Nat.succ_mul,Nat.add_comm]
theorem UR:bC X (Ee .Mult) UP:=by
 intro pins s Z H x y v u Q I rx ry h;obtain⟨l,k,xs,rfl,rfl,hH,h1,h2,hz,q⟩:=h;cases rx;obtain⟨t,rfl⟩:=ry;obtain⟨z,its,n,r,hl,e⟩:=I.lstM hH;have hlen:its.toArray.size*k.toNat<=Ao:=by rw[Bj,<-hl];exact hz
 have hcap:¬its.toArray.size*k.toNat > (2 ^ 63-1)/8:=by
  have:(Ao:Nat)<=(2 ^ 63-1)/8:=by decide
  lia
 have hfit:¬(!Builtin.List.listFitsIndex k)=true:=by
  rw[fitsIndex_both h1 h2];exact Av
 have hlong:¬Ll (its.toArray.size*k.toNat)=true:=by
  rw[UL hlen];exact Av
 have hnew:Tc (λx1 x2=>x1++x2) #[] (Bz (if its.toArray.isEmpty=true then 0 else k.toNat) its.toArray)=(Bz k.toNat its).flatten.toArray:=by
  have f0:∀m:Nat,Tc (λx1 x2=>x1++x2) #[] (Bz m its.toArray)=(Bz m its).flatten.toArray:=λm=>by
   have:=foldl_rep its m [];rw[Lj]at this;exact this
  rw[f0];cases its with
  | nil=>simp
  | cons a r'=>rw[Uv (by simp)]
 refine wpAny_binaryOp_repeat_ref (T:="list") (U:="int") (by decide) ⟨_,e,rfl⟩ (λs'=>Ug s' k t) noFill_list_mul F.fills_int_mul F.slot_int_rmul repeat_list F.slot_int_index.lookup
  (Ks F.slot_int_rmul (Ug s k t) F.entry_int_rmul (F.args_int_rmul_2 _ _) (int___rmul___int_list k t l its.toArray n)
   ⟨e,rfl,⟨_,e,rfl⟩,Ks F.slot_list_mul ⟨_,e,rfl⟩ F.entry_list_mul (F.args_list_mul_2 _ _) (AutoListH.list___mul___list_int_3 l its.toArray n k t hfit hcap hlong) ⟨e,?_⟩⟩)
 rw[hnew];exact⟨.ref _,_,I.lnew (t':=s.toks) (r.rep k.toNat) (by rw[UQ,Nat.mul_comm];exact hz),rfl,q _ I.fresh⟩
end
section
variable {U:Type}[DecidableEq U]
def fR(kvs:List (U×V))(k:U):Option V:=(kvs.find? λg=>decide (g.1=k)).map (·.2)
def dY(kvs:List (U×V))(k:U)(v:V):List (U×V):=
 if (kvs.any λg=>decide (g.1=k))=true then kvs.map (λg=>if g.1=k then(g.1,v) else g) else kvs++[(k,v)]
def m8(kvs:List (U×V))(k:U):List (U×V):=kvs.filter λg=>decide (g.1≠k)
theorem sR{p:U×V}{r:List (U×V)}{k:U}(e:p.1=k):fR (p::r) k=some p.2:=by simp[fR,Dn,e]
theorem sS{p:U×V}{r:List (U×V)}{k:U}(e:¬p.1=k):fR (p::r) k=fR r k:=by simp[fR,Dn,e]
theorem DI(k:U):∀kvs:List (U×V),(kvs.any λg=>decide (g.1=k))=(fR kvs k).isSome
 | []=>rfl
 | p::r=>by
  rw[Er]
  by_cases e:p.1=k
  .simp only[sR e,Uy e,Bool.true_or,Option.isSome_some]
  .rw[sS e,Uz e,Mz];exact DI k r
theorem oO(kvs:List (U×V))(k:U)(v:V):(dY kvs k v).length<=kvs.length+1:=by
 unfold dY;split
 .rw[Ab];lia
 .rw[Ak,Bu,Lk];lia
theorem fH.isSome_eq(r:fH o u):o.isSome=u.isSome:=by
 cases o with
 | none=>cases u with
  | none=>rfl
  | some _=>exact Bn r
 | some _=>cases u with
  | none=>exact Bn r
  | some _=>rfl
theorem fH.getD(r:fH o u)(j:RelV d d'):RelV (o.getD d) (u.getD d'):=by
 cases o with
 | none=>cases u with
  | none=>exact j
  | some _=>exact Bn r
 | some _=>cases u with
  | none=>exact Bn r
  | some _=>exact r
theorem KV.val{kvs:List (U×V)}{vs:List (U×Ae)}(r:KV kvs vs)(k:U):fH (fR kvs k) (Qz vs k):=by
 unfold KV at r
 induction r with
 | nil=>exact True.intro
 | @cons p q ps qs h t E=>
  obtain⟨O,Z⟩:=h
  by_cases e:p.1=k
  .have M:q.1=k:=O.symm.trans e;have b:Qz (q::qs) k=some q.2:=by simp[Qz,Dn,M]
   rw[sR e,b];exact Z
  .have M:¬q.1=k:=λz=>e (O.trans z);have b:Qz (q::qs) k=Qz qs k:=by simp[Qz,Dn,M]
   rw[sS e,b];exact E
theorem KV.any(r:KV kvs vs)(k:U):(kvs.any λg=>decide (g.1=k))=vs.any λg=>decide (g.1=k):=by
 unfold KV at r
 induction r with
 | nil=>rfl
 | cons h t E=>rw[Er,Er,E,h.1]
theorem KV.repl(r:KV kvs vs)(k:U)(L:RelV y u):
  KV (kvs.map λg=>if g.1=k then(g.1,y) else g) (vs.map λg=>if g.1=k then(g.1,u) else g):=by
 unfold KV at r⊢
 induction r with
 | nil=>exact .nil
 | @cons p q ps qs h t E=>
  rw[Be,Be];refine .cons ?_ E;obtain⟨O,Z⟩:=h
  by_cases e:p.1=k
  .rw[Uw e,Uw (O.symm.trans e)];exact⟨O,L⟩
  .rw[Uv e,Uv (λz=>e (O.trans z))];exact⟨O,Z⟩
theorem KV.put(r:KV kvs vs)(k:U)(L:RelV y u):KV (dY kvs k y) (Te vs k u):=by
 unfold dY Te;rw[r.any k]
 by_cases e:(vs.any λg=>decide (g.1=k))=true
 .rw[Uw e,Uw e];exact r.repl k L
 .rw[Uv e,Uv e];exact Sg r ⟨rfl,L⟩
theorem KV.length(r:KV kvs vs):kvs.length=vs.length:=Cu r
theorem US(kvs:List (U×V))(k:U):(m8 kvs k).length<=kvs.length:=Iq _ _
end
theorem jF(r:RelV (kV k) u):(bQ P w).is k u=true:=by
 cases k with
 | inl i=>obtain⟨t,e⟩:=(show ∃t,u=Value.int i t from r);subst e;exact OZ P w i t
 | inr x=>obtain⟨t,e⟩:=(show ∃t,u=Value.str x t from r);subst e;exact O0 P w x t
theorem DJ:∀{ks:List aB} {us:List Ae},aX (ks.map kV) us->ItemsAre (bQ P w) ks us
 | [],_,r=>by rw[Kq]at r;cases r;exact .nil
 | k::ks,_,r=>by
  rw[Be]at r;cases r with
  | cons h t=>exact .cons (jF h) (DJ t)
abbrev KT(H:Hp):List (List aB×V)->List (List aB×Aj×Ae)->Prop:=Ff λp q=>p.1=q.1/\H q.2.1=some (.tup (p.1.map kV))/\RelV p.2 q.2.2
theorem KT.val{H:Hp}{kvs:List (List aB×V)}{xs:List (List aB×Aj×Ae)}(r:KT H kvs xs)(k:List aB):fH (fR kvs k) ((Li xs k).map (·.2)):=by
 induction r with
 | nil=>exact True.intro
 | @cons p q ps qs h t E=>
  obtain⟨O,_,Z⟩:=h
  by_cases e:p.1=k
  .have M:q.1=k:=O.symm.trans e;have b:Li (q::qs) k=some q.2:=by simp[Li,Dn,M]
   rw[sR e,b];exact Z
  .have M:¬q.1=k:=λz=>e (O.trans z);have b:Li (q::qs) k=Li qs k:=by simp[Li,Dn,M]
   rw[sS e,b];exact E
theorem KT.repl(r:KT H kvs xs)(k:List aB)(L:RelV y u):
  KT H (kvs.map λg=>if g.1=k then(g.1,y) else g) (xs.map (Um k u)):=by
 induction r with
 | nil=>exact .nil
 | @cons p q ps qs h t E=>
  rw[Be,Be];refine .cons ?_ E;obtain⟨O,Z,f⟩:=h;unfold Um
  by_cases e:p.1=k
  .rw[Uw e,Uw (O.symm.trans e)];exact⟨O,Z,L⟩
  .rw[Uv e,Uv (λz=>e (O.trans z))];exact⟨O,Z,f⟩
theorem KT.put(r:KT H kvs xs)(k:List aB)(Y:H b=some (.tup (k.map kV)))(L:RelV y u):
  KT H (dY kvs k y) (Mq xs k b u):=by
 have e:(kvs.any λg=>decide (g.1=k))=(Li xs k).isSome:=by
  rw[DI,(r.val k).isSome_eq,Mh]
 unfold dY Mq;rw[e]
 by_cases q:(Li xs k).isSome=true
 .rw[Uw q,Uw q];exact r.repl k L
 .rw[Uv q,Uv q];exact Sg r ⟨rfl,Y,L⟩
theorem KT.keeps(r:KT H kvs xs)(ht:∀b ys,H b=some (.tup ys)->j b=some (.tup ys)):KT j kvs xs:=
 Paired.mapP r λ_ _ z=>⟨z.1,ht _ _ z.2.1,z.2.2⟩
section
variable {P:Ar}{w:Bk}{H:Hp}{h:Cr}{a:Aj}
theorem DK(ok:cG P w H h)(e:Rd H a u):b9 P w H h a u:=e.ok ok
theorem lM(ok:cG P w H h)(e:Rd H a (.dK kvs)):kvs.length<=Ao/\(a==Fc)=false/\∃vs,KV kvs vs/\h.DictOf (bQ P w) a vs:=
 show b9 P w H h a (.dK kvs) from DK ok e
theorem DL(ok:cG P w H h)(e:H a=some (.dK kvs)):kvs.length<=Ao/\(a==Fc)=false/\∃vs,KV kvs vs/\h.DictOf (bQ P w) a vs:=lM ok (.inl e)
theorem iK(ok:cG P w H h)(e:H a=some (.tup (ks.map kV))):(Gw (bQ P w)).is h ks a:=by
 obtain⟨_,its,r,o,O,Z,n,f⟩:=(show b9 P w H h a (.tup (ks.map kV)) from ok a _ e);exact⟨o,its.toArray,n,O,Z,f,by simpa using DJ r⟩
theorem m9(ok:cG P w H h)(e:Rd H a (.dT kvs)):kvs.length<=Ao/\(a==Fc)=false/\
  ∃xs,KT H kvs xs/\h.DictOfH (Gw (bQ P w)) a xs:=by
 obtain⟨z,y,xs,r,o,es,ep,O,Z,f,h4,J⟩:=(show b9 P w H h a (.dT kvs) from DK ok e);refine⟨z,y,xs,r,o,es,ep,O,Z,f,h4,λx S=>?_,J⟩;have all:∀{l:List (List aB×V)} {m:List (List aB×Aj×Ae)},KT H l m->∀x∈m,(Gw (bQ P w)).is h x.1 x.2.1:=by
  intro l m q
  induction q with
  | nil=>intro x S;exact nomatch S
  | @cons p q ps qs N t E=>
   intro x S;rcases Bd.mp S with e|S
   .subst e;exact iK ok (by rw[<-N.1];exact N.2.1)
   .exact E x S
 exact all r x S
theorem qE(ok:cG P w H h)(e:H a=some (.dT kvs)):kvs.length<=Ao/\(a==Fc)=false/\
  ∃xs,KT H kvs xs/\h.DictOfH (Gw (bQ P w)) a xs:=m9 ok (.inl e)
end
def gV(H:Hp)(a:Aj)(y:V)(r:Option V):Prop:=
 (∃kvs k,Rd H a (.dK kvs)/\y=kV k/\r=fR kvs k)\/∃kvs k b,Rd H a (.dT kvs)/\y=.ref b/\H b=some (.tup (k.map kV))/\r=fR kvs k
def lN(H:Hp)(a:Aj)(y v:V)(j:Hp):Prop:=
 (∃kvs k,H a=some (.dK kvs)/\y=kV k/\kvs.length<Ao/\j=aN H a (.dK (dY kvs k v)))\/
 ∃kvs k b,H a=some (.dT kvs)/\y=.ref b/\H b=some (.tup (k.map kV))/\kvs.length<Ao/\j=aN H a (.dT (dY kvs k v))
theorem lN.k{H:Hp}{a:Aj}{kvs:List (aB×V)}{k:aB}{v:V}(e:H a=some (.dK kvs))(hl:kvs.length<Ao):lN H a (kV k) v (aN H a (.dK (dY kvs k v))):=.inl ⟨kvs,k,e,rfl,hl,rfl⟩
theorem lN.t{H:Hp}{a b:Aj}{kvs:List (List aB×V)}{k:List aB}{v:V}(e:H a=some (.dT kvs))(B:H b=some (.tup (k.map kV)))(hl:kvs.length<Ao):
  lN H a (.ref b) v (aN H a (.dT (dY kvs k v))):=.inr ⟨kvs,k,b,e,rfl,B,hl,rfl⟩
section
variable {X:Cx}{pins:Pn}{Z:St}{H:Hp}{s:Ah}{a:Aj}{y v:V}{u r:Ae}{o:Option V}{A:Cn}{E:Ae->Ah->Prop}
theorem Inv.big(I:Inv X pins Z H s):Fc<s.heap.objs.size:=by
 have h:Dw<s.heap.objs.size:=(I.mod.glob.keeps I.bk).lt;exact Gj (by decide) h
theorem UT{Q:Ae->Ah->Prop}(J:A.units+1<Ex)(I:Inv X pins Z H s)(g:gV H a y (some v))(L:RelV y u)(h:∀P W,Inv X pins Z H W->RelV v P->Q P W):
  Bl X.m A (Sf (.ref a) u) Q E s:=by
 rcases g with⟨kvs,k,e,i,l⟩|⟨kvs,k,b,e,i,t,l⟩
 .subst i;obtain⟨z,hd,vs,n,dd⟩:=lM I.hok e;obtain⟨P,hw,V⟩:=fH.some_of (v:=v) (o:=Qz vs k) (by rw[l];exact n.val k);exact wpAny_getItem_of (jF L) dd.mapOf hw (h P _ (I.tok _) V)
 .subst i;cases (show u=Value.ref b from L);obtain⟨z,hd,xs,n,dd⟩:=m9 I.hok e;obtain⟨P,hw,V⟩:=fH.some_of (v:=v) (o:=(Li xs k).map (·.2)) (by rw[l];exact n.val k);obtain⟨p,B,F⟩:=Ax.mp hw;refine wpAny_getItem_heap (Fb J) (iK I.hok t) dd B ?_;rw[F];exact h P _ (I.tok _) V
theorem UU{Q:Ae->Ah->Prop}(J:A.units+1<Ex)(I:Inv X pins Z H s)(g:gV H a y o)(L:RelV y u)(h:∀W,Inv X pins Z H W->Q (.bool o.isSome) W):
  Bl X.m A (Dj .In u (.ref a)) Q E s:=by
 rcases g with⟨kvs,k,e,i,l⟩|⟨kvs,k,b,e,i,t,l⟩
 .subst i;obtain⟨z,hd,vs,n,dd⟩:=lM I.hok e;refine wpAny_in_of (jF L) hd dd.mapOf ?_;rw[<-(n.val k).isSome_eq,<-l];exact h _ (I.tok _)
 .subst i;cases (show u=Value.ref b from L);obtain⟨z,hd,xs,n,dd⟩:=m9 I.hok e;refine wpAny_in_heap (Fb J) (iK I.hok t) hd dd ?_;have q:=(n.val k).isSome_eq;rw[Mh]at q;rw[<-q,<-l];exact h _ (I.tok _)
theorem UW{Q:Ae->Ah->Prop}(J:A.units+1<Ex)(I:Inv X pins Z H s)(g:gV H a y o)(L:RelV y u)(h:∀W,Inv X pins Z H W->Q (.bool (!o.isSome)) W):
  Bl X.m A (Dj .NotIn u (.ref a)) Q E s:=by
 rcases g with⟨kvs,k,e,i,l⟩|⟨kvs,k,b,e,i,t,l⟩
 .subst i;obtain⟨z,hd,vs,n,dd⟩:=lM I.hok e;refine wpAny_notIn_of (jF L) hd dd.mapOf ?_;rw[<-(n.val k).isSome_eq,<-l];exact h _ (I.tok _)
 .subst i;cases (show u=Value.ref b from L);obtain⟨z,hd,xs,n,dd⟩:=m9 I.hok e;refine wpAny_notIn_heap (Fb J) (iK I.hok t) hd dd ?_;have q:=(n.val k).isSome_eq;rw[Mh]at q;rw[<-q,<-l];exact h _ (I.tok _)
theorem nB{t':Nat}(I:Inv X pins Z H s)(d:pZ (H a))(F:Eh a s.heap h')(P:∃q,h'.get? a=some q)(new:b9 X.prog X.w (aN H a ob) h' a ob):
  Inv X pins Z (aN H a ob) {s with heap:=h',toks:=t'}:=
 I.write (x:=a) (e:=a) d (.inl rfl) (λb q Y z=>(F.2 b Y).trans z) P new
theorem DM(z:kvs.length<=Ao)(hd:(a==Fc)=false)(n:KV kvs vs)(dd:h'.DictOf (bQ P w) a vs):
  b9 P w j h' a (.dK kvs):=⟨z,hd,vs,n,dd⟩
theorem UX{Q:Unit->Ah->Prop}(J:A.units+1<Ex)(I:Inv X pins Z H s)(g:lN H a y v j)(L:RelV y u)(T:RelV v r)(h:∀W,Inv X pins Z j W->Q () W):
  Bl X.m A (Ul (.ref a) u r) Q E s:=by
 rcases g with⟨kvs,k,e,i,l,o⟩|⟨kvs,k,b,e,i,t,l,o⟩
 .subst i o;obtain⟨z,hd,vs,n,dd⟩:=DL I.hok e;have hz:vs.length<=Ao:=by rw[<-n.length];exact z
  have hl:(dY kvs k v).length<=Ao:=by have:=oO kvs k v;lia
  refine wpAny_setItem_pairs (hsz:=hz) (jF L) dd λh' G F=>h _ ?_;have P:∃q,h'.get? a=some q:=let ⟨q,_,_,N,_⟩:=G;⟨q,N⟩;exact nB I (by rw[e];exact True.intro) F P (DM hl hd (n.put k T) G)
 .subst i o;cases (show u=Value.ref b from L);obtain⟨z,hd,xs,n,dd⟩:=qE I.hok e;have hz:xs.length<=Ao:=by rw[<-Cu n];exact z
  have hl:(dY kvs k v).length<=Ao:=by have:=oO kvs k v;lia
  refine wpAny_setItem_heap (hsz:=hz) (Fb J) (iK I.hok t) dd λh' G F=>h _ ?_;obtain⟨q,es,ep,N,Y,f,h4,_,K⟩:=G;refine nB I (by rw[e];exact True.intro) F ⟨q,N⟩ ⟨hl,hd,_,(n.put k t T).keeps λc ys d=>?_,q,es,ep,N,Y,f,h4,K⟩;rw[bB (sD d e (λz=>nomatch z))];exact d
end
section
variable {X:Cx}{pins:Pn}{Z:St}{H:Hp}{s:Ah}{a:Aj}{kvs:List (aB×V)}{k:aB}{u:Ae}{A:Cn}{E:Ae->Ah->Prop}
theorem UY{Q:Ae->Ah->Prop}(I:Inv X pins Z H s)(e:Rd H a (.dK kvs))(h:∀t W,Inv X pins Z H W->Q (.int kvs.length t) W):Bl X.m A (call (.builtin "len") [.ref a]) Q E s:=by
 obtain⟨z,hd,vs,n,dd⟩:=lM I.hok e;refine call_len_dict hd dd (by rw[<-n.length];rw[Jo]at z;lia) ?_;rw[<-n.length];exact h _ _ (I.tok _)
end
theorem UZ(I:Inv X pins Z H s)(g:gV H a y o):s.TypeIs (.ref a) "dict":=by
 rcases g with⟨kvs,k,e,_,_⟩|⟨kvs,k,b,e,_,_,_⟩
 .obtain⟨_,_,vs,_,dd⟩:=lM I.hok e;exact dd.typeIs
 .obtain⟨_,_,xs,_,dd⟩:=m9 I.hok e;exact dd.typeIs
theorem DN(h:Cr)(Y:Fc<h.objs.size):b9 P w H (h.push {cls:=.type "dict",data:=.dict #[]}) h.objs.size (.dK []):=
 ⟨Ea _,beq_eq_false_iff_ne.mpr (Bq (Bo Y)),[],.nil,Heap.DictOf.new h⟩
theorem DO(h:Cr)(Y:Fc<h.objs.size):b9 P w H (h.push {cls:=.type "dict",data:=.dict #[]}) h.objs.size (.dT []):=
 ⟨Ea _,beq_eq_false_iff_ne.mpr (Bq (Bo Y)),[],.nil,_,#[],0,Au _ rfl,⟨rfl,rfl,rfl⟩,rfl,rfl,Ey⟩
def U0:TE:=λ_ H Q=>∀p,H p=none->Q (.ref p) (aN H p (.dK []))
def U1:TE:=λ_ H Q=>∀p,H p=none->Q (.ref p) (aN H p (.dT []))
section
variable {X:Cx}{pos:Gy}
theorem U2:PE X (.Dict [] [] pos) U0:=λpins s Z H Q I h=>
 Rg ⟨.ref s.heap.objs.size,_,I.laid (a:=s.heap.objs.size) (o:=.dK []) (t':=s.toks) (λ_ _ q=>Ag _ q) (Ai _) (DN s.heap I.big),rfl,h _ (I.hok.fresh (Ai _))⟩
theorem U3:PE X (.Dict [] [] pos) U1:=λpins s Z H Q I h=>
 Rg ⟨.ref s.heap.objs.size,_,I.laid (a:=s.heap.objs.size) (o:=.dT []) (t':=s.toks) (λ_ _ q=>Ag _ q) (Ai _) (DO s.heap I.big),rfl,h _ (I.hok.fresh (Ai _))⟩
end
def sU:List (TE×TE)->St->Hp->(List (V×V)->Hp->Prop)->Prop
 | [],_,H,Q=>Q [] H
 | (tk,O)::r,Z,H,Q=>tk Z H λx G=>O Z G λy z=>sU r Z z λps w=>Q ((x,y)::ps) w
abbrev VV:List (V×V)->List (Ae×Ae)->Prop:=Ff λp q=>RelV p.1 q.1/\RelV p.2 q.2
def sW(X:Cx)(pos:Gy)(keys:List (Option Cb))(b:List Cb)(l:List (TE×TE)):Prop:=
 ∀(pins:Pn) (s:Ah) (Z:St) (H:Hp) (Q:List (V×V)->Hp->Prop),Inv X pins Z H s->sU l Z H Q->
  X.a (evalPairs (pairTrees keys b X.env pos)) (λvs W=>∃ps j,Inv X pins Z j W/\VV ps vs/\Q ps j) X.xe s
theorem DP:sW X pos [] [] []:=λpins s Z H Q I h=>pairTrees_nil_walk ⟨[],H,I,.nil,h⟩
theorem DQ(hk:PE X k tk)(c:PE X v O)(g:sW X pos ks vs l):
  sW X pos (some k::ks) (v::vs) ((tk,O)::l):=λpins s Z H Q I h=>
 pairTrees_cons_walk (aY (hk pins s Z H _ I h) λu M ⟨x,G,L,d,f⟩=>aY (c pins M Z G _ L f) λB V ⟨y,z,i,S,p⟩=>
  aY (g pins V Z z _ i p) λws j ⟨ps,w,E,n,P⟩=>⟨(x,y)::ps,w,E,.cons ⟨d,S⟩ n,P⟩)
def qF(kvs more:List (aB×V)):List (aB×V):=more.foldl (λacc g=>dY acc g.1 g.2) kvs
theorem KV.merge:∀{more:List (aB×V)} {rs:List (aB×Ae)} {kvs:List (aB×V)} {vs:List (aB×Ae)},KV more rs->KV kvs vs->KV (qF kvs more) (merged vs rs):=by
 intro more rs kvs vs r;unfold KV at r
 induction r generalizing kvs vs with
 | nil=>intro q;exact q
 | @cons p q ps qs h t E=>
  intro u;have e:KV (dY kvs p.1 p.2) (Te vs q.1 q.2):=by
   have:=u.put p.1 h.2;rw[<-h.1];exact this
  exact E e
theorem DR:∀(more kvs:List (aB×V)),(qF kvs more).length<=kvs.length+more.length
 | [],kvs=>by show kvs.length<=kvs.length+0;lia
 | p::r,kvs=>by
  have O:=DR r (dY kvs p.1 p.2);have Z:=oO kvs p.1 p.2;show(qF (dY kvs p.1 p.2) r).length<=_;rw[Bu];lia
theorem DS:∀{kvs:List (aB×V)} {ws:List (Ae×Ae)},VV (kvs.map λg=>(kV g.1,g.2)) ws->∃rs,Carries (bQ P w) ws rs/\KV kvs rs
 | [],_,r=>by rw[Kq]at r;cases r;exact⟨[],True.intro,.nil⟩
 | p::kvs,_,r=>by
  rw[Be]at r;cases r with
  | @cons a b A bs h t=>
   obtain⟨rs,c,q⟩:=DS (P:=P) (w:=w) t;obtain⟨u,v⟩:=b;exact⟨(p.1,v)::rs,⟨jF h.1,rfl,c⟩,.cons ⟨rfl,h.2⟩ q⟩
def U4(l:List (TE×TE)):TE:=λZ H Q=>∀p,H p=none->sU l Z (aN H p (.dK [])) λps z=>z p=some (.dK [])/\∃kvs:List (aB×V),ps=kvs.map (λg=>(kV g.1,g.2))/\kvs.length<=15/\Q (.ref p) (aN z p (.dK (qF [] kvs)))
theorem U5(h:sW X pos keys b l)(C:keys.all (·.isSome)=true)(hl:keys.length=b.length)(Y:keys≠[])(d:keys.length<=15):PE X (.Dict keys b pos) (U4 l):=by
 intro pins s Z H Q I q;have U:=I.hok.fresh (Ai s.heap.objs.size);have W:=I.laid (a:=s.heap.objs.size) (o:=.dK []) (h':=s.heap.push {cls:=.type "dict",data:=.dict #[]}) (t':=s.toks) (λ_ _ q=>Ag _ q) (Ai _) (DN s.heap I.big);refine wpAny_Dict_walk (knd:=bQ X.prog X.w) C hl Y d (aY (h pins _ Z _ _ W (q _ U)) λws g ⟨ps,S,i,n,e,kvs,ep,m,p⟩=>?_);subst ep;obtain⟨rs,c,f⟩:=DS (P:=X.prog) (w:=X.w) n;obtain⟨z,hd,j,u,dd⟩:=DL i.hok e;cases u;refine⟨rs,c,dd,λh' G F=>⟨.ref s.heap.objs.size,_,?_,rfl,p⟩⟩;have hz:(qF [] kvs).length<=Ao:=by
  have O:=DR kvs [];rw[Lk]at O;rw[Jo];lia
 have L:∃q,h'.get? s.heap.objs.size=some q:=let ⟨q,_,_,hq,_⟩:=G;⟨q,hq⟩;exact nB i (by rw[e];exact True.intro) F L (DM hz hd (f.merge .nil) G)
section
variable {X:Cx}{pins:Pn}{Z:St}{H:Hp}{s:Ah}{a:Aj}{y d:V}{u r:Ae}{o:Option V}{A:Cn}{E:Ae->Ah->Prop}
theorem DT{Q:Ae->Ah->Prop}(J:A.units+1<Ex)(I:Inv X pins Z H s)(g:gV H a y o)(L:RelV y u)(h:∀P W,Inv X pins Z H W->RelV (o.getD .non) P->Q P W):
  Bl X.m A (call (.builtin "dict.get") [.ref a,u]) Q E s:=by
 rcases g with⟨kvs,k,e,i,l⟩|⟨kvs,k,b,e,i,t,l⟩
 .subst i;obtain⟨z,hd,vs,n,dd⟩:=lM I.hok e;refine Ir Kn dd.typeIs Kf (PySem.F.args_dict_get_2 _ _) (meets_dict_get (bQ X.prog X.w) a (jF L) hd) ⟨_,dd.mapOf,h _ _ (I.tok _) ?_⟩;rw[l];exact(n.val k).getD rfl
 .subst i;cases (show u=Value.ref b from L);obtain⟨z,hd,xs,n,dd⟩:=m9 I.hok e;refine Ir Kn dd.typeIs Kf (PySem.F.args_dict_get_2 _ _) (meetsH_dict_get (Gw (bQ X.prog X.w)) a b hd) ⟨Fb J,k,xs,iK I.hok t,dd,h _ _ (I.tok _) ?_⟩;rw[l];exact(n.val k).getD rfl
theorem DU{Q:Ae->Ah->Prop}(J:A.units+1<Ex)(I:Inv X pins Z H s)(g:gV H a y o)(L:RelV y u)(j:RelV d r)(h:∀P W,Inv X pins Z H W->RelV (o.getD d) P->Q P W):
  Bl X.m A (call (.builtin "dict.get") [.ref a,u,r]) Q E s:=by
 rcases g with⟨kvs,k,e,i,l⟩|⟨kvs,k,b,e,i,t,l⟩
 .subst i;obtain⟨z,hd,vs,n,dd⟩:=lM I.hok e;refine Ir Kn dd.typeIs Kf (PySem.F.args_dict_get_3 _ _ _) (meets_dict_get_default (bQ X.prog X.w) a (jF L) hd r) ⟨_,dd.mapOf,h _ _ (I.tok _) ?_⟩;rw[l];exact(n.val k).getD j
 .subst i;cases (show u=Value.ref b from L);obtain⟨z,hd,xs,n,dd⟩:=m9 I.hok e;refine Ir Kn dd.typeIs Kf (PySem.F.args_dict_get_3 _ _ _) (meetsH_dict_get_default (Gw (bQ X.prog X.w)) a b hd r) ⟨Fb J,k,xs,iK I.hok t,dd,h _ _ (I.tok _) ?_⟩;rw[l];exact(n.val k).getD j
end
end L2
namespace Att
open PySem.W PySem.Calls
theorem U6:∀(ns:List Int) (vs:List Ae),WellAll P h vs (ns.map WData.int)->Tq vs ns:=by
 intro ns
 induction ns with
 | nil=>
  intro vs w;rw[Kq]at w;cases w;exact .nil
 | cons n ns E=>
  intro vs w;rw[Be]at w;cases w with
  | cons a b=>
   cases a;exact .cons _ _ (E _ b)
theorem U7{l:OpenLaw}{n:Nat}(U:l.most=some n){P:Rk}{h:Cr}{args:List WData}{vals:List Ae}(b:l.row.toRowW.claim.pre args=true)(H:WellAll P h vals args):
  ∃a vs ns,vals=[Value.ref a]/\args=[WData.list (ns.map WData.int)]/\h.get? a=some {cls:=.type "list",data:=.seq vs.toArray}/\Tq vs ns/\ns.length<=n:=by
 have c:WShape.hasAll [] args [.list .int]=true:=(pre_splitW b).1;have hc:l.pre.holds [] {args:=args} = true:=(pre_splitW b).2;obtain⟨d,r,rfl,O,Z⟩:=hasAllW_cons c;obtain rfl:=hasAllW_nil Z;obtain⟨xs,rfl,f⟩:=hasW_list O;obtain⟨ns,rfl⟩:=items_int f;have j:ns.length<=n:=by
  unfold OpenLaw.pre at hc;have h4:(WTm.not (.lt (.lit (.int (n:Int))) (.len (.arg 0)))).holds [] {args:=[.list (ns.map .int)]} = true:=by
   have h4:=(holds_andW hc).1;rw[U]at h4;exact h4
  have J:=condW_of h4 (w_not (w_lt w_lit (w_len_list (w_arg rfl))));rw[Ab]at J;refine Nat.le_of_not_lt λq=>?_;have S:(n:Int)<((ns.length:Nat):Int):=by lia
  first
   | (rw[Uy S]at J;exact absurd J (by decide))
   | (simp at J;lia)
 cases H with
 | cons u B=>
  cases B;cases u with
  | list D C=>exact⟨_,_,ns,rfl,rfl,D,U6 ns _ C,j⟩
theorem U8(l:OpenLaw)(args:List WData):l.row.toRowW.claim.post args (.bool true) args=true:=
 postW_of (r:=l.row.toRowW) (X:=(true==true))
  (show WShape.has [] (.bool true) .bool=true by first|rfl|decide|simp[WShape.has,WShape.arms,WShape.armsAll])
  (show(WTm.eq .res (.lit (.bool true))).value [] {args:=args,res:=some (.bool true),after:=args} = some (.bool (true==true)) from w_eq_bool (w_res rfl) w_lit) rfl
theorem attach_call{l:OpenLaw}{n:Nat}{q:Ar}{loose:List Aw}{XP:(Aw->Option Ae)->Cr->Prop}{YP:Bk->Cr->Prop}{d:DefRec}(U:l.most=some n)(p:d.params.defaults=[])(call:∀(w:Bk) (s₀ y:Ah) (mg E:Aw->Option Ae) (fa:Aj) (o:Lc) (O R i:Ae) (a:Aj) (vs:List Ae) (ns:List Int),
   Ground q loose [] XP w s₀ mg E y.heap->YP w y.heap->
   y.heap.get? fa=some o->o.data=.func (docDef d.name d.params d.body d.scope O R i)->y.heap.CodeRec R d.name->mg d.name=some (.ref fa)->
   y.heap.get? a=some {cls:=.type "list",data:=.seq vs.toArray}->Tq vs ns->ns.length<=n->y.gens = #[]->
   Mr (Cq l.prog w) Ra (.call (.ref fa) ⟨[.ref a],[]⟩) (λr W=>r=.ok (.ret (.bool true))/\OldK y.heap W.heap/\W.os=y.os/\My W.gens) y):
  WalkO q loose XP YP l.row.toRowW d [] (λf vs=>Sx f vs):=by
 intro w s₀ y mg E G Y fa o O R i dV kV D hd z P Q t args vals A b c e H sA;obtain rfl:dV=.none:=Dflts.none P p;obtain rfl:kV=.none:=Dflts.noKw P;obtain⟨a,vs,ns,rfl,rfl,B,m,j⟩:=U7 U b H;refine enter_call (La (call w s₀ y mg E fa o O R i a vs ns G Y D (fd_plain hd) z Q B m j t) λr W N=>?_);obtain⟨rfl,Z,L,h4⟩:=N;exact⟨.inl ⟨.bool true,.bool true,[],rfl,λ_=>rfl,.bool true,U8 l _,λ_=>⟨List.Pairwise.nil,λ_ J=>(nomatch J)⟩⟩,Z,L,h4⟩
end Att
namespace L2
theorem DV:∀{vs:List Ae} {ns:List Int},Tq vs ns->aX (ns.map V.int) vs
 | _,_,.nil=>.nil
 | _,_,.cons n t h=>.cons ⟨t,rfl⟩ (DV h)
def sX(H:Hp):Prop:=∀b,H b=none\/∃o xs,H b=some (.frz o (.lst xs))
theorem U9{P:Ar}{w:Bk}{K:Ac}{mg mb:Aw->Option Ae}{CX:jE}{k:Nat}{fa a:Aj}{fd:Dz}{x:Aw}{sp:Sp}{s1:Ah}{vs:List Ae}{ns:List Int}(KX:K.In s1.heap)(hns:s1.heap.Ns Dw mg)(hb:s1.heap.Ns Uj mb)(hbb:∀x:Aw,x≠"__name__"->mb x=Cs x)(hlim:s1.heap.NoLimit)(hg:s1.gens = #[])(ha:s1.heap.get? a=some (lO vs.toArray))(hi:Tq vs ns)(hl:ns.length<=Ao)(hr:cC k Ra)(F:∀base:Cr,K.In base->base.Ns Dw mg->e8 P w K mg base CX k fa fd [x] sp)(hbind:∀(s:Ah) (u:Ae),Sk s fd ⟨[u],[]⟩ [(x,u)])(hsp:∀H:Hp,sX H->bH K H a (ns.map V.int)->sp [.ref a] H (λv _=>v=.bl true) λ_ _ _=>False)(hCX:∀H e s',CX [] H s1 (λ_ _ _=>False) e s'->False):
  Mr (Cq P w) Ra (.call (.ref fa) ⟨[.ref a],[]⟩) (λr s'=>r=.ok (.ret (.bool true))/\OldK s1.heap s'.heap/\s'.os=s1.os/\My s'.gens) s1:=by
 have rv:=DV hi;have lenV:=hi.length;have core:∀H:Hp,sX H->bH K H a (ns.map V.int)->cG P w H s1.heap->(∀b,H b≠none->b=a)->(H a≠none->K.lookup a=none)->
   Mr (Cq P w) Ra (.call (.ref fa) ⟨[.ref a],[]⟩) (λr s'=>r=.ok (.ret (.bool true))/\OldK s1.heap s'.heap/\s'.os=s1.os/\My s'.gens) s1:=by
  intro H hO hS hok hA hK;have base_of:∀{b:Aj} {o:Lc},s1.heap.get? b=some o->H b=none->(kD s1.heap H).get? b=some o:=λe n=>O4 e n;have noA:∀{b:Aj} {o:Lc} {es:Array Ec} {ep:Nat},s1.heap.get? b=some o->o.data=.dict es ep->H b=none:=λ{b o es ep} e d=>by
   cases q:H b with
   | none=>rfl
   | some u=>
    have e':b=a:=hA b (by rw[q];simp);subst e';rw[ha]at e;cases e;have d':Data.seq vs.toArray _=Data.dict es ep:=d;cases d'
  have nsK:∀{b:Aj} {m:Aw->Option Ae},s1.heap.Ns b m->(kD s1.heap H).Ns b m:=λ{b m} ⟨o,es,ep,e,d,r⟩=>⟨o,es,ep,base_of e (noA e d),d,r⟩
  have hKb:K.In (kD s1.heap H):=λb o e=>base_of (KX b o e) (by
   cases q:H b with
   | none=>rfl
   | some u=>
    have e':b=a:=hA b (by rw[q];simp);subst e';rw[hK (by rw[q];simp)]at e;cases e)
  have hM:Mod K mg (kD s1.heap H):=⟨hKb,nsK hns,⟨mb,nsK hb,hbb⟩,let ⟨mc,h1,h2⟩:=hlim;⟨mc,nsK h1,h2⟩⟩;have e0:mZ P w K mg (kD s1.heap H) Ra [] s1 H:=⟨rfl,hM,λb o e=>O5 e,Qg (O3 _ _),trivial,λb hb=>absurd (show b∈([]:List Aj) from hb) (by simp),hok,.of_eq hg⟩;refine La ((F _ hKb (nsK hns)).run Ra [] s1 H ⟨[.ref a],[]⟩ [.ref a] [.ref a] _ _ hr e0 (hbind s1 (.ref a)) (.cons rfl .nil) (hsp H hO hS)) λr s' h=>?_;cases r with
  | error e=>exact(hCX H e s' h).elim
  | ok fl=>
   cases fl with
   | next=>exact Bn h
   | brk=>exact Bn h
   | cont=>exact Bn h
   | ret u=>
    obtain⟨v,H',os,bare,un,hok',r',q⟩:=h;have q':v=.bl true:=q;subst q';obtain rfl:u=Value.bool true:=r';refine⟨rfl,OldK.of_keep λb o e=>?_,os,bare⟩;cases q:H b with
    | none=>exact un.keep b o e q (by intro z;exact absurd (show b∈([]:List Aj) from z) (by simp)) (by simp)
    | some u=>
     rcases hO b with z|⟨ob,xs,z⟩
     .rw[q]at z;cases z
     .have z2:=un.frzs b ob _ z;obtain⟨e1,_⟩:=hok b _ z;obtain⟨e2,_⟩:=hok' b _ z2;rw[e]at e1;cases e1;exact e2
 cases hk:K.lookup a with
 | some o=>
  have e:=KX a o hk;rw[ha]at e;cases e;refine core (λ_=>none) (λ_=>.inl rfl) (.inr ⟨_,vs.toArray,_,hk,rfl,rfl,rfl,by rw[Bj,lenV];exact hl,by simpa using rv⟩) (λb u z=>by have z':(none:Option HO)=some u:=z;cases z') (λb z=>absurd rfl z) λz=>absurd rfl z
 | none=>
  refine core (λb=>if b=a then some (.frz (lO vs.toArray) (.lst (ns.map V.int))) else none) (λb=>?_) (.inl (.inr ⟨(lO vs.toArray),Uw rfl⟩)) (λb u z=>?_) (λb z=>?_) λ_=>hk
  .by_cases hb:b=a
   .exact .inr ⟨_,_,Uw hb⟩
   .exact .inl (Uv hb)
  .by_cases hb:b=a
   .have z':=(Uw hb).symm.trans z;cases z';subst hb;exact⟨ha,by rw[Ab];exact hl,vs,_,rv,ha⟩
   .have z':=(Uv hb).symm.trans z;cases z'
  .by_cases hb:b=a
   .exact hb
   .exact absurd (Uv hb) z
theorem VA{l:Qc}{n k:Nat}{q:Ar}{loose:List Aw}{XP:(Aw->Option Ae)->Cr->Prop}{YP:Bk->Cr->Prop}{d:DefRec}{K:Rk->Ac}{CX:Bk->jE}{sp:Bk->Sp}{x:Aw}(U:l.most=some n)(M:n<=Ao)(p:d.params.defaults=[])(c:cC k Ra)(r:∀(w:Bk) (h:Cr),YP w h->(K w.params).In h)(F:∀(w:Bk) (mg:Aw->Option Ae) (fa:Aj) (h:Cr),(K w.params).In h->h.Ns Dw mg->mg d.name=some (.ref fa)->
   ∃fd:Dz,(∀(s:Ah) (u:Ae),Sk s fd ⟨[u],[]⟩ [(x,u)])/\
    ∀base:Cr,(K w.params).In base->base.Ns Dw mg->e8 l.prog w (K w.params) mg base (CX w) k fa fd [x] (sp w))(t:∀(w:Bk) (H:Hp) (a:Aj) (ns:List Int),ns.length<=n->sX H->bH (K w.params) H a (ns.map V.int)->sp w [.ref a] H (λv _=>v=.bl true) λ_ _ _=>False)(N:∀(w:Bk) (H:Hp) (s:Ah) (e:Ae) (C:Ah),CX w [] H s (λ_ _ _=>False) e C->False):
  PySem.W.WalkO q loose XP YP l.row.toRowW d [] (λf vs=>Sx f vs):=by
 refine Att.attach_call U p λw s₀ y mg E fa o O R i a vs ns G Y D hd z Q B m J Z=>?_;have X:=r w _ Y;obtain⟨fd,j,A⟩:=F w mg fa _ X G.T.g Q;exact U9 X G.T.g G.T.b G.T.builtins G.T.nolimit Z B m (Bf J M) c A j (λH I L=>t w H a ns J I L) λH e C=>N w H y e C
abbrev eS:jE:=λ_ _ _ _ _ _=>False
abbrev E0:XK:=λ_ _ _=>False
theorem oP:kF eS X E0:=λ_ _ _ _ _ _ _ h=>h.elim
structure iV(K:Ac)(x qual:Aw)(st:Gn)(f:Aj)(fd:Dz):Prop where
 ex:∃(oc:Ae) (od:Option Aj) (kV doc pm:Ae) (an:Option Aj) (cdv ct:Ae) (osl:Array (Option Ae)),
  fd=Fh x qual (iR st) (fX st) (dN st) .none kV doc pm an cdv ct/\K.lookup f=some ⟨oc,od,.func fd,osl⟩/\Ke K cdv qual=true
 kp:Em K (.ref f)=true
section
variable {P:Ar}{w:Bk}{K:Ac}{mg:Aw->Option Ae}{base:Cr}
theorem iV.ok{x m:Aw}{st:Gn}{f:Aj}{fd:Dz}{N ps:List Aw}{k:Nat}{sp:Sp}(F:iV K x m st f fd)(S:lK N ps (dN st))(len:∀vs H Q E,sp vs H Q E->vs.length=ps.length)(p:∀(a:Ae) (A:Cn) (outer:List Env) (s:Ah) (H:Hp) (vs:List V) (Q:VK) (E:XK),cC k (A.deeper (Lp m (dN st) s.heap.objs.size f a))->sp vs H Q E->
   ∃t,eR (cZ eS P w K mg base N m (dN st) f a A outer s H E).nox (fX st) t/\t {nx:=λ_ j=>Q .non j,rt:=Q} (start N vs) H):e8 P w K mg base eS (k+1) f fd ps sp:=by
 obtain⟨L,B,kV,i,O,I,a,ct,e,rfl,X,z⟩:=F.ex;refine C7 X z S len λA outer s H vs Q E g D=>?_;obtain⟨t,h,q⟩:=p a A outer s H vs Q E g D;exact⟨t,h.nox,q⟩
theorem iV.binds{x m:Aw}{st:Gn}{f:Aj}{fd:Dz}{ps:List Aw}(F:iV K x m st f fd)(h:∀(kV i O:Ae) (I:Option Aj) (a ct:Ae) (us:List Ae),us.length=ps.length->bindArgs (Fh x m (iR st) (fX st) (dN st) .none kV i O I a ct) ⟨us,[]⟩=pure (ps.zip us)):Binds K fd ps []:=by
 obtain⟨L,B,kV,i,O,I,a,ct,e,rfl,X,z⟩:=F.ex;exact .all (h kV i O I a ct)
theorem oQ{x m:Aw}{st:Gn}{f:Aj}{L:Ae}{B I:Option Aj}{e:Array (Option Ae)}{kV i O a ct:Ae}(l:K.lookup f=some ⟨L,B,.func (Fh x m (iR st) (fX st) (dN st) .none kV i O I a ct),e⟩)(c:Ke K a m=true)(k:Em K (.ref f)=true):iV K x m st f (Fh x m (iR st) (fX st) (dN st) .none kV i O I a ct):=⟨⟨L,B,kV,i,O,I,a,ct,e,rfl,l,c⟩,k⟩
end
theorem wW{k:Nat}(g:cC k A):A.units+1<Ex:=Fl (Ph (by decide:1<=64) _) g.units
section
variable {X:Cx}
theorem VB:cM X (.builtin "len") (λxs H Q=>∃a kvs,xs=[V.ref a]/\H a=some (.dK kvs)/\Q (.int kvs.length) H):=by
 intro pins s Z H xs us Q I r h;obtain⟨a,kvs,rfl,l,q⟩:=h;obtain⟨u,rfl,ru⟩:=vals1 r;cases ru;exact UY I (.inl l) λt W n=>⟨.int kvs.length,H,n,⟨t,rfl⟩,q⟩
end
theorem VC{A B:Prop}(h:B):if false=true then A else B:=by
 rw[Uv Av];exact h
theorem VD{A B:Prop}(h:A):if true=true then A else B:=by
 rw[Uw rfl];exact h
end L2
set_option maxHeartbeats 4000000
namespace L2
structure jX where
 cl:List (Aw×Aj)
 s:Ah
 H:Hp
 fp:List Aj
 C:Aj
def dO(X:Cx)(sc:Jp)(N':List Aw)(B:jX):Cx where
 prog:=X.prog
 w:=X.w
 K:=X.K
 mg:=X.mg
 base:=X.base
 A:=X.A
 N:=N'
 s₀:=B.s
 H₀:=B.H
 env:=compEnvC sc B.cl B.C X.env
 outer:=X.stack
 stack:=X.stack
 ex:=B.fp
 fn:=λ_=>false
 calm:=X.calm
 pn:=[]
 xe:=λ_ _=>False
def fY(cells:List (Aw×Aj)):List (Aw×Jr)->List (Aw×Aj)->List (Aw×Aj)
 | [],acc=>acc
 | (n,k)::r,acc=>if k=.free then fY cells r ((n,(cells.lookup n).getD 0)::acc) else fY cells r acc
theorem DW{scope:Jp}{env:Env}(h:∀y∈scope.names,y.2=.free->∃c,env.cells.lookup y.1=some c):Ui scope env=pure (fY env.cells scope.names []):=by
 have key:∀(names:List (Aw×Jr)) (acc:List (Aw×Aj)),(∀y∈names,y.2=.free->∃c,env.cells.lookup y.1=some c)->
   (forIn names acc λ(x:Aw×Jr) (cs:List (Aw×Aj))=>(if (x.2==NameKind.free)=true then(do let a <-cellOf env x.1;pure (ForInStep.yield ((x.1,a)::cs))) else pure (ForInStep.yield cs):Rw (ForInStep (List (Aw×Aj)))))=(pure (fY env.cells names acc):Rw _):=by
  intro names
  induction names with
  | nil=>intro acc _;rfl
  | cons y r ih=>
   intro acc hy;obtain⟨n,k⟩:=y;rw[Ii]
   by_cases hk:k=.free
   .subst hk;obtain⟨c,hc⟩:=hy (n,.free) Bi rfl;have e1:cellOf env n=(pure c:Rw Aj):=by
     unfold cellOf;rw[show env.cells.lookup n=some c from hc]
    simp only[beq_self_eq_true,if_true,e1,pure_bind];rw[ih _ λz hz=>hy z (Bb _ hz)];simp only[fY,if_true];rw[show env.cells.lookup n=some c from hc];rfl
   .have hb:(k==NameKind.free)=false:=by simpa using hk
    simp only[hb,Cm,if_false,pure_bind];rw[ih _ λz hz=>hy z (Bb _ hz)];simp only[fY,Uv hk]
 have e:Ui scope env=((forIn scope.names [] λ(x:Aw×Jr) (cs:List (Aw×Aj))=>(if (x.2==NameKind.free)=true then(do let a <-cellOf env x.1;pure (ForInStep.yield ((x.1,a)::cs))) else pure (ForInStep.yield cs):Rw (ForInStep (List (Aw×Aj)))))>>=λcs=>pure cs):=by
  unfold Ui;rfl
 rw[e,key _ _ h,pure_bind]
theorem wX:∀{names:List (Aw×Jr)} {acc:List (Aw×Aj)},(∀y∈names,y.2=.free->∃c,cells.lookup y.1=some c)->
  (∀x c,acc.lookup x=some c->cells.lookup x=some c)->(fY cells names acc).lookup x=some c->cells.lookup x=some c
 | [],acc,_,l,e=>l x c e
 | (n,k)::r,acc,K,l,e=>by
  have g:∀y∈r,y.2=.free->∃c,cells.lookup y.1=some c:=λz hz=>K z (Bb _ hz);unfold fY at e
  by_cases hk:k=.free
  .subst hk;rw[Uw rfl]at e;obtain⟨d,hd⟩:=K (n,.free) Bi rfl;have hd:cells.lookup n=some d:=hd;refine wX g (λz b q=>?_) e;rw[Dx]at q
   by_cases hz:z=n
   .subst hz;rw[beq_self_eq_true,hd]at q;rw[hd];exact q
   .have:(z==n)=false:=beq_eq_false_iff_ne.mpr hz;rw[this]at q;exact l z b q
  .rw[Uv hk]at e;exact wX g l e
theorem sY:∀{names:List (Aw×Jr)} {acc:List (Aw×Aj)},((x,NameKind.free)∈names\/∃c,acc.lookup x=some c)->∃c,(fY cells names acc).lookup x=some c
 | [],acc,h=>by
  rcases h with h|h
  .cases h
  .exact h
 | (n,k)::r,acc,h=>by
  unfold fY
  by_cases hk:k=.free
  .subst hk;rw[Uw rfl];refine sY ?_
   by_cases S:x=n
   .subst S;right;rw[Dx,beq_self_eq_true];exact⟨_,rfl⟩
   .have Y:(x==n)=false:=beq_eq_false_iff_ne.mpr S;rcases h with h|⟨c,h⟩
    .rcases Bd.mp h with e|h
     .cases e;exact absurd rfl S
     .exact .inl h
    .right;rw[Dx,Y];exact⟨c,h⟩
  .rw[Uv hk];refine sY ?_;rcases h with h|h
   .rcases Bd.mp h with e|h
    .cases e;exact absurd rfl hk
    .exact .inl h
   .exact .inr h
structure nC(N':List Aw)(sc osc:Jp):Prop where
 kind:sc.kind=.function
 nd:N'.Nodup
 nocell:∀y∈sc.names,y.2≠.cell
 loc:∀y∈sc.names,y.2=.local->sc.names.lookup y.1=some .local
 free:∀y∈sc.names,y.2=.free->osc.names.lookup y.1=some .cell\/osc.names.lookup y.1=some .free
def nD(N':List Aw)(sc a:Jp):Bool:=
 decide (sc.kind=.function)&&decide N'.Nodup&&sc.names.all (λy=>decide (y.2≠.cell))&&sc.names.all (λy=>decide (y.2=.local->sc.names.lookup y.1=some .local)) &&
  sc.names.all (λy=>decide (y.2=.free->a.names.lookup y.1=some .cell\/a.names.lookup y.1=some .free))
theorem nC.of(h:nD N' sc a=true):nC N' sc a:=by
 unfold nD at h;simp only[Cy]at h;obtain⟨⟨⟨⟨O,Z⟩,f⟩,h4⟩,J⟩:=h;exact⟨Ux O,Ux Z,λy K=>Ux (Gf.mp f y K),λy K=>Ux (Gf.mp h4 y K),λy K=>Ux (Gf.mp J y K)⟩
def cmap(js:List (Option Nat))(Z:St):St:=js.map λo=>o.bind λj=>(Z[j]?).join
def fA(N' N:List Aw)(sc:Jp):List (Option Nat)->List Aw->Bool
 | [],[]=>true
 | none::js,_::r=>fA N' N sc js r
 | some j::js,x::r=>decide (N[j]? = some x)&&decide (sc.names.lookup x=some .free)&&fA N' N sc js r
 | _,_=>false
theorem wY:∀{js:List (Option Nat)} {r:List Aw},fA N' N sc js r=true->js.length=r.length
 | [],[],_=>rfl
 | none::js,_::r,h=>by
  have:=wY (js:=js) (r:=r) h;simp[this]
 | some j::js,x::r,h=>by
  unfold fA at h;rw[Cy]at h;have:=wY (js:=js) (r:=r) h.2;simp[this]
 | [],_::_,h=>by simp[fA]at h
 | none::_,[],h=>by simp[fA]at h
 | some _::_,[],h=>by simp[fA]at h
theorem wZ:∀{js:List (Option Nat)} {r:List Aw} {i j:Nat} {x:Aw},fA N' N sc js r=true->js[i]? = some (some j)->r[i]? = some x->N[j]? = some x/\sc.names.lookup x=some .free
 | [],[],i,j,x,_,e,_=>by simp at e
 | none::js,_::r,0,j,x,h,e,_=>by simp at e
 | none::js,_::r,i+1,j,x,h,e,G=>wZ (js:=js) (r:=r) (i:=i) h (by simpa using e) (by simpa using G)
 | some k::js,y::r,0,j,x,h,e,G=>by
  unfold fA at h;rw[Cy,Cy]at h;simp at e G;subst e;subst G;exact⟨Ux h.1.1,Ux h.1.2⟩
 | some k::js,y::r,i+1,j,x,h,e,G=>by
  unfold fA at h;rw[Cy,Cy]at h;exact wZ (js:=js) (r:=r) (i:=i) h.2 (by simpa using e) (by simpa using G)
 | [],_::_,_,_,_,h,_,_=>by simp[fA]at h
 | none::_,[],_,_,_,h,_,_=>by simp[fA]at h
 | some _::_,[],_,_,_,h,_,_=>by simp[fA]at h
theorem w5{env:Env}{x:Aw}:∀{names:List (Aw×Jr)},(∀y∈names,y.2≠.cell)->
  (((names.map λ(n,k)=>if (k==NameKind.free&&env.scope.kind==.function&&env.kindOf n==some .cell) then(n,NameKind.cell) else(n,k)).lookup x=some .cell\/
    (names.map λ(n,k)=>if (k==NameKind.free&&env.scope.kind==.function&&env.kindOf n==some .cell) then(n,NameKind.cell) else(n,k)).lookup x=some .free)↔names.lookup x=some .free)
 | [],_=>by simp
 | (n,k)::r,h=>by
  have E:=@w5 env x r λy K=>h y (Bb _ K);have hk:k≠.cell:=h (n,k) Bi;rw[Be];dsimp only
  by_cases S:(x==n)=true
  .by_cases hc:(k==NameKind.free&&env.scope.kind==.function&&env.kindOf n==some .cell)=true
   .rw[Uw hc];simp only[Dx,S];have:k=.free:=by
     rw[Cy,Cy]at hc;exact beq_iff_eq.mp hc.1.1
    simp[this]
   .rw[Uv hc];simp only[Dx,S];constructor
    .rintro(e|e)
     .cases e;exact absurd rfl hk
     .exact e
    .intro e;exact .inr e
  .have S:(x==n)=false:=by simpa using S
   by_cases hc:(k==NameKind.free&&env.scope.kind==.function&&env.kindOf n==some .cell)=true
   .rw[Uw hc];simp only[Dx,S];exact E
   .rw[Uv hc];simp only[Dx,S];exact E
theorem w6:∀{names:List (Aw×Jr)},names.lookup x=some k->(x,k)∈names:=λh=>Hw h
section
variable {X:Cx}{sc:Jp}{N':List Aw}{js:List (Option Nat)}{pins:Pn}{Z:St}{H H1:Hp}{s:Ah}{fp:List Aj}{C:Aj}
theorem w9(S:nC N' sc X.env.scope)(I:Inv X pins Z H s):∀y∈sc.names,y.2=.free->∃c,X.env.cells.lookup y.1=some c:=λy K hk=>
 I.ok.has y.1 (S.free y K hk)
theorem VE(S:nC N' sc X.env.scope)(J:fA N' X.N sc js N'=true)(I:Inv X pins Z H s)(hf:∀b∈fp,gF X pins H b)(D:∀b∈fp,∃o,s.heap.get? b=some o){tk:Nat}{m:Aw->Option Ae}(n:s.heap.objs.size<=C)(keep:∀b o,s.heap.get? b=some o->O.get? b=some o)(un:Un (dX X.stack) fp H H1 s.heap O)(hok:cG X.prog X.w H1 O)(f:O.Ns C m)(K:H1 C=none):
  Inv (dO X sc N' ⟨fY X.env.cells sc.names [],s,H,fp,C⟩) [] (cmap js Z) H1 {s with heap:=O,toks:=tk}:=by
 have cs:=w9 S I;have sub:∀x c,(fY X.env.cells sc.names []).lookup x=some c->X.env.cells.lookup x=some c:=λx c e=>wX cs (λ_ _ z=>by simp at z) e;refine⟨⟨I.ok.mod,S.kind,I.ok.glob,I.ok.blt,n,λx y c T G=>I.ok.inj x y c (sub x c T) (sub y c G),λx U=>?_,λ_ _ h _=>absurd (show false=true from h) Av,I.ok.hd,I.ok.frames,.inl rfl,λb Y=>?_,I.bs,Bf I.ok.bsz I.sz,λb o e Y=>?_,λb Y g=>?_,I.stack,I.stkFree⟩,
  rfl,I.bare,un,⟨m,f,λi x v T G t=>?_⟩,λx c e=>?_,K,λx c e=>?_,λp B=>absurd (show p∈([]:List (Aj×Lc)) from B) (by simp),hok,?_⟩
 .have q:sc.names.lookup x=some .free:=(w5 (env:=X.env) S.nocell).mp U;exact sY (.inl (w6 q))
 .obtain⟨o,e⟩:=D b Y;exact⟨Bo (Bx (Bh e) n),λx c q=>(hf b Y).2.2.2.2.1 x c (sub x c q)⟩
 .rcases(hf b Y).2.2.2.1 with z|z
  .exact I.ok.noex b o e z
  .exact absurd (Bx (Bh e) (Bf I.ok.bsz z)) (Im _)
 .rcases Bd.mp (I.stkSub b g) with z|z
  .exact(hf b Y).2.1 z
  .exact(hf b Y).2.2.1 z
 .
  have T:N'[i]? = some x:=T;unfold cmap at G;rw[Ap]at G;cases P:js[i]? with
  | none=>rw[P]at G;cases G
  | some o=>
   rw[P]at G;cases o with
   | none=>cases G
   | some j=>
    obtain⟨Q,E⟩:=wZ J P T;have G:(Z[j]?).join=some v:=by simpa using G
    have V:Z[j]? = some (some v):=by
     cases q:Z[j]? with
     | none=>rw[q]at G;cases G
     | some z=>rw[q]at G;simpa using G
    obtain⟨m0,N,F⟩:=I.loc;have W:=S.free _ (w6 E) rfl;obtain⟨u,r,l⟩:=F j x v Q V (W.elim (λz=>.inr (.inl z)) λz=>.inr (.inr z));refine⟨u,r,.inr ⟨(w5 (env:=X.env) S.nocell).mpr E,?_⟩⟩;rcases l with⟨k,_⟩|⟨_,c,d,hc⟩
    .have k:X.env.scope.names.lookup x=some .local:=k;rcases W with z|z
     .rw[k]at z;cases z
     .rw[k]at z;cases z
    .obtain⟨M,R⟩:=sY (cells:=X.env.cells) (acc:=[]) (.inl (w6 E));have:M=c:=Ci ((sub x M R).symm.trans d);subst this;obtain⟨L,a,hd⟩:=hc;exact⟨M,R,L,keep _ _ a,hd⟩
 .obtain⟨v,L,a,hd⟩:=I.cell x c (sub x c e);exact⟨v,L,keep _ _ a,hd⟩
 .obtain⟨v,L,a,hd⟩:=I.cell x c (sub x c e);have A:c∉fp:=λz=>(hf c z).2.2.2.2.1 x c (sub x c e) rfl;exact un.free c L a (I.freeC x c (sub x c e)) A
 .show(cmap js Z).length=N'.length;unfold cmap;rw[Ab];exact wY J
end
section
variable {prog:Ar}{w:Bk}{A:Cn}{R:Tn->Ah->Prop}{s:Ah}
theorem VF(I:Nat->Ah->Prop)(P:∀n s,I n s->Bl (Cq prog w) A (Hg it) (λr y=>match r with
   | none=>R (.ok .next) y
   | some v=>Bl (Cq prog w) A (Pd b it v) (λ_ s₀=>Bl (Cq prog w) A (Nw b env v) (λ_ t=>
     Bl (Cq prog w) A (forIn ifs true λc r=>if r=true then do let ok <-Tg c env (El c env);pure (ForInStep.yield ok) else pure (ForInStep.yield r)) (λok a=>
      if ok=true then Bl (Cq prog w) A (El elt env) (λx e=>
       Bl (Cq prog w) A (call (.builtin "list.append") [acc,x]) (λ_ f=>∃m,m<n/\I m f) (λ_ _=>False) e) (λ_ _=>False) a
      else ∃m,m<n/\I m a) (λ_ _=>False) t) (λ_ _=>False) s₀) (λ_ _=>False) y) (λ_ _=>False) s)(n:Nat)(h:I n s):
  Mr (Cq prog w) A (.compLoop (.ListComp elt [⟨b,iter,ifs,0⟩] d pos) 0 it acc env) R s:=by
 refine codeAny_loop rfl I (λn s C=>?_) n h;show Bl _ A ((compTurn (.ListComp elt [⟨b,iter,ifs,0⟩] d pos) 0 it acc env).onRaise (λx=>do noteFrame x env;theTreesLotGoes x)) _ _ s;refine wpAny_noted ?_;rw[compTurn_list];refine Aa (Qh (Aa (Fo (P n s C) (λr y M=>?_) λ_ _ h'=>h'.elim)));cases r with
 | none=>exact Af M
 | some v=>
  refine Aa (Fo M (λ_ s₀ h₀=>?_) λ_ _ h'=>h'.elim);refine Aa (Fo h₀ (λ_ t k=>Aa (Fo k (λok a g=>?_) λ_ _ h'=>h'.elim)) λ_ _ h'=>h'.elim);cases ok with
  | false=>exact Af ⟨rfl,g⟩
  | true=>
   exact Aa (Aa (Fo g (λx e j=>Aa (Fo j (λ_ f i=>Af (Af ⟨rfl,i⟩)) λ_ _ h'=>h'.elim)) λ_ _ h'=>h'.elim))
end
def iB(X:Cx)(ifs:List Cb)(t:TT):Prop:=
 ∀(pins:Pn) (s:Ah) (Z:St) (H:Hp) (Q:Bool->Hp->Prop),Inv X pins Z H s->t Z H Q->
  X.a (forIn ifs true λc r=>if r=true then do let ok <-Tg c X.env (El c X.env);pure (ForInStep.yield ok) else pure (ForInStep.yield r)) (TP X pins Z Q) X.xe s
def VG:TT:=λ_ H Q=>Q true H
theorem VH:iB X [] VG:=λ_ _ _ H _ I h=>wpAny_tests_nil ⟨H,I,h⟩
theorem VI(h:PT X c t):iB X [c] t:=λpins s Z H Q I hw=>wpAny_tests_one (h pins s Z H Q I hw)
def xA(J:It)(g:TG)(tt:TT)(te:TE)(p:Aj)(σ₀:St)(H1:Hp)(Q:VK):Prop:=
 ∃W:Nat->Nat->St->List V->Hp->Prop,(∃m,W 0 m σ₀ [] (aN H1 p (.lst [])))/\∀i m l acc H,W i m l acc H->
  (J.stop i H/\Q (.ref p) H)\/(J.go i H/\∃N:St->List V->Hp->Prop,(∀f D j,N f D j->∃a,a<m/\W (i+1) a f D j)/\∀x j,J.yld i H x j->g x l j λf z=>tt f z λb w=>
   if b=true then te f w λy k=>k p=some (.lst acc)/\acc.length<Ao/\N f (acc++[y]) (aN k p (.lst (acc++[y])))
   else N f acc w)
def xB(wi:TI)(g:jX->TG)(tt:jX->TT)(te:jX->TE)(js:List (Option Nat)):TE:=λZ H Q=>wi Z H λJ H1=>∀p,H1 p=none->∀B:jX,xA J (g B) (tt B) (te B) p (cmap js Z) H1 Q
section
variable {X:Cx}{sc:Jp}{N':List Aw}{js:List (Option Nat)}{tg iter elt:Cb}{ifs:List Cb}{pos:Gy}{wi:TI}{g:jX->TG}{tt:jX->TT}{te:jX->TE}
theorem DX(S:nC N' sc X.env.scope)(hj:fA N' X.N sc js N'=true)(hc:X.calm=true)(hg:∀B,PG (dO X sc N' B) tg (g B))(ht:∀B,iB (dO X sc N' B) ifs (tt B))(he:∀B,PE (dO X sc N' B) elt (te B)){tn:Nat->Cr->Prop}(I:Inv X pins Z H s)(T:iT X.prog X.w X.K tg J fp it tn)(st:tn 0 s.heap)(hf:∀b∈fp,gF X pins H b)(hw:∀p,H p=none->∀B:jX,xA J (g B) (tt B) (te B) p (cmap js Z) H Q){E:Ae->Ah->Prop}{RR:Ae->Aj->Tn->Ah->Prop}(hRR:∀p C H' s' m,Inv X pins Z H' s'->gF X pins H' C->s'.heap.Ns C m->Q (.ref p) H'->RR (.ref p) C (.ok .next) s'):
  X.a (newList []) (λacc s₃=>X.a (newFunctionEnv sc X.env.globals (fY X.env.cells sc.names []) [] X.env.qual none .none (some X.env)) (λcenv s₄=>
   Mr X.m X.A (.compStart (.ListComp elt [⟨tg,iter,ifs,0⟩] sc pos) 0 (.ref it) acc {cenv with scope:=relabel sc X.env}) (RR acc cenv.locals) s₄) E s₃) E s:=by
 refine Cz (wpAny_newFunctionEnv S.nocell (by intro y hy;simp at hy) (λh1 hns1 hsb1=>?_) S.kind);dsimp only at hns1 hsb1⊢;generalize hH2:s.heap.push {cls:=.type "list",dict:=none,data:=.seq ([]:List Ae).toArray} = H2 at hns1 hsb1⊢;have hC:H2.objs.size=s.heap.objs.size+1:=by rw[<-hH2,Gk]
 have hDC:s.heap.objs.size≠H2.objs.size:=by rw[hC];exact Bo (Jk _)
 have hCle:s.heap.objs.size<=H2.objs.size:=by rw[hC];exact Fz _
 have below:∀b,b<s.heap.objs.size->b≠H2.objs.size:=λb hb=>by rw[hC];exact Bo (Qf hb)
 have old:∀b o,s.heap.get? b=some o->h1.get? b=some o:=λb o e=>hsb1.extBut b o (below b (Bh e)) (Ag _ (hH2▸Ag _ e));have hacc:h1.get? s.heap.objs.size=some {cls:=.type "list",dict:=none,data:=.seq ([]:List Ae).toArray}:=hsb1.extBut _ _ hDC (Ag _ (hH2▸Au _ rfl));have hp0:H s.heap.objs.size=none:=I.hok.fresh (Ai _);have newO:b9 X.prog X.w (aN H s.heap.objs.size (.lst [])) h1 s.heap.objs.size (.lst []):=⟨Ea _,[],_,.nil,hacc⟩;have hok1:cG X.prog X.w (aN H s.heap.objs.size (.lst [])) h1:=I.hok.laid old (Ai _) newO;have un1:Un (dX X.stack) fp H (aN H s.heap.objs.size (.lst [])) s.heap h1:=Un.laid old (Ai _) hp0;have fC:(aN H s.heap.objs.size (.lst [])) H2.objs.size=none:=by rw[bB (Bq hDC)];exact I.hok.fresh hCle
 have IB:=VE (tk:=s.toks+([]:List (Aw×Ae)).length) S hj I hf (λb hb=>let ⟨o,e,_⟩:=T.obj 0 _ st b hb;⟨o,e⟩) hCle old un1 hok1 hns1 fC;obtain⟨W,⟨m0,w0⟩,turn⟩:=hw _ hp0 ⟨fY X.env.cells sc.names [],s,H,fp,H2.objs.size⟩;have st1:tn 0 h1:=T.keep _ _ _ st λb _ o e=>old b o e;have loop:∀s₃:Ah,s₃ = {s with heap:=h1,toks:=s.toks+([]:List (Aw×Ae)).length}->
   Mr X.m X.A (.compLoop (.ListComp elt [⟨tg,iter,ifs,0⟩] sc pos) 0 (.ref it) (.ref s.heap.objs.size) (compEnvC sc (fY X.env.cells sc.names []) H2.objs.size X.env))
    (RR (.ref s.heap.objs.size) H2.objs.size) s₃:=by
  rintro s₃ rfl;generalize hB:(⟨fY X.env.cells sc.names [],s,H,fp,H2.objs.size⟩:jX)=B at turn w0 IB;have eB:compEnvC sc (fY X.env.cells sc.names []) H2.objs.size X.env=(dO X sc N' B).env:=by subst hB;rfl
  have exB:(dO X sc N' B).ex=fp:=by subst hB;rfl
  rw[eB];have stat:∀{σ':St} {H':Hp} {s':Ah},Inv (dO X sc N' B) [] σ' H' s'->(∀b∈fp,H' b=none)->∀b∈fp,gF (dO X sc N' B) [] H' b:=λ{σ' H' s'} J' hn b hb=>by
   refine⟨hn b hb,(J'.ok.exf b (by rw[exB];exact hb)).1,J'.ok.exfs b (by rw[exB];exact hb),.inl (by rw[exB];exact hb),(J'.ok.exf b (by rw[exB];exact hb)).2,λp hp=>absurd (show p∈([]:List (Aj×Lc)) from hp) (by simp)⟩
  have fp0:∀b∈fp,(aN H s.heap.objs.size (.lst [])) b=none:=λb hb=>by
   obtain⟨o,e,_⟩:=T.obj 0 _ st b hb;rw[bB (Bo (Bh e))];exact(hf b hb).1
  refine VF (λn s'=>∃i σ' acc H',Inv (dO X sc N' B) [] σ' H' s'/\tn i s'.heap/\(∀b∈fp,H' b=none)/\W i n σ' acc H') ?_ m0 ⟨0,_,[],_,IB,st1,fp0,w0⟩;rintro n s3 ⟨i,σ3,acc,H3,I3,st3,fr3,w3⟩;rcases turn i n σ3 acc H3 w3 with⟨stop,qn⟩|⟨go,N,hN,step⟩
  .refine aY (T.done (dO X sc N' B) rfl rfl rfl hc i [] s3 σ3 H3 (λ_ _=>False) I3 (stat I3 fr3) st3 stop) λr s4 ⟨hr,I4⟩=>?_;subst hr;obtain⟨m4,hn4,_⟩:=I4.loc;have u4:Un (dX X.stack) fp H H3 s.heap s4.heap:=by have:=I4.base;subst hB;exact this
   have o4:s4.os=s.os:=by have:=I4.os;subst hB;exact this
   have c4:(dO X sc N' B).env.locals=H2.objs.size:=by subst hB;rfl
   have hIX:Inv X pins Z H3 s4:=I.call' (ch:=fp) o4 u4 I4.hok I4.bare λb hb=>⟨(hf b hb).2.2.2.1,(hf b hb).2.1,(hf b hb).2.2.2.2.1,(hf b hb).2.2.2.2.2⟩
   exact hRR _ _ H3 s4 m4 hIX (I.fpOk hCle (by rw[<-c4];exact I4.free)) (by rw[<-c4];exact hn4) qn
  .refine aY (T.item (dO X sc N' B) rfl rfl rfl hc i [] s3 σ3 H3 (λ_ _=>False) I3 (stat I3 fr3) st3 go) λr s4 ⟨u,hr,h4⟩=>?_;subst hr;refine aY h4 λ_ s5 ⟨x,H5,I5,r5,y5,st5,fr5⟩=>?_;have I5':=I5.pinned (stat I5 fr5) (T.obj _ _ st5);refine aY (hg B _ s5 σ3 H5 x u _ I5' r5 (step x H5 y5)) λ_ s6 ⟨σ6,H6,I6,q6⟩=>?_;refine aY (ht B _ s6 σ6 H6 _ I6 q6) λok s7 ⟨H7,I7,q7⟩=>?_;have again:∀{H8:Hp} {s8:Ah} {acc':List V},Inv (dO X sc N' B) ([]++p7 fp s5.heap) σ6 H8 s8->(∃m',m'<n/\W (i+1) m' σ6 acc' H8)->∃m,m<n/\∃i σ' acc H',Inv (dO X sc N' B) [] σ' H' s8/\tn i s8.heap/\(∀b∈fp,H' b=none)/\W i m σ' acc H':=
    λ{H8 s8 acc'} I8 ⟨m',hm,w8⟩=>by
     refine⟨m',hm,i+1,σ6,acc',H8,I8.unpinned,T.keep _ _ _ st5 λb hb o e=>(I8.pin (b,o) (Bs _ (Bs _ (sJ hb e)))).1,λb hb=>?_,w8⟩;obtain⟨o,e,d⟩:=T.obj _ _ st5 b hb;exact(I8.pin (b,o) (Bs _ (Bs _ (sJ hb e)))).2.1
   cases ok with
   | false=>
    rw[Uv Av]at q7;rw[Uv Av];exact again I7 (hN _ _ _ q7)
   | true=>
    rw[Uw rfl]at q7;rw[Uw rfl];refine aY (he B _ s7 σ6 H7 _ I7 q7) λy s8 ⟨z,H8,I8,r8,hp8,hl8,q8⟩=>?_;exact aY (DH _ s8 σ6 H8 (.ref s.heap.objs.size) [z] (.ref s.heap.objs.size) [y] (λ_ H9=>N σ6 (acc++[z]) H9) I8 rfl (.cons r8 .nil) ⟨_,acc,z,rfl,rfl,hp8,hl8,q8⟩) λ_ s9 ⟨_,H9,I9,_,q9⟩=>again I9 (hN _ _ _ q9)
 exact codeAny_compStart_list (loop _ rfl) (T.self _ 0 _ _ _ st1 (loop _ rfl))
theorem VJ(N':List Aw)(js:List (Option Nat))(hi:PI X tg iter wi)(V:∀B,PG (dO X sc N' B) tg (g B))(ht:∀B,iB (dO X sc N' B) ifs (tt B))(P:∀B,PE (dO X sc N' B) elt (te B))(f:nD N' sc X.env.scope=true:=by kernel_rfl)(D:fA N' X.N sc js N'=true:=by kernel_rfl)(hc:X.calm=true:=by rfl)(F:∀x,Gx iter X.env x=pure x:=by intro _;rfl):PE X (.ListComp elt [⟨tg,iter,ifs,0⟩] sc pos) (xB wi g tt te js):=by
 intro pins s Z H Q I h;have S:=nC.of f;rw[eval_ListComp];refine wpAny_comprehension_free (use:=none) rfl F (DW (w9 S I)) S.kind S.loc (aY (hi pins s Z H _ I h) λr y M=>aY M λc t k=>?_);obtain⟨it,fp,E,J,z,e,i,T,a,l,hw⟩:=k;subst e;refine DX (RR:=λacc C=>compPost X.m X.A X.xe none (EP X pins Z Q) acc C) S D hc V ht P i T a l hw ?_;intro p C j W m n d U q;refine⟨m,U,λh' K=>⟨.ref p,j,?_,rfl,q⟩⟩;exact n.turned (t':=W.toks) (λb o Y e=>(K.2 b Y).trans e) d.1 d.2.1 d.2.2.2.1 d.2.2.2.2.1 d.2.2.2.2.2
theorem DY{i:Nat}(V:X.N.Nodup)(hi0:X.N[i]? = some x)(U:Loc X.env.scope x)(N':List Aw)(js:List (Option Nat))(hi:PI X tg iter wi)(N:∀B,PG (dO X sc N' B) tg (g B))(ht:∀B,iB (dO X sc N' B) ifs (tt B))(P:∀B,PE (dO X sc N' B) elt (te B))(S0:nD N' sc X.env.scope=true:=by kernel_rfl)(L:fA N' X.N sc js N'=true:=by kernel_rfl)(hc:X.calm=true:=by rfl)(w:Ig (.ListComp elt [⟨tg,iter,ifs,0⟩] sc pos) (some (.Name x c)) u.line X.env=pure true:=by rfl)(hf:Fy X x:=by first|exact .inl rfl|exact .inr rfl|assumption)(F:∀x,Gx iter X.env x=pure x:=by intro _;rfl):PS X (.Assign [.Name x c] (.ListComp elt [⟨tg,iter,ifs,0⟩] sc pos) u) (sI (xB wi g tt te js) (wC i)):=by
 intro pins s Z H D I h;have S:=nC.of S0;rw[exec_Assign_Name_used _ _ _ _ w];refine Aa (Qh (Aa ?_));show Bl _ X.A (do let _ <-comprehension (.ListComp elt [⟨tg,iter,ifs,0⟩] sc pos) sc X.env _ (newList []) false (El iter X.env) (some (Nw (.Name x c) X.env))) _ _ s;refine Aa (Fo (wpAny_comprehension_free (use:=some (Nw (.Name x c) X.env)) (Q:=λ_ W=>SP X pins D .next W) rfl F (DW (w9 S I)) S.kind S.loc
  (aY (hi pins s Z H _ I h) λxv y M=>aY M λitv t k=>?_)) (λ_ W G=>Af (Af G)) λ_ _ e=>e)
 obtain⟨it,fp,E,J,O,e,R,T,st2,r,hw⟩:=k;subst e;refine DX (RR:=λacc C=>compPost X.m X.A X.xe (some (Nw (.Name x c) X.env)) (λ_ W=>SP X pins D .next W) acc C) S L hc N ht P R T st2 r hw ?_;intro p C j W m n d f q;show Bl _ X.A (Nw (.Name x c) X.env (.ref p)) _ _ _;refine wpAny_assign_Name (B6 n V hi0 U (v:=.ref p) rfl (λs'' I'' ⟨a,sb,l⟩=>?_) hf);have hCa:C≠a:=by
  rcases l with e|e
  .rw[e];exact d.2.1
  .exact λz=>d.2.2.2.2.1 x a e z.symm
 refine⟨m,f.sameBut sb hCa,λh' K=>⟨_,j,?_,q⟩⟩;exact I''.turned (t':=s''.toks) (λb o Y e=>(K.2 b Y).trans e) d.1 d.2.1 d.2.2.2.1 d.2.2.2.2.1 d.2.2.2.2.2
end
section
variable {g:TG}{tt:TT}{te:TE}{p:Aj}{σ₀:St}{H1:Hp}{Q:VK}
theorem VL(n:Nat)(r:Nat->St->List V->Hp->Prop)(Y:r 0 σ₀ [] (aN H1 p (.lst [])))(hd:∀Z acc H,r n Z acc H->J.stop n H/\Q (.ref p) H)(F:∀i Z acc H,i<n->r i Z acc H->J.go i H/\∀x j,J.yld i H x j->g x Z j λf z=>tt f z λb w=>
   if b=true then te f w λy k=>k p=some (.lst acc)/\acc.length<Ao/\r (i+1) f (acc++[y]) (aN k p (.lst (acc++[y]))) else r (i+1) f acc w):xA J g tt te p σ₀ H1 Q:=by
 refine⟨λi m Z acc H=>m=n-i/\i<=n/\r i Z acc H,⟨n,by simp,Ea _,Y⟩,?_⟩;rintro i m Z acc H ⟨rfl,hi,q⟩
 by_cases a:i<n
 .obtain⟨X,K⟩:=F i Z acc H a q;exact .inr ⟨X,r (i+1),λf D j S=>⟨n-(i+1),by lia,rfl,a,S⟩,K⟩
 .have e:i=n:=by lia
  subst e;exact .inl (hd Z acc H q)
end
section
variable {X:Cx}
theorem DZ{i:Int}(h:i.natAbs<2 ^ 4096):Builtin.Int.intBits i<=2 ^ 20:=by
 unfold Builtin.Int.intBits;split
 .exact Ea _
 .rename_i Y;have U:i.natAbs≠0:=by
   intro z;have:i=0:=Int.natAbs_eq_zero.mp z;rw[this]at Y;exact Y rfl
  have:i.natAbs.log2<4096:=(Sy U).mpr h;have e:(2:Nat) ^ 20=1048576:=by decide
  lia
def sZ(i j:Int):Prop:=i.natAbs<2 ^ 4096/\j.natAbs<2 ^ 4096
theorem VM:bC X (Ee .Mult) (rI sZ λi j=>.int (i*j)):=oK λ_ _ _ _ _ _ _ hc q=>mul_int q (IntMulOk.of_bits (DZ hc.1) (DZ hc.2))
def D0(i j:Int):Prop:=0<j/\j<2 ^ 4096
theorem VN:bC X (Ee .FloorDiv) (rI D0 λi j=>.int (i/j)):=oK λi j _ _ _ _ _ hc q=>by
 refine floordiv_int (by have:=hc.1;lia) ?_ (.inl (PyProof.noPylong_of_log2 ?_))
 .rw[Int.fdiv_eq_ediv_of_nonneg _ (Int.le_of_lt hc.1)];exact q
 .have Y:j.natAbs≠0:=by have:=hc.1;lia
  have O:j.natAbs<2 ^ 4096:=by
   have a:=hc.1;have b:=hc.2;lia
  have:=(Sy Y).mpr O;lia
theorem VO:bC X (Ee .Mult) (λx y H Q=>∃z n,x=.str z/\y=.int n/\z.length<=16/\-(2 ^ 63)<=n/\n<=1048576/\Q (.str (Hy z n)) H):=by
 intro pins s Z H x y v u Q I d L h;obtain⟨z,n,rfl,rfl,O,Y,f,q⟩:=h;obtain⟨t,rfl⟩:=d;obtain⟨t',rfl⟩:=L;exact SB.mul (mulOk_of 16 1048576 O f Y (by decide) (by decide)) λt' k=>⟨.str _,H,I.tok _,⟨_,rfl⟩,q⟩
theorem VP:e9 X "str.upper" (λx vs H Q=>∃z,x=.str z/\vs=[]/\z.length<=5592405/\Q (.str (Qs z)) H):=by
 intro pins s Z H x xs v us Q I d T h;obtain⟨z,rfl,rfl,hz,q⟩:=h;obtain⟨t,rfl⟩:=d;have:=T.zero;subst this;exact SC.upper (fit_upper hz) ⟨.str _,H,I.tok _,⟨_,rfl⟩,q⟩
theorem VQ:e9 X "str.partition" (λx vs H Q=>∃z y,x=.str z/\vs=[.str y]/\(y.length==0)=false/\z.length<=Ao/\
  ∀p,H p=none->Q (.ref p) (aN H p (.tup [.str (Cw z y).1,.str (Cw z y).2.1,.str (Cw z y).2.2]))):=by
 intro pins s Z H x xs v us Q I d T h;obtain⟨z,y,rfl,rfl,K,hz,q⟩:=h;obtain⟨t,rfl⟩:=d;obtain⟨u,rfl,ru⟩:=T.one;obtain⟨t',rfl⟩:=ru;refine Ks F.slot_str_partition (Ue _ _ _) F.entry_str_partition (F.args_str_partition_2 _ _) (meets_str_partition z y t t' K hz) ?_;have S:=q s.heap.objs.size (I.hok.fresh (Ai _));have fin:∀(a b c:Aw) (j g tc:Tj) (tk:Nat),Q (.ref s.heap.objs.size) (aN H s.heap.objs.size (.tup [.str a,.str b,.str c]))->
   EP X pins Z Q (.ref s.heap.objs.size) {s with toks:=tk,heap:=s.heap.push {cls:=.type "tuple",data:=.seq [.str a j,.str b g,.str c tc].toArray}}:=λa b c j g tc tk f=>
  ⟨.ref s.heap.objs.size,_,I.laid (o:=.tup [.str a,.str b,.str c]) (t':=tk) (λb o e=>Ag _ e) (Ai _)
   ⟨by show 3<=Ao;decide,[.str a j,.str b g,.str c tc],.cons ⟨_,rfl⟩ (.cons ⟨_,rfl⟩ (.cons ⟨_,rfl⟩ .nil)),⟨_,Au _ rfl,rfl,_,rfl⟩⟩,rfl,f⟩
 unfold Cw at S
 revert S
 cases Jg z y 0 z.length 1 with
 | nil=>intro S;exact fin _ _ _ _ _ _ _ S
 | cons i r=>intro S;exact fin _ _ _ _ _ _ _ S
theorem all_range{bs:List Bool}:(Cd bs.length).all (λi=>bs.getD i false)=bs.all id:=by
 induction bs with
 | nil=>rfl
 | cons b r E=>
  rw[Bu,List.range_succ_eq_map,Jv,Nu,Jv];have:((λi=>(b::r).getD i false) ∘ Nat.succ)=λi=>r.getD i false:=by
   funext i;simp[Tt]
  rw[this,E];simp
theorem any_range{bs:List Bool}:(Cd bs.length).any (λi=>bs.getD i false)=bs.any id:=by
 induction bs with
 | nil=>rfl
 | cons b r E=>
  rw[Bu,List.range_succ_eq_map,Er,Lw,Er];have:((λi=>(b::r).getD i false) ∘ Nat.succ)=λi=>r.getD i false:=by
   funext i;simp[Tt]
  rw[this,E];simp
theorem tB(g:Bool)(hc:X.calm=true):cM X (.builtin (cond g "any" "all")) (λxs H Q=>∃(p:Aj) (bs:List Bool),xs=[.ref p]/\bH X.K H p (bs.map V.bl)/\Q (.bl (cond g (bs.any id) (bs.all id))) H):=by
 cases g
 all_goals
  intro pins s Z H xs us Q I r h;obtain⟨p,bs,rfl,N,q⟩:=h;obtain⟨u,rfl,ru⟩:=vals1 r;cases ru;obtain⟨its,T,pl,hz⟩:=I.list N;have a:p<s.heap.objs.size:=by obtain⟨_,e,_⟩:=pl.isList;exact Bh e
  first
   | refine call_all_walk (Ky pl.isList ?_)
   | refine call_any_walk (Ky pl.isList ?_)
  have O:X.A.in1.handled=none:=I.ok.hd hc;refine⟨s.heap.objs.size,[s.heap.objs.size,p],[s.heap.objs.size],its.toArray.size,(λi v=>its.toArray[i]? = some v),_,(λi=>bs.getD i false),rfl,Sw O s.heap.objs.size p (Bo a) its.toArray,
   ⟨⟨_,Au _ rfl,rfl,rfl⟩,pl.isList.push _⟩,?_,λh' tk hk=>?_⟩
  .intro i v W f k c j;have d:its[i]? = some v:=by simpa using c
   have hi:i<its.length:=(An.mp d).1;have hl:=T.length;rw[Ab]at hl;have Y:bs[i]? = some (bs.getD i false):=by
    have l:i<bs.length:=by lia
    simp[Tt,Bp l]
   obtain⟨u,J,ru⟩:=T.get (i:=i) (x:=.bl (bs.getD i false)) (by rw[Ap,Y];rfl);rw[d]at J;cases J;cases (show v=Value.bool (bs.getD i false) from ru);exact Af j
  .have hl:=T.length;rw[Ab]at hl;rw[Bj,<-hl]
   first
    | rw[all_range]
    | rw[any_range]
   first
    | refine⟨.bl (bs.all id),H,?_,rfl,q⟩
    | refine⟨.bl (bs.any id),H,?_,rfl,q⟩
   exact I.kept (t':=tk) λb o t=>hk b o (λz=>by
    have:b=s.heap.objs.size:=by simpa using z
    exact absurd (Bh t) (by rw[this];exact Im _)) (Ag _ t)
def xD(z:Aw):It:=⟨λi _=>i<z.cps.size,λi H x j=>j=H/\∃c,z.cps.toList[i]? = some c/\x=.str ⟨#[c]⟩,λi _=>z.cps.size<=i⟩
theorem D4{P:Ar}{w:Bk}{K:Ac}{x:Aw}{u:Gy}(z:Aw)(it:Aj)(ty:String)(a:Tj)(nx:∀(A:Cn) (s:Ah) (i c:Nat) (Q:Option Ae->Ah->Prop) (E:Ae->Ah->Prop),s.heap.IsStrIter it ty z a i->z.cps[i]? = some c->
   (∀h',h'.IsStrIter it ty z a (i+1)->Eh it s.heap h'->Q (some (.str ⟨#[c]⟩ s.toks)) {s with heap:=h',toks:=s.toks+1})->Bl (Cq P w) A (Hg (.ref it)) Q E s)(en:∀(A:Cn) (s:Ah) (i:Nat) (Q:Option Ae->Ah->Prop) (E:Ae->Ah->Prop),A.handled=none->s.heap.IsStrIter it ty z a i->z.cps[i]? = none->
   (∀h',Ov it s.heap h'->Q none {s with heap:=h'})->Bl (Cq P w) A (Hg (.ref it)) Q E s)(j:∀(A:Cn) (i:Nat) (s:Ah) (Q:Ae->Ah->Prop) (E:Ae->Ah->Prop),s.heap.IsStrIter it ty z a i->Q (.ref it) s->Bl (Cq P w) A (Rh (.ref it)) Q E s):
  iT P w K (.Name x u) (xD z) [it] it (λi h=>h.IsStrIter it ty z a i) where
 mem:=by simp
 obj:=λi h st b Y=>by
  have e:b=it:=by simpa using Y
  subst e;obtain⟨o,D,_,hd⟩:=st;exact⟨o,D,λv q=>by rw[hd]at q;cases q⟩
 keep:=λi h h' st k=>by
  obtain⟨o,D,r⟩:=st;exact⟨o,k it (by simp) o D,r⟩
 item:=by
  intro X g hw B hc i pins s Z H E I hf st W;subst g hw B;obtain⟨R,V,l,f,M,G⟩:=hf it (by simp);have hi:z.cps[i]? = some z.cps[i]:=Array.getElem?_eq_getElem W;refine nx X.A s i _ _ _ st hi λh' F sb=>?_;have L:Inv X pins Z H {s with heap:=h',toks:=s.toks+1}:=I.turned (λb o Y e=>(sb.2 b Y).trans e) R V f M G;exact⟨_,rfl,Af ⟨.str ⟨#[z.cps[i]]⟩,H,L,⟨_,rfl⟩,⟨rfl,z.cps[i],by rw[Fg];exact hi,rfl⟩,F,λb Y=>(hf b Y).1⟩⟩
 done:=by
  intro X g hw B hc i pins s Z H E I hf st W;subst g hw B;obtain⟨R,V,l,f,M,G⟩:=hf it (by simp);have d:z.cps.size<=i:=W;exact en X.A s i _ _ (I.ok.hd hc) st (Array.getElem?_eq_none d) λh' t=>⟨rfl,I.turned (t':=s.toks) (λb o Y e=>t b o Y e) R V f M G⟩
 self:=j
theorem D5{E:Ae->Ah->Prop}(G:l≠it):∀(n i:Nat) (s:Ah) (Q:List Ae->Ah->Prop),s.heap.IsListIter it l i->s.heap.IsList l items->i+n<=items.size->
  (∀h',h'.IsListIter it l (i+n)->Eh it s.heap h'->Q ((items.toList.drop i).take n) {s with heap:=h'})->Bl (Cq prog w) A (draw (.ref it) n) Q E s
 | 0,i,s,Q,p,_,_,H=>by
  show Bl _ _ (pure []) Q E s;exact Af (by simpa using H s.heap p (Heap.SameBut.refl ..))
 | n+1,i,s,Q,p,ht,m,H=>by
  have a:i<items.size:=by lia
  show Bl _ _ (Hg (.ref it)>>=_) Q E s;refine Aa (wpAny_pyNext_list_item p ht (x:=items[i]) (by simp[a]) λM f d=>?_);refine Aa (Dh (D5 G n (i+1) _ _ f (ht.extBut d.extBut G) (by lia) λk b c=>Af ?_));have hd:items.toList.drop i=items[i]::items.toList.drop (i+1):=by simp[Jl,a]
  have:=H k (by rw[show i+(n+1)=i+1+n by lia];exact b) (d.trans c);rw[hd,List.take_succ_cons]at this;exact this
theorem VR{prog:Ar}{w:Bk}{A:Cn}{E:Ae->Ah->Prop}{s:Ah}{t:Aj}{items:Array Ae}{c:List (Bool×(Ae->Rw Unit))}{Q:Unit->Ah->Prop}(hh:A.handled=none)(ht:s.heap.IsList t items)(U:c.length=items.size)(j:c.findIdx? (·.1)=none)(h:∀h',Ov s.heap.objs.size s.heap h'->Bl (Cq prog w) A (assignInOrder (c.map (·.2)) items.toList) Q E {s with heap:=h'}):
  Bl (Cq prog w) A (unpack (.ref t) c) Q E s:=by
 have a:t≠s.heap.objs.size:=by obtain⟨o,D,_⟩:=ht;exact Bo (Bh D)
 unfold unpack;rw[U,j];refine Aa (Dh ?_);unfold unpackItems;refine Aa ?_;unfold notIterableAtAll;refine Aa (Hu ht.typeIs F.slot_list_iter.lookup ?_);refine Af ?_;simp only[Cm,if_false];refine Aa (Dh (Ky ht ?_));refine Aa (Dh (D5 a items.size 0 _ _ ⟨_,Au _ rfl,rfl,rfl⟩ (ht.push _) (by lia) λM f d=>?_));have C:List.take items.size (List.drop 0 items.toList)=items.toList:=by
  rw[List.drop_zero];exact Ko (by simp)
 rw[C];rw[Uv (by simp)];have g:M.IsList t items:=(ht.push _).extBut d.extBut a;refine Aa (Dh (wpAny_pyNext_list_end hh f g (by simp) λk i=>?_));simp only[Option.isSome_none,Cm,if_false];refine Af (h k λb o Y e=>i b o Y (d.extBut b o Y (Ag _ e)))
def VS(K:Ac)(n:Nat)(t:jD):TG:=λv Z H Q=>∃a xs,v=.ref a/\bH K H a xs/\xs.length=n/\t xs Z H Q
theorem D6{k:Nat}{n:Nat}(hc:X.calm=true)(h:iI X es t)(U:(Hn es X.env).length=n:=by rfl)(j:(Hn es X.env).findIdx? (·.1)=none:=by rfl):PG X (.Tuple es k pos) (VS X.K n t):=by
 intro pins s Z H v u Q I r hw;obtain⟨a,xs,T,N,hl,hw⟩:=hw;subst T;cases r;obtain⟨its,R,ht,hz⟩:=I.list N;rw[PyProof.Rows.assign_Tuple];refine Aa (Qh (VR (I.ok.hd hc) ht.isList (by simp[U,<-hl,R.length]) j λh' S=>?_));have L:Inv X pins Z H {s with heap:=h'}:=I.kept (t':=s.toks) λb o e=>S b o (Bo (Bh e)) e;exact h pins _ Z H xs _ Q L (by simpa using R) hw
end
abbrev iC:Aw:="ABCDEFGHIJKLMNOPQRSTUVWXYZ"
abbrev lP:Aw:="0123456789"
abbrev kG:Aw:="abcdefghijklmnopqrstuvwxyz"
def cs(z:Aw):List Nat:=z.cps.toList
def kH(z g:Aw):Bool:=(!decide (V.str z=V.str ""))&&(cs z).all λc=>decide (c∈cs g)
def iW(z:Aw):Bool:=(decide (V.str (Cw z "_").2.1=V.str "")||kH (Cw z "_").2.2 lP)&&kH (Cw z "_").1 iC
theorem xE(h:cs x=cs y):x=y:=by
 obtain⟨x⟩:=x;obtain⟨y⟩:=y;exact congrArg Str.mk (Array.toList_inj.mp h)
theorem qG(x:Aw):(cs x).length=x.length:=by unfold cs Str.length;simp
theorem oR(x y:Aw):cs (x++y)=cs x++cs y:=by
 show(x.cps++y.cps).toList=_;rw[Pb];rfl
theorem D7:cs "" = []:=by decide +kernel
theorem D8(z:Aw):decide (V.str z=V.str "")=decide (cs z=[]):=by
 by_cases h:z = ""
 .subst h;simp[D7]
 .rw[Uz (λe=>h (V.str.inj e)),Uz];intro e;exact h (xE (e.trans D7.symm))
theorem qH(z g:Aw):kH z g=(!decide (cs z=[])&&(cs z).all λc=>decide (c∈cs g)):=by unfold kH;rw[D8]
theorem D9:("_" : Aw)=⟨#[95]⟩:=by decide +kernel
theorem EA:cs "_" = [95]:=by decide +kernel
theorem EB(h:95∉cs z):Cw z "_" = (z,Qt,Qt):=by
 rw[D9];rcases partition_whole z ⟨#[95]⟩ with⟨e,_⟩|⟨i,_,hi,_⟩
 .exact e
 .exact absurd ((mem_iff_at z 95).mpr ⟨i,hi⟩) h
theorem EC(z:Aw)(i j:Nat):cs (Oc z i j)=((cs z).drop i).take (j-i):=by
 show(z.cps.extract i j).toList=_;rw[Array.toList_extract];rfl
theorem VT(e:cs z=cs a++95::cs b)(h:95∉cs a):Cw z "_" = (a,("_" : Aw),b):=by
 have hz:z.length=(cs a).length+1+(cs b).length:=by
  rw[<-qG,e,Ak,Bu];lia
 rw[D9];rcases partition_whole z ⟨#[95]⟩ with⟨_,U⟩|⟨i,B,hi,U⟩
 .have J:95∈cs z:=by rw[e];simp
  obtain⟨j,D⟩:=(mem_iff_at z 95).mp J;exact absurd D (U j)
 .have O:(cs z)[i]? = some 95:=(StrLaws.subAt_one z 95 i).mp hi;have Z:∀k,k<i->(cs z)[k]?≠some 95:=λk hk q=>U k hk ((StrLaws.subAt_one z 95 k).mpr q);have l:i=(cs a).length:=by
   rcases Nat.lt_trichotomy i (cs a).length with q|q|q
   .rw[e,List.getElem?_append_left q]at O;exact absurd (Ay O) h
   .exact q
   .refine absurd ?_ (Z (cs a).length q);rw[e,Jb (Ai _)];simp
  rw[B];have Q:Oc z 0 i=a:=by
   apply xE;rw[EC,List.drop_zero,e,l,Nat.sub_zero,List.take_left'];rfl
  have t:Oc z (i+(⟨#[95]⟩:Aw).length) z.length=b:=by
   apply xE;have f:(⟨#[95]⟩:Aw).length=1:=rfl;rw[EC,f,e,l,hz];have d:(cs a++95::cs b).drop ((cs a).length+1)=cs b:=by
    rw[List.drop_append];simp
   rw[d];have:(cs a).length+1+(cs b).length-((cs a).length+1)=(cs b).length:=by lia
   rw[this,Br]
  rw[Q,t]
theorem VU(Y:cs z≠[])(h:∀c∈cs z,c∈cs iC):iW z=true:=by
 have d:95∉cs z:=λm=>absurd (h _ m) (by decide +kernel);unfold iW;rw[EB d];dsimp only;rw[D8];have e:cs Qt=[]:=by decide +kernel
 simp only[e,decide_true,Bool.true_or,Pk];rw[qH,Uz Y,Gf.mpr λc hc=>Uy (h c hc)];rfl
theorem VW(e:cs z=cs a++95::cs b)(Y:cs a≠[])(h:∀c∈cs a,c∈cs iC)(O:cs b≠[])(Z:∀c∈cs b,c∈cs lP):iW z=true:=by
 have d:95∉cs a:=λm=>absurd (h _ m) (by decide +kernel);unfold iW;rw[VT e d,qH,qH];rw[Uz Y,Gf.mpr λc hc=>Uy (h c hc),Uz O,Gf.mpr λc hc=>Uy (Z c hc)];simp
theorem VX(Y:cs z≠[])(h:∀c∈cs z,c∈cs kG):iW z=false:=by
 have d:95∉cs z:=λm=>absurd (h _ m) (by decide +kernel);unfold iW;rw[EB d,qH,qH];have hh:((cs z).all λc=>decide (c∈cs iC))=false:=by
  cases hz:cs z with
  | nil=>exact absurd hz Y
  | cons c r=>
   have hc:c∈cs kG:=h c (by rw[hz];simp);have U:c∉cs iC:=by
    have key:∀c∈cs kG,c∉cs iC:=by decide +kernel
    exact key c hc
   rw[Jv,Uz U,Md]
 rw[hh];simp
theorem ED{m:Nat}:(∀c∈cs (Bv (toString ((m:Nat):Int))),c∈cs lP)/\cs (Bv (toString ((m:Nat):Int)))≠[]:=by
 have e:=PySem.W.KIN.signs_num m;have e:cs (Bv (toString ((m:Nat):Int)))=(Hq 10 m).map Td:=e;constructor
 .intro c hc;rw[e]at hc;obtain⟨ch,hch,rfl⟩:=Bc.mp hc;have hd:ch.isDigit=true:=Nat.isDigit_of_mem_toDigits (by decide) (by decide) hch;have:48<=ch.toNat/\ch.toNat<=57:=by
   unfold Char.isDigit at hd;simp only[Cy,decide_eq_true_eq]at hd;exact⟨hd.1,hd.2⟩
  have key:∀k,48<=k->k<=57->k∈cs lP:=by
   intro k h1 h2;have:k=48\/k=49\/k=50\/k=51\/k=52\/k=53\/k=54\/k=55\/k=56\/k=57:=by lia
   rcases this with h|h|h|h|h|h|h|h|h|h<;>subst h<;>decide +kernel
  exact key _ this.1 this.2
 .rw[e];intro z;have:Hq 10 m=[]:=Gv.mp z;have hl:0<(Hq 10 m).length:=by
   by_cases h:m<10
   .rw[Nm h];simp
   .have hm:m % 10<10:=Nat.mod_lt m (by decide);have t:Hq 10 (m/10)++Hq 10 (m % 10)=Hq 10 (10*(m/10)+m % 10):=Nat.toDigits_append_toDigits (by decide) (by lia) hm;rw[Nat.div_add_mod]at t;rw[<-t,Nm hm];simp
  rw[this]at hl;exact absurd hl (by simp)
def Below(d s:Int):Prop:=0<=d/\d<s
abbrev Drawn:List Int->List Int->Prop:=Ff Below
theorem VY{a k:Int}(Y:0<=a)(O:a<10 ^ 40)(Z:0<=k)(f:k<=1000):(a*48271+3 ^ 60*(k+1)*(k+1)+k).natAbs<2 ^ 200:=by
 have t:(3:Int) ^ 60=42391158275216203514294433201:=by decide
 have T:(10:Int) ^ 40=10000000000000000000000000000000000000000:=by decide
 have G:(2:Nat) ^ 200=1606938044258990275541962092341162602522202993782792835301376:=by decide
 rw[t,G];rw[T]at O;have m1:(k+1)*(k+1)<=1001*1001:=Int.mul_le_mul (by lia) (by lia) (by lia) (by lia);have m0:0<=(k+1)*(k+1):=Int.mul_nonneg (by lia) (by lia);rw[Int.mul_assoc];generalize (k+1)*(k+1)=q at m1 m0;lia
theorem EE{i j:Int}{m n:Nat}(hi:i.natAbs<2 ^ m)(D:j.natAbs<2 ^ n):(i*j).natAbs<2 ^ (m+n):=by
 rw[Int.natAbs_mul,Nat.pow_add];exact Nat.mul_lt_mul'' hi D
theorem VZ{i j:Int}{m:Nat}(hi:i.natAbs<2 ^ m)(D:j.natAbs<2 ^ m):(i+j).natAbs<2 ^ (m+1):=by
 rw[Nat.pow_succ,Nat.mul_two];exact Fl (Int.natAbs_add_le i j) (Nat.add_lt_add hi D)
theorem xF{i:Nat}{m n:Nat}(h:i<2 ^ m)(J:m<=n):i<2 ^ n:=Bx h (Nat.pow_le_pow_right (by decide) J)
section
variable {X:Cx}
def EF(d:Ng):Prop:=d.canLay0=true/\d.depth<=60
theorem qI:∀{xs:List V} {us:List Ae},xs.length=us.length->(∀(j:Nat) (u:Ae),us[j]? = some u->∃x,xs[j]? = some x/\RelV x u)->aX xs us
 | [],[],_,_=>.nil
 | [],_::_,h,_=>by simp at h
 | _::_,[],h,_=>by simp at h
 | x::xs,u::us,h,k=>by
  obtain⟨y,e,r⟩:=k 0 u rfl;simp at e;subst e;exact .cons r (qI (by simpa using h) λj v c=>by
   obtain⟨y,e,r⟩:=k (j+1) v (by simpa using c);exact⟨y,by simpa using e,r⟩)
theorem xG:∀{kvs:List (aB×V)} {vs:List (aB×Ae)} {j:Nat} {k:aB} {x:Ae},KV kvs vs->vs[j]? = some (k,x)->∃v,kvs[j]? = some (k,v)
 | _,_,_,_,_,.nil,e=>by simp at e
 | _,_,0,_,_,.cons (a:=p) r _,e=>by
  simp at e;subst e;exact⟨p.2,by obtain⟨a,b⟩:=p;cases r.1;rfl⟩
 | _,_,j+1,k,x,.cons _ t,e=>by
  obtain⟨v,q⟩:=xG (j:=j) (k:=k) (x:=x) t (by simpa using e);exact⟨v,by simpa using q⟩
theorem tD(h:mX k v=true):RelV (kV k) v:=by
 rcases jT h with⟨i,t,rfl,rfl⟩|⟨x,t,rfl,rfl⟩
 .exact⟨t,rfl⟩
 .exact⟨t,rfl⟩
theorem V0(hc:X.calm=true):cM X (.type "list") (λxs H Q=>∃d kvs,xs=[.ref d]/\H d=some (.dK kvs)/\∀l,H l=none->Q (.ref l) (aN H l (.lst (kvs.map λg=>kV g.1)))):=by
 intro C s m H xs us Q I r h;obtain⟨d,kvs,rfl,hd,q⟩:=h;obtain⟨u,rfl,ru⟩:=vals1 r;cases ru;obtain⟨hz,G,vs,A,P⟩:=(show b9 X.prog X.w H s.heap d (.dK kvs) from I.hok d _ hd);obtain⟨ep,t⟩:=P.dictAt;have hl:=A.length;refine PySem.W.kdl_call (PySem.W.kdl_dict (knd:=bQ X.prog X.w) (kvs:=vs) (ep:=ep) G) (I.ok.hd hc) t (by rw[<-hl];exact hz) λh' tk D M hk L N=>?_;refine⟨.ref s.heap.objs.size,_,I.laid (o:=.lst (kvs.map λg=>kV g.1)) (t':=tk) hk (Ai _) ⟨by rw[Ab];exact hz,D.toList,M,?_,by rw[Ho];exact L⟩,rfl,q _ (I.hok.fresh (Ai _))⟩;refine qI (by have O:=N.1;have Z:D.toList.length=D.size:=Gu;have f:(kvs.map λg=>kV g.1).length=kvs.length:=Ab ..;lia) λj v c=>?_;obtain⟨k,x,S,B⟩:=N.2 j v (by rw[<-Fg];exact c);obtain⟨y,K⟩:=xG A S;exact⟨kV k,by rw[Ap,K];rfl,tD B⟩
theorem EG{n:Nat}(i:Nat)(h:i≠0):n+i≠n:=by lia
theorem kI{n a:Nat}(i:Nat)(h:a<n):a≠n+i:=by lia
theorem xH{n a:Nat}(h:a<n):a≠n:=by lia
theorem EH{n:Nat}(i:Nat):n<=n+i:=by lia
theorem V1:Cs "zip" = some (.type "zip"):=by decide +kernel
end
section
variable {X:Cx}
def xI(K:Ac)(a:Aj)(xs:List V):It:=
 ⟨λi H=>bH K H a xs/\i<xs.length,
   λi H x j=>∃p u,xs[i]? = some u/\H p=none/\x=.ref p/\j=aN H p (.tup [.int (i:Nat),u]),
   λi H=>bH K H a xs/\xs.length<=i⟩
theorem Inv.laidT{C:Pn}{g:St}{H:Hp}{s:Ah}{fp:List Aj}{p:Cr}{tk:Nat}{xs:List V}{its:List Ae}(I:Inv X C g H s)(hf:∀b∈fp,gF X C H b)(j:∀q o,q∉fp->s.heap.get? q=some o->p.get? q=some o)(hz:xs.length<=Ao)(T:aX xs its)(F:p.get? s.heap.objs.size=some {cls:=.type "tuple",data:=.seq its.toArray}):
  Inv X C g (aN H s.heap.objs.size (.tup xs)) {s with heap:=p,toks:=tk}:=by
 have l:H s.heap.objs.size=none:=I.hok.fresh (Ai _);have A:∀q∈fp,H q=none:=λq N=>(hf q N).1;refine I.step (g':=s.gens) (d':=s.drawn) (t':=tk) (ch:=fp) (λq N=>⟨(hf q N).2.2.2.1,(hf q N).2.1,(hf q N).2.2.2.2.1,(hf q N).2.2.2.2.2⟩)
  (λq o _ _ hc e _=>j q o hc e) (λq o _ _ hc e _=>⟨o.slots,j q o hc e⟩) (λq o _ e n=>by rw[bB (Bo (Bh e))];exact n)
  (λq o hc e=>⟨o,j q o hc e⟩) (λq d e=>by rw[bB (eO e l)];exact e) (λq o d e=>by rw[bB (eO e l)];exact e) (λq ps e=>⟨#[],by rw[bB (eO e l),e];simp⟩) (λm J=>?_) ?_ I.bare
 .obtain⟨o,es,ep,D,r⟩:=J;exact⟨o,es,ep,j _ o (λz=>absurd rfl (hf _ z).2.1) D,r⟩
 .intro q o e
  by_cases N:q=s.heap.objs.size
  .subst N;rw[b8]at e;cases e;exact⟨hz,its,T,⟨_,F,rfl,_,rfl⟩⟩
  .rw[bB N]at e;refine(I.hok q o e).stay (λt P ht f=>j t P (λz=>?_) f) (λt f=>by rw[bB (eO f l)];exact f) λt d f=>by rw[bB (eO f l)];exact f
   have a:=A t z;rcases ht with rfl|ht
   .rw[a]at e;cases e
   .rw[a]at ht;cases ht
theorem Inv.turnedT{C:Pn}{g:St}{H:Hp}{s:Ah}{fp:List Aj}{p:Cr}{tk:Nat}(I:Inv X C g H s)(hf:∀b∈fp,gF X C H b)(j:∀q o,q∉fp->s.heap.get? q=some o->p.get? q=some o):Inv X C g H {s with heap:=p,toks:=tk}:=by
 have A:∀q∈fp,H q=none:=λq N=>(hf q N).1;refine I.step (g':=s.gens) (d':=s.drawn) (t':=tk) (ch:=fp) (λq N=>⟨(hf q N).2.2.2.1,(hf q N).2.1,(hf q N).2.2.2.2.1,(hf q N).2.2.2.2.2⟩)
   (λq o _ _ hc e _=>j q o hc e) (λq o _ _ hc e _=>⟨o.slots,j q o hc e⟩) (λq o _ e n=>n)
   (λq o hc e=>⟨o,j q o hc e⟩) (λq d e=>e) (λq o d e=>e) (λq ps e=>⟨#[],by rw[e];simp⟩) (λm J=>?_) ?_ I.bare
 .obtain⟨o,es,ep,D,r⟩:=J;exact⟨o,es,ep,j _ o (λz=>absurd rfl (hf _ z).2.1) D,r⟩
 .intro q o e;refine(I.hok q o e).stay (λt P ht f=>j t P (λz=>?_) f) (λt f=>f) λt d f=>f;have a:=A t z;rcases ht with rfl|ht
  .rw[a]at e;cases e
  .rw[a]at ht;cases ht
theorem V2{P:Ar}{w:Bk}{K:Ac}{es:List Cb}{W:Nat}{r:Gy}(a e it:Aj)(xs:List V)(G:e≠it):
  iT P w K (.Tuple es W r) (xI K a xs) [e,it] e (λi h=>(∃old,IsEnum h e it (i:Nat) old)/\h.IsListIter it a i) where
 mem:=by simp
 obj:=λi h st c hc=>by
  obtain⟨⟨old,O⟩,⟨A,h4,_,R⟩⟩:=st;simp only[Bd,Hd,or_false]at hc;rcases hc with rfl|rfl
  .exact⟨_,O,λv q=>by cases q⟩
  .exact⟨_,h4,λv q=>by rw[R]at q;cases q⟩
 keep:=λi h h' st k=>by
  obtain⟨⟨old,O⟩,⟨A,h4,t⟩⟩:=st;exact⟨⟨old,k e (by simp) _ O⟩,⟨A,k it (by simp) _ h4,t⟩⟩
 item:=by
  intro X g hw B hc i C s m H E I hf st Z;subst g hw B;obtain⟨⟨old,O⟩,h4⟩:=st;obtain⟨d,hi⟩:=Z;obtain⟨its,T,pl,hz⟩:=I.list d;obtain⟨u,J,ru⟩:=T.get (Bp hi);refine wpAny_pyNext_enum_item O h4 pl.isList (x:=u) (by simpa using J) G λh' Q U D y hk=>?_;refine⟨_,rfl,wpAny_letOwnedTupleGo_enum Q λp M sb=>?_⟩;have l:H s.heap.objs.size=none:=I.hok.fresh (Ai _);have n:e<s.heap.objs.size:=Bh O;have b:it<s.heap.objs.size:=by obtain⟨_,q,_⟩:=h4;exact Bh q
  have j:∀q o,q∉[e,it]->s.heap.get? q=some o->p.get? q=some o:=λq o N eq=>by
   simp only[Bd,Hd,or_false,not_or]at N;exact(sb.2 q N.1).trans (hk q o N.1 N.2 eq)
  have F:p.get? s.heap.objs.size=some {cls:=.type "tuple",data:=.seq [.int (i:Nat) s.toks,u].toArray}:=(sb.2 _ (Co n)).trans D;have L:Inv X C m (aN H s.heap.objs.size (.tup [.int (i:Nat),xs[i]])) {s with heap:=p,toks:=s.toks+1}:=I.laidT (its:=[.int (i:Nat) s.toks,u]) hf j (by show 2<=Ao;decide) (.cons ⟨_,rfl⟩ (.cons ru .nil)) F;refine⟨.ref s.heap.objs.size,_,L,rfl,⟨s.heap.objs.size,xs[i],Bp hi,l,rfl,rfl⟩,⟨⟨u,by rw[Rf];exact M⟩,U.extBut sb.extBut G.symm⟩,λq N=>?_⟩;rw[bB]
  .exact(hf q N).1
  .intro eq;subst eq;simp only[Bd,Hd,or_false]at N;rcases N with q|q
   .exact Co n q
   .exact Co b q
 done:=by
  intro X g hw B hc i C s m H E I hf st Z;subst g hw B;obtain⟨⟨old,O⟩,h4⟩:=st;obtain⟨d,S⟩:=Z;obtain⟨its,T,pl,hz⟩:=I.list d;have f:=T.length;refine wpAny_pyNext_enum_end (I.ok.hd hc) O h4 pl.isList (by simp;lia) λh' hk=>⟨rfl,?_⟩
  exact I.turnedT (tk:=s.toks) hf λq o N eq=>hk q o (λz=>N (by simp[z])) eq
 self:=λ_ _ _ _ _ st h=>by
  obtain⟨⟨old,O⟩,_⟩:=st;exact Nr O h
def V3(K:Ac)(j:TA):TI:=λm H R=>j m H λvs G=>∃a xs,vs=[.ref a]/\bH K G a xs/\R (xI K a xs) G
theorem V4{a:Cb}{j:TA}{p pos:Gy}{es:List Cb}{W:Nat}{c:Gy}(Z:Gl X "enumerate")(J:X.mg "enumerate" = none)(l:PA X [a] j)(F:Cj [a] X.env=[(false,El a X.env)]:=by rfl):
  PI X (.Tuple es W c) (.Call (.Name "enumerate" p) [a] [] pos) (V3 X.K j):=by
 intro C s m H R I h;refine Call_ (iA I Z J boot_enumerate (Cg (aY (l pos C s m H _ I h) λus M ⟨vs,G,L,B,f⟩=>?_) F rfl));obtain⟨a,xs,rfl,d,q⟩:=f;obtain⟨u,rfl,ru⟩:=vals1 B;cases ru;obtain⟨its,g,pl,hz⟩:=L.list d;refine call_enumerate_list pl.isList λh' A Y V k=>?_;refine Nr A ?_;refine⟨M.heap.objs.size+1,[M.heap.objs.size+1,M.heap.objs.size],_,_,G,rfl,L.kept (t':=M.toks) k,V2 a _ _ xs (EG 1 (by decide)),⟨⟨_,A⟩,Y⟩,λq N=>?_,q⟩;have b:M.heap.objs.size<=q:=by
  simp only[Bd,Hd,or_false]at N;rcases N with e|e
  .rw[e];exact EH 1
  .rw[e];exact Ai _
 exact L.fpOk b (L.hok.fresh b)
end
section
variable {prog:Ar}{w:Bk}{A:Cn}{E:Ae->Ah->Prop}{s:Ah}
inductive nE(prog:Ar)(w:Bk)(hh:Cr)(A0:Cn):List Ae->List Int->Nat->Prop
 | nil:nE prog w hh A0 [] [] 0
 | cons {v:Ae} {vs:List Ae} {i:Int} {is:List Int} {d n:Nat} (h:∀(E:Ae->Ah->Prop) (s:Ah) (Q:Int->Ah->Prop),s.heap=hh->Q i {s with toks:=s.toks+d}->Bl (Cq prog w) A0 (pyHash v) Q E s) (t:nE prog w hh A0 vs is n):nE prog w hh A0 (v::vs) (i::is) (d+n)
theorem V5{a:Aj}{o:Lc}{items:Array Ae}{n m:Nat}{is:List Int}{Q:Int->Ah->Prop}(J:A.units<Ex)(D:s.heap.get? a=some o)(j:o.cls=.type "tuple")(hd:o.data=.seq items n)(hi:nE prog w s.heap A.in1 items.toList is m)(h:Q (Uh (Ei is)) {s with toks:=s.toks+(m+1)}):Bl (Cq prog w) A (pyHash (.ref a)) Q E s:=by
 have I:s.TypeIs (.ref a) "tuple":=⟨o,D,j⟩;unfold pyHash
 first|unfold pyHashByItsType|skip
 first|refine Aa (wpAny_cRoomFor_or (.inr J) ?_)|skip
 refine Aa (Hu I Js.lookup ?_);rw[Uv (by rw[beq_builtin_none];exact Av)];refine Aa (Hu I Js.lookup ?_);refine Aa (wpAny_callSpecialIfBoundUnlessNone?_slot I Js (Ck Js I PySem.F.entry_tuple_hash ?_ (PySem.F.args_tuple_hash_1 _)));refine Aa (Af ?_);refine Aa (Hm D hd ?_);refine Aa ?_;rw[<-Jz];refine Jw _
  (λrest (b:Array Int) W=>∃done left k B,is=done++left/\nE prog w s.heap A.in1 rest left B/\b.toList=done/\W = {s with toks:=s.toks+k}/\k+B=m)
  _ ?_ ?_ _ _ ⟨[],is,0,m,rfl,hi,rfl,rfl,by lia⟩
 .rintro x rest b W ⟨done,left,k,B,rfl,hl,Y,rfl,hk⟩;cases hl with
  | @cons _ _ i e d c S f=>
   refine Aa (S _ _ _ rfl ?_)
   first
    | exact Af ⟨done++[i],e,k+d,c,by simp,f,by simp[Y],by simp[Pm],by lia⟩
    | exact Aa (Af (Af ⟨done++[i],e,k+d,c,by simp,f,by simp[Y],by simp[Pm],by lia⟩))
 .rintro b W ⟨done,left,k,B,rfl,hl,Y,rfl,hk⟩;cases hl;rw[Dc]at h;dsimp only;rw[Y];have u:k=m:=by lia
  subst u;refine wpAny_ret_mkInt ?_;unfold Uh at h
  by_cases g:(decide (-(2:Int) ^ 63<=Ei done)&&decide (Ei done<2 ^ 63))=true
  .rw[Uw g]at h;show Bl _ _ (if (decide (-(2:Int) ^ 63<=Ei done)&&decide (Ei done<2 ^ 63))=true then _ else _) Q E _;rw[Uw g];exact Af (by simpa [Pm] using h)
  .rw[Uv g]at h;show Bl _ _ (if (decide (-(2:Int) ^ 63<=Ei done)&&decide (Ei done<2 ^ 63))=true then _ else _) Q E _;rw[Uv g];exact Aa (Ga (Af (by simpa [Pm] using h)))
inductive kJ(prog:Ar)(w:Bk)(hh:Cr)(A0:Cn):List Ae->List Ae->Bool->Prop
 | nil:kJ prog w hh A0 [] [] true
 | cons {u v:Ae} {us vs:List Ae} {b c:Bool} (h:∀(E:Ae->Ah->Prop) (s:Ah) (Q:Bool->Ah->Prop),s.heap=hh->Q b s->Bl (Cq prog w) A0 (eqBool u v) Q E s) (t:kJ prog w hh A0 us vs c):kJ prog w hh A0 (u::us) (v::vs) (b&&c)
theorem kJ.len{b:Bool}(h:kJ prog w hh A0 us vs b):us.length=vs.length:=by
 induction h with
 | nil=>rfl
 | cons _ _ E=>simp[E]
theorem V6{M nb:Nat}{r:Bool}{Q:Bool->Ah->Prop}(J:A.units<Ex)(k:s.heap.get? a=some y)(H:y.cls=.type "tuple")(D:y.data=.seq xs M)(t:s.heap.get? b=some ob)(x:ob.cls=.type "tuple")(o:ob.data=.seq B nb)(hi:kJ prog w s.heap A.in1 xs.toList B.toList r)(same:a=b->r=true)(h:Q r s):Bl (Cq prog w) A (eqBool (.ref a) (.ref b)) Q E s:=by
 have d:s.TypeIs (.ref a) "tuple":=⟨y,k,H⟩;have j:s.TypeIs (.ref b) "tuple":=⟨ob,t,x⟩;unfold eqBool
 try with_reducible refine Dh ?_
 show Bl _ _ (if (Value.ref a==Value.ref b)=true then _ else _) Q E s
 by_cases i:(Value.ref a==Value.ref b)=true
 .rw[Uw i];have e:a=b:=by have:=eq_of_beq i;injection this
  rw[same e]at h;exact Aa (Ga (Af h))
 .rw[Uv i];refine Aa (Mp (op:=.Eq) d j Km (Ck Km d PySem.F.entry_tuple_eq ?_ (PySem.F.args_tuple_eq_2 _ _)) J);show Bl _ _ (Qq (.ref b) (.type "tuple")>>=_) _ _ s;refine Aa (Fq j Jc ?_);simp only[Ha,Cm,if_false];refine Aa (Hm k D ?_);refine Aa (Hm t o ?_);refine Aa ?_;refine Jw _
   (λrest q W=>q.1=none/\W=s/\∃us vs c,rest=List.zip us vs/\kJ prog w s.heap A.in1 us vs c/\c=r)
   _ ?_ ?_ _ _ ⟨rfl,rfl,xs.toList,B.toList,r,rfl,hi,rfl⟩
  .rintro⟨u,v⟩ rest q W ⟨N,rfl,us,vs,c,hz,P,rfl⟩;cases P with
   | nil=>simp at hz
   | @cons z C K n l m S g=>
    simp only[Lz,Dk,Ic]at hz;obtain⟨⟨rfl,rfl⟩,rfl⟩:=hz;refine Aa (S _ _ _ rfl ?_);cases l with
    | true=>
     simp only[Ha,Cm,if_false];exact Af ⟨rfl,rfl,K,n,m,rfl,g,by rw[Pk]⟩
    | false=>
     simp only[Mc,if_true];rw[Md]at h;exact Aa (Af (Af (Af ⟨_,rfl,(λe=>nomatch e),Je h⟩)))
  .rintro⟨f,p⟩ W ⟨N,rfl,us,vs,c,hz,P,rfl⟩;simp only at N;subst N;refine Af ?_;have hsz:(xs.size==B.size)=true:=by
    have:=hi.len;simp at this;simpa using this
   have hc:c=true:=by
    cases P with
    | nil=>rfl
    | cons _ _=>simp at hz
   subst hc;refine⟨_,rfl,(λe=>nomatch e),?_⟩;show Bl _ _ (truthOfDropped (.bool (xs.size==B.size))) Q E _;rw[hsz];exact Je h
theorem V7{K:Type}[DecidableEq K]{knd:KeyKind prog w K}{m:Nat}{ks:List K}{a:Aj}{Q:Bool->Ah->Prop}(hk:IsTupleKey knd s.heap ks a)(h:Q true s):Bl (Cq prog w) A (Us (m+1) (.ref a)) Q E s:=by
 have I:=hk.typeIs;obtain⟨o,items,n,D,x,hd,hi⟩:=hk;unfold Us;refine Aa (Hu I Km.lookup ?_)
 try dsimp only
 refine Aa (Fq I Jc ?_);rw[Uv (by decide)]
 try dsimp only
 refine Aa (Ed D hd (Aa ?_));show Bl _ _ (forIn items _ _) _ _ _;rw[<-Jz];refine Jw _ (λrest q W=>q.1=none/\W=s/\∀v∈rest,Sn v=true) _ ?_ ?_ _ _ ⟨rfl,rfl,hi.byValue⟩
 .rintro v rest q W ⟨N,rfl,C⟩;rw[eqIsQuiet_byValue _ (C v Bi)];refine Aa (Af ?_);rw[Uv (by decide)];exact Af ⟨rfl,rfl,λu b=>C u (Bb _ b)⟩
 .rintro⟨f,p⟩ W ⟨N,rfl,_⟩;simp only at N;subst N;exact Af h
end
abbrev bM:=aB×List aB
section
variable {prog:Ar}{w:Bk}
def tE(prog:Ar)(w:Bk)(tl:List Int)(h:Cr)(x:bM)(a:Aj):Prop:=
 ∃o items n v Y ts,h.get? a=some o/\o.cls=.type "tuple"/\o.data=.seq items n/\items.toList=v::.ref Y::ts/\(bQ prog w).is x.1 v=true/\IsTupleKey (bQ prog w) h x.2 Y/\ItemsAre (bQ prog w) (tl.map Sum.inl) ts
def V8(prog:Ar)(w:Bk)(tl:List Int)(x:bM):Int:=Uh (Ei ((bQ prog w).hash x.1::tupleKeyHash (bQ prog w) x.2::tl.map λi=>(bQ prog w).hash (Sum.inl i)))
theorem EI:∀{tl:List Int} {ts:List Ae},ItemsAre (bQ prog w) (tl.map Sum.inl) ts->nE prog w hh A ts (tl.map λi=>(bQ prog w).hash (Sum.inl i)) tl.length
 | [],_,h=>by cases h;exact .nil
 | i::tl,_,h=>by
  cases h with
  | @cons _ v _ vs O t=>
   have:=nE.cons (A0:=A) (hh:=hh) (d:=1) (λE s Q _ q=>(bQ prog w).pyHash O q) (EI t);rw[Bu,Nat.add_comm];exact this
theorem EJ:∀{tl:List Int} {ts us:List Ae},ItemsAre (bQ prog w) (tl.map Sum.inl) ts->ItemsAre (bQ prog w) (tl.map Sum.inl) us->kJ prog w hh A ts us true
 | [],_,_,h,h'=>by cases h;cases h';exact .nil
 | i::tl,_,_,h,h'=>by
  cases h with
  | @cons _ v _ vs O t=>
   cases h' with
   | @cons _ C _ n a t'=>exact kJ.cons (b:=true) (λE s Q _ q=>(bQ prog w).eqBool O a (by rw[Uy rfl];exact q)) (EJ t t')
theorem tE.inj(S:tE prog w tl h x a)(K:tE prog w tl h y a):x=y:=by
 obtain⟨o,items,n,v,Y,ts,T,_,t,g,B,Z,_⟩:=S;obtain⟨L,X,c,C,d,H,V,_,f,M,G,b,_⟩:=K;obtain rfl:o=L:=Ci (T.symm.trans V);rw[t]at f;injection f with g1 _;subst g1;rw[g]at M;simp only[Dk,Value.ref.injEq]at M;obtain⟨rfl,rfl,rfl⟩:=M;exact Oq ((bQ prog w).inj _ _ _ B G) (Z.inj b)
def iX(prog:Ar)(w:Bk)(tl:List Int):HeapKind prog w bM where
 is:=tE prog w tl
 hash:=V8 prog w tl
 draws:=λx=>(1+((x.2.length+1)+tl.length))+1
 room:=λA=>A.units+1<Ex
 inj:=λS K=>S.inj K
 keeps:=λ{h h' k a d o es ep} x D hd F=>by
  obtain⟨L,items,n,v,Y,ts,T,G,t,g,B,Z,e7⟩:=x;have j:a≠d:=by
   rintro rfl;obtain rfl:L=o:=Ci (T.symm.trans D);rw[hd]at t;exact nomatch t
  exact⟨L,items,n,v,Y,ts,(F.2 a j).trans T,G,t,g,B,Z.keeps D hd F,e7⟩
 pyHash:=λ{A E s k a Q} J hk h=>by
  obtain⟨o,items,n,v,Y,ts,T,G,t,g,B,Z,e7⟩:=hk;have hu1:A.in1.units<Ex:=J;refine V5 (Kt J) T G t (m:=1+((k.2.length+1)+tl.length)) (is:=(bQ prog w).hash k.1::tupleKeyHash (bQ prog w) k.2::tl.map λi=>(bQ prog w).hash (Sum.inl i)) ?_ h;rw[g];refine .cons (d:=1) (λE W Q' _ q=>(bQ prog w).pyHash B q) (.cons (d:=k.2.length+1) (λE W Q' es q=>?_) (EI e7));exact wpAny_pyHash_tuple hu1 (by rw[es];exact Z) q
 eqBool:=λ{A E s x y a b Q} J S K h=>by
  have same:a=b->x=y:=λe=>by subst e;exact S.inj K
  obtain⟨o,items,n,v,Y,ts,T,G,t,g,B,Z,e7⟩:=S;obtain⟨L,X,P,R,pa',H,V,l,U,M,O,f6,f7⟩:=K;have hu1:A.in1.units<Ex:=J;have er:(decide (x.1=y.1)&&(decide (x.2=y.2)&&true))=decide (x=y):=by
   rw[Bool.and_true,Dy,Cy,decide_eq_true_eq,decide_eq_true_eq,decide_eq_true_eq,Prod.ext_iff]
  refine V6 (Kt J) T G t V l U (r:=decide (x.1=y.1)&&(decide (x.2=y.2)&&true)) ?_ (λe=>by rw[er,same e];simp) (by rw[er];exact h);rw[g,M];refine .cons (λE W Q' _ q=>(bQ prog w).eqBool B O q) (.cons (λE W Q' es q=>?_) (EJ e7 f7));exact wpAny_eqBool_tuple hu1 (by rw[es];exact Z) (by rw[es];exact f6) q
 quiet:=λ{A E s k a Q} hk h=>by
  obtain⟨o,items,n,v,Y,ts,T,G,t,g,B,Z,e7⟩:=hk;have I:s.TypeIs (.ref a) "tuple":=⟨o,T,G⟩;unfold Us;refine Aa (Hu I Km.lookup ?_)
  try dsimp only
  refine Aa (Fq I Jc ?_);rw[Uv (by decide)]
  try dsimp only
  refine Aa (Ed T t (Aa ?_));show Bl _ _ (forIn items _ _) _ _ _;rw[<-Jz];refine Jw _ (λrest q W=>q.1=none/\W=s/\∀u∈rest,Sn u=true\/u=.ref Y) _ ?_ ?_ _ _ ⟨rfl,rfl,λu J=>?_⟩
  .rintro u rest q W ⟨N,rfl,C⟩;have next:∀z∈rest,Sn z=true\/z=.ref Y:=λz hu'=>C z (Bb _ hu');rcases C u Bi with c|rfl
   .rw[eqIsQuiet_byValue _ c];refine Aa (Af ?_);rw[Uv (by decide)];exact Af ⟨rfl,rfl,next⟩
   .refine Aa (V7 Z ?_);rw[Uv (by decide)];exact Af ⟨rfl,rfl,next⟩
  .rintro⟨f,p⟩ W ⟨N,rfl,_⟩;simp only at N;subst N;exact Af h
  .rw[g]at J;rcases Bd.mp J with rfl|J
   .exact .inl ((bQ prog w).byValue _ _ B)
   .rcases Bd.mp J with rfl|J
    .exact .inr rfl
    .exact .inl (e7.byValue u J)
end
section
open PySem.W
section
variable {prog:Ar}{w:Bk}{A:Cn}{E:Ae->Ah->Prop}{s:Ah}
theorem tF(v:Bool){i ep:Nat}{Q:Option Ae->Ah->Prop}(p:cond v (s.heap.IsValIter it d i es.size ep) (s.heap.IsKeyIter it d i es.size ep))(c:s.heap.get? d=some B)(C:B.data=.dict es ep)(hi:i<es.size)(H:∀h',cond v (h'.IsValIter it d (i+1) es.size ep) (h'.IsKeyIter it d (i+1) es.size ep)->Eh it s.heap h'->Q (some (cond v es[i].val es[i].key)) {s with heap:=h'}):Bl (Cq prog w) A (Hg (.ref it)) Q E s:=by
 cases v
 all_goals
  dsimp only[cond]at p H⊢;have I:=p.typeIs;obtain⟨o,D,hc,hd⟩:=id p;have f:¬((Value.ref d==Value.none)=true):=Av
  first
   | have up:(s.heap.update it (Ry (·.setIfInBounds 1 (Gz ((i:Int)+1))))).IsKeyIter it d (i+1) es.size ep:=
    ⟨_,Hi _ D (Ol (Ih hd _)),(Qd ..).trans hc,by rw[Ih hd];simp[Gz]⟩
   | have up:(s.heap.update it (Ry (·.setIfInBounds 1 (Gz ((i:Int)+1))))).IsValIter it d (i+1) es.size ep:=
    ⟨_,Hi _ D (Ol (Ih hd _)),(Qd ..).trans hc,by rw[Ih hd];simp[Gz]⟩
  have a:=up.typeIs (s:={s with heap:=s.heap.update it (Ry (·.setIfInBounds 1 (Gz ((i:Int)+1))))});unfold Hg
  first
   | refine Aa (Gm (Cp (name:=Bv "__next__") I Fi (Ck Fi I PySem.F.entry_dict_keyiterator_next ?_ (PySem.F.args_dict_keyiterator_next_1 _))))
   | refine Aa (Gm (Cp (name:=Bv "__next__") I Fd (Ck Fd I PySem.F.entry_dict_valueiterator_next ?_ (PySem.F.args_dict_valueiterator_next_1 _))))
  refine Aa (Af (Aa (Aa ?_)))
  first
   | refine Aa (Il I (Af ?_))|refine Aa (Ki I (Af ?_))
   | refine Aa (Ik I (Af ?_))|refine Aa (Kh I (Af ?_))
  refine Aa (wpAny_fieldsOf D hd ?_)
  first
   | rw[show Fv "dict_keyiterator" = false by decide]
   | rw[show Fv "dict_valueiterator" = false by decide]
  rw[Uv Av];show Bl _ _ (if (Value.ref d==Value.none)=true then _ else _) _ _ _;rw[Uv f];refine Aa (Af (Aa (Hx c C ?_)));rw[Uv (by simp)];refine Aa (Af (Aa (Pc c C ?_)));rw[Uv (by simp)];refine Af ?_;simp only[show ¬((i:Int)<0) by lia,if_false,Du,Array.getElem?_eq_getElem hi];refine Aa ?_
  first
   | refine Aa (Il I (Af ?_))|refine Aa (Ki I (Af ?_))
   | refine Aa (Ik I (Af ?_))|refine Aa (Kh I (Af ?_))
  first
   | refine Aa (wpAny_isOneOf_keyiter I ?_)
   | refine Aa (Pe I ?_)
  show Bl _ _ (setField (.ref it) 1 (Gz ((i:Int)+1))>>=_) _ _ _
  first
   | refine Aa (Na D hd (by simp) (Aa (Dh (Aa (wpAny_isOneOf_keyiter a ?_)))))
   | refine Aa (Na D hd (by simp) (Aa (Dh (Aa (Pe a (Aa (Pe a ?_)))))))
  first
   | show Bl _ _ (pure es[i].key) _ _ _
   | show Bl _ _ (pure es[i].val) _ _ _
  exact Af (Af ⟨_,rfl,Af (H _ up (Fm ..))⟩)
theorem tG(v:Bool){i ep:Nat}{Q:Option Ae->Ah->Prop}(hh:A.handled=none)(p:cond v (s.heap.IsValIter it d i es.size ep) (s.heap.IsKeyIter it d i es.size ep))(c:s.heap.get? d=some B)(C:B.data=.dict es ep)(hi:es.size<=i)(H:∀h',Ov it s.heap h'->Q none {s with heap:=h'}):Bl (Cq prog w) A (Hg (.ref it)) Q E s:=by
 cases v
 all_goals
  dsimp only[cond]at p H⊢;have I:=p.typeIs;obtain⟨o,D,hc,hd⟩:=id p;have f:¬((Value.ref d==Value.none)=true):=Av;unfold Hg
  first
   | refine Aa (Gm (Cp (name:=Bv "__next__") I Fi (Ck Fi I PySem.F.entry_dict_keyiterator_next ?_ (PySem.F.args_dict_keyiterator_next_1 _))))
   | refine Aa (Gm (Cp (name:=Bv "__next__") I Fd (Ck Fd I PySem.F.entry_dict_valueiterator_next ?_ (PySem.F.args_dict_valueiterator_next_1 _))))
  refine Aa (Af (Aa (Aa ?_)))
  first
   | refine Aa (Il I (Af ?_))|refine Aa (Ki I (Af ?_))
   | refine Aa (Ik I (Af ?_))|refine Aa (Kh I (Af ?_))
  refine Aa (wpAny_fieldsOf D hd ?_)
  first
   | rw[show Fv "dict_keyiterator" = false by decide]
   | rw[show Fv "dict_valueiterator" = false by decide]
  rw[Uv Av];show Bl _ _ (if (Value.ref d==Value.none)=true then _ else _) _ _ _;rw[Uv f];refine Aa (Af (Aa (Hx c C ?_)));rw[Uv (by simp)];refine Aa (Af (Aa (Pc c C ?_)));rw[Uv (by simp)];refine Af ?_;simp only[show ¬((i:Int)<0) by lia,if_false,Du,Array.getElem?_eq_none hi];refine Aa ?_
  first
   | refine Aa (Il I (Af ?_))|refine Aa (Ki I (Af ?_))
   | refine Aa (Ik I (Af ?_))|refine Aa (Kh I (Af ?_))
  show Bl _ _ (setField (.ref it) 0 .none>>=_) _ _ _;refine Aa (Na D hd (by simp) ?_);show Bl _ _ (Tf (.type "StopIteration") []>>=_) _ _ _;refine Aa ?_;simp only[Tf,newTuple];refine Aa (Cz (Aa (m:=Kz _ _) (Jn (a:=Value.none) (by first|rfl|(simp only[Kz];rfl)) (Cz ?_ (by size_fits)))) (by size_fits));simp only[raiseNew];refine Aa (Ss ?_);rw[show A.in1.handled=none from hh];refine Aa (Af (Tu ?_));refine Aa (Fq (T:="StopIteration") (b:=true) ⟨_,Au _ rfl,rfl⟩ Pr ?_);exact Af (H _ (((Fm ..).extBut.push _).push _))
theorem V9(hh:A.handled=none)(I d:Aj)(G:d≠I)(es:Array Ec)(ep:Nat):
  Walks prog w A I [I,d] [I] es.size (λi v=>∃e,es[i]? = some e/\v=e.key) (λi h=>h.IsKeyIter I d i es.size ep/\∃B,h.get? d=some B/\B.data=.dict es ep) where
 sub:=λb Y=>by simp at Y;simp[Y]
 frame:=λ_ _ _ st hk=>⟨st.1.at λo e=>hk I (by simp) o e,let ⟨B,O,Z⟩:=st.2;⟨B,hk d (by simp) B O,Z⟩⟩
 item:=λi s Q E hi st H=>by
  obtain⟨B,O,Z⟩:=st.2;refine tF false st.1 O Z hi λh' a K=>?_;exact H _ h' s.toks ⟨es[i],by simp[hi],rfl⟩ ⟨a,B,K.extBut d B G O,Z⟩ λb o Y e=>K.extBut b o (λh=>Y (by simp[h])) e
 done:=λs Q E st H=>by
  obtain⟨B,O,Z⟩:=st.2;exact tG false hh st.1 O Z (Ai _) λh' g=>H h' s.toks λb o Y e=>g b o (λh=>Y (by simp[h])) e
 self:=λ_ _ _ _ st H=>Pp st.1 H
theorem WA(hh:A.handled=none)(I d:Aj)(G:d≠I)(es:Array Ec)(ep:Nat):
  Walks prog w A I [I,d] [I] es.size (λi v=>∃e,es[i]? = some e/\v=e.val) (λi h=>h.IsValIter I d i es.size ep/\∃B,h.get? d=some B/\B.data=.dict es ep) where
 sub:=λb Y=>by simp at Y;simp[Y]
 frame:=λ_ _ _ st hk=>⟨st.1.at λo e=>hk I (by simp) o e,let ⟨B,O,Z⟩:=st.2;⟨B,hk d (by simp) B O,Z⟩⟩
 item:=λi s Q E hi st H=>by
  obtain⟨B,O,Z⟩:=st.2;refine tF true st.1 O Z hi λh' a K=>?_;exact H _ h' s.toks ⟨es[i],by simp[hi],rfl⟩ ⟨a,B,K.extBut d B G O,Z⟩ λb o Y e=>K.extBut b o (λh=>Y (by simp[h])) e
 done:=λs Q E st H=>by
  obtain⟨B,O,Z⟩:=st.2;exact tG true hh st.1 O Z (Ai _) λh' g=>H h' s.toks λb o Y e=>g b o (λh=>Y (by simp[h])) e
 self:=λ_ _ _ _ st H=>wpAny_pyIter_valiter st.1 H
def fZ(h:Cr)(a:Aj)(es:Array Ec)(ep:Nat):Prop:=∃o,h.get? a=some o/\o.ExactDict/\o.data=.dict es ep
theorem fZ.typeIs{ep:Nat}(h:fZ s.heap d es ep):s.TypeIs (.ref d) "dict":=let ⟨o,ho,hc,_⟩:=h;⟨o,ho,hc.1⟩
theorem fZ.at{ep:Nat}(x:fZ h d es ep)(e:∀o,h.get? d=some o->h'.get? d=some o):fZ h' d es ep:=let ⟨o,ho,r⟩:=x;⟨o,e o ho,r⟩
theorem fZ.lt{ep:Nat}(x:fZ h d es ep):d<h.objs.size:=let ⟨_,ho,_⟩:=x;Bh ho
theorem tH{d:Aj}{es:Array Ec}{ep:Nat}{Q:Ae->Ah->Prop}(hd:(d==Fc)=false)(J:fZ s.heap d es ep)(H:Q (.ref s.heap.objs.size) {s with heap:=s.heap.push {cls:=.type "dict_keyiterator",data:=.fields #[.ref d,.int 0 0,.int es.size 0,.int ep 0]}}):Bl (Cq prog w) A (Rh (.ref d)) Q E s:=by
 have I:=J.typeIs;obtain⟨o,D,hc,a⟩:=J;refine Qy I PySem.F.slot_dict_iter (Ck PySem.F.slot_dict_iter I PySem.F.entry_dict_iter ?_ (PySem.F.args_dict_iter_1 _));unfold Gg.«dict.__iter__»;refine Aa ?_;unfold Builtin.Dict.dictSlotNone;refine Aa (Gh I (Af ?_));show Bl _ _ (Jy d>>=_) _ _ _;unfold Jy;rw[Uv (by rw[hd];exact Av)];refine Aa (Af (Aa (Hx D a (Aa (Pc D a ?_)))));refine Aa (Cz (Af ⟨_,rfl,"dict_keyiterator",_,⟨_,Au _ rfl,rfl⟩,Fi.lookup,?_⟩));simpa [Gz] using H
theorem WB{ep:Nat}{Q:Ae->Ah->Prop}(c:s.heap.IsValuesView v d)(J:fZ s.heap d es ep)(H:Q (.ref s.heap.objs.size) {s with heap:=s.heap.push {cls:=.type "dict_valueiterator",data:=.fields #[.ref d,.int 0 0,.int es.size 0,.int ep 0]}}):Bl (Cq prog w) A (Rh (.ref v)) Q E s:=by
 have I:=c.typeIs;obtain⟨y,e,f,b⟩:=id c;obtain⟨o,D,hc,a⟩:=J;refine Qy I PySem.F.slot_dict_values_iter (Ck PySem.F.slot_dict_values_iter I PySem.F.entry_dict_values_iter ?_ (PySem.F.args_dict_values_iter_1 _));unfold Gg.«dict_values.__iter__»;refine Aa (Af (Aa ?_));unfold Builtin.Dict_items.dictOf;refine Aa (De e b (x:=.ref d) rfl (Af (Aa ?_)));unfold Builtin.Dict_items.newIterator;refine Aa (Hx D a (Aa (Pc D a ?_)));simp only[show Fv "dict_valueiterator" = false by decide,Cm,if_false];refine Cz (Af ⟨_,rfl,"dict_valueiterator",_,⟨_,Au _ rfl,rfl⟩,Fd.lookup,?_⟩);simpa [Gz] using H
theorem EK{ep:Nat}(lo:(d==Fc)=false):KdlSrc prog w "dict" d d es.size (λi v=>∃e,es[i]? = some e/\v=e.key) (λh=>fZ h d es ep) where
 type:=λ_ J=>J.typeIs
 there:=λ_ J=>⟨J.lt,J.lt⟩
 keep:=λ_ _ J hk=>J.at λo e=>hk d (.inl rfl) o e
 notList:=by decide
 notTuple:=by decide
 hint:=λ_ _ _ _ J N=>kdl_hint_dict J.typeIs N
 iter:=λ_ _ hh J=>⟨_,_,(λ_ _ N=>tH lo J N),V9 hh _ d (Bo J.lt) es ep,⟨⟨_,Au _ rfl,rfl,rfl⟩,let ⟨o,ho,_,hd⟩:=J;⟨o,Ag _ ho,hd⟩⟩⟩
theorem WC{ep:Nat}:KdlSrc prog w "dict_values" r d es.size (λi v=>∃e,es[i]? = some e/\v=e.val) (λh=>h.IsValuesView r d/\fZ h d es ep) where
 type:=λ_ J=>J.1.typeIs
 there:=λ_ J=>⟨let ⟨_,ho,_⟩:=J.1;Bh ho,J.2.lt⟩
 keep:=λ_ _ J hk=>⟨let ⟨o,ho,x⟩:=J.1;⟨o,hk r (.inl rfl) o ho,x⟩,J.2.at λo e=>hk d (.inr rfl) o e⟩
 notList:=by decide
 notTuple:=by decide
 hint:=λ_ _ _ _ J N=>kdl_hint_values J.1.typeIs N
 iter:=λ_ _ hh J=>⟨_,_,(λ_ _ N=>WB J.1 J.2 N),WA hh _ d (Bo J.2.lt) es ep,⟨⟨_,Au _ rfl,rfl,rfl⟩,let ⟨o,ho,_,hd⟩:=J.2;⟨o,Ag _ ho,hd⟩⟩⟩
end
end
end L2
namespace PySem
namespace Rv
open L2
theorem WD:TypeCalled "reversed" "reversed.__new__" "object.__init__":=
 ⟨by decide +kernel,by decide +kernel,⟨_,_,F.mro_reversed⟩,madeBy_type F.mro_reversed F.lookup_reversed_new (by decide +kernel),by decide +kernel,F.sub_reversed_self,
  .of (owner:="object") (n:="__init__") (by rw[Iy,Gi];kernel_rfl) (by decide +kernel) (by decide +kernel) (by decide +kernel) (by first|exact .inl (by decide +kernel)|exact .inr (by decide +kernel)) (by rw[Pq];kernel_rfl)⟩
theorem WE:Oy (.type "tuple") "__reversed__" = pure none:=by rw[Iy,Gi];kernel_rfl
def rvObj(t:Aj)(i:Int):Lc:={cls:=.type "reversed",data:=.fields #[.ref t,Gz i]}
theorem WG(t:Aj)(items:Array Ae):
  Meets (Gg.«reversed.__new__» ⟨[.type "reversed",.ref t],[]⟩) (λ_ R s=>s.heap.IsTuple t items/\items.size<=Ao/\
   ∀l,R (.ok (.ret (.ref s.heap.objs.size))) {s with toks:=l,heap:=s.heap.push (rvObj t ((items.size:Int)-1))}):=
 .of_wp λprog w A R s h=>by
  obtain⟨B,g,d,tk,os⟩:=s;obtain⟨ht,hz,h⟩:=h;have u:=Heap.IsTuple.typeIs (s:=⟨B,g,d,tk,os⟩) ht;unfold Gg.«reversed.__new__»;refine Aa (Jn (newClass_reversed _) (by
   dsimp only;refine Aa (Jn (a:=()) rfl (Aa (Jn (a:=()) (by first|rfl|kernel_rfl) ?_)))
   try dsimp only
   refine Aa (Hu u WE (Aa ?_))
   wp_delta
   refine Aa (Fq (T:="tuple") (b:=false) u (by rw[Pq];kernel_rfl) ?_)
   try dsimp only
   rw[Uv (by decide)];refine Aa (Hu u F.slot_tuple_getitem.lookup ?_);generalize c:("tuple.__getitem__" : String)=id0;dsimp only;rw[Uw (by subst c;decide +kernel)];refine Af ?_;rw[Uv (by decide)];refine Aa (len_tuple (s:=⟨B,g,d,tk,os⟩) (t:=t) (items:=items) ht (by have:=kE;lia) (Aa (Jn (a:=some (items.size:Int)) rfl (Aa (m:=Builtin.SmallTypes.newRecord _ _) ?_))));unfold Builtin.SmallTypes.newRecord;dsimp only;exact Cz (Af ⟨_,rfl,h _⟩) (by first|size_fits|decide)))
section
variable {prog:Ar}{w:Bk}{A:Cn}{E:Ae->Ah->Prop}{s:Ah}
theorem call_rev{Q:Ae->Ah->Prop}(ht:s.heap.IsTuple t items)(hz:items.size<=Ao)(h:∀l,Q (.ref s.heap.objs.size) {s with toks:=l,heap:=s.heap.push (rvObj t ((items.size:Int)-1))}):Bl (Cq prog w) A (call (.type "reversed") [.ref t]) Q E s:=
 callType_new WD (by decide) (F.typeCall_reversed_1 _) (F.newCall_reversed_1 _) (λobj=>Pj obj _) F.entry_reversed_new (WG t items) ⟨ht,hz,λl=>⟨⟨_,Au _ rfl,rfl⟩,h l⟩⟩
theorem qJ:Slot "reversed" "__next__" "reversed.__next__":=
 .of (owner:="reversed") (n:="__next__") (by rw[Iy,Gi];kernel_rfl) (by decide +kernel) (by decide +kernel) (by decide +kernel) (by first|exact .inl (by decide +kernel)|exact .inr (by decide +kernel)) (by rw[Pq];kernel_rfl)
theorem EL:Slot "reversed" "__iter__" "reversed.__iter__":=
 .of (owner:="reversed") (n:="__iter__") (by rw[Iy,Gi];kernel_rfl) (by decide +kernel) (by decide +kernel) (by decide +kernel) (by first|exact .inl (by decide +kernel)|exact .inr (by decide +kernel)) (by rw[Pq];kernel_rfl)
theorem EM:Ua table "reversed.__next__" = some Gg.«reversed.__next__»:=entryFor_of_tree (by kernel_rfl)
theorem WH:Ua table "reversed.__iter__" = some Gg.«dict_keyiterator.__iter__»:=
 entryFor_alias (id':="dict_keyiterator.__iter__") (by kernel_rfl) (by first|rfl|decide +kernel) (by decide +kernel) (by kernel_rfl)
theorem EN:Manifest.owners.lookup (String.ofList ['d','e','s','r','e','v','e','r'].reverse)=some Manifest.sig_reversed:=by kernel_rfl
theorem EO(a:Ae):argsOk "reversed.__next__" ⟨[a],[]⟩:=by
 unfold argsOk;rw[signature?_of (id:="reversed.__next__") (n:=['_','_','t','x','e','n','_','_']) (o:=['d','e','s','r','e','v','e','r']) (by kernel_rfl) EN]
 kernel_rfl
theorem WI(a:Ae):argsOk "reversed.__iter__" ⟨[a],[]⟩:=by
 unfold argsOk;rw[signature?_of (id:="reversed.__iter__") (n:=['_','_','r','e','t','i','_','_']) (o:=['d','e','s','r','e','v','e','r']) (by kernel_rfl) EN]
 kernel_rfl
abbrev IsRv(h:Cr)(a t:Aj)(i:Int):Prop:=h.get? a=some {cls:=.type "reversed",dict:=none,data:=.fields #[.ref t,Gz i],slots:=#[]}
theorem nF{i:Int}(x:IsRv s.heap a t i):s.TypeIs (.ref a) "reversed":=⟨_,x,rfl⟩
theorem next_item{a t:Aj}{i:Nat}{items:Array Ae}{x:Ae}{Q:Option Ae->Ah->Prop}(g:IsRv s.heap a t i)(ht:s.heap.IsTuple t items)(S:items[i]? = some x)(hi:(i:Int)<2 ^ 63)(H:∀h' tk,IsRv h' a t ((i:Int)-1)->Eh a s.heap h'->Q (some x) {s with heap:=h',toks:=tk}):Bl (Cq prog w) A (Hg (.ref a)) Q E s:=by
 unfold Hg;refine Aa (Gm (Cp (name:=Bv "__next__") (nF g) qJ (Ck qJ (nF g) EM ?_ (EO _))));unfold Gg.«reversed.__next__»;refine Aa (Jn (a:=(Value.ref a,[])) rfl ?_);dsimp only;refine Aa (De g rfl (x:=.ref t) rfl (Aa (De g rfl (x:=Gz (i:Int)) rfl ?_)));show Bl _ _ (if (i:Int)<0 then _ else _) _ _ _;rw[Uv (by lia)];refine Aa (Hu ht.typeIs F.slot_tuple_getitem.lookup ?_);rw[Uv (by decide)];have C:i<items.size:=(Iz.mp S).1;have b:gJ items.size (i:Int)=some i:=by unfold gJ;rw[Uw (by lia),Uw (by lia),Du]
 refine Aa (wpAny_mkInt (Aa (Gm (getItem_tuple (j:=i) (x:=x) ht (by lia) hi (wR b).1 S ?_))));dsimp only;refine Aa (De (s:={s with toks:=s.toks+1}) g rfl (x:=Gz (i:Int)) rfl ?_);exact Aa (Ez (s:={s with toks:=s.toks+1}) g (by simp) λO B sb=>Af ⟨x,rfl,Af (H O _ B sb)⟩)
theorem next_end{a t:Aj}{Q:Option Ae->Ah->Prop}(hh:A.handled=none)(g:IsRv s.heap a t (-1))(H:∀h',Ov a s.heap h'->Q none {s with heap:=h'}):Bl (Cq prog w) A (Hg (.ref a)) Q E s:=by
 unfold Hg;refine Aa (Gm (Cp (name:=Bv "__next__") (nF g) qJ (Ck qJ (nF g) EM ?_ (EO _))));unfold Gg.«reversed.__next__»;refine Aa (Jn (a:=(Value.ref a,[])) rfl ?_);dsimp only;refine Aa (De g rfl (x:=.ref t) rfl (Aa (De g rfl (x:=Gz (-1)) rfl ?_)));show Bl _ _ (if (-1:Int)<0 then _ else _) _ _ _;rw[Uw (by decide)];refine Aa (Ga (Aa ?_))
 wp_delta
 refine Aa (Ez g (by simp) λO B d=>Ez B (by simp) λZ R I=>Aa ?_);unfold Iv;refine Aa (m:=Tf (.type "StopIteration") []) ?_;simp only[Tf,newTuple];refine Aa (Cz (Aa (m:=Kz _ _) (Jn (a:=Value.none) (by first|rfl|(simp only[Kz];rfl)) (Cz ?_ (by size_fits)))) (by size_fits));simp only[raiseNew];refine Aa (Ss ?_);rw[show A.in1.handled=none from hh];refine Aa (Af (Tu (Aa ?_)));refine Fq (T:="StopIteration") (b:=true) ⟨_,Au _ rfl,rfl⟩ Pr (Af (H _ λc o hc e=>?_));exact Ag _ (Ag _ (I.extBut _ _ hc (d.extBut _ _ hc e)))
theorem iter_self{i:Int}{Q:Ae->Ah->Prop}(g:IsRv s.heap a t i)(h:Q (.ref a) s):Bl (Cq prog w) A (Rh (.ref a)) Q E s:=by
 refine Qy (nF g) EL (Ck EL (nF g) WH ?_ (WI _));show Bl _ _ (ret (.ref a)) _ _ s;exact Af ⟨_,rfl,"reversed",_,nF g,qJ.lookup,h⟩
end
end Rv
end PySem
namespace L2
section
variable {X:Cx}{a:Cb}{ta:TA}{p p2 pos pos2:Gy}
theorem WJ:Cs "reversed" = some (.type "reversed"):=by decide +kernel
end
end L2
namespace PySem
namespace Zt
open L2
section
variable {prog:Ar}{w:Bk}{A:Cn}{E:Ae->Ah->Prop}{s:Ah}
theorem WK{O:Type}{Q:O->Ah->Prop}(hh:A.handled=none)(hE:∀h' e,(∀c o,s.heap.get? c=some o->h'.get? c=some o)->(∃o,h'.get? e=some o/\o.cls=.type "StopIteration")->E (.ref e) {s with heap:=h'}):
  Bl (Cq prog w) A (Iv:Rw O) Q E s:=by
 unfold Iv;refine Aa (m:=Tf (.type "StopIteration") []) ?_;simp only[Tf,newTuple];refine Aa (Cz (Aa (m:=Kz _ _) (Jn (a:=Value.none) (by first|rfl|(simp only[Kz];rfl)) (Cz ?_ (by size_fits)))) (by size_fits));simp only[raiseNew];refine Aa (Ss ?_);rw[hh];refine Aa (Af (Tu (hE _ _ (λc o e=>Ag _ (Ag _ e)) ⟨_,Au _ rfl,rfl⟩)))
structure eT(prog:Ar)(w:Bk)(i l:Aj)(xs:Array Ae)(St:Nat->Cr->Prop):Prop where
 keep:∀k h h',St k h->(∀c,c=i\/c=l->∀o,h.get? c=some o->h'.get? c=some o)->St k h'
 there:∀k h,St k h->i<h.objs.size
 item:∀(A:Cn) (E:Ae->Ah->Prop) (s:Ah) (k:Nat) (x:Ae) (Q:Ae->Ah->Prop),St k s.heap->xs[k]? = some x->(∀h',St (k+1) h'->Eh i s.heap h'->Q x {s with heap:=h'})->
  Bl (Cq prog w) A (Cv (.ref i)) Q E s
 stop:∀(A:Cn) (E:Ae->Ah->Prop) (s:Ah) (k:Nat) (Q:Ae->Ah->Prop),A.handled=none->St k s.heap->xs[k]? = none->
  (∀h' e,Ov i s.heap h'->(∃o,h'.get? e=some o/\o.cls=.type "StopIteration")->E (.ref e) {s with heap:=h'})->Bl (Cq prog w) A (Cv (.ref i)) Q E s
theorem ER(i l:Aj)(G:l≠i)(xs:Array Ae):eT prog w i l xs (λk h=>h.IsListIter i l k/\h.IsList l xs) where
 keep:=λk h h' x hk=>⟨x.1.at λo e=>hk i (.inl rfl) o e,x.2.at λo e=>hk l (.inr rfl) o e⟩
 there:=λk h x=>by obtain⟨_,e,_⟩:=x.1;exact Bh e
 item:=λA E s k x Q st S H=>wpAny_nextOf_list_item st.1 st.2 S λh' a b=>H h' ⟨a,st.2.at λo e=>(b.2 l G).trans e⟩ b
 stop:=λA E s k Q hh st S d=>wpAny_nextOf_list_end hh st.1 st.2 S λh' e a b=>d h' e a b
theorem side_tuple(i l:Aj)(hne:l≠i)(xs:Array Ae):eT prog w i l xs (λk h=>h.IsTupleIter i l k/\h.IsTuple l xs) where
 keep:=λk h h' x hk=>by
  obtain⟨⟨o,e,r⟩,⟨u,g,q⟩⟩:=x;exact⟨⟨o,hk i (.inl rfl) o e,r⟩,⟨u,hk l (.inr rfl) u g,q⟩⟩
 there:=λk h x=>by obtain⟨_,e,_⟩:=x.1;exact Bh e
 item:=λA E s k x Q st hx hQ=>by
  obtain⟨⟨o,ho,hc,hd⟩,⟨u,hu,hcu,n,hdu⟩⟩:=st;have ty:s.TypeIs (.ref i) "tuple_iterator":=⟨o,ho,hc⟩;unfold Cv;refine Aa (Cp (name:=Bv "__next__") ty Jm (Ck Jm ty F.entry_tuple_iterator_next ?_ (F.args_tuple_iterator_next_1 _)));show Bl _ _ (Qj (.ref i) 0>>=λq=>_) _ _ _;refine Aa (De ho hd (x:=.ref l) rfl ?_);show Bl _ _ (if (Value.ref l==Value.none)=true then _ else _) _ _ s;rw[Uv (show ¬(Value.ref l==Value.none)=true from λz=>nomatch z)];show Bl _ _ (Qj (.ref i) 1>>=λq=>_) _ _ _;refine Aa (De ho hd (x:=.int k 0) rfl ?_);show Bl _ _ (seqItems? (.ref l)>>=λq=>_) _ _ _;refine Aa (Ed hu hdu ?_);simp only[Du,hx];refine Aa (Na ho hd (by simp) (Af ⟨x,rfl,Af (hQ _ ⟨⟨_,Hi _ ho (Ol (Ih hd _)),(Qd ..).trans hc,?_⟩,⟨u,?_,hcu,n,hdu⟩⟩ (Fm ..))⟩))
  .rw[Ih hd];simp[Gz]
  .exact(Kr _ _ (Bq hne)).trans hu
 stop:=λA E s k Q hh st hx hE=>by
  obtain⟨⟨o,ho,hc,hd⟩,⟨u,hu,hcu,n,hdu⟩⟩:=st;have ty:s.TypeIs (.ref i) "tuple_iterator":=⟨o,ho,hc⟩;unfold Cv;refine Aa (Cp (name:=Bv "__next__") ty Jm (Ck Jm ty F.entry_tuple_iterator_next ?_ (F.args_tuple_iterator_next_1 _)));show Bl _ _ (Qj (.ref i) 0>>=λq=>_) _ _ _;refine Aa (De ho hd (x:=.ref l) rfl ?_);show Bl _ _ (if (Value.ref l==Value.none)=true then _ else _) _ _ s;rw[Uv (show ¬(Value.ref l==Value.none)=true from λz=>nomatch z)];show Bl _ _ (Qj (.ref i) 1>>=λq=>_) _ _ _;refine Aa (De ho hd (x:=.int k 0) rfl ?_);show Bl _ _ (seqItems? (.ref l)>>=λq=>_) _ _ _;refine Aa (Ed hu hdu ?_);simp only[Du,hx];refine Aa (Ga (Aa (Na ho hd (by simp) (WK hh λh' e hk he=>hE h' e (λc q hc' g=>hk c q ((Kr _ _ (Bq hc')).trans g)) he))))
structure Apart(z TI TO i1 i2 l1 l2:Aj):Prop where
 nd : [z,TI,TO,i1,i2].Nodup
 a:l1≠z/\l1≠TI/\l1≠TO/\l1≠i1/\l1≠i2
 b:l2≠z/\l2≠TI/\l2≠TO/\l2≠i1/\l2≠i2
variable {z TI TO i1 i2 l1 l2:Aj}{xs ys:Array Ae}{S1 S2:Nat->Cr->Prop}
theorem item{k:Nat}{Q:Ae->Ah->Prop}(D:Apart z TI TO i1 i2 l1 l2)(J:eT prog w i1 l1 xs S1)(W2:eT prog w i2 l2 ys S2)(hz:Qn s.heap z TI TO .none)(hI:Ht s.heap TI (.ref i1) (.ref i2))(hO:Ht s.heap TO a b)(O:S1 k s.heap)(Z:S2 k s.heap)(S:xs[k]? = some x)(K:ys[k]? = some y)(H:∀h',Qn h' z TI TO (Gz s.heap.objs.size)->Ht h' TO x y->S1 (k+1) h'->S2 (k+1) h'->Ht h' s.heap.objs.size x y->(∀c o,c≠z->c≠TO->c≠i1->c≠i2->s.heap.get? c=some o->h'.get? c=some o)->Q (.ref s.heap.objs.size) {s with heap:=h'}):
  Bl (Cq prog w) A (Gg.«zip.__next__» ⟨[.ref z],[]⟩) (λfin W=>∃v,fin=.done (.ret v)/\Q v W) E s:=by
 have nd:=D.nd;simp only[Dl,Bd,Hc,or_false,not_or,not_false_eq_true,Ey,and_true]at nd;obtain⟨⟨zI,zO,V,n⟩,⟨IO,L,i⟩,⟨O1,O2⟩,n12⟩:=nd;obtain⟨G,aI,aO,r,U⟩:=D.a;obtain⟨bz,bI,bO,u,l⟩:=D.b;show Bl _ _ (Qj (.ref z) 2>>=λq=>_) _ _ _;refine Aa (De hz rfl (x:=.bool false) rfl ?_);show Bl _ _ (Qj (.ref z) 3>>=λq=>_) _ _ _;refine Aa (De hz rfl (x:=.ref TI) rfl (Aa (Ed hI rfl ?_)));show Bl _ _ (Ct (.ref z)>>=λq=>_) _ _ _;refine Aa ?_;unfold Ct;refine Aa (De hz rfl (x:=.none) rfl (Af ?_));simp only[if_true];refine Aa (Ga (Aa (De hz rfl (x:=.ref TO) rfl (Aa (Ez hz (by simp) λI f M=>Aa ?_)))));simp only[Kw,List.zipIdx_nil,Ii,Mb];have k1:∀c,c=i1\/c=l1->c≠z/\c≠TO/\c≠i2:=λc hc=>by
  rcases hc with rfl|rfl
  .exact⟨Bq V,Bq O1,n12⟩
  .exact⟨G,aO,U⟩
 have k2:∀c,c=i2\/c=l2->c≠z/\c≠TO/\c≠i1:=λc hc=>by
  rcases hc with rfl|rfl
  .exact⟨Bq n,Bq O2,Bq n12⟩
  .exact⟨bz,bO,u⟩
 refine Aa (Aa (Qi ?_));show Bl _ _ (Cv (.ref i1)>>=λq=>_) _ _ _;refine Aa (J.item _ _ {s with heap:=I} k x _ (J.keep k _ _ O λc hc o e=>M.extBut c o (k1 c hc).1 e) S λY P g=>Af ?_);have T:Ht Y TO a b:=g.extBut _ _ O1 (M.extBut _ _ (Bq zO) hO);refine Aa (Ed T rfl (Aa (Po T λC o3 j=>Aa (Rn (Af ?_)))))
 replace o3:Ht C TO x b:=o3
 refine Aa (Aa (Qi ?_));show Bl _ _ (Cv (.ref i2)>>=λq=>_) _ _ _;refine Aa (W2.item _ _ {s with heap:=C} k y _ (W2.keep k _ _ Z λc hc o e=>j.extBut c o (k2 c hc).2.1 (g.extBut c o (k2 c hc).2.2 (M.extBut c o (k2 c hc).1 e))) K λh t4 s4=>Af ?_);have t:Ht h TO x b:=s4.extBut _ _ O2 o3;refine Aa (Ed t rfl (Aa (Po t λg5 X s5=>Aa (Rn (Af (Af ?_))))))
 replace X:Ht g5 TO x y:=X
 refine Aa (Ed X rfl (Aa (wpAny_newTuple ?_)));have size5:g5.objs.size=s.heap.objs.size:=by rw[s5.1,s4.1,j.1,g.1,M.1]
 have z5:Qn g5 z TI TO .ellipsis:=s5.extBut _ _ zO (s4.extBut _ _ n (j.extBut _ _ zO (g.extBut _ _ V f)));have lz:z<g5.objs.size:=Bh z5;refine Aa (m:=Builtin.SmallTypes.ownedTupleHandOut _ _) ?_;unfold Builtin.SmallTypes.ownedTupleHandOut;have z6:Qn (g5.push {cls:=.type "tuple",data:=.seq #[x,y]}) z TI TO .ellipsis:=Ag _ z5;refine Aa (Ez z6 (by simp) λg7 z7 s7=>Ez z7 (by simp) λg8 z8 s8=>Af ⟨_,rfl,?_⟩);have up:∀c o,c≠z->g5.get? c=some o->g8.get? c=some o:=λc o hc e=>s8.extBut _ _ hc (s7.extBut _ _ hc (Ag _ e));have t8:Ht g8 g5.objs.size x y:=s8.extBut _ _ (Co lz) (s7.extBut _ _ (Co lz) (Au _ rfl));have B:S1 (k+1) g8:=J.keep _ _ _ P λc hc o e=>up c o (k1 c hc).1 (s5.extBut _ _ (k1 c hc).2.1 (s4.extBut _ _ (k1 c hc).2.2 (j.extBut _ _ (k1 c hc).2.1 e)));have R:S2 (k+1) g8:=W2.keep _ _ _ t4 λc hc o e=>up c o (k2 c hc).1 (s5.extBut _ _ (k2 c hc).2.1 e);show Q (.ref g5.objs.size) _
 replace z8:Qn g8 z TI TO (Gz g5.objs.size):=z8
 rw[size5]at z8 t8⊢;exact H g8 z8 (up _ _ (Bq zO) X) B R t8 λc o N d F p e=>up c o N (s5.extBut _ _ d (s4.extBut _ _ p (j.extBut _ _ d (g.extBut _ _ F (M.extBut _ _ N e)))))
theorem stop{k:Nat}{Q:Fin->Ah->Prop}(hh:A.handled=none)(D:Apart z TI TO i1 i2 l1 l2)(n:eT prog w i1 l1 xs S1)(J:eT prog w i2 l2 ys S2)(hz:Qn s.heap z TI TO .none)(N:Ht s.heap TI (.ref i1) (.ref i2))(hO:Ht s.heap TO a b)(O:S1 k s.heap)(Z:S2 k s.heap)(hend:xs[k]? = none\/ys[k]? = none)(t:∀h' e,(∀c o,c≠z->c≠TO->c≠i1->c≠i2->s.heap.get? c=some o->h'.get? c=some o)->(∃o,h'.get? e=some o/\o.cls=.type "StopIteration")->E (.ref e) {s with heap:=h'}):
  Bl (Cq prog w) A (Gg.«zip.__next__» ⟨[.ref z],[]⟩) Q E s:=by
 have nd:=D.nd;simp only[Dl,Bd,Hc,or_false,not_or,not_false_eq_true,Ey,and_true]at nd;obtain⟨⟨zI,zO,V,R⟩,⟨IO,L,i⟩,⟨O1,O2⟩,n12⟩:=nd;obtain⟨G,aI,aO,r,U⟩:=D.a;obtain⟨bz,bI,bO,v,H⟩:=D.b;have k1:∀c,c=i1\/c=l1->c≠z:=λc hc=>by rcases hc with rfl|rfl;exact Bq V;exact G
 have k2:∀c,c=i2\/c=l2->c≠z/\c≠TO/\c≠i1:=λc hc=>by
  rcases hc with rfl|rfl
  .exact⟨Bq R,Bq O2,Bq n12⟩
  .exact⟨bz,bO,v⟩
 show Bl _ _ (Qj (.ref z) 2>>=λq=>_) _ _ _;refine Aa (De hz rfl (x:=.bool false) rfl ?_);show Bl _ _ (Qj (.ref z) 3>>=λq=>_) _ _ _;refine Aa (De hz rfl (x:=.ref TI) rfl (Aa (Ed N rfl ?_)));show Bl _ _ (Ct (.ref z)>>=λq=>_) _ _ _;refine Aa ?_;unfold Ct;refine Aa (De hz rfl (x:=.none) rfl (Af ?_));simp only[if_true];refine Aa (Ga (Aa (De hz rfl (x:=.ref TO) rfl (Aa (Ez hz (by simp) λI f M=>Aa ?_)))));simp only[Kw,List.zipIdx_nil,Ii,Mb];refine Aa (Aa (Qi ?_));show Bl _ _ (Cv (.ref i1)>>=λq=>_) _ _ _;cases S:xs[k]? with
 | none=>
  refine Aa (n.stop _ _ {s with heap:=I} k _ hh (n.keep k _ _ O λc hc o e=>M.extBut c o (k1 c hc) e) S λY e g P=>?_);obtain⟨oe,ge,ce⟩:=P;have p:Qn Y z TI TO .ellipsis:=g _ _ V f;have ez:e≠z:=λu=>by subst u;rw[p]at ge;cases ge;simp at ce
  exact Ez p (by simp) λC _ j=>t C e (λc o m _ F _ u=>j.extBut _ _ m (g _ _ F (M.extBut _ _ m u))) ⟨oe,j.extBut _ _ ez ge,ce⟩
 | some x=>
  have K:ys[k]? = none:=by rcases hend with h|h;rw[S]at h;cases h;exact h
  refine Aa (n.item _ _ {s with heap:=I} k x _ (n.keep k _ _ O λc hc o e=>M.extBut c o (k1 c hc) e) S λY l g=>Af ?_);have T:Ht Y TO a b:=g.extBut _ _ O1 (M.extBut _ _ (Bq zO) hO);refine Aa (Ed T rfl (Aa (Po T λC y j=>Aa (Rn (Af ?_)))));refine Aa (Aa (Qi ?_));show Bl _ _ (Cv (.ref i2)>>=λq=>_) _ _ _;refine Aa (J.stop _ _ {s with heap:=C} k _ hh (J.keep k _ _ Z λc hc o e=>j.extBut c o (k2 c hc).2.1 (g.extBut c o (k2 c hc).2.2 (M.extBut c o (k2 c hc).1 e))) K λW e s4 P=>?_);obtain⟨oe,ge,ce⟩:=P;have q4:Qn W z TI TO .ellipsis:=s4 _ _ R (j.extBut _ _ zO (g.extBut _ _ V f));have ez:e≠z:=λu=>by subst u;rw[q4]at ge;cases ge;simp at ce
  exact Ez q4 (by simp) λB _ s5=>t B e (λc o m d F X u=>s5.extBut _ _ m (s4 _ _ X (j.extBut _ _ d (g.extBut _ _ F (M.extBut _ _ m u))))) ⟨oe,s5.extBut _ _ ez ge,ce⟩
end
end Zt
end PySem
namespace PySem
namespace Zt
open L2
section
variable {prog:Ar}{w:Bk}{A:Cn}{E:Ae->Ah->Prop}{s:Ah}{z TI TO i1 i2 l1 l2:Aj}{xs ys:Array Ae}{S1 S2:Nat->Cr->Prop}
theorem next_item{k:Nat}{Q:Option Ae->Ah->Prop}(D:Apart z TI TO i1 i2 l1 l2)(n:eT prog w i1 l1 xs S1)(J:eT prog w i2 l2 ys S2)(hz:Qn s.heap z TI TO .none)(C:Ht s.heap TI (.ref i1) (.ref i2))(I:Ht s.heap TO a b)(O:S1 k s.heap)(Z:S2 k s.heap)(S:xs[k]? = some x)(K:ys[k]? = some y)(H:∀h',Qn h' z TI TO (Gz s.heap.objs.size)->Ht h' TO x y->S1 (k+1) h'->S2 (k+1) h'->Ht h' s.heap.objs.size x y->(∀c o,c≠z->c≠TO->c≠i1->c≠i2->s.heap.get? c=some o->h'.get? c=some o)->Q (some (.ref s.heap.objs.size)) {s with heap:=h'}):
  Bl (Cq prog w) A (Hg (.ref z)) Q E s:=by
 have ty:s.TypeIs (.ref z) "zip":=⟨_,hz,rfl⟩;unfold Hg;exact Aa (Gm (Cp (name:=Bv "__next__") ty Hs (Ck Hs ty Ob (item D n J hz C I O Z S K λh' m d F f j X=>Af (H h' m d F f j X)) (Nk _))))
theorem WL{k:Nat}{Q:Option Ae->Ah->Prop}(hh:A.handled=none)(D:Apart z TI TO i1 i2 l1 l2)(n:eT prog w i1 l1 xs S1)(J:eT prog w i2 l2 ys S2)(hz:Qn s.heap z TI TO .none)(C:Ht s.heap TI (.ref i1) (.ref i2))(I:Ht s.heap TO a b)(O:S1 k s.heap)(Z:S2 k s.heap)(j:xs[k]? = none\/ys[k]? = none)(H:∀h',(∀c o,c≠z->c≠TO->c≠i1->c≠i2->s.heap.get? c=some o->h'.get? c=some o)->Q none {s with heap:=h'}):Bl (Cq prog w) A (Hg (.ref z)) Q E s:=by
 have ty:s.TypeIs (.ref z) "zip":=⟨_,hz,rfl⟩;unfold Hg;refine Aa (Gm (Cp (name:=Bv "__next__") ty Hs (Ck Hs ty Ob (stop hh D n J hz C I O Z j λh' e hk ⟨o,f,hc⟩=>?_) (Nk _))));exact Aa (Fq (T:="StopIteration") (b:=true) ⟨o,f,hc⟩ Pr (Af (H _ hk)))
end
end Zt
end PySem
namespace L2
theorem WM(n:Nat): [n+4,n+2,n+3,n,n+1].Nodup:=by
 simp only[Dl,Bd,Hc,or_false,not_or,not_false_eq_true,Ey,and_true];lia
section
variable {X:Cx}
theorem ES:∀{vs:List Ae} {ks:List Aw},vs.length=ks.length->(∀(j:Nat) v,vs[j]? = some v->∃x t,ks[j]? = some x/\v=.str x t)->StrsAre vs ks
 | [],[],_,_=>.nil
 | [],_::_,e,_=>by simp at e
 | _::_,[],e,_=>by simp at e
 | v::vs,k::ks,e,h=>by
  obtain⟨x,t,O,rfl⟩:=h 0 v rfl;cases (show k=x by simpa using O);exact .cons k t (ES (by simpa using e) λj v c=>by simpa using h (j+1) v (by simpa using c))
theorem ET:∀{vs:List Ae} {ss:List Aw},StrsAre vs ss->aX (ss.map V.str) vs
 | _,_,.nil=>.nil
 | _,_,.cons y t r=>.cons ⟨t,rfl⟩ (ET r)
theorem WN(hc:X.calm=true):cM X (.builtin "sorted") (λxs H Q=>∃(d:Aj) (kvs:List (aB×V)) (ks:List Aw),xs=[.ref d]/\H d=some (.dK kvs)/\kvs.map Ef=ks.map Sum.inr/\ks.length<64/\
  ∀ss:List Aw,ss.Perm ks->∀p,H p=none->Q (.ref p) (aN H p (.lst (ss.map V.str)))):=by
 intro C s g H xs us Q I r h;obtain⟨d,kvs,ks,rfl,hd,hks,h64,q⟩:=h;obtain⟨u,rfl,ru⟩:=vals1 r;cases ru;obtain⟨hz,G,vs,J,M⟩:=(show b9 X.prog X.w H s.heap d (.dK kvs) from I.hok d _ hd);obtain⟨ep,n⟩:=M.dictAt;have hl:=J.length;have hkl:kvs.length=ks.length:=by have:=congrArg Ia hks;simpa using this
 refine Calls.call_function_entry kind_sorted plain_sorted entry_sorted (args_sorted1 _) ?_;unfold Gg.«sorted»;refine Aa (m:=checkCount "sorted" 1 1 _) (Af (Aa (PySem.W.kdu_collect (A:=X.A.in1) (PySem.W.kdl_dict (knd:=bQ X.prog X.w) (kvs:=vs) (ep:=ep) G) (I.ok.hd hc) n (by rw[<-hl];exact hz) λh' tk acc hk N=>?_)));have hsz:acc.toList.length=ks.length:=by have O:=N.1;have Z:acc.toList.length=acc.size:=Gu;lia
 have R:StrsAre acc.toList ks:=ES hsz λj v c=>by
  obtain⟨k,x,S,E⟩:=N.2 j v (by rw[<-Fg];exact c);obtain⟨y,K⟩:=xG J S;have T:(kvs.map Ef)[j]? = some k:=by rw[Ap,K];rfl
  rw[hks,Ap]at T;obtain⟨z,l,rfl⟩:=Ax.mp T;obtain⟨t,e⟩:=(show RelV (kV (Sum.inr z)) v from tD E);exact⟨z,t,l,e⟩
 have L:Inv X C g H {s with heap:=h',toks:=tk}:=I.kept (t':=tk) hk;refine Aa (wpAny_newList ?_ (by rw[hsz];lia));have D:(h'.push (seqObj "list" acc.toList.toArray 0)).get? h'.objs.size=some (seqObj "list" acc.toList.toArray 0):=Au _ rfl;refine Aa (Dh (Ck slot_list_sort ⟨_,D,rfl⟩ entry_list_sort (list_sort_treeK strKind_oneLt D R.keysOf (λv1 v2 rest e=>keyKind_strs (by rw[<-e];exact R)) (by rw[hsz];exact h64) λF i U=>⟨_,rfl,?_⟩) (args_list_sort _)));obtain⟨ss,O,Z,f⟩:=sorted_out_str R i U;obtain⟨e,P⟩:=sortedHeap_at (out:=(arrOf F).map (·.2)) D;have Y:ss.length=ks.length:=Z.length_eq;refine Af ⟨_,rfl,.ref h'.objs.size,_,L.laid (o:=.lst (ss.map V.str)) (t':=tk) (λb o B=>?_) (Ai _) ⟨by rw[Ab];exact Bf (Hr (by lia:ss.length<64)) (by decide),((arrOf F).map (·.2)).toList,e,ET O,by rw[Ho];exact P⟩,rfl,q ss Z _ L.fresh⟩;have a:b<h'.objs.size:=Bh B;exact(sortedHeap_old (Bo a) (by rw[Gk];exact Qf a)).trans (Ag _ B)
end
abbrev NX(es:List (bM×Aj×V))(xs:List (bM×Aj×Ae)):Prop:=Ff (λp q=>p.1=q.1/\p.2.1=q.2.1/\RelV p.2.2 q.2.2) es xs
def dC(P:Ar)(w:Bk)(tl:List Int)(a:Aj)(es:List (bM×Aj×V))(h:Cr):Prop:=
 ∃o m ep xs,h.get? a=some o/\o.ExactDict/\o.data=.dict m ep/\m.toList=xs.map (Qr (iX P w tl))/\NX es xs/\(xs.map (·.1)).Nodup/\xs.length<=Ao/\(a==Fc)=false
theorem dC.stay(x:dC P w tl a es O)(k:∀o,O.get? a=some o->Z.get? a=some o):dC P w tl a es Z:=by
 obtain⟨o,m,ep,xs,e,r⟩:=x;exact⟨o,m,ep,xs,k o e,r⟩
theorem dC.ok(x:dC P w tl a es h):b9 P w H h a (.ext (dC P w tl a es)):=
 ⟨x,let ⟨o,_,_,_,e,_⟩:=x;⟨o,e⟩,λO Z y k=>y.stay k⟩
def gW(P:Ar)(w:Bk)(tl:List Int)(a:Aj)(es:List (bM×Aj×V))(o:Lc)(h:Cr):Prop:=h.get? a=some o/\dC P w tl a es h
theorem gW.ok(x:gW P w tl a es o h):b9 P w H h a (.ext (gW P w tl a es o)):=
 ⟨x,⟨o,x.1⟩,λO Z y k=>⟨k _ y.1,y.2.stay k⟩⟩
def WO(o:Lc)(es:List (bM×Aj×V)):Prop:=∃m ep,o.data=.dict m ep/\m.size=es.length/\∀(j:Nat) (e:Ec),m[j]? = some e->∃z:bM×Aj×V,es[j]? = some z/\e.key=.ref z.2.1
def gX(H:Hp)(tl:List Int)(x:bM)(b:Aj):Prop:=∃Y,H b=some (.tup (kV x.1::.ref Y::tl.map V.int))/\H Y=some (.tup (x.2.map kV))
theorem EU:∀{tl:List Int} {us:List Ae},aX (tl.map V.int) us->ItemsAre (bQ P w) (tl.map Sum.inl) us
 | [],_,h=>by cases h;exact .nil
 | i::tl,_,h=>by
  cases h with
  | cons r t=>
   obtain⟨tk,rfl⟩:=r;exact .cons (jF (k:=Sum.inl i) ⟨tk,rfl⟩) (EU t)
theorem gX.is(hok:cG P w H h)(n:gX H tl x b):(iX P w tl).is h x b:=by
 obtain⟨Y,T,G⟩:=n;obtain⟨_,its,r,o,O,Z,m,f⟩:=(show b9 P w H h b (.tup (kV x.1::.ref Y::tl.map V.int)) from hok b _ T);cases r with
 | @cons _ v _ vs B L=>
  cases L with
  | @cons _ y _ F R l=>
   cases (show y=Value.ref Y from R);exact⟨o,_,m,v,Y,F,O,Z,f,by simp,jF B,iK hok G,EU l⟩
abbrev SV:=L2.St
inductive W where
 | non|bl (b:Bool)|int (i:Int)|str (x:Aw)|ty (n:String)|tup (ws:List W)|rl (ws:List W)|sc (ws:List W)|ref (a:Aj)
 | dk (kvs:List (aB×W))|dt (kvs:List (List aB×W))|fk (kvs:List (aB×W))|ft (kvs:List (List aB×W))
inductive MO where
 | lst (ws:List W)|dK (kvs:List (aB×W))|dT (kvs:List (List aB×W))|fix (vs:List V)|ins (C dx:Aj) (fs:List (Aw×W))|dn (P:Ar) (w:Bk) (tl:List Int) (kvs:List (bM×W))|vw (d:Aj)|dh (P:Ar) (w:Bk) (tl:List Int) (kvs:List (bM×W)) (o:Lc)
abbrev Mm:=Aj->Option MO
def zjG(pos:Gy):Option Aj->Array Ae
 | none=>#[]
 | some c=>#[Gz pos.line,Gz pos.col,.ref c]
def put(M:Mm)(a:Aj)(o:MO):Mm:=λb=>if b=a then some o else M b
def del(M:Mm)(a:Aj):Mm:=λb=>if b=a then none else M b
theorem aL{M:Mm}{a:Aj}{o:MO}:put M a o a=some o:=by unfold put;rw[Uw rfl]
theorem aM{M:Mm}{a b:Aj}{o:MO}(h:b≠a):put M a o b=M b:=by unfold put;rw[Uv h]
theorem c9:put (put M a o) a u=put M a u:=by
 funext b;unfold put;split<;>rfl
theorem iY(h:M a=none):del (put M a o) a=M:=by
 funext b;unfold del put;split
 .rename_i e;rw[e,h]
 .rfl
theorem nG{M:Mm}{a:Aj}:del M a a=none:=by unfold del;rw[Uw rfl]
theorem xJ{M:Mm}{a b:Aj}(h:b≠a):del M a b=M b:=by unfold del;rw[Uv h]
theorem qK(h:a≠b):put (put M a o) b u=put (put M b u) a o:=by
 funext c;unfold put
 by_cases O:c=b
 .by_cases Z:c=a
  .exact absurd (Z.symm.trans O) h
  .rw[Uw O,Uv Z,Uw O]
 .by_cases Z:c=a
  .rw[Uv O,Uw Z,Uw Z]
  .rw[Uv O,Uv Z,Uv Z,Uv O]
theorem xK(h:M a=some o):put M a o=M:=by
 funext b;unfold put;split
 .rename_i e;rw[e,h]
 .rfl
def Sub(M M':Mm):Prop:=∀a o,M a=some o->M' a=some o
theorem Sub.refl(M:Mm):Sub M M:=λ_ _ h=>h
theorem aP:Sub M M:=Sub.refl M
theorem Sub.trans(a:Sub M M1)(b:Sub M1 M2):Sub M M2:=λc o h=>b c o (a c o h)
theorem Sub.new(h:M a=none):Sub M (put M a o):=λb u e=>by
 rw[aM (λz=>by rw[z,h]at e;cases e)];exact e
theorem Sub.put(h:Sub M M'):Sub (put M a o) (put M' a o):=λb u e=>by
 unfold L2.put at e⊢;split at e
 .rename_i z;rw[Uw z];exact e
 .rename_i z;rw[Uv z];exact h b u e
theorem Sub.del:Sub (del M a) M:=λb u e=>by
 unfold L2.del at e;split at e
 .cases e
 .exact e
theorem Sub.non(h:Sub M M')(e:M' a=none):M a=none:=by
 cases q:M a with
 | none=>rfl
 | some o=>rw[h a o q]at e;cases e
def kK(K:Ac)(H:Hp)(a:Aj)(xs:List V):Prop:=
 (∃o,H a=some (.frz o (.lst xs)))\/
  ∃(o:Lc) (its:Array Ae) (n:Nat),K.lookup a=some o/\o.cls=.type "list"/\o.dict=none/\o.data=.seq its n/\its.size<=Ao/\aX xs its.toList
theorem kK.sq{K:Ac}{H:Hp}{a:Aj}{xs:List V}(h:kK K H a xs):bH K H a xs:=by
 rcases h with⟨o,h⟩|h
 .exact .inl (.inr ⟨o,h⟩)
 .exact .inr h
mutual
inductive AV(K:Ac)(H:Hp)(M:Mm):V->W->Prop
 | non:AV K H M .non .non
 | bl (b:Bool):AV K H M (.bl b) (.bl b)
 | int (i:Int):AV K H M (.int i) (.int i)
 | str (x:Aw):AV K H M (.str x) (.str x)
 | ty (n:String):AV K H M (.ty n) (.ty n)
 | tup {a:Aj} {xs:List V} {ws:List W}:H a=some (.tup xs)->aJ K H M xs ws->AV K H M (.ref a) (.tup ws)
 | sc {a:Aj} {xs:List V} {ws:List W}:kK K H a xs->aJ K H M xs ws->AV K H M (.ref a) (.sc ws)
 | rl {a:Aj} {xs:List V} {ws:List W}:H a=some (.lst xs)->M a=none->aJ K H M xs ws->AV K H M (.ref a) (.rl ws)
 | ref (a:Aj):AV K H M (.ref a) (.ref a)
 | dk {a:Aj} {ks:List (aB×V)} {kvs:List (aB×W)}:H a=some (.dK ks)->M a=none->ks.map Ef=kvs.map Ef->aJ K H M (ks.map Ju) (kvs.map Ju)->AV K H M (.ref a) (.dk kvs)
 | dt {a:Aj} {ks:List (List aB×V)} {kvs:List (List aB×W)}:H a=some (.dT ks)->M a=none->ks.map Ef=kvs.map Ef->aJ K H M (ks.map Ju) (kvs.map Ju)->AV K H M (.ref a) (.dt kvs)
 | fk {a:Aj} {o:Lc} {ks:List (aB×V)} {kvs:List (aB×W)}:H a=some (.frz o (.dK ks))->ks.map Ef=kvs.map Ef->aJ K H M (ks.map Ju) (kvs.map Ju)->AV K H M (.ref a) (.fk kvs)
 | ft {a:Aj} {o:Lc} {ks:List (List aB×V)} {kvs:List (List aB×W)}:H a=some (.frz o (.dT ks))->ks.map Ef=kvs.map Ef->aJ K H M (ks.map Ju) (kvs.map Ju)->AV K H M (.ref a) (.ft kvs)
inductive aJ(K:Ac)(H:Hp)(M:Mm):List V->List W->Prop
 | nil:aJ K H M [] []
 | cons {v:V} {vs:List V} {w:W} {ws:List W}:AV K H M v w->aJ K H M vs ws->aJ K H M (v::vs) (w::ws)
end
abbrev bK(K:Ac)(H:Hp)(M:Mm)(c:Type):List (c×V)->List (c×W)->Prop:=Ff λp q=>p.1=q.1/\AV K H M p.2 q.2
theorem nH{K:Ac}{H:Hp}{M:Mm}{c:Type}:∀{ks:List (c×V)} {kvs:List (c×W)},ks.map Ef=kvs.map Ef->aJ K H M (ks.map Ju) (kvs.map Ju)->bK K H M c ks kvs
 | [],[],_,_=>.nil
 | [],_::_,e,_=>by simp at e
 | _::_,[],e,_=>by simp at e
 | p::ps,q::qs,e,h=>by
  rw[Be,Be]at e h;rw[Dk]at e;cases h with
  | cons x r=>exact .cons ⟨e.1,x⟩ (nH e.2 r)
theorem bK.keys{K:Ac}{H:Hp}{M:Mm}{c:Type}{ks:List (c×V)}{kvs:List (c×W)}(h:bK K H M c ks kvs):ks.map Ef=kvs.map Ef:=by
 induction h with
 | nil=>rfl
 | cons r _ E=>rw[Be,Be,E,r.1]
theorem bK.vals{K:Ac}{H:Hp}{M:Mm}{c:Type}{ks:List (c×V)}{kvs:List (c×W)}(h:bK K H M c ks kvs):aJ K H M (ks.map Ju) (kvs.map Ju):=by
 induction h with
 | nil=>exact .nil
 | cons r _ E=>exact .cons r.2 E
def AO(K:Ac)(H:Hp)(M:Mm)(a:Aj):MO->Prop
 | .lst ws=>∃vs,H a=some (.lst vs)/\aJ K H M vs ws
 | .dK kvs=>∃ks,H a=some (.dK ks)/\bK K H M aB ks kvs
 | .dT kvs=>∃ks,H a=some (.dT ks)/\bK K H M (List aB) ks kvs
 | .fix vs=>H a=some (.lst vs)
 | .ins C dx fs=>∃i,H a=some (.ins C dx i)/\bK K H M Aw i fs
 | .dn P w tl kvs=>∃es,H a=some (.ext (dC P w tl a es))/\Ff (λ(e:bM×Aj×V) (p:bM×W)=>e.1=p.1/\gX H tl e.1 e.2.1/\AV K H M e.2.2 p.2) es kvs
 | .vw d=>H a=some (.ext λh=>h.IsValuesView a d)
 | .dh P w tl kvs o=>∃es,H a=some (.ext (gW P w tl a es o))/\WO o es/\Ff (λ(e:bM×Aj×V) (p:bM×W)=>e.1=p.1/\gX H tl e.1 e.2.1/\AV K H M e.2.2 p.2) es kvs
def AM(K:Ac)(H:Hp)(M:Mm):Prop:=∀a o,M a=some o->AO K H M a o
structure Kp(H:Hp)(M:Mm)(H':Hp)(M':Mm):Prop where
 fr:∀a o,M a=none->H a=some o->H' a=some o/\M' a=none
 dom:∀a o,M a=some o->∃u,H' a=some u
structure Go(H:Hp)(M:Mm)(H':Hp)(M':Mm):Prop where
 ht:∀b xs,H b=some (.tup xs)->H' b=some (.tup xs)
 hf:∀b o u,H b=some (.frz o u)->H' b=some (.frz o u)
 hl:∀b o,M b=none->H b=some o->H' b=some o/\M' b=none
section
variable {K:Ac}{H H' H1 H2:Hp}{M M' M1 M2:Mm}{a:Aj}
theorem AO.has(h:AO K H M a o):∃u,H a=some u:=by
 cases o with
 | lst ws=>obtain⟨vs,e,_⟩:=h;exact⟨_,e⟩
 | dK kvs=>obtain⟨ks,e,_⟩:=h;exact⟨_,e⟩
 | dT kvs=>obtain⟨ks,e,_⟩:=h;exact⟨_,e⟩
 | fix vs=>exact⟨_,h⟩
 | ins C dx fs=>obtain⟨gs,e,_⟩:=h;exact⟨_,e⟩
 | dn P w tl kvs=>obtain⟨gs,e,_⟩:=h;exact⟨_,e⟩
 | vw d=>exact⟨_,h⟩
 | dh P w tl kvs o=>obtain⟨gs,e,_⟩:=h;exact⟨_,e⟩
theorem AM.nonM(U:AM K H M)(h:H a=none):M a=none:=by
 cases q:M a with
 | none=>rfl
 | some o=>obtain⟨u,e⟩:=(U a o q).has;rw[h]at e;cases e
theorem AM.noTup(am:AM K H M)(h:H a=some (.tup xs)):M a=none:=by
 cases q:M a with
 | none=>rfl
 | some o=>
  have:=am a o q;cases o with
  | lst ws=>obtain⟨vs,e,_⟩:=this;rw[h]at e;cases e
  | dK kvs=>obtain⟨ks,e,_⟩:=this;rw[h]at e;cases e
  | dT kvs=>obtain⟨ks,e,_⟩:=this;rw[h]at e;cases e
  | fix vs=>have e:H a=some (.lst vs):=this;rw[h]at e;cases e
  | ins C dx fs=>obtain⟨gs,e,_⟩:=this;rw[h]at e;cases e
  | dn P w tl kvs=>obtain⟨gs,e,_⟩:=this;rw[h]at e;cases e
  | vw d=>have e:H a=some (.ext λh=>h.IsValuesView a d):=this;rw[h]at e;cases e
  | dh P w tl kvs o=>obtain⟨gs,e,_⟩:=this;rw[h]at e;cases e
theorem AM.noFrz(am:AM K H M)(h:H a=some (.frz ob u)):M a=none:=by
 cases q:M a with
 | none=>rfl
 | some o=>
  have:=am a o q;cases o with
  | lst ws=>obtain⟨vs,e,_⟩:=this;rw[h]at e;cases e
  | dK kvs=>obtain⟨ks,e,_⟩:=this;rw[h]at e;cases e
  | dT kvs=>obtain⟨ks,e,_⟩:=this;rw[h]at e;cases e
  | fix vs=>have e:H a=some (.lst vs):=this;rw[h]at e;cases e
  | ins C dx fs=>obtain⟨gs,e,_⟩:=this;rw[h]at e;cases e
  | dn P w tl kvs=>obtain⟨gs,e,_⟩:=this;rw[h]at e;cases e
  | vw d=>have e:H a=some (.ext λh=>h.IsValuesView a d):=this;rw[h]at e;cases e
  | dh P w tl kvs o=>obtain⟨gs,e,_⟩:=this;rw[h]at e;cases e
theorem Kp.refl(U:AM K H M):Kp H M H M:=⟨λa o h e=>⟨e,h⟩,λa o h=>(U a o h).has⟩
theorem Kp.trans(x:Kp H M H1 M1)(y:Kp H1 M1 H2 M2):Kp H M H2 M2 where
 fr:=λa o h e=>by
  obtain⟨T,n1⟩:=x.fr a o h e;exact y.fr a o n1 T
 dom:=λa o h=>by
  obtain⟨u,e⟩:=x.dom a o h;cases q:M1 a with
  | none=>exact⟨u,(y.fr a u q e).1⟩
  | some c=>exact y.dom a c q
theorem Kp.sub(x:Kp H M H1 M1)(h:Sub M2 M1):Kp H M H1 M2 where
 fr:=λa o n e=>⟨(x.fr a o n e).1,h.non (x.fr a o n e).2⟩
 dom:=x.dom
theorem Kp.go(U:AM K H M)(k:Kp H M H' M'):Go H M H' M':=⟨λb xs e=>(k.fr b _ (U.noTup e) e).1,λb o u e=>(k.fr b _ (U.noFrz e) e).1,k.fr⟩
theorem Go.sub(h:Sub M' M):Go H M H M':=⟨λ_ _ e=>e,λ_ _ _ e=>e,λb o n e=>⟨e,h.non n⟩⟩
theorem AV.go(g:Go H M H' M')(h:AV K H M v w):AV K H' M' v w:=AV.rec (motive_1:=λv w _=>AV K H' M' v w) (motive_2:=λvs ws _=>aJ K H' M' vs ws) .non .bl .int .str .ty (λe _ q=>.tup (g.ht _ _ e) q) (λe _ q=>.sc (e.elim (λz=>.inl (z.elim λo q=>⟨o,g.hf _ _ _ q⟩)) .inr) q) (λe n _ q=>.rl (g.hl _ _ n e).1 (g.hl _ _ n e).2 q) .ref
  (λe n O _ q=>.dk (g.hl _ _ n e).1 (g.hl _ _ n e).2 O q) (λe n O _ q=>.dt (g.hl _ _ n e).1 (g.hl _ _ n e).2 O q) (λe O _ q=>.fk (g.hf _ _ _ e) O q) (λe O _ q=>.ft (g.hf _ _ _ e) O q) .nil (λ_ _ x r=>.cons x r) h
theorem aJ.go(g:Go H M H' M')(h:aJ K H M vs ws):aJ K H' M' vs ws:=aJ.rec (motive_1:=λv w _=>AV K H' M' v w) (motive_2:=λvs ws _=>aJ K H' M' vs ws) .non .bl .int .str .ty (λe _ q=>.tup (g.ht _ _ e) q) (λe _ q=>.sc (e.elim (λz=>.inl (z.elim λo q=>⟨o,g.hf _ _ _ q⟩)) .inr) q) (λe n _ q=>.rl (g.hl _ _ n e).1 (g.hl _ _ n e).2 q) .ref
  (λe n O _ q=>.dk (g.hl _ _ n e).1 (g.hl _ _ n e).2 O q) (λe n O _ q=>.dt (g.hl _ _ n e).1 (g.hl _ _ n e).2 O q) (λe O _ q=>.fk (g.hf _ _ _ e) O q) (λe O _ q=>.ft (g.hf _ _ _ e) O q) .nil (λ_ _ x r=>.cons x r) h
theorem bK.go{c:Type}{ks:List (c×V)}{kvs:List (c×W)}(g:Go H M H' M')(h:bK K H M c ks kvs):bK K H' M' c ks kvs:=Paired.mapP h λp q z=>⟨z.1,z.2.go g⟩
theorem AO.go{o:MO}(g:Go H M H' M')(e:H' a=H a)(h:AO K H M a o):AO K H' M' a o:=by
 cases o with
 | lst ws=>obtain⟨vs,e1,r⟩:=h;exact⟨vs,by rw[e];exact e1,r.go g⟩
 | dK kvs=>obtain⟨vs,e1,r⟩:=h;exact⟨vs,by rw[e];exact e1,r.go g⟩
 | dT kvs=>obtain⟨vs,e1,r⟩:=h;exact⟨vs,by rw[e];exact e1,r.go g⟩
 | fix vs=>exact e.trans h
 | ins C dx fs=>obtain⟨gs,e1,r⟩:=h;exact⟨gs,by rw[e];exact e1,r.go g⟩
 | dn P w tl kvs=>obtain⟨gs,e1,r⟩:=h;exact⟨gs,by rw[e];exact e1,Paired.mapP r λp q z=>⟨z.1,let ⟨pa,n1,n2⟩:=z.2.1;⟨pa,g.ht _ _ n1,g.ht _ _ n2⟩,z.2.2.go g⟩⟩
 | vw d=>exact e.trans h
 | dh P w tl kvs o=>obtain⟨gs,e1,z0,r⟩:=h;exact⟨gs,by rw[e];exact e1,z0,Paired.mapP r λp q z=>⟨z.1,let ⟨pa,n1,n2⟩:=z.2.1;⟨pa,g.ht _ _ n1,g.ht _ _ n2⟩,z.2.2.go g⟩⟩
theorem AM.sub(U:AM K H M')(h:Sub M M'):AM K H M:=λa o e=>(U a o (h a o e)).go (Go.sub h) rfl
theorem AV.sub(h:Sub M' M)(x:AV K H M v w):AV K H M' v w:=x.go (Go.sub h)
theorem aJ.sub(h:Sub M' M)(x:aJ K H M v w):aJ K H M' v w:=x.go (Go.sub h)
theorem AV.kp(U:AM K H M)(k:Kp H M H' M')(h:AV K H M v w):AV K H' M' v w:=h.go (k.go U)
theorem aJ.kp(U:AM K H M)(k:Kp H M H' M')(h:aJ K H M vs ws):aJ K H' M' vs ws:=h.go (k.go U)
theorem aJ.length:∀{vs:List V} {ws:List W},aJ K H M vs ws->vs.length=ws.length
 | _,_,.nil=>rfl
 | _,_,.cons _ r=>by simp[aJ.length r]
theorem aJ.append:∀{vs us:List V} {ws d:List W},aJ K H M vs ws->aJ K H M us d->aJ K H M (vs++us) (ws++d)
 | _,_,_,_,.nil,s=>s
 | _,_,_,_,.cons x r,s=>.cons x (aJ.append r s)
theorem aJ.getW:∀{vs:List V} {ws:List W} {i:Nat} {w:W},aJ K H M vs ws->ws[i]? = some w->∃v,vs[i]? = some v/\AV K H M v w
 | _,_,_,_,.nil,e=>by simp at e
 | _,_,0,_,.cons x _,e=>by simp at e;subst e;exact⟨_,rfl,x⟩
 | _,_,i+1,w,.cons _ r,e=>by
  obtain⟨v,O,Z⟩:=aJ.getW (i:=i) (w:=w) r (by simpa using e);exact⟨v,by simpa using O,Z⟩
theorem aJ.getV:∀{vs:List V} {ws:List W} {i:Nat} {v:V},aJ K H M vs ws->vs[i]? = some v->∃w,ws[i]? = some w/\AV K H M v w
 | _,_,_,_,.nil,e=>by simp at e
 | _,_,0,_,.cons x _,e=>by simp at e;subst e;exact⟨_,rfl,x⟩
 | _,_,i+1,v,.cons _ r,e=>by
  obtain⟨w,O,Z⟩:=aJ.getV (i:=i) (v:=v) r (by simpa using e);exact⟨w,by simpa using O,Z⟩
theorem aJ.set(x:AV K H M v w):∀{vs:List V} {ws:List W} (i:Nat),aJ K H M vs ws->aJ K H M (vs.set i v) (ws.set i w)
 | _,_,_,.nil=>.nil
 | _,_,0,.cons _ t=>.cons x t
 | _,_,i+1,.cons q t=>.cons q (aJ.set x i t)
theorem aJ.take:∀{vs:List V} {ws:List W} (n:Nat),aJ K H M vs ws->aJ K H M (vs.take n) (ws.take n)
 | _,_,0,_=>by simp;exact .nil
 | _,_,_+1,.nil=>.nil
 | _,_,n+1,.cons x t=>.cons x (aJ.take n t)
theorem aJ.drop:∀{vs:List V} {ws:List W} (n:Nat),aJ K H M vs ws->aJ K H M (vs.drop n) (ws.drop n)
 | _,_,0,h=>h
 | _,_,_+1,.nil=>.nil
 | _,_,n+1,.cons _ t=>aJ.drop n t
theorem aJ.reverse(h:aJ K H M vs ws):aJ K H M vs.reverse ws.reverse:=by
 induction vs generalizing ws with
 | nil=>cases h;exact .nil
 | cons v vs E=>
  cases h with
  | cons x r=>rw[List.reverse_cons,List.reverse_cons];exact(E r).append (.cons x .nil)
theorem aJ.dropLast(h:aJ K H M vs ws):aJ K H M vs.dropLast ws.dropLast:=by
 rw[List.dropLast_eq_take,List.dropLast_eq_take,h.length];exact h.take _
theorem aJ.flatRep(h:aJ K H M vs ws):∀n:Nat,aJ K H M (Bz n vs).flatten (Bz n ws).flatten
 | 0=>.nil
 | n+1=>by
  rw[Es,Es,Gq,Gq];exact h.append (aJ.flatRep h n)
theorem aJ.int(is:List Int):aJ K H M (is.map V.int) (is.map W.int):=by
 induction is with
 | nil=>exact .nil
 | cons i r E=>exact .cons (.int i) E
theorem EV(B:H p=none)(F:∀b,b≠p->M b=none->M' b=none):Go H M (aN H p u) M':=
 ⟨λb xs e=>by rw[bB (eO e B)];exact e,λb o x e=>by rw[bB (eO e B)];exact e,λb o n e=>⟨by rw[bB (eO e B)];exact e,F b (eO e B) n⟩⟩
theorem EW(B:H p=none):Go H M (aN H p u) (put M p o):=EV B λb ne n=>by rw[aM ne];exact n
theorem go_same(B:H p=none):Go H M (aN H p u) M:=EV B λb ne n=>n
theorem AM.laid(U:AM K H M)(B:H p=none)(h:AO K (aN H p u) (put M p o) p o):AM K (aN H p u) (put M p o)/\Kp H M (aN H p u) (put M p o):=by
 refine⟨λa x e=>?_,λa x h e=>⟨?_,?_⟩,λa x h=>?_⟩
 .by_cases l:a=p
  .subst l;rw[aL]at e;cases e;exact h
  .rw[aM l]at e;exact(U a x e).go (EW B) (bB l)
 .rw[bB (eO e B)];exact e
 .rw[aM (eO e B)];exact h
 .obtain⟨y,e⟩:=(U a x h).has;exact⟨y,by rw[bB (eO e B)];exact e⟩
theorem EX:Go H (put M p o) H (put M p u):=⟨λ_ _ e=>e,λ_ _ _ e=>e,λb x n e=>⟨e,by
 have ne:b≠p:=λz=>by rw[z,aL]at n;cases n
 rw[aM ne]at n⊢;exact n⟩⟩
theorem AM.tup{p:Aj}{u:HO}(U:AM K H M)(B:H p=none):AM K (aN H p u) M/\Kp H M (aN H p u) M:=by
 refine⟨λa x e=>?_,λa x h e=>⟨?_,h⟩,λa x h=>?_⟩
 .have ne:a≠p:=λz=>by rw[z,U.nonM B]at e;cases e
  exact(U a x e).go (go_same B) (bB ne)
 .rw[bB (eO e B)];exact e
 .obtain⟨y,e⟩:=(U a x h).has;exact⟨y,by rw[bB (eO e B)];exact e⟩
theorem nJ(U:AM K H M)(hl:M l=some c):Go H M (aN H l u) (put M l o):=
 ⟨λb xs e=>by rw[bB (λz=>by rw[<-z,U.noTup e]at hl;cases hl)];exact e,λb ob x e=>by rw[bB (λz=>by rw[<-z,U.noFrz e]at hl;cases hl)];exact e,
   λb x n e=>by
  have ne:b≠l:=λz=>by rw[<-z,n]at hl;cases hl
  rw[bB ne,aM ne];exact⟨e,n⟩⟩
theorem AM.write(U:AM K H M)(hl:M l=some c)(h:AO K (aN H l u) (put M l o) l o):AM K (aN H l u) (put M l o)/\Kp H M (aN H l u) (put M l o):=by
 refine⟨λa x e=>?_,λa x h e=>?_,λa x h=>?_⟩
 .by_cases S:a=l
  .subst S;rw[aL]at e;cases e;exact h
  .rw[aM S]at e;exact(U a x e).go (nJ U hl) (bB S)
 .have:a≠l:=λz=>by rw[z,hl]at h;cases h
  rw[bB this,aM this];exact⟨e,h⟩
 .by_cases S:a=l
  .subst S;exact⟨u,b8⟩
  .obtain⟨y,e⟩:=(U a x h).has;exact⟨y,by rw[bB S];exact e⟩
theorem AM.lst(U:AM K H M)(h:M a=some (.lst ws)):∃vs,H a=some (.lst vs)/\aJ K H M vs ws:=U a _ h
theorem aJ.newT(B:H p=none)(h:aJ K H M vs ws):aJ K (aN H p u) M vs ws:=h.go (go_same B)
theorem aJ.newL(B:H p=none)(h:aJ K H M vs ws):aJ K (aN H p u) (put M p o) vs ws:=h.go (EW B)
theorem aJ.wr(U:AM K H M)(hl:M l=some c)(h:aJ K H M vs ws):aJ K (aN H l u) (put M l o) vs ws:=h.go (nJ U hl)
theorem AV.wr(U:AM K H M)(hl:M l=some c)(h:AV K H M v w):AV K (aN H l u) (put M l o) v w:=h.go (nJ U hl)
end
abbrev S3:=List (Option W)
abbrev K3:=W->Mm->Prop
abbrev aR:=S3->Mm->K3->Prop
abbrev cR:=S3->Mm->(Bool->Mm->Prop)->Prop
abbrev cN:=S3->Mm->(List W->Mm->Prop)->Prop
abbrev R3:=W->W->Mm->K3->Prop
structure D3 where
 nx:S3->Mm->Prop
 rt:K3
 bk:S3->Mm->Prop:=λ_ _=>False
 ct:S3->Mm->Prop:=λ_ _=>False
abbrev aD:=D3->S3->Mm->Prop
def AS(K:Ac)(H:Hp)(M:Mm):SV->S3->Prop:=Ff λy f=>∀w,f=some w->∃v,y=some v/\AV K H M v w
section
variable {K:Ac}{H H':Hp}{M M':Mm}
theorem AS.kp(U:AM K H M)(k:Kp H M H' M')(h:AS K H M Z L):AS K H' M' Z L:=
 Paired.mapP h λy f z w e=>by obtain⟨v,T,r⟩:=z w e;exact⟨v,T,r.kp U k⟩
theorem AS.sub(g:Sub M' M)(h:AS K H M Z L):AS K H M' Z L:=
 Paired.mapP h λy f z w e=>by obtain⟨v,T,r⟩:=z w e;exact⟨v,T,r.sub g⟩
theorem AS.get:∀{Z:SV} {L:S3} {i:Nat},AS K H M Z L->L[i]? = some (some w)->∃v,Z[i]? = some (some v)/\AV K H M v w
 | _,_,_,.nil,e=>by simp at e
 | _,_,0,.cons r _,e=>by
  simp at e;obtain⟨v,O,Y⟩:=r w e;exact⟨v,by rw[O];rfl,Y⟩
 | _,_,i+1,.cons _ t,e=>by
  obtain⟨v,O,Y⟩:=AS.get (i:=i) t (by simpa using e);exact⟨v,by simpa using O,Y⟩
theorem AS.set(r:AV K H M v w):∀{Z:SV} {L:S3} (i:Nat),AS K H M Z L->AS K H M (Z.set i (some v)) (L.set i (some w))
 | _,_,_,.nil=>.nil
 | _,_,0,.cons _ t=>.cons (λx e=>⟨v,rfl,by cases e;exact r⟩) t
 | _,_,i+1,.cons q t=>.cons q (AS.set r i t)
theorem AS.nones:∀n:Nat,AS K H M (Bz n none) (Bz n none)
 | 0=>.nil
 | n+1=>.cons (λ_ e=>nomatch e) (AS.nones n)
theorem AS.start(h:aJ K H M vs ws)(n:Nat):AS K H M (vs.map some++Bz n none) (ws.map some++Bz n none):=by
 induction vs generalizing ws with
 | nil=>cases h;exact AS.nones n
 | cons v vs E=>
  cases h with
  | cons x r=>exact .cons (λw e=>⟨v,rfl,by cases e;exact x⟩) (E r)
end
def Up(K:Ac)(H:Hp)(M:Mm)(R:K3)(Q:VK):Prop:=∀v H' w M',Kp H M H' M'->AM K H' M'->AV K H' M' v w->R w M'->Q v H'
def up(K:Ac)(t:aR):TE:=λZ H Q=>∃L M R,AS K H M Z L/\AM K H M/\t L M R/\Up K H M R Q
def jG(K:Ac)(t:cR):TT:=λZ H Q=>∃(L:S3) (M:Mm) (R:Bool->Mm->Prop),AS K H M Z L/\AM K H M/\t L M R/\∀b H' M',Kp H M H' M'->AM K H' M'->R b M'->Q b H'
def nK(K:Ac)(t:cN):TA:=λZ H Q=>∃(L:S3) (M:Mm) (R:List W->Mm->Prop),AS K H M Z L/\AM K H M/\t L M R/\∀vs H' ws M',Kp H M H' M'->AM K H' M'->aJ K H' M' vs ws->R ws M'->Q vs H'
def fS(K:Ac)(H:Hp)(M:Mm)(R:S3->Mm->Prop)(Q:SV->Hp->Prop):Prop:=∀l H' T M',Kp H M H' M'->AM K H' M'->AS K H' M' l T->R T M'->Q l H'
structure qL(K:Ac)(H:Hp)(M:Mm)(D:D3)(E:gT):Prop where
 nx:fS K H M D.nx E.nx
 rt:Up K H M D.rt E.rt
 bk:fS K H M D.bk E.bk
 ct:fS K H M D.ct E.ct
def lQ(K:Ac)(t:aD):TS:=λE Z H=>∃L M D,AS K H M Z L/\AM K H M/\t D L M/\qL K H M D E
section
variable {K:Ac}{H H1:Hp}{M M1:Mm}
theorem Up.kp(h:Up K H M R Q)(k:Kp H M H1 M1):Up K H1 M1 R Q:=λv H' w M' o U av r=>h v H' w M' (k.trans o) U av r
theorem fS.kp{R:S3->Mm->Prop}{Q:SV->Hp->Prop}(h:fS K H M R Q)(k:Kp H M H1 M1):fS K H1 M1 R Q:=λv H' w M' o U av r=>h v H' w M' (k.trans o) U av r
theorem qL.kp(h:qL K H M D E)(k:Kp H M H1 M1):qL K H1 M1 D E:=⟨h.nx.kp k,h.rt.kp k,h.bk.kp k,h.ct.kp k⟩
theorem Up.at(h:Up K H M R Q)(U:AM K H M)(av:AV K H M v w)(r:R w M):Q v H:=h v H w M (Kp.refl U) U av r
end
@[irreducible] def kM(p:Aj)(M:Mm)(R:K3):Prop:=(∃ws,M p=some (.lst ws)/\R (.rl ws) (del M p))\/(∃kvs,M p=some (.dK kvs)/\R (.dk kvs) (del M p))\/(∃kvs,M p=some (.dT kvs)/\R (.dt kvs) (del M p))\/R (.ref p) M
def frz:W->Mm->K3->Prop
 | .ref p,M,R=>kM p M R
 | w,M,R=>R w M
theorem Up.frz{K:Ac}{H:Hp}{M:Mm}{R:K3}{Q:VK}(h:Up K H M R Q):Up K H M (λw M'=>frz w M' R) Q:=λv H' w M' k U av r=>by
 have G:=av;cases av<;>first|exact h _ _ _ _ k U G r|skip
 case ref p=>
  have r:kM p M' R:=r;unfold kM at r;rcases r with⟨ws,e,r⟩|⟨kvs,e,r⟩|⟨kvs,e,r⟩|r
  .obtain⟨vs,f,q⟩:=U.lst e;exact h _ _ _ _ (k.sub Sub.del) (U.sub Sub.del) (.rl f nG (q.sub Sub.del)) r
  .obtain⟨ks,f,q⟩:=U _ _ e;exact h _ _ _ _ (k.sub Sub.del) (U.sub Sub.del) (.dk f nG q.keys (q.vals.sub Sub.del)) r
  .obtain⟨ks,f,q⟩:=U _ _ e;exact h _ _ _ _ (k.sub Sub.del) (U.sub Sub.del) (.dt f nG q.keys (q.vals.sub Sub.del)) r
  .exact h _ _ _ _ k U (.ref p) r
theorem EY(B:M p=none)(r:R (.rl ws) M):kM p (put M p (.lst ws)) R:=by unfold kM;exact .inl ⟨ws,aL,by rw[iY B];exact r⟩
theorem EZ(B:M p=none)(r:R (.dk kvs) M):kM p (put M p (.dK kvs)) R:=by unfold kM;exact .inr (.inl ⟨kvs,aL,by rw[iY B];exact r⟩)
theorem WQ(B:M p=none)(r:R (.dt kvs) M):kM p (put M p (.dT kvs)) R:=by unfold kM;exact .inr (.inr (.inl ⟨kvs,aL,by rw[iY B];exact r⟩))
def aV(ws:List W)(M:Mm)(R:K3):Prop:=∀p,M p=none->R (.ref p) (put M p (.lst ws))
def iZ(kvs:List (aB×W))(M:Mm)(R:K3):Prop:=∀p,M p=none->R (.ref p) (put M p (.dK kvs))
def jH(kvs:List (List aB×W))(M:Mm)(R:K3):Prop:=∀p,M p=none->R (.ref p) (put M p (.dT kvs))
theorem aV.frz(r:R (.rl ws) M):aV ws M λw M'=>L2.frz w M' R:=λp B=>EY B r
theorem iZ.frz(r:R (.dk kvs) M):iZ kvs M λw M'=>L2.frz w M' R:=λp B=>EZ B r
theorem jH.frz(r:R (.dt kvs) M):jH kvs M λw M'=>L2.frz w M' R:=λp B=>WQ B r
abbrev bN(t:aR):aR:=λL M R=>t L M λw M'=>frz w M' R
def WR(K:Ac)(H:Hp)(M:Mm)(v:V):W->Prop
 | .non=>v=.non
 | .bl b=>v=.bl b
 | .int i=>v=.int i
 | .str x=>v=.str x
 | .ty n=>v=.ty n
 | .tup ws=>∃a xs,v=.ref a/\H a=some (.tup xs)/\aJ K H M xs ws
 | .sc ws=>∃a xs,v=.ref a/\kK K H a xs/\aJ K H M xs ws
 | .rl ws=>∃a xs,v=.ref a/\H a=some (.lst xs)/\M a=none/\aJ K H M xs ws
 | .ref a=>v=.ref a
 | .dk kvs=>∃a ks,v=.ref a/\H a=some (.dK ks)/\M a=none/\bK K H M aB ks kvs
 | .dt kvs=>∃a ks,v=.ref a/\H a=some (.dT ks)/\M a=none/\bK K H M (List aB) ks kvs
 | .fk kvs=>∃a ks,v=.ref a/\(∃o,H a=some (.frz o (.dK ks)))/\bK K H M aB ks kvs
 | .ft kvs=>∃a ks,v=.ref a/\(∃o,H a=some (.frz o (.dT ks)))/\bK K H M (List aB) ks kvs
section
variable {K:Ac}{H:Hp}{M:Mm}{v:V}{vs:List V}{w:W}{ws:List W}{C:Prop}
theorem AV.inv(h:AV K H M v w):WR K H M v w:=by
 cases h
 case non|bl|int|str|ty|ref=>rfl
 case tup|sc=>rename_i e q;exact⟨_,_,rfl,e,q⟩
 case rl=>rename_i e n q;exact⟨_,_,rfl,e,n,q⟩
 case dk|dt=>rename_i e n z q;exact⟨_,_,rfl,e,n,nH z q⟩
 case fk|ft=>rename_i e z q;exact⟨_,_,rfl,⟨_,e⟩,nH z q⟩
theorem AV.tupE(h:AV K H M v (.tup ws))(c:∀a xs,v=.ref a->H a=some (.tup xs)->aJ K H M xs ws->C):C:=
 let ⟨a,xs,e,f,q⟩:=h.inv;c a xs e f q
theorem AV.scE(h:AV K H M v (.sc ws))(c:∀a xs,v=.ref a->kK K H a xs->aJ K H M xs ws->C):C:=
 let ⟨a,xs,e,f,q⟩:=h.inv;c a xs e f q
theorem AV.rlE(h:AV K H M v (.rl ws))(c:∀a xs,v=.ref a->H a=some (.lst xs)->aJ K H M xs ws->C):C:=
 let ⟨a,xs,e,f,_,q⟩:=h.inv;c a xs e f q
theorem aJ.nil_(h:aJ K H M vs []):vs=[]:=by cases h;rfl
theorem aJ.one(h:aJ K H M vs [w]):∃v,vs=[v]/\AV K H M v w:=by
 cases h with
 | cons x r=>rw[r.nil_];exact⟨_,rfl,x⟩
theorem aJ.oneE(h:aJ K H M vs [w])(c:∀v,vs=[v]->AV K H M v w->C):C:=h.one.elim λv h=>c v h.1 h.2
theorem aJ.two(h:aJ K H M vs [w,z]):∃v u,vs=[v,u]/\AV K H M v w/\AV K H M u z:=by
 cases h with
 | cons x r=>obtain⟨u,rfl,y⟩:=r.one;exact⟨_,_,rfl,x,y⟩
theorem AM.lstE(U:AM K H M)(e:M a=some (.lst ws))(c:∀xs,H a=some (.lst xs)->aJ K H M xs ws->C):C:=(U.lst e).elim λv h=>c v h.1 h.2
theorem iD(e:vs=[x])(f:x=y):vs=[y]:=by rw[e,f]
end
theorem up.el{K:Ac}{H:Hp}{Z:SV}{C:Prop}{t:aR}{Q:VK}(h:up K t Z H Q)(c:∀L M R,AS K H M Z L->AM K H M->t L M R->Up K H M R Q->C):C:=by obtain⟨L,M,R,a,b,h,k⟩:=h;exact c L M R a b h k
theorem jG.el{K:Ac}{H:Hp}{Z:SV}{C:Prop}{t:cR}{Q:Bool->Hp->Prop}(h:jG K t Z H Q)(c:∀L M R,AS K H M Z L->AM K H M->t L M R->(∀b H' M',Kp H M H' M'->AM K H' M'->R b M'->Q b H')->C):C:=by obtain⟨L,M,R,a,b,h,k⟩:=h;exact c L M R a b h k
theorem nK.el{K:Ac}{H:Hp}{Z:SV}{C:Prop}{t:cN}{Q:List V->Hp->Prop}(h:nK K t Z H Q)(c:∀L M R,AS K H M Z L->AM K H M->t L M R->(∀vs H' ws M',Kp H M H' M'->AM K H' M'->aJ K H' M' vs ws->R ws M'->Q vs H')->C):C:=by obtain⟨L,M,R,a,b,h,k⟩:=h;exact c L M R a b h k
theorem lQ.el{K:Ac}{H:Hp}{Z:SV}{C:Prop}{t:aD}{E:gT}(h:lQ K t E Z H)(c:∀L M D,AS K H M Z L->AM K H M->t D L M->qL K H M D E->C):C:=by obtain⟨L,M,D,a,b,h,k⟩:=h;exact c L M D a b h k
section
variable {X:Cx}
theorem PE.weak(h:PE X e t)(k:∀Z H Q,t' Z H Q->t Z H Q):PE X e t':=λpins s Z H Q I q=>h pins s Z H Q I (k Z H Q q)
theorem PT.weak(h:PT X e t)(k:∀Z H Q,t' Z H Q->t Z H Q):PT X e t':=λpins s Z H Q I q=>h pins s Z H Q I (k Z H Q q)
theorem PW.weak(h:PW X e t)(k:∀Z H Q,t' Z H Q->t Z H Q):PW X e t':=λd pins s Z H Q I q=>h d pins s Z H Q I (k Z H Q q)
theorem PA.weak(h:PA X es t)(k:∀Z H Q,t' Z H Q->t Z H Q):PA X es t':=λpos pins s Z H Q I q=>h pos pins s Z H Q I (k Z H Q q)
theorem PS.weak{st:PySem.Stmt}{t t':TS}(h:PS X st t)(k:∀D Z H,t' D Z H->t D Z H):PS X st t':=λpins s Z H D I q=>h pins s Z H D I (k D Z H q)
theorem eR.weak{st:List PySem.Stmt}{t t':TS}(h:eR X st t)(k:∀D Z H,t' D Z H->t D Z H):eR X st t':=λpins s Z H D I q=>h pins s Z H D I (k D Z H q)
theorem PO.weak(h:PO X e t)(k:∀Z H Q,t' Z H Q->t Z H Q):PO X e t':=λpins s Z H Q I q=>h pins s Z H Q I (k Z H Q q)
theorem iB.weak(h:iB X es t)(k:∀Z H Q,t' Z H Q->t Z H Q):iB X es t':=λpins s Z H Q I q=>h pins s Z H Q I (k Z H Q q)
end
abbrev E3(X:Cx)(e:Cb)(t:aR):Prop:=PE X e (up X.K t)
abbrev T3(X:Cx)(e:Cb)(t:cR):Prop:=PT X e (jG X.K t)
abbrev W3(X:Cx)(e:Cb)(t:cR):Prop:=PW X e (jG X.K t)
abbrev A3(X:Cx)(es:List Cb)(t:cN):Prop:=PA X es (nK X.K t)
def cJ(K:Ac)(r:R3):R2:=λx y H Q=>∃F S M R,AM K H M/\AV K H M x F/\AV K H M y S/\r F S M R/\Up K H M R Q
def E4(K:Ac)(r:W->Mm->K3->Prop):V->Hp->VK->Prop:=λx H Q=>∃F M R,AM K H M/\AV K H M x F/\r F M R/\Up K H M R Q
def eV(K:Ac)(r:List W->Mm->K3->Prop):List V->Hp->VK->Prop:=λxs H Q=>∃ws M R,AM K H M/\aJ K H M xs ws/\r ws M R/\Up K H M R Q
def jI(K:Ac)(r:W->List W->Mm->K3->Prop):V->List V->Hp->VK->Prop:=λx xs H Q=>∃F ws M R,AM K H M/\AV K H M x F/\aJ K H M xs ws/\r F ws M R/\Up K H M R Q
section
variable {X:Cx}{a b c:Cb}{ta tb tc:aR}{pos:Gy}
def so{y:Type}:Option y->(y->Prop)->Prop
 | some a,Q=>Q a
 | none,_=>False
theorem so.el{y:Type}{o:Option y}{Q:y->Prop}(h:so o Q):∃a,o=some a/\Q a:=by
 cases o
 .exact h.elim
 .exact⟨_,rfl,h⟩
theorem so.of{y:Type}{o:Option y}{a:y}{Q:y->Prop}(e:o=some a)(h:Q a):so o Q:=by subst e;exact h
abbrev qM:W->(Bool->Prop)->Prop
 | .bl k,Q=>Q k
 | _,_=>False
theorem qM.el{Q:Bool->Prop}(h:qM w Q):∃k,w=.bl k/\Q k:=by cases w<;>first|exact⟨_,rfl,h⟩|exact h.elim
abbrev sz:List W->Prop->Prop
 | [],Q=>Q
 | [_],Q=>Q
 | [_,_],Q=>Q
 | [_,_,_],Q=>Q
 | [_,_,_,_],Q=>Q
 | ws,Q=>ws.length<=Ao/\Q
theorem sz.el{Q:Prop}(h:sz ws Q):ws.length<=Ao/\Q:=by
 unfold sz at h;split at h
 case h_6=>exact h
 all_goals exact⟨Bf (by simp) (show 4<=Ao by decide),h⟩
abbrev cY(i:Nat):aR:=λL M R=>match L[i]? with
 | some (some w)=>R w M
 | _=>False
theorem WS{i:Nat}(h:cY i L M R):∃w,L[i]? = some (some w)/\R w M:=by
 unfold cY at h;split at h
 .exact⟨_,‹_›,h⟩
 .exact h.elim
abbrev vC(w:W):aR:=λ_ M R=>R w M
theorem v(i:Nat)(Y:X.N[i]? = some x:=by rfl)(c:sF X.env.scope x:=by first|exact Or.inl rfl|exact Or.inr (Or.inl rfl)|exact Or.inr (Or.inr rfl))(hd:Db x:=by decide)(z:(x==("__classdict__" : Aw))=false:=by decide):E3 X (.Name x pos) (cY i):=(B7 Y c hd z).weak λZ H Q ⟨L,M,R,A,U,h,k⟩=>by
 obtain⟨w,e,r⟩:=WS h;obtain⟨v,T,av⟩:=A.get e;exact⟨v,T,k.at U av r⟩
theorem oS{i j pos}:E3 X (.Constant (.int i) j pos) (vC (.int i)):=O7.weak λZ H Q s=>s.el λL M R A U r k=>k.at U (.int i) r
theorem E5{b j pos}:E3 X (.Constant (.bool b) j pos) (vC (.bl b)):=O8.weak λZ H Q s=>s.el λL M R A U r k=>k.at U (.bl b) r
theorem E6{x j pos}:E3 X (.Constant (.str x) j pos) (vC (.str x)):=O9.weak λZ H Q s=>s.el λL M R A U r k=>k.at U (.str x) r
theorem oT{x:Aw}{y:V}{w:W}{u:Ae}{pos:Gy}(Y:Gl X x)(J:X.mg x=some u)(r:RelV y u)(hw:∀H M,AV X.K H M y w)(hd:Db x:=by decide):E3 X (.Name x pos) (vC w):=
 (PC Y J r hd).weak λZ H Q s=>s.el λL M R A U r k=>k.at U (hw H M) r
theorem WT{x:Aw}{y:V}{w:W}{u:Ae}{pos:Gy}(Y:Gl X x)(J:X.mg x=none)(c:Cs x=some u)(r:RelV y u)(hw:∀H M,AV X.K H M y w)(f:x≠"__name__":=by decide)(hd:Db x:=by decide):E3 X (.Name x pos) (vC w):=
 (PD Y J c r f hd).weak λZ H Q s=>s.el λL M R A U r k=>k.at U (hw H M) r
theorem tI(l:E3 X a ta):E3 X a (bN ta):=l.weak λZ H Q s=>s.el λL M R A U h k=>⟨L,M,_,A,U,h,k.frz⟩
abbrev aG(r:R3)(ta tb:aR):aR:=λL M R=>ta L M λx M1=>tb L M1 λy v=>r x y v R
abbrev aH:=cY 0
abbrev aS:=cY 1
abbrev a6:=cY 2
abbrev bJ:=cY 3
abbrev bG:=cY 4
abbrev c0:=cY 5
abbrev cS:=cY 6
abbrev cT:=cY 7
abbrev gY:=cY 8
abbrev jJ:=cY 9
abbrev tJ:=cY 10
abbrev tK:=cY 11
abbrev xM:=cY 12
abbrev vI(i:Int):=vC (.int i)
abbrev bL:=vI 0
abbrev bD:=vI 1
abbrev lR:=vI 2
abbrev lS:=vI 3
theorem tL{K:Ac}{r:R3}{Z:SV}{H:Hp}{Q:VK}(h:up K (aG r ta tb) Z H Q):qA (cJ K r) (up K ta) (up K tb) Z H Q:=by
 obtain⟨L,M,R,A,U,h,k⟩:=h;refine⟨L,M,_,A,U,h,λx H1 F M1 k1 P N O=>⟨L,M1,_,A.kp U k1,P,O,λy z S v k2 E t Y=>?_⟩⟩;exact⟨F,S,v,R,E,N.kp P k2,t,Y,(k.kp k1).kp k2⟩
theorem WU(D:bC X (Ee op) (cJ X.K r))(l:E3 X a ta)(Y:E3 X b tb):E3 X (.BinOp a op b pos) (aG r ta tb):=(Q0 D l Y).weak λ_ _ _ h=>tL h
theorem E7(ho:bC X (Dj op) (cJ X.K r))(ha:E3 X a ta)(hb:E3 X b tb)(hm:Lu op b=false:=by first|exact CM _|with_unfolding_all rfl):E3 X (.Compare a [op] [b] pos) (aG r ta tb):=(RN ho ha hb hm).weak λ_ _ _ h=>tL h
abbrev bT(t:aR):cR:=λL M Q=>t L M λw M'=>qM w λk=>Q k M'
theorem AV.bl_inv{K:Ac}{H:Hp}{M:Mm}{v:V}{k:Bool}(h:AV K H M v (.bl k)):v=.bl k:=by cases h;rfl
theorem oU{op:CmpOp}{r:R3}(D:bC X (Dj op) (cJ X.K r))(l:E3 X a ta)(Y:E3 X b tb)(J:Lu op b=false:=by first|exact CM _|with_unfolding_all rfl):T3 X (.Compare a [op] [b] pos) (bT (aG r ta tb)):=
 (RP D l Y J).weak λZ H Q s=>s.el λL M R A U h k=>tL ⟨L,M,_,A,U,h,λv H' w M' o d av h=>by
  obtain⟨c,rfl,r⟩:=h.el;exact⟨c,av.bl_inv,k c H' M' o d r⟩⟩
abbrev jY(r:W->Mm->K3->Prop)(ta:aR):aR:=λL M R=>ta L M λx M1=>r x M1 R
theorem WV{op:UnaryOp}{r:W->Mm->K3->Prop}(D:p9 X (Uk op) (E4 X.K r))(l:E3 X a ta):E3 X (.UnaryOp op a pos) (jY r ta):=
 (Q1 D l).weak λZ H Q s=>s.el λL M R A U h k=>⟨L,M,_,A,U,h,λx H1 F M1 k1 P N O=>⟨F,M1,R,P,N,O,k.kp k1⟩⟩
def tM:W->Mm->(Bool->Mm->Prop)->Prop
 | .non,M,Q=>Q false M
 | .bl b,M,Q=>Q b M
 | .int i,M,Q=>Q (i !=0) M
 | .str y,M,Q=>y.length<=Ao/\Q ((y.length:Int) !=0) M
 | .tup ws,M,Q=>Q (!ws.isEmpty) M
 | .rl ws,M,Q=>Q (!ws.isEmpty) M
 | .sc ws,M,Q=>Q (!ws.isEmpty) M
 | .dk kvs,M,Q=>Q (!kvs.isEmpty) M
 | .ref p,M,Q=>(∃ws,M p=some (.lst ws)/\Q (!ws.isEmpty) M)\/∃kvs,M p=some (.dK kvs)/\Q (!kvs.isEmpty) M
 | _,_,_=>False
abbrev gK(t:aR):cR:=λL M Q=>t L M λw M'=>tM w M' Q
theorem aJ.empty{K:Ac}{H:Hp}{M:Mm}{vs:List V}{ws:List W}(h:aJ K H M vs ws):(!ws.isEmpty) = !vs.isEmpty:=by cases h<;>rfl
theorem E8(l:E3 X a ta)(P:∀c,Tg a X.env c=(do let v <-c;Pu a.pos;Jf [v] (truthy v)):=by intro _;rfl):T3 X a (gK ta):=
 (RT l P).weak λZ H Q s=>s.el λL M R A U h k=>⟨L,M,_,A,U,h,λv H' w M' o d av r=>by
  cases av with
  | non=>exact⟨false,rfl,k _ _ _ o d r⟩
  | bl b=>exact⟨b,rfl,k _ _ _ o d r⟩
  | int i=>exact⟨_,rfl,k _ _ _ o d r⟩
  | str y=>exact⟨_,⟨r.1,rfl⟩,k _ _ _ o d r.2⟩
  | ty n=>exact Bn r
  | tup e q=>exact⟨_,.inr (.inl ⟨_,bW.of e,q.empty⟩),k _ _ _ o d r⟩
  | rl e n q=>exact⟨_,.inl ⟨_,bH.of e,q.empty⟩,k _ _ _ o d r⟩
  | sc e q=>exact⟨_,.inl ⟨_,e.sq,q.empty⟩,k _ _ _ o d r⟩
  | @dk a ks kvs e n O q=>exact⟨!kvs.isEmpty,.inr (.inr ⟨_,e,by have:=nH O q;cases this<;>rfl⟩),k _ _ _ o d r⟩
  | dt e n O q=>exact Bn r
  | fk e O q=>exact Bn r
  | ft e O q=>exact Bn r
  | ref p=>
   rcases r with⟨ws,e,r⟩|⟨kvs,e,r⟩
   .obtain⟨vs,T,q⟩:=d.lst e;exact⟨_,.inl ⟨_,bH.of T,q.empty⟩,k _ _ _ o d r⟩
   .obtain⟨ks,T,q⟩:=d _ _ e;exact⟨!kvs.isEmpty,.inr (.inr ⟨_,T,by cases q<;>rfl⟩),k _ _ _ o d r⟩⟩
abbrev kN(t u:cR):cR:=λL M Q=>t L M λc M1=>if c=true then u L M1 Q else Q false M1
abbrev lU(t u:cR):cR:=λL M Q=>t L M λc M1=>if c=true then Q true M1 else u L M1 Q
abbrev xN(t:cR):cR:=λL M Q=>t L M λc M1=>Q (!c) M1
variable {tA tB':cR}{rest:List Cb}
theorem E9(l:T3 X a tA):W3 X (.BoolOp .And [a] pos) tA:=PK l
theorem FA(l:T3 X a tA):W3 X (.BoolOp .Or [a] pos) tA:=PL l
theorem FC(l:T3 X a tA)(Y:W3 X (.BoolOp .And (b::rest) pos) tB'):W3 X (.BoolOp .And (a::b::rest) pos) (kN tA tB'):=
 (PM l Y).weak λZ H Q s=>s.el λL M R A U h k=>⟨L,M,_,A,U,h,λc H1 M1 k1 P O=>by
  cases c with
  | true=>exact⟨L,M1,R,A.kp U k1,P,O,λb H' M' o d r=>k b H' M' (k1.trans o) d r⟩
  | false=>exact k false H1 M1 k1 P O⟩
theorem FD(l:T3 X a tA)(Y:W3 X (.BoolOp .Or (b::rest) pos) tB'):W3 X (.BoolOp .Or (a::b::rest) pos) (lU tA tB'):=
 (PQ l Y).weak λZ H Q s=>s.el λL M R A U h k=>⟨L,M,_,A,U,h,λc H1 M1 k1 P O=>by
  cases c with
  | true=>exact k true H1 M1 k1 P O
  | false=>exact⟨L,M1,R,A.kp U k1,P,O,λb H' M' o d r=>k b H' M' (k1.trans o) d r⟩⟩
theorem WW(l:T3 X a tA):T3 X (.UnaryOp .Not a pos) (xN tA):=
 (PR l).weak λZ H Q s=>s.el λL M R A U h k=>⟨L,M,_,A,U,h,λc H1 M1 k1 P O=>k (!c) H1 M1 k1 P O⟩
abbrev tN(ta tb:aR):aR:=λL M R=>ta L M λx M1=>qM x λc=>if c=true then tb L M1 R else R (.bl false) M1
abbrev nL(ta tb:aR):aR:=λL M R=>ta L M λx M1=>qM x λc=>if c=true then R (.bl true) M1 else tb L M1 R
theorem FE{op}(h:E3 X a ta):E3 X (.BoolOp op [a] pos) ta:=PX h
theorem v_and(l:E3 X a ta)(Y:E3 X (.BoolOp .And (b::rest) pos) tb):E3 X (.BoolOp .And (a::b::rest) pos) (tN ta tb):=
 (PY l Y).weak λZ H Q s=>s.el λL M R A U h k=>⟨L,M,_,A,U,h,λx H1 F M1 k1 P N h=>by
  obtain⟨c,rfl,O⟩:=h.el;refine⟨c,N.bl_inv,?_⟩;cases c with
  | true=>exact⟨L,M1,R,A.kp U k1,P,O,k.kp k1⟩
  | false=>exact(k.kp k1).at P (.bl false) O⟩
theorem v_or(l:E3 X a ta)(Y:E3 X (.BoolOp .Or (b::rest) pos) tb):E3 X (.BoolOp .Or (a::b::rest) pos) (nL ta tb):=
 (PZ l Y).weak λZ H Q s=>s.el λL M R A U h k=>⟨L,M,_,A,U,h,λx H1 F M1 k1 P N h=>by
  obtain⟨c,rfl,O⟩:=h.el;refine⟨c,N.bl_inv,?_⟩;cases c with
  | true=>exact(k.kp k1).at P (.bl true) O
  | false=>exact⟨L,M1,R,A.kp U k1,P,O,k.kp k1⟩⟩
abbrev xO(t:cR)(ta tb:aR):aR:=λL M R=>t L M λc M1=>if c=true then ta L M1 R else tb L M1 R
theorem WX(hc:T3 X c tA)(l:E3 X a ta)(Y:E3 X b tb):E3 X (.IfExp c a b pos) (xO tA ta tb):=
 (P1 hc l Y).weak λZ H Q s=>s.el λL M R A U h k=>⟨L,M,_,A,U,h,λc H1 M1 k1 P O=>by
  cases c with
  | true=>exact⟨L,M1,R,A.kp U k1,P,O,k.kp k1⟩
  | false=>exact⟨L,M1,R,A.kp U k1,P,O,k.kp k1⟩⟩
abbrev aC:cN:=λ_ M R=>R [] M
abbrev aA(ta:aR)(a:cN):cN:=λL M R=>ta L M λx M1=>a L M1 λxs v=>R (x::xs) v
variable {e:Cb}{es:List Cb}{te:aR}{t:cN}
theorem fT:A3 X [] aC:=SG.weak λZ H Q s=>s.el λL M R A U h k=>k [] H [] M (Kp.refl U) U .nil h
theorem eQ(l:E3 X e te)(g:A3 X es t)(F:Se X e es:=by rfl):A3 X (e::es) (aA te t):=
 (SH l g F).weak λZ H Q s=>s.el λL M R A U h k=>⟨L,M,_,A,U,h,λx H1 D M1 k1 P N O=>⟨L,M1,_,A.kp U k1,P,O,λxs z ws v k2 E S Y=>
  k (x::xs) z (D::ws) v (k1.trans k2) E (.cons (N.kp P k2) S) Y⟩⟩
abbrev a9(t:cN):aR:=λL M R=>t L M λws M1=>sz ws (R (.tup ws) M1)
abbrev iL(t:cN):aR:=λL M R=>t L M λws M1=>sz ws (aV ws M1 R)
theorem laidT{K:Ac}{H:Hp}{M:Mm}{R:K3}{Q:VK}{p:Aj}{xs:List V}{ws:List W}(U:AM K H M)(k:Up K H M R Q)(B:H p=none)(N:aJ K H M xs ws)(r:R (.tup ws) M):Q (.ref p) (aN H p (.tup xs)):=by
 obtain⟨E,k2⟩:=U.tup (u:=.tup xs) B;exact k _ _ _ _ k2 E (.tup b8 (N.newT B)) r
theorem gL{K:Ac}{H:Hp}{M:Mm}{R:K3}{Q:VK}{p:Aj}{xs:List V}{ws:List W}(U:AM K H M)(k:Up K H M R Q)(B:H p=none)(N:aJ K H M xs ws)(r:∀p,M p=none->R (.ref p) (put M p (.lst ws))):Q (.ref p) (aN H p (.lst xs)):=by
 obtain⟨E,k2⟩:=U.laid (o:=.lst ws) (u:=.lst xs) B ⟨xs,b8,N.newL B⟩;exact k _ _ _ _ k2 E (.ref p) (r p (U.nonM B))
theorem xP{K:Ac}{H:Hp}{M:Mm}{R:K3}{Q:VK}{l:Aj}{xs:List V}{ws b:List W}{y:V}{w:W}(U:AM K H M)(k:Up K H M R Q)(hl:M l=some (.lst b))(N:aJ K H M xs ws)(t:AV K H M y w)(r:R w (put M l (.lst ws))):Q y (aN H l (.lst xs)):=by
 obtain⟨E,k2⟩:=U.write (o:=.lst ws) (u:=.lst xs) hl ⟨xs,b8,N.wr U hl⟩;exact k _ _ _ _ k2 E (t.wr U hl) r
theorem FF{x1}(h:A3 X es t):E3 X (.Tuple es x1 pos) (a9 t):=
 (SM h).weak λZ H Q s=>s.el λL M R A U h k=>⟨L,M,_,A,U,h,λxs H1 ws M1 k1 P S r=>⟨by rw[S.length];exact r.el.1,λp B=>laidT P (k.kp k1) B S r.el.2⟩⟩
theorem WY(h:A3 X es t):E3 X (.List es pos) (iL t):=
 (CU h).weak λZ H Q s=>s.el λL M R A U h k=>⟨L,M,_,A,U,h,λxs H1 ws M1 k1 P S r=>⟨by rw[S.length];exact r.el.1,λp B=>gL P (k.kp k1) B S r.el.2⟩⟩
abbrev bU(r:List W->Mm->K3->Prop)(t:cN):aR:=λL M R=>t L M λws M1=>r ws M1 R
variable {x:Aw}{p:Gy}{id T:String}{r:List W->Mm->K3->Prop}
theorem FG{K:Ac}{Z:SV}{H:Hp}{Q:VK}(h:up K (bU r t) Z H Q):wQ (eV K r) (nK K t) Z H Q:=by
 obtain⟨L,M,R,A,U,h,k⟩:=h;exact⟨L,M,_,A,U,h,λxs H1 ws M1 k1 P S O=>⟨ws,M1,R,P,S,O,k.kp k1⟩⟩
theorem lV(hc:cM X (.builtin id) (eV X.K r))(Z:Gl X x)(J:X.mg x=none)(c:Cs x=some (.builtin id))(l:A3 X (e::es) t)(U:x≠"__name__":=by decide)(o:Db x:=by decide)(F:Se X e es:=by rfl)(b:Sb X pos es:=by rfl):E3 X (.Call (.Name x p) (e::es) [] pos) (bU r t):=(SX hc Z J c l U o F b).weak λ_ _ _ h=>FG h
theorem kO(hc:cM X (.type T) (eV X.K r))(Z:Gl X x)(J:X.mg x=none)(c:Cs x=some (.type T))(l:A3 X (e::es) t)(U:x≠"__name__":=by decide)(o:Db x:=by decide)(F:Se X e es:=by rfl)(b:Sb X pos es:=by rfl):E3 X (.Call (.Name x p) (e::es) [] pos) (bU r t):=(SY hc Z J c l U o F b).weak λ_ _ _ h=>FG h
abbrev a8:=List W->Mm->K3->Prop
def eW(K:Ac)(sp:a8):Sp:=λvs H Q _=>∃ws M R,AM K H M/\aJ K H M vs ws/\sp ws M R/\Up K H M R Q
variable {k:Nat}{f:Aj}{fd:Dz}{ps:List Aw}{sp:a8}
abbrev aZ(sp:a8)(t:cN):aR:=λL M R=>t L M λws M1=>sp ws M1 R
theorem FH{K:Ac}{Z:SV}{H:Hp}{Q:VK}(h:up K (aZ sp t) Z H Q):CV (eW K sp) [] E0 (nK K t) Z H Q:=by
 obtain⟨L,M,R,A,U,h,k⟩:=h;exact⟨L,M,_,A,U,h,λxs H1 ws M1 k1 P S O=>⟨ws,M1,R,P,by rw[Dc];exact S,O,k.kp k1⟩⟩
theorem WZ(F:X.f eS k f fd ps (eW X.K sp))(g:cC k X.A)(Z:Gl X x)(J:X.mg x=some (.ref f))(hk:Em X.K (.ref f)=true)(Y:Binds X.K fd ps [])(l:A3 X (e::es) t)(o:Db x:=by decide)(P:Se X e es:=by rfl)(b:Sb X pos es:=by rfl):
  E3 X (.Call (.Name x p) (e::es) [] pos) (aZ sp t):=(CY F g Z J hk Y .nil oP l o P b).weak λ_ _ _ h=>FH h
def kP(T:String):W->Mm->Prop
 | .str _,_=>T = "str"
 | .int _,_=>T = "int"
 | .rl _,_=>T = "list"
 | .sc _,_=>T = "list"
 | .dk _,_=>T = "dict"
 | .dt _,_=>T = "dict"
 | .fk _,_=>T = "dict"
 | .ft _,_=>T = "dict"
 | .ref p,M=>(T = "list"/\∃ws,M p=some (.lst ws))\/(T = "dict"/\((∃kvs,M p=some (.dK kvs))\/∃kvs,M p=some (.dT kvs)))
 | _,_=>False
theorem FI{K:Ac}{H:Hp}{M:Mm}{v:V}{w:W}(U:AM K H M)(av:AV K H M v w)(h:kP T w M):sP K T v H:=by
 cases av with
 | str y=>exact h
 | int i=>exact h
 | rl e n q=>exact .inl ⟨h,_,bH.of e⟩
 | sc e q=>exact .inl ⟨h,_,e.sq⟩
 | dk e n O q=>exact .inr (.inr (.inl ⟨h,.inl ⟨_,.inl e⟩⟩))
 | dt e n O q=>exact .inr (.inr (.inl ⟨h,.inr ⟨_,.inl e⟩⟩))
 | ref p=>
  rcases h with⟨e,ws,h⟩|⟨e,h⟩
  .obtain⟨vs,J,_⟩:=U.lst h;exact .inl ⟨e,vs,bH.of J⟩
  .refine .inr (.inr (.inl ⟨e,?_⟩));rcases h with⟨kvs,h⟩|⟨kvs,h⟩
   .obtain⟨ks,J,_⟩:=U _ _ h;exact .inl ⟨ks,.inl J⟩
   .obtain⟨ks,J,_⟩:=U _ _ h;exact .inr ⟨ks,.inl J⟩
 | non=>exact h.elim
 | bl b=>exact h.elim
 | ty n=>exact h.elim
 | tup e q=>exact h.elim
 | fk e O q=>exact .inr (.inr (.inl ⟨h,.inl ⟨_,.inr ⟨_,e⟩⟩⟩))
 | ft e O q=>exact .inr (.inr (.inl ⟨h,.inr ⟨_,.inr ⟨_,e⟩⟩⟩))
variable {o:Cb}{to:aR}{name:Aw}{apos cpos:Gy}{rm:W->List W->Mm->K3->Prop}
abbrev qN(T:String)(r:W->List W->Mm->K3->Prop)(to:aR):aR:=λL M R=>to L M λx M1=>kP T x M1/\r x [] M1 R
abbrev eA(T:String)(r:W->List W->Mm->K3->Prop)(to:aR)(t:cN):aR:=λL M R=>to L M λx M1=>kP T x M1/\t L M1 λxs v=>r x xs v R
theorem FJ(Y:Pa T)(slot:Slot T name id)(u:Ox (.builtin id)=pure (.type "method_descriptor"))(J:e9 X id (jI X.K rm))(D:E3 X o to)(n:Fx o name X.env (El o X.env)=El o X.env:=by rfl)(y:(apos.endLine==cpos.line)=true:=by rfl):E3 X (.Call (.Attribute o name apos) [] [] cpos) (qN T rm to):=
 (DG Y slot u J D n y).weak λZ H Q s=>s.el λL M R A U h k=>⟨L,M,_,A,U,h,λx H1 F M1 k1 P N ⟨ty,O⟩=>⟨FI P N ty,F,[],M1,R,P,N,.nil,O,k.kp k1⟩⟩
theorem nM(Y:Pa T)(slot:Slot T name id)(u:Ox (.builtin id)=pure (.type "method_descriptor"))(J:e9 X id (jI X.K rm))(D:E3 X o to)(l:A3 X (e::es) t)(n:Fx o name X.env (El o X.env)=El o X.env:=by rfl)(d:((Me cpos (Cj (e::es) X.env)).all (λx=>!x.1)&&(Og cpos (Kv [] X.env)).all (λx=>x.1.isSome)
  &&decide ((e::es).length+([]:List Pz).length+(if ([]:List Pz).isEmpty then 0 else 1)<30))=true:=by rfl)(y:(apos.endLine==cpos.line)=true:=by rfl)(F:Se X e es:=by rfl)(b:Sb X cpos es:=by rfl):
  E3 X (.Call (.Attribute o name apos) (e::es) [] cpos) (eA T rm to t):=
 (UJ Y slot u J D l n d y F b).weak λZ H Q s=>s.el λL M R A U h k=>⟨L,M,_,A,U,h,λx H1 c M1 k1 P N ⟨ty,O⟩=>⟨FI P N ty,L,M1,_,A.kp U k1,P,O,λxs z ws v k2 E S W=>
  ⟨c,ws,v,R,E,N.kp P k2,S,W,(k.kp k1).kp k2⟩⟩⟩
end
section
variable {X:Cx}
theorem lX{f:Ae->Ae->Rw Ae}(Y:bC X f r)(h:∀x y H Q M R,AM X.K H M->Up X.K H M R Q->∀F S,m F S M R->AV X.K H M x F->AV X.K H M y S->r x y H Q):bC X f (cJ X.K m):=
 λpins s Z H x y v u Q I d L ⟨F,S,M,R,U,N,t,O,k⟩=>Y pins s Z H x y v u Q I d L (h x y H Q M R U k F S O N t)
theorem W0(Y:iU X r)(h:∀x y H Q M R,AM X.K H M->Up X.K H M R Q->∀F S,m F S M R->AV X.K H M x F->AV X.K H M y S->r x y H Q):iU X (cJ X.K m):=
 λe b pins s Z H x y v u Q I d L ⟨F,S,M,R,U,N,t,O,k⟩=>Y e b pins s Z H x y v u Q I d L (h x y H Q M R U k F S O N t)
theorem xQ{r:List V->Hp->VK->Prop}{m:List W->Mm->K3->Prop}(Y:cM X f r)(h:∀xs H Q M R,AM X.K H M->Up X.K H M R Q->∀ws,m ws M R->aJ X.K H M xs ws->r xs H Q):cM X f (eV X.K m):=
 λpins s Z H xs us Q I rs ⟨ws,M,R,U,N,O,k⟩=>Y pins s Z H xs us Q I rs (h xs H Q M R U k ws O N)
abbrev tO:R3
 | .int i,.int j,M,R=>R (.int (i+j)) M
 | .tup xs,.tup B,M,R=>xs≠[]/\xs.length+B.length<=Ao/\R (.tup (xs++B)) M
 | .ref a,.ref b,M,R=>∃xs B,M a=some (.lst xs)/\M b=some (.lst B)/\xs.length+B.length<=Ao/\aV (xs++B) M R
 | .rl xs,.ref b,M,R=>∃B,M b=some (.lst B)/\xs.length+B.length<=Ao/\aV (xs++B) M R
 | .ref a,.rl B,M,R=>∃xs,M a=some (.lst xs)/\xs.length+B.length<=Ao/\aV (xs++B) M R
 | .rl xs,.rl B,M,R=>xs.length+B.length<=Ao/\aV (xs++B) M R
 | _,_,_,_=>False
def kQ(M:Mm):W->List W->Prop
 | .ref a,ws=>M a=some (.lst ws)
 | .rl ws,d=>ws=d
 | _,_=>False
theorem lY{K:Ac}{H:Hp}{M:Mm}{v:V}{w:W}{ws:List W}(U:AM K H M)(h:AV K H M v w)(e:kQ M w ws):∃a xs,v=.ref a/\H a=some (.lst xs)/\aJ K H M xs ws:=by
 cases w<;>first|exact Bn e|skip
 case ref a=>exact U.lstE e λxs f q=>⟨_,_,h.inv,f,q⟩
 case rl zs=>exact h.rlE λa xs T f q=>⟨_,_,T,f,by rw[<-show zs=ws from e];exact q⟩
theorem W4{P:W->W->Prop}(m:∀i j,R (.int (i+j)) M->P (.int i) (.int j))(d:∀xs B,xs≠[]/\xs.length+B.length<=Ao/\R (.tup (xs++B)) M->P (.tup xs) (.tup B))(F:∀x y xs B,kQ M x xs->kQ M y B->xs.length+B.length<=Ao->aV (xs++B) M R->P x y):∀x y,tO x y M R->P x y:=by
 intro x y h;cases x<;>first|exact Bn h|(cases y<;>first|exact Bn h|skip)
 case int.int=>exact m _ _ h
 case tup.tup=>exact d _ _ h
 case ref.ref=>obtain⟨xs,B,e,f,l,r⟩:=h;exact F _ _ _ _ e f l r
 case rl.ref=>obtain⟨B,f,l,r⟩:=h;exact F _ _ _ _ rfl f l r
 case ref.rl=>obtain⟨xs,e,l,r⟩:=h;exact F _ _ _ _ e rfl l r
 case rl.rl=>exact F _ _ _ _ rfl rfl h.1 h.2
theorem FK:bC X (Ee .Add) (cJ X.K tO):=lX (Q3.or (TQ.or UO)) λx y H Q M R U k=>W4
 (λi j h N t=>.inl ⟨i,j,N.inv,t.inv,k.at U (.int _) h⟩)
 (λxs Y h N t=>N.tupE λa us T V f=>t.tupE λb vs G n P=>.inr (.inl ⟨a,b,us,vs,T,G,bW.of V,bW.of n,
  λz=>h.1 (Gp.mp (by rw[<-f.length,z];rfl)),by rw[f.length,P.length];exact h.2.1,
  λz=>k.at U (by rw[<-T];exact N) (by rw[<-Dc xs,<-Gp.mp (show Y.length=0 by rw[<-P.length,z];rfl)];exact h.2.2),
  λ_ p B=>laidT U k B (f.append P) h.2.2⟩))
 (λF S xs Y O Z l r N t=>.inr (.inr (by
  obtain⟨a,us,T,V,f⟩:=lY U N O;obtain⟨b,vs,G,n,P⟩:=lY U t Z;exact⟨a,b,us,vs,T,G,V,n,by rw[f.length,P.length];exact l,λp B=>gL U k B (f.append P) r⟩)))
abbrev oV(C:Int->Int->Prop)(g:Int->Int->W):R3
 | .int i,.int j,M,R=>C i j/\R (g i j) M
 | _,_,_,_=>False
theorem W5{C:Int->Int->Prop}{g:Int->Int->W}{P:W->W->Prop}(c:∀i j,C i j/\R (g i j) M->P (.int i) (.int j))(x y:W)(h:oV C g x y M R):P x y:=by
 cases x<;>first|exact Bn h|(cases y<;>first|exact Bn h|exact c _ _ h)
theorem tP{f:Ae->Ae->Rw Ae}{C:Int->Int->Prop}{g:Int->Int->V}{g':Int->Int->W}(Y:bC X f (rI C g))(Z:∀H M i j,AV X.K H M (g i j) (g' i j)):bC X f (cJ X.K (oV C g')):=
 lX Y λx y H Q M R U k=>W5 λi j h N t=>⟨i,j,N.inv,t.inv,h.1,k.at U (Z H M i j) h.2⟩
abbrev lZ(g:Int->Int->W):R3
 | .int i,.int j,M,R=>R (g i j) M
 | _,_,_,_=>False
theorem W6{g:Int->Int->W}{P:W->W->Prop}(c:∀i j,R (g i j) M->P (.int i) (.int j))(x y:W)(h:lZ g x y M R):P x y:=by
 cases x<;>first|exact Bn h|(cases y<;>first|exact Bn h|exact c _ _ h)
theorem oW{f:Ae->Ae->Rw Ae}{g:Int->Int->V}{g':Int->Int->W}(Y:bC X f (jU g))(Z:∀H M i j,AV X.K H M (g i j) (g' i j)):bC X f (cJ X.K (lZ g')):=
 lX Y λx y H Q M R U k=>W6 λi j h N t=>⟨i,j,N.inv,t.inv,k.at U (Z H M i j) h⟩
abbrev kR:R3:=lZ λi j=>.int (i-j)
theorem W7:bC X (Ee .Sub) (cJ X.K kR):=oW Q4 λ_ _ _ _=>.int _
abbrev jK:R3:=oV D0 λi j=>.int (i/j)
theorem W8:bC X (Ee .FloorDiv) (cJ X.K jK):=tP VN λ_ _ _ _=>.int _
abbrev gZ:R3:=oV (λ_ j=>0<j) λi j=>.int (i % j)
theorem W9:bC X (Ee .Mod) (cJ X.K gZ):=tP Q7 λ_ _ _ _=>.int _
abbrev jZ:R3:=oV qB λi j=>.int (i ^ j.toNat)
theorem XA:bC X (Ee .Pow) (cJ X.K jZ):=tP Q8 λ_ _ _ _=>.int _
abbrev FL:R3:=oV (λ_ j=>0<=j) λi j=>.int (i/2 ^ j.toNat)
theorem XB:bC X (Ee .RShift) (cJ X.K FL):=tP Q9 λ_ _ _ _=>.int _
abbrev FN:R3:=lZ λi j=>.int (Builtin.bitAnd i j)
theorem XC:bC X (Ee .BitAnd) (cJ X.K FN):=oW RA λ_ _ _ _=>.int _
abbrev FO:R3
 | .int i,.int j,M,R=>(oM i j\/sZ i j)/\R (.int (i*j)) M
 | .ref a,.int n,M,R=>∃xs,M a=some (.lst xs)/\-(2 ^ 63)<=n/\n<2 ^ 63/\xs.length*n.toNat<=Ao/\aV (Bz n.toNat xs).flatten M R
 | .rl xs,.int n,M,R=>-(2 ^ 63)<=n/\n<2 ^ 63/\xs.length*n.toNat<=Ao/\aV (Bz n.toNat xs).flatten M R
 | _,_,_,_=>False
theorem XD{P:W->W->Prop}(m:∀i j,(oM i j\/sZ i j)/\R (.int (i*j)) M->P (.int i) (.int j))(F:∀x n xs,kQ M x xs->-(2 ^ 63)<=n/\n<2 ^ 63/\xs.length*n.toNat<=Ao/\aV (Bz n.toNat xs).flatten M R->P x (.int n)):∀x y,FO x y M R->P x y:=by
 intro x y h;cases x<;>first|exact Bn h|(cases y<;>first|exact Bn h|skip)
 case int.int=>exact m _ _ h
 case ref.int=>obtain⟨xs,e,h⟩:=h;exact F _ _ _ e h
 case rl.int=>exact F _ _ _ rfl h
theorem XE:bC X (Ee .Mult) (cJ X.K FO):=lX (Q6.or (VM.or UR)) λx y H Q M R U k=>XD
 (λi j h N t=>h.1.elim (λz=>.inl ⟨i,j,N.inv,t.inv,z,k.at U (.int _) h.2⟩) λz=>.inr (.inl ⟨i,j,N.inv,t.inv,z,k.at U (.int _) h.2⟩))
 (λF n xs O h N t=>.inr (.inr (by
  obtain⟨a,us,T,V,f⟩:=lY U N O;exact⟨a,n,us,T,t.inv,V,h.1,h.2.1,by rw[f.length];exact h.2.2.1,λp B=>gL U k B (f.flatRep _) h.2.2.2⟩)))
abbrev j0:W->Mm->K3->Prop
 | .int i,M,R=>R (.int (-i)) M
 | _,_,_=>False
theorem XF:p9 X (Uk .USub) (E4 X.K j0):=by
 rintro pins s Z H x v Q I d ⟨F,M,R,U,N,h,k⟩;cases F<;>first|exact Bn h|skip
 case int i=>exact RC pins s Z H _ v Q I d ⟨i,N.inv,k.at U (.int _) h⟩
abbrev nN:R3:=lZ λi j=>.bl (decide (i<j))
theorem FP:bC X (Dj .Lt) (cJ X.K nN):=oW RH λ_ _ _ _=>.bl _
abbrev FQ:R3:=lZ λi j=>.bl (decide (i<=j))
theorem FR:bC X (Dj .LtE) (cJ X.K FQ):=oW RI λ_ _ _ _=>.bl _
abbrev xR:R3:=lZ λi j=>.bl (decide (j<i))
theorem FT:bC X (Dj .Gt) (cJ X.K xR):=oW RJ λ_ _ _ _=>.bl _
abbrev FU:R3:=lZ λi j=>.bl (decide (j<=i))
theorem FV:bC X (Dj .GtE) (cJ X.K FU):=oW RK λ_ _ _ _=>.bl _
mutual
inductive Snap(M:Mm):W->Ng->Prop
 | non:Snap M .non .none
 | bl (b:Bool):Snap M (.bl b) (.bool b)
 | int (i:Int):Snap M (.int i) (.int i)
 | str (x:Aw):Snap M (.str x) (.str x)
 | tup {ws:List W} {ds:List Ng}:iM M ws ds->Snap M (.tup ws) (.tuple ds)
 | rl {ws:List W} {ds:List Ng}:iM M ws ds->Snap M (.rl ws) (.list ds)
 | ref {a:Aj} {ws:List W} {ds:List Ng}:M a=some (.lst ws)->iM M ws ds->Snap M (.ref a) (.list ds)
inductive iM(M:Mm):List W->List Ng->Prop
 | nil:iM M [] []
 | cons {w:W} {ws:List W} {d:Ng} {ds:List Ng}:Snap M w d->iM M ws ds->iM M (w::ws) (d::ds)
end
section
variable {pins:Pn}{Z:SV}{H:Hp}{s:Ah}{M:Mm}
theorem iM.reads(I:Inv X pins Z H s)(U:AM X.K H M)(h:iM M ws D):∀{vs:List V} {us:List Ae},aJ X.K H M vs ws->aX vs us->∃A,ReadsAll s.heap us D A:=
 iM.rec (motive_1:=λw d _=>∀{v:V} {u:Ae},AV X.K H M v w->RelV v u->∃A,Reads s.heap u d A) (motive_2:=λws D _=>∀{vs:List V} {us:List Ae},aJ X.K H M vs ws->aX vs us->∃A,ReadsAll s.heap us D A)
  (λav r=>by rw[show _=_ from av.inv]at r;rw[show _=_ from r];exact⟨_,.none⟩)
  (λb _ _ av r=>by rw[show _=_ from av.inv]at r;rw[show _=_ from r];exact⟨_,.bool b⟩)
  (λi _ _ av r=>by rw[show _=_ from av.inv]at r;exact r.elim λt r=>by rw[r];exact⟨_,.int i t⟩)
  (λx _ _ av r=>by rw[show _=_ from av.inv]at r;exact r.elim λt r=>by rw[r];exact⟨_,.str x t⟩)
  (λ_ E _ _ av r=>av.tupE λa xs e f q=>by
   rw[e]at r;rw[show _=_ from r];obtain⟨its,R,⟨o,T,G,n,C⟩,_⟩:=I.tuple (bW.of f);exact(E q R).elim λA z=>⟨_,.tuple T G C (by simpa using z)⟩)
  (λ_ E _ _ av r=>av.rlE λa xs e f q=>by
   rw[e]at r;rw[show _=_ from r];obtain⟨its,R,pl,_⟩:=I.list (bH.of f);obtain⟨o,T,G,n,C⟩:=pl.isList;exact(E q R).elim λA z=>⟨_,.list T G C (by simpa using z)⟩)
  (λF _ E _ _ av r=>U.lstE F λvs f q=>by
   rw[show _=_ from av.inv]at r;rw[show _=_ from r];obtain⟨its,R,pl,_⟩:=I.list (bH.of f);obtain⟨o,T,G,n,C⟩:=pl.isList;exact(E q R).elim λA z=>⟨_,.list T G C (by simpa using z)⟩)
  (λav r=>by cases av;cases r;exact⟨_,.nil⟩)
  (λ_ _ c j _ _ av r=>by
   cases av with
   | cons a b=>
    cases r with
    | cons B P=>exact(c a B).elim λx g=>(j b P).elim λy p=>⟨_,.cons g p⟩) h
theorem Snap.reads(I:Inv X pins Z H s)(U:AM X.K H M){w:W}{d:Ng}{v:V}{u:Ae}(h:Snap M w d)(av:AV X.K H M v w)(r:RelV v u):∃A,Reads s.heap u d A:=
 (iM.reads I U (.cons h .nil) (.cons av .nil) (.cons r .nil)).elim λ_ z=>by
  cases z with
  | cons q _=>exact⟨_,q⟩
end
@[irreducible] def l8(neg:Bool)(x y:W)(M:Mm)(R:K3):Prop:=∃a b,Snap M x a/\Snap M y b/\EF a/\EF b/\R (.bl (if neg then !PyData.eqv a b else Lv a b)) M
def eC(neg:Bool):R3
 | .int i,.int j,M,R=>R (.bl (if neg then !decide (i=j) else decide (i=j))) M
 | .str i,.str j,M,R=>R (.bl (if neg then !decide (i=j) else decide (i=j))) M
 | .bl i,.bl j,M,R=>R (.bl (if neg then !decide (i=j) else decide (i=j))) M
 | x,y,M,R=>l8 neg x y M R
theorem FX{i j:Int}:decide (V.int i=V.int j)=decide (i=j):=by rw[Dy];simp
theorem tQ:decide (V.str i=V.str j)=decide (i=j):=by rw[Dy];simp
theorem FY{i j:Bool}:decide (V.bl i=V.bl j)=decide (i=j):=by rw[Dy];simp
theorem FZ{n:Bool}{P:W->W->Prop}(m:∀i j,R (.bl (if n then !decide (i=j) else decide (i=j))) M->P (.int i) (.int j))(d:∀i j,R (.bl (if n then !decide (i=j) else decide (i=j))) M->P (.str i) (.str j))(F:∀i j,R (.bl (if n then !decide (i=j) else decide (i=j))) M->P (.bl i) (.bl j))(f:∀x y,l8 n x y M R->P x y)(x y:W)(h:eC n x y M R):P x y:=by
 cases x<;>first|exact f _ _ h|(cases y<;>first|exact m _ _ h|exact d _ _ h|exact F _ _ h|exact f _ _ h)
theorem sV(e:x=i)(f:y=j)(h:sM i j=true):sM x y=true:=by rw[e,f];exact h
theorem dV{i j:V}{x y:V}{b:Bool}{Q:Bool->Prop}(e:x=i)(f:y=j)(h:decide (i=j)=b)(q:Q b):Q (decide (x=y)):=by rw[e,f,h];exact q
theorem XG(J:X.A.units+64<Ex):bC X (Dj .Eq) (cJ X.K (l8 false)):=by
 rintro pins s Z H x y v u Q I d L ⟨F,S,M,R,U,N,t,h,k⟩;unfold l8 at h;obtain⟨a,b,l,Y,fa,O,q⟩:=h;obtain⟨C,c⟩:=l.reads I U N d;obtain⟨bs,rb⟩:=Y.reads I U t L;exact SeqAt.compareEq_reads c rb fa.1 O.1 (Fl (Ph (Bf (Oe _ _) (Bf fa.2 (by decide))) _) J) ⟨.bl _,H,I,rfl,k.at U (.bl _) q⟩
theorem XH(J:X.A.units+64<Ex):bC X (Dj .NotEq) (cJ X.K (l8 true)):=by
 rintro pins s Z H x y v u Q I d L ⟨F,S,M,R,U,N,t,h,k⟩;unfold l8 at h;obtain⟨a,b,l,Y,fa,O,q⟩:=h;obtain⟨C,c⟩:=l.reads I U N d;obtain⟨bs,rb⟩:=Y.reads I U t L;exact SeqAt.compareNe_reads c rb fa.1 O.1 (Fl (Ph (Bf (Oe _ _) (Bf fa.2 (by decide))) _) J) ⟨.bl _,H,I,rfl,k.at U (.bl _) q⟩
theorem qO(J:X.A.units+64<Ex):bC X (Dj .Eq) (cJ X.K (eC false)):=lX (RF.or (XG J)) λx y H Q M R U k=>FZ
 (λi j h N t=>.inl ⟨sV N.inv t.inv rfl,dV (Q:=λb=>Q (.bl b) H) N.inv t.inv FX (k.at U (.bl _) h)⟩)
 (λi j h N t=>.inl ⟨sV N.inv t.inv rfl,dV (Q:=λb=>Q (.bl b) H) N.inv t.inv tQ (k.at U (.bl _) h)⟩)
 (λi j h N t=>.inl ⟨sV N.inv t.inv rfl,dV (Q:=λb=>Q (.bl b) H) N.inv t.inv FY (k.at U (.bl _) h)⟩)
 (λF S h N t=>.inr ⟨F,S,M,R,U,N,t,h,k⟩)
theorem xS(J:X.A.units+64<Ex):bC X (Dj .NotEq) (cJ X.K (eC true)):=lX (RG.or (XH J)) λx y H Q M R U k=>FZ
 (λi j h N t=>.inl ⟨sV N.inv t.inv rfl,dV (Q:=λb=>Q (.bl !b) H) N.inv t.inv FX (k.at U (.bl _) h)⟩)
 (λi j h N t=>.inl ⟨sV N.inv t.inv rfl,dV (Q:=λb=>Q (.bl !b) H) N.inv t.inv tQ (k.at U (.bl _) h)⟩)
 (λi j h N t=>.inl ⟨sV N.inv t.inv rfl,dV (Q:=λb=>Q (.bl !b) H) N.inv t.inv FY (k.at U (.bl _) h)⟩)
 (λF S h N t=>.inr ⟨F,S,M,R,U,N,t,h,k⟩)
def wK:aB->W
 | .inl i=>.int i
 | .inr x=>.str x
def aT{U:Type}[DecidableEq U](kvs:List (U×W))(k:U):Option W:=(kvs.find? λg=>decide (g.1=k)).map (·.2)
def bZ{U:Type}[DecidableEq U](kvs:List (U×W))(k:U)(v:W):List (U×W):=
 if (kvs.any λg=>decide (g.1=k))=true then kvs.map (λg=>if g.1=k then(g.1,v) else g) else kvs++[(k,v)]
theorem AV.key{K:Ac}{H:Hp}{M:Mm}{v:V}{k:aB}(h:AV K H M v (wK k)):v=kV k:=by
 cases k<;>exact h.inv
theorem aJ.keys{K:Ac}{H:Hp}{M:Mm}:∀{vs:List V} {k:List aB},aJ K H M vs (k.map wK)->vs=k.map kV
 | _,[],h=>by cases h;rfl
 | _,a::r,h=>by
  cases h with
  | cons x y=>rw[x.key,aJ.keys y];rfl
section
variable {U:Type}[DecidableEq U]{K:Ac}{H:Hp}{M:Mm}
theorem tR(h:bK K H M U ks kvs)(k:U):(aT kvs k=none/\fR ks k=none)\/∃v w,aT kvs k=some w/\fR ks k=some v/\AV K H M v w:=by
 induction h with
 | nil=>exact .inl ⟨rfl,rfl⟩
 | @cons p q ps qs r t E=>
  by_cases e:p.1=k
  .refine .inr ⟨p.2,q.2,?_,?_,r.2⟩
   .unfold aT;rw[Dn,Uy (by rw[<-r.1];exact e)];rfl
   .exact sR e
  .have G:¬q.1=k:=by rw[<-r.1];exact e
   have l:aT (q::qs) k=aT qs k:=by unfold aT;rw[Dn,Uz G]
   rw[l,sS e];exact E
theorem XI(h:bK K H M U ks kvs)(k:U):(ks.any λg=>decide (g.1=k))=(kvs.any λg=>decide (g.1=k)):=by
 induction h with
 | nil=>rfl
 | cons r t E=>rw[Er,Er,E,r.1]
theorem XJ{ks:List (U×V)}{kvs:List (U×W)}{v:V}{w:W}{k:U}(av:AV K H M v w)(h:bK K H M U ks kvs):bK K H M U (ks.map (λg=>if g.1=k then(g.1,v) else g)) (kvs.map (λg=>if g.1=k then(g.1,w) else g)):=by
 induction h with
 | nil=>exact .nil
 | @cons p q ps qs r t E=>
  rw[Be,Be];refine .cons ?_ E
  by_cases e:p.1=k
  .rw[Uw e,Uw (by rw[<-r.1];exact e)];exact⟨r.1,av⟩
  .rw[Uv e,Uv (by rw[<-r.1];exact e)];exact r
theorem XM{ks:List (U×V)}{kvs:List (U×W)}{v:V}{w:W}{k:U}(av:AV K H M v w)(h:bK K H M U ks kvs):bK K H M U (ks++[(k,v)]) (kvs++[(k,w)]):=by
 induction h with
 | nil=>exact .cons ⟨rfl,av⟩ .nil
 | cons r t E=>exact .cons r E
theorem qP{ks:List (U×V)}{kvs:List (U×W)}{v:V}{w:W}(h:bK K H M U ks kvs)(k:U)(av:AV K H M v w):bK K H M U (dY ks k v) (bZ kvs k w):=by
 unfold dY bZ;rw[XI h k];split
 .exact XJ av h
 .exact XM av h
end
def eU(M:Mm):W->W->Option W->Prop
 | .ref a,y,o=>(∃kvs k,M a=some (.dK kvs)/\y=wK k/\o=aT kvs k)\/∃kvs k,M a=some (.dT kvs)/\y=.tup (k.map wK)/\o=aT kvs k
 | .dk kvs,y,o=>∃k,y=wK k/\o=aT kvs k
 | .dt kvs,y,o=>∃k,y=.tup (k.map wK)/\o=aT kvs k
 | .fk kvs,y,o=>∃k,y=wK k/\o=aT kvs k
 | .ft kvs,y,o=>∃k,y=.tup (k.map wK)/\o=aT kvs k
 | _,_,_=>False
theorem xT{K:Ac}{H:Hp}{M:Mm}{a:Aj}{y:V}{k:aB}{ks:List (aB×V)}{kvs:List (aB×W)}(T:Rd H a (.dK ks))(q:bK K H M aB ks kvs)(t:AV K H M y (wK k)):(aT kvs k=none/\gV H a y none)\/∃v w,aT kvs k=some w/\gV H a y (some v)/\AV K H M v w:=by
 rw[t.key];rcases tR q k with⟨f,m⟩|⟨v,w,f,m,av⟩
 .exact .inl ⟨f,by rw[<-m];exact .inl ⟨_,_,T,rfl,rfl⟩⟩
 .exact .inr ⟨v,w,f,by rw[<-m];exact .inl ⟨_,_,T,rfl,rfl⟩,av⟩
theorem xU{K:Ac}{H:Hp}{M:Mm}{a:Aj}{y:V}{k:List aB}{ks:List (List aB×V)}{kvs:List (List aB×W)}(T:Rd H a (.dT ks))(q:bK K H M (List aB) ks kvs)(D:AV K H M y (.tup (k.map wK))):(aT kvs k=none/\gV H a y none)\/∃v w,aT kvs k=some w/\gV H a y (some v)/\AV K H M v w:=
 D.tupE λb xs e t g=>by
  rw[g.keys]at t;rcases tR q k with⟨f,m⟩|⟨v,w,f,m,av⟩
  .exact .inl ⟨f,by rw[<-m];exact .inr ⟨_,_,_,T,e,t,rfl⟩⟩
  .exact .inr ⟨v,w,f,by rw[<-m];exact .inr ⟨_,_,_,T,e,t,rfl⟩,av⟩
theorem tS{K:Ac}{H:Hp}{M:Mm}{x y:V}{F S:W}{o:Option W}(U:AM K H M)(N:AV K H M x F)(t:AV K H M y S)(h:eU M F S o):∃a,x=.ref a/\((o=none/\gV H a y none)\/∃v w,o=some w/\gV H a y (some v)/\AV K H M v w):=by
 cases F<;>first|exact Bn h|skip
 case ref a=>
  rcases h with⟨kvs,k,e,rfl,rfl⟩|⟨kvs,k,e,rfl,rfl⟩
  .obtain⟨ks,T,q⟩:=U _ _ e;exact⟨a,N.inv,xT (.inl T) q t⟩
  .obtain⟨ks,T,q⟩:=U _ _ e;exact⟨a,N.inv,xU (.inl T) q t⟩
 all_goals
  obtain⟨k,rfl,rfl⟩:=h;have N:=N.inv
 case dk=>obtain⟨a,ks,e,f,_,q⟩:=N;exact⟨a,e,xT (.inl f) q t⟩
 case dt=>obtain⟨a,ks,e,f,_,q⟩:=N;exact⟨a,e,xU (.inl f) q t⟩
 case fk=>obtain⟨a,ks,e,f,q⟩:=N;exact⟨a,e,xT (.inr f) q t⟩
 case ft=>obtain⟨a,ks,e,f,q⟩:=N;exact⟨a,e,xU (.inr f) q t⟩
@[irreducible] def l9(a:Aj)(y:W)(M:Mm)(R:K3):Prop:=(∃i ws w,y=.int i/\M a=some (.lst ws)/\b7 ws i=some w/\R w M)\/∃w,eU M (.ref a) y (some w)/\R w M
theorem xV{i:Int}(h:M a=some (.lst ws))(e:b7 ws i=some w)(r:R w M):l9 a (.int i) M R:=by unfold l9;exact .inl ⟨i,ws,w,rfl,h,e,r⟩
theorem F0(h:eU M (.ref a) y (some w))(r:R w M):l9 a y M R:=by unfold l9;exact .inr ⟨w,h,r⟩
abbrev oX:R3
 | .tup ws,.int i,M,R=>so (b7 ws i) λw=>R w M
 | .rl ws,.int i,M,R=>so (b7 ws i) λw=>R w M
 | .sc ws,.int i,M,R=>so (b7 ws i) λw=>R w M
 | .dk kvs,y,M,R=>∃w,eU M (.dk kvs) y (some w)/\R w M
 | .dt kvs,y,M,R=>∃w,eU M (.dt kvs) y (some w)/\R w M
 | .fk kvs,y,M,R=>∃w,eU M (.fk kvs) y (some w)/\R w M
 | .ft kvs,y,M,R=>∃w,eU M (.ft kvs) y (some w)/\R w M
 | .str z,.int i,M,R=>z.length<=Ao/\so (b7 z.cps.toList i) λc=>R (.str ⟨#[c]⟩) M
 | .ref a,y,M,R=>l9 a y M R
 | _,_,_,_=>False
abbrev vX:=aG oX
theorem xW{K:Ac}{H:Hp}{M:Mm}{vs:List V}{ws:List W}{i:Int}{w:W}(q:aJ K H M vs ws)(h:b7 ws i=some w):∃v,b7 vs i=some v/\AV K H M v w:=by
 unfold b7 at h⊢;rw[q.length];cases e:gJ ws.length i with
 | none=>rw[e]at h;cases h
 | some j=>
  rw[e]at h;exact q.getW (i:=j) h
theorem XN(J:X.A.units+1<Ex):iU X (λx y H Q=>∃a v,x=.ref a/\gV H a y (some v)/\Q v H):=by
 intro e b pins s Z H x y v u Q I d L h l;obtain⟨a,z,rfl,g,q⟩:=h;cases d;exact tail_any (UZ I g) PySem.F.slot_dict_getitem.lookup (UT J I g L λP j E V=>⟨z,H,E,V,q⟩) l
theorem XO{P:W->W->Prop}(m:∀ws i w,b7 ws i=some w->R w M->P (.tup ws) (.int i))(d:∀ws i w,b7 ws i=some w->R w M->P (.sc ws) (.int i))(N:∀x ws i w,kQ M x ws->b7 ws i=some w->R w M->P x (.int i))(f:∀z i,z.length<=Ao/\(so (b7 z.cps.toList i) λc=>R (.str ⟨#[c]⟩) M)->P (.str z) (.int i))(j:∀x y w,eU M x y (some w)->R w M->P x y)(x y:W)(h:oX x y M R):P x y:=by
 cases x
 case non|bl|int|ty=>exact Bn h
 case dk|dt|fk|ft=>exact h.elim λw h=>j _ _ _ h.1 h.2
 case ref a=>
  have h:l9 a y M R:=h;unfold l9 at h;exact h.elim (λ⟨i,ws,w,F,e,G,r⟩=>by rw[F];exact N _ _ _ _ e G r) λ⟨w,e,r⟩=>j _ _ _ e r
 all_goals cases y<;>first|exact Bn h|skip
 case tup.int=>obtain⟨w,e,r⟩:=so.el h;exact m _ _ _ e r
 case sc.int=>obtain⟨w,e,r⟩:=so.el h;exact d _ _ _ e r
 case rl.int=>obtain⟨w,e,r⟩:=so.el h;exact N _ _ _ _ rfl e r
 case str.int=>exact f _ _ h
theorem XQ(J:X.A.units+1<Ex):iU X (cJ X.K oX):=W0 (TY.or (TZ.or (T1.or (XN J)))) λx y H Q M R U k=>XO
 (λws i w h r N t=>N.tupE λa xs e f q=>let ⟨z,e3,av⟩:=xW q h;.inr (.inl ⟨a,xs,i,z,e,t.inv,bW.of f,e3,k.at U av r⟩))
 (λws i w h r N t=>N.scE λa xs e f q=>let ⟨z,e3,av⟩:=xW q h;.inl ⟨a,xs,i,z,e,t.inv,f.sq,e3,k.at U av r⟩)
 (λF ws i w O h r N t=>let ⟨a,xs,e,f,q⟩:=lY U N O;let ⟨z,e3,av⟩:=xW q h;.inl ⟨a,xs,i,z,e,t.inv,bH.of f,e3,k.at U av r⟩)
 (λz i h N t=>let ⟨c,e,r⟩:=so.el h.2;.inr (.inr (.inl ⟨z,i,c,N.inv,t.inv,h.1,e,k.at U (.str _) r⟩)))
 (λF S w g r N t=>.inr (.inr (.inr (by
  obtain⟨a,e,g⟩:=tS U N t g;rcases g with⟨z,_⟩|⟨z,P,l,g',av⟩
  .cases z
  .exact⟨a,z,e,g',k.at U av (by rw[<-Ci l];exact r)⟩))))
variable {a b:Cb}{ta tb:aR}{pos:Gy}
theorem tT(J:X.A.units+1<Ex)(l:E3 X a ta)(Y:E3 X b tb)(F:DC b:=by exact λ_ _=>rfl):E3 X (.Subscript a b pos) (aG oX ta tb):=(TR (XQ J) l Y F).weak λ_ _ _ h=>tL h
def eE(ws:List W)(lo hi:Option Int):List W:=(ws.drop (HT.sIx ws.length 0 lo)).take (HT.sIx ws.length ws.length hi-HT.sIx ws.length 0 lo)
abbrev F1:W->Option Int->Option Int->Mm->K3->Prop
 | .rl ws,lo,hi,M,R=>aV (eE ws lo hi) M R
 | .sc ws,lo,hi,M,R=>aV (eE ws lo hi) M R
 | .ref a,lo,hi,M,R=>∃ws,M a=some (.lst ws)/\aV (eE ws lo hi) M R
 | .tup ws,lo,hi,M,R=>¬(HT.sIx ws.length 0 lo=0/\HT.sIx ws.length ws.length hi=ws.length)/\R (.tup (eE ws lo hi)) M
 | _,_,_,_,_=>False
theorem tU{K:Ac}{H:Hp}{M:Mm}{vs:List V}{ws:List W}{lo hi:Option Int}(q:aJ K H M vs ws):aJ K H M (lL vs lo hi) (eE ws lo hi):=by
 unfold lL eE;rw[q.length];exact(q.drop _).take _
def XR(K:Ac)(r:W->Option Int->Option Int->Mm->K3->Prop):V->Option Int->Option Int->Hp->VK->Prop:=λx lo hi H Q=>∃F M R,AM K H M/\AV K H M x F/\r F lo hi M R/\Up K H M R Q
theorem XS:sO X (XR X.K F1):=by
 rintro pins s Z H x v c O lo hi sl Q I d F pl W ⟨D,M,R,U,N,h,k⟩;cases D<;>first|exact Bn h|skip
 case tup ws=>exact N.tupE λa xs e f q=>TM pins s Z H _ v c O lo hi sl Q I d F pl W ⟨a,xs,e,bW.of f,by rw[q.length];exact h.1,λp B=>laidT U k B (tU q) h.2⟩
 case sc ws=>exact N.scE λa xs e f q=>wV pins s Z H _ v c O lo hi sl Q I d F pl W ⟨a,xs,e,f.sq,λp B=>gL U k B (tU q) h⟩
 case rl ws=>exact N.rlE λa xs e f q=>wV pins s Z H _ v c O lo hi sl Q I d F pl W ⟨a,xs,e,bH.of f,λp B=>gL U k B (tU q) h⟩
 case ref a=>
  obtain⟨ws,e,r⟩:=h;exact U.lstE e λvs f q=>wV pins s Z H _ v c O lo hi sl Q I d F pl W ⟨a,vs,N.inv,bH.of f,λp B=>gL U k B (tU q) r⟩
abbrev oY:=S3->Mm->(Option Int->Mm->Prop)->Prop
def oZ(K:Ac)(t:oY):TO:=λZ H Q=>∃(L:S3) (M:Mm) (R:Option Int->Mm->Prop),AS K H M Z L/\AM K H M/\t L M R/\∀o H' M',Kp H M H' M'->AM K H' M'->R o M'->Q o H'
theorem oZ.el{K:Ac}{H:Hp}{Z:SV}{C:Prop}{t:oY}{Q:Option Int->Hp->Prop}(h:oZ K t Z H Q)(c:∀L M R,AS K H M Z L->AM K H M->t L M R->(∀o H' M',Kp H M H' M'->AM K H' M'->R o M'->Q o H')->C):C:=by obtain⟨L,M,R,a,b,h,k⟩:=h;exact c L M R a b h k
abbrev tV:oY:=λ_ M Q=>Q none M
abbrev xX:W->(Int->Prop)->Prop
 | .int i,Q=>Q i
 | _,_=>False
theorem xX.el{Q:Int->Prop}(h:xX w Q):∃i,w=.int i/\Q i:=by cases w<;>first|exact⟨_,rfl,h⟩|exact h.elim
abbrev mB(t:aR):oY:=λL M Q=>t L M λx M1=>xX x λi=>Q (some i) M1
theorem XT:PO X none (oZ X.K tV):=TC.weak λZ H Q s=>s.el λL M R A U h k=>k none H M (Kp.refl U) U h
theorem XU(h:E3 X a ta):PO X (some a) (oZ X.K (mB ta)):=(TF h).weak λZ H Q s=>s.el λL M R A U h k=>⟨L,M,_,A,U,h,λx H1 F M1 k1 P N h=>by
 obtain⟨i,e,O⟩:=h.el;subst e;exact⟨i,N.inv,k _ _ _ k1 P O⟩⟩
def fI:W->Bool
 | .non=>true
 | .bl _=>true
 | .int _=>true
 | .str _=>true
 | _=>false
def xY:W->W->Bool
 | .non,.non=>true
 | .bl a,.bl b=>a==b
 | .bl a,.int b=>(if a then 1 else 0)==b
 | .int a,.bl b=>a==(if b then 1 else 0)
 | .int a,.int b=>a==b
 | .str a,.str b=>a==b
 | _,_=>false
def inW(x:W)(ws:List W):Bool:=ws.any λy=>xY y x
theorem AV.flat{K:Ac}{H:Hp}{M:Mm}{v:V}{w:W}(h:AV K H M v w)(f:fI w=true):jV v=true:=by cases h<;>first|rfl|exact f
def xZ:W->V
 | .non=>.non
 | .bl b=>.bl b
 | .int i=>.int i
 | .str x=>.str x
 | _=>.non
theorem AV.flv{K:Ac}{H:Hp}{M:Mm}{v:V}{w:W}(h:AV K H M v w)(f:fI w=true):v=xZ w:=by
 cases w<;>first|exact h.inv|exact absurd f Av
theorem XW:∀{w z:W},fI w=true->fI z=true->jW (xZ w) (xZ z)=xY w z:=by
 intro w z f g;cases w<;>first|exact absurd f Av|(cases z<;>first|rfl|exact absurd g Av)
theorem AV.eq{K:Ac}{H:Hp}{M:Mm}{v u:V}{w z:W}(h:AV K H M v w)(Z:AV K H M u z)(f:fI w=true)(l:fI z=true):jW v u=xY w z:=by
 rw[h.flv f,Z.flv l];exact XW f l
theorem aJ.inn{K:Ac}{H:Hp}{M:Mm}{u:V}{z:W}(hz:AV K H M u z)(a:fI z=true):∀{vs:List V} {ws:List W},aJ K H M vs ws->ws.all fI=true->vs.all jV=true/\inV u vs=inW z ws
 | _,_,.nil,_=>⟨rfl,rfl⟩
 | _,_,.cons x r,f=>by
  rw[Jv,Cy]at f;obtain⟨O,Z⟩:=aJ.inn hz a r f.2;refine⟨by rw[Jv,x.flat f.1,O];rfl,?_⟩;unfold inV inW at Z⊢;rw[Er,Er,Z,x.eq hz f.1 a]
def occ(i j:Aw):Bool:=!(Jg j i 0 j.length 1).isEmpty
abbrev cH(neg:Bool):R3
 | .str i,.str j,M,R=>R (.bl (if neg then !occ i j else occ i j)) M
 | x,.tup ws,M,R=>fI x=true/\ws.all fI=true/\R (.bl (if neg then !inW x ws else inW x ws)) M
 | x,.rl ws,M,R=>fI x=true/\ws.all fI=true/\R (.bl (if neg then !inW x ws else inW x ws)) M
 | x,.ref a,M,R=>(∃ws,M a=some (.lst ws)/\fI x=true/\ws.all fI=true/\R (.bl (if neg then !inW x ws else inW x ws)) M)\/∃o,eU M (.ref a) x o/\R (.bl (if neg then !o.isSome else o.isSome)) M
 | x,.dk kvs,M,R=>∃o,eU M (.dk kvs) x o/\R (.bl (if neg then !o.isSome else o.isSome)) M
 | x,.dt kvs,M,R=>∃o,eU M (.dt kvs) x o/\R (.bl (if neg then !o.isSome else o.isSome)) M
 | x,.fk kvs,M,R=>∃o,eU M (.fk kvs) x o/\R (.bl (if neg then !o.isSome else o.isSome)) M
 | x,.ft kvs,M,R=>∃o,eU M (.ft kvs) x o/\R (.bl (if neg then !o.isSome else o.isSome)) M
 | _,_,_,_=>False
def F5(M:Mm):W->List W->Prop
 | .tup ws,d=>ws=d
 | x,ws=>kQ M x ws
theorem F6{K:Ac}{H:Hp}{M:Mm}{v:V}{w:W}{ws:List W}(U:AM K H M)(h:AV K H M v w)(e:F5 M w ws):∃a xs,v=.ref a/\(bH K H a xs\/bW K H a xs)/\aJ K H M xs ws:=by
 cases w
 case tup zs=>exact h.tupE λa xs T f q=>⟨_,_,T,.inr (bW.of f),by rw[<-show zs=ws from e];exact q⟩
 case ref|rl=>obtain⟨a,xs,T,f,q⟩:=lY U h e;exact⟨a,xs,T,.inl (bH.of f),q⟩
 all_goals exact Bn e
theorem F7{n:Bool}{P:W->W->Prop}(m:∀i j,R (.bl (if n then !occ i j else occ i j)) M->P (.str i) (.str j))(d:∀x y ws,F5 M y ws->fI x=true/\ws.all fI=true/\R (.bl (if n then !inW x ws else inW x ws)) M->P x y)(F:∀x y o,eU M y x o->R (.bl (if n then !o.isSome else o.isSome)) M->P x y)(x y:W)(h:cH n x y M R):P x y:=by
 cases y
 case non|bl|int|ty|sc=>exfalso;cases x<;>exact h
 case str=>cases x<;>first|exact Bn h|exact m _ _ h
 case tup=>exact d _ _ _ rfl (by cases x<;>exact h)
 case rl=>exact d _ _ _ rfl (by cases x<;>exact h)
 case ref a=>
  have h:(∃ws,M a=some (.lst ws)/\fI x=true/\ws.all fI=true/\R (.bl (if n then !inW x ws else inW x ws)) M)\/∃o,eU M (.ref a) x o/\R (.bl (if n then !o.isSome else o.isSome)) M:=by cases x<;>exact h
  exact h.elim (λ⟨ws,e,h⟩=>d _ _ _ e h) λ⟨o,g,r⟩=>F _ _ _ g r
 case dk kvs=>have h:∃o,eU M (.dk kvs) x o/\R (.bl (if n then !o.isSome else o.isSome)) M:=(by cases x<;>exact h);exact h.elim λo h=>F _ _ _ h.1 h.2
 case dt kvs=>have h:∃o,eU M (.dt kvs) x o/\R (.bl (if n then !o.isSome else o.isSome)) M:=(by cases x<;>exact h);exact h.elim λo h=>F _ _ _ h.1 h.2
 case fk kvs=>have h:∃o,eU M (.fk kvs) x o/\R (.bl (if n then !o.isSome else o.isSome)) M:=(by cases x<;>exact h);exact h.elim λo h=>F _ _ _ h.1 h.2
 case ft kvs=>have h:∃o,eU M (.ft kvs) x o/\R (.bl (if n then !o.isSome else o.isSome)) M:=(by cases x<;>exact h);exact h.elim λo h=>F _ _ _ h.1 h.2
def F8(n:Bool):R2:=λx y H Q=>∃a o,y=.ref a/\gV H a x o/\Q (.bl (if n then !o.isSome else o.isSome)) H
theorem XX(J:X.A.units+1<Ex):bC X (Dj .In) (F8 false):=by
 rintro pins s Z H x y v u Q I d L ⟨a,o,rfl,g,q⟩;cases L;exact UU J I g d λj E=>⟨.bl _,H,E,rfl,q⟩
theorem XY(J:X.A.units+1<Ex):bC X (Dj .NotIn) (F8 true):=by
 rintro pins s Z H x y v u Q I d L ⟨a,o,rfl,g,q⟩;cases L;exact UW J I g d λj E=>⟨.bl _,H,E,rfl,q⟩
theorem F9{K:Ac}{H:Hp}{M:Mm}{x y:V}{F S:W}{o:Option W}(U:AM K H M)(N:AV K H M x F)(t:AV K H M y S)(h:eU M F S o):∃a L,x=.ref a/\gV H a y L/\L.isSome=o.isSome:=by
 obtain⟨a,e,⟨rfl,g⟩|⟨v,w,rfl,g,_⟩⟩:=tS U N t h
 .exact⟨a,_,e,g,rfl⟩
 .exact⟨a,_,e,g,rfl⟩
theorem yA(J:X.A.units+1<Ex):bC X (Dj .In) (cJ X.K (cH false)):=lX (RL.or (UA.or (XX J))) λx y H Q M R U k=>F7
 (λi j h N t=>.inl ⟨i,j,N.inv,t.inv,k.at U (.bl _) h⟩)
 (λF S ws e h N t=>let ⟨a,xs,e1,f,q⟩:=F6 U t e;.inr (.inl ⟨a,xs,e1,f,N.flat h.1,(aJ.inn N h.1 q h.2.1).1,by rw[(aJ.inn N h.1 q h.2.1).2];exact k.at U (.bl _) h.2.2⟩))
 (λF S o g r N t=>let ⟨a,o',e,g,z⟩:=F9 U t N g;.inr (.inr ⟨a,o',e,g,by rw[z];exact k.at U (.bl _) r⟩))
theorem yB(J:X.A.units+1<Ex):bC X (Dj .NotIn) (cJ X.K (cH true)):=lX (RM.or (UB.or (XY J))) λx y H Q M R U k=>F7
 (λi j h N t=>.inl ⟨i,j,N.inv,t.inv,k.at U (.bl _) h⟩)
 (λF S ws e h N t=>let ⟨a,xs,e1,f,q⟩:=F6 U t e;.inr (.inl ⟨a,xs,e1,f,N.flat h.1,(aJ.inn N h.1 q h.2.1).1,by rw[(aJ.inn N h.1 q h.2.1).2];exact k.at U (.bl _) h.2.2⟩))
 (λF S o g r N t=>let ⟨a,o',e,g,z⟩:=F9 U t N g;.inr (.inr ⟨a,o',e,g,by rw[z];exact k.at U (.bl _) r⟩))
abbrev dH:List W->Mm->K3->Prop
 | [.tup ws],M,R=>R (.int ws.length) M
 | [.rl ws],M,R=>R (.int ws.length) M
 | [.sc ws],M,R=>R (.int ws.length) M
 | [.dk kvs],M,R=>R (.int kvs.length) M
 | [.str z],M,R=>z.length<=Ao/\R (.int z.length) M
 | [.ref a],M,R=>(∃ws,M a=some (.lst ws)/\R (.int ws.length) M)\/∃kvs,M a=some (.dK kvs)/\R (.int kvs.length) M
 | _,_,_=>False
theorem XZ{P:List W->Prop}(m:∀ws,R (.int ws.length) M->P [.tup ws])(d:∀ws,R (.int ws.length) M->P [.sc ws])(F:∀x ws,kQ M x ws->R (.int ws.length) M->P [x])(f:∀z,z.length<=Ao/\R (.int z.length) M->P [.str z])(j:∀kvs,R (.int kvs.length) M->P [.dk kvs])(X:∀a kvs,M a=some (.dK kvs)->R (.int kvs.length) M->P [.ref a])(l:List W)(h:dH l M R):P l:=by
 match l,h with
 | [.tup _],h=>exact m _ h
 | [.rl _],h=>exact F _ _ rfl h
 | [.sc _],h=>exact d _ h
 | [.dk _],h=>exact j _ h
 | [.str _],h=>exact f _ h
 | [.ref _],h=>exact h.elim (λ⟨ws,e,r⟩=>F _ _ e r) λ⟨ws,e,r⟩=>X _ _ e r
theorem X0:cM X (.builtin "len") (eV X.K dH):=xQ (UC.or (UD.or VB)) λxs H Q M R U k=>XZ
 (λws h N=>N.oneE λv T av=>av.tupE λa us e f q=>.inl ⟨_,_,iD T e,.inr (bW.of f),by rw[q.length];exact k.at U (.int _) h⟩)
 (λws h N=>N.oneE λv T av=>av.scE λa us e f q=>.inl ⟨_,_,iD T e,.inl f.sq,by rw[q.length];exact k.at U (.int _) h⟩)
 (λx ws F h N=>N.oneE λv T av=>let ⟨a,us,e,f,q⟩:=lY U av F;.inl ⟨_,_,iD T e,.inl (bH.of f),by rw[q.length];exact k.at U (.int _) h⟩)
 (λz h N=>N.oneE λv T av=>.inr (.inl ⟨z,iD T av.inv,h.1,k.at U (.int _) h.2⟩))
 (λkvs h N=>N.oneE λv T av=>let ⟨a,ks,e,f,_,q⟩:=av.inv;.inr (.inr ⟨a,ks,iD T e,f,by rw[Cu q];exact k.at U (.int _) h⟩))
 (λa kvs F h N=>N.oneE λv T av=>let ⟨ks,f,q⟩:=U _ _ F;.inr (.inr ⟨a,ks,iD T av.inv,f,by rw[Cu q];exact k.at U (.int _) h⟩))
def tW:List W->Mm->K3->Prop
 | [.tup ws],M,R=>aV ws M R
 | [.rl ws],M,R=>aV ws M R
 | [.sc ws],M,R=>aV ws M R
 | [.dk kvs],M,R=>aV (kvs.map λg=>wK g.1) M R
 | [.ref a],M,R=>(∃ws,M a=some (.lst ws)/\aV ws M R)\/∃kvs,M a=some (.dK kvs)/\aV (kvs.map λg=>wK g.1) M R
 | _,_,_=>False
theorem GA{K:Ac}{H:Hp}{M:Mm}{ks:List (aB×V)}{kvs:List (aB×W)}(h:bK K H M aB ks kvs):aJ K H M (ks.map λg=>kV g.1) (kvs.map λg=>wK g.1):=by
 induction h with
 | nil=>exact .nil
 | @cons p q ps qs r t E=>
  refine .cons ?_ E;show AV K H M (kV p.1) (wK q.1);rw[r.1];cases q.1 with
  | inl i=>exact .int i
  | inr x=>exact .str x
theorem X1{P:List W->Prop}(m:∀ws,aV ws M R->P [.tup ws])(d:∀ws,aV ws M R->P [.sc ws])(F:∀x ws,kQ M x ws->aV ws M R->P [x])(j:∀kvs:List (aB×W),aV (kvs.map λg=>wK g.1) M R->P [.dk kvs])(X:∀a kvs,M a=some (.dK kvs)->aV (kvs.map λg=>wK g.1) M R->P [.ref a])(l:List W)(h:tW l M R):P l:=by
 match l,h with
 | [.tup _],h=>exact m _ h
 | [.rl _],h=>exact F _ _ rfl h
 | [.sc _],h=>exact d _ h
 | [.dk _],h=>exact j _ h
 | [.ref _],h=>exact h.elim (λ⟨ws,e,r⟩=>F _ _ e r) λ⟨ws,e,r⟩=>X _ _ e r
theorem GB(hc:X.calm=true):cM X (.type "list") (eV X.K tW):=xQ (UE.or (V0 hc)) λxs H Q M R U k=>X1
 (λws h N=>N.oneE λv T av=>av.tupE λa us e f q=>.inl ⟨_,_,iD T e,.inr (bW.of f),λp B=>gL U k B q h⟩)
 (λws h N=>N.oneE λv T av=>av.scE λa us e f q=>.inl ⟨_,_,iD T e,.inl f.sq,λp B=>gL U k B q h⟩)
 (λx ws F h N=>N.oneE λv T av=>let ⟨a,us,e,f,q⟩:=lY U av F;.inl ⟨_,_,iD T e,.inl (bH.of f),λp B=>gL U k B q h⟩)
 (λkvs h N=>N.oneE λv T av=>let ⟨a,ks,e,f,_,q⟩:=av.inv;.inr ⟨a,ks,iD T e,f,λp B=>gL U k B (GA q) h⟩)
 (λa kvs F h N=>N.oneE λv T av=>let ⟨ks,f,q⟩:=U _ _ F;.inr ⟨a,ks,iD T av.inv,f,λp B=>gL U k B (GA q) h⟩)
def tX:List W->Mm->K3->Prop
 | [.tup ws],M,R=>R (.tup ws) M
 | [.rl ws],M,R=>R (.tup ws) M
 | [.ref a],M,R=>∃ws,M a=some (.lst ws)/\R (.tup ws) M
 | _,_,_=>False
theorem X2{P:List W->Prop}(m:∀ws,R (.tup ws) M->P [.tup ws])(F:∀x ws,kQ M x ws->R (.tup ws) M->P [x])(l:List W)(h:tX l M R):P l:=by
 match l,h with
 | [.tup _],h=>exact m _ h
 | [.rl _],h=>exact F _ _ rfl h
 | [.ref _],h=>exact h.elim λws h=>F _ _ h.1 h.2
theorem X4:cM X (.type "tuple") (eV X.K tX):=xQ UG λxs H Q M R U k=>X2
 (λws h N=>N.oneE λv T av=>av.tupE λa us e f q=>⟨_,_,iD T e,.inr ⟨bW.of f,k.at U (by rw[<-e];exact av) h⟩⟩)
 (λx ws F h N=>N.oneE λv T av=>let ⟨a,us,e,f,q⟩:=lY U av F;⟨_,_,iD T e,.inl ⟨bH.of f,λp B=>laidT U k B q h⟩⟩)
def yC:List W->Mm->K3->Prop
 | [.int i],M,R=>i.natAbs.log2<1920/\R (.str (toString i)) M
 | _,_,_=>False
theorem X5:cM X (.type "str") (eV X.K yC):=by
 rintro pins s Z H xs us Q I rs ⟨ws,M,R,U,S,h,k⟩
 match ws,h with
 | [.int i],h=>
  obtain⟨v,rfl,av⟩:=S.one;cases av;exact RV pins s Z H _ us Q I rs ⟨i,rfl,h.1,k.at U (.str _) h.2⟩
def bools(bs:List Bool):List W:=bs.map W.bl
theorem aJ.bools{K:Ac}{H:Hp}{M:Mm}:∀{bs:List Bool} {vs:List V},aJ K H M vs (L2.bools bs)->vs=bs.map V.bl
 | [],_,h=>by cases h;rfl
 | b::r,_,h=>by
  cases h with
  | cons x y=>cases x;rw[aJ.bools y];rfl
abbrev tY:List W->Mm->K3->Prop
 | [.ref a],M,R=>∃bs,M a=some (.lst (bools bs))/\R (.bl (bs.all id)) M
 | [.rl ws],M,R=>∃bs,ws=bools bs/\R (.bl (bs.all id)) M
 | _,_,_=>False
theorem X6(hc:X.calm=true):cM X (.builtin "all") (eV X.K tY):=by
 rintro pins s Z H xs us Q I rs ⟨ws,M,R,U,S,h,k⟩
 match ws,h with
 | [.ref a],h=>
  obtain⟨v,rfl,av⟩:=S.one;cases av;obtain⟨bs,e,r⟩:=h;obtain⟨vs,f,q⟩:=U.lst e;rw[q.bools]at f;exact tB false hc pins s Z H _ us Q I rs ⟨a,bs,rfl,bH.of f,k.at U (.bl _) r⟩
 | [.rl ws],h=>
  obtain⟨v,rfl,av⟩:=S.one;obtain⟨bs,rfl,r⟩:=h;cases av with
  | rl f _ q=>
   rw[q.bools]at f;exact tB false hc pins s Z H _ us Q I rs ⟨_,bs,rfl,bH.of f,k.at U (.bl _) r⟩
def fJ:W->List W->Mm->K3->Prop
 | .ref l,[y],M,R=>∃ws,M l=some (.lst ws)/\ws.length<Ao/\R .non (put M l (.lst (ws++[y])))
 | _,_,_,_=>False
theorem X7:e9 X "list.append" (jI X.K fJ):=by
 rintro pins s Z H x xs v us Q I d rs ⟨F,ws,M,R,U,N,S,h,k⟩
 match F,ws,h with
 | .ref l,[y],h=>
  obtain⟨z,rfl,G⟩:=S.one;cases N;obtain⟨ws,e,hl,r⟩:=h;obtain⟨vs,f,q⟩:=U.lst e;exact DH pins s Z H _ _ v us Q I d rs ⟨l,vs,z,rfl,rfl,f,by rw[q.length];exact hl,xP U k e (q.append (.cons G .nil)) .non r⟩
def tZ:W->List W->Mm->K3->Prop
 | .ref l,[],M,R=>∃ws w,M l=some (.lst (ws++[w]))/\R w (put M l (.lst ws))
 | _,_,_,_=>False
theorem X8:e9 X "list.pop" (jI X.K tZ):=by
 rintro pins s Z H x xs v us Q I d rs ⟨F,ws,M,R,U,N,S,h,k⟩
 match F,ws,h with
 | .ref l,[],h=>
  cases S;cases N;obtain⟨ws,w,e,r⟩:=h;obtain⟨vs,f,q⟩:=U.lst e;have hl:=q.length;rw[Ak,Cf]at hl;obtain⟨z,hz,G⟩:=q.getW (i:=ws.length) (w:=w) (by simp);refine UM pins s Z H _ _ v us Q I d rs ⟨l,vs,z,rfl,rfl,f,by rw[hl];exact hz,xP U k e ?_ G r⟩;have:=q.dropLast;rw[List.dropLast_concat]at this;exact this
abbrev t5:aR:=λ_ M R=>iZ [] M R
abbrev mC:aR:=λ_ M R=>jH [] M R
theorem X9:E3 X (.Dict [] [] pos) t5:=U2.weak λZ H Q ⟨L,M,R,A,U,h,k⟩ p B=>by
 obtain⟨E,k2⟩:=U.laid (o:=.dK []) (u:=.dK []) B ⟨[],b8,.nil⟩;exact k _ _ _ _ k2 E (.ref p) (h p (U.nonM B))
theorem YA:E3 X (.Dict [] [] pos) mC:=U3.weak λZ H Q ⟨L,M,R,A,U,h,k⟩ p B=>by
 obtain⟨E,k2⟩:=U.laid (o:=.dT []) (u:=.dT []) B ⟨[],b8,.nil⟩;exact k _ _ _ _ k2 E (.ref p) (h p (U.nonM B))
end
abbrev P3(X:Cx)(st:Gn)(t:aD):Prop:=PS X st (lQ X.K t)
abbrev jL(X:Cx)(st:List Gn)(t:aD):Prop:=eR X st (lQ X.K t)
abbrev eJ:=W->S3->Mm->(S3->Mm->Prop)->Prop
abbrev mD:=List W->S3->Mm->(S3->Mm->Prop)->Prop
def g9(K:Ac)(g:eJ):TG:=λv m H Q=>∃w L M R,AV K H M v w/\AS K H M m L/\AM K H M/\g w L M R/\fS K H M R Q
def pA(K:Ac)(g:mD):jD:=λvs m H Q=>∃ws L M R,aJ K H M vs ws/\AS K H M m L/\AM K H M/\g ws L M R/\fS K H M R Q
theorem g9.el{K:Ac}{H:Hp}{m:SV}{C:Prop}{t:eJ}{v:V}{Q:SV->Hp->Prop}(h:g9 K t v m H Q)(c:∀w L M R,AV K H M v w->AS K H M m L->AM K H M->t w L M R->fS K H M R Q->C):C:=by obtain⟨w,L,M,R,a,b,d,h,k⟩:=h;exact c w L M R a b d h k
theorem pA.el{K:Ac}{H:Hp}{m:SV}{C:Prop}{t:mD}{v:List V}{Q:SV->Hp->Prop}(h:pA K t v m H Q)(c:∀w L M R,aJ K H M v w->AS K H M m L->AM K H M->t w L M R->fS K H M R Q->C):C:=by obtain⟨w,L,M,R,a,b,d,h,k⟩:=h;exact c w L M R a b d h k
section
variable {X:Cx}{pos:Gy}
theorem _root_.L2.PG.weak(h:PG X e t)(k:∀v m H Q,t' v m H Q->t v m H Q):PG X e t':=λC s m H v u Q I r q=>h C s m H v u Q I r (k v m H Q q)
theorem _root_.L2.iI.weak(h:iI X e t)(k:∀v m H Q,t' v m H Q->t v m H Q):iI X e t':=λC s m H v u Q I r q=>h C s m H v u Q I r (k v m H Q q)
theorem fS.at{K:Ac}{H:Hp}{M:Mm}{R:S3->Mm->Prop}{Q:SV->Hp->Prop}(h:fS K H M R Q)(U:AM K H M){m:SV}{L:S3}(A:AS K H M m L)(r:R L M):Q m H:=h m H L M (Kp.refl U) U A r
abbrev a7(i:Nat):eJ:=λw L M R=>R (L.set i (some w)) M
theorem t6{i:Nat}(Z:X.N.Nodup)(hi:X.N[i]? = some x:=by rfl)(S:Loc X.env.scope x:=by first|exact .inl rfl|exact .inr rfl)(hf:Fy X x:=by first|exact .inl rfl|exact .inr rfl|assumption):PG X (.Name x pos) (g9 X.K (a7 i)):=
 (QB Z hi S hf).weak λv m H Q s=>s.el λw L M R av A U h k=>k.at U (A.set av i) h
abbrev f9:mD:=λws L M R=>ws=[]/\R L M
abbrev cP(t:eJ)(u:mD):mD:=λws L M R=>match ws with
 | w::r=>t w L M λT V=>u r T V R
 | []=>False
theorem nO:iI X [] (pA X.K f9):=QE.weak λvs m H Q z=>z.el λws L M R av A U h k=>⟨aJ.nil_ (by rw[<-h.1];exact av),k.at U A h.2⟩
theorem iN{e:Cb}{es:List Cb}{t:eJ}{u:mD}(O:PG X e (g9 X.K t))(Z:iI X es (pA X.K u))(F:(Hn (e::es) X.env).map (·.2)=Nw e X.env::(Hn es X.env).map (·.2):=by rfl):iI X (e::es) (pA X.K (cP t u)):=
 (QF O Z F).weak λvs m H Q s=>s.el λws L M R av A U h k=>by
  cases av with
  | nil=>exact Bn h
  | cons x r=>exact⟨_,_,rfl,_,L,M,_,x,A,U,h,λl j T V o d b h'=>⟨_,T,V,R,r.kp U o,b,d,h',k.kp o⟩⟩
abbrev gA(n:Nat)(g:mD):eJ:=λw L M R=>match w with
 | .tup ws=>ws.length=n/\g ws L M R
 | .rl ws=>ws.length=n/\g ws L M R
 | .ref a=>∃ws,M a=some (.lst ws)/\ws.length=n/\g ws L M R
 | _=>False
theorem nP{k:Nat}{n:Nat}(hc:X.calm=true)(h:iI X es (pA X.K t))(P:(Hn es X.env).length=n:=by rfl)(j:(Hn es X.env).findIdx? (·.1)=none:=by rfl):PG X (.Tuple es k pos) (g9 X.K (gA n t)):=by
 rintro C s m H v u Q I r ⟨w,L,M,R,av,A,U,hw,c⟩;cases w<;>first|exact Bn hw|skip
 case tup ws=>exact av.tupE λa xs e f q=>QH hc h P j C s m H _ u Q I r ⟨a,xs,e,bW.of f,by rw[q.length];exact hw.1,_,L,M,R,q,A,U,hw.2,c⟩
 case rl ws=>exact av.rlE λa xs e f q=>D6 hc h P j C s m H _ u Q I r ⟨a,xs,e,bH.of f,by rw[q.length];exact hw.1,_,L,M,R,q,A,U,hw.2,c⟩
 case ref a=>exact hw.elim λws hw=>U.lstE hw.1 λxs f q=>D6 hc h P j C s m H _ u Q I r ⟨a,xs,av.inv,bH.of f,by rw[q.length];exact hw.2.1,_,L,M,R,q,A,U,hw.2.2,c⟩
abbrev gM(te:aR)(g:eJ):aD:=λD L M=>te L M λx I=>g x L I D.nx
theorem YB{K:Ac}{te:aR}{g:eJ}{D:gT}{m:SV}{H:Hp}(h:lQ K (gM te g) D m H):sI (up K te) (g9 K g) D m H:=by
 obtain⟨L,M,n,A,U,h,k⟩:=h;exact⟨L,M,_,A,U,h,λx G F I k1 P N O=>⟨F,L,I,n.nx,N,A.kp U k1,P,O,k.nx.kp k1⟩⟩
theorem YC(P:E3 X e te)(Z:PG X tg (g9 X.K g))(F:swapsWithSole [tg] e pos.line X.env=pure false:=by rfl)(hw:swappedStores [tg] e X.env=pure none:=by rfl)(O:(Hn [tg] X.env).map (·.2)=[Nw tg X.env]:=by rfl):P3 X (.Assign [tg] e pos) (gM te g):=(QK P Z F hw O).weak λ_ _ _ h=>YB h
abbrev aW(i:Nat)(te:aR):aD:=λD L M=>te L M λx I=>D.nx (L.set i (some x)) I
theorem nQ{i:Nat}(Z:X.N.Nodup)(g:E3 X e te)(hi:X.N[i]? = some x:=by rfl)(S:Loc X.env.scope x:=by first|exact .inl rfl|exact .inr rfl)(F:Ig e (some (.Name x a)) pos.line X.env=pure false:=by rfl)(hf:Fy X x:=by first|exact .inl rfl|exact .inr rfl|assumption):
  P3 X (.Assign [.Name x a] e pos) (aW i te):=(QL Z hi S g F hf).weak λD m H s=>s.el λL M n A U h k=>⟨L,M,_,A,U,h,λy G W I k1 P t O=>k.nx _ _ _ _ k1 P ((A.kp U k1).set t i) O⟩
def qQ(o i v:W)(M:Mm)(Q:Mm->Prop):Prop:=match o with
 | .ref a=>(∃ws k j,i=.int k/\M a=some (.lst ws)/\gJ ws.length k=some j/\Q (put M a (.lst (ws.set j v))))\/
   (∃kvs k,i=wK k/\M a=some (.dK kvs)/\kvs.length<Ao/\Q (put M a (.dK (bZ kvs k v))))\/
   ∃kvs k,i=.tup (k.map wK)/\M a=some (.dT kvs)/\kvs.length<Ao/\Q (put M a (.dT (bZ kvs k v)))
 | _=>False
def YD(K:Ac):sG:=λo i v H Q=>∃N wi d M R,AV K H M o N/\AV K H M i wi/\AV K H M v d/\AM K H M/\qQ N wi d M R/\∀j V,Kp H M j V->AM K j V->R V->Q j
theorem set_dict(J:X.A.units+1<Ex):sH X (λo i v H Q=>∃a j,o=.ref a/\lN H a i v j/\Q j):=by
 intro C s m H o i v y c u Q I x w T h;obtain⟨a,j,rfl,d,q⟩:=h;cases x;exact UX J I d w T λr k=>⟨j,k,q⟩
theorem GC{c:Type}[DecidableEq c]{K:Ac}{H:Hp}{M:Mm}{ks:List (c×V)}{kvs:List (c×W)}{n:c}{v:V}{d:W}{a:Aj}{o:MO}{u:HO}(U:AM K H M)(e:M a=some o)(q:bK K H M c ks kvs)(av:AV K H M v d){L:MO}:bK K (aN H a u) (put M a L) c (dY ks n v) (bZ kvs n d):=Paired.mapP (qP q n av) λp q z=>⟨z.1,z.2.wr U e⟩
theorem YE(J:X.A.units+1<Ex):sH X (YD X.K):=by
 rintro C s m H o i v y c u Q I x w T ⟨N,wi,d,M,R,F,p,av,U,h,k⟩;cases N<;>first|exact Bn h|skip
 rename_i a;rcases h with⟨ws,n,j,l,e,D,r⟩|⟨kvs,n,l,e,hl,r⟩|⟨kvs,n,l,e,hl,r⟩
 .rw[l]at p;obtain⟨vs,f,q⟩:=U.lst e;obtain⟨E,k2⟩:=U.write (o:=.lst (ws.set j d)) (u:=.lst (vs.set j v)) e ⟨_,b8,(aJ.set av j q).wr U e⟩;exact T5 C s m H _ _ v y c u Q I x w T ⟨a,vs,n,j,F.inv,p.inv,f,by rw[q.length];exact D,k _ _ k2 E r⟩
 .rw[l]at p;obtain⟨ks,f,q⟩:=U _ _ e;obtain⟨E,k2⟩:=U.write (o:=.dK (bZ kvs n d)) (u:=.dK (dY ks n v)) e ⟨_,b8,GC U e q av⟩;exact set_dict J C s m H _ _ v y c u Q I x w T ⟨a,_,F.inv,by rw[p.key];exact lN.k f (by rw[Cu q];exact hl),k _ _ k2 E r⟩
 .rw[l]at p;obtain⟨ks,f,q⟩:=U _ _ e;obtain⟨E,k2⟩:=U.write (o:=.dT (bZ kvs n d)) (u:=.dT (dY ks n v)) e ⟨_,b8,GC U e q av⟩;exact p.tupE λb xs B O g=>set_dict J C s m H _ _ v y c u Q I x w T ⟨a,_,F.inv,by rw[B];exact lN.t f (by rw[<-g.keys];exact O) (by rw[Cu q];exact hl),k _ _ k2 E r⟩
abbrev iE(S a:aR):eJ:=λw L M R=>S L M λo I=>a L I λi v=>qQ o i w v λt=>R L t
theorem w_sub{o i:Cb}{S a:aR}(J:X.A.units+1<Ex)(D:E3 X o S)(hi:E3 X i a)(l:∀v,Nw (.Subscript o i pos) X.env v=(do
   let y <-Jf [v] (El o X.env)
   let c <-Jf [v,y] (El i X.env)
   Pu pos
   Jf [v,y,c] (Ul y c v)
   release [v,y,c] []):=by intro _;rfl):PG X (.Subscript o i pos) (g9 X.K (iE S a)):=
 (QJ D hi (YE J) l).weak λv m H Q n=>n.el λw L M R av C U h k=>⟨L,M,_,C,U,h,λo G N I k1 P F O=>⟨L,I,_,C.kp U k1,P,O,λi z wi s k2 E p Z=>
  ⟨N,wi,w,s,_,F.kp P k2,p,(av.kp U k1).kp P k2,E,Z,λj V B d r=>k _ _ _ _ ((k1.trans k2).trans B) d (((C.kp U k1).kp P k2).kp E B) r⟩⟩⟩
abbrev dA:aD:=λD L M=>D.nx L M
abbrev aF(t u:aD):aD:=λD L M=>t {D with nx:=u D} L M
variable {st:Gn}{rest:List Gn}{t u:aD}{e:Cb}{te:aR}
theorem YF:jL X [] dA:=B8.weak λD m H s=>s.el λL M n A U h k=>k.nx.at U A h
theorem yD(O:P3 X st t)(Z:jL X rest u):jL X (st::rest) (aF t u):=(B9 O Z).weak λD m H s=>s.el λL M n A U h k=>
 ⟨L,M,_,A,U,h,⟨λl j T V o d b h'=>⟨T,V,n,b,d,h',k.kp o⟩,k.rt,k.bk,k.ct⟩⟩
theorem yE(O:P3 X st t):jL X [st] t:=CA O
abbrev cE(te:aR):aD:=λD L M=>te L M λ_ I=>D.nx L I
theorem GD(P:E3 X e te)(F:Ig e none pos.line X.env=pure false:=by rfl):P3 X (.Expr e pos) (cE te):=(wB P F).weak λD m H s=>s.el λL M n A U h k=>
 ⟨L,M,_,A,U,h,λv j w V o d av r=>k.nx _ _ _ _ o d (A.kp U o) r⟩
abbrev bS(te:aR):aD:=λD L M=>te L M D.rt
theorem GF(P:E3 X e te):P3 X (.Return (some e) pos) (bS te):=(CC P).weak λD m H s=>s.el λL M n A U h k=>⟨L,M,_,A,U,h,k.rt⟩
abbrev yF:aD:=λD _ M=>D.rt .non M
theorem YG:P3 X (.Return none pos) yF:=P8.weak λD m H s=>s.el λL M n A U h k=>k.rt.at U .non h
abbrev cI(c:cR)(t u:aD):aD:=λD L M=>c L M λb I=>if b=true then t D L I else u D L I
theorem YH(hc:T3 X c tc)(l:jL X a t)(Y:jL X b u):P3 X (.If c a b pos) (cI tc t u):=(CF hc l Y).weak λD m H s=>s.el λL M n A U h k=>
 ⟨L,M,_,A,U,h,λb G I k1 P O=>by
  cases b with
  | true=>exact⟨L,I,n,A.kp U k1,P,O,k.kp k1⟩
  | false=>exact⟨L,I,n,A.kp U k1,P,O,k.kp k1⟩⟩
theorem YI:P3 X st (λ_ _ _=>False):=QA.weak λD m H s=>s.el λL M n A U h k=>h.elim
def mE(c:cR)(tb:aD):aD:=λD L M=>∃r:Nat->S3->Mm->Prop,(∃m,r m L M)/\∀m L M,r m L M->
 c L M λb I=>if b=true then tb {D with nx:=λT V=>∃a u,a<m/\Sub u V/\r a T u,ct:=λT V=>∃a u,a<m/\Sub u V/\r a T u,bk:=D.nx} L I else D.nx L I
theorem YJ(B:Py X.m X.A X.env X.xe)(hc:T3 X c tc)(Y:jL X O tb):P3 X (.While c O [] pos) (mE tc tb):=
 (QN B hc Y).weak λD g H ⟨L,M,n,C,U,⟨r,⟨m,J⟩,h⟩,k⟩=>by
  refine⟨λm l j=>∃T V,Kp H M j V/\AM X.K j V/\AS X.K j V l T/\r m T V,⟨m,L,M,Kp.refl U,U,C,J⟩,?_⟩;rintro m x G ⟨e,I,k1,P,i,N⟩;refine⟨e,I,_,i,P,h m e I N,λb z v k2 E Z=>?_⟩;cases b with
  | false=>exact k.nx _ _ _ _ (k1.trans k2) E (i.kp P k2) Z
  | true=>
   have Z:tb {n with nx:=λT V=>∃a u,a<m/\Sub u V/\r a T u,ct:=λT V=>∃a u,a<m/\Sub u V/\r a T u,bk:=n.nx} e v:=Z;refine⟨λl j=>∃a T V,a<m/\Kp H M j V/\AM X.K j V/\AS X.K j V l T/\r a T V,λl j ⟨a,T,V,f,p,y,w,s⟩=>⟨a,f,T,V,p,y,w,s⟩,e,v,_,i.kp P k2,E,Z,?_⟩;have S:fS X.K z v (λT V=>∃a u,a<m/\Sub u V/\r a T u) (λl j=>∃a T V,a<m/\Kp H M j V/\AM X.K j V/\AS X.K j V l T/\r a T V):=
    λl j T V o d q ⟨a,u,f,p,y⟩=>⟨a,T,u,f,((k1.trans k2).trans o).sub p,d.sub p,q.sub p,y⟩
   exact⟨S,(k.rt.kp k1).kp k2,(k.nx.kp k1).kp k2,S⟩
abbrev gB:=S3->Mm->(List W->(Mm->Prop)->Mm->Prop)->Prop
structure iF(K:Ac)(H0:Hp)(M0:Mm)(J:It)(ws:List W)(keep:Mm->Prop):Prop where
 go:∀i H M,Kp H0 M0 H M->AM K H M->keep M->i<ws.length->J.go i H
 stop:∀H M,Kp H0 M0 H M->AM K H M->keep M->J.stop ws.length H
 yld:∀i H M x H',Kp H0 M0 H M->AM K H M->keep M->i<ws.length->J.yld i H x H'->∃w,ws[i]? = some w/\Kp H M H' M/\AM K H' M/\AV K H' M x w
def fL(K:Ac)(wi:gB):TI:=λm H D=>∃(L:S3) (M:Mm) (R:List W->(Mm->Prop)->Mm->Prop),AS K H M m L/\AM K H M/\wi L M R/\∀J j ws keep V,Kp H M j V->AM K j V->iF K j V J ws keep->R ws keep V->D J j
theorem fL.el{K:Ac}{H:Hp}{m:SV}{C:Prop}{t:gB}{Q:It->Hp->Prop}(h:fL K t m H Q)(c:∀L M R,AS K H M m L->AM K H M->t L M R->(∀J j ws keep V,Kp H M j V->AM K j V->iF K j V J ws keep->R ws keep V->Q J j)->C):C:=by obtain⟨L,M,R,a,b,h,k⟩:=h;exact c L M R a b h k
theorem _root_.L2.PI.weak{tg iter:Cb}{t t':TI}(h:PI X tg iter t)(k:∀m H R,t' m H R->t m H R):PI X tg iter t':=λC s m H R I q=>h C s m H R I (k m H R q)
@[irreducible] def mF(ws:List W)(keep:Mm->Prop)(g:eJ)(tb:aD)(D:D3)(L:S3)(M:Mm):Prop:=
 ∃r:Nat->S3->Mm->Prop,r 0 L M/\(∀i L M,i<=ws.length->r i L M->keep M)/\
  (∀i w L M,ws[i]? = some w->r i L M->g w L M λf v=>tb {D with nx:=λT V=>∃u,Sub u V/\r (i+1) T u,ct:=λT V=>∃u,Sub u V/\r (i+1) T u,bk:=D.nx} f v)/\
  ∀L M,r ws.length L M->D.nx L M
abbrev cL(wi:gB)(g:eJ)(tb:aD):aD:=λD L M=>wi L M λws keep I=>mF ws keep g tb D L I
theorem YK(B:Py X.m X.A X.env X.xe)(hc:X.calm=true)(hi:PI X tg iter (fL X.K wi))(K:PG X tg (g9 X.K g))(Y:jL X O tb)(F:∀x,Gx iter X.env x=pure x:=by intro _;rfl):P3 X (.For tg iter O [] pos) (cL wi g tb):=
 (CH B hc hi K Y F).weak λD d H s=>s.el λL M t C U h k=>by
  refine⟨L,M,_,C,U,h,λJ G ws keep I k1 P it hw=>?_⟩;unfold mF at hw;obtain⟨r,S,hk,F,hd⟩:=hw;refine⟨λi m l j=>m=ws.length-i/\i<=ws.length/\∃T V,Kp G I j V/\AM X.K j V/\AS X.K j V l T/\r i T V,⟨_,rfl,Ea _,L,I,Kp.refl P,P,C.kp U k1,S⟩,?_⟩;rintro i m σ2 z ⟨rfl,hi,f,v,k2,E,as2,Q⟩
  by_cases a:i<ws.length
  .refine .inr ⟨it.go i z v k2 E (hk i f v hi Q) a,λl j=>∃T V,Kp G I j V/\AM X.K j V/\AS X.K j V l T/\r (i+1) T V,λl j q=>⟨ws.length-(i+1),by lia,rfl,a,q⟩,λx R y=>?_⟩;obtain⟨w,hw,k3,b,N⟩:=it.yld i z v x R k2 E (hk i f v hi Q) a y;refine⟨w,f,v,_,N,as2.kp E k3,b,F i w f v hw Q,λσ4 H4 τ4 M4 k4 am4 as4 h4=>⟨τ4,M4,_,as4,am4,h4,?_⟩⟩;have c:=((k2.trans k3).trans k4);have n:fS X.K H4 M4 (λT V=>∃u,Sub u V/\r (i+1) T u) (λl j=>∃T V,Kp G I j V/\AM X.K j V/\AS X.K j V l T/\r (i+1) T V):=
    λl j T V o W as' ⟨u,p,q3⟩=>⟨T,u,(c.trans o).sub p,W.sub p,as'.sub p,q3⟩
   exact⟨n,k.rt.kp (k1.trans c),k.nx.kp (k1.trans c),n⟩
  .have e:i=ws.length:=by lia
   subst e;exact .inl ⟨it.stop z v k2 E (hk _ f v hi Q),k.nx _ _ _ _ (k1.trans k2) E as2 (hd f v Q)⟩
theorem yG{keep:Mm->Prop}(r:Nat->S3->Mm->Prop)(Y:r 0 L M)(hk:∀i L M,i<=ws.length->r i L M->keep M)(F:∀i w L M,ws[i]? = some w->r i L M->g w L M λf v=>tb {D with nx:=λT V=>∃u,Sub u V/\r (i+1) T u,ct:=λT V=>∃u,Sub u V/\r (i+1) T u,bk:=D.nx} f v)(hd:∀L M,r ws.length L M->D.nx L M):mF ws keep g tb D L M:=by unfold mF;exact⟨r,Y,hk,F,hd⟩
variable {tg l a b:Cb}{tl ta tb':aR}
theorem YL{K:Ac}{d:Hp}{X:Mm}{p:Aj}{ws:List W}:iF K d X (oJ K p) ws λM=>M p=some (.lst ws) where
 go:=λi H M _ U e hi=>by
  obtain⟨vs,f,q⟩:=U.lst e;exact⟨vs,vs[i]'(by rw[q.length];exact hi),bH.of f,by simp⟩
 stop:=λH M _ U e=>by
  obtain⟨vs,f,q⟩:=U.lst e;exact⟨vs,bH.of f,by rw[q.length];exact Ai _⟩
 yld:=λi H M x j _ U e hi y=>by
  obtain⟨rfl,y⟩:=y;obtain⟨vs,f,q⟩:=U.lst e;obtain⟨w,hw,av⟩:=q.getV (y vs (bH.of f));exact⟨w,hw,Kp.refl U,U,av⟩
theorem GG{K:Ac}{d:Hp}{X:Mm}{p:Aj}{vs:List V}{ws:List W}(g:AM K d X)(st:∀H M,Kp d X H M->bH K H p vs)(s:aJ K d X vs ws):iF K d X (oJ K p) ws λ_=>True:=by
 refine⟨λi H M k U _ hi=>⟨vs,vs[i]'(by rw[s.length];exact hi),st H M k,by simp⟩,λH M k U _=>⟨vs,st H M k,by rw[s.length];exact Ai _⟩,λi H M x j k U _ hi y=>?_⟩;obtain⟨rfl,y⟩:=y;obtain⟨w,hw,av⟩:=(s.kp g k).getV (y vs (st _ M k));exact⟨w,hw,Kp.refl U,U,av⟩
theorem YM{K:Ac}{d:Hp}{X:Mm}{p:Aj}{vs:List V}{ws:List W}(g:AM K d X)(e:kK K d p vs)(s:aJ K d X vs ws):iF K d X (oJ K p) ws λ_=>True:=
 GG g (λH M k=>by
  refine kK.sq ?_;rcases e with⟨o,e⟩|e
  .exact .inl ⟨o,(k.fr _ _ (g.noFrz e) e).1⟩
  .exact .inr e) s
theorem YN{K:Ac}{d:Hp}{X:Mm}{p:Aj}{vs:List V}{ws:List W}(g:AM K d X)(e:d p=some (.lst vs))(n:X p=none)(s:aJ K d X vs ws):iF K d X (oJ K p) ws λ_=>True:=
 GG g (λH M k=>bH.of (k.fr _ _ n e).1) s
theorem YO{K:Ac}{d:Hp}{X:Mm}{p:Aj}{vs:List V}{ws:List W}(g:AM K d X)(e:d p=some (.tup vs))(s:aJ K d X vs ws):iF K d X (wH K p) ws λ_=>True:=by
 have st:∀H M,Kp d X H M->bW K H p vs:=λH M k=>bW.of (k.fr _ _ (g.noTup e) e).1;refine⟨λi H M k U _ hi=>⟨vs,vs[i]'(by rw[s.length];exact hi),st H M k,by simp⟩,λH M k U _=>⟨vs,st H M k,by rw[s.length];exact Ai _⟩,λi H M x j k U _ hi y=>?_⟩;obtain⟨rfl,y⟩:=y;obtain⟨w,hw,av⟩:=(s.kp g k).getV (y vs (st _ M k));exact⟨w,hw,Kp.refl U,U,av⟩
theorem GH{K:Ac}{d:Hp}{X:Mm}{lo:Int}{n:Nat}:iF K d X (p6 lo n) ((Cd n).map λi=>W.int (lo+(i:Nat))) λ_=>True where
 go:=λi H M _ U _ hi=>by show i<n;simpa using hi
 stop:=λH M _ U _=>by show n<=_;simp
 yld:=λi H M x j _ U _ hi y=>by
  obtain⟨rfl,rfl⟩:=y;have hi:i<n:=by simpa using hi
  exact⟨.int (lo+i),by simp[hi],Kp.refl U,U,.int _⟩
theorem YQ{K:Ac}{d:Hp}{X:Mm}{z:Aw}:iF K d X (xD z) (z.cps.toList.map λc=>W.str ⟨#[c]⟩) λ_=>True where
 go:=λi H M _ U _ hi=>by show i<z.cps.size;simpa using hi
 stop:=λH M _ U _=>by show z.cps.size<=_;simp
 yld:=λi H M x j _ U _ hi y=>by
  obtain⟨rfl,c,hc,rfl⟩:=y;exact⟨.str ⟨#[c]⟩,by rw[Ap,hc];rfl,Kp.refl U,U,.str _⟩
def kS(X:Cx)(tg:Cb)(r:V->Hp->(It->Hp->Prop)->Prop):Prop:=
 ∀(C:Pn) (s:Ah) (m:SV) (H:Hp) (x:V) (u:Ae) (R:It->Hp->Prop),Inv X C m H s->RelV x u->r x H R->X.a (Rh u) (wF X C m tg R) X.xe s
theorem yH:kS X tg (λx H R=>∃a,x=.ref a/\(∃xs,bH X.K H a xs)/\R (oJ X.K a) H):=by
 rintro C M m G x u R L B ⟨a,rfl,⟨xs,N⟩,q⟩;cases B;obtain⟨its,T,p,hz⟩:=L.list N;refine Ky p.isList ?_;refine⟨M.heap.objs.size,[M.heap.objs.size],_,_,G,rfl,L.kept (t':=M.toks) λb o e=>Ag _ e,QO a _,⟨_,Au _ rfl,rfl,rfl⟩,λb Y=>?_,q⟩;have e:b=M.heap.objs.size:=by simpa using Y
 subst e;exact L.fpOk (Ai _) (L.hok.fresh (Ai _))
theorem YR:kS X tg (λx H R=>∃a,x=.ref a/\(∃xs,bW X.K H a xs)/\R (wH X.K a) H):=by
 rintro C M m G x u R L B ⟨a,rfl,⟨xs,N⟩,q⟩;cases B;obtain⟨its,T,p,hz⟩:=L.tuple N;refine Nb (show M.heap.IsTuple a its.toArray from p) ?_;refine⟨M.heap.objs.size,[M.heap.objs.size],_,_,G,rfl,L.kept (t':=M.toks) λb o e=>Ag _ e,QP a _,⟨_,Au _ rfl,rfl,rfl⟩,λb Y=>?_,q⟩;have e:b=M.heap.objs.size:=by simpa using Y
 subst e;exact L.fpOk (Ai _) (L.hok.fresh (Ai _))
theorem YS:kS X (.Name x w) (λx H R=>∃z,x=.str z/\R (xD z) H):=by
 rintro C M m G x u R L B ⟨z,rfl,q⟩;obtain⟨t,rfl⟩:=B;have fp:∀b∈[M.heap.objs.size],gF X C G b:=λb Y=>by
  have e:b=M.heap.objs.size:=by simpa using Y
  subst e;exact L.fpOk (Ai _) (L.hok.fresh (Ai _))
 cases l:z.cps.all (· < 128)
 .refine wpAny_pyIter_wide l ?_;exact⟨M.heap.objs.size,[M.heap.objs.size],_,_,G,rfl,L.kept (t':=M.toks) λb o e=>Ag _ e,
   D4 z _ "str_iterator" t (λA s i c Q E a b d=>wpAny_pyNext_wide_item a b d) (λA s i Q E a b c d=>wpAny_pyNext_wide_end a b c d) (λA i s Q E a b=>wpAny_pyIter_striter_wide a b),⟨_,Au _ rfl,rfl,rfl⟩,fp,q⟩
 .refine wpAny_pyIter_ascii l ?_;exact⟨M.heap.objs.size,[M.heap.objs.size],_,_,G,rfl,L.kept (t':=M.toks) λb o e=>Ag _ e,
   D4 z _ "str_ascii_iterator" t (λA s i c Q E a b d=>wpAny_pyNext_ascii_item a b d) (λA s i Q E a b c d=>wpAny_pyNext_ascii_end a b c d) (λA i s Q E a b=>wpAny_pyIter_striter_ascii a b),⟨_,Au _ rfl,rfl,rfl⟩,fp,q⟩
theorem _root_.L2.PI.of{r:V->Hp->(It->Hp->Prop)->Prop}{tl:TE}(hl:PE X l tl)(g:kS X tg r):PI X tg l (λm H R=>tl m H λx G=>r x G R):=λC s m H R I h=>
 aY (hl C s m H _ I h) λu M ⟨x,G,L,B,f⟩=>g C M m G x u R L B f
def qR(K:Ac)(r:W->Mm->(List W->(Mm->Prop)->Mm->Prop)->Prop):V->Hp->(It->Hp->Prop)->Prop:=λx H D=>∃(F:W) (M:Mm) (R:List W->(Mm->Prop)->Mm->Prop),AV K H M x F/\AM K H M/\r F M R/\
 ∀J j ws keep I,Kp H M j I->AM K j I->iF K j I J ws keep->R ws keep I->D J j
abbrev jM:W->Mm->(List W->(Mm->Prop)->Mm->Prop)->Prop
 | .tup ws,I,R=>R ws (λ_=>True) I
 | .rl ws,I,R=>R ws (λ_=>True) I
 | .sc ws,I,R=>R ws (λ_=>True) I
 | .ref a,I,R=>∃ws,I a=some (.lst ws)/\R ws (λM=>M a=some (.lst ws)) I
 | _,_,_=>False
abbrev cU:W->Mm->(List W->(Mm->Prop)->Mm->Prop)->Prop
 | .tup ws,I,R=>R ws (λ_=>True) I
 | .rl ws,I,R=>R ws (λ_=>True) I
 | .sc ws,I,R=>R ws (λ_=>True) I
 | .str z,I,R=>R (z.cps.toList.map λc=>W.str ⟨#[c]⟩) (λ_=>True) I
 | .ref a,I,R=>∃ws,I a=some (.lst ws)/\R ws (λM=>M a=some (.lst ws)) I
 | _,_,_=>False
theorem GI:kS X tg (qR X.K jM):=by
 rintro C s m H x u D I B ⟨F,M,R,N,U,h,k⟩;have k:=λJ ws keep=>k J H ws keep M (Kp.refl U) U;cases F<;>first|exact Bn h|skip
 case tup ws=>exact N.tupE λa xs e f q=>YR C s m H _ u D I B ⟨a,e,⟨xs,bW.of f⟩,k _ _ _ (YO U f q) h⟩
 case rl ws=>obtain⟨a,xs,e,f,n,q⟩:=N.inv;exact yH C s m H _ u D I B ⟨a,e,⟨xs,bH.of f⟩,k _ _ _ (YN U f n q) h⟩
 case sc ws=>exact N.scE λa xs e f q=>yH C s m H _ u D I B ⟨a,e,⟨xs,f.sq⟩,k _ _ _ (YM U f q) h⟩
 case ref a=>exact h.elim λws h=>U.lstE h.1 λvs f q=>yH C s m H _ u D I B ⟨a,N.inv,⟨vs,bH.of f⟩,k _ _ _ YL h.2⟩
theorem YT:kS X (.Name y d) (qR X.K cU):=by
 rintro C s m H x u D I B ⟨F,M,R,N,U,h,k⟩;cases F<;>first|exact Bn h|skip
 case str z=>exact YS C s m H _ u D I B ⟨z,N.inv,k _ _ _ _ _ (Kp.refl U) U YQ h⟩
 all_goals exact GI C s m H x u D I B ⟨_,M,R,N,U,h,k⟩
abbrev bY(r:W->Mm->(List W->(Mm->Prop)->Mm->Prop)->Prop)(tl:aR):gB:=λL M R=>tl L M λw I=>r w I R
theorem t7{r:W->Mm->(List W->(Mm->Prop)->Mm->Prop)->Prop}(hl:E3 X l tl)(g:kS X tg (qR X.K r)):PI X tg l (fL X.K (bY r tl)):=(PI.of hl g).weak λm H D s=>s.el λL M R A U h k=>
 ⟨L,M,_,A,U,h,λx G F I k1 P N O=>⟨F,I,R,N,P,O,λJ j ws keep V o d it r=>k J j ws keep V (k1.trans o) d it r⟩⟩
theorem YU(hl:E3 X l tl):PI X tg l (fL X.K (bY jM tl)):=t7 hl GI
theorem t9(hl:E3 X l tl):PI X (.Name y d) l (fL X.K (bY cU tl)):=t7 hl YT
def iO(lo:Int)(n:Nat):List W:=(Cd n).map λi=>W.int (lo+(i:Nat))
abbrev uA(ta:cN):gB:=λL M R=>ta L M λws I=>∃j:Int,ws=[.int j]/\-(2 ^ 62)<=j/\j<2 ^ 62/\R (iO 0 j.toNat) (λ_=>True) I
abbrev GJ(ta:cN):gB:=λL M R=>ta L M λws I=>∃i j:Int,ws=[.int i,.int j]/\(-(2 ^ 62)<=i/\i<2 ^ 62/\-(2 ^ 62)<=j/\j<2 ^ 62)/\R (iO i (j-i).toNat) (λ_=>True) I
theorem YV(t:Gl X "range")(J:X.mg "range" = none)(l:A3 X [a] z)(F:Cj [a] X.env=[(false,El a X.env)]:=by rfl):PI X tg (.Call (.Name "range" p) [a] [] pos) (fL X.K (uA z)):=
 (QU t J l F).weak λm H D s=>s.el λL M R A U h k=>⟨L,M,_,A,U,h,λvs G ws I k1 P N ⟨j,e,O,Z,r⟩=>by
  rw[e]at N;obtain⟨v,e,av⟩:=N.one;exact⟨j,iD e av.inv,O,Z,k _ _ _ _ _ k1 P GH r⟩⟩
theorem YW(Z:Gl X "range")(J:X.mg "range" = none)(l:A3 X [a,b] z)(F:Cj [a,b] X.env=[(false,El a X.env),(false,El b X.env)]:=by rfl)(Y:Cj [b] X.env=[(false,El b X.env)]:=by rfl):
  PI X tg (.Call (.Name "range" p) [a,b] [] pos) (fL X.K (GJ z)):=
 (QV Z J l F Y).weak λm H D s=>s.el λL M R A U h k=>⟨L,M,_,A,U,h,λvs G ws I k1 P N ⟨i,j,e,O,r⟩=>by
  rw[e]at N;obtain⟨v,u,e,av,c⟩:=N.two;exact⟨i,j,by rw[e,show _=_ from av.inv,show _=_ from c.inv],O,k _ _ _ _ _ k1 P GH r⟩⟩
@[irreducible] def gN(ws:List W)(keep:Mm->Prop)(g:eJ)(tt:cR)(te:aR)(c:S3)(I:Mm)(R:K3):Prop:=
 ∀p,I p=none->∃r:Nat->S3->List W->Mm->Prop,r 0 c [] I/\(∀vs i L acc M,i<=ws.length->M p=none->r i L acc M->keep (put M p (.fix vs)))/\
  (∀vs i w L acc M,ws[i]? = some w->M p=none->r i L acc M->g w L (put M p (.fix vs)) λf v=>tt f v λb t=>
   if b=true then te f t λy x=>x p=some (.fix vs)/\acc.length<Ao/\∃z,Sub z (del x p)/\r (i+1) f (acc++[y]) z
   else t p=some (.fix vs)/\∃z,Sub z (del t p)/\r (i+1) f acc z)/\
  ∀L acc M,M p=none->r ws.length L acc M->R (.ref p) (put M p (.lst acc))
def yI(js:List (Option Nat))(L:S3):S3:=js.map λo=>o.bind λj=>(L[j]?).join
theorem AS.cmap{K:Ac}{H:Hp}{M:Mm}{m:SV}{L:S3}(h:AS K H M m L):∀js:List (Option Nat),AS K H M (cmap js m) (yI js L)
 | []=>.nil
 | none::r=>.cons (λ_ e=>nomatch e) (AS.cmap h r)
 | some j::r=>.cons (λw e=>by
   have e:(L[j]?).join=some w:=e;cases q:L[j]? with
   | none=>rw[q]at e;cases e
   | some z=>
    rw[q]at e;have e:z=some w:=e;subst e;obtain⟨v,O,Z⟩:=h.get q;exact⟨v,by show(m[j]?).join=some v;rw[O];rfl,Z⟩) (AS.cmap h r)
abbrev eF(wi:gB)(g:eJ)(tt:cR)(te:aR)(js:List (Option Nat)):aR:=λL M R=>wi L M λws keep I=>gN ws keep g tt te (yI js L) I R
theorem yJ(h:up X.K (eF wi g tt te js) m H Q):xB (fL X.K wi) (λ_=>g9 X.K g) (λ_=>jG X.K tt) (λ_=>up X.K te) js m H Q:=by
 obtain⟨L,M,R,A,U,h,k⟩:=h;refine⟨L,M,_,A,U,h,λJ S ws keep I k1 P it C p G B=>?_⟩;unfold gN at C;obtain⟨r,Y,hk,F,hd⟩:=C p (P.nonM G);obtain⟨amp,kp⟩:=P.laid (o:=.fix []) (u:=.lst []) G b8;have hMp:=P.nonM G;refine VL ws.length (λi O D j=>∃T acc V,V p=none/\Kp S I j (put V p (.fix D))/\AM X.K j (put V p (.fix D))/\AS X.K j (put V p (.fix D)) O T/\aJ X.K j (put V p (.fix D)) D acc/\r i T acc V) ?_ ?_ ?_
 .exact⟨yI js L,[],I,hMp,kp,amp,((A.kp U k1).kp P kp).cmap js,.nil,Y⟩
 .rintro O D j ⟨T,acc,V,mp,K,d,f,av,pv⟩;refine⟨it.stop j _ K d (hk _ _ _ _ _ (Ai _) mp pv),?_⟩;have hp':j p=some (.lst D):=d p _ aL;refine k _ j _ (put V p (.lst acc)) (k1.trans ⟨λa o n e=>?_,K.dom⟩) (λa o e=>?_) (.ref p) (hd T acc V mp pv)
  .obtain⟨x,y⟩:=K.fr a o n e;exact⟨x,by rw[aM (eO e G)]at y⊢;exact y⟩
  .by_cases l:a=p
   .subst l;rw[aL]at e;cases e;exact⟨D,hp',av.go EX⟩
   .rw[aM l]at e;exact(d a o (by rw[aM l];exact e)).go EX rfl
 .rintro i O D j hi ⟨T,acc,V,mp,K,d,f,av,pv⟩;have hkp:=hk D i T acc V (Hr hi) mp pv;refine⟨it.go i j _ K d hkp hi,λx E y=>?_⟩;obtain⟨w,hw,k3,q,N⟩:=it.yld i j _ x E K d hkp hi y;refine⟨w,T,_,_,N,f.kp d k3,q,F D i w T acc V hw mp pv,λσ4 H4 v M4 k4 z as4 h4=>⟨v,M4,_,as4,z,h4,λb H5 M5 k5 am5 s=>?_⟩⟩;have c:Kp j (put V p (.fix D)) H5 M5:=(k3.trans k4).trans k5;cases b with
  | false=>
   obtain⟨m5,M6,sb,pv6⟩:M5 p=some (.fix D)/\∃M6,Sub M6 (del M5 p)/\r (i+1) v acc M6:=s;have sb':Sub (put M6 p (.fix D)) M5:=by
    have:=(sb.trans Sub.del).put (a:=p) (o:=.fix D);rwa [xK m5]at this
   exact VC ⟨v,acc,M6,sb.non nG,(K.trans c).sub sb',am5.sub sb',(as4.kp z k5).sub sb',(av.kp d c).sub sb',pv6⟩
  | true=>
   have s:te v M5 λy M4=>M4 p=some (.fix D)/\acc.length<Ao/\∃M5,Sub M5 (del M4 p)/\r (i+1) v (acc++[y]) M5:=s;refine VD ⟨v,M5,_,as4.kp z k5,am5,s,λy H6 W M6 k6 am6 t ⟨m6,hl,M7,sb,pv7⟩=>?_⟩;have kk6:=c.trans k6;have hp6:H6 p=some (.lst D):=am6 p _ m6;obtain⟨am8,k8⟩:=am6.write (o:=.fix (D++[y])) (u:=.lst (D++[y])) m6 b8;have sb':Sub (put M7 p (.fix (D++[y]))) (put M6 p (.fix (D++[y]))):=(sb.trans Sub.del).put;refine⟨hp6,by rw[av.length];exact hl,v,acc++[W],M7,sb.non nG,((K.trans kk6).trans k8).sub sb',am8.sub sb',(((as4.kp z k5).kp am5 k6).kp am6 k8).sub sb',?_,pv7⟩;exact(((av.kp d kk6).append (.cons t .nil)).kp am6 k8).sub sb'
variable {sc:Jp}{N':List Aw}{js:List (Option Nat)}{iter elt:Cb}{ifs:List Cb}{wi:gB}{g:eJ}{tt:cR}
abbrev fM:cR:=λ_ M Q=>Q true M
theorem GK:iB X [] (jG X.K fM):=VH.weak λm H Q s=>s.el λL M R A U h k=>k true H M (Kp.refl U) U h
theorem YX{c:Cb}{t:cR}(h:T3 X c t):iB X [c] (jG X.K t):=VI h
theorem gO(N':List Aw)(js:List (Option Nat))(hi:PI X tg iter (fL X.K wi))(Z:∀B,PG (dO X sc N' B) tg (g9 X.K g))(ht:∀B,iB (dO X sc N' B) ifs (jG X.K tt))(P:∀B,PE (dO X sc N' B) elt (up X.K te))(f:nD N' sc X.env.scope=true:=by kernel_rfl)(D:fA N' X.N sc js N'=true:=by kernel_rfl)(hc:X.calm=true:=by rfl)(F:∀x,Gx iter X.env x=pure x:=by intro _;rfl):
  E3 X (.ListComp elt [⟨tg,iter,ifs,0⟩] sc pos) (eF wi g tt te js):=(VJ N' js hi Z ht P f D hc F).weak λ_ _ _ h=>yJ h
theorem YY{i:Nat}{x:Aw}{c u:Gy}(C:X.N.Nodup)(N':List Aw)(js:List (Option Nat))(hi:PI X tg iter (fL X.K wi))(Z:∀B,PG (dO X sc N' B) tg (g9 X.K g))(ht:∀B,iB (dO X sc N' B) ifs (jG X.K tt))(d:∀B,PE (dO X sc N' B) elt (up X.K te))(b:X.N[i]? = some x:=by rfl)(S:Loc X.env.scope x:=by first|exact .inl rfl|exact .inr rfl)(f:nD N' sc X.env.scope=true:=by kernel_rfl)(Y:fA N' X.N sc js N'=true:=by kernel_rfl)(hc:X.calm=true:=by rfl)(a:Ig (.ListComp elt [⟨tg,iter,ifs,0⟩] sc pos) (some (.Name x c)) u.line X.env=pure true:=by rfl)(hf:Fy X x:=by first|exact .inl rfl|exact .inr rfl|assumption)(F:∀x,Gx iter X.env x=pure x:=by intro _;rfl):P3 X (.Assign [.Name x c] (.ListComp elt [⟨tg,iter,ifs,0⟩] sc pos) u) (aW i (eF wi g tt te js)):=
 (DY C b S N' js hi Z ht d f Y hc a hf F).weak λD m H s=>s.el λL M n A U h k=>yJ ⟨L,M,_,A,U,h,λy G W I k1 P t O=>k.nx _ _ _ _ k1 P ((A.kp U k1).set t i) O⟩
end
def bF(N:List Aw)(ws:List W):S3:=ws.map some++Bz (N.length-ws.length) none
def bA(R:K3):D3:={nx:=λ_ V=>∃u,Sub u V/\R .non u,rt:=λw V=>∃u,Sub u V/\R w u}
section
variable {P:Ar}{w:Bk}{K:Ac}{mg:Aw->Option Ae}{base:Cr}
theorem YZ{x m:Aw}{st:Gn}{f:Aj}{fd:Dz}{N ps:List Aw}{k:Nat}{sp:a8}(F:iV K x m st f fd)(S:lK N ps (dN st))(len:∀ws M R,sp ws M R->ws.length=ps.length)(p:∀(a:Ae) (A:Cn) (outer:List Env) (s:Ah) (H:Hp) (E:XK) (ws:List W) (M:Mm) (R:K3),cC k (A.deeper (Lp m (dN st) s.heap.objs.size f a))->sp ws M R->
   ∃t,jL (cZ eS P w K mg base N m (dN st) f a A outer s H E).nox (fX st) t/\t (bA R) (bF N ws) M):e8 P w K mg base eS (k+1) f fd ps (eW K sp):=by
 refine F.ok S (λvs H Q E ⟨ws,M,R,U,av,h,_⟩=>by rw[av.length];exact len ws M R h) λa A outer s H vs Q E g ⟨ws,M,R,U,av,h,c⟩=>?_;obtain⟨t,ht,h'⟩:=p a A outer s H E ws M R g h;refine⟨_,ht,bF N ws,M,bA R,?_,U,h',⟨λl j T V o d b ⟨u,sb,r⟩=>c _ j _ u (o.sub sb) (d.sub sb) .non r,λv j w V o d G ⟨u,sb,r⟩=>c v j w u (o.sub sb) (d.sub sb) (G.sub sb) r,λ_ _ _ _ _ _ _ z=>z.elim,λ_ _ _ _ _ _ _ z=>z.elim⟩⟩;unfold L2.start bF;rw[av.length];exact AS.start av _
def qS:a8:=λws M R=>∃ns:List Int,ws=[.sc (ns.map W.int)]/\ns.length<=63/\(M=λ_=>none)/\∀V,R (.bl true) V
theorem Y0{H:Hp}{a:Aj}{ns:List Int}(hl:ns.length<=63)(D:sX H)(F:bH K H a (ns.map V.int)):eW K qS [.ref a] H (λv _=>v=.bl true) λ_ _ _=>False:=by
 have g:kK K H a (ns.map V.int):=by
  rcases F with(e|⟨o,e⟩)|e
  .rcases D a with z|⟨o,xs,z⟩
   .rw[z]at e;cases e
   .rw[z]at e;cases e
  .exact .inl ⟨o,e⟩
  .exact .inr e
 exact⟨[.sc (ns.map W.int)],λ_=>none,λw _=>w=.bl true,λa o e=>(nomatch e),.cons (.sc g (aJ.int ns)) .nil,⟨ns,rfl,hl,rfl,λ_=>rfl⟩,λv j w I _ _ av r=>by subst r;exact av.bl_inv⟩
end
section
variable {X:Cx}{a b c:Cb}{ta tb tc:aR}{pos:Gy}
abbrev yK:aD:=λ_ _ _=>False
def GN:W->List W->Mm->K3->Prop
 | .str z,[],M,R=>z.length<=5592405/\R (.str (Qs z)) M
 | _,_,_,_=>False
theorem m_upper:e9 X "str.upper" (jI X.K GN):=by
 rintro C s m H x xs v us Q I d rs ⟨F,ws,M,R,U,N,S,h,k⟩
 match F,ws,h with
 | .str z,[],h=>
  cases N;cases S;exact VP C s m H _ _ v us Q I d rs ⟨z,rfl,rfl,h.1,k.at U (.str _) h.2⟩
def GO:W->List W->Mm->K3->Prop
 | .str z,[.str y],M,R=>(y.length==0)=false/\z.length<=Ao/\R (.tup [.str (Cw z y).1,.str (Cw z y).2.1,.str (Cw z y).2.2]) M
 | _,_,_,_=>False
theorem m_partition:e9 X "str.partition" (jI X.K GO):=by
 rintro C s m H x xs v us Q I d rs ⟨F,ws,M,R,U,N,S,h,k⟩
 match F,ws,h with
 | .str z,[.str y],h=>
  obtain⟨u,rfl,c⟩:=S.one;cases N;cases c;exact VQ C s m H _ _ v us Q I d rs ⟨z,y,rfl,rfl,h.1,h.2.1,λp B=>laidT U k B (.cons (.str _) (.cons (.str _) (.cons (.str _) .nil))) h.2.2⟩
end
section
variable {X:Cx}{a b:Cb}{ta tb:aR}{pos:Gy}{es:List Cb}{t:cN}
theorem Y1{K:Ac}{H:Hp}{M:Mm}{R:K3}{Q:VK}{p:Aj}{xs:List V}{ws:List W}(U:AM K H M)(k:Up K H M R Q)(B:H p=none)(N:aJ K H M xs ws)(r:R (.rl ws) M):Q (.ref p) (aN H p (.lst xs)):=by
 obtain⟨E,k2⟩:=U.tup (u:=.lst xs) B;exact k _ _ _ _ k2 E (.rl b8 (U.nonM B) (N.newT B)) r
abbrev fU(t:cN):aR:=λL M R=>t L M λws I=>sz ws (R (.rl ws) I)
theorem Y2(h:A3 X es t):E3 X (.List es pos) (fU t):=
 (CU h).weak λm H Q s=>s.el λL M R A U h k=>⟨L,M,_,A,U,h,λxs G ws I k1 P S r=>⟨by rw[S.length];exact r.el.1,λp B=>Y1 P (k.kp k1) B S r.el.2⟩⟩
theorem GP{f:Ae->Ae->Rw Ae}(h:bC X f (cJ X.K r))(k:∀x y M R,A x y M R->r x y M λw V=>frz w V R):bC X f (cJ X.K A):=λC s m H x y v u Q I d L ⟨F,S,M,R,U,N,t,h',c⟩=>
 h C s m H x y v u Q I d L ⟨F,S,M,_,U,N,t,k _ _ _ _ h',c.frz⟩
theorem GQ{r A:List W->Mm->K3->Prop}(h:cM X f (eV X.K r))(k:∀x M R,A x M R->r x M λw V=>frz w V R):cM X f (eV X.K A):=λC s m H xs us Q I rs ⟨ws,M,R,U,N,h',c⟩=>
 h C s m H xs us Q I rs ⟨ws,M,_,U,N,k _ _ _ h',c.frz⟩
abbrev dD:R3
 | .int i,.int j,M,R=>R (.int (i+j)) M
 | .tup xs,.tup B,M,R=>xs≠[]/\xs.length+B.length<=Ao/\R (.tup (xs++B)) M
 | .ref a,.ref b,M,R=>∃xs B,M a=some (.lst xs)/\M b=some (.lst B)/\xs.length+B.length<=Ao/\R (.rl (xs++B)) M
 | .rl xs,.ref b,M,R=>∃B,M b=some (.lst B)/\xs.length+B.length<=Ao/\R (.rl (xs++B)) M
 | .ref a,.rl B,M,R=>∃xs,M a=some (.lst xs)/\xs.length+B.length<=Ao/\R (.rl (xs++B)) M
 | .rl xs,.rl B,M,R=>xs.length+B.length<=Ao/\R (.rl (xs++B)) M
 | _,_,_,_=>False
theorem GR:bC X (Ee .Add) (cJ X.K dD):=GP FK λx y M R h=>by
 cases x<;>first|exact Bn h|(cases y<;>first|exact Bn h|skip)
 case int.int i j=>exact h
 case tup.tup i j=>exact h
 case ref.ref i j=>obtain⟨xs,B,O,Z,f,r⟩:=h;exact⟨xs,B,O,Z,f,aV.frz r⟩
 case rl.ref i j=>obtain⟨B,Z,f,r⟩:=h;exact⟨B,Z,f,aV.frz r⟩
 case ref.rl i j=>obtain⟨B,Z,f,r⟩:=h;exact⟨B,Z,f,aV.frz r⟩
 case rl.rl i j=>exact⟨h.1,aV.frz h.2⟩
abbrev kT:R3
 | .int i,.int j,M,R=>(oM i j\/sZ i j)/\R (.int (i*j)) M
 | .ref a,.int n,M,R=>∃xs,M a=some (.lst xs)/\-(2 ^ 63)<=n/\n<2 ^ 63/\xs.length*n.toNat<=Ao/\R (.rl (Bz n.toNat xs).flatten) M
 | .rl xs,.int n,M,R=>-(2 ^ 63)<=n/\n<2 ^ 63/\xs.length*n.toNat<=Ao/\R (.rl (Bz n.toNat xs).flatten) M
 | _,_,_,_=>False
theorem Y3:bC X (Ee .Mult) (cJ X.K kT):=GP XE λx y M R h=>by
 cases x<;>first|exact Bn h|(cases y<;>first|exact Bn h|skip)
 case int.int i j=>exact h
 case ref.int i j=>obtain⟨xs,O,Z,f,h4,r⟩:=h;exact⟨xs,O,Z,f,h4,aV.frz r⟩
 case rl.int i j=>obtain⟨Z,f,h4,r⟩:=h;exact⟨Z,f,h4,aV.frz r⟩
abbrev yL:List W->Mm->K3->Prop
 | [.tup ws],M,R=>R (.rl ws) M
 | [.rl ws],M,R=>R (.rl ws) M
 | [.sc ws],M,R=>R (.rl ws) M
 | [.dk kvs],M,R=>R (.rl (kvs.map λg=>wK g.1)) M
 | [.ref a],M,R=>(∃ws,M a=some (.lst ws)/\R (.rl ws) M)\/∃kvs,M a=some (.dK kvs)/\R (.rl (kvs.map λg=>wK g.1)) M
 | _,_,_=>False
theorem Y4(hc:X.calm=true):cM X (.type "list") (eV X.K yL):=GQ (GB hc) λx M R h=>by
 match x,h with
 | [.tup ws],h=>exact aV.frz h
 | [.rl ws],h=>exact aV.frz h
 | [.sc ws],h=>exact aV.frz h
 | [.dk kvs],h=>exact aV.frz h
 | [.ref a],h=>
  rcases h with⟨ws,e,r⟩|⟨kvs,e,r⟩
  .exact .inl ⟨ws,e,aV.frz r⟩
  .exact .inr ⟨kvs,e,aV.frz r⟩
abbrev GS:W->Option Int->Option Int->Mm->K3->Prop
 | .rl ws,lo,hi,M,R=>R (.rl (eE ws lo hi)) M
 | .sc ws,lo,hi,M,R=>R (.rl (eE ws lo hi)) M
 | .ref a,lo,hi,M,R=>∃ws,M a=some (.lst ws)/\R (.rl (eE ws lo hi)) M
 | .tup ws,lo,hi,M,R=>¬(HT.sIx ws.length 0 lo=0/\HT.sIx ws.length ws.length hi=ws.length)/\R (.tup (eE ws lo hi)) M
 | _,_,_,_,_=>False
theorem Y5(h:GS x l u M R):F1 x l u M λw V=>frz w V R:=by
 cases x<;>first|exact Bn h|skip
 case tup ws=>exact h
 case rl ws=>exact aV.frz h
 case sc ws=>exact aV.frz h
 case ref a=>obtain⟨ws,e,r⟩:=h;exact⟨ws,e,aV.frz r⟩
abbrev pB(ta:aR)(tl b:oY):aR:=λL M R=>ta L M λx I=>tl L I λl v=>b L v λu t=>GS x l u t R
theorem Y6{lo hi:Option Cb}{tl b:oY}{B:Gy}(g:E3 X a ta)(hl:PO X lo (oZ X.K tl))(J:PO X hi (oZ X.K b)):E3 X (.Subscript a (.Slice lo hi none B) pos) (pB ta tl b):=
 (TJ XS g hl J).weak λm H Q s=>s.el λL M R A U h k=>⟨L,M,_,A,U,h,λx G F I k1 P N O=>⟨L,I,_,A.kp U k1,P,O,λl z v k2 E Z=>⟨L,v,_,(A.kp U k1).kp P k2,E,Z,λu w t k3 j f=>
  ⟨F,t,_,j,(N.kp P k2).kp E k3,Y5 f,(((k.kp k1).kp k2).kp k3).frz⟩⟩⟩⟩
variable {sc:Jp}{N':List Aw}{js:List (Option Nat)}{tg iter elt:Cb}{ifs:List Cb}{wi:gB}{g:eJ}{tt:cR}{te:aR}
theorem uB{i:Nat}(C:X.N.Nodup)(N':List Aw)(js:List (Option Nat))(hi:PI X tg iter (fL X.K wi))(Z:∀B,PG (dO X sc N' B) tg (g9 X.K g))(ht:∀B,iB (dO X sc N' B) ifs (jG X.K tt))(d:∀B,PE (dO X sc N' B) elt (up X.K te))(b:X.N[i]? = some x:=by rfl)(S:Loc X.env.scope x:=by first|exact .inl rfl|exact .inr rfl)(f:nD N' sc X.env.scope=true:=by kernel_rfl)(Y:fA N' X.N sc js N'=true:=by kernel_rfl)(hc:X.calm=true:=by rfl)(a:Ig (.ListComp elt [⟨tg,iter,ifs,0⟩] sc pos) (some (.Name x c)) u.line X.env=pure true:=by rfl)(hf:Fy X x:=by first|exact .inl rfl|exact .inr rfl|assumption)(F:∀x,Gx iter X.env x=pure x:=by intro _;rfl):P3 X (.Assign [.Name x c] (.ListComp elt [⟨tg,iter,ifs,0⟩] sc pos) u) (aW i (bN (eF wi g tt te js))):=
 (DY C b S N' js hi Z ht d f Y hc a hf F).weak λD m H s=>s.el λL M n A U h k=>yJ ⟨L,M,_,A,U,h,Up.frz λy G W I k1 P t O=>k.nx _ _ _ _ k1 P ((A.kp U k1).set t i) O⟩
end
def Pl:Nat->W->Prop
 | _,.non=>True
 | _,.int _=>True
 | _,.str x=>Rp x=true
 | n+1,.tup ws=>∀w∈ws,Pl n w
 | n+1,.rl ws=>∀w∈ws,Pl n w
 | _,_=>False
def cV(M:Mm):W->W
 | .ref a=>match M a with
  | some (.lst ws)=>.rl ws
  | _=>.ref a
 | w=>w
section
variable {M:Mm}
theorem yM{n:Nat}(E:∀{w:W},Pl n w->∃d,Snap M w d/\d.canLay0=true/\d.depth<=n):∀{ws:List W},(∀w∈ws,Pl n w)->∃D,iM M ws D/\PyData.canLayAll0 D=true/\Qk D<=n
 | [],_=>⟨[],.nil,rfl,by simp[Qk]⟩
 | w::ws,h=>by
  obtain⟨d,s,c,e⟩:=E (h w Bi);obtain⟨D,ss,a,b⟩:=yM E λz hz=>h z (Bb _ hz);exact⟨d::D,.cons s ss,by simp[PyData.canLayAll0,c,a],by simp only[Qk];lia⟩
theorem Y7:∀{n:Nat} {w:W},Pl n w->∃d,Snap M w d/\d.canLay0=true/\d.depth<=n:=by
 intro n
 induction n with
 | zero=>
  intro w h;cases w<;>first|exact Bn h|skip
  case non=>exact⟨_,.non,rfl,by simp[Ja]⟩
  case int i=>exact⟨_,.int i,rfl,by simp[Ja]⟩
  case str x=>exact⟨_,.str x,h,by simp[Ja]⟩
 | succ n E=>
  intro w h;cases w<;>first|exact Bn h|skip
  case non=>exact⟨_,.non,rfl,by simp[Ja]⟩
  case int i=>exact⟨_,.int i,rfl,by simp[Ja]⟩
  case str x=>exact⟨_,.str x,h,by simp[Ja]⟩
  case tup ws=>
   obtain⟨D,s,c,e⟩:=yM E h;exact⟨_,.tup s,by simpa [PyData.canLay0] using c,by simp only[Ja];lia⟩
  case rl ws=>
   obtain⟨D,s,c,e⟩:=yM E h;exact⟨_,.rl s,by simpa [PyData.canLay0] using c,by simp only[Ja];lia⟩
theorem GU{n:Nat}{w:W}(h:Pl n (cV M w)):∃d,Snap M w d/\Snap M (cV M w) d/\d.canLay0=true/\d.depth<=n:=by
 obtain⟨d,s,c,e⟩:=Y7 (M:=M) h;refine⟨d,?_,s,c,e⟩;cases w<;>first|exact s|skip
 case ref a=>
  cases q:M a with
  | none=>
   have e:cV M (.ref a)=.ref a:=by simp[cV,q]
   rw[e]at s;exact s
  | some o=>
   cases o with
   | lst ws=>
    have e:cV M (.ref a)=.rl ws:=by simp[cV,q]
    rw[e]at s;cases s with
    | rl r=>exact .ref q r
   | dK _=>
    have e:cV M (.ref a)=.ref a:=by simp[cV,q]
    rw[e]at s;exact s
   | dT _=>
    have e:cV M (.ref a)=.ref a:=by simp[cV,q]
    rw[e]at s;exact s
   | fix _=>
    have e:cV M (.ref a)=.ref a:=by simp[cV,q]
    rw[e]at s;exact s
   | ins _ _ _=>
    have e:cV M (.ref a)=.ref a:=by simp[cV,q]
    rw[e]at s;exact s
   | dn _ _ _ _=>
    have e:cV M (.ref a)=.ref a:=by simp[cV,q]
    rw[e]at s;exact s
   | vw _=>
    have e:cV M (.ref a)=.ref a:=by simp[cV,q]
    rw[e]at s;exact s
   | dh _ _ _ _ _=>
    have e:cV M (.ref a)=.ref a:=by simp[cV,q]
    rw[e]at s;exact s
theorem GV{n:Nat}(E:∀{x y:W} {dx a:Ng},Pl n x->Pl n y->Snap M x dx->Snap M y a->(Lv dx a=true↔x=y)):∀{xs B:List W} {dx a:List Ng},(∀w∈xs,Pl n w)->(∀w∈B,Pl n w)->iM M xs dx->iM M B a->(Oz dx a=true↔xs=B):=by
 intro xs
 induction xs with
 | nil=>
  intro B dx a S K L g;cases L;cases g<;>simp[Oz]
 | cons x xs b=>
  intro B dx a S K L g;cases L with
  | cons L j=>
   cases g with
   | nil=>simp[Oz]
   | cons g R=>
    rw[Oz,Cy,E (S x Bi) (K _ Bi) L g,b (λz hz=>S z (Bb _ hz)) (λz hz=>K z (Bb _ hz)) j R];simp
theorem Y8:∀{n:Nat} {x y:W} {dx a:Ng},Pl n x->Pl n y->Snap M x dx->Snap M y a->(Lv dx a=true↔x=y):=by
 intro n
 induction n with
 | zero=>
  intro x y dx a S K c b;cases c<;>first|exact Bn S|skip
  all_goals cases b<;>first|exact Bn K|simp[Lv]
 | succ n E=>
  intro x y dx a S K c b;cases c<;>first|exact Bn S|skip
  all_goals cases b<;>first|exact Bn K|skip
  all_goals first|(simp[Lv];done)|skip
  case tup.tup r1 _ _ r2=>rw[Lv,GV E S K r1 r2];simp
  case rl.rl r1 _ _ r2=>rw[Lv,GV E S K r1 r2];simp
theorem Y9{neg:Bool}{x y:W}{R:K3}(n:Nat)(U:n<=60)(S:Pl n (cV M x))(K:Pl n (cV M y))(h:∀b:Bool,(b=true↔cV M x=cV M y)->R (.bl (if neg then !b else b)) M):l8 neg x y M R:=by
 obtain⟨dx,L,c,m,T⟩:=GU S;obtain⟨a,g,e,d,G⟩:=GU K;unfold l8;exact⟨dx,a,L,g,⟨m,by lia⟩,⟨d,by lia⟩,h _ (Y8 S K c e)⟩
theorem nR{neg:Bool}{x y:W}{R:K3}(n:Nat)(U:n<=60)(S:Pl n (cV M x))(K:Pl n (cV M y))(h:∀b:Bool,(b=true↔cV M x=cV M y)->R (.bl (if neg then !b else b)) M):eC neg x y M R:=by
 have d:=Y9 n U S K h;cases x<;>first|exact d|skip
 case int i=>
  cases y<;>first|exact d|skip
  case int j=>exact h (decide (i=j)) (by simp[cV])
 case str i=>
  cases y<;>first|exact d|skip
  case str j=>exact h (decide (i=j)) (by simp[cV])
 case bl i=>
  cases y<;>first|exact d|skip
  case bl j=>exact(show False by cases n<;>exact S).elim
end
theorem ZA{M:Mm}{neg:Bool}{x y:W}{R:K3}(n:Nat)(U:n<=60)(S:Pl n (cV M x))(e:cV M y=cV M x)(h:R (.bl (!neg)) M):eC neg x y M R:=by
 refine nR n U S (by rw[e];exact S) λb Y=>?_;have:b=true:=Y.mpr e.symm;subst this;cases neg<;>exact h
theorem uC{ws:List W}{keep:Mm->Prop}{g:eJ}{H:cR}{te:aR}{c:S3}{I:Mm}{R:K3}(St:S3->Prop)(h:W->S3)(e:W->Option W->Prop)(hl:ws.length<=Ao)(hk:∀M,Sub I M->keep M)(Y:St c)(ht:∀w∈ws,St (h w))(t:∀w∈ws,∀L M (C:S3->Mm->Prop),St L->C (h w) M->g w L M C)(F:∀w∈ws,∀M (C:K3) (D:Mm->Prop),Sub I M->(∀y,e w (some y)->C y M)->(e w none->D M)->H (h w) M λb m=>if b=true then te (h w) m C else D m)(r:∀os,Ff e ws os->aV (os.filterMap id) I R):gN ws keep g H te c I R:=by
 unfold gN;intro p B;refine⟨λi L acc M=>St L/\(∃os,Ff e (ws.take i) os/\acc=os.filterMap id)/\M=I,⟨Y,⟨[],by simp;exact .nil,rfl⟩,rfl⟩,?_,?_,?_⟩
 .rintro vs i L acc M _ d ⟨_,_,rfl⟩;exact hk _ (Sub.new B)
 .rintro vs i w L acc M hw d ⟨st,⟨os,po,rfl⟩,rfl⟩;have J:w∈ws:=Ay hw;have hi:i<ws.length:=(An.mp hw).1;have f:ws.take (i+1)=ws.take i++[w]:=by rw[Bw,hw];rfl
  have k:∀o,e w o->Ff e (ws.take (i+1)) (os++[o]):=λo x=>by
   rw[f];clear hw d st f
   revert os
   generalize ws.take i=l;intro os po
   induction po with
   | nil=>exact .cons x .nil
   | cons a b E=>exact .cons a E
  have j:(os.filterMap id).length<Ao:=by
   have O:=List.length_filterMap_le id os;have Z:=Cu po;rw[Ca]at Z;lia
  refine t w J L _ _ st (F w J _ _ _ (Sub.new B) (λy K=>⟨aL,j,M,?_,ht w J,⟨_,k _ K,?_⟩,rfl⟩) λU=>⟨aL,M,?_,ht w J,⟨_,k _ U,?_⟩,rfl⟩)
  .rw[iY B];exact aP
  .simp
  .rw[iY B];exact aP
  .simp
 .rintro L acc M d ⟨_,⟨os,po,rfl⟩,rfl⟩;rw[Br]at po;exact r os po p B
def yN(rest:S3):S3->Prop:=λL=>∃o,L=o::rest
theorem nS{ws:List W}{keep:Mm->Prop}{te:aR}{o:Option W}{rest:S3}{I:Mm}{R:K3}(f:W->W)(hl:ws.length<=Ao)(hk:∀M,Sub I M->keep M)(F:∀w∈ws,∀M (C:K3),Sub I M->C (f w) M->te (some w::rest) M C)(r:aV (ws.map f) I R):gN ws keep (a7 0) fM te (o::rest) I R:=by
 refine uC (yN rest) (λw=>some w::rest) (λw o=>o=some (f w)) hl hk ⟨_,rfl⟩ (λw _=>⟨_,rfl⟩) ?_ ?_ ?_
 .rintro w _ L M C ⟨o,rfl⟩ h;exact h
 .intro w hw M C D sb O _;show(if true=true then te (some w::rest) M C else D M);rw[Uw rfl];exact F w hw M C sb (O _ rfl)
 .intro os po;have:os.filterMap id=ws.map f:=by
   clear r F hl hk
   induction po with
   | nil=>rfl
   | cons a b E=>subst a;simp[E]
  rw[this];exact r
theorem ZC{ws:List W}{keep:Mm->Prop}{H:cR}{te:aR}{o:Option W}{rest:S3}{I:Mm}{R:K3}(f:W->Option W)(hl:ws.length<=Ao)(hk:∀M,Sub I M->keep M)(F:∀w∈ws,∀M (C:K3) (D:Mm->Prop),Sub I M->(∀y,f w=some y->C y M)->(f w=none->D M)->H (some w::rest) M λb t=>if b=true then te (some w::rest) t C else D t)(r:aV (ws.filterMap f) I R):gN ws keep (a7 0) H te (o::rest) I R:=by
 refine uC (yN rest) (λw=>some w::rest) (λw o=>o=f w) hl hk ⟨_,rfl⟩ (λw _=>⟨_,rfl⟩) ?_ ?_ ?_
 .rintro w _ L M C ⟨o,rfl⟩ h;exact h
 .intro w hw M C D sb O Z;exact F w hw M C D sb (λy e=>O y e.symm) λe=>Z e.symm
 .intro os po;have:os.filterMap id=ws.filterMap f:=by
   clear r F hl hk
   induction po with
   | nil=>rfl
   | @cons a b c d e _ E=>
    subst e;cases q:f a<;>simp[q,E]
  rw[this];exact r
theorem uD{ws:List W}{keep:Mm->Prop}{te:aR}{o:Option W}{rest:S3}{I:Mm}{R:K3}(P:W->W->Prop)(hl:ws.length<=Ao)(hk:∀M,Sub I M->keep M)(F:∀w∈ws,∀M (C:K3),Sub I M->(∀y,P w y->C y M)->te (some w::rest) M C)(r:∀B,Ff P ws B->aV B I R):gN ws keep (a7 0) fM te (o::rest) I R:=by
 refine uC (yN rest) (λw=>some w::rest) (λw o=>∃y,o=some y/\P w y) hl hk ⟨_,rfl⟩ (λw _=>⟨_,rfl⟩) ?_ ?_ ?_
 .rintro w _ L M C ⟨o,rfl⟩ h;exact h
 .intro w hw M C D sb O _;show(if true=true then te (some w::rest) M C else D M);rw[Uw rfl];exact F w hw M C sb λy d=>O y ⟨y,rfl,d⟩
 .intro os po;have:∃B,os=B.map some/\Ff P ws B:=by
   clear r F hl hk
   induction po with
   | nil=>exact⟨[],rfl,.nil⟩
   | cons a b E=>
    obtain⟨y,rfl,d⟩:=a;obtain⟨B,rfl,h⟩:=E;exact⟨y::B,rfl,.cons d h⟩
  obtain⟨B,rfl,d⟩:=this;rw[Kb];have:(B.filterMap (id ∘ some))=B:=by simp
  rw[this];exact r B d
theorem Paired.all{P:W->W->Prop}{Q:W->Prop}{xs B:List W}(h:Ff P xs B)(k:∀x y,P x y->Q y):∀y∈B,Q y:=by
 induction h with
 | nil=>intro y K;cases K
 | cons a b E=>
  intro y K;rcases Bd.mp K with rfl|K
  .exact k _ _ a
  .exact E y K
def ZD(rest:S3):S3->Prop:=λL=>∃c T,L=c::T::rest
def ZE(rest:S3):W->S3
 | .tup [a,b]=>some a::some b::rest
 | _=>none::none::rest
abbrev yO:eJ:=gA 2 (cP (a7 0) (cP (a7 1) f9))
theorem yP{ws:List W}{keep:Mm->Prop}{H:cR}{te:aR}{c T:Option W}{rest:S3}{I:Mm}{R:K3}(P:W->Option W->Prop)(hw:∀w∈ws,∃a b,w=.tup [a,b])(hl:ws.length<=Ao)(hk:∀M,Sub I M->keep M)(F:∀a b,.tup [a,b]∈ws->∀M (C:K3) (D:Mm->Prop),Sub I M->(∀y,P (.tup [a,b]) (some y)->C y M)->(P (.tup [a,b]) none->D M)->H (some a::some b::rest) M λd t=>if d=true then te (some a::some b::rest) t C else D t)(r:∀os,Ff P ws os->aV (os.filterMap id) I R):gN ws keep yO H te (c::T::rest) I R:=by
 refine uC (ZD rest) (ZE rest) P hl hk ⟨_,_,rfl⟩ (λw J=>?_) ?_ ?_ r
 .obtain⟨a,b,rfl⟩:=hw w J;exact⟨_,_,rfl⟩
 .rintro w J L M C ⟨Y,g,rfl⟩ h;obtain⟨a,b,rfl⟩:=hw w J;exact⟨rfl,rfl,h⟩
 .intro w J M C D sb O Z;obtain⟨a,b,rfl⟩:=hw w J;exact F a b J M C D sb O Z
theorem ZF{ws:List W}{keep:Mm->Prop}{te:aR}{c T:Option W}{rest:S3}{I:Mm}{R:K3}(P:W->W->Prop)(hw:∀w∈ws,∃a b,w=.tup [a,b])(hl:ws.length<=Ao)(hk:∀M,Sub I M->keep M)(F:∀a b,.tup [a,b]∈ws->∀M (C:K3),Sub I M->(∀y,P (.tup [a,b]) y->C y M)->te (some a::some b::rest) M C)(r:∀B,Ff P ws B->aV B I R):gN ws keep yO fM te (c::T::rest) I R:=by
 refine yP (λw o=>∃y,o=some y/\P w y) hw hl hk (λa b J M C D sb O _=>?_) λos po=>?_
 .show(if true=true then te (some a::some b::rest) M C else D M);rw[Uw rfl];exact F a b J M C sb λy d=>O y ⟨y,rfl,d⟩
 .have:∃B,os=B.map some/\Ff P ws B:=by
   clear r F hl hk hw
   induction po with
   | nil=>exact⟨[],rfl,.nil⟩
   | cons a b E=>
    obtain⟨y,rfl,d⟩:=a;obtain⟨B,rfl,h⟩:=E;exact⟨y::B,rfl,.cons d h⟩
  obtain⟨B,rfl,d⟩:=this;rw[Kb];have:(B.filterMap (id ∘ some))=B:=by simp
  rw[this];exact r B d
structure Df(K:Ac)(mg:Aw->Option Ae)(x:Aw)(st:Gn)(ps:List Aw)(f:Aj)(fd:Dz):Prop where
 fn:iV K x x st f fd
 at_:mg x=some (.ref f)
 bi:Binds K fd ps []
theorem ZG:Cs "len" = some (.builtin "len"):=PySem.boot_len
theorem uE:Cs "list" = some (.type "list"):=by decide +kernel
theorem ZH:Cs "tuple" = some (.type "tuple"):=by decide +kernel
theorem ZI:Cs "str" = some (.type "str"):=by decide +kernel
theorem yQ:Cs "dict" = some (.type "dict"):=by decide +kernel
theorem yR:Cs "isinstance" = some (.builtin "isinstance"):=by decide +kernel
theorem ZJ:Cs "all" = some (.builtin "all"):=by decide +kernel
theorem GW:Cs "any" = some (.builtin "any"):=by decide +kernel
theorem ZK:Cs "sorted" = some (.builtin "sorted"):=by decide +kernel
theorem uF{y:Type}(x:y)(xs:List y):b7 (x::xs) 0=some x:=by simp[b7,gJ]
theorem yS{y:Type}{xs:List y}{i:Int}(Y:0<=i)(O:i<xs.length):∃x,b7 xs i=some x/\xs[i.toNat]? = some x/\x∈xs:=by
 have a:i.toNat<xs.length:=by lia
 refine⟨xs[i.toNat],?_,Bp a,Ql a⟩;simp[b7,gJ,Y,O,a]
theorem GX{ws:List W}{lo hi:Option Int}{w:W}(h:w∈eE ws lo hi):w∈ws:=List.mem_of_mem_drop (Lf h)
theorem GY{ws:List W}{lo hi:Option Int}:(eE ws lo hi).length<=ws.length:=by
 unfold eE;rw[Ca,He];exact Bf (Qv _ _) (Nat.sub_le _ _)
def pC(ws:List W):Prop:=∀w∈ws,∃i,w=W.int i
theorem ints_map(ns:List Int):pC (ns.map W.int):=λw h=>by
 obtain⟨i,_,e⟩:=Bc.mp h;exact⟨i,e.symm⟩
theorem pC.cut{ws:List W}(h:pC ws)(lo hi:Option Int):pC (eE ws lo hi):=λw m=>h w (GX m)
theorem small{n:Nat}(h:n<=10000000):n<=Ao:=Bf h (by decide)
theorem dJ{n:Nat}(h:n<10000000):n<Ao:=Bx h (by decide)
theorem GZ{S:List W}{i j:Int}(Y:0<=i)(O:0<=j):(eE S (some i) (some j)).length<=(j-i).toNat:=by
 unfold eE HT.sIx;simp only[];rw[Uv (Ts.mpr Y),Uv (Ts.mpr O),Ca];refine Bf (Oe _ _) (Nat.sub_le_of_le_add ?_);rw[<-Nat.add_min_add_left];refine Nat.le_min.mpr ⟨Bf (Oe _ _) ?_,Bf (Qv _ _) (Rc _ _)⟩;have:j<=(((j-i).toNat+i.toNat:Nat):Int):=by
  rw[Rf,Int.toNat_of_nonneg Y];have:=Int.self_le_toNat (j-i);have h:=Int.add_le_add_right this i;rwa [Int.sub_add_cancel]at h
 exact Int.toNat_le.mpr this
theorem uG{M:Mm}{a:Aj}{k:Aw}{v:W}{kvs:List (aB×W)}{Q:Mm->Prop}(h:M a=some (.dK kvs))(hl:kvs.length<Ao)(q:Q (put M a (.dK (bZ kvs (Sum.inr k) v)))):qQ (.ref a) (.str k) v M Q:=.inr (.inl ⟨kvs,.inr k,rfl,h,hl,q⟩)
theorem pD{M:Mm}{a:Aj}{k:List aB}{v:W}{kvs:List (List aB×W)}{Q:Mm->Prop}(h:M a=some (.dT kvs))(hl:kvs.length<Ao)(q:Q (put M a (.dT (bZ kvs k v)))):qQ (.ref a) (.tup (k.map wK)) v M Q:=.inr (.inr ⟨kvs,k,rfl,h,hl,q⟩)
theorem ZL{M:Mm}{a:Aj}{k:Int}{v:W}{ws:List W}{Q:Mm->Prop}(h:M a=some (.lst ws))(Y:0<=k)(O:k<ws.length)(q:Q (put M a (.lst (ws.set k.toNat v)))):qQ (.ref a) (.int k) v M Q:=
 .inl ⟨ws,k,k.toNat,rfl,h,by unfold gJ;rw[Uw Y,Uw O],q⟩
section
variable {X:Cx}{a b c:Cb}{ta tb tc:aR}{pos:Gy}
abbrev uH:List W->Mm->K3->Prop
 | [.ref a],M,R=>∃bs,M a=some (.lst (bools bs))/\R (.bl (bs.any id)) M
 | [.rl ws],M,R=>∃bs,ws=bools bs/\R (.bl (bs.any id)) M
 | _,_,_=>False
theorem G0(hc:X.calm=true):cM X (.builtin "any") (eV X.K uH):=by
 rintro C s m H xs us Q I rs ⟨ws,M,R,U,S,h,k⟩
 match ws,h with
 | [.ref a],h=>
  obtain⟨v,rfl,av⟩:=S.one;obtain rfl:=av.inv;obtain⟨bs,e,r⟩:=h;obtain⟨vs,f,q⟩:=U.lst e;rw[q.bools]at f;exact tB true hc C s m H _ us Q I rs ⟨a,bs,rfl,bH.of f,k.at U (.bl _) r⟩
 | [.rl ws],h=>
  obtain⟨v,rfl,av⟩:=S.one;obtain⟨bs,rfl,r⟩:=h;cases av with
  | rl f _ q=>
   rw[q.bools]at f;exact tB true hc C s m H _ us Q I rs ⟨_,bs,rfl,bH.of f,k.at U (.bl _) r⟩
end
def gC:Nat->List W->List W
 | _,[]=>[]
 | n,w::r=>.tup [.int n,w]::gC (n+1) r
theorem kU:∀{ws:List W} {n:Nat},(gC n ws).length=ws.length
 | [],_=>rfl
 | _::r,n=>by simp[gC,kU (ws:=r)]
theorem qT:∀{ws:List W} {n i:Nat},(gC n ws)[i]? = (ws[i]?).map λw=>W.tup [.int ((n+i:Nat):Int),w]
 | [],_,_=>by simp[gC]
 | w::r,n,0=>by simp[gC]
 | w::r,n,i+1=>by
  rw[gC,Ej,Ej,qT];congr 2;funext w;congr 4;lia
section
variable {X:Cx}{a b c:Cb}{ta tb tc:aR}{pos:Gy}
theorem G1{K:Ac}{d:Hp}{X:Mm}{p:Aj}{vs:List V}{ws:List W}{keep:Mm->Prop}(s:aJ K d X vs ws)(g:AM K d X)(st:∀H M,Kp d X H M->AM K H M->keep M->bH K H p vs):iF K d X (xI K p vs) (gC 0 ws) keep:=by
 refine⟨λi H M k U kp hi=>⟨st H M k U kp,by rw[kU]at hi;rw[s.length];exact hi⟩,λH M k U kp=>⟨st H M k U kp,by rw[kU,s.length];exact Ai _⟩,λi H M x j k U kp hi y=>?_⟩;obtain⟨n,u,J,f,rfl,rfl⟩:=y;obtain⟨w,hw,av⟩:=(s.kp g k).getV J;obtain⟨E,k2⟩:=U.tup (u:=.tup [.int (i:Nat),u]) f;refine⟨.tup [.int ((i:Nat):Int),w],by rw[qT,hw];simp,k2,E,.tup b8 (.cons (.int _) (.cons (av.go (go_same f)) .nil))⟩
abbrev uI(ta:cN):gB:=λL M R=>ta L M λws I=>match ws with
 | [.rl d]=>R (gC 0 d) (λ_=>True) I
 | [.sc d]=>R (gC 0 d) (λ_=>True) I
 | [.ref p]=>∃d,I p=some (.lst d)/\False
 | _=>False
theorem ZM{z:cN}{p pos:Gy}{es:List Cb}{W:Nat}{c:Gy}(Z:Gl X "enumerate")(J:X.mg "enumerate" = none)(l:A3 X [a] z)(F:Cj [a] X.env=[(false,El a X.env)]:=by rfl):PI X (.Tuple es W c) (.Call (.Name "enumerate" p) [a] [] pos) (fL X.K (uI z)):=
 (V4 Z J l F).weak λm H D s=>s.el λL M R A U h k=>⟨L,M,_,A,U,h,λvs G ws I k1 P N r=>by
  match ws,r with
  | [.rl d],r=>
   obtain⟨v,rfl,av⟩:=N.one;cases av with
   | rl e n q=>exact⟨_,_,rfl,bH.of e,k _ _ _ _ _ k1 P (G1 q P λH M k _ _=>bH.of (k.fr _ _ n e).1) r⟩
  | [.sc d],r=>
   obtain⟨v,rfl,av⟩:=N.one;cases av with
   | sc e q=>exact⟨_,_,rfl,e.sq,k _ _ _ _ _ k1 P (G1 q P λH M k _ _=>by
     refine kK.sq ?_;rcases e with⟨o,e⟩|e
     .exact .inl ⟨o,(k.fr _ _ (P.noFrz e) e).1⟩
     .exact .inr e) r⟩
  | [.ref p],r=>obtain⟨_,_,f⟩:=r;exact f.elim⟩
end
section
variable {X:Cx}
def ZN:List W->Mm->K3->Prop
 | [.dk kvs],M,R=>∃ks:List Aw,kvs.map Ef=ks.map Sum.inr/\ks.length<64/\∀ss:List Aw,ss.Perm ks->aV (ss.map W.str) M R
 | _,_,_=>False
def G2:List W->Mm->K3->Prop
 | [.dk kvs],M,R=>∃ks:List Aw,kvs.map Ef=ks.map Sum.inr/\ks.length<64/\∀ss:List Aw,ss.Perm ks->R (.rl (ss.map W.str)) M
 | _,_,_=>False
theorem ZO{K:Ac}{H:Hp}{M:Mm}(ss:List Aw):aJ K H M (ss.map V.str) (ss.map W.str):=by
 induction ss with
 | nil=>exact .nil
 | cons s r E=>exact .cons (.str s) E
theorem ZP(hc:X.calm=true):cM X (.builtin "sorted") (eV X.K ZN):=by
 rintro C s m H xs us Q I rs ⟨ws,M,R,U,S,h,k⟩
 match ws,h with
 | [.dk kvs],h=>
  obtain⟨v,rfl,av⟩:=S.one;obtain⟨ks,hk,b,r⟩:=h;cases av with
  | dk e n O q=>exact WN hc C s m H _ us Q I rs ⟨_,_,ks,rfl,e,O.trans hk,b,λss B p a=>gL U k a (ZO ss) (r ss B)⟩
theorem ZQ(hc:X.calm=true):cM X (.builtin "sorted") (eV X.K G2):=GQ (ZP hc) λx M R h=>by
 match x,h with
 | [.dk kvs],⟨ks,O,Z,r⟩=>exact⟨ks,O,Z,λss B=>aV.frz (r ss B)⟩
end
end L2
namespace PySem
namespace Dp
open L2
section
variable {prog:Ar}{w:Bk}{A:Cn}{E:Ae->Ah->Prop}{s:Ah}
theorem ZR:Oy (.type "list") "keys" = pure none:=by rw[Iy,Gi];kernel_rfl
theorem keys_miss{a:Aj}{xs:Array Ae}{k:Nat}{Q:Option Ae->Ah->Prop}(hx:s.heap.get? a=some {cls:=.type "list",data:=.seq xs k})(hA:A.handled=none)(h:∀h' tk,(∀b o,s.heap.get? b=some o->h'.get? b=some o)->Q none {s with heap:=h',toks:=tk}):Bl (Cq prog w) A (Tz (.ref a) (Bv "keys")) Q E s:=by
 obtain⟨hp,g,d,tk,os⟩:=s;have hT:∀tk',(⟨hp,g,d,tk',os⟩:Ah).TypeIs (.ref a) "list":=λ_=>⟨_,hx,rfl⟩
 have f1:=sub_AttributeError;have f3:=Nq.lookup;have f4:=Nq.bind (.ref a);have f5:=am_list_getattr_none;unfold Tz getAttrBy? getAttrBy
 repeat (any_goals (first|assumption|exact hT _|((with_reducible show Bl _ _ (call (Value.builtin "list.__getattribute__") _ _) _ _ _);refine Ks Nq (hT _) am_entry_list_getattribute (F.args_list_getattribute_2 _ _) (meets_getattribute_miss_list a xs k #[] (Bv "keys") _ ZR (by decide +kernel) (by decide +kernel)) ⟨hx,hA,λh' tk' e hx'=>?_⟩)|wp_step))
 obtain⟨t',u',he⟩:=hx'.there;have hx2:=hx'.of.keeps;show Bl _ _ (Nc _ _ _ _ _ _ _) _ _ _;unfold Nc
 repeat (any_goals (first|assumption|wp_step))
 exact h _ _ hx2
theorem entry_loop:Ua table "dict.update.loop" = some Gg.«dict.update.loop»:=entryFor_of_tree (by kernel_rfl)
theorem plain_loop:plainId "dict.update.loop" = true:=by decide +kernel
variable {K:Type}[DecidableEq K]{knd:KeyKind prog w K}
theorem ZS(kvs:List (K×Ae))(k:K)(v:Ae):(Te kvs k v).length<=kvs.length+1:=by
 unfold Te;split
 .rw[Ab];lia
 .rw[Ak,Cf];exact Ai _
def all(kvs:List (K×Ae))(ps:List (K×Ae)):List (K×Ae):=ps.foldl (λkvs p=>Te kvs p.1 p.2) kvs
theorem ZT{d I l:Aj}{items:Array Ae}{Dd:Nat->Cr->Prop}{R:Tn->Ah->Prop}(hh:A.handled=none)(F:d≠I)(N:d≠l)(B:l≠I)(fr:∀{i h h'},Dd i h->(∀b o,b≠I->h.get? b=some o->h'.get? b=some o)->Dd i h')(st:∀{i:Nat} {t:Ah},i<items.size->Dd i t.heap->∃(a:Aj) (key v:Ae),items[i]? = some (.ref a)/\t.heap.IsTuple a #[key,v]/\∀{E:Ae->Ah->Prop} {Q:Unit->Ah->Prop},(∀Z tk,Dd (i+1) Z->Eh d t.heap Z->Q () {t with heap:=Z,toks:=tk})->Bl (Cq prog w) A.in1 (Uo d key v) Q E t):
  ∀(k i:Nat) (s:Ah),items.size-i=k->i<=items.size->s.heap.IsListIter I l i->s.heap.IsList l items->Dd i s.heap->
  (∀h' tk,(∀b o,b≠d->b≠I->s.heap.get? b=some o->h'.get? b=some o)->Dd items.size h'->R (.ok (.ret .none)) {s with heap:=h',toks:=tk})->
  Mr (Cq prog w) A (.builtin "dict.update.loop" ⟨[.ref d,.ref I,Gz (i:Int),.none],[]⟩) R s:=by
 intro k
 induction k with
 | zero=>
  intro i s hk hi p mW hd m;have X:i=items.size:=by lia
  refine Kl entry_loop ?_;rw[Hl plain_loop _];show Bl _ A.in1 (Hg (.ref I)>>=_) _ _ s;have W:=Sw (prog:=prog) (w:=w) (A:=A.in1) hh I l B items;refine Aa (W.done s _ _ (by rw[<-X];exact⟨p,mW⟩) λh' tk J=>?_);show Bl _ A.in1 (Builtin.Dict.addKeywords d []>>=_) _ _ _;rw[X]at hd;exact Aa (Af (Af (m h' tk (λb o _ Y e=>J b o (by simp[Y]) e) (fr hd λb o Y e=>J b o (by simp[Y]) e))))
 | succ k G=>
  intro i s hk hi p mW hd m;have C:i<items.size:=by lia
  refine Kl entry_loop ?_;rw[Hl plain_loop _];show Bl _ A.in1 (Hg (.ref I)>>=_) _ _ s;have W:=Sw (prog:=prog) (w:=w) (A:=A.in1) hh I l B items;refine Aa (W.item i s _ _ C ⟨p,mW⟩ λv h' tk c j J=>?_);obtain⟨a,key,u,S,⟨o,D,hc,n,U⟩,go⟩:=st (t:={s with heap:=h',toks:=tk}) C (fr hd λb o Y e=>J b o (by simp[Y]) e);rw[S]at c;cases c;show Bl _ A.in1 (Jf [Value.ref a] _>>=_) _ _ _;refine Aa (Dh (Aa (wpAny_tryCatch ?_)));unfold Builtin.Dict.pairItems;refine Aa (Mo (T:="tuple") ⟨o,D,hc⟩ ?_);rw[Uw (by decide)];refine Aa (Ed D U (Af ?_));show Bl _ _ (Jf [key,u] (Uo d key u)) _ _ _;refine Dh (go λZ r z g=>?_);refine Af ⟨Nv plain_loop _,?_⟩;exact G (i+1) _ (by lia) C (j.1.at λo e=>(g.2 I (Bq F)).trans e) (j.2.at λo e=>(g.2 l (Bq N)).trans e) z λf x q y=>m f x (λb o O Z e=>q b o O Z ((g.2 b O).trans (J b o (by simp[Z]) e))) y
theorem callG{l:Aj}{items:Array Ae}{c:Nat}{Dd:Nat->Cr->Prop}{Q:Ae->Ah->Prop}(hh:A.handled=none)(hx:s.heap.get? l=some {cls:=.type "list",data:=.seq items c})(d0:Dd 0 (s.heap.push {cls:=.type "dict",data:=.dict #[]}))(fr:∀{i h h'},Dd i h->(∀b o,@LE.le Nat _ b s.heap.objs.size->h.get? b=some o->h'.get? b=some o)->Dd i h')(st:∀{i:Nat} {t:Ah},i<items.size->Dd i t.heap->(∀b o,s.heap.get? b=some o->t.heap.get? b=some o)->∃(a:Aj) (key v:Ae),items[i]? = some (.ref a)/\s.heap.IsTuple a #[key,v]/\∀{E:Ae->Ah->Prop} {Q:Unit->Ah->Prop},(∀h2 tk,Dd (i+1) h2->Eh s.heap.objs.size t.heap h2->Q () {t with heap:=h2,toks:=tk})->Bl (Cq prog w) A.in1.in1 (Uo s.heap.objs.size key v) Q E t)(h:∀h' tk,(∀b o,s.heap.get? b=some o->h'.get? b=some o)->Dd items.size h'->Q (.ref s.heap.objs.size) {s with heap:=h',toks:=tk}):
  Bl (Cq prog w) A (call (.type "dict") [.ref l]) Q E s:=by
 refine callType_codes (Q₁:=λobj s1=>obj=.ref s.heap.objs.size/\s1 = {s with heap:=s.heap.push {cls:=.type "dict",data:=.dict #[]}}) F.kt_called_dict (F.kt_typeCall_dict_1 _) F.entry_dict_init (kt_code_dict_new _ ⟨rfl,rfl⟩) ?_;rintro obj s1 ⟨rfl,rfl⟩;have lt:l<s.heap.objs.size:=Bh hx;have hx':(s.heap.push {cls:=.type "dict",data:=.dict #[]}).get? l=some {cls:=.type "list",data:=.seq items c}:=Ag _ hx;have hty:({s with heap:=s.heap.push {cls:=.type "dict",data:=.dict #[]}}:Ah).TypeIs (.ref s.heap.objs.size) "dict":=⟨_,Au _ rfl,rfl⟩;refine⟨hty,F.args_dict_init_2 _ _,?_⟩;unfold Gg.«dict.__init__»;refine Aa ?_;unfold Builtin.Dict.selfAndRest;refine Aa (Gh hty ?_);show Bl _ _ (pure (s.heap.objs.size,[Value.ref l])) _ _ _;refine Af ?_;show Bl _ _ (Jd "dict.__init__" s.heap.objs.size (.ref l) [] .none) _ _ _;unfold Jd;refine Aa (Mo (T:="list") ⟨_,hx',rfl⟩ ?_);rw[Uw (by decide)];refine Aa (keys_miss hx' hh λh1 tk1 hk1=>?_);rw[Uw (by decide)];have hx1:=hk1 _ _ hx';have l1:s.heap.objs.size<h1.objs.size:=Bh (hk1 _ _ (Au _ rfl));refine Aa (Ga (Aa (Ky (items:=items) ⟨_,hx1,rfl,c,rfl⟩ ?_)));have gI:(h1.push {cls:=.type "list_iterator",data:=.fields #[.ref l,.int 0 0]}).IsListIter h1.objs.size l 0:=⟨_,Au _ rfl,rfl,rfl⟩;have up:∀b o,s.heap.get? b=some o->(h1.push {cls:=.type "list_iterator",data:=.fields #[.ref l,.int 0 0]}).get? b=some o:=λb o e=>Ag _ (hk1 b o (Ag _ e));have nI:∀{b:Aj},@LE.le Nat _ b s.heap.objs.size->b≠h1.objs.size:=λhb=>Bo (Fl hb l1);refine Af ⟨Nv plain_loop _,?_⟩;refine ZT (A:=A.in1) (d:=s.heap.objs.size) (I:=h1.objs.size) (l:=l) (items:=items) (Dd:=λi h=>Dd i h/\∀b o,s.heap.get? b=some o->h.get? b=some o) hh (Bo l1) (Co lt) (Bo (Gj lt l1)) (λ⟨z1,z2⟩ hm=>⟨fr z1 λb o hb e=>hm b o (nI hb) e,λb o e=>hm b o (nI (Hr (Bh e))) (z2 b o e)⟩) (λhi ⟨z1,z2⟩=>?_) items.size 0 _ rfl (Ea _) gI ⟨_,Ag _ hx1,rfl,c,rfl⟩ ⟨fr d0 λb o _ e=>Ag _ (hk1 b o e),up⟩ λh2 tk2 _ hd2=>⟨rfl,h h2 tk2 hd2.2 hd2.1⟩
 obtain⟨a,key,v,g1,⟨o,g2,g3⟩,go⟩:=st hi z1 z2;exact⟨a,key,v,g1,⟨o,z2 a o g2,g3⟩,λk=>go λh2 tk z hs=>k h2 tk ⟨z,λb o e=>(hs.2 b (Bo (Bh e))).trans (z2 b o e)⟩ hs⟩
theorem take_at{y:Type}{ps:List y}{i:Nat}{p:y}(h:ps[i]? = some p):ps.take (i+1)=ps.take i++[p]:=by rw[Bw,h];rfl
theorem ZU(ps:List (K×Ae)):∀kvs,(all kvs ps).length<=kvs.length+ps.length:=by
 induction ps with
 | nil=>exact λ_=>Ai _
 | cons p ps E=>exact λkvs=>Bf (E _) (by have:=ZS kvs p.1 p.2;rw[Bu];lia)
theorem call_pairs{l:Aj}{items:Array Ae}{c:Nat}{ps:List (K×Ae)}{Q:Ae->Ah->Prop}(hh:A.handled=none)(hx:s.heap.get? l=some {cls:=.type "list",data:=.seq items c})(hn:ps.length=items.size)(hz:items.size<=Ao)(hp:∀(j:Nat) (p:K×Ae),ps[j]? = some p->∃(a:Aj) (key:Ae),items[j]? = some (.ref a)/\s.heap.IsTuple a #[key,p.2]/\knd.is p.1 key=true)(h:∀h' tk,(∀b o,s.heap.get? b=some o->h'.get? b=some o)->h'.DictOf knd s.heap.objs.size (all [] ps)->Q (.ref s.heap.objs.size) {s with heap:=h',toks:=tk}):
  Bl (Cq prog w) A (call (.type "dict") [.ref l]) Q E s:=by
 refine callG (Dd:=λi h=>h.DictOf knd s.heap.objs.size (all [] (ps.take i))) hh hx (Heap.DictOf.new s.heap) (λ⟨o,es,ep,ho,rest⟩ hm=>⟨o,es,ep,hm _ o (Ai _) ho,rest⟩) (λ{i t} hi hd _=>?_) λh' tk e d=>h h' tk e (by rw[<-hn,Br]at d;exact d);obtain⟨p,hpi⟩:∃p,ps[i]? = some p:=⟨_,Bp (by lia)⟩;obtain⟨a,key,g1,g2,g3⟩:=hp i p hpi;have len:=ZU (ps.take i) [];rw[Ca,Lk]at len;refine⟨a,key,p.2,g1,g2,λk=>wpAny_dictSet_pairs g3 hd (λh2 d2 s2=>k h2 _ ?_ s2) (by lia)⟩;rw[take_at hpi,all,Iu];exact d2
end
end Dp
end PySem
namespace L2
section
variable {X:Cx}
def j1(kvs:List (aB×W))(ps:List (aB×W)):List (aB×W):=ps.foldl (λkvs p=>bZ kvs p.1 p.2) kvs
def nT(ps:List (aB×W)):List W:=ps.map λp=>.tup [wK p.1,p.2]
def yT:List W->Mm->K3->Prop
 | [.rl ws],M,R=>∃ps:List (aB×W),ws=nT ps/\ws.length<=Ao/\iZ (j1 [] ps) M R
 | _,_,_=>False
theorem yU{C:Pn}{m:L2.St}{H:Hp}{M:Mm}{s:Ah}(I:L2.Inv X C m H s):∀{ps:List (aB×W)} {vs:List V} {its:List Ae},aJ X.K H M vs (nT ps)->aX vs its->
  ∃(ks:List (aB×V)) (rs:List (aB×Ae)),bK X.K H M aB ks ps/\KV ks rs/\rs.length=its.length/\
   ∀(j:Nat) (p:aB×Ae),rs[j]? = some p->∃(a:Aj) (key:Ae),its[j]? = some (.ref a)/\s.heap.IsTuple a #[key,p.2]/\(bQ X.prog X.w).is p.1 key=true
 | [],_,_,.nil,.nil=>⟨[],[],.nil,.nil,rfl,λj p h=>by simp at h⟩
 | (k,w)::ps,_,_,.cons av y,.cons T l=>by
  obtain⟨ks,rs,O,Z,f,h4⟩:=yU I y l;obtain⟨a,xs,u,e,q⟩:=av.inv;rw[u]at T;obtain⟨Y,g,ex,Q,U⟩:=q.two;obtain⟨c,R,pl,_⟩:=I.tuple (bW.of e);rw[ex,Q.key]at R;obtain⟨d,n,i,x1,x2⟩:=vals2 R;rw[i]at pl;refine⟨(k,g)::ks,(k,n)::rs,.cons ⟨rfl,U⟩ O,.cons ⟨rfl,x2⟩ Z,congrArg (· + 1) f,λj p D=>?_⟩;cases j with
  | zero=>rw[<-Ci D];exact⟨a,d,congrArg some T,pl,jF x1⟩
  | succ j=>exact h4 j p D
theorem yV{H:Hp}{M:Mm}:∀{ps:List (aB×W)} {ks:List (aB×V)} {rs:List (aB×Ae)} {kvs:List (aB×W)} {d:List (aB×V)} {us:List (aB×Ae)},bK X.K H M aB ks ps->KV ks rs->bK X.K H M aB d kvs->KV d us->
  ∃c:List (aB×V),bK X.K H M aB c (j1 kvs ps)/\KV c (Dp.all us rs)/\c.length<=d.length+ps.length
 | [],_,_,_,d,_,.nil,.nil,O,Z=>⟨d,O,Z,Ai _⟩
 | p::ps,_,_,_,d,_,.cons (a:=a) x r,.cons (b:=b) y t,O,Z=>by
  obtain⟨k,w⟩:=p;obtain⟨k1,v⟩:=a;obtain⟨k2,u⟩:=b;obtain⟨x1,x2⟩:=x;obtain⟨I,n⟩:=y;cases x1;cases I;obtain⟨c,A,Y,C⟩:=yV (kvs:=bZ _ k w) r t (qP O k x2) (Z.put k n);have:=oO d k v;exact⟨c,A,Y,by simp at C⊢;lia⟩
theorem ZV(hc:X.calm=true):cM X (.type "dict") (eV X.K yT):=by
 rintro C s m H xs us Q I rs ⟨ws,M,R,U,S,h,k⟩
 match ws,h with
 | [.rl ws],h=>
  obtain⟨v,rfl,av⟩:=S.one;obtain⟨ps,rfl,hz,r⟩:=h;obtain⟨u,rfl,ru⟩:=vals1 rs;cases av with
  | rl f n q=>
   cases ru;obtain⟨z,its,c,T,hl,e⟩:=I.lstM f;obtain⟨ks,a,O,Z,L,h4⟩:=yU I q T;obtain⟨d,A,Y,G⟩:=yV O Z .nil .nil;refine Dp.call_pairs (knd:=bQ X.prog X.w) (items:=its.toArray) (ps:=a) (I.ok.hd hc) e (by simpa using L) (by rw[Bj];lia) (λj p D=>by simpa using h4 j p D) λh' tk hk hd=>?_;have b:ps.length<=Ao:=by simpa [nT] using hz
   have l:=I.hok.fresh (Ai _);refine⟨.ref s.heap.objs.size,aN H s.heap.objs.size (.dK d),I.laid (o:=.dK d) (t':=tk) hk (Ai _) ⟨by simp at G;lia,beq_eq_false_iff_ne.mpr (Bq (Bo I.big)),_,Y,hd⟩,rfl,?_⟩;obtain⟨E,k2⟩:=U.laid (o:=.dK (j1 [] ps)) (u:=.dK d) l ⟨d,b8,pkv_new l A⟩;exact k _ _ _ _ k2 E (.ref _) (r _ (U.nonM l))
where
 pkv_new:∀{H:Hp} {M:Mm} {p:Aj} {ks d:List (aB×V)} {kvs g:List (aB×W)},H p=none->bK X.K H M aB ks kvs->bK X.K (aN H p (.dK d)) (put M p (.dK g)) aB ks kvs:=λB h=>nH h.keys (h.vals.newL B)
def G3:List W->Mm->K3->Prop
 | [.rl ws],M,R=>∃ps:List (aB×W),ws=nT ps/\ws.length<=Ao/\R (.dk (j1 [] ps)) M
 | _,_,_=>False
theorem ZW(hc:X.calm=true):cM X (.type "dict") (eV X.K G3):=by
 rintro C s m H xs us Q I rs ⟨ws,M,R,U,S,h,k⟩
 match ws,h with
 | [.rl ws],h=>
  obtain⟨v,rfl,av⟩:=S.one;obtain⟨ps,rfl,hz,r⟩:=h;obtain⟨u,rfl,ru⟩:=vals1 rs;cases av with
  | rl f n q=>
   cases ru;obtain⟨z,its,c,T,hl,e⟩:=I.lstM f;obtain⟨ks,a,O,Z,L,h4⟩:=yU I q T;obtain⟨d,A,Y,V⟩:=yV O Z .nil .nil;refine Dp.call_pairs (knd:=bQ X.prog X.w) (items:=its.toArray) (ps:=a) (I.ok.hd hc) e (by simpa using L) (by rw[Bj];lia) (λj p D=>by simpa using h4 j p D) λh' tk hk hd=>?_;have b:ps.length<=Ao:=by simpa [nT] using hz
   have l:=I.hok.fresh (Ai _);refine⟨.ref s.heap.objs.size,aN H s.heap.objs.size (.dK d),I.laid (o:=.dK d) (t':=tk) hk (Ai _) ⟨by simp at V;lia,beq_eq_false_iff_ne.mpr (Bq (Bo I.big)),_,Y,hd⟩,rfl,?_⟩;obtain⟨E,k2⟩:=U.tup (u:=.dK d) l;exact k _ _ _ _ k2 E (.dk b8 (U.nonM l) A.keys (A.vals.newT l)) r
end
def qU(B:Cr)(l:List Env)(H:Hp)(h:Cr):Prop:=∀b o,h.get? b=some o->b∉dX l->∃L,B.get? b=some L/\(H b=none->L=o)
def dZ(P:Ar)(w:Bk):jE:=λouter H s E e W=>W.os=s.os/\My W.gens/\∃(Q:Aj) (cls O:Ae) (B:Cr) (j:Hp),
 e=.ref Q/\Si B outer Q cls O W.heap/\cG P w j B/\Un (dX outer) [] H j s.heap W.heap/\qU B outer H s.heap/\E cls none j
theorem yW{B h O Z:Cr}{l:List Env}{H j:Hp}(u:Un (dX l) [] H j h O)(i:qU B l H h)(fr:O.FunFrames B l)(st:B.StaysIn Z)(us:O.UpToSlots Z):Un (dX l) [] H j h Z where
 keep:=λb o e n Y _=>by
  obtain⟨L,T,G⟩:=i b o e Y;rw[<-G n];exact st b L T
 slot:=λb o e n Y _=>by
  obtain⟨sl,T⟩:=u.slot b o e n Y (by simp);obtain⟨_,c,G,g⟩:=fr.mem Y;rw[T]at G;cases G;obtain⟨y,t⟩:=us b _ T g;exact⟨y,t⟩
 free:=u.free
 there:=λb o e _=>by
  by_cases Y:b∈dX l
  .obtain⟨_,c,G,g⟩:=fr.mem Y;obtain⟨y,t⟩:=us b c G g;exact⟨_,t⟩
  .obtain⟨L,T,_⟩:=i b o e Y;exact⟨L,st b L T⟩
 tups:=u.tups
 frzs:=u.frzs
 tbls:=u.tbls
section
variable {P:Ar}{w:Bk}{K:Ac}{mg:Aw->Option Ae}{base:Cr}{N:List Aw}{qual:Aw}{scope:Jp}{f:Aj}{cd:Ae}{A:Cn}{outer:List Env}{s:Ah}{H:Hp}{E:XK}
 {pins:Pn} {Z:St} {H1:Hp} {s1:Ah}
theorem ZX(I:Inv (cZ (dZ P w) P w K mg base N qual scope f cd A outer s H E) pins Z H1 s1):cG P w H1 (Nh s1.heap (dX (cZ (dZ P w) P w K mg base N qual scope f cd A outer s H E).stack)):=λa o e=>by
 refine(I.hok a o e).stay (λb u Y q=>Oi _ q λJ=>?_) (λ_ q=>q) λ_ _ q=>q;have n:=I.stkFree b J;rcases Y with z|z
 .rw[z,e]at n;cases n
 .rw[z]at n;cases n
theorem G4(I:Inv (cZ (dZ P w) P w K mg base N qual scope f cd A outer s H E) pins Z H1 s1){b:Aj}{o:Lc}(e:s.heap.get? b=some o)(Y:b∉dX outer):b∉dX (cZ (dZ P w) P w K mg base N qual scope f cd A outer s H E).stack:=λJ=>by
 rcases Bd.mp (I.stkSub b J) with z|z
 .have O:s.heap.objs.size<=(cZ (dZ P w) P w K mg base N qual scope f cd A outer s H E).env.locals:=I.ok.above;rw[<-z]at O;exact absurd (Bx (Bh e) O) (Im _)
 .exact Y z
theorem ZY(I:Inv (cZ (dZ P w) P w K mg base N qual scope f cd A outer s H E) pins Z H1 s1):qU (Nh s1.heap (dX (cZ (dZ P w) P w K mg base N qual scope f cd A outer s H E).stack)) outer H s.heap:=λb o e Y=>by
 obtain⟨L,T⟩:=I.base.there b o e (by simp[cZ]);refine⟨L,Oi _ T (G4 I e Y),λn=>?_⟩;have G:=I.base.keep b o e n Y (by simp[cZ]);rw[T]at G;exact Ci G
theorem ZZ{Q C:Aj}{args:List Ae}{h':Cr}(I:Inv (cZ (dZ P w) P w K mg base N qual scope f cd A outer s H E) pins Z H1 M)(S:Heap.MadeExcOf M.heap h' Q (.ref C) args)(d:E (.ref C) none H1):(cZ (dZ P w) P w K mg base N qual scope f cd A outer s H E).xe (.ref Q) {M with heap:=h'}:=by
 have X:∀env∈(cZ (dZ P w) P w K mg base N qual scope f cd A outer s H E).stack,∀a,env.frame=some a->a∈dX (cZ (dZ P w) P w K mg base N qual scope f cd A outer s H E).stack:=λenv L a l=>Ka.mpr ⟨env,L,l⟩;have hl:=PySem.W.funFrames_hide I.stack X;refine wpAny_leaves_madeW (base:=Nh M.heap (dX (cZ (dZ P w) P w K mg base N qual scope f cd A outer s H E).stack)) (h:=M.heap) I.ok.frames rfl (λb o q=>PySem.W.of_hideAll _ q) hl S λY t fl _ _ us=>?_;have i:=ZY I;exact⟨I.os,I.bare,Q,.ref C,.ref t,_,H1,rfl,fl,ZX I,yW I.base i hl.2.2 fl.1 ((Heap.UpToSlots.of_keeps S.keeps).trans us),i,d⟩
theorem Z0{E1:XK}(U:∀c d j,E1 c d j->E c d j):kF (dZ P w) (cZ (dZ P w) P w K mg base N qual scope f cd A outer s H E) E1:=λC m G M e W I h=>by
 obtain⟨os,bare,Q,cls,x,B,j,rfl,fl,hok,un,cov,L⟩:=h;have p:=I.call' os un (hok.kept fl.1) bare (λb z=>absurd z (by simp));have i:qU B outer H s.heap:=λb o e Y=>by
  obtain⟨X,T⟩:=I.base.there b o e (by simp[cZ]);obtain⟨O,J,t⟩:=cov b X T (G4 I e Y);refine⟨O,J,λn=>?_⟩;have g:=I.base.keep b o e n Y (by simp[cZ]);rw[T]at g;cases g;exact t (I.base.free b o e n (by simp[cZ]))
 refine wpAny_leaves_onW I.ok.frames rfl fl λZ a us=>?_;exact⟨p.os,p.bare,Q,cls,x,B,j,rfl,a,hok,yW p.base i fl.2.2.1.2.2 a.1 us,i,U _ _ _ L⟩
theorem G5:Py (Cq P w) (cZ (dZ P w) P w K mg base N qual scope f cd A outer s H E).A (cZ (dZ P w) P w K mg base N qual scope f cd A outer s H E).env (cZ (dZ P w) P w K mg base N qual scope f cd A outer s H E).xe:=PassesOwn.leaving
end
structure uJ(K:Ac)(mg:Aw->Option Ae)(x:Aw)(C:Aj):Prop where
 at_:mg x=some (.ref C)
 ex:Rb K C [.type "ValueError",.type "Exception",.type "BaseException",.type "object"] "ValueError.__new__" = true
theorem Z1{K:Ac}{h:Cr}{C:Aj}{bl:List Ae}{e:String}(Z:K.In h)(q:Rb K C bl e=true):
  ∃bm N nm m bs hd sn sub ab col dd k0 k1 k2 k3 k5 mN,h.get? C=some (excClassObj nm m C N bs bm hd sn sub ab col dd k0 k1 k2 k3 k5 e)/\h.Ns N mN/\mN "__init__" = none/\OwnTail h bl bm:=by
 unfold Rb at q;split at q
 case h_2=>cases q
 rename_i dd cd sl X;split at q
 case h_2=>cases q
 rename_i i bm O Q U D f n t es;simp only[Cy,beq_iff_eq,Bool.not_eq_true']at q;rcases q with⟨⟨⟨⟨⟨V,R⟩,z3⟩,d⟩,b⟩,a⟩
 subst V R;rcases cd with⟨nm,bs,g,ns,m,hd,sn,sub,ab,col,c⟩
 simp only at t z3 b a;subst t z3;obtain rfl:sl = #[O,Q,U,D,some (.builtin f),n]:=by
  rcases sl with⟨l⟩
  simp only at es;rw[es]
 exact⟨bm,ns,nm,m,bs,hd,sn,sub,ab,col,dd,O,Q,U,D,n,_,Z _ _ X,.of_isNs (PySem.W.isNs_of_in Z b),PySem.W.nsMap_none_of_in Z b a,PySem.W.tail_of_in Z d⟩
def NM(w:W):Prop:=∀n,w≠.ty n
def qV(K:Ac)(H:Hp)(M:Mm)(R:K3)(Q:VK):Prop:=∀v H' w V,NM w->Kp H M H' V->AM K H' V->AV K H' V v w->R w V->Q v H'
structure uK(K:Ac)(H:Hp)(M:Mm)(D:D3)(E:gT):Prop where
 nx:fS K H M D.nx E.nx
 rt:qV K H M D.rt E.rt
 bk:fS K H M D.bk E.bk
 ct:fS K H M D.ct E.ct
theorem qV.kp{K:Ac}{H G:Hp}{M I:Mm}{R:K3}{Q:VK}(h:qV K H M R Q)(k:Kp H M G I):qV K G I R Q:=λv H' w V n o U av r=>h v H' w V n (k.trans o) U av r
theorem uK.kp{K:Ac}{H G:Hp}{M I:Mm}{D:D3}{E:gT}(h:uK K H M D E)(k:Kp H M G I):uK K G I D E:=⟨h.nx.kp k,h.rt.kp k,h.bk.kp k,h.ct.kp k⟩
def G6(K:Ac)(H0:Hp)(M0:Mm)(r0:K3)(t:aD):TS:=λE Z H=>∃L M D,AS K H M Z L/\AM K H M/\Kp H0 M0 H M/\D.rt=r0/\t D L M/\uK K H M D E
abbrev X3(X:Cx)(H0:Hp)(M0:Mm)(r0:K3)(st:Gn)(t:aD):Prop:=PS X st (G6 X.K H0 M0 r0 t)
abbrev mG(X:Cx)(H0:Hp)(M0:Mm)(r0:K3)(st:List Gn)(t:aD):Prop:=eR X st (G6 X.K H0 M0 r0 t)
section
variable {X:Cx}{H0:Hp}{M0:Mm}{r0:K3}{pos:Gy}{st:Gn}{rest:List Gn}{t u:aD}{e:Cb}{te:aR}
theorem G7:mG X H0 M0 r0 [] dA:=B8.weak λD Z H ⟨L,M,n,A,U,k0,F,h,k⟩=>k.nx.at U A h
theorem nU(O:X3 X H0 M0 r0 st t)(Y:mG X H0 M0 r0 rest u):mG X H0 M0 r0 (st::rest) (aF t u):=(B9 O Y).weak λD Z H ⟨L,M,n,A,U,k0,F,h,k⟩=>
 ⟨L,M,{n with nx:=u n},A,U,k0,F,h,⟨λl H' T V o d b h'=>⟨T,V,n,b,d,k0.trans o,F,h',k.kp o⟩,k.rt,k.bk,k.ct⟩⟩
theorem pE(O:X3 X H0 M0 r0 st t):mG X H0 M0 r0 [st] t:=CA O
theorem G8(hc:T3 X c tc)(l:mG X H0 M0 r0 a t)(Y:mG X H0 M0 r0 b u):X3 X H0 M0 r0 (.If c a b pos) (cI tc t u):=(CF hc l Y).weak λD Z H ⟨L,M,n,A,U,k0,F,h,k⟩=>
 ⟨L,M,_,A,U,h,λb G I k1 P O=>by
  cases b with
  | true=>exact⟨L,I,n,A.kp U k1,P,k0.trans k1,F,O,k.kp k1⟩
  | false=>exact⟨L,I,n,A.kp U k1,P,k0.trans k1,F,O,k.kp k1⟩⟩
theorem qW(h:P3 X st t)(a:∀D r L M,t D L M->t {D with rt:=r} L M):X3 X H0 M0 r0 st t:=h.weak λE Z H ⟨L,M,D,A,U,k0,F,q,k⟩=>
 ⟨L,M,{D with rt:=λ_ _=>False},A,U,a _ _ _ _ q,⟨k.nx,λ_ _ _ _ _ _ _ z=>z.elim,k.bk,k.ct⟩⟩
abbrev yX(te:aR):aD:=λD L M=>te L M λw V=>NM w/\D.rt w V
theorem G9(P:E3 X e te):X3 X H0 M0 r0 (.Return (some e) pos) (yX te):=(CC P).weak λD Z H ⟨L,M,q,A,U,k0,F,h,k⟩=>⟨L,M,_,A,U,h,λv H' w V o d av ⟨n,r⟩=>k.rt _ _ _ _ n o d av r⟩
theorem HA{tg t:Cb}{O:List Gn}{wi:gB}{g:eJ}{tb:aD}{pos:Gy}(B:Py X.m X.A X.env X.xe)(hc:X.calm=true)(hi:PI X tg t (fL X.K wi))(K:PG X tg (g9 X.K g))(Y:mG X H0 M0 r0 O tb)(hs:∀x,Gx t X.env x=pure x:=by intro _;rfl):X3 X H0 M0 r0 (.For tg t O [] pos) (cL wi g tb):=
 (CH B hc hi K Y hs).weak λD Z H ⟨L,M,n,C,U,k0,F,h,k⟩=>by
  refine⟨L,M,_,C,U,h,λJ G ws keep I k1 P it hw=>?_⟩;unfold mF at hw;obtain⟨r,h0,hk,hs,hd⟩:=hw;refine⟨λi m l H'=>m=ws.length-i/\i<=ws.length/\∃T V,Kp G I H' V/\AM X.K H' V/\AS X.K H' V l T/\r i T V,⟨_,rfl,Ea _,L,I,Kp.refl P,P,C.kp U k1,h0⟩,?_⟩;rintro i m s z ⟨rfl,hi,f,v,k2,E,as2,Q⟩
  by_cases a:i<ws.length
  .refine .inr ⟨it.go i z v k2 E (hk i f v hi Q) a,λl H'=>∃T V,Kp G I H' V/\AM X.K H' V/\AS X.K H' V l T/\r (i+1) T V,λl H' q=>⟨ws.length-(i+1),by lia,rfl,a,q⟩,λx R y=>?_⟩;obtain⟨w,hw,k3,j,N⟩:=it.yld i z v x R k2 E (hk i f v hi Q) a y;refine⟨w,f,v,_,N,as2.kp E k3,j,hs i w f v hw Q,λσ4 H4 τ4 M4 k4 am4 as4 h4=>?_⟩;have c:=((k2.trans k3).trans k4);have S:fS X.K H4 M4 (λT V=>∃u,Sub u V/\r (i+1) T u) (λl H'=>∃T V,Kp G I H' V/\AM X.K H' V/\AS X.K H' V l T/\r (i+1) T V):=
    λl H' T V o d b ⟨u,p,W⟩=>⟨T,u,(c.trans o).sub p,d.sub p,b.sub p,W⟩
   exact⟨τ4,M4,{n with nx:=λT V=>∃u,Sub u V/\r (i+1) T u,ct:=λT V=>∃u,Sub u V/\r (i+1) T u,bk:=n.nx},as4,am4,k0.trans (k1.trans c),F,h4,⟨S,k.rt.kp (k1.trans c),k.nx.kp (k1.trans c),S⟩⟩
  .have e:i=ws.length:=by lia
   subst e;exact .inl ⟨it.stop z v k2 E (hk _ f v hi Q),k.nx _ _ _ _ (k1.trans k2) E as2 (hd f v Q)⟩
end
def mH(K:Ac)(cl:String->Option Aj)(sp:a8):Sp:=λvs H Q E=>∃ws M R,AM K H M/\aJ K H M vs ws/\sp ws M R/\qV K H M R Q/\∀n C H' V,cl n=some C->Kp H M H' V->AM K H' V->R (.ty n) V->E (.ref C) none H'
section
variable {P:Ar}{w:Bk}{K:Ac}{mg:Aw->Option Ae}{base:Cr}
theorem e8.calm{k:Nat}{cl:String->Option Aj}(F:e8 P w K mg base (dZ P w) k f fd ps (mH K cl sp)):
  e8 P w K mg base eS k f fd ps (eW K λws M R=>sp ws M λw M'=>NM w/\R w M'):=by
 have cv:∀vs H Q,eW K (λws M R=>sp ws M λw M'=>NM w/\R w M') vs H Q E0->mH K cl sp vs H Q E0:=λvs H Q ⟨ws,M,R,am,av,h,k⟩=>
  ⟨ws,M,_,am,av,h,λv H' w M' n k' am' av' r=>k v H' w M' k' am' av' r.2,λn C H' M' _ _ _ r=>absurd rfl (r.1 n)⟩
 refine⟨λvs H Q E h=>F.len vs H Q E0 (cv vs H Q h),λA outer s H args us vs Q E hr he hb hv hs=>?_⟩;refine La (F.run A outer s H args us vs Q E0 hr he hb hv (cv vs H Q hs)) λr s' h=>?_;cases r with
 | error e=>obtain⟨_,_,_,_,_,_,_,_,_,_,_,_,z⟩:=h;exact z.elim
 | ok fl=>cases fl<;>exact h
theorem HB{x qual:Aw}{st:Gn}{f:Aj}{fd:Dz}{N ps:List Aw}{k:Nat}{sp:a8}{cl:String->Option Aj}(F:iV K x qual st f fd)(S:lK N ps (dN st))(len:∀ws M R,sp ws M R->ws.length=ps.length)(p:∀(a:Ae) (A:Cn) (outer:List Env) (s:Ah) (H:Hp) (E:XK) (ws:List W) (M:Mm) (R:K3),cC k (A.deeper (Lp qual (dN st) s.heap.objs.size f a))->sp ws M R->
   (∀n C H' V,cl n=some C->Kp H M H' V->AM K H' V->(bA R).rt (.ty n) V->E (.ref C) none H')->
   ∃t,mG (cZ (dZ P w) P w K mg base N qual (dN st) f a A outer s H E) H M (bA R).rt (fX st) t/\t (bA R) (bF N ws) M):e8 P w K mg base (dZ P w) (k+1) f fd ps (mH K cl sp):=by
 obtain⟨L,B,kV,i,O,I,a,ct,e,rfl,X,y⟩:=F.ex;refine C7 X y S (λvs H Q E ⟨ws,M,R,U,av,h,_⟩=>by rw[av.length];exact len ws M R h) λA outer s H vs Q E g ⟨ws,M,R,U,av,h,j,D⟩=>?_;obtain⟨t,ht,h'⟩:=p a A outer s H E ws M R g h λn C H' V c o d ⟨u,sb,r⟩=>D n C H' u c (o.sub sb) (d.sub sb) r;refine⟨_,ht,bF N ws,M,bA R,?_,U,Kp.refl U,rfl,h',⟨λl H' T V o d b ⟨u,sb,r⟩=>j _ H' _ u (λn z=>W.noConfusion z) (o.sub sb) (d.sub sb) .non r,λv H' w V n o d G ⟨u,sb,r⟩=>j v H' w u n (o.sub sb) (d.sub sb) (G.sub sb) r,λ_ _ _ _ _ _ _ z=>z.elim,λ_ _ _ _ _ _ _ z=>z.elim⟩⟩;unfold L2.start bF;rw[av.length];exact AS.start av _
end
section
variable {P:Ar}{w:Bk}{K:Ac}{mg:Aw->Option Ae}{base:Cr}{N:List Aw}{qual:Aw}{scope:Jp}{f:Aj}{cd:Ae}{A:Cn}{outer:List Env}{s:Ah}{H:Hp}{E:XK}
 {H0:Hp} {M0:Mm} {r0:K3} {cl:String->Option Aj}
abbrev HC(n:String)(te:aR):aD:=λD L M=>te L M λ_ V=>D.rt (.ty n) V
theorem Z2(S:∀n C H' V,cl n=some C->Kp H0 M0 H' V->AM K H' V->r0 (.ty n) V->E (.ref C) none H')(hh:X.A.handled=none)(c:uJ K mg x C)(hc:cl n=some C)(F:Gl X x)(g:E3 X e te)(hd:Db x:=by decide)(hs:Cj [e] X.env=(false,El e X.env)::Cj [] X.env:=by rfl)(b:X=cZ (dZ P w) P w K mg base N qual scope f cd A outer s H E:=by rfl):X3 X H0 M0 r0 (.Raise (some (.Call (.Name x t) [e] [] cpos)) none pos) (HC n te):=by
 subst b;intro pins W Z G D I ⟨L,M,y,d,U,k0,Q,h,k⟩;obtain⟨bm,NN,nm,m,bs,j,sn,sub,ab,col,dd,B,k1,k2,k3,k5,mN,l,o,Y,T⟩:=Z1 I.ok.mod.kin c.ex;refine wpAny_Raise_call_subT (C:=C) (nm:=nm) (q:=m) (N:=NN) (bs:=bs) (bm:=bm) (hdct:=j) (sn:=sn) (sub:=sub) (ab:=ab) (col:=col) (dd:=dd) (k0:=B) (k1:=k1) (k2:=k2) (k3:=k3) (k5:=k5) PySem.F.excBase_ValueError (mN:=mN)
  (T.hasType PySem.F.excBase_ValueError.hasBase) hh (by rw[hs];rfl) Y (iS I F c.at_ ⟨rfl,?_⟩ hd)
 rw[hs];refine Om (Jx (aY (g pins W Z G (λ_ O=>E (.ref C) none O) I ⟨L,M,_,d,U,h,λv O w a k2' z _ r=>?_⟩) λu i ⟨v,O,R,_,p⟩=>?_))
 .rw[Q]at r;exact S n C O a hc (k0.trans k2') z r
 .exact spliced_none ⟨rfl,by show 1<=Ao;decide,R.bk _ _ l,o.keeps R.bk,T.keeps R.bk,λh' ea J=>ZZ R J p⟩
abbrev HD(sp:a8)(t:cN):aD:=λD L M=>t L M λws I=>sp ws I λw v=>(NM w/\D.nx L v)\/((∃n,w=.ty n)/\D.rt w v)
theorem Z3{k:Nat}(S:∀n C H' V,cl n=some C->Kp H0 M0 H' V->AM K H' V->r0 (.ty n) V->E (.ref C) none H')(F:e8 P w K mg base (dZ P w) k g fd ps (mH K cl sp))(T:cC k X.A)(y:Gl X x)(J:mg x=some (.ref g))(hk:Em K (.ref g)=true)(Y:Binds K fd ps [])(l:A3 X (e::es) t)(R:Db x:=by decide)(i:Se X e es:=by rfl)(u:Sb X cpos es:=by rfl)(hs:Ig (.Call (.Name x p) (e::es) [] cpos) none pos.line X.env=pure false:=by rfl)(I:X=cZ (dZ P w) P w K mg base N qual scope f cd A outer s H E:=by rfl):
  X3 X H0 M0 r0 (.Expr (.Call (.Name x p) (e::es) [] cpos) pos) (HD sp t):=by
 subst I;exact(wB (CY (E:=E) F T y J hk Y .nil (Z0 λ_ _ _ z=>z) l R i u) hs).weak λD σ G ⟨L,M,q,d,U,k0,Q,h,W⟩=>
  ⟨L,M,_,d,U,h,λxs O ws a k2 b j Z=>⟨ws,a,_,b,by rw[Dc];exact j,Z,λv H' w V n o B av r=>by
   rcases r with⟨_,r⟩|⟨⟨m,rfl⟩,_⟩
   .exact W.nx _ _ _ _ (k2.trans o) B ((d.kp U k2).kp b o) r
   .exact absurd rfl (n m),λn C H' V c o B r=>by
   rcases r with⟨z,_⟩|⟨_,r⟩
   .exact absurd rfl (z n)
   .rw[Q]at r;exact S n C H' V c ((k0.trans k2).trans o) B r⟩⟩
end
structure dP(P:Ar)(w:Bk)(l:List Env)(H:Hp)(s:Ah)(ea:Aj)(cls:Ae)(H':Hp)(B:Cr)(s':Ah):Prop where
 os:s'.os=s.os
 bare:My s'.gens
 fl:∃a0,Si B l ea cls a0 s'.heap
 hok:cG P w H' B
 un:Un (dX l) [] H H' s.heap s'.heap
 cov:qU B l H s.heap
section
variable {P:Ar}{w:Bk}{l:List Env}{H H':Hp}{s s':Ah}{ea:Aj}{cls:Ae}{B:Cr}{M:Rq}{A:Cn}{E E':Ae->Ah->Prop}
theorem dP.re(a:dP P w l H s ea cls H' B s'){tk:Nat}(fl:Si B l ea cls Q Z)(us:s'.heap.UpToSlots Z):dP P w l H s ea cls H' B {s' with heap:=Z,toks:=tk}:=by
 obtain⟨O,R⟩:=a.fl;exact⟨a.os,a.bare,⟨Q,fl⟩,a.hok,yW a.un a.cov R.2.2.1 fl.1 us,a.cov⟩
theorem dP.kept(a:dP P w l H s ea cls H' B s'){tk:Nat}(k:∀b o,s'.heap.get? b=some o->Z.get? b=some o):dP P w l H s ea cls H' B {s' with heap:=Z,toks:=tk}:=by
 obtain⟨O,R⟩:=a.fl;exact a.re (PySem.W.flying_keeps R k) (Heap.UpToSlots.of_keeps k)
theorem dP.look{G:Ah->Prop}(a:dP P w (env::outer) H s ea cls H' B s')(l:A.frames=some (env::outer))(hf:env.frame=some L)(h:∀g,dP P w (env::outer) H s ea cls H' B g->G g):
  Bl M A (noteFrame (.ref ea) env) (λ_ g=>Bl M A (setFlight (.ref ea) none) (λ_ j=>G j) E g) E' s':=by
 obtain⟨O,R⟩:=a.fl;refine wpAny_looks_onW l hf R λZ J us=>?_;refine wpAny_landsW J λf fl K=>?_;exact h _ (a.re (tk:=s'.toks) fl (us.trans K))
theorem dP.land{G:Ah->Prop}(a:dP P w l H s ea cls H' B s')(h:∀g,dP P w l H s ea cls H' B g->G g):Bl M A (setFlight (.ref ea) none) (λ_ j=>G j) E s':=by
 obtain⟨O,R⟩:=a.fl;exact PyProof.Rows.lands_againW R λf fl us=>h _ (a.re (tk:=s'.toks) fl us)
theorem dP.ty(a:dP P w l H s ea cls H' B s'):Ib M s'.heap (Ox (.ref ea)) cls:=by
 obtain⟨O,R⟩:=a.fl;obtain⟨ob,e,rfl⟩:=R.there;exact(Oj e).andThen .now
theorem dP.obj(a:dP P w l H s ea cls H' B s'):∃o vs,s'.heap.get? ea=some o/\o.cls=cls/\o.data=.fields vs:=by
 obtain⟨O,R⟩:=a.fl;obtain⟨oe,vs,e,c,d,_⟩:=R.first
 exact⟨oe,vs,e,c,d⟩
theorem dP.new(a:dP P w l H s ea cls H' B s'):s.heap.get? ea=none:=by
 obtain⟨O,R⟩:=a.fl;cases q:s.heap.get? ea with
 | none=>rfl
 | some o=>
  by_cases Y:ea∈dX l
  .obtain⟨_,c,T,g⟩:=R.2.2.1.mem Y;obtain⟨k,vs,G,_,d⟩:=a.obj;rw[T]at G;cases G;exact absurd d (g vs)
  .obtain⟨L,M,_⟩:=a.cov ea o q Y;rw[R.2.1]at M;cases M
theorem dP.free(a:dP P w l H s ea cls H' B s'):H' ea=none:=by
 obtain⟨a0,f0⟩:=a.fl;cases q:H' ea with
 | none=>rfl
 | some u=>
  have x:=a.hok ea u q;have:∃o,B.get? ea=some o:=by
   cases u with
   | lst xs=>obtain⟨_,_,_,_,e⟩:=x;exact⟨_,e⟩
   | tup xs=>obtain⟨_,_,_,o,e,_⟩:=x;exact⟨_,e⟩
   | dK kvs=>obtain⟨_,_,_,_,o,_,_,e,_⟩:=x;exact⟨_,e⟩
   | dT kvs=>obtain⟨_,_,_,_,o,_,_,e,_⟩:=x;exact⟨_,e⟩
   | set S n=>obtain⟨o,_,_,_,e,_⟩:=x;exact⟨_,e⟩
   | ins C dx fs=>obtain⟨_,_,_,e,_⟩:=x;exact⟨_,e⟩
   | own y=>exact x
   | xd fs=>obtain⟨_,⟨_,_,_,e,_⟩,_⟩:=x;exact⟨_,e⟩
   | rng lo hi=>obtain⟨_,_,_,e⟩:=x;exact⟨_,e⟩
   | frz ob u=>exact⟨_,x.1⟩
   | tbl ps=>exact⟨_,x⟩
   | met f y=>exact⟨_,x⟩
   | ext φ=>exact x.2.1
  obtain⟨o,e⟩:=this;rw[f0.2.1]at e;cases e
end
section
variable {X:Cx}{pins:Pn}{Z:St}{H H':Hp}{s s':Ah}{ea:Aj}{cls:Ae}{B:Cr}{A:Cn}{E:Ae->Ah->Prop}
theorem dP.inv(a:dP X.prog X.w X.stack H s ea cls H' B s')(I:Inv X pins Z H s):Inv X pins Z H' s':=by
 obtain⟨O,R⟩:=a.fl;exact I.call' a.os a.un (a.hok.kept R.1) a.bare (λb z=>absurd z (by simp))
abbrev Cx.inX(X:Cx)(ea:Aj)(oe:Lc):Cx:={X with A:=X.A.mark (some (.ref ea)),calm:=false,pn:=(ea,oe)::X.pn,xe:=λ_ _=>False}
theorem Inv.inX(I:Inv X pins Z H s)(e:s.heap.get? ea=some oe)(hd:oe.data=.fields vs)(n:H ea=none)(hs:X.s₀.heap.get? ea=none):Inv (X.inX ea oe) pins Z H s:=by
 refine⟨⟨I.ok.mod,I.ok.kind,I.ok.glob,I.ok.blt,I.ok.above,I.ok.inj,I.ok.has,I.ok.cab,(λz=>nomatch z),I.ok.frames,I.ok.stk,I.ok.exf,I.ok.bs,I.ok.bsz,I.ok.noex,I.ok.exfs,I.ok.funs,I.ok.frf⟩,I.os,I.bare,I.base,I.loc,I.cell,I.free,I.freeC,λp B=>?_,I.hok,I.len⟩;rcases Bd.mp (show p∈(ea,oe)::(X.pn++pins) from B) with z|z
 .subst z;refine⟨e,n,λq=>?_,λq=>?_,λv q=>by rw[hd]at q;cases q⟩
  .obtain⟨m,⟨L,es,ep,d,g,_⟩,_⟩:=I.loc;rw[<-q,e]at d;cases d;rw[g]at hd;cases hd
  .obtain⟨_,o,D,_⟩:=I.ok.funs.mem q;rw[hs]at D;cases D
 .exact I.pin p z
theorem Inv.outX(I:Inv (X.inX ea oe) pins Z H s)(c:X.Ok):Inv X pins Z H s:=
 ⟨c,I.os,I.bare,I.base,I.loc,I.cell,I.free,I.freeC,λp B=>I.pin p (Bb _ B),I.hok,I.len⟩
theorem Z4{i:Nat}{Q:Unit->Ah->Prop}(I:Inv X pins Z H s)(W:X.N.Nodup)(hi:X.N[i]? = some n)(hl:X.env.scope.names.lookup n=some .local)(h:∀s',Inv X pins (Z.set i none) H s'->Q () s'):
  Bl M A (do bindName X.env n .none;unbindBehindTheSuite X.env n pos) Q E s:=by
 obtain⟨m,U,w⟩:=id I.loc;obtain⟨F,_,_,r,_⟩:=id U;refine wpAny_nameGoes_keeps hl U (by rw[I.ok.kind];rfl) λh' v l hs=>h _ ?_;have a:∀{b:Aj} {o:Lc},X.s₀.heap.get? b=some o->b≠X.env.locals:=λ{b o} e=>Bo (Bx (Bh e) I.ok.above);have f:∀x c,X.env.cells.lookup x=some c->∀u,s.heap.IsCell c u->h'.IsCell c u:=λx c e u z=>z.sameBut hs (I.cne x c e);refine⟨I.ok,I.os,I.bare,⟨?_,?_,I.base.free,?_,I.base.tups,I.base.frzs,I.base.tbls⟩,⟨_,l,?_⟩,?_,I.free,I.freeC,?_,?_,by simpa using I.len⟩
 .intro b o e n1 Y S;exact(hs.2 b (a e)).trans (I.base.keep b o e n1 Y S)
 .intro b o e n1 Y S;obtain⟨sl,T⟩:=I.base.slot b o e n1 Y S;exact⟨sl,(hs.2 b (a e)).trans T⟩
 .intro b o e S;obtain⟨L,T⟩:=I.base.there b o e S;exact⟨L,(hs.2 b (a e)).trans T⟩
 .intro j y C T G t
  by_cases D:j=i
  .subst D;rw[List.getElem?_set]at G;simp at G
  .rw[Ot (Bq D)]at G;obtain⟨P,R,q⟩:=w j y C T G t;refine⟨P,R,?_⟩;rcases q with⟨k,e⟩|⟨k,c,e,z⟩
   .refine .inl ⟨k,?_⟩;have:y≠n:=λe=>D (v9 W T (e▸hi));simp[this,e]
   .exact .inr ⟨k,c,e,f y c e _ z⟩
 .intro y c e;obtain⟨u,z⟩:=I.cell y c e;exact⟨u,f y c e u z⟩
 .intro p B;obtain⟨e,n1,ne,g,d⟩:=I.pin p B;exact⟨(hs.2 p.1 ne).trans e,n1,ne,g,d⟩
 .intro b ob e;refine(I.hok b ob e).stay (λc u hc q=>(hs.2 c ?_).trans q) (λ_ q=>q) λ_ _ q=>q;intro z;subst z;rcases hc with z|z
  .rw[<-z,I.free]at e;cases e
  .rw[I.free]at z;cases z
end
section
variable {K:Ac}{M:Rq}
theorem Z5{m u F f C cls:Ae}{tp e:Aj}{h:Cr}(Z:K.In h)(l:Ib M h (Ox (.ref e)) cls)(B:h.get? tp=some {cls:=.type "tuple",data:=.seq [m,u,F,f,C].toArray})(x1:Dq K cls m=some false)(x2:Dq K cls u=some false)(x3:Dq K cls F=some false)(x4:Dq K cls f=some false)(x5:Dq K cls C=some false):
  Ib M h (excMatches (.ref e) (.ref tp)) false:=by
 intro A Q E s k0 q;obtain⟨hh,g,d,tk,os⟩:=s;have k:∀b o,h.get? b=some o->hh.get? b=some o:=k0;have c:Ib M hh (Qq (.ref tp) (.type "tuple")) true:=(((Oj B).andThen .now).andThen (PySem.W.Looks.of_pure PySem.isSubtype_tuple_tuple)).keeps k;have p:=l.keeps k;have a:=k _ _ B;have i:=(Fs (M:=M) Z x1).1.keeps k;have L:=(Fs (M:=M) Z x1).2.keeps k;have U:=(Fs (M:=M) Z x2).1.keeps k;have V:=(Fs (M:=M) Z x2).2.keeps k;have D:=(Fs (M:=M) Z x3).1.keeps k;have j:=(Fs (M:=M) Z x3).2.keeps k;have y:=(Fs (M:=M) Z x4).1.keeps k;have r:=(Fs (M:=M) Z x4).2.keeps k;have n:=(Fs (M:=M) Z x5).1.keeps k;have t:=(Fs (M:=M) Z x5).2.keeps k;unfold excMatches;refine Aa (c.at ?_);dsimp only;rw[Uw rfl]
 first
  | refine Aa (Ed a rfl ?_)
  | refine Aa (Aa (Ed a rfl (Af ?_)))
 dsimp only[Option.getD_some,Option.getD]
 (repeat (first|simp only[Ii,Mb,Ha,Cm,if_false,if_true]|lk))
 exact q
end
section
variable {X:Cx}{pins:Pn}{Z:St}{H H':Hp}{s s':Ah}{ea:Aj}{cls:Ae}{B:Cr}{E:Ae->Ah->Prop}
theorem dP.inX(a:dP X.prog X.w X.stack H s ea cls H' B s')(I:Inv X pins Z H s)(G:X.ex=[]):∃oe vs,oe.cls=cls/\oe.data=.fields vs/\Inv (X.inX ea oe) pins Z H' s':=by
 obtain⟨oe,vs,e,c,d⟩:=a.obj;refine⟨oe,vs,c,d,(a.inv I).inX e d a.free ?_⟩;cases q:X.s₀.heap.get? ea with
 | none=>rfl
 | some o=>
  obtain⟨L,M⟩:=I.base.there ea o q (by rw[G];simp);rw[a.new]at M;cases M
theorem Z6{x1 x2 x3 x4 x5:Aw}{m d F f j:Ae}{N D v U l tp pos:Gy}{c:Nat}{nm:Option Aw}{O:List Gn}{rest:List Qo}{Q:Flow->Ah->Prop}(a:dP X.prog X.w X.stack H s ea cls H' B s')(I:Inv X pins Z H s)(G:X.ex=[])(A:Gl X x1)(m1:X.mg x1=some m)(Y:Gl X x2)(m2:X.mg x2=some d)(C:Gl X x3)(m3:X.mg x3=some F)(W:Gl X x4)(m4:X.mg x4=some f)(i:Gl X x5)(m5:X.mg x5=some j)(R:Db x1)(y:Db x2)(t:Db x3)(u:Db x4)(x:Db x5)(n1:Dq X.K cls m=some false)(n2:Dq X.K cls d=some false)(n3:Dq X.K cls F=some false)(n4:Dq X.K cls f=some false)(n5:Dq X.K cls j=some false)(k:∀g,dP X.prog X.w X.stack H s ea cls H' B g->X.a (Tw (.ref ea) X.env rest) Q E g):
  X.a (Tw (.ref ea) X.env (.ExceptHandler (some (.Tuple [.Name x1 N,.Name x2 D,.Name x3 v,.Name x4 U,.Name x5 l] c tp)) nm O pos::rest)) Q E s':=by
 obtain⟨oe,vs,_,_,J⟩:=a.inX I G;refine wpAny_handleBy_cons (codeAny_handlers_test ?_) (by intro q;cases q);refine wpAny_Tuple ?_;refine Lm (iS (X:=X.inX ea oe) J A m1 ?_ R);refine Lm (iS (X:=X.inX ea oe) J Y m2 ?_ y);refine Lm (iS (X:=X.inX ea oe) J C m3 ?_ t);refine Lm (iS (X:=X.inX ea oe) J W m4 ?_ u);refine Lm (iS (X:=X.inX ea oe) J i m5 ?_ x);refine wpAny_items_nil ⟨by size_fits,?_⟩;have kp:∀q o,s'.heap.get? q=some o->(s'.heap.push {cls:=.type "tuple",data:=.seq [m,d,F,f,j].toArray}).get? q=some o:=λ_ _ z=>Ag _ z;exact(Z5 ((a.inv I).kIn.keeps kp) (a.ty.keeps kp) (Au s'.heap rfl) n1 n2 n3 n4 n5).here (k _ (a.kept (tk:=s'.toks) kp))
theorem Z7{i:Nat}{ts:Aj->TS}(a:dP X.prog X.w X.stack H s ea cls H' B s')(I:Inv X pins Z H s)(hex:X.ex=[])(g1:Gl X x)(m1:X.mg x=some c)(d1:Db x)(n1:Dq X.K cls c=some true)(hN:X.N.Nodup)(hi:X.N[i]? = some n)(hl:X.env.scope.names.lookup n=some .local)(hf:X.fn n=true\/X.env.scope.names.lookup n=some .local)(hs:∀oe vs,oe.cls=cls->oe.data=.fields vs->eR (X.inX ea oe) (b0::suite) (ts ea))(h:ts ea {nx:=λσ' H2=>D.nx (σ'.set i none) H2,rt:=λ_ _=>False} (Z.set i (some (.ref ea))) H'):
  X.a (Tw (.ref ea) X.env (.ExceptHandler (some (.Name x p)) (some n) (b0::suite) pos::rest)) (SP X pins D) E s':=by
 obtain⟨oe,vs,_,_,J⟩:=a.inX I hex;refine wpAny_handleBy_cons (codeAny_handlers_test (iS (X:=X.inX ea oe) J g1 m1 ?_ d1)) (by intro q;cases q);refine(PySem.W.exm_one (a.inv I).kIn a.ty n1).here ?_;refine codeAny_handlers_suite_as (a.land λs2 a2=>?_);obtain⟨oe2,vs2,c2,d2,J2⟩:=a2.inX I hex;refine wA (X:=X.inX ea oe2) J2 hN hi (.inl hl) (v:=.ref ea) rfl (λs3 J3=>?_) hf;refine Fo (hs oe2 vs2 c2 d2 pins s3 _ _ _ J3 h) (λf s4 q=>?_) λ_ _ z=>z.elim;cases f with
 | next=>
  obtain⟨σ4,H4,J4,q4⟩:=q;exact Z4 (J4.outX I.ok) hN hi hl λs5 J5=>⟨_,H4,J5,q4⟩
 | brk=>obtain⟨_,_,_,z⟩:=q;exact z.elim
 | cont=>obtain⟨_,_,_,z⟩:=q;exact z.elim
 | ret u=>obtain⟨_,_,_,_,_,z⟩:=q;exact z.elim
end
section
variable {X:Cx}{k:Nat}{f:Aj}{fd:Dz}{ps:List Aw}{sp:Sp}{g:Aw}{p cpos spos pos:Gy}{e:Cb}{es:List Cb}{t:TA}{hs:List Qo}{h0:Qo}
def Z8(sp:Sp)(t:TA)(E1:(St->Hp->Prop)->St->XK):TS:=λD Z H=>t Z H λvs G=>sp vs G (λ_ z=>D.nx Z z) (E1 D.nx Z)
def pF(X:Cx)(pins:Pn)(Z:St)(a:XK):Ae->Ah->Prop:=λe M=>∃G m ea cls H' B,e=.ref ea/\dP X.prog X.w X.stack G m ea cls H' B M/\Inv X pins Z G m/\a cls none H'
def PB(X:Cx)(bd:List Gn)(t:TS)(E1:(St->Hp->Prop)->St->XK):Prop:=
 ∀(pins:Pn) (s:Ah) (Z:St) (H:Hp) (D:gT),Inv X pins Z H s->t D Z H->X.a (execs bd X.env) (λfl M=>fl=.next/\∃H',Inv X pins Z H' M/\D.nx Z H') (pF X pins Z (E1 D.nx Z)) s
theorem Z9{E1:(St->Hp->Prop)->St->XK}(F:X.f (dZ X.prog X.w) k f fd ps sp)(hr:cC k X.A)(hg:Gl X g)(hm:X.mg g=some (.ref f))(hk:Em X.K (.ref f)=true)(hb:Binds X.K fd ps [])(ha:∀E,PA (X.wish E) (e::es) t)(hdb:Db g:=by decide)(he:Se X e es:=by rfl)(hpl:Sb X cpos es:=by rfl)(hsw:Ig (.Call (.Name g p) (e::es) [] cpos) none spos.line X.env=pure false:=by rfl):
  PB X [.Expr (.Call (.Name g p) (e::es) [] cpos) spos] (Z8 sp t E1) E1:=by
 intro pins s Z H D I h;refine Ln (Fo (Q:=λfl s1=>fl=.next/\∃H',Inv X pins Z H' s1/\D.nx Z H') (E:=pF X pins Z (E1 D.nx Z)) ?_ ?_ λ_ _ h=>h)
 .refine wpAny_Expr_any ?_ I.quiet hsw;refine Dv (iS I hg hm ?_ hdb);refine Jq (h₀:=X.base) I.ok.mod.kin hk (aY (ha (pF X pins Z (E1 D.nx Z)) cpos pins s Z H _ (I.wish _) h) λus s1 ⟨vs,H1,I1,r,q⟩=>⟨I1.kIn,?_⟩) he hpl;have I1':Inv X pins Z H1 s1:=I1.unwish;have hl:us.length=ps.length:=by rw[<-r.length];exact F.len _ _ _ _ q
  refine Uc (La (F.run X.A X.stack s1 H1 ⟨us,[]⟩ us vs _ _ hr I1'.env0 (by have z:=hb s1 us I1'.kIn (by rw[Dc];exact hl);rw[Dc]at z;exact z) r q) λrr s' hq=>?_);cases rr with
  | error ex=>
   obtain⟨os,bare,ea,cls,a0,B,H',rfl,fl,hok,un,cov,e1⟩:=hq;exact⟨H1,s1,ea,cls,H',B,rfl,⟨os,bare,⟨a0,fl⟩,hok,un,cov⟩,I1',e1⟩
  | ok fl=>
   cases fl with
   | ret u=>
    obtain⟨v,H',I',_,q'⟩:=I1'.after hq;exact⟨rfl,H',I',q'⟩
   | next=>exact Bn hq
   | brk=>exact Bn hq
   | cont=>exact Bn hq
 .rintro fl s1 ⟨rfl,H',I',q⟩;exact Hv ⟨rfl,H',I',q⟩
theorem zaa{E1:(St->Hp->Prop)->St->XK}{c:Cb}{a b:List Gn}{tc:TT}{j g:TS}{pos:Gy}(hc:∀E,PT (X.wish E) c tc)(l:PB X a j E1)(Y:PB X b g E1):PB X [.If c a b pos] (CD tc j g) E1:=by
 intro pins s Z H D I h;refine Ln (Fo (Q:=λfl M=>fl=.next/\∃H',Inv X pins Z H' M/\D.nx Z H') (E:=pF X pins Z (E1 D.nx Z)) ?_ ?_ λ_ _ h=>h)
 .refine wpAny_If (aY (hc (pF X pins Z (E1 D.nx Z)) pins s Z H _ (I.wish _) h) λd M ⟨G,L,f⟩=>?_);cases d with
  | true=>exact l pins M Z G D L.unwish f
  | false=>exact Y pins M Z G D L.unwish f
 .rintro fl M ⟨rfl,H',n,q⟩;exact Hv ⟨rfl,H',n,q⟩
theorem zab{E1:(St->Hp->Prop)->St->XK}{st:Gn}{t:TS}(h:∀E,PS (X.wish E) st t):PB X [st] (λD Z H=>t {nx:=λσ' H'=>σ'=Z/\D.nx Z H',rt:=λ_ _=>False,bk:=λ_ _=>False,ct:=λ_ _=>False} Z H) E1:=by
 intro pins s Z H D I q;refine Ln (Fo (h (pF X pins Z (E1 D.nx Z)) pins s Z H _ (I.wish _) q) (λfl s1 z=>?_) λ_ _ h=>h);cases fl with
 | next=>
  obtain⟨σ',H',I',rfl,z⟩:=z;exact Hv ⟨rfl,H',I'.unwish,z⟩
 | ret u=>obtain⟨_,_,_,_,_,z⟩:=z;exact z.elim
 | brk=>obtain⟨_,_,_,z⟩:=z;exact z.elim
 | cont=>obtain⟨_,_,_,z⟩:=z;exact z.elim
theorem PB.weak{E1:(St->Hp->Prop)->St->XK}{bd:List Gn}{t t':TS}(h:PB X bd t E1)(k:∀D Z H,t' D Z H->t D Z H):PB X bd t' E1:=λpins s Z H D I q=>h pins s Z H D I (k D Z H q)
theorem zac{E1:(St->Hp->Prop)->St->XK}{bd:List Gn}{t:TS}(c:PB X bd t E1)(j:X.stack=X.env::X.outer)(l:X.env.frame=some X.env.locals)(hh:∀(pins:Pn) (Z:St) (H:Hp) (s:Ah) (ea:Aj) (cls:Ae) (H':Hp) (B:Cr) (s':Ah) (D:gT),dP X.prog X.w X.stack H s ea cls H' B s'->Inv X pins Z H s->E1 D.nx Z cls none H'->
   X.a (Tw (.ref ea) X.env (h0::hs)) (SP X pins D) X.xe s'):PS X (.Try bd (h0::hs) [] [] pos) t:=by
 intro pins s Z H D I h;refine wpAny_Try_except (Fo (c pins s Z H D I h) ?_ ?_)
 .rintro fl M ⟨rfl,H',n,q⟩;exact Hv ⟨Z,H',n,q⟩
 .rintro ex M ⟨G,m,ea,cls,H',B,rfl,a,n,q⟩;have b:=a;rw[j]at b;refine b.look (by rw[<-j];exact I.ok.frames) l λg U=>?_;rw[<-j]at U;exact hh pins Z G m ea cls H' B g D U n q
end
section
variable {K:Ac}{x t:Ae}{Hh:Cr->Prop}
theorem HE{E:Ae->Ah->Prop}{Q:Ae->Ah->Prop}(ty:∀M:Rq,Ib M s.heap (Ox x) t)(Z:K.In s.heap)(e:Kd K t c=some true)(U:x≠.builtin "__main__.__loader__#opaque")(h:∀tk,Q (.bool true) {s with toks:=tk}):Bl (Cq prog w) A (call (.builtin "isinstance") [x,c]) Q E s:=by
 refine call_isinstance (S:=λ_ R s=>(K.In s.heap/\∀M:Rq,Ib M s.heap (Ox x) t)/\∀tk,R (.ok (.ret (.bool true))) {s with toks:=tk}) (λprog w A R s hs=>isinstance_outer ?_ U) ⟨⟨Z,ty⟩,h⟩;obtain⟨h0,g,d,H,os⟩:=s;obtain⟨⟨Z,ty⟩,N⟩:=hs;have l:=ty (Cq prog w);unfold Kd at e;unfold Gg.«isinstance.nested»;refine Aa (l.at ?_)
 by_cases q:(t==c)=true
 .rw[Uw q]
  first
   | ((repeat lk);exact N H)
   | exact Aa (Ga (N H))
   | exact Aa (Ga (Af (N H)))
 .rw[Uv q]at e;rw[Uv q];obtain⟨u,i,P⟩:=PySem.W.kit_cls (M:=Cq prog w) Z e;have a:Ib (Cq prog w) h0 (Qq x c) true:=l.andThen P;refine Aa (u.at ?_);rw[Uw (by decide)]
  k_delta "plainIsInstance"
  refine Aa (Aa (i.at ?_));simp only[Ha,Cm,if_false];refine Aa (a.at ?_)
  first
   | exact Af (Af (N H))
   | (simp only[if_true];first|exact Af (Af (N H))|exact Af (N H)|exact Aa (Af (Af (N H))))
end
theorem AS.setN{K:Ac}{H:Hp}{M:Mm}:∀{Z:SV} {L:S3} (i:Nat),AS K H M Z L->AS K H M (Z.set i none) (L.set i none)
 | _,_,_,.nil=>.nil
 | _,_,0,.cons _ t=>.cons (λx e=>nomatch e) t
 | _,_,i+1,.cons q t=>.cons q (AS.setN i t)
section
variable {X:Cx}{ea:Aj}{oe:Lc}
def zad(K:Ac)(ea:Aj)(cls:Ae):List W->Mm->K3->Prop:=λws M R=>((∃D,ws=[.ref ea,.ref D]/\Kd K cls (.ref D)=some true)\/∃T,ws=[.ref ea,.ty T]/\Kd K cls (.type T)=some true)/\R (.bl true) M
theorem yY:cM (X.inX ea oe) (.builtin "isinstance") (eV X.K (zad X.K ea oe.cls)):=by
 rintro pins s Z H xs us Q I rs ⟨ws,M,R,U,S,h,k⟩;obtain⟨J,_⟩:=I.pin (ea,oe) (Bi);have ty:∀M:Rq,Ib M s.heap (Ox (.ref ea)) oe.cls:=λM=>(Oj J).andThen .now;obtain⟨h|h,r⟩:=h
 .obtain⟨D,rfl,hk⟩:=h;obtain⟨v,u,rfl,av,c⟩:=S.two;cases av;cases c;obtain⟨y,z,rfl,L,a⟩:=vals2 rs;cases (show y=Value.ref ea from L);cases (show z=Value.ref D from a);exact HE ty I.kIn hk (λz=>nomatch z) λtk=>⟨.bl true,H,I.tok _,rfl,k.at U (.bl true) r⟩
 .obtain⟨T,rfl,hk⟩:=h;obtain⟨v,u,rfl,av,c⟩:=S.two;cases av;cases c;obtain⟨y,z,rfl,L,a⟩:=vals2 rs;cases (show y=Value.ref ea from L);cases (show z=Value.type T from a);exact HE ty I.kIn hk (λz=>nomatch z) λtk=>⟨.bl true,H,I.tok _,rfl,k.at U (.bl true) r⟩
theorem zae(Z:Gl X x)(J:X.mg x=some (.ref C))(hd:Db x:=by decide):E3 X (.Name x pos) (vC (.ref C)):=oT Z J (y:=.ref C) rfl (λ_ _=>.ref C) hd
abbrev kW:=S3->Mm->(Mm->Prop)->(String->Mm->Prop)->Prop
def HF(K:Ac)(cl:String->Option Aj)(b:kW)(E1:(SV->Hp->Prop)->SV->XK):TS:=λD Z H=>∃L M N Y,AS K H M Z L/\AM K H M/\b L M N Y/\(∀H' V,Kp H M H' V->AM K H' V->N V->D.nx Z H')/\∀n C H' V,cl n=some C->Kp H M H' V->AM K H' V->Y n V->E1 D.nx Z (.ref C) none H'
abbrev B3(X:Cx)(cl:String->Option Aj)(bd:List Gn)(b:kW):Prop:=∀E1,PB X bd (HF X.K cl b E1) E1
abbrev HG(sp:a8)(t:cN):kW:=λL M N Y=>t L M λws I=>sp ws I λw v=>(NM w/\N v)\/∃n,w=.ty n/\Y n v
abbrev yZ(te:aR):kW:=λL M N _=>te L M λ_ I=>N I
abbrev y6(c:cR)(a b:kW):kW:=λL M N Y=>c L M λk I=>if k=true then a L I N Y else b L I N Y
theorem zaf{cl:String->Option Aj}{k:Nat}{f:Aj}{fd:Dz}{ps:List Aw}{sp:a8}{g:Aw}{e:Cb}{es:List Cb}{t:cN}{p cpos spos:Gy}(F:X.f (dZ X.prog X.w) k f fd ps (mH X.K cl sp))(T:cC k X.A)(W:Gl X g)(J:X.mg g=some (.ref f))(hk:Em X.K (.ref f)=true)(G:Binds X.K fd ps [])(l:∀E,A3 (X.wish E) (e::es) t)(o:Db g:=by decide)(i:Se X e es:=by rfl)(b:Sb X cpos es:=by rfl)(a:Ig (.Call (.Name g p) (e::es) [] cpos) none spos.line X.env=pure false:=by rfl):B3 X cl [.Expr (.Call (.Name g p) (e::es) [] cpos) spos] (HG sp t):=λE1=>
 PB.weak (Z9 (t:=nK X.K t) (sp:=mH X.K cl sp) F T W J hk G l o i b a) λD Z H h=>by
  obtain⟨L,M,N,Y,C,U,h,q,u⟩:=h;refine⟨L,M,_,C,U,h,λvs S ws I k1 P av O=>⟨ws,I,_,P,av,O,?_,?_⟩⟩
  .rintro v R w s nm k2 z d (⟨_,r⟩|⟨n,rfl,_⟩)
   .exact q _ _ (k1.trans k2) z r
   .exact absurd rfl (nm n)
  .rintro c B R s x k2 z (⟨nm,_⟩|⟨n,e,r⟩)
   .exact absurd rfl (nm c)
   .cases e;exact u _ _ _ _ x (k1.trans k2) z r
theorem HH{cl:String->Option Aj}{e:Cb}{te:aR}{pos:Gy}(h:∀E,E3 (X.wish E) e te)(hs:Ig e none pos.line X.env=pure false:=by rfl):B3 X cl [.Expr e pos] (yZ te):=λE1=>
 PB.weak (zab (t:=CB (up X.K te)) λE=>wB (X:=X.wish E) (te:=up X.K te) (h E) hs) λD Z H ⟨L,M,N,Y,A,U,h,q,u⟩=>⟨L,M,_,A,U,h,λv H' w V o d av r=>⟨rfl,q _ _ o d r⟩⟩
theorem HI{cl:String->Option Aj}{c:Cb}{a b:List Gn}{tc:cR}{j g:kW}{pos:Gy}(hc:∀E,T3 (X.wish E) c tc)(l:B3 X cl a j)(G:B3 X cl b g):B3 X cl [.If c a b pos] (y6 tc j g):=λE1=>
 PB.weak (zaa (tc:=jG X.K tc) hc (l E1) (G E1)) λD Z H ⟨L,M,N,Y,A,U,h,q,u⟩=>⟨L,M,_,A,U,h,λk S I k1 P O=>by
  have n1:∀H' V,Kp S I H' V->AM X.K H' V->N V->D.nx Z H':=λH' V o d r=>q _ _ (k1.trans o) d r;have m:∀n C H' V,cl n=some C->Kp S I H' V->AM X.K H' V->Y n V->E1 D.nx Z (.ref C) none H':=λn C H' V c o d r=>u _ _ _ _ c (k1.trans o) d r;cases k with
  | true=>exact⟨L,I,N,Y,A.kp U k1,P,O,n1,m⟩
  | false=>exact⟨L,I,N,Y,A.kp U k1,P,O,n1,m⟩⟩
abbrev HJ(b:kW)(n:String)(i:Nat)(ts:Aj->aD):aD:=λD L M=>b L M (λV=>D.nx L V) λm v=>m=n/\∀ea,ts ea {nx:=λT V=>D.nx (T.set i none) V,rt:=λ_ _=>False} (L.set i (some (.ref ea))) v
def HK(K:Ac)(C:Aj)(i:Nat)(ts:Aj->aD):(SV->Hp->Prop)->SV->XK:=λnx Z cls _ H'=>cls=.ref C/\∀ea,lQ K (ts ea) {nx:=λl z=>nx (l.set i none) z,rt:=λ_ _=>False} (Z.set i (some (.ref ea))) H'
theorem zag{K:Ac}{cl:String->Option Aj}{b:kW}{n:String}{i:Nat}{ts:Aj->aD}{C:Aj}(hc:cl n=some C){D:gT}{Z:SV}{H:Hp}(h:lQ K (HJ b n i ts) D Z H):HF K cl b (HK K C i ts) D Z H:=by
 obtain⟨L,M,q,A,U,h,c⟩:=h;refine⟨L,M,_,_,A,U,h,λH' V o d r=>c.nx _ _ _ _ o d (A.kp U o) r,?_⟩;rintro y B S v x k2 E ⟨rfl,r⟩;rw[hc]at x;cases x;have a:=A.kp U k2;refine⟨rfl,λea=>⟨_,v,_,a.set (.ref ea) i,E,r ea,⟨λl w T t k3 j e m=>?_,λ_ _ _ _ _ _ _ z=>z.elim,λ_ _ _ _ _ _ _ z=>z.elim,λ_ _ _ _ _ _ _ z=>z.elim⟩⟩⟩;exact c.nx _ _ _ _ (k2.trans k3) j (e.setN i) m
end
structure aE where
 name:Aw
 parts:List Aw
 cost:Int
def pG(t:Aw):Prop:=∀c∈cs t,c<128
structure pH(t:Aw):Prop where
 len:t.length<=20
 nm:iW t=true
 hd:∃c r,cs t=c::r/\c∈cs iC
 asc:pG t
structure kX(t:Aw):Prop where
 len:t.length<=20
 ne:cs t≠[]
 sm:∀c∈cs t,c∈cs kG
theorem zah:∀c∈cs kG,c<128:=by decide +kernel
theorem HL:∀c∈cs iC,c<128:=by decide +kernel
theorem zai:∀c∈cs lP,c<128:=by decide +kernel
theorem kX.asc(h:kX t):pG t:=λc hc=>zah c (h.sm c hc)
structure mI(hs ws:List Aw)(r:aE):Prop where
 name:r.name∈hs
 parts:∀t∈r.parts,t∈ws\/t∈hs
 few:r.parts.length<=4
 lo:0<=r.cost
 hi:r.cost<10 ^ 60
structure zaj(rs:List aE):Prop where
 ne:rs≠[]
 few:rs.length<=60
 ex:∃hs ws:List Aw,hs.length<=12/\(∀t∈hs,pH t)/\(∀t∈ws,kX t)/\(∀r∈rs,mI hs ws r)/\∀t∈hs,∃r∈rs,r.name=t
theorem HM(c:Array Nat):∀(k:Nat) (acc:Array Nat) (d:Nat),d∈((Bz k c).foldl (·++·) acc).toList->d∈acc.toList\/d∈c.toList
 | 0,acc,d,h=>.inl h
 | k+1,acc,d,h=>by
  rw[Es,Fw]at h;rcases HM c k _ d h with q|q
  .rw[Pb]at q;exact Ba.mp q
  .exact .inr q
theorem HN{n:Int}{d:Nat}(h:d∈cs (Hy x n)):d∈cs x:=by
 unfold Hy at h;split at h
 .exact absurd h (by rw[show cs Qt=[] from rfl];simp)
 .split at h
  .exact h
  .rcases HM x.cps _ #[] d h with q|q
   .simp at q
   .exact q
theorem HP{n:Int}(S:x.length=1)(h0:0<=n):((Hy x n).length:Int)=n:=by
 rw[len_mul,S];have:¬n<0:=by lia
 simp[this]
def dE(acc:List Aw)(t:Aw):List Aw:=if t∈acc then acc else acc++[t]
def mJ(acc:List Aw)(rs:List aE):List Aw:=(rs.map aE.name).foldl dE acc
def namesOf(rs:List aE):List Aw:=mJ [] rs
theorem j2:u∈dE acc t↔u∈acc\/u=t:=by
 unfold dE;split
 .rename_i h;constructor
  .exact .inl
  .rintro(q|q)
   .exact q
   .rw[q];exact h
 .rw[Ba,Am]
theorem zak:(dE acc t).length<=acc.length+1:=by
 unfold dE;split
 .lia
 .rw[Ak];exact Ai _
theorem uL:∀{ts acc:List Aw} {u:Aw},u∈ts.foldl dE acc↔u∈acc\/u∈ts
 | [],acc,u=>by simp
 | t::r,acc,u=>by
  rw[Fw,uL,j2,Bd];constructor
  .rintro((h|h)|h)
   .exact .inl h
   .exact .inr (.inl h)
   .exact .inr (.inr h)
  .rintro(h|h|h)
   .exact .inl (.inl h)
   .exact .inl (.inr h)
   .exact .inr h
theorem qX:u∈namesOf rs↔∃r∈rs,r.name=u:=by
 unfold namesOf mJ;rw[uL];simp
theorem y7(h:pG t):Rp t=true:=by
 unfold Rp;rw[Array.all_eq_true'];intro c hc;have:=h c (by unfold cs;exact Array.mem_toList_iff.mpr hc);exact Uy (by lia)
def qY(g:Bool)(t:Aw):Prop:=if g then pH t else kX t
def jN:Bool->Aw
 | true=>Qs kG
 | false=>kG
theorem y8(g:Bool):(cs (jN g)).length=26:=by cases g<;>decide +kernel
theorem HQ(Z:(cs g).length=26)(n:Int):∃c,b7 g.cps.toList (n % 26)=some c/\c∈cs g:=by
 have h0:0<=n % 26:=Fj _ (by decide);have O:n % 26<26:=Eo _ (by decide);obtain⟨j,D⟩:=Np h0;have a:j<(cs g).length:=by lia
 refine⟨(cs g)[j],?_,Ql a⟩;rw[D];exact iJ (Bp a)
theorem y9(c:Nat):cs (⟨#[c]⟩:Aw)=[c]:=rfl
theorem zal{g:Bool}(hl:t.length<=8)(G:cs t≠[])(h:∀c∈cs t,c∈cs (jN g)):qY g t:=by
 cases g with
 | false=>exact⟨by lia,G,h⟩
 | true=>
  have o:jN true=iC:=by show Qs kG=iC;decide +kernel
  rw[o]at h;refine⟨by lia,VU G h,?_,λc hc=>HL c (h c hc)⟩;cases e:cs t with
  | nil=>exact absurd e G
  | cons c r=>exact⟨c,r,rfl,h c (by rw[e];simp)⟩
theorem zam(n:Int)(h0:0<=n)(O:n<10000)(hl:t.length<=8)(G:cs t≠[])(h:∀c∈cs t,c∈cs (jN true)):qY true (t++"_"++Bv (toString n)):=by
 have o:jN true=iC:=by show Qs kG=iC;decide +kernel
 rw[o]at h;have b:(Bv (toString n)).length<=10:=Od h0 (by lia);have A:("_" : Aw).length=1:=by decide +kernel
 obtain⟨m,rfl⟩:=Np h0;have a:=ED (m:=m);have d:cs (t++"_"++Bv (toString ((m:Nat):Int)))=cs t++95::cs (Bv (toString ((m:Nat):Int))):=by rw[oR,oR,EA];simp
 refine⟨by rw[Ls,Ls,A];lia,VW d G h a.2 a.1,?_,λc hc=>?_⟩
 .cases e:cs t with
  | nil=>exact absurd e G
  | cons c r=>exact⟨c,_,by rw[d,e];rfl,h c (by rw[e];simp)⟩
 .rw[d]at hc;rcases Ba.mp hc with q|q
  .exact HL c (h c q)
  .rcases Bd.mp q with q|q
   .lia
   .exact zai c (a.1 c q)
theorem HR{n:Int}(h0:0<=n)(O:n<10000):n.natAbs.log2<1920:=by
 rcases Nat.eq_zero_or_pos n.natAbs with h|B
 .rw[h];decide
 .have:n.natAbs<2 ^ 14:=by
   have:(2:Nat) ^ 14=16384:=by decide
   lia
  have:=(Sy (Co B)).mpr this;lia
theorem zan(h:Drawn D (a++b)):∃R y,D=R++y/\Drawn R a/\Drawn y b:=by
 induction a generalizing D with
 | nil=>exact⟨[],D,rfl,.nil,h⟩
 | cons x r E=>
  cases h with
  | cons O Z=>
   obtain⟨R,y,rfl,T,G⟩:=E Z;exact⟨_::R,y,rfl,.cons O T,G⟩
theorem zao{a b c d:Int}(h:Drawn D [a,b,c,d]):∃x1 x2 x3 x4,D=[x1,x2,x3,x4]/\Below x1 a/\Below x2 b/\Below x3 c/\Below x4 d:=by
 cases h with|cons O h=>cases h with|cons Z h=>cases h with|cons f h=>cases h with|cons h4 h=>cases h;exact⟨_,_,_,_,rfl,O,Z,f,h4⟩
theorem zap{s:Int}(h:Drawn D ss)(F:∀z∈ss,z=s):∀d∈D,Below d s:=by
 induction h with
 | nil=>intro d hd;cases hd
 | cons r t E=>
  intro d hd;rcases Bd.mp hd with e|hd
  .subst e;have:=F _ Bi;rw[<-this];exact r
  .exact E (λz hz=>F z (Bb _ hz)) d hd
theorem zaq{a b:Int}(h:Drawn D [a,b]):∃x1 x2,D=[x1,x2]/\Below x1 a/\Below x2 b:=by
 cases h with|cons O h=>cases h with|cons Z h=>cases h;exact⟨_,_,rfl,O,Z⟩
theorem qZ:∀(ts acc:List Aw),(ts.foldl dE acc).length<=acc.length+ts.length
 | [],acc=>by simp
 | t::r,acc=>by
  rw[Fw,Bu];have:=qZ r (dE acc t);have:=zak (acc:=acc) (t:=t);lia
def bE(r:aE):W:=.tup [.str r.name,.tup (r.parts.map W.str),.int r.cost]
def bV(rs:List aE):W:=.rl (rs.map bE)
abbrev aQ:=Int×Int
def dG(a b:aQ):Bool:=decide (a.1<b.1)||(decide (a.1=b.1)&&decide (a.2<b.2))
theorem rA:dG a b=true↔a.1<b.1\/a.1=b.1/\a.2<b.2:=by simp[dG]
def Le(a b:aQ):Prop:=a.1<b.1\/a.1=b.1/\a.2<=b.2
theorem Le.refl(a:aQ):Le a a:=.inr ⟨rfl,Int.le_refl _⟩
theorem Le.trans(h:Le a b)(h':Le b c):Le a c:=by unfold Le at *;lia
theorem Le.of_lt(h:dG a b=true):Le a b:=by rw[rA]at h;unfold Le;lia
theorem HS:¬dG a a=true:=by rw[rA];lia
theorem zA(h:dG a b=true)(h':Le b c):dG a c=true:=by rw[rA]at *;unfold Le at h';lia
def j3(a b:aQ):aQ:=(a.1+b.1,a.2+b.2)
section
variable {U J:Type}[DecidableEq U]
def aK(t:List (U×J))(k:U):Option J:=(t.find? λe=>decide (e.1=k)).map (·.2)
def eD(t:List (U×J))(k:U)(v:J):List (U×J):=if (t.any λe=>decide (e.1=k))=true then t.map (λe=>if e.1=k then(e.1,v) else e) else t++[(k,v)]
theorem eI(e:U×J)(t:List (U×J))(k:U):aK (e::t) k=if e.1=k then some e.2 else aK t k:=by
 unfold aK;rw[Dn]
 by_cases h:e.1=k
 .rw[Uy h,Uw h];rfl
 .rw[Uz h,Uv h]
theorem i0(t:List (U×J))(k:U):(t.any λe=>decide (e.1=k))=(aK t k).isSome:=by
 induction t with
 | nil=>rfl
 | cons e t E=>
  rw[Er,eI,E]
  by_cases h:e.1=k
  .rw[Uy h,Uw h];rfl
  .rw[Uz h,Uv h];rfl
theorem HU(t:List (U×J))(k j:U)(v:J):aK (t++[(k,v)]) j=(aK t j).or (if k=j then some v else none):=by
 induction t with
 | nil=>rw[Lj,eI];rfl
 | cons e t E=>
  rw[List.cons_append,eI,eI,E];split<;>rfl
theorem zar(t:List (U×J))(k j:U)(v:J)(h:(aK t k).isSome=true):aK (t.map (λe=>if e.1=k then(e.1,v) else e)) j=if k=j then some v else aK t j:=by
 induction t with
 | nil=>cases h
 | cons e t E=>
  rw[Be,eI,eI];rw[eI]at h
  by_cases hk:e.1=k
  .rw[Uw hk]
   by_cases D:k=j
   .rw[Uw (by rw[hk,D]:(e.1,v).1=j),Uw D]
   .rw[Uv (by rw[hk];exact D),Uv D,Uv (by rw[hk];exact D)]
    by_cases ht:(aK t k).isSome=true
    .rw[E ht,Uv D]
    .have:∀{t:List (U×J)},¬(aK t k).isSome=true->t.map (λe=>if e.1=k then(e.1,v) else e)=t:=by
      intro t
      induction t with
      | nil=>intro _;rfl
      | cons a t E=>
       intro h;rw[eI]at h
       by_cases l:a.1=k
       .rw[Uw l]at h;exact absurd rfl h
       .rw[Uv l]at h;rw[Be,Uv l,E h]
     rw[this ht]
  .rw[Uv hk]at h⊢
   by_cases D:e.1=j
   .rw[Uw D,Uw D,Uv (λz=>hk (by rw[D,z]))]
   .rw[Uv D,Uv D];exact E h
theorem pI(t:List (U×J))(k j:U)(v:J):aK (eD t k v) j=if k=j then some v else aK t j:=by
 unfold eD;rw[i0];split
 .rename_i h;exact zar t k j v h
 .rename_i h;rw[HU]
  by_cases D:k=j
  .subst D;rw[Uw rfl,Uw rfl];cases e:aK t k with
   | none=>rfl
   | some z=>rw[e]at h;exact absurd rfl h
  .rw[Uv D,Uv D,Option.or_none]
theorem rB(t:List (U×J))(k:U)(v:J):(eD t k v).length<=t.length+1:=by
 unfold eD;split
 .rw[Ab];lia
 .simp
def jO{l:Type}(t:List (U×List l))(k:U)(v:l):List (U×List l):=eD t k ((aK t k).getD []++[v])
theorem HV{l:Type}(t:List (U×List l))(k j:U)(v:l):(aK (jO t k v) j).getD []=if k=j then(aK t j).getD []++[v] else(aK t j).getD []:=by
 unfold jO;rw[pI]
 by_cases h:k=j
 .subst h;rw[Uw rfl,Uw rfl];rfl
 .rw[Uv h,Uv h]
end
section
variable {O:Type}
def cX(c:aQ)(x:O):List (aQ×List O)->List (aQ×List O)
 | []=>[(c,[x])]
 | (d,xs)::r=>if dG c d=true then(d,xs)::cX c x r else if d=c then(d,xs++[x])::r else(c,[x])::(d,xs)::r
def bR:List (aQ×List O)->List (aQ×O)
 | []=>[]
 | (d,xs)::r=>xs.map (λx=>(d,x))++bR r
theorem HW(c:aQ)(x:O):∀q:List (aQ×List O),∀e,e∈bR (cX c x q)↔e=(c,x)\/e∈bR q
 | [],e=>by simp[cX,bR]
 | (d,xs)::r,e=>by
  rw[cX];split
  .rw[bR,bR,Ba,HW c x r,Ba];constructor
   .rintro(h|h|h)
    .exact .inr (.inl h)
    .exact .inl h
    .exact .inr (.inr h)
   .rintro(h|h|h)
    .exact .inr (.inl h)
    .exact .inl h
    .exact .inr (.inr h)
  .split
   .rename_i hd;subst hd;rw[bR,bR,Az];simp only[Ba,Be,Kq,Am];constructor
    .rintro((h|h)|h)
     .exact .inr (.inl h)
     .exact .inl h
     .exact .inr (.inr h)
    .rintro(h|h|h)
     .exact .inl (.inr h)
     .exact .inl (.inl h)
     .exact .inr h
   .simp[bR]
theorem uM(c:aQ)(x:O):∀q:List (aQ×List O),(bR (cX c x q)).length=(bR q).length+1
 | []=>rfl
 | (d,xs)::r=>by
  rw[cX];split
  .rw[bR,bR,Ak,Ak,uM c x r];lia
  .split
   .rw[bR,bR,Ak,Ak,Az,Ak];simp;lia
   .simp[bR]
def gP:List (aQ×List O)->Prop
 | []=>True
 | (d,xs)::r=>xs≠[]/\(∀e∈r,dG e.1 d=true)/\gP r
theorem HX(c:aQ)(x:O):∀q:List (aQ×List O),∀e∈cX c x q,e.1=c\/∃M∈q,M.1=e.1
 | [],e,h=>by simp[cX]at h;exact .inl (by rw[h])
 | (d,xs)::r,e,h=>by
  rw[cX]at h;split at h
  .rcases Bd.mp h with z|z
   .exact .inr ⟨(d,xs),by simp,by rw[z]⟩
   .rcases HX c x r e z with q|⟨M,f,p⟩
    .exact .inl q
    .exact .inr ⟨M,Bb _ f,p⟩
  .split at h
   .rcases Bd.mp h with z|z
    .exact .inr ⟨(d,xs),by simp,by rw[z]⟩
    .exact .inr ⟨e,Bb _ z,rfl⟩
   .rcases Bd.mp h with z|z
    .exact .inl (by rw[z])
    .exact .inr ⟨e,z,rfl⟩
theorem zB(c:aQ)(x:O):∀{q:List (aQ×List O)},gP q->gP (cX c x q)
 | [],_=>⟨by simp,by simp,trivial⟩
 | (d,xs)::r,h=>by
  obtain⟨Y,Z,f⟩:=h;rw[cX];split
  .rename_i a;refine⟨Y,λe P=>?_,zB c x f⟩;rcases HX c x r e P with z|⟨M,V,R⟩
   .rw[z];exact a
   .rw[<-R];exact Z M V
  .rename_i a;split
   .rename_i hd;subst hd;exact⟨by simp,Z,f⟩
   .rename_i hd;have b:dG d c=true:=by
     have g:¬(c.1<d.1\/c.1=d.1/\c.2<d.2):=by rw[<-rA];exact a
     rw[rA]
     by_cases Y:d.1=c.1
     .refine .inr ⟨Y,?_⟩;have:d.2≠c.2:=λZ=>hd (Oq Y Z);lia
     .left;lia
    refine⟨by simp,λe P=>?_,Y,Z,f⟩;rcases Bd.mp P with z|z
    .rw[z];exact b
    .exact zA (Z e z) (Le.of_lt b)
def hJ:List (aQ×List O)->Option (aQ×O×List (aQ×List O))
 | []=>none
 | [(d,xs)]=>match xs.getLast? with
  | none=>none
  | some x=>some (d,x,if xs.dropLast.isEmpty then [] else [(d,xs.dropLast)])
 | e::G::r=>match hJ (G::r) with
  | none=>none
  | some (d,x,q)=>some (d,x,e::q)
theorem nV:∀{q:List (aQ×List O)},gP q->q≠[]->∃d x S,hJ q=some (d,x,S)/\gP S/\(∀e,e∈bR q↔e=(d,x)\/e∈bR S)/\(bR q).length=(bR S).length+1/\(∀e∈q,Le d e.1)/\∀e∈S,∃M∈q,M.1=e.1
 | [],_,h=>absurd rfl h
 | [(d,xs)],h,_=>by
  obtain⟨Y,_,_⟩:=h;rcases Gb xs with z|⟨B,y,z⟩
  .exact absurd z Y
  .rw[Gd]at z;subst z;refine⟨d,y,if B.isEmpty then [] else [(d,B)],by simp[hJ],?_,λe=>?_,?_,λe P=>?_,λe P=>?_⟩
   .cases B with
    | nil=>trivial
    | cons a b=>exact⟨by simp,by simp,trivial⟩
   .cases B with
    | nil=>simp[bR]
    | cons a b=>simp[bR];constructor<;>(intro h;rcases h with h|h|h<;>simp[h])
   .cases B with
    | nil=>simp[bR]
    | cons a b=>simp[bR]
   .rw[Am.mp P];exact Le.refl _
   .cases B with
    | nil=>cases P
    | cons a b=>simp at P;exact⟨(d,a::b++[y]),by simp,by rw[P]⟩
 | e::G::r,h,_=>by
  obtain⟨Y,Z,f⟩:=h;obtain⟨d,x,S,T,V,m1,s,m,k1⟩:=nV f (by simp);refine⟨d,x,e::S,by rw[hJ,T],⟨Y,λz hz=>?_,V⟩,λz=>?_,?_,λz hz=>?_,λz hz=>?_⟩
  .obtain⟨D,l,k⟩:=k1 z hz;rw[<-k];exact Z D l
  .rw[bR,Ba,m1,bR,Ba];constructor
   .rintro(h|h|h)
    .exact .inr (.inl h)
    .exact .inl h
    .exact .inr (.inr h)
   .rintro(h|h|h)
    .exact .inr (.inl h)
    .exact .inl h
    .exact .inr (.inr h)
  .rw[bR,Ak,s,bR,Ak];lia
  .rcases Bd.mp hz with q|q
   .rw[q];have:=m G Bi;exact this.trans (Le.of_lt (Z G Bi))
   .exact m z q
  .rcases Bd.mp hz with q|q
   .exact⟨e,Bi,by rw[q]⟩
   .obtain⟨D,l,k⟩:=k1 z q;exact⟨D,Bb _ l,k⟩
end
section
variable {O:Type}
theorem HY(c:aQ)(x:O):∀q:List (aQ×List O),(bR (cX c x q)).Perm ((c,x)::bR q)
 | []=>.refl _
 | (d,xs)::r=>by
  rw[cX];split
  .rw[bR,bR];exact(Kg _ (HY c x r)).trans Ni
  .split
   .rename_i hd;subst hd;rw[bR,bR,Az,Ds];exact Ni
   .exact .refl _
theorem HZ:∀{q S:List (aQ×List O)} {d:aQ} {x:O},gP q->hJ q=some (d,x,S)->(bR q).Perm ((d,x)::bR S)
 | [],S,d,x,_,h=>by cases h
 | [(g,xs)],S,d,x,hf,h=>by
  obtain⟨Z,_,_⟩:=hf;rcases Gb xs with z|⟨B,y,z⟩
  .exact absurd z Z
  .rw[Gd]at z;subst z;simp[hJ]at h;obtain⟨rfl,rfl,rfl⟩:=h;cases B with
   | nil=>exact .refl _
   | cons a b=>
    rw[Uv (by simp)];simp only[bR,Dc,Az,Be,Kq];exact List.perm_append_singleton _ _
 | e::G::r,S,d,x,hf,h=>by
  obtain⟨_,_,f⟩:=hf;rw[hJ]at h;split at h
  .cases h
  .rename_i R x1 n T;simp only[Option.some.injEq,Ic]at h;obtain⟨rfl,rfl,rfl⟩:=h;have E:=HZ f T;obtain⟨g,xs⟩:=e;rw[bR,bR];exact(Kg _ E).trans Ni
end
structure Sr where
 rs:List aE
 own:Aw->Bool
 places:List Int
 steps:Aw->Int->List (Int×Int)
 wt:Nat->Int
abbrev K4:=Nat×Nat×Int×Int
abbrev cA:=Aw×Int×Int
abbrev kY:=Nat×List Int×aQ
def fB(n:Nat)(cut:List Int):K4:=(n,cut.length,cut.headD 0,cut.getLastD 0)
abbrev cF:=List (cA×aQ×Nat×List Int)
structure SS where
 q:List (aQ×List (Nat×List Int))
 reached:List (K4×aQ)
 best:cF
 ends:List ((Aw×Int)×List (Int×aQ))
 begun:List ((Aw×Int)×List kY)
def reach(st:SS)(n:Nat)(cut:List Int)(c:aQ):SS:=match aK st.reached (fB n cut) with
 | some d=>if dG c d=true then {st with reached:=eD st.reached (fB n cut) c,q:=cX c (n,cut) st.q} else st
 | none=>{st with reached:=eD st.reached (fB n cut) c,q:=cX c (n,cut) st.q}
def jP(G:Sr)(n:Nat):Aw:=match G.rs[n]? with
 | some r=>r.name
 | none=>""
def pJ(G:Sr)(n:Nat)(cut:List Int):Option Aw:=match G.rs[n]? with
 | some r=>r.parts[cut.length-1]?
 | none=>none
def pK(G:Sr)(n:Nat)(cut:List Int):cA:=(jP G n,cut.headD 0,cut.getLastD 0)
def settle(G:Sr)(st:SS)(n:Nat)(cut:List Int)(c:aQ):SS:=match aK st.best (pK G n cut) with
 | some _=>st
 | none=>((aK st.begun (jP G n,cut.headD 0)).getD []).foldl (λst y=>reach st y.1 (y.2.1++[cut.getLastD 0]) (j3 y.2.2 c)) {st with best:=st.best++[(pK G n cut,c,n,cut)],ends:=jO st.ends (jP G n,cut.headD 0) (cut.getLastD 0,c)}
def nW(st:SS)(n:Nat)(cut:List Int)(c:aQ)(b:Aw):SS:=((aK st.ends (b,cut.getLastD 0)).getD []).foldl (λst z=>reach st n (cut++[z.1]) (j3 c z.2)) {st with begun:=jO st.begun (b,cut.getLastD 0) (n,cut,c)}
def zC(G:Sr)(st:SS)(n:Nat)(cut:List Int)(c:aQ)(b:Aw):SS:=(G.steps b (cut.getLastD 0)).foldl (λst z=>reach st n (cut++[z.1]) (c.1+z.2,c.2)) st
def nX(G:Sr)(st:SS)(n:Nat)(cut:List Int)(c:aQ):SS:=match pJ G n cut with
 | none=>settle G st n cut c
 | some b=>if G.own b=true then nW st n cut c b else zC G st n cut c b
theorem part_of{n:Nat}(h:G.rs[n]? = some r):pJ G n cut=r.parts[cut.length-1]?:=by unfold pJ;rw[h]
theorem uN{U J:Type}[DecidableEq U]{t:List (U×J)}{k:U}{v:J}(h:aK t k=some v):∃a b,t=a++(k,v)::b:=by
 induction t with
 | nil=>cases h
 | cons e t E=>
  rw[eI]at h
  by_cases hk:e.1=k
  .rw[Uw hk]at h;cases h;exact⟨[],t,by rw[<-hk];rfl⟩
  .rw[Uv hk]at h;obtain⟨a,b,rfl⟩:=E h;exact⟨e::a,b,rfl⟩
theorem zas(st:SS)(n:Nat)(cut:List Int)(c:aQ):∃j,j<=1/\(bR (reach st n cut c).q).length=(bR st.q).length+j/\(reach st n cut c).reached.length<=st.reached.length+j:=by
 have a:∃j,j<=1/\(bR (cX c (n,cut) st.q)).length=(bR st.q).length+j/\(eD st.reached (fB n cut) c).length<=st.reached.length+j:=⟨1,Ai _,uM _ _ _,rB _ _ _⟩;unfold reach;cases aK st.reached (fB n cut) with
 | none=>exact a
 | some d=>
  simp only;split
  .exact a
  .exact⟨0,by lia,rfl,by lia⟩
theorem len_sub{O:Type}[DecidableEq O]:∀{a b:List O},a.Nodup->(∀x∈a,x∈b)->a.length<=b.length
 | [],b,_,_=>Ea _
 | x::a,b,U,F=>by
  rw[Dl]at U;have S:=F x Bi;have E:=len_sub (a:=a) (b:=b.erase x) U.2 λy K=>by
   have G:y≠x:=λe=>U.1 (by rw[<-e];exact K);exact(List.mem_erase_of_ne G).mpr (F y (Bb _ K))
  rw[List.length_erase_of_mem S]at E;have:=List.length_pos_of_mem S;rw[Bu];lia
def pL(G:Sr)(st:SS):SS:=match hJ st.q with
 | none=>st
 | some (c,(n,cut),S)=>match aK st.reached (fB n cut) with
  | some d=>if dG d c=true then {st with q:=S} else nX G {st with q:=S} n cut c
  | none=>{st with q:=S}
def mK:SS:=⟨[],[],[],[],[]⟩
def uO(G:Sr):List (Nat×Int):=(Cd G.rs.length).flatMap λn=>G.places.map λp=>(n,p)
def uP(G:Sr):SS:=(uO G).foldl (λst x=>reach st x.1 [x.2] (G.wt x.1,1)) mK
theorem IA{O J:Type}{f:O->List J}{k:Nat}:∀{l:List O},(∀x∈l,(f x).length=k)->(l.flatMap f).length=l.length*k
 | [],_=>by simp
 | x::l,h=>by
  rw[List.flatMap_cons,Ak,h x Bi,IA λy K=>h y (Bb _ K),Bu,Nat.succ_mul];lia
abbrev rep(k:Nat):List Int:=Bz k 0
def rc(st:SS)(x:Nat×Nat):Prop:=(aK st.reached (x.1,x.2,0,0)).isSome=true
def told(B:cF)(t:Aw):Prop:=(t,0,0)∈B.map (·.1)
structure One(G:Sr):Prop where
 pl:G.places=[0]
 st:∀t,G.steps t 0=[]\/∃c,G.steps t 0=[(0,c)]
def d8(G:Sr)(B:cF)(t:Aw):Prop:=if G.own t=true then told B t else G.steps t 0≠[]
def c7(q:List (aQ×List (Nat×List Int))):List (Nat×Nat):=(bR q).map λe=>(e.2.1,e.2.2.length)
def j4(l:List kY):List (Nat×Nat):=l.map λy=>(y.1,y.2.1.length)
structure Sd(G:Sr)(B:cF)(P:List (Nat×Nat))(x:Nat×Nat)(r:aE):Prop where
 ru:G.rs[x.1]? = some r
 one:1<=x.2
 le:x.2<=r.parts.length+1
 ok:∀t∈r.parts.take (x.2-1),d8 G B t
 pd:2<=x.2->(x.1,x.2-1)∈P
structure J(G:Sr)(st:SS)(P X:List (Nat×Nat)):Prop where
 fall:gP st.q
 nd:(P++c7 st.q++X).Nodup
 it:∀e∈bR st.q,e.2.2=rep e.2.2.length/\aK st.reached (e.2.1,e.2.2.length,0,0)=some e.1
 rch:∀x,rc st x↔x∈P++c7 st.q
 rl:st.reached.length=(P++c7 st.q).length
 sd:∀x∈P++c7 st.q++X,∃r,Sd G st.best P x r
 fin:∀x∈P,∀r,G.rs[x.1]? = some r->r.parts[x.2-1]? = none->told st.best r.name
 nx:∀x∈P,∀r t,G.rs[x.1]? = some r->r.parts[x.2-1]? = some t->d8 G st.best t->(x.1,x.2+1)∈P++c7 st.q++X
 bg:∀x∈P,∀r t,G.rs[x.1]? = some r->r.parts[x.2-1]? = some t->G.own t=true->x∈j4 ((aK st.begun (t,0)).getD [])
 bo:∀t,∀y∈(aK st.begun (t,0)).getD [],y.2.1=rep y.2.1.length/\(y.1,y.2.1.length)∈P/\G.own t=true/\∃r,G.rs[y.1]? = some r/\r.parts[y.2.1.length-1]? = some t
 bd:∀t,(j4 ((aK st.begun (t,0)).getD [])).Nodup
 en:∀t,((aK st.ends (t,0)).getD []=[]/\¬told st.best t)\/∃c,(aK st.ends (t,0)).getD []=[(0,c)]/\told st.best t
 ini:∀n r,G.rs[n]? = some r->(n,1)∈P++c7 st.q++X
 ln:st.best.length<=P.length/\st.ends.length<=P.length/\st.begun.length<=P.length
 bs:∀pre e post,st.best=pre++e::post->∃r,G.rs[e.2.2.1]? = some r/\e.1=(r.name,0,0)/\e.2.2.2=rep (r.parts.length+1)/\(∀t∈r.parts,d8 G pre t)/\¬told pre r.name
theorem IC{n k:Nat}(h:1<=k):fB n (rep k)=(n,k,0,0):=by
 obtain⟨j,rfl⟩:∃j,k=j+1:=⟨k-1,by lia⟩;unfold fB rep;rw[Ew,Mj,List.getLast?_replicate];rfl
theorem ID(k:Nat):rep k++[0]=rep (k+1):=(List.replicate_succ' ..).symm
theorem zD(c:aQ)(x:Nat×List Int)(q:List (aQ×List (Nat×List Int))):(c7 (cX c x q)).Perm ((x.1,x.2.length)::c7 q):=(HY c x q).map _
theorem J.reach{G:Sr}{st:SS}{P X:List (Nat×Nat)}{n k:Nat}{c:aQ}(j:J G st P ((n,k)::X)):J G (L2.reach st n (rep k) c) P X:=by
 obtain⟨u,m⟩:=j.sd (n,k) (by simp);have nd:=j.nd;have f:¬rc st (n,k):=λh=>by
  have:=(j.rch _).mp h;rw[Ek]at nd;exact nd.2.2 _ this _ (Bi ..) rfl
 have y:aK st.reached (n,k,0,0)=none:=by
  unfold rc at f;cases e:aK st.reached (n,k,0,0) with
  | none=>rfl
  | some d=>rw[e]at f;exact absurd rfl f
 have C:L2.reach st n (rep k) c = {st with reached:=eD st.reached (n,k,0,0) c,q:=cX c (n,rep k) st.q}:=by
  unfold L2.reach;rw[IC m.one,y]
 have B:(P++c7 (cX c (n,rep k) st.q)++X).Perm (P++c7 st.q++(n,k)::X):=by
  have O:(c7 (cX c (n,rep k) st.q)).Perm ((n,k)::c7 st.q):=by
   have:=zD c (n,rep k) st.q;rwa [show(n,rep k).2.length=k from Ew ..]at this
  rw[Ds,Ds];exact(Kg _ ((O.append_right X).trans (Ni.symm)))
 have U:∀x,x∈P++c7 (cX c (n,rep k) st.q)++X↔x∈P++c7 st.q++(n,k)::X:=λx=>B.mem_iff;rw[C];refine⟨zB _ _ j.fall,B.nodup_iff.mpr nd,λe L=>?_,λx=>?_,?_,λx S=>j.sd x ((U x).mp S),j.fin,λx S r t O Z F=>(U _).mpr (j.nx x S r t O Z F),j.bg,j.bo,j.bd,j.en,λn r h=>(U _).mpr (j.ini n r h),j.ln,j.bs⟩
 .rcases(HW c (n,rep k) st.q e).mp L with rfl|L
  .refine⟨by rw[Ew],?_⟩;show aK (eD st.reached (n,k,0,0) c) (n,(rep k).length,0,0)=some c;rw[Ew,pI,Uw rfl]
  .obtain⟨O,Z⟩:=j.it e L;refine⟨O,?_⟩;show aK (eD _ _ _) _=_;rw[pI,Uv (λq=>?_)]
   .exact Z
   .rw[<-q]at Z;rw[y]at Z;cases Z
 .have O:=j.rch x;have Z:x∈P++c7 (cX c (n,rep k) st.q)↔x=(n,k)\/x∈P++c7 st.q:=by
   have:=(zD c (n,rep k) st.q).mem_iff (a:=x);rw[show(n,rep k).2.length=k from Ew ..]at this;rw[Ba,Ba,this,Bd];constructor<;>rintro(h|h|h)<;>simp_all
  rw[Z,<-O];show(aK (eD _ _ _) _).isSome=true↔_;rw[pI]
  by_cases e:(n,k,(0:Int),(0:Int))=(x.1,x.2,0,0)
  .rw[Uw e];have:x=(n,k):=by obtain⟨a,b⟩:=x;cases e;rfl
   simp[this]
  .rw[Uv e];have:x≠(n,k):=λz=>e (by rw[z]);unfold rc;simp[this]
 .have O:=(zD c (n,rep k) st.q).length_eq;have Z:=j.rl;show(eD _ _ _).length=_;unfold eD;rw[Uv (by rw[i0,y];exact Av),Ak,Ak];rw[Bu]at O;rw[Ak]at Z;show _+1=_+(c7 (cX c (n,rep k) st.q)).length;lia
theorem J.reaches{G:Sr}{P:List (Nat×Nat)}{O:Type}(f:O->Nat×List Int×aQ):∀(xs:List O) {st:SS},J G st P (xs.map λx=>((f x).1,(f x).2.1.length))->(∀x∈xs,(f x).2.1=rep (f x).2.1.length)->J G (xs.foldl (λst x=>L2.reach st (f x).1 (f x).2.1 (f x).2.2) st) P []
 | [],_,j,_=>j
 | x::xs,st,j,h=>by
  refine J.reaches f xs (st:=L2.reach st (f x).1 (f x).2.1 (f x).2.2) ?_ λy K=>h y (Bb _ K);rw[h x (Bi ..)];exact J.reach j
theorem IE:told (B++[e]) t↔told B t\/e.1=(t,0,0):=by
 unfold told;rw[Az,Ba];exact or_congr Iff.rfl (by rw[Ma,Am];exact eq_comm)
theorem d8.mono(d:told B t->told a t)(h:d8 G B t):d8 G a t:=by
 unfold d8 at h⊢;split
 .rw[Uw ‹_›]at h;exact d h
 .rw[Uv ‹_›]at h;exact h
theorem J.step{G:Sr}{st:SS}{P X:List (Nat×Nat)}{c:aQ}{n:Nat}{cut:List Int}{m:List (aQ×List (Nat×List Int))}{B:cF}{E:List ((Aw×Int)×List (Int×aQ))}{b:List ((Aw×Int)×List kY)}(j:J G st P [])(ht:hJ st.q=some (c,(n,cut),m))(hl:B.length<=st.best.length+1/\E.length<=st.ends.length+1/\b.length<=st.begun.length+1)(u:X.Nodup)(k:∀x∈X,x∉P++c7 st.q)(g:∀x∈X,∃r,Sd G B (P++[(n,cut.length)]) x r)(d:∀t,told st.best t->told B t)(fin:∀r,G.rs[n]? = some r->r.parts[cut.length-1]? = none->told B r.name)(nx:∀x r t,(x∈P/\¬d8 G st.best t)\/x=(n,cut.length)->G.rs[x.1]? = some r->r.parts[x.2-1]? = some t->d8 G B t->(x.1,x.2+1)∈X)(bg:∀x∈P++[(n,cut.length)],∀r t,G.rs[x.1]? = some r->r.parts[x.2-1]? = some t->G.own t=true->x∈j4 ((aK b (t,0)).getD []))(bo:∀t,∀y∈(aK b (t,0)).getD [],y.2.1=rep y.2.1.length/\(y.1,y.2.1.length)∈P++[(n,cut.length)]/\G.own t=true/\∃r,G.rs[y.1]? = some r/\r.parts[y.2.1.length-1]? = some t)(bd:∀t,(j4 ((aK b (t,0)).getD [])).Nodup)(en:∀t,((aK E (t,0)).getD []=[]/\¬told B t)\/∃c,(aK E (t,0)).getD []=[(0,c)]/\told B t)(bs:∀pre e i,B=pre++e::i->∃r,G.rs[e.2.2.1]? = some r/\e.1=(r.name,0,0)/\e.2.2.2=rep (r.parts.length+1)/\(∀t∈r.parts,d8 G pre t)/\¬told pre r.name):J G ⟨m,st.reached,B,E,b⟩ (P++[(n,cut.length)]) X:=by
 have R:st.q≠[]:=λz=>by rw[z]at ht;cases ht
 obtain⟨_,_,_,T,hf,m1,_⟩:=nV j.fall R;rw[ht]at T;cases T;have F:(P++[(n,cut.length)]++c7 m).Perm (P++c7 st.q):=by
  have O:(c7 st.q).Perm ((n,cut.length)::c7 m):=(HZ j.fall ht).map _;rw[Ds];exact Kg _ O.symm
 have nd:(P++c7 st.q).Nodup:=by have:=j.nd;rwa [Dc]at this
 have U:∀x,x∈P++[(n,cut.length)]++c7 m↔x∈P++c7 st.q:=λx=>F.mem_iff;refine⟨hf,?_,λe L=>j.it e ((m1 e).mpr (.inr L)),λx=>(j.rch x).trans (U x).symm,j.rl.trans F.length_eq.symm,λx S=>?_,λx S r O Z=>?_,λx S r t O Z f=>?_,bg,bo,bd,en,λn r h=>Bg _ ((U _).mpr (by have:=j.ini n r h;rwa [Dc]at this)),?_,bs⟩
 .rw[Ek];exact⟨F.nodup_iff.mpr nd,u,λa l b Y e=>k b Y (e▸(U a).mp l)⟩
 .rcases Ba.mp S with S|S
  .obtain⟨r,s⟩:=j.sd x (by rw[Dc];exact(U x).mp S);exact⟨r,s.ru,s.one,s.le,λt h=>(s.ok t h).mono (d t),λh=>Bg _ (s.pd h)⟩
  .exact g x S
 .rcases Ba.mp S with S|S
  .exact d _ (j.fin x S r O Z)
  .rw[Am.mp S]at O Z;exact fin r O Z
 .by_cases o:x∈P/\d8 G st.best t
  .have:=j.nx x o.1 r t O Z o.2;rw[Dc]at this;exact Bg _ ((U _).mpr this)
  .refine Bs _ (nx x r t ?_ O Z f);rcases Ba.mp S with S|S
   .exact .inl ⟨S,λz=>o ⟨S,z⟩⟩
   .exact .inr (Am.mp S)
 .have h:=j.ln;rw[Ak];exact⟨Bf hl.1 (Nn h.1),Bf hl.2.1 (Nn h.2.1),Bf hl.2.2 (Nn h.2.2)⟩
theorem zat{O:Type}{l:List O}{i:Nat}{x:O}(h:l[i-1]? = some x)(hi:1<=i):x∈l.take i:=Ay (i:=i-1) (by rw[List.getElem?_take,Uw (by lia)];exact h)
theorem zE{k:Nat}:(rep k).getLastD 0=0:=by
 rw[Mj,List.getLast?_replicate];split<;>rfl
theorem zF{k:Nat}:(rep k).headD 0=0:=by cases k<;>rfl
theorem zau(h:aK B (t,0,0)=none):¬told B t:=λz=>by
 obtain⟨e,P,Z⟩:=Bc.mp z;have:=i0 B (t,0,0);rw[h]at this;exact Mx.mp this e P (Uy Z)
theorem zav{B:cF}{t:Aw}{v:aQ×Nat×List Int}(h:aK B (t,0,0)=some v):told B t:=by
 obtain⟨a,b,e⟩:=uN h;unfold told;rw[e];simp
theorem J.next{G:Sr}(o:One G){st:SS}{P:List (Nat×Nat)}{c:aQ}{n:Nat}{cut:List Int}{p:List (aQ×List (Nat×List Int))}(j:J G st P [])(ht:hJ st.q=some (c,(n,cut),p)):J G (pL G st) (P++[(n,cut.length)]) []:=by
 have F:st.q≠[]:=λz=>by rw[z]at ht;cases ht
 obtain⟨_,_,_,T,_,m1,_⟩:=nV j.fall F;rw[ht]at T;cases T;have hel:=(m1 (c,(n,cut))).mpr (.inl rfl);obtain⟨hc,m⟩:=j.it _ hel;have hc:cut=rep cut.length:=hc;have N:(n,cut.length)∈P++c7 st.q:=Bs _ (Bc.mpr ⟨_,hel,rfl⟩);obtain⟨r,s⟩:=j.sd _ (Bg _ N);have M:1<=cut.length:=s.one;have E:G.rs[n]? = some r:=s.ru;have hnP:(n,cut.length)∉P:=λz=>by
  have h:=j.nd;rw[Dc,Ek]at h;exact h.2.2 _ z _ (Bc.mpr ⟨_,hel,rfl⟩) rfl
 have eh:cut.headD 0=0:=by rw[hc];exact zF
 have el:cut.getLastD 0=0:=by rw[hc];exact zE
 have w:fB n cut=(n,cut.length,0,0):=by unfold fB;rw[eh,el]
 have new1:(n,cut.length+1)∉P++c7 st.q:=λz=>by
  obtain⟨A,W⟩:=j.sd _ (Bg _ z);exact hnP (W.pd (by show 2<=cut.length+1;lia))
 have lt:∀{x},x∈P++[(n,cut.length)]->x∈P\/x=(n,cut.length):=λh=>(Ba.mp h).imp_right Am.mp;have Q:pL G st=L2.nX G {st with q:=p} n cut c:=by
  unfold pL;rw[ht];show(match aK st.reached (fB n cut) with|some d=>_|none=>_)=_;rw[w,show aK st.reached (n,cut.length,0,0)=some c from m];exact Uv HS
 rw[Q];unfold L2.nX;rw[part_of E];cases B:r.parts[cut.length-1]? with
 | none=>
  have hk:cut.length=r.parts.length+1:=by
   have:=List.getElem?_eq_none_iff.mp B;have h:cut.length<=r.parts.length+1:=s.le;lia
  have ef:pK G n cut=(r.name,0,0):=by unfold pK jP;rw[E,eh,el]
  have efn:jP G n=r.name:=by unfold jP;rw[E]
  have nbg:∀x∈P++[(n,cut.length)],∀r t,G.rs[x.1]? = some r->r.parts[x.2-1]? = some t->G.own t=true->x∈j4 ((aK st.begun (t,0)).getD []):=λx U A t O Z f=>by
   rcases lt U with U|rfl
   .exact j.bg x U A t O Z f
   .rw[E]at O;cases O;rw[B]at Z;cases Z
  have nbo:∀t,∀y∈(aK st.begun (t,0)).getD [],y.2.1=rep y.2.1.length/\(y.1,y.2.1.length)∈P++[(n,cut.length)]/\G.own t=true/\∃r,G.rs[y.1]? = some r/\r.parts[y.2.1.length-1]? = some t:=λt y K=>by
   obtain⟨a,b,d⟩:=j.bo t y K;exact⟨a,Bg _ b,d⟩
  show J G (settle G _ n cut c) _ _;unfold settle;rw[ef,efn,eh,el];cases Y:aK st.best (r.name,0,0) with
  | some v=>
   have tb:=zav Y;refine j.step ht ⟨Fz _,Fz _,Fz _⟩ .nil (λ_ h=>nomatch h) (λ_ h=>nomatch h) (λ_ h=>h) (λA O _=>?_) (λx A t h O Z f=>?_) nbg nbo j.bd j.en j.bs
   .rw[E]at O;cases O;exact tb
   .rcases h with h|rfl
    .exact absurd f h.2
    .rw[E]at O;cases O;rw[B]at Z;cases Z
  | none=>
   have nt:=zau Y;have tl:∀t,told (st.best++[((r.name,0,0),c,n,cut)]) t↔told st.best t\/r.name=t:=λt=>by
    rw[IE];exact or_congr Iff.rfl ⟨λh=>(Ny h).1,λh=>by rw[h]⟩
   refine J.reaches (λy:kY=>(y.1,y.2.1++[0],j3 y.2.2 c)) _ (st:={st with q:=p,best:=_,ends:=_}) ?_ λy K=>?_
   .have bo:=j.bo r.name;refine j.step ht ⟨by rw[Ak];exact Ai _,rB ..,Fz _⟩ ?_ (λx U=>?_) (λx U=>?_) (λt h=>(tl t).mpr (.inl h)) (λA O _=>?_) (λx A t h O Z f=>?_) nbg nbo j.bd (λt=>?_) λpre e i h=>?_
    .have:=j.bd r.name;unfold j4 at this;refine List.Pairwise.of_map (S:=(·≠·)) (λx:Nat×Nat=>(x.1,x.2-1)) (λa b h e=>h (by rw[e])) ?_;rw[Bm];refine Eq.mp (congrArg List.Nodup (Eg λy _=>?_)) this;show _=((y.1,(y.2.1++[0]).length-1):Nat×Nat);rw[Ak];rfl
    .obtain⟨y,K,rfl⟩:=Bc.mp U;obtain⟨a,b,d,A,O,Z⟩:=bo y K;intro z;obtain⟨R,V⟩:=j.sd _ (Bg _ z);have f:=V.ru;rw[O]at f;cases f;obtain⟨_,k⟩:=j.sd _ (Bg _ (Bg _ b));have:=V.ok r.name (by
      show _∈A.parts.take ((y.2.1++[0]).length-1);rw[Ak];exact zat Z k.one)
     unfold d8 at this;rw[Uw d]at this;exact nt this
    .obtain⟨y,K,rfl⟩:=Bc.mp U;obtain⟨a,b,d,A,O,Z⟩:=bo y K;obtain⟨R,V⟩:=j.sd _ (Bg _ (Bg _ b));have f:=V.ru;rw[O]at f;cases f;have h4:=(An.mp Z).1;have e:(y.2.1++[(0:Int)]).length=y.2.1.length+1:=Ak;have I:1<=y.2.1.length:=V.one;refine⟨A,O,?_,?_,λt ht=>?_,λ_=>?_⟩
     .show 1<=(y.2.1++[(0:Int)]).length;lia
     .show(y.2.1++[(0:Int)]).length<=_;lia
     .have ht:t∈A.parts.take ((y.2.1++[(0:Int)]).length-1):=ht;rw[e,show y.2.1.length+1-1=y.2.1.length-1+1 by lia,Bw,Z]at ht;rcases Ba.mp ht with ht|ht
      .exact(V.ok t ht).mono λz=>(tl t).mpr (.inl z)
      .rw[Hb,Am]at ht;unfold d8;rw[ht,Uw d];exact(tl _).mpr (.inr rfl)
     .show(y.1,(y.2.1++[(0:Int)]).length-1)∈_;rw[e];exact Bg _ b
    .rw[E]at O;cases O;exact(tl _).mpr (.inr rfl)
    .rcases h with h|rfl
     .have ot:G.own t=true:=by
       cases D:G.own t with
       | true=>rfl
       | false=>
        have:=h.2;unfold d8 at this f;rw[D]at this f;exact absurd f this
      have:t=r.name:=by
       have h4:=h.2;unfold d8 at h4 f;rw[Uw ot]at h4 f;exact(((tl t).mp f).resolve_left h4).symm
      have:=j.bg x h.1 A t O Z ot;obtain⟨y,K,rfl⟩:=Bc.mp this;rw[‹t=r.name›]at K;refine Bc.mpr ⟨y,K,?_⟩;show(y.1,(y.2.1++[(0:Int)]).length)=_;rw[Ak];rfl
     .rw[E]at O;cases O;rw[B]at Z;cases Z
    .rw[HV]
     by_cases e:r.name=t
     .subst e;rw[Uw rfl];rcases j.en r.name with⟨h,_⟩|⟨_,_,h⟩
      .rw[h];exact .inr ⟨c,rfl,(tl _).mpr (.inr rfl)⟩
      .exact absurd h nt
     .rw[Uv (λz=>e (Ny z).1)];rcases j.en t with⟨O,Z⟩|⟨d,O,Z⟩
      .exact .inl ⟨O,λz=>((tl t).mp z).elim Z e⟩
      .exact .inr ⟨d,O,(tl t).mpr (.inl Z)⟩
    .rcases Gb i with rfl|⟨i,x,rfl⟩
     .obtain⟨O,Z⟩:=List.append_inj' h rfl;cases Z;rw[<-O];refine⟨r,E,rfl,by rw[<-hk];exact hc,λt ht=>s.ok t ?_,nt⟩;show t∈r.parts.take (cut.length-1);rw[hk,Nat.add_sub_cancel,Br];exact ht
     .rw[Gd,<-List.cons_append,<-Ds]at h;exact j.bs pre e i (List.append_inj' h rfl).1
   .show y.2.1++[0]=rep (y.2.1++[(0:Int)]).length;rw[Ak,show([(0:Int)]).length=1 from rfl,<-ID,<-(j.bo _ y K).1]
 | some t=>
  have C:=(An.mp B).1;have key:∀X b,b.length<=st.begun.length+1->(X=[]/\¬d8 G st.best t)\/(X=[(n,cut.length+1)]/\d8 G st.best t)->(∀t',(aK b (t',0)).getD []=if G.own t=true/\t=t' then(aK st.begun (t',0)).getD []++[(n,cut,c)] else(aK st.begun (t',0)).getD [])->J G ⟨p,st.reached,st.best,st.ends,b⟩ (P++[(n,cut.length)]) X:=λX b hbl u Y=>by
   have g:∀x∈X,x=(n,cut.length+1)/\d8 G st.best t:=λx U=>by
    rcases u with⟨rfl,_⟩|⟨rfl,h⟩
    .cases U
    .exact⟨Am.mp U,h⟩
   refine j.step ht ⟨Fz _,Fz _,hbl⟩ ?_ (λx U=>by rw[(g x U).1];exact new1) (λx U=>?_) (λ_ h=>h) (λA O Z=>?_) (λx A t' h O Z f=>?_) (λx U A t' O Z f=>?_) (λt' y K=>?_) (λt'=>?_) j.en j.bs
   .rcases u with⟨rfl,_⟩|⟨rfl,_⟩
    .exact .nil
    .simp
   .obtain⟨rfl,h⟩:=g x U;refine⟨r,E,Rc _ _,by show cut.length+1<=_;lia,λt' h'=>?_,λ_=>Bs _ (Am.mpr rfl)⟩;have h':t'∈r.parts.take (cut.length-1+1):=by rw[Nat.sub_add_cancel M];exact h'
    rw[Bw,B]at h';rcases Ba.mp h' with h'|h'
    .exact s.ok t' h'
    .rw[Hb,Am]at h';rw[h'];exact h
   .rw[E]at O;cases O;rw[B]at Z;cases Z
   .rcases h with h|rfl
    .exact absurd f h.2
    .rw[E]at O;cases O;rw[B]at Z;cases Z;rcases u with⟨_,h⟩|⟨rfl,_⟩
     .exact absurd f h
     .exact Am.mpr rfl
   .rw[Y];rcases lt U with U|rfl
    .have:=j.bg x U A t' O Z f;split
     .unfold j4;rw[Az];exact Bg _ this
     .exact this
    .rw[E]at O;cases O;rw[B]at Z;cases Z;rw[Uw ⟨f,rfl⟩];unfold j4;rw[Az];exact Bs _ (Am.mpr rfl)
   .rw[Y]at K;split at K
    .rename_i h;rcases Ba.mp K with K|K
     .obtain⟨a,b,d⟩:=j.bo t' y K;exact⟨a,Bg _ b,d⟩
     .rw[Am.mp K,<-h.2];exact⟨hc,Bs _ (Am.mpr rfl),h.1,r,E,B⟩
    .obtain⟨a,b,d⟩:=j.bo t' y K;exact⟨a,Bg _ b,d⟩
   .rw[Y];split
    .unfold j4;rw[Az,Ek];refine⟨j.bd t',by simp,λa l b' hb' e=>?_⟩;obtain⟨y,K,rfl⟩:=Bc.mp l;rw[Ma,Am]at hb';have:=(j.bo t' y K).2.1;rw[e,hb']at this;exact hnP this
    .exact j.bd t'
  have T:(cut++[(0:Int)]).length=cut.length+1:=Ak;have L:cut++[0]=rep (cut++[(0:Int)]).length:=by rw[T,<-ID,<-hc]
  show J G (if G.own t=true then nW _ n cut c t else zC G _ n cut c t) _ _
  by_cases D:G.own t=true
  .rw[Uw D];unfold nW;rw[el];show J G (((aK st.ends (t,0)).getD []).foldl _ _) _ _;have Y:∀t',(aK (jO st.begun (t,0) (n,cut,c)) (t',0)).getD []=if G.own t=true/\t=t' then(aK st.begun (t',0)).getD []++[(n,cut,c)] else(aK st.begun (t',0)).getD []:=λt'=>by
    rw[HV]
    by_cases e:t=t'
    .subst e;rw[Uw rfl,Uw ⟨D,rfl⟩]
    .rw[Uv (λz=>e (Ny z).1),Uv (λz=>e z.2)]
   have ok:d8 G st.best t↔told st.best t:=by unfold d8;rw[Uw D]
   rcases j.en t with⟨h,nt⟩|⟨d,h,H⟩
   .rw[h];exact key [] _ (rB ..) (.inl ⟨rfl,λz=>nt (ok.mp z)⟩) Y
   .rw[h];refine J.reaches (λz:Int×aQ=>(n,cut++[z.1],j3 c z.2)) [(0,d)] ?_ λz hz=>?_
    .exact key _ _ (rB ..) (.inr ⟨by rw[Ma,T],ok.mpr H⟩) Y
    .rw[Am.mp hz];exact L
  .rw[Uv D];unfold zC;rw[el];have ok:d8 G st.best t↔G.steps t 0≠[]:=by unfold d8;rw[Uv D]
   have Y:∀t',(aK st.begun (t',0)).getD []=if G.own t=true/\t=t' then(aK st.begun (t',0)).getD []++[(n,cut,c)] else(aK st.begun (t',0)).getD []:=λt'=>by rw[Uv λz=>D z.1]
   rcases o.st t with h|⟨d,h⟩
   .rw[h];exact key [] _ (Fz _) (.inl ⟨rfl,λz=>ok.mp z h⟩) Y
   .rw[h];refine J.reaches (λz:Int×Int=>(n,cut++[z.1],(c.1+z.2,c.2))) [(0,d)] ?_ λz hz=>?_
    .exact key _ _ (Fz _) (.inr ⟨by rw[Ma,T],ok.mpr (by rw[h];exact List.cons_ne_nil _ _)⟩) Y
    .rw[Am.mp hz];exact L
theorem J.start(o:One G):J G (uP G) [] []:=by
 have e:uO G=(Cd G.rs.length).map λn=>(n,(0:Int)):=by
  unfold uO;rw[o.pl];generalize Cd G.rs.length=l
  induction l with
  | nil=>rfl
  | cons a l E=>rw[List.flatMap_cons,E];rfl
 unfold uP;rw[e];have hl:∀{n r},G.rs[n]? = some r->n<G.rs.length:=λh=>(An.mp h).1;refine J.reaches (λx:Nat×Int=>(x.1,[x.2],(G.wt x.1,1))) _ ⟨trivial,?_,(λ_ h=>nomatch h),λx=>⟨λh=>(nomatch (show false=true from h)),(λh=>nomatch h)⟩,rfl,λx S=>?_,(λ_ h=>nomatch h),(λ_ h=>nomatch h),(λ_ h=>nomatch h),(λ_ _ h=>nomatch h),λ_=>.nil,λt=>.inl ⟨rfl,(λh=>nomatch h)⟩,λn r h=>?_,⟨Ai _,Ai _,Ai _⟩,λpre e i h=>by cases pre<;>cases h⟩ λx S=>?_
 .rw[Bm];refine List.Pairwise.map _ (λa b h z=>h (Ny z).1) List.nodup_range
 .rw[Bm]at S;obtain⟨n,U,rfl⟩:=Bc.mp S;have U:=Hz.mp U;exact⟨_,Bp U,Ai _,Rc _ _,λt h=>(by simp at h),λh=>absurd (show 2<=1 from h) (by decide)⟩
 .rw[Bm];exact Bc.mpr ⟨n,Hz.mpr (hl h),rfl⟩
 .obtain⟨n,_,rfl⟩:=Bc.mp S;rfl
theorem J.few{G:Sr}{st:SS}{P X:List (Nat×Nat)}{L:Nat}(j:J G st P X)(B:∀r∈G.rs,r.parts.length<=L):(P++c7 st.q++X).length<=G.rs.length*(L+1):=by
 have:=len_sub (b:=(Cd G.rs.length).flatMap λn=>(Cd (L+1)).map λk=>(n,k+1)) j.nd λx S=>by
  obtain⟨r,s⟩:=j.sd x S;have O:=(An.mp s.ru).1;have Z:=B r (Ay s.ru);have f:=s.le;have h4:=s.one;exact List.mem_flatMap.mpr ⟨x.1,Hz.mpr O,Bc.mpr ⟨x.2-1,Hz.mpr (by lia),by rw[Nat.sub_add_cancel h4]⟩⟩
 rwa [IA (k:=L+1) λn _=>by rw[Ab,Ft],Ft]at this
structure kZ(G:Sr)(B:cF):Prop where
 cl:∀r∈G.rs,(∀t∈r.parts,d8 G B t)->told B r.name
 bs:∀pre e post,B=pre++e::post->∃r,G.rs[e.2.2.1]? = some r/\e.1=(r.name,0,0)/\e.2.2.2=rep (r.parts.length+1)/\(∀t∈r.parts,d8 G pre t)/\¬told pre r.name
theorem J.done{G:Sr}{st:SS}{P:List (Nat×Nat)}(j:J G st P [])(N:st.q=[]):kZ G st.best:=by
 refine⟨λr g ok=>?_,j.bs⟩;obtain⟨n,U⟩:=Ou g;have a:∀{x},x∈P++c7 st.q++[]->x∈P:=λh=>by rw[N]at h;simpa [c7,bR] using h
 have go:∀k,k<=r.parts.length->(n,k+1)∈P:=λk=>by
  induction k with
  | zero=>exact λ_=>a (j.ini n r U)
  | succ k E=>
   intro hk;have B:r.parts[k+1-1]? = some r.parts[k]:=Bp hk;exact a (j.nx _ (E (by lia)) r _ U B (ok _ (Ql hk)))
 exact j.fin _ (go _ (Ai _)) r U (Of (Ai _))
def ownB(rs:List aE)(t:Aw):Bool:=decide (t∈namesOf rs)
theorem zG(h:r∈rs):ownB rs r.name=true:=Uy (qX.mpr ⟨r,h,rfl⟩)
def j5(rs:List aE)(ss:List Aw):Sr:=⟨rs,ownB rs,[0],λt p=>if p=0/\t∈ss then [(0,1)] else [],λ_=>0⟩
theorem IF:(j5 rs ss).steps t 0=if t∈ss then [(0,1)] else []:=by
 show(if (0:Int)=0/\t∈ss then _ else _)=_
 by_cases h:t∈ss
 .rw[Uw ⟨rfl,h⟩,Uw h]
 .rw[Uv (λz=>h z.2),Uv h]
theorem IG(rs:List aE)(ss:List Aw):One (j5 rs ss):=⟨rfl,λt=>by
 rw[IF];split
 .exact .inr ⟨_,rfl⟩
 .exact .inl rfl⟩
inductive jQ(rs:List aE)(w:Bool):Aw->Prop
 | mk {r:aE}:r∈rs->(∀t∈r.parts,ownB rs t=true->jQ rs w t)->(∀t∈r.parts,ownB rs t=false->w=true)->jQ rs w r.name
theorem zH:d8 (j5 rs ss) B t↔(ownB rs t=true->told B t)/\(ownB rs t=false->t∈ss):=by
 unfold d8;show(if ownB rs t=true then _ else _)↔_;cases h:ownB rs t with
 | true=>rw[Uw rfl];simp
 | false=>
  rw[Uv (by decide),IF];split<;>simp_all
theorem zaw{w:Bool}(hw:∀r∈rs,∀t∈r.parts,ownB rs t=false->(t∈ss↔w=true))(F:kZ (j5 rs ss) B)(X:Aw):told B X↔jQ rs w X:=by
 constructor
 .have:∀k pre i,pre.length=k->B=pre++i->∀X,told pre X->jQ rs w X:=by
   intro k
   induction k with
   | zero=>intro pre i h _ X u;rw[Gp.mp h]at u;cases u
   | succ k E=>
    intro pre i h Y X u;rcases Gb pre with rfl|⟨pre,e,rfl⟩
    .cases h
    rw[Gd]at u Y h;rw[Ak]at h;have go:=E pre (e::i) (Nat.succ.inj h) (by rw[Y,Ds];rfl);rcases IE.mp u with O|O
    .exact go X O
    .obtain⟨r,Z,f,_,h4,_⟩:=F.bs pre e i (by rw[Y,Ds];rfl);rw[f]at O;rw[<-(Ny O).1];have J:=Ay Z;exact .mk J (λt ht D=>go t ((zH.mp (h4 t ht)).1 D)) λt ht D=>(hw r J t ht D).mp ((zH.mp (h4 t ht)).2 D)
  exact this B.length B [] rfl (Dc B).symm X
 .intro h
  induction h with
  | mk g _ Z E=>exact F.cl _ g λt ht=>zH.mpr ⟨E t ht,λD=>(hw _ g t ht D).mpr (Z t ht D)⟩
theorem zax(F:kZ G B):(B.map (·.1)).Nodup:=by
 rw[Hf,Mw];refine Mi.mpr λi j hi D S e=>?_;obtain⟨r,_,Z,_,_,f⟩:=F.bs _ _ _ (show B=B.take j++B[j]::B.drop (j+1) by rw[<-Jl D,List.take_append_drop]);rw[Z]at e;refine f (Bc.mpr ⟨B[i],?_,e⟩);rw[List.mem_iff_getElem];exact⟨i,by rw[Ca];lia,by rw[List.getElem_take]⟩
theorem II(F:kZ G B)(h:f∈B.map (·.1)):∃r∈G.rs,f=(r.name,0,0):=by
 obtain⟨e,P,rfl⟩:=Bc.mp h;obtain⟨pre,i,Y⟩:=List.append_of_mem P;obtain⟨r,O,Z,_⟩:=F.bs pre e i Y;exact⟨r,Ay O,Z⟩
theorem IJ(F:kZ G B):B.length<=G.rs.length:=by
 have:=len_sub (b:=G.rs.map λr=>(r.name,(0:Int),(0:Int))) (zax F) λf hf=>by
  obtain⟨r,O,Z⟩:=II F hf;exact Bc.mpr ⟨r,O,Z.symm⟩
 rwa [Ab,Ab]at this
open Classical in
def k7(rs:List aE)(w:Bool)(t:Aw):Bool:=decide (jQ rs w t)
theorem rC{w:Bool}:k7 rs w t=true↔jQ rs w t:=by unfold k7;exact @decide_eq_true_iff _ (Classical.propDecidable _)
section
variable {ws:List W}{g:eJ}{tb:aD}{D:D3}{τ:S3}{M:Mm}
theorem dB(r:Nat->S3->Mm->Prop)(Y:r 0 τ M)(F:∀i w τ M,ws[i]? = some w->r i τ M->g w τ M λf v=>tb {D with nx:=λT V=>∃u,Sub u V/\r (i+1) T u,ct:=λT V=>∃u,Sub u V/\r (i+1) T u,bk:=D.nx} f v)(hd:∀τ M,r ws.length τ M->D.nx τ M):mF ws (λ_=>True) g tb D τ M:=yG r Y (λ_ _ _ _ _=>trivial) F hd
theorem uQ(r:Nat->S3->Mm->Prop)(Y:r 0 τ M)(F:∀i w τ M,ws[i]? = some w->r i τ M->∀n:D3,(∀τ M,r (i+1) τ M->n.nx τ M)->g w τ M λf v=>tb n f v)(hd:∀τ M,r ws.length τ M->D.nx τ M):mF ws (λ_=>True) g tb D τ M:=dB r Y (λi w τ M e p=>F i w τ M e p _ λ_ M z=>⟨M,aP,z⟩) hd
theorem zay(r:Nat->S3->Mm->Prop)(Y:∃m,r m τ M)(F:∀m τ M,r m τ M->∀n:D3,(∀a τ M,a<m->r a τ M->n.nx τ M)->c τ M λb I=>if b=true then tb n τ I else D.nx τ I):mE c tb D τ M:=⟨r,Y,λm τ M p=>F m τ M p _ λa _ M l z=>⟨a,M,l,aP,z⟩⟩
end
def b5(f:Aw)(w:W):List (Aw×W)->List (Aw×W)
 | []=>[(f,w)]
 | (k,x)::r=>if k=f then(k,w)::r else(k,x)::b5 f w r
section
variable {K:Ac}{H:Hp}{M:Mm}
theorem bK.look:∀{i:List (Aw×V)} {fs:List (Aw×W)},bK K H M Aw i fs->fs.lookup f=some w->∃v,i.lookup f=some v/\AV K H M v w
 | _,_,.nil,h=>by cases h
 | _,_,.cons (a:=(k,v)) (b:=(o,P)) r t,h=>by
  obtain⟨rfl,av⟩:=r
  by_cases hk:(f==k)=true
  .simp only[Ce,hk]at h⊢;cases h;exact⟨v,rfl,av⟩
  .have B:(f==k)=false:=by simpa using hk
   simp only[Ce,B]at h⊢;exact bK.look t h
theorem bK.lookN:∀{i:List (Aw×V)} {fs:List (Aw×W)},bK K H M Aw i fs->fs.lookup f=none->i.lookup f=none
 | _,_,.nil,_=>rfl
 | _,_,.cons (a:=(k,v)) (b:=(o,P)) r t,h=>by
  obtain⟨rfl,av⟩:=r
  by_cases hk:(f==k)=true
  .simp only[Ce,hk]at h;cases h
  .have B:(f==k)=false:=by simpa using hk
   simp only[Ce,B]at h⊢;exact bK.lookN t h
theorem bK.putF{f:Aw}{v:V}{w:W}(av:AV K H M v w):∀{i:List (Aw×V)} {fs:List (Aw×W)},bK K H M Aw i fs->bK K H M Aw (L2.putF f v i) (b5 f w fs)
 | _,_,.nil=>.cons ⟨rfl,av⟩ .nil
 | _,_,.cons (a:=(k,C)) (b:=(o,P)) r t=>by
  obtain⟨rfl,G⟩:=r;show bK K H M Aw (if k=f then(k,v)::_ else(k,C)::L2.putF f v _) (if k=f then(k,w)::_ else(k,P)::b5 f w _)
  by_cases hk:k=f
  .rw[Uw hk,Uw hk];exact .cons ⟨rfl,av⟩ t
  .rw[Uv hk,Uv hk];exact .cons ⟨rfl,G⟩ (bK.putF av t)
theorem bK.len{c:Type}{i:List (c×V)}{fs:List (c×W)}(h:bK K H M c i fs):i.length=fs.length:=by
 have:=congrArg Ia h.keys;simpa using this
end
section
variable {X:Cx}{C:Aj}{f m:Aw}{pos apos cpos:Gy}{ta tv:aR}{o e value:Cb}{es:List Cb}{t:cN}{sp:a8}
abbrev cQ(C:Aj)(ta:aR)(f:Aw):aR:=λτ M R=>ta τ M λx I=>∃a dx fs w,x=.ref a/\I a=some (.ins C dx fs)/\fs.lookup f=some w/\R w I
theorem zaz(c:gH X.K C)(n:eZ X.K C f)(L:E3 X o ta)(Y:Fx o f X.env (El o X.env)=El o X.env:=by rfl):E3 X (.Attribute o f pos) (cQ C ta f):=
 (R9 L Y).weak λZ H Q s=>s.el λτ M R A U h k=>⟨τ,M,_,A,U,h,λx G F I k1 P N ⟨a,dx,fs,w,T,J,t,r⟩=>by
  subst T;obtain rfl:=N.inv;obtain⟨i,g,q⟩:=P a _ J;obtain⟨v,B,av⟩:=q.look t;exact⟨a,C,dx,i,v,rfl,g,c,n,B,k _ _ _ _ k1 P av r⟩⟩
abbrev i4(C:Aj)(ta:aR)(f:Aw)(tv:aR):aD:=λD τ M=>tv τ M λy I=>ta τ I λx v=>∃a dx fs,x=.ref a/\v a=some (.ins C dx fs)/\fs.length<1000/\D.nx τ (put v a (.ins C dx (b5 f y fs)))
theorem zaA(c:gH X.K C)(n:eZ X.K C f)(l:E3 X o ta)(m:E3 X value tv)(F:Ig value (some (.Attribute o f apos)) pos.line X.env=pure false:=by rfl):P3 X (.Assign [.Attribute o f apos] value pos) (i4 C ta f tv):=
 (SA l m F).weak λD Z H s=>s.el λτ M Q A U h k=>⟨τ,M,_,A,U,h,λy G S I k1 P t O=>⟨τ,I,_,A.kp U k1,P,O,λx z Y v k2 E N ⟨a,dx,fs,T,J,hl,r⟩=>by
  subst T;obtain rfl:=N.inv;obtain⟨i,g,q⟩:=E a _ J;refine⟨a,C,dx,i,rfl,g,c,n,by rw[q.len];exact hl,?_⟩;obtain⟨j,k3⟩:=E.write (o:=.ins C dx (b5 f S fs)) (u:=.ins C dx (L2.putF f y i)) J ⟨_,b8,((q.putF (t.kp P k2))).go (nJ E J)⟩;exact k.nx _ _ _ _ ((k1.trans k2).trans k3) j (((A.kp U k1).kp P k2).kp E k3) r⟩⟩
variable {k:Nat}{g:Aj}{fd:Dz}{ps:List Aw}
abbrev dU(C:Aj)(m:Aw)(sp:a8)(ta:aR)(t:cN):aR:=λτ M R=>ta τ M λx I=>∃a dx fs,x=.ref a/\I a=some (.ins C dx fs)/\fs.lookup m=none/\t τ I λws v=>sp (.ref a::ws) v R
theorem zaB(h:up X.K (dU C m sp ta t) Z H Q):wO C m (eW X.K sp) [] E0 (up X.K ta) (nK X.K t) Z H Q:=by
 obtain⟨τ,M,R,A,U,h,k⟩:=h;refine⟨τ,M,_,A,U,h,λx G F I k1 P N ⟨a,dx,fs,T,J,l,O⟩=>?_⟩;subst T;obtain rfl:=N.inv;obtain⟨i,g,q⟩:=P a _ J;refine⟨a,dx,i,rfl,g,q.lookN l,τ,I,_,A.kp U k1,P,O,λvs z ws v k2 E y Y=>⟨.ref a::ws,v,R,E,?_,Y,k.kp (k1.trans k2)⟩⟩;rw[Dc];exact .cons (.ref a) y
theorem nY(c:gH X.K C)(J:oN X.K C m g)(F:X.f eS k g fd ps (eW X.K sp))(T:cC k X.A)(Y:Binds X.K fd ps [])(P:E3 X o ta)(l:A3 X (e::es) t)(j:Se X e es:=by rfl)(b:Sb X pos es:=by rfl)(ht:El (.Call (.Attribute o m apos) (e::es) [] pos) X.env=(do
   let y <-El o X.env
   Pu apos.atName
   let (f,first) <-Jf [y] (Pw y m pl)
   Ub pos f first (Me pos (Cj (e::es) X.env)) (Og pos (Kv [] X.env))):=by rfl):
  E3 X (.Call (.Attribute o m apos) (e::es) [] pos) (dU C m sp ta t):=(SN (pl:=pl) P c J F T Y .nil oP l j b ht).weak λ_ _ _ h=>zaB h
theorem rD(c:gH X.K C)(J:oN X.K C m g)(F:X.f eS k g fd ps (eW X.K sp))(d:cC k X.A)(Y:Binds X.K fd ps [])(L:E3 X o ta)(ht:El (.Call (.Attribute o m apos) [] [] pos) X.env=(do
   let y <-El o X.env
   Pu apos.atName
   let (f,first) <-Jf [y] (Pw y m pl)
   Ub pos f first (Me pos (Cj [] X.env)) (Og pos (Kv [] X.env))):=by rfl):
  E3 X (.Call (.Attribute o m apos) [] [] pos) (dU C m sp ta aC):=(SO (pl:=pl) L c J F d Y .nil oP ht).weak λZ H Q h=>by
 obtain⟨τ,M,R,B,U,h,k⟩:=h;refine⟨τ,M,_,B,U,h,λx G D I k1 P N ⟨a,dx,fs,T,W,t,O⟩=>?_⟩;subst T;obtain rfl:=N.inv;obtain⟨i,V,q⟩:=P a _ W;exact⟨a,dx,i,rfl,V,q.lookN t,[.ref a],I,R,P,.cons (.ref a) .nil,O,k.kp k1⟩
abbrev k9(C:Aj)(sp:a8)(t:cN):aR:=λτ M R=>t τ M λws I=>∀a dx,I a=none->I dx=none->dx≠a->sp (.ref a::ws) (put I a (.ins C dx [])) λw v=>w=.non/\R (.ref a) v
theorem AM.made{K:Ac}{H:Hp}{M:Mm}{x dx:Aj}(U:AM K H M)(S:H x=none)(hd:H dx=none)(ne:dx≠x):AM K (aN (aN H dx (.own x)) x (.ins C dx [])) (put M x (.ins C dx []))/\Kp H M (aN (aN H dx (.own x)) x (.ins C dx [])) (put M x (.ins C dx [])):=by
 obtain⟨P,k1⟩:=U.tup (u:=.own x) hd;have p:aN H dx (.own x) x=none:=by rw[bB (Bq ne)];exact S
 obtain⟨E,k2⟩:=P.laid (o:=.ins C dx []) (u:=.ins C dx []) p ⟨[],b8,.nil⟩;exact⟨E,k1.trans k2⟩
theorem IK(U:AM X.K H M)(y:aJ X.K H M vs ws)(h:∀a dx,M a=none->M dx=none->dx≠a->sp (.ref a::ws) (put M a (.ins C dx [])) λw s=>w=.non/\R (.ref a) s)(k:Up X.K H M R Q):
  ∀x dx,H x=none->H dx=none->dx≠x->eW X.K sp (.ref x::(vs++[])) (aN (aN H dx (.own x)) x (.ins C dx [])) (λv z=>v=.non/\Q (.ref x) z) E0:=by
 intro x dx S hd ne;obtain⟨P,k1⟩:=U.made (C:=C) S hd ne;refine⟨.ref x::ws,_,_,P,?_,h x dx (U.nonM S) (U.nonM hd) ne,λv z w s k2 E av r=>?_⟩
 .rw[Dc];exact .cons (.ref x) (y.kp U k1)
 .obtain⟨rfl,r⟩:=r;obtain rfl:=av.inv;exact⟨rfl,k _ _ _ _ (k1.trans k2) E (.ref x) r⟩
theorem zaC(M:Mk X.K C g)(F:X.f eS k g fd ps (eW X.K sp))(T:cC (k+1) X.A)(W:Gl X x)(J:X.mg x=some (.ref C))(Y:Binds X.K fd ps [])(l:A3 X (e::es) t)(o:Db x:=by decide)(L:Se X e es:=by rfl)(b:Sb X pos es:=by rfl):
  E3 X (.Call (.Name x p) (e::es) [] pos) (k9 C sp t):=(SQ M F T W J Y .nil oP l o L b).weak λZ H Q s=>s.el λτ M R d U h k=>⟨τ,M,_,d,U,h,λvs G ws I k1 P y O=>IK P y O (k.kp k1)⟩
theorem zJ(M:Mk X.K C g)(F:X.f eS k g fd ps (eW X.K sp))(T:cC (k+1) X.A)(W:Gl X x)(J:X.mg x=some (.ref C))(Y:Binds X.K fd ps [])(o:Db x:=by decide):E3 X (.Call (.Name x p) [] [] pos) (k9 C sp aC):=(SU M F T W J Y .nil oP o).weak λZ H Q s=>s.el λτ M R d U h k=>IK U .nil h k
end
section
variable {prog:Ar}{w:Bk}{K:Type}[DecidableEq K]{knd:HeapKind prog w K}{A:Cn}{E:Ae->Ah->Prop}{s:Ah}{d a:Aj}{k:K}{xs:List (K×Aj×Ae)}
theorem IL{Q:Ae->Ah->Prop}(T:knd.room A)(f:knd.is s.heap k a)(J:s.heap.DictOfH knd d xs)(hsz:xs.length<=Ao)(O:∀p,Li xs k=some p->Q p.2 {s with toks:=s.toks+knd.draws k})(Z:Li xs k=none->∀h',h'.DictOfH knd d (Mq xs k a y)->Eh d s.heap h'->Q y {s with heap:=h',toks:=s.toks+knd.draws k}):
  Bl (Cq prog w) A (dictSetDefault d (.ref a) y) Q E s:=by
 obtain⟨o,es,ep,D,hc,hd,P,i,U⟩:=J;unfold dictSetDefault;refine Dh (Aa (knd.pyHash T f (Aa (wpAny_dictFind_heap (s:={s with toks:=s.toks+knd.draws k}) T f D hd P i U (λg=>?_) λj p Y=>?_))))
 .have hk:=atKey_none_of_get g;have b:k∉xs.map (·.1):=not_mem_keys_of_get g;refine Aa (Ga (Aa (wpAny_updateDictKeys (hz:=by have e:=Kk P;lia) (s:={s with toks:=s.toks+knd.draws k}) D hd (Af (Z hk _ ⟨_,_,ep+1,Hi _ D (Obj.isFreed_of_dict (Lh hd _)),
   hc.mapDictKeys _,Lh hd _,?_,λx S=>?_,?_⟩ (Fm ..))))))
  .rw[Ro hk];simp[P,Qr]
  .rw[Ro hk]at S;rcases Ba.mp S with q|q
   .exact knd.keeps (i x q) D hd (Fm ..)
   .obtain rfl:=Am.mp q;exact knd.keeps f D hd (Fm ..)
  .rw[Ro hk,Az,Ek];refine⟨U,by simp,λx S y K=>?_⟩;simp only[Be,Kq,Am]at K;subst K;exact λe=>b (e▸S)
 .refine Aa (Hx (s:={s with toks:=s.toks+knd.draws k}) D hd ?_);rw[Sl P j,Y];exact Aa (Ga (Af (O p (atKey_of_get U Y))))
theorem IM:∀{xs:List (K×Aj×Ae)} {j:Nat} {p:Aj×Ae},(xs.map (·.1)).Nodup->xs[j]? = some (k,p)->xs.eraseIdx j=xs.filter λx=>decide (x.1≠k)
 | [],j,p,_,h=>by simp at h
 | x::r,0,p,U,h=>by
  have e:x=(k,p):=by simpa using h
  subst e;rw[Be,Dl]at U;rw[List.eraseIdx_zero,List.tail_cons,List.filter_cons_of_neg (by simp)];refine(List.filter_eq_self.mpr λy H=>?_).symm;rw[decide_eq_true_eq];exact λe=>U.1 (Bc.mpr ⟨y,H,e⟩)
 | x::r,j+1,p,U,h=>by
  rw[Be,Dl]at U;have D:r[j]? = some (k,p):=by simpa using h
  have S:x.1≠k:=λe=>U.1 (Bc.mpr ⟨(k,p),Ay D,e.symm⟩);rw[List.eraseIdx_cons_succ,IM U.2 D,List.filter_cons_of_pos (by simpa using S)]
theorem zaD{v:Ae}{b:Aj}{Q:Option Ec->Ah->Prop}(T:knd.room A)(f:knd.is s.heap k a)(J:s.heap.DictOfH knd d xs)(hsz:xs.length<=Ao)(c:Li xs k=some (b,v))(h:∀h',h'.DictOfH knd d (xs.filter λx=>decide (x.1≠k))->Eh d s.heap h'->Q (some ⟨knd.hash k,.ref b,v⟩) {s with heap:=h',toks:=s.toks+knd.draws k}):
  Bl (Cq prog w) A (Builtin.Dict.takeOut d (.ref a)) Q E s:=by
 obtain⟨o,es,ep,D,hc,hd,P,i,U⟩:=J;unfold Builtin.Dict.takeOut;refine Dh (Aa (knd.pyHash T f (Aa (wpAny_dictFind_heap (s:={s with toks:=s.toks+knd.draws k}) T f D hd P i U (λg=>?_) λj p Y=>?_))))
 .rw[atKey_none_of_get g]at c;cases c
 .rw[atKey_of_get U Y]at c;cases c;have m:=IM U Y;refine Aa (Hx (s:={s with toks:=s.toks+knd.draws k}) D hd ?_);rw[Sl P j,Y];refine Aa (wpAny_updateDictKeys (hz:=by have e:=Kk P;lia) (s:={s with toks:=s.toks+knd.draws k}) D hd (Af (h _ ⟨_,_,ep+1,Hi _ D (Obj.isFreed_of_dict (Lh hd _)),
   hc.mapDictKeys _,Lh hd _,?_,λx S=>knd.keeps (i x (Ep.mp S).1) D hd (Fm ..),?_⟩ (Fm ..))))
  .rw[<-m];have G:(xs.eraseIdx j).map (Qr knd)=(xs.map (Qr knd)).eraseIdx j:=by simp[List.eraseIdx_eq_take_drop_succ,List.map_take,Rr]
   rw[G,<-P];obtain⟨l⟩:=es;simp
  .exact U.sublist (List.filter_sublist.map _)
end
section
variable {X:Cx}{pins:Pn}{Z:St}{H:Hp}{s:Ah}{a b:Aj}{v:V}{r:Ae}{A:Cn}{E:Ae->Ah->Prop}{kvs:List (List aB×V)}{k:List aB}
theorem KT.drop(n:KT H kvs xs)(k:List aB):KT H (m8 kvs k) (xs.filter λx=>decide (x.1≠k)):=by
 induction n with
 | nil=>exact .nil
 | @cons p q ps qs h t E=>
  unfold m8 at E⊢;rw[Fn,Fn,<-h.1];split
  .exact .cons h E
  .exact E
theorem zaE{Q:Ae->Ah->Prop}(J:A.units+1<Ex)(I:Inv X pins Z H s)(e:H a=some (.dT kvs))(t:H b=some (.tup (k.map kV)))(T:RelV v r)(hl:kvs.length<Ao)(O:∀D P W,fR kvs k=some D->Inv X pins Z H W->RelV D P->Q P W)(F:fR kvs k=none->∀W,Inv X pins Z (aN H a (.dT (dY kvs k v))) W->Q r W):
  Bl X.m A (call (.builtin "dict.setdefault") [.ref a,.ref b,r]) Q E s:=by
 obtain⟨z,hd,xs,n,dd⟩:=qE I.hok e;have hz:xs.length<=Ao:=by rw[<-Cu n];exact z
 have g:=n.val k;refine Ir Lb dd.typeIs PySem.F.entry_dict_setdefault (PySem.F.args_dict_setdefault_3 _ _ _)
  (S:=λA R M=>(Gw (bQ X.prog X.w)).room A.in1/\(Gw (bQ X.prog X.w)).is M.heap k b/\M.heap.DictOfH (Gw (bQ X.prog X.w)) a xs/\
   (∀p,Li xs k=some p->R (.ok (.ret p.2)) {M with toks:=M.toks+(k.length+1)})/\
   (Li xs k=none->∀h',h'.DictOfH (Gw (bQ X.prog X.w)) a (Mq xs k b r)->Eh a M.heap h'->R (.ok (.ret r)) {M with heap:=h',toks:=M.toks+(k.length+1)}))
  (.of_wp λA R M ⟨d,f,j,y,o⟩=>?_) ⟨Fb J,iK I.hok t,dd,λp B=>?_,λU h' G l=>?_⟩
 .unfold Gg.«dict.setdefault»;refine Aa ?_;unfold Kx;refine Aa (Gh j.typeIs ?_);refine Af ?_;dsimp only;rw[Uv (by rw[hd];exact Av)];exact Aa (IL d f j hz (λp B=>Af ⟨_,rfl,y p B⟩) λU h' h K=>Af ⟨_,rfl,o U h' h K⟩)
 .rw[B]at g;cases q:fR kvs k with
  | none=>rw[q]at g;exact Bn g
  | some D=>rw[q]at g;exact O D _ _ q (I.tok _) g
 .rw[U]at g;have q:fR kvs k=none:=by
   cases q:fR kvs k with
   | none=>rfl
   | some D=>rw[q]at g;exact Bn g
  have u:(dY kvs k v).length<=Ao:=by have:=oO kvs k v;lia
  obtain⟨f,es,ep,N,i,C,L,_,V⟩:=G;refine F q _ (nB (t':=s.toks+(k.length+1)) I (by rw[e];exact True.intro) l ⟨f,N⟩ ⟨u,hd,_,(n.put k t T).keeps λc Y x=>?_,f,es,ep,N,i,C,L,V⟩);rw[bB (sD x e (λz=>nomatch z))];exact x
theorem zaF{Q:Ae->Ah->Prop}(J:A.units+1<Ex)(I:Inv X pins Z H s)(e:H a=some (.dT kvs))(t:H b=some (.tup (k.map kV)))(l:fR kvs k=some v)(h:∀F W,Inv X pins Z (aN H a (.dT (m8 kvs k))) W->RelV v F->Q F W):Bl X.m A (call (.builtin "dict.pop") [.ref a,.ref b]) Q E s:=by
 obtain⟨z,hd,xs,n,dd⟩:=qE I.hok e;have hz:xs.length<=Ao:=by rw[<-Cu n];exact z
 obtain⟨F,hw,V⟩:=fH.some_of (v:=v) (o:=(Li xs k).map (·.2)) (by rw[<-l];exact n.val k);obtain⟨⟨c,w2⟩,hc,rfl⟩:=Ax.mp hw;refine Ir PySem.F.slot_dict_pop dd.typeIs PySem.F.entry_dict_pop (PySem.F.args_dict_pop_2 _ _)
  (S:=λA R M=>(Gw (bQ X.prog X.w)).room A.in1/\(Gw (bQ X.prog X.w)).is M.heap k b/\M.heap.DictOfH (Gw (bQ X.prog X.w)) a xs/\
   ∀h',h'.DictOfH (Gw (bQ X.prog X.w)) a (xs.filter λx=>decide (x.1≠k))->Eh a M.heap h'->R (.ok (.ret w2)) {M with heap:=h',toks:=M.toks+(k.length+1)})
  (.of_wp λA R M ⟨d,f,p,T⟩=>?_) ⟨Fb J,iK I.hok t,dd,λh' j P=>?_⟩
 .unfold Gg.«dict.pop»;refine Aa ?_;unfold Kx;refine Aa (Gh p.typeIs ?_);refine Af ?_;dsimp only;rw[Uv (show ¬((keyPart (Value.ref b)).isSome=true) from Av)];obtain⟨o,es,ep,D,hc',g,L,u,U⟩:=id p;have G:es.isEmpty=false:=by
   have O:=Kk L;cases xs with
   | nil=>cases hc
   | cons x r=>rw[Array.isEmpty_eq_false_iff];intro z;rw[z]at O;simp at O
  refine Aa (Hx D g ?_);refine Aa (Af ?_);rw[G,Uv Av];refine Aa (zaD d f p hz hc λh' q K=>?_);rw[Uv (by simp)];exact Aa (Rn (Af ⟨_,rfl,T h' q K⟩))
 .obtain⟨f,es,ep,N,Y,C,i,_,g5⟩:=j;refine h w2 _ (nB (t':=s.toks+(k.length+1)) I (by rw[e];exact True.intro) P ⟨f,N⟩ ⟨Bf (US kvs k) z,hd,_,(n.drop k).keeps λc B y=>?_,f,es,ep,N,Y,C,i,g5⟩) V;rw[bB (sD y e (λz=>nomatch z))];exact y
end
section
variable {X:Cx}
def uR:W->List W->Mm->K3->Prop
 | d,[y],M,R=>∃o,eU M d y o/\R (o.getD .non) M
 | d,[y,v],M,R=>∃o,eU M d y o/\R (o.getD v) M
 | _,_,_,_=>False
theorem zaG(J:X.A.units+1<Ex):e9 X "dict.get" (jI X.K uR):=by
 rintro pins s Z H x xs v us Q I d rs ⟨F,ws,M,R,U,N,S,h,k⟩
 match ws,h with
 | [y],h=>
  obtain⟨z,rfl,G⟩:=S.one;obtain⟨o,g,r⟩:=h;obtain⟨a,rfl,Y⟩:=tS U N G g;cases d;obtain⟨u,rfl,ru⟩:=rs.one;rcases Y with⟨rfl,C⟩|⟨D,E,rfl,C,av⟩
  .exact DT J I C ru λP W n V=>⟨_,H,n,V,k.at U .non r⟩
  .exact DT J I C ru λP W n V=>⟨_,H,n,V,k.at U av r⟩
 | [y,j],h=>
  obtain⟨z,l,rfl,G,L⟩:=S.two;obtain⟨o,g,r⟩:=h;obtain⟨a,rfl,Y⟩:=tS U N G g;cases d;obtain⟨u,c,rfl,ru,w⟩:=vals2 rs;rcases Y with⟨rfl,C⟩|⟨D,E,rfl,C,av⟩
  .exact DU J I C ru w λP W n V=>⟨_,H,n,V,k.at U L r⟩
  .exact DU J I C ru w λP W n V=>⟨_,H,n,V,k.at U av r⟩
def rE:W->List W->Mm->K3->Prop
 | .ref a,[.tup ks,v],M,R=>∃kvs k,M a=some (.dT kvs)/\ks=k.map wK/\kvs.length<Ao/\(∀w,aT kvs k=some w->R w M)/\(aT kvs k=none->R v (put M a (.dT (bZ kvs k v))))
 | _,_,_,_=>False
theorem zaH(J:X.A.units+1<Ex):e9 X "dict.setdefault" (jI X.K rE):=by
 rintro pins s Z H x xs v us Q I d rs ⟨F,ws,M,R,U,N,S,h,k⟩
 match F,ws,h with
 | .ref a,[.tup ks,E],h=>
  obtain⟨z,l,rfl,p,L⟩:=S.two;obtain⟨kvs,c,e,rfl,hl,O,K⟩:=h;obtain rfl:=N.inv;cases d;obtain⟨u,r,rfl,ru,w⟩:=vals2 rs;obtain⟨i,T,q⟩:=U _ _ e;cases p with
  | @tup b vs _ t g=>
   cases (show u=Value.ref b from ru);rw[g.keys]at t;have Y:=tR q c;refine zaE J I T t w (by rw[q.len];exact hl) (λD P W G n V=>?_) λG W n=>?_
   .rcases Y with⟨_,m⟩|⟨y,B,f,m,av⟩
    .rw[m]at G;cases G
    .rw[m]at G;cases G;exact⟨_,H,n,V,k.at U av (O B f)⟩
   .rcases Y with⟨f,m⟩|⟨y,B,f,m,av⟩
    .obtain⟨j,k3⟩:=U.write (o:=.dT (bZ kvs c E)) (u:=.dT (dY i c l)) e ⟨_,b8,(qP q c L).go (nJ U e)⟩;exact⟨_,_,n,w,k _ _ _ _ k3 j (L.wr U e) (K f)⟩
    .rw[m]at G;cases G
def i5{c:Type}[DecidableEq c](kvs:List (c×W))(k:c):List (c×W):=kvs.filter λg=>decide (g.1≠k)
theorem zaI{c:Type}[DecidableEq c]{K:Ac}{H:Hp}{M:Mm}{i:List (c×V)}{kvs:List (c×W)}(h:bK K H M c i kvs)(k:c):bK K H M c (m8 i k) (i5 kvs k):=by
 induction h with
 | nil=>exact .nil
 | @cons p q ps qs r t E=>
  unfold m8 i5 at E⊢;rw[Fn,Fn,<-r.1];split
  .exact .cons r E
  .exact E
def IP:W->List W->Mm->K3->Prop
 | .ref a,[.tup ks],M,R=>∃kvs k w,M a=some (.dT kvs)/\ks=k.map wK/\aT kvs k=some w/\R w (put M a (.dT (i5 kvs k)))
 | _,_,_,_=>False
theorem zaJ(J:X.A.units+1<Ex):e9 X "dict.pop" (jI X.K IP):=by
 rintro pins s Z H x xs v us Q I d rs ⟨F,ws,M,R,U,N,S,h,k⟩
 match F,ws,h with
 | .ref a,[.tup ks],h=>
  obtain⟨z,rfl,G⟩:=S.one;obtain⟨kvs,c,w,e,rfl,l,r⟩:=h;obtain rfl:=N.inv;cases d;obtain⟨u,rfl,ru⟩:=rs.one;obtain⟨i,T,q⟩:=U _ _ e;cases G with
  | @tup b vs _ t g=>
   cases (show u=Value.ref b from ru);rw[g.keys]at t;rcases tR q c with⟨f,m⟩|⟨y,B,f,m,av⟩
   .rw[f]at l;cases l
   .rw[f]at l;cases l;obtain⟨j,k3⟩:=U.write (o:=.dT (i5 kvs c)) (u:=.dT (m8 i c)) e ⟨_,b8,(zaI q c).go (nJ U e)⟩;exact zaF J I T t m λP W n V=>⟨_,_,n,V,k _ _ _ _ k3 j (av.wr U e) r⟩
end
section
variable {X:Cx}{pins:Pn}{Z:St}{H:Hp}{s:Ah}{a b:Aj}{v:V}{r:Ae}{A:Cn}{E:Ae->Ah->Prop}{es:List (bM×Aj×V)}{tl:List Int}{x:bM}
theorem zaK{o e:Cb}{args:List Cb}{S:TE}{t:TA}{name:Aw}{apos cpos:Gy}{T id:String}{m:V->List V->Hp->VK->Prop}{tq:V->Hp->Prop}(Y:Pa T)(slot:Slot T name id)(u:Ox (.builtin id)=pure (.type "method_descriptor"))(J:e9 X id m)(D:PE X o S)(l:PA X (e::args) t)(tp:∀pins Z H s x v,Inv X pins Z H s->RelV x v->tq x H->s.TypeIs v T/\∀a,v=.ref a->∃ob,s.heap.get? a=some ob/\ob.dict=none)(n:Fx o name X.env (El o X.env)=El o X.env)(d:((Me cpos (Cj (e::args) X.env)).all (λx=>!x.1)&&(Og cpos (Kv [] X.env)).all (λx=>x.1.isSome)&&decide ((e::args).length+([]:List Pz).length+(if ([]:List Pz).isEmpty then 0 else 1)<30))=true)(y:(apos.endLine==cpos.line)=true)(F:Se X e args)(b:Sb X cpos args):
  PE X (.Call (.Attribute o name apos) (e::args) [] cpos) (λZ H Q=>S Z H λx G=>tq x G/\t Z G λxs z=>m x xs z Q):=by
 intro pins s Z H Q I h;refine wpAny_Call_method_late n d y rfl (aY (D pins s Z H _ I h) λv M ⟨x,G,L,B,ty,f⟩=>?_);obtain⟨O,W⟩:=tp _ _ _ _ _ _ L B ty;refine⟨T,id,Y,slot,u,O,W,?_⟩;have q:=l cpos pins M Z G _ L f;rw[F]at q⊢;refine Kj (by show(false||(Me cpos (Cj args X.env)).any (·.1))=false;rw[b]<;>rfl) (Om ?_);exact aY q λus g ⟨vs,z,i,R,p⟩=>J pins g Z z x vs v us Q i B R p
theorem zaL{o:Cb}{S:TE}{name:Aw}{apos cpos:Gy}{T id:String}{m:V->List V->Hp->VK->Prop}{tq:V->Hp->Prop}(Y:Pa T)(slot:Slot T name id)(u:Ox (.builtin id)=pure (.type "method_descriptor"))(J:e9 X id m)(D:PE X o S)(tp:∀pins Z H s x v,Inv X pins Z H s->RelV x v->tq x H->s.TypeIs v T/\∀a,v=.ref a->∃ob,s.heap.get? a=some ob/\ob.dict=none)(n:Fx o name X.env (El o X.env)=El o X.env)(y:(apos.endLine==cpos.line)=true):PE X (.Call (.Attribute o name apos) [] [] cpos) (λZ H Q=>S Z H λx G=>tq x G/\m x [] G Q):=by
 intro pins s Z H Q I h;refine wpAny_Call_method0_late n y (aY (D pins s Z H _ I h) λv M ⟨x,G,L,B,ty,f⟩=>?_);obtain⟨O,W⟩:=tp _ _ _ _ _ _ L B ty;exact⟨T,id,Y,slot,u,O,W,Kj rfl (PySem.evalArgs_none (J pins M Z G x [] v [] Q L B .nil f))⟩
theorem zK{y i:Type}{F:y->i->Prop}:∀{a c:List y} {b d:List i},Ff F a b->Ff F c d->Ff F (a++c) (b++d)
 | _,_,_,_,.nil,h=>h
 | _,_,_,_,.cons r t,h=>.cons r (zK t h)
theorem pM(I:Inv X pins Z H s)(e:H a=some (.ext (dC X.prog X.w tl a es))):dC X.prog X.w tl a es s.heap:=(show b9 X.prog X.w H s.heap a (.ext (dC X.prog X.w tl a es)) from I.hok a _ e).1
theorem NX.val(q:NX es xs)(x:bM):(Li xs x=none/\∀e∈es,e.1≠x)\/∃b v u,Li xs x=some (b,u)/\(x,b,v)∈es/\RelV v u:=by
 induction q with
 | nil=>exact .inl ⟨rfl,λe P=>nomatch P⟩
 | @cons p z ps d h t E=>
  obtain⟨N,B,K⟩:=p;obtain⟨V,R,z3⟩:=z;obtain⟨rfl,rfl,f⟩:=h;unfold Li at E⊢;rw[Dn]
  by_cases S:N=x
  .subst S;rw[Uy rfl];exact .inr ⟨B,K,z3,rfl,Bi,f⟩
  .rw[Uz S];rcases E with⟨a,i⟩|⟨b,v,u,a,i,c⟩
   .refine .inl ⟨a,λe P=>?_⟩;rcases Bd.mp P with rfl|P
    .exact S
    .exact i e P
   .exact .inr ⟨b,v,u,a,Bb _ i,c⟩
theorem zaM{Q:Ae->Ah->Prop}(J:A.units+2<Ex)(I:Inv X pins Z H s)(e:H a=some (.ext (dC X.prog X.w tl a es)))(ks:∀z∈es,gX H tl z.1 z.2.1)(d:gX H tl x b)(T:RelV v r)(hl:es.length<Ao)(O:∀c v0 w' W,(x,c,v0)∈es->Inv X pins Z H W->RelV v0 w'->Q w' W)(F:(∀z∈es,z.1≠x)->∀W,Inv X pins Z (aN H a (.ext (dC X.prog X.w tl a (es++[(x,b,v)])))) W->Q r W):
  Bl X.m A (call (.builtin "dict.setdefault") [.ref a,.ref b,r]) Q E s:=by
 obtain⟨o,C,ep,xs,D,hc,hd,P,nx,U,hz,hsys⟩:=pM I e;have isAll:∀z∈xs,(iX X.prog X.w tl).is s.heap z.1 z.2.1:=by
  have:∀{es:List (bM×Aj×V)} {xs:List (bM×Aj×Ae)},NX es xs->(∀z∈es,gX H tl z.1 z.2.1)->∀z∈xs,(iX X.prog X.w tl).is s.heap z.1 z.2.1:=by
   intro es xs q
   induction q with
   | nil=>intro _ z hz;cases hz
   | @cons p z ps g h t G=>
    intro hk u J;rcases Bd.mp J with rfl|J
    .have:=(hk p Bi).is I.hok;rw[h.1,h.2.1]at this;exact this
    .exact G (λy K=>hk y (Bb _ K)) u J
  exact this nx ks
 have dd:s.heap.DictOfH (iX X.prog X.w tl) a xs:=⟨o,C,ep,D,hc,hd,P,isAll,U⟩;have j:xs.length=es.length:=(Cu nx).symm;refine Ir Lb dd.typeIs PySem.F.entry_dict_setdefault (PySem.F.args_dict_setdefault_3 _ _ _)
  (S:=λA R M=>(iX X.prog X.w tl).room A.in1/\(iX X.prog X.w tl).is M.heap x b/\M.heap.DictOfH (iX X.prog X.w tl) a xs/\
   (∀p,Li xs x=some p->R (.ok (.ret p.2)) {M with toks:=M.toks+(iX X.prog X.w tl).draws x})/\
   (Li xs x=none->∀h',h'.DictOfH (iX X.prog X.w tl) a (Mq xs x b r)->Eh a M.heap h'->R (.ok (.ret r)) {M with heap:=h',toks:=M.toks+(iX X.prog X.w tl).draws x}))
  (.of_wp λA R M ⟨n,f,i,q3,q4⟩=>?_) ⟨J,d.is I.hok,dd,λp B=>?_,λhno h' dd' l=>?_⟩
 .unfold Gg.«dict.setdefault»;refine Aa ?_;unfold Kx;refine Aa (Gh i.typeIs (Af ?_));dsimp only;rw[Uv (by rw[hsys];exact Av)];exact Aa (IL n f i hz (λp B=>Af ⟨_,rfl,q3 p B⟩) λU h' hm' k=>Af ⟨_,rfl,q4 U h' hm' k⟩)
 .rcases nx.val x with⟨i1,_⟩|⟨c,v0,u,i1,i2,i3⟩
  .rw[i1]at B;cases B
  .rw[i1]at B;cases B;exact O c v0 u _ i2 (I.tok _) i3
 .rcases nx.val x with⟨_,i2⟩|⟨c,v0,u,i1,_,_⟩
  .rw[Ro hno]at dd';obtain⟨f,es',ep',N,Y,L,g4,_,g5⟩:=dd';refine F i2 _ (nB (t':=s.toks+(iX X.prog X.w tl).draws x) I (by rw[e];exact True.intro) l ⟨f,N⟩ (dC.ok ⟨f,es',ep',_,N,Y,L,g4,zK nx (.cons ⟨rfl,rfl,T⟩ .nil),g5,?_,hsys⟩));rw[Ak,j];simp;lia
  .rw[i1]at hno;cases hno
end
def fD(tl:List Int)(x:bM):W:=.tup (wK x.1::.tup (x.2.map wK)::tl.map W.int)
section
variable {K:Ac}{H:Hp}{M:Mm}
theorem IQ(k:aB):AV K H M (kV k) (wK k):=by cases k<;>first|exact .int _|exact .str _
theorem uS:∀ks:List aB,aJ K H M (ks.map kV) (ks.map wK)
 | []=>.nil
 | k::r=>.cons (IQ k) (uS r)
theorem IS:∀tl:List Int,aJ K H M (tl.map V.int) (tl.map W.int)
 | []=>.nil
 | i::r=>.cons (.int i) (IS r)
theorem aJ.intsN:∀{tl:List Int} {vs:List V},aJ K H M vs (tl.map W.int)->vs=tl.map V.int
 | [],_,h=>by cases h;rfl
 | i::r,_,h=>by
  cases h with
  | cons a b=>cases a;rw[aJ.intsN b];rfl
theorem gX.av(n:gX H tl x b):AV K H M (.ref b) (fD tl x):=by
 obtain⟨Y,T,G⟩:=n;exact .tup T (.cons (IQ x.1) (.cons (.tup G (uS x.2)) (IS tl)))
theorem zaN{tl:List Int}{x:bM}{v:V}(h:AV K H M v (fD tl x)):∃b,v=.ref b/\gX H tl x b:=by
 unfold fD at h;cases h with
 | @tup b xs _ e q=>
  cases q with
  | @cons j a _ _ Q f=>
   cases f with
   | @cons y F _ _ U p=>
    have T:=Q.key;subst T;have t:=p.intsN;subst t;cases U with
    | @tup Y B _ g C=>
     rw[C.keys]at g;exact⟨b,rfl,Y,e,g⟩
end
section
variable {X:Cx}
abbrev IT(P:Ar)(w:Bk)(tl:List Int):aR:=λτ M R=>∀p,M p=none->R (.ref p) (put M p (.dn P w tl []))
theorem zaO:E3 X (.Dict [] [] pos) (IT X.prog X.w tl):=by
 rintro pins s Z H Q I ⟨τ,M,R,A,U,h,k⟩;have hf:=I.hok.fresh (Ai s.heap.objs.size);have Y:=I.big;obtain⟨E,k2⟩:=U.laid (o:=.dn X.prog X.w tl []) (u:=.ext (dC X.prog X.w tl s.heap.objs.size [])) hf ⟨[],b8,.nil⟩;refine Rg ⟨.ref s.heap.objs.size,_,I.laid (a:=s.heap.objs.size) (o:=.ext (dC X.prog X.w tl s.heap.objs.size [])) (t':=s.toks) (λ_ _ q=>Ag _ q) (Ai _) (dC.ok ⟨_,#[],0,[],Au _ rfl,⟨rfl,rfl,rfl⟩,rfl,rfl,.nil,Ey,Ea _,?_⟩),rfl,k _ _ _ _ k2 E (.ref _) (h _ (U.nonM hf))⟩;rw[beq_eq_false_iff_ne];exact Co Y
abbrev zaP(P:Ar)(w:Bk)(tl:List Int)(x:W)(M:Mm):Prop:=∃a kvs,x=.ref a/\M a=some (.dn P w tl kvs)
theorem IU{P:Ar}{w:Bk}{tl:List Int}{pins:Pn}{Z:SV}{H:Hp}{s:Ah}{v:V}{u:Ae}(I:Inv X pins Z H s)(r:RelV v u)(h:∃a es,v=.ref a/\H a=some (.ext (dC P w tl a es))):s.TypeIs u "dict"/\∀a,u=.ref a->∃ob,s.heap.get? a=some ob/\ob.dict=none:=by
 obtain⟨a,es,rfl,e⟩:=h;cases (show u=Value.ref a from r);obtain⟨o,m,ep,xs,D,hc,hd,_⟩:=(show b9 X.prog X.w H s.heap a (.ext (dC P w tl a es)) from I.hok a _ e).1;refine⟨⟨o,D,hc.1⟩,λb M=>?_⟩;cases M;exact⟨o,D,hc.2.1⟩
abbrev IV(P:Ar)(w:Bk)(tl:List Int)(S:aR)(tk tv:aR):aR:=λτ M R=>S τ M λd I=>zaP P w tl d I/\tk τ I λb s=>tv τ s λv t=>∃a kvs x,d=.ref a/\t a=some (.dn P w tl kvs)/\b=fD tl x/\kvs.length<Ao/\
 (∀E,aT kvs x=some E->R E t)/\(aT kvs x=none->R v (put t a (.dn P w tl (kvs++[(x,v)]))))
abbrev PN(K:Ac)(H:Hp)(M:Mm)(tl:List Int)(es:List (bM×Aj×V))(kvs:List (bM×W)):Prop:=Ff (λ(e:bM×Aj×V) (p:bM×W)=>e.1=p.1/\gX H tl e.1 e.2.1/\AV K H M e.2.2 p.2) es kvs
theorem PN.look{K:Ac}{H:Hp}{M:Mm}{tl:List Int}{es:List (bM×Aj×V)}{kvs:List (bM×W)}(q:PN K H M tl es kvs)(U:(es.map (·.1)).Nodup)(x:bM):(aT kvs x=none/\∀e∈es,e.1≠x)\/∃w,aT kvs x=some w/\∀c v,(x,c,v)∈es->AV K H M v w:=by
 induction q with
 | nil=>exact .inl ⟨rfl,λe P=>nomatch P⟩
 | @cons p z ps d h t E=>
  rw[Be,Dl]at U;obtain⟨N,B,O⟩:=p;obtain⟨X,R⟩:=z;obtain⟨rfl,_,f⟩:=h;unfold aT at E⊢;rw[Dn]
  by_cases S:N=x
  .subst S;rw[Uy rfl];refine .inr ⟨R,rfl,λc v J=>?_⟩;rcases Bd.mp J with e|J
   .cases e;exact f
   .exact absurd (Bc.mpr ⟨_,J,rfl⟩) U.1
  .rw[Uz S];rcases E U.2 with⟨a,i⟩|⟨w,a,i⟩
   .refine .inl ⟨a,λe P=>?_⟩;rcases Bd.mp P with rfl|P
    .exact S
    .exact i e P
   .refine .inr ⟨w,a,λc v J=>?_⟩;rcases Bd.mp J with e|J
    .cases e;exact absurd rfl S
    .exact i c v J
theorem zaQ(nx:NX es xs):es.map (·.1)=xs.map (·.1):=by
 induction nx with
 | nil=>rfl
 | cons h _ E=>rw[Be,Be,E,h.1]
theorem dC.nodup(x:dC P w tl a es h):(es.map (·.1)).Nodup:=by
 obtain⟨o,m,ep,xs,_,_,_,_,nx,U,_⟩:=x;rw[zaQ nx];exact U
theorem PN.keys{K:Ac}{H:Hp}{M:Mm}{tl:List Int}{es:List (bM×Aj×V)}{kvs:List (bM×W)}(q:PN K H M tl es kvs):aJ K H M (es.map λe=>V.ref e.2.1) (kvs.map λp=>fD tl p.1):=by
 induction q with
 | nil=>exact .nil
 | @cons p z ps d h _ E=>
  refine .cons ?_ E;show AV K H M (.ref p.2.1) (fD tl z.1);rw[<-h.1];exact gX.av h.2.1
theorem PN.vals{K:Ac}{H:Hp}{M:Mm}{tl:List Int}{es:List (bM×Aj×V)}{kvs:List (bM×W)}(q:PN K H M tl es kvs):aJ K H M (es.map λe=>e.2.2) (kvs.map λp=>p.2):=by
 induction q with
 | nil=>exact .nil
 | cons h _ E=>exact .cons h.2.2 E
theorem PN.ats{K:Ac}{H:Hp}{M:Mm}{tl:List Int}{es:List (bM×Aj×V)}{kvs:List (bM×W)}(q:PN K H M tl es kvs):∀z∈es,gX H tl z.1 z.2.1:=by
 induction q with
 | nil=>intro z hz;cases hz
 | cons h _ E=>
  intro z hz;rcases Bd.mp hz with rfl|hz
  .exact h.2.1
  .exact E z hz
theorem zaR{tl:List Int}{o ek ev:Cb}{to tk tv:aR}{apos cpos:Gy}(Y:X.A.units+2<Ex)(D:E3 X o to)(hk:E3 X ek tk)(m:E3 X ev tv)(hbase:Fx o "setdefault" X.env (El o X.env)=El o X.env:=by rfl)(hfew:((Me cpos (Cj [ek,ev] X.env)).all (λx=>!x.1)&&(Og cpos (Kv [] X.env)).all (λx=>x.1.isSome)&&decide (([ek,ev]:List Cb).length+([]:List Pz).length+(if ([]:List Pz).isEmpty then 0 else 1)<30))=true:=by rfl)(hline:(apos.endLine==cpos.line)=true:=by rfl)(l:Cj [ek,ev] X.env=(false,El ek X.env)::Cj [ev] X.env:=by rfl)(hs2:Cj [ev] X.env=(false,El ev X.env)::Cj [] X.env:=by rfl)(hplain:(Me cpos (Cj [ev] X.env)).any (·.1)=false:=by rfl):
  E3 X (.Call (.Attribute o "setdefault" apos) [ek,ev] [] cpos) (IV X.prog X.w tl to tk tv):=by
 have J:e9 X "dict.setdefault" (λd vs H Q=>∃M R w kw ww a kvs x y z,AM X.K H M/\d=.ref a/\vs=[y,z]/\AV X.K H M y kw/\AV X.K H M z ww/\M a=some (.dn X.prog X.w tl kvs)/\kw=fD tl x/\kvs.length<Ao/\(∀w0,aT kvs x=some w0->R w0 M)/\(aT kvs x=none->R ww (put M a (.dn X.prog X.w tl (kvs++[(x,ww)]))))/\w=()/\Up X.K H M R Q):=by
  rintro pins s Z H d vs v us Q I rd rs ⟨M,R,_,kw,ww,a,kvs,x,y,z,U,rfl,rfl,N,az,e,rfl,hl,O,K,_,k⟩;cases (show v=Value.ref a from rd);obtain⟨u,u1,rfl,ru,ru1⟩:=vals2 rs;obtain⟨es,T,q⟩:=U _ _ e;obtain⟨b,rfl,nb⟩:=zaN N;cases (show u=Value.ref b from ru);have nd:=dC.nodup (pM I T);have lk:=PN.look q nd x;refine zaM Y I T (PN.ats q) nb ru1 (by rw[Cu q];exact hl) (λc v0 w' f J I' rw'=>?_) λhno f I'=>?_
  .rcases lk with⟨_,l2⟩|⟨w,l1,l2⟩
   .exact absurd rfl (l2 _ J)
   .exact⟨_,H,I',rw',k.at U (l2 c v0 J) (O w l1)⟩
  .rcases lk with⟨l1,_⟩|⟨w,l1,l2⟩
   .have g:=nJ (o:=.dn X.prog X.w tl (kvs++[(x,ww)])) (u:=.ext (dC X.prog X.w tl a (es++[(x,b,z)]))) U e;obtain⟨am3,k3⟩:=U.write (o:=.dn X.prog X.w tl (kvs++[(x,ww)])) (u:=.ext (dC X.prog X.w tl a (es++[(x,b,z)]))) e ⟨_,b8,zK (Paired.mapP q λp r t=>⟨t.1,let ⟨pa,n1,n2⟩:=t.2.1;⟨pa,g.ht _ _ n1,g.ht _ _ n2⟩,t.2.2.go g⟩) (.cons ⟨rfl,let ⟨pa,n1,n2⟩:=nb;⟨pa,g.ht _ _ n1,g.ht _ _ n2⟩,az.go g⟩ .nil)⟩;exact⟨_,_,I',ru1,k _ _ _ _ k3 am3 (az.wr U e) (K l1)⟩
   .exfalso;have:∀{es:List (bM×Aj×V)} {kvs:List (bM×W)},PN X.K H M tl es kvs->(∀z∈es,z.1≠x)->aT kvs x=none:=by
     intro es kvs q
     induction q with
     | nil=>intro _;rfl
     | @cons p r ps rs h t E=>
      intro hz;unfold aT at E⊢;rw[Dn,Uz (by rw[<-h.1];exact hz p Bi)];exact E λy i=>hz y (Bb _ i)
    rw[this q hno]at l1;cases l1
 refine(zaK (tq:=λx H=>∃a es,x=.ref a/\H a=some (.ext (dC X.prog X.w tl a es))) Mu Lb PySem.F.type_dict_setdefault J D (eQ hk (eQ m fT hs2) l) (λpins Z H s x v I r h=>IU I r h) hbase hfew hline l hplain).weak ?_;rintro Z H Q ⟨τ,M,R,C,U,h,k⟩;refine⟨τ,M,_,C,U,h,λd G wd j k1 P ad ⟨⟨a,kvs,T,L⟩,O⟩=>?_⟩;subst T;cases ad;obtain⟨es,e3,q⟩:=P _ _ L;refine⟨⟨a,es,rfl,e3⟩,τ,j,λws M3=>match ws with | [kw,v]=>∃a' kvs x,W.ref a=.ref a'/\M3 a'=some (.dn X.prog X.w tl kvs)/\kw=fD tl x/\kvs.length<Ao/\(∀w0,aT kvs x=some w0->R w0 M3)/\(aT kvs x=none->R v (put M3 a' (.dn X.prog X.w tl (kvs++[(x,v)]))))|_=>False,C.kp U k1,P,?_,λvs B ws n k2 S avs r=>?_⟩
 .exact O
 .match ws,r with
  | [kw,ww],⟨a',kvs,x,ea,e4,e5,hl,g1,g2⟩=>
   cases ea;obtain⟨y,z,rfl,N,az⟩:=avs.two;exact⟨n,R,(),kw,ww,a,kvs,x,y,z,S,rfl,rfl,N,az,e4,e5,hl,g1,g2,rfl,k.kp (k1.trans k2)⟩
end
section
variable {X:Cx}{pins:Pn}{Z:St}{H:Hp}{s:Ah}{a d:Aj}{es:List (bM×Aj×V)}{tl:List Int}{A:Cn}{E:Ae->Ah->Prop}
theorem zaS{prog:Ar}{w:Bk}{m:Array Ec}{ep:Nat}{Q:Ae->Ah->Prop}(hd:(d==Fc)=false)(J:fZ s.heap d m ep)(H:Q (.ref s.heap.objs.size) {s with heap:=s.heap.push {cls:=.type "dict_values",data:=.fields #[.ref d]}}):Bl (Cq prog w) A (call (.builtin "dict.values") [.ref d]) Q E s:=
 Ir PySem.F.slot_dict_values J.typeIs PySem.F.entry_dict_values (PySem.F.args_dict_values_1 _) (S:=λ_ R M=>fZ M.heap d m ep/\R (.ok (.ret (.ref M.heap.objs.size))) {M with heap:=M.heap.push {cls:=.type "dict_values",data:=.fields #[.ref d]}})
  (.of_wp λA R M ⟨f,p⟩=>by
   refine Aa ?_;unfold Builtin.Dict.noArgs;refine Aa (Gh f.typeIs (Af ?_));show Bl _ _ (Jy d>>=_) _ _ _;unfold Jy;rw[Uv (by rw[hd];exact Av)];exact Aa (Af (Aa (Cz (Af ⟨_,rfl,p⟩))))) ⟨J,H⟩
theorem rF{P:Ar}{w:Bk}{h:Cr}(x:dC P w tl a es h):∃m ep,fZ h a m ep/\m.size=es.length/\m.size<=Ao/\(a==Fc)=false/\
  (∀(j:Nat) (e:Ec),m[j]? = some e->∃z:bM×Aj×V,es[j]? = some z/\e.key=.ref z.2.1/\RelV z.2.2 e.val):=by
 obtain⟨o,m,ep,xs,O,Z,f,h4,nx,_,s,H⟩:=x;have T:=Kk h4;have G:=Cu nx;refine⟨m,ep,⟨o,O,Z,f⟩,by lia,by lia,H,λj e L=>?_⟩;rw[Sl h4 j]at L;obtain⟨q,N,rfl⟩:=Ax.mp L;have key:∀{es:List (bM×Aj×V)} {xs:List (bM×Aj×Ae)} {j:Nat} {q:bM×Aj×Ae},NX es xs->xs[j]? = some q->∃z,es[j]? = some z/\z.2.1=q.2.1/\RelV z.2.2 q.2.2:=by
  intro es xs j q n
  induction n generalizing j with
  | nil=>intro h;simp at h
  | @cons p z ps d h t E=>
   intro D;cases j with
   | zero=>simp at D;subst D;exact⟨p,rfl,h.2.1,h.2.2⟩
   | succ j=>rw[Ej]at D⊢;exact E D
 obtain⟨z,A,Y,C⟩:=key nx N;exact⟨z,A,by show Value.ref q.2.1=_;rw[Y],C⟩
theorem zL{T:String}{r:Aj}{n:Nat}{P:Nat->Ae->Prop}{b:Cr->Prop}{xs:List V}{Q:VK}(hc:X.calm=true)(I:Inv X pins Z H s)(S:PySem.W.KdlSrc X.prog X.w T r d n P b)(ok:b s.heap)(f:n<=Ao)(U:xs.length=n)(g:∀j v,P j v->∃x,xs[j]? = some x/\RelV x v)(q:∀l,H l=none->Q (.ref l) (aN H l (.lst xs))):X.a (call (.type "list") [.ref r]) (EP X pins Z Q) X.xe s:=by
 refine PySem.W.kdl_call S (I.ok.hd hc) ok f λh' tk D M hk L N=>?_;refine⟨.ref s.heap.objs.size,_,I.laid (o:=.lst xs) (t':=tk) hk (Ai _) ⟨by rw[U];exact f,D.toList,M,?_,by rw[Ho];exact L⟩,rfl,q _ (I.hok.fresh (Ai _))⟩;refine qI (by have O:=N.1;have Y:D.toList.length=D.size:=Gu;lia) λj v c=>?_;exact g j v (N.2 j v (by rw[<-Fg];exact c))
end
section
variable {X:Cx}
abbrev IW(P:Ar)(w:Bk)(tl:List Int)(S:aR):aR:=λL M R=>S L M λd I=>∃a kvs,d=.ref a/\I a=some (.dn P w tl kvs)/\∀p,I p=none->R (.ref p) (put I p (.vw a))
theorem zaT{tl:List Int}{o:Cb}{S:aR}{f l:Gy}(D:E3 X o S)(n:Fx o "values" X.env (El o X.env)=El o X.env:=by rfl)(y:(f.endLine==l.line)=true:=by rfl):
  E3 X (.Call (.Attribute o "values" f) [] [] l) (IW X.prog X.w tl S):=by
 have J:e9 X "dict.values" (λx vs H Q=>∃M R a kvs,AM X.K H M/\x=.ref a/\vs=[]/\M a=some (.dn X.prog X.w tl kvs)/\(∀p,M p=none->R (.ref p) (put M p (.vw a)))/\Up X.K H M R Q):=by
  rintro pins s Z H x vs v us Q I c rs ⟨M,R,a,kvs,U,rfl,rfl,e,h,k⟩;cases (show v=Value.ref a from c);cases rs;obtain⟨es,T,q⟩:=U _ _ e;obtain⟨m,ep,g,_,_,b,_⟩:=rF (pM I T);have hf:=I.hok.fresh (Ai s.heap.objs.size);obtain⟨E,k2⟩:=U.laid (o:=.vw a) (u:=.ext λh=>h.IsValuesView s.heap.objs.size a) hf b8;refine zaS b g ⟨.ref s.heap.objs.size,_,I.laid (a:=s.heap.objs.size) (o:=.ext λh=>h.IsValuesView s.heap.objs.size a) (t':=s.toks) (λ_ _ z=>Ag _ z) (Ai _) ⟨⟨_,Au _ rfl,rfl,rfl⟩,⟨_,Au _ rfl⟩,λO Y ⟨o,D,r⟩ i=>⟨o,i o D,r⟩⟩,rfl,k _ _ _ _ k2 E (.ref _) (h _ (U.nonM hf))⟩
 refine(zaL (tq:=λx H=>∃a es,x=.ref a/\H a=some (.ext (dC X.prog X.w tl a es))) Mu PySem.F.slot_dict_values PySem.F.type_dict_values J D (λpins Z H s x v I r h=>IU I r h) n y).weak ?_;rintro Z H Q ⟨L,M,R,A,U,h,k⟩;refine⟨L,M,_,A,U,h,λd G wd j k1 P B ⟨a,kvs,T,W,O⟩=>?_⟩;subst T;cases B;obtain⟨es,t,q⟩:=P _ _ W;exact⟨⟨a,es,rfl,t⟩,j,R,a,kvs,P,rfl,rfl,W,O,k.kp k1⟩
def zM(P:Ar)(w:Bk)(tl:List Int):List W->Mm->K3->Prop
 | [.ref a],M,R=>(∃kvs,M a=some (.dn P w tl kvs)/\aV (kvs.map λp=>fD tl p.1) M R)\/∃d kvs,M a=some (.vw d)/\M d=some (.dn P w tl kvs)/\aV (kvs.map λp=>p.2) M R
 | _,_,_=>False
theorem zaU{tl:List Int}(hc:X.calm=true):cM X (.type "list") (eV X.K (zM X.prog X.w tl)):=by
 rintro pins s Z H xs us Q I rs ⟨ws,M,R,U,S,h,k⟩
 match ws,h with
 | [.ref a],h=>
  obtain⟨v,rfl,av⟩:=S.one;cases av;obtain⟨u,rfl,ru⟩:=vals1 rs;cases (show u=Value.ref a from ru);rcases h with⟨kvs,e,r⟩|⟨d,kvs,F,e,r⟩
  .obtain⟨es,T,q⟩:=U _ _ e;obtain⟨m,ep,g,O,W,b,f⟩:=rF (pM I T);refine zL hc I (EK (es:=m) (ep:=ep) b) g W (xs:=es.map λe=>V.ref e.2.1) (by rw[Ab];exact O.symm) (λj v ⟨en,P,c⟩=>?_) λl hl=>gL U k hl (PN.keys q) r;obtain⟨z,A,Y,_⟩:=f j en P;exact⟨.ref z.2.1,by rw[Ap,A];rfl,by rw[c,Y];rfl⟩
  .obtain⟨es,T,q⟩:=U _ _ e;have G:H a=some (.ext λh=>h.IsValuesView a d):=U _ _ F;have c:s.heap.IsValuesView a d:=(show b9 X.prog X.w H s.heap a (.ext λh=>h.IsValuesView a d) from I.hok a _ G).1;obtain⟨m,ep,g,O,W,b,f⟩:=rF (pM I T);refine zL hc I (WC (r:=a) (d:=d) (es:=m) (ep:=ep)) ⟨c,g⟩ W (xs:=es.map λe=>e.2.2) (by rw[Ab];exact O.symm) (λj v ⟨en,P,c⟩=>?_) λl hl=>gL U k hl (PN.vals q) r;obtain⟨z,A,_,C⟩:=f j en P;exact⟨z.2.2,by rw[Ap,A];rfl,by rw[c];exact C⟩
end
end L2
namespace PySem
namespace Tr
open PySem.AutoSeq1 (wpAny_loadPart')
section
variable {prog:Ar}{w:Bk}{A:Cn}{E:Ae->Ah->Prop}{s:Ah}
theorem zaV{Q:List Ae->Ah->Prop}{r:Aj}{n:Nat}{b:Int}{t u v:Tj}(hh:A.handled=none)(hr:IsRange s.heap r 0 b 1 t u v)(hsm:Builtin.Range.small 0 b 1=true)(hn:Hk 0 b 1=n)(hl:n<=2 ^ 24)(hQ:∀h' tk acc',(∀c o,s.heap.get? c=some o->h'.get? c=some o)->To (λi v=>∃t,v=.int (0+i*1) t) acc' n->Q acc'.toList {s with heap:=h',toks:=tk}):
  Bl (Cq prog w) A (collect (.ref r)) Q E s:=by
 unfold collect;refine Aa (wpAny_runValue (Kl F.entry_proto_collect ?_));rw[Hl F.plain_proto_collect _];show Bl _ A.in1 (newList []>>=λl=>again (.builtin "list.__iadd__" ⟨[l,.ref r],[]⟩)) _ _ s;refine Aa (Cz (Af ⟨Nv F.plain_list_iadd _,Kl F.entry_list_iadd ?_⟩));rw[Hl F.plain_list_iadd _];show Bl _ A.in1 (Builtin.List.listExtendWith (.ref s.heap.objs.size) (.ref r) (.ref s.heap.objs.size)) _ _ _;have g0:(s.heap.push {cls:=.type "list",data:=.seq ([]:List Ae).toArray}).get? s.heap.objs.size=some {cls:=.type "list",data:=.seq #[] 0}:=Au _ rfl;have last:∀(h':Cr) (tk:Nat) (acc:Array Ae) (c:Nat),(∀b o,b≠s.heap.objs.size->(s.heap.push {cls:=.type "list",data:=.seq ([]:List Ae).toArray}).get? b=some o->h'.get? b=some o)->h'.get? s.heap.objs.size=some {cls:=.type "list",dict:=none,data:=.seq acc c,slots:=#[]}->To (λi v=>∃t,v=.int (0+i*1) t) acc n->
   Bl (Cq prog w) A (match Value.ref s.heap.objs.size with
   | Value.ref a=>do
    match (<-load a).data with
     | Data.seq xs _=>pure xs.toList
     | _=>unsupported "internal:collect"
   | _=>unsupported "internal:collect") Q E {s with heap:=h',toks:=tk}:=by
  intro h' tk acc c hk hS hacc;show Bl _ A (load s.heap.objs.size>>=_) _ _ _;exact Aa (wpAny_load hS (Af (hQ h' tk acc (λb o e=>hk b o (Bo (Bh e)) (Ag _ e)) hacc)))
 refine Fo (wpAny_extend_range (A:=A) (R:=λq s'=>∃h' tk acc c,q=.ok (.ret (.ref s.heap.objs.size))/\s' = {s with heap:=h',toks:=tk}/\(∀b o,b≠s.heap.objs.size->(s.heap.push {cls:=.type "list",data:=.seq ([]:List Ae).toArray}).get? b=some o->h'.get? b=some o)/\h'.get? s.heap.objs.size=some {cls:=.type "list",dict:=none,data:=.seq acc c,slots:=#[]}/\To (λi v=>∃t,v=.int (0+i*1) t) acc n)
  (s:={s with heap:=s.heap.push {cls:=.type "list",data:=.seq ([]:List Ae).toArray}}) hh (Ag _ hr) hsm hn hl _ (.ref s.heap.objs.size) 0 g0 λh' tk acc c hk hS hacc=>⟨h',tk,acc,c,rfl,rfl,hk,hS,hacc⟩) (λfin s' h=>?_) (λe s' h=>?_)
 .cases fin with
  | done f=>
   obtain⟨h',tk,acc,c,e,rfl,q1,q2,q3⟩:=h;cases e;exact last h' tk acc c q1 q2 q3
  | again c'=>exact⟨h.1,La h.2 λq s'' hr=>by obtain⟨h',tk,acc,c,rfl,rfl,q1,q2,q3⟩:=hr;exact last h' tk acc c q1 q2 q3⟩
 .obtain⟨h',tk,acc,c,e,_⟩:=h;cases e
theorem made{r:Aj}{n:Nat}{b:Int}{t u v:Tj}{Q:Ae->Ah->Prop}(hh:A.handled=none)(T:IsRange s.heap r 0 b 1 t u v)(X:Builtin.Range.small 0 b 1=true)(U:Hk 0 b 1=n)(hl:n<=2 ^ 24)(h:∀(h':Cr) (tk:Nat) (acc:Array Ae),(∀c o,s.heap.get? c=some o->h'.get? c=some o)->To (λi v=>∃t,v=.int (0+i*1) t) acc n->Q (.ref h'.objs.size) {s with heap:=h'.push {cls:=.type "tuple",data:=.seq acc},toks:=tk}):
  Bl (Cq prog w) A (call (.type "tuple") [.ref r]) Q E s:=by
 refine callType_newIn F.called_tuple (by decide) (F.typeCall_tuple_1 _) (F.newCall_tuple_1 _) (λobj=>Pj obj _) F.entry_tuple_new
  (S:=λA R s=>A.handled=none/\IsRange s.heap r 0 b 1 t u v/\∀(h':Cr) (tk:Nat) (acc:Array Ae),(∀c o,s.heap.get? c=some o->h'.get? c=some o)->To (λi v=>∃t,v=.int (0+i*1) t) acc n->R (.ok (.ret (.ref h'.objs.size))) {s with heap:=h'.push {cls:=.type "tuple",data:=.seq acc},toks:=tk})
  (.of_wp λA R s h=>?_) ⟨hh,T,λh' tk acc hk N=>⟨⟨_,Au _ rfl,rfl⟩,h h' tk acc hk N⟩⟩
 obtain⟨B,g,d,tk,os⟩:=s;obtain⟨O,ht,h⟩:=h;have P:=sub_tuple_self;have a:=init_tuple_lookup;have e:=madeHere_tuple;have I:Shared.TypeIs ⟨B,g,d,tk,os⟩ (.ref r) "range":=⟨_,ht,rfl⟩
 wp_walk using wpAny_loadPart' ht,Mo I,zaV (A:=A.in1) O ht X U hl
 intro h' tk acc hk N;show Bl _ _ (Fu acc.toList.toArray>>=λv=>ret v) _ _ _;unfold Fu;refine Aa (Cz ?_ (by show acc.toList.toArray.size<=Ao;rw[Ho,N.1,Jo];exact hl));refine Af ⟨_,rfl,?_⟩;rw[Ho];exact h h' tk acc hk N
end
end Tr
end PySem
namespace L2
section
variable {X:Cx}{a:Cb}{ta:TA}{p p2 pos pos2:Gy}
def zaW(ta:TA):TE:=λZ H Q=>ta Z H λvs G=>∃n:Nat,vs=[.int n]/\n<=1000/\∀q,G q=none->Q (.ref q) (aN G q (.tup ((Cd n).map λ(i:Nat)=>V.int i)))
theorem zaX(hc:X.calm=true)(hg:Gl X "tuple")(hm:X.mg "tuple" = none)(hg2:Gl X "range")(hm2:X.mg "range" = none)(ha:PA X [a] ta)(hs1:Cj [.Call (.Name "range" p2) [a] [] pos2] X.env=[(false,El (.Call (.Name "range" p2) [a] [] pos2) X.env)]:=by rfl)(hs2:Cj [a] X.env=[(false,El a X.env)]:=by rfl):
  PE X (.Call (.Name "tuple" p) [.Call (.Name "range" p2) [a] [] pos2] [] pos) (zaW ta):=by
 intro pins s Z H Q I h;refine Dv (iA I hg hm (by decide +kernel:Cs "tuple" = some (.type "tuple")) (Cg ?_ hs1 rfl));rw[hs1];refine Jx (Dv (iA I hg2 hm2 (by decide +kernel:Cs "range" = some (.type "range")) (Cg (aY (ha pos2 pins s Z H _ I h) λus s1 ⟨vs,H1,I1,r1,q1⟩=>?_) hs2 rfl)));obtain⟨n,rfl,hn,q⟩:=q1;obtain⟨u,rfl,ru⟩:=vals1 r1;obtain⟨t,rfl⟩:=ru;refine Ti (Ml ?_);have sz:Hk 0 (n:Int) 1=(n:Nat):=by rw[Sv];split<;>lia
 refine Tr.made (n:=n) (b:=(n:Int)) (I1.ok.hd hc) (Sa _ _ _ _ _ _ _) (PySem.small_one (by decide) (by decide) (by lia) (by lia)) sz (by lia) λh' tk acc hk hacc=>?_;have up:∀b o,s1.heap.get? b=some o->h'.get? b=some o:=λb o e=>hk b o (Ag _ e);have le:s1.heap.objs.size<=h'.objs.size:=by
  exact Hr (Bh (hk s1.heap.objs.size _ (Au _ rfl)))
 refine⟨.ref h'.objs.size,_,I1.laid (a:=h'.objs.size) (o:=.tup ((Cd n).map λ(i:Nat)=>V.int i)) (t':=tk) (λb o e=>Ag _ (up b o e)) le ⟨by simp[Jo];lia,acc.toList,?_,⟨_,Au _ rfl,rfl,0,by simp⟩⟩,rfl,q _ (I1.hok.fresh le)⟩;refine qI (by simp[hacc.1]) λj v hv=>?_;have hv':acc[j]? = some v:=by simpa using hv
 obtain⟨t',rfl⟩:=hacc.2 j v hv';have hj:j<n:=by have:=(Iz.mp hv').1;rw[hacc.1]at this;exact this
 refine⟨.int j,?_,t',by simp⟩;simp[hj]
end
section
variable {X:Cx}{a:Cb}{ta:aR}
abbrev IX(ta:aR):aR:=λL M R=>ta L M λw I=>∃n:Nat,w=.int n/\n<=1000/\R (.tup ((Cd n).map λ(i:Nat)=>W.int i)) I
theorem zaY{p p2 pos pos2:Gy}(T:Gl X "tuple")(J:X.mg "tuple" = none)(x:Gl X "range")(y:X.mg "range" = none)(S:E3 X a ta)(hc:X.calm=true:=by rfl)(m:Cj [.Call (.Name "range" p2) [a] [] pos2] X.env=[(false,El (.Call (.Name "range" p2) [a] [] pos2) X.env)]:=by rfl)(Y:Cj [a] X.env=[(false,El a X.env)]:=by rfl):
  E3 X (.Call (.Name "tuple" p) [.Call (.Name "range" p2) [a] [] pos2] [] pos) (IX ta):=
 (zaX hc T J x y (eQ S fT (Y.trans rfl)) m Y).weak λZ H Q s=>s.el λL M R A U h k=>⟨L,M,λws I=>match ws with | [w]=>∃n:Nat,w=.int n/\n<=1000/\R (.tup ((Cd n).map λ(i:Nat)=>W.int i)) I|_=>False,A,U,h,λvs G ws I k1 P d r=>by
  match ws,r with
  | [w],⟨n,e,f,r⟩=>
   subst e;obtain⟨v,rfl,av⟩:=d.one;obtain rfl:=av.inv;refine⟨n,rfl,f,λq N=>?_⟩;obtain⟨z,k2⟩:=P.tup (u:=.tup ((Cd n).map λ(i:Nat)=>V.int i)) N;refine k _ _ _ _ (k1.trans k2) z (.tup b8 ?_) r;have:∀l:List Nat,aJ X.K (aN G q (.tup ((Cd n).map λ(i:Nat)=>V.int i))) I (l.map λ(i:Nat)=>V.int i) (l.map λ(i:Nat)=>W.int i):=by
    intro l
    induction l with
    | nil=>exact .nil
    | cons i r E=>exact .cons (.int _) E
   exact this _⟩
def IY:List W->Mm->K3->Prop
 | [.ref a],M,R=>∃kvs:List (List aB×W),M a=some (.dT kvs)/\aV (kvs.map λp=>.tup (p.1.map wK)) M R
 | _,_,_=>False
theorem zaZ(hc:X.calm=true):cM X (.type "list") (eV X.K IY):=by
 rintro pins s Z H xs us Q I rs ⟨ws,M,R,U,S,h,k⟩
 match ws,h with
 | [.ref a],⟨kvs,e,r⟩=>
  obtain⟨v,rfl,av⟩:=S.one;obtain rfl:=av.inv;obtain⟨u,rfl,ru⟩:=vals1 rs;cases (show u=Value.ref a from ru);obtain⟨ks,T,q⟩:=U _ _ e;obtain⟨z,b,ys,n,dd⟩:=qE I.hok T;obtain⟨o,m,ep,D,x,hd,P,_,_⟩:=dd;have L:=Kk P;have i:=Cu n;refine zL hc I (EK (es:=m) (ep:=ep) b) ⟨o,D,x,hd⟩ (by lia) (xs:=ys.map λy=>V.ref y.2.1) (by rw[Ab];lia) (λj v ⟨en,F,c⟩=>?_) λl hl=>gL U k hl ?_ r
  .rw[Sl P j]at F;obtain⟨y,C,rfl⟩:=Ax.mp F;exact⟨.ref y.2.1,by rw[Ap,C];rfl,by rw[c];rfl⟩
  .have:∀{ks:List (List aB×V)} {kvs:List (List aB×W)} {ys:List (List aB×Aj×Ae)},bK X.K H M (List aB) ks kvs->KT H ks ys->aJ X.K H M (ys.map λy=>V.ref y.2.1) (kvs.map λp=>.tup (p.1.map wK)):=by
    intro ks kvs ys q
    induction q generalizing ys with
    | nil=>intro n;cases n;exact .nil
    | @cons p z ps d h t E=>
     intro n;cases n with
     | @cons _ y _ f g t'=>
      refine .cons ?_ (E t');have Y:=g.2.1;rw[h.1]at Y;exact .tup Y (uS z.1)
   exact this q n
end
end L2
namespace PySem
namespace Zd
open L2 Zt
section
variable {prog:Ar}{w:Bk}{A:Cn}{E:Ae->Ah->Prop}{s:Ah}
variable {z TI TO i1 i2 l1 l2:Aj}{xs ys:Array Ae}{S1 S2:Nat->Cr->Prop}
abbrev pN(h:Cr)(z TI TO p:Aj)(b:Bool):Prop:=
 h.get? z=some {cls:=.type "zip",dict:=none,data:=.fields #[Gz p,.bool b,.bool false,.ref TI,.ref TO],slots:=#[]}
theorem IZ{p:Aj}{o:Lc}{b:Bool}{Q:Bool->Ah->Prop}(hz:pN s.heap z TI TO p b)(B:s.heap.get? p=some o)(h:∀h',pN h' z TI TO p true->Eh z s.heap h'->Q false {s with heap:=h'}):
  Bl (Cq prog w) A (Ct (.ref z)) Q E s:=by
 unfold Ct;refine Aa (De hz rfl (x:=Gz p) rfl ?_);show Bl _ _ (loadIfAlive ((p:Int).toNat)>>=_) _ _ _;rw[Du];refine Aa (PySem.W.kdx_alive B ?_);simp only[Option.isNone_some,Cm,if_false];refine Aa (De hz rfl (x:=.bool b) rfl ?_);cases b with
 | true=>
  rw[Uv (show ¬((Value.bool true !=Value.bool true)=true) from Av)];exact Af (h _ hz (Heap.SameBut.refl _ _))
 | false=>
  rw[Uw (show(Value.bool false !=Value.bool true)=true from rfl)];exact Aa (Ez hz (by simp) λh' l K=>Af (h h' l K))
theorem za0{k:Nat}{x y:Ae}{p:Aj}{o:Lc}{b:Bool}{Q:Ae->Ah->Prop}(D:Zt.Apart z TI TO i1 i2 l1 l2)(n:eT prog w i1 l1 xs S1)(J:eT prog w i2 l2 ys S2)(hz:pN s.heap z TI TO p b)(B:s.heap.get? p=some o)(X:Ht s.heap TI (.ref i1) (.ref i2))(O:S1 k s.heap)(Z:S2 k s.heap)(S:xs[k]? = some x)(K:ys[k]? = some y)(H:∀h',pN h' z TI TO p true->S1 (k+1) h'->S2 (k+1) h'->Ht h' s.heap.objs.size x y->(∀c o,c≠z->c≠i1->c≠i2->s.heap.get? c=some o->h'.get? c=some o)->Q (.ref s.heap.objs.size) {s with heap:=h'}):
  Bl (Cq prog w) A (Gg.«zip.__next__» ⟨[.ref z],[]⟩) (λfin W=>∃v,fin=.done (.ret v)/\Q v W) E s:=by
 have nd:=D.nd;simp only[Dl,Bd,Hc,or_false,not_or,not_false_eq_true,Ey,and_true]at nd;obtain⟨⟨zI,N,V,R⟩,⟨IO,L,i⟩,⟨O1,O2⟩,h⟩:=nd;obtain⟨G,aI,aO,r,U⟩:=D.a;obtain⟨bz,bI,bO,u,l⟩:=D.b;have k1:∀c,c=i1\/c=l1->c≠z/\c≠i2:=λc hc=>by
  rcases hc with rfl|rfl
  .exact⟨Bq V,h⟩
  .exact⟨G,U⟩
 have k2:∀c,c=i2\/c=l2->c≠z/\c≠i1:=λc hc=>by
  rcases hc with rfl|rfl
  .exact⟨Bq R,Bq h⟩
  .exact⟨bz,u⟩
 show Bl _ _ (Qj (.ref z) 2>>=λq=>_) _ _ _;refine Aa (De hz rfl (x:=.bool false) rfl ?_);show Bl _ _ (Qj (.ref z) 3>>=λq=>_) _ _ _;refine Aa (De hz rfl (x:=.ref TI) rfl (Aa (Ed X rfl ?_)));show Bl _ _ (Ct (.ref z)>>=λq=>_) _ _ _;refine Aa (IZ hz B λI f M=>?_);simp only[Cm,if_false];refine Aa ?_;rw[<-Jz];simp only[Ii,Mb];refine Aa (Aa (Dh ?_));show Bl _ _ (Cv (.ref i1)>>=λq=>_) _ _ _;refine Aa (n.item _ _ {s with heap:=I} k x _ (n.keep k _ _ O λc hc o e=>M.extBut c o (k1 c hc).1 e) S λY P g=>Af ?_);refine Af ?_;refine Aa (Aa (Dh ?_));show Bl _ _ (Cv (.ref i2)>>=λq=>_) _ _ _;refine Aa (J.item _ _ {s with heap:=Y} k y _ (J.keep k _ _ Z λc hc o e=>g.extBut c o (k2 c hc).2 (M.extBut c o (k2 c hc).1 e)) K λC T j=>Af ?_);refine Af (Af ?_);refine Aa (wpAny_newTuple (Af ⟨_,rfl,?_⟩) (hsz:=by show 2<=Ao;decide));have t:C.objs.size=s.heap.objs.size:=by rw[j.1,g.1,M.1]
 have up:∀c o,c≠z->c≠i1->c≠i2->s.heap.get? c=some o->(C.push {cls:=.type "tuple",data:=.seq #[x,y]}).get? c=some o:=λc o m d F e=>Ag _ (j.extBut _ _ F (g.extBut _ _ d (M.extBut _ _ m e)));show Q (.ref C.objs.size) _;rw[t];refine H _ (Ag _ (j.extBut _ _ R (g.extBut _ _ V f))) (n.keep _ _ _ P λc hc o e=>Ag _ (j.extBut _ _ (k1 c hc).2 e)) (J.keep _ _ _ T λc hc o e=>Ag _ e) ?_ up;rw[<-t];exact Au _ rfl
theorem za1{k:Nat}{p:Aj}{o:Lc}{b:Bool}{Q:Fin->Ah->Prop}(hh:A.handled=none)(D:Zt.Apart z TI TO i1 i2 l1 l2)(n:eT prog w i1 l1 xs S1)(J:eT prog w i2 l2 ys S2)(hz:pN s.heap z TI TO p b)(B:s.heap.get? p=some o)(C:Ht s.heap TI (.ref i1) (.ref i2))(O:S1 k s.heap)(j:xs[k]? = none)(d:∀h' e,(∀c o,c≠z->c≠i1->s.heap.get? c=some o->h'.get? c=some o)->(∃o,h'.get? e=some o/\o.cls=.type "StopIteration")->E (.ref e) {s with heap:=h'}):
  Bl (Cq prog w) A (Gg.«zip.__next__» ⟨[.ref z],[]⟩) Q E s:=by
 have nd:=D.nd;simp only[Dl,Bd,Hc,or_false,not_or,not_false_eq_true,Ey,and_true]at nd;obtain⟨⟨v,N,V,R⟩,⟨y,L,i⟩,⟨l,t⟩,h⟩:=nd;obtain⟨G,K,H,r,U⟩:=D.a;have k1:∀c,c=i1\/c=l1->c≠z/\c≠i2:=λc hc=>by
  rcases hc with rfl|rfl
  .exact⟨Bq V,h⟩
  .exact⟨G,U⟩
 show Bl _ _ (Qj (.ref z) 2>>=λq=>_) _ _ _;refine Aa (De hz rfl (x:=.bool false) rfl ?_);show Bl _ _ (Qj (.ref z) 3>>=λq=>_) _ _ _;refine Aa (De hz rfl (x:=.ref TI) rfl (Aa (Ed C rfl ?_)));show Bl _ _ (Ct (.ref z)>>=λq=>_) _ _ _;refine Aa (IZ hz B λI f M=>?_);simp only[Cm,if_false];refine Aa ?_;rw[<-Jz];simp only[Ii,Mb];refine Aa (Aa (Dh ?_));show Bl _ _ (Cv (.ref i1)>>=λq=>_) _ _ _;exact Aa (n.stop _ _ {s with heap:=I} k _ hh (n.keep k _ _ O λc hc o e=>M.extBut c o (k1 c hc).1 e) j λY e g P=>d Y e (λc o m F u=>g _ _ F (M.extBut _ _ m u)) P)
def Zs(d z TI TO i1 i2:Aj)(S1 S2:Nat->Cr->Prop)(k:Nat)(h:Cr):Prop:=
 Ht h TI (.ref i1) (.ref i2)/\S1 k h/\S2 k h/\d<h.objs.size/\z<h.objs.size/\TO<h.objs.size/\i1<h.objs.size/\i2<h.objs.size/\
  ((Qn h z TI TO .none/\∃a b,Ht h TO a b)\/∃p b o,pN h z TI TO p b/\h.get? p=some o/\p≠z/\p≠TO/\p≠i1/\p≠i2/\p≠d)
theorem next{d:Aj}{k:Nat}{x y:Ae}{Q:Option Ae->Ah->Prop}(D:Zt.Apart z TI TO i1 i2 l1 l2)(n:eT prog w i1 l1 xs S1)(J:eT prog w i2 l2 ys S2)(st:Zs d z TI TO i1 i2 S1 S2 k s.heap)(S:xs[k]? = some x)(K:ys[k]? = some y)(H:∀h',Zs d z TI TO i1 i2 S1 S2 (k+1) h'->Ht h' s.heap.objs.size x y->(∀c o,c≠z->c≠TO->c≠i1->c≠i2->s.heap.get? c=some o->h'.get? c=some o)->Q (some (.ref s.heap.objs.size)) {s with heap:=h'}):
  Bl (Cq prog w) A (Hg (.ref z)) Q E s:=by
 have nd:=D.nd;simp only[Dl,Bd,Hc,or_false,not_or,not_false_eq_true,Ey,and_true]at nd;obtain⟨⟨zI,W,V,R⟩,⟨IO,L,i⟩,⟨e,P⟩,h⟩:=nd;obtain⟨C,M,g,ld,O,lO,r,q,st⟩:=st;rcases st with⟨hz,a,b,I⟩|⟨p,b,o,hz,B,N,p2,v,U,Y⟩
 .refine next_item D n J hz C I M g S K λh' m u F f j X=>H h' ?_ j X;have l:=Bh j;exact⟨X _ _ (Bq zI) IO L i C,F,f,Gj ld l,Gj O l,Gj lO l,Gj r l,Gj q l,.inr ⟨s.heap.objs.size,false,_,m,j,Co O,Co lO,Co r,Co q,Co ld⟩⟩
 .have ty:s.TypeIs (.ref z) "zip":=⟨_,hz,rfl⟩;unfold Hg;refine Aa (Gm (Cp (name:=Bv "__next__") ty Hs (Ck Hs ty Ob (za0 D n J hz B C M g S K λh' m u F f j=>Af (H h' ?_ f λc o T G t Z=>j c o T t Z)) (Nk _))));have l:=Bh f;exact⟨j _ _ (Bq zI) L i C,u,F,Gj ld l,Gj O l,Gj lO l,Gj r l,Gj q l,.inr ⟨p,true,o,m,j p o N v U B,N,p2,v,U,Y⟩⟩
theorem done{d:Aj}{k:Nat}{Q:Option Ae->Ah->Prop}(hh:A.handled=none)(D:Zt.Apart z TI TO i1 i2 l1 l2)(n:eT prog w i1 l1 xs S1)(X:eT prog w i2 l2 ys S2)(st:Zs d z TI TO i1 i2 S1 S2 k s.heap)(S:xs[k]? = none)(H:∀h',(∀c o,c≠z->c≠TO->c≠i1->c≠i2->s.heap.get? c=some o->h'.get? c=some o)->Q none {s with heap:=h'}):
  Bl (Cq prog w) A (Hg (.ref z)) Q E s:=by
 obtain⟨C,M,g,i,O,lO,r,q,st⟩:=st;rcases st with⟨hz,a,b,I⟩|⟨p,b,o,hz,B,N,p2,v,U,l⟩
 .exact WL hh D n X hz C I M g (.inl S) H
 .have ty:s.TypeIs (.ref z) "zip":=⟨_,hz,rfl⟩;unfold Hg;refine Aa (Gm (Cp (name:=Bv "__next__") ty Hs (Ck Hs ty Ob (za1 (xs:=xs) hh D n X hz B C M S λh' e hk ⟨o,f,hc⟩=>?_) (Nk _))));exact Aa (Fq (T:="StopIteration") (b:=true) ⟨o,f,hc⟩ Pr (Af (H _ λc o J G t Z=>hk c o J t)))
theorem Zs.at{d:Aj}{k:Nat}{h h':Cr}(D:Zt.Apart z TI TO i1 i2 l1 l2)(n:eT prog w i1 l1 xs S1)(J:eT prog w i2 l2 ys S2)(hd:d≠z/\d≠TI/\d≠TO/\d≠i1/\d≠i2/\d≠l1/\d≠l2)(st:Zs d z TI TO i1 i2 S1 S2 k h)(F:Eh d h h'):Zs d z TI TO i1 i2 S1 S2 k h':=by
 obtain⟨C,M,g,i,O,lO,r,q,st⟩:=st;obtain⟨R,y,t,u,x,j,f⟩:=hd;refine⟨(F.2 _ (Bq y)).trans C,n.keep _ _ _ M λc hc o e=>(F.2 c ?_).trans e,J.keep _ _ _ g λc hc o e=>(F.2 c ?_).trans e,by rw[F.1];exact i,by rw[F.1];exact O,by rw[F.1];exact lO,by rw[F.1];exact r,by rw[F.1];exact q,?_⟩
 .rcases hc with rfl|rfl
  .exact Bq u
  .exact Bq j
 .rcases hc with rfl|rfl
  .exact Bq x
  .exact Bq f
 .rcases st with⟨hz,a,b,I⟩|⟨p,b,o,hz,B,N,p2,v,U,l⟩
  .exact .inl ⟨(F.2 _ (Bq R)).trans hz,a,b,(F.2 _ (Bq t)).trans I⟩
  .exact .inr ⟨p,b,o,(F.2 _ (Bq R)).trans hz,(F.2 _ l).trans B,N,p2,v,U,l⟩
abbrev TK(prog:Ar)(w:Bk):=Gw (bQ prog w)
def allH(es:List (List aB×Aj×Ae))(ps:List (List aB×Aj×Ae)):List (List aB×Aj×Ae):=ps.foldl (λes p=>Mq es p.1 p.2.1 p.2.2) es
theorem zN(es:List (List aB×Aj×Ae))(k:List aB)(a:Aj)(v:Ae):(Mq es k a v).length<=es.length+1:=by
 unfold Mq;split
 .rw[Ab];lia
 .rw[Ak,Cf];exact Ai _
theorem nZ{h h':Cr}{k:List aB}{a:Aj}(x:(TK prog w).is h k a)(e:∀o,h.get? a=some o->h'.get? a=some o):(TK prog w).is h' k a:=by
 obtain⟨o,items,n,D,r⟩:=x;exact⟨o,items,n,e o D,r⟩
theorem loop{d:Aj}{ps:List (List aB×Aj×Ae)}{R:Tn->Ah->Prop}(hh:A.handled=none)(t:(TK prog w).room A.in1)(D:Zt.Apart z TI TO i1 i2 l1 l2)(n:eT prog w i1 l1 xs S1)(I:eT prog w i2 l2 ys S2)(hd:d≠z/\d≠TI/\d≠TO/\d≠i1/\d≠i2/\d≠l1/\d≠l2)(hz:ps.length<=Ao)(S:∀j:Nat,xs[j]? = (ps[j]?).map λp=>.ref p.2.1)(K:∀j:Nat,ys[j]? = (ps[j]?).map λp=>p.2.2)(hk:∀p∈ps,p.2.1≠z/\p.2.1≠TO/\p.2.1≠i1/\p.2.1≠i2/\p.2.1≠d):
  ∀(m k:Nat) (s:Ah) (es:List (List aB×Aj×Ae)),ps.length-k=m->k<=ps.length->es.length<=k->Zs d z TI TO i1 i2 S1 S2 k s.heap->s.heap.DictOfH (TK prog w) d es->(∀e∈es,e∈ps\/∃p∈ps,p.2.1=e.2.1)->
  (∀p∈ps,(TK prog w).is s.heap p.1 p.2.1)->
  (∀h' tk,(∀b o,b≠d->b≠z->b≠TO->b≠i1->b≠i2->s.heap.get? b=some o->h'.get? b=some o)->h'.DictOfH (TK prog w) d (allH es (ps.drop k))->R (.ok (.ret .none)) {s with heap:=h',toks:=tk})->
  Mr (Cq prog w) A (.builtin "dict.update.loop" ⟨[.ref d,.ref z,Gz (k:Int),.none],[]⟩) R s:=by
 intro m;have dictAt:∀{h h':Cr} {es:List (List aB×Aj×Ae)},h.DictOfH (TK prog w) d es->(∀e∈es,e∈ps\/∃p∈ps,p.2.1=e.2.1)->(∀c o,c≠z->c≠TO->c≠i1->c≠i2->h.get? c=some o->h'.get? c=some o)->h'.DictOfH (TK prog w) d es:=by
  rintro h h' es ⟨o,en,ep,f,hc,C,P,i,U⟩ V G;refine⟨o,en,ep,G d o hd.1 hd.2.2.1 hd.2.2.2.1 hd.2.2.2.2.1 f,hc,C,P,λx W=>nZ (i x W) λr e=>?_,U⟩;have:x.2.1≠z/\x.2.1≠TO/\x.2.1≠i1/\x.2.1≠i2:=by
   rcases V x W with q|⟨p,q,M⟩
   .have:=hk x q;exact⟨this.1,this.2.1,this.2.2.1,this.2.2.2.1⟩
   .have:=hk p q;rw[M]at this;exact⟨this.1,this.2.1,this.2.2.1,this.2.2.2.1⟩
  exact G _ _ this.1 this.2.1 this.2.2.1 this.2.2.2 e
 induction m with
 | zero=>
  intro k s es G hle hl st C V H hR;have X:k=ps.length:=by lia
  refine Kl Dp.entry_loop ?_;rw[Hl Dp.plain_loop _];show Bl _ A.in1 (Hg (.ref z)>>=_) _ _ s;refine Aa (done hh D n I st (by rw[S,X];simp) λh' l=>?_);show Bl _ A.in1 (Builtin.Dict.addKeywords d []>>=_) _ _ _;refine Aa (Af (Af (hR h' _ (λb o _ u v b3 Q e=>l b o u v b3 Q e) ?_)));rw[List.drop_of_length_le (by lia)];exact dictAt C V l
 | succ m E=>
  intro k s es G hle hl st C V H hR;have a:k<ps.length:=by lia
  obtain⟨p,B⟩:∃p,ps[k]? = some p:=⟨_,Bp a⟩;have hpm:p∈ps:=Ay B;refine Kl Dp.entry_loop ?_;rw[Hl Dp.plain_loop _];show Bl _ A.in1 (Hg (.ref z)>>=_) _ _ s;refine Aa (next D n I st (x:=.ref p.2.1) (y:=p.2.2) (by rw[S,B];rfl) (by rw[K,B];rfl) λh' g hpair l=>?_);have hdd':=dictAt C V l;have hkeys':∀q∈ps,(TK prog w).is h' q.1 q.2.1:=λq N=>nZ (H q N) λo e=>l _ o (hk q N).1 (hk q N).2.1 (hk q N).2.2.1 (hk q N).2.2.2.1 e;show Bl _ A.in1 (Jf [Value.ref s.heap.objs.size] _>>=_) _ _ _;refine Aa (Dh (Aa (wpAny_tryCatch ?_)));unfold Builtin.Dict.pairItems;refine Aa (Mo (T:="tuple") ⟨_,hpair,rfl⟩ ?_);rw[Uw (by decide)];refine Aa (Ed hpair rfl (Af ?_));show Bl _ _ (Jf [Value.ref p.2.1,p.2.2] (Uo d (.ref p.2.1) p.2.2)) _ _ _;refine Dh (Qp (knd:=TK prog w) t (hkeys' p hpm) hdd' (hsz:=by lia) λZ hd3 Y=>?_);have J:ps.drop k=p::ps.drop (k+1):=by rw[Jl a];congr 1;exact(An.mp B).2
  refine Af ⟨Nv Dp.plain_loop _,?_⟩;refine E (k+1) _ (Mq es p.1 p.2.1 p.2.2) (by lia) a (by have:=zN es p.1 p.2.1 p.2.2;lia) (g.at D n I hd Y) hd3 (λe P=>?_) (λq N=>nZ (hkeys' q N) λo e=>(Y.2 _ (hk q N).2.2.2.2).trans e) λL tk3 hk3 hd4=>?_
  .unfold Mq at P;split at P
   .obtain⟨F,he0,rfl⟩:=Bc.mp P;have:(Um p.1 p.2.2 F).2.1=F.2.1:=by unfold Um;split<;>rfl
    rw[this];rcases V F he0 with q|⟨p',q,M⟩
    .exact .inr ⟨F,q,rfl⟩
    .exact .inr ⟨p',q,M⟩
   .rcases Ba.mp P with q|q
    .exact V e q
    .obtain rfl:=Am.mp q;exact .inl hpm
  .refine hR L tk3 (λb o O u v b3 Q e=>hk3 b o O u v b3 Q ((Y.2 b O).trans (l b o u v b3 Q e))) ?_;rw[J];exact hd4
end
end Zd
end PySem
namespace PySem
namespace Zd
open L2 Zt
open PySem.Sem (wp)
theorem za2:Oy (.type "zip") "__getattr__" = pure none:=by rw[Iy,Gi];kernel_rfl
theorem za3:Oy (.type "zip") "keys" = pure none:=by rw[Iy,Gi];kernel_rfl
theorem za4:Ua table "zip.__getattribute__" = some Gg.«object.__getattribute__»:=
 entryFor_alias (id':="object.__getattribute__") (by kernel_rfl) (by decide +kernel) (by decide +kernel) (by kernel_rfl)
theorem za5(a:Aj)(vs:Array Ae)(name:Aw)(u:Tj)(c:Oy (.type "zip") name=pure none)(b:(["__module__","__name__","__qualname__","__doc__","__annotations__"]:List Aw).contains name=false)(hsz:name.length+100<=Ao):
  Meets (Gg.«object.__getattribute__» ⟨[.ref a,.str name u],[]⟩) (λA R s=>s.heap.get? a=some {cls:=.type "zip",dict:=none,data:=.fields vs,slots:=#[]}/\raisesAttr (.ref a) name A R s):=
 Meets.of_wp λprog w A R s F=>by
  obtain⟨B,g,d,tk,os⟩:=s;obtain⟨S,F⟩:=F;have I:(⟨B,g,d,tk,os⟩:Ah).TypeIs (.ref a) "zip":=⟨_,S,rfl⟩;unfold Gg.«object.__getattribute__»
  repeat (any_goals (first|assumption|wp_step))
  simp only[b,Cm,if_false]
  repeat (any_goals (first|assumption|wp_step))
  exact wpAny_raiseAttrError F.1 F.2 (attrMsg_fits (by decide +kernel) hsz)
section
variable {prog:Ar}{w:Bk}{A:Cn}{E:Ae->Ah->Prop}{s:Ah}
theorem keys_miss{a:Aj}{vs:Array Ae}{Q:Option Ae->Ah->Prop}(hx:s.heap.get? a=some {cls:=.type "zip",data:=.fields vs})(hA:A.handled=none)(h:∀h' tk,(∀b o,s.heap.get? b=some o->h'.get? b=some o)->Q none {s with heap:=h',toks:=tk}):Bl (Cq prog w) A (Tz (.ref a) (Bv "keys")) Q E s:=by
 obtain⟨hp,g,d,tk,os⟩:=s;have hT:∀tk',(⟨hp,g,d,tk',os⟩:Ah).TypeIs (.ref a) "zip":=λ_=>⟨_,hx,rfl⟩
 have f1:=sub_AttributeError;have f3:=Oa.lookup;have f4:=Oa.bind (.ref a);have f5:=za2;unfold Tz getAttrBy? getAttrBy
 repeat (any_goals (first|assumption|exact hT _|((with_reducible show Bl _ _ (call (Value.builtin "zip.__getattribute__") _ _) _ _ _);refine Ks Oa (hT _) za4 (F.args_zip_getattribute_2 _ _) (za5 a vs (Bv "keys") _ za3 (by decide +kernel) (by decide +kernel)) ⟨hx,hA,λh' tk' e hx'=>?_⟩)|wp_step))
 obtain⟨t',u',he⟩:=hx'.there;have hx2:=hx'.of.keeps;show Bl _ _ (Nc _ _ _ _ _ _ _) _ _ _;unfold Nc
 repeat (any_goals (first|assumption|wp_step))
 exact h _ _ hx2
theorem call_zip{l1 l2:Aj}{xs ys:Array Ae}{ps:List (List aB×Aj×Ae)}{Q:Ae->Ah->Prop}(hh:A.handled=none)(hu:A.units+2<Ex)(h1:s.heap.IsList l1 xs)(h2:s.heap.IsList l2 ys)(hz:ps.length<=Ao)(hx:∀j:Nat,xs[j]? = (ps[j]?).map λp=>.ref p.2.1)(hy:∀j:Nat,ys[j]? = (ps[j]?).map λp=>p.2.2)(hkeys:∀p∈ps,(TK prog w).is s.heap p.1 p.2.1)(h:∀h' tk d,s.heap.objs.size<=d->(∀b o,s.heap.get? b=some o->h'.get? b=some o)->h'.DictOfH (TK prog w) d (allH [] ps)->Q (.ref d) {s with heap:=h',toks:=tk}):
  Bl (Cq prog w) A (call (.type "zip") [.ref l1,.ref l2]) (λv s1=>Bl (Cq prog w) A (call (.type "dict") [v]) Q E s1) E s:=by
 have la:@LT.lt Nat _ l1 s.heap.objs.size:=by obtain⟨_,e,_⟩:=h1;exact Bh e
 have lb:@LT.lt Nat _ l2 s.heap.objs.size:=by obtain⟨_,e,_⟩:=h2;exact Bh e
 refine call_zip_2 h1 h2 λg g1 g2 g3 g4 g5 g6 gk=>?_;refine callType_codes (Q₁:=λobj s₁=>obj=.ref g.objs.size/\s₁ = {s with heap:=g.push {cls:=.type "dict",data:=.dict #[]}}) F.kt_called_dict (F.kt_typeCall_dict_1 _) F.entry_dict_init (kt_code_dict_new _ ⟨rfl,rfl⟩) ?_;rintro obj s₁ ⟨rfl,rfl⟩;have hnew:(g.push {cls:=.type "dict",data:=.dict #[]}).DictOfH (TK prog w) g.objs.size []:=Heap.DictOfH.new g;have z1:=Ag {cls:=.type "dict",data:=.dict #[]} g1;have hty:({s with heap:=g.push {cls:=.type "dict",data:=.dict #[]}}:Ah).TypeIs (.ref g.objs.size) "dict":=hnew.typeIs;refine⟨hty,F.args_dict_init_2 _ _,?_⟩;unfold Gg.«dict.__init__»;refine Aa ?_;unfold Builtin.Dict.selfAndRest;refine Aa (Gh hty ?_);show Bl _ _ (pure (g.objs.size,[Value.ref (s.heap.objs.size+4)])) _ _ _;refine Af ?_;show Bl _ _ (Jd "dict.__init__" g.objs.size (.ref (s.heap.objs.size+4)) [] .none) _ _ _;unfold Jd;refine Aa (Mo (T:="zip") ⟨_,z1,rfl⟩ ?_);rw[Uw (by decide)];refine Aa (keys_miss z1 hh λk1 tk1 hk1=>?_);rw[Uw (by decide)];have up:∀b o,g.get? b=some o->k1.get? b=some o:=λb o e=>hk1 b o (Ag _ e);refine Aa (Ga (Aa (wpAny_pyIter_zip (up _ _ g1) ?_)));refine Af ⟨Nv Dp.plain_loop _,?_⟩;have hd1:k1.DictOfH (TK prog w) g.objs.size []:=by
  obtain⟨o,es,ep,ho,r1,r2,r3,r4,r5⟩:=hnew;exact⟨o,es,ep,hk1 _ o ho,r1,r2,r3,(λx hx=>nomatch hx),r5⟩
 have lg:g.objs.size<k1.objs.size:=by
  obtain⟨o,es,ep,ho,_⟩:=hd1;exact Bh ho
 have D:Zt.Apart (s.heap.objs.size+4) (s.heap.objs.size+2) (s.heap.objs.size+3) s.heap.objs.size (s.heap.objs.size+1) l1 l2:=⟨WM _,⟨kI 4 la,kI 2 la,kI 3 la,xH la,kI 1 la⟩,⟨kI 4 lb,kI 2 lb,kI 3 lb,xH lb,kI 1 lb⟩⟩;have eg:g.objs.size=s.heap.objs.size+5:=g6;have i1:k1.IsListIter s.heap.objs.size l1 0:=g4.at (up _);have i2:k1.IsListIter (s.heap.objs.size+1) l2 0:=g5.at (up _);have ll1:k1.IsList l1 xs:=h1.at λo e=>up _ _ (gk _ _ e);have ll2:k1.IsList l2 ys:=h2.at λo e=>up _ _ (gk _ _ e);have lk:∀p∈ps,@LT.lt Nat _ p.2.1 s.heap.objs.size:=λp hp=>by
  obtain⟨o,items,n,e,_⟩:=hkeys p hp;exact Bh e
 refine loop (A:=A.in1) (d:=g.objs.size) (ps:=ps) hh (Fb (A:=A.in1) (show(A.units+1)+1<Ex from hu)) D (ER _ _ (xH la) xs) (ER _ _ (kI 1 lb) ys) ⟨Co (by lia),Co (by lia),Co (by lia),Co (by lia),Co (by lia),Co (by lia),Co (by lia)⟩ hz hx hy (λp hp=>by have:=lk p hp;exact⟨Bo (by lia),Bo (by lia),Bo (by lia),Bo (by lia),Bo (by lia)⟩) ps.length 0 _ [] rfl (Ea _) (Ai _)
  ⟨up _ _ g2,⟨i1,ll1⟩,⟨i2,ll2⟩,lg,(show @LT.lt Nat _ (s.heap.objs.size+4) k1.objs.size by lia),(show @LT.lt Nat _ (s.heap.objs.size+3) k1.objs.size by lia),(show @LT.lt Nat _ s.heap.objs.size k1.objs.size by lia),(show @LT.lt Nat _ (s.heap.objs.size+1) k1.objs.size by lia),.inl ⟨up _ _ g1,_,_,up _ _ g3⟩⟩ hd1 (λe he=>nomatch he) (λp hp=>nZ (hkeys p hp) λo e=>up _ _ (gk _ _ e)) λh2 tk2 hk2 hd2=>?_
 refine⟨rfl,h h2 tk2 g.objs.size (by lia) (λb o e=>?_) hd2⟩;have lb':@LT.lt Nat _ b s.heap.objs.size:=Bh e;exact hk2 b o (Bo (by lia)) (Bo (by lia)) (Bo (by lia)) (Bo (by lia)) (Bo (by lia)) (up _ _ (gk _ _ e))
end
end Zd
end PySem
namespace L2
def jR(ks:List (List aB×V))(ps:List (List aB×V)):List (List aB×V):=ps.foldl (λk p=>dY k p.1 p.2) ks
theorem I0{H:Hp}:∀{qs:List (List aB×Aj×V)} {us ws:List Ae},aX (qs.map λq=>V.ref q.2.1) us->aX (qs.map λq=>q.2.2) ws->
  ∃ps:List (List aB×Aj×Ae),us=ps.map (λp=>.ref p.2.1)/\ws=ps.map (λp=>p.2.2)/\Ff (λ(q:List aB×Aj×V) (p:List aB×Aj×Ae)=>q.1=p.1/\q.2.1=p.2.1/\RelV q.2.2 p.2.2) qs ps
 | [],_,_,O,Z=>by cases O;cases Z;exact⟨[],rfl,rfl,.nil⟩
 | q::qs,_,_,O,Z=>by
  cases O with
  | @cons _ u _ us B L=>
   cases Z with
   | @cons _ w _ ws R P=>
    obtain⟨ps,T,G,t⟩:=I0 (H:=H) L P;cases (show u=Value.ref q.2.1 from B);exact⟨(q.1,q.2.1,w)::ps,by rw[Be,T],by rw[Be,G],.cons ⟨rfl,rfl,R⟩ t⟩
theorem JA(h:Ff (λ(q:List aB×Aj×V) (p:List aB×Aj×Ae)=>q.1=p.1/\q.2.1=p.2.1/\RelV q.2.2 p.2.2) qs ps):
  ∀{kvs:List (List aB×V)} {es:List (List aB×Aj×Ae)},(∀q∈qs,H q.2.1=some (.tup (q.1.map kV)))->KT H kvs es->KT H (jR kvs (qs.map λq=>(q.1,q.2.2))) (Zd.allH es ps):=by
 induction h with
 | nil=>intro kvs es _ k;exact k
 | @cons q p qs ps r t E=>
  intro kvs es N k;obtain⟨f,j,y⟩:=q;obtain⟨O,p2,v⟩:=p;obtain⟨rfl,rfl,m⟩:=r;exact E (λz hz=>N z (Bb _ hz)) (k.put f (N _ Bi) m)
theorem zP:∀(ps:List (List aB×V)) (ks:List (List aB×V)),(jR ks ps).length<=ks.length+ps.length
 | [],ks=>Ai _
 | p::ps,ks=>by
  have O:=zP ps (dY ks p.1 p.2);have Z:=oO ks p.1 p.2;show(jR (dY ks p.1 p.2) ps).length<=ks.length+(ps.length+1);lia
section
variable {X:Cx}{a b:Cb}{ta:TA}{p p2 pos pos2:Gy}
def za6(K:Ac)(ta:TA):TE:=λm H Q=>ta m H λvs G=>∃a b xs B,∃qs:List (List aB×Aj×V),vs=[.ref a,.ref b]/\bH K G a xs/\bH K G b B/\xs=(qs.map λq=>.ref q.2.1)/\B=(qs.map λq=>q.2.2)/\(∀q∈qs,G q.2.1=some (.tup (q.1.map kV)))/\
 ∀p,G p=none->Q (.ref p) (aN G p (.dT (jR [] (qs.map λq=>(q.1,q.2.2)))))
theorem za7(hc:X.calm=true)(Y:X.A.units+2<Ex)(Z:Gl X "dict")(J:X.mg "dict" = none)(hg2:Gl X "zip")(hm2:X.mg "zip" = none)(l:PA X [a,b] ta)(P:Cj [.Call (.Name "zip" p2) [a,b] [] pos2] X.env=[(false,El (.Call (.Name "zip" p2) [a,b] [] pos2) X.env)]:=by rfl)(F:Cj [a,b] X.env=[(false,El a X.env),(false,El b X.env)]:=by rfl)(x:Cj [b] X.env=[(false,El b X.env)]:=by rfl):
  PE X (.Call (.Name "dict" p) [.Call (.Name "zip" p2) [a,b] [] pos2] [] pos) (za6 X.K ta):=by
 intro C s m H Q I h;refine Dv (iA I Z J (by decide +kernel:Cs "dict" = some (.type "dict")) (Cg ?_ P rfl));rw[P];refine Jx (Dv (iA I hg2 hm2 V1 (Cg (aY (l pos2 C s m H _ I h) λus M ⟨vs,G,W,S,f⟩=>?_) (by rw[F,x]) (by rw[x];rfl))));obtain⟨U,l2,xs,B,qs,rfl,hqa,hqb,rfl,rfl,N,q⟩:=f;obtain⟨u,v,rfl,ru,D⟩:=vals2 S;cases ru;cases D;obtain⟨its,rv1,pl,hz⟩:=W.list hqa;obtain⟨its2,rv2,pl2,hz2⟩:=W.list hqb;obtain⟨ps,T,L,O⟩:=I0 (H:=G) rv1 rv2;have ln:=Cu O;rw[Ab]at hz;refine Fo (Zd.call_zip (E:=X.xe) (ps:=ps) (W.ok.hd hc) Y pl.isList pl2.isList (by lia) (λj=>?_) (λj=>?_) (λz hz'=>?_) (λh' tk d hd hk dd=>?_)) (λv i n=>Ml n) λ_ _ e=>e
 .rw[T,<-Fg];simp
 .rw[L,<-Fg];simp
 .have:∀{qs:List (List aB×Aj×V)} {ps:List (List aB×Aj×Ae)},Ff (λ(q:List aB×Aj×V) (p:List aB×Aj×Ae)=>q.1=p.1/\q.2.1=p.2.1/\RelV q.2.2 p.2.2) qs ps->(∀q∈qs,G q.2.1=some (.tup (q.1.map kV)))->∀z∈ps,G z.2.1=some (.tup (z.1.map kV)):=by
   intro qs ps h
   induction h with
   | nil=>intro _ z hz;cases hz
   | @cons q p qs ps r t g=>
    intro N z hz;rcases Bd.mp hz with rfl|hz
    .have:=N q Bi;rw[r.1,r.2.1]at this;exact this
    .exact g (λy R=>N y (Bb _ R)) z hz
  exact iK W.hok (this O N z hz')
 .have w:=W.hok.fresh hd;have hbig:=W.big;have len:=zP (qs.map λq=>(q.1,q.2.2)) [];rw[Ab]at len;refine⟨.ref d,_,W.laid (o:=.dT (jR [] (qs.map λq=>(q.1,q.2.2)))) (t':=tk) hk hd ⟨by simp at len;lia,beq_eq_false_iff_ne.mpr (Co (Bx hbig hd)),_,(JA O N .nil).keeps λc B ec=>?_,?_⟩,rfl,q d w⟩
  .rw[bB (eO ec w)];exact ec
  .obtain⟨o,en,ep,S,k,r3,r4,_,r5⟩:=dd;exact⟨o,en,ep,S,k,r3,r4,r5⟩
end
def hV(kvs:List (List aB×W))(ps:List (List aB×W)):List (List aB×W):=ps.foldl (λkvs p=>bZ kvs p.1 p.2) kvs
section
variable {X:Cx}{a b:Cb}{ta:cN}
abbrev JB(ta:cN):aR:=λL M R=>ta L M λws I=>∃ps:List (List aB×W),ws=[.rl (ps.map λp=>.tup (p.1.map wK)),.rl (ps.map λp=>p.2)]/\R (.dt (hV [] ps)) I
theorem za8(j:X.A.units+2<Ex)(n:Gl X "dict")(J:X.mg "dict" = none)(hg2:Gl X "zip")(hm2:X.mg "zip" = none)(l:A3 X [a,b] ta)(hc:X.calm=true:=by rfl)(w:Cj [.Call (.Name "zip" p2) [a,b] [] pos2] X.env=[(false,El (.Call (.Name "zip" p2) [a,b] [] pos2) X.env)]:=by rfl)(F:Cj [a,b] X.env=[(false,El a X.env),(false,El b X.env)]:=by rfl)(Y:Cj [b] X.env=[(false,El b X.env)]:=by rfl):
  E3 X (.Call (.Name "dict" p) [.Call (.Name "zip" p2) [a,b] [] pos2] [] pos) (JB ta):=
 (za7 hc j n J hg2 hm2 l w F Y).weak λm H Q s=>s.el λL M R C U h k=>⟨L,M,_,C,U,h,λvs G ws I k1 P S r=>by
  obtain⟨ps,rfl,r⟩:=r;obtain⟨v,u,rfl,av,au⟩:=S.two;cases av with
  | @rl e xs _ f1 n1 f=>
   cases au with
   | @rl l2 B _ f2 n2 o=>
    have key:∀{ps:List (List aB×W)} {xs B:List V},aJ X.K G I xs (ps.map λp=>.tup (p.1.map wK))->aJ X.K G I B (ps.map λp=>p.2)->∃qs:List (List aB×Aj×V),xs=(qs.map λq=>.ref q.2.1)/\B=(qs.map λq=>q.2.2)/\(∀q∈qs,G q.2.1=some (.tup (q.1.map kV)))/\bK X.K G I (List aB) (qs.map λq=>(q.1,q.2.2)) ps:=by
     intro ps
     induction ps with
     | nil=>intro xs B O Z;cases O;cases Z;exact⟨[],rfl,rfl,(λq N=>nomatch N),.nil⟩
     | cons p ps E=>
      intro xs B O Z;cases O with
      | @cons x xs' _ _ a1 t1=>
       cases Z with
       | @cons y ys' _ _ a2 t2=>
        obtain⟨qs,T,D,i,e4⟩:=E t1 t2;cases a1 with
        | @tup c zs _ ec qc=>
         rw[qc.keys]at ec;refine⟨(p.1,c,y)::qs,by rw[T];rfl,by rw[D];rfl,λq N=>?_,.cons ⟨rfl,a2⟩ e4⟩;rcases Bd.mp N with rfl|N
         .exact ec
         .exact i q N
    obtain⟨qs,T,D,i,e4⟩:=key f o;refine⟨e,l2,xs,B,qs,rfl,bH.of f1,bH.of f2,T,D,i,λd hd=>?_⟩;have puts:∀{ps:List (List aB×W)} {qs:List (List aB×V)} {ks:List (List aB×V)} {kvs:List (List aB×W)},bK X.K G I (List aB) qs ps->bK X.K G I (List aB) ks kvs->bK X.K G I (List aB) (jR ks qs) (hV kvs ps):=by
     intro ps qs ks kvs h
     induction h generalizing ks kvs with
     | nil=>intro h;exact h
     | @cons q p qs ps r t E=>
      intro h;obtain⟨f,o⟩:=q;obtain⟨p1,p2⟩:=p;obtain⟨rfl,r2⟩:=r;exact E (qP h f r2)
    have g:=puts (ks:=[]) (kvs:=[]) e4 .nil;obtain⟨z,k2⟩:=P.tup (u:=.dT (jR [] (qs.map λq=>(q.1,q.2.2)))) hd;exact k _ _ _ _ (k1.trans k2) z (.dt b8 (P.nonM hd) g.keys (g.vals.newT hd)) r⟩
end
structure Dm(K:Ac)(C:Aj)(x qual:Aw)(st:Gn)(ps:List Aw)(f:Aj)(fd:Dz):Prop where
 fn:iV K x qual st f fd
 me:oN K C x f
 bi:Binds K fd ps []
structure Di(K:Ac)(C:Aj)(x qual:Aw)(st:Gn)(ps:List Aw)(f:Aj)(fd:Dz):Prop where
 fn:iV K x qual st f fd
 mak:Mk K C f
 bi:Binds K fd ps []
theorem zQ{k:Nat}(g:cC k A):A.units+2<Ex:=by have:=g.un;lia
def gQ(a b:Int×Int):Bool:=decide (a.1<b.1)||(decide (a.1=b.1)&&decide (a.2<b.2))
section
variable {prog:Ar}{w:Bk}{A:Cn}{E:Ae->Ah->Prop}{s:Ah}
theorem za9{M nb:Nat}{x1 x2 I n:Int}{Q:Ae->Ah->Prop}(J:A.units+1<Ex)(k:s.heap.get? a=some y)(H:y.cls=.type "tuple")(D:y.data=.seq xs M)(t:s.heap.get? b=some ob)(x:ob.cls=.type "tuple")(o:ob.data=.seq B nb)(ex:xs.toList=[.int x1 L,.int x2 P])(i:B.toList=[.int I Y,.int n g])(h:Q (.bool (gQ (x1,x2) (I,n))) s):Bl (Cq prog w) A (Dj .Lt (.ref a) (.ref b)) Q E s:=by
 have d:s.TypeIs (.ref a) "tuple":=⟨y,k,H⟩;have j:s.TypeIs (.ref b) "tuple":=⟨ob,t,x⟩;show Bl _ _ (richCompare .Lt (.ref a) (.ref b)) Q E s;refine Mp (op:=.Lt) d j PySem.F.slot_tuple_lt (Ck PySem.F.slot_tuple_lt d PySem.F.entry_tuple_lt ?_ (PySem.F.args_tuple_lt_2 _ _)) (Kt J);show Bl _ _ (Qq (.ref b) (.type "tuple")>>=_) _ _ s;refine Aa (Fq j Jc ?_);simp only[Ha,Cm,if_false];refine Aa (Hm k D ?_);refine Aa (Hm t o ?_);refine Aa ?_;rw[ex,i];show Bl _ _ (forIn [(Value.int x1 L,Value.int I Y),(Value.int x2 P,Value.int n g)] _ _) _ _ s;have hsz:xs.size=2/\B.size=2:=by
  have O:=congrArg Ia ex;have Z:=congrArg Ia i;simp at O Z;exact⟨O,Z⟩
 refine Jw _
  (λrest q W=>q.1=none/\W=s/\(rest=[(Value.int x1 L,Value.int I Y),(Value.int x2 P,Value.int n g)]\/(rest=[(Value.int x2 P,Value.int n g)]/\x1=I)\/(rest=[]/\x1=I/\x2=n)))
  _ ?_ ?_ _ _ ⟨rfl,rfl,.inl rfl⟩
 .rintro⟨u,v⟩ rest q W ⟨N,rfl,hc⟩;rcases hc with z|⟨z,T⟩|⟨z,_⟩
  .simp only[Dk,Ic]at z;obtain⟨⟨rfl,rfl⟩,rfl⟩:=z;refine Aa (Lo ?_)
   by_cases T:x1=I
   .rw[show(x1==I)=true by simpa using T];simp only[Ha,Cm,if_false];exact Af ⟨rfl,rfl,by simp[T]⟩
   .rw[show(x1==I)=false by simpa using T];simp only[Mc,if_true];have e:gQ (x1,x2) (I,n)=decide (x1<I):=by simp[gQ,T]
    rw[e]at h;refine Aa (Ga (Aa (PyProof.Rows.lt_int ?_)));exact Aa (Af (Af (Af ⟨_,rfl,(λe=>nomatch e),h⟩)))
  .simp only[Dk,Ic]at z;obtain⟨⟨rfl,rfl⟩,rfl⟩:=z;refine Aa (Lo ?_)
   by_cases G:x2=n
   .rw[show(x2==n)=true by simpa using G];simp only[Ha,Cm,if_false];exact Af ⟨rfl,rfl,by simp[T,G]⟩
   .rw[show(x2==n)=false by simpa using G];simp only[Mc,if_true];have e:gQ (x1,x2) (I,n)=decide (x2<n):=by simp[gQ,T]
    rw[e]at h;refine Aa (Ga (Aa (PyProof.Rows.lt_int ?_)));exact Aa (Af (Af (Af ⟨_,rfl,(λe=>nomatch e),h⟩)))
  .cases z
 .rintro⟨f,p⟩ W ⟨N,rfl,hc⟩;simp only at N;subst N;rcases hc with z|⟨z,_⟩|⟨_,T,G⟩
  .cases z
  .cases z
  .refine Af ⟨_,rfl,(λe=>nomatch e),?_⟩;subst T;subst G;have e:gQ (x1,x2) (x1,x2)=decide (xs.size<B.size):=by rw[hsz.1,hsz.2];simp[gQ]
   rw[e]at h;exact h
theorem zba{M nb:Nat}{x1 x2 I n:Int}{Q:Ae->Ah->Prop}(J:A.units+1<Ex)(k:s.heap.get? a=some y)(H:y.cls=.type "tuple")(D:y.data=.seq xs M)(t:s.heap.get? b=some ob)(x:ob.cls=.type "tuple")(o:ob.data=.seq B nb)(ex:xs.toList=[.int x1 L,.int x2 P])(i:B.toList=[.int I Y,.int n g])(h:Q (.bool (gQ (I,n) (x1,x2))) s):Bl (Cq prog w) A (Dj .Gt (.ref a) (.ref b)) Q E s:=by
 have d:s.TypeIs (.ref a) "tuple":=⟨y,k,H⟩;have j:s.TypeIs (.ref b) "tuple":=⟨ob,t,x⟩;show Bl _ _ (richCompare .Gt (.ref a) (.ref b)) Q E s;refine Mp (op:=.Gt) d j PySem.F.slot_tuple_gt (Ck PySem.F.slot_tuple_gt d PySem.F.entry_tuple_gt ?_ (PySem.F.args_tuple_gt_2 _ _)) (Kt J);show Bl _ _ (Qq (.ref b) (.type "tuple")>>=_) _ _ s;refine Aa (Fq j Jc ?_);simp only[Ha,Cm,if_false];refine Aa (Hm k D ?_);refine Aa (Hm t o ?_);refine Aa ?_;rw[ex,i];show Bl _ _ (forIn [(Value.int x1 L,Value.int I Y),(Value.int x2 P,Value.int n g)] _ _) _ _ s;have hsz:xs.size=2/\B.size=2:=by
  have O:=congrArg Ia ex;have Z:=congrArg Ia i;simp at O Z;exact⟨O,Z⟩
 refine Jw _
  (λrest q W=>q.1=none/\W=s/\(rest=[(Value.int x1 L,Value.int I Y),(Value.int x2 P,Value.int n g)]\/(rest=[(Value.int x2 P,Value.int n g)]/\x1=I)\/(rest=[]/\x1=I/\x2=n)))
  _ ?_ ?_ _ _ ⟨rfl,rfl,.inl rfl⟩
 .rintro⟨u,v⟩ rest q W ⟨N,rfl,hc⟩;rcases hc with z|⟨z,T⟩|⟨z,_⟩
  .simp only[Dk,Ic]at z;obtain⟨⟨rfl,rfl⟩,rfl⟩:=z;refine Aa (Lo ?_)
   by_cases T:x1=I
   .rw[show(x1==I)=true by simpa using T];simp only[Ha,Cm,if_false];exact Af ⟨rfl,rfl,by simp[T]⟩
   .rw[show(x1==I)=false by simpa using T];simp only[Mc,if_true];have e:gQ (I,n) (x1,x2)=decide (I<x1):=by simp[gQ,Bq T]
    rw[e]at h;refine Aa (Ga (Aa (PyProof.Rows.gt_int ?_)));exact Aa (Af (Af (Af ⟨_,rfl,(λe=>nomatch e),h⟩)))
  .simp only[Dk,Ic]at z;obtain⟨⟨rfl,rfl⟩,rfl⟩:=z;refine Aa (Lo ?_)
   by_cases G:x2=n
   .rw[show(x2==n)=true by simpa using G];simp only[Ha,Cm,if_false];exact Af ⟨rfl,rfl,by simp[T,G]⟩
   .rw[show(x2==n)=false by simpa using G];simp only[Mc,if_true];have e:gQ (I,n) (x1,x2)=decide (n<x2):=by simp[gQ,T]
    rw[e]at h;refine Aa (Ga (Aa (PyProof.Rows.gt_int ?_)));exact Aa (Af (Af (Af ⟨_,rfl,(λe=>nomatch e),h⟩)))
  .cases z
 .rintro⟨f,p⟩ W ⟨N,rfl,hc⟩;simp only at N;subst N;rcases hc with z|⟨z,_⟩|⟨_,T,G⟩
  .cases z
  .cases z
  .refine Af ⟨_,rfl,(λe=>nomatch e),?_⟩;subst T;subst G;have e:gQ (x1,x2) (x1,x2)=decide (xs.size > B.size):=by rw[hsz.1,hsz.2];simp[gQ]
   rw[e]at h;exact h
end
section
variable {X:Cx}
def rInsert:V->List V->Hp->VK->Prop:=λx vs H Q=>∃l xs y i,x=.ref l/\vs=[.int (i:Nat),y]/\H l=some (.lst xs)/\xs.length<Ao/\i<=xs.length/\Q .non (aN H l (.lst (xs.take i++y::xs.drop i)))
theorem aX.splitAt:∀{xs:List V} {us:List Ae} (i:Nat),aX xs us->aX (xs.take i) (us.take i)/\aX (xs.drop i) (us.drop i)
 | _,_,0,h=>⟨.nil,h⟩
 | _,_,i+1,.nil=>⟨.nil,.nil⟩
 | _,_,i+1,.cons r t=>by
  obtain⟨O,Z⟩:=aX.splitAt i t;exact⟨.cons r O,Z⟩
theorem zbb:sQ X "list.insert" rInsert:=by
 intro C s m H x vs v us Q I d T h;obtain⟨l,xs,y,i,rfl,rfl,o,hz,hi,q⟩:=h;cases d;obtain⟨c,g,rfl,B,R⟩:=vals2 T;obtain⟨tk,rfl⟩:=B;obtain⟨z,its,n,r,hl,e⟩:=I.lstM o;have Y:its.length=xs.length:=r.length.symm;have P:Ao=16777216:=Jo;have a:¬(!Builtin.List.listFitsIndex ((i:Nat):Int))=true:=by
  have O:Builtin.List.listFitsIndex ((i:Nat):Int)=true:=by
   unfold Builtin.List.listFitsIndex;rw[Cy,decide_eq_true_eq,decide_eq_true_eq];lia
  rw[O];decide
 have u:its.toArray.size<=Ao:=by rw[Bj];lia
 generalize D:((i:Nat):Int)=j at a e⊢;have J:=PySem.AutoSeq1.list_insert_list_int_val_1 l its.toArray n j tk g a u;refine Ks F.slot_list_insert ⟨_,e,rfl⟩ F.entry_list_insert (F.args_list_insert_3 _ _ _) J ⟨e,?_⟩;obtain⟨O,Z⟩:=aX.splitAt i r;refine⟨.non,_,I.lset (its':=its.take i++g::its.drop i) o e ?_ (O.append (.cons R Z)) ?_,rfl,q⟩
 .have hk:(if j<0 then(j+(its.toArray.size:Int)).toNat else min j.toNat its.toArray.size)=i:=by
   rw[<-D,Uv (by lia),Du,Bj];lia
  show(its.toArray.extract 0 (if j<0 then(j+(its.toArray.size:Int)).toNat else min j.toNat its.toArray.size)).push g++its.toArray.extract (if j<0 then(j+(its.toArray.size:Int)).toNat else min j.toNat its.toArray.size)=_;rw[hk];apply Array.toList_inj.mp;simp[Pb,Array.toList_push];rw[Ko (by rw[He];lia)]
 .rw[Ak,Bu,Ca,He];lia
end
section
variable {X:Cx}
abbrev zR:R3:=λx y M R=>∃a b c d:Int,x=.tup [.int a,.int b]/\y=.tup [.int c,.int d]/\R (.bl (gQ (a,b) (c,d))) M
abbrev JC:R3:=λx y M R=>∃a b c d:Int,x=.tup [.int a,.int b]/\y=.tup [.int c,.int d]/\R (.bl (gQ (c,d) (a,b))) M
theorem uU{C:Pn}{g:SV}{H:Hp}{M:Mm}{s:Ah}{x:V}{v:Ae}{a b:Int}(I:Inv X C g H s)(d:RelV x v)(N:AV X.K H M x (.tup [.int a,.int b])):∃p o its n t u,v=.ref p/\s.heap.get? p=some o/\o.cls=.type "tuple"/\o.data=.seq its n/\its.toList=[.int a t,.int b u]:=by
 cases N with
 | @tup p xs _ e q=>
  cases (show v=Value.ref p from d);obtain⟨y,z,rfl,D,G⟩:=q.two;obtain rfl:=D.inv;obtain rfl:=G.inv;obtain⟨_,its,r,o,O,Z,m,f⟩:=(show b9 X.prog X.w H s.heap p (.tup [.int a,.int b]) from I.hok p _ e);obtain⟨Y,S,rfl,B,R⟩:=vals2 r;obtain⟨L,rfl⟩:=B;obtain⟨P,rfl⟩:=R;exact⟨p,o,_,m,L,P,rfl,O,Z,f,by simp⟩
theorem JD(T:X.A.units+1<Ex):bC X (Dj .Lt) (cJ X.K zR):=by
 rintro C s m H x y v u Q I J L ⟨F,S,M,R,U,N,t,⟨a,b,c,d,rfl,rfl,r⟩,k⟩;obtain⟨p,o,its,n,l,P,rfl,O,Z,f,h4⟩:=uU I J N;obtain⟨G,g,its',z,e,h,rfl,Y,i,V,W⟩:=uU I L t;exact za9 T O Z f Y i V h4 W ⟨.bl _,H,I,rfl,k.at U (.bl _) r⟩
theorem JE(T:X.A.units+1<Ex):bC X (Dj .Gt) (cJ X.K JC):=by
 rintro C s m H x y v u Q I J L ⟨F,S,M,R,U,N,t,⟨a,b,c,d,rfl,rfl,r⟩,k⟩;obtain⟨p,o,its,n,l,P,rfl,O,Z,f,h4⟩:=uU I J N;obtain⟨G,g,its',z,e,h,rfl,Y,i,V,W⟩:=uU I L t;exact zba T O Z f Y i V h4 W ⟨.bl _,H,I,rfl,k.at U (.bl _) r⟩
def JF:W->List W->Mm->K3->Prop
 | .ref l,[.int i,y],M,R=>∃ws,M l=some (.lst ws)/\ws.length<Ao/\0<=i/\i<=ws.length/\R .non (put M l (.lst (ws.take i.toNat++y::ws.drop i.toNat)))
 | _,_,_,_=>False
theorem JG{K:Ac}{H:Hp}{M:Mm}:∀{vs:List V} {ws:List W} (i:Nat),aJ K H M vs ws->aJ K H M (vs.take i) (ws.take i)/\aJ K H M (vs.drop i) (ws.drop i)
 | _,_,0,h=>⟨.nil,h⟩
 | _,_,i+1,.nil=>⟨.nil,.nil⟩
 | _,_,i+1,.cons r t=>by
  obtain⟨O,Z⟩:=JG i t;exact⟨.cons r O,Z⟩
theorem zbc:e9 X "list.insert" (jI X.K JF):=by
 rintro C s m H x xs v us Q I d rs ⟨F,ws,M,R,U,N,S,h,k⟩
 match F,ws,h with
 | .ref l,[.int i,y],h=>
  obtain⟨u,z,rfl,c,G⟩:=S.two;obtain rfl:=N.inv;obtain rfl:=c.inv;obtain⟨ws,e,hl,Y,O,r⟩:=h;obtain⟨i,rfl⟩:=Np Y;obtain⟨vs,f,q⟩:=U.lst e;obtain⟨n,p⟩:=JG i q;rw[Du]at r;exact zbb C s m H _ _ v us Q I d rs ⟨l,vs,z,i,rfl,rfl,f,by rw[q.length];exact hl,by rw[q.length];lia,xP U k e (n.append (.cons G p)) .non r⟩
end
theorem n6{U:Type}[DecidableEq U]{kvs:List (U×W)}{k j:U}{w:W}:aT (bZ kvs k w) j=if k=j then some w else aT kvs j:=pI kvs k j w
theorem n8{U:Type}[DecidableEq U](e:U×W)(t:List (U×W))(k:U):aT (e::t) k=if e.1=k then some e.2 else aT t k:=eI e t k
theorem uV{U:Type}[DecidableEq U]{k j:U}:∀{kvs:List (U×W)},aT (i5 kvs k) j=if k=j then none else aT kvs j
 | []=>by unfold i5;rw[List.filter_nil];split<;>rfl
 | e::t=>by
  have E:=uV (k:=k) (j:=j) (kvs:=t);unfold i5 at E⊢;rw[Fn]
  by_cases h:e.1=k
  .rw[Uv (by simp[h]),E,n8]
   by_cases D:k=j
   .rw[Uw D,Uw D]
   .rw[Uv D,Uv D,Uv (by rw[h];exact D)]
  .rw[Uw (by simp[h]),n8,E,n8]
   by_cases D:k=j
   .rw[Uw D,Uw D,Uv (by rw[<-D];exact h)]
   .rw[Uv D,Uv D]
theorem zS{U:Type}[DecidableEq U](kvs:List (U×W))(k:U)(w:W):(bZ kvs k w).length<=kvs.length+1:=rB kvs k w
theorem JH{U:Type}[DecidableEq U]{k:U}:∀{kvs:List (U×W)},(aT kvs k).isSome=true->(i5 kvs k).length<kvs.length
 | [],h=>by cases h
 | e::t,h=>by
  unfold i5;rw[Fn];have m:(t.filter λg=>decide (g.1≠k)).length<=t.length:=Iq _ _
  by_cases P:e.1=k
  .rw[Uv (by simp[P]),Bu];lia
  .rw[Uw (by simp[P]),Bu,Bu];rw[n8,Uv P]at h;have:=JH h;unfold i5 at this;lia
structure d9{U:Type}(kk:U->List aB)(M0 M:Mm)(a:Aj)(kvs:List (List aB×W))(g:U->Option (List W)):Prop where
 sub:L2.Sub M0 M
 new:M0 a=none
 at_:M a=some (.dT kvs)
 non:∀k,g k=none->aT kvs (kk k)=none
 som:∀k ws,g k=some ws->∃p,aT kvs (kk k)=some (.ref p)/\p≠a/\M0 p=none/\M p=some (.lst ws)
 inj:∀k j p,aT kvs (kk k)=some (.ref p)->aT kvs (kk j)=some (.ref p)->k=j
theorem gR(h:L2.Sub M0 M)(n:M0 p=none):L2.Sub M0 (put M p o):=λa u e=>by
 rw[aM (λz=>by rw[z,n]at e;cases e)];exact h a u e
section
variable {U:Type}[DecidableEq U]{kk:U->List aB}{M0 M:Mm}{a p:Aj}{kvs:List (List aB×W)}{g:U->Option (List W)}{o:MO}{k:U}{ws:List W}
theorem d9.lift(h:d9 kk M0 M a kvs g)(B:M p=none\/∃u,M0 p=some u):d9 kk (put M0 p o) (put M p o) a kvs g:=by
 have ne:∀{b:Aj},M0 b=none->(∃u,M b=some u)->b≠p:=λ{b} Y ⟨u,O⟩ e=>by
  subst e;rcases B with z|⟨v,z⟩
  .rw[O]at z;cases z
  .rw[Y]at z;cases z
 refine⟨Sub.put h.sub,?_,?_,h.non,λk ws e=>?_,h.inj⟩
 .rw[aM (ne h.new ⟨_,h.at_⟩)];exact h.new
 .rw[aM (ne h.new ⟨_,h.at_⟩)];exact h.at_
 .obtain⟨q,O,Z,f,h4⟩:=h.som k ws e;have:=ne f ⟨_,h4⟩;exact⟨q,O,Z,by rw[aM this];exact f,by rw[aM this];exact h4⟩
theorem d9.more(h:d9 kk M0 M a kvs g)(B:M p=none):d9 kk M0 (put M p o) a kvs g:=by
 have ne:∀{b:Aj},(∃u,M b=some u)->b≠p:=λ{b} ⟨u,O⟩ e=>by subst e;rw[B]at O;cases O
 refine⟨gR h.sub (h.sub.non B),h.new,by rw[aM (ne ⟨_,h.at_⟩)];exact h.at_,h.non,λk ws e=>?_,h.inj⟩;obtain⟨q,O,Z,f,h4⟩:=h.som k ws e;exact⟨q,O,Z,f,by rw[aM (ne ⟨_,h4⟩)];exact h4⟩
theorem d9.has(h:d9 kk M0 M a kvs g)(e:g k=some ws):∃p,aT kvs (kk k)=some (.ref p)/\M p=some (.lst ws):=by
 obtain⟨q,O,_,_,h4⟩:=h.som k ws e;exact⟨q,O,h4⟩
theorem d9.look(h:d9 kk M0 M a kvs g)(k:U):(aT kvs (kk k)).isSome=(g k).isSome:=by
 cases e:g k with
 | none=>rw[h.non k e];rfl
 | some ws=>obtain⟨q,O,_⟩:=h.has e;rw[O];rfl
theorem d9.wr(h:d9 kk M0 M a kvs g)(hk:aT kvs (kk k)=some (.ref p)):d9 kk M0 (put M p (.lst ws)) a kvs (λj=>if k=j then some ws else g j):=by
 obtain⟨b,F⟩:∃b,g k=some b:=by
  cases e:g k with
  | none=>rw[h.non k e]at hk;cases hk
  | some ws=>exact⟨_,rfl⟩
 obtain⟨q,O,Z,f,h4⟩:=h.som k b F;rw[hk]at O;cases O;refine⟨gR h.sub f,h.new,by rw[aM (Bq Z)];exact h.at_,λj e=>?_,λj us e=>?_,h.inj⟩
 .by_cases D:k=j
  .rw[Uw D]at e;cases e
  .rw[Uv D]at e;exact h.non j e
 .by_cases D:k=j
  .rw[Uw D]at e;cases e;subst D;exact⟨p,hk,Z,f,aL⟩
  .rw[Uv D]at e;obtain⟨q,A,Y,C,W⟩:=h.som j us e;refine⟨q,A,Y,C,?_⟩;rw[aM (λz=>D (h.inj k j p hk (by rw[<-z];exact A)))];exact W
theorem d9.add(d:∀k j,kk k=kk j->k=j)(h:d9 kk M0 M a kvs g)(t:g k=none)(B:M p=none):d9 kk M0 (put (put M p (.lst ws)) a (.dT (bZ kvs (kk k) (.ref p)))) a (bZ kvs (kk k) (.ref p)) (λj=>if k=j then some ws else g j):=by
 have ne:∀{b:Aj},(∃u,M b=some u)->b≠p:=λ{b} ⟨u,O⟩ e=>by subst e;rw[B]at O;cases O
 have c:p≠a:=Bq (ne ⟨_,h.at_⟩);have f:∀j q,aT kvs (kk j)=some (.ref q)->∃u,M q=some u:=λj q e=>by
  cases l:g j with
  | none=>rw[h.non j l]at e;cases e
  | some us=>
   obtain⟨S,A,_,_,W⟩:=h.som j us l;rw[e]at A;cases A;exact⟨_,W⟩
 refine⟨gR (gR h.sub (h.sub.non B)) h.new,h.new,aL,λj e=>?_,λj us e=>?_,λi j q T G=>?_⟩
 .by_cases D:k=j
  .rw[Uw D]at e;cases e
  .rw[Uv D]at e;rw[n6,Uv (λz=>D (d _ _ z))];exact h.non j e
 .by_cases D:k=j
  .rw[Uw D]at e;cases e;subst D;exact⟨p,by rw[n6,Uw rfl],c,h.sub.non B,by rw[aM c,aL]⟩
  .rw[Uv D]at e;obtain⟨q,A,Y,C,W⟩:=h.som j us e;exact⟨q,by rw[n6,Uv (λz=>D (d _ _ z))];exact A,Y,C,by rw[aM Y,aM (ne ⟨_,W⟩)];exact W⟩
 .rw[n6]at T G
  by_cases O:kk k=kk i
  .by_cases Z:kk k=kk j
   .exact(d _ _ O).symm.trans (d _ _ Z)
   .rw[Uw O]at T;rw[Uv Z]at G;cases T;obtain⟨u,z⟩:=f j p G;rw[B]at z;cases z
  .by_cases Z:kk k=kk j
   .rw[Uv O]at T;rw[Uw Z]at G;cases G;obtain⟨u,z⟩:=f i p T;rw[B]at z;cases z
   .rw[Uv O]at T;rw[Uv Z]at G;exact h.inj i j q T G
theorem d9.del(d:∀k j,kk k=kk j->k=j)(h:d9 kk M0 M a kvs g):d9 kk M0 (put M a (.dT (i5 kvs (kk k)))) a (i5 kvs (kk k)) (λj=>if k=j then none else g j):=by
 refine⟨gR h.sub h.new,h.new,aL,λj e=>?_,λj us e=>?_,λi j q T G=>?_⟩
 .rw[uV]
  by_cases D:k=j
  .rw[Uw (by rw[D])]
  .rw[Uv D]at e;rw[Uv (λz=>D (d _ _ z))];exact h.non j e
 .by_cases D:k=j
  .rw[Uw D]at e;cases e
  .rw[Uv D]at e;obtain⟨q,A,Y,C,W⟩:=h.som j us e;exact⟨q,by rw[uV,Uv (λz=>D (d _ _ z))];exact A,Y,C,by rw[aM Y];exact W⟩
 .rw[uV]at T G;split at T
  .cases T
  .split at G
   .cases G
   .exact h.inj i j q T G
theorem d9.same{g':U->Option (List W)}(h:d9 kk M0 M a kvs g)(e:∀k,g' k=g k):d9 kk M0 M a kvs g':=by
 have:g'=g:=funext e;rw[this];exact h
end
structure Cc where
 q:Aj
 s:Aj
 f:Aj
 g:Aj
 p:Aj
 h:Aj
 i:Aj
 c:Aj
 t:Aj
def cW(c:aQ):W:=.tup [.int c.1,.int c.2]
def cK(c:aQ):List aB:=[Sum.inl c.1,Sum.inl c.2]
theorem zbd(c:aQ):cW c=.tup ((cK c).map wK):=rfl
theorem JI:∀a b:aQ,cK a=cK b->a=b:=λa b h=>by
 unfold cK at h;simp only[Dk,Mf,and_true]at h;exact Oq h.1 h.2
def fV(cut:List Int):W:=.tup (cut.map W.int)
def j6(x:Nat×List Int):W:=.tup [.int x.1,fV x.2]
section
variable {O:Type}
theorem rG{U i:Type}[DecidableEq U]{t:List (U×i)}{k:U}(h:∀e∈t,e.1≠k):aK t k=none:=by
 induction t with
 | nil=>rfl
 | cons e t E=>rw[eI,Uv (h e Bi)];exact E λx S=>h x (Bb _ S)
theorem uW(h:dG a b=true):a≠b:=λe=>by subst e;exact HS h
theorem JJ(c:aQ)(x:O)(d:aQ):∀{q:List (aQ×List O)},gP q->aK (cX c x q) d=if c=d then some ((aK q c).getD []++[x]) else aK q d
 | [],_=>by rw[cX,eI];rfl
 | (e,xs)::r,h=>by
  obtain⟨_,Z,f⟩:=h;rw[cX]
  by_cases Y:dG c e=true
  .rw[Uw Y,eI,JJ c x d f,eI,eI,Uv (Bq (uW Y))]
   by_cases hd:e=d
   .rw[Uw hd,Uw hd,Uv (λz=>uW Y (z.trans hd.symm))]
   .rw[Uv hd,Uv hd]
  .rw[Uv Y]
   by_cases h4:e=c
   .subst h4;rw[Uw rfl,eI,eI,eI,Uw rfl]
    by_cases hd:e=d
    .rw[Uw hd,Uw hd];rfl
    .rw[Uv hd,Uv hd,Uv hd]
   .rw[Uv h4,eI];have U:aK ((e,xs)::r) c=none:=rG λz hz=>by
     rcases Bd.mp hz with y|y
     .rw[y];exact h4
     .intro T;have:=Z z y;rw[T]at this;exact Y this
    rw[U];rfl
def pos(c:aQ):List aQ->Nat
 | []=>0
 | d::r=>if dG c d=true then pos c r+1 else 0
theorem JK(c:aQ):∀cs:List aQ,pos c cs<=cs.length
 | []=>Ai _
 | d::r=>by
  rw[pos];split
  .have:=JK c r;simp;lia
  .simp
theorem zT(c:aQ)(x:O):∀{q:List (aQ×List O)},gP q->(aK q c).isSome=false->(cX c x q).map (·.1)=(q.map (·.1)).take (pos c (q.map (·.1)))++c::(q.map (·.1)).drop (pos c (q.map (·.1)))
 | [],_,_=>rfl
 | (e,xs)::r,h,U=>by
  obtain⟨_,Z,f⟩:=h;rw[eI]at U
  by_cases h4:e=c
  .rw[Uw h4]at U;cases U
  .rw[Uv h4]at U;rw[cX,Be,pos]
   by_cases Y:dG c e=true
   .rw[Uw Y,Uw Y,Be,zT c x f U];rfl
   .rw[Uv Y,Uv Y,Uv h4];rfl
theorem JL(c:aQ)(x:O):∀{q:List (aQ×List O)},gP q->(aK q c).isSome=true->(cX c x q).map (·.1)=q.map (·.1)
 | [],_,h=>by cases h
 | (e,xs)::r,h,U=>by
  obtain⟨_,Z,f⟩:=h;rw[eI]at U;rw[cX]
  by_cases X:dG c e=true
  .rw[Uv (Bq (uW X))]at U;rw[Uw X,Be,JL c x f U];rfl
  .rw[Uv X]
   by_cases h4:e=c
   .rw[Uw h4];rfl
   .rw[Uv h4]at U;obtain⟨B,K⟩:=Eb.mp U;have:∃z∈r,z.1=c:=by
     have:∀{t:List (aQ×List O)},aK t c=some B->∃z∈t,z.1=c:=by
      intro t
      induction t with
      | nil=>intro e;cases e
      | cons b t E=>
       intro e;rw[eI]at e
       by_cases Y:b.1=c
       .exact⟨b,Bi,Y⟩
       .rw[Uv Y]at e;obtain⟨z,X,Z⟩:=E e;exact⟨z,Bb _ X,Z⟩
     exact this K
    obtain⟨z,hz,T⟩:=this;have:=Z z hz;rw[T]at this;exact absurd this X
theorem JM:∀{q:List (aQ×List O)},gP q->q.length<=(bR q).length
 | [],_=>Ai _
 | (e,xs)::r,h=>by
  obtain⟨Z,_,f⟩:=h;have:=JM f;have:=Lq.mpr Z;rw[bR,Ak,Ab,Bu];lia
theorem JN:∀{q:List (aQ×List O)} {c:aQ},((aK q c).getD []).length<=(bR q).length
 | [],_=>Ai _
 | (e,xs)::r,c=>by
  rw[eI,bR,Ak,Ab];split
  .show xs.length<=_;lia
  .have:=JN (q:=r) (c:=c);lia
theorem JO:∀{q S:List (aQ×List O)} {c:aQ} {x:O},gP q->hJ q=some (c,x,S)->∃r B,q=r++[(c,B++[x])]/\S=(if B.isEmpty then r else r++[(c,B)])
 | [],S,c,x,_,h=>by cases h
 | [(d,xs)],S,c,x,hf,h=>by
  obtain⟨Z,_,_⟩:=hf;rcases Gb xs with z|⟨B,y,z⟩
  .exact absurd z Z
  .rw[Gd]at z;subst z;simp[hJ]at h;obtain⟨rfl,rfl,rfl⟩:=h;refine⟨[],B,rfl,?_⟩;cases B<;>simp
 | e::G::r,S,c,x,hf,h=>by
  obtain⟨_,_,f⟩:=hf;rw[hJ]at h;split at h
  .cases h
  .rename_i u x1 n T;simp only[Option.some.injEq,Ic]at h;obtain⟨rfl,rfl,rfl⟩:=h;obtain⟨A,B,V,R⟩:=JO f T;refine⟨e::A,B,by rw[V];rfl,?_⟩;rw[R];split<;>rfl
theorem uX{U i:Type}[DecidableEq U]{t:List (U×i)}{k:U}{v:i}(h:∀e∈t,e.1≠k)(j:U):aK (t++[(k,v)]) j=if k=j then some v else aK t j:=by
 rw[HU]
 by_cases D:k=j
 .subst D;rw[Uw rfl,Uw rfl,rG h];rfl
 .rw[Uv D,Uv D,Option.or_none]
theorem JP:∀{r:List (aQ×List O)} {c:aQ} {B:List O},gP (r++[(c,B)])->∀e∈r,e.1≠c
 | [],_,_,_,e,h=>nomatch h
 | b::r,c,B,h,e,P=>by
  obtain⟨_,Z,f⟩:=h;rcases Bd.mp P with z|z
  .rw[z];exact Bq (uW (Z (c,B) (by simp)))
  .exact JP f e z
theorem JQ:∀{q:List (aQ×List O)},gP q->(q.map (·.1)).Pairwise λa b=>dG b a=true
 | [],_=>.nil
 | (e,xs)::r,h=>by
  obtain⟨_,Z,f⟩:=h;rw[Be,List.pairwise_cons];refine⟨λa l=>?_,JQ f⟩;obtain⟨z,hz,rfl⟩:=Bc.mp l;exact Z z hz
end
theorem JR:∀{cs:List aQ} {k:Nat},k<=cs.length->(∀i d,i<k->cs[i]? = some d->dG c d=true)->(∀i d,k<=i->cs[i]? = some d->dG c d=false)->pos c cs=k
 | [],k,h,_,_=>by simp at h;subst h;rfl
 | d::r,k,h,O,Z=>by
  rw[pos];cases k with
  | zero=>rw[Uv (by rw[Z 0 d (Ai _) rfl];decide)]
  | succ k=>
   rw[Uw (O 0 d (by lia) rfl),JR (k:=k) (by simpa using h) (λi e hi P=>O (i+1) e (by lia) (by simpa using P)) λi e hi P=>Z (i+1) e (by lia) (by simpa using P)]
structure Aq where
 o:Aj
 d:Aj
 c:Aj
 w:Aj
def qf(A:Aq):List (Aw×W):=[("costs",.ref A.c),("waiting",.ref A.w)]
theorem pO:Ce ("costs" : Aw) (qf A)=some (W.ref A.c):=by kernel_rfl
theorem pP:Ce ("waiting" : Aw) (qf A)=some (W.ref A.w):=by kernel_rfl
theorem zbe:Ce ("place_of" : Aw) (qf A)=none:=by kernel_rfl
theorem zbf:Ce ("put" : Aw) (qf A)=none:=by kernel_rfl
theorem zbg:Ce ("take" : Aw) (qf A)=none:=by kernel_rfl
theorem zbh:Ce ("is_done" : Aw) (qf A)=none:=by kernel_rfl
structure Qm(C:Cc)(M0 M:Mm)(A:Aq)(cs:List aQ):Prop where
 sub:L2.Sub M0 M
 no:M0 A.o=none
 nc:M0 A.c=none
 ne:A.o≠A.c
 ob:M A.o=some (.ins C.q A.d (qf A))
 co:M A.c=some (.lst (cs.map cW))
abbrev Qu:=List (aQ×List (Nat×List Int))
abbrev wG(q:Qu):aQ->Option (List W):=λc=>(aK q c).map λxs=>xs.map j6
structure QR(C:Cc)(M0 M:Mm)(A:Aq)(q:Qu):Prop where
 fall:gP q
 ex:∃M1 kvs,Qm C M0 M1 A (q.map (·.1))/\d9 cK M1 M A.w kvs (wG q)/\kvs.length<=q.length
theorem Qm.lift{C:Cc}{M0 M:Mm}{A:Aq}{cs:List aQ}{p:Aj}{o:MO}(h:Qm C M0 M A cs)(B:M p=none\/∃u,M0 p=some u):Qm C (put M0 p o) (put M p o) A cs:=by
 have ne:∀{b:Aj},M0 b=none->(∃u,M b=some u)->b≠p:=λ{b} Y ⟨u,O⟩ e=>by
  subst e;rcases B with z|⟨v,z⟩
  .rw[O]at z;cases z
  .rw[Y]at z;cases z
 have n1:=ne h.no ⟨_,h.ob⟩;have n2:=ne h.nc ⟨_,h.co⟩;exact⟨Sub.put h.sub,by rw[aM n1];exact h.no,by rw[aM n2];exact h.nc,h.ne,by rw[aM n1];exact h.ob,by rw[aM n2];exact h.co⟩
theorem Qm.costs{C:Cc}{M0 M:Mm}{A:Aq}{cs cs':List aQ}(h:Qm C M0 M A cs):Qm C M0 (put M A.c (.lst (cs'.map cW))) A cs':=
 ⟨gR h.sub h.nc,h.no,h.nc,h.ne,by rw[aM h.ne];exact h.ob,aL⟩
theorem QR.lift(h:QR C M0 M A q)(B:M p=none\/∃u,M0 p=some u):QR C (put M0 p o) (put M p o) A q:=by
 obtain⟨I,kvs,O,Z,f⟩:=h.ex;refine⟨h.fall,put I p o,kvs,O.lift ?_,Z.lift ?_,f⟩
 .rcases B with z|z
  .exact .inl (Z.sub.non z)
  .exact .inr z
 .rcases B with z|⟨u,z⟩
  .exact .inl z
  .exact .inr ⟨u,O.sub _ _ z⟩
theorem QR.more(h:QR C M0 M A q)(B:M p=none):QR C M0 (put M p o) A q:=by
 obtain⟨I,kvs,O,Z,f⟩:=h.ex;exact⟨h.fall,I,kvs,O,Z.more B,f⟩
theorem QR.sub(h:QR C M0 M A q):L2.Sub M0 M:=by
 obtain⟨I,kvs,O,Z,f⟩:=h.ex;exact O.sub.trans Z.sub
theorem QR.ob(h:QR C M0 M A q):M A.o=some (.ins C.q A.d (qf A)):=by
 obtain⟨I,kvs,O,Z,f⟩:=h.ex;exact Z.sub _ _ O.ob
theorem QR.co(h:QR C M0 M A q):M A.c=some (.lst ((q.map (·.1)).map cW)):=by
 obtain⟨I,kvs,O,Z,f⟩:=h.ex;exact Z.sub _ _ O.co
def JS(C:Cc):a8:=λws M R=>∃M0 a dx,ws=[.ref a]/\M=put M0 a (.ins C.q dx [])/\M0 a=none/\∀V (A:Aq),A.o=a->QR C M0 V A []->R .non V
def JT(C:Cc):a8:=λws M R=>∃M0 A q,ws=[.ref A.o]/\QR C M0 M A q/\R (.bl (decide (q=[]))) M
def JU(C:Cc):a8:=λws M R=>∃(A:Aq) (cs:List aQ) (c:aQ),ws=[.ref A.o,cW c]/\M A.o=some (.ins C.q A.d (qf A))/\M A.c=some (.lst (cs.map cW))/\cs.Pairwise (λa b=>dG b a=true)/\cs.length<10000000/\R (.int (pos c cs:Nat)) M
def zU(C:Cc):a8:=λws M R=>∃M0 A q c x,ws=[.ref A.o,cW c,j6 x]/\QR C M0 M A q/\(bR (cX c x q)).length<10000000/\∀V,QR C M0 V A (cX c x q)->R .non V
def JV(C:Cc):a8:=λws M R=>∃M0 A q c x S,ws=[.ref A.o]/\QR C M0 M A q/\hJ q=some (c,x,S)/\∀V,QR C M0 V A S->R (.tup [cW c,j6 x]) V
abbrev zbi:List Aw:=["self"]
abbrev zbj(C:Cc):aD:=
   (aF (i4 C.q aH "costs" (iL aC))
   (i4 C.q aH "waiting" mC))
abbrev zbk:List Aw:=["self"]
abbrev zbl(C:Cc):aD:=
   (bS (aG (eC false) (bU dH (aA (cQ C.q aH "costs") aC)) bL))
abbrev zbm:List Aw:=["self","cost","thing"]
abbrev zbn(C:Cc):aD:=
   (aF (cI (bT (aG (cH true) aS (cQ C.q aH "waiting")))
    (aF (gM (iL aC) (iE (cQ C.q aH "waiting") aS))
   (cE (eA "list" JF (cQ C.q aH "costs") (aA (dU C.q "place_of" (JU C) aH (aA aS aC)) (aA aS aC)))))
    dA)
   (cE (eA "list" fJ (vX (cQ C.q aH "waiting") aS) (aA a6 aC))))
abbrev zbo:List Aw:=["self","cost","low","high","middle"]
abbrev zbp(C:Cc):aD:=
   (aW 2 bL)
abbrev zbq(C:Cc):aD:=
   (aW 3 (bU dH (aA (cQ C.q aH "costs") aC)))
abbrev zbr(C:Cc):aD:=
   (aF (aW 4 (aG jK (aG dD a6 bJ) lR))
   (cI (bT (aG JC (vX (cQ C.q aH "costs") bG) aS))
    (aW 2 (aG dD bG bD))
    (aW 3 bG)))
abbrev zbs(C:Cc):aD:=
   (mE (bT (aG nN a6 bJ)) (zbr C))
abbrev zbt(C:Cc):aD:=
   (bS a6)
abbrev zbu(C:Cc):aD:=(aF (zbp C) (aF (zbq C) (aF (zbs C) (zbt C))))
abbrev zbv:List Aw:=["self","cost","things","thing"]
abbrev zbw(C:Cc):aD:=
   (aW 1 (vX (cQ C.q aH "costs") (jY j0 bD)))
abbrev zbx(C:Cc):aD:=
   (aW 2 (vX (cQ C.q aH "waiting") aS))
abbrev zby(C:Cc):aD:=
   (aW 3 (qN "list" tZ a6))
abbrev zbz(C:Cc):aD:=
   (cI (bT (aG (eC false) (bU dH (aA a6 aC)) bL))
    (aF (cE (qN "list" tZ (cQ C.q aH "costs")))
   (cE (eA "dict" IP (cQ C.q aH "waiting") (aA aS aC))))
    dA)
abbrev zbA(C:Cc):aD:=
   (bS (a9 (aA aS (aA bJ aC))))
abbrev zbB(C:Cc):aD:=(aF (zbw C) (aF (zbx C) (aF (zby C) (aF (zbz C) (zbA C)))))
theorem z3:3<=Ao:=by decide
theorem cB{b:Bool}{P Q:Prop}(O:b=true->P)(Z:b=false->Q):if b=true then P else Q:=by cases b;exact Z rfl;exact O rfl
theorem zbC{R:List W->(Mm->Prop)->Mm->Prop}(e:w=.rl ws)(h:R ws (λ_=>True) M):L2.jM w M R:=by rw[e];exact h
theorem n9(h:M a=some (.dT kvs))(hl:aT kvs k=some w)(r:R w M):l9 a (.tup (k.map wK)) M R:=F0 (.inr ⟨kvs,k,h,rfl,hl.symm⟩) r
theorem hW(h:M a=some (.lst ws)):kP "list" (.ref a) M:=.inl ⟨rfl,_,h⟩
theorem rH(h:M a=some (.dT kvs)):kP "dict" (.ref a) M:=.inr ⟨rfl,.inr ⟨_,h⟩⟩
theorem zbD(h:JT C ws M R):zbl C (bA R) (bF zbk ws) M:=by
 obtain⟨M0,A,q,rfl,N,r⟩:=h;refine⟨A.o,A.d,qf A,_,rfl,N.ob,pO,.inl ⟨_,N.co,M,aP,?_⟩⟩;show R (.bl (decide (((Lg cW (q.map λx=>x.1)).length:Int)=0))) M;have e:decide (((Lg cW (q.map λx=>x.1)).length:Int)=0)=decide (q=[]):=by
  cases q<;>simp;lia
 rw[e];exact r
theorem zbE(h:JS C ws M R):zbj C (bA R) (bF zbi ws) M:=by
 obtain⟨M0,a,dx,rfl,rfl,l,r⟩:=h;refine(λp B=>?_);have c:p≠a:=λe=>by rw[e,aL]at B;cases B
 have i:M0 p=none:=by rw[aM c]at B;exact B
 refine⟨a,dx,[],rfl,by rw[aM (Bq c),aL],by decide,λw hw=>?_⟩;have d:w≠a:=λe=>by rw[e,aL]at hw;cases hw
 have g:w≠p:=λe=>by rw[e,aM c,aL]at hw;cases hw
 have m:M0 w=none:=by rw[aM d,aM g,aM d]at hw;exact hw
 refine⟨a,dx,b5 "costs" (.ref p) [],rfl,by rw[aM (Bq d),aL],(show(1:Nat)<1000 by decide),_,aP,r _ ⟨a,dx,p,w⟩ rfl ⟨trivial,put (put M0 p (.lst [])) a (.ins C.q dx (qf ⟨a,dx,p,w⟩)),[],⟨gR (gR (aP) i) l,l,i,Bq c,aL,by rw[aM c,aL];rfl⟩,?_,Ai _⟩⟩;have e:put (put (put (put (put M0 a (.ins C.q dx [])) p (.lst [])) a (.ins C.q dx (b5 "costs" (.ref p) []))) w (.dT [])) a (.ins C.q dx (b5 "waiting" (.ref w) (b5 "costs" (.ref p) [])))=put (put (put M0 p (.lst [])) a (.ins C.q dx (qf ⟨a,dx,p,w⟩))) w (.dT []):=by
  have eq:b5 "waiting" (.ref w) (b5 "costs" (.ref p) [])=qf ⟨a,dx,p,w⟩:=by
   show(if (("costs" : Aw)=("waiting" : Aw)) then _ else _)=_;rw[Uv (by decide +kernel)];rfl
  rw[eq];funext b;unfold put
  by_cases O:b=a<;>by_cases Z:b=w<;>by_cases f:b=p<;>simp_all
 rw[e];exact⟨gR (aP) (by rw[aM d,aM g];exact m),by rw[aM d,aM g];exact m,aL,(λ_ _=>rfl),(λk ws e=>nomatch e),(λk j p e=>nomatch e)⟩
theorem zbF(h:JU C ws M R):zbu C (bA R) (bF zbo ws) M:=by
 obtain⟨A,cs,c,rfl,D,hc,q,hl,r⟩:=h;refine⟨A.o,A.d,qf A,_,rfl,D,pO,.inl ⟨_,hc,?_⟩⟩;refine⟨λm L V=>∃lo hi:Nat,∃o,L=[some (.ref A.o),some (cW c),some (.int lo),some (.int hi),o]/\V=M/\lo<=hi/\hi<=cs.length/\(∀i d,i<lo->cs[i]? = some d->dG c d=true)/\(∀i d,hi<=i->cs[i]? = some d->dG c d=false)/\m=hi-lo,⟨_,0,cs.length,none,by rw[Ab];rfl,rfl,Ea _,Ai _,(λi d hi=>absurd hi (Nat.not_lt_zero _)),(λi d hi e=>by rw[Of hi]at e;cases e),rfl⟩,?_⟩;rintro m L V ⟨lo,hi,o,rfl,rfl,O,Z,f,h4,rfl⟩;refine(cB (λY=>?_) λY=>?_)
 .have X:=Ux Y;refine⟨⟨by decide,by decide⟩,?_⟩;obtain⟨g,J⟩:∃g,g=(lo+hi)/2:=⟨_,rfl⟩;have t:((lo:Int)+(hi:Int))/2=(g:Nat):=by lia
  dsimp only;rw[t];obtain⟨d,hd⟩:∃d,cs[g]? = some d:=⟨_,Bp (by lia)⟩;refine⟨A.o,A.d,qf A,_,rfl,D,pO,xV (w:=cW d) hc (iJ (by rw[Ap,hd];rfl)) ⟨d.1,d.2,c.1,c.2,rfl,rfl,?_⟩⟩;have pg:∀i j a b,i<j->cs[i]? = some a->cs[j]? = some b->dG b a=true:=λi j a b S l u=>by
   obtain⟨n,T⟩:=An.mp l;obtain⟨p,G⟩:=An.mp u;rw[<-T,<-G];exact Mi.mp q i j n p S
  show if dG c d=true then _ else _
  by_cases z:dG c d=true
  .rw[Uw z];refine⟨_,_,?_,aP,g+1,hi,_,rfl,rfl,by lia,Z,λi e l P=>?_,h4,rfl⟩
   .lia
   .by_cases y:i<g
    .exact zA z (Le.of_lt (pg i g e d y P hd))
    .have:i=g:=by lia
     rw[this,hd]at P;cases P;exact z
  .rw[Uv z];refine⟨_,_,?_,aP,lo,g,_,rfl,rfl,by lia,by lia,f,λi e l P=>?_,rfl⟩
   .lia
   .by_cases y:g<i
    .have K:=pg g i d e y hd P;cases s:dG c e with
     | false=>rfl
     | true=>exact absurd (zA s (Le.of_lt K)) z
    .have:i=g:=by lia
     rw[this,hd]at P;cases P;simpa using z
 .have X:=of_decide_eq_false Y;have:lo=hi:=by lia
  subst this;refine⟨_,aP,?_⟩;rw[<-JR (c:=c) (cs:=cs) (k:=lo) Z f h4];exact r
theorem zbG{C:Cc}{ws:List W}{M:Mm}{R:K3}(h:zU C ws M R):zbn C (bA R) (bF zbm ws) M:=by
 obtain⟨M0,A,q,c,x,rfl,N,hl,r⟩:=h;have m:=uM c x q;have hf:=N.fall;have l:=JM hf;have u:=JN (q:=q) (c:=c);have v:=zB c x hf;obtain⟨I,kvs,m1,L,f⟩:=N.ex;refine⟨A.o,A.d,qf A,_,rfl,N.ob,pP,.inr ⟨_,.inr ⟨kvs,cK c,L.at_,zbd c,rfl⟩,?_⟩⟩;rw[L.look c];have n:∀j,wG (cX c x q) j=if c=j then some (((aK q c).getD []).map j6++[j6 x]) else wG q j:=λj=>by
  show(aK (cX c x q) j).map _=_;rw[JJ c x j hf]
  by_cases D:c=j
  .rw[Uw D,Uw D,Nl,Az];rfl
  .rw[Uv D,Uv D]
 cases t:aK q c with
 | some xs=>
  have g:wG q c=some (xs.map j6):=by show(aK q c).map _=_;rw[t];rfl
  rw[g];rw[t]at u n;have u:xs.length<=(bR q).length:=u;obtain⟨p,i,F⟩:=L.has g;have s:=JL c x hf (by rw[t];rfl);refine⟨A.o,A.d,qf A,_,rfl,N.ob,pP,n9 L.at_ i ⟨hW F,_,F,dJ (by rw[Ab];lia),_,aP,r _ ⟨v,I,kvs,?_,(L.wr i).same n,?_⟩⟩⟩
  .rw[s];exact m1
  .have:=congrArg Ia s;rw[Ab,Ab]at this;rw[this];exact f
 | none=>
  have g:wG q c=none:=by show(aK q c).map _=_;rw[t];rfl
  rw[g];rw[t]at n;refine λp B=>?_;have P:=L.add JI (ws:=[]) g B;have y:A.o≠p:=λe=>by rw[<-e,N.ob]at B;cases B
  have w:((q.map (·.1)).map cW).length=q.length:=by rw[Ab,Ab]
  have b:=JK c (q.map (·.1));rw[Ab]at b;refine⟨A.o,A.d,qf A,_,rfl,by rw[aM y];exact N.ob,pP,pD (k:=cK c) (kvs:=kvs) (by rw[aM (λe=>by rw[<-e,L.at_]at B;cases B)];exact L.at_) (dJ (by lia)) ?_⟩;refine⟨A.o,A.d,qf A,_,rfl,P.sub _ _ m1.ob,pO,hW (P.sub _ _ m1.co),?_⟩;have a:=P.lift (p:=A.c) (o:=.lst ((((q.map (·.1)).take (pos c (q.map (·.1)))++c::(q.map (·.1)).drop (pos c (q.map (·.1)))).map cW))) (.inr ⟨_,m1.co⟩);have m3:=m1.costs (cs':=(q.map (·.1)).take (pos c (q.map (·.1)))++c::(q.map (·.1)).drop (pos c (q.map (·.1))));refine⟨A.o,A.d,qf A,rfl,P.sub _ _ m1.ob,zbe,A,q.map (·.1),c,rfl,P.sub _ _ m1.ob,P.sub _ _ m1.co,JQ hf,by rw[Ab];lia,_,P.sub _ _ m1.co,dJ (by rw[w];lia),by lia,by rw[w];lia,?_⟩;have S:((q.map (·.1)).map cW).take (Int.toNat (pos c (q.map (·.1)):Nat))++cW c::((q.map (·.1)).map cW).drop (Int.toNat (pos c (q.map (·.1)):Nat))=(((q.map (·.1)).take (pos c (q.map (·.1)))++c::(q.map (·.1)).drop (pos c (q.map (·.1)))).map cW):=by
   rw[Du,Az,Be,List.map_take,Rr]
  rw[S];obtain⟨G,i,F⟩:=a.has (k:=c) (ws:=[]) (by rw[Uw rfl]);refine⟨A.o,A.d,qf A,_,rfl,a.sub _ _ m3.ob,pP,n9 a.at_ i ⟨hW F,_,F,dJ (by simp),_,aP,r _ ⟨v,_,_,?_,(a.wr i).same (λj=>?_),?_⟩⟩⟩
  .rw[zT c x hf (by rw[t];rfl)];exact m3
  .rw[n j]
   by_cases D:c=j
   .rw[Uw D,Uw D];rfl
   .rw[Uv D,Uv D,Uv D]
  .have O:=congrArg Ia (zT c x hf (by rw[t];rfl));have Z:=zS kvs (cK c) (W.ref p);rw[Ab,Ak,Bu,Ca,He,Ab]at O;lia
theorem zbH(h:JV C ws M R):zbB C (bA R) (bF zbv ws) M:=by
 obtain⟨M0,A,q,c,x,S,rfl,N,ht,r⟩:=h;have hf:=N.fall;have ⟨_,_,_,e0,hf',_,_,_,_⟩:=nV hf (λe=>by rw[e]at ht;cases ht);rw[ht]at e0;cases e0;obtain⟨I,kvs,m1,L,f⟩:=N.ex;obtain⟨u,B,T,G⟩:=JO hf ht;have b:∀e∈u,e.1≠c:=by rw[T]at hf;exact JP hf
 have g:wG q c=some (B.map j6++[j6 x]):=by
  show(aK q c).map _=_;rw[T,uX b,Uw rfl,Nl,Az];rfl
 obtain⟨p,i,F⟩:=L.has g;have hc:M A.c=some (.lst (((u.map (·.1)).map cW)++[cW c])):=by rw[N.co,T];simp
 refine⟨A.o,A.d,qf A,_,rfl,N.ob,pO,xV hc (DB _ _) ⟨A.o,A.d,qf A,_,rfl,N.ob,pP,n9 L.at_ i ⟨hW F,⟨_,_,F,.inl ⟨_,aL,?_⟩⟩⟩⟩⟩;have P:=L.wr (ws:=B.map j6) i;cases B with
 | nil=>
  have K:I A.c=some (.lst (((u.map (·.1)).map cW)++[cW c])):=by rw[m1.co,T];simp
  have m2:=m1.costs (cs':=u.map (·.1));have a:=P.lift (p:=A.c) (o:=.lst ((u.map (·.1)).map cW)) (.inr ⟨_,K⟩);have m:=a.del (k:=c) JI;refine⟨A.o,A.d,qf A,_,rfl,P.sub _ _ m1.ob,pO,hW (P.sub _ _ K),_,_,P.sub _ _ K,A.o,A.d,qf A,_,rfl,a.sub _ _ m2.ob,pP,rH a.at_,_,cK c,_,a.at_,rfl,i,?_⟩;refine⟨_,aP,r _ ⟨hf',_,_,?_,m.same (λj=>?_),?_⟩⟩
  .rw[G];exact m2
  .show(aK S j).map _=_;rw[G,Uw (by rfl:([]:List (Nat×List Int)).isEmpty=true)]
   by_cases D:c=j
   .subst D;rw[Uw rfl,rG b];rfl
   .rw[Uv D,Uv D];show _=(aK q j).map _;rw[T,uX b,Uv D]
  .have O:=JH (kvs:=kvs) (k:=cK c) (by rw[i];rfl);rw[T,Ak,Cf]at f;rw[G,Uw (by rfl:([]:List (Nat×List Int)).isEmpty=true)];lia
 | cons y B=>
  refine⟨_,aP,r _ ⟨hf',_,_,?_,P.same (λj=>?_),?_⟩⟩
  .rw[G,Uv (by simp)];rw[T]at m1;simpa using m1
  .show(aK S j).map _=_;rw[G,Uv (by simp),uX b]
   by_cases D:c=j
   .rw[Uw D,Uw D];rfl
   .rw[Uv D,Uv D];show _=(aK q j).map _;rw[T,uX b,Uv D]
  .rw[T]at f;rw[G,Uv (by simp)];simpa using f
section
variable {X:Cx}
abbrev oA:R3:=λx y M R=>∃i j,x=.str i/\y=.str j/\i.length+j.length<=Ao/\R (.str (i++j)) M
abbrev uY:R3:=λx y M R=>∃z n,x=.str z/\y=.int n/\z.length<=16/\-(2 ^ 63)<=n/\n<=1048576/\R (.str (Hy z n)) M
theorem zbI:bC X (Ee .Add) (cJ X.K oA):=by
 rintro C s m H x y v u Q I d L ⟨F,S,M,R,U,N,t,⟨i,j,rfl,rfl,O,Z⟩,k⟩;exact RU C s m H _ _ v u Q I d L ⟨i,j,N.inv,t.inv,O,k.at U (.str _) Z⟩
theorem zbJ:bC X (Ee .Mult) (cJ X.K uY):=by
 rintro C s m H x y v u Q I d L ⟨F,S,M,R,U,N,t,⟨z,n,rfl,rfl,O,Z,f,h4⟩,k⟩;exact VO C s m H _ _ v u Q I d L ⟨z,n,N.inv,t.inv,O,Z,f,k.at U (.str _) h4⟩
end
def zV:a8:=λws M R=>∃z g:Aw,ws=[.str z,.str g]/\z.length<=1000/\R (.bl (kH z g)) M
def JW:a8:=λws M R=>∃z:Aw,ws=[.str z]/\z.length<=1000/\R (.bl (iW z)) M
def iP:a8:=λws M R=>∃rs:List aE,ws=[.rl (rs.map bE)]/\rs.length<=400/\aV ((namesOf rs).map W.str) M R
def rJ:a8:=λws M R=>∃(r:aE) (rs:List aE),ws=[.rl ((r::rs).map bE)]/\R (.str r.name) M
def JX:a8:=λws M R=>∃(r:aE) (ns:List Aw),ws=[bE r,.rl (ns.map W.str)]/\0<=r.cost/\(∀t∈r.parts,t.length<=1000/\(iW t=true->t∈ns))/\R .non M
def uZ:a8:=λws M R=>∃(d:List W) (k:Int),(ws=[.sc d,.int k]\/ws=[.rl d,.int k])/\pC d/\0<=k/\∀i,R (.int i) M
def JY:a8:=λws M R=>∃c k:Int,ws=[.int c,.int k]/\0<=k/\k<=1000/\∀z:Int,0<=z->z<10 ^ 61->R (.int z) M
def u3:a8:=λws M R=>∃(c:Int) (ss:List Int),ws=[.int c,.rl (ss.map W.int)]/\ss.length<=100/\(∀s∈ss,0<s/\s<=10 ^ 59)/\∀D,Drawn D ss->aV (D.map W.int) M R
def zW:a8:=λws M R=>∃(n m:Int) (g:Bool),ws=[.int n,.int m,.bl g]/\0<=m/\m<=12/\∀ts:List Aw,ts.length=m.toNat->(∀t∈ts,qY g t)->aV (ts.map W.str) M R
def JZ:a8:=λws M R=>∃(c:Int) (F wds:List Aw) (l:Int),ws=[.int c,.rl (F.map W.str),.rl (wds.map W.str),.int l]/\0<F.length/\F.length<=12/\wds.length=3/\0<=l/\l<=4/\∀r:aE,mI F wds r->(r.parts.length:Int)<=l->R (bE r) M
def J0:a8:=λws M R=>∃(d:List W) (j l:Int),ws=[.rl d,.int j,.int l]/\pC d/\d.length<=40/\1<=j/\j<=12/\1<=l/\l<=4/\∀rs:List aE,zaj rs->(∀r∈rs,(r.parts.length:Int)<=l)->(∃F wds:List Aw,(F.length:Int)<=j/\wds.length=3/\(∀t∈F,pH t)/\(∀t∈wds,kX t)/\(∀r∈rs,mI F wds r)/\(∀t∈F,∃r∈rs,r.name=t)/\(rs.length:Int)<=d.length+j)->aV (rs.map bE) M R
abbrev zbK:List Aw:=["text","signs"]
abbrev zbL:aD:=
   (bS (tN (aG (eC true) aH (vC (.str ""))) (bU tY (aA (bN (eF (bY cU aH) (a7 0) fM (aG (cH false) aH aS) [none,some 1])) aC))))
abbrev zbM:List Aw:=["part","pieces","right_end"]
abbrev zbN:aD:=
   (aW 1 (eA "str" GO aH (aA (vC (.str "_")) aC)))
abbrev zbO:aD:=
   (aW 2 (nL (aG (eC false) (vX aS bD) (vC (.str ""))) (aZ zV (aA (vX aS lR) (aA (vC (.str "0123456789")) aC)))))
abbrev J1:aD:=
   (bS (tN a6 (aZ zV (aA (vX aS bL) (aA (vC (.str "ABCDEFGHIJKLMNOPQRSTUVWXYZ")) aC)))))
abbrev zbP:aD:=(aF zbN (aF zbO J1))
abbrev zbQ:List Aw:=["grammar","found","rule"]
abbrev zbR:aD:=
   (aW 1 t5)
abbrev zbS:aD:=
   (gM (vC (.bl true)) (iE aS (vX a6 bL)))
abbrev zbT:aD:=
   (cL (bY cU aH) (a7 2) zbS)
abbrev zbU:aD:=
   (bS (bU tW (aA aS aC)))
abbrev zbV:aD:=(aF zbR (aF zbT zbU))
abbrev zbW:List Aw:=["grammar"]
abbrev zbX:aD:=
   (bS (vX (vX aH bL) bL))
abbrev zbY:List Aw:=["rule","known","part"]
abbrev zbZ:aD:=
   (aF (cI (bT (aG nN (vX aH lR) bL))
    yK
    dA)
   (cL (bY cU (vX aH bD)) (a7 2)
    (cI (kN (gK (aZ JW (aA a6 aC))) (bT (aG (cH true) a6 aS)))
    yK
    dA)))
abbrev zb0:List Aw:=["script","k"]
abbrev zb1:aD:=
   (aF (cI (bT (aG nN aS (bU dH (aA aH aC))))
    (bS (vX aH aS))
    dA)
   (bS bL))
abbrev zb2:List Aw:=["cell","k","number"]
abbrev zb3:aD:=
   (aW 2 (aG dD (aG dD (aG kT (aG gZ aH (aG jZ (vI 10) (vI 40))) (vI 48271)) (aG kT (aG kT (aG jZ lS (vI 60)) (aG dD aS bD)) (aG dD aS bD))) aS))
abbrev zb4:aD:=
   (aW 2 (aG dD (aG kT a6 a6) (aG kT (vI 69621) a6)))
abbrev zb5:aD:=
   (bS (aG jK (aG gZ (aG kT a6 a6) (aG dD (aG jZ (vI 10) (vI 61)) (vI 7))) (vI 8)))
abbrev zb6:aD:=(aF zb3 (aF zb4 zb5))
abbrev zb7:List Aw:=["cell","sizes","found","rest","k"]
abbrev zb8:aD:=
   (aW 2 (iL aC))
abbrev zb9:aD:=
   (aW 3 (aG kR aH (aG jZ (vI 10) (vI 18))))
abbrev zca:aD:=
   (cI (bT (aG FU aH (aG jZ (vI 10) (vI 18))))
    (aF (cE (eA "list" fJ a6 (aA (aG gZ bJ (vX aS bG)) aC)))
   (aW 3 (aG jK bJ (vX aS bG))))
    (cE (eA "list" fJ a6 (aA (aG gZ (aZ JY (aA aH (aA bG aC))) (vX aS bG)) aC))))
abbrev zcb:aD:=
   (cL (uA (aA (bU dH (aA aS aC)) aC)) (a7 4) zca)
abbrev zcc:aD:=
   (bS a6)
abbrev zcd:aD:=(aF zb8 (aF zb9 (aF zcb zcc)))
abbrev zce:List Aw:=["number","many","great","letters","pad","size","at","first","found","k","sign"]
abbrev zcf:aD:=
   (aW 3 (vC (.str "abcdefghijklmnopqrstuvwxyz")))
abbrev zcg:aD:=
   (cI (gK a6)
    (aW 3 (qN "str" GN bJ))
    dA)
abbrev J6:aD:=
   (aW 4 (vX bJ (aG gZ aH (vI 26))))
abbrev J7:aD:=
   (aW 5 (aG dD bD (aG gZ (aG jK aH (vI 26)) (vI 8))))
abbrev J8:aD:=
   (aW 6 (aG gZ (aG jK aH (vI 208)) c0))
abbrev J9:aD:=
   (aW 7 (aG gZ (aG jK aH (vI 1664)) (vI 26)))
abbrev KA:aD:=
   (aW 8 (iL aC))
abbrev zch:aD:=
   (aF (aW 10 (vX bJ (aG gZ (aG dD cT (aG kT lS jJ)) (vI 26))))
   (aF (cE (eA "list" fJ gY (aA (aG oA (aG oA (aG uY bG cS) tJ) (aG uY bG (aG kR (aG kR c0 cS) bD))) aC)))
   (cI (kN (gK a6) (kN (bT (aG (eC false) (aG gZ (aG jK aH (vI 43264)) lS) bD)) (bT (aG (eC false) (aG FN (aG FL (aG jK aH (vI 129792)) jJ) bD) bD))))
    (gM (aG oA (aG oA (vX gY jJ) (vC (.str "_"))) (bU yC (aA (aG gZ (aG jK aH (vI 129792)) (vI 10000)) aC))) (iE gY jJ))
    dA)))
abbrev KC:aD:=
   (cL (uA (aA aS aC)) (a7 9) zch)
abbrev KD:aD:=
   (bS gY)
abbrev zci:aD:=(aF zcf (aF zcg (aF J6 (aF J7 (aF J8 (aF J9 (aF KA (aF KC KD))))))))
abbrev zcj:List Aw:=["cell","heads","words","most","drawn","parts","place"]
abbrev zck:aD:=
   (aW 4 (bN (aZ u3 (aA aH (aA (aG dD (fU (aA (bU dH (aA aS aC)) (aA (aG dD bJ bD) (aA lS (aA (aG jZ (vI 10) (vI 59)) aC))))) (aG kT (fU (aA (vI 6) aC)) bJ)) aC)))))
abbrev zcl:aD:=
   (aW 5 (iL aC))
abbrev zcm:aD:=
   (cI (bT (aG nN cS lS))
    (cE (eA "list" fJ c0 (aA (vX a6 cS) aC)))
    (cE (eA "list" fJ c0 (aA (vX aS (aG gZ (aG dD (aG kR cS lS) (vX bG bL)) (bU dH (aA aS aC)))) aC))))
abbrev zcn:aD:=
   (cL (bY cU (pB bG (mB (vI 4)) (mB (aG dD (vI 4) (vX bG bD))))) (a7 6) zcm)
abbrev zco:aD:=
   (bS (a9 (aA (vX aS (vX bG bL)) (aA (bU tX (aA c0 aC)) (aA (aG gZ (vX bG lS) (vX (fU (aA bD (aA (vI 10) (aA (aG jZ (vI 10) (vI 59)) aC)))) (vX bG lR))) aC)))))
abbrev zcp:aD:=(aF zck (aF zcl (aF zcn zco)))
abbrev zcq:List Aw:=["cells","many","most","one","other","heads","words","rules","name"]
abbrev zcr:aD:=
   (gM (bN (aZ u3 (aA (aZ uZ (aA aH (aA bL aC))) (aA (fU (aA (aG jZ (vI 10) (vI 9)) (aA (aG jZ (vI 10) (vI 9)) aC))) aC)))) (gA 2 (cP (a7 3) (cP (a7 4) f9))))
abbrev zcs:aD:=
   (aW 5 (bN (aZ zW (aA bJ (aA aS (aA (vC (.bl true)) aC))))))
abbrev zct:aD:=
   (aW 6 (bN (aZ zW (aA bG (aA lS (aA (vC (.bl false)) aC))))))
abbrev zcu:aD:=
   (aW 7 (eF (bY cU (pB aH (mB bD) tV)) (a7 0) fM (aZ JZ (aA aH (aA aS (aA a6 (aA bJ aC))))) [none,some 5,some 6,some 2]))
abbrev zcv:aD:=
   (cI (bT (aG (cH true) gY (bN (eF (bY cU cT) (a7 0) fM (vX aH bL) [none]))))
    (cE (eA "list" fJ cT (aA (a9 (aA gY (aA (a9 (aA (vX cS bL) aC)) (aA bL aC)))) aC)))
    dA)
abbrev zcw:aD:=
   (cL (bY cU c0) (a7 8) zcv)
abbrev zcx:aD:=
   (bS cT)
abbrev zcy:aD:=(aF zcr (aF zcs (aF zct (aF zcu (aF zcw zcx)))))
theorem zcz:∀ws M R,uZ ws M R->ws.length=2:=by rintro ws M R ⟨_,_,rfl|rfl,_⟩<;>rfl
theorem zcA(c:Nat)(g:Aw):occ ⟨#[c]⟩ g=decide (c∈cs g):=StrLaws.found_one g c
theorem fW{b:Bool}{P Q:Prop}(O:b=true->P)(Z:b=false->Q):if b=true then P else Q:=by cases b;exact Z rfl;exact O rfl
theorem zcB(h:zV ws M R):zbL (bA R) (bF zbK ws) M:=by
 obtain⟨z,g,rfl,hz,r⟩:=h;have t:kH z g=(!decide (z = "")&&(cs z).all λc=>decide (c∈cs g)):=by rw[<-tQ];rfl
 refine(fW (λY=>(nS (rest:=[some (.str g)]) (λw=>match w with|.str x=>.bl (occ x g)|_=>.non) (small (by rw[Ab];exact Bf (Qg (qG z)) (Bf hz (by decide)))) (λ_ _=>trivial) (λw hw V C sb O=>?_) (aV.frz ⟨(cs z).map λc=>decide (c∈cs g),?_,_,aP,?_⟩))) λY=>⟨_,aP,?_⟩)
 .obtain⟨c,_,rfl⟩:=Bc.mp hw;exact O
 .unfold bools;rw[Bm,Bm];exact Eg λc _=>congrArg W.bl (zcA c g)
 .rw[t,show(!decide (z = ""))=true from Y,Pk]at r;rw[Nu];exact r
 .rw[t,show(!decide (z = ""))=false from Y,Md]at r;exact r
theorem zcC(z:Aw):(Cw z "_").1.length<=z.length/\(Cw z "_").2.2.length<=z.length:=by
 have:=fact_partition z "_";exact⟨this.1,this.2.2⟩
theorem zcD(z:Aw):iW z=((decide ((Cw z "_").2.1 = "")||kH (Cw z "_").2.2 lP)&&kH (Cw z "_").1 iC):=by
 unfold iW;rw[tQ]
theorem zcE(h:JW ws M R):zbP (bA R) (bF zbM ws) M:=by
 obtain⟨z,rfl,hz,r⟩:=h;obtain⟨O,f⟩:=zcC z;rw[zcD z]at r;have go:∀{b:Bool} {M:Mm},R (.bl (b&&kH (Cw z "_").1 iC)) M->J1 (bA R) [some (.str z),some (.tup [.str (Cw z "_").1,.str (Cw z "_").2.1,.str (Cw z "_").2.2]),some (.bl b)] M:=λ{b M} r=>(fW (λY=>⟨_,_,rfl,Bf O hz,_,aP,by rw[Y]at r;exact r⟩) λY=>⟨_,aP,by rw[Y]at r;exact r⟩)
 exact⟨rfl,by decide +kernel,Bf hz (by decide),fW (λY=>go (b:=true) (by rw[show decide ((Cw z "_").2.1 = "")=true from Y]at r;exact r)) λY=>⟨_,_,rfl,Bf f hz,go (by rw[show decide ((Cw z "_").2.1 = "")=false from Y]at r;exact r)⟩⟩
def cD(t:Aw):aB×W:=(Sum.inr t,.bl true)
theorem u5(acc:List Aw)(t:Aw):bZ (acc.map cD) (Sum.inr t:aB) (.bl true)=(dE acc t).map cD:=by
 unfold bZ dE;have e:((acc.map cD).any λkv=>decide (kv.1=Sum.inr t))=decide (t∈acc):=by
  rw[Lw,Dy];simp[cD,Ku]
 rw[e]
 by_cases h:t∈acc
 .rw[Uw (Uy h),Uw h,Bm];refine Eg λu hu=>?_;simp[cD,Ku]
 .rw[Uv (by simpa using h),Uv h,Az];rfl
theorem zcF(h:iP ws M R):zbV (bA R) (bF zbQ ws) M:=by
 obtain⟨rs,rfl,hl,r⟩:=h;refine λp B=>((dB (λi L V=>∃o,L=[some (.rl (rs.map bE)),some (.ref p),o]/\V=put M p (.dK ((namesOf (rs.take i)).map cD))) ⟨_,rfl,rfl⟩ ?_ ?_))
 .rintro i w L V hw ⟨o,rfl,rfl⟩;rw[Ap]at hw;obtain⟨q,N,rfl⟩:=Ax.mp hw;have hi:i<rs.length:=(An.mp N).1;have e:namesOf (rs.take (i+1))=dE (namesOf (rs.take i)) q.name:=by
   rw[Bw,N];unfold namesOf mJ;simp
  have j:(namesOf (rs.take i)).length<=i:=by
   have:=qZ ((rs.take i).map aE.name) [];unfold namesOf mJ;simp at this;simp;lia
  refine(uG aL (by rw[Ab];exact dJ (by lia)) ⟨_,aP,_,rfl,?_⟩);rw[c9,u5,e]
 .rintro L V ⟨o,rfl,rfl⟩;rw[Ab,Br];refine(.inr ⟨_,aL,λq N=>?_⟩);have a:q≠p:=λe=>by subst e;rw[aL]at N;cases N
  rw[aM a]at N;refine⟨_,?_,r q N⟩;rw[Bm];exact Sub.put (Sub.new B)
theorem zcG(h:rJ ws M R):zbX (bA R) (bF zbW ws) M:=by
 obtain⟨q,rs,rfl,r⟩:=h;exact(so.of (iJ (j:=0) rfl) ⟨_,aP,r⟩)
theorem rK{t:Aw}{ts:List Aw}:inW (.str t) (ts.map W.str)=decide (t∈ts):=by
 unfold inW;rw[Lw,Dy,Ge,decide_eq_true_eq];exact⟨λ⟨x,h,e⟩=>eq_of_beq (show(x==t)=true from e)▸h,λh=>⟨t,h,beq_self_eq_true t⟩⟩
theorem rL(ts:List Aw):(ts.map W.str).all fI=true:=by
 rw[Nu,Gf];intro t _;rfl
theorem zcH{ws:List W}{M:Mm}{R:K3}(h:JX ws M R):zbZ (bA R) (bF zbY ws) M:=by
 obtain⟨q,ns,rfl,hc,B,r⟩:=h;refine(fW (λY=>absurd (Ux Y) (Ts.mpr hc)) λ_=>?_);refine dB (ws:=q.parts.map W.str) (λi L V=>∃o,L=[some (bE q),some (.rl (ns.map W.str)),o]/\V=M) ⟨_,rfl,rfl⟩ ?_ ?_
 .rintro i w L V hw ⟨o,rfl,rfl⟩;obtain⟨t,ht,rfl⟩:=Bc.mp (Ay hw);obtain⟨O,Z⟩:=B t ht;refine⟨t,rfl,O,fW (λY=>⟨rfl,rL ns,fW (λg=>?_) λ_=>⟨_,aP,_,rfl,rfl⟩⟩) λ_=>⟨_,aP,_,rfl,rfl⟩⟩;rw[show(!inW (.str t) (ns.map W.str))=false by rw[rK,Uy (Z Y)];rfl]at g;cases g
 .rintro L V ⟨o,rfl,rfl⟩;exact⟨_,aP,r⟩
theorem zcI(h:uZ ws M R):zb1 (bA R) (bF zb0 ws) M:=by
 obtain⟨d,k,e,hi,hk,r⟩:=h;have go:decide (k<d.length)=true->so (b7 d k) λw=>∃V,L2.Sub V M/\R w V:=λhd=>by
  obtain⟨x,e,_,m⟩:=yS hk (Ux hd);obtain⟨i,rfl⟩:=hi x m;exact so.of e ⟨_,aP,r i⟩
 rcases e with rfl|rfl
 .exact fW go λ_=>⟨_,aP,r 0⟩
 .exact fW go λ_=>⟨_,aP,r 0⟩
abbrev gD(c k:Int):Int:=c % 10 ^ 40*48271+3 ^ 60*(k+1)*(k+1)+k
theorem zcJ(h:JY ws M R):zb6 (bA R) (bF zb2 ws) M:=by
 obtain⟨c,k,rfl,Y,O,r⟩:=h;have u:(gD c k).natAbs<2 ^ 200:=VY (a:=c % 10 ^ 40) (k:=k) (Fj _ (by decide)) (Eo _ (by decide)) Y O;have v:(gD c k*gD c k).natAbs<2 ^ 400:=EE u u;have x:(69621*gD c k:Int).natAbs<2 ^ 400:=xF (EE (m:=17) (i:=69621) (by decide) u) (by decide);have q:(gD c k*gD c k+69621*gD c k).natAbs<2 ^ 401:=VZ v x;have e:(gD c k).natAbs<2 ^ 4096:=xF u (by decide);have d:(gD c k*gD c k+69621*gD c k).natAbs<2 ^ 4096:=xF q (by decide);have b:(0:Int)<10 ^ (61:Int).toNat+7:=by decide
 refine⟨⟨by decide,by decide,by decide⟩,(by decide:(0:Int)<10 ^ (40:Int).toNat),.inl (.inr ⟨by decide,by decide⟩),⟨by decide,by decide,by decide⟩,.inl (.inr ⟨by lia,by lia⟩),.inl (.inr ⟨by lia,by lia⟩),.inr ⟨e,e⟩,.inl (.inl ⟨by decide,by decide⟩),.inr ⟨d,d⟩,⟨by decide,by decide,by decide⟩,b,⟨by decide,by decide⟩,_,aP,r _ ?_ ?_⟩
 .exact Int.ediv_nonneg (Fj _ (Int.ne_of_gt b)) (by decide)
 .have Z:=Eo ((gD c k*gD c k+69621*gD c k)*(gD c k*gD c k+69621*gD c k)) b;have f:(10:Int) ^ (61:Int).toNat+7=10 ^ 61+7:=rfl;rw[f]at Z;refine Int.ediv_lt_of_lt_mul (by decide) ?_;refine Int.lt_trans Z (by decide)
def eK(k:Aw×Int):List aB:=[Sum.inr k.1,Sum.inl k.2]
def j7(z:Int×aQ):W:=.tup [.int z.1,cW z.2]
def j8(y:kY):W:=.tup [.int y.1,fV y.2.1,cW y.2.2]
def i6(k:K4):List aB:=[Sum.inl k.1,Sum.inl k.2.1,Sum.inl k.2.2.1,Sum.inl k.2.2.2]
def fK(f:cA):List aB:=[Sum.inr f.1,Sum.inl f.2.1,Sum.inl f.2.2]
def eX(e:aQ×Nat×List Int):W:=.tup [cW e.1,.int e.2.1,fV e.2.2]
theorem KG:∀a b:Aw×Int,eK a=eK b->a=b:=λa b h=>by
 unfold eK at h;simp only[Dk,Mf,Oo,and_true]at h;exact Oq h.1 h.2
theorem u6:∀a b:K4,i6 a=i6 b->a=b:=λa b h=>by
 unfold i6 at h;simp only[Dk,Mf,and_true,Int.natCast_inj]at h;obtain⟨Q,U,D,y⟩:=a;obtain⟨u,v,x,q⟩:=b;simp only at h;obtain⟨O,Z,f,h4⟩:=h;rw[O,Z,f,h4]
theorem mL:∀a b:cA,fK a=fK b->a=b:=λa b h=>by
 unfold fK at h;simp only[Dk,Mf,Oo,and_true]at h;obtain⟨Q,U,D⟩:=a;obtain⟨u,v,x⟩:=b;simp only at h;obtain⟨O,Z,f⟩:=h;rw[O,Z,f]
section
variable {U J:Type}[DecidableEq U]{kk:U->List aB}{f:J->W}
abbrev dQ(kk:U->List aB)(f:J->W)(t:List (U×J)):List (List aB×W):=t.map λe=>(kk e.1,f e.2)
theorem lA(d:∀a b,kk a=kk b->a=b)(t:List (U×J))(k:U):aT (dQ kk f t) (kk k)=(aK t k).map f:=by
 induction t with
 | nil=>rfl
 | cons e t E=>
  show aT ((kk e.1,f e.2)::dQ kk f t) (kk k)=_;rw[n8,eI,E]
  by_cases h:e.1=k
  .rw[Uw (by rw[h]),Uw h];rfl
  .rw[Uv (λz=>h (d _ _ z)),Uv h]
theorem zX(d:∀a b,kk a=kk b->a=b)(t:List (U×J))(k:U)(v:J):bZ (dQ kk f t) (kk k) (f v)=dQ kk f (eD t k v):=by
 unfold bZ eD;rw[show((dQ kk f t).any λg=>decide (g.1=kk k))=(aT (dQ kk f t) (kk k)).isSome from i0 _ _,lA d,i0];cases aK t k with
 | none=>simp
 | some w=>
  simp only[Nl,Option.isSome_some,if_true,Bm];apply Eg;intro e _;simp only[Ku]
  by_cases h:e.1=k
  .rw[Uw (by rw[h]),Uw h]
  .rw[Uv (λz=>h (d _ _ z)),Uv h]
end
structure Env where
 rs:List aE
 own:List (aB×W)
 stp:List (List aB×W)
structure Ad where
 s:Aj
 d:Aj
 Q:Aq
 r:Aj
 b:Aj
 e:Aj
 g:Aj
def sf(E:Env)(A:Ad):List (Aw×W):=[("grammar",(bV E.rs)),("own",(.dk E.own)),("steps",(.dt E.stp)),("queue",(.ref A.Q.o)),("reached",(.ref A.r)),("best",(.ref A.b)),("ends",(.ref A.e)),("begun",(.ref A.g))]
theorem KH:Ce ("grammar" : Aw) (sf E A)=some (bV E.rs):=by kernel_rfl
theorem zcK:Ce ("own" : Aw) (sf E A)=some (W.dk E.own):=by kernel_rfl
theorem zcL:Ce ("steps" : Aw) (sf E A)=some (W.dt E.stp):=by kernel_rfl
theorem zY:Ce ("queue" : Aw) (sf E A)=some (W.ref A.Q.o):=by kernel_rfl
theorem u7:Ce ("reached" : Aw) (sf E A)=some (W.ref A.r):=by kernel_rfl
theorem zZ:Ce ("best" : Aw) (sf E A)=some (W.ref A.b):=by kernel_rfl
theorem KI:Ce ("ends" : Aw) (sf E A)=some (W.ref A.e):=by kernel_rfl
theorem KJ:Ce ("begun" : Aw) (sf E A)=some (W.ref A.g):=by kernel_rfl
theorem u9:Ce ("reach" : Aw) (sf E A)=none:=by kernel_rfl
theorem zcM:Ce ("take_next" : Aw) (sf E A)=none:=by kernel_rfl
theorem zcN:Ce ("step_by_name" : Aw) (sf E A)=none:=by kernel_rfl
theorem zcO:Ce ("settle" : Aw) (sf E A)=none:=by kernel_rfl
structure Mn(C:Cc)(E:Env)(M0 M:Mm)(A:Ad)(rc:List (K4×aQ))(bs:cF):Prop where
 sub:L2.Sub M0 M
 ns:M0 A.s=none
 nr:M0 A.r=none
 nb:M0 A.b=none
 sr:A.s≠A.r
 sb:A.s≠A.b
 rb:A.r≠A.b
 os:M A.s=some (.ins C.s A.d (sf E A))
 or:M A.r=some (.dT (dQ i6 cW rc))
 ob:M A.b=some (.dT (dQ fK eX bs))
abbrev eG(t:List ((Aw×Int)×List (Int×aQ))):Aw×Int->Option (List W):=λk=>(aK t k).map λxs=>xs.map j7
abbrev gG(t:List ((Aw×Int)×List kY)):Aw×Int->Option (List W):=λk=>(aK t k).map λxs=>xs.map j8
def Kept(M:Mm):Option (Aj×List W)->Prop
 | none=>True
 | some x=>M x.1=some (.lst x.2)
structure SK(C:Cc)(E:Env)(M0 M:Mm)(A:Ad)(st:SS)(kp:Option (Aj×List W)):Prop where
 ex:∃M1 M2 M3 e g,Mn C E M0 M1 A st.reached st.best/\d9 eK M1 M2 A.e e (eG st.ends)/\d9 eK M2 M3 A.g g (gG st.begun)/\QR C M3 M A.Q st.q/\e.length<=st.ends.length/\g.length<=st.begun.length/\Kept M3 kp
abbrev SR(C:Cc)(E:Env)(M0 M:Mm)(A:Ad)(st:SS):Prop:=SK C E M0 M A st none
section
variable {C:Cc}{E:Env}{M0 M:Mm}{A:Ad}{st:SS}{kp:Option (Aj×List W)}
theorem SK.os(h:SK C E M0 M A st kp):M A.s=some (.ins C.s A.d (sf E A)):=by
 obtain⟨I,v,t,e,g,O,Z,f,h4,_⟩:=h.ex;exact h4.sub _ _ (f.sub _ _ (Z.sub _ _ O.os))
theorem SK.or(h:SK C E M0 M A st kp):M A.r=some (.dT (dQ i6 cW st.reached)):=by
 obtain⟨I,v,t,e,g,O,Z,f,h4,_⟩:=h.ex;exact h4.sub _ _ (f.sub _ _ (Z.sub _ _ O.or))
theorem SK.ob(h:SK C E M0 M A st kp):M A.b=some (.dT (dQ fK eX st.best)):=by
 obtain⟨I,v,t,e,g,O,Z,f,h4,_⟩:=h.ex;exact h4.sub _ _ (f.sub _ _ (Z.sub _ _ O.ob))
theorem SK.fall(h:SK C E M0 M A st kp):gP st.q:=by
 obtain⟨I,v,t,e,g,O,Z,f,h4,_⟩:=h.ex;exact h4.fall
theorem SK.free(h:SK C E M0 M A st kp):SR C E M0 M A st:=by
 obtain⟨I,v,t,e,g,O,Z,f,h4,J,s,_⟩:=h.ex;exact⟨I,v,t,e,g,O,Z,f,h4,J,s,trivial⟩
theorem SK.kept(h:SK C E M0 M A st (some (p,ws))):M p=some (.lst ws):=by
 obtain⟨I,v,t,e,g,O,Z,f,h4,J,s,H⟩:=h.ex;exact h4.sub _ _ H
theorem Mn.rput{I:Mm}{rc:List (K4×aQ)}{bs:cF}(h:Mn C E M0 I A rc bs)(a:List (K4×aQ)):Mn C E M0 (put I A.r (.dT (dQ i6 cW a))) A a bs:=
 ⟨gR h.sub h.nr,h.ns,h.nr,h.nb,h.sr,h.sb,h.rb,by rw[aM h.sr];exact h.os,aL,by rw[aM (Bq h.rb)];exact h.ob⟩
theorem Mn.bput{I:Mm}{rc:List (K4×aQ)}{bs:cF}(h:Mn C E M0 I A rc bs)(a:cF):Mn C E M0 (put I A.b (.dT (dQ fK eX a))) A rc a:=
 ⟨gR h.sub h.nb,h.ns,h.nr,h.nb,h.sr,h.sb,h.rb,by rw[aM h.sb];exact h.os,by rw[aM h.rb];exact h.or,aL⟩
theorem SK.rput(h:SK C E M0 M A st kp)(a:List (K4×aQ)):SK C E M0 (put M A.r (.dT (dQ i6 cW a))) A {st with reached:=a} kp:=by
 obtain⟨I,v,t,e,g,O,Z,f,h4,J,s,H⟩:=h.ex;have k2:=Z.sub _ _ O.or;have k3:=f.sub _ _ k2;refine⟨_,_,_,e,g,O.rput a,Z.lift (.inr ⟨_,O.or⟩),f.lift (.inr ⟨_,k2⟩),h4.lift (.inr ⟨_,k3⟩),J,s,?_⟩;cases kp with
 | none=>trivial
 | some x=>
  have H:t x.1=some (.lst x.2):=H;show put t A.r _ x.1=some (.lst x.2);rw[aM (λz=>by rw[z,k3]at H;cases H)];exact H
theorem SK.bput(h:SR C E M0 M A st)(a:cF):SR C E M0 (put M A.b (.dT (dQ fK eX a))) A {st with best:=a}:=by
 obtain⟨I,v,t,e,g,O,Z,f,h4,J,s,H⟩:=h.ex;have k2:=Z.sub _ _ O.ob;have k3:=f.sub _ _ k2;exact⟨_,_,_,e,g,O.bput a,Z.lift (.inr ⟨_,O.ob⟩),f.lift (.inr ⟨_,k2⟩),h4.lift (.inr ⟨_,k3⟩),J,s,trivial⟩
theorem SK.que(h:SK C E M0 M A st kp):∃t,QR C t M A.Q st.q/\∀V S,QR C t V A.Q S->SK C E M0 V A {st with q:=S} kp:=by
 obtain⟨I,v,t,e,g,O,Z,f,h4,J,s,H⟩:=h.ex;exact⟨t,h4,λV S N=>⟨I,v,t,e,g,O,Z,f,N,J,s,H⟩⟩
theorem KL{U J:Type}[DecidableEq U]{t:List (U×J)}{k:U}{v:J}(h:(aK t k).isSome=true):(eD t k v).length=t.length:=by
 unfold eD;rw[i0,Uw h,Ab]
theorem vA{U J:Type}[DecidableEq U]{t:List (U×J)}{k:U}{v:J}(h:aK t k=none):eD t k v=t++[(k,v)]:=by
 unfold eD;rw[i0,h,Uv (by simp)]
theorem vB{l:Type}(f:l->W)(t:List ((Aw×Int)×List l))(k:Aw×Int)(z:l)(j:Aw×Int):((aK (jO t k z) j).map λxs=>xs.map f)=if k=j then some (((aK t k).getD []).map f++[f z]) else(aK t j).map λxs=>xs.map f:=by
 unfold jO;rw[pI]
 by_cases h:k=j
 .rw[Uw h,Uw h,Nl,Az];rfl
 .rw[Uv h,Uv h]
theorem SK.epush(h:SR C E M0 M A st){k:Aw×Int}{z:Int×aQ}{R:K3}{T:W->Mm->Prop}(n:∀y v,fJ y [j7 z] v R->T y v)(U:st.ends.length<10000000)(hl:((aK st.ends k).getD []).length<10000000)(r:∀V,SR C E M0 V A {st with ends:=jO st.ends k z}->R .non V):
  kP "dict" (.ref A.e) M/\∀p,M p=none->rE (.ref A.e) [.tup [.str k.1,.int k.2],.ref p] (put M p (.lst [])) λy v=>kP "list" y v/\T y v:=by
 obtain⟨I,v,t,e,g,O,Z,f,h4,J,s,H⟩:=h.ex;have l:M A.e=some (.dT e):=h4.sub _ _ (f.sub _ _ Z.at_);refine⟨rH l,λp B=>⟨e,eK k,by rw[aM (λz=>by rw[<-z,l]at B;cases B)];exact l,rfl,dJ (by lia),λw hw=>?_,λhw=>?_⟩⟩
 .obtain⟨xs,S⟩:∃xs,aK st.ends k=some xs:=by
   cases q:aK st.ends k with
   | none=>have:=Z.non k (by show(aK _ _).map _=_;rw[q];rfl);rw[hw]at this;cases this
   | some xs=>exact⟨_,rfl⟩
  have b:eG st.ends k=some (xs.map j7):=by show(aK _ _).map _=_;rw[S];rfl
  obtain⟨G,i,F⟩:=Z.has b;rw[hw]at i;cases i;have k3:=f.sub _ _ F;have d:=h4.more (o:=.lst []) B;have N:=d.sub _ _ k3;rw[S]at hl;refine⟨hW N,n _ _ ⟨_,N,dJ (by rw[Ab];exact hl),r _ ⟨_,_,_,e,g,O,(Z.wr (ws:=xs.map j7++[j7 z]) hw).same λj=>?_,f.lift (.inr ⟨_,F⟩),d.lift (.inr ⟨_,k3⟩),?_,s,trivial⟩⟩⟩
  .refine(vB _ _ k z j).trans ?_;rw[S];rfl
  .show _<=(eD _ _ _).length;rw[KL (by rw[S];rfl)];exact J
 .have S:aK st.ends k=none:=by
   cases q:aK st.ends k with
   | none=>rfl
   | some xs=>obtain⟨G,i,_⟩:=Z.has (k:=k) (ws:=xs.map j7) (by show(aK _ _).map _=_;rw[q];rfl);rw[hw]at i;cases i
  have b:eG st.ends k=none:=by show(aK _ _).map _=_;rw[S];rfl
  have x:=h4.sub.non B;have L:=f.sub.non x;have P:=Z.add KG (ws:=[]) b L;have c:p≠A.e:=λz=>by rw[z,l]at B;cases B
  have a:=(f.lift (o:=.lst []) (.inl x)).lift (p:=A.e) (o:=.dT (bZ e (eK k) (.ref p))) (.inr ⟨.dT e,by rw[aM (Bq c)];exact Z.at_⟩);have m:=(h4.lift (o:=.lst []) (.inl B)).lift (p:=A.e) (o:=.dT (bZ e (eK k) (.ref p))) (.inr ⟨.dT e,by rw[aM (Bq c)];exact f.sub _ _ Z.at_⟩);have u:aT (bZ e (eK k) (.ref p)) (eK k)=some (.ref p):=by rw[n6,Uw rfl]
  have Y:put (put v p (.lst [])) A.e (.dT (bZ e (eK k) (.ref p))) p=some (.lst []):=by rw[aM c,aL]
  have k3:=a.sub _ _ Y;have N:=m.sub _ _ k3;refine⟨hW N,n _ _ ⟨_,N,dJ (by simp),r _ ⟨_,_,_,_,g,O,(P.wr (ws:=[j7 z]) u).same λj=>?_,a.lift (.inr ⟨_,Y⟩),m.lift (.inr ⟨_,k3⟩),?_,s,trivial⟩⟩⟩
  .refine(vB _ _ k z j).trans ?_;rw[S]
   by_cases D:k=j
   .rw[Uw D,Uw D];rfl
   .rw[Uv D,Uv D,Uv D]
  .show _<=(eD _ _ _).length;rw[vA S,Ak,Cf];have:=zS e (eK k) (W.ref p);lia
theorem SK.gpush(h:SR C E M0 M A st){k:Aw×Int}{z:kY}{R:K3}(U:st.begun.length<10000000)(hl:((aK st.begun k).getD []).length<10000000)(r:∀V,SR C E M0 V A {st with begun:=jO st.begun k z}->R .non V):
  kP "dict" (.ref A.g) M/\∀p,M p=none->rE (.ref A.g) [.tup [.str k.1,.int k.2],.ref p] (put M p (.lst [])) λy v=>kP "list" y v/\fJ y [j8 z] v R:=by
 obtain⟨I,v,t,e,g,O,Z,f,h4,J,s,H⟩:=h.ex;have l:M A.g=some (.dT g):=h4.sub _ _ f.at_;refine⟨rH l,λp B=>⟨g,eK k,by rw[aM (λz=>by rw[<-z,l]at B;cases B)];exact l,rfl,dJ (by lia),λw hw=>?_,λhw=>?_⟩⟩
 .obtain⟨xs,S⟩:∃xs,aK st.begun k=some xs:=by
   cases q:aK st.begun k with
   | none=>have:=f.non k (by show(aK _ _).map _=_;rw[q];rfl);rw[hw]at this;cases this
   | some xs=>exact⟨_,rfl⟩
  have b:gG st.begun k=some (xs.map j8):=by show(aK _ _).map _=_;rw[S];rfl
  obtain⟨G,i,F⟩:=f.has b;rw[hw]at i;cases i;have d:=h4.more (o:=.lst []) B;have N:=d.sub _ _ F;rw[S]at hl;refine⟨hW N,_,N,dJ (by rw[Ab];exact hl),r _ ⟨_,_,_,e,g,O,Z,(f.wr (ws:=xs.map j8++[j8 z]) hw).same λj=>?_,d.lift (.inr ⟨_,F⟩),J,?_,trivial⟩⟩
  .refine(vB _ _ k z j).trans ?_;rw[S];rfl
  .show _<=(eD _ _ _).length;rw[KL (by rw[S];rfl)];exact s
 .have S:aK st.begun k=none:=by
   cases q:aK st.begun k with
   | none=>rfl
   | some xs=>obtain⟨G,i,_⟩:=f.has (k:=k) (ws:=xs.map j8) (by show(aK _ _).map _=_;rw[q];rfl);rw[hw]at i;cases i
  have b:gG st.begun k=none:=by show(aK _ _).map _=_;rw[S];rfl
  have x:=h4.sub.non B;have a:=f.add KG (ws:=[]) b x;have c:p≠A.g:=λz=>by rw[z,l]at B;cases B
  have m:=(h4.lift (o:=.lst []) (.inl B)).lift (p:=A.g) (o:=.dT (bZ g (eK k) (.ref p))) (.inr ⟨.dT g,by rw[aM (Bq c)];exact f.at_⟩);have u:aT (bZ g (eK k) (.ref p)) (eK k)=some (.ref p):=by rw[n6,Uw rfl]
  have Y:put (put t p (.lst [])) A.g (.dT (bZ g (eK k) (.ref p))) p=some (.lst []):=by rw[aM c,aL]
  have N:=m.sub _ _ Y;refine⟨hW N,_,N,dJ (by simp),r _ ⟨_,_,_,e,_,O,Z,(a.wr (ws:=[j8 z]) u).same λj=>?_,m.lift (.inr ⟨_,Y⟩),J,?_,trivial⟩⟩
  .refine(vB _ _ k z j).trans ?_;rw[S]
   by_cases D:k=j
   .rw[Uw D,Uw D];rfl
   .rw[Uv D,Uv D,Uv D]
  .show _<=(eD _ _ _).length;rw[vA S,Ak,Cf];have:=zS g (eK k) (W.ref p);lia
theorem SK.ends_at(h:SR C E M0 M A st)(k:Aw×Int):∃kvs,M A.e=some (.dT kvs)/\((aT kvs (eK k)=none/\aK st.ends k=none)\/∃p xs,aT kvs (eK k)=some (.ref p)/\aK st.ends k=some xs/\SK C E M0 M A st (some (p,xs.map j7))):=by
 obtain⟨I,v,t,e,g,O,Z,f,h4,J,s,H⟩:=h.ex;refine⟨e,h4.sub _ _ (f.sub _ _ Z.at_),?_⟩;cases q:aK st.ends k with
 | none=>exact .inl ⟨Z.non k (by show(aK _ _).map _=_;rw[q];rfl),rfl⟩
 | some xs=>
  obtain⟨p,i,F⟩:=Z.has (k:=k) (ws:=xs.map j7) (by show(aK _ _).map _=_;rw[q];rfl);exact .inr ⟨p,xs,i,rfl,I,v,t,e,g,O,Z,f,h4,J,s,f.sub _ _ F⟩
theorem SK.begun_at(h:SR C E M0 M A st)(k:Aw×Int):∃kvs,M A.g=some (.dT kvs)/\((aT kvs (eK k)=none/\aK st.begun k=none)\/∃p xs,aT kvs (eK k)=some (.ref p)/\aK st.begun k=some xs/\SK C E M0 M A st (some (p,xs.map j8))):=by
 obtain⟨I,v,t,e,g,O,Z,f,h4,J,s,H⟩:=h.ex;refine⟨g,h4.sub _ _ f.at_,?_⟩;cases q:aK st.begun k with
 | none=>exact .inl ⟨f.non k (by show(aK _ _).map _=_;rw[q];rfl),rfl⟩
 | some xs=>
  obtain⟨p,i,F⟩:=f.has (k:=k) (ws:=xs.map j8) (by show(aK _ _).map _=_;rw[q];rfl);exact .inr ⟨p,xs,i,rfl,I,v,t,e,g,O,Z,f,h4,J,s,F⟩
end
def lB:a8:=λws M R=>∃ts:List Aw,ws=[.rl (ts.map W.str)]/\ts.length<=400/\R (.dk ((ts.foldl dE []).map cD)) M
def ownOf(rs:List aE):List (aB×W):=((namesOf rs).foldl dE []).map cD
def z9:a8:=λws M R=>∃a b:aQ,ws=[cW a,cW b]/\R (cW (j3 a b)) M
structure Sm(st:SS)(k:Nat):Prop where
 q:(bR st.q).length+k<10000000
 r:st.reached.length+k<10000000
def rM(C:Cc):a8:=λws M R=>∃(E:Env) (M0:Mm) (A:Ad) (st:SS) (n:Nat) (cut:List Int) (c:aQ) (kp:Option (Aj×List W)),ws=[.ref A.s,.int n,fV cut,cW c]/\SK C E M0 M A st kp/\cut≠[]/\Sm st 1/\∀V,SK C E M0 V A (reach st n cut c) kp->R .non V
def KN(C:Cc):a8:=λws M R=>∃(E:Env) (M0:Mm) (A:Ad) (st:SS) (n:Nat) (cut:List Int) (c:aQ) (b:Aw),ws=[.ref A.s,.int n,fV cut,cW c,.tup [.str b,.int (cut.getLastD 0)]]/\SR C E M0 M A st/\cut≠[]/\cut.length<1000/\Sm st ((aK st.ends (b,cut.getLastD 0)).getD []).length/\st.begun.length<10000000/\((aK st.begun (b,cut.getLastD 0)).getD []).length<10000000/\∀V,SR C E M0 V A (nW st n cut c b)->R .non V
def KO(C:Cc):a8:=λws M R=>∃(G:Sr) (E:Env) (M0:Mm) (A:Ad) (st:SS) (n:Nat) (cut:List Int) (c:aQ),ws=[.ref A.s,.int n,fV cut,cW c]/\SR C E M0 M A st/\G.rs=E.rs/\n<E.rs.length/\cut≠[]/\(∀y∈(aK st.begun (jP G n,cut.headD 0)).getD [],y.2.1.length<1000/\y.2.1≠[])/\Sm st ((aK st.begun (jP G n,cut.headD 0)).getD []).length/\st.best.length<10000000/\st.ends.length<10000000/\((aK st.ends (jP G n,cut.headD 0)).getD []).length<10000000/\∀V,SR C E M0 V A (settle G st n cut c)->R .non V
structure KP(G:Sr)(E:Env):Prop where
 rs:G.rs=E.rs
 own:∀t,(aT E.own (Sum.inr t:aB)).isSome=G.own t
 stp:∀t p,(aT E.stp (eK (t,p))=none/\G.steps t p=[])\/aT E.stp (eK (t,p))=some (.rl ((G.steps t p).map λz=>.tup [.int z.1,.int z.2]))
structure Rm(G:Sr)(st:SS):Prop where
 item:∀c n cut q',hJ st.q=some (c,(n,cut),q')->cut=rep cut.length/\cut≠[]/\cut.length<1000/\n<G.rs.length/\∃d,aK st.reached (fB n cut)=some d
 bg:∀t,∀y∈(aK st.begun (t,0)).getD [],y.2.1.length<1000/\y.2.1≠[]
 b:st.best.length<10000000
 e:st.ends.length<10000000
 g:st.begun.length<10000000
 el:∀t,((aK st.ends (t,0)).getD []).length<10000000/\Sm st ((aK st.ends (t,0)).getD []).length
 gl:∀t,((aK st.begun (t,0)).getD []).length<10000000/\Sm st ((aK st.begun (t,0)).getD []).length
 sl:∀t,Sm st (G.steps t 0).length
def KQ(C:Cc):a8:=λws M R=>∃(G:Sr) (E:Env) (M0:Mm) (A:Ad) (st:SS),ws=[.ref A.s]/\SR C E M0 M A st/\KP G E/\st.q≠[]/\Rm G st/\∀V,SR C E M0 V A (pL G st)->R .non V
def KR(C:Cc):a8:=λws M R=>∃(M0:Mm) (s dx:Aj) (rs:List aE) (stp:List (List aB×W)),ws=[.ref s,bV rs,.dt stp]/\rs.length<=100/\M=put M0 s (.ins C.s dx [])/\M0 s=none/\∀V (A:Ad),A.s=s->SR C ⟨rs,ownOf rs,stp⟩ M0 V A mK->R .non V
def AA(C:Cc):a8:=λws M R=>∃(G:Sr) (E:Env),ws=[bV E.rs,.rl [.int 0],.dt E.stp,.rl ((Cd G.rs.length).map λn=>.int (G.wt n))]/\E.rs.length<=100/\E.own=ownOf E.rs/\KP G E/\One G/\(∀r∈G.rs,r.parts.length<=900)/\∀B,kZ G B->jH (dQ fK eX B) M R
abbrev zcP:List Aw:=["things"]
abbrev zcQ:aD:=
   (bS (bU G3 (aA (bN (eF (bY cU aH) (a7 0) fM (a9 (aA aH (aA (vC (.bl true)) aC))) [none])) aC)))
abbrev zcR:List Aw:=["cost","other"]
abbrev zcS:aD:=
   (bS (a9 (aA (aG dD (vX aH bL) (vX aS bL)) (aA (aG dD (vX aH bD) (vX aS bD)) aC))))
abbrev zcT:List Aw:=["self","grammar","steps"]
abbrev zcU(C:Cc):aD:=
   (i4 C.s aH "grammar" aS)
abbrev zcV(C:Cc):aD:=
   (i4 C.s aH "own" (aZ lB (aA (bN (aZ iP (aA aS aC))) aC)))
abbrev zcW(C:Cc):aD:=
   (i4 C.s aH "steps" a6)
abbrev KS(C:Cc):aD:=
   (i4 C.s aH "queue" (k9 C.q (JS C) aC))
abbrev zcX(C:Cc):aD:=
   (i4 C.s aH "reached" mC)
abbrev zcY(C:Cc):aD:=
   (i4 C.s aH "best" mC)
abbrev zcZ(C:Cc):aD:=
   (i4 C.s aH "ends" mC)
abbrev zc0(C:Cc):aD:=
   (i4 C.s aH "begun" mC)
abbrev zc1(C:Cc):aD:=(aF (zcU C) (aF (zcV C) (aF (zcW C) (aF (KS C) (aF (zcX C) (aF (zcY C) (aF (zcZ C) (zc0 C))))))))
abbrev zc2:List Aw:=["self","number","cut","cost","key"]
abbrev zc3(C:Cc):aD:=
   (aF (aW 4 (a9 (aA aS (aA (bU dH (aA a6 aC)) (aA (vX a6 bL) (aA (vX a6 (jY j0 bD)) aC))))))
   (cI (lU (bT (aG (cH true) bG (cQ C.s aH "reached"))) (bT (aG zR bJ (vX (cQ C.s aH "reached") bG))))
    (aF (gM bJ (iE (cQ C.s aH "reached") bG))
   (cE (dU C.q "put" (zU C) (cQ C.s aH "queue") (aA bJ (aA (a9 (aA aS (aA a6 aC))) aC)))))
    dA))
abbrev zc4:List Aw:=["self","taken","cost","number","cut","parts","end","price"]
abbrev zc5(C:Cc):aD:=
   (aW 1 (dU C.q "take" (JV C) (cQ C.s aH "queue") aC))
abbrev zc6(C:Cc):aD:=
   (aW 2 (vX aS bL))
abbrev zc7(C:Cc):aD:=
   (aW 3 (vX (vX aS bD) bL))
abbrev zc8(C:Cc):aD:=
   (aW 4 (vX (vX aS bD) bD))
abbrev zc9(C:Cc):aD:=
   (cI (bT (aG zR (vX (cQ C.s aH "reached") (a9 (aA bJ (aA (bU dH (aA bG aC)) (aA (vX bG bL) (aA (vX bG (jY j0 bD)) aC)))))) a6))
    yF
    dA)
abbrev zda(C:Cc):aD:=
   (aW 5 (vX (vX (cQ C.s aH "grammar") bJ) bD))
abbrev zdb(C:Cc):aD:=
   (cI (bT (aG xR (bU dH (aA bG aC)) (bU dH (aA c0 aC))))
    (cE (dU C.s "settle" (KO C) aH (aA bJ (aA bG (aA a6 aC)))))
    (cI (bT (aG (cH false) (vX c0 (aG kR (bU dH (aA bG aC)) bD)) (cQ C.s aH "own")))
    (cE (dU C.s "step_by_name" (KN C) aH (aA bJ (aA bG (aA a6 (aA (a9 (aA (vX c0 (aG kR (bU dH (aA bG aC)) bD)) (aA (vX bG (jY j0 bD)) aC))) aC))))))
    (cL (bY jM (eA "dict" uR (cQ C.s aH "steps") (aA (a9 (aA (vX c0 (aG kR (bU dH (aA bG aC)) bD)) (aA (vX bG (jY j0 bD)) aC))) (aA (fU aC) aC)))) (gA 2 (cP (a7 6) (cP (a7 7) f9)))
    (cE (dU C.s "reach" (rM C) aH (aA bJ (aA (aG dD bG (a9 (aA cS aC))) (aA (a9 (aA (aG dD (vX a6 bL) cT) (aA (vX a6 bD) aC))) aC))))))))
abbrev zdc(C:Cc):aD:=(aF (zc5 C) (aF (zc6 C) (aF (zc7 C) (aF (zc8 C) (aF (zc9 C) (aF (zda C) (zdb C)))))))
abbrev zdd:List Aw:=["self","number","cut","cost","key","end","more"]
abbrev zde(C:Cc):aD:=
   (aF (cE (eA "list" fJ (eA "dict" rE (cQ C.s aH "begun") (aA bG (aA (iL aC) aC))) (aA (a9 (aA aS (aA a6 (aA bJ aC)))) aC)))
   (cL (bY jM (eA "dict" uR (cQ C.s aH "ends") (aA bG (aA (fU aC) aC)))) (gA 2 (cP (a7 5) (cP (a7 6) f9)))
    (cE (dU C.s "reach" (rM C) aH (aA aS (aA (aG dD a6 (a9 (aA c0 aC))) (aA (aZ z9 (aA bJ (aA cS aC))) aC)))))))
abbrev zdf:List Aw:=["self","number","cut","cost","key","fact","other","before","paid"]
abbrev zdg(C:Cc):aD:=
   (aW 4 (a9 (aA (vX (vX (cQ C.s aH "grammar") aS) bL) (aA (vX a6 bL) aC))))
abbrev zdh(C:Cc):aD:=
   (aW 5 (aG dD bG (a9 (aA (vX a6 (jY j0 bD)) aC))))
abbrev zdi(C:Cc):aD:=
   (cI (bT (aG (cH false) c0 (cQ C.s aH "best")))
    yF
    dA)
abbrev zdj(C:Cc):aD:=
   (gM (a9 (aA bJ (aA aS (aA a6 aC)))) (iE (cQ C.s aH "best") c0))
abbrev zdk(C:Cc):aD:=
   (cE (eA "list" fJ (eA "dict" rE (cQ C.s aH "ends") (aA bG (aA (iL aC) aC))) (aA (a9 (aA (vX a6 (jY j0 bD)) (aA bJ aC))) aC)))
abbrev zdl(C:Cc):aD:=
   (cE (dU C.s "reach" (rM C) aH (aA cS (aA (aG dD cT (a9 (aA (vX a6 (jY j0 bD)) aC))) (aA (aZ z9 (aA gY (aA bJ aC))) aC)))))
abbrev zdm(C:Cc):aD:=
   (cL (bY jM (eA "dict" uR (cQ C.s aH "begun") (aA bG (aA (fU aC) aC)))) (gA 3 (cP (a7 6) (cP (a7 7) (cP (a7 8) f9)))) (zdl C))
abbrev zdn(C:Cc):aD:=(aF (zdg C) (aF (zdh C) (aF (zdi C) (aF (zdj C) (aF (zdk C) (zdm C))))))
abbrev zdo:List Aw:=["grammar","places","steps","weights","search","number","place"]
abbrev zdp(C:Cc):aD:=
   (aW 4 (k9 C.s (KR C) (aA aH (aA a6 aC))))
abbrev zdq(C:Cc):aD:=
   (cL (bY cU aS) (a7 6)
    (cE (dU C.s "reach" (rM C) bG (aA c0 (aA (a9 (aA cS aC)) (aA (a9 (aA (vX bJ c0) (aA bD aC))) aC))))))
abbrev zdr(C:Cc):aD:=
   (cL (uA (aA (bU dH (aA aH aC)) aC)) (a7 5) (zdq C))
abbrev zds(C:Cc):aD:=
   (cE (dU C.s "take_next" (KQ C) bG aC))
abbrev zdt(C:Cc):aD:=
   (mE (xN (gK (dU C.q "is_done" (JT C) (cQ C.s bG "queue") aC))) (zds C))
abbrev zdu(C:Cc):aD:=
   (bS (cQ C.s bG "best"))
abbrev zdv(C:Cc):aD:=(aF (zdp C) (aF (zdr C) (aF (zdt C) (zdu C))))
theorem KU:∀(ts acc:List Aw),j1 (acc.map cD) (ts.map cD)=(ts.foldl dE acc).map cD
 | [],acc=>rfl
 | t::r,acc=>by
  show j1 (bZ (acc.map cD) (Sum.inr t) (.bl true)) (r.map cD)=_;rw[u5,KU,Fw]
theorem zdw(h:lB ws M R):zcQ (bA R) (bF zcP ws) M:=by
 obtain⟨ts,rfl,hl,r⟩:=h;have l:(ts.map W.str).length<=Ao:=small (by rw[Ab];exact Bf hl (by decide));refine(nS (rest:=[]) (λw=>.tup [w,.bl true]) l (λ_ _=>trivial) (λw hw V C sb O=>O) (aV.frz ⟨ts.map cD,?_,by rw[Ab];exact l,_,aP,?_⟩))
 .unfold nT;rw[Bm,Bm];rfl
 .rw[show([]:List (aB×W))=([]:List Aw).map cD from rfl,KU];exact r
theorem zdx(h:z9 ws M R):zcS (bA R) (bF zcR ws) M:=by
 obtain⟨a,b,rfl,r⟩:=h;exact⟨_,aP,r⟩
section
variable {O:Type}
theorem AB{Q:W->Prop}(h:cut≠[])(r:Q (.int (cut.headD 0))):so (b7 (cut.map W.int) 0) Q:=by
 refine so.of ?_ r;cases cut with
 | nil=>exact absurd rfl h
 | cons a t=>exact uF _ _
theorem oB{Q:W->Prop}(h:cut≠[])(r:Q (.int (cut.getLastD 0))):so (b7 (cut.map W.int) (-1)) Q:=by
 refine so.of ?_ r;rcases Gb cut with z|⟨a,b,z⟩
 .exact absurd z h
 .rw[z,Gd,Az];refine(DB _ _).trans ?_;simp[Mj]
theorem zdy{n:Nat}:W.tup [.int n,.int (cut.map W.int).length,.int (cut.headD 0),.int (cut.getLastD 0)]=.tup ((i6 (fB n cut)).map wK):=by
 rw[Ab];rfl
theorem zdz{n:Nat}(h:M a=some (.dT (dQ i6 cW t)))(hd:aK t (fB n cut)=some d)(r:R (cW d) M):L2.oX (.ref a) (.tup [.int n,.int (cut.map W.int).length,.int (cut.headD 0),.int (cut.getLastD 0)]) M R:=by rw[zdy];exact n9 h (by rw[lA u6,hd];rfl) r
theorem KW{C:Cc}{E:Env}{X M:Mm}{A:Ad}{st:SS}{n:Nat}{cut:List Int}{c:aQ}{R:K3}{kp:Option (Aj×List W)}(F:SK C E X M A st kp)(sm:Sm st 1)(r:∀V,SK C E X V A {st with reached:=eD st.reached (fB n cut) c,q:=cX c (n,cut) st.q} kp->R .non V):
  aF (gM (cY 3) (iE (cQ C.s (cY 0) "reached") (cY 4))) (cE (dU C.q "put" (zU C) (cQ C.s (cY 0) "queue") (aA (cY 3) (aA (a9 (aA (cY 1) (aA (cY 2) aC))) aC)))) (bA R) [some (W.ref A.s),some (W.int n),some (fV cut),some (cW c),some (W.tup (Lg wK (i6 (fB n cut))))] M:=by
 have O:=sm.q;have Z:=sm.r;refine⟨A.s,A.d,_,_,rfl,F.os,u7,pD F.or (dJ (by rw[Ab];lia)) ?_⟩;rw[zX u6];have u:=F.rput (eD st.reached (fB n cut) c);obtain⟨t,N,a⟩:=u.que;exact⟨A.s,A.d,_,_,rfl,u.os,zY,A.Q.o,A.Q.d,qf A.Q,rfl,N.ob,zbf,t,A.Q,_,c,(n,cut),rfl,N,(by rw[uM];exact O),λV h'=>⟨V,aP,r V (a V _ h')⟩⟩
theorem zdA{C:Cc}{ws:List W}{M:Mm}{R:K3}(h:rM C ws M R):zc3 C (bA R) (bF zc2 ws) M:=by
 obtain⟨E,X,A,st,n,cut,c,kp,rfl,F,J,sm,r⟩:=h;refine AB J (oB J ?_);rw[Ab];refine⟨A.s,A.d,_,⟨_,rfl,F.os,u7,.inr ⟨_,.inr ⟨_,i6 (fB n cut),F.or,rfl,rfl⟩,?_⟩⟩⟩;rw[lA u6];cases g:aK st.reached (fB n cut) with
 | none=>
  refine KW F sm λV h'=>r V ?_;unfold reach;rw[g];exact h'
 | some d=>
  refine⟨A.s,A.d,_,⟨_,rfl,F.os,u7,(n9 (k:=i6 (fB n cut)) F.or (by rw[lA u6,g];rfl) ⟨c.1,c.2,d.1,d.2,rfl,rfl,(cB (λhl=>KW F sm λV h'=>r V ?_) λhl=>⟨M,aP,r M ?_⟩)⟩)⟩⟩
  .unfold reach;rw[g];simp only;rw[Uw (show dG c d=true from hl)];exact h'
  .unfold reach;rw[g];simp only;rw[Uv (ne_true_of_eq_false (show dG c d=false from hl))];exact F
theorem Sm.reach{st:SS}{k:Nat}(h:Sm st (k+1))(n:Nat)(cut:List Int)(c:aQ):Sm (L2.reach st n cut c) k:=by
 obtain⟨j,O,Z,f⟩:=zas st n cut c;have:=h.q;have:=h.r;exact⟨by lia,by lia⟩
theorem Sm.le{st:SS}{k j:Nat}(h:Sm st k)(D:j<=k):Sm st j:=⟨by have:=h.q;lia,by have:=h.r;lia⟩
def reaches(f:O->Nat×List Int×aQ)(xs:List O)(st:SS):SS:=xs.foldl (λst x=>reach st (f x).1 (f x).2.1 (f x).2.2) st
theorem vD{f:O->Nat×List Int×aQ}{xs:List O}{st:SS}{i:Nat}{x:O}(h:xs[i]? = some x):reaches f (xs.take (i+1)) st=reach (reaches f (xs.take i) st) (f x).1 (f x).2.1 (f x).2.2:=by
 unfold reaches;rw[Bw,h,Iu];rfl
theorem rN{f:O->Nat×List Int×aQ}:∀{xs:List O} {st:SS} {k:Nat},Sm st (xs.length+k)->Sm (reaches f xs st) k
 | [],st,k,h=>by simp at h;exact h
 | x::xs,st,k,h=>by
  show Sm (reaches f xs (reach st (f x).1 (f x).2.1 (f x).2.2)) k;exact rN (Sm.reach (by rw[Bu]at h;exact h.le (by lia)) _ _ _)
theorem zdB{C:Cc}{ws:List W}{M:Mm}{R:K3}(h:KN C ws M R):zde C (bA R) (bF zdd ws) M:=by
 obtain⟨E,X,A,st,n,cut,c,b,rfl,F,J,x,sm,Y,g,r⟩:=h;refine⟨A.s,A.d,_,_,rfl,F.os,KJ,F.gpush (k:=(b,cut.getLastD 0)) (z:=(n,cut,c)) Y g λI u=>?_⟩;have hf:=u.ends_at (b,cut.getLastD 0);obtain⟨kvs,P,hc⟩:=hf;refine⟨A.s,A.d,_,⟨_,rfl,u.os,KI,rH P,⟨_,.inr ⟨kvs,eK (b,cut.getLastD 0),P,rfl,rfl⟩,?_⟩⟩⟩;rcases hc with⟨O,Z⟩|⟨p,xs,O,Z,hk⟩
 .rw[O];refine(dB (λi L V=>V=I) rfl (λi w L V hw=>nomatch hw) λL V e=>⟨_,aP,r _ ?_⟩);rw[e];unfold nW;rw[show aK st.ends (b,cut.getLastD 0)=none from Z];exact u
 .rw[O];obtain⟨f,hf⟩:∃f:Int×aQ->Nat×List Int×aQ,f=λz=>(n,cut++[z.1],j3 c z.2):=⟨_,rfl⟩;obtain⟨l,a⟩:∃l,l = {st with begun:=jO st.begun (b,cut.getLastD 0) (n,cut,c)}:=⟨_,rfl⟩;rw[<-a]at hk;have D:Sm l xs.length:=by
   rw[show aK st.ends (b,cut.getLastD 0)=some xs from Z]at sm;rw[a];exact⟨sm.q,sm.r⟩
  refine⟨_,hk.kept,yG (λi L V=>∃K Q,L=[some (.ref A.s),some (.int n),some (fV cut),some (cW c),some (.tup [.str b,.int (cut.getLastD 0)]),K,Q]/\SK C E X V A (reaches f (xs.take i) l) (some (p,xs.map j7))) ⟨_,⟨_,rfl,hk⟩⟩ (λi L V _ ⟨_,_,_,h⟩=>h.kept) ?_ ?_⟩
  .rintro i w L V hw ⟨K,Q,rfl,B⟩;rw[Ap]at hw;obtain⟨z,hz,rfl⟩:=Ax.mp hw;have hi:=(An.mp hz).1;have j:Sm (reaches f (xs.take i) l) 1:=rN (D.le (by rw[Ca];lia));have T:W.tup (Lg W.int cut++[W.int z.1])=fV (cut++[z.1]):=by unfold fV;rw[Az];rfl
   refine⟨rfl,rfl,⟨A.s,A.d,⟨_,rfl,B.os,u9,⟨by simpa using J,by rw[Ab];exact Bf x (small (by decide)),⟨c,z.2,rfl,E,X,A,_,n,cut++[z.1],j3 c z.2,_,by rw[T],B,by simp,j,λv N=>⟨v,aP,_,⟨_,rfl,?_⟩⟩⟩⟩⟩⟩⟩;rw[vD hz,hf];rw[hf]at N;exact N
  .rintro L V ⟨K,Q,rfl,B⟩;rw[Ab,Br]at B;refine⟨_,aP,r _ ?_⟩;unfold nW;rw[show aK st.ends (b,cut.getLastD 0)=some xs from Z];rw[a,hf]at B;exact B.free
end
theorem oC{rs:List aE}{n:Nat}(h:n<rs.length):∃r,rs[n]? = some r/\b7 (rs.map bE) (n:Int)=some (bE r):=by
 refine⟨rs[n],Bp h,iJ ?_⟩;rw[Ap,Bp h];rfl
theorem zdC{bs:cF}{k:cA}{v:aQ×Nat×List Int}(h:aK bs k=none):bZ (dQ fK eX bs) (fK k) (eX v)=dQ fK eX (bs++[(k,v)]):=by
 rw[zX mL,vA h]
theorem zdD{C:Cc}{ws:List W}{M:Mm}{R:K3}(h:KO C ws M R):zdn C (bA R) (bF zdf ws) M:=by
 obtain⟨G,E,X,A,st,n,cut,c,rfl,F,hG,U,J,hbg,sm,Y,P,x,r⟩:=h;obtain⟨ru,hr1,hr2⟩:=oC U;have j:jP G n=ru.name:=by unfold jP;rw[hG,hr1]
 have H:pK G n cut=(ru.name,cut.headD 0,cut.getLastD 0):=by unfold pK;rw[j]
 rw[j]at sm x hbg;refine⟨A.s,A.d,_,⟨_,rfl,F.os,KH,(so.of hr2 (AB J (oB J ⟨(λh=>nomatch h),z3,⟨A.s,A.d,_,⟨_,rfl,F.os,zZ,.inr ⟨_,.inr ⟨_,fK (ru.name,cut.headD 0,cut.getLastD 0),F.ob,rfl,rfl⟩,?_⟩⟩⟩⟩)))⟩⟩;rw[lA mL];cases hbst:aK st.best (ru.name,cut.headD 0,cut.getLastD 0) with
 | some v=>
  refine⟨M,aP,r M ?_⟩;unfold settle;rw[H,hbst];exact F
 | none=>
  refine⟨A.s,A.d,_,⟨_,rfl,F.os,zZ,(pD (k:=fK (ru.name,cut.headD 0,cut.getLastD 0)) F.ob (dJ (by rw[Ab];exact Y)) ?_)⟩⟩;rw[show bZ (dQ fK eX st.best) _ (W.tup [cW c,W.int n,fV cut])=_ from zdC (v:=(c,n,cut)) hbst];have u:=F.bput (st.best++[((ru.name,cut.headD 0,cut.getLastD 0),c,n,cut)]);refine⟨A.s,A.d,_,_,rfl,u.os,KI,u.epush (k:=(ru.name,cut.headD 0)) (z:=(cut.getLastD 0,c)) (λ_ _ h=>oB J h) P x λI g=>?_⟩;obtain⟨l,b⟩:∃l:SS,l = {st with best:=st.best++[((ru.name,cut.headD 0,cut.getLastD 0),c,n,cut)],ends:=jO st.ends (ru.name,cut.headD 0) (cut.getLastD 0,c)}:=⟨_,rfl⟩;have g:SR C E X I A l:=by rw[b];exact g
  have hset:∀xs,(aK st.begun (ru.name,cut.headD 0)).getD []=xs->settle G st n cut c=reaches (λy:kY=>(y.1,y.2.1++[cut.getLastD 0],j3 y.2.2 c)) xs l:=λxs S=>by
   unfold settle;rw[H,hbst,j,S,b];rfl
  have hbeg:l.begun=st.begun:=by rw[b]
  obtain⟨kvs,t,hc⟩:=g.begun_at (ru.name,cut.headD 0);refine⟨A.s,A.d,_,⟨_,rfl,g.os,KJ,rH t,⟨_,.inr ⟨kvs,eK (ru.name,cut.headD 0),t,rfl,rfl⟩,?_⟩⟩⟩;rcases hc with⟨O,Z⟩|⟨p,xs,O,Z,hk⟩
  .rw[O];refine(dB (λi L V=>V=I) rfl (λi w L V hw=>nomatch hw) λL V e=>⟨_,aP,r _ ?_⟩);rw[hset [] (by rw[hbeg]at Z;rw[Z];rfl),e];exact g
  .rw[O];rw[hbeg]at Z;obtain⟨f,hf⟩:∃f:kY->Nat×List Int×aQ,f=λy=>(y.1,y.2.1++[cut.getLastD 0],j3 y.2.2 c):=⟨_,rfl⟩;have D:Sm l xs.length:=by
    rw[Z]at sm;rw[b];exact⟨sm.q,sm.r⟩
   refine⟨_,hk.kept,yG (λi L V=>∃Q o m,L=[some (.ref A.s),some (.int n),some (fV cut),some (cW c),some (.tup [.str ru.name,.int (cut.headD 0)]),some (.tup ([.str ru.name,.int (cut.headD 0)]++[.int (cut.getLastD 0)])),Q,o,m]/\SK C E X V A (reaches f (xs.take i) l) (some (p,xs.map j8))) ⟨_,_,⟨_,rfl,hk⟩⟩ (λi L V _ ⟨_,_,_,_,h⟩=>h.kept) ?_ ?_⟩
   .rintro i w L V hw ⟨Q,o,m,rfl,B⟩;rw[Ap]at hw;obtain⟨y,K,rfl⟩:=Ax.mp hw;have hi:=(An.mp K).1;obtain⟨T,hyn⟩:=hbg y (by rw[Z];exact Ay K);refine⟨rfl,rfl,⟨A.s,A.d,⟨_,rfl,B.os,u9,(oB J ⟨by simpa using hyn,by rw[Ab];exact small (Bf T (by decide)),⟨y.2.2,c,rfl,E,X,A,_,y.1,y.2.1++[cut.getLastD 0],j3 y.2.2 c,_,by rw[fV,Az];rfl,B,by simp,rN (D.le (by rw[Ca];lia)),λa N=>⟨a,aP,_,_,⟨_,rfl,?_⟩⟩⟩⟩)⟩⟩⟩;rw[vD K,hf];rw[hf]at N;exact N
   .rintro L V ⟨Q,o,m,rfl,B⟩;rw[Ab,Br]at B;refine⟨_,aP,r _ ?_⟩;rw[hset xs (by rw[Z];rfl),<-hf];exact B.free
theorem zdE{C:Cc}{ws:List W}{M:Mm}{R:K3}(h:KQ C ws M R):zdc C (bA R) (bF zc4 ws) M:=by
 obtain⟨G,E,X,A,st,rfl,F,ev,N,rm,r⟩:=h;obtain⟨c,x,S,T,f1,m1,m,_,_⟩:=nV F.fall N;obtain⟨n,cut⟩:=x;obtain⟨hrp,J,P,U,d,hd⟩:=rm.item c n cut S T;have eh:cut.headD 0=0:=by rw[hrp];exact zF
 have el:cut.getLastD 0=0:=by rw[hrp];exact zE
 obtain⟨t,H,back⟩:=F.que;refine⟨A.s,A.d,_,⟨_,rfl,F.os,zY,A.Q.o,A.Q.d,⟨_,rfl,H.ob,zbg,t,A.Q,_,c,(n,cut),S,rfl,H,T,λI hQ1=>?_⟩⟩⟩;have u:=back I S hQ1;have smq:∀k,Sm st k->Sm {st with q:=S} k:=λk h=>⟨by have:=h.q;show(bR S).length+k<_;lia,h.r⟩
 have ht:pL G st=if dG d c=true then {st with q:=S} else nX G {st with q:=S} n cut c:=by
  unfold pL;simp only[T,hd]
 obtain⟨l,a⟩:∃l:SS,l = {st with q:=S}:=⟨_,rfl⟩;have b1:l.begun=st.begun:=by rw[a]
 have b2:l.ends=st.ends:=by rw[a]
 have b3:l.best=st.best:=by rw[a]
 have b4:l.reached=st.reached:=by rw[a]
 rw[<-a]at u smq ht;clear a;refine⟨A.s,A.d,_,⟨_,rfl,u.os,u7,(AB J (oB J (zdz u.or (by rw[b4];exact hd) ⟨d.1,d.2,c.1,c.2,rfl,rfl,(cB (λhl=>?_) λhl=>?_)⟩)))⟩⟩
 .rw[ht,Uw (show dG d c=true from hl)]at r;exact⟨I,aP,r I u⟩
 rw[ht,Uv (ne_true_of_eq_false (show dG d c=false from hl))]at r;rw[ev.rs]at U;obtain⟨ru,hr1,hr2⟩:=oC U;have hpart:pJ G n cut=ru.parts[cut.length-1]?:=by unfold pJ;rw[ev.rs,hr1]
 have hpos:=Lq.mpr J;have hlm:(Lg W.int cut).length=cut.length:=Ab _;have hlp:(Lg W.str ru.parts).length=ru.parts.length:=Ab _;refine⟨A.s,A.d,_,⟨_,rfl,u.os,KH,(so.of hr2 (cB (λj=>?_) λj=>?_))⟩⟩
 .have j:=Ux j;rw[hlm,hlp]at j;have B:pJ G n cut=none:=by rw[hpart];exact Of (by lia)
  refine⟨A.s,A.d,⟨_,rfl,u.os,zcO,⟨G,E,X,A,l,n,cut,c,rfl,u,ev.rs,U,J,by rw[b1,eh];exact rm.bg _,by rw[b1,eh];exact smq _ (rm.gl _).2,by rw[b3];exact rm.b,by rw[b2];exact rm.e,by rw[b2,eh];exact(rm.el _).1,λv Y=>⟨v,aP,r v ?_⟩⟩⟩⟩;unfold nX;rw[B];exact Y
 have j:=of_decide_eq_false j;rw[hlm,hlp]at j;obtain⟨Ji,B⟩:∃Ji,ru.parts[cut.length-1]? = some Ji:=⟨_,Bp (by lia)⟩;rw[B]at hpart;have y:b7 (ru.parts.map W.str) ((Lg W.int cut).length-1)=some (.str Ji):=by
  rw[hlm,show((cut.length:Int)-1)=((cut.length-1:Nat):Int) by lia];exact iJ (by rw[Ap,B];rfl)
 have hpr:nX G l n cut c=if G.own Ji=true then nW l n cut c Ji else reaches (λz:Int×Int=>(n,cut++[z.1],(c.1+z.2,c.2))) (G.steps Ji (cut.getLastD 0)) l:=by
  unfold nX;rw[hpart];rfl
 rw[hpr]at r;refine(so.of y ⟨A.s,A.d,_,⟨_,rfl,u.os,zcK,_,⟨Sum.inr Ji,rfl,rfl⟩,(cB (λf=>?_) λf=>?_)⟩⟩)
 .rw[Uw ((ev.own Ji).symm.trans f)]at r;exact⟨A.s,A.d,⟨_,rfl,u.os,zcN,(so.of y (oB J ⟨E,X,A,l,n,cut,c,Ji,rfl,u,J,P,by rw[b2,el];exact smq _ (rm.el _).2,by rw[b1];exact rm.g,by rw[b1,el];exact(rm.gl _).1,λv Y=>⟨v,aP,r v Y⟩⟩))⟩⟩
 rw[Uv (ne_true_of_eq_false ((ev.own Ji).symm.trans f))]at r;obtain⟨xs,hxs⟩:∃xs,xs=G.steps Ji (cut.getLastD 0):=⟨_,rfl⟩;have sm1:Sm l xs.length:=by rw[hxs,el];exact smq _ (rm.sl _)
 have hval:(aT E.stp (eK (Ji,cut.getLastD 0))).getD (.rl [])=.rl (xs.map λz=>.tup [.int z.1,.int z.2]):=by
  rw[hxs];rcases ev.stp Ji (cut.getLastD 0) with⟨O,Z⟩|O
  .rw[O,Z];rfl
  .rw[O];rfl
 rw[<-hxs]at r;refine⟨A.s,A.d,_,⟨_,rfl,u.os,zcL,rfl,(so.of y (oB J ⟨_,⟨eK (Ji,cut.getLastD 0),rfl,rfl⟩,zbC hval (uQ (λi L V=>∃K p,L=[some (.ref A.s),some (.tup [cW c,j6 (n,cut)]),some (cW c),some (.int n),some (fV cut),some (.tup (ru.parts.map W.str)),K,p]/\SR C E X V A (reaches (λz:Int×Int=>(n,cut++[z.1],(c.1+z.2,c.2))) (xs.take i) l)) ⟨_,⟨_,rfl,u⟩⟩ ?_ ?_)⟩))⟩⟩
 .rintro i w L V hw ⟨K,p,rfl,hk⟩ D hD;rw[Ap]at hw;obtain⟨z,hz,rfl⟩:=Ax.mp hw;have hi:=(An.mp hz).1;exact⟨rfl,rfl,⟨A.s,A.d,⟨_,rfl,hk.os,u9,⟨by simpa using J,by rw[hlm];exact Bf P (small (by decide)),⟨E,X,A,_,n,cut++[z.1],(c.1+z.2,c.2),_,by rw[fV,Az];rfl,hk,by simp,rN (sm1.le (by rw[Ca];lia)),λv hk2=>hD _ _ ⟨_,⟨_,rfl,by rw[vD hz];exact hk2⟩⟩⟩⟩⟩⟩⟩
 .rintro L V ⟨K,p,rfl,hk⟩;rw[Ab,Br]at hk;exact⟨_,aP,r _ hk⟩
theorem zdF:b5 "begun" (.ref A.g) (b5 "ends" (.ref A.e) (b5 "best" (.ref A.b) (b5 "reached" (.ref A.r) (b5 "queue" (.ref A.Q.o) ([("grammar",(bV E.rs)),("own",(W.dk E.own)),("steps",(W.dt E.stp))]:List (Aw×W))))))=sf E A:=by kernel_rfl
theorem vE(H:QR C B b A q)(a:B s=some (.ins C.s dx fs))(G:b p=none):p≠s/\B p=none/\put b p (.dT []) s=some (.ins C.s dx fs)/\QR C (put (put B p (.dT [])) s (.ins C.s dx fs')) (put (put b p (.dT [])) s (.ins C.s dx fs')) A q:=by
 have F:=H.sub _ _ a;have ne:p≠s:=λe=>by rw[e,F]at G;cases G
 exact⟨ne,H.sub.non G,by rw[aM (Bq ne)];exact F,(H.lift (.inl G)).lift (.inr ⟨_,by rw[aM (Bq ne)];exact a⟩)⟩
theorem rO(f:Aw)(w:W):∀fs:List (Aw×W),(b5 f w fs).length<=fs.length+1
 | []=>Ai _
 | (k,x)::r=>by
  rw[b5];split
  .simp
  .have:=rO f w r;simp only[Bu];lia
theorem zdG{C:Cc}{ws:List W}{M:Mm}{R:K3}(h:KR C ws M R):zc1 C (bA R) (bF zcT ws) M:=by
 obtain⟨X,s,dx,rs,stp,rfl,hl,rfl,Y,r⟩:=h;refine⟨s,dx,⟨_,rfl,aL,by decide,?_⟩⟩;rw[c9];have G:∀w:W,b5 "own" w (b5 "grammar" (bV rs) [])=([("grammar",bV rs),("own",w)]:List (Aw×W)):=λw=>by kernel_rfl
 have t:∀w:W,b5 "steps" w ([("grammar",bV rs),("own",.dk (ownOf rs))]:List (Aw×W))=([("grammar",bV rs),("own",.dk (ownOf rs)),("steps",w)]:List (Aw×W)):=λw=>by kernel_rfl
 refine⟨rs,rfl,Bf hl (by decide),aV.frz ⟨namesOf rs,rfl,?_,⟨s,dx,⟨_,rfl,aL,(show(1:Nat)<1000 by decide),⟨s,dx,⟨_,rfl,aL,?_,?_⟩⟩⟩⟩⟩⟩
 .have:=qZ (rs.map aE.name) [];rw[Ab]at this;unfold namesOf mJ;simp at this;simp;lia
 .rw[G];exact(show(2:Nat)<1000 by decide)
 rw[c9,c9,G];show KS C _ _ (put X s (.ins C.s dx (b5 "steps" (.dt stp) [("grammar",bV rs),("own",.dk (ownOf rs))])));rw[t];refine λa da l D T=>?_;have hsa:s≠a:=λe=>by rw[<-e,aL]at l;cases l
 obtain⟨F3,hF3⟩:∃F:List (Aw×W),F=([("grammar",bV rs),("own",.dk (ownOf rs)),("steps",.dt stp)]:List (Aw×W)):=⟨_,rfl⟩;rw[<-hF3]at l D⊢;refine⟨_,a,da,rfl,rfl,l,λI Aq hAq H=>⟨rfl,⟨s,dx,F3,rfl,H.sub _ _ aL,by rw[hF3];exact(show(3:Nat)<1000 by decide),?_⟩⟩⟩;have S:=H.lift (p:=s) (o:=.ins C.s dx (b5 "queue" (.ref a) F3)) (.inr ⟨_,aL⟩);rw[c9]at S;obtain⟨K,hF4⟩:∃F:List (Aw×W),F=b5 "queue" (.ref a) F3:=⟨_,rfl⟩;have l4:K.length<=4:=by rw[hF4];have:=rO "queue" (.ref a) F3;rw[hF3]at this⊢;exact this
 rw[<-hF4]at S⊢;obtain⟨Mt,hMt⟩:∃m,m=put I s (.ins C.s dx K):=⟨_,rfl⟩;rw[<-hMt]at S⊢;refine λN i=>?_;obtain⟨n1,u,c,hQ2⟩:=vE (fs':=b5 "reached" (.ref N) K) S aL i;refine⟨s,dx,K,rfl,c,by lia,λB n=>?_⟩;obtain⟨n2,z,Z,hQ3⟩:=vE (fs':=b5 "best" (.ref B) (b5 "reached" (.ref N) K)) hQ2 aL n;have l5:=rO "reached" (.ref N) K;refine⟨s,dx,⟨_,rfl,Z,by lia,λv hp3=>?_⟩⟩;obtain⟨n3,x,f,hQ4⟩:=vE (fs':=b5 "ends" (.ref v) (b5 "best" (.ref B) (b5 "reached" (.ref N) K))) hQ3 aL hp3;have l6:=rO "best" (.ref B) (b5 "reached" (.ref N) K);refine⟨s,dx,⟨_,rfl,f,by lia,λU hp4=>?_⟩⟩;obtain⟨n4,q,y,hQ5⟩:=vE (fs':=b5 "begun" (.ref U) (b5 "ends" (.ref v) (b5 "best" (.ref B) (b5 "reached" (.ref N) K)))) hQ4 aL hp4;have l7:=rO "ends" (.ref v) (b5 "best" (.ref B) (b5 "reached" (.ref N) K));refine⟨s,dx,⟨_,rfl,y,by lia,_,aP,r _ ⟨s,dx,Aq,N,B,v,U⟩ rfl ?_⟩⟩;obtain⟨A,O⟩:∃A:Ad,A=⟨s,dx,Aq,N,B,v,U⟩:=⟨_,rfl⟩;obtain⟨E,d⟩:∃E:Env,E=⟨rs,ownOf rs,stp⟩:=⟨_,rfl⟩;have hsf:b5 "begun" (.ref U) (b5 "ends" (.ref v) (b5 "best" (.ref B) (b5 "reached" (.ref N) K)))=sf E A:=by
  rw[<-zdF,hF4,hF3,O,d,<-hAq]
 rw[hsf]at hQ5⊢;rw[<-O,<-d];have c21:B≠N:=λe=>by rw[e,aM n1,aL]at z;cases z
 have c31:v≠N:=λe=>by rw[e,aM n1,aM (Bq c21),aM n1,aL]at x;cases x
 have c32:v≠B:=λe=>by rw[e,aM n2,aL]at x;cases x
 have c41:U≠N:=λe=>by rw[e,aM n1,aM (Bq c31),aM n1,aM (Bq c21),aM n1,aL]at q;cases q
 have c42:U≠B:=λe=>by rw[e,aM n2,aM (Bq c32),aM n2,aL]at q;cases q
 have c43:U≠v:=λe=>by rw[e,aM n3,aL]at q;cases q
 have V:X N=none:=by rw[aM n1]at u;exact u
 have J:X B=none:=by rw[aM n2,aM c21,aM n2]at z;exact z
 have z3:X v=none:=by rw[aM n3,aM c32,aM n3,aM c31,aM n3]at x;exact x
 have z4:X U=none:=by rw[aM n4,aM c43,aM n4,aM c42,aM n4,aM c41,aM n4]at q;exact q
 obtain⟨N1,hN1⟩:∃m,m=put (put (put X s (.ins C.s dx (sf E A))) N (.dT [])) B (.dT []):=⟨_,rfl⟩;have hB:put (put (put (put (put (put (put (put (put X s (.ins C.s dx K)) N (.dT [])) s (.ins C.s dx (b5 "reached" (.ref N) K))) B (.dT [])) s (.ins C.s dx (b5 "best" (.ref B) (b5 "reached" (.ref N) K)))) v (.dT [])) s (.ins C.s dx (b5 "ends" (.ref v) (b5 "best" (.ref B) (b5 "reached" (.ref N) K))))) U (.dT [])) s (.ins C.s dx (sf E A))=put (put N1 v (.dT [])) U (.dT []):=by
  rw[hN1];funext b;unfold put
  by_cases g0:b=s
  .subst g0;simp[Bq n1,Bq n2,Bq n3,Bq n4]
  .simp only[Uv g0]
 rw[hB]at hQ5;have mn:Mn C E X N1 A [] []:=by
  rw[hN1,O];exact⟨gR (gR (gR (aP) Y) V) J,Y,V,J,Bq n1,Bq n2,Bq c21,by rw[aM (Bq n2),aM (Bq n1),aL],by rw[aM (Bq c21),aL];rfl,by rw[aL];rfl⟩
 have y3:N1 v=none:=by rw[hN1,aM c32,aM c31,aM n3];exact z3
 have y4:N1 U=none:=by rw[hN1,aM c42,aM c41,aM n4];exact z4
 have L:d9 eK N1 (put N1 v (.dT [])) A.e [] (eG []):=by rw[O];exact⟨Sub.new y3,y3,aL,(λ_ _=>rfl),(λk ws e=>nomatch e),(λk j p e=>nomatch e)⟩
 have x4:put N1 v (.dT []) U=none:=by rw[aM c43];exact y4
 have P:d9 eK (put N1 v (.dT [])) (put (put N1 v (.dT [])) U (.dT [])) A.g [] (gG []):=by rw[O];exact⟨Sub.new x4,x4,aL,(λ_ _=>rfl),(λk ws e=>nomatch e),(λk j p e=>nomatch e)⟩
 have hAQ:A.Q=Aq:=by rw[O]
 rw[<-hAQ]at hQ5;exact⟨N1,_,_,[],[],mn,L,P,hQ5,Ai _,Ai _,trivial⟩
theorem zdH{G:Sr}{st:SS}{P:List (Nat×Nat)}(o:One G)(j:J G st P [])(Z:G.rs.length<=100)(B:∀r∈G.rs,r.parts.length<=900):Rm G st:=by
 have f:=j.few B;have U:G.rs.length*(900+1)<=100*901:=Nat.mul_le_mul_right _ Z;have hl:=j.rl;rw[Dc,Ak]at f;rw[Ak]at hl;have N:(c7 st.q).length=(bR st.q).length:=Ab _;have l:=j.ln;have sm:∀k,k<=100000->Sm st k:=λk hk=>⟨by lia,by lia⟩
 have at_:∀{x},x∈P++c7 st.q->1<=x.2/\x.2<1000/\x.1<G.rs.length:=λ{x} h=>by
  obtain⟨r,s⟩:=j.sd x (Bg _ h);have:=B r (Ay s.ru);have:=s.le;exact⟨s.one,by lia,(An.mp s.ru).1⟩
 refine⟨λc n cut m e=>?_,λt y K=>?_,by lia,by lia,by lia,λt=>?_,λt=>?_,λt=>sm _ ?_⟩
 .have F:st.q≠[]:=λz=>by rw[z]at e;cases e
  obtain⟨_,_,_,T,_,m1,_⟩:=nV j.fall F;rw[e]at T;cases T;have U:=(m1 _).mpr (.inl rfl);obtain⟨A,Y⟩:=j.it _ U;obtain⟨Q,E,D⟩:=at_ (Bs P (Bc.mpr ⟨_,U,rfl⟩));refine⟨A,λz=>?_,E,D,c,?_⟩
  .rw[z]at Q;exact absurd (show 1<=0 from Q) (by decide)
  .rw[show cut=rep cut.length from A,IC Q];exact Y
 .obtain⟨A,Y,_⟩:=j.bo t y K;obtain⟨Q,E,_⟩:=at_ (Bg _ Y);exact⟨E,λz=>by rw[z]at Q;exact absurd (show 1<=0 from Q) (by decide)⟩
 .have:((aK st.ends (t,0)).getD []).length<=1:=by
   rcases j.en t with⟨h,_⟩|⟨d,h,_⟩<;>rw[h]<;>simp
  exact⟨by lia,sm _ (by lia)⟩
 .have:=len_sub (b:=P) (j.bd t) λx S=>by
   obtain⟨y,K,rfl⟩:=Bc.mp S;exact(j.bo t y K).2.1
  unfold j4 at this;rw[Ab]at this;exact⟨by lia,sm _ (by lia)⟩
 .rcases o.st t with h|⟨d,h⟩<;>rw[h]<;>simp
abbrev rP(G:Sr):Nat->Nat×List Int×aQ:=λn=>(n,[0],(G.wt n,1))
theorem SK.told{C:Cc}{E:Env}{X M:Mm}{A:Ad}{st:SS}{kp:Option (Aj×List W)}(h:SK C E X M A st kp):X A.b=none/\L2.Sub (put X A.b (.dT (dQ fK eX st.best))) M:=by
 obtain⟨I,v,t,e,g,O,Z,f,h4,J,s,H⟩:=h.ex;refine⟨O.nb,λb u e=>?_⟩
 by_cases Y:b=A.b
 .subst Y;rw[aL]at e;cases e;exact h.ob
 .rw[aM Y]at e;exact h4.sub _ _ (f.sub _ _ (Z.sub _ _ (O.sub _ _ e)))
theorem zdI{n i:Nat}(h:(iO 0 n)[i]? = some w):i<n/\w=.int (i:Nat):=by
 unfold iO at h;rw[Ap]at h;obtain⟨j,D,rfl⟩:=Ax.mp h;obtain⟨O,Z⟩:=An.mp D;rw[List.getElem_range]at Z;rw[Ft]at O;exact⟨O,by rw[<-Z,So]⟩
theorem zdJ{lo:Int}{n:Nat}:(iO lo n).length=n:=by unfold iO;simp
theorem zdK(o:One G):uP G=reaches (rP G) (Cd G.rs.length) mK:=by
 unfold uP uO reaches;rw[o.pl,List.foldl_flatMap];rfl
theorem zdL(h:AA C ws M R):zdv C (bA R) (bF zdo ws) M:=by
 obtain⟨G,E,rfl,hrs,p,u,o,B,r⟩:=h;refine(λa dx l hdx y=>⟨M,a,dx,E.rs,E.stp,rfl,hrs,rfl,l,λI A O F=>⟨rfl,?_⟩⟩);rw[<-p]at F;have F:SR C E M I A mK:=F;subst O;have Z:G.rs.length<=100:=by rw[u.rs];exact hrs
 refine⟨(G.rs.length:Int),by rw[Ab,u.rs],by lia,by lia,?_⟩;rw[Du];refine uQ (λi L V=>∃D K,L=[some (bV E.rs),some (.rl [.int 0]),some (.dt E.stp),some (.rl ((Cd G.rs.length).map λn=>.int (G.wt n))),some (.ref A.s),D,K]/\SR C E M V A (reaches (rP G) ((Cd G.rs.length).take i) mK)) ⟨_,⟨_,rfl,F⟩⟩ ?_ ?_
 .rintro i w L v hw ⟨D,K,rfl,Y⟩ D1 hD1;obtain⟨hi,rfl⟩:=zdI hw;have hwt:b7 ((Cd G.rs.length).map λn=>W.int (G.wt n)) (i:Int)=some (.int (G.wt i)):=iJ (by rw[Ap,Lr hi];rfl);have smj:Sm (reaches (rP G) ((Cd G.rs.length).take i) mK) 1:=rN ⟨by rw[Ca,Ft];show 0+_<_;lia,by rw[Ca,Ft];show 0+_<_;lia⟩;refine uQ (λj L V=>∃K,L=[some (bV E.rs),some (.rl [.int 0]),some (.dt E.stp),some (.rl ((Cd G.rs.length).map λn=>.int (G.wt n))),some (.ref A.s),some (.int i),K]/\SR C E M V A (if j=0 then reaches (rP G) ((Cd G.rs.length).take i) mK else reaches (rP G) ((Cd G.rs.length).take (i+1)) mK)) ⟨_,rfl,Y⟩ ?_ ?_
  .rintro j w L t hw ⟨K,rfl,e⟩ D2 hD2;cases j with
   | succ j=>cases hw
   | zero=>
   cases hw;refine⟨A.s,A.d,⟨_,rfl,e.os,u9,(so.of hwt ⟨E,M,A,_,i,[0],(G.wt i,1),none,rfl,e,by simp,smj,λx hs4=>hD2 _ _ ⟨_,rfl,?_⟩⟩)⟩⟩;rw[Uv (by lia),vD (Lr hi)];exact hs4
  .rintro L t ⟨K,rfl,e⟩;exact hD1 _ _ ⟨_,⟨_,rfl,e⟩⟩
 .rintro L v ⟨D,K,rfl,Y⟩;rw[zdJ,Ko (by rw[Ft];exact Ai _),<-zdK o]at Y;refine zay (λm L V=>∃st P D K,L=[some (bV E.rs),some (.rl [.int 0]),some (.dt E.stp),some (.rl ((Cd G.rs.length).map λn=>.int (G.wt n))),some (.ref A.s),D,K]/\SR C E M V A st/\J G st P []/\m=90100-P.length) ⟨_,_,_,_,⟨_,rfl,Y,J.start o,rfl⟩⟩ ?_;rintro m L t ⟨st,P,D,K,rfl,e,j,rfl⟩ D3 hD3;obtain⟨x,H,back⟩:=e.que;refine⟨A.s,A.d,_,⟨_,rfl,e.os,zY,A.Q.o,A.Q.d,⟨_,rfl,H.ob,zbh,x,A.Q,st.q,rfl,H,cB (b:=!decide (st.q=[])) (λh=>?_) λh=>?_⟩⟩⟩
  .have N:¬st.q=[]:=of_decide_eq_false (by rw[<-Ie (decide _),h];rfl);obtain⟨c,⟨n,cut⟩,S,T,_,_,g,_⟩:=nV j.fall N;have f:=j.few B;have U:G.rs.length*(900+1)<=100*901:=Nat.mul_le_mul_right _ Z;have hql:(c7 st.q).length=(bR st.q).length:=Ab _;rw[Dc,Ak]at f;exact⟨A.s,A.d,⟨_,rfl,e.os,zcM,G,E,M,A,st,rfl,e,u,N,zdH o j Z B,λz hs5=>hD3 _ _ _ (by rw[Ak];show 90100-(P.length+1)<90100-P.length;lia) ⟨_,_,_,⟨_,rfl,hs5,j.next o T,rfl⟩⟩⟩⟩
  .have N:st.q=[]:=Ux (by rw[<-Ie (decide _),h];rfl);obtain⟨k,X⟩:=e.told;exact⟨A.s,A.d,_,⟨_,rfl,e.os,zZ,_,X,r st.best (j.done N) A.b k⟩⟩
section
variable {X:Cx}{pins:Pn}{Z:St}{H:Hp}{s:Ah}{a:Aj}{u:HO}
def IsDict(u:HO):Prop:=(∃ks,u=.dK ks)\/∃ks,u=.dT ks
theorem Inv.frzD(I:Inv X pins Z H s)(e:H a=some u)(hd:IsDict u):∃o,Inv X pins Z (aN H a (.frz o u)) s:=by
 obtain⟨o,D⟩:∃o,s.heap.get? a=some o:=by
  have:=I.hok a u e;rcases hd with⟨ks,rfl⟩|⟨ks,rfl⟩
  .obtain⟨_,_,_,_,o,_,_,e,_⟩:=this;exact⟨o,e⟩
  .obtain⟨_,_,_,_,o,_,_,e,_⟩:=this;exact⟨o,e⟩
 refine⟨o,?_⟩;have ne:∀{b:Aj} {v:HO},H b=some v->v≠u->b≠a:=λ{b v} T h z=>by subst z;rw[e]at T;exact h (Ci T).symm
 have f:∀{b:Aj},H b=none->b≠a:=λ{b} T z=>by subst z;rw[e]at T;cases T
 have d:∀b xs,H b=some (.tup xs)->aN H a (.frz o u) b=some (.tup xs):=λb xs t=>by
  rw[bB (ne t (λz=>by rcases hd with⟨ks,rfl⟩|⟨ks,rfl⟩<;>cases z))];exact t
 have g:∀b y,H b=some (.own y)->aN H a (.frz o u) b=some (.own y):=λb y t=>by
  rw[bB (ne t (λz=>by rcases hd with⟨ks,rfl⟩|⟨ks,rfl⟩<;>cases z))];exact t
 refine I.step (h':=s.heap) (g':=s.gens) (d':=s.drawn) (t':=s.toks) (ch:=[]) (λ_ z=>nomatch z) (λb o _ _ _ T _=>T) (λb o _ _ _ T _=>⟨o.slots,T⟩) (λb o _ _ n=>by rw[bB (f n)];exact n) (λb o _ T=>⟨o,T⟩) d
  (λb ob v t=>?_) (λb ps t=>⟨#[],?_⟩) (λm J=>J) (λb v t=>?_) I.bare
 .rw[bB (ne t (λz=>by rcases hd with⟨ks,rfl⟩|⟨ks,rfl⟩<;>cases z))];exact t
 .rw[bB (ne t (λz=>by rcases hd with⟨ks,rfl⟩|⟨ks,rfl⟩<;>cases z)),t];simp
 .by_cases Y:b=a
  .subst Y;rw[b8]at t;cases t;exact⟨D,(I.hok b u e).stay (λ_ _ _ q=>q) (λc q=>g c b q) d⟩
  .rw[bB Y]at t;exact(I.hok b v t).stay (λ_ _ _ q=>q) (λc q=>g c b q) d
def zdM(Q:VK):VK:=λv H=>∃a u,v=.ref a/\H a=some u/\IsDict u/\∀o,Q v (aN H a (.frz o u))
theorem zdN(h:PE X e t):PE X e (λZ H Q=>t Z H (zdM Q)):=λpins s Z H Q I q=>
 aY (h pins s Z H _ I q) λv M ⟨x,G,L,B,a,u,T,J,C,f⟩=>by
  obtain⟨o,i⟩:=L.frzD J C;exact⟨x,_,i,B,f o⟩
def vF(a:Aj)(o:Lc)(u:HO)(xs:List V):It:=
 ⟨λi H=>H a=some (.frz o u)/\i<xs.length,λi H x j=>j=H/\xs[i]? = some x,λi H=>H a=some (.frz o u)/\xs.length<=i⟩
theorem KY{P:Ar}{w:Bk}{K:Ac}{j:Cb}(a it:Aj)(o:Lc)(u:HO)(xs:List V)(es:Array Ec)(ep:Nat)(hd:o.data=.dict es ep)(U:es.size=xs.length)(S:∀(i:Nat) (e:Ec),es[i]? = some e->∃x,xs[i]? = some x/\RelV x e.key):
  iT P w K j (vF a o u xs) [it] it (λi h=>h.IsKeyIter it a i es.size ep) where
 mem:=by simp
 obj:=λi h st b Y=>by
  have e:b=it:=by simpa using Y
  subst e;obtain⟨o,e,c,d⟩:=st;exact⟨o,e,λv z=>by rw[d]at z;cases z⟩
 keep:=λi h h' st k=>st.at λo e=>k it (by simp) o e
 item:=by
  intro X g hw B hc i pins s Z H E I hf st W;subst g hw B;obtain⟨T,hi⟩:=W;have D:s.heap.get? a=some o:=(show b9 X.prog X.w H s.heap a (.frz o u) from I.hok a _ T).1;have y:i<es.size:=by lia
  obtain⟨x,p,J⟩:=S i es[i] (by simp[y]);obtain⟨R,l,n,f,M,G⟩:=hf it (by simp);refine tF false st D hd y λh' F sb=>?_;have L:Inv X pins Z H {s with heap:=h'}:=I.turned (t':=s.toks) (λb o Y e=>(sb.2 b Y).trans e) R l f M G;obtain⟨O,e,c,d⟩:=id F;exact⟨_,rfl,oI (s:={s with heap:=h'}) e c d (by decide) ⟨x,H,L,J,⟨rfl,p⟩,F,λb Y=>(hf b Y).1⟩⟩
 done:=by
  intro X g hw B hc i pins s Z H E I hf st W;subst g hw B;obtain⟨T,hi⟩:=W;have D:s.heap.get? a=some o:=(show b9 X.prog X.w H s.heap a (.frz o u) from I.hok a _ T).1;refine tG false (I.ok.hd hc) st D hd (by lia) λh' hk=>⟨rfl,?_⟩
  exact I.turnedT (tk:=s.toks) hf λq o N eq=>hk q o (λz=>N (by simp[z])) eq
 self:=λ_ _ _ _ _ st h=>Pp st h
end
section
variable {X:Cx}{e:Cb}{te:aR}
abbrev rQ(t:aR):aR:=λL M R=>t L M λw V=>∃p,w=.ref p/\((∃kvs,V p=some (.dK kvs)/\R (.fk kvs) (del V p))\/∃kvs,V p=some (.dT kvs)/\R (.ft kvs) (del V p))
theorem KZ{K:Ac}{H:Hp}{M:Mm}{p:Aj}{o:Lc}{u:HO}{x:MO}(U:AM K H M)(e:M p=some x)(hd:IsDict u)(J:H p=some u):Go H M (aN H p (.frz o u)) (del M p)/\AM K (aN H p (.frz o u)) (del M p)/\Kp H M (aN H p (.frz o u)) (del M p):=by
 have f:∀{b:Aj},M b=none->b≠p:=λ{b} h z=>by subst z;rw[e]at h;cases h
 have go:Go H M (aN H p (.frz o u)) (del M p):=by
  refine⟨λb xs t=>?_,λb ob v t=>?_,λb v n t=>?_⟩
  .rw[bB (f (U.noTup t))];exact t
  .rw[bB (f (U.noFrz t))];exact t
  .rw[bB (f n),xJ (f n)];exact⟨t,n⟩
 refine⟨go,λa T Q=>?_,λa v n Q=>?_,λa v Q=>?_⟩
 .have ne:a≠p:=λz=>by rw[z,nG]at Q;cases Q
  rw[xJ ne]at Q;exact(U a T Q).go go (bB ne)
 .rw[bB (f n),xJ (f n)];exact⟨Q,n⟩
 .by_cases l:a=p
  .subst l;exact⟨_,b8⟩
  .obtain⟨y,q⟩:=(U a v Q).has;exact⟨y,by rw[bB l];exact q⟩
theorem zdO(h:E3 X e te):E3 X e (rQ te):=
 (zdN h).weak λZ H Q s=>s.el λL M R A U h k=>⟨L,M,_,A,U,h,λv j w V B d av ⟨p,hw,r⟩=>by
  subst hw;obtain rfl:=av.inv;rcases r with⟨kvs,e,r⟩|⟨kvs,e,r⟩
  .obtain⟨ks,f,q⟩:=d _ _ e;refine⟨p,.dK ks,rfl,f,.inl ⟨_,rfl⟩,λo=>?_⟩;obtain⟨g,E,k2⟩:=KZ (o:=o) d e (.inl ⟨_,rfl⟩) f;exact k _ _ _ _ (B.trans k2) E (.fk b8 q.keys (q.vals.go g)) r
  .obtain⟨ks,f,q⟩:=d _ _ e;refine⟨p,.dT ks,rfl,f,.inr ⟨_,rfl⟩,λo=>?_⟩;obtain⟨g,E,k2⟩:=KZ (o:=o) d e (.inr ⟨_,rfl⟩) f;exact k _ _ _ _ (B.trans k2) E (.ft b8 q.keys (q.vals.go g)) r⟩
abbrev rR:W->Mm->(List W->(Mm->Prop)->Mm->Prop)->Prop
 | .fk kvs,I,R=>R (kvs.map λp=>wK p.1) (λ_=>True) I
 | .ft kvs,I,R=>R (kvs.map λp=>.tup (p.1.map wK)) (λ_=>True) I
 | _,_,_=>False
theorem K0{K:Ac}{d:Hp}{X:Mm}{a:Aj}{o:Lc}{u:HO}{xs:List V}{ws:List W}(g:AM K d X)(e:d a=some (.frz o u))(s:aJ K d X xs ws):iF K d X (vF a o u xs) ws λ_=>True:=by
 have st:∀H M,Kp d X H M->H a=some (.frz o u):=λH M k=>(k.fr _ _ (g.noFrz e) e).1;refine⟨λi H M k U _ hi=>⟨st H M k,by rw[s.length];exact hi⟩,λH M k U _=>⟨st H M k,by rw[s.length];exact Ai _⟩,λi H M x j k U _ hi y=>?_⟩;obtain⟨rfl,y⟩:=y;obtain⟨w,hw,av⟩:=(s.kp g k).getV y;exact⟨w,hw,Kp.refl U,U,av⟩
theorem K1{K:Ac}{H:Hp}{M:Mm}:∀k:aB,AV K H M (kV k) (wK k)
 | .inl i=>.int i
 | .inr x=>.str x
theorem zdP(ok:cG P w H h)(e:H a=some (.frz o (.dK ks))):
  ∃es ep,fZ h a es ep/\o.data=.dict es ep/\(a==Fc)=false/\es.size=ks.length/\∀(i:Nat) (en:Ec),es[i]? = some en->∃p,ks[i]? = some p/\RelV (kV p.1) en.key/\RelV p.2 en.val:=by
 obtain⟨D,hz,G,vs,A,T,es,ep,O,Z,f,h4,J,u⟩:=(show b9 P w H h a (.frz o (.dK ks)) from ok a _ e);rw[D]at O;cases O;have s:=A.length;have m:=J.length;rw[Gu]at m;refine⟨es,ep,⟨o,D,Z,f⟩,f,G,by lia,λi en y=>?_⟩;have hi:=(Iz.mp y).1;obtain⟨⟨k,x⟩,c⟩:∃v,vs[i]? = some v:=⟨_,Bp (by lia)⟩;obtain⟨X,R⟩:=J.get? (by rw[Fg];exact y) c;have:∀{ks:List (aB×V)} {vs:List (aB×Ae)} {i:Nat},KV ks vs->vs[i]? = some (k,x)->∃v,ks[i]? = some (k,v)/\RelV v x:=by
  intro ks vs i r
  induction r generalizing i with
  | nil=>intro h;simp at h
  | @cons p q ps qs N t E=>
   intro h;cases i with
   | zero=>simp at h;subst h;obtain⟨U,B⟩:=p;cases N.1;exact⟨B,rfl,N.2⟩
   | succ i=>rw[Ej]at h⊢;exact E h
 obtain⟨v,n,j⟩:=this A c;exact⟨(k,v),n,tD X,by rw[R];exact j⟩
theorem zdQ(ok:cG P w H h)(e:H a=some (.frz o (.dT ks))):
  ∃es ep,fZ h a es ep/\o.data=.dict es ep/\(a==Fc)=false/\es.size=ks.length/\∃A:List Aj,A.length=ks.length/\(∀(i:Nat) (p:List aB×V) (b:Aj),ks[i]? = some p->A[i]? = some b->H b=some (.tup (p.1.map kV)))/\
   ∀(i:Nat) (en:Ec),es[i]? = some en->∃p b,ks[i]? = some p/\A[i]? = some b/\en.key=.ref b/\RelV p.2 en.val:=by
 obtain⟨D,hz,G,xs,d,T,es,ep,O,Z,f,h4,J⟩:=(show b9 P w H h a (.frz o (.dT ks)) from ok a _ e);rw[D]at O;cases O;have s:=Kk h4;have m:=Cu d;refine⟨es,ep,⟨o,D,Z,f⟩,f,G,by lia,xs.map λx=>x.2.1,by rw[Ab];lia,λi p b B Y=>?_,λi en y=>?_⟩
 .rw[Ap]at Y;obtain⟨x,S,rfl⟩:=Ax.mp Y;have:∀{ks:List (List aB×V)} {xs:List (List aB×Aj×Ae)} {i:Nat},Ff (λ(p:List aB×V) (q:List aB×Aj×Ae)=>p.1=q.1/\H q.2.1=some (.tup (p.1.map kV))/\RelV p.2 q.2.2) ks xs->ks[i]? = some p->xs[i]? = some x->H x.2.1=some (.tup (p.1.map kV)):=by
   intro ks xs i r
   induction r generalizing i with
   | nil=>intro h;simp at h
   | @cons p q ps qs N t E=>
    intro h g;cases i with
    | zero=>simp at h g;subst h;subst g;exact N.2.1
    | succ i=>rw[Ej]at h g;exact E h g
  exact this d B S
 .rw[Sl h4 i]at y;obtain⟨x,S,rfl⟩:=Ax.mp y;have:∀{ks:List (List aB×V)} {xs:List (List aB×Aj×Ae)} {i:Nat},Ff (λ(p:List aB×V) (q:List aB×Aj×Ae)=>p.1=q.1/\H q.2.1=some (.tup (p.1.map kV))/\RelV p.2 q.2.2) ks xs->xs[i]? = some x->∃p,ks[i]? = some p/\RelV p.2 x.2.2:=by
   intro ks xs i r
   induction r generalizing i with
   | nil=>intro h;simp at h
   | @cons p q ps qs N t E=>
    intro h;cases i with
    | zero=>simp at h;subst h;exact⟨p,rfl,N.2.2⟩
    | succ i=>rw[Ej]at h⊢;exact E h
  obtain⟨p,n,j⟩:=this d S;exact⟨p,x.2.1,n,by rw[Ap,S];rfl,rfl,j⟩
theorem zdR{j:Cb}:kS X j (qR X.K rR):=by
 rintro pins s Z H x u D I B ⟨F,M,R,N,U,h,k⟩;cases N<;>first|exact Bn h|skip
 case fk a o ks kvs e ke q=>
  cases (show u=Value.ref a from B);obtain⟨es,ep,g,hd,G,hsz,y⟩:=zdP I.hok e;have fp:∀b∈[s.heap.objs.size],gF X pins H b:=λb Y=>by
   have e:b=s.heap.objs.size:=by simpa using Y
   subst e;exact I.fpOk (Ai _) (I.hok.fresh (Ai _))
  refine tH G g ⟨s.heap.objs.size,[s.heap.objs.size],_,vF a o (.dK ks) (ks.map λp=>kV p.1),H,rfl,I.kept (t':=s.toks) λb o e=>Ag _ e,KY a _ o _ _ es ep hd (by rw[Ab];exact hsz) (λi en P=>?_),⟨_,Au _ rfl,rfl,rfl⟩,fp,k _ _ _ _ _ (Kp.refl U) U (K0 U e ?_) h⟩
  .obtain⟨p,O,T,_⟩:=y i en P;exact⟨kV p.1,by rw[Ap,O];rfl,T⟩
  .have hk:(ks.map λp=>kV p.1)=(ks.map Ef).map kV:=by rw[Bm];rfl
   have hw:(kvs.map λp=>wK p.1)=(kvs.map Ef).map wK:=by rw[Bm];rfl
   rw[hk,hw,ke];generalize kvs.map Ef=l
   induction l with
   | nil=>exact .nil
   | cons z l E=>exact .cons (K1 z) E
 case ft a o ks kvs e ke q=>
  cases (show u=Value.ref a from B);obtain⟨es,ep,g,hd,G,hsz,A,hl,t,y⟩:=zdQ I.hok e;have fp:∀b∈[s.heap.objs.size],gF X pins H b:=λb Y=>by
   have e:b=s.heap.objs.size:=by simpa using Y
   subst e;exact I.fpOk (Ai _) (I.hok.fresh (Ai _))
  refine tH G g ⟨s.heap.objs.size,[s.heap.objs.size],_,vF a o (.dT ks) (A.map V.ref),H,rfl,I.kept (t':=s.toks) λb o e=>Ag _ e,KY a _ o _ _ es ep hd (by rw[Ab];lia) (λi en P=>?_),⟨_,Au _ rfl,rfl,rfl⟩,fp,k _ _ _ _ _ (Kp.refl U) U (K0 U e ?_) h⟩
  .obtain⟨p,b,O,T,f,_⟩:=y i en P;exact⟨.ref b,by rw[Ap,T];rfl,by rw[f];rfl⟩
  .have hw:(kvs.map λp=>W.tup (p.1.map wK))=(ks.map Ef).map λz=>W.tup (z.map wK):=by rw[ke,Bm];rfl
   rw[hw];have:∀(ks:List (List aB×V)) (A:List Aj),A.length=ks.length->(∀(i:Nat) (p:List aB×V) (b:Aj),ks[i]? = some p->A[i]? = some b->H b=some (.tup (p.1.map kV)))->aJ X.K H M (A.map V.ref) ((ks.map Ef).map λz=>W.tup (z.map wK)):=by
    intro ks
    induction ks with
    | nil=>intro A hl _;cases A with
     | nil=>exact .nil
     | cons b r=>simp at hl
    | cons p ks E=>
     intro A hl t;cases A with
     | nil=>simp at hl
     | cons b r=>
      refine .cons (.tup (t 0 p b rfl rfl) (uS p.1)) (E r (by simpa using hl) λi p b O T=>t (i+1) p b (by simpa using O) (by simpa using T))
   exact this ks A hl t
theorem zdS(hl:E3 X l tl):PI X j l (fL X.K (bY rR tl)):=t7 hl zdR
end
end L2
namespace PySem
namespace Dt
open L2
open PySem.Zd (TK allH zN nZ)
section
variable {prog:Ar}{w:Bk}{A:Cn}{E:Ae->Ah->Prop}{s:Ah}
theorem call_pairs{c:Nat}{Q:Ae->Ah->Prop}(hh:A.handled=none)(T:A.units+2<Ex)(S:s.heap.get? l=some {cls:=.type "list",data:=.seq items c})(U:ps.length=items.size)(hz:items.size<=Ao)(H:∀p∈ps,(TK prog w).is s.heap p.1 p.2.1)(B:∀(j:Nat) (p:List aB×Aj×Ae),ps[j]? = some p->∃(a:Aj),items[j]? = some (.ref a)/\s.heap.IsTuple a #[.ref p.2.1,p.2.2])(h:∀h' tk,(∀b o,s.heap.get? b=some o->h'.get? b=some o)->h'.DictOfH (TK prog w) s.heap.objs.size (allH [] ps)->Q (.ref s.heap.objs.size) {s with heap:=h',toks:=tk}):
  Bl (Cq prog w) A (call (.type "dict") [.ref l]) Q E s:=by
 have X:∀p∈ps,@LT.lt Nat _ p.2.1 s.heap.objs.size:=λp B=>by
  obtain⟨o,items,n,e,_⟩:=H p B;exact Bh e
 refine Dp.callG (Dd:=λi h=>∃es,es=allH [] (ps.take i)/\h.DictOfH (TK prog w) s.heap.objs.size es/\es.length<=i/\∀e∈es,@LT.lt Nat _ e.2.1 s.heap.objs.size) hh S ⟨[],rfl,Heap.DictOfH.new s.heap,Ai _,λ_ h=>nomatch h⟩ ?_ (λ{i t} hi hd ext=>?_) λh' tk e ⟨es,R,y,_⟩=>h h' tk e (by rw[<-U,Br]at R;rw[<-R];exact y)
 .rintro i h h' ⟨es,P,⟨o,en,ep,D,hc,C,v,m,u⟩,hl,V⟩ J;exact⟨es,P,⟨o,en,ep,J _ o (Ai _) D,hc,C,v,λx W=>nZ (m x W) λL e=>J _ L (Hr (V x W)) e,u⟩,hl,V⟩
 obtain⟨es,P,hd,hl,V⟩:=hd;obtain⟨p,f⟩:∃p,ps[i]? = some p:=⟨_,Bp (by lia)⟩;have d:p∈ps:=Ay f;obtain⟨a,I,Y⟩:=B i p f;refine⟨a,_,p.2.2,I,Y,λk=>Qp (knd:=TK prog w) (Fb (A:=A.in1) (show(A.units+1)+1<Ex from T)) (nZ (H p d) (ext _)) hd (λZ y g=>k Z _ ⟨_,?_,y,?_,λe P=>?_⟩ g) (by lia)⟩
 .rw[P,Dp.take_at f];unfold allH;rw[Iu];rfl
 .have:=zN es p.1 p.2.1 p.2.2;lia
 unfold Mq at P;split at P
 .obtain⟨F,r,rfl⟩:=Bc.mp P;rw[show(Um p.1 p.2.2 F).2.1=F.2.1 by unfold Um;split<;>rfl];exact V F r
 .rcases Ba.mp P with q|q
  .exact V e q
  .rw[Am.mp q];exact X p d
end
end Dt
end PySem
namespace L2
section
variable {X:Cx}
def oE(ps:List (List aB×W)):List W:=ps.map λp=>.tup [.tup (p.1.map wK),p.2]
theorem K2(I:L2.Inv X C m H s):∀{ps:List (List aB×W)} {vs:List V} {its:List Ae},aJ X.K H M vs (oE ps)->aX vs its->
  ∃(qs:List (List aB×Aj×V)) (rs:List (List aB×Aj×Ae)),bK X.K H M (List aB) (qs.map λq=>(q.1,q.2.2)) ps/\(∀q∈qs,H q.2.1=some (.tup (q.1.map kV)))/\Ff (λ(q:List aB×Aj×V) (p:List aB×Aj×Ae)=>q.1=p.1/\q.2.1=p.2.1/\RelV q.2.2 p.2.2) qs rs/\rs.length=its.length/\
   (∀z∈rs,H z.2.1=some (.tup (z.1.map kV)))/\∀(j:Nat) (p:List aB×Aj×Ae),rs[j]? = some p->∃(a:Aj),its[j]? = some (.ref a)/\s.heap.IsTuple a #[.ref p.2.1,p.2.2]
 | [],_,_,.nil,.nil=>⟨[],[],.nil,(λq N=>nomatch N),.nil,rfl,(λq N=>nomatch N),λj p h=>by simp at h⟩
 | (k,w)::ps,_,_,.cons av y,.cons T l=>by
  obtain⟨qs,rs,O,Z,f,h4,J,G⟩:=K2 I y l;obtain⟨a,xs,u,e,q⟩:=av.inv;rw[u]at T;obtain⟨Y,g,ex,Q,U⟩:=q.two;obtain⟨b,S,o,t,B⟩:=Q.inv;rw[B.keys]at t;obtain⟨c,R,pl,_⟩:=I.tuple (bW.of e);rw[ex,o]at R;obtain⟨d,n,i,x1,x2⟩:=vals2 R;rw[i,show d=.ref b from x1]at pl;refine⟨(k,b,g)::qs,(k,b,n)::rs,.cons ⟨rfl,U⟩ O,List.forall_mem_cons.mpr ⟨t,Z⟩,.cons ⟨rfl,rfl,x2⟩ f,congrArg (· + 1) h4,List.forall_mem_cons.mpr ⟨t,J⟩,λj p D=>?_⟩;cases j with
  | zero=>rw[<-Ci D];exact⟨a,congrArg some T,pl⟩
  | succ j=>exact G j p D
def AD:List W->Mm->K3->Prop
 | [.rl ws],M,R=>∃ps:List (List aB×W),ws=oE ps/\ws.length<=Ao/\jH (hV [] ps) M R
 | _,_,_=>False
theorem zdT(hc:X.calm=true)(J:X.A.units+2<Ex):cM X (.type "dict") (eV X.K AD):=by
 rintro C s m H xs us Q I rs ⟨ws,M,R,U,b,h,k⟩
 match ws,h with
 | [.rl ws],h=>
  obtain⟨v,rfl,av⟩:=b.one;obtain⟨ps,rfl,hz,r⟩:=h;obtain⟨u,rfl,ru⟩:=vals1 rs;cases av with
  | rl f n q=>
   cases ru;obtain⟨z,its,c,T,hl,e⟩:=I.lstM f;obtain⟨qs,rs',O,Z,L,h4,G,a⟩:=K2 I q T;have hz2:ps.length<=Ao:=by simpa [oE] using hz
   have hql:qs.length=ps.length:=by have:=Cu O;rwa [Ab]at this
   refine Dt.call_pairs (items:=its.toArray) (ps:=rs') (I.ok.hd hc) J e (by simpa using h4) (by rw[Bj];lia) (λp B=>iK I.hok (G p B)) (λj p D=>by simpa using a j p D) λh' tk hk dd=>?_;have l:=I.hok.fresh (Ai _);have len:=zP (qs.map λq=>(q.1,q.2.2)) [];rw[Ab]at len;have puts:∀{ps:List (List aB×W)} {qs:List (List aB×V)} {ks:List (List aB×V)} {kvs:List (List aB×W)},bK X.K H M (List aB) qs ps->bK X.K H M (List aB) ks kvs->bK X.K H M (List aB) (jR ks qs) (hV kvs ps):=by
    intro ps qs ks kvs h
    induction h generalizing ks kvs with
    | nil=>intro h;exact h
    | @cons q p qs ps r t E=>
     intro h;obtain⟨d,P⟩:=q;obtain⟨i,y⟩:=p;obtain⟨rfl,N⟩:=r;exact E (qP h d N)
   have g:=puts (ks:=[]) (kvs:=[]) O .nil;refine⟨.ref s.heap.objs.size,aN H s.heap.objs.size (.dT (jR [] (qs.map λq=>(q.1,q.2.2)))),I.laid (o:=.dT (jR [] (qs.map λq=>(q.1,q.2.2)))) (t':=tk) hk (Ai _) ⟨by simp at len;lia,beq_eq_false_iff_ne.mpr (Bq (Bo I.big)),_,(JA L Z .nil).keeps λc Y x=>?_,?_⟩,rfl,?_⟩
   .rw[bB (eO x l)];exact x
   .obtain⟨o,en,ep,w,N,F,r4,_,r5⟩:=dd;exact⟨o,en,ep,w,N,F,r4,r5⟩
   .obtain⟨S,k2⟩:=U.laid (o:=.dT (hV [] ps)) (u:=.dT (jR [] (qs.map λq=>(q.1,q.2.2)))) l ⟨_,b8,nH g.keys (g.vals.newL l)⟩;exact k _ _ _ _ k2 S (.ref _) (r _ (U.nonM l))
end
def vG(rs:List aE)(ws:List Aw):Prop:=∀r∈rs,∀t∈r.parts,ownB rs t=false->t∈ws
structure GL(rs:List aE):Prop where
 few:rs.length<=61
 prt:∀r∈rs,r.parts.length<=4
 wds:∃U:List Aw,U.length<64/\vG rs U
theorem AE(h:acc.Nodup):(dE acc t).Nodup:=by
 unfold dE;split
 .exact h
 .rename_i U;rw[Ek];refine⟨h,by simp,λa l b Y e=>U ?_⟩;have:b=t:=by simpa using Y
  rw[<-this,<-e];exact l
theorem zdU(rs:List aE):(namesOf rs).length<=rs.length:=by
 have:∀(qs:List aE) (acc:List Aw),(mJ acc qs).length<=acc.length+qs.length:=by
  intro qs
  induction qs with
  | nil=>intro acc;exact Ai _
  | cons r qs E=>
   intro acc;have O:=E (dE acc r.name);have Z:(dE acc r.name).length<=acc.length+1:=by unfold dE;split<;>simp
   show(mJ (dE acc r.name) qs).length<=_;rw[Bu];lia
 have:=this rs [];rw[Lk,Qe]at this;exact this
theorem AF{y:Type}{l:List y}{k:Nat}{x:y}(h:l[k]? = some x):l.take (k+1)=l.take k++[x]:=by
 rw[List.take_succ,h];rfl
theorem i7{c i:Type}[DecidableEq c]{t:List (c×i)}{k:c}:(aK t k).isSome=true↔k∈t.map (·.1):=by
 rw[<-i0,Ge,Bc];exact⟨λ⟨x,h,e⟩=>⟨x,h,Ux e⟩,λ⟨x,h,e⟩=>⟨x,h,Uy e⟩⟩
theorem AG:∀{fs:List cA} {ys:List W},Ff (λw y=>∃f v,w=W.tup ((fK f).map wK)/\y=W.tup [.str f.1,v]) (fs.map λf=>W.tup ((fK f).map wK)) ys->∃kvs:List (aB×W),ys=nT kvs/\kvs.map (·.1)=fs.map λf=>(Sum.inr f.1:aB)
 | [],_,h=>by cases h;exact⟨[],rfl,rfl⟩
 | f::fs,_,h=>by
  cases h with
  | cons a b=>
   obtain⟨⟨n,i,j⟩,v,e,rfl⟩:=a;obtain⟨kvs,rfl,h2⟩:=AG b;cases e;exact⟨(Sum.inr f.1,v)::kvs,rfl,by rw[Be,Be,h2]⟩
theorem K5:∀{ps acc:List (aB×W)},(aT (j1 acc ps) k).isSome=((aT acc k).isSome||ps.any λp=>decide (p.1=k))
 | [],acc=>by simp[j1]
 | p::ps,acc=>by
  show(aT (j1 (bZ acc p.1 p.2) ps) k).isSome=_;rw[K5,n6]
  by_cases e:p.1=k
  .rw[Uw e,Er,Uy e];simp
  .rw[Uv e,Er,Uz e,Mz]
theorem K6{w:Bool}(hw:∀r∈rs,∀t∈r.parts,ownB rs t=false->(t∈ss↔w=true))(F:kZ (j5 rs ss) B)(h:kvs.map (·.1)=(B.map (·.1)).map λf=>(Sum.inr f.1:aB))(X:Aw):(aT (j1 [] kvs) (Sum.inr X:aB)).isSome=k7 rs w X:=by
 rw[K5,show(aT ([]:List (aB×W)) (Sum.inr X:aB)).isSome=false from rfl,Mz,Dy,Ge,rC,<-zaw hw F X];have hm:(∃x∈kvs,decide (x.1=(Sum.inr X:aB))=true)↔(Sum.inr X:aB)∈kvs.map (·.1):=by simp
 rw[hm,h,Bc];constructor
 .rintro⟨f,h1,h2⟩;obtain⟨r,_,e⟩:=II F h1;cases h2;rw[e]at h1⊢;exact h1
 .exact λz=>⟨_,z,rfl⟩
def lC(rs:List aE)(t:Aw):Bool:=k7 rs true t||!ownB rs t
def fN(rs:List aE):List aE:=rs.filter λr=>r.parts.all (lC rs)
def dW(rs:List aE)(D:List Aw)(t:Aw):Bool:=decide (t∈D)||!ownB rs t
def fE(rs:List aE)(D:List Aw)(r:aE):List Aw:=if r.parts.any (dW rs D)=true then dE D r.name else D
def iQ(rs:List aE)(D:List Aw):List Aw:=(fN rs).foldl (fE rs) D
def eL(rs:List aE):Nat->List Aw
 | 0=>[]
 | n+1=>iQ rs (eL rs n)
theorem K7(rs:List aE)(D:List Aw)(r:aE):∃q,fE rs D r=D++q:=by
 unfold fE dE;split
 .split
  .exact⟨[],by simp⟩
  .exact⟨_,rfl⟩
 .exact⟨[],by simp⟩
theorem vH(rs:List aE):∀(qs:List aE) (D:List Aw),∃q,qs.foldl (fE rs) D=D++q
 | [],D=>⟨[],by simp⟩
 | r::qs,D=>by
  obtain⟨a,l⟩:=K7 rs D r;obtain⟨b,Y⟩:=vH rs qs (fE rs D r);rw[Fw,Y,l,Ds];exact⟨_,rfl⟩
theorem zdV(h:(iQ rs D).length<=D.length):iQ rs D=D:=by
 obtain⟨q,N⟩:=vH rs (fN rs) D;have e:iQ rs D=D++q:=N;rw[e,Ak]at h;have:q=[]:=Gp.mp (by lia);rw[e,this,Dc]
structure Wd(rs:List aE)(D:List Aw):Prop where
 nd:D.Nodup
 own:∀X∈D,ownB rs X=true
 why:∀X∈D,∃r∈rs,r.name=X/\(∀t∈r.parts,lC rs t=true)/\∃p∈r.parts,p≠X/\(p∈D\/ownB rs p=false)
theorem Wd.nil(rs:List aE):Wd rs []:=⟨Ey,(λ_ h=>nomatch h),(λ_ h=>nomatch h)⟩
theorem AH:r∈fN rs↔r∈rs/\∀t∈r.parts,lC rs t=true:=by
 unfold fN;rw[Ep,Gf]
theorem Wd.step(d:Wd rs D)(g:r∈fN rs):Wd rs (fE rs D r):=by
 unfold fE;split
 .rename_i h
  by_cases J:r.name∈D
  .unfold dE;rw[Uw J];exact d
  .obtain⟨O,Z⟩:=AH.mp g;obtain⟨p,B,a⟩:=Ge.mp h;have e:dE D r.name=D++[r.name]:=by unfold dE;rw[Uv J]
   refine⟨AE d.nd,λX u=>?_,λX u=>?_⟩
   .rcases j2.mp u with z|z
    .exact d.own X z
    .rw[z];exact zG O
   .rcases j2.mp u with z|z
    .obtain⟨q,A,Y,C,t,W,i,b⟩:=d.why X z;refine⟨q,A,Y,C,t,W,i,?_⟩;rcases b with y|y
     .exact .inl (j2.mpr (.inl y))
     .exact .inr y
    .unfold dW at a;rw[Qx]at a;refine⟨r,O,z.symm,Z,p,B,?_,?_⟩
     .rintro rfl;rcases a with y|y
      .rw[z]at y;exact J (Ux y)
      .rw[z,zG O]at y;cases y
     .rcases a with y|y
      .exact .inl (j2.mpr (.inl (Ux y)))
      .right;cases e:ownB rs p with
       | false=>rfl
       | true=>rw[e]at y;cases y
 .exact d
theorem Wd.fold:∀{qs:List aE} {D:List Aw},Wd rs D->(∀r∈qs,r∈fN rs)->Wd rs (qs.foldl (fE rs) D)
 | [],D,d,_=>d
 | r::qs,D,d,h=>Wd.fold (qs:=qs) (d.step (h r Bi)) λq N=>h q (Bb _ N)
theorem Wd.rounds(rs:List aE):∀n,Wd rs (eL rs n)
 | 0=>Wd.nil rs
 | n+1=>Wd.fold (Wd.rounds rs n) λ_ h=>h
theorem Wd.len(d:Wd rs D):D.length<=(namesOf rs).length:=len_sub d.nd λx S=>Ux (d.own x S)
theorem zdW(h:iQ rs D=D)(g:r∈fN rs)(B:∃p∈r.parts,dW rs D p=true):r.name∈D:=by
 have mono:∀(qs:List aE) (E:List Aw),(∀x∈D,x∈E)->r∈qs->r.name∈qs.foldl (fE rs) E:=by
  intro qs
  induction qs with
  | nil=>intro E _ h;cases h
  | cons q qs A=>
   intro E d J;rw[Fw];have a:∀x∈D,x∈fE rs E q:=λx S=>by
    obtain⟨z,e⟩:=K7 rs E q;rw[e];exact Bg _ (d x S)
   rcases Bd.mp J with rfl|z
   .obtain⟨z,e⟩:=vH rs qs (fE rs E r);rw[e];refine Bg _ ?_;unfold fE;rw[Uw]
    .exact j2.mpr (.inr rfl)
    .obtain⟨p,O,Z⟩:=B;refine Ge.mpr ⟨p,O,?_⟩;unfold dW at Z⊢;rw[Qx]at Z⊢;rcases Z with y|y
     .exact .inl (Uy (d p (Ux y)))
     .exact .inr y
   .exact A _ a z
 have:=mono (fN rs) D (λ_ h=>h) g;have e:(fN rs).foldl (fE rs) D=D:=h;rwa [e]at this
abbrev iG:=List Aw×List W
def gE(keep drop:Aw->Bool)(E:Aw->W)(told:List iG)(t:Aw):List iG:=
 (if keep t=true then told.map λx=>(x.1++[t],x.2++[W.int x.1.length]) else [])++(if drop t=true then told.map λx=>(x.1,x.2++[W.tup [.str "whole",E t]]) else [])
def mM(keep drop:Aw->Bool)(E:Aw->W)(ps:List Aw):List iG:=ps.foldl (gE keep drop E) [([],[])]
section
variable {keep drop:Aw->Bool}{E:Aw->W}
theorem zdX(told:List iG)(t:Aw):(gE keep drop E told t).length<=2*told.length:=by
 unfold gE;rw[Ak];split<;>split<;>simp<;>lia
theorem K8:∀(ps:List Aw) (told:List iG),(ps.foldl (gE keep drop E) told).length<=2 ^ ps.length*told.length
 | [],told=>by simp
 | t::ps,told=>by
  have O:=K8 ps (gE keep drop E told t);have Z:=zdX (keep:=keep) (drop:=drop) (E:=E) told t;rw[Fw,Bu,Nat.pow_succ]
  calc _<=2 ^ ps.length*(gE keep drop E told t).length:=O
   _<=2 ^ ps.length*(2*told.length):=Nat.mul_le_mul_left _ Z
   _=2 ^ ps.length*2*told.length:=by rw[Nat.mul_assoc]
theorem K9:∀{ps:List Aw} {told:List iG} {x:iG},x∈ps.foldl (gE keep drop E) told->∃y∈told,∃l,x.1=y.1++l/\(∀t∈l,t∈ps/\keep t=true)/\l.length<=ps.length
 | [],told,x,h=>⟨x,h,[],by simp,(λt h=>nomatch h),Ai _⟩
 | t::ps,told,x,h=>by
  rw[Fw]at h;obtain⟨y,K,l,e,hl,U⟩:=K9 h;unfold gE at K;rcases Ba.mp K with z|z
  .split at z
   .rename_i hk;obtain⟨u,J,rfl⟩:=Bc.mp z;refine⟨u,J,t::l,by rw[e];simp,λv c=>?_,by simp;lia⟩;rcases Bd.mp c with rfl|q
    .exact⟨Bi,hk⟩
    .exact⟨Bb _ (hl v q).1,(hl v q).2⟩
   .cases z
  .split at z
   .obtain⟨u,J,rfl⟩:=Bc.mp z;exact⟨u,J,l,e,λv c=>⟨Bb _ (hl v c).1,(hl v c).2⟩,by simp;lia⟩
   .cases z
theorem LA{p:Aw}(hk:keep p=true):∀{ps:List Aw} {told:List iG},(∀t∈ps,keep t=true\/drop t=true)->told≠[]->(p∈ps\/∃y∈told,p∈y.1)->∃x∈ps.foldl (gE keep drop E) told,p∈x.1
 | [],told,_,_,h=>by
  rcases h with h|h
  .cases h
  .exact h
 | t::ps,told,hd,U,h=>by
  rw[Fw];have ne:gE keep drop E told t≠[]:=by
   unfold gE;rcases hd t Bi with z|z
   .rw[Uw z];intro e;exact U (Gv.mp (Nt.mp e).1)
   .rw[Uw z];intro e;exact U (Gv.mp (Nt.mp e).2)
  refine LA hk (λu J=>hd u (Bb _ J)) ne ?_;rcases h with h|⟨y,K,B⟩
  .rcases Bd.mp h with rfl|z
   .right;obtain⟨u,J⟩:=List.exists_mem_of_ne_nil told U;refine⟨_,Bg _ (by rw[Uw hk];exact Bc.mpr ⟨u,J,rfl⟩),by simp⟩
   .exact .inl z
  .right;rcases hd t Bi with z|z
   .exact⟨_,Bg _ (by rw[Uw z];exact Bc.mpr ⟨y,K,rfl⟩),Bg _ B⟩
   .exact⟨(y.1,y.2++[W.tup [.str "whole",E t]]),Bs _ (by rw[Uw z];exact Bc.mpr ⟨y,K,rfl⟩),B⟩
end
theorem zdY(P:iQ rs D=D)(h:jQ rs true X):X∈D\/jQ rs false X:=by
 induction h with
 | @mk r g B _ E=>
  by_cases hw:∃p∈r.parts,dW rs D p=true
  .refine .inl (zdW P (AH.mpr ⟨g,λt ht=>?_⟩) hw);unfold lC;cases f:ownB rs t with
   | true=>rw[rC.mpr (B t ht f)];rfl
   | false=>exact Lx _
  .have no:∀t∈r.parts,ownB rs t=false->False:=λt ht f=>hw ⟨t,ht,by unfold dW;rw[f];exact Lx _⟩;exact .inr (.mk g (λt ht f=>(E t ht f).resolve_left λz=>hw ⟨t,ht,by unfold dW;rw[Uy z];rfl⟩) λt ht f=>(no t ht f).elim)
theorem zdZ(P:iQ rs D=D)(h:lC rs t=true):dW rs D t=true\/jQ rs false t:=by
 unfold lC at h;rw[Qx]at h;rcases h with z|z
 .rcases zdY P (rC.mp z) with y|y
  .left;unfold dW;rw[Uy y];rfl
  .exact .inr y
 .left;unfold dW;rw[z];simp
theorem zd0(d:Wd rs D)(P:iQ rs D=D){E:Aw->W}{drop:Aw->Bool}(b:∀t,drop t=true↔jQ rs false t)(u:X∈D):∃r∈rs,r.name=X/\∃x∈mM (dW rs D) drop E r.parts,x.1≠[]/\x.1≠[X]:=by
 obtain⟨r,g,en,hf,p,B,G,hw⟩:=d.why X u;have hk:dW rs D p=true:=by
  unfold dW;rcases hw with z|z
  .rw[Uy z];rfl
  .rw[z];simp
 obtain⟨x,S,a⟩:=LA (keep:=dW rs D) (drop:=drop) (E:=E) hk (ps:=r.parts) (told:=[([],[])]) (λt ht=>by
  rcases zdZ P (hf t ht) with z|z
  .exact .inl z
  .exact .inr ((b t).mpr z)) (by simp) (.inl B)
 refine⟨r,g,en,x,S,(λe=>by rw[e]at a;cases a),(λe=>?_)⟩;rw[e]at a;exact G (Am.mp a)
def AI:a8:=λws M R=>∃rs:List aE,ws=[bV rs]/\rs.length<=100/\aV (rs.map λ_=>W.int 0) M R
abbrev zd1:List Aw:=["grammar"]
abbrev zd2:aD:=
   (bS (eF (bY cU aH) (a7 0) fM bL [none]))
theorem zd3(h:AI ws M R):zd2 (bA R) (bF zd1 ws) M:=by
 obtain⟨rs,rfl,hl,r⟩:=h;refine(nS (rest:=[]) (λ_=>.int 0) (small (by rw[Ab];lia)) (λ_ _=>trivial) (λw hw V C sb O=>O) ?_)
 .intro p B;refine⟨_,aP,?_⟩;have e:(rs.map bE).map (λ_=>W.int 0)=rs.map λ_=>W.int 0:=by rw[Bm];rfl
  rw[e];exact r p B
def LB:a8:=λws M R=>∃(rs:List aE) (U:List Aw),ws=[bV rs]/\rs.length<=100/\U.length<64/\vG rs U/\∀ss:List Aw,vG rs ss->ss.Nodup->(∀t∈ss,t∈U)->R (.rl (ss.map W.str)) M
def AJ:a8:=λws M R=>∃rs:List aE,ws=[bV rs]/\GL rs/\∀kvs:List (aB×W),(∀X:Aw,(aT kvs (Sum.inr X:aB)).isSome=k7 rs true X)->iZ kvs M R
abbrev zd4:List Aw:=["grammar","own","found","rule","part"]
abbrev zd5:aD:=
   (aW 1 (aZ lB (aA (bN (aZ iP (aA aH aC))) aC)))
abbrev zd6:aD:=
   (aW 2 t5)
abbrev zd7:aD:=
   (cL (bY cU (vX bJ bD)) (a7 4)
    (cI (bT (aG (cH true) bG aS))
    (gM (vC (.bl true)) (iE a6 bG))
    dA))
abbrev zd8:aD:=
   (cL (bY cU aH) (a7 3) zd7)
abbrev zd9:aD:=
   (bS (bU G2 (aA (bN a6) aC)))
abbrev zea:aD:=(aF zd5 (aF zd6 (aF zd8 zd9)))
abbrev zeb:List Aw:=["grammar","steps","best"]
abbrev zec(C:Cc):aD:=
   (aW 1 (bN (bU AD (aA (bN (eF (bY cU (aZ LB (aA aH aC))) (a7 0) fM (a9 (aA (a9 (aA aH (aA bL aC))) (aA (fU (aA (a9 (aA bL (aA bD aC))) aC)) aC))) [none])) aC))))
abbrev zed(C:Cc):aD:=
   (aW 2 (rQ (aZ (AA C) (aA aH (aA (fU (aA bL aC)) (aA aS (aA (bN (aZ AI (aA aH aC))) aC)))))))
abbrev zee(C:Cc):aD:=
   (bS (bU yT (aA (bN (eF (bY rR a6) (a7 0) fM (a9 (aA (vX aH bL) (aA (vX (vX (vX aS aH) bL) bL) aC))) [none,some 2])) aC)))
abbrev zef(C:Cc):aD:=(aF (zec C) (aF (zed C) (zee C)))
theorem LC{lo:Int}{n i:Nat}(h:(iO lo n)[i]? = some w):i<n/\w=.int (lo+i):=by
 unfold iO at h;rw[Ap]at h;obtain⟨j,D,rfl⟩:=Ax.mp h;obtain⟨O,Z⟩:=An.mp D;simp at O Z;subst Z;exact⟨O,rfl⟩
theorem LD{lo:Int}{n:Nat}:(iO lo n).length=n:=by unfold iO;simp
theorem rS(ts:List Aw)(n:Aw):(aT (ts.map cD) (Sum.inr n:aB)).isSome=decide (n∈ts):=by
 induction ts with
 | nil=>rfl
 | cons t ts ih=>
  unfold aT at ih⊢;rw[Be,Dn]
  by_cases h:t=n
  .subst h;simp[cD]
  .rw[show decide ((cD t).1=(Sum.inr n:aB))=false by simp[cD,h]];rw[ih];have h2:¬n=t:=λe=>h e.symm;simp[h2]
theorem lE(rs:List aE)(t:Aw):(aT (ownOf rs) (Sum.inr t:aB)).isSome=ownB rs t:=by
 unfold ownOf ownB;rw[rS,Dy];simp only[decide_eq_true_eq];rw[uL];simp
theorem zeg{ws:List W}{M:Mm}{R:K3}(h:LB ws M R):zea (bA R) (bF zd4 ws) M:=by
 obtain⟨rs,U,rfl,hl,hU,aU,r⟩:=h;refine⟨rs,rfl,Bf hl (by decide),aV.frz ?_⟩;refine⟨namesOf rs,rfl,by have:=zdU rs;lia,?_⟩;obtain⟨ow,how⟩:∃ow,ow=(((namesOf rs).foldl dE []).map cD):=⟨_,rfl⟩;have lo:∀t,(aT ow (Sum.inr t:aB)).isSome=ownB rs t:=λt=>by rw[how];exact lE rs t
 rw[<-how];refine λp hp=>?_;refine dB (λi τ M'=>∃(ss:List Aw) (o3 o4:Option W),τ=[some (.rl (rs.map bE)),some (.dk ow),some (.ref p),o3,o4]/\M'=put M p (.dK (ss.map cD))/\ss.Nodup/\(∀t∈ss,t∈U)/\∀q∈rs.take i,∀t∈q.parts,ownB rs t=false->t∈ss) ⟨[],_,_,rfl,rfl,Ey,by simp,by simp⟩ ?_ ?_
 .rintro i w τ M' hw ⟨ss,o3,o4,rfl,rfl,nd,hsU,hin⟩;rw[Ap]at hw;obtain⟨q,hq,rfl⟩:=Ax.mp hw;refine ?_;refine dB (ws:=q.parts.map W.str) (λj τ M'=>∃(s2:List Aw) (o4:Option W),τ=[some (.rl (rs.map bE)),some (.dk ow),some (.ref p),some (bE q),o4]/\M'=put M p (.dK (s2.map cD))/\s2.Nodup/\(∀t∈s2,t∈U)/\(∀t∈ss,t∈s2)/\∀t∈q.parts.take j,ownB rs t=false->t∈s2) ⟨ss,_,rfl,rfl,nd,hsU,λ_ h=>h,by simp⟩ ?_ ?_
  .rintro j w τ M' hw ⟨s2,o4,rfl,rfl,nd2,hsU2,hs2,hin2⟩;rw[Ap]at hw;obtain⟨t,ht,rfl⟩:=Ax.mp hw;refine⟨_,⟨Sum.inr t,rfl,rfl⟩,?_⟩;show if (!(aT ow (Sum.inr t:aB)).isSome)=true then _ else _;rw[lo t];cases ho:ownB rs t with
   | true=>
    refine⟨_,aP,s2,_,rfl,rfl,nd2,hsU2,hs2,λx hx hox=>?_⟩;rw[AF ht]at hx;rcases Ba.mp hx with z|z
    .exact hin2 x z hox
    .rw[Am.mp z,ho]at hox;cases hox
   | false=>
    have hl2:s2.length<=U.length:=len_sub nd2 hsU2;refine(uG aL (by rw[Ab];exact dJ (by lia)) ⟨_,aP,dE s2 t,_,rfl,by rw[c9,u5],AE nd2,λx hx=>?_,λx hx=>j2.mpr (.inl (hs2 x hx)),λx hx hox=>?_⟩)
    .rcases j2.mp hx with z|z
     .exact hsU2 x z
     .rw[z];exact aU q (Ay hq) t (Ay ht) ho
    .rw[AF ht]at hx;rcases Ba.mp hx with z|z
     .exact j2.mpr (.inl (hin2 x z hox))
     .exact j2.mpr (.inr (by simpa using z))
  .rintro τ M' ⟨s2,o4,rfl,rfl,nd2,hsU2,hs2,hin2⟩;rw[Ab,Br]at hin2;refine⟨_,aP,s2,_,_,rfl,rfl,nd2,hsU2,λx hx t ht ho=>?_⟩;rw[AF hq]at hx;rcases Ba.mp hx with z|z
   .exact hs2 t (hin x z t ht ho)
   .rw[Am.mp z]at ht;exact hin2 t ht ho
 .rintro τ M' ⟨ss,o3,o4,rfl,rfl,nd,hsU,hin⟩;rw[Ab,Br]at hin;refine(EZ hp ?_);have hl2:ss.length<=U.length:=len_sub nd hsU;refine⟨ss,by rw[Bm];rfl,by lia,λs3 hperm=>⟨_,aP,r s3 (λq hq t ht ho=>hperm.mem_iff.mpr (hin q hq t ht ho)) (hperm.nodup_iff.mpr nd) λt ht=>hsU t (hperm.mem_iff.mp ht)⟩⟩
def lG(ss:List Aw):List (List aB×W):=ss.map λt=>([Sum.inr t,Sum.inl 0],.rl [.tup [.int 0,.int 1]])
theorem LF:∀{ps acc:List (List aB×W)},((acc++ps).map (·.1)).Nodup->hV acc ps=acc++ps
 | [],acc,_=>by simp[hV]
 | p::ps,acc,h=>by
  have U:aT acc p.1=none:=by
   rw[Az,Ek]at h;exact rG λe P z=>h.2.2 _ (Bc.mpr ⟨e,P,rfl⟩) p.1 (by simp) z
  have e:bZ acc p.1 p.2=acc++[p]:=by
   unfold bZ;rw[Uv (by rw[show(acc.any λg=>decide (g.1=p.1))=(aT acc p.1).isSome from i0 acc p.1,U];decide)]
  show hV (bZ acc p.1 p.2) ps=_;rw[e,LF (by rw[Ds];exact h),Ds];rfl
theorem zeh(h:ss.Nodup):((lG ss).map (·.1)).Nodup:=by
 unfold lG;rw[Bm]
 induction ss with
 | nil=>simp
 | cons t ss E=>
  rw[Dl]at h;rw[Be,Dl];refine⟨λJ=>?_,E h.2⟩;obtain⟨x,S,e⟩:=Bc.mp J;have:x=t:=by simpa using e
  exact h.1 (by rw[<-this];exact S)
theorem zei(ss:List Aw)(t:Aw)(p:Int):aT (lG ss) (eK (t,p))=if p=0/\t∈ss then some (.rl [.tup [.int 0,.int 1]]) else none:=by
 unfold lG eK
 induction ss with
 | nil=>simp[aT]
 | cons x ss E=>
  rw[Be,n8,E]
  by_cases O:p=0
  .subst O
   by_cases Z:x=t
   .subst Z;rw[Uw rfl,Uw ⟨rfl,by simp⟩]
   .rw[Uv (λz=>Z (by simpa using z))]
    by_cases f:t∈ss
    .rw[Uw ⟨rfl,f⟩,Uw ⟨rfl,Bb _ f⟩]
    .rw[Uv (λz=>f z.2),Uv (λz=>by rcases Bd.mp z.2 with q|q;exact Z q.symm;exact f q)]
  .rw[Uv (λz=>O (by simp at z;exact z.2.symm)),Uv (λz=>O z.1),Uv (λz=>O z.1)]
theorem LG:((dQ fK eX B).map λp=>W.tup (p.1.map wK))=(B.map (·.1)).map λf=>W.tup ((fK f).map wK):=by rw[Bm,Bm];rfl
theorem LH(n:Nat)(rs:List aE)(h:n=rs.length):((Cd n).map λ_=>W.int 0)=rs.map λ_=>W.int 0:=by
 rw[List.map_const',List.map_const',Ft,h]
theorem zej{C:Cc}{ws:List W}{M:Mm}{R:K3}(h:AJ ws M R):zef C (bA R) (bF zeb ws) M:=by
 obtain⟨rs,rfl,g,r⟩:=h;have hf:=g.few;obtain⟨U,s,o⟩:=g.wds;refine⟨rs,U,rfl,by lia,s,o,λss j nd d=>?_⟩;have b:ss.length<=U.length:=len_sub nd d;refine nS (rest:=[]) (λw=>.tup [.tup [w,.int 0],.rl [.tup [.int 0,.int 1]]]) (small (by rw[Ab];lia)) (λ_ _=>trivial) (λw hw V C sb O=>O) (aV.frz ?_);refine⟨lG ss,?_,small (by rw[Ab,Ab];lia),?_⟩
 .unfold oE lG;rw[Bm,Bm];rfl
 rw[LF (by simpa using zeh nd),Lj];refine jH.frz ⟨rs,rfl,by lia,aV.frz ⟨j5 rs ss,⟨rs,ownOf rs,lG ss⟩,by rw[<-LH rs.length rs rfl];rfl,by show rs.length<=100;lia,rfl,⟨rfl,λt=>lE rs t,λt p=>?_⟩,IG rs ss,λq N=>Bf (g.prt q N) (by decide),λB F e i=>⟨e,rfl,.inr ⟨_,aL,?_⟩⟩⟩⟩
 .show(aT (lG ss) (eK (t,p))=none/\(if p=0/\t∈ss then [((0:Int),(1:Int))] else [])=[])\/aT (lG ss) (eK (t,p))=some (.rl ((if p=0/\t∈ss then [((0:Int),(1:Int))] else []).map λz=>.tup [.int z.1,.int z.2]));rw[zei]
  by_cases h:p=0/\t∈ss
  .right;rw[Uw h,Uw h];rfl
  .left;rw[Uv h,Uv h];exact⟨rfl,rfl⟩
 .rw[iY i];have a:=IJ F;have a:B.length<=rs.length:=a;show gN ((dQ fK eX B).map λp=>W.tup (p.1.map wK)) _ _ _ _ _ _ _;rw[LG];refine uD (rest:=[some (.ft (dQ fK eX B))]) (λw y=>∃f v,w=W.tup ((fK f).map wK)/\y=W.tup [.str f.1,v]) (small (by rw[Ab,Ab];lia)) (λ_ _=>trivial) (λw hw V C sb O=>?_) λY A=>aV.frz ?_
  .obtain⟨f,hf,rfl⟩:=Bc.mp hw;obtain⟨v,c⟩:=Eb.mp (i7.mpr hf);exact⟨eX v,⟨fK f,rfl,by rw[lA mL,c];rfl⟩,O _ ⟨f,_,rfl,rfl⟩⟩
  .obtain⟨kvs,rfl,hk⟩:=AG A;have T:=Cu A;rw[Ab,Ab]at T;exact⟨kvs,rfl,small (by lia),λp G=>⟨_,aP,r _ (K6 (λq N t ht D=>⟨λ_=>rfl,λ_=>j q N t ht D⟩) F hk) p G⟩⟩
theorem LJ{D ss:List Int}{i:Nat}{s d:Int}(h:Drawn D (ss.take i))(F:ss[i]? = some s)(hd:Below d s):Drawn (D++[d]) (ss.take (i+1)):=by
 rw[Bw,F];exact Sg h hd
theorem zek{f:Int->W}{ss:List Int}{i:Nat}{s:Int}(h:ss[i]? = some s):b7 (ss.map f) (i:Int)=some (f s):=iJ (by rw[Ap,h];rfl)
theorem vJ{ts:List Aw}{k:Int}(Y:0<=k)(O:k<ts.length):∃t,b7 (ts.map W.str) k=some (.str t)/\t∈ts:=by
 obtain⟨x,e,G,_⟩:=yS (xs:=ts.map W.str) Y (by rw[Ab];exact O);rw[Ap]at G;obtain⟨t,ht,rfl⟩:=Ax.mp G;exact⟨t,e,Ay ht⟩
theorem zel{ws:List W}{M:Mm}{R:K3}(h:u3 ws M R):zcd (bA R) (bF zb7 ws) M:=by
 obtain⟨c,ss,rfl,hl,F,r⟩:=h;have q:qB 10 18:=⟨by decide,by decide,by decide⟩;refine(λp B=>⟨q,_,rfl,by rw[Ab];lia,by rw[Ab];lia,?_⟩);rw[Ab,Du];refine dB (λi L V=>∃D rest o,L=[some (.int c),some (.rl (ss.map W.int)),some (.ref p),some (.int rest),o]/\V=put M p (.lst (D.map W.int))/\Drawn D (ss.take i)) ⟨[],_,_,rfl,rfl,by rw[List.take_zero];exact .nil⟩ ?_ ?_
 .rintro i w L V hw ⟨D,rest,o,rfl,rfl,hd⟩;obtain⟨hi,rfl⟩:=LC hw;rw[So];obtain⟨s,K⟩:∃s,ss[i]? = some s:=⟨_,Bp hi⟩;obtain⟨m,j⟩:=F s (Ay K);have Q:b7 (ss.map W.int) (i:Int)=some (.int s):=zek K;have N:=Cu hd;rw[Ca]at N;have X:(D.map W.int).length<Ao:=by rw[Ab];exact dJ (by lia)
  refine⟨q,fW (λ_=>?_) λ_=>?_⟩
  .refine⟨.inl ⟨rfl,_,aL⟩,so.of Q ⟨m,_,aL,X,so.of Q ⟨⟨m,Int.lt_of_le_of_lt j (by decide)⟩,_,aP,D++[rest % s],_,_,rfl,by rw[c9,Az];rfl,LJ hd K ⟨Fj _ (by lia),Eo _ m⟩⟩⟩⟩
  .refine⟨.inl ⟨rfl,_,aL⟩,c,_,rfl,by lia,by lia,λz Y O=>(so.of Q ⟨m,_,aL,X,_,aP,D++[z % s],_,_,rfl,by rw[c9,Az];rfl,LJ hd K ⟨Fj _ (by lia),Eo _ m⟩⟩)⟩
 .rintro L V ⟨D,rest,o,rfl,rfl,hd⟩;rw[LD,Br]at hd;exact⟨_,aP,r D hd p B⟩
theorem zem(h:zW ws M R):zci (bA R) (bF zce ws) M:=by
 obtain⟨n,m,g,rfl,Y,O,r⟩:=h;have key:∀L,L=jN g->(aF J6 (aF J7 (aF J8 (aF J9 (aF KA (aF KC KD)))))) (bA R) [some (.int n),some (.int m),some (.bl g),some (.str L),none,none,none,none,none,none,none] M:=by
  rintro L rfl;obtain⟨f,ecp,X⟩:=HQ (y8 g) n;have j:(jN g).length<=16777216:=by rw[<-qG,y8];decide
  have hsz0:0<=n/26 % 8:=Fj _ (by decide);have hsz1:n/26 % 8<8:=Eo _ (by decide);have l:0<=n/208 % (1+n/26 % 8):=Fj _ (by lia);have s:n/208 % (1+n/26 % 8)<1+n/26 % 8:=Eo _ (by lia);have D:(0:Int)<26:=by decide
  have p8:(0:Int)<8:=by decide
  refine⟨D,j,so.of ecp ⟨⟨by decide,by decide⟩,p8,⟨by decide,by decide⟩,show 0<1+n/26 % 8 by lia,⟨by decide,by decide⟩,D,λp B=>⟨m,rfl,by lia,by lia,?_⟩⟩⟩;have b:(⟨#[f]⟩:Aw).length=1:=rfl;obtain⟨E,hfi⟩:∃E,E=n/1664 % 26:=⟨_,rfl⟩;obtain⟨k,J⟩:∃k,k=n/26 % 8:=⟨_,rfl⟩;rw[<-J]at hsz0 hsz1 l s;obtain⟨av,Q⟩:∃av,av=n/208 % (1+k):=⟨_,rfl⟩;rw[<-Q]at l s;refine dB (λi U V=>∃(ts:List Aw) (c a:Option W),U=[some (.int n),some (.int m),some (.bl g),some (.str (jN g)),some (.str ⟨#[f]⟩),some (.int (1+k)),some (.int av),some (.int E),some (.ref p),c,a]/\
   V=put M p (.lst (ts.map W.str))/\ts.length=i/\∀t∈ts,qY g t) ⟨[],none,none,by rw[hfi,Q,J];rfl,rfl,rfl,λt ht=>nomatch ht⟩ ?_ ?_
  .rintro i w U V hw ⟨ts,c,a,rfl,rfl,o,ht⟩;obtain⟨hi,rfl⟩:=LC hw;rw[So];obtain⟨d,hd,hdm⟩:=HQ (y8 g) (E+3*(i:Int));have K:((Hy (⟨#[f]⟩:Aw) av).length:Int)=av:=HP b l;have y:((Hy (⟨#[f]⟩:Aw) (1+k-av-1)).length:Int)=1+k-av-1:=HP b (by lia);have N:(⟨#[d]⟩:Aw).length=1:=rfl;have l12:(Hy (⟨#[f]⟩:Aw) av++(⟨#[d]⟩:Aw)).length=(Hy (⟨#[f]⟩:Aw) av).length+1:=by rw[Ls,N]
   have l123:(Hy (⟨#[f]⟩:Aw) av++(⟨#[d]⟩:Aw)++Hy (⟨#[f]⟩:Aw) (1+k-av-1)).length=(Hy (⟨#[f]⟩:Aw) av).length+1+(Hy (⟨#[f]⟩:Aw) (1+k-av-1)).length:=by rw[Ls,l12]
   refine⟨.inl (.inl ⟨by decide,by decide⟩),D,j,so.of hd ?_⟩;refine⟨.inl ⟨rfl,_,aL⟩,_,_,rfl,rfl,by rw[b];decide,by lia,by lia,_,_,rfl,rfl,small (by lia),_,_,rfl,rfl,by rw[b];decide,by lia,by lia,_,_,rfl,rfl,small (by lia),_,aL,dJ (by rw[Ab];lia),?_⟩;generalize S:Hy (⟨#[f]⟩:Aw) av++(⟨#[d]⟩:Aw)++Hy (⟨#[f]⟩:Aw) (1+k-av-1)=x at l123⊢;have I:x.length<=8:=by lia
   have P:∀z∈cs x,z∈cs (jN g):=λz hz=>by
    rw[<-S,oR,oR]at hz;rcases Ba.mp hz with q|q
    .rcases Ba.mp q with q|q
     .have:=HN q;rw[y9,Am]at this;rw[this];exact X
     .rw[y9,Am]at q;rw[q];exact hdm
    .have:=HN q;rw[y9,Am]at this;rw[this];exact X
   have hxn:cs x≠[]:=λz=>by
    have:x.length=0:=by rw[<-qG,z];rfl
    lia
   have T:ts.map W.str++[W.str x]=(ts++[x]).map W.str:=by rw[Az];rfl
   rw[c9,T];have e:∀F v,∃u,L2.Sub u (put M p (.lst ((ts++[x]).map W.str)))/\∃(H:List Aw) (c a:Option W),[some (.int n),some (.int m),some (.bl g),some (.str (jN g)),some (.str ⟨#[f]⟩),some (.int (1+k)),some (.int av),some (.int E),some (.ref p),F,v]=[some (.int n),some (.int m),some (.bl g),some (.str (jN g)),some (.str ⟨#[f]⟩),some (.int (1+k)),some (.int av),some (.int E),some (.ref p),c,a]/\
     u=put M p (.lst (H.map W.str))/\H.length=i+1/\∀t∈H,qY g t:=λF v=>by
    refine⟨_,aP,ts++[x],_,_,rfl,rfl,by rw[Ak,o];rfl,λt h=>?_⟩;rcases Ba.mp h with q|q
    .exact ht t q
    .rw[Am.mp q];exact zal I hxn P
   refine(fW (λZ=>⟨⟨by decide,by decide⟩,(by decide:(0:Int)<3),fW (λ_=>⟨⟨by decide,by decide⟩,Int.natCast_nonneg i,fW (λ_=>?_) λ_=>e _ _⟩) λ_=>e _ _⟩) λ_=>e _ _);have hk:b7 ((ts++[x]).map W.str) (i:Int)=some (.str x):=by
    refine iJ ?_;rw[Ap,Jb (by lia),o];simp
   have A:("_" : Aw).length=1:=by decide +kernel
   have C:0<=n/129792 % 10000:=Fj _ (by decide);have G:n/129792 % 10000<10000:=Eo _ (by decide);have hfl:(Bv (toString (n/129792 % 10000))).length<=10:=Od C (by lia);have hxu:(x++("_" : Aw)).length=x.length+1:=by rw[Ls,A]
   subst Z;refine xV aL hk (⟨_,_,rfl,rfl,small (by lia),⟨by decide,by decide⟩,(by decide:(0:Int)<10000),HR C G,_,_,rfl,rfl,small (by lia),ZL aL (by lia) (by rw[Ab,Ak,Cf];lia) ⟨_,aP,ts++[x++("_" : Aw)++Bv (toString (n/129792 % 10000))],_,_,rfl,?_,by rw[Ak,o];rfl,λt h=>?_⟩⟩)
   .rw[c9,Az,Az];congr 2;rw[List.set_append_right _ _ (by rw[Ab,o];lia),Ab,o,Du,Nat.sub_self];rfl
   .rcases Ba.mp h with q|q
    .exact ht t q
    .rw[Am.mp q];exact zam _ C G I hxn P
  .rintro U V ⟨ts,c,a,rfl,rfl,o,ht⟩;rw[LD]at o;exact⟨_,aP,r ts o ht p B⟩
 cases g with
 | true=>exact⟨rfl,by decide +kernel,key _ rfl⟩
 | false=>exact(key _ rfl)
theorem zen(m:Nat):(Bz m [W.int 6]).flatten=(Bz m (6:Int)).map W.int:=by
 induction m with
 | zero=>rfl
 | succ m E=>rw[Es,Gq,E,Es];rfl
theorem zeo{x1 x2 x3 x4:Int}(h:w∈eE (([x1,x2,x3,x4]++y).map W.int) (some 4) hi):∃d∈y,w=.int d:=by
 unfold eE at h;have e:HT.sIx (([x1,x2,x3,x4]++y).map W.int).length 0 (some 4)=4:=by
  have:=HT.sIx_nat (([x1,x2,x3,x4]++y).map W.int).length 0 4;simp at this⊢;lia
 rw[e]at h;have h:=Lf h;obtain⟨d,hd,rfl⟩:=Bc.mp (show w∈y.map W.int from h);exact⟨d,hd,rfl⟩
theorem zep{ws:List W}{M:Mm}{R:K3}(h:JZ ws M R):zcp (bA R) (bF zcj ws) M:=by
 obtain⟨c,F,wds,l,rfl,hh0,hh1,hw,hm0,N,r⟩:=h;have pw:qB 10 59:=⟨by decide,by decide,by decide⟩;have z6:∀{n:Nat},n<=20->n<=Ao:=λh=>small (Bf h (by decide));refine⟨pw,by lia,by lia,z6 (by show 1*l.toNat<=20;lia),?_⟩;rw[zen];refine⟨z6 (by show 4+(Lg W.int _).length<=20;rw[Ab,Ew];lia),c,[(F.length:Int),l+1,3,10 ^ 59]++Bz l.toNat 6,by rw[Az,Ab];rfl,by rw[Ak,Ew];show 4+_<=100;lia,λs K=>?_,λD hd=>aV.frz ?_⟩
 .rcases Ba.mp K with q|q
  .simp at q;rcases q with rfl|rfl|rfl|rfl
   .exact⟨by lia,Sq (show(F.length:Int)<=12 by lia) (by decide)⟩
   .exact⟨by lia,Sq (show l+1<=5 by lia) (by decide)⟩
   .exact⟨by decide,by decide⟩
   .exact⟨by decide,by decide⟩
  .rw[(List.mem_replicate.mp q).2];exact⟨by decide,by decide⟩
 .obtain⟨P,y,rfl,T,G⟩:=zan hd;obtain⟨x1,x2,x3,x4,rfl,v,C,E,A⟩:=zao T;have b6:=zap G (s:=6) λz hz=>(List.mem_replicate.mp hz).2;have O:b7 (([x1,x2,x3,x4]++y).map W.int) 0=some (.int x1):=uF _ _;have Y:b7 (([x1,x2,x3,x4]++y).map W.int) 1=some (.int x2):=iJ (j:=1) rfl;have U:b7 (([x1,x2,x3,x4]++y).map W.int) 2=some (.int x3):=iJ (j:=2) rfl;have b:b7 (([x1,x2,x3,x4]++y).map W.int) 3=some (.int x4):=iJ (j:=3) rfl;refine(λp B=>(so.of Y ?_));show mF (eE (([x1,x2,x3,x4]++y).map W.int) (some 4) (some (4+x2))) _ _ _ _ _ _;have x:=GZ (S:=([x1,x2,x3,x4]++y).map W.int) (i:=4) (j:=4+x2) (by decide) (by have:=C.1;lia);have hcm:∀w∈eE (([x1,x2,x3,x4]++y).map W.int) (some 4) (some (4+x2)),∃d,Below d 6/\w=.int d:=λw hw'=>by
   obtain⟨d,hd,e⟩:=zeo hw';exact⟨d,b6 d hd,e⟩
  generalize eE (([x1,x2,x3,x4]++y).map W.int) (some 4) (some (4+x2))=cw at *;obtain⟨b10,b11⟩:=v;obtain⟨b20,b21⟩:=C;obtain⟨b30,b31⟩:=E;obtain⟨b40,b41⟩:=A;refine dB (λi L V=>∃(ts:List Aw) (Q:Option W),L=[some (.int c),some (.rl (F.map W.str)),some (.rl (wds.map W.str)),some (.int l),some (.rl (([x1,x2,x3,x4]++y).map W.int)),some (.ref p),Q]/\
   V=put M p (.lst (ts.map W.str))/\ts.length=i/\∀t∈ts,t∈wds\/t∈F) ⟨[],none,rfl,rfl,rfl,λt ht=>nomatch ht⟩ ?_ ?_
  .rintro i w L V hw' ⟨ts,Q,rfl,rfl,o,ht⟩;have hi:=(An.mp hw').1;obtain⟨d,⟨hd0,hd1⟩,rfl⟩:=hcm w (Ay hw');have fin:∀t,(t∈wds\/t∈F)->∃(H:List Aw) (Q:Option W),[some (.int c),some (.rl (F.map W.str)),some (.rl (wds.map W.str)),some (.int l),some (.rl (([x1,x2,x3,x4]++y).map W.int)),some (.ref p),some (.int d)]=[some (.int c),some (.rl (F.map W.str)),some (.rl (wds.map W.str)),some (.int l),some (.rl (([x1,x2,x3,x4]++y).map W.int)),some (.ref p),Q]/\
     put (put M p (.lst (ts.map W.str))) p (.lst (ts.map W.str++[.str t]))=put M p (.lst (H.map W.str))/\H.length=i+1/\∀t∈H,t∈wds\/t∈F:=λt ht'=>
    ⟨ts++[t],_,rfl,by rw[c9,Az];rfl,by rw[Ak,o];rfl,λu J=>(Ba.mp J).elim (ht u) λq=>by rw[Am.mp q];exact ht'⟩
   have X:(ts.map W.str).length<Ao:=by rw[Ab];exact dJ (by lia)
   refine(fW (λf=>?_) λ_=>?_)
   .have f:d<3:=Ux f;obtain⟨t,e,m⟩:=vJ (ts:=wds) (k:=d) hd0 (by lia);exact⟨.inl ⟨rfl,_,aL⟩,so.of e ⟨_,aL,X,_,aP,fin t (.inl m)⟩⟩
   .have hpos:(0:Int)<((F.map W.str).length:Int):=by rw[Ab];lia
    obtain⟨t,e,m⟩:=vJ (ts:=F) (k:=(d-3+x1) % ((F.map W.str).length:Int)) (Fj _ (by lia)) (by have:=Eo (d-3+x1) hpos;rw[Ab]at this⊢;exact this);exact⟨.inl ⟨rfl,_,aL⟩,so.of O ⟨hpos,so.of e ⟨_,aL,X,_,aP,fin t (.inr m)⟩⟩⟩
  .rintro L V ⟨ts,Q,rfl,rfl,o,ht⟩;obtain⟨nm,en,mn⟩:=vJ (ts:=F) (k:=x1) b10 b11;obtain⟨cb,ecb,_,mcb⟩:=yS (xs:=[W.int 1,W.int 10,W.int (10 ^ (59:Int).toNat)]) (i:=x3) b30 (by show x3<3;lia);have Z:∃q:Int,cb=.int q/\0<q/\q<=10 ^ 59:=by
    rcases Bd.mp mcb with rfl|mcb
    .exact⟨_,rfl,by decide,by decide⟩
    rcases Bd.mp mcb with rfl|mcb
    .exact⟨_,rfl,by decide,by decide⟩
    .rw[Am.mp mcb];exact⟨_,rfl,by decide,by decide⟩
   obtain⟨q,rfl,I,g⟩:=Z;have a:=Eo x4 I;refine(so.of O (so.of en ⟨_,aL,so.of b ⟨pw,so.of U (so.of ecb ⟨I,_,Sub.new B,r ⟨nm,ts,x4 % q⟩ ⟨mn,ht,by show ts.length<=4;lia,Fj _ (by lia),Int.lt_of_lt_of_le a (Sq g (by decide))⟩ (by show(ts.length:Int)<=l;lia)⟩)⟩⟩))
theorem Paired.rules{l:Int}(h:Ff (λ_ y=>∃r,y=bE r/\mI F wds r/\(r.parts.length:Int)<=l) xs B):∃rs:List aE,B=rs.map bE/\rs.length=xs.length/\∀r∈rs,mI F wds r/\(r.parts.length:Int)<=l:=by
 induction h with
 | nil=>exact⟨[],rfl,rfl,λr g=>nomatch g⟩
 | cons a b E=>
  obtain⟨r,rfl,O⟩:=a;obtain⟨rs,rfl,hl,Z⟩:=E;refine⟨r::rs,rfl,by simp[hl],λq N=>?_⟩;rcases Bd.mp N with rfl|N
  .exact O
  .exact Z q N
theorem zeq(h:J0 ws M R):zcy (bA R) (bF zcq ws) M:=by
 obtain⟨d,j,l,rfl,hi,hl,hm0,K,ho0,ho1,r⟩:=h;have pw:qB 10 9:=⟨by decide,by decide,by decide⟩;have T:∀{n:Nat},n<=3->n<=Ao:=λh=>small (Bf h (by decide));refine⟨d,0,.inr rfl,hi,by decide,λc=>⟨pw,pw,c,[10 ^ 9,10 ^ 9],rfl,by decide,λs F=>?_,λD hd=>aV.frz ?_⟩⟩
 .rcases Bd.mp F with rfl|F
  .exact⟨by decide,by decide⟩
  .rw[Am.mp F];exact⟨by decide,by decide⟩
 obtain⟨x1,x2,rfl,v,z⟩:=zaq hd;refine⟨rfl,rfl,x1,j,true,rfl,by lia,by lia,λF hsl hhs=>aV.frz ⟨x2,3,false,rfl,by decide,by decide,λwds H sC=>aV.frz ?_⟩⟩;have H:wds.length=3:=H;refine uD (ws:=eE d (some 1) none) (rest:=[some (.rl (F.map W.str)),some (.rl (wds.map W.str)),some (.int l)]) (λ_ y=>∃r,y=bE r/\mI F wds r/\(r.parts.length:Int)<=l) (small (by have:=GY (ws:=d) (lo:=some 1) (hi:=none);lia)) (λ_ _=>trivial) (λw hw V C sb O=>?_) λY A p B=>?_
 .obtain⟨i,rfl⟩:=hi w (GX hw);exact⟨i,F,wds,l,rfl,by lia,by lia,H,by lia,by lia,λr Z f=>O _ ⟨r,rfl,Z,f⟩⟩
 obtain⟨rs,rfl,hrl,hrs⟩:=Paired.rules A;have x:=GY (ws:=d) (lo:=some 1) (hi:=none);obtain⟨E,S,mw⟩:=vJ (ts:=wds) (k:=0) (by decide) (by lia);refine dB (λi L V=>∃(qs:List aE) (m:Option W),L=[some (.rl d),some (.int j),some (.int l),some (.int x1),some (.int x2),some (.rl (F.map W.str)),some (.rl (wds.map W.str)),some (.ref p),m]/\
   V=put M p (.lst (qs.map bE))/\qs.length<=rs.length+i/\(∀r∈qs,mI F wds r/\(r.parts.length:Int)<=l)/\(∀t∈F.take i,∃r∈qs,r.name=t)) ⟨rs,_,rfl,rfl,by lia,hrs,by simp⟩ ?_ ?_
 .rintro i w L V hw ⟨qs,m,rfl,rfl,hql,N,o⟩;rw[Ap]at hw;obtain⟨t,ht,rfl⟩:=Ax.mp hw;have hilt:=(An.mp ht).1;have htm:t∈F:=Ay ht;refine⟨_,aL,?_⟩;refine nS (rest:=[]) (λw=>match w with|.tup (n::_)=>n|_=>.non) (small (by rw[Ab];lia)) (λV sb=>sb _ _ aL) (λw hw V C sb O=>?_) (aV.frz ?_)
  .obtain⟨q,_,rfl⟩:=Bc.mp hw;exact O
  have I:(qs.map bE).map (λw=>match w with|.tup (n::_)=>n|_=>W.non)=(qs.map aE.name).map W.str:=by
   rw[Bm,Bm];rfl
  rw[I];refine⟨rfl,rL _,?_⟩;show if (!inW (.str t) ((qs.map aE.name).map W.str))=true then _ else _;rw[rK];have cov:∀qs':List aE,(∀r∈qs,r∈qs')->(∃r∈qs',r.name=t)->∀u∈F.take (i+1),∃r∈qs',r.name=u:=λqs' P G u J=>by
   rw[Bw,ht]at J;rcases Ba.mp J with q|q
   .obtain⟨r,g,e⟩:=o u q;exact⟨r,P r g,e⟩
   .simp at q;subst q;exact G
  refine fW (λ_=>?_) λX=>?_
  .refine⟨.inl ⟨rfl,_,aL⟩,so.of S ⟨_,aL,dJ (by rw[Ab];lia),_,aP,qs++[⟨t,[E],0⟩],_,rfl,by rw[c9,Az];rfl,by rw[Ak,Cf];lia,λr g=>?_,cov _ (λr g=>Bg _ g) ⟨⟨t,[E],0⟩,by simp,rfl⟩⟩⟩;rcases Ba.mp g with g|g
   .exact N r g
   .rw[Am.mp g];exact⟨⟨htm,λu J=>.inl (by rw[Am.mp J];exact mw),by show 1<=4;decide,by show(0:Int)<=0;decide,by show(0:Int)<10 ^ 60;decide⟩,by show(1:Int)<=l;lia⟩
  .have hin':t∈qs.map aE.name:=Ux (by rw[<-Ie (decide _),X];rfl);obtain⟨U,hr0,Q⟩:=Bc.mp hin';exact⟨_,aP,qs,_,rfl,rfl,by lia,N,cov _ (λr g=>g) ⟨U,hr0,Q⟩⟩
 .rintro L V ⟨qs,m,rfl,rfl,hql,N,o⟩;rw[Ab]at hql;rw[Ab,Br]at o;have hsn:F.length=j.toNat:=hsl;refine⟨_,aP,r qs ⟨λe=>?_,by lia,F,wds,by lia,λt ht=>hhs t ht,λt ht=>sC t ht,λr g=>(N r g).1,o⟩ (λr g=>(N r g).2) ⟨F,wds,by lia,H,λt ht=>hhs t ht,λt ht=>sC t ht,λr g=>(N r g).1,o,by lia⟩ p B⟩;subst e;cases F with
  | nil=>simp at hsn;lia
  | cons a b=>obtain⟨r,g,_⟩:=o a Bi;cases g
theorem LK:∀d,d<10->(Rz d).toNat=48+d:=by decide
theorem zer{m:Nat}(h:10<=m):Hq 10 m=Hq 10 (m/10)++[Rz (m % 10)]:=Nat.toDigits_of_base_le (by decide) h
theorem zes:∀m:Nat,PySem.NumText.digitsVal ((Hq 10 m).map Td)=m:=by
 intro m
 induction m using Nat.strongRecOn with
 | ind m ih=>
  by_cases h:m<10
  .rw[Nm h];show 0*10+((Rz m).toNat-48)=m;rw[LK m h];lia
  .rw[zer (by lia),Az,Be,Kq,PySem.NumText.digitsVal_snoc,ih (m/10) (by lia),LK _ (Nat.mod_lt _ (by decide))];lia
def i8(m:Nat):Aw:=Bv (toString ((m:Nat):Int))
theorem LL(m:Nat):cs (i8 m)=(Hq 10 m).map Td:=PySem.W.KIN.signs_num m
theorem zet{m:Nat}(h:m<10 ^ 60):(i8 m).length<=60:=by
 rw[<-qG,LL,Ab];exact(Nat.length_toDigits_le_iff (by decide) (by decide)).mpr h
theorem zeu{c:Nat}(h:c∈cs lP):48<=c/\c<=57:=by
 have key:∀c∈cs lP,48<=c/\c<=57:=by decide +kernel
 exact key c h
theorem LM{m:Nat}(h:m<10 ^ 60):PySem.intText? (i8 m)=some (m:Int):=by
 obtain⟨O,Z⟩:=ED (m:=m);have:=PySem.intText_digits (x:=i8 m) (λc hc=>zeu (O c hc)) Z (by have:=zet h;lia);rw[this];congr 2;have e:=zes m;rw[<-LL]at e;exact e
def i9{O:Type}[DecidableEq O](acc:List O)(t:O):List O:=if t∈acc then acc else acc++[t]
section
variable {O:Type}[DecidableEq O]
theorem zev{acc:List O}{t u:O}:u∈i9 acc t↔u∈acc\/u=t:=by
 unfold i9;split
 .rename_i h;constructor
  .exact .inl
  .rintro(q|q)
   .exact q
   .rw[q];exact h
 .rw[Ba,Am]
theorem zew{acc:List O}{t:O}:(i9 acc t).length<=acc.length+1:=by
 unfold i9;split
 .lia
 .rw[Ak];exact Ai _
theorem zex{acc:List O}{t:O}(h:acc.Nodup):(i9 acc t).Nodup:=by
 unfold i9;split
 .exact h
 .rename_i n;rw[Ek];refine⟨h,by simp,λx S y K=>?_⟩;rw[Am]at K;subst K;exact λe=>n (e▸S)
def jA(acc ts:List O):List O:=ts.foldl i9 acc
theorem LN:∀{ts acc:List O} {u:O},u∈jA acc ts↔u∈acc\/u∈ts
 | [],acc,u=>by simp[jA]
 | t::r,acc,u=>by
  show u∈jA (i9 acc t) r↔_;rw[LN,zev,Bd,or_assoc]
theorem AK:∀{ts acc:List O},(jA acc ts).length<=acc.length+ts.length
 | [],acc=>Ai _
 | t::r,acc=>by
  have Y:=AK (ts:=r) (acc:=i9 acc t);have Z:=zew (acc:=acc) (t:=t);show(jA (i9 acc t) r).length<=_;rw[Bu];lia
theorem LO:∀{ts acc:List O},acc.Nodup->(jA acc ts).Nodup
 | [],_,h=>h
 | t::r,acc,h=>LO (ts:=r) (zex h)
end
def gS(ps:List Aw):List (List Aw):=(Cd (ps.length-2)).map λk=>ps.drop (k+1)
def mO(rs:List aE):List (List Aw):=(rs.map λr=>gS r.parts).flatten
def dR(rs:List aE):List (List Aw):=jA [] (mO rs)
theorem LP:e∈gS ps↔∃k,k+2<ps.length/\e=ps.drop (k+1):=by
 unfold gS;rw[Bc];constructor
 .rintro⟨k,hk,rfl⟩;rw[Hz]at hk;exact⟨k,by lia,rfl⟩
 .rintro⟨k,hk,rfl⟩;exact⟨k,by rw[Hz];lia,rfl⟩
theorem AL:e∈dR rs↔∃r∈rs,∃k,k+2<r.parts.length/\e=r.parts.drop (k+1):=by
 unfold dR mO;rw[LN];simp only[Hc,false_or,List.mem_flatten,Bc];constructor
 .rintro⟨l,⟨r,g,rfl⟩,P⟩;exact⟨r,g,LP.mp P⟩
 .rintro⟨r,g,h⟩;exact⟨_,⟨r,g,rfl⟩,LP.mpr h⟩
theorem zey(g:r∈rs)(h:2<r.parts.length):r.parts.drop 1∈dR rs:=AL.mpr ⟨r,g,0,by lia,rfl⟩
theorem zez(P:e∈dR rs)(h:2<e.length):e.drop 1∈dR rs:=by
 obtain⟨r,g,k,hk,rfl⟩:=AL.mp P;rw[He]at h;exact AL.mpr ⟨r,g,k+1,by lia,by rw[List.drop_drop]⟩
theorem LQ:∀{rs:List aE},(∀r∈rs,r.parts.length<=4)->(mO rs).length<=2*rs.length
 | [],_=>Ai _
 | r::rs,h=>by
  have O:=LQ (rs:=rs) λq N=>h q (Bb _ N);have Z:=h r Bi;unfold mO at O⊢;rw[Be,Gq,Ak,Bu];unfold gS;rw[Ab,Ft];unfold gS at O;lia
theorem LR(h:∀r∈rs,r.parts.length<=4):(dR rs).length<=2*rs.length:=by
 have O:=AK (ts:=mO rs) (acc:=[]);have Z:=LQ h;unfold dR;simp at O;lia
theorem zeA:(dR rs).Nodup:=LO Ey
def fF(i:Nat):Aw:="M"++"_"++i8 i
theorem LS(i:Nat):cs (fF i)=77::95::cs (i8 i):=by
 unfold fF;rw[oR,oR,EA];rfl
theorem zeB{i j:Nat}(hi:i<10 ^ 60)(D:j<10 ^ 60)(h:cs (i8 i)=cs (i8 j)):i=j:=by
 have e:i8 i=i8 j:=by
  generalize i8 i=a at h⊢;generalize i8 j=b at h⊢;obtain⟨⟨a⟩⟩:=a;obtain⟨⟨b⟩⟩:=b;simp[cs]at h;rw[h]
 have O:=LM hi;rw[e,LM D]at O;injection O with h2;lia
theorem zeC{i j:Nat}(hi:i<10 ^ 60)(D:j<10 ^ 60)(h:fF i=fF j):i=j:=by
 have e:=congrArg cs h;rw[LS,LS]at e;simp only[Dk,true_and]at e;exact zeB hi D e
def hZ(old:List Aw)(t:Nat):List Aw:=((Cd t).map fF).filter λn=>!decide (n∈old)
theorem LU(old:List Aw)(t:Nat):hZ old (t+1)=if fF t∈old then hZ old t else hZ old t++[fF t]:=by
 unfold hZ;rw[List.range_succ,Az,List.filter_append]
 by_cases h:fF t∈old
 .simp[h]
 .simp[h]
theorem LV(old:List Aw)(t:Nat)(ht:t<10 ^ 60):t<=(hZ old t).length+old.length:=by
 have key:(((Cd t).map fF).filter λn=>decide (n∈old)).length<=old.length:=by
  refine List.Nodup.length_le_of_subset ?_ λn U=>by simpa using (Ep.mp U).2
  refine List.Nodup.sublist List.filter_sublist ?_;rw[Hf,Mw];refine List.Pairwise.imp_of_mem ?_ (List.nodup_range (n:=t));intro a b S Y i e;rw[Hz]at S Y;exact i (zeC (by lia) (by lia) e)
 have e:=List.length_eq_countP_add_countP (λn=>decide (n∈old)) (l:=(Cd t).map fF);rw[List.countP_eq_length_filter,List.countP_eq_length_filter]at e;rw[Ab,Ft]at e;unfold hZ;have G:(((Cd t).map fF).filter λn=>!decide (n∈old))=(((Cd t).map fF).filter λa=>decide ¬decide (a∈old)=true):=by
  congr 1;funext a;simp
 rw[G];lia
def pQ(old:List Aw)(n:Nat):List Aw:=(hZ old (n+old.length)).take n
theorem zeD(old:List Aw){t u:Nat}(h:t<=u):∃r,hZ old u=hZ old t++r:=by
 induction u with
 | zero=>
  cases Nat.le_zero.mp h;exact⟨[],by simp⟩
 | succ u E=>
  by_cases e:t=u+1
  .subst e;exact⟨[],by simp⟩
  .obtain⟨r,g⟩:=E (by lia);rw[LU];split
   .exact⟨r,g⟩
   .exact⟨r++[fF u],by rw[g,Ds]⟩
theorem zeE{n t:Nat}(U:(hZ old t).length=n)(ht:t<=n+old.length):hZ old t=pQ old n:=by
 obtain⟨r,g⟩:=zeD old ht;unfold pQ;rw[g,<-U,List.take_left'];rfl
theorem LW{n:Nat}(h:n+old.length<10 ^ 60):(pQ old n).length=n:=by
 have:=LV old (n+old.length) h;unfold pQ;rw[Ca];lia
def eY(e:List Aw):List aB:=e.map Sum.inr
theorem AN:∀{a b:List Aw},a.map (Sum.inr:Aw->aB)=b.map Sum.inr->a=b
 | [],[],_=>rfl
 | [],_::_,h=>by cases h
 | _::_,[],h=>by cases h
 | x::a,y::b,h=>by
  simp only[Be,Dk,Oo]at h;rw[h.1,AN h.2]
theorem AQ(h:eY a=eY b):a=b:=AN h
def rT(rs:List aE):List Aw:=pQ (namesOf rs) (dR rs).length
def pR(rs:List aE):List (List Aw×Aw):=(dR rs).zip (rT rs)
def h8(rs:List aE):List (List aB×W):=(pR rs).map λp=>(eY p.1,.str p.2)
def oF(rs:List aE)(e:List Aw):Aw:=((pR rs).lookup e).getD ""
theorem LX:∀{es:List (List Aw)} {ns:List Aw} {e:List Aw},es.length=ns.length->e∈es->∃n∈ns,(es.zip ns).lookup e=some n
 | [],_,e,_,h=>by cases h
 | x::es,[],e,h,_=>by cases h
 | x::es,n::ns,e,h,P=>by
  rw[Lz,Dx]
  by_cases S:e=x
  .subst S;rw[beq_self_eq_true];exact⟨n,Bi,rfl⟩
  .rw[beq_eq_false_iff_ne.mpr S];rcases Bd.mp P with O|O
   .exact absurd O S
   .obtain⟨m,J,T⟩:=LX (es:=es) (ns:=ns) (by simpa using h) O;exact⟨m,Bb _ J,T⟩
theorem LY:∀(l:List (List Aw×Aw)) (e:List Aw),aT (l.map λp=>((eY p.1,W.str p.2):List aB×W)) (eY e)=(l.lookup e).map W.str
 | [],e=>rfl
 | (x,n)::l,e=>by
  unfold aT;rw[Be,Dn,Dx]
  by_cases S:e=x
  .subst S;simp
  .rw[beq_eq_false_iff_ne.mpr S,Uz (λh=>S (AQ h).symm)];exact LY l e
structure h9(rs:List aE):Prop where
 few:rs.length<=60
 prt:∀r∈rs,r.parts.length<=4
theorem zeF(rs:List aE):(namesOf rs).length<=rs.length:=by
 have:=qZ (rs.map aE.name) [];unfold namesOf mJ;simpa using this
theorem h9.sum(f:h9 rs):(dR rs).length+(namesOf rs).length<=180:=by
 have O:=LR f.prt;have Z:=zeF rs;have:=f.few;lia
theorem h9.len(f:h9 rs):(rT rs).length=(dR rs).length:=LW (Fl f.sum (by decide))
theorem LZ(f:h9 rs)(P:e∈dR rs):aT (h8 rs) (eY e)=some (.str (oF rs e))/\oF rs e∈rT rs:=by
 obtain⟨n,U,T⟩:=LX (ns:=rT rs) f.len.symm P;have G:oF rs e=n:=by unfold oF pR;rw[T];rfl
 rw[G];refine⟨?_,U⟩;unfold h8;rw[LY];unfold pR;rw[T];rfl
def mP(rs:List aE)(ps:List Aw):List Aw:=if ps.length<=2 then ps else [ps.headD "",oF rs (ps.drop 1)]
theorem L0(rs:List aE)(ps:List Aw):(mP rs ps).length<=2:=by
 unfold mP;split
 .assumption
 .simp
abbrev NP:=Aw×List Aw
def zeG(ps:List Aw):W:=.tup ((Cd ps.length).map λ(i:Nat)=>W.int i)
def vK(acc:List (NP×W))(it:NP×W):List (NP×W):=if it.1∈acc.map Ef then acc else acc++[it]
def j9(x:NP):bM:=(Sum.inr x.1,x.2.map Sum.inr)
theorem zeH(h:j9 x=j9 y):x=y:=by
 obtain⟨a,b⟩:=x;obtain⟨c,d⟩:=y;unfold j9 at h;rw[Ic]at h;have O:=h.1;injection O with O;exact Oq O (AN h.2)
def kvsOf(l:List (NP×W)):List (bM×W):=l.map λp=>(j9 p.1,p.2)
theorem L1(l:List (NP×W))(x:NP):(aT (kvsOf l) (j9 x)=none/\x∉l.map Ef)\/(∃w,aT (kvsOf l) (j9 x)=some w)/\x∈l.map Ef:=by
 induction l with
 | nil=>exact .inl ⟨rfl,by simp⟩
 | cons p l E=>
  unfold kvsOf aT at E⊢;rw[Be,Dn,Be,Bd]
  by_cases h:p.1=x
  .rw[Uy (by rw[h])];exact .inr ⟨⟨_,rfl⟩,.inl h.symm⟩
  .rw[Uz (λe=>h (zeH e))];rcases E with⟨O,Z⟩|⟨O,Z⟩
   .exact .inl ⟨O,λe=>by rcases e with e|e;exact h e.symm;exact Z e⟩
   .exact .inr ⟨O,.inr Z⟩
def mQ(x:NP):aE:=⟨x.1,x.2,0⟩
theorem AR(x:NP):fD [0] (j9 x)=bE (mQ x):=by
 unfold fD j9 bE mQ;simp[wK,Ku]
structure Sh(t:Aw):Prop where
 len:t.length<=60
 ne:cs t≠[]
 asc:pG t
theorem kX.sh(h:kX t):Sh t:=⟨by have:=h.len;lia,h.ne,h.asc⟩
theorem pH.sh(h:pH t):Sh t:=⟨by have:=h.len;lia,by obtain⟨c,r,e,_⟩:=h.hd;rw[e];simp,h.asc⟩
structure L3(rs:List aE):Prop where
 ne:rs≠[]
 few:rs.length<=400
 ok:∀r∈rs,0<=r.cost/\∀t∈r.parts,t.length<=1000/\(iW t=true->t∈namesOf rs)
theorem zeI{c:Type}[DecidableEq c]{kvs:List (c×W)}{k:c}{v:W}(h:k∉kvs.map Ef):bZ kvs k v=kvs++[(k,v)]:=by
 unfold bZ;rw[Uv];rw[Ge];rintro⟨p,B,e⟩;exact h (Bc.mpr ⟨p,B,by simpa using e⟩)
theorem L4:∀{ps acc:List (List aB×W)},((acc++ps).map Ef).Nodup->hV acc ps=acc++ps
 | [],acc,_=>by simp[hV]
 | p::ps,acc,h=>by
  have U:p.1∉acc.map Ef:=by
   rw[Az,Be,Ek]at h;intro J;exact h.2.2 _ J _ Bi rfl
  show hV (bZ acc p.1 p.2) ps=_;rw[zeI U];have e:acc++[(p.1,p.2)]++ps=acc++p::ps:=by simp
  rw[L4 (by rw[e];exact h),e]
theorem L5(f:h9 rs):(h8 rs).map Ef=(dR rs).map eY:=by
 unfold h8 pR;rw[Bm];have:∀{es:List (List Aw)} {ns:List Aw},es.length=ns.length->(es.zip ns).map (Ef ∘ λ(p:List Aw×Aw)=>((eY p.1,W.str p.2):List aB×W))=es.map eY:=by
  intro es
  induction es with
  | nil=>intro ns _;rfl
  | cons e es E=>
   intro ns h;cases ns with
   | nil=>cases h
   | cons n ns=>rw[Lz,Be,Be,E (by simpa using h)];rfl
 exact this f.len.symm
theorem zeJ(f:h9 rs):hV [] (h8 rs)=h8 rs:=by
 rw[L4]
 .simp
 .rw[Lj,L5 f,Hf,Mw];exact(Hf.mp zeA).imp λh e=>h (AQ e)
theorem zeK(f:h9 rs):((h8 rs).map λp=>p.2)=(rT rs).map W.str:=by
 unfold h8 pR;rw[Bm];have:∀{es:List (List Aw)} {ns:List Aw},es.length=ns.length->(es.zip ns).map ((λ(p:List aB×W)=>p.2) ∘ λ(p:List Aw×Aw)=>((eY p.1,W.str p.2):List aB×W))=ns.map W.str:=by
  intro es
  induction es with
  | nil=>intro ns h;cases ns with|nil=>rfl|cons _ _=>cases h
  | cons e es E=>
   intro ns h;cases ns with
   | nil=>cases h
   | cons n ns=>rw[Lz,Be,Be,E (by simpa using h)];rfl
 exact this f.len.symm
theorem rV(l:List Aw):(eY l).map wK=l.map W.str:=by
 unfold eY;rw[Bm];rfl
theorem zeL(f:h9 rs):((h8 rs).map λp=>W.tup (p.1.map wK))=(dR rs).map λe=>W.tup (e.map W.str):=by
 have e:((h8 rs).map λp=>W.tup (p.1.map wK))=((h8 rs).map Ef).map λk=>W.tup (k.map wK):=by rw[Bm];rfl
 rw[e,L5 f,Bm];exact Eg λl _=>by show W.tup ((eY l).map wK)=_;rw[rV]
def AU:a8:=λws M R=>∃rs:List aE,ws=[.rl (rs.map bE)]/\L3 rs/\aV (rs.map bE) M R
def AW:a8:=λws M R=>∃(old:List Aw) (n:Nat),ws=[.rl (old.map W.str),.int n]/\n+old.length<=400/\aV ((pQ old n).map W.str) M R
def vM:a8:=λws M R=>∃ps:List Aw,ws=[.tup (ps.map W.str)]/\ps.length<=1000/\R (zeG ps) M
def Gr(l:List (NP×W))(k:Nat)(p:Prop)(m:List (NP×W)):Prop:=m.length<=l.length+k/\(l≠[]\/p->m≠[])
structure jB(P:Ar)(w:Bk)(C:Aj)(M:Mm)(a d dx:Aj)(l:List (NP×W)):Prop where
 ob:M a=some (.ins C dx [("backs",.ref d)])
 di:M d=some (.dn P w [0] (kvsOf l))
def pT(P:Ar)(w:Bk)(C:Aj):a8:=λws M R=>∃a dx,ws=[.ref a]/\M a=some (.ins C dx [])/\∀d,M d=none->R .non (put (put M d (.dn P w [0] [])) a (.ins C dx [("backs",.ref d)]))
def mR(P:Ar)(w:Bk)(C:Aj):a8:=λws M R=>∃a d dx l,∃(x:NP) (v:W),ws=[.ref a,.str x.1,.tup (x.2.map W.str),v]/\jB P w C M a d dx l/\l.length<=100000/\∀m,Gr l 1 True m->R .non (put M d (.dn P w [0] (kvsOf m)))
def pU(P:Ar)(w:Bk)(C:Aj):a8:=λws M R=>∃a d dx l,ws=[.ref a]/\jB P w C M a d dx l/\∀p q,M p=none->M q=none->p≠q->R (.tup [.ref p,.ref q]) (put (put M p (.lst ((kvsOf l).map λz=>fD [0] z.1))) q (.lst ((kvsOf l).map λz=>z.2)))
def L6:a8:=λws M R=>∃rs:List aE,ws=[.rl (rs.map bE)]/\h9 rs/\aV ((dR rs).map λe=>W.tup (e.map W.str)) M R
def AX:a8:=λws M R=>∃(rs:List aE) (ps:List Aw),ws=[.tup (ps.map W.str),.dt (h8 rs)]/\h9 rs/\(2<ps.length->ps.drop 1∈dR rs)/\R (.tup ((mP rs ps).map W.str)) M
def oG(l:List (NP×W))(M:Mm)(R:K3):Prop:=∀p q,M p=none->M q=none->p≠q->R (.tup [.ref p,.ref q]) (put (put M p (.lst ((l.map λz=>mQ z.1).map bE))) q (.lst (l.map λz=>z.2)))
def AY:a8:=λws M R=>∃rs:List aE,ws=[.rl (rs.map bE)]/\h9 rs/\rs≠[]/\∀l,l≠[]->oG l M R
def L7(rs:List aE):Prop:=∀r∈rs,pG r.name/\∀t∈r.parts,Sh t
abbrev zeM:List Aw:=["rules","known","rule"]
abbrev zeN:aD:=
   (cI (bT (aG (eC false) (bU dH (aA aH aC)) bL))
    yK
    dA)
abbrev zeO:aD:=
   (aW 1 (bN (aZ iP (aA aH aC))))
abbrev zeP:aD:=
   (cE (aZ JX (aA a6 (aA aS aC))))
abbrev zeQ:aD:=
   (cL (bY cU aH) (a7 2) zeP)
abbrev zeR:aD:=
   (bS (bU tW (aA aH aC)))
abbrev zeS:aD:=(aF zeN (aF zeO (aF zeQ zeR)))
abbrev zeT:List Aw:=["old","count","taken","made","tried","name"]
abbrev zeU:aD:=
   (aW 2 (aZ lB (aA aH aC)))
abbrev zeV:aD:=
   (aW 3 (iL aC))
abbrev zeW:aD:=
   (aW 4 bL)
abbrev zeX:aD:=
   (aF (aW 5 (aG oA (aG oA (aG uY (vC (.str "M")) (aG dD bD (aG jK bG (vI 10000)))) (vC (.str "_"))) (bU yC (aA (aG gZ bG (vI 10000)) aC))))
   (aF (aW 4 (aG dD bG bD))
   (cI (bT (aG (cH true) c0 a6))
    (cE (eA "list" fJ bJ (aA c0 aC)))
    dA)))
abbrev zeY:aD:=
   (mE (bT (aG nN (bU dH (aA bJ aC)) aS)) zeX)
abbrev zeZ:aD:=
   (bS bJ)
abbrev ze0:aD:=(aF zeU (aF zeV (aF zeW (aF zeY zeZ))))
abbrev ze1:List Aw:=["parts"]
abbrev ze2:aD:=
   (bS (IX (bU dH (aA aH aC))))
abbrev ze3:List Aw:=["self"]
abbrev ze4(P:Ar)(w:Bk)(C:Aj):aD:=
   (i4 C aH "backs" (IT P w [0]))
abbrev ze5:List Aw:=["self","name","parts","pieces"]
abbrev ze6(P:Ar)(w:Bk)(C:Aj):aD:=
   (cE (IV P w [0] (cQ C aH "backs") (a9 (aA aS (aA a6 (aA bL aC)))) bJ))
abbrev ze7:List Aw:=["self"]
abbrev ze8(P:Ar)(w:Bk)(C:Aj):aD:=
   (bS (a9 (aA (bU (zM P w [0]) (aA (cQ C aH "backs") aC)) (aA (bU (zM P w [0]) (aA (IW P w [0] (cQ C aH "backs")) aC)) aC))))
abbrev ze9:List Aw:=["grammar","found","rule","k"]
abbrev zfa:aD:=
   (aW 1 mC)
abbrev zfb:aD:=
   (cL (GJ (aA bD (aA (aG kR (bU dH (aA (vX a6 bD) aC)) bD) aC))) (a7 3)
    (gM (vC (.bl true)) (iE aS (pB (vX a6 bD) (mB bJ) tV))))
abbrev zfc:aD:=
   (cL (bY cU aH) (a7 2) zfb)
abbrev zfd:aD:=
   (bS (bU IY (aA aS aC)))
abbrev zfe:aD:=(aF zfa (aF zfc zfd))
abbrev zff:List Aw:=["parts","made"]
abbrev zfg:aD:=
   (bS (xO (bT (aG FQ (bU dH (aA aH aC)) lR)) aH (a9 (aA (vX aH bL) (aA (vX aS (pB aH (mB bD) tV)) aC)))))
abbrev zfh:List Aw:=["grammar","ends","made","plain","number","rule","parts","end"]
abbrev zfi(P:Ar)(w:Bk)(C:Aj):aD:=
   (aW 1 (bN (aZ L6 (aA aH aC))))
abbrev zfj(P:Ar)(w:Bk)(C:Aj):aD:=
   (aW 2 (JB (aA aS (aA (bN (aZ AW (aA (bN (aZ iP (aA aH aC))) (aA (bU dH (aA aS aC)) aC)))) aC))))
abbrev zfk(P:Ar)(w:Bk)(C:Aj):aD:=
   (aW 3 (k9 C (pT P w C) aC))
abbrev zfl(P:Ar)(w:Bk)(C:Aj):aD:=
   (aF (aW 6 (aZ AX (aA (vX c0 bD) (aA a6 aC))))
   (cE (dU C "put_rule" (mR P w C) bJ (aA (vX c0 bL) (aA cS (aA (a9 (aA (a9 (aA bG (aA (aZ vM (aA cS aC)) aC))) aC)) aC))))))
abbrev zfm(P:Ar)(w:Bk)(C:Aj):aD:=
   (cL (uI (aA aH aC)) (gA 2 (cP (a7 4) (cP (a7 5) f9))) (zfl P w C))
abbrev zfn(P:Ar)(w:Bk)(C:Aj):aD:=
   (aF (aW 6 (aZ AX (aA cT (aA a6 aC))))
   (cE (dU C "put_rule" (mR P w C) bJ (aA (vX a6 cT) (aA cS (aA (aZ vM (aA cS aC)) aC))))))
abbrev zfo(P:Ar)(w:Bk)(C:Aj):aD:=
   (cL (bY cU aS) (a7 7) (zfn P w C))
abbrev zfp(P:Ar)(w:Bk)(C:Aj):aD:=
   (bS (dU C "grammar_and_backs" (pU P w C) bJ aC))
abbrev zfq(P:Ar)(w:Bk)(C:Aj):aD:=(aF (zfi P w C) (aF (zfj P w C) (aF (zfk P w C) (aF (zfm P w C) (aF (zfo P w C) (zfp P w C))))))
theorem zfr(h:AU ws M R):zeS (bA R) (bF zeM ws) M:=by
 obtain⟨rs,rfl,g,r⟩:=h;refine fW (λY=>?_) λ_=>⟨rs,rfl,g.few,aV.frz ?_⟩
 .have h:=Ux Y;rw[Ab]at h;exact g.ne (Gp.mp (Int.ofNat.inj h))
 refine dB (λi L V=>∃o,L=[some (.rl (rs.map bE)),some (.rl ((namesOf rs).map W.str)),o]/\V=M) ⟨_,rfl,rfl⟩ ?_ ?_
 .rintro i w L V hw ⟨o,rfl,rfl⟩;obtain⟨t,ht,rfl⟩:=Bc.mp (Ay hw);obtain⟨O,Z⟩:=g.ok t ht;exact⟨t,_,rfl,O,Z,_,aP,_,rfl,rfl⟩
 .rintro L V ⟨o,rfl,rfl⟩;exact λq N=>⟨_,aP,r q N⟩
theorem AZ:Ce ("backs" : Aw) [(("backs" : Aw),W.ref d)]=some (.ref d):=by rw[Dx,beq_self_eq_true]
theorem L8:Hy ("M" : Aw) 1 = "M":=by decide +kernel
theorem zfs(h:AW ws M R):ze0 (bA R) (bF zeT ws) M:=by
 obtain⟨old,n,rfl,hl,r⟩:=h;refine⟨old,rfl,by lia,λp B=>?_⟩;refine⟨λm L V=>∃t o,m=n+old.length-t/\t<=n+old.length/\(hZ old t).length<=n/\L=[some (.rl (old.map W.str)),some (.int n),some (.dk ((old.foldl dE []).map cD)),some (.ref p),some (.int (t:Nat)),o]/\V=put M p (.lst ((hZ old t).map W.str)),⟨_,0,none,rfl,Ea _,Ea _,rfl,rfl⟩,?_⟩;rintro m L V ⟨t,o,rfl,ht,j,rfl,rfl⟩;have tl:=LV old t (Fl ht (Fl hl (by decide)));refine .inl ⟨_,aL,fW (λhc=>?_) λhc=>?_⟩
 .have hc:(hZ old t).length<n:=by have:=Ux hc;rw[Ab]at this;lia
  have T:(t:Int)/10000=0:=Int.ediv_eq_zero_of_lt (by lia) (by lia);have G:(t:Int) % 10000=t:=Int.emod_eq_of_lt (by lia) (by lia);have en:(Hy ("M" : Aw) (1+(t:Int)/10000)++"_"++Bv (toString ((t:Int) % 10000)))=fF t:=by
   rw[T,G,show((1:Int)+0)=1 from rfl,L8];rfl
  have f:("M" : Aw).length=1:=by decide +kernel
  have E:("_" : Aw).length=1:=by decide +kernel
  have c:(Bv (toString ((t:Int) % 10000))).length<=10:=by rw[G];exact Od (by lia) (by lia)
  have b:(Hy ("M" : Aw) (1+(t:Int)/10000)).length=1:=by rw[T,show((1:Int)+0)=1 from rfl,L8];exact f
  refine⟨⟨by decide,by decide⟩,("M" : Aw),1+(t:Int)/10000,rfl,rfl,by lia,by lia,by lia,_,_,rfl,rfl,small (by lia),(by decide:(0:Int)<10000),HR (Fj _ (by decide)) (Eo _ (by decide)),_,_,rfl,rfl,small (by rw[Ls];lia),?_⟩;rw[en];have a:decide (fF t∈old.foldl dE [])=decide (fF t∈old):=by
   rw[Dy,decide_eq_true_eq,decide_eq_true_eq,uL];simp
  have ts:=LU old t;refine⟨_,⟨Sum.inr (fF t),rfl,rfl⟩,?_⟩;show if (!(aT ((old.foldl dE []).map cD) (Sum.inr (fF t):aB)).isSome)=true then _ else _;rw[rS,a];refine fW (λJ=>?_) λJ=>?_
  .have J:fF t∉old:=λz=>by rw[Uy z]at J;cases J
   rw[Uv J]at ts;refine⟨.inl ⟨rfl,_,aL⟩,_,aL,dJ (by rw[Ab];lia),_,_,?_,aP,t+1,_,rfl,by lia,by rw[ts,Ak,Cf];lia,rfl,?_⟩
   .lia
   .rw[c9,ts,Az];rfl
  .have J:fF t∈old:=Ux (by rw[<-Ie (decide _),J];rfl);rw[Uw J]at ts;exact⟨_,_,by lia,aP,t+1,_,rfl,by lia,by rw[ts];exact j,rfl,by rw[ts]⟩
 .have hc:¬(hZ old t).length<n:=λz=>by have:=of_decide_eq_false hc;rw[Ab]at this;lia
  have e:=zeE (old:=old) (n:=n) (t:=t) (by lia) ht;rw[e];exact⟨_,aP,r p B⟩
theorem zft(h:vM ws M R):ze2 (bA R) (bF ze1 ws) M:=by
 obtain⟨ps,rfl,hl,r⟩:=h;exact⟨ps.length,by rw[Ab],hl,_,aP,r⟩
theorem zfu(h:pT P w C ws M R):ze4 P w C (bA R) (bF ze3 ws) M:=by
 obtain⟨a,dx,rfl,l,r⟩:=h;refine λd hd=>?_;have G:a≠d:=λe=>by subst e;rw[l]at hd;cases hd
 exact⟨a,dx,[],rfl,by rw[aM G];exact l,by decide,_,aP,r d hd⟩
theorem zfv(h:mR P w C ws M R):ze6 P w C (bA R) (bF ze5 ws) M:=by
 obtain⟨a,d,dx,l,x,v,rfl,i,hl,r⟩:=h;have r:=r (vK l (x,v)) (by
  unfold vK;split
  .rename_i h;exact⟨Fz _,λ_ e=>by rw[e]at h;cases h⟩
  .exact⟨by rw[Ak];exact Ai _,λ_ e=>by cases l<;>cases e⟩)
 refine⟨a,dx,_,.ref d,rfl,i.ob,AZ,⟨d,_,rfl,i.di⟩,d,_,j9 x,rfl,i.di,?_,by unfold kvsOf;rw[Ab];exact dJ (by lia),?_,?_⟩
 .unfold fD j9;simp[wK,Ku]
 .intro E e;rcases L1 l x with⟨O,_⟩|⟨_,Z⟩
  .rw[O]at e;cases e
  .unfold vK at r;rw[Uw Z,xK i.di]at r;exact⟨_,aP,r⟩
 .intro e;rcases L1 l x with⟨_,Z⟩|⟨⟨E,O⟩,_⟩
  .unfold vK at r;rw[Uv Z]at r;unfold kvsOf at r;rw[Az]at r;exact⟨_,aP,r⟩
  .rw[O]at e;cases e
theorem zfw(h:pU P w C ws M R):ze8 P w C (bA R) (bF ze7 ws) M:=by
 obtain⟨a,d,dx,l,rfl,i,r⟩:=h;refine⟨a,dx,_,.ref d,rfl,i.ob,AZ,.inl ⟨_,i.di,λp B=>?_⟩⟩;have t:∀{c:Aj} {o:MO},M c=some o->c≠p:=λhc e=>by rw[e,B]at hc;cases hc
 refine⟨a,dx,_,.ref d,rfl,by rw[aM (t i.ob)];exact i.ob,AZ,d,_,rfl,by rw[aM (t i.di)];exact i.di,λv m=>?_⟩;have g:v≠p:=λe=>by rw[e,aL]at m;cases m
 rw[aM g]at m;have j:∀{c:Aj} {o:MO},M c=some o->c≠v:=λhc e=>by rw[e,m]at hc;cases hc
 refine .inr ⟨d,_,aL,by rw[aM (j i.di),aM (t i.di)];exact i.di,λq N=>?_⟩;have qv:q≠v:=λe=>by rw[e,aL]at N;cases N
 rw[aM qv]at N;have f:q≠p:=λe=>by rw[e,aL]at N;cases N
 have b:=N;rw[aM f]at b;exact⟨_,Sub.put (Sub.new (by rw[aM g];exact m)),r p q B b (Bq f)⟩
def jC(e:List Aw):List aB×W:=(eY e,.bl true)
theorem zfx(acc:List (List Aw))(e:List Aw):bZ (acc.map jC) (eY e) (.bl true)=(i9 acc e).map jC:=by
 unfold bZ i9;have h:((acc.map jC).any λg=>decide (g.1=eY e))=decide (e∈acc):=by
  rw[Lw,Dy,Ge,decide_eq_true_eq];constructor
  .rintro⟨x,S,h⟩;have:=AQ (Ux h);rw[<-this];exact S
  .intro h;exact⟨e,h,by simp[jC]⟩
 rw[h]
 by_cases h:e∈acc
 .rw[Uw (Uy h),Uw h,Bm];refine Eg λu J=>?_;show(if (jC u).1=eY e then((jC u).1,W.bl true) else jC u)=jC u
  by_cases hh:(jC u).1=eY e
  .rw[Uw hh];rfl
  .rw[Uv hh]
 .rw[Uv (by simpa using h),Uv h,Az];rfl
theorem zfy{rs:List aE}{i:Nat}{r:aE}(h:rs[i]? = some r):mO (rs.take (i+1))=mO (rs.take i)++gS r.parts:=by
 unfold mO;rw[Bw,h,Az,List.flatten_append];simp
theorem L9{O:Type}[DecidableEq O](acc a b:List O):jA acc (a++b)=jA (jA acc a) b:=Iu
theorem zfz{rs:List aE}{i:Nat}{r:aE}(h:rs[i]? = some r):dR (rs.take (i+1))=jA (dR (rs.take i)) (gS r.parts):=by
 unfold dR;rw[zfy h,L9]
theorem zfA{j:Nat}(h:j<ps.length-2):(gS ps).take (j+1)=(gS ps).take j++[ps.drop (j+1)]:=by
 have:(gS ps)[j]? = some (ps.drop (j+1)):=by
  unfold gS;rw[Ap,Lr h];rfl
 rw[Bw,this];rfl
theorem h9.take(f:h9 rs)(i:Nat):h9 (rs.take i):=⟨by rw[Ca];have:=f.few;lia,λr g=>f.prt r (Lf g)⟩
theorem MA{k:Nat}(h:k<=ws.length):eE ws (some (k:Int)) none=ws.drop k:=by
 unfold eE;have T:HT.sIx ws.length 0 (some (k:Int))=k:=by
  rw[HT.sIx_nat];lia
 have G:HT.sIx ws.length ws.length none=ws.length:=rfl;rw[T,G,Ko (by rw[He];exact Ai _)]
theorem zfB(h:AX ws M R):zfg (bA R) (bF zff ws) M:=by
 obtain⟨rs,ps,rfl,f,P,r⟩:=h;unfold mP at r;have el:((ps.map W.str).length:Int)<=2↔ps.length<=2:=by rw[Ab];lia
 refine fW (λh=>?_) λh=>?_
 .rw[Uw (el.mp (Ux h))]at r;exact⟨_,aP,r⟩
 .have hl:¬ps.length<=2:=λz=>of_decide_eq_false h (el.mpr z);rw[Uv hl]at r;cases ps with
  | nil=>simp at hl
  | cons x ps=>
   have J:=P (by lia);have d:(1:Int)=((1:Nat):Int):=rfl;refine so.of (uF _ _) ⟨λS=>?_,_,⟨eY ps,?_,(LZ f J).1.symm⟩,_,aP,r⟩
   .have O:=S.1;rw[d,HT.sIx_nat]at O;simp at O
   .rw[d,MA (by simp),rV];rfl
theorem zfC{ws:List W}{M:Mm}{R:K3}(h:L6 ws M R):zfe (bA R) (bF ze9 ws) M:=by
 obtain⟨rs,rfl,f,r⟩:=h;refine λp B=>dB (λi L V=>∃c T,L=[some (.rl (rs.map bE)),some (.ref p),c,T]/\V=put M p (.dT ((dR (rs.take i)).map jC))) ⟨_,_,rfl,rfl⟩ ?_ ?_
 .rintro i w L V hw ⟨c,T,rfl,rfl⟩;rw[Ap]at hw;obtain⟨q,N,rfl⟩:=Ax.mp hw;have J:q∈rs:=Ay N;have h4:=f.prt q J;have hi:i<rs.length:=(An.mp N).1;have k:=f.few;have o:=LR (f.take i).prt;rw[Ca]at o;have t:(q.parts.map W.str).length=q.parts.length:=Ab ..;refine⟨1,_,rfl,⟨by decide,by decide,by lia,by lia⟩,?_⟩;have n:(((q.parts.map W.str).length:Int)-1-1).toNat=q.parts.length-2:=by lia
  rw[n];refine dB (λj L V=>∃T,L=[some (.rl (rs.map bE)),some (.ref p),some (bE q),T]/\V=put M p (.dT ((jA (dR (rs.take i)) ((gS q.parts).take j)).map jC))) ⟨_,rfl,rfl⟩ ?_ ?_
  .rintro j w L V hw ⟨T,rfl,rfl⟩;unfold iO at hw;rw[Ap]at hw;obtain⟨g,D,rfl⟩:=Ax.mp hw;have b:j<q.parts.length-2:=by have:=(An.mp D).1;simpa using this
   obtain rfl:g=j:=by rw[Lr b]at D;exact(Ci D).symm
   have d:((1:Int)+(g:Int))=((g+1:Nat):Int):=by lia
   rw[d];refine⟨λS=>?_,?_⟩
   .rw[HT.sIx_nat]at S;have:=S.1;lia
   .rw[MA (by lia),<-Rr,<-rV];have s:=AK (ts:=(gS q.parts).take g) (acc:=dR (rs.take i));have m:=List.length_take_le g (gS q.parts);refine pD aL (by rw[Ab];exact dJ (by lia)) ⟨_,aP,_,rfl,?_⟩;rw[c9,zfx,zfA b,L9];rfl
  .rintro L V ⟨T,rfl,rfl⟩;refine⟨_,aP,_,_,rfl,?_⟩;have:(iO 1 (q.parts.length-2)).length=(gS q.parts).length:=by unfold iO gS;simp
   rw[this,Br,zfz N]
 .rintro L V ⟨c,T,rfl,rfl⟩;rw[Ab,Br];refine⟨_,aL,λq N=>?_⟩;have a:q≠p:=λe=>by subst e;rw[aL]at N;cases N
  rw[aM a]at N;refine⟨_,?_,r q N⟩;rw[Bm];have e:(dR rs).map ((λ(p:List aB×W)=>W.tup (p.1.map wK)) ∘ jC)=(dR rs).map λe=>W.tup (e.map W.str):=Eg λl _=>by show W.tup ((eY l).map wK)=_;rw[rV]
  rw[e];exact Sub.put (Sub.new B)
def Bt(P:Ar)(w:Bk)(C:Aj)(M:Mm)(a d dx:Aj)(l:List (NP×W)):Mm:=put (put M a (.ins C dx [("backs",.ref d)])) d (.dn P w [0] (kvsOf l))
theorem Bt.pl(h:a≠d):jB P w C (Bt P w C M a d dx l) a d dx l:=⟨by unfold Bt;rw[aM h,aL],aL⟩
theorem Bt.sub(S:M a=none)(hd:M d=none)(h:a≠d):Sub M (Bt P w C M a d dx l):=(Sub.new S).trans (Sub.new (by rw[aM (Bq h)];exact hd))
theorem Bt.put:L2.put (Bt P w C M a d dx l) d (.dn P w [0] (kvsOf m))=Bt P w C M a d dx m:=c9
theorem Bt.first(h:a≠d):L2.put (L2.put (L2.put M a o) d (.dn P w [0] [])) a (.ins C dx [("backs",.ref d)])=Bt P w C M a d dx []:=by
 unfold Bt kvsOf;rw[qK (Bq h),c9];rfl
theorem mS:Ce ("put_rule" : Aw) [(("backs" : Aw),W.ref d)]=none:=by
 rw[Dx,show(("put_rule" : Aw)==("backs" : Aw))=false by decide +kernel];rfl
theorem rW:Ce ("grammar_and_backs" : Aw) [(("backs" : Aw),W.ref d)]=none:=by
 rw[Dx,show(("grammar_and_backs" : Aw)==("backs" : Aw))=false by decide +kernel];rfl
theorem A1(S:M a=none)(hd:M d=none)(k:a≠d)(r:oG l M R)(p q:Aj)(B:Bt P w c M a d dx l p=none)(N:Bt P w c M a d dx l q=none)(ne:p≠q):∃u,L2.Sub u (put (put (Bt P w c M a d dx l) p (.lst ((kvsOf l).map λz=>fD [0] z.1))) q (.lst ((kvsOf l).map λz=>z.2)))/\R (.tup [.ref p,.ref q]) u:=by
 have sb:=Bt.sub (P:=P) (w:=w) (C:=c) (dx:=dx) (l:=l) S hd k;have t:∀{x:Aj},Bt P w c M a d dx l x=none->M x=none:=λ{x} h=>by
  cases e:M x with
  | none=>rfl
  | some o=>rw[sb x o e]at h;cases h
 refine⟨_,?_,r p q (t B) (t N) ne⟩;have T:((kvsOf l).map λz=>fD [0] z.1)=(l.map λz=>mQ z.1).map bE:=by
  unfold kvsOf;rw[Bm,Bm];exact Eg λz _=>AR z.1
 have G:((kvsOf l).map λz=>z.2)=l.map λz=>z.2:=by unfold kvsOf;rw[Bm];rfl
 rw[T,G];exact Sub.put (Sub.put sb)
theorem zfD(h:AY ws M R):zfq P w C (bA R) (bF zfh ws) M:=by
 obtain⟨rs,rfl,f,G,r⟩:=h;have hf:=f.few;have b:=f.sum;refine⟨rs,rfl,f,aV.frz ⟨rs,rfl,by lia,aV.frz ⟨namesOf rs,(dR rs).length,by rw[Ab],by lia,aV.frz ⟨h8 rs,by rw[zeL f,zeK f];rfl,?_⟩⟩⟩⟩;rw[zeJ f];refine λa dx S x _=>⟨a,dx,rfl,aL,λd hd=>⟨rfl,?_⟩⟩
 have k:a≠d:=λe=>by rw[<-e,aL]at hd;cases hd
 rw[aM (Bq k)]at hd;rw[Bt.first k];generalize t:(dR rs).map (λe=>W.tup (e.map W.str))=E;refine dB (λi L V=>∃l A X Q,L=[some (.rl (rs.map bE)),some (.rl E),some (.dt (h8 rs)),some (.ref a),A,X,Q,none]/\V=Bt P w C M a d dx l/\l.length<=i/\(0<i->l≠[])) ⟨[],_,_,_,rfl,rfl,Ai _,λh=>absurd h (by decide)⟩ ?_ ?_
 .rintro i v L V hw ⟨l,A,X,Q,rfl,rfl,hl,_⟩;rw[qT,Ap,Option.map_map]at hw;obtain⟨q,N,rfl⟩:=Ax.mp hw;have Z:=L0 rs q.parts;have hi:i<rs.length:=(An.mp N).1;exact⟨rfl,rfl,rs,q.parts,rfl,f,zey (Ay N),a,dx,_,rfl,(Bt.pl k).ob,mS,mP rs q.parts,rfl,by lia,a,d,dx,l,(q.name,mP rs q.parts),_,rfl,Bt.pl k,by lia,λm g=>⟨_,aP,m,_,_,_,rfl,Bt.put,by have:=g.1;lia,λ_=>g.2 (.inr trivial)⟩⟩
 .rintro L V ⟨c,A,X,Q,rfl,rfl,F,U⟩;rw[kU,Ab]at F U;have U:=U (Lq.mpr G);refine dB (λi L V=>∃l A X Q o,L=[some (.rl (rs.map bE)),some (.rl E),some (.dt (h8 rs)),some (.ref a),A,X,Q,o]/\V=Bt P w C M a d dx l/\l.length<=rs.length+i/\l≠[]) ⟨c,_,_,_,_,rfl,rfl,F,U⟩ ?_ ?_
  .rintro i v L V hw ⟨l,A,X,Q,o,rfl,rfl,hl,_⟩;rw[<-t,Ap]at hw;obtain⟨e,n,rfl⟩:=Ax.mp hw;have J:e∈dR rs:=Ay n;have Z:=L0 rs e;have hi:i<(dR rs).length:=(An.mp n).1;exact⟨rs,e,rfl,f,zez J,a,dx,_,rfl,(Bt.pl k).ob,mS,.str (oF rs e),⟨eY e,by rw[rV],(LZ f J).1.symm⟩,mP rs e,rfl,by lia,a,d,dx,l,(oF rs e,mP rs e),_,rfl,Bt.pl k,by lia,λm g=>⟨_,aP,m,_,_,_,_,rfl,Bt.put,by have:=g.1;lia,g.2 (.inr trivial)⟩⟩
  .rintro L V ⟨l,A,X,Q,o,rfl,rfl,_,hl⟩;exact⟨a,dx,_,rfl,(Bt.pl k).ob,rW,a,d,dx,l,rfl,Bt.pl k,λp q B N ne=>A1 S hd k (r l hl) p q B N ne⟩
theorem kA{ps:List Aw}{M:Mm}(h:∀t∈ps,Sh t):Pl 2 (cV M (.tup (ps.map W.str))):=λw hw=>by
 obtain⟨t,ht,rfl⟩:=Bc.mp hw;exact y7 (h t ht).asc
section
variable {X:Cx}{pos:Gy}{a b:Cb}{ta tb te:aR}
theorem fG{i:Nat}(hi:X.N[i]? = some x:=by rfl)(S:Loc X.env.scope x:=by first|exact .inl rfl|exact .inr rfl)(Z:X.N.Nodup:=by exact Ux (by kernel_rfl))(hf:Fy X x:=by first|exact .inl rfl|exact .inr rfl|assumption):PG X (.Name x pos) (g9 X.K (a7 i)):=t6 Z hi S hf
variable {tg iter elt:Cb}{ifs:List Cb}{sc:Jp}{wi:gB}{g:eJ}{tt:cR}
end
theorem rX(a:sc.kind=.function:=by rfl)(b:sc.isCoroutine=false:=by rfl)(c:sc.isGenerator=false:=by rfl)(d:N.Nodup:=by decide +kernel)(e:N.take ps.length=ps:=by rfl)(f:∀x∈ps,sc.names.lookup x=some .local\/sc.names.lookup x=some .cell:=by decide +kernel)(g:∀y∈sc.names,y.2≠.free:=by decide +kernel):lK N ps sc:=⟨a,b,c,d,e,f,g⟩
theorem MB{C:List Ae->Prop}(h:C [])(us:List Ae)(e:us.length=0):C us:=by rw[Gp.mp e];exact h
theorem rY{C:List Ae->Prop}{n:Nat}(k:∀a us,us.length=n->C (a::us)):∀us:List Ae,us.length=n+1->C us
 | a::l,e=>k a l (Nat.succ.inj e)
theorem vN{C:List Ae->Prop}(h:∀a,C [a]):∀us:List Ae,us.length=1->C us:=rY λa=>MB (h a)
theorem vO{C:List Ae->Prop}(h:∀a b,C [a,b]):∀us:List Ae,us.length=2->C us:=rY λa=>vN (h a)
theorem vP{C:List Ae->Prop}(h:∀a b c,C [a,b,c]):∀us:List Ae,us.length=3->C us:=rY λa=>vO (h a)
theorem vQ{C:List Ae->Prop}(h:∀a b c d,C [a,b,c,d]):∀us:List Ae,us.length=4->C us:=rY λa=>vP (h a)
theorem A2{C:List Ae->Prop}(h:∀a b c d e,C [a,b,c,d,e]):∀us:List Ae,us.length=5->C us:=rY λa=>vQ (h a)
def A4(x q:Aw)(st:Gn)(ps:List Aw):Prop:=∀(kV doc pm:Ae) (an:Option Aj) (cdv ct:Ae) (us:List Ae),us.length=ps.length->bindArgs (Fh x q (iR st) (fX st) (dN st) .none kV doc pm an cdv ct) ⟨us,[]⟩=pure (ps.zip us)
section
variable {K:Ac}{mg:Aw->Option Ae}{h:Cr}{x q:Aw}{st:Gn}{C f:Aj}{ps:List Aw}{an:Option Aj}{kV doc pm cdv ct:Ae}
theorem dF(X:K.In h)(G:h.Ns Dw mg)(Y:A4 x x st ps:=by first|exact λ_ _ _ _ _ _=>vN λ_=>rfl|exact λ_ _ _ _ _ _=>vO λ_ _=>rfl|exact λ_ _ _ _ _ _=>vP λ_ _ _=>rfl|exact λ_ _ _ _ _ _=>vQ λ_ _ _ _=>rfl|exact λ_ _ _ _ _ _=>A2 λ_ _ _ _ _=>rfl|exact λ_ _ _ _ _ _=>ar6 λ_ _ _ _ _ _=>rfl|exact λ_ _ _ _ _ _=>ar7 λ_ _ _ _ _ _ _=>rfl|exact λ_ _ _ _ _ _=>MB rfl)(n:Rj K Dw x=some (some (.ref f)):=by kernel_rfl)(l:K.lookup f=some ⟨.type "function",none,.func (Fh x x (iR st) (fX st) (dN st) .none kV doc pm an cdv ct),#[]⟩:=by kernel_rfl)(c:Ke K cdv x=true:=by kernel_rfl)(k:Em K (.ref f)=true:=by kernel_rfl):Df K mg x st ps f (Fh x x (iR st) (fX st) (dN st) .none kV doc pm an cdv ct):=⟨oQ l c k,Jj X G n,(oQ l c k).binds Y⟩
theorem dM(Y:A4 x q st ps:=by first|exact λ_ _ _ _ _ _=>vN λ_=>rfl|exact λ_ _ _ _ _ _=>vO λ_ _=>rfl|exact λ_ _ _ _ _ _=>vP λ_ _ _=>rfl|exact λ_ _ _ _ _ _=>vQ λ_ _ _ _=>rfl|exact λ_ _ _ _ _ _=>A2 λ_ _ _ _ _=>rfl)(a:Fe K (.ref C) x=some (some (.ref f)):=by kernel_rfl)(n:Nd K (.ref f)=true:=by kernel_rfl)(l:K.lookup f=some ⟨.type "function",none,.func (Fh x q (iR st) (fX st) (dN st) .none kV doc pm an cdv ct),#[]⟩:=by kernel_rfl)(c:Ke K cdv q=true:=by kernel_rfl)(k:Em K (.ref f)=true:=by kernel_rfl):Dm K C x q st ps f (Fh x q (iR st) (fX st) (dN st) .none kV doc pm an cdv ct):=⟨oQ l c k,⟨a,n,k⟩,(oQ l c k).binds Y⟩
theorem dI(Y:A4 x q st ps:=by first|exact λ_ _ _ _ _ _=>vN λ_=>rfl|exact λ_ _ _ _ _ _=>vO λ_ _=>rfl|exact λ_ _ _ _ _ _=>vP λ_ _ _=>rfl|exact λ_ _ _ _ _ _=>vQ λ_ _ _ _=>rfl|exact λ_ _ _ _ _ _=>A2 λ_ _ _ _ _=>rfl)(m:Qb K C=true:=by kernel_rfl)(a:Fe K (.ref C) "__init__" = some (some (.ref f)):=by kernel_rfl)(n:Nd K (.ref f)=true:=by kernel_rfl)(d:Em K (.ref C)=true:=by kernel_rfl)(l:K.lookup f=some ⟨.type "function",none,.func (Fh x q (iR st) (fX st) (dN st) .none kV doc pm an cdv ct),#[]⟩:=by kernel_rfl)(c:Ke K cdv q=true:=by kernel_rfl)(k:Em K (.ref f)=true:=by kernel_rfl):Di K C x q st ps f (Fh x q (iR st) (fX st) (dN st) .none kV doc pm an cdv ct):=⟨oQ l c k,⟨m,a,n,d⟩,(oQ l c k).binds Y⟩
variable {P:Ar}{w:Bk}{base:Cr}{fd:Dz}{N:List Aw}{k:Nat}{sp:a8}{rd:aD}
theorem A5(P:Ar)(w:Bk)(mg:Aw->Option Ae)(base:Cr)(k:Nat)(F:iV K x q st f fd)(_:Binds K fd ps [])(S:lK N ps (dN st))(c:∀{ws M R},sp ws M R->rd (bA R) (bF N ws) M)(d:∀{cdv:Ae} {A:Cn} {outer:List PySem.Env} {s:Ah} {H:Hp} {E:XK},cC k (A.deeper (Lp q (dN st) s.heap.objs.size f cdv))->(A.deeper (Lp q (dN st) s.heap.objs.size f cdv)).units+1<Ex->N.Nodup->jL (cZ eS P w K mg base N q (dN st) f cdv A outer s H E).nox (fX st) rd)(len:∀ws M R,sp ws M R->ws.length=ps.length:=by intro _ _ _ h;repeat (first|(obtain⟨rfl,_⟩:=h;exact rfl)|obtain⟨_,h⟩:=h)):e8 P w K mg base eS (k+1) f fd ps (eW K sp):=
 YZ F S len λ_ _ _ _ _ _ _ _ _ g h=>⟨rd,d g (wW g) S.nd,c h⟩
end
section
variable {X:Cx}{pos p:Gy}{x:Aw}{st:Gn}{e:Cb}{es:List Cb}{t:cN}{k j:Nat}{f:Aj}{fd:Dz}{ps:List Aw}{sp:a8}
theorem bX(F:X.f eS k f fd ps (eW X.K sp))(D:Df X.K X.mg x st ps f fd)(g:cC j X.A)(l:A3 X (e::es) t)(Y:k<=j:=by decide)(Z:Gl X x:=by rfl)(o:Db x:=by decide)(P:Se X e es:=by rfl)(b:Sb X pos es:=by rfl):
  E3 X (.Call (.Name x p) (e::es) [] pos) (aZ sp t):=WZ F (g.mono Y) Z D.at_ D.fn.kp D.bi l o P b
end
section
variable {X:Cx}
def zfE(tk O:TE):TE:=λm H Q=>∀p,H p=none->sU [(tk,O)] m (aN H p (.dT [])) λps z=>∃(b:Aj) (y:V) (k:List aB),ps=[(.ref b,y)]/\z p=some (.dT [])/\z b=some (.tup (k.map kV))/\Q (.ref p) (aN z p (.dT [(k,y)]))
theorem zfF{k v:Cb}{tk tv:TE}{pos:Gy}(hu:X.A.units+1<Ex)(hk:PE X k tk)(hv:PE X v tv):PE X (.Dict [some k] [v] pos) (zfE tk tv):=by
 intro pins s Z H Q I q;have hn:=I.hok.fresh (Ai s.heap.objs.size);have I1:=I.laid (a:=s.heap.objs.size) (o:=.dT []) (h':=s.heap.push {cls:=.type "dict",data:=.dict #[]}) (t':=s.toks) (λ_ _ q=>Ag _ q) (Ai _) (DO s.heap I.big);refine wpAny_Dict_any rfl rfl (λh=>nomatch h) (by decide:1<=15) (aY (DQ hk hv DP pins _ Z _ _ I1 (q _ hn)) λws s2 ⟨ps,H2,I2,rel,b,y,k,ep,e,eb,q2⟩=>?_);subst ep;cases rel with
 | @cons a1 b1 _ _ r1 r2=>
  cases r2;obtain⟨u1,u2⟩:=b1;obtain⟨ru,rv⟩:=r1;cases (show u1=Value.ref b from ru);obtain⟨z,hd,xs,rel,dd⟩:=qE I2.hok e;cases rel;unfold storeAll;rw[Ii];refine Aa (Aa (Qp (hsz:=Ea _) (Kt hu) (iK I2.hok eb) dd λh' dd' hs=>Af ?_));show Bl _ _ (pure PUnit.unit) _ _ _;refine Af ⟨.ref _,_,?_,rfl,q2⟩;obtain⟨q,es,ep,hq,h2,h3,h4,_,h5⟩:=dd';refine nB I2 (by rw[e];exact True.intro) hs ⟨q,hq⟩ ⟨show 1<=Ao by decide,hd,_,((show KT H2 [] [] from .nil).put k eb rv).keeps λc ys ec=>?_,q,es,ep,hq,h2,h3,h4,h5⟩;rw[bB (sD ec e (λz=>nomatch z))];exact ec
end
section
variable {X:Cx}{a b:Cb}{ta tb:aR}{pos p:Gy}
abbrev MC(ta tb:aR):aR:=λL M R=>∀p,M p=none->ta L (put M p (.dT [])) λx I=>tb L I λy v=>v p=some (.dT [])/\∃k:List aB,x=.tup (k.map wK)/\R (.ref p) (put v p (.dT [(k,y)]))
theorem zfG(J:X.A.units+1<Ex)(l:E3 X a ta)(Y:E3 X b tb):E3 X (.Dict [some a] [b] pos) (MC ta tb):=
 (zfF J l Y).weak λm H Q s=>s.el λL M R C U h k=>λp B=>by
  obtain⟨g,k0⟩:=U.laid (o:=.dT []) (u:=.dT []) B ⟨[],b8,.nil⟩;refine⟨L,_,_,C.kp U k0,g,h p (U.nonM B),λx G F I k1 P N O=>⟨L,I,_,(C.kp U k0).kp g k1,P,O,λy z S v k2 E t ⟨e,j,ex,r⟩=>?_⟩⟩;subst ex;obtain⟨ks,f,q⟩:=E _ _ e;cases q;have n:=N.kp P k2;exact n.tupE λc xs d w i=>by
   obtain⟨W,k3⟩:=E.write (o:=.dT [(j,S)]) (u:=.dT [(j,y)]) e ⟨_,b8,.cons ⟨rfl,t.wr E e⟩ .nil⟩;exact⟨c,y,j,by rw[d],f,by rw[<-i.keys];exact w,k _ _ _ _ (((k0.trans k1).trans k2).trans k3) W (.ref _) r⟩
variable {x:Aw}{e:Cb}{es:List Cb}{t:cN}{k j i:Nat}{f:Aj}{fd:Dz}{ps:List Aw}{sp:a8}
abbrev A6(i:Nat)(f:Aj)(sp:a8)(t:cN):aR:=λL M R=>L[i]? = some (some (.ref f))/\aZ sp t L M R
theorem MD(ef:g=f)(F:X.f eS k f fd ps (eW X.K sp))(d:cC j X.A)(hk:Em X.K (.ref f)=true)(Y:Binds X.K fd ps [])(l:A3 X (e::es) t)(D:k<=j:=by decide)(a:X.N[i]? = some x:=by rfl)(S:sF X.env.scope x:=by first|exact Or.inl rfl|exact Or.inr (Or.inl rfl)|exact Or.inr (Or.inr rfl))(hd:Db x:=by decide)(y:(x==("__classdict__" : Aw))=false:=by decide)(P:Se X e es:=by rfl)(b:Sb X pos es:=by rfl):
  E3 X (.Call (.Name x p) (e::es) [] pos) (A6 i g sp t):=by
 subst ef;intro C s m H Q I ⟨L,M,R,B,U,⟨O,h⟩,o⟩;have gc:=FH (K:=X.K) ⟨L,M,R,B,U,h,o⟩;obtain⟨v,T,av⟩:=B.get O;refine Dv (aY (B7 (pos:=p) a S hd y C s m H (λw c=>w=.ref g/\c=H) I ⟨v,T,av.inv,rfl⟩) λu W ⟨w,G,n,E,J,eH⟩=>?_);subst J eH;cases E;exact Jq (h₀:=X.base) n.ok.mod.kin hk (aY (l pos C W m G _ n gc) λus V ⟨vs,z,Z,r,q⟩=>⟨Z.kIn,sN F (d.mono D) Y .nil oP Z r q⟩) P b
theorem ME{g f:Aj}{fd:Dz}{ps:List Aw}{x:Aw}{pos:Gy}{st:Gn}(a:g=f)(D:Df X.K X.mg x st ps f fd)(Z:Gl X x:=by rfl)(hd:Db x:=by decide):E3 X (.Name x pos) (vC (.ref g)):=by
 subst a;exact oT (y:=.ref g) Z D.at_ rfl (λ_ _=>.ref _) hd
end
end L2
namespace PySem
namespace Et
open L2
section
variable {prog:Ar}{w:Bk}{A:Cn}{E:Ae->Ah->Prop}{s:Ah}
theorem draws(hh:A.handled=none)(it l:Aj)(G:l≠it)(items:Array Ae):Draws prog w A it [it,l] items.size (λi v=>items[i]? = some v) (λi h=>h.IsTupleIter it l i/\h.IsTuple l items) where
 live:=λ_ _ st=>let ⟨o,ho,_⟩:=st.1;⟨o,ho⟩
 frame:=λk h h' st hk=>(Zt.side_tuple (prog:=prog) (w:=w) it l G items).keep k h h' st λc hc o e=>hk c (by rcases hc with rfl|rfl<;>simp) o e
 item:=λi s Q E hi st H=>(Zt.side_tuple it l G items).item A E s i items[i] Q st (by simp[hi]) λh' a b=>H _ h' s.toks (by simp[hi]) a b
 done:=λs Q E st d=>(Zt.side_tuple it l G items).stop A E s _ Q hh st (by simp) d
theorem zfH(l:Aj)(items:Array Ae)(n:Nat)(a:Option Aj)(sl:Array (Option Ae)):
  Meets (Gg.«enumerate.__new__» ⟨[.type "enumerate",.ref l],[]⟩) (λ_ R s=>s.heap.get? l=some {cls:=.type "tuple",dict:=a,data:=.seq items n,slots:=sl}/\
   R (.ok (.ret (.ref (s.heap.push {cls:=.type "tuple_iterator",data:=.fields #[.ref l,.int 0 0]}).objs.size)))
    {s with heap:=(s.heap.push {cls:=.type "tuple_iterator",data:=.fields #[.ref l,.int 0 0]}).push {cls:=.type "enumerate",data:=.fields #[.none,.bool false,.ref s.heap.objs.size,Gz 0,.none,.none]}}):=
 .of_wp λprog w A R s h=>by
  obtain⟨B,g,d,tk,os⟩:=s;obtain⟨hl,h⟩:=h;have P:=sub_enumerate;have j:Uq (Shared.heap ⟨B,g,d,tk,os⟩) l items:=⟨_,hl,rfl,n,rfl⟩
  wp_walk using Jh hl
  refine wpAny_stack_any λst=>Af ?_;split
  .rename_i c _ _ _ _ _;cases (c==Value.type "enumerate")
   .wp_walk using Jh hl,Nb j
    exact⟨_,rfl,h⟩
   .wp_walk using Jh hl,Nb j
    exact⟨_,rfl,h⟩
  .wp_walk using Jh hl,Nb j
   exact⟨_,rfl,h⟩
theorem call_new{Q:Ae->Ah->Prop}(j:s.heap.IsTuple l items)(h:∀h',IsEnum h' (s.heap.objs.size+1) s.heap.objs.size 0 .none->h'.IsTupleIter s.heap.objs.size l 0->(∀b o,s.heap.get? b=some o->h'.get? b=some o)->Q (.ref (s.heap.objs.size+1)) {s with heap:=h'}):
  Bl (Cq prog w) A (call (.type "enumerate") [.ref l]) Q E s:=by
 obtain⟨⟨c,a,dt,sl⟩,hl,hc,n,hd⟩:=j;cases (show c=.type "tuple" from hc);cases (show dt=.seq items n from hd);refine callType_new F.called_enumerate (by decide) (F.typeCall_enumerate_1 _) (F.newCall_enumerate_1 _) (λobj=>Pj obj _) F.entry_enumerate_new (zfH l items n a sl) ⟨hl,?_⟩;have hz:(s.heap.push {cls:=.type "tuple_iterator",data:=.fields #[.ref l,.int 0 0]}).objs.size=s.heap.objs.size+1:=Gk ..;show _/\_;rw[hz];have P:IsEnum ((s.heap.push {cls:=.type "tuple_iterator",data:=.fields #[.ref l,.int 0 0]}).push {cls:=.type "enumerate",data:=.fields #[.none,.bool false,.ref s.heap.objs.size,Gz 0,.none,.none]}) (s.heap.objs.size+1) s.heap.objs.size 0 .none:=by
  have:=Au (s.heap.push {cls:=.type "tuple_iterator",data:=.fields #[.ref l,.int 0 0]}) (o:={cls:=.type "enumerate",data:=.fields #[.none,.bool false,.ref s.heap.objs.size,Gz 0,.none,.none]}) rfl;rw[hz]at this;exact this
 exact⟨⟨_,P,rfl⟩,h _ P ⟨_,Ag _ (Au _ rfl),rfl,rfl⟩ λb o x=>Ag _ (Ag _ x)⟩
end
end Et
end PySem
namespace L2
section
variable {X:Cx}
def MF(K:Ac)(a:Aj)(xs:List V):It:=
 ⟨λi H=>bW K H a xs/\i<xs.length,
   λi H x j=>∃p u,xs[i]? = some u/\H p=none/\x=.ref p/\j=aN H p (.tup [.int (i:Nat),u]),
   λi H=>bW K H a xs/\i=xs.length⟩
theorem zfI{P:Ar}{w:Bk}{K:Ac}{es:List Cb}{W:Nat}{r:Gy}(a e it:Aj)(xs:List V)(G:e≠it)(hea:e≠a)(Y:a≠it):
  iT P w K (.Tuple es W r) (MF K a xs) [e,it] e (λi h=>(∃old,IsEnum h e it (i:Nat) old)/\h.IsTupleIter it a i) where
 mem:=by simp
 obj:=λi h st c hc=>by
  obtain⟨⟨old,O⟩,⟨y,h4,_,R⟩⟩:=st;simp only[Bd,Hd,or_false]at hc;rcases hc with rfl|rfl
  .exact⟨_,O,λv q=>by cases q⟩
  .exact⟨_,h4,λv q=>by rw[R]at q;cases q⟩
 keep:=λi h h' st k=>by
  obtain⟨⟨old,O⟩,⟨y,h4,t⟩⟩:=st;exact⟨⟨old,k e (by simp) _ O⟩,⟨y,k it (by simp) _ h4,t⟩⟩
 item:=by
  intro X g hw B hc i C s m H E I hf st Z;subst g hw B;obtain⟨⟨old,O⟩,h4⟩:=st;obtain⟨d,hi⟩:=Z;obtain⟨its,T,pl,hz⟩:=I.tuple d;obtain⟨u,J,ru⟩:=T.get (Bp hi);have hl:=T.length;refine wpAny_pyNext_enum_itemD (Et.draws (A:=X.A.in1) (I.ok.hd hc) it a Y its.toArray) O ⟨h4,pl⟩ (by simp;lia) G (by simp[G,hea]) λx h' tk S Q U D a4 hk=>?_;have ex:x=u:=by
   have S:its.toArray[i]? = some x:=S;rw[List.getElem?_toArray,J]at S;exact(Ci S).symm
  subst ex;refine⟨_,rfl,wpAny_letOwnedTupleGo_enum Q λp M sb=>?_⟩;have l:H s.heap.objs.size=none:=I.hok.fresh (Ai _);have n:e<s.heap.objs.size:=Bh O;have b:it<s.heap.objs.size:=by obtain⟨_,q,_⟩:=h4;exact Bh q
  have j:∀q o,q∉[e,it]->s.heap.get? q=some o->p.get? q=some o:=λq o N eq=>by
   simp only[Bd,Hd,or_false,not_or]at N;exact(sb.2 q N.1).trans (hk q o N.1 N.2 eq)
  have F:p.get? s.heap.objs.size=some {cls:=.type "tuple",data:=.seq [.int (i:Nat) tk,x].toArray}:=(sb.2 _ (Co n)).trans D;have L:Inv X C m (aN H s.heap.objs.size (.tup [.int (i:Nat),xs[i]])) {s with heap:=p,toks:=tk+1}:=I.laidT (its:=[.int (i:Nat) tk,x]) hf j (by show 2<=Ao;decide) (.cons ⟨_,rfl⟩ (.cons ru .nil)) F;refine⟨.ref s.heap.objs.size,_,L,rfl,⟨s.heap.objs.size,xs[i],Bp hi,l,rfl,rfl⟩,⟨⟨x,by rw[Rf];exact M⟩,U.1.extBut sb.extBut G.symm⟩,λq N=>?_⟩;rw[bB]
  .exact(hf q N).1
  .intro eq;subst eq;simp only[Bd,Hd,or_false]at N;rcases N with q|q
   .exact Co n q
   .exact Co b q
 done:=by
  intro X g hw B hc i C s m H E I hf st Z;subst g hw B;obtain⟨⟨old,O⟩,h4⟩:=st;obtain⟨d,rfl⟩:=Z;obtain⟨its,T,pl,hz⟩:=I.tuple d;have f:=T.length;refine wpAny_pyNext_enum_endD (Et.draws (A:=X.A.in1) (I.ok.hd hc) it a Y its.toArray) O (show Heap.IsTupleIter s.heap it a its.toArray.size/\Uq s.heap a its.toArray from⟨by rw[Bj,<-f];exact h4,pl⟩) λh' hk=>⟨rfl,?_⟩
  exact I.turnedT (tk:=s.toks) hf λq o N eq=>hk q o (λz=>N (by simp[z])) eq
 self:=λ_ _ _ _ _ st h=>by
  obtain⟨⟨old,O⟩,_⟩:=st;exact Nr O h
def zfJ(K:Ac)(ta:TA):TI:=λm H R=>ta m H λvs G=>∃a xs,vs=[.ref a]/\bW K G a xs/\R (MF K a xs) G
theorem zfK{a:Cb}{ta:TA}{p pos:Gy}{es:List Cb}{W:Nat}{c:Gy}(Z:Gl X "enumerate")(J:X.mg "enumerate" = none)(l:PA X [a] ta)(F:Cj [a] X.env=[(false,El a X.env)]:=by rfl):
  PI X (.Tuple es W c) (.Call (.Name "enumerate" p) [a] [] pos) (zfJ X.K ta):=by
 intro C s m H R I h;refine Call_ (iA I Z J boot_enumerate (Cg (aY (l pos C s m H _ I h) λus M ⟨vs,G,L,B,f⟩=>?_) F rfl));obtain⟨a,xs,rfl,d,q⟩:=f;obtain⟨u,rfl,ru⟩:=vals1 B;cases ru;obtain⟨its,g,pl,hz⟩:=L.tuple d;have r:a<M.heap.objs.size:=by obtain⟨o,e,_⟩:=pl;exact Bh e
 refine Et.call_new pl λh' A Y k=>?_;refine Nr A ?_;refine⟨M.heap.objs.size+1,[M.heap.objs.size+1,M.heap.objs.size],_,_,G,rfl,L.kept (t':=M.toks) k,zfI a _ _ xs (EG 1 (by decide)) (Bq (Bo (Qf r))) (Bo r),⟨⟨_,A⟩,Y⟩,λq N=>?_,q⟩;have b:M.heap.objs.size<=q:=by
  simp only[Bd,Hd,or_false]at N;rcases N with e|e
  .rw[e];exact EH 1
  .rw[e];exact Ai _
 exact L.fpOk b (L.hok.fresh b)
end
section
variable {X:Cx}{a:Cb}
abbrev A7(ta:cN):gB:=λL M R=>ta L M λws I=>∃d,ws=[.tup d]/\R (gC 0 d) (λ_=>True) I
theorem zfL{z:cN}{p pos:Gy}{es:List Cb}{W:Nat}{c:Gy}(Z:Gl X "enumerate")(J:X.mg "enumerate" = none)(l:A3 X [a] z)(F:Cj [a] X.env=[(false,El a X.env)]:=by rfl):PI X (.Tuple es W c) (.Call (.Name "enumerate" p) [a] [] pos) (fL X.K (A7 z)):=
 (zfK Z J l F).weak λm H D s=>s.el λL M R A U h k=>⟨L,M,_,A,U,h,λvs G ws I k1 P N ⟨d,S,r⟩=>by
  subst S;obtain⟨v,rfl,av⟩:=N.one;exact av.tupE λb xs t O g=>⟨b,xs,by rw[t],bW.of O,k _ _ _ _ _ k1 P (by
   have st:∀H M,Kp G I H M->AM X.K H M->bW X.K H b xs:=λH M k _=>bW.of (k.fr _ _ (P.noTup O) O).1;refine⟨λi H M k U kp hi=>⟨st H M k U,by rw[kU]at hi;rw[g.length];exact hi⟩,λH M k U kp=>⟨st H M k U,by rw[kU,g.length]⟩,λi H M x j k U kp hi y=>?_⟩;obtain⟨n,u,T,f,rfl,rfl⟩:=y;obtain⟨w,hw,av⟩:=(g.kp P k).getV T;obtain⟨E,k2⟩:=U.tup (u:=.tup [.int (i:Nat),u]) f;exact⟨.tup [.int ((i:Nat):Int),w],by rw[qT,hw];simp,k2,E,.tup b8 (.cons (.int _) (.cons (av.go (go_same f)) .nil))⟩) r⟩⟩
end
section
variable {X:Cx}
theorem vR(ok:cG P w H h)(e:H a=some (.frz o (.dK ks))):∃vs es ep,KV ks vs/\o.data=.dict es ep/\h.DictAt (bQ P w) a vs ep/\(a==Fc)=false:=by
 obtain⟨D,hz,G,vs,A,T,es,ep,O,r⟩:=(show b9 P w H h a (.frz o (.dK ks)) from ok a _ e);rw[D]at O;cases O;exact⟨vs,es,ep,A,r.2.1,⟨o,es,D,r⟩,G⟩
def vS(a:Aj)(o:Lc)(ks:List (aB×V)):It:=
 ⟨λi H=>H a=some (.frz o (.dK ks))/\i<ks.length,
   λi H x j=>∃p z,ks[i]? = some z/\H p=none/\x=.ref p/\j=aN H p (.tup [kV z.1,z.2]),
   λi H=>H a=some (.frz o (.dK ks))/\i=ks.length⟩
theorem zfM(r:KV ks vs){i:Nat}(h:ks[i]? = some z):∃x,vs[i]? = some (z.1,x)/\RelV z.2 x:=by
 induction r generalizing i with
 | nil=>cases h
 | @cons p q ps qs N t E=>
  cases i with
  | zero=>cases h;obtain⟨f,j⟩:=q;cases N.1;exact⟨j,rfl,N.2⟩
  | succ i=>rw[Ej]at h⊢;exact E h
theorem zfN{P:Ar}{w:Bk}{K:Ac}{es:List Cb}{R:Nat}{u:Gy}(a it:Aj)(o:Lc)(ks:List (aB×V))(en:Array Ec)(ep:Nat)(hd:o.data=.dict en ep)(G:a≠it):
  iT P w K (.Tuple es R u) (vS a o ks) [it] it (λi h=>∃ok y,IsItemIter h it a i ks.length ep ok y) where
 mem:=by simp
 obj:=λi h st b Y=>by
  cases (by simpa using Y:b=it);obtain⟨ok,y,e⟩:=st;exact⟨_,e,λv z=>by cases z⟩
 keep:=λi h h' st k=>by
  obtain⟨ok,y,e⟩:=st;exact⟨ok,y,k it (by simp) _ e⟩
 item:=by
  intro X g hw B hc i C s m H E I hf st Z;subst g hw B;obtain⟨ok,y,O⟩:=st;obtain⟨T,hi⟩:=Z;obtain⟨vs,c,Q,A,n,t,_⟩:=vR I.hok T;cases hd.symm.trans n;obtain⟨z,hz⟩:∃z,ks[i]? = some z:=⟨_,Bp hi⟩;obtain⟨x,S,d⟩:=zfM A hz;rw[A.length]at O;refine wpAny_pyNext_items_item O t S λkey h' f D U hsz hk=>?_;refine⟨_,rfl,wpAny_letOwnedTupleGo_items D λp M sb=>?_⟩;have l:H s.heap.objs.size=none:=I.hok.fresh (Ai _);have r:it<s.heap.objs.size:=Bh O;have j:∀q o,q∉[it]->s.heap.get? q=some o->p.get? q=some o:=λq o N eq=>by
   have N:q≠it:=by simpa using N
   exact(sb.2 q N).trans (hk q o N eq)
  have F:p.get? s.heap.objs.size=some {cls:=.type "tuple",data:=.seq [key,x].toArray}:=(sb.2 _ (Co r)).trans U;have L:Inv X C m (aN H s.heap.objs.size (.tup [kV z.1,z.2])) {s with heap:=p,toks:=s.toks}:=I.laidT (its:=[key,x]) hf j (by show 2<=Ao;decide) (.cons (tD f) (.cons d .nil)) F;refine⟨.ref s.heap.objs.size,_,L,rfl,⟨s.heap.objs.size,z,hz,l,rfl,rfl⟩,⟨key,x,by rw[A.length];exact M⟩,λq N=>?_⟩;rw[bB]
  .exact(hf q N).1
  .cases (by simpa using N:q=it);exact Bo r
 done:=by
  intro X g hw B hc i C s m H E I hf st Z;subst g hw B;obtain⟨ok,y,O⟩:=st;obtain⟨T,rfl⟩:=Z;obtain⟨vs,c,Q,A,n,t,_⟩:=vR I.hok T;cases hd.symm.trans n;rw[A.length]at O;refine wpAny_pyNext_items_end (I.ok.hd hc) O t (by simp) λh' hk=>⟨rfl,?_⟩
  exact I.turnedT (tk:=s.toks) hf λq o N eq=>hk q o (λz=>N (by simp[z])) eq
 self:=λ_ _ _ _ _ st h=>by
  obtain⟨ok,y,e⟩:=st;exact PySem.W.kcp_self e h
abbrev rItems:V->List V->Hp->VK->Prop:=λx vs H Q=>∃a o ks,x=.ref a/\vs=[]/\H a=some (.frz o (.dK ks))/\∀p,H p=none->Q (.ref p) (aN H p (.ext λh=>h.IsItemsView p a))
theorem zfO:e9 X "dict.items" rItems:=by
 rintro C s m H x vs v us Q I d rs ⟨a,o,ks,rfl,rfl,e,q⟩;cases (show v=Value.ref a from d);cases rs;obtain⟨vs,es,ep,A,hd,t,G⟩:=vR I.hok e;refine Ir PySem.F.slot_dict_items t.dictOf.typeIs PySem.F.entry_dict_items (PySem.F.args_dict_items_1 _) (meets_dict_items (bQ X.prog X.w) a G) ⟨⟨vs,t.dictOf⟩,?_⟩;have hf:=I.hok.fresh (Ai s.heap.objs.size);exact⟨.ref s.heap.objs.size,_,I.laid (a:=s.heap.objs.size) (o:=.ext λh=>h.IsItemsView s.heap.objs.size a) (t':=s.toks) (λ_ _ z=>Ag _ z) (Ai _) ⟨⟨_,Au _ rfl,rfl,rfl⟩,⟨_,Au _ rfl⟩,λO Z ⟨o,D,r⟩ c=>⟨o,c o D,r⟩⟩,rfl,q _ hf⟩
end
section
variable {X:Cx}
abbrev MG(S:aR):gB:=λL M R=>S L M λd I=>∃kvs,d=.fk kvs/\R (kvs.map λp=>.tup [wK p.1,p.2]) (λ_=>True) I
theorem zfP{K:Ac}{d:Hp}{X:Mm}{a:Aj}{o:Lc}{ks:List (aB×V)}{kvs:List (aB×W)}(g:AM K d X)(e:d a=some (.frz o (.dK ks)))(s:bK K d X aB ks kvs):iF K d X (vS a o ks) (kvs.map λp=>.tup [wK p.1,p.2]) λ_=>True:=by
 have st:∀H M,Kp d X H M->H a=some (.frz o (.dK ks)):=λH M k=>(k.fr _ _ (g.noFrz e) e).1;have hl:=Cu s;refine⟨λi H M k U _ hi=>⟨st H M k,by rw[Ab]at hi;lia⟩,λH M k U _=>⟨st H M k,by rw[Ab];lia⟩,λi H M x j k U _ hi y=>?_⟩;obtain⟨n,z,hz,f,rfl,rfl⟩:=y;obtain⟨y,I,T,av⟩:∃y,kvs[i]? = some y/\z.1=y.1/\AV K d X z.2 y.2:=by
  have:∀{ks:List (aB×V)} {kvs:List (aB×W)} {i:Nat},bK K d X aB ks kvs->ks[i]? = some z->∃y,kvs[i]? = some y/\z.1=y.1/\AV K d X z.2 y.2:=by
   intro ks kvs i r
   induction r generalizing i with
   | nil=>intro h;cases h
   | @cons p q ps qs N t E=>
    intro h;cases i with
    | zero=>cases h;exact⟨q,rfl,N⟩
    | succ i=>rw[Ej]at h⊢;exact E h
  exact this s hz
 obtain⟨S,k2⟩:=U.tup (u:=.tup [kV z.1,z.2]) f;exact⟨.tup [wK y.1,y.2],by rw[Ap,I];rfl,k2,S,.tup b8 (.cons (by rw[T];exact K1 _) (.cons ((av.kp g k).go (go_same f)) .nil))⟩
theorem zfQ{o:Cb}{S:aR}{es:List Cb}{kx:Nat}{W apos cpos:Gy}(D:E3 X o S)(n:Fx o "items" X.env (El o X.env)=El o X.env:=by rfl)(y:(apos.endLine==cpos.line)=true:=by rfl):
  PI X (.Tuple es kx W) (.Call (.Attribute o "items" apos) [] [] cpos) (fL X.K (MG S)):=by
 intro C s m H R' I ⟨L,M,R,A,U,h,k⟩;refine aY (DG Mu PySem.F.slot_dict_items PySem.F.type_dict_items zfO D n y C s m H (λx z=>∃p a o ks,x=.ref p/\z p=some (.ext λh=>h.IsItemsView p a)/\z a=some (.frz o (.dK ks))/\R' (vS a o ks) z) I ⟨L,M,_,A,U,h,λd G wd j k1 P ad ⟨kvs,T,r⟩=>?_⟩) λv g ⟨x,z,i,N,p,a,o,ks,ex,ep,Q,q⟩=>?_
 .subst T;cases ad with
  | @fk a Z ks _ e O q=>
   refine⟨.inr (.inr (.inl ⟨rfl,.inl ⟨_,.inr ⟨_,e⟩⟩⟩)),a,Z,ks,rfl,rfl,e,λp B=>?_⟩;obtain⟨E,k2⟩:=P.tup (u:=.ext λh=>h.IsItemsView p a) B;have J:aN G p (.ext λh=>h.IsItemsView p a) a=some (.frz Z (.dK ks)):=(bB (eO e B)).trans e;exact⟨p,a,Z,ks,rfl,b8,J,k _ _ _ _ _ (k1.trans k2) E (zfP E J (nH O (q.newT B))) r⟩
 .subst ex;cases (show v=Value.ref p from N);have c:g.heap.IsItemsView p a:=(show b9 X.prog X.w z g.heap p (.ext λh=>h.IsItemsView p a) from i.hok p _ ep).1;obtain⟨vs,l,V,f,hd,t,_⟩:=vR i.hok Q;have hge:g.heap.objs.size<=g.heap.objs.size:=Ai _;refine wpAny_pyIter_items c t ⟨g.heap.objs.size,[g.heap.objs.size],_,vS a o ks,z,rfl,i.kept (t':=g.toks) λb o e=>Ag _ e,zfN a _ o ks l V hd (Bo t.lt_size),⟨.none,.none,by rw[f.length];exact Au _ rfl⟩,λb Y=>?_,q⟩;cases (by simpa using Y:b=g.heap.objs.size);exact i.fpOk hge (i.hok.fresh hge)
end
section
variable {X:Cx}
theorem zfR:bC X (Ee .Add) (λx y H Q=>∃a b xs,x=.ref a/\y=.ref b/\bW X.K H a []/\bW X.K H b xs/\Q (.ref b) H):=by
 rintro C s m H x y v u Q I d L ⟨a,b,xs,rfl,rfl,l,Y,q⟩;cases (show v=Value.ref a from d);cases (show u=Value.ref b from L);obtain⟨its,T,⟨⟨cls,dd,data,sl⟩,D,hc,n,hd⟩,_⟩:=I.tuple l;obtain⟨c,o,⟨⟨k,h,j,i⟩,g,f,n2,G⟩,_⟩:=I.tuple Y;cases T;simp only at hc hd f G;subst hc hd f G;exact Th ⟨_,D,rfl⟩ ⟨_,g,rfl⟩ Ri Su Nf Mv (Mg _ _) (tuple_addW0 a b _ c.toArray n n2 dd h sl i rfl) ⟨D,g,.ref b,H,I,rfl,q⟩
theorem zfS:sQ X "list.pop" (λx vs H Q=>∃l y B,x=.ref l/\vs=[.int 0]/\H l=some (.lst (y::B))/\Q y (aN H l (.lst B))):=by
 intro C s m H x vs v us Q I d T h;obtain⟨l,y,B,rfl,rfl,o,q⟩:=h;cases d;obtain⟨b,rfl,a,W⟩:=vals1 T;subst W;obtain⟨z,its,n,r,hl,e⟩:=I.lstM o;cases r with
 | @cons _ u _ K ru r=>
  refine Ks Ow ⟨_,e,rfl⟩ F.entry_list_pop (F.args_list_pop_2 _ _) (MeetsSeq.list_pop_at l _ n 0 a 0 u (by decide) (by simp[Ur]) rfl (by rw[Bj];lia)) ⟨e,?_⟩;refine⟨y,_,I.lset (its':=K) o e ?_ r ?_,ru,q⟩
  .rw[List.eraseIdxIfInBounds_toArray];rfl
  .exact Bf (Fz _) z
def MH(K:Ac)(a:Aj)(xs:List V):It:=
 ⟨λi H=>bW K H a xs/\i<xs.length,λi H x j=>j=H/\xs.reverse[i]? = some x,λi H=>bW K H a xs/\i=xs.length⟩
theorem zfT{P:Ar}{w:Bk}{K:Ac}{j:Cb}(a it:Aj)(xs:List V)(c:a≠it):iT P w K j (MH K a xs) [it] it (λi h=>Rv.IsRv h it a ((xs.length:Int)-1-(i:Int))) where
 mem:=by simp
 obj:=λi h st b Y=>by
  cases (by simpa using Y:b=it);exact⟨_,st,λv z=>by cases z⟩
 keep:=λi h h' st k=>k it (by simp) _ st
 item:=by
  intro X g hw B hc i C s m H E I hf st Z;subst g hw B;obtain⟨N,hi⟩:=Z;obtain⟨its,T,p,hz⟩:=I.tuple N;have hl:=T.length;have S:xs.reverse[i]? = some xs[xs.length-1-i]:=by rw[List.getElem?_reverse hi];exact Bp (by lia)
  obtain⟨u,J,ru⟩:=T.get (Bp (l:=xs) (i:=xs.length-1-i) (by lia));obtain⟨R,A,n,f,M,G⟩:=hf it (by simp);rw[show(xs.length:Int)-1-(i:Int)=((xs.length-1-i:Nat):Int) by lia]at st;refine Rv.next_item st p (x:=u) (by simpa using J) (by have:=kE;lia) λh' tk F sb=>?_;have L:Inv X C m H {s with heap:=h',toks:=tk}:=I.turned (t':=tk) (λb o Y e=>(sb.2 b Y).trans e) R A f M G;refine⟨u,rfl,oI (s:={s with heap:=h',toks:=tk}) F rfl rfl (by decide) ⟨_,H,L,ru,⟨rfl,S⟩,?_,λb Y=>(hf b Y).1⟩⟩;rw[show(xs.length:Int)-1-((i+1:Nat):Int)=((xs.length-1-i:Nat):Int)-1 by lia];exact F
 done:=by
  intro X g hw B hc i C s m H E I hf st Z;subst g hw B;obtain⟨N,rfl⟩:=Z;rw[show(xs.length:Int)-1-(xs.length:Int) = -1 by lia]at st;refine Rv.next_end (I.ok.hd hc) st λh' hk=>⟨rfl,?_⟩
  exact I.turnedT (tk:=s.toks) hf λq o N eq=>hk q o (λz=>N (by simp[z])) eq
 self:=λ_ _ _ _ _ st h=>Rv.iter_self st h
theorem zfU{a:Cb}{ta:TA}{j:Cb}{p pos:Gy}(Z:Gl X "reversed")(J:X.mg "reversed" = none)(l:PA X [a] ta)(F:Cj [a] X.env=[(false,El a X.env)]:=by rfl):
  PI X j (.Call (.Name "reversed" p) [a] [] pos) (λm H R=>ta m H λvs G=>∃a xs,vs=[.ref a]/\bW X.K G a xs/\R (MH X.K a xs) G):=by
 intro C s m H R I h;refine Call_ (iA I Z J WJ (Cg (aY (l pos C s m H _ I h) λus M ⟨vs,G,L,B,f⟩=>?_) F rfl));obtain⟨a,xs,rfl,d,q⟩:=f;obtain⟨u,rfl,ru⟩:=vals1 B;cases ru;obtain⟨its,g,pl,hz⟩:=L.tuple d;have hl:=g.length;have r:a<M.heap.objs.size:=by obtain⟨o,e,_⟩:=pl;exact Bh e
 refine Rv.call_rev pl (by rw[Bj,<-hl];exact hz) λtk=>?_;have st:Rv.IsRv (M.heap.push (Rv.rvObj a ((its.toArray.size:Int)-1))) M.heap.objs.size a ((its.toArray.size:Int)-1):=Au _ rfl;refine Rv.iter_self st ⟨M.heap.objs.size,[M.heap.objs.size],_,_,G,rfl,L.kept (t':=tk) (λb o e=>Ag _ e),zfT a _ xs (Bo r),?_,λb Y=>?_,q⟩
 .rw[Bj,<-hl]at st;show Rv.IsRv _ _ _ ((xs.length:Int)-1-((0:Nat):Int));rw[show(xs.length:Int)-1-((0:Nat):Int)=(xs.length:Int)-1 by lia,show(its.toArray.size:Int)=(xs.length:Int) by rw[Bj,hl]];exact st
 .cases (by simpa using Y:b=M.heap.objs.size);exact L.fpOk (Ai _) (L.hok.fresh (Ai _))
end
section
variable {X:Cx}{a b:Cb}{ta tb:aR}{pos:Gy}
abbrev mT:R3:=λx y M R=>∃xs B,x=.tup xs/\y=.tup B/\xs.length+B.length<=Ao/\R (.tup (xs++B)) M
theorem zfV:bC X (Ee .Add) (cJ X.K mT):=by
 rintro C s m H x y v u Q I d L ⟨F,W,M,R,U,N,t,⟨xs,B,rfl,rfl,hl,r⟩,k⟩
 by_cases S:xs=[]
 .subst S;refine N.tupE λi j T V f=>t.tupE λE D G l p=>?_;cases f.nil_;exact zfR C s m H x y v u Q I d L ⟨i,E,D,T,G,bW.of V,bW.of l,by rw[<-G];exact k.at U t r⟩
 .exact GR C s m H x y v u Q I d L ⟨.tup xs,.tup B,M,R,U,N,t,⟨S,hl,r⟩,k⟩
def MI:W->List W->Mm->K3->Prop:=λx vs M R=>∃l y B,x=.ref l/\vs=[.int 0]/\M l=some (.lst (y::B))/\R y (put M l (.lst B))
theorem zfW:e9 X "list.pop" (jI X.K MI):=by
 rintro C s m H x xs v us Q I d rs ⟨F,ws,M,R,U,N,S,⟨l,y,B,rfl,rfl,e,r⟩,k⟩;obtain⟨vs,f,q⟩:=U.lst e;cases q with
 | @cons a n _ _ av q=>
  obtain⟨z,T,G⟩:=S.one;obtain⟨E,k2⟩:=U.write (o:=.lst B) (u:=.lst n) e ⟨_,b8,q.wr U e⟩;exact zfS C s m H x xs v us Q I d rs ⟨l,a,n,N.inv,by rw[T,G.inv],f,k _ _ _ _ k2 E (av.wr U e) r⟩
abbrev MJ(ta:cN):gB:=λL M R=>ta L M λws I=>∃d,ws=[.tup d]/\R d.reverse (λ_=>True) I
theorem zfX{z:cN}{Q:Cb}{p pos:Gy}(Z:Gl X "reversed")(J:X.mg "reversed" = none)(l:A3 X [a] z)(F:Cj [a] X.env=[(false,El a X.env)]:=by rfl):PI X Q (.Call (.Name "reversed" p) [a] [] pos) (fL X.K (MJ z)):=
 (zfU Z J l F).weak λm H D s=>s.el λL M R A U h k=>⟨L,M,_,A,U,h,λvs G ws I k1 P N ⟨d,S,r⟩=>by
  subst S;obtain⟨v,rfl,av⟩:=N.one;exact av.tupE λb xs t O g=>⟨b,xs,by rw[t],bW.of O,k _ _ _ _ _ k1 P (by
   have st:∀H M,Kp G I H M->bW X.K H b xs:=λH M k=>bW.of (k.fr _ _ (P.noTup O) O).1;refine⟨λi H M k U kp hi=>⟨st H M k,by rw[List.length_reverse]at hi;rw[g.length];exact hi⟩,λH M k U kp=>⟨st H M k,by rw[List.length_reverse,g.length]⟩,λi H M x j k U kp hi y=>?_⟩;obtain⟨rfl,y⟩:=y;obtain⟨w,hw,av⟩:=((g.kp P k).reverse).getV y;exact⟨w,hw,Kp.refl U,U,av⟩) r⟩⟩
abbrev MK(ta tb:aR):aR:=λL M R=>∀p,M p=none->ta L (put M p (.dK [])) λx I=>tb L I λy v=>v p=some (.dK [])/\∃k:aB,x=wK k/\R (.ref p) (put v p (.dK [(k,y)]))
theorem zfY(l:E3 X a ta)(Y:E3 X b tb):E3 X (.Dict [some a] [b] pos) (MK ta tb):=
 (U5 (DQ l Y DP) rfl rfl (by simp) (by simp)).weak λm H Q s=>s.el λL M R A U h k=>λp B=>by
  obtain⟨g,k0⟩:=U.laid (o:=.dK []) (u:=.dK []) B ⟨[],b8,.nil⟩;refine⟨L,_,_,A.kp U k0,g,h p (U.nonM B),λx G F I k1 P N O=>⟨L,I,_,(A.kp U k0).kp g k1,P,O,λy z S v k2 E t ⟨e,c,ex,r⟩=>?_⟩⟩;subst ex;obtain⟨ks,f,q⟩:=E _ _ e;cases q;obtain⟨j,k3⟩:=E.write (o:=.dK [(c,S)]) (u:=.dK [(c,y)]) e ⟨_,b8,.cons ⟨rfl,t.wr E e⟩ .nil⟩;exact⟨f,[(c,y)],by rw[(N.kp P k2).key];rfl,by simp,k _ _ _ _ (((k0.trans k1).trans k2).trans k3) j (.ref _) r⟩
end
abbrev CT:=List (Aw×List Int)
structure fP(rs:List aE):Prop where
 ne:rs≠[]
 few:rs.length<=17
 nam:(namesOf rs).length<=4
 prt:∀r∈rs,r.parts.length<=4
 wds:∃U:List Aw,U.length<64/\vG rs U
 shn:∀r∈rs,Sh r.name
 sh:∀r∈rs,∀t∈r.parts,Sh t
theorem fP.gl(g:fP rs):GL rs:=⟨Bf g.few (by decide),g.prt,g.wds⟩
theorem fP.few100(g:fP rs):rs.length<=100:=Bf g.few (by decide)
def fQ(c:CT):List (aB×W):=c.map λe=>(Sum.inr e.1,W.tup (e.2.map W.int))
def sglB(rs:List aE)(r:aE):Bool:=match r.parts with
 | [t]=>ownB rs t
 | _=>false
def numsOf(rs:List aE)(X:Aw):List Nat:=(rs.zipIdx.filter λx=>decide (x.1.name=X)).map (·.2)
theorem rZ{n:Nat}:n∈numsOf rs X↔∃r,rs[n]? = some r/\r.name=X:=by
 unfold numsOf;rw[Bc];constructor
 .rintro⟨⟨r,k⟩,h,rfl⟩;rw[Ep,decide_eq_true_eq]at h;exact⟨r,(Gs.mp h.1),h.2⟩
 .rintro⟨r,h,e⟩;exact⟨(r,n),by rw[Ep,decide_eq_true_eq];exact⟨Gs.mpr h,e⟩,rfl⟩
def A8(rs:List aE)(X:Aw):Prop:=∃r∈rs,r.name=X/\∀t∈r.parts,ownB rs t=false
def vT:a8:=λws M R=>∃(rs:List aE) (X:Aw),ws=[bV rs,.str X]/\rs.length<=100/\aV ((numsOf rs X).map λ(n:Nat)=>W.int n) M R
def A9:a8:=λws M R=>∃(rs:List aE) (r:aE),ws=[.dk (ownOf rs),bE r]/\R (.bl (sglB rs r)) M
def ML:a8:=λws M R=>∃(rs:List aE) (X:Aw),ws=[bV rs,.dk (ownOf rs),.str X]/\fP rs/\X∈namesOf rs/\∀c:CT,(X,[])∈c->c.length<=4->(∀e∈c,e.2.length<=1000)->iZ (fQ c) M R
def MM:a8:=λws M R=>∃(c:List Int) (n:Nat) (ps:List Aw),ws=[.tup (c.map W.int),.int n,.tup (ps.map W.str)]/\ps.length<=1000/\∀v,R v M
def MN(P:Ar)(w:Bk)(C:Cc):a8:=λws M R=>∃(a d dx:Aj) (l:List (NP×W)) (rs:List aE) (X:Aw) (kvs:List (aB×W)),ws=[.ref a,bV rs,.str X,.dk kvs]/\jB P w C.p M a d dx l/\l.length<=50000/\fP rs/\X∈namesOf rs/\∀m,Gr l 68 (A8 rs X) m->R .non (put M d (.dn P w [0] (kvsOf m)))
def BA:a8:=λws M R=>∃rs:List aE,ws=[bV rs]/\rs≠[]/\∀l,l≠[]->oG l M R
abbrev zfZ:List Aw:=["grammar","name"]
abbrev zf0:aD:=
   (bS (eF (uI (aA aH aC)) (gA 2 (cP (a7 0) (cP (a7 1) f9))) (bT (aG (eC false) (vX aS bL) a6)) aH [none,none,some 1]))
abbrev zf1:List Aw:=["grammar","name","plain"]
abbrev zf2(P:Ar)(w:Bk)(C:Cc):aD:=
   (aW 1 (aZ rJ (aA aH aC)))
abbrev zf3(P:Ar)(w:Bk)(C:Cc):aD:=
   (aW 2 (k9 C.p (pT P w C.p) aC))
abbrev zf4(P:Ar)(w:Bk)(C:Cc):aD:=
   (cE (dU C.p "put_rule" (mR P w C.p) a6 (aA aS (aA (a9 (aA aS (aA aS aC))) (aA (a9 (aA (a9 (aA bL (aA (a9 (aA bL (aA bD aC))) aC))) aC)) aC)))))
abbrev zf5(P:Ar)(w:Bk)(C:Cc):aD:=
   (bS (dU C.p "grammar_and_backs" (pU P w C.p) a6 aC))
abbrev zf6(P:Ar)(w:Bk)(C:Cc):aD:=(aF (zf2 P w C) (aF (zf3 P w C) (aF (zf4 P w C) (zf5 P w C))))
abbrev zf7:List Aw:=["own","rule"]
abbrev zf8:aD:=
   (bS (tN (aG (eC false) (bU dH (aA (vX aS bD) aC)) bD) (aG (cH false) (vX (vX aS bD) bL) aH)))
abbrev zf9:List Aw:=["grammar","own","name","chains","waiting","here","number","part"]
abbrev zga:aD:=
   (aW 3 (MK a6 (a9 aC)))
abbrev zgb:aD:=
   (aW 4 (iL (aA a6 aC)))
abbrev zgc:aD:=
   (aF (aW 5 (eA "list" MI bG (aA bL aC)))
   (cL (bY cU (bN (aZ vT (aA aH (aA c0 aC))))) (a7 6)
    (aF (aW 7 (xO (gK (aZ A9 (aA aS (aA (vX aH cS) aC)))) (vX (vX (vX aH cS) bD) bL) c0))
   (cI (bT (aG (cH true) cT bJ))
    (aF (gM (aG mT (vX bJ c0) (a9 (aA cS aC))) (iE bJ cT))
   (cE (eA "list" fJ bG (aA cT aC))))
    dA))))
abbrev zgd:aD:=
   (mE (gK bG) zgc)
abbrev zge:aD:=
   (bS bJ)
abbrev zgf:aD:=(aF zga (aF zgb (aF zgd zge)))
abbrev zgg:List Aw:=["chain","number","parts","pieces","single"]
abbrev zgh:aD:=
   (aW 3 (a9 (aA (a9 (aA aS (aA (aZ vM (aA a6 aC)) aC))) aC)))
abbrev zgi:aD:=
   (aW 3 (a9 (aA (a9 (aA bG (aA bJ aC))) aC)))
abbrev zgj:aD:=
   (cL (MJ (aA aH aC)) (a7 4) zgi)
abbrev zgk:aD:=
   (bS bJ)
abbrev zgl:aD:=(aF zgh (aF zgj zgk))
abbrev zgm:List Aw:=["plain","grammar","name","fruitful","own","here","chain","number","parts","is_fruitful"]
abbrev zgn(P:Ar)(w:Bk)(C:Cc):aD:=
   (aW 4 (aZ lB (aA (bN (aZ iP (aA aS aC))) aC)))
abbrev zgo(P:Ar)(w:Bk)(C:Cc):aD:=
   (cL (bY cU (bN (aZ vT (aA aS (aA c0 aC))))) (a7 7)
    (aF (aW 8 (vX (vX aS cT) bD))
   (aF (aW 9 (bU tY (aA (bN (eF (bY cU gY) (a7 0) fM (nL (aG (cH false) aH aS) (aG (cH true) aH a6)) [none,some 3,some 4])) aC)))
   (cI (kN (gK jJ) (xN (gK (aZ A9 (aA bG (aA (vX aS cT) aC))))))
    (cE (dU C.p "put_rule" (mR P w C.p) aH (aA a6 (aA gY (aA (aZ MM (aA cS (aA cT (aA gY aC)))) aC)))))
    dA))))
abbrev zgp(P:Ar)(w:Bk)(C:Cc):aD:=
   (cL (MG (rQ (aZ ML (aA aS (aA bG (aA a6 aC)))))) (gA 2 (cP (a7 5) (cP (a7 6) f9))) (zgo P w C))
abbrev zgq(P:Ar)(w:Bk)(C:Cc):aD:=(aF (zgn P w C) (zgp P w C))
def vU(X:Aw):W->Option W
 | .tup [.int i,.tup (.str n::_)]=>if n=X then some (.int i) else none
 | _=>none
theorem BB(rs:List aE):∀n:Nat,gC n (rs.map bE)=(rs.zipIdx n).map λx=>W.tup [.int (x.2:Int),bE x.1]:=by
 induction rs with
 | nil=>intro n;rfl
 | cons r rs E=>intro n;rw[Be,Kw,Be,<-E];rfl
theorem zgr{F:W->Option W}{ws:List W}{os:List (Option W)}(h:Ff (λw o=>o=F w) ws os):os.filterMap id=ws.filterMap F:=by
 induction h with
 | nil=>rfl
 | cons a _ E=>rw[a,Eu,Eu,E];rfl
theorem zgs(rs:List aE)(X:Aw):(gC 0 (rs.map bE)).filterMap (vU X)=(numsOf rs X).map λ(n:Nat)=>W.int n:=by
 unfold numsOf;rw[BB,Kb,Bm];generalize rs.zipIdx=l
 induction l with
 | nil=>rfl
 | cons x l E=>
  rw[Eu,Fn,E];have e:(vU X ∘ λx:aE×Nat=>W.tup [.int (x.2:Int),bE x.1]) x=if x.1.name=X then some (.int x.2) else none:=rfl;rw[e]
  by_cases h:x.1.name=X
  .rw[Uw h,Uw (Uy h)];rfl
  .rw[Uv h,Uv (by rw[Uz h];decide)]
theorem zgt{ws:List W}{M:Mm}{R:K3}(h:vT ws M R):zf0 (bA R) (bF zfZ ws) M:=by
 obtain⟨rs,X,rfl,hl,r⟩:=h;refine yP (rest:=[some (.str X)]) (λw o=>o=vU X w) (λw hw=>?_) (small (by rw[kU,Ab];lia)) (λ_ _=>trivial) (λa b J V C D sb O Z=>?_) λos po=>?_
 .rw[BB]at hw;obtain⟨x,_,rfl⟩:=Bc.mp hw;exact⟨_,_,rfl⟩
 .rw[BB]at J;obtain⟨⟨q,k⟩,S,e⟩:=Bc.mp J;cases e;have ep:vU X (.tup [.int (k:Int),bE q])=if q.name=X then some (.int k) else none:=rfl;exact cB (b:=decide (q.name=X)) (λz=>O _ (by rw[ep,Uw (Ux z)])) λz=>Z (by rw[ep,Uv (of_decide_eq_false z)])
 .rw[zgr po,zgs];exact λp B=>⟨_,aP,r p B⟩
theorem zgu(h:A9 ws M R):zf8 (bA R) (bF zf7 ws) M:=by
 obtain⟨rs,⟨nm,ps,c⟩,rfl,r⟩:=h
 match ps,r with
 | [],r=>exact⟨_,aP,r⟩
 | [t],r=>
  have e:sglB rs ⟨nm,[t],c⟩=(aT (ownOf rs) (Sum.inr t:aB)).isSome:=(lE rs t).symm;rw[e]at r;exact⟨_,⟨Sum.inr t,rfl,rfl⟩,_,aP,r⟩
 | a::b::l,r=>exact⟨_,aP,r⟩
theorem zgv(h:MM ws M R):zgl (bA R) (bF zgg ws) M:=by
 obtain⟨c,n,ps,rfl,hl,r⟩:=h;refine⟨ps,rfl,hl,_,rfl,?_⟩;refine dB (λi L V=>∃v o,L=[some (.tup (c.map W.int)),some (.int n),some (.tup (ps.map W.str)),some v,o]/\V=M) ⟨_,_,rfl,rfl⟩ ?_ ?_
 .rintro i w L V hw ⟨v,o,rfl,rfl⟩;exact⟨_,aP,_,_,rfl,rfl⟩
 .rintro L V ⟨v,o,rfl,rfl⟩;exact⟨_,aP,r v⟩
theorem BC(c:CT)(Z:Aw):aT (fQ c) (Sum.inr Z:aB)=(aK c Z).map λv=>W.tup (v.map W.int):=by
 unfold fQ aT aK
 induction c with
 | nil=>rfl
 | cons e c ih=>
  rw[Be,Dn,Dn]
  by_cases h:e.1=Z
  .rw[Uy h,Uy (show(Sum.inr e.1:aB)=Sum.inr Z by rw[h])];rfl
  .rw[Uz h,Uz (λz:(Sum.inr e.1:aB)=Sum.inr Z=>h (Sum.inr.inj z))];exact ih
theorem zgw{c:CT}{Z:Aw}(h:aK c Z=none)(v:List Int):bZ (fQ c) (Sum.inr Z:aB) (.tup (v.map W.int))=fQ (c++[(Z,v)]):=by
 unfold bZ;rw[Uv (by rw[show((fQ c).any λkv=>decide (kv.1=(Sum.inr Z:aB)))=(aT (fQ c) (Sum.inr Z:aB)).isSome from i0 _ _,BC,h];decide)];unfold fQ;rw[Az];rfl
abbrev zgx:aD:=cI (bT (aG (L2.cH true) cT bJ)) (aF (gM (aG mT (aG L2.oX bJ c0) (a9 (aA cS aC))) (iE bJ cT)) (cE (eA "list" L2.fJ bG (aA cT aC)))) dA
structure lH(rs:List aE)(X:Aw)(m:Nat)(ch:CT)(wt:List Aw):Prop where
 nd:(ch.map (·.1)).Nodup
 own:∀k∈ch.map (·.1),k∈namesOf rs
 wk:∀k∈wt,k∈ch.map (·.1)
 top:(X,[])∈ch
 len:∀e∈ch,e.2.length<=ch.length
 ms:wt.length+(namesOf rs).length=ch.length+m
 mn:m<=(namesOf rs).length
theorem lH.few{m:Nat}(I:lH rs X m ch wt):ch.length<=(namesOf rs).length:=by
 have:=len_sub I.nd I.own;rwa [Ab]at this
theorem lH.add{rs:List aE}{X y:Aw}{m:Nat}{ch:CT}{wt:List Aw}{v:List Int}(I:lH rs X m ch wt)(K:y∈namesOf rs)(U:aK ch y=none)(c:v.length<=ch.length+1):lH rs X m (ch++[(y,v)]) (wt++[y]):=by
 have U:y∉ch.map (·.1):=λz=>by rw[<-i7,U]at z;cases z
 have e:(ch++[(y,v)]).length=ch.length+1:=Ak;have t:(ch++[(y,v)]).map (·.1)=ch.map (·.1)++[y]:=Az;refine⟨?_,λk hk=>?_,λk hk=>?_,Bg _ I.top,λx S=>?_,?_,I.mn⟩
 .rw[t,Ek];exact⟨I.nd,by simp,λa l b Y z=>U (by rw[<-Am.mp Y,<-z];exact l)⟩
 .rw[t]at hk;rcases Ba.mp hk with h|h
  .exact I.own k h
  .rw[Am.mp h];exact K
 .rw[t];rcases Ba.mp hk with h|h
  .exact Bg _ (I.wk k h)
  .exact Bs _ h
 .rw[e];rcases Ba.mp S with h|h
  .exact Nat.le_succ_of_le (I.len x h)
  .rw[Am.mp h];exact c
 .have:=I.ms;rw[e,Ak,Cf];lia
theorem zgy{ws:List W}{M:Mm}{R:K3}(h:ML ws M R):zgf (bA R) (bF zf9 ws) M:=by
 obtain⟨rs,X,rfl,g,hX,r⟩:=h;have hf:=g.few;have hnm:=g.nam;refine λp hp=>⟨aL,Sum.inr X,rfl,?_⟩
 rw[c9];refine λq hq=>?_;have hpq:q≠p:=λe=>by rw[e,aL]at hq;cases hq
 have hq0:M q=none:=by rw[aM hpq]at hq;exact hq
 have atp:∀{A B:MO},put (put M p A) q B p=some A:=λ{A B}=>by rw[aM (Bq hpq),aL]
 have setp:∀{A A' B:MO},put (put (put M p A) q B) p A'=put (put M p A') q B:=λ{A A' B}=>by rw[qK hpq,c9]
 refine⟨λm τ M'=>∃ch wt o5 o6 o7,τ=[some (bV rs),some (.dk (ownOf rs)),some (.str X),some (.ref p),some (.ref q),o5,o6,o7]/\M'=put (put M p (.dK (fQ ch))) q (.lst (wt.map W.str))/\lH rs X m ch wt,
  ⟨_,[(X,[])],[X],_,_,_,rfl,rfl,⟨by simp,λk hk=>by rw[Am.mp hk];exact hX,λ_ h=>h,Am.mpr rfl,λe he=>by rw[Am.mp he];exact Ea _,rfl,Ai _⟩⟩,?_⟩
 rintro m τ M' ⟨ch,wt,o5,o6,o7,rfl,rfl,I⟩;refine .inl ⟨_,aL,cB (λh=>?_) λh=>?_⟩
 .cases wt with
  | nil=>cases h
  | cons hr wt=>
  have hms:(wt.length+1)+(namesOf rs).length=ch.length+m:=I.ms;have hcl:=I.few;obtain⟨m,rfl⟩:∃m',m=m'+1:=⟨m-1,by lia⟩;have Ip:lH rs X m ch wt:=⟨I.nd,I.own,λk h=>I.wk k (Bb _ h),I.top,I.len,by lia,by have:=I.mn;lia⟩;have hh:hr∈ch.map (·.1):=I.wk hr Bi;refine⟨hW aL,_,_,_,rfl,rfl,aL,?_⟩;rw[c9];refine⟨rs,hr,rfl,by lia,aV.frz ?_⟩;refine dB (λj τ M'=>∃ch2 wt2 o6 o7,τ=[some (bV rs),some (.dk (ownOf rs)),some (.str X),some (.ref p),some (.ref q),some (.str hr),o6,o7]/\M'=put (put M p (.dK (fQ ch2))) q (.lst (wt2.map W.str))/\lH rs X m ch2 wt2/\hr∈ch2.map (·.1)) ⟨ch,wt,_,_,rfl,rfl,Ip,hh⟩ ?_ ?_
  .rintro j x τ M' hx ⟨ch2,wt2,o6,o7,rfl,rfl,I2,hh2⟩;rw[Ap]at hx;obtain⟨n,hn,rfl⟩:=Ax.mp hx;have hc2:=I2.few;have hms2:=I2.ms;have hmn2:=I2.mn;obtain⟨ru,hru,en⟩:=rZ.mp (Ay hn);obtain⟨ru',h1,h2⟩:=oC (rs:=rs) (n:=n) (An.mp hru).1;cases (show some ru'=some ru from h1.symm.trans hru);obtain⟨v,hv⟩:=Eb.mp (i7.mpr hh2);have hvl:v.length<=ch2.length:=by
    obtain⟨a,b,e3⟩:=uN hv;exact I2.len (hr,v) (by rw[e3];simp)
   have fin:∀{D:D3} {y:Aw},y∈namesOf rs->(∀ch3 wt3,lH rs X m ch3 wt3->hr∈ch3.map (·.1)->D.nx [some (bV rs),some (.dk (ownOf rs)),some (.str X),some (.ref p),some (.ref q),some (.str hr),some (.int n),some (.str y)] (put (put M p (.dK (fQ ch3))) q (.lst (wt3.map W.str))))->zgx D [some (bV rs),some (.dk (ownOf rs)),some (.str X),some (.ref p),some (.ref q),some (.str hr),some (.int n),some (.str y)] (put (put M p (.dK (fQ ch2))) q (.lst (wt2.map W.str))):=λ{D y} hy k=>by
    refine .inr ⟨_,.inl ⟨fQ ch2,Sum.inr y,atp,rfl,rfl⟩,?_⟩;show if (!(aT (fQ ch2) (Sum.inr y:aB)).isSome)=true then _ else _;rw[BC,Mh];refine cB (λhn=>?_) λhn=>k ch2 wt2 I2 hh2;have hn:aK ch2 y=none:=by
     cases e:aK ch2 y with
     | none=>rfl
     | some z=>rw[e]at hn;cases hn
    refine F0 (.inl ⟨fQ ch2,Sum.inr hr,atp,rfl,(by rw[BC,hv];rfl)⟩) ⟨_,_,rfl,rfl,?_,uG atp (by unfold fQ;rw[Ab];exact dJ (by lia)) ?_⟩
    .exact small (by rw[Ab];show v.length+1<=10000000;lia)
    .rw[show W.tup (v.map W.int++[W.int n])=.tup ((v++[(n:Int)]).map W.int) by rw[Az];rfl,zgw hn,setp];refine⟨hW aL,_,aL,dJ (by rw[Ab];lia),?_⟩;rw[c9,show(Lg W.str wt2++[W.str y])=Lg W.str (wt2++[y]) by rw[Az];rfl];exact k _ _ (I2.add hy hn (by rw[Ak];exact Nn hvl)) (by rw[Az];exact Bg _ hh2)
   refine so.of h2 ⟨rs,ru,rfl,cB (b:=sglB rs ru) (λhs1=>?_) λhs1=>?_⟩
   .obtain⟨t,et,ot⟩:∃t,ru.parts=[t]/\ownB rs t=true:=by
     unfold sglB at hs1;split at hs1
     .rename_i t e;exact⟨t,e,hs1⟩
     .cases hs1
    refine so.of h2 (so.of (o:=b7 (ru.parts.map W.str) 0) (a:=.str t) (by rw[et];rfl) (fin (Ux ot) λch3 wt3 I3 hh3=>?_));exact⟨_,aP,ch3,wt3,_,_,rfl,rfl,I3,hh3⟩
   .refine fin (I2.own _ hh2) λch3 wt3 I3 hh3=>?_;exact⟨_,aP,ch3,wt3,_,_,rfl,rfl,I3,hh3⟩
  .rintro τ M' ⟨ch2,wt2,o6,o7,rfl,rfl,I2,_⟩;exact⟨m,_,Jk m,aP,ch2,wt2,_,_,_,rfl,rfl,I2⟩
 .have hcl:=I.few;refine⟨_,?_,r ch I.top (by lia) (λe he=>Bf (I.len e he) (by lia)) p hp⟩;exact Sub.new (by rw[aM hpq];exact hq0)
theorem MP(h:M d=some o):put M d o=M:=by
 funext b
 by_cases e:b=d
 .subst e;rw[aL,h]
 .rw[aM e]
theorem BD{ts:List Aw}{rest:S3}{te:aR}{o:Option W}{keep:Mm->Prop}{M:Mm}{R:K3}(f:Aw->Bool)(hl:ts.length<=1000)(hk:∀M,keep M)(F:∀t∈ts,∀V (C:K3),L2.Sub M V->C (.bl (f t)) V->te (some (.str t)::rest) V C)(r:R (.rl (bools (ts.map f))) M):
  gN (ts.map W.str) keep (a7 0) fM te (o::rest) M λw V=>frz w V R:=by
 refine uD (rest:=rest) (λw y=>∃t,w=.str t/\y=.bl (f t)) (small (by rw[Ab];lia)) (λ_ _=>hk _) (λw hw V C sb O=>?_) λB po=>aV.frz ?_
 .obtain⟨t,ht,rfl⟩:=Bc.mp hw;exact F t ht V C sb (O _ ⟨t,rfl,rfl⟩)
 .have e:B=bools (ts.map f):=by
   clear F r hl
   induction ts generalizing B with
   | nil=>cases po;rfl
   | cons t ts E=>
    cases po with
    | cons a b=>
     obtain⟨t',T,rfl⟩:=a;cases T;rw[E _ b];rfl
  rw[e];exact r
theorem vV(rs:List aE)(X:Aw):(numsOf rs X).length<=rs.length:=by
 unfold numsOf;rw[Ab];exact Bf (Iq _ _) (Qg (List.length_zipIdx))
section
variable {P:Ar}{w:Bk}{C:Cc}
theorem jB.putD(pl:jB P w c M a d dx l)(m:List (NP×W)):jB P w c (put M d (.dn P w [0] (kvsOf m))) a d dx m:=⟨by
 have:a≠d:=λe=>by have O:=pl.ob;rw[e,pl.di]at O;cases O
 rw[aM this];exact pl.ob,aL⟩
theorem zgz{ws:List W}{M:Mm}{R:K3}(h:MN P w C ws M R):zgq P w C (bA R) (bF zgm ws) M:=by
 obtain⟨a,d,dx,l,rs,X,kvs,rfl,pl,hl,g,hX,r⟩:=h;have hf:=g.few;have hnl:=g.nam;refine⟨rs,rfl,by lia,aV.frz ⟨namesOf rs,rfl,by lia,rs,X,rfl,g,hX,λc hcX hc4 hcl p0 hp0=>⟨p0,rfl,.inl ⟨_,aL,?_⟩⟩⟩⟩;rw[iY hp0];refine⟨_,rfl,?_⟩;refine dB (λi τ M'=>∃l1 o5 o6 o7 o8 o9,τ=[some (.ref a),some (bV rs),some (.str X),some (.dk kvs),some (.dk (ownOf rs)),o5,o6,o7,o8,o9]/\M'=put M d (.dn P w [0] (kvsOf l1))/\Gr l (17*i) (X∈(c.take i).map (·.1)/\A8 rs X) l1) ⟨l,_,_,_,_,_,rfl,(MP pl.di).symm,Ai _,λh=>h.elim id λh=>nomatch h.1⟩ ?_ ?_
 .rintro i v τ M' hv ⟨l1,o5,o6,o7,o8,o9,rfl,rfl,g1⟩;rw[Ap]at hv;obtain⟨e',he',rfl⟩:=Ax.mp hv;unfold fQ at he';rw[Ap]at he';obtain⟨⟨Z,ci⟩,he,rfl⟩:=Ax.mp he';have hi:=(An.mp he).1;have g1l:=g1.1;show _/\_;refine⟨rfl,rfl,rs,Z,rfl,by lia,aV.frz ?_⟩;refine dB (λj τ M'=>∃l2 o7 o8 o9,τ=[some (.ref a),some (bV rs),some (.str X),some (.dk kvs),some (.dk (ownOf rs)),some (.str Z),some (.tup (ci.map W.int)),o7,o8,o9]/\M'=put M d (.dn P w [0] (kvsOf l2))/\Gr l1 j (∃n∈(numsOf rs Z).take j,∃r,rs[n]? = some r/\∀t∈r.parts,ownB rs t=false) l2) ⟨l1,_,_,_,rfl,rfl,Ai _,λh=>h.elim id λ⟨_,h,_⟩=>nomatch h⟩ ?_ ?_
  .rintro j y τ M' hy ⟨l2,o7,o8,o9,rfl,rfl,g2⟩;rw[Ap]at hy;obtain⟨n,hn,rfl⟩:=Ax.mp hy;obtain⟨ru,hru,en⟩:=rZ.mp (Ay hn);obtain⟨ru',h1,h2⟩:=oC (rs:=rs) (n:=n) (An.mp hru).1;cases (show some ru'=some ru from h1.symm.trans hru);have hpr:=g.prt ru (Ay hru);have hjl:=Bx (An.mp hn).1 (vV rs Z);have g2l:=g2.1;obtain⟨f,hfd⟩:∃f:Aw->Bool,f=λt=>(aT kvs (Sum.inr t:aB)).isSome||!ownB rs t:=⟨_,rfl⟩;have no:(ru.parts.all f=true->sglB rs ru=true)->Gr l1 (j+1) (∃n∈(numsOf rs Z).take (j+1),∃r,rs[n]? = some r/\∀t∈r.parts,ownB rs t=false) l2:=λhno=>by
    refine⟨by lia,λh=>g2.2 (h.imp_right λ⟨k,hk,q,hq,ho⟩=>⟨k,?_,q,hq,ho⟩)⟩;rw[Bw,hn]at hk;rcases Ba.mp hk with hk|hk
    .exact hk
    .rw[Hb,Am]at hk;rw[hk,hru]at hq;cases hq;have h3:ru.parts.all f=true:=Gf.mpr λt ht=>by rw[hfd];show(_||!ownB rs t)=true;rw[ho t ht];exact Lx _
     have h4:=hno h3;unfold sglB at h4;split at h4
     .rename_i t e;rw[ho t (by rw[e];exact Am.mpr rfl)]at h4;cases h4
     .cases h4
   refine so.of h2 ?_;refine BD (rest:=[some (.dk kvs),some (.dk (ownOf rs))]) f (by lia) (λ_=>trivial) (λt ht M' C sb h1=>?_) ?_
   .rw[hfd]at h1;have h1:C (.bl ((aT kvs (Sum.inr t:aB)).isSome||!ownB rs t)) M':=h1;refine⟨_,⟨Sum.inr t,rfl,rfl⟩,cB (b:=(aT kvs (Sum.inr t:aB)).isSome) (λz=>by rw[z]at h1;exact h1) λz=>⟨_,⟨Sum.inr t,rfl,rfl⟩,?_⟩⟩;rw[z,Mz,<-lE]at h1;exact h1
   refine⟨_,rfl,?_⟩;have e2:(ru.parts.map f).all id=ru.parts.all f:=by rw[Nu];rfl
   rw[e2];refine cB (b:=ru.parts.all f) (λha=>?_) λha=>⟨_,aP,l2,_,_,_,rfl,rfl,no λz=>by rw[ha]at z;cases z⟩
   refine so.of h2 ⟨rs,ru,rfl,cB (b:=!sglB rs ru) (λhs=>?_) λhs=>?_⟩
   .exact⟨a,dx,_,rfl,(pl.putD l2).ob,mS,ci,n,ru.parts,rfl,by lia,λv=>⟨a,d,dx,l2,(X,ru.parts),v,rfl,pl.putD l2,by lia,λl' g'=>⟨_,aP,l',_,_,_,rfl,c9,by have:=g'.1;lia,λ_=>g'.2 (.inr trivial)⟩⟩⟩
   .exact⟨_,aP,l2,_,_,_,rfl,rfl,no λ_=>by cases q:sglB rs ru;rw[q]at hs;cases hs;rfl⟩
  .rintro τ M' ⟨l2,o7,o8,o9,rfl,rfl,g2⟩;rw[Ab,Br]at g2;have:=vV rs Z;refine⟨_,aP,l2,_,_,_,_,_,rfl,rfl,by have:=g2.1;lia,λh=>g2.2 ?_⟩;rcases h with h|⟨hx,q,hq,en,ho⟩
   .exact .inl (g1.2 (.inl h))
   .rw[Bw,he,Az]at hx;rcases Ba.mp hx with hx|hx
    .exact .inl (g1.2 (.inr ⟨hx,q,hq,en,ho⟩))
    .have hx:X=Z:=Am.mp hx;obtain⟨n,hn⟩:=Ou hq;exact .inr ⟨n,rZ.mpr ⟨q,hn,by rw[en,hx]⟩,q,hn,ho⟩
 .rintro τ M' ⟨l1,o5,o6,o7,o8,o9,rfl,rfl,g1⟩;have e:((fQ c).map λp=>W.tup [wK p.1,p.2]).length=c.length:=by unfold fQ;rw[Ab,Ab]
  rw[e,Br]at g1;exact⟨_,aP,r l1 ⟨by have:=g1.1;lia,λh=>g1.2 (h.imp_right λh=>⟨Bc.mpr ⟨_,hcX,rfl⟩,h⟩)⟩⟩
theorem zgA(h:BA ws M R):zf6 P w C (bA R) (bF zf1 ws) M:=by
 obtain⟨rs,rfl,U,r⟩:=h;obtain⟨s,l,rfl⟩:∃q l,rs=q::l:=by
  cases rs with
  | nil=>exact absurd rfl U
  | cons q l=>exact⟨q,l,rfl⟩
 refine⟨s,l,rfl,λa dx S x G=>⟨a,dx,rfl,aL,λd hd=>⟨rfl,?_⟩⟩⟩;have k:a≠d:=λe=>by rw[<-e,aL]at hd;cases hd
 rw[aM (Bq k)]at hd;rw[Bt.first k];refine⟨a,dx,_,rfl,(Bt.pl k).ob,mS,a,d,dx,[],(s.name,[s.name,s.name]),_,rfl,Bt.pl k,Ea _,λm g=>?_⟩;rw[Bt.put];exact⟨a,dx,_,rfl,(Bt.pl k).ob,rW,a,d,dx,_,rfl,Bt.pl k,λp q B N ne=>A1 S hd k (r m (g.2 (.inr trivial))) p q B N ne⟩
end
section
variable {X:Cx}{a:Cb}{ta:TA}{p p2 pos pos2:Gy}
def zgB(ta:TA):TE:=λm H Q=>ta m H λvs G=>∃n:Nat,vs=[.int n]/\n<=1000/\∀q,G q=none->Q (.ref q) (aN G q (.lst ((Cd n).map λ(i:Nat)=>V.int i)))
theorem zgC(hc:X.calm=true)(hg:Gl X "list")(hm:X.mg "list" = none)(hg2:Gl X "range")(hm2:X.mg "range" = none)(ha:PA X [a] ta)(hs1:Cj [.Call (.Name "range" p2) [a] [] pos2] X.env=[(false,El (.Call (.Name "range" p2) [a] [] pos2) X.env)]:=by rfl)(hs2:Cj [a] X.env=[(false,El a X.env)]:=by rfl):
  PE X (.Call (.Name "list" p) [.Call (.Name "range" p2) [a] [] pos2] [] pos) (zgB ta):=by
 intro pins s Z H Q I h;refine Dv (iA I hg hm (by decide +kernel:Cs "list" = some (.type "list")) (Cg ?_ hs1 rfl));rw[hs1];refine Jx (Dv (iA I hg2 hm2 (by decide +kernel:Cs "range" = some (.type "range")) (Cg (aY (ha pos2 pins s Z H _ I h) λus s1 ⟨vs,H1,I1,r1,q1⟩=>?_) hs2 rfl)));obtain⟨n,rfl,hn,q⟩:=q1;obtain⟨u,rfl,ru⟩:=vals1 r1;obtain⟨t,rfl⟩:=ru;refine Ti (Ml ?_);have sz:Hk 0 (n:Int) 1=(n:Nat):=by rw[Sv];split<;>lia
 refine call_list_range (n:=n) (b:=(n:Int)) (I1.ok.hd hc) (Sa _ _ _ _ _ _ _) (PySem.small_one (by decide) (by decide) (by lia) (by lia)) sz (by lia) λh' tk acc c hk hS hacc=>?_;have up:∀b o,s1.heap.get? b=some o->h'.get? b=some o:=λb o e=>hk b o (Ag _ e);have ez:(s1.heap.push {cls:=.type "range",data:=.fields #[.int 0 0,.int (n:Int) t,.int 1 0]}).objs.size=s1.heap.objs.size+1:=Gk _ _;refine⟨.ref _,_,I1.laid (o:=.lst ((Cd n).map λ(i:Nat)=>V.int i)) (t':=tk) up ?_ ⟨by simp[Jo];lia,acc.toList,c,?_,by rw[Ho];exact hS⟩,rfl,q _ (I1.hok.fresh ?_)⟩
 .first|exact Hr (Nat.lt_of_lt_of_eq (Jk _) (Gk _ _).symm)|(rw[Gk];exact Fz _)
 .refine qI (by simp[hacc.1]) λj v hv=>?_;have hv':acc[j]? = some v:=by simpa using hv
  obtain⟨t',rfl⟩:=hacc.2 j v hv';have hj:j<n:=by have:=(Iz.mp hv').1;rw[hacc.1]at this;exact this
  refine⟨.int j,?_,t',by simp⟩;simp[hj]
 .first|exact Hr (Nat.lt_of_lt_of_eq (Jk _) (Gk _ _).symm)|(rw[Gk];exact Fz _)
end
section
variable {X:Cx}{a:Cb}{ta:aR}
def MQ(ta:aR):aR:=λL M R=>ta L M λw I=>∃n:Nat,w=.int n/\n<=1000/\aV ((Cd n).map λ(i:Nat)=>W.int i) I R
theorem zgD{p p2 pos pos2:Gy}(Z:Gl X "list")(J:X.mg "list" = none)(x:Gl X "range")(y:X.mg "range" = none)(S:E3 X a ta)(hc:X.calm=true:=by rfl)(u:Cj [.Call (.Name "range" p2) [a] [] pos2] X.env=[(false,El (.Call (.Name "range" p2) [a] [] pos2) X.env)]:=by rfl)(Y:Cj [a] X.env=[(false,El a X.env)]:=by rfl):
  E3 X (.Call (.Name "list" p) [.Call (.Name "range" p2) [a] [] pos2] [] pos) (MQ ta):=
 (zgC hc Z J x y (eQ S fT (Y.trans rfl)) u Y).weak λm H Q s=>s.el λL M R A U h k=>⟨L,M,λws I=>∃n:Nat,ws=[.int n]/\n<=1000/\aV ((Cd n).map λ(i:Nat)=>W.int i) I R,A,U,(show aA ta aC L M _ from(show ta L M _ from by
  refine(id h:ta L M _) |> λz=>?_
  exact Eq.mp (congrArg (ta L M) (funext λw=>funext λI=>propext ⟨λ⟨n,e,r⟩=>⟨n,by rw[e],r⟩,λ⟨n,e,r⟩=>⟨n,(List.cons.inj e).1,r⟩⟩)) z)),λvs G ws I k1 P d ⟨n,e,f,r⟩=>by
  subst e;obtain⟨v,rfl,av⟩:=d.one;obtain rfl:=av.inv;refine⟨n,rfl,f,λq N=>gL P (k.kp k1) N ?_ r⟩;have:∀l:List Nat,aJ X.K G I (l.map λ(i:Nat)=>V.int i) (l.map λ(i:Nat)=>W.int i):=by
   intro l
   induction l with
   | nil=>exact .nil
   | cons i r E=>exact .cons (.int _) E
  exact this _⟩
end
abbrev En:=cA×aQ×Nat×List Int
structure BE(G:Sr)(pre:cF)(e:En)(r:aE):Prop where
 no:aK pre e.1=none
 ru:G.rs[e.2.2.1]? = some r
 fa:e.1=(r.name,e.2.2.2.headD 0,e.2.2.2.getLastD 0)
 ln:r.parts.length+1<=e.2.2.2.length
 pn:∀k t,r.parts[k]? = some t->G.own t=true->(aK pre (t,e.2.2.2.getD k 0,e.2.2.2.getD (k+1) 0)).isSome=true
def vW(G:Sr)(B:cF):Prop:=∀pre e i,B=pre++e::i->∃r,BE G pre e r
theorem zgE{c i:Type}[DecidableEq c](a b:List (c×i))(k:c):aK (a++b) k=(aK a k).or (aK b k):=by
 unfold aK;rw[List.find?_append,Option.map_or]
theorem zgF(F:kZ G B):vW G B:=λpre e i Y=>by
 obtain⟨r,O,Z,f,h4,J⟩:=F.bs pre e i Y;have z:∀k,e.2.2.2.getD k 0=0:=λk=>by
  rw[f,List.getD_eq_getElem?_getD,List.getElem?_replicate];split<;>rfl
 refine⟨r,Option.not_isSome_iff_eq_none.mp λh=>J ?_,O,?_,by rw[f,Ew];exact Ai _,λk t ht D=>?_⟩
 .rw[Z]at h;exact i7.mp h
 .rw[Z,f,zF,zE]
 .rw[z,z,i7];have:=h4 t (Ay ht);unfold d8 at this;rwa [Uw D]at this
def pV(G:Sr)(n:Nat):List Aw:=((G.rs[n]?).map aE.parts).getD []
abbrev MR(c:List Aw):W:=.rl (c.map W.str)
def iH(fs:List cA):List (List aB×W):=fs.map λf=>(fK f,.bl true)
def oH(c:List Aw):List (List aB×W):=(c.zipIdx).map λx=>([Sum.inr x.1,Sum.inl (x.2:Int)],.rl [.tup [.int ((x.2:Int)+1),.int 0]])
def MS:a8:=λws M R=>∃c:List Aw,ws=[MR c]/\c.length<=60/\aV ((Cd (c.length+1)).map λ(i:Nat)=>W.int i) M R
def MT:a8:=λws M R=>∃c:List Aw,ws=[MR c]/\c.length<=60/\jH (oH c) M R
abbrev zgG:List Aw:=["row"]
abbrev zgH:aD:=
   (bS (MQ (aG dD (bU dH (aA aH aC)) bD)))
abbrev zgI:List Aw:=["row"]
abbrev zgJ:aD:=
   (bS (bU AD (aA (bN (eF (uI (aA aH aC)) (gA 2 (cP (a7 0) (cP (a7 1) f9))) fM (a9 (aA (a9 (aA aS (aA aH aC))) (aA (fU (aA (a9 (aA (aG dD aH bD) (aA bL aC))) aC)) aC))) [none,none])) aC)))
theorem MU(r:aV ws M R):aV ws M λw V=>∃u,L2.Sub u V/\R w u:=λp B=>⟨_,aP,r p B⟩
theorem MV(r:jH ws M R):jH ws M λw V=>∃u,L2.Sub u V/\R w u:=λp B=>⟨_,aP,r p B⟩
theorem zgK(h:MS ws M R):zgH (bA R) (bF zgG ws) M:=by
 obtain⟨c,rfl,hl,r⟩:=h;exact⟨c.length+1,by rw[Ab];rfl,by lia,MU r⟩
theorem enum_zip(ws:List Aw):∀n:Nat,gC n (ws.map W.str)=(ws.zipIdx n).map λx=>W.tup [.int (x.2:Int),.str x.1]:=by
 induction ws with
 | nil=>intro n;rfl
 | cons w ws E=>intro n;rw[Be,gC,E,Kw,Be]
theorem MW:∀{ps acc:List (List aB×W)},((acc++ps).map (·.1)).Nodup->hV acc ps=acc++ps
 | [],acc,_=>by simp[hV]
 | p::ps,acc,h=>by
  have U:aT acc p.1=none:=by
   rw[Az,Ek]at h;exact rG λe P z=>h.2.2 _ (Bc.mpr ⟨e,P,rfl⟩) p.1 (by simp) z
  have e:bZ acc p.1 p.2=acc++[p]:=by
   unfold bZ;rw[Uv (by rw[show(acc.any λg=>decide (g.1=p.1))=(aT acc p.1).isSome from i0 acc p.1,U];decide)]
  show hV (bZ acc p.1 p.2) ps=_;rw[e,MW (by rw[Ds];exact h),Ds];rfl
theorem zgL(c:List Aw):((oH c).map (·.1)).Nodup:=by
 unfold oH;rw[Bm];have:∀(c:List Aw) (n:Nat),((c.zipIdx n).map ((λx:List aB×W=>x.1) ∘ λx:Aw×Nat=>(([Sum.inr x.1,Sum.inl (x.2:Int)]:List aB),W.rl [.tup [.int ((x.2:Int)+1),.int 0]]))).Nodup:=by
  intro c
  induction c with
  | nil=>intro n;exact Ey
  | cons t c E=>
   intro n;rw[Kw,Be,Dl];refine⟨λJ=>?_,E _⟩;obtain⟨x,S,e⟩:=Bc.mp J;have O:=List.mem_zipIdx S;simp only[Ku,Dk,Oo,Mf,and_true]at e;lia
 exact this c 0
theorem zgM(h:MT ws M R):zgJ (bA R) (bF zgI ws) M:=by
 obtain⟨c,rfl,hl,r⟩:=h;refine ?_;refine ZF (ws:=gC 0 (c.map W.str)) (rest:=[]) (λw y=>∃x:Aw×Nat,w=W.tup [.int (x.2:Int),.str x.1]/\y=.tup [.tup (([Sum.inr x.1,Sum.inl (x.2:Int)]:List aB).map wK),.rl [.tup [.int ((x.2:Int)+1),.int 0]]]) (λw hw=>?_) (small (by rw[kU,Ab];lia)) (λ_ _=>trivial) (λa b J V C sb O=>?_) λB po=>?_
 .rw[enum_zip]at hw;obtain⟨x,_,rfl⟩:=Bc.mp hw;exact⟨_,_,rfl⟩
 .rw[enum_zip]at J;obtain⟨x,_,e⟩:=Bc.mp J;simp only[W.tup.injEq,Dk,and_true]at e;obtain⟨rfl,rfl⟩:=e;exact(O _ ⟨x,rfl,rfl⟩)
 .have K:B=oE (oH c):=by
   rw[enum_zip]at po;unfold oE oH;rw[Bm]
   revert po
   generalize c.zipIdx=l;intro po
   induction l generalizing B with
   | nil=>cases po;rfl
   | cons x l E=>
    cases po with
    | cons h t=>
     obtain⟨d,T,rfl⟩:=h;simp only[W.tup.injEq,Dk,W.int.injEq,W.str.injEq,and_true]at T;have:x=d:=Oq T.2 (by lia);subst this;rw[E _ t];rfl
  subst K;refine aV.frz ⟨oH c,rfl,small (by unfold oE oH;rw[Ab,Ab,List.length_zipIdx];lia),?_⟩;rw[MW (by simpa using zgL c),Lj];exact MV r
theorem BF(fs:List cA)(f:cA):(aT (iH fs) (fK f)).isSome=decide (f∈fs):=by
 unfold iH
 induction fs with
 | nil=>rfl
 | cons g fs E=>
  rw[Be,n8]
  by_cases h:g=f
  .subst h;rw[Uw rfl];simp
  .rw[Uv (λz=>h (mL _ _ z)),E];have:¬f=g:=λz=>h z.symm;simp[this]
theorem zgN{fs:List cA}{f:cA}(h:f∉fs):bZ (iH fs) (fK f) (.bl true)=iH (fs++[f]):=by
 unfold bZ;rw[Uv (by rw[show((iH fs).any λg=>decide (g.1=fK f))=(aT (iH fs) (fK f)).isSome from i0 _ _,BF,decide_eq_true_eq];exact h)];unfold iH;rw[Az];rfl
def eN(f:cA):W:=.tup ((fK f).map wK)
def mU(own:Aw->Bool)(ps:List Aw)(cut:List Int):List cA:=ps.zipIdx.filterMap λx=>if own x.1=true then some (x.1,cut.getD x.2 0,cut.getD (x.2+1) 0) else none
structure Wb(G:Sr)(B:cF):Prop where
 own:∀t,G.own t=ownB G.rs t
 few:G.rs.length<=100
 ord:vW G B
 bl:B.length<=2000
 pl:∀r∈G.rs,r.parts.length<=100
abbrev mV(B:cF):W:=.ft (dQ fK eX B)
def MX:a8:=λws M R=>∃(rs:List aE) (ps:List Aw) (cut:List Int),ws=[.dk (ownOf rs),.tup (ps.map W.str),fV cut]/\ps.length+1<=cut.length/\ps.length<=100/\aV ((mU (ownB rs) ps cut).map eN) M R
def vY(G:Sr)(B:cF)(p:cA->Bool):Prop:=∀e∈B,p e.1=true->∀f∈mU G.own (pV G e.2.2.1) e.2.2.2,p f=true
def MY:a8:=λws M R=>∃(G:Sr) (B:cF) (top:cA),ws=[bV G.rs,mV B,eN top]/\Wb G B/\top∈B.map (·.1)/\∀p:cA->Bool,p top=true->vY G B p->(∀q:cA->Bool,q top=true->vY G B q->∀f,p f=true->q f=true)->aV (((B.map (·.1)).filter p).map eN) M R
def MZ:a8:=λws M R=>∃(t:Aw) (b e:Int),ws=[.str t,.int b,.int e]/\R (.str t) M
def M8:a8:=λws M R=>∃(n:Nat) (p:Aj) (vs:List W),ws=[.int n,.ref p]/\M p=some (.lst vs)/\∀v,R v M
def M9(C:Cc):a8:=λws M R=>∃(G:Sr) (B:cF) (top:cA),ws=[bV G.rs,mV B,eN top,.ref C.f,.ref C.g]/\Wb G B/\top∈B.map (·.1)/\∀v,R v M
def NA(C:Cc):a8:=λws M R=>∃(G:Sr) (B:cF) (top:cA),ws=[bV G.rs,mV B,eN top]/\Wb G B/\top∈B.map (·.1)/\∀v,R v M
abbrev zgO:List Aw:=["own","parts","cut"]
abbrev zgP:aD:=
   (bS (eF (A7 (aA aS aC)) (gA 2 (cP (a7 0) (cP (a7 1) f9))) (bT (aG (cH false) aS a6)) (a9 (aA aS (aA (vX bJ aH) (aA (vX bJ (aG dD aH bD)) aC)))) [none,none,some 0,some 2]))
abbrev zgQ:List Aw:=["grammar","best","top","own","found","waiting","told","fact"]
abbrev zgR:aD:=
   (aW 3 (aZ lB (aA (bN (aZ iP (aA aH aC))) aC)))
abbrev zgS:aD:=
   (aW 4 (MC a6 (vC (.bl true))))
abbrev zgT:aD:=
   (aW 5 (iL (aA a6 aC)))
abbrev zgU:aD:=
   (aF (aW 6 (vX aS (qN "list" tZ c0)))
   (cL (bY cU (bN (aZ MX (aA bJ (aA (vX (vX aH (vX cS bD)) bD) (aA (vX cS lR) aC)))))) (a7 7)
    (cI (bT (aG (cH true) cT bG))
    (aF (gM (vC (.bl true)) (iE bG cT))
   (cE (eA "list" fJ c0 (aA cT aC))))
    dA)))
abbrev zgV:aD:=
   (mE (gK c0) zgU)
abbrev zgW:aD:=
   (bS (eF (bY rR aS) (a7 0) (bT (aG (cH false) aH aS)) aH [none,some 4]))
abbrev zgX:aD:=(aF zgR (aF zgS (aF zgT (aF zgV zgW))))
abbrev zgY:List Aw:=["grammar","best","top","of_word","of_rule","own","made","fact","number","cut","values","k","part"]
abbrev zgZ(C:Cc):aD:=
   (aW 5 (aZ lB (aA (bN (aZ iP (aA aH aC))) aC)))
abbrev zg0(C:Cc):aD:=
   (aW 6 mC)
abbrev zg1(C:Cc):aD:=
   (aF (aW 8 (vX (vX aS cT) bD))
   (aF (aW 9 (vX (vX aS cT) lR))
   (aF (aW 10 (iL aC))
   (aF (cL (A7 (aA (vX (vX aH gY) bD) aC)) (gA 2 (cP (a7 11) (cP (a7 12) f9)))
    (cI (bT (aG (cH false) xM c0))
    (cE (eA "list" fJ tJ (aA (vX cS (a9 (aA xM (aA (vX jJ tK) (aA (vX jJ (aG dD tK bD)) aC))))) aC)))
    (cE (eA "list" fJ tJ (aA (A6 3 C.f MZ (aA xM (aA (vX jJ tK) (aA (vX jJ (aG dD tK bD)) aC)))) aC)))))
   (gM (A6 4 C.g M8 (aA gY (aA tJ aC))) (iE cS cT))))))
abbrev zg2(C:Cc):aD:=
   (cL (bY cU (bN (aZ MY (aA aH (aA aS (aA a6 aC)))))) (a7 7) (zg1 C))
abbrev zg3(C:Cc):aD:=
   (bS (vX cS a6))
abbrev zg4(C:Cc):aD:=(aF (zgZ C) (aF (zg0 C) (aF (zg2 C) (zg3 C))))
abbrev zg5:List Aw:=["word","begin","end"]
abbrev zg6:aD:=
   (bS aH)
abbrev zg7:List Aw:=["number","children"]
abbrev zg8:aD:=
   (bS (a9 (aA aH (aA (bU tX (aA aS aC)) aC))))
abbrev zg9:List Aw:=["grammar","best","top"]
abbrev zha(C:Cc):aD:=
   (bS (aZ (M9 C) (aA aH (aA aS (aA a6 (aA (vC (.ref C.f)) (aA (vC (.ref C.g)) aC)))))))
theorem vZ(h:rs.length<=100):(namesOf rs).length<=400:=by
 have O:=qZ (rs.map aE.name) [];rw[Ab,Lk,Qe]at O;exact Bf O (Bf h (by decide))
theorem v3{cut:List Int}{k:Nat}(h:k<cut.length):b7 (cut.map W.int) (k:Int)=some (.int (cut.getD k 0)):=iJ (by rw[Ap,List.getD_eq_getElem?_getD,Bp h];rfl)
theorem zhb(h:MZ ws M R):zg6 (bA R) (bF zg5 ws) M:=by
 obtain⟨t,b,e,rfl,r⟩:=h;exact⟨_,aP,r⟩
theorem zhc(h:M8 ws M R):zg8 (bA R) (bF zg7 ws) M:=by
 obtain⟨n,p,vs,rfl,e,r⟩:=h;exact⟨_,e,_,aP,r _⟩
theorem zhd(h:NA C ws M R):zha C (bA R) (bF zg9 ws) M:=by
 obtain⟨G,B,top,rfl,w,ht,r⟩:=h;exact⟨G,B,top,rfl,w,ht,λv=>⟨_,aP,r v⟩⟩
def BG(rs:List aE)(cut:List Int):W->Option W
 | .tup [.int i,.str t]=>if ownB rs t=true then some (eN (t,cut.getD i.toNat 0,cut.getD (i.toNat+1) 0)) else none
 | _=>none
theorem zhe{F:W->Option W}{ws:List W}{os:List (Option W)}(h:Ff (λw o=>o=F w) ws os):os.filterMap id=ws.filterMap F:=by
 induction h with
 | nil=>rfl
 | cons a _ E=>rw[a,Eu,Eu,E];rfl
theorem zhf(rs:List aE)(cut:List Int)(ps:List Aw):(gC 0 (ps.map W.str)).filterMap (BG rs cut)=(mU (ownB rs) ps cut).map eN:=by
 unfold mU;rw[enum_zip,Kb,List.map_filterMap];refine congrArg (λf=>List.filterMap f ps.zipIdx) (funext λx=>?_);show(if ownB rs x.1=true then _ else none)=_;rw[Du]
 by_cases h:ownB rs x.1=true
 .rw[Uw h,Uw h];rfl
 .rw[Uv h,Uv h];rfl
theorem zhg{ws:List W}{M:Mm}{R:K3}(h:MX ws M R):zgP (bA R) (bF zgO ws) M:=by
 obtain⟨rs,ps,cut,rfl,hc,hp,r⟩:=h;refine⟨_,rfl,yP (rest:=[some (.dk (ownOf rs)),some (fV cut)]) (λw o=>o=BG rs cut w) (λw hw=>?_) (small (by rw[kU,Ab];lia)) (λ_ _=>trivial) (λa b hm M' C D sb h1 h2=>?_) λos po=>?_⟩
 .rw[enum_zip]at hw;obtain⟨x,_,rfl⟩:=Bc.mp hw;exact⟨_,_,rfl⟩
 .rw[enum_zip]at hm;obtain⟨⟨t,k⟩,hx,e⟩:=Bc.mp hm;cases e;have hk:=(An.mp (Gs.mp hx)).1;have ep:BG rs cut (.tup [.int (k:Int),.str t])=if ownB rs t=true then some (eN (t,cut.getD k 0,cut.getD (k+1) 0)) else none:=rfl;have ho:(aT (ownOf rs) (Sum.inr t:aB)).isSome=ownB rs t:=lE rs t;exact⟨_,⟨Sum.inr t,rfl,rfl⟩,cB (λz=>(so.of (v3 (by lia)) (so.of (v3 (k:=k+1) (by lia)) (h1 _ (by rw[ep,Uw (ho.symm.trans z)];rfl))))) λz=>h2 (by rw[ep,Uv (ne_true_of_eq_false (ho.symm.trans z))])⟩
 .rw[zhe po,zhf];exact MU r
structure FW(G:Sr)(B:cF)(top:cA)(ex:cA->Prop)(fs wt:List cA):Prop where
 tp:top∈fs
 nd:fs.Nodup
 sub:∀f∈fs,f∈B.map (·.1)
 wq:∀f∈wt,f∈fs
 wl:wt.length<=fs.length
 cl:∀e∈B,e.1∈fs->e.1∈wt\/ex e.1\/∀f∈mU G.own (pV G e.2.2.1) e.2.2.2,f∈fs
 mn:∀q:cA->Bool,q top=true->vY G B q->∀f∈fs,q f=true
theorem FW.len{G:Sr}{B:cF}{top:cA}{fs wt:List cA}{ex:cA->Prop}(h:FW G B top ex fs wt):fs.length<=B.length:=by
 have:=len_sub h.nd h.sub;rw[Ab]at this;exact this
theorem FW.add{G:Sr}{B:cF}{top g:cA}{fs wt:List cA}{ex:cA->Prop}(h:FW G B top ex fs wt)(t:g∉fs)(Y:g∈B.map (·.1))(J:∀q:cA->Bool,q top=true->vY G B q->q g=true):FW G B top ex (fs++[g]) (wt++[g]):=by
 refine⟨Bg _ h.tp,?_,λf hf=>?_,λf hf=>?_,(by rw[Ak,Ak];exact Nat.add_le_add_right h.wl _),λe P hf=>?_,λq O Z f hf=>(Ba.mp hf).elim (h.mn q O Z f) λz=>by rw[Am.mp z];exact J q O Z⟩
 .rw[Ek];exact⟨h.nd,(by simp),λa l b Y e=>t (by cases Am.mp Y;rw[<-e];exact l)⟩
 .rcases Ba.mp hf with z|z
  .exact h.sub f z
  .cases Am.mp z;exact Y
 .rcases Ba.mp hf with z|z
  .exact Bg _ (h.wq f z)
  .exact Bs _ z
 .rcases Ba.mp hf with z|z
  .rcases h.cl e P z with y|y|y
   .exact .inl (Bg _ y)
   .exact .inr (.inl y)
   .exact .inr (.inr λf hf=>Bg _ (y f hf))
  .exact .inl (Bs _ z)
def pW(fs:List cA):W->Option W
 | .tup [.str n,.int b,.int e]=>if (n,b,e)∈fs then some (.tup [.str n,.int b,.int e]) else none
 | _=>none
theorem zhh(fs i:List cA):(i.map eN).filterMap (pW fs)=(i.filter λf=>decide (f∈fs)).map eN:=by
 induction i with
 | nil=>rfl
 | cons f i E=>
  have e:pW fs (eN f)=if f∈fs then some (eN f) else none:=rfl;rw[Be,Eu,Fn,e,E]
  by_cases h:f∈fs
  .rw[Uw h,Uw (Uy h),Be]
  .rw[Uv h,Uv (by rw[Uz h];exact Av)]
theorem NB(h:f∈B.map (·.1)):∃v,aK B f=some v/\aT (dQ fK eX B) (fK f)=some (eX v):=by
 obtain⟨v,c⟩:=Eb.mp (i7.mpr h);exact⟨v,c,by rw[lA mL,c];rfl⟩
theorem zhi{G:Sr}{B:cF}(o:vW G B){e:En}(P:e∈B):aK B e.1=some e.2:=by
 obtain⟨a,b,sp⟩:=List.append_of_mem P;obtain⟨r,E⟩:=o a e b sp;rw[sp,zgE,E.no,eI,Uw rfl];rfl
theorem NC(E:BE G pre e r)(Z:g∈mU G.own r.parts e.2.2.2):g∈pre.map (·.1):=by
 obtain⟨⟨t,k⟩,S,T⟩:=Ka.mp Z;have S:=Gs.mp S
 by_cases D:G.own t=true
 .rw[Uw D]at T;cases T;exact i7.mp (E.pn k t S D)
 .rw[Uv D]at T;cases T
theorem BH(E:BE G pre e r):pV G e.2.2.1=r.parts:=by unfold pV;rw[E.ru];rfl
theorem zhj{ws:List W}{M:Mm}{R:K3}(h:MY ws M R):zgX (bA R) (bF zgQ ws) M:=by
 obtain⟨G,B,top,rfl,w,ht,r⟩:=h;have hown:G.own=ownB G.rs:=funext w.own;refine⟨G.rs,rfl,(Bf w.few (by decide)),aV.frz ⟨namesOf G.rs,rfl,vZ w.few,λp T=>⟨aL,fK top,rfl,(λq N=>?_)⟩⟩⟩;rw[c9]at N⊢;have hpq:q≠p:=λe=>by rw[e,aL]at N;cases N
 have hq0:M q=none:=by rw[aM hpq]at N;exact N
 have atp:∀{X Y:MO},put (put M p X) q Y p=some X:=λ{X Y}=>by rw[aM (Bq hpq),aL]
 have setp:∀{X X' Y:MO},put (put (put M p X) q Y) p X'=put (put M p X') q Y:=λ{X X' Y}=>by rw[qK hpq,c9]
 refine⟨λm L V=>∃fs wt Q o,L=[some (bV G.rs),some (mV B),some (eN top),some (.dk (ownOf G.rs)),some (.ref p),some (.ref q),Q,o]/\V=put (put M p (.dT (iH fs))) q (.lst (wt.map eN))/\FW G B top (λ_=>False) fs wt/\m=2*(B.length-fs.length)+wt.length,
  ⟨_,[top],[top],_,_,rfl,rfl,⟨List.mem_singleton_self _,(by simp),λf hf=>by cases Am.mp hf;exact ht,λf hf=>hf,Ai _,λe _ hf=>.inl hf,λq O _ f hf=>by rw[Am.mp hf];exact O⟩,rfl⟩,?_⟩
 rintro m L V ⟨fs,wt,Q,o,rfl,rfl,F,rfl⟩;refine(.inl ⟨_,aL,cB (λh=>?_) λh=>?_⟩)
 .rcases Gb wt with e|⟨wt',f,e⟩
  .rw[e]at h;cases h
  rw[Gd]at e;subst e;obtain⟨v,c,lv⟩:=NB (F.sub f (F.wq f (by simp)));obtain⟨pre,i,sp⟩:=uN c;obtain⟨ru,E⟩:=w.ord pre _ i sp;obtain⟨ru',O,Z⟩:=oC (rs:=G.rs) (n:=v.2.1) (An.mp E.ru).1;cases (show some ru'=some ru from O.symm.trans E.ru);refine⟨hW aL,_,_,by rw[Az];exact aL,_,⟨fK f,rfl,lv.symm⟩,(so.of Z ⟨G.rs,ru.parts,v.2.2,rfl,E.ln,w.pl ru (Ay O),aV.frz ?_⟩)⟩;rw[c9,<-hown];obtain⟨pf,hpf⟩:∃pf,pf=mU G.own ru.parts v.2.2:=⟨_,rfl⟩;rw[<-hpf];have hpB:∀g∈pf,g∈B.map (·.1):=λg t=>by
   rw[hpf]at t;rw[sp,Az];exact Bg _ (NC E t)
  have A:=F.len;refine uQ (λj L V=>∃fs2 wt2 o,L=[some (bV G.rs),some (mV B),some (eN top),some (.dk (ownOf G.rs)),some (.ref p),some (.ref q),some (eX v),o]/\V=put (put M p (.dT (iH fs2))) q (.lst (wt2.map eN))/\(∀g∈pf.take j,g∈fs2)/\FW G B top (λx=>x=f) fs2 wt2/\2*(B.length-fs2.length)+wt2.length+1<=2*(B.length-fs.length)+(wt'++[f]).length) ?_ ?_ ?_
  .refine⟨fs,wt',⟨_,rfl,rfl,(λg t=>nomatch t),⟨F.tp,F.nd,F.sub,λx S=>F.wq x (Bg _ S),Bf (by rw[Ak];exact Nat.le_add_right _ _) F.wl,λe P hf=>?_,F.mn⟩,by rw[Ak];exact Ai _⟩⟩;rcases F.cl e P hf with y|y|y
   .rcases Ba.mp y with y|y
    .exact .inl y
    .exact .inr (.inl (Am.mp y))
   .exact y.elim
   .exact .inr (.inr y)
  .rintro j x L V S ⟨fs2,wt2,o,rfl,rfl,hin,F2,J⟩ D1 hD1;rw[Ap]at S;obtain⟨g,t,rfl⟩:=Ax.mp S;have hgm:=Ay t;have hl2:=F2.len;have hbl:=w.bl;refine(.inr ⟨_,.inr ⟨iH fs2,fK g,atp,rfl,rfl⟩,?_⟩);show if (!(aT (iH fs2) (fK g)).isSome)=true then _ else _;rw[BF];refine cB (λU=>?_) λU=>?_
   .have U:g∉fs2:=of_decide_eq_false (by rw[<-Ie (decide _),U];rfl);have F3:=F2.add U (hpB g hgm) λq O Z=>Z (f,v) (by rw[sp];simp) (F.mn q O Z f (F.wq f (by simp))) g (by rw[show pV G v.2.1=ru.parts from BH E,<-hpf];exact hgm);have hl3:=F3.len;rw[Ak,Cf]at hl3;have lw:=F2.wl;refine(pD (k:=fK g) atp (by unfold iH;rw[Ab];exact dJ (by lia)) ?_);rw[zgN U,setp];refine⟨hW aL,⟨_,aL,dJ (by rw[Ab];lia),hD1 _ _ ⟨fs2++[g],wt2++[g],⟨_,rfl,?_,λy K=>?_,F3,?_⟩⟩⟩⟩
    .rw[c9,Az];rfl
    .rw[Bw,t]at K;rcases Ba.mp K with z|z
     .exact Bg _ (hin y z)
     .exact Bs _ z
    .rw[Ak,Ak,Cf];lia
   .have U:g∈fs2:=Ux (by rw[<-Ie (decide _),U];rfl);refine hD1 _ _ ⟨fs2,wt2,⟨_,rfl,rfl,λy K=>?_,F2,J⟩⟩;rw[Bw,t]at K;rcases Ba.mp K with z|z
    .exact hin y z
    .cases Am.mp z;exact U
  .rintro L V ⟨fs2,wt2,o,rfl,rfl,hin,F2,J⟩;rw[Ab,Br]at hin;refine⟨_,_,J,aP,fs2,wt2,_,⟨_,rfl,rfl,⟨F2.tp,F2.nd,F2.sub,F2.wq,F2.wl,λe P hf=>?_,F2.mn⟩,rfl⟩⟩;rcases F2.cl e P hf with y|y|y
   .exact .inl y
   .have:=zhi w.ord P;rw[y,c]at this;refine .inr (.inr λg t=>hin g ?_);rw[<-Ci this,show pV G v.2.1=ru.parts from BH E]at t;rw[hpf];exact t
   .exact .inr (.inr y)
 .have e:wt=[]:=by
   cases wt with
   | nil=>rfl
   | cons a b=>cases h
  subst e;have hbl:=w.bl;refine(ZC (rest:=[some (.ref p)]) (pW fs) (small (by rw[Ab,Ab];lia)) (λ_ _=>trivial) (λx S d C D sb d1 I=>?_) ?_)
  .rw[Bm]at S;obtain⟨e,P,rfl⟩:=Bc.mp S;have ei:pW fs (eN e.1)=if e.1∈fs then some (eN e.1) else none:=rfl;refine(.inr ⟨_,.inr ⟨iH fs,fK e.1,sb _ _ atp,rfl,rfl⟩,?_⟩);show if (aT (iH fs) (fK e.1)).isSome=true then _ else _;rw[BF];exact cB (λz=>(d1 _ (by show pW fs (eN e.1)=_;rw[ei,Uw (Ux z)];rfl))) λz=>I (by show pW fs (eN e.1)=_;rw[ei,Uv (of_decide_eq_false z)])
  .have e:((dQ fK eX B).map λp=>W.tup (p.1.map wK))=(B.map (·.1)).map eN:=by rw[Bm,Bm];rfl
   rw[e,zhh];have z:=r (λf=>decide (f∈fs)) (Uy F.tp) λe P hf f J=>by
    rcases F.cl e P (Ux hf) with y|y|y
    .cases y
    .exact y.elim
    .exact Uy (y f J)
   have z:=z λq O Z f hf=>F.mn q O Z f (Ux hf);intro s l;have H:s≠q:=λe=>by rw[e,aL]at l;cases l
   have u:s≠p:=λe=>by rw[e,atp]at l;cases l
   rw[aM H,aM u]at l;exact⟨_,Sub.put (gR (gR (aP) T) hq0),z s l⟩
theorem zhk(o:vW G B):(B.map (·.1)).Nodup:=by
 rw[Hf,Mw];refine Mi.mpr λi j hi D S e=>?_;obtain⟨r,E⟩:=o (B.take j) B[j] (B.drop (j+1)) (by rw[<-Jl D,List.take_append_drop]);have J:B[j].1∈(B.take j).map (·.1):=by
  rw[<-e];exact List.mem_map_of_mem (List.mem_iff_getElem.mpr ⟨i,by rw[Ca];lia,by rw[List.getElem_take]⟩)
 rw[<-i7,E.no]at J;cases J
theorem zhl(nd:l.Nodup)(e:l=a++f::b){j:Nat}(h:l[j]? = some f):l.take j=a:=by
 have:j=a.length:=(List.getElem?_inj (An.mp h).1 nd).mp (h.trans (by rw[e,Jb (Ai _),Nat.sub_self];rfl));rw[this,e,List.take_left]
abbrev pX(T:List (cA×W)):List (List aB×W):=dQ fK (λw=>w) T
theorem zhm{T:List (cA×W)}{g:cA}{v:W}(h:g∉T.map (·.1)):bZ (pX T) (fK g) v=pX (T++[(g,v)]):=by
 refine(zX (f:=λw=>w) mL _ g v).trans ?_;rw[vA (Option.not_isSome_iff_eq_none.mp λz=>h (i7.mp z))]
theorem zhn{C:Cc}{ws:List W}{M:Mm}{R:K3}(h:M9 C ws M R):zg4 C (bA R) (bF zgY ws) M:=by
 obtain⟨G,B,top,rfl,w,ht,r⟩:=h;have hown:G.own=ownB G.rs:=funext w.own;have nd:=zhk w.ord;refine⟨G.rs,rfl,(Bf w.few (by decide)),aV.frz ⟨namesOf G.rs,rfl,vZ w.few,λp hp=>⟨G,B,top,rfl,w,ht,λP hP hcl _=>aV.frz ?_⟩⟩⟩;obtain⟨F,hF⟩:∃F,F=(B.map (·.1)).filter P:=⟨_,rfl⟩;rw[<-hF];have ndF:F.Nodup:=by rw[hF];exact nd.filter _
 have lF:F.length<=2000:=Bf (by rw[hF];exact Iq _ _) (by rw[Ab];exact w.bl);refine dB (λj τ M'=>∃T o7 o8 o9 o10 o11 o12,τ=[some (bV G.rs),some (mV B),some (eN top),some (.ref C.f),some (.ref C.g),some (.dk (ownOf G.rs)),some (.ref p),o7,o8,o9,o10,o11,o12]/\M'=put M p (.dT (pX T))/\T.map (·.1)=F.take j) ⟨[],_,_,_,_,_,_,rfl,rfl,rfl⟩ ?_ ?_
 .rintro j x τ M' hx ⟨T,o7,o8,o9,o10,o11,o12,rfl,rfl,hT⟩;rw[Ap]at hx;obtain⟨f,hf,rfl⟩:=Ax.mp hx;have hfm:f∈F:=Ay hf;have hfm2:=hfm;rw[hF]at hfm2;obtain⟨hfB,hfP⟩:=Ep.mp hfm2;obtain⟨v,hv,lv⟩:=NB hfB;obtain⟨pre,post,sp⟩:=uN hv;obtain⟨ru,E⟩:=w.ord pre _ post sp;obtain⟨ru',h1,h2⟩:=oC (rs:=G.rs) (n:=v.2.1) (An.mp E.ru).1;cases (show some ru'=some ru from h1.symm.trans E.ru);have hpl:=w.pl ru (Ay h1);have hcutl:ru.parts.length+1<=v.2.2.length:=E.ln;have htk:F.take j=(pre.map (·.1)).filter P:=zhl ndF (by rw[hF,sp,Az,Be,List.filter_append,Fn,Uw hfP]) hf;have hpf:∀k t,ru.parts[k]? = some t->G.own t=true->(t,v.2.2.getD k 0,v.2.2.getD (k+1) 0)∈F.take j:=λk t hk ho=>by
   have hg:(t,v.2.2.getD k 0,v.2.2.getD (k+1) 0)∈mU G.own ru.parts v.2.2:=Ka.mpr ⟨(t,k),Gs.mpr hk,by rw[Uw ho]⟩;rw[htk];refine Ep.mpr ⟨NC E hg,hcl (f,v) (by rw[sp];simp) hfP _ ?_⟩;rw[BH E];exact hg
  have hnf:f∉F.take j:=λz=>by
   rw[htk]at z;have:=(Ep.mp z).1;rw[<-i7,E.no]at this;cases this
  refine⟨_,⟨fK f,rfl,lv.symm⟩,_,⟨fK f,rfl,lv.symm⟩,λq hq=>?_⟩;have hpq:q≠p:=λe=>by rw[e,aL]at hq;cases hq
  have atp:∀{X Y:MO},put (put M p X) q Y p=some X:=λ{X Y}=>by rw[aM (Bq hpq),aL]
  refine(so.of h2 ⟨_,rfl,?_⟩);refine dB (λk τ M'=>∃vs o11 o12,τ=[some (bV G.rs),some (mV B),some (eN top),some (.ref C.f),some (.ref C.g),some (.dk (ownOf G.rs)),some (.ref p),some (eN f),some (.int v.2.1),some (fV v.2.2),some (.ref q),o11,o12]/\M'=put (put M p (.dT (pX T))) q (.lst vs)/\vs.length=k) ⟨[],_,_,rfl,rfl,rfl⟩ ?_ ?_
  .rintro k x τ M' hx ⟨vs,o11,o12,rfl,rfl,hvs⟩;rw[qT,Ap]at hx;cases hs:ru.parts[k]? with
   | none=>rw[hs]at hx;cases hx
   | some t=>
    rw[hs]at hx;cases hx;have hk1:=(An.mp hs).1;have ho:(aT (ownOf G.rs) (Sum.inr t:aB)).isSome=G.own t:=by rw[hown];exact lE G.rs t
    have lk:vs.length<Ao:=dJ (by lia);have c1:b7 (v.2.2.map W.int) ((0+k:Nat):Int)=some (.int (v.2.2.getD k 0)):=by rw[Qe];exact v3 (by lia)
    have c2:b7 (v.2.2.map W.int) (((0+k:Nat):Int)+1)=some (.int (v.2.2.getD (k+1) 0)):=by rw[Qe];exact v3 (k:=k+1) (by lia)
    have fin:∀y,put (put (put M p (.dT (pX T))) q (.lst vs)) q (.lst (vs++[y]))=put (put M p (.dT (pX T))) q (.lst (vs++[y])):=λy=>c9;have fl:∀y,(vs++[y]).length=k+1:=λy=>by rw[Ak,hvs];rfl
    refine⟨rfl,rfl,_,⟨Sum.inr t,rfl,rfl⟩,cB (λz=>?_) λz=>?_⟩
    .obtain⟨y,hy⟩:=Eb.mp (i7.mpr (by rw[hT];exact hpf k t hs (ho.symm.trans z):(t,v.2.2.getD k 0,v.2.2.getD (k+1) 0)∈T.map (·.1)));exact⟨hW aL,so.of c1 (so.of c2 (n9 (k:=fK (t,v.2.2.getD k 0,v.2.2.getD (k+1) 0)) (w:=y) atp (by rw[lA mL,hy];rfl) ⟨_,aL,lk,_,aP,_,_,_,rfl,fin _,fl _⟩))⟩
    .exact⟨hW aL,rfl,so.of c1 (so.of c2 ⟨t,_,_,rfl,_,aL,lk,_,aP,_,_,_,rfl,fin _,fl _⟩)⟩
  .rintro τ M' ⟨vs,o11,o12,rfl,rfl,_⟩;have hTl:T.length=j:=by
    have:=congrArg Ia hT;rw[Ab,Ca]at this;have:=(An.mp hf).1;lia
   have:=(An.mp hf).1;refine⟨rfl,v.2.1,q,vs,rfl,aL,λy=>pD (k:=fK f) atp (dJ (by rw[Ab];lia)) ?_⟩;rw[zhm (by rw[hT];exact hnf),qK hpq,c9];refine⟨_,Sub.new ?_,T++[(f,y)],_,_,_,_,_,_,rfl,rfl,?_⟩
   .rw[aM hpq];rw[aM hpq]at hq;exact hq
   .rw[Az,hT,Bw,hf];rfl
 .rintro τ M' ⟨T,o7,o8,o9,o10,o11,o12,rfl,rfl,hT⟩;rw[Ab,Br]at hT;obtain⟨y,hy⟩:=Eb.mp (i7.mpr (by rw[hT,hF];exact Ep.mpr ⟨ht,hP⟩:top∈T.map (·.1)));exact n9 (k:=fK top) (w:=y) aL (by rw[lA mL,hy];rfl) ⟨_,Sub.new hp,r y⟩
section
variable {X:Cx}{pins:Pn}{Z:St}{H:Hp}{s:Ah}{a:Aj}
theorem Inv.swap{F G:Cr->Prop}(I:Inv X pins Z H s)(e:H a=some (.ext F))(W:∀j,b9 X.prog X.w j s.heap a (.ext G)):Inv X pins Z (aN H a (.ext G)) s:=by
 have ne:∀{b:Aj} {v:HO},H b=some v->v≠.ext F->b≠a:=λ{b v} T h z=>by subst z;rw[e]at T;exact h (Ci T).symm
 have f:∀{b:Aj},H b=none->b≠a:=λ{b} T z=>by subst z;rw[e]at T;cases T
 have d:∀b xs,H b=some (.tup xs)->aN H a (.ext G) b=some (.tup xs):=λb xs t=>by
  rw[bB (ne t (λz=>by cases z))];exact t
 have g:∀b y,H b=some (.own y)->aN H a (.ext G) b=some (.own y):=λb y t=>by
  rw[bB (ne t (λz=>by cases z))];exact t
 refine I.step (h':=s.heap) (g':=s.gens) (d':=s.drawn) (t':=s.toks) (ch:=[]) (λ_ z=>nomatch z) (λb o _ _ _ T _=>T) (λb o _ _ _ T _=>⟨o.slots,T⟩) (λb o _ _ n=>by rw[bB (f n)];exact n) (λb o _ T=>⟨o,T⟩) d
  (λb ob v t=>?_) (λb ps t=>⟨#[],?_⟩) (λm J=>J) (λb v t=>?_) I.bare
 .rw[bB (ne t (λz=>by cases z))];exact t
 .rw[bB (ne t (λz=>by cases z)),t];simp
 .by_cases Y:b=a
  .subst Y;rw[b8]at t;cases t;exact W _
  .rw[bB Y]at t;exact(I.hok b v t).stay (λ_ _ _ q=>q) (λc q=>g c b q) d
def BI(P:Ar)(w:Bk)(tl:List Int)(a:Aj)(o:Lc)(n:Nat):It:=
 ⟨λi H=>(∃es,H a=some (.ext (gW P w tl a es o)))/\i<n,λi H x j=>j=H/\∃b en m ep,o.data=.dict m ep/\m[i]? = some en/\en.key=.ref b/\x=.ref b,λi H=>(∃es,H a=some (.ext (gW P w tl a es o)))/\n<=i⟩
theorem zho{P:Ar}{w:Bk}{K:Ac}{j:Cb}{tl:List Int}(a it:Aj)(o:Lc)(m:Array Ec)(ep:Nat)(hd:o.data=.dict m ep)(hk:∀(i:Nat) (en:Ec),m[i]? = some en->∃b,en.key=.ref b):
  iT P w K j (BI P w tl a o m.size) [it] it (λi h=>h.IsKeyIter it a i m.size ep) where
 mem:=by simp
 obj:=λi h st b Y=>by
  have e:b=it:=by simpa using Y
  subst e;obtain⟨o,e,c,d⟩:=st;exact⟨o,e,λv z=>by rw[d]at z;cases z⟩
 keep:=λi h h' st k=>st.at λo e=>k it (by simp) o e
 item:=by
  intro X g hw B hc i pins s Z H E I hf st W;subst g hw B;obtain⟨⟨es,T⟩,hi⟩:=W;have D:s.heap.get? a=some o:=(show b9 X.prog X.w H s.heap a (.ext (gW X.prog X.w tl a es o)) from I.hok a _ T).1.1;obtain⟨b,Y⟩:=hk i m[i] (by simp[hi]);obtain⟨R,V,l,f,M,G⟩:=hf it (by simp);refine tF false st D hd hi λh' F sb=>?_;have L:Inv X pins Z H {s with heap:=h'}:=I.turned (t':=s.toks) (λb o Y e=>(sb.2 b Y).trans e) R V f M G;obtain⟨O,e,c,d⟩:=id F;exact⟨_,rfl,oI (s:={s with heap:=h'}) e c d (by decide) ⟨.ref b,H,L,Y,⟨rfl,b,_,_,_,hd,by simp[hi],Y,rfl⟩,F,λb Y=>(hf b Y).1⟩⟩
 done:=by
  intro X g hw B hc i pins s Z H E I hf st W;subst g hw B;obtain⟨⟨es,T⟩,hi⟩:=W;have D:s.heap.get? a=some o:=(show b9 X.prog X.w H s.heap a (.ext (gW X.prog X.w tl a es o)) from I.hok a _ T).1.1;refine tG false (I.ok.hd hc) st D hd (by lia) λh' hk=>⟨rfl,?_⟩
  exact I.turnedT (tk:=s.toks) hf λq o N eq=>hk q o (λz=>N (by simp[z])) eq
 self:=λ_ _ _ _ _ st h=>Pp st h
end
section
variable {X:Cx}
abbrev BJ(P:Ar)(w:Bk)(tl:List Int):W->Mm->(List W->(Mm->Prop)->Mm->Prop)->Prop:=λx I R=>∃a kvs o,x=.ref a/\I a=some (.dh P w tl kvs o)/\R (kvs.map λp=>fD tl p.1) (λM=>M a=some (.dh P w tl kvs o)) I
theorem zhp{K:Ac}{d:Hp}{X:Mm}{P:Ar}{w:Bk}{tl:List Int}{a:Aj}{o:Lc}{kvs:List (bM×W)}{m:Array Ec}{ep:Nat}(hd:o.data=.dict m ep)(f:m.size=kvs.length):iF K d X (BI P w tl a o m.size) (kvs.map λp=>fD tl p.1) λM=>M a=some (.dh P w tl kvs o):=by
 refine⟨λi H M k U e hi=>?_,λH M k U e=>?_,λi H M x j k U e hi y=>?_⟩
 .obtain⟨es,T,_⟩:=U _ _ e;rw[Ab]at hi;exact⟨⟨es,T⟩,by lia⟩
 .obtain⟨es,T,_⟩:=U _ _ e;exact⟨⟨es,T⟩,by rw[Ab];lia⟩
 .obtain⟨rfl,b,en,c,Q,g,L,Y,rfl⟩:=y;cases hd.symm.trans g;obtain⟨es,T,⟨n,s,G,hsz,hz⟩,q⟩:=U _ _ e;cases hd.symm.trans G;obtain⟨z,l,R⟩:=hz i en L;rw[Y]at R;cases R;have:∀{es:List (bM×Aj×V)} {kvs:List (bM×W)} {i:Nat},PN K j M tl es kvs->es[i]? = some z->∃p,kvs[i]? = some p/\z.1=p.1/\gX j tl z.1 z.2.1:=by
   intro es kvs i r
   induction r generalizing i with
   | nil=>intro h;cases h
   | @cons p q ps qs N t E=>
    intro h;cases i with
    | zero=>cases h;exact⟨q,rfl,N.1,N.2.1⟩
    | succ i=>rw[Ej]at h⊢;exact E h
  obtain⟨p,O,B,v⟩:=this q l;exact⟨fD tl p.1,by rw[Ap,O];rfl,Kp.refl U,U,by rw[<-B];exact gX.av v⟩
theorem zhq{j:Cb}{tl:List Int}:kS X j (qR X.K (BJ X.prog X.w tl)):=by
 rintro pins s Z H x u D I B ⟨F,M,R,N,U,⟨a,kvs,o,rfl,e,h⟩,k⟩;obtain rfl:=N.inv;cases (show u=Value.ref a from B);obtain⟨es,T,⟨m,ep,hd,hsz,hz⟩,q⟩:=U _ _ e;have hl:=Cu q;have hh:=(show b9 X.prog X.w H s.heap a (.ext (gW X.prog X.w tl a es o)) from I.hok a _ T).1;obtain⟨c,Q,g,_,_,G,_⟩:=rF hh.2;have fp:∀b∈[s.heap.objs.size],gF X pins H b:=λb Y=>by
  have e:b=s.heap.objs.size:=by simpa using Y
  subst e;exact I.fpOk (Ai _) (I.hok.fresh (Ai _))
 have g:fZ s.heap a m ep:=by
  obtain⟨L,A,V,C⟩:=g;rw[hh.1]at A;cases A;exact⟨o,hh.1,V,hd⟩
 exact tH G g ⟨s.heap.objs.size,[s.heap.objs.size],_,BI X.prog X.w tl a o m.size,H,rfl,I.kept (t':=s.toks) λb o e=>Ag _ e,zho a _ o m ep hd (λi en P=>(hz i en P).elim λz y=>⟨_,y.2⟩),⟨_,Au _ rfl,rfl,rfl⟩,fp,k _ _ _ _ _ (Kp.refl U) U (zhp hd (by lia)) h⟩
theorem zhr(hl:E3 X l tl):PI X j l (fL X.K (bY (BJ X.prog X.w n) tl)):=t7 hl zhq
theorem BK{K:Ac}{H:Hp}{M:Mm}{a:Aj}{c o:MO}{u:HO}(U:AM K H M)(e:M a=some c):Go H M (aN H a u) (put M a o):=by
 have f:∀{b:Aj},M b=none->b≠a:=λ{b} h z=>by subst z;rw[e]at h;cases h
 refine⟨λb xs t=>?_,λb ob v t=>?_,λb v n t=>?_⟩
 .rw[bB (f (U.noTup t))];exact t
 .rw[bB (f (U.noFrz t))];exact t
 .rw[bB (f n),aM (f n)];exact⟨t,n⟩
theorem ND{K:Ac}{H:Hp}{M:Mm}{a:Aj}{c o:MO}{u:HO}(U:AM K H M)(e:M a=some c)(F:AO K (aN H a u) (put M a o) a o):AM K (aN H a u) (put M a o)/\Kp H M (aN H a u) (put M a o):=by
 have go:Go H M (aN H a u) (put M a o):=BK U e;refine⟨λb T t=>?_,λb v n t=>go.hl b v n t,λb v t=>?_⟩
 .by_cases Y:b=a
  .subst Y;rw[aL]at t;cases t;exact F
  .rw[aM Y]at t;exact(U b T t).go go (bB Y)
 .by_cases Y:b=a
  .subst Y;exact⟨_,b8⟩
  .obtain⟨y,q⟩:=(U b v t).has;exact⟨y,by rw[bB Y];exact q⟩
abbrev BL(P:Ar)(w:Bk)(tl:List Int)(te:aR):aR:=λL M R=>∃a kvs,M a=some (.dn P w tl kvs)/\∀o,te L (put M a (.dh P w tl kvs o)) λx V=>V a=some (.dh P w tl kvs o)/\R x (put V a (.dn P w tl kvs))
theorem zhs(h:E3 X e te):E3 X e (BL X.prog X.w tl te):=by
 rintro pins s σ H Q I ⟨L,M,R,A,U,⟨a,kvs,F,h'⟩,k⟩;obtain⟨es,T,q⟩:=U _ _ F;have S:=pM I T;obtain⟨m,ep,g,hsz,_,_,hz⟩:=rF S;obtain⟨o,D,hc,hd⟩:=g;have J:gW X.prog X.w tl a es o s.heap:=⟨D,S⟩;have i:=I.swap T (G:=gW X.prog X.w tl a es o) λ_=>J.ok;have go:Go H M (aN H a (.ext (gW X.prog X.w tl a es o))) (put M a (.dh X.prog X.w tl kvs o)):=BK U F;obtain⟨E,k2⟩:=ND (o:=.dh X.prog X.w tl kvs o) (u:=.ext (gW X.prog X.w tl a es o)) U F ⟨es,b8,⟨m,ep,hd,hsz,λj en P=>(hz j en P).elim λz y=>⟨z,y.1,y.2.1⟩⟩,Paired.mapP q λp r z=>⟨z.1,let ⟨pa,n1,n2⟩:=z.2.1;⟨pa,go.ht _ _ n1,go.ht _ _ n2⟩,z.2.2.go go⟩⟩;refine aY (h pins s σ _ (λx K=>∃l,K a=some (.ext (gW X.prog X.w tl a l o))/\Q x (aN K a (.ext (dC X.prog X.w tl a l)))) i ⟨L,_,_,A.kp U k2,E,h' o,λv O w V B d av ⟨eM,r⟩=>?_⟩) λv W ⟨x,K,n,c,l,t,Z⟩=>?_
 .obtain⟨l,Y,_,C⟩:=d _ _ eM;have go4:Go O V (aN O a (.ext (dC X.prog X.w tl a l))) (put V a (.dn X.prog X.w tl kvs)):=BK d eM;obtain⟨b,N⟩:=ND (o:=.dn X.prog X.w tl kvs) (u:=.ext (dC X.prog X.w tl a l)) d eM ⟨l,b8,Paired.mapP C λp r z=>⟨z.1,let ⟨pa,n1,n2⟩:=z.2.1;⟨pa,go4.ht _ _ n1,go4.ht _ _ n2⟩,z.2.2.go go4⟩⟩;exact⟨l,Y,k _ _ _ _ ((k2.trans B).trans N) b (av.go go4) r⟩
 .have f:=(show b9 X.prog X.w K W.heap a (.ext (gW X.prog X.w tl a l o)) from n.hok a _ t).1;exact⟨x,_,n.swap t (λ_=>dC.ok f.2),c,Z⟩
end
def NF(P:Ar)(w:Bk)(C:Aj):a8:=λws M R=>∃a d dx l,∃x:Aw,ws=[.ref a,.str x]/\jB P w C M a d dx l/\l.length<=100000/\∀b,R (.bl b) M
abbrev zht:List Aw:=["self","name"]
abbrev zhu(P:Ar)(w:Bk)(C:Aj):aD:=
   (bS (bU uH (aA (bN (BL P w [0] (eF (bY (BJ P w [0]) (cQ C aH "backs")) (a7 0) fM (aG (cH false) aS (vX aH bD)) [none,some 1]))) aC)))
theorem zhv(h:NF P w C ws M R):zhu P w C (bA R) (bF zht ws) M:=by
 obtain⟨a,d,dx,l,x,rfl,pl,hl,r⟩:=h;have k:a≠d:=λe=>by have O:=pl.ob;rw[e,pl.di]at O;cases O
 refine⟨d,kvsOf l,pl.di,λo=>?_⟩;have S:put M d (.dh P w [0] (kvsOf l) o) a=some (.ins C dx [("backs",.ref d)]):=by rw[aM k];exact pl.ob
 have X:Ce ("backs" : Aw) [(("backs" : Aw),W.ref d)]=some (.ref d):=by rw[Dx,show(("backs" : Aw)==("backs" : Aw))=true by decide +kernel]
 refine⟨a,dx,_,_,rfl,S,X,d,kvsOf l,o,rfl,aL,?_⟩;have u:((kvsOf l).map λp=>fD [0] p.1)=(l.map λz=>mQ z.1).map bE:=by
  unfold kvsOf;rw[Bm,Bm];exact Eg λz _=>AR z.1
 rw[u];refine nS (rest:=[some (.str x)]) (λw=>match w with|.tup [_,.tup ps,_]=>.bl (inW (.str x) ps)|_=>.non) (small (by rw[Ab,Ab];lia)) (λV sb=>sb _ _ aL) (λw hw V C sb O=>?_) λp B=>?_
 .obtain⟨q,N,rfl⟩:=Bc.mp hw;exact⟨rfl,rL _,O⟩
 .have b:p≠d:=λe=>by rw[e,aL]at B;cases B
  have i:M p=none:=by rw[aM b]at B;exact B
  refine⟨by rw[aM (Bq b),aL],?_⟩;rw[qK b,c9,show put M d (.dn P w [0] (kvsOf l))=M from xK pl.di];refine EY i ?_;have T:(((l.map λz=>mQ z.1).map bE).map λw=>match w with|.tup [_,.tup ps,_]=>W.bl (inW (.str x) ps)|_=>.non)=bools (l.map λz=>inW (.str x) (z.1.2.map W.str)):=by
   unfold bools;rw[Bm,Bm,Bm];rfl
  rw[T];exact⟨_,rfl,_,aP,r _⟩
def zhw(rs:List aE)(D:List Aw):Prop:=∃n,D=eL rs n/\iQ rs D=D
def drK(kvs:List (aB×W))(t:Aw):Bool:=(aT kvs (Sum.inr t:aB)).isSome
def kB(kvs:List (aB×W))(t:Aw):W:=(aT kvs (Sum.inr t:aB)).getD .non
abbrev v5(rs:List aE)(D:List Aw)(kvs:List (aB×W))(ps:List Aw):List iG:=mM (dW rs D) (drK kvs) (kB kvs) ps
def kC(x:iG):W:=.tup [.tup (x.1.map W.str),.tup x.2]
def BM(rs:List aE)(D:List Aw)(kvs:List (aB×W))(X:Aw):Prop:=∃r∈rs,r.name=X/\∃x∈v5 rs D kvs r.parts,x.1≠[]/\x.1≠[X]
def NG(C:Cc):a8:=λws M R=>∃rs:List aE,ws=[bV rs,.rl [],.rl (rs.map λ_=>W.int 0)]/\fP rs/\∀B,kZ (j5 rs []) B->jH (dQ fK eX B) M R
def NH(C:Cc):a8:=λws M R=>∃rs:List aE,ws=[bV rs]/\fP rs/\∀kvs,(∀X,drK kvs X=k7 rs false X)->iZ kvs M R
def NI:a8:=λws M R=>∃rs:List aE,ws=[bV rs]/\fP rs/\∀D,zhw rs D->iZ (D.map cD) M R
def NJ:a8:=λws M R=>∃(rs:List aE) (D:List Aw) (kvs:List (aB×W)) (ps:List Aw),ws=[.tup (ps.map W.str),.dk (ownOf rs),.dk (D.map cD),.dk kvs]/\ps.length<=4/\R (.rl ((v5 rs D kvs ps).map kC)) M
def NK(P:Ar)(w:Bk)(C:Cc):a8:=λws M R=>∃(a d dx:Aj) (l:List (NP×W)) (rs:List aE) (X:Aw) (D:List Aw) (kvs:List (aB×W)),ws=[.ref a,bV rs,.str X,.dk (D.map cD),.dk kvs]/\jB P w C.p M a d dx l/\l.length<=50000/\fP rs/\∀m,Gr l 272 (BM rs D kvs X) m->R .non (put M d (.dn P w [0] (kvsOf m)))
def BN:a8:=λws M R=>∃rs:List aE,ws=[bV rs]/\fP rs/\∀l,l≠[]->oG l M R
abbrev zhx:List Aw:=["grammar","row","weights"]
abbrev zhy(C:Cc):aD:=
   (bS (aZ (AA C) (aA aH (aA (bN (aZ MS (aA aS aC))) (aA (bN (aZ MT (aA aS aC))) (aA a6 aC))))))
abbrev zhz:List Aw:=["grammar","best"]
abbrev zhA(C:Cc):aD:=
   (aF (aW 1 (rQ (aZ (NG C) (aA aH (aA (fU aC) (aA (bN (aZ AI (aA aH aC))) aC))))))
   (bS (bU yT (aA (bN (eF (bY rR aS) (a7 0) fM (a9 (aA (vX aH bL) (aA (aZ (NA C) (aA aS (aA a6 (aA aH aC)))) aC))) [none,some 0,some 1])) aC))))
abbrev zhB:List Aw:=["grammar","own","fruitful","rules","wordy","size","rule"]
abbrev zhC:aD:=
   (aW 1 (aZ lB (aA (bN (aZ iP (aA aH aC))) aC)))
abbrev zhD:aD:=
   (aW 2 (bN (aZ AJ (aA aH aC))))
abbrev zhE:aD:=
   (aW 3 (bN (eF (bY cU aH) (a7 0) (gK (bU tY (aA (bN (eF (bY cU (vX aH bD)) (a7 0) fM (nL (aG (cH false) aH aS) (aG (cH true) aH a6)) [none,some 1,some 2])) aC))) aH [none,some 2,some 1])))
abbrev NL:aD:=
   (aW 4 t5)
abbrev zhF:aD:=
   (aW 5 (jY j0 bD))
abbrev zhG:aD:=
   (aF (aW 5 (bU dH (aA bG aC)))
   (cL (bY cU bJ) (a7 6)
    (cI (gK (bU uH (aA (bN (eF (bY cU (vX cS bD)) (a7 0) fM (nL (aG (cH false) aH aS) (aG (cH true) aH a6)) [none,some 4,some 1])) aC)))
    (gM (vC (.bl true)) (iE bG (vX cS bL)))
    dA)))
abbrev zhH:aD:=
   (mE (bT (aG nN c0 (bU dH (aA bG aC)))) zhG)
abbrev zhI:aD:=
   (bS bG)
abbrev zhJ:aD:=(aF zhC (aF zhD (aF zhE (aF NL (aF zhF (aF zhH zhI))))))
abbrev zhK:List Aw:=["parts","own","wordy","empties","told","part","kept","left"]
abbrev zhL:aD:=
   (aW 4 (fU (aA (a9 (aA (a9 aC) (aA (a9 aC) aC))) aC)))
abbrev zhM:aD:=
   (aF (aW 6 (bN (eF (bY jM bG) (gA 2 (cP (a7 0) (cP (a7 1) f9))) (lU (bT (aG (cH false) a6 bJ)) (bT (aG (cH true) a6 bG))) (a9 (aA (aG mT aH (a9 (aA a6 aC))) (aA (aG mT aS (a9 (aA (bU dH (aA aH aC)) aC))) aC))) [none,none,some 5,some 2,some 1])))
   (aF (aW 7 (bN (eF (bY jM bG) (gA 2 (cP (a7 0) (cP (a7 1) f9))) (bT (aG (cH false) a6 bJ)) (a9 (aA aH (aA (aG mT aS (a9 (aA (a9 (aA (vC (.str "whole")) (aA (vX bJ a6) aC))) aC))) aC))) [none,none,some 5,some 3])))
   (aW 4 (aG dD cS cT))))
abbrev zhN:aD:=
   (cL (bY cU aH) (a7 5) zhM)
abbrev zhO:aD:=
   (bS bG)
abbrev zhP:aD:=(aF zhL (aF zhN zhO))
abbrev zhQ:List Aw:=["plain","grammar","name","wordy","empties","own","number","parts","pieces"]
abbrev zhR(P:Ar)(w:Bk)(C:Cc):aD:=
   (aF (aW 5 (aZ lB (aA (bN (aZ iP (aA aS aC))) aC)))
   (cL (bY cU (bN (aZ vT (aA aS (aA a6 aC))))) (a7 6)
    (cL (bY jM (bN (aZ NJ (aA (vX (vX aS cS) bD) (aA c0 (aA bJ (aA bG aC))))))) (gA 2 (cP (a7 7) (cP (a7 8) f9)))
    (cI (kN (bT (aG (eC true) cT (a9 aC))) (bT (aG (eC true) cT (a9 (aA a6 aC)))))
    (cE (dU C.p "put_rule" (mR P w C.p) aH (aA a6 (aA cT (aA (a9 (aA (a9 (aA cS (aA gY aC))) aC)) aC)))))
    dA))))
abbrev zhS:List Aw:=["grammar","first","wordy","empties","plain","name","ahead","begin","told","begun"]
abbrev zhT(P:Ar)(w:Bk)(C:Cc):aD:=
   (aW 1 (aZ rJ (aA aH aC)))
abbrev zhU(P:Ar)(w:Bk)(C:Cc):aD:=
   (aW 2 (bN (aZ NI (aA aH aC))))
abbrev zhV(P:Ar)(w:Bk)(C:Cc):aD:=
   (aW 3 (bN (aZ (NH C) (aA aH aC))))
abbrev zhW(P:Ar)(w:Bk)(C:Cc):aD:=
   (cI (kN (bT (aG (cH true) aS a6)) (bT (aG (cH true) aS bJ)))
    (bS (aZ BA (aA aH aC)))
    dA)
abbrev NO(P:Ar)(w:Bk)(C:Cc):aD:=
   (aW 4 (k9 C.p (pT P w C.p) aC))
abbrev zhX(P:Ar)(w:Bk)(C:Cc):aD:=
   (cE (aZ (NK P w C) (aA bG (aA aH (aA c0 (aA a6 (aA bJ aC)))))))
abbrev NQ(P:Ar)(w:Bk)(C:Cc):aD:=
   (cL (bY cU (bN (aZ iP (aA aH aC)))) (a7 5) (zhX P w C))
abbrev BO(P:Ar)(w:Bk)(C:Cc):aD:=
   (aW 6 (k9 C.p (pT P w C.p) aC))
abbrev NR(P:Ar)(w:Bk)(C:Cc):aD:=
   (cI (bT (aG (cH false) aS bJ))
    (aF (aW 7 aS)
   (aF (cI (gK (dU C.p "is_part" (NF P w C.p) bG (aA aS aC)))
    (aF (aW 7 (vX (bN (aZ AW (aA (bN (aZ iP (aA aH aC))) (aA bD aC)))) bL))
   (cE (dU C.p "put_rule" (mR P w C.p) cS (aA cT (aA (a9 (aA aS aC)) (aA (a9 (aA bL aC)) aC))))))
    dA)
   (cE (dU C.p "put_rule" (mR P w C.p) cS (aA cT (aA (a9 aC) (aA (a9 (aA (a9 (aA (vC (.str "whole")) (aA (vX bJ aS) aC))) aC)) aC)))))))
    dA)
abbrev BP(P:Ar)(w:Bk)(C:Cc):aD:=
   (aW 8 (dU C.p "grammar_and_backs" (pU P w C.p) bG aC))
abbrev BQ(P:Ar)(w:Bk)(C:Cc):aD:=
   (aW 9 (dU C.p "grammar_and_backs" (pU P w C.p) cS aC))
abbrev BR(P:Ar)(w:Bk)(C:Cc):aD:=
   (bS (a9 (aA (aG tO (vX jJ bL) (vX gY bL)) (aA (aG tO (vX jJ bD) (vX gY bD)) aC))))
abbrev zhY(P:Ar)(w:Bk)(C:Cc):aD:=(aF (zhT P w C) (aF (zhU P w C) (aF (zhV P w C) (aF (zhW P w C) (aF (NO P w C) (aF (NQ P w C) (aF (BO P w C) (aF (NR P w C) (aF (BP P w C) (aF (BQ P w C) (BR P w C)))))))))))
theorem NS{rs:List aE}{keep:Mm->Prop}{H:cR}{te:aR}{o:Option W}{rest:S3}{I:Mm}{R:K3}(f:aE->Option W)(hl:rs.length<=1000)(hk:∀M,L2.Sub I M->keep M)(F:∀q∈rs,∀M (C:K3) (D:Mm->Prop),L2.Sub I M->(∀y,f q=some y->C y M)->(f q=none->D M)->H (some (bE q)::rest) M λb t=>if b=true then te (some (bE q)::rest) t C else D t)(r:aV (rs.filterMap f) I R):gN (rs.map bE) keep (a7 0) H te (o::rest) I R:=by
 unfold gN;intro p B;refine⟨λi L acc M=>(∃o,L=o::rest)/\acc=(rs.take i).filterMap f/\M=I,⟨⟨_,rfl⟩,rfl,rfl⟩,?_,?_,?_⟩
 .rintro vs i L acc M _ d ⟨_,_,rfl⟩;exact hk _ (Sub.new B)
 .rintro vs i w L acc M hw d ⟨⟨o,rfl⟩,rfl,rfl⟩;rw[Ap]at hw;obtain⟨q,N,rfl⟩:=Ax.mp hw;have tk:rs.take (i+1)=rs.take i++[q]:=by rw[Bw,N];rfl
  have j:((rs.take i).filterMap f).length<Ao:=dJ (by have O:=List.length_filterMap_le f (rs.take i);rw[Ca]at O;lia);refine F q (Ay N) _ _ _ (Sub.new B) (λy K=>⟨aL,j,M,by rw[iY B];exact aP,⟨_,rfl⟩,?_,rfl⟩) λU=>⟨aL,M,by rw[iY B];exact aP,⟨_,rfl⟩,?_,rfl⟩
  .rw[tk,List.filterMap_append];simp[K]
  .rw[tk,List.filterMap_append];simp[U]
 .rintro L acc M d ⟨_,rfl,rfl⟩;rw[Ab,Br];exact r p B
theorem NT(rs:List aE)(p:aE->Bool):rs.filterMap (λq=>if p q=true then some (bE q) else none)=(rs.filter p).map bE:=by
 induction rs with
 | nil=>rfl
 | cons q rs E=>
  rw[Eu,Fn,E];cases p q<;>rfl
theorem zhZ(h:NG C ws M R):zhy C (bA R) (bF zhx ws) M:=by
 obtain⟨rs,rfl,g,r⟩:=h;refine⟨[],rfl,by decide,aV.frz ⟨[],rfl,by decide,jH.frz ⟨j5 rs [],⟨rs,ownOf rs,[]⟩,by rw[<-LH rs.length rs rfl];rfl,g.few100,rfl,⟨rfl,lE rs,λt p=>.inl ⟨rfl,Uv λz=>nomatch z.2⟩⟩,IG rs [],λq N=>Bf (g.prt q N) (by decide),λB F=>MV (r B F)⟩⟩⟩
theorem zh0(h:NH C ws M R):zhA C (bA R) (bF zhz ws) M:=by
 obtain⟨rs,rfl,g,r⟩:=h;refine⟨rs,rfl,g.few100,aV.frz ⟨rs,rfl,g,λB F p hp=>⟨p,rfl,.inr ⟨_,aL,?_⟩⟩⟩⟩;rw[iY hp];have hbl:B.length<=rs.length:=IJ F;have h100:=g.few100;have wb:Wb (j5 rs []) B:=⟨λ_=>rfl,h100,zgF F,by lia,λq hq=>Bf (g.prt q hq) (by decide)⟩;show gN ((dQ fK eX B).map λp=>W.tup (p.1.map wK)) _ _ _ _ _ _ _;rw[LG];refine uD (rest:=[some (bV rs),some (mV B)]) (λw y=>∃f v,w=W.tup ((fK f).map wK)/\y=W.tup [.str f.1,v]) (small (by rw[Ab,Ab];lia)) (λ_ _=>trivial) (λw hw M' C sb h1=>?_) λys po=>aV.frz ?_
 .obtain⟨f,hf,rfl⟩:=Bc.mp hw;exact⟨j5 rs [],B,f,rfl,wb,hf,λv=>h1 _ ⟨f,v,rfl,rfl⟩⟩
 .obtain⟨kvs,rfl,hk⟩:=AG po;have hyl:=Cu po;rw[Ab,Ab]at hyl;exact⟨kvs,rfl,small (by lia),λq hq=>⟨_,aP,r _ (K6 (ss:=[]) (w:=false) (λq hq t ht ho=>⟨(λz=>nomatch z),λz=>(Av z).elim⟩) F hk) q hq⟩⟩
theorem zh1{ts:List Aw}{f:Aw->Bool}:(ts.map f).all id=ts.all f:=by rw[Nu];rfl
theorem zh2{ts:List Aw}{f:Aw->Bool}:(ts.map f).any id=ts.any f:=by rw[Lw];rfl
theorem NU{b:Bool}(h0:τ[0]? = some (some (.str t)))(hx:τ[1]? = some (some x))(hd:∀R:K3,R (.bl b) M->cH false (.str t) x M R)(h2:τ[2]? = some (some (.dk (ownOf rs))))(r:R (.bl (b||!ownB rs t)) M):
  nL (aG (cH false) (cY 0) (cY 1)) (aG (cH true) (cY 0) (cY 2)) τ M R:=by
 simp only[nL,aG,cY,h0,hx,h2];refine hd _ (cB (λz=>?_) λz=>⟨_,⟨Sum.inr t,rfl,rfl⟩,?_⟩)
 .rw[z]at r;exact r
 .show R (.bl (!(aT (ownOf rs) (Sum.inr t:aB)).isSome)) M;rw[z,Mz]at r;rw[lE];exact r
theorem zh3{ws:List W}{M:Mm}{R:K3}(h:NI ws M R):zhJ (bA R) (bF zhB ws) M:=by
 obtain⟨rs,rfl,g,r⟩:=h;have h17:=g.few;have h100:=g.few100;refine⟨rs,rfl,Bf h100 (by decide),aV.frz ⟨namesOf rs,rfl,vZ h100,rs,rfl,g.gl,λkvs hk=>iZ.frz ?_⟩⟩;have hfr:∀t:Aw,(aT kvs (Sum.inr t:aB)).isSome=k7 rs true t:=hk;refine(NS (rest:=[some (.dk kvs),some (.dk (ownOf rs))]) (λq=>if q.parts.all (lC rs)=true then some (bE q) else none) (by lia) (λ_ _=>trivial) (λq hq M' C D sb h1 h2=>?_) (aV.frz ?_))
 .have hp:=g.prt q hq;refine(BD (rest:=[some (.dk kvs),some (.dk (ownOf rs))]) (lC rs) (by lia) (λ_=>trivial) (λt ht M2 C2 sb2 h3=>NU (b:=k7 rs true t) rfl rfl (λR h=>⟨_,⟨Sum.inr t,rfl,rfl⟩,by show R (.bl (aT kvs (Sum.inr t:aB)).isSome) _;rw[hfr];exact h⟩) rfl h3) ⟨_,rfl,?_⟩);show tM (.bl ((q.parts.map (lC rs)).all id)) _ _;rw[zh1];exact cB (λz=>(h1 _ (by rw[Uw z]))) λz=>h2 (by rw[Uv (by rw[z];exact Av)])
 rw[NT];show(aF NL _) _ [some (bV rs),some (.dk (ownOf rs)),some (.dk kvs),some (.rl ((fN rs).map bE)),none,none,none] _;refine λp hp=>?_;have lW:=λn=>Bf (Wd.rounds rs n).len g.nam;have lF:(fN rs).length<=17:=Bf (Iq _ _) h17;refine⟨λm τ M'=>∃(n:Nat) (s:Int) (o6:Option W),τ=[some (bV rs),some (.dk (ownOf rs)),some (.dk kvs),some (.rl ((fN rs).map bE)),some (.ref p),some (.int s),o6]/\M'=put M p (.dK ((eL rs n).map cD))/\(s<(eL rs n).length\/∃k,n=k+1/\s=(eL rs k).length)/\m=2*(10-(eL rs n).length)+(if s<(eL rs n).length then 1 else 0),⟨_,0,_,_,rfl,rfl,.inl (by show(-1:Int)<0;decide),rfl⟩,?_⟩;rintro m τ M' ⟨n,s,o6,rfl,rfl,hs,rfl⟩;refine(.inr ⟨_,aL,cB (λz=>?_) λz=>?_⟩)
 .have z:=Ux z;rw[Ab]at z;rw[Uw z];refine(.inr ⟨_,aL,(dB (λj τ M'=>∃o6,τ=[some (bV rs),some (.dk (ownOf rs)),some (.dk kvs),some (.rl ((fN rs).map bE)),some (.ref p),some (.int ((eL rs n).map cD).length),o6]/\M'=put M p (.dK ((((fN rs).take j).foldl (fE rs) (eL rs n)).map cD))) ⟨_,rfl,rfl⟩ ?_ ?_)⟩)
  .rintro j x τ M' hx ⟨o6,rfl,rfl⟩;rw[Ap]at hx;obtain⟨q,hq,rfl⟩:=Ax.mp hx;have hqm:=Ay hq;have hp4:=g.prt q (AH.mp hqm).1;obtain⟨D,hD⟩:∃D,D=((fN rs).take j).foldl (fE rs) (eL rs n):=⟨_,rfl⟩;have wD:Wd rs D:=by rw[hD];exact(Wd.rounds rs n).fold λr hr=>Lf hr
   have lD:=Bf wD.len g.nam;have hnx:((fN rs).take (j+1)).foldl (fE rs) (eL rs n)=fE rs D q:=by rw[Bw,hq,Iu,<-hD];rfl
   rw[hnx,<-hD];refine(BD (rest:=[some (.ref p),some (.dk (ownOf rs))]) (dW rs D) (by lia) (λ_=>trivial) (λt ht M2 C2 sb2 h3=>NU (b:=decide (t∈D)) rfl rfl (λR h=>.inr ⟨_,.inl ⟨_,Sum.inr t,sb2 _ _ aL,rfl,rfl⟩,by show R (.bl (aT (D.map cD) (Sum.inr t:aB)).isSome) _;rw[rS];exact h⟩) rfl h3) ⟨_,rfl,?_⟩);show tM (.bl ((q.parts.map (dW rs D)).any id)) _ _;rw[zh2];refine cB (λz=>(uG aL (dJ (by rw[Ab];lia)) ⟨_,aP,_,rfl,?_⟩)) λz=>⟨_,aP,_,rfl,?_⟩
   .rw[c9,u5];unfold fE;rw[Uw z]
   .unfold fE;rw[Uv (by rw[z];exact Av)]
  .rintro τ M' ⟨o6,rfl,rfl⟩;have ek:((fN rs).take ((fN rs).map bE).length).foldl (fE rs) (eL rs n)=eL rs (n+1):=by rw[Ab,Br];rfl
   rw[ek];refine⟨_,_,?_,aP,n+1,_,_,rfl,rfl,.inr ⟨n,rfl,by rw[Ab]⟩,rfl⟩;obtain⟨q,hq⟩:=vH rs (fN rs) (eL rs n);have e:(eL rs (n+1)).length=(eL rs n).length+q.length:=by show(iQ rs (eL rs n)).length=_;unfold iQ;rw[hq,Ak]
   have:=lW (n+1);rw[Ab];split<;>lia
 .have z:=of_decide_eq_false z;rw[Ab]at z;rcases hs with hs|⟨k,rfl,rfl⟩
  .exact absurd hs z
  .have e:iQ rs (eL rs k)=eL rs k:=zdV (by have:(eL rs (k+1)).length=(iQ rs (eL rs k)).length:=rfl;lia);have e1:eL rs (k+1)=eL rs k:=e;exact⟨_,aP,r _ ⟨k+1,rfl,by rw[e1];exact e⟩ p hp⟩
theorem NV{l:List iG}{keep:Mm->Prop}{H:cR}{te:aR}{c T:Option W}{rest:S3}{I:Mm}{R:K3}(b:Bool)(f:iG->W)(hl:l.length<=1000)(hk:∀M,keep M)(F:∀x∈l,∀M (C:K3) (D:Mm->Prop),L2.Sub I M->(b=true->C (f x) M)->(b=false->D M)->H (some (.tup (x.1.map W.str))::some (.tup x.2)::rest) M λb t=>if b=true then te (some (.tup (x.1.map W.str))::some (.tup x.2)::rest) t C else D t)(r:R (.rl (if b=true then l.map f else [])) I):gN (l.map kC) keep yO H te (c::T::rest) I λw V=>frz w V R:=by
 unfold gN;intro p B;refine⟨λi L acc M=>(∃c T,L=c::T::rest)/\acc=(if b=true then(l.take i).map f else [])/\M=I,⟨⟨_,_,rfl⟩,by split<;>rfl,rfl⟩,λ_ _ _ _ _ _ _ _=>hk _,?_,?_⟩
 .rintro vs i w L acc M hw d ⟨⟨c,T,rfl⟩,rfl,rfl⟩;rw[Ap]at hw;obtain⟨x,S,rfl⟩:=Ax.mp hw;have hi:=(An.mp S).1;have j:(if b=true then(l.take i).map f else []).length<Ao:=dJ (by split<;>simp<;>lia);refine⟨rfl,rfl,F x (Ay S) _ _ _ (Sub.new B) (λY=>⟨aL,j,M,by rw[iY B];exact aP,⟨_,_,rfl⟩,?_,rfl⟩) λY=>⟨aL,M,by rw[iY B];exact aP,⟨_,_,rfl⟩,?_,rfl⟩⟩
  .rw[Uw Y,Uw Y,Bw,S,Az];rfl
  .rw[Y];rfl
 .rintro L acc M d ⟨_,rfl,rfl⟩;rw[Ab,Br];exact aV.frz r p B
theorem zh4{keep drop:Aw->Bool}{E:Aw->W}(h:x∈mM keep drop E ps):x.1.length<=ps.length/\x.2.length<=ps.length:=by
 have:∀(ps:List Aw) (told:List iG) (n:Nat),(∀y∈told,y.1.length<=n/\y.2.length<=n)->∀x∈ps.foldl (gE keep drop E) told,x.1.length<=n+ps.length/\x.2.length<=n+ps.length:=by
  intro ps
  induction ps with
  | nil=>intro told n h x S;exact h x S
  | cons t ps A=>
   intro told n h x S;have:=A (gE keep drop E told t) (n+1) (λy K=>?_) x S
   .rw[Bu];lia
   .unfold gE at K;rcases Ba.mp K with K|K
    .split at K
     .obtain⟨z,hz,rfl⟩:=Bc.mp K;have:=h z hz;simp only[Ak,Cf];lia
     .cases K
    .split at K
     .obtain⟨z,hz,rfl⟩:=Bc.mp K;have:=h z hz;simp only[Ak,Cf];lia
     .cases K
 have:=this ps [([],[])] 0 (λy K=>by rw[Am.mp K];exact⟨Ai _,Ai _⟩) x h;lia
theorem zh5(h:R (.rl ws) M):frz (.rl ws) M R:=h
theorem NW{keep drop:Aw->Bool}{E:Aw->W}(h:ps.length<=4):(mM keep drop E ps).length<=16:=by
 have:=K8 (keep:=keep) (drop:=drop) (E:=E) ps [([],[])];rw[Cf,Nat.mul_one]at this;exact Bf this (Nat.pow_le_pow_right (n:=2) (by decide) h)
theorem zh6{ws:List W}{M:Mm}{R:K3}(h:NJ ws M R):zhP (bA R) (bF zhK ws) M:=by
 obtain⟨rs,D,kvs,ps,rfl,hp4,r⟩:=h;refine(dB (ws:=ps.map W.str) (λi τ M'=>∃o5 o6 o7,τ=[some (.tup (ps.map W.str)),some (.dk (ownOf rs)),some (.dk (D.map cD)),some (.dk kvs),some (.rl ((mM (dW rs D) (drK kvs) (kB kvs) (ps.take i)).map kC)),o5,o6,o7]/\M'=M) ⟨_,_,_,rfl,rfl⟩ ?_ ?_)
 .rintro i x τ M' hx ⟨o5,o6,o7,rfl,rfl⟩;rw[Ap]at hx;obtain⟨t,ht,rfl⟩:=Ax.mp hx;obtain⟨l,hl⟩:∃l,l=mM (dW rs D) (drK kvs) (kB kvs) (ps.take i):=⟨_,rfl⟩;have l16:l.length<=16:=by rw[hl];exact NW (by rw[Ca];lia)
  have lx:∀x∈l,x.1.length<=4/\x.2.length<=4:=λx hx=>by
   rw[hl]at hx;obtain⟨h1,h2⟩:=zh4 hx;rw[Ca]at h1 h2;exact⟨by lia,by lia⟩
  have hnx:mM (dW rs D) (drK kvs) (kB kvs) (ps.take (i+1))=gE (dW rs D) (drK kvs) (kB kvs) l t:=by
   rw[Bw,ht,hl];unfold mM;rw[Iu];rfl
  rw[hnx,<-hl];refine(NV (rest:=[some (.str t),some (.dk (D.map cD)),some (.dk (ownOf rs))]) (dW rs D t) (λx=>kC (x.1++[t],x.2++[W.int x.1.length])) (by lia) (λ_=>trivial) (λx hx M C E sb h1 h2=>?_) ?_)
  .obtain⟨x1,x2⟩:=lx x hx;have go:dW rs D t=true->a9 (aA (aG mT (cY 0) (a9 (aA (cY 2) aC))) (aA (aG mT (cY 1) (a9 (aA (bU dH (aA (cY 0) aC)) aC))) aC)) (some (.tup (x.1.map W.str))::some (.tup x.2)::[some (.str t),some (.dk (D.map cD)),some (.dk (ownOf rs))]) M C:=λz=>by
    refine⟨_,_,rfl,rfl,small (by rw[Ab];show _+1<=_;lia),_,_,rfl,rfl,small (by show _+1<=_;lia),?_⟩;have:=h1 z;unfold kC at this;rw[Az]at this;rw[Ab];exact this
   refine⟨_,⟨Sum.inr t,rfl,rfl⟩,?_⟩;show if (aT (D.map cD) (Sum.inr t:aB)).isSome=true then _ else _;rw[rS];refine cB (λz=>go (by unfold dW;rw[z];rfl)) λz=>⟨_,⟨Sum.inr t,rfl,rfl⟩,?_⟩
   show if (!(aT (ownOf rs) (Sum.inr t:aB)).isSome)=true then _ else _;rw[lE];exact cB (λy=>go (by unfold dW;rw[y,Lx])) λy=>h2 (by unfold dW;rw[z,y];rfl)
  .refine(NV (rest:=[some (.str t),some (.dk kvs)]) (drK kvs t) (λx=>kC (x.1,x.2++[W.tup [.str "whole",kB kvs t]])) (by lia) (λ_=>trivial) (λx hx M C E sb h1 h2=>?_) ?_)
   .obtain⟨x1,x2⟩:=lx x hx;refine⟨_,⟨Sum.inr t,rfl,rfl⟩,?_⟩;show if (aT kvs (Sum.inr t:aB)).isSome=true then _ else _;refine cB (λz=>?_) λz=>h2 z;have lk:some (kB kvs t)=aT kvs (Sum.inr t:aB):=by
     obtain⟨v,hv⟩:=Eb.mp z;unfold kB;rw[hv];rfl
    exact⟨_,⟨Sum.inr t,rfl,lk⟩,_,_,rfl,rfl,small (by show _+1<=_;lia),h1 z⟩
   .refine⟨small ?_,?_⟩
    .split<;>split<;>simp<;>lia
    .have e:(if dW rs D t=true then l.map λx=>kC (x.1++[t],x.2++[W.int x.1.length]) else [])++(if drK kvs t=true then l.map λx=>kC (x.1,x.2++[W.tup [.str "whole",kB kvs t]]) else [])=(gE (dW rs D) (drK kvs) (kB kvs) l t).map kC:=by
      unfold gE;rw[Az];congr 1
      .split
       .rw[Bm];rfl
       .rfl
      .split
       .rw[Bm];rfl
       .rfl
     rw[<-e];exact⟨_,aP,_,_,_,rfl,rfl⟩
 .rintro τ M' ⟨o5,o6,o7,rfl,rfl⟩;rw[Ab,Br];exact⟨_,aP,r⟩
theorem v7:∀{a b:List Aw},a.map W.str=b.map W.str->a=b
 | [],[],_=>rfl
 | [],_::_,h=>nomatch h
 | _::_,[],h=>nomatch h
 | x::a,y::b,h=>by
  rw[Be,Be,Dk,W.str.injEq]at h;rw[h.1,v7 h.2]
section
variable {P:Ar}{w:Bk}{C:Cc}
theorem zh7(h:NK P w C ws M R):zhR P w C (bA R) (bF zhQ ws) M:=by
 obtain⟨a,d,dx,l,rs,X,D,kvs,rfl,pl,hl,g,r⟩:=h;have c:=g.few100;have h17:=g.few;refine⟨rs,rfl,Bf c (by decide),aV.frz ⟨namesOf rs,rfl,vZ c,rs,X,rfl,c,aV.frz ?_⟩⟩;refine dB (λi L V=>∃f Q o e,L=[some (.ref a),some (bV rs),some (.str X),some (.dk (D.map cD)),some (.dk kvs),some (.dk (ownOf rs)),Q,o,e]/\V=put M d (.dn P w [0] (kvsOf f))/\Gr l (16*i) (∃n∈(numsOf rs X).take i,∃r,rs[n]? = some r/\∃x∈v5 rs D kvs r.parts,x.1≠[]/\x.1≠[X]) f) ⟨l,_,_,_,rfl,(MP pl.di).symm,Ai _,λh=>h.elim id λ⟨_,h,_⟩=>nomatch h⟩ ?_ ?_
 .rintro i y L V K ⟨f,Q,o,e,rfl,rfl,A⟩;rw[Ap]at K;obtain⟨n,U,rfl⟩:=Ax.mp K;obtain⟨ru,E,en⟩:=rZ.mp (Ay U);obtain⟨ru',O,Z⟩:=oC (rs:=rs) (n:=n) (An.mp E).1;cases (show some ru'=some ru from O.symm.trans E);have J:=Ay E;have hp4:=g.prt ru J;have hi:=Bx (An.mp U).1 (vV rs X);have g1l:=A.1;refine so.of Z ⟨rs,D,kvs,ru.parts,rfl,hp4,?_⟩;obtain⟨B,p⟩:∃B,B=v5 rs D kvs ru.parts:=⟨_,rfl⟩;rw[<-p];have y16:B.length<=16:=by rw[p];exact NW hp4
  refine zh5 (dB (ws:=B.map kC) (λj L V=>∃m o e,L=[some (.ref a),some (bV rs),some (.str X),some (.dk (D.map cD)),some (.dk kvs),some (.dk (ownOf rs)),some (.int n),o,e]/\V=put M d (.dn P w [0] (kvsOf m))/\Gr f j (∃x∈B.take j,x.1≠[]/\x.1≠[X]) m) ⟨f,_,_,rfl,rfl,Ai _,λh=>h.elim id λ⟨_,h,_⟩=>nomatch h⟩ ?_ ?_)
  .rintro j y L V K ⟨m,o,e,rfl,rfl,F⟩;rw[Ap]at K;obtain⟨y,hyj,rfl⟩:=Ax.mp K;have Y:=(An.mp hyj).1;have g2l:=F.1;have ysh:∀t∈y.1,Sh t:=λt ht=>by
    have hym:=Ay hyj;rw[p]at hym;obtain⟨y0,hy0,l,T,G,_⟩:=K9 (show y∈ru.parts.foldl _ [([],[])] from hym);rw[Am.mp hy0]at T;exact g.sh ru J t (G t (by rw[<-show y.1=l from T];exact ht)).1
   have Xsh:∀t∈[X],Sh t:=λt ht=>by rw[Am.mp ht,<-en];exact g.shn ru J
   have no:(y.1≠[]->y.1=[X])->Gr f (j+1) (∃x∈B.take (j+1),x.1≠[]/\x.1≠[X]) m:=λz=>by
    refine⟨by lia,λh=>F.2 (h.imp_right λ⟨x,S,n1,n2⟩=>⟨x,?_,n1,n2⟩)⟩;rw[Bw,hyj]at S;rcases Ba.mp S with S|S
    .exact S
    .rw[Hb,Am]at S;rw[S]at n1 n2;exact absurd (z n1) n2
   refine⟨rfl,rfl,nR 2 (by decide) (kA ysh) (kA (ps:=[]) (λt ht=>nomatch ht)) λu hb1=>cB (λI=>?_) λI=>⟨_,aP,m,_,_,rfl,rfl,no λz=>?_⟩⟩
   .refine nR 2 (by decide) (kA ysh) (kA (ps:=[X]) Xsh) λv hb2=>cB (λH=>?_) λH=>⟨_,aP,m,_,_,rfl,rfl,no λ_=>?_⟩
    .exact⟨a,dx,_,rfl,(pl.putD m).ob,mS,a,d,dx,m,(X,y.1),_,rfl,pl.putD m,by lia,λs g'=>⟨_,aP,s,_,_,rfl,c9,by have:=g'.1;lia,λ_=>g'.2 (.inr trivial)⟩⟩
    .have H:v=true:=by cases v;cases H;rfl
     exact v7 (by have:=hb2.mp H;injection this)
   .have I:u=true:=by cases u;cases I;rfl
    exact absurd (v7 (b:=[]) (by have:=hb1.mp I;injection this)) z
  .rintro L V ⟨m,o,e,rfl,rfl,F⟩;rw[Ab,Br]at F;refine⟨_,aP,m,_,_,_,rfl,rfl,by have:=F.1;lia,λh=>F.2 ?_⟩;rcases h with h|⟨k,hk,q,N,S⟩
   .exact .inl (A.2 (.inl h))
   .rw[Bw,U]at hk;rcases Ba.mp hk with hk|hk
    .exact .inl (A.2 (.inr ⟨k,hk,q,N,S⟩))
    .rw[Hb,Am]at hk;rw[hk,E]at N;cases N;right;rw[p];exact S
 .rintro L V ⟨f,Q,o,e,rfl,rfl,A⟩;rw[Ab,Br]at A;have:=vV rs X;refine⟨_,aP,r f ⟨by have:=A.1;lia,λh=>A.2 (h.imp_right λ⟨q,N,en,S⟩=>?_)⟩⟩;obtain⟨n,U⟩:=Ou N;exact⟨n,rZ.mpr ⟨q,U,en⟩,q,U,S⟩
end
section
variable {P:Ar}{w:Bk}{C:Cc}
def kL(l:List (NP×W)):List W:=(l.map λz=>mQ z.1).map bE
def vL(l:List (NP×W)):List W:=l.map λz=>z.2
theorem NY(l:List (NP×W)):((kvsOf l).map λz=>fD [0] z.1)=kL l:=by
 unfold kvsOf kL;rw[Bm,Bm];exact Eg λz _=>AR z.1
theorem NZ(l:List (NP×W)):((kvsOf l).map λz=>z.2)=vL l:=by unfold kvsOf vL;rw[Bm];rfl
theorem zh8{d:Aj}:Ce ("is_part" : Aw) [(("backs" : Aw),W.ref d)]=none:=by
 rw[Dx,show(("is_part" : Aw)==("backs" : Aw))=false by decide +kernel];rfl
theorem zh9{ws:List W}{M:Mm}{R:K3}(h:BN ws M R):zhY P w C (bA R) (bF zhS ws) M:=by
 obtain⟨rs,rfl,g,r⟩:=h;have h100:=g.few100;have hnm:=g.nam;obtain⟨q0,l,e0⟩:∃q l,rs=q::l:=by
  cases rs with
  | nil=>exact absurd rfl g.ne
  | cons q l=>exact⟨q,l,rfl⟩
 refine⟨q0,l,by rw[e0];rfl,rs,rfl,g,λD hD=>iZ.frz ⟨rs,rfl,g,λkvs he=>iZ.frz ?_⟩⟩;obtain⟨F,hF⟩:∃F,F=q0.name:=⟨_,rfl⟩;rw[<-hF];have hFn:F∈namesOf rs:=by rw[hF];exact qX.mpr ⟨q0,by rw[e0];exact Bi,rfl⟩
 have go:F∈D\/drK kvs F=true->(aF (NO P w C) (aF (NQ P w C) (aF (BO P w C) (aF (NR P w C) (aF (BP P w C) (aF (BQ P w C) (BR P w C))))))) (bA R) [some (bV rs),some (.str F),some (.dk (D.map cD)),some (.dk kvs),none,none,none,none,none,none] M:=λhc=>by
  have has:drK kvs F=false->BM rs D kvs F:=λz=>by
   have hFD:=hc.resolve_right (by rw[z];exact Av);obtain⟨n,e1,e2⟩:=hD;exact zd0 (by rw[e1];exact Wd.rounds rs n) e2 (λt=>by rw[he,rC]) hFD
  refine λa dx ha hdx hne=>⟨a,dx,rfl,aL,λd hd=>⟨rfl,?_⟩⟩
  have had:a≠d:=λe=>by rw[<-e,aL]at hd;cases hd
  rw[aM (Bq had)]at hd;rw[Bt.first had];refine⟨rs,rfl,Bf h100 (by decide),aV.frz ?_⟩;refine dB (λi τ M'=>∃T o5,τ=[some (bV rs),some (.str F),some (.dk (D.map cD)),some (.dk kvs),some (.ref a),o5,none,none,none,none]/\M'=Bt P w C.p M a d dx T/\Gr [] (272*i) (∃X∈(namesOf rs).take i,BM rs D kvs X) T) ⟨[],_,rfl,rfl,Ai _,λh=>h.elim id λ⟨_,h,_⟩=>nomatch h⟩ ?_ ?_
  .rintro i v τ M' hv ⟨T,o5,rfl,rfl,g1⟩;rw[Ap]at hv;obtain⟨X,hX,rfl⟩:=Ax.mp hv;have hi:=(An.mp hX).1;have g1l:T.length<=0+272*i:=g1.1;refine⟨a,d,dx,T,rs,X,D,kvs,rfl,Bt.pl had,by lia,g,λl' g'=>⟨_,aP,l',some (.str X),rfl,Bt.put,by have:=g'.1;show _<=0+_;lia,λh=>g'.2 ?_⟩⟩;rcases h with h|⟨Y,hY,h⟩
   .exact absurd rfl h
   .rw[Bw,hX]at hY;rcases Ba.mp hY with hY|hY
    .exact .inl (g1.2 (.inr ⟨Y,hY,h⟩))
    .rw[Hb,Am]at hY;rw[hY]at h;exact .inr h
  .rintro τ M' ⟨T,o5,rfl,rfl,g1⟩;rw[Ab,Br]at g1;have lT:T.length<=5000:=by have:T.length<=0+272*(namesOf rs).length:=g1.1;lia
   show(aF (BO P w C) _) _ _ (Bt P w C.p M a d dx T);have sb1:L2.Sub M (Bt P w C.p M a d dx T):=Bt.sub ha hd had;have pl1:jB P w C.p (Bt P w C.p M a d dx T) a d dx T:=Bt.pl had;generalize hM1:Bt P w C.p M a d dx T=M1 at sb1 pl1;refine λa2 dx2 ha2 hdx2 hne2=>⟨a2,dx2,rfl,aL,λd2 hd2=>⟨rfl,?_⟩⟩
   have had2:a2≠d2:=λe=>by rw[<-e,aL]at hd2;cases hd2
   rw[aM (Bq had2)]at hd2;rw[Bt.first had2];have sb2:∀l,L2.Sub M (Bt P w C.p M1 a2 d2 dx2 l):=λl=>sb1.trans (Bt.sub ha2 hd2 had2);have pl2:∀l,jB P w C.p (Bt P w C.p M1 a2 d2 dx2 l) a d dx T:=λl=>⟨Bt.sub ha2 hd2 had2 _ _ pl1.ob,Bt.sub ha2 hd2 had2 _ _ pl1.di⟩
   have fin:∀(lb:List (NP×W)) (o7:Option W),lb.length<=2->lb++T≠[]->(aF (BP P w C) (aF (BQ P w C) (BR P w C))) (bA R) [some (bV rs),some (.str F),some (.dk (D.map cD)),some (.dk kvs),some (.ref a),o5,some (.ref a2),o7,none,none] (Bt P w C.p M1 a2 d2 dx2 lb):=λlb o7 B5 hne3=>by
    refine⟨a,dx,_,rfl,(pl2 lb).ob,rW,a,d,dx,_,rfl,pl2 lb,λt0 t1 ht0 ht1 tne=>?_⟩;rw[NY,NZ];have ht1':put (Bt P w C.p M1 a2 d2 dx2 lb) t0 (.lst (kL T)) t1=none:=by rw[aM (Bq tne)];exact ht1
    have sb3:=(Sub.new (o:=.lst (kL T)) ht0).trans (Sub.new (o:=.lst (vL T)) ht1');have pl3:jB P w C.p (put (put (Bt P w C.p M1 a2 d2 dx2 lb) t0 (.lst (kL T))) t1 (.lst (vL T))) a2 d2 dx2 lb:=⟨sb3 _ _ (Bt.pl had2).ob,sb3 _ _ (Bt.pl had2).di⟩;have m0:put (put (Bt P w C.p M1 a2 d2 dx2 lb) t0 (.lst (kL T))) t1 (.lst (vL T)) t0=some (.lst (kL T)):=by rw[aM tne,aL]
    have m1:put (put (Bt P w C.p M1 a2 d2 dx2 lb) t0 (.lst (kL T))) t1 (.lst (vL T)) t1=some (.lst (vL T)):=aL;have sb4:=(sb2 lb).trans sb3;generalize put (put (Bt P w C.p M1 a2 d2 dx2 lb) t0 (.lst (kL T))) t1 (.lst (vL T))=M3 at pl3 m0 m1 sb4;refine⟨a2,dx2,_,rfl,pl3.ob,rW,a2,d2,dx2,_,rfl,pl3,λb0 b1 hb0 hb1 bne=>?_⟩;rw[NY,NZ];have hb1':put M3 b0 (.lst (kL lb)) b1=none:=by rw[aM (Bq bne)];exact hb1
    have sb5:=(Sub.new (o:=.lst (kL lb)) hb0).trans (Sub.new (o:=.lst (vL lb)) hb1');have n0:put (put M3 b0 (.lst (kL lb))) b1 (.lst (vL lb)) b0=some (.lst (kL lb)):=by rw[aM bne,aL]
    have n1:put (put M3 b0 (.lst (kL lb))) b1 (.lst (vL lb)) b1=some (.lst (vL lb)):=aL;have m0:=sb5 _ _ m0;have m1:=sb5 _ _ m1;have sb6:=sb4.trans sb5;generalize put (put M3 b0 (.lst (kL lb))) b1 (.lst (vL lb))=M4 at n0 n1 m0 m1 sb6;have kl:(kL lb).length+(kL T).length<=10000:=by unfold kL;rw[Ab,Ab,Ab,Ab];lia
    have vl:(vL lb).length+(vL T).length<=10000:=by unfold vL;rw[Ab,Ab];lia
    refine⟨_,_,n0,m0,small (by lia),λx hx=>?_⟩;refine⟨_,_,Sub.new hx _ _ n1,Sub.new hx _ _ m1,small (by lia),λy hy=>⟨_,?_,r (lb++T) hne3 x y (sb6.non hx) ?_ ?_⟩⟩
    .have ek:kL lb++kL T=((lb++T).map λz=>mQ z.1).map bE:=by unfold kL;rw[Az,Az]
     have ev:vL lb++vL T=(lb++T).map λz=>z.2:=by unfold vL;rw[Az]
     rw[ek,ev];exact Sub.put (Sub.put sb6)
    .exact sb6.non ((Sub.new hx).non hy)
    .exact λe=>by rw[e,aL]at hy;cases hy
   refine⟨_,⟨Sum.inr F,rfl,rfl⟩,cB (b:=drK kvs F) (λy1=>?_) λy1=>fin [] _ (Ea _) (g1.2 (.inr ⟨F,hFn,has y1⟩))⟩;obtain⟨v,hv⟩:=Eb.mp y1;have app:∀{l':List (NP×W)},l'≠[]->l'++T≠[]:=λh z=>h (Nt.mp z).1;refine⟨a,dx,_,rfl,(pl2 []).ob,zh8,a,d,dx,T,F,rfl,pl2 [],by lia,λb=>cB (b:=b) (λ_=>?_) λ_=>?_⟩
   .refine⟨rs,rfl,Bf h100 (by decide),aV.frz ⟨namesOf rs,1,rfl,by lia,aV.frz ?_⟩⟩;obtain⟨x,hx⟩:=List.length_eq_one_iff.mp (LW (old:=namesOf rs) (n:=1) (Fl (show 1+(namesOf rs).length<=5 by lia) (by decide)));rw[hx];refine⟨a2,dx2,_,rfl,(Bt.pl had2).ob,mS,a2,d2,dx2,[],(x,[F]),_,rfl,Bt.pl had2,Ea _,λl1 g2=>?_⟩;rw[Bt.put];have g2l:l1.length<=0+1:=g2.1;refine⟨a2,dx2,_,rfl,(Bt.pl had2).ob,mS,_,⟨Sum.inr F,rfl,hv.symm⟩,a2,d2,dx2,l1,(x,[]),_,rfl,Bt.pl had2,by lia,λl2 g3=>?_⟩;rw[Bt.put];exact fin l2 _ (by have:=g3.1;lia) (app (g3.2 (.inr trivial)))
   .refine⟨a2,dx2,_,rfl,(Bt.pl had2).ob,mS,_,⟨Sum.inr F,rfl,hv.symm⟩,a2,d2,dx2,[],(F,[]),_,rfl,Bt.pl had2,Ea _,λl2 g3=>?_⟩;rw[Bt.put];exact fin l2 _ (by have:l2.length<=0+1:=g3.1;lia) (app (g3.2 (.inr trivial)))
 refine⟨_,⟨Sum.inr F,rfl,rfl⟩,?_⟩;show if (!(aT (D.map cD) (Sum.inr F:aB)).isSome)=true then _ else _;rw[rS];refine cB (λy1=>⟨_,⟨Sum.inr F,rfl,rfl⟩,cB (b:=!drK kvs F) (λy2=>?_) λy2=>go (.inr ?_)⟩) λy1=>go (.inl ?_)
 .exact⟨rs,rfl,g.ne,λl hl p q hp hq ne=>⟨_,aP,r l hl p q hp hq ne⟩⟩
 .rw[<-Ie (drK kvs F),y2];rfl
 .exact Ux (by rw[<-Ie (decide (F∈D)),y1];rfl)
end
abbrev N0(sp:a8):a8:=λws M R=>sp ws M λw M'=>NM w/\R w M'
def N2(rs:List aE):Aw:=match rs with
 | r::_=>r.name
 | []=>""
def lI(rs:List aE):Bool:=rs.any λr=>decide (r.parts=[])&&(decide (r.name≠N2 rs)||rs.any λq=>decide (N2 rs∈q.parts))
theorem N3{O:Type}{p:O->Bool}{l:List O}{i:Nat}{q:O}(hq:l[i]? = some q)(hn:(l.take i).any p=false)(z:p q=false):(l.take (i+1)).any p=false:=by
 rw[Bw,hq,List.any_append,hn];show([q].any p)=false;rw[Er,z];rfl
theorem parts_nil{ps:List Aw}{c:Bool}(hc:c=true↔W.tup (ps.map W.str)=W.tup ([].map W.str)):c=decide (ps=[]):=by
 rw[Dy,decide_eq_true_iff];exact⟨λz=>v7 (b:=[]) (W.tup.inj (hc.mp z)),λz=>hc.mpr (by rw[z])⟩
theorem N4{rs:List aE}(h:rs≠[]):∃q l b,rs=q::l/\(b=rs.any λz=>decide (q.name∈z.parts))/\lI rs=rs.any λr=>decide (r.parts=[])&&(decide (r.name≠q.name)||b):=by
 cases rs with
 | nil=>exact absurd rfl h
 | cons q l=>exact⟨q,l,_,rfl,rfl,rfl⟩
def BS:a8:=λws M R=>∃rs:List aE,ws=[bV rs]/\fP rs/\(lI rs=true->R (.ty "NoGrammar") M)/\(lI rs=false->R .non M)
def r6:a8:=λws M R=>∃rs:List aE,ws=[bV rs]/\fP rs/\(lI rs=true->R (.ty "NoGrammar") M)/\(lI rs=false->∀l,l≠[]->oG l M R)
abbrev BU:List Aw:=["grammar","first","is_part","rule"]
abbrev zia:aD:=
   (cI (kN (bT (aG (eC false) (vX bJ bD) (a9 aC))) (lU (bT (aG (eC true) (vX bJ bL) aS)) (gK a6)))
    (HC "NoGrammar" (vC (.str "a rule is without parts")))
    dA)
abbrev zib:aD:=(aF (aW 1 (aZ rJ (aA aH aC))) (aF (aW 2 (bU uH (aA (bN (eF (bY cU aH) (a7 0) fM (aG (cH false) aS (vX aH bD)) [none,some 1])) aC)))
   (cL (bY cU aH) (a7 3) zia)))
abbrev BV:List Aw:=["grammar","fruitful","plain","name"]
abbrev zic(P:Ar)(w:Bk)(C:Cc):aD:=
   (cE (aZ (MN P w C) (aA a6 (aA aH (aA bJ (aA aS aC))))))
abbrev zid(P:Ar)(w:Bk)(C:Cc):aD:=(aF (HD BS (aA aH aC)) (aF (aW 1 (bN (aZ AJ (aA aH aC))))
   (aF (cI (bT (aG (cH true) (aZ rJ (aA aH aC)) aS)) (yX (aZ BA (aA aH aC))) dA)
   (aF (aW 2 (k9 C.p (pT P w C.p) aC))
   (aF (cL (bY cU (bN (aZ iP (aA aH aC)))) (a7 3) (zic P w C))
   (yX (dU C.p "grammar_and_backs" (pU P w C.p) a6 aC)))))))
theorem v8{ws:List W}:NM (.tup ws):=λn z=>W.noConfusion z
theorem zie:NM .non:=λn z=>W.noConfusion z
theorem zif{ws:List W}{M:Mm}{R:K3}(h:BS ws M R):zib (bA R) (bF BU ws) M:=by
 obtain⟨rs,rfl,g,r1,r2⟩:=h;have hf:=g.few;obtain⟨q0,l,b,e0,hb,du⟩:=N4 g.ne;refine⟨q0,l,by rw[e0];rfl,?_⟩;refine nS (rest:=[some (.str q0.name)]) (λw=>match w with|.tup [_,.tup ps,_]=>.bl (inW (.str q0.name) ps)|_=>.non) (small (by rw[Ab];lia)) (λ_ _=>trivial) (λw hw M' C sb h1=>?_) (aV.frz ?_)
 .obtain⟨q,hq,rfl⟩:=Bc.mp hw;exact⟨rfl,rL _,h1⟩
 have e1:((rs.map bE).map λw=>match w with|.tup [_,.tup ps,_]=>W.bl (inW (.str q0.name) ps)|_=>.non)=bools (rs.map λq=>decide (q0.name∈q.parts)):=by
  unfold bools;rw[Bm,Bm];refine Eg λz _=>?_;show W.bl (inW (.str q0.name) (z.parts.map W.str))=.bl (decide (q0.name∈z.parts));rw[rK]
 rw[e1];refine⟨_,rfl,?_⟩;rw[show(rs.map λq=>decide (q0.name∈q.parts)).any id=b by rw[hb,Lw];rfl];refine dB (λi τ M'=>∃o,τ=[some (.rl (rs.map bE)),some (.str q0.name),some (.bl b),o]/\M'=M/\((rs.take i).any λr=>decide (r.parts=[])&&(decide (r.name≠q0.name)||b))=false) ⟨_,rfl,rfl,rfl⟩ ?_ ?_
 .rintro i w τ M' hw ⟨o,rfl,rfl,hn⟩;rw[Ap]at hw;obtain⟨q,hq,rfl⟩:=Ax.mp hw;have hm:=Ay hq;have nx:=λz=>N3 hq hn z;refine nR 2 (by decide) (kA (g.sh q hm)) (kA (ps:=[]) (λt ht=>nomatch ht)) λc hc=>?_;have ec:=parts_nil hc;have yes:c=true->(decide (q.name≠q0.name)||b)=true->∃M'',L2.Sub M'' M'/\R (.ty "NoGrammar") M'':=λy1 y2=>⟨_,aP,r1 (by rw[du,Ge];exact⟨q,hm,by rw[<-ec,y1,y2];rfl⟩)⟩
  refine cB (b:=c) (λy1=>cB (b:=!decide (q.name=q0.name)) (λy2=>yes y1 ?_) λy2=>cB (b:=b) (λy3=>yes y1 (by rw[y3];exact Lx _)) λy3=>⟨_,aP,_,rfl,rfl,nx ?_⟩) λy1=>⟨_,aP,_,rfl,rfl,nx (by rw[<-ec,y1];rfl)⟩
  .rw[decide_not,y2];rfl
  .rw[decide_not,y2,y3];exact Bool.and_false _
 .rintro τ M' ⟨o,rfl,rfl,hn⟩;rw[Ab,Br]at hn;exact⟨_,aP,r2 (du.trans hn)⟩
theorem zig{rs:List aE}{X:Aw}(h:jQ rs true X):∃r∈rs,∀t∈r.parts,ownB rs t=false:=by
 induction h with
 | @mk r hr _ _ ih=>
  by_cases z:∃t∈r.parts,ownB rs t=true
  .obtain⟨t,ht,ho⟩:=z;exact ih t ht ho
  .exact⟨r,hr,λt ht=>by
    cases o:ownB rs t with
    | false=>rfl
    | true=>exact absurd ⟨t,ht,o⟩ z⟩
section
variable {P:Ar}{w:Bk}{C:Cc}
theorem zih{ws:List W}{M:Mm}{R:K3}(h:r6 ws M R):zid P w C (bA R) (bF BV ws) M:=by
 obtain⟨rs,rfl,g,r1,r2⟩:=h;have hf:=g.few;have hnm:=g.nam;obtain⟨q0,l,e0⟩:∃q l,rs=q::l:=by
  cases rs with
  | nil=>exact absurd rfl g.ne
  | cons q l=>exact⟨q,l,rfl⟩
 refine⟨rs,rfl,g,λdu=>.inr ⟨⟨_,rfl⟩,_,aP,r1 du⟩,λdu=>.inl ⟨zie,rs,rfl,g.gl,λkvs hk=>iZ.frz ⟨q0,l,by rw[e0];rfl,_,⟨Sum.inr q0.name,rfl,rfl⟩,cB (b:=!(aT kvs (Sum.inr q0.name:aB)).isSome) (λhn=>?_) λhn=>?_⟩⟩⟩
 .exact⟨rs,rfl,g.ne,λl hl p q hp hq ne=>⟨v8,_,aP,r2 du l hl p q hp hq ne⟩⟩
 have hn:k7 rs true q0.name=true:=by rw[<-hk,<-Ie (aT kvs _).isSome,hn];rfl
 obtain⟨rl,hrl,sA⟩:=zig (rC.mp hn);refine λa dx ha hdx hne=>⟨a,dx,rfl,aL,λd hd=>⟨rfl,?_⟩⟩
 have had:a≠d:=λe=>by rw[<-e,aL]at hd;cases hd
 rw[aM (Bq had)]at hd;rw[Bt.first had];refine⟨rs,rfl,by lia,aV.frz ?_⟩;refine dB (λi τ M'=>∃T o3,τ=[some (bV rs),some (.dk kvs),some (.ref a),o3]/\M'=Bt P w C.p M a d dx T/\Gr [] (68*i) (∃X∈(namesOf rs).take i,A8 rs X) T) ⟨[],_,rfl,rfl,Ai _,λh=>h.elim id λ⟨_,h,_⟩=>nomatch h⟩ ?_ ?_
 .rintro i v τ M' hv ⟨T,o3,rfl,rfl,g1⟩;rw[Ap]at hv;obtain⟨X,hX,rfl⟩:=Ax.mp hv;have hi:=(An.mp hX).1;have g1l:T.length<=0+68*i:=g1.1;refine⟨a,d,dx,T,rs,X,kvs,rfl,Bt.pl had,by lia,g,Ay hX,λl' g'=>⟨_,aP,l',some (.str X),rfl,Bt.put,by have:=g'.1;show _<=0+_;lia,λh=>g'.2 ?_⟩⟩;rcases h with h|⟨Y,hY,h⟩
  .exact absurd rfl h
  .rw[Bw,hX]at hY;rcases Ba.mp hY with hY|hY
   .exact .inl (g1.2 (.inr ⟨Y,hY,h⟩))
   .rw[Hb,Am]at hY;rw[hY]at h;exact .inr h
 .rintro τ M' ⟨T,o3,rfl,rfl,g1⟩;rw[Ab,Br]at g1;have hT:=g1.2 (.inr ⟨rl.name,qX.mpr ⟨rl,hrl,rfl⟩,rl,hrl,rfl,sA⟩);refine⟨a,dx,_,rfl,(Bt.pl had).ob,rW,a,d,dx,_,rfl,Bt.pl had,λp q hp hq ne=>⟨v8,A1 ha hd had (r2 du T hT) p q hp hq ne⟩⟩
end
def pY:a8:=λws M R=>∃(rs:List aE) (k:Int),ws=[bV rs,.int k]/\fP rs/\R (.bl (decide (k=0)&&lI rs)) M
abbrev BW(i j:Nat)(ea:Aj):aD:=λD τ M=>τ[j]? = some (some (.ref ea))/\D.nx (τ.set i (some (.bl true))) M
abbrev N5:List Aw:=["grammar","way","good","e"]
abbrev zii:aD:=(aF (aW 2 (vC (.bl false))) (aF (HJ (y6 (bT (aG (eC false) aS bL)) (HG r6 (aA aH aC)) (y6 (bT (aG (eC false) aS bD)) (yZ (aZ BN (aA aH aC))) (yZ (aZ AY (aA aH aC))))) "NoGrammar" 3 (BW 2 3)) (bS a6)))
theorem BX{l:List (NP×W)}{M:Mm}{R:W->Mm->Prop}(h:∀w M',L2.Sub M M'->R (.tup w) M'):oG l M R:=λp q hp hq ne=>h _ _ ((Sub.new hp).trans (Sub.new (by rw[aM (Bq ne)];exact hq)))
theorem zij{ws:List W}{M:Mm}{R:K3}(h:pY ws M R):zii (bA R) (bF N5 ws) M:=by
 obtain⟨rs,k,rfl,g,r⟩:=h;refine cB (b:=decide (k=0)) (λh0=>?_) λh0=>?_
 .rw[h0,Pk]at r;refine⟨rs,rfl,g,λdu=>.inr ⟨_,rfl,rfl,λea=>⟨rfl,_,aP,by rw[du]at r;exact r⟩⟩,λdu l _=>BX λw M' sb=>.inl ⟨v8,_,sb,by rw[du]at r;exact r⟩⟩
 .rw[h0,Md]at r;refine cB (b:=decide (k=1)) (λ_=>⟨rs,rfl,g,λl _=>BX λw M' sb=>⟨_,sb,r⟩⟩) λ_=>⟨rs,rfl,⟨Bf g.few (by decide),g.prt⟩,g.ne,λl _=>BX λw M' sb=>⟨_,sb,r⟩⟩
section
variable {X:Cx}
theorem N6{K:Ac}{H:Hp}{M:Mm}{v:V}{w:W}:∀{Z:SV} {τ:S3} {i:Nat},AS K H M Z τ->Z[i]? = some (some v)->AV K H M v w->AS K H M Z (τ.set i (some w))
 | [],_,i,h,e,_=>by cases h;simp at e
 | _::_,_,0,h,e,av=>by
  cases h with
  | cons a b=>exact .cons (λw' z=>by cases z;exact⟨v,by simpa using e,av⟩) b
 | _::_,_,i+1,h,e,av=>by
  cases h with
  | cons a b=>exact .cons a (N6 b (by simpa using e) av)
abbrev N7(i:Nat)(t:aD):aD:=λD τ M=>∃p ws,τ[i]? = some (some (.ref p))/\M p=some (.lst ws)/\t D (τ.set i (some (.rl ws))) (del M p)
theorem zik{i:Nat}{st:Gn}{t:aD}(h:P3 X st t):P3 X st (N7 i t):=h.weak λE Z H ⟨τ,M,D,as,am,⟨p,ws,e1,e2,h'⟩,k⟩=>by
 obtain⟨vs,f,q⟩:=am.lst e2;obtain⟨v,z1,z2⟩:=as.get e1;obtain rfl:=z2.inv;exact⟨_,_,D,N6 (as.sub Sub.del) z1 (.rl f nG (q.sub Sub.del)),am.sub Sub.del,h',k.kp ((Kp.refl am).sub Sub.del)⟩
def BY:R3:=λx y M R=>∃p ws,x=.ref p/\y=.rl []/\M p=some (.lst ws)/\ws≠[]/\R (.bl false) M
theorem N8(hu:X.A.units+64<Ex):bC X (Dj .Eq) (cJ X.K BY):=by
 rintro pins s Z H x y v u Q I rx ry ⟨_,_,M,R,am,ax,ay,⟨p,ws,rfl,rfl,e,hn,q⟩,k⟩;cases ax;cases rx;obtain⟨vs,e0,qv⟩:=am.lst e;obtain⟨its,rv,pl,_⟩:=I.list (bH.of e0);cases ay with
 | rl e2 _ q2=>
  cases q2;cases ry;obtain⟨_,rv2,pl2,_⟩:=I.list (bH.of e2);cases rv2;refine SeqAt.eq_list_lengthsAt pl.isList pl2.isList ?_ (by lia) ⟨.bl _,H,I,rfl,k.at am (.bl _) q⟩;cases qv with
  | nil=>exact absurd rfl hn
  | cons _ _=>cases rv;rfl
end
def N9:a8:=λws M R=>∃rs:List aE,ws=[bV rs]/\fP rs/\R (.bl (lI rs)) M
abbrev zil:List Aw:=["rules","first","name","parts","cost","within"]
abbrev zim:aD:=
   (aW 1 (vX (vX aH bL) bL))
abbrev zin:aD:=
   (aF (aW 5 (bN (eF (bY cU aH) (a7 0) (bT (aG (cH false) aS (vX aH bD))) aH [none,some 1])))
   (cI (kN (bT (aG (eC false) bJ (a9 aC))) (lU (bT (aG (eC true) a6 aS)) (bT (aG (eC true) c0 (fU aC)))))
    (bS (vC (.bl true)))
    dA))
abbrev zio:aD:=
   (cL (bY jM aH) (gA 3 (cP (a7 2) (cP (a7 3) (cP (a7 4) f9)))) zin)
abbrev ziq:aD:=
   (bS (vC (.bl false)))
abbrev zir:aD:=(aF zim (aF zio ziq))
theorem zis{q:aE}(h:pG q.name/\∀t∈q.parts,Sh t):Pl 3 (bE q):=λw hw=>by
 simp only[Bd,Hc,or_false]at hw;rcases hw with rfl|rfl|rfl
 .exact y7 h.1
 .exact λw hw=>by
   obtain⟨t,ht,rfl⟩:=Bc.mp hw;exact y7 (h.2 t ht).asc
 .trivial
theorem BZ{l:List aE}{M:Mm}(h:L7 l):Pl 4 (cV M (.rl (l.map bE))):=λw hw=>by
 obtain⟨q,hq,rfl⟩:=Bc.mp hw;exact zis (h q hq)
theorem fP.rpl{rs:List aE}(g:fP rs):L7 rs:=λq hq=>⟨(g.shn q hq).asc,g.sh q hq⟩
theorem zit{ws:List W}{M:Mm}{R:K3}(h:N9 ws M R):zir (bA R) (bF zil ws) M:=by
 obtain⟨rs,rfl,g,r⟩:=h;have hf:=g.few;obtain⟨q0,l,b,e0,hb,du⟩:=N4 g.ne;refine so.of (o:=b7 (rs.map bE) 0) (a:=bE q0) (by rw[e0];exact uF _ _) ?_;refine dB (λi τ M'=>∃o2 o3 o4 o5,τ=[some (.rl (rs.map bE)),some (.str q0.name),o2,o3,o4,o5]/\M'=M/\((rs.take i).any λr=>decide (r.parts=[])&&(decide (r.name≠q0.name)||b))=false) ⟨_,_,_,_,rfl,rfl,rfl⟩ ?_ ?_
 .rintro i w τ M' hw ⟨o2,o3,o4,o5,rfl,rfl,hn⟩;rw[Ap]at hw;obtain⟨q,hq,rfl⟩:=Ax.mp hw;have hm:=Ay hq;have nx:=λz=>N3 hq hn z;refine⟨rfl,rfl,NS (rest:=[some (.str q0.name)]) (λq=>if decide (q0.name∈q.parts)=true then some (bE q) else none) (by lia) (λ_ _=>trivial) (λz hz M2 C D sb h1 h2=>⟨rfl,rL _,cB (b:=inW (.str q0.name) (z.parts.map W.str)) (λy=>h1 _ ?_) λy=>h2 ?_⟩) (aV.frz ?_)⟩
  .rw[rK]at y;rw[Uw y]
  .rw[rK]at y;rw[Uv (by rw[y];exact Av)]
  rw[NT];refine nR 2 (by decide) (kA (g.sh q hm)) (kA (ps:=[]) (λt ht=>nomatch ht)) λc hc=>?_;have ec:=parts_nil hc;have yes:c=true->(decide (q.name≠q0.name)||b)=true->∃M'',L2.Sub M'' M'/\R (.bl true) M'':=λy1 y2=>⟨_,aP,by rw[du,Ge.mpr ⟨q,hm,by rw[<-ec,y1,y2];rfl⟩]at r;exact r⟩
  refine cB (b:=c) (λy1=>cB (b:=!decide (q.name=q0.name)) (λy2=>yes y1 (by rw[decide_not,y2];rfl)) λy2=>?_) λy1=>⟨_,aP,_,_,_,_,rfl,rfl,nx (by rw[<-ec,y1];rfl)⟩
  refine nR 4 (by decide) (BZ λz hz=>g.rpl z (Ep.mp hz).1) (BZ (l:=[]) (λt ht=>nomatch ht)) λc2 hc2=>?_;have e2:(!c2)=b:=by
   have:c2=true↔b=false:=by
    rw[hc2,hb,Mx];constructor
    .intro z x hx y;have z:W.rl ((rs.filter λq=>decide (q0.name∈q.parts)).map bE)=W.rl []:=z;have z:=Gv.mp (W.rl.inj z);have:x∈rs.filter λq=>decide (q0.name∈q.parts):=Ep.mpr ⟨hx,y⟩;rw[z]at this;cases this
    .intro z;show W.rl ((rs.filter λq=>decide (q0.name∈q.parts)).map bE)=W.rl [];rw[List.filter_eq_nil_iff.mpr z];rfl
   cases c2<;>cases hbb:b<;>simp_all
  refine cB (b:=!c2) (λy3=>yes y1 (by rw[<-e2,y3];exact Lx _)) λy3=>⟨_,aP,_,_,_,_,rfl,rfl,nx (by rw[decide_not,y2,<-e2,y3];exact Bool.and_false _)⟩
 .rintro τ M' ⟨o2,o3,o4,o5,rfl,rfl,hn⟩;rw[Ab,Br]at hn;exact⟨_,aP,by rw[du,hn]at r;exact r⟩
structure Dr(hs ws:List Aw)(rs:List aE):Prop where
 ne:rs≠[]
 few:rs.length<=17
 h4:hs.length<=4
 w4:ws.length<=4
 hd:∀t∈hs,pH t
 wd:∀t∈ws,kX t
 of:∀r∈rs,mI hs ws r
 cov:∀t∈hs,∃r∈rs,r.name=t
theorem Dr.sh{hs ws:List Aw}{rs:List aE}(d:Dr hs ws rs){r:aE}(hr:r∈rs){t:Aw}(ht:t∈r.parts):Sh t:=((d.of r hr).parts t ht).elim (λz=>(d.wd t z).sh) λz=>(d.hd t z).sh
theorem ziu(rs:List aE):(namesOf rs).Nodup:=by
 have:∀(ts acc:List Aw),acc.Nodup->(ts.foldl dE acc).Nodup:=by
  intro ts
  induction ts with
  | nil=>intro acc h;exact h
  | cons t ts ih=>intro acc h;exact ih _ (AE h)
 exact this _ _ Ey
theorem Dr.g60{hs ws:List Aw}{rs:List aE}(d:Dr hs ws rs):fP rs:=by
 refine⟨d.ne,d.few,Bf (len_sub (ziu rs) λx hx=>?_) d.h4,λr hr=>(d.of r hr).few,⟨ws,by have:=d.w4;lia,λr hr t ht ho=>?_⟩,λr hr=>(d.hd _ (d.of r hr).name).sh,λr hr t ht=>d.sh hr ht⟩
 .obtain⟨r,hr,rfl⟩:=qX.mp hx;exact(d.of r hr).name
 .rcases(d.of r hr).parts t ht with z|z
  .exact z
  .obtain⟨q,hq,rfl⟩:=d.cov t z;rw[zG hq]at ho;cases ho
def lng(r:aE):aE:=if r.parts=[] then⟨r.name,["zoe"],r.cost⟩ else r
theorem ziv(r:aE):(lng r).name=r.name:=by unfold lng;split<;>rfl
theorem ziw(r:aE):(lng r).parts≠[]:=by
 unfold lng;split
 .exact List.cons_ne_nil _ _
 .assumption
theorem Dr.lng{hs ws:List Aw}{rs:List aE}(d:Dr hs ws rs)(hz:("zoe" : Aw)∈ws):Dr hs ws (rs.map lng):=by
 refine⟨λe=>d.ne (Gv.mp e),by rw[Ab];exact d.few,d.h4,d.w4,d.hd,d.wd,λr hr=>?_,λt ht=>?_⟩
 .obtain⟨q,hq,rfl⟩:=Bc.mp hr;have o:=d.of q hq;unfold L2.lng;split
  .exact⟨o.name,λt ht=>.inl (by rw[Am.mp ht];exact hz),by show 1<=4;decide,o.lo,o.hi⟩
  .exact o
 .obtain⟨r,hr,e⟩:=d.cov t ht;exact⟨_,Bc.mpr ⟨r,hr,rfl⟩,by rw[ziv];exact e⟩
theorem zix(rs:List aE):lI (rs.map lng)=false:=by
 unfold lI;rw[Mx];intro r hr;obtain⟨q,_,rfl⟩:=Bc.mp hr;rw[Uz (ziw q)];exact Av
theorem Dr.okG{hs ws:List Aw}{rs:List aE}(d:Dr hs ws rs):L3 rs:=⟨d.ne,by have:=d.few;lia,λr hr=>⟨(d.of r hr).lo,λt ht=>by
 rcases(d.of r hr).parts t ht with z|z
 .have z:=d.wd t z;exact⟨by have:=z.len;lia,λn=>by rw[VX z.ne z.sm]at n;cases n⟩
 .exact⟨by have:=(d.hd t z).len;lia,λ_=>qX.mpr (d.cov t z)⟩⟩⟩
theorem ziy:kX ("zoe" : Aw):=⟨by decide +kernel,by decide +kernel,by decide +kernel⟩
abbrev ziz:List Aw:=["script","rules","longer","name","parts","cost","some","grammar"]
abbrev ziA:aD:=
   (aW 1 (bN (aZ J0 (aA (pB aH (mB bD) (mB (vI 14))) (aA (aG dD bD (vX (bN (aZ u3 (aA (aZ uZ (aA aH (aA bL aC))) (aA (fU (aA (vI 4) aC)) aC)))) bL)) (aA (vI 4) aC))))))
abbrev ziB:aD:=
   (aW 2 (iL aC))
abbrev ziC:aD:=
   (aF (cI (bT (aG (eC false) bG (a9 aC)))
    (aW 4 (a9 (aA (vC (.str "zoe")) aC)))
    dA)
   (cE (eA "list" fJ a6 (aA (a9 (aA bJ (aA bG (aA c0 aC)))) aC))))
abbrev ziD:aD:=
   (cL (bY jM aS) (gA 3 (cP (a7 3) (cP (a7 4) (cP (a7 5) f9)))) ziC)
abbrev ziE:aD:=
   (aF (aW 7 (bN (aZ AU (aA (bU yL (aA cS aC)) aC))))
   (aF (cI (bT (aG (eC true) (aZ pY (aA cT (aA bL aC))) (aZ N9 (aA cS aC))))
    (bS (vC (.bl false)))
    dA)
   (aF (cI (lU (gK (aZ pY (aA cT (aA bD aC)))) (gK (aZ pY (aA cT (aA lR aC)))))
    (bS (vC (.bl false)))
    dA)
   (cI (lU (bT (aG (eC true) cT cS)) (lU (bT (aG BY (vX (aZ BN (aA cT aC)) bL) (fU aC))) (bT (aG BY (vX (aZ AY (aA cT aC)) bL) (fU aC)))))
    (bS (vC (.bl false)))
    dA))))
abbrev ziF:aD:=
   (N7 2 (cL (bY cU (fU (aA aS (aA a6 aC)))) (a7 6) ziE))
abbrev ziG:aD:=
   (bS (aG xR (bU dH (aA (vX (aZ (N0 r6) (aA (bN (aZ AU (aA (bU yL (aA a6 aC)) aC))) aC)) bL) aC)) bL))
abbrev ziH:aD:=(aF ziA (aF ziB (aF ziD (aF ziF ziG))))
theorem B0{l:List (NP×W)}{M:Mm}{R:W->Mm->Prop}(hl:l≠[])(h:∀p q ws M',L2.Sub M M'->M' p=some (.lst ws)->ws≠[]->R (.tup [.ref p,.ref q]) M'):oG l M R:=λp q hp hq ne=>h _ _ _ _ ((Sub.new hp).trans (Sub.new (by rw[aM (Bq ne)];exact hq))) (by rw[aM ne,aL]) λe=>hl (Gv.mp (Gv.mp e))
theorem OA{rs:List aE}{k:Int}{M:Mm}{Q:Bool->Mm->Prop}(hk:decide (k=0)=false)(g:fP rs)(h:Q false M):pY [bV rs,.int k] M λw M'=>tM w M' Q:=⟨rs,k,rfl,g,by rw[hk];exact h⟩
theorem ziI{ws:List W}{M:Mm}{R:K3}(h:qS ws M R):ziH (bA R) (bF ziz ws) M:=by
 obtain⟨ns,rfl,hl,hM,r⟩:=h;have hi:=L2.ints_map ns;refine⟨_,0,.inl rfl,hi,by decide,λc=>⟨c,[4],rfl,by decide,λs hs=>?_,λds hds=>aV.frz ?_⟩⟩
 .rw[Am.mp hs];decide
 obtain⟨d,rfl,hd⟩:∃d,ds=[d]/\Below d 4:=by
  cases hds with
  | cons a b=>cases b;exact⟨_,rfl,a⟩
 have hd1:=hd.1;have hd2:=hd.2;have hz:=GZ (S:=ns.map W.int) (i:=1) (j:=14) (by decide) (by decide);have hz:(eE (ns.map W.int) (some 1) (some 14)).length<=13:=hz;refine so.of (iJ (j:=0) rfl) ⟨_,1+d,4,rfl,hi.cut _ _,by lia,by lia,by lia,by decide,by decide,λrs gr hpm ⟨hs,wds,q1,q2,q3,q4,q5,q6,q7⟩=>aV.frz ?_⟩;have dr:Dr hs (wds++[("zoe" : Aw)]) rs:=by
  refine⟨gr.ne,by lia,by lia,by rw[Ak,q2];decide,q3,λt ht=>?_,λr hr=>?_,q6⟩
  .rcases Ba.mp ht with h|h
   .exact q4 t h
   .rw[Am.mp h];exact ziy
  .have o:=q5 r hr;exact⟨o.name,λt ht=>(o.parts t ht).imp (λz=>Bg _ z) id,o.few,o.lo,o.hi⟩
 have dl:=dr.lng (Bs _ (Am.mpr rfl));have hf:=dr.few;intro p hp;refine dB (λi τ M'=>∃o3 o4 o5,τ=[some (.sc (ns.map W.int)),some (.rl (rs.map bE)),some (.ref p),o3,o4,o5,none,none]/\M'=put M p (.lst (((rs.take i).map lng).map bE))) ⟨_,_,_,rfl,rfl⟩ ?_ ?_
 .rintro i w τ M' hw ⟨o3,o4,o5,rfl,rfl⟩;rw[Ap]at hw;obtain⟨q,hq,rfl⟩:=Ax.mp hw;have hm:=Ay hq;have hlt:=(An.mp hq).1;have hs1:(((rs.take i).map lng).map bE).length<Ao:=small (by rw[Ab,Ab,Ca];lia);have nx:(((rs.take (i+1)).map lng).map bE)=(((rs.take i).map lng).map bE)++[bE (lng q)]:=by rw[Bw,hq,Az,Az];rfl
  refine⟨rfl,rfl,nR 2 (by decide) (kA λt ht=>dr.sh hm ht) (kA (ps:=[]) (λt ht=>nomatch ht)) λc hc=>?_⟩;have ec:c=true↔q.parts=[]:=by rw[parts_nil hc,decide_eq_true_iff]
  refine cB (b:=c) (λy=>⟨.inl ⟨rfl,_,aL⟩,_,aL,hs1,?_⟩) λy=>⟨.inl ⟨rfl,_,aL⟩,_,aL,hs1,?_⟩
  .refine⟨_,aP,_,_,_,rfl,?_⟩;rw[nx,c9,show lng q=_ from Uw (ec.mp y)];rfl
  .refine⟨_,aP,_,_,_,rfl,?_⟩;rw[nx,c9,show lng q=_ from Uv λz=>by rw[ec.mpr z]at y;cases y];rfl
 .rintro τ M' ⟨o3,o4,o5,rfl,rfl⟩;rw[Ab,Br];obtain⟨ls,mW⟩:∃ls,ls=rs.map lng:=⟨_,rfl⟩;have du:=zix rs;rw[<-mW]at dl du⊢;refine⟨p,_,rfl,aL,?_⟩;generalize del _ p=M1;refine dB (λi τ M'=>∃o3 o4 o5 o6 o7,τ=[some (.sc (ns.map W.int)),some (.rl (rs.map bE)),some (.rl (ls.map bE)),o3,o4,o5,o6,o7]/\M'=M1) ⟨_,_,_,_,_,rfl,rfl⟩ ?_ ?_
  .rintro i w τ M' hw ⟨o3,o4,o5,o6,o7,rfl,rfl⟩;obtain⟨ss,rfl,ds⟩:∃ss,w=.rl (ss.map bE)/\Dr hs (wds++[("zoe" : Aw)]) ss:=by
    rcases Bd.mp (Ay hw) with h|h
    .exact⟨_,h,dr⟩
    .exact⟨_,Am.mp h,dl⟩
   have g:=ds.g60;refine⟨ss,rfl,ds.okG,aV.frz ⟨ss,0,rfl,g,ss,rfl,g,cB (b:=!decide (_=_)) (λy=>?_) λy=>OA (by decide) g ?_⟩⟩
   .simp at y
   refine OA (by decide) g (ZA (neg:=true) 4 (by decide) (BZ g.rpl) rfl ?_);refine⟨ss,rfl,g,λl hl=>B0 hl λp q ws M2 sb e ne=>⟨p,ws,rfl,rfl,e,ne,?_⟩⟩;refine⟨ss,rfl,⟨Bf g.few (by decide),g.prt⟩,g.ne,λl hl=>B0 hl λp q ws M3 sb2 e ne=>⟨p,ws,rfl,rfl,e,ne,_,sb.trans sb2,_,_,_,_,_,rfl,rfl⟩⟩
  .rintro τ M' ⟨o3,o4,o5,o6,o7,rfl,rfl⟩;refine⟨ls,rfl,dl.okG,aV.frz ⟨ls,rfl,dl.g60,λz=>(by rw[du]at z;cases z),λ_ l hl=>B0 hl λp q ws M2 _ e ne=>⟨v8,?_⟩⟩⟩;refine .inl ⟨_,e,_,aP,?_⟩;show R (.bl (decide ((0:Int)<ws.length))) _;rw[Uy (by have:=Lq.mpr ne;lia)];exact r _
structure Zx(K:Ac)(mg:Aw->Option Ae)(D Dg c1 c2 c3 c4 c5:Aj):Prop where
 no:uJ K mg "NoGrammar" D
 grove:mg "GroveError" = some (.ref Dg)
 m1:mg "Endless" = some (.ref c1)
 m2:mg "NoOrder" = some (.ref c2)
 m3:mg "NoReading" = some (.ref c3)
 m4:mg "NoText" = some (.ref c4)
 m5:mg "TooMany" = some (.ref c5)
 n1:Dq K (.ref D) (.ref c1)=some false
 n2:Dq K (.ref D) (.ref c2)=some false
 n3:Dq K (.ref D) (.ref c3)=some false
 n4:Dq K (.ref D) (.ref c4)=some false
 n5:Dq K (.ref D) (.ref c5)=some false
 y:Dq K (.ref D) (.ref D)=some true
 k1:Kd K (.ref D) (.ref Dg)=some true
 k2:Kd K (.ref D) (.type "ValueError")=some true
theorem ziJ:Cs "ValueError" = some (.type "ValueError"):=by decide +kernel
def B1(D:Aj):String->Option Aj:=λn=>if n = "NoGrammar" then some D else none
structure Tx(mg:Aw->Option Ae):Prop where
 c_FIGURED_NAMES:∃t,mg "FIGURED_NAMES" = some (.int 10000 t)
 c_FIGURES:∃t,mg "FIGURES" = some (.str "0123456789" t)
 c_GREAT_LETTERS:∃t,mg "GREAT_LETTERS" = some (.str "ABCDEFGHIJKLMNOPQRSTUVWXYZ" t)
 c_WHOLE:∃t,mg "WHOLE" = some (.str "whole" t)
 ValueError_:mg "ValueError" = none
 all_:mg "all" = none
 any_:mg "any" = none
 dict_:mg "dict" = none
 enumerate_:mg "enumerate" = none
 isinstance_:mg "isinstance" = none
 len_:mg "len" = none
 list_:mg "list" = none
 range_:mg "range" = none
 reversed_:mg "reversed" = none
 sorted_:mg "sorted" = none
 str_:mg "str" = none
 tuple_:mg "tuple" = none
 zip_:mg "zip" = none
structure Kc(K:Ac)(mg:Aw->Option Ae)(C:Cc):Prop where
 cls_Queue:gH K C.q
 at__Queue:mg "Queue" = some (.ref C.q)
 cls_Search:gH K C.s
 at__Search:mg "Search" = some (.ref C.s)
 cls_Plainer:gH K C.p
 at__Plainer:mg "Plainer" = some (.ref C.p)
 na_costs:eZ K C.q "costs"
 na_waiting:eZ K C.q "waiting"
 na_grammar:eZ K C.s "grammar"
 na_own:eZ K C.s "own"
 na_steps:eZ K C.s "steps"
 na_queue:eZ K C.s "queue"
 na_reached:eZ K C.s "reached"
 na_best:eZ K C.s "best"
 na_ends:eZ K C.s "ends"
 na_begun:eZ K C.s "begun"
 na_backs:eZ K C.p "backs"
structure Al(K:Ac)(mg:Aw->Option Ae)(C:Cc)(fa:Nat->Aj)(fb:Nat->Dz):Prop extends Tx mg,Kc K mg C where
 x0:Df K mg "made_of" (top 11) ["text","signs"] (fa 0) (fb 0)
 x1:Df K mg "is_name" (top 12) ["part"] (fa 1) (fb 1)
 x2:Df K mg "names" (top 13) ["grammar"] (fa 2) (fb 2)
 x3:Df K mg "first_name" (top 14) ["grammar"] (fa 3) (fb 3)
 x4:Df K mg "rules_of" (top 15) ["grammar","name"] (fa 4) (fb 4)
 x5:Df K mg "check_rule" (top 16) ["rule","known"] (fa 5) (fb 5)
 x6:Df K mg "grammar_of" (top 17) ["rules"] (fa 6) (fb 6)
 x7:Df K mg "marks" (top 19) ["things"] (fa 7) (fb 7)
 x8:Df K mg "places_of" (top 20) ["row"] (fa 8) (fb 8)
 x9:Df K mg "row_steps" (top 21) ["row"] (fa 9) (fb 9)
 x10:Df K mg "part_facts" (top 22) ["own","parts","cut"] (fa 10) (fb 10)
 x11:Di K C.q "__init__" "Queue.__init__" (dS (top 24) 0) ["self"] (fa 11) (fb 11)
 x12:Dm K C.q "is_done" "Queue.is_done" (dS (top 24) 1) ["self"] (fa 12) (fb 12)
 x13:Dm K C.q "place_of" "Queue.place_of" (dS (top 24) 3) ["self","cost"] (fa 13) (fb 13)
 x14:Dm K C.q "put" "Queue.put" (dS (top 24) 2) ["self","cost","thing"] (fa 14) (fb 14)
 x15:Dm K C.q "take" "Queue.take" (dS (top 24) 4) ["self"] (fa 15) (fb 15)
 x16:Df K mg "added" (top 26) ["cost","other"] (fa 16) (fb 16)
 x17:Di K C.s "__init__" "Search.__init__" (dS (top 27) 0) ["self","grammar","steps"] (fa 17) (fb 17)
 x18:Dm K C.s "reach" "Search.reach" (dS (top 27) 1) ["self","number","cut","cost"] (fa 18) (fb 18)
 x19:Dm K C.s "settle" "Search.settle" (dS (top 27) 4) ["self","number","cut","cost"] (fa 19) (fb 19)
 x20:Dm K C.s "step_by_name" "Search.step_by_name" (dS (top 27) 3) ["self","number","cut","cost","key"] (fa 20) (fb 20)
 x21:Dm K C.s "take_next" "Search.take_next" (dS (top 27) 2) ["self"] (fa 21) (fb 21)
 x22:Df K mg "least_trees" (top 28) ["grammar","places","steps","weights"] (fa 22) (fb 22)
 x23:Df K mg "facts_within" (top 29) ["grammar","best","top"] (fa 23) (fb 23)
 x24:Df K mg "knot_of" (top 32) ["number","children"] (fa 24) (fb 24)
 x25:Df K mg "same_word" (top 31) ["word","begin","end"] (fa 25) (fb 25)
 x26:Df K mg "made_of_best" (top 30) ["grammar","best","top","of_word","of_rule"] (fa 26) (fb 26)
 x27:Df K mg "best_tree" (top 33) ["grammar","best","top"] (fa 27) (fb 27)
 x28:Df K mg "row_trees" (top 35) ["grammar","row","weights"] (fa 28) (fb 28)
 x29:Df K mg "no_weights" (top 36) ["grammar"] (fa 29) (fb 29)
 x30:Df K mg "words_of" (top 38) ["grammar"] (fa 30) (fb 30)
 x31:Df K mg "shortest_lengths" (top 39) ["grammar"] (fa 31) (fb 31)
 x32:Df K mg "made_names" (top 43) ["old","count"] (fa 32) (fb 32)
 x33:Df K mg "slots" (top 44) ["parts"] (fa 33) (fb 33)
 x34:Di K C.p "__init__" "Plainer.__init__" (dS (top 45) 0) ["self"] (fa 34) (fb 34)
 x35:Dm K C.p "put_rule" "Plainer.put_rule" (dS (top 45) 1) ["self","name","parts","pieces"] (fa 35) (fb 35)
 x36:Dm K C.p "is_part" "Plainer.is_part" (dS (top 45) 2) ["self","name"] (fa 36) (fb 36)
 x37:Dm K C.p "grammar_and_backs" "Plainer.grammar_and_backs" (dS (top 45) 3) ["self"] (fa 37) (fb 37)
 x38:Df K mg "nothing_read" (top 46) ["grammar"] (fa 38) (fb 38)
 x39:Df K mg "empty_trees" (top 47) ["grammar"] (fa 39) (fb 39)
 x40:Df K mg "wordy_names" (top 48) ["grammar"] (fa 40) (fb 40)
 x41:Df K mg "thinned" (top 49) ["parts","own","wordy","empties"] (fa 41) (fb 41)
 x42:Df K mg "put_thinned" (top 50) ["plain","grammar","name","wordy","empties"] (fa 42) (fb 42)
 x43:Df K mg "no_empty" (top 51) ["grammar"] (fa 43) (fb 43)
 x44:Df K mg "check_no_empty" (top 52) ["grammar"] (fa 44) (fb 44)
 x45:Df K mg "is_single" (top 53) ["own","rule"] (fa 45) (fb 45)
 x46:Df K mg "single_chains" (top 54) ["grammar","own","name"] (fa 46) (fb 46)
 x47:Df K mg "chain_pieces" (top 55) ["chain","number","parts"] (fa 47) (fb 47)
 x48:Df K mg "put_chained" (top 56) ["plain","grammar","name","fruitful"] (fa 48) (fb 48)
 x49:Df K mg "no_single" (top 57) ["grammar"] (fa 49) (fb 49)
 x50:Df K mg "long_ends" (top 58) ["grammar"] (fa 50) (fb 50)
 x51:Df K mg "shortened" (top 59) ["parts","made"] (fa 51) (fb 51)
 x52:Df K mg "twos" (top 60) ["grammar"] (fa 52) (fb 52)
 x53:Df K mg "_law_cell_at" (top 62) ["script","k"] (fa 53) (fb 53)
 x54:Df K mg "_law_stir" (top 63) ["cell","k"] (fa 54) (fb 54)
 x55:Df K mg "_law_drawn" (top 64) ["cell","sizes"] (fa 55) (fb 55)
 x56:Df K mg "_law_unlike" (top 65) ["number","many","great"] (fa 56) (fb 56)
 x57:Df K mg "_law_rule" (top 66) ["cell","heads","words","most"] (fa 57) (fb 57)
 x58:Df K mg "_law_rules" (top 67) ["cells","many","most"] (fa 58) (fb 58)
 x59:Df K mg "_law_refused" (top 68) ["grammar","way"] (fa 59) (fb 59)
 x60:Df K mg "_law_due" (top 69) ["rules"] (fa 60) (fb 60)
 x61:Df K mg "law" (top 70) ["script"] (fa 61) (fb 61)
 zx:∃D Dg c1 c2 c3 c4 c5,Zx K mg D Dg c1 c2 c3 c4 c5
 f_same_word:C.f=fa 25
 f_knot_of:C.g=fa 24
theorem bP{K:Ac}{x q:Aw}{st:Gn}{f:Aj}{ps:List Aw}{fd:Dz}{N:List Aw}{sp:a8}{rd:aD}(P:Ar)(w:Bk)(mg:Aw->Option Ae)(base:Cr)(k:Nat)(F:iV K x q st f fd)(b:Binds K fd ps [])(good:∀{ws M R},sp ws M R->rd (bA R) (bF N ws) M)(S:lK N ps (dN st):=by exact rX)(tm:∀{cdv:Ae} {A:Cn} {outer:List PySem.Env} {s:Ah} {H:Hp} {E:XK},cC k (A.deeper (Lp q (dN st) s.heap.objs.size f cdv))->(A.deeper (Lp q (dN st) s.heap.objs.size f cdv)).units+1<Ex->N.Nodup->jL (cZ eS P w K mg base N q (dN st) f cdv A outer s H E).nox (fX st) rd:=by intro _ _ _ _ _ _ hr hu nd;walk_at "t")(len:∀ws M R,sp ws M R->ws.length=ps.length:=by intro _ _ _ h;repeat (first|(obtain⟨rfl,_⟩:=h;exact rfl)|obtain⟨_,h⟩:=h)):e8 P w K mg base eS (k+1) f fd ps (eW K sp):=A5 P w mg base k F b S good tm len
section
variable {P:Ar}{w:Bk}{K:Ac}{mg:Aw->Option Ae}{base:Cr}{C:Cc}{fa:Nat->Aj}{fb:Nat->Dz}(Y:Al K mg C fa fb)
seal L2.PE L2.PA L2.PS L2.eR L2.PT L2.PG L2.PI L2.PO
set_option hygiene false in
local macro_rules | `(tactic| walk_at "t") => `(tactic| repeat' first
 | (show eR _ _ _;first|refine yE ?_|refine yD ?_ ?_|exact YF)
 | (show PA _ _ _;first|refine eQ ?_ ?_|exact fT)
 | (show PE _ _ (up _ (bN _));refine tI ?_)
 | (show PE _ _ (up _ (rQ _));refine zdO ?_)
 | (show PE _ _ (up _ (BL _ _ _ _));refine zhs ?_)
 | (show PE _ (.Name _ _) _;first|exact v _|exact ME Y.f_knot_of Y.x24|exact ME Y.f_same_word Y.x25|exact Y.c_FIGURED_NAMES.elim λ_ h=>oT (y:=V.int 10000) (by rfl) h ⟨_,rfl⟩ (λ_ _=>.int _)|exact Y.c_FIGURES.elim λ_ h=>oT (y:=V.str "0123456789") (by rfl) h ⟨_,rfl⟩ (λ_ _=>.str _)|exact Y.c_GREAT_LETTERS.elim λ_ h=>oT (y:=V.str "ABCDEFGHIJKLMNOPQRSTUVWXYZ") (by rfl) h ⟨_,rfl⟩ (λ_ _=>.str _)|exact Y.c_WHOLE.elim λ_ h=>oT (y:=V.str "whole") (by rfl) h ⟨_,rfl⟩ (λ_ _=>.str _))
 | (show PE _ (.Constant _ _ _) _;first|exact oS|exact E6|exact E5)
 | (show PE _ (.Subscript _ (.Slice _ _ _ _) _) _;refine Y6 ?_ ?_ ?_)
 | (show PE _ (.Subscript _ _ _) _;refine tT hu ?_ ?_)
 | (show PE _ (.Tuple _ _ _) _;refine FF ?_)
 | (show PE _ (.List _ _) _;first|refine Y2 ?_|refine WY ?_)
 | (show PE _ (.Dict _ _ _) _;first|exact X9|exact YA|exact zaO (tl:=[0])|refine zfY ?_ ?_|refine zfG hu ?_ ?_)
 | (show PE _ (.BinOp _ _ _ _) _;refine WU (by first|exact FK|exact GR|exact zbI|exact zfV|exact XC|exact W8|exact W9|exact Y3|exact zbJ|exact XA|exact XB|exact W7) ?_ ?_)
 | (show PE _ (.UnaryOp _ _ _) _;refine WV XF ?_)
 | (show PE _ (.Compare _ _ _ _) _;refine E7 (by first|exact qO hr.units|exact N8 hr.units|exact JE hu|exact yA hu|exact JD hu|exact xS hr.units|exact yB hu|exact FV|exact FT|exact FR|exact FP) ?_ ?_)
 | (show PE _ (.BoolOp _ _ _) _;first|refine FE ?_|refine v_and ?_ ?_|refine v_or ?_ ?_)
 | (show PE _ (.IfExp _ _ _ _) _;refine WX ?_ ?_ ?_)
 | (show PE _ (.Attribute _ _ _) _;refine zaz (by first|exact Y.cls_Plainer|exact Y.cls_Queue|exact Y.cls_Search) (by first|exact Y.na_backs|exact Y.na_begun|exact Y.na_best|exact Y.na_costs|exact Y.na_ends|exact Y.na_grammar|exact Y.na_own|exact Y.na_queue|exact Y.na_reached|exact Y.na_steps|exact Y.na_waiting) ?_)
 | (show PE _ (.ListComp _ _ _ _) _;first|refine gO ["sign","signs"] [none,some 1] ?_ (λB=>by first|exact fG|exact nP rfl (iN fG (iN fG nO))) (λB=>?_) λB=>?_|refine gO ["number","rule","name"] [none,none,some 1] ?_ (λB=>?_) (λB=>?_) λB=>?_|refine gO ["thing"] [none] ?_ (λB=>by first|exact fG|exact nP rfl (iN fG (iN fG nO))) (λB=>?_) λB=>?_|refine gO ["place","word"] [none,none] ?_ (λB=>?_) (λB=>?_) λB=>?_|refine gO ["k","part","own","cut"] [none,none,some 0,some 2] ?_ (λB=>?_) (λB=>?_) λB=>?_|refine gO ["fact","found"] [none,some 4] ?_ (λB=>?_) (λB=>?_) λB=>?_|refine gO ["rule"] [none] ?_ (λB=>by first|exact fG|exact nP rfl (iN fG (iN fG nO))) (λB=>?_) λB=>?_|refine gO ["word"] [none] ?_ (λB=>by first|exact fG|exact nP rfl (iN fG (iN fG nO))) (λB=>?_) λB=>?_|refine gO ["fact","best"] [none,some 2] ?_ (λB=>?_) (λB=>?_) λB=>?_|refine gO ["rule","name"] [none,some 1] ?_ (λB=>by first|exact fG|exact nP rfl (iN fG (iN fG nO))) (λB=>?_) λB=>?_|refine gO ["fact","grammar","best"] [none,some 0,some 1] ?_ (λB=>?_) (λB=>?_) λB=>?_|refine gO ["part","fruitful","own"] [none,some 1,some 2] ?_ (λB=>?_) (λB=>?_) λB=>?_|refine gO ["part","wordy","own"] [none,some 4,some 1] ?_ (λB=>?_) (λB=>?_) λB=>?_|refine gO ["rule","first"] [none,some 1] ?_ (λB=>by first|exact fG|exact nP rfl (iN fG (iN fG nO))) (λB=>?_) λB=>?_|refine gO ["part","fruitful","own"] [none,some 3,some 4] ?_ (λB=>?_) (λB=>?_) λB=>?_)
 | (show PE _ (.Call (.Name _ _) _ _ _) _;first|refine bX (ziK Y) Y.x0 hr ?_|refine bX (ziL Y) Y.x1 hr ?_|refine bX (OB Y) Y.x2 hr ?_|refine bX (ziN Y) Y.x5 hr ?_|refine bX (ziP Y) Y.x7 hr ?_|refine bX (ziY Y) Y.x16 hr ?_|refine bX (ziS Y) Y.x10 hr ?_|refine bX (zi5 Y) Y.x23 hr ?_|refine bX (zi8 Y) Y.x26 hr ?_|refine bX (zi4 Y) Y.x22 hr ?_|refine bX (ziQ Y) Y.x8 hr ?_|refine bX (ziR Y) Y.x9 hr ?_|refine bX (zjc Y) Y.x30 hr ?_|refine bX (zjb Y) Y.x29 hr ?_|refine bX (B2 Y) Y.x3 hr ?_|refine bX (zja Y) Y.x28 hr ?_|refine bX (zi9 Y) Y.x27 hr ?_|refine bX (OC Y) Y.x31 hr ?_|refine bX (ziM Y) Y.x4 hr ?_|refine bX (zjj Y) Y.x41 hr ?_|refine bX (zji Y) Y.x40 hr ?_|refine bX (zjh Y) Y.x39 hr ?_|refine bX (OF Y) Y.x38 hr ?_|refine bX (zjk Y) Y.x42 hr ?_|refine bX (zjd Y) Y.x32 hr ?_|refine bX (zjm Y) Y.x45 hr ?_|refine bX (zje Y) Y.x33 hr ?_|refine bX (zjn Y) Y.x46 hr ?_|refine bX (zjo Y) Y.x47 hr ?_|refine bX (OH Y) Y.x48 hr ?_|refine bX (zjq Y) Y.x50 hr ?_|refine bX (zjr Y) Y.x51 hr ?_|refine bX (zjt Y) Y.x54 hr ?_|refine bX (zju Y) Y.x55 hr ?_|refine bX (zjs Y) Y.x53 hr ?_|refine bX (zjv Y) Y.x56 hr ?_|refine bX (zjw Y) Y.x57 hr ?_|refine bX (OG Y) Y.x43 hr ?_|refine bX (OJ Y) Y.x52 hr ?_|refine bX (zjx Y) Y.x58 hr ?_|refine bX (ziO Y) Y.x6 hr ?_|refine bX (zjy Y) Y.x59 hr ?_|refine bX (zjz Y) Y.x60 hr ?_|refine bX (zjp Y) Y.x49 hr ?_|refine lV (X6 rfl) (by rfl) Y.all_ ZJ ?_|refine lV (G0 rfl) (by rfl) Y.any_ GW ?_|refine lV (ZQ rfl) (by rfl) Y.sorted_ ZK ?_|refine lV yY (by rfl) Y.isinstance_ yR ?_|refine lV X0 (by rfl) Y.len_ ZG ?_|refine kO (ZV rfl) (by rfl) Y.dict_ yQ ?_|refine kO (ZW rfl) (by rfl) Y.dict_ yQ ?_|refine kO (zdT rfl (zQ hr)) (by rfl) Y.dict_ yQ ?_|refine kO (GB rfl) (by rfl) Y.list_ uE ?_|refine kO (Y4 rfl) (by rfl) Y.list_ uE ?_|refine kO (zaU (tl:=[0]) rfl) (by rfl) Y.list_ uE ?_|refine kO (zaZ rfl) (by rfl) Y.list_ uE ?_|refine kO X5 (by rfl) Y.str_ ZI ?_|refine kO X4 (by rfl) Y.tuple_ ZH ?_|refine MD (i:=3) Y.f_same_word (zi7 Y) hr Y.x25.fn.kp Y.x25.bi ?_|refine MD (i:=4) Y.f_knot_of (zi6 Y) hr Y.x24.fn.kp Y.x24.bi ?_|exact zJ Y.x11.mak (ziT Y) (hr.mono (by decide)) (by rfl) Y.at__Queue Y.x11.bi|exact zJ Y.x34.mak (OD Y) (hr.mono (by decide)) (by rfl) Y.at__Plainer Y.x34.bi|refine zaC Y.x17.mak (ziZ Y) (hr.mono (by decide)) (by rfl) Y.at__Search Y.x17.bi ?_|refine zgD (by rfl) Y.list_ (by rfl) Y.range_ ?_|refine zaY (by rfl) Y.tuple_ (by rfl) Y.range_ ?_|refine za8 (zQ hr) (by rfl) Y.dict_ (by rfl) Y.zip_ ?_)
 | (show PE _ (.Call (.Attribute _ _ _) _ _ _) _;first|refine nY Y.cls_Queue Y.x13.me (ziV Y) (hr.mono (by decide)) Y.x13.bi ?_ ?_|refine nY Y.cls_Queue Y.x14.me (ziW Y) (hr.mono (by decide)) Y.x14.bi ?_ ?_|refine nY Y.cls_Search Y.x18.me (zi0 Y) (hr.mono (by decide)) Y.x18.bi ?_ ?_|refine nY Y.cls_Search Y.x19.me (zi1 Y) (hr.mono (by decide)) Y.x19.bi ?_ ?_|refine nY Y.cls_Search Y.x20.me (zi2 Y) (hr.mono (by decide)) Y.x20.bi ?_ ?_|refine nY Y.cls_Plainer Y.x35.me (zjf Y) (hr.mono (by decide)) Y.x35.bi ?_ ?_|refine nY Y.cls_Plainer Y.x36.me (zjg Y) (hr.mono (by decide)) Y.x36.bi ?_ ?_|refine rD Y.cls_Queue Y.x15.me (ziX Y) (hr.mono (by decide)) Y.x15.bi ?_|refine rD Y.cls_Queue Y.x12.me (ziU Y) (hr.mono (by decide)) Y.x12.bi ?_|refine rD Y.cls_Search Y.x21.me (zi3 Y) (hr.mono (by decide)) Y.x21.bi ?_|refine rD Y.cls_Plainer Y.x37.me (OE Y) (hr.mono (by decide)) Y.x37.bi ?_|refine nM Mu F.slot_dict_get F.type_dict_get (zaG hu) ?_ ?_|refine nM Mu F.slot_dict_pop F.type_dict_pop (zaJ hu) ?_ ?_|refine nM Mu F.slot_dict_setdefault F.type_dict_setdefault (zaH hu) ?_ ?_|refine nM Nj F.slot_list_append F.type_list_append X7 ?_ ?_|refine nM Nj F.slot_list_insert F.type_list_insert zbc ?_ ?_|refine nM Nj Ow F.type_list_pop zfW ?_ ?_|refine nM F.plainAttrs_str F.slot_str_partition F.type_str_partition m_partition ?_ ?_|refine FJ Nj Ow F.type_list_pop X8 ?_|refine FJ F.plainAttrs_str F.slot_str_upper F.type_str_upper m_upper ?_|refine zaR (zQ hr) ?_ ?_ ?_|refine zaT ?_)
 | (show PS _ (.Assign [.Name _ _] (.ListComp _ _ _ _) _) _;first|refine uB nd ["rule","fruitful","own"] [none,some 2,some 1] ?_ (λB=>?_) (λB=>?_) λB=>?_|refine uB nd ["some","pieces","part","wordy","own"] [none,none,some 5,some 2,some 1] ?_ (λB=>?_) (λB=>?_) λB=>?_|refine uB nd ["some","pieces","part","empties"] [none,none,some 5,some 3] ?_ (λB=>?_) (λB=>?_) λB=>?_|refine YY nd ["cell","heads","words","most"] [none,some 5,some 6,some 2] ?_ (λB=>?_) (λB=>?_) λB=>?_|refine uB nd ["rule","first"] [none,some 1] ?_ (λB=>?_) (λB=>?_) λB=>?_)
 | (show PS _ (.Assign [.Name _ _] _ _) _;refine nQ nd ?_)
 | (show PS _ (.Assign [.Attribute _ _ _] _ _) _;refine zaA (by first|exact Y.cls_Plainer|exact Y.cls_Queue|exact Y.cls_Search) (by first|exact Y.na_backs|exact Y.na_begun|exact Y.na_best|exact Y.na_costs|exact Y.na_ends|exact Y.na_grammar|exact Y.na_own|exact Y.na_queue|exact Y.na_reached|exact Y.na_steps|exact Y.na_waiting) ?_ ?_)
 | (show PS _ (.Assign _ _ _) _;refine YC ?_ ?_)
 | (show PS _ (.If _ _ _ _) _;refine YH ?_ ?_ ?_)
 | (show PS _ (.For _ _ _ _ _) _;first|refine YK PassesOwn.never rfl ?_ ?_ ?_|refine zik ?_)
 | (show PS _ (.While _ _ _ _) _;refine YJ PassesOwn.never ?_ ?_)
 | (show PS _ (.Expr _ _) _;refine GD ?_)
 | (show PS _ (.Return _ _) _;first|refine GF ?_|exact YG)
 | exact YI
 | (show PT _ (.Compare _ _ _ _) _;refine oU (by first|exact qO hr.units|exact N8 hr.units|exact JE hu|exact yA hu|exact JD hu|exact xS hr.units|exact yB hu|exact FV|exact FT|exact FR|exact FP) ?_ ?_)
 | (show PT _ (.BoolOp _ _ _) _;refine PW.pt ?_)
 | (show PT _ (.UnaryOp _ _ _) _;refine WW ?_)
 | (show PT _ _ _;refine E8 ?_)
 | (show PW _ _ _;first|refine E9 ?_|refine FA ?_|refine FC ?_ ?_|refine FD ?_ ?_)
 | (show PG _ (.Name _ _) _;first|exact t6 nd|exact fG)
 | (show PG _ (.Tuple _ _ _) _;refine nP rfl ?_)
 | (show PG _ _ _;refine w_sub hu ?_ ?_)
 | (show iI _ _ _;first|refine iN ?_ ?_|exact nO)
 | (show iB _ _ _;first|exact GK|refine YX ?_)
 | (show PO _ _ _;first|exact XT|refine XU ?_)
 | (show PI _ _ _ _;first|refine YV (by rfl) Y.range_ ?_|refine YW (by rfl) Y.range_ ?_|refine ZM (by rfl) Y.enumerate_ ?_|refine zfL (by rfl) Y.enumerate_ ?_|refine zfX (by rfl) Y.reversed_ ?_|refine zfQ ?_|refine t9 ?_|refine YU ?_|refine zdS ?_|refine zhr ?_))
def ziK:=bP P w mg base 0 Y.x0.fn Y.x0.bi zcB
def ziL:=bP P w mg base 1 Y.x1.fn Y.x1.bi zcE
def OB:=bP P w mg base 0 Y.x2.fn Y.x2.bi zcF
def B2:=bP P w mg base 0 Y.x3.fn Y.x3.bi zcG
def ziM:=bP P w mg base 0 Y.x4.fn Y.x4.bi zgt
def ziN:=bP P w mg base 2 Y.x5.fn Y.x5.bi zcH
def ziO:=bP P w mg base 3 Y.x6.fn Y.x6.bi zfr
def ziP:=bP P w mg base 0 Y.x7.fn Y.x7.bi zdw
def ziQ:=bP P w mg base 0 Y.x8.fn Y.x8.bi zgK
def ziR:=bP P w mg base 0 Y.x9.fn Y.x9.bi zgM
def ziS:=bP P w mg base 0 Y.x10.fn Y.x10.bi zhg
def ziT:=bP P w mg base 0 Y.x11.fn Y.x11.bi zbE
def ziU:=bP P w mg base 0 Y.x12.fn Y.x12.bi zbD
def ziV:=bP P w mg base 0 Y.x13.fn Y.x13.bi zbF
def ziW:=bP P w mg base 1 Y.x14.fn Y.x14.bi zbG
def ziX:=bP P w mg base 0 Y.x15.fn Y.x15.bi zbH
def ziY:=bP P w mg base 0 Y.x16.fn Y.x16.bi zdx
def ziZ:=bP P w mg base 2 Y.x17.fn Y.x17.bi zdG
def zi0:=bP P w mg base 2 Y.x18.fn Y.x18.bi zdA
def zi1:=bP P w mg base 3 Y.x19.fn Y.x19.bi zdD
def zi2:=bP P w mg base 3 Y.x20.fn Y.x20.bi zdB
def zi3:=bP P w mg base 4 Y.x21.fn Y.x21.bi zdE
def zi4:=bP P w mg base 5 Y.x22.fn Y.x22.bi zdL
def zi5:=bP P w mg base 1 Y.x23.fn Y.x23.bi zhj
def zi6:=bP P w mg base 0 Y.x24.fn Y.x24.bi zhc
def zi7:=bP P w mg base 0 Y.x25.fn Y.x25.bi zhb
def zi8:=bP P w mg base 2 Y.x26.fn Y.x26.bi zhn
def zi9:=bP P w mg base 3 Y.x27.fn Y.x27.bi zhd
def zja:=bP P w mg base 6 Y.x28.fn Y.x28.bi zhZ
def zjb:=bP P w mg base 0 Y.x29.fn Y.x29.bi zd3
def zjc:=bP P w mg base 1 Y.x30.fn Y.x30.bi zeg
def OC:=bP P w mg base 6 Y.x31.fn Y.x31.bi zej
def zjd:=bP P w mg base 1 Y.x32.fn Y.x32.bi zfs
def zje:=bP P w mg base 0 Y.x33.fn Y.x33.bi zft
def OD:=bP P w mg base 0 Y.x34.fn Y.x34.bi zfu
def zjf:=bP P w mg base 0 Y.x35.fn Y.x35.bi zfv
def zjg:=bP P w mg base 0 Y.x36.fn Y.x36.bi zhv
def OE:=bP P w mg base 0 Y.x37.fn Y.x37.bi zfw
def OF:=bP P w mg base 2 Y.x38.fn Y.x38.bi zgA
def zjh:=bP P w mg base 7 Y.x39.fn Y.x39.bi zh0
def zji:=bP P w mg base 7 Y.x40.fn Y.x40.bi zh3
def zjj:=bP P w mg base 0 Y.x41.fn Y.x41.bi zh6
def zjk:=bP P w mg base 1 Y.x42.fn Y.x42.bi zh7
def OG:=bP P w mg base 8 Y.x43.fn Y.x43.bi zh9
def zjl{D:Aj}(Z:uJ K mg "NoGrammar" D):e8 P w K mg base (dZ P w) 2 (fa 44) (fb 44) ["grammar"] (mH K (B1 D) BS):=
 HB Y.x44.fn (rX (N:=BU)) (λ_ _ _ ⟨_,h,_⟩=>by rw[h];rfl) λ_ _ _ _ _ _ _ _ _ hr h hx=>
 have nd:BU.Nodup:=by decide +kernel
 have hu:=wW hr
 ⟨_,(nU (qW (nQ (i:=1) nd (bX (B2 Y) Y.x3 hr (eQ (v 0) fT))) (λ_ _ _ _ h=>h))
   (nU (qW (nQ (i:=2) nd (lV (G0 rfl) (by rfl) Y.any_ GW (eQ (tI (gO ["rule","first"] [none,some 1] (t9 (v 0)) (λB=>(fG (i:=0))) (λB=>GK) (λB=>(E7 (yA hu) (v 1) (tT hu (v 0) oS))))) fT))) (λ_ _ _ _ h=>h))
   (pE (HA G5 rfl (t9 (v 0)) (t6 (i:=3) nd)
    (pE (G8 (PW.pt (FC (oU (qO hr.units) (tT hu (v 3) oS) (FF fT)) (E9 (PW.pt (FD (oU (xS hr.units) (tT hu (v 3) oS) (v 1)) (FA (E8 (v 2))))))))
    (pE (Z2 hx hr.hd Z (by rfl) (by rfl) E6))
    G7)))))),zif h⟩
def zjm:=bP P w mg base 0 Y.x45.fn Y.x45.bi zgu
def zjn:=bP P w mg base 1 Y.x46.fn Y.x46.bi zgy
def zjo:=bP P w mg base 1 Y.x47.fn Y.x47.bi zgv
def OH:=bP P w mg base 2 Y.x48.fn Y.x48.bi zgz
def OI{D:Aj}(Z:uJ K mg "NoGrammar" D):e8 P w K mg base (dZ P w) 8 (fa 49) (fb 49) ["grammar"] (mH K (B1 D) r6):=
 HB Y.x49.fn (rX (N:=BV)) (λ_ _ _ ⟨_,h,_⟩=>by rw[h];rfl) λ_ _ _ _ _ _ _ _ _ hr h hx=>
 have nd:BV.Nodup:=by decide +kernel
 have hu:=wW hr
 ⟨_,(nU (Z3 hx (zjl Y Z) (hr.mono (by decide)) (by rfl) Y.x44.at_ Y.x44.fn.kp Y.x44.bi (eQ (v 0) fT))
   (nU (qW (nQ (i:=1) nd (tI (bX (OC Y) Y.x31 hr (eQ (v 0) fT)))) (λ_ _ _ _ h=>h))
   (nU (G8 (oU (yB hu) (bX (B2 Y) Y.x3 hr (eQ (v 0) fT)) (v 1))
    (pE (G9 (bX (OF Y) Y.x38 hr (eQ (v 0) fT))))
    G7)
   (nU (qW (nQ (i:=2) nd (zJ Y.x34.mak (OD Y) (hr.mono (by decide)) (by rfl) Y.at__Plainer Y.x34.bi)) (λ_ _ _ _ h=>h))
   (nU (HA G5 rfl (t9 (tI (bX (OB Y) Y.x2 hr (eQ (v 0) fT)))) (t6 (i:=3) nd)
    (pE (qW (GD (bX (OH Y) Y.x48 hr (eQ (v 2) (eQ (v 0) (eQ (v 3) (eQ (v 1) fT)))))) (λ_ _ _ _ h=>h))))
   (pE (G9 (rD Y.cls_Plainer Y.x37.me (OE Y) (hr.mono (by decide)) Y.x37.bi (v 2))))))))),zih h⟩
def zjp:e8 P w K mg base eS 8 (fa 49) (fb 49) ["grammar"] (eW K (N0 r6)):=by
 obtain⟨D,Dg,c1,c2,c3,c4,c5,Z⟩:=Y.zx;exact e8.calm (OI Y Z.no)
def zjq:=bP P w mg base 0 Y.x50.fn Y.x50.bi zfC
def zjr:=bP P w mg base 0 Y.x51.fn Y.x51.bi zfB
def OJ:=bP P w mg base 2 Y.x52.fn Y.x52.bi zfD
def zjs:=A5 (len:=zcz) P w mg base 0 Y.x53.fn Y.x53.bi rX zcI λhr hu nd=>by walk_at "t"
def zjt:=bP P w mg base 0 Y.x54.fn Y.x54.bi zcJ
def zju:=bP P w mg base 1 Y.x55.fn Y.x55.bi zel
def zjv:=bP P w mg base 0 Y.x56.fn Y.x56.bi zem
def zjw:=bP P w mg base 2 Y.x57.fn Y.x57.bi zep
def zjx:=bP P w mg base 3 Y.x58.fn Y.x58.bi zeq
def zjy:e8 P w K mg base eS 10 (fa 59) (fb 59) ["grammar","way"] (eW K pY):=by
 obtain⟨D,Dg,c1,c2,c3,c4,c5,X⟩:=Y.zx;refine A5 P w mg base 9 Y.x59.fn Y.x59.bi (rX (N:=N5)) zij λhr hu nd=>yD (nQ (i:=2) nd E5) (yD (PS.weak (zac (E1:=HK K D 3 (BW 2 3)) (HI (cl:=B1 D) (λE=>oU (qO hr.units) (v 1) oS) (zaf (OI Y X.no) (hr.mono (by decide)) (by rfl) Y.x49.at_ Y.x49.fn.kp Y.x49.bi λE=>eQ (v 0) fT)
  (HI (λE=>oU (qO hr.units) (v 1) oS) (HH λE=>bX (OG Y) Y.x43 hr (eQ (v 0) fT)) (HH λE=>bX (OJ Y) Y.x52 hr (eQ (v 0) fT))) _) rfl rfl ?_) λD Z H h=>zag (by rfl) h) (yE (GF (v 2))))
 rintro pins Z H s ea cls H' B s' D a I ⟨rfl,hq⟩;refine Z6 a I rfl (by rfl) X.m1 (by rfl) X.m2 (by rfl) X.m3 (by rfl) X.m4 (by rfl) X.m5 (by decide) (by decide) (by decide) (by decide) (by decide) X.n1 X.n2 X.n3 X.n4 X.n5 λs2 a2=>?_;refine Z7 (ts:=λea=>lQ K (BW 2 3 ea)) (i:=3) a2 I rfl (by rfl) X.no.at_ (by decide) X.y nd rfl (by rfl) (.inr (by rfl)) (λoe vs hc hd=>?_) (hq ea);refine eR.weak (yE (nQ (i:=2) nd (v_and (lV yY (by rfl) Y.isinstance_ yR (eQ (v 3) (eQ (zae (by rfl) X.grove) fT))) (FE (lV yY (by rfl) Y.isinstance_ yR (eQ (v 3) (eQ (WT (by rfl) Y.ValueError_ ziJ (y:=.ty "ValueError") rfl (λ_ _=>.ty _)) fT))))))) ?_;rintro D2 σ2 H2 ⟨τ,M,D3,as,am,⟨h1,h2⟩,kk⟩;refine⟨τ,M,D3,as,am,?_,kk⟩;have vv:∀{R:K3},R (.ref ea) M->cY 3 τ M R:=λr=>by unfold cY;rw[h1];exact r
 refine vv ?_;refine⟨.inl ⟨Dg,rfl,by rw[hc];exact X.k1⟩,?_⟩;refine vv ?_;exact⟨.inr ⟨"ValueError",rfl,by rw[hc];exact X.k2⟩,h2⟩
def zjz:=bP P w mg base 0 Y.x60.fn Y.x60.bi zit
def zjA:=bP P w mg base 10 Y.x61.fn Y.x61.bi ziI
end
section
variable {w:Bk}{h:Cr}{mg:Aw->Option Ae}
theorem nA{K:Ac}{C:Aj}{f:Aw}(h:Fe K (.ref C) f=some none:=by kernel_rfl):eZ K C f:=h
theorem mv{x:Aw}{v:Ae}(X:(hpK w.params).In h)(G:h.Ns Dw mg)(e:Rj (hpK w.params) Dw x=some (some v):=by kernel_rfl):mg x=some v:=Jj X G e
theorem mn{x:Aw}(X:(hpK w.params).In h)(G:h.Ns Dw mg)(e:Rj (hpK w.params) Dw x=some none:=by kernel_rfl):mg x=none:=PySem.W.mg_none_of X G e
theorem zjB(X:(hpK w.params).In h)(G:h.Ns Dw mg):Tx mg:=⟨⟨663,Jj (v:=.int 10000 663) X G (by kernel_rfl)⟩,⟨307,Jj (v:=.str "0123456789" 307) X G (by kernel_rfl)⟩,⟨305,Jj (v:=.str "ABCDEFGHIJKLMNOPQRSTUVWXYZ" 305) X G (by kernel_rfl)⟩,⟨661,Jj (v:=.str "whole" 661) X G (by kernel_rfl)⟩,mn X G,mn X G,mn X G,mn X G,mn X G,mn X G,mn X G,mn X G,mn X G,mn X G,mn X G,mn X G,mn X G,mn X G⟩
theorem zjC(X:(hpK w.params).In h)(G:h.Ns Dw mg):Kc (hpK w.params) mg ⟨211,267,297,304,385,0,0,0,0⟩:=⟨⟨by kernel_rfl,by kernel_rfl,by kernel_rfl,by kernel_rfl⟩,mv X G,⟨by kernel_rfl,by kernel_rfl,by kernel_rfl,by kernel_rfl⟩,mv X G,⟨by kernel_rfl,by kernel_rfl,by kernel_rfl,by kernel_rfl⟩,mv X G,nA,nA,nA,nA,nA,nA,nA,nA,nA,nA,nA⟩
def OL(i:Nat):Dz:=(dL i).fd
theorem zjD(X:(hpK w.params).In h)(G:h.Ns Dw mg):Al (hpK w.params) mg ⟨211,267,297,304,385,0,0,0,0⟩ B4 OL:=by
 refine⟨zjB X G,zjC X G,?_,?_,?_,?_,?_,?_,?_,?_,?_,?_,?_,?_,?_,?_,?_,?_,?_,?_,?_,?_,?_,?_,?_,?_,?_,?_,?_,?_,?_,?_,?_,?_,?_,?_,?_,?_,?_,?_,?_,?_,?_,?_,?_,?_,?_,?_,?_,?_,?_,?_,?_,?_,?_,?_,?_,?_,?_,?_,?_,?_,?_,?_,⟨37,24,61,97,49,85,73,⟨mv X G,by kernel_rfl⟩,mv X G,mv X G,mv X G,mv X G,mv X G,mv X G,by kernel_rfl,by kernel_rfl,by kernel_rfl,by kernel_rfl,by kernel_rfl,by kernel_rfl,by kernel_rfl,by kernel_rfl⟩,rfl,rfl⟩<;>first|exact dF X G|exact dM|exact dI
end
theorem zjE{l:Qc}{w:Bk}{h:Cr}{mg:Aw->Option Ae}{fa:Aj}(X:(hpK w.params).In h)(G:h.Ns Dw mg)(a:mg "law" = some (.ref fa)):
  ∃fd:Dz,(∀(s:Ah) (v:Ae),Sk s fd ⟨[v],[]⟩ [("script",v)])/\∀base:Cr,(hpK w.params).In base->base.Ns Dw mg->e8 l.prog w (hpK w.params) mg base eS 11 fa fd ["script"] (eW (hpK w.params) qS):=by
 have e:=a.symm.trans (Jj (v:=.ref 543) X G (by kernel_rfl));cases e;exact⟨OL 61,λs v=>.of_eq rfl,λbase _ _=>zjA (zjD X G)⟩
theorem zjF{l:Qc}{q:Ar}{loose:List Aw}{XP:(Aw->Option Ae)->Cr->Prop}{YP:Bk->Cr->Prop}{d:DefRec}{K:Rk->Ac}(U:l.most=some 63)(p:d.params.defaults=[])(r:∀(w:Bk) (h:Cr),YP w h->(K w.params).In h)(F:∀(w:Bk) (mg:Aw->Option Ae) (fa:Aj) (h:Cr),(K w.params).In h->h.Ns Dw mg->mg d.name=some (.ref fa)->
   ∃fd:Dz,(∀(s:Ah) (u:Ae),Sk s fd ⟨[u],[]⟩ [("script",u)])/\∀base:Cr,(K w.params).In base->base.Ns Dw mg->e8 l.prog w (K w.params) mg base eS 11 fa fd ["script"] (eW (K w.params) qS)):
  PySem.W.WalkO q loose XP YP l.row.toRowW d [] (λf vs=>Sx f vs):=
 L2.VA (n:=63) (k:=11) (x:="script") (CX:=λ_=>eS) (sp:=λw=>eW (K w.params) qS) U (by decide) p ⟨rfl,by decide,by decide⟩ r F (λ_ _ a ns hl D L=>Y0 hl D L) λ_ _ _ _ _ z=>z
end L2
open PySem PySem.W PyProof.Rows
set_option maxRecDepth 100000 in
set_option maxHeartbeats 0 in
theorem PySem.Challenge.cw_readgrove_k62_refused_with_empty_rules_holds : PySem.Challenge.rw_readgrove_k62_refused_with_empty_rules.Holds := by
 w_on; refine PySem.W.holds_law L2.sC λsaid => ?_
 refine PySem.W.holds_open (r := Va.row) (q := L2.qv) (loose := []) (N := 8320)
  (Xt := λs => xlAt L2.qv [] s&&recOk (Px (Nz Va.row)) s)
  (XP := XL L2.qv []) (Yf := L2.hk.obs) (Ya := L2.hk.val) (YP := L2.hk.says) ?hl L2.hk.of L2.hk.keeps
  (λs e => xl_of s (Bool.and_eq_true_iff.mp e).1) XL.keeps (by rfl) (by rfl) (by rfl) (λs e => recFacts_of (Bool.and_eq_true_iff.mp e).2)
  (by rfl) (by assumption) (by decide +kernel) ⟨rfl, rfl, rfl, rfl, rfl, by decide +kernel⟩ ?hw ?hc
 case hw => w_witness2
 case hc => exact L2.zjF (l := Va) rfl rfl (λw h Y => PySem.W.kIn_of Y) (λw mg fa h KX G hmg => L2.zjE KX G hmg)
 case hl => exact L2.OR
