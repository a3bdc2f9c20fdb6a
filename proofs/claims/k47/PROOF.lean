import PyProof.Rows.All
import Wide.All
import OpenK.AllK
import Wide.FinOn
import Lean
import PyProof.EqAt
import PyProof.EqKinds
import PyProof.TupleCall
import PySem.Challenge.RW_readgrove_k47_fewest_mends_walked
open List renaming length_map->Aa,length_append->Ah,getElem?_eq_some_iff->Ai,getElem?_eq_getElem->Ak,mem_singleton->Ao,getElem?_map->Ap,mem_cons->Ar,size_toArray->Ax,length_cons->Az,mem_cons_of_mem->Ba,map_append->Bb,map_cons->Bd,mem_of_getElem?->Bf,mem_map->Bg,mem_append->Bj,mem_cons_self->Bk,length_singleton->Bo,length_take->Bp,lookup_cons->Br,mem_append_left->Bu,replicate->Bw,lookup->Bx,map_map->Cd,mem_append_right->Cf,take_length->Ck,append_nil->Cm,mem_filter->Ct,range->Cv,nodup_cons->Cy,length->Dc,append_assoc->De,mem_nil_iff->Dv,filter_cons->Dw,foldl_cons->Ea,length_drop->Eb,filterMap_cons->Ec,flatten_cons->Ef,eq_nil_or_concat->Ej,concat_eq_append->Ek,nodup_nil->Ez,nodup_append->Fb,length_pos_iff->Fd,find?_cons->Fe,take_add_one->Fl,replicate_succ->Fp,any_cons->Fs,mem_flatMap->Fu,getD_eq_getElem?_getD->Fw,append_of_mem->Fx,getElem?_append_left->Gd,length_range->Gh,flatten_append->Gp,getElem?_cons_succ->Gq,take_of_length_le->Gs,nil_append->Gw,mem_zipIdx_iff_getElem?->Gx,length_nil->Gy,take_append_drop->Hd,length_filter_le->He,mem_range->Ho,getElem?_append_right->Hq,getElem_mem->Hw,getLastD_eq_getLast?->Hy,drop_eq_getElem_cons->Hz,map_congr_left->Ic,mem_filterMap->Im,length_eq_zero_iff->Iv,map->Jb,foldl_append->Jc,getElem?_eq_none->Jh,all_eq_true->Ji,map_drop->Jn,all_cons->Jo,mem_of_mem_take->Js,getElem?_zipIdx->Jt,map_nil->Ka,nodup_iff_pairwise_ne->Kf,filterMap_map->Kg,pairwise_iff_getElem->Kk,getElem?_eq_none_iff->Kl,map_take->Kr,zipIdx_cons->Kv,not_mem_nil->Kw,drop_eq_nil_of_le->Ld,forIn_cons->Li,getElem?_of_mem->Lp,flatMap_append->Md
open PySem renaming wpAny_bind->Ab,Value->Ae,Shared->Ag,wpAny_pure->Aj,sizeLine->Am,wpAny->Bc,starEach->Be,FuncData->Bi,model->Bn,Program->Bv,compareOp->Cb,bootBuiltins->Co,World->Cp,Around->Cq,mainGlobals->Dj,wpAny_Call_Name_kw->Dl,wpAny_holding->Ds,wpAny_call_entry->Ed,wpAny_newObj_type->Em,wpAny_field->Ew,wpAny_callSpecial?_slot->Ex,mem_of_lookup->Ey,binaryOp->Ff,tupleKind_room_in1->Fj,cLine->Fm,sysModules->Fq,tupleKind->Gb,wpAny_seqItems->Ge,backTo->Gf,assignEach->Gg,Paired->Gj,wpAny_truthy_bool->Gk,foldedSetIterable->Gm,IsPair->Gr,wpAny_typeNameOfWhole_keyiter->Hb,Scope->Hc,wpAny_setField_rec->Hf,wpAny_pyIter_tuple->Hg,wpAny_mono->Hi,wpAny_passesOwn->Hl,behindInMarks->Hm,DictEntry->Hs,wpAny_dictEntries->Hv,wpAny_rule->Ie,NameKind->Ih,wpAny_typeNameOf_keyiter->Iw,attributeBase->Iy,holding->Iz,swapsWith->Je,rawInt->Jj,pyNext->Jk,codeAny->Jl,wpAny_notOrdered_dict->Jw,wpAny_isInstance->Jx,wpAny_eqBool_int->Jy,call_meets->Jz,sliceBounds->Kb,codeAny_mono->Km,call_meetsIn->Kn,wpAny_tupleItemsOf->Ks,PyData->Ku,Expr->Kx,wpAny_pyIter_list->La,sizeLine_eq->Lb,keywordEach->Lc,Builtin->Lf,assign->Lg,wpAny_pyIter_zip->Lj,atKey->Lk,builtinsNs->Lv,wpAny_execs_nil->Ma,size_of_entries->Mb,letOwnedTupleGo->Mc,builtinLookup_eq_fast->Me,wpAny_updateSeq_pair->Mg,wpAny_setField->Mh,wpAny_letGo->Mi,firstArgMember->Mj,IsZip->Ml,standAt->Mo,getMethod->Mp,wpAny_standAt->Mq,wpAny_onRaise->Mr,wpAny_attempt->Ms
open PySem.W renaming Frag->Ac,findIn->Cg,keepIn->Ee,kia_one->Eh,fnOf->Ei,emptyDict->Es,tabObj->Fh,instObj->Ga,kla_obj->Ib,callWith_K->Ig,kitOne->Iq,codeIn->Ir,mg_of->Jf,plainGet->Ko,codeHdIn->Kq,isFn->Kt,lookIn->Lh,plainGet_of->Ll
open PySem.Heap renaming get?_push_of_some->Af,lt_size->Aw,get?_push_size->Ay,size_push->Dq,SameBut->Eo,get?_update_self->Fz,get?_update_other->Gu,ExtBut->Lq
open Nat renaming le_refl->An,le_trans->Au,ne_of_lt->Bl,zero_le->Bz,lt_of_lt_of_le->Ca,ne_of_gt->Dt,le_of_eq->Fc,zero_add->Fi,min_eq_left->Fn,le_of_lt->Gi,min_le_left->Ha,lt_irrefl->Il,lt_succ_self->Jm,lt_of_le_of_lt->Kj,mul_le_mul->Lx,le_succ->Ly,add_le_add_left->Mf
open Bool renaming false_ne_true->Av,and_eq_true->Cr,eq_iff_iff->Du,false_eq_true->Ep,not_not->Gv,not_true->Jq,not_false->Lu
open Option renaming map_eq_some_iff->Bh,isSome_iff_exists->Dh,map_some->Ky
open PySem.PassesOwn renaming never->Bq
open PySem.F renaming plainAttrs_list->Bs,slot_list_append->Ce,type_list_append->Ci,slot_dict_keyiterator_next->El,plainAttrs_dict->Hr,slot_tuple_iterator_next->Ia,entry_dict_get->Iu,slot_dict_get->Ja,slot_list_getattribute->Kz,slot_zip_next->Lr,slot_list_pop->Ls
open Ne renaming symm->Bt
open Option.some renaming inj->Cj,injEq->Fv
open Int renaming emod_lt_of_pos->Cu,emod_nonneg->Cz,toNat_natCast->Dg,eq_ofNat_of_zero_le->Dr,le_trans->Ft,le_refl->Ht,zero_add->Jd,add_assoc->Ju
open PyProof.Rows renaming callWith_type1->Cw,slot_tuple_getitem->Ii,envOfC->Ip,AllBare->Lz
open PySem.Builtin.SmallTypes renaming nextOf->Dk,ownedTupleIsFree->Fg
open Prod.mk renaming injEq->Dn
open False renaming elim->Dx
open PySem.Str renaming ofString->Dy
open Prod renaming fst->Dz,snd->Ik
open PySem.Paired renaming length->Eg
open PySem.Heap.SameBut renaming update->Er
open List.cons renaming injEq->Eu
open Array renaming length_toList->Fo,getElem?_toList->Fy,toArray_toList->Jr,getElem?_eq_some_iff->Ke
open PySem.Builtin.Slice renaming slicePlaces->Gz,sliceAdjust->Jp
open PySem.Builtin.Tuple renaming tupleExact->Hj
open PySem.Builtin.List renaming listTooLong->Hk,listExtendWith->Jg
open PySem.PyData renaming depth->Hn,eqv->Ij,eqvAll->Lw
open PySem.AutoSeq1 renaming wpAny_loadPart'->Hx
open PySem.Obj renaming data_mapDictKeys->Jv,mapSeq->Kh,data_mapFields->Ki
open PySem.Builtin.Str renaming occurrences->Kd
open Function renaming comp->Lm
open Sum.inl renaming injEq->Lo
set_option Elab.async false
set_option compiler.extract_closed false
set_option bootstrap.genMatcherCode false
set_option linter.all false
noncomputable section
set_option genSizeOf false
set_option maxRecDepth 100000
namespace L2
open PySem Spec PyProof.Rows
def kH(s:Stmt)(j:Nat):Stmt:=match s with
 | .ClassDef _ _ _ body _ _ _ _ _ _ _=>body.getD j (.Pass ⟨0,0,0,0⟩)
 | _=>.Pass ⟨0,0,0,0⟩
def jF(s:Stmt):Arguments:=match s with
 | .FunctionDef _ a _ _ _ _ _ _ _ _=>a
 | _=>{posonlyargs:=[],args:=[],vararg:=none,kwonlyargs:=[],kw_defaults:=[],kwarg:=none,defaults:=[]}
def gM(s:Stmt):List Stmt:=match s with
 | .FunctionDef _ _ b _ _ _ _ _ _ _=>b
 | _=>[]
def dJ(s:Stmt):Hc:=match s with
 | .FunctionDef _ _ _ _ _ _ sc _ _ _=>sc
 | _=>{kind:=.function,names:=[],isGenerator:=false,isCoroutine:=false}
end L2
namespace M47
open PySem Spec PyProof.Rows L2
def aN(i:Nat):Stmt:=PySem.Challenge.pw_readgrove_k47_fewest_mends_walked.main.body.getD i (.Pass ⟨0,0,0,0⟩)
abbrev AI:Stmt:=aN 1
abbrev AJ:Stmt:=aN 2
abbrev AK:Stmt:=aN 4
abbrev AL:Stmt:=aN 5
abbrev AN:Stmt:=aN 6
abbrev AQ:Stmt:=kH (aN 8) 0
abbrev AR:Stmt:=kH (aN 8) 1
abbrev AU:Stmt:=kH (aN 8) 2
abbrev AW:Stmt:=kH (aN 8) 3
abbrev AX:Stmt:=kH (aN 8) 4
abbrev AY:Stmt:=aN 10
abbrev AZ:Stmt:=kH (aN 11) 0
abbrev A0:Stmt:=kH (aN 11) 1
abbrev A1:Stmt:=kH (aN 11) 2
abbrev A2:Stmt:=kH (aN 11) 3
abbrev A5:Stmt:=kH (aN 11) 4
abbrev A6:Stmt:=aN 12
abbrev A7:Stmt:=aN 13
abbrev A8:Stmt:=aN 14
abbrev A9:Stmt:=aN 15
abbrev BA:Stmt:=aN 16
abbrev BB:Stmt:=aN 17
abbrev BC:Stmt:=aN 18
abbrev BD:Stmt:=aN 19
abbrev BE:Stmt:=aN 21
abbrev BF:Stmt:=aN 23
abbrev BG:Stmt:=aN 25
abbrev BH:Stmt:=aN 28
abbrev BI:Stmt:=aN 29
abbrev BJ:Stmt:=aN 30
abbrev BK:Stmt:=aN 31
abbrev BL:Stmt:=aN 32
abbrev BM:Stmt:=aN 33
abbrev BN:Stmt:=aN 34
abbrev BO:Stmt:=aN 35
abbrev BP:Stmt:=aN 36
abbrev BQ:Stmt:=aN 38
abbrev BR:Stmt:=aN 39
abbrev BS:Stmt:=aN 40
abbrev BU:Stmt:=aN 41
abbrev BV:Stmt:=aN 42
abbrev BW:Stmt:=aN 43
abbrev BX:Stmt:=aN 44
abbrev BY:Stmt:=aN 45
abbrev BZ:Stmt:=aN 46
abbrev B0:Stmt:=aN 47
abbrev B1:Stmt:=aN 48
abbrev B2:Stmt:=aN 49
def en(P:Params)(x:String)(t:Tok)(v:Ae):Hs:=⟨PyData.keyHash P (Dy x),.str (Dy x) t,v⟩
abbrev sT(x:String)(t:Tok):Ae:=.str (Dy x) t
abbrev cO(x:String)(a:Tok)(q:String)(b c:Tok)(l n:Int)(r:Addr)(u v w y z:Ae)(k:Int)(d:Tok):Obj:=⟨.type "code",none,.fields #[sT x a,sT q b,sT "/claim/cut.py" c,.int l 0,.int n 0,.int 0 0,.int 0 0,.int 3 0,.ref r,.bool true,.int 181 0,u,v,w,y,z,.int k 0,.int l 0,sT "/claim/cut.py" d],#[]⟩
abbrev fO(x q:Str)(s:Stmt)(m c:Ae):Bi:=Ei x q (jF s) (gM s) (dJ s) .none .none .none m none c .none
abbrev B3:Bi:=fO "names" "names" AI (sT "readgrove.grammars" 187) (.ref 20)
abbrev B4:Bi:=fO "first_name" "first_name" AJ (sT "readgrove.grammars" 187) (.ref 27)
abbrev B5:Bi:=fO "marks" "marks" AK (sT "readgrove.covers" 205) (.ref 32)
abbrev B6:Bi:=fO "places_of" "places_of" AL (sT "readgrove.covers" 205) (.ref 39)
abbrev B7:Bi:=fO "part_facts" "part_facts" AN (sT "readgrove.covers" 205) (.ref 44)
abbrev B8:Bi:=fO "__init__" "Queue.__init__" AQ (sT "readgrove.queues" 226) (.ref 58)
abbrev B9:Bi:=fO "is_done" "Queue.is_done" AR (sT "readgrove.queues" 226) (.ref 65)
abbrev CA:Bi:=fO "put" "Queue.put" AU (sT "readgrove.queues" 226) (.ref 72)
abbrev CB:Bi:=fO "place_of" "Queue.place_of" AW (sT "readgrove.queues" 226) (.ref 79)
abbrev CC:Bi:=fO "take" "Queue.take" AX (sT "readgrove.queues" 226) (.ref 86)
abbrev CD:Bi:=fO "added" "added" AY (sT "readgrove.leasts" 294) (.ref 100)
abbrev CF:Bi:=fO "__init__" "Search.__init__" AZ (sT "readgrove.leasts" 294) (.ref 114)
abbrev CG:Bi:=fO "reach" "Search.reach" A0 (sT "readgrove.leasts" 294) (.ref 121)
abbrev CH:Bi:=fO "take_next" "Search.take_next" A1 (sT "readgrove.leasts" 294) (.ref 128)
abbrev CI:Bi:=fO "step_by_name" "Search.step_by_name" A2 (sT "readgrove.leasts" 294) (.ref 135)
abbrev CJ:Bi:=fO "settle" "Search.settle" A5 (sT "readgrove.leasts" 294) (.ref 142)
abbrev CK:Bi:=fO "least_trees" "least_trees" A6 (sT "readgrove.leasts" 294) (.ref 156)
abbrev CL:Bi:=fO "facts_within" "facts_within" A7 (sT "readgrove.leasts" 294) (.ref 161)
abbrev CM:Bi:=fO "made_of_best" "made_of_best" A8 (sT "readgrove.leasts" 294) (.ref 168)
abbrev CN:Bi:=fO "same_word" "same_word" A9 (sT "readgrove.leasts" 294) (.ref 175)
abbrev CO:Bi:=fO "knot_of" "knot_of" BA (sT "readgrove.leasts" 294) (.ref 182)
abbrev CP:Bi:=fO "best_tree" "best_tree" BB (sT "readgrove.leasts" 294) (.ref 189)
abbrev CQ:Bi:=fO "one_behind_another" "one_behind_another" BC (sT "readgrove.leasts" 294) (.ref 196)
abbrev CS:Bi:=fO "joined" "joined" BD (sT "readgrove.leasts" 294) (.ref 203)
abbrev CT:Bi:=fO "no_weights" "no_weights" BE (sT "readgrove.spans" 475) (.ref 208)
abbrev CU:Bi:=fO "whole_fact" "whole_fact" BF (sT "readgrove.readings" 483) (.ref 215)
abbrev CV:Bi:=fO "words_of" "words_of" BG (sT "readgrove.nexts" 493) (.ref 222)
abbrev CW:Bi:=fO "with_gaps" "with_gaps" BH (sT "readgrove.mends" 506) (.ref 227)
abbrev CY:Bi:=fO "mend_cost" "mend_cost" BI (sT "readgrove.mends" 506) (.ref 234)
abbrev CZ:Bi:=fO "drops" "drops" BJ (sT "readgrove.mends" 506) (.ref 239)
abbrev C0:Bi:=fO "mend_steps" "mend_steps" BK (sT "readgrove.mends" 506) (.ref 246)
abbrev C1:Bi:=fO "mending_steps" "mending_steps" BL (sT "readgrove.mends" 506) (.ref 251)
abbrev C2:Bi:=fO "least_mends" "least_mends" BM (sT "readgrove.mends" 506) (.ref 258)
abbrev C3:Bi:=fO "fewest_mends" "fewest_mends" BN (sT "readgrove.mends" 506) (.ref 265)
abbrev C4:Bi:=fO "mended" "mended" BO (sT "readgrove.mends" 506) (.ref 270)
abbrev C5:Bi:=fO "is_mend" "is_mend" BP (sT "readgrove.mends" 506) (.ref 275)
abbrev C6:Bi:=fO "_law_cell_at" "_law_cell_at" BQ (sT "law_readgrove_k47_fewest_mends_walked" 584) (.ref 282)
abbrev C7:Bi:=fO "_law_parts" "_law_parts" BR (sT "law_readgrove_k47_fewest_mends_walked" 584) (.ref 289)
abbrev C8:Bi:=fO "_law_grammar" "_law_grammar" BS (sT "law_readgrove_k47_fewest_mends_walked" 584) (.ref 296)
abbrev C9:Bi:=fO "_law_row" "_law_row" BU (sT "law_readgrove_k47_fewest_mends_walked" 584) (.ref 301)
abbrev DA:Bi:=fO "_law_ladder" "_law_ladder" BV (sT "law_readgrove_k47_fewest_mends_walked" 584) (.ref 308)
abbrev DB:Bi:=fO "_law_case" "_law_case" BW (sT "law_readgrove_k47_fewest_mends_walked" 584) (.ref 315)
abbrev DC:Bi:=fO "_law_is_name" "_law_is_name" BX (sT "law_readgrove_k47_fewest_mends_walked" 584) (.ref 322)
abbrev DD:Bi:=fO "_law_fruitful" "_law_fruitful" BY (sT "law_readgrove_k47_fewest_mends_walked" 584) (.ref 327)
abbrev DE:Bi:=fO "_law_right" "_law_right" BZ (sT "law_readgrove_k47_fewest_mends_walked" 584) (.ref 334)
abbrev DF:Bi:=fO "_law_words" "_law_words" B0 (sT "law_readgrove_k47_fewest_mends_walked" 584) (.ref 341)
abbrev DG:Bi:=fO "_law_gone" "_law_gone" B1 (sT "law_readgrove_k47_fewest_mends_walked" 584) (.ref 348)
abbrev rS:Bi:=fO "law" "law" B2 (sT "law_readgrove_k47_fewest_mends_walked" 584) (.ref 355)
def hpK:Params->Ac:=λP=>[(nat_lit 3,⟨(.type "dict"),none,.dict [en P "__name__" 165 (sT "law_readgrove_k47_fewest_mends_walked" 584),en P "__doc__" 166 .none,en P "__package__" 167 .none,en P "__loader__" 168 (.builtin "__main__.__loader__#opaque"),en P "__spec__" 169 .none,en P "__annotations__" 170 (.ref 6),en P "__builtins__" 171 (.ref 4),en P "__file__" 173 (sT "/claim/cut.py" 172),en P "__cached__" 174 .none,en P "names" 197 (.ref 21),en P "first_name" 204 (.ref 28),en P "marks" 212 (.ref 33),en P "places_of" 219 (.ref 40),en P "part_facts" 225 (.ref 45),en P "Queue" 293 (.ref 90),en P "added" 303 (.ref 101),en P "Search" 393 (.ref 146),en P "least_trees" 406 (.ref 157),en P "facts_within" 412 (.ref 162),en P "made_of_best" 431 (.ref 169),en P "same_word" 440 (.ref 176),en P "knot_of" 448 (.ref 183),en P "best_tree" 457 (.ref 190),en P "one_behind_another" 466 (.ref 197),en P "joined" 474 (.ref 204),en P "no_weights" 482 (.ref 209),en P "whole_fact" 492 (.ref 216),en P "words_of" 505 (.ref 223),en P "GAP" 509 (sT "" 508),en P "with_gaps" 515 (.ref 228),en P "mend_cost" 526 (.ref 235),en P "drops" 532 (.ref 240),en P "mend_steps" 544 (.ref 247),en P "mending_steps" 550 (.ref 252),en P "least_mends" 559 (.ref 259),en P "fewest_mends" 571 (.ref 266),en P "mended" 577 (.ref 271),en P "is_mend" 583 (.ref 276),en P "_law_cell_at" 593 (.ref 283),en P "_law_parts" 604 (.ref 290),en P "_law_grammar" 617 (.ref 297),en P "_law_row" 623 (.ref 302),en P "_law_ladder" 633 (.ref 309),en P "_law_case" 642 (.ref 316),en P "_law_is_name" 649 (.ref 323),en P "_law_fruitful" 655 (.ref 328),en P "_law_right" 667 (.ref 335),en P "_law_words" 676 (.ref 342),en P "_law_gone" 688 (.ref 349),en P "law" 704 (.ref 356)].toArray 50,#[]⟩),
 (nat_lit 4,⟨(.type "module"),(some 0),.plain,#[]⟩),
 (nat_lit 20,cO "names" 189 "names" 190 191 2 1 15 (.ref 16) .none (.ref 17) (.ref 18) (.ref 19) 195 196),
 (nat_lit 21,⟨(.type "function"),none,.func B3,#[]⟩),
 (nat_lit 27,cO "first_name" 198 "first_name" 199 200 7 1 22 (.ref 23) .none (.ref 24) (.ref 25) (.ref 26) 202 203),
 (nat_lit 28,⟨(.type "function"),none,.func B4,#[]⟩),
 (nat_lit 32,cO "marks" 207 "marks" 208 209 10 1 29 (.ref 30) .none .none .none (.ref 31) 210 211),
 (nat_lit 33,⟨(.type "function"),none,.func B5,#[]⟩),
 (nat_lit 39,cO "places_of" 213 "places_of" 214 215 12 1 34 (.ref 35) .none (.ref 36) (.ref 37) (.ref 38) 217 218),
 (nat_lit 40,⟨(.type "function"),none,.func B6,#[]⟩),
 (nat_lit 44,cO "part_facts" 220 "part_facts" 221 222 14 3 41 (.ref 42) .none .none .none (.ref 43) 223 224),
 (nat_lit 45,⟨(.type "function"),none,.func B7,#[]⟩),
 (nat_lit 58,cO "__init__" 240 "Queue.__init__" 241 242 19 1 53 (.ref 54) .none (.ref 55) (.ref 56) (.ref 57) 244 245),
 (nat_lit 59,⟨(.type "function"),none,.func B8,#[]⟩),
 (nat_lit 65,cO "is_done" 247 "Queue.is_done" 248 249 23 1 60 (.ref 61) .none (.ref 62) (.ref 63) (.ref 64) 251 252),
 (nat_lit 66,⟨(.type "function"),none,.func B9,#[]⟩),
 (nat_lit 72,cO "put" 254 "Queue.put" 255 256 26 3 67 (.ref 68) .none (.ref 69) (.ref 70) (.ref 71) 260 261),
 (nat_lit 73,⟨(.type "function"),none,.func CA,#[]⟩),
 (nat_lit 79,cO "place_of" 263 "Queue.place_of" 264 265 32 2 74 (.ref 75) .none (.ref 76) (.ref 77) (.ref 78) 271 272),
 (nat_lit 80,⟨(.type "function"),none,.func CB,#[]⟩),
 (nat_lit 86,cO "take" 274 "Queue.take" 275 276 43 1 81 (.ref 82) .none (.ref 83) (.ref 84) (.ref 85) 281 282),
 (nat_lit 87,⟨(.type "function"),none,.func CC,#[]⟩),
 (nat_lit 89,⟨(.type "dict"),none,.dict [en P "__module__" 235 (sT "readgrove.queues" 226),en P "__firstlineno__" 239 (.int 17 238),en P "__init__" 246 (.ref 59),en P "is_done" 253 (.ref 66),en P "put" 262 (.ref 73),en P "place_of" 273 (.ref 80),en P "take" 283 (.ref 87),en P "__static_attributes__" 286 (.ref 88),en P "__dict__" 288 (.ref 91),en P "__weakref__" 290 (.ref 92),en P "__doc__" 291 .none].toArray 4,#[]⟩),
 (nat_lit 90,⟨(.type "type"),none,.cls ⟨(Dy "Queue"),[(.type "object")],[(.ref 90),(.type "object")],89,(Dy "Queue"),true,[],[],false,none,false⟩,#[none,none,some (sT "Queue" 228),some (sT "Queue" 236),some (.builtin "object.__new__"),some (.bool true)]⟩),
 (nat_lit 100,cO "added" 296 "added" 297 298 52 2 95 (.ref 96) .none (.ref 97) (.ref 98) (.ref 99) 301 302),
 (nat_lit 101,⟨(.type "function"),none,.func CD,#[]⟩),
 (nat_lit 114,cO "__init__" 316 "Search.__init__" 317 318 56 3 109 (.ref 110) .none (.ref 111) (.ref 112) (.ref 113) 322 323),
 (nat_lit 115,⟨(.type "function"),none,.func CF,#[]⟩),
 (nat_lit 121,cO "reach" 325 "Search.reach" 326 327 66 4 116 (.ref 117) .none (.ref 118) (.ref 119) (.ref 120) 333 334),
 (nat_lit 122,⟨(.type "function"),none,.func CG,#[]⟩),
 (nat_lit 128,cO "take_next" 336 "Search.take_next" 337 338 72 1 123 (.ref 124) .none (.ref 125) (.ref 126) (.ref 127) 347 348),
 (nat_lit 129,⟨(.type "function"),none,.func CH,#[]⟩),
 (nat_lit 135,cO "step_by_name" 350 "Search.step_by_name" 351 352 88 5 130 (.ref 131) .none (.ref 132) (.ref 133) (.ref 134) 360 361),
 (nat_lit 136,⟨(.type "function"),none,.func CI,#[]⟩),
 (nat_lit 142,cO "settle" 363 "Search.settle" 364 365 93 4 137 (.ref 138) .none (.ref 139) (.ref 140) (.ref 141) 375 376),
 (nat_lit 143,⟨(.type "function"),none,.func CJ,#[]⟩),
 (nat_lit 145,⟨(.type "dict"),none,.dict [en P "__module__" 311 (sT "readgrove.leasts" 294),en P "__firstlineno__" 315 (.int 54 314),en P "__init__" 324 (.ref 115),en P "reach" 335 (.ref 122),en P "take_next" 349 (.ref 129),en P "step_by_name" 362 (.ref 136),en P "settle" 377 (.ref 143),en P "__static_attributes__" 386 (.ref 144),en P "__dict__" 388 (.ref 147),en P "__weakref__" 390 (.ref 148),en P "__doc__" 391 .none].toArray 4,#[]⟩),
 (nat_lit 146,⟨(.type "type"),none,.cls ⟨(Dy "Search"),[(.type "object")],[(.ref 146),(.type "object")],145,(Dy "Search"),true,[],[],false,none,false⟩,#[none,none,some (sT "Search" 304),some (sT "Search" 312),some (.builtin "object.__new__"),some (.bool true)]⟩),
 (nat_lit 156,cO "least_trees" 394 "least_trees" 395 396 102 4 151 (.ref 152) .none (.ref 153) (.ref 154) (.ref 155) 404 405),
 (nat_lit 157,⟨(.type "function"),none,.func CK,#[]⟩),
 (nat_lit 161,cO "facts_within" 407 "facts_within" 408 409 110 3 158 (.ref 159) .none .none .none (.ref 160) 410 411),
 (nat_lit 162,⟨(.type "function"),none,.func CL,#[]⟩),
 (nat_lit 168,cO "made_of_best" 413 "made_of_best" 414 415 121 5 163 (.ref 164) .none (.ref 165) (.ref 166) (.ref 167) 429 430),
 (nat_lit 169,⟨(.type "function"),none,.func CM,#[]⟩),
 (nat_lit 175,cO "same_word" 432 "same_word" 433 434 135 3 170 (.ref 171) .none (.ref 172) (.ref 173) (.ref 174) 438 439),
 (nat_lit 176,⟨(.type "function"),none,.func CN,#[]⟩),
 (nat_lit 182,cO "knot_of" 441 "knot_of" 442 443 137 2 177 (.ref 178) .none (.ref 179) (.ref 180) (.ref 181) 446 447),
 (nat_lit 183,⟨(.type "function"),none,.func CO,#[]⟩),
 (nat_lit 189,cO "best_tree" 449 "best_tree" 450 451 139 3 184 (.ref 185) .none (.ref 186) (.ref 187) (.ref 188) 455 456),
 (nat_lit 190,⟨(.type "function"),none,.func CP,#[]⟩),
 (nat_lit 196,cO "one_behind_another" 458 "one_behind_another" 459 460 141 1 191 (.ref 192) .none (.ref 193) (.ref 194) (.ref 195) 464 465),
 (nat_lit 197,⟨(.type "function"),none,.func CQ,#[]⟩),
 (nat_lit 203,cO "joined" 467 "joined" 468 469 146 2 198 (.ref 199) .none (.ref 200) (.ref 201) (.ref 202) 472 473),
 (nat_lit 204,⟨(.type "function"),none,.func CS,#[]⟩),
 (nat_lit 208,cO "no_weights" 477 "no_weights" 478 479 149 1 205 (.ref 206) .none .none .none (.ref 207) 480 481),
 (nat_lit 209,⟨(.type "function"),none,.func CT,#[]⟩),
 (nat_lit 215,cO "whole_fact" 485 "whole_fact" 486 487 152 2 210 (.ref 211) .none (.ref 212) (.ref 213) (.ref 214) 490 491),
 (nat_lit 216,⟨(.type "function"),none,.func CU,#[]⟩),
 (nat_lit 222,cO "words_of" 495 "words_of" 496 497 155 1 217 (.ref 218) .none (.ref 219) (.ref 220) (.ref 221) 503 504),
 (nat_lit 223,⟨(.type "function"),none,.func CV,#[]⟩),
 (nat_lit 227,cO "with_gaps" 510 "with_gaps" 511 512 165 1 224 (.ref 225) .none .none .none (.ref 226) 513 514),
 (nat_lit 228,⟨(.type "function"),none,.func CW,#[]⟩),
 (nat_lit 234,cO "mend_cost" 516 "mend_cost" 517 518 167 4 229 (.ref 230) .none (.ref 231) (.ref 232) (.ref 233) 524 525),
 (nat_lit 235,⟨(.type "function"),none,.func CY,#[]⟩),
 (nat_lit 239,cO "drops" 527 "drops" 528 529 174 1 236 (.ref 237) .none .none .none (.ref 238) 530 531),
 (nat_lit 240,⟨(.type "function"),none,.func CZ,#[]⟩),
 (nat_lit 246,cO "mend_steps" 533 "mend_steps" 534 535 176 4 241 (.ref 242) .none (.ref 243) (.ref 244) (.ref 245) 542 543),
 (nat_lit 247,⟨(.type "function"),none,.func C0,#[]⟩),
 (nat_lit 251,cO "mending_steps" 545 "mending_steps" 546 547 186 2 248 (.ref 249) .none .none .none (.ref 250) 548 549),
 (nat_lit 252,⟨(.type "function"),none,.func C1,#[]⟩),
 (nat_lit 258,cO "least_mends" 551 "least_mends" 552 553 193 2 253 (.ref 254) .none (.ref 255) (.ref 256) (.ref 257) 557 558),
 (nat_lit 259,⟨(.type "function"),none,.func C2,#[]⟩),
 (nat_lit 265,cO "fewest_mends" 560 "fewest_mends" 561 562 196 2 260 (.ref 261) .none (.ref 262) (.ref 263) (.ref 264) 569 570),
 (nat_lit 266,⟨(.type "function"),none,.func C3,#[]⟩),
 (nat_lit 270,cO "mended" 572 "mended" 573 574 203 1 267 (.ref 268) .none .none .none (.ref 269) 575 576),
 (nat_lit 271,⟨(.type "function"),none,.func C4,#[]⟩),
 (nat_lit 275,cO "is_mend" 578 "is_mend" 579 580 205 2 272 (.ref 273) .none .none .none (.ref 274) 581 582),
 (nat_lit 276,⟨(.type "function"),none,.func C5,#[]⟩),
 (nat_lit 282,cO "_law_cell_at" 586 "_law_cell_at" 587 588 208 2 277 (.ref 278) .none (.ref 279) (.ref 280) (.ref 281) 591 592),
 (nat_lit 283,⟨(.type "function"),none,.func C6,#[]⟩),
 (nat_lit 289,cO "_law_parts" 594 "_law_parts" 595 596 212 2 284 (.ref 285) .none (.ref 286) (.ref 287) (.ref 288) 602 603),
 (nat_lit 290,⟨(.type "function"),none,.func C7,#[]⟩),
 (nat_lit 296,cO "_law_grammar" 605 "_law_grammar" 606 607 221 1 291 (.ref 292) .none (.ref 293) (.ref 294) (.ref 295) 615 616),
 (nat_lit 297,⟨(.type "function"),none,.func C8,#[]⟩),
 (nat_lit 301,cO "_law_row" 618 "_law_row" 619 620 234 2 298 (.ref 299) .none .none .none (.ref 300) 621 622),
 (nat_lit 302,⟨(.type "function"),none,.func C9,#[]⟩),
 (nat_lit 308,cO "_law_ladder" 624 "_law_ladder" 625 626 236 1 303 (.ref 304) .none (.ref 305) (.ref 306) (.ref 307) 631 632),
 (nat_lit 309,⟨(.type "function"),none,.func DA,#[]⟩),
 (nat_lit 315,cO "_law_case" 634 "_law_case" 635 636 246 1 310 (.ref 311) .none (.ref 312) (.ref 313) (.ref 314) 640 641),
 (nat_lit 316,⟨(.type "function"),none,.func DB,#[]⟩),
 (nat_lit 322,cO "_law_is_name" 643 "_law_is_name" 644 645 252 1 317 (.ref 318) .none (.ref 319) (.ref 320) (.ref 321) 647 648),
 (nat_lit 323,⟨(.type "function"),none,.func DC,#[]⟩),
 (nat_lit 327,cO "_law_fruitful" 650 "_law_fruitful" 651 652 254 1 324 (.ref 325) .none .none .none (.ref 326) 653 654),
 (nat_lit 328,⟨(.type "function"),none,.func DD,#[]⟩),
 (nat_lit 334,cO "_law_right" 656 "_law_right" 657 658 261 3 329 (.ref 330) .none (.ref 331) (.ref 332) (.ref 333) 665 666),
 (nat_lit 335,⟨(.type "function"),none,.func DE,#[]⟩),
 (nat_lit 341,cO "_law_words" 668 "_law_words" 669 670 273 1 336 (.ref 337) .none (.ref 338) (.ref 339) (.ref 340) 674 675),
 (nat_lit 342,⟨(.type "function"),none,.func DF,#[]⟩),
 (nat_lit 348,cO "_law_gone" 677 "_law_gone" 678 679 281 2 343 (.ref 344) .none (.ref 345) (.ref 346) (.ref 347) 686 687),
 (nat_lit 349,⟨(.type "function"),none,.func DG,#[]⟩),
 (nat_lit 355,cO "law" 689 "law" 690 691 297 1 350 (.ref 351) .none (.ref 352) (.ref 353) (.ref 354) 702 703),
 (nat_lit 356,⟨(.type "function"),none,.func rS,#[]⟩)]
def MH:List Addr:=[nat_lit 3,nat_lit 4,nat_lit 20,nat_lit 21,nat_lit 27,nat_lit 28,nat_lit 32,nat_lit 33,nat_lit 39,nat_lit 40,nat_lit 44,nat_lit 45,nat_lit 58,nat_lit 59,nat_lit 65,nat_lit 66,nat_lit 72,nat_lit 73,nat_lit 79,nat_lit 80,nat_lit 86,nat_lit 87,nat_lit 89,nat_lit 90,nat_lit 100,nat_lit 101,nat_lit 114,nat_lit 115,nat_lit 121,nat_lit 122,nat_lit 128,nat_lit 129,nat_lit 135,nat_lit 136,nat_lit 142,nat_lit 143,nat_lit 145,nat_lit 146,nat_lit 156,nat_lit 157,nat_lit 161,nat_lit 162,nat_lit 168,nat_lit 169,nat_lit 175,nat_lit 176,nat_lit 182,nat_lit 183,nat_lit 189,nat_lit 190,nat_lit 196,nat_lit 197,nat_lit 203,nat_lit 204,nat_lit 208,nat_lit 209,nat_lit 215,nat_lit 216,nat_lit 222,nat_lit 223,nat_lit 227,nat_lit 228,nat_lit 234,nat_lit 235,nat_lit 239,nat_lit 240,nat_lit 246,nat_lit 247,nat_lit 251,nat_lit 252,nat_lit 258,nat_lit 259,nat_lit 265,nat_lit 266,nat_lit 270,nat_lit 271,nat_lit 275,nat_lit 276,nat_lit 282,nat_lit 283,nat_lit 289,nat_lit 290,nat_lit 296,nat_lit 297,nat_lit 301,nat_lit 302,nat_lit 308,nat_lit 309,nat_lit 315,nat_lit 316,nat_lit 322,nat_lit 323,nat_lit 327,nat_lit 328,nat_lit 334,nat_lit 335,nat_lit 341,nat_lit 342,nat_lit 348,nat_lit 349,nat_lit 355,nat_lit 356]
def qv:Bv:={PySem.Challenge.pw_readgrove_k47_fewest_mends_walked with main:={PySem.Challenge.pw_readgrove_k47_fewest_mends_walked.main with body:=[aN 1,aN 2,aN 4,aN 5,aN 6,aN 8,aN 10,aN 11,aN 12,aN 13,aN 14,aN 15,aN 16,aN 17,aN 18,aN 19,aN 21,aN 23,aN 25,aN 27,aN 28,aN 29,aN 30,aN 31,aN 32,aN 33,aN 34,aN 35,aN 36,aN 38,aN 39,aN 40,aN 41,aN 42,aN 43,aN 44,aN 45,aN 46,aN 47,aN 48,aN 49]}}
def hk:PySem.W.Hook:=PySem.W.kmHook hpK MH (λ_=>by kernel_rfl) [261]
theorem MI{Z O J:Type}{o:Option Z}{f:Z->O}{g:Z->J}{a:O}{b:J}(h:o.map f=some a)(k:o.map g=some b):o.map (λs=>(f s,g s))=some (a,b):=by
 cases o with
 | none=>cases h
 | some s=>cases h;cases k;rfl
set_option maxHeartbeats 0 in
open PySem.W in
theorem pI(w:Cp):(openEnds treeTable PySem.Challenge.rw_readgrove_k47_fewest_mends_walked.row.prog w 4086).map hk.obs=some (hk.val w):=by kernel_rfl
set_option maxHeartbeats 0 in
open PySem.W in
theorem pJ(w:Cp):(openEnds treeTable PySem.Challenge.rw_readgrove_k47_fewest_mends_walked.row.prog w 4086).map (λs=>openSeen qv [] (importedModules PySem.Challenge.rw_readgrove_k47_fewest_mends_walked.row.prog.main.body) (λs=>xlAt qv [] s&&recOk (RowW.records (OpenRow.toRowW PySem.Challenge.rw_readgrove_k47_fewest_mends_walked.row)) s) true s)=some (openGood qv []):=by kernel_rfl
set_option maxHeartbeats 0 in
theorem hws:PySem.Challenge.rw_readgrove_k47_fewest_mends_walked.wellSaid=true:=by kernel_rfl
open PySem.W in
theorem hlx:LeftO PySem.Challenge.rw_readgrove_k47_fewest_mends_walked.row.prog qv [] (λs=>xlAt qv [] s&&recOk (RowW.records (OpenRow.toRowW PySem.Challenge.rw_readgrove_k47_fewest_mends_walked.row)) s) hk.obs hk.val 4086:=λw=>MI (pJ w) (pI w)
end M47
namespace L2
open PySem Spec PyProof.Rows
abbrev aK:=Sum Int Str
def nB:aK->Ae->Bool
 | .inl k,v=>Value.isInt k v
 | .inr x,v=>Value.isStrOf x v
def MJ(w:Cp):aK->Int
 | .inl k=>hashInt k
 | .inr x=>hashStr w x
theorem kI:∀{k:aK} {v:Ae},nB k v=true->(∃i t,k=Sum.inl i/\v=Value.int i t)\/(∃x t,k=Sum.inr x/\v=Value.str x t)
 | .inl i,v,h=>by
  obtain⟨t,e⟩:=Value.isInt_shape (k:=i) (v:=v) h;exact .inl ⟨i,t,rfl,e⟩
 | .inr x,v,h=>by
  obtain⟨t,e⟩:=Value.isStrOf_shape (x:=x) (v:=v) h;exact .inr ⟨x,t,rfl,e⟩
theorem MK(i:Int)(t:Tok):nB (.inl i) (.int i t)=true:=by simp[nB,Value.isInt]
theorem ML(x:Str)(t:Tok):nB (.inr x) (.str x t)=true:=by simp[nB,Value.isStrOf]
theorem MM(a b:Int):decide ((Sum.inl a:aK)=Sum.inl b)=(a==b):=by
 by_cases e:a=b
 .subst e;simp
 .have h:¬(Sum.inl a:aK)=Sum.inl b:=λq=>e (Sum.inl.inj q);rw[decide_eq_false h];exact(beq_eq_false_iff_ne.mpr e).symm
theorem MN(a b:Str):decide ((Sum.inr a:aK)=Sum.inr b)=decide (a=b):=by
 by_cases e:a=b
 .subst e;simp
 .have h:¬(Sum.inr a:aK)=Sum.inr b:=λq=>e (Sum.inr.inj q);rw[decide_eq_false h,decide_eq_false e]
theorem MP(a:Int)(b:Str):decide ((Sum.inl a:aK)=Sum.inr b)=false:=decide_eq_false (λq=>nomatch q)
theorem MQ(a:Str)(b:Int):decide ((Sum.inr a:aK)=Sum.inl b)=false:=decide_eq_false (λq=>nomatch q)
def d6(prog:Bv)(w:Cp):PySem.KeyKind prog w aK where
 is:=nB
 hash:=MJ w
 inj:=λv a b ha hb=>by
  rcases kI ha with⟨i,t,rfl,rfl⟩|⟨x,t,rfl,rfl⟩
  .rcases kI hb with⟨j,u,rfl,e⟩|⟨y,u,rfl,e⟩
   .injection e with e1 _;rw[e1]
   .exact nomatch e
  .rcases kI hb with⟨j,u,rfl,e⟩|⟨y,u,rfl,e⟩
   .exact nomatch e
   .injection e with e1 _;rw[e1]
 byValue:=λk v h=>by
  rcases kI h with⟨i,t,rfl,rfl⟩|⟨x,t,rfl,rfl⟩<;>rfl
 pyHash:=λhv h=>by
  rcases kI hv with⟨i,t,rfl,rfl⟩|⟨x,t,rfl,rfl⟩
  .exact wpAny_pyHash_int h
  .exact wpAny_pyHash_str h
 eqBool:=λhu hv h=>by
  rcases kI hu with⟨i,t,rfl,rfl⟩|⟨x,t,rfl,rfl⟩
  .rcases kI hv with⟨j,u,rfl,rfl⟩|⟨y,u,rfl,rfl⟩
   .rw[MM]at h;exact Jy h
   .rw[MP]at h;exact SeqAt.EqAt.int_str i t y u _ _ _ _ h
  .rcases kI hv with⟨j,u,rfl,rfl⟩|⟨y,u,rfl,rfl⟩
   .rw[MQ]at h;exact SeqAt.EqAt.str_int x t j u _ _ _ _ h
   .rw[MN]at h;exact wpAny_eqBool_str h
 «strs»:=λk x t v h=>by
  rcases kI h with⟨i,u,rfl,e⟩|⟨y,u,rfl,e⟩
  .exact nomatch e
  .injection e with e1 _;subst e1;cases v<;>rfl
theorem MR(prog:Bv)(w:Cp)(i:Int)(t:Tok):(d6 prog w).is (.inl i) (.int i t)=true:=MK i t
theorem MS(prog:Bv)(w:Cp)(x:Str)(t:Tok):(d6 prog w).is (.inr x) (.str x t)=true:=ML x t
inductive V where
 | non|bl (b:Bool)|int (i:Int)|str (x:Str)|byt (b:Array UInt8)|flt (b:UInt64)|ref (a:Addr)|ty (n:String)
 deriving DecidableEq
def RelV:V->Ae->Prop
 | .non,u=>u=Value.none
 | .bl b,u=>u=Value.bool b
 | .int i,u=>∃t,u=Value.int i t
 | .str x,u=>∃t,u=Value.str x t
 | .byt b,u=>∃t,u=Value.bytes b t
 | .flt b,u=>∃t,u=Value.float b t
 | .ref a,u=>u=Value.ref a
 | .ty n,u=>u=Value.type n
abbrev a8:List V->List Ae->Prop:=Gj RelV
theorem a8.length{xs:List V}{us:List Ae}(r:a8 xs us):xs.length=us.length:=Eg r
theorem a8.get:∀{xs:List V} {us:List Ae} {i:Nat} {x:V},a8 xs us->xs[i]? = some x->∃u,us[i]? = some u/\RelV x u
 | _,_,_,_,.nil,e=>by simp at e
 | _,_,0,_,.cons r _,e=>by simp at e;subst e;exact⟨_,rfl,r⟩
 | _,_,i+1,x,.cons _ t,e=>by
  obtain⟨u,h1,h2⟩:=a8.get (i:=i) (x:=x) t (by simpa using e);exact⟨u,by simpa using h1,h2⟩
theorem a8.set{x:V}{u:Ae}(r:RelV x u):∀{xs:List V} {us:List Ae} (i:Nat),a8 xs us->a8 (xs.set i x) (us.set i u)
 | _,_,_,.nil=>.nil
 | _,_,0,.cons _ t=>.cons r t
 | _,_,i+1,.cons q t=>.cons q (a8.set r i t)
theorem a8.append:∀{xs ys:List V} {us ws:List Ae},a8 xs us->a8 ys ws->a8 (xs++ys) (us++ws)
 | _,_,_,_,.nil,s=>s
 | _,_,_,_,.cons r t,s=>.cons r (a8.append t s)
theorem a8.take:∀{xs:List V} {us:List Ae} (n:Nat),a8 xs us->a8 (xs.take n) (us.take n)
 | _,_,0,_=>.nil
 | _,_,_+1,.nil=>.nil
 | _,_,n+1,.cons r t=>.cons r (a8.take n t)
theorem a8.drop:∀{xs:List V} {us:List Ae} (n:Nat),a8 xs us->a8 (xs.drop n) (us.drop n)
 | _,_,0,r=>r
 | _,_,_+1,.nil=>.nil
 | _,_,n+1,.cons _ t=>a8.drop n t
def f6:Option V->Option Ae->Prop
 | some v,some u=>RelV v u
 | none,none=>True
 | _,_=>False
def KV{U:Type}:List (U×V)->List (U×Ae)->Prop:=Gj λ(p:U×V) (q:U×Ae)=>p.1=q.1/\RelV p.2 q.2
def kV:aK->V
 | .inl i=>.int i
 | .inr x=>.str x
inductive HO where
 | lst (xs:List V)
 | tup (xs:List V)
 | dK (kvs:List (aK×V))|dT (kvs:List (List aK×V))
 | set (S:Int->Bool) (n:Nat)
 | ins (C dx:Addr) (fs:List (Str×V))
 | own (x:Addr)
 | xd (fs:List (Str×V))
 | met (f x:Addr)
 | rng (lo hi:Int)
 | frz (o:Obj) (u:HO)
 | tbl (ps:Array Ae)
 | ext (φ:Heap->Prop)
abbrev Hp:=Addr->Option HO
def aX(H:Hp)(a:Addr)(o:HO):Hp:=λb=>if b=a then some o else H b
theorem c9{H:Hp}{a:Addr}{o:HO}:aX H a o a=some o:=by unfold aX;rw[if_pos rfl]
theorem bH{H:Hp}{a b:Addr}{o:HO}(h:b≠a):aX H a o b=H b:=by unfold aX;rw[if_neg h]
theorem rT{H:Hp}{a b:Addr}{o u:HO}(h:H a=some o)(h':H b=some u)(d:o≠u):a≠b:=by
 intro e;subst e;rw[h]at h';exact d (Cj h')
theorem eV{H:Hp}{a b:Addr}{o:HO}(h:H a=some o)(h':H b=none):a≠b:=by
 intro e;subst e;rw[h]at h';cases h'
section
variable (P:Bv)(w:Cp)
def cX(H:Hp)(h:Heap)(a:Addr):HO->Prop
 | .lst xs=>xs.length<=Am/\∃(its:List Ae) (n:Nat),a8 xs its/\h.get? a=some {cls:=.type "list",data:=.seq its.toArray n}
 | .tup xs=>xs.length<=Am/\∃its:List Ae,a8 xs its/\IsTup h a its.toArray
 | .dK kvs=>kvs.length<=Am/\(a==Fq)=false/\∃vs,KV kvs vs/\h.DictOf (d6 P w) a vs
 | .dT kvs=>kvs.length<=Am/\(a==Fq)=false/\∃xs:List (List aK×Addr×Ae),
   Gj (λ(p:List aK×V) (q:List aK×Addr×Ae)=>p.1=q.1/\H q.2.1=some (.tup (p.1.map kV))/\RelV p.2 q.2.2) kvs xs/\
   ∃o es ep,h.get? a=some o/\o.ExactDict/\o.data=.dict es ep/\es.toList=xs.map (entryOfKey (Gb (d6 P w)))/\(xs.map (·.1)).Nodup
 | .set S n=>h.SetOf (intKind P w) a S n
 | .ins C dx fs=>H dx=some (.own a)/\fs.length<=1000/\dx≠a/\h.get? a=some (Ga C dx)/\
   ∃mA,h.Ns1 dx mA/\(∀f,f6 (fs.lookup f) (mA f))/\PySem.Within mA (fs.map (·.1))
 | .own _=>∃o,h.get? a=some o
 | .xd fs=>∃mA,h.Ns1 a mA/\∀f,f6 (fs.lookup f) (mA f)
 | .rng lo hi=>∃t u v,h.get? a=some {cls:=.type "range",data:=.fields #[.int lo t,.int hi u,.int 1 v]}
 | .frz o u=>h.get? a=some o/\cX H h a u
 | .tbl ps=>h.get? a=some {cls:=.none,data:=.fields ps}
 | .met f x=>h.get? a=some (PySem.W.methodObj (.ref f) (.ref x))
 | .ext φ=>φ h/\(∃o,h.get? a=some o)/\∀h1 h2:Heap,φ h1->(∀o,h1.get? a=some o->h2.get? a=some o)->φ h2
def dA(H:Hp)(h:Heap):Prop:=∀a o,H a=some o->cX P w H h a o
end
section
variable {P:Bv}{w:Cp}{H H':Hp}{h h':Heap}{a:Addr}{o:HO}
theorem cX.lt(x:cX P w H h a o):a<h.objs.size:=by
 cases o with
 | lst xs=>obtain⟨_,_,_,_,e⟩:=x;exact Aw e
 | tup xs=>obtain⟨_,_,_,p⟩:=x;exact p.lt
 | dK kvs=>obtain⟨_,_,_,_,o,_,_,e,_⟩:=x;exact Aw e
 | dT kvs=>obtain⟨_,_,_,_,o,_,_,e,_⟩:=x;exact Aw e
 | set S n=>obtain⟨o,_,_,_,e,_⟩:=x;exact Aw e
 | ins C dx fs=>obtain⟨_,_,_,e,_⟩:=x;exact Aw e
 | own y=>obtain⟨_,e⟩:=x;exact Aw e
 | xd fs=>obtain⟨_,⟨_,_,_,e,_⟩,_⟩:=x;exact Aw e
 | rng lo hi=>obtain⟨_,_,_,e⟩:=x;exact Aw e
 | frz ob u=>obtain⟨e,_⟩:=x;exact Aw e
 | tbl ps=>exact Aw (show h.get? a=some _ from x)
 | met f y=>exact Aw (show h.get? a=some _ from x)
 | ext φ=>obtain⟨_,⟨_,e⟩,_⟩:=x;exact Aw e
theorem Paired.mapP{O J:Type}{F G:O->J->Prop}:∀{l1:List O} {l2:List J},Gj F l1 l2->(∀a b,F a b->G a b)->Gj G l1 l2
 | _,_,.nil,_=>.nil
 | _,_,.cons r t,f=>.cons (f _ _ r) (Paired.mapP t f)
theorem cX.stay(x:cX P w H h a o)(k:∀b u,(b=a\/H b=some (.own a))->h.get? b=some u->h'.get? b=some u)(ho:∀b,H b=some (.own a)->H' b=some (.own a))(ht:∀b xs,H b=some (.tup xs)->H' b=some (.tup xs)):cX P w H' h' a o:=by
 induction o with
 | lst xs=>obtain⟨z,its,n,r,e⟩:=x;exact⟨z,its,n,r,k _ _ (.inl rfl) e⟩
 | tup xs=>obtain⟨z,its,r,ob,e,c⟩:=x;exact⟨z,its,r,ob,k _ _ (.inl rfl) e,c⟩
 | dK kvs=>obtain⟨z,y,vs,r,ob,es,ep,e,c⟩:=x;exact⟨z,y,vs,r,ob,es,ep,k _ _ (.inl rfl) e,c⟩
 | dT kvs=>
  obtain⟨z,y,xs,r,ob,es,ep,e,c⟩:=x;exact⟨z,y,xs,Paired.mapP r λp q z=>⟨z.1,ht _ _ z.2.1,z.2.2⟩,ob,es,ep,k _ _ (.inl rfl) e,c⟩
 | set S n=>obtain⟨ob,es,ep,t,e,c⟩:=x;exact⟨ob,es,ep,t,k _ _ (.inl rfl) e,c⟩
 | ins C dx fs=>
  obtain⟨d,z,ne,e,mA,⟨od,es,ep,e2,c⟩,r⟩:=x;exact⟨ho _ d,z,ne,k _ _ (.inl rfl) e,mA,⟨od,es,ep,k _ _ (.inr d) e2,c⟩,r⟩
 | own y=>obtain⟨ob,e⟩:=x;exact⟨ob,k _ _ (.inl rfl) e⟩
 | xd fs=>obtain⟨mA,⟨od,es,ep,e,c⟩,r⟩:=x;exact⟨mA,⟨od,es,ep,k _ _ (.inl rfl) e,c⟩,r⟩
 | rng lo hi=>obtain⟨t,u,v,e⟩:=x;exact⟨t,u,v,k _ _ (.inl rfl) e⟩
 | frz ob u ih=>obtain⟨e,q⟩:=x;exact⟨k _ _ (.inl rfl) e,ih q⟩
 | tbl ps=>
  have e:h.get? a=some {cls:=.none,data:=.fields ps}:=x;show h'.get? a=some {cls:=.none,data:=.fields ps};exact k a _ (.inl rfl) e
 | met f y=>
  have e:h.get? a=some (PySem.W.methodObj (.ref f) (.ref y)):=x;show h'.get? a=some (PySem.W.methodObj (.ref f) (.ref y));exact k a _ (.inl rfl) e
 | ext φ=>obtain⟨p,⟨o,e⟩,st⟩:=x;exact⟨st _ _ p λo q=>k _ _ (.inl rfl) q,⟨o,k _ _ (.inl rfl) e⟩,st⟩
theorem dA.lt(x:dA P w H h)(e:H a=some o):a<h.objs.size:=(x a o e).lt
theorem dA.fresh(x:dA P w H h)(e:h.objs.size<=a):H a=none:=by
 cases q:H a with
 | none=>rfl
 | some u=>exact absurd (Ca (x.lt q) e) (Il _)
theorem dA.kept(x:dA P w H h)(k:∀b u,h.get? b=some u->h'.get? b=some u):dA P w H h':=λa o e=>
 (x a o e).stay (λb u _ q=>k b u q) (λ_ q=>q) λ_ _ q=>q
theorem dA.laid(x:dA P w H h)(k:∀b u,h.get? b=some u->h'.get? b=some u)(hp:h.objs.size<=a)(new:cX P w (aX H a o) h' a o):dA P w (aX H a o) h':=λb u e=>by
 have hn:=x.fresh hp
 by_cases hb:b=a
 .subst hb;rw[c9]at e;cases e;exact new
 .rw[bH hb]at e;exact(x b u e).stay (λc v _ q=>k c v q) (λc q=>by rw[bH (eV q hn)];exact q) λc xs q=>by rw[bH (eV q hn)];exact q
end
def Rd(H:Hp)(a:Addr)(u:HO):Prop:=H a=some u\/∃o,H a=some (.frz o u)
theorem Rd.ok{P:Bv}{w:Cp}{H:Hp}{h:Heap}{a:Addr}{u:HO}(r:Rd H a u)(x:dA P w H h):cX P w H h a u:=by
 rcases r with r|⟨o,r⟩
 .exact x a u r
 .obtain⟨_,q⟩:=x a _ r;exact q
def pK:Option HO->Prop
 | some (.lst _)=>True
 | some (.dK _)=>True
 | some (.dT _)=>True
 | some (.set _ _)=>True
 | some (.ins _ _ _)=>True
 | some (.ext _)=>True
 | _=>False
section
variable {P:Bv}{w:Cp}{H:Hp}{h h':Heap}{x e:Addr}{o':HO}
theorem dA.write(ok:dA P w H h)(mu:pK (H x))(he:e=x\/H e=some (.own x))(k:∀b u,b≠e->h.get? b=some u->h'.get? b=some u)(heo:∃u,h'.get? e=some u)(new:cX P w (aX H x o') h' x o'):dA P w (aX H x o') h':=λb u q=>by
 have nown:∀c y,H c=some (.own y)->c≠x:=λc y r z=>by subst z;rw[r]at mu;exact mu
 have ntup:∀c xs,H c=some (.tup xs)->c≠x:=λc xs r z=>by subst z;rw[r]at mu;exact mu
 by_cases hb:b=x
 .subst hb;rw[c9]at q;cases q;exact new
 .rw[bH hb]at q
  by_cases hbe:b=e
  .have q':H b=some (.own x):=by
    rcases he with z|z
    .exact absurd (hbe.trans z) hb
    .rw[hbe];exact z
   rw[q]at q';cases q';obtain⟨v,hv⟩:=heo;exact⟨v,by rw[hbe];exact hv⟩
  .refine(ok b u q).stay (λc v hc r=>k c v ?_ r) (λc r=>by rw[bH (nown c b r)];exact r) λc xs r=>by rw[bH (ntup c xs r)];exact r
   rcases hc with rfl|hc
   .exact hbe
   .rintro rfl;rcases he with z|z
    .exact nown c b hc z
    .rw[hc]at z;cases z;exact hb rfl
end
structure Un(fs ex:List Addr)(H H':Hp)(h h':Heap):Prop where
 keep:∀b o,h.get? b=some o->H b=none->b∉fs->b∉ex->h'.get? b=some o
 slot:∀b o,h.get? b=some o->H b=none->b∈fs->b∉ex->∃sl,h'.get? b=some {o with slots:=sl}
 free:∀b o,h.get? b=some o->H b=none->b∉ex->H' b=none
 there:∀b o,h.get? b=some o->b∉ex->∃o',h'.get? b=some o'
 tups:∀b xs,H b=some (.tup xs)->H' b=some (.tup xs)
 frzs:∀b o u,H b=some (.frz o u)->H' b=some (.frz o u)
 tbls:∀b ps,H b=some (.tbl ps)->∃more,H' b=some (.tbl (ps++more))
section
variable {fs fs' ex ex':List Addr}{H H1 H2:Hp}{h h1 h2 h':Heap}{a x e:Addr}{o:HO}
theorem Un.any(u:Un fs ex H H1 h h1){b:Addr}{ob:Obj}(q:h.get? b=some ob)(n:H b=none)(hx:b∉ex):∃sl,h1.get? b=some {ob with slots:=sl}:=by
 by_cases hb:b∈fs
 .exact u.slot b ob q n hb hx
 .exact⟨ob.slots,u.keep b ob q n hb hx⟩
theorem Un.kept(k:∀b u,h.get? b=some u->h'.get? b=some u):Un fs ex H H h h':=
 ⟨λb ob q _ _ _=>k b ob q,λb ob q _ _ _=>⟨ob.slots,k b ob q⟩,λ_ _ _ n _=>n,λb ob q _=>⟨ob,k b ob q⟩,λ_ _ q=>q,λ_ _ _ q=>q,λ_ ps q=>⟨#[],by rw[q];simp⟩⟩
theorem Un.refl:Un fs ex H H h h:=Un.kept λ_ _ q=>q
theorem Un.laid(k:∀b u,h.get? b=some u->h'.get? b=some u)(hp:h.objs.size<=a)(hn:H a=none):Un fs ex H (aX H a o) h h' where
 keep:=λb u q _ _ _=>k b u q
 slot:=λb u q _ _ _=>⟨u.slots,k b u q⟩
 free:=λb u q n _=>by rw[bH (Bl (Ca (Aw q) hp))];exact n
 there:=λb u q _=>⟨u,k b u q⟩
 tups:=λb xs q=>by rw[bH (eV q hn)];exact q
 frzs:=λb u xs q=>by rw[bH (eV q hn)];exact q
 tbls:=λb ps q=>⟨#[],by rw[bH (eV q hn),q];simp⟩
theorem Un.write(mu:pK (H x))(he:e=x\/H e=some (.own x))(k:∀b u,b≠e->h.get? b=some u->h'.get? b=some u)(heo:∃u,h'.get? e=some u):Un fs ex H (aX H x o) h h':=by
 have hx:∀b,H b=none->b≠x:=λb n z=>by subst z;rw[n]at mu;exact mu
 have hb:∀b,H b=none->b≠e:=λb n z=>by
  subst z;rcases he with r|r
  .exact hx b n r
  .rw[n]at r;cases r
 have hm:∀b u,H b=some u->¬pK (some u)->b≠x:=λb u q nm z=>by subst z;rw[q]at mu;exact nm mu
 refine⟨λb u q n _ _=>k b u (hb b n) q,λb u q n _ _=>⟨u.slots,k b u (hb b n) q⟩,λb u q n _=>by rw[bH (hx b n)];exact n,λb u q _=>?_,
  λb xs q=>by rw[bH (hm b _ q λz=>z)];exact q,λb u xs q=>by rw[bH (hm b _ q λz=>z)];exact q,λb ps q=>⟨#[],by rw[bH (hm b _ q λz=>z),q];simp⟩⟩
 by_cases hbe:b=e
 .subst hbe;exact heo
 .exact⟨u,k b u hbe q⟩
end
def rV(h:Heap)(H:Hp):List Addr:=(Cv h.objs.size).filter λa=>(H a).isSome
def iZ(h:Heap)(H:Hp):Heap:=PySem.W.hideAll h (rV h H)
theorem DH(h:Heap)(H:Hp):(iZ h H).objs.size=h.objs.size:=PySem.W.hideAll_size _ _
theorem vS{h:Heap}{H:Hp}{b:Addr}{o:Obj}(e:h.get? b=some o)(n:H b=none):(iZ h H).get? b=some o:=
 PySem.W.hideAll_get _ e λhm=>by
  have q:(H b).isSome=true:=(Ct.mp hm).2;rw[n]at q;simp at q
theorem DJ{h:Heap}{H:Hp}{b:Addr}{o:Obj}(e:(iZ h H).get? b=some o):h.get? b=some o/\H b=none:=by
 have e':h.get? b=some o:=PySem.W.of_hideAll (rV h H) e;refine⟨e',?_⟩;cases q:H b with
 | none=>rfl
 | some x=>
  have hm:b∈rV h H:=Ct.mpr ⟨Ho.mpr (Aw e'),by simp[q]⟩;have z:(iZ h H).get? b=none:=PySem.W.hideAll_none (rV h H) hm;rw[z]at e;cases e
structure Mod(K:Ac)(mg:Str->Option Ae)(base:Heap):Prop where
 kin:K.In base
 glob:base.Ns Dj mg
 blt:∃mb,base.Ns Lv mb/\∀x:Str,x≠"__name__"->mb x=Co x
 nolimit:base.NoLimit
structure Cx where
 prog:Bv
 w:Cp
 K:Ac
 mg:Str->Option Ae
 base:Heap
 A:Cq
 N:List Str
 s₀:Ag
 H₀:Hp
 env:Env
 outer:List Env
 stack:List Env
 ex:List Addr
 fn:Str->Bool
 calm:Bool
 pn:List (Addr×Obj)
 xe:Ae->Ag->Prop
def gD(l:List Env):List Addr:=l.filterMap (·.frame)
abbrev Cx.fs(X:Cx):List Addr:=gD X.outer
def pL(sc:Hc)(x:Str):Prop:=sc.names.lookup x=some .local\/sc.names.lookup x=some .cell\/sc.names.lookup x=some .free
def Loc(sc:Hc)(x:Str):Prop:=sc.names.lookup x=some .local\/sc.names.lookup x=some .cell
def Look(env:Env)(h:Heap)(m:Str->Option Ae)(x:Str)(u:Ae):Prop:=
 (env.kindOf x=some .local/\m x=some u)\/((env.kindOf x=some .cell\/env.kindOf x=some .free)/\∃c,env.cells.lookup x=some c/\h.IsCell c (some u))
structure Cx.Ok(X:Cx):Prop where
 mod:Mod X.K X.mg X.base
 kind:X.env.scope.kind=.function
 glob:X.env.globals=Dj
 blt:X.env.builtins=Lv
 above:X.s₀.heap.objs.size<=X.env.locals
 inj:∀x y c,X.env.cells.lookup x=some c->X.env.cells.lookup y=some c->x=y
 has:∀x,(X.env.kindOf x=some .cell\/X.env.kindOf x=some .free)->∃c,X.env.cells.lookup x=some c
 cab:∀x c,X.fn x=true->X.env.cells.lookup x=some c->X.s₀.heap.objs.size<=c
 hd:X.calm=true->X.A.handled=none
 frames:X.A.frames=some X.stack
 stk:X.stack=X.outer\/(X.stack=X.env::X.outer/\X.env.frame=some X.env.locals)
 exf:∀b∈X.ex,b≠X.env.locals/\∀x c,X.env.cells.lookup x=some c->c≠b
 bs:∀b o,X.base.get? b=some o->X.s₀.heap.get? b=some o/\X.H₀ b=none
 bsz:X.base.objs.size<=X.s₀.heap.objs.size
 noex:∀b o,X.base.get? b=some o->b∉X.ex
 exfs:∀b∈X.ex,b∉X.fs
 funs:X.s₀.heap.FunFrames X.base X.outer
 frf:∀b∈X.fs,X.H₀ b=none
structure Inv(X:Cx)(pins:List (Addr×Obj))(Z:List (Option V))(H:Hp)(s:Ag):Prop where
 ok:X.Ok
 os:s.os=X.s₀.os
 bare:Lz s.gens
 base:Un X.fs X.ex X.H₀ H X.s₀.heap s.heap
 loc:∃m,s.heap.Ns X.env.locals m/\∀(i:Nat) (x:Str) (v:V),X.N[i]? = some x->Z[i]? = some (some v)->pL X.env.scope x->∃u,RelV v u/\Look X.env s.heap m x u
 cell:∀x c,X.env.cells.lookup x=some c->∃v,s.heap.IsCell c v
 free:H X.env.locals=none
 freeC:∀x c,X.env.cells.lookup x=some c->H c=none
 pin:∀p∈X.pn++pins,s.heap.get? p.1=some p.2/\H p.1=none/\p.1≠X.env.locals/\p.1∉X.fs/\∀v,p.2.data≠.cell v
 hok:dA X.prog X.w H s.heap
 len:Z.length=X.N.length
section
variable {X:Cx}{pins:List (Addr×Obj)}{Z:List (Option V)}{H H':Hp}{s:Ag}{h':Heap}
theorem Cx.Ok.nofr(ok:X.Ok){b:Addr}{o:Obj}(e:X.base.get? b=some o):b∉X.fs:=λhb=>by
 have:=(ok.funs.mem hb).1;rw[e]at this;cases this
theorem Inv.bs(I:Inv X pins Z H s):∀b o,X.base.get? b=some o->s.heap.get? b=some o/\H b=none:=λb o e=>
 ⟨I.base.keep b o (I.ok.bs b o e).1 (I.ok.bs b o e).2 (I.ok.nofr e) (I.ok.noex b o e),I.base.free b o (I.ok.bs b o e).1 (I.ok.bs b o e).2 (I.ok.noex b o e)⟩
theorem Inv.bk(I:Inv X pins Z H s):∀b o,X.base.get? b=some o->s.heap.get? b=some o:=λb o e=>(I.bs b o e).1
theorem Inv.mod(I:Inv X pins Z H s):Mod X.K X.mg X.base:=I.ok.mod
theorem Inv.kIn(I:Inv X pins Z H s):X.K.In s.heap:=I.ok.mod.kin.keeps I.bk
theorem Inv.nolimit(I:Inv X pins Z H s):s.heap.NoLimit:=I.ok.mod.nolimit.keeps I.bk
theorem Inv.lt(I:Inv X pins Z H s):X.env.locals<s.heap.objs.size:=let ⟨_,hn,_⟩:=I.loc;hn.lt
theorem Inv.sz(I:Inv X pins Z H s):X.s₀.heap.objs.size<=s.heap.objs.size:=Au I.ok.above (Gi I.lt)
theorem Inv.nofs(I:Inv X pins Z H s){a:Addr}(h:s.heap.objs.size<=a):a∉X.fs:=λhb=>by
 obtain⟨_,o,ho,_⟩:=I.ok.funs.mem hb;exact absurd (Ca (Aw ho) (Au I.sz h)) (Il _)
theorem Inv.cne(I:Inv X pins Z H s):∀x c,X.env.cells.lookup x=some c->c≠X.env.locals:=λx c e z=>by
 obtain⟨v,o,ho,hd⟩:=I.cell x c e;obtain⟨m,⟨o',es,ep,ho',hd',_⟩,_⟩:=I.loc;rw[z,ho']at ho;cases ho;rw[hd']at hd;cases hd
theorem Inv.funs(I:Inv X pins Z H s):s.heap.FunFrames X.base X.outer:=by
 have all:∀(l:List Env),(∀b∈gD l,b∈X.fs)->X.s₀.heap.FunFrames X.base l->s.heap.FunFrames X.base l:=by
  intro l
  induction l with
  | nil=>intro _ _;trivial
  | cons env r ih=>
   intro hs hl;obtain⟨hk,⟨L,o,hf,hn,ho,hd⟩,hr⟩:=hl;have hL:L∈X.fs:=hs L (by unfold gD;rw[Ec,hf];exact Bk);obtain⟨sl,e⟩:=I.base.slot L o ho (I.ok.frf L hL) hL λz=>I.ok.exfs L z hL;exact⟨hk,⟨L,_,hf,hn,e,hd⟩,ih (λb hb=>hs b (by unfold gD;rw[Ec,hf];exact Ba _ hb)) hr⟩
 exact all X.outer (λ_ hb=>hb) I.ok.funs
theorem Inv.stack(I:Inv X pins Z H s):s.heap.FunFrames X.base X.stack:=by
 rcases I.ok.stk with e|⟨e,hf⟩
 .rw[e];exact I.funs
 .rw[e];obtain⟨m,hn,_⟩:=I.loc;refine .cons (by rw[I.ok.kind];decide) hf hn ?_ I.funs;exact Heap.get?_none_of_le (Au I.ok.bsz I.ok.above)
theorem Inv.stkSub(I:Inv X pins Z H s):∀b∈gD X.stack,b∈X.env.locals::X.fs:=λb hb=>by
 rcases I.ok.stk with e|⟨e,hf⟩
 .rw[e]at hb;exact Ba _ hb
 .rw[e]at hb;unfold gD at hb;rw[Ec,hf]at hb;exact hb
theorem Inv.stkFree(I:Inv X pins Z H s):∀b∈gD X.stack,H b=none:=λb hb=>by
 rcases Ar.mp (I.stkSub b hb) with e|hb
 .rw[e];exact I.free
 .obtain⟨_,o,ho,_⟩:=I.ok.funs.mem hb;exact I.base.free b o ho (I.ok.frf b hb) λz=>I.ok.exfs b z hb
theorem Inv.step{g':Array GenState}{t':Nat}{d':Drawn}{ch:List Addr}(I:Inv X pins Z H s)(hch:∀b∈ch,(b∈X.ex\/X.s₀.heap.objs.size<=b)/\b≠X.env.locals/\(∀x c,X.env.cells.lookup x=some c->c≠b)/\∀p∈X.pn++pins,p.1≠b)(keep:∀b o,b≠X.env.locals->b∉X.fs->b∉ch->s.heap.get? b=some o->H b=none->h'.get? b=some o)(slot:∀b o,b≠X.env.locals->b∈X.fs->b∉ch->s.heap.get? b=some o->H b=none->∃sl,h'.get? b=some {o with slots:=sl})(free:∀b o,b∉ch->s.heap.get? b=some o->H b=none->H' b=none)(there:∀b o,b∉ch->s.heap.get? b=some o->∃o',h'.get? b=some o')(tups:∀b xs,H b=some (.tup xs)->H' b=some (.tup xs))(frzs:∀b o u,H b=some (.frz o u)->H' b=some (.frz o u))(tbls:∀b ps,H b=some (.tbl ps)->∃more,H' b=some (.tbl (ps++more)))(ns:∀m,s.heap.Ns X.env.locals m->h'.Ns X.env.locals m)(hok:dA X.prog X.w H' h')(hg:Lz g'):
  Inv X pins Z H' {s with heap:=h',gens:=g',drawn:=d',toks:=t'}:=by
 have neL:∀b o,X.s₀.heap.get? b=some o->b≠X.env.locals:=λb o e=>Bl (Ca (Aw e) I.ok.above);have neC:∀b o,X.s₀.heap.get? b=some o->b∉X.ex->b∉ch:=λb o e hx hb=>by
  rcases(hch b hb).1 with z|z
  .exact hx z
  .exact absurd (Ca (Aw e) z) (Il _)
 have cellK:∀x c,X.env.cells.lookup x=some c->∀v,s.heap.IsCell c v->h'.IsCell c v:=λx c e v ⟨o,ho,hd⟩=>by
  have nch:c∉ch:=λz=>(hch c z).2.2.1 x c e rfl
  by_cases hc:c∈X.fs
  .obtain⟨sl,q⟩:=slot c o (I.cne x c e) hc nch ho (I.freeC x c e);exact⟨_,q,hd⟩
  .exact⟨o,keep c o (I.cne x c e) hc nch ho (I.freeC x c e),hd⟩
 refine⟨I.ok,I.os,hg,⟨λb o e n hb hx=>?_,λb o e n hb hx=>?_,λb o e n hx=>?_,λb o e hx=>?_,λb xs e=>tups b xs (I.base.tups b xs e),λb o xs e=>frzs b o xs (I.base.frzs b o xs e),λb ps e=>?_⟩,?_,λx c e=>?_,?_,λx c e=>?_,λp hp=>?_,hok,I.len⟩
 .exact keep b o (neL b o e) hb (neC b o e hx) (I.base.keep b o e n hb hx) (I.base.free b o e n hx)
 .obtain⟨sl,e1⟩:=I.base.slot b o e n hb hx;obtain⟨sl',e2⟩:=slot b _ (neL b o e) hb (neC b o e hx) e1 (I.base.free b o e n hx);exact⟨sl',e2⟩
 .obtain⟨o',e1⟩:=I.base.there b o e hx;exact free b o' (neC b o e hx) e1 (I.base.free b o e n hx)
 .obtain⟨o',e1⟩:=I.base.there b o e hx;exact there b o' (neC b o e hx) e1
 .obtain⟨m1,e1⟩:=I.base.tbls b ps e;obtain⟨m2,e2⟩:=tbls b _ e1;exact⟨m1++m2,by rw[e2,Array.append_assoc]⟩
 .obtain⟨m,hn,hl⟩:=I.loc;refine⟨m,ns m hn,λi x v e1 e2 e3=>?_⟩;obtain⟨u,r,l⟩:=hl i x v e1 e2 e3;refine⟨u,r,?_⟩;rcases l with l|⟨k,c,e,z⟩
  .exact .inl l
  .exact .inr ⟨k,c,e,cellK x c e _ z⟩
 .obtain⟨v,z⟩:=I.cell x c e;exact⟨v,cellK x c e v z⟩
 .obtain⟨m,⟨o,_,_,ho,_⟩,_⟩:=I.loc;exact free _ o (λz=>(hch _ z).2.1 rfl) ho I.free
 .obtain⟨v,o,ho,hd⟩:=I.cell x c e;exact free c o (λz=>(hch c z).2.2.1 x c e rfl) ho (I.freeC x c e)
 .obtain⟨e,n,ne,nf,d⟩:=I.pin p hp;have nch:p.1∉ch:=λz=>(hch p.1 z).2.2.2 p hp rfl;exact⟨keep p.1 p.2 ne nf nch e n,free p.1 p.2 nch e n,ne,nf,d⟩
theorem Inv.un{t':Nat}(I:Inv X pins Z H s)(u:Un X.fs [] H H' s.heap h')(hok:dA X.prog X.w H' h'):Inv X pins Z H' {s with heap:=h',toks:=t'}:=by
 obtain⟨m,⟨o,es,ep,ho,r⟩,_⟩:=id I.loc;obtain⟨sl,hL⟩:=u.any ho I.free (by simp);exact I.step (g':=s.gens) (d':=s.drawn) (ch:=[]) (λ_ z=>nomatch z) (λb o _ hb _ e n=>u.keep b o e n hb (by simp)) (λb o _ hb _ e n=>u.slot b o e n hb (by simp)) (λb o _ e n=>u.free b o e n (by simp)) (λb o _ e=>u.there b o e (by simp)) u.tups u.frzs u.tbls (λm' hm=>by
  obtain⟨o',es',ep',ho',r'⟩:=hm;rw[ho]at ho';cases ho';exact⟨_,es',ep',hL,r'⟩) hok I.bare
theorem Inv.call{g':Array GenState}{t':Nat}{d':Drawn}{ch:List Addr}(I:Inv X pins Z H s)(u:Un (gD X.stack) ch H H' s.heap h')(hok:dA X.prog X.w H' h')(hg:Lz g')(hch:∀b∈ch,(b∈X.ex\/X.s₀.heap.objs.size<=b)/\b≠X.env.locals/\(∀x c,X.env.cells.lookup x=some c->c≠b)/\∀p∈X.pn++pins,p.1≠b):
  Inv X pins Z H' {s with heap:=h',gens:=g',drawn:=d',toks:=t'}:=by
 obtain⟨m,⟨o,es,ep,ho,r⟩,_⟩:=id I.loc;obtain⟨sl,hL⟩:=u.any ho I.free λz=>(hch _ z).2.1 rfl;exact I.step (ch:=ch) hch (λb o hL hb hc e n=>u.keep b o e n (λz=>(Ar.mp (I.stkSub b z)).elim hL hb) hc) (λb o _ _ hc e n=>u.any e n hc) (λb o hc e n=>u.free b o e n hc) (λb o hc e=>u.there b o e hc) u.tups u.frzs u.tbls (λm' hm=>by
  obtain⟨o',es',ep',ho',r'⟩:=hm;rw[ho]at ho';cases ho';exact⟨_,es',ep',hL,r'⟩) hok hg
theorem Inv.turned{t':Nat}{it:Addr}(I:Inv X pins Z H s)(k:∀b o,b≠it->s.heap.get? b=some o->h'.get? b=some o)(hn:H it=none)(hL:it≠X.env.locals)(h1:it∈X.ex\/X.s₀.heap.objs.size<=it)(h2:∀x c,X.env.cells.lookup x=some c->c≠it)(h3:∀p∈X.pn++pins,p.1≠it):Inv X pins Z H {s with heap:=h',toks:=t'}:=by
 have nit:∀b u,H b=some u->b≠it:=λb u e z=>by rw[z,hn]at e;cases e
 refine I.step (g':=s.gens) (d':=s.drawn) (ch:=[it]) (λb hb=>?_) (λb o _ _ hc e _=>k b o (λz=>hc (by simp[z])) e) (λb o _ _ hc e _=>⟨o.slots,k b o (λz=>hc (by simp[z])) e⟩) (λ_ _ _ _ n=>n)
  (λb o hc e=>⟨o,k b o (λz=>hc (by simp[z])) e⟩) (λ_ _ e=>e) (λ_ _ _ e=>e) (λb ps e=>⟨#[],by rw[e];simp⟩) (λm hm=>?_) (λb u e=>?_) I.bare
 .have e:b=it:=by simpa using hb
  subst e;exact⟨h1,hL,h2,h3⟩
 .obtain⟨o,es,ep,ho,r⟩:=hm;exact⟨o,es,ep,k _ o (Bt hL) ho,r⟩
 .refine(I.hok b u e).stay (λc v hc q=>k c v ?_ q) (λ_ q=>q) λ_ _ q=>q;rcases hc with z|z
  .rw[z];exact nit b u e
  .exact nit c _ z
theorem Inv.tok(I:Inv X pins Z H s)(t:Nat):Inv X pins Z H {s with toks:=t}:=I.un (h':=s.heap) (t':=t) Un.refl I.hok
theorem Inv.kept{t':Nat}(I:Inv X pins Z H s)(k:∀b u,s.heap.get? b=some u->h'.get? b=some u):Inv X pins Z H {s with heap:=h',toks:=t'}:=I.un (Un.kept k) (I.hok.kept k)
theorem Inv.laid{a:Addr}{o:HO}{t':Nat}(I:Inv X pins Z H s)(k:∀b u,s.heap.get? b=some u->h'.get? b=some u)(hp:s.heap.objs.size<=a)(new:cX X.prog X.w (aX H a o) h' a o):
  Inv X pins Z (aX H a o) {s with heap:=h',toks:=t'}:=I.un (Un.laid k hp (I.hok.fresh hp)) (I.hok.laid k hp new)
theorem Inv.write{x e:Addr}{o:HO}{t':Nat}(I:Inv X pins Z H s)(mu:pK (H x))(he:e=x\/H e=some (.own x))(k:∀b u,b≠e->s.heap.get? b=some u->h'.get? b=some u)(heo:∃u,h'.get? e=some u)(new:cX X.prog X.w (aX H x o) h' x o):Inv X pins Z (aX H x o) {s with heap:=h',toks:=t'}:=I.un (Un.write mu he k heo) (I.hok.write mu he k heo new)
theorem Inv.pins_of{pins':List (Addr×Obj)}(I:Inv X pins Z H s)(h:∀p∈pins',s.heap.get? p.1=some p.2/\H p.1=none/\p.1≠X.env.locals/\p.1∉X.fs/\∀v,p.2.data≠.cell v):Inv X pins' Z H s:=
 ⟨I.ok,I.os,I.bare,I.base,I.loc,I.cell,I.free,I.freeC,λp hp=>(Bj.mp hp).elim (λz=>I.pin p (Bu _ z)) (h p),I.hok,I.len⟩
theorem DK{N:List Str}(hN:N.Nodup){i j:Nat}{x:Str}(a:N[i]? = some x)(b:N[j]? = some x):i=j:=by
 obtain⟨h1,e1⟩:=Ai.mp a;obtain⟨h2,e2⟩:=Ai.mp b;exact(List.getElem_inj hN).mp (e1.trans e2.symm)
theorem DL{M:Model}{A:Cq}{E:Ae->Ag->Prop}{i:Nat}{x:Str}{v:V}{u:Ae}{Q:Unit->Ag->Prop}(I:Inv X pins Z H s)(hN:X.N.Nodup)(hi:X.N[i]? = some x)(hx:Loc X.env.scope x)(r:RelV v u)(h:∀s',Inv X pins (Z.set i (some v)) H s'->(∃a,Eo a s.heap s'.heap/\(a=X.env.locals\/X.env.cells.lookup x=some a))->Q () s')(hf:X.fn x=true\/X.env.scope.names.lookup x=some .local:=by first|exact .inl rfl|exact .inr rfl|assumption):Bc M A (storeName X.env x u) Q E s:=by
 obtain⟨m,hn,hl⟩:=id I.loc;have hcls:(X.env.scope.kind==.class||(X.env.scope.kind==.module&&X.env.locals !=X.env.globals))=false:=by rw[I.ok.kind];rfl
 have hiσ:i<Z.length:=by rw[I.len];exact(Ai.mp hi).1
 have cne:=I.cne;have tracked:∀{a:Addr} {h':Heap},(∃o,s.heap.get? a=some o/\H a=none)->Eo a s.heap h'->dA X.prog X.w H h':=λ{a h'} ha hs b ob e=>by
  obtain⟨_,_,hfree⟩:=ha;refine(I.hok b ob e).stay (λc w' hc q=>(hs.2 c ?_).trans q) (λ_ q=>q) λ_ _ q=>q;rintro rfl;rcases hc with rfl|hc
  .rw[hfree]at e;cases e
  .rw[hfree]at hc;cases hc
 rcases hx with hk|hk
 .refine wpAny_storeName_local hk hn (λh' hn' hs=>?_) hcls;obtain⟨oL,_,_,hoL,_⟩:=id hn;refine h _ ⟨I.ok,I.os,I.bare,⟨λb o e n hb hx=>?_,λb o e n hb hx=>?_,I.base.free,λb o e hx=>?_,I.base.tups,I.base.frzs,I.base.tbls⟩,⟨_,hn',λj y v' e1 e2 e3=>?_⟩,λy c e=>?_,I.free,I.freeC,λp hp=>?_,tracked ⟨oL,hoL,I.free⟩ hs,by simpa using I.len⟩ ⟨_,hs,.inl rfl⟩
  .exact(hs.2 b (Bl (Ca (Aw e) I.ok.above))).trans (I.base.keep b o e n hb hx)
  .obtain⟨sl,e1⟩:=I.base.slot b o e n hb hx;exact⟨sl,(hs.2 b (Bl (Ca (Aw e) I.ok.above))).trans e1⟩
  .obtain⟨o',e1⟩:=I.base.there b o e hx;exact⟨o',(hs.2 b (Bl (Ca (Aw e) I.ok.above))).trans e1⟩
  .by_cases hj:j=i
   .subst hj;rw[hi]at e1;cases e1;rw[List.getElem?_set_self hiσ]at e2;cases e2;exact⟨u,r,.inl ⟨hk,by simp⟩⟩
   .rw[List.getElem?_set_ne (Bt hj)]at e2;obtain⟨u',r',q⟩:=hl j y v' e1 e2 e3;refine⟨u',r',?_⟩;rcases q with⟨k,e⟩|⟨k,c,e,z⟩
    .refine .inl ⟨k,?_⟩;have:y≠x:=λe=>hj (DK hN e1 (e▸hi));simp[this,e]
    .exact .inr ⟨k,c,e,z.sameBut hs (cne y c e)⟩
  .obtain⟨w',z⟩:=I.cell y c e;exact⟨w',z.sameBut hs (cne y c e)⟩
  .obtain⟨e,n,ne,nf,d⟩:=I.pin p hp;exact⟨(hs.2 p.1 ne).trans e,n,ne,nf,d⟩
 .have hfn:X.fn x=true:=by
   rcases hf with z|z
   .exact z
   .rw[z]at hk;cases hk
  obtain⟨c,hc⟩:=I.ok.has x (.inl hk);obtain⟨w',z⟩:=I.cell x c hc;refine wpAny_storeName_cell I.ok.kind hk hc z (λh' hc' hs=>?_);obtain⟨oc,hoc,hocd⟩:=id z;refine h {s with heap:=h'} ⟨I.ok,I.os,I.bare,⟨λb o e n hb hx=>?_,λb o e n hb hx=>?_,I.base.free,λb o e hx=>?_,I.base.tups,I.base.frzs,I.base.tbls⟩,⟨m,hn.sameBut hs (Bt (cne x c hc)),λj y v' e1 e2 e3=>?_⟩,λy c' e=>?_,I.free,I.freeC,λp hp=>?_,tracked ⟨oc,hoc,I.freeC x c hc⟩ hs,by simpa using I.len⟩ ⟨c,hs,.inr hc⟩
  .exact(hs.2 b (Bl (Ca (Aw e) (I.ok.cab x c hfn hc)))).trans (I.base.keep b o e n hb hx)
  .obtain⟨sl,e1⟩:=I.base.slot b o e n hb hx;exact⟨sl,(hs.2 b (Bl (Ca (Aw e) (I.ok.cab x c hfn hc)))).trans e1⟩
  .obtain⟨o',e1⟩:=I.base.there b o e hx;exact⟨o',(hs.2 b (Bl (Ca (Aw e) (I.ok.cab x c hfn hc)))).trans e1⟩
  .by_cases hj:j=i
   .subst hj;rw[hi]at e1;cases e1;rw[List.getElem?_set_self hiσ]at e2;cases e2;exact⟨u,r,.inr ⟨.inl hk,c,hc,hc'⟩⟩
   .rw[List.getElem?_set_ne (Bt hj)]at e2;obtain⟨u',r',q⟩:=hl j y v' e1 e2 e3;refine⟨u',r',?_⟩;rcases q with q|⟨k,c',e,z'⟩
    .exact .inl q
    .refine .inr ⟨k,c',e,z'.sameBut hs ?_⟩;rintro rfl;exact hj (DK hN e1 (I.ok.inj _ _ _ e hc▸hi))
  .by_cases hcc:c'=c
   .subst hcc;exact⟨_,hc'⟩
   .obtain⟨w2,z2⟩:=I.cell y c' e;exact⟨w2,z2.sameBut hs hcc⟩
  .obtain⟨e,n,ne,nf,d⟩:=I.pin p hp;refine⟨(hs.2 p.1 ?_).trans e,n,ne,nf,d⟩;intro q;rw[q,hoc]at e;have q':oc=p.2:=Cj e;exact d w' (by rw[<-q'];exact hocd)
theorem DM{M:Model}{A:Cq}{E:Ae->Ag->Prop}{i:Nat}{x:Str}{v:V}{u:Ae}{Q:Unit->Ag->Prop}(I:Inv X pins Z H s)(hN:X.N.Nodup)(hi:X.N[i]? = some x)(hx:Loc X.env.scope x)(r:RelV v u)(h:∀s',Inv X pins (Z.set i (some v)) H s'->Q () s')(hf:X.fn x=true\/X.env.scope.names.lookup x=some .local:=by first|exact .inl rfl|exact .inr rfl|assumption):Bc M A (storeName X.env x u) Q E s:=
 DL I hN hi hx r (λs' I' _=>h s' I') hf
theorem Inv.call'{s':Ag}{ch:List Addr}(I:Inv X pins Z H s)(ho:s'.os=s.os)(u:Un (gD X.stack) ch H H' s.heap s'.heap)(hok:dA X.prog X.w H' s'.heap)(hg:Lz s'.gens)(hch:∀b∈ch,(b∈X.ex\/X.s₀.heap.objs.size<=b)/\b≠X.env.locals/\(∀x c,X.env.cells.lookup x=some c->c≠b)/\∀p∈X.pn++pins,p.1≠b):Inv X pins Z H' s':=by
 obtain⟨h',g',d',t',o'⟩:=s';have e:o'=s.os:=ho;subst e;exact I.call (g':=g') (t':=t') (d':=d') u hok hg hch
end
abbrev XK:=Ae->Option Addr->Hp->Prop
abbrev St:=List (Option V)
abbrev VK:=V->Hp->Prop
abbrev TE:=St->Hp->VK->Prop
abbrev TT:=St->Hp->(Bool->Hp->Prop)->Prop
abbrev TA:=St->Hp->(List V->Hp->Prop)->Prop
structure lK where
 nx:St->Hp->Prop
 rt:VK
 bk:St->Hp->Prop:=λ_ _=>False
 ct:St->Hp->Prop:=λ_ _=>False
abbrev TS:=lK->St->Hp->Prop
def EP(X:Cx)(pins:List (Addr×Obj))(Z:St)(Q:VK)(u:Ae)(s':Ag):Prop:=∃v H',Inv X pins Z H' s'/\RelV v u/\Q v H'
def TP(X:Cx)(pins:List (Addr×Obj))(Z:St)(Q:Bool->Hp->Prop)(b:Bool)(s':Ag):Prop:=∃H',Inv X pins Z H' s'/\Q b H'
def AP(X:Cx)(pins:List (Addr×Obj))(Z:St)(Q:List V->Hp->Prop)(us:List Ae)(s':Ag):Prop:=∃vs H',Inv X pins Z H' s'/\a8 vs us/\Q vs H'
def SP(X:Cx)(pins:List (Addr×Obj))(D:lK)(f:Flow)(s':Ag):Prop:=
 match f with
 | .next=>∃σ' H',Inv X pins σ' H' s'/\D.nx σ' H'
 | .brk=>∃σ' H',Inv X pins σ' H' s'/\D.bk σ' H'
 | .cont=>∃σ' H',Inv X pins σ' H' s'/\D.ct σ' H'
 | .ret u=>∃v σ' H',Inv X pins σ' H' s'/\RelV v u/\D.rt v H'
def PE(X:Cx)(e:Expr)(t:TE):Prop:=
 ∀(pins:List (Addr×Obj)) (s:Ag) (Z:St) (H:Hp) (Q:VK),Inv X pins Z H s->t Z H Q->Bc (Bn X.prog X.w) X.A (eval e X.env) (EP X pins Z Q) X.xe s
def PT(X:Cx)(e:Expr)(t:TT):Prop:=
 ∀(pins:List (Addr×Obj)) (s:Ag) (Z:St) (H:Hp) (Q:Bool->Hp->Prop),Inv X pins Z H s->t Z H Q->Bc (Bn X.prog X.w) X.A (isTrue e X.env (eval e X.env)) (TP X pins Z Q) X.xe s
def PW(X:Cx)(e:Expr)(t:TT):Prop:=
 ∀(whole:Sem Ae) (pins:List (Addr×Obj)) (s:Ag) (Z:St) (H:Hp) (Q:Bool->Hp->Prop),Inv X pins Z H s->t Z H Q->Bc (Bn X.prog X.w) X.A (isTrue e X.env whole) (TP X pins Z Q) X.xe s
theorem PW.pt{X:Cx}{e:Expr}{t:TT}(h:PW X e t):PT X e t:=h _
def PA(X:Cx)(es:List Expr)(t:TA):Prop:=
 ∀(pos:Pos) (pins:List (Addr×Obj)) (s:Ag) (Z:St) (H:Hp) (Q:List V->Hp->Prop),Inv X pins Z H s->t Z H Q->Bc (Bn X.prog X.w) X.A (spliced (Gf pos (Be es X.env))) (AP X pins Z Q) X.xe s
def PS(X:Cx)(st:Stmt)(t:TS):Prop:=
 ∀(pins:List (Addr×Obj)) (s:Ag) (Z:St) (H:Hp) (D:lK),Inv X pins Z H s->t D Z H->Bc (Bn X.prog X.w) X.A (exec st X.env) (SP X pins D) X.xe s
def gE(X:Cx)(st:List Stmt)(t:TS):Prop:=
 ∀(pins:List (Addr×Obj)) (s:Ag) (Z:St) (H:Hp) (D:lK),Inv X pins Z H s->t D Z H->Bc (Bn X.prog X.w) X.A (execs st X.env) (SP X pins D) X.xe s
theorem bA{O:Type}{t:Sem O}{Q Q':O->Ag->Prop}{M:Model}{A:Cq}{E:Ae->Ag->Prop}{s:Ag}(h:Bc M A t Q E s)(hQ:∀a s,Q a s->Q' a s):Bc M A t Q' E s:=Hi h hQ λ_ _ x=>x
section
variable {X:Cx}
def MT(i:Nat):TE:=λZ H Q=>∃v,Z[i]? = some (some v)/\Q v H
def tC(v:V):TE:=λ_ H Q=>Q v H
theorem vT{i:Nat}{x:Str}{pos:Pos}(hN:X.N[i]? = some x)(hv:pL X.env.scope x)(hd:(x==("__debug__" : Str))=false:=by decide)(hcd:(x==("__classdict__" : Str))=false:=by decide):PE X (.Name x pos) (MT i):=by
 intro pins s Z H Q I h;obtain⟨v,e,h⟩:=h;obtain⟨m,hn,hl⟩:=I.loc;obtain⟨u,r,l⟩:=hl i x v hN e hv;have fin:EP X pins Z Q u s:=⟨v,H,I,r,h⟩;rcases l with⟨hk,hm⟩|⟨hk,c,hc,hcell⟩
 .exact wpAny_Name (wpAny_loadName_local I.ok.kind hk hn hm fin) hd
 .rcases hk with hk|hk
  .exact wpAny_Name (wpAny_loadName_cell I.ok.kind hk hc hcell fin) hd
  .exact wpAny_Name (wpAny_loadName_free I.ok.kind hk hc hcell fin hcd) hd
theorem MU{i j pos}:PE X (.Constant (.int i) j pos) (tC (.int i)):=λ_ _ _ H _ I h=>wpAny_Constant_int ⟨.int i,H,I.tok _,⟨_,rfl⟩,h⟩
theorem MV{b j pos}:PE X (.Constant (.bool b) j pos) (tC (.bl b)):=λ_ _ _ H _ I h=>Constant_bool ⟨.bl b,H,I,rfl,h⟩
theorem MW{j pos}:PE X (.Constant .none j pos) (tC .non):=λ_ _ _ H _ I h=>Constant_none ⟨.non,H,I,rfl,h⟩
theorem MX{x j pos}:PE X (.Constant (.str x) j pos) (tC (.str x)):=λ_ _ _ H _ I h=>Calls.Constant_str ⟨.str x,H,I.tok _,⟨_,rfl⟩,h⟩
def Gl(X:Cx)(x:Str):Prop:=X.env.kindOf x=some .globalImplicit
theorem pM{E:Ae->Ag->Prop}{pins:List (Addr×Obj)}{s:Ag}{Z:St}{H:Hp}{x:Str}{u:Ae}{pos:Pos}{Q:Ae->Ag->Prop}(I:Inv X pins Z H s)(hg:Gl X x)(hm:X.mg x=some u)(h:Q u s)(hd:(x==("__debug__" : Str))=false:=by decide):Bc (Bn X.prog X.w) X.A (eval (.Name x pos) X.env) Q E s:=
 Calls.Name_function_global I.ok.kind hg (Calls.loadGlobal_global (by rw[I.ok.glob];exact I.mod.glob.keeps I.bk) hm h) hd
theorem kJ{E:Ae->Ag->Prop}{pins:List (Addr×Obj)}{s:Ag}{Z:St}{H:Hp}{x:Str}{u:Ae}{pos:Pos}{Q:Ae->Ag->Prop}(I:Inv X pins Z H s)(hg:Gl X x)(hm:X.mg x=none)(hv:Co x=some u)(h:Q u s)(hn:x≠"__name__":=by decide)(hd:(x==("__debug__" : Str))=false:=by decide):Bc (Bn X.prog X.w) X.A (eval (.Name x pos) X.env) Q E s:=by
 obtain⟨mb,h1,h2⟩:=I.mod.blt;exact Calls.Name_function_global I.ok.kind hg (Calls.loadGlobal_builtin (by rw[I.ok.glob];exact I.mod.glob.keeps I.bk) hm (by rw[I.ok.blt];exact h1.keeps I.bk) ((h2 x hn).trans hv) h) hd
theorem MY{x:Str}{v:V}{u:Ae}{pos:Pos}(hg:Gl X x)(hm:X.mg x=some u)(r:RelV v u)(hd:(x==("__debug__" : Str))=false:=by decide):PE X (.Name x pos) (tC v):=
 λ_ _ _ H _ I h=>pM I hg hm ⟨v,H,I,r,h⟩ hd
theorem MZ{x:Str}{v:V}{u:Ae}{pos:Pos}(hg:Gl X x)(hm:X.mg x=none)(hv:Co x=some u)(r:RelV v u)(hn:x≠"__name__":=by decide)(hd:(x==("__debug__" : Str))=false:=by decide):PE X (.Name x pos) (tC v):=
 λ_ _ _ H _ I h=>kJ I hg hm hv ⟨v,H,I,r,h⟩ hn hd
variable {a b:Expr}{ta tb:TE}{pos:Pos}
variable {tA tB':TT}{rest:List Expr}
def M8(t u:TT):TT:=λZ H Q=>t Z H λc H1=>if c=true then u Z H1 Q else Q false H1
def M9(t u:TT):TT:=λZ H Q=>t Z H λc H1=>if c=true then Q true H1 else u Z H1 Q
def NA(t:TT):TT:=λZ H Q=>t Z H λc H1=>Q (!c) H1
theorem NB(ha:PT X a tA):PW X (.BoolOp .And [a] pos) tA:=by
 intro wh pins s Z H Q I h;refine isTrue_and (bA (ha pins s Z H Q I h) λc s1 e=>?_);cases c with
 | true=>exact isTrue_and_nil e
 | false=>exact e
theorem NC(ha:PT X a tA):PW X (.BoolOp .Or [a] pos) tA:=by
 intro wh pins s Z H Q I h;refine isTrue_or (bA (ha pins s Z H Q I h) λc s1 e=>?_);cases c with
 | false=>exact isTrue_or_nil e
 | true=>exact e
theorem ND(ha:PT X a tA)(hb:PW X (.BoolOp .And (b::rest) pos) tB'):PW X (.BoolOp .And (a::b::rest) pos) (M8 tA tB'):=by
 intro wh pins s Z H Q I h;refine isTrue_and (bA (ha pins s Z H _ I h) λc s1 ⟨H1,I1,q1⟩=>?_);cases c with
 | true=>exact hb wh pins s1 Z H1 Q I1 q1
 | false=>exact⟨H1,I1,q1⟩
theorem NF(ha:PT X a tA)(hb:PW X (.BoolOp .Or (b::rest) pos) tB'):PW X (.BoolOp .Or (a::b::rest) pos) (M9 tA tB'):=by
 intro wh pins s Z H Q I h;refine isTrue_or (bA (ha pins s Z H _ I h) λc s1 ⟨H1,I1,q1⟩=>?_);cases c with
 | true=>exact⟨H1,I1,q1⟩
 | false=>exact hb wh pins s1 Z H1 Q I1 q1
theorem NG(ha:PT X a tA):PT X (.UnaryOp .Not a pos) (NA tA):=by
 intro pins s Z H Q I h;exact isTrue_not (ha pins s Z H (λc H1=>Q (!c) H1) I h)
def NH(ta tb:TE):TE:=λZ H Q=>ta Z H λx H1=>∃c,x=.bl c/\if c=true then tb Z H1 Q else Q (.bl false) H1
def NI(ta tb:TE):TE:=λZ H Q=>ta Z H λx H1=>∃c,x=.bl c/\if c=true then Q (.bl true) H1 else tb Z H1 Q
def NJ(ta:TE):TE:=λZ H Q=>ta Z H λx H1=>∃c,x=.bl c/\Q (.bl (!c)) H1
theorem NK{op}{t:TE}(h:PE X a t):PE X (.BoolOp op [a] pos) t:=λpins s Z H Q I hw=>BoolOp_one (h pins s Z H Q I hw)
theorem NL(ha:PE X a ta)(hb:PE X (.BoolOp .And (b::rest) pos) tb):PE X (.BoolOp .And (a::b::rest) pos) (NH ta tb):=by
 intro pins s Z H Q I h;refine BoolOp_and (bA (ha pins s Z H _ I h) λv s1 ⟨x,H1,I1,r1,q1⟩=>?_);obtain⟨c,rfl,q1⟩:=q1;cases r1;refine Gk ?_;cases c with
 | true=>exact hb pins s1 Z H1 Q I1 q1
 | false=>exact⟨.bl false,H1,I1,rfl,q1⟩
theorem NM(ha:PE X a ta)(hb:PE X (.BoolOp .Or (b::rest) pos) tb):PE X (.BoolOp .Or (a::b::rest) pos) (NI ta tb):=by
 intro pins s Z H Q I h;refine BoolOp_or (bA (ha pins s Z H _ I h) λv s1 ⟨x,H1,I1,r1,q1⟩=>?_);obtain⟨c,rfl,q1⟩:=q1;cases r1;refine Gk ?_;cases c with
 | false=>exact hb pins s1 Z H1 Q I1 q1
 | true=>exact⟨.bl true,H1,I1,rfl,q1⟩
theorem NN(ha:PE X a ta):PE X (.UnaryOp .Not a pos) (NJ ta):=by
 intro pins s Z H Q I h;refine UnaryOp_ (bA (ha pins s Z H _ I h) λv s1 ⟨x,H1,I1,r1,q1⟩=>?_);obtain⟨c,rfl,q1⟩:=q1;cases r1;exact not_of (Gk ⟨.bl (!c),H1,I1,rfl,q1⟩)
def NO(t:TT)(ta tb:TE):TE:=λZ H Q=>t Z H λc H1=>if c=true then ta Z H1 Q else tb Z H1 Q
theorem NP{c:Expr}(hc:PT X c tA)(ha:PE X a ta)(hb:PE X b tb):PE X (.IfExp c a b pos) (NO tA ta tb):=by
 intro pins s Z H Q I h;refine wpAny_IfExp (bA (hc pins s Z H _ I h) λd s1 ⟨H1,I1,q1⟩=>?_);cases d with
 | true=>exact ha pins s1 Z H1 Q I1 q1
 | false=>exact hb pins s1 Z H1 Q I1 q1
end
def bN(K:Ac)(H:Hp)(a:Addr)(xs:List V):Prop:=
 Rd H a (.lst xs)\/
  ∃(o:Obj) (its:Array Ae) (n:Nat),K.lookup a=some o/\o.cls=.type "list"/\o.dict=none/\o.data=.seq its n/\its.size<=Am/\a8 xs its.toList
def bW(K:Ac)(H:Hp)(a:Addr)(xs:List V):Prop:=
 Rd H a (.tup xs)\/
  ∃(o:Obj) (its:Array Ae) (n:Nat),K.lookup a=some o/\o.cls=.type "tuple"/\o.data=.seq its n/\its.size<=Am/\a8 xs its.toList
def NQ:Ae->Option V
 | .none=>some .non
 | .bool b=>some (.bl b)
 | .int i _=>some (.int i)
 | .str x _=>some (.str x)
 | .bytes b _=>some (.byt b)
 | .float b _=>some (.flt b)
 | .ref a=>some (.ref a)
 | .type n=>some (.ty n)
 | _=>none
theorem RelV.abs{x:V}{u:Ae}(r:RelV x u):NQ u=some x:=by
 cases x with
 | non=>cases r;rfl
 | bl _=>cases r;rfl
 | int _=>obtain⟨t,rfl⟩:=r;rfl
 | str _=>obtain⟨t,rfl⟩:=r;rfl
 | byt _=>obtain⟨t,rfl⟩:=r;rfl
 | flt _=>obtain⟨t,rfl⟩:=r;rfl
 | ref _=>cases r;rfl
 | ty _=>cases r;rfl
theorem RelV.inj{x y:V}{u:Ae}(r:RelV x u)(q:RelV y u):x=y:=Cj (r.abs.symm.trans q.abs)
theorem a8.inj:∀{xs ys:List V} {us:List Ae},a8 xs us->a8 ys us->xs=ys
 | _,_,_,.nil,.nil=>rfl
 | _,_,_,.cons r t,.cons r' t'=>by rw[r.inj r',a8.inj t t']
section
variable {X:Cx}{pins:List (Addr×Obj)}{Z:St}{H:Hp}{s:Ag}{a:Addr}{xs ys:List V}
theorem bN.of{K:Ac}(h:H a=some (.lst xs)):bN K H a xs:=.inl (.inl h)
theorem bW.of{K:Ac}(h:H a=some (.tup xs)):bW K H a xs:=.inl (.inl h)
theorem Inv.list(I:Inv X pins Z H s)(h:bN X.K H a xs):∃its:List Ae,a8 xs its/\PlainL s.heap a its.toArray/\xs.length<=Am:=by
 rcases h with h|⟨o,its,n,hk,hc,hd,hs,hz,r⟩
 .obtain⟨z,its,n,r,e⟩:=h.ok I.hok;exact⟨its,r,⟨_,n,e,rfl,rfl,rfl⟩,z⟩
 .refine⟨its.toList,r,⟨o,n,I.kIn a o hk,hc,hd,by simpa using hs⟩,?_⟩;have e:=r.length;simp only[Fo]at e;lia
theorem Inv.tuple(I:Inv X pins Z H s)(h:bW X.K H a xs):∃its:List Ae,a8 xs its/\IsTup s.heap a its.toArray/\xs.length<=Am:=by
 rcases h with h|⟨o,its,n,hk,hc,hs,hz,r⟩
 .obtain⟨z,its,r,p⟩:=h.ok I.hok;exact⟨its,r,p,z⟩
 .refine⟨its.toList,r,⟨o,I.kIn a o hk,hc,n,by simpa using hs⟩,?_⟩;have e:=r.length;simp only[Fo]at e;lia
theorem Inv.list_inj(I:Inv X pins Z H s)(h:bN X.K H a xs)(h':bN X.K H a ys):xs=ys:=by
 obtain⟨its,r,⟨o,n,e,_,_,d⟩,_⟩:=I.list h;obtain⟨its',r',⟨o',n',e',_,_,d'⟩,_⟩:=I.list h';rw[e]at e';cases e';rw[d]at d';injection d' with d1 _;have:its=its':=by simpa using congrArg Array.toList d1
 subst this;exact r.inj r'
theorem Inv.tuple_inj(I:Inv X pins Z H s)(h:bW X.K H a xs)(h':bW X.K H a ys):xs=ys:=by
 obtain⟨its,r,⟨o,e,_,n,d⟩,_⟩:=I.tuple h;obtain⟨its',r',⟨o',e',_,n',d'⟩,_⟩:=I.tuple h';rw[e]at e';cases e';rw[d]at d';injection d' with d1 _;have:its=its':=by simpa using congrArg Array.toList d1
 subst this;exact r.inj r'
end
abbrev Cx.wish(X:Cx)(E:Ae->Ag->Prop):Cx:={X with xe:=E}
abbrev Cx.nox(X:Cx):Cx:=X.wish λ_ _=>False
theorem Cx.Ok.wish{X:Cx}(ok:X.Ok)(E:Ae->Ag->Prop):(X.wish E).Ok:=
 ⟨ok.mod,ok.kind,ok.glob,ok.blt,ok.above,ok.inj,ok.has,ok.cab,ok.hd,ok.frames,ok.stk,ok.exf,ok.bs,ok.bsz,ok.noex,ok.exfs,ok.funs,ok.frf⟩
theorem Cx.Ok.unwish{X:Cx}{E:Ae->Ag->Prop}(ok:(X.wish E).Ok):X.Ok:=
 ⟨ok.mod,ok.kind,ok.glob,ok.blt,ok.above,ok.inj,ok.has,ok.cab,ok.hd,ok.frames,ok.stk,ok.exf,ok.bs,ok.bsz,ok.noex,ok.exfs,ok.funs,ok.frf⟩
section
variable {X:Cx}{pins:List (Addr×Obj)}{Z:St}{H:Hp}{s:Ag}{E:Ae->Ag->Prop}
theorem Inv.wish(I:Inv X pins Z H s)(E:Ae->Ag->Prop):Inv (X.wish E) pins Z H s:=⟨I.ok.wish E,I.os,I.bare,I.base,I.loc,I.cell,I.free,I.freeC,I.pin,I.hok,I.len⟩
theorem Inv.unwish(I:Inv (X.wish E) pins Z H s):Inv X pins Z H s:=⟨I.ok.unwish,I.os,I.bare,I.base,I.loc,I.cell,I.free,I.freeC,I.pin,I.hok,I.len⟩
theorem SP.unwish{D:lK}{f:Flow}{s':Ag}(h:SP (X.wish E) pins D f s'):SP X pins D f s':=by
 cases f with
 | next=>obtain⟨σ',H',I,q⟩:=h;exact⟨σ',H',I.unwish,q⟩
 | brk=>obtain⟨σ',H',I,q⟩:=h;exact⟨σ',H',I.unwish,q⟩
 | cont=>obtain⟨σ',H',I,q⟩:=h;exact⟨σ',H',I.unwish,q⟩
 | ret u=>obtain⟨v,σ',H',I,r,q⟩:=h;exact⟨v,σ',H',I.unwish,r,q⟩
theorem gE.nox{st:List Stmt}{t:TS}(h:gE X.nox st t):gE X st t:=λpins s Z H D I hw=>
 Hi (h pins s Z H D (I.wish _) hw) (λ_ _ q=>q.unwish) λ_ _ z=>Dx z
end
section
variable {X:Cx}{st:Stmt}{rest:List Stmt}{t u:TS}{e:Expr}{te:TE}{pos:Pos}
def NR:TS:=λD Z H=>D.nx Z H
def NS(t u:TS):TS:=λD Z H=>t {D with nx:=u D} Z H
theorem NT:gE X [] NR:=λ_ _ Z H _ I h=>Ma ⟨Z,H,I,h⟩
theorem NU(h1:PS X st t)(h2:gE X rest u):gE X (st::rest) (NS t u):=by
 intro pins s Z H D I h;refine wpAny_execs_cons (bA (h1 pins s Z H {D with nx:=u D} I h) λf s1 q=>?_);cases f with
 | next=>
  obtain⟨σ',H',I',q⟩:=q;exact h2 pins s1 σ' H' D I' q
 | ret v=>exact q
 | brk=>exact q
 | cont=>exact q
theorem NV(h1:PS X st t):gE X [st] t:=by
 intro pins s Z H D I h;refine wpAny_execs_cons (bA (h1 pins s Z H D I h) λf s1 q=>?_);cases f with
 | next=>exact Ma q
 | ret v=>exact q
 | brk=>exact q
 | cont=>exact q
theorem Inv.quiet{pins:List (Addr×Obj)}{Z:St}{H:Hp}{s:Ag}(I:Inv X pins Z H s):interactive X.env=false:=by simp[interactive,I.ok.kind]
def NW(te:TE):TS:=λD Z H=>te Z H λ_ H1=>D.nx Z H1
theorem NX(he:PE X e te)(hs:Je e none pos.line X.env=pure false:=by rfl):PS X (.Expr e pos) (NW te):=by
 intro pins s Z H D I h;exact wpAny_Expr_any (bA (he pins s Z H _ I h) λv s1 ⟨x,H1,I1,r1,q1⟩=>⟨Z,H1,I1,q1⟩) I.quiet hs
def NY(te:TE):TS:=λD Z H=>te Z H D.rt
theorem NZ(he:PE X e te):PS X (.Return (some e) pos) (NY te):=by
 intro pins s Z H D I h;exact wpAny_Return_some (bA (he pins s Z H _ I h) λv s1 ⟨x,H1,I1,r1,q1⟩=>⟨x,Z,H1,I1,r1,q1⟩)
def N0:TS:=λD _ H=>D.rt .non H
theorem N2:PS X (.Return none pos) N0:=λ_ _ Z H _ I h=>wpAny_Return_none ⟨.non,Z,H,I,rfl,h⟩
def N3(c:TT)(t u:TS):TS:=λD Z H=>c Z H λb H1=>if b=true then t D Z H1 else u D Z H1
theorem N4{c:Expr}{a b:List Stmt}{tc:TT}(hc:PT X c tc)(ha:gE X a t)(hb:gE X b u):PS X (.If c a b pos) (N3 tc t u):=by
 intro pins s Z H D I h;refine wpAny_If (bA (hc pins s Z H _ I h) λd s1 ⟨H1,I1,q1⟩=>?_);cases d with
 | true=>exact ha pins s1 Z H1 D I1 q1
 | false=>exact hb pins s1 Z H1 D I1 q1
end
abbrev TG:=V->St->Hp->(St->Hp->Prop)->Prop
abbrev jW:=List V->St->Hp->(St->Hp->Prop)->Prop
def PG(X:Cx)(target:Expr)(t:TG):Prop:=
 ∀(pins:List (Addr×Obj)) (s:Ag) (Z:St) (H:Hp) (v:V) (u:Ae) (Q:St->Hp->Prop),Inv X pins Z H s->RelV v u->t v Z H Q->
  Bc (Bn X.prog X.w) X.A (Lg target X.env u) (λ_ s'=>∃σ' H',Inv X pins σ' H' s'/\Q σ' H') X.xe s
def jG(X:Cx)(ts:List Expr)(t:jW):Prop:=
 ∀(pins:List (Addr×Obj)) (s:Ag) (Z:St) (H:Hp) (vs:List V) (us:List Ae) (Q:St->Hp->Prop),Inv X pins Z H s->a8 vs us->t vs Z H Q->
  Bc (Bn X.prog X.w) X.A (assignInOrder ((Gg ts X.env).map (·.2)) us) (λ_ s'=>∃σ' H',Inv X pins σ' H' s'/\Q σ' H') X.xe s
abbrev rW:=V->V->V->Hp->(Hp->Prop)->Prop
def rX(X:Cx)(t:rW):Prop:=
 ∀(pins:List (Addr×Obj)) (s:Ag) (Z:St) (H:Hp) (o i v:V) (ov iv u:Ae) (Q:Hp->Prop),Inv X pins Z H s->RelV o ov->RelV i iv->RelV v u->t o i v H Q->
  Bc (Bn X.prog X.w) X.A (setItem ov iv u) (λ_ s'=>∃H',Inv X pins Z H' s'/\Q H') X.xe s
section
variable {X:Cx}{pos:Pos}
def vU(i:Nat):TG:=λv Z H Q=>Q (Z.set i (some v)) H
theorem N5{i:Nat}{x:Str}(hN:X.N.Nodup)(hi:X.N[i]? = some x)(hx:Loc X.env.scope x)(hf:X.fn x=true\/X.env.scope.names.lookup x=some .local:=by first|exact .inl rfl|exact .inr rfl|assumption):PG X (.Name x pos) (vU i):=by
 intro pins s Z H v u Q I r h;exact wpAny_assign_Name (DM I hN hi hx r (λs' I'=>⟨_,H,I',h⟩) hf)
def N6:jW:=λvs Z H Q=>vs=[]/\Q Z H
def N7(t:TG)(u:jW):jW:=λvs Z H Q=>∃v r,vs=v::r/\t v Z H λσ' H'=>u r σ' H' Q
theorem N8:jG X [] N6:=by
 intro pins s Z H vs us Q I r h;obtain⟨e,h⟩:=h;subst e;cases r;exact assignInOrder_nil ⟨Z,H,I,h⟩
theorem N9{e:Expr}{es:List Expr}{t:TG}{u:jW}(h1:PG X e t)(h2:jG X es u)(hs:(Gg (e::es) X.env).map (·.2)=Lg e X.env::(Gg es X.env).map (·.2):=by rfl):jG X (e::es) (N7 t u):=by
 intro pins s Z H vs us Q I r h;obtain⟨v,vr,e1,h⟩:=h;subst e1;cases r with
 | cons r rr=>
  rw[hs];refine assignInOrder_cons (bA (h1 pins s Z H _ _ _ I r h) λ_ s1 ⟨σ1,H1,I1,q1⟩=>?_);exact h2 pins s1 σ1 H1 _ _ Q I1 rr q1
def OA(K:Ac)(n:Nat)(t:jW):TG:=λv Z H Q=>∃a xs,v=.ref a/\bW K H a xs/\xs.length=n/\t xs Z H Q
theorem OB{es:List Expr}{k:Nat}{t:jW}{n:Nat}(hc:X.calm=true)(h:jG X es t)(hn:(Gg es X.env).length=n:=by rfl)(hst:(Gg es X.env).findIdx? (·.1)=none:=by rfl):PG X (.Tuple es k pos) (OA X.K n t):=by
 intro pins s Z H v u Q I r hw;obtain⟨a,xs,e1,hq,hl,hw⟩:=hw;subst e1;cases r;obtain⟨its,rv,ht,hz⟩:=I.tuple hq;refine assign_Tuple_tuple (I.ok.hd hc) ht (by simp[hn,<-hl,rv.length]) hst λh' hx=>?_;have I1:Inv X pins Z H {s with heap:=h'}:=I.kept (t':=s.toks) λb o e=>hx b o (Bl (Aw e)) e;exact h pins _ Z H xs _ Q I1 (by simpa using rv) hw
def OC(to ti:TE)(t:rW):TG:=λv Z H Q=>to Z H λo H1=>ti Z H1 λi H2=>t o i v H2 λH3=>Q Z H3
theorem OD{o i:Expr}{to ti:TE}{t:rW}(ho:PE X o to)(hi:PE X i ti)(hs:rX X t)(ha:∀v,Lg (.Subscript o i pos) X.env v=(do
   let ov <-Iz [v] (eval o X.env)
   let iv <-Iz [v,ov] (eval i X.env)
   Mo pos
   Iz [v,ov,iv] (setItem ov iv v)
   release [v,ov,iv] []):=by intro _;rfl):PG X (.Subscript o i pos) (OC to ti t):=by
 intro pins s Z H v u Q I r h;rw[ha];refine Ab (Ds (bA (ho pins s Z H _ I h) λov s1 ⟨x,H1,I1,r1,q1⟩=>?_));refine Ab (Ds (bA (hi pins s1 Z H1 _ I1 q1) λiv s2 ⟨y,H2,I2,r2,q2⟩=>?_));refine Ab (Mq (Ab (Ds (bA (hs pins s2 Z H2 x y v ov iv u _ I2 r1 r2 r q2) λ_ s3 ⟨H3,I3,q3⟩=>?_))));exact wpAny_release ⟨Z,H3,I3,q3⟩
def rY(te:TE)(g:TG):TS:=λD Z H=>te Z H λx H1=>g x Z H1 D.nx
theorem OE{tg e:Expr}{te:TE}{g:TG}(he:PE X e te)(hg:PG X tg g)(hs:swapsWithSole [tg] e pos.line X.env=pure false:=by rfl)(hw:swappedStores [tg] e X.env=pure none:=by rfl)(h1:(Gg [tg] X.env).map (·.2)=[Lg tg X.env]:=by rfl):PS X (.Assign [tg] e pos) (rY te g):=by
 intro pins s Z H D I h;refine wpAny_Assign_stores (bA (he pins s Z H _ I h) λv s1 ⟨x,H1,I1,r1,q1⟩=>?_) hs hw;rw[h1];exact bA (hg pins s1 Z H1 x v _ I1 r1 q1) λ_ s2 q=>q
theorem OF{i:Nat}{x:Str}{e:Expr}{te:TE}{pos':Pos}(hN:X.N.Nodup)(hi:X.N[i]? = some x)(hx:Loc X.env.scope x)(he:PE X e te)(hs:Je e (some (.Name x pos')) pos.line X.env=pure false:=by rfl)(hf:X.fn x=true\/X.env.scope.names.lookup x=some .local:=by first|exact .inl rfl|exact .inr rfl|assumption):
  PS X (.Assign [.Name x pos'] e pos) (rY te (vU i)):=by
 intro pins s Z H D I h;refine wpAny_Assign_Name (bA (he pins s Z H _ I h) λv s1 ⟨y,H1,I1,r1,q1⟩=>?_) hs;exact DM I1 hN hi hx r1 (λs2 I2=>⟨_,H1,I2,q1⟩) hf
end
section
variable {X:Cx}{pos:Pos}
def OG(c:TT)(tb:TS):TS:=λD Z H=>∃W:Nat->St->Hp->Prop,(∃m,W m Z H)/\∀m Z H,W m Z H->
 c Z H λb H1=>if b=true then ∃N:St->Hp->Prop,(∀σ' H',N σ' H'->∃m',m'<m/\W m' σ' H')/\tb {D with nx:=N,ct:=N,bk:=D.nx} Z H1 else D.nx Z H1
theorem OH{c:Expr}{body:List Stmt}{tc:TT}{tb:TS}(hp:PassesOwn (Bn X.prog X.w) X.A X.env X.xe)(hc:PT X c tc)(hb:gE X body tb):PS X (.While c body [] pos) (OG tc tb):=by
 intro pins s Z H D I h;obtain⟨W,⟨m0,w0⟩,turn⟩:=h;refine wpAny_While (codeAny_whileLoop (λn s'=>∃σ' H',Inv X pins σ' H' s'/\W n σ' H') ?_ m0 ⟨Z,H,I,w0⟩);rintro n s1 ⟨σ1,H1,I1,w1⟩;refine Hl hp (bA (hc pins s1 σ1 H1 _ I1 (turn n σ1 H1 w1)) λb s2 ⟨H2,I2,q2⟩=>?_);cases b with
 | true=>
  obtain⟨N,hN,q2⟩:=q2;rw[if_pos rfl];refine Hl hp (bA (hb pins s2 σ1 H2 _ I2 q2) λf s3 q3=>?_);cases f with
  | next=>
   obtain⟨σ3,H3,I3,n3⟩:=q3;obtain⟨m',hm,w3⟩:=hN σ3 H3 n3;exact⟨m',hm,σ3,H3,I3,w3⟩
  | cont=>
   obtain⟨σ3,H3,I3,n3⟩:=q3;obtain⟨m',hm,w3⟩:=hN σ3 H3 n3;exact⟨m',hm,σ3,H3,I3,w3⟩
  | brk=>exact q3
  | ret v=>exact q3
 | false=>
  rw[if_neg Av];exact Ma ⟨σ1,H2,I2,q2⟩
end
structure It where
 go:Nat->Hp->Prop
 yld:Nat->Hp->V->Hp->Prop
 stop:Nat->Hp->Prop
def iC(X:Cx)(pins:List (Addr×Obj))(H:Hp)(b:Addr):Prop:=
 H b=none/\b≠X.env.locals/\b∉X.fs/\(b∈X.ex\/X.s₀.heap.objs.size<=b)/\(∀x c,X.env.cells.lookup x=some c->c≠b)/\∀p∈X.pn++pins,p.1≠b
theorem Inv.fpOk{X:Cx}{pins:List (Addr×Obj)}{Z:St}{H H':Hp}{s:Ag}{b:Addr}(I:Inv X pins Z H s)(hb:s.heap.objs.size<=b)(hn:H' b=none):iC X pins H' b:=by
 refine⟨hn,Dt (Ca I.lt hb),I.nofs hb,.inr (Au I.sz hb),λx c e z=>?_,λp hp z=>?_⟩
 .obtain⟨v,q⟩:=I.cell x c e;exact absurd (Ca q.lt (by rw[z];exact hb)) (Il _)
 .exact absurd (Ca (Aw (I.pin p hp).1) (by rw[z];exact hb)) (Il _)
structure kK(P:Bv)(w:Cp)(K:Ac)(tg:Expr)(J:It)(fp:List Addr)(it:Addr)(tn:Nat->Heap->Prop):Prop where
 mem:it∈fp
 obj:∀i h,tn i h->∀b∈fp,∃o,h.get? b=some o/\∀v,o.data≠.cell v
 keep:∀i h h',tn i h->(∀b∈fp,∀o,h.get? b=some o->h'.get? b=some o)->tn i h'
 item:∀(X:Cx),X.prog=P->X.w=w->X.K=K->X.calm=true->∀(i:Nat) (pins:List (Addr×Obj)) (s:Ag) (Z:St) (H:Hp) (E:Ae->Ag->Prop),Inv X pins Z H s->(∀b∈fp,iC X pins H b)->tn i s.heap->J.go i H->
  Bc (Bn P w) X.A (Jk (.ref it)) (λr s1=>∃u,r=some u/\
   Bc (Bn P w) X.A (Mc tg (.ref it) u) (λ_ s2=>∃x H',Inv X pins Z H' s2/\RelV x u/\J.yld i H x H'/\tn (i+1) s2.heap/\∀b∈fp,H' b=none) E s1) E s
 done:∀(X:Cx),X.prog=P->X.w=w->X.K=K->X.calm=true->∀(i:Nat) (pins:List (Addr×Obj)) (s:Ag) (Z:St) (H:Hp) (E:Ae->Ag->Prop),Inv X pins Z H s->(∀b∈fp,iC X pins H b)->tn i s.heap->J.stop i H->
  Bc (Bn P w) X.A (Jk (.ref it)) (λr s1=>r=none/\Inv X pins Z H s1) E s
 self:∀(A:Cq) (i:Nat) (s:Ag) (Q:Ae->Ag->Prop) (E:Ae->Ag->Prop),tn i s.heap->Q (.ref it) s->Bc (Bn P w) A (pyIter (.ref it)) Q E s
abbrev TI:=St->Hp->(It->Hp->Prop)->Prop
def pN(X:Cx)(pins:List (Addr×Obj))(Z:St)(tg:Expr)(R:It->Hp->Prop)(itv:Ae)(s2:Ag):Prop:=
 ∃(it:Addr) (fp:List Addr) (tn:Nat->Heap->Prop) (J:It) (H':Hp),itv=.ref it/\Inv X pins Z H' s2/\kK X.prog X.w X.K tg J fp it tn/\tn 0 s2.heap/\(∀b∈fp,iC X pins H' b)/\R J H'
def PI(X:Cx)(tg iter:Expr)(wi:TI):Prop:=
 ∀(pins:List (Addr×Obj)) (s:Ag) (Z:St) (H:Hp) (R:It->Hp->Prop),Inv X pins Z H s->wi Z H R->
  Bc (Bn X.prog X.w) X.A (eval iter X.env) (λv s1=>Bc (Bn X.prog X.w) X.A (pyIter v) (pN X pins Z tg R) X.xe s1) X.xe s
theorem rZ{M:Model}{A:Cq}{E:Ae->Ag->Prop}{s:Ag}{tg:Expr}{it:Addr}{u:Ae}{o:Obj}{n:String}{vs:Array Ae}{Q:Unit->Ag->Prop}(ho:s.heap.get? it=some o)(hc:o.cls=.type n)(hd:o.data=.fields vs)(hn : ["enumerate","zip","dict_itemiterator","dict_reverseitemiterator","odict_iterator","itertools.zip_longest","itertools.pairwise"].contains n=false)(hQ:Q () s):Bc M A (Mc tg (.ref it) u) Q E s:=by
 unfold Mc;cases tg<;>first
  | exact Aj hQ
  | (cases u<;>first
    | exact Aj hQ
    | (refine Ab (wpAny_load ho ?_)
       rw[hc,hd];show Bc M A (if (["enumerate","zip","dict_itemiterator","dict_reverseitemiterator","odict_iterator","itertools.zip_longest","itertools.pairwise"].contains n&&vs[0]?==some (Jj _))=true then _ else _) Q E s;rw[if_neg (by intro h;rw[hn,Bool.false_and]at h;cases h)];exact Aj hQ))
def oA(K:Ac)(a:Addr):It:=
 ⟨λi H=>∃xs x,bN K H a xs/\xs[i]? = some x,λi H x H'=>H'=H/\∀xs,bN K H a xs->xs[i]? = some x,λi H=>∃xs,bN K H a xs/\xs.length<=i⟩
def vV(K:Ac)(a:Addr):It:=
 ⟨λi H=>∃xs x,bW K H a xs/\xs[i]? = some x,λi H x H'=>H'=H/\∀xs,bW K H a xs->xs[i]? = some x,λi H=>∃xs,bW K H a xs/\xs.length<=i⟩
def r6(lo:Int)(n:Nat):It:=⟨λi _=>i<n,λi H x H'=>H'=H/\x=.int (lo+i),λi _=>n<=i⟩
theorem OI{P:Bv}{w:Cp}{K:Ac}{tg:Expr}(a it:Addr):kK P w K tg (oA K a) [it] it (λi h=>h.IsListIter it a i) where
 mem:=by simp
 obj:=λi h st b hb=>by
  have e:b=it:=by simpa using hb
  subst e;obtain⟨o,e,c,d⟩:=st;exact⟨o,e,λv z=>by rw[d]at z;cases z⟩
 keep:=λi h h' st k=>st.at λo e=>k it (by simp) o e
 item:=by
  intro X hP hw hK hc i pins s Z H E I hf st hg;subst hP hw hK;obtain⟨xs,x,hq,hx⟩:=hg;obtain⟨its,rv,p,hz⟩:=I.list hq;obtain⟨u,hu,ru⟩:=rv.get hx;obtain⟨f0,f1,f2,f3,f4,f5⟩:=hf it (by simp);refine wpAny_pyNext_list_item st p.isList (x:=u) (by simpa using hu) λh' st' sb=>?_;have I1:Inv X pins Z H {s with heap:=h'}:=I.turned (t':=s.toks) (λb o hb e=>(sb.2 b hb).trans e) f0 f1 f3 f4 f5;obtain⟨o,e,c,d⟩:=id st';exact⟨u,rfl,rZ (s:={s with heap:=h'}) e c d (by decide) ⟨x,H,I1,ru,⟨rfl,λys hy=>by rw[I.list_inj hy hq];exact hx⟩,st',λb hb=>(hf b hb).1⟩⟩
 done:=by
  intro X hP hw hK hc i pins s Z H E I hf st hg;subst hP hw hK;obtain⟨xs,hq,hx⟩:=hg;obtain⟨its,rv,p,hz⟩:=I.list hq;obtain⟨f0,f1,f2,f3,f4,f5⟩:=hf it (by simp);have hl:=rv.length;exact wpAny_pyNext_list_end (I.ok.hd hc) st p.isList (by simp;lia) λh' eb=>⟨rfl,I.turned (t':=s.toks) (λb o hb e=>eb b o hb e) f0 f1 f3 f4 f5⟩
 self:=λ_ _ _ _ _ st h=>wpAny_pyIter_listiter st h
theorem OJ{P:Bv}{w:Cp}{K:Ac}{tg:Expr}(a it:Addr):kK P w K tg (vV K a) [it] it (λi h=>h.IsTupleIter it a i) where
 mem:=by simp
 obj:=λi h st b hb=>by
  have e:b=it:=by simpa using hb
  subst e;obtain⟨o,e,c,d⟩:=st;exact⟨o,e,λv z=>by rw[d]at z;cases z⟩
 keep:=λi h h' st k=>st.at λo e=>k it (by simp) o e
 item:=by
  intro X hP hw hK hc i pins s Z H E I hf st hg;subst hP hw hK;obtain⟨xs,x,hq,hx⟩:=hg;obtain⟨its,rv,p,hz⟩:=I.tuple hq;obtain⟨u,hu,ru⟩:=rv.get hx;obtain⟨f0,f1,f2,f3,f4,f5⟩:=hf it (by simp);refine wpAny_pyNext_tuple_item st (show s.heap.IsTuple a its.toArray from p) (x:=u) (by simpa using hu) λh' st' sb=>?_;have I1:Inv X pins Z H {s with heap:=h'}:=I.turned (t':=s.toks) (λb o hb e=>(sb.2 b hb).trans e) f0 f1 f3 f4 f5;obtain⟨o,e,c,d⟩:=id st';exact⟨u,rfl,rZ (s:={s with heap:=h'}) e c d (by decide) ⟨x,H,I1,ru,⟨rfl,λys hy=>by rw[I.tuple_inj hy hq];exact hx⟩,st',λb hb=>(hf b hb).1⟩⟩
 done:=by
  intro X hP hw hK hc i pins s Z H E I hf st hg;subst hP hw hK;obtain⟨xs,hq,hx⟩:=hg;obtain⟨its,rv,p,hz⟩:=I.tuple hq;obtain⟨f0,f1,f2,f3,f4,f5⟩:=hf it (by simp);have hl:=rv.length;exact wpAny_pyNext_tuple_end (I.ok.hd hc) st (show s.heap.IsTuple a its.toArray from p) (by simp;lia) λh' eb=>⟨rfl,I.turned (t':=s.toks) (λb o hb e=>eb b o hb e) f0 f1 f3 f4 f5⟩
 self:=λ_ _ _ _ _ st h=>wpAny_pyIter_tupleiter st h
theorem OK{P:Bv}{w:Cp}{K:Ac}{tg:Expr}(it:Addr)(lo:Int)(n:Nat):kK P w K tg (r6 lo n) [it] it (λi h=>IsRangeIter h it (lo+(i:Nat)*1) ((n:Int)-(i:Nat)) 1) where
 mem:=by simp
 obj:=λi h st b hb=>by
  have e:b=it:=by simpa using hb
  subst e;exact⟨_,st,λv z=>by
   have z':Data.fields _=Data.cell v:=z;cases z'⟩
 keep:=λi h h' st k=>k it (by simp) _ st
 item:=by
  intro X hP hw hK hc i pins s Z H E I hf st hg;subst hP hw hK;obtain⟨f0,f1,f2,f3,f4,f5⟩:=hf it (by simp);have W:=Walks.range (prog:=X.prog) (w:=X.w) (I.ok.hd hc) it lo 1 n;refine W.item i s _ _ hg st λv h' tk hv st' kk=>?_;obtain⟨t,rfl⟩:=hv;have I1:Inv X pins Z H {s with heap:=h',toks:=tk}:=I.turned (λb o hb e=>kk b o (by simpa using hb) e) f0 f1 f3 f4 f5;refine⟨_,rfl,rZ (s:={s with heap:=h',toks:=tk}) (n:="range_iterator") st' rfl rfl (by decide) ⟨.int (lo+i),H,I1,⟨t,?_⟩,⟨rfl,rfl⟩,st',λb hb=>(hf b hb).1⟩⟩;rw[Int.mul_one]
 done:=by
  intro X hP hw hK hc i pins s Z H E I hf st hg;subst hP hw hK;obtain⟨f0,f1,f2,f3,f4,f5⟩:=hf it (by simp);exact wpAny_pyNext_range_end (I.ok.hd hc) st (by have:n<=i:=hg;lia) λh' eb=>⟨rfl,I.turned (t':=s.toks) (λb o hb e=>eb b o hb e) f0 f1 f3 f4 f5⟩
 self:=λ_ _ _ _ _ st h=>wpAny_pyIter_rangeiter st h
section
variable {X:Cx}{tg:Expr}
theorem OL{pins:List (Addr×Obj)}{Z:St}{H:Hp}{s:Ag}{R:It->Hp->Prop}{E:Ae->Ag->Prop}{lo hi:Int}{t u v:Tok}{tk:Nat}(I:Inv X pins Z H s)(h1 : -(2 ^ 62)<=lo)(h2:lo<2 ^ 62)(h3 : -(2 ^ 62)<=hi)(h4:hi<2 ^ 62)(q:R (r6 lo (hi-lo).toNat) H):Bc (Bn X.prog X.w) X.A (pyIter (.ref s.heap.objs.size)) (pN X pins Z tg R) E {s with heap:=s.heap.push {cls:=.type "range",data:=.fields #[.int lo t,.int hi u,.int 1 v]},toks:=tk}:=by
 refine wpAny_pyIter_range (IsRange.new ..) (small_one h1 h2 h3 h4) ?_;have I1:Inv X pins Z H {s with heap:=s.heap.push {cls:=.type "range",data:=.fields #[.int lo t,.int hi u,.int 1 v]},toks:=tk}:=I.kept λb o e=>Af _ e;refine⟨(s.heap.push {cls:=.type "range",data:=.fields #[.int lo t,.int hi u,.int 1 v]}).objs.size,[(s.heap.push {cls:=.type "range",data:=.fields #[.int lo t,.int hi u,.int 1 v]}).objs.size],_,_,H,rfl,
  I1.kept (t':=tk) λb o e=>Af _ e,OK _ lo (hi-lo).toNat,?_,λb hb=>?_,q⟩
 .have e1:lo+((0:Nat):Int)*1=lo:=by simp
  have e2:(((hi-lo).toNat:Nat):Int)-((0:Nat):Int)=Builtin.Range.rangeSize lo hi 1:=by rw[rangeSize_one];split<;>lia
  show IsRangeIter _ _ (lo+((0:Nat):Int)*1) ((((hi-lo).toNat:Nat):Int)-((0:Nat):Int)) 1;rw[e1,e2];exact Ay _ rfl
 .have e:b=(s.heap.push {cls:=.type "range",data:=.fields #[.int lo t,.int hi u,.int 1 v]}).objs.size:=by simpa using hb
  subst e;exact I1.fpOk (An _) (I1.hok.fresh (An _))
def OM(ta:TA):TI:=λZ H R=>ta Z H λvs H1=>∃j:Int,vs=[.int j]/\-(2 ^ 62)<=j/\j<2 ^ 62/\R (r6 0 j.toNat) H1
theorem ON{a:Expr}{ta:TA}{p pos:Pos}(hg:Gl X "range")(hm:X.mg "range" = none)(ha:PA X [a] ta)(hs:Be [a] X.env=[(false,eval a X.env)]:=by rfl):PI X tg (.Call (.Name "range" p) [a] [] pos) (OM ta):=by
 intro pins s Z H R I h;refine Call_ (kJ I hg hm boot_range (Cw (bA (ha pos pins s Z H _ I h) λus s1 ⟨vs,H1,I1,r1,q1⟩=>?_) hs rfl));obtain⟨j,e,q1,q2,q⟩:=q1;subst e;cases r1 with
 | cons r rr=>
  cases rr;obtain⟨t,rfl⟩:=r;exact call_range_1 (OL I1 (by lia) (by lia) q1 q2 (by simpa using q))
def OO(wi:TI)(g:TG)(tb:TS):TS:=λD Z H=>wi Z H λJ H1=>∃W:Nat->Nat->St->Hp->Prop,(∃m,W 0 m Z H1)/\∀i m Z H,W i m Z H->
 (J.stop i H/\D.nx Z H)\/(J.go i H/\∃N:St->Hp->Prop,(∀σ' H',N σ' H'->∃m',m'<m/\W (i+1) m' σ' H')/\∀x H',J.yld i H x H'->g x Z H' λσ2 H2=>tb {D with nx:=N,ct:=N,bk:=D.nx} σ2 H2)
def pO(fp:List Addr)(h:Heap):List (Addr×Obj):=fp.filterMap λb=>(h.get? b).map λo=>(b,o)
theorem r9{fp:List Addr}{h:Heap}{b:Addr}{o:Obj}(hb:b∈fp)(e:h.get? b=some o):(b,o)∈pO fp h:=Im.mpr ⟨b,hb,by rw[e];rfl⟩
theorem OP{fp:List Addr}{h:Heap}{p:Addr×Obj}(hp:p∈pO fp h):p.1∈fp/\h.get? p.1=some p.2:=by
 obtain⟨b,hb,e⟩:=Im.mp hp;cases q:h.get? b with
 | none=>rw[q]at e;cases e
 | some o=>
  rw[q]at e;have e':(b,o)=p:=Cj e;subst e';exact⟨hb,q⟩
theorem Inv.pinned{pins:List (Addr×Obj)}{Z:St}{H:Hp}{s:Ag}{fp:List Addr}(I:Inv X pins Z H s)(hf:∀b∈fp,iC X pins H b)(ho:∀b∈fp,∃o,s.heap.get? b=some o/\∀v,o.data≠.cell v):Inv X (pins++pO fp s.heap) Z H s:=
 I.pins_of λp hp=>(Bj.mp hp).elim (λz=>I.pin p (Cf _ z)) λz=>by
  obtain⟨hb,e⟩:=OP z;obtain⟨f0,f1,f2,_⟩:=hf p.1 hb;obtain⟨o,e',d⟩:=ho p.1 hb;rw[e]at e';cases e';exact⟨e,f0,f1,f2,d⟩
theorem Inv.unpinned{pins pl:List (Addr×Obj)}{Z:St}{H:Hp}{s:Ag}(I:Inv X (pins++pl) Z H s):Inv X pins Z H s:=I.pins_of λp hp=>I.pin p (Cf _ (Bu _ hp))
theorem OQ{iter:Expr}{body:List Stmt}{wi:TI}{g:TG}{tb:TS}{pos:Pos}(hp:PassesOwn (Bn X.prog X.w) X.A X.env X.xe)(hc:X.calm=true)(hi:PI X tg iter wi)(hg:PG X tg g)(hb:gE X body tb)(hs:∀x,Gm iter X.env x=pure x:=by intro _;rfl):PS X (.For tg iter body [] pos) (OO wi g tb):=by
 intro pins s Z H D I h;refine wpAny_For (bA (hi pins s Z H _ I h) λv s1 h1=>bA h1 λitv s2 h2=>?_) hs;obtain⟨it,fp,tn,J,H2,e,I2,T,st2,f2,W,⟨m0,w0⟩,turn⟩:=h2;subst e;have stat:∀{H':Hp},(∀b∈fp,H' b=none)->∀b∈fp,iC X pins H' b:=λhn b hb=>⟨hn b hb,(f2 b hb).2⟩
 refine codeAny_forLoop_any (λn s'=>∃i σ' H',Inv X pins σ' H' s'/\tn i s'.heap/\(∀b∈fp,H' b=none)/\W i n σ' H') ?_ m0 ⟨0,Z,H2,I2,st2,λb hb=>(f2 b hb).1,w0⟩;rintro n s3 ⟨i,σ3,H3,I3,st3,fr3,w3⟩;rcases turn i n σ3 H3 w3 with⟨stop,qn⟩|⟨go,N,hN,step⟩
 .refine Hl hp (bA (T.done X rfl rfl rfl hc i pins s3 σ3 H3 X.xe I3 (stat fr3) st3 stop) λr s4 ⟨hr,I4⟩=>?_);subst hr;exact Ma ⟨σ3,H3,I4,qn⟩
 .refine Hl hp (bA (T.item X rfl rfl rfl hc i pins s3 σ3 H3 X.xe I3 (stat fr3) st3 go) λr s4 ⟨u,hr,h4⟩=>?_);subst hr;refine Hl hp (bA h4 λ_ s5 ⟨x,H5,I5,r5,y5,st5,fr5⟩=>?_);have I5':=I5.pinned (stat fr5) (T.obj _ _ st5);refine Hl hp (bA (hg _ s5 σ3 H5 x u _ I5' r5 (step x H5 y5)) λ_ s6 ⟨σ6,H6,I6,q6⟩=>?_);refine Hl hp (bA (hb _ s6 σ6 H6 _ I6 q6) λf s7 q7=>?_);have again:∀{σ7:St} {H7:Hp},Inv X (pins++pO fp s5.heap) σ7 H7 s7->N σ7 H7->∃m,m<n/\∃i σ' H',Inv X pins σ' H' s7/\tn i s7.heap/\(∀b∈fp,H' b=none)/\W i m σ' H':=λ{σ7 H7} I7 n7=>by
   obtain⟨m',hm,w7⟩:=hN σ7 H7 n7;refine⟨m',hm,i+1,σ7,H7,I7.unpinned,T.keep _ _ _ st5 λb hb o e=>(I7.pin (b,o) (Cf _ (Cf _ (r9 hb e)))).1,λb hb=>?_,w7⟩;obtain⟨o,e,d⟩:=T.obj _ _ st5 b hb;exact(I7.pin (b,o) (Cf _ (Cf _ (r9 hb e)))).2.1
  cases f with
  | next=>obtain⟨σ7,H7,I7,n7⟩:=q7;exact again I7 n7
  | cont=>obtain⟨σ7,H7,I7,n7⟩:=q7;exact again I7 n7
  | brk=>obtain⟨σ7,H7,I7,q7⟩:=q7;exact⟨σ7,H7,I7.unpinned,q7⟩
  | ret v=>obtain⟨x7,σ7,H7,I7,r7,q7⟩:=q7;exact⟨x7,σ7,H7,I7.unpinned,r7,q7⟩
end
abbrev R2:=V->V->Hp->VK->Prop
def bG(X:Cx)(f:Ae->Ae->Sem Ae)(r:R2):Prop:=
 ∀(pins:List (Addr×Obj)) (s:Ag) (Z:St) (H:Hp) (x y:V) (v u:Ae) (Q:VK),Inv X pins Z H s->RelV x v->RelV y u->r x y H Q->
  Bc (Bn X.prog X.w) X.A (f v u) (EP X pins Z Q) X.xe s
def pP(X:Cx)(f:Ae->Sem Ae)(r:V->Hp->VK->Prop):Prop:=
 ∀(pins:List (Addr×Obj)) (s:Ag) (Z:St) (H:Hp) (x:V) (v:Ae) (Q:VK),Inv X pins Z H s->RelV x v->r x H Q->
  Bc (Bn X.prog X.w) X.A (f v) (EP X pins Z Q) X.xe s
def dR(X:Cx)(f:Ae)(r:List V->Hp->VK->Prop):Prop:=
 ∀(pins:List (Addr×Obj)) (s:Ag) (Z:St) (H:Hp) (xs:List V) (us:List Ae) (Q:VK),Inv X pins Z H s->a8 xs us->r xs H Q->
  Bc (Bn X.prog X.w) X.A (call f us) (EP X pins Z Q) X.xe s
def OR(X:Cx)(r:V->Hp->(Bool->Hp->Prop)->Prop):Prop:=
 ∀(pins:List (Addr×Obj)) (s:Ag) (Z:St) (H:Hp) (x:V) (v:Ae) (Q:Bool->Hp->Prop),Inv X pins Z H s->RelV x v->r x H Q->
  Bc (Bn X.prog X.w) X.A (truthy v) (TP X pins Z Q) X.xe s
def pQ(r:R2)(ta tb:TE):TE:=λZ H Q=>ta Z H λx H1=>tb Z H1 λy H2=>r x y H2 Q
def OS(r:V->Hp->VK->Prop)(ta:TE):TE:=λZ H Q=>ta Z H λx H1=>r x H1 Q
def rI(C:Int->Int->Prop)(g:Int->Int->V):R2:=λx y H Q=>∃i j,x=.int i/\y=.int j/\C i j/\Q (g i j) H
def lL(g:Int->Int->V):R2:=λx y H Q=>∃i j,x=.int i/\y=.int j/\Q (g i j) H
def rU(g:Int->V):V->Hp->VK->Prop:=λx H Q=>∃i,x=.int i/\Q (g i) H
section
variable {X:Cx}{a b c:Expr}{ta tb tc:TE}{pos:Pos}
theorem vW(ha:PE X a ta)(hb:PE X b tb){pins:List (Addr×Obj)}{s:Ag}{Z:St}{H:Hp}{R:V->V->Hp->Prop}(I:Inv X pins Z H s)(h:ta Z H λx H1=>tb Z H1 λy H2=>R x y H2){Q:Ae->Ag->Prop}{f:Ae->Ae->Sem Ae}(hf:∀v u s2 x y H2,Inv X pins Z H2 s2->RelV x v->RelV y u->R x y H2->Bc (Bn X.prog X.w) X.A (f v u) Q X.xe s2):
  Bc (Bn X.prog X.w) X.A (eval a X.env) (λv s₁=>Bc (Bn X.prog X.w) X.A (eval b X.env) (λu s₂=>Bc (Bn X.prog X.w) X.A (f v u) Q X.xe s₂) X.xe s₁) X.xe s:=by
 refine bA (ha pins s Z H _ I h) λv s1 ⟨x,H1,I1,r1,q1⟩=>?_;refine bA (hb pins s1 Z H1 _ I1 q1) λu s2 ⟨y,H2,I2,r2,q2⟩=>?_;exact hf v u s2 x y H2 I2 r1 r2 q2
theorem OT{op:Operator}{r:R2}(ho:bG X (Ff op) r)(ha:PE X a ta)(hb:PE X b tb):PE X (.BinOp a op b pos) (pQ r ta tb):=by
 intro pins s Z H Q I h;exact wpAny_BinOp (vW ha hb I h λv u s2 x y H2 I2 rx ry q=>ho pins s2 Z H2 x y v u Q I2 rx ry q)
theorem OU{op:UnaryOp}{r:V->Hp->VK->Prop}(ho:pP X (unaryOp op) r)(ha:PE X a ta):PE X (.UnaryOp op a pos) (OS r ta):=by
 intro pins s Z H Q I h;exact UnaryOp_ (bA (ha pins s Z H _ I h) λv s1 ⟨x,H1,I1,r1,q1⟩=>ho pins s1 Z H1 x v Q I1 r1 q1)
theorem pR{f:Ae->Ae->Sem Ae}{C:Int->Int->Prop}{g:Int->Int->Int}(rule:∀(i j:Int) (t u:Tok) (s:Ag) (Q:Ae->Ag->Prop) (E:Ae->Ag->Prop),C i j->Q (.int (g i j) s.toks) {s with toks:=s.toks+1}->Bc (Bn X.prog X.w) X.A (f (.int i t) (.int j u)) Q E s):
  bG X f (rI C λi j=>.int (g i j)):=by
 intro pins s Z H x y v u Q I rx ry h;obtain⟨i,j,rfl,rfl,hc,q⟩:=h;obtain⟨t,rfl⟩:=rx;obtain⟨t',rfl⟩:=ry;exact rule i j t t' s _ _ hc ⟨.int (g i j),H,I.tok _,⟨_,rfl⟩,q⟩
theorem DN{f:Ae->Ae->Sem Ae}{g:Int->Int->Int}(rule:∀(i j:Int) (t u:Tok) (s:Ag) (Q:Ae->Ag->Prop) (E:Ae->Ag->Prop),Q (.int (g i j) s.toks) {s with toks:=s.toks+1}->Bc (Bn X.prog X.w) X.A (f (.int i t) (.int j u)) Q E s):
  bG X f (lL λi j=>.int (g i j)):=by
 intro pins s Z H x y v u Q I rx ry h;obtain⟨i,j,rfl,rfl,q⟩:=h;obtain⟨t,rfl⟩:=rx;obtain⟨t',rfl⟩:=ry;exact rule i j t t' s _ _ ⟨.int (g i j),H,I.tok _,⟨_,rfl⟩,q⟩
theorem sA{f:Ae->Ae->Sem Ae}{g:Int->Int->Bool}(rule:∀(i j:Int) (t u:Tok) (s:Ag) (Q:Ae->Ag->Prop) (E:Ae->Ag->Prop),Q (.bool (g i j)) s->Bc (Bn X.prog X.w) X.A (f (.int i t) (.int j u)) Q E s):
  bG X f (lL λi j=>.bl (g i j)):=by
 intro pins s Z H x y v u Q I rx ry h;obtain⟨i,j,rfl,rfl,q⟩:=h;obtain⟨t,rfl⟩:=rx;obtain⟨t',rfl⟩:=ry;exact rule i j t t' s _ _ ⟨.bl (g i j),H,I,rfl,q⟩
def DO(i j:Int):Prop:=0<=j/\j<=1000000/\i.natAbs<2 ^ 64
def oB(i j:Int):Prop:=(-(2 ^ 64)<i/\i<2 ^ 64)\/(-(2 ^ 64)<j/\j<2 ^ 64)
theorem oB.ok{i j:Int}(h:oB i j):IntMulOk i j:=by
 rcases h with⟨h1,h2⟩|⟨h1,h2⟩
 .exact .of_left (intBits_le_64 h1 h2)
 .exact .of_right (intBits_le_64 h1 h2)
theorem OV:bG X (Ff .Add) (lL λi j=>.int (i+j)):=DN λ_ _ _ _ _ _ _ q=>add_int q
theorem OW:bG X (Ff .Sub) (lL λi j=>.int (i-j)):=DN λ_ _ _ _ _ _ _ q=>sub_int q
theorem OX:bG X (Ff .Mult) (rI oB λi j=>.int (i*j)):=pR λ_ _ _ _ _ _ _ hc q=>mul_int q hc.ok
theorem OY:bG X (Ff .Mod) (rI (λ_ j=>0<j) λi j=>.int (i % j)):=pR λi j _ _ _ _ _ hc q=>by
 have h1:(0:Int)<j:=hc;exact mod_int' (by lia) (by rw[Int.fmod_eq_emod_of_nonneg i (by lia)];exact q)
theorem OZ:bG X (Ff .Pow) (rI DO λi j=>.int (i ^ j.toNat)):=pR λ_ _ _ _ _ _ _ hc q=>pow_int_small hc.1 hc.2.1 hc.2.2 q
theorem O0{f:Ae->Sem Ae}{g:Int->Int}(rule:∀(i:Int) (t:Tok) (s:Ag) (Q:Ae->Ag->Prop) (E:Ae->Ag->Prop),Q (.int (g i) s.toks) {s with toks:=s.toks+1}->Bc (Bn X.prog X.w) X.A (f (.int i t)) Q E s):
  pP X f (rU λi=>.int (g i)):=by
 intro pins s Z H x v Q I rx h;obtain⟨i,rfl,q⟩:=h;obtain⟨t,rfl⟩:=rx;exact rule i t s _ _ ⟨.int (g i),H,I.tok _,⟨_,rfl⟩,q⟩
theorem O3:pP X (unaryOp .USub) (rU λi=>.int (-i)):=O0 λ_ _ _ _ _ q=>neg_int q
end
def sC:V->V->Bool
 | .non,.non=>true|.non,.int _=>true|.int _,.non=>true|.non,.bl _=>true|.bl _,.non=>true|.non,.str _=>true|.str _,.non=>true
 | .int _,.int _=>true|.bl _,.bl _=>true|.str _,.str _=>true|.byt _,.byt _=>true
 | .int _,.str _=>true|.str _,.int _=>true|.bl _,.str _=>true|.str _,.bl _=>true
 | _,_=>false
def rEq:R2:=λx y H Q=>sC x y=true/\Q (.bl (decide (x=y))) H
def O4:R2:=λx y H Q=>sC x y=true/\Q (.bl (!decide (x=y))) H
theorem DP{i j:Int}:decide (V.int i=V.int j)=(i==j):=by
 rw[Du];simp
theorem DQ{i j:Bool}:decide (V.bl i=V.bl j)=(i==j):=by
 rw[Du];simp
theorem DR{i j:Str}:decide (V.str i=V.str j)=(i==j):=by
 rw[Du];simp
theorem DS{i j:Array UInt8}:decide (V.byt i=V.byt j)=(i.toList==j.toList):=by
 rw[Du];cases i;cases j;simp
section
variable {X:Cx}{a b c:Expr}{ta tb tc:TE}{pos:Pos}
theorem dD{pins:List (Addr×Obj)}{Z:St}{H:Hp}{s:Ag}{Q:VK}{k k':Bool}(I:Inv X pins Z H s)(q:Q (.bl k) H)(e:k=k'):EP X pins Z Q (.bool k') s:=by
 subst e;exact⟨.bl k,H,I,rfl,q⟩
theorem O5:bG X (Cb .Eq) rEq:=by
 intro pins s Z H x y v u Q I rx ry h;obtain⟨hs,q⟩:=h;cases x with
 | non=>
  cases rx;cases y with
  | non=>cases ry;exact PySem.EqNone.eq_none_none (dD I q (by simp))
  | bl j=>cases ry;exact PySem.EqNone.eq_none_bool (dD I q (by simp))
  | int j=>obtain⟨t',rfl⟩:=ry;exact PySem.EqNone.eq_none_int (dD I q (by simp))
  | str j=>obtain⟨t',rfl⟩:=ry;exact PySem.EqNone.eq_none_str (dD I q (by simp))
  | _=>exact absurd (show false=true from hs) Av
 | bl i=>
  cases rx;cases y with
  | non=>cases ry;exact PySem.EqNone.eq_bool_none (dD I q (by simp))
  | bl j=>cases ry;exact eq_bool (dD I q DQ)
  | str j=>obtain⟨t',rfl⟩:=ry;exact PySem.EqMixed.eq_bool_str (dD I q (by simp))
  | _=>exact absurd (show false=true from hs) Av
 | int i=>
  obtain⟨t,rfl⟩:=rx;cases y with
  | non=>cases ry;exact PySem.EqNone.eq_int_none (dD I q (by simp))
  | int j=>obtain⟨t',rfl⟩:=ry;exact eq_int (dD I q DP)
  | str j=>obtain⟨t',rfl⟩:=ry;exact PySem.EqMixed.eq_int_str (dD I q (by simp))
  | _=>exact absurd (show false=true from hs) Av
 | str i=>
  obtain⟨t,rfl⟩:=rx;cases y with
  | non=>cases ry;exact PySem.EqNone.eq_str_none (dD I q (by simp))
  | bl j=>cases ry;exact PySem.EqMixed.eq_str_bool (dD I q (by simp))
  | int j=>obtain⟨t',rfl⟩:=ry;exact PySem.EqMixed.eq_str_int (dD I q (by simp))
  | str j=>obtain⟨t',rfl⟩:=ry;exact eq_str (dD I q DR)
  | _=>exact absurd (show false=true from hs) Av
 | byt i=>
  obtain⟨t,rfl⟩:=rx;cases y with
  | byt j=>obtain⟨t',rfl⟩:=ry;exact PySem.W.eq_bytes (dD I q DS)
  | _=>exact absurd (show false=true from hs) Av
 | _=>cases y<;>exact absurd (show false=true from hs) Av
theorem O6:bG X (Cb .NotEq) O4:=by
 intro pins s Z H x y v u Q I rx ry h;obtain⟨hs,q⟩:=h;cases x with
 | non=>
  cases rx;cases y with
  | non=>cases ry;exact PySem.EqNone.ne_none_none (dD I q (by simp))
  | bl j=>cases ry;exact PySem.EqNone.ne_none_bool (dD I q (by simp))
  | int j=>obtain⟨t',rfl⟩:=ry;exact PySem.EqNone.ne_none_int (dD I q (by simp))
  | str j=>obtain⟨t',rfl⟩:=ry;exact PySem.EqNone.ne_none_str (dD I q (by simp))
  | _=>exact absurd (show false=true from hs) Av
 | bl i=>
  cases rx;cases y with
  | non=>cases ry;exact PySem.EqNone.ne_bool_none (dD I q (by simp))
  | bl j=>cases ry;exact ne_bool (dD I q (congrArg not DQ))
  | str j=>obtain⟨t',rfl⟩:=ry;exact PySem.EqMixed.ne_bool_str (dD I q (by simp))
  | _=>exact absurd (show false=true from hs) Av
 | int i=>
  obtain⟨t,rfl⟩:=rx;cases y with
  | non=>cases ry;exact PySem.EqNone.ne_int_none (dD I q (by simp))
  | int j=>obtain⟨t',rfl⟩:=ry;exact ne_int (dD I q (congrArg not DP))
  | str j=>obtain⟨t',rfl⟩:=ry;exact PySem.EqMixed.ne_int_str (dD I q (by simp))
  | _=>exact absurd (show false=true from hs) Av
 | str i=>
  obtain⟨t,rfl⟩:=rx;cases y with
  | non=>cases ry;exact PySem.EqNone.ne_str_none (dD I q (by simp))
  | bl j=>cases ry;exact PySem.EqMixed.ne_str_bool (dD I q (by simp))
  | int j=>obtain⟨t',rfl⟩:=ry;exact PySem.EqMixed.ne_str_int (dD I q (by simp))
  | str j=>obtain⟨t',rfl⟩:=ry;exact ne_str (dD I q (congrArg not DR))
  | _=>exact absurd (show false=true from hs) Av
 | byt i=>
  obtain⟨t,rfl⟩:=rx;cases y with
  | byt j=>obtain⟨t',rfl⟩:=ry;exact PySem.W.ne_bytes (dD I q (congrArg not DS))
  | _=>exact absurd (show false=true from hs) Av
 | _=>cases y<;>exact absurd (show false=true from hs) Av
theorem O7:bG X (Cb .Lt) (lL λi j=>.bl (decide (i<j))):=sA λ_ _ _ _ _ _ _ q=>lt_int q
theorem O8:bG X (Cb .LtE) (lL λi j=>.bl (decide (i<=j))):=sA λ_ _ _ _ _ _ _ q=>le_int q
theorem O9:bG X (Cb .Gt) (lL λi j=>.bl (decide (j<i))):=sA λ_ _ _ _ _ _ _ q=>gt_int q
theorem PB:bG X (Cb .GtE) (lL λi j=>.bl (decide (j<=i))):=sA λ_ _ _ _ _ _ _ q=>ge_int q
theorem PC:bG X (Cb .In) (λx y H Q=>∃i j,x=.str i/\y=.str j/\Q (.bl (!(Kd j i 0 j.length 1).isEmpty)) H):=by
 intro pins s Z H x y v u Q I rx ry h;obtain⟨i,j,rfl,rfl,q⟩:=h;obtain⟨t,rfl⟩:=rx;obtain⟨t',rfl⟩:=ry;exact in_str (dD I q rfl)
theorem PD:bG X (Cb .Is) (λx y H Q=>y=.non/\Q (.bl (decide (x=.non))) H):=by
 intro pins s Z H x y v u Q I rx ry h;obtain⟨rfl,q⟩:=h;cases ry;refine is_none_gen (dD I q ?_);cases x<;>first
  | (cases rx;rfl)
  | (obtain⟨t,rfl⟩:=rx;rfl)
theorem PF:bG X (Cb .NotIn) (λx y H Q=>∃i j,x=.str i/\y=.str j/\Q (.bl (!(!(Kd j i 0 j.length 1).isEmpty))) H):=by
 intro pins s Z H x y v u Q I rx ry h;obtain⟨i,j,rfl,rfl,q⟩:=h;obtain⟨t,rfl⟩:=rx;obtain⟨t',rfl⟩:=ry;exact notIn_str (dD I q rfl)
theorem bG.or{f:Ae->Ae->Sem Ae}{r r':R2}(h:bG X f r)(h':bG X f r'):bG X f (λx y H Q=>r x y H Q\/r' x y H Q):=by
 intro pins s Z H x y v u Q I rx ry q;rcases q with q|q
 .exact h pins s Z H x y v u Q I rx ry q
 .exact h' pins s Z H x y v u Q I rx ry q
theorem DT(b:Expr){op:CmpOp}(h:op≠.In:=by decide)(h2:op≠.NotIn:=by decide):Hm op b=false:=by
 have e1:(op==CmpOp.In)=false:=by cases op<;>first|rfl|exact absurd rfl h
 have e2:(op==CmpOp.NotIn)=false:=by cases op<;>first|rfl|exact absurd rfl h2
 cases b<;>simp[Hm,e1,e2]
theorem PH{op:CmpOp}{r:R2}(ho:bG X (Cb op) r)(ha:PE X a ta)(hb:PE X b tb)(hm:Hm op b=false):PE X (.Compare a [op] [b] pos) (pQ r ta tb):=by
 intro pins s Z H Q I h;exact wpAny_Compare1 (vW ha hb I h λv u s2 x y H2 I2 rx ry q=>ho pins s2 Z H2 x y v u Q I2 rx ry q) hm
def DU(t:TE):TT:=λZ H Q=>t Z H λx H'=>∃k,x=.bl k/\Q k H'
theorem PJ{op:CmpOp}{r:R2}(ho:bG X (Cb op) r)(ha:PE X a ta)(hb:PE X b tb)(hm:Hm op b=false):PT X (.Compare a [op] [b] pos) (DU (pQ r ta tb)):=by
 intro pins s Z H Q I h;refine wpAny_isTrue_Compare1 (bA (ha pins s Z H _ I h) λv s1 ⟨x,H1,I1,r1,q1⟩=>bA (hb pins s1 Z H1 _ I1 q1) λu s2 ⟨y,H2,I2,r2,q2⟩=>
  bA (ho pins s2 Z H2 x y v u _ I2 r1 r2 q2) λc s3 ⟨z,H3,I3,r3,k,e,q3⟩=>?_) hm
 subst e;cases r3;exact Gk ⟨H3,I3,q3⟩
def DV(r r':R2)(ta tb tc:TE):TE:=λZ H Q=>ta Z H λx H1=>tb Z H1 λy H2=>r x y H2 λz H3=>∃k,z=.bl k/\
 (if k=true then tc Z H3 λw' H4=>r' y w' H4 Q else Q (.bl false) H3)
theorem PK{op op':CmpOp}{r r':R2}(ho:bG X (Cb op) r)(ho':bG X (Cb op') r')(ha:PE X a ta)(hb:PE X b tb)(hc:PE X c tc)(hm:lastMarks [op,op'] [b,c]=false:=by with_unfolding_all rfl):PT X (.Compare a [op,op'] [b,c] pos) (DU (DV r r' ta tb tc)):=by
 intro pins s Z H Q I h;refine isTrue_chain (bA (ha pins s Z H _ I h) λv s1 ⟨x,H1,I1,r1,q1⟩=>test_link (bA (hb pins s1 Z H1 _ I1 q1) λu s2 ⟨y,H2,I2,r2,q2⟩=>
  bA (ho pins s2 Z H2 x y v u _ I2 r1 r2 q2) λd s3 ⟨z,H3,I3,r3,k,e,q3⟩=>?_)) hm
 subst e;cases r3;refine Gk ?_;cases k with
 | false=>
  obtain⟨k',e',q'⟩:=q3;cases e';exact ite_ff ⟨H3,I3,q'⟩
 | true=>
  refine ite_tt (test_last (bA (hc pins s3 Z H3 _ I3 q3) λw' s4 ⟨z',H4,I4,r4,q4⟩=>bA (ho' pins s4 Z H4 y z' u w' _ I4 r2 r4 q4) λd' s5 ⟨z2,H5,I5,r5,k2,e2,q5⟩=>?_));subst e2;cases r5;exact Gk ⟨H5,I5,q5⟩
def DW(K:Ac)(x:V)(H:Hp)(k:Bool):Prop:=
 match x with
 | .non=>k=false
 | .bl b=>k=b
 | .int i=>k=(i !=0)
 | .str y=>y.length<=Am/\k=((y.length:Int) !=0)
 | .byt y=>y.size<=Am/\k=((y.size:Int) !=0)
 | .ref p=>(∃xs,bN K H p xs/\k = !xs.isEmpty)\/(∃xs,bW K H p xs/\k = !xs.isEmpty)\/∃kvs,H p=some (.dK kvs)/\k = !kvs.isEmpty
 | _=>False
theorem PL{U:Type}{kvs:List (U×V)}{vs:List (U×Ae)}(r:KV kvs vs):(!vs.isEmpty) = !kvs.isEmpty:=by
 cases r<;>rfl
theorem DX{xs:List V}{its:List Ae}(r:a8 xs its):(!its.toArray.isEmpty) = !xs.isEmpty:=by
 cases r<;>simp
theorem nC:(Am:Nat)<2 ^ 63:=by rw[Lb];decide
theorem PM:OR X (λx H Q=>∃k,DW X.K x H k/\Q k H):=by
 intro pins s Z H x v Q I rx h;obtain⟨k,e,q⟩:=h;have hl:=nC;have hs:Am=16777216:=Lb;cases x with
 | non=>
  cases rx;have e':k=false:=e;subst e';exact truthy_none ⟨H,I,q⟩
 | bl b=>
  cases rx;have e':k=b:=e;subst e';exact Gk ⟨H,I,q⟩
 | int i=>
  obtain⟨t,rfl⟩:=rx;have e':k=(i !=0):=e;subst e';exact PySem.P.truthy_int ⟨H,I,q⟩
 | str y=>
  obtain⟨t,rfl⟩:=rx;obtain⟨hy,e'⟩:y.length<=Am/\k=((y.length:Int) !=0):=e;subst e';exact PySem.P.truthy_str (by lia) ⟨H,I.tok _,q⟩
 | byt y=>
  obtain⟨t,rfl⟩:=rx;obtain⟨hy,e'⟩:y.size<=Am/\k=((y.size:Int) !=0):=e;subst e';exact PySem.W.truthy_bytes (by lia) ⟨H,I.tok _,q⟩
 | ref p=>
  cases rx;have e':(∃xs,bN X.K H p xs/\k = !xs.isEmpty)\/(∃xs,bW X.K H p xs/\k = !xs.isEmpty)\/∃kvs,H p=some (.dK kvs)/\k = !kvs.isEmpty:=e;rcases e' with⟨xs,hx,e'⟩|⟨xs,hx,e'⟩|⟨kvs,hx,e'⟩
  .subst e';obtain⟨its,r,pl,hz⟩:=I.list hx;have hlen:=r.length;exact wpAny_truthy_list pl.isList (by simp only[Ax];lia) ⟨H,I.tok _,by rw[DX r];exact q⟩
  .subst e';obtain⟨its,r,pl,hz⟩:=I.tuple hx;have hlen:=r.length;exact truthy_tuple pl (by simp only[Ax];lia) ⟨H,I.tok _,by rw[DX r];exact q⟩
  .subst e';obtain⟨hz,hS,vs,r,m⟩:kvs.length<=Am/\(p==Fq)=false/\∃vs,KV kvs vs/\s.heap.DictOf (d6 X.prog X.w) p vs:=I.hok p _ hx;have hlen:kvs.length=vs.length:=Eg r;exact wpAny_truthy_dict hS m (by lia) ⟨H,I.tok _,by rw[PL r];exact q⟩
 | _=>exact(show False from e).elim
theorem PN(ha:PE X a ta)(he:∀whole,isTrue a X.env whole=(do let v <-whole;Mo a.pos;Iz [v] (truthy v))):
  PT X a (λZ H Q=>ta Z H λx H'=>∃k,DW X.K x H' k/\Q k H'):=by
 intro pins s Z H Q I h;exact isTrue_plain (bA (ha pins s Z H _ I h) λv s1 ⟨x,H1,I1,r1,q1⟩=>PM pins s1 Z H1 x v Q I1 r1 q1) (he _)
theorem vals1{x:V}{us:List Ae}(r:a8 [x] us):∃u,us=[u]/\RelV x u:=by
 cases r with
 | cons r1 r2=>cases r2;exact⟨_,rfl,r1⟩
theorem vals2{x y:V}{us:List Ae}(r:a8 [x,y] us):∃u w',us=[u,w']/\RelV x u/\RelV y w':=by
 cases r with
 | cons r1 r2=>
  cases r2 with
  | cons r3 r4=>cases r4;exact⟨_,_,rfl,r1,r3⟩
end
structure nD(h:Heap)(x dx C:Addr)(mA:Str->Option Ae):Prop where
 obj:h.get? x=some (Ga C dx)
 ns:h.Ns1 dx mA
 ne:dx≠x
theorem PQ{h:Heap}{dx:Addr}{mA:Str->Option Ae}(n:h.Ns1 dx mA):∃od,h.get? dx=some od/\∀name,Lh name od=some (mA name):=by
 obtain⟨o,es,ep,ho,hd,hk,_,hm⟩:=n;refine⟨o,ho,λname=>?_⟩;have e:=hm name;unfold nsFind findBy at e;rw[<-Array.find?_toList]at e;unfold Lh;rw[hd];dsimp only;split
 .rename_i y q;rw[q]at e;exact congrArg some e
 .rename_i q;rw[q]at e;have a:es.toList.any (·.refKey)=false:=by
   rw[List.any_eq_false];intro y hy;obtain⟨z,t,hkey⟩:=hk y (Array.mem_toList_iff.mp hy);simp[DictEntry.refKey,hkey]
  have a':¬es.toList.any (·.refKey)=true:=by rw[a];exact Av
  rw[if_neg a'];exact congrArg some e
theorem nD.look{h:Heap}{x dx C:Addr}{mA:Str->Option Ae}(I:nD h x dx C mA):∃od,PySem.W.InstAt h x (Ga C dx) C (some od)/\∀name,Lh name od=some (mA name):=
 let ⟨od,ho,hl⟩:=PQ I.ns
 ⟨od,⟨I.obj,rfl,rfl,ho⟩,hl⟩
section
variable {prog:Bv}{w:Cp}{A:Cq}{E:Ae->Ag->Prop}{s:Ag}{K:Ac}{x dx C f:Addr}{mA:Str->Option Ae}{name:Str}{v:Ae}
theorem PR{expr:Bool}{Q:Ae->Ag->Prop}(X:K.In s.heap)(I:nD s.heap x dx C mA)(hg:Ko K C name=true)(hh:PySem.W.hasDictIn K C=true)(ha:Cg K (.ref C) name=some none)(hv:mA name=some v)(hv':PySem.W.handedIn v=true)(h:Q v {s with toks:=s.toks+1}):
  Bc (Bn prog w) A (getAttr (.ref x) name expr) Q E s:=by
 obtain⟨od,J,hl⟩:=I.look;exact PySem.W.get_value X J (Ll hg).1 (PySem.W.findObj_own hh ha rfl (by rw[hl,hv])) hv' h
theorem PU{pl:Sem Bool}{Q:Ae×List Ae->Ag->Prop}(X:K.In s.heap)(I:nD s.heap x dx C mA)(hg:Ko K C name=true)(hf:Cg K (.ref C) name=some (some (.ref f)))(ht:Kt K (.ref f)=true)(hv:mA name=none)(h:Q (.ref f,[.ref x]) s):
  Bc (Bn prog w) A (Mp (.ref x) name pl) Q E s:=by
 obtain⟨od,J,hl⟩:=I.look;exact PySem.W.method_fn X J (Ll hg).1 (Ll hg).2 hf (beq_iff_eq.mp ht) (by show(Lh name od).map (·.isSome)=some false;rw[hl,hv];rfl) h
theorem PV{ns:List Str}{Q:Unit->Ag->Prop}(X:K.In s.heap)(I:nD s.heap x dx C mA)(hs:Cg K (.ref C) "__setattr__" = some (some (.builtin "object.__setattr__")))(hp:PySem.W.plainOver K C=true)(ht:PySem.W.takerIn K C name=some none)(hh:PySem.W.hasDictIn K C=true)(hw:PySem.Within mA ns)(hsz:ns.length<=Am)(h:∀h',nD h' x dx C (λy=>if y=name then some v else mA y)->Eo dx s.heap h'->Q () {s with heap:=h',toks:=s.toks+2}):
  Bc (Bn prog w) A (setAttr (.ref x) name v) Q E s:=by
 obtain⟨od,J,hl⟩:=I.look;refine PySem.W.set_plain X J hs (PySem.W.osa_open (s:={s with toks:=s.toks+1}) (r:=none) X J hp ht λb=>?_);obtain⟨cd,hc,hd'⟩:=PySem.W.any_some hh;have hx:s.heap.get? x=some ⟨.ref C,some dx,.plain,#[]⟩:=I.obj;refine Ab (Aj (Ab (Ab (wpAny_loadPart hx (Ab (PySem.W.Looks.here (s:={s with toks:=s.toks+1}) (PySem.W.looks_clsIn X hc) ?_))))));rw[hd'];refine Aj (a:=some dx) (Ab (Aj (Ab ?_)));refine wpAny_nsSet1 (s:={s with toks:=s.toks+1}) I.ns λh' hn2 hs2=>?_;obtain⟨oD,esD,epD,hoD,hdD,hcD⟩:=hn2.count (PySem.Within.cons name v hw);refine Ab (wpAny_lookBehind hoD (by rw[hdD];exact pastItsLine_dict (Au hcD (by rw[Az];lia))) ?_);exact Aj (h _ ⟨(hs2.2 _ (Bt I.ne)).trans I.obj,hn2,I.ne⟩ hs2)
theorem PX{R:Result->Ag->Prop}{vs:List Ae}{kw:List (Str×Ae)}(X:K.In s.heap)(hm:PySem.W.makesIn K C=true)(hi:Cg K (.ref C) "__init__" = some (some (.ref f)))(hf:PySem.W.typeIn K (.ref f)=some (.type "function"))(h:Jl (Bn prog w) (A.under (.builtin "type.__call__" ⟨.ref C::vs,kw⟩)) (.call (.ref f) ⟨.ref (s.heap.objs.size+1)::vs,kw⟩) (PySem.W.InitBack (s.heap.objs.size+1) R)
   {s with heap:=(s.heap.push Es).push (Ga C s.heap.objs.size)}):
  Jl (Bn prog w) A (.call (.ref C) ⟨vs,kw⟩) R s:=by
 obtain⟨hh,g,d,t,os⟩:=s;exact PySem.W.make_core (PySem.W.makes_of X hm) (PySem.W.looks_findIn X hi) (λself=>PySem.W.bind_fn X self hf) (.inl rfl) h
end
def putF(f:Str)(v:V):List (Str×V)->List (Str×V)
 | []=>[(f,v)]
 | (g,x)::r=>if g=f then(g,v)::r else(g,x)::putF f v r
theorem DY(f g:Str)(v:V):∀fs:List (Str×V),(putF f v fs).lookup g=if g=f then some v else fs.lookup g
 | []=>by
  show Bx g [(f,v)]=_
  by_cases h:g=f
  .have hb:(g==f)=true:=beq_iff_eq.mpr h;simp only[Bx,hb,if_pos h]
  .have hb:(g==f)=false:=beq_eq_false_iff_ne.mpr h;simp only[Bx,hb,if_neg h]
 | (k,x)::r=>by
  have ih:=DY f g v r;rw[show putF f v ((k,x)::r)=(if k=f then(k,v)::r else(k,x)::putF f v r) from rfl]
  by_cases hk:k=f
  .rw[if_pos hk]
   by_cases h:g=k
   .have hb:(g==k)=true:=beq_iff_eq.mpr h;simp only[Bx,hb,if_pos (h.trans hk)]
   .have hb:(g==k)=false:=beq_eq_false_iff_ne.mpr h;simp only[Bx,hb,if_neg (λe:g=f=>h (e.trans hk.symm))]
  .rw[if_neg hk]
   by_cases h:g=k
   .have hb:(g==k)=true:=beq_iff_eq.mpr h;simp only[Bx,hb,if_neg (λe:g=f=>hk (h.symm.trans e))]
   .have hb:(g==k)=false:=beq_eq_false_iff_ne.mpr h;simp only[Bx,hb];exact ih
theorem vX(f:Str)(v:V):∀fs:List (Str×V),f∈(putF f v fs).map (·.1)/\∀g,g∈fs.map (·.1)->g∈(putF f v fs).map (·.1)
 | []=>⟨by simp[putF],λg h=>by simp at h⟩
 | (k,x)::r=>by
  obtain⟨i1,i2⟩:=vX f v r;rw[show putF f v ((k,x)::r)=(if k=f then(k,v)::r else(k,x)::putF f v r) from rfl]
  by_cases hk:k=f
  .rw[if_pos hk];subst hk;exact⟨by simp,λg h=>by simpa using h⟩
  .rw[if_neg hk];refine⟨?_,λg h=>?_⟩
   .rw[Bd];exact Ba _ i1
   .rw[Bd]at h⊢;rcases Ar.mp h with e|e
    .exact Ar.mpr (.inl e)
    .exact Ba _ (i2 g e)
theorem DZ(f:Str)(v:V):∀fs:List (Str×V),(putF f v fs).length<=fs.length+1
 | []=>by simp[putF]
 | (k,x)::r=>by
  have ih:=DZ f v r;rw[show putF f v ((k,x)::r)=(if k=f then(k,v)::r else(k,x)::putF f v r) from rfl]
  by_cases hk:k=f
  .rw[if_pos hk,Az,Az];lia
  .rw[if_neg hk,Az,Az];lia
theorem f6.some_of{v:V}{o:Option Ae}(r:f6 (some v) o):∃u,o=some u/\RelV v u:=by
 cases o with
 | none=>exact(show False from r).elim
 | some u=>exact⟨u,rfl,r⟩
theorem f6.none_of{o:Option Ae}(r:f6 none o):o=none:=by
 cases o with
 | none=>rfl
 | some u=>exact(show False from r).elim
theorem PY{v:V}{u:Ae}(r:RelV v u):PySem.W.handedIn u=true:=by
 cases v with
 | non=>cases (show u=Value.none from r);rfl
 | bl b=>cases (show u=Value.bool b from r);rfl
 | int i=>obtain⟨t,e⟩:=(show ∃t,u=Value.int i t from r);cases e;rfl
 | str x=>obtain⟨t,e⟩:=(show ∃t,u=Value.str x t from r);cases e;rfl
 | byt b=>obtain⟨t,e⟩:=(show ∃t,u=Value.bytes b t from r);cases e;rfl
 | flt b=>obtain⟨t,e⟩:=(show ∃t,u=Value.float b t from r);cases e;rfl
 | ref a=>cases (show u=Value.ref a from r);rfl
 | ty n=>cases (show u=Value.type n from r);rfl
section
variable {P:Bv}{w:Cp}{H H':Hp}{h h':Heap}{a C dx:Addr}{fs fs':List (Str×V)}
theorem sD(hok:dA P w H h)(e:H a=some (.ins C dx fs)):∃mA,nD h a dx C mA/\(∀f,f6 (fs.lookup f) (mA f))/\PySem.Within mA (fs.map (·.1))/\fs.length<=1000/\H dx=some (.own a):=by
 obtain⟨d,z,ne,ob,mA,n,r,q⟩:=(show cX P w H h a (.ins C dx fs) from hok a _ e);exact⟨mA,⟨ob,n,ne⟩,r,q,z,d⟩
end
structure gY(K:Ac)(C:Addr):Prop where
 pg:Ko K C Str.empty=true
 hd:PySem.W.hasDictIn K C=true
 po:PySem.W.plainOver K C=true
 sa:Cg K (.ref C) "__setattr__" = some (some (.builtin "object.__setattr__"))
theorem gY.get{K:Ac}{C:Addr}(c:gY K C)(f:Str):Ko K C f=true:=c.pg
def gF(K:Ac)(C:Addr)(f:Str):Prop:=Cg K (.ref C) f=some none
theorem gF.taker{K:Ac}{C:Addr}{f:Str}(n:gF K C f):PySem.W.takerIn K C f=some none:=by
 unfold PySem.W.takerIn;rw[show Cg K (.ref C) f=some none from n];rfl
structure oC(K:Ac)(C:Addr)(m:Str)(f:Addr):Prop where
 at_:Cg K (.ref C) m=some (some (.ref f))
 fn:Kt K (.ref f)=true
 kp:Ee K (.ref f)=true
section
variable {X:Cx}{pins:List (Addr×Obj)}{Z:St}{H:Hp}{s:Ag}{a C dx:Addr}{fs:List (Str×V)}{f:Str}{v:V}{A:Cq}{E:Ae->Ag->Prop}
theorem PZ{b:Bool}{Q:Ae->Ag->Prop}(I:Inv X pins Z H s)(e:H a=some (.ins C dx fs))(c:gY X.K C)(n:gF X.K C f)(l:fs.lookup f=some v)(h:∀u s',Inv X pins Z H s'->RelV v u->Q u s'):Bc (Bn X.prog X.w) A (getAttr (.ref a) f b) Q E s:=by
 obtain⟨mA,O,r,_,_,_⟩:=sD I.hok e;obtain⟨u,hu,ru⟩:=f6.some_of (v:=v) (o:=mA f) (by rw[<-l];exact r f);exact PR I.kIn O (c.get f) c.hd n hu (PY ru) (h u _ (I.tok _) ru)
theorem D0{m:Str}{g:Addr}{pl:Sem Bool}{Q:Ae×List Ae->Ag->Prop}(I:Inv X pins Z H s)(e:H a=some (.ins C dx fs))(c:gY X.K C)(k:oC X.K C m g)(l:fs.lookup m=none)(h:Q (.ref g,[.ref a]) s):Bc (Bn X.prog X.w) A (Mp (.ref a) m pl) Q E s:=by
 obtain⟨mA,O,r,_,_,_⟩:=sD I.hok e;have hn:mA m=none:=f6.none_of (by rw[<-l];exact r m);exact PU I.kIn O (c.get m) k.at_ k.fn hn h
theorem P0{y:V}{u:Ae}{Q:Unit->Ag->Prop}(I:Inv X pins Z H s)(e:H a=some (.ins C dx fs))(c:gY X.K C)(n:gF X.K C f)(hl:fs.length<1000)(ry:RelV y u)(h:∀s',Inv X pins Z (aX H a (.ins C dx (putF f y fs))) s'->Q () s'):Bc (Bn X.prog X.w) A (setAttr (.ref a) f u) Q E s:=by
 obtain⟨mA,O,r,wi,_,ho⟩:=sD I.hok e;have hz:(fs.map (·.1)).length<=Am:=by rw[Aa,Lb];lia
 refine PV I.kIn O c.sa c.po n.taker c.hd wi hz λh' O' sb=>h _ ?_;have hd:∃o,h'.get? dx=some o:=let ⟨o,_,_,e',_⟩:=O'.ns;⟨o,e'⟩;refine I.write (x:=a) (e:=dx) (by rw[e];exact True.intro) (.inr ho) (λb q hb z=>(sb.2 b hb).trans z) hd ?_;refine⟨by rw[bH O.ne];exact ho,?_,O.ne,O'.obj,_,O'.ns,λg=>?_,λg hg=>?_⟩
 .have:=DZ f y fs;lia
 .show f6 ((putF f y fs).lookup g) (if g=f then some u else mA g);rw[DY]
  by_cases q:g=f
  .rw[if_pos q,if_pos q];exact ry
  .rw[if_neg q,if_neg q];exact r g
 .by_cases q:g=f
  .rw[q];exact(vX f y fs).1
  .refine(vX f y fs).2 g (wi g λz=>hg ?_);show(if g=f then some u else mA g)=none;rw[if_neg q];exact z
theorem Inv.made(I:Inv X pins Z H s):Inv X pins Z (aX (aX H s.heap.objs.size (.own (s.heap.objs.size+1))) (s.heap.objs.size+1) (.ins C s.heap.objs.size []))
  {s with heap:=(s.heap.push Es).push (Ga C s.heap.objs.size)}:=by
 have e1:(s.heap.push Es).get? s.heap.objs.size=some Es:=Ay s.heap rfl;have e2:((s.heap.push Es).push (Ga C s.heap.objs.size)).get? (s.heap.objs.size+1)=some (Ga C s.heap.objs.size):=by
  have:=Ay (s.heap.push Es) (o:=Ga C s.heap.objs.size) rfl;rwa [Dq]at this
 have e3:(s.heap.push Es).Ns s.heap.objs.size (λ_=>none):=⟨Es,#[],_,e1,rfl,(λe he=>absurd he (by simp)),λ_=>rfl⟩;have I1:=I.laid (a:=s.heap.objs.size) (o:=.own (s.heap.objs.size+1)) (h':=s.heap.push Es) (t':=s.toks) (λb u q=>Af _ q) (An _) ⟨_,e1⟩;refine I1.laid (a:=s.heap.objs.size+1) (o:=.ins C s.heap.objs.size []) (t':=s.toks) (λb u q=>Af _ q) (Fc (Dq _ _)) ?_;have ne:s.heap.objs.size≠s.heap.objs.size+1:=Bl (Jm _);refine⟨by rw[bH ne,c9],Bz _,ne,e2,λ_=>none,(Heap.Ns1.of_empty e3).at λo q=>Af _ q,λ_=>True.intro,λy hy=>absurd rfl hy⟩
theorem P1{prog:Bv}{w:Cp}{env:Env}{e:Expr}{f:Str}{pos:Pos}{s:Ag}{Q:Ae->Ag->Prop}(hb:Iy e f env (eval e env)=eval e env)(h:Bc (Bn prog w) A (eval e env) (λo s1=>Bc (Bn prog w) A (getAttr o f true) Q E s1) E s):Bc (Bn prog w) A (eval (.Attribute e f pos) env) Q E s:=
 Attribute_any_ h (by rw[arm_eval_Attribute,hb])
end
def P2(K:Ac)(ta:TE)(f:Str):TE:=λZ H Q=>ta Z H λx H1=>∃a C dx fs v,x=.ref a/\H1 a=some (.ins C dx fs)/\gY K C/\gF K C f/\fs.lookup f=some v/\Q v H1
def P4(K:Ac)(ta tv:TE)(f:Str):TS:=λD Z H=>tv Z H λy H1=>ta Z H1 λx H2=>∃a C dx fs,x=.ref a/\H2 a=some (.ins C dx fs)/\gY K C/\gF K C f/\fs.length<1000/\
 D.nx Z (aX H2 a (.ins C dx (putF f y fs)))
section
variable {X:Cx}{o e value:Expr}{f:Str}{pos pos' tpos:Pos}{ta tv:TE}
theorem P5(he:PE X e ta)(hb:Iy e f X.env (eval e X.env)=eval e X.env):PE X (.Attribute e f pos) (P2 X.K ta f):=by
 intro pins s Z H Q I h;refine P1 hb (bA (he pins s Z H _ I h) λu s1 ⟨x,H1,I1,rx,a,C,dx,fs,v,ex,ea,c,n,l,q⟩=>?_);subst ex;obtain rfl:u=Value.ref a:=rx;exact PZ I1 ea c n l λu' s2 I2 ru=>⟨v,H1,I2,ru,q⟩
theorem P6(ha:PE X o ta)(hv:PE X value tv)(hs:Je value (some (.Attribute o f pos')) pos.line X.env=pure false):PS X (.Assign [.Attribute o f pos'] value pos) (P4 X.K ta tv f):=by
 intro pins s Z H D I h;refine plainObj_wpAny_Assign_Attribute (bA (hv pins s Z H _ I h) λu s1 ⟨y,H1,I1,ry,q⟩=>bA (ha pins s1 Z H1 _ I1 q) λov s2 ⟨x,H2,I2,rx,a,C,dx,fs,ex,ea,c,n,l,q2⟩=>?_) hs;subst ex;obtain rfl:ov=Value.ref a:=rx;exact P0 I2 ea c n l ry λs3 I3=>⟨Z,_,I3,q2⟩
end
section
variable {X:Cx}{pins:List (Addr×Obj)}{Z:St}{H:Hp}{s:Ag}{A:Cq}{E:Ae->Ag->Prop}{Q:Ae->Ag->Prop}{c:Ae}{b:Bool}
inductive iM(K:Ac)(H:Hp):V->Ae->Prop where
 | non:iM K H .non (.type "NoneType")
 | bl (x:Bool):iM K H (.bl x) (.type "bool")
 | int (i:Int):iM K H (.int i) (.type "int")
 | str (x:Str):iM K H (.str x) (.type "str")
 | flt (x:UInt64):iM K H (.flt x) (.type "float")
 | lst {a:Addr} {xs:List V} (e:H a=some (.lst xs)):iM K H (.ref a) (.type "list")
 | frz {a:Addr} {o:Obj} {xs:List V} (e:H a=some (.frz o (.lst xs))):iM K H (.ref a) (.type "list")
 | tup {a:Addr} {xs:List V} (e:H a=some (.tup xs)):iM K H (.ref a) (.type "tuple")
 | dK {a:Addr} {kvs:List (aK×V)} (e:H a=some (.dK kvs)):iM K H (.ref a) (.type "dict")
 | dT {a:Addr} {kvs:List (List aK×V)} (e:H a=some (.dT kvs)):iM K H (.ref a) (.type "dict")
 | ins {a C dx:Addr} {fs:List (Str×V)} (e:H a=some (.ins C dx fs)) (cl:gY K C) (ha:Cg K (.ref C) "__class__" = some (some (.builtin "object.__class__")))
   (hn:PySem.W.specialIn K (.builtin "object.__class__") "__get__" = some (some (.builtin "getset_descriptor.__get__"))) (htk:PySem.W.takesIn K (.builtin "object.__class__")=some true)
   (hm:PySem.W.mroIn K C (.type "object")=some true):iM K H (.ref a) (.ref C)
theorem P7{x:V}{u t:Ae}(I:Inv X pins Z H s)(rx:RelV x u)(ty:iM X.K H x t)(e:Iq X.K t c=some b)(h:∀tk,Q (.bool b) {s with toks:=tk}):
  Bc (Bn X.prog X.w) A (call (.builtin "isinstance") [u,c]) Q E s:=by
 cases ty with
 | non=>cases (show u=Value.none from rx);exact Eh PySem.W.kitx_none I.kIn True.intro e (λz=>nomatch z) h
 | bl y=>cases (show u=Value.bool y from rx);exact Eh PySem.W.kitx_bool I.kIn True.intro e (λz=>nomatch z) h
 | int i=>obtain⟨t,q⟩:=(show ∃t,u=Value.int i t from rx);cases q;exact Eh PySem.W.kitx_int I.kIn True.intro e (λz=>nomatch z) h
 | str y=>obtain⟨t,q⟩:=(show ∃t,u=Value.str y t from rx);cases q;exact Eh PySem.W.kitx_str I.kIn True.intro e (λz=>nomatch z) h
 | flt y=>obtain⟨t,q⟩:=(show ∃t,u=Value.float y t from rx);cases q;exact Eh PySem.W.kitx_float I.kIn True.intro e (λz=>nomatch z) h
 | @lst a xs ea=>
  cases (show u=Value.ref a from rx);obtain⟨_,_,n,_,h1⟩:=(show cX X.prog X.w H s.heap a (.lst xs) from I.hok a _ ea);exact Eh PySem.W.kitx_list I.kIn ⟨_,h1,rfl⟩ e (λz=>nomatch z) h
 | @frz a ob xs ea=>
  cases (show u=Value.ref a from rx);obtain⟨_,_,_,n,_,h1⟩:=(show cX X.prog X.w H s.heap a (.frz ob (.lst xs)) from I.hok a _ ea);exact Eh PySem.W.kitx_list I.kIn ⟨_,h1,rfl⟩ e (λz=>nomatch z) h
 | @tup a xs ea=>
  cases (show u=Value.ref a from rx);obtain⟨_,_,_,p⟩:=(show cX X.prog X.w H s.heap a (.tup xs) from I.hok a _ ea);obtain⟨o,h1,h2,_⟩:=p;exact Eh PySem.W.kitx_tuple I.kIn ⟨o,h1,h2⟩ e (λz=>nomatch z) h
 | @dK a kvs ea=>
  cases (show u=Value.ref a from rx);obtain⟨_,_,vs,_,p⟩:=(show cX X.prog X.w H s.heap a (.dK kvs) from I.hok a _ ea);obtain⟨o,es,ep,h1,h2,_⟩:=p;exact Eh PySem.W.kitx_dict I.kIn ⟨o,h1,h2.1⟩ e (λz=>nomatch z) h
 | @dT a kvs ea=>
  cases (show u=Value.ref a from rx);obtain⟨_,_,xs,_,o,es,ep,h1,h2,_⟩:=(show cX X.prog X.w H s.heap a (.dT kvs) from I.hok a _ ea);exact Eh PySem.W.kitx_dict I.kIn ⟨o,h1,h2.1⟩ e (λz=>nomatch z) h
 | @ins a C dx fs ea cl ha hn htk hm=>
  cases (show u=Value.ref a from rx);obtain⟨mA,O,_⟩:=sD I.hok ea;obtain⟨od,J,_⟩:=O.look;exact Eh (PySem.W.kitx_own (cl.get _) cl.hd ha hn htk hm) I.kIn J e (λz=>nomatch z) h
end
structure cP(k:Nat)(A:Cq):Prop where
 hd:A.handled=none
 dp:A.depth+3*k+5<recursionLimit
 un:A.units+16*k+200<Fm
theorem cP.mono{j k:Nat}{A:Cq}(r:cP k A)(h:j<=k):cP j A:=⟨r.hd,by have:=r.dp;lia,by have:=r.un;lia⟩
theorem cP.deeper{k:Nat}{A:Cq}(r:cP (k+1) A)(env:Env):cP k (A.deeper env):=
 ⟨r.hd,by have:=r.dp;show A.depth+1+3*k+5<_;lia,by have:=r.un;show A.units+3+16*k+200<_;lia⟩
theorem P8{A:Cq}{C:Addr}{us:List Ae}{kw:List (Str×Ae)}:(A.under (.builtin "type.__call__" ⟨.ref C::us,kw⟩)).depth=A.depth+1:=by
 first|rfl|simp[Around.under,Code.weight,Code.isCreation,Code.isGuard,Code.isCaller,Code.frames,Code.isFrame,guardIds]
theorem P9{A:Cq}{C:Addr}{us:List Ae}{kw:List (Str×Ae)}:(A.under (.builtin "type.__call__" ⟨.ref C::us,kw⟩)).units=A.units+1:=by
 first|rfl|simp[Around.under,Code.cUnits,Code.frames,Code.isFrame]
theorem cP.make{k:Nat}{A:Cq}(r:cP (k+1) A)(C:Addr)(us:List Ae)(kw:List (Str×Ae)):cP k (A.under (.builtin "type.__call__" ⟨.ref C::us,kw⟩)):=
 ⟨r.hd,by have:=r.dp;rw[P8];lia,by have:=r.un;rw[P9];lia⟩
theorem cP.depth{k:Nat}{A:Cq}(r:cP k A):A.depth<recursionLimit:=by have:=r.dp;lia
theorem cP.units{k:Nat}{A:Cq}(r:cP k A):A.units+64<Fm:=by have:=r.un;lia
def vY:TA:=λ_ H Q=>Q [] H
def QA(ta:TE)(tr:TA):TA:=λZ H Q=>ta Z H λx H1=>tr Z H1 λxs H2=>Q (x::xs) H2
section
variable {X:Cx}{e:Expr}{es:List Expr}{te:TE}{t:TA}{pos:Pos}
theorem QB:PA X [] vY:=λ_ _ _ _ H Q I h=>Calls.spliced_nil ⟨[],H,I,.nil,h⟩
theorem QC(ha:PE X e te)(hr:PA X es t)(hs:Be (e::es) X.env=(false,eval e X.env)::Be es X.env:=by rfl):PA X (e::es) (QA te t):=by
 intro pos pins s Z H Q I h;rw[hs];show Bc _ _ (spliced ((false,eval e X.env)::Gf pos (Be es X.env))) _ _ s;refine Calls.spliced_cons (bA (ha pins s Z H _ I h) λu s1 ⟨x,H1,I1,r1,q1⟩=>?_);exact bA (hr pos pins s1 Z H1 _ I1 q1) λus s2 ⟨xs,H2,I2,r2,q2⟩=>⟨x::xs,H2,I2,.cons r1 r2,q2⟩
def QD(t:TA):TE:=λZ H Q=>t Z H λxs H1=>xs.length<=Am/\∀p,H1 p=none->Q (.ref p) (aX H1 p (.tup xs))
def QE(t:TA):TE:=λZ H Q=>t Z H λxs H1=>xs.length<=Am/\∀p,H1 p=none->Q (.ref p) (aX H1 p (.lst xs))
theorem QF{x1}(h:PA X es t):PE X (.Tuple es x1 pos) (QD t):=by
 intro pins s Z H Q I hq;refine wpAny_Tuple_spliced (bA (h pos pins s Z H _ I hq) λus s1 ⟨xs,H1,I1,r,z,q⟩=>⟨by rw[<-r.length];exact z,?_⟩);have hf:H1 s1.heap.objs.size=none:=I1.hok.fresh (An _);refine⟨.ref s1.heap.objs.size,aX H1 s1.heap.objs.size (.tup xs),I1.laid (t':=s1.toks) (λb u e=>Af _ e) (An _) ?_,rfl,q _ hf⟩;exact⟨z,us,r,⟨_,Ay _ rfl,rfl,_,rfl⟩⟩
theorem D4(h:PA X es t):PE X (.List es pos) (QE t):=by
 intro pins s Z H Q I hq;refine wpAny_List_spliced (bA (h pos pins s Z H _ I hq) λus s1 ⟨xs,H1,I1,r,z,q⟩=>⟨by rw[<-r.length];exact z,?_⟩);have hf:H1 s1.heap.objs.size=none:=I1.hok.fresh (An _);refine⟨.ref s1.heap.objs.size,aX H1 s1.heap.objs.size (.lst xs),I1.laid (t':=s1.toks) (λb u e=>Af _ e) (An _) ?_,rfl,q _ hf⟩;exact⟨z,us,0,r,Ay _ rfl⟩
end
abbrev Sp:=List V->Hp->VK->XK->Prop
abbrev mC:=List Env->Hp->Ag->XK->Ae->Ag->Prop
structure mD(P:Bv)(w:Cp)(K:Ac)(mg:Str->Option Ae)(base:Heap)(A:Cq)(outer:List Env)(s:Ag)(H:Hp):Prop where
 frames:A.frames=some outer
 mod:Mod K mg base
 bs:∀b o,base.get? b=some o->s.heap.get? b=some o/\H b=none
 bsz:base.objs.size<=s.heap.objs.size
 funs:s.heap.FunFrames base outer
 frf:∀b∈gD outer,H b=none
 hok:dA P w H s.heap
 bare:Lz s.gens
def CE(outer:List Env)(P:Bv)(w:Cp)(H:Hp)(s:Ag)(Q:VK)(u:Ae)(s':Ag):Prop:=
 ∃v H',s'.os=s.os/\Lz s'.gens/\Un (gD outer) [] H H' s.heap s'.heap/\dA P w H' s'.heap/\RelV v u/\Q v H'
def CR(CX:mC)(outer:List Env)(P:Bv)(w:Cp)(H:Hp)(s:Ag)(Q:VK)(E:XK)(r:Result)(s':Ag):Prop:=
 match r with
 | .ok (.ret u)=>CE outer P w H s Q u s'
 | .ok _=>False
 | .error e=>CX outer H s E e s'
structure eN(P:Bv)(w:Cp)(K:Ac)(mg:Str->Option Ae)(base:Heap)(CX:mC)(k:Nat)(f:Addr)(fd:Bi)(ps:List Str)(sp:Sp):Prop where
 len:∀vs H Q E,sp vs H Q E->vs.length=ps.length
 run:∀(A:Cq) (outer:List Env) (s:Ag) (H:Hp) (args:Args) (us:List Ae) (vs:List V) (Q:VK) (E:XK),cP k A->mD P w K mg base A outer s H->BindsTo s fd args (ps.zip us)->a8 vs us->sp vs H Q E->
  Jl (Bn P w) A (.call (.ref f) args) (CR CX outer P w H s Q E) s
theorem mD.make{P:Bv}{w:Cp}{K:Ac}{mg:Str->Option Ae}{base:Heap}{A:Cq}{outer:List Env}{s:Ag}{H:Hp}(e:mD P w K mg base A outer s H)(C:Addr)(us:List Ae)(kw:List (Str×Ae)):
  mD P w K mg base (A.under (.builtin "type.__call__" ⟨.ref C::us,kw⟩)) outer s H:=⟨by first|exact e.frames|(simpa [Around.under,Code.envs,Code.isFrame,pushEnvs] using e.frames),e.mod,e.bs,e.bsz,e.funs,e.frf,e.hok,e.bare⟩
section
variable {X:Cx}{pins:List (Addr×Obj)}{Z:St}{H:Hp}{s s':Ag}
theorem Inv.env0(I:Inv X pins Z H s):mD X.prog X.w X.K X.mg X.base X.A X.stack s H:=
 ⟨I.ok.frames,I.ok.mod,I.bs,Au I.ok.bsz I.sz,I.stack,I.stkFree,I.hok,I.bare⟩
theorem Inv.after{Q:VK}{u:Ae}(I:Inv X pins Z H s)(h:CE X.stack X.prog X.w H s Q u s'):EP X pins Z Q u s':=by
 obtain⟨v,H',os,bare,un,hok,r,q⟩:=h;obtain⟨hh,g,d,t,os'⟩:=s';obtain rfl:os'=s.os:=os;exact⟨v,H',I.call (h':=hh) (g':=g) (d':=d) (t':=t) (ch:=[]) un hok bare (λb z=>absurd z (by simp)),r,q⟩
end
def D5(sp:Sp)(dvs:List V)(E:XK)(t:TA):TE:=λZ H Q=>t Z H λvs H1=>sp (vs++dvs) H1 Q E
def vZ(C:Addr)(m:Str)(sp:Sp)(dvs:List V)(E:XK)(ta:TE)(t:TA):TE:=λZ H Q=>ta Z H λx H1=>∃a dx fs,x=.ref a/\H1 a=some (.ins C dx fs)/\fs.lookup m=none/\
 t Z H1 λvs H2=>sp (x::(vs++dvs)) H2 Q E
def D6(C:Addr)(sp:Sp)(dvs:List V)(E:XK)(t:TA):TE:=λZ H Q=>t Z H λvs H1=>∀x dx,H1 x=none->H1 dx=none->dx≠x->
 sp (.ref x::(vs++dvs)) (aX (aX H1 dx (.own x)) x (.ins C dx [])) (λv H2=>v=.non/\Q (.ref x) H2) E
def Binds(K:Ac)(fd:Bi)(ps:List Str)(ds:List Ae):Prop:=
 ∀(s:Ag) (us:List Ae),K.In s.heap->(us++ds).length=ps.length->BindsTo s fd ⟨us,[]⟩ (ps.zip (us++ds))
theorem Binds.all{K:Ac}{fd:Bi}{ps:List Str}(h:∀us:List Ae,us.length=ps.length->bindArgs fd ⟨us,[]⟩=pure (ps.zip us)):Binds K fd ps []:=λs us _ hl=>by
 rw[Cm]at hl⊢;exact .of_eq (h us hl)
def mE(CX:mC)(X:Cx)(E:XK):Prop:=∀(pins:List (Addr×Obj)) (Z:St) (H:Hp) (s:Ag) (e:Ae) (s':Ag),Inv X pins Z H s->CX X.stack H s E e s'->X.xe e s'
section
variable {X:Cx}{CX:mC}{k:Nat}{f C:Addr}{fd:Bi}{ps:List Str}{sp:Sp}{dvs:List V}{ds:List Ae}{E:XK}{x m:Str}{p pos apos:Pos}{e o:Expr}{es:List Expr}{ta:TE}{t:TA}
theorem sE{pins:List (Addr×Obj)}{Z:St}{H:Hp}{s:Ag}{Q:VK}{us:List Ae}{vs:List V}(F:eN X.prog X.w X.K X.mg X.base CX k f fd ps sp)(hr:cP k X.A)(hb:Binds X.K fd ps ds)(hd:a8 dvs ds)(hx:mE CX X E)(I:Inv X pins Z H s)(r:a8 vs us)(h:sp (vs++dvs) H Q E):Bc (Bn X.prog X.w) X.A (call (.ref f) us) (EP X pins Z Q) X.xe s:=by
 have r2:a8 (vs++dvs) (us++ds):=r.append hd;have hl:(us++ds).length=ps.length:=by rw[<-r2.length];exact F.len _ _ _ _ h
 refine wpAny_call (Km (F.run X.A X.stack s H ⟨us,[]⟩ (us++ds) (vs++dvs) Q E hr I.env0 (hb s us I.kIn hl) r2 h) λr s' hq=>?_);cases r with
 | error e=>exact hx pins Z H s e s' I hq
 | ok fl=>
  cases fl with
  | ret u=>exact I.after hq
  | next=>exact Dx hq
  | brk=>exact Dx hq
  | cont=>exact Dx hq
theorem QG(F:eN X.prog X.w X.K X.mg X.base CX k f fd ps sp)(hr:cP k X.A)(hg:Gl X x)(hm:X.mg x=some (.ref f))(hk:Ee X.K (.ref f)=true)(hb:Binds X.K fd ps ds)(hd:a8 dvs ds)(hx:mE CX X E)(ha:PA X (e::es) t)(hdb:(x==("__debug__" : Str))=false:=by decide)(he:Be (e::es) X.env=(false,eval e X.env)::Be es X.env:=by rfl)(hpl:(Gf pos (Be es X.env)).any (·.1)=false:=by rfl):
  PE X (.Call (.Name x p) (e::es) [] pos) (D5 sp dvs E t):=by
 intro pins s Z H Q I h;refine Dl (pM I hg hm ?_ hdb);refine Ig (h₀:=X.base) I.ok.mod.kin hk (bA (ha pos pins s Z H _ I h) λus s1 ⟨vs,H1,I1,r,q⟩=>⟨I1.kIn,?_⟩) he hpl;exact sE F hr hb hd hx I1 r q
theorem QH{pl:Sem Bool}(he:PE X o ta)(c:gY X.K C)(hm:oC X.K C m f)(F:eN X.prog X.w X.K X.mg X.base CX k f fd ps sp)(hr:cP k X.A)(hb:Binds X.K fd ps ds)(hd:a8 dvs ds)(hx:mE CX X E)(ha:PA X (e::es) t)(hst:Be (e::es) X.env=(false,eval e X.env)::Be es X.env:=by rfl)(hpl:(Gf pos (Be es X.env)).any (·.1)=false:=by rfl)(ht:eval (.Call (.Attribute o m apos) (e::es) [] pos) X.env=(do
   let ov <-eval o X.env
   Mo apos.atName
   let (f,first) <-Iz [ov] (Mp ov m pl)
   callWith pos f first (Gf pos (Be (e::es) X.env)) (backToKw pos (Lc [] X.env))):=by rfl):
  PE X (.Call (.Attribute o m apos) (e::es) [] pos) (vZ C m sp dvs E ta t):=by
 intro pins s Z H Q I h;refine PySem.W.methodCall_KW (pl:=pl) (bA (he pins s Z H _ I h) λu s1 ⟨x,H1,I1,rx,a,dx,fs,ex,ea,l,q⟩=>?_) ht;subst ex;obtain rfl:u=Value.ref a:=rx;refine D0 I1 ea c hm l ?_;refine Ig (first:=[.ref a]) (h₀:=X.base) I.ok.mod.kin hm.kp (bA (ha pos pins s1 Z H1 _ I1 q) λus s2 ⟨vs,H2,I2,r,q2⟩=>⟨I2.kIn,?_⟩) hst hpl;exact sE (us:=.ref a::us) (vs:=.ref a::vs) F hr hb hd hx I2 (.cons rfl r) q2
theorem QI{pl:Sem Bool}(he:PE X o ta)(c:gY X.K C)(hm:oC X.K C m f)(F:eN X.prog X.w X.K X.mg X.base CX k f fd ps sp)(hr:cP k X.A)(hb:Binds X.K fd ps ds)(hd:a8 dvs ds)(hx:mE CX X E)(ht:eval (.Call (.Attribute o m apos) [] [] pos) X.env=(do
   let ov <-eval o X.env
   Mo apos.atName
   let (f,first) <-Iz [ov] (Mp ov m pl)
   callWith pos f first (Gf pos (Be [] X.env)) (backToKw pos (Lc [] X.env))):=by rfl):
  PE X (.Call (.Attribute o m apos) [] [] pos) (vZ C m sp dvs E ta vY):=by
 intro pins s Z H Q I h;refine PySem.W.methodCall_KW (pl:=pl) (bA (he pins s Z H _ I h) λu s1 ⟨x,H1,I1,rx,a,dx,fs,ex,ea,l,q⟩=>?_) ht;subst ex;obtain rfl:u=Value.ref a:=rx;refine D0 I1 ea c hm l ?_;exact PySem.W.callWith_K0 (first:=[.ref a]) I1.kIn hm.kp (sE (us:=[.ref a]) (vs:=[.ref a]) F hr hb hd hx I1 (.cons rfl .nil) q)
structure Mk(K:Ac)(C f:Addr):Prop where
 makes:PySem.W.makesIn K C=true
 init:Cg K (.ref C) "__init__" = some (some (.ref f))
 fn:Kt K (.ref f)=true
 kp:Ee K (.ref C)=true
theorem D7{pins:List (Addr×Obj)}{Z:St}{H:Hp}{s:Ag}{Q:VK}{us:List Ae}{vs:List V}(M:Mk X.K C f)(F:eN X.prog X.w X.K X.mg X.base CX k f fd ps sp)(hr:cP (k+1) X.A)(hb:Binds X.K fd ps ds)(hd:a8 dvs ds)(hx:mE CX X E)(I:Inv X pins Z H s)(r:a8 vs us)(h:∀x dx,H x=none->H dx=none->dx≠x->sp (.ref x::(vs++dvs)) (aX (aX H dx (.own x)) x (.ins C dx [])) (λv H2=>v=.non/\Q (.ref x) H2) E):
  Bc (Bn X.prog X.w) X.A (call (.ref C) us) (EP X pins Z Q) X.xe s:=by
 have hq:=h (s.heap.objs.size+1) s.heap.objs.size (I.hok.fresh (Ly _)) (I.hok.fresh (An _)) (Bl (Jm _));have I2:=Inv.made (C:=C) I;have r2:a8 (V.ref (s.heap.objs.size+1)::(vs++dvs)) (Value.ref (s.heap.objs.size+1)::(us++ds)):=.cons rfl (r.append hd);have hl:(Value.ref (s.heap.objs.size+1)::us++ds).length=ps.length:=by
  have e:=r2.length;rw[F.len _ _ _ _ hq]at e;exact e.symm
 refine wpAny_call (PX (f:=f) I.kIn M.makes M.init (beq_iff_eq.mp M.fn) (Km (F.run _ X.stack _ _ ⟨Value.ref (s.heap.objs.size+1)::us,[]⟩ (Value.ref (s.heap.objs.size+1)::(us++ds)) _ _ E (hr.make C us [])
  (I2.env0.make C us []) (hb _ (Value.ref (s.heap.objs.size+1)::us) I2.kIn hl) r2 hq) λr s' hq'=>?_))
 cases r with
 | error e=>exact hx pins Z _ _ e s' I2 hq'
 | ok fl=>
  cases fl with
  | ret u=>
   obtain⟨v,H',I3,rv,ev,q3⟩:=I2.after hq';subst ev;exact⟨rv,⟨V.ref (s.heap.objs.size+1),H',I3,rfl,q3⟩⟩
  | next=>exact Dx hq'
  | brk=>exact Dx hq'
  | cont=>exact Dx hq'
theorem QJ(M:Mk X.K C f)(F:eN X.prog X.w X.K X.mg X.base CX k f fd ps sp)(hr:cP (k+1) X.A)(hg:Gl X x)(hm:X.mg x=some (.ref C))(hb:Binds X.K fd ps ds)(hd:a8 dvs ds)(hx:mE CX X E)(ha:PA X (e::es) t)(hdb:(x==("__debug__" : Str))=false:=by decide)(he:Be (e::es) X.env=(false,eval e X.env)::Be es X.env:=by rfl)(hpl:(Gf pos (Be es X.env)).any (·.1)=false:=by rfl):
  PE X (.Call (.Name x p) (e::es) [] pos) (D6 C sp dvs E t):=by
 intro pins s Z H Q I h;refine Dl (pM I hg hm ?_ hdb);refine Ig (h₀:=X.base) I.ok.mod.kin M.kp (bA (ha pos pins s Z H _ I h) λus s1 ⟨vs,H1,I1,r,q⟩=>⟨I1.kIn,?_⟩) he hpl;exact D7 M F hr hb hd hx I1 r q
theorem QK(M:Mk X.K C f)(F:eN X.prog X.w X.K X.mg X.base CX k f fd ps sp)(hr:cP (k+1) X.A)(hg:Gl X x)(hm:X.mg x=some (.ref C))(hb:Binds X.K fd ps ds)(hd:a8 dvs ds)(hx:mE CX X E)(hdb:(x==("__debug__" : Str))=false:=by decide):PE X (.Call (.Name x p) [] [] pos) (D6 C sp dvs E vY):=by
 intro pins s Z H Q I h;refine Dl (pM I hg hm ?_ hdb);exact PySem.W.callWith_K0 I.kIn M.kp (D7 (us:=[]) M F hr hb hd hx I .nil h)
end
structure mF(N P:List Str)(sc:Hc):Prop where
 kind:sc.kind=.function
 co:sc.isCoroutine=false
 gen:sc.isGenerator=false
 nd:N.Nodup
 pre:N.take P.length=P
 par:∀x∈P,sc.names.lookup x=some .local\/sc.names.lookup x=some .cell
 nofree:∀y∈sc.names,y.2≠.free
theorem D8{kindOf:Str->Option Ih}{x:Str}:∀{binds:List (Str×Ae)} {m:Str->Option Ae},(∀v,(x,v)∉binds)->bindL kindOf binds m x=m x
 | [],_,_=>rfl
 | (n,v)::r,m,h=>by
  unfold bindL;rw[D8 λw hw=>h w (Ba _ hw)];split
  .have:x≠n:=by rintro rfl;exact h v Bk
   simp[this]
  .rfl
theorem D9{kindOf:Str->Option Ih}{x:Str}:∀{binds:List (Str×Ae)} {m:Str->Option Ae},(∀v,(x,v)∉binds)->bindC kindOf binds m x=m x
 | [],_,_=>rfl
 | (n,v)::r,m,h=>by
  unfold bindC;rw[D9 λw hw=>h w (Ba _ hw)];split
  .rfl
  .have:x≠n:=by rintro rfl;exact h v Bk
   simp[this]
theorem EA{kindOf:Str->Option Ih}{x:Str}{v:Ae}:∀{P:List Str} {vs:List Ae} {i:Nat} {m:Str->Option Ae},P.Nodup->P[i]? = some x->vs[i]? = some v->kindOf x=some .local->
  bindL kindOf (P.zip vs) m x=some v
 | [],_,_,_,_,h,_,_=>by simp at h
 | _::_,[],_,_,_,_,h,_=>by simp at h
 | p::P,w::vs,0,m,nd,h1,h2,hk=>by
  simp at h1 h2;subst h1;subst h2;show bindL kindOf ((p,w)::P.zip vs) m p=_;unfold bindL;rw[D8 λv hv=>(Cy.mp nd).1 (List.of_mem_zip hv).1,if_pos hk];simp
 | p::P,w::vs,i+1,m,nd,h1,h2,hk=>by
  show bindL kindOf ((p,w)::P.zip vs) m x=_;unfold bindL;exact EA (i:=i) (Cy.mp nd).2 (by simpa using h1) (by simpa using h2) hk
theorem EB{kindOf:Str->Option Ih}{x:Str}{v:Ae}:∀{P:List Str} {vs:List Ae} {i:Nat} {m:Str->Option Ae},P.Nodup->P[i]? = some x->vs[i]? = some v->kindOf x≠some .local->
  bindC kindOf (P.zip vs) m x=some v
 | [],_,_,_,_,h,_,_=>by simp at h
 | _::_,[],_,_,_,_,h,_=>by simp at h
 | p::P,w::vs,0,m,nd,h1,h2,hk=>by
  simp at h1 h2;subst h1;subst h2;show bindC kindOf ((p,w)::P.zip vs) m p=_;unfold bindC;rw[D9 λv hv=>(Cy.mp nd).1 (List.of_mem_zip hv).1,if_neg hk];simp
 | p::P,w::vs,i+1,m,nd,h1,h2,hk=>by
  show bindC kindOf ((p,w)::P.zip vs) m x=_;unfold bindC;exact EB (i:=i) (Cy.mp nd).2 (by simpa using h1) (by simpa using h2) hk
def start(N:List Str)(vs:List V):St:=vs.map some++Bw (N.length-vs.length) none
def kL(CX:mC)(P:Bv)(w:Cp)(K:Ac)(mg:Str->Option Ae)(base:Heap)(N:List Str)(qual:Str)(scope:Hc)(f:Addr)(cd:Ae)(A:Cq)(outer:List Env)(s:Ag)(H:Hp)(E:XK):Cx where
 prog:=P
 w:=w
 K:=K
 mg:=mg
 base:=base
 A:=A.deeper (Ip qual scope s.heap.objs.size f cd)
 N:=N
 s₀:=s
 H₀:=H
 env:=Ip qual scope s.heap.objs.size f cd
 outer:=outer
 stack:=Ip qual scope s.heap.objs.size f cd::outer
 ex:=[]
 calm:=true
 fn:=λ_=>true
 pn:=[]
 xe:=λe s'=>Bc (Bn P w) (A.deeper (Ip qual scope s.heap.objs.size f cd)) (leaving (Ip qual scope s.heap.objs.size f cd) e) (λ_ s''=>CX outer H s E e s'') (λe' s''=>CX outer H s E e' s'') s'
theorem EC{sc:Hc}{n:Nat}{x:Str}(h:sc.names.lookup x=some .cell):∃c,(cellsFrom n sc.names []).lookup x=some c:=by
 have q:=PySem.W.cellsFrom_some sc.names n [] (.inl h);exact Dh.mp q
theorem QL{CX:mC}{P:Bv}{w:Cp}{K:Ac}{mg:Str->Option Ae}{base:Heap}{N ps:List Str}{qual:Str}{scope:Hc}{f:Addr}{cd:Ae}{A:Cq}{outer:List Env}{s s1:Ag}{H:Hp}{E:XK}{us:List Ae}{vs:List V}(S:mF N ps scope)(hd:A.handled=none)(e0:mD P w K mg base A outer s H)(hl:vs.length=ps.length)(r:a8 vs us)(x:InCallC s s.heap.objs.size (bindL (Ip qual scope s.heap.objs.size f cd).kindOf (ps.zip us) λ_=>none) (cellsFrom (s.heap.objs.size+1) scope.names []) (bindC (Ip qual scope s.heap.objs.size f cd).kindOf (ps.zip us) λ_=>none) s1):
  Inv (kL CX P w K mg base N qual scope f cd A outer s H E) [] (start N vs) H s1:=by
 have hpl:ps.length<=N.length:=by have:=congrArg Dc S.pre;rw[Bp]at this;lia
 obtain⟨h1,tk,rfl,hk⟩:=x.done;have noA:∀b:Addr,b∉(kL CX P w K mg base N qual scope f cd A outer s H E).ex:=λb z=>absurd (show b∈([]:List Addr) from z) (by simp);refine⟨⟨e0.mod,S.kind,rfl,rfl,An _,λy z c h1 h2=>?_,λy hy=>?_,λy c _ h=>?_,λ_=>hd,Around.frames_deeper e0.frames,.inr ⟨rfl,rfl⟩,λb z=>absurd z (noA b),e0.bs,e0.bsz,λb _ _=>noA b,λb z=>absurd z (noA b),e0.funs,e0.frf⟩,
  rfl,e0.bare,Un.kept hk,⟨_,x.toInCall.ns,λi y v h1 h2 h3=>?_⟩,λy c h=>⟨_,x.cell y c h⟩,e0.hok.fresh (An _),λy c h=>?_,λp hp=>absurd (show p∈([]:List (Addr×Obj)) from hp) (by simp),e0.hok.kept hk,?_⟩
 .exact name_of_addr x.apart (Ey h1) (Ey h2)
 .have hy:scope.names.lookup y=some .cell\/scope.names.lookup y=some .free:=hy;rcases hy with hy|hy
  .exact EC hy
  .exact absurd rfl (S.nofree _ (Ey hy))
 .exact Gi (x.above y c (Ey h))
 .have hi:i<vs.length:=by
   unfold start at h2
   by_cases hi:i<vs.length
   .exact hi
   .rw[Hq (by simpa using hi)]at h2;rw[List.getElem?_replicate]at h2;split at h2<;>cases h2
  have ha:vs[i]? = some v:=by
   unfold start at h2;rw[Gd (by simpa using hi),Ap]at h2;cases e:vs[i]? with
   | none=>rw[e]at h2;cases h2
   | some a=>rw[e]at h2;cases h2;rfl
  obtain⟨u,hu,rv⟩:=r.get ha;have hp:ps[i]? = some y:=by
   rw[<-S.pre,List.getElem?_take_of_lt (by lia)];exact h1
  have ndP:ps.Nodup:=by rw[<-S.pre];exact S.nd.sublist (List.take_sublist _ _)
  refine⟨u,rv,?_⟩;rcases S.par y (Bf hp) with k|k
  .exact .inl ⟨k,EA ndP hp hu k⟩
  .obtain⟨c,e⟩:=EC (n:=s.heap.objs.size+1) k;refine .inr ⟨.inl k,c,e,?_⟩;have q:=x.cell y c e;rw[EB ndP hp hu (by show scope.names.lookup y≠_;rw[k];decide)]at q;exact q
 .exact e0.hok.fresh (Gi (x.above y c (Ey h)))
 .unfold start;show _=N.length;rw[Ah,Aa,List.length_replicate];lia
theorem ED{CX:mC}{P:Bv}{w:Cp}{K:Ac}{mg:Str->Option Ae}{base:Heap}{k:Nat}{f:Addr}{name qual:Str}{params:Arguments}{body:List Stmt}{scope:Hc}{dV kV doc pm cdv ct oc:Ae}{an od:Option Addr}{osl:Array (Option Ae)}{N ps:List Str}{sp:Sp}(lk:K.lookup f=some ⟨oc,od,.func (Ei name qual params body scope dV kV doc pm an cdv ct),osl⟩)(hcd:Ir K cdv qual=true)(S:mF N ps scope)(len:∀vs H Q E,sp vs H Q E->vs.length=ps.length)(hbody:∀(A:Cq) (outer:List Env) (s:Ag) (H:Hp) (vs:List V) (Q:VK) (E:XK),cP k (A.deeper (Ip qual scope s.heap.objs.size f cdv))->sp vs H Q E->
   ∃t,gE (kL CX P w K mg base N qual scope f cdv A outer s H E) body t/\t {nx:=λ_ H'=>Q .non H',rt:=Q} (start N vs) H):
  eN P w K mg base CX (k+1) f (Ei name qual params body scope dV kV doc pm an cdv ct) ps sp:=by
 refine⟨len,λA outer s H args us vs Q E hr e0 hb r hsp=>?_⟩;have hl:=len _ _ _ _ hsp;have KX:K.In s.heap:=e0.mod.kin.keeps λb o e=>(e0.bs b o e).1;have lim:s.heap.NoLimit:=e0.mod.nolimit.keeps λb o e=>(e0.bs b o e).1;have hkind:∀y∈ps.zip us,scope.names.lookup y.1=some .local\/(scope.names.lookup y.1=some .cell/\((cellsFrom (s.heap.objs.size+1) scope.names []).lookup y.1).isSome=true):=λ⟨n,v⟩ hy=>by
  rcases S.par n (List.of_mem_zip hy).1 with q|q
  .exact .inl q
  .exact .inr ⟨q,PySem.W.cellsFrom_some _ _ _ (.inl q)⟩
 refine codeAny_call_function hr.depth (KX _ _ lk) rfl S.co S.gen rfl (PySem.W.codeRec_of KX hcd) (hb _ _ _ _ ?_);refine wpAny_newFunctionEnv_cells S.kind hkind λenv he s1 x=>?_;subst he;refine⟨lim.keeps x.toInCall.keep,codeAny_func ?_⟩;obtain⟨t,ht,hq⟩:=hbody A outer s H vs Q E (hr.deeper _) hsp;have I:Inv (kL CX P w K mg base N qual scope f cdv A outer s H E) [] (start N vs) H s1:=QL S hr.hd e0 hl r x;refine Hi (ht [] s1 (start N vs) H _ I hq) (λfl s' hs=>?_) λe s' hs=>hs;have fin:∀{σ':St} {H':Hp} {v:V} {u:Ae},Inv (kL CX P w K mg base N qual scope f cdv A outer s H E) [] σ' H' s'->RelV v u->Q v H'->CE outer P w H s Q u s':=
  λ{σ' H' v u} J rv q=>⟨v,H',J.os,J.bare,J.base,J.hok,rv,q⟩
 cases fl with
 | ret u=>
  obtain⟨v,σ',H',J,rv,q⟩:=hs;exact fin J rv q
 | next=>
  obtain⟨σ',H',J,q⟩:=hs;exact fin (v:=V.non) (u:=Value.none) J rfl q
 | brk=>
  obtain⟨_,_,_,q⟩:=hs;exact Dx q
 | cont=>
  obtain⟨_,_,_,q⟩:=hs;exact Dx q
section
variable {X:Cx}{x:Str}{p pos:Pos}{e:Expr}{es:List Expr}{t:TA}{id T:String}{r:List V->Hp->VK->Prop}
def v5(r:List V->Hp->VK->Prop)(t:TA):TE:=λZ H Q=>t Z H λvs H1=>r vs H1 Q
theorem QM(hc:dR X (.builtin id) r)(hg:Gl X x)(hm:X.mg x=none)(hv:Co x=some (.builtin id))(ha:PA X (e::es) t)(hn:x≠"__name__":=by decide)(hdb:(x==("__debug__" : Str))=false:=by decide)(he:Be (e::es) X.env=(false,eval e X.env)::Be es X.env:=by rfl)(hpl:(Gf pos (Be es X.env)).any (·.1)=false:=by rfl):PE X (.Call (.Name x p) (e::es) [] pos) (v5 r t):=by
 intro pins s Z H Q I h;refine Dl (kJ I hg hm hv ?_ hn hdb);exact PyProof.Rows.callWith_builtin1 (bA (ha pos pins s Z H _ I h) λus s1 ⟨vs,H1,I1,r1,q1⟩=>hc pins s1 Z H1 vs us Q I1 r1 q1) he hpl
theorem QN(hc:dR X (.type T) r)(hg:Gl X x)(hm:X.mg x=none)(hv:Co x=some (.type T))(ha:PA X (e::es) t)(hn:x≠"__name__":=by decide)(hdb:(x==("__debug__" : Str))=false:=by decide)(he:Be (e::es) X.env=(false,eval e X.env)::Be es X.env:=by rfl)(hpl:(Gf pos (Be es X.env)).any (·.1)=false:=by rfl):PE X (.Call (.Name x p) (e::es) [] pos) (v5 r t):=by
 intro pins s Z H Q I h;refine Dl (kJ I hg hm hv ?_ hn hdb);exact Cw (bA (ha pos pins s Z H _ I h) λus s1 ⟨vs,H1,I1,r1,q1⟩=>hc pins s1 Z H1 vs us Q I1 r1 q1) he hpl
end
end L2
namespace HT
open PySem PyProof.Rows
section
variable {prog:Bv}{w:Cp}{A:Cq}{E:Ae->Ag->Prop}{s:Ag}
theorem cat_tup{t b:Addr}{vs ws:List Ae}{Q:Ae->Ag->Prop}(ht:IsTup s.heap t vs.toArray)(hb:IsTup s.heap b ws.toArray)(hv:vs≠[])(h1:ws=[]->Q (.ref t) s)(h2:ws≠[]->Q (.ref s.heap.objs.size) {s with heap:=s.heap.push {cls:=.type "tuple",data:=.seq (vs++ws).toArray}})(hsz:vs.length+ws.length<=Am):Bc (Bn prog w) A (Ff .Add (.ref t) (.ref b)) Q E s:=by
 obtain⟨⟨cls,dd,data,sl⟩,ho,hc,n,hd⟩:=id ht;obtain⟨⟨cls2,dd2,data2,sl2⟩,ho2,hc2,n2,hd2⟩:=id hb;simp only at hc hd hc2 hd2;subst hc hd hc2 hd2;have e:vs.toArray++ws.toArray=(vs++ws).toArray:=by simp
 by_cases hw:ws=[]
 .exact concat_meets ⟨_,ho,rfl⟩ ⟨_,ho2,rfl⟩ noFill_tuple_add seq_tuple_add PySem.F.slot_tuple_add PySem.F.entry_tuple_add (PySem.F.args_tuple_add_2 _ _)
   (tuple_addW1 t b vs.toArray ws.toArray n n2 dd dd2 sl sl2 (by simpa using hv) (by simp[hw])) ⟨ho,ho2,h1 hw⟩
 .refine concat_meets ⟨_,ho,rfl⟩ ⟨_,ho2,rfl⟩ noFill_tuple_add seq_tuple_add PySem.F.slot_tuple_add PySem.F.entry_tuple_add (PySem.F.args_tuple_add_2 _ _)
   (tuple_addW2 t b vs.toArray ws.toArray n n2 dd dd2 sl sl2 (by simpa using hv) (by simpa using hw) (by rw[Ax,Ax];exact hsz)) ⟨ho,ho2,?_⟩
  rw[e];exact h2 hw
def sIx(n d:Nat):Option Int->Nat
 | none=>d
 | some v=>if v<0 then(v+(n:Int)).toNat else min v.toNat n
theorem sIx_none(n d:Nat):sIx n d none=d:=rfl
theorem sIx_nat(n d k:Nat):sIx n d (some (k:Int))=min k n:=by
 show(if (k:Int)<0 then((k:Int)+(n:Int)).toNat else min (k:Int).toNat n)=min k n;rw[if_neg (by lia),Dg]
theorem QO(n d:Nat)(hd:d<=n)(o:Option Int):sIx n d o<=n:=by
 cases o with
 | none=>exact hd
 | some v=>
  show(if v<0 then(v+(n:Int)).toNat else min v.toNat n)<=n
  by_cases hv:v<0
  .rw[if_pos hv];lia
  .rw[if_neg hv];exact Nat.min_le_right _ _
theorem EE(v:Int)(n d:Nat):(if v<0 then max (v+(n:Int)) 0 else min v (n:Int))=((sIx n d (some v):Nat):Int):=by
 show(if v<0 then max (v+(n:Int)) 0 else min v (n:Int))=(((if v<0 then(v+(n:Int)).toNat else min v.toNat n):Nat):Int)
 by_cases hv:v<0
 .simp only[if_pos hv];lia
 .simp only[if_neg hv];lia
theorem QP(lo hi:Option Int)(n:Nat):Jp lo hi 1 (n:Int)=(((sIx n 0 lo:Nat):Int),((sIx n n hi:Nat):Int)):=by
 have h1:¬((1:Int)<0):=by lia
 unfold Jp;simp only[h1,if_false];refine Prod.ext ?_ ?_
 .cases lo with
  | none=>rfl
  | some v=>exact EE v n 0
 .cases hi with
  | none=>rfl
  | some v=>exact EE v n n
theorem QQ(i j:Nat):Gz (i:Int) (j:Int) 1=j-i:=by
 unfold Gz;have h1:(1:Int) > 0:=by lia
 simp only[h1,if_true,Int.ediv_one];split<;>lia
theorem EF{v:Ae}{o:Option Int}{Q:Option Int->Ag->Prop}(p:IsPart v o)(h:Q o s):Bc (Bn prog w) A (Builtin.Slice.slicePartIndex v) Q E s:=by
 cases p with
 | none=>exact slicePart_none h
 | int i t=>exact slicePart_int h
theorem QS{sl:Addr}{vl vu:Ae}{lo hi:Option Int}{n:Nat}{Q:Int×Int×Nat->Ag->Prop}(hs:s.heap.IsSliceOf sl vl vu .none)(pl:IsPart vl lo)(pu:IsPart vu hi)(h:Q (((sIx n 0 lo:Nat):Int),1,sIx n n hi-sIx n 0 lo) s):Bc (Bn prog w) A (Builtin.Slice.sliceApplied (.ref sl) (pure (n:Int))) Q E s:=by
 obtain⟨os,hos,hcs,hds⟩:=id hs;unfold Builtin.Slice.sliceApplied Builtin.Slice.sliceFields;refine Ab (Ab (Ew hos hds (x:=vl) rfl (Ab (Ew hos hds (x:=vu) rfl (Ab (Ew hos hds (x:=.none) rfl (Aj ?_)))))));refine Ab (slicePart_none ?_);show Bc _ _ (if ((1:Int)==0)=true then _ else _) _ _ s;rw[if_neg (by decide)];refine Ab (EF pl (Ab (EF pu (Ab (Aj ?_)))));show Bc _ _ (match Jp lo hi 1 (n:Int) with|(lo,hi)=>pure (lo,(1:Int),Gz lo hi 1)) _ _ s;rw[QP lo hi n];show Bc _ _ (pure (((sIx n 0 lo:Nat):Int),(1:Int),Gz ((sIx n 0 lo:Nat):Int) ((sIx n n hi:Nat):Int) 1)) _ _ s;rw[QQ];exact Aj h
theorem QT(xs:Array Ae)(i k:Nat):((Cv k).filterMap λ(m:Nat)=>xs[((i:Int)+(m:Int)*1).toNat]?).toArray=((xs.toList.drop i).take k).toArray:=by
 have e:(λ(m:Nat)=>xs[((i:Int)+(m:Int)*1).toNat]?)=λm=>xs[i+m]?:=by
  funext m;have:((i:Int)+(m:Int)*1).toNat=i+m:=by lia
  rw[this]
 rw[e];have:=pick_run xs i k;rw[Kg]at this;have e2:((λx=>xs[x]?) ∘ λx=>i+x)=λm=>xs[i+m]?:=rfl;rw[e2]at this;rw[this]
theorem getItem_tuple_cut{t sl:Addr}{items:Array Ae}{vl vu:Ae}{lo hi:Option Int}{Q:Ae->Ag->Prop}(ht:IsTup s.heap t items)(hs:s.heap.IsSliceOf sl vl vu .none)(pl:IsPart vl lo)(pu:IsPart vu hi)(hw:¬(sIx items.size 0 lo=0/\sIx items.size items.size hi=items.size))(h:Q (.ref s.heap.objs.size) {s with heap:=s.heap.push {cls:=.type "tuple",data:=.seq ((items.toList.drop (sIx items.size 0 lo)).take (sIx items.size items.size hi-sIx items.size 0 lo)).toArray}})(hsz:items.size<=Am):Bc (Bn prog w) A (getItem (.ref t) (.ref sl)) Q E s:=by
 have htake:sizeOk (.seq ((items.toList.drop (sIx items.size 0 lo)).take (sIx items.size items.size hi-sIx items.size 0 lo)).toArray):=by
  show((items.toList.drop (sIx items.size 0 lo)).take (sIx items.size items.size hi-sIx items.size 0 lo)).toArray.size<=Am;rw[Ax,Bp,Eb,Fo];omega
 have hj:sIx items.size items.size hi<=items.size:=QO _ _ (An _) hi;obtain⟨os,hos,hcs,hds⟩:=id hs;have hTs:s.TypeIs (.ref sl) "slice":=⟨os,hos,hcs⟩;unfold getItem
 try with_reducible refine Ds ?_
 first|refine Ab (Aj ?_)|skip
 refine Ab (wpAny_sequenceKey ht.typeIs (by decide) ?_);refine Ab (Ex (name:=Dy "__getitem__") ht.typeIs Ii
  (Ed Ii ht.typeIs entry_tuple_getitem ?_ (args_tuple_getitem _ _)))
 show Bc _ _ (Builtin.Tuple.tupleItemsOf (.ref t)>>=_) _ _ s;refine Ab (tupleItemsOf_ ht ?_);refine Ab (wpAny_typeOf hTs ?_);rw[if_pos (by decide)];refine Ab (QS hs pl pu ?_);have hno:¬((((sIx items.size 0 lo:Nat):Int)==0&&(1:Int)==1&&(sIx items.size items.size hi-sIx items.size 0 lo)==items.size)=true):=by
  intro q;rw[Cr,Cr]at q;have q1:((sIx items.size 0 lo:Nat):Int)=0:=eq_of_beq q.1.1;have q2:sIx items.size items.size hi-sIx items.size 0 lo=items.size:=eq_of_beq q.2;exact hw ⟨by omega,by omega⟩
 show Bc _ _ (if (((sIx items.size 0 lo:Nat):Int)==0&&(1:Int)==1&&(sIx items.size items.size hi-sIx items.size 0 lo)==items.size)=true then _ else _) _ _ s;rw[if_neg hno,QT]
 first
  | exact Ab (m:=Hj _) (Em (Aj ⟨_,rfl,Aj h⟩) htake)
  | exact Ab (m:=Hj _) (Em (Ab (Aj (Aj ⟨_,rfl,Aj h⟩))) htake)
  | exact Ab (Ab (m:=Hj _) (Em (Aj (Aj ⟨_,rfl,Aj h⟩)) htake))
  | exact Ab (Ab (m:=Hj _) (Em (Aj ⟨_,rfl,Aj h⟩) htake))
end
end HT
namespace L2
open PySem Spec PyProof.Rows
abbrev TO:=St->Hp->(Option Int->Hp->Prop)->Prop
def PO(X:Cx)(e:Option Expr)(t:TO):Prop:=
 ∀(pins:List (Addr×Obj)) (s:Ag) (Z:St) (H:Hp) (Q:Option Int->Hp->Prop),Inv X pins Z H s->t Z H Q->
  Bc (Bn X.prog X.w) X.A (evalPart e X.env) (λu s'=>∃o H',Inv X pins Z H' s'/\IsPart u o/\Q o H') X.xe s
def QU:TO:=λ_ H Q=>Q none H
def QV(t:TE):TO:=λZ H Q=>t Z H λx H1=>∃i,x=.int i/\Q (some i) H1
section
variable {X:Cx}{e:Expr}{te:TE}{lo hi:Option Expr}{tl th:TO}{pos p2:Pos}
theorem QW:PO X none QU:=by
 intro pins s Z H Q I h;rw[evalPart_none];exact Aj ⟨none,H,I,.none,h⟩
theorem QX(h:PE X e te):PO X (some e) (QV te):=by
 intro pins s Z H Q I hw;rw[evalPart_some];refine bA (h pins s Z H _ I hw) λu s1 ⟨x,H1,I1,r1,q1⟩=>?_;obtain⟨i,rfl,q⟩:=q1;obtain⟨t,rfl⟩:=r1;exact⟨some i,H1,I1,.int i t,q⟩
def sF(X:Cx)(r:V->Option Int->Option Int->Hp->VK->Prop):Prop:=
 ∀(pins:List (Addr×Obj)) (s:Ag) (Z:St) (H:Hp) (x:V) (v vl vu:Ae) (lo hi:Option Int) (sl:Addr) (Q:VK),Inv X pins Z H s->RelV x v->s.heap.IsSliceOf sl vl vu .none->IsPart vl lo->IsPart vu hi->r x lo hi H Q->
  ∃T id,typeLookup (.type T) "__getitem__" = pure (some (.builtin id))/\s.TypeIs v T/\Bc (Bn X.prog X.w) X.A (getItem v (.ref sl)) (EP X pins Z Q) X.xe s
def QY(r:V->Option Int->Option Int->Hp->VK->Prop)(te:TE)(tl th:TO):TE:=λZ H Q=>te Z H λx H1=>tl Z H1 λl H2=>th Z H2 λu H3=>r x l u H3 Q
theorem QZ{r:V->Option Int->Option Int->Hp->VK->Prop}(hr:sF X r)(he:PE X e te)(hl:PO X lo tl)(hu:PO X hi th):PE X (.Subscript e (.Slice lo hi none p2) pos) (QY r te tl th):=by
 intro pins s Z H Q I h;refine Subscript_ (bA (he pins s Z H _ I h) λv s1 ⟨x,H1,I1,r1,q1⟩=>?_);refine wpAny_Slice (bA (hl pins s1 Z H1 _ I1 q1) λvl s2 ⟨l,H2,I2,pl,q2⟩=>bA (hu pins s2 Z H2 _ I2 q2) λvu s3 ⟨u,H3,I3,pu,q3⟩=>?_);rw[evalPart_none];refine Aj ?_;have I4:Inv X pins Z H3 {s3 with heap:=s3.heap.push {cls:=.type "slice",data:=.fields #[vl,vu,.none]}}:=I3.kept (t':=s3.toks) λb ob q=>Af _ q;obtain⟨T,id,hT,ht,hg⟩:=hr pins {s3 with heap:=s3.heap.push {cls:=.type "slice",data:=.fields #[vl,vu,.none]}} Z H3 x v vl vu l u s3.heap.objs.size Q I4 r1 (Heap.IsSliceOf.new ..) pl pu q3;show Bc (Bn X.prog X.w) X.A (subscriptTail e (.Slice lo hi none p2) v (.ref s3.heap.objs.size)) (EP X pins Z Q) X.xe {s3 with heap:=s3.heap.push {cls:=.type "slice",data:=.fields #[vl,vu,.none]}};exact tail_any (ops:=[.ref s3.heap.objs.size,v]) ht hT hg (by with_unfolding_all rfl)
def mG(xs:List V)(lo hi:Option Int):List V:=(xs.drop (HT.sIx xs.length 0 lo)).take (HT.sIx xs.length xs.length hi-HT.sIx xs.length 0 lo)
theorem EG(xs:List V)(lo hi:Option Int):(mG xs lo hi).length<=xs.length:=by
 unfold mG;rw[Bp,Eb];lia
def Q0(K:Ac):V->Option Int->Option Int->Hp->VK->Prop:=λx lo hi H Q=>∃a xs,x=.ref a/\bW K H a xs/\
 ¬(HT.sIx xs.length 0 lo=0/\HT.sIx xs.length xs.length hi=xs.length)/\∀p,H p=none->Q (.ref p) (aX H p (.tup (mG xs lo hi)))
theorem Q1:sF X (Q0 X.K):=by
 intro pins s Z H x v vl vu lo hi sl Q I rx hs pl pu h;obtain⟨a,xs,rfl,hx,hw,q⟩:=h;cases rx;obtain⟨its,r,ht,hz⟩:=I.tuple hx;have hlen:its.toArray.size=xs.length:=by rw[Ax];exact r.length.symm
 refine⟨"tuple",_,Ii.lookup,ht.typeIs,?_⟩;refine HT.getItem_tuple_cut ht hs pl pu (by rw[hlen];exact hw) ?_ (by rw[hlen];exact hz);rw[hlen];refine⟨.ref s.heap.objs.size,_,I.laid (t':=s.toks) (o:=.tup (mG xs lo hi)) (λb ob q=>Af _ q) (An _) ?_,rfl,q _ (I.hok.fresh (An _))⟩;exact⟨Au (EG xs lo hi) hz,_,(r.drop (HT.sIx xs.length 0 lo)).take (HT.sIx xs.length xs.length hi-HT.sIx xs.length 0 lo),IsTup.new _ _⟩
def Q2(K:Ac):R2:=λx y H Q=>∃a b xs ys,x=.ref a/\y=.ref b/\bW K H a xs/\bW K H b ys/\xs≠[]/\xs.length+ys.length<=Am/\
 (ys=[]->Q (.ref a) H)/\(ys≠[]->∀p,H p=none->Q (.ref p) (aX H p (.tup (xs++ys))))
theorem a8.nil_iff{xs:List V}{us:List Ae}(r:a8 xs us):us=[]↔xs=[]:=by
 cases r with
 | nil=>simp
 | cons _ _=>simp
theorem Q3:bG X (Ff .Add) (Q2 X.K):=by
 intro pins s Z H x y v u Q I rx ry h;obtain⟨a,b,xs,ys,rfl,rfl,ha,hb,hx,hz,q1,q2⟩:=h;cases rx;cases ry;obtain⟨its,r1,p1,_⟩:=I.tuple ha;obtain⟨its2,r2,p2,_⟩:=I.tuple hb;refine HT.cat_tup p1 p2 (λz=>hx (r1.nil_iff.mp z)) (λz=>⟨.ref a,H,I,rfl,q1 (r2.nil_iff.mp z)⟩) (λz=>?_) (by rw[<-r1.length,<-r2.length];exact hz);refine⟨.ref s.heap.objs.size,_,I.laid (t':=s.toks) (o:=.tup (xs++ys)) (λb ob q=>Af _ q) (An _) ?_,rfl,q2 (λw=>z (r2.nil_iff.mpr w)) _ (I.hok.fresh (An _))⟩;exact⟨by rw[Ah];exact hz,_,r1.append r2,IsTup.new _ _⟩
end
def iD(n:Nat)(i:Int):Option Nat:=if 0<=i then(if i<n then some i.toNat else none) else if -(n:Int)<=i then some (i+n).toNat else none
def cJ{O:Type}(xs:List O)(i:Int):Option O:=(iD xs.length i).bind λj=>xs[j]?
theorem EH{n:Nat}{i:Int}{j:Nat}(h:iD n i=some j):seqIndex? i n=some j/\j<n/\-(n:Int)<=i/\i<n:=by
 unfold iD at h
 by_cases h0:0<=i
 .rw[if_pos h0]at h
  by_cases h1:i<n
  .rw[if_pos h1]at h;have e:i.toNat=j:=Cj h;exact⟨by rw[seqIndex_of h0 h1,e],by lia,by lia,h1⟩
  .rw[if_neg h1]at h;cases h
 .rw[if_neg h0]at h
  by_cases h1 : -(n:Int)<=i
  .rw[if_pos h1]at h;have e:(i+n).toNat=j:=Cj h;exact⟨by rw[seqIndex_neg (by lia) h1,e],by lia,h1,by lia⟩
  .rw[if_neg h1]at h;cases h
theorem v7{O:Type}{xs:List O}{i:Int}{v:O}(h:cJ xs i=some v):∃j,seqIndex? i xs.length=some j/\xs[j]? = some v/\j<xs.length/\-(xs.length:Int)<=i/\i<xs.length:=by
 unfold cJ at h;cases e:iD xs.length i with
 | none=>rw[e]at h;cases h
 | some j=>
  rw[e]at h;obtain⟨h1,h2,h3,h4⟩:=EH e;exact⟨j,h1,h,h2,h3,h4⟩
theorem gZ{O:Type}{xs:List O}{j:Nat}{v:O}(h:xs[j]? = some v):cJ xs (j:Int)=some v:=by
 have hj:j<xs.length:=(Ai.mp h).1;have e:iD xs.length (j:Int)=some j:=by
  unfold iD;rw[if_pos (by lia),if_pos (by lia)];simp
 unfold cJ;rw[e];exact h
theorem EI{O:Type}(xs:List O)(v:O):cJ (xs++[v]) (-1)=some v:=by
 have hl:(xs++[v]).length=xs.length+1:=by simp
 have e:iD (xs++[v]).length (-1)=some xs.length:=by
  unfold iD;rw[hl,if_neg (by decide),if_pos (by lia)];congr 1;lia
 unfold cJ;rw[e];show(xs++[v])[xs.length]? = some v;simp
def EJ(b:Expr):Prop:=∀o i,subscripted b false o i=operate [o,i] (getItem o i)
def jH(X:Cx)(r:R2):Prop:=
 ∀(value slice:Expr) (pins:List (Addr×Obj)) (s:Ag) (Z:St) (H:Hp) (x y:V) (v u:Ae) (Q:VK),Inv X pins Z H s->RelV x v->RelV y u->r x y H Q->
  subscripted slice false v u=operate [v,u] (getItem v u)->Bc (Bn X.prog X.w) X.A (subscriptTail value slice v u) (EP X pins Z Q) X.xe s
def jI(X:Cx)(id:String)(r:V->List V->Hp->VK->Prop):Prop:=
 ∀(pins:List (Addr×Obj)) (s:Ag) (Z:St) (H:Hp) (x:V) (xs:List V) (v:Ae) (us:List Ae) (Q:VK),Inv X pins Z H s->RelV x v->a8 xs us->r x xs H Q->
  Bc (Bn X.prog X.w) X.A (call (.builtin id) (v::us)) (EP X pins Z Q) X.xe s
section
variable {X:Cx}{a b:Expr}{ta tb:TE}{pos:Pos}
theorem jH.or{r r':R2}(h:jH X r)(h':jH X r'):jH X (λx y H Q=>r x y H Q\/r' x y H Q):=by
 intro value slice pins s Z H x y v u Q I rx ry q hs;rcases q with q|q
 .exact h value slice pins s Z H x y v u Q I rx ry q hs
 .exact h' value slice pins s Z H x y v u Q I rx ry q hs
theorem Q4{r:R2}(hr:jH X r)(ha:PE X a ta)(hb:PE X b tb)(hs:EJ b):PE X (.Subscript a b pos) (pQ r ta tb):=by
 intro pins s Z H Q I h;exact Subscript_ (vW ha hb I h λv u s2 x y H2 I2 rx ry q=>hr a b pins s2 Z H2 x y v u Q I2 rx ry q (hs _ _))
def Q5(K:Ac):R2:=λx y H Q=>∃p xs i v,x=.ref p/\y=.int i/\bN K H p xs/\cJ xs i=some v/\Q v H
def Q6(K:Ac):R2:=λx y H Q=>∃p xs i v,x=.ref p/\y=.int i/\bW K H p xs/\cJ xs i=some v/\Q v H
def Q7:R2:=λx y H Q=>∃z i c,x=.str z/\y=.int i/\z.length<=Am/\cJ z.cps.toList i=some c/\Q (.str ⟨#[c]⟩) H
theorem Q8:jH X (Q5 X.K):=by
 intro value slice pins s Z H x y v u Q I rx ry h hs;obtain⟨p,xs,i,z,rfl,rfl,hq,he,q⟩:=h;cases rx;obtain⟨t,rfl⟩:=ry;obtain⟨its,r,pl,hz⟩:=I.list hq;obtain⟨j,h1,h2,h3,h4,h5⟩:=v7 he;obtain⟨w,ew,rw'⟩:=r.get h2;have hl:=r.length;have hn:=nC;have fin:EP X pins Z Q w s:=⟨z,H,I,rw',q⟩
 by_cases h0:0<=i
 .have hj:i.toNat=j:=by
   rw[seqIndex_of h0 h5]at h1;exact Cj h1
  exact item_listR pl.isList h0 (by lia) (by rw[hj];simpa using ew) fin hs
 .have hj:(i+(its.toArray.size:Int)).toNat=j:=by
   rw[seqIndex_neg (by lia) h4]at h1;rw[Ax,<-hl];exact Cj h1
  exact subscriptTail_builtinR (x:=w) pl.isList.typeIs slot_list_getitem.lookup
   (wpAny_getItem_list_neg (Q:=λr s'=>r=w/\EP X pins Z Q r s') pl.isList (by lia) (by rw[Ax]<;>lia) (by lia) (by rw[hj];simpa using ew) ⟨rfl,fin⟩) hs
theorem Q9:jH X (Q6 X.K):=by
 intro value slice pins s Z H x y v u Q I rx ry h hs;obtain⟨p,xs,i,z,rfl,rfl,hq,he,q⟩:=h;cases rx;obtain⟨t,rfl⟩:=ry;obtain⟨its,r,pl,hz⟩:=I.tuple hq;obtain⟨j,h1,h2,h3,h4,h5⟩:=v7 he;obtain⟨w,ew,rw'⟩:=r.get h2;have hl:=r.length;have hn:=nC;have fin:EP X pins Z Q w s:=⟨z,H,I,rw',q⟩;exact subscriptTail_builtinR (x:=w) pl.typeIs slot_tuple_getitem.lookup
  (getItem_tuple (j:=j) (Q:=λr s'=>r=w/\EP X pins Z Q r s') pl (by lia) (by lia) (by rw[Ax,<-hl];exact h1) (by simpa using ew) ⟨rfl,fin⟩) hs
theorem RA:jH X Q7:=by
 intro value slice pins s Z H x y v u Q I rx ry h hs;obtain⟨z,i,c,rfl,rfl,hz,he,q⟩:=h;obtain⟨t,rfl⟩:=rx;obtain⟨t',rfl⟩:=ry;obtain⟨j,h1,h2,h3,h4,h5⟩:=v7 he;have hl:z.cps.toList.length=z.length:=by simp[Str.length]
 rw[hl]at h1 h4 h5;have hn:=nC;exact tail_any (typeIs_str s z t) slot_str_getitem.lookup (getItem_str (c:=c) (by
  have e1:decide (i < -(2 ^ 63:Int))=false:=decide_eq_false (by lia);have e2:decide (i ≥ 2 ^ 63)=false:=decide_eq_false (by lia);rw[e1,e2,Bool.or_false]) (by rw[h1];simpa using h2) ⟨.str ⟨#[c]⟩,H,I.tok _,⟨_,rfl⟩,q⟩) hs
theorem RB(its:List Ae)(n j:Nat)(u:Ae):Kh (·.setIfInBounds j u) {cls:=.type "list",data:=.seq its.toArray n} = {cls:=.type "list",data:=.seq (its.set j u).toArray n}:=by
 simp[Kh]
theorem Inv.lst{pins:List (Addr×Obj)}{Z:St}{H:Hp}{s:Ag}{p:Addr}{xs:List V}(I:Inv X pins Z H s)(h:H p=some (.lst xs)):
  ∃(its:List Ae) (n:Nat),a8 xs its/\s.heap.get? p=some {cls:=.type "list",data:=.seq its.toArray n}/\xs.length<=Am:=by
 obtain⟨z,its,n,r,e⟩:=I.hok p _ h;exact⟨its,n,r,e,z⟩
theorem Inv.lstUpd{pins:List (Addr×Obj)}{Z:St}{H:Hp}{s:Ag}{p:Addr}{xs ys:List V}{its its':List Ae}{n n':Nat}{f:Obj->Obj}(I:Inv X pins Z H s)(h:H p=some (.lst xs))(ho:s.heap.get? p=some {cls:=.type "list",data:=.seq its.toArray n})(hf:f {cls:=.type "list",data:=.seq its.toArray n} = {cls:=.type "list",data:=.seq its'.toArray n'})(r:a8 ys its')(hz:ys.length<=Am)(t:Nat):
  Inv X pins Z (aX H p (.lst ys)) {s with heap:=s.heap.update p f,toks:=t}:=by
 have e:(s.heap.update p f).get? p=some {cls:=.type "list",data:=.seq its'.toArray n'}:=by
  rw[Fz f ho (by rw[hf]<;>rfl),hf]
 refine I.write (x:=p) (e:=p) (by rw[h];trivial) (.inl rfl) (λb u hb q=>(Gu _ _ (Bt hb)).trans q) ⟨_,e⟩ ?_;exact⟨hz,its',n',r,e⟩
def RC:V->V->V->Hp->(Hp->Prop)->Prop:=λo i v H Q=>∃p xs k j,o=.ref p/\i=.int k/\H p=some (.lst xs)/\iD xs.length k=some j/\Q (aX H p (.lst (xs.set j v)))
theorem RD:rX X RC:=by
 intro pins s Z H o i v ov iv u Q I ro ri rv h;obtain⟨p,xs,k,j,rfl,rfl,hp,hj,q⟩:=h;cases ro;obtain⟨t,rfl⟩:=ri;obtain⟨its,n,r,ho,hz⟩:=I.lst hp;obtain⟨h1,h2,h3,h4⟩:=EH hj;have hl:=r.length;have hn:=nC;have I':Inv X pins Z (aX H p (.lst (xs.set j v))) {s with heap:=s.heap.update p (Kh (·.setIfInBounds j u))}:=
  I.lstUpd hp ho (RB its n j u) (r.set rv j) (by rw[List.length_set];exact hz) s.toks
 by_cases h0:0<=k
 .have hk:k.toNat=j:=by
   rw[seqIndex_of h0 h4]at h1;exact Cj h1
  exact PySem.W.ki_setAt ho h0 (by lia) (by rw[Ax,<-hl];exact h4) (by rw[hk];exact⟨_,I',q⟩)
 .have hk:(k+(its.toArray.size:Int)).toNat=j:=by
   rw[seqIndex_neg (by lia) h3]at h1;rw[Ax,<-hl];exact Cj h1
  exact PySem.W.ki_setBack ho (by lia) (by rw[Ax,<-hl];exact h3) (by lia) (by rw[hk];exact⟨_,I',q⟩)
theorem RE(lo hi:Option Int)(n:Nat):(Kb lo hi none n).1=((HT.sIx n 0 lo:Nat):Int)/\(Kb lo hi none n).2.1=((HT.sIx n n hi:Nat):Int)/\(Kb lo hi none n).2.2=1:=by
 refine⟨?_,?_,rfl⟩
 .cases lo with
  | none=>simp[Kb,HT.sIx]
  | some i=>
   simp only[Kb,HT.sIx,Option.getD_none,show(1:Int) > 0 by decide,if_true]
   by_cases h:i<0
   .simp only[h,if_true]<;>lia
   .simp only[h,if_false]<;>lia
 .cases hi with
  | none=>simp[Kb,HT.sIx]
  | some i=>
   simp only[Kb,HT.sIx,Option.getD_none,show(1:Int) > 0 by decide,if_true]
   by_cases h:i<0
   .simp only[h,if_true]<;>lia
   .simp only[h,if_false]<;>lia
theorem RF(its:List Ae)(lo hi:Option Int):slicePick its.toArray lo hi none=((its.drop (HT.sIx its.length 0 lo)).take (HT.sIx its.length its.length hi-HT.sIx its.length 0 lo)).toArray:=by
 obtain⟨h1,h2,h3⟩:=RE lo hi its.toArray.size;unfold slicePick;rw[h1,h2,h3];simp only[sliceRange_one,pick_run,Ax]<;>rfl
def RG(K:Ac):V->Option Int->Option Int->Hp->VK->Prop:=λx lo hi H Q=>∃a xs,x=.ref a/\bN K H a xs/\∀p,H p=none->Q (.ref p) (aX H p (.lst (mG xs lo hi)))
theorem v8:sF X (RG X.K):=by
 intro pins s Z H x v vl vu lo hi sl Q I rx hs pl pu h;obtain⟨a,xs,rfl,hx,q⟩:=h;cases rx;obtain⟨its,r,ht,hz⟩:=I.list hx;have hlen:=r.length;refine⟨"list",_,slot_list_getitem.lookup,ht.isList.typeIs,?_⟩;refine wpAny_getItem_list_slice ht.isList hs pl pu .none (by simp) ?_ (by rw[Ax]<;>lia);rw[RF,<-hlen];refine⟨.ref s.heap.objs.size,_,I.laid (t':=s.toks) (o:=.lst (mG xs lo hi)) (λb ob q=>Af _ q) (An _) ?_,rfl,q _ (I.hok.fresh (An _))⟩;exact⟨Au (EG xs lo hi) hz,_,0,(r.drop (HT.sIx xs.length 0 lo)).take (HT.sIx xs.length xs.length hi-HT.sIx xs.length 0 lo),Ay _ rfl⟩
def kM:V->Bool
 | .non=>true
 | .bl _=>true
 | .int _=>true
 | .str _=>true
 | _=>false
def kN:V->V->Bool
 | .non,.non=>true
 | .bl a,.bl b=>a==b
 | .bl a,.int b=>(if a then 1 else 0)==b
 | .int a,.bl b=>a==(if b then 1 else 0)
 | .int a,.int b=>a==b
 | .str a,.str b=>a==b
 | _,_=>false
theorem RH{A:Cq}{s:Ag}{y x:V}{u v:Ae}(ry:RelV y u)(rx:RelV x v)(fy:kM y=true)(fx:kM x=true):SeqAt.EqAt A s u v (kN y x):=by
 cases y with
 | non=>
  cases ry;cases x with
  | non=>cases rx;exact SeqAt.EqAt.same _
  | bl b=>cases rx;exact SeqAt.EqAt.none_bool b
  | int b=>obtain⟨t,rfl⟩:=rx;exact SeqAt.EqAt.none_int b t
  | str b=>obtain⟨t,rfl⟩:=rx;exact SeqAt.EqAt.none_str b t
  | _=>exact absurd (show false=true from fx) Av
 | bl a=>
  cases ry;cases x with
  | non=>cases rx;exact SeqAt.EqAt.bool_none a
  | bl b=>cases rx;exact SeqAt.EqAt.bool_bool a b
  | int b=>obtain⟨t,rfl⟩:=rx;exact SeqAt.EqAt.bool_int a b t
  | str b=>obtain⟨t,rfl⟩:=rx;exact SeqAt.EqAt.bool_str a b t
  | _=>exact absurd (show false=true from fx) Av
 | int a=>
  obtain⟨t',rfl⟩:=ry;cases x with
  | non=>cases rx;exact SeqAt.EqAt.int_none a t'
  | bl b=>cases rx;exact SeqAt.EqAt.int_bool a t' b
  | int b=>obtain⟨t,rfl⟩:=rx;exact SeqAt.EqAt.int_int a t' b t
  | str b=>obtain⟨t,rfl⟩:=rx;exact SeqAt.EqAt.int_str a t' b t
  | _=>exact absurd (show false=true from fx) Av
 | str a=>
  obtain⟨t',rfl⟩:=ry;cases x with
  | non=>cases rx;exact SeqAt.EqAt.str_none a t'
  | bl b=>cases rx;exact SeqAt.EqAt.str_bool a t' b
  | int b=>obtain⟨t,rfl⟩:=rx;exact SeqAt.EqAt.str_int a t' b t
  | str b=>obtain⟨t,rfl⟩:=rx;exact SeqAt.EqAt.str_str a t' b t
  | _=>exact absurd (show false=true from fx) Av
 | _=>exact absurd (show false=true from fy) Av
def iE(x:V)(u:Ae):Bool:=match u with
 | .none=>kN .non x
 | .bool b=>kN (.bl b) x
 | .int i _=>kN (.int i) x
 | .str z _=>kN (.str z) x
 | _=>false
theorem EK{x y:V}{u:Ae}(r:RelV y u)(f:kM y=true):iE x u=kN y x:=by
 cases y with
 | non=>cases r;rfl
 | bl b=>cases r;rfl
 | int i=>obtain⟨t,rfl⟩:=r;rfl
 | str z=>obtain⟨t,rfl⟩:=r;rfl
 | _=>exact absurd (show false=true from f) Av
theorem pT{x:V}:∀{xs:List V} {us:List Ae},a8 xs us->xs.all kM=true->us.any (iE x)=xs.any λy=>kN y x
 | _,_,.nil,_=>rfl
 | y::xs,u::us,.cons r t,f=>by
  rw[Jo,Cr]at f;rw[Fs,Fs,EK r f.1,pT t f.2]
theorem pU{A:Cq}{s:Ag}{x:V}{v:Ae}(rx:RelV x v)(fx:kM x=true):∀{xs:List V} {us:List Ae},a8 xs us->xs.all kM=true->∀u∈us,SeqAt.EqAt A s u v (iE x u)
 | _,_,.nil,_=>λu hu=>by cases hu
 | y::xs,u::us,.cons r t,f=>λu' hu=>by
  rw[Jo,Cr]at f;rcases Ar.mp hu with rfl|hu
  .rw[EK r f.1];exact RH r rx f.1 fx
  .exact pU rx fx t f.2 u' hu
def inV(x:V)(xs:List V):Bool:=xs.any λy=>kN y x
def rIn(K:Ac)(neg:Bool):R2:=λx y H Q=>∃p xs,y=.ref p/\(bN K H p xs\/bW K H p xs)/\kM x=true/\xs.all kM=true/\Q (.bl (if neg then !inV x xs else inV x xs)) H
theorem RI:bG X (Cb .In) (rIn X.K false):=by
 intro pins s Z H x y v u Q I rx ry h;obtain⟨p,xs,rfl,hq,fx,fs,q⟩:=h;cases ry;rcases hq with hq|hq
 .obtain⟨its,r,pl,hz⟩:=I.list hq;refine SeqAt.in_listAt (iE x) pl.isList (λw hw=>pU rx fx r fs w (by simpa using hw)) ⟨.bl _,H,I,rfl,?_⟩;rw[show its.toArray.any (iE x)=its.any (iE x) by simp,pT r fs];exact q
 .obtain⟨its,r,pl,hz⟩:=I.tuple hq;refine SeqAt.in_tupleAt (iE x) pl (λw hw=>pU rx fx r fs w (by simpa using hw)) ⟨.bl _,H,I,rfl,?_⟩;rw[show its.toArray.any (iE x)=its.any (iE x) by simp,pT r fs];exact q
theorem RJ:bG X (Cb .NotIn) (rIn X.K true):=by
 intro pins s Z H x y v u Q I rx ry h;obtain⟨p,xs,rfl,hq,fx,fs,q⟩:=h;cases ry;rcases hq with hq|hq
 .obtain⟨its,r,pl,hz⟩:=I.list hq;refine SeqAt.notIn_listAt (iE x) pl.isList (λw hw=>pU rx fx r fs w (by simpa using hw)) ⟨.bl _,H,I,rfl,?_⟩;rw[show its.toArray.any (iE x)=its.any (iE x) by simp,pT r fs];exact q
 .obtain⟨its,r,pl,hz⟩:=I.tuple hq;refine SeqAt.notIn_tupleAt (iE x) pl (λw hw=>pU rx fx r fs w (by simpa using hw)) ⟨.bl _,H,I,rfl,?_⟩;rw[show its.toArray.any (iE x)=its.any (iE x) by simp,pT r fs];exact q
theorem RK:dR X (.builtin "len") (λxs H Q=>∃p ys,xs=[.ref p]/\(bN X.K H p ys\/bW X.K H p ys)/\Q (.int ys.length) H):=by
 intro pins s Z H xs us Q I r h;obtain⟨p,ys,rfl,hq,q⟩:=h;obtain⟨u,rfl,rx⟩:=vals1 r;cases rx;have hn:=nC;rcases hq with hq|hq
 .obtain⟨its,r',pl,hz⟩:=I.list hq;have hlen:=r'.length;exact Calls.call_len_list pl.isList (by simp only[Ax]<;>lia) ⟨.int ys.length,H,I.tok _,⟨s.toks+1,by rw[Ax,hlen]⟩,q⟩
 .obtain⟨its,r',pl,hz⟩:=I.tuple hq;have hlen:=r'.length;exact len_tuple pl (by simp only[Ax]<;>lia) ⟨.int ys.length,H,I.tok _,⟨s.toks+1,by rw[Ax,hlen]⟩,q⟩
theorem RL:dR X (.builtin "len") (λxs H Q=>∃z,xs=[.str z]/\z.length<=Am/\Q (.int z.length) H):=by
 intro pins s Z H xs us Q I r h;obtain⟨z,rfl,hz,q⟩:=h;obtain⟨u,rfl,t,rfl⟩:=vals1 r;have hn:=nC;exact len_str (by lia) ⟨.int z.length,H,I.tok _,⟨_,rfl⟩,q⟩
theorem dR.or{f:Ae}{r r':List V->Hp->VK->Prop}(h:dR X f r)(h':dR X f r'):dR X f (λxs H Q=>r xs H Q\/r' xs H Q):=by
 intro pins s Z H xs us Q I rs q;rcases q with q|q
 .exact h pins s Z H xs us Q I rs q
 .exact h' pins s Z H xs us Q I rs q
theorem RM:dR X (.type "list") (λxs H Q=>∃p ys,xs=[.ref p]/\(bN X.K H p ys\/bW X.K H p ys)/\∀l,H l=none->Q (.ref l) (aX H l (.lst ys))):=by
 intro pins s Z H xs us Q I r h;obtain⟨p,ys,rfl,hq,q⟩:=h;obtain⟨u,rfl,rx⟩:=vals1 r;cases rx;have fin:∀(its:List Ae),a8 ys its->ys.length<=Am->∀(h':Heap) (c':Nat),(∀b o',s.heap.get? b=some o'->h'.get? b=some o')->
   h'.get? s.heap.objs.size=some {cls:=.type "list",dict:=none,data:=.seq its.toArray c',slots:=#[]}->EP X pins Z Q (.ref s.heap.objs.size) {s with heap:=h'}:=λits r' hz h' c' kp e=>
  ⟨.ref s.heap.objs.size,_,I.laid (t':=s.toks) kp (An _) (show cX X.prog X.w _ h' _ (.lst ys) from⟨hz,its,c',r',e⟩),rfl,q _ (I.hok.fresh (An _))⟩
 rcases hq with hq|hq
 .obtain⟨its,r',pl,hz⟩:=I.list hq;have hlen:=r'.length;obtain⟨o,ho,hc,n,hd⟩:=pl.isList;exact call_list_seq p (.inl rfl) ho hc hd (λh' c' kp e=>fin its r' hz h' c' kp e) (by simp only[Ax]<;>lia)
 .obtain⟨its,r',pl,hz⟩:=I.tuple hq;have hlen:=r'.length;obtain⟨o,ho,hc,n,hd⟩:=pl;exact call_list_seq p (.inr rfl) ho hc hd (λh' c' kp e=>fin its r' hz h' c' kp e) (by simp only[Ax]<;>lia)
theorem RN:dR X (.type "tuple") (λxs H Q=>∃p ys,xs=[.ref p]/\((bN X.K H p ys/\∀l,H l=none->Q (.ref l) (aX H l (.tup ys)))\/(bW X.K H p ys/\Q (.ref p) H))):=by
 intro pins s Z H xs us Q I r h;obtain⟨p,ys,rfl,h⟩:=h;obtain⟨u,rfl,rx⟩:=vals1 r;cases rx;rcases h with⟨hq,q⟩|⟨hq,q⟩
 .obtain⟨its,r',pl,hz⟩:=I.list hq;have hlen:=r'.length;refine call_tuple_list pl.isList (λh' kp=>?_) (by simp only[Ax]<;>lia);have I1:Inv X pins Z H {s with heap:=h'}:=I.kept (t':=s.toks) kp;have I2:Inv X pins Z (aX H h'.objs.size (.tup ys)) {s with heap:=h'.push {cls:=.type "tuple",data:=.seq its.toArray}}:=
   I1.laid (t':=s.toks) (λb o e=>Af _ e) (An _) (show cX X.prog X.w _ _ _ (.tup ys) from⟨hz,its,r',IsTup.new _ _⟩)
  exact⟨.ref h'.objs.size,_,I2,rfl,q _ (I1.hok.fresh (An _))⟩
 .obtain⟨its,r',pl,hz⟩:=I.tuple hq;exact call_tuple_same pl ⟨.ref p,H,I,rfl,q⟩
def sG(K:Ac)(T:String)(x:V)(H:Hp):Prop:=match x with
 | .str _=>T = "str"
 | .int _=>T = "int"
 | .ref p=>(T = "list"/\∃xs,bN K H p xs)\/(T = "tuple"/\∃o,K.lookup p=some o/\o.cls=.type "tuple"/\o.dict=none)\/
   (T = "dict"/\((∃kvs,Rd H p (.dK kvs))\/∃kvs,Rd H p (.dT kvs)))\/(T = "set"/\∃S n,H p=some (.set S n))
 | _=>False
theorem EL{pins:List (Addr×Obj)}{Z:St}{H:Hp}{s:Ag}{T:String}{x:V}{v:Ae}(I:Inv X pins Z H s)(r:RelV x v)(ty:sG X.K T x H):
  s.TypeIs v T/\∀a,v=.ref a->∃ob,s.heap.get? a=some ob/\ob.dict=none:=by
 cases x with
 | str z=>
  obtain⟨t,rfl⟩:=r;cases (show T = "str" from ty);exact⟨typeIs_str s z t,λ_ e=>nomatch e⟩
 | int i=>
  obtain⟨t,rfl⟩:=r;cases (show T = "int" from ty);exact⟨typeIs_int s i t,λ_ e=>nomatch e⟩
 | ref p=>
  cases r;rcases ty with⟨rfl,xs,hq⟩|⟨rfl,o,hk,hc,hd⟩|⟨rfl,hk⟩|⟨rfl,S,n,hk⟩
  .obtain⟨its,_,pl,_⟩:=I.list hq;refine⟨pl.isList.typeIs,λa e=>?_⟩;cases e;obtain⟨o,n,e,c,hd,_⟩:=pl;exact⟨o,e,hd⟩
  .refine⟨⟨o,I.kIn p o hk,hc⟩,λa e=>?_⟩;cases e;exact⟨o,I.kIn _ o hk,hd⟩
  .have z:∃o,s.heap.get? p=some o/\o.ExactDict:=by
    rcases hk with⟨kvs,hk⟩|⟨kvs,hk⟩
    .obtain⟨_,_,_,_,o,_,_,e,ex,_⟩:=hk.ok I.hok;exact⟨o,e,ex⟩
    .obtain⟨_,_,_,_,o,_,_,e,ex,_⟩:=hk.ok I.hok;exact⟨o,e,ex⟩
   obtain⟨o,e,ex⟩:=z;refine⟨⟨o,e,ex.1⟩,λa e2=>?_⟩;cases e2;exact⟨o,e,ex.2.1⟩
  .obtain⟨o,_,_,_,e,ex,_⟩:=I.hok p _ hk;refine⟨⟨o,e,ex.1⟩,λa e2=>?_⟩;cases e2;exact⟨o,e,ex.2.1⟩
 | _=>exact Dx ty
def RO(K:Ac)(T:String)(r:V->List V->Hp->VK->Prop)(to:TE):TE:=λZ H Q=>to Z H λx H1=>sG K T x H1/\r x [] H1 Q
def RP(K:Ac)(T:String)(r:V->List V->Hp->VK->Prop)(to:TE)(t:TA):TE:=λZ H Q=>to Z H λx H1=>sG K T x H1/\t Z H1 λxs H2=>r x xs H2 Q
variable {o e:Expr}{es:List Expr}{to:TE}{t:TA}{name:Str}{apos cpos:Pos}{T id:String}{r:V->List V->Hp->VK->Prop}
theorem RQ(pa:PlainAttrs T)(slot:Slot T name id)(hty:typeOf (.builtin id)=pure (.type "method_descriptor"))(hm:jI X id r)(ho:PE X o to)(hbase:Iy o name X.env (eval o X.env)=eval o X.env:=by rfl)(hline:(apos.endLine==cpos.line)=true:=by rfl):PE X (.Call (.Attribute o name apos) [] [] cpos) (RO X.K T r to):=by
 intro pins s Z H Q I h;refine wpAny_Call_method0_late hbase hline (bA (ho pins s Z H _ I h) λv s1 ⟨x,H1,I1,r1,ty,q1⟩=>?_);obtain⟨h1,h2⟩:=EL I1 r1 ty;exact⟨T,id,pa,slot,hty,h1,h2,Calls.callWith_builtin rfl (PySem.evalArgs_none (hm pins s1 Z H1 x [] v [] Q I1 r1 .nil q1))⟩
theorem RS(pa:PlainAttrs T)(slot:Slot T name id)(hty:typeOf (.builtin id)=pure (.type "method_descriptor"))(hm:jI X id r)(ho:PE X o to)(ha:PA X (e::es) t)(hbase:Iy o name X.env (eval o X.env)=eval o X.env:=by rfl)(hfew:((Gf cpos (Be (e::es) X.env)).all (λx=>!x.1)&&(backToKw cpos (Lc [] X.env)).all (λx=>x.1.isSome)
  &&decide ((e::es).length+([]:List Keyword).length+(if ([]:List Keyword).isEmpty then 0 else 1)<30))=true:=by rfl)(hline:(apos.endLine==cpos.line)=true:=by rfl)(hs:Be (e::es) X.env=(false,eval e X.env)::Be es X.env:=by rfl)(hplain:(Gf cpos (Be es X.env)).any (·.1)=false:=by rfl):
  PE X (.Call (.Attribute o name apos) (e::es) [] cpos) (RP X.K T r to t):=by
 intro pins s Z H Q I h;refine wpAny_Call_method_late hbase hfew hline rfl (bA (ho pins s Z H _ I h) λv s1 ⟨x,H1,I1,r1,ty,q1⟩=>?_);obtain⟨h1,h2⟩:=EL I1 r1 ty;refine⟨T,id,pa,slot,hty,h1,h2,?_⟩;have hA:=ha cpos pins s1 Z H1 _ I1 q1;rw[hs]at hA⊢;refine Calls.callWith_builtin (by show(false||(Gf cpos (Be es X.env)).any (·.1))=false;rw[hplain]<;>rfl) (Calls.evalArgs_plain ?_);exact bA hA λus s2 ⟨vs,H2,I2,r2,q2⟩=>hm pins s2 Z H2 x vs v us Q I2 r1 r2 q2
end
def sH(X:Cx)(id:String)(r:V->List V->Hp->VK->Prop):Prop:=
 ∀(pins:List (Addr×Obj)) (s:Ag) (Z:St) (H:Hp) (x:V) (xs:List V) (v:Ae) (us:List Ae) (Q:VK),Inv X pins Z H s->RelV x v->a8 xs us->r x xs H Q->
  Bc (Bn X.prog X.w) X.A (call (.builtin id) (v::us)) (EP X pins Z Q) X.xe s
theorem a8.one:∀{x:V} {us:List Ae},a8 [x] us->∃u,us=[u]/\RelV x u
 | _,_,.cons r .nil=>⟨_,rfl,r⟩
theorem a8.zero:∀{us:List Ae},a8 [] us->us=[]
 | _,.nil=>rfl
theorem a8.dropLast{xs:List V}{us:List Ae}(h:a8 xs us):a8 xs.dropLast us.dropLast:=by
 induction h with
 | nil=>exact .nil
 | cons r t ih=>
  cases t with
  | nil=>exact .nil
  | cons q t'=>exact .cons r ih
theorem a8.rep{xs:List V}{us:List Ae}(h:a8 xs us):∀k:Nat,a8 (Bw k xs).flatten (Bw k us).flatten
 | 0=>.nil
 | k+1=>by
  rw[Fp,Fp,Ef,Ef];exact a8.append h (a8.rep h k)
theorem RT{O:Type}(l:List O):l.eraseIdx (l.length-1)=l.dropLast:=by
 induction l with
 | nil=>rfl
 | cons a r ih=>
  cases r with
  | nil=>rfl
  | cons b r=>
   have e:(a::b::r).length-1=((b::r).length-1)+1:=by
    have h1:(a::b::r).length=r.length+2:=rfl;have h2:(b::r).length=r.length+1:=rfl;lia
   rw[e,List.eraseIdx_cons_succ,ih]
   all_goals rfl
theorem foldl_rep(its:List Ae):∀(k:Nat) (acc:List Ae),
  List.foldl (λx1 x2=>x1++x2) acc.toArray (Bw k its.toArray)=(acc++(Bw k its).flatten).toArray
 | 0,acc=>by simp
 | k+1,acc=>by
  have e:acc.toArray++its.toArray=(acc++its).toArray:=by simp
  have e2:(acc++its)++(Bw k its).flatten=acc++(Bw (k+1) its).flatten:=by
   rw[Fp,Ef,De]
  rw[<-e2,<-foldl_rep its k (acc++its),<-e,Fp,Ea]
section
variable {X:Cx}{pins:List (Addr×Obj)}{Z:St}{H:Hp}{s:Ag}{l b:Addr}{xs ys zs:List V}
theorem Inv.lset{its its':List Ae}{n:Nat}{f:Array Ae->Array Ae}{t':Nat}(I:Inv X pins Z H s)(hH:H l=some (.lst xs))(e:s.heap.get? l=some {cls:=.type "list",data:=.seq its.toArray n})(hf:f its.toArray=its'.toArray)(hv:a8 ys its')(hz:ys.length<=Am):
  Inv X pins Z (aX H l (.lst ys)) {s with heap:=s.heap.update l (Kh f),toks:=t'}:=by
 have q:=PySem.IsL.update e f;rw[hf]at q;refine I.write (x:=l) (e:=l) (by rw[hH];exact trivial) (.inl rfl) (λb' u hb hu=>(Gu s.heap (Kh f) (Bt hb)).trans hu) ⟨_,q⟩ ?_;exact⟨hz,its',_,hv,q⟩
theorem Inv.lnew{its:List Ae}{t':Nat}(I:Inv X pins Z H s)(hv:a8 ys its)(hz:ys.length<=Am):
  Inv X pins Z (aX H s.heap.objs.size (.lst ys)) {s with heap:=s.heap.push {cls:=.type "list",data:=.seq its.toArray},toks:=t'}:=
 I.laid (λ_ _ q=>Af _ q) (An _) ⟨hz,its,0,hv,Ay _ rfl⟩
theorem Inv.fresh(I:Inv X pins Z H s):H s.heap.objs.size=none:=I.hok.fresh (An _)
theorem Inv.lstM(I:Inv X pins Z H s)(hH:H l=some (.lst xs)):xs.length<=Am/\∃(its:List Ae) (n:Nat),a8 xs its/\xs.length=its.length/\s.heap.get? l=some {cls:=.type "list",data:=.seq its.toArray n}:=by
 obtain⟨z,its,n,r,e⟩:=I.hok l _ hH;exact⟨z,its,n,r,r.length,e⟩
theorem EM{n:Nat}(h:n<=Am):Hk n=false:=by
 unfold Hk;exact decide_eq_false (by lia)
end
section
variable {X:Cx}
def rAppend:V->List V->Hp->VK->Prop:=λx vs H Q=>∃l xs y,x=.ref l/\vs=[y]/\H l=some (.lst xs)/\xs.length<Am/\Q .non (aX H l (.lst (xs++[y])))
theorem EN:sH X "list.append" rAppend:=by
 intro pins s Z H x vs v us Q I rx rv h;obtain⟨l,xs,y,rfl,rfl,hH,hz,q⟩:=h;cases rx;obtain⟨u,rfl,ru⟩:=rv.one;obtain⟨z,its,n,r,hl,e⟩:=I.lstM hH;refine Jz Ce ⟨_,e,rfl⟩ F.entry_list_append (F.args_list_append_2 _ _) (PySem.list_append l its.toArray n u (by rw[Ax];lia)) ⟨e,?_⟩;refine⟨.non,_,I.lset (its':=its++[u]) hH e (by simp) (r.append (.cons ru .nil)) ?_,rfl,q⟩;rw[Ah,Bo];lia
def rExtend:V->List V->Hp->VK->Prop:=λx vs H Q=>∃l b xs zs,x=.ref l/\vs=[.ref b]/\H l=some (.lst xs)/\H b=some (.lst zs)/\xs.length+zs.length<=Am/\Q .non (aX H l (.lst (xs++zs)))
theorem EO:sH X "list.extend" rExtend:=by
 intro pins s Z H x vs v us Q I rx rv h;obtain⟨l,b,xs,zs,rfl,rfl,hH,hB,hz,q⟩:=h;cases rx;obtain⟨u,rfl,ru⟩:=rv.one;cases ru;obtain⟨z,its,n,r,hl,e⟩:=I.lstM hH;obtain⟨z2,its2,n2,r2,hl2,e2⟩:=I.lstM hB;have hsz:its.toArray.size+its2.toArray.size<=Am:=by rw[Ax,Ax];lia
 have hlong:¬(!its.toArray.isEmpty&&Hk (its.toArray.size+its2.toArray.size))=true:=by
  rw[EM hsz,Bool.and_false];exact Av
 refine Jz F.slot_list_extend ⟨_,e,rfl⟩ F.entry_list_extend (F.args_list_extend_2 _ _)
  (AutoSeq1.list_extend_list_list_0 l its.toArray n b its2.toArray n2 hlong (by rw[Ax];lia) (by lia)) ⟨e,e2,?_⟩
 refine⟨.non,_,I.lset (its':=its++its2) hH e (by simp) (r.append r2) ?_,rfl,q⟩;rw[Ah];lia
def rPop:V->List V->Hp->VK->Prop:=λx vs H Q=>∃l xs y,x=.ref l/\vs=[]/\H l=some (.lst xs)/\xs[xs.length-1]? = some y/\Q y (aX H l (.lst xs.dropLast))
theorem RU:sH X "list.pop" rPop:=by
 intro pins s Z H x vs v us Q I rx rv h;obtain⟨l,xs,y,rfl,rfl,hH,hy,q⟩:=h;cases rx;have hus:=rv.zero;subst hus;obtain⟨z,its,n,r,hl,e⟩:=I.lstM hH;obtain⟨u,hu,ru⟩:=r.get hy;have hy':its.toArray[its.toArray.size-1]? = some u:=by
  show its.toArray[its.length-1]? = some u;rw[<-Fy,<-hl];exact hu
 refine Jz Ls ⟨_,e,rfl⟩ F.entry_list_pop (F.args_list_pop_1 _) (MeetsSeq.list_pop_last l its.toArray n u hy' (by rw[Ax];lia)) ⟨e,?_⟩;refine⟨y,_,I.lset (its':=its.dropLast) hH e ?_ r.dropLast ?_,ru,q⟩
 .show its.toArray.eraseIdxIfInBounds (its.toArray.size-1)=its.dropLast.toArray;rw[Ax,List.eraseIdxIfInBounds_toArray,RT]
 .rw[List.length_dropLast];lia
def RV:R2:=λx y H Q=>∃l b xs zs,x=.ref l/\y=.ref b/\H l=some (.lst xs)/\H b=some (.lst zs)/\xs.length+zs.length<=Am/\∀p,H p=none->Q (.ref p) (aX H p (.lst (xs++zs)))
theorem RW:bG X (Ff .Add) RV:=by
 intro pins s Z H x y v u Q I rx ry h;obtain⟨l,b,xs,zs,rfl,rfl,hH,hB,hz,q⟩:=h;cases rx;cases ry;obtain⟨z,its,n,r,hl,e⟩:=I.lstM hH;obtain⟨z2,its2,n2,r2,hl2,e2⟩:=I.lstM hB;refine PySem.P.add_list e e2 ?_ (by rw[Ax,Ax];lia);have ea:its.toArray++its2.toArray=(its++its2).toArray:=by simp
 rw[ea];exact⟨.ref _,_,I.lnew (t':=s.toks) (r.append r2) (by rw[Ah];lia),rfl,q _ I.fresh⟩
def RX:R2:=λx y H Q=>∃l k xs,x=.ref l/\y=.int k/\H l=some (.lst xs)/\-(2 ^ 63)<=k/\k<2 ^ 63/\xs.length*k.toNat<=Am/\
 ∀p,H p=none->Q (.ref p) (aX H p (.lst (Bw k.toNat xs).flatten))
theorem RY{O:Type}(xs:List O)(k:Nat):(Bw k xs).flatten.length=k*xs.length:=by
 induction k with
 | zero=>simp
 | succ k ih=>rw[Fp,Ef,Ah,ih,Nat.succ_mul,Nat.add_comm]
theorem RZ:bG X (Ff .Mult) RX:=by
 intro pins s Z H x y v u Q I rx ry h;obtain⟨l,k,xs,rfl,rfl,hH,h1,h2,hz,q⟩:=h;cases rx;obtain⟨t,rfl⟩:=ry;obtain⟨z,its,n,r,hl,e⟩:=I.lstM hH;have hlen:its.toArray.size*k.toNat<=Am:=by rw[Ax,<-hl];exact hz
 have hcap:¬its.toArray.size*k.toNat > (2 ^ 63-1)/8:=by
  have:(Am:Nat)<=(2 ^ 63-1)/8:=by decide
  lia
 have hfit:¬(!Builtin.List.listFitsIndex k)=true:=by
  rw[fitsIndex_both h1 h2];exact Av
 have hlong:¬Hk (its.toArray.size*k.toNat)=true:=by
  rw[EM hlen];exact Av
 have hnew:List.foldl (λx1 x2=>x1++x2) #[] (Bw (if its.toArray.isEmpty=true then 0 else k.toNat) its.toArray)=(Bw k.toNat its).flatten.toArray:=by
  have f0:∀m:Nat,List.foldl (λx1 x2=>x1++x2) #[] (Bw m its.toArray)=(Bw m its).flatten.toArray:=λm=>by
   have:=foldl_rep its m [];rw[Gw]at this;exact this
  rw[f0];cases its with
  | nil=>simp
  | cons a r'=>rw[if_neg (by simp)]
 refine wpAny_binaryOp_repeat_ref (T:="list") (U:="int") (by decide) ⟨_,e,rfl⟩ (λs'=>typeIs_int s' k t) noFill_list_mul F.fills_int_mul F.slot_int_rmul repeat_list F.slot_int_index.lookup
  (Jz F.slot_int_rmul (typeIs_int s k t) F.entry_int_rmul (F.args_int_rmul_2 _ _) (int___rmul___int_list k t l its.toArray n)
   ⟨e,rfl,⟨_,e,rfl⟩,Jz F.slot_list_mul ⟨_,e,rfl⟩ F.entry_list_mul (F.args_list_mul_2 _ _) (AutoListH.list___mul___list_int_3 l its.toArray n k t hfit hcap hlong) ⟨e,?_⟩⟩)
 rw[hnew];exact⟨.ref _,_,I.lnew (t':=s.toks) (r.rep k.toNat) (by rw[RY,Nat.mul_comm];exact hz),rfl,q _ I.fresh⟩
end
section
variable {U:Type}[DecidableEq U]
def gH(kvs:List (U×V))(k:U):Option V:=(kvs.find? λkv=>decide (kv.1=k)).map (·.2)
def fU(kvs:List (U×V))(k:U)(v:V):List (U×V):=
 if (kvs.any λkv=>decide (kv.1=k))=true then kvs.map (λkv=>if kv.1=k then(kv.1,v) else kv) else kvs++[(k,v)]
def nE(kvs:List (U×V))(k:U):List (U×V):=kvs.filter λkv=>decide (kv.1≠k)
theorem sI{p:U×V}{r:List (U×V)}{k:U}(e:p.1=k):gH (p::r) k=some p.2:=by simp[gH,Fe,e]
theorem sJ{p:U×V}{r:List (U×V)}{k:U}(e:¬p.1=k):gH (p::r) k=gH r k:=by simp[gH,Fe,e]
theorem ER(k:U):∀kvs:List (U×V),(kvs.any λkv=>decide (kv.1=k))=(gH kvs k).isSome
 | []=>rfl
 | p::r=>by
  rw[Fs]
  by_cases e:p.1=k
  .simp only[sI e,decide_eq_true e,Bool.true_or,Option.isSome_some]
  .rw[sJ e,decide_eq_false e,Bool.false_or];exact ER k r
theorem sL(kvs:List (U×V))(k:U)(v:V):(fU kvs k v).length<=kvs.length+1:=by
 unfold fU;split
 .rw[Aa];lia
 .rw[Ah,Az,Gy];lia
theorem f6.isSome_eq{o:Option V}{u:Option Ae}(r:f6 o u):o.isSome=u.isSome:=by
 cases o with
 | none=>cases u with
  | none=>rfl
  | some _=>exact(show False from r).elim
 | some _=>cases u with
  | none=>exact(show False from r).elim
  | some _=>rfl
theorem f6.getD{o:Option V}{u:Option Ae}{d:V}{d':Ae}(r:f6 o u)(rd:RelV d d'):RelV (o.getD d) (u.getD d'):=by
 cases o with
 | none=>cases u with
  | none=>exact rd
  | some _=>exact(show False from r).elim
 | some _=>cases u with
  | none=>exact(show False from r).elim
  | some _=>exact r
theorem KV.val{kvs:List (U×V)}{vs:List (U×Ae)}(r:KV kvs vs)(k:U):f6 (gH kvs k) (valueAt vs k):=by
 unfold KV at r
 induction r with
 | nil=>exact True.intro
 | @cons p q ps qs h t ih=>
  obtain⟨h1,h2⟩:=h
  by_cases e:p.1=k
  .have e':q.1=k:=h1.symm.trans e;have b:valueAt (q::qs) k=some q.2:=by simp[valueAt,Fe,e']
   rw[sI e,b];exact h2
  .have e':¬q.1=k:=λz=>e (h1.trans z);have b:valueAt (q::qs) k=valueAt qs k:=by simp[valueAt,Fe,e']
   rw[sJ e,b];exact ih
theorem KV.any{kvs:List (U×V)}{vs:List (U×Ae)}(r:KV kvs vs)(k:U):(kvs.any λkv=>decide (kv.1=k))=vs.any λkv=>decide (kv.1=k):=by
 unfold KV at r
 induction r with
 | nil=>rfl
 | cons h t ih=>rw[Fs,Fs,ih,h.1]
theorem KV.repl{kvs:List (U×V)}{vs:List (U×Ae)}(r:KV kvs vs)(k:U){y:V}{u:Ae}(ry:RelV y u):
  KV (kvs.map λkv=>if kv.1=k then(kv.1,y) else kv) (vs.map λkv=>if kv.1=k then(kv.1,u) else kv):=by
 unfold KV at r⊢
 induction r with
 | nil=>exact .nil
 | @cons p q ps qs h t ih=>
  rw[Bd,Bd];refine .cons ?_ ih;obtain⟨h1,h2⟩:=h
  by_cases e:p.1=k
  .rw[if_pos e,if_pos (h1.symm.trans e)];exact⟨h1,ry⟩
  .rw[if_neg e,if_neg (λz=>e (h1.trans z))];exact⟨h1,h2⟩
theorem KV.put{kvs:List (U×V)}{vs:List (U×Ae)}(r:KV kvs vs)(k:U){y:V}{u:Ae}(ry:RelV y u):KV (fU kvs k y) (stored vs k u):=by
 unfold fU stored;rw[r.any k]
 by_cases e:(vs.any λkv=>decide (kv.1=k))=true
 .rw[if_pos e,if_pos e];exact r.repl k ry
 .rw[if_neg e,if_neg e];exact Paired.snoc r ⟨rfl,ry⟩
theorem KV.length{kvs:List (U×V)}{vs:List (U×Ae)}(r:KV kvs vs):kvs.length=vs.length:=Eg r
theorem R0(kvs:List (U×V))(k:U):(nE kvs k).length<=kvs.length:=He _ _
end
theorem mH{P:Bv}{w:Cp}{k:aK}{u:Ae}(r:RelV (kV k) u):(d6 P w).is k u=true:=by
 cases k with
 | inl i=>obtain⟨t,e⟩:=(show ∃t,u=Value.int i t from r);subst e;exact MR P w i t
 | inr x=>obtain⟨t,e⟩:=(show ∃t,u=Value.str x t from r);subst e;exact MS P w x t
theorem ES{P:Bv}{w:Cp}:∀{ks:List aK} {us:List Ae},a8 (ks.map kV) us->ItemsAre (d6 P w) ks us
 | [],_,r=>by rw[Ka]at r;cases r;exact .nil
 | k::ks,_,r=>by
  rw[Bd]at r;cases r with
  | cons h t=>exact .cons (mH h) (ES t)
abbrev KT(H:Hp):List (List aK×V)->List (List aK×Addr×Ae)->Prop:=Gj λp q=>p.1=q.1/\H q.2.1=some (.tup (p.1.map kV))/\RelV p.2 q.2.2
theorem KT.val{H:Hp}{kvs:List (List aK×V)}{xs:List (List aK×Addr×Ae)}(r:KT H kvs xs)(k:List aK):f6 (gH kvs k) ((Lk xs k).map (·.2)):=by
 induction r with
 | nil=>exact True.intro
 | @cons p q ps qs h t ih=>
  obtain⟨h1,_,h2⟩:=h
  by_cases e:p.1=k
  .have e':q.1=k:=h1.symm.trans e;have b:Lk (q::qs) k=some q.2:=by simp[Lk,Fe,e']
   rw[sI e,b];exact h2
  .have e':¬q.1=k:=λz=>e (h1.trans z);have b:Lk (q::qs) k=Lk qs k:=by simp[Lk,Fe,e']
   rw[sJ e,b];exact ih
theorem KT.repl{H:Hp}{kvs:List (List aK×V)}{xs:List (List aK×Addr×Ae)}(r:KT H kvs xs)(k:List aK){y:V}{u:Ae}(ry:RelV y u):
  KT H (kvs.map λkv=>if kv.1=k then(kv.1,y) else kv) (xs.map (putAt k u)):=by
 induction r with
 | nil=>exact .nil
 | @cons p q ps qs h t ih=>
  rw[Bd,Bd];refine .cons ?_ ih;obtain⟨h1,h2,h3⟩:=h;unfold putAt
  by_cases e:p.1=k
  .rw[if_pos e,if_pos (h1.symm.trans e)];exact⟨h1,h2,ry⟩
  .rw[if_neg e,if_neg (λz=>e (h1.trans z))];exact⟨h1,h2,h3⟩
theorem KT.put{H:Hp}{kvs:List (List aK×V)}{xs:List (List aK×Addr×Ae)}(r:KT H kvs xs)(k:List aK){b:Addr}{y:V}{u:Ae}(hb:H b=some (.tup (k.map kV)))(ry:RelV y u):
  KT H (fU kvs k y) (storedH xs k b u):=by
 have e:(kvs.any λkv=>decide (kv.1=k))=(Lk xs k).isSome:=by
  rw[ER,(r.val k).isSome_eq,Option.isSome_map]
 unfold fU storedH;rw[e]
 by_cases q:(Lk xs k).isSome=true
 .rw[if_pos q,if_pos q];exact r.repl k ry
 .rw[if_neg q,if_neg q];exact Paired.snoc r ⟨rfl,hb,ry⟩
theorem KT.keeps{H H':Hp}{kvs:List (List aK×V)}{xs:List (List aK×Addr×Ae)}(r:KT H kvs xs)(ht:∀b ys,H b=some (.tup ys)->H' b=some (.tup ys)):KT H' kvs xs:=
 Paired.mapP r λ_ _ z=>⟨z.1,ht _ _ z.2.1,z.2.2⟩
section
variable {P:Bv}{w:Cp}{H:Hp}{h:Heap}{a:Addr}
theorem ET{u:HO}(ok:dA P w H h)(e:Rd H a u):cX P w H h a u:=e.ok ok
theorem mI{kvs:List (aK×V)}(ok:dA P w H h)(e:Rd H a (.dK kvs)):kvs.length<=Am/\(a==Fq)=false/\∃vs,KV kvs vs/\h.DictOf (d6 P w) a vs:=
 show cX P w H h a (.dK kvs) from ET ok e
theorem R1{kvs:List (aK×V)}(ok:dA P w H h)(e:H a=some (.dK kvs)):kvs.length<=Am/\(a==Fq)=false/\∃vs,KV kvs vs/\h.DictOf (d6 P w) a vs:=mI ok (.inl e)
theorem kO{ks:List aK}(ok:dA P w H h)(e:H a=some (.tup (ks.map kV))):(Gb (d6 P w)).is h ks a:=by
 obtain⟨_,its,r,o,h1,h2,n,h3⟩:=(show cX P w H h a (.tup (ks.map kV)) from ok a _ e);exact⟨o,its.toArray,n,h1,h2,h3,by simpa using ES r⟩
theorem nF{kvs:List (List aK×V)}(ok:dA P w H h)(e:Rd H a (.dT kvs)):kvs.length<=Am/\(a==Fq)=false/\
  ∃xs,KT H kvs xs/\h.DictOfH (Gb (d6 P w)) a xs:=by
 obtain⟨z,y,xs,r,o,es,ep,h1,h2,h3,h4,h5⟩:=(show cX P w H h a (.dT kvs) from ET ok e);refine⟨z,y,xs,r,o,es,ep,h1,h2,h3,h4,λx hx=>?_,h5⟩;have all:∀{l:List (List aK×V)} {m:List (List aK×Addr×Ae)},KT H l m->∀x∈m,(Gb (d6 P w)).is h x.1 x.2.1:=by
  intro l m q
  induction q with
  | nil=>intro x hx;exact nomatch hx
  | @cons p q ps qs hq t ih=>
   intro x hx;rcases Ar.mp hx with e|hx
   .subst e;exact kO ok (by rw[<-hq.1];exact hq.2.1)
   .exact ih x hx
 exact all r x hx
theorem sM{kvs:List (List aK×V)}(ok:dA P w H h)(e:H a=some (.dT kvs)):kvs.length<=Am/\(a==Fq)=false/\
  ∃xs,KT H kvs xs/\h.DictOfH (Gb (d6 P w)) a xs:=nF ok (.inl e)
end
def iF(H:Hp)(a:Addr)(y:V)(r:Option V):Prop:=
 (∃kvs k,Rd H a (.dK kvs)/\y=kV k/\r=gH kvs k)\/∃kvs k b,Rd H a (.dT kvs)/\y=.ref b/\H b=some (.tup (k.map kV))/\r=gH kvs k
def mJ(H:Hp)(a:Addr)(y v:V)(H':Hp):Prop:=
 (∃kvs k,H a=some (.dK kvs)/\y=kV k/\kvs.length<Am/\H'=aX H a (.dK (fU kvs k v)))\/
 ∃kvs k b,H a=some (.dT kvs)/\y=.ref b/\H b=some (.tup (k.map kV))/\kvs.length<Am/\H'=aX H a (.dT (fU kvs k v))
theorem mJ.k{H:Hp}{a:Addr}{kvs:List (aK×V)}{k:aK}{v:V}(e:H a=some (.dK kvs))(hl:kvs.length<Am):mJ H a (kV k) v (aX H a (.dK (fU kvs k v))):=.inl ⟨kvs,k,e,rfl,hl,rfl⟩
theorem mJ.t{H:Hp}{a b:Addr}{kvs:List (List aK×V)}{k:List aK}{v:V}(e:H a=some (.dT kvs))(eb:H b=some (.tup (k.map kV)))(hl:kvs.length<Am):
  mJ H a (.ref b) v (aX H a (.dT (fU kvs k v))):=.inr ⟨kvs,k,b,e,rfl,eb,hl,rfl⟩
section
variable {X:Cx}{pins:List (Addr×Obj)}{Z:St}{H:Hp}{s:Ag}{a:Addr}{y v:V}{u r:Ae}{o:Option V}{A:Cq}{E:Ae->Ag->Prop}
theorem Inv.big(I:Inv X pins Z H s):Fq<s.heap.objs.size:=by
 have h:Dj<s.heap.objs.size:=(I.mod.glob.keeps I.bk).lt;exact Nat.lt_trans (by decide) h
theorem R4{Q:Ae->Ag->Prop}(hu:A.units+1<Fm)(I:Inv X pins Z H s)(g:iF H a y (some v))(ry:RelV y u)(h:∀w' s',Inv X pins Z H s'->RelV v w'->Q w' s'):
  Bc (Bn X.prog X.w) A (getItem (.ref a) u) Q E s:=by
 rcases g with⟨kvs,k,e,ey,l⟩|⟨kvs,k,b,e,ey,eb,l⟩
 .subst ey;obtain⟨z,hd,vs,rel,dd⟩:=mI I.hok e;obtain⟨w',hw,rw'⟩:=f6.some_of (v:=v) (o:=valueAt vs k) (by rw[l];exact rel.val k);exact wpAny_getItem_of (mH ry) dd.mapOf hw (h w' _ (I.tok _) rw')
 .subst ey;cases (show u=Value.ref b from ry);obtain⟨z,hd,xs,rel,dd⟩:=nF I.hok e;obtain⟨w',hw,rw'⟩:=f6.some_of (v:=v) (o:=(Lk xs k).map (·.2)) (by rw[l];exact rel.val k);obtain⟨p,hp,hp2⟩:=Bh.mp hw;refine wpAny_getItem_heap (Fj hu) (kO I.hok eb) dd hp ?_;rw[hp2];exact h w' _ (I.tok _) rw'
theorem R5{Q:Ae->Ag->Prop}(hu:A.units+1<Fm)(I:Inv X pins Z H s)(g:iF H a y o)(ry:RelV y u)(h:∀s',Inv X pins Z H s'->Q (.bool o.isSome) s'):
  Bc (Bn X.prog X.w) A (Cb .In u (.ref a)) Q E s:=by
 rcases g with⟨kvs,k,e,ey,l⟩|⟨kvs,k,b,e,ey,eb,l⟩
 .subst ey;obtain⟨z,hd,vs,rel,dd⟩:=mI I.hok e;refine wpAny_in_of (mH ry) hd dd.mapOf ?_;rw[<-(rel.val k).isSome_eq,<-l];exact h _ (I.tok _)
 .subst ey;cases (show u=Value.ref b from ry);obtain⟨z,hd,xs,rel,dd⟩:=nF I.hok e;refine wpAny_in_heap (Fj hu) (kO I.hok eb) hd dd ?_;have q:=(rel.val k).isSome_eq;rw[Option.isSome_map]at q;rw[<-q,<-l];exact h _ (I.tok _)
theorem R6{Q:Ae->Ag->Prop}(hu:A.units+1<Fm)(I:Inv X pins Z H s)(g:iF H a y o)(ry:RelV y u)(h:∀s',Inv X pins Z H s'->Q (.bool (!o.isSome)) s'):
  Bc (Bn X.prog X.w) A (Cb .NotIn u (.ref a)) Q E s:=by
 rcases g with⟨kvs,k,e,ey,l⟩|⟨kvs,k,b,e,ey,eb,l⟩
 .subst ey;obtain⟨z,hd,vs,rel,dd⟩:=mI I.hok e;refine wpAny_notIn_of (mH ry) hd dd.mapOf ?_;rw[<-(rel.val k).isSome_eq,<-l];exact h _ (I.tok _)
 .subst ey;cases (show u=Value.ref b from ry);obtain⟨z,hd,xs,rel,dd⟩:=nF I.hok e;refine wpAny_notIn_heap (Fj hu) (kO I.hok eb) hd dd ?_;have q:=(rel.val k).isSome_eq;rw[Option.isSome_map]at q;rw[<-q,<-l];exact h _ (I.tok _)
theorem pV{h':Heap}{t':Nat}{ob:HO}(I:Inv X pins Z H s)(mu:pK (H a))(hs:Eo a s.heap h')(he:∃q,h'.get? a=some q)(new:cX X.prog X.w (aX H a ob) h' a ob):
  Inv X pins Z (aX H a ob) {s with heap:=h',toks:=t'}:=
 I.write (x:=a) (e:=a) mu (.inl rfl) (λb q hb z=>(hs.2 b hb).trans z) he new
theorem R7{P:Bv}{w:Cp}{H':Hp}{h':Heap}{kvs:List (aK×V)}{vs:List (aK×Ae)}(z:kvs.length<=Am)(hd:(a==Fq)=false)(rel:KV kvs vs)(dd:h'.DictOf (d6 P w) a vs):
  cX P w H' h' a (.dK kvs):=⟨z,hd,vs,rel,dd⟩
theorem R8{H':Hp}{Q:Unit->Ag->Prop}(hu:A.units+1<Fm)(I:Inv X pins Z H s)(g:mJ H a y v H')(ry:RelV y u)(rv:RelV v r)(h:∀s',Inv X pins Z H' s'->Q () s'):
  Bc (Bn X.prog X.w) A (setItem (.ref a) u r) Q E s:=by
 rcases g with⟨kvs,k,e,ey,l,eH⟩|⟨kvs,k,b,e,ey,eb,l,eH⟩
 .subst ey eH;obtain⟨z,hd,vs,rel,dd⟩:=R1 I.hok e;have hz:vs.length<=Am:=by rw[<-rel.length];exact z
  have hl:(fU kvs k v).length<=Am:=by have:=sL kvs k v;lia
  refine wpAny_setItem_pairs (hsz:=hz) (mH ry) dd λh' dd' hs=>h _ ?_;have he:∃q,h'.get? a=some q:=let ⟨q,_,_,hq,_⟩:=dd';⟨q,hq⟩;exact pV I (by rw[e];exact True.intro) hs he (R7 hl hd (rel.put k rv) dd')
 .subst ey eH;cases (show u=Value.ref b from ry);obtain⟨z,hd,xs,rel,dd⟩:=sM I.hok e;have hz:xs.length<=Am:=by rw[<-Eg rel];exact z
  have hl:(fU kvs k v).length<=Am:=by have:=sL kvs k v;lia
  refine wpAny_setItem_heap (hsz:=hz) (Fj hu) (kO I.hok eb) dd λh' dd' hs=>h _ ?_;obtain⟨q,es,ep,hq,h2,h3,h4,_,h5⟩:=dd';refine pV I (by rw[e];exact True.intro) hs ⟨q,hq⟩ ⟨hl,hd,_,(rel.put k eb rv).keeps λc ys ec=>?_,q,es,ep,hq,h2,h3,h4,h5⟩;rw[bH (rT ec e (λz=>nomatch z))];exact ec
end
section
variable {X:Cx}{pins:List (Addr×Obj)}{Z:St}{H:Hp}{s:Ag}{a:Addr}{kvs:List (aK×V)}{k:aK}{u:Ae}{A:Cq}{E:Ae->Ag->Prop}
theorem R9{Q:Ae->Ag->Prop}(I:Inv X pins Z H s)(e:Rd H a (.dK kvs))(h:∀t s',Inv X pins Z H s'->Q (.int kvs.length t) s'):Bc (Bn X.prog X.w) A (call (.builtin "len") [.ref a]) Q E s:=by
 obtain⟨z,hd,vs,rel,dd⟩:=mI I.hok e;refine call_len_dict hd dd (by rw[<-rel.length];rw[Lb]at z;lia) ?_;rw[<-rel.length];exact h _ _ (I.tok _)
end
theorem SA{X:Cx}{pins:List (Addr×Obj)}{Z:St}{H:Hp}{s:Ag}{a:Addr}{y:V}{o:Option V}(I:Inv X pins Z H s)(g:iF H a y o):s.TypeIs (.ref a) "dict":=by
 rcases g with⟨kvs,k,e,_,_⟩|⟨kvs,k,b,e,_,_,_⟩
 .obtain⟨_,_,vs,_,dd⟩:=mI I.hok e;exact dd.typeIs
 .obtain⟨_,_,xs,_,dd⟩:=nF I.hok e;exact dd.typeIs
theorem SD{P:Bv}{w:Cp}{H:Hp}(h:Heap)(hb:Fq<h.objs.size):cX P w H (h.push {cls:=.type "dict",data:=.dict #[]}) h.objs.size (.dK []):=
 ⟨Bz _,beq_eq_false_iff_ne.mpr (Bt (Bl hb)),[],.nil,Heap.DictOf.new h⟩
theorem EU{P:Bv}{w:Cp}{H:Hp}(h:Heap)(hb:Fq<h.objs.size):cX P w H (h.push {cls:=.type "dict",data:=.dict #[]}) h.objs.size (.dT []):=
 ⟨Bz _,beq_eq_false_iff_ne.mpr (Bt (Bl hb)),[],.nil,_,#[],0,Ay _ rfl,⟨rfl,rfl,rfl⟩,rfl,rfl,Ez⟩
def SE:TE:=λ_ H Q=>∀p,H p=none->Q (.ref p) (aX H p (.dK []))
def SF:TE:=λ_ H Q=>∀p,H p=none->Q (.ref p) (aX H p (.dT []))
section
variable {X:Cx}{pos:Pos}
theorem SG:PE X (.Dict [] [] pos) SE:=λpins s Z H Q I h=>
 wpAny_Dict_empty ⟨.ref s.heap.objs.size,_,I.laid (a:=s.heap.objs.size) (o:=.dK []) (t':=s.toks) (λ_ _ q=>Af _ q) (An _) (SD s.heap I.big),rfl,h _ (I.hok.fresh (An _))⟩
theorem SH:PE X (.Dict [] [] pos) SF:=λpins s Z H Q I h=>
 wpAny_Dict_empty ⟨.ref s.heap.objs.size,_,I.laid (a:=s.heap.objs.size) (o:=.dT []) (t':=s.toks) (λ_ _ q=>Af _ q) (An _) (EU s.heap I.big),rfl,h _ (I.hok.fresh (An _))⟩
end
def v9:List (TE×TE)->St->Hp->(List (V×V)->Hp->Prop)->Prop
 | [],_,H,Q=>Q [] H
 | (tk,tv)::r,Z,H,Q=>tk Z H λx H1=>tv Z H1 λy H2=>v9 r Z H2 λps H3=>Q ((x,y)::ps) H3
abbrev VV:List (V×V)->List (Ae×Ae)->Prop:=Gj λp q=>RelV p.1 q.1/\RelV p.2 q.2
def wA(X:Cx)(pos:Pos)(keys:List (Option Expr))(values:List Expr)(trs:List (TE×TE)):Prop:=
 ∀(pins:List (Addr×Obj)) (s:Ag) (Z:St) (H:Hp) (Q:List (V×V)->Hp->Prop),Inv X pins Z H s->v9 trs Z H Q->
  Bc (Bn X.prog X.w) X.A (evalPairs (pairTrees keys values X.env pos)) (λvs s'=>∃ps H',Inv X pins Z H' s'/\VV ps vs/\Q ps H') X.xe s
theorem SJ{X:Cx}{pos:Pos}:wA X pos [] [] []:=λpins s Z H Q I h=>pairTrees_nil_walk ⟨[],H,I,.nil,h⟩
theorem SM{X:Cx}{pos:Pos}{k v:Expr}{ks:List (Option Expr)}{vs:List Expr}{tk tv:TE}{trs:List (TE×TE)}(hk:PE X k tk)(hv:PE X v tv)(hr:wA X pos ks vs trs):
  wA X pos (some k::ks) (v::vs) ((tk,tv)::trs):=λpins s Z H Q I h=>
 pairTrees_cons_walk (bA (hk pins s Z H _ I h) λu s1 ⟨x,H1,I1,rx,q1⟩=>bA (hv pins s1 Z H1 _ I1 q1) λw2 s2 ⟨y,H2,I2,ry,q2⟩=>
  bA (hr pins s2 Z H2 _ I2 q2) λws s3 ⟨ps,H3,I3,rel,q3⟩=>⟨(x,y)::ps,H3,I3,.cons ⟨rx,ry⟩ rel,q3⟩)
section
variable {X:Cx}{pins:List (Addr×Obj)}{Z:St}{H:Hp}{s:Ag}{a:Addr}{y d:V}{u r:Ae}{o:Option V}{A:Cq}{E:Ae->Ag->Prop}
theorem EV{Q:Ae->Ag->Prop}(hu:A.units+1<Fm)(I:Inv X pins Z H s)(g:iF H a y o)(ry:RelV y u)(h:∀w' s',Inv X pins Z H s'->RelV (o.getD .non) w'->Q w' s'):
  Bc (Bn X.prog X.w) A (call (.builtin "dict.get") [.ref a,u]) Q E s:=by
 rcases g with⟨kvs,k,e,ey,l⟩|⟨kvs,k,b,e,ey,eb,l⟩
 .subst ey;obtain⟨z,hd,vs,rel,dd⟩:=mI I.hok e;refine Kn Ja dd.typeIs Iu (PySem.F.args_dict_get_2 _ _) (meets_dict_get (d6 X.prog X.w) a (mH ry) hd) ⟨_,dd.mapOf,h _ _ (I.tok _) ?_⟩;rw[l];exact(rel.val k).getD rfl
 .subst ey;cases (show u=Value.ref b from ry);obtain⟨z,hd,xs,rel,dd⟩:=nF I.hok e;refine Kn Ja dd.typeIs Iu (PySem.F.args_dict_get_2 _ _) (meetsH_dict_get (Gb (d6 X.prog X.w)) a b hd) ⟨Fj hu,k,xs,kO I.hok eb,dd,h _ _ (I.tok _) ?_⟩;rw[l];exact(rel.val k).getD rfl
theorem EW{Q:Ae->Ag->Prop}(hu:A.units+1<Fm)(I:Inv X pins Z H s)(g:iF H a y o)(ry:RelV y u)(rd:RelV d r)(h:∀w' s',Inv X pins Z H s'->RelV (o.getD d) w'->Q w' s'):
  Bc (Bn X.prog X.w) A (call (.builtin "dict.get") [.ref a,u,r]) Q E s:=by
 rcases g with⟨kvs,k,e,ey,l⟩|⟨kvs,k,b,e,ey,eb,l⟩
 .subst ey;obtain⟨z,hd,vs,rel,dd⟩:=mI I.hok e;refine Kn Ja dd.typeIs Iu (PySem.F.args_dict_get_3 _ _ _) (meets_dict_get_default (d6 X.prog X.w) a (mH ry) hd r) ⟨_,dd.mapOf,h _ _ (I.tok _) ?_⟩;rw[l];exact(rel.val k).getD rd
 .subst ey;cases (show u=Value.ref b from ry);obtain⟨z,hd,xs,rel,dd⟩:=nF I.hok e;refine Kn Ja dd.typeIs Iu (PySem.F.args_dict_get_3 _ _ _) (meetsH_dict_get_default (Gb (d6 X.prog X.w)) a b hd r) ⟨Fj hu,k,xs,kO I.hok eb,dd,h _ _ (I.tok _) ?_⟩;rw[l];exact(rel.val k).getD rd
end
end L2
namespace Att
open PySem PySem.W PySem.Calls PyProof.Rows
theorem SN{P:Params}{h:Heap}:∀(ns:List Int) (vs:List Ae),WellAll P h vs (ns.map WData.int)->IntsAre vs ns:=by
 intro ns
 induction ns with
 | nil=>
  intro vs w;rw[Ka]at w;cases w;exact .nil
 | cons n ns ih=>
  intro vs w;rw[Bd]at w;cases w with
  | cons a b=>
   cases a;exact .cons _ _ (ih _ b)
theorem SO{l:OpenLaw}{n:Nat}(hn:l.most=some n){P:Params}{h:Heap}{args:List WData}{vals:List Ae}(hpre:l.row.toRowW.claim.pre args=true)(hwl:WellAll P h vals args):
  ∃a vs ns,vals=[Value.ref a]/\args=[WData.list (ns.map WData.int)]/\h.get? a=some {cls:=.type "list",data:=.seq vs.toArray}/\IntsAre vs ns/\ns.length<=n:=by
 have hsh:WShape.hasAll [] args [.list .int]=true:=(pre_splitW hpre).1;have hc:l.pre.holds [] {args:=args} = true:=(pre_splitW hpre).2;obtain⟨d,r,rfl,h1,h2⟩:=hasAllW_cons hsh;obtain rfl:=hasAllW_nil h2;obtain⟨xs,rfl,h3⟩:=hasW_list h1;obtain⟨ns,rfl⟩:=items_int h3;have hlen:ns.length<=n:=by
  unfold OpenLaw.pre at hc;have h4:(WTm.not (.lt (.lit (.int (n:Int))) (.len (.arg 0)))).holds [] {args:=[.list (ns.map .int)]} = true:=by
   have h4:=(holds_andW hc).1;rw[hn]at h4;exact h4
  have h5:=condW_of h4 (w_not (w_lt w_lit (w_len_list (w_arg rfl))));rw[Aa]at h5;refine Nat.le_of_not_lt λq=>?_;have q':(n:Int)<((ns.length:Nat):Int):=by lia
  first
   | (rw[decide_eq_true q']at h5;exact absurd h5 (by decide))
   | (simp at h5;lia)
 cases hwl with
 | cons w1 w2=>
  cases w2;cases w1 with
  | list ho hall=>exact⟨_,_,ns,rfl,rfl,ho,SN ns _ hall,hlen⟩
theorem SQ(l:OpenLaw)(args:List WData):l.row.toRowW.claim.post args (.bool true) args=true:=
 postW_of (r:=l.row.toRowW) (X:=(true==true))
  (show WShape.has [] (.bool true) .bool=true by first|rfl|decide|simp[WShape.has,WShape.arms,WShape.armsAll])
  (show(WTm.eq .res (.lit (.bool true))).value [] {args:=args,res:=some (.bool true),after:=args} = some (.bool (true==true)) from w_eq_bool (w_res rfl) w_lit) rfl
theorem attach_call{l:OpenLaw}{n:Nat}{q:Bv}{loose:List Str}{XP:(Str->Option Ae)->Heap->Prop}{YP:Cp->Heap->Prop}{d:DefRec}(hn:l.most=some n)(hdf:d.params.defaults=[])(call:∀(w:Cp) (s₀ s1:Ag) (mg mb:Str->Option Ae) (fa:Addr) (o:Obj) (pm cd doc:Ae) (a:Addr) (vs:List Ae) (ns:List Int),
   Ground q loose [] XP w s₀ mg mb s1.heap->YP w s1.heap->
   s1.heap.get? fa=some o->o.data=.func (docDef d.name d.params d.body d.scope pm cd doc)->s1.heap.CodeRec cd d.name->mg d.name=some (.ref fa)->
   s1.heap.get? a=some {cls:=.type "list",data:=.seq vs.toArray}->IntsAre vs ns->ns.length<=n->s1.gens = #[]->
   Jl (Bn l.prog w) callerA (.call (.ref fa) ⟨[.ref a],[]⟩) (λr s'=>r=.ok (.ret (.bool true))/\OldK s1.heap s'.heap/\s'.os=s1.os/\Lz s'.gens) s1):
  WalkO q loose XP YP l.row.toRowW d [] (λf vs=>PySem.call f vs):=by
 intro w s₀ s1 mg mb G Y fa o pm cd doc dV kV ho hd hcd hD hmg hg args vals as hpre hlay hrd hwl pI;obtain rfl:dV=.none:=Dflts.none hD hdf;obtain rfl:kV=.none:=Dflts.noKw hD;obtain⟨a,vs,ns,rfl,rfl,hobj,hints,hlen⟩:=SO hn hpre hwl;refine enter_call (Km (call w s₀ s1 mg mb fa o pm cd doc a vs ns G Y ho (fd_plain hd) hcd hmg hobj hints hlen hg) λr s' hq=>?_);obtain⟨rfl,h2,h3,h4⟩:=hq;exact⟨.inl ⟨.bool true,.bool true,[],rfl,λ_=>rfl,.bool true,SQ l _,λ_=>⟨List.Pairwise.nil,λ_ hm=>(nomatch hm)⟩⟩,h2,h3,h4⟩
end Att
namespace L2
open PySem Spec PyProof.Rows
theorem EX:∀{vs:List Ae} {ns:List Int},IntsAre vs ns->a8 (ns.map V.int) vs
 | _,_,.nil=>.nil
 | _,_,.cons n t h=>.cons ⟨t,rfl⟩ (EX h)
abbrev eQ:mC:=λ_ _ _ _ _ _=>False
abbrev E0:XK:=λ_ _ _=>False
theorem mK{X:Cx}:mE eQ X E0:=λ_ _ _ _ _ _ _ h=>h.elim
structure jJ(K:Ac)(x qual:Str)(st:Stmt)(f:Addr)(fd:Bi):Prop where
 ex:∃(oc:Ae) (od:Option Addr) (kV doc pm:Ae) (an:Option Addr) (cdv ct:Ae) (osl:Array (Option Ae)),
  fd=Ei x qual (jF st) (gM st) (dJ st) .none kV doc pm an cdv ct/\K.lookup f=some ⟨oc,od,.func fd,osl⟩/\Ir K cdv qual=true
 kp:Ee K (.ref f)=true
section
variable {P:Bv}{w:Cp}{K:Ac}{mg:Str->Option Ae}{base:Heap}
theorem jJ.ok{x qual:Str}{st:Stmt}{f:Addr}{fd:Bi}{N ps:List Str}{k:Nat}{sp:Sp}(F:jJ K x qual st f fd)(S:mF N ps (dJ st))(len:∀vs H Q E,sp vs H Q E->vs.length=ps.length)(hbody:∀(cdv:Ae) (A:Cq) (outer:List Env) (s:Ag) (H:Hp) (vs:List V) (Q:VK) (E:XK),cP k (A.deeper (Ip qual (dJ st) s.heap.objs.size f cdv))->sp vs H Q E->
   ∃t,gE (kL eQ P w K mg base N qual (dJ st) f cdv A outer s H E).nox (gM st) t/\t {nx:=λ_ H'=>Q .non H',rt:=Q} (start N vs) H):eN P w K mg base eQ (k+1) f fd ps sp:=by
 obtain⟨oc,od,kV,doc,pm,an,cdv,ct,osl,rfl,lk,hcd⟩:=F.ex;refine ED lk hcd S len λA outer s H vs Q E hr hsp=>?_;obtain⟨t,h,q⟩:=hbody cdv A outer s H vs Q E hr hsp;exact⟨t,h.nox,q⟩
theorem jJ.binds{x qual:Str}{st:Stmt}{f:Addr}{fd:Bi}{ps:List Str}(F:jJ K x qual st f fd)(h:∀(kV doc pm:Ae) (an:Option Addr) (cdv ct:Ae) (us:List Ae),us.length=ps.length->bindArgs (Ei x qual (jF st) (gM st) (dJ st) .none kV doc pm an cdv ct) ⟨us,[]⟩=pure (ps.zip us)):Binds K fd ps []:=by
 obtain⟨oc,od,kV,doc,pm,an,cdv,ct,osl,rfl,lk,hcd⟩:=F.ex;exact .all (h kV doc pm an cdv ct)
theorem oE{x qual:Str}{st:Stmt}{f:Addr}{oc:Ae}{od an:Option Addr}{osl:Array (Option Ae)}{kV doc pm cdv ct:Ae}(l:K.lookup f=some ⟨oc,od,.func (Ei x qual (jF st) (gM st) (dJ st) .none kV doc pm an cdv ct),osl⟩)(c:Ir K cdv qual=true)(k:Ee K (.ref f)=true):jJ K x qual st f (Ei x qual (jF st) (gM st) (dJ st) .none kV doc pm an cdv ct):=⟨⟨oc,od,kV,doc,pm,an,cdv,ct,osl,rfl,l,c⟩,k⟩
end
theorem wB{A:Cq}{k:Nat}(hr:cP k A):A.units+1<Fm:=Kj (Mf (by decide:1<=64) _) hr.units
section
variable {X:Cx}
theorem SU:dR X (.builtin "len") (λxs H Q=>∃a kvs,xs=[V.ref a]/\H a=some (.dK kvs)/\Q (.int kvs.length) H):=by
 intro pins s Z H xs us Q I r h;obtain⟨a,kvs,rfl,ha,q⟩:=h;obtain⟨u,rfl,ru⟩:=vals1 r;cases ru;exact R9 I (.inl ha) λt s' I'=>⟨.int kvs.length,H,I',⟨t,rfl⟩,q⟩
end
theorem SW{A B:Prop}(h:B):if false=true then A else B:=by
 rw[if_neg Av];exact h
theorem SX{A B:Prop}(h:A):if true=true then A else B:=by
 rw[if_pos rfl];exact h
end L2
set_option maxHeartbeats 4000000
namespace L2
open PySem Spec PyProof.Rows
structure kP where
 cl:List (Str×Addr)
 s:Ag
 H:Hp
 fp:List Addr
 C:Addr
def eE(X:Cx)(sc:Hc)(N':List Str)(B:kP):Cx where
 prog:=X.prog
 w:=X.w
 K:=X.K
 mg:=X.mg
 base:=X.base
 A:=X.A
 N:=N'
 s₀:=B.s
 H₀:=B.H
 env:=compEnvC sc B.cl B.C X.env
 outer:=X.stack
 stack:=X.stack
 ex:=B.fp
 fn:=λ_=>false
 calm:=X.calm
 pn:=[]
 xe:=λ_ _=>False
def gN(cells:List (Str×Addr)):List (Str×Ih)->List (Str×Addr)->List (Str×Addr)
 | [],acc=>acc
 | (n,k)::r,acc=>if k=.free then gN cells r ((n,(cells.lookup n).getD 0)::acc) else gN cells r acc
theorem wC{scope:Hc}{env:Env}(h:∀y∈scope.names,y.2=.free->∃c,env.cells.lookup y.1=some c):closureFor scope env=pure (gN env.cells scope.names []):=by
 have key:∀(names:List (Str×Ih)) (acc:List (Str×Addr)),(∀y∈names,y.2=.free->∃c,env.cells.lookup y.1=some c)->
   (forIn names acc λ(x:Str×Ih) (cs:List (Str×Addr))=>(if (x.2==NameKind.free)=true then(do let a <-cellOf env x.1;pure (ForInStep.yield ((x.1,a)::cs))) else pure (ForInStep.yield cs):Sem (ForInStep (List (Str×Addr)))))=(pure (gN env.cells names acc):Sem _):=by
  intro names
  induction names with
  | nil=>intro acc _;rfl
  | cons y r ih=>
   intro acc hy;obtain⟨n,k⟩:=y;rw[Li]
   by_cases hk:k=.free
   .subst hk;obtain⟨c,hc⟩:=hy (n,.free) Bk rfl;have e1:cellOf env n=(pure c:Sem Addr):=by
     unfold cellOf;rw[show env.cells.lookup n=some c from hc]
    simp only[beq_self_eq_true,if_true,e1,pure_bind];rw[ih _ λz hz=>hy z (Ba _ hz)];simp only[gN,if_true];rw[show env.cells.lookup n=some c from hc];rfl
   .have hb:(k==NameKind.free)=false:=by simpa using hk
    simp only[hb,Ep,if_false,pure_bind];rw[ih _ λz hz=>hy z (Ba _ hz)];simp only[gN,if_neg hk]
 have e:closureFor scope env=((forIn scope.names [] λ(x:Str×Ih) (cs:List (Str×Addr))=>(if (x.2==NameKind.free)=true then(do let a <-cellOf env x.1;pure (ForInStep.yield ((x.1,a)::cs))) else pure (ForInStep.yield cs):Sem (ForInStep (List (Str×Addr)))))>>=λcs=>pure cs):=by
  unfold closureFor;rfl
 rw[e,key _ _ h,pure_bind]
theorem wD{cells:List (Str×Addr)}{x:Str}{c:Addr}:∀{names:List (Str×Ih)} {acc:List (Str×Addr)},(∀y∈names,y.2=.free->∃c,cells.lookup y.1=some c)->
  (∀x c,acc.lookup x=some c->cells.lookup x=some c)->(gN cells names acc).lookup x=some c->cells.lookup x=some c
 | [],acc,_,ha,e=>ha x c e
 | (n,k)::r,acc,hy,ha,e=>by
  have hr:∀y∈r,y.2=.free->∃c,cells.lookup y.1=some c:=λz hz=>hy z (Ba _ hz);unfold gN at e
  by_cases hk:k=.free
  .subst hk;rw[if_pos rfl]at e;obtain⟨d,hd⟩:=hy (n,.free) Bk rfl;have hd:cells.lookup n=some d:=hd;refine wD hr (λz b q=>?_) e;rw[Br]at q
   by_cases hz:z=n
   .subst hz;rw[beq_self_eq_true,hd]at q;rw[hd];exact q
   .have:(z==n)=false:=beq_eq_false_iff_ne.mpr hz;rw[this]at q;exact ha z b q
  .rw[if_neg hk]at e;exact wD hr ha e
theorem sN{cells:List (Str×Addr)}{x:Str}:∀{names:List (Str×Ih)} {acc:List (Str×Addr)},((x,NameKind.free)∈names\/∃c,acc.lookup x=some c)->∃c,(gN cells names acc).lookup x=some c
 | [],acc,h=>by
  rcases h with h|h
  .cases h
  .exact h
 | (n,k)::r,acc,h=>by
  unfold gN
  by_cases hk:k=.free
  .subst hk;rw[if_pos rfl];refine sN ?_
   by_cases hx:x=n
   .subst hx;right;rw[Br,beq_self_eq_true];exact⟨_,rfl⟩
   .have hb:(x==n)=false:=beq_eq_false_iff_ne.mpr hx;rcases h with h|⟨c,h⟩
    .rcases Ar.mp h with e|h
     .cases e;exact absurd rfl hx
     .exact .inl h
    .right;rw[Br,hb];exact⟨c,h⟩
  .rw[if_neg hk];refine sN ?_;rcases h with h|h
   .rcases Ar.mp h with e|h
    .cases e;exact absurd rfl hk
    .exact .inl h
   .exact .inr h
structure nG(N':List Str)(sc osc:Hc):Prop where
 kind:sc.kind=.function
 nd:N'.Nodup
 nocell:∀y∈sc.names,y.2≠.cell
 loc:∀y∈sc.names,y.2=.local->sc.names.lookup y.1=some .local
 free:∀y∈sc.names,y.2=.free->osc.names.lookup y.1=some .cell\/osc.names.lookup y.1=some .free
def nH(N':List Str)(sc osc:Hc):Bool:=
 decide (sc.kind=.function)&&decide N'.Nodup&&sc.names.all (λy=>decide (y.2≠.cell))&&sc.names.all (λy=>decide (y.2=.local->sc.names.lookup y.1=some .local)) &&
  sc.names.all (λy=>decide (y.2=.free->osc.names.lookup y.1=some .cell\/osc.names.lookup y.1=some .free))
theorem nG.of{N':List Str}{sc osc:Hc}(h:nH N' sc osc=true):nG N' sc osc:=by
 unfold nH at h;simp only[Cr]at h;obtain⟨⟨⟨⟨h1,h2⟩,h3⟩,h4⟩,h5⟩:=h;exact⟨of_decide_eq_true h1,of_decide_eq_true h2,λy hy=>of_decide_eq_true (Ji.mp h3 y hy),λy hy=>of_decide_eq_true (Ji.mp h4 y hy),λy hy=>of_decide_eq_true (Ji.mp h5 y hy)⟩
def cmap(js:List (Option Nat))(Z:St):St:=js.map λo=>o.bind λj=>(Z[j]?).join
def fV(N' N:List Str)(sc:Hc):List (Option Nat)->List Str->Bool
 | [],[]=>true
 | none::js,_::r=>fV N' N sc js r
 | some j::js,x::r=>decide (N[j]? = some x)&&decide (sc.names.lookup x=some .free)&&fV N' N sc js r
 | _,_=>false
theorem wF{N' N:List Str}{sc:Hc}:∀{js:List (Option Nat)} {r:List Str},fV N' N sc js r=true->js.length=r.length
 | [],[],_=>rfl
 | none::js,_::r,h=>by
  have:=wF (js:=js) (r:=r) h;simp[this]
 | some j::js,x::r,h=>by
  unfold fV at h;rw[Cr]at h;have:=wF (js:=js) (r:=r) h.2;simp[this]
 | [],_::_,h=>by simp[fV]at h
 | none::_,[],h=>by simp[fV]at h
 | some _::_,[],h=>by simp[fV]at h
theorem wH{N' N:List Str}{sc:Hc}:∀{js:List (Option Nat)} {r:List Str} {i j:Nat} {x:Str},fV N' N sc js r=true->js[i]? = some (some j)->r[i]? = some x->N[j]? = some x/\sc.names.lookup x=some .free
 | [],[],i,j,x,_,e,_=>by simp at e
 | none::js,_::r,0,j,x,h,e,_=>by simp at e
 | none::js,_::r,i+1,j,x,h,e,e2=>wH (js:=js) (r:=r) (i:=i) h (by simpa using e) (by simpa using e2)
 | some k::js,y::r,0,j,x,h,e,e2=>by
  unfold fV at h;rw[Cr,Cr]at h;simp at e e2;subst e;subst e2;exact⟨of_decide_eq_true h.1.1,of_decide_eq_true h.1.2⟩
 | some k::js,y::r,i+1,j,x,h,e,e2=>by
  unfold fV at h;rw[Cr,Cr]at h;exact wH (js:=js) (r:=r) (i:=i) h.2 (by simpa using e) (by simpa using e2)
 | [],_::_,_,_,_,h,_,_=>by simp[fV]at h
 | none::_,[],_,_,_,h,_,_=>by simp[fV]at h
 | some _::_,[],_,_,_,h,_,_=>by simp[fV]at h
theorem wI{env:Env}{x:Str}:∀{names:List (Str×Ih)},(∀y∈names,y.2≠.cell)->
  (((names.map λ(n,k)=>if (k==NameKind.free&&env.scope.kind==.function&&env.kindOf n==some .cell) then(n,NameKind.cell) else(n,k)).lookup x=some .cell\/
    (names.map λ(n,k)=>if (k==NameKind.free&&env.scope.kind==.function&&env.kindOf n==some .cell) then(n,NameKind.cell) else(n,k)).lookup x=some .free)↔names.lookup x=some .free)
 | [],_=>by simp
 | (n,k)::r,h=>by
  have ih:=@wI env x r λy hy=>h y (Ba _ hy);have hk:k≠.cell:=h (n,k) Bk;rw[Bd];dsimp only
  by_cases hx:(x==n)=true
  .by_cases hc:(k==NameKind.free&&env.scope.kind==.function&&env.kindOf n==some .cell)=true
   .rw[if_pos hc];simp only[Br,hx];have:k=.free:=by
     rw[Cr,Cr]at hc;exact beq_iff_eq.mp hc.1.1
    simp[this]
   .rw[if_neg hc];simp only[Br,hx];constructor
    .rintro(e|e)
     .cases e;exact absurd rfl hk
     .exact e
    .intro e;exact .inr e
  .have hx:(x==n)=false:=by simpa using hx
   by_cases hc:(k==NameKind.free&&env.scope.kind==.function&&env.kindOf n==some .cell)=true
   .rw[if_pos hc];simp only[Br,hx];exact ih
   .rw[if_neg hc];simp only[Br,hx];exact ih
theorem wJ{x:Str}{k:Ih}:∀{names:List (Str×Ih)},names.lookup x=some k->(x,k)∈names:=λh=>Ey h
section
variable {X:Cx}{sc:Hc}{N':List Str}{js:List (Option Nat)}{pins:List (Addr×Obj)}{Z:St}{H H1:Hp}{s:Ag}{fp:List Addr}{C:Addr}
theorem wL(S:nG N' sc X.env.scope)(I:Inv X pins Z H s):∀y∈sc.names,y.2=.free->∃c,X.env.cells.lookup y.1=some c:=λy hy hk=>
 I.ok.has y.1 (S.free y hy hk)
theorem SY(S:nG N' sc X.env.scope)(hj:fV N' X.N sc js N'=true)(I:Inv X pins Z H s)(hf:∀b∈fp,iC X pins H b)(ho:∀b∈fp,∃o,s.heap.get? b=some o){h1:Heap}{tk:Nat}{m:Str->Option Ae}(hC:s.heap.objs.size<=C)(keep:∀b o,s.heap.get? b=some o->h1.get? b=some o)(un:Un (gD X.stack) fp H H1 s.heap h1)(hok:dA X.prog X.w H1 h1)(hn:h1.Ns C m)(hfree:H1 C=none):
  Inv (eE X sc N' ⟨gN X.env.cells sc.names [],s,H,fp,C⟩) [] (cmap js Z) H1 {s with heap:=h1,toks:=tk}:=by
 have cs:=wL S I;have sub:∀x c,(gN X.env.cells sc.names []).lookup x=some c->X.env.cells.lookup x=some c:=λx c e=>wD cs (λ_ _ z=>by simp at z) e;refine⟨⟨I.ok.mod,S.kind,I.ok.glob,I.ok.blt,hC,λx y c e1 e2=>I.ok.inj x y c (sub x c e1) (sub y c e2),λx hx=>?_,λ_ _ h _=>absurd (show false=true from h) Av,I.ok.hd,I.ok.frames,.inl rfl,λb hb=>?_,I.bs,Au I.ok.bsz I.sz,λb o e hb=>?_,λb hb hb'=>?_,I.stack,I.stkFree⟩,
  rfl,I.bare,un,⟨m,hn,λi x v e1 e2 e3=>?_⟩,λx c e=>?_,hfree,λx c e=>?_,λp hp=>absurd (show p∈([]:List (Addr×Obj)) from hp) (by simp),hok,?_⟩
 .have q:sc.names.lookup x=some .free:=(wI (env:=X.env) S.nocell).mp hx;exact sN (.inl (wJ q))
 .obtain⟨o,e⟩:=ho b hb;exact⟨Bl (Ca (Aw e) hC),λx c q=>(hf b hb).2.2.2.2.1 x c (sub x c q)⟩
 .rcases(hf b hb).2.2.2.1 with z|z
  .exact I.ok.noex b o e z
  .exact absurd (Ca (Aw e) (Au I.ok.bsz z)) (Il _)
 .rcases Ar.mp (I.stkSub b hb') with z|z
  .exact(hf b hb).2.1 z
  .exact(hf b hb).2.2.1 z
 .
  have e1:N'[i]? = some x:=e1;unfold cmap at e2;rw[Ap]at e2;cases hji:js[i]? with
  | none=>rw[hji]at e2;cases e2
  | some o=>
   rw[hji]at e2;cases o with
   | none=>cases e2
   | some j=>
    obtain⟨a1,a2⟩:=wH hj hji e1;have e2:(Z[j]?).join=some v:=by simpa using e2
    have e2':Z[j]? = some (some v):=by
     cases q:Z[j]? with
     | none=>rw[q]at e2;cases e2
     | some z=>rw[q]at e2;simpa using e2
    obtain⟨m0,hn0,hl0⟩:=I.loc;have kx:=S.free _ (wJ a2) rfl;obtain⟨u,r,l⟩:=hl0 j x v a1 e2' (kx.elim (λz=>.inr (.inl z)) λz=>.inr (.inr z));refine⟨u,r,.inr ⟨(wI (env:=X.env) S.nocell).mpr a2,?_⟩⟩;rcases l with⟨k,_⟩|⟨_,c,ec,hc⟩
    .have k:X.env.scope.names.lookup x=some .local:=k;rcases kx with z|z
     .rw[k]at z;cases z
     .rw[k]at z;cases z
    .obtain⟨c',ec'⟩:=sN (cells:=X.env.cells) (acc:=[]) (.inl (wJ a2));have:c'=c:=Cj ((sub x c' ec').symm.trans ec);subst this;obtain⟨oc,hoc,hd⟩:=hc;exact⟨c',ec',oc,keep _ _ hoc,hd⟩
 .obtain⟨v,oc,hoc,hd⟩:=I.cell x c (sub x c e);exact⟨v,oc,keep _ _ hoc,hd⟩
 .obtain⟨v,oc,hoc,hd⟩:=I.cell x c (sub x c e);have nfp:c∉fp:=λz=>(hf c z).2.2.2.2.1 x c (sub x c e) rfl;exact un.free c oc hoc (I.freeC x c (sub x c e)) nfp
 .show(cmap js Z).length=N'.length;unfold cmap;rw[Aa];exact wF hj
end
section
variable {prog:Bv}{w:Cp}{A:Cq}{R:Result->Ag->Prop}{s:Ag}
theorem S4{elt target iter:Expr}{ifs:List Expr}{scope:Hc}{pos:Pos}{it acc:Ae}{env:Env}(I:Nat->Ag->Prop)(turn:∀n s,I n s->Bc (Bn prog w) A (Jk it) (λr s1=>match r with
   | none=>R (.ok .next) s1
   | some v=>Bc (Bn prog w) A (Mc target it v) (λ_ s₀=>Bc (Bn prog w) A (Lg target env v) (λ_ s2=>
     Bc (Bn prog w) A (forIn ifs true λc r=>if r=true then do let ok <-isTrue c env (eval c env);pure (ForInStep.yield ok) else pure (ForInStep.yield r)) (λok s3=>
      if ok=true then Bc (Bn prog w) A (eval elt env) (λx s4=>
       Bc (Bn prog w) A (call (.builtin "list.append") [acc,x]) (λ_ s₅=>∃m,m<n/\I m s₅) (λ_ _=>False) s4) (λ_ _=>False) s3
      else ∃m,m<n/\I m s3) (λ_ _=>False) s2) (λ_ _=>False) s₀) (λ_ _=>False) s1) (λ_ _=>False) s)(n:Nat)(h:I n s):
  Jl (Bn prog w) A (.compLoop (.ListComp elt [⟨target,iter,ifs,0⟩] scope pos) 0 it acc env) R s:=by
 refine codeAny_loop rfl I (λn s hI=>?_) n h;show Bc _ A ((compTurn (.ListComp elt [⟨target,iter,ifs,0⟩] scope pos) 0 it acc env).onRaise (λx=>do noteFrame x env;theTreesLotGoes x)) _ _ s;refine wpAny_noted ?_;rw[compTurn_list];refine Ab (Mq (Ab (Hi (turn n s hI) (λr s1 h1=>?_) λ_ _ h'=>h'.elim)));cases r with
 | none=>exact Aj h1
 | some v=>
  refine Ab (Hi h1 (λ_ s₀ h₀=>?_) λ_ _ h'=>h'.elim);refine Ab (Hi h₀ (λ_ s2 h2=>Ab (Hi h2 (λok s3 h3=>?_) λ_ _ h'=>h'.elim)) λ_ _ h'=>h'.elim);cases ok with
  | false=>exact Aj ⟨rfl,h3⟩
  | true=>
   exact Ab (Ab (Hi h3 (λx s4 h4=>Ab (Hi h4 (λ_ s₅ h₅=>Aj (Aj ⟨rfl,h₅⟩)) λ_ _ h'=>h'.elim)) λ_ _ h'=>h'.elim))
end
def i0(X:Cx)(ifs:List Expr)(t:TT):Prop:=
 ∀(pins:List (Addr×Obj)) (s:Ag) (Z:St) (H:Hp) (Q:Bool->Hp->Prop),Inv X pins Z H s->t Z H Q->
  Bc (Bn X.prog X.w) X.A (forIn ifs true λc r=>if r=true then do let ok <-isTrue c X.env (eval c X.env);pure (ForInStep.yield ok) else pure (ForInStep.yield r)) (TP X pins Z Q) X.xe s
def S5:TT:=λ_ H Q=>Q true H
theorem S6{X:Cx}:i0 X [] S5:=λ_ _ _ H _ I h=>wpAny_tests_nil ⟨H,I,h⟩
theorem S7{X:Cx}{c:Expr}{t:TT}(h:PT X c t):i0 X [c] t:=λpins s Z H Q I hw=>wpAny_tests_one (h pins s Z H Q I hw)
def wM(J:It)(g:TG)(tt:TT)(te:TE)(p:Addr)(σ₀:St)(H1:Hp)(Q:VK):Prop:=
 ∃W:Nat->Nat->St->List V->Hp->Prop,(∃m,W 0 m σ₀ [] (aX H1 p (.lst [])))/\∀i m σ' acc H,W i m σ' acc H->
  (J.stop i H/\Q (.ref p) H)\/(J.go i H/\∃N:St->List V->Hp->Prop,(∀σ2 acc' H',N σ2 acc' H'->∃m',m'<m/\W (i+1) m' σ2 acc' H')/\∀x H',J.yld i H x H'->g x σ' H' λσ2 H2=>tt σ2 H2 λb H3=>
   if b=true then te σ2 H3 λy H4=>H4 p=some (.lst acc)/\acc.length<Am/\N σ2 (acc++[y]) (aX H4 p (.lst (acc++[y])))
   else N σ2 acc H3)
def wN(wi:TI)(g:kP->TG)(tt:kP->TT)(te:kP->TE)(js:List (Option Nat)):TE:=λZ H Q=>wi Z H λJ H1=>∀p,H1 p=none->∀B:kP,wM J (g B) (tt B) (te B) p (cmap js Z) H1 Q
section
variable {X:Cx}{sc:Hc}{N':List Str}{js:List (Option Nat)}{tg iter elt:Expr}{ifs:List Expr}{pos:Pos}{wi:TI}{g:kP->TG}{tt:kP->TT}{te:kP->TE}
theorem EY(S:nG N' sc X.env.scope)(hj:fV N' X.N sc js N'=true)(hc:X.calm=true)(hg:∀B,PG (eE X sc N' B) tg (g B))(ht:∀B,i0 (eE X sc N' B) ifs (tt B))(he:∀B,PE (eE X sc N' B) elt (te B)){pins:List (Addr×Obj)}{s:Ag}{Z:St}{J:It}{H:Hp}{it:Addr}{fp:List Addr}{tn:Nat->Heap->Prop}(I:Inv X pins Z H s)(T:kK X.prog X.w X.K tg J fp it tn)(st:tn 0 s.heap)(hf:∀b∈fp,iC X pins H b){Q:VK}(hw:∀p,H p=none->∀B:kP,wM J (g B) (tt B) (te B) p (cmap js Z) H Q){E:Ae->Ag->Prop}{RR:Ae->Addr->Result->Ag->Prop}(hRR:∀p C H' s' m,Inv X pins Z H' s'->iC X pins H' C->s'.heap.Ns C m->Q (.ref p) H'->RR (.ref p) C (.ok .next) s'):
  Bc (Bn X.prog X.w) X.A (newList []) (λacc s₃=>Bc (Bn X.prog X.w) X.A (newFunctionEnv sc X.env.globals (gN X.env.cells sc.names []) [] X.env.qual none .none (some X.env)) (λcenv s₄=>
   Jl (Bn X.prog X.w) X.A (.compStart (.ListComp elt [⟨tg,iter,ifs,0⟩] sc pos) 0 (.ref it) acc {cenv with scope:=relabel sc X.env}) (RR acc cenv.locals) s₄) E s₃) E s:=by
 refine Em (wpAny_newFunctionEnv S.nocell (by intro y hy;simp at hy) (λh1 hns1 hsb1=>?_) S.kind);dsimp only at hns1 hsb1⊢;generalize hH2:s.heap.push {cls:=.type "list",dict:=none,data:=.seq ([]:List Ae).toArray} = H2 at hns1 hsb1⊢;have hC:H2.objs.size=s.heap.objs.size+1:=by rw[<-hH2,Dq]
 have hDC:s.heap.objs.size≠H2.objs.size:=by rw[hC];exact Bl (Jm _)
 have hCle:s.heap.objs.size<=H2.objs.size:=by rw[hC];exact Ly _
 have below:∀b,b<s.heap.objs.size->b≠H2.objs.size:=λb hb=>by rw[hC];exact Bl (Nat.lt_succ_of_lt hb)
 have old:∀b o,s.heap.get? b=some o->h1.get? b=some o:=λb o e=>hsb1.extBut b o (below b (Aw e)) (Af _ (hH2▸Af _ e));have hacc:h1.get? s.heap.objs.size=some {cls:=.type "list",dict:=none,data:=.seq ([]:List Ae).toArray}:=hsb1.extBut _ _ hDC (Af _ (hH2▸Ay _ rfl));have hp0:H s.heap.objs.size=none:=I.hok.fresh (An _);have newO:cX X.prog X.w (aX H s.heap.objs.size (.lst [])) h1 s.heap.objs.size (.lst []):=⟨Bz _,[],_,.nil,hacc⟩;have hok1:dA X.prog X.w (aX H s.heap.objs.size (.lst [])) h1:=I.hok.laid old (An _) newO;have un1:Un (gD X.stack) fp H (aX H s.heap.objs.size (.lst [])) s.heap h1:=Un.laid old (An _) hp0;have fC:(aX H s.heap.objs.size (.lst [])) H2.objs.size=none:=by rw[bH (Bt hDC)];exact I.hok.fresh hCle
 have IB:=SY (tk:=s.toks+([]:List (Str×Ae)).length) S hj I hf (λb hb=>let ⟨o,e,_⟩:=T.obj 0 _ st b hb;⟨o,e⟩) hCle old un1 hok1 hns1 fC;obtain⟨W,⟨m0,w0⟩,turn⟩:=hw _ hp0 ⟨gN X.env.cells sc.names [],s,H,fp,H2.objs.size⟩;have st1:tn 0 h1:=T.keep _ _ _ st λb _ o e=>old b o e;have loop:∀s₃:Ag,s₃ = {s with heap:=h1,toks:=s.toks+([]:List (Str×Ae)).length}->
   Jl (Bn X.prog X.w) X.A (.compLoop (.ListComp elt [⟨tg,iter,ifs,0⟩] sc pos) 0 (.ref it) (.ref s.heap.objs.size) (compEnvC sc (gN X.env.cells sc.names []) H2.objs.size X.env))
    (RR (.ref s.heap.objs.size) H2.objs.size) s₃:=by
  rintro s₃ rfl;generalize hB:(⟨gN X.env.cells sc.names [],s,H,fp,H2.objs.size⟩:kP)=B at turn w0 IB;have eB:compEnvC sc (gN X.env.cells sc.names []) H2.objs.size X.env=(eE X sc N' B).env:=by subst hB;rfl
  have exB:(eE X sc N' B).ex=fp:=by subst hB;rfl
  rw[eB];have stat:∀{σ':St} {H':Hp} {s':Ag},Inv (eE X sc N' B) [] σ' H' s'->(∀b∈fp,H' b=none)->∀b∈fp,iC (eE X sc N' B) [] H' b:=λ{σ' H' s'} J' hn b hb=>by
   refine⟨hn b hb,(J'.ok.exf b (by rw[exB];exact hb)).1,J'.ok.exfs b (by rw[exB];exact hb),.inl (by rw[exB];exact hb),(J'.ok.exf b (by rw[exB];exact hb)).2,λp hp=>absurd (show p∈([]:List (Addr×Obj)) from hp) (by simp)⟩
  have fp0:∀b∈fp,(aX H s.heap.objs.size (.lst [])) b=none:=λb hb=>by
   obtain⟨o,e,_⟩:=T.obj 0 _ st b hb;rw[bH (Bl (Aw e))];exact(hf b hb).1
  refine S4 (λn s'=>∃i σ' acc H',Inv (eE X sc N' B) [] σ' H' s'/\tn i s'.heap/\(∀b∈fp,H' b=none)/\W i n σ' acc H') ?_ m0 ⟨0,_,[],_,IB,st1,fp0,w0⟩;rintro n s3 ⟨i,σ3,acc,H3,I3,st3,fr3,w3⟩;rcases turn i n σ3 acc H3 w3 with⟨stop,qn⟩|⟨go,N,hN,step⟩
  .refine bA (T.done (eE X sc N' B) rfl rfl rfl hc i [] s3 σ3 H3 (λ_ _=>False) I3 (stat I3 fr3) st3 stop) λr s4 ⟨hr,I4⟩=>?_;subst hr;obtain⟨m4,hn4,_⟩:=I4.loc;have u4:Un (gD X.stack) fp H H3 s.heap s4.heap:=by have:=I4.base;subst hB;exact this
   have o4:s4.os=s.os:=by have:=I4.os;subst hB;exact this
   have c4:(eE X sc N' B).env.locals=H2.objs.size:=by subst hB;rfl
   have hIX:Inv X pins Z H3 s4:=I.call' (ch:=fp) o4 u4 I4.hok I4.bare λb hb=>⟨(hf b hb).2.2.2.1,(hf b hb).2.1,(hf b hb).2.2.2.2.1,(hf b hb).2.2.2.2.2⟩
   exact hRR _ _ H3 s4 m4 hIX (I.fpOk hCle (by rw[<-c4];exact I4.free)) (by rw[<-c4];exact hn4) qn
  .refine bA (T.item (eE X sc N' B) rfl rfl rfl hc i [] s3 σ3 H3 (λ_ _=>False) I3 (stat I3 fr3) st3 go) λr s4 ⟨u,hr,h4⟩=>?_;subst hr;refine bA h4 λ_ s5 ⟨x,H5,I5,r5,y5,st5,fr5⟩=>?_;have I5':=I5.pinned (stat I5 fr5) (T.obj _ _ st5);refine bA (hg B _ s5 σ3 H5 x u _ I5' r5 (step x H5 y5)) λ_ s6 ⟨σ6,H6,I6,q6⟩=>?_;refine bA (ht B _ s6 σ6 H6 _ I6 q6) λok s7 ⟨H7,I7,q7⟩=>?_;have again:∀{H8:Hp} {s8:Ag} {acc':List V},Inv (eE X sc N' B) ([]++pO fp s5.heap) σ6 H8 s8->(∃m',m'<n/\W (i+1) m' σ6 acc' H8)->∃m,m<n/\∃i σ' acc H',Inv (eE X sc N' B) [] σ' H' s8/\tn i s8.heap/\(∀b∈fp,H' b=none)/\W i m σ' acc H':=
    λ{H8 s8 acc'} I8 ⟨m',hm,w8⟩=>by
     refine⟨m',hm,i+1,σ6,acc',H8,I8.unpinned,T.keep _ _ _ st5 λb hb o e=>(I8.pin (b,o) (Cf _ (Cf _ (r9 hb e)))).1,λb hb=>?_,w8⟩;obtain⟨o,e,d⟩:=T.obj _ _ st5 b hb;exact(I8.pin (b,o) (Cf _ (Cf _ (r9 hb e)))).2.1
   cases ok with
   | false=>
    rw[if_neg Av]at q7;rw[if_neg Av];exact again I7 (hN _ _ _ q7)
   | true=>
    rw[if_pos rfl]at q7;rw[if_pos rfl];refine bA (he B _ s7 σ6 H7 _ I7 q7) λy s8 ⟨z,H8,I8,r8,hp8,hl8,q8⟩=>?_;exact bA (EN _ s8 σ6 H8 (.ref s.heap.objs.size) [z] (.ref s.heap.objs.size) [y] (λ_ H9=>N σ6 (acc++[z]) H9) I8 rfl (.cons r8 .nil) ⟨_,acc,z,rfl,rfl,hp8,hl8,q8⟩) λ_ s9 ⟨_,H9,I9,_,q9⟩=>again I9 (hN _ _ _ q9)
 exact codeAny_compStart_list (loop _ rfl) (T.self _ 0 _ _ _ st1 (loop _ rfl))
theorem S8(N':List Str)(js:List (Option Nat))(hi:PI X tg iter wi)(hg:∀B,PG (eE X sc N' B) tg (g B))(ht:∀B,i0 (eE X sc N' B) ifs (tt B))(he:∀B,PE (eE X sc N' B) elt (te B))(S0:nH N' sc X.env.scope=true:=by kernel_rfl)(hj:fV N' X.N sc js N'=true:=by kernel_rfl)(hc:X.calm=true:=by rfl)(hs:∀x,Gm iter X.env x=pure x:=by intro _;rfl):PE X (.ListComp elt [⟨tg,iter,ifs,0⟩] sc pos) (wN wi g tt te js):=by
 intro pins s Z H Q I h;have S:=nG.of S0;rw[eval_ListComp];refine wpAny_comprehension_free (use:=none) rfl hs (wC (wL S I)) S.kind S.loc (bA (hi pins s Z H _ I h) λxv s1 h1=>bA h1 λitv s2 h2=>?_);obtain⟨it,fp,tn,J,H2,e,I2,T,st2,f2,hw⟩:=h2;subst e;refine EY (RR:=λacc C=>compPost (Bn X.prog X.w) X.A X.xe none (EP X pins Z Q) acc C) S hj hc hg ht he I2 T st2 f2 hw ?_;intro p C H' s' m I' fC hn q;refine⟨m,hn,λh' hs'=>⟨.ref p,H',?_,rfl,q⟩⟩;exact I'.turned (t':=s'.toks) (λb o hb e=>(hs'.2 b hb).trans e) fC.1 fC.2.1 fC.2.2.2.1 fC.2.2.2.2.1 fC.2.2.2.2.2
theorem S9{i:Nat}{x:Str}{px spos:Pos}(hN:X.N.Nodup)(hi0:X.N[i]? = some x)(hx:Loc X.env.scope x)(N':List Str)(js:List (Option Nat))(hi:PI X tg iter wi)(hg:∀B,PG (eE X sc N' B) tg (g B))(ht:∀B,i0 (eE X sc N' B) ifs (tt B))(he:∀B,PE (eE X sc N' B) elt (te B))(S0:nH N' sc X.env.scope=true:=by kernel_rfl)(hj:fV N' X.N sc js N'=true:=by kernel_rfl)(hc:X.calm=true:=by rfl)(hsw:Je (.ListComp elt [⟨tg,iter,ifs,0⟩] sc pos) (some (.Name x px)) spos.line X.env=pure true:=by rfl)(hf:X.fn x=true\/X.env.scope.names.lookup x=some .local:=by first|exact .inl rfl|exact .inr rfl|assumption)(hs:∀x,Gm iter X.env x=pure x:=by intro _;rfl):PS X (.Assign [.Name x px] (.ListComp elt [⟨tg,iter,ifs,0⟩] sc pos) spos) (rY (wN wi g tt te js) (vU i)):=by
 intro pins s Z H D I h;have S:=nG.of S0;rw[exec_Assign_Name_used _ _ _ _ hsw];refine Ab (Mq (Ab ?_));show Bc _ X.A (do let _ <-comprehension (.ListComp elt [⟨tg,iter,ifs,0⟩] sc pos) sc X.env _ (newList []) false (eval iter X.env) (some (Lg (.Name x px) X.env))) _ _ s;refine Ab (Hi (wpAny_comprehension_free (use:=some (Lg (.Name x px) X.env)) (Q:=λ_ s'=>SP X pins D .next s') rfl hs (wC (wL S I)) S.kind S.loc
  (bA (hi pins s Z H _ I h) λxv s1 h1=>bA h1 λitv s2 h2=>?_)) (λ_ s' hq=>Aj (Aj hq)) λ_ _ e=>e)
 obtain⟨it,fp,tn,J,H2,e,I2,T,st2,f2,hw⟩:=h2;subst e;refine EY (RR:=λacc C=>compPost (Bn X.prog X.w) X.A X.xe (some (Lg (.Name x px) X.env)) (λ_ s'=>SP X pins D .next s') acc C) S hj hc hg ht he I2 T st2 f2 hw ?_;intro p C H' s' m I' fC hn q;show Bc _ X.A (Lg (.Name x px) X.env (.ref p)) _ _ _;refine wpAny_assign_Name (DL I' hN hi0 hx (v:=.ref p) rfl (λs'' I'' ⟨a,sb,ha⟩=>?_) hf);have hCa:C≠a:=by
  rcases ha with e|e
  .rw[e];exact fC.2.1
  .exact λz=>fC.2.2.2.2.1 x a e z.symm
 refine⟨m,hn.sameBut sb hCa,λh' hs'=>⟨_,H',?_,q⟩⟩;exact I''.turned (t':=s''.toks) (λb o hb e=>(hs'.2 b hb).trans e) fC.1 fC.2.1 fC.2.2.2.1 fC.2.2.2.2.1 fC.2.2.2.2.2
end
section
variable {g:TG}{tt:TT}{te:TE}{p:Addr}{σ₀:St}{H1:Hp}{Q:VK}
theorem TB{J:It}(n:Nat)(Pv:Nat->St->List V->Hp->Prop)(h0:Pv 0 σ₀ [] (aX H1 p (.lst [])))(hd:∀Z acc H,Pv n Z acc H->J.stop n H/\Q (.ref p) H)(hs:∀i Z acc H,i<n->Pv i Z acc H->J.go i H/\∀x H',J.yld i H x H'->g x Z H' λσ2 H2=>tt σ2 H2 λb H3=>
   if b=true then te σ2 H3 λy H4=>H4 p=some (.lst acc)/\acc.length<Am/\Pv (i+1) σ2 (acc++[y]) (aX H4 p (.lst (acc++[y]))) else Pv (i+1) σ2 acc H3):wM J g tt te p σ₀ H1 Q:=by
 refine⟨λi m Z acc H=>m=n-i/\i<=n/\Pv i Z acc H,⟨n,by simp,Bz _,h0⟩,?_⟩;rintro i m Z acc H ⟨rfl,hi,q⟩
 by_cases hlt:i<n
 .obtain⟨hg,hy⟩:=hs i Z acc H hlt q;exact .inr ⟨hg,Pv (i+1),λσ2 acc' H' q'=>⟨n-(i+1),by lia,rfl,hlt,q'⟩,hy⟩
 .have e:i=n:=by lia
  subst e;exact .inl (hd Z acc H q)
end
section
variable {X:Cx}
theorem EZ{i:Int}(h:i.natAbs<2 ^ 4096):Builtin.Int.intBits i<=2 ^ 20:=by
 unfold Builtin.Int.intBits;split
 .exact Bz _
 .rename_i h0;have hn:i.natAbs≠0:=by
   intro z;have:i=0:=Int.natAbs_eq_zero.mp z;rw[this]at h0;exact h0 rfl
  have:i.natAbs.log2<4096:=(Nat.log2_lt hn).mpr h;have e:(2:Nat) ^ 20=1048576:=by decide
  lia
def sO(i j:Int):Prop:=i.natAbs<2 ^ 4096/\j.natAbs<2 ^ 4096
theorem TC:bG X (Ff .Mult) (rI sO λi j=>.int (i*j)):=pR λ_ _ _ _ _ _ _ hc q=>mul_int q (IntMulOk.of_bits (EZ hc.1) (EZ hc.2))
def E2(i j:Int):Prop:=0<j/\j<2 ^ 4096
theorem TF:bG X (Ff .FloorDiv) (rI E2 λi j=>.int (i/j)):=pR λi j _ _ _ _ _ hc q=>by
 refine floordiv_int (by have:=hc.1;lia) ?_ (.inl (PyProof.noPylong_of_log2 ?_))
 .rw[Int.fdiv_eq_ediv_of_nonneg _ (Int.le_of_lt hc.1)];exact q
 .have h0:j.natAbs≠0:=by have:=hc.1;lia
  have h1:j.natAbs<2 ^ 4096:=by
   have a:=hc.1;have b:=hc.2;lia
  have:=(Nat.log2_lt h0).mpr h1;lia
theorem all_range{bs:List Bool}:(Cv bs.length).all (λi=>bs.getD i false)=bs.all id:=by
 induction bs with
 | nil=>rfl
 | cons b r ih=>
  rw[Az,List.range_succ_eq_map,Jo,List.all_map,Jo];have:((λi=>(b::r).getD i false) ∘ Nat.succ)=λi=>r.getD i false:=by
   funext i;simp[List.getD]
  rw[this,ih];simp
theorem E4(hc:X.calm=true):dR X (.builtin "all") (λxs H Q=>∃(p:Addr) (bs:List Bool),xs=[.ref p]/\bN X.K H p (bs.map V.bl)/\Q (.bl (bs.all id)) H):=by
 intro pins s Z H xs us Q I r h;obtain⟨p,bs,rfl,hq,q⟩:=h;obtain⟨u,rfl,ru⟩:=vals1 r;cases ru;obtain⟨its,rv,pl,hz⟩:=I.list hq;have hlt:p<s.heap.objs.size:=by obtain⟨_,e,_⟩:=pl.isList;exact Aw e
 refine call_all_walk (La pl.isList ?_);have hA:X.A.in1.handled=none:=I.ok.hd hc;refine⟨s.heap.objs.size,[s.heap.objs.size,p],[s.heap.objs.size],its.toArray.size,(λi v=>its.toArray[i]? = some v),_,(λi=>bs.getD i false),rfl,Walks.list hA s.heap.objs.size p (Bl hlt) its.toArray,
  ⟨⟨_,Ay _ rfl,rfl,rfl⟩,pl.isList.push _⟩,?_,λh' tk hk=>?_⟩
 .intro i v s' Q' E' hv hQ';have hv':its[i]? = some v:=by simpa using hv
  have hi:i<its.length:=(Ai.mp hv').1;have hl:=rv.length;rw[Aa]at hl;have hb:bs[i]? = some (bs.getD i false):=by
   have hi':i<bs.length:=by lia
   simp[List.getD,Ak hi']
  obtain⟨u,hu,ru⟩:=rv.get (i:=i) (x:=.bl (bs.getD i false)) (by rw[Ap,hb];rfl);rw[hv']at hu;cases hu;cases (show v=Value.bool (bs.getD i false) from ru);exact Aj hQ'
 .have hl:=rv.length;rw[Aa]at hl;have e:(Cv its.toArray.size).all (λi=>bs.getD i false)=bs.all id:=by
   rw[Ax,<-hl,all_range]
  rw[e];refine⟨.bl (bs.all id),H,?_,rfl,q⟩;exact I.kept (t':=tk) λb o eb=>hk b o (λz=>by
   have:b=s.heap.objs.size:=by simpa using z
   exact absurd (Aw eb) (by rw[this];exact Il _)) (Af _ eb)
theorem TH:dR X (.builtin "isinstance") (λxs H Q=>∃x T t b,xs=[x,.ty T]/\iM X.K H x t/\Iq X.K t (.type T)=some b/\Q (.bl b) H):=by
 intro pins s Z H xs us Q I r h;obtain⟨x,T,t,b,rfl,ty,e,q⟩:=h;obtain⟨u,w',rfl,ru,rw'⟩:=vals2 r;cases (show w'=Value.type T from rw');exact P7 I ru ty e λtk=>⟨.bl b,H,I.tok _,rfl,q⟩
def wO(z:Str):It:=⟨λi _=>i<z.cps.size,λi H x H'=>H'=H/\∃c,z.cps.toList[i]? = some c/\x=.str ⟨#[c]⟩,λi _=>z.cps.size<=i⟩
theorem E5{P:Bv}{w:Cp}{K:Ac}{x:Str}{px:Pos}(z:Str)(it:Addr)(ty:String)(tk0:Tok)(nx:∀(A:Cq) (s:Ag) (i c:Nat) (Q:Option Ae->Ag->Prop) (E:Ae->Ag->Prop),s.heap.IsStrIter it ty z tk0 i->z.cps[i]? = some c->
   (∀h',h'.IsStrIter it ty z tk0 (i+1)->Eo it s.heap h'->Q (some (.str ⟨#[c]⟩ s.toks)) {s with heap:=h',toks:=s.toks+1})->Bc (Bn P w) A (Jk (.ref it)) Q E s)(en:∀(A:Cq) (s:Ag) (i:Nat) (Q:Option Ae->Ag->Prop) (E:Ae->Ag->Prop),A.handled=none->s.heap.IsStrIter it ty z tk0 i->z.cps[i]? = none->
   (∀h',Lq it s.heap h'->Q none {s with heap:=h'})->Bc (Bn P w) A (Jk (.ref it)) Q E s)(slf:∀(A:Cq) (i:Nat) (s:Ag) (Q:Ae->Ag->Prop) (E:Ae->Ag->Prop),s.heap.IsStrIter it ty z tk0 i->Q (.ref it) s->Bc (Bn P w) A (pyIter (.ref it)) Q E s):
  kK P w K (.Name x px) (wO z) [it] it (λi h=>h.IsStrIter it ty z tk0 i) where
 mem:=by simp
 obj:=λi h st b hb=>by
  have e:b=it:=by simpa using hb
  subst e;obtain⟨o,ho,_,hd⟩:=st;exact⟨o,ho,λv q=>by rw[hd]at q;cases q⟩
 keep:=λi h h' st k=>by
  obtain⟨o,ho,r⟩:=st;exact⟨o,k it (by simp) o ho,r⟩
 item:=by
  intro X hP hw hK hc i pins s Z H E I hf st hg;subst hP hw hK;obtain⟨f0,f1,f2,f3,f4,f5⟩:=hf it (by simp);have hi:z.cps[i]? = some z.cps[i]:=Array.getElem?_eq_getElem hg;refine nx X.A s i _ _ _ st hi λh' st' sb=>?_;have I1:Inv X pins Z H {s with heap:=h',toks:=s.toks+1}:=I.turned (λb o hb e=>(sb.2 b hb).trans e) f0 f1 f3 f4 f5;exact⟨_,rfl,Aj ⟨.str ⟨#[z.cps[i]]⟩,H,I1,⟨_,rfl⟩,⟨rfl,z.cps[i],by rw[Fy];exact hi,rfl⟩,st',λb hb=>(hf b hb).1⟩⟩
 done:=by
  intro X hP hw hK hc i pins s Z H E I hf st hg;subst hP hw hK;obtain⟨f0,f1,f2,f3,f4,f5⟩:=hf it (by simp);have hg':z.cps.size<=i:=hg;exact en X.A s i _ _ (I.ok.hd hc) st (Array.getElem?_eq_none hg') λh' eb=>⟨rfl,I.turned (t':=s.toks) (λb o hb e=>eb b o hb e) f0 f1 f3 f4 f5⟩
 self:=slf
theorem E6{prog:Bv}{w:Cp}{A:Cq}{E:Ae->Ag->Prop}{it l:Addr}{items:Array Ae}(hne:l≠it):∀(n i:Nat) (s:Ag) (Q:List Ae->Ag->Prop),s.heap.IsListIter it l i->s.heap.IsList l items->i+n<=items.size->
  (∀h',h'.IsListIter it l (i+n)->Eo it s.heap h'->Q ((items.toList.drop i).take n) {s with heap:=h'})->Bc (Bn prog w) A (draw (.ref it) n) Q E s
 | 0,i,s,Q,hit,_,_,hQ=>by
  show Bc _ _ (pure []) Q E s;exact Aj (by simpa using hQ s.heap hit (Heap.SameBut.refl ..))
 | n+1,i,s,Q,hit,ht,hle,hQ=>by
  have hlt:i<items.size:=by lia
  show Bc _ _ (Jk (.ref it)>>=_) Q E s;refine Ab (wpAny_pyNext_list_item hit ht (x:=items[i]) (by simp[hlt]) λh1 hit1 hs1=>?_);refine Ab (Ds (E6 hne n (i+1) _ _ hit1 (ht.extBut hs1.extBut hne) (by lia) λh2 hit2 hs2=>Aj ?_));have hd:items.toList.drop i=items[i]::items.toList.drop (i+1):=by simp[Hz,hlt]
  have:=hQ h2 (by rw[show i+(n+1)=i+1+n by lia];exact hit2) (hs1.trans hs2);rw[hd,List.take_succ_cons]at this;exact this
theorem TJ{prog:Bv}{w:Cp}{A:Cq}{E:Ae->Ag->Prop}{s:Ag}{t:Addr}{items:Array Ae}{targets:List (Bool×(Ae->Sem Unit))}{Q:Unit->Ag->Prop}(hh:A.handled=none)(ht:s.heap.IsList t items)(hn:targets.length=items.size)(hstar:targets.findIdx? (·.1)=none)(h:∀h',Lq s.heap.objs.size s.heap h'->Bc (Bn prog w) A (assignInOrder (targets.map (·.2)) items.toList) Q E {s with heap:=h'}):
  Bc (Bn prog w) A (unpack (.ref t) targets) Q E s:=by
 have hlt:t≠s.heap.objs.size:=by obtain⟨o,ho,_⟩:=ht;exact Bl (Aw ho)
 unfold unpack;rw[hn,hstar];refine Ab (Ds ?_);unfold unpackItems;refine Ab ?_;unfold notIterableAtAll;refine Ab (wpAny_specialOf ht.typeIs F.slot_list_iter.lookup ?_);refine Aj ?_;simp only[Ep,if_false];refine Ab (Ds (La ht ?_));refine Ab (Ds (E6 hlt items.size 0 _ _ ⟨_,Ay _ rfl,rfl,rfl⟩ (ht.push _) (by lia) λh1 hit1 hs1=>?_));have hall:List.take items.size (List.drop 0 items.toList)=items.toList:=by
  rw[List.drop_zero];exact Gs (by simp)
 rw[hall];rw[if_neg (by simp)];have ht1:h1.IsList t items:=(ht.push _).extBut hs1.extBut hlt;refine Ab (Ds (wpAny_pyNext_list_end hh hit1 ht1 (by simp) λh2 he2=>?_));simp only[Option.isSome_none,Ep,if_false];refine Aj (h h2 λb o hb e=>he2 b o hb (hs1.extBut b o hb (Af _ e)))
def TK(K:Ac)(n:Nat)(t:jW):TG:=λv Z H Q=>∃a xs,v=.ref a/\bN K H a xs/\xs.length=n/\t xs Z H Q
theorem E7{es:List Expr}{k:Nat}{pos:Pos}{t:jW}{n:Nat}(hc:X.calm=true)(h:jG X es t)(hn:(Gg es X.env).length=n:=by rfl)(hst:(Gg es X.env).findIdx? (·.1)=none:=by rfl):PG X (.Tuple es k pos) (TK X.K n t):=by
 intro pins s Z H v u Q I r hw;obtain⟨a,xs,e1,hq,hl,hw⟩:=hw;subst e1;cases r;obtain⟨its,rv,ht,hz⟩:=I.list hq;rw[PyProof.Rows.assign_Tuple];refine Ab (Mq (TJ (I.ok.hd hc) ht.isList (by simp[hn,<-hl,rv.length]) hst λh' hx=>?_));have I1:Inv X pins Z H {s with heap:=h'}:=I.kept (t':=s.toks) λb o e=>hx b o (Bl (Aw e)) e;exact h pins _ Z H xs _ Q I1 (by simpa using rv) hw
end
end L2
namespace Rg
open PySem Spec PyProof.Rows L2
theorem E8{i:Nat}{m n:Nat}(h:i<2 ^ m)(hm:m<=n):i<2 ^ n:=Ca h (Nat.pow_le_pow_right (by decide) hm)
end Rg
namespace L2
open PySem Spec PyProof.Rows
section
variable {X:Cx}
def E9(d:Ku):Prop:=d.canLay0=true/\d.depth<=60
theorem sP:∀{xs:List V} {us:List Ae},xs.length=us.length->(∀(j:Nat) (u:Ae),us[j]? = some u->∃x,xs[j]? = some x/\RelV x u)->a8 xs us
 | [],[],_,_=>.nil
 | [],_::_,h,_=>by simp at h
 | _::_,[],h,_=>by simp at h
 | x::xs,u::us,h,k=>by
  obtain⟨y,e,r⟩:=k 0 u rfl;simp at e;subst e;exact .cons r (sP (by simpa using h) λj v hv=>by
   obtain⟨y,e,r⟩:=k (j+1) v (by simpa using hv);exact⟨y,by simpa using e,r⟩)
theorem wQ:∀{kvs:List (aK×V)} {vs:List (aK×Ae)} {j:Nat} {k:aK} {x:Ae},KV kvs vs->vs[j]? = some (k,x)->∃v,kvs[j]? = some (k,v)
 | _,_,_,_,_,.nil,e=>by simp at e
 | _,_,0,_,_,.cons (a:=p) r _,e=>by
  simp at e;subst e;exact⟨p.2,by obtain⟨a,b⟩:=p;cases r.1;rfl⟩
 | _,_,j+1,k,x,.cons _ t,e=>by
  obtain⟨v,q⟩:=wQ (j:=j) (k:=k) (x:=x) t (by simpa using e);exact⟨v,by simpa using q⟩
theorem wR{k:aK}{v:Ae}(h:nB k v=true):RelV (kV k) v:=by
 rcases kI h with⟨i,t,rfl,rfl⟩|⟨x,t,rfl,rfl⟩
 .exact⟨t,rfl⟩
 .exact⟨t,rfl⟩
theorem TL(hc:X.calm=true):dR X (.type "list") (λxs H Q=>∃d kvs,xs=[.ref d]/\H d=some (.dK kvs)/\∀l,H l=none->Q (.ref l) (aX H l (.lst (kvs.map λkv=>kV kv.1)))):=by
 intro pins s Z H xs us Q I r h;obtain⟨d,kvs,rfl,hd,q⟩:=h;obtain⟨u,rfl,ru⟩:=vals1 r;cases ru;obtain⟨hz,hne,vs,rkv,hD⟩:=(show cX X.prog X.w H s.heap d (.dK kvs) from I.hok d _ hd);obtain⟨ep,hat⟩:=hD.dictAt;have hl:=rkv.length;refine PySem.W.kdl_call (PySem.W.kdl_dict (knd:=d6 X.prog X.w) (kvs:=vs) (ep:=ep) hne) (I.ok.hd hc) hat (by rw[<-hl];exact hz) λh' tk acc' c' hk hS hacc=>?_;refine⟨.ref s.heap.objs.size,_,I.laid (o:=.lst (kvs.map λkv=>kV kv.1)) (t':=tk) hk (An _) ⟨by rw[Aa];exact hz,acc'.toList,c',?_,by rw[Jr];exact hS⟩,rfl,q _ (I.hok.fresh (An _))⟩;refine sP (by have h1:=hacc.1;have h2:acc'.toList.length=acc'.size:=Fo;have h3:(kvs.map λkv=>kV kv.1).length=kvs.length:=Aa ..;lia) λj v hv=>?_;obtain⟨k,x,hx,hk'⟩:=hacc.2 j v (by rw[<-Fy];exact hv);obtain⟨y,hy⟩:=wQ rkv hx;exact⟨kV k,by rw[Ap,hy];rfl,wR hk'⟩
theorem oF{n:Nat}(i j:Nat)(h:i≠j):n+i≠n+j:=by lia
theorem wU{n:Nat}(i:Nat)(h:i≠0):n+i≠n:=by lia
theorem FA{n:Nat}(i:Nat)(h:i≠0):n≠n+i:=by lia
theorem iN{n a:Nat}(i:Nat)(h:a<n):a≠n+i:=by lia
theorem sQ{n a:Nat}(h:a<n):a≠n:=by lia
theorem TM{n:Nat}(i:Nat):n<=n+i:=by lia
def sR(K:Ac)(a b:Addr)(xs ys:List V):It:=
 ⟨λi H=>bN K H a xs/\bN K H b ys/\i<xs.length/\i<ys.length,
   λi H x H'=>∃p u v,xs[i]? = some u/\ys[i]? = some v/\H p=none/\x=.ref p/\H'=aX H p (.tup [u,v]),
   λi H=>bN K H a xs/\bN K H b ys/\(xs.length<=i\/ys.length<=i)⟩
theorem TN{P:Bv}{w:Cp}{K:Ac}{es:List Expr}{kx:Nat}{px:Pos}(a b z TI TO i1 i2:Addr)(xs ys:List V)(D:ZipApart z TI TO i1 i2 a b):
  kK P w K (.Tuple es kx px) (sR K a b xs ys) [z,TI,TO,i1,i2] z (λi h=>Ml h z TI TO .none/\Gr h TI (.ref i1) (.ref i2)/\(∃c d,Gr h TO c d)/\h.IsListIter i1 a i/\h.IsListIter i2 b i) where
 mem:=by simp
 obj:=λi h st c hc=>by
  obtain⟨h1,h2,⟨p,q,h3⟩,⟨o4,h4,_,h4d⟩,⟨o5,h5,_,h5d⟩⟩:=st;simp only[Ar,Dv,or_false]at hc;rcases hc with rfl|rfl|rfl|rfl|rfl
  .exact⟨_,h1,λv q=>by cases q⟩
  .exact⟨_,h2,λv q=>by cases q⟩
  .exact⟨_,h3,λv q=>by cases q⟩
  .exact⟨_,h4,λv q=>by rw[h4d]at q;cases q⟩
  .exact⟨_,h5,λv q=>by rw[h5d]at q;cases q⟩
 keep:=λi h h' st k=>by
  obtain⟨h1,h2,⟨p,q,h3⟩,⟨o4,h4,r4⟩,⟨o5,h5,r5⟩⟩:=st;exact⟨k z (by simp) _ h1,k TI (by simp) _ h2,⟨p,q,k TO (by simp) _ h3⟩,⟨o4,k i1 (by simp) _ h4,r4⟩,⟨o5,k i2 (by simp) _ h5,r5⟩⟩
 item:=by
  intro X hP hw hK hc i pins s Z H E I hf st hg;subst hP hw hK;obtain⟨h1,h2,⟨c,d,h3⟩,h4,h5⟩:=st;obtain⟨hqa,hqb,hi,hj⟩:=hg;obtain⟨its,rv,pl,hz⟩:=I.list hqa;obtain⟨its2,rv2,pl2,hz2⟩:=I.list hqb;obtain⟨u,hu,ru⟩:=rv.get (Ak hi);obtain⟨v,hv,rvv⟩:=rv2.get (Ak hj);refine wpAny_pyNext_zip_item D h1 h2 h3 h4 h5 pl.isList pl2.isList (x:=u) (y:=v) (by simpa using hu) (by simpa using hv) λh' a1 a2 a3 a4 a5 a6 hk=>?_;refine⟨_,rfl,wpAny_letOwnedTupleGo_zip a1 λh'' z' sb=>?_⟩;have hfr:H s.heap.objs.size=none:=I.hok.fresh (An _);have ltz:z<s.heap.objs.size:=Aw h1;have ltO:TO<s.heap.objs.size:=Aw h3;have lt1:i1<s.heap.objs.size:=by obtain⟨_,e,_⟩:=h4;exact Aw e
  have lt2:i2<s.heap.objs.size:=by obtain⟨_,e,_⟩:=h5;exact Aw e
  have keep2:∀q o,q∉[z,TI,TO,i1,i2]->s.heap.get? q=some o->h''.get? q=some o:=λq o hq e=>by
   simp only[Ar,Dv,or_false,not_or]at hq;exact(sb.2 q hq.1).trans (hk q o hq.1 hq.2.2.1 hq.2.2.2.1 hq.2.2.2.2 e)
  have hp2:Gr h'' s.heap.objs.size u v:=(sb.2 _ (Dt ltz)).trans a5;have nfp:∀q∈[z,TI,TO,i1,i2],H q=none:=λq hq=>(hf q hq).1;have I1:Inv X pins Z (aX H s.heap.objs.size (.tup [xs[i],ys[i]])) {s with heap:=h''}:=by
   refine I.step (g':=s.gens) (d':=s.drawn) (t':=s.toks) (ch:=[z,TI,TO,i1,i2]) (λq hq=>⟨(hf q hq).2.2.2.1,(hf q hq).2.1,(hf q hq).2.2.2.2.1,(hf q hq).2.2.2.2.2⟩)
    (λq o _ _ hc e _=>keep2 q o hc e) (λq o _ _ hc e _=>⟨o.slots,keep2 q o hc e⟩) (λq o _ e n=>by rw[bH (Bl (Aw e))];exact n)
    (λq o hc e=>⟨o,keep2 q o hc e⟩) (λq zs e=>by rw[bH (eV e hfr)];exact e) (λq o zs e=>by rw[bH (eV e hfr)];exact e) (λq ps e=>⟨#[],by rw[bH (eV e hfr),e];simp⟩) (λm hm=>?_) ?_ I.bare
   .obtain⟨o,es,ep,ho,r⟩:=hm;exact⟨o,es,ep,keep2 _ o (λz=>absurd rfl (hf _ z).2.1) ho,r⟩
   .intro q o e
    by_cases hq:q=s.heap.objs.size
    .subst hq;rw[c9]at e;cases e;exact⟨by show 2<=Am;decide,[u,v],.cons ru (.cons rvv .nil),⟨_,hp2,rfl,_,rfl⟩⟩
    .rw[bH hq]at e;refine(I.hok q o e).stay (λt w' ht qq=>keep2 t w' (λz=>?_) qq) (λt qq=>by rw[bH (eV qq hfr)];exact qq) λt zs qq=>by rw[bH (eV qq hfr)];exact qq
     have n0:=nfp t z;rcases ht with rfl|ht
     .rw[n0]at e;cases e
     .rw[n0]at ht;cases ht
  refine⟨.ref s.heap.objs.size,_,I1,rfl,⟨s.heap.objs.size,xs[i],ys[i],Ak hi,Ak hj,hfr,rfl,rfl⟩,⟨z',(sb.2 _ D.TIz).trans (hk _ _ D.TIz D.TITO D.TIi1 D.TIi2 h2),⟨u,v,(sb.2 _ D.TOz).trans a2⟩,a3.extBut sb.extBut D.i1z,a4.extBut sb.extBut D.i2z⟩,λq hq=>?_⟩;rw[bH]
  .exact nfp q hq
  .intro e;subst e;have:H s.heap.objs.size=none:=hfr;simp only[Ar,Dv,or_false]at hq;have ltI:TI<s.heap.objs.size:=Aw h2;rcases hq with e|e|e|e|e
   .exact Dt ltz e
   .exact Dt ltI e
   .exact Dt ltO e
   .exact Dt lt1 e
   .exact Dt lt2 e
 done:=by
  intro X hP hw hK hc i pins s Z H E I hf st hg;subst hP hw hK;obtain⟨h1,h2,⟨c,d,h3⟩,h4,h5⟩:=st;obtain⟨hqa,hqb,hij⟩:=hg;obtain⟨its,rv,pl,hz⟩:=I.list hqa;obtain⟨its2,rv2,pl2,hz2⟩:=I.list hqb;have l1:=rv.length;have l2:=rv2.length;refine wpAny_pyNext_zip_end (I.ok.hd hc) D h1 h2 h3 h4 h5 pl.isList pl2.isList (hij.elim (λq=>.inl (by simp;lia)) λq=>.inr (by simp;lia)) λh' hk=>⟨rfl,?_⟩
  have keep2:∀q o,q∉[z,TI,TO,i1,i2]->s.heap.get? q=some o->h'.get? q=some o:=λq o hq e=>by
   simp only[Ar,Dv,or_false,not_or]at hq;exact hk q o hq.1 hq.2.2.1 hq.2.2.2.1 hq.2.2.2.2 e
  have nfp:∀q∈[z,TI,TO,i1,i2],H q=none:=λq hq=>(hf q hq).1;refine I.step (g':=s.gens) (d':=s.drawn) (t':=s.toks) (ch:=[z,TI,TO,i1,i2]) (λq hq=>⟨(hf q hq).2.2.2.1,(hf q hq).2.1,(hf q hq).2.2.2.2.1,(hf q hq).2.2.2.2.2⟩)
    (λq o _ _ hc e _=>keep2 q o hc e) (λq o _ _ hc e _=>⟨o.slots,keep2 q o hc e⟩) (λq o _ e n=>n)
    (λq o hc e=>⟨o,keep2 q o hc e⟩) (λq zs e=>e) (λq o zs e=>e) (λq ps e=>⟨#[],by rw[e];simp⟩) (λm hm=>?_) ?_ I.bare
  .obtain⟨o,es,ep,ho,r⟩:=hm;exact⟨o,es,ep,keep2 _ o (λz=>absurd rfl (hf _ z).2.1) ho,r⟩
  .intro q o e;refine(I.hok q o e).stay (λt w' ht qq=>keep2 t w' (λz=>?_) qq) (λt qq=>qq) λt zs qq=>qq;have n0:=nfp t z;rcases ht with rfl|ht
   .rw[n0]at e;cases e
   .rw[n0]at ht;cases ht
 self:=λ_ _ _ _ _ st h=>Lj st.1 h
theorem TQ:Co "zip" = some (.type "zip"):=by decide +kernel
end
section
variable {X:Cx}
theorem Inv.laidT{pins:List (Addr×Obj)}{Z:St}{H:Hp}{s:Ag}{fp:List Addr}{h'':Heap}{tk:Nat}{xs:List V}{its:List Ae}(I:Inv X pins Z H s)(hf:∀b∈fp,iC X pins H b)(keep2:∀q o,q∉fp->s.heap.get? q=some o->h''.get? q=some o)(hz:xs.length<=Am)(rv:a8 xs its)(hp2:h''.get? s.heap.objs.size=some {cls:=.type "tuple",data:=.seq its.toArray}):
  Inv X pins Z (aX H s.heap.objs.size (.tup xs)) {s with heap:=h'',toks:=tk}:=by
 have hfr:H s.heap.objs.size=none:=I.hok.fresh (An _);have nfp:∀q∈fp,H q=none:=λq hq=>(hf q hq).1;refine I.step (g':=s.gens) (d':=s.drawn) (t':=tk) (ch:=fp) (λq hq=>⟨(hf q hq).2.2.2.1,(hf q hq).2.1,(hf q hq).2.2.2.2.1,(hf q hq).2.2.2.2.2⟩)
  (λq o _ _ hc e _=>keep2 q o hc e) (λq o _ _ hc e _=>⟨o.slots,keep2 q o hc e⟩) (λq o _ e n=>by rw[bH (Bl (Aw e))];exact n)
  (λq o hc e=>⟨o,keep2 q o hc e⟩) (λq zs e=>by rw[bH (eV e hfr)];exact e) (λq o zs e=>by rw[bH (eV e hfr)];exact e) (λq ps e=>⟨#[],by rw[bH (eV e hfr),e];simp⟩) (λm hm=>?_) ?_ I.bare
 .obtain⟨o,es,ep,ho,r⟩:=hm;exact⟨o,es,ep,keep2 _ o (λz=>absurd rfl (hf _ z).2.1) ho,r⟩
 .intro q o e
  by_cases hq:q=s.heap.objs.size
  .subst hq;rw[c9]at e;cases e;exact⟨hz,its,rv,⟨_,hp2,rfl,_,rfl⟩⟩
  .rw[bH hq]at e;refine(I.hok q o e).stay (λt w' ht qq=>keep2 t w' (λz=>?_) qq) (λt qq=>by rw[bH (eV qq hfr)];exact qq) λt zs qq=>by rw[bH (eV qq hfr)];exact qq
   have n0:=nfp t z;rcases ht with rfl|ht
   .rw[n0]at e;cases e
   .rw[n0]at ht;cases ht
theorem Inv.turnedT{pins:List (Addr×Obj)}{Z:St}{H:Hp}{s:Ag}{fp:List Addr}{h'':Heap}{tk:Nat}(I:Inv X pins Z H s)(hf:∀b∈fp,iC X pins H b)(keep2:∀q o,q∉fp->s.heap.get? q=some o->h''.get? q=some o):Inv X pins Z H {s with heap:=h'',toks:=tk}:=by
 have nfp:∀q∈fp,H q=none:=λq hq=>(hf q hq).1;refine I.step (g':=s.gens) (d':=s.drawn) (t':=tk) (ch:=fp) (λq hq=>⟨(hf q hq).2.2.2.1,(hf q hq).2.1,(hf q hq).2.2.2.2.1,(hf q hq).2.2.2.2.2⟩)
   (λq o _ _ hc e _=>keep2 q o hc e) (λq o _ _ hc e _=>⟨o.slots,keep2 q o hc e⟩) (λq o _ e n=>n)
   (λq o hc e=>⟨o,keep2 q o hc e⟩) (λq zs e=>e) (λq o zs e=>e) (λq ps e=>⟨#[],by rw[e];simp⟩) (λm hm=>?_) ?_ I.bare
 .obtain⟨o,es,ep,ho,r⟩:=hm;exact⟨o,es,ep,keep2 _ o (λz=>absurd rfl (hf _ z).2.1) ho,r⟩
 .intro q o e;refine(I.hok q o e).stay (λt w' ht qq=>keep2 t w' (λz=>?_) qq) (λt qq=>qq) λt zs qq=>qq;have n0:=nfp t z;rcases ht with rfl|ht
  .rw[n0]at e;cases e
  .rw[n0]at ht;cases ht
end
abbrev zf9:=aK×List aK
end L2
namespace L2
open PySem PySem.Spec PySem.W PyProof.Rows
section
variable {prog:Bv}{w:Cp}{A:Cq}{E:Ae->Ag->Prop}{s:Ag}
theorem TR{it d:Addr}{i ep:Nat}{es:Array Hs}{od:Obj}{Q:Option Ae->Ag->Prop}(hit:s.heap.IsKeyIter it d i es.size ep)(hod:s.heap.get? d=some od)(hdd:od.data=.dict es ep)(hi:i<es.size)(hQ:∀h',h'.IsKeyIter it d (i+1) es.size ep->Eo it s.heap h'->Q (some es[i].key) {s with heap:=h'}):Bc (Bn prog w) A (Jk (.ref it)) Q E s:=by
 have hT:=hit.typeIs;obtain⟨o,ho,hc,hd⟩:=id hit;have own:Builtin.Dict_items.ownsTuple "dict_keyiterator" = false:=by decide
 have nn:¬((Value.ref d==Value.none)=true):=Av;have up:(s.heap.update it (Obj.mapFields (·.setIfInBounds 1 (Jj ((i:Int)+1))))).IsKeyIter it d (i+1) es.size ep:=
  ⟨_,Fz _ ho (Obj.isFreed_of_fields (Ki hd _)),(Obj.cls_mapFields ..).trans hc,by rw[Ki hd];simp[Jj]⟩
 have uT:=up.typeIs (s:={s with heap:=s.heap.update it (Obj.mapFields (·.setIfInBounds 1 (Jj ((i:Int)+1))))});unfold Jk;refine Ab (Ms (Ex (name:=Dy "__next__") hT El (Ed El hT PySem.F.entry_dict_keyiterator_next ?_ (PySem.F.args_dict_keyiterator_next_1 _))));refine Ab (Aj (Ab (Ab ?_)))
 first|refine Ab (Hb hT (Aj ?_))|refine Ab (Iw hT (Aj ?_))
 refine Ab (wpAny_fieldsOf ho hd ?_);rw[own,if_neg Av];show Bc _ _ (if (Value.ref d==Value.none)=true then _ else _) _ _ _;rw[if_neg nn];refine Ab (Aj (Ab (Hv hod hdd ?_)));rw[if_neg (by simp)];refine Ab (Aj (Ab (wpAny_dictEpoch hod hdd ?_)));rw[if_neg (by simp)];refine Aj ?_;simp only[show ¬((i:Int)<0) by lia,if_false,Dg,Array.getElem?_eq_getElem hi];refine Ab ?_
 first|refine Ab (Hb hT (Aj ?_))|refine Ab (Iw hT (Aj ?_))
 refine Ab (wpAny_isOneOf_keyiter hT ?_);show Bc _ _ (setField (.ref it) 1 (Jj ((i:Int)+1))>>=_) _ _ _;refine Ab (Mh ho hd (by simp) (Ab (Ds (Ab (wpAny_isOneOf_keyiter uT ?_)))));show Bc _ _ (pure es[i].key) _ _ _;exact Aj (Aj ⟨_,rfl,Aj (hQ _ up (Er ..))⟩)
theorem TU{it d:Addr}{i ep:Nat}{es:Array Hs}{od:Obj}{Q:Option Ae->Ag->Prop}(hh:A.handled=none)(hit:s.heap.IsKeyIter it d i es.size ep)(hod:s.heap.get? d=some od)(hdd:od.data=.dict es ep)(hi:es.size<=i)(hQ:∀h',Lq it s.heap h'->Q none {s with heap:=h'}):Bc (Bn prog w) A (Jk (.ref it)) Q E s:=by
 have hT:=hit.typeIs;obtain⟨o,ho,hc,hd⟩:=id hit;have own:Builtin.Dict_items.ownsTuple "dict_keyiterator" = false:=by decide
 have nn:¬((Value.ref d==Value.none)=true):=Av;unfold Jk;refine Ab (Ms (Ex (name:=Dy "__next__") hT El (Ed El hT PySem.F.entry_dict_keyiterator_next ?_ (PySem.F.args_dict_keyiterator_next_1 _))));refine Ab (Aj (Ab (Ab ?_)))
 first|refine Ab (Hb hT (Aj ?_))|refine Ab (Iw hT (Aj ?_))
 refine Ab (wpAny_fieldsOf ho hd ?_);rw[own,if_neg Av];show Bc _ _ (if (Value.ref d==Value.none)=true then _ else _) _ _ _;rw[if_neg nn];refine Ab (Aj (Ab (Hv hod hdd ?_)));rw[if_neg (by simp)];refine Ab (Aj (Ab (wpAny_dictEpoch hod hdd ?_)));rw[if_neg (by simp)];refine Aj ?_;simp only[show ¬((i:Int)<0) by lia,if_false,Dg,Array.getElem?_eq_none hi];refine Ab ?_
 first|refine Ab (Hb hT (Aj ?_))|refine Ab (Iw hT (Aj ?_))
 show Bc _ _ (setField (.ref it) 0 .none>>=_) _ _ _;refine Ab (Mh ho hd (by simp) ?_);show Bc _ _ (newExc (.type "StopIteration") []>>=_) _ _ _;refine Ab ?_;simp only[newExc,newTuple];refine Ab (Em (Ab (m:=Mj _ _) (wpAny_of_eq (a:=Value.none) (by first|rfl|(simp only[Mj];rfl)) (Em ?_ (by size_fits)))) (by size_fits));simp only[raiseNew];refine Ab (wpAny_handled ?_);rw[show A.in1.handled=none from hh];refine Ab (Aj (wpAny_throw ?_));refine Ab (Jx (T:="StopIteration") (b:=true) ⟨_,Ay _ rfl,rfl⟩ isSubtype_stop ?_);exact Aj (hQ _ (((Er ..).extBut.push _).push _))
def pW(h:Heap)(a:Addr)(es:Array Hs)(ep:Nat):Prop:=∃o,h.get? a=some o/\o.ExactDict/\o.data=.dict es ep
theorem pW.typeIs{d:Addr}{es:Array Hs}{ep:Nat}(h:pW s.heap d es ep):s.TypeIs (.ref d) "dict":=let ⟨o,ho,hc,_⟩:=h;⟨o,ho,hc.1⟩
theorem FC{d:Addr}{es:Array Hs}{ep:Nat}{Q:Ae->Ag->Prop}(hd:(d==Fq)=false)(hm:pW s.heap d es ep)(hQ:Q (.ref s.heap.objs.size) {s with heap:=s.heap.push {cls:=.type "dict_keyiterator",data:=.fields #[.ref d,.int 0 0,.int es.size 0,.int ep 0]}}):Bc (Bn prog w) A (pyIter (.ref d)) Q E s:=by
 have hT:=hm.typeIs;obtain⟨o,ho,hc,hdat⟩:=hm;refine wpAny_pyIter_slot hT PySem.F.slot_dict_iter (Ed PySem.F.slot_dict_iter hT PySem.F.entry_dict_iter ?_ (PySem.F.args_dict_iter_1 _));unfold Lf.«dict.__iter__»;refine Ab ?_;unfold Builtin.Dict.dictSlotNone;refine Ab (Jw hT (Aj ?_));show Bc _ _ (Builtin.Dict.showsAll d>>=_) _ _ _;unfold Builtin.Dict.showsAll;rw[if_neg (by rw[hd];exact Av)];refine Ab (Aj (Ab (Hv ho hdat (Ab (wpAny_dictEpoch ho hdat ?_)))));refine Ab (Em (Aj ⟨_,rfl,"dict_keyiterator",_,⟨_,Ay _ rfl,rfl⟩,El.lookup,?_⟩));simpa [Jj] using hQ
end
end L2
namespace L2
open PySem Spec PyProof.Rows
section
variable {X:Cx}{a:Expr}{ta:TA}{p p2 pos pos2:Pos}
theorem TV{xs:List V}{its:List Ae}{acc:Array Ae}(r:a8 xs its)(h:ItemsOf (λi v=>its.toArray[its.toArray.size-1-i]? = some v) acc its.toArray.size):a8 xs.reverse acc.toList:=by
 have hl:=r.length;have ha:acc.size=its.length:=by simpa using h.1
 have ha2:acc.toList.length=acc.size:=Fo;refine sP (by rw[List.length_reverse];lia) λj v hv=>?_;have hv':acc[j]? = some v:=by rw[<-Fy];exact hv
 have hj:j<acc.size:=(Ke.mp hv').1;have e:=h.2 j v hv';have e':its[its.length-1-j]? = some v:=by simpa using e
 have hlt:its.length-1-j<xs.length:=by lia
 obtain⟨u,hu,ru⟩:=r.get (Ak hlt);rw[e']at hu;cases hu;refine⟨xs[its.length-1-j],?_,ru⟩;rw[List.getElem?_reverse (by lia),Ak (by lia)];congr 2;lia
theorem TX:Co "reversed" = some (.type "reversed"):=by decide +kernel
theorem TY:Co "list" = some (.type "list"):=by decide +kernel
end
end L2
namespace PySem
namespace Zt
open PyProof.Rows L2 PySem.Spec
section
variable {prog:Bv}{w:Cp}{A:Cq}{E:Ae->Ag->Prop}{s:Ag}
theorem TZ{O:Type}{Q:O->Ag->Prop}(hh:A.handled=none)(hE:∀h' e,(∀c o,s.heap.get? c=some o->h'.get? c=some o)->(∃o,h'.get? e=some o/\o.cls=.type "StopIteration")->E (.ref e) {s with heap:=h'}):
  Bc (Bn prog w) A (Builtin.SmallTypes.stopIteration:Sem O) Q E s:=by
 unfold Builtin.SmallTypes.stopIteration;refine Ab (m:=newExc (.type "StopIteration") []) ?_;simp only[newExc,newTuple];refine Ab (Em (Ab (m:=Mj _ _) (wpAny_of_eq (a:=Value.none) (by first|rfl|(simp only[Mj];rfl)) (Em ?_ (by size_fits)))) (by size_fits));simp only[raiseNew];refine Ab (wpAny_handled ?_);rw[hh];refine Ab (Aj (wpAny_throw (hE _ _ (λc o e=>Af _ (Af _ e)) ⟨_,Ay _ rfl,rfl⟩)))
structure lM(prog:Bv)(w:Cp)(i l:Addr)(xs:Array Ae)(St:Nat->Heap->Prop):Prop where
 keep:∀k h h',St k h->(∀c,c=i\/c=l->∀o,h.get? c=some o->h'.get? c=some o)->St k h'
 there:∀k h,St k h->i<h.objs.size
 item:∀(A:Cq) (E:Ae->Ag->Prop) (s:Ag) (k:Nat) (x:Ae) (Q:Ae->Ag->Prop),St k s.heap->xs[k]? = some x->(∀h',St (k+1) h'->Eo i s.heap h'->Q x {s with heap:=h'})->
  Bc (Bn prog w) A (Dk (.ref i)) Q E s
 stop:∀(A:Cq) (E:Ae->Ag->Prop) (s:Ag) (k:Nat) (Q:Ae->Ag->Prop),A.handled=none->St k s.heap->xs[k]? = none->
  (∀h' e,Lq i s.heap h'->(∃o,h'.get? e=some o/\o.cls=.type "StopIteration")->E (.ref e) {s with heap:=h'})->Bc (Bn prog w) A (Dk (.ref i)) Q E s
theorem side_tuple(i l:Addr)(hne:l≠i)(xs:Array Ae):lM prog w i l xs (λk h=>h.IsTupleIter i l k/\h.IsTuple l xs) where
 keep:=λk h h' x hk=>by
  obtain⟨⟨o,e,r⟩,⟨u,g,q⟩⟩:=x;exact⟨⟨o,hk i (.inl rfl) o e,r⟩,⟨u,hk l (.inr rfl) u g,q⟩⟩
 there:=λk h x=>by obtain⟨_,e,_⟩:=x.1;exact Aw e
 item:=λA E s k x Q st hx hQ=>by
  obtain⟨⟨o,ho,hc,hd⟩,⟨u,hu,hcu,n,hdu⟩⟩:=st;have ty:s.TypeIs (.ref i) "tuple_iterator":=⟨o,ho,hc⟩;unfold Dk;refine Ab (Ex (name:=Dy "__next__") ty Ia (Ed Ia ty F.entry_tuple_iterator_next ?_ (F.args_tuple_iterator_next_1 _)));show Bc _ _ (field (.ref i) 0>>=λq=>_) _ _ _;refine Ab (Ew ho hd (x:=.ref l) rfl ?_);show Bc _ _ (if (Value.ref l==Value.none)=true then _ else _) _ _ s;rw[if_neg (show ¬(Value.ref l==Value.none)=true from λz=>nomatch z)];show Bc _ _ (field (.ref i) 1>>=λq=>_) _ _ _;refine Ab (Ew ho hd (x:=.int k 0) rfl ?_);show Bc _ _ (seqItems? (.ref l)>>=λq=>_) _ _ _;refine Ab (Ge hu hdu ?_);simp only[Dg,hx];refine Ab (Mh ho hd (by simp) (Aj ⟨x,rfl,Aj (hQ _ ⟨⟨_,Fz _ ho (Obj.isFreed_of_fields (Ki hd _)),(Obj.cls_mapFields ..).trans hc,?_⟩,⟨u,?_,hcu,n,hdu⟩⟩ (Er ..))⟩))
  .rw[Ki hd];simp[Jj]
  .exact(Gu _ _ (Bt hne)).trans hu
 stop:=λA E s k Q hh st hx hE=>by
  obtain⟨⟨o,ho,hc,hd⟩,⟨u,hu,hcu,n,hdu⟩⟩:=st;have ty:s.TypeIs (.ref i) "tuple_iterator":=⟨o,ho,hc⟩;unfold Dk;refine Ab (Ex (name:=Dy "__next__") ty Ia (Ed Ia ty F.entry_tuple_iterator_next ?_ (F.args_tuple_iterator_next_1 _)));show Bc _ _ (field (.ref i) 0>>=λq=>_) _ _ _;refine Ab (Ew ho hd (x:=.ref l) rfl ?_);show Bc _ _ (if (Value.ref l==Value.none)=true then _ else _) _ _ s;rw[if_neg (show ¬(Value.ref l==Value.none)=true from λz=>nomatch z)];show Bc _ _ (field (.ref i) 1>>=λq=>_) _ _ _;refine Ab (Ew ho hd (x:=.int k 0) rfl ?_);show Bc _ _ (seqItems? (.ref l)>>=λq=>_) _ _ _;refine Ab (Ge hu hdu ?_);simp only[Dg,hx];refine Ab (Ie (Ab (Mh ho hd (by simp) (TZ hh λh' e hk he=>hE h' e (λc q hc' g=>hk c q ((Gu _ _ (Bt hc')).trans g)) he))))
structure Apart(z TI TO i1 i2 l1 l2:Addr):Prop where
 nd : [z,TI,TO,i1,i2].Nodup
 a:l1≠z/\l1≠TI/\l1≠TO/\l1≠i1/\l1≠i2
 b:l2≠z/\l2≠TI/\l2≠TO/\l2≠i1/\l2≠i2
variable {z TI TO i1 i2 l1 l2:Addr}{xs ys:Array Ae}{S1 S2:Nat->Heap->Prop}
theorem item{k:Nat}{x y a b:Ae}{Q:Ae->Ag->Prop}(D:Apart z TI TO i1 i2 l1 l2)(W1:lM prog w i1 l1 xs S1)(W2:lM prog w i2 l2 ys S2)(hz:Ml s.heap z TI TO .none)(hI:Gr s.heap TI (.ref i1) (.ref i2))(hO:Gr s.heap TO a b)(h1:S1 k s.heap)(h2:S2 k s.heap)(hx:xs[k]? = some x)(hy:ys[k]? = some y)(hQ:∀h',Ml h' z TI TO (Jj s.heap.objs.size)->Gr h' TO x y->S1 (k+1) h'->S2 (k+1) h'->Gr h' s.heap.objs.size x y->(∀c o,c≠z->c≠TO->c≠i1->c≠i2->s.heap.get? c=some o->h'.get? c=some o)->Q (.ref s.heap.objs.size) {s with heap:=h'}):
  Bc (Bn prog w) A (Lf.«zip.__next__» ⟨[.ref z],[]⟩) (λfin s'=>∃v,fin=.done (.ret v)/\Q v s') E s:=by
 have nd:=D.nd;simp only[Cy,Ar,Kw,or_false,not_or,not_false_eq_true,Ez,and_true]at nd;obtain⟨⟨zI,zO,z1,z2⟩,⟨IO,I1,I2⟩,⟨O1,O2⟩,n12⟩:=nd;obtain⟨az,aI,aO,a1,a2⟩:=D.a;obtain⟨bz,bI,bO,b1,b2⟩:=D.b;show Bc _ _ (field (.ref z) 2>>=λq=>_) _ _ _;refine Ab (Ew hz rfl (x:=.bool false) rfl ?_);show Bc _ _ (field (.ref z) 3>>=λq=>_) _ _ _;refine Ab (Ew hz rfl (x:=.ref TI) rfl (Ab (Ge hI rfl ?_)));show Bc _ _ (Fg (.ref z)>>=λq=>_) _ _ _;refine Ab ?_;unfold Fg;refine Ab (Ew hz rfl (x:=.none) rfl (Aj ?_));simp only[if_true];refine Ab (Ie (Ab (Ew hz rfl (x:=.ref TO) rfl (Ab (Hf hz (by simp) λg1 q1 s1=>Ab ?_)))));simp only[Kv,List.zipIdx_nil,Li,List.forIn_nil];have k1:∀c,c=i1\/c=l1->c≠z/\c≠TO/\c≠i2:=λc hc=>by
  rcases hc with rfl|rfl
  .exact⟨Bt z1,Bt O1,n12⟩
  .exact⟨az,aO,a2⟩
 have k2:∀c,c=i2\/c=l2->c≠z/\c≠TO/\c≠i1:=λc hc=>by
  rcases hc with rfl|rfl
  .exact⟨Bt z2,Bt O2,Bt n12⟩
  .exact⟨bz,bO,b1⟩
 refine Ab (Ab (Mr ?_));show Bc _ _ (Dk (.ref i1)>>=λq=>_) _ _ _;refine Ab (W1.item _ _ {s with heap:=g1} k x _ (W1.keep k _ _ h1 λc hc o e=>s1.extBut c o (k1 c hc).1 e) hx λg2 t2 s2=>Aj ?_);have o2:Gr g2 TO a b:=s2.extBut _ _ O1 (s1.extBut _ _ (Bt zO) hO);refine Ab (Ge o2 rfl (Ab (Mg o2 λg3 o3 s3=>Ab (Mi (Aj ?_)))))
 replace o3:Gr g3 TO x b:=o3
 refine Ab (Ab (Mr ?_));show Bc _ _ (Dk (.ref i2)>>=λq=>_) _ _ _;refine Ab (W2.item _ _ {s with heap:=g3} k y _ (W2.keep k _ _ h2 λc hc o e=>s3.extBut c o (k2 c hc).2.1 (s2.extBut c o (k2 c hc).2.2 (s1.extBut c o (k2 c hc).1 e))) hy λg4 t4 s4=>Aj ?_);have o4:Gr g4 TO x b:=s4.extBut _ _ O2 o3;refine Ab (Ge o4 rfl (Ab (Mg o4 λg5 o5 s5=>Ab (Mi (Aj (Aj ?_))))))
 replace o5:Gr g5 TO x y:=o5
 refine Ab (Ge o5 rfl (Ab (wpAny_newTuple ?_)));have size5:g5.objs.size=s.heap.objs.size:=by rw[s5.1,s4.1,s3.1,s2.1,s1.1]
 have z5:Ml g5 z TI TO .ellipsis:=s5.extBut _ _ zO (s4.extBut _ _ z2 (s3.extBut _ _ zO (s2.extBut _ _ z1 q1)));have lz:z<g5.objs.size:=Aw z5;refine Ab (m:=Builtin.SmallTypes.ownedTupleHandOut _ _) ?_;unfold Builtin.SmallTypes.ownedTupleHandOut;have z6:Ml (g5.push {cls:=.type "tuple",data:=.seq #[x,y]}) z TI TO .ellipsis:=Af _ z5;refine Ab (Hf z6 (by simp) λg7 z7 s7=>Hf z7 (by simp) λg8 z8 s8=>Aj ⟨_,rfl,?_⟩);have up:∀c o,c≠z->g5.get? c=some o->g8.get? c=some o:=λc o hc e=>s8.extBut _ _ hc (s7.extBut _ _ hc (Af _ e));have t8:Gr g8 g5.objs.size x y:=s8.extBut _ _ (Dt lz) (s7.extBut _ _ (Dt lz) (Ay _ rfl));have r1:S1 (k+1) g8:=W1.keep _ _ _ t2 λc hc o e=>up c o (k1 c hc).1 (s5.extBut _ _ (k1 c hc).2.1 (s4.extBut _ _ (k1 c hc).2.2 (s3.extBut _ _ (k1 c hc).2.1 e)));have r2:S2 (k+1) g8:=W2.keep _ _ _ t4 λc hc o e=>up c o (k2 c hc).1 (s5.extBut _ _ (k2 c hc).2.1 e);show Q (.ref g5.objs.size) _
 replace z8:Ml g8 z TI TO (Jj g5.objs.size):=z8
 rw[size5]at z8 t8⊢;exact hQ g8 z8 (up _ _ (Bt zO) o5) r1 r2 t8 λc o c1 c2 c3 c4 e=>up c o c1 (s5.extBut _ _ c2 (s4.extBut _ _ c4 (s3.extBut _ _ c2 (s2.extBut _ _ c3 (s1.extBut _ _ c1 e)))))
theorem stop{k:Nat}{a b:Ae}{Q:Fin->Ag->Prop}(hh:A.handled=none)(D:Apart z TI TO i1 i2 l1 l2)(W1:lM prog w i1 l1 xs S1)(W2:lM prog w i2 l2 ys S2)(hz:Ml s.heap z TI TO .none)(hI:Gr s.heap TI (.ref i1) (.ref i2))(hO:Gr s.heap TO a b)(h1:S1 k s.heap)(h2:S2 k s.heap)(hend:xs[k]? = none\/ys[k]? = none)(hE:∀h' e,(∀c o,c≠z->c≠TO->c≠i1->c≠i2->s.heap.get? c=some o->h'.get? c=some o)->(∃o,h'.get? e=some o/\o.cls=.type "StopIteration")->E (.ref e) {s with heap:=h'}):
  Bc (Bn prog w) A (Lf.«zip.__next__» ⟨[.ref z],[]⟩) Q E s:=by
 have nd:=D.nd;simp only[Cy,Ar,Kw,or_false,not_or,not_false_eq_true,Ez,and_true]at nd;obtain⟨⟨zI,zO,z1,z2⟩,⟨IO,I1,I2⟩,⟨O1,O2⟩,n12⟩:=nd;obtain⟨az,aI,aO,a1,a2⟩:=D.a;obtain⟨bz,bI,bO,b1,b2⟩:=D.b;have k1:∀c,c=i1\/c=l1->c≠z:=λc hc=>by rcases hc with rfl|rfl;exact Bt z1;exact az
 have k2:∀c,c=i2\/c=l2->c≠z/\c≠TO/\c≠i1:=λc hc=>by
  rcases hc with rfl|rfl
  .exact⟨Bt z2,Bt O2,Bt n12⟩
  .exact⟨bz,bO,b1⟩
 show Bc _ _ (field (.ref z) 2>>=λq=>_) _ _ _;refine Ab (Ew hz rfl (x:=.bool false) rfl ?_);show Bc _ _ (field (.ref z) 3>>=λq=>_) _ _ _;refine Ab (Ew hz rfl (x:=.ref TI) rfl (Ab (Ge hI rfl ?_)));show Bc _ _ (Fg (.ref z)>>=λq=>_) _ _ _;refine Ab ?_;unfold Fg;refine Ab (Ew hz rfl (x:=.none) rfl (Aj ?_));simp only[if_true];refine Ab (Ie (Ab (Ew hz rfl (x:=.ref TO) rfl (Ab (Hf hz (by simp) λg1 q1 s1=>Ab ?_)))));simp only[Kv,List.zipIdx_nil,Li,List.forIn_nil];refine Ab (Ab (Mr ?_));show Bc _ _ (Dk (.ref i1)>>=λq=>_) _ _ _;cases hx:xs[k]? with
 | none=>
  refine Ab (W1.stop _ _ {s with heap:=g1} k _ hh (W1.keep k _ _ h1 λc hc o e=>s1.extBut c o (k1 c hc) e) hx λg2 e s2 he=>?_);obtain⟨oe,ge,ce⟩:=he;have q2:Ml g2 z TI TO .ellipsis:=s2 _ _ z1 q1;have ez:e≠z:=λu=>by subst u;rw[q2]at ge;cases ge;simp at ce
  exact Hf q2 (by simp) λg3 _ s3=>hE g3 e (λc o c1 _ c3 _ u=>s3.extBut _ _ c1 (s2 _ _ c3 (s1.extBut _ _ c1 u))) ⟨oe,s3.extBut _ _ ez ge,ce⟩
 | some x=>
  have hy:ys[k]? = none:=by rcases hend with h|h;rw[hx]at h;cases h;exact h
  refine Ab (W1.item _ _ {s with heap:=g1} k x _ (W1.keep k _ _ h1 λc hc o e=>s1.extBut c o (k1 c hc) e) hx λg2 t2 s2=>Aj ?_);have o2:Gr g2 TO a b:=s2.extBut _ _ O1 (s1.extBut _ _ (Bt zO) hO);refine Ab (Ge o2 rfl (Ab (Mg o2 λg3 o3 s3=>Ab (Mi (Aj ?_)))));refine Ab (Ab (Mr ?_));show Bc _ _ (Dk (.ref i2)>>=λq=>_) _ _ _;refine Ab (W2.stop _ _ {s with heap:=g3} k _ hh (W2.keep k _ _ h2 λc hc o e=>s3.extBut c o (k2 c hc).2.1 (s2.extBut c o (k2 c hc).2.2 (s1.extBut c o (k2 c hc).1 e))) hy λg4 e s4 he=>?_);obtain⟨oe,ge,ce⟩:=he;have q4:Ml g4 z TI TO .ellipsis:=s4 _ _ z2 (s3.extBut _ _ zO (s2.extBut _ _ z1 q1));have ez:e≠z:=λu=>by subst u;rw[q4]at ge;cases ge;simp at ce
  exact Hf q4 (by simp) λg5 _ s5=>hE g5 e (λc o c1 c2 c3 c4 u=>s5.extBut _ _ c1 (s4 _ _ c4 (s3.extBut _ _ c2 (s2.extBut _ _ c3 (s1.extBut _ _ c1 u))))) ⟨oe,s5.extBut _ _ ez ge,ce⟩
end
end Zt
end PySem
namespace PySem
namespace Zt
open PyProof.Rows L2 PySem.Spec
section
variable {prog:Bv}{w:Cp}{A:Cq}{E:Ae->Ag->Prop}{s:Ag}{z TI TO i1 i2 l1 l2:Addr}{xs ys:Array Ae}{S1 S2:Nat->Heap->Prop}
theorem next_item{k:Nat}{x y a b:Ae}{Q:Option Ae->Ag->Prop}(D:Apart z TI TO i1 i2 l1 l2)(W1:lM prog w i1 l1 xs S1)(W2:lM prog w i2 l2 ys S2)(hz:Ml s.heap z TI TO .none)(hI:Gr s.heap TI (.ref i1) (.ref i2))(hO:Gr s.heap TO a b)(h1:S1 k s.heap)(h2:S2 k s.heap)(hx:xs[k]? = some x)(hy:ys[k]? = some y)(hQ:∀h',Ml h' z TI TO (Jj s.heap.objs.size)->Gr h' TO x y->S1 (k+1) h'->S2 (k+1) h'->Gr h' s.heap.objs.size x y->(∀c o,c≠z->c≠TO->c≠i1->c≠i2->s.heap.get? c=some o->h'.get? c=some o)->Q (some (.ref s.heap.objs.size)) {s with heap:=h'}):
  Bc (Bn prog w) A (Jk (.ref z)) Q E s:=by
 have ty:s.TypeIs (.ref z) "zip":=⟨_,hz,rfl⟩;unfold Jk;exact Ab (Ms (Ex (name:=Dy "__next__") ty Lr (Ed Lr ty F.entry_zip_next (item D W1 W2 hz hI hO h1 h2 hx hy λh' c1 c2 c3 c4 c5 c6=>Aj (hQ h' c1 c2 c3 c4 c5 c6)) (F.args_zip_next_1 _))))
theorem next_stop{k:Nat}{a b:Ae}{Q:Option Ae->Ag->Prop}(hh:A.handled=none)(D:Apart z TI TO i1 i2 l1 l2)(W1:lM prog w i1 l1 xs S1)(W2:lM prog w i2 l2 ys S2)(hz:Ml s.heap z TI TO .none)(hI:Gr s.heap TI (.ref i1) (.ref i2))(hO:Gr s.heap TO a b)(h1:S1 k s.heap)(h2:S2 k s.heap)(hend:xs[k]? = none\/ys[k]? = none)(hQ:∀h',(∀c o,c≠z->c≠TO->c≠i1->c≠i2->s.heap.get? c=some o->h'.get? c=some o)->Q none {s with heap:=h'}):Bc (Bn prog w) A (Jk (.ref z)) Q E s:=by
 have ty:s.TypeIs (.ref z) "zip":=⟨_,hz,rfl⟩;unfold Jk;refine Ab (Ms (Ex (name:=Dy "__next__") ty Lr (Ed Lr ty F.entry_zip_next (stop hh D W1 W2 hz hI hO h1 h2 hend λh' e hk ⟨o,ho,hc⟩=>?_) (F.args_zip_next_1 _))));exact Ab (Jx (T:="StopIteration") (b:=true) ⟨o,ho,hc⟩ isSubtype_stop (Aj (hQ _ hk)))
end
abbrev zh1(h:Heap)(a:Addr):Heap:=h.push {cls:=.type "tuple_iterator",data:=.fields #[.ref a,.int 0 0]}
abbrev zh2(h:Heap)(a b:Addr):Heap:=(zh1 h a).push {cls:=.type "tuple_iterator",data:=.fields #[.ref b,.int 0 0]}
abbrev zh3(h:Heap)(a b:Addr):Heap:=(zh2 h a b).push {cls:=.type "tuple",data:=.seq #[.ref h.objs.size,.ref (zh1 h a).objs.size]}
abbrev zh4(h:Heap)(a b:Addr):Heap:=(zh3 h a b).push {cls:=.type "tuple",data:=.seq #[.none,.none]}
abbrev zh5(h:Heap)(a b:Addr):Heap:=(zh4 h a b).push {cls:=.type "zip",data:=.fields #[.none,.bool false,.bool false,.ref (zh2 h a b).objs.size,.ref (zh3 h a b).objs.size]}
theorem meets_new(a b:Addr)(xs ys:Array Ae):
  Meets (Lf.«zip.__new__» ⟨[.type "zip",.ref a,.ref b],[]⟩) (λ_ R s=>s.heap.IsTuple a xs/\s.heap.IsTuple b ys/\R (.ok (.ret (.ref (zh4 s.heap a b).objs.size))) {s with heap:=zh5 s.heap a b}):=
 .of_wp λprog w A R s h=>by
  obtain⟨hp,g,d,tk,os⟩:=s;obtain⟨ta,tb,h⟩:=h;have hsub:=sub_zip;have T1:Heap.IsTuple (Shared.heap ⟨hp,g,d,tk,os⟩) a xs:=ta;have T2:Heap.IsTuple (Shared.heap ⟨hp.push {cls:=.type "tuple_iterator",data:=.fields #[.ref a,.int 0 0]},g,d,tk,os⟩) b ys:=by
   obtain⟨o,e,r⟩:=(show hp.IsTuple b ys from tb);exact⟨o,Af _ e,r⟩
  wp_walk using Hg T1,Hg T2
  exact⟨_,rfl,h⟩
end Zt
end PySem
namespace L2
open PySem Spec PyProof.Rows
def sS(K:Ac)(a b:Addr)(xs ys:List V):It:=
 ⟨λi H=>bW K H a xs/\bW K H b ys/\i<xs.length/\i<ys.length,
   λi H x H'=>∃p u v,xs[i]? = some u/\ys[i]? = some v/\H p=none/\x=.ref p/\H'=aX H p (.tup [u,v]),
   λi H=>bW K H a xs/\bW K H b ys/\(xs.length<=i\/ys.length<=i)⟩
theorem T4{P:Bv}{w:Cp}{K:Ac}{es:List Expr}{kx:Nat}{px:Pos}(a b z TI TO i1 i2:Addr)(xs ys:List V)(D:Zt.Apart z TI TO i1 i2 a b):
  kK P w K (.Tuple es kx px) (sS K a b xs ys) [z,TI,TO,i1,i2] z (λi h=>Ml h z TI TO .none/\Gr h TI (.ref i1) (.ref i2)/\(∃c d,Gr h TO c d)/\h.IsTupleIter i1 a i/\h.IsTupleIter i2 b i) where
 mem:=by simp
 obj:=λi h st c hc=>by
  obtain⟨h1,h2,⟨p,q,h3⟩,⟨o4,h4,_,d4⟩,⟨o5,h5,_,d5⟩⟩:=st;simp only[Ar,Dv,or_false]at hc;rcases hc with rfl|rfl|rfl|rfl|rfl
  .exact⟨_,h1,λv g=>nomatch g⟩
  .exact⟨_,h2,λv g=>nomatch g⟩
  .exact⟨_,h3,λv g=>nomatch g⟩
  .exact⟨_,h4,λv g=>by rw[d4]at g;cases g⟩
  .exact⟨_,h5,λv g=>by rw[d5]at g;cases g⟩
 keep:=λi h h' st k=>by
  obtain⟨h1,h2,⟨p,q,h3⟩,⟨o4,h4,r4⟩,⟨o5,h5,r5⟩⟩:=st;exact⟨k z (by simp) _ h1,k TI (by simp) _ h2,⟨p,q,k TO (by simp) _ h3⟩,⟨o4,k i1 (by simp) _ h4,r4⟩,⟨o5,k i2 (by simp) _ h5,r5⟩⟩
 item:=by
  intro X hP hw hK hc i pins s Z H E I hf st hg;subst hP hw hK;obtain⟨h1,h2,⟨c,d,h3⟩,h4,h5⟩:=st;obtain⟨hqa,hqb,hi,hj⟩:=hg;obtain⟨its,rv,pl,hz⟩:=I.tuple hqa;obtain⟨its2,rv2,pl2,hz2⟩:=I.tuple hqb;obtain⟨u,hu,ru⟩:=rv.get (Ak hi);obtain⟨v,hv,rvv⟩:=rv2.get (Ak hj);refine Zt.next_item D (Zt.side_tuple i1 a D.a.2.2.2.1 its.toArray) (Zt.side_tuple i2 b D.b.2.2.2.2 its2.toArray) h1 h2 h3 ⟨h4,pl⟩ ⟨h5,pl2⟩ (x:=u) (y:=v) (by simpa using hu) (by simpa using hv) λh' c1 c2 c3 c4 c5 hk=>?_;refine⟨_,rfl,wpAny_letOwnedTupleGo_zip c1 λh'' z' sb=>?_⟩;have nd:=D.nd;simp only[Cy,Ar,Kw,or_false,not_or,not_false_eq_true,Ez,and_true]at nd;obtain⟨⟨zI,zO,z1,z2⟩,⟨IO,I1',I2'⟩,⟨O1,O2⟩,n12⟩:=nd;have hfr:H s.heap.objs.size=none:=I.hok.fresh (An _);have ltz:z<s.heap.objs.size:=Aw h1;have keep2:∀q o,q∉[z,TI,TO,i1,i2]->s.heap.get? q=some o->h''.get? q=some o:=λq o hq e=>by
   simp only[Ar,Dv,or_false,not_or]at hq;exact(sb.2 q hq.1).trans (hk q o hq.1 hq.2.2.1 hq.2.2.2.1 hq.2.2.2.2 e)
  have hp2:h''.get? s.heap.objs.size=some {cls:=.type "tuple",data:=.seq [u,v].toArray}:=(sb.2 _ (Dt ltz)).trans c5;have I1:Inv X pins Z (aX H s.heap.objs.size (.tup [xs[i],ys[i]])) {s with heap:=h'',toks:=s.toks}:=I.laidT (its:=[u,v]) hf keep2 (by show 2<=Am;decide) (.cons ru (.cons rvv .nil)) hp2;have low:∀q∈[z,TI,TO,i1,i2],q<s.heap.objs.size:=λq hq=>by
   simp only[Ar,Dv,or_false]at hq;rcases hq with rfl|rfl|rfl|rfl|rfl
   .exact ltz
   .exact Aw h2
   .exact Aw h3
   .obtain⟨_,e,_⟩:=h4;exact Aw e
   .obtain⟨_,e,_⟩:=h5;exact Aw e
  refine⟨.ref s.heap.objs.size,_,I1,rfl,⟨s.heap.objs.size,xs[i],ys[i],Ak hi,Ak hj,hfr,rfl,rfl⟩,⟨z',(sb.2 _ (Bt zI)).trans (hk _ _ (Bt zI) IO I1' I2' h2),⟨u,v,(sb.2 _ (Bt zO)).trans c2⟩,?_,?_⟩,λq hq=>?_⟩
  .obtain⟨o,e,r⟩:=c3.1;exact⟨o,(sb.2 _ (Bt z1)).trans e,r⟩
  .obtain⟨o,e,r⟩:=c4.1;exact⟨o,(sb.2 _ (Bt z2)).trans e,r⟩
  .rw[bH (Bl (low q hq))];exact(hf q hq).1
 done:=by
  intro X hP hw hK hc i pins s Z H E I hf st hg;subst hP hw hK;obtain⟨h1,h2,⟨c,d,h3⟩,h4,h5⟩:=st;obtain⟨hqa,hqb,hij⟩:=hg;obtain⟨its,rv,pl,hz⟩:=I.tuple hqa;obtain⟨its2,rv2,pl2,hz2⟩:=I.tuple hqb;have l1:=rv.length;have l2:=rv2.length;refine Zt.next_stop (I.ok.hd hc) D (Zt.side_tuple i1 a D.a.2.2.2.1 its.toArray) (Zt.side_tuple i2 b D.b.2.2.2.2 its2.toArray) h1 h2 h3 ⟨h4,pl⟩ ⟨h5,pl2⟩ (hij.elim (λq=>.inl (by simp;lia)) λq=>.inr (by simp;lia)) λh' hk=>⟨rfl,?_⟩
  exact I.turnedT (tk:=s.toks) hf λq o hq e=>hk q o (λy=>hq (by simp[y])) (λy=>hq (by simp[y])) (λy=>hq (by simp[y])) (λy=>hq (by simp[y])) e
 self:=λ_ _ _ _ _ st h=>Lj st.1 h
theorem T5(n:Nat): [n+4,n+2,n+3,n,n+1].Nodup:=by
 simp only[Cy,Ar,Kw,or_false,not_or,not_false_eq_true,Ez,and_true];lia
theorem sU{n q:Nat}(h:q∈[n+4,n+2,n+3,n,n+1]):n<=q:=by
 simp only[Ar,Dv,or_false]at h;lia
section
variable {X:Cx}
theorem T6{pins:List (Addr×Obj)}{s1:Ag}{Z:St}{H1:Hp}{R:It->Hp->Prop}{a b:Addr}{xs ys:List V}{es:List Expr}{kx:Nat}{px:Pos}(I1:Inv X pins Z H1 s1)(hqa:bW X.K H1 a xs)(hqb:bW X.K H1 b ys)(q:R (sS X.K a b xs ys) H1):
  Bc (Bn X.prog X.w) X.A (call (.type "zip") [.ref a,.ref b]) (λv s1=>Bc (Bn X.prog X.w) X.A (pyIter v) (pN X pins Z (.Tuple es kx px) R) X.xe s1) X.xe s1:=by
 obtain⟨its,rv1,pl,hz⟩:=I1.tuple hqa;obtain⟨its2,rv2,pl2,hz2⟩:=I1.tuple hqb;have la:a<s1.heap.objs.size:=by obtain⟨_,e,_⟩:=(show s1.heap.IsTuple a its.toArray from pl);exact Aw e
 have lb:b<s1.heap.objs.size:=by obtain⟨_,e,_⟩:=(show s1.heap.IsTuple b its2.toArray from pl2);exact Aw e
 have y1:(Zt.zh1 s1.heap a).objs.size=s1.heap.objs.size+1:=Dq ..;have y2:(Zt.zh2 s1.heap a b).objs.size=s1.heap.objs.size+2:=by rw[Dq,y1]
 have y3:(Zt.zh3 s1.heap a b).objs.size=s1.heap.objs.size+3:=by rw[Dq,y2]
 have y4:(Zt.zh4 s1.heap a b).objs.size=s1.heap.objs.size+4:=by rw[Dq,y3]
 have kall:∀c o,s1.heap.get? c=some o->(Zt.zh5 s1.heap a b).get? c=some o:=λc o e=>Af _ (Af _ (Af _ (Af _ (Af _ e))));have e5:(Zt.zh5 s1.heap a b).get? (Zt.zh4 s1.heap a b).objs.size=some _:=Ay _ rfl;have e4:(Zt.zh5 s1.heap a b).get? (Zt.zh3 s1.heap a b).objs.size=some _:=Af _ (Ay _ rfl);have e3:(Zt.zh5 s1.heap a b).get? (Zt.zh2 s1.heap a b).objs.size=some _:=Af _ (Af _ (Ay _ rfl));have e2:(Zt.zh5 s1.heap a b).get? (Zt.zh1 s1.heap a).objs.size=some _:=Af _ (Af _ (Af _ (Ay _ rfl)));have e1:(Zt.zh5 s1.heap a b).get? s1.heap.objs.size=some _:=Af _ (Af _ (Af _ (Af _ (Ay _ rfl))));refine callType_new F.called_zip (by decide) (F.typeCall_zip_2 _ _) (F.newCall_zip_2 _ _) (λobj=>F.args_object_init_3 obj _ _) F.entry_zip_new (Zt.meets_new a b its.toArray its2.toArray) ⟨pl,pl2,⟨_,e5,rfl⟩,?_⟩;refine Lj e5 ?_;rw[y2,y3,y4]at e5;rw[y1,y2]at e3;rw[y3]at e4;rw[y1]at e2;rw[y4];refine⟨s1.heap.objs.size+4,[s1.heap.objs.size+4,s1.heap.objs.size+2,s1.heap.objs.size+3,s1.heap.objs.size,s1.heap.objs.size+1],_,_,H1,rfl,I1.kept (t':=s1.toks) kall,
  T4 a b (s1.heap.objs.size+4) (s1.heap.objs.size+2) (s1.heap.objs.size+3) s1.heap.objs.size (s1.heap.objs.size+1) xs ys ⟨T5 _,⟨iN 4 la,iN 2 la,iN 3 la,sQ la,iN 1 la⟩,⟨iN 4 lb,iN 2 lb,iN 3 lb,sQ lb,iN 1 lb⟩⟩,⟨e5,e3,⟨_,_,e4⟩,⟨_,e1,rfl,rfl⟩,⟨_,e2,rfl,rfl⟩⟩,λq hq=>I1.fpOk (sU hq) (I1.hok.fresh (sU hq)),q⟩
theorem T7{pins:List (Addr×Obj)}{s1:Ag}{Z:St}{H1:Hp}{R:It->Hp->Prop}{a b:Addr}{xs ys:List V}{es:List Expr}{kx:Nat}{px:Pos}(I1:Inv X pins Z H1 s1)(hqa:bN X.K H1 a xs)(hqb:bN X.K H1 b ys)(q:R (sR X.K a b xs ys) H1):
  Bc (Bn X.prog X.w) X.A (call (.type "zip") [.ref a,.ref b]) (λv s1=>Bc (Bn X.prog X.w) X.A (pyIter v) (pN X pins Z (.Tuple es kx px) R) X.xe s1) X.xe s1:=by
 obtain⟨its,rv1,pl,hz⟩:=I1.list hqa;obtain⟨its2,rv2,pl2,hz2⟩:=I1.list hqb;have la:a<s1.heap.objs.size:=by obtain⟨_,e,_⟩:=pl.isList;exact Aw e
 have lb:b<s1.heap.objs.size:=by obtain⟨_,e,_⟩:=pl2.isList;exact Aw e
 refine call_zip_2 pl.isList pl2.isList λh' g1 g2 g3 g4 g5 g6 k=>Lj g1 ?_;refine⟨s1.heap.objs.size+4,[s1.heap.objs.size+4,s1.heap.objs.size+2,s1.heap.objs.size+3,s1.heap.objs.size,s1.heap.objs.size+1],_,_,H1,rfl,I1.kept (t':=s1.toks) k,
  TN a b _ _ _ _ _ xs ys ⟨oF 2 4 (by decide),oF 3 4 (by decide),FA 4 (by decide),oF 1 4 (by decide),oF 2 3 (by decide),wU 2 (by decide),oF 2 1 (by decide),wU 3 (by decide),oF 3 1 (by decide),FA 1 (by decide),iN 4 la,iN 3 la,sQ la,iN 1 la,iN 4 lb,iN 3 lb,sQ lb,iN 1 lb⟩,⟨g1,g2,⟨_,_,g3⟩,g4,g5⟩,λq hq=>I1.fpOk (sU hq) (I1.hok.fresh (sU hq)),q⟩
def T8(K:Ac)(ta:TA):TI:=λZ H R=>ta Z H λvs H1=>∃a b xs ys,vs=[.ref a,.ref b]/\((bW K H1 a xs/\bW K H1 b ys/\R (sS K a b xs ys) H1)\/(bN K H1 a xs/\bN K H1 b ys/\R (sR K a b xs ys) H1))
theorem T9{a b:Expr}{ta:TA}{p pos:Pos}{es:List Expr}{kx:Nat}{px:Pos}(hg:Gl X "zip")(hm:X.mg "zip" = none)(ha:PA X [a,b] ta)(hs:Be [a,b] X.env=[(false,eval a X.env),(false,eval b X.env)]:=by rfl)(hs2:Be [b] X.env=[(false,eval b X.env)]:=by rfl):
  PI X (.Tuple es kx px) (.Call (.Name "zip" p) [a,b] [] pos) (T8 X.K ta):=by
 intro pins s Z H R I h;refine Call_ (kJ I hg hm TQ (Cw (bA (ha pos pins s Z H _ I h) λus s1 ⟨vs,H1,I1,r1,q1⟩=>?_) (by rw[hs,hs2]) (by rw[hs2];rfl)));obtain⟨a,b,xs,ys,rfl,q1⟩:=q1;obtain⟨u,v,rfl,ru,rv⟩:=vals2 r1;cases ru;cases rv;rcases q1 with⟨h1,h2,q⟩|⟨h1,h2,q⟩
 .exact T6 I1 h1 h2 q
 .exact T7 I1 h1 h2 q
end
section
variable {X:Cx}
theorem FD:∀{vs:List Ae} {ks:List Str},vs.length=ks.length->(∀(j:Nat) v,vs[j]? = some v->∃x t,ks[j]? = some x/\v=.str x t)->StrsAre vs ks
 | [],[],_,_=>.nil
 | [],_::_,e,_=>by simp at e
 | _::_,[],e,_=>by simp at e
 | v::vs,k::ks,e,h=>by
  obtain⟨x,t,h1,rfl⟩:=h 0 v rfl;cases (show k=x by simpa using h1);exact .cons k t (FD (by simpa using e) λj v hv=>by simpa using h (j+1) v (by simpa using hv))
theorem FE:∀{vs:List Ae} {ss:List Str},StrsAre vs ss->a8 (ss.map V.str) vs
 | _,_,.nil=>.nil
 | _,_,.cons y t r=>.cons ⟨t,rfl⟩ (FE r)
theorem UA(hc:X.calm=true):dR X (.builtin "sorted") (λxs H Q=>∃(d:Addr) (kvs:List (aK×V)) (ks:List Str),xs=[.ref d]/\H d=some (.dK kvs)/\kvs.map Dz=ks.map Sum.inr/\ks.length<64/\
  ∀ss:List Str,ss.Perm ks->∀p,H p=none->Q (.ref p) (aX H p (.lst (ss.map V.str)))):=by
 intro pins s Z H xs us Q I r h;obtain⟨d,kvs,ks,rfl,hd,hks,h64,q⟩:=h;obtain⟨u,rfl,ru⟩:=vals1 r;cases ru;obtain⟨hz,hne,vs,rkv,hD⟩:=(show cX X.prog X.w H s.heap d (.dK kvs) from I.hok d _ hd);obtain⟨ep,hat⟩:=hD.dictAt;have hl:=rkv.length;have hkl:kvs.length=ks.length:=by have:=congrArg Dc hks;simpa using this
 refine Calls.call_function_entry kind_sorted plain_sorted entry_sorted (args_sorted1 _) ?_;unfold Lf.«sorted»;refine Ab (m:=checkCount "sorted" 1 1 _) (Aj (Ab (PySem.W.kdu_collect (A:=X.A.in1) (PySem.W.kdl_dict (knd:=d6 X.prog X.w) (kvs:=vs) (ep:=ep) hne) (I.ok.hd hc) hat (by rw[<-hl];exact hz) λh' tk acc hk hacc=>?_)));have hsz:acc.toList.length=ks.length:=by have h1:=hacc.1;have h2:acc.toList.length=acc.size:=Fo;lia
 have hS:StrsAre acc.toList ks:=FD hsz λj v hv=>by
  obtain⟨k,x,hx,hk'⟩:=hacc.2 j v (by rw[<-Fy];exact hv);obtain⟨y,hy⟩:=wQ rkv hx;have e1:(kvs.map Dz)[j]? = some k:=by rw[Ap,hy];rfl
  rw[hks,Ap]at e1;obtain⟨z,hz',rfl⟩:=Bh.mp e1;obtain⟨t,e⟩:=(show RelV (kV (Sum.inr z)) v from wR hk');exact⟨z,t,hz',e⟩
 have I1:Inv X pins Z H {s with heap:=h',toks:=tk}:=I.kept (t':=tk) hk;refine Ab (wpAny_newList ?_ (by rw[hsz];lia));have ho:(h'.push (seqObj "list" acc.toList.toArray 0)).get? h'.objs.size=some (seqObj "list" acc.toList.toArray 0):=Ay _ rfl;refine Ab (Ds (Ed slot_list_sort ⟨_,ho,rfl⟩ entry_list_sort (list_sort_treeK strKind_oneLt ho hS.keysOf (λv1 v2 rest e=>keyKind_strs (by rw[<-e];exact hS)) (by rw[hsz];exact h64) λst' a1 a2=>⟨_,rfl,?_⟩) (args_list_sort _)));obtain⟨ss,h1,h2,h3⟩:=sorted_out_str hS a1 a2;obtain⟨e,he⟩:=sortedHeap_at (out:=(arrOf st').map (·.2)) ho;have hlen:ss.length=ks.length:=h2.length_eq;refine Aj ⟨_,rfl,.ref h'.objs.size,_,I1.laid (o:=.lst (ss.map V.str)) (t':=tk) (λb o eb=>?_) (An _) ⟨by rw[Aa];exact Au (Gi (by lia:ss.length<64)) (by decide),((arrOf st').map (·.2)).toList,e,FE h1,by rw[Jr];exact he⟩,rfl,q ss h2 _ I1.fresh⟩;have hlt:b<h'.objs.size:=Aw eb;exact(sortedHeap_old (Bl hlt) (by rw[Dq];exact Nat.lt_succ_of_lt hlt)).trans (Af _ eb)
end
end L2
namespace L3
open PySem Spec PyProof.Rows L2
abbrev SV:=L2.St
inductive W where
 | non|bl (b:Bool)|int (i:Int)|str (x:Str)|ty (n:String)|tup (ws:List W)|rl (ws:List W)|sc (ws:List W)|ref (a:Addr)
 | dk (kvs:List (aK×W))|dt (kvs:List (List aK×W))|fk (kvs:List (aK×W))|ft (kvs:List (List aK×W))
structure nJ where
 qual:Str
 y:Str
 params:Arguments
 body:Expr
 sc:Hc
inductive MO where
 | lst (ws:List W)|dK (kvs:List (aK×W))|dT (kvs:List (List aK×W))|fix (vs:List V)|ins (C dx:Addr) (fs:List (Str×W))|tb (pos:Pos) (qual:Str)|cl (L:nJ) (cy:Addr) (v:V) (b:W)
abbrev Mm:=Addr->Option MO
def mL(pos:Pos):Option Addr->Array Ae
 | none=>#[]
 | some c=>#[Jj pos.line,Jj pos.col,.ref c]
def put(M:Mm)(a:Addr)(o:MO):Mm:=λb=>if b=a then some o else M b
def del(M:Mm)(a:Addr):Mm:=λb=>if b=a then none else M b
theorem aY{M:Mm}{a:Addr}{o:MO}:put M a o a=some o:=by unfold put;rw[if_pos rfl]
theorem aW{M:Mm}{a b:Addr}{o:MO}(h:b≠a):put M a o b=M b:=by unfold put;rw[if_neg h]
theorem eW{M:Mm}{a:Addr}{o u:MO}:put (put M a o) a u=put M a u:=by
 funext b;unfold put;split<;>rfl
theorem mM{M:Mm}{a:Addr}{o:MO}(h:M a=none):del (put M a o) a=M:=by
 funext b;unfold del put;split
 .rename_i e;rw[e,h]
 .rfl
theorem nK{M:Mm}{a:Addr}:del M a a=none:=by unfold del;rw[if_pos rfl]
theorem oG{M:Mm}{a b:Addr}(h:b≠a):del M a b=M b:=by unfold del;rw[if_neg h]
theorem UB{M:Mm}{a b:Addr}{o u:MO}(h:a≠b):put (put M a o) b u=put (put M b u) a o:=by
 funext c;unfold put
 by_cases h1:c=b
 .by_cases h2:c=a
  .exact absurd (h2.symm.trans h1) h
  .rw[if_pos h1,if_neg h2,if_pos h1]
 .by_cases h2:c=a
  .rw[if_neg h1,if_pos h2,if_pos h2]
  .rw[if_neg h1,if_neg h2,if_neg h2,if_neg h1]
theorem UC{M:Mm}{a:Addr}{o:MO}(h:M a=some o):put M a o=M:=by
 funext b;unfold put;split
 .rename_i e;rw[e,h]
 .rfl
def Sub(M M':Mm):Prop:=∀a o,M a=some o->M' a=some o
theorem Sub.refl(M:Mm):Sub M M:=λ_ _ h=>h
theorem Sub.trans{M M1 M2:Mm}(a:Sub M M1)(b:Sub M1 M2):Sub M M2:=λc o h=>b c o (a c o h)
theorem Sub.new{M:Mm}{a:Addr}{o:MO}(h:M a=none):Sub M (put M a o):=λb u e=>by
 rw[aW (λz=>by rw[z,h]at e;cases e)];exact e
theorem Sub.put{M M':Mm}{a:Addr}{o:MO}(h:Sub M M'):Sub (put M a o) (put M' a o):=λb u e=>by
 unfold L3.put at e⊢;split at e
 .rename_i z;rw[if_pos z];exact e
 .rename_i z;rw[if_neg z];exact h b u e
theorem Sub.del{M:Mm}{a:Addr}:Sub (del M a) M:=λb u e=>by
 unfold L3.del at e;split at e
 .cases e
 .exact e
theorem Sub.non{M M':Mm}(h:Sub M M'){a:Addr}(e:M' a=none):M a=none:=by
 cases q:M a with
 | none=>rfl
 | some o=>rw[h a o q]at e;cases e
def mN(K:Ac)(H:Hp)(a:Addr)(xs:List V):Prop:=
 (∃o,H a=some (.frz o (.lst xs)))\/
  ∃(o:Obj) (its:Array Ae) (n:Nat),K.lookup a=some o/\o.cls=.type "list"/\o.dict=none/\o.data=.seq its n/\its.size<=Am/\a8 xs its.toList
theorem mN.sq{K:Ac}{H:Hp}{a:Addr}{xs:List V}(h:mN K H a xs):bN K H a xs:=by
 rcases h with⟨o,h⟩|h
 .exact .inl (.inr ⟨o,h⟩)
 .exact .inr h
mutual
inductive AV(K:Ac)(H:Hp)(M:Mm):V->W->Prop
 | non:AV K H M .non .non
 | bl (b:Bool):AV K H M (.bl b) (.bl b)
 | int (i:Int):AV K H M (.int i) (.int i)
 | str (x:Str):AV K H M (.str x) (.str x)
 | ty (n:String):AV K H M (.ty n) (.ty n)
 | tup {a:Addr} {xs:List V} {ws:List W}:H a=some (.tup xs)->aM K H M xs ws->AV K H M (.ref a) (.tup ws)
 | sc {a:Addr} {xs:List V} {ws:List W}:mN K H a xs->aM K H M xs ws->AV K H M (.ref a) (.sc ws)
 | rl {a:Addr} {xs:List V} {ws:List W}:H a=some (.lst xs)->M a=none->aM K H M xs ws->AV K H M (.ref a) (.rl ws)
 | ref (a:Addr):AV K H M (.ref a) (.ref a)
 | dk {a:Addr} {ks:List (aK×V)} {kvs:List (aK×W)}:H a=some (.dK ks)->M a=none->ks.map Dz=kvs.map Dz->aM K H M (ks.map Ik) (kvs.map Ik)->AV K H M (.ref a) (.dk kvs)
 | dt {a:Addr} {ks:List (List aK×V)} {kvs:List (List aK×W)}:H a=some (.dT ks)->M a=none->ks.map Dz=kvs.map Dz->aM K H M (ks.map Ik) (kvs.map Ik)->AV K H M (.ref a) (.dt kvs)
 | fk {a:Addr} {o:Obj} {ks:List (aK×V)} {kvs:List (aK×W)}:H a=some (.frz o (.dK ks))->ks.map Dz=kvs.map Dz->aM K H M (ks.map Ik) (kvs.map Ik)->AV K H M (.ref a) (.fk kvs)
 | ft {a:Addr} {o:Obj} {ks:List (List aK×V)} {kvs:List (List aK×W)}:H a=some (.frz o (.dT ks))->ks.map Dz=kvs.map Dz->aM K H M (ks.map Ik) (kvs.map Ik)->AV K H M (.ref a) (.ft kvs)
inductive aM(K:Ac)(H:Hp)(M:Mm):List V->List W->Prop
 | nil:aM K H M [] []
 | cons {v:V} {vs:List V} {w:W} {ws:List W}:AV K H M v w->aM K H M vs ws->aM K H M (v::vs) (w::ws)
end
abbrev cD(K:Ac)(H:Hp)(M:Mm)(U:Type):List (U×V)->List (U×W)->Prop:=Gj λp q=>p.1=q.1/\AV K H M p.2 q.2
theorem sW{K:Ac}{H:Hp}{M:Mm}{U:Type}:∀{ks:List (U×V)} {kvs:List (U×W)},ks.map Dz=kvs.map Dz->aM K H M (ks.map Ik) (kvs.map Ik)->cD K H M U ks kvs
 | [],[],_,_=>.nil
 | [],_::_,e,_=>by simp at e
 | _::_,[],e,_=>by simp at e
 | p::ps,q::qs,e,h=>by
  rw[Bd,Bd]at e h;rw[Eu]at e;cases h with
  | cons x r=>exact .cons ⟨e.1,x⟩ (sW e.2 r)
theorem cD.keys{K:Ac}{H:Hp}{M:Mm}{U:Type}{ks:List (U×V)}{kvs:List (U×W)}(h:cD K H M U ks kvs):ks.map Dz=kvs.map Dz:=by
 induction h with
 | nil=>rfl
 | cons r _ ih=>rw[Bd,Bd,ih,r.1]
theorem cD.vals{K:Ac}{H:Hp}{M:Mm}{U:Type}{ks:List (U×V)}{kvs:List (U×W)}(h:cD K H M U ks kvs):aM K H M (ks.map Ik) (kvs.map Ik):=by
 induction h with
 | nil=>exact .nil
 | cons r _ ih=>exact .cons r.2 ih
def AO(K:Ac)(H:Hp)(M:Mm)(a:Addr):MO->Prop
 | .lst ws=>∃vs,H a=some (.lst vs)/\aM K H M vs ws
 | .dK kvs=>∃ks,H a=some (.dK ks)/\cD K H M aK ks kvs
 | .dT kvs=>∃ks,H a=some (.dT ks)/\cD K H M (List aK) ks kvs
 | .fix vs=>H a=some (.lst vs)
 | .ins C dx fs=>∃gs,H a=some (.ins C dx gs)/\cD K H M Str gs fs
 | .tb pos qual=>∃o,H a=some (.ext λh=>h.get? a=some (Fh (mL pos o)))/\∀c,o=some c->H c=some (.ext λh=>h.CodeRec (.ref c) qual)/\M c=none
 | .cl L cy v b=>∃c pm ct,H a=some (.ext λh=>h.get? a=some (Ib "<lambda>" L.qual L.params L.body L.sc [(L.y,cy)] pm c ct))/\(H c=some (.ext λh=>h.CodeRec (.ref c) L.qual)/\M c=none)/\AV K H M v b
def AM(K:Ac)(H:Hp)(M:Mm):Prop:=∀a o,M a=some o->AO K H M a o
structure Kp(H:Hp)(M:Mm)(H':Hp)(M':Mm):Prop where
 fr:∀a o,M a=none->H a=some o->H' a=some o/\M' a=none
 dom:∀a o,M a=some o->∃u,H' a=some u
structure Go(H:Hp)(M:Mm)(H':Hp)(M':Mm):Prop where
 ht:∀b xs,H b=some (.tup xs)->H' b=some (.tup xs)
 hf:∀b o u,H b=some (.frz o u)->H' b=some (.frz o u)
 hl:∀b o,M b=none->H b=some o->H' b=some o/\M' b=none
section
variable {K:Ac}{H H' H1 H2:Hp}{M M' M1 M2:Mm}{a:Addr}
theorem AO.has{o:MO}(h:AO K H M a o):∃u,H a=some u:=by
 cases o with
 | lst ws=>obtain⟨vs,e,_⟩:=h;exact⟨_,e⟩
 | dK kvs=>obtain⟨ks,e,_⟩:=h;exact⟨_,e⟩
 | dT kvs=>obtain⟨ks,e,_⟩:=h;exact⟨_,e⟩
 | fix vs=>exact⟨_,h⟩
 | ins C dx fs=>obtain⟨gs,e,_⟩:=h;exact⟨_,e⟩
 | tb pos qual=>obtain⟨_,e,_⟩:=h;exact⟨_,e⟩
 | cl L cy v b=>obtain⟨_,_,_,e,_⟩:=h;exact⟨_,e⟩
theorem AM.nonM(am:AM K H M)(h:H a=none):M a=none:=by
 cases q:M a with
 | none=>rfl
 | some o=>obtain⟨u,e⟩:=(am a o q).has;rw[h]at e;cases e
theorem AM.noTup(am:AM K H M){xs:List V}(h:H a=some (.tup xs)):M a=none:=by
 cases q:M a with
 | none=>rfl
 | some o=>
  have:=am a o q;cases o with
  | lst ws=>obtain⟨vs,e,_⟩:=this;rw[h]at e;cases e
  | dK kvs=>obtain⟨ks,e,_⟩:=this;rw[h]at e;cases e
  | dT kvs=>obtain⟨ks,e,_⟩:=this;rw[h]at e;cases e
  | fix vs=>have e:H a=some (.lst vs):=this;rw[h]at e;cases e
  | ins C dx fs=>obtain⟨gs,e,_⟩:=this;rw[h]at e;cases e
  | tb pos qual=>obtain⟨_,e,_⟩:=this;rw[h]at e;cases e
  | cl L cy v b=>obtain⟨_,_,_,e,_⟩:=this;rw[h]at e;cases e
theorem AM.noFrz(am:AM K H M){ob:Obj}{u:HO}(h:H a=some (.frz ob u)):M a=none:=by
 cases q:M a with
 | none=>rfl
 | some o=>
  have:=am a o q;cases o with
  | lst ws=>obtain⟨vs,e,_⟩:=this;rw[h]at e;cases e
  | dK kvs=>obtain⟨ks,e,_⟩:=this;rw[h]at e;cases e
  | dT kvs=>obtain⟨ks,e,_⟩:=this;rw[h]at e;cases e
  | fix vs=>have e:H a=some (.lst vs):=this;rw[h]at e;cases e
  | ins C dx fs=>obtain⟨gs,e,_⟩:=this;rw[h]at e;cases e
  | tb pos qual=>obtain⟨_,e,_⟩:=this;rw[h]at e;cases e
  | cl L cy v b=>obtain⟨_,_,_,e,_⟩:=this;rw[h]at e;cases e
theorem Kp.refl(am:AM K H M):Kp H M H M:=⟨λa o h e=>⟨e,h⟩,λa o h=>(am a o h).has⟩
theorem Kp.trans(x:Kp H M H1 M1)(y:Kp H1 M1 H2 M2):Kp H M H2 M2 where
 fr:=λa o h e=>by
  obtain⟨e1,n1⟩:=x.fr a o h e;exact y.fr a o n1 e1
 dom:=λa o h=>by
  obtain⟨u,e⟩:=x.dom a o h;cases q:M1 a with
  | none=>exact⟨u,(y.fr a u q e).1⟩
  | some o1=>exact y.dom a o1 q
theorem Kp.sub(x:Kp H M H1 M1)(h:Sub M2 M1):Kp H M H1 M2 where
 fr:=λa o n e=>⟨(x.fr a o n e).1,h.non (x.fr a o n e).2⟩
 dom:=x.dom
theorem Kp.go(am:AM K H M)(k:Kp H M H' M'):Go H M H' M':=⟨λb xs e=>(k.fr b _ (am.noTup e) e).1,λb o u e=>(k.fr b _ (am.noFrz e) e).1,k.fr⟩
theorem Go.sub(h:Sub M' M):Go H M H M':=⟨λ_ _ e=>e,λ_ _ _ e=>e,λb o n e=>⟨e,h.non n⟩⟩
theorem AV.go(g:Go H M H' M'){v:V}{w:W}(h:AV K H M v w):AV K H' M' v w:=AV.rec (motive_1:=λv w _=>AV K H' M' v w) (motive_2:=λvs ws _=>aM K H' M' vs ws) .non .bl .int .str .ty (λe _ q=>.tup (g.ht _ _ e) q) (λe _ q=>.sc (e.elim (λz=>.inl (z.elim λo q=>⟨o,g.hf _ _ _ q⟩)) .inr) q) (λe n _ q=>.rl (g.hl _ _ n e).1 (g.hl _ _ n e).2 q) .ref
  (λe n ke _ q=>.dk (g.hl _ _ n e).1 (g.hl _ _ n e).2 ke q) (λe n ke _ q=>.dt (g.hl _ _ n e).1 (g.hl _ _ n e).2 ke q) (λe ke _ q=>.fk (g.hf _ _ _ e) ke q) (λe ke _ q=>.ft (g.hf _ _ _ e) ke q) .nil (λ_ _ x r=>.cons x r) h
theorem aM.go(g:Go H M H' M'){vs:List V}{ws:List W}(h:aM K H M vs ws):aM K H' M' vs ws:=aM.rec (motive_1:=λv w _=>AV K H' M' v w) (motive_2:=λvs ws _=>aM K H' M' vs ws) .non .bl .int .str .ty (λe _ q=>.tup (g.ht _ _ e) q) (λe _ q=>.sc (e.elim (λz=>.inl (z.elim λo q=>⟨o,g.hf _ _ _ q⟩)) .inr) q) (λe n _ q=>.rl (g.hl _ _ n e).1 (g.hl _ _ n e).2 q) .ref
  (λe n ke _ q=>.dk (g.hl _ _ n e).1 (g.hl _ _ n e).2 ke q) (λe n ke _ q=>.dt (g.hl _ _ n e).1 (g.hl _ _ n e).2 ke q) (λe ke _ q=>.fk (g.hf _ _ _ e) ke q) (λe ke _ q=>.ft (g.hf _ _ _ e) ke q) .nil (λ_ _ x r=>.cons x r) h
theorem cD.go{U:Type}{ks:List (U×V)}{kvs:List (U×W)}(g:Go H M H' M')(h:cD K H M U ks kvs):cD K H' M' U ks kvs:=Paired.mapP h λp q z=>⟨z.1,z.2.go g⟩
theorem AO.go{o:MO}(g:Go H M H' M')(e:H' a=H a)(h:AO K H M a o):AO K H' M' a o:=by
 cases o with
 | lst ws=>obtain⟨vs,e1,r⟩:=h;exact⟨vs,by rw[e];exact e1,r.go g⟩
 | dK kvs=>obtain⟨vs,e1,r⟩:=h;exact⟨vs,by rw[e];exact e1,r.go g⟩
 | dT kvs=>obtain⟨vs,e1,r⟩:=h;exact⟨vs,by rw[e];exact e1,r.go g⟩
 | fix vs=>exact e.trans h
 | ins C dx fs=>obtain⟨gs,e1,r⟩:=h;exact⟨gs,by rw[e];exact e1,r.go g⟩
 | tb pos qual=>obtain⟨o,e1,z⟩:=h;exact⟨o,by rw[e];exact e1,λc hc=>g.hl _ _ (z c hc).2 (z c hc).1⟩
 | cl L cy v b=>obtain⟨c,pm,ct,e1,z,q⟩:=h;exact⟨c,pm,ct,by rw[e];exact e1,g.hl _ _ z.2 z.1,q.go g⟩
theorem AM.sub(am:AM K H M')(h:Sub M M'):AM K H M:=λa o e=>(am a o (h a o e)).go (Go.sub h) rfl
theorem AV.sub(h:Sub M' M){v:V}{w:W}(x:AV K H M v w):AV K H M' v w:=x.go (Go.sub h)
theorem aM.sub(h:Sub M' M){v:List V}{w:List W}(x:aM K H M v w):aM K H M' v w:=x.go (Go.sub h)
theorem AV.kp(am:AM K H M)(k:Kp H M H' M'){v:V}{w:W}(h:AV K H M v w):AV K H' M' v w:=h.go (k.go am)
theorem aM.kp(am:AM K H M)(k:Kp H M H' M'){vs:List V}{ws:List W}(h:aM K H M vs ws):aM K H' M' vs ws:=h.go (k.go am)
theorem aM.length:∀{vs:List V} {ws:List W},aM K H M vs ws->vs.length=ws.length
 | _,_,.nil=>rfl
 | _,_,.cons _ r=>by simp[aM.length r]
theorem aM.append:∀{vs us:List V} {ws zs:List W},aM K H M vs ws->aM K H M us zs->aM K H M (vs++us) (ws++zs)
 | _,_,_,_,.nil,s=>s
 | _,_,_,_,.cons x r,s=>.cons x (aM.append r s)
theorem aM.getW:∀{vs:List V} {ws:List W} {i:Nat} {w:W},aM K H M vs ws->ws[i]? = some w->∃v,vs[i]? = some v/\AV K H M v w
 | _,_,_,_,.nil,e=>by simp at e
 | _,_,0,_,.cons x _,e=>by simp at e;subst e;exact⟨_,rfl,x⟩
 | _,_,i+1,w,.cons _ r,e=>by
  obtain⟨v,h1,h2⟩:=aM.getW (i:=i) (w:=w) r (by simpa using e);exact⟨v,by simpa using h1,h2⟩
theorem aM.getV:∀{vs:List V} {ws:List W} {i:Nat} {v:V},aM K H M vs ws->vs[i]? = some v->∃w,ws[i]? = some w/\AV K H M v w
 | _,_,_,_,.nil,e=>by simp at e
 | _,_,0,_,.cons x _,e=>by simp at e;subst e;exact⟨_,rfl,x⟩
 | _,_,i+1,v,.cons _ r,e=>by
  obtain⟨w,h1,h2⟩:=aM.getV (i:=i) (v:=v) r (by simpa using e);exact⟨w,by simpa using h1,h2⟩
theorem aM.set{v:V}{w:W}(x:AV K H M v w):∀{vs:List V} {ws:List W} (i:Nat),aM K H M vs ws->aM K H M (vs.set i v) (ws.set i w)
 | _,_,_,.nil=>.nil
 | _,_,0,.cons _ t=>.cons x t
 | _,_,i+1,.cons q t=>.cons q (aM.set x i t)
theorem aM.take:∀{vs:List V} {ws:List W} (n:Nat),aM K H M vs ws->aM K H M (vs.take n) (ws.take n)
 | _,_,0,_=>by simp;exact .nil
 | _,_,_+1,.nil=>.nil
 | _,_,n+1,.cons x t=>.cons x (aM.take n t)
theorem aM.drop:∀{vs:List V} {ws:List W} (n:Nat),aM K H M vs ws->aM K H M (vs.drop n) (ws.drop n)
 | _,_,0,h=>h
 | _,_,_+1,.nil=>.nil
 | _,_,n+1,.cons _ t=>aM.drop n t
theorem aM.reverse{vs:List V}{ws:List W}(h:aM K H M vs ws):aM K H M vs.reverse ws.reverse:=by
 induction vs generalizing ws with
 | nil=>cases h;exact .nil
 | cons v vs ih=>
  cases h with
  | cons x r=>rw[List.reverse_cons,List.reverse_cons];exact(ih r).append (.cons x .nil)
theorem aM.dropLast{vs:List V}{ws:List W}(h:aM K H M vs ws):aM K H M vs.dropLast ws.dropLast:=by
 rw[List.dropLast_eq_take,List.dropLast_eq_take,h.length];exact h.take _
theorem aM.flatRep{vs:List V}{ws:List W}(h:aM K H M vs ws):∀n:Nat,aM K H M (Bw n vs).flatten (Bw n ws).flatten
 | 0=>.nil
 | n+1=>by
  rw[Fp,Fp,Ef,Ef];exact h.append (aM.flatRep h n)
theorem aM.int(is:List Int):aM K H M (is.map V.int) (is.map W.int):=by
 induction is with
 | nil=>exact .nil
 | cons i r ih=>exact .cons (.int i) ih
theorem FF{p:Addr}{u:HO}(hp:H p=none)(hs:∀b,b≠p->M b=none->M' b=none):Go H M (aX H p u) M':=
 ⟨λb xs e=>by rw[bH (eV e hp)];exact e,λb o x e=>by rw[bH (eV e hp)];exact e,λb o n e=>⟨by rw[bH (eV e hp)];exact e,hs b (eV e hp) n⟩⟩
theorem FG{p:Addr}{o:MO}{u:HO}(hp:H p=none):Go H M (aX H p u) (put M p o):=FF hp λb ne n=>by rw[aW ne];exact n
theorem go_same{p:Addr}{u:HO}(hp:H p=none):Go H M (aX H p u) M:=FF hp λb ne n=>n
theorem AM.laid{p:Addr}{o:MO}{u:HO}(am:AM K H M)(hp:H p=none)(h:AO K (aX H p u) (put M p o) p o):AM K (aX H p u) (put M p o)/\Kp H M (aX H p u) (put M p o):=by
 refine⟨λa x e=>?_,λa x h e=>⟨?_,?_⟩,λa x h=>?_⟩
 .by_cases ha:a=p
  .subst ha;rw[aY]at e;cases e;exact h
  .rw[aW ha]at e;exact(am a x e).go (FG hp) (bH ha)
 .rw[bH (eV e hp)];exact e
 .rw[aW (eV e hp)];exact h
 .obtain⟨y,e⟩:=(am a x h).has;exact⟨y,by rw[bH (eV e hp)];exact e⟩
theorem FH{p:Addr}{o u:MO}:Go H (put M p o) H (put M p u):=⟨λ_ _ e=>e,λ_ _ _ e=>e,λb x n e=>⟨e,by
 have ne:b≠p:=λz=>by rw[z,aY]at n;cases n
 rw[aW ne]at n⊢;exact n⟩⟩
theorem AM.tup{p:Addr}{u:HO}(am:AM K H M)(hp:H p=none):AM K (aX H p u) M/\Kp H M (aX H p u) M:=by
 refine⟨λa x e=>?_,λa x h e=>⟨?_,h⟩,λa x h=>?_⟩
 .have ne:a≠p:=λz=>by rw[z,am.nonM hp]at e;cases e
  exact(am a x e).go (go_same hp) (bH ne)
 .rw[bH (eV e hp)];exact e
 .obtain⟨y,e⟩:=(am a x h).has;exact⟨y,by rw[bH (eV e hp)];exact e⟩
theorem oH{l:Addr}{o0 o:MO}{u:HO}(am:AM K H M)(hl:M l=some o0):Go H M (aX H l u) (put M l o):=
 ⟨λb xs e=>by rw[bH (λz=>by rw[<-z,am.noTup e]at hl;cases hl)];exact e,λb ob x e=>by rw[bH (λz=>by rw[<-z,am.noFrz e]at hl;cases hl)];exact e,
   λb x n e=>by
  have ne:b≠l:=λz=>by rw[<-z,n]at hl;cases hl
  rw[bH ne,aW ne];exact⟨e,n⟩⟩
theorem AM.write{l:Addr}{o0 o:MO}{u:HO}(am:AM K H M)(hl:M l=some o0)(h:AO K (aX H l u) (put M l o) l o):AM K (aX H l u) (put M l o)/\Kp H M (aX H l u) (put M l o):=by
 refine⟨λa x e=>?_,λa x h e=>?_,λa x h=>?_⟩
 .by_cases ha:a=l
  .subst ha;rw[aY]at e;cases e;exact h
  .rw[aW ha]at e;exact(am a x e).go (oH am hl) (bH ha)
 .have:a≠l:=λz=>by rw[z,hl]at h;cases h
  rw[bH this,aW this];exact⟨e,h⟩
 .by_cases ha:a=l
  .subst ha;exact⟨u,c9⟩
  .obtain⟨y,e⟩:=(am a x h).has;exact⟨y,by rw[bH ha];exact e⟩
theorem AM.lst(am:AM K H M){ws:List W}(h:M a=some (.lst ws)):∃vs,H a=some (.lst vs)/\aM K H M vs ws:=am a _ h
theorem aM.newT{p:Addr}{u:HO}{vs:List V}{ws:List W}(hp:H p=none)(h:aM K H M vs ws):aM K (aX H p u) M vs ws:=h.go (go_same hp)
theorem aM.newL{p:Addr}{u:HO}{o:MO}{vs:List V}{ws:List W}(hp:H p=none)(h:aM K H M vs ws):aM K (aX H p u) (put M p o) vs ws:=h.go (FG hp)
theorem aM.wr{l:Addr}{o0 o:MO}{u:HO}{vs:List V}{ws:List W}(am:AM K H M)(hl:M l=some o0)(h:aM K H M vs ws):aM K (aX H l u) (put M l o) vs ws:=h.go (oH am hl)
theorem AV.wr{l:Addr}{o0 o:MO}{u:HO}{v:V}{w:W}(am:AM K H M)(hl:M l=some o0)(h:AV K H M v w):AV K (aX H l u) (put M l o) v w:=h.go (oH am hl)
end
abbrev S3:=List (Option W)
abbrev K3:=W->Mm->Prop
abbrev aZ:=S3->Mm->K3->Prop
abbrev d7:=S3->Mm->(Bool->Mm->Prop)->Prop
abbrev dS:=S3->Mm->(List W->Mm->Prop)->Prop
abbrev R3:=W->W->Mm->K3->Prop
structure D3 where
 nx:S3->Mm->Prop
 rt:K3
 bk:S3->Mm->Prop:=λ_ _=>False
 ct:S3->Mm->Prop:=λ_ _=>False
abbrev aG:=D3->S3->Mm->Prop
def AS(K:Ac)(H:Hp)(M:Mm):SV->S3->Prop:=Gj λov ow=>∀w,ow=some w->∃v,ov=some v/\AV K H M v w
section
variable {K:Ac}{H H':Hp}{M M':Mm}
theorem AS.kp(am:AM K H M)(k:Kp H M H' M'){Z:SV}{τ:S3}(h:AS K H M Z τ):AS K H' M' Z τ:=
 Paired.mapP h λov ow z w e=>by obtain⟨v,e1,r⟩:=z w e;exact⟨v,e1,r.kp am k⟩
theorem AS.sub{M':Mm}(g:Sub M' M){Z:SV}{τ:S3}(h:AS K H M Z τ):AS K H M' Z τ:=
 Paired.mapP h λov ow z w e=>by obtain⟨v,e1,r⟩:=z w e;exact⟨v,e1,r.sub g⟩
theorem AS.get{w:W}:∀{Z:SV} {τ:S3} {i:Nat},AS K H M Z τ->τ[i]? = some (some w)->∃v,Z[i]? = some (some v)/\AV K H M v w
 | _,_,_,.nil,e=>by simp at e
 | _,_,0,.cons r _,e=>by
  simp at e;obtain⟨v,h1,h2⟩:=r w e;exact⟨v,by rw[h1];rfl,h2⟩
 | _,_,i+1,.cons _ t,e=>by
  obtain⟨v,h1,h2⟩:=AS.get (i:=i) t (by simpa using e);exact⟨v,by simpa using h1,h2⟩
theorem AS.set{v:V}{w:W}(r:AV K H M v w):∀{Z:SV} {τ:S3} (i:Nat),AS K H M Z τ->AS K H M (Z.set i (some v)) (τ.set i (some w))
 | _,_,_,.nil=>.nil
 | _,_,0,.cons _ t=>.cons (λx e=>⟨v,rfl,by cases e;exact r⟩) t
 | _,_,i+1,.cons q t=>.cons q (AS.set r i t)
theorem AS.nones:∀n:Nat,AS K H M (Bw n none) (Bw n none)
 | 0=>.nil
 | n+1=>.cons (λ_ e=>nomatch e) (AS.nones n)
theorem AS.start{vs:List V}{ws:List W}(h:aM K H M vs ws)(n:Nat):AS K H M (vs.map some++Bw n none) (ws.map some++Bw n none):=by
 induction vs generalizing ws with
 | nil=>cases h;exact AS.nones n
 | cons v vs ih=>
  cases h with
  | cons x r=>exact .cons (λw e=>⟨v,rfl,by cases e;exact x⟩) (ih r)
end
def Up(K:Ac)(H:Hp)(M:Mm)(R:K3)(Q:VK):Prop:=∀v H' w M',Kp H M H' M'->AM K H' M'->AV K H' M' v w->R w M'->Q v H'
def up(K:Ac)(t:aZ):TE:=λZ H Q=>∃τ M R,AS K H M Z τ/\AM K H M/\t τ M R/\Up K H M R Q
def kQ(K:Ac)(t:d7):TT:=λZ H Q=>∃(τ:S3) (M:Mm) (R:Bool->Mm->Prop),AS K H M Z τ/\AM K H M/\t τ M R/\∀b H' M',Kp H M H' M'->AM K H' M'->R b M'->Q b H'
def oI(K:Ac)(t:dS):TA:=λZ H Q=>∃(τ:S3) (M:Mm) (R:List W->Mm->Prop),AS K H M Z τ/\AM K H M/\t τ M R/\∀vs H' ws M',Kp H M H' M'->AM K H' M'->aM K H' M' vs ws->R ws M'->Q vs H'
def iO(K:Ac)(H:Hp)(M:Mm)(R:S3->Mm->Prop)(Q:SV->Hp->Prop):Prop:=∀σ' H' τ' M',Kp H M H' M'->AM K H' M'->AS K H' M' σ' τ'->R τ' M'->Q σ' H'
structure pX(K:Ac)(H:Hp)(M:Mm)(D:D3)(E:lK):Prop where
 nx:iO K H M D.nx E.nx
 rt:Up K H M D.rt E.rt
 bk:iO K H M D.bk E.bk
 ct:iO K H M D.ct E.ct
def pY(K:Ac)(t:aG):TS:=λE Z H=>∃τ M D,AS K H M Z τ/\AM K H M/\t D τ M/\pX K H M D E
section
variable {K:Ac}{H H1:Hp}{M M1:Mm}
theorem Up.kp{R:K3}{Q:VK}(h:Up K H M R Q)(k:Kp H M H1 M1):Up K H1 M1 R Q:=λv H' w M' k' am av r=>h v H' w M' (k.trans k') am av r
theorem iO.kp{R:S3->Mm->Prop}{Q:SV->Hp->Prop}(h:iO K H M R Q)(k:Kp H M H1 M1):iO K H1 M1 R Q:=λv H' w M' k' am av r=>h v H' w M' (k.trans k') am av r
theorem pX.kp{D:D3}{E:lK}(h:pX K H M D E)(k:Kp H M H1 M1):pX K H1 M1 D E:=⟨h.nx.kp k,h.rt.kp k,h.bk.kp k,h.ct.kp k⟩
theorem Up.at{R:K3}{Q:VK}(h:Up K H M R Q)(am:AM K H M){v:V}{w:W}(av:AV K H M v w)(r:R w M):Q v H:=h v H w M (Kp.refl am) am av r
end
def frz:W->Mm->K3->Prop
 | .ref p,M,R=>(∃ws,M p=some (.lst ws)/\R (.rl ws) (del M p))\/(∃kvs,M p=some (.dK kvs)/\R (.dk kvs) (del M p))\/(∃kvs,M p=some (.dT kvs)/\R (.dt kvs) (del M p))\/R (.ref p) M
 | w,M,R=>R w M
theorem Up.frz{K:Ac}{H:Hp}{M:Mm}{R:K3}{Q:VK}(h:Up K H M R Q):Up K H M (λw M'=>frz w M' R) Q:=λv H' w M' k am av r=>by
 have av':=av;cases av<;>first|exact h _ _ _ _ k am av' r|skip
 case ref p=>
  rcases r with⟨ws,e,r⟩|⟨kvs,e,r⟩|⟨kvs,e,r⟩|r
  .obtain⟨vs,f,q⟩:=am.lst e;exact h _ _ _ _ (k.sub Sub.del) (am.sub Sub.del) (.rl f nK (q.sub Sub.del)) r
  .obtain⟨ks,f,q⟩:=am _ _ e;exact h _ _ _ _ (k.sub Sub.del) (am.sub Sub.del) (.dk f nK q.keys (q.vals.sub Sub.del)) r
  .obtain⟨ks,f,q⟩:=am _ _ e;exact h _ _ _ _ (k.sub Sub.del) (am.sub Sub.del) (.dt f nK q.keys (q.vals.sub Sub.del)) r
  .exact h _ _ _ _ k am (.ref p) r
theorem UD{M:Mm}{p:Addr}{ws:List W}{R:K3}(hp:M p=none)(r:R (.rl ws) M):frz (.ref p) (put M p (.lst ws)) R:=.inl ⟨ws,aY,by rw[mM hp];exact r⟩
theorem UE{M:Mm}{p:Addr}{kvs:List (aK×W)}{R:K3}(hp:M p=none)(r:R (.dk kvs) M):frz (.ref p) (put M p (.dK kvs)) R:=.inr (.inl ⟨kvs,aY,by rw[mM hp];exact r⟩)
theorem UG{M:Mm}{p:Addr}{kvs:List (List aK×W)}{R:K3}(hp:M p=none)(r:R (.dt kvs) M):frz (.ref p) (put M p (.dT kvs)) R:=.inr (.inr (.inl ⟨kvs,aY,by rw[mM hp];exact r⟩))
def a9(ws:List W)(M:Mm)(R:K3):Prop:=∀p,M p=none->R (.ref p) (put M p (.lst ws))
def UH(kvs:List (aK×W))(M:Mm)(R:K3):Prop:=∀p,M p=none->R (.ref p) (put M p (.dK kvs))
def lN(kvs:List (List aK×W))(M:Mm)(R:K3):Prop:=∀p,M p=none->R (.ref p) (put M p (.dT kvs))
theorem a9.frz{M:Mm}{ws:List W}{R:K3}(r:R (.rl ws) M):a9 ws M λw M'=>L3.frz w M' R:=λp hp=>UD hp r
theorem lN.frz{M:Mm}{kvs:List (List aK×W)}{R:K3}(r:R (.dt kvs) M):lN kvs M λw M'=>L3.frz w M' R:=λp hp=>UG hp r
def dN(t:aZ):aZ:=λτ M R=>t τ M λw M'=>frz w M' R
def UI(K:Ac)(H:Hp)(M:Mm)(v:V):W->Prop
 | .non=>v=.non
 | .bl b=>v=.bl b
 | .int i=>v=.int i
 | .str x=>v=.str x
 | .ty n=>v=.ty n
 | .tup ws=>∃a xs,v=.ref a/\H a=some (.tup xs)/\aM K H M xs ws
 | .sc ws=>∃a xs,v=.ref a/\mN K H a xs/\aM K H M xs ws
 | .rl ws=>∃a xs,v=.ref a/\H a=some (.lst xs)/\M a=none/\aM K H M xs ws
 | .ref a=>v=.ref a
 | .dk kvs=>∃a ks,v=.ref a/\H a=some (.dK ks)/\M a=none/\cD K H M aK ks kvs
 | .dt kvs=>∃a ks,v=.ref a/\H a=some (.dT ks)/\M a=none/\cD K H M (List aK) ks kvs
 | .fk kvs=>∃a ks,v=.ref a/\(∃o,H a=some (.frz o (.dK ks)))/\cD K H M aK ks kvs
 | .ft kvs=>∃a ks,v=.ref a/\(∃o,H a=some (.frz o (.dT ks)))/\cD K H M (List aK) ks kvs
section
variable {K:Ac}{H:Hp}{M:Mm}{v:V}{vs:List V}{w:W}{ws:List W}{C:Prop}
theorem AV.inv(h:AV K H M v w):UI K H M v w:=by
 cases h
 case non|bl|int|str|ty|ref=>rfl
 case tup|sc=>rename_i e q;exact⟨_,_,rfl,e,q⟩
 case rl=>rename_i e n q;exact⟨_,_,rfl,e,n,q⟩
 case dk|dt=>rename_i e n z q;exact⟨_,_,rfl,e,n,sW z q⟩
 case fk|ft=>rename_i e z q;exact⟨_,_,rfl,⟨_,e⟩,sW z q⟩
theorem AV.tupE(h:AV K H M v (.tup ws))(c:∀a xs,v=.ref a->H a=some (.tup xs)->aM K H M xs ws->C):C:=
 let ⟨a,xs,e,f,q⟩:=h.inv;c a xs e f q
theorem AV.scE(h:AV K H M v (.sc ws))(c:∀a xs,v=.ref a->mN K H a xs->aM K H M xs ws->C):C:=
 let ⟨a,xs,e,f,q⟩:=h.inv;c a xs e f q
theorem AV.rlE(h:AV K H M v (.rl ws))(c:∀a xs,v=.ref a->H a=some (.lst xs)->aM K H M xs ws->C):C:=
 let ⟨a,xs,e,f,_,q⟩:=h.inv;c a xs e f q
theorem aM.nil_(h:aM K H M vs []):vs=[]:=by cases h;rfl
theorem aM.one(h:aM K H M vs [w]):∃v,vs=[v]/\AV K H M v w:=by
 cases h with
 | cons x r=>rw[r.nil_];exact⟨_,rfl,x⟩
theorem aM.oneE(h:aM K H M vs [w])(c:∀v,vs=[v]->AV K H M v w->C):C:=h.one.elim λv h=>c v h.1 h.2
theorem aM.two{z:W}(h:aM K H M vs [w,z]):∃v u,vs=[v,u]/\AV K H M v w/\AV K H M u z:=by
 cases h with
 | cons x r=>obtain⟨u,rfl,y⟩:=r.one;exact⟨_,_,rfl,x,y⟩
theorem AM.lstE{a:Addr}(am:AM K H M)(e:M a=some (.lst ws))(c:∀xs,H a=some (.lst xs)->aM K H M xs ws->C):C:=(am.lst e).elim λv h=>c v h.1 h.2
theorem iP{x y:V}(e:vs=[x])(f:x=y):vs=[y]:=by rw[e,f]
end
theorem up.el{K:Ac}{H:Hp}{Z:SV}{C:Prop}{t:aZ}{Q:VK}(h:up K t Z H Q)(c:∀τ M R,AS K H M Z τ->AM K H M->t τ M R->Up K H M R Q->C):C:=by obtain⟨τ,M,R,a,b,h,k⟩:=h;exact c τ M R a b h k
theorem kQ.el{K:Ac}{H:Hp}{Z:SV}{C:Prop}{t:d7}{Q:Bool->Hp->Prop}(h:kQ K t Z H Q)(c:∀τ M R,AS K H M Z τ->AM K H M->t τ M R->(∀b H' M',Kp H M H' M'->AM K H' M'->R b M'->Q b H')->C):C:=by obtain⟨τ,M,R,a,b,h,k⟩:=h;exact c τ M R a b h k
theorem oI.el{K:Ac}{H:Hp}{Z:SV}{C:Prop}{t:dS}{Q:List V->Hp->Prop}(h:oI K t Z H Q)(c:∀τ M R,AS K H M Z τ->AM K H M->t τ M R->(∀vs H' ws M',Kp H M H' M'->AM K H' M'->aM K H' M' vs ws->R ws M'->Q vs H')->C):C:=by obtain⟨τ,M,R,a,b,h,k⟩:=h;exact c τ M R a b h k
theorem pY.el{K:Ac}{H:Hp}{Z:SV}{C:Prop}{t:aG}{E:lK}(h:pY K t E Z H)(c:∀τ M D,AS K H M Z τ->AM K H M->t D τ M->pX K H M D E->C):C:=by obtain⟨τ,M,D,a,b,h,k⟩:=h;exact c τ M D a b h k
end L3
namespace L2
section
variable {X:Cx}
theorem PE.weak{e:Kx}{t t':TE}(h:PE X e t)(k:∀Z H Q,t' Z H Q->t Z H Q):PE X e t':=λpins s Z H Q I q=>h pins s Z H Q I (k Z H Q q)
theorem PT.weak{e:Kx}{t t':TT}(h:PT X e t)(k:∀Z H Q,t' Z H Q->t Z H Q):PT X e t':=λpins s Z H Q I q=>h pins s Z H Q I (k Z H Q q)
theorem PW.weak{e:Kx}{t t':TT}(h:PW X e t)(k:∀Z H Q,t' Z H Q->t Z H Q):PW X e t':=λwh pins s Z H Q I q=>h wh pins s Z H Q I (k Z H Q q)
theorem PA.weak{es:List Kx}{t t':TA}(h:PA X es t)(k:∀Z H Q,t' Z H Q->t Z H Q):PA X es t':=λpos pins s Z H Q I q=>h pos pins s Z H Q I (k Z H Q q)
theorem PS.weak{st:PySem.Stmt}{t t':TS}(h:PS X st t)(k:∀D Z H,t' D Z H->t D Z H):PS X st t':=λpins s Z H D I q=>h pins s Z H D I (k D Z H q)
theorem gE.weak{st:List PySem.Stmt}{t t':TS}(h:gE X st t)(k:∀D Z H,t' D Z H->t D Z H):gE X st t':=λpins s Z H D I q=>h pins s Z H D I (k D Z H q)
theorem PO.weak{e:Option Kx}{t t':TO}(h:PO X e t)(k:∀Z H Q,t' Z H Q->t Z H Q):PO X e t':=λpins s Z H Q I q=>h pins s Z H Q I (k Z H Q q)
theorem i0.weak{es:List Kx}{t t':TT}(h:i0 X es t)(k:∀Z H Q,t' Z H Q->t Z H Q):i0 X es t':=λpins s Z H Q I q=>h pins s Z H Q I (k Z H Q q)
end
end L2
namespace L3
open PySem Spec PyProof.Rows L2
abbrev E3(X:Cx)(e:Expr)(t:aZ):Prop:=PE X e (up X.K t)
abbrev T3(X:Cx)(e:Expr)(t:d7):Prop:=PT X e (kQ X.K t)
abbrev W3(X:Cx)(e:Expr)(t:d7):Prop:=PW X e (kQ X.K t)
abbrev A3(X:Cx)(es:List Expr)(t:dS):Prop:=PA X es (oI X.K t)
def cS(K:Ac)(r:R3):R2:=λx y H Q=>∃wx wy M R,AM K H M/\AV K H M x wx/\AV K H M y wy/\r wx wy M R/\Up K H M R Q
def FI(K:Ac)(r:W->Mm->K3->Prop):V->Hp->VK->Prop:=λx H Q=>∃wx M R,AM K H M/\AV K H M x wx/\r wx M R/\Up K H M R Q
def g9(K:Ac)(r:List W->Mm->K3->Prop):List V->Hp->VK->Prop:=λxs H Q=>∃ws M R,AM K H M/\aM K H M xs ws/\r ws M R/\Up K H M R Q
def kR(K:Ac)(r:W->List W->Mm->K3->Prop):V->List V->Hp->VK->Prop:=λx xs H Q=>∃wx ws M R,AM K H M/\AV K H M x wx/\aM K H M xs ws/\r wx ws M R/\Up K H M R Q
section
variable {X:Cx}{a b c:Expr}{ta tb tc:aZ}{pos:Pos}
def aA(i:Nat):aZ:=λτ M R=>∃w,τ[i]? = some (some w)/\R w M
def vC(w:W):aZ:=λ_ M R=>R w M
theorem v(i:Nat){x:Str}{pos:Pos}(hN:X.N[i]? = some x:=by rfl)(hv:pL X.env.scope x:=by first|exact Or.inl rfl|exact Or.inr (Or.inl rfl)|exact Or.inr (Or.inr rfl))(hd:(x==("__debug__" : Str))=false:=by decide)(hcd:(x==("__classdict__" : Str))=false:=by decide):E3 X (.Name x pos) (aA i):=(vT hN hv hd hcd).weak λZ H Q ⟨τ,M,R,as,am,⟨w,e,r⟩,k⟩=>by
 obtain⟨v,e1,av⟩:=as.get e;exact⟨v,e1,k.at am av r⟩
theorem aL{i j pos}:E3 X (.Constant (.int i) j pos) (vC (.int i)):=MU.weak λZ H Q z0=>z0.el λτ M R as am r k=>k.at am (.int i) r
theorem iG{b j pos}:E3 X (.Constant (.bool b) j pos) (vC (.bl b)):=MV.weak λZ H Q z0=>z0.el λτ M R as am r k=>k.at am (.bl b) r
theorem oJ{j pos}:E3 X (.Constant .none j pos) (vC .non):=MW.weak λZ H Q z0=>z0.el λτ M R as am r k=>k.at am .non r
theorem cE{x j pos}:E3 X (.Constant (.str x) j pos) (vC (.str x)):=MX.weak λZ H Q z0=>z0.el λτ M R as am r k=>k.at am (.str x) r
theorem sX{x:Str}{y:V}{w:W}{u:Ae}{pos:Pos}(hg:Gl X x)(hm:X.mg x=some u)(r:RelV y u)(hw:∀H M,AV X.K H M y w)(hd:(x==("__debug__" : Str))=false:=by decide):E3 X (.Name x pos) (vC w):=
 (MY hg hm r hd).weak λZ H Q z0=>z0.el λτ M R as am r k=>k.at am (hw H M) r
theorem lO{x:Str}{y:V}{w:W}{u:Ae}{pos:Pos}(hg:Gl X x)(hm:X.mg x=none)(hv:Co x=some u)(r:RelV y u)(hw:∀H M,AV X.K H M y w)(hn:x≠"__name__":=by decide)(hd:(x==("__debug__" : Str))=false:=by decide):E3 X (.Name x pos) (vC w):=
 (MZ hg hm hv r hn hd).weak λZ H Q z0=>z0.el λτ M R as am r k=>k.at am (hw H M) r
theorem d8(ha:E3 X a ta):E3 X a (dN ta):=ha.weak λZ H Q z0=>z0.el λτ M R as am h k=>⟨τ,M,_,as,am,h,k.frz⟩
def aD(r:R3)(ta tb:aZ):aZ:=λτ M R=>ta τ M λx M1=>tb τ M1 λy M2=>r x y M2 R
theorem sY{K:Ac}{r:R3}{Z:SV}{H:Hp}{Q:VK}(h:up K (aD r ta tb) Z H Q):pQ (cS K r) (up K ta) (up K tb) Z H Q:=by
 obtain⟨τ,M,R,as,am,h,k⟩:=h;refine⟨τ,M,_,as,am,h,λx H1 wx M1 k1 am1 ax h1=>⟨τ,M1,_,as.kp am k1,am1,h1,λy H2 wy M2 k2 am2 ay h2=>?_⟩⟩;exact⟨wx,wy,M2,R,am2,ax.kp am1 k2,ay,h2,(k.kp k1).kp k2⟩
theorem bF{op:Operator}{r:R3}(ho:bG X (Ff op) (cS X.K r))(ha:E3 X a ta)(hb:E3 X b tb):E3 X (.BinOp a op b pos) (aD r ta tb):=(OT ho ha hb).weak λ_ _ _ h=>sY h
theorem UJ{op:CmpOp}{r:R3}(ho:bG X (Cb op) (cS X.K r))(ha:E3 X a ta)(hb:E3 X b tb)(hm:Hm op b=false):E3 X (.Compare a [op] [b] pos) (aD r ta tb):=(PH ho ha hb hm).weak λ_ _ _ h=>sY h
def bV(t:aZ):d7:=λτ M Q=>t τ M λw M'=>∃k,w=.bl k/\Q k M'
theorem AV.bl_inv{K:Ac}{H:Hp}{M:Mm}{v:V}{k:Bool}(h:AV K H M v (.bl k)):v=.bl k:=by cases h;rfl
theorem UK{op:CmpOp}{r:R3}(ho:bG X (Cb op) (cS X.K r))(ha:E3 X a ta)(hb:E3 X b tb)(hm:Hm op b=false):T3 X (.Compare a [op] [b] pos) (bV (aD r ta tb)):=
 (PJ ho ha hb hm).weak λZ H Q z0=>z0.el λτ M R as am h k=>sY ⟨τ,M,_,as,am,h,λv H' w M' k' am' av ⟨c,e,r⟩=>by
  subst e;exact⟨c,av.bl_inv,k c H' M' k' am' r⟩⟩
def jX(r:W->Mm->K3->Prop)(ta:aZ):aZ:=λτ M R=>ta τ M λx M1=>r x M1 R
theorem kS{op:UnaryOp}{r:W->Mm->K3->Prop}(ho:pP X (unaryOp op) (FI X.K r))(ha:E3 X a ta):E3 X (.UnaryOp op a pos) (jX r ta):=
 (OU ho ha).weak λZ H Q z0=>z0.el λτ M R as am h k=>⟨τ,M,_,as,am,h,λx H1 wx M1 k1 am1 ax h1=>⟨wx,M1,R,am1,ax,h1,k.kp k1⟩⟩
def UL:W->Mm->(Bool->Mm->Prop)->Prop
 | .non,M,Q=>Q false M
 | .bl b,M,Q=>Q b M
 | .int i,M,Q=>Q (i !=0) M
 | .str y,M,Q=>y.length<=Am/\Q ((y.length:Int) !=0) M
 | .tup ws,M,Q=>Q (!ws.isEmpty) M
 | .rl ws,M,Q=>Q (!ws.isEmpty) M
 | .sc ws,M,Q=>Q (!ws.isEmpty) M
 | .dk kvs,M,Q=>Q (!kvs.isEmpty) M
 | .ref p,M,Q=>(∃ws,M p=some (.lst ws)/\Q (!ws.isEmpty) M)\/∃kvs,M p=some (.dK kvs)/\Q (!kvs.isEmpty) M
 | _,_,_=>False
def gO(t:aZ):d7:=λτ M Q=>t τ M λw M'=>UL w M' Q
theorem aM.empty{K:Ac}{H:Hp}{M:Mm}{vs:List V}{ws:List W}(h:aM K H M vs ws):(!ws.isEmpty) = !vs.isEmpty:=by cases h<;>rfl
theorem hJ(ha:E3 X a ta)(he:∀whole,isTrue a X.env whole=(do let v <-whole;Mo a.pos;Iz [v] (truthy v)):=by intro _;rfl):T3 X a (gO ta):=
 (PN ha he).weak λZ H Q z0=>z0.el λτ M R as am h k=>⟨τ,M,_,as,am,h,λv H' w M' k' am' av r=>by
  cases av with
  | non=>exact⟨false,rfl,k _ _ _ k' am' r⟩
  | bl b=>exact⟨b,rfl,k _ _ _ k' am' r⟩
  | int i=>exact⟨_,rfl,k _ _ _ k' am' r⟩
  | str y=>exact⟨_,⟨r.1,rfl⟩,k _ _ _ k' am' r.2⟩
  | ty n=>exact(show False from r).elim
  | tup e q=>exact⟨_,.inr (.inl ⟨_,bW.of e,q.empty⟩),k _ _ _ k' am' r⟩
  | rl e n q=>exact⟨_,.inl ⟨_,bN.of e,q.empty⟩,k _ _ _ k' am' r⟩
  | sc e q=>exact⟨_,.inl ⟨_,e.sq,q.empty⟩,k _ _ _ k' am' r⟩
  | @dk a ks kvs e n ke q=>exact⟨!kvs.isEmpty,.inr (.inr ⟨_,e,by have:=sW ke q;cases this<;>rfl⟩),k _ _ _ k' am' r⟩
  | dt e n ke q=>exact(show False from r).elim
  | fk e ke q=>exact(show False from r).elim
  | ft e ke q=>exact(show False from r).elim
  | ref p=>
   rcases r with⟨ws,e,r⟩|⟨kvs,e,r⟩
   .obtain⟨vs,e1,q⟩:=am'.lst e;exact⟨_,.inl ⟨_,bN.of e1,q.empty⟩,k _ _ _ k' am' r⟩
   .obtain⟨ks,e1,q⟩:=am' _ _ e;exact⟨!kvs.isEmpty,.inr (.inr ⟨_,e1,by cases q<;>rfl⟩),k _ _ _ k' am' r⟩⟩
def sZ(t u:d7):d7:=λτ M Q=>t τ M λc M1=>if c=true then u τ M1 Q else Q false M1
def gP(t u:d7):d7:=λτ M Q=>t τ M λc M1=>if c=true then Q true M1 else u τ M1 Q
def jK(t:d7):d7:=λτ M Q=>t τ M λc M1=>Q (!c) M1
variable {tA tB':d7}{rest:List Expr}
theorem wV(ha:T3 X a tA):W3 X (.BoolOp .And [a] pos) tA:=NB ha
theorem kT(ha:T3 X a tA):W3 X (.BoolOp .Or [a] pos) tA:=NC ha
theorem wW(ha:T3 X a tA)(hb:W3 X (.BoolOp .And (b::rest) pos) tB'):W3 X (.BoolOp .And (a::b::rest) pos) (sZ tA tB'):=
 (ND ha hb).weak λZ H Q z0=>z0.el λτ M R as am h k=>⟨τ,M,_,as,am,h,λc H1 M1 k1 am1 h1=>by
  cases c with
  | true=>exact⟨τ,M1,R,as.kp am k1,am1,h1,λb H' M' k' am' r=>k b H' M' (k1.trans k') am' r⟩
  | false=>exact k false H1 M1 k1 am1 h1⟩
theorem hV(ha:T3 X a tA)(hb:W3 X (.BoolOp .Or (b::rest) pos) tB'):W3 X (.BoolOp .Or (a::b::rest) pos) (gP tA tB'):=
 (NF ha hb).weak λZ H Q z0=>z0.el λτ M R as am h k=>⟨τ,M,_,as,am,h,λc H1 M1 k1 am1 h1=>by
  cases c with
  | true=>exact k true H1 M1 k1 am1 h1
  | false=>exact⟨τ,M1,R,as.kp am k1,am1,h1,λb H' M' k' am' r=>k b H' M' (k1.trans k') am' r⟩⟩
theorem jY(ha:T3 X a tA):T3 X (.UnaryOp .Not a pos) (jK tA):=
 (NG ha).weak λZ H Q z0=>z0.el λτ M R as am h k=>⟨τ,M,_,as,am,h,λc H1 M1 k1 am1 h1=>k (!c) H1 M1 k1 am1 h1⟩
def wX(ta tb:aZ):aZ:=λτ M R=>ta τ M λx M1=>∃c,x=.bl c/\if c=true then tb τ M1 R else R (.bl false) M1
def FJ(ta tb:aZ):aZ:=λτ M R=>ta τ M λx M1=>∃c,x=.bl c/\if c=true then R (.bl true) M1 else tb τ M1 R
def FK(ta:aZ):aZ:=λτ M R=>ta τ M λx M1=>∃c,x=.bl c/\R (.bl (!c)) M1
theorem FN{op}(h:E3 X a ta):E3 X (.BoolOp op [a] pos) ta:=NK h
theorem v_and(ha:E3 X a ta)(hb:E3 X (.BoolOp .And (b::rest) pos) tb):E3 X (.BoolOp .And (a::b::rest) pos) (wX ta tb):=
 (NL ha hb).weak λZ H Q z0=>z0.el λτ M R as am h k=>⟨τ,M,_,as,am,h,λx H1 wx M1 k1 am1 ax ⟨c,e,h1⟩=>by
  subst e;refine⟨c,ax.bl_inv,?_⟩;cases c with
  | true=>exact⟨τ,M1,R,as.kp am k1,am1,h1,k.kp k1⟩
  | false=>exact(k.kp k1).at am1 (.bl false) h1⟩
theorem v_or(ha:E3 X a ta)(hb:E3 X (.BoolOp .Or (b::rest) pos) tb):E3 X (.BoolOp .Or (a::b::rest) pos) (FJ ta tb):=
 (NM ha hb).weak λZ H Q z0=>z0.el λτ M R as am h k=>⟨τ,M,_,as,am,h,λx H1 wx M1 k1 am1 ax ⟨c,e,h1⟩=>by
  subst e;refine⟨c,ax.bl_inv,?_⟩;cases c with
  | true=>exact(k.kp k1).at am1 (.bl true) h1
  | false=>exact⟨τ,M1,R,as.kp am k1,am1,h1,k.kp k1⟩⟩
theorem v_not(ha:E3 X a ta):E3 X (.UnaryOp .Not a pos) (FK ta):=
 (NN ha).weak λZ H Q z0=>z0.el λτ M R as am h k=>⟨τ,M,_,as,am,h,λx H1 wx M1 k1 am1 ax ⟨c,e,h1⟩=>by
  subst e;exact⟨c,ax.bl_inv,(k.kp k1).at am1 (.bl _) h1⟩⟩
def tB(t:d7)(ta tb:aZ):aZ:=λτ M R=>t τ M λc M1=>if c=true then ta τ M1 R else tb τ M1 R
theorem wY{c:Expr}(hc:T3 X c tA)(ha:E3 X a ta)(hb:E3 X b tb):E3 X (.IfExp c a b pos) (tB tA ta tb):=
 (NP hc ha hb).weak λZ H Q z0=>z0.el λτ M R as am h k=>⟨τ,M,_,as,am,h,λc H1 M1 k1 am1 h1=>by
  cases c with
  | true=>exact⟨τ,M1,R,as.kp am k1,am1,h1,k.kp k1⟩
  | false=>exact⟨τ,M1,R,as.kp am k1,am1,h1,k.kp k1⟩⟩
def aE:dS:=λ_ M R=>R [] M
def aB(ta:aZ)(tr:dS):dS:=λτ M R=>ta τ M λx M1=>tr τ M1 λxs M2=>R (x::xs) M2
variable {e:Expr}{es:List Expr}{te:aZ}{t:dS}
theorem aF:A3 X [] aE:=QB.weak λZ H Q z0=>z0.el λτ M R as am h k=>k [] H [] M (Kp.refl am) am .nil h
theorem aC(ha:E3 X e te)(hr:A3 X es t)(hs:Be (e::es) X.env=(false,eval e X.env)::Be es X.env:=by rfl):A3 X (e::es) (aB te t):=
 (QC ha hr hs).weak λZ H Q z0=>z0.el λτ M R as am h k=>⟨τ,M,_,as,am,h,λx H1 wx M1 k1 am1 ax h1=>⟨τ,M1,_,as.kp am k1,am1,h1,λxs H2 ws M2 k2 am2 axs h2=>
  k (x::xs) H2 (wx::ws) M2 (k1.trans k2) am2 (.cons (ax.kp am1 k2) axs) h2⟩⟩
def cB(t:dS):aZ:=λτ M R=>t τ M λws M1=>ws.length<=Am/\R (.tup ws) M1
def hZ(t:dS):aZ:=λτ M R=>t τ M λws M1=>ws.length<=Am/\a9 ws M1 R
theorem laidT{K:Ac}{H:Hp}{M:Mm}{R:K3}{Q:VK}{p:Addr}{xs:List V}{ws:List W}(am:AM K H M)(k:Up K H M R Q)(hp:H p=none)(ax:aM K H M xs ws)(r:R (.tup ws) M):Q (.ref p) (aX H p (.tup xs)):=by
 obtain⟨am2,k2⟩:=am.tup (u:=.tup xs) hp;exact k _ _ _ _ k2 am2 (.tup c9 (ax.newT hp)) r
theorem iQ{K:Ac}{H:Hp}{M:Mm}{R:K3}{Q:VK}{p:Addr}{xs:List V}{ws:List W}(am:AM K H M)(k:Up K H M R Q)(hp:H p=none)(ax:aM K H M xs ws)(r:∀p,M p=none->R (.ref p) (put M p (.lst ws))):Q (.ref p) (aX H p (.lst xs)):=by
 obtain⟨am2,k2⟩:=am.laid (o:=.lst ws) (u:=.lst xs) hp ⟨xs,c9,ax.newL hp⟩;exact k _ _ _ _ k2 am2 (.ref p) (r p (am.nonM hp))
theorem pZ{K:Ac}{H:Hp}{M:Mm}{R:K3}{Q:VK}{l:Addr}{xs:List V}{ws ws0:List W}{y:V}{w:W}(am:AM K H M)(k:Up K H M R Q)(hl:M l=some (.lst ws0))(ax:aM K H M xs ws)(ay:AV K H M y w)(r:R w (put M l (.lst ws))):Q y (aX H l (.lst xs)):=by
 obtain⟨am2,k2⟩:=am.write (o:=.lst ws) (u:=.lst xs) hl ⟨xs,c9,ax.wr am hl⟩;exact k _ _ _ _ k2 am2 (ay.wr am hl) r
theorem cF{x1}(h:A3 X es t):E3 X (.Tuple es x1 pos) (cB t):=
 (QF h).weak λZ H Q z0=>z0.el λτ M R as am h k=>⟨τ,M,_,as,am,h,λxs H1 ws M1 k1 am1 axs ⟨hl,r⟩=>⟨by rw[axs.length];exact hl,λp hp=>laidT am1 (k.kp k1) hp axs r⟩⟩
theorem iR(h:A3 X es t):E3 X (.List es pos) (hZ t):=
 (D4 h).weak λZ H Q z0=>z0.el λτ M R as am h k=>⟨τ,M,_,as,am,h,λxs H1 ws M1 k1 am1 axs ⟨hl,r⟩=>⟨by rw[axs.length];exact hl,λp hp=>iQ am1 (k.kp k1) hp axs r⟩⟩
def bX(r:List W->Mm->K3->Prop)(t:dS):aZ:=λτ M R=>t τ M λws M1=>r ws M1 R
variable {x:Str}{p:Pos}{id T:String}{r:List W->Mm->K3->Prop}
theorem FO{K:Ac}{Z:SV}{H:Hp}{Q:VK}(h:up K (bX r t) Z H Q):v5 (g9 K r) (oI K t) Z H Q:=by
 obtain⟨τ,M,R,as,am,h,k⟩:=h;exact⟨τ,M,_,as,am,h,λxs H1 ws M1 k1 am1 axs h1=>⟨ws,M1,R,am1,axs,h1,k.kp k1⟩⟩
theorem cL(hc:dR X (.builtin id) (g9 X.K r))(hg:Gl X x)(hm:X.mg x=none)(hv:Co x=some (.builtin id))(ha:A3 X (e::es) t)(hn:x≠"__name__":=by decide)(hdb:(x==("__debug__" : Str))=false:=by decide)(hs:Be (e::es) X.env=(false,eval e X.env)::Be es X.env:=by rfl)(hpl:(Gf pos (Be es X.env)).any (·.1)=false:=by rfl):E3 X (.Call (.Name x p) (e::es) [] pos) (bX r t):=(QM hc hg hm hv ha hn hdb hs hpl).weak λ_ _ _ h=>FO h
theorem mO(hc:dR X (.type T) (g9 X.K r))(hg:Gl X x)(hm:X.mg x=none)(hv:Co x=some (.type T))(ha:A3 X (e::es) t)(hn:x≠"__name__":=by decide)(hdb:(x==("__debug__" : Str))=false:=by decide)(hs:Be (e::es) X.env=(false,eval e X.env)::Be es X.env:=by rfl)(hpl:(Gf pos (Be es X.env)).any (·.1)=false:=by rfl):E3 X (.Call (.Name x p) (e::es) [] pos) (bX r t):=(QN hc hg hm hv ha hn hdb hs hpl).weak λ_ _ _ h=>FO h
abbrev bE:=List W->Mm->K3->Prop
def fJ(K:Ac)(sp:bE):Sp:=λvs H Q _=>∃ws M R,AM K H M/\aM K H M vs ws/\sp ws M R/\Up K H M R Q
variable {k:Nat}{f:Addr}{fd:Bi}{ps:List Str}{sp:bE}
def bS(sp:bE)(t:dS):aZ:=λτ M R=>t τ M λws M1=>sp ws M1 R
theorem FP{K:Ac}{Z:SV}{H:Hp}{Q:VK}(h:up K (bS sp t) Z H Q):D5 (fJ K sp) [] E0 (oI K t) Z H Q:=by
 obtain⟨τ,M,R,as,am,h,k⟩:=h;exact⟨τ,M,_,as,am,h,λxs H1 ws M1 k1 am1 axs h1=>⟨ws,M1,R,am1,by rw[Cm];exact axs,h1,k.kp k1⟩⟩
theorem p0(F:eN X.prog X.w X.K X.mg X.base eQ k f fd ps (fJ X.K sp))(hr:cP k X.A)(hg:Gl X x)(hm:X.mg x=some (.ref f))(hk:Ee X.K (.ref f)=true)(hb:Binds X.K fd ps [])(ha:A3 X (e::es) t)(hdb:(x==("__debug__" : Str))=false:=by decide)(he:Be (e::es) X.env=(false,eval e X.env)::Be es X.env:=by rfl)(hpl:(Gf pos (Be es X.env)).any (·.1)=false:=by rfl):
  E3 X (.Call (.Name x p) (e::es) [] pos) (bS sp t):=(QG F hr hg hm hk hb .nil mK ha hdb he hpl).weak λ_ _ _ h=>FP h
def lP(T:String):W->Mm->Prop
 | .str _,_=>T = "str"
 | .int _,_=>T = "int"
 | .rl _,_=>T = "list"
 | .sc _,_=>T = "list"
 | .dk _,_=>T = "dict"
 | .dt _,_=>T = "dict"
 | .fk _,_=>T = "dict"
 | .ft _,_=>T = "dict"
 | .ref p,M=>(T = "list"/\∃ws,M p=some (.lst ws))\/(T = "dict"/\((∃kvs,M p=some (.dK kvs))\/∃kvs,M p=some (.dT kvs)))
 | _,_=>False
theorem FQ{K:Ac}{H:Hp}{M:Mm}{v:V}{w:W}(am:AM K H M)(av:AV K H M v w)(h:lP T w M):sG K T v H:=by
 cases av with
 | str y=>exact h
 | int i=>exact h
 | rl e n q=>exact .inl ⟨h,_,bN.of e⟩
 | sc e q=>exact .inl ⟨h,_,e.sq⟩
 | dk e n ke q=>exact .inr (.inr (.inl ⟨h,.inl ⟨_,.inl e⟩⟩))
 | dt e n ke q=>exact .inr (.inr (.inl ⟨h,.inr ⟨_,.inl e⟩⟩))
 | ref p=>
  rcases h with⟨e,ws,h⟩|⟨e,h⟩
  .obtain⟨vs,e1,_⟩:=am.lst h;exact .inl ⟨e,vs,bN.of e1⟩
  .refine .inr (.inr (.inl ⟨e,?_⟩));rcases h with⟨kvs,h⟩|⟨kvs,h⟩
   .obtain⟨ks,e1,_⟩:=am _ _ h;exact .inl ⟨ks,.inl e1⟩
   .obtain⟨ks,e1,_⟩:=am _ _ h;exact .inr ⟨ks,.inl e1⟩
 | non=>exact h.elim
 | bl b=>exact h.elim
 | ty n=>exact h.elim
 | tup e q=>exact h.elim
 | fk e ke q=>exact .inr (.inr (.inl ⟨h,.inl ⟨_,.inr ⟨_,e⟩⟩⟩))
 | ft e ke q=>exact .inr (.inr (.inl ⟨h,.inr ⟨_,.inr ⟨_,e⟩⟩⟩))
variable {o:Expr}{to:aZ}{name:Str}{apos cpos:Pos}{rm:W->List W->Mm->K3->Prop}
def tD(T:String)(r:W->List W->Mm->K3->Prop)(to:aZ):aZ:=λτ M R=>to τ M λx M1=>lP T x M1/\r x [] M1 R
def dU(T:String)(r:W->List W->Mm->K3->Prop)(to:aZ)(t:dS):aZ:=λτ M R=>to τ M λx M1=>lP T x M1/\t τ M1 λxs M2=>r x xs M2 R
theorem wZ(pa:PlainAttrs T)(slot:Slot T name id)(hty:typeOf (.builtin id)=pure (.type "method_descriptor"))(hm:jI X id (kR X.K rm))(ho:E3 X o to)(hbase:Iy o name X.env (eval o X.env)=eval o X.env:=by rfl)(hline:(apos.endLine==cpos.line)=true:=by rfl):E3 X (.Call (.Attribute o name apos) [] [] cpos) (tD T rm to):=
 (RQ pa slot hty hm ho hbase hline).weak λZ H Q z0=>z0.el λτ M R as am h k=>⟨τ,M,_,as,am,h,λx H1 wx M1 k1 am1 ax ⟨ty,h1⟩=>⟨FQ am1 ax ty,wx,[],M1,R,am1,ax,.nil,h1,k.kp k1⟩⟩
theorem eR(pa:PlainAttrs T)(slot:Slot T name id)(hty:typeOf (.builtin id)=pure (.type "method_descriptor"))(hm:jI X id (kR X.K rm))(ho:E3 X o to)(ha:A3 X (e::es) t)(hbase:Iy o name X.env (eval o X.env)=eval o X.env:=by rfl)(hfew:((Gf cpos (Be (e::es) X.env)).all (λx=>!x.1)&&(backToKw cpos (Lc [] X.env)).all (λx=>x.1.isSome)
  &&decide ((e::es).length+([]:List Keyword).length+(if ([]:List Keyword).isEmpty then 0 else 1)<30))=true:=by rfl)(hline:(apos.endLine==cpos.line)=true:=by rfl)(hs:Be (e::es) X.env=(false,eval e X.env)::Be es X.env:=by rfl)(hplain:(Gf cpos (Be es X.env)).any (·.1)=false:=by rfl):
  E3 X (.Call (.Attribute o name apos) (e::es) [] cpos) (dU T rm to t):=
 (RS pa slot hty hm ho ha hbase hfew hline hs hplain).weak λZ H Q z0=>z0.el λτ M R as am h k=>⟨τ,M,_,as,am,h,λx H1 wx M1 k1 am1 ax ⟨ty,h1⟩=>⟨FQ am1 ax ty,τ,M1,_,as.kp am k1,am1,h1,λxs H2 ws M2 k2 am2 axs h2=>
  ⟨wx,ws,M2,R,am2,ax.kp am1 k2,axs,h2,(k.kp k1).kp k2⟩⟩⟩
end
section
variable {X:Cx}
theorem lQ{f:Ae->Ae->Sem Ae}{r:R2}{r3:R3}(h0:bG X f r)(h:∀x y H Q M R,AM X.K H M->Up X.K H M R Q->∀wx wy,r3 wx wy M R->AV X.K H M x wx->AV X.K H M y wy->r x y H Q):bG X f (cS X.K r3):=
 λpins s Z H x y v u Q I rx ry ⟨wx,wy,M,R,am,ax,ay,h1,k⟩=>h0 pins s Z H x y v u Q I rx ry (h x y H Q M R am k wx wy h1 ax ay)
theorem UM{r:R2}{r3:R3}(h0:jH X r)(h:∀x y H Q M R,AM X.K H M->Up X.K H M R Q->∀wx wy,r3 wx wy M R->AV X.K H M x wx->AV X.K H M y wy->r x y H Q):jH X (cS X.K r3):=
 λvalue slice pins s Z H x y v u Q I rx ry ⟨wx,wy,M,R,am,ax,ay,h1,k⟩=>h0 value slice pins s Z H x y v u Q I rx ry (h x y H Q M R am k wx wy h1 ax ay)
theorem w4{f:Ae}{r:List V->Hp->VK->Prop}{r3:List W->Mm->K3->Prop}(h0:dR X f r)(h:∀xs H Q M R,AM X.K H M->Up X.K H M R Q->∀ws,r3 ws M R->aM X.K H M xs ws->r xs H Q):dR X f (g9 X.K r3):=
 λpins s Z H xs us Q I rs ⟨ws,M,R,am,ax,h1,k⟩=>h0 pins s Z H xs us Q I rs (h xs H Q M R am k ws h1 ax)
def w5:R3
 | .int i,.int j,M,R=>R (.int (i+j)) M
 | .tup xs,.tup ys,M,R=>xs≠[]/\xs.length+ys.length<=Am/\R (.tup (xs++ys)) M
 | .ref a,.ref b,M,R=>∃xs ys,M a=some (.lst xs)/\M b=some (.lst ys)/\xs.length+ys.length<=Am/\a9 (xs++ys) M R
 | .rl xs,.ref b,M,R=>∃ys,M b=some (.lst ys)/\xs.length+ys.length<=Am/\a9 (xs++ys) M R
 | .ref a,.rl ys,M,R=>∃xs,M a=some (.lst xs)/\xs.length+ys.length<=Am/\a9 (xs++ys) M R
 | .rl xs,.rl ys,M,R=>xs.length+ys.length<=Am/\a9 (xs++ys) M R
 | _,_,_,_=>False
def lR(M:Mm):W->List W->Prop
 | .ref a,ws=>M a=some (.lst ws)
 | .rl ws,zs=>ws=zs
 | _,_=>False
theorem mQ{K:Ac}{H:Hp}{M:Mm}{v:V}{w:W}{ws:List W}(am:AM K H M)(h:AV K H M v w)(e:lR M w ws):∃a xs,v=.ref a/\H a=some (.lst xs)/\aM K H M xs ws:=by
 cases w<;>first|exact(show False from e).elim|skip
 case ref a=>exact am.lstE e λxs f q=>⟨_,_,h.inv,f,q⟩
 case rl zs=>exact h.rlE λa xs e1 f q=>⟨_,_,e1,f,by rw[<-show zs=ws from e];exact q⟩
theorem UN{P:W->W->Prop}{M:Mm}{R:K3}(c1:∀i j,R (.int (i+j)) M->P (.int i) (.int j))(c2:∀xs ys,xs≠[]/\xs.length+ys.length<=Am/\R (.tup (xs++ys)) M->P (.tup xs) (.tup ys))(c3:∀x y xs ys,lR M x xs->lR M y ys->xs.length+ys.length<=Am->a9 (xs++ys) M R->P x y):∀x y,w5 x y M R->P x y:=by
 intro x y h;cases x<;>first|exact(show False from h).elim|(cases y<;>first|exact(show False from h).elim|skip)
 case int.int=>exact c1 _ _ h
 case tup.tup=>exact c2 _ _ h
 case ref.ref=>obtain⟨xs,ys,e,f,l,r⟩:=h;exact c3 _ _ _ _ e f l r
 case rl.ref=>obtain⟨ys,f,l,r⟩:=h;exact c3 _ _ _ _ rfl f l r
 case ref.rl=>obtain⟨xs,e,l,r⟩:=h;exact c3 _ _ _ _ e rfl l r
 case rl.rl=>exact c3 _ _ _ _ rfl rfl h.1 h.2
theorem FR:bG X (Ff .Add) (cS X.K w5):=lQ (OV.or (Q3.or RW)) λx y H Q M R am k=>UN
 (λi j h ax ay=>.inl ⟨i,j,ax.inv,ay.inv,k.at am (.int _) h⟩)
 (λxs ys h ax ay=>ax.tupE λa us e1 f1 q1=>ay.tupE λb vs e2 f2 q2=>.inr (.inl ⟨a,b,us,vs,e1,e2,bW.of f1,bW.of f2,
  λz=>h.1 (Iv.mp (by rw[<-q1.length,z];rfl)),by rw[q1.length,q2.length];exact h.2.1,
  λz=>k.at am (by rw[<-e1];exact ax) (by rw[<-Cm xs,<-Iv.mp (show ys.length=0 by rw[<-q2.length,z];rfl)];exact h.2.2),
  λ_ p hp=>laidT am k hp (q1.append q2) h.2.2⟩))
 (λwx wy xs ys h1 h2 l r ax ay=>.inr (.inr (by
  obtain⟨a,us,e1,f1,q1⟩:=mQ am ax h1;obtain⟨b,vs,e2,f2,q2⟩:=mQ am ay h2;exact⟨a,b,us,vs,e1,e2,f1,f2,by rw[q1.length,q2.length];exact l,λp hp=>iQ am k hp (q1.append q2) r⟩)))
def p5(C:Int->Int->Prop)(g:Int->Int->W):R3
 | .int i,.int j,M,R=>C i j/\R (g i j) M
 | _,_,_,_=>False
theorem UO{C:Int->Int->Prop}{g:Int->Int->W}{P:W->W->Prop}{M:Mm}{R:K3}(c:∀i j,C i j/\R (g i j) M->P (.int i) (.int j))(x y:W)(h:p5 C g x y M R):P x y:=by
 cases x<;>first|exact(show False from h).elim|(cases y<;>first|exact(show False from h).elim|exact c _ _ h)
theorem w6{f:Ae->Ae->Sem Ae}{C:Int->Int->Prop}{g:Int->Int->V}{g':Int->Int->W}(h0:bG X f (rI C g))(hg:∀H M i j,AV X.K H M (g i j) (g' i j)):bG X f (cS X.K (p5 C g')):=
 lQ h0 λx y H Q M R am k=>UO λi j h ax ay=>⟨i,j,ax.inv,ay.inv,h.1,k.at am (hg H M i j) h.2⟩
def nL(g:Int->Int->W):R3
 | .int i,.int j,M,R=>R (g i j) M
 | _,_,_,_=>False
theorem UP{g:Int->Int->W}{P:W->W->Prop}{M:Mm}{R:K3}(c:∀i j,R (g i j) M->P (.int i) (.int j))(x y:W)(h:nL g x y M R):P x y:=by
 cases x<;>first|exact(show False from h).elim|(cases y<;>first|exact(show False from h).elim|exact c _ _ h)
theorem p6{f:Ae->Ae->Sem Ae}{g:Int->Int->V}{g':Int->Int->W}(h0:bG X f (lL g))(hg:∀H M i j,AV X.K H M (g i j) (g' i j)):bG X f (cS X.K (nL g')):=
 lQ h0 λx y H Q M R am k=>UP λi j h ax ay=>⟨i,j,ax.inv,ay.inv,k.at am (hg H M i j) h⟩
abbrev nM:R3:=nL λi j=>.int (i-j)
theorem oK:bG X (Ff .Sub) (cS X.K nM):=p6 OW λ_ _ _ _=>.int _
abbrev f7:R3:=p5 E2 λi j=>.int (i/j)
theorem iS:bG X (Ff .FloorDiv) (cS X.K f7):=w6 TF λ_ _ _ _=>.int _
abbrev fA:R3:=p5 (λ_ j=>0<j) λi j=>.int (i % j)
theorem f9:bG X (Ff .Mod) (cS X.K fA):=w6 OY λ_ _ _ _=>.int _
abbrev w9:R3:=p5 DO λi j=>.int (i ^ j.toNat)
theorem FT:bG X (Ff .Pow) (cS X.K w9):=w6 OZ λ_ _ _ _=>.int _
def FU:R3
 | .int i,.int j,M,R=>(oB i j\/sO i j)/\R (.int (i*j)) M
 | .ref a,.int n,M,R=>∃xs,M a=some (.lst xs)/\-(2 ^ 63)<=n/\n<2 ^ 63/\xs.length*n.toNat<=Am/\a9 (Bw n.toNat xs).flatten M R
 | .rl xs,.int n,M,R=>-(2 ^ 63)<=n/\n<2 ^ 63/\xs.length*n.toNat<=Am/\a9 (Bw n.toNat xs).flatten M R
 | _,_,_,_=>False
theorem UQ{P:W->W->Prop}{M:Mm}{R:K3}(c1:∀i j,(oB i j\/sO i j)/\R (.int (i*j)) M->P (.int i) (.int j))(c3:∀x n xs,lR M x xs->-(2 ^ 63)<=n/\n<2 ^ 63/\xs.length*n.toNat<=Am/\a9 (Bw n.toNat xs).flatten M R->P x (.int n)):∀x y,FU x y M R->P x y:=by
 intro x y h;cases x<;>first|exact(show False from h).elim|(cases y<;>first|exact(show False from h).elim|skip)
 case int.int=>exact c1 _ _ h
 case ref.int=>obtain⟨xs,e,h⟩:=h;exact c3 _ _ _ e h
 case rl.int=>exact c3 _ _ _ rfl h
theorem UR:bG X (Ff .Mult) (cS X.K FU):=lQ (OX.or (TC.or RZ)) λx y H Q M R am k=>UQ
 (λi j h ax ay=>h.1.elim (λz=>.inl ⟨i,j,ax.inv,ay.inv,z,k.at am (.int _) h.2⟩) λz=>.inr (.inl ⟨i,j,ax.inv,ay.inv,z,k.at am (.int _) h.2⟩))
 (λwx n xs h1 h ax ay=>.inr (.inr (by
  obtain⟨a,us,e1,f1,q1⟩:=mQ am ax h1;exact⟨a,n,us,e1,ay.inv,f1,h.1,h.2.1,by rw[q1.length];exact h.2.2.1,λp hp=>iQ am k hp (q1.flatRep _) h.2.2.2⟩)))
def jZ:W->Mm->K3->Prop
 | .int i,M,R=>R (.int (-i)) M
 | _,_,_=>False
theorem kU:pP X (unaryOp .USub) (FI X.K jZ):=by
 rintro pins s Z H x v Q I rx ⟨wx,M,R,am,ax,h,k⟩;cases wx<;>first|exact(show False from h).elim|skip
 case int i=>exact O3 pins s Z H _ v Q I rx ⟨i,ax.inv,k.at am (.int _) h⟩
def nN:R3:=nL λi j=>.bl (decide (i<j))
theorem p7:bG X (Cb .Lt) (cS X.K nN):=p6 O7 λ_ _ _ _=>.bl _
abbrev FV:R3:=nL λi j=>.bl (decide (i<=j))
theorem US:bG X (Cb .LtE) (cS X.K FV):=p6 O8 λ_ _ _ _=>.bl _
abbrev FX:R3:=nL λi j=>.bl (decide (j<i))
theorem UT:bG X (Cb .Gt) (cS X.K FX):=p6 O9 λ_ _ _ _=>.bl _
abbrev xA:R3:=nL λi j=>.bl (decide (j<=i))
theorem FY:bG X (Cb .GtE) (cS X.K xA):=p6 PB λ_ _ _ _=>.bl _
def isNon:W->Bool
 | .non=>true
 | _=>false
def tE(neg:Bool):R3
 | x,.non,M,R=>R (.bl (if neg then !isNon x else isNon x)) M
 | _,_,_,_=>False
theorem AV.isNon{K:Ac}{H:Hp}{M:Mm}{v:V}{w:W}(h:AV K H M v w):decide (v=.non)=L3.isNon w:=by cases h<;>rfl
theorem UU{n:Bool}{P:W->W->Prop}{M:Mm}{R:K3}(c:∀x,R (.bl (if n then !isNon x else isNon x)) M->P x .non)(x y:W)(h:tE n x y M R):P x y:=by
 cases y<;>first|exact(show False from h).elim|exact c _ h
theorem FZ:bG X (Cb .Is) (cS X.K (tE false)):=lQ PD λx y H Q M R am k=>UU λw h ax ay=>⟨ay.inv,by rw[ax.isNon];exact k.at am (.bl _) h⟩
mutual
inductive Snap(M:Mm):W->Ku->Prop
 | non:Snap M .non .none
 | bl (b:Bool):Snap M (.bl b) (.bool b)
 | int (i:Int):Snap M (.int i) (.int i)
 | str (x:Str):Snap M (.str x) (.str x)
 | tup {ws:List W} {ds:List Ku}:i4 M ws ds->Snap M (.tup ws) (.tuple ds)
 | rl {ws:List W} {ds:List Ku}:i4 M ws ds->Snap M (.rl ws) (.list ds)
 | ref {a:Addr} {ws:List W} {ds:List Ku}:M a=some (.lst ws)->i4 M ws ds->Snap M (.ref a) (.list ds)
inductive i4(M:Mm):List W->List Ku->Prop
 | nil:i4 M [] []
 | cons {w:W} {ws:List W} {d:Ku} {ds:List Ku}:Snap M w d->i4 M ws ds->i4 M (w::ws) (d::ds)
end
section
variable {pins:List (Addr×Obj)}{Z:SV}{H:Hp}{s:Ag}{M:Mm}
theorem i4.reads(I:Inv X pins Z H s)(am:AM X.K H M){ws:List W}{ds:List Ku}(h:i4 M ws ds):∀{vs:List V} {us:List Ae},aM X.K H M vs ws->a8 vs us->∃as,ReadsAll s.heap us ds as:=
 i4.rec (motive_1:=λw d _=>∀{v:V} {u:Ae},AV X.K H M v w->RelV v u->∃as,Reads s.heap u d as) (motive_2:=λws ds _=>∀{vs:List V} {us:List Ae},aM X.K H M vs ws->a8 vs us->∃as,ReadsAll s.heap us ds as)
  (λav r=>by rw[show _=_ from av.inv]at r;rw[show _=_ from r];exact⟨_,.none⟩)
  (λb _ _ av r=>by rw[show _=_ from av.inv]at r;rw[show _=_ from r];exact⟨_,.bool b⟩)
  (λi _ _ av r=>by rw[show _=_ from av.inv]at r;exact r.elim λt r=>by rw[r];exact⟨_,.int i t⟩)
  (λx _ _ av r=>by rw[show _=_ from av.inv]at r;exact r.elim λt r=>by rw[r];exact⟨_,.str x t⟩)
  (λ_ ih _ _ av r=>av.tupE λa xs e f q=>by
   rw[e]at r;rw[show _=_ from r];obtain⟨its,rv,⟨o,e1,e2,n,e3⟩,_⟩:=I.tuple (bW.of f);exact(ih q rv).elim λas z=>⟨_,.tuple e1 e2 e3 (by simpa using z)⟩)
  (λ_ ih _ _ av r=>av.rlE λa xs e f q=>by
   rw[e]at r;rw[show _=_ from r];obtain⟨its,rv,pl,_⟩:=I.list (bN.of f);obtain⟨o,e1,e2,n,e3⟩:=pl.isList;exact(ih q rv).elim λas z=>⟨_,.list e1 e2 e3 (by simpa using z)⟩)
  (λe0 _ ih _ _ av r=>am.lstE e0 λvs f q=>by
   rw[show _=_ from av.inv]at r;rw[show _=_ from r];obtain⟨its,rv,pl,_⟩:=I.list (bN.of f);obtain⟨o,e1,e2,n,e3⟩:=pl.isList;exact(ih q rv).elim λas z=>⟨_,.list e1 e2 e3 (by simpa using z)⟩)
  (λav r=>by cases av;cases r;exact⟨_,.nil⟩)
  (λ_ _ ih1 ih2 _ _ av r=>by
   cases av with
   | cons a b=>
    cases r with
    | cons r1 r2=>exact(ih1 a r1).elim λx q1=>(ih2 b r2).elim λy q2=>⟨_,.cons q1 q2⟩) h
theorem Snap.reads(I:Inv X pins Z H s)(am:AM X.K H M){w:W}{d:Ku}{v:V}{u:Ae}(h:Snap M w d)(av:AV X.K H M v w)(r:RelV v u):∃as,Reads s.heap u d as:=
 (i4.reads I am (.cons h .nil) (.cons av .nil) (.cons r .nil)).elim λ_ z=>by
  cases z with
  | cons q _=>exact⟨_,q⟩
end
def p8(neg:Bool):R3:=λx y M R=>∃da db,Snap M x da/\Snap M y db/\E9 da/\E9 db/\R (.bl (if neg then !PyData.eqv da db else Ij da db)) M
def rEq(neg:Bool):R3
 | .int i,.int j,M,R=>R (.bl (if neg then !decide (i=j) else decide (i=j))) M
 | .str i,.str j,M,R=>R (.bl (if neg then !decide (i=j) else decide (i=j))) M
 | .bl i,.bl j,M,R=>R (.bl (if neg then !decide (i=j) else decide (i=j))) M
 | x,y,M,R=>p8 neg x y M R
theorem F0{i j:Int}:decide (V.int i=V.int j)=decide (i=j):=by rw[Du];simp
theorem F5{i j:Str}:decide (V.str i=V.str j)=decide (i=j):=by rw[Du];simp
theorem F6{i j:Bool}:decide (V.bl i=V.bl j)=decide (i=j):=by rw[Du];simp
theorem F7{n:Bool}{P:W->W->Prop}{M:Mm}{R:K3}(c1:∀i j,R (.bl (if n then !decide (i=j) else decide (i=j))) M->P (.int i) (.int j))(c2:∀i j,R (.bl (if n then !decide (i=j) else decide (i=j))) M->P (.str i) (.str j))(c3:∀i j,R (.bl (if n then !decide (i=j) else decide (i=j))) M->P (.bl i) (.bl j))(c4:∀x y,p8 n x y M R->P x y)(x y:W)(h:rEq n x y M R):P x y:=by
 cases x<;>first|exact c4 _ _ h|(cases y<;>first|exact c1 _ _ h|exact c2 _ _ h|exact c3 _ _ h|exact c4 _ _ h)
theorem sV{i j:V}{x y:V}(e:x=i)(f:y=j)(h:sC i j=true):sC x y=true:=by rw[e,f];exact h
theorem dV{i j:V}{x y:V}{b:Bool}{Q:Bool->Prop}(e:x=i)(f:y=j)(h:decide (i=j)=b)(q:Q b):Q (decide (x=y)):=by rw[e,f,h];exact q
theorem UW(hu:X.A.units+64<Fm):bG X (Cb .Eq) (cS X.K (p8 false)):=by
 rintro pins s Z H x y v u Q I rx ry ⟨wx,wy,M,R,am,ax,ay,⟨da,db,ha,hb,fa,fb,q⟩,k⟩;obtain⟨as,ra⟩:=ha.reads I am ax rx;obtain⟨bs,rb⟩:=hb.reads I am ay ry;exact SeqAt.compareEq_reads ra rb fa.1 fb.1 (Kj (Mf (Au (Ha _ _) (Au fa.2 (by decide))) _) hu) ⟨.bl _,H,I,rfl,k.at am (.bl _) q⟩
theorem UX(hu:X.A.units+64<Fm):bG X (Cb .NotEq) (cS X.K (p8 true)):=by
 rintro pins s Z H x y v u Q I rx ry ⟨wx,wy,M,R,am,ax,ay,⟨da,db,ha,hb,fa,fb,q⟩,k⟩;obtain⟨as,ra⟩:=ha.reads I am ax rx;obtain⟨bs,rb⟩:=hb.reads I am ay ry;exact SeqAt.compareNe_reads ra rb fa.1 fb.1 (Kj (Mf (Au (Ha _ _) (Au fa.2 (by decide))) _) hu) ⟨.bl _,H,I,rfl,k.at am (.bl _) q⟩
theorem iT(hu:X.A.units+64<Fm):bG X (Cb .Eq) (cS X.K (rEq false)):=lQ (O5.or (UW hu)) λx y H Q M R am k=>F7
 (λi j h ax ay=>.inl ⟨sV ax.inv ay.inv rfl,dV (Q:=λb=>Q (.bl b) H) ax.inv ay.inv F0 (k.at am (.bl _) h)⟩)
 (λi j h ax ay=>.inl ⟨sV ax.inv ay.inv rfl,dV (Q:=λb=>Q (.bl b) H) ax.inv ay.inv F5 (k.at am (.bl _) h)⟩)
 (λi j h ax ay=>.inl ⟨sV ax.inv ay.inv rfl,dV (Q:=λb=>Q (.bl b) H) ax.inv ay.inv F6 (k.at am (.bl _) h)⟩)
 (λwx wy h ax ay=>.inr ⟨wx,wy,M,R,am,ax,ay,h,k⟩)
theorem gQ(hu:X.A.units+64<Fm):bG X (Cb .NotEq) (cS X.K (rEq true)):=lQ (O6.or (UX hu)) λx y H Q M R am k=>F7
 (λi j h ax ay=>.inl ⟨sV ax.inv ay.inv rfl,dV (Q:=λb=>Q (.bl !b) H) ax.inv ay.inv F0 (k.at am (.bl _) h)⟩)
 (λi j h ax ay=>.inl ⟨sV ax.inv ay.inv rfl,dV (Q:=λb=>Q (.bl !b) H) ax.inv ay.inv F5 (k.at am (.bl _) h)⟩)
 (λi j h ax ay=>.inl ⟨sV ax.inv ay.inv rfl,dV (Q:=λb=>Q (.bl !b) H) ax.inv ay.inv F6 (k.at am (.bl _) h)⟩)
 (λwx wy h ax ay=>.inr ⟨wx,wy,M,R,am,ax,ay,h,k⟩)
def wK:aK->W
 | .inl i=>.int i
 | .inr x=>.str x
def bJ{U:Type}[DecidableEq U](kvs:List (U×W))(k:U):Option W:=(kvs.find? λkv=>decide (kv.1=k)).map (·.2)
def cT{U:Type}[DecidableEq U](kvs:List (U×W))(k:U)(v:W):List (U×W):=
 if (kvs.any λkv=>decide (kv.1=k))=true then kvs.map (λkv=>if kv.1=k then(kv.1,v) else kv) else kvs++[(k,v)]
theorem AV.key{K:Ac}{H:Hp}{M:Mm}{v:V}{k:aK}(h:AV K H M v (wK k)):v=kV k:=by
 cases k<;>exact h.inv
theorem aM.keys{K:Ac}{H:Hp}{M:Mm}:∀{vs:List V} {k:List aK},aM K H M vs (k.map wK)->vs=k.map kV
 | _,[],h=>by cases h;rfl
 | _,a::r,h=>by
  cases h with
  | cons x y=>rw[x.key,aM.keys y];rfl
section
variable {U:Type}[DecidableEq U]{K:Ac}{H:Hp}{M:Mm}
theorem tF{ks:List (U×V)}{kvs:List (U×W)}(h:cD K H M U ks kvs)(k:U):(bJ kvs k=none/\gH ks k=none)\/∃v w,bJ kvs k=some w/\gH ks k=some v/\AV K H M v w:=by
 induction h with
 | nil=>exact .inl ⟨rfl,rfl⟩
 | @cons p q ps qs r t ih=>
  by_cases e:p.1=k
  .refine .inr ⟨p.2,q.2,?_,?_,r.2⟩
   .unfold bJ;rw[Fe,decide_eq_true (by rw[<-r.1];exact e)];rfl
   .exact sI e
  .have e2:¬q.1=k:=by rw[<-r.1];exact e
   have l:bJ (q::qs) k=bJ qs k:=by unfold bJ;rw[Fe,decide_eq_false e2]
   rw[l,sJ e];exact ih
theorem UY{ks:List (U×V)}{kvs:List (U×W)}(h:cD K H M U ks kvs)(k:U):(ks.any λkv=>decide (kv.1=k))=(kvs.any λkv=>decide (kv.1=k)):=by
 induction h with
 | nil=>rfl
 | cons r t ih=>rw[Fs,Fs,ih,r.1]
theorem UZ{ks:List (U×V)}{kvs:List (U×W)}{v:V}{w:W}{k:U}(av:AV K H M v w)(h:cD K H M U ks kvs):cD K H M U (ks.map (λkv=>if kv.1=k then(kv.1,v) else kv)) (kvs.map (λkv=>if kv.1=k then(kv.1,w) else kv)):=by
 induction h with
 | nil=>exact .nil
 | @cons p q ps qs r t ih=>
  rw[Bd,Bd];refine .cons ?_ ih
  by_cases e:p.1=k
  .rw[if_pos e,if_pos (by rw[<-r.1];exact e)];exact⟨r.1,av⟩
  .rw[if_neg e,if_neg (by rw[<-r.1];exact e)];exact r
theorem U0{ks:List (U×V)}{kvs:List (U×W)}{v:V}{w:W}{k:U}(av:AV K H M v w)(h:cD K H M U ks kvs):cD K H M U (ks++[(k,v)]) (kvs++[(k,w)]):=by
 induction h with
 | nil=>exact .cons ⟨rfl,av⟩ .nil
 | cons r t ih=>exact .cons r ih
theorem xB{ks:List (U×V)}{kvs:List (U×W)}{v:V}{w:W}(h:cD K H M U ks kvs)(k:U)(av:AV K H M v w):cD K H M U (fU ks k v) (cT kvs k w):=by
 unfold fU cT;rw[UY h k];split
 .exact UZ av h
 .exact U0 av h
end
def fL(M:Mm):W->W->Option W->Prop
 | .ref a,y,o=>(∃kvs k,M a=some (.dK kvs)/\y=wK k/\o=bJ kvs k)\/∃kvs k,M a=some (.dT kvs)/\y=.tup (k.map wK)/\o=bJ kvs k
 | .dk kvs,y,o=>∃k,y=wK k/\o=bJ kvs k
 | .dt kvs,y,o=>∃k,y=.tup (k.map wK)/\o=bJ kvs k
 | .fk kvs,y,o=>∃k,y=wK k/\o=bJ kvs k
 | .ft kvs,y,o=>∃k,y=.tup (k.map wK)/\o=bJ kvs k
 | _,_,_=>False
theorem xC{K:Ac}{H:Hp}{M:Mm}{a:Addr}{y:V}{k:aK}{ks:List (aK×V)}{kvs:List (aK×W)}(e1:Rd H a (.dK ks))(q:cD K H M aK ks kvs)(ay:AV K H M y (wK k)):(bJ kvs k=none/\iF H a y none)\/∃v w,bJ kvs k=some w/\iF H a y (some v)/\AV K H M v w:=by
 rw[ay.key];rcases tF q k with⟨l1,l2⟩|⟨v,w,l1,l2,av⟩
 .exact .inl ⟨l1,by rw[<-l2];exact .inl ⟨_,_,e1,rfl,rfl⟩⟩
 .exact .inr ⟨v,w,l1,by rw[<-l2];exact .inl ⟨_,_,e1,rfl,rfl⟩,av⟩
theorem xD{K:Ac}{H:Hp}{M:Mm}{a:Addr}{y:V}{k:List aK}{ks:List (List aK×V)}{kvs:List (List aK×W)}(e1:Rd H a (.dT ks))(q:cD K H M (List aK) ks kvs)(ay:AV K H M y (.tup (k.map wK))):(bJ kvs k=none/\iF H a y none)\/∃v w,bJ kvs k=some w/\iF H a y (some v)/\AV K H M v w:=
 ay.tupE λb xs e eb qb=>by
  rw[qb.keys]at eb;rcases tF q k with⟨l1,l2⟩|⟨v,w,l1,l2,av⟩
  .exact .inl ⟨l1,by rw[<-l2];exact .inr ⟨_,_,_,e1,e,eb,rfl⟩⟩
  .exact .inr ⟨v,w,l1,by rw[<-l2];exact .inr ⟨_,_,_,e1,e,eb,rfl⟩,av⟩
theorem tG{K:Ac}{H:Hp}{M:Mm}{x y:V}{wx wy:W}{o:Option W}(am:AM K H M)(ax:AV K H M x wx)(ay:AV K H M y wy)(h:fL M wx wy o):∃a,x=.ref a/\((o=none/\iF H a y none)\/∃v w,o=some w/\iF H a y (some v)/\AV K H M v w):=by
 cases wx<;>first|exact(show False from h).elim|skip
 case ref a=>
  rcases h with⟨kvs,k,e,rfl,rfl⟩|⟨kvs,k,e,rfl,rfl⟩
  .obtain⟨ks,e1,q⟩:=am _ _ e;exact⟨a,ax.inv,xC (.inl e1) q ay⟩
  .obtain⟨ks,e1,q⟩:=am _ _ e;exact⟨a,ax.inv,xD (.inl e1) q ay⟩
 all_goals
  obtain⟨k,rfl,rfl⟩:=h;have ax:=ax.inv
 case dk=>obtain⟨a,ks,e,f,_,q⟩:=ax;exact⟨a,e,xC (.inl f) q ay⟩
 case dt=>obtain⟨a,ks,e,f,_,q⟩:=ax;exact⟨a,e,xD (.inl f) q ay⟩
 case fk=>obtain⟨a,ks,e,f,q⟩:=ax;exact⟨a,e,xC (.inr f) q ay⟩
 case ft=>obtain⟨a,ks,e,f,q⟩:=ax;exact⟨a,e,xD (.inr f) q ay⟩
def aV:R3
 | .tup ws,.int i,M,R=>∃w,cJ ws i=some w/\R w M
 | .rl ws,.int i,M,R=>∃w,cJ ws i=some w/\R w M
 | .sc ws,.int i,M,R=>∃w,cJ ws i=some w/\R w M
 | .dk kvs,y,M,R=>∃w,fL M (.dk kvs) y (some w)/\R w M
 | .dt kvs,y,M,R=>∃w,fL M (.dt kvs) y (some w)/\R w M
 | .fk kvs,y,M,R=>∃w,fL M (.fk kvs) y (some w)/\R w M
 | .ft kvs,y,M,R=>∃w,fL M (.ft kvs) y (some w)/\R w M
 | .str z,.int i,M,R=>z.length<=Am/\∃c,cJ z.cps.toList i=some c/\R (.str ⟨#[c]⟩) M
 | .ref a,.int i,M,R=>(∃ws w,M a=some (.lst ws)/\cJ ws i=some w/\R w M)\/∃w,fL M (.ref a) (.int i) (some w)/\R w M
 | .ref a,y,M,R=>∃w,fL M (.ref a) y (some w)/\R w M
 | _,_,_,_=>False
theorem xE{K:Ac}{H:Hp}{M:Mm}{vs:List V}{ws:List W}{i:Int}{w:W}(q:aM K H M vs ws)(h:cJ ws i=some w):∃v,cJ vs i=some v/\AV K H M v w:=by
 unfold cJ at h⊢;rw[q.length];cases e:iD ws.length i with
 | none=>rw[e]at h;cases h
 | some j=>
  rw[e]at h;exact q.getW (i:=j) h
theorem U1(hu:X.A.units+1<Fm):jH X (λx y H Q=>∃a v,x=.ref a/\iF H a y (some v)/\Q v H):=by
 intro value slice pins s Z H x y v u Q I rx ry h hs;obtain⟨a,z,rfl,g,q⟩:=h;cases rx;exact tail_any (SA I g) PySem.F.slot_dict_getitem.lookup (R4 hu I g ry λw' s3 I3 rw'=>⟨z,H,I3,rw',q⟩) hs
theorem U2{P:W->W->Prop}{M:Mm}{R:K3}(c1:∀ws i w,cJ ws i=some w->R w M->P (.tup ws) (.int i))(c2:∀ws i w,cJ ws i=some w->R w M->P (.sc ws) (.int i))(c3:∀x ws i w,lR M x ws->cJ ws i=some w->R w M->P x (.int i))(c4:∀z i,z.length<=Am/\(∃c,cJ z.cps.toList i=some c/\R (.str ⟨#[c]⟩) M)->P (.str z) (.int i))(c5:∀x y w,fL M x y (some w)->R w M->P x y)(x y:W)(h:aV x y M R):P x y:=by
 cases x
 case non|bl|int|ty=>exact(show False from h).elim
 case dk|dt|fk|ft=>exact h.elim λw h=>c5 _ _ _ h.1 h.2
 all_goals cases y<;>first|exact(show False from h).elim|skip
 case tup.int=>obtain⟨w,e,r⟩:=h;exact c1 _ _ _ e r
 case sc.int=>obtain⟨w,e,r⟩:=h;exact c2 _ _ _ e r
 case rl.int=>obtain⟨w,e,r⟩:=h;exact c3 _ _ _ _ rfl e r
 case str.int=>exact c4 _ _ h
 case ref.int=>exact h.elim (λ⟨ws,w,e,e2,r⟩=>c3 _ _ _ _ e e2 r) λ⟨w,e,r⟩=>c5 _ _ _ e r
 all_goals obtain⟨w,e,r⟩:=h;exact c5 _ _ _ e r
theorem U3(hu:X.A.units+1<Fm):jH X (cS X.K aV):=UM (Q8.or (Q9.or (RA.or (U1 hu)))) λx y H Q M R am k=>U2
 (λws i w h r ax ay=>ax.tupE λa xs e f q=>let ⟨z,e3,av⟩:=xE q h;.inr (.inl ⟨a,xs,i,z,e,ay.inv,bW.of f,e3,k.at am av r⟩))
 (λws i w h r ax ay=>ax.scE λa xs e f q=>let ⟨z,e3,av⟩:=xE q h;.inl ⟨a,xs,i,z,e,ay.inv,f.sq,e3,k.at am av r⟩)
 (λwx ws i w h1 h r ax ay=>let ⟨a,xs,e,f,q⟩:=mQ am ax h1;let ⟨z,e3,av⟩:=xE q h;.inl ⟨a,xs,i,z,e,ay.inv,bN.of f,e3,k.at am av r⟩)
 (λz i h ax ay=>let ⟨c,e,r⟩:=h.2;.inr (.inr (.inl ⟨z,i,c,ax.inv,ay.inv,h.1,e,k.at am (.str _) r⟩)))
 (λwx wy w g r ax ay=>.inr (.inr (.inr (by
  obtain⟨a,e,g⟩:=tG am ax ay g;rcases g with⟨z,_⟩|⟨z,w',e',g',av⟩
  .cases z
  .exact⟨a,z,e,g',k.at am av (by rw[<-Cj e'];exact r)⟩))))
variable {a b:Expr}{ta tb:aZ}{pos:Pos}
theorem aS(hu:X.A.units+1<Fm)(ha:E3 X a ta)(hb:E3 X b tb)(hs:EJ b:=by exact λ_ _=>rfl):E3 X (.Subscript a b pos) (aD aV ta tb):=(Q4 (U3 hu) ha hb hs).weak λ_ _ _ h=>sY h
def eX(ws:List W)(lo hi:Option Int):List W:=(ws.drop (HT.sIx ws.length 0 lo)).take (HT.sIx ws.length ws.length hi-HT.sIx ws.length 0 lo)
def F8:W->Option Int->Option Int->Mm->K3->Prop
 | .rl ws,lo,hi,M,R=>a9 (eX ws lo hi) M R
 | .sc ws,lo,hi,M,R=>a9 (eX ws lo hi) M R
 | .ref a,lo,hi,M,R=>∃ws,M a=some (.lst ws)/\a9 (eX ws lo hi) M R
 | .tup ws,lo,hi,M,R=>¬(HT.sIx ws.length 0 lo=0/\HT.sIx ws.length ws.length hi=ws.length)/\R (.tup (eX ws lo hi)) M
 | _,_,_,_,_=>False
theorem tH{K:Ac}{H:Hp}{M:Mm}{vs:List V}{ws:List W}{lo hi:Option Int}(q:aM K H M vs ws):aM K H M (mG vs lo hi) (eX ws lo hi):=by
 unfold mG eX;rw[q.length];exact(q.drop _).take _
def U4(K:Ac)(r:W->Option Int->Option Int->Mm->K3->Prop):V->Option Int->Option Int->Hp->VK->Prop:=λx lo hi H Q=>∃wx M R,AM K H M/\AV K H M x wx/\r wx lo hi M R/\Up K H M R Q
theorem U5:sF X (U4 X.K F8):=by
 rintro pins s Z H x v vl vu lo hi sl Q I rx hs pl pu ⟨wx,M,R,am,ax,h,k⟩;cases wx<;>first|exact(show False from h).elim|skip
 case tup ws=>exact ax.tupE λa xs e f q=>Q1 pins s Z H _ v vl vu lo hi sl Q I rx hs pl pu ⟨a,xs,e,bW.of f,by rw[q.length];exact h.1,λp hp=>laidT am k hp (tH q) h.2⟩
 case sc ws=>exact ax.scE λa xs e f q=>v8 pins s Z H _ v vl vu lo hi sl Q I rx hs pl pu ⟨a,xs,e,f.sq,λp hp=>iQ am k hp (tH q) h⟩
 case rl ws=>exact ax.rlE λa xs e f q=>v8 pins s Z H _ v vl vu lo hi sl Q I rx hs pl pu ⟨a,xs,e,bN.of f,λp hp=>iQ am k hp (tH q) h⟩
 case ref a=>
  obtain⟨ws,e,r⟩:=h;exact am.lstE e λvs f q=>v8 pins s Z H _ v vl vu lo hi sl Q I rx hs pl pu ⟨a,vs,ax.inv,bN.of f,λp hp=>iQ am k hp (tH q) r⟩
abbrev oM:=S3->Mm->(Option Int->Mm->Prop)->Prop
def oN(K:Ac)(t:oM):TO:=λZ H Q=>∃(τ:S3) (M:Mm) (R:Option Int->Mm->Prop),AS K H M Z τ/\AM K H M/\t τ M R/\∀o H' M',Kp H M H' M'->AM K H' M'->R o M'->Q o H'
theorem oN.el{K:Ac}{H:Hp}{Z:SV}{C:Prop}{t:oM}{Q:Option Int->Hp->Prop}(h:oN K t Z H Q)(c:∀τ M R,AS K H M Z τ->AM K H M->t τ M R->(∀o H' M',Kp H M H' M'->AM K H' M'->R o M'->Q o H')->C):C:=by obtain⟨τ,M,R,a,b,h,k⟩:=h;exact c τ M R a b h k
def jL:oM:=λ_ M Q=>Q none M
def iU(t:aZ):oM:=λτ M Q=>t τ M λx M1=>∃i,x=.int i/\Q (some i) M1
theorem lS:PO X none (oN X.K jL):=QW.weak λZ H Q z0=>z0.el λτ M R as am h k=>k none H M (Kp.refl am) am h
theorem i5(h:E3 X a ta):PO X (some a) (oN X.K (iU ta)):=(QX h).weak λZ H Q z0=>z0.el λτ M R as am h k=>⟨τ,M,_,as,am,h,λx H1 wx M1 k1 am1 ax ⟨i,e,h1⟩=>by
 subst e;exact⟨i,ax.inv,k _ _ _ k1 am1 h1⟩⟩
def fS:W->Bool
 | .non=>true
 | .bl _=>true
 | .int _=>true
 | .str _=>true
 | _=>false
def xF:W->W->Bool
 | .non,.non=>true
 | .bl a,.bl b=>a==b
 | .bl a,.int b=>(if a then 1 else 0)==b
 | .int a,.bl b=>a==(if b then 1 else 0)
 | .int a,.int b=>a==b
 | .str a,.str b=>a==b
 | _,_=>false
def inW(x:W)(ws:List W):Bool:=ws.any λy=>xF y x
theorem AV.flat{K:Ac}{H:Hp}{M:Mm}{v:V}{w:W}(h:AV K H M v w)(f:fS w=true):kM v=true:=by cases h<;>first|rfl|exact f
def xG:W->V
 | .non=>.non
 | .bl b=>.bl b
 | .int i=>.int i
 | .str x=>.str x
 | _=>.non
theorem AV.flv{K:Ac}{H:Hp}{M:Mm}{v:V}{w:W}(h:AV K H M v w)(f:fS w=true):v=xG w:=by
 cases w<;>first|exact h.inv|exact absurd f Av
theorem U6:∀{w z:W},fS w=true->fS z=true->kN (xG w) (xG z)=xF w z:=by
 intro w z f g;cases w<;>first|exact absurd f Av|(cases z<;>first|rfl|exact absurd g Av)
theorem AV.eq{K:Ac}{H:Hp}{M:Mm}{v u:V}{w z:W}(h:AV K H M v w)(h2:AV K H M u z)(f:fS w=true)(f2:fS z=true):kN v u=xF w z:=by
 rw[h.flv f,h2.flv f2];exact U6 f f2
theorem aM.inn{K:Ac}{H:Hp}{M:Mm}{u:V}{z:W}(hz:AV K H M u z)(fz:fS z=true):∀{vs:List V} {ws:List W},aM K H M vs ws->ws.all fS=true->vs.all kM=true/\inV u vs=inW z ws
 | _,_,.nil,_=>⟨rfl,rfl⟩
 | _,_,.cons x r,f=>by
  rw[Jo,Cr]at f;obtain⟨h1,h2⟩:=aM.inn hz fz r f.2;refine⟨by rw[Jo,x.flat f.1,h1];rfl,?_⟩;unfold inV inW at h2⊢;rw[Fs,Fs,h2,x.eq hz f.1 fz]
def occ(i j:Str):Bool:=!(Kd j i 0 j.length 1).isEmpty
def rIn(neg:Bool):R3
 | .str i,.str j,M,R=>R (.bl (if neg then !occ i j else occ i j)) M
 | x,.tup ws,M,R=>fS x=true/\ws.all fS=true/\R (.bl (if neg then !inW x ws else inW x ws)) M
 | x,.rl ws,M,R=>fS x=true/\ws.all fS=true/\R (.bl (if neg then !inW x ws else inW x ws)) M
 | x,.ref a,M,R=>(∃ws,M a=some (.lst ws)/\fS x=true/\ws.all fS=true/\R (.bl (if neg then !inW x ws else inW x ws)) M)\/∃o,fL M (.ref a) x o/\R (.bl (if neg then !o.isSome else o.isSome)) M
 | x,.dk kvs,M,R=>∃o,fL M (.dk kvs) x o/\R (.bl (if neg then !o.isSome else o.isSome)) M
 | x,.dt kvs,M,R=>∃o,fL M (.dt kvs) x o/\R (.bl (if neg then !o.isSome else o.isSome)) M
 | x,.fk kvs,M,R=>∃o,fL M (.fk kvs) x o/\R (.bl (if neg then !o.isSome else o.isSome)) M
 | x,.ft kvs,M,R=>∃o,fL M (.ft kvs) x o/\R (.bl (if neg then !o.isSome else o.isSome)) M
 | _,_,_,_=>False
def F9(M:Mm):W->List W->Prop
 | .tup ws,zs=>ws=zs
 | x,ws=>lR M x ws
theorem GA{K:Ac}{H:Hp}{M:Mm}{v:V}{w:W}{ws:List W}(am:AM K H M)(h:AV K H M v w)(e:F9 M w ws):∃a xs,v=.ref a/\(bN K H a xs\/bW K H a xs)/\aM K H M xs ws:=by
 cases w
 case tup zs=>exact h.tupE λa xs e1 f q=>⟨_,_,e1,.inr (bW.of f),by rw[<-show zs=ws from e];exact q⟩
 case ref|rl=>obtain⟨a,xs,e1,f,q⟩:=mQ am h e;exact⟨a,xs,e1,.inl (bN.of f),q⟩
 all_goals exact(show False from e).elim
theorem GB{n:Bool}{P:W->W->Prop}{M:Mm}{R:K3}(c1:∀i j,R (.bl (if n then !occ i j else occ i j)) M->P (.str i) (.str j))(c2:∀x y ws,F9 M y ws->fS x=true/\ws.all fS=true/\R (.bl (if n then !inW x ws else inW x ws)) M->P x y)(c3:∀x y o,fL M y x o->R (.bl (if n then !o.isSome else o.isSome)) M->P x y)(x y:W)(h:rIn n x y M R):P x y:=by
 cases y
 case non|bl|int|ty|sc=>exfalso;cases x<;>exact h
 case str=>cases x<;>first|exact(show False from h).elim|exact c1 _ _ h
 case tup=>exact c2 _ _ _ rfl (by cases x<;>exact h)
 case rl=>exact c2 _ _ _ rfl (by cases x<;>exact h)
 case ref a=>
  have h:(∃ws,M a=some (.lst ws)/\fS x=true/\ws.all fS=true/\R (.bl (if n then !inW x ws else inW x ws)) M)\/∃o,fL M (.ref a) x o/\R (.bl (if n then !o.isSome else o.isSome)) M:=by cases x<;>exact h
  exact h.elim (λ⟨ws,e,h⟩=>c2 _ _ _ e h) λ⟨o,g,r⟩=>c3 _ _ _ g r
 case dk kvs=>have h:∃o,fL M (.dk kvs) x o/\R (.bl (if n then !o.isSome else o.isSome)) M:=(by cases x<;>exact h);exact h.elim λo h=>c3 _ _ _ h.1 h.2
 case dt kvs=>have h:∃o,fL M (.dt kvs) x o/\R (.bl (if n then !o.isSome else o.isSome)) M:=(by cases x<;>exact h);exact h.elim λo h=>c3 _ _ _ h.1 h.2
 case fk kvs=>have h:∃o,fL M (.fk kvs) x o/\R (.bl (if n then !o.isSome else o.isSome)) M:=(by cases x<;>exact h);exact h.elim λo h=>c3 _ _ _ h.1 h.2
 case ft kvs=>have h:∃o,fL M (.ft kvs) x o/\R (.bl (if n then !o.isSome else o.isSome)) M:=(by cases x<;>exact h);exact h.elim λo h=>c3 _ _ _ h.1 h.2
def GC(n:Bool):R2:=λx y H Q=>∃a o,y=.ref a/\iF H a x o/\Q (.bl (if n then !o.isSome else o.isSome)) H
theorem U7(hu:X.A.units+1<Fm):bG X (Cb .In) (GC false):=by
 rintro pins s Z H x y v u Q I rx ry ⟨a,o,rfl,g,q⟩;cases ry;exact R5 hu I g rx λs3 I3=>⟨.bl _,H,I3,rfl,q⟩
theorem U8(hu:X.A.units+1<Fm):bG X (Cb .NotIn) (GC true):=by
 rintro pins s Z H x y v u Q I rx ry ⟨a,o,rfl,g,q⟩;cases ry;exact R6 hu I g rx λs3 I3=>⟨.bl _,H,I3,rfl,q⟩
theorem GD{K:Ac}{H:Hp}{M:Mm}{x y:V}{wx wy:W}{o:Option W}(am:AM K H M)(ax:AV K H M x wx)(ay:AV K H M y wy)(h:fL M wx wy o):∃a o',x=.ref a/\iF H a y o'/\o'.isSome=o.isSome:=by
 obtain⟨a,e,⟨rfl,g⟩|⟨v,w,rfl,g,_⟩⟩:=tG am ax ay h
 .exact⟨a,_,e,g,rfl⟩
 .exact⟨a,_,e,g,rfl⟩
theorem kW(hu:X.A.units+1<Fm):bG X (Cb .In) (cS X.K (rIn false)):=lQ (PC.or (RI.or (U7 hu))) λx y H Q M R am k=>GB
 (λi j h ax ay=>.inl ⟨i,j,ax.inv,ay.inv,k.at am (.bl _) h⟩)
 (λwx wy ws e h ax ay=>let ⟨a,xs,e1,f,q⟩:=GA am ay e;.inr (.inl ⟨a,xs,e1,f,ax.flat h.1,(aM.inn ax h.1 q h.2.1).1,by rw[(aM.inn ax h.1 q h.2.1).2];exact k.at am (.bl _) h.2.2⟩))
 (λwx wy o g r ax ay=>let ⟨a,o',e,g,z⟩:=GD am ay ax g;.inr (.inr ⟨a,o',e,g,by rw[z];exact k.at am (.bl _) r⟩))
theorem mR(hu:X.A.units+1<Fm):bG X (Cb .NotIn) (cS X.K (rIn true)):=lQ (PF.or (RJ.or (U8 hu))) λx y H Q M R am k=>GB
 (λi j h ax ay=>.inl ⟨i,j,ax.inv,ay.inv,k.at am (.bl _) h⟩)
 (λwx wy ws e h ax ay=>let ⟨a,xs,e1,f,q⟩:=GA am ay e;.inr (.inl ⟨a,xs,e1,f,ax.flat h.1,(aM.inn ax h.1 q h.2.1).1,by rw[(aM.inn ax h.1 q h.2.1).2];exact k.at am (.bl _) h.2.2⟩))
 (λwx wy o g r ax ay=>let ⟨a,o',e,g,z⟩:=GD am ay ax g;.inr (.inr ⟨a,o',e,g,by rw[z];exact k.at am (.bl _) r⟩))
def cY:List W->Mm->K3->Prop
 | [.tup ws],M,R=>R (.int ws.length) M
 | [.rl ws],M,R=>R (.int ws.length) M
 | [.sc ws],M,R=>R (.int ws.length) M
 | [.dk kvs],M,R=>R (.int kvs.length) M
 | [.str z],M,R=>z.length<=Am/\R (.int z.length) M
 | [.ref a],M,R=>(∃ws,M a=some (.lst ws)/\R (.int ws.length) M)\/∃kvs,M a=some (.dK kvs)/\R (.int kvs.length) M
 | _,_,_=>False
theorem U9{P:List W->Prop}{M:Mm}{R:K3}(c1:∀ws,R (.int ws.length) M->P [.tup ws])(c2:∀ws,R (.int ws.length) M->P [.sc ws])(c3:∀x ws,lR M x ws->R (.int ws.length) M->P [x])(c4:∀z,z.length<=Am/\R (.int z.length) M->P [.str z])(c5:∀kvs,R (.int kvs.length) M->P [.dk kvs])(c6:∀a kvs,M a=some (.dK kvs)->R (.int kvs.length) M->P [.ref a])(l:List W)(h:cY l M R):P l:=by
 match l,h with
 | [.tup _],h=>exact c1 _ h
 | [.rl _],h=>exact c3 _ _ rfl h
 | [.sc _],h=>exact c2 _ h
 | [.dk _],h=>exact c5 _ h
 | [.str _],h=>exact c4 _ h
 | [.ref _],h=>exact h.elim (λ⟨ws,e,r⟩=>c3 _ _ e r) λ⟨ws,e,r⟩=>c6 _ _ e r
theorem dO:dR X (.builtin "len") (g9 X.K cY):=w4 (RK.or (RL.or SU)) λxs H Q M R am k=>U9
 (λws h ax=>ax.oneE λv e1 av=>av.tupE λa us e f q=>.inl ⟨_,_,iP e1 e,.inr (bW.of f),by rw[q.length];exact k.at am (.int _) h⟩)
 (λws h ax=>ax.oneE λv e1 av=>av.scE λa us e f q=>.inl ⟨_,_,iP e1 e,.inl f.sq,by rw[q.length];exact k.at am (.int _) h⟩)
 (λx ws e0 h ax=>ax.oneE λv e1 av=>let ⟨a,us,e,f,q⟩:=mQ am av e0;.inl ⟨_,_,iP e1 e,.inl (bN.of f),by rw[q.length];exact k.at am (.int _) h⟩)
 (λz h ax=>ax.oneE λv e1 av=>.inr (.inl ⟨z,iP e1 av.inv,h.1,k.at am (.int _) h.2⟩))
 (λkvs h ax=>ax.oneE λv e1 av=>let ⟨a,ks,e,f,_,q⟩:=av.inv;.inr (.inr ⟨a,ks,iP e1 e,f,by rw[Eg q];exact k.at am (.int _) h⟩))
 (λa kvs e0 h ax=>ax.oneE λv e1 av=>let ⟨ks,f,q⟩:=am _ _ e0;.inr (.inr ⟨a,ks,iP e1 av.inv,f,by rw[Eg q];exact k.at am (.int _) h⟩))
def xH:List W->Mm->K3->Prop
 | [.tup ws],M,R=>a9 ws M R
 | [.rl ws],M,R=>a9 ws M R
 | [.sc ws],M,R=>a9 ws M R
 | [.dk kvs],M,R=>a9 (kvs.map λkv=>wK kv.1) M R
 | [.ref a],M,R=>(∃ws,M a=some (.lst ws)/\a9 ws M R)\/∃kvs,M a=some (.dK kvs)/\a9 (kvs.map λkv=>wK kv.1) M R
 | _,_,_=>False
theorem GF{K:Ac}{H:Hp}{M:Mm}{ks:List (aK×V)}{kvs:List (aK×W)}(h:cD K H M aK ks kvs):aM K H M (ks.map λkv=>kV kv.1) (kvs.map λkv=>wK kv.1):=by
 induction h with
 | nil=>exact .nil
 | @cons p q ps qs r t ih=>
  refine .cons ?_ ih;show AV K H M (kV p.1) (wK q.1);rw[r.1];cases q.1 with
  | inl i=>exact .int i
  | inr x=>exact .str x
theorem VA{P:List W->Prop}{M:Mm}{R:K3}(c1:∀ws,a9 ws M R->P [.tup ws])(c2:∀ws,a9 ws M R->P [.sc ws])(c3:∀x ws,lR M x ws->a9 ws M R->P [x])(c5:∀kvs:List (aK×W),a9 (kvs.map λkv=>wK kv.1) M R->P [.dk kvs])(c6:∀a kvs,M a=some (.dK kvs)->a9 (kvs.map λkv=>wK kv.1) M R->P [.ref a])(l:List W)(h:xH l M R):P l:=by
 match l,h with
 | [.tup _],h=>exact c1 _ h
 | [.rl _],h=>exact c3 _ _ rfl h
 | [.sc _],h=>exact c2 _ h
 | [.dk _],h=>exact c5 _ h
 | [.ref _],h=>exact h.elim (λ⟨ws,e,r⟩=>c3 _ _ e r) λ⟨ws,e,r⟩=>c6 _ _ e r
theorem GG(hc:X.calm=true):dR X (.type "list") (g9 X.K xH):=w4 (RM.or (TL hc)) λxs H Q M R am k=>VA
 (λws h ax=>ax.oneE λv e1 av=>av.tupE λa us e f q=>.inl ⟨_,_,iP e1 e,.inr (bW.of f),λp hp=>iQ am k hp q h⟩)
 (λws h ax=>ax.oneE λv e1 av=>av.scE λa us e f q=>.inl ⟨_,_,iP e1 e,.inl f.sq,λp hp=>iQ am k hp q h⟩)
 (λx ws e0 h ax=>ax.oneE λv e1 av=>let ⟨a,us,e,f,q⟩:=mQ am av e0;.inl ⟨_,_,iP e1 e,.inl (bN.of f),λp hp=>iQ am k hp q h⟩)
 (λkvs h ax=>ax.oneE λv e1 av=>let ⟨a,ks,e,f,_,q⟩:=av.inv;.inr ⟨a,ks,iP e1 e,f,λp hp=>iQ am k hp (GF q) h⟩)
 (λa kvs e0 h ax=>ax.oneE λv e1 av=>let ⟨ks,f,q⟩:=am _ _ e0;.inr ⟨a,ks,iP e1 av.inv,f,λp hp=>iQ am k hp (GF q) h⟩)
def tI:List W->Mm->K3->Prop
 | [.tup ws],M,R=>R (.tup ws) M
 | [.rl ws],M,R=>R (.tup ws) M
 | [.ref a],M,R=>∃ws,M a=some (.lst ws)/\R (.tup ws) M
 | _,_,_=>False
theorem VB{P:List W->Prop}{M:Mm}{R:K3}(c1:∀ws,R (.tup ws) M->P [.tup ws])(c3:∀x ws,lR M x ws->R (.tup ws) M->P [x])(l:List W)(h:tI l M R):P l:=by
 match l,h with
 | [.tup _],h=>exact c1 _ h
 | [.rl _],h=>exact c3 _ _ rfl h
 | [.ref _],h=>exact h.elim λws h=>c3 _ _ h.1 h.2
theorem GH:dR X (.type "tuple") (g9 X.K tI):=w4 RN λxs H Q M R am k=>VB
 (λws h ax=>ax.oneE λv e1 av=>av.tupE λa us e f q=>⟨_,_,iP e1 e,.inr ⟨bW.of f,k.at am (by rw[<-e];exact av) h⟩⟩)
 (λx ws e0 h ax=>ax.oneE λv e1 av=>let ⟨a,us,e,f,q⟩:=mQ am av e0;⟨_,_,iP e1 e,.inl ⟨bN.of f,λp hp=>laidT am k hp q h⟩⟩)
def bools(bs:List Bool):List W:=bs.map W.bl
theorem aM.bools{K:Ac}{H:Hp}{M:Mm}:∀{bs:List Bool} {vs:List V},aM K H M vs (L3.bools bs)->vs=bs.map V.bl
 | [],_,h=>by cases h;rfl
 | b::r,_,h=>by
  cases h with
  | cons x y=>cases x;rw[aM.bools y];rfl
def GJ:List W->Mm->K3->Prop
 | [.ref a],M,R=>∃bs,M a=some (.lst (bools bs))/\R (.bl (bs.all id)) M
 | [.rl ws],M,R=>∃bs,ws=bools bs/\R (.bl (bs.all id)) M
 | _,_,_=>False
theorem VC(hc:X.calm=true):dR X (.builtin "all") (g9 X.K GJ):=by
 rintro pins s Z H xs us Q I rs ⟨ws,M,R,am,axs,h,k⟩
 match ws,h with
 | [.ref a],h=>
  obtain⟨v,rfl,av⟩:=axs.one;cases av;obtain⟨bs,e,r⟩:=h;obtain⟨vs,f,q⟩:=am.lst e;rw[q.bools]at f;exact E4 hc pins s Z H _ us Q I rs ⟨a,bs,rfl,bN.of f,k.at am (.bl _) r⟩
 | [.rl ws],h=>
  obtain⟨v,rfl,av⟩:=axs.one;obtain⟨bs,rfl,r⟩:=h;cases av with
  | rl f _ q=>
   rw[q.bools]at f;exact E4 hc pins s Z H _ us Q I rs ⟨_,bs,rfl,bN.of f,k.at am (.bl _) r⟩
def eZ:W->List W->Mm->K3->Prop
 | .ref l,[y],M,R=>∃ws,M l=some (.lst ws)/\ws.length<Am/\R .non (put M l (.lst (ws++[y])))
 | _,_,_,_=>False
theorem gR:jI X "list.append" (kR X.K eZ):=by
 rintro pins s Z H x xs v us Q I rx rs ⟨wx,ws,M,R,am,ax,axs,h,k⟩
 match wx,ws,h with
 | .ref l,[y],h=>
  obtain⟨z,rfl,az⟩:=axs.one;cases ax;obtain⟨ws,e,hl,r⟩:=h;obtain⟨vs,f,q⟩:=am.lst e;exact EN pins s Z H _ _ v us Q I rx rs ⟨l,vs,z,rfl,rfl,f,by rw[q.length];exact hl,pZ am k e (q.append (.cons az .nil)) .non r⟩
def GK:W->List W->Mm->K3->Prop
 | .ref l,[.ref b],M,R=>∃ws zs,M l=some (.lst ws)/\M b=some (.lst zs)/\ws.length+zs.length<=Am/\R .non (put M l (.lst (ws++zs)))
 | .ref l,[.rl zs],M,R=>∃ws,M l=some (.lst ws)/\ws.length+zs.length<=Am/\R .non (put M l (.lst (ws++zs)))
 | _,_,_,_=>False
theorem VD:jI X "list.extend" (kR X.K GK):=by
 rintro pins s Z H x xs v us Q I rx rs ⟨wx,ws,M,R,am,ax,axs,h,k⟩
 match wx,ws,h with
 | .ref l,[.ref b],h=>
  obtain⟨z,rfl,az⟩:=axs.one;cases ax;cases az;obtain⟨ws,zs,e,e2,hl,r⟩:=h;obtain⟨vs,f,q⟩:=am.lst e;obtain⟨vz,f2,q2⟩:=am.lst e2;exact EO pins s Z H _ _ v us Q I rx rs ⟨l,b,vs,vz,rfl,rfl,f,f2,by rw[q.length,q2.length];exact hl,pZ am k e (q.append q2) .non r⟩
 | .ref l,[.rl zs],h=>
  obtain⟨z,rfl,az⟩:=axs.one;cases ax;cases az with
  | rl f2 _ q2=>
   obtain⟨ws,e,hl,r⟩:=h;obtain⟨vs,f,q⟩:=am.lst e;exact EO pins s Z H _ _ v us Q I rx rs ⟨l,_,vs,_,rfl,rfl,f,f2,by rw[q.length,q2.length];exact hl,pZ am k e (q.append q2) .non r⟩
def rPop:W->List W->Mm->K3->Prop
 | .ref l,[],M,R=>∃ws w,M l=some (.lst (ws++[w]))/\R w (put M l (.lst ws))
 | _,_,_,_=>False
theorem xJ:jI X "list.pop" (kR X.K rPop):=by
 rintro pins s Z H x xs v us Q I rx rs ⟨wx,ws,M,R,am,ax,axs,h,k⟩
 match wx,ws,h with
 | .ref l,[],h=>
  cases axs;cases ax;obtain⟨ws,w,e,r⟩:=h;obtain⟨vs,f,q⟩:=am.lst e;have hl:=q.length;rw[Ah,Bo]at hl;obtain⟨z,hz,az⟩:=q.getW (i:=ws.length) (w:=w) (by simp);refine RU pins s Z H _ _ v us Q I rx rs ⟨l,vs,z,rfl,rfl,f,by rw[hl];exact hz,pZ am k e ?_ az r⟩;have:=q.dropLast;rw[List.dropLast_concat]at this;exact this
def xK:aZ:=λ_ M R=>UH [] M R
def mS:aZ:=λ_ M R=>lN [] M R
theorem GL:E3 X (.Dict [] [] pos) xK:=SG.weak λZ H Q ⟨τ,M,R,as,am,h,k⟩ p hp=>by
 obtain⟨am2,k2⟩:=am.laid (o:=.dK []) (u:=.dK []) hp ⟨[],c9,.nil⟩;exact k _ _ _ _ k2 am2 (.ref p) (h p (am.nonM hp))
theorem mT:E3 X (.Dict [] [] pos) mS:=SH.weak λZ H Q ⟨τ,M,R,as,am,h,k⟩ p hp=>by
 obtain⟨am2,k2⟩:=am.laid (o:=.dT []) (u:=.dT []) hp ⟨[],c9,.nil⟩;exact k _ _ _ _ k2 am2 (.ref p) (h p (am.nonM hp))
end
abbrev P3(X:Cx)(st:Stmt)(t:aG):Prop:=PS X st (pY X.K t)
abbrev jM(X:Cx)(st:List Stmt)(t:aG):Prop:=gE X st (pY X.K t)
abbrev e6:=W->S3->Mm->(S3->Mm->Prop)->Prop
abbrev mU:=List W->S3->Mm->(S3->Mm->Prop)->Prop
def iH(K:Ac)(g:e6):TG:=λv Z H Q=>∃w τ M R,AV K H M v w/\AS K H M Z τ/\AM K H M/\g w τ M R/\iO K H M R Q
def oO(K:Ac)(g:mU):jW:=λvs Z H Q=>∃ws τ M R,aM K H M vs ws/\AS K H M Z τ/\AM K H M/\g ws τ M R/\iO K H M R Q
theorem iH.el{K:Ac}{H:Hp}{Z:SV}{C:Prop}{t:e6}{v:V}{Q:SV->Hp->Prop}(h:iH K t v Z H Q)(c:∀w τ M R,AV K H M v w->AS K H M Z τ->AM K H M->t w τ M R->iO K H M R Q->C):C:=by obtain⟨w,τ,M,R,a,b,d,h,k⟩:=h;exact c w τ M R a b d h k
theorem oO.el{K:Ac}{H:Hp}{Z:SV}{C:Prop}{t:mU}{v:List V}{Q:SV->Hp->Prop}(h:oO K t v Z H Q)(c:∀w τ M R,aM K H M v w->AS K H M Z τ->AM K H M->t w τ M R->iO K H M R Q->C):C:=by obtain⟨w,τ,M,R,a,b,d,h,k⟩:=h;exact c w τ M R a b d h k
section
variable {X:Cx}{pos:Pos}
theorem _root_.L2.PG.weak{e:Expr}{t t':TG}(h:PG X e t)(k:∀v Z H Q,t' v Z H Q->t v Z H Q):PG X e t':=λpins s Z H v u Q I r q=>h pins s Z H v u Q I r (k v Z H Q q)
theorem _root_.L2.jG.weak{e:List Expr}{t t':jW}(h:jG X e t)(k:∀v Z H Q,t' v Z H Q->t v Z H Q):jG X e t':=λpins s Z H v u Q I r q=>h pins s Z H v u Q I r (k v Z H Q q)
theorem iO.at{K:Ac}{H:Hp}{M:Mm}{R:S3->Mm->Prop}{Q:SV->Hp->Prop}(h:iO K H M R Q)(am:AM K H M){Z:SV}{τ:S3}(as:AS K H M Z τ)(r:R τ M):Q Z H:=h Z H τ M (Kp.refl am) am as r
def bY(i:Nat):e6:=λw τ M R=>R (τ.set i (some w)) M
theorem GN{i:Nat}{x:Str}(hN:X.N.Nodup)(hi:X.N[i]? = some x)(hx:Loc X.env.scope x)(hf:X.fn x=true\/X.env.scope.names.lookup x=some .local:=by first|exact .inl rfl|exact .inr rfl|assumption):PG X (.Name x pos) (iH X.K (bY i)):=
 (N5 hN hi hx hf).weak λv Z H Q z0=>z0.el λw τ M R av as am h k=>k.at am (as.set av i) h
def j0:mU:=λws τ M R=>ws=[]/\R τ M
def e7(t:e6)(u:mU):mU:=λws τ M R=>match ws with
 | w::r=>t w τ M λτ' M'=>u r τ' M' R
 | []=>False
theorem kX:jG X [] (oO X.K j0):=N8.weak λvs Z H Q z=>z.el λws τ M R av as am h k=>⟨aM.nil_ (by rw[<-h.1];exact av),k.at am as h.2⟩
theorem fB{e:Expr}{es:List Expr}{t:e6}{u:mU}(h1:PG X e (iH X.K t))(h2:jG X es (oO X.K u))(hs:(Gg (e::es) X.env).map (·.2)=Lg e X.env::(Gg es X.env).map (·.2):=by rfl):jG X (e::es) (oO X.K (e7 t u)):=
 (N9 h1 h2 hs).weak λvs Z H Q z0=>z0.el λws τ M R av as am h k=>by
  cases av with
  | nil=>exact(show False from h).elim
  | cons x r=>exact⟨_,_,rfl,_,τ,M,_,x,as,am,h,λσ' H' τ' M' k' am' as' h'=>⟨_,τ',M',R,r.kp am k',as',am',h',k.kp k'⟩⟩
def j3(n:Nat)(g:mU):e6:=λw τ M R=>match w with
 | .tup ws=>ws.length=n/\g ws τ M R
 | .rl ws=>ws.length=n/\g ws τ M R
 | .ref a=>∃ws,M a=some (.lst ws)/\ws.length=n/\g ws τ M R
 | _=>False
theorem kY{es:List Expr}{k:Nat}{t:mU}{n:Nat}(hc:X.calm=true)(h:jG X es (oO X.K t))(hn:(Gg es X.env).length=n:=by rfl)(hst:(Gg es X.env).findIdx? (·.1)=none:=by rfl):PG X (.Tuple es k pos) (iH X.K (j3 n t)):=by
 rintro pins s Z H v u Q I r ⟨w,τ,M,R,av,as,am,hw,kk⟩;cases w<;>first|exact(show False from hw).elim|skip
 case tup ws=>exact av.tupE λa xs e f q=>OB hc h hn hst pins s Z H _ u Q I r ⟨a,xs,e,bW.of f,by rw[q.length];exact hw.1,_,τ,M,R,q,as,am,hw.2,kk⟩
 case rl ws=>exact av.rlE λa xs e f q=>E7 hc h hn hst pins s Z H _ u Q I r ⟨a,xs,e,bN.of f,by rw[q.length];exact hw.1,_,τ,M,R,q,as,am,hw.2,kk⟩
 case ref a=>exact hw.elim λws hw=>am.lstE hw.1 λxs f q=>E7 hc h hn hst pins s Z H _ u Q I r ⟨a,xs,av.inv,bN.of f,by rw[q.length];exact hw.2.1,_,τ,M,R,q,as,am,hw.2.2,kk⟩
def i6(te:aZ)(g:e6):aG:=λD τ M=>te τ M λx M1=>g x τ M1 D.nx
theorem VE{K:Ac}{te:aZ}{g:e6}{D:lK}{Z:SV}{H:Hp}(h:pY K (i6 te g) D Z H):rY (up K te) (iH K g) D Z H:=by
 obtain⟨τ,M,D',as,am,h,k⟩:=h;exact⟨τ,M,_,as,am,h,λx H1 wx M1 k1 am1 ax h1=>⟨wx,τ,M1,D'.nx,ax,as.kp am k1,am1,h1,k.nx.kp k1⟩⟩
theorem j4{tg e:Expr}{te:aZ}{g:e6}(he:E3 X e te)(hg:PG X tg (iH X.K g))(hs:swapsWithSole [tg] e pos.line X.env=pure false:=by rfl)(hw:swappedStores [tg] e X.env=pure none:=by rfl)(h1:(Gg [tg] X.env).map (·.2)=[Lg tg X.env]:=by rfl):P3 X (.Assign [tg] e pos) (i6 te g):=(OE he hg hs hw h1).weak λ_ _ _ h=>VE h
def bK(i:Nat)(te:aZ):aG:=λD τ M=>te τ M λx M1=>D.nx (τ.set i (some x)) M1
theorem VF{i:Nat}{x:Str}{e:Expr}{te:aZ}{pos':Pos}(hN:X.N.Nodup)(hi:X.N[i]? = some x)(hx:Loc X.env.scope x)(he:E3 X e te)(hs:Je e (some (.Name x pos')) pos.line X.env=pure false:=by rfl)(hf:X.fn x=true\/X.env.scope.names.lookup x=some .local:=by first|exact .inl rfl|exact .inr rfl|assumption):
  P3 X (.Assign [.Name x pos'] e pos) (bK i te):=(OF hN hi hx he hs hf).weak λD Z H z0=>z0.el λτ M D' as am h k=>⟨τ,M,_,as,am,h,λy H1 wy M1 k1 am1 ay h1=>k.nx _ _ _ _ k1 am1 ((as.kp am k1).set ay i) h1⟩
def tJ(o i v:W)(M:Mm)(Q:Mm->Prop):Prop:=match o with
 | .ref a=>(∃ws k j,i=.int k/\M a=some (.lst ws)/\iD ws.length k=some j/\Q (put M a (.lst (ws.set j v))))\/
   (∃kvs k,i=wK k/\M a=some (.dK kvs)/\kvs.length<Am/\Q (put M a (.dK (cT kvs k v))))\/
   ∃kvs k,i=.tup (k.map wK)/\M a=some (.dT kvs)/\kvs.length<Am/\Q (put M a (.dT (cT kvs k v)))
 | _=>False
def VG(K:Ac):rW:=λo i v H Q=>∃wo wi wv M R,AV K H M o wo/\AV K H M i wi/\AV K H M v wv/\AM K H M/\tJ wo wi wv M R/\∀H' M',Kp H M H' M'->AM K H' M'->R M'->Q H'
theorem set_dict(hu:X.A.units+1<Fm):rX X (λo i v H Q=>∃a H',o=.ref a/\mJ H a i v H'/\Q H'):=by
 intro pins s Z H o i v ov iv u Q I ro ri rv h;obtain⟨a,H',rfl,d,q⟩:=h;cases ro;exact R8 hu I d ri rv λs4 I4=>⟨H',I4,q⟩
theorem GO{U:Type}[DecidableEq U]{K:Ac}{H:Hp}{M:Mm}{ks:List (U×V)}{kvs:List (U×W)}{n:U}{v:V}{wv:W}{a:Addr}{o:MO}{u:HO}(am:AM K H M)(e:M a=some o)(q:cD K H M U ks kvs)(av:AV K H M v wv){o':MO}:cD K (aX H a u) (put M a o') U (fU ks n v) (cT kvs n wv):=Paired.mapP (xB q n av) λp q z=>⟨z.1,z.2.wr am e⟩
theorem VH(hu:X.A.units+1<Fm):rX X (VG X.K):=by
 rintro pins s Z H o i v ov iv u Q I ro ri rv ⟨wo,wi,wv,M,R,ao,ai,av,am,h,k⟩;cases wo<;>first|exact(show False from h).elim|skip
 rename_i a;rcases h with⟨ws,n,j,ei,e,hj,r⟩|⟨kvs,n,ei,e,hl,r⟩|⟨kvs,n,ei,e,hl,r⟩
 .rw[ei]at ai;obtain⟨vs,f,q⟩:=am.lst e;obtain⟨am2,k2⟩:=am.write (o:=.lst (ws.set j wv)) (u:=.lst (vs.set j v)) e ⟨_,c9,(aM.set av j q).wr am e⟩;exact RD pins s Z H _ _ v ov iv u Q I ro ri rv ⟨a,vs,n,j,ao.inv,ai.inv,f,by rw[q.length];exact hj,k _ _ k2 am2 r⟩
 .rw[ei]at ai;obtain⟨ks,f,q⟩:=am _ _ e;obtain⟨am2,k2⟩:=am.write (o:=.dK (cT kvs n wv)) (u:=.dK (fU ks n v)) e ⟨_,c9,GO am e q av⟩;exact set_dict hu pins s Z H _ _ v ov iv u Q I ro ri rv ⟨a,_,ao.inv,by rw[ai.key];exact mJ.k f (by rw[Eg q];exact hl),k _ _ k2 am2 r⟩
 .rw[ei]at ai;obtain⟨ks,f,q⟩:=am _ _ e;obtain⟨am2,k2⟩:=am.write (o:=.dT (cT kvs n wv)) (u:=.dT (fU ks n v)) e ⟨_,c9,GO am e q av⟩;exact ai.tupE λb xs eb fb qb=>set_dict hu pins s Z H _ _ v ov iv u Q I ro ri rv ⟨a,_,ao.inv,by rw[eb];exact mJ.t f (by rw[<-qb.keys];exact fb) (by rw[Eg q];exact hl),k _ _ k2 am2 r⟩
def kZ(to ti:aZ):e6:=λw τ M R=>to τ M λo M1=>ti τ M1 λi M2=>tJ o i w M2 λM3=>R τ M3
theorem w_sub{o i:Expr}{to ti:aZ}(hu:X.A.units+1<Fm)(ho:E3 X o to)(hi:E3 X i ti)(ha:∀v,Lg (.Subscript o i pos) X.env v=(do
   let ov <-Iz [v] (eval o X.env)
   let iv <-Iz [v,ov] (eval i X.env)
   Mo pos
   Iz [v,ov,iv] (setItem ov iv v)
   release [v,ov,iv] []):=by intro _;rfl):PG X (.Subscript o i pos) (iH X.K (kZ to ti)):=
 (OD ho hi (VH hu) ha).weak λv Z H Q z0=>z0.el λw τ M R av as am h k=>⟨τ,M,_,as,am,h,λo H1 wo M1 k1 am1 ao h1=>⟨τ,M1,_,as.kp am k1,am1,h1,λi H2 wi M2 k2 am2 ai h2=>
  ⟨wo,wi,w,M2,_,ao.kp am1 k2,ai,(av.kp am k1).kp am1 k2,am2,h2,λH' M' k' am' r=>k _ _ _ _ ((k1.trans k2).trans k') am' (((as.kp am k1).kp am1 k2).kp am2 k') r⟩⟩⟩
def c7:aG:=λD τ M=>D.nx τ M
def aR(t u:aG):aG:=λD τ M=>t {D with nx:=u D} τ M
variable {st:Stmt}{rest:List Stmt}{t u:aG}{e:Expr}{te:aZ}
theorem dE:jM X [] c7:=NT.weak λD Z H z0=>z0.el λτ M D' as am h k=>k.nx.at am as h
theorem aQ(h1:P3 X st t)(h2:jM X rest u):jM X (st::rest) (aR t u):=(NU h1 h2).weak λD Z H z0=>z0.el λτ M D' as am h k=>
 ⟨τ,M,_,as,am,h,⟨λσ' H' τ' M' k' am' as' h'=>⟨τ',M',D',as',am',h',k.kp k'⟩,k.rt,k.bk,k.ct⟩⟩
theorem aT(h1:P3 X st t):jM X [st] t:=NV h1
def dW(te:aZ):aG:=λD τ M=>te τ M λ_ M1=>D.nx τ M1
theorem eF(he:E3 X e te)(hs:Je e none pos.line X.env=pure false:=by rfl):P3 X (.Expr e pos) (dW te):=(NX he hs).weak λD Z H z0=>z0.el λτ M D' as am h k=>
 ⟨τ,M,_,as,am,h,λv H' w M' k' am' av r=>k.nx _ _ _ _ k' am' (as.kp am k') r⟩
def bP(te:aZ):aG:=λD τ M=>te τ M D.rt
theorem bQ(he:E3 X e te):P3 X (.Return (some e) pos) (bP te):=(NZ he).weak λD Z H z0=>z0.el λτ M D' as am h k=>⟨τ,M,_,as,am,h,k.rt⟩
def xM:aG:=λD _ M=>D.rt .non M
theorem GP:P3 X (.Return none pos) xM:=N2.weak λD Z H z0=>z0.el λτ M D' as am h k=>k.rt.at am .non h
def cQ(c:d7)(t u:aG):aG:=λD τ M=>c τ M λb M1=>if b=true then t D τ M1 else u D τ M1
theorem cR{c:Expr}{a b:List Stmt}{tc:d7}(hc:T3 X c tc)(ha:jM X a t)(hb:jM X b u):P3 X (.If c a b pos) (cQ tc t u):=(N4 hc ha hb).weak λD Z H z0=>z0.el λτ M D' as am h k=>
 ⟨τ,M,_,as,am,h,λb H1 M1 k1 am1 h1=>by
  cases b with
  | true=>exact⟨τ,M1,D',as.kp am k1,am1,h1,k.kp k1⟩
  | false=>exact⟨τ,M1,D',as.kp am k1,am1,h1,k.kp k1⟩⟩
def p9(c:d7)(tb:aG):aG:=λD τ M=>∃Pv:Nat->S3->Mm->Prop,(∃m,Pv m τ M)/\∀m τ M,Pv m τ M->
 c τ M λb M1=>if b=true then tb {D with nx:=λτ' M'=>∃m' M'',m'<m/\Sub M'' M'/\Pv m' τ' M'',ct:=λτ' M'=>∃m' M'',m'<m/\Sub M'' M'/\Pv m' τ' M'',bk:=D.nx} τ M1 else D.nx τ M1
theorem xN{c:Expr}{body:List Stmt}{tc:d7}{tb:aG}(hp:PassesOwn (Bn X.prog X.w) X.A X.env X.xe)(hc:T3 X c tc)(hb:jM X body tb):P3 X (.While c body [] pos) (p9 tc tb):=
 (OH hp hc hb).weak λD Z H ⟨τ,M,D',as,am,⟨Pv,⟨m,h0⟩,h⟩,k⟩=>by
  refine⟨λm σ' H'=>∃τ' M',Kp H M H' M'/\AM X.K H' M'/\AS X.K H' M' σ' τ'/\Pv m τ' M',⟨m,τ,M,Kp.refl am,am,as,h0⟩,?_⟩;rintro m σ1 H1 ⟨τ1,M1,k1,am1,as1,p1⟩;refine⟨τ1,M1,_,as1,am1,h m τ1 M1 p1,λb H2 M2 k2 am2 h2=>?_⟩;cases b with
  | false=>exact k.nx _ _ _ _ (k1.trans k2) am2 (as1.kp am1 k2) h2
  | true=>
   have h2:tb {D' with nx:=λτ' M'=>∃m' M'',m'<m/\Sub M'' M'/\Pv m' τ' M'',ct:=λτ' M'=>∃m' M'',m'<m/\Sub M'' M'/\Pv m' τ' M'',bk:=D'.nx} τ1 M2:=h2;refine⟨λσ' H'=>∃m' τ' M',m'<m/\Kp H M H' M'/\AM X.K H' M'/\AS X.K H' M' σ' τ'/\Pv m' τ' M',λσ' H' ⟨m',τ',M',q1,q2,q3,q4,q5⟩=>⟨m',q1,τ',M',q2,q3,q4,q5⟩,τ1,M2,_,as1.kp am1 k2,am2,h2,?_⟩;have again:iO X.K H2 M2 (λτ' M'=>∃m' M'',m'<m/\Sub M'' M'/\Pv m' τ' M'') (λσ' H'=>∃m' τ' M',m'<m/\Kp H M H' M'/\AM X.K H' M'/\AS X.K H' M' σ' τ'/\Pv m' τ' M'):=
    λσ' H' τ' M' k' am' as' ⟨m',M'',q1,q2,q3⟩=>⟨m',τ',M'',q1,((k1.trans k2).trans k').sub q2,am'.sub q2,as'.sub q2,q3⟩
   exact⟨again,(k.rt.kp k1).kp k2,(k.nx.kp k1).kp k2,again⟩
abbrev i7:=S3->Mm->(List W->(Mm->Prop)->Mm->Prop)->Prop
structure i8(K:Ac)(H0:Hp)(M0:Mm)(J:It)(ws:List W)(keep:Mm->Prop):Prop where
 go:∀i H M,Kp H0 M0 H M->AM K H M->keep M->i<ws.length->J.go i H
 stop:∀H M,Kp H0 M0 H M->AM K H M->keep M->J.stop ws.length H
 yld:∀i H M x H',Kp H0 M0 H M->AM K H M->keep M->i<ws.length->J.yld i H x H'->∃w,ws[i]? = some w/\Kp H M H' M/\AM K H' M/\AV K H' M x w
def iV(K:Ac)(wi:i7):TI:=λZ H R'=>∃(τ:S3) (M:Mm) (R:List W->(Mm->Prop)->Mm->Prop),AS K H M Z τ/\AM K H M/\wi τ M R/\∀J H' ws keep M',Kp H M H' M'->AM K H' M'->i8 K H' M' J ws keep->R ws keep M'->R' J H'
theorem iV.el{K:Ac}{H:Hp}{Z:SV}{C:Prop}{t:i7}{Q:It->Hp->Prop}(h:iV K t Z H Q)(c:∀τ M R,AS K H M Z τ->AM K H M->t τ M R->(∀J H' ws keep M',Kp H M H' M'->AM K H' M'->i8 K H' M' J ws keep->R ws keep M'->Q J H')->C):C:=by obtain⟨τ,M,R,a,b,h,k⟩:=h;exact c τ M R a b h k
theorem _root_.L2.PI.weak{tg iter:Expr}{t t':TI}(h:PI X tg iter t)(k:∀Z H R,t' Z H R->t Z H R):PI X tg iter t':=λpins s Z H R I q=>h pins s Z H R I (k Z H R q)
def qA(ws:List W)(keep:Mm->Prop)(g:e6)(tb:aG)(D:D3)(τ:S3)(M:Mm):Prop:=
 ∃Pv:Nat->S3->Mm->Prop,Pv 0 τ M/\(∀i τ M,i<=ws.length->Pv i τ M->keep M)/\
  (∀i w τ M,ws[i]? = some w->Pv i τ M->g w τ M λτ2 M2=>tb {D with nx:=λτ' M'=>∃M'',Sub M'' M'/\Pv (i+1) τ' M'',ct:=λτ' M'=>∃M'',Sub M'' M'/\Pv (i+1) τ' M'',bk:=D.nx} τ2 M2)/\
  ∀τ M,Pv ws.length τ M->D.nx τ M
def fD(wi:i7)(g:e6)(tb:aG):aG:=λD τ M=>wi τ M λws keep M1=>qA ws keep g tb D τ M1
theorem e8{tg iter:Expr}{body:List Stmt}{wi:i7}{g:e6}{tb:aG}{pos:Pos}(hp:PassesOwn (Bn X.prog X.w) X.A X.env X.xe)(hc:X.calm=true)(hi:PI X tg iter (iV X.K wi))(hg:PG X tg (iH X.K g))(hb:jM X body tb)(hs:∀x,Gm iter X.env x=pure x:=by intro _;rfl):P3 X (.For tg iter body [] pos) (fD wi g tb):=
 (OQ hp hc hi hg hb hs).weak λD Z H z0=>z0.el λτ M D' as am h k=>by
  refine⟨τ,M,_,as,am,h,λJ H1 ws keep M1 k1 am1 it ⟨Pv,h0,hk,hs,hd⟩=>?_⟩;refine⟨λi m σ' H'=>m=ws.length-i/\i<=ws.length/\∃τ' M',Kp H1 M1 H' M'/\AM X.K H' M'/\AS X.K H' M' σ' τ'/\Pv i τ' M',⟨_,rfl,Bz _,τ,M1,Kp.refl am1,am1,as.kp am k1,h0⟩,?_⟩;rintro i m σ2 H2 ⟨rfl,hi,τ2,M2,k2,am2,as2,p2⟩
  by_cases hlt:i<ws.length
  .refine .inr ⟨it.go i H2 M2 k2 am2 (hk i τ2 M2 hi p2) hlt,λσ' H'=>∃τ' M',Kp H1 M1 H' M'/\AM X.K H' M'/\AS X.K H' M' σ' τ'/\Pv (i+1) τ' M',λσ' H' q=>⟨ws.length-(i+1),by lia,rfl,hlt,q⟩,λx H3 y=>?_⟩;obtain⟨w,hw,k3,am3,ax⟩:=it.yld i H2 M2 x H3 k2 am2 (hk i τ2 M2 hi p2) hlt y;refine⟨w,τ2,M2,_,ax,as2.kp am2 k3,am3,hs i w τ2 M2 hw p2,λσ4 H4 τ4 M4 k4 am4 as4 h4=>⟨τ4,M4,_,as4,am4,h4,?_⟩⟩;have kk:=((k2.trans k3).trans k4);have again:iO X.K H4 M4 (λτ' M'=>∃M'',Sub M'' M'/\Pv (i+1) τ' M'') (λσ' H'=>∃τ' M',Kp H1 M1 H' M'/\AM X.K H' M'/\AS X.K H' M' σ' τ'/\Pv (i+1) τ' M'):=
    λσ' H' τ' M' k' am' as' ⟨M'',q2,q3⟩=>⟨τ',M'',(kk.trans k').sub q2,am'.sub q2,as'.sub q2,q3⟩
   exact⟨again,k.rt.kp (k1.trans kk),k.nx.kp (k1.trans kk),again⟩
  .have e:i=ws.length:=by lia
   subst e;exact .inl ⟨it.stop H2 M2 k2 am2 (hk _ τ2 M2 hi p2),k.nx _ _ _ _ (k1.trans k2) am2 as2 (hd τ2 M2 p2)⟩
theorem nO{ws:List W}{keep:Mm->Prop}{g:e6}{tb:aG}{D:D3}{τ:S3}{M:Mm}(Pv:Nat->S3->Mm->Prop)(h0:Pv 0 τ M)(hk:∀i τ M,i<=ws.length->Pv i τ M->keep M)(hs:∀i w τ M,ws[i]? = some w->Pv i τ M->g w τ M λτ2 M2=>tb {D with nx:=λτ' M'=>∃M'',Sub M'' M'/\Pv (i+1) τ' M'',ct:=λτ' M'=>∃M'',Sub M'' M'/\Pv (i+1) τ' M'',bk:=D.nx} τ2 M2)(hd:∀τ M,Pv ws.length τ M->D.nx τ M):qA ws keep g tb D τ M:=⟨Pv,h0,hk,hs,hd⟩
variable {tg l a b:Expr}{tl ta tb':aZ}
theorem VI{K:Ac}{H0:Hp}{M0:Mm}{p:Addr}{ws:List W}:i8 K H0 M0 (oA K p) ws λM=>M p=some (.lst ws) where
 go:=λi H M _ am e hi=>by
  obtain⟨vs,f,q⟩:=am.lst e;exact⟨vs,vs[i]'(by rw[q.length];exact hi),bN.of f,by simp⟩
 stop:=λH M _ am e=>by
  obtain⟨vs,f,q⟩:=am.lst e;exact⟨vs,bN.of f,by rw[q.length];exact An _⟩
 yld:=λi H M x H' _ am e hi y=>by
  obtain⟨rfl,y⟩:=y;obtain⟨vs,f,q⟩:=am.lst e;obtain⟨w,hw,av⟩:=q.getV (y vs (bN.of f));exact⟨w,hw,Kp.refl am,am,av⟩
theorem GQ{K:Ac}{H0:Hp}{M0:Mm}{p:Addr}{vs:List V}{ws:List W}(am0:AM K H0 M0)(st:∀H M,Kp H0 M0 H M->bN K H p vs)(q0:aM K H0 M0 vs ws):i8 K H0 M0 (oA K p) ws λ_=>True:=by
 refine⟨λi H M k am _ hi=>⟨vs,vs[i]'(by rw[q0.length];exact hi),st H M k,by simp⟩,λH M k am _=>⟨vs,st H M k,by rw[q0.length];exact An _⟩,λi H M x H' k am _ hi y=>?_⟩;obtain⟨rfl,y⟩:=y;obtain⟨w,hw,av⟩:=(q0.kp am0 k).getV (y vs (st _ M k));exact⟨w,hw,Kp.refl am,am,av⟩
theorem VJ{K:Ac}{H0:Hp}{M0:Mm}{p:Addr}{vs:List V}{ws:List W}(am0:AM K H0 M0)(e:mN K H0 p vs)(q0:aM K H0 M0 vs ws):i8 K H0 M0 (oA K p) ws λ_=>True:=
 GQ am0 (λH M k=>by
  refine mN.sq ?_;rcases e with⟨o,e⟩|e
  .exact .inl ⟨o,(k.fr _ _ (am0.noFrz e) e).1⟩
  .exact .inr e) q0
theorem VL{K:Ac}{H0:Hp}{M0:Mm}{p:Addr}{vs:List V}{ws:List W}(am0:AM K H0 M0)(e:H0 p=some (.lst vs))(n:M0 p=none)(q0:aM K H0 M0 vs ws):i8 K H0 M0 (oA K p) ws λ_=>True:=
 GQ am0 (λH M k=>bN.of (k.fr _ _ n e).1) q0
theorem VM{K:Ac}{H0:Hp}{M0:Mm}{p:Addr}{vs:List V}{ws:List W}(am0:AM K H0 M0)(e:H0 p=some (.tup vs))(q0:aM K H0 M0 vs ws):i8 K H0 M0 (vV K p) ws λ_=>True:=by
 have st:∀H M,Kp H0 M0 H M->bW K H p vs:=λH M k=>bW.of (k.fr _ _ (am0.noTup e) e).1;refine⟨λi H M k am _ hi=>⟨vs,vs[i]'(by rw[q0.length];exact hi),st H M k,by simp⟩,λH M k am _=>⟨vs,st H M k,by rw[q0.length];exact An _⟩,λi H M x H' k am _ hi y=>?_⟩;obtain⟨rfl,y⟩:=y;obtain⟨w,hw,av⟩:=(q0.kp am0 k).getV (y vs (st _ M k));exact⟨w,hw,Kp.refl am,am,av⟩
theorem VN{K:Ac}{H0:Hp}{M0:Mm}{lo:Int}{n:Nat}:i8 K H0 M0 (r6 lo n) ((Cv n).map λi=>W.int (lo+(i:Nat))) λ_=>True where
 go:=λi H M _ am _ hi=>by show i<n;simpa using hi
 stop:=λH M _ am _=>by show n<=_;simp
 yld:=λi H M x H' _ am _ hi y=>by
  obtain⟨rfl,rfl⟩:=y;have hi:i<n:=by simpa using hi
  exact⟨.int (lo+i),by simp[hi],Kp.refl am,am,.int _⟩
theorem VO{K:Ac}{H0:Hp}{M0:Mm}{z:Str}:i8 K H0 M0 (wO z) (z.cps.toList.map λc=>W.str ⟨#[c]⟩) λ_=>True where
 go:=λi H M _ am _ hi=>by show i<z.cps.size;simpa using hi
 stop:=λH M _ am _=>by show z.cps.size<=_;simp
 yld:=λi H M x H' _ am _ hi y=>by
  obtain⟨rfl,c,hc,rfl⟩:=y;exact⟨.str ⟨#[c]⟩,by rw[Ap,hc];rfl,Kp.refl am,am,.str _⟩
def mV(X:Cx)(tg:Expr)(r:V->Hp->(It->Hp->Prop)->Prop):Prop:=
 ∀(pins:List (Addr×Obj)) (s:Ag) (Z:SV) (H:Hp) (x:V) (u:Ae) (R:It->Hp->Prop),Inv X pins Z H s->RelV x u->r x H R->Bc (Bn X.prog X.w) X.A (pyIter u) (pN X pins Z tg R) X.xe s
theorem xO:mV X tg (λx H R=>∃a,x=.ref a/\(∃xs,bN X.K H a xs)/\R (oA X.K a) H):=by
 rintro pins s1 Z H1 x u R I1 r1 ⟨a,rfl,⟨xs,hq⟩,q⟩;cases r1;obtain⟨its,rv,p,hz⟩:=I1.list hq;refine La p.isList ?_;refine⟨s1.heap.objs.size,[s1.heap.objs.size],_,_,H1,rfl,I1.kept (t':=s1.toks) λb o e=>Af _ e,OI a _,⟨_,Ay _ rfl,rfl,rfl⟩,λb hb=>?_,q⟩;have e:b=s1.heap.objs.size:=by simpa using hb
 subst e;exact I1.fpOk (An _) (I1.hok.fresh (An _))
theorem VP:mV X tg (λx H R=>∃a,x=.ref a/\(∃xs,bW X.K H a xs)/\R (vV X.K a) H):=by
 rintro pins s1 Z H1 x u R I1 r1 ⟨a,rfl,⟨xs,hq⟩,q⟩;cases r1;obtain⟨its,rv,p,hz⟩:=I1.tuple hq;refine Hg (show s1.heap.IsTuple a its.toArray from p) ?_;refine⟨s1.heap.objs.size,[s1.heap.objs.size],_,_,H1,rfl,I1.kept (t':=s1.toks) λb o e=>Af _ e,OJ a _,⟨_,Ay _ rfl,rfl,rfl⟩,λb hb=>?_,q⟩;have e:b=s1.heap.objs.size:=by simpa using hb
 subst e;exact I1.fpOk (An _) (I1.hok.fresh (An _))
theorem VQ{x:Str}{px:Pos}:mV X (.Name x px) (λx H R=>∃z,x=.str z/\R (wO z) H):=by
 rintro pins s1 Z H1 x u R I1 r1 ⟨z,rfl,q⟩;obtain⟨t,rfl⟩:=r1;have fp:∀b∈[s1.heap.objs.size],iC X pins H1 b:=λb hb=>by
  have e:b=s1.heap.objs.size:=by simpa using hb
  subst e;exact I1.fpOk (An _) (I1.hok.fresh (An _))
 cases ha:z.cps.all (· < 128)
 .refine wpAny_pyIter_wide ha ?_;exact⟨s1.heap.objs.size,[s1.heap.objs.size],_,_,H1,rfl,I1.kept (t':=s1.toks) λb o e=>Af _ e,
   E5 z _ "str_iterator" t (λA s i c Q E a b d=>wpAny_pyNext_wide_item a b d) (λA s i Q E a b c d=>wpAny_pyNext_wide_end a b c d) (λA i s Q E a b=>wpAny_pyIter_striter_wide a b),⟨_,Ay _ rfl,rfl,rfl⟩,fp,q⟩
 .refine wpAny_pyIter_ascii ha ?_;exact⟨s1.heap.objs.size,[s1.heap.objs.size],_,_,H1,rfl,I1.kept (t':=s1.toks) λb o e=>Af _ e,
   E5 z _ "str_ascii_iterator" t (λA s i c Q E a b d=>wpAny_pyNext_ascii_item a b d) (λA s i Q E a b c d=>wpAny_pyNext_ascii_end a b c d) (λA i s Q E a b=>wpAny_pyIter_striter_ascii a b),⟨_,Ay _ rfl,rfl,rfl⟩,fp,q⟩
theorem _root_.L2.PI.of{r:V->Hp->(It->Hp->Prop)->Prop}{tl:TE}(hl:PE X l tl)(hr:mV X tg r):PI X tg l (λZ H R=>tl Z H λx H1=>r x H1 R):=λpins s Z H R I h=>
 bA (hl pins s Z H _ I h) λu s1 ⟨x,H1,I1,r1,q1⟩=>hr pins s1 Z H1 x u R I1 r1 q1
def tK(K:Ac)(r:W->Mm->(List W->(Mm->Prop)->Mm->Prop)->Prop):V->Hp->(It->Hp->Prop)->Prop:=λx H R'=>∃(wx:W) (M:Mm) (R:List W->(Mm->Prop)->Mm->Prop),AV K H M x wx/\AM K H M/\r wx M R/\
 ∀J H' ws keep M',Kp H M H' M'->AM K H' M'->i8 K H' M' J ws keep->R ws keep M'->R' J H'
def nQ:W->Mm->(List W->(Mm->Prop)->Mm->Prop)->Prop
 | .tup ws,M1,R=>R ws (λ_=>True) M1
 | .rl ws,M1,R=>R ws (λ_=>True) M1
 | .sc ws,M1,R=>R ws (λ_=>True) M1
 | .ref a,M1,R=>∃ws,M1 a=some (.lst ws)/\R ws (λM=>M a=some (.lst ws)) M1
 | _,_,_=>False
def eS:W->Mm->(List W->(Mm->Prop)->Mm->Prop)->Prop
 | .tup ws,M1,R=>R ws (λ_=>True) M1
 | .rl ws,M1,R=>R ws (λ_=>True) M1
 | .sc ws,M1,R=>R ws (λ_=>True) M1
 | .str z,M1,R=>R (z.cps.toList.map λc=>W.str ⟨#[c]⟩) (λ_=>True) M1
 | .ref a,M1,R=>∃ws,M1 a=some (.lst ws)/\R ws (λM=>M a=some (.lst ws)) M1
 | _,_,_=>False
theorem GR:mV X tg (tK X.K nQ):=by
 rintro pins s Z H x u R' I r1 ⟨wx,M,R,ax,am,h,k⟩;have k:=λJ ws keep=>k J H ws keep M (Kp.refl am) am;cases wx<;>first|exact(show False from h).elim|skip
 case tup ws=>exact ax.tupE λa xs e f q=>VP pins s Z H _ u R' I r1 ⟨a,e,⟨xs,bW.of f⟩,k _ _ _ (VM am f q) h⟩
 case rl ws=>obtain⟨a,xs,e,f,n,q⟩:=ax.inv;exact xO pins s Z H _ u R' I r1 ⟨a,e,⟨xs,bN.of f⟩,k _ _ _ (VL am f n q) h⟩
 case sc ws=>exact ax.scE λa xs e f q=>xO pins s Z H _ u R' I r1 ⟨a,e,⟨xs,f.sq⟩,k _ _ _ (VJ am f q) h⟩
 case ref a=>exact h.elim λws h=>am.lstE h.1 λvs f q=>xO pins s Z H _ u R' I r1 ⟨a,ax.inv,⟨vs,bN.of f⟩,k _ _ _ VI h.2⟩
theorem VR{y:Str}{py:Pos}:mV X (.Name y py) (tK X.K eS):=by
 rintro pins s Z H x u R' I r1 ⟨wx,M,R,ax,am,h,k⟩;cases wx<;>first|exact(show False from h).elim|skip
 case str z=>exact VQ pins s Z H _ u R' I r1 ⟨z,ax.inv,k _ _ _ _ _ (Kp.refl am) am VO h⟩
 all_goals exact GR pins s Z H x u R' I r1 ⟨_,M,R,ax,am,h,k⟩
def dX(r:W->Mm->(List W->(Mm->Prop)->Mm->Prop)->Prop)(tl:aZ):i7:=λτ M R=>tl τ M λw M1=>r w M1 R
theorem xP{r:W->Mm->(List W->(Mm->Prop)->Mm->Prop)->Prop}(hl:E3 X l tl)(hr:mV X tg (tK X.K r)):PI X tg l (iV X.K (dX r tl)):=(PI.of hl hr).weak λZ H R' z0=>z0.el λτ M R as am h k=>
 ⟨τ,M,_,as,am,h,λx H1 wx M1 k1 am1 ax h1=>⟨wx,M1,R,ax,am1,h1,λJ H' ws keep M' k' am' it r=>k J H' ws keep M' (k1.trans k') am' it r⟩⟩
theorem tL(hl:E3 X l tl):PI X tg l (iV X.K (dX nQ tl)):=xP hl GR
theorem fE{y:Str}{py:Pos}(hl:E3 X l tl):PI X (.Name y py) l (iV X.K (dX eS tl)):=xP hl VR
def jN(lo:Int)(n:Nat):List W:=(Cv n).map λi=>W.int (lo+(i:Nat))
def qB(ta:dS):i7:=λτ M R=>ta τ M λws M1=>∃j:Int,ws=[.int j]/\-(2 ^ 62)<=j/\j<2 ^ 62/\R (jN 0 j.toNat) (λ_=>True) M1
theorem tM{tA:dS}{p pos:Pos}(hg:Gl X "range")(hm:X.mg "range" = none)(ha:A3 X [a] tA)(hs:Be [a] X.env=[(false,eval a X.env)]:=by rfl):PI X tg (.Call (.Name "range" p) [a] [] pos) (iV X.K (qB tA)):=
 (ON hg hm ha hs).weak λZ H R' z0=>z0.el λτ M R as am h k=>⟨τ,M,_,as,am,h,λvs H1 ws M1 k1 am1 ax ⟨j,e,h1,h2,r⟩=>by
  rw[e]at ax;obtain⟨v,e,av⟩:=ax.one;exact⟨j,iP e av.inv,h1,h2,k _ _ _ _ _ k1 am1 VN r⟩⟩
def oP(ws:List W)(keep:Mm->Prop)(g:e6)(tt:d7)(te:aZ)(τ₀:S3)(M1:Mm)(R:K3):Prop:=
 ∀p,M1 p=none->∃Pv:Nat->S3->List W->Mm->Prop,Pv 0 τ₀ [] M1/\(∀vs i τ acc M,i<=ws.length->M p=none->Pv i τ acc M->keep (put M p (.fix vs)))/\
  (∀vs i w τ acc M,ws[i]? = some w->M p=none->Pv i τ acc M->g w τ (put M p (.fix vs)) λτ2 M2=>tt τ2 M2 λb M3=>
   if b=true then te τ2 M3 λy M4=>M4 p=some (.fix vs)/\acc.length<Am/\∃M5,Sub M5 (del M4 p)/\Pv (i+1) τ2 (acc++[y]) M5
   else M3 p=some (.fix vs)/\∃M5,Sub M5 (del M3 p)/\Pv (i+1) τ2 acc M5)/\
  ∀τ acc M,M p=none->Pv ws.length τ acc M->R (.ref p) (put M p (.lst acc))
def xQ(js:List (Option Nat))(τ:S3):S3:=js.map λo=>o.bind λj=>(τ[j]?).join
theorem AS.cmap{K:Ac}{H:Hp}{M:Mm}{Z:SV}{τ:S3}(h:AS K H M Z τ):∀js:List (Option Nat),AS K H M (cmap js Z) (xQ js τ)
 | []=>.nil
 | none::r=>.cons (λ_ e=>nomatch e) (AS.cmap h r)
 | some j::r=>.cons (λw e=>by
   have e:(τ[j]?).join=some w:=e;cases q:τ[j]? with
   | none=>rw[q]at e;cases e
   | some z=>
    rw[q]at e;have e:z=some w:=e;subst e;obtain⟨v,h1,h2⟩:=h.get q;exact⟨v,by show(Z[j]?).join=some v;rw[h1];rfl,h2⟩) (AS.cmap h r)
def h9(wi:i7)(g:e6)(tt:d7)(te:aZ)(js:List (Option Nat)):aZ:=λτ M R=>wi τ M λws keep M1=>oP ws keep g tt te (xQ js τ) M1 R
theorem GS{wi:i7}{g:e6}{tt:d7}{te:aZ}{js:List (Option Nat)}{Z:SV}{H:Hp}{Q:VK}(h:up X.K (h9 wi g tt te js) Z H Q):wN (iV X.K wi) (λ_=>iH X.K g) (λ_=>kQ X.K tt) (λ_=>up X.K te) js Z H Q:=by
 obtain⟨τ,M,R,as,am,h,k⟩:=h;refine⟨τ,M,_,as,am,h,λJ H1 ws keep M1 k1 am1 it hall p hp B=>?_⟩;obtain⟨Pv,h0,hk,hs,hd⟩:=hall p (am1.nonM hp);obtain⟨amp,kp⟩:=am1.laid (o:=.fix []) (u:=.lst []) hp c9;have hMp:=am1.nonM hp;refine TB ws.length (λi σ' acc' H'=>∃τ' acc M',M' p=none/\Kp H1 M1 H' (put M' p (.fix acc'))/\AM X.K H' (put M' p (.fix acc'))/\AS X.K H' (put M' p (.fix acc')) σ' τ'/\aM X.K H' (put M' p (.fix acc')) acc' acc/\Pv i τ' acc M') ?_ ?_ ?_
 .exact⟨xQ js τ,[],M1,hMp,kp,amp,((as.kp am k1).kp am1 kp).cmap js,.nil,h0⟩
 .rintro σ' acc' H' ⟨τ',acc,M',mp,k',am',as',av,pv⟩;refine⟨it.stop H' _ k' am' (hk _ _ _ _ _ (An _) mp pv),?_⟩;have hp':H' p=some (.lst acc'):=am' p _ aY;refine k _ H' _ (put M' p (.lst acc)) (k1.trans ⟨λa o n e=>?_,k'.dom⟩) (λa o e=>?_) (.ref p) (hd τ' acc M' mp pv)
  .obtain⟨x,y⟩:=k'.fr a o n e;exact⟨x,by rw[aW (eV e hp)]at y⊢;exact y⟩
  .by_cases ha:a=p
   .subst ha;rw[aY]at e;cases e;exact⟨acc',hp',av.go FH⟩
   .rw[aW ha]at e;exact(am' a o (by rw[aW ha];exact e)).go FH rfl
 .rintro i σ' acc' H' hi ⟨τ',acc,M',mp,k',am',as',av,pv⟩;have hkp:=hk acc' i τ' acc M' (Gi hi) mp pv;refine⟨it.go i H' _ k' am' hkp hi,λx H3 y=>?_⟩;obtain⟨w,hw,k3,am3,ax⟩:=it.yld i H' _ x H3 k' am' hkp hi y;refine⟨w,τ',_,_,ax,as'.kp am' k3,am3,hs acc' i w τ' acc M' hw mp pv,λσ4 H4 τ4 M4 k4 am4 as4 h4=>⟨τ4,M4,_,as4,am4,h4,λb H5 M5 k5 am5 h5=>?_⟩⟩;have kk:Kp H' (put M' p (.fix acc')) H5 M5:=(k3.trans k4).trans k5;cases b with
  | false=>
   obtain⟨m5,M6,sb,pv6⟩:M5 p=some (.fix acc')/\∃M6,Sub M6 (del M5 p)/\Pv (i+1) τ4 acc M6:=h5;have sb':Sub (put M6 p (.fix acc')) M5:=by
    have:=(sb.trans Sub.del).put (a:=p) (o:=.fix acc');rwa [UC m5]at this
   exact SW ⟨τ4,acc,M6,sb.non nK,(k'.trans kk).sub sb',am5.sub sb',(as4.kp am4 k5).sub sb',(av.kp am' kk).sub sb',pv6⟩
  | true=>
   have h5:te τ4 M5 λy M4=>M4 p=some (.fix acc')/\acc.length<Am/\∃M5,Sub M5 (del M4 p)/\Pv (i+1) τ4 (acc++[y]) M5:=h5;refine SX ⟨τ4,M5,_,as4.kp am4 k5,am5,h5,λy H6 wy M6 k6 am6 ay ⟨m6,hl,M7,sb,pv7⟩=>?_⟩;have kk6:=kk.trans k6;have hp6:H6 p=some (.lst acc'):=am6 p _ m6;obtain⟨am8,k8⟩:=am6.write (o:=.fix (acc'++[y])) (u:=.lst (acc'++[y])) m6 c9;have sb':Sub (put M7 p (.fix (acc'++[y]))) (put M6 p (.fix (acc'++[y]))):=(sb.trans Sub.del).put;refine⟨hp6,by rw[av.length];exact hl,τ4,acc++[wy],M7,sb.non nK,((k'.trans kk6).trans k8).sub sb',am8.sub sb',(((as4.kp am4 k5).kp am5 k6).kp am6 k8).sub sb',?_,pv7⟩;exact(((av.kp am' kk6).append (.cons ay .nil)).kp am6 k8).sub sb'
variable {sc:Hc}{N':List Str}{js:List (Option Nat)}{iter elt:Expr}{ifs:List Expr}{wi:i7}{g:e6}{tt:d7}
def k7:d7:=λ_ M Q=>Q true M
theorem nR:i0 X [] (kQ X.K k7):=S6.weak λZ H Q z0=>z0.el λτ M R as am h k=>k true H M (Kp.refl am) am h
theorem qC{c:Expr}{t:d7}(h:T3 X c t):i0 X [c] (kQ X.K t):=S7 h
theorem j5(N':List Str)(js:List (Option Nat))(hi:PI X tg iter (iV X.K wi))(hg:∀B,PG (eE X sc N' B) tg (iH X.K g))(ht:∀B,i0 (eE X sc N' B) ifs (kQ X.K tt))(he:∀B,PE (eE X sc N' B) elt (up X.K te))(S0:nH N' sc X.env.scope=true:=by kernel_rfl)(hj:fV N' X.N sc js N'=true:=by kernel_rfl)(hc:X.calm=true:=by rfl)(hs:∀x,Gm iter X.env x=pure x:=by intro _;rfl):
  E3 X (.ListComp elt [⟨tg,iter,ifs,0⟩] sc pos) (h9 wi g tt te js):=(S8 N' js hi hg ht he S0 hj hc hs).weak λ_ _ _ h=>GS h
end
def bU(N:List Str)(ws:List W):S3:=ws.map some++Bw (N.length-ws.length) none
def bR(R:K3):D3:={nx:=λ_ M'=>∃M'',Sub M'' M'/\R .non M'',rt:=λw M'=>∃M'',Sub M'' M'/\R w M''}
section
variable {P:Bv}{w:Cp}{K:Ac}{mg:Str->Option Ae}{base:Heap}
theorem tN{x qual:Str}{st:Stmt}{f:Addr}{fd:Bi}{N ps:List Str}{k:Nat}{sp:bE}(F:jJ K x qual st f fd)(S:mF N ps (dJ st))(len:∀ws M R,sp ws M R->ws.length=ps.length)(hbody:∀(cdv:Ae) (A:Cq) (outer:List Env) (s:Ag) (H:Hp) (E:XK) (ws:List W) (M:Mm) (R:K3),cP k (A.deeper (Ip qual (dJ st) s.heap.objs.size f cdv))->sp ws M R->
   ∃t,jM (kL eQ P w K mg base N qual (dJ st) f cdv A outer s H E).nox (gM st) t/\t (bR R) (bU N ws) M):eN P w K mg base eQ (k+1) f fd ps (fJ K sp):=by
 refine F.ok S (λvs H Q E ⟨ws,M,R,am,av,h,_⟩=>by rw[av.length];exact len ws M R h) λcdv A outer s H vs Q E hr ⟨ws,M,R,am,av,h,kk⟩=>?_;obtain⟨t,ht,h'⟩:=hbody cdv A outer s H E ws M R hr h;refine⟨_,ht,bU N ws,M,bR R,?_,am,h',⟨λσ' H' τ' M' k' am' as' ⟨M'',sb,r⟩=>kk _ H' _ M'' (k'.sub sb) (am'.sub sb) .non r,λv H' w M' k' am' av' ⟨M'',sb,r⟩=>kk v H' w M'' (k'.sub sb) (am'.sub sb) (av'.sub sb) r,λ_ _ _ _ _ _ _ z=>z.elim,λ_ _ _ _ _ _ _ z=>z.elim⟩⟩;unfold L2.start bU;rw[av.length];exact AS.start av _
end
section
variable {X:Cx}{a b c:Expr}{ta tb tc:aZ}{pos:Pos}
def xR(r r':R3)(ta tb tc:aZ):aZ:=λτ M R=>ta τ M λx M1=>tb τ M1 λy M2=>r x y M2 λz M3=>∃k,z=.bl k/\if k=true then tc τ M3 λw M4=>r' y w M4 R else R (.bl false) M3
def VS(M:Mm):W->String->Prop
 | .non,T=>T = "NoneType"
 | .bl _,T=>T = "bool"
 | .int _,T=>T = "int"
 | .str _,T=>T = "str"
 | .tup _,T=>T = "tuple"
 | .rl _,T=>T = "list"
 | .dk _,T=>T = "dict"
 | .ref a,T=>(T = "list"/\∃ws,M a=some (.lst ws))\/(T = "dict"/\((∃kvs,M a=some (.dK kvs))\/∃kvs,M a=some (.dT kvs)))
 | _,_=>False
def GU:List (String×String×Bool):=[("int","int",true),("int","bool",false),("int","str",false),("int","tuple",false),("int","list",false),("bool","bool",true),("bool","int",true),("bool","str",false),("bool","list",false),("bool","tuple",false),("str","str",true),("str","int",false),("str","tuple",false),("str","list",false),("str","bool",false),("tuple","tuple",true),("tuple","list",false),("tuple","str",false),("tuple","int",false),("tuple","bool",false),("list","list",true),("list","tuple",false),("list","str",false),("list","int",false),("list","bool",false),("NoneType","list",false),("NoneType","tuple",false),("NoneType","int",false),("NoneType","str",false),("NoneType","bool",false),("dict","dict",true),("dict","list",false)]
def GV(n T:String):Option Bool:=(GU.find? λp=>p.1==n&&p.2.1==T).map λp=>p.2.2
def GW(K:Ac):List (String×String×Bool)->Prop
 | []=>True
 | p::l=>Iq K (.type p.1) (.type p.2.1)=some p.2.2/\GW K l
theorem GX{K:Ac}:∀{l:List (String×String×Bool)},GW K l->∀p∈l,Iq K (.type p.1) (.type p.2.1)=some p.2.2
 | _::_,h,_,m=>by
  cases m with
  | head=>exact h.1
  | tail _ m=>exact GX h.2 _ m
theorem VT(K:Ac):∀p∈GU,Iq K (.type p.1) (.type p.2.1)=some p.2.2:=by
 refine GX ?_
 repeat refine⟨by kernel_rfl,?_⟩
 trivial
theorem VU(K:Ac){n T:String}{b:Bool}(h:GV n T=some b):Iq K (.type n) (.type T)=some b:=by
 obtain⟨p,hp,e⟩:=Bh.mp h;have h1:=List.find?_some hp;have h2:=VT K p (List.mem_of_find?_eq_some hp);rw[Cr,beq_iff_eq,beq_iff_eq]at h1;rw[<-h1.1,<-h1.2,h2,e]
def i9:List W->Mm->K3->Prop
 | [w,.ty T],M,R=>∃n b,VS M w n/\GV n T=some b/\R (.bl b) M
 | _,_,_=>False
theorem lT:dR X (.builtin "isinstance") (g9 X.K i9):=by
 rintro pins s Z H xs us Q I rs ⟨ws,M,R,am,axs,h,k⟩
 match ws,h with
 | [w,.ty T],h=>
  obtain⟨v,u,rfl,av,au⟩:=axs.two;cases au;obtain⟨n,b,hn,hs,r⟩:=h;have ty:iM X.K H v (.type n):=by
   cases w<;>first|exact(show False from hn).elim|skip
   case non=>rw[show n=_ from hn,show v=_ from av.inv];exact .non
   case bl b=>rw[show n=_ from hn,show v=_ from av.inv];exact .bl b
   case int i=>rw[show n=_ from hn,show v=_ from av.inv];exact .int i
   case str x=>rw[show n=_ from hn,show v=_ from av.inv];exact .str x
   case tup=>obtain⟨a,xs,ev,e,q⟩:=av.inv;rw[show n=_ from hn,ev];exact .tup e
   case rl=>obtain⟨a,xs,ev,e,_,q⟩:=av.inv;rw[show n=_ from hn,ev];exact .lst e
   case dk=>obtain⟨a,xs,ev,e,_,q⟩:=av.inv;rw[show n=_ from hn,ev];exact .dK e
   case ref a=>
    rw[show v=_ from av.inv];rcases hn with⟨e,ws,h⟩|⟨e,h⟩
    .subst e;obtain⟨vs,f,_⟩:=am.lst h;exact .lst f
    .subst e;rcases h with⟨kvs,h⟩|⟨kvs,h⟩
     .obtain⟨ks,f,_⟩:=am _ _ h;exact .dK f
     .obtain⟨ks,f,_⟩:=am _ _ h;exact .dT f
  exact TH pins s Z H _ us Q I rs ⟨v,T,_,b,rfl,ty,VU X.K hs,k.at am (.bl b) r⟩
end
section
variable {X:Cx}{a b:Expr}{ta tb:aZ}{pos:Pos}{es:List Expr}{t:dS}
theorem VW{K:Ac}{H:Hp}{M:Mm}{R:K3}{Q:VK}{p:Addr}{xs:List V}{ws:List W}(am:AM K H M)(k:Up K H M R Q)(hp:H p=none)(ax:aM K H M xs ws)(r:R (.rl ws) M):Q (.ref p) (aX H p (.lst xs)):=by
 obtain⟨am2,k2⟩:=am.tup (u:=.lst xs) hp;exact k _ _ _ _ k2 am2 (.rl c9 (am.nonM hp) (ax.newT hp)) r
def gJ(t:dS):aZ:=λτ M R=>t τ M λws M1=>ws.length<=Am/\R (.rl ws) M1
theorem gS(h:A3 X es t):E3 X (.List es pos) (gJ t):=
 (D4 h).weak λZ H Q z0=>z0.el λτ M R as am h k=>⟨τ,M,_,as,am,h,λxs H1 ws M1 k1 am1 axs ⟨hl,r⟩=>⟨by rw[axs.length];exact hl,λp hp=>VW am1 (k.kp k1) hp axs r⟩⟩
theorem GY{f:Ae->Ae->Sem Ae}{r r':R3}(h:bG X f (cS X.K r))(k:∀x y M R,r' x y M R->r x y M λw M'=>frz w M' R):bG X f (cS X.K r'):=λpins s Z H x y v u Q I rx ry ⟨wx,wy,M,R,am,ax,ay,h',kk⟩=>
 h pins s Z H x y v u Q I rx ry ⟨wx,wy,M,_,am,ax,ay,k _ _ _ _ h',kk.frz⟩
theorem GZ{f:Ae}{r r':List W->Mm->K3->Prop}(h:dR X f (g9 X.K r))(k:∀x M R,r' x M R->r x M λw M'=>frz w M' R):dR X f (g9 X.K r'):=λpins s Z H xs us Q I rs ⟨ws,M,R,am,ax,h',kk⟩=>
 h pins s Z H xs us Q I rs ⟨ws,M,_,am,ax,k _ _ _ h',kk.frz⟩
def dY:R3
 | .int i,.int j,M,R=>R (.int (i+j)) M
 | .tup xs,.tup ys,M,R=>xs≠[]/\xs.length+ys.length<=Am/\R (.tup (xs++ys)) M
 | .ref a,.ref b,M,R=>∃xs ys,M a=some (.lst xs)/\M b=some (.lst ys)/\xs.length+ys.length<=Am/\R (.rl (xs++ys)) M
 | .rl xs,.ref b,M,R=>∃ys,M b=some (.lst ys)/\xs.length+ys.length<=Am/\R (.rl (xs++ys)) M
 | .ref a,.rl ys,M,R=>∃xs,M a=some (.lst xs)/\xs.length+ys.length<=Am/\R (.rl (xs++ys)) M
 | .rl xs,.rl ys,M,R=>xs.length+ys.length<=Am/\R (.rl (xs++ys)) M
 | _,_,_,_=>False
theorem dZ:bG X (Ff .Add) (cS X.K dY):=GY FR λx y M R h=>by
 cases x<;>first|exact(show False from h).elim|(cases y<;>first|exact(show False from h).elim|skip)
 case int.int i j=>exact h
 case tup.tup i j=>exact h
 case ref.ref i j=>obtain⟨xs,ys,h1,h2,h3,r⟩:=h;exact⟨xs,ys,h1,h2,h3,a9.frz r⟩
 case rl.ref i j=>obtain⟨ys,h2,h3,r⟩:=h;exact⟨ys,h2,h3,a9.frz r⟩
 case ref.rl i j=>obtain⟨ys,h2,h3,r⟩:=h;exact⟨ys,h2,h3,a9.frz r⟩
 case rl.rl i j=>exact⟨h.1,a9.frz h.2⟩
def tO:R3
 | .int i,.int j,M,R=>(oB i j\/sO i j)/\R (.int (i*j)) M
 | .ref a,.int n,M,R=>∃xs,M a=some (.lst xs)/\-(2 ^ 63)<=n/\n<2 ^ 63/\xs.length*n.toNat<=Am/\R (.rl (Bw n.toNat xs).flatten) M
 | .rl xs,.int n,M,R=>-(2 ^ 63)<=n/\n<2 ^ 63/\xs.length*n.toNat<=Am/\R (.rl (Bw n.toNat xs).flatten) M
 | _,_,_,_=>False
theorem xS:bG X (Ff .Mult) (cS X.K tO):=GY UR λx y M R h=>by
 cases x<;>first|exact(show False from h).elim|(cases y<;>first|exact(show False from h).elim|skip)
 case int.int i j=>exact h
 case ref.int i j=>obtain⟨xs,h1,h2,h3,h4,r⟩:=h;exact⟨xs,h1,h2,h3,h4,a9.frz r⟩
 case rl.int i j=>obtain⟨h2,h3,h4,r⟩:=h;exact⟨h2,h3,h4,a9.frz r⟩
def tP:List W->Mm->K3->Prop
 | [.tup ws],M,R=>R (.rl ws) M
 | [.rl ws],M,R=>R (.rl ws) M
 | [.sc ws],M,R=>R (.rl ws) M
 | [.dk kvs],M,R=>R (.rl (kvs.map λkv=>wK kv.1)) M
 | [.ref a],M,R=>(∃ws,M a=some (.lst ws)/\R (.rl ws) M)\/∃kvs,M a=some (.dK kvs)/\R (.rl (kvs.map λkv=>wK kv.1)) M
 | _,_,_=>False
theorem xT(hc:X.calm=true):dR X (.type "list") (g9 X.K tP):=GZ (GG hc) λx M R h=>by
 match x,h with
 | [.tup ws],h=>exact a9.frz h
 | [.rl ws],h=>exact a9.frz h
 | [.sc ws],h=>exact a9.frz h
 | [.dk kvs],h=>exact a9.frz h
 | [.ref a],h=>
  rcases h with⟨ws,e,r⟩|⟨kvs,e,r⟩
  .exact .inl ⟨ws,e,a9.frz r⟩
  .exact .inr ⟨kvs,e,a9.frz r⟩
def nS:W->Option Int->Option Int->Mm->K3->Prop
 | .rl ws,lo,hi,M,R=>R (.rl (eX ws lo hi)) M
 | .sc ws,lo,hi,M,R=>R (.rl (eX ws lo hi)) M
 | .ref a,lo,hi,M,R=>∃ws,M a=some (.lst ws)/\R (.rl (eX ws lo hi)) M
 | .tup ws,lo,hi,M,R=>¬(HT.sIx ws.length 0 lo=0/\HT.sIx ws.length ws.length hi=ws.length)/\R (.tup (eX ws lo hi)) M
 | _,_,_,_,_=>False
theorem VX{x:W}{l u:Option Int}{M:Mm}{R:K3}(h:nS x l u M R):F8 x l u M λw M'=>frz w M' R:=by
 cases x<;>first|exact(show False from h).elim|skip
 case tup ws=>exact h
 case rl ws=>exact a9.frz h
 case sc ws=>exact a9.frz h
 case ref a=>obtain⟨ws,e,r⟩:=h;exact⟨ws,e,a9.frz r⟩
def jO(ta:aZ)(tl th:oM):aZ:=λτ M R=>ta τ M λx M1=>tl τ M1 λl M2=>th τ M2 λu M3=>nS x l u M3 R
theorem j6{lo hi:Option Expr}{tl th:oM}{p2:Pos}(he:E3 X a ta)(hl:PO X lo (oN X.K tl))(hu:PO X hi (oN X.K th)):E3 X (.Subscript a (.Slice lo hi none p2) pos) (jO ta tl th):=
 (QZ U5 he hl hu).weak λZ H Q z0=>z0.el λτ M R as am h k=>⟨τ,M,_,as,am,h,λx H1 wx M1 k1 am1 ax h1=>⟨τ,M1,_,as.kp am k1,am1,h1,λl H2 M2 k2 am2 h2=>⟨τ,M2,_,(as.kp am k1).kp am1 k2,am2,h2,λu H3 M3 k3 am3 h3=>
  ⟨wx,M3,_,am3,(ax.kp am1 k2).kp am2 k3,VX h3,(((k.kp k1).kp k2).kp k3).frz⟩⟩⟩⟩
variable {sc:Hc}{N':List Str}{js:List (Option Nat)}{tg iter elt:Expr}{ifs:List Expr}{wi:i7}{g:e6}{tt:d7}{te:aZ}
theorem VY{i:Nat}{x:Str}{px spos:Pos}(hN:X.N.Nodup)(hi0:X.N[i]? = some x)(hx:Loc X.env.scope x)(N':List Str)(js:List (Option Nat))(hi:PI X tg iter (iV X.K wi))(hg:∀B,PG (eE X sc N' B) tg (iH X.K g))(ht:∀B,i0 (eE X sc N' B) ifs (kQ X.K tt))(he:∀B,PE (eE X sc N' B) elt (up X.K te))(S0:nH N' sc X.env.scope=true:=by kernel_rfl)(hj:fV N' X.N sc js N'=true:=by kernel_rfl)(hc:X.calm=true:=by rfl)(hsw:Je (.ListComp elt [⟨tg,iter,ifs,0⟩] sc pos) (some (.Name x px)) spos.line X.env=pure true:=by rfl)(hf:X.fn x=true\/X.env.scope.names.lookup x=some .local:=by first|exact .inl rfl|exact .inr rfl|assumption)(hs:∀x,Gm iter X.env x=pure x:=by intro _;rfl):P3 X (.Assign [.Name x px] (.ListComp elt [⟨tg,iter,ifs,0⟩] sc pos) spos) (bK i (dN (h9 wi g tt te js))):=
 (S9 hN hi0 hx N' js hi hg ht he S0 hj hc hsw hf hs).weak λD Z H z0=>z0.el λτ M D' as am h k=>GS ⟨τ,M,_,as,am,h,Up.frz λy H1 wy M1 k1 am1 ay h1=>k.nx _ _ _ _ k1 am1 ((as.kp am k1).set ay i) h1⟩
end
def Pl:Nat->W->Prop
 | _,.non=>True
 | _,.int _=>True
 | _,.str x=>PyData.strOk x=true
 | n+1,.tup ws=>∀w∈ws,Pl n w
 | n+1,.rl ws=>∀w∈ws,Pl n w
 | _,_=>False
def dP(M:Mm):W->W
 | .ref a=>match M a with
  | some (.lst ws)=>.rl ws
  | _=>.ref a
 | w=>w
section
variable {M:Mm}
theorem xU{n:Nat}(ih:∀{w:W},Pl n w->∃d,Snap M w d/\d.canLay0=true/\d.depth<=n):∀{ws:List W},(∀w∈ws,Pl n w)->∃ds,i4 M ws ds/\PyData.canLayAll0 ds=true/\PyData.depthAll ds<=n
 | [],_=>⟨[],.nil,rfl,by simp[PyData.depthAll]⟩
 | w::ws,h=>by
  obtain⟨d,s,c,e⟩:=ih (h w Bk);obtain⟨ds,ss,cc,ee⟩:=xU ih λz hz=>h z (Ba _ hz);exact⟨d::ds,.cons s ss,by simp[PyData.canLayAll0,c,cc],by simp only[PyData.depthAll];lia⟩
theorem qD:∀{n:Nat} {w:W},Pl n w->∃d,Snap M w d/\d.canLay0=true/\d.depth<=n:=by
 intro n
 induction n with
 | zero=>
  intro w h;cases w<;>first|exact(show False from h).elim|skip
  case non=>exact⟨_,.non,rfl,by simp[Hn]⟩
  case int i=>exact⟨_,.int i,rfl,by simp[Hn]⟩
  case str x=>exact⟨_,.str x,h,by simp[Hn]⟩
 | succ n ih=>
  intro w h;cases w<;>first|exact(show False from h).elim|skip
  case non=>exact⟨_,.non,rfl,by simp[Hn]⟩
  case int i=>exact⟨_,.int i,rfl,by simp[Hn]⟩
  case str x=>exact⟨_,.str x,h,by simp[Hn]⟩
  case tup ws=>
   obtain⟨ds,s,c,e⟩:=xU ih h;exact⟨_,.tup s,by simpa [PyData.canLay0] using c,by simp only[Hn];lia⟩
  case rl ws=>
   obtain⟨ds,s,c,e⟩:=xU ih h;exact⟨_,.rl s,by simpa [PyData.canLay0] using c,by simp only[Hn];lia⟩
theorem G0{n:Nat}{w:W}(h:Pl n (dP M w)):∃d,Snap M w d/\Snap M (dP M w) d/\d.canLay0=true/\d.depth<=n:=by
 obtain⟨d,s,c,e⟩:=qD (M:=M) h;refine⟨d,?_,s,c,e⟩;cases w<;>first|exact s|skip
 case ref a=>
  cases q:M a with
  | none=>
   have e:dP M (.ref a)=.ref a:=by simp[dP,q]
   rw[e]at s;exact s
  | some o=>
   cases o with
   | lst ws=>
    have e:dP M (.ref a)=.rl ws:=by simp[dP,q]
    rw[e]at s;cases s with
    | rl r=>exact .ref q r
   | dK _=>
    have e:dP M (.ref a)=.ref a:=by simp[dP,q]
    rw[e]at s;exact s
   | dT _=>
    have e:dP M (.ref a)=.ref a:=by simp[dP,q]
    rw[e]at s;exact s
   | fix _=>
    have e:dP M (.ref a)=.ref a:=by simp[dP,q]
    rw[e]at s;exact s
   | ins _ _ _=>
    have e:dP M (.ref a)=.ref a:=by simp[dP,q]
    rw[e]at s;exact s
   | tb _ _=>
    have e:dP M (.ref a)=.ref a:=by simp[dP,q]
    rw[e]at s;exact s
   | cl _ _ _ _=>
    have e:dP M (.ref a)=.ref a:=by simp[dP,q]
    rw[e]at s;exact s
theorem G2{n:Nat}(ih:∀{x y:W} {dx dy:Ku},Pl n x->Pl n y->Snap M x dx->Snap M y dy->(Ij dx dy=true↔x=y)):∀{xs ys:List W} {dx dy:List Ku},(∀w∈xs,Pl n w)->(∀w∈ys,Pl n w)->i4 M xs dx->i4 M ys dy->(Lw dx dy=true↔xs=ys):=by
 intro xs
 induction xs with
 | nil=>
  intro ys dx dy hx hy s1 s2;cases s1;cases s2<;>simp[Lw]
 | cons x xs IH=>
  intro ys dx dy hx hy s1 s2;cases s1 with
  | cons s1 r1=>
   cases s2 with
   | nil=>simp[Lw]
   | cons s2 r2=>
    rw[Lw,Cr,ih (hx x Bk) (hy _ Bk) s1 s2,IH (λz hz=>hx z (Ba _ hz)) (λz hz=>hy z (Ba _ hz)) r1 r2];simp
theorem xV:∀{n:Nat} {x y:W} {dx dy:Ku},Pl n x->Pl n y->Snap M x dx->Snap M y dy->(Ij dx dy=true↔x=y):=by
 intro n
 induction n with
 | zero=>
  intro x y dx dy hx hy sx sy;cases sx<;>first|exact(show False from hx).elim|skip
  all_goals cases sy<;>first|exact(show False from hy).elim|simp[Ij]
 | succ n ih=>
  intro x y dx dy hx hy sx sy;cases sx<;>first|exact(show False from hx).elim|skip
  all_goals cases sy<;>first|exact(show False from hy).elim|skip
  all_goals first|(simp[Ij];done)|skip
  case tup.tup r1 _ _ r2=>rw[Ij,G2 ih hx hy r1 r2];simp
  case rl.rl r1 _ _ r2=>rw[Ij,G2 ih hx hy r1 r2];simp
theorem VZ{neg:Bool}{x y:W}{R:K3}(n:Nat)(hn:n<=60)(hx:Pl n (dP M x))(hy:Pl n (dP M y))(h:∀b:Bool,(b=true↔dP M x=dP M y)->R (.bl (if neg then !b else b)) M):p8 neg x y M R:=by
 obtain⟨dx,s1,s1',c1,e1⟩:=G0 hx;obtain⟨dy,s2,s2',c2,e2⟩:=G0 hy;exact⟨dx,dy,s1,s2,⟨c1,by lia⟩,⟨c2,by lia⟩,h _ (xV hx hy s1' s2')⟩
theorem V0{neg:Bool}{x y:W}{R:K3}(n:Nat)(hn:n<=60)(hx:Pl n (dP M x))(hy:Pl n (dP M y))(h:∀b:Bool,(b=true↔dP M x=dP M y)->R (.bl (if neg then !b else b)) M):rEq neg x y M R:=by
 have d:=VZ n hn hx hy h;cases x<;>first|exact d|skip
 case int i=>
  cases y<;>first|exact d|skip
  case int j=>exact h (decide (i=j)) (by simp[dP])
 case str i=>
  cases y<;>first|exact d|skip
  case str j=>exact h (decide (i=j)) (by simp[dP])
 case bl i=>
  cases y<;>first|exact d|skip
  case bl j=>exact(show False by cases n<;>exact hx).elim
end
theorem tQ{M:Mm}{neg:Bool}{x y:W}{R:K3}(n:Nat)(hn:n<=60)(hx:Pl n (dP M x))(e:dP M y=dP M x)(h:R (.bl (!neg)) M):rEq neg x y M R:=by
 refine V0 n hn hx (by rw[e];exact hx) λb hb=>?_;have:b=true:=hb.mpr e.symm;subst this;cases neg<;>exact h
theorem tR{ws:List W}{keep:Mm->Prop}{g:e6}{tt:d7}{te:aZ}{τ₀:S3}{M1:Mm}{R:K3}(St:S3->Prop)(tgt:W->S3)(Rel:W->Option W->Prop)(hl:ws.length<=Am)(hk:∀M,Sub M1 M->keep M)(h0:St τ₀)(ht:∀w∈ws,St (tgt w))(hg:∀w∈ws,∀τ M (C:S3->Mm->Prop),St τ->C (tgt w) M->g w τ M C)(hs:∀w∈ws,∀M (C:K3) (D:Mm->Prop),Sub M1 M->(∀y,Rel w (some y)->C y M)->(Rel w none->D M)->tt (tgt w) M λb M3=>if b=true then te (tgt w) M3 C else D M3)(r:∀os,Gj Rel ws os->a9 (os.filterMap id) M1 R):oP ws keep g tt te τ₀ M1 R:=by
 intro p hp;refine⟨λi τ acc M=>St τ/\(∃os,Gj Rel (ws.take i) os/\acc=os.filterMap id)/\M=M1,⟨h0,⟨[],by simp;exact .nil,rfl⟩,rfl⟩,?_,?_,?_⟩
 .rintro vs i τ acc M _ mp ⟨_,_,rfl⟩;exact hk _ (Sub.new hp)
 .rintro vs i w τ acc M hw mp ⟨st,⟨os,po,rfl⟩,rfl⟩;have hm:w∈ws:=Bf hw;have hi:i<ws.length:=(Ai.mp hw).1;have htk:ws.take (i+1)=ws.take i++[w]:=by rw[Fl,hw];rfl
  have snoc:∀o,Rel w o->Gj Rel (ws.take (i+1)) (os++[o]):=λo ro=>by
   rw[htk];clear hw mp st htk
   revert os
   generalize ws.take i=l;intro os po
   induction po with
   | nil=>exact .cons ro .nil
   | cons a b ih=>exact .cons a ih
  have hlen:(os.filterMap id).length<Am:=by
   have h1:=List.length_filterMap_le id os;have h2:=Eg po;rw[Bp]at h2;lia
  refine hg w hm τ _ _ st (hs w hm _ _ _ (Sub.new hp) (λy hy=>⟨aY,hlen,M,?_,ht w hm,⟨_,snoc _ hy,?_⟩,rfl⟩) λhn=>⟨aY,M,?_,ht w hm,⟨_,snoc _ hn,?_⟩,rfl⟩)
  .rw[mM hp];exact Sub.refl _
  .simp
  .rw[mM hp];exact Sub.refl _
  .simp
 .rintro τ acc M mp ⟨_,⟨os,po,rfl⟩,rfl⟩;rw[Ck]at po;exact r os po p hp
def xW(rest:S3):S3->Prop:=λτ=>∃o,τ=o::rest
theorem oQ{ws:List W}{keep:Mm->Prop}{te:aZ}{o:Option W}{rest:S3}{M1:Mm}{R:K3}(f:W->W)(hl:ws.length<=Am)(hk:∀M,Sub M1 M->keep M)(hs:∀w∈ws,∀M (C:K3),Sub M1 M->C (f w) M->te (some w::rest) M C)(r:a9 (ws.map f) M1 R):oP ws keep (bY 0) k7 te (o::rest) M1 R:=by
 refine tR (xW rest) (λw=>some w::rest) (λw o=>o=some (f w)) hl hk ⟨_,rfl⟩ (λw _=>⟨_,rfl⟩) ?_ ?_ ?_
 .rintro w _ τ M C ⟨o,rfl⟩ h;exact h
 .intro w hw M C D sb h1 _;show(if true=true then te (some w::rest) M C else D M);rw[if_pos rfl];exact hs w hw M C sb (h1 _ rfl)
 .intro os po;have:os.filterMap id=ws.map f:=by
   clear r hs hl hk
   induction po with
   | nil=>rfl
   | cons a b ih=>subst a;simp[ih]
  rw[this];exact r
theorem tS{ws:List W}{keep:Mm->Prop}{tt:d7}{te:aZ}{o:Option W}{rest:S3}{M1:Mm}{R:K3}(f:W->Option W)(hl:ws.length<=Am)(hk:∀M,Sub M1 M->keep M)(hs:∀w∈ws,∀M (C:K3) (D:Mm->Prop),Sub M1 M->(∀y,f w=some y->C y M)->(f w=none->D M)->tt (some w::rest) M λb M3=>if b=true then te (some w::rest) M3 C else D M3)(r:a9 (ws.filterMap f) M1 R):oP ws keep (bY 0) tt te (o::rest) M1 R:=by
 refine tR (xW rest) (λw=>some w::rest) (λw o=>o=f w) hl hk ⟨_,rfl⟩ (λw _=>⟨_,rfl⟩) ?_ ?_ ?_
 .rintro w _ τ M C ⟨o,rfl⟩ h;exact h
 .intro w hw M C D sb h1 h2;exact hs w hw M C D sb (λy e=>h1 y e.symm) λe=>h2 e.symm
 .intro os po;have:os.filterMap id=ws.filterMap f:=by
   clear r hs hl hk
   induction po with
   | nil=>rfl
   | @cons a b c d e _ ih=>
    subst e;cases q:f a<;>simp[q,ih]
  rw[this];exact r
theorem V1{ws:List W}{keep:Mm->Prop}{te:aZ}{o:Option W}{rest:S3}{M1:Mm}{R:K3}(P:W->W->Prop)(hl:ws.length<=Am)(hk:∀M,Sub M1 M->keep M)(hs:∀w∈ws,∀M (C:K3),Sub M1 M->(∀y,P w y->C y M)->te (some w::rest) M C)(r:∀ys,Gj P ws ys->a9 ys M1 R):oP ws keep (bY 0) k7 te (o::rest) M1 R:=by
 refine tR (xW rest) (λw=>some w::rest) (λw o=>∃y,o=some y/\P w y) hl hk ⟨_,rfl⟩ (λw _=>⟨_,rfl⟩) ?_ ?_ ?_
 .rintro w _ τ M C ⟨o,rfl⟩ h;exact h
 .intro w hw M C D sb h1 _;show(if true=true then te (some w::rest) M C else D M);rw[if_pos rfl];exact hs w hw M C sb λy py=>h1 y ⟨y,rfl,py⟩
 .intro os po;have:∃ys,os=ys.map some/\Gj P ws ys:=by
   clear r hs hl hk
   induction po with
   | nil=>exact⟨[],rfl,.nil⟩
   | cons a b ih=>
    obtain⟨y,rfl,py⟩:=a;obtain⟨ys,rfl,h⟩:=ih;exact⟨y::ys,rfl,.cons py h⟩
  obtain⟨ys,rfl,py⟩:=this;rw[Kg];have:(ys.filterMap (id ∘ some))=ys:=by simp
  rw[this];exact r ys py
def V2(rest:S3):S3->Prop:=λτ=>∃o1 o2,τ=o1::o2::rest
def V3(rest:S3):W->S3
 | .tup [a,b]=>some a::some b::rest
 | _=>none::none::rest
abbrev V4:e6:=j3 2 (e7 (bY 0) (e7 (bY 1) j0))
theorem V5{ws:List W}{keep:Mm->Prop}{tt:d7}{te:aZ}{o1 o2:Option W}{rest:S3}{M1:Mm}{R:K3}(P:W->Option W->Prop)(hw:∀w∈ws,∃a b,w=.tup [a,b])(hl:ws.length<=Am)(hk:∀M,Sub M1 M->keep M)(hs:∀a b,.tup [a,b]∈ws->∀M (C:K3) (D:Mm->Prop),Sub M1 M->(∀y,P (.tup [a,b]) (some y)->C y M)->(P (.tup [a,b]) none->D M)->tt (some a::some b::rest) M λb' M3=>if b'=true then te (some a::some b::rest) M3 C else D M3)(r:∀os,Gj P ws os->a9 (os.filterMap id) M1 R):oP ws keep V4 tt te (o1::o2::rest) M1 R:=by
 refine tR (V2 rest) (V3 rest) P hl hk ⟨_,_,rfl⟩ (λw hm=>?_) ?_ ?_ r
 .obtain⟨a,b,rfl⟩:=hw w hm;exact⟨_,_,rfl⟩
 .rintro w hm τ M C ⟨u1,u2,rfl⟩ h;obtain⟨a,b,rfl⟩:=hw w hm;exact⟨rfl,rfl,h⟩
 .intro w hm M C D sb h1 h2;obtain⟨a,b,rfl⟩:=hw w hm;exact hs a b hm M C D sb h1 h2
structure Df(K:Ac)(mg:Str->Option Ae)(x:Str)(st:Stmt)(ps:List Str)(f:Addr)(fd:Bi):Prop where
 fn:jJ K x x st f fd
 at_:mg x=some (.ref f)
 bi:Binds K fd ps []
theorem dQ:Co "len" = some (.builtin "len"):=PySem.boot_len
theorem qE:Co "list" = some (.type "list"):=by decide +kernel
theorem oR:Co "tuple" = some (.type "tuple"):=by decide +kernel
theorem xX:Co "int" = some (.type "int"):=by decide +kernel
theorem G3:Co "bool" = some (.type "bool"):=by decide +kernel
theorem V6:Co "dict" = some (.type "dict"):=by decide +kernel
theorem lU:Co "isinstance" = some (.builtin "isinstance"):=by decide +kernel
theorem V7:Co "all" = some (.builtin "all"):=by decide +kernel
theorem V8:Co "sorted" = some (.builtin "sorted"):=by decide +kernel
theorem V9{O:Type}(x:O)(xs:List O):cJ (x::xs) 0=some x:=by simp[cJ,iD]
theorem WA{O:Type}{xs:List O}{i:Int}(h0:0<=i)(h1:i<xs.length):∃x,cJ xs i=some x/\xs[i.toNat]? = some x/\x∈xs:=by
 have hlt:i.toNat<xs.length:=by lia
 refine⟨xs[i.toNat],?_,Ak hlt,Hw hlt⟩;simp[cJ,iD,h0,h1,hlt]
def gK(x:Str):Prop:=PyData.strOk x=true
theorem fT{n:Nat}(h:n<=10000000):n<=Am:=Au h (by decide)
theorem eO{n:Nat}(h:n<10000000):n<Am:=Ca h (by decide)
theorem G4{M:Mm}{a:Addr}{k:Str}{v:W}{kvs:List (aK×W)}{Q:Mm->Prop}(h:M a=some (.dK kvs))(hl:kvs.length<Am)(q:Q (put M a (.dK (cT kvs (Sum.inr k) v)))):tJ (.ref a) (.str k) v M Q:=.inr (.inl ⟨kvs,.inr k,rfl,h,hl,q⟩)
theorem oS{M:Mm}{a:Addr}{k:List aK}{v:W}{kvs:List (List aK×W)}{Q:Mm->Prop}(h:M a=some (.dT kvs))(hl:kvs.length<Am)(q:Q (put M a (.dT (cT kvs k v)))):tJ (.ref a) (.tup (k.map wK)) v M Q:=.inr (.inr ⟨kvs,k,rfl,h,hl,q⟩)
section
variable {X:Cx}{a b c:Expr}{ta tb tc:aZ}{pos:Pos}
theorem WB{K:Ac}{r r':R3}{Z:SV}{H:Hp}{Q:VK}(h:up K (xR r r' ta tb tc) Z H Q):DV (cS K r) (cS K r') (up K ta) (up K tb) (up K tc) Z H Q:=by
 obtain⟨τ,M,R,as,am,h,k⟩:=h;refine⟨τ,M,_,as,am,h,λx H1 wx M1 k1 am1 ax h1=>⟨τ,M1,_,as.kp am k1,am1,h1,λy H2 wy M2 k2 am2 ay h2=>⟨wx,wy,M2,_,am2,ax.kp am1 k2,ay,h2,λz H3 wz M3 k3 am3 az ⟨c,e,h3⟩=>?_⟩⟩⟩;subst e;refine⟨c,az.bl_inv,?_⟩;cases c with
 | false=>exact((k.kp k1).kp k2).kp k3 |>.at am3 (.bl false) h3
 | true=>exact⟨τ,M3,_,((as.kp am k1).kp am1 k2).kp am2 k3,am3,h3,λw H4 ww M4 k4 am4 aw h4=>⟨wy,ww,M4,R,am4,(ay.kp am2 k3).kp am3 k4,aw,h4,(((k.kp k1).kp k2).kp k3).kp k4⟩⟩
theorem WC{op op':CmpOp}{r r':R3}(ho:bG X (Cb op) (cS X.K r))(ho':bG X (Cb op') (cS X.K r'))(ha:E3 X a ta)(hb:E3 X b tb)(hc:E3 X c tc)(hm:lastMarks [op,op'] [b,c]=false:=by with_unfolding_all rfl):T3 X (.Compare a [op,op'] [b,c] pos) (bV (xR r r' ta tb tc)):=
 (PK ho ho' ha hb hc hm).weak λZ H Q z0=>z0.el λτ M R as am h k=>WB ⟨τ,M,_,as,am,h,λv H' w M' k' am' av ⟨c,e,r⟩=>by
  subst e;exact⟨c,av.bl_inv,k c H' M' k' am' r⟩⟩
end
def j7:Nat->List W->List W
 | _,[]=>[]
 | n,w::r=>.tup [.int n,w]::j7 (n+1) r
theorem qF:∀{ws:List W} {n:Nat},(j7 n ws).length=ws.length
 | [],_=>rfl
 | _::r,n=>by simp[j7,qF (ws:=r)]
theorem xY:∀{ws:List W} {n i:Nat},(j7 n ws)[i]? = (ws[i]?).map λw=>W.tup [.int ((n+i:Nat):Int),w]
 | [],_,_=>by simp[j7]
 | w::r,n,0=>by simp[j7]
 | w::r,n,i+1=>by
  rw[j7,Gq,Gq,xY];congr 2;funext w;congr 4;lia
section
variable {X:Cx}{a b c:Expr}{ta tb tc:aZ}{pos:Pos}
def jA:List W->List W->List W
 | x::xs,y::ys=>.tup [x,y]::jA xs ys
 | _,_=>[]
theorem mW:∀{xs ys:List W},(jA xs ys).length=min xs.length ys.length
 | [],_=>by simp[jA]
 | _::_,[]=>by simp[jA]
 | _::xs,_::ys=>by simp[jA,mW (xs:=xs)]
theorem tT:∀{xs ys:List W} {i:Nat} {x y:W},xs[i]? = some x->ys[i]? = some y->(jA xs ys)[i]? = some (.tup [x,y])
 | [],_,_,_,_,h,_=>by simp at h
 | _::_,[],_,_,_,_,h=>by simp at h
 | _::xs,_::ys,0,_,_,h,h'=>by simp at h h';simp[jA,h,h']
 | _::xs,_::ys,i+1,_,_,h,h'=>by simpa [jA] using tT (xs:=xs) (ys:=ys) (i:=i) (by simpa using h) (by simpa using h')
end
section
variable {X:Cx}{a b c:Expr}{ta tb tc:aZ}{pos:Pos}
theorem WD{K:Ac}{H0:Hp}{M0:Mm}{p q:Addr}{vs us:List V}{ws zs:List W}(am0:AM K H0 M0)(e1:H0 p=some (.tup vs))(e2:H0 q=some (.tup us))(r1:aM K H0 M0 vs ws)(r2:aM K H0 M0 us zs):i8 K H0 M0 (sS K p q vs us) (jA ws zs) λ_=>True:=by
 have s1:∀H M,Kp H0 M0 H M->bW K H p vs:=λH M k=>bW.of (k.fr _ _ (am0.noTup e1) e1).1;have s2:∀H M,Kp H0 M0 H M->bW K H q us:=λH M k=>bW.of (k.fr _ _ (am0.noTup e2) e2).1;refine⟨λi H M k am _ hi=>⟨s1 H M k,s2 H M k,?_,?_⟩,λH M k am _=>⟨s1 H M k,s2 H M k,?_⟩,λi H M x H' k am _ hi y=>?_⟩
 .rw[mW]at hi;rw[r1.length];lia
 .rw[mW]at hi;rw[r2.length];lia
 .rw[mW,r1.length,r2.length];lia
 .obtain⟨pp,u,v,hu,hv,hn,rfl,rfl⟩:=y;obtain⟨w,hw,av⟩:=(r1.kp am0 k).getV hu;obtain⟨z,hz,az⟩:=(r2.kp am0 k).getV hv;obtain⟨am2,k2⟩:=am.tup (u:=.tup [u,v]) hn;exact⟨.tup [w,z],tT hw hz,k2,am2,.tup c9 (.cons (av.go (go_same hn)) (.cons (az.go (go_same hn)) .nil))⟩
theorem WE{K:Ac}{H0:Hp}{M0:Mm}{p q:Addr}{vs us:List V}{ws zs:List W}(am0:AM K H0 M0)(e1:H0 p=some (.lst vs))(n1:M0 p=none)(e2:H0 q=some (.lst us))(n2:M0 q=none)(r1:aM K H0 M0 vs ws)(r2:aM K H0 M0 us zs):i8 K H0 M0 (sR K p q vs us) (jA ws zs) λ_=>True:=by
 have s1:∀H M,Kp H0 M0 H M->bN K H p vs:=λH M k=>bN.of (k.fr _ _ n1 e1).1;have s2:∀H M,Kp H0 M0 H M->bN K H q us:=λH M k=>bN.of (k.fr _ _ n2 e2).1;refine⟨λi H M k am _ hi=>⟨s1 H M k,s2 H M k,?_,?_⟩,λH M k am _=>⟨s1 H M k,s2 H M k,?_⟩,λi H M x H' k am _ hi y=>?_⟩
 .rw[mW]at hi;rw[r1.length];lia
 .rw[mW]at hi;rw[r2.length];lia
 .rw[mW,r1.length,r2.length];lia
 .obtain⟨pp,u,v,hu,hv,hn,rfl,rfl⟩:=y;obtain⟨w,hw,av⟩:=(r1.kp am0 k).getV hu;obtain⟨z,hz,az⟩:=(r2.kp am0 k).getV hv;obtain⟨am2,k2⟩:=am.tup (u:=.tup [u,v]) hn;exact⟨.tup [w,z],tT hw hz,k2,am2,.tup c9 (.cons (av.go (go_same hn)) (.cons (az.go (go_same hn)) .nil))⟩
def WG:List W->Mm->(List W->(Mm->Prop)->Mm->Prop)->Prop
 | [.tup xs,.tup ys],M,R=>R (jA xs ys) (λ_=>True) M
 | [.rl xs,.rl ys],M,R=>R (jA xs ys) (λ_=>True) M
 | _,_,_=>False
def G5(ta:dS):i7:=λτ M R=>ta τ M λws M1=>WG ws M1 R
theorem WH{tA:dS}{p pos:Pos}{es:List Expr}{kx:Nat}{px:Pos}(hg:Gl X "zip")(hm:X.mg "zip" = none)(ha:A3 X [a,b] tA)(hs:Be [a,b] X.env=[(false,eval a X.env),(false,eval b X.env)]:=by rfl)(hs2:Be [b] X.env=[(false,eval b X.env)]:=by rfl):
  PI X (.Tuple es kx px) (.Call (.Name "zip" p) [a,b] [] pos) (iV X.K (G5 tA)):=
 (T9 hg hm ha hs hs2).weak λZ H R' z0=>z0.el λτ M R as am h k=>⟨τ,M,_,as,am,h,λvs H1 ws M1 k1 am1 ax r=>by
  match ws,r with
  | [.tup xs,.tup ys],r=>
   obtain⟨v,u,e,av,au⟩:=ax.two;obtain⟨a1,x1,f1,e1,q1⟩:=av.inv;obtain⟨a2,x2,f2,e2,q2⟩:=au.inv;exact⟨a1,a2,_,_,by rw[e,f1,f2],.inl ⟨bW.of e1,bW.of e2,k _ _ _ _ _ k1 am1 (WD am1 e1 e2 q1 q2) r⟩⟩
  | [.rl xs,.rl ys],r=>
   obtain⟨v,u,e,av,au⟩:=ax.two;obtain⟨a1,x1,f1,e1,n1,q1⟩:=av.inv;obtain⟨a2,x2,f2,e2,n2,q2⟩:=au.inv;exact⟨a1,a2,_,_,by rw[e,f1,f2],.inr ⟨bN.of e1,bN.of e2,k _ _ _ _ _ k1 am1 (WE am1 e1 n1 e2 n2 q1 q2) r⟩⟩⟩
end
section
variable {X:Cx}
def WI:List W->Mm->K3->Prop
 | [.dk kvs],M,R=>∃ks:List Str,kvs.map Dz=ks.map Sum.inr/\ks.length<64/\∀ss:List Str,ss.Perm ks->a9 (ss.map W.str) M R
 | _,_,_=>False
def G6:List W->Mm->K3->Prop
 | [.dk kvs],M,R=>∃ks:List Str,kvs.map Dz=ks.map Sum.inr/\ks.length<64/\∀ss:List Str,ss.Perm ks->R (.rl (ss.map W.str)) M
 | _,_,_=>False
theorem WJ{K:Ac}{H:Hp}{M:Mm}(ss:List Str):aM K H M (ss.map V.str) (ss.map W.str):=by
 induction ss with
 | nil=>exact .nil
 | cons s r ih=>exact .cons (.str s) ih
theorem WK(hc:X.calm=true):dR X (.builtin "sorted") (g9 X.K WI):=by
 rintro pins s Z H xs us Q I rs ⟨ws,M,R,am,axs,h,k⟩
 match ws,h with
 | [.dk kvs],h=>
  obtain⟨v,rfl,av⟩:=axs.one;obtain⟨ks,hk,h64,r⟩:=h;cases av with
  | dk e n ke q=>exact UA hc pins s Z H _ us Q I rs ⟨_,_,ks,rfl,e,ke.trans hk,h64,λss hp p hp'=>iQ am k hp' (WJ ss) (r ss hp)⟩
theorem WL(hc:X.calm=true):dR X (.builtin "sorted") (g9 X.K G6):=GZ (WK hc) λx M R h=>by
 match x,h with
 | [.dk kvs],⟨ks,h1,h2,r⟩=>exact⟨ks,h1,h2,λss hp=>a9.frz (r ss hp)⟩
end
end L3
namespace Rg
open PySem Spec PyProof.Rows L2 L3
structure a7 where
 name:Str
 parts:List Str
 cost:Int
def fN(acc:List Str)(t:Str):List Str:=if t∈acc then acc else acc++[t]
def nT(acc:List Str)(rs:List a7):List Str:=(rs.map a7.name).foldl fN acc
def namesOf(rs:List a7):List Str:=nT [] rs
theorem qG{acc:List Str}{t u:Str}:u∈fN acc t↔u∈acc\/u=t:=by
 unfold fN;split
 .rename_i h;constructor
  .exact .inl
  .rintro(q|q)
   .exact q
   .rw[q];exact h
 .rw[Bj,Ao]
theorem WM{acc:List Str}{t:Str}:(fN acc t).length<=acc.length+1:=by
 unfold fN;split
 .lia
 .rw[Ah];exact An _
theorem xZ:∀{ts acc:List Str} {u:Str},u∈ts.foldl fN acc↔u∈acc\/u∈ts
 | [],acc,u=>by simp
 | t::r,acc,u=>by
  rw[Ea,xZ,qG,Ar];constructor
  .rintro((h|h)|h)
   .exact .inl h
   .exact .inr (.inl h)
   .exact .inr (.inr h)
  .rintro(h|h|h)
   .exact .inl (.inl h)
   .exact .inl (.inr h)
   .exact .inr h
theorem nU{rs:List a7}{u:Str}:u∈namesOf rs↔∃r∈rs,r.name=u:=by
 unfold namesOf nT;rw[xZ];simp
theorem tU:∀(ts acc:List Str),(ts.foldl fN acc).length<=acc.length+ts.length
 | [],acc=>by simp
 | t::r,acc=>by
  rw[Ea,Az];have:=tU r (fN acc t);have:=WM (acc:=acc) (t:=t);lia
def d9(r:a7):W:=.tup [.str r.name,.tup (r.parts.map W.str),.int r.cost]
def cM(rs:List a7):W:=.rl (rs.map d9)
def cN(rs:List a7)(t:Str):Bool:=decide (t∈namesOf rs)
abbrev aJ:=Int×Int
def cU(a b:aJ):Bool:=decide (a.1<b.1)||(decide (a.1=b.1)&&decide (a.2<b.2))
theorem oT{a b:aJ}:cU a b=true↔a.1<b.1\/a.1=b.1/\a.2<b.2:=by simp[cU]
def Le(a b:aJ):Prop:=a.1<b.1\/a.1=b.1/\a.2<=b.2
theorem yA{a b:aJ}:Le a b↔¬cU b a=true:=by
 rw[oT];unfold Le;lia
theorem Le.refl(a:aJ):Le a a:=.inr ⟨rfl,Ht _⟩
theorem Le.trans{a b c:aJ}(h:Le a b)(h':Le b c):Le a c:=by unfold Le at *;lia
theorem Le.of_lt{a b:aJ}(h:cU a b=true):Le a b:=by rw[oT]at h;unfold Le;lia
theorem Le.antisymm{a b:aJ}(h:Le a b)(h':Le b a):a=b:=by
 unfold Le at *;exact Prod.ext (by lia) (by lia)
theorem qH{a:aJ}:¬cU a a=true:=by rw[oT];lia
theorem qI{a b c:aJ}(h:cU a b=true)(h':Le b c):cU a c=true:=by rw[oT]at *;unfold Le at h';lia
def eL(a b:aJ):aJ:=(a.1+b.1,a.2+b.2)
theorem WN{a b c d:aJ}(h:Le a b)(h':Le c d):Le (eL a c) (eL b d):=by unfold Le eL at *;simp only;lia
section
variable {U J:Type}[DecidableEq U]
def aH(t:List (U×J))(k:U):Option J:=(t.find? λe=>decide (e.1=k)).map (·.2)
def c8(t:List (U×J))(k:U)(v:J):List (U×J):=if (t.any λe=>decide (e.1=k))=true then t.map (λe=>if e.1=k then(e.1,v) else e) else t++[(k,v)]
theorem eA(e:U×J)(t:List (U×J))(k:U):aH (e::t) k=if e.1=k then some e.2 else aH t k:=by
 unfold aH;rw[Fe]
 by_cases h:e.1=k
 .rw[decide_eq_true h,if_pos h];rfl
 .rw[decide_eq_false h,if_neg h]
theorem mX(t:List (U×J))(k:U):(t.any λe=>decide (e.1=k))=(aH t k).isSome:=by
 induction t with
 | nil=>rfl
 | cons e t ih=>
  rw[Fs,eA,ih]
  by_cases h:e.1=k
  .rw[decide_eq_true h,if_pos h];rfl
  .rw[decide_eq_false h,if_neg h];rfl
theorem yB(t:List (U×J))(k j:U)(v:J):aH (t++[(k,v)]) j=(aH t j).or (if k=j then some v else none):=by
 induction t with
 | nil=>rw[Gw,eA];rfl
 | cons e t ih=>
  rw[List.cons_append,eA,eA,ih];split<;>rfl
theorem WO(t:List (U×J))(k j:U)(v:J)(h:(aH t k).isSome=true):aH (t.map (λe=>if e.1=k then(e.1,v) else e)) j=if k=j then some v else aH t j:=by
 induction t with
 | nil=>cases h
 | cons e t ih=>
  rw[Bd,eA,eA];rw[eA]at h
  by_cases hk:e.1=k
  .rw[if_pos hk]
   by_cases hj:k=j
   .rw[if_pos (by rw[hk,hj]:(e.1,v).1=j),if_pos hj]
   .rw[if_neg (by rw[hk];exact hj),if_neg hj,if_neg (by rw[hk];exact hj)]
    by_cases ht:(aH t k).isSome=true
    .rw[ih ht,if_neg hj]
    .have:∀{t:List (U×J)},¬(aH t k).isSome=true->t.map (λe=>if e.1=k then(e.1,v) else e)=t:=by
      intro t
      induction t with
      | nil=>intro _;rfl
      | cons a t ih=>
       intro h;rw[eA]at h
       by_cases ha:a.1=k
       .rw[if_pos ha]at h;exact absurd rfl h
       .rw[if_neg ha]at h;rw[Bd,if_neg ha,ih h]
     rw[this ht]
  .rw[if_neg hk]at h⊢
   by_cases hj:e.1=j
   .rw[if_pos hj,if_pos hj,if_neg (λz=>hk (by rw[hj,z]))]
   .rw[if_neg hj,if_neg hj];exact ih h
theorem k9(t:List (U×J))(k j:U)(v:J):aH (c8 t k v) j=if k=j then some v else aH t j:=by
 unfold c8;rw[mX];split
 .rename_i h;exact WO t k j v h
 .rename_i h;rw[yB]
  by_cases hj:k=j
  .subst hj;rw[if_pos rfl,if_pos rfl];cases e:aH t k with
   | none=>rfl
   | some z=>rw[e]at h;exact absurd rfl h
  .rw[if_neg hj,if_neg hj,Option.or_none]
theorem qJ(t:List (U×J))(k:U)(v:J):(c8 t k v).length<=t.length+1:=by
 unfold c8;split
 .rw[Aa];lia
 .simp
def fF{γ:Type}(t:List (U×List γ))(k:U)(v:γ):List (U×List γ):=c8 t k ((aH t k).getD []++[v])
theorem qK{γ:Type}(t:List (U×List γ))(k j:U)(v:γ):(aH (fF t k v) j).getD []=if k=j then(aH t j).getD []++[v] else(aH t j).getD []:=by
 unfold fF;rw[k9]
 by_cases h:k=j
 .subst h;rw[if_pos rfl,if_pos rfl];rfl
 .rw[if_neg h,if_neg h]
end
section
variable {O:Type}
def eC(c:aJ)(x:O):List (aJ×List O)->List (aJ×List O)
 | []=>[(c,[x])]
 | (d,xs)::r=>if cU c d=true then(d,xs)::eC c x r else if d=c then(d,xs++[x])::r else(c,[x])::(d,xs)::r
def bB:List (aJ×List O)->List (aJ×O)
 | []=>[]
 | (d,xs)::r=>xs.map (λx=>(d,x))++bB r
theorem tV(c:aJ)(x:O):∀q:List (aJ×List O),(bB (eC c x q)).length=(bB q).length+1
 | []=>rfl
 | (d,xs)::r=>by
  rw[eC];split
  .rw[bB,bB,Ah,Ah,tV c x r];lia
  .split
   .rw[bB,bB,Ah,Ah,Bb,Ah];simp;lia
   .simp[bB]
def iA:List (aJ×List O)->Prop
 | []=>True
 | (d,xs)::r=>xs≠[]/\(∀e∈r,cU e.1 d=true)/\iA r
theorem G7(c:aJ)(x:O):∀q:List (aJ×List O),∀e∈eC c x q,e.1=c\/∃e'∈q,e'.1=e.1
 | [],e,h=>by simp[eC]at h;exact .inl (by rw[h])
 | (d,xs)::r,e,h=>by
  rw[eC]at h;split at h
  .rcases Ar.mp h with z|z
   .exact .inr ⟨(d,xs),by simp,by rw[z]⟩
   .rcases G7 c x r e z with q|⟨e',q1,q2⟩
    .exact .inl q
    .exact .inr ⟨e',Ba _ q1,q2⟩
  .split at h
   .rcases Ar.mp h with z|z
    .exact .inr ⟨(d,xs),by simp,by rw[z]⟩
    .exact .inr ⟨e,Ba _ z,rfl⟩
   .rcases Ar.mp h with z|z
    .exact .inl (by rw[z])
    .exact .inr ⟨e,z,rfl⟩
theorem yC(c:aJ)(x:O):∀{q:List (aJ×List O)},iA q->iA (eC c x q)
 | [],_=>⟨by simp,by simp,trivial⟩
 | (d,xs)::r,h=>by
  obtain⟨h1,h2,h3⟩:=h;rw[eC];split
  .rename_i hlt;refine⟨h1,λe he=>?_,yC c x h3⟩;rcases G7 c x r e he with z|⟨e',z1,z2⟩
   .rw[z];exact hlt
   .rw[<-z2];exact h2 e' z1
  .rename_i hlt;split
   .rename_i hd;subst hd;exact⟨by simp,h2,h3⟩
   .rename_i hd;have hdc:cU d c=true:=by
     have hlt':¬(c.1<d.1\/c.1=d.1/\c.2<d.2):=by rw[<-oT];exact hlt
     rw[oT]
     by_cases h1:d.1=c.1
     .refine .inr ⟨h1,?_⟩;have:d.2≠c.2:=λh2=>hd (Prod.ext h1 h2);lia
     .left;lia
    refine⟨by simp,λe he=>?_,h1,h2,h3⟩;rcases Ar.mp he with z|z
    .rw[z];exact hdc
    .exact qI (h2 e z) (Le.of_lt hdc)
def iI:List (aJ×List O)->Option (aJ×O×List (aJ×List O))
 | []=>none
 | [(d,xs)]=>match xs.getLast? with
  | none=>none
  | some x=>some (d,x,if xs.dropLast.isEmpty then [] else [(d,xs.dropLast)])
 | e::e2::r=>match iI (e2::r) with
  | none=>none
  | some (d,x,q)=>some (d,x,e::q)
theorem nV:∀{q:List (aJ×List O)},iA q->q≠[]->∃d x q',iI q=some (d,x,q')/\iA q'/\(∀e,e∈bB q↔e=(d,x)\/e∈bB q')/\(bB q).length=(bB q').length+1/\(∀e∈q,Le d e.1)/\∀e∈q',∃e'∈q,e'.1=e.1
 | [],_,h=>absurd rfl h
 | [(d,xs)],h,_=>by
  obtain⟨h1,_,_⟩:=h;rcases Ej xs with z|⟨ys,y,z⟩
  .exact absurd z h1
  .rw[Ek]at z;subst z;refine⟨d,y,if ys.isEmpty then [] else [(d,ys)],by simp[iI],?_,λe=>?_,?_,λe he=>?_,λe he=>?_⟩
   .cases ys with
    | nil=>trivial
    | cons a b=>exact⟨by simp,by simp,trivial⟩
   .cases ys with
    | nil=>simp[bB]
    | cons a b=>simp[bB];constructor<;>(intro h;rcases h with h|h|h<;>simp[h])
   .cases ys with
    | nil=>simp[bB]
    | cons a b=>simp[bB]
   .rw[Ao.mp he];exact Le.refl _
   .cases ys with
    | nil=>cases he
    | cons a b=>simp at he;exact⟨(d,a::b++[y]),by simp,by rw[he]⟩
 | e::e2::r,h,_=>by
  obtain⟨h1,h2,h3⟩:=h;obtain⟨d,x,q',e1,f1,m1,l1,c1,k1⟩:=nV h3 (by simp);refine⟨d,x,e::q',by rw[iI,e1],⟨h1,λz hz=>?_,f1⟩,λz=>?_,?_,λz hz=>?_,λz hz=>?_⟩
  .obtain⟨z',hz',ez⟩:=k1 z hz;rw[<-ez];exact h2 z' hz'
  .rw[bB,Bj,m1,bB,Bj];constructor
   .rintro(h|h|h)
    .exact .inr (.inl h)
    .exact .inl h
    .exact .inr (.inr h)
   .rintro(h|h|h)
    .exact .inr (.inl h)
    .exact .inl h
    .exact .inr (.inr h)
  .rw[bB,Ah,l1,bB,Ah];lia
  .rcases Ar.mp hz with q|q
   .rw[q];have:=c1 e2 Bk;exact this.trans (Le.of_lt (h2 e2 Bk))
   .exact c1 z q
  .rcases Ar.mp hz with q|q
   .exact⟨e,Bk,by rw[q]⟩
   .obtain⟨z',hz',ez⟩:=k1 z q;exact⟨z',Ba _ hz',ez⟩
theorem G8{q:List (aJ×List O)}{e:aJ×O}(h:e∈bB q):∃b∈q,b.1=e.1:=by
 induction q with
 | nil=>cases h
 | cons b r ih=>
  obtain⟨d,xs⟩:=b;rw[bB]at h;rcases Bj.mp h with z|z
  .obtain⟨x,_,rfl⟩:=Bg.mp z;exact⟨(d,xs),Bk,rfl⟩
  .obtain⟨b,hb,e1⟩:=ih z;exact⟨b,Ba _ hb,e1⟩
end
section
variable {O:Type}
theorem G9(c:aJ)(x:O):∀q:List (aJ×List O),(bB (eC c x q)).Perm ((c,x)::bB q)
 | []=>.refl _
 | (d,xs)::r=>by
  rw[eC];split
  .rw[bB,bB];exact(List.Perm.append_left _ (G9 c x r)).trans List.perm_middle
  .split
   .rename_i hd;subst hd;rw[bB,bB,Bb,De];exact List.perm_middle
   .exact .refl _
theorem yD:∀{q q':List (aJ×List O)} {d:aJ} {x:O},iA q->iI q=some (d,x,q')->(bB q).Perm ((d,x)::bB q')
 | [],q',d,x,_,h=>by cases h
 | [(d0,xs)],q',d,x,hf,h=>by
  obtain⟨h1,_,_⟩:=hf;rcases Ej xs with z|⟨ys,y,z⟩
  .exact absurd z h1
  .rw[Ek]at z;subst z;simp[iI]at h;obtain⟨rfl,rfl,rfl⟩:=h;cases ys with
   | nil=>exact .refl _
   | cons a b=>
    rw[if_neg (by simp)];simp only[bB,Cm,Bb,Bd,Ka];exact List.perm_append_singleton _ _
 | e::e2::r,q',d,x,hf,h=>by
  obtain⟨_,_,h3⟩:=hf;rw[iI]at h;split at h
  .cases h
  .rename_i d1 x1 q1 e1;simp only[Fv,Dn]at h;obtain⟨rfl,rfl,rfl⟩:=h;have ih:=yD h3 e1;obtain⟨d0,xs⟩:=e;rw[bB,bB];exact(List.Perm.append_left _ ih).trans List.perm_middle
end
structure Sr where
 rs:List a7
 own:Str->Bool
 places:List Int
 steps:Str->Int->List (Int×Int)
 wt:Nat->Int
structure oU(G:Sr):Prop where
 wt:∀n,0<=G.wt n
 pr:∀t p e c,(e,c)∈G.steps t p->0<=c
abbrev K4:=Nat×Nat×Int×Int
abbrev bD:=Str×Int×Int
abbrev cC:=Nat×List Int×aJ
def bT(n:Nat)(cut:List Int):K4:=(n,cut.length,cut.headD 0,cut.getLastD 0)
def lV(y:cC):K4:=bT y.1 y.2.1
abbrev bM:=List (bD×aJ×Nat×List Int)
structure SS where
 q:List (aJ×List (Nat×List Int))
 reached:List (K4×aJ)
 best:bM
 ends:List ((Str×Int)×List (Int×aJ))
 begun:List ((Str×Int)×List cC)
def reach(st:SS)(n:Nat)(cut:List Int)(c:aJ):SS:=match aH st.reached (bT n cut) with
 | some d=>if cU c d=true then {st with reached:=c8 st.reached (bT n cut) c,q:=eC c (n,cut) st.q} else st
 | none=>{st with reached:=c8 st.reached (bT n cut) c,q:=eC c (n,cut) st.q}
inductive GI(G:Sr)(B:bM):Nat->List Int->aJ->Prop
 | start {n:Nat} {r:a7} {p:Int}:G.rs[n]? = some r->p∈G.places->GI G B n [p] (G.wt n,1)
 | word {n:Nat} {r:a7} {cut:List Int} {c:aJ} {part:Str} {e pr:Int}:GI G B n cut c->G.rs[n]? = some r->r.parts[cut.length-1]? = some part->G.own part=false->(e,pr)∈G.steps part (cut.getLastD 0)->GI G B n (cut++[e]) (c.1+pr,c.2)
 | name {n:Nat} {r:a7} {cut:List Int} {c m:aJ} {part:Str} {e:Int} {k:Nat×List Int}:GI G B n cut c->G.rs[n]? = some r->r.parts[cut.length-1]? = some part->G.own part=true->aH B (part,cut.getLastD 0,e)=some (m,k)->GI G B n (cut++[e]) (eL c m)
theorem GI.mono{G:Sr}{B B':bM}(h:∀f v,aH B f=some v->aH B' f=some v){n:Nat}{cut:List Int}{c:aJ}(g:GI G B n cut c):GI G B' n cut c:=by
 induction g with
 | start a b=>exact .start a b
 | word _ a b c d ih=>exact .word ih a b c d
 | name _ a b c d ih=>exact .name ih a b c (h _ _ d)
theorem GI.ne{G:Sr}{B:bM}{n:Nat}{cut:List Int}{c:aJ}(g:GI G B n cut c):cut≠[]:=by cases g<;>simp
def qk(e:aJ×(Nat×List Int)):aJ×K4:=(e.1,bT e.2.1 e.2.2)
def fP(st:SS)(k:K4)(c:aJ):Prop:=∃d,aH st.reached k=some d/\Le d c
structure fQ(G:Sr)(st:SS)(P:List cC)(cur:aJ):Prop where
 fall:iA st.q
 item:∀e∈bB st.q,GI G st.best e.2.1 e.2.2 e.1
 ge:∀e∈bB st.q,∃d,aH st.reached (bT e.2.1 e.2.2)=some d/\Le d e.1
 nd:((bB st.q).map qk).Nodup
 once:(P.map lV).Nodup
 pr:∀y∈P,aH st.reached (lV y)=some y.2.2/\Le y.2.2 cur/\GI G st.best y.1 y.2.1 y.2.2
 fresh:∀e∈bB st.q,∀y∈P,lV y=bT e.2.1 e.2.2->cU y.2.2 e.1=true
 curq:∀e∈bB st.q,Le cur e.1
 hit:∀k d,aH st.reached k=some d->(∃e∈bB st.q,e.1=d/\bT e.2.1 e.2.2=k)\/∃y∈P,lV y=k/\y.2.2=d
structure j8(st st':SS):Prop where
 best:st'.best=st.best
 ends:st'.ends=st.ends
 begun:st'.begun=st.begun
 le:∀k c,fP st k c->fP st' k c
theorem j8.refl(st:SS):j8 st st:=⟨rfl,rfl,rfl,λ_ _ h=>h⟩
theorem j8.trans{a b c:SS}(x:j8 a b)(y:j8 b c):j8 a c:=⟨y.best.trans x.best,y.ends.trans x.ends,y.begun.trans x.begun,λk c h=>y.le k c (x.le k c h)⟩
theorem WQ{G:Sr}{st:SS}{P:List cC}{cur:aJ}{n:Nat}{cut:List Int}{c:aJ}(I:fQ G st P cur)(g:GI G st.best n cut c)(hc:Le cur c):
  fQ G (reach st n cut c) P cur/\j8 st (reach st n cut c)/\fP (reach st n cut c) (bT n cut) c:=by
 have push:(∀d,aH st.reached (bT n cut)=some d->cU c d=true)->fQ G {st with reached:=c8 st.reached (bT n cut) c,q:=eC c (n,cut) st.q} P cur/\j8 st {st with reached:=c8 st.reached (bT n cut) c,q:=eC c (n,cut) st.q}/\fP {st with reached:=c8 st.reached (bT n cut) c,q:=eC c (n,cut) st.q} (bT n cut) c:=by
  intro hlt;have hp:=G9 c (n,cut) st.q;have hm:∀e,e∈bB (eC c (n,cut) st.q)↔e=(c,(n,cut))\/e∈bB st.q:=λe=>by rw[hp.mem_iff,Ar]
  have noP:∀y∈P,lV y≠bT n cut:=λy hy e=>by
   obtain⟨h1,h2,_⟩:=I.pr y hy;rw[e]at h1;have:=qI (hlt _ h1) (h2.trans hc);exact qH this
  have le:∀k d,fP st k d->fP {st with reached:=c8 st.reached (bT n cut) c,q:=eC c (n,cut) st.q} k d:=λk d h=>by
   obtain⟨z,h1,h2⟩:=h
   by_cases e:bT n cut=k
   .subst e;exact⟨c,by show aH (c8 _ _ _) _=_;rw[k9,if_pos rfl],(Le.of_lt (hlt z h1)).trans h2⟩
   .exact⟨z,by show aH (c8 _ _ _) _=_;rw[k9,if_neg e];exact h1,h2⟩
  refine⟨⟨yC _ _ I.fall,λe he=>?_,λe he=>?_,?_,I.once,λy hy=>?_,λe he y hy ek=>?_,λe he=>?_,λk d hd=>?_⟩,⟨rfl,rfl,rfl,le⟩,c,by show aH (c8 _ _ _) _=_;rw[k9,if_pos rfl],Le.refl c⟩
  .rcases(hm e).mp he with z|z
   .rw[z];exact g
   .exact I.item e z
  .show ∃d,aH (c8 _ _ _) _=_/\_;rw[k9];rcases(hm e).mp he with z|z
   .rw[z,if_pos rfl];exact⟨c,rfl,Le.refl _⟩
   .obtain⟨d,h1,h2⟩:=I.ge e z
    by_cases ek:bT n cut=bT e.2.1 e.2.2
    .rw[if_pos ek];rw[<-ek]at h1;exact⟨c,rfl,(Le.of_lt (hlt d h1)).trans h2⟩
    .rw[if_neg ek];exact⟨d,h1,h2⟩
  .rw[(hp.map qk).nodup_iff,Bd,Cy];refine⟨λz=>?_,I.nd⟩;obtain⟨e,he,eq⟩:=Bg.mp z;obtain⟨d,h1,h2⟩:=I.ge e he;unfold qk at eq;rw[Dn]at eq;rw[eq.2]at h1;rw[eq.1]at h2;exact qH (qI (hlt d h1) h2)
  .obtain⟨h1,h2,h3⟩:=I.pr y hy;refine⟨?_,h2,h3⟩;show aH (c8 _ _ _) _=_;rw[k9,if_neg (Bt (noP y hy))];exact h1
  .rcases(hm e).mp he with z|z
   .rw[z]at ek;exact absurd ek (noP y hy)
   .exact I.fresh e z y hy ek
  .rcases(hm e).mp he with z|z
   .rw[z];exact hc
   .exact I.curq e z
  .have hd:aH (c8 st.reached (bT n cut) c) k=some d:=hd;rw[k9]at hd
   by_cases e:bT n cut=k
   .rw[if_pos e]at hd;cases hd;exact .inl ⟨(c,(n,cut)),(hm _).mpr (.inl rfl),rfl,e⟩
   .rw[if_neg e]at hd;rcases I.hit k d hd with⟨x,h1,h2,h3⟩|h
    .exact .inl ⟨x,(hm _).mpr (.inr h1),h2,h3⟩
    .exact .inr h
 unfold reach;cases h:aH st.reached (bT n cut) with
 | none=>exact push λd e=>by rw[h]at e;cases e
 | some d=>
  simp only;split
  .rename_i hl;exact push λd' e=>by rw[h]at e;cases e;exact hl
  .rename_i hl;exact⟨I,j8.refl st,d,h,yA.mpr hl⟩
theorem qL{G:Sr}{P:List cC}{cur:aJ}{O:Type}(f:O->Nat×List Int×aJ):∀(xs:List O) {st:SS},fQ G st P cur->(∀x∈xs,GI G st.best (f x).1 (f x).2.1 (f x).2.2/\Le cur (f x).2.2)->
  fQ G (xs.foldl (λst x=>reach st (f x).1 (f x).2.1 (f x).2.2) st) P cur/\j8 st (xs.foldl (λst x=>reach st (f x).1 (f x).2.1 (f x).2.2) st)/\∀x∈xs,fP (xs.foldl (λst x=>reach st (f x).1 (f x).2.1 (f x).2.2) st) (bT (f x).1 (f x).2.1) (f x).2.2
 | [],st,I,_=>⟨I,j8.refl st,λx hx=>nomatch hx⟩
 | x::xs,st,I,h=>by
  obtain⟨h1,h2⟩:=h x Bk;obtain⟨I1,g1,r1⟩:=WQ I h1 h2;obtain⟨I2,g2,r2⟩:=qL f xs I1 λy hy=>by
   have:=h y (Ba _ hy);rw[g1.best];exact this
  refine⟨I2,g1.trans g2,λy hy=>?_⟩;rcases Ar.mp hy with z|z
  .rw[z];exact g2.le _ _ r1
  .exact r2 y z
def dG(G:Sr)(n:Nat):Str:=match G.rs[n]? with
 | some r=>r.name
 | none=>""
def eD(G:Sr)(n:Nat)(cut:List Int):Option Str:=match G.rs[n]? with
 | some r=>r.parts[cut.length-1]?
 | none=>none
def cZ(G:Sr)(n:Nat)(cut:List Int):bD:=(dG G n,cut.headD 0,cut.getLastD 0)
def settle(G:Sr)(st:SS)(n:Nat)(cut:List Int)(c:aJ):SS:=match aH st.best (cZ G n cut) with
 | some _=>st
 | none=>((aH st.begun (dG G n,cut.headD 0)).getD []).foldl (λst y=>reach st y.1 (y.2.1++[cut.getLastD 0]) (eL y.2.2 c)) {st with best:=st.best++[(cZ G n cut,c,n,cut)],ends:=fF st.ends (dG G n,cut.headD 0) (cut.getLastD 0,c)}
def fW(st:SS)(n:Nat)(cut:List Int)(c:aJ)(part:Str):SS:=((aH st.ends (part,cut.getLastD 0)).getD []).foldl (λst z=>reach st n (cut++[z.1]) (eL c z.2)) {st with begun:=fF st.begun (part,cut.getLastD 0) (n,cut,c)}
def gA(G:Sr)(st:SS)(n:Nat)(cut:List Int)(c:aJ)(part:Str):SS:=(G.steps part (cut.getLastD 0)).foldl (λst z=>reach st n (cut++[z.1]) (c.1+z.2,c.2)) st
def process(G:Sr)(st:SS)(n:Nat)(cut:List Int)(c:aJ):SS:=match eD G n cut with
 | none=>settle G st n cut c
 | some part=>if G.own part=true then fW st n cut c part else gA G st n cut c part
structure Ob(G:Sr)(st:SS)(P:List cC)(cur:aJ):Prop where
 zero:Le (0,0) cur
 fin:∀y∈P,eD G y.1 y.2.1=none->∃m k,aH st.best (cZ G y.1 y.2.1)=some (m,k)/\Le m y.2.2
 wrd:∀y∈P,∀part,eD G y.1 y.2.1=some part->G.own part=false->∀z∈G.steps part (y.2.1.getLastD 0),fP st (bT y.1 (y.2.1++[z.1])) (y.2.2.1+z.2,y.2.2.2)
 nam:∀y∈P,∀part,eD G y.1 y.2.1=some part->G.own part=true->y∈(aH st.begun (part,y.2.1.getLastD 0)).getD []
 pair:∀key,∀y∈(aH st.begun key).getD [],∀z∈(aH st.ends key).getD [],fP st (bT y.1 (y.2.1++[z.1])) (eL y.2.2 z.2)
 bgn:∀key,∀y∈(aH st.begun key).getD [],y∈P/\eD G y.1 y.2.1=some key.1/\G.own key.1=true/\y.2.1.getLastD 0=key.2/\Le (0,0) y.2.2
 ends:∀nm b e m,(e,m)∈(aH st.ends (nm,b)).getD []↔∃k,aH st.best (nm,b,e)=some (m,k)
 bst:∀f m n cut,aH st.best f=some (m,n,cut)->eD G n cut=none/\f=cZ G n cut/\Le (0,0) m/\Le m cur
 ord:∀pre e post,st.best=pre++e::post->GI G pre e.2.2.1 e.2.2.2 e.2.1/\aH pre e.1=none
theorem WR{a b:aJ}(h:Le (0,0) b):Le a (eL a b):=by unfold Le eL at *;simp only at *;lia
theorem WS{a b:aJ}(h:Le (0,0) b):Le a (eL b a):=by unfold Le eL at *;simp only at *;lia
theorem WT{G:Sr}{st:SS}{P:List cC}{cur c:aJ}{n:Nat}{cut:List Int}{q':List (aJ×List (Nat×List Int))}(I:fQ G st P cur)(ht:iI st.q=some (c,(n,cut),q'))(hr:aH st.reached (bT n cut)=some c):fQ G {st with q:=q'} (P++[(n,cut,c)]) c/\Le cur c/\GI G st.best n cut c:=by
 have hne:st.q≠[]:=λe=>by rw[e]at ht;cases ht
 obtain⟨d,x,q1,e1,f1,m1,l1,c1,_⟩:=nV I.fall hne;rw[ht]at e1;simp only[Fv,Dn]at e1;obtain⟨rfl,rfl,rfl⟩:=e1;have hp:=yD I.fall ht;have hin:(c,(n,cut))∈bB st.q:=(m1 _).mpr (.inl rfl);have sub:∀e∈bB q',e∈bB st.q:=λe he=>(m1 e).mpr (.inr he);have hcur:=I.curq _ hin;have hnd:=I.nd;rw[(hp.map qk).nodup_iff,Bd,Cy]at hnd;have hmin:∀e∈bB q',Le c e.1:=λe he=>by
  obtain⟨b,hb,eb⟩:=G8 (sub e he);rw[<-eb];exact c1 b hb
 have noP:∀y∈P,lV y≠bT n cut:=λy hy e=>by
  have h1:=I.fresh _ hin y hy e;obtain⟨h2,_,_⟩:=I.pr y hy;rw[e,hr]at h2;cases h2;exact qH h1
 refine⟨⟨f1,λe he=>I.item e (sub e he),λe he=>I.ge e (sub e he),hnd.2,?_,λy hy=>?_,λe he y hy ek=>?_,hmin,λk d hd=>?_⟩,hcur,I.item _ hin⟩
 .rw[Bb,Fb];refine⟨I.once,by simp,λa ha b hb e=>?_⟩;obtain⟨y,hy,rfl⟩:=Bg.mp ha;rw[List.map_singleton,Ao]at hb;exact noP y hy (by rw[e,hb];rfl)
 .rcases Bj.mp hy with z|z
  .obtain⟨h1,h2,h3⟩:=I.pr y z;exact⟨h1,h2.trans hcur,h3⟩
  .rw[Ao.mp z];exact⟨hr,Le.refl _,I.item _ hin⟩
 .rcases Bj.mp hy with z|z
  .exact I.fresh e (sub e he) y z ek
  .have hy':=Ao.mp z;subst hy';have h1:=hmin e he;have hne:e.1≠c:=λe1=>hnd.1 (Bg.mpr ⟨e,he,by
    have ek':bT n cut=bT e.2.1 e.2.2:=ek;show(e.1,bT e.2.1 e.2.2)=(c,bT n cut);rw[e1,ek']⟩)
   show cU c e.1=true;cases hh:cU c e.1 with
   | true=>rfl
   | false=>exact absurd (Le.antisymm (yA.mpr (by rw[hh];decide)) h1) hne
 .rcases I.hit k d hd with⟨e,h1,h2,h3⟩|⟨y,h1,h2⟩
  .rcases(m1 e).mp h1 with z|z
   .subst z;exact .inr ⟨(n,cut,c),Cf _ (Ao.mpr rfl),h3,h2⟩
   .exact .inl ⟨e,z,h2,h3⟩
  .exact .inr ⟨y,Bu _ h1,h2⟩
theorem WU{G:Sr}{st:SS}{P:List cC}{cur c d:aJ}{n:Nat}{cut:List Int}{q':List (aJ×List (Nat×List Int))}(I:fQ G st P cur)(ht:iI st.q=some (c,(n,cut),q'))(hr:aH st.reached (bT n cut)=some d)(hd:cU d c=true):fQ G {st with q:=q'} P c/\Le cur c:=by
 have hne:st.q≠[]:=λe=>by rw[e]at ht;cases ht
 obtain⟨d1,x,q1,e1,f1,m1,l1,c1,_⟩:=nV I.fall hne;rw[ht]at e1;simp only[Fv,Dn]at e1;obtain⟨rfl,rfl,rfl⟩:=e1;have hp:=yD I.fall ht;have hin:(c,(n,cut))∈bB st.q:=(m1 _).mpr (.inl rfl);have sub:∀e∈bB q',e∈bB st.q:=λe he=>(m1 e).mpr (.inr he);have hcur:=I.curq _ hin;have hnd:=I.nd;rw[(hp.map qk).nodup_iff,Bd,Cy]at hnd;refine⟨⟨f1,λe he=>I.item e (sub e he),λe he=>I.ge e (sub e he),hnd.2,I.once,λy hy=>?_,λe he y hy ek=>I.fresh e (sub e he) y hy ek,λe he=>?_,λk d2 hd2=>?_⟩,hcur⟩
 .obtain⟨h1,h2,h3⟩:=I.pr y hy;exact⟨h1,h2.trans hcur,h3⟩
 .obtain⟨b,hb,eb⟩:=G8 (sub e he);rw[<-eb];exact c1 b hb
 .rcases I.hit k d2 hd2 with⟨e,h1,h2,h3⟩|h
  .rcases(m1 e).mp h1 with z|z
   .subst z;have h3:bT n cut=k:=h3;have h2:c=d2:=h2;have hd2':aH st.reached k=some d2:=hd2;rw[<-h3,hr]at hd2';cases hd2';rw[<-h2]at hd;exact absurd hd qH
   .exact .inl ⟨e,z,h2,h3⟩
  .exact .inr h
theorem Ob.later{G:Sr}{st:SS}{P:List cC}{cur c:aJ}(o:Ob G st P cur)(h:Le cur c)(q':List (aJ×List (Nat×List Int))):Ob G {st with q:=q'} P c:=
 ⟨o.zero.trans h,o.fin,o.wrd,o.nam,o.pair,o.bgn,o.ends,λf m n cut e=>let ⟨h1,h2,h3,h4⟩:=o.bst f m n cut e;⟨h1,h2,h3,h4.trans h⟩,o.ord⟩
theorem GI.rule{G:Sr}{B:bM}{n:Nat}{cut:List Int}{c:aJ}(g:GI G B n cut c):∃r,G.rs[n]? = some r:=by
 cases g with
 | start a _=>exact⟨_,a⟩
 | word _ a _ _ _=>exact⟨_,a⟩
 | name _ a _ _ _=>exact⟨_,a⟩
theorem part_of{G:Sr}{n:Nat}{cut:List Int}{r:a7}(h:G.rs[n]? = some r):eD G n cut=r.parts[cut.length-1]?:=by unfold eD;rw[h]
theorem jP{O:Type}{P:List O}{x y:O}(h:y∈P++[x]):y∈P\/y=x:=by
 rcases Bj.mp h with z|z
 .exact .inl z
 .exact .inr (Ao.mp z)
theorem WV{G:Sr}(ok:oU G){st:SS}{P:List cC}{c:aJ}{n:Nat}{cut:List Int}{part:Str}(I:fQ G st (P++[(n,cut,c)]) c)(o:Ob G st P c)(g:GI G st.best n cut c)(hp:eD G n cut=some part)(ho:G.own part=false):
  fQ G (gA G st n cut c part) (P++[(n,cut,c)]) c/\Ob G (gA G st n cut c part) (P++[(n,cut,c)]) c/\∀k d,fP st k d->fP (gA G st n cut c part) k d:=by
 obtain⟨r,hr⟩:=g.rule;rw[part_of hr]at hp;obtain⟨I1,g1,r1⟩:=qL (λz:Int×Int=>(n,cut++[z.1],(c.1+z.2,c.2))) (G.steps part (cut.getLastD 0)) I λz hz=>⟨.word g hr hp ho hz,by
  have:=ok.pr _ _ _ _ hz;show Le c (c.1+z.2,c.2);unfold Le;simp only;lia⟩
 refine⟨I1,⟨o.zero,λy hy hn=>?_,λy hy pt h1 h2 z hz=>?_,λy hy pt h1 h2=>?_,λkey y hy z hz=>?_,λkey y hy=>?_,λnm b e m=>?_,λf m n' cut' e=>?_,λpre e post h=>?_⟩,g1.le⟩
 .rcases jP hy with z|z
  .obtain⟨m,k,h1,h2⟩:=o.fin y z hn;exact⟨m,k,by rw[show(gA G st n cut c part).best=st.best from g1.best];exact h1,h2⟩
  .subst z;rw[part_of hr,hp]at hn;cases hn
 .rcases jP hy with q|q
  .exact g1.le _ _ (o.wrd y q pt h1 h2 z hz)
  .subst q;rw[part_of hr,hp]at h1;cases h1;exact r1 z hz
 .rcases jP hy with q|q
  .rw[show(gA G st n cut c part).begun=st.begun from g1.begun];exact o.nam y q pt h1 h2
  .subst q;rw[part_of hr,hp]at h1;cases h1;rw[ho]at h2;cases h2
 .rw[show(gA G st n cut c part).begun=st.begun from g1.begun]at hy;rw[show(gA G st n cut c part).ends=st.ends from g1.ends]at hz;exact g1.le _ _ (o.pair key y hy z hz)
 .rw[show(gA G st n cut c part).begun=st.begun from g1.begun]at hy;obtain⟨h1,h2⟩:=o.bgn key y hy;exact⟨Bu _ h1,h2⟩
 .rw[show(gA G st n cut c part).ends=st.ends from g1.ends,show(gA G st n cut c part).best=st.best from g1.best];exact o.ends nm b e m
 .rw[show(gA G st n cut c part).best=st.best from g1.best]at e;exact o.bst f m n' cut' e
 .rw[show(gA G st n cut c part).best=st.best from g1.best]at h;exact o.ord pre e post h
theorem WW{G:Sr}{st:SS}{P:List cC}{c:aJ}{n:Nat}{cut:List Int}{part:Str}(I:fQ G st (P++[(n,cut,c)]) c)(o:Ob G st P c)(g:GI G st.best n cut c)(hp:eD G n cut=some part)(ho:G.own part=true):
  fQ G (fW st n cut c part) (P++[(n,cut,c)]) c/\Ob G (fW st n cut c part) (P++[(n,cut,c)]) c/\∀k d,fP st k d->fP (fW st n cut c part) k d:=by
 obtain⟨r,hr⟩:=g.rule;have hp0:=hp;rw[part_of hr]at hp;obtain⟨I1,g1,r1⟩:=qL (G:=G) (P:=P++[(n,cut,c)]) (cur:=c) (st:={st with begun:=fF st.begun (part,cut.getLastD 0) (n,cut,c)}) (λz:Int×aJ=>(n,cut++[z.1],eL c z.2)) ((aH st.ends (part,cut.getLastD 0)).getD []) ⟨I.fall,I.item,I.ge,I.nd,I.once,I.pr,I.fresh,I.curq,I.hit⟩ λz hz=>by
  obtain⟨k,hk⟩:=(o.ends part (cut.getLastD 0) z.1 z.2).mp hz;exact⟨.name g hr hp ho hk,WR (o.bst _ _ _ _ hk).2.2.1⟩
 have hb:(fW st n cut c part).best=st.best:=g1.best;have he:(fW st n cut c part).ends=st.ends:=g1.ends;have hg:(fW st n cut c part).begun=fF st.begun (part,cut.getLastD 0) (n,cut,c):=g1.begun;have hbeg:∀key y,y∈(aH (fW st n cut c part).begun key).getD []↔y∈(aH st.begun key).getD []\/(part,cut.getLastD 0)=key/\y=(n,cut,c):=λkey y=>by
  rw[hg,qK]
  by_cases h:(part,cut.getLastD 0)=key
  .rw[if_pos h,Bj,Ao];exact⟨λz=>z.imp id λq=>⟨h,q⟩,λz=>z.imp id λq=>q.2⟩
  .rw[if_neg h];exact⟨.inl,λz=>z.elim id λq=>absurd q.1 h⟩
 refine⟨I1,⟨o.zero,λy hy hn=>?_,λy hy pt h1 h2 z hz=>?_,λy hy pt h1 h2=>?_,λkey y hy z hz=>?_,λkey y hy=>?_,λnm b e m=>?_,λf m n' cut' e=>?_,λpre e post h=>?_⟩,g1.le⟩
 .rcases jP hy with z|z
  .rw[hb];exact o.fin y z hn
  .subst z;rw[hp0]at hn;cases hn
 .rcases jP hy with q|q
  .exact g1.le _ _ (o.wrd y q pt h1 h2 z hz)
  .subst q;rw[hp0]at h1;cases h1;rw[ho]at h2;cases h2
 .rw[hbeg];rcases jP hy with q|q
  .exact .inl (o.nam y q pt h1 h2)
  .subst q;rw[hp0]at h1;cases h1;exact .inr ⟨rfl,rfl⟩
 .rw[he]at hz;rcases(hbeg key y).mp hy with q|⟨q1,q2⟩
  .exact g1.le _ _ (o.pair key y q z hz)
  .subst q2;rw[<-q1]at hz;exact r1 z hz
 .rcases(hbeg key y).mp hy with q|⟨q1,q2⟩
  .obtain⟨h1,h2⟩:=o.bgn key y q;exact⟨Bu _ h1,h2⟩
  .subst q2;rw[<-q1];exact⟨Cf _ (Ao.mpr rfl),hp0,ho,rfl,o.zero⟩
 .rw[he,hb];exact o.ends nm b e m
 .rw[hb]at e;exact o.bst f m n' cut' e
 .rw[hb]at h;exact o.ord pre e post h
theorem WX{G:Sr}{st:SS}{P:List cC}{c:aJ}{n:Nat}{cut:List Int}(I:fQ G st (P++[(n,cut,c)]) c)(o:Ob G st P c)(g:GI G st.best n cut c)(hp:eD G n cut=none):
  fQ G (settle G st n cut c) (P++[(n,cut,c)]) c/\Ob G (settle G st n cut c) (P++[(n,cut,c)]) c/\∀k d,fP st k d->fP (settle G st n cut c) k d:=by
 unfold settle;cases hf:aH st.best (cZ G n cut) with
 | some v=>
  obtain⟨m,k⟩:=v;obtain⟨_,_,_,hm⟩:=o.bst _ _ _ _ hf;refine⟨I,⟨o.zero,λy hy hn=>?_,λy hy pt h1 h2 z hz=>?_,λy hy pt h1 h2=>?_,o.pair,λkey y hy=>?_,o.ends,o.bst,o.ord⟩,λ_ _ h=>h⟩
  .rcases jP hy with z|z
   .exact o.fin y z hn
   .subst z;exact⟨m,k,hf,hm⟩
  .rcases jP hy with q|q
   .exact o.wrd y q pt h1 h2 z hz
   .subst q;rw[hp]at h1;cases h1
  .rcases jP hy with q|q
   .exact o.nam y q pt h1 h2
   .subst q;rw[hp]at h1;cases h1
  .obtain⟨h1,h2⟩:=o.bgn key y hy;exact⟨Bu _ h1,h2⟩
 | none=>
  simp only;have new:∀f,aH (st.best++[(cZ G n cut,c,n,cut)]) f=if cZ G n cut=f then some (c,n,cut) else aH st.best f:=λf=>by
   rw[yB]
   by_cases h:cZ G n cut=f
   .subst h;rw[if_pos rfl,if_pos rfl,hf];rfl
   .rw[if_neg h,if_neg h,Option.or_none]
  have mono:∀f v,aH st.best f=some v->aH (st.best++[(cZ G n cut,c,n,cut)]) f=some v:=λf v h=>by
   rw[new,if_neg (λe=>by rw[<-e,hf]at h;cases h)];exact h
  obtain⟨st1,hst1⟩:∃z:SS,z = {st with best:=st.best++[(cZ G n cut,c,n,cut)],ends:=fF st.ends (dG G n,cut.headD 0) (cut.getLastD 0,c)}:=⟨_,rfl⟩;have b1:st1.best=st.best++[(cZ G n cut,c,n,cut)]:=by rw[hst1]
  have e1:st1.ends=fF st.ends (dG G n,cut.headD 0) (cut.getLastD 0,c):=by rw[hst1]
  have n1:st1.begun=st.begun:=by rw[hst1]
  have r0:st1.reached=st.reached:=by rw[hst1]
  have q0:st1.q=st.q:=by rw[hst1]
  have I0:fQ G st1 (P++[(n,cut,c)]) c:=by
   rw[hst1];exact⟨I.fall,λe he=>(I.item e he).mono mono,I.ge,I.nd,I.once,λy hy=>let ⟨h1,h2,h3⟩:=I.pr y hy;⟨h1,h2,h3.mono mono⟩,I.fresh,I.curq,I.hit⟩
  rw[<-hst1];obtain⟨I1,g1,r1⟩:=qL (λy:cC=>(y.1,y.2.1++[cut.getLastD 0],eL y.2.2 c)) ((aH st.begun (dG G n,cut.headD 0)).getD []) I0 λy hy=>by
   obtain⟨h1,h2,h3,h4,h5⟩:=o.bgn _ y hy;obtain⟨_,_,gy⟩:=I.pr y (Bu _ h1);obtain⟨ry,hry⟩:=gy.rule;rw[part_of hry]at h2;refine⟨.name (k:=(n,cut)) (by rw[b1];exact gy.mono mono) hry h2 h3 ?_,WS h5⟩;rw[b1,new,if_pos (by show(dG G n,cut.headD 0,cut.getLastD 0)=(dG G n,y.2.1.getLastD 0,cut.getLastD 0);rw[h4])]
  obtain⟨st2,hst2⟩:∃z,z=((aH st.begun (dG G n,cut.headD 0)).getD []).foldl (λst y=>reach st y.1 (y.2.1++[cut.getLastD 0]) (eL y.2.2 c)) st1:=⟨_,rfl⟩;rw[<-hst2]at I1 g1 r1⊢;have B:st2.best=st.best++[(cZ G n cut,c,n,cut)]:=g1.best.trans b1;have E:st2.ends=fF st.ends (dG G n,cut.headD 0) (cut.getLastD 0,c):=g1.ends.trans e1;have N:st2.begun=st.begun:=g1.begun.trans n1;have le:∀k d,fP st k d->fP st2 k d:=λk d h=>g1.le k d (by
   obtain⟨z,h1,h2⟩:=h;exact⟨z,by rw[r0];exact h1,h2⟩)
  have hends:∀key z,z∈(aH st2.ends key).getD []↔z∈(aH st.ends key).getD []\/(dG G n,cut.headD 0)=key/\z=(cut.getLastD 0,c):=λkey z=>by
   rw[E,qK]
   by_cases h:(dG G n,cut.headD 0)=key
   .rw[if_pos h,Bj,Ao];exact⟨λz=>z.imp id λq=>⟨h,q⟩,λz=>z.imp id λq=>q.2⟩
   .rw[if_neg h];exact⟨.inl,λz=>z.elim id λq=>absurd q.1 h⟩
  refine⟨I1,⟨o.zero,λy hy hn=>?_,λy hy pt h1 h2 z hz=>?_,λy hy pt h1 h2=>?_,λkey y hy z hz=>?_,λkey y hy=>?_,λnm b e m=>?_,λf m n' cut' e=>?_,λpre e post h=>?_⟩,le⟩
  .rw[B];rcases jP hy with z|z
   .obtain⟨m,k,h1,h2⟩:=o.fin y z hn;exact⟨m,k,mono _ _ h1,h2⟩
   .subst z;exact⟨c,(n,cut),by rw[new,if_pos rfl],Le.refl _⟩
  .rcases jP hy with q|q
   .exact le _ _ (o.wrd y q pt h1 h2 z hz)
   .subst q;rw[hp]at h1;cases h1
  .rw[N];rcases jP hy with q|q
   .exact o.nam y q pt h1 h2
   .subst q;rw[hp]at h1;cases h1
  .rw[N]at hy;rcases(hends key z).mp hz with q|⟨q1,q2⟩
   .exact le _ _ (o.pair key y hy z q)
   .subst q2;rw[<-q1]at hy;exact r1 y hy
  .rw[N]at hy;obtain⟨h1,h2⟩:=o.bgn key y hy;exact⟨Bu _ h1,h2⟩
  .rw[hends,B,new,o.ends]
   by_cases h:cZ G n cut=(nm,b,e)
   .rw[if_pos h];unfold cZ at h;simp only[Dn]at h;obtain⟨rfl,rfl,rfl⟩:=h;constructor
    .rintro(⟨k,hk⟩|⟨_,hk⟩)
     .rw[show(dG G n,cut.headD 0,cut.getLastD 0)=cZ G n cut from rfl,hf]at hk;cases hk
     .cases hk;exact⟨(n,cut),rfl⟩
    .rintro⟨k,hk⟩;cases hk;exact .inr ⟨rfl,rfl⟩
   .rw[if_neg h];constructor
    .rintro(hk|⟨h1,h2⟩)
     .exact hk
     .cases h1;cases h2;exact absurd rfl h
    .exact .inl
  .rw[B,new]at e
   by_cases h:cZ G n cut=f
   .rw[if_pos h]at e;cases e;exact⟨hp,h.symm,o.zero,Le.refl _⟩
   .rw[if_neg h]at e;exact o.bst f m n' cut' e
  .rw[B]at h;rcases Ej post with z|⟨ps,p,z⟩
   .subst z;have h':=List.append_inj' h rfl;have h2:=h'.2;simp only[Eu,and_true]at h2;rw[<-h'.1,<-h2];exact⟨g,hf⟩
   .rw[Ek]at z;subst z;rw[show pre++e::(ps++[p])=(pre++e::ps)++[p] by simp]at h;have h':=List.append_inj' h rfl;exact o.ord pre e ps h'.1
theorem WY{G:Sr}(ok:oU G){st:SS}{P:List cC}{c:aJ}{n:Nat}{cut:List Int}(I:fQ G st (P++[(n,cut,c)]) c)(o:Ob G st P c)(g:GI G st.best n cut c):
  fQ G (process G st n cut c) (P++[(n,cut,c)]) c/\Ob G (process G st n cut c) (P++[(n,cut,c)]) c/\∀k d,fP st k d->fP (process G st n cut c) k d:=by
 unfold process;cases hp:eD G n cut with
 | none=>exact WX I o g hp
 | some part=>
  simp only;cases ho:G.own part with
  | true=>rw[if_pos rfl];exact WW I o g hp ho
  | false=>rw[if_neg (by decide)];exact WV ok I o g hp ho
inductive DI(G:Sr):Nat->List Int->aJ->Prop
 | start {n:Nat} {r:a7} {p:Int}:G.rs[n]? = some r->p∈G.places->DI G n [p] (G.wt n,1)
 | word {n:Nat} {r:a7} {cut:List Int} {c:aJ} {part:Str} {e pr:Int}:DI G n cut c->G.rs[n]? = some r->r.parts[cut.length-1]? = some part->G.own part=false->(e,pr)∈G.steps part (cut.getLastD 0)->DI G n (cut++[e]) (c.1+pr,c.2)
 | name {n n':Nat} {r:a7} {cut cut':List Int} {c m:aJ} {part:Str}:DI G n cut c->G.rs[n]? = some r->r.parts[cut.length-1]? = some part->G.own part=true->DI G n' cut' m->eD G n' cut'=none->dG G n'=part->cut'.headD 0=cut.getLastD 0->DI G n (cut++[cut'.getLastD 0]) (eL c m)
theorem DI.ne{G:Sr}{n:Nat}{cut:List Int}{c:aJ}(h:DI G n cut c):cut≠[]:=by cases h<;>simp
theorem HA{n:Nat}{a b:List Int}{e:Int}(h:bT n a=bT n b)(ha:a≠[])(hb:b≠[]):bT n (a++[e])=bT n (b++[e]):=by
 unfold bT at *;simp only[Dn,true_and]at h;obtain⟨h1,h2,h3⟩:=h;have hl:∀l:List Int,(l++[e]).getLastD 0=e:=λl=>by simp[Hy]
 rw[hl,hl,Ah,Ah,h1];cases a with
 | nil=>exact absurd rfl ha
 | cons x a=>
  cases b with
  | nil=>exact absurd rfl hb
  | cons y b=>
   simp only[List.headD_cons]at h2;subst h2;rfl
theorem tW{G:Sr}{n n':Nat}{a b:List Int}(h:bT n a=bT n' b):n=n'/\eD G n a=eD G n' b/\cZ G n a=cZ G n' b/\a.getLastD 0=b.getLastD 0:=by
 unfold bT at h;simp only[Dn]at h;obtain⟨rfl,h1,h2,h3⟩:=h;refine⟨rfl,?_,?_,h3⟩
 .unfold eD;rw[h1]
 .unfold cZ;rw[h2,h3]
def yE(G:Sr)(st:SS):Prop:=∀n r p,G.rs[n]? = some r->p∈G.places->fP st (bT n [p]) (G.wt n,1)
theorem WZ{G:Sr}{st:SS}{P:List cC}{cur:aJ}(I:fQ G st P cur)(o:Ob G st P cur)(hi:yE G st)(hq:st.q=[]){n:Nat}{cut:List Int}{c:aJ}(h:DI G n cut c):fP st (bT n cut) c:=by
 have done:∀{n:Nat} {cut:List Int} {c:aJ},fP st (bT n cut) c->∃y∈P,lV y=bT n cut/\Le y.2.2 c:=λ{n cut c} h=>by
  obtain⟨d,h1,h2⟩:=h;rcases I.hit _ _ h1 with⟨e,he,_⟩|⟨y,hy,e1,e2⟩
  .rw[hq]at he;cases he
  .exact⟨y,hy,e1,by rw[e2];exact h2⟩
 induction h with
 | start a b=>exact hi _ _ _ a b
 | @word n r cut c part e pr hd hr hp ho hs ih=>
  obtain⟨y,hy,ek,hle⟩:=done ih;obtain⟨hn,hpt,_,hlast⟩:=tW (G:=G) ek;have hyn:=(I.pr y hy).2.2.ne;have:=o.wrd y hy part (by rw[hpt,part_of hr];exact hp) ho (e,pr) (by rw[hlast];exact hs);obtain⟨d,h1,h2⟩:=this;refine⟨d,?_,h2.trans ?_⟩
  .have ek':bT n y.2.1=bT n cut:=by rw[<-ek];unfold lV;rw[hn]
   rw[<-HA ek' hyn hd.ne,<-hn];exact h1
  .unfold Le at hle⊢;simp only at *;lia
 | @name n n' r cut cut' c m part hd hr hp ho hd' hfin hnm hhd ih ih'=>
  obtain⟨y,hy,ek,hle⟩:=done ih;obtain⟨hn,hpt,_,hlast⟩:=tW (G:=G) ek;obtain⟨y',hy',ek',hle'⟩:=done ih';obtain⟨hn',hpt',hfact,_⟩:=tW (G:=G) ek';obtain⟨m0,k0,hb,hm0⟩:=o.fin y' hy' (by rw[hpt'];exact hfin);rw[hfact]at hb;have hb':aH st.best (part,cut.getLastD 0,cut'.getLastD 0)=some (m0,k0):=by
   have:cZ G n' cut'=(part,cut.getLastD 0,cut'.getLastD 0):=by unfold cZ;rw[hnm,hhd]
   rw[<-this];exact hb
  have hz:=(o.ends part (cut.getLastD 0) (cut'.getLastD 0) m0).mpr ⟨k0,hb'⟩;have hyb:=o.nam y hy part (by rw[hpt,part_of hr];exact hp) ho;rw[hlast]at hyb;have hyn:=(I.pr y hy).2.2.ne;obtain⟨d,h1,h2⟩:=o.pair _ y hyb _ hz;refine⟨d,?_,h2.trans (WN hle (hm0.trans hle'))⟩;have ek2:bT n y.2.1=bT n cut:=by rw[<-ek];unfold lV;rw[hn]
  rw[<-HA ek2 hyn hd.ne,<-hn];exact h1
theorem W0{G:Sr}{st:SS}{P:List cC}{cur:aJ}(I:fQ G st P cur)(o:Ob G st P cur)(hi:yE G st)(hq:st.q=[]){n:Nat}{cut:List Int}{c:aJ}(h:DI G n cut c)(hf:eD G n cut=none):∃m k,aH st.best (cZ G n cut)=some (m,k)/\Le m c:=by
 obtain⟨d,h1,h2⟩:=WZ I o hi hq h;rcases I.hit _ _ h1 with⟨e,he,_⟩|⟨y,hy,e1,e2⟩
 .rw[hq]at he;cases he
 .obtain⟨_,hpt,hfact,_⟩:=tW (G:=G) e1;obtain⟨m,k,hb,hm⟩:=o.fin y hy (by rw[hpt];exact hf);rw[hfact]at hb;exact⟨m,k,hb,hm.trans (by rw[e2];exact h2)⟩
theorem yF{G:Sr}{B:bM}(h:∀f m n cut,aH B f=some (m,n,cut)->DI G n cut m/\eD G n cut=none/\f=cZ G n cut){n:Nat}{cut:List Int}{c:aJ}(g:GI G B n cut c):DI G n cut c:=by
 induction g with
 | start a b=>exact .start a b
 | word _ a b c d ih=>exact .word ih a b c d
 | name hgi hr hp ho hb ih=>
  rename_i k;obtain⟨n',cut'⟩:=k;obtain⟨h1,h2,h3⟩:=h _ _ _ _ hb;unfold cZ at h3;simp only[Dn]at h3;obtain⟨e1,e2,e3⟩:=h3;rw[e3];exact .name ih hr hp ho h1 h2 e1.symm e2.symm
theorem j9{U J:Type}[DecidableEq U]{t:List (U×J)}{k:U}{v:J}(h:aH t k=some v):∃a b,t=a++(k,v)::b:=by
 induction t with
 | nil=>cases h
 | cons e t ih=>
  rw[eA]at h
  by_cases hk:e.1=k
  .rw[if_pos hk]at h;cases h;exact⟨[],t,by rw[<-hk];rfl⟩
  .rw[if_neg hk]at h;obtain⟨a,b,rfl⟩:=ih h;exact⟨e::a,b,rfl⟩
theorem W4{G:Sr}{st:SS}{P:List cC}{cur:aJ}(o:Ob G st P cur):∀(k:Nat) (pre:bM) (e:bD×aJ×Nat×List Int) (post:bM),pre.length=k->st.best=pre++e::post->DI G e.2.2.1 e.2.2.2 e.2.1:=by
 intro k
 induction k using Nat.strongRecOn with
 | _ k ih=>
  intro pre e post hk hb;obtain⟨g,_⟩:=o.ord pre e post hb;refine yF (B:=pre) (λf m n cut hf=>?_) g;obtain⟨a,b,hab⟩:=j9 hf;have hb2:st.best=a++(f,m,n,cut)::(b++e::post):=by rw[hb,hab];simp
  have hlen:a.length<k:=by rw[<-hk,hab];simp
  have hd:=ih a.length hlen a _ _ rfl hb2;have hnone:=(o.ord a _ _ hb2).2;have hf2:aH st.best f=some (m,n,cut):=by
   rw[hb2];have:∀{a:bM} {x:bD×aJ×Nat×List Int} {r:bM},aH a x.1=none->aH (a++x::r) x.1=some x.2:=by
    intro a
    induction a with
    | nil=>intro x r _;rw[Gw,eA,if_pos rfl]
    | cons y a ih2=>
     intro x r h;rw[eA]at h;rw[List.cons_append,eA]
     by_cases hy:y.1=x.1
     .rw[if_pos hy]at h;cases h
     .rw[if_neg hy]at h⊢;exact ih2 h
   exact this (x:=(f,m,n,cut)) hnone
  obtain⟨h1,h2,_⟩:=o.bst f m n cut hf2;exact⟨hd,h1,h2⟩
theorem yG{G:Sr}{st:SS}{P:List cC}{cur:aJ}(o:Ob G st P cur){f:bD}{m:aJ}{n:Nat}{cut:List Int}(h:aH st.best f=some (m,n,cut)):DI G n cut m/\eD G n cut=none/\f=cZ G n cut:=by
 obtain⟨a,b,hab⟩:=j9 h;obtain⟨h1,h2,_⟩:=o.bst f m n cut h;exact⟨W4 o a.length a _ b rfl hab,h1,h2⟩
theorem HB(st:SS)(n:Nat)(cut:List Int)(c:aJ):∃j,j<=1/\(bB (reach st n cut c).q).length=(bB st.q).length+j/\(reach st n cut c).reached.length<=st.reached.length+j:=by
 have push:∃j,j<=1/\(bB (eC c (n,cut) st.q)).length=(bB st.q).length+j/\(c8 st.reached (bT n cut) c).length<=st.reached.length+j:=⟨1,An _,tV _ _ _,qJ _ _ _⟩;unfold reach;cases aH st.reached (bT n cut) with
 | none=>exact push
 | some d=>
  simp only;split
  .exact push
  .exact⟨0,by lia,rfl,by lia⟩
theorem qM{O:Type}(f:O->Nat×List Int×aJ):∀(xs:List O) (st:SS),∃j,j<=xs.length/\(bB (xs.foldl (λst x=>reach st (f x).1 (f x).2.1 (f x).2.2) st).q).length=(bB st.q).length+j/\(xs.foldl (λst x=>reach st (f x).1 (f x).2.1 (f x).2.2) st).reached.length<=st.reached.length+j
 | [],st=>⟨0,An _,rfl,An _⟩
 | x::xs,st=>by
  obtain⟨j1,h1,h2,h3⟩:=HB st (f x).1 (f x).2.1 (f x).2.2;obtain⟨j2,g1,g2,g3⟩:=qM f xs (reach st (f x).1 (f x).2.1 (f x).2.2);refine⟨j1+j2,by rw[Az];lia,?_,?_⟩
  .rw[Ea,g2,h2];lia
  .rw[Ea];lia
def gT(G:Sr)(S:Nat)(st:SS)(y:cC):Nat:=match eD G y.1 y.2.1 with
 | none=>0
 | some part=>if G.own part=true then((aH st.ends (part,y.2.1.getLastD 0)).getD []).length else S
structure Cn(G:Sr)(S I0:Nat)(st:SS)(P:List cC)(T:Nat):Prop where
 put:(bB st.q).length+T<=I0+(P.map (gT G S st)).sum
 rch:st.reached.length<=(bB st.q).length+T
 bnd:∀key,((aH st.begun key).getD []).Nodup
 enn:∀key,(((aH st.ends key).getD []).map Dz).Nodup
theorem tX(f:cC->Nat)(P:List cC)(x:cC):((P++[x]).map f).sum=(P.map f).sum+f x:=by simp
theorem yH{G:Sr}{S:Nat}{st st':SS}(h:st'.ends=st.ends):gT G S st'=gT G S st:=by
 funext y;unfold gT;rw[h]
theorem W5{G:Sr}{S I0 T:Nat}{st:SS}{P:List cC}{c:aJ}{n:Nat}{cut:List Int}{part:Str}(C:Cn G S I0 st P T)(hS:∀t p,(G.steps t p).length<=S)(hp:eD G n cut=some part)(ho:G.own part=false):Cn G S I0 (gA G st n cut c part) (P++[(n,cut,c)]) T:=by
 obtain⟨j,h1,h2,h3⟩:=qM (λz:Int×Int=>(n,cut++[z.1],(c.1+z.2,c.2))) (G.steps part (cut.getLastD 0)) st;have keep:∀(xs:List (Int×Int)) (st:SS),(xs.foldl (λst z=>reach st n (cut++[z.1]) (c.1+z.2,c.2)) st).ends=st.ends/\(xs.foldl (λst z=>reach st n (cut++[z.1]) (c.1+z.2,c.2)) st).begun=st.begun:=by
  intro xs
  induction xs with
  | nil=>intro st;exact⟨rfl,rfl⟩
  | cons x xs ih=>
   intro st;rw[Ea];obtain⟨e1,e2⟩:=ih (reach st n (cut++[x.1]) (c.1+x.2,c.2));have hr:(reach st n (cut++[x.1]) (c.1+x.2,c.2)).ends=st.ends/\(reach st n (cut++[x.1]) (c.1+x.2,c.2)).begun=st.begun:=by
    unfold reach;split
    .split<;>exact⟨rfl,rfl⟩
    .exact⟨rfl,rfl⟩
   exact⟨e1.trans hr.1,e2.trans hr.2⟩
 obtain⟨k1,k2⟩:=keep (G.steps part (cut.getLastD 0)) st;have k1':(gA G st n cut c part).ends=st.ends:=k1;have k2':(gA G st n cut c part).begun=st.begun:=k2;have h2':(bB (gA G st n cut c part).q).length=(bB st.q).length+j:=h2;have h3':(gA G st n cut c part).reached.length<=st.reached.length+j:=h3;have hs:=hS part (cut.getLastD 0);have hput:=C.put;have hrch:=C.rch;refine⟨?_,by lia,λkey=>by rw[k2'];exact C.bnd key,λkey=>by rw[k1'];exact C.enn key⟩;rw[yH k1',tX,h2'];have:gT G S st (n,cut,c)=S:=by
  unfold gT;rw[hp];simp only;rw[if_neg (by rw[ho];decide)]
 lia
theorem W6(st:SS)(n:Nat)(cut:List Int)(c:aJ):(reach st n cut c).ends=st.ends/\(reach st n cut c).begun=st.begun/\(reach st n cut c).best=st.best:=by
 unfold reach;split
 .split<;>exact⟨rfl,rfl,rfl⟩
 .exact⟨rfl,rfl,rfl⟩
theorem yI{O:Type}(f:O->Nat×List Int×aJ):∀(xs:List O) (st:SS),(xs.foldl (λst x=>reach st (f x).1 (f x).2.1 (f x).2.2) st).ends=st.ends/\(xs.foldl (λst x=>reach st (f x).1 (f x).2.1 (f x).2.2) st).begun=st.begun/\(xs.foldl (λst x=>reach st (f x).1 (f x).2.1 (f x).2.2) st).best=st.best
 | [],st=>⟨rfl,rfl,rfl⟩
 | x::xs,st=>by
  rw[Ea];obtain⟨h1,h2,h3⟩:=yI f xs (reach st (f x).1 (f x).2.1 (f x).2.2);obtain⟨g1,g2,g3⟩:=W6 st (f x).1 (f x).2.1 (f x).2.2;exact⟨h1.trans g1,h2.trans g2,h3.trans g3⟩
theorem W7{G:Sr}{S I0 T:Nat}{st:SS}{P:List cC}{cur c:aJ}{n:Nat}{cut:List Int}{part:Str}(C:Cn G S I0 st P T)(o:Ob G st P cur)(hnew:(n,cut,c)∉P)(hp:eD G n cut=some part)(ho:G.own part=true):Cn G S I0 (fW st n cut c part) (P++[(n,cut,c)]) T:=by
 obtain⟨st1,hst1⟩:∃z:SS,z = {st with begun:=fF st.begun (part,cut.getLastD 0) (n,cut,c)}:=⟨_,rfl⟩;obtain⟨j,h1,h2,h3⟩:=qM (λz:Int×aJ=>(n,cut++[z.1],eL c z.2)) ((aH st.ends (part,cut.getLastD 0)).getD []) st1;obtain⟨k1,k2,_⟩:=yI (λz:Int×aJ=>(n,cut++[z.1],eL c z.2)) ((aH st.ends (part,cut.getLastD 0)).getD []) st1;have k1':(fW st n cut c part).ends=st.ends:=by
  have:(fW st n cut c part).ends=st1.ends:=by rw[hst1]at k1⊢;exact k1
  rw[this,hst1]
 have k2':(fW st n cut c part).begun=fF st.begun (part,cut.getLastD 0) (n,cut,c):=by
  have:(fW st n cut c part).begun=st1.begun:=by rw[hst1]at k2⊢;exact k2
  rw[this,hst1]
 have h2':(bB (fW st n cut c part).q).length=(bB st.q).length+j:=by rw[hst1]at h2;exact h2
 have h3':(fW st n cut c part).reached.length<=st.reached.length+j:=by rw[hst1]at h3;exact h3
 have hput:=C.put;have hrch:=C.rch;refine⟨?_,by lia,λkey=>?_,λkey=>by rw[k1'];exact C.enn key⟩
 .rw[yH k1',tX,h2'];have:gT G S st (n,cut,c)=((aH st.ends (part,cut.getLastD 0)).getD []).length:=by
   unfold gT;rw[hp];simp only;rw[if_pos ho]
  lia
 .rw[k2',qK];split
  .rename_i h;rw[Fb];refine⟨C.bnd key,by simp,λa ha b hb e=>?_⟩;rw[Ao]at hb;rw[e,hb]at ha;exact hnew (o.bgn key _ ha).1
  .exact C.bnd key
theorem len_sub{O:Type}[DecidableEq O]:∀{a b:List O},a.Nodup->(∀x∈a,x∈b)->a.length<=b.length
 | [],b,_,_=>Bz _
 | x::a,b,hn,hs=>by
  rw[Cy]at hn;have hx:=hs x Bk;have ih:=len_sub (a:=a) (b:=b.erase x) hn.2 λy hy=>by
   have hne:y≠x:=λe=>hn.1 (by rw[<-e];exact hy);exact(List.mem_erase_of_ne hne).mpr (hs y (Ba _ hy))
  rw[List.length_erase_of_mem hx]at ih;have:=List.length_pos_of_mem hx;rw[Az];lia
theorem HC{f g:cC->Nat}{p:cC->Bool}:∀{P:List cC},(∀y∈P,g y=f y+if p y=true then 1 else 0)->(P.map g).sum=(P.map f).sum+(P.filter p).length
 | [],_=>rfl
 | y::P,h=>by
  have ih:=HC (P:=P) λz hz=>h z (Ba _ hz);rw[Bd,Bd,List.sum_cons,List.sum_cons,ih,h y Bk,Dw];split<;>simp<;>lia
theorem W8{G:Sr}{S I0 T:Nat}{st:SS}{P:List cC}{cur c:aJ}{n:Nat}{cut:List Int}(C:Cn G S I0 st P T)(o:Ob G st P cur)(hp:eD G n cut=none):Cn G S I0 (settle G st n cut c) (P++[(n,cut,c)]) T:=by
 have hdeg0:∀st',gT G S st' (n,cut,c)=0:=λst'=>by unfold gT;rw[hp]
 have hput:=C.put;have hrch:=C.rch;unfold settle;cases hf:aH st.best (cZ G n cut) with
 | some v=>
  simp only;refine⟨?_,C.rch,C.bnd,C.enn⟩;rw[tX,hdeg0];lia
 | none=>
  simp only;obtain⟨st1,hst1⟩:∃z:SS,z = {st with best:=st.best++[(cZ G n cut,c,n,cut)],ends:=fF st.ends (dG G n,cut.headD 0) (cut.getLastD 0,c)}:=⟨_,rfl⟩;rw[<-hst1];obtain⟨j,h1,h2,h3⟩:=qM (λy:cC=>(y.1,y.2.1++[cut.getLastD 0],eL y.2.2 c)) ((aH st.begun (dG G n,cut.headD 0)).getD []) st1;obtain⟨k1,k2,_⟩:=yI (λy:cC=>(y.1,y.2.1++[cut.getLastD 0],eL y.2.2 c)) ((aH st.begun (dG G n,cut.headD 0)).getD []) st1;obtain⟨st2,hst2⟩:∃z,z=((aH st.begun (dG G n,cut.headD 0)).getD []).foldl (λst y=>reach st y.1 (y.2.1++[cut.getLastD 0]) (eL y.2.2 c)) st1:=⟨_,rfl⟩;rw[<-hst2]at h2 h3 k1 k2⊢;have E:st2.ends=fF st.ends (dG G n,cut.headD 0) (cut.getLastD 0,c):=by rw[k1,hst1]
  have N:st2.begun=st.begun:=by rw[k2,hst1]
  have q1:(bB st1.q).length=(bB st.q).length:=by rw[hst1]
  have r1:st1.reached.length=st.reached.length:=by rw[hst1]
  obtain⟨pk,hpk⟩:∃pk:cC->Bool,pk=λy=>decide (eD G y.1 y.2.1=some (dG G n)/\G.own (dG G n)=true/\y.2.1.getLastD 0=cut.headD 0):=⟨_,rfl⟩;have hsum:(P.map (gT G S st2)).sum=(P.map (gT G S st)).sum+(P.filter pk).length:=HC λy hy=>by
   unfold gT;cases hpt:eD G y.1 y.2.1 with
   | none=>rw[hpk];simp[hpt]
   | some part=>
    simp only;cases ho:G.own part with
    | false=>
     rw[hpk];simp only[hpt,Fv];rw[if_neg (by decide),if_neg (by decide),if_neg (by rw[decide_eq_true_eq];rintro⟨h1,h2,_⟩;rw[<-h1,ho]at h2;cases h2)];rfl
    | true=>
     rw[if_pos rfl,if_pos rfl,E,qK]
     by_cases h:(dG G n,cut.headD 0)=(part,y.2.1.getLastD 0)
     .rw[if_pos h];simp only[Dn]at h;rw[hpk];simp only[hpt,Fv];rw[if_pos (by rw[decide_eq_true_eq];exact⟨h.1.symm,by rw[h.1];exact ho,h.2.symm⟩)];simp
     .rw[if_neg h];rw[hpk];simp only[hpt,Fv];rw[if_neg (by rw[decide_eq_true_eq];rintro⟨h1,_,h3⟩;exact h (by rw[h1,h3]))];lia
  have hbl:((aH st.begun (dG G n,cut.headD 0)).getD []).length<=(P.filter pk).length:=len_sub (C.bnd _) λy hy=>by
   obtain⟨g1,g2,g3,g4,_⟩:=o.bgn _ y hy;rw[Ct,hpk];exact⟨g1,decide_eq_true ⟨g2,g3,g4⟩⟩
  refine⟨?_,by lia,λkey=>by rw[N];exact C.bnd key,λkey=>?_⟩
  .rw[tX,hdeg0,hsum];lia
  .rw[E,qK];split
   .rename_i h;rw[Bb,Fb];refine⟨C.enn key,by simp,λa ha b hb e=>?_⟩;obtain⟨z,hz,rfl⟩:=Bg.mp ha;rw[List.map_singleton,Ao]at hb;rw[<-h]at hz;obtain⟨k,hk⟩:=(o.ends _ _ z.1 z.2).mp hz;rw[e,hb]at hk;have:aH st.best (cZ G n cut)=some (z.2,k):=hk;rw[hf]at this;cases this
   .exact C.enn key
def lW(G:Sr)(st:SS):SS:=match iI st.q with
 | none=>st
 | some (c,(n,cut),q')=>match aH st.reached (bT n cut) with
  | some d=>if cU d c=true then {st with q:=q'} else process G {st with q:=q'} n cut c
  | none=>{st with q:=q'}
structure All(G:Sr)(S I0:Nat)(st:SS)(P:List cC)(cur:aJ)(T:Nat):Prop where
 inv:fQ G st P cur
 ob:Ob G st P cur
 ini:yE G st
 cn:Cn G S I0 st P T
theorem Cn.q{G:Sr}{S I0 T:Nat}{st:SS}{P:List cC}{q':List (aJ×List (Nat×List Int))}(C:Cn G S I0 st P T)(h:(bB st.q).length=(bB q').length+1):Cn G S I0 {st with q:=q'} P (T+1):=by
 have h1:=C.put;have h2:=C.rch;refine⟨?_,?_,C.bnd,C.enn⟩
 .show(bB q').length+(T+1)<=_;rw[yH (st':={st with q:=q'}) (st:=st) rfl];lia
 .show st.reached.length<=(bB q').length+(T+1);lia
theorem W9{G:Sr}{S I0 T:Nat}{st:SS}{P:List cC}{cur c:aJ}{n:Nat}{cut:List Int}(C:Cn G S I0 st P T)(o:Ob G st P cur)(hS:∀t p,(G.steps t p).length<=S)(hnew:(n,cut,c)∉P):Cn G S I0 (process G st n cut c) (P++[(n,cut,c)]) T:=by
 unfold process;cases hp:eD G n cut with
 | none=>exact W8 C o hp
 | some part=>
  simp only;cases ho:G.own part with
  | true=>rw[if_pos rfl];exact W7 C o hnew hp ho
  | false=>rw[if_neg (by decide)];exact W5 C hS hp ho
theorem XA{G:Sr}(ok:oU G){S I0 T:Nat}{st:SS}{P:List cC}{cur:aJ}(A:All G S I0 st P cur T)(hS:∀t p,(G.steps t p).length<=S)(hq:st.q≠[]):∃P' cur',All G S I0 (lW G st) P' cur' (T+1):=by
 obtain⟨c,x,q',e1,f1,m1,l1,c1,_⟩:=nV A.inv.fall hq;obtain⟨n,cut⟩:=x;have hin:(c,(n,cut))∈bB st.q:=(m1 _).mpr (.inl rfl);obtain⟨d,hd,hle⟩:=A.inv.ge _ hin;unfold lW;rw[e1];simp only;rw[hd];simp only
 by_cases hl:cU d c=true
 .rw[if_pos hl];obtain⟨I1,hc⟩:=WU A.inv e1 hd hl;exact⟨P,c,I1,A.ob.later hc q',A.ini,A.cn.q l1⟩
 .rw[if_neg hl];have hdc:d=c:=Le.antisymm hle (yA.mpr hl);subst hdc;obtain⟨I1,hc,g⟩:=WT A.inv e1 hd;have o1:=A.ob.later hc q';obtain⟨I2,o2,le2⟩:=WY ok I1 o1 g;refine⟨_,_,I2,o2,λn r p h1 h2=>le2 _ _ (A.ini n r p h1 h2),W9 (A.cn.q l1) o1 hS λhm=>?_⟩;have hn:=I1.once;rw[Bb,Fb]at hn;exact hn.2.2 _ (Bg.mpr ⟨_,hm,rfl⟩) _ (by simp) rfl
def gU:SS:=⟨[],[],[],[],[]⟩
def kA(G:Sr):List (Nat×Int):=(Cv G.rs.length).flatMap λn=>G.places.map λp=>(n,p)
def lA(G:Sr):SS:=(kA G).foldl (λst x=>reach st x.1 [x.2] (G.wt x.1,1)) gU
theorem XB{G:Sr}(ok:oU G)(S:Nat):All G S (kA G).length (lA G) [] (0,0) 0:=by
 have I0:fQ G gU [] (0,0):=⟨trivial,(λe he=>nomatch he),(λe he=>nomatch he),Ez,Ez,(λy hy=>nomatch hy),(λe he=>nomatch he),(λe he=>nomatch he),(λk d hd=>nomatch hd)⟩;have hmem:∀x∈kA G,(∃r,G.rs[x.1]? = some r)/\x.2∈G.places:=λx hx=>by
  obtain⟨n,hn,hx⟩:=Fu.mp hx;obtain⟨p,hp,rfl⟩:=Bg.mp hx;exact⟨⟨_,Ak (Ho.mp hn)⟩,hp⟩
 obtain⟨I1,g1,r1⟩:=qL (λx:Nat×Int=>(x.1,[x.2],(G.wt x.1,(1:Int)))) (kA G) I0 λx hx=>by
  obtain⟨⟨r,hr⟩,hp⟩:=hmem x hx;refine⟨.start hr hp,?_⟩;have:=ok.wt x.1;show Le (0,0) (G.wt x.1,1);unfold Le;simp only;lia
 obtain⟨j,h1,h2,h3⟩:=qM (λx:Nat×Int=>(x.1,[x.2],(G.wt x.1,(1:Int)))) (kA G) gU;have b0:(lA G).best=[]:=g1.best;have e0:(lA G).ends=[]:=g1.ends;have n0:(lA G).begun=[]:=g1.begun;refine⟨I1,⟨Le.refl _,(λy hy=>nomatch hy),(λy hy=>nomatch hy),(λy hy=>nomatch hy),λkey y hy=>?_,λkey y hy=>?_,λnm b e m=>?_,λf m n cut e=>?_,λpre e post h=>?_⟩,λn r p hr hp=>?_,⟨?_,?_,λkey=>?_,λkey=>?_⟩⟩
 .rw[n0]at hy;cases hy
 .rw[n0]at hy;cases hy
 .rw[e0,b0];exact⟨(λz=>nomatch z),(λ⟨k,hk⟩=>nomatch hk)⟩
 .rw[b0]at e;cases e
 .rw[b0]at h;cases pre<;>cases h
 .exact r1 (n,p) (Fu.mpr ⟨n,Ho.mpr (Ai.mp hr).1,Bg.mpr ⟨p,hp,rfl⟩⟩)
 .have h2:(bB (lA G).q).length=(bB gU.q).length+j:=h2;have:(bB gU.q).length=0:=rfl;simp only[Ka,List.sum_nil];lia
 .have h2:(bB (lA G).q).length=(bB gU.q).length+j:=h2;have h3:(lA G).reached.length<=gU.reached.length+j:=h3;have e1:(bB gU.q).length=0:=rfl;have e2:gU.reached.length=0:=rfl;lia
 .rw[n0];exact Ez
 .rw[e0];exact Ez
structure qN(G:Sr)(V:List Int)(N L:Nat):Prop where
 pl:∀p∈G.places,p∈V
 st:∀t p e c,p∈V->(e,c)∈G.steps t p->e∈V
 few:G.rs.length<=N
 len:∀r∈G.rs,r.parts.length+1<=L
theorem tY{l:List Int}(h:l≠[]):l.getLastD 0∈l:=by
 rcases Ej l with z|⟨a,b,z⟩
 .exact absurd z h
 .rw[z,Ek];simp[Hy]
theorem XC{l:List Int}(h:l≠[]):l.headD 0∈l:=by
 cases l with
 | nil=>exact absurd rfl h
 | cons a b=>simp
theorem tZ{G:Sr}{V:List Int}{N L:Nat}(v:qN G V N L){n:Nat}{cut:List Int}{c:aJ}(h:DI G n cut c):(∀x∈cut,x∈V)/\n<N/\cut.length<=L:=by
 induction h with
 | @start n r p hr hp=>
  have hn:=(Ai.mp hr).1;have:=v.len r (Bf hr);have:=v.few;exact⟨λx hx=>by rw[Ao.mp hx];exact v.pl p hp,by lia,by simp;lia⟩
 | @word n r cut c part e pr hd hr hp ho hs ih=>
  obtain⟨h1,h2,h3⟩:=ih;have hl:=(Ai.mp hp).1;have:=v.len r (Bf hr);have hne:=Fd.mpr hd.ne;refine⟨λx hx=>?_,h2,by rw[Ah,Bo];lia⟩;rcases Bj.mp hx with z|z
  .exact h1 x z
  .rw[Ao.mp z];exact v.st _ _ _ _ (h1 _ (tY hd.ne)) hs
 | @name n n' r cut cut' c m part hd hr hp ho hd' hf hn hh ih ih'=>
  obtain⟨h1,h2,h3⟩:=ih;obtain⟨g1,_,_⟩:=ih';have hl:=(Ai.mp hp).1;have:=v.len r (Bf hr);have hne:=Fd.mpr hd.ne;refine⟨λx hx=>?_,h2,by rw[Ah,Bo];lia⟩;rcases Bj.mp hx with z|z
  .exact h1 x z
  .rw[Ao.mp z];exact g1 _ (tY hd'.ne)
def t5(V:List Int)(N L:Nat):List K4:=(Cv N).flatMap λn=>(Cv (L+1)).flatMap λl=>V.flatMap λa=>V.map λb=>(n,l,a,b)
theorem qO{O J:Type}{f:O->List J}{k:Nat}:∀{l:List O},(∀x∈l,(f x).length=k)->(l.flatMap f).length=l.length*k
 | [],_=>by simp
 | x::l,h=>by
  rw[List.flatMap_cons,Ah,h x Bk,qO λy hy=>h y (Ba _ hy),Az,Nat.succ_mul];lia
theorem XD(V:List Int)(N L:Nat):(t5 V N L).length=N*((L+1)*(V.length*V.length)):=by
 unfold t5;rw[qO (k:=(L+1)*(V.length*V.length)) λn _=>?_,Gh];rw[qO (k:=V.length*V.length) λl _=>?_,Gh];rw[qO (k:=V.length) λa _=>by rw[Aa]]
theorem HD{G:Sr}{V:List Int}{N L S I0 T:Nat}{st:SS}{P:List cC}{cur:aJ}(v:qN G V N L)(A:All G S I0 st P cur T):P.length<=N*((L+1)*(V.length*V.length))/\(∀key,((aH st.ends key).getD []).length<=V.length)/\(bB st.q).length+T<=I0+N*((L+1)*(V.length*V.length))*(S+V.length):=by
 have hin:∀{B:bM} {n cut c},B=st.best->GI G B n cut c->DI G n cut c:=λ{B n cut c} e g=>yF (B:=B) (λf m n' cut' h=>yG A.ob (by rw[<-e];exact h)) g;have hP:P.length<=N*((L+1)*(V.length*V.length)):=by
  have:=len_sub (b:=t5 V N L) A.inv.once λk hk=>by
   obtain⟨y,hy,rfl⟩:=Bg.mp hk;have hd:=hin rfl (A.inv.pr y hy).2.2;obtain⟨h1,h2,h3⟩:=tZ v hd;unfold t5;refine Fu.mpr ⟨y.1,Ho.mpr h2,Fu.mpr ⟨y.2.1.length,Ho.mpr (by lia),Fu.mpr ⟨_,h1 _ (XC hd.ne),Bg.mpr ⟨_,h1 _ (tY hd.ne),rfl⟩⟩⟩⟩
  rw[Aa,XD]at this;exact this
 have hE:∀key,((aH st.ends key).getD []).length<=V.length:=λkey=>by
  have:=len_sub (b:=V) (A.cn.enn key) λe he=>by
   obtain⟨z,hz,rfl⟩:=Bg.mp he;obtain⟨k,hk⟩:=(A.ob.ends key.1 key.2 z.1 z.2).mp hz;obtain⟨n,cut⟩:=k;obtain⟨hd,_,hf⟩:=yG A.ob hk;unfold cZ at hf;simp only[Dn]at hf;rw[hf.2.2];exact(tZ v hd).1 _ (tY hd.ne)
  rw[Aa]at this;exact this
 refine⟨hP,hE,?_⟩;have hsum:(P.map (gT G S st)).sum<=P.length*(S+V.length):=by
  have hd:∀y,gT G S st y<=S+V.length:=λy=>by
   unfold gT;split
   .lia
   .rename_i part _;split
    .have:=hE (part,y.2.1.getLastD 0);lia
    .lia
  have:∀l:List cC,(l.map (gT G S st)).sum<=l.length*(S+V.length):=by
   intro l
   induction l with
   | nil=>simp
   | cons y l ih=>rw[Bd,List.sum_cons,Az,Nat.succ_mul];have:=hd y;lia
  exact this P
 have h1:=A.cn.put;have h2:P.length*(S+V.length)<=N*((L+1)*(V.length*V.length))*(S+V.length):=Nat.mul_le_mul_right _ hP;lia
theorem lB{O:Type}{l:List O}{k:Nat}{x:O}(h:l[k]? = some x):l.take (k+1)=l.take k++[x]:=by
 rw[List.take_succ,h];rfl
end Rg
namespace L3
open PySem Spec PyProof.Rows L2
section
variable {ws:List W}{g:e6}{tb:aG}{D:D3}{τ:S3}{M:Mm}
theorem xI{O:Sort _}{p K:O->Prop}{w:O}(h:p w)(k:K w):∃w,p w/\K w:=⟨w,h,k⟩
theorem qQ(Pv:Nat->S3->Mm->Prop)(h0:Pv 0 τ M)(hs:∀i w τ M,ws[i]? = some w->Pv i τ M->g w τ M λτ2 M2=>tb {D with nx:=λτ' M'=>∃M'',Sub M'' M'/\Pv (i+1) τ' M'',ct:=λτ' M'=>∃M'',Sub M'' M'/\Pv (i+1) τ' M'',bk:=D.nx} τ2 M2)(hd:∀τ M,Pv ws.length τ M->D.nx τ M):qA ws (λ_=>True) g tb D τ M:=nO Pv h0 (λ_ _ _ _ _=>trivial) hs hd
theorem iW(Pv:Nat->S3->Mm->Prop)(h0:Pv 0 τ M)(hs:∀i w τ M,ws[i]? = some w->Pv i τ M->∀D':D3,(∀τ M,Pv (i+1) τ M->D'.nx τ M)->g w τ M λτ2 M2=>tb D' τ2 M2)(hd:∀τ M,Pv ws.length τ M->D.nx τ M):qA ws (λ_=>True) g tb D τ M:=qQ Pv h0 (λi w τ M e p=>hs i w τ M e p _ λ_ M z=>⟨M,Sub.refl _,z⟩) hd
theorem XE{c:d7}(Pv:Nat->S3->Mm->Prop)(h0:∃m,Pv m τ M)(hs:∀m τ M,Pv m τ M->∀D':D3,(∀m' τ M,m'<m->Pv m' τ M->D'.nx τ M)->c τ M λb M1=>if b=true then tb D' τ M1 else D.nx τ M1):p9 c tb D τ M:=⟨Pv,h0,λm τ M p=>hs m τ M p _ λm' _ M l z=>⟨m',M,l,Sub.refl _,z⟩⟩
end
end L3
namespace PySem
namespace Dp
open PyProof.Rows L2 PySem.Spec
section
variable {prog:Bv}{w:Cp}{A:Cq}{E:Ae->Ag->Prop}{s:Ag}
theorem XF:typeLookup (.type "list") "keys" = pure none:=by rw[typeLookup_type,Me];kernel_rfl
theorem XG{a:Addr}{xs:Array Ae}{k:Nat}{Q:Option Ae->Ag->Prop}(hx:s.heap.get? a=some {cls:=.type "list",data:=.seq xs k})(hA:A.handled=none)(h:∀h' tk,(∀b o,s.heap.get? b=some o->h'.get? b=some o)->Q none {s with heap:=h',toks:=tk}):Bc (Bn prog w) A (getAttr? (.ref a) (Dy "keys")) Q E s:=by
 obtain⟨hp,g,d,tk,os⟩:=s;have hT:∀tk',(⟨hp,g,d,tk',os⟩:Ag).TypeIs (.ref a) "list":=λ_=>⟨_,hx,rfl⟩
 have f1:=sub_AttributeError;have f3:=Kz.lookup;have f4:=Kz.bind (.ref a);have f5:=am_list_getattr_none;unfold getAttr? getAttrBy? getAttrBy
 repeat (any_goals (first|assumption|exact hT _|((with_reducible show Bc _ _ (call (Value.builtin "list.__getattribute__") _ _) _ _ _);refine Jz Kz (hT _) am_entry_list_getattribute (F.args_list_getattribute_2 _ _) (meets_getattribute_miss_list a xs k #[] (Dy "keys") _ XF (by decide +kernel) (by decide +kernel)) ⟨hx,hA,λh' tk' e hx'=>?_⟩)|wp_step))
 obtain⟨t',u',he⟩:=hx'.there;have hx2:=hx'.of.keeps;show Bc _ _ (getattributeRaised _ _ _ _ _ _ _) _ _ _;unfold getattributeRaised
 repeat (any_goals (first|assumption|wp_step))
 exact h _ _ hx2
theorem HE:entryFor table "dict.update.loop" = some Lf.«dict.update.loop»:=entryFor_of_tree (by kernel_rfl)
theorem t6:plainId "dict.update.loop" = true:=by decide +kernel
variable {K:Type}[DecidableEq K]{knd:KeyKind prog w K}
theorem XH(kvs:List (K×Ae))(k:K)(v:Ae):(stored kvs k v).length<=kvs.length+1:=by
 unfold stored;split
 .rw[Aa];lia
 .rw[Ah,Bo];exact An _
def all(kvs:List (K×Ae))(ps:List (K×Ae)):List (K×Ae):=ps.foldl (λkvs p=>stored kvs p.1 p.2) kvs
theorem XI{d I l:Addr}{items:Array Ae}{Dd:Nat->Heap->Prop}{R:Result->Ag->Prop}(hh:A.handled=none)(hdI:d≠I)(hdl:d≠l)(hlI:l≠I)(fr:∀{i h h'},Dd i h->(∀b o,b≠I->h.get? b=some o->h'.get? b=some o)->Dd i h')(st:∀{i:Nat} {t:Ag},i<items.size->Dd i t.heap->∃(a:Addr) (key v:Ae),items[i]? = some (.ref a)/\t.heap.IsTuple a #[key,v]/\∀{E:Ae->Ag->Prop} {Q:Unit->Ag->Prop},(∀h2 tk,Dd (i+1) h2->Eo d t.heap h2->Q () {t with heap:=h2,toks:=tk})->Bc (Bn prog w) A.in1 (dictSet d key v) Q E t):
  ∀(k i:Nat) (s:Ag),items.size-i=k->i<=items.size->s.heap.IsListIter I l i->s.heap.IsList l items->Dd i s.heap->
  (∀h' tk,(∀b o,b≠d->b≠I->s.heap.get? b=some o->h'.get? b=some o)->Dd items.size h'->R (.ok (.ret .none)) {s with heap:=h',toks:=tk})->
  Jl (Bn prog w) A (.builtin "dict.update.loop" ⟨[.ref d,.ref I,Jj (i:Int),.none],[]⟩) R s:=by
 intro k
 induction k with
 | zero=>
  intro i s hk hi hit pJ hd hR;have hin:i=items.size:=by lia
  refine codeAny_builtin HE ?_;rw[Around.under_plainId t6 _];show Bc _ A.in1 (Jk (.ref I)>>=_) _ _ s;have W:=Walks.list (prog:=prog) (w:=w) (A:=A.in1) hh I l hlI items;refine Ab (W.done s _ _ (by rw[<-hin];exact⟨hit,pJ⟩) λh' tk hm=>?_);show Bc _ A.in1 (Builtin.Dict.addKeywords d []>>=_) _ _ _;rw[hin]at hd;exact Ab (Aj (Aj (hR h' tk (λb o _ hb e=>hm b o (by simp[hb]) e) (fr hd λb o hb e=>hm b o (by simp[hb]) e))))
 | succ k ih=>
  intro i s hk hi hit pJ hd hR;have hlt:i<items.size:=by lia
  refine codeAny_builtin HE ?_;rw[Around.under_plainId t6 _];show Bc _ A.in1 (Jk (.ref I)>>=_) _ _ s;have W:=Walks.list (prog:=prog) (w:=w) (A:=A.in1) hh I l hlI items;refine Ab (W.item i s _ _ hlt ⟨hit,pJ⟩ λv h' tk hv hst hm=>?_);obtain⟨a,key,u,ha,⟨o,ho,hc,n,hd2⟩,go⟩:=st (t:={s with heap:=h',toks:=tk}) hlt (fr hd λb o hb e=>hm b o (by simp[hb]) e);rw[ha]at hv;cases hv;show Bc _ A.in1 (Iz [Value.ref a] _>>=_) _ _ _;refine Ab (Ds (Ab (wpAny_tryCatch ?_)));unfold Builtin.Dict.pairItems;refine Ab (wpAny_typeOf (T:="tuple") ⟨o,ho,hc⟩ ?_);rw[if_pos (by decide)];refine Ab (Ge ho hd2 (Aj ?_));show Bc _ _ (Iz [key,u] (dictSet d key u)) _ _ _;refine Ds (go λh2 tk2 hd3 hs2=>?_);refine Aj ⟨plainId_quiet t6 _,?_⟩;exact ih (i+1) _ (by lia) hlt (hst.1.at λo e=>(hs2.2 I (Bt hdI)).trans e) (hst.2.at λo e=>(hs2.2 l (Bt hdl)).trans e) hd3 λh3 tk3 hk3 hd4=>hR h3 tk3 (λb o h1 h2 e=>hk3 b o h1 h2 ((hs2.2 b h1).trans (hm b o (by simp[h2]) e))) hd4
theorem XJ{l:Addr}{items:Array Ae}{c:Nat}{Dd:Nat->Heap->Prop}{Q:Ae->Ag->Prop}(hh:A.handled=none)(hx:s.heap.get? l=some {cls:=.type "list",data:=.seq items c})(d0:Dd 0 (s.heap.push {cls:=.type "dict",data:=.dict #[]}))(fr:∀{i h h'},Dd i h->(∀b o,@LE.le Nat _ b s.heap.objs.size->h.get? b=some o->h'.get? b=some o)->Dd i h')(st:∀{i:Nat} {t:Ag},i<items.size->Dd i t.heap->(∀b o,s.heap.get? b=some o->t.heap.get? b=some o)->∃(a:Addr) (key v:Ae),items[i]? = some (.ref a)/\s.heap.IsTuple a #[key,v]/\∀{E:Ae->Ag->Prop} {Q:Unit->Ag->Prop},(∀h2 tk,Dd (i+1) h2->Eo s.heap.objs.size t.heap h2->Q () {t with heap:=h2,toks:=tk})->Bc (Bn prog w) A.in1.in1 (dictSet s.heap.objs.size key v) Q E t)(h:∀h' tk,(∀b o,s.heap.get? b=some o->h'.get? b=some o)->Dd items.size h'->Q (.ref s.heap.objs.size) {s with heap:=h',toks:=tk}):
  Bc (Bn prog w) A (call (.type "dict") [.ref l]) Q E s:=by
 refine callType_codes (Q₁:=λobj s1=>obj=.ref s.heap.objs.size/\s1 = {s with heap:=s.heap.push {cls:=.type "dict",data:=.dict #[]}}) F.kt_called_dict (F.kt_typeCall_dict_1 _) F.entry_dict_init (kt_code_dict_new _ ⟨rfl,rfl⟩) ?_;rintro obj s1 ⟨rfl,rfl⟩;have lt:l<s.heap.objs.size:=Aw hx;have hx':(s.heap.push {cls:=.type "dict",data:=.dict #[]}).get? l=some {cls:=.type "list",data:=.seq items c}:=Af _ hx;have hty:({s with heap:=s.heap.push {cls:=.type "dict",data:=.dict #[]}}:Ag).TypeIs (.ref s.heap.objs.size) "dict":=⟨_,Ay _ rfl,rfl⟩;refine⟨hty,F.args_dict_init_2 _ _,?_⟩;unfold Lf.«dict.__init__»;refine Ab ?_;unfold Builtin.Dict.selfAndRest;refine Ab (Jw hty ?_);show Bc _ _ (pure (s.heap.objs.size,[Value.ref l])) _ _ _;refine Aj ?_;show Bc _ _ (Builtin.Dict.updateFrom "dict.__init__" s.heap.objs.size (.ref l) [] .none) _ _ _;unfold Builtin.Dict.updateFrom;refine Ab (wpAny_typeOf (T:="list") ⟨_,hx',rfl⟩ ?_);rw[if_pos (by decide)];refine Ab (XG hx' hh λh1 tk1 hk1=>?_);rw[if_pos (by decide)];have hx1:=hk1 _ _ hx';have l1:s.heap.objs.size<h1.objs.size:=Aw (hk1 _ _ (Ay _ rfl));refine Ab (Ie (Ab (La (items:=items) ⟨_,hx1,rfl,c,rfl⟩ ?_)));have gI:(h1.push {cls:=.type "list_iterator",data:=.fields #[.ref l,.int 0 0]}).IsListIter h1.objs.size l 0:=⟨_,Ay _ rfl,rfl,rfl⟩;have up:∀b o,s.heap.get? b=some o->(h1.push {cls:=.type "list_iterator",data:=.fields #[.ref l,.int 0 0]}).get? b=some o:=λb o e=>Af _ (hk1 b o (Af _ e));have nI:∀{b:Addr},@LE.le Nat _ b s.heap.objs.size->b≠h1.objs.size:=λhb=>Bl (Kj hb l1);refine Aj ⟨plainId_quiet t6 _,?_⟩;refine XI (A:=A.in1) (d:=s.heap.objs.size) (I:=h1.objs.size) (l:=l) (items:=items) (Dd:=λi h=>Dd i h/\∀b o,s.heap.get? b=some o->h.get? b=some o) hh (Bl l1) (Dt lt) (Bl (Nat.lt_trans lt l1)) (λ⟨z1,z2⟩ hm=>⟨fr z1 λb o hb e=>hm b o (nI hb) e,λb o e=>hm b o (nI (Gi (Aw e))) (z2 b o e)⟩) (λhi ⟨z1,z2⟩=>?_) items.size 0 _ rfl (Bz _) gI ⟨_,Af _ hx1,rfl,c,rfl⟩ ⟨fr d0 λb o _ e=>Af _ (hk1 b o e),up⟩ λh2 tk2 _ hd2=>⟨rfl,h h2 tk2 hd2.2 hd2.1⟩
 obtain⟨a,key,v,g1,⟨o,g2,g3⟩,go⟩:=st hi z1 z2;exact⟨a,key,v,g1,⟨o,z2 a o g2,g3⟩,λk=>go λh2 tk z hs=>k h2 tk ⟨z,λb o e=>(hs.2 b (Bl (Aw e))).trans (z2 b o e)⟩ hs⟩
theorem XM{O:Type}{ps:List O}{i:Nat}{p:O}(h:ps[i]? = some p):ps.take (i+1)=ps.take i++[p]:=by rw[Fl,h];rfl
theorem XN(ps:List (K×Ae)):∀kvs,(all kvs ps).length<=kvs.length+ps.length:=by
 induction ps with
 | nil=>exact λ_=>An _
 | cons p ps ih=>exact λkvs=>Au (ih _) (by have:=XH kvs p.1 p.2;rw[Az];lia)
theorem call_pairs{l:Addr}{items:Array Ae}{c:Nat}{ps:List (K×Ae)}{Q:Ae->Ag->Prop}(hh:A.handled=none)(hx:s.heap.get? l=some {cls:=.type "list",data:=.seq items c})(hn:ps.length=items.size)(hz:items.size<=Am)(hp:∀(j:Nat) (p:K×Ae),ps[j]? = some p->∃(a:Addr) (key:Ae),items[j]? = some (.ref a)/\s.heap.IsTuple a #[key,p.2]/\knd.is p.1 key=true)(h:∀h' tk,(∀b o,s.heap.get? b=some o->h'.get? b=some o)->h'.DictOf knd s.heap.objs.size (all [] ps)->Q (.ref s.heap.objs.size) {s with heap:=h',toks:=tk}):
  Bc (Bn prog w) A (call (.type "dict") [.ref l]) Q E s:=by
 refine XJ (Dd:=λi h=>h.DictOf knd s.heap.objs.size (all [] (ps.take i))) hh hx (Heap.DictOf.new s.heap) (λ⟨o,es,ep,ho,rest⟩ hm=>⟨o,es,ep,hm _ o (An _) ho,rest⟩) (λ{i t} hi hd _=>?_) λh' tk e d=>h h' tk e (by rw[<-hn,Ck]at d;exact d);obtain⟨p,hpi⟩:∃p,ps[i]? = some p:=⟨_,Ak (by lia)⟩;obtain⟨a,key,g1,g2,g3⟩:=hp i p hpi;have len:=XN (ps.take i) [];rw[Bp,Gy]at len;refine⟨a,key,p.2,g1,g2,λk=>wpAny_dictSet_pairs g3 hd (λh2 d2 s2=>k h2 _ ?_ s2) (by lia)⟩;rw[XM hpi,all,Jc];exact d2
end
end Dp
end PySem
namespace L3
open PySem Spec PyProof.Rows L2
section
variable {X:Cx}
def t7(kvs:List (aK×W))(ps:List (aK×W)):List (aK×W):=ps.foldl (λkvs p=>cT kvs p.1 p.2) kvs
def t9(ps:List (aK×W)):List W:=ps.map λp=>.tup [wK p.1,p.2]
theorem HF{pins:List (Addr×Obj)}{Z:L2.St}{H:Hp}{M:Mm}{s:Ag}(I:L2.Inv X pins Z H s):∀{ps:List (aK×W)} {vs:List V} {its:List Ae},aM X.K H M vs (t9 ps)->a8 vs its->
  ∃(ks:List (aK×V)) (rs:List (aK×Ae)),cD X.K H M aK ks ps/\KV ks rs/\rs.length=its.length/\
   ∀(j:Nat) (p:aK×Ae),rs[j]? = some p->∃(a:Addr) (key:Ae),its[j]? = some (.ref a)/\s.heap.IsTuple a #[key,p.2]/\(d6 X.prog X.w).is p.1 key=true
 | [],_,_,.nil,.nil=>⟨[],[],.nil,.nil,rfl,λj p h=>by simp at h⟩
 | (k,w)::ps,_,_,.cons av avs,.cons rv rvs=>by
  obtain⟨ks,rs,h1,h2,h3,h4⟩:=HF I avs rvs;obtain⟨a,xs,ev,e,q⟩:=av.inv;rw[ev]at rv;obtain⟨u1,u2,ex,a1,a2⟩:=q.two;obtain⟨its2,r2,pl,_⟩:=I.tuple (bW.of e);rw[ex,a1.key]at r2;obtain⟨y1,y2,ey,x1,x2⟩:=vals2 r2;rw[ey]at pl;refine⟨(k,u2)::ks,(k,y2)::rs,.cons ⟨rfl,a2⟩ h1,.cons ⟨rfl,x2⟩ h2,congrArg (· + 1) h3,λj p hj=>?_⟩;cases j with
  | zero=>rw[<-Cj hj];exact⟨a,y1,congrArg some rv,pl,mH x1⟩
  | succ j=>exact h4 j p hj
theorem HG{H:Hp}{M:Mm}:∀{ps:List (aK×W)} {ks:List (aK×V)} {rs:List (aK×Ae)} {kvs:List (aK×W)} {ls:List (aK×V)} {us:List (aK×Ae)},cD X.K H M aK ks ps->KV ks rs->cD X.K H M aK ls kvs->KV ls us->
  ∃ls':List (aK×V),cD X.K H M aK ls' (t7 kvs ps)/\KV ls' (Dp.all us rs)/\ls'.length<=ls.length+ps.length
 | [],_,_,_,ls,_,.nil,.nil,h1,h2=>⟨ls,h1,h2,An _⟩
 | p::ps,_,_,_,ls,_,.cons (a:=a) x r,.cons (b:=b) y t,h1,h2=>by
  obtain⟨k,w⟩:=p;obtain⟨k1,v⟩:=a;obtain⟨k2,u⟩:=b;obtain⟨x1,x2⟩:=x;obtain⟨y1,y2⟩:=y;cases x1;cases y1;obtain⟨ls',g1,g2,g3⟩:=HG (kvs:=cT _ k w) r t (xB h1 k x2) (h2.put k y2);have:=sL ls k v;exact⟨ls',g1,g2,by simp at g3⊢;lia⟩
def HH:List W->Mm->K3->Prop
 | [.rl ws],M,R=>∃ps:List (aK×W),ws=t9 ps/\ws.length<=Am/\R (.dk (t7 [] ps)) M
 | _,_,_=>False
theorem XO(hc:X.calm=true):dR X (.type "dict") (g9 X.K HH):=by
 rintro pins s Z H xs us Q I rs ⟨ws,M,R,am,axs,h,k⟩
 match ws,h with
 | [.rl ws],h=>
  obtain⟨v,rfl,av⟩:=axs.one;obtain⟨ps,rfl,hz,r⟩:=h;obtain⟨u,rfl,ru⟩:=vals1 rs;cases av with
  | rl f n q=>
   cases ru;obtain⟨z,its,c,rv,hl,e⟩:=I.lstM f;obtain⟨ks,rs',h1,h2,h3,h4⟩:=HF I q rv;obtain⟨ls,g1,g2,g3⟩:=HG h1 h2 .nil .nil;refine Dp.call_pairs (knd:=d6 X.prog X.w) (items:=its.toArray) (ps:=rs') (I.ok.hd hc) e (by simpa using h3) (by rw[Ax];lia) (λj p hj=>by simpa using h4 j p hj) λh' tk hk hd=>?_;have hz2:ps.length<=Am:=by simpa [t9] using hz
   have hfr:=I.hok.fresh (An _);refine⟨.ref s.heap.objs.size,aX H s.heap.objs.size (.dK ls),I.laid (o:=.dK ls) (t':=tk) hk (An _) ⟨by simp at g3;lia,beq_eq_false_iff_ne.mpr (Bt (Bl I.big)),_,g2,hd⟩,rfl,?_⟩;obtain⟨am2,k2⟩:=am.tup (u:=.dK ls) hfr;exact k _ _ _ _ k2 am2 (.dk c9 (am.nonM hfr) g1.keys (g1.vals.newT hfr)) r
end
section
variable {X:Cx}
def HI(neg:Bool):R3:=λx y M R=>∃a b:Bool,x=.bl a/\y=.bl b/\R (.bl (if neg then a !=b else a==b)) M
theorem XQ:bG X (Cb .Is) (cS X.K (HI false)):=by
 rintro pins s Z H x y v u Q I rx ry ⟨wx,wy,M,R,am,ax,ay,⟨a,b,rfl,rfl,h⟩,k⟩;cases ax;cases ay;cases rx;cases ry;have e:Cb .Is (Value.bool a) (Value.bool b)=pure (Value.bool (a==b)):=by cases a<;>cases b<;>rfl
 rw[e];exact Aj ⟨.bl _,H,I,rfl,k.at am (.bl _) h⟩
end
def cG(f:Str)(w:W):List (Str×W)->List (Str×W)
 | []=>[(f,w)]
 | (k,x)::r=>if k=f then(k,w)::r else(k,x)::cG f w r
section
variable {K:Ac}{H:Hp}{M:Mm}
theorem cD.look{f:Str}{w:W}:∀{gs:List (Str×V)} {fs:List (Str×W)},cD K H M Str gs fs->fs.lookup f=some w->∃v,gs.lookup f=some v/\AV K H M v w
 | _,_,.nil,h=>by cases h
 | _,_,.cons (a:=(k,v)) (b:=(k',w')) r t,h=>by
  obtain⟨rfl,av⟩:=r
  by_cases hk:(f==k)=true
  .simp only[Bx,hk]at h⊢;cases h;exact⟨v,rfl,av⟩
  .have hk':(f==k)=false:=by simpa using hk
   simp only[Bx,hk']at h⊢;exact cD.look t h
theorem cD.lookN{f:Str}:∀{gs:List (Str×V)} {fs:List (Str×W)},cD K H M Str gs fs->fs.lookup f=none->gs.lookup f=none
 | _,_,.nil,_=>rfl
 | _,_,.cons (a:=(k,v)) (b:=(k',w')) r t,h=>by
  obtain⟨rfl,av⟩:=r
  by_cases hk:(f==k)=true
  .simp only[Bx,hk]at h;cases h
  .have hk':(f==k)=false:=by simpa using hk
   simp only[Bx,hk']at h⊢;exact cD.lookN t h
theorem cD.putF{f:Str}{v:V}{w:W}(av:AV K H M v w):∀{gs:List (Str×V)} {fs:List (Str×W)},cD K H M Str gs fs->cD K H M Str (L2.putF f v gs) (cG f w fs)
 | _,_,.nil=>.cons ⟨rfl,av⟩ .nil
 | _,_,.cons (a:=(k,v')) (b:=(k',w')) r t=>by
  obtain⟨rfl,av'⟩:=r;show cD K H M Str (if k=f then(k,v)::_ else(k,v')::L2.putF f v _) (if k=f then(k,w)::_ else(k,w')::cG f w _)
  by_cases hk:k=f
  .rw[if_pos hk,if_pos hk];exact .cons ⟨rfl,av⟩ t
  .rw[if_neg hk,if_neg hk];exact .cons ⟨rfl,av'⟩ (cD.putF av t)
theorem cD.len{U:Type}{gs:List (U×V)}{fs:List (U×W)}(h:cD K H M U gs fs):gs.length=fs.length:=by
 have:=congrArg Dc h.keys;simpa using this
end
section
variable {X:Cx}{C:Addr}{f m:Str}{pos apos cpos:Pos}{ta tv:aZ}{o e value:Expr}{es:List Expr}{t:dS}{sp:bE}
def dB(C:Addr)(ta:aZ)(f:Str):aZ:=λτ M R=>ta τ M λx M1=>∃a dx fs w,x=.ref a/\M1 a=some (.ins C dx fs)/\fs.lookup f=some w/\R w M1
theorem eI(c:gY X.K C)(n:gF X.K C f)(he:E3 X o ta)(hb:Iy o f X.env (eval o X.env)=eval o X.env:=by rfl):E3 X (.Attribute o f pos) (dB C ta f):=
 (P5 he hb).weak λZ H Q z0=>z0.el λτ M R as am h k=>⟨τ,M,_,as,am,h,λx H1 wx M1 k1 am1 ax ⟨a,dx,fs,w,e1,e2,e3,r⟩=>by
  subst e1;obtain rfl:=ax.inv;obtain⟨gs,e4,q⟩:=am1 a _ e2;obtain⟨v,e5,av⟩:=q.look e3;exact⟨a,C,dx,gs,v,rfl,e4,c,n,e5,k _ _ _ _ k1 am1 av r⟩⟩
def kB(C:Addr)(ta:aZ)(f:Str)(tv:aZ):aG:=λD τ M=>tv τ M λy M1=>ta τ M1 λx M2=>∃a dx fs,x=.ref a/\M2 a=some (.ins C dx fs)/\fs.length<1000/\D.nx τ (put M2 a (.ins C dx (cG f y fs)))
theorem lC(c:gY X.K C)(n:gF X.K C f)(ha:E3 X o ta)(hv:E3 X value tv)(hs:Je value (some (.Attribute o f apos)) pos.line X.env=pure false:=by rfl):P3 X (.Assign [.Attribute o f apos] value pos) (kB C ta f tv):=
 (P6 ha hv hs).weak λD Z H z0=>z0.el λτ M D' as am h k=>⟨τ,M,_,as,am,h,λy H1 wy M1 k1 am1 ay h1=>⟨τ,M1,_,as.kp am k1,am1,h1,λx H2 wx M2 k2 am2 ax ⟨a,dx,fs,e1,e2,hl,r⟩=>by
  subst e1;obtain rfl:=ax.inv;obtain⟨gs,e4,q⟩:=am2 a _ e2;refine⟨a,C,dx,gs,rfl,e4,c,n,by rw[q.len];exact hl,?_⟩;obtain⟨am3,k3⟩:=am2.write (o:=.ins C dx (cG f wy fs)) (u:=.ins C dx (L2.putF f y gs)) e2 ⟨_,c9,((q.putF (ay.kp am1 k2))).go (oH am2 e2)⟩;exact k.nx _ _ _ _ ((k1.trans k2).trans k3) am3 (((as.kp am k1).kp am1 k2).kp am2 k3) r⟩⟩
variable {k:Nat}{g:Addr}{fd:Bi}{ps:List Str}
def iJ(C:Addr)(m:Str)(sp:bE)(ta:aZ)(t:dS):aZ:=λτ M R=>ta τ M λx M1=>∃a dx fs,x=.ref a/\M1 a=some (.ins C dx fs)/\fs.lookup m=none/\t τ M1 λws M2=>sp (.ref a::ws) M2 R
theorem XR{Z:SV}{H:Hp}{Q:VK}(h:up X.K (iJ C m sp ta t) Z H Q):vZ C m (fJ X.K sp) [] E0 (up X.K ta) (oI X.K t) Z H Q:=by
 obtain⟨τ,M,R,as,am,h,k⟩:=h;refine⟨τ,M,_,as,am,h,λx H1 wx M1 k1 am1 ax ⟨a,dx,fs,e1,e2,e3,h1⟩=>?_⟩;subst e1;obtain rfl:=ax.inv;obtain⟨gs,e4,q⟩:=am1 a _ e2;refine⟨a,dx,gs,rfl,e4,q.lookN e3,τ,M1,_,as.kp am k1,am1,h1,λvs H2 ws M2 k2 am2 avs h2=>⟨.ref a::ws,M2,R,am2,?_,h2,k.kp (k1.trans k2)⟩⟩;rw[Cm];exact .cons (.ref a) avs
theorem mY{pl:Sem Bool}(c:gY X.K C)(hm:oC X.K C m g)(F:eN X.prog X.w X.K X.mg X.base eQ k g fd ps (fJ X.K sp))(hr:cP k X.A)(hb:Binds X.K fd ps [])(he:E3 X o ta)(ha:A3 X (e::es) t)(hst:Be (e::es) X.env=(false,eval e X.env)::Be es X.env:=by rfl)(hpl:(Gf pos (Be es X.env)).any (·.1)=false:=by rfl)(ht:eval (.Call (.Attribute o m apos) (e::es) [] pos) X.env=(do
   let ov <-eval o X.env
   Mo apos.atName
   let (f,first) <-Iz [ov] (Mp ov m pl)
   callWith pos f first (Gf pos (Be (e::es) X.env)) (backToKw pos (Lc [] X.env))):=by rfl):
  E3 X (.Call (.Attribute o m apos) (e::es) [] pos) (iJ C m sp ta t):=(QH (pl:=pl) he c hm F hr hb .nil mK ha hst hpl ht).weak λ_ _ _ h=>XR h
theorem yJ{pl:Sem Bool}(c:gY X.K C)(hm:oC X.K C m g)(F:eN X.prog X.w X.K X.mg X.base eQ k g fd ps (fJ X.K sp))(hr:cP k X.A)(hb:Binds X.K fd ps [])(he:E3 X o ta)(ht:eval (.Call (.Attribute o m apos) [] [] pos) X.env=(do
   let ov <-eval o X.env
   Mo apos.atName
   let (f,first) <-Iz [ov] (Mp ov m pl)
   callWith pos f first (Gf pos (Be [] X.env)) (backToKw pos (Lc [] X.env))):=by rfl):
  E3 X (.Call (.Attribute o m apos) [] [] pos) (iJ C m sp ta aE):=(QI (pl:=pl) he c hm F hr hb .nil mK ht).weak λZ H Q h=>by
 obtain⟨τ,M,R,as,am,h,k⟩:=h;refine⟨τ,M,_,as,am,h,λx H1 wx M1 k1 am1 ax ⟨a,dx,fs,e1,e2,e3,h1⟩=>?_⟩;subst e1;obtain rfl:=ax.inv;obtain⟨gs,e4,q⟩:=am1 a _ e2;exact⟨a,dx,gs,rfl,e4,q.lookN e3,[.ref a],M1,R,am1,.cons (.ref a) .nil,h1,k.kp k1⟩
def uA(C:Addr)(sp:bE)(t:dS):aZ:=λτ M R=>t τ M λws M1=>∀a dx,M1 a=none->M1 dx=none->dx≠a->sp (.ref a::ws) (put M1 a (.ins C dx [])) λw M2=>w=.non/\R (.ref a) M2
theorem AM.made{K:Ac}{H:Hp}{M:Mm}{x dx:Addr}(am:AM K H M)(hx:H x=none)(hd:H dx=none)(ne:dx≠x):AM K (aX (aX H dx (.own x)) x (.ins C dx [])) (put M x (.ins C dx []))/\Kp H M (aX (aX H dx (.own x)) x (.ins C dx [])) (put M x (.ins C dx [])):=by
 obtain⟨am1,k1⟩:=am.tup (u:=.own x) hd;have hx1:aX H dx (.own x) x=none:=by rw[bH (Bt ne)];exact hx
 obtain⟨am2,k2⟩:=am1.laid (o:=.ins C dx []) (u:=.ins C dx []) hx1 ⟨[],c9,.nil⟩;exact⟨am2,k1.trans k2⟩
theorem HJ{H:Hp}{M:Mm}{R:K3}{Q:VK}{vs:List V}{ws:List W}(am:AM X.K H M)(avs:aM X.K H M vs ws)(h:∀a dx,M a=none->M dx=none->dx≠a->sp (.ref a::ws) (put M a (.ins C dx [])) λw M2=>w=.non/\R (.ref a) M2)(k:Up X.K H M R Q):
  ∀x dx,H x=none->H dx=none->dx≠x->fJ X.K sp (.ref x::(vs++[])) (aX (aX H dx (.own x)) x (.ins C dx [])) (λv H2=>v=.non/\Q (.ref x) H2) E0:=by
 intro x dx hx hd ne;obtain⟨am1,k1⟩:=am.made (C:=C) hx hd ne;refine⟨.ref x::ws,_,_,am1,?_,h x dx (am.nonM hx) (am.nonM hd) ne,λv H2 w M2 k2 am2 av r=>?_⟩
 .rw[Cm];exact .cons (.ref x) (avs.kp am k1)
 .obtain⟨rfl,r⟩:=r;obtain rfl:=av.inv;exact⟨rfl,k _ _ _ _ (k1.trans k2) am2 (.ref x) r⟩
theorem XS{x:Str}{p:Pos}(M:Mk X.K C g)(F:eN X.prog X.w X.K X.mg X.base eQ k g fd ps (fJ X.K sp))(hr:cP (k+1) X.A)(hg:Gl X x)(hm:X.mg x=some (.ref C))(hb:Binds X.K fd ps [])(ha:A3 X (e::es) t)(hdb:(x==("__debug__" : Str))=false:=by decide)(he:Be (e::es) X.env=(false,eval e X.env)::Be es X.env:=by rfl)(hpl:(Gf pos (Be es X.env)).any (·.1)=false:=by rfl):
  E3 X (.Call (.Name x p) (e::es) [] pos) (uA C sp t):=(QJ M F hr hg hm hb .nil mK ha hdb he hpl).weak λZ H Q z0=>z0.el λτ M R as am h k=>⟨τ,M,_,as,am,h,λvs H1 ws M1 k1 am1 avs h1=>HJ am1 avs h1 (k.kp k1)⟩
theorem XT{x:Str}{p:Pos}(M:Mk X.K C g)(F:eN X.prog X.w X.K X.mg X.base eQ k g fd ps (fJ X.K sp))(hr:cP (k+1) X.A)(hg:Gl X x)(hm:X.mg x=some (.ref C))(hb:Binds X.K fd ps [])(hdb:(x==("__debug__" : Str))=false:=by decide):E3 X (.Call (.Name x p) [] [] pos) (uA C sp aE):=(QK M F hr hg hm hb .nil mK hdb).weak λZ H Q z0=>z0.el λτ M R as am h k=>HJ am .nil h k
end
end L3
namespace L2
open PySem Spec PyProof.Rows
section
variable {prog:Bv}{w:Cp}{K:Type}[DecidableEq K]{knd:HeapKind prog w K}{A:Cq}{E:Ae->Ag->Prop}{s:Ag}{d a:Addr}{k:K}{xs:List (K×Addr×Ae)}
theorem XU{y:Ae}{Q:Ae->Ag->Prop}(hu:knd.room A)(hkey:knd.is s.heap k a)(hm:s.heap.DictOfH knd d xs)(hsz:xs.length<=Am)(h1:∀p,Lk xs k=some p->Q p.2 {s with toks:=s.toks+knd.draws k})(h2:Lk xs k=none->∀h',h'.DictOfH knd d (storedH xs k a y)->Eo d s.heap h'->Q y {s with heap:=h',toks:=s.toks+knd.draws k}):
  Bc (Bn prog w) A (dictSetDefault d (.ref a) y) Q E s:=by
 obtain⟨o,es,ep,ho,hc,hd,he,his,hn⟩:=hm;unfold dictSetDefault;refine Ds (Ab (knd.pyHash hu hkey (Ab (wpAny_dictFind_heap (s:={s with toks:=s.toks+knd.draws k}) hu hkey ho hd he his hn (λhno=>?_) λj p hj=>?_))))
 .have hk:=atKey_none_of_get hno;have hnot:k∉xs.map (·.1):=not_mem_keys_of_get hno;refine Ab (Ie (Ab (wpAny_updateDictKeys (hz:=by have e:=Mb he;lia) (s:={s with toks:=s.toks+knd.draws k}) ho hd (Aj (h2 hk _ ⟨_,_,ep+1,Fz _ ho (Obj.isFreed_of_dict (Jv hd _)),
   hc.mapDictKeys _,Jv hd _,?_,λx hx=>?_,?_⟩ (Er ..))))))
  .rw[storedH_new hk];simp[he,entryOfKey]
  .rw[storedH_new hk]at hx;rcases Bj.mp hx with q|q
   .exact knd.keeps (his x q) ho hd (Er ..)
   .obtain rfl:=Ao.mp q;exact knd.keeps hkey ho hd (Er ..)
  .rw[storedH_new hk,Bb,Fb];refine⟨hn,by simp,λx hx y hy=>?_⟩;simp only[Bd,Ka,Ao]at hy;subst hy;exact λe=>hnot (e▸hx)
 .refine Ab (Hv (s:={s with toks:=s.toks+knd.draws k}) ho hd ?_);rw[entry_at he j,hj];exact Ab (Ie (Aj (h1 p (atKey_of_get hn hj))))
theorem HK:∀{xs:List (K×Addr×Ae)} {j:Nat} {p:Addr×Ae},(xs.map (·.1)).Nodup->xs[j]? = some (k,p)->xs.eraseIdx j=xs.filter λx=>decide (x.1≠k)
 | [],j,p,_,h=>by simp at h
 | x::r,0,p,hn,h=>by
  have e:x=(k,p):=by simpa using h
  subst e;rw[Bd,Cy]at hn;rw[List.eraseIdx_zero,List.tail_cons,List.filter_cons_of_neg (by simp)];refine(List.filter_eq_self.mpr λy hy=>?_).symm;rw[decide_eq_true_eq];exact λe=>hn.1 (Bg.mpr ⟨y,hy,e⟩)
 | x::r,j+1,p,hn,h=>by
  rw[Bd,Cy]at hn;have hj:r[j]? = some (k,p):=by simpa using h
  have hx:x.1≠k:=λe=>hn.1 (Bg.mpr ⟨(k,p),Bf hj,e.symm⟩);rw[List.eraseIdx_cons_succ,HK hn.2 hj,List.filter_cons_of_pos (by simpa using hx)]
theorem XW{v:Ae}{b:Addr}{Q:Option Hs->Ag->Prop}(hu:knd.room A)(hkey:knd.is s.heap k a)(hm:s.heap.DictOfH knd d xs)(hsz:xs.length<=Am)(hv:Lk xs k=some (b,v))(h:∀h',h'.DictOfH knd d (xs.filter λx=>decide (x.1≠k))->Eo d s.heap h'->Q (some ⟨knd.hash k,.ref b,v⟩) {s with heap:=h',toks:=s.toks+knd.draws k}):
  Bc (Bn prog w) A (Builtin.Dict.takeOut d (.ref a)) Q E s:=by
 obtain⟨o,es,ep,ho,hc,hd,he,his,hn⟩:=hm;unfold Builtin.Dict.takeOut;refine Ds (Ab (knd.pyHash hu hkey (Ab (wpAny_dictFind_heap (s:={s with toks:=s.toks+knd.draws k}) hu hkey ho hd he his hn (λhno=>?_) λj p hj=>?_))))
 .rw[atKey_none_of_get hno]at hv;cases hv
 .rw[atKey_of_get hn hj]at hv;cases hv;have hej:=HK hn hj;refine Ab (Hv (s:={s with toks:=s.toks+knd.draws k}) ho hd ?_);rw[entry_at he j,hj];refine Ab (wpAny_updateDictKeys (hz:=by have e:=Mb he;lia) (s:={s with toks:=s.toks+knd.draws k}) ho hd (Aj (h _ ⟨_,_,ep+1,Fz _ ho (Obj.isFreed_of_dict (Jv hd _)),
   hc.mapDictKeys _,Jv hd _,?_,λx hx=>knd.keeps (his x (Ct.mp hx).1) ho hd (Er ..),?_⟩ (Er ..))))
  .rw[<-hej];have e2:(xs.eraseIdx j).map (entryOfKey knd)=(xs.map (entryOfKey knd)).eraseIdx j:=by simp[List.eraseIdx_eq_take_drop_succ,Kr,Jn]
   rw[e2,<-he];obtain⟨l⟩:=es;simp
  .exact hn.sublist (List.filter_sublist.map _)
end
section
variable {X:Cx}{pins:List (Addr×Obj)}{Z:St}{H:Hp}{s:Ag}{a b:Addr}{v:V}{r:Ae}{A:Cq}{E:Ae->Ag->Prop}{kvs:List (List aK×V)}{k:List aK}
theorem KT.drop{xs:List (List aK×Addr×Ae)}(rel:KT H kvs xs)(k:List aK):KT H (nE kvs k) (xs.filter λx=>decide (x.1≠k)):=by
 induction rel with
 | nil=>exact .nil
 | @cons p q ps qs h t ih=>
  unfold nE at ih⊢;rw[Dw,Dw,<-h.1];split
  .exact .cons h ih
  .exact ih
theorem XX{Q:Ae->Ag->Prop}(hu:A.units+1<Fm)(I:Inv X pins Z H s)(e:H a=some (.dT kvs))(eb:H b=some (.tup (k.map kV)))(rv:RelV v r)(hl:kvs.length<Am)(h1:∀v0 w' s',gH kvs k=some v0->Inv X pins Z H s'->RelV v0 w'->Q w' s')(h2:gH kvs k=none->∀s',Inv X pins Z (aX H a (.dT (fU kvs k v))) s'->Q r s'):
  Bc (Bn X.prog X.w) A (call (.builtin "dict.setdefault") [.ref a,.ref b,r]) Q E s:=by
 obtain⟨z,hd,xs,rel,dd⟩:=sM I.hok e;have hz:xs.length<=Am:=by rw[<-Eg rel];exact z
 have hv:=rel.val k;refine Kn PySem.F.slot_dict_setdefault dd.typeIs PySem.F.entry_dict_setdefault (PySem.F.args_dict_setdefault_3 _ _ _)
  (S:=λA R s1=>(Gb (d6 X.prog X.w)).room A.in1/\(Gb (d6 X.prog X.w)).is s1.heap k b/\s1.heap.DictOfH (Gb (d6 X.prog X.w)) a xs/\
   (∀p,Lk xs k=some p->R (.ok (.ret p.2)) {s1 with toks:=s1.toks+(k.length+1)})/\
   (Lk xs k=none->∀h',h'.DictOfH (Gb (d6 X.prog X.w)) a (storedH xs k b r)->Eo a s1.heap h'->R (.ok (.ret r)) {s1 with heap:=h',toks:=s1.toks+(k.length+1)}))
  (.of_wp λA R s1 ⟨q0,q1,q2,q3,q4⟩=>?_) ⟨Fj hu,kO I.hok eb,dd,λp hp=>?_,λhn h' dd' hs=>?_⟩
 .unfold Lf.«dict.setdefault»;refine Ab ?_;unfold Builtin.Dict.keyAndDefault;refine Ab (Jw q2.typeIs ?_);refine Aj ?_;dsimp only;rw[if_neg (by rw[hd];exact Av)];exact Ab (XU q0 q1 q2 hz (λp hp=>Aj ⟨_,rfl,q3 p hp⟩) λhn h' hm' hs'=>Aj ⟨_,rfl,q4 hn h' hm' hs'⟩)
 .rw[hp]at hv;cases q:gH kvs k with
  | none=>rw[q]at hv;exact(show False from hv).elim
  | some v0=>rw[q]at hv;exact h1 v0 _ _ q (I.tok _) hv
 .rw[hn]at hv;have q:gH kvs k=none:=by
   cases q:gH kvs k with
   | none=>rfl
   | some v0=>rw[q]at hv;exact(show False from hv).elim
  have hl':(fU kvs k v).length<=Am:=by have:=sL kvs k v;lia
  obtain⟨q1,es,ep,hq,g2,g3,g4,_,g5⟩:=dd';refine h2 q _ (pV (t':=s.toks+(k.length+1)) I (by rw[e];exact True.intro) hs ⟨q1,hq⟩ ⟨hl',hd,_,(rel.put k eb rv).keeps λc ys ec=>?_,q1,es,ep,hq,g2,g3,g4,g5⟩);rw[bH (rT ec e (λz=>nomatch z))];exact ec
theorem XY{Q:Ae->Ag->Prop}(hu:A.units+1<Fm)(I:Inv X pins Z H s)(e:H a=some (.dT kvs))(eb:H b=some (.tup (k.map kV)))(l:gH kvs k=some v)(h:∀w' s',Inv X pins Z (aX H a (.dT (nE kvs k))) s'->RelV v w'->Q w' s'):Bc (Bn X.prog X.w) A (call (.builtin "dict.pop") [.ref a,.ref b]) Q E s:=by
 obtain⟨z,hd,xs,rel,dd⟩:=sM I.hok e;have hz:xs.length<=Am:=by rw[<-Eg rel];exact z
 obtain⟨w',hw,rw'⟩:=f6.some_of (v:=v) (o:=(Lk xs k).map (·.2)) (by rw[<-l];exact rel.val k);obtain⟨⟨c,w2⟩,hc,rfl⟩:=Bh.mp hw;refine Kn PySem.F.slot_dict_pop dd.typeIs PySem.F.entry_dict_pop (PySem.F.args_dict_pop_2 _ _)
  (S:=λA R s1=>(Gb (d6 X.prog X.w)).room A.in1/\(Gb (d6 X.prog X.w)).is s1.heap k b/\s1.heap.DictOfH (Gb (d6 X.prog X.w)) a xs/\
   ∀h',h'.DictOfH (Gb (d6 X.prog X.w)) a (xs.filter λx=>decide (x.1≠k))->Eo a s1.heap h'->R (.ok (.ret w2)) {s1 with heap:=h',toks:=s1.toks+(k.length+1)})
  (.of_wp λA R s1 ⟨q0,q1,q2,q3⟩=>?_) ⟨Fj hu,kO I.hok eb,dd,λh' dd' hs=>?_⟩
 .unfold Lf.«dict.pop»;refine Ab ?_;unfold Builtin.Dict.keyAndDefault;refine Ab (Jw q2.typeIs ?_);refine Aj ?_;dsimp only;rw[if_neg (show ¬((keyPart (Value.ref b)).isSome=true) from Av)];obtain⟨o,es,ep,ho,hc',hd',he,his,hn⟩:=id q2;have hne:es.isEmpty=false:=by
   have h1:=Mb he;cases xs with
   | nil=>cases hc
   | cons x r=>rw[Array.isEmpty_eq_false_iff];intro z;rw[z]at h1;simp at h1
  refine Ab (Hv ho hd' ?_);refine Ab (Aj ?_);rw[hne,if_neg Av];refine Ab (XW q0 q1 q2 hz hc λh' hm' hs'=>?_);rw[if_neg (by simp)];exact Ab (Mi (Aj ⟨_,rfl,q3 h' hm' hs'⟩))
 .obtain⟨q1,es,ep,hq,g2,g3,g4,_,g5⟩:=dd';refine h w2 _ (pV (t':=s.toks+(k.length+1)) I (by rw[e];exact True.intro) hs ⟨q1,hq⟩ ⟨Au (R0 kvs k) z,hd,_,(rel.drop k).keeps λc ys ec=>?_,q1,es,ep,hq,g2,g3,g4,g5⟩) rw';rw[bH (rT ec e (λz=>nomatch z))];exact ec
end
end L2
namespace L3
open PySem Spec PyProof.Rows L2
section
variable {X:Cx}
def uB:W->List W->Mm->K3->Prop
 | d,[y],M,R=>∃o,fL M d y o/\R (o.getD .non) M
 | d,[y,v],M,R=>∃o,fL M d y o/\R (o.getD v) M
 | _,_,_,_=>False
theorem yK(hu:X.A.units+1<Fm):jI X "dict.get" (kR X.K uB):=by
 rintro pins s Z H x xs v us Q I rx rs ⟨wx,ws,M,R,am,ax,axs,h,k⟩
 match ws,h with
 | [y],h=>
  obtain⟨z,rfl,az⟩:=axs.one;obtain⟨o,g,r⟩:=h;obtain⟨a,rfl,g2⟩:=tG am ax az g;cases rx;obtain⟨u,rfl,ru⟩:=rs.one;rcases g2 with⟨rfl,g3⟩|⟨v0,w0,rfl,g3,av⟩
  .exact EV hu I g3 ru λw' s' I' rw'=>⟨_,H,I',rw',k.at am .non r⟩
  .exact EV hu I g3 ru λw' s' I' rw'=>⟨_,H,I',rw',k.at am av r⟩
 | [y,v1],h=>
  obtain⟨z,z1,rfl,az,az1⟩:=axs.two;obtain⟨o,g,r⟩:=h;obtain⟨a,rfl,g2⟩:=tG am ax az g;cases rx;obtain⟨u,u1,rfl,ru,ru1⟩:=vals2 rs;rcases g2 with⟨rfl,g3⟩|⟨v0,w0,rfl,g3,av⟩
  .exact EW hu I g3 ru ru1 λw' s' I' rw'=>⟨_,H,I',rw',k.at am az1 r⟩
  .exact EW hu I g3 ru ru1 λw' s' I' rw'=>⟨_,H,I',rw',k.at am av r⟩
def qR:W->List W->Mm->K3->Prop
 | .ref a,[.tup ks,v],M,R=>∃kvs k,M a=some (.dT kvs)/\ks=k.map wK/\kvs.length<Am/\(∀w,bJ kvs k=some w->R w M)/\(bJ kvs k=none->R v (put M a (.dT (cT kvs k v))))
 | _,_,_,_=>False
theorem HL(hu:X.A.units+1<Fm):jI X "dict.setdefault" (kR X.K qR):=by
 rintro pins s Z H x xs v us Q I rx rs ⟨wx,ws,M,R,am,ax,axs,h,k⟩
 match wx,ws,h with
 | .ref a,[.tup ks,v1],h=>
  obtain⟨z,z1,rfl,az,az1⟩:=axs.two;obtain⟨kvs,kk,e,rfl,hl,h1,h2⟩:=h;obtain rfl:=ax.inv;cases rx;obtain⟨u,u1,rfl,ru,ru1⟩:=vals2 rs;obtain⟨gs,e1,q⟩:=am _ _ e;cases az with
  | @tup b vs _ eb qb=>
   cases (show u=Value.ref b from ru);rw[qb.keys]at eb;have lk:=tF q kk;refine XX hu I e1 eb ru1 (by rw[q.len];exact hl) (λv0 w' s' e2 I' rw'=>?_) λe2 s' I'=>?_
   .rcases lk with⟨_,l2⟩|⟨v2,w2,l1,l2,av⟩
    .rw[l2]at e2;cases e2
    .rw[l2]at e2;cases e2;exact⟨_,H,I',rw',k.at am av (h1 w2 l1)⟩
   .rcases lk with⟨l1,l2⟩|⟨v2,w2,l1,l2,av⟩
    .obtain⟨am3,k3⟩:=am.write (o:=.dT (cT kvs kk v1)) (u:=.dT (fU gs kk z1)) e ⟨_,c9,(xB q kk az1).go (oH am e)⟩;exact⟨_,_,I',ru1,k _ _ _ _ k3 am3 (az1.wr am e) (h2 l1)⟩
    .rw[l2]at e2;cases e2
def jQ{U:Type}[DecidableEq U](kvs:List (U×W))(k:U):List (U×W):=kvs.filter λkv=>decide (kv.1≠k)
theorem XZ{U:Type}[DecidableEq U]{K:Ac}{H:Hp}{M:Mm}{gs:List (U×V)}{kvs:List (U×W)}(h:cD K H M U gs kvs)(k:U):cD K H M U (nE gs k) (jQ kvs k):=by
 induction h with
 | nil=>exact .nil
 | @cons p q ps qs r t ih=>
  unfold nE jQ at ih⊢;rw[Dw,Dw,<-r.1];split
  .exact .cons r ih
  .exact ih
def HM:W->List W->Mm->K3->Prop
 | .ref a,[.tup ks],M,R=>∃kvs k w,M a=some (.dT kvs)/\ks=k.map wK/\bJ kvs k=some w/\R w (put M a (.dT (jQ kvs k)))
 | _,_,_,_=>False
theorem X0(hu:X.A.units+1<Fm):jI X "dict.pop" (kR X.K HM):=by
 rintro pins s Z H x xs v us Q I rx rs ⟨wx,ws,M,R,am,ax,axs,h,k⟩
 match wx,ws,h with
 | .ref a,[.tup ks],h=>
  obtain⟨z,rfl,az⟩:=axs.one;obtain⟨kvs,kk,w,e,rfl,l,r⟩:=h;obtain rfl:=ax.inv;cases rx;obtain⟨u,rfl,ru⟩:=rs.one;obtain⟨gs,e1,q⟩:=am _ _ e;cases az with
  | @tup b vs _ eb qb=>
   cases (show u=Value.ref b from ru);rw[qb.keys]at eb;rcases tF q kk with⟨l1,l2⟩|⟨v2,w2,l1,l2,av⟩
   .rw[l1]at l;cases l
   .rw[l1]at l;cases l;obtain⟨am3,k3⟩:=am.write (o:=.dT (jQ kvs kk)) (u:=.dT (nE gs kk)) e ⟨_,c9,(XZ q kk).go (oH am e)⟩;exact XY hu I e1 eb l2 λw' s' I' rw'=>⟨_,_,I',rw',k _ _ _ _ k3 am3 (av.wr am e) r⟩
end
section
variable {K:Ac}{H:Hp}{M:Mm}
theorem X1(k:aK):AV K H M (kV k) (wK k):=by cases k<;>first|exact .int _|exact .str _
theorem HN:∀ks:List aK,aM K H M (ks.map kV) (ks.map wK)
 | []=>.nil
 | k::r=>.cons (X1 k) (HN r)
end
structure Dm(K:Ac)(C:Addr)(x qual:Str)(st:Stmt)(ps:List Str)(f:Addr)(fd:Bi):Prop where
 fn:jJ K x qual st f fd
 me:oC K C x f
 bi:Binds K fd ps []
structure Di(K:Ac)(C:Addr)(x qual:Str)(st:Stmt)(ps:List Str)(f:Addr)(fd:Bi):Prop where
 fn:jJ K x qual st f fd
 mak:Mk K C f
 bi:Binds K fd ps []
end L3
namespace L2
open PySem Spec PyProof.Rows
def iB(a b:Int×Int):Bool:=decide (a.1<b.1)||(decide (a.1=b.1)&&decide (a.2<b.2))
section
variable {prog:Bv}{w:Cp}{A:Cq}{E:Ae->Ag->Prop}{s:Ag}
theorem X2{a b:Addr}{oa ob:Obj}{xs ys:Array Ae}{na nb:Nat}{x1 x2 y1 y2:Int}{t1 t2 u1 u2:Tok}{Q:Ae->Ag->Prop}(hu:A.units+1<Fm)(hoa:s.heap.get? a=some oa)(hca:oa.cls=.type "tuple")(hda:oa.data=.seq xs na)(hob:s.heap.get? b=some ob)(hcb:ob.cls=.type "tuple")(hdb:ob.data=.seq ys nb)(ex:xs.toList=[.int x1 t1,.int x2 t2])(ey:ys.toList=[.int y1 u1,.int y2 u2])(h:Q (.bool (iB (x1,x2) (y1,y2))) s):Bc (Bn prog w) A (Cb .Lt (.ref a) (.ref b)) Q E s:=by
 have hTa:s.TypeIs (.ref a) "tuple":=⟨oa,hoa,hca⟩;have hTb:s.TypeIs (.ref b) "tuple":=⟨ob,hob,hcb⟩;show Bc _ _ (richCompare .Lt (.ref a) (.ref b)) Q E s;refine wpAny_richCompare_same_room (op:=.Lt) hTa hTb PySem.F.slot_tuple_lt (Ed PySem.F.slot_tuple_lt hTa PySem.F.entry_tuple_lt ?_ (PySem.F.args_tuple_lt_2 _ _)) (Nat.lt_of_succ_lt hu);show Bc _ _ (isInstance (.ref b) (.type "tuple")>>=_) _ _ s;refine Ab (Jx hTb isSubtype_tuple_tuple ?_);simp only[Jq,Ep,if_false];refine Ab (Ks hoa hda ?_);refine Ab (Ks hob hdb ?_);refine Ab ?_;rw[ex,ey];show Bc _ _ (forIn [(Value.int x1 t1,Value.int y1 u1),(Value.int x2 t2,Value.int y2 u2)] _ _) _ _ s;have hsz:xs.size=2/\ys.size=2:=by
  have h1:=congrArg Dc ex;have h2:=congrArg Dc ey;simp at h1 h2;exact⟨h1,h2⟩
 refine wpAny_forIn_list _
  (λrest q s'=>q.1=none/\s'=s/\(rest=[(Value.int x1 t1,Value.int y1 u1),(Value.int x2 t2,Value.int y2 u2)]\/(rest=[(Value.int x2 t2,Value.int y2 u2)]/\x1=y1)\/(rest=[]/\x1=y1/\x2=y2)))
  _ ?_ ?_ _ _ ⟨rfl,rfl,.inl rfl⟩
 .rintro⟨u,v⟩ rest q s' ⟨hq,rfl,hc⟩;rcases hc with z|⟨z,e1⟩|⟨z,_⟩
  .simp only[Eu,Dn]at z;obtain⟨⟨rfl,rfl⟩,rfl⟩:=z;refine Ab (Jy ?_)
   by_cases e1:x1=y1
   .rw[show(x1==y1)=true by simpa using e1];simp only[Jq,Ep,if_false];exact Aj ⟨rfl,rfl,by simp[e1]⟩
   .rw[show(x1==y1)=false by simpa using e1];simp only[Lu,if_true];have e:iB (x1,x2) (y1,y2)=decide (x1<y1):=by simp[iB,e1]
    rw[e]at h;refine Ab (Ie (Ab (PyProof.Rows.lt_int ?_)));exact Ab (Aj (Aj (Aj ⟨_,rfl,(λe=>nomatch e),h⟩)))
  .simp only[Eu,Dn]at z;obtain⟨⟨rfl,rfl⟩,rfl⟩:=z;refine Ab (Jy ?_)
   by_cases e2:x2=y2
   .rw[show(x2==y2)=true by simpa using e2];simp only[Jq,Ep,if_false];exact Aj ⟨rfl,rfl,by simp[e1,e2]⟩
   .rw[show(x2==y2)=false by simpa using e2];simp only[Lu,if_true];have e:iB (x1,x2) (y1,y2)=decide (x2<y2):=by simp[iB,e1]
    rw[e]at h;refine Ab (Ie (Ab (PyProof.Rows.lt_int ?_)));exact Ab (Aj (Aj (Aj ⟨_,rfl,(λe=>nomatch e),h⟩)))
  .cases z
 .rintro⟨q1,q2⟩ s' ⟨hq,rfl,hc⟩;simp only at hq;subst hq;rcases hc with z|⟨z,_⟩|⟨_,e1,e2⟩
  .cases z
  .cases z
  .refine Aj ⟨_,rfl,(λe=>nomatch e),?_⟩;subst e1;subst e2;have e:iB (x1,x2) (x1,x2)=decide (xs.size<ys.size):=by rw[hsz.1,hsz.2];simp[iB]
   rw[e]at h;exact h
theorem X3{a b:Addr}{oa ob:Obj}{xs ys:Array Ae}{na nb:Nat}{x1 x2 y1 y2:Int}{t1 t2 u1 u2:Tok}{Q:Ae->Ag->Prop}(hu:A.units+1<Fm)(hoa:s.heap.get? a=some oa)(hca:oa.cls=.type "tuple")(hda:oa.data=.seq xs na)(hob:s.heap.get? b=some ob)(hcb:ob.cls=.type "tuple")(hdb:ob.data=.seq ys nb)(ex:xs.toList=[.int x1 t1,.int x2 t2])(ey:ys.toList=[.int y1 u1,.int y2 u2])(h:Q (.bool (iB (y1,y2) (x1,x2))) s):Bc (Bn prog w) A (Cb .Gt (.ref a) (.ref b)) Q E s:=by
 have hTa:s.TypeIs (.ref a) "tuple":=⟨oa,hoa,hca⟩;have hTb:s.TypeIs (.ref b) "tuple":=⟨ob,hob,hcb⟩;show Bc _ _ (richCompare .Gt (.ref a) (.ref b)) Q E s;refine wpAny_richCompare_same_room (op:=.Gt) hTa hTb PySem.F.slot_tuple_gt (Ed PySem.F.slot_tuple_gt hTa PySem.F.entry_tuple_gt ?_ (PySem.F.args_tuple_gt_2 _ _)) (Nat.lt_of_succ_lt hu);show Bc _ _ (isInstance (.ref b) (.type "tuple")>>=_) _ _ s;refine Ab (Jx hTb isSubtype_tuple_tuple ?_);simp only[Jq,Ep,if_false];refine Ab (Ks hoa hda ?_);refine Ab (Ks hob hdb ?_);refine Ab ?_;rw[ex,ey];show Bc _ _ (forIn [(Value.int x1 t1,Value.int y1 u1),(Value.int x2 t2,Value.int y2 u2)] _ _) _ _ s;have hsz:xs.size=2/\ys.size=2:=by
  have h1:=congrArg Dc ex;have h2:=congrArg Dc ey;simp at h1 h2;exact⟨h1,h2⟩
 refine wpAny_forIn_list _
  (λrest q s'=>q.1=none/\s'=s/\(rest=[(Value.int x1 t1,Value.int y1 u1),(Value.int x2 t2,Value.int y2 u2)]\/(rest=[(Value.int x2 t2,Value.int y2 u2)]/\x1=y1)\/(rest=[]/\x1=y1/\x2=y2)))
  _ ?_ ?_ _ _ ⟨rfl,rfl,.inl rfl⟩
 .rintro⟨u,v⟩ rest q s' ⟨hq,rfl,hc⟩;rcases hc with z|⟨z,e1⟩|⟨z,_⟩
  .simp only[Eu,Dn]at z;obtain⟨⟨rfl,rfl⟩,rfl⟩:=z;refine Ab (Jy ?_)
   by_cases e1:x1=y1
   .rw[show(x1==y1)=true by simpa using e1];simp only[Jq,Ep,if_false];exact Aj ⟨rfl,rfl,by simp[e1]⟩
   .rw[show(x1==y1)=false by simpa using e1];simp only[Lu,if_true];have e:iB (y1,y2) (x1,x2)=decide (y1<x1):=by simp[iB,Bt e1]
    rw[e]at h;refine Ab (Ie (Ab (PyProof.Rows.gt_int ?_)));exact Ab (Aj (Aj (Aj ⟨_,rfl,(λe=>nomatch e),h⟩)))
  .simp only[Eu,Dn]at z;obtain⟨⟨rfl,rfl⟩,rfl⟩:=z;refine Ab (Jy ?_)
   by_cases e2:x2=y2
   .rw[show(x2==y2)=true by simpa using e2];simp only[Jq,Ep,if_false];exact Aj ⟨rfl,rfl,by simp[e1,e2]⟩
   .rw[show(x2==y2)=false by simpa using e2];simp only[Lu,if_true];have e:iB (y1,y2) (x1,x2)=decide (y2<x2):=by simp[iB,e1]
    rw[e]at h;refine Ab (Ie (Ab (PyProof.Rows.gt_int ?_)));exact Ab (Aj (Aj (Aj ⟨_,rfl,(λe=>nomatch e),h⟩)))
  .cases z
 .rintro⟨q1,q2⟩ s' ⟨hq,rfl,hc⟩;simp only at hq;subst hq;rcases hc with z|⟨z,_⟩|⟨_,e1,e2⟩
  .cases z
  .cases z
  .refine Aj ⟨_,rfl,(λe=>nomatch e),?_⟩;subst e1;subst e2;have e:iB (x1,x2) (x1,x2)=decide (xs.size > ys.size):=by rw[hsz.1,hsz.2];simp[iB]
   rw[e]at h;exact h
end
section
variable {X:Cx}
def rInsert:V->List V->Hp->VK->Prop:=λx vs H Q=>∃l xs y i,x=.ref l/\vs=[.int (i:Nat),y]/\H l=some (.lst xs)/\xs.length<Am/\i<=xs.length/\Q .non (aX H l (.lst (xs.take i++y::xs.drop i)))
theorem a8.splitAt:∀{xs:List V} {us:List Ae} (i:Nat),a8 xs us->a8 (xs.take i) (us.take i)/\a8 (xs.drop i) (us.drop i)
 | _,_,0,h=>⟨.nil,h⟩
 | _,_,i+1,.nil=>⟨.nil,.nil⟩
 | _,_,i+1,.cons r t=>by
  obtain⟨h1,h2⟩:=a8.splitAt i t;exact⟨.cons r h1,h2⟩
theorem X4:sH X "list.insert" rInsert:=by
 intro pins s Z H x vs v us Q I rx rv h;obtain⟨l,xs,y,i,rfl,rfl,hH,hz,hi,q⟩:=h;cases rx;obtain⟨u1,u2,rfl,r1,r2⟩:=vals2 rv;obtain⟨tk,rfl⟩:=r1;obtain⟨z,its,n,r,hl,e⟩:=I.lstM hH;have hlen:its.length=xs.length:=r.length.symm;have hs:Am=16777216:=Lb;have hc0:¬(!Builtin.List.listFitsIndex ((i:Nat):Int))=true:=by
  have h1:Builtin.List.listFitsIndex ((i:Nat):Int)=true:=by
   unfold Builtin.List.listFitsIndex;rw[Cr,decide_eq_true_eq,decide_eq_true_eq];lia
  rw[h1];decide
 have hs1:its.toArray.size<=Am:=by rw[Ax];lia
 generalize hj:((i:Nat):Int)=j at hc0 e⊢;have hm:=PySem.AutoSeq1.list_insert_list_int_val_1 l its.toArray n j tk u2 hc0 hs1;refine Jz F.slot_list_insert ⟨_,e,rfl⟩ F.entry_list_insert (F.args_list_insert_3 _ _ _) hm ⟨e,?_⟩;obtain⟨h1,h2⟩:=a8.splitAt i r;refine⟨.non,_,I.lset (its':=its.take i++u2::its.drop i) hH e ?_ (h1.append (.cons r2 h2)) ?_,rfl,q⟩
 .have hk:(if j<0 then(j+(its.toArray.size:Int)).toNat else min j.toNat its.toArray.size)=i:=by
   rw[<-hj,if_neg (by lia),Dg,Ax];lia
  show(its.toArray.extract 0 (if j<0 then(j+(its.toArray.size:Int)).toNat else min j.toNat its.toArray.size)).push u2++its.toArray.extract (if j<0 then(j+(its.toArray.size:Int)).toNat else min j.toNat its.toArray.size)=_;rw[hk];apply Array.toList_inj.mp;simp[Array.toList_append,Array.toList_push];rw[Gs (by rw[Eb];lia)]
 .rw[Ah,Az,Bp,Eb];lia
end
end L2
namespace L3
open PySem Spec PyProof.Rows L2
section
variable {X:Cx}
def yL:R3:=λx y M R=>∃a b c d:Int,x=.tup [.int a,.int b]/\y=.tup [.int c,.int d]/\R (.bl (iB (a,b) (c,d))) M
def HP:R3:=λx y M R=>∃a b c d:Int,x=.tup [.int a,.int b]/\y=.tup [.int c,.int d]/\R (.bl (iB (c,d) (a,b))) M
theorem uC{pins:List (Addr×Obj)}{Z:SV}{H:Hp}{M:Mm}{s:Ag}{x:V}{v:Ae}{a b:Int}(I:Inv X pins Z H s)(rx:RelV x v)(ax:AV X.K H M x (.tup [.int a,.int b])):∃p o its n t u,v=.ref p/\s.heap.get? p=some o/\o.cls=.type "tuple"/\o.data=.seq its n/\its.toList=[.int a t,.int b u]:=by
 cases ax with
 | @tup p xs _ e q=>
  cases (show v=Value.ref p from rx);obtain⟨y,z,rfl,ay,az⟩:=q.two;obtain rfl:=ay.inv;obtain rfl:=az.inv;obtain⟨_,its,r,o,h1,h2,m,h3⟩:=(show cX X.prog X.w H s.heap p (.tup [.int a,.int b]) from I.hok p _ e);obtain⟨u1,u2,rfl,r1,r2⟩:=vals2 r;obtain⟨t1,rfl⟩:=r1;obtain⟨t2,rfl⟩:=r2;exact⟨p,o,_,m,t1,t2,rfl,h1,h2,h3,by simp⟩
theorem HQ(hu:X.A.units+1<Fm):bG X (Cb .Lt) (cS X.K yL):=by
 rintro pins s Z H x y v u Q I rx ry ⟨wx,wy,M,R,am,ax,ay,⟨a,b,c,d,rfl,rfl,r⟩,k⟩;obtain⟨p,o,its,n,t1,t2,rfl,h1,h2,h3,h4⟩:=uC I rx ax;obtain⟨p',o',its',n',t1',t2',rfl,g1,g2,g3,g4⟩:=uC I ry ay;exact X2 hu h1 h2 h3 g1 g2 g3 h4 g4 ⟨.bl _,H,I,rfl,k.at am (.bl _) r⟩
theorem X5(hu:X.A.units+1<Fm):bG X (Cb .Gt) (cS X.K HP):=by
 rintro pins s Z H x y v u Q I rx ry ⟨wx,wy,M,R,am,ax,ay,⟨a,b,c,d,rfl,rfl,r⟩,k⟩;obtain⟨p,o,its,n,t1,t2,rfl,h1,h2,h3,h4⟩:=uC I rx ax;obtain⟨p',o',its',n',t1',t2',rfl,g1,g2,g3,g4⟩:=uC I ry ay;exact X3 hu h1 h2 h3 g1 g2 g3 h4 g4 ⟨.bl _,H,I,rfl,k.at am (.bl _) r⟩
def HR:W->List W->Mm->K3->Prop
 | .ref l,[.int i,y],M,R=>∃ws,M l=some (.lst ws)/\ws.length<Am/\0<=i/\i<=ws.length/\R .non (put M l (.lst (ws.take i.toNat++y::ws.drop i.toNat)))
 | _,_,_,_=>False
theorem HS{K:Ac}{H:Hp}{M:Mm}:∀{vs:List V} {ws:List W} (i:Nat),aM K H M vs ws->aM K H M (vs.take i) (ws.take i)/\aM K H M (vs.drop i) (ws.drop i)
 | _,_,0,h=>⟨.nil,h⟩
 | _,_,i+1,.nil=>⟨.nil,.nil⟩
 | _,_,i+1,.cons r t=>by
  obtain⟨h1,h2⟩:=HS i t;exact⟨.cons r h1,h2⟩
theorem X6:jI X "list.insert" (kR X.K HR):=by
 rintro pins s Z H x xs v us Q I rx rs ⟨wx,ws,M,R,am,ax,axs,h,k⟩
 match wx,ws,h with
 | .ref l,[.int i,y],h=>
  obtain⟨u,z,rfl,au,az⟩:=axs.two;obtain rfl:=ax.inv;obtain rfl:=au.inv;obtain⟨ws,e,hl,h0,h1,r⟩:=h;obtain⟨i,rfl⟩:=Dr h0;obtain⟨vs,f,q⟩:=am.lst e;obtain⟨q1,q2⟩:=HS i q;rw[Dg]at r;exact X4 pins s Z H _ _ v us Q I rx rs ⟨l,vs,z,i,rfl,rfl,f,by rw[q.length];exact hl,by rw[q.length];lia,pZ am k e (q1.append (.cons az q2)) .non r⟩
end
end L3
namespace Rg
open PySem Spec PyProof.Rows L2 L3
theorem oV{U:Type}[DecidableEq U]{kvs:List (U×W)}{k j:U}{w:W}:bJ (cT kvs k w) j=if k=j then some w else bJ kvs j:=k9 kvs k j w
theorem oW{U:Type}[DecidableEq U](e:U×W)(t:List (U×W))(k:U):bJ (e::t) k=if e.1=k then some e.2 else bJ t k:=eA e t k
theorem uD{U:Type}[DecidableEq U]{k j:U}:∀{kvs:List (U×W)},bJ (jQ kvs k) j=if k=j then none else bJ kvs j
 | []=>by unfold jQ;rw[List.filter_nil];split<;>rfl
 | e::t=>by
  have ih:=uD (k:=k) (j:=j) (kvs:=t);unfold jQ at ih⊢;rw[Dw]
  by_cases h:e.1=k
  .rw[if_neg (by simp[h]),ih,oW]
   by_cases hj:k=j
   .rw[if_pos hj,if_pos hj]
   .rw[if_neg hj,if_neg hj,if_neg (by rw[h];exact hj)]
  .rw[if_pos (by simp[h]),oW,ih,oW]
   by_cases hj:k=j
   .rw[if_pos hj,if_pos hj,if_neg (by rw[<-hj];exact h)]
   .rw[if_neg hj,if_neg hj]
theorem yM{U:Type}[DecidableEq U](kvs:List (U×W))(k:U)(w:W):(cT kvs k w).length<=kvs.length+1:=qJ kvs k w
theorem HU{U:Type}[DecidableEq U]{k:U}:∀{kvs:List (U×W)},(bJ kvs k).isSome=true->(jQ kvs k).length<kvs.length
 | [],h=>by cases h
 | e::t,h=>by
  unfold jQ;rw[Dw];have hle:(t.filter λkv=>decide (kv.1≠k)).length<=t.length:=He _ _
  by_cases he:e.1=k
  .rw[if_neg (by simp[he]),Az];lia
  .rw[if_pos (by simp[he]),Az,Az];rw[oW,if_neg he]at h;have:=HU h;unfold jQ at this;lia
structure eP{U:Type}(kk:U->List aK)(M0 M:Mm)(a:Addr)(kvs:List (List aK×W))(g:U->Option (List W)):Prop where
 sub:L3.Sub M0 M
 new:M0 a=none
 at_:M a=some (.dT kvs)
 non:∀k,g k=none->bJ kvs (kk k)=none
 som:∀k ws,g k=some ws->∃p,bJ kvs (kk k)=some (.ref p)/\p≠a/\M0 p=none/\M p=some (.lst ws)
 inj:∀k j p,bJ kvs (kk k)=some (.ref p)->bJ kvs (kk j)=some (.ref p)->k=j
theorem gV{M0 M:Mm}{p:Addr}{o:MO}(h:L3.Sub M0 M)(n:M0 p=none):L3.Sub M0 (put M p o):=λa u e=>by
 rw[aW (λz=>by rw[z,n]at e;cases e)];exact h a u e
section
variable {U:Type}[DecidableEq U]{kk:U->List aK}{M0 M:Mm}{a p:Addr}{kvs:List (List aK×W)}{g:U->Option (List W)}{o:MO}{k:U}{ws:List W}
theorem eP.lift(h:eP kk M0 M a kvs g)(hp:M p=none\/∃u,M0 p=some u):eP kk (put M0 p o) (put M p o) a kvs g:=by
 have ne:∀{b:Addr},M0 b=none->(∃u,M b=some u)->b≠p:=λ{b} h0 ⟨u,h1⟩ e=>by
  subst e;rcases hp with z|⟨v,z⟩
  .rw[h1]at z;cases z
  .rw[h0]at z;cases z
 refine⟨Sub.put h.sub,?_,?_,h.non,λk ws e=>?_,h.inj⟩
 .rw[aW (ne h.new ⟨_,h.at_⟩)];exact h.new
 .rw[aW (ne h.new ⟨_,h.at_⟩)];exact h.at_
 .obtain⟨q,h1,h2,h3,h4⟩:=h.som k ws e;have:=ne h3 ⟨_,h4⟩;exact⟨q,h1,h2,by rw[aW this];exact h3,by rw[aW this];exact h4⟩
theorem eP.more(h:eP kk M0 M a kvs g)(hp:M p=none):eP kk M0 (put M p o) a kvs g:=by
 have ne:∀{b:Addr},(∃u,M b=some u)->b≠p:=λ{b} ⟨u,h1⟩ e=>by subst e;rw[hp]at h1;cases h1
 refine⟨gV h.sub (h.sub.non hp),h.new,by rw[aW (ne ⟨_,h.at_⟩)];exact h.at_,h.non,λk ws e=>?_,h.inj⟩;obtain⟨q,h1,h2,h3,h4⟩:=h.som k ws e;exact⟨q,h1,h2,h3,by rw[aW (ne ⟨_,h4⟩)];exact h4⟩
theorem eP.has(h:eP kk M0 M a kvs g)(e:g k=some ws):∃p,bJ kvs (kk k)=some (.ref p)/\M p=some (.lst ws):=by
 obtain⟨q,h1,_,_,h4⟩:=h.som k ws e;exact⟨q,h1,h4⟩
theorem eP.look(h:eP kk M0 M a kvs g)(k:U):(bJ kvs (kk k)).isSome=(g k).isSome:=by
 cases e:g k with
 | none=>rw[h.non k e];rfl
 | some ws=>obtain⟨q,h1,_⟩:=h.has e;rw[h1];rfl
theorem eP.wr(h:eP kk M0 M a kvs g)(hk:bJ kvs (kk k)=some (.ref p)):eP kk M0 (put M p (.lst ws)) a kvs (λj=>if k=j then some ws else g j):=by
 obtain⟨ws0,e0⟩:∃ws0,g k=some ws0:=by
  cases e:g k with
  | none=>rw[h.non k e]at hk;cases hk
  | some ws=>exact⟨_,rfl⟩
 obtain⟨q,h1,h2,h3,h4⟩:=h.som k ws0 e0;rw[hk]at h1;cases h1;refine⟨gV h.sub h3,h.new,by rw[aW (Bt h2)];exact h.at_,λj e=>?_,λj us e=>?_,h.inj⟩
 .by_cases hj:k=j
  .rw[if_pos hj]at e;cases e
  .rw[if_neg hj]at e;exact h.non j e
 .by_cases hj:k=j
  .rw[if_pos hj]at e;cases e;subst hj;exact⟨p,hk,h2,h3,aY⟩
  .rw[if_neg hj]at e;obtain⟨q,g1,g2,g3,g4⟩:=h.som j us e;refine⟨q,g1,g2,g3,?_⟩;rw[aW (λz=>hj (h.inj k j p hk (by rw[<-z];exact g1)))];exact g4
theorem eP.add(hkk:∀k j,kk k=kk j->k=j)(h:eP kk M0 M a kvs g)(hg:g k=none)(hp:M p=none):eP kk M0 (put (put M p (.lst ws)) a (.dT (cT kvs (kk k) (.ref p)))) a (cT kvs (kk k) (.ref p)) (λj=>if k=j then some ws else g j):=by
 have ne:∀{b:Addr},(∃u,M b=some u)->b≠p:=λ{b} ⟨u,h1⟩ e=>by subst e;rw[hp]at h1;cases h1
 have hpa:p≠a:=Bt (ne ⟨_,h.at_⟩);have refs:∀j q,bJ kvs (kk j)=some (.ref q)->∃u,M q=some u:=λj q e=>by
  cases eg:g j with
  | none=>rw[h.non j eg]at e;cases e
  | some us=>
   obtain⟨q',g1,_,_,g4⟩:=h.som j us eg;rw[e]at g1;cases g1;exact⟨_,g4⟩
 refine⟨gV (gV h.sub (h.sub.non hp)) h.new,h.new,aY,λj e=>?_,λj us e=>?_,λi j q e1 e2=>?_⟩
 .by_cases hj:k=j
  .rw[if_pos hj]at e;cases e
  .rw[if_neg hj]at e;rw[oV,if_neg (λz=>hj (hkk _ _ z))];exact h.non j e
 .by_cases hj:k=j
  .rw[if_pos hj]at e;cases e;subst hj;exact⟨p,by rw[oV,if_pos rfl],hpa,h.sub.non hp,by rw[aW hpa,aY]⟩
  .rw[if_neg hj]at e;obtain⟨q,g1,g2,g3,g4⟩:=h.som j us e;exact⟨q,by rw[oV,if_neg (λz=>hj (hkk _ _ z))];exact g1,g2,g3,by rw[aW g2,aW (ne ⟨_,g4⟩)];exact g4⟩
 .rw[oV]at e1 e2
  by_cases h1:kk k=kk i
  .by_cases h2:kk k=kk j
   .exact(hkk _ _ h1).symm.trans (hkk _ _ h2)
   .rw[if_pos h1]at e1;rw[if_neg h2]at e2;cases e1;obtain⟨u,z⟩:=refs j p e2;rw[hp]at z;cases z
  .by_cases h2:kk k=kk j
   .rw[if_neg h1]at e1;rw[if_pos h2]at e2;cases e2;obtain⟨u,z⟩:=refs i p e1;rw[hp]at z;cases z
   .rw[if_neg h1]at e1;rw[if_neg h2]at e2;exact h.inj i j q e1 e2
theorem eP.del(hkk:∀k j,kk k=kk j->k=j)(h:eP kk M0 M a kvs g):eP kk M0 (put M a (.dT (jQ kvs (kk k)))) a (jQ kvs (kk k)) (λj=>if k=j then none else g j):=by
 refine⟨gV h.sub h.new,h.new,aY,λj e=>?_,λj us e=>?_,λi j q e1 e2=>?_⟩
 .rw[uD]
  by_cases hj:k=j
  .rw[if_pos (by rw[hj])]
  .rw[if_neg hj]at e;rw[if_neg (λz=>hj (hkk _ _ z))];exact h.non j e
 .by_cases hj:k=j
  .rw[if_pos hj]at e;cases e
  .rw[if_neg hj]at e;obtain⟨q,g1,g2,g3,g4⟩:=h.som j us e;exact⟨q,by rw[uD,if_neg (λz=>hj (hkk _ _ z))];exact g1,g2,g3,by rw[aW g2];exact g4⟩
 .rw[uD]at e1 e2;split at e1
  .cases e1
  .split at e2
   .cases e2
   .exact h.inj i j q e1 e2
theorem eP.same{g':U->Option (List W)}(h:eP kk M0 M a kvs g)(e:∀k,g' k=g k):eP kk M0 M a kvs g':=by
 have:g'=g:=funext e;rw[this];exact h
end
structure Cc where
 q:Addr
 s:Addr
 f:Addr
 g:Addr
 p:Addr
 h:Addr
 i:Addr
 c:Addr
 t:Addr
def cW(c:aJ):W:=.tup [.int c.1,.int c.2]
def cK(c:aJ):List aK:=[Sum.inl c.1,Sum.inl c.2]
theorem X7(c:aJ):cW c=.tup ((cK c).map wK):=rfl
theorem HV:∀a b:aJ,cK a=cK b->a=b:=λa b h=>by
 unfold cK at h;simp only[Eu,Lo,and_true]at h;exact Prod.ext h.1 h.2
def gB(cut:List Int):W:=.tup (cut.map W.int)
def kC(x:Nat×List Int):W:=.tup [.int x.1,gB x.2]
section
variable {O:Type}
theorem yN{U J:Type}[DecidableEq U]{t:List (U×J)}{k:U}(h:∀e∈t,e.1≠k):aH t k=none:=by
 induction t with
 | nil=>rfl
 | cons e t ih=>rw[eA,if_neg (h e Bk)];exact ih λx hx=>h x (Ba _ hx)
theorem uE{a b:aJ}(h:cU a b=true):a≠b:=λe=>by subst e;exact qH h
theorem HW(c:aJ)(x:O)(d:aJ):∀{q:List (aJ×List O)},iA q->aH (eC c x q) d=if c=d then some ((aH q c).getD []++[x]) else aH q d
 | [],_=>by rw[eC,eA];rfl
 | (e,xs)::r,h=>by
  obtain⟨_,h2,h3⟩:=h;rw[eC]
  by_cases h1:cU c e=true
  .rw[if_pos h1,eA,HW c x d h3,eA,eA,if_neg (Bt (uE h1))]
   by_cases hd:e=d
   .rw[if_pos hd,if_pos hd,if_neg (λz=>uE h1 (z.trans hd.symm))]
   .rw[if_neg hd,if_neg hd]
  .rw[if_neg h1]
   by_cases h4:e=c
   .subst h4;rw[if_pos rfl,eA,eA,eA,if_pos rfl]
    by_cases hd:e=d
    .rw[if_pos hd,if_pos hd];rfl
    .rw[if_neg hd,if_neg hd,if_neg hd]
   .rw[if_neg h4,eA];have hn:aH ((e,xs)::r) c=none:=yN λz hz=>by
     rcases Ar.mp hz with y|y
     .rw[y];exact h4
     .intro e1;have:=h2 z y;rw[e1]at this;exact h1 this
    rw[hn];rfl
def pos(c:aJ):List aJ->Nat
 | []=>0
 | d::r=>if cU c d=true then pos c r+1 else 0
theorem HX(c:aJ):∀cs:List aJ,pos c cs<=cs.length
 | []=>An _
 | d::r=>by
  rw[pos];split
  .have:=HX c r;simp;lia
  .simp
theorem yO(c:aJ)(x:O):∀{q:List (aJ×List O)},iA q->(aH q c).isSome=false->(eC c x q).map (·.1)=(q.map (·.1)).take (pos c (q.map (·.1)))++c::(q.map (·.1)).drop (pos c (q.map (·.1)))
 | [],_,_=>rfl
 | (e,xs)::r,h,hn=>by
  obtain⟨_,h2,h3⟩:=h;rw[eA]at hn
  by_cases h4:e=c
  .rw[if_pos h4]at hn;cases hn
  .rw[if_neg h4]at hn;rw[eC,Bd,pos]
   by_cases h1:cU c e=true
   .rw[if_pos h1,if_pos h1,Bd,yO c x h3 hn];rfl
   .rw[if_neg h1,if_neg h1,if_neg h4];rfl
theorem HY(c:aJ)(x:O):∀{q:List (aJ×List O)},iA q->(aH q c).isSome=true->(eC c x q).map (·.1)=q.map (·.1)
 | [],_,h=>by cases h
 | (e,xs)::r,h,hn=>by
  obtain⟨_,h2,h3⟩:=h;rw[eA]at hn;rw[eC]
  by_cases h1:cU c e=true
  .rw[if_neg (Bt (uE h1))]at hn;rw[if_pos h1,Bd,HY c x h3 hn];rfl
  .rw[if_neg h1]
   by_cases h4:e=c
   .rw[if_pos h4];rfl
   .rw[if_neg h4]at hn;obtain⟨ys,hy⟩:=Dh.mp hn;have:∃z∈r,z.1=c:=by
     have:∀{t:List (aJ×List O)},aH t c=some ys->∃z∈t,z.1=c:=by
      intro t
      induction t with
      | nil=>intro e;cases e
      | cons b t ih=>
       intro e;rw[eA]at e
       by_cases hb:b.1=c
       .exact⟨b,Bk,hb⟩
       .rw[if_neg hb]at e;obtain⟨z,h1,h2⟩:=ih e;exact⟨z,Ba _ h1,h2⟩
     exact this hy
    obtain⟨z,hz,e1⟩:=this;have:=h2 z hz;rw[e1]at this;exact absurd this h1
theorem yP:∀{q:List (aJ×List O)},iA q->q.length<=(bB q).length
 | [],_=>An _
 | (e,xs)::r,h=>by
  obtain⟨h1,_,h3⟩:=h;have:=yP h3;have:=Fd.mpr h1;rw[bB,Ah,Aa,Az];lia
theorem HZ:∀{q:List (aJ×List O)} {c:aJ},((aH q c).getD []).length<=(bB q).length
 | [],_=>An _
 | (e,xs)::r,c=>by
  rw[eA,bB,Ah,Aa];split
  .show xs.length<=_;lia
  .have:=HZ (q:=r) (c:=c);lia
theorem IA:∀{q q':List (aJ×List O)} {c:aJ} {x:O},iA q->iI q=some (c,x,q')->∃r ys,q=r++[(c,ys++[x])]/\q'=(if ys.isEmpty then r else r++[(c,ys)])
 | [],q',c,x,_,h=>by cases h
 | [(d,xs)],q',c,x,hf,h=>by
  obtain⟨h1,_,_⟩:=hf;rcases Ej xs with z|⟨ys,y,z⟩
  .exact absurd z h1
  .rw[Ek]at z;subst z;simp[iI]at h;obtain⟨rfl,rfl,rfl⟩:=h;refine⟨[],ys,rfl,?_⟩;cases ys<;>simp
 | e::e2::r,q',c,x,hf,h=>by
  obtain⟨_,_,h3⟩:=hf;rw[iI]at h;split at h
  .cases h
  .rename_i d1 x1 q1 e1;simp only[Fv,Dn]at h;obtain⟨rfl,rfl,rfl⟩:=h;obtain⟨r',ys,z1,z2⟩:=IA h3 e1;refine⟨e::r',ys,by rw[z1];rfl,?_⟩;rw[z2];split<;>rfl
theorem uF{U J:Type}[DecidableEq U]{t:List (U×J)}{k:U}{v:J}(h:∀e∈t,e.1≠k)(j:U):aH (t++[(k,v)]) j=if k=j then some v else aH t j:=by
 rw[yB]
 by_cases hj:k=j
 .subst hj;rw[if_pos rfl,if_pos rfl,yN h];rfl
 .rw[if_neg hj,if_neg hj,Option.or_none]
theorem IC:∀{r:List (aJ×List O)} {c:aJ} {ys:List O},iA (r++[(c,ys)])->∀e∈r,e.1≠c
 | [],_,_,_,e,h=>nomatch h
 | b::r,c,ys,h,e,he=>by
  obtain⟨_,h2,h3⟩:=h;rcases Ar.mp he with z|z
  .rw[z];exact Bt (uE (h2 (c,ys) (by simp)))
  .exact IC h3 e z
theorem ID:∀{q:List (aJ×List O)},iA q->(q.map (·.1)).Pairwise λa b=>cU b a=true
 | [],_=>.nil
 | (e,xs)::r,h=>by
  obtain⟨_,h2,h3⟩:=h;rw[Bd,List.pairwise_cons];refine⟨λa ha=>?_,ID h3⟩;obtain⟨z,hz,rfl⟩:=Bg.mp ha;exact h2 z hz
end
theorem IE{c:aJ}:∀{cs:List aJ} {k:Nat},k<=cs.length->(∀i d,i<k->cs[i]? = some d->cU c d=true)->(∀i d,k<=i->cs[i]? = some d->cU c d=false)->pos c cs=k
 | [],k,h,_,_=>by simp at h;subst h;rfl
 | d::r,k,h,h1,h2=>by
  rw[pos];cases k with
  | zero=>rw[if_neg (by rw[h2 0 d (An _) rfl];decide)]
  | succ k=>
   rw[if_pos (h1 0 d (by lia) rfl),IE (k:=k) (by simpa using h) (λi e hi he=>h1 (i+1) e (by lia) (by simpa using he)) λi e hi he=>h2 (i+1) e (by lia) (by simpa using he)]
structure Aq where
 o:Addr
 d:Addr
 c:Addr
 w:Addr
def qf(A:Aq):List (Str×W):=[("costs",.ref A.c),("waiting",.ref A.w)]
theorem oX{A:Aq}:Bx ("costs" : Str) (qf A)=some (W.ref A.c):=by kernel_rfl
theorem oY{A:Aq}:Bx ("waiting" : Str) (qf A)=some (W.ref A.w):=by kernel_rfl
theorem X8{A:Aq}:Bx ("place_of" : Str) (qf A)=none:=by kernel_rfl
theorem X9{A:Aq}:Bx ("put" : Str) (qf A)=none:=by kernel_rfl
theorem YA{A:Aq}:Bx ("take" : Str) (qf A)=none:=by kernel_rfl
theorem YB{A:Aq}:Bx ("is_done" : Str) (qf A)=none:=by kernel_rfl
structure Qm(C:Cc)(M0 M:Mm)(A:Aq)(cs:List aJ):Prop where
 sub:L3.Sub M0 M
 no:M0 A.o=none
 nc:M0 A.c=none
 ne:A.o≠A.c
 ob:M A.o=some (.ins C.q A.d (qf A))
 co:M A.c=some (.lst (cs.map cW))
abbrev Qu:=List (aJ×List (Nat×List Int))
abbrev wG(q:Qu):aJ->Option (List W):=λc=>(aH q c).map λxs=>xs.map kC
structure QR(C:Cc)(M0 M:Mm)(A:Aq)(q:Qu):Prop where
 fall:iA q
 ex:∃M1 kvs,Qm C M0 M1 A (q.map (·.1))/\eP cK M1 M A.w kvs (wG q)/\kvs.length<=q.length
theorem Qm.lift{C:Cc}{M0 M:Mm}{A:Aq}{cs:List aJ}{p:Addr}{o:MO}(h:Qm C M0 M A cs)(hp:M p=none\/∃u,M0 p=some u):Qm C (put M0 p o) (put M p o) A cs:=by
 have ne:∀{b:Addr},M0 b=none->(∃u,M b=some u)->b≠p:=λ{b} h0 ⟨u,h1⟩ e=>by
  subst e;rcases hp with z|⟨v,z⟩
  .rw[h1]at z;cases z
  .rw[h0]at z;cases z
 have n1:=ne h.no ⟨_,h.ob⟩;have n2:=ne h.nc ⟨_,h.co⟩;exact⟨Sub.put h.sub,by rw[aW n1];exact h.no,by rw[aW n2];exact h.nc,h.ne,by rw[aW n1];exact h.ob,by rw[aW n2];exact h.co⟩
theorem Qm.costs{C:Cc}{M0 M:Mm}{A:Aq}{cs cs':List aJ}(h:Qm C M0 M A cs):Qm C M0 (put M A.c (.lst (cs'.map cW))) A cs':=
 ⟨gV h.sub h.nc,h.no,h.nc,h.ne,by rw[aW h.ne];exact h.ob,aY⟩
theorem QR.lift{C:Cc}{M0 M:Mm}{A:Aq}{q:Qu}{p:Addr}{o:MO}(h:QR C M0 M A q)(hp:M p=none\/∃u,M0 p=some u):QR C (put M0 p o) (put M p o) A q:=by
 obtain⟨M1,kvs,h1,h2,h3⟩:=h.ex;refine⟨h.fall,put M1 p o,kvs,h1.lift ?_,h2.lift ?_,h3⟩
 .rcases hp with z|z
  .exact .inl (h2.sub.non z)
  .exact .inr z
 .rcases hp with z|⟨u,z⟩
  .exact .inl z
  .exact .inr ⟨u,h1.sub _ _ z⟩
theorem QR.more{C:Cc}{M0 M:Mm}{A:Aq}{q:Qu}{p:Addr}{o:MO}(h:QR C M0 M A q)(hp:M p=none):QR C M0 (put M p o) A q:=by
 obtain⟨M1,kvs,h1,h2,h3⟩:=h.ex;exact⟨h.fall,M1,kvs,h1,h2.more hp,h3⟩
theorem QR.sub{C:Cc}{M0 M:Mm}{A:Aq}{q:Qu}(h:QR C M0 M A q):L3.Sub M0 M:=by
 obtain⟨M1,kvs,h1,h2,h3⟩:=h.ex;exact h1.sub.trans h2.sub
theorem QR.ob{C:Cc}{M0 M:Mm}{A:Aq}{q:Qu}(h:QR C M0 M A q):M A.o=some (.ins C.q A.d (qf A)):=by
 obtain⟨M1,kvs,h1,h2,h3⟩:=h.ex;exact h2.sub _ _ h1.ob
theorem QR.co{C:Cc}{M0 M:Mm}{A:Aq}{q:Qu}(h:QR C M0 M A q):M A.c=some (.lst ((q.map (·.1)).map cW)):=by
 obtain⟨M1,kvs,h1,h2,h3⟩:=h.ex;exact h2.sub _ _ h1.co
def IF(C:Cc):bE:=λws M R=>∃M0 a dx,ws=[.ref a]/\M=put M0 a (.ins C.q dx [])/\M0 a=none/\∀M' (A:Aq),A.o=a->QR C M0 M' A []->R .non M'
def IG(C:Cc):bE:=λws M R=>∃M0 A q,ws=[.ref A.o]/\QR C M0 M A q/\R (.bl (decide (q=[]))) M
def II(C:Cc):bE:=λws M R=>∃(A:Aq) (cs:List aJ) (c:aJ),ws=[.ref A.o,cW c]/\M A.o=some (.ins C.q A.d (qf A))/\M A.c=some (.lst (cs.map cW))/\cs.Pairwise (λa b=>cU b a=true)/\cs.length<10000000/\R (.int (pos c cs:Nat)) M
def yQ(C:Cc):bE:=λws M R=>∃M0 A q c x,ws=[.ref A.o,cW c,kC x]/\QR C M0 M A q/\(bB (eC c x q)).length<10000000/\∀M',QR C M0 M' A (eC c x q)->R .non M'
def IJ(C:Cc):bE:=λws M R=>∃M0 A q c x q',ws=[.ref A.o]/\QR C M0 M A q/\iI q=some (c,x,q')/\∀M',QR C M0 M' A q'->R (.tup [cW c,kC x]) M'
abbrev YC:List Str:=["self"]
def YD(C:Cc):aG:=
   (aR (kB C.q (aA 0) "costs" (hZ aE))
   (kB C.q (aA 0) "waiting" mS))
abbrev YE:List Str:=["self"]
def YF(C:Cc):aG:=
   (bP (aD (rEq false) (bX cY (aB (dB C.q (aA 0) "costs") aE)) (vC (.int 0))))
abbrev YG:List Str:=["self","cost","thing"]
def YH(C:Cc):aG:=
   (aR (cQ (bV (aD (rIn true) (aA 1) (dB C.q (aA 0) "waiting")))
    (aR (i6 (hZ aE) (kZ (dB C.q (aA 0) "waiting") (aA 1)))
   (dW (dU "list" HR (dB C.q (aA 0) "costs") (aB (iJ C.q "place_of" (II C) (aA 0) (aB (aA 1) aE)) (aB (aA 1) aE)))))
    c7)
   (dW (dU "list" eZ (aD aV (dB C.q (aA 0) "waiting") (aA 1)) (aB (aA 2) aE))))
abbrev YI:List Str:=["self","cost","low","high","middle"]
def YJ(C:Cc):aG:=
   (bK 2 (vC (.int 0)))
def YK(C:Cc):aG:=
   (bK 3 (bX cY (aB (dB C.q (aA 0) "costs") aE)))
def YL(C:Cc):aG:=
   (aR (bK 4 (aD f7 (aD dY (aA 2) (aA 3)) (vC (.int 2))))
   (cQ (bV (aD HP (aD aV (dB C.q (aA 0) "costs") (aA 4)) (aA 1)))
    (bK 2 (aD dY (aA 4) (vC (.int 1))))
    (bK 3 (aA 4))))
def YM(C:Cc):aG:=
   (p9 (bV (aD nN (aA 2) (aA 3))) (YL C))
def YN(C:Cc):aG:=
   (bP (aA 2))
def YO(C:Cc):aG:=(aR (YJ C) (aR (YK C) (aR (YM C) (YN C))))
abbrev YQ:List Str:=["self","cost","things","thing"]
def YR(C:Cc):aG:=
   (bK 1 (aD aV (dB C.q (aA 0) "costs") (jX jZ (vC (.int 1)))))
def YS(C:Cc):aG:=
   (bK 2 (aD aV (dB C.q (aA 0) "waiting") (aA 1)))
def YT(C:Cc):aG:=
   (bK 3 (tD "list" rPop (aA 2)))
def YU(C:Cc):aG:=
   (cQ (bV (aD (rEq false) (bX cY (aB (aA 2) aE)) (vC (.int 0))))
    (aR (dW (tD "list" rPop (dB C.q (aA 0) "costs")))
   (dW (dU "dict" HM (dB C.q (aA 0) "waiting") (aB (aA 1) aE))))
    c7)
def YV(C:Cc):aG:=
   (bP (cB (aB (aA 1) (aB (aA 3) aE))))
def YW(C:Cc):aG:=(aR (YR C) (aR (YS C) (aR (YT C) (aR (YU C) (YV C)))))
theorem z1:1<=Am:=by decide
theorem z2:2<=Am:=by decide
theorem z3:3<=Am:=by decide
theorem z4:4<=Am:=by decide
theorem bC{b:Bool}{P Q:Prop}(h1:b=true->P)(h2:b=false->Q):if b=true then P else Q:=by cases b;exact h2 rfl;exact h1 rfl
theorem yR{w:W}{ws:List W}{M:Mm}{R:List W->(Mm->Prop)->Mm->Prop}(e:w=.rl ws)(h:R ws (λ_=>True) M):L3.nQ w M R:=by rw[e];exact h
theorem nW{M:Mm}{a:Addr}{kvs:List (List aK×W)}{k:List aK}{w:W}{R:K3}(h:M a=some (.dT kvs))(hl:bJ kvs k=some w)(r:R w M):L3.aV (.ref a) (.tup (k.map wK)) M R:=⟨w,.inr ⟨kvs,k,h,rfl,hl.symm⟩,r⟩
theorem eT{M:Mm}{a:Addr}{ws:List W}(h:M a=some (.lst ws)):lP "list" (.ref a) M:=.inl ⟨rfl,_,h⟩
theorem qS{M:Mm}{a:Addr}{kvs:List (List aK×W)}(h:M a=some (.dT kvs)):lP "dict" (.ref a) M:=.inr ⟨rfl,.inr ⟨_,h⟩⟩
theorem YX{C:Cc}{ws:List W}{M:Mm}{R:K3}(h:IG C ws M R):YF C (bR R) (bU YE ws) M:=by
 obtain⟨M0,A,q,rfl,hq,r⟩:=h;refine⟨_,rfl,A.o,A.d,qf A,_,rfl,hq.ob,oX,.inl ⟨_,hq.co,M,Sub.refl _,?_⟩⟩;show R (.bl (decide (((Jb cW (q.map λx=>x.1)).length:Int)=0))) M;have e:decide (((Jb cW (q.map λx=>x.1)).length:Int)=0)=decide (q=[]):=by
  cases q<;>simp;lia
 rw[e];exact r
theorem YY{C:Cc}{ws:List W}{M:Mm}{R:K3}(h:IF C ws M R):YD C (bR R) (bU YC ws) M:=by
 obtain⟨M0,a,dx,rfl,rfl,ha,r⟩:=h;refine⟨Bz _,λp hp=>?_⟩;have hpa:p≠a:=λe=>by rw[e,aY]at hp;cases hp
 have hp0:M0 p=none:=by rw[aW hpa]at hp;exact hp
 refine⟨_,rfl,a,dx,[],rfl,by rw[aW (Bt hpa),aY],by decide,λw hw=>?_⟩;have hwa:w≠a:=λe=>by rw[e,aY]at hw;cases hw
 have hwp:w≠p:=λe=>by rw[e,aW hpa,aY]at hw;cases hw
 have hw0:M0 w=none:=by rw[aW hwa,aW hwp,aW hwa]at hw;exact hw
 refine⟨_,rfl,a,dx,cG "costs" (.ref p) [],rfl,by rw[aW (Bt hwa),aY],(show(1:Nat)<1000 by decide),_,Sub.refl _,r _ ⟨a,dx,p,w⟩ rfl ⟨trivial,put (put M0 p (.lst [])) a (.ins C.q dx (qf ⟨a,dx,p,w⟩)),[],⟨gV (gV (Sub.refl _) hp0) ha,ha,hp0,Bt hpa,aY,by rw[aW hpa,aY];rfl⟩,?_,An _⟩⟩;have e:put (put (put (put (put M0 a (.ins C.q dx [])) p (.lst [])) a (.ins C.q dx (cG "costs" (.ref p) []))) w (.dT [])) a (.ins C.q dx (cG "waiting" (.ref w) (cG "costs" (.ref p) [])))=put (put (put M0 p (.lst [])) a (.ins C.q dx (qf ⟨a,dx,p,w⟩))) w (.dT []):=by
  have eq:cG "waiting" (.ref w) (cG "costs" (.ref p) [])=qf ⟨a,dx,p,w⟩:=by
   show(if (("costs" : Str)=("waiting" : Str)) then _ else _)=_;rw[if_neg (by decide +kernel)];rfl
  rw[eq];funext b;unfold put
  by_cases h1:b=a<;>by_cases h2:b=w<;>by_cases h3:b=p<;>simp_all
 rw[e];exact⟨gV (Sub.refl _) (by rw[aW hwa,aW hwp];exact hw0),by rw[aW hwa,aW hwp];exact hw0,aY,(λ_ _=>rfl),(λk ws e=>nomatch e),(λk j p e=>nomatch e)⟩
theorem YZ{C:Cc}{ws:List W}{M:Mm}{R:K3}(h:II C ws M R):YO C (bR R) (bU YI ws) M:=by
 obtain⟨A,cs,c,rfl,ho,hc,pw,hl,r⟩:=h;refine⟨_,rfl,A.o,A.d,qf A,_,rfl,ho,oX,.inl ⟨_,hc,?_⟩⟩;refine⟨λm τ M'=>∃lo hi:Nat,∃o,τ=[some (.ref A.o),some (cW c),some (.int lo),some (.int hi),o]/\M'=M/\lo<=hi/\hi<=cs.length/\(∀i d,i<lo->cs[i]? = some d->cU c d=true)/\(∀i d,hi<=i->cs[i]? = some d->cU c d=false)/\m=hi-lo,⟨_,0,cs.length,none,by rw[Aa];rfl,rfl,Bz _,An _,(λi d hi=>absurd hi (Nat.not_lt_zero _)),(λi d hi e=>by rw[Jh hi]at e;cases e),rfl⟩,?_⟩;rintro m τ M' ⟨lo,hi,o,rfl,rfl,h1,h2,h3,h4,rfl⟩;refine⟨_,rfl,_,rfl,_,rfl,bC (λhb=>?_) λhb=>?_⟩
 .have hlt:=of_decide_eq_true hb;refine⟨_,rfl,_,rfl,⟨by decide,by decide⟩,?_⟩;obtain⟨mid,hm⟩:∃mid,mid=(lo+hi)/2:=⟨_,rfl⟩;have em:((lo:Int)+(hi:Int))/2=(mid:Nat):=by lia
  dsimp only;rw[em];obtain⟨d,hd⟩:∃d,cs[mid]? = some d:=⟨_,Ak (by lia)⟩;refine⟨_,rfl,A.o,A.d,qf A,_,rfl,ho,oX,_,rfl,.inl ⟨_,cW d,hc,gZ (by rw[Ap,hd];rfl),_,rfl,d.1,d.2,c.1,c.2,rfl,rfl,_,rfl,?_⟩⟩;have pg:∀i j a b,i<j->cs[i]? = some a->cs[j]? = some b->cU b a=true:=λi j a b hij hi' hj'=>by
   obtain⟨q1,e1⟩:=Ai.mp hi';obtain⟨q2,e2⟩:=Ai.mp hj';rw[<-e1,<-e2];exact Kk.mp pw i j q1 q2 hij
  show if cU c d=true then _ else _
  by_cases hcd:cU c d=true
  .rw[if_pos hcd];refine⟨_,rfl,_,_,?_,Sub.refl _,mid+1,hi,_,rfl,rfl,by lia,h2,λi e hi' he=>?_,h4,rfl⟩
   .lia
   .by_cases hi2:i<mid
    .exact qI hcd (Le.of_lt (pg i mid e d hi2 he hd))
    .have:i=mid:=by lia
     rw[this,hd]at he;cases he;exact hcd
  .rw[if_neg hcd];refine⟨_,rfl,_,_,?_,Sub.refl _,lo,mid,_,rfl,rfl,by lia,by lia,h3,λi e hi' he=>?_,rfl⟩
   .lia
   .by_cases hi2:mid<i
    .have h5:=pg mid i d e hi2 hd he;cases h6:cU c e with
     | false=>rfl
     | true=>exact absurd (qI h6 (Le.of_lt h5)) hcd
    .have:i=mid:=by lia
     rw[this,hd]at he;cases he;simpa using hcd
 .have hlt:=of_decide_eq_false hb;have:lo=hi:=by lia
  subst this;refine⟨_,rfl,_,Sub.refl _,?_⟩;rw[<-IE (c:=c) (cs:=cs) (k:=lo) h2 h3 h4];exact r
theorem Y0{C:Cc}{ws:List W}{M:Mm}{R:K3}(h:yQ C ws M R):YH C (bR R) (bU YG ws) M:=by
 obtain⟨M0,A,q,c,x,rfl,hq,hl,r⟩:=h;have hle:=tV c x q;have hf:=hq.fall;have hql:=yP hf;have hil:=HZ (q:=q) (c:=c);have hfp:=yC c x hf;obtain⟨M1,kvs,m1,t1,l1⟩:=hq.ex;refine⟨_,rfl,_,rfl,A.o,A.d,qf A,_,rfl,hq.ob,oY,.inr ⟨_,.inr ⟨kvs,cK c,t1.at_,X7 c,rfl⟩,_,rfl,?_⟩⟩;rw[t1.look c];have wgp:∀j,wG (eC c x q) j=if c=j then some (((aH q c).getD []).map kC++[kC x]) else wG q j:=λj=>by
  show(aH (eC c x q) j).map _=_;rw[HW c x j hf]
  by_cases hj:c=j
  .rw[if_pos hj,if_pos hj,Ky,Bb];rfl
  .rw[if_neg hj,if_neg hj]
 cases hg:aH q c with
 | some xs=>
  have hgw:wG q c=some (xs.map kC):=by show(aH q c).map _=_;rw[hg];rfl
  rw[hgw];rw[hg]at hil wgp;have hil:xs.length<=(bB q).length:=hil;refine bC (λh=>nomatch (show false=true from h)) λ_=>?_;obtain⟨p,hp1,hp2⟩:=t1.has hgw;have hold:=HY c x hf (by rw[hg];rfl);refine⟨_,rfl,A.o,A.d,qf A,_,rfl,hq.ob,oY,_,rfl,nW t1.at_ hp1 ⟨eT hp2,_,rfl,_,hp2,eO (by rw[Aa];lia),_,Sub.refl _,r _ ⟨hfp,M1,kvs,?_,(t1.wr hp1).same wgp,?_⟩⟩⟩
  .rw[hold];exact m1
  .have:=congrArg Dc hold;rw[Aa,Aa]at this;rw[this];exact l1
 | none=>
  have hgw:wG q c=none:=by show(aH q c).map _=_;rw[hg];rfl
  rw[hgw];rw[hg]at wgp;refine bC (λ_=>⟨Bz _,λp hp=>?_⟩) λh=>nomatch (show true=false from h);have t2:=t1.add HV (ws:=[]) hgw hp;have hpo:A.o≠p:=λe=>by rw[<-e,hq.ob]at hp;cases hp
  have hll:((q.map (·.1)).map cW).length=q.length:=by rw[Aa,Aa]
  have hpl:=HX c (q.map (·.1));rw[Aa]at hpl;refine⟨_,rfl,A.o,A.d,qf A,_,rfl,by rw[aW hpo];exact hq.ob,oY,_,rfl,oS (k:=cK c) (kvs:=kvs) (by rw[aW (λe=>by rw[<-e,t1.at_]at hp;cases hp)];exact t1.at_) (eO (by lia)) ?_⟩;refine⟨_,rfl,A.o,A.d,qf A,_,rfl,t2.sub _ _ m1.ob,oX,eT (t2.sub _ _ m1.co),?_⟩;have t3:=t2.lift (p:=A.c) (o:=.lst ((((q.map (·.1)).take (pos c (q.map (·.1)))++c::(q.map (·.1)).drop (pos c (q.map (·.1)))).map cW))) (.inr ⟨_,m1.co⟩);have m3:=m1.costs (cs':=(q.map (·.1)).take (pos c (q.map (·.1)))++c::(q.map (·.1)).drop (pos c (q.map (·.1))));refine⟨_,rfl,A.o,A.d,qf A,rfl,t2.sub _ _ m1.ob,X8,_,rfl,A,q.map (·.1),c,rfl,t2.sub _ _ m1.ob,t2.sub _ _ m1.co,ID hf,by rw[Aa];lia,_,rfl,_,t2.sub _ _ m1.co,eO (by rw[hll];lia),by lia,by rw[hll];lia,?_⟩;have ew:((q.map (·.1)).map cW).take (Int.toNat (pos c (q.map (·.1)):Nat))++cW c::((q.map (·.1)).map cW).drop (Int.toNat (pos c (q.map (·.1)):Nat))=(((q.map (·.1)).take (pos c (q.map (·.1)))++c::(q.map (·.1)).drop (pos c (q.map (·.1)))).map cW):=by
   rw[Dg,Bb,Bd,Kr,Jn]
  rw[ew];obtain⟨p',hp1,hp2⟩:=t3.has (k:=c) (ws:=[]) (by rw[if_pos rfl]);refine⟨_,rfl,A.o,A.d,qf A,_,rfl,t3.sub _ _ m3.ob,oY,_,rfl,nW t3.at_ hp1 ⟨eT hp2,_,rfl,_,hp2,eO (by simp),_,Sub.refl _,r _ ⟨hfp,_,_,?_,(t3.wr hp1).same (λj=>?_),?_⟩⟩⟩
  .rw[yO c x hf (by rw[hg];rfl)];exact m3
  .rw[wgp j]
   by_cases hj:c=j
   .rw[if_pos hj,if_pos hj];rfl
   .rw[if_neg hj,if_neg hj,if_neg hj]
  .have h1:=congrArg Dc (yO c x hf (by rw[hg];rfl));have h2:=yM kvs (cK c) (W.ref p);rw[Aa,Ah,Az,Bp,Eb,Aa]at h1;lia
theorem Y1{C:Cc}{ws:List W}{M:Mm}{R:K3}(h:IJ C ws M R):YW C (bR R) (bU YQ ws) M:=by
 obtain⟨M0,A,q,c,x,q',rfl,hq,ht,r⟩:=h;have hf:=hq.fall;have ⟨_,_,_,e0,hf',_,_,_,_⟩:=nV hf (λe=>by rw[e]at ht;cases ht);rw[ht]at e0;cases e0;obtain⟨M1,kvs,m1,t1,l1⟩:=hq.ex;obtain⟨r0,ys,e1,e2⟩:=IA hf ht;have hnl:∀e∈r0,e.1≠c:=by rw[e1]at hf;exact IC hf
 have hgw:wG q c=some (ys.map kC++[kC x]):=by
  show(aH q c).map _=_;rw[e1,uF hnl,if_pos rfl,Ky,Bb];rfl
 obtain⟨p,hp1,hp2⟩:=t1.has hgw;have hc:M A.c=some (.lst (((r0.map (·.1)).map cW)++[cW c])):=by rw[hq.co,e1];simp
 refine⟨_,rfl,A.o,A.d,qf A,_,rfl,hq.ob,oX,.inl ⟨_,_,hc,EI _ _,_,rfl,A.o,A.d,qf A,_,rfl,hq.ob,oY,_,rfl,nW t1.at_ hp1 ⟨_,rfl,eT hp2,⟨_,_,hp2,_,rfl,.inl ⟨_,aY,_,rfl,?_⟩⟩⟩⟩⟩;have t2:=t1.wr (ws:=ys.map kC) hp1;cases ys with
 | nil=>
  refine bC (λ_=>?_) λh=>nomatch (show true=false from h);have hm1:M1 A.c=some (.lst (((r0.map (·.1)).map cW)++[cW c])):=by rw[m1.co,e1];simp
  have m2:=m1.costs (cs':=r0.map (·.1));have t3:=t2.lift (p:=A.c) (o:=.lst ((r0.map (·.1)).map cW)) (.inr ⟨_,hm1⟩);have t4:=t3.del (k:=c) HV;refine⟨_,rfl,A.o,A.d,qf A,_,rfl,t2.sub _ _ m1.ob,oX,eT (t2.sub _ _ hm1),_,_,t2.sub _ _ hm1,_,rfl,A.o,A.d,qf A,_,rfl,t3.sub _ _ m2.ob,oY,qS t3.at_,_,rfl,_,cK c,_,t3.at_,rfl,hp1,?_⟩;refine⟨_,rfl,_,rfl,z2,_,Sub.refl _,r _ ⟨hf',_,_,?_,t4.same (λj=>?_),?_⟩⟩
  .rw[e2];exact m2
  .show(aH q' j).map _=_;rw[e2,if_pos (by rfl:([]:List (Nat×List Int)).isEmpty=true)]
   by_cases hj:c=j
   .subst hj;rw[if_pos rfl,yN hnl];rfl
   .rw[if_neg hj,if_neg hj];show _=(aH q j).map _;rw[e1,uF hnl,if_neg hj]
  .have h1:=HU (kvs:=kvs) (k:=cK c) (by rw[hp1];rfl);rw[e1,Ah,Bo]at l1;rw[e2,if_pos (by rfl:([]:List (Nat×List Int)).isEmpty=true)];lia
 | cons y ys=>
  refine bC (λh=>?_) λ_=>?_
  .have h:=of_decide_eq_true (show decide (((Jb kC (y::ys)).length:Int)=0)=true from h);rw[Bd,Az]at h;lia
  refine⟨_,rfl,_,rfl,z2,_,Sub.refl _,r _ ⟨hf',_,_,?_,t2.same (λj=>?_),?_⟩⟩
  .rw[e2,if_neg (by simp)];rw[e1]at m1;simpa using m1
  .show(aH q' j).map _=_;rw[e2,if_neg (by simp),uF hnl]
   by_cases hj:c=j
   .rw[if_pos hj,if_pos hj];rfl
   .rw[if_neg hj,if_neg hj];show _=(aH q j).map _;rw[e1,uF hnl,if_neg hj]
  .rw[e1]at l1;rw[e2,if_neg (by simp)];simpa using l1
def qT:bE:=λws M R=>∃rs:List a7,ws=[.rl (rs.map d9)]/\rs.length<=400/\a9 ((namesOf rs).map W.str) M R
def IK:bE:=λws M R=>∃(r:a7) (rs:List a7),ws=[.rl ((r::rs).map d9)]/\R (.str r.name) M
abbrev Y2:List Str:=["grammar","found","rule"]
def Y3:aG:=
   (bK 1 xK)
def Y4:aG:=
   (i6 (vC (.bl true)) (kZ (aA 1) (aD aV (aA 2) (vC (.int 0)))))
def Y5:aG:=
   (fD (dX eS (aA 0)) (bY 2) Y4)
def Y6:aG:=
   (bP (bX xH (aB (aA 1) aE)))
def Y7:aG:=(aR Y3 (aR Y5 Y6))
abbrev Y8:List Str:=["grammar"]
def Y9:aG:=
   (bP (aD aV (aD aV (aA 0) (vC (.int 0))) (vC (.int 0))))
end Rg
namespace L3
open PySem Spec PyProof.Rows L2
theorem zga{n:Bool}{i j:Str}{M:Mm}{R:K3}:L3.rIn n (.str i) (.str j) M R=R (.bl (if n then !occ i j else occ i j)) M:=rfl
theorem zgb{n:Bool}{i:Str}{ws:List W}{M:Mm}{R:K3}:L3.rIn n (.str i) (.rl ws) M R=(fS (.str i)=true/\ws.all fS=true/\R (.bl (if n then !inW (.str i) ws else inW (.str i) ws)) M):=rfl
end L3
namespace Rg
open PySem Spec PyProof.Rows L2 L3
theorem ZA{P Q:Prop}(h:P):if true=true then P else Q:=h
def fR(t:Str):aK×W:=(Sum.inr t,.bl true)
theorem yS(acc:List Str)(t:Str):cT (acc.map fR) (Sum.inr t:aK) (.bl true)=(fN acc t).map fR:=by
 unfold cT fN;have e:((acc.map fR).any λkv=>decide (kv.1=Sum.inr t))=decide (t∈acc):=by
  rw[List.any_map,Du];simp[fR,Lm]
 rw[e]
 by_cases h:t∈acc
 .rw[if_pos (decide_eq_true h),if_pos h,Cd];refine Ic λu hu=>?_;simp[fR,Lm]
 .rw[if_neg (by simpa using h),if_neg h,Bb];rfl
theorem iK{ws:List W}{M:Mm}{R:List W->(Mm->Prop)->Mm->Prop}(h:R ws (λ_=>True) M):eS (.rl ws) M R:=h
theorem ZC{ws:List W}{M:Mm}{R:K3}(h:qT ws M R):Y7 (bR R) (bU Y2 ws) M:=by
 obtain⟨rs,rfl,hl,r⟩:=h;refine λp hp=>⟨_,rfl,iK (nO (λi τ M'=>∃o,τ=[some (.rl (rs.map d9)),some (.ref p),o]/\M'=put M p (.dK ((namesOf (rs.take i)).map fR))) ⟨_,rfl,rfl⟩ (λ_ _ _ _ _=>trivial) ?_ ?_)⟩
 .rintro i w τ M' hw ⟨o,rfl,rfl⟩;rw[Ap]at hw;obtain⟨q,hq,rfl⟩:=Bh.mp hw;have hi:i<rs.length:=(Ai.mp hq).1;have e:namesOf (rs.take (i+1))=fN (namesOf (rs.take i)) q.name:=by
   rw[Fl,hq];unfold namesOf nT;simp
  have hlen:(namesOf (rs.take i)).length<=i:=by
   have:=tU ((rs.take i).map a7.name) [];unfold namesOf nT;simp at this;simp;lia
  refine⟨_,rfl,_,rfl,_,rfl,G4 aY (by rw[Aa];exact eO (by lia)) ⟨_,Sub.refl _,_,rfl,?_⟩⟩;rw[eW,yS,e]
 .rintro τ M' ⟨o,rfl,rfl⟩;rw[Aa,Ck];refine⟨_,rfl,.inr ⟨_,aY,λq hq=>?_⟩⟩;have hpq:q≠p:=λe=>by subst e;rw[aY]at hq;cases hq
  rw[aW hpq]at hq;refine⟨_,?_,r q hq⟩;rw[Cd];exact Sub.put (Sub.new hp)
theorem ZD{ws:List W}{M:Mm}{R:K3}(h:IK ws M R):Y9 (bR R) (bU Y8 ws) M:=by
 obtain⟨q,rs,rfl,r⟩:=h;exact⟨_,rfl,_,gZ (j:=0) rfl,_,rfl,_,Sub.refl _,r⟩
theorem nX{t:Str}{ts:List Str}:inW (.str t) (ts.map W.str)=decide (t∈ts):=by
 unfold inW;rw[List.any_map,Du,List.any_eq_true,decide_eq_true_eq];exact⟨λ⟨x,h,e⟩=>eq_of_beq (show(x==t)=true from e)▸h,λh=>⟨t,h,beq_self_eq_true t⟩⟩
theorem qU(ts:List Str):(ts.map W.str).all fS=true:=by
 rw[List.all_map,Ji];intro t _;rfl
def eK(k:Str×Int):List aK:=[Sum.inr k.1,Sum.inl k.2]
def jR(z:Int×aJ):W:=.tup [.int z.1,cW z.2]
def jS(y:cC):W:=.tup [.int y.1,gB y.2.1,cW y.2.2]
def lD(k:K4):List aK:=[Sum.inl k.1,Sum.inl k.2.1,Sum.inl k.2.2.1,Sum.inl k.2.2.2]
def fK(f:bD):List aK:=[Sum.inr f.1,Sum.inl f.2.1,Sum.inl f.2.2]
def fX(e:aJ×Nat×List Int):W:=.tup [cW e.1,.int e.2.1,gB e.2.2]
theorem uG:∀a b:Str×Int,eK a=eK b->a=b:=λa b h=>by
 unfold eK at h;simp only[Eu,Lo,Sum.inr.injEq,and_true]at h;exact Prod.ext h.1 h.2
theorem uH:∀a b:K4,lD a=lD b->a=b:=λa b h=>by
 unfold lD at h;simp only[Eu,Lo,and_true,Int.natCast_inj]at h;obtain⟨a1,a2,a3,a4⟩:=a;obtain⟨b1,b2,b3,b4⟩:=b;simp only at h;obtain⟨h1,h2,h3,h4⟩:=h;rw[h1,h2,h3,h4]
theorem lE:∀a b:bD,fK a=fK b->a=b:=λa b h=>by
 unfold fK at h;simp only[Eu,Lo,Sum.inr.injEq,and_true]at h;obtain⟨a1,a2,a3⟩:=a;obtain⟨b1,b2,b3⟩:=b;simp only at h;obtain⟨h1,h2,h3⟩:=h;rw[h1,h2,h3]
section
variable {U J:Type}[DecidableEq U]{kk:U->List aK}{f:J->W}
abbrev eM(kk:U->List aK)(f:J->W)(t:List (U×J)):List (List aK×W):=t.map λe=>(kk e.1,f e.2)
theorem kD(hkk:∀a b,kk a=kk b->a=b)(t:List (U×J))(k:U):bJ (eM kk f t) (kk k)=(aH t k).map f:=by
 induction t with
 | nil=>rfl
 | cons e t ih=>
  show bJ ((kk e.1,f e.2)::eM kk f t) (kk k)=_;rw[oW,eA,ih]
  by_cases h:e.1=k
  .rw[if_pos (by rw[h]),if_pos h];rfl
  .rw[if_neg (λz=>h (hkk _ _ z)),if_neg h]
theorem yU(hkk:∀a b,kk a=kk b->a=b)(t:List (U×J))(k:U)(v:J):cT (eM kk f t) (kk k) (f v)=eM kk f (c8 t k v):=by
 unfold cT c8;rw[show((eM kk f t).any λkv=>decide (kv.1=kk k))=(bJ (eM kk f t) (kk k)).isSome from mX _ _,kD hkk,mX];cases aH t k with
 | none=>simp
 | some w=>
  simp only[Ky,Option.isSome_some,if_true,Cd];apply Ic;intro e _;simp only[Lm]
  by_cases h:e.1=k
  .rw[if_pos (by rw[h]),if_pos h]
  .rw[if_neg (λz=>h (hkk _ _ z)),if_neg h]
end
structure Env where
 rs:List a7
 own:List (aK×W)
 stp:List (List aK×W)
structure Ad where
 s:Addr
 d:Addr
 Q:Aq
 r:Addr
 b:Addr
 e:Addr
 g:Addr
def sf(E:Env)(A:Ad):List (Str×W):=[("grammar",(cM E.rs)),("own",(.dk E.own)),("steps",(.dt E.stp)),("queue",(.ref A.Q.o)),("reached",(.ref A.r)),("best",(.ref A.b)),("ends",(.ref A.e)),("begun",(.ref A.g))]
theorem IL{E:Env}{A:Ad}:Bx ("grammar" : Str) (sf E A)=some (cM E.rs):=by kernel_rfl
theorem ZE{E:Env}{A:Ad}:Bx ("own" : Str) (sf E A)=some (W.dk E.own):=by kernel_rfl
theorem ZF{E:Env}{A:Ad}:Bx ("steps" : Str) (sf E A)=some (W.dt E.stp):=by kernel_rfl
theorem yV{E:Env}{A:Ad}:Bx ("queue" : Str) (sf E A)=some (W.ref A.Q.o):=by kernel_rfl
theorem uI{E:Env}{A:Ad}:Bx ("reached" : Str) (sf E A)=some (W.ref A.r):=by kernel_rfl
theorem yW{E:Env}{A:Ad}:Bx ("best" : Str) (sf E A)=some (W.ref A.b):=by kernel_rfl
theorem IM{E:Env}{A:Ad}:Bx ("ends" : Str) (sf E A)=some (W.ref A.e):=by kernel_rfl
theorem IP{E:Env}{A:Ad}:Bx ("begun" : Str) (sf E A)=some (W.ref A.g):=by kernel_rfl
theorem uJ{E:Env}{A:Ad}:Bx ("reach" : Str) (sf E A)=none:=by kernel_rfl
theorem ZG{E:Env}{A:Ad}:Bx ("take_next" : Str) (sf E A)=none:=by kernel_rfl
theorem ZH{E:Env}{A:Ad}:Bx ("step_by_name" : Str) (sf E A)=none:=by kernel_rfl
theorem ZI{E:Env}{A:Ad}:Bx ("settle" : Str) (sf E A)=none:=by kernel_rfl
structure Mn(C:Cc)(E:Env)(M0 M:Mm)(A:Ad)(rc:List (K4×aJ))(bs:bM):Prop where
 sub:L3.Sub M0 M
 ns:M0 A.s=none
 nr:M0 A.r=none
 nb:M0 A.b=none
 sr:A.s≠A.r
 sb:A.s≠A.b
 rb:A.r≠A.b
 os:M A.s=some (.ins C.s A.d (sf E A))
 or:M A.r=some (.dT (eM lD cW rc))
 ob:M A.b=some (.dT (eM fK fX bs))
abbrev eG(t:List ((Str×Int)×List (Int×aJ))):Str×Int->Option (List W):=λk=>(aH t k).map λxs=>xs.map jR
abbrev gG(t:List ((Str×Int)×List cC)):Str×Int->Option (List W):=λk=>(aH t k).map λxs=>xs.map jS
def Kept(M:Mm):Option (Addr×List W)->Prop
 | none=>True
 | some x=>M x.1=some (.lst x.2)
structure SK(C:Cc)(E:Env)(M0 M:Mm)(A:Ad)(st:SS)(kp:Option (Addr×List W)):Prop where
 ex:∃M1 M2 M3 e g,Mn C E M0 M1 A st.reached st.best/\eP eK M1 M2 A.e e (eG st.ends)/\eP eK M2 M3 A.g g (gG st.begun)/\QR C M3 M A.Q st.q/\e.length<=st.ends.length/\g.length<=st.begun.length/\Kept M3 kp
abbrev SR(C:Cc)(E:Env)(M0 M:Mm)(A:Ad)(st:SS):Prop:=SK C E M0 M A st none
section
variable {C:Cc}{E:Env}{M0 M:Mm}{A:Ad}{st:SS}{kp:Option (Addr×List W)}
theorem SK.os(h:SK C E M0 M A st kp):M A.s=some (.ins C.s A.d (sf E A)):=by
 obtain⟨M1,M2,M3,e,g,h1,h2,h3,h4,_⟩:=h.ex;exact h4.sub _ _ (h3.sub _ _ (h2.sub _ _ h1.os))
theorem SK.or(h:SK C E M0 M A st kp):M A.r=some (.dT (eM lD cW st.reached)):=by
 obtain⟨M1,M2,M3,e,g,h1,h2,h3,h4,_⟩:=h.ex;exact h4.sub _ _ (h3.sub _ _ (h2.sub _ _ h1.or))
theorem SK.ob(h:SK C E M0 M A st kp):M A.b=some (.dT (eM fK fX st.best)):=by
 obtain⟨M1,M2,M3,e,g,h1,h2,h3,h4,_⟩:=h.ex;exact h4.sub _ _ (h3.sub _ _ (h2.sub _ _ h1.ob))
theorem SK.fall(h:SK C E M0 M A st kp):iA st.q:=by
 obtain⟨M1,M2,M3,e,g,h1,h2,h3,h4,_⟩:=h.ex;exact h4.fall
theorem SK.free(h:SK C E M0 M A st kp):SR C E M0 M A st:=by
 obtain⟨M1,M2,M3,e,g,h1,h2,h3,h4,h5,h6,_⟩:=h.ex;exact⟨M1,M2,M3,e,g,h1,h2,h3,h4,h5,h6,trivial⟩
theorem SK.kept{p:Addr}{ws:List W}(h:SK C E M0 M A st (some (p,ws))):M p=some (.lst ws):=by
 obtain⟨M1,M2,M3,e,g,h1,h2,h3,h4,h5,h6,h7⟩:=h.ex;exact h4.sub _ _ h7
theorem Mn.rput{M1:Mm}{rc:List (K4×aJ)}{bs:bM}(h:Mn C E M0 M1 A rc bs)(rc':List (K4×aJ)):Mn C E M0 (put M1 A.r (.dT (eM lD cW rc'))) A rc' bs:=
 ⟨gV h.sub h.nr,h.ns,h.nr,h.nb,h.sr,h.sb,h.rb,by rw[aW h.sr];exact h.os,aY,by rw[aW (Bt h.rb)];exact h.ob⟩
theorem Mn.bput{M1:Mm}{rc:List (K4×aJ)}{bs:bM}(h:Mn C E M0 M1 A rc bs)(bs':bM):Mn C E M0 (put M1 A.b (.dT (eM fK fX bs'))) A rc bs':=
 ⟨gV h.sub h.nb,h.ns,h.nr,h.nb,h.sr,h.sb,h.rb,by rw[aW h.sb];exact h.os,by rw[aW h.rb];exact h.or,aY⟩
theorem SK.rput(h:SK C E M0 M A st kp)(rc':List (K4×aJ)):SK C E M0 (put M A.r (.dT (eM lD cW rc'))) A {st with reached:=rc'} kp:=by
 obtain⟨M1,M2,M3,e,g,h1,h2,h3,h4,h5,h6,h7⟩:=h.ex;have k2:=h2.sub _ _ h1.or;have k3:=h3.sub _ _ k2;refine⟨_,_,_,e,g,h1.rput rc',h2.lift (.inr ⟨_,h1.or⟩),h3.lift (.inr ⟨_,k2⟩),h4.lift (.inr ⟨_,k3⟩),h5,h6,?_⟩;cases kp with
 | none=>trivial
 | some x=>
  have h7:M3 x.1=some (.lst x.2):=h7;show put M3 A.r _ x.1=some (.lst x.2);rw[aW (λz=>by rw[z,k3]at h7;cases h7)];exact h7
theorem SK.bput(h:SR C E M0 M A st)(bs':bM):SR C E M0 (put M A.b (.dT (eM fK fX bs'))) A {st with best:=bs'}:=by
 obtain⟨M1,M2,M3,e,g,h1,h2,h3,h4,h5,h6,h7⟩:=h.ex;have k2:=h2.sub _ _ h1.ob;have k3:=h3.sub _ _ k2;exact⟨_,_,_,e,g,h1.bput bs',h2.lift (.inr ⟨_,h1.ob⟩),h3.lift (.inr ⟨_,k2⟩),h4.lift (.inr ⟨_,k3⟩),h5,h6,trivial⟩
theorem SK.que(h:SK C E M0 M A st kp):∃M3,QR C M3 M A.Q st.q/\∀M' q',QR C M3 M' A.Q q'->SK C E M0 M' A {st with q:=q'} kp:=by
 obtain⟨M1,M2,M3,e,g,h1,h2,h3,h4,h5,h6,h7⟩:=h.ex;exact⟨M3,h4,λM' q' hq=>⟨M1,M2,M3,e,g,h1,h2,h3,hq,h5,h6,h7⟩⟩
theorem IQ{U J:Type}[DecidableEq U]{t:List (U×J)}{k:U}{v:J}(h:(aH t k).isSome=true):(c8 t k v).length=t.length:=by
 unfold c8;rw[mX,if_pos h,Aa]
theorem uK{U J:Type}[DecidableEq U]{t:List (U×J)}{k:U}{v:J}(h:aH t k=none):c8 t k v=t++[(k,v)]:=by
 unfold c8;rw[mX,h,if_neg (by simp)]
theorem uL{γ:Type}(f:γ->W)(t:List ((Str×Int)×List γ))(k:Str×Int)(z:γ)(j:Str×Int):((aH (fF t k z) j).map λxs=>xs.map f)=if k=j then some (((aH t k).getD []).map f++[f z]) else(aH t j).map λxs=>xs.map f:=by
 unfold fF;rw[k9]
 by_cases h:k=j
 .rw[if_pos h,if_pos h,Ky,Bb];rfl
 .rw[if_neg h,if_neg h]
theorem SK.epush(h:SR C E M0 M A st){k:Str×Int}{z:Int×aJ}{R:K3}(hn:st.ends.length<10000000)(hl:((aH st.ends k).getD []).length<10000000)(r:∀M',SR C E M0 M' A {st with ends:=fF st.ends k z}->R .non M'):
  ∃kvs,M A.e=some (.dT kvs)/\kvs.length<Am/\∀p,M p=none->put M p (.lst []) A.e=some (.dT kvs)/\(∀w,bJ kvs (eK k)=some w->lP "list" w (put M p (.lst []))/\eZ w [jR z] (put M p (.lst [])) R)/\
   (bJ kvs (eK k)=none->lP "list" (.ref p) (put (put M p (.lst [])) A.e (.dT (cT kvs (eK k) (.ref p))))/\eZ (.ref p) [jR z] (put (put M p (.lst [])) A.e (.dT (cT kvs (eK k) (.ref p)))) R):=by
 obtain⟨M1,M2,M3,e,g,h1,h2,h3,h4,h5,h6,h7⟩:=h.ex;have ha:M A.e=some (.dT e):=h4.sub _ _ (h3.sub _ _ h2.at_);refine⟨e,ha,eO (by lia),λp hp=>⟨by rw[aW (λz=>by rw[<-z,ha]at hp;cases hp)];exact ha,λw hw=>?_,λhw=>?_⟩⟩
 .obtain⟨xs,hx⟩:∃xs,aH st.ends k=some xs:=by
   cases q:aH st.ends k with
   | none=>have:=h2.non k (by show(aH _ _).map _=_;rw[q];rfl);rw[hw]at this;cases this
   | some xs=>exact⟨_,rfl⟩
  have hxw:eG st.ends k=some (xs.map jR):=by show(aH _ _).map _=_;rw[hx];rfl
  obtain⟨p',hp1,hp2⟩:=h2.has hxw;rw[hw]at hp1;cases hp1;have k3:=h3.sub _ _ hp2;have h4':=h4.more (o:=.lst []) hp;have k4:=h4'.sub _ _ k3;rw[hx]at hl;refine⟨eT k4,_,k4,eO (by rw[Aa];exact hl),r _ ⟨_,_,_,e,g,h1,(h2.wr (ws:=xs.map jR++[jR z]) hw).same λj=>?_,h3.lift (.inr ⟨_,hp2⟩),h4'.lift (.inr ⟨_,k3⟩),?_,h6,trivial⟩⟩
  .refine(uL _ _ k z j).trans ?_;rw[hx];rfl
  .show _<=(c8 _ _ _).length;rw[IQ (by rw[hx];rfl)];exact h5
 .have hx:aH st.ends k=none:=by
   cases q:aH st.ends k with
   | none=>rfl
   | some xs=>obtain⟨p',hp1,_⟩:=h2.has (k:=k) (ws:=xs.map jR) (by show(aH _ _).map _=_;rw[q];rfl);rw[hw]at hp1;cases hp1
  have hxw:eG st.ends k=none:=by show(aH _ _).map _=_;rw[hx];rfl
  have p3:=h4.sub.non hp;have p2:=h3.sub.non p3;have t2:=h2.add uG (ws:=[]) hxw p2;have hpa:p≠A.e:=λz=>by rw[z,ha]at hp;cases hp
  have t3:=(h3.lift (o:=.lst []) (.inl p3)).lift (p:=A.e) (o:=.dT (cT e (eK k) (.ref p))) (.inr ⟨.dT e,by rw[aW (Bt hpa)];exact h2.at_⟩);have t4:=(h4.lift (o:=.lst []) (.inl hp)).lift (p:=A.e) (o:=.dT (cT e (eK k) (.ref p))) (.inr ⟨.dT e,by rw[aW (Bt hpa)];exact h3.sub _ _ h2.at_⟩);have lp:bJ (cT e (eK k) (.ref p)) (eK k)=some (.ref p):=by rw[oV,if_pos rfl]
  have g2:put (put M2 p (.lst [])) A.e (.dT (cT e (eK k) (.ref p))) p=some (.lst []):=by rw[aW hpa,aY]
  have k3:=t3.sub _ _ g2;have k4:=t4.sub _ _ k3;refine⟨eT k4,_,k4,eO (by simp),r _ ⟨_,_,_,_,g,h1,(t2.wr (ws:=[jR z]) lp).same λj=>?_,t3.lift (.inr ⟨_,g2⟩),t4.lift (.inr ⟨_,k3⟩),?_,h6,trivial⟩⟩
  .refine(uL _ _ k z j).trans ?_;rw[hx]
   by_cases hj:k=j
   .rw[if_pos hj,if_pos hj];rfl
   .rw[if_neg hj,if_neg hj,if_neg hj]
  .show _<=(c8 _ _ _).length;rw[uK hx,Ah,Bo];have:=yM e (eK k) (W.ref p);lia
theorem SK.gpush(h:SR C E M0 M A st){k:Str×Int}{z:cC}{R:K3}(hn:st.begun.length<10000000)(hl:((aH st.begun k).getD []).length<10000000)(r:∀M',SR C E M0 M' A {st with begun:=fF st.begun k z}->R .non M'):
  ∃kvs,M A.g=some (.dT kvs)/\kvs.length<Am/\∀p,M p=none->put M p (.lst []) A.g=some (.dT kvs)/\(∀w,bJ kvs (eK k)=some w->lP "list" w (put M p (.lst []))/\eZ w [jS z] (put M p (.lst [])) R)/\
   (bJ kvs (eK k)=none->lP "list" (.ref p) (put (put M p (.lst [])) A.g (.dT (cT kvs (eK k) (.ref p))))/\eZ (.ref p) [jS z] (put (put M p (.lst [])) A.g (.dT (cT kvs (eK k) (.ref p)))) R):=by
 obtain⟨M1,M2,M3,e,g,h1,h2,h3,h4,h5,h6,h7⟩:=h.ex;have ha:M A.g=some (.dT g):=h4.sub _ _ h3.at_;refine⟨g,ha,eO (by lia),λp hp=>⟨by rw[aW (λz=>by rw[<-z,ha]at hp;cases hp)];exact ha,λw hw=>?_,λhw=>?_⟩⟩
 .obtain⟨xs,hx⟩:∃xs,aH st.begun k=some xs:=by
   cases q:aH st.begun k with
   | none=>have:=h3.non k (by show(aH _ _).map _=_;rw[q];rfl);rw[hw]at this;cases this
   | some xs=>exact⟨_,rfl⟩
  have hxw:gG st.begun k=some (xs.map jS):=by show(aH _ _).map _=_;rw[hx];rfl
  obtain⟨p',hp1,hp2⟩:=h3.has hxw;rw[hw]at hp1;cases hp1;have h4':=h4.more (o:=.lst []) hp;have k4:=h4'.sub _ _ hp2;rw[hx]at hl;refine⟨eT k4,_,k4,eO (by rw[Aa];exact hl),r _ ⟨_,_,_,e,g,h1,h2,(h3.wr (ws:=xs.map jS++[jS z]) hw).same λj=>?_,h4'.lift (.inr ⟨_,hp2⟩),h5,?_,trivial⟩⟩
  .refine(uL _ _ k z j).trans ?_;rw[hx];rfl
  .show _<=(c8 _ _ _).length;rw[IQ (by rw[hx];rfl)];exact h6
 .have hx:aH st.begun k=none:=by
   cases q:aH st.begun k with
   | none=>rfl
   | some xs=>obtain⟨p',hp1,_⟩:=h3.has (k:=k) (ws:=xs.map jS) (by show(aH _ _).map _=_;rw[q];rfl);rw[hw]at hp1;cases hp1
  have hxw:gG st.begun k=none:=by show(aH _ _).map _=_;rw[hx];rfl
  have p3:=h4.sub.non hp;have t3:=h3.add uG (ws:=[]) hxw p3;have hpa:p≠A.g:=λz=>by rw[z,ha]at hp;cases hp
  have t4:=(h4.lift (o:=.lst []) (.inl hp)).lift (p:=A.g) (o:=.dT (cT g (eK k) (.ref p))) (.inr ⟨.dT g,by rw[aW (Bt hpa)];exact h3.at_⟩);have lp:bJ (cT g (eK k) (.ref p)) (eK k)=some (.ref p):=by rw[oV,if_pos rfl]
  have g2:put (put M3 p (.lst [])) A.g (.dT (cT g (eK k) (.ref p))) p=some (.lst []):=by rw[aW hpa,aY]
  have k4:=t4.sub _ _ g2;refine⟨eT k4,_,k4,eO (by simp),r _ ⟨_,_,_,e,_,h1,h2,(t3.wr (ws:=[jS z]) lp).same λj=>?_,t4.lift (.inr ⟨_,g2⟩),h5,?_,trivial⟩⟩
  .refine(uL _ _ k z j).trans ?_;rw[hx]
   by_cases hj:k=j
   .rw[if_pos hj,if_pos hj];rfl
   .rw[if_neg hj,if_neg hj,if_neg hj]
  .show _<=(c8 _ _ _).length;rw[uK hx,Ah,Bo];have:=yM g (eK k) (W.ref p);lia
theorem SK.ends_at(h:SR C E M0 M A st)(k:Str×Int):∃kvs,M A.e=some (.dT kvs)/\((bJ kvs (eK k)=none/\aH st.ends k=none)\/∃p xs,bJ kvs (eK k)=some (.ref p)/\aH st.ends k=some xs/\SK C E M0 M A st (some (p,xs.map jR))):=by
 obtain⟨M1,M2,M3,e,g,h1,h2,h3,h4,h5,h6,h7⟩:=h.ex;refine⟨e,h4.sub _ _ (h3.sub _ _ h2.at_),?_⟩;cases q:aH st.ends k with
 | none=>exact .inl ⟨h2.non k (by show(aH _ _).map _=_;rw[q];rfl),rfl⟩
 | some xs=>
  obtain⟨p,hp1,hp2⟩:=h2.has (k:=k) (ws:=xs.map jR) (by show(aH _ _).map _=_;rw[q];rfl);exact .inr ⟨p,xs,hp1,rfl,M1,M2,M3,e,g,h1,h2,h3,h4,h5,h6,h3.sub _ _ hp2⟩
theorem SK.begun_at(h:SR C E M0 M A st)(k:Str×Int):∃kvs,M A.g=some (.dT kvs)/\((bJ kvs (eK k)=none/\aH st.begun k=none)\/∃p xs,bJ kvs (eK k)=some (.ref p)/\aH st.begun k=some xs/\SK C E M0 M A st (some (p,xs.map jS))):=by
 obtain⟨M1,M2,M3,e,g,h1,h2,h3,h4,h5,h6,h7⟩:=h.ex;refine⟨g,h4.sub _ _ h3.at_,?_⟩;cases q:aH st.begun k with
 | none=>exact .inl ⟨h3.non k (by show(aH _ _).map _=_;rw[q];rfl),rfl⟩
 | some xs=>
  obtain⟨p,hp1,hp2⟩:=h3.has (k:=k) (ws:=xs.map jS) (by show(aH _ _).map _=_;rw[q];rfl);exact .inr ⟨p,xs,hp1,rfl,M1,M2,M3,e,g,h1,h2,h3,h4,h5,h6,hp2⟩
theorem SK.eput(h:SR C E M0 M A st){nm:Str}{b:Int}{z:Int×aJ}{R:K3}{τ:S3}{tk:aZ}{t:dS}(e0:τ[0]? = some (some (.ref A.s)))(ek:∀M1 Q,Q (W.tup [.str nm,.int b]) M1->tk τ M1 Q)(et:∀M1 Q,Q [jR z] M1->t τ M1 Q)(hn:st.ends.length<10000000)(hl:((aH st.ends (nm,b)).getD []).length<10000000)(r:∀M',SR C E M0 M' A {st with ends:=fF st.ends (nm,b) z}->R .non M'):
  dU "list" eZ (dU "dict" qR (dB C.s (aA 0) "ends") (aB tk (aB (hZ aE) aE))) t τ M R:=by
 obtain⟨kvs,h1,h2,h3⟩:=h.epush hn hl r;refine⟨_,e0,A.s,A.d,_,_,rfl,h.os,IM,qS h1,ek _ _ ⟨Bz _,λp hp=>?_⟩⟩;obtain⟨h4,h5,h6⟩:=h3 p hp;exact⟨kvs,eK (nm,b),h4,rfl,h2,λw hw=>⟨(h5 w hw).1,et _ _ (h5 w hw).2⟩,λhn=>⟨(h6 hn).1,et _ _ (h6 hn).2⟩⟩
theorem SK.gput(h:SR C E M0 M A st){nm:Str}{b:Int}{z:cC}{R:K3}{τ:S3}{tk:aZ}{t:dS}(e0:τ[0]? = some (some (.ref A.s)))(ek:∀M1 Q,Q (W.tup [.str nm,.int b]) M1->tk τ M1 Q)(et:∀M1 Q,Q [jS z] M1->t τ M1 Q)(hn:st.begun.length<10000000)(hl:((aH st.begun (nm,b)).getD []).length<10000000)(r:∀M',SR C E M0 M' A {st with begun:=fF st.begun (nm,b) z}->R .non M'):
  dU "list" eZ (dU "dict" qR (dB C.s (aA 0) "begun") (aB tk (aB (hZ aE) aE))) t τ M R:=by
 obtain⟨kvs,h1,h2,h3⟩:=h.gpush hn hl r;refine⟨_,e0,A.s,A.d,_,_,rfl,h.os,IP,qS h1,ek _ _ ⟨Bz _,λp hp=>?_⟩⟩;obtain⟨h4,h5,h6⟩:=h3 p hp;exact⟨kvs,eK (nm,b),h4,rfl,h2,λw hw=>⟨(h5 w hw).1,et _ _ (h5 w hw).2⟩,λhn=>⟨(h6 hn).1,et _ _ (h6 hn).2⟩⟩
end
def qV:bE:=λws M R=>∃ts:List Str,ws=[.rl (ts.map W.str)]/\ts.length<=400/\R (.dk ((ts.foldl fN []).map fR)) M
def ownOf(rs:List a7):List (aK×W):=((namesOf rs).foldl fN []).map fR
def yX:bE:=λws M R=>∃a b:aJ,ws=[cW a,cW b]/\R (cW (eL a b)) M
structure Sm(st:SS)(k:Nat):Prop where
 q:(bB st.q).length+k<10000000
 r:st.reached.length+k<10000000
def qW(C:Cc):bE:=λws M R=>∃(E:Env) (M0:Mm) (A:Ad) (st:SS) (n:Nat) (cut:List Int) (c:aJ) (kp:Option (Addr×List W)),ws=[.ref A.s,.int n,gB cut,cW c]/\SK C E M0 M A st kp/\cut≠[]/\Sm st 1/\∀M',SK C E M0 M' A (reach st n cut c) kp->R .non M'
def IS(C:Cc):bE:=λws M R=>∃(E:Env) (M0:Mm) (A:Ad) (st:SS) (n:Nat) (cut:List Int) (c:aJ) (part:Str),ws=[.ref A.s,.int n,gB cut,cW c,.tup [.str part,.int (cut.getLastD 0)]]/\SR C E M0 M A st/\cut≠[]/\cut.length<1000/\Sm st ((aH st.ends (part,cut.getLastD 0)).getD []).length/\st.begun.length<10000000/\((aH st.begun (part,cut.getLastD 0)).getD []).length<10000000/\∀M',SR C E M0 M' A (fW st n cut c part)->R .non M'
def IT(C:Cc):bE:=λws M R=>∃(G:Sr) (E:Env) (M0:Mm) (A:Ad) (st:SS) (n:Nat) (cut:List Int) (c:aJ),ws=[.ref A.s,.int n,gB cut,cW c]/\SR C E M0 M A st/\G.rs=E.rs/\n<E.rs.length/\cut≠[]/\(∀key,∀y∈(aH st.begun key).getD [],y.2.1.length<1000/\y.2.1≠[])/\Sm st ((aH st.begun (dG G n,cut.headD 0)).getD []).length/\st.best.length<10000000/\st.ends.length<10000000/\((aH st.ends (dG G n,cut.headD 0)).getD []).length<10000000/\∀M',SR C E M0 M' A (settle G st n cut c)->R .non M'
structure IU(G:Sr)(E:Env):Prop where
 rs:G.rs=E.rs
 own:∀t,(bJ E.own (Sum.inr t:aK)).isSome=G.own t
 stp:∀t p,(bJ E.stp (eK (t,p))=none/\G.steps t p=[])\/bJ E.stp (eK (t,p))=some (.rl ((G.steps t p).map λz=>.tup [.int z.1,.int z.2]))
structure Rm(G:Sr)(st:SS):Prop where
 item:∀c n cut q',iI st.q=some (c,(n,cut),q')->cut≠[]/\cut.length<1000/\n<G.rs.length/\∃d,aH st.reached (bT n cut)=some d
 bg:∀key,∀y∈(aH st.begun key).getD [],y.2.1.length<1000/\y.2.1≠[]
 b:st.best.length<10000000
 e:st.ends.length<10000000
 g:st.begun.length<10000000
 el:∀key,((aH st.ends key).getD []).length<10000000/\Sm st ((aH st.ends key).getD []).length
 gl:∀key,((aH st.begun key).getD []).length<10000000/\Sm st ((aH st.begun key).getD []).length
 sl:∀t p,Sm st (G.steps t p).length
def IV(C:Cc):bE:=λws M R=>∃(G:Sr) (E:Env) (M0:Mm) (A:Ad) (st:SS),ws=[.ref A.s]/\SR C E M0 M A st/\IU G E/\st.q≠[]/\Rm G st/\∀M',SR C E M0 M' A (lW G st)->R .non M'
def IW(C:Cc):bE:=λws M R=>∃(M0:Mm) (s dx:Addr) (rs:List a7) (stp:List (List aK×W)),ws=[.ref s,cM rs,.dt stp]/\rs.length<=100/\M=put M0 s (.ins C.s dx [])/\M0 s=none/\∀M' (A:Ad),A.s=s->SR C ⟨rs,ownOf rs,stp⟩ M0 M' A gU->R .non M'
def yY(G:Sr):Nat->SS
 | 0=>lA G
 | n+1=>lW G (yY G n)
def fG(G:Sr)(B:bM):Prop:=∃(S I0:Nat) (st:SS) (P:List cC) (cur:aJ) (T:Nat),All G S I0 st P cur T/\st.q=[]/\st.best=B/\st=yY G T
def IX(C:Cc):bE:=λws M R=>∃(G:Sr) (E:Env) (V:List Int) (L S:Nat),ws=[cM E.rs,.rl (G.places.map W.int),.dt E.stp,.rl ((Cv G.rs.length).map λn=>.int (G.wt n))]/\E.rs.length<=100/\E.own=ownOf E.rs/\IU G E/\oU G/\qN G V G.rs.length L/\L<1000/\G.places.length<=1000/\(∀t p,(G.steps t p).length<=S)/\
 (kA G).length+G.rs.length*((L+1)*(V.length*V.length))*(S+V.length)+G.rs.length*((L+1)*(V.length*V.length))+V.length+S+1<10000000/\∀B,fG G B->lN (eM fK fX B) M R
abbrev ZJ:List Str:=["things"]
def ZK:aG:=
   (bP (bX HH (aB (dN (h9 (dX eS (aA 0)) (bY 0) k7 (cB (aB (aA 0) (aB (vC (.bl true)) aE))) [none])) aE)))
abbrev ZL:List Str:=["cost","other"]
def ZM:aG:=
   (bP (cB (aB (aD dY (aD aV (aA 0) (vC (.int 0))) (aD aV (aA 1) (vC (.int 0)))) (aB (aD dY (aD aV (aA 0) (vC (.int 1))) (aD aV (aA 1) (vC (.int 1)))) aE))))
abbrev ZN:List Str:=["self","grammar","steps"]
def ZO(C:Cc):aG:=
   (kB C.s (aA 0) "grammar" (aA 1))
def ZP(C:Cc):aG:=
   (kB C.s (aA 0) "own" (bS qV (aB (dN (bS qT (aB (aA 1) aE))) aE)))
def ZQ(C:Cc):aG:=
   (kB C.s (aA 0) "steps" (aA 2))
def IY(C:Cc):aG:=
   (kB C.s (aA 0) "queue" (uA C.q (IF C) aE))
def ZR(C:Cc):aG:=
   (kB C.s (aA 0) "reached" mS)
def ZS(C:Cc):aG:=
   (kB C.s (aA 0) "best" mS)
def ZT(C:Cc):aG:=
   (kB C.s (aA 0) "ends" mS)
def ZU(C:Cc):aG:=
   (kB C.s (aA 0) "begun" mS)
def ZV(C:Cc):aG:=(aR (ZO C) (aR (ZP C) (aR (ZQ C) (aR (IY C) (aR (ZR C) (aR (ZS C) (aR (ZT C) (ZU C))))))))
abbrev ZW:List Str:=["self","number","cut","cost","key"]
def ZX(C:Cc):aG:=
   (aR (bK 4 (cB (aB (aA 1) (aB (bX cY (aB (aA 2) aE)) (aB (aD aV (aA 2) (vC (.int 0))) (aB (aD aV (aA 2) (jX jZ (vC (.int 1)))) aE))))))
   (cQ (gP (bV (aD (rIn true) (aA 4) (dB C.s (aA 0) "reached"))) (bV (aD yL (aA 3) (aD aV (dB C.s (aA 0) "reached") (aA 4)))))
    (aR (i6 (aA 3) (kZ (dB C.s (aA 0) "reached") (aA 4)))
   (dW (iJ C.q "put" (yQ C) (dB C.s (aA 0) "queue") (aB (aA 3) (aB (cB (aB (aA 1) (aB (aA 2) aE))) aE)))))
    c7))
abbrev ZY:List Str:=["self","taken","cost","number","cut","parts","end","price"]
def ZZ(C:Cc):aG:=
   (bK 1 (iJ C.q "take" (IJ C) (dB C.s (aA 0) "queue") aE))
def Z0(C:Cc):aG:=
   (bK 2 (aD aV (aA 1) (vC (.int 0))))
def Z1(C:Cc):aG:=
   (bK 3 (aD aV (aD aV (aA 1) (vC (.int 1))) (vC (.int 0))))
def Z2(C:Cc):aG:=
   (bK 4 (aD aV (aD aV (aA 1) (vC (.int 1))) (vC (.int 1))))
def Z3(C:Cc):aG:=
   (cQ (bV (aD yL (aD aV (dB C.s (aA 0) "reached") (cB (aB (aA 3) (aB (bX cY (aB (aA 4) aE)) (aB (aD aV (aA 4) (vC (.int 0))) (aB (aD aV (aA 4) (jX jZ (vC (.int 1)))) aE)))))) (aA 2)))
    xM
    c7)
def Z4(C:Cc):aG:=
   (bK 5 (aD aV (aD aV (dB C.s (aA 0) "grammar") (aA 3)) (vC (.int 1))))
def Z5(C:Cc):aG:=
   (cQ (bV (aD FX (bX cY (aB (aA 4) aE)) (bX cY (aB (aA 5) aE))))
    (dW (iJ C.s "settle" (IT C) (aA 0) (aB (aA 3) (aB (aA 4) (aB (aA 2) aE)))))
    (cQ (bV (aD (rIn false) (aD aV (aA 5) (aD nM (bX cY (aB (aA 4) aE)) (vC (.int 1)))) (dB C.s (aA 0) "own")))
    (dW (iJ C.s "step_by_name" (IS C) (aA 0) (aB (aA 3) (aB (aA 4) (aB (aA 2) (aB (cB (aB (aD aV (aA 5) (aD nM (bX cY (aB (aA 4) aE)) (vC (.int 1)))) (aB (aD aV (aA 4) (jX jZ (vC (.int 1)))) aE))) aE))))))
    (fD (dX nQ (dU "dict" uB (dB C.s (aA 0) "steps") (aB (cB (aB (aD aV (aA 5) (aD nM (bX cY (aB (aA 4) aE)) (vC (.int 1)))) (aB (aD aV (aA 4) (jX jZ (vC (.int 1)))) aE))) (aB (gJ aE) aE)))) (j3 2 (e7 (bY 6) (e7 (bY 7) j0)))
    (dW (iJ C.s "reach" (qW C) (aA 0) (aB (aA 3) (aB (aD dY (aA 4) (cB (aB (aA 6) aE))) (aB (cB (aB (aD dY (aD aV (aA 2) (vC (.int 0))) (aA 7)) (aB (aD aV (aA 2) (vC (.int 1))) aE))) aE))))))))
def Z6(C:Cc):aG:=(aR (ZZ C) (aR (Z0 C) (aR (Z1 C) (aR (Z2 C) (aR (Z3 C) (aR (Z4 C) (Z5 C)))))))
abbrev Z7:List Str:=["self","number","cut","cost","key","end","more"]
def Z8(C:Cc):aG:=
   (aR (dW (dU "list" eZ (dU "dict" qR (dB C.s (aA 0) "begun") (aB (aA 4) (aB (hZ aE) aE))) (aB (cB (aB (aA 1) (aB (aA 2) (aB (aA 3) aE)))) aE)))
   (fD (dX nQ (dU "dict" uB (dB C.s (aA 0) "ends") (aB (aA 4) (aB (gJ aE) aE)))) (j3 2 (e7 (bY 5) (e7 (bY 6) j0)))
    (dW (iJ C.s "reach" (qW C) (aA 0) (aB (aA 1) (aB (aD dY (aA 2) (cB (aB (aA 5) aE))) (aB (bS yX (aB (aA 3) (aB (aA 6) aE))) aE)))))))
abbrev Z9:List Str:=["self","number","cut","cost","key","fact","other","before","paid"]
def zaa(C:Cc):aG:=
   (bK 4 (cB (aB (aD aV (aD aV (dB C.s (aA 0) "grammar") (aA 1)) (vC (.int 0))) (aB (aD aV (aA 2) (vC (.int 0))) aE))))
def zab(C:Cc):aG:=
   (bK 5 (aD dY (aA 4) (cB (aB (aD aV (aA 2) (jX jZ (vC (.int 1)))) aE))))
def zac(C:Cc):aG:=
   (cQ (bV (aD (rIn false) (aA 5) (dB C.s (aA 0) "best")))
    xM
    c7)
def zad(C:Cc):aG:=
   (i6 (cB (aB (aA 3) (aB (aA 1) (aB (aA 2) aE)))) (kZ (dB C.s (aA 0) "best") (aA 5)))
def zae(C:Cc):aG:=
   (dW (dU "list" eZ (dU "dict" qR (dB C.s (aA 0) "ends") (aB (aA 4) (aB (hZ aE) aE))) (aB (cB (aB (aD aV (aA 2) (jX jZ (vC (.int 1)))) (aB (aA 3) aE))) aE)))
def zaf(C:Cc):aG:=
   (dW (iJ C.s "reach" (qW C) (aA 0) (aB (aA 6) (aB (aD dY (aA 7) (cB (aB (aD aV (aA 2) (jX jZ (vC (.int 1)))) aE))) (aB (bS yX (aB (aA 8) (aB (aA 3) aE))) aE)))))
def zag(C:Cc):aG:=
   (fD (dX nQ (dU "dict" uB (dB C.s (aA 0) "begun") (aB (aA 4) (aB (gJ aE) aE)))) (j3 3 (e7 (bY 6) (e7 (bY 7) (e7 (bY 8) j0)))) (zaf C))
def zah(C:Cc):aG:=(aR (zaa C) (aR (zab C) (aR (zac C) (aR (zad C) (aR (zae C) (zag C))))))
abbrev zai:List Str:=["grammar","places","steps","weights","search","number","place"]
def zaj(C:Cc):aG:=
   (bK 4 (uA C.s (IW C) (aB (aA 0) (aB (aA 2) aE))))
def zak(C:Cc):aG:=
   (fD (dX eS (aA 1)) (bY 6)
    (dW (iJ C.s "reach" (qW C) (aA 4) (aB (aA 5) (aB (cB (aB (aA 6) aE)) (aB (cB (aB (aD aV (aA 3) (aA 5)) (aB (vC (.int 1)) aE))) aE))))))
def zal(C:Cc):aG:=
   (fD (qB (aB (bX cY (aB (aA 0) aE)) aE)) (bY 5) (zak C))
def zam(C:Cc):aG:=
   (dW (iJ C.s "take_next" (IV C) (aA 4) aE))
def zan(C:Cc):aG:=
   (p9 (jK (gO (iJ C.q "is_done" (IG C) (dB C.s (aA 4) "queue") aE))) (zam C))
def zao(C:Cc):aG:=
   (bP (dB C.s (aA 4) "best"))
def zap(C:Cc):aG:=(aR (zaj C) (aR (zal C) (aR (zan C) (zao C))))
theorem IZ:∀(ts acc:List Str),t7 (acc.map fR) (ts.map fR)=(ts.foldl fN acc).map fR
 | [],acc=>rfl
 | t::r,acc=>by
  show t7 (cT (acc.map fR) (Sum.inr t) (.bl true)) (r.map fR)=_;rw[yS,IZ,Ea]
theorem zaq{ws:List W}{M:Mm}{R:K3}(h:qV ws M R):ZK (bR R) (bU ZJ ws) M:=by
 obtain⟨ts,rfl,hl,r⟩:=h;have l:(ts.map W.str).length<=Am:=fT (by rw[Aa];exact Au hl (by decide));refine⟨_,rfl,iK (oQ (rest:=[]) (λw=>.tup [w,.bl true]) l (λ_ _=>trivial) (λw hw M' C sb h1=>⟨_,rfl,z2,h1⟩) (a9.frz ⟨ts.map fR,?_,by rw[Aa];exact l,_,Sub.refl _,?_⟩))⟩
 .unfold t9;rw[Cd,Cd];rfl
 .rw[show([]:List (aK×W))=([]:List Str).map fR from rfl,IZ];exact r
theorem zar{ws:List W}{M:Mm}{R:K3}(h:yX ws M R):ZM (bR R) (bU ZL ws) M:=by
 obtain⟨a,b,rfl,r⟩:=h;exact⟨_,rfl,_,rfl,_,rfl,_,rfl,_,rfl,_,rfl,_,rfl,_,rfl,z2,_,Sub.refl _,r⟩
variable {O:Type}
theorem yZ{cut:List Int}(h:cut≠[]):cJ (cut.map W.int) 0=some (.int (cut.headD 0)):=by
 cases cut with
 | nil=>exact absurd rfl h
 | cons a t=>exact V9 _ _
theorem nY{cut:List Int}(h:cut≠[]):cJ (cut.map W.int) (-1)=some (.int (cut.getLastD 0)):=by
 rcases Ej cut with z|⟨a,b,z⟩
 .exact absurd z h
 .rw[z,Ek,Bb];refine(EI _ _).trans ?_;simp[Hy]
theorem JA{n:Nat}{cut:List Int}:W.tup [.int n,.int (cut.map W.int).length,.int (cut.headD 0),.int (cut.getLastD 0)]=.tup ((lD (bT n cut)).map wK):=by
 rw[Aa];rfl
theorem zas{M:Mm}{a:Addr}{t:List (K4×aJ)}{n:Nat}{cut:List Int}{d:aJ}{R:K3}(h:M a=some (.dT (eM lD cW t)))(hd:aH t (bT n cut)=some d)(r:R (cW d) M):L3.aV (.ref a) (.tup [.int n,.int (cut.map W.int).length,.int (cut.headD 0),.int (cut.getLastD 0)]) M R:=by rw[JA];exact nW h (by rw[kD uH,hd];rfl) r
theorem JB{C:Cc}{E:Env}{M0 M:Mm}{A:Ad}{st:SS}{n:Nat}{cut:List Int}{c:aJ}{R:K3}{kp:Option (Addr×List W)}(hs:SK C E M0 M A st kp)(sm:Sm st 1)(r:∀M',SK C E M0 M' A {st with reached:=c8 st.reached (bT n cut) c,q:=eC c (n,cut) st.q} kp->R .non M'):
  aR (i6 (aA 3) (kZ (dB C.s (aA 0) "reached") (aA 4))) (dW (iJ C.q "put" (yQ C) (dB C.s (aA 0) "queue") (aB (aA 3) (aB (cB (aB (aA 1) (aB (aA 2) aE))) aE)))) (bR R) [some (W.ref A.s),some (W.int n),some (gB cut),some (cW c),some (W.tup (Jb wK (lD (bT n cut))))] M:=by
 have h1:=sm.q;have h2:=sm.r;refine⟨_,rfl,_,rfl,A.s,A.d,_,_,rfl,hs.os,uI,_,rfl,oS hs.or (eO (by rw[Aa];lia)) ?_⟩;rw[yU uH];have hs1:=hs.rput (c8 st.reached (bT n cut) c);obtain⟨M3,hq,back⟩:=hs1.que;exact⟨_,rfl,A.s,A.d,_,_,rfl,hs1.os,yV,A.Q.o,A.Q.d,qf A.Q,rfl,hq.ob,X9,_,rfl,_,rfl,_,rfl,z2,M3,A.Q,_,c,(n,cut),rfl,hq,(by rw[tV];exact h1),λM' h'=>⟨M',Sub.refl _,r M' (back M' _ h')⟩⟩
theorem zat{C:Cc}{ws:List W}{M:Mm}{R:K3}(h:qW C ws M R):ZX C (bR R) (bU ZW ws) M:=by
 obtain⟨E,M0,A,st,n,cut,c,kp,rfl,hs,hcut,sm,r⟩:=h;refine xI rfl (xI rfl (xI rfl ⟨_,yZ hcut,xI rfl ⟨_,nY hcut,z4,?_⟩⟩));rw[JA];refine xI rfl (xI rfl ⟨A.s,A.d,_,xI rfl ⟨hs.os,uI,.inr ⟨_,.inr ⟨_,_,hs.or,rfl,rfl⟩,xI rfl ?_⟩⟩⟩);rw[kD uH];cases hr:aH st.reached (bT n cut) with
 | none=>
  refine bC (λ_=>ZA (JB hs sm λM' h'=>r M' ?_)) λh=>nomatch (show true=false from h);unfold reach;rw[hr];exact h'
 | some d=>
  refine bC (λh=>nomatch (show false=true from h)) λ_=>xI rfl (xI rfl ⟨A.s,A.d,_,xI rfl ⟨hs.os,uI,xI rfl (nW hs.or (by rw[kD uH,hr];rfl) ⟨c.1,c.2,d.1,d.2,rfl,rfl,xI rfl (bC (λhl=>JB hs sm λM' h'=>r M' ?_) λhl=>⟨M,Sub.refl _,r M ?_⟩)⟩)⟩⟩)
  .unfold reach;rw[hr];simp only;rw[if_pos (show cU c d=true from hl)];exact h'
  .unfold reach;rw[hr];simp only;rw[if_neg (ne_true_of_eq_false (show cU c d=false from hl))];exact hs
theorem Sm.reach{st:SS}{k:Nat}(h:Sm st (k+1))(n:Nat)(cut:List Int)(c:aJ):Sm (Rg.reach st n cut c) k:=by
 obtain⟨j,h1,h2,h3⟩:=HB st n cut c;have:=h.q;have:=h.r;exact⟨by lia,by lia⟩
theorem Sm.le{st:SS}{k j:Nat}(h:Sm st k)(hj:j<=k):Sm st j:=⟨by have:=h.q;lia,by have:=h.r;lia⟩
def e9(f:O->Nat×List Int×aJ)(xs:List O)(st:SS):SS:=xs.foldl (λst x=>reach st (f x).1 (f x).2.1 (f x).2.2) st
theorem uM{f:O->Nat×List Int×aJ}{xs:List O}{st:SS}{i:Nat}{x:O}(h:xs[i]? = some x):e9 f (xs.take (i+1)) st=reach (e9 f (xs.take i) st) (f x).1 (f x).2.1 (f x).2.2:=by
 unfold e9;rw[Fl,h,Jc];rfl
theorem oZ{f:O->Nat×List Int×aJ}:∀{xs:List O} {st:SS} {k:Nat},Sm st (xs.length+k)->Sm (e9 f xs st) k
 | [],st,k,h=>by simp at h;exact h
 | x::xs,st,k,h=>by
  show Sm (e9 f xs (reach st (f x).1 (f x).2.1 (f x).2.2)) k;exact oZ (Sm.reach (by rw[Az]at h;exact h.le (by lia)) _ _ _)
theorem qX{f:O->Nat×List Int×aJ}:∀{xs:List O} {st:SS},(e9 f xs st).ends=st.ends/\(e9 f xs st).begun=st.begun/\(e9 f xs st).best=st.best
 | [],st=>⟨rfl,rfl,rfl⟩
 | x::xs,st=>by
  have h1:=qX (f:=f) (xs:=xs) (st:=reach st (f x).1 (f x).2.1 (f x).2.2);have h2:∀n cut c,(reach st n cut c).ends=st.ends/\(reach st n cut c).begun=st.begun/\(reach st n cut c).best=st.best:=by
   intro n cut c;unfold reach;split
   .split<;>exact⟨rfl,rfl,rfl⟩
   .exact⟨rfl,rfl,rfl⟩
  obtain⟨a1,a2,a3⟩:=h2 (f x).1 (f x).2.1 (f x).2.2;exact⟨h1.1.trans a1,h1.2.1.trans a2,h1.2.2.trans a3⟩
theorem zau{C:Cc}{ws:List W}{M:Mm}{R:K3}(h:IS C ws M R):Z8 C (bR R) (bU Z7 ws) M:=by
 obtain⟨E,M0,A,st,n,cut,c,part,rfl,hs,hcut,hcl,sm,hb,hb2,r⟩:=h;refine SK.gput hs (z:=(n,cut,c)) rfl (λM1 Q h=>xI rfl h) (λM1 Q h=>xI rfl (xI rfl (xI rfl ⟨z3,h⟩))) hb hb2 λM1 hs1=>?_;have hf:=hs1.ends_at (part,cut.getLastD 0);obtain⟨kvs,he,hc⟩:=hf;refine xI rfl ⟨A.s,A.d,_,xI rfl ⟨hs1.os,IM,qS he,xI rfl ⟨Bz _,_,.inr ⟨kvs,eK (part,cut.getLastD 0),he,rfl,rfl⟩,?_⟩⟩⟩;rcases hc with⟨h1,h2⟩|⟨p,xs,h1,h2,hk⟩
 .rw[h1];refine yR rfl (nO (λi τ M'=>M'=M1) rfl (λ_ _ _ _ _=>trivial) (λi w τ M' hw=>nomatch hw) λτ M' e=>⟨_,Sub.refl _,r _ ?_⟩);rw[e];unfold fW;rw[show aH st.ends (part,cut.getLastD 0)=none from h2];exact hs1
 .rw[h1];obtain⟨f,hf⟩:∃f:Int×aJ->Nat×List Int×aJ,f=λz=>(n,cut++[z.1],eL c z.2):=⟨_,rfl⟩;obtain⟨st1,hst1⟩:∃st1,st1 = {st with begun:=fF st.begun (part,cut.getLastD 0) (n,cut,c)}:=⟨_,rfl⟩;rw[<-hst1]at hk;have sm1:Sm st1 xs.length:=by
   rw[show aH st.ends (part,cut.getLastD 0)=some xs from h2]at sm;rw[hst1];exact⟨sm.q,sm.r⟩
  refine⟨_,hk.kept,nO (λi τ M'=>∃o5 o6,τ=[some (.ref A.s),some (.int n),some (gB cut),some (cW c),some (.tup [.str part,.int (cut.getLastD 0)]),o5,o6]/\SK C E M0 M' A (e9 f (xs.take i) st1) (some (p,xs.map jR))) ⟨_,xI rfl hk⟩ (λi τ M' _ ⟨_,_,_,h⟩=>h.kept) ?_ ?_⟩
  .rintro i w τ M' hw ⟨o5,o6,rfl,hk'⟩;rw[Ap]at hw;obtain⟨z,hz,rfl⟩:=Bh.mp hw;have hi:=(Ai.mp hz).1;have smi:Sm (e9 f (xs.take i) st1) 1:=oZ (sm1.le (by rw[Bp];lia));have e1:W.tup (Jb W.int cut++[W.int z.1])=gB (cut++[z.1]):=by unfold gB;rw[Bb];rfl
   refine⟨rfl,rfl,xI rfl ⟨A.s,A.d,xI rfl ⟨hk'.os,uJ,xI rfl (xI rfl (xI rfl ⟨z1,by simpa using hcut,by rw[Aa];exact Au hcl (fT (by decide)),xI rfl (xI rfl ⟨c,z.2,rfl,E,M0,A,_,n,cut++[z.1],eL c z.2,_,by rw[e1],hk',by simp,smi,λM2 hk2=>⟨M2,Sub.refl _,_,xI rfl ?_⟩⟩)⟩))⟩⟩⟩;rw[uM hz,hf];rw[hf]at hk2;exact hk2
  .rintro τ M' ⟨o5,o6,rfl,hk'⟩;rw[Aa,Ck]at hk';refine⟨_,Sub.refl _,r _ ?_⟩;unfold fW;rw[show aH st.ends (part,cut.getLastD 0)=some xs from h2];rw[hst1,hf]at hk';exact hk'.free
theorem qY{rs:List a7}{n:Nat}(h:n<rs.length):∃r,rs[n]? = some r/\cJ (rs.map d9) (n:Int)=some (d9 r):=by
 refine⟨rs[n],Ak h,gZ ?_⟩;rw[Ap,Ak h];rfl
theorem zav{bs:bM}{k:bD}{v:aJ×Nat×List Int}(h:aH bs k=none):cT (eM fK fX bs) (fK k) (fX v)=eM fK fX (bs++[(k,v)]):=by
 rw[yU lE,uK h]
theorem zaw{C:Cc}{ws:List W}{M:Mm}{R:K3}(h:IT C ws M R):zah C (bR R) (bU Z9 ws) M:=by
 obtain⟨G,E,M0,A,st,n,cut,c,rfl,hs,hG,hn,hcut,hbg,sm,hb,he,hel,r⟩:=h;obtain⟨ru,hr1,hr2⟩:=qY hn;have hfn:dG G n=ru.name:=by unfold dG;rw[hG,hr1]
 have hfact:cZ G n cut=(ru.name,cut.headD 0,cut.getLastD 0):=by unfold cZ;rw[hfn]
 rw[hfn]at sm hel;refine xI rfl ⟨A.s,A.d,_,xI rfl ⟨hs.os,IL,xI rfl ⟨_,hr2,xI rfl (xI rfl ⟨_,yZ hcut,z2,xI rfl (xI rfl ⟨_,nY hcut,z1,(λh=>nomatch h),z3,xI rfl (xI rfl ⟨A.s,A.d,_,xI rfl ⟨hs.os,yW,.inr ⟨_,.inr ⟨_,fK (ru.name,cut.headD 0,cut.getLastD 0),hs.ob,rfl,rfl⟩,xI rfl ?_⟩⟩⟩)⟩)⟩)⟩⟩⟩;rw[kD lE];cases hbst:aH st.best (ru.name,cut.headD 0,cut.getLastD 0) with
 | some v=>
  refine bC (λ_=>⟨M,Sub.refl _,r M ?_⟩) λh=>nomatch (show true=false from h);unfold settle;rw[hfact,hbst];exact hs
 | none=>
  refine bC (λh=>nomatch (show false=true from h)) λ_=>xI rfl (xI rfl (xI rfl ⟨z3,xI rfl ⟨A.s,A.d,_,xI rfl ⟨hs.os,yW,xI rfl (oS (k:=fK (ru.name,cut.headD 0,cut.getLastD 0)) hs.ob (eO (by rw[Aa];exact hb)) ?_)⟩⟩⟩));rw[show cT (eM fK fX st.best) _ (W.tup [cW c,W.int n,gB cut])=_ from zav (v:=(c,n,cut)) hbst];have hs1:=hs.bput (st.best++[((ru.name,cut.headD 0,cut.getLastD 0),c,n,cut)]);refine SK.eput hs1 (nm:=ru.name) (b:=cut.headD 0) (z:=(cut.getLastD 0,c)) rfl (λM1 Q h=>xI rfl h) (λM1 Q h=>xI rfl ⟨_,nY hcut,xI rfl ⟨z2,h⟩⟩) he hel λM1 hs2=>?_;obtain⟨st1,hst1⟩:∃st1:SS,st1 = {st with best:=st.best++[((ru.name,cut.headD 0,cut.getLastD 0),c,n,cut)],ends:=fF st.ends (ru.name,cut.headD 0) (cut.getLastD 0,c)}:=⟨_,rfl⟩;have hs2:SR C E M0 M1 A st1:=by rw[hst1];exact hs2
  have hset:∀xs,(aH st.begun (ru.name,cut.headD 0)).getD []=xs->settle G st n cut c=e9 (λy:cC=>(y.1,y.2.1++[cut.getLastD 0],eL y.2.2 c)) xs st1:=λxs hx=>by
   unfold settle;rw[hfact,hbst,hfn,hx,hst1];rfl
  have hbeg:st1.begun=st.begun:=by rw[hst1]
  obtain⟨kvs,hg,hc⟩:=hs2.begun_at (ru.name,cut.headD 0);refine xI rfl ⟨A.s,A.d,_,xI rfl ⟨hs2.os,IP,qS hg,xI rfl ⟨Bz _,_,.inr ⟨kvs,eK (ru.name,cut.headD 0),hg,rfl,rfl⟩,?_⟩⟩⟩;rcases hc with⟨h1,h2⟩|⟨p,xs,h1,h2,hk⟩
  .rw[h1];refine yR rfl (nO (λi τ M'=>M'=M1) rfl (λ_ _ _ _ _=>trivial) (λi w τ M' hw=>nomatch hw) λτ M' e=>⟨_,Sub.refl _,r _ ?_⟩);rw[hset [] (by rw[hbeg]at h2;rw[h2];rfl),e];exact hs2
  .rw[h1];rw[hbeg]at h2;obtain⟨f,hf⟩:∃f:cC->Nat×List Int×aJ,f=λy=>(y.1,y.2.1++[cut.getLastD 0],eL y.2.2 c):=⟨_,rfl⟩;have sm1:Sm st1 xs.length:=by
    rw[h2]at sm;rw[hst1];exact⟨sm.q,sm.r⟩
   refine⟨_,hk.kept,nO (λi τ M'=>∃o6 o7 o8,τ=[some (.ref A.s),some (.int n),some (gB cut),some (cW c),some (.tup [.str ru.name,.int (cut.headD 0)]),some (.tup ([.str ru.name,.int (cut.headD 0)]++[.int (cut.getLastD 0)])),o6,o7,o8]/\SK C E M0 M' A (e9 f (xs.take i) st1) (some (p,xs.map jS))) ⟨_,_,xI rfl hk⟩ (λi τ M' _ ⟨_,_,_,_,h⟩=>h.kept) ?_ ?_⟩
   .rintro i w τ M' hw ⟨o6,o7,o8,rfl,hk'⟩;rw[Ap]at hw;obtain⟨y,hy,rfl⟩:=Bh.mp hw;have hi:=(Ai.mp hy).1;obtain⟨hyl,hyn⟩:=hbg (ru.name,cut.headD 0) y (by rw[h2];exact Bf hy);refine⟨rfl,rfl,xI rfl ⟨A.s,A.d,xI rfl ⟨hk'.os,uJ,xI rfl (xI rfl (xI rfl ⟨_,nY hcut,z1,by simpa using hyn,by rw[Aa];exact fT (Au hyl (by decide)),xI rfl (xI rfl ⟨y.2.2,c,rfl,E,M0,A,_,y.1,y.2.1++[cut.getLastD 0],eL y.2.2 c,_,by rw[gB,Bb];rfl,hk',by simp,oZ (sm1.le (by rw[Bp];lia)),λM2 hk2=>⟨M2,Sub.refl _,_,_,xI rfl ?_⟩⟩)⟩))⟩⟩⟩;rw[uM hy,hf];rw[hf]at hk2;exact hk2
   .rintro τ M' ⟨o6,o7,o8,rfl,hk'⟩;rw[Aa,Ck]at hk';refine⟨_,Sub.refl _,r _ ?_⟩;rw[hset xs (by rw[h2];rfl),<-hf];exact hk'.free
theorem zax{C:Cc}{ws:List W}{M:Mm}{R:K3}(h:IV C ws M R):Z6 C (bR R) (bU ZY ws) M:=by
 obtain⟨G,E,M0,A,st,rfl,hs,ev,hq,rm,r⟩:=h;obtain⟨c,x,q',e1,f1,m1,l1,_,_⟩:=nV hs.fall hq;obtain⟨n,cut⟩:=x;obtain⟨hcut,hcl,hn,d,hd⟩:=rm.item c n cut q' e1;obtain⟨M3,hQ,back⟩:=hs.que;refine xI rfl ⟨A.s,A.d,_,xI rfl ⟨hs.os,yV,A.Q.o,A.Q.d,xI rfl ⟨hQ.ob,YA,M3,A.Q,_,c,(n,cut),q',rfl,hQ,e1,λM1 hQ1=>?_⟩⟩⟩;have hs1:=back M1 q' hQ1;have smq:∀k,Sm st k->Sm {st with q:=q'} k:=λk h=>⟨by have:=h.q;show(bB q').length+k<_;lia,h.r⟩
 have ht:lW G st=if cU d c=true then {st with q:=q'} else process G {st with q:=q'} n cut c:=by
  unfold lW;simp only[e1,hd]
 obtain⟨st1,hst1⟩:∃st1:SS,st1 = {st with q:=q'}:=⟨_,rfl⟩;have b1:st1.begun=st.begun:=by rw[hst1]
 have b2:st1.ends=st.ends:=by rw[hst1]
 have b3:st1.best=st.best:=by rw[hst1]
 have b4:st1.reached=st.reached:=by rw[hst1]
 rw[<-hst1]at hs1 smq ht;clear hst1;refine xI rfl (xI rfl (xI rfl (xI rfl (xI rfl (xI rfl (xI rfl (xI rfl (xI rfl ⟨A.s,A.d,_,xI rfl ⟨hs1.os,uI,xI rfl (xI rfl (xI rfl ⟨_,yZ hcut,xI rfl ⟨_,nY hcut,z4,zas hs1.or (by rw[b4];exact hd) (xI rfl ⟨d.1,d.2,c.1,c.2,rfl,rfl,xI rfl (bC (λhl=>?_) λhl=>?_)⟩)⟩⟩))⟩⟩))))))))
 .rw[ht,if_pos (show cU d c=true from hl)]at r;exact⟨M1,Sub.refl _,r M1 hs1⟩
 rw[ht,if_neg (ne_true_of_eq_false (show cU d c=false from hl))]at r;rw[ev.rs]at hn;obtain⟨ru,hr1,hr2⟩:=qY hn;have hpart:eD G n cut=ru.parts[cut.length-1]?:=by unfold eD;rw[ev.rs,hr1]
 have hpos:=Fd.mpr hcut;have hlm:(Jb W.int cut).length=cut.length:=Aa _;have hlp:(Jb W.str ru.parts).length=ru.parts.length:=Aa _;refine xI rfl ⟨A.s,A.d,_,xI rfl ⟨hs1.os,IL,xI rfl ⟨_,hr2,xI rfl (xI rfl (xI rfl (xI rfl (bC (λhlen=>?_) λhlen=>?_))))⟩⟩⟩
 .have hlen:=of_decide_eq_true hlen;rw[hlm,hlp]at hlen;have hp:eD G n cut=none:=by rw[hpart];exact Jh (by lia)
  refine xI rfl ⟨A.s,A.d,xI rfl ⟨hs1.os,ZI,xI rfl (xI rfl (xI rfl ⟨G,E,M0,A,st1,n,cut,c,rfl,hs1,ev.rs,hn,hcut,by rw[b1];exact rm.bg,by rw[b1];exact smq _ (rm.gl _).2,by rw[b3];exact rm.b,by rw[b2];exact rm.e,by rw[b2];exact(rm.el _).1,λM2 hs2=>⟨M2,Sub.refl _,r M2 ?_⟩⟩))⟩⟩;unfold process;rw[hp];exact hs2
 have hlen:=of_decide_eq_false hlen;rw[hlm,hlp]at hlen;obtain⟨part,hp⟩:∃part,ru.parts[cut.length-1]? = some part:=⟨_,Ak (by lia)⟩;rw[hp]at hpart;have hat:cJ (ru.parts.map W.str) ((Jb W.int cut).length-1)=some (.str part):=by
  rw[hlm,show((cut.length:Int)-1)=((cut.length-1:Nat):Int) by lia];exact gZ (by rw[Ap,hp];rfl)
 have hpr:process G st1 n cut c=if G.own part=true then fW st1 n cut c part else e9 (λz:Int×Int=>(n,cut++[z.1],(c.1+z.2,c.2))) (G.steps part (cut.getLastD 0)) st1:=by
  unfold process;rw[hpart];rfl
 rw[hpr]at r;refine xI rfl (xI rfl ⟨_,hat,xI rfl ⟨A.s,A.d,_,xI rfl ⟨hs1.os,ZE,_,⟨Sum.inr part,rfl,rfl⟩,xI rfl (bC (λho=>?_) λho=>?_)⟩⟩⟩)
 .rw[if_pos ((ev.own part).symm.trans ho)]at r;exact xI rfl ⟨A.s,A.d,xI rfl ⟨hs1.os,ZH,xI rfl (xI rfl (xI rfl (xI rfl (xI rfl ⟨_,hat,xI rfl ⟨_,nY hcut,z2,E,M0,A,st1,n,cut,c,part,rfl,hs1,hcut,hcl,by rw[b2];exact smq _ (rm.el _).2,by rw[b1];exact rm.g,by rw[b1];exact(rm.gl _).1,λM2 hs2=>⟨M2,Sub.refl _,r M2 hs2⟩⟩⟩))))⟩⟩
 rw[if_neg (ne_true_of_eq_false ((ev.own part).symm.trans ho))]at r;obtain⟨xs,hxs⟩:∃xs,xs=G.steps part (cut.getLastD 0):=⟨_,rfl⟩;have sm1:Sm st1 xs.length:=by rw[hxs];exact smq _ (rm.sl _ _)
 have hval:(bJ E.stp (eK (part,cut.getLastD 0))).getD (.rl [])=.rl (xs.map λz=>.tup [.int z.1,.int z.2]):=by
  rw[hxs];rcases ev.stp part (cut.getLastD 0) with⟨h1,h2⟩|h1
  .rw[h1,h2];rfl
  .rw[h1];rfl
 rw[<-hxs]at r;refine xI rfl ⟨A.s,A.d,_,xI rfl ⟨hs1.os,ZF,rfl,xI rfl (xI rfl ⟨_,hat,xI rfl ⟨_,nY hcut,z2,Bz _,_,⟨eK (part,cut.getLastD 0),rfl,rfl⟩,yR hval (iW (λi τ M'=>∃o6 o7,τ=[some (.ref A.s),some (.tup [cW c,kC (n,cut)]),some (cW c),some (.int n),some (gB cut),some (.tup (ru.parts.map W.str)),o6,o7]/\SR C E M0 M' A (e9 (λz:Int×Int=>(n,cut++[z.1],(c.1+z.2,c.2))) (xs.take i) st1)) ⟨_,xI rfl hs1⟩ ?_ ?_)⟩⟩)⟩⟩
 .rintro i w τ M' hw ⟨o6,o7,rfl,hk⟩ D hD;rw[Ap]at hw;obtain⟨z,hz,rfl⟩:=Bh.mp hw;have hi:=(Ai.mp hz).1;exact⟨rfl,rfl,xI rfl ⟨A.s,A.d,xI rfl ⟨hk.os,uJ,xI rfl (xI rfl (xI rfl ⟨z1,by simpa using hcut,by rw[hlm];exact Au hcl (fT (by decide)),xI rfl (xI rfl (xI rfl (xI rfl (xI rfl ⟨z2,E,M0,A,_,n,cut++[z.1],(c.1+z.2,c.2),_,by rw[gB,Bb];rfl,hk,by simp,oZ (sm1.le (by rw[Bp];lia)),λM2 hk2=>hD _ _ ⟨_,xI rfl (by rw[uM hz];exact hk2)⟩⟩))))⟩))⟩⟩⟩
 .rintro τ M' ⟨o6,o7,rfl,hk⟩;rw[Aa,Ck]at hk;exact⟨_,Sub.refl _,r _ hk⟩
theorem zay{E:Env}{A:Ad}:cG "begun" (.ref A.g) (cG "ends" (.ref A.e) (cG "best" (.ref A.b) (cG "reached" (.ref A.r) (cG "queue" (.ref A.Q.o) ([("grammar",(cM E.rs)),("own",(W.dk E.own)),("steps",(W.dt E.stp))]:List (Str×W))))))=sf E A:=by kernel_rfl
theorem uN{C:Cc}{B Mt:Mm}{A:Aq}{q:Qu}{s dx p:Addr}{fs fs':List (Str×W)}(hQ:QR C B Mt A q)(hB:B s=some (.ins C.s dx fs))(hp:Mt p=none):p≠s/\B p=none/\put Mt p (.dT []) s=some (.ins C.s dx fs)/\QR C (put (put B p (.dT [])) s (.ins C.s dx fs')) (put (put Mt p (.dT [])) s (.ins C.s dx fs')) A q:=by
 have hs:=hQ.sub _ _ hB;have ne:p≠s:=λe=>by rw[e,hs]at hp;cases hp
 exact⟨ne,hQ.sub.non hp,by rw[aW (Bt ne)];exact hs,(hQ.lift (.inl hp)).lift (.inr ⟨_,by rw[aW (Bt ne)];exact hB⟩)⟩
theorem qZ(f:Str)(w:W):∀fs:List (Str×W),(cG f w fs).length<=fs.length+1
 | []=>An _
 | (k,x)::r=>by
  rw[cG];split
  .simp
  .have:=qZ f w r;simp only[Az];lia
theorem zaz{C:Cc}{ws:List W}{M:Mm}{R:K3}(h:IW C ws M R):ZV C (bR R) (bU ZN ws) M:=by
 obtain⟨M0,s,dx,rs,stp,rfl,hl,rfl,h0,r⟩:=h;refine xI rfl (xI rfl ⟨s,dx,xI rfl ⟨aY,by decide,?_⟩⟩);rw[eW];have e2:∀w:W,cG "own" w (cG "grammar" (cM rs) [])=([("grammar",cM rs),("own",w)]:List (Str×W)):=λw=>by kernel_rfl
 have e3:∀w:W,cG "steps" w ([("grammar",cM rs),("own",.dk (ownOf rs))]:List (Str×W))=([("grammar",cM rs),("own",.dk (ownOf rs)),("steps",w)]:List (Str×W)):=λw=>by kernel_rfl
 refine xI rfl ⟨rs,rfl,Au hl (by decide),a9.frz ⟨namesOf rs,rfl,?_,xI rfl ⟨s,dx,xI rfl ⟨aY,(show(1:Nat)<1000 by decide),xI rfl (xI rfl ⟨s,dx,xI rfl ⟨aY,?_,?_⟩⟩)⟩⟩⟩⟩
 .have:=tU (rs.map a7.name) [];rw[Aa]at this;unfold namesOf nT;simp at this;simp;lia
 .rw[e2];exact(show(2:Nat)<1000 by decide)
 rw[eW,eW,e2];show IY C _ _ (put M0 s (.ins C.s dx (cG "steps" (.dt stp) [("grammar",cM rs),("own",.dk (ownOf rs))])));rw[e3];refine λa da ha hda hne=>?_;have hsa:s≠a:=λe=>by rw[<-e,aY]at ha;cases ha
 obtain⟨F3,hF3⟩:∃F:List (Str×W),F=([("grammar",cM rs),("own",.dk (ownOf rs)),("steps",.dt stp)]:List (Str×W)):=⟨_,rfl⟩;rw[<-hF3]at ha hda⊢;refine⟨_,a,da,rfl,rfl,ha,λM1 Aq hAq hQ=>⟨rfl,xI rfl ⟨s,dx,F3,rfl,hQ.sub _ _ aY,by rw[hF3];exact(show(3:Nat)<1000 by decide),?_⟩⟩⟩;have hQ1:=hQ.lift (p:=s) (o:=.ins C.s dx (cG "queue" (.ref a) F3)) (.inr ⟨_,aY⟩);rw[eW]at hQ1;obtain⟨F4,hF4⟩:∃F:List (Str×W),F=cG "queue" (.ref a) F3:=⟨_,rfl⟩;have l4:F4.length<=4:=by rw[hF4];have:=qZ "queue" (.ref a) F3;rw[hF3]at this⊢;exact this
 rw[<-hF4]at hQ1⊢;obtain⟨Mt,hMt⟩:∃m,m=put M1 s (.ins C.s dx F4):=⟨_,rfl⟩;rw[<-hMt]at hQ1⊢;refine λp1 hp1=>?_;obtain⟨n1,b1,o1,hQ2⟩:=uN (fs':=cG "reached" (.ref p1) F4) hQ1 aY hp1;refine xI rfl ⟨s,dx,F4,rfl,o1,by lia,λp2 hp2=>?_⟩;obtain⟨n2,b2,o2,hQ3⟩:=uN (fs':=cG "best" (.ref p2) (cG "reached" (.ref p1) F4)) hQ2 aY hp2;have l5:=qZ "reached" (.ref p1) F4;refine xI rfl ⟨s,dx,xI rfl ⟨o2,by lia,λp3 hp3=>?_⟩⟩;obtain⟨n3,b3,o3,hQ4⟩:=uN (fs':=cG "ends" (.ref p3) (cG "best" (.ref p2) (cG "reached" (.ref p1) F4))) hQ3 aY hp3;have l6:=qZ "best" (.ref p2) (cG "reached" (.ref p1) F4);refine xI rfl ⟨s,dx,xI rfl ⟨o3,by lia,λp4 hp4=>?_⟩⟩;obtain⟨n4,b4,o4,hQ5⟩:=uN (fs':=cG "begun" (.ref p4) (cG "ends" (.ref p3) (cG "best" (.ref p2) (cG "reached" (.ref p1) F4)))) hQ4 aY hp4;have l7:=qZ "ends" (.ref p3) (cG "best" (.ref p2) (cG "reached" (.ref p1) F4));refine xI rfl ⟨s,dx,xI rfl ⟨o4,by lia,_,Sub.refl _,r _ ⟨s,dx,Aq,p1,p2,p3,p4⟩ rfl ?_⟩⟩;obtain⟨A,hA⟩:∃A:Ad,A=⟨s,dx,Aq,p1,p2,p3,p4⟩:=⟨_,rfl⟩;obtain⟨E,hE⟩:∃E:Env,E=⟨rs,ownOf rs,stp⟩:=⟨_,rfl⟩;have hsf:cG "begun" (.ref p4) (cG "ends" (.ref p3) (cG "best" (.ref p2) (cG "reached" (.ref p1) F4)))=sf E A:=by
  rw[<-zay,hF4,hF3,hA,hE,<-hAq]
 rw[hsf]at hQ5⊢;rw[<-hA,<-hE];have c21:p2≠p1:=λe=>by rw[e,aW n1,aY]at b2;cases b2
 have c31:p3≠p1:=λe=>by rw[e,aW n1,aW (Bt c21),aW n1,aY]at b3;cases b3
 have c32:p3≠p2:=λe=>by rw[e,aW n2,aY]at b3;cases b3
 have c41:p4≠p1:=λe=>by rw[e,aW n1,aW (Bt c31),aW n1,aW (Bt c21),aW n1,aY]at b4;cases b4
 have c42:p4≠p2:=λe=>by rw[e,aW n2,aW (Bt c32),aW n2,aY]at b4;cases b4
 have c43:p4≠p3:=λe=>by rw[e,aW n3,aY]at b4;cases b4
 have z1:M0 p1=none:=by rw[aW n1]at b1;exact b1
 have z2:M0 p2=none:=by rw[aW n2,aW c21,aW n2]at b2;exact b2
 have z3:M0 p3=none:=by rw[aW n3,aW c32,aW n3,aW c31,aW n3]at b3;exact b3
 have z4:M0 p4=none:=by rw[aW n4,aW c43,aW n4,aW c42,aW n4,aW c41,aW n4]at b4;exact b4
 obtain⟨N1,hN1⟩:∃m,m=put (put (put M0 s (.ins C.s dx (sf E A))) p1 (.dT [])) p2 (.dT []):=⟨_,rfl⟩;have hB:put (put (put (put (put (put (put (put (put M0 s (.ins C.s dx F4)) p1 (.dT [])) s (.ins C.s dx (cG "reached" (.ref p1) F4))) p2 (.dT [])) s (.ins C.s dx (cG "best" (.ref p2) (cG "reached" (.ref p1) F4)))) p3 (.dT [])) s (.ins C.s dx (cG "ends" (.ref p3) (cG "best" (.ref p2) (cG "reached" (.ref p1) F4))))) p4 (.dT [])) s (.ins C.s dx (sf E A))=put (put N1 p3 (.dT [])) p4 (.dT []):=by
  rw[hN1];funext b;unfold put
  by_cases g0:b=s
  .subst g0;simp[Bt n1,Bt n2,Bt n3,Bt n4]
  .simp only[if_neg g0]
 rw[hB]at hQ5;have mn:Mn C E M0 N1 A [] []:=by
  rw[hN1,hA];exact⟨gV (gV (gV (Sub.refl _) h0) z1) z2,h0,z1,z2,Bt n1,Bt n2,Bt c21,by rw[aW (Bt n2),aW (Bt n1),aY],by rw[aW (Bt c21),aY];rfl,by rw[aY];rfl⟩
 have y3:N1 p3=none:=by rw[hN1,aW c32,aW c31,aW n3];exact z3
 have y4:N1 p4=none:=by rw[hN1,aW c42,aW c41,aW n4];exact z4
 have t1:eP eK N1 (put N1 p3 (.dT [])) A.e [] (eG []):=by rw[hA];exact⟨Sub.new y3,y3,aY,(λ_ _=>rfl),(λk ws e=>nomatch e),(λk j p e=>nomatch e)⟩
 have x4:put N1 p3 (.dT []) p4=none:=by rw[aW c43];exact y4
 have t2:eP eK (put N1 p3 (.dT [])) (put (put N1 p3 (.dT [])) p4 (.dT [])) A.g [] (gG []):=by rw[hA];exact⟨Sub.new x4,x4,aY,(λ_ _=>rfl),(λk ws e=>nomatch e),(λk j p e=>nomatch e)⟩
 have hAQ:A.Q=Aq:=by rw[hA]
 rw[<-hAQ]at hQ5;exact⟨N1,_,_,[],[],mn,t1,t2,hQ5,An _,An _,trivial⟩
structure Ln(st:SS)(T:Nat):Prop where
 b:st.best.length<=T
 e:st.ends.length<=T
 g:st.begun.length<=T
theorem Ln.process{G:Sr}{st:SS}{T:Nat}(h:Ln st T)(n:Nat)(cut:List Int)(c:aJ):Ln (Rg.process G st n cut c) (T+1):=by
 have h1:=h.b;have h2:=h.e;have h3:=h.g;have keep:Ln st (T+1):=⟨by lia,by lia,by lia⟩;unfold Rg.process;split
 .unfold settle;split
  .exact keep
  .obtain⟨a1,a2,a3⟩:=qX (f:=λy:cC=>(y.1,y.2.1++[cut.getLastD 0],eL y.2.2 c)) (xs:=(aH st.begun (dG G n,cut.headD 0)).getD []) (st:={st with best:=st.best++[(cZ G n cut,c,n,cut)],ends:=fF st.ends (dG G n,cut.headD 0) (cut.getLastD 0,c)});refine⟨?_,?_,?_⟩
   .refine Au (Fc (congrArg Dc a3)) ?_;show(st.best++[_]).length<=_;rw[Ah,Bo];lia
   .refine Au (Fc (congrArg Dc a1)) ?_;have:=qJ st.ends (dG G n,cut.headD 0) ((aH st.ends (dG G n,cut.headD 0)).getD []++[(cut.getLastD 0,c)]);show(c8 _ _ _).length<=_;lia
   .refine Au (Fc (congrArg Dc a2)) ?_;exact keep.g
 .rename_i part _;split
  .unfold fW;obtain⟨a1,a2,a3⟩:=qX (f:=λz:Int×aJ=>(n,cut++[z.1],eL c z.2)) (xs:=(aH st.ends (part,cut.getLastD 0)).getD []) (st:={st with begun:=fF st.begun (part,cut.getLastD 0) (n,cut,c)});refine⟨?_,?_,?_⟩
   .exact Au (Fc (congrArg Dc a3)) keep.b
   .exact Au (Fc (congrArg Dc a1)) keep.e
   .refine Au (Fc (congrArg Dc a2)) ?_;have:=qJ st.begun (part,cut.getLastD 0) ((aH st.begun (part,cut.getLastD 0)).getD []++[(n,cut,c)]);show(c8 _ _ _).length<=_;lia
  .unfold gA;obtain⟨a1,a2,a3⟩:=qX (f:=λz:Int×Int=>(n,cut++[z.1],(c.1+z.2,c.2))) (xs:=G.steps part (cut.getLastD 0)) (st:=st);exact⟨Au (Fc (congrArg Dc a3)) keep.b,Au (Fc (congrArg Dc a1)) keep.e,Au (Fc (congrArg Dc a2)) keep.g⟩
theorem Ln.next{G:Sr}{st:SS}{T:Nat}(h:Ln st T):Ln (lW G st) (T+1):=by
 have h1:=h.b;have h2:=h.e;have h3:=h.g;have keep:Ln st (T+1):=⟨by lia,by lia,by lia⟩;have hq:∀q',Ln {st with q:=q'} T:=λq'=>⟨h1,h2,h3⟩
 unfold lW;split
 .exact keep
 .split
  .split
   .exact⟨keep.b,keep.e,keep.g⟩
   .exact(hq _).process _ _ _
  .exact⟨keep.b,keep.e,keep.g⟩
theorem zaA{G:Sr}{V:List Int}{L S I0 T:Nat}{st:SS}{P:List cC}{cur:aJ}(v:qN G V G.rs.length L)(hL:L<1000)(A:All G S I0 st P cur T)(hS:∀t p,(G.steps t p).length<=S)(ln:Ln st T)(hb:I0+G.rs.length*((L+1)*(V.length*V.length))*(S+V.length)+G.rs.length*((L+1)*(V.length*V.length))+V.length+S+1<10000000):Rm G st:=by
 obtain⟨f1,f2,f3⟩:=HD v A;have hin:∀{n cut c},GI G st.best n cut c->DI G n cut c:=λ{n cut c} g=>yF (B:=st.best) (λf m n' cut' h=>yG A.ob h) g;have hr:=A.cn.rch;generalize G.rs.length*((L+1)*(V.length*V.length))=X at *;generalize X*(S+V.length)=Y at *;have h1:=ln.b;have h2:=ln.e;have h3:=ln.g;have hg:∀key,((aH st.begun key).getD []).length<=X:=λkey=>by
  have:=len_sub (b:=P) (A.cn.bnd key) λy hy=>(A.ob.bgn key y hy).1;lia
 refine⟨λc n cut q' e=>?_,λkey y hy=>?_,by lia,by lia,by lia,λkey=>?_,λkey=>?_,λt p=>?_⟩
 .have hne:st.q≠[]:=λz=>by rw[z]at e;cases e
  obtain⟨_,_,_,e1,_,m1,_⟩:=nV A.inv.fall hne;rw[e]at e1;cases e1;have hm:(c,(n,cut))∈bB st.q:=(m1 _).mpr (.inl rfl);have hd:=hin (A.inv.item _ hm);obtain⟨_,g2,g3⟩:=tZ v hd;obtain⟨d,g4,_⟩:=A.inv.ge _ hm;exact⟨hd.ne,by have g3:cut.length<=L:=g3;lia,g2,d,g4⟩
 .have hd:=hin (A.inv.pr y (A.ob.bgn key y hy).1).2.2;obtain⟨_,g2,g3⟩:=tZ v hd;exact⟨by lia,hd.ne⟩
 .have:=f2 key;exact⟨by lia,⟨by lia,by lia⟩⟩
 .have:=hg key;exact⟨by lia,⟨by lia,by lia⟩⟩
 .have:=hS t p;exact⟨by lia,by lia⟩
def lG(G:Sr)(i:Nat):List (Nat×Int):=(Cv i).flatMap λn=>G.places.map λp=>(n,p)
theorem zaB(G:Sr)(i:Nat):lG G (i+1)=lG G i++G.places.map λp=>(i,p):=by
 unfold lG;rw[List.range_succ,Md];simp
theorem y0(G:Sr)(i:Nat):(lG G i).length=i*G.places.length:=by
 unfold lG;rw[qO (k:=G.places.length) λn _=>by rw[Aa],Gh]
abbrev nZ(G:Sr):Nat×Int->Nat×List Int×aJ:=λx=>(x.1,[x.2],(G.wt x.1,1))
theorem zaC{O:Type}{f:O->Nat×List Int×aJ}{xs ys:List O}{st:SS}:e9 f (xs++ys) st=e9 f ys (e9 f xs st):=by
 unfold e9;rw[Jc]
theorem SK.told{C:Cc}{E:Env}{M0 M:Mm}{A:Ad}{st:SS}{kp:Option (Addr×List W)}(h:SK C E M0 M A st kp):M0 A.b=none/\L3.Sub (put M0 A.b (.dT (eM fK fX st.best))) M:=by
 obtain⟨M1,M2,M3,e,g,h1,h2,h3,h4,h5,h6,h7⟩:=h.ex;refine⟨h1.nb,λb u e=>?_⟩
 by_cases hb:b=A.b
 .subst hb;rw[aY]at e;cases e;exact h.ob
 .rw[aW hb]at e;exact h4.sub _ _ (h3.sub _ _ (h2.sub _ _ (h1.sub _ _ e)))
theorem zaD{n i:Nat}{w:W}(h:(jN 0 n)[i]? = some w):i<n/\w=.int (i:Nat):=by
 unfold jN at h;rw[Ap]at h;obtain⟨j,hj,rfl⟩:=Bh.mp h;obtain⟨h1,h2⟩:=Ai.mp hj;rw[List.getElem_range]at h2;rw[Gh]at h1;exact⟨h1,by rw[<-h2,Jd]⟩
theorem zaE{lo:Int}{n:Nat}:(jN lo n).length=n:=by unfold jN;simp
theorem zaF{C:Cc}{ws:List W}{M:Mm}{R:K3}(h:IX C ws M R):zap C (bR R) (bU zai ws) M:=by
 obtain⟨G,E,V,L,S,rfl,hrs,hown,ev,ok,v,hL,hpl,hS,hb,r⟩:=h;refine xI rfl (xI rfl (λa dx ha hdx hne=>⟨M,a,dx,E.rs,E.stp,rfl,hrs,rfl,ha,λM1 A hA hs=>⟨rfl,?_⟩⟩));rw[<-hown]at hs;have hs:SR C E M M1 A gU:=hs;subst hA;have hil:(kA G).length=G.rs.length*G.places.length:=y0 G G.rs.length;obtain⟨N,hN⟩:∃N,N=G.rs.length:=⟨_,rfl⟩;have hNE:E.rs.length=N:=by rw[hN,ev.rs]
 refine xI rfl ⟨(N:Int),by rw[Aa,hNE],by lia,by lia,?_⟩;rw[Dg];have sm0:Sm gU ((kA G).length+1):=⟨by show 0+_<_;lia,by show 0+_<_;lia⟩;refine iW (λi τ M'=>∃o5 o6,τ=[some (cM E.rs),some (.rl (G.places.map W.int)),some (.dt E.stp),some (.rl ((Cv G.rs.length).map λn=>.int (G.wt n))),some (.ref A.s),o5,o6]/\SR C E M M' A (e9 (nZ G) (lG G i) gU)) ⟨_,xI rfl hs⟩ ?_ ?_
 .rintro i w τ M2 hw ⟨o5,o6,rfl,hs2⟩ D1 hD1;obtain⟨hi,rfl⟩:=zaD hw;have hmul:(i+1)*G.places.length<=N*G.places.length:=Nat.mul_le_mul_right _ hi;rw[<-hN]at hil;refine xI rfl (iK (iW (λj τ M'=>∃o6,τ=[some (cM E.rs),some (.rl (G.places.map W.int)),some (.dt E.stp),some (.rl ((Cv G.rs.length).map λn=>.int (G.wt n))),some (.ref A.s),some (.int i),o6]/\SR C E M M' A (e9 (nZ G) ((G.places.map λp=>(i,p)).take j) (e9 (nZ G) (lG G i) gU))) (xI rfl hs2) ?_ ?_))
  .rintro j w τ M3 hw ⟨o6,rfl,hs3⟩ D2 hD2;rw[Ap]at hw;obtain⟨pl,hpl',rfl⟩:=Bh.mp hw;have hj:=(Ai.mp hpl').1;have hx:(G.places.map λp=>(i,p))[j]? = some (i,pl):=by rw[Ap,hpl'];rfl
   have hwt:cJ ((Cv G.rs.length).map λn=>W.int (G.wt n)) (i:Int)=some (.int (G.wt i)):=gZ (by rw[Ap,List.getElem?_range (by lia)];rfl);have smj:Sm (e9 (nZ G) ((G.places.map λp=>(i,p)).take j) (e9 (nZ G) (lG G i) gU)) 1:=by
    refine oZ (oZ (sm0.le ?_));rw[y0,Bp,Aa,hil,Nat.succ_mul]at *;lia
   refine xI rfl ⟨A.s,A.d,xI rfl ⟨hs3.os,uJ,xI rfl (xI rfl ⟨z1,xI rfl (xI rfl ⟨_,hwt,z2,E,M,A,_,i,[pl],(G.wt i,1),none,rfl,hs3,by simp,smj,λM4 hs4=>hD2 _ _ (xI rfl ?_)⟩)⟩)⟩⟩;rw[uM hx];exact hs4
  .rintro τ M3 ⟨o6,rfl,hs3⟩;refine hD1 _ _ ⟨_,xI rfl ?_⟩;rw[zaB,zaC];rw[Aa,Gs (by rw[Aa];exact An _)]at hs3;exact hs3
 .rintro τ M2 ⟨o5,o6,rfl,hs2⟩;rw[zaE]at hs2;have hst:e9 (nZ G) (lG G N) gU=lA G:=by rw[hN];rfl
  rw[hst]at hs2;have ln0:Ln (lA G) 0:=by
   obtain⟨a1,a2,a3⟩:=qX (f:=nZ G) (xs:=lG G N) (st:=gU);rw[hst]at a1 a2 a3;exact⟨by rw[a3];exact An _,by rw[a1];exact An _,by rw[a2];exact An _⟩
  obtain⟨Bm,hBm⟩:∃Bm,Bm=(kA G).length+G.rs.length*((L+1)*(V.length*V.length))*(S+V.length):=⟨_,rfl⟩;refine XE (λm τ M'=>∃st P cur T o5 o6,τ=[some (cM E.rs),some (.rl (G.places.map W.int)),some (.dt E.stp),some (.rl ((Cv G.rs.length).map λn=>.int (G.wt n))),some (.ref A.s),o5,o6]/\SR C E M M' A st/\All G S (kA G).length st P cur T/\Ln st T/\m=Bm-T/\st=yY G T) ⟨_,_,_,_,_,_,xI rfl ⟨hs2,XB ok S,ln0,rfl,rfl⟩⟩ ?_;rintro m τ M3 ⟨st,P,cur,T,o5,o6,rfl,hs3,A3,ln3,rfl,hst3⟩ D3 hD3;obtain⟨M4,hQ,back⟩:=hs3.que;refine xI rfl ⟨A.s,A.d,_,xI rfl ⟨hs3.os,yV,A.Q.o,A.Q.d,xI rfl ⟨hQ.ob,YB,M4,A.Q,st.q,rfl,hQ,bC (b:=!decide (st.q=[])) (λh=>?_) λh=>?_⟩⟩⟩
  .have hq:¬st.q=[]:=of_decide_eq_false (by rw[<-Gv (decide _),h];rfl);have rm:=zaA v hL A3 hS ln3 hb;obtain⟨_,_,f3⟩:=HD v A3;rw[<-hBm]at f3;have hpos:=Fd.mpr hq;have hql:=yP hs3.fall;obtain⟨P',cur',A4⟩:=XA ok A3 hS hq;exact xI rfl ⟨A.s,A.d,xI rfl ⟨hs3.os,ZG,G,E,M,A,st,rfl,hs3,ev,hq,rm,λM5 hs5=>hD3 _ _ _ (by lia:Bm-(T+1)<Bm-T) ⟨_,P',cur',T+1,_,xI rfl ⟨hs5,A4,ln3.next,rfl,congrArg (lW G) hst3⟩⟩⟩⟩
  .have hq:st.q=[]:=of_decide_eq_true (by rw[<-Gv (decide _),h];rfl);obtain⟨y1,y2⟩:=hs3.told;exact xI rfl ⟨A.s,A.d,_,xI rfl ⟨hs3.os,yW,_,y2,r st.best ⟨S,_,st,P,cur,T,A3,hq,rfl,hst3⟩ A.b y1⟩⟩
end Rg
namespace L2
open PySem Spec PyProof.Rows
section
variable {X:Cx}{pins:List (Addr×Obj)}{Z:St}{H:Hp}{s:Ag}{a:Addr}{u:HO}
def IsDict(u:HO):Prop:=(∃ks,u=.dK ks)\/∃ks,u=.dT ks
theorem Inv.frzD(I:Inv X pins Z H s)(e:H a=some u)(hd:IsDict u):∃o,Inv X pins Z (aX H a (.frz o u)) s:=by
 obtain⟨o,ho⟩:∃o,s.heap.get? a=some o:=by
  have:=I.hok a u e;rcases hd with⟨ks,rfl⟩|⟨ks,rfl⟩
  .obtain⟨_,_,_,_,o,_,_,e,_⟩:=this;exact⟨o,e⟩
  .obtain⟨_,_,_,_,o,_,_,e,_⟩:=this;exact⟨o,e⟩
 refine⟨o,?_⟩;have ne:∀{b:Addr} {v:HO},H b=some v->v≠u->b≠a:=λ{b v} e1 h z=>by subst z;rw[e]at e1;exact h (Cj e1).symm
 have nn:∀{b:Addr},H b=none->b≠a:=λ{b} e1 z=>by subst z;rw[e]at e1;cases e1
 have kt:∀b xs,H b=some (.tup xs)->aX H a (.frz o u) b=some (.tup xs):=λb xs eb=>by
  rw[bH (ne eb (λz=>by rcases hd with⟨ks,rfl⟩|⟨ks,rfl⟩<;>cases z))];exact eb
 have ko:∀b y,H b=some (.own y)->aX H a (.frz o u) b=some (.own y):=λb y eb=>by
  rw[bH (ne eb (λz=>by rcases hd with⟨ks,rfl⟩|⟨ks,rfl⟩<;>cases z))];exact eb
 refine I.step (h':=s.heap) (g':=s.gens) (d':=s.drawn) (t':=s.toks) (ch:=[]) (λ_ z=>nomatch z) (λb o _ _ _ e1 _=>e1) (λb o _ _ _ e1 _=>⟨o.slots,e1⟩) (λb o _ _ n=>by rw[bH (nn n)];exact n) (λb o _ e1=>⟨o,e1⟩) kt
  (λb ob v eb=>?_) (λb ps eb=>⟨#[],?_⟩) (λm hm=>hm) (λb v eb=>?_) I.bare
 .rw[bH (ne eb (λz=>by rcases hd with⟨ks,rfl⟩|⟨ks,rfl⟩<;>cases z))];exact eb
 .rw[bH (ne eb (λz=>by rcases hd with⟨ks,rfl⟩|⟨ks,rfl⟩<;>cases z)),eb];simp
 .by_cases hb:b=a
  .subst hb;rw[c9]at eb;cases eb;exact⟨ho,(I.hok b u e).stay (λ_ _ _ q=>q) (λc q=>ko c b q) kt⟩
  .rw[bH hb]at eb;exact(I.hok b v eb).stay (λ_ _ _ q=>q) (λc q=>ko c b q) kt
def zaG(Q:VK):VK:=λv H=>∃a u,v=.ref a/\H a=some u/\IsDict u/\∀o,Q v (aX H a (.frz o u))
theorem zaH{e:Expr}{t:TE}(h:PE X e t):PE X e (λZ H Q=>t Z H (zaG Q)):=λpins s Z H Q I q=>
 bA (h pins s Z H _ I q) λv s1 ⟨x,H1,I1,r1,a,u,e1,e2,e3,q1⟩=>by
  obtain⟨o,I2⟩:=I1.frzD e2 e3;exact⟨x,_,I2,r1,q1 o⟩
def uO(a:Addr)(o:Obj)(u:HO)(xs:List V):It:=
 ⟨λi H=>H a=some (.frz o u)/\i<xs.length,λi H x H'=>H'=H/\xs[i]? = some x,λi H=>H a=some (.frz o u)/\xs.length<=i⟩
theorem JC{P:Bv}{w:Cp}{K:Ac}{tg:Expr}(a it:Addr)(o:Obj)(u:HO)(xs:List V)(es:Array Hs)(ep:Nat)(hd:o.data=.dict es ep)(hn:es.size=xs.length)(hx:∀(i:Nat) (e:Hs),es[i]? = some e->∃x,xs[i]? = some x/\RelV x e.key):
  kK P w K tg (uO a o u xs) [it] it (λi h=>h.IsKeyIter it a i es.size ep) where
 mem:=by simp
 obj:=λi h st b hb=>by
  have e:b=it:=by simpa using hb
  subst e;obtain⟨o,e,c,d⟩:=st;exact⟨o,e,λv z=>by rw[d]at z;cases z⟩
 keep:=λi h h' st k=>st.at λo e=>k it (by simp) o e
 item:=by
  intro X hP hw hK hc i pins s Z H E I hf st hg;subst hP hw hK;obtain⟨e1,hi⟩:=hg;have ho:s.heap.get? a=some o:=(show cX X.prog X.w H s.heap a (.frz o u) from I.hok a _ e1).1;have hi2:i<es.size:=by lia
  obtain⟨x,hx1,rx⟩:=hx i es[i] (by simp[hi2]);obtain⟨f0,f1,f2,f3,f4,f5⟩:=hf it (by simp);refine TR st ho hd hi2 λh' st' sb=>?_;have I1:Inv X pins Z H {s with heap:=h'}:=I.turned (t':=s.toks) (λb o hb e=>(sb.2 b hb).trans e) f0 f1 f3 f4 f5;obtain⟨o',e,c,d⟩:=id st';exact⟨_,rfl,rZ (s:={s with heap:=h'}) e c d (by decide) ⟨x,H,I1,rx,⟨rfl,hx1⟩,st',λb hb=>(hf b hb).1⟩⟩
 done:=by
  intro X hP hw hK hc i pins s Z H E I hf st hg;subst hP hw hK;obtain⟨e1,hi⟩:=hg;have ho:s.heap.get? a=some o:=(show cX X.prog X.w H s.heap a (.frz o u) from I.hok a _ e1).1;refine TU (I.ok.hd hc) st ho hd (by lia) λh' hk=>⟨rfl,?_⟩
  exact I.turnedT (tk:=s.toks) hf λq o hq eq=>hk q o (λz=>hq (by simp[z])) eq
 self:=λ_ _ _ _ _ st h=>wpAny_pyIter_keyiter st h
end
end L2
namespace L3
open PySem Spec PyProof.Rows L2
section
variable {X:Cx}{e:Expr}{te:aZ}
def JD(t:aZ):aZ:=λτ M R=>t τ M λw M'=>∃p,w=.ref p/\((∃kvs,M' p=some (.dK kvs)/\R (.fk kvs) (del M' p))\/∃kvs,M' p=some (.dT kvs)/\R (.ft kvs) (del M' p))
theorem JE{K:Ac}{H:Hp}{M:Mm}{p:Addr}{o:Obj}{u:HO}{x:MO}(am:AM K H M)(e:M p=some x)(hd:IsDict u)(hu:H p=some u):Go H M (aX H p (.frz o u)) (del M p)/\AM K (aX H p (.frz o u)) (del M p)/\Kp H M (aX H p (.frz o u)) (del M p):=by
 have nn:∀{b:Addr},M b=none->b≠p:=λ{b} h z=>by subst z;rw[e]at h;cases h
 have go:Go H M (aX H p (.frz o u)) (del M p):=by
  refine⟨λb xs eb=>?_,λb ob v eb=>?_,λb v n eb=>?_⟩
  .rw[bH (nn (am.noTup eb))];exact eb
  .rw[bH (nn (am.noFrz eb))];exact eb
  .rw[bH (nn n),oG (nn n)];exact⟨eb,n⟩
 refine⟨go,λa o2 ea=>?_,λa v n ea=>?_,λa v ea=>?_⟩
 .have ne:a≠p:=λz=>by rw[z,nK]at ea;cases ea
  rw[oG ne]at ea;exact(am a o2 ea).go go (bH ne)
 .rw[bH (nn n),oG (nn n)];exact⟨ea,n⟩
 .by_cases ha:a=p
  .subst ha;exact⟨_,c9⟩
  .obtain⟨y,q⟩:=(am a v ea).has;exact⟨y,by rw[bH ha];exact q⟩
theorem zaI(h:E3 X e te):E3 X e (JD te):=
 (zaH h).weak λZ H Q z0=>z0.el λτ M R as am h k=>⟨τ,M,_,as,am,h,λv H' w M' k' am' av ⟨p,hw,r⟩=>by
  subst hw;obtain rfl:=av.inv;rcases r with⟨kvs,e,r⟩|⟨kvs,e,r⟩
  .obtain⟨ks,f,q⟩:=am' _ _ e;refine⟨p,.dK ks,rfl,f,.inl ⟨_,rfl⟩,λo=>?_⟩;obtain⟨g,am2,k2⟩:=JE (o:=o) am' e (.inl ⟨_,rfl⟩) f;exact k _ _ _ _ (k'.trans k2) am2 (.fk c9 q.keys (q.vals.go g)) r
  .obtain⟨ks,f,q⟩:=am' _ _ e;refine⟨p,.dT ks,rfl,f,.inr ⟨_,rfl⟩,λo=>?_⟩;obtain⟨g,am2,k2⟩:=JE (o:=o) am' e (.inr ⟨_,rfl⟩) f;exact k _ _ _ _ (k'.trans k2) am2 (.ft c9 q.keys (q.vals.go g)) r⟩
def y6:W->Mm->(List W->(Mm->Prop)->Mm->Prop)->Prop
 | .fk kvs,M1,R=>R (kvs.map λp=>wK p.1) (λ_=>True) M1
 | .ft kvs,M1,R=>R (kvs.map λp=>.tup (p.1.map wK)) (λ_=>True) M1
 | _,_,_=>False
theorem JF{K:Ac}{H0:Hp}{M0:Mm}{a:Addr}{o:Obj}{u:HO}{xs:List V}{ws:List W}(am0:AM K H0 M0)(e:H0 a=some (.frz o u))(q0:aM K H0 M0 xs ws):i8 K H0 M0 (uO a o u xs) ws λ_=>True:=by
 have st:∀H M,Kp H0 M0 H M->H a=some (.frz o u):=λH M k=>(k.fr _ _ (am0.noFrz e) e).1;refine⟨λi H M k am _ hi=>⟨st H M k,by rw[q0.length];exact hi⟩,λH M k am _=>⟨st H M k,by rw[q0.length];exact An _⟩,λi H M x H' k am _ hi y=>?_⟩;obtain⟨rfl,y⟩:=y;obtain⟨w,hw,av⟩:=(q0.kp am0 k).getV y;exact⟨w,hw,Kp.refl am,am,av⟩
theorem zaJ{K:Ac}{H:Hp}{M:Mm}:∀k:aK,AV K H M (kV k) (wK k)
 | .inl i=>.int i
 | .inr x=>.str x
theorem zaK{P:Bv}{w:Cp}{H:Hp}{h:Heap}{a:Addr}{ks:List (aK×V)}{o:Obj}(ok:dA P w H h)(e:H a=some (.frz o (.dK ks))):
  ∃es ep,pW h a es ep/\o.data=.dict es ep/\(a==Fq)=false/\es.size=ks.length/\∀(i:Nat) (en:Hs),es[i]? = some en->∃p,ks[i]? = some p/\RelV (kV p.1) en.key/\RelV p.2 en.val:=by
 obtain⟨ho,hz,hne,vs,rkv,o2,es,ep,h1,h2,h3,h4,h5,h6⟩:=(show cX P w H h a (.frz o (.dK ks)) from ok a _ e);rw[ho]at h1;cases h1;have l1:=rkv.length;have l2:=h5.length;rw[Fo]at l2;refine⟨es,ep,⟨o,ho,h2,h3⟩,h3,hne,by lia,λi en hen=>?_⟩;have hi:=(Ke.mp hen).1;obtain⟨⟨k,x⟩,hv⟩:∃v,vs[i]? = some v:=⟨_,Ak (by lia)⟩;obtain⟨z1,z2⟩:=h5.get? (by rw[Fy];exact hen) hv;have:∀{ks:List (aK×V)} {vs:List (aK×Ae)} {i:Nat},KV ks vs->vs[i]? = some (k,x)->∃v,ks[i]? = some (k,v)/\RelV v x:=by
  intro ks vs i r
  induction r generalizing i with
  | nil=>intro h;simp at h
  | @cons p q ps qs hq t ih=>
   intro h;cases i with
   | zero=>simp at h;subst h;obtain⟨p1,p2⟩:=p;cases hq.1;exact⟨p2,rfl,hq.2⟩
   | succ i=>rw[Gq]at h⊢;exact ih h
 obtain⟨v,q1,q2⟩:=this rkv hv;exact⟨(k,v),q1,wR z1,by rw[z2];exact q2⟩
theorem zaL{P:Bv}{w:Cp}{H:Hp}{h:Heap}{a:Addr}{ks:List (List aK×V)}{o:Obj}(ok:dA P w H h)(e:H a=some (.frz o (.dT ks))):
  ∃es ep,pW h a es ep/\o.data=.dict es ep/\(a==Fq)=false/\es.size=ks.length/\∃as:List Addr,as.length=ks.length/\(∀(i:Nat) (p:List aK×V) (b:Addr),ks[i]? = some p->as[i]? = some b->H b=some (.tup (p.1.map kV)))/\
   ∀(i:Nat) (en:Hs),es[i]? = some en->∃p b,ks[i]? = some p/\as[i]? = some b/\en.key=.ref b/\RelV p.2 en.val:=by
 obtain⟨ho,hz,hne,xs,rel,o2,es,ep,h1,h2,h3,h4,h5⟩:=(show cX P w H h a (.frz o (.dT ks)) from ok a _ e);rw[ho]at h1;cases h1;have l1:=Mb h4;have l2:=Eg rel;refine⟨es,ep,⟨o,ho,h2,h3⟩,h3,hne,by lia,xs.map λx=>x.2.1,by rw[Aa];lia,λi p b hp hb=>?_,λi en hen=>?_⟩
 .rw[Ap]at hb;obtain⟨x,hx,rfl⟩:=Bh.mp hb;have:∀{ks:List (List aK×V)} {xs:List (List aK×Addr×Ae)} {i:Nat},Gj (λ(p:List aK×V) (q:List aK×Addr×Ae)=>p.1=q.1/\H q.2.1=some (.tup (p.1.map kV))/\RelV p.2 q.2.2) ks xs->ks[i]? = some p->xs[i]? = some x->H x.2.1=some (.tup (p.1.map kV)):=by
   intro ks xs i r
   induction r generalizing i with
   | nil=>intro h;simp at h
   | @cons p q ps qs hq t ih=>
    intro h g;cases i with
    | zero=>simp at h g;subst h;subst g;exact hq.2.1
    | succ i=>rw[Gq]at h g;exact ih h g
  exact this rel hp hx
 .rw[entry_at h4 i]at hen;obtain⟨x,hx,rfl⟩:=Bh.mp hen;have:∀{ks:List (List aK×V)} {xs:List (List aK×Addr×Ae)} {i:Nat},Gj (λ(p:List aK×V) (q:List aK×Addr×Ae)=>p.1=q.1/\H q.2.1=some (.tup (p.1.map kV))/\RelV p.2 q.2.2) ks xs->xs[i]? = some x->∃p,ks[i]? = some p/\RelV p.2 x.2.2:=by
   intro ks xs i r
   induction r generalizing i with
   | nil=>intro h;simp at h
   | @cons p q ps qs hq t ih=>
    intro h;cases i with
    | zero=>simp at h;subst h;exact⟨p,rfl,hq.2.2⟩
    | succ i=>rw[Gq]at h⊢;exact ih h
  obtain⟨p,q1,q2⟩:=this rel hx;exact⟨p,x.2.1,q1,by rw[Ap,hx];rfl,rfl,q2⟩
theorem zaM{tg:Expr}:mV X tg (tK X.K y6):=by
 rintro pins s Z H x u R' I r1 ⟨wx,M,R,ax,am,h,k⟩;cases ax<;>first|exact(show False from h).elim|skip
 case fk a o ks kvs e ke q=>
  cases (show u=Value.ref a from r1);obtain⟨es,ep,hr,hd,hne,hsz,hen⟩:=zaK I.hok e;have fp:∀b∈[s.heap.objs.size],iC X pins H b:=λb hb=>by
   have e:b=s.heap.objs.size:=by simpa using hb
   subst e;exact I.fpOk (An _) (I.hok.fresh (An _))
  refine FC hne hr ⟨s.heap.objs.size,[s.heap.objs.size],_,uO a o (.dK ks) (ks.map λp=>kV p.1),H,rfl,I.kept (t':=s.toks) λb o e=>Af _ e,JC a _ o _ _ es ep hd (by rw[Aa];exact hsz) (λi en he=>?_),⟨_,Ay _ rfl,rfl,rfl⟩,fp,k _ _ _ _ _ (Kp.refl am) am (JF am e ?_) h⟩
  .obtain⟨p,h1,h2,_⟩:=hen i en he;exact⟨kV p.1,by rw[Ap,h1];rfl,h2⟩
  .have hk:(ks.map λp=>kV p.1)=(ks.map Dz).map kV:=by rw[Cd];rfl
   have hw:(kvs.map λp=>wK p.1)=(kvs.map Dz).map wK:=by rw[Cd];rfl
   rw[hk,hw,ke];generalize kvs.map Dz=l
   induction l with
   | nil=>exact .nil
   | cons z l ih=>exact .cons (zaJ z) ih
 case ft a o ks kvs e ke q=>
  cases (show u=Value.ref a from r1);obtain⟨es,ep,hr,hd,hne,hsz,as,hl,hat,hen⟩:=zaL I.hok e;have fp:∀b∈[s.heap.objs.size],iC X pins H b:=λb hb=>by
   have e:b=s.heap.objs.size:=by simpa using hb
   subst e;exact I.fpOk (An _) (I.hok.fresh (An _))
  refine FC hne hr ⟨s.heap.objs.size,[s.heap.objs.size],_,uO a o (.dT ks) (as.map V.ref),H,rfl,I.kept (t':=s.toks) λb o e=>Af _ e,JC a _ o _ _ es ep hd (by rw[Aa];lia) (λi en he=>?_),⟨_,Ay _ rfl,rfl,rfl⟩,fp,k _ _ _ _ _ (Kp.refl am) am (JF am e ?_) h⟩
  .obtain⟨p,b,h1,h2,h3,_⟩:=hen i en he;exact⟨.ref b,by rw[Ap,h2];rfl,by rw[h3];rfl⟩
  .have hw:(kvs.map λp=>W.tup (p.1.map wK))=(ks.map Dz).map λz=>W.tup (z.map wK):=by rw[ke,Cd];rfl
   rw[hw];have:∀(ks:List (List aK×V)) (as:List Addr),as.length=ks.length->(∀(i:Nat) (p:List aK×V) (b:Addr),ks[i]? = some p->as[i]? = some b->H b=some (.tup (p.1.map kV)))->aM X.K H M (as.map V.ref) ((ks.map Dz).map λz=>W.tup (z.map wK)):=by
    intro ks
    induction ks with
    | nil=>intro as hl _;cases as with
     | nil=>exact .nil
     | cons b r=>simp at hl
    | cons p ks ih=>
     intro as hl hat;cases as with
     | nil=>simp at hl
     | cons b r=>
      refine .cons (.tup (hat 0 p b rfl rfl) (HN p.1)) (ih r (by simpa using hl) λi p b h1 h2=>hat (i+1) p b (by simpa using h1) (by simpa using h2))
   exact this ks as hl hat
theorem zaN{tg l:Expr}{tl:aZ}(hl:E3 X l tl):PI X tg l (iV X.K (dX y6 tl)):=xP hl zaM
end
end L3
namespace L2
open PySem Spec PyProof.Rows
section
variable {X:Cx}{a:Expr}{ta:TA}{p p2 pos pos2:Pos}
def zaO(ta:TA):TE:=λZ H Q=>ta Z H λvs H1=>∃n:Nat,vs=[.int n]/\n<=1000/\∀q,H1 q=none->Q (.ref q) (aX H1 q (.lst ((Cv n).map λ(i:Nat)=>V.int i)))
theorem zaP(hc:X.calm=true)(hg:Gl X "list")(hm:X.mg "list" = none)(hg2:Gl X "range")(hm2:X.mg "range" = none)(ha:PA X [a] ta)(hs1:Be [.Call (.Name "range" p2) [a] [] pos2] X.env=[(false,eval (.Call (.Name "range" p2) [a] [] pos2) X.env)]:=by rfl)(hs2:Be [a] X.env=[(false,eval a X.env)]:=by rfl):
  PE X (.Call (.Name "list" p) [.Call (.Name "range" p2) [a] [] pos2] [] pos) (zaO ta):=by
 intro pins s Z H Q I h;refine Dl (kJ I hg hm (by decide +kernel:Co "list" = some (.type "list")) (Cw ?_ hs1 rfl));rw[hs1];refine Calls.spliced_cons (Dl (kJ I hg2 hm2 (by decide +kernel:Co "range" = some (.type "range")) (Cw (bA (ha pos2 pins s Z H _ I h) λus s1 ⟨vs,H1,I1,r1,q1⟩=>?_) hs2 rfl)));obtain⟨n,rfl,hn,q⟩:=q1;obtain⟨u,rfl,ru⟩:=vals1 r1;obtain⟨t,rfl⟩:=ru;refine call_range_1 (Calls.spliced_nil ?_);have sz:Builtin.Range.rangeSize 0 (n:Int) 1=(n:Nat):=by rw[rangeSize_one];split<;>lia
 refine call_list_range (n:=n) (b:=(n:Int)) (I1.ok.hd hc) (IsRange.new _ _ _ _ _ _ _) (PySem.small_one (by decide) (by decide) (by lia) (by lia)) sz (by lia) λh' tk acc c hk hS hacc=>?_;have up:∀b o,s1.heap.get? b=some o->h'.get? b=some o:=λb o e=>hk b o (Af _ e);have ez:(s1.heap.push {cls:=.type "range",data:=.fields #[.int 0 0,.int (n:Int) t,.int 1 0]}).objs.size=s1.heap.objs.size+1:=Dq _ _;refine⟨.ref _,_,I1.laid (o:=.lst ((Cv n).map λ(i:Nat)=>V.int i)) (t':=tk) up ?_ ⟨by simp[Lb];lia,acc.toList,c,?_,by rw[Jr];exact hS⟩,rfl,q _ (I1.hok.fresh ?_)⟩
 .first|exact Gi (Nat.lt_of_lt_of_eq (Jm _) (Dq _ _).symm)|(rw[Dq];exact Ly _)
 .refine sP (by simp[hacc.1]) λj v hv=>?_;have hv':acc[j]? = some v:=by simpa using hv
  obtain⟨t',rfl⟩:=hacc.2 j v hv';have hj:j<n:=by have:=(Ke.mp hv').1;rw[hacc.1]at this;exact this
  refine⟨.int j,?_,t',by simp⟩;simp[hj]
 .first|exact Gi (Nat.lt_of_lt_of_eq (Jm _) (Dq _ _).symm)|(rw[Dq];exact Ly _)
end
end L2
namespace L3
open PySem Spec PyProof.Rows L2
section
variable {X:Cx}{a:Expr}{ta:aZ}
def JG(ta:aZ):aZ:=λτ M R=>ta τ M λw M1=>∃n:Nat,w=.int n/\n<=1000/\a9 ((Cv n).map λ(i:Nat)=>W.int i) M1 R
theorem zaQ{p p2 pos pos2:Pos}(hg:Gl X "list")(hm:X.mg "list" = none)(hg2:Gl X "range")(hm2:X.mg "range" = none)(ha:E3 X a ta)(hc:X.calm=true:=by rfl)(hs1:Be [.Call (.Name "range" p2) [a] [] pos2] X.env=[(false,eval (.Call (.Name "range" p2) [a] [] pos2) X.env)]:=by rfl)(hs2:Be [a] X.env=[(false,eval a X.env)]:=by rfl):
  E3 X (.Call (.Name "list" p) [.Call (.Name "range" p2) [a] [] pos2] [] pos) (JG ta):=
 (zaP hc hg hm hg2 hm2 (aC ha aF (by rw[hs2];rfl)) hs1 hs2).weak λZ H Q z0=>z0.el λτ M R as am h k=>⟨τ,M,λws M1=>∃n:Nat,ws=[.int n]/\n<=1000/\a9 ((Cv n).map λ(i:Nat)=>W.int i) M1 R,as,am,(show aB ta aE τ M _ from(show ta τ M _ from by
  refine(id h:ta τ M _) |> λz=>?_
  exact Eq.mp (congrArg (ta τ M) (funext λw=>funext λM1=>propext ⟨λ⟨n,e,r⟩=>⟨n,by rw[e],r⟩,λ⟨n,e,r⟩=>⟨n,(List.cons.inj e).1,r⟩⟩)) z)),λvs H1 ws M1 k1 am1 ax ⟨n,e,hn,r⟩=>by
  subst e;obtain⟨v,rfl,av⟩:=ax.one;obtain rfl:=av.inv;refine⟨n,rfl,hn,λq hq=>iQ am1 (k.kp k1) hq ?_ r⟩;have:∀l:List Nat,aM X.K H1 M1 (l.map λ(i:Nat)=>V.int i) (l.map λ(i:Nat)=>W.int i):=by
   intro l
   induction l with
   | nil=>exact .nil
   | cons i r ih=>exact .cons (.int _) ih
  exact this _⟩
end
end L3
namespace Rg
open PySem Spec PyProof.Rows L2 L3
theorem zaR{n:Nat}{p:Int}:p∈((Cv (n+1)).map λ(i:Nat)=>(i:Int))↔0<=p/\p<=n:=by
 rw[Bg];constructor
 .rintro⟨i,hi,rfl⟩;have:=Ho.mp hi;lia
 .intro h;exact⟨p.toNat,Ho.mpr (by lia),by lia⟩
theorem y7{G:Sr}{B:bM}(h:fG G B):(B.map (·.1)).Nodup:=by
 obtain⟨S,I0,st,P,cur,T,A,hq,rfl,_⟩:=h;have o:=A.ob.ord;generalize st.best=B at o;rw[Kf,List.pairwise_map];refine Kk.mpr λi j hi hj hij e=>?_;have sp:B=B.take j++B[j]::B.drop (j+1):=by rw[<-Hz hj,Hd]
 have hn:=(o _ _ _ sp).2;have hm:B[i]∈B.take j:=by
  rw[List.mem_iff_getElem];exact⟨i,by rw[Bp];lia,by rw[List.getElem_take]⟩
 unfold aH at hn;rw[Option.map_eq_none_iff,List.find?_eq_none]at hn;have:=hn _ hm;rw[decide_eq_true_eq]at this;exact this e
theorem lX{l:List Int}{e:Int}{k:Nat}(h:k<l.length):(l++[e]).getD k 0=l.getD k 0:=by
 rw[Fw,Fw,Gd h]
theorem uP{l:List Int}{e:Int}:(l++[e]).getD l.length 0=e:=by
 rw[Fw,List.getElem?_concat_length];rfl
theorem getD_last{l:List Int}:l.getD (l.length-1) 0=l.getLastD 0:=by
 rw[Fw,Hy,List.getLast?_eq_getElem?]
theorem zaS{l:List Int}:l.getD 0 0=l.headD 0:=by cases l<;>rfl
abbrev En:=bD×aJ×Nat×List Int
structure lY(G:Sr)(pre:bM)(e:En)(r:a7):Prop where
 no:aH pre e.1=none
 ru:G.rs[e.2.2.1]? = some r
 fa:e.1=(r.name,e.2.2.2.headD 0,e.2.2.2.getLastD 0)
 ln:r.parts.length+1<=e.2.2.2.length
 pn:∀k t,r.parts[k]? = some t->G.own t=true->(aH pre (t,e.2.2.2.getD k 0,e.2.2.2.getD (k+1) 0)).isSome=true
 pw:∀k t,r.parts[k]? = some t->G.own t=false->∃pr,(e.2.2.2.getD (k+1) 0,pr)∈G.steps t (e.2.2.2.getD k 0)
def pA(G:Sr)(B:bM):Prop:=∀pre e post,B=pre++e::post->∃r,lY G pre e r
theorem zaT{G:Sr}{B:bM}{n:Nat}{cut:List Int}{c:aJ}(g:GI G B n cut c):∀r,G.rs[n]? = some r->cut.length<=r.parts.length+1/\0<cut.length/\
  ∀k t,k+1<cut.length->r.parts[k]? = some t->(G.own t=true->(aH B (t,cut.getD k 0,cut.getD (k+1) 0)).isSome=true)/\(G.own t=false->∃pr,(cut.getD (k+1) 0,pr)∈G.steps t (cut.getD k 0)):=by
 induction g with
 | start h1 h2=>exact λr _=>⟨Nat.le_add_left _ _,Nat.zero_lt_one,λk t h=>by simp at h⟩
 | @word r' cut c part e pr g h1 h2 h3 h4 ih=>
  intro r hr;rw[h1]at hr;cases hr;obtain⟨i1,i2,i3⟩:=ih r' h1;have hl:=(Ai.mp h2).1;refine⟨by simp;lia,by simp,λk t hk ht=>?_⟩;rw[Ah,Bo]at hk
  by_cases z:k+1<cut.length
  .rw[lX (by lia),lX z];exact i3 k t z ht
  .obtain rfl:k=cut.length-1:=by lia
   rw[h2]at ht;cases ht;rw[lX (by lia),getD_last,show cut.length-1+1=cut.length by lia,uP];exact⟨λz=>(by rw[h3]at z;cases z),λ_=>⟨_,h4⟩⟩
 | @name r' cut c m part e k' g h1 h2 h3 h4 ih=>
  intro r hr;rw[h1]at hr;cases hr;obtain⟨i1,i2,i3⟩:=ih r' h1;have hl:=(Ai.mp h2).1;refine⟨by simp;lia,by simp,λk t hk ht=>?_⟩;rw[Ah,Bo]at hk
  by_cases z:k+1<cut.length
  .rw[lX (by lia),lX z];exact i3 k t z ht
  .obtain rfl:k=cut.length-1:=by lia
   rw[h2]at ht;cases ht;rw[lX (by lia),getD_last,show cut.length-1+1=cut.length by lia,uP];exact⟨λ_=>(by rw[h4];rfl),λz=>(by rw[h3]at z;cases z)⟩
theorem uQ{U J:Type}[DecidableEq U](a b:List (U×J))(k:U):aH (a++b) k=(aH a k).or (aH b k):=by
 unfold aH;rw[List.find?_append,Option.map_or]
theorem JH{G:Sr}{B:bM}(h:fG G B):∀pre e post,B=pre++e::post->∃r,lY G pre e r/\e.2.2.2.length=r.parts.length+1:=by
 obtain⟨S,I0,st,P,cur,T,A,hq,rfl,_⟩:=h;intro pre e post hb;obtain⟨g,hn⟩:=A.ob.ord pre e post hb;have hat:aH st.best e.1=some e.2:=by rw[hb,uQ,hn,eA,if_pos rfl];rfl
 obtain⟨p1,p2,_⟩:=A.ob.bst e.1 e.2.1 e.2.2.1 e.2.2.2 hat;obtain⟨r,hr⟩:=g.rule;obtain⟨i1,i2,i3⟩:=zaT g r hr;rw[part_of hr]at p1;have p1:=Kl.mp p1;have hl:e.2.2.2.length=r.parts.length+1:=by lia
 refine⟨r,⟨hn,hr,?_,Fc hl.symm,λk t ht=>(i3 k t ?_ ht).1,λk t ht=>(i3 k t ?_ ht).2⟩,hl⟩
 .rw[p2];unfold cZ dG;rw[hr]
 all_goals have:=(Ai.mp ht).1;lia
theorem uR{G:Sr}{B:bM}(h:fG G B):pA G B:=λpre e post hb=>let ⟨r,E,_⟩:=JH h pre e post hb;⟨r,E⟩
section
variable (G:Sr)(fw:Str->Int->Int->W)(fr:Nat->List W->W)
def lZ(T:bD->W)(cut:List Int)(ps:List Str):List W:=ps.zipIdx.map λx=>if G.own x.1=true then T (x.1,cut.getD x.2 0,cut.getD (x.2+1) 0) else fw x.1 (cut.getD x.2 0) (cut.getD (x.2+1) 0)
def kE(n:Nat):List Str:=((G.rs[n]?).map a7.parts).getD []
def uS(T:List (bD×W))(e:En):bD×W:=(e.1,fr e.2.2.1 (lZ G fw (λf=>(aH T f).getD .non) e.2.2.2 (kE G e.2.2.1)))
def stepT(T:List (bD×W))(e:En):List (bD×W):=T++[uS G fw fr T e]
def lH(B:bM):List (bD×W):=B.foldl (stepT G fw fr) []
def rA(B:bM)(f:bD):W:=(aH (lH G fw fr B) f).getD .non
end
section
variable {G:Sr}{fw:Str->Int->Int->W}{fr:Nat->List W->W}
theorem JI(B:bM)(T:List (bD×W)):∃m,B.foldl (stepT G fw fr) T=T++m/\m.map Dz=B.map (·.1):=by
 induction B generalizing T with
 | nil=>exact⟨[],by simp,rfl⟩
 | cons e B ih=>
  obtain⟨m,h1,h2⟩:=ih (stepT G fw fr T e);refine⟨uS G fw fr T e::m,?_,congrArg (e.1::·) h2⟩;rw[Ea,h1,stepT,De];rfl
theorem iL{U J:Type}[DecidableEq U]{t:List (U×J)}{k:U}:(aH t k).isSome=true↔k∈t.map (·.1):=by
 rw[<-mX,List.any_eq_true,Bg];exact⟨λ⟨x,h,e⟩=>⟨x,h,of_decide_eq_true e⟩,λ⟨x,h,e⟩=>⟨x,h,decide_eq_true e⟩⟩
theorem uU{B pre post:bM}{e:En}{r:a7}(hb:B=pre++e::post)(E:lY G pre e r):rA G fw fr B e.1=fr e.2.2.1 (lZ G fw (rA G fw fr B) e.2.2.2 r.parts):=by
 obtain⟨m0,a1,a2⟩:=JI (G:=G) (fw:=fw) (fr:=fr) pre [];rw[Gw]at a1;obtain⟨m,h1,h2⟩:=JI (G:=G) (fw:=fw) (fr:=fr) post (stepT G fw fr (lH G fw fr pre) e);have ht:lH G fw fr B=lH G fw fr pre++(uS G fw fr (lH G fw fr pre) e::m):=by
  unfold lH at h1⊢;rw[hb,Jc,Ea,h1,stepT,De];rfl
 have hk:(lH G fw fr pre).map Dz=pre.map (·.1):=by unfold lH;rw[a1];exact a2
 have hn:aH (lH G fw fr pre) e.1=none:=by
  rw[<-Option.not_isSome_iff_eq_none,iL,hk,<-iL,E.no];exact Av
 have hp:kE G e.2.2.1=r.parts:=by unfold kE;rw[E.ru];rfl
 unfold rA;rw[ht,uQ,hn,eA,if_pos (show(uS G fw fr (lH G fw fr pre) e).1=e.1 from rfl)];show fr e.2.2.1 (lZ G fw _ e.2.2.2 (kE G e.2.2.1))=_;rw[hp];refine congrArg _ (Ic λx hx=>?_);obtain⟨t,k⟩:=x;have hx:=Gx.mp hx
 by_cases ho:G.own t=true
 .rw[if_pos ho,if_pos ho];dsimp only;rw[uQ];have hs:=E.pn k t hx ho;rw[iL,<-hk,<-iL]at hs;obtain⟨v,hv⟩:=Dh.mp hs;rw[hv];rfl
 .rw[if_neg ho,if_neg ho]
end
end Rg
namespace M47
open PySem Spec PyProof.Rows L2 L3 Rg
abbrev SI:=Str×Int×Int
inductive PP(S:Str->Int->Int->Int->List SI->Prop):List Str->Int->Int->Int->List SI->Prop
 | nil {b:Int}:PP S [] b b 0 []
 | cons {t:Str} {ts:List Str} {b m e u v:Int} {x y:List SI}:S t b m u x->PP S ts m e v y->PP S (t::ts) b e (u+v) (x++y)
theorem PP.snoc{S:Str->Int->Int->Int->List SI->Prop}{t:Str}{m e u:Int}{x:List SI}(h:S t m e u x):∀{ts:List Str} {b v:Int} {y:List SI},PP S ts b m v y->PP S (ts++[t]) b e (v+u) (y++x)
 | _,_,_,_,.nil=>by
  have:=PP.cons h (.nil (S:=S));rw[Int.add_zero,Cm]at this;rw[Jd];exact this
 | _,_,_,_,.cons h1 h2=>by
  rw[Ju,De];exact .cons h1 (h2.snoc h)
theorem PP.imp{S S':Str->Int->Int->Int->List SI->Prop}(h:∀t b e v x,S t b e v x->S' t b e v x){ts:List Str}{b e v:Int}{y:List SI}(p:PP S ts b e v y):PP S' ts b e v y:=by
 induction p with
 | nil=>exact .nil
 | cons a _ ih=>exact .cons (h _ _ _ _ _ a) ih
def PS(G:Sr)(N:bD->Int->List SI->Prop)(t:Str)(b e v:Int)(x:List SI):Prop:=(G.own t=false/\(e,v)∈G.steps t b/\x=[(t,b,e)])\/(G.own t=true/\N (t,b,e) v x)
theorem PS.imp{G:Sr}{N N':bD->Int->List SI->Prop}(h:∀f v x,N f v x->N' f v x)(t:Str)(b e v:Int)(x:List SI)(p:PS G N t b e v x):PS G N' t b e v x:=Or.imp id (λq=>⟨q.1,h _ _ _ q.2⟩) p
def Cs(G:Sr)(f:bD)(v:Int):Prop:=∃n cut k,DI G n cut (v,k)/\eD G n cut=none/\f=cZ G n cut
theorem uV{cut:List Int}{z:Int}(h:cut≠[]):(cut++[z]).headD 0=cut.headD 0/\(cut++[z]).getLastD 0=z/\(cut++[z]).length-1=(cut.length-1)+1:=by
 cases cut with
 | nil=>exact absurd rfl h
 | cons x cut=>exact⟨rfl,by rw[<-getD_last,Ah,Bo,Nat.add_sub_cancel,uP],by simp⟩
theorem zaU{G:Sr}{n:Nat}{r:a7}(hr:G.rs[n]? = some r){ts:List Str}{b e v:Int}{y:List SI}(h:PP (PS G λf v _=>Cs G f v) ts b e v y):∀{cut:List Int} {c k:Int},DI G n cut (c,k)->cut.getLastD 0=b->r.parts.drop (cut.length-1)=ts->
  ∃cut' k',DI G n cut' (c+v,k')/\cut'.getLastD 0=e/\cut'.headD 0=cut.headD 0/\r.parts[cut'.length-1]? = none:=by
 induction h with
 | nil=>
  intro cut c k d hl hd;refine⟨cut,k,by rw[Int.add_zero];exact d,hl,rfl,?_⟩;rw[Kl];exact List.drop_eq_nil_iff.mp hd
 | @cons t ts b m e u v x y hs _ ih=>
  intro cut c k d hl hd;have hp:r.parts[cut.length-1]? = some t:=by rw[<-Nat.add_zero (cut.length-1),<-List.getElem?_drop,hd];rfl
  have hd':r.parts.drop (cut.length-1+1)=ts:=by rw[<-List.drop_drop,hd];rfl
  rcases hs with⟨ho,hs,_⟩|⟨ho,n',cut',k',d',p',f'⟩
  .obtain⟨s1,s2,s3⟩:=uV (z:=m) d.ne;obtain⟨c2,k2,h1,h2,h3,h4⟩:=ih (cut:=cut++[m]) (c:=c+u) (k:=k) (DI.word d hr hp ho (by rw[hl];exact hs)) s2 (by rw[s3];exact hd');exact⟨c2,k2,by rw[<-Ju];exact h1,h2,h3.trans s1,h4⟩
  .unfold cZ at f';simp only[Dn]at f';obtain⟨f1,f2,f3⟩:=f';obtain⟨s1,s2,s3⟩:=uV (z:=cut'.getLastD 0) d.ne;obtain⟨c2,k2,h1,h2,h3,h4⟩:=ih (cut:=cut++[cut'.getLastD 0]) (c:=c+u) (k:=k+k') (DI.name d hr hp ho d' p' f1.symm (by rw[hl,f2])) (by rw[s2,f3]) (by rw[s3];exact hd');exact⟨c2,k2,by rw[<-Ju];exact h1,h2,h3.trans s1,h4⟩
theorem zaV{G:Sr}(hw:∀n,G.wt n=0){r:a7}(hr:r∈G.rs){b e v:Int}{y:List SI}(hb:b∈G.places)(h:PP (PS G λf v _=>Cs G f v) r.parts b e v y):Cs G (r.name,b,e) v:=by
 obtain⟨n,hn⟩:=Lp hr;obtain⟨cut,k,h1,h2,h3,h4⟩:=zaU hn h (DI.start hn hb) rfl rfl;rw[hw,Jd]at h1;refine⟨n,cut,k,h1,(part_of hn).trans h4,?_⟩;unfold cZ dG;rw[hn,h2,h3];rfl
theorem zaW{G:Sr}{B:bM}(h:fG G B){f:bD}{v:Int}(c:Cs G f v):∃x,aH B f=some x/\x.1.1<=v:=by
 obtain⟨n,cut,k,d,p,rfl⟩:=c;obtain⟨_,_,st,_,_,_,A,hq,rfl,_⟩:=h;obtain⟨m,k',e,l⟩:=W0 A.inv A.ob A.ini hq d p;refine⟨_,e,?_⟩;unfold Le at l;simp only at l⊢;lia
def lI(yl:bD->List SI)(own:Str->Bool)(cut:List Int)(ps:List Str):List SI:=(ps.zipIdx.map λx=>if own x.1=true then yl (x.1,cut.getD x.2 0,cut.getD (x.2+1) 0) else [(x.1,cut.getD x.2 0,cut.getD (x.2+1) 0)]).flatten
theorem JJ{yl:bD->List SI}{own:Str->Bool}{cut:List Int}{e:Int}{ps:List Str}{t:Str}(h:ps.length+1=cut.length):lI yl own (cut++[e]) (ps++[t])=lI yl own cut ps++if own t=true then yl (t,cut.getLastD 0,e) else [(t,cut.getLastD 0,e)]:=by
 unfold lI;rw[List.zipIdx_append,Bb,Gp];congr 1
 .congr 1;refine Ic λx hx=>?_;have:=(List.mem_zipIdx hx).2.1;rw[lX (by lia),lX (by lia)]
 .simp only[Kv,List.zipIdx_nil,Bd,Ka,Ef,List.flatten_nil,Cm,Fi];rw[lX (by lia),show ps.length=cut.length-1 by lia,getD_last,show cut.length-1+1=cut.length by lia,uP]
theorem zaX{G:Sr}(hw:∀n,G.wt n=0){pre:bM}(yl:bD->List SI){n:Nat}{cut:List Int}{c:aJ}(g:GI G pre n cut c):∃r,G.rs[n]? = some r/\cut.headD 0∈G.places/\cut.length<=r.parts.length+1/\
  PP (PS G λf v x=>(∃z,aH pre f=some z/\z.1.1=v)/\x=yl f) (r.parts.take (cut.length-1)) (cut.headD 0) (cut.getLastD 0) c.1 (lI yl G.own cut (r.parts.take (cut.length-1))):=by
 induction g with
 | @start r p hr hp=>exact⟨r,hr,hp,by simp,by rw[hw];exact .nil⟩
 | @word r cut c part e pr g hr hp ho hs ih=>
  obtain⟨r',hr',h1,h2,h3⟩:=ih;rw[hr']at hr;cases hr;obtain⟨s1,s2,s3⟩:=uV (z:=e) g.ne;have hl:=(Ai.mp hp).1;have hne:=Fd.mpr g.ne;refine⟨r,hr',by rw[s1];exact h1,by simp;lia,?_⟩;rw[s1,s2,s3,lB hp,JJ (by rw[Bp];lia),if_neg (by rw[ho];exact Av)];exact h3.snoc (.inl ⟨ho,hs,rfl⟩)
 | @name r cut c m part e k g hr hp ho hb ih=>
  obtain⟨r',hr',h1,h2,h3⟩:=ih;rw[hr']at hr;cases hr;obtain⟨s1,s2,s3⟩:=uV (z:=e) g.ne;have hl:=(Ai.mp hp).1;have hne:=Fd.mpr g.ne;refine⟨r,hr',by rw[s1];exact h1,by simp;lia,?_⟩;rw[s1,s2,s3,lB hp,JJ (by rw[Bp];lia),if_pos ho];exact h3.snoc (.inr ⟨ho,⟨_,hb,rfl⟩,rfl⟩)
def uW(x:SI):W:=.tup [.str x.1,.int x.2.1,.int x.2.2]
def y8:W->List SI
 | .rl l=>l.filterMap λw=>match w with|.tup [.str t,.int b,.int e]=>some (t,b,e)|_=>none
 | _=>[]
theorem JK(l:List SI):y8 (.rl (l.map uW))=l:=by
 show(l.map uW).filterMap _=l;rw[Kg];exact List.filterMap_some
def yT(G:Sr)(B:bM)(f:bD):List SI:=y8 (rA G (λt b e=>.rl [uW (t,b,e)]) (λ_ vs=>.rl ((vs.flatMap y8).map uW)) B f)
theorem rB{G:Sr}{B pre post:bM}{e:En}{r:a7}(hb:B=pre++e::post)(E:lY G pre e r):yT G B e.1=lI (yT G B) G.own e.2.2.2 r.parts:=by
 unfold yT;rw[uU hb E,JK];unfold lI lZ;rw[List.flatMap_def,Cd];congr 1;refine Ic λx _=>?_;simp only[Lm]
 by_cases h:G.own x.1=true
 .rw[if_pos h,if_pos h]
 .rw[if_neg h,if_neg h];exact JK [(x.1,e.2.2.2.getD x.2 0,e.2.2.2.getD (x.2+1) 0)]
theorem zaY{G:Sr}(hw:∀n,G.wt n=0){B:bM}(h:fG G B){pre:bM}{e:En}{post:bM}(hb:B=pre++e::post):∃r,G.rs[e.2.2.1]? = some r/\e.1.1=r.name/\e.1.2.1∈G.places/\
  PP (PS G λf v x=>(∃z,aH pre f=some z/\z.1.1=v)/\x=yT G B f) r.parts e.1.2.1 e.1.2.2 e.2.1.1 (yT G B e.1):=by
 obtain⟨r0,E⟩:=uR h pre e post hb;obtain⟨S,I0,st,P,cur,T,A,hq,rfl,_⟩:=h;obtain⟨g,hn⟩:=A.ob.ord pre e post hb;obtain⟨r,hr,h1,h2,h3⟩:=zaX hw (yT G st.best) g;have:=E.ru;rw[hr]at this;cases this;have hl:=E.ln;rw[Gs (by lia),<-rB hb E]at h3;have hf:=E.fa;refine⟨_,hr,by rw[hf],by rw[hf];exact h1,?_⟩;rw[<-show e.1.2.1=e.2.2.2.headD 0 by rw[hf],<-show e.1.2.2=e.2.2.2.getLastD 0 by rw[hf]]at h3;exact h3
theorem zaZ{B pre post:bM}{e:En}(hb:B=pre++e::post){f:bD}{z:aJ×Nat×List Int}(h:aH pre f=some z):∃p q,pre=p++(f,z)::q/\B=p++(f,z)::(q++e::post):=by
 obtain⟨a,b,e1⟩:=j9 h;exact⟨a,b,e1,by rw[hb,e1,De];rfl⟩
theorem uX{G:Sr}(hw:∀n,G.wt n=0){B:bM}(h:fG G B)(Q:bD->Int->List SI->Prop)(hq:∀r∈G.rs,∀b∈G.places,∀e v y,PP (PS G Q) r.parts b e v y->Q (r.name,b,e) v y):∀(k:Nat) (pre:bM) (e:En) (post:bM),pre.length=k->B=pre++e::post->Q e.1 e.2.1.1 (yT G B e.1):=by
 intro k
 induction k using Nat.strongRecOn with
 | ind k ih=>
  intro pre e post hk hb;obtain⟨r,hr,h1,h2,h3⟩:=zaY hw h hb;have:=hq r (Bf hr) _ h2 _ _ _ (h3.imp (PS.imp λf v x ⟨⟨z,z1,z2⟩,zx⟩=>by
   obtain⟨p,q,e1,e2⟩:=zaZ hb z1;have:=ih p.length (by rw[<-hk,e1];simp) p (f,z) _ rfl e2;rw[z2]at this;rw[zx];exact this))
  rwa [<-h1]at this
end M47
namespace Rg
open PySem Spec PyProof.Rows L2 L3
section
variable {rs:List a7}{ws:List Str}
def JL(rs:List a7)(ws:List Str):Prop:=∀r∈rs,∀t∈r.parts,cN rs t=false->t∈ws
variable {S I0 T:Nat}{st:SS}{P:List cC}{cur:aJ}
theorem JM(rs:List a7):(namesOf rs).length<=rs.length:=by
 have:∀(qs:List a7) (acc:List Str),(nT acc qs).length<=acc.length+qs.length:=by
  intro qs
  induction qs with
  | nil=>intro acc;exact An _
  | cons r qs ih=>
   intro acc;have h1:=ih (fN acc r.name);have h2:(fN acc r.name).length<=acc.length+1:=by unfold fN;split<;>simp
   show(nT (fN acc r.name) qs).length<=_;rw[Az];lia
 have:=this rs [];rw[Gy,Fi]at this;exact this
end
def eY(n:Nat):List Int:=(Cv (n+1)).map λ(i:Nat)=>(i:Int)
theorem jT{n:Nat}{p:Int}:p∈eY n↔0<=p/\p<=n:=zaR
end Rg
namespace M47
open PySem Spec PyProof.Rows L2 L3 Rg
def dH(row:List Str)(b e:Int):List Str:=(row.take e.toNat).drop b.toNat
def jB(row:List Str)(t:Str)(b e:Int):Int:=if t = "" then(dH row b e).length else if dH row b e=[] then 1 else if t∈dH row b e then((dH row b e).length:Int)-1 else(dH row b e).length
abbrev gW:=List Str
def pB(t:Str):gW:=["drop",t]
def pC(row:List Str)(t:Str)(b e:Int):List gW:=
 if t = "" then(dH row b e).map pB else if dH row b e=[] then [["put",t]] else
 if t∈dH row b e then((dH row b e).take ((dH row b e).idxOf t)).map pB++[(["keep",t]:gW)]++((dH row b e).drop ((dH row b e).idxOf t+1)).map pB
 else ["swap",(dH row b e).headD "",t]::((dH row b e).drop 1).map pB
inductive Gn:List gW->List Str->List Str->Int->Prop
 | nil:Gn [] [] [] 0
 | keep {S:List gW} {r w:List Str} {n:Int} {t:Str}:Gn S r w n->Gn (["keep",t]::S) (t::r) (t::w) n
 | drop {S:List gW} {r w:List Str} {n:Int} {t:Str}:Gn S r w n->Gn (["drop",t]::S) (t::r) w (1+n)
 | put {S:List gW} {r w:List Str} {n:Int} {t:Str}:Gn S r w n->Gn (["put",t]::S) r (t::w) (1+n)
 | swap {S:List gW} {r w:List Str} {n:Int} {x t:Str}:Gn S r w n->Gn (["swap",x,t]::S) (x::r) (t::w) (1+n)
theorem Gn.cat{S S':List gW}{r r' w w':List Str}{n n':Int}(h:Gn S r w n)(h':Gn S' r' w' n'):Gn (S++S') (r++r') (w++w') (n+n'):=by
 induction h with
 | nil=>rw[Jd];exact h'
 | keep _ ih=>exact .keep ih
 | drop _ ih=>rw[Ju];exact .drop ih
 | put _ ih=>rw[Ju];exact .put ih
 | swap _ ih=>rw[Ju];exact .swap ih
theorem rC:∀w:List Str,Gn (w.map pB) w [] w.length
 | []=>.nil
 | t::w=>by
  rw[Az,show((w.length+1:Nat):Int)=1+w.length by lia];exact .drop (rC w)
def lw(t:Str):List Str:=if t = "" then [] else [t]
theorem JN{t:Str}:∀{w:List Str},t∈w->w.take (w.idxOf t)++t::w.drop (w.idxOf t+1)=w
 | x::w,h=>by
  rw[List.idxOf_cons]
  by_cases e:x=t
  .subst e;simp
  .rw[show(x==t)=false from by simpa using e];have:=JN ((Ar.mp h).resolve_left λz=>e z.symm);simp only[cond_false,List.take_succ_cons,List.drop_succ_cons,List.cons_append,this]
theorem za0(row:List Str)(t:Str)(b e:Int):Gn (pC row t b e) (dH row b e) (lw t) (jB row t b e):=by
 unfold pC lw jB;generalize dH row b e=w
 by_cases h0:t = ""
 .rw[if_pos h0,if_pos h0,if_pos h0];exact rC w
 .rw[if_neg h0,if_neg h0,if_neg h0]
  by_cases h1:w=[]
  .rw[if_pos h1,if_pos h1,h1];exact .put .nil
  .rw[if_neg h1,if_neg h1]
   by_cases h2:t∈w
   .rw[if_pos h2,if_pos h2];have e1:=JN h2;have l1:=congrArg Dc e1;rw[Ah,Az]at l1;have:=((rC (w.take (w.idxOf t))).cat (.keep .nil (t:=t))).cat (rC (w.drop (w.idxOf t+1)));rw[De (w.take _),List.singleton_append,e1,Gw,Cm]at this;rw[show((w.length:Int)-1)=((w.take (w.idxOf t)).length:Int)+0+((w.drop (w.idxOf t+1)).length:Int) by lia];exact this
   .rw[if_neg h2,if_neg h2];cases w with
    | nil=>exact absurd rfl h1
    | cons x w=>
     rw[Az,show((w.length+1:Nat):Int)=1+w.length by lia];have:=(Gn.swap .nil (x:=x) (t:=t)).cat (rC w);rw[Int.add_zero]at this;exact this
theorem za1{row:List Str}{b m e:Int}(h0:0<=b)(h1:b<=m)(h2:m<=e):dH row b m++dH row m e=dH row b e:=by
 unfold dH;have e1:row.take m.toNat=(row.take e.toNat).take m.toNat:=by rw[List.take_take,Fn (by lia)]
 rw[e1];generalize row.take e.toNat=r
 conv=>rhs;rw[<-Hd m.toNat r,List.drop_append]
 congr 1
 by_cases hl:m.toNat<=r.length
 .rw[Bp,Fn hl,show b.toNat-m.toNat=0 by lia,List.drop_zero]
 .rw[Ld (by lia),List.drop_nil]
def Ch:Int->List SI->Int->Prop
 | b,[],e=>b=e/\0<=b
 | b,x::y,e=>x.2.1=b/\0<=b/\b<=x.2.2/\Ch x.2.2 y e
theorem Ch.le:∀{y:List SI} {b e:Int},Ch b y e->0<=b/\b<=e
 | [],b,e,h=>⟨h.2,Int.le_of_eq h.1⟩
 | x::y,b,e,h=>⟨h.2.1,Ft h.2.2.1 (Ch.le h.2.2.2).2⟩
theorem Ch.cat:∀{x y:List SI} {b m e:Int},Ch b x m->Ch m y e->Ch b (x++y) e
 | [],y,b,m,e,h,h'=>by cases h.1;exact h'
 | x::xs,y,b,m,e,h,h'=>⟨h.1,h.2.1,h.2.2.1,Ch.cat h.2.2.2 h'⟩
def costs(row:List Str)(y:List SI):Int:=(y.map λx=>jB row x.1 x.2.1 x.2.2).sum
def gL(row:List Str)(y:List SI):List gW:=y.flatMap λx=>pC row x.1 x.2.1 x.2.2
def jU(y:List SI):List Str:=y.flatMap λx=>lw x.1
theorem za2{row:List Str}{x y:List SI}:costs row (x++y)=costs row x+costs row y:=by unfold costs;rw[Bb,List.sum_append]
theorem JO{row:List Str}:∀{y:List SI} {b e:Int},Ch b y e->Gn (gL row y) (dH row b e) (jU y) (costs row y)
 | [],b,e,h=>by
  cases h.1;rw[show dH row b b=[] from Ld (by rw[Bp];exact Ha _ _)];exact .nil
 | x::y,b,e,⟨h1,h2,h3,h4⟩=>by
  cases h1;rw[<-za1 h2 h3 h4.le.2];exact(za0 row x.1 x.2.1 x.2.2).cat (JO h4)
def bZ(r:a7):a7:=if r.parts=[] then {r with parts:=[""]} else r
def mZ(U row:List Str)(t:Str)(b:Int):List (Int×Int):=if t∈U/\b∈eY row.length then((eY row.length).filter λe=>decide (b<=e)).map λe=>(e,jB row t b e) else []
def cH(rs:List a7)(row U:List Str):Sr:=⟨rs.map bZ,cN rs,eY row.length,mZ U row,λ_=>0⟩
theorem m7{U row:List Str}{t:Str}{b e c:Int}:(e,c)∈mZ U row t b↔t∈U/\0<=b/\b<=e/\e<=row.length/\c=jB row t b e:=by
 unfold mZ;constructor
 .intro h;split at h
  .rename_i z;obtain⟨e',h1,h2⟩:=Bg.mp h;cases h2;obtain⟨h3,h4⟩:=Ct.mp h1;exact⟨z.1,(jT.mp z.2).1,of_decide_eq_true h4,(jT.mp h3).2,rfl⟩
  .cases h
 .rintro⟨h1,h2,h3,h4,rfl⟩;rw[if_pos ⟨h1,jT.mpr ⟨h2,Ft h3 h4⟩⟩];exact Bg.mpr ⟨e,Ct.mpr ⟨jT.mpr ⟨Ft h2 h3,h4⟩,decide_eq_true h3⟩,rfl⟩
theorem za3{row:List Str}{t:Str}{b e:Int}:0<=jB row t b e:=by
 unfold jB;split
 .lia
 split
 .decide
 split
 .rename_i z;have:=List.length_pos_of_mem z;lia
 .lia
theorem za4{rs:List a7}{row U:List Str}:oU (cH rs row U):=⟨λ_=>Ht _,λt p e c h=>by rw[(m7.mp h).2.2.2.2];exact za3⟩
section
variable {rs:List a7}{row U:List Str}{B:bM}
theorem JP(h:fG (cH rs row U) B){f:bD}{x:aJ×Nat×List Int}(e:aH B f=some x):Ch f.2.1 (yT (cH rs row U) B f) f.2.2/\x.1.1=costs row (yT (cH rs row U) B f):=by
 obtain⟨pre,post,hb⟩:=j9 e;refine uX (λ_=>rfl) h (λf v y=>Ch f.2.1 y f.2.2/\v=costs row y) (λr hr b hb e v y p=>?_) _ pre (f,x) post rfl hb;show Ch b y e/\v=costs row y
 replace hb:=(jT.mp hb).1
 clear hr;generalize r.parts=ps at p
 induction p with
 | nil=>exact⟨⟨rfl,hb⟩,rfl⟩
 | @cons t ts b m e u v x y hs _ ih=>
  have:Ch b x m/\u=costs row x:=by
   rcases hs with⟨_,h2,rfl⟩|⟨_,h2⟩
   .obtain⟨_,h3,h4,_,rfl⟩:=m7.mp h2;refine⟨⟨rfl,h3,h4,rfl,Ft h3 h4⟩,?_⟩;unfold costs;simp
   .exact h2
  obtain⟨i1,i2⟩:=ih (Ft this.1.le.1 this.1.le.2);exact⟨this.1.cat i1,by rw[za2,this.2,i2]⟩
inductive Fr(rs:List a7):Str->Prop
 | mk {r:a7}:r∈rs->(∀t∈r.parts,cN rs t=true->Fr rs t)->Fr rs r.name
theorem rD(r:a7):(bZ r).name=r.name:=by unfold bZ;split<;>rfl
theorem za5(r:a7):(bZ r).parts≠[]:=by
 unfold bZ;split
 .exact λh=>nomatch h
 .assumption
theorem JQ{r:a7}{t:Str}(h:t∈(bZ r).parts):t∈r.parts\/t = "":=by
 unfold bZ at h;split at h
 .exact .inr (Ao.mp h)
 .exact .inl h
theorem za6{r:a7}{t:Str}(h:t∈r.parts):t∈(bZ r).parts:=by
 unfold bZ;rw[if_neg (λe=>by rw[e]at h;cases h)];exact h
theorem JR(h:fG (cH rs row U) B){f:bD}{x:aJ×Nat×List Int}(e:aH B f=some x):Fr rs f.1:=by
 obtain⟨pre,post,hb⟩:=j9 e;refine uX (λ_=>rfl) h (λf _ _=>Fr rs f.1) (λr hr b hb e v y p=>?_) _ pre (f,x) post rfl hb;obtain⟨r0,hr0,rfl⟩:=Bg.mp hr;show Fr rs (bZ r0).name;rw[rD];refine .mk hr0 λt ht ho=>?_;have ht:=za6 ht;clear hr hr0 hb;generalize (bZ r0).parts=ps at p ht
 induction p with
 | nil=>cases ht
 | @cons t' ts b m e u v x y hs _ ih=>
  rcases Ar.mp ht with rfl|ht
  .rcases hs with⟨h1,_⟩|⟨_,h2⟩
   .rw[show cN rs t=false from h1]at ho;cases ho
   .exact h2
  .exact ih ht
end
end M47
namespace Rg
open PySem Spec PyProof.Rows L2 L3
abbrev l0(G:Sr)(B:bM)(f:bD):W:=rA G (λt _ _=>.str t) (λn vs=>.tup [.int n,.tup vs]) B f
section
variable {rs:List a7}{row:List Str}{B:bM}
def m8(f:bD)(e:En):Bool:=decide (e.1.2=f.2)
end
end Rg
namespace M47
open PySem Spec PyProof.Rows L2 L3 Rg
def eJ:List Str:=["S","S_1","S_12","V","W","X","Y","Z"]
def dC:List Str:=["a","ab","b"]
def is8(t:Str):Bool:=decide (t∈eJ)
structure d3(rs:List a7):Prop where
 ne:rs≠[]
 few:rs.length<=9
 nm:∀r∈rs,r.name∈eJ
 pt:∀r∈rs,∀t∈r.parts,t∈eJ\/t∈dC
 fp:∀r∈rs,r.parts.length<=3
 ow:∀r∈rs,∀t∈r.parts,cN rs t=is8 t
structure jC(row:List Str):Prop where
 wd:∀t∈row,t∈dC
 few:row.length<=12
theorem n5{t:Str}(h:t∈eJ\/t∈dC):gK t:=by
 have h1:∀t∈eJ,gK t:=by unfold eJ gK;decide +kernel
 have h2:∀t∈dC,gK t:=by unfold dC gK;decide +kernel
 exact h.elim (h1 t) (h2 t)
theorem JS{t:Str}(h:t∈eJ\/t∈dC):t≠"":=by
 have h1:∀t∈eJ,t≠"":=by unfold eJ;decide +kernel
 have h2:∀t∈dC,t≠"":=by unfold dC;decide +kernel
 exact h.elim (h1 t) (h2 t)
section
variable {rs:List a7}{row U:List Str}{B:bM}
theorem za7(g:d3 rs){t:Str}(h:cN rs t=true):t∈eJ:=by
 obtain⟨r,hr,e⟩:=nU.mp (of_decide_eq_true h);rw[<-e];exact g.nm r hr
theorem JT(g:d3 rs):cN rs "" = false:=by
 cases h:cN rs "" with
 | false=>rfl
 | true=>exact absurd rfl (JS (.inl (za7 g h)))
def n6(L:List Str)(r:a7):Bool:=r.parts.all λt=>!is8 t||decide (t∈L)
def fY(L:List Str)(r:a7):List Str:=if r.name∉L/\n6 L r=true then L++[r.name] else L
def n8(rs:List a7)(L:List Str):List Str:=rs.foldl fY L
def fH(rs:List a7):Nat->List Str
 | 0=>[]
 | k+1=>n8 rs (fH rs k)
def iX(rs:List a7):List Str:=fH rs rs.length
structure FL(rs:List a7)(L:List Str):Prop where
 nd:L.Nodup
 ch:∀pre X post,L=pre++X::post->∃r∈rs,r.name=X/\n6 pre r=true
theorem za8{L:List Str}{r:a7}(h:FL rs L)(hr:r∈rs):FL rs (fY L r):=by
 unfold fY;split
 .rename_i z;refine⟨Fb.mpr ⟨h.nd,by simp,λa ha b hb e=>z.1 (by rw[<-Ao.mp hb,<-e];exact ha)⟩,λpre X post e=>?_⟩;rcases List.append_eq_append_iff.mp e.symm with⟨m,h1,h2⟩|⟨m,h1,h2⟩
  .cases m with
   | nil=>
    rw[Gw]at h2;cases h2;rw[Cm]at h1;exact⟨r,hr,rfl,by rw[<-h1];exact z.2⟩
   | cons y m=>
    cases h2;exact h.ch pre _ m h1
  .cases m with
   | nil=>
    rw[Gw]at h2;cases h2;rw[Cm]at h1;exact⟨r,hr,rfl,by rw[h1];exact z.2⟩
   | cons y m=>simp at h2
 .exact h
theorem JU{L:List Str}{r:a7}:∃m,fY L r=L++m:=by
 unfold fY;split
 .exact⟨_,rfl⟩
 .exact⟨[],by simp⟩
theorem y9:∀{l:List a7} {L:List Str},∃m,l.foldl fY L=L++m
 | [],L=>⟨[],by simp⟩
 | r::l,L=>by
  obtain⟨m,h⟩:=JU (L:=L) (r:=r);obtain⟨m',h'⟩:=y9 (l:=l) (L:=fY L r);exact⟨m++m',by rw[Ea,h',h,De]⟩
theorem zA:∀{l:List a7} {L:List Str},(∀r∈l,r∈rs)->FL rs L->FL rs (l.foldl fY L)
 | [],_,_,h=>h
 | r::l,L,hs,h=>zA (l:=l) (λx hx=>hs x (Ba _ hx)) (za8 h (hs r Bk))
theorem uY:∀k,FL rs (fH rs k)
 | 0=>⟨Ez,λpre X post e=>absurd (congrArg Dc e) (by simp[fH])⟩
 | k+1=>zA (λ_ h=>h) (uY k)
theorem JV:∀{l:List a7} {L:List Str},l.foldl fY L=L->∀r∈l,fY L r=L
 | r::l,L,h,x,hx=>by
  obtain⟨m,e1⟩:=JU (L:=L) (r:=r);obtain⟨m',e2⟩:=y9 (l:=l) (L:=fY L r);rw[Ea,e2,e1,De]at h;have:m++m'=[]:=List.append_right_eq_self.mp h;rw[List.append_eq_nil_iff]at this;rw[this.1,Cm]at e1;rcases Ar.mp hx with rfl|hx
  .exact e1
  .refine JV (l:=l) ?_ x hx;rw[e1,this.2,Cm]at e2;exact e2
theorem JW:∀k,n8 rs (fH rs k)=fH rs k\/k<=(fH rs k).length
 | 0=>.inr (Bz _)
 | k+1=>by
  rcases JW k with h|h
  .left;show n8 rs (n8 rs (fH rs k))=n8 rs (fH rs k);rw[h,h]
  .obtain⟨m,e⟩:=y9 (l:=rs) (L:=fH rs k);have e:fH rs (k+1)=fH rs k++m:=e;cases m with
   | nil=>
    left;rw[Cm]at e;show n8 rs (fH rs (k+1))=fH rs (k+1);have e':n8 rs (fH rs k)=fH rs k:=e;rw[e,e']
   | cons x m=>right;rw[e,Ah,Az];lia
theorem zB{L:List Str}(h:FL rs L){X:Str}(hX:X∈L):∃r∈rs,r.name=X:=by
 obtain⟨a,b,e⟩:=Fx hX;obtain⟨r,h1,h2,_⟩:=h.ch a X b e;exact⟨r,h1,h2⟩
theorem za9{r:a7}(hr:r∈rs)(hf:n6 (iX rs) r=true):r.name∈iX rs:=by
 rcases JW (rs:=rs) rs.length with h|h
 .have:=JV h r hr
  by_cases z:r.name∈iX rs
  .exact z
  .unfold fY at this;rw[if_pos ⟨z,hf⟩]at this;exact absurd (List.append_right_eq_self.mp this) (by simp)
 .by_cases z:r.name∈iX rs
  .exact z
  .have F:=uY (rs:=rs) rs.length;have h1:=len_sub (a:=r.name::iX rs) (b:=namesOf rs) (Cy.mpr ⟨z,F.nd⟩) λx hx=>by
    rcases Ar.mp hx with rfl|hx
    .exact nU.mpr ⟨r,hr,rfl⟩
    .obtain⟨r',h1,h2⟩:=zB F hx;exact nU.mpr ⟨r',h1,h2⟩
   have h2:=JM rs;rw[Az]at h1;have h:rs.length<=(iX rs).length:=h;lia
theorem JX(g:d3 rs){r:a7}(hr:r∈rs){L:List Str}:n6 L r=true↔∀t∈r.parts,cN rs t=true->t∈L:=by
 unfold n6;rw[Ji];refine forall_congr' λt=>forall_congr' λht=>?_;rw[g.ow r hr t ht];cases is8 t<;>simp
theorem zba(g:d3 rs){X:Str}(h:Fr rs X):X∈iX rs:=by
 induction h with
 | @mk r hr _ ih=>exact za9 hr ((JX g hr).mpr ih)
theorem JY{b e:Int}:(dH row b e).length<=row.length:=by
 unfold dH;rw[Eb,Bp];lia
theorem zbb{t:Str}{b e:Int}:jB row t b e<=row.length+1:=by
 have:=JY (row:=row) (b:=b) (e:=e);unfold jB;split
 .lia
 split
 .lia
 split<;>lia
theorem JZ{G:Sr}{N:bD->Int->List SI->Prop}{c e:Int}:∀{ps:List Str},(∀t∈ps,∃v x,PS G N t e e v x/\v<=c)->∃v y,PP (PS G N) ps e e v y/\v<=ps.length*c
 | [],_=>⟨0,[],.nil,by simp⟩
 | t::ps,h=>by
  obtain⟨v,x,h1,h2⟩:=h t Bk;obtain⟨u,y,h3,h4⟩:=JZ (ps:=ps) λz hz=>h z (Ba _ hz);refine⟨_,_,.cons h1 h3,?_⟩;rw[Az,show((ps.length+1:Nat):Int)*c=c+ps.length*c by rw[Int.natCast_add,Int.add_mul];simp;lia];lia
theorem zbc{G:Sr}{N:bD->Int->List SI->Prop}{c b e:Int}{ps:List Str}(hne:ps≠[])(h1:∀t∈ps,∃v x,PS G N t b e v x/\v<=c)(h2:∀t∈ps,∃v x,PS G N t e e v x/\v<=c):∃v y,PP (PS G N) ps b e v y/\v<=ps.length*c:=by
 cases ps with
 | nil=>exact absurd rfl hne
 | cons t ps=>
  obtain⟨v,x,a1,a2⟩:=h1 t Bk;obtain⟨u,y,a3,a4⟩:=JZ (ps:=ps) λz hz=>h2 z (Ba _ hz);refine⟨_,_,.cons a1 a3,?_⟩;rw[Az,show((ps.length+1:Nat):Int)*c=c+ps.length*c by rw[Int.natCast_add,Int.add_mul];simp;lia];lia
theorem zC(g:d3 rs){r:a7}(hr:r∈rs):(bZ r).parts.length<=3:=by
 unfold bZ;split
 .simp
 .exact g.fp r hr
theorem zbd(g:d3 rs)(hU:∀r∈rs,∀t∈(bZ r).parts,cN rs t=false->t∈U){L:List Str}(hL:FL rs L):∀(k:Nat) {X:Str} {pre post:List Str},pre.length<=k->L=pre++X::post->∀{b e:Int},0<=b->b<=e->e<=row.length->∃v,Cs (cH rs row U) (X,b,e) v/\v<=(row.length+1)*3 ^ (k+1):=by
 intro k;have hpow:∀j:Nat,(1:Int)<=3 ^ j:=λj=>by
  induction j with
  | zero=>decide
  | succ j ih=>rw[Int.pow_succ];lia
 have key:∀(k:Nat) {X:Str} {pre post:List Str},L=pre++X::post->(∀t∈pre,∀{b e:Int},0<=b->b<=e->e<=row.length->∃v,Cs (cH rs row U) (t,b,e) v/\v<=(row.length+1)*3 ^ k)->∀{b e:Int},0<=b->b<=e->e<=row.length->∃v,Cs (cH rs row U) (X,b,e) v/\v<=(row.length+1)*3 ^ (k+1):=by
  intro k X pre post e ih b en hb hbe he;obtain⟨r,hr,rfl,hf⟩:=hL.ch pre X post e;have hfit:=(JX g hr).mp hf;obtain⟨c,hc⟩:∃c:Int,c=(row.length+1)*3 ^ k:=⟨_,rfl⟩;have hc1:(row.length:Int)+1<=c:=by
   rw[hc];have:=Int.mul_le_mul_of_nonneg_left (hpow k) (show(0:Int)<=row.length+1 by lia);lia
  have one:∀t∈(bZ r).parts,∀{b e:Int},0<=b->b<=e->e<=row.length->∃v x,PS (cH rs row U) (λf v _=>Cs (cH rs row U) f v) t b e v x/\v<=c:=λt ht b e hb hbe he=>by
   cases ho:cN rs t with
   | false=>exact⟨_,_,.inl ⟨ho,m7.mpr ⟨hU r hr t ht ho,hb,hbe,he,rfl⟩,rfl⟩,Ft zbb hc1⟩
   | true=>
    rcases JQ ht with ht|rfl
    .obtain⟨v,hv,hv2⟩:=ih t (hfit t ht ho) hb hbe he;exact⟨v,[],.inr ⟨ho,hv⟩,by rw[hc];exact hv2⟩
    .rw[JT g]at ho;cases ho
  obtain⟨v,y,h1,h2⟩:=zbc (za5 r) (λt ht=>one t ht hb hbe he) λt ht=>one t ht (Ft hb hbe) (Ht en) he;have:=zaV (G:=cH rs row U) (λ_=>rfl) (Bg.mpr ⟨r,hr,rfl⟩) (jT.mpr ⟨hb,Ft hbe he⟩) h1;rw[rD]at this;refine⟨v,this,?_⟩;have l3:=zC g hr;have:((bZ r).parts.length:Int)*c<=3*c:=Int.mul_le_mul_of_nonneg_right (by lia) (by lia);rw[Int.pow_succ,<-Int.mul_assoc,<-hc];lia
 induction k with
 | zero=>
  intro X pre post hk e;refine key 0 e λt ht=>?_;rw[Iv.mp (Nat.le_zero.mp hk)]at ht;cases ht
 | succ k ih=>
  intro X pre post hk e;refine key (k+1) e λt ht=>?_;obtain⟨a,d,e2⟩:=Fx ht;refine ih (pre:=a) (post:=d++X::post) ?_ (by rw[e,e2];simp);have:=congrArg Dc e2;simp at this;lia
theorem J0(g:d3 rs)(w:jC row)(hU:∀r∈rs,∀t∈(bZ r).parts,cN rs t=false->t∈U)(h:fG (cH rs row U) B){X:Str}(hX:X∈iX rs):∃x,aH B (X,0,(row.length:Int))=some x/\x.1.1<=90000:=by
 have F:=uY (rs:=rs) rs.length;obtain⟨a,b,e⟩:=Fx hX;have hl:=len_sub (b:=eJ) F.nd λx hx=>by
  obtain⟨r,h1,h2⟩:=zB F hx;rw[<-h2];exact g.nm r h1
 have h8:eJ.length=8:=rfl;have e':fH rs rs.length=a++X::b:=e;rw[e',Ah,Az,h8]at hl;obtain⟨v,hv,hv2⟩:=zbd (row:=row) g hU F 7 (pre:=a) (post:=b) (by lia) e' (Ht 0) (Int.natCast_nonneg _) (Ht _);obtain⟨x,hx,hx2⟩:=zaW h hv;refine⟨x,hx,?_⟩;have h3:(3:Int) ^ (7+1)=6561:=by decide
 rw[h3]at hv2;have:=w.few;lia
theorem zD(g:d3 rs)(w:jC row)(hU:∀r∈rs,∀t∈(bZ r).parts,cN rs t=false->t∈U)(h:fG (cH rs row U) B){X:Str}:X∈iX rs↔∃x,aH B (X,0,(row.length:Int))=some x:=
 ⟨λhX=>let ⟨x,h1,_⟩:=J0 g w hU h hX;⟨x,h1⟩,λ⟨x,hx⟩=>zba g (JR h hx)⟩
end
end M47
namespace Rg
open PySem Spec PyProof.Rows L2 L3
def J1:bE:=λws M R=>∃rs:List a7,ws=[cM rs]/\rs.length<=100/\a9 (rs.map λ_=>W.int 0) M R
abbrev zbe:List Str:=["grammar"]
def zbf:aG:=
   (bP (h9 (dX eS (aA 0)) (bY 0) k7 (vC (.int 0)) [none]))
theorem zbg{ws:List W}{M:Mm}{R:K3}(h:J1 ws M R):zbf (bR R) (bU zbe ws) M:=by
 obtain⟨rs,rfl,hl,r⟩:=h;refine⟨_,rfl,iK (oQ (rest:=[]) (λ_=>.int 0) (fT (by rw[Aa];lia)) (λ_ _=>trivial) (λw hw M' C sb h1=>h1) ?_)⟩
 .intro p hp;refine⟨_,Sub.refl _,?_⟩;have e:(rs.map d9).map (λ_=>W.int 0)=rs.map λ_=>W.int 0:=by rw[Cd];rfl
  rw[e];exact r p hp
end Rg
namespace L3
open PySem Spec PyProof.Rows L2
section
variable {X:Cx}{tg a b c:Expr}
def J2:List W->Mm->K3->Prop
 | [.bl b],M,R=>R (.int (if b then 1 else 0)) M
 | _,_,_=>False
theorem zbh:dR X (.type "int") (g9 X.K J2):=by
 rintro pins s Z H xs us Q I rs ⟨ws,M,R,am,axs,h,k⟩
 match ws,h with
 | [.bl b],h=>
  obtain⟨v,rfl,av⟩:=axs.one;obtain rfl:=av.inv;cases rs with
  | cons r rr=>
   cases rr;cases r;exact call_int_bool ⟨.int _,H,I.kept λ_ _ e=>e,⟨_,rfl⟩,k.at am (.int _) h⟩
end
end L3
namespace Rg
open PySem Spec PyProof.Rows L2 L3
abbrev gC(row:List Str):W:=.rl (row.map W.str)
def iY(fs:List bD):List (List aK×W):=fs.map λf=>(fK f,.bl true)
def uZ:bE:=λws M R=>∃row:List Str,ws=[gC row]/\row.length<=60/\a9 ((Cv (row.length+1)).map λ(i:Nat)=>W.int i) M R
abbrev zbi:List Str:=["row"]
def zbj:aG:=
   (bP (JG (aD dY (bX cY (aB (aA 0) aE)) (vC (.int 1)))))
theorem z0:0<=Am:=Bz _
theorem z8:8<=Am:=fT (by decide)
theorem u0{ws:List W}{M:Mm}{R:K3}(r:a9 ws M R):a9 ws M λw M'=>∃M'',L3.Sub M'' M'/\R w M'':=λp hp=>⟨_,Sub.refl _,r p hp⟩
theorem zbk{ws:List (List aK×W)}{M:Mm}{R:K3}(r:lN ws M R):lN ws M λw M'=>∃M'',L3.Sub M'' M'/\R w M'':=λp hp=>⟨_,Sub.refl _,r p hp⟩
theorem zbl{ws:List W}{M:Mm}{R:K3}(h:uZ ws M R):zbj (bR R) (bU zbi ws) M:=by
 obtain⟨row,rfl,hl,r⟩:=h;exact⟨_,rfl,row.length+1,by rw[Aa];rfl,by lia,u0 r⟩
theorem enum_zip(ws:List Str):∀n:Nat,j7 n (ws.map W.str)=(ws.zipIdx n).map λx=>W.tup [.int (x.2:Int),.str x.1]:=by
 induction ws with
 | nil=>intro n;rfl
 | cons w ws ih=>intro n;rw[Bd,j7,ih,Kv,Bd]
theorem zbm(ts:List Str)(n:Str):(bJ (ts.map fR) (Sum.inr n:aK)).isSome=decide (n∈ts):=by
 induction ts with
 | nil=>rfl
 | cons t ts ih=>
  unfold bJ at ih⊢;rw[Bd,Fe]
  by_cases h:t=n
  .subst h;simp[fR]
  .rw[show decide ((fR t).1=(Sum.inr n:aK))=false by simp[fR,h]];rw[ih];have h2:¬n=t:=λe=>h e.symm;simp[h2]
theorem u5(rs:List a7)(t:Str):(bJ (ownOf rs) (Sum.inr t:aK)).isSome=cN rs t:=by
 unfold ownOf cN;rw[zbm,Du];simp only[decide_eq_true_eq];rw[xZ];simp
theorem J3{f:Int->W}{ss:List Int}{i:Nat}{s:Int}(h:ss[i]? = some s):cJ (ss.map f) (i:Int)=some (f s):=gZ (by rw[Ap,h];rfl)
theorem rE{ts:List Str}{k:Int}(h0:0<=k)(h1:k<ts.length):∃t,cJ (ts.map W.str) k=some (.str t)/\t∈ts:=by
 obtain⟨x,e,e2,_⟩:=WA (xs:=ts.map W.str) h0 (by rw[Aa];exact h1);rw[Ap]at e2;obtain⟨t,ht,rfl⟩:=Bh.mp e2;exact⟨t,e,Bf ht⟩
theorem zE(fs:List bD)(f:bD):(bJ (iY fs) (fK f)).isSome=decide (f∈fs):=by
 unfold iY
 induction fs with
 | nil=>rfl
 | cons g fs ih=>
  rw[Bd,oW]
  by_cases h:g=f
  .subst h;rw[if_pos rfl];simp
  .rw[if_neg (λz=>h (lE _ _ z)),ih];have:¬f=g:=λz=>h z.symm;simp[this]
theorem zbn{fs:List bD}{f:bD}(h:f∉fs):cT (iY fs) (fK f) (.bl true)=iY (fs++[f]):=by
 unfold cT;rw[if_neg (by rw[show((iY fs).any λkv=>decide (kv.1=fK f))=(bJ (iY fs) (fK f)).isSome from mX _ _,zE,decide_eq_true_eq];exact h)];unfold iY;rw[Bb];rfl
theorem zbo{P:W->W->Prop}{Q:Str->Prop}{xs ys:List W}(h:Gj P xs ys)(k:∀x y,P x y->∃t,y=.str t/\Q t):∃ts:List Str,ys=ts.map W.str/\ts.length=xs.length/\∀t∈ts,Q t:=by
 induction h with
 | nil=>exact⟨[],rfl,rfl,λ_ z=>nomatch z⟩
 | cons a _ ih=>
  obtain⟨ts,rfl,l,m⟩:=ih;obtain⟨t,rfl,q⟩:=k _ _ a;exact⟨t::ts,rfl,by rw[Az,Az,l],λt' h'=>(Ar.mp h').elim (λe=>e▸q) (m t')⟩
theorem _root_.Nat.min_sub_min(i j n:Nat):min j n-min i n<=j-i:=by
 rcases Nat.le_total i n with h|h
 .rw[Fn h];exact Nat.sub_le_sub_right (Ha _ _) _
 .rw[Nat.min_eq_right h,Nat.sub_eq_zero_of_le (Nat.min_le_right _ _)];exact Bz _
theorem zbp{O:Type}{f:O->W}(xs:List O)(i:Option Nat)(j:Nat):∃ys:List O,eX (xs.map f) (i.map λ(k:Nat)=>(k:Int)) (some (j:Int))=ys.map f/\ys.length<=j-i.getD 0/\∀y∈ys,y∈xs:=by
 refine⟨(xs.drop (HT.sIx xs.length 0 (i.map λ(k:Nat)=>(k:Int)))).take (HT.sIx xs.length xs.length (some (j:Int))-HT.sIx xs.length 0 (i.map λ(k:Nat)=>(k:Int))),?_,?_,λy hy=>List.mem_of_mem_drop (Js hy)⟩
 .unfold eX;rw[Aa,Kr,Jn]
 .rw[Bp,Eb,HT.sIx_nat];cases i with
  | none=>show min (min j xs.length-HT.sIx xs.length 0 none) _<=j-0;rw[HT.sIx_none];exact Au (Ha _ _) (Ha _ _)
  | some i=>show min (min j xs.length-HT.sIx xs.length 0 (some (i:Int))) (xs.length-HT.sIx xs.length 0 (some (i:Int)))<=j-i;rw[HT.sIx_nat];exact Au (Ha _ _) (Nat.min_sub_min i j xs.length)
theorem zbq{p:Addr}{ws:List W}{M:Mm}{R:K3}(h:M p=some (.lst ws))(r:R (.bl true) M):i9 [.ref p,.ty "list"] M R:=⟨"list",true,.inl ⟨rfl,_,h⟩,by decide,r⟩
theorem lJ{x:W}{T:String}{τ:S3}{M:Mm}{R:K3}(h:i9 [x,.ty T] M R):aB (vC (.ty T)) aE τ M λxs M2=>i9 (x::xs) M2 R:=h
theorem J4{ws:List W}{M:Mm}{R:List W->(Mm->Prop)->Mm->Prop}(h:R ws (λ_=>True) M):eS (.tup ws) M R:=h
end Rg
namespace L3
open PySem Spec PyProof.Rows L2
section
variable {X:Cx}{pos:Pos}{a b:Expr}{ta tb te:aZ}
theorem cV{i:Nat}{x:Str}(hN:X.N.Nodup)(hi:X.N[i]? = some x:=by rfl)(hx:Loc X.env.scope x:=by first|exact Or.inl rfl|exact Or.inr rfl)(hf:X.fn x=true\/X.env.scope.names.lookup x=some .local:=by first|exact .inl rfl|exact .inr rfl|assumption):PG X (.Name x pos) (iH X.K (bY i)):=GN hN hi hx hf
theorem jD{i:Nat}{x:Str}(hi:X.N[i]? = some x:=by rfl)(hx:Loc X.env.scope x:=by first|exact Or.inl rfl|exact Or.inr rfl)(hN:X.N.Nodup:=by exact of_decide_eq_true (by kernel_rfl))(hf:X.fn x=true\/X.env.scope.names.lookup x=some .local:=by first|exact .inl rfl|exact .inr rfl|assumption):PG X (.Name x pos) (iH X.K (bY i)):=GN hN hi hx hf
theorem bL{i:Nat}{x:Str}{e:Expr}{pos':Pos}(hN:X.N.Nodup)(he:E3 X e te)(hi:X.N[i]? = some x:=by rfl)(hx:Loc X.env.scope x:=by first|exact Or.inl rfl|exact Or.inr rfl)(hs:Je e (some (.Name x pos')) pos.line X.env=pure false:=by rfl)(hf:X.fn x=true\/X.env.scope.names.lookup x=some .local:=by first|exact .inl rfl|exact .inr rfl|assumption):
  P3 X (.Assign [.Name x pos'] e pos) (bK i te):=VF hN hi hx he hs hf
theorem l8{op:CmpOp}{r:R3}(ho:bG X (Cb op) (cS X.K r))(ha:E3 X a ta)(hb:E3 X b tb)(hm:Hm op b=false:=by first|exact DT _|with_unfolding_all rfl):E3 X (.Compare a [op] [b] pos) (aD r ta tb):=UJ ho ha hb hm
theorem b8{op:CmpOp}{r:R3}(ho:bG X (Cb op) (cS X.K r))(ha:E3 X a ta)(hb:E3 X b tb)(hm:Hm op b=false:=by first|exact DT _|with_unfolding_all rfl):T3 X (.Compare a [op] [b] pos) (bV (aD r ta tb)):=UK ho ha hb hm
variable {tg iter elt:Expr}{ifs:List Expr}{sc:Hc}{wi:i7}{g:e6}{tt:d7}
theorem zbr{i:Nat}{x:Str}{px spos:Pos}(hN:X.N.Nodup)(N':List Str)(js:List (Option Nat))(hi:PI X tg iter (iV X.K wi))(hg:∀B,PG (eE X sc N' B) tg (iH X.K g))(ht:∀B,i0 (eE X sc N' B) ifs (kQ X.K tt))(he:∀B,PE (eE X sc N' B) elt (up X.K te))(hi0:X.N[i]? = some x:=by rfl)(hx:Loc X.env.scope x:=by first|exact Or.inl rfl|exact Or.inr rfl)(S0:nH N' sc X.env.scope=true:=by kernel_rfl)(hj:fV N' X.N sc js N'=true:=by kernel_rfl)(hc:X.calm=true:=by rfl)(hsw:Je (.ListComp elt [⟨tg,iter,ifs,0⟩] sc pos) (some (.Name x px)) spos.line X.env=pure true:=by rfl)(hf:X.fn x=true\/X.env.scope.names.lookup x=some .local:=by first|exact .inl rfl|exact .inr rfl|assumption)(hs:∀x,Gm iter X.env x=pure x:=by intro _;rfl):P3 X (.Assign [.Name x px] (.ListComp elt [⟨tg,iter,ifs,0⟩] sc pos) spos) (bK i (dN (h9 wi g tt te js))):=VY hN hi0 hx N' js hi hg ht he S0 hj hc hsw hf hs
end
theorem cA{N ps:List Str}{sc:Hc}(a:sc.kind=.function:=by rfl)(b:sc.isCoroutine=false:=by rfl)(c:sc.isGenerator=false:=by rfl)(d:N.Nodup:=by decide +kernel)(e:N.take ps.length=ps:=by rfl)(f:∀x∈ps,sc.names.lookup x=some .local\/sc.names.lookup x=some .cell:=by decide +kernel)(g:∀y∈sc.names,y.2≠.free:=by decide +kernel):mF N ps sc:=⟨a,b,c,d,e,f,g⟩
theorem J5{C:List Ae->Prop}(h:C [])(us:List Ae)(e:us.length=0):C us:=by rw[Iv.mp e];exact h
theorem rF{C:List Ae->Prop}{n:Nat}(k:∀a us,us.length=n->C (a::us)):∀us:List Ae,us.length=n+1->C us
 | a::l,e=>k a l (Nat.succ.inj e)
theorem u6{C:List Ae->Prop}(h:∀a,C [a]):∀us:List Ae,us.length=1->C us:=rF λa=>J5 (h a)
theorem u7{C:List Ae->Prop}(h:∀a b,C [a,b]):∀us:List Ae,us.length=2->C us:=rF λa=>u6 (h a)
theorem u9{C:List Ae->Prop}(h:∀a b c,C [a,b,c]):∀us:List Ae,us.length=3->C us:=rF λa=>u7 (h a)
theorem vA{C:List Ae->Prop}(h:∀a b c d,C [a,b,c,d]):∀us:List Ae,us.length=4->C us:=rF λa=>u9 (h a)
theorem zF{C:List Ae->Prop}(h:∀a b c d e,C [a,b,c,d,e]):∀us:List Ae,us.length=5->C us:=rF λa=>vA (h a)
def zG(x q:Str)(st:Stmt)(ps:List Str):Prop:=∀(kV doc pm:Ae) (an:Option Addr) (cdv ct:Ae) (us:List Ae),us.length=ps.length->bindArgs (Ei x q (jF st) (gM st) (dJ st) .none kV doc pm an cdv ct) ⟨us,[]⟩=pure (ps.zip us)
section
variable {K:Ac}{mg:Str->Option Ae}{h:Heap}{x q:Str}{st:Stmt}{C f:Addr}{ps:List Str}{an:Option Addr}{kV doc pm cdv ct:Ae}
theorem dF(X:K.In h)(G:h.Ns Dj mg)(hb:zG x x st ps:=by first|exact λ_ _ _ _ _ _=>u6 λ_=>rfl|exact λ_ _ _ _ _ _=>u7 λ_ _=>rfl|exact λ_ _ _ _ _ _=>u9 λ_ _ _=>rfl|exact λ_ _ _ _ _ _=>vA λ_ _ _ _=>rfl|exact λ_ _ _ _ _ _=>zF λ_ _ _ _ _=>rfl|exact λ_ _ _ _ _ _=>ar6 λ_ _ _ _ _ _=>rfl|exact λ_ _ _ _ _ _=>ar7 λ_ _ _ _ _ _ _=>rfl|exact λ_ _ _ _ _ _=>J5 rfl)(n:PySem.W.nsIn K Dj x=some (some (.ref f)):=by kernel_rfl)(l:K.lookup f=some ⟨.type "function",none,.func (Ei x x (jF st) (gM st) (dJ st) .none kV doc pm an cdv ct),#[]⟩:=by kernel_rfl)(c:Ir K cdv x=true:=by kernel_rfl)(k:Ee K (.ref f)=true:=by kernel_rfl):Df K mg x st ps f (Ei x x (jF st) (gM st) (dJ st) .none kV doc pm an cdv ct):=⟨oE l c k,Jf X G n,(oE l c k).binds hb⟩
theorem dM(hb:zG x q st ps:=by first|exact λ_ _ _ _ _ _=>u6 λ_=>rfl|exact λ_ _ _ _ _ _=>u7 λ_ _=>rfl|exact λ_ _ _ _ _ _=>u9 λ_ _ _=>rfl|exact λ_ _ _ _ _ _=>vA λ_ _ _ _=>rfl|exact λ_ _ _ _ _ _=>zF λ_ _ _ _ _=>rfl)(a:Cg K (.ref C) x=some (some (.ref f)):=by kernel_rfl)(n:Kt K (.ref f)=true:=by kernel_rfl)(l:K.lookup f=some ⟨.type "function",none,.func (Ei x q (jF st) (gM st) (dJ st) .none kV doc pm an cdv ct),#[]⟩:=by kernel_rfl)(c:Ir K cdv q=true:=by kernel_rfl)(k:Ee K (.ref f)=true:=by kernel_rfl):Dm K C x q st ps f (Ei x q (jF st) (gM st) (dJ st) .none kV doc pm an cdv ct):=⟨oE l c k,⟨a,n,k⟩,(oE l c k).binds hb⟩
theorem dI(hb:zG x q st ps:=by first|exact λ_ _ _ _ _ _=>u6 λ_=>rfl|exact λ_ _ _ _ _ _=>u7 λ_ _=>rfl|exact λ_ _ _ _ _ _=>u9 λ_ _ _=>rfl|exact λ_ _ _ _ _ _=>vA λ_ _ _ _=>rfl|exact λ_ _ _ _ _ _=>zF λ_ _ _ _ _=>rfl)(m:PySem.W.makesIn K C=true:=by kernel_rfl)(a:Cg K (.ref C) "__init__" = some (some (.ref f)):=by kernel_rfl)(n:Kt K (.ref f)=true:=by kernel_rfl)(d:Ee K (.ref C)=true:=by kernel_rfl)(l:K.lookup f=some ⟨.type "function",none,.func (Ei x q (jF st) (gM st) (dJ st) .none kV doc pm an cdv ct),#[]⟩:=by kernel_rfl)(c:Ir K cdv q=true:=by kernel_rfl)(k:Ee K (.ref f)=true:=by kernel_rfl):Di K C x q st ps f (Ei x q (jF st) (gM st) (dJ st) .none kV doc pm an cdv ct):=⟨oE l c k,⟨m,a,n,d⟩,(oE l c k).binds hb⟩
variable {P:Bv}{w:Cp}{base:Heap}{fd:Bi}{N:List Str}{k:Nat}{sp:bE}{rd:aG}
theorem J6(P:Bv)(w:Cp)(mg:Str->Option Ae)(base:Heap)(k:Nat)(F:jJ K x q st f fd)(_:Binds K fd ps [])(S:mF N ps (dJ st))(len:∀ws M R,sp ws M R->ws.length=ps.length)(good:∀{ws M R},sp ws M R->rd (bR R) (bU N ws) M)(tm:∀{cdv:Ae} {A:Cq} {outer:List Env} {s:Ag} {H:Hp} {E:XK},cP k (A.deeper (Ip q (dJ st) s.heap.objs.size f cdv))->(A.deeper (Ip q (dJ st) s.heap.objs.size f cdv)).units+1<Fm->N.Nodup->jM (kL eQ P w K mg base N q (dJ st) f cdv A outer s H E).nox (gM st) rd):eN P w K mg base eQ (k+1) f fd ps (fJ K sp):=
 tN F S len λ_ _ _ _ _ _ _ _ _ hr h=>⟨rd,tm hr (wB hr) S.nd,good h⟩
theorem cI(P:Bv)(w:Cp)(mg:Str->Option Ae)(base:Heap)(k:Nat)(F:jJ K x q st f fd)(_:Binds K fd ps [])(S:mF N ps (dJ st))(good:∀{ws M R},sp ws M R->rd (bR R) (bU N ws) M)(tm:∀{cdv:Ae} {A:Cq} {outer:List Env} {s:Ag} {H:Hp} {E:XK},cP k (A.deeper (Ip q (dJ st) s.heap.objs.size f cdv))->(A.deeper (Ip q (dJ st) s.heap.objs.size f cdv)).units+1<Fm->N.Nodup->jM (kL eQ P w K mg base N q (dJ st) f cdv A outer s H E).nox (gM st) rd)(len:∀ws M R,sp ws M R->ws.length=ps.length:=by intro _ _ _ h;repeat (first|(obtain⟨rfl,_⟩:=h;exact rfl)|obtain⟨_,h⟩:=h)):eN P w K mg base eQ (k+1) f fd ps (fJ K sp):=
 tN F S len λ_ _ _ _ _ _ _ _ _ hr h=>⟨rd,tm hr (wB hr) S.nd,good h⟩
end
section
variable {X:Cx}{pos p:Pos}{x:Str}{st:Stmt}{e:Expr}{es:List Expr}{t:dS}{k j:Nat}{f:Addr}{fd:Bi}{ps:List Str}{sp:bE}
theorem b9(F:eN X.prog X.w X.K X.mg X.base eQ k f fd ps (fJ X.K sp))(D:Df X.K X.mg x st ps f fd)(hr:cP j X.A)(ha:A3 X (e::es) t)(hj:k<=j:=by decide)(hg:Gl X x:=by rfl)(hdb:(x==("__debug__" : Str))=false:=by decide)(he:Be (e::es) X.env=(false,eval e X.env)::Be es X.env:=by rfl)(hpl:(Gf pos (Be es X.env)).any (·.1)=false:=by rfl):
  E3 X (.Call (.Name x p) (e::es) [] pos) (bS sp t):=p0 F (hr.mono hj) hg D.at_ D.fn.kp D.bi ha hdb he hpl
end
end L3
namespace L2
open PySem Spec PyProof.Rows
section
variable {X:Cx}
def zbs(tk tv:TE):TE:=λZ H Q=>∀p,H p=none->v9 [(tk,tv)] Z (aX H p (.dT [])) λps H2=>∃(b:Addr) (y:V) (k:List aK),ps=[(.ref b,y)]/\H2 p=some (.dT [])/\H2 b=some (.tup (k.map kV))/\Q (.ref p) (aX H2 p (.dT [(k,y)]))
theorem zbt{k v:Expr}{tk tv:TE}{pos:Pos}(hu:X.A.units+1<Fm)(hk:PE X k tk)(hv:PE X v tv):PE X (.Dict [some k] [v] pos) (zbs tk tv):=by
 intro pins s Z H Q I q;have hn:=I.hok.fresh (An s.heap.objs.size);have I1:=I.laid (a:=s.heap.objs.size) (o:=.dT []) (h':=s.heap.push {cls:=.type "dict",data:=.dict #[]}) (t':=s.toks) (λ_ _ q=>Af _ q) (An _) (EU s.heap I.big);refine wpAny_Dict_any rfl rfl (λh=>nomatch h) (by decide:1<=15) (bA (SM hk hv SJ pins _ Z _ _ I1 (q _ hn)) λws s2 ⟨ps,H2,I2,rel,b,y,k,ep,e,eb,q2⟩=>?_);subst ep;cases rel with
 | @cons a1 b1 _ _ r1 r2=>
  cases r2;obtain⟨u1,u2⟩:=b1;obtain⟨ru,rv⟩:=r1;cases (show u1=Value.ref b from ru);obtain⟨z,hd,xs,rel,dd⟩:=sM I2.hok e;cases rel;unfold storeAll;rw[Li];refine Ab (Ab (wpAny_dictSet_heap (hsz:=Bz _) (Nat.lt_of_succ_lt hu) (kO I2.hok eb) dd λh' dd' hs=>Aj ?_));show Bc _ _ (pure PUnit.unit) _ _ _;refine Aj ⟨.ref _,_,?_,rfl,q2⟩;obtain⟨q,es,ep,hq,h2,h3,h4,_,h5⟩:=dd';refine pV I2 (by rw[e];exact True.intro) hs ⟨q,hq⟩ ⟨show 1<=Am by decide,hd,_,((show KT H2 [] [] from .nil).put k eb rv).keeps λc ys ec=>?_,q,es,ep,hq,h2,h3,h4,h5⟩;rw[bH (rT ec e (λz=>nomatch z))];exact ec
end
end L2
namespace L3
open PySem Spec PyProof.Rows L2
section
variable {X:Cx}{a b:Expr}{ta tb:aZ}{pos p:Pos}
def J7(ta tb:aZ):aZ:=λτ M R=>∀p,M p=none->ta τ (put M p (.dT [])) λx M1=>tb τ M1 λy M2=>M2 p=some (.dT [])/\∃k:List aK,x=.tup (k.map wK)/\R (.ref p) (put M2 p (.dT [(k,y)]))
theorem zbu(hu:X.A.units+1<Fm)(ha:E3 X a ta)(hb:E3 X b tb):E3 X (.Dict [some a] [b] pos) (J7 ta tb):=
 (zbt hu ha hb).weak λZ H Q z0=>z0.el λτ M R as am h k=>λp hp=>by
  obtain⟨am0,k0⟩:=am.laid (o:=.dT []) (u:=.dT []) hp ⟨[],c9,.nil⟩;refine⟨τ,_,_,as.kp am k0,am0,h p (am.nonM hp),λx H1 wx M1 k1 am1 ax h1=>⟨τ,M1,_,(as.kp am k0).kp am0 k1,am1,h1,λy H2 wy M2 k2 am2 ay ⟨e,kk,ex,r⟩=>?_⟩⟩;subst ex;obtain⟨ks,f,q⟩:=am2 _ _ e;cases q;have ax2:=ax.kp am1 k2;exact ax2.tupE λc xs ec fc qc=>by
   obtain⟨am3,k3⟩:=am2.write (o:=.dT [(kk,wy)]) (u:=.dT [(kk,y)]) e ⟨_,c9,.cons ⟨rfl,ay.wr am2 e⟩ .nil⟩;exact⟨c,y,kk,by rw[ec],f,by rw[<-qc.keys];exact fc,k _ _ _ _ (((k0.trans k1).trans k2).trans k3) am3 (.ref _) r⟩
variable {x:Str}{e:Expr}{es:List Expr}{t:dS}{k j i:Nat}{f:Addr}{fd:Bi}{ps:List Str}{sp:bE}
def vB(i:Nat)(f:Addr)(sp:bE)(t:dS):aZ:=λτ M R=>τ[i]? = some (some (.ref f))/\bS sp t τ M R
theorem zH{g:Addr}(ef:g=f)(F:eN X.prog X.w X.K X.mg X.base eQ k f fd ps (fJ X.K sp))(hr:cP j X.A)(hk:Ee X.K (.ref f)=true)(hb:Binds X.K fd ps [])(ha:A3 X (e::es) t)(hj:k<=j:=by decide)(hN:X.N[i]? = some x:=by rfl)(hv:pL X.env.scope x:=by first|exact Or.inl rfl|exact Or.inr (Or.inl rfl)|exact Or.inr (Or.inr rfl))(hd:(x==("__debug__" : Str))=false:=by decide)(hcd:(x==("__classdict__" : Str))=false:=by decide)(he:Be (e::es) X.env=(false,eval e X.env)::Be es X.env:=by rfl)(hpl:(Gf pos (Be es X.env)).any (·.1)=false:=by rfl):
  E3 X (.Call (.Name x p) (e::es) [] pos) (vB i g sp t):=by
 subst ef;intro pins s Z H Q I ⟨τ,M,R,as,am,⟨h1,h⟩,k'⟩;have gc:=FP (K:=X.K) ⟨τ,M,R,as,am,h,k'⟩;obtain⟨v,e1,av⟩:=as.get h1;refine Dl (bA (vT (pos:=p) hN hv hd hcd pins s Z H (λw H'=>w=.ref g/\H'=H) I ⟨v,e1,av.inv,rfl⟩) λu s1 ⟨w,H1,I1,r1,ew,eH⟩=>?_);subst ew eH;cases r1;exact Ig (h₀:=X.base) I1.ok.mod.kin hk (bA (ha pos pins s1 Z H1 _ I1 gc) λus s2 ⟨vs,H2,I2,r,q⟩=>⟨I2.kIn,sE F (hr.mono hj) hb .nil mK I2 r q⟩) he hpl
theorem zJ{g f:Addr}{fd:Bi}{ps:List Str}{x:Str}{pos:Pos}{st:Stmt}(ef:g=f)(D:Df X.K X.mg x st ps f fd)(hg:Gl X x:=by rfl)(hd:(x==("__debug__" : Str))=false:=by decide):E3 X (.Name x pos) (vC (.ref g)):=by
 subst ef;exact sX (y:=.ref g) hg D.at_ rfl (λ_ _=>.ref _) hd
end
end L3
namespace PySem
namespace Et
open PyProof.Rows L2 PySem.Spec
section
variable {prog:Bv}{w:Cp}{A:Cq}{E:Ae->Ag->Prop}{s:Ag}
theorem draws(hh:A.handled=none)(it l:Addr)(hne:l≠it)(items:Array Ae):Draws prog w A it [it,l] items.size (λi v=>items[i]? = some v) (λi h=>h.IsTupleIter it l i/\h.IsTuple l items) where
 live:=λ_ _ st=>let ⟨o,ho,_⟩:=st.1;⟨o,ho⟩
 frame:=λk h h' st hk=>(Zt.side_tuple (prog:=prog) (w:=w) it l hne items).keep k h h' st λc hc o e=>hk c (by rcases hc with rfl|rfl<;>simp) o e
 item:=λi s Q E hi st hQ=>(Zt.side_tuple it l hne items).item A E s i items[i] Q st (by simp[hi]) λh' a b=>hQ _ h' s.toks (by simp[hi]) a b
 done:=λs Q E st hE=>(Zt.side_tuple it l hne items).stop A E s _ Q hh st (by simp) hE
theorem meets_new(l:Addr)(items:Array Ae)(n:Nat)(dct:Option Addr)(sl:Array (Option Ae)):
  Meets (Lf.«enumerate.__new__» ⟨[.type "enumerate",.ref l],[]⟩) (λ_ R s=>s.heap.get? l=some {cls:=.type "tuple",dict:=dct,data:=.seq items n,slots:=sl}/\
   R (.ok (.ret (.ref (s.heap.push {cls:=.type "tuple_iterator",data:=.fields #[.ref l,.int 0 0]}).objs.size)))
    {s with heap:=(s.heap.push {cls:=.type "tuple_iterator",data:=.fields #[.ref l,.int 0 0]}).push {cls:=.type "enumerate",data:=.fields #[.none,.bool false,.ref s.heap.objs.size,Jj 0,.none,.none]}}):=
 .of_wp λprog w A R s h=>by
  obtain⟨hp,g,d,tk,os⟩:=s;obtain⟨hl,h⟩:=h;have hsub:=sub_enumerate;have hL:Heap.IsTuple (Shared.heap ⟨hp,g,d,tk,os⟩) l items:=⟨_,hl,rfl,n,rfl⟩
  wp_walk using Hx hl
  refine wpAny_stack_any λst=>Aj ?_;split
  .rename_i c _ _ _ _ _;cases (c==Value.type "enumerate")
   .wp_walk using Hx hl,Hg hL
    exact⟨_,rfl,h⟩
   .wp_walk using Hx hl,Hg hL
    exact⟨_,rfl,h⟩
  .wp_walk using Hx hl,Hg hL
   exact⟨_,rfl,h⟩
theorem call_new{l:Addr}{items:Array Ae}{Q:Ae->Ag->Prop}(hL:s.heap.IsTuple l items)(h:∀h',IsEnum h' (s.heap.objs.size+1) s.heap.objs.size 0 .none->h'.IsTupleIter s.heap.objs.size l 0->(∀b o,s.heap.get? b=some o->h'.get? b=some o)->Q (.ref (s.heap.objs.size+1)) {s with heap:=h'}):
  Bc (Bn prog w) A (call (.type "enumerate") [.ref l]) Q E s:=by
 obtain⟨⟨c,dct,dt,sl⟩,hl,hc,n,hd⟩:=hL;cases (show c=.type "tuple" from hc);cases (show dt=.seq items n from hd);refine callType_new F.called_enumerate (by decide) (F.typeCall_enumerate_1 _) (F.newCall_enumerate_1 _) (λobj=>F.args_object_init_2 obj _) F.entry_enumerate_new (meets_new l items n dct sl) ⟨hl,?_⟩;have hz:(s.heap.push {cls:=.type "tuple_iterator",data:=.fields #[.ref l,.int 0 0]}).objs.size=s.heap.objs.size+1:=Dq ..;show _/\_;rw[hz];have he:IsEnum ((s.heap.push {cls:=.type "tuple_iterator",data:=.fields #[.ref l,.int 0 0]}).push {cls:=.type "enumerate",data:=.fields #[.none,.bool false,.ref s.heap.objs.size,Jj 0,.none,.none]}) (s.heap.objs.size+1) s.heap.objs.size 0 .none:=by
  have:=Ay (s.heap.push {cls:=.type "tuple_iterator",data:=.fields #[.ref l,.int 0 0]}) (o:={cls:=.type "enumerate",data:=.fields #[.none,.bool false,.ref s.heap.objs.size,Jj 0,.none,.none]}) rfl;rw[hz]at this;exact this
 exact⟨⟨_,he,rfl⟩,h _ he ⟨_,Af _ (Ay _ rfl),rfl,rfl⟩ λb o x=>Af _ (Af _ x)⟩
end
end Et
end PySem
namespace L2
open PySem Spec PyProof.Rows
section
variable {X:Cx}
def J8(K:Ac)(a:Addr)(xs:List V):It:=
 ⟨λi H=>bW K H a xs/\i<xs.length,
   λi H x H'=>∃p u,xs[i]? = some u/\H p=none/\x=.ref p/\H'=aX H p (.tup [.int (i:Nat),u]),
   λi H=>bW K H a xs/\i=xs.length⟩
theorem zbv{P:Bv}{w:Cp}{K:Ac}{es:List Expr}{kx:Nat}{px:Pos}(a e it:Addr)(xs:List V)(hne:e≠it)(hea:e≠a)(hia:a≠it):
  kK P w K (.Tuple es kx px) (J8 K a xs) [e,it] e (λi h=>(∃old,IsEnum h e it (i:Nat) old)/\h.IsTupleIter it a i) where
 mem:=by simp
 obj:=λi h st c hc=>by
  obtain⟨⟨old,h1⟩,⟨o4,h4,_,h4d⟩⟩:=st;simp only[Ar,Dv,or_false]at hc;rcases hc with rfl|rfl
  .exact⟨_,h1,λv q=>by cases q⟩
  .exact⟨_,h4,λv q=>by rw[h4d]at q;cases q⟩
 keep:=λi h h' st k=>by
  obtain⟨⟨old,h1⟩,⟨o4,h4,r4⟩⟩:=st;exact⟨⟨old,k e (by simp) _ h1⟩,⟨o4,k it (by simp) _ h4,r4⟩⟩
 item:=by
  intro X hP hw hK hc i pins s Z H E I hf st hg;subst hP hw hK;obtain⟨⟨old,h1⟩,h4⟩:=st;obtain⟨hqa,hi⟩:=hg;obtain⟨its,rv,pl,hz⟩:=I.tuple hqa;obtain⟨u,hu,ru⟩:=rv.get (Ak hi);have hl:=rv.length;refine wpAny_pyNext_enum_itemD (Et.draws (A:=X.A.in1) (I.ok.hd hc) it a hia its.toArray) h1 ⟨h4,pl⟩ (by simp;lia) hne (by simp[hne,hea]) λx h' tk hx a1 a2 a3 a4 hk=>?_;have ex:x=u:=by
   have hx:its.toArray[i]? = some x:=hx;rw[List.getElem?_toArray,hu]at hx;exact(Cj hx).symm
  subst ex;refine⟨_,rfl,wpAny_letOwnedTupleGo_enum a1 λh'' e' sb=>?_⟩;have hfr:H s.heap.objs.size=none:=I.hok.fresh (An _);have lte:e<s.heap.objs.size:=Aw h1;have lti:it<s.heap.objs.size:=by obtain⟨_,q,_⟩:=h4;exact Aw q
  have keep2:∀q o,q∉[e,it]->s.heap.get? q=some o->h''.get? q=some o:=λq o hq eq=>by
   simp only[Ar,Dv,or_false,not_or]at hq;exact(sb.2 q hq.1).trans (hk q o hq.1 hq.2 eq)
  have hp2:h''.get? s.heap.objs.size=some {cls:=.type "tuple",data:=.seq [.int (i:Nat) tk,x].toArray}:=(sb.2 _ (Dt lte)).trans a3;have I1:Inv X pins Z (aX H s.heap.objs.size (.tup [.int (i:Nat),xs[i]])) {s with heap:=h'',toks:=tk+1}:=I.laidT (its:=[.int (i:Nat) tk,x]) hf keep2 (by show 2<=Am;decide) (.cons ⟨_,rfl⟩ (.cons ru .nil)) hp2;refine⟨.ref s.heap.objs.size,_,I1,rfl,⟨s.heap.objs.size,xs[i],Ak hi,hfr,rfl,rfl⟩,⟨⟨x,by rw[Int.natCast_add];exact e'⟩,a2.1.extBut sb.extBut hne.symm⟩,λq hq=>?_⟩;rw[bH]
  .exact(hf q hq).1
  .intro eq;subst eq;simp only[Ar,Dv,or_false]at hq;rcases hq with q|q
   .exact Dt lte q
   .exact Dt lti q
 done:=by
  intro X hP hw hK hc i pins s Z H E I hf st hg;subst hP hw hK;obtain⟨⟨old,h1⟩,h4⟩:=st;obtain⟨hqa,rfl⟩:=hg;obtain⟨its,rv,pl,hz⟩:=I.tuple hqa;have l1:=rv.length;refine wpAny_pyNext_enum_endD (Et.draws (A:=X.A.in1) (I.ok.hd hc) it a hia its.toArray) h1 (show Heap.IsTupleIter s.heap it a its.toArray.size/\Heap.IsTuple s.heap a its.toArray from⟨by rw[Ax,<-l1];exact h4,pl⟩) λh' hk=>⟨rfl,?_⟩
  exact I.turnedT (tk:=s.toks) hf λq o hq eq=>hk q o (λz=>hq (by simp[z])) eq
 self:=λ_ _ _ _ _ st h=>by
  obtain⟨⟨old,h1⟩,_⟩:=st;exact wpAny_pyIter_enum h1 h
def zbw(K:Ac)(ta:TA):TI:=λZ H R=>ta Z H λvs H1=>∃a xs,vs=[.ref a]/\bW K H1 a xs/\R (J8 K a xs) H1
theorem zbx{a:Expr}{ta:TA}{p pos:Pos}{es:List Expr}{kx:Nat}{px:Pos}(hg:Gl X "enumerate")(hm:X.mg "enumerate" = none)(ha:PA X [a] ta)(hs:Be [a] X.env=[(false,eval a X.env)]:=by rfl):
  PI X (.Tuple es kx px) (.Call (.Name "enumerate" p) [a] [] pos) (zbw X.K ta):=by
 intro pins s Z H R I h;refine Call_ (kJ I hg hm boot_enumerate (Cw (bA (ha pos pins s Z H _ I h) λus s1 ⟨vs,H1,I1,r1,q1⟩=>?_) hs rfl));obtain⟨a,xs,rfl,hqa,q⟩:=q1;obtain⟨u,rfl,ru⟩:=vals1 r1;cases ru;obtain⟨its,rv1,pl,hz⟩:=I1.tuple hqa;have la:a<s1.heap.objs.size:=by obtain⟨o,e,_⟩:=pl;exact Aw e
 refine Et.call_new pl λh' g1 g2 k=>?_;refine wpAny_pyIter_enum g1 ?_;refine⟨s1.heap.objs.size+1,[s1.heap.objs.size+1,s1.heap.objs.size],_,_,H1,rfl,I1.kept (t':=s1.toks) k,zbv a _ _ xs (wU 1 (by decide)) (Bt (Bl (Nat.lt_succ_of_lt la))) (Bl la),⟨⟨_,g1⟩,g2⟩,λq hq=>?_,q⟩;have hge:s1.heap.objs.size<=q:=by
  simp only[Ar,Dv,or_false]at hq;rcases hq with e|e
  .rw[e];exact TM 1
  .rw[e];exact An _
 exact I1.fpOk hge (I1.hok.fresh hge)
end
end L2
namespace L3
open PySem Spec PyProof.Rows L2
section
variable {X:Cx}{a:Expr}
def zK(ta:dS):i7:=λτ M R=>ta τ M λws M1=>∃zs,ws=[.tup zs]/\R (j7 0 zs) (λ_=>True) M1
theorem zL{tA:dS}{p pos:Pos}{es:List Expr}{kx:Nat}{px:Pos}(hg:Gl X "enumerate")(hm:X.mg "enumerate" = none)(ha:A3 X [a] tA)(hs:Be [a] X.env=[(false,eval a X.env)]:=by rfl):PI X (.Tuple es kx px) (.Call (.Name "enumerate" p) [a] [] pos) (iV X.K (zK tA)):=
 (zbx hg hm ha hs).weak λZ H R' z0=>z0.el λτ M R as am h k=>⟨τ,M,_,as,am,h,λvs H1 ws M1 k1 am1 ax ⟨zs,ew,r⟩=>by
  subst ew;obtain⟨v,rfl,av⟩:=ax.one;exact av.tupE λb xs eb fb qb=>⟨b,xs,by rw[eb],bW.of fb,k _ _ _ _ _ k1 am1 (by
   have st:∀H M,Kp H1 M1 H M->AM X.K H M->bW X.K H b xs:=λH M k _=>bW.of (k.fr _ _ (am1.noTup fb) fb).1;refine⟨λi H M k am kp hi=>⟨st H M k am,by rw[qF]at hi;rw[qb.length];exact hi⟩,λH M k am kp=>⟨st H M k am,by rw[qF,qb.length]⟩,λi H M x H' k am kp hi y=>?_⟩;obtain⟨pp,u,hu,hn,rfl,rfl⟩:=y;obtain⟨w,hw,av⟩:=(qb.kp am1 k).getV hu;obtain⟨am2,k2⟩:=am.tup (u:=.tup [.int (i:Nat),u]) hn;exact⟨.tup [.int ((i:Nat):Int),w],by rw[xY,hw];simp,k2,am2,.tup c9 (.cons (.int _) (.cons (av.go (go_same hn)) .nil))⟩) r⟩⟩
end
end L3
namespace Rg
open PySem Spec PyProof.Rows L2 L3
def zby(q:a7)(row:List Str):bD:=(q.name,0,row.length)
def eU(f:bD):W:=.tup ((fK f).map wK)
def l9(own:Str->Bool)(ps:List Str)(cut:List Int):List bD:=ps.zipIdx.filterMap λx=>if own x.1=true then some (x.1,cut.getD x.2 0,cut.getD (x.2+1) 0) else none
structure Wb(G:Sr)(B:bM):Prop where
 own:∀t,G.own t=cN G.rs t
 few:G.rs.length<=100
 ord:pA G B
 bl:B.length<=1000
 pl:∀r∈G.rs,r.parts.length<=100
abbrev m9(B:bM):W:=.ft (eM fK fX B)
def J9:bE:=λws M R=>∃(q:a7) (rs:List a7) (row:List Str),ws=[cM (q::rs),gC row]/\R (eU (zby q row)) M
def KA:bE:=λws M R=>∃(rs:List a7) (ps:List Str) (cut:List Int),ws=[.dk (ownOf rs),.tup (ps.map W.str),gB cut]/\ps.length+1<=cut.length/\ps.length<=100/\a9 ((l9 (cN rs) ps cut).map eU) M R
def rG(G:Sr)(B:bM)(p:bD->Bool):Prop:=∀e∈B,p e.1=true->∀f∈l9 G.own (kE G e.2.2.1) e.2.2.2,p f=true
def KC:bE:=λws M R=>∃(G:Sr) (B:bM) (aN:bD),ws=[cM G.rs,m9 B,eU aN]/\Wb G B/\aN∈B.map (·.1)/\∀p:bD->Bool,p aN=true->rG G B p->(∀q:bD->Bool,q aN=true->rG G B q->∀f,p f=true->q f=true)->a9 (((B.map (·.1)).filter p).map eU) M R
def KD:bE:=λws M R=>∃(t:Str) (b e:Int),ws=[.str t,.int b,.int e]/\R (.str t) M
abbrev zbz:List Str:=["grammar","row"]
def zbA:aG:=
   (bP (cB (aB (bS IK (aB (aA 0) aE)) (aB (vC (.int 0)) (aB (bX cY (aB (aA 1) aE)) aE)))))
abbrev zbB:List Str:=["own","parts","cut"]
def zbC:aG:=
   (bP (h9 (zK (aB (aA 1) aE)) (j3 2 (e7 (bY 0) (e7 (bY 1) j0))) (bV (aD (rIn false) (aA 1) (aA 2))) (cB (aB (aA 1) (aB (aD aV (aA 3) (aA 0)) (aB (aD aV (aA 3) (aD dY (aA 0) (vC (.int 1)))) aE)))) [none,none,some 0,some 2]))
abbrev zbD:List Str:=["grammar","best","top","own","found","waiting","told","fact"]
def zbE:aG:=
   (bK 3 (bS qV (aB (dN (bS qT (aB (aA 0) aE))) aE)))
def zbF:aG:=
   (bK 4 (J7 (aA 2) (vC (.bl true))))
def zbG:aG:=
   (bK 5 (hZ (aB (aA 2) aE)))
def zbH:aG:=
   (aR (bK 6 (aD aV (aA 1) (tD "list" rPop (aA 5))))
   (fD (dX eS (dN (bS KA (aB (aA 3) (aB (aD aV (aD aV (aA 0) (aD aV (aA 6) (vC (.int 1)))) (vC (.int 1))) (aB (aD aV (aA 6) (vC (.int 2))) aE)))))) (bY 7)
    (cQ (bV (aD (rIn true) (aA 7) (aA 4)))
    (aR (i6 (vC (.bl true)) (kZ (aA 4) (aA 7)))
   (dW (dU "list" eZ (aA 5) (aB (aA 7) aE))))
    c7)))
def zbI:aG:=
   (p9 (gO (aA 5)) zbH)
def zbJ:aG:=
   (bP (h9 (dX y6 (aA 1)) (bY 0) (bV (aD (rIn false) (aA 0) (aA 1))) (aA 0) [none,some 4]))
def zbK:aG:=(aR zbE (aR zbF (aR zbG (aR zbI zbJ))))
abbrev zbL:List Str:=["word","begin","end"]
def zbM:aG:=
   (bP (aA 0))
theorem KG{rs:List a7}(h:rs.length<=100):(namesOf rs).length<=400:=by
 have h1:=tU (rs.map a7.name) [];rw[Aa,Gy,Fi]at h1;exact Au h1 (Au h (by decide))
theorem nA{cut:List Int}{k:Nat}(h:k<cut.length):cJ (cut.map W.int) (k:Int)=some (.int (cut.getD k 0)):=gZ (by rw[Ap,Fw,Ak h];rfl)
theorem zbN{ws:List W}{M:Mm}{R:K3}(h:J9 ws M R):zbA (bR R) (bU zbz ws) M:=by
 obtain⟨q,rs,row,rfl,r⟩:=h;refine⟨_,rfl,q,rs,rfl,_,rfl,z3,_,Sub.refl _,?_⟩;rw[Aa];exact r
theorem zbO{ws:List W}{M:Mm}{R:K3}(h:KD ws M R):zbM (bR R) (bU zbL ws) M:=by
 obtain⟨t,b,e,rfl,r⟩:=h;exact⟨_,rfl,_,Sub.refl _,r⟩
def zM(rs:List a7)(cut:List Int):W->Option W
 | .tup [.int i,.str t]=>if cN rs t=true then some (eU (t,cut.getD i.toNat 0,cut.getD (i.toNat+1) 0)) else none
 | _=>none
theorem zbP{F:W->Option W}{ws:List W}{os:List (Option W)}(h:Gj (λw o=>o=F w) ws os):os.filterMap id=ws.filterMap F:=by
 induction h with
 | nil=>rfl
 | cons a _ ih=>rw[a,Ec,Ec,ih];rfl
theorem zbQ(rs:List a7)(cut:List Int)(ps:List Str):(j7 0 (ps.map W.str)).filterMap (zM rs cut)=(l9 (cN rs) ps cut).map eU:=by
 unfold l9;rw[enum_zip,Kg,List.map_filterMap];refine congrArg (λf=>List.filterMap f ps.zipIdx) (funext λx=>?_);show(if cN rs x.1=true then _ else none)=_;rw[Dg]
 by_cases h:cN rs x.1=true
 .rw[if_pos h,if_pos h];rfl
 .rw[if_neg h,if_neg h];rfl
theorem zbR{ws:List W}{M:Mm}{R:K3}(h:KA ws M R):zbC (bR R) (bU zbB ws) M:=by
 obtain⟨rs,ps,cut,rfl,hc,hp,r⟩:=h;refine⟨_,rfl,_,rfl,V5 (rest:=[some (.dk (ownOf rs)),some (gB cut)]) (λw o=>o=zM rs cut w) (λw hw=>?_) (fT (by rw[qF,Aa];lia)) (λ_ _=>trivial) (λa b hm M' C D sb h1 h2=>?_) λos po=>?_⟩
 .rw[enum_zip]at hw;obtain⟨x,_,rfl⟩:=Bg.mp hw;exact⟨_,_,rfl⟩
 .rw[enum_zip]at hm;obtain⟨⟨t,k⟩,hx,e⟩:=Bg.mp hm;cases e;have hk:=(Ai.mp (Gx.mp hx)).1;have ep:zM rs cut (.tup [.int (k:Int),.str t])=if cN rs t=true then some (eU (t,cut.getD k 0,cut.getD (k+1) 0)) else none:=rfl;have ho:(bJ (ownOf rs) (Sum.inr t:aK)).isSome=cN rs t:=u5 rs t;exact⟨_,rfl,_,rfl,_,⟨Sum.inr t,rfl,rfl⟩,_,rfl,bC (λz=>⟨_,rfl,_,rfl,_,rfl,_,nA (by lia),_,rfl,_,rfl,_,nA (k:=k+1) (by lia),z3,h1 _ (by rw[ep,if_pos (ho.symm.trans z)];rfl)⟩) λz=>h2 (by rw[ep,if_neg (ne_true_of_eq_false (ho.symm.trans z))])⟩
 .rw[zbP po,zbQ];exact u0 r
structure FW(G:Sr)(B:bM)(aN:bD)(ex:bD->Prop)(fs wt:List bD):Prop where
 tp:aN∈fs
 nd:fs.Nodup
 sub:∀f∈fs,f∈B.map (·.1)
 wq:∀f∈wt,f∈fs
 wl:wt.length<=fs.length
 cl:∀e∈B,e.1∈fs->e.1∈wt\/ex e.1\/∀f∈l9 G.own (kE G e.2.2.1) e.2.2.2,f∈fs
 mn:∀q:bD->Bool,q aN=true->rG G B q->∀f∈fs,q f=true
theorem FW.len{G:Sr}{B:bM}{aN:bD}{fs wt:List bD}{ex:bD->Prop}(h:FW G B aN ex fs wt):fs.length<=B.length:=by
 have:=len_sub h.nd h.sub;rw[Aa]at this;exact this
theorem FW.add{G:Sr}{B:bM}{aN g:bD}{fs wt:List bD}{ex:bD->Prop}(h:FW G B aN ex fs wt)(hg:g∉fs)(hb:g∈B.map (·.1))(hm:∀q:bD->Bool,q aN=true->rG G B q->q g=true):FW G B aN ex (fs++[g]) (wt++[g]):=by
 refine⟨Bu _ h.tp,?_,λf hf=>?_,λf hf=>?_,(by rw[Ah,Ah];exact Nat.add_le_add_right h.wl _),λe he hf=>?_,λq h1 h2 f hf=>(Bj.mp hf).elim (h.mn q h1 h2 f) λz=>by rw[Ao.mp z];exact hm q h1 h2⟩
 .rw[Fb];exact⟨h.nd,(by simp),λa ha b hb e=>hg (by cases Ao.mp hb;rw[<-e];exact ha)⟩
 .rcases Bj.mp hf with z|z
  .exact h.sub f z
  .cases Ao.mp z;exact hb
 .rcases Bj.mp hf with z|z
  .exact Bu _ (h.wq f z)
  .exact Cf _ z
 .rcases Bj.mp hf with z|z
  .rcases h.cl e he z with y|y|y
   .exact .inl (Bu _ y)
   .exact .inr (.inl y)
   .exact .inr (.inr λf hf=>Bu _ (y f hf))
  .exact .inl (Cf _ z)
def pD(fs:List bD):W->Option W
 | .tup [.str n,.int b,.int e]=>if (n,b,e)∈fs then some (.tup [.str n,.int b,.int e]) else none
 | _=>none
theorem zbS(fs gs:List bD):(gs.map eU).filterMap (pD fs)=(gs.filter λf=>decide (f∈fs)).map eU:=by
 induction gs with
 | nil=>rfl
 | cons f gs ih=>
  have e:pD fs (eU f)=if f∈fs then some (eU f) else none:=rfl;rw[Bd,Ec,Dw,e,ih]
  by_cases h:f∈fs
  .rw[if_pos h,if_pos (decide_eq_true h),Bd]
  .rw[if_neg h,if_neg (by rw[decide_eq_false h];exact Av)]
theorem KH{B:bM}{f:bD}(h:f∈B.map (·.1)):∃v,aH B f=some v/\bJ (eM fK fX B) (fK f)=some (fX v):=by
 obtain⟨v,hv⟩:=Dh.mp (iL.mpr h);exact⟨v,hv,by rw[kD lE,hv];rfl⟩
theorem zbT{G:Sr}{B:bM}(o:pA G B){e:En}(he:e∈B):aH B e.1=some e.2:=by
 obtain⟨a,b,sp⟩:=Fx he;obtain⟨r,E⟩:=o a e b sp;rw[sp,uQ,E.no,eA,if_pos rfl];rfl
theorem KI{G:Sr}{pre:bM}{e:En}{r:a7}(E:lY G pre e r){g:bD}(hg:g∈l9 G.own r.parts e.2.2.2):g∈pre.map (·.1):=by
 obtain⟨⟨t,k⟩,hx,e1⟩:=Im.mp hg;have hx:=Gx.mp hx
 by_cases ho:G.own t=true
 .rw[if_pos ho]at e1;cases e1;exact iL.mp (E.pn k t hx ho)
 .rw[if_neg ho]at e1;cases e1
theorem vD{G:Sr}{pre:bM}{e:En}{r:a7}(E:lY G pre e r):kE G e.2.2.1=r.parts:=by unfold kE;rw[E.ru];rfl
theorem zbU{ws:List W}{M:Mm}{R:K3}(h:KC ws M R):zbK (bR R) (bU zbD ws) M:=by
 obtain⟨G,B,aN,rfl,w,ht,r⟩:=h;have hown:G.own=cN G.rs:=funext w.own;refine xI rfl ⟨G.rs,rfl,(Au w.few (by decide)),a9.frz ⟨namesOf G.rs,rfl,KG w.few,λp hp=>xI rfl ⟨aY,fK aN,rfl,xI rfl ⟨z1,λq hq=>?_⟩⟩⟩⟩;rw[eW]at hq⊢;have hpq:q≠p:=λe=>by rw[e,aY]at hq;cases hq
 have hq0:M q=none:=by rw[aW hpq]at hq;exact hq
 have atp:∀{X Y:MO},put (put M p X) q Y p=some X:=λ{X Y}=>by rw[aW (Bt hpq),aY]
 have setp:∀{X X' Y:MO},put (put (put M p X) q Y) p X'=put (put M p X') q Y:=λ{X X' Y}=>by rw[UB hpq,eW]
 refine⟨λm τ M'=>∃fs wt o6 o7,τ=[some (cM G.rs),some (m9 B),some (eU aN),some (.dk (ownOf G.rs)),some (.ref p),some (.ref q),o6,o7]/\M'=put (put M p (.dT (iY fs))) q (.lst (wt.map eU))/\FW G B aN (λ_=>False) fs wt/\m=2*(B.length-fs.length)+wt.length,
  ⟨_,[aN],[aN],_,_,rfl,rfl,⟨List.mem_singleton_self _,(by simp),λf hf=>by cases Ao.mp hf;exact ht,λf hf=>hf,An _,λe _ hf=>.inl hf,λq h1 _ f hf=>by rw[Ao.mp hf];exact h1⟩,rfl⟩,?_⟩
 rintro m τ M' ⟨fs,wt,o6,o7,rfl,rfl,F,rfl⟩;refine xI rfl (.inl ⟨_,aY,bC (λh=>?_) λh=>?_⟩)
 .rcases Ej wt with e|⟨wt',f,e⟩
  .rw[e]at h;cases h
  rw[Ek]at e;subst e;obtain⟨v,hv,lv⟩:=KH (F.sub f (F.wq f (by simp)));obtain⟨pre,post,sp⟩:=j9 hv;obtain⟨ru,E⟩:=w.ord pre _ post sp;obtain⟨ru',h1,h2⟩:=qY (rs:=G.rs) (n:=v.2.1) (Ai.mp E.ru).1;cases (show some ru'=some ru from h1.symm.trans E.ru);refine xI rfl (xI rfl ⟨eT aY,_,_,by rw[Bb];exact aY,_,⟨fK f,rfl,lv.symm⟩,xI rfl (xI rfl (xI rfl (xI rfl ⟨_,h2,xI rfl (xI rfl (xI rfl ⟨G.rs,ru.parts,v.2.2,rfl,E.ln,w.pl ru (Bf h1),a9.frz (iK ?_)⟩))⟩)))⟩);rw[eW,<-hown];obtain⟨pf,hpf⟩:∃pf,pf=l9 G.own ru.parts v.2.2:=⟨_,rfl⟩;rw[<-hpf];have hpB:∀g∈pf,g∈B.map (·.1):=λg hg=>by
   rw[hpf]at hg;rw[sp,Bb];exact Bu _ (KI E hg)
  have hlen:=F.len;refine iW (λj τ M'=>∃fs2 wt2 o7,τ=[some (cM G.rs),some (m9 B),some (eU aN),some (.dk (ownOf G.rs)),some (.ref p),some (.ref q),some (fX v),o7]/\M'=put (put M p (.dT (iY fs2))) q (.lst (wt2.map eU))/\(∀g∈pf.take j,g∈fs2)/\FW G B aN (λx=>x=f) fs2 wt2/\2*(B.length-fs2.length)+wt2.length+1<=2*(B.length-fs.length)+(wt'++[f]).length) ?_ ?_ ?_
  .refine⟨fs,wt',xI rfl ⟨rfl,(λg hg=>nomatch hg),⟨F.tp,F.nd,F.sub,λx hx=>F.wq x (Bu _ hx),Au (by rw[Ah];exact Nat.le_add_right _ _) F.wl,λe he hf=>?_,F.mn⟩,by rw[Ah];exact An _⟩⟩;rcases F.cl e he hf with y|y|y
   .rcases Bj.mp y with y|y
    .exact .inl y
    .exact .inr (.inl (Ao.mp y))
   .exact y.elim
   .exact .inr (.inr y)
  .rintro j x τ M' hx ⟨fs2,wt2,o7,rfl,rfl,hin,F2,hm⟩ D1 hD1;rw[Ap]at hx;obtain⟨g,hg,rfl⟩:=Bh.mp hx;have hgm:=Bf hg;have hl2:=F2.len;have hbl:=w.bl;refine xI rfl (xI rfl (.inr ⟨_,.inr ⟨iY fs2,fK g,atp,rfl,rfl⟩,xI rfl ?_⟩));show if (!(bJ (iY fs2) (fK g)).isSome)=true then _ else _;rw[zE];refine bC (λhn=>?_) λhn=>?_
   .have hn:g∉fs2:=of_decide_eq_false (by rw[<-Gv (decide _),hn];rfl);have F3:=F2.add hn (hpB g hgm) λq h1 h2=>h2 (f,v) (by rw[sp];simp) (F.mn q h1 h2 f (F.wq f (by simp))) g (by rw[show kE G v.2.1=ru.parts from vD E,<-hpf];exact hgm);have hl3:=F3.len;rw[Ah,Bo]at hl3;have lw:=F2.wl;refine xI rfl (xI rfl (oS (k:=fK g) atp (by unfold iY;rw[Aa];exact eO (by lia)) ?_));rw[zbn hn,setp];refine xI rfl ⟨eT aY,xI rfl ⟨_,aY,eO (by rw[Aa];lia),hD1 _ _ ⟨fs2++[g],wt2++[g],xI rfl ⟨?_,λy hy=>?_,F3,?_⟩⟩⟩⟩
    .rw[eW,Bb];rfl
    .rw[Fl,hg]at hy;rcases Bj.mp hy with z|z
     .exact Bu _ (hin y z)
     .exact Cf _ z
    .rw[Ah,Ah,Bo];lia
   .have hn:g∈fs2:=of_decide_eq_true (by rw[<-Gv (decide _),hn];rfl);refine hD1 _ _ ⟨fs2,wt2,xI rfl ⟨rfl,λy hy=>?_,F2,hm⟩⟩;rw[Fl,hg]at hy;rcases Bj.mp hy with z|z
    .exact hin y z
    .cases Ao.mp z;exact hn
  .rintro τ M' ⟨fs2,wt2,o7,rfl,rfl,hin,F2,hm⟩;rw[Aa,Ck]at hin;refine⟨_,_,hm,Sub.refl _,fs2,wt2,_,xI rfl ⟨rfl,⟨F2.tp,F2.nd,F2.sub,F2.wq,F2.wl,λe he hf=>?_,F2.mn⟩,rfl⟩⟩;rcases F2.cl e he hf with y|y|y
   .exact .inl y
   .have:=zbT w.ord he;rw[y,hv]at this;refine .inr (.inr λg hg=>hin g ?_);rw[<-Cj this,show kE G v.2.1=ru.parts from vD E]at hg;rw[hpf];exact hg
   .exact .inr (.inr y)
 .have e:wt=[]:=by
   cases wt with
   | nil=>rfl
   | cons a b=>cases h
  subst e;have hbl:=w.bl;refine xI rfl (tS (rest:=[some (.ref p)]) (pD fs) (fT (by rw[Aa,Aa];lia)) (λ_ _=>trivial) (λx hx M3 C D sb d1 d2=>?_) ?_)
  .rw[Cd]at hx;obtain⟨e,he,rfl⟩:=Bg.mp hx;have ei:pD fs (eU e.1)=if e.1∈fs then some (eU e.1) else none:=rfl;refine xI rfl (xI rfl (.inr ⟨_,.inr ⟨iY fs,fK e.1,sb _ _ atp,rfl,rfl⟩,xI rfl ?_⟩));show if (bJ (iY fs) (fK e.1)).isSome=true then _ else _;rw[zE];exact bC (λz=>xI rfl (d1 _ (by show pD fs (eU e.1)=_;rw[ei,if_pos (of_decide_eq_true z)];rfl))) λz=>d2 (by show pD fs (eU e.1)=_;rw[ei,if_neg (of_decide_eq_false z)])
  .have e:((eM fK fX B).map λp=>W.tup (p.1.map wK))=(B.map (·.1)).map eU:=by rw[Cd,Cd];rfl
   rw[e,zbS];have z:=r (λf=>decide (f∈fs)) (decide_eq_true F.tp) λe he hf f hm=>by
    rcases F.cl e he (of_decide_eq_true hf) with y|y|y
    .cases y
    .exact y.elim
    .exact decide_eq_true (y f hm)
   have z:=z λq h1 h2 f hf=>F.mn q h1 h2 f (of_decide_eq_true hf);intro s hs;have hs1:s≠q:=λe=>by rw[e,aY]at hs;cases hs
   have hs2:s≠p:=λe=>by rw[e,atp]at hs;cases hs
   rw[aW hs1,aW hs2]at hs;exact⟨_,Sub.put (gV (gV (Sub.refl _) hp) hq0),z s hs⟩
end Rg
namespace M47
open PySem Spec PyProof.Rows L2 L3 Rg
def kF(rs:List a7)(row U:List Str):Sr:=⟨rs,cN rs,eY row.length,mZ U row,λ_=>0⟩
def pE(rs:List a7):Nat->W->Str->List Str->Prop
 | 0,_,_,_=>False
 | d+1,w,X,ts=>∃(n:Nat) (r:a7) (kids:List W) (ps:List (List Str)),w=.tup [.int n,.tup kids]/\rs[n]? = some r/\r.name=X/\kids.length=r.parts.length/\ps.length=r.parts.length/\ts=ps.flatten/\
   ∀(k:Nat) (t:Str) (p:List Str),r.parts[k]? = some t->ps[k]? = some p->(is8 t=false->kids[k]? = some (W.str t)/\p=[t])/\(is8 t=true->∃w',kids[k]? = some w'/\pE rs d w' t p)
section
variable {rs:List a7}{row U:List Str}{B:bM}
theorem zbV{n:Nat}{r:a7}(h:(rs.map bZ)[n]? = some r):∃r0,rs[n]? = some r0/\r=bZ r0:=by
 rw[Ap]at h;obtain⟨r0,h1,h2⟩:=Bh.mp h;exact⟨r0,h1,h2.symm⟩
theorem zN{r:a7}(h:r.parts≠[]):bZ r=r:=by unfold bZ;rw[if_neg h]
theorem KJ{pre:bM}{e:En}{r:a7}(E:lY (cH rs row U) pre e r):∃r0,r=bZ r0/\lY (kF rs row U) pre e r0:=by
 obtain⟨r0,h1,rfl⟩:=zbV E.ru;refine⟨r0,rfl,?_⟩;have hfa:=E.fa;rw[rD]at hfa
 by_cases h:r0.parts=[]
 .refine⟨E.no,h1,hfa,?_,λk t ht=>by rw[h]at ht;simp at ht,λk t ht=>by rw[h]at ht;simp at ht⟩;have:=E.ln;rw[h];simp;lia
 .have:=zN h;rw[this]at E;exact⟨E.no,h1,E.fa,E.ln,E.pn,E.pw⟩
theorem zbW(h:fG (cH rs row U) B):pA (kF rs row U) B:=λpre e post hb=>by
 obtain⟨r,E⟩:=uR h pre e post hb;obtain⟨r0,_,E0⟩:=KJ E;exact⟨r0,E0⟩
theorem vE(g:d3 rs)(h:fG (cH rs row U) B){f:bD}(hf:f∈B.map (·.1)):f.1∈eJ/\0<=f.2.1/\f.2.1<=f.2.2/\f.2.2<=row.length:=by
 obtain⟨x,hx⟩:=Dh.mp (iL.mpr hf);obtain⟨h1,_⟩:=JP h hx;have h2:=JR h hx;refine⟨?_,h1.le.1,h1.le.2,?_⟩
 .have:∀{X},Fr rs X->X∈eJ:=λh=>by
   cases h with
   | mk hr _=>exact g.nm _ hr
  exact this h2
 .obtain⟨pre,post,hb⟩:=j9 hx;refine uX (λ_=>rfl) h (λf v y=>f.2.2<=row.length) (λr hr b hb e v y p=>?_) _ pre (f,x) post rfl hb;show e<=row.length
  replace hb:=(jT.mp hb).2
  clear hr;generalize r.parts=ps at p
  induction p with
  | nil=>exact hb
  | @cons t ts b m e u v x y hs _ ih=>
   refine ih ?_;rcases hs with⟨_,h2,_⟩|⟨_,h2⟩
   .exact(m7.mp h2).2.2.2.1
   .exact h2
def vF(pre:bM)(f:bD):Nat:=8*(f.2.2-f.2.1).toNat+((pre.filter (m8 f)).length+1)
theorem KL(nd:(B.map (·.1)).Nodup)(hin:∀f∈B.map (·.1),f.1∈eJ){pre post:bM}{e:En}(hb:B=pre++e::post):(pre.filter (m8 e.1)).length+1<=8:=by
 have h1:(((pre++[e]).filter (m8 e.1)).map λe=>e.1.1).Nodup:=by
  have hp:((pre++[e]).map (·.1)).Nodup:=by
   rw[hb,List.append_cons,Bb]at nd;exact(Fb.mp nd).1
  rw[Kf,List.pairwise_map]at hp⊢;refine List.Pairwise.imp_of_mem (λha hb hne hn=>?_) (hp.filter _);have h1:=of_decide_eq_true (Ct.mp ha).2;have h2:=of_decide_eq_true (Ct.mp hb).2;exact hne (Prod.ext hn (h1.trans h2.symm))
 have h2:=len_sub (b:=eJ) h1 λx hx=>by
  obtain⟨y,hy,rfl⟩:=Bg.mp hx;have:=(Ct.mp hy).1;exact hin y.1 (List.mem_map_of_mem (by rw[hb,List.append_cons];exact Bu _ this))
 rw[Aa,List.filter_append,Ah]at h2;have h3:([e].filter (m8 e.1)).length=1:=by rw[Dw,if_pos (show m8 e.1 e=true from decide_eq_true rfl)];rfl
 rw[h3]at h2;exact h2
theorem zbX(l:List (List SI)):jU l.flatten=(l.map jU).flatten:=by
 unfold jU
 induction l with
 | nil=>rfl
 | cons x l ih=>rw[Ef,Md,ih];rfl
theorem zbY(g:d3 rs)(h:fG (cH rs row U) B):∀(m:Nat) (pre post:bM) (e:En),B=pre++e::post->vF pre e.1<=m->pE rs m (l0 (kF rs row U) B e.1) e.1.1 (jU (yT (cH rs row U) B e.1)):=by
 have nd:=y7 h;have hin:=λf hf=>vE g h (f:=f) hf;intro m
 induction m with
 | zero=>intro pre post e _ hm;unfold vF at hm;lia
 | succ m ih=>
  intro pre post e hb hm;obtain⟨r,E,hl⟩:=JH h pre e post hb;obtain⟨r0,rfl,E0⟩:=KJ E;have hr0:=Bf E0.ru
  by_cases h0:r0.parts=[]
  .refine⟨e.2.2.1,r0,[],[],(uU hb E0).trans (by rw[h0];rfl),E0.ru,by rw[E0.fa],by rw[h0];rfl,by rw[h0];rfl,?_,λk t p ht=>by rw[h0]at ht;simp at ht⟩;rw[rB hb E,lI,show(bZ r0).parts=[("" : Str)] by unfold bZ;rw[if_pos h0]];show jU (List.flatten [if cN rs "" = true then _ else _])=[];rw[JT g,if_neg Av];rfl
  .have hg:=zN h0;rw[hg]at E hl;obtain⟨cut,hcut⟩:∃cut,cut=e.2.2.2:=⟨_,rfl⟩;have hfa:=E.fa;rw[<-hcut]at hl hfa;rw[<-zaS,<-getD_last,hl,Nat.add_sub_cancel]at hfa;have own8:∀k t,r0.parts[k]? = some t->cN rs t=is8 t:=λk t ht=>g.ow r0 hr0 t (Bf ht);have nm:∀k t,r0.parts[k]? = some t->is8 t=true->∃pre' v post',pre=pre'++((t,cut.getD k 0,cut.getD (k+1) 0),v)::post':=λk t ht ho=>by
    have:=E.pn k t ht (show cN rs t=true by rw[own8 k t ht];exact ho);rw[<-hcut]at this;obtain⟨v,hv⟩:=Dh.mp this;obtain⟨a,b,h⟩:=j9 hv;exact⟨a,v,b,h⟩
   have mo:∀k t,r0.parts[k]? = some t->cut.getD k 0<=cut.getD (k+1) 0:=λk t ht=>by
    cases ho:is8 t with
    | true=>
     obtain⟨a,v,b,h⟩:=nm k t ht ho;exact(hin (t,cut.getD k 0,cut.getD (k+1) 0) (by rw[hb,h];simp)).2.2.1
    | false=>
     obtain⟨pr,h⟩:=E.pw k t ht (show cN rs t=false by rw[own8 k t ht];exact ho);rw[<-hcut]at h;exact(m7.mp h).2.2.1
   have up:∀j i,i+j<=r0.parts.length->cut.getD i 0<=cut.getD (i+j) 0:=λj=>by
    induction j with
    | zero=>exact λi _=>Ht _
    | succ j ihj=>
     intro i hi;exact Ft (ihj i (by lia)) (mo (i+j) _ (Ak (by lia)))
   refine⟨e.2.2.1,r0,_,(r0.parts.zipIdx.map λx=>if cN rs x.1=true then yT (cH rs row U) B (x.1,e.2.2.2.getD x.2 0,e.2.2.2.getD (x.2+1) 0) else [(x.1,e.2.2.2.getD x.2 0,e.2.2.2.getD (x.2+1) 0)]).map jU,uU hb E0,E0.ru,by rw[E0.fa],by unfold lZ;simp,by simp,?_,λk t p ht hp=>?_⟩
   .rw[rB hb E,lI,zbX];rfl
   .have hz:r0.parts.zipIdx[k]? = some (t,k):=by rw[Jt,ht,Fi];rfl
    rw[Ap,Ap,hz]at hp;have hp:jU (if cN rs t=true then yT (cH rs row U) B (t,e.2.2.2.getD k 0,e.2.2.2.getD (k+1) 0) else [(t,e.2.2.2.getD k 0,e.2.2.2.getD (k+1) 0)])=p:=Cj hp;have hkid:(lZ (kF rs row U) (λt _ _=>W.str t) (l0 (kF rs row U) B) e.2.2.2 r0.parts)[k]? = some (if cN rs t=true then l0 (kF rs row U) B (t,e.2.2.2.getD k 0,e.2.2.2.getD (k+1) 0) else .str t):=by
     unfold lZ;rw[Ap,hz];rfl
    rw[own8 k t ht]at hp hkid;refine⟨λho=>?_,λho=>?_⟩
    .have ho:¬is8 t=true:=by rw[ho];exact Av
     rw[if_neg ho]at hp hkid;refine⟨hkid,?_⟩;rw[<-hp];show lw t++[]=[t];unfold lw;rw[if_neg (JS (g.pt r0 hr0 t (Bf ht))),Cm]
    .rw[if_pos ho]at hp hkid;refine⟨_,hkid,?_⟩;obtain⟨pre',v,post',hpr⟩:=nm k t ht ho;have hb':B=pre'++((t,cut.getD k 0,cut.getD (k+1) 0),v)::(post'++e::post):=by rw[hb,hpr,De];rfl
     rw[<-hp,<-hcut];refine ih pre' _ _ hb' ?_;have hk:=(Ai.mp ht).1;have l1:=up k 0 (by lia);have l2:=up (r0.parts.length-(k+1)) (k+1) (by lia);rw[Fi]at l1;rw[show k+1+(r0.parts.length-(k+1))=r0.parts.length by lia]at l2;have l3:=mo k t ht;have c4:=KL nd (λf hf=>(hin f hf).1) hb';unfold vF at hm⊢;rw[hfa]at hm;simp only at hm c4⊢
     by_cases hs:cut.getD k 0=cut.getD 0 0/\cut.getD (k+1) 0=cut.getD r0.parts.length 0
     .have hsame:m8 (t,cut.getD k 0,cut.getD (k+1) 0)=m8 (r0.name,cut.getD 0 0,cut.getD r0.parts.length 0):=by unfold m8;rw[hs.1,hs.2]
      rw[hsame,hs.1,hs.2];rw[hpr,List.filter_append,Dw,if_pos (by rw[<-hsame];exact decide_eq_true rfl),Ah,Az]at hm;lia
     .lia
theorem zbZ(g:d3 rs)(w:jC row)(h:fG (cH rs row U) B){f:bD}(hf:f∈B.map (·.1)):pE rs 104 (l0 (kF rs row U) B f) f.1 (jU (yT (cH rs row U) B f)):=by
 obtain⟨e,he,rfl⟩:=Bg.mp hf;obtain⟨a,b,sp⟩:=Fx he;refine zbY g h 104 a b e sp ?_;have c4:=KL (y7 h) (λf hf=>(vE g h hf).1) sp;obtain⟨_,h1,h2,h3⟩:=vE g h hf;have:=w.few;unfold vF;lia
def zb0:List (Int×Int):=(eY 12).flatMap λb=>((eY 12).filter λe=>decide (b<=e)).map λe=>(b,e)
theorem KN(g:d3 rs)(w:jC row)(h:fG (cH rs row U) B):B.length<=728:=by
 have:=len_sub (b:=eJ.flatMap λX=>zb0.map λp=>(X,p.1,p.2)) (y7 h) λf hf=>by
  obtain⟨h1,h2,h3,h4⟩:=vE g h hf;have:=w.few;refine Fu.mpr ⟨f.1,h1,Bg.mpr ⟨(f.2.1,f.2.2),Fu.mpr ⟨f.2.1,jT.mpr ⟨h2,by lia⟩,Bg.mpr ⟨f.2.2,Ct.mpr ⟨jT.mpr ⟨by lia,by lia⟩,decide_eq_true h3⟩,rfl⟩⟩,rfl⟩⟩
 rw[Aa]at this;refine Au this ?_;decide +kernel
theorem zb1{S:List gW}{r w:List Str}{n:Int}(h:Gn S r w n):(S.length:Int)<=n+r.length:=by
 induction h with
 | nil=>decide
 | keep _ ih=>simp only[Az];lia
 | drop _ ih=>simp only[Az];lia
 | put _ ih=>simp only[Az];lia
 | swap _ ih=>simp only[Az];lia
theorem KO(l:List (List SI)):gL row l.flatten=(l.map (gL row)).flatten:=by
 unfold gL
 induction l with
 | nil=>rfl
 | cons x l ih=>rw[Ef,Md,ih];rfl
theorem zb2{G:Sr}(h:pA G B){e:En}(he:e∈B){f:bD}(hf:f∈l9 G.own (kE G e.2.2.1) e.2.2.2):(gL row (yT G B f)).length<=(gL row (yT G B e.1)).length:=by
 obtain⟨pre,post,hb⟩:=Fx he;obtain⟨r,E⟩:=h pre e post hb;rw[vD E]at hf;obtain⟨⟨t,k⟩,h1,h2⟩:=Im.mp hf;have ho:G.own t=true:=by
  by_cases ho:G.own t=true
  .exact ho
  .rw[if_neg ho]at h2;cases h2
 rw[if_pos ho]at h2;cases h2;rw[rB hb E];unfold lI;rw[KO];obtain⟨a,b,e2⟩:=Fx h1;rw[e2];simp only[Bb,Bd,Gp,Ef,Ah,if_pos ho];lia
end
end M47
namespace L2
open PySem Spec PyProof.Rows
def zP(X:Cx)(A:Cq)(N':List Str)(qual:Str)(sc:Hc)(f:Addr)(cd:Ae)(cl:List (Str×Addr))(s:Ag)(H:Hp):Cx where
 prog:=X.prog
 w:=X.w
 K:=X.K
 mg:=X.mg
 base:=X.base
 A:=A.deeper (PySem.W.envX qual sc s.heap.objs.size f cd cl)
 N:=N'
 s₀:=s
 H₀:=H
 env:=PySem.W.envX qual sc s.heap.objs.size f cd cl
 outer:=X.stack
 stack:=PySem.W.envX qual sc s.heap.objs.size f cd cl::X.stack
 ex:=[]
 fn:=λ_=>false
 calm:=true
 pn:=[]
 xe:=λ_ _=>False
end L2
namespace L3
open PySem Spec PyProof.Rows L2
def BMod(K:Ac)(mg:Str->Option Ae):Prop:=∃bm o,mg "__builtins__" = some (.ref bm)/\bm≠Lv/\bm≠Dj/\K.lookup bm=some o/\o.cls=.type "module"/\o.dict=some Lv/\o.data=.plain
section
variable {X:Cx}{a:Expr}{ta tb:aZ}{p kp lp pos:Pos}{x y:Str}{sc:Hc}{params:Arguments}{body:Expr}{c P:Addr}{j:Nat}
theorem zb3{pins:List (Addr×Obj)}{Z:SV}{s:Ag}{H:Hp}{M:Mm}{c':Addr}{qual:Str}{lp:Pos}{h':Heap}{tk:Nat}(I:Inv X pins Z H s)(am:AM X.K H M)(hP:H P=some (.ext λh=>h.get? P=some (Fh (mL lp none))))(mP:M P=some (.tb lp qual))(hx:Lq P s.heap h')(hge:s.heap.objs.size<=c')(hrec:h'.CodeRec (.ref c') qual)(htb:h'.get? P=some (Fh (mL lp (some c')))):
  ∃H2,Inv X pins Z H2 {s with heap:=h',toks:=tk}/\AM X.K H2 M/\Kp H M H2 M/\H2 c'=some (.ext λh=>h.CodeRec (.ref c') qual)/\M c'=none/\∀b,s.heap.objs.size<=b->b≠c'->H2 b=none:=by
 have nc:H c'=none:=I.hok.fresh hge;have hPl:P<s.heap.objs.size:=I.hok.lt hP;have hcP:c'≠P:=λe=>absurd (e▸hge) (Nat.not_le.mpr hPl);have mc:M c'=none:=am.nonM nc;obtain⟨H2,e2⟩:∃H2,H2=aX (aX H c' (.ext λh=>h.CodeRec (.ref c') qual)) P (.ext λh=>h.get? P=some (Fh (mL lp (some c')))):=⟨_,rfl⟩;have aP:H2 P=some (.ext λh=>h.get? P=some (Fh (mL lp (some c')))):=by rw[e2,c9]
 have ac:H2 c'=some (.ext λh=>h.CodeRec (.ref c') qual):=by rw[e2,bH hcP,c9]
 have ao:∀{b:Addr},b≠P->b≠c'->H2 b=H b:=λ{b} h1 h2=>by rw[e2,bH h1,bH h2]
 have nP:∀{b:Addr} {u:HO},H b=some u->(∀φ,u≠.ext φ)->b≠P:=λ{b u} e n z=>by rw[z,hP]at e;cases e;exact n _ rfl
 have nz:∀{b:Addr},H b=none->b≠P:=λ{b} e z=>by rw[z,hP]at e;cases e
 have nq:∀{b:Addr} {u:HO},H b=some u->b≠c':=λ{b u} e z=>by rw[z,nc]at e;cases e
 have go:Go H M H2 M:=⟨λb xs e=>by rw[ao (nP e λ_ z=>nomatch z) (nq e)];exact e,λb o u e=>by rw[ao (nP e λ_ z=>nomatch z) (nq e)];exact e,λb o n e=>⟨by rw[ao (λz=>by rw[z,mP]at n;cases n) (nq e)];exact e,n⟩⟩;refine⟨H2,I.un (h':=h') (t':=tk) ⟨λb o e n _ _=>hx b o (nz n) e,λb o e n _ _=>⟨o.slots,hx b o (nz n) e⟩,λb o e n _=>?_,λb o e _=>?_,λb xs e=>go.ht b xs e,λb o u e=>go.hf b o u e,λb ps e=>⟨#[],?_⟩⟩ (λb o e=>?_),λb o e=>?_,⟨go.hl,λb o e=>?_⟩,ac,mc,λb hb n=>?_⟩
 .rw[ao (nz n) (Bl (Ca (Aw e) hge))];exact n
 .by_cases hb:b=P
  .exact⟨_,hb▸htb⟩
  .exact⟨o,hx b o hb e⟩
 .rw[ao (nP e λ_ z=>nomatch z) (nq e),e];simp
 .by_cases hb:b=P
  .subst hb;rw[aP]at e;cases e;exact⟨htb,⟨_,htb⟩,λh1 h2 e k=>k _ e⟩
  .by_cases hc:b=c'
   .subst hc;rw[ac]at e;cases e;obtain⟨c0,oc,vs,t,e0,e1,r⟩:=hrec;cases e0;exact⟨⟨_,oc,vs,t,rfl,e1,r⟩,⟨_,e1⟩,λh1 h2 ⟨c0,oc,vs,t,e0,e1,r⟩ k=>by cases e0;exact⟨_,oc,vs,t,rfl,k _ e1,r⟩⟩
   .rw[ao hb hc]at e;refine(I.hok b o e).stay (λd u hd q=>hx d u ?_ q) (λd q=>by rw[ao (nP q λ_ z=>nomatch z) (nq q)];exact q) λd xs q=>go.ht d xs q;rcases hd with rfl|hd
    .exact hb
    .exact nP hd λ_ z=>nomatch z
 .by_cases hb:b=P
  .subst hb;rw[mP]at e;cases e;exact⟨some c',aP,λc0 h0=>by cases h0;exact⟨ac,mc⟩⟩
  .have:=am b o e;obtain⟨u,hu⟩:=this.has;exact this.go go (ao hb (nq hu))
 .obtain⟨u,hu⟩:=(am b o e).has
  by_cases hb:b=P
  .exact⟨_,hb▸aP⟩
  .exact⟨u,by rw[ao hb (nq hu)];exact hu⟩
 .rw[ao (λz=>absurd (z▸hb) (Nat.not_le.mpr hPl)) n];exact I.hok.fresh hb
end
end L3
namespace L2
open PySem Spec PyProof.Rows
def n9(P:Addr)(lp:Pos)(o:Option Addr):HO:=.ext λh=>h.get? P=some (Fh (L3.mL lp o))
def vG(P:Addr)(lp:Pos)(H:Hp):Prop:=(∀b,b≠P->H b=none\/∃o xs,H b=some (.frz o (.lst xs)))/\H P=some (n9 P lp none)
theorem zb4{Pr:Bv}{w:Cp}{K:Ac}{mg mb:Str->Option Ae}{k:Nat}{fa a c P:Addr}{lp:Pos}{fd:Bi}{x:Str}{sp:Sp}{s1:Ag}{vs:List Ae}{ns:List Int}(KX:K.In s1.heap)(hns:s1.heap.Ns Dj mg)(hb:s1.heap.Ns Lv mb)(hbb:∀x:Str,x≠"__name__"->mb x=Co x)(hlim:s1.heap.NoLimit)(hg:s1.gens = #[])(hP:s1.heap.get? P=some (Fh #[]))(hC:Kq K c P=true)(hPK:K.lookup P=none)(ha:s1.heap.get? a=some {cls:=.type "list",data:=.seq vs.toArray})(hi:IntsAre vs ns)(hl:ns.length<=Am)(hr:cP k callerA)(F:∀base:Heap,K.In base->base.Ns Dj mg->eN Pr w K mg base eQ k fa fd [x] sp)(hbind:∀(s:Ag) (u:Ae),BindsTo s fd ⟨[u],[]⟩ [(x,u)])(hsp:∀H:Hp,vG P lp H->bN K H a (ns.map V.int)->sp [.ref a] H (λv H'=>v=.bl true/\∃o,H' P=some (n9 P lp o)) λ_ _ _=>False):
  Jl (Bn Pr w) callerA (.call (.ref fa) ⟨[.ref a],[]⟩) (λr s'=>r=.ok (.ret (.bool true))/\OldK s1.heap s'.heap/\s'.os=s1.os/\Lz s'.gens) s1:=by
 have rv:=EX hi;have lenV:=hi.length;have aP:a≠P:=λe=>by rw[e,hP]at ha;cases ha
 have tabOk:∀H:Hp,cX Pr w H s1.heap P (n9 P lp none):=λH=>⟨hP,⟨_,hP⟩,λh1 h2 e k=>k _ e⟩
 have core:∀H:Hp,vG P lp H->bN K H a (ns.map V.int)->dA Pr w H s1.heap->(∀b,H b≠none->b=a\/b=P)->(H a≠none->K.lookup a=none)->
   Jl (Bn Pr w) callerA (.call (.ref fa) ⟨[.ref a],[]⟩) (λr s'=>r=.ok (.ret (.bool true))/\OldK s1.heap s'.heap/\s'.os=s1.os/\Lz s'.gens) s1:=by
  intro H hO hS hok hA hK;have base_of:∀{b:Addr} {o:Obj},s1.heap.get? b=some o->H b=none->(iZ s1.heap H).get? b=some o:=λe n=>vS e n;have noA:∀{b:Addr} {o:Obj} {es:Array Hs} {ep:Nat},s1.heap.get? b=some o->o.data=.dict es ep->H b=none:=λ{b o es ep} e d=>by
   cases q:H b with
   | none=>rfl
   | some u=>
    rcases hA b (by rw[q];simp) with e'|e'
    .subst e';rw[ha]at e;cases e;have d':Data.seq vs.toArray _=Data.dict es ep:=d;cases d'
    .subst e';rw[hP]at e;cases e;have d':Data.fields _=Data.dict es ep:=d;cases d'
  have nsK:∀{b:Addr} {m:Str->Option Ae},s1.heap.Ns b m->(iZ s1.heap H).Ns b m:=λ{b m} ⟨o,es,ep,e,d,r⟩=>⟨o,es,ep,base_of e (noA e d),d,r⟩
  have hKb:K.In (iZ s1.heap H):=λb o e=>base_of (KX b o e) (by
   cases q:H b with
   | none=>rfl
   | some u=>
    rcases hA b (by rw[q];simp) with e'|e'
    .subst e';rw[hK (by rw[q];simp)]at e;cases e
    .subst e';rw[hPK]at e;cases e)
  have hM:Mod K mg (iZ s1.heap H):=⟨hKb,nsK hns,⟨mb,nsK hb,hbb⟩,let ⟨mc,h1,h2⟩:=hlim;⟨mc,nsK h1,h2⟩⟩;have e0:mD Pr w K mg (iZ s1.heap H) callerA [] s1 H:=⟨rfl,hM,λb o e=>DJ e,Fc (DH _ _),trivial,λb hb=>absurd (show b∈([]:List Addr) from hb) (by simp),hok,.of_eq hg⟩;refine Km ((F _ hKb (nsK hns)).run callerA [] s1 H ⟨[.ref a],[]⟩ [.ref a] [.ref a] _ _ hr e0 (hbind s1 (.ref a)) (.cons rfl .nil) (hsp H hO hS)) λr s' h=>?_;cases r with
  | error e=>exact Dx h
  | ok fl=>
   cases fl with
   | next=>exact Dx h
   | brk=>exact Dx h
   | cont=>exact Dx h
   | ret u=>
    obtain⟨v,H',os,bare,un,hok',r',q',o',qP⟩:=h;subst q';obtain rfl:u=Value.bool true:=r';have kp:∀b o,b≠P->s1.heap.get? b=some o->s'.heap.get? b=some o:=λb o hb e=>by
     cases q:H b with
     | none=>exact un.keep b o e q (by intro z;exact absurd (show b∈([]:List Addr) from z) (by simp)) (by simp)
     | some u=>
      rcases hO.1 b hb with z|⟨ob,xs,z⟩
      .rw[q]at z;cases z
      .have z2:=un.frzs b ob _ z;obtain⟨e1,_⟩:=hok b _ z;obtain⟨e2,_⟩:=hok' b _ z2;rw[e]at e1;cases e1;exact e2
    have e2:s'.heap.get? P=some (Fh (L3.mL lp o')):=(hok' P _ qP).1;refine⟨rfl,⟨λb o e=>?_,λb o e=>?_⟩,os,bare⟩
    .by_cases hb:b=P
     .subst hb;rw[hP]at e;cases e;exact .inr (.inl ⟨((PySem.W.codeHd_of_K KX hC).tab hP).isCodeTable,rfl,#[],L3.mL lp o',rfl,by rw[Array.empty_append];exact e2⟩)
     .exact .inl (kp b o hb e)
    .by_cases hb:b=P
     .exact⟨_,hb▸e2⟩
     .exact⟨o,kp b o hb e⟩
 cases hk:K.lookup a with
 | some o=>
  have e:=KX a o hk;rw[ha]at e;cases e;refine core (λb=>if b=P then some (n9 P lp none) else none) ⟨λb hb=>.inl (if_neg hb),if_pos rfl⟩ (.inr ⟨_,vs.toArray,_,hk,rfl,rfl,rfl,by rw[Ax,lenV];exact hl,by simpa using rv⟩) (λb u z=>?_) (λb z=>?_) λz=>absurd (if_neg aP) z
  .by_cases hb:b=P
   .subst hb;cases (if_pos rfl).symm.trans z;exact tabOk _
   .cases (if_neg hb).symm.trans z
  .by_cases hb:b=P
   .exact .inr hb
   .exact absurd (if_neg hb) z
 | none=>
  refine core (λb=>if b=P then some (n9 P lp none) else if b=a then some (.frz {cls:=.type "list",data:=.seq vs.toArray} (.lst (ns.map V.int))) else none) ⟨λb hb=>?_,if_pos rfl⟩ (.inl (.inr ⟨{cls:=.type "list",data:=.seq vs.toArray},(if_neg aP).trans (if_pos rfl)⟩)) (λb u z=>?_) (λb z=>?_) λ_=>hk
  .by_cases hb2:b=a
   .exact .inr ⟨_,_,(if_neg hb).trans (if_pos hb2)⟩
   .exact .inl ((if_neg hb).trans (if_neg hb2))
  .by_cases hb:b=P
   .subst hb;cases (if_pos rfl).symm.trans z;exact tabOk _
   .have z:=(if_neg hb).symm.trans z
    by_cases hb:b=a
    .have z':=(if_pos hb).symm.trans z;cases z';subst hb;exact⟨ha,by rw[Aa];exact hl,vs,_,rv,ha⟩
    .have z':=(if_neg hb).symm.trans z;cases z'
  .by_cases hb:b=P
   .exact .inr hb
   .by_cases hb2:b=a
    .exact .inl hb2
    .exact absurd ((if_neg hb).trans (if_neg hb2)) z
theorem zb5{l:PySem.W.OpenLaw}{n k:Nat}{q:Bv}{loose:List Str}{XP:(Str->Option Ae)->Heap->Prop}{YP:Cp->Heap->Prop}{d:DefRec}{K:Params->Ac}{sp:Cp->Sp}{x:Str}{c P:Addr}{lp:Pos}(hn:l.most=some n)(hn2:n<=Am)(hdf:d.params.defaults=[])(hr:cP k callerA)(hY:∀(w:Cp) (h:Heap),YP w h->(K w.params).In h/\h.get? P=some (Fh #[]))(hC:∀w:Cp,Kq (K w.params) c P=true)(hPK:∀w:Cp,(K w.params).lookup P=none)(F:∀(w:Cp) (mg:Str->Option Ae) (fa:Addr) (h:Heap),(K w.params).In h->h.Ns Dj mg->mg d.name=some (.ref fa)->
   ∃fd:Bi,(∀(s:Ag) (u:Ae),BindsTo s fd ⟨[u],[]⟩ [(x,u)])/\
    ∀base:Heap,(K w.params).In base->base.Ns Dj mg->eN l.prog w (K w.params) mg base eQ k fa fd [x] (sp w))(hsp:∀(w:Cp) (H:Hp) (a:Addr) (ns:List Int),ns.length<=n->vG P lp H->bN (K w.params) H a (ns.map V.int)->sp w [.ref a] H (λv H'=>v=.bl true/\∃o,H' P=some (n9 P lp o)) λ_ _ _=>False):
  PySem.W.WalkO q loose XP YP l.row.toRowW d [] (λf vs=>PySem.call f vs):=by
 refine Att.attach_call hn hdf λw s₀ s1 mg mb fa o pm cd doc a vs ns G Y ho hd hcd hmg hobj hints hlen hg=>?_;have KX:=hY w _ Y;obtain⟨fd,hb,hF⟩:=F w mg fa _ KX.1 G.T.g hmg;exact zb4 KX.1 G.T.g G.T.b G.T.builtins G.T.nolimit hg KX.2 (hC w) (hPK w) hobj hints (Au hlen hn2) hr hF hb (λH hO hS=>hsp w H a ns hlen hO hS)
end L2
namespace L3
open PySem Spec PyProof.Rows L2
variable {K:Ac}
def rH(P:Addr)(lp:Pos)(qual:Str):bE:=λws M R=>∃ns:List Int,ws=[.sc (ns.map W.int)]/\ns.length<=63/\M P=some (.tb lp qual)/\∀M',M' P=some (.tb lp qual)->R (.bl true) M'
theorem zb6{P:Addr}{lp:Pos}{qual:Str}{H:Hp}{a:Addr}{ns:List Int}(hl:ns.length<=63)(ho:vG P lp H)(hs:bN K H a (ns.map V.int)):fJ K (rH P lp qual) [.ref a] H (λv H'=>v=.bl true/\∃o,H' P=some (n9 P lp o)) λ_ _ _=>False:=by
 have hr:mN K H a (ns.map V.int):=by
  rcases hs with(e|⟨o,e⟩)|e
  .by_cases hb:a=P
   .rw[hb,ho.2]at e;cases e
   .rcases ho.1 a hb with z|⟨o,xs,z⟩
    .rw[z]at e;cases e
    .rw[z]at e;cases e
  .exact .inl ⟨o,e⟩
  .exact .inr e
 refine⟨[.sc (ns.map W.int)],λb=>if b=P then some (.tb lp qual) else none,λw M'=>w=.bl true/\M' P=some (.tb lp qual),λb o e=>?_,.cons (.sc hr (aM.int ns)) .nil,⟨ns,rfl,hl,if_pos rfl,λM' e=>⟨rfl,e⟩⟩,λv H' w M' _ am av r=>?_⟩
 .by_cases hb:b=P
  .subst hb;cases (if_pos rfl).symm.trans e;exact⟨none,ho.2,λc h=>nomatch h⟩
  .cases (if_neg hb).symm.trans e
 .obtain⟨rfl,e⟩:=r;obtain⟨o,e1,_⟩:=am P _ e;exact⟨av.bl_inv,o,e1⟩
end L3
namespace L2
open PySem Spec PyProof.Rows
def pF(base:Heap)(cy:Addr)(v:V):Prop:=∃u,base.IsCell cy (some u)/\RelV v u
theorem KP{h base base':Heap}:∀{l:List Env},(∀b∈gD l,base'.get? b=none)->h.FunFrames base l->h.FunFrames base' l
 | [],_,_=>trivial
 | env::l,hb,⟨hk,⟨L,o,hf,hn,ho,hd⟩,hr⟩=>by
  have hL:L∈gD (env::l):=by unfold gD;rw[Ec,hf];exact Bk
  exact⟨hk,⟨L,o,hf,hb L hL,ho,hd⟩,KP (λb hb'=>hb b (by unfold gD;rw[Ec,hf];exact Ba _ hb')) hr⟩
section
variable {X:Cx}{pins:List (Addr×Obj)}{Z:St}{H:Hp}{s:Ag}
theorem Inv.envC{y:Str}{cy:Addr}{j:Nat}{v:V}(I:Inv X pins Z H s)(hy:X.env.cells.lookup y=some cy)(hj:X.N[j]? = some y)(hσ:Z[j]? = some (some v))(hk:X.env.scope.names.lookup y=some .cell)(hfn:X.fn y=true):
  ∃base,pF base cy v/\mD X.prog X.w X.K X.mg base X.A X.stack s H:=by
 obtain⟨m,_,hl⟩:=I.loc;obtain⟨u,ru,q⟩:=hl j y v hj hσ (.inr (.inl hk));obtain⟨o,ho,hd⟩:s.heap.IsCell cy (some u):=by
  rcases q with⟨e,_⟩|⟨_,c2,e,q⟩
  .rw[show X.env.kindOf y=some .cell from hk]at e;cases e
  .rw[hy]at e;cases e;exact q
 obtain⟨Hh,eH⟩:∃Hh:Hp,Hh=λb=>if (X.base.get? b).isSome=true\/b=cy then none else some (.tup []):=⟨_,rfl⟩;have inB:∀b o,X.base.get? b=some o->(iZ s.heap Hh).get? b=some o:=λb o e=>vS (I.bk b o e) (by rw[eH];exact if_pos (.inl (by rw[e];rfl)));have ofB:∀b o,(iZ s.heap Hh).get? b=some o->s.heap.get? b=some o/\((∃o',X.base.get? b=some o')\/b=cy):=λb o e=>by
  obtain⟨e1,e2⟩:=DJ e;rw[eH]at e2;refine⟨e1,?_⟩
  by_cases z:(X.base.get? b).isSome=true\/b=cy
  .exact z.imp Dh.mp id
  .cases (if_neg z).symm.trans e2
 have E:=I.env0;refine⟨iZ s.heap Hh,⟨u,⟨o,vS ho (by rw[eH];exact if_pos (.inr rfl)),hd⟩,ru⟩,E.frames,⟨E.mod.kin.keeps inB,E.mod.glob.keeps inB,let ⟨mb,h1,h2⟩:=E.mod.blt;⟨mb,h1.keeps inB,h2⟩,E.mod.nolimit.keeps inB⟩,λb o' e=>?_,Fc (DH _ _),KP (λb hb=>?_) E.funs,E.frf,E.hok,E.bare⟩
 .obtain⟨e1,e2⟩:=ofB b o' e;refine⟨e1,?_⟩;rcases e2 with⟨o2,e2⟩|rfl
  .exact(I.bs b o2 e2).2
  .exact I.freeC y _ hy
 .cases q:(iZ s.heap Hh).get? b with
  | none=>rfl
  | some o'=>
   obtain⟨_,e2⟩:=ofB b o' q;rcases e2 with⟨o2,e2⟩|rfl
   .obtain⟨hn,_⟩:=E.funs.mem hb;rw[e2]at hn;cases hn
   .rcases Ar.mp (I.stkSub b hb) with e|hb'
    .exact absurd e (I.cne y b hy)
    .obtain⟨_,o3,ho3,_⟩:=I.ok.funs.mem hb';exact absurd (Aw ho3) (Nat.not_lt.mpr (I.ok.cab y b hfn hy))
structure vH(a b c y g:Str)(sc:Hc):Prop where
 kind:sc.kind=.function
 co:sc.isCoroutine=false
 gen:sc.isGenerator=false
 nm:sc.names=[(a,.local),(b,.local),(c,.local),(y,.free),(g,.globalImplicit)]
 ba:(b==a)=false
 ca:(c==a)=false
 cb:(c==b)=false
 ya:(y==a)=false
 yb:(y==b)=false
 yc:(y==c)=false
 ac:(a==c)=false
 ab:(a==b)=false
 bc:(b==c)=false
theorem zb7{A:Cq}{k:Nat}{a b c y g:Str}{sc:Hc}{f c' cy:Addr}{qual:Str}{params:Arguments}{body:Expr}{pm ctv:Ae}{v1 v2 v3 v:V}{u1 u2 u3:Ae}{Q:VK}{t:TE}(I:Inv X pins Z H s)(hfr:A.frames=some X.stack)(hr:cP k A)(S:vH a b c y g sc)(hc:pF X.base cy v)(hf:s.heap.get? f=some (Ib "<lambda>" qual params body sc [(y,cy)] pm c' ctv))(hcd:s.heap.CodeRec (.ref c') qual)(hb:bindArgs (PySem.W.kla_fn "<lambda>" qual params body sc [(y,cy)] pm (.ref c') ctv) ⟨[u1,u2,u3],[]⟩=pure [(a,u1),(b,u2),(c,u3)])(r1:RelV v1 u1)(r2:RelV v2 u2)(r3:RelV v3 u3)(ht:PE (zP X A [a,b,c,y] qual sc f (.ref c') [(y,cy)] s H) body t)(h:t [some v1,some v2,some v3,some v] H Q):
  Jl (Bn X.prog X.w) A (.call (.ref f) ⟨[u1,u2,u3],[]⟩) (CR eQ X.stack X.prog X.w H s Q E0) s:=by
 have cy':∀z d,([(y,cy)]:List (Str×Addr)).lookup z=some d->z=y/\d=cy:=λz d e=>by
  cases Ao.mp (Ey e);exact⟨rfl,rfl⟩
 have la:sc.names.lookup a=some .local:=by rw[S.nm,Br,beq_self_eq_true]
 have lb:sc.names.lookup b=some .local:=by rw[S.nm,Br,S.ba,Br,beq_self_eq_true]
 have lc:sc.names.lookup c=some .local:=by rw[S.nm,Br,S.ca,Br,S.cb,Br,beq_self_eq_true]
 have ly:sc.names.lookup y=some .free:=by rw[S.nm,Br,S.ya,Br,S.yb,Br,S.yc,Br,beq_self_eq_true]
 have lf:∀z n,sc.names.lookup z=some n->n=.cell\/n=.free->z=y/\n=.free:=λz n e hn=>by
  rw[S.nm]at e;rcases Ar.mp (Ey e) with e|e
  .cases e;rcases hn with z|z<;>cases z
  rcases Ar.mp e with e|e
  .cases e;rcases hn with z|z<;>cases z
  rcases Ar.mp e with e|e
  .cases e;rcases hn with z|z<;>cases z
  rcases Ar.mp e with e|e
  .cases e;exact⟨rfl,rfl⟩
  .cases Ao.mp e;rcases hn with z|z<;>cases z
 obtain⟨u,⟨oc,hoc,hdc⟩,ru⟩:=hc;refine PySem.W.kla_callFunE hr.depth hf rfl S.co S.gen rfl hcd ?_;rw[hb];refine Aj (wpAny_newFunctionEnv (λz hz=>?_) (λz hz=>?_) (λh1 hns hsb=>?_) S.kind)
 .rw[S.nm]at hz;rcases Ar.mp hz with rfl|hz
  .exact λe=>nomatch e
  rcases Ar.mp hz with rfl|hz
  .exact λe=>nomatch e
  rcases Ar.mp hz with rfl|hz
  .exact λe=>nomatch e
  rcases Ar.mp hz with rfl|hz
  .exact λe=>nomatch e
  .rw[Ao.mp hz];exact λe=>nomatch e
 .rcases Ar.mp hz with rfl|hz
  .exact la
  rcases Ar.mp hz with rfl|hz
  .exact lb
  .rw[Ao.mp hz];exact lc
 .have hk:∀b o,s.heap.get? b=some o->h1.get? b=some o:=λb o e=>hsb.extBut b o (Bl (Aw e)) (Af _ e);refine⟨I.nolimit.keeps hk,?_⟩;show Jl _ _ (.expr body (PySem.W.envX qual sc s.heap.objs.size f (.ref c') [(y,cy)])) _ _;refine PySem.W.kla_codeExpr ?_;have J:Inv (zP X A [a,b,c,y] qual sc f (.ref c') [(y,cy)] s H) [] [some v1,some v2,some v3,some v] H {s with heap:=h1,toks:=s.toks+3}:=by
   refine⟨⟨I.ok.mod,S.kind,rfl,rfl,An _,λz z' d e1 e2=>(cy' z d e1).1.trans (cy' z' d e2).1.symm,λz hz=>?_,(λz d e _=>nomatch e),λ_=>hr.hd,Around.frames_deeper hfr,.inr ⟨rfl,rfl⟩,(λb z=>nomatch z),I.bs,Au I.ok.bsz I.sz,(λb _ _ z=>nomatch z),(λb z=>nomatch z),I.stack,I.stkFree⟩,
    rfl,I.bare,Un.kept hk,⟨_,hns,λi z v' h1 h2 h3=>?_⟩,λz d e=>?_,I.hok.fresh (An _),λz d e=>?_,(λp hp=>nomatch hp),I.hok.kept hk,rfl⟩
   .have hz:sc.names.lookup z=some .cell\/sc.names.lookup z=some .free:=hz;have:=hz.elim (λe=>(lf z _ e (.inl rfl)).1) λe=>(lf z _ e (.inr rfl)).1;exact⟨cy,by show([(y,cy)]:List (Str×Addr)).lookup z=_;rw[this,Br,beq_self_eq_true]⟩
   .match i,h1,h2 with
    | 0,h1,h2=>
     cases (show some a=some z from h1);cases (show some (some v1)=some (some v') from h2);exact⟨u1,r1,.inl ⟨la,by show Bx a [(c,u3),(b,u2),(a,u1)]=_;rw[Br,S.ac,Br,S.ab,Br,beq_self_eq_true]⟩⟩
    | 1,h1,h2=>
     cases (show some b=some z from h1);cases (show some (some v2)=some (some v') from h2);exact⟨u2,r2,.inl ⟨lb,by show Bx b [(c,u3),(b,u2),(a,u1)]=_;rw[Br,S.bc,Br,beq_self_eq_true]⟩⟩
    | 2,h1,h2=>
     cases (show some c=some z from h1);cases (show some (some v3)=some (some v') from h2);exact⟨u3,r3,.inl ⟨lc,by show Bx c [(c,u3),(b,u2),(a,u1)]=_;rw[Br,beq_self_eq_true]⟩⟩
    | 3,h1,h2=>
     cases (show some y=some z from h1);cases (show some (some v)=some (some v') from h2);exact⟨u,ru,.inr ⟨.inr ly,cy,by show Bx y [(y,cy)]=_;rw[Br,beq_self_eq_true],oc,hk _ _ (I.bk _ _ hoc),hdc⟩⟩
    | i+4,h1,h2=>exact nomatch h1
   .obtain⟨_,rfl⟩:=cy' z d e;exact⟨_,oc,hk _ _ (I.bk _ _ hoc),hdc⟩
   .obtain⟨_,rfl⟩:=cy' z d e;exact(I.bs _ _ hoc).2
  exact Hi (ht [] _ _ H Q J h) (λu' s' ⟨v',H',J',rv',q⟩=>⟨v',H',J'.os,J'.bare,J'.base,J'.hok,rv',q⟩) λ_ _ z=>z.elim
end
end L2
namespace L3
open PySem Spec PyProof.Rows L2
theorem zQ{M:Mm}{f:Addr}:Sub (del M f) M:=λa o e=>by
 by_cases h:a=f
 .rw[h,nK]at e;cases e
 .rwa [oG h]at e
section
variable {X:Cx}{i j k n:Nat}{P c cy f0:Addr}{lp p pos:Pos}{L:nJ}{x y:Str}{e:Expr}{es:List Expr}{t:dS}{tb:aZ}{v:V}
def KQ(P:Addr)(lp:Pos)(L:nJ)(cy:Addr):aZ:=λ_ M R=>M P=some (.tb lp L.qual)/\∀f,M f=none->R (.ref f) (put M f (.cl L cy .non .non))
theorem zb8{a b d g:Str}(hbm:BMod X.K X.mg)(hcode:X.env.code=.ref c)(hcd:Kq X.K c P=true)(hq:X.env.qual++"<lambda>" = L.qual)(hcy:X.env.cells.lookup L.y=some cy)(S:vH a b d L.y g L.sc)(hdef:defaultsOf L.params X.env=([],[]):=by rfl):E3 X (.Lambda L.params L.body L.sc lp) (KQ P lp L cy):=by
 obtain⟨qual,y,params,body,sc⟩:=L;cases hq;rintro pins s Z H Q I ⟨τ,M,R,as,am,⟨mP,h⟩,k⟩;obtain⟨o,hP,ho⟩:=am P _ mP;have hPo:=(I.hok P _ hP).1;have hcl:closureFor sc X.env=pure [(y,cy)]:=by
  rw[wC (λz hz hk=>by
   rw[S.nm]at hz;rcases Ar.mp hz with rfl|hz
   .cases hk
   rcases Ar.mp hz with rfl|hz
   .cases hk
   rcases Ar.mp hz with rfl|hz
   .cases hk
   rcases Ar.mp hz with rfl|hz
   .exact⟨cy,hcy⟩
   .rw[Ao.mp hz]at hk;cases hk),S.nm]
  show pure [(y,(X.env.cells.lookup y).getD 0)]=_;rw[show X.env.cells.lookup y=some cy from hcy];rfl
 have hgl:s.heap.Ns Dj X.mg:=I.ok.mod.glob.keeps I.bk;have none_of:∀{b o},X.base.get? b=some o->b≠P:=λ{b o} e z=>by
  have:=(I.bs b o e).2;rw[z,hP]at this;cases this
 have hgP:Dj≠P:=by
  obtain⟨o,es,ep,e,_⟩:=I.ok.mod.glob;exact none_of e
 have hba:s.heap.BuiltinsAt X.mg P:=by
  obtain⟨bm,ob,b1,b2,b3,b4,b5,b6,b7⟩:=hbm;exact⟨bm,ob,b1,b2,b3,none_of (I.ok.mod.kin bm ob b4),I.kIn bm ob b4,b5,b6,b7⟩
 have C:PySem.W.CodeHd s.heap c P:=PySem.W.codeHd_of_K I.kIn hcd;have fin:∀(h':Heap) (tk:Nat) (H2:Hp) (c':Addr) (pm ctv:Ae),Inv X pins Z H2 {s with heap:=h',toks:=tk}->AM X.K H2 M->Kp H M H2 M->H2 c'=some (.ext λh=>h.CodeRec (.ref c') (X.env.qual++"<lambda>"))->M c'=none->H2 h'.objs.size=none->
   EP X pins Z Q (.ref h'.objs.size) {s with heap:=h'.push (Ib "<lambda>" (X.env.qual++"<lambda>") params body sc [(y,cy)] pm c' ctv),toks:=tk}:=λh' tk H2 c' pm ctv I2 am2 k2 hc' mc hn=>by
  have I3:=I2.laid (a:=h'.objs.size) (o:=.ext λh=>h.get? h'.objs.size=some (Ib "<lambda>" (X.env.qual++"<lambda>") params body sc [(y,cy)] pm c' ctv)) (h':=h'.push (Ib "<lambda>" (X.env.qual++"<lambda>") params body sc [(y,cy)] pm c' ctv)) (t':=tk) (λb o e=>Af _ e) (An _) ⟨Ay _ rfl,⟨_,Ay _ rfl⟩,λh1 h2 e k=>k _ e⟩;have hne:c'≠h'.objs.size:=λe=>by rw[e,hn]at hc';cases hc'
  obtain⟨am3,k3⟩:=am2.laid (o:=.cl ⟨X.env.qual++"<lambda>",y,params,body,sc⟩ cy .non .non) (u:=.ext λh=>h.get? h'.objs.size=some (Ib "<lambda>" (X.env.qual++"<lambda>") params body sc [(y,cy)] pm c' ctv)) hn ⟨c',pm,ctv,c9,⟨by rw[bH hne];exact hc',by rw[aW hne];exact mc⟩,.non⟩;exact⟨.ref _,_,I3,rfl,k _ _ _ _ (k2.trans k3) am3 (.ref _) (h _ (am2.nonM hn))⟩
 cases o with
 | none=>
  refine PySem.W.kla_eval hdef (PySem.W.kla_makeFunction hcl I.ok.glob hgl hcode C hPo trivial rfl hgP hba λc' ctv h' tk hx hge hlt hrec htb=>?_);obtain⟨H2,I2,am2,k2,hc',mc,hfr⟩:=zb3 (tk:=tk) I am hP mP hx hge hrec htb;exact fin h' tk H2 c' _ ctv I2 am2 k2 hc' mc (hfr _ (Au hge (Gi hlt)) (Dt hlt))
 | some c'=>
  obtain⟨hc',mc⟩:=ho c' rfl;refine PySem.W.kla_eval hdef (PySem.W.kla_makeFunctionHit (cv:=.ref c') hcl I.ok.glob hgl hcode C hPo trivial (codeAmong_snoc [] trivial rfl) hba λctv h' tk hk hsz=>?_);exact fin h' tk H c' _ ctv (I.kept (t':=tk) hk) am (Kp.refl am) hc' mc (I.hok.fresh hsz)
def KR(cy:Addr)(j:Nat)(sp:Addr->V->bE)(t:dS):aZ:=λτ M R=>t τ M λws M1=>∃(f:Addr) (L:nJ) (v0:V) (b0 b:W),τ[j]? = some (some b)/\M1 f=some (.cl L cy v0 b0)/\∀v,sp cy v ws (put M1 f (.cl L cy v b)) λw M2=>R w (del M2 f)
theorem zb9{sp:Addr->V->bE}{fd:Bi}{ps:List Str}(F:∀base v,pF base cy v->eN X.prog X.w X.K X.mg base eQ k f0 fd ps (fJ X.K (sp cy v)))(hr:cP n X.A)(hm:X.mg x=some (.ref f0))(hk:Ee X.K (.ref f0)=true)(hb:Binds X.K fd ps [])(ha:A3 X (e::es) t)(hcy:X.env.cells.lookup y=some cy)(hyk:X.env.scope.names.lookup y=some .cell)(hfn:X.fn y=true)(hn:k<=n:=by decide)(hj:X.N[j]? = some y:=by rfl)(hg:Gl X x:=by rfl)(hdb:(x==("__debug__" : Str))=false:=by decide)(he:Be (e::es) X.env=(false,eval e X.env)::Be es X.env:=by rfl)(hpl:(Gf pos (Be es X.env)).any (·.1)=false:=by rfl):
  E3 X (.Call (.Name x p) (e::es) [] pos) (KR cy j sp t):=by
 rintro pins s Z H Q I ⟨τ,M,R,as,am,h,kk⟩;refine Dl (pM I hg hm ?_ hdb);refine Ig (h₀:=X.base) I.ok.mod.kin hk (bA (ha pos pins s Z H (λvs H1=>∃ws M1,Kp H M H1 M1/\AM X.K H1 M1/\aM X.K H1 M1 vs ws/\∃(f:Addr) (L:nJ) (v0:V) (b0 b:W),τ[j]? = some (some b)/\M1 f=some (.cl L cy v0 b0)/\∀v,sp cy v ws (put M1 f (.cl L cy v b)) λw M2=>R w (del M2 f)) I ⟨τ,M,_,as,am,h,λvs H1 ws M1 k1 am1 ax r=>⟨ws,M1,k1,am1,ax,r⟩⟩) λus s1 ⟨vs,H1,I1,r,ws,M1,k1,am1,ax,f,L,v0,b0,b,ej,mf,hsp⟩=>⟨I1.kIn,?_⟩) he hpl;obtain⟨v,eσ,av⟩:=(as.kp am k1).get ej;obtain⟨base,hc,E1⟩:=I1.envC hcy hj eσ hyk hfn;have ne:∀{b:Addr},M1 b=none->b≠f:=λ{b} e z=>by rw[z,mf]at e;cases e
 have g:Go H1 M1 H1 (put M1 f (.cl L cy v b)):=⟨λ_ _ e=>e,λ_ _ _ e=>e,λb o n e=>⟨e,by rw[aW (ne n)];exact n⟩⟩;have kr:Kp H1 M1 H1 (put M1 f (.cl L cy v b)):=⟨g.hl,λa o e=>(am1 a o e).has⟩;have am2:AM X.K H1 (put M1 f (.cl L cy v b)):=λa o e=>by
  by_cases ha:a=f
  .subst ha;rw[aY]at e;cases e;obtain⟨c,pm,ct,e1,z,q⟩:=am1 _ _ mf;exact⟨c,pm,ct,e1,⟨z.1,by rw[aW (ne z.2)];exact z.2⟩,av.go g⟩
  .rw[aW ha]at e;exact(am1 a o e).go g rfl
 have sp2:fJ X.K (sp cy v) vs H1 Q E0:=⟨ws,_,_,am2,ax.go g,hsp v,λv' H' w M2 k2 am3 av3 r3=>kk v' H' w (del M2 f) (((k1.trans kr).trans k2).sub zQ) (am3.sub zQ) (av3.sub zQ) r3⟩;have F1:=F base v hc;have hl:us.length=ps.length:=by rw[<-r.length];exact F1.len _ _ _ _ sp2
 have hb2:=hb s1 us I1.kIn (by rw[Cm];exact hl);rw[Cm]at hb2;refine wpAny_call (Km (F1.run X.A X.stack s1 H1 ⟨us,[]⟩ us vs Q E0 (hr.mono hn) E1 hb2 r sp2) λr s' hq=>?_);cases r with
 | error e=>exact mK pins Z H1 s1 e s' I1 hq
 | ok fl=>
  cases fl with
  | ret u=>exact I1.after hq
  | next=>exact Dx hq
  | brk=>exact Dx hq
  | cont=>exact Dx hq
def KS(i:Nat)(L:nJ)(cy:Addr)(v:V)(t:dS)(tb:aZ):aZ:=λτ M R=>∃(f:Addr) (b0:W),τ[i]? = some (some (.ref f))/\M f=some (.cl L cy v b0)/\t τ M λws M1=>∃b w1 w2 w3:W,ws=[w1,w2,w3]/\M1 f=some (.cl L cy v b)/\tb [some w1,some w2,some w3,some b] M1 R
theorem zca{a b' d g:Str}(hc:pF X.base cy v)(S:vH a b' d L.y g L.sc)(hr:cP k X.A)(hbd:∀(A:Cq) (f:Addr) (cd:Ae) (cl:List (Str×Addr)) (s:Ag) (H:Hp),cP k A->E3 (zP X A [a,b',d,L.y] L.qual L.sc f cd cl s H) L.body tb)(ha:A3 X (e::es) t)(hbind:∀(pm:Ae) (c':Addr) (ctv u1 u2 u3:Ae),bindArgs (PySem.W.kla_fn "<lambda>" L.qual L.params L.body L.sc [(L.y,cy)] pm (.ref c') ctv) ⟨[u1,u2,u3],[]⟩=pure [(a,u1),(b',u2),(d,u3)]:=by intros;rfl)(hN:X.N[i]? = some x:=by rfl)(hv:pL X.env.scope x:=by first|exact Or.inl rfl|exact Or.inr (Or.inl rfl)|exact Or.inr (Or.inr rfl))(hd:(x==("__debug__" : Str))=false:=by decide)(hcd:(x==("__classdict__" : Str))=false:=by decide)(he:Be (e::es) X.env=(false,eval e X.env)::Be es X.env:=by rfl)(hpl:(Gf pos (Be es X.env)).any (·.1)=false:=by rfl):
  E3 X (.Call (.Name x p) (e::es) [] pos) (KS i L cy v t tb):=by
 rintro pins s Z H Q I ⟨τ,M,R,as,am,⟨f,b0,ef,mf,h⟩,kk⟩;obtain⟨vf,e1,avf⟩:=as.get ef;refine Dl (bA (vT (pos:=p) hN hv hd hcd pins s Z H (λw H'=>w=.ref f/\H'=H) I ⟨vf,e1,avf.inv,rfl⟩) λu s1 ⟨w,H1,I1,r1,ew,eH⟩=>?_);subst ew eH;cases r1;have fnAt:∀{s:Ag} {H:Hp} {M:Mm} {b:W},Inv X pins Z H s->AM X.K H M->M f=some (.cl L cy v b)->PySem.W.FnAt f s.heap:=λ{s H M b} I am m=>by
  obtain⟨c,pm,ct,e1,_⟩:=am f _ m;exact⟨_,_,_,_,(I.hok f _ e1).1⟩
 refine PySem.W.callWith_F (first:=[]) (fnAt I1 am mf) (bA (ha pos pins s1 Z H1 (λvs H2=>∃ws M1,Kp H1 M H2 M1/\AM X.K H2 M1/\aM X.K H2 M1 vs ws/\∃b w1 w2 w3:W,ws=[w1,w2,w3]/\M1 f=some (.cl L cy v b)/\tb [some w1,some w2,some w3,some b] M1 R) I1 ⟨τ,M,_,as,am,h,λvs H2 ws M1 k1 am1 ax r=>⟨ws,M1,k1,am1,ax,r⟩⟩) λus s2 ⟨vs,H2,I2,r,ws,M1,k1,am1,ax,b,w1,w2,w3,ew,mf1,h1⟩=>⟨fnAt I2 am1 mf1,?_⟩) he hpl;subst ew;obtain⟨c,pm,ct,o1,z,av⟩:=am1 f _ mf1;cases ax with
 | @cons v1 _ _ _ a1 ax=>
 cases ax with
 | @cons v2 _ _ _ a2 ax=>
 cases ax with
 | @cons v3 _ _ _ a3 ax=>
 cases ax;cases r with
 | @cons _ u1 _ _ r1 r=>
 cases r with
 | @cons _ u2 _ _ r2 r=>
 cases r with
 | @cons _ u3 _ _ r3 r=>
 cases r;refine wpAny_call (Km (zb7 (A:=X.A) (Q:=Q) I2 I2.ok.frames hr S hc (I2.hok f _ o1).1 (I2.hok c _ z.1).1 (hbind pm c ct u1 u2 u3) r1 r2 r3 (hbd _ _ _ _ _ _ hr) ⟨[some w1,some w2,some w3,some b],M1,R,.cons (λ_ e=>⟨v1,rfl,by cases e;exact a1⟩) (.cons (λ_ e=>⟨v2,rfl,by cases e;exact a2⟩) (.cons (λ_ e=>⟨v3,rfl,by cases e;exact a3⟩) (.cons (λ_ e=>⟨v,rfl,by cases e;exact av⟩) .nil))),am1,h1,λv' H' w' M' k' am' av' r'=>kk v' H' w' M' (k1.trans k') am' av' r'⟩) λr s' hq=>?_);cases r with
 | error e=>exact mK pins Z H2 s2 e s' I2 hq
 | ok fl=>
  cases fl with
  | ret u=>exact I2.after hq
  | next=>exact Dx hq
  | brk=>exact Dx hq
  | cont=>exact Dx hq
end
def KU:W->List W->Mm->K3->Prop
 | .rl ws,[.str t],M,R=>∃ts:List Str,ws=ts.map W.str/\t∈ts/\ts.length<=1000/\R (.int (ts.idxOf t:Nat)) M
 | _,_,_,_=>False
def KW(t:Str):Ae->Bool
 | .str z _=>z==t
 | _=>false
section
variable {X:Cx}
theorem zcb:jI X "list.index" (kR X.K KU):=by
 rintro pins s Z H x xs v us Q I rx rs ⟨wx,ws,M,R,am,ax,axs,h,k⟩
 match wx,ws,h with
 | .rl ws,[.str t],h=>
  obtain⟨ts,rfl,ht,hl,r⟩:=h;obtain⟨z,rfl,az⟩:=axs.one;obtain rfl:=az.inv;obtain⟨u,rfl,ru⟩:=rs.one;obtain⟨tok,rfl⟩:=ru;cases ax with
  | @rl l vs _ e n q=>
   cases rx;obtain⟨hz,its,n,rel,pI⟩:=I.hok l _ e;have hit:∀{i:Nat} {y:Str},ts[i]? = some y->∃tk,its[i]? = some (.str y tk):=λ{i y} hy=>by
    obtain⟨v,h1,h2⟩:=q.getW (i:=i) (w:=.str y) (by rw[Ap,hy];rfl);obtain rfl:=h2.inv;obtain⟨u,h3,tk,rfl⟩:=rel.get h1;exact⟨tk,h3⟩
   have hlen:its.length=ts.length:=by rw[<-rel.length,q.length,Aa]
   have at_:∀(m:Nat) (hm:m<its.toArray.size),∃hm':m<ts.length,KW t its.toArray[m]=(ts[m]==t):=λm hm=>by
    have hm':m<ts.length:=by rw[Ax]at hm;lia
    obtain⟨tk,h⟩:=hit (Ak hm');refine⟨hm',?_⟩;have:its.toArray[m]=.str ts[m] tk:=by
     rw[List.getElem_toArray];exact(Ai.mp h).2
    rw[this];rfl
   have hj:=List.idxOf_lt_length_iff.mpr ht;refine Jz F.slot_list_index ⟨_,pI,rfl⟩ F.entry_list_index (F.args_list_index_2 _ _) (MeetsSeq.list_index l its.toArray n (.str t tok) (KW t) (λy hy=>?_) (ts.idxOf t) (by rw[Ax];lia) (by lia) ?_ λm hm hlt=>?_) ⟨pI,?_⟩
   .obtain⟨m,hm,rfl⟩:=Array.mem_iff_getElem.mp hy;have hm':m<ts.length:=by rw[Ax]at hm;lia
    obtain⟨tk,h⟩:=hit (Ak hm');have:its.toArray[m]=.str ts[m] tk:=by
     rw[List.getElem_toArray];exact(Ai.mp h).2
    rw[this];show MeetsSeq.EqGives _ _ (ts[m]==t);rw[<-SeqAt.str_beq];exact SeqRoads2.EqGives.str ts[m] t tk tok
   .obtain⟨h1,h2⟩:=at_ (ts.idxOf t) (by rw[Ax];lia);rw[h2,List.getElem_idxOf];exact beq_self_eq_true t
   .obtain⟨h1,h2⟩:=at_ m hm;rw[h2];exact List.not_of_lt_findIdx hlt
   .exact⟨.int _,H,I.kept (h':=s.heap) (t':=s.toks+1) λ_ _ e=>e,⟨_,rfl⟩,k.at am (.int _) r⟩
end
end L3
namespace PySem
namespace Rw
open PyProof.Rows L2 PySem.Spec
section
variable {prog:Bv}{w:Cp}{A:Cq}{E:Ae->Ag->Prop}{s:Ag}
theorem zcc:typeLookup (.type "list_reverseiterator") "__len__" = pure none:=by rw[typeLookup_type,Me];kernel_rfl
theorem zcd:typeLookup (.type "list_reverseiterator") "__length_hint__" = pure (some (.builtin "list_reverseiterator.__length_hint__")):=by rw[typeLookup_type,Me];kernel_rfl
theorem zce{r l:Addr}{i:Int}{Q:Bool->Ag->Prop}(hr:s.heap.IsRevIter r l i)(h:Q false s):Bc (Bn prog w) A (Builtin.List.listLengthHint (.ref r)) Q E s:=by
 unfold Builtin.List.listLengthHint;refine Ab (wpAny_specialOf hr.typeIs zcc ?_)
 try dsimp only
 rw[if_neg (by decide)];rw[if_neg (by decide)];refine Ab (wpAny_specialOf hr.typeIs zcd ?_);generalize hid:("list_reverseiterator.__length_hint__" : String)=id0
 try dsimp only
 rw[show splitId id0=some ("list_reverseiterator","__length_hint__") from by subst hid;decide +kernel];subst hid;refine Ab (Jx (T:="list_reverseiterator") (b:=true) hr.typeIs (by rw[isSubtype_type];kernel_rfl) ?_)
 try dsimp only
 rw[if_neg (by decide)];rw[if_pos (by decide +kernel)];rw[if_neg (by decide)];exact Aj h
theorem zcf{R:Result->Ag->Prop}{S r t:Addr}{items:Array Ae}{c0:Nat}(hh:A.handled=none)(hr:s.heap.IsRevIter r t ((items.size:Int)-1))(ht:s.heap.IsList t items)(hz:items.size<=Am)(hSr:S≠r)(hSt:S≠t)(htr:t≠r)(hS:s.heap.get? S=some {cls:=.type "list",data:=.seq #[] c0})(hR:∀h' tk acc' c',(∀b o,b≠S->b≠r->s.heap.get? b=some o->h'.get? b=some o)->h'.get? S=some {cls:=.type "list",dict:=none,data:=.seq acc' c',slots:=#[]}->ItemsOf (λi v=>items[items.size-1-i]? = some v) acc' items.size->R (.ok (.ret .none)) {s with heap:=h',toks:=tk}):
  Bc (Bn prog w) A.in1 (Jg (.ref S) (.ref r) .none)
   (λfin s'=>match fin with|.done f=>R (.ok f) s'|.again c'=>c'.quiet=true/\Jl (Bn prog w) A c' R s') (λe s'=>R (.error e) s') s:=by
 have W:=Walks.listRev (prog:=prog) (w:=w) (A:=A.in1) hh r t htr items;have hSf:S∉[r,t]:=by simp[hSr,hSt]
 unfold Jg;refine Ab (wpAny_typeOf (T:="list_reverseiterator") hr.typeIs ?_);rw[if_neg (by simp[Builtin.List.listSameRef,hSr])];refine Ab (wpAny_pyIter_revIter hr (Ab (Ds (zce hr ?_))));refine wpAny_ite_split (λhab=>absurd hab (by decide)) (λ_=>Aj ⟨plainId_quiet PySem.F.plain_extend_loop _,?_⟩);refine codeAny_extend_loopS W.toS hz S hSf .none items.size 0 _ #[] c0 rfl (Bz _) ⟨Bz _,by simpa using hr,ht⟩ hS (ItemsOf.nil _) λs' acc' c' hm hS' hacc=>?_;rw[Moved.eq_with hm];exact hR s'.heap s'.toks acc' c' (λb o hb hbr e=>hm.heap b o (by simp[hb,hbr]) e) hS' hacc
theorem list_rev{Q:Ae->Ag->Prop}{r t:Addr}{items:Array Ae}(hh:A.handled=none)(hr:s.heap.IsRevIter r t ((items.size:Int)-1))(ht:s.heap.IsList t items)(hz:items.size<=Am)(htr:t≠r)(hQ:∀h' tk acc' c',(∀b o,b≠r->s.heap.get? b=some o->h'.get? b=some o)->h'.get? s.heap.objs.size=some {cls:=.type "list",dict:=none,data:=.seq acc' c',slots:=#[]}->ItemsOf (λi v=>items[items.size-1-i]? = some v) acc' items.size->
   Q (.ref s.heap.objs.size) {s with heap:=h',toks:=tk}):Bc (Bn prog w) A (call (.type "list") [.ref r]) Q E s:=by
 have lr:r<s.heap.objs.size:=by obtain⟨o,e,_⟩:=id hr;exact Aw e
 have lt:t<s.heap.objs.size:=by obtain⟨o,e,_⟩:=id ht;exact Aw e
 refine callType_codes (Q₁:=λobj s1=>obj=.ref s.heap.objs.size/\s1 = {s with heap:=s.heap.push {cls:=.type "list",data:=.seq #[]}}) PySem.F.called_list (PySem.F.typeCall_list_1 _) PySem.F.entry_list_init (code_list_new _ ⟨rfl,rfl⟩) ?_;rintro obj s1 ⟨rfl,rfl⟩;have g0:(s.heap.push {cls:=.type "list",data:=.seq #[]}).get? s.heap.objs.size=some {cls:=.type "list",data:=.seq #[]}:=Ay _ rfl;have g1:=Fz (Kh λ_=>(#[]:Array Ae)) g0 rfl;have ot:∀b o,b≠s.heap.objs.size->s.heap.get? b=some o->((s.heap.push {cls:=.type "list",data:=.seq #[]}).update s.heap.objs.size (Kh λ_=>(#[]:Array Ae))).get? b=some o:=λb o hb e=>by
  rw[Gu _ _ (Bt hb)];exact Af _ e
 refine⟨⟨_,g0,rfl⟩,PySem.F.args_list_init_2 _ _,?_⟩;show Bc _ _ (Builtin.List.listItems (.ref s.heap.objs.size)>>=λold=>Builtin.List.listUpdate (.ref s.heap.objs.size) (λ_=>#[])>>=λ_=>letGo old.toList.reverse>>=λ_=>Jg (.ref s.heap.objs.size) (.ref r) .none) _ _ _;refine Ab (wpAny_listItems g0 rfl (Ab ?_));show Bc _ _ (updateSeq s.heap.objs.size (λ_=>#[])) _ _ _;exact wpAny_updateSeq g0 rfl (Ab (Mi (zcf (A:=A.in1) hh (hr.at (h':=_) λo e=>ot r o (Bl lr) e) (ht.at λo e=>ot t o (Bl lt) e) hz (Dt lr) (Dt lt) htr g1 λh' tk acc' c' hk hS' hacc=>⟨rfl,hQ h' tk acc' c' (λb o hb e=>hk b o (Bl (Aw e)) hb (ot b o (Bl (Aw e)) e)) hS' hacc⟩)))
end
end Rw
end PySem
namespace L2
open PySem Spec PyProof.Rows
section
variable {X:Cx}{a:Expr}{ta:TA}{p p2 pos pos2:Pos}
def zcg(K:Ac)(ta:TA):TE:=λZ H Q=>ta Z H λvs H1=>∃t xs,vs=[.ref t]/\bN K H1 t xs/\∀q,H1 q=none->Q (.ref q) (aX H1 q (.lst xs.reverse))
theorem zch(hc:X.calm=true)(hg:Gl X "list")(hm:X.mg "list" = none)(hg2:Gl X "reversed")(hm2:X.mg "reversed" = none)(ha:PA X [a] ta)(hs1:Be [.Call (.Name "reversed" p2) [a] [] pos2] X.env=[(false,eval (.Call (.Name "reversed" p2) [a] [] pos2) X.env)]:=by rfl)(hs2:Be [a] X.env=[(false,eval a X.env)]:=by rfl):
  PE X (.Call (.Name "list" p) [.Call (.Name "reversed" p2) [a] [] pos2] [] pos) (zcg X.K ta):=by
 intro pins s Z H Q I h;refine Dl (kJ I hg hm TY (Cw ?_ hs1 rfl));rw[hs1];refine Calls.spliced_cons (Dl (kJ I hg2 hm2 TX (Cw (bA (ha pos2 pins s Z H _ I h) λus s1 ⟨vs,H1,I1,r1,q1⟩=>?_) hs2 rfl)));obtain⟨t,xs,rfl,hq,q⟩:=q1;obtain⟨u,rfl,ru⟩:=vals1 r1;cases ru;obtain⟨its,rv,pl,hz⟩:=I1.list hq;have hsz:its.toArray.size<=Am:=by rw[Ax];have:=rv.length;lia
 have lt:t<s1.heap.objs.size:=by obtain⟨o,e,_⟩:=pl.isList;exact Aw e
 refine call_reversed_list pl.isList (Calls.spliced_nil ?_);have st:(s1.heap.push (revObj t ((its.toArray.size:Int)-1))).IsRevIter s1.heap.objs.size t ((its.toArray.size:Int)-1):=⟨_,Ay _ rfl,rfl,rfl⟩;refine Rw.list_rev (s:={s1 with heap:=s1.heap.push (revObj t ((its.toArray.size:Int)-1))}) (t:=t) (items:=its.toArray) (I1.ok.hd hc) st (pl.isList.at λo e=>Af _ e) hsz (Bl lt) λh' tk acc' c' hk hS hacc=>?_;have hp:({s1 with heap:=s1.heap.push (revObj t ((its.toArray.size:Int)-1))}:Ag).heap.objs.size=s1.heap.objs.size+1:=Dq ..;rw[hp]at hS⊢;have hle:s1.heap.objs.size<=s1.heap.objs.size+1:=Ly _;have va:=TV rv hacc;exact⟨.ref (s1.heap.objs.size+1),_,I1.laid (o:=.lst xs.reverse) (t':=tk) (λb o e=>hk b o (Bl (Aw e)) (Af _ e)) hle ⟨by rw[List.length_reverse];exact hz,acc'.toList,c',va,by rw[Jr];exact hS⟩,rfl,q _ (I1.hok.fresh hle)⟩
end
end L2
namespace L3
open PySem Spec PyProof.Rows L2
section
variable {X:Cx}{a:Expr}{ta:aZ}
def KY(ta:aZ):aZ:=λτ M R=>ta τ M λw M1=>∃l ws,w=.ref l/\M1 l=some (.lst ws)/\a9 ws.reverse M1 R
theorem zci{p p2 pos pos2:Pos}(hg:Gl X "list")(hm:X.mg "list" = none)(hg2:Gl X "reversed")(hm2:X.mg "reversed" = none)(ha:E3 X a ta)(hc:X.calm=true:=by rfl)(hs1:Be [.Call (.Name "reversed" p2) [a] [] pos2] X.env=[(false,eval (.Call (.Name "reversed" p2) [a] [] pos2) X.env)]:=by rfl)(hs2:Be [a] X.env=[(false,eval a X.env)]:=by rfl):
  E3 X (.Call (.Name "list" p) [.Call (.Name "reversed" p2) [a] [] pos2] [] pos) (KY ta):=
 (zch hc hg hm hg2 hm2 (aC ha aF (by rw[hs2];rfl)) hs1 hs2).weak λZ H Q z0=>z0.el λτ M R as am h k=>⟨τ,M,λws M1=>match ws with | [w]=>∃l ws,w=.ref l/\M1 l=some (.lst ws)/\a9 ws.reverse M1 R|_=>False,as,am,h,λvs H1 ws M1 k1 am1 ax r=>by
  match ws,r with
  | [w],⟨l,ws,e,m,r⟩=>
   obtain⟨v,rfl,av⟩:=ax.one;subst e;obtain rfl:=av.inv;obtain⟨xs,e,q⟩:=am1.lst m;exact⟨l,xs,rfl,bN.of e,λp hp=>iQ am1 (k.kp k1) hp q.reverse r⟩⟩
end
end L3
namespace Rg
open PySem Spec PyProof.Rows L2 L3
theorem KZ{G:Sr}{B:bM}(o:pA G B):(B.map (·.1)).Nodup:=by
 rw[Kf,List.pairwise_map];refine Kk.mpr λi j hi hj hij e=>?_;obtain⟨r,E⟩:=o (B.take j) B[j] (B.drop (j+1)) (by rw[<-Hz hj,Hd]);have hm:B[j].1∈(B.take j).map (·.1):=by
  rw[<-e];exact List.mem_map_of_mem (List.mem_iff_getElem.mpr ⟨i,by rw[Bp];lia,by rw[List.getElem_take]⟩)
 rw[<-iL,E.no]at hm;cases hm
theorem zcj{l:List bD}(nd:l.Nodup){a b:List bD}{f:bD}(e:l=a++f::b){j:Nat}(h:l[j]? = some f):l.take j=a:=by
 have:j=a.length:=(List.getElem?_inj (Ai.mp h).1 nd).mp (h.trans (by rw[e,Hq (An _),Nat.sub_self];rfl));rw[this,e,List.take_left]
theorem K0{U J:Type}[DecidableEq U]{t:List (U×J)}{k:U}{v:J}(h:aH t k=some v):(k,v)∈t:=by
 obtain⟨a,b,e⟩:=j9 h;rw[e];simp
theorem zR{lo:Int}{n i:Nat}{w:W}(h:(jN lo n)[i]? = some w):i<n/\w=.int (lo+i):=by
 unfold jN at h;rw[Ap]at h;obtain⟨j,hj,rfl⟩:=Bh.mp h;obtain⟨h1,h2⟩:=Ai.mp hj;simp at h1 h2;subst h2;exact⟨h1,rfl⟩
theorem vI{xs:List Str}(h:∀x∈xs,gK x):Pl 1 (.rl (xs.map W.str)):=λw hw=>by
 obtain⟨x,hx,rfl⟩:=Bg.mp hw;exact h x hx
theorem zck{acc:List Str}{t:Str}(h:acc.Nodup):(fN acc t).Nodup:=by
 unfold fN;split
 .exact h
 .rename_i hn;rw[Fb];refine⟨h,by simp,λa ha b hb e=>hn ?_⟩;have:b=t:=by simpa using hb
  rw[<-this,<-e];exact ha
def K1:bE:=λws M R=>∃(rs:List a7) (U:List Str),ws=[cM rs]/\rs.length<=100/\U.length<64/\JL rs U/\∀ss:List Str,JL rs ss->ss.Nodup->(∀t∈ss,t∈U)->R (.rl (ss.map W.str)) M
abbrev zcl:List Str:=["grammar","own","found","rule","part"]
def zcm:aG:=
   (bK 1 (bS qV (aB (dN (bS qT (aB (aA 0) aE))) aE)))
def zcn:aG:=
   (bK 2 xK)
def zco:aG:=
   (fD (dX eS (aD aV (aA 3) (vC (.int 1)))) (bY 4)
    (cQ (bV (aD (rIn true) (aA 4) (aA 1)))
    (i6 (vC (.bl true)) (kZ (aA 2) (aA 4)))
    c7))
def zcp:aG:=
   (fD (dX eS (aA 0)) (bY 3) zco)
def zcq:aG:=
   (bP (bX G6 (aB (dN (aA 2)) aE)))
def zcr:aG:=(aR zcm (aR zcn (aR zcp zcq)))
theorem Paired.getP{O J:Type}{F:O->J->Prop}:∀{l1:List O} {l2:List J} {i:Nat} {a:O},Gj F l1 l2->l1[i]? = some a->∃b,l2[i]? = some b/\F a b
 | _,_,_,_,.nil,e=>by simp at e
 | _,_,0,_,.cons r _,e=>by simp at e;subst e;exact⟨_,rfl,r⟩
 | _,_,i+1,_,.cons _ t,e=>by
  obtain⟨b,h1,h2⟩:=Paired.getP (i:=i) t (by simpa using e);exact⟨b,by simpa using h1,h2⟩
theorem K2{O:Type}{xss:List (List O)}{i:Nat}{xs:List O}(h:xss[i]? = some xs):(xss.take (i+1)).flatten=(xss.take i).flatten++xs:=by
 rw[lB h,Gp];simp
theorem zcs{O:Type}{xss:List (List O)}{i:Nat}{xs:List O}(h:xss[i]? = some xs):(xss.take i).flatten.length+xs.length<=xss.flatten.length:=by
 have e:xss=xss.take (i+1)++xss.drop (i+1):=(Hd _ _).symm;have:=congrArg (λz=>(List.flatten z).length) e;simp only[Gp,Ah]at this;rw[K2 h,Ah]at this;lia
theorem zct{ws:List W}{M:Mm}{R:K3}(h:K1 ws M R):zcr (bR R) (bU zcl ws) M:=by
 obtain⟨rs,U,rfl,hl,hU,aU,r⟩:=h;refine⟨_,rfl,rs,rfl,Au hl (by decide),a9.frz ?_⟩;refine⟨namesOf rs,rfl,by have:=JM rs;lia,?_⟩;obtain⟨ow,how⟩:∃ow,ow=(((namesOf rs).foldl fN []).map fR):=⟨_,rfl⟩;have lo:∀t,(bJ ow (Sum.inr t:aK)).isSome=cN rs t:=λt=>by rw[how];exact u5 rs t
 rw[<-how];refine λp hp=>⟨_,rfl,iK ?_⟩
 refine qQ (λi τ M'=>∃(ss:List Str) (o3 o4:Option W),τ=[some (.rl (rs.map d9)),some (.dk ow),some (.ref p),o3,o4]/\M'=put M p (.dK (ss.map fR))/\ss.Nodup/\(∀t∈ss,t∈U)/\∀q∈rs.take i,∀t∈q.parts,cN rs t=false->t∈ss) ⟨[],_,_,rfl,rfl,Ez,by simp,by simp⟩ ?_ ?_
 .rintro i w τ M' hw ⟨ss,o3,o4,rfl,rfl,nd,hsU,hin⟩;rw[Ap]at hw;obtain⟨q,hq,rfl⟩:=Bh.mp hw;refine⟨_,rfl,_,rfl,?_⟩;refine qQ (ws:=q.parts.map W.str) (λj τ M'=>∃(s2:List Str) (o4:Option W),τ=[some (.rl (rs.map d9)),some (.dk ow),some (.ref p),some (d9 q),o4]/\M'=put M p (.dK (s2.map fR))/\s2.Nodup/\(∀t∈s2,t∈U)/\(∀t∈ss,t∈s2)/\∀t∈q.parts.take j,cN rs t=false->t∈s2) ⟨ss,_,rfl,rfl,nd,hsU,λ_ h=>h,by simp⟩ ?_ ?_
  .rintro j w τ M' hw ⟨s2,o4,rfl,rfl,nd2,hsU2,hs2,hin2⟩;rw[Ap]at hw;obtain⟨t,ht,rfl⟩:=Bh.mp hw;refine⟨_,rfl,_,rfl,_,⟨Sum.inr t,rfl,rfl⟩,_,rfl,?_⟩;show if (!(bJ ow (Sum.inr t:aK)).isSome)=true then _ else _;rw[lo t];cases ho:cN rs t with
   | true=>
    refine⟨_,Sub.refl _,s2,_,rfl,rfl,nd2,hsU2,hs2,λx hx hox=>?_⟩;rw[lB ht]at hx;rcases Bj.mp hx with z|z
    .exact hin2 x z hox
    .rw[Ao.mp z,ho]at hox;cases hox
   | false=>
    have hl2:s2.length<=U.length:=len_sub nd2 hsU2;refine⟨_,rfl,_,rfl,G4 aY (by rw[Aa];exact eO (by lia)) ⟨_,Sub.refl _,fN s2 t,_,rfl,by rw[eW,yS],zck nd2,λx hx=>?_,λx hx=>qG.mpr (.inl (hs2 x hx)),λx hx hox=>?_⟩⟩
    .rcases qG.mp hx with z|z
     .exact hsU2 x z
     .rw[z];exact aU q (Bf hq) t (Bf ht) ho
    .rw[lB ht]at hx;rcases Bj.mp hx with z|z
     .exact qG.mpr (.inl (hin2 x z hox))
     .exact qG.mpr (.inr (by simpa using z))
  .rintro τ M' ⟨s2,o4,rfl,rfl,nd2,hsU2,hs2,hin2⟩;rw[Aa,Ck]at hin2;refine⟨_,Sub.refl _,s2,_,_,rfl,rfl,nd2,hsU2,λx hx t ht ho=>?_⟩;rw[lB hq]at hx;rcases Bj.mp hx with z|z
   .exact hs2 t (hin x z t ht ho)
   .rw[Ao.mp z]at ht;exact hin2 t ht ho
 .rintro τ M' ⟨ss,o3,o4,rfl,rfl,nd,hsU,hin⟩;rw[Aa,Ck]at hin;refine⟨_,rfl,UE hp ?_⟩;have hl2:ss.length<=U.length:=len_sub nd hsU;refine⟨ss,by rw[Cd];rfl,by lia,λs3 hperm=>⟨_,Sub.refl _,r s3 (λq hq t ht ho=>hperm.mem_iff.mpr (hin q hq t ht ho)) (hperm.nodup_iff.mpr nd) λt ht=>hsU t (hperm.mem_iff.mp ht)⟩⟩
section
variable {U J γ:Type}[DecidableEq U]
theorem zcu{t:List (U×J)}{k:U}{v:J}{e:U×J}(h:e∈c8 t k v):e=(k,v)\/(e∈t/\e.1≠k):=by
 unfold c8 at h;split at h
 .obtain⟨x,hx,rfl⟩:=Bg.mp h;split
  .rename_i z;exact .inl (by rw[z])
  .rename_i z;exact .inr ⟨hx,z⟩
 .rename_i z;rcases Bj.mp h with h|h
  .exact .inr ⟨h,λy=>z (by rw[mX,iL];exact Bg.mpr ⟨e,h,y⟩)⟩
  .exact .inl (Ao.mp h)
end
theorem K5{n:Nat}:(eY n).length=n+1:=by unfold eY;simp
end Rg
namespace M69
open PySem Spec PyProof.Rows L2 L3 Rg
def rJ(M:Mm)(w:W)(ws:List W):Prop:=w=.rl ws\/∃a,w=.ref a/\M a=some (.lst ws)
def K6:bE:=λws M R=>∃(ls:List W) (xss:List (List W)),ws=[.rl ls]/\ls.length<=1000/\Gj (rJ M) ls xss/\xss.flatten.length<=1000000/\a9 xss.flatten M R
def zS:bE:=λws M R=>∃(n:Int) (ls:List W) (xss:List (List W)),ws=[.int n,.rl ls]/\ls.length<=1000/\Gj (rJ M) ls xss/\xss.flatten.length<=1000000/\a9 xss.flatten M R
def zT:bE:=λws M R=>∃(n:Nat) (vs:List W),ws=[.int n,.rl vs]/\R (.tup [.int n,.tup vs]) M
abbrev zcv:List Str:=["lists","whole","one"]
def zcw:aG:=
   (bK 1 (hZ aE))
def zcx:aG:=
   (dW (dU "list" GK (aA 1) (aB (aA 2) aE)))
def zcy:aG:=
   (fD (dX eS (aA 0)) (bY 2) zcx)
def zcz:aG:=
   (bP (aA 1))
def zcA:aG:=(aR zcw (aR zcy zcz))
abbrev zcB:List Str:=["number","lists"]
def zcC:aG:=
   (bP (bS K6 (aB (aA 1) aE)))
abbrev zcD:List Str:=["number","children"]
def zcE:aG:=
   (bP (cB (aB (aA 0) (aB (bX tI (aB (aA 1) aE)) aE))))
theorem K7{ws:List W}{M:Mm}{R:K3}(h:K6 ws M R):zcA (bR R) (bU zcv ws) M:=by
 obtain⟨ls,xss,rfl,hl,hp,ht,r⟩:=h;refine⟨Bz _,λp hpn=>xI rfl (iK ?_)⟩;have hlen:=Eg hp;have big:∀{n:Nat},n<=1000000->n<=Am:=λh=>Au h (by decide);refine qQ (λi τ M'=>∃o,τ=[some (.rl ls),some (.ref p),o]/\M'=put M p (.lst (xss.take i).flatten)) (xI rfl rfl) ?_ ?_
 .rintro i w τ M' hw ⟨o,rfl,rfl⟩;obtain⟨xs,hxs,hat⟩:=Paired.getP hp hw;have hfl:=big (Au (zcs hxs) ht);have e2:(xss.take (i+1)).flatten=(xss.take i).flatten++xs:=K2 hxs;rcases hat with rfl|⟨a,rfl,e⟩
  .exact xI rfl ⟨eT aY,xI rfl ⟨_,aY,hfl,_,Sub.refl _,xI rfl (by rw[eW,e2])⟩⟩
  .exact xI rfl ⟨eT aY,xI rfl ⟨_,_,aY,by rw[aW (λz=>by rw[z,hpn]at e;cases e)];exact e,hfl,_,Sub.refl _,xI rfl (by rw[eW,e2])⟩⟩
 .rintro τ M' ⟨o,rfl,rfl⟩;rw[hlen,Ck];exact xI rfl ⟨_,Sub.refl _,r p hpn⟩
theorem K8{ws:List W}{M:Mm}{R:K3}(h:zS ws M R):zcC (bR R) (bU zcB ws) M:=by
 obtain⟨n,ls,xss,rfl,h1,h2,h3,r⟩:=h;exact xI rfl ⟨ls,xss,rfl,h1,h2,h3,u0 r⟩
theorem K9{ws:List W}{M:Mm}{R:K3}(h:zT ws M R):zcE (bR R) (bU zcD ws) M:=by
 obtain⟨n,vs,rfl,r⟩:=h;exact xI rfl (xI rfl ⟨z2,_,Sub.refl _,r⟩)
end M69
namespace M47
open PySem Spec PyProof.Rows L2 L3 Rg M69
abbrev pG:Pos:=⟨201,56,201,114⟩
abbrev jE:nJ:=⟨"fewest_mends.<locals>.<lambda>","row",
 {posonlyargs:=[],args:=[{arg:="word",annotation:=none,pos:=⟨201,63,201,67⟩},{arg:="begin",annotation:=none,pos:=⟨201,69,201,74⟩},{arg:="end",annotation:=none,pos:=⟨201,76,201,79⟩}],vararg:=none,kwonlyargs:=[],kw_defaults:=[],kwarg:=none,defaults:=[]},
 .Call (.Name "mend_steps" ⟨201,81,201,91⟩) [.Name "row" ⟨201,92,201,95⟩,.Name "word" ⟨201,97,201,101⟩,.Name "begin" ⟨201,103,201,108⟩,.Name "end" ⟨201,110,201,113⟩] [] ⟨201,81,201,114⟩,
 {kind:=.function,names:=[("word",.local),("begin",.local),("end",.local),("row",.free),("mend_steps",.globalImplicit)],isGenerator:=false,isCoroutine:=false,more:=[]}⟩
theorem LA:vH "word" "begin" "end" jE.y "mend_steps" jE.sc:=⟨rfl,rfl,rfl,rfl,by decide,by decide,by decide,by decide,by decide,by decide,by decide,by decide,by decide⟩
def jV(s:gW):W:=.tup (s.map W.str)
structure vJ(row:List Str)(t:Str)(b e:Int):Prop where
 rk:∀x∈row,gK x
 few:row.length<=60
 tk:gK t
 b0:0<=b
 be:b<=e
 en:e<=row.length
def LB(p:Int×Int):W:=.tup [.int p.1,.int p.2]
def Hu(rs:List a7)(U:List Str):Prop:=∀r∈rs,∀t∈(bZ r).parts,cN rs t=false->t∈U
def fZ(q:a7)(row:List Str):bD:=(q.name,0,(row.length:Int))
def zU:bE:=λws M R=>∃rs,ws=[cM rs]/\d3 rs/\R (cM (rs.map bZ)) M
def LC:bE:=λws M R=>∃row t b e,ws=[gC row,.str t,.int b,.int e]/\vJ row t b e/\R (.int (jB row t b e)) M
def rK:bE:=λws M R=>∃ts:List Str,ws=[.rl (ts.map W.str)]/\ts.length<=1000/\R (.rl (ts.map λt=>jV (pB t))) M
def LD:bE:=λws M R=>∃row t b e,ws=[gC row,.str t,.int b,.int e]/\vJ row t b e/\R (.rl ((pC row t b e).map jV)) M
def pH(row:List Str)(t:Str)(b:Int):W:=.rl (((eY row.length).filter λe=>decide (b<=e)).map λe=>LB (e,jB row t b e))
structure mB(row:List Str)(A:Str->Int->Prop)(kvs:List (List aK×W)):Prop where
 hit:∀t b,A t b->bJ kvs (eK (t,b))=some (pH row t b)
 non:∀t b,¬A t b->bJ kvs (eK (t,b))=none
def LF:bE:=λws M R=>∃rs row,ws=[cM (rs.map bZ),gC row]/\d3 rs/\jC row/\∀U kvs,Hu rs U->(∀t∈U,t∈("" : Str)::dC)->U.length<=4->mB row (λt b=>t∈U/\b∈eY row.length) kvs->lN kvs M R
def LG(C:Cc):bE:=λws M R=>∃rs row,ws=[cM rs,gC row]/\d3 rs/\jC row/\∀U B,Hu rs U->(∀t∈U,t∈("" : Str)::dC)->fG (cH rs row U) B->lN (eM fK fX B) M R
def LH(C:Cc):bE:=λws M R=>∃(G:Sr) (B:bM) (aN:bD),ws=[cM G.rs,m9 B,eU aN,.ref C.h,.ref C.i]/\Wb G B/\aN∈B.map (·.1)/\R (l0 G B aN) M
def zV(C:Cc)(cy:Addr)(v:V):bE:=λws M R=>∃(rs:List a7) (row U:List Str) (B:bM) (aN:bD) (f:Addr),ws=[cM (rs.map bZ),m9 B,eU aN,.ref f,.ref C.g]/\Wb (cH rs row U) B/\aN∈B.map (·.1)/\M f=some (.cl jE cy v (gC row))/\jC row/\(∀t∈U,t∈("" : Str)::dC)/\(gL row (yT (cH rs row U) B aN)).length<=200000/\
 ∀p M',M p=none->L3.Sub M M'->M' p=some (.lst ((gL row (yT (cH rs row U) B aN)).map jV))->R (.ref p) M'
def LI(C:Cc):bE:=λws M R=>∃(G:Sr) (B:bM) (aN:bD),ws=[cM G.rs,m9 B,eU aN]/\Wb G B/\aN∈B.map (·.1)/\R (l0 G B aN) M
def LJ(C:Cc):bE:=λws M R=>∃q rs row,ws=[cM (q::rs),gC row]/\d3 (q::rs)/\jC row/\M C.t=some (.tb pG jE.qual)/\∀U B,Hu (q::rs) U->(∀t∈U,t∈("" : Str)::dC)->fG (cH (q::rs) row U) B->
 (aH B (fZ q row)=none->R .non M)/\∀x,aH B (fZ q row)=some x->∀p M',M p=none->L3.Sub M M'->M' p=some (.lst ((gL row (yT (cH (q::rs) row U) B (fZ q row))).map jV))->R (.tup [.int x.1.1,.ref p,l0 (kF (q::rs) row U) B (fZ q row)]) M'
structure rL(M:Mm)(p:Addr)(S:List gW)(r w:List Str)(n:Int):Prop where
 at_:M p=some (.lst (S.map jV))
 gn:Gn S r w n
 rk:∀t∈r,gK t
 wk:∀t∈w,gK t
 few:S.length<=200000
 rf:r.length<=60
def LK:bE:=λws M R=>∃p S r w n,ws=[.ref p]/\rL M p S r w n/\a9 (w.map W.str) M R
def LL:bE:=λws M R=>∃p S r w n,ws=[gC r,.ref p]/\rL M p S r w n/\R (.bl true) M
def vK:bE:=λws M R=>∃(zs:List Int) (k:Int),ws=[.sc (zs.map W.int),.int k]/\zs.length<=63/\0<=k/\∀i,R (.int i) M
def vL:bE:=λws M R=>∃(d:Int) (hs:List Str),ws=[.int d,.rl (hs.map W.str)]/\hs≠[]/\hs.length<=3/\∀ts:List Str,ts.length<=3->(∀t∈ts,t∈hs\/t∈dC)->R (.tup (ts.map W.str)) M
def LM:bE:=λws M R=>∃zs:List Int,ws=[.sc (zs.map W.int)]/\zs.length<=63/\∀rs,d3 rs->a9 (rs.map d9) M R
def zW:bE:=λws M R=>∃(zs:List Int) (m:Int),ws=[.rl (zs.map W.int),.int m]/\0<=m/\m<=12/\zs.length<=63/\∀row,jC row->a9 (row.map W.str) M R
def LN:bE:=λws M R=>∃c:Int,ws=[.int c]/\∀rs,d3 rs->a9 (rs.map d9) M R
def LO:bE:=λws M R=>∃zs:List Int,ws=[.sc (zs.map W.int)]/\zs.length<=63/\∀rs row,d3 rs->jC row->R (.tup [cM rs,gC row]) M
def vM:bE:=λws M R=>∃t:Str,ws=[.str t]/\(t∈eJ\/t∈dC)/\R (.bl (is8 t)) M
def LP:bE:=λws M R=>∃rs,ws=[cM rs]/\d3 rs/\a9 ((iX rs).map W.str) M R
def rM:Nat->bE
 | 0=>λ_ _ _=>False
 | d+1=>λws M R=>∃(rs:List a7) (x:W) (X:Str) (ts:List Str),ws=[cM rs,.str X,x]/\d3 rs/\pE rs d x X ts/\R (.bl true) M
abbrev gX:bE:=rM 105
def rN:Nat->bE
 | 0=>λ_ _ _=>False
 | d+1=>λws M R=>∃(rs:List a7) (x:W) (X:Str) (ts:List Str),ws=[x]/\d3 rs/\pE rs d x X ts/\ts.length<=200000/\a9 (ts.map W.str) M R
abbrev kG:bE:=rN 105
def LQ:bE:=λws M R=>∃p S r w n,ws=[.ref p,gC r]/\rL M p S r w n/\∀q M',M q=none->L3.Sub M M'->M' q=some (.lst (w.map W.str))->R (.tup [.ref q,.int n]) M'
abbrev zcF(C:Cc):bE:=rH C.t pG jE.qual
abbrev zcG:List Str:=["grammar"]
def zcH:aG:=
   (bP (dN (h9 (dX eS (aA 0)) (bY 0) k7 (tB (bV (aD (rEq true) (aD aV (aA 0) (vC (.int 1))) (cB aE))) (aA 0) (cB (aB (aD aV (aA 0) (vC (.int 0))) (aB (cB (aB (vC (.str "")) aE)) (aB (aD aV (aA 0) (vC (.int 2))) aE))))) [none])))
abbrev zcI:List Str:=["row","word","begin","end","between"]
def zcJ:aG:=
   (bK 4 (jO (aA 0) (iU (aA 2)) (iU (aA 3))))
def zcK:aG:=
   (cQ (bV (aD (rEq false) (aA 1) (vC (.str ""))))
    (bP (bX cY (aB (aA 4) aE)))
    c7)
def zcL:aG:=
   (cQ (bV (aD (rEq false) (bX cY (aB (aA 4) aE)) (vC (.int 0))))
    (bP (vC (.int 1)))
    c7)
def zcM:aG:=
   (bP (tB (bV (aD (rIn false) (aA 1) (aA 4))) (aD nM (bX cY (aB (aA 4) aE)) (vC (.int 1))) (bX cY (aB (aA 4) aE))))
def zcN:aG:=(aR zcJ (aR zcK (aR zcL zcM)))
abbrev zcO:List Str:=["words"]
def zcP:aG:=
   (bP (dN (h9 (dX eS (aA 0)) (bY 0) k7 (cB (aB (vC (.str "drop")) (aB (aA 0) aE))) [none])))
abbrev zcQ:List Str:=["row","word","begin","end","between","at"]
def zcR:aG:=
   (bK 4 (jO (aA 0) (iU (aA 2)) (iU (aA 3))))
def zcS:aG:=
   (cQ (bV (aD (rEq false) (aA 1) (vC (.str ""))))
    (bP (bS rK (aB (aA 4) aE)))
    c7)
def zcT:aG:=
   (cQ (bV (aD (rEq false) (bX cY (aB (aA 4) aE)) (vC (.int 0))))
    (bP (gJ (aB (cB (aB (vC (.str "put")) (aB (aA 1) aE))) aE)))
    c7)
def zcU:aG:=
   (cQ (bV (aD (rIn false) (aA 1) (aA 4)))
    (aR (bK 5 (dU "list" KU (aA 4) (aB (aA 1) aE)))
   (bP (aD dY (aD dY (bS rK (aB (jO (aA 4) jL (iU (aA 5))) aE)) (gJ (aB (cB (aB (vC (.str "keep")) (aB (aA 1) aE))) aE))) (bS rK (aB (jO (aA 4) (iU (aD dY (aA 5) (vC (.int 1)))) jL) aE)))))
    c7)
def zcV:aG:=
   (bP (aD dY (gJ (aB (cB (aB (vC (.str "swap")) (aB (aD aV (aA 4) (vC (.int 0))) (aB (aA 1) aE)))) aE)) (bS rK (aB (jO (aA 4) (iU (vC (.int 1))) jL) aE))))
def zcW:aG:=(aR zcR (aR zcS (aR zcT (aR zcU zcV))))
abbrev zcX:List Str:=["grammar","row","steps","word","begin","ends"]
def zcY:aG:=
   (bK 2 mS)
def zcZ:aG:=
   (fD (dX eS (dN (bS uZ (aB (aA 1) aE)))) (bY 4)
    (aR (bK 5 (dN (h9 (dX eS (dN (bS uZ (aB (aA 1) aE)))) (bY 0) (bV (aD xA (aA 0) (aA 1))) (aA 0) [none,some 4])))
   (i6 (dN (h9 (dX eS (aA 5)) (bY 0) k7 (cB (aB (aA 0) (aB (bS LC (aB (aA 1) (aB (aA 2) (aB (aA 3) (aB (aA 0) aE))))) aE))) [none,some 1,some 3,some 4])) (kZ (aA 2) (cB (aB (aA 3) (aB (aA 4) aE)))))))
def zc0:aG:=
   (fD (dX eS (bS K1 (aB (aA 0) aE))) (bY 3) zcZ)
def zc1:aG:=
   (bP (aA 2))
def zc2:aG:=(aR zcY (aR zc0 zc1))
abbrev zc3:List Str:=["grammar","row","gapped"]
def zc4(C:Cc):aG:=
   (aR (bK 2 (bS zU (aB (aA 0) aE)))
   (bP (bS (IX C) (aB (aA 2) (aB (dN (bS uZ (aB (aA 1) aE))) (aB (dN (bS LF (aB (aA 2) (aB (aA 1) aE)))) (aB (dN (bS J1 (aB (aA 0) aE))) aE)))))))
abbrev zX:List Str:=["grammar","best","top","of_word","of_rule","own","made","fact","number","cut","values","k","part"]
def zc5(cw cr:aZ):aG:=
   (bK 5 (bS qV (aB (dN (bS qT (aB (aA 0) aE))) aE)))
def zc6(cw cr:aZ):aG:=
   (bK 6 mS)
def zc7(cw cr:aZ):aG:=
   (aR (bK 8 (aD aV (aD aV (aA 1) (aA 7)) (vC (.int 1))))
   (aR (bK 9 (aD aV (aD aV (aA 1) (aA 7)) (vC (.int 2))))
   (aR (bK 10 (hZ aE))
   (aR (fD (zK (aB (aD aV (aD aV (aA 0) (aA 8)) (vC (.int 1))) aE)) (j3 2 (e7 (bY 11) (e7 (bY 12) j0)))
    (cQ (bV (aD (rIn false) (aA 12) (aA 5)))
    (dW (dU "list" eZ (aA 10) (aB (aD aV (aA 6) (cB (aB (aA 12) (aB (aD aV (aA 9) (aA 11)) (aB (aD aV (aA 9) (aD dY (aA 11) (vC (.int 1)))) aE))))) aE)))
    (dW (dU "list" eZ (aA 10) (aB cw aE)))))
   (i6 cr (kZ (aA 6) (aA 7)))))))
def zc8(cw cr:aZ):aG:=
   (fD (dX eS (dN (bS KC (aB (aA 0) (aB (aA 1) (aB (aA 2) aE)))))) (bY 7) (zc7 cw cr))
def zc9(cw cr:aZ):aG:=
   (bP (aD aV (aA 6) (aA 2)))
def zY(cw cr:aZ):aG:=(aR (zc5 cw cr) (aR (zc6 cw cr) (aR (zc8 cw cr) (zc9 cw cr))))
abbrev zda(C:Cc):aG:=zY (vB 3 C.h KD (aB (aA 12) (aB (aD aV (aA 9) (aA 11)) (aB (aD aV (aA 9) (aD dY (aA 11) (vC (.int 1)))) aE)))) (vB 4 C.i zT (aB (aA 8) (aB (dN (aA 10)) aE)))
abbrev zdb(C:Cc)(cy:Addr)(v:V):aG:=zY (KS 3 jE cy v (aB (aA 12) (aB (aD aV (aA 9) (aA 11)) (aB (aD aV (aA 9) (aD dY (aA 11) (vC (.int 1)))) aE))) (bS LD (aB (aA 3) (aB (aA 0) (aB (aA 1) (aB (aA 2) aE)))))) (vB 4 C.g zS (aB (aA 8) (aB (dN (aA 10)) aE)))
abbrev zdc:List Str:=["grammar","best","top"]
def zdd(C:Cc):aG:=
   (bP (bS (LH C) (aB (aA 0) (aB (aA 1) (aB (aA 2) (aB (vC (.ref C.h)) (aB (vC (.ref C.i)) aE)))))))
abbrev zde:List Str:=["grammar","row","best","top","steps"]
def zdf(C:Cc)(cy:Addr):aG:=
   (bK 2 (JD (bS (LG C) (aB (aA 0) (aB (aA 1) aE)))))
def zdg(C:Cc)(cy:Addr):aG:=
   (bK 3 (bS J9 (aB (aA 0) (aB (aA 1) aE))))
def zdh(C:Cc)(cy:Addr):aG:=
   (cQ (bV (aD (rIn true) (aA 3) (aA 2)))
    (bP (vC .non))
    c7)
def zdi(C:Cc)(cy:Addr):aG:=
   (bK 4 (KR cy 1 (zV C) (aB (bS zU (aB (aA 0) aE)) (aB (aA 2) (aB (aA 3) (aB (KQ C.t ⟨201,56,201,114⟩ jE cy) (aB (vC (.ref C.g)) aE)))))))
def zdj(C:Cc)(cy:Addr):aG:=
   (bP (cB (aB (aD aV (aD aV (aD aV (aA 2) (aA 3)) (vC (.int 0))) (vC (.int 0))) (aB (aA 4) (aB (bS (LI C) (aB (aA 0) (aB (aA 2) (aB (aA 3) aE)))) aE)))))
def zdk(C:Cc)(cy:Addr):aG:=(aR (zdf C cy) (aR (zdg C cy) (aR (zdh C cy) (aR (zdi C cy) (zdj C cy)))))
abbrev zdl:List Str:=["steps"]
def zdm:aG:=
   (bP (h9 (dX eS (aA 0)) (bY 0) (bV (aD (rEq true) (aD aV (aA 0) (vC (.int 0))) (vC (.str "drop")))) (aD aV (aA 0) (jX jZ (vC (.int 1)))) [none]))
abbrev zdn:List Str:=["row","steps"]
def zdo:aG:=
   (bP (aD (rEq false) (dN (h9 (dX eS (aA 1)) (bY 0) (bV (aD (rEq true) (aD aV (aA 0) (vC (.int 0))) (vC (.str "put")))) (aD aV (aA 0) (vC (.int 1))) [none])) (aA 0)))
abbrev zdp:List Str:=["script","k"]
def zdq:aG:=
   (aR (cQ (bV (aD nN (aA 1) (bX cY (aB (aA 0) aE))))
    (bP (aD aV (aA 0) (aA 1)))
    c7)
   (bP (vC (.int 0))))
abbrev zdr:List Str:=["d","heads","parts","k","one"]
def zds:aG:=
   (bK 2 (hZ aE))
def zdt:aG:=
   (aR (bK 4 (aD fA (aD f7 (aA 0) (aD dY (vC (.int 6)) (aD tO (vC (.int 90)) (aA 3)))) (vC (.int 15))))
   (cQ (bV (aD nN (aA 4) (vC (.int 8))))
    (dW (dU "list" eZ (aA 2) (aB (aD aV (gJ (aB (vC (.str "a")) (aB (vC (.str "ab")) (aB (vC (.str "b")) aE)))) (aD fA (aA 4) (vC (.int 3)))) aE)))
    (dW (dU "list" eZ (aA 2) (aB (aD aV (aA 1) (aD fA (aA 4) (bX cY (aB (aA 1) aE)))) aE)))))
def zdu:aG:=
   (fD (qB (aB (aD aV (gJ (aB (vC (.int 0)) (aB (vC (.int 1)) (aB (vC (.int 2)) (aB (vC (.int 2)) (aB (vC (.int 3)) (aB (vC (.int 1)) aE))))))) (aD fA (aA 0) (vC (.int 6)))) aE)) (bY 3) zdt)
def zdv:aG:=
   (bP (bX tI (aB (aA 2) aE)))
def zdw:aG:=(aR zds (aR zdu zdv))
abbrev zdx:List Str:=["script","cell","heads","rules","k","d","name"]
def zdy:aG:=
   (bK 1 (bS vK (aB (aA 0) (aB (vC (.int 0)) aE))))
def zdz:aG:=
   (bK 2 (jO (gJ (aB (vC (.str "S")) (aB (vC (.str "S_1")) (aB (vC (.str "S_12")) aE)))) jL (iU (aD dY (vC (.int 1)) (aD fA (aD f7 (aA 1) (vC (.int 2))) (vC (.int 3)))))))
def zdA:aG:=
   (bK 3 (hZ aE))
def zdB:aG:=
   (aR (bK 5 (bS vK (aB (aA 0) (aB (aD dY (vC (.int 1)) (aA 4)) aE))))
   (aR (cQ (bV (aD (rEq false) (aD fA (aA 1) (vC (.int 2))) (vC (.int 1))))
    (bK 5 (aD f7 (aD tO (aD dY (aD fA (aA 5) (aD w9 (vC (.int 10)) (vC (.int 40)))) (aA 4)) (aD dY (aD dY (aD fA (aA 5) (aD w9 (vC (.int 10)) (vC (.int 40)))) (aD tO (vC (.int 5)) (aA 4))) (vC (.int 2)))) (vC (.int 7))))
    c7)
   (aR (bK 6 (aD aV (aA 2) (aD fA (aA 5) (bX cY (aB (aA 2) aE)))))
   (aR (cQ (bV (aD nN (aA 4) (bX cY (aB (aA 2) aE))))
    (bK 6 (aD aV (aA 2) (aA 4)))
    c7)
   (dW (dU "list" eZ (aA 3) (aB (cB (aB (aA 6) (aB (bS vL (aB (aD f7 (aA 5) (vC (.int 3))) (aB (aA 2) aE))) (aB (aD fA (aD f7 (aA 5) (vC (.int 900))) (vC (.int 4))) aE)))) aE)))))))
def zdC:aG:=
   (fD (qB (aB (aD dY (bX cY (aB (aA 2) aE)) (aD fA (aD f7 (aA 1) (vC (.int 6))) (vC (.int 5)))) aE)) (bY 4) zdB)
def zdD:aG:=
   (bP (aA 3))
def zdE:aG:=(aR zdy (aR zdz (aR zdA (aR zdC zdD))))
abbrev zdF:List Str:=["cells","most"]
def zdG:aG:=
   (bP (h9 (dX eS (jO (aA 0) jL (iU (aA 1)))) (bY 0) k7 (aD aV (gJ (aB (vC (.str "a")) (aB (vC (.str "ab")) (aB (vC (.str "b")) aE)))) (aD fA (aA 0) (vC (.int 3)))) [none]))
abbrev zdH:List Str:=["cell","heads","rules","k"]
def zdI:aG:=
   (bK 1 (jO (gJ (aB (vC (.str "S")) (aB (vC (.str "S_1")) (aB (vC (.str "S_12")) (aB (vC (.str "V")) (aB (vC (.str "W")) (aB (vC (.str "X")) (aB (vC (.str "Y")) (aB (vC (.str "Z")) aE))))))))) jL (iU (aD dY (vC (.int 3)) (aD fA (aA 0) (vC (.int 6)))))))
def zdJ:aG:=
   (bK 2 (hZ aE))
def zdK:aG:=
   (dW (dU "list" eZ (aA 2) (aB (cB (aB (aD aV (aA 1) (aA 3)) (aB (cB (aB (aD aV (aA 1) (aD dY (aA 3) (vC (.int 1)))) aE)) (aB (vC (.int 0)) aE)))) aE)))
def zdL:aG:=
   (fD (qB (aB (aD nM (bX cY (aB (aA 1) aE)) (vC (.int 1))) aE)) (bY 3) zdK)
def zdM:aG:=
   (dW (dU "list" eZ (aA 2) (aB (cB (aB (aD aV (aA 1) (jX jZ (vC (.int 1)))) (aB (aD aV (gJ (aB (cB (aB (vC (.str "a")) (aB (vC (.str "S")) aE))) (aB (cB (aB (vC (.str "S")) (aB (vC (.str "a")) aE))) (aB (cB (aB (vC (.str "b")) (aB (vC (.str "S")) (aB (vC (.str "ab")) aE)))) aE)))) (aD fA (aD f7 (aA 0) (vC (.int 6))) (vC (.int 3)))) (aB (vC (.int 1)) aE)))) aE)))
def zdN:aG:=
   (dW (dU "list" eZ (aA 2) (aB (cB (aB (aD aV (aA 1) (aD fA (aD f7 (aA 0) (vC (.int 18))) (bX cY (aB (aA 1) aE)))) (aB (aD aV (gJ (aB (cB (aB (vC (.str "ab")) aE)) (aB (cB aE) aE))) (aD fA (aD f7 (aA 0) (vC (.int 144))) (vC (.int 2)))) (aB (vC (.int 0)) aE)))) aE)))
def zdO:aG:=
   (cQ (bV (aD (rEq false) (aD fA (aD f7 (aA 0) (vC (.int 288))) (vC (.int 2))) (vC (.int 1))))
    (bP (KY (aA 2)))
    c7)
def zdP:aG:=
   (bP (aA 2))
def zdQ:aG:=(aR zdI (aR zdJ (aR zdL (aR zdM (aR zdN (aR zdO zdP))))))
abbrev zdR:List Str:=["script","cell","many"]
def zdS:aG:=
   (bK 1 (bS vK (aB (aA 0) (aB (vC (.int 0)) aE))))
def zdT:aG:=
   (bK 2 (aD fA (aD f7 (aA 1) (vC (.int 30))) (vC (.int 7))))
def zdU:aG:=
   (cQ (bV (aD (rEq false) (aD fA (aD f7 (aA 1) (vC (.int 360))) (vC (.int 4))) (vC (.int 0))))
    (bP (cB (aB (dN (bS LN (aB (aD f7 (aA 1) (vC (.int 1440))) aE))) (aB (dN (bS zW (aB (jO (aA 0) (iU (vC (.int 9))) jL) (aB (aD dY (aA 2) (vC (.int 6))) aE)))) aE))))
    c7)
def zdV:aG:=
   (bP (cB (aB (dN (bS LM (aB (aA 0) aE))) (aB (dN (bS zW (aB (jO (aA 0) (iU (vC (.int 9))) jL) (aB (aA 2) aE)))) aE))))
def zdW:aG:=(aR zdS (aR zdT (aR zdU zdV)))
abbrev zdX:List Str:=["part"]
def zdY:aG:=
   (bP (aD (rIn false) (aA 0) (gJ (aB (vC (.str "S")) (aB (vC (.str "S_1")) (aB (vC (.str "S_12")) (aB (vC (.str "V")) (aB (vC (.str "W")) (aB (vC (.str "X")) (aB (vC (.str "Y")) (aB (vC (.str "Z")) aE)))))))))))
abbrev zdZ:List Str:=["rules","found","turn","name","parts","cost"]
def zd0:aG:=
   (bK 1 (hZ aE))
def zd1:aG:=
   (fD (dX nQ (aA 0)) (j3 3 (e7 (bY 3) (e7 (bY 4) (e7 (bY 5) j0))))
    (cQ (sZ (bV (aD (rIn true) (aA 3) (aA 1))) (gO (bX GJ (aB (dN (h9 (dX eS (aA 4)) (bY 0) k7 (FJ (FK (bS vM (aB (aA 0) aE))) (aD (rIn false) (aA 0) (aA 1))) [none,some 1])) aE))))
    (dW (dU "list" eZ (aA 1) (aB (aA 3) aE)))
    c7))
def zd2:aG:=
   (fD (dX eS (aA 0)) (bY 2) zd1)
def zd3:aG:=
   (bP (aA 1))
def zd4:aG:=(aR zd0 (aR zd2 zd3))
abbrev LR:List Str:=["rules","name","tree","parts","part","child"]
def zd5(gX:bE):aG:=
   (cQ (gP (jK (gO (bX i9 (aB (aA 2) (aB (vC (.ty "tuple")) aE))))) (gP (bV (aD (rEq true) (bX cY (aB (aA 2) aE)) (vC (.int 2)))) (gP (jK (gO (bX i9 (aB (aD aV (aA 2) (vC (.int 0))) (aB (vC (.ty "int")) aE))))) (gO (bX i9 (aB (aD aV (aA 2) (vC (.int 0))) (aB (vC (.ty "bool")) aE)))))))
    (bP (vC (.bl false)))
    c7)
def zd6(gX:bE):aG:=
   (cQ (gP (jK (bV (xR FV nN (vC (.int 0)) (aD aV (aA 2) (vC (.int 0))) (bX cY (aB (aA 0) aE))))) (gP (bV (aD (rEq true) (aD aV (aD aV (aA 0) (aD aV (aA 2) (vC (.int 0)))) (vC (.int 0))) (aA 1))) (jK (gO (bX i9 (aB (aD aV (aA 2) (vC (.int 1))) (aB (vC (.ty "tuple")) aE)))))))
    (bP (vC (.bl false)))
    c7)
def zd7(gX:bE):aG:=
   (bK 3 (aD aV (aD aV (aA 0) (aD aV (aA 2) (vC (.int 0)))) (vC (.int 1))))
def zd8(gX:bE):aG:=
   (cQ (bV (aD (rEq true) (bX cY (aB (aA 3) aE)) (bX cY (aB (aD aV (aA 2) (vC (.int 1))) aE))))
    (bP (vC (.bl false)))
    c7)
def zd9(gX:bE):aG:=
   (cQ (gP (sZ (jK (gO (bS vM (aB (aA 4) aE)))) (bV (aD (rEq true) (aA 5) (aA 4)))) (sZ (gO (bS vM (aB (aA 4) aE))) (jK (gO (bS gX (aB (aA 0) (aB (aA 4) (aB (aA 5) aE))))))))
    (bP (vC (.bl false)))
    c7)
def zea(gX:bE):aG:=
   (fD (G5 (aB (aA 3) (aB (aD aV (aA 2) (vC (.int 1))) aE))) (j3 2 (e7 (bY 4) (e7 (bY 5) j0))) (zd9 gX))
def zeb(gX:bE):aG:=
   (bP (vC (.bl true)))
def zec(gX:bE):aG:=(aR (zd5 gX) (aR (zd6 gX) (aR (zd7 gX) (aR (zd8 gX) (aR (zea gX) (zeb gX))))))
abbrev LS:List Str:=["tree","words","child"]
def zed(kG:bE):aG:=
   (bK 1 (hZ aE))
def zee(kG:bE):aG:=
   (cQ (gO (bX i9 (aB (aA 2) (aB (vC (.ty "tuple")) aE))))
    (bK 1 (aD w5 (aA 1) (dN (bS kG (aB (aA 2) aE)))))
    (dW (dU "list" eZ (aA 1) (aB (aA 2) aE))))
def zef(kG:bE):aG:=
   (fD (dX eS (aD aV (aA 0) (vC (.int 1)))) (bY 2) (zee kG))
def zeg(kG:bE):aG:=
   (bP (aA 1))
def zeh(kG:bE):aG:=(aR (zed kG) (aR (zef kG) (zeg kG)))
abbrev zei:List Str:=["steps","row","left","words","many","step"]
def zej:aG:=
   (bK 2 (bX tP (aB (aA 1) aE)))
def zek:aG:=
   (bK 3 (hZ aE))
def zel:aG:=
   (bK 4 (vC (.int 0)))
def zem:aG:=
   (aR (cQ (bV (aD (rEq true) (aD aV (aA 5) (vC (.int 0))) (vC (.str "put"))))
    (aR (cQ (gP (bV (aD (rEq false) (aA 2) (gJ aE))) (bV (aD (rEq true) (aD aV (aA 2) (vC (.int 0))) (aD aV (aA 5) (vC (.int 1))))))
    (bP (vC .non))
    c7)
   (bK 2 (jO (aA 2) (iU (vC (.int 1))) jL)))
    c7)
   (aR (cQ (bV (aD (rEq true) (aD aV (aA 5) (vC (.int 0))) (vC (.str "drop"))))
    (dW (dU "list" eZ (aA 3) (aB (aD aV (aA 5) (aD nM (bX cY (aB (aA 5) aE)) (vC (.int 1)))) aE)))
    c7)
   (aR (cQ (bV (aD (rEq true) (aD aV (aA 5) (vC (.int 0))) (vC (.str "keep"))))
    (bK 4 (aD dY (aA 4) (vC (.int 1))))
    c7)
   (cQ (gP (bV (aD (rEq true) (bX cY (aB (aA 5) aE)) (aD dY (vC (.int 2)) (bX J2 (aB (aD (rEq false) (aD aV (aA 5) (vC (.int 0))) (vC (.str "swap"))) aE))))) (bV (aD (rIn true) (aD aV (aA 5) (vC (.int 0))) (gJ (aB (vC (.str "keep")) (aB (vC (.str "drop")) (aB (vC (.str "put")) (aB (vC (.str "swap")) aE))))))))
    (bP (vC .non))
    c7))))
def zen:aG:=
   (fD (dX eS (aA 0)) (bY 5) zem)
def zeo:aG:=
   (bP (tB (bV (aD (rEq false) (aA 2) (gJ aE))) (cB (aB (aA 3) (aB (aA 4) aE))) (vC .non)))
def zep:aG:=(aR zej (aR zek (aR zel (aR zen zeo))))
abbrev zeq:List Str:=["script","rules","row","handed","given","found","count","steps","tree","gone"]
def zer(C:Cc):aG:=
   (i6 (bS LO (aB (aA 0) aE)) (j3 2 (e7 (bY 1) (e7 (bY 2) j0))))
def zes(C:Cc):aG:=
   (bK 3 (bX tP (aB (aA 1) aE)))
def zet(C:Cc):aG:=
   (bK 4 (bX tP (aB (aA 2) aE)))
def zeu(C:Cc):aG:=
   (bK 5 (bS (LJ C) (aB (aA 3) (aB (aA 4) aE))))
def zev(C:Cc):aG:=
   (cQ (gP (bV (aD (rEq true) (aA 3) (aA 1))) (bV (aD (rEq true) (aA 4) (aA 2))))
    (bP (vC (.bl false)))
    c7)
def zew(C:Cc):aG:=
   (cQ (bV (aD (rIn true) (aD aV (aD aV (aA 1) (vC (.int 0))) (vC (.int 0))) (dN (bS LP (aB (aA 1) aE)))))
    (bP (aD (tE false) (aA 5) (vC .non)))
    c7)
def zex(C:Cc):aG:=
   (cQ (gP (jK (gO (bX i9 (aB (aA 5) (aB (vC (.ty "tuple")) aE))))) (gP (bV (aD (rEq true) (bX cY (aB (aA 5) aE)) (vC (.int 3)))) (jK (gO (bX i9 (aB (aD aV (aA 5) (vC (.int 1))) (aB (vC (.ty "list")) aE)))))))
    (bP (vC (.bl false)))
    c7)
def zey(C:Cc):aG:=
   (i6 (aA 5) (j3 3 (e7 (bY 6) (e7 (bY 7) (e7 (bY 8) j0)))))
def zez(C:Cc):aG:=
   (bK 9 (bS LQ (aB (aA 7) (aB (aA 2) aE))))
def zeA(C:Cc):aG:=
   (cQ (gP (bV (aD (tE false) (aA 9) (vC .non))) (gP (jK (gO (bX i9 (aB (aA 6) (aB (vC (.ty "int")) aE))))) (gP (gO (bX i9 (aB (aA 6) (aB (vC (.ty "bool")) aE)))) (bV (aD (rEq true) (aD aV (aA 9) (vC (.int 1))) (aA 6))))))
    (bP (vC (.bl false)))
    c7)
def zeB(C:Cc):aG:=
   (cQ (gP (jK (gO (bS gX (aB (aA 1) (aB (aD aV (aD aV (aA 1) (vC (.int 0))) (vC (.int 0))) (aB (aA 8) aE)))))) (bV (aD (rEq true) (dN (bS kG (aB (aA 8) aE))) (aD aV (aA 9) (vC (.int 0))))))
    (bP (vC (.bl false)))
    c7)
def zeC(C:Cc):aG:=
   (bP (wX (aD (HI false) (bS LL (aB (aA 2) (aB (aA 7) aE))) (vC (.bl true))) (wX (aD (rEq false) (dN (bS LK (aB (aA 7) aE))) (aD aV (aA 9) (vC (.int 0)))) (aD xA (aA 6) (vC (.int 0))))))
def zeD(C:Cc):aG:=(aR (zer C) (aR (zes C) (aR (zet C) (aR (zeu C) (aR (zev C) (aR (zew C) (aR (zex C) (aR (zey C) (aR (zez C) (aR (zeA C) (aR (zeB C) (zeC C))))))))))))
end M47
namespace M47
open PySem Spec PyProof.Rows L2 L3 Rg
theorem zeE{row:List Str}{b e:Int}(h0:0<=b)(h1:b<=e)(h2:e<=row.length):eX (row.map W.str) (some b) (some e)=(dH row b e).map W.str:=by
 obtain⟨i,rfl⟩:=Dr h0;obtain⟨j,rfl⟩:=Dr (Ft h0 h1);unfold eX dH;rw[HT.sIx_nat,HT.sIx_nat,Aa,Fn (by lia),Fn (by lia),Dg,Dg,List.drop_take,Kr,Jn]
theorem LU{ws:List W}{j:Nat}:eX ws (some (j:Int)) none=ws.drop j:=by
 unfold eX;rw[HT.sIx_none,HT.sIx_nat]
 by_cases h:j<=ws.length
 .rw[Fn h,Gs (by rw[Eb];exact An _)]
 .rw[Nat.min_eq_right (by lia),Nat.sub_self,List.take_zero,Ld (by lia)]
theorem zeF{ws:List W}{j:Nat}(h:j<=ws.length):eX ws none (some (j:Int))=ws.take j:=by
 unfold eX;rw[HT.sIx_none,HT.sIx_nat,Fn h];simp
theorem zeG{ws:List W}{M:Mm}{R:K3}(h:rK ws M R):zcP (bR R) (bU zcO ws) M:=by
 obtain⟨ts,rfl,hl,r⟩:=h;refine xI rfl (iK (oQ (rest:=[]) (λw=>.tup [.str "drop",w]) (fT (by rw[Aa];exact Au hl (by decide))) (λ_ _=>trivial) (λw hw M' C sb h1=>xI rfl ⟨z2,h1⟩) (a9.frz ⟨_,Sub.refl _,?_⟩)));rw[Cd];exact r
theorem zeH{row:List Str}{t:Str}{b e:Int}(a:vJ row t b e):(dH row b e).length<=60:=Au JY a.few
theorem LV{row:List Str}{b e:Int}{M:Mm}{R:K3}(h0:0<=b)(h1:b<=e)(h2:e<=row.length)(r:R (.rl ((dH row b e).map W.str)) M):nS (gC row) (some b) (some e) M R:=by
 show R (.rl (eX (row.map W.str) (some b) (some e))) M;rw[zeE h0 h1 h2];exact r
theorem rO{ts:List Str}{j:Nat}{i:Int}{τ:S3}{M:Mm}{R:K3}(ei:i=j)(r:R (.rl ((ts.drop j).map W.str)) M):jL τ M λu M3=>nS (.rl (ts.map W.str)) (some i) u M3 R:=by
 subst ei;show R (.rl (eX (ts.map W.str) (some (j:Int)) none)) M;rw[LU,<-Jn];exact r
theorem LW{ts:List Str}{j:Nat}{M:Mm}{R:K3}(h:j<=ts.length)(r:R (.rl ((ts.take j).map W.str)) M):nS (.rl (ts.map W.str)) none (some (j:Int)) M R:=by
 show R (.rl (eX (ts.map W.str) none (some (j:Int)))) M;rw[zeF (by rw[Aa];exact h),<-Kr];exact r
theorem zZ{t:Str}{ts:List Str}{M:Mm}{R:K3}(r:R (.bl (decide (t∈ts))) M):rIn false (.str t) (.rl (ts.map W.str)) M R:=⟨rfl,qU ts,by
 show R (.bl (inW (.str t) (ts.map W.str))) M;rw[nX];exact r⟩
theorem rP{ts:List Str}:decide (((ts.map W.str).length:Int)=0)=decide (ts=[]):=by
 rw[Aa];cases ts<;>simp<;>lia
theorem zeI{ws:List W}{M:Mm}{R:K3}(h:LC ws M R):zcN (bR R) (bU zcI ws) M:=by
 obtain⟨row,t,b,e,rfl,a,r⟩:=h;refine xI rfl (xI rfl (xI rfl (xI rfl (xI rfl (LV a.b0 a.be a.en ?_)))));unfold jB at r;obtain⟨w,hw⟩:∃w,w=dH row b e:=⟨_,rfl⟩;rw[<-hw]at r⊢;refine xI rfl (xI rfl (bC (λz=>?_) λz=>?_))
 .rw[if_pos (of_decide_eq_true z)]at r;exact xI rfl (by show(bR R).rt (.int (w.map W.str).length) M;rw[Aa];exact⟨_,Sub.refl _,r⟩)
 rw[if_neg (of_decide_eq_false z)]at r;refine xI rfl (xI rfl (bC (λz=>?_) λz=>?_))
 .rw[if_pos (of_decide_eq_true (rP.symm.trans z))]at r;exact⟨_,Sub.refl _,r⟩
 rw[if_neg (of_decide_eq_false (rP.symm.trans z))]at r;refine xI rfl (xI rfl (zZ (xI rfl (bC (λz=>?_) λz=>?_))))
 .rw[if_pos (of_decide_eq_true z)]at r;exact xI rfl (by show(bR R).rt (.int (((w.map W.str).length:Int)-1)) M;rw[Aa];exact⟨_,Sub.refl _,r⟩)
 .rw[if_neg (of_decide_eq_false z)]at r;exact xI rfl (by show(bR R).rt (.int (w.map W.str).length) M;rw[Aa];exact⟨_,Sub.refl _,r⟩)
theorem zeJ{ws:List W}{M:Mm}{R:K3}(h:LD ws M R):zcW (bR R) (bU zcQ ws) M:=by
 obtain⟨row,t,b,e,rfl,a,r⟩:=h;refine xI rfl (xI rfl (xI rfl (xI rfl (xI rfl (LV a.b0 a.be a.en ?_)))));have hl:=zeH a;unfold pC at r;obtain⟨w,hw⟩:∃w,w=dH row b e:=⟨_,rfl⟩;rw[<-hw]at r hl⊢;refine xI rfl (xI rfl (bC (λz=>?_) λz=>?_))
 .rw[if_pos (of_decide_eq_true z),Cd]at r;exact xI rfl ⟨w,rfl,Au hl (by decide),_,Sub.refl _,r⟩
 rw[if_neg (of_decide_eq_false z)]at r;refine xI rfl (xI rfl (bC (λz=>?_) λz=>?_))
 .rw[if_pos (of_decide_eq_true (rP.symm.trans z))]at r;exact xI rfl ⟨z2,z1,_,Sub.refl _,r⟩
 rw[if_neg (of_decide_eq_false (rP.symm.trans z))]at r;refine xI rfl (xI rfl (zZ (xI rfl (bC (λz=>?_) λz=>?_))))
 .have hm:=of_decide_eq_true z;rw[if_pos hm]at r;have hi:=List.idxOf_lt_length_iff.mpr hm;refine xI rfl ⟨rfl,xI rfl ⟨w,rfl,hm,Au hl (by decide),xI rfl (xI rfl (xI rfl (LW (Gi hi) ⟨_,rfl,?_,xI rfl ⟨z2,z1,?_⟩⟩)))⟩⟩
  .rw[Bp];lia
  refine⟨fT (by simp only[Aa,Bp,Az,Gy];lia),xI rfl (xI rfl (xI rfl (rO (j:=w.idxOf t+1) (by lia) ⟨_,rfl,by rw[Eb];lia,fT (by simp only[Aa,Bp,Eb,Az,Gy,Ah];lia),_,Sub.refl _,?_⟩)))⟩;rw[Bb,Bb,Cd,Cd]at r;exact r
 .rename_i z0;rw[if_neg (of_decide_eq_false z)]at r;cases w with
  | nil=>exact absurd rfl (of_decide_eq_false (rP.symm.trans z0))
  | cons x w=>
   rw[Az]at hl;refine xI rfl ⟨_,gZ (j:=0) rfl,xI rfl ⟨z3,z1,xI rfl (xI rfl (rO (j:=1) rfl ⟨w,rfl,by lia,fT (by simp only[Aa,Az,Gy];lia),_,Sub.refl _,?_⟩))⟩⟩;rw[Bd,Cd]at r;exact r
theorem zeK{r:a7}(hs:∀t∈r.parts,gK t){M:Mm}{R:K3}(h:R (.bl (!decide (r.parts=[]))) M):rEq true (.tup (r.parts.map W.str)) (.tup []) M R:=by
 have p1:Pl 1 (.tup (r.parts.map W.str)):=λw hw=>by
  obtain⟨t,ht,rfl⟩:=Bg.mp hw;exact hs t ht
 have p2:Pl 1 (.tup []):=λw hw=>nomatch hw;obtain⟨d1,s1,c1,k1⟩:=qD (M:=M) p1;obtain⟨d2,s2,c2,k2⟩:=qD (M:=M) p2;refine⟨d1,d2,s1,s2,⟨c1,Au k1 (by decide)⟩,⟨c2,Au k2 (by decide)⟩,?_⟩;have:Ij d1 d2=decide (r.parts=[]):=by
  rw[Du,xV p1 p2 s1 s2,decide_eq_true_eq];refine⟨λe=>?_,λe=>by rw[e];rfl⟩;cases hp:r.parts with
  | nil=>rfl
  | cons t ts=>rw[hp]at e;cases e
 rw[this];exact h
def z9:W->W
 | .tup [n,.tup [],c]=>.tup [n,.tup [.str ""],c]
 | w=>w
theorem LX(r:a7):z9 (d9 r)=d9 (bZ r):=by
 unfold d9 bZ;cases h:r.parts with
 | nil=>rw[if_pos rfl];rfl
 | cons t ts=>rw[if_neg (λe=>nomatch e),h];rfl
theorem zeL{ws:List W}{M:Mm}{R:K3}(h:zU ws M R):zcH (bR R) (bU zcG ws) M:=by
 obtain⟨rs,rfl,g,r⟩:=h;have:=g.few;refine xI rfl (iK (oQ (rest:=[]) z9 (fT (by rw[Aa];lia)) (λ_ _=>trivial) (λw hw M' C sb h1=>?_) (a9.frz ⟨_,Sub.refl _,?_⟩)))
 .obtain⟨r0,hr,rfl⟩:=Bg.mp hw;rw[LX]at h1;refine xI rfl (xI rfl ⟨Bz _,zeK (λt ht=>n5 (g.pt r0 hr t ht)) (xI rfl (bC (λz=>?_) λz=>?_))⟩)
  .rw[zN (λe=>by rw[e]at z;cases z)]at h1;exact xI rfl h1
  .have:r0.parts=[]:=of_decide_eq_true (by rw[<-Gv (decide _),show(!decide (r0.parts=[]))=false from z];rfl);unfold bZ at h1;rw[if_pos this]at h1;exact xI rfl (xI rfl ⟨z1,xI rfl (xI rfl ⟨z3,h1⟩)⟩)
 .rw[Cd,show z9 ∘ d9=d9 ∘ bZ from funext LX,<-Cd];exact r
theorem vN{rs:List a7}{t:Str}:cN (rs.map bZ) t=cN rs t:=by
 unfold cN;rw[Du,decide_eq_true_eq,decide_eq_true_eq,nU,nU];constructor
 .rintro⟨r,hr,e⟩;obtain⟨r0,h0,rfl⟩:=Bg.mp hr;exact⟨r0,h0,by rw[<-rD];exact e⟩
 .rintro⟨r,hr,e⟩;exact⟨bZ r,Bg.mpr ⟨r,hr,rfl⟩,by rw[rD];exact e⟩
theorem zeM{rs:List a7}(g:d3 rs){r:a7}(hr:r∈rs){t:Str}(ht:t∈(bZ r).parts)(ho:cN rs t=false):t∈("" : Str)::dC:=by
 rcases JQ ht with ht|rfl
 .rcases g.pt r hr t ht with h|h
  .rw[g.ow r hr t ht]at ho;exact absurd h (of_decide_eq_false ho)
  .exact Ba _ h
 .exact Bk
theorem AA{t:Str}(h:t∈("" : Str)::dC):gK t:=by
 rcases Ar.mp h with rfl|h
 .unfold gK;decide +kernel
 .exact n5 (.inr h)
theorem mB.put{row:List Str}{A:Str->Int->Prop}{kvs:List (List aK×W)}(h:mB row A kvs){t0:Str}{b0:Int}:mB row (λt b=>A t b\/(t=t0/\b=b0)) (cT kvs (eK (t0,b0)) (pH row t0 b0)):=by
 have e:∀t b,bJ (cT kvs (eK (t0,b0)) (pH row t0 b0)) (eK (t,b))=if eK (t0,b0)=eK (t,b) then some (pH row t0 b0) else bJ kvs (eK (t,b)):=λt b=>k9 kvs _ _ _;refine⟨λt b z=>?_,λt b z=>?_⟩
 .rw[e];split
  .rename_i q;cases uG _ _ q;rfl
  .rename_i q;exact h.hit t b (z.resolve_right λ⟨h1,h2⟩=>q (by rw[h1,h2]))
 .rw[e,if_neg (λq=>z (.inr (by cases uG _ _ q;exact⟨rfl,rfl⟩)))];exact h.non t b λq=>z (.inl q)
theorem mB.iff{row:List Str}{A A':Str->Int->Prop}{kvs:List (List aK×W)}(h:mB row A kvs)(e:∀t b,A t b↔A' t b):mB row A' kvs:=⟨λt b z=>h.hit t b ((e t b).mpr z),λt b z=>h.non t b λq=>z ((e t b).mp q)⟩
theorem AB{n:Nat}:((Cv (n+1)).map λ(i:Nat)=>W.int i)=(eY n).map W.int:=by unfold eY;rw[Cd];rfl
def vO(b:Int):W->Option W
 | .int e=>if b<=e then some (.int e) else none
 | _=>none
theorem zeN{b:Int}(l:List Int):(l.map W.int).filterMap (vO b)=(l.filter λe=>decide (b<=e)).map W.int:=by
 induction l with
 | nil=>rfl
 | cons e l ih=>
  rw[Bd,Ec,Dw,ih]
  by_cases h:b<=e
  .rw[show vO b (.int e)=some (.int e) from if_pos h,if_pos (decide_eq_true h)];rfl
  .rw[show vO b (.int e)=none from if_neg h,if_neg (λz=>h (of_decide_eq_true z))]
def zeO(row:List Str)(t:Str)(b:Int):W->W
 | .int e=>LB (e,jB row t b e)
 | w=>w
theorem zeP{ws:List W}{M:Mm}{R:K3}(h:LF ws M R):zc2 (bR R) (bU zcX ws) M:=by
 obtain⟨rs,row,rfl,g,w,r⟩:=h;have hf:=g.few;have hr:=w.few;refine λp hp=>xI rfl ⟨rs.map bZ,("" : Str)::dC,rfl,by rw[Aa];lia,by decide,λq hq t ht ho=>?_,λss aw nd hs=>iK ?_⟩
 .obtain⟨q0,h0,rfl⟩:=Bg.mp hq;rw[vN]at ho;exact zeM g h0 ht ho
 have hsl:ss.length<=4:=len_sub nd hs;have hU:Hu rs ss:=λq hq t ht ho=>aw (bZ q) (Bg.mpr ⟨q,hq,rfl⟩) t ht (by rw[vN];exact ho);have hpl:(eY row.length).length=row.length+1:=K5;refine iW (λi τ M'=>∃(kvs:List (List aK×W)) (o:Option W×Option W×Option W),τ=[some (cM (rs.map bZ)),some (gC row),some (.ref p),o.1,o.2.1,o.2.2]/\M'=put M p (.dT kvs)/\mB row (λt b=>t∈ss.take i/\b∈eY row.length) kvs/\kvs.length<=13*i) ⟨[],(_,_,_),rfl,rfl,⟨λt b z=>by simp at z,λ_ _ _=>rfl⟩,Bz _⟩ ?_ ?_
 .rintro i x τ M' hx ⟨kvs,o,rfl,rfl,st,hl⟩ D hD;rw[Ap]at hx;obtain⟨t,ht,rfl⟩:=Bh.mp hx;have hi:=(Ai.mp ht).1;have hts:=hs t (Bf ht);refine xI rfl ⟨row,rfl,by lia,a9.frz ?_⟩;rw[AB];refine iK (iW (λj τ M'=>∃(kvs:List (List aK×W)) (o:Option W×Option W),τ=[some (cM (rs.map bZ)),some (gC row),some (.ref p),some (.str t),o.1,o.2]/\M'=put M p (.dT kvs)/\mB row (λt' b=>(t'∈ss.take i/\b∈eY row.length)\/(t'=t/\b∈(eY row.length).take j)) kvs/\kvs.length<=13*i+j) ⟨kvs,(_,_),rfl,rfl,st.iff λt b=>by simp,hl⟩ ?_ ?_)
  .rintro j x τ M' hx ⟨kvs,o,rfl,rfl,st,hl⟩ D2 hD2;rw[Ap]at hx;obtain⟨b,hb,rfl⟩:=Bh.mp hx;have hj:=(Ai.mp hb).1;rw[hpl]at hj;obtain⟨b0,b1⟩:=jT.mp (Bf hb);refine xI rfl ⟨row,rfl,by lia,a9.frz ?_⟩;rw[AB];have hfl:∀e∈(eY row.length).filter (λe=>decide (b<=e)),b<=e/\e<=row.length:=λe he=>⟨of_decide_eq_true (Ct.mp he).2,(jT.mp (Ct.mp he).1).2⟩
   refine iK (tS (rest:=[some (.int b)]) (vO b) (fT (by rw[Aa];lia)) (λ_ _=>trivial) (λv hv M' C D' sb h1 h2=>?_) (a9.frz ?_))
   .obtain⟨e,he,rfl⟩:=Bg.mp hv;refine xI rfl (xI rfl (xI rfl (bC (λz=>?_) λz=>?_)))
    .exact xI rfl (h1 _ (if_pos (of_decide_eq_true z)))
    .exact h2 (if_neg (of_decide_eq_false z))
   rw[zeN];have hlf:((eY row.length).filter λe=>decide (b<=e)).length<=13:=Au (He _ _) (by rw[hpl];lia);refine xI rfl (iK (oQ (rest:=[some (gC row),some (.str t),some (.int b)]) (zeO row t b) (fT (by rw[Aa];lia)) (λ_ _=>trivial) (λv hv M' C sb h1=>?_) (a9.frz ?_)))
   .obtain⟨e,he,rfl⟩:=Bg.mp hv;obtain⟨e1,e2⟩:=hfl e he;exact xI rfl (xI rfl (xI rfl (xI rfl (xI rfl ⟨row,t,b,e,rfl,⟨λx hx=>n5 (.inr (w.wd x hx)),by lia,AA hts,b0,e1,e2⟩,z2,h1⟩))))
   rw[Cd];refine xI rfl (xI rfl (xI rfl ⟨z2,oS (k:=eK (t,b)) aY (eO (by lia)) (hD2 _ _ ⟨_,(_,_),rfl,by rw[eW];rfl,(st.put (t0:=t) (b0:=b)).iff λt' b'=>?_,Au (qJ kvs _ _) (by lia)⟩)⟩));rw[lB hb,Bj,Ao];constructor
   .rintro((h|⟨h1,h2⟩)|⟨h1,h2⟩)
    .exact .inl h
    .exact .inr ⟨h1,.inl h2⟩
    .exact .inr ⟨h1,.inr h2⟩
   .rintro(h|⟨h1,h2|h2⟩)
    .exact .inl (.inl h)
    .exact .inl (.inr ⟨h1,h2⟩)
    .exact .inr ⟨h1,h2⟩
  .rintro τ M' ⟨kvs,o,rfl,rfl,st,hl⟩;rw[Aa,Ck]at st;rw[Aa,hpl]at hl;refine hD _ _ ⟨kvs,(_,_,_),rfl,rfl,st.iff λt' b=>?_,by lia⟩;rw[lB ht,Bj,Ao];constructor
   .rintro(⟨h1,h2⟩|⟨h1,h2⟩)
    .exact⟨.inl h1,h2⟩
    .exact⟨.inr h1,h2⟩
   .rintro⟨h1|h1,h2⟩
    .exact .inl ⟨h1,h2⟩
    .exact .inr ⟨h1,h2⟩
 .rintro τ M' ⟨kvs,o,rfl,rfl,st,hl⟩;rw[Aa,Ck]at st;exact xI rfl ⟨_,Sub.refl _,r ss kvs hU hs hsl st p hp⟩
theorem zeQ{rs:List a7}{row U:List Str}(g:d3 rs):qN (cH rs row U) (eY row.length) (rs.map bZ).length 4:=by
 refine⟨λp h=>h,λt p e c h1 h2=>?_,An _,λr hr=>?_⟩
 .obtain⟨_,h3,h4,h5,_⟩:=m7.mp h2;exact jT.mpr ⟨Ft h3 h4,h5⟩
 .obtain⟨r0,h0,rfl⟩:=Bg.mp hr;have:=zC g h0;lia
theorem zeR{C:Cc}{ws:List W}{M:Mm}{R:K3}(h:LG C ws M R):zc4 C (bR R) (bU zc3 ws) M:=by
 obtain⟨rs,row,rfl,g,w,r⟩:=h;have hf:=g.few;have hr:=w.few;refine xI rfl ⟨rs,rfl,g,xI rfl (xI rfl ⟨row,rfl,by lia,a9.frz (xI rfl (xI rfl ⟨rs,row,rfl,g,w,λU kvs hU hs hl st=>lN.frz (xI rfl ⟨rs,rfl,by lia,a9.frz ?_⟩)⟩))⟩)⟩;rw[AB];have hpl:(eY row.length).length=row.length+1:=K5;have hst:∀t p,(mZ U row t p).length<=13:=λt p=>by
  unfold mZ;split
  .rw[Aa];exact Au (He _ _) (by rw[hpl];lia)
  .exact Bz _
 refine⟨cH rs row U,⟨rs.map bZ,ownOf (rs.map bZ),kvs⟩,eY row.length,4,13,?_,by show(rs.map bZ).length<=100;rw[Aa];lia,rfl,⟨rfl,λt=>(u5 (rs.map bZ) t).trans vN,λt p=>?_⟩,za4,zeQ g,by decide,by show(eY row.length).length<=1000;lia,hst,?_,λB hB=>zbk (r U B hU hs hB)⟩
 .show [_,_,_,_]=[_,_,_,_];congr 4;show W.rl (rs.map (λ_=>W.int 0))=W.rl ((Cv (rs.map bZ).length).map λn=>W.int 0);rw[List.map_const',List.map_const',Gh,Aa]
 .by_cases z:t∈U/\p∈eY row.length
  .refine .inr ((st.hit t p z).trans ?_);show some (pH row t p)=some (.rl ((mZ U row t p).map λz=>.tup [.int z.1,.int z.2]));unfold mZ pH;rw[if_pos z,Cd];rfl
  .exact .inl ⟨st.non t p z,if_neg z⟩
 .have e1:(kA (cH rs row U)).length=(rs.map bZ).length*(eY row.length).length:=y0 (cH rs row U) (rs.map bZ).length;rw[e1,hpl];show(rs.map bZ).length*(row.length+1)+(rs.map bZ).length*((4+1)*((row.length+1)*(row.length+1)))*(13+(row.length+1))+(rs.map bZ).length*((4+1)*((row.length+1)*(row.length+1)))+(row.length+1)+13+1<10000000;rw[Aa];have a1:rs.length*(row.length+1)<=9*13:=Lx hf (by lia);have a2:(row.length+1)*(row.length+1)<=13*13:=Lx (by lia) (by lia);have a3:rs.length*((4+1)*((row.length+1)*(row.length+1)))<=9*(5*(13*13)):=Lx hf (Nat.mul_le_mul_left _ a2);have a4:=Lx a3 (show 13+(row.length+1)<=26 by lia);lia
end M47
namespace M69
open PySem Spec PyProof.Rows L2 L3 Rg
theorem AD{O J:Type}{P:O->J->Prop}:∀{l:List O} {l':List J},l.length=l'.length->(∀(k:Nat) a b,l[k]? = some a->l'[k]? = some b->P a b)->Gj P l l'
 | [],[],_,_=>.nil
 | [],_::_,h,_=>nomatch h
 | _::_,[],h,_=>nomatch h
 | a::l,b::l',h,k=>.cons (k 0 a b rfl rfl) (AD (Nat.succ.inj h) λi x y hx hy=>k (i+1) x y hx hy)
end M69
namespace M47
open PySem Spec PyProof.Rows L2 L3 Rg
open M69 (AD rJ zS zT)
structure zeS(Vl:Addr->bD->W->Mm->Prop)(M0 M:Mm)(p:Addr)(A:List (bD×W)):Prop where
 sub:L3.Sub M0 M
 new:M0 p=none
 at_:M p=some (.dT (eM fK (λw=>w) A))
 inn:∀x∈A,Vl p x.1 x.2 M
abbrev wz(rs:List a7)(B:bM)(aN:bD)(fi gi:W)(p:Addr)(l:S3):S3:=some (cM rs)::some (m9 B)::some (eU aN)::some fi::some gi::some (.dk (ownOf rs))::some (.ref p)::l
def zeT(G:Sr)(Vl:bD->W->Prop)(fw:Str->Int->Int->W)(cut:List Int)(ps:List Str)(kids:List W):Prop:=kids.length=ps.length/\∀k t,ps[k]? = some t->∃y,kids[k]? = some y/\(G.own t=true->Vl (t,cut.getD k 0,cut.getD (k+1) 0) y)/\(G.own t=false->y=fw t (cut.getD k 0) (cut.getD (k+1) 0))
theorem LY{cw cr:aZ}{G:Sr}{B:bM}{aN:bD}{fi gi:W}{M:Mm}{R:K3}{Vl:Addr->bD->W->Mm->Prop}{fw:Str->Int->Int->W}{ok:bD->Bool}(w:Wb G B)(ht:aN∈B.map (·.1))(kt:ok aN=true)(kc:rG G B ok)(stV:∀p f w M1 M2,Vl p f w M1->(∀a o,a≠p->M a=none->M1 a=some o->M2 a=some o)->Vl p f w M2)(hw:∀p (o7 o8 o10:Option W) (t:Str) (k:Nat) (cut:List Int) (M1:Mm) (Q:K3),k+1<cut.length->L3.Sub M M1->(∃pr,(cut.getD (k+1) 0,pr)∈G.steps t (cut.getD k 0))->Q (fw t (cut.getD k 0) (cut.getD (k+1) 0)) M1->cw (wz G.rs B aN fi gi p [o7,o8,some (gB cut),o10,some (.int (k:Int)),some (.str t)]) M1 Q)(hr:∀p q (pre post:bM) (f:bD) (v:aJ×Nat×List Int) (ru:a7) (kids:List W) (M1:Mm) (Q:K3) (o7 o9 o11 o12:Option W),M p=none->B=pre++(f,v)::post->lY G pre (f,v) ru->ok f=true->M1 q=none->ru.parts.length<=100->(∀a o,M a=some o->M1 a=some o)->(∃o,M1 p=some o)->zeT G (λf w=>Vl p f w M1) fw v.2.2 ru.parts kids->
   (∀y M2,(∀a o,M1 a=some o->M2 a=some o)->Vl p f y M2->Q y M2)->cr (wz G.rs B aN fi gi p [o7,some (.int v.2.1),o9,some (.ref q),o11,o12]) (put M1 q (.lst kids)) Q)(r:∀p y M',M p=none->L3.Sub M M'->Vl p aN y M'->(bR R).rt y M'):zY cw cr (bR R) (bU zX [cM G.rs,m9 B,eU aN,fi,gi]) M:=by
 have hown:G.own=cN G.rs:=funext w.own;have nd:=KZ w.ord;refine xI rfl ⟨G.rs,rfl,(Au w.few (by decide)),a9.frz ⟨namesOf G.rs,rfl,KG w.few,λp hp=>xI rfl (xI rfl (xI rfl ⟨G,B,aN,rfl,w,ht,λP hP hcl hmin=>a9.frz (iK ?_)⟩))⟩⟩;obtain⟨F,hF⟩:∃F,F=(B.map (·.1)).filter P:=⟨_,rfl⟩;rw[<-hF];have ndF:F.Nodup:=by rw[hF];exact nd.filter _
 have lF:F.length<=1000:=Au (by rw[hF];exact He _ _) (by rw[Aa];exact w.bl);refine iW (λj τ M'=>∃(A:List (bD×W)) (o:Option W×Option W×Option W×Option W×Option W×Option W),τ=wz G.rs B aN fi gi p [o.1,o.2.1,o.2.2.1,o.2.2.2.1,o.2.2.2.2.1,o.2.2.2.2.2]/\zeS Vl M M' p A/\A.map (·.1)=F.take j) ⟨[],(_,_,_,_,_,_),rfl,⟨Sub.new hp,hp,aY,λ_ h=>nomatch h⟩,rfl⟩ ?_ ?_
 .rintro j x τ M' hx ⟨A,o,rfl,md,hA⟩ D1 hD1;rw[Ap]at hx;obtain⟨f,hf,rfl⟩:=Bh.mp hx;have hfm2:=Bf hf;rw[hF]at hfm2;obtain⟨hfB,hfP⟩:=Ct.mp hfm2;obtain⟨v,hv,lv⟩:=KH hfB;obtain⟨pre,post,sp⟩:=j9 hv;obtain⟨ru,E⟩:=w.ord pre _ post sp;obtain⟨ru',h1,h2⟩:=qY (rs:=G.rs) (n:=v.2.1) (Ai.mp E.ru).1;cases (show some ru'=some ru from h1.symm.trans E.ru);have hpl:=w.pl ru (Bf h1);have hcutl:ru.parts.length+1<=v.2.2.length:=E.ln;have htk:F.take j=(pre.map (·.1)).filter P:=zcj ndF (by rw[hF,sp,Bb,Bd,List.filter_append,Dw,if_pos hfP]) hf;have hpf:∀k t,ru.parts[k]? = some t->G.own t=true->∃b,aH A (t,v.2.2.getD k 0,v.2.2.getD (k+1) 0)=some b:=λk t hk ho=>by
   have hg:(t,v.2.2.getD k 0,v.2.2.getD (k+1) 0)∈l9 G.own ru.parts v.2.2:=Im.mpr ⟨(t,k),Gx.mpr hk,by rw[if_pos ho]⟩;refine Dh.mp (iL.mpr ?_);rw[hA,htk];refine Ct.mpr ⟨KI E hg,hcl (f,v) (by rw[sp];simp) hfP _ ?_⟩;rw[vD E];exact hg
  have hnf:aH A f=none:=by
   rw[<-Option.not_isSome_iff_eq_none,iL,hA,htk];intro z;have:=(Ct.mp z).1;rw[<-iL,E.no]at this;cases this
  refine xI rfl (xI rfl ⟨_,⟨fK f,rfl,lv.symm⟩,xI rfl (xI rfl (xI rfl ⟨_,⟨fK f,rfl,lv.symm⟩,xI rfl ⟨Bz _,λq hq=>?_⟩⟩))⟩);have hM2:∀{X:MO} {a:Addr} {o:MO},M' a=some o->put M' q X a=some o:=λ{X a o} e=>by rw[aW (λz=>by rw[z,hq]at e;cases e)];exact e
  obtain⟨kids,hk⟩:∃kids:List W,kids=ru.parts.zipIdx.map λx=>if G.own x.1=true then(aH A (x.1,v.2.2.getD x.2 0,v.2.2.getD (x.2+1) 0)).getD .non else fw x.1 (v.2.2.getD x.2 0) (v.2.2.getD (x.2+1) 0):=⟨_,rfl⟩;have hkl:kids.length=ru.parts.length:=by rw[hk,Aa,List.length_zipIdx]
  have hka:∀k t,ru.parts[k]? = some t->kids[k]? = some (if G.own t=true then(aH A (t,v.2.2.getD k 0,v.2.2.getD (k+1) 0)).getD .non else fw t (v.2.2.getD k 0) (v.2.2.getD (k+1) 0)):=λk t ht=>by
   rw[hk,Ap,Jt,ht,Fi];rfl
  refine xI rfl (xI rfl ⟨_,h2,xI rfl (xI rfl ?_)⟩);refine iW (λk τ M2=>∃o11 o12,τ=wz G.rs B aN fi gi p [some (eU f),some (.int v.2.1),some (gB v.2.2),some (.ref q),o11,o12]/\M2=put M' q (.lst (kids.take k))) ⟨_,xI rfl rfl⟩ ?_ ?_
  .rintro k x τ M2 hx ⟨o11,o12,rfl,rfl⟩ D2 hD2;rw[xY,Ap]at hx;cases hs:ru.parts[k]? with
   | none=>rw[hs]at hx;cases hx
   | some t=>
    rw[hs]at hx;cases hx;have hk1:=(Ai.mp hs).1;have ho:(bJ (ownOf G.rs) (Sum.inr t:aK)).isSome=G.own t:=by rw[hown];exact u5 G.rs t
    have lk:(kids.take k).length<Am:=eO (by rw[Bp];lia);have fin:∀y,kids[k]? = some y->put (put M' q (.lst (kids.take k))) q (.lst (kids.take k++[y]))=put M' q (.lst (kids.take (k+1))):=λy hy=>by rw[eW,Fl,hy];rfl
    refine⟨rfl,rfl,xI rfl (xI rfl ⟨_,⟨Sum.inr t,rfl,rfl⟩,xI rfl (bC (λz=>?_) λz=>?_)⟩)⟩
    .have z:=ho.symm.trans z;have c1:cJ (v.2.2.map W.int) ((0+k:Nat):Int)=some (.int (v.2.2.getD k 0)):=by rw[Fi];exact nA (by lia)
     have c2:cJ (v.2.2.map W.int) (((0+k:Nat):Int)+1)=some (.int (v.2.2.getD (k+1) 0)):=by rw[Fi];exact nA (k:=k+1) (by lia)
     obtain⟨b,hb⟩:=hpf k t hs z;exact xI rfl ⟨eT aY,xI rfl (xI rfl (xI rfl (xI rfl ⟨_,c1,xI rfl (xI rfl ⟨_,c2,z3,nW (k:=fK (t,v.2.2.getD k 0,v.2.2.getD (k+1) 0)) (hM2 md.at_) (by rw[kD lE,hb];rfl) ⟨_,aY,lk,hD2 _ _ ⟨_,xI rfl (fin _ (by rw[hka k t hs,if_pos z,hb];rfl))⟩⟩⟩)⟩)))⟩
    .have z:=ho.symm.trans z;refine xI rfl ⟨eT aY,hw p _ _ _ t (0+k) v.2.2 _ _ (by lia) (λa o e=>hM2 (md.sub a o e)) (by rw[Fi];exact E.pw k t hs z) ⟨_,aY,lk,hD2 _ _ ⟨_,xI rfl (fin _ ?_)⟩⟩⟩;rw[hka k t hs,if_neg (ne_true_of_eq_false z),Fi]
  .rintro τ M2 ⟨o11,o12,rfl,rfl⟩;rw[qF,Aa,<-hkl,Ck];refine hr p q pre post f v ru kids M' _ _ _ _ _ hp sp E (hmin ok kt kc f hfP) hq hpl md.sub ⟨_,md.at_⟩ ⟨hkl,λk t hs=>⟨_,hka k t hs,λz=>?_,λz=>by rw[if_neg (ne_true_of_eq_false z)]⟩⟩ λy M2 s2 vy=>?_
   .obtain⟨b,hb⟩:=hpf k t hs z;rw[if_pos z,hb];exact md.inn _ (K0 hb)
   .refine xI rfl (xI rfl (oS (k:=fK f) (s2 _ _ md.at_) (eO (by rw[Aa,<-Aa (f:=Dz),hA,Bp];lia)) (hD1 _ _ ⟨c8 A f y,(_,_,_,_,_,_),rfl,⟨gV (md.sub.trans s2) md.new,md.new,?_,λx hx=>?_⟩,?_⟩)))
    .rw[aY,yU (f:=λw=>w) lE]
    .rcases zcu hx with rfl|⟨hx,_⟩
     .exact stV _ _ _ _ _ vy λa o n _ e=>by rw[aW n];exact e
     .exact stV _ _ _ _ _ (md.inn x hx) λa o n _ e=>by rw[aW n];exact s2 a o e
    .rw[uK hnf,Bb,hA,Fl,hf];rfl
 .rintro τ M' ⟨A,o,rfl,md,hA⟩;rw[Aa,Ck]at hA;obtain⟨b,hb⟩:=Dh.mp (iL.mpr (show aN∈A.map (·.1) by rw[hA,hF];exact Ct.mpr ⟨ht,hP⟩));exact xI rfl (xI rfl (nW (k:=fK aN) md.at_ (by rw[kD lE,hb];rfl) (r p b M' hp md.sub (md.inn _ (K0 hb)))))
theorem zeU{C:Cc}{ws:List W}{M:Mm}{R:K3}(h:LH C ws M R):zda C (bR R) (bU zX ws) M:=by
 obtain⟨G,B,aN,rfl,w,ht,r⟩:=h;have c1:∀{k:Nat} {cut:List Int},k+1<cut.length->cJ (cut.map W.int) (k:Int)=some (.int (cut.getD k 0)):=λh=>nA (by lia);have c2:∀{k:Nat} {cut:List Int},k+1<cut.length->cJ (cut.map W.int) ((k:Int)+1)=some (.int (cut.getD (k+1) 0)):=λ{k cut} h=>nA (k:=k+1) h;refine LY (Vl:=λ_ f w _=>w=l0 G B f) (fw:=λt _ _=>.str t) (ok:=λ_=>true) w ht rfl (λ_ _ _ _ _=>rfl) (λ_ _ _ _ _ h _=>h) (λp o7 o8 o10 t k cut M1 Q hk _ _ hQ=>⟨rfl,xI rfl (xI rfl (xI rfl ⟨_,c1 hk,xI rfl (xI rfl ⟨_,c2 hk,t,_,xI rfl hQ⟩)⟩))⟩) (λp q pre post f v ru kids M1 Q o7 o9 o11 o12 hp sp E ok hq hpl sb hpp kid hQ=>?_) λp y M' hp sb e=>⟨M,sb,by rw[e];exact r⟩
 refine⟨rfl,xI rfl (xI rfl (.inl ⟨_,aY,?_⟩))⟩;rw[mM hq];refine⟨v.2.1,kids,rfl,hQ _ _ (λ_ _ h=>h) ?_⟩;refine Eq.trans ?_ (uU sp E).symm;show W.tup [_,.tup kids]=.tup [_,.tup _];congr 3;show W.tup _=W.tup _;congr 1;apply List.ext_getElem?;intro k;cases hs:ru.parts[k]? with
 | none=>
  have:=Kl.mp hs;rw[Jh (by rw[kid.1];exact this),Jh (by unfold lZ;simp;exact this)]
 | some t=>
  obtain⟨y,h1,h2,h3⟩:=kid.2 k t hs;rw[h1];unfold lZ;rw[Ap,Jt,hs,Fi];show some y=some (if G.own t=true then _ else _)
  by_cases ho:G.own t=true
  .rw[if_pos ho,h2 ho]
  .rw[if_neg ho,h3 (Bool.eq_false_iff.mpr ho)]
theorem zeV{C:Cc}{ws:List W}{M:Mm}{R:K3}(h:LI C ws M R):zdd C (bR R) (bU zdc ws) M:=by
 obtain⟨G,B,aN,rfl,w,ht,r⟩:=h;exact xI rfl (xI rfl (xI rfl ⟨G,B,aN,rfl,w,ht,_,Sub.refl _,r⟩))
theorem zeW{C:Cc}{cy:Addr}{v:V}{ws:List W}{M:Mm}{R:K3}(h:zV C cy v ws M R):zdb C cy v (bR R) (bU zX ws) M:=by
 obtain⟨rs,row,U,B,aN,f,rfl,w,ht,mf,rw_,hU,hy,r⟩:=h;obtain⟨G,hG⟩:∃G,G=cH rs row U:=⟨_,rfl⟩;have c1:∀{k:Nat} {cut:List Int},k+1<cut.length->cJ (cut.map W.int) (k:Int)=some (.int (cut.getD k 0)):=λh=>nA (by lia);have c2:∀{k:Nat} {cut:List Int},k+1<cut.length->cJ (cut.map W.int) ((k:Int)+1)=some (.int (cut.getD (k+1) 0)):=λ{k cut} h=>nA (k:=k+1) h;have hst:∀t b e c,(e,c)∈G.steps t b->vJ row t b e:=λt b e c h=>by
  rw[hG]at h;obtain⟨h1,h2,h3,h4,_⟩:=m7.mp h;exact⟨λx hx=>n5 (.inr (rw_.wd x hx)),Au rw_.few (by decide),AA (hU t h1),h2,h3,h4⟩
 rw[show rs.map bZ=G.rs by rw[hG];rfl];rw[<-hG]at w hy r;refine LY (Vl:=λp f w M1=>∃a,w=.ref a/\a≠p/\M a=none/\M1 a=some (.lst ((gL row (yT G B f)).map jV))) (fw:=λt b e=>.rl ((pC row t b e).map jV)) (ok:=λf=>decide ((gL row (yT G B f)).length<=200000)) w ht (decide_eq_true hy) (λe he ho f hf=>decide_eq_true (Au (zb2 w.ord he hf) (of_decide_eq_true ho)))
  (λp f w M1 M2 ⟨a,h1,h2,h3,h4⟩ k=>⟨a,h1,h2,h3,k a _ h2 h3 h4⟩) (λp o7 o8 o10 t k cut M1 Q hk sb ⟨pr,hp⟩ hQ=>⟨f,_,rfl,sb _ _ mf,xI rfl (xI rfl (xI rfl ⟨_,c1 hk,xI rfl (xI rfl ⟨_,c2 hk,_,_,_,_,rfl,sb _ _ mf,xI rfl (xI rfl (xI rfl (xI rfl ⟨row,t,_,_,rfl,hst _ _ _ _ hp,hQ⟩)))⟩)⟩))⟩)
  (λp q pre post f v ru kids M1 Q o7 o9 o11 o12 hp sp E ok hq hpl sb hpp kid hQ=>?_) λp y M' hp sb ⟨a,h1,h2,h3,h4⟩=>⟨_,Sub.refl _,by rw[h1];exact r a M' h3 sb h4⟩
 obtain⟨xss,hxs⟩:∃xss:List (List W),xss=ru.parts.zipIdx.map λx=>(gL row (if G.own x.1=true then yT G B (x.1,v.2.2.getD x.2 0,v.2.2.getD (x.2+1) 0) else [(x.1,v.2.2.getD x.2 0,v.2.2.getD (x.2+1) 0)])).map jV:=⟨_,rfl⟩;have ey:xss.flatten=(gL row (yT G B f)).map jV:=by
  rw[hxs,rB sp E,lI,KO,List.map_flatten,Cd,Cd];rfl
 have pa:Gj (rJ M1) kids xss:=AD (by rw[kid.1,hxs];simp) λk a b ha hb=>by
  have hk:k<ru.parts.length:=by rw[<-kid.1];exact(Ai.mp ha).1
  have ht:=Ak hk;obtain⟨y,h1,h2,h3⟩:=kid.2 k _ ht;rw[ha]at h1;cases h1;rw[hxs,Ap,Jt,ht,Fi]at hb;have hb:=Cj hb;rw[<-hb];show rJ M1 a (Jb jV (gL row (if G.own ru.parts[k]=true then yT G B (ru.parts[k],v.2.2.getD k 0,v.2.2.getD (k+1) 0) else [(ru.parts[k],v.2.2.getD k 0,v.2.2.getD (k+1) 0)])))
  by_cases ho:G.own ru.parts[k]=true
  .rw[if_pos ho];obtain⟨c,e1,_,_,e4⟩:=h2 ho;exact .inr ⟨c,e1,e4⟩
  .rw[if_neg ho];refine .inl ((h3 (Bool.eq_false_iff.mpr ho)).trans ?_);unfold gL;simp
 refine⟨rfl,xI rfl (xI rfl (.inl ⟨_,aY,?_⟩))⟩;rw[mM hq];refine⟨v.2.1,kids,xss,rfl,by rw[kid.1];lia,pa,by rw[ey,Aa];exact Au (of_decide_eq_true ok) (by decide),λb hb=>?_⟩;rw[ey];obtain⟨o,eo⟩:=hpp;exact hQ (.ref b) _ (Sub.new hb) ⟨b,rfl,(λe=>by rw[e,eo]at hb;cases hb),Sub.non sb hb,aY⟩
section
variable {rs:List a7}{row U:List Str}{B:bM}
theorem zeX(g:d3 rs)(w:jC row)(hB:fG (cH rs row U) B):Wb (cH rs row U) B:=
 ⟨λ_=>vN.symm,by show(rs.map bZ).length<=100;rw[Aa];exact Au g.few (by decide),uR hB,Au (KN g w hB) (by decide),λr hr=>by
  obtain⟨r0,h0,rfl⟩:=Bg.mp hr;exact Au (zC g h0) (by decide)⟩
theorem zeY(g:d3 rs)(w:jC row)(hB:fG (cH rs row U) B):Wb (kF rs row U) B:=
 ⟨λ_=>rfl,Au g.few (by decide),zbW hB,Au (KN g w hB) (by decide),λr hr=>Au (g.fp r hr) (by decide)⟩
theorem zeZ:dH row 0 (row.length:Int)=row:=by
 unfold dH;rw[Dg,Ck];rfl
theorem LZ(hB:fG (cH rs row U) B){X:Str}{x:aJ×Nat×List Int}(hx:aH B (X,0,(row.length:Int))=some x):Gn (gL row (yT (cH rs row U) B (X,0,(row.length:Int)))) row (jU (yT (cH rs row U) B (X,0,(row.length:Int)))) x.1.1:=by
 obtain⟨h1,h2⟩:=JP hB hx;have:=JO (row:=row) h1;rw[<-h2]at this;rw[show dH row (X,(0:Int),(row.length:Int)).2.1 (X,(0:Int),(row.length:Int)).2.2=row from zeZ]at this;exact this
theorem L0(g:d3 rs)(w:jC row)(hU:Hu rs U)(hB:fG (cH rs row U) B){X:Str}{x:aJ×Nat×List Int}(hx:aH B (X,0,(row.length:Int))=some x):(gL row (yT (cH rs row U) B (X,0,(row.length:Int)))).length<=200000:=by
 obtain⟨x',h1,h2⟩:=J0 g w hU hB ((zD g w hU hB).mpr ⟨x,hx⟩);rw[hx]at h1;cases h1;have:=zb1 (LZ hB hx);have:=w.few;lia
end
theorem ze0{C:Cc}{cy:Addr}{ws:List W}{M:Mm}{R:K3}(h:LJ C ws M R):zdk C cy (bR R) (bU zde ws) M:=by
 obtain⟨q,rs,row,rfl,g,w,mt,r⟩:=h;refine xI rfl (xI rfl ⟨q::rs,row,rfl,g,w,λU B hU hs hB p hp=>⟨p,rfl,.inr ⟨_,aY,?_⟩⟩⟩);rw[mM hp];obtain⟨r1,r2⟩:=r U B hU hs hB;have hnd:=KZ (uR hB);refine xI rfl (xI rfl ⟨q,rs,row,rfl,xI rfl (xI rfl ?_)⟩);refine⟨_,⟨fK (fZ q row),rfl,rfl⟩,xI rfl (bC (λz=>?_) λz=>?_)⟩
 .refine⟨_,Sub.refl _,r1 ?_⟩;have z:(!(bJ (eM fK fX B) (fK (fZ q row))).isSome)=true:=z;rw[kD lE]at z;cases hx:aH B (fZ q row) with
  | none=>rfl
  | some x=>rw[hx]at z;cases z
 .obtain⟨x,hx,lx⟩:∃x,aH B (fZ q row)=some x/\bJ (eM fK fX B) (fK (fZ q row))=some (fX x):=by
   have z:(!(bJ (eM fK fX B) (fK (fZ q row))).isSome)=false:=z;rw[kD lE]at z;cases hx:aH B (fZ q row) with
   | none=>rw[hx]at z;cases z
   | some x=>exact⟨x,rfl,by rw[kD lE,hx];rfl⟩
  have ht:fZ q row∈B.map (·.1):=iL.mp (by rw[hx];rfl);refine xI rfl ⟨q::rs,rfl,g,xI rfl (xI rfl ⟨mt,λf nf=>⟨f,jE,.non,.non,gC row,rfl,aY,λv=>?_⟩⟩)⟩;rw[eW];refine⟨q::rs,row,U,B,fZ q row,f,rfl,zeX g w hB,ht,aY,w,hs,L0 g w hU hB hx,λp1 M1 n1 sb m1=>?_⟩;have hpf:p1≠f:=λe=>by rw[e,aY]at n1;cases n1
  rw[aW hpf]at n1;refine xI rfl (xI rfl ⟨_,⟨fK (fZ q row),rfl,lx.symm⟩,xI rfl (xI rfl (xI rfl (xI rfl (xI rfl (xI rfl ⟨kF (q::rs) row U,B,fZ q row,rfl,zeY g w hB,ht,z3,_,Sub.refl _,r2 x hx p1 _ n1 (λa o e=>?_) ?_⟩)))))⟩)
  .have haf:a≠f:=λz=>by rw[z,nf]at e;cases e
   rw[oG haf];exact sb a o (by rw[aW haf];exact e)
  .rw[oG hpf];exact m1
theorem L1{S:List gW}{r w:List Str}{n:Int}(h:Gn S r w n):∀s∈S,(∃t:Str,s=[("keep" : Str),t])\/(∃t:Str,s=[("drop" : Str),t])\/(∃t:Str,s=[("put" : Str),t])\/∃x t:Str,s=[("swap" : Str),x,t]:=by
 induction h with
 | nil=>exact λs hs=>nomatch hs
 | keep _ ih=>exact λs hs=>(Ar.mp hs).elim (λe=>.inl ⟨_,e⟩) (ih s)
 | drop _ ih=>exact λs hs=>(Ar.mp hs).elim (λe=>.inr (.inl ⟨_,e⟩)) (ih s)
 | put _ ih=>exact λs hs=>(Ar.mp hs).elim (λe=>.inr (.inr (.inl ⟨_,e⟩))) (ih s)
 | swap _ ih=>exact λs hs=>(Ar.mp hs).elim (λe=>.inr (.inr (.inr ⟨_,_,e⟩))) (ih s)
def fM:W->Option W
 | .tup (.str k::ws)=>if k = "drop" then none else ws.getLast?
 | _=>none
def fI:W->Option W
 | .tup (.str k::ws)=>if k = "put" then none else ws.head?
 | _=>none
theorem ze1{S:List gW}{r w:List Str}{n:Int}(h:Gn S r w n):(S.map jV).filterMap fM=w.map W.str:=by
 induction h with
 | nil=>rfl
 | keep _ ih=>exact congrArg (_::·) ih
 | drop _ ih=>exact ih
 | put _ ih=>exact congrArg (_::·) ih
 | swap _ ih=>exact congrArg (_::·) ih
theorem ze2{S:List gW}{r w:List Str}{n:Int}(h:Gn S r w n):(S.map jV).filterMap fI=r.map W.str:=by
 induction h with
 | nil=>rfl
 | keep _ ih=>exact congrArg (_::·) ih
 | drop _ ih=>exact congrArg (_::·) ih
 | put _ ih=>exact ih
 | swap _ ih=>exact congrArg (_::·) ih
theorem ze3{ws:List W}{M:Mm}{R:K3}(h:LK ws M R):zdm (bR R) (bU zdl ws) M:=by
 obtain⟨p,S,r,w,n,rfl,s,R'⟩:=h;have hf:=s.few;refine xI rfl ⟨_,s.at_,tS (rest:=[]) fM (fT (by rw[Aa];lia)) (λM' sb=>sb _ _ s.at_) (λv hv M3 C D sb h1 h2=>?_) ?_⟩
 .obtain⟨x,hx,rfl⟩:=Bg.mp hv;rcases L1 s.gn x hx with⟨t,rfl⟩|⟨t,rfl⟩|⟨t,rfl⟩|⟨x,t,rfl⟩
  .exact xI rfl (xI rfl (xI rfl (bC (λ_=>xI rfl (xI rfl (h1 _ rfl))) λz=>absurd z (by decide))))
  .exact xI rfl (xI rfl (xI rfl (bC (λz=>absurd z (by decide)) λ_=>h2 rfl)))
  .exact xI rfl (xI rfl (xI rfl (bC (λ_=>xI rfl (xI rfl (h1 _ rfl))) λz=>absurd z (by decide))))
  .exact xI rfl (xI rfl (xI rfl (bC (λ_=>xI rfl (xI rfl (h1 _ rfl))) λz=>absurd z (by decide))))
 .rw[ze1 s.gn];exact λp hp=>⟨_,Sub.refl _,R' p hp⟩
theorem ze4{ws:List W}{M:Mm}{R:K3}(h:LL ws M R):zdo (bR R) (bU zdn ws) M:=by
 obtain⟨p,S,r,w,n,rfl,s,R'⟩:=h;have hf:=s.few;refine xI rfl ⟨_,s.at_,tS (rest:=[]) fI (fT (by rw[Aa];lia)) (λM' sb=>sb _ _ s.at_) (λv hv M3 C D sb h1 h2=>?_) (a9.frz ?_)⟩
 .obtain⟨x,hx,rfl⟩:=Bg.mp hv;rcases L1 s.gn x hx with⟨t,rfl⟩|⟨t,rfl⟩|⟨t,rfl⟩|⟨x,t,rfl⟩
  .exact xI rfl (xI rfl (xI rfl (bC (λ_=>xI rfl (xI rfl (h1 _ rfl))) λz=>absurd z (by decide))))
  .exact xI rfl (xI rfl (xI rfl (bC (λ_=>xI rfl (xI rfl (h1 _ rfl))) λz=>absurd z (by decide))))
  .exact xI rfl (xI rfl (xI rfl (bC (λz=>absurd z (by decide)) λ_=>h2 rfl)))
  .exact xI rfl (xI rfl (xI rfl (bC (λ_=>xI rfl (xI rfl (h1 _ rfl))) λz=>absurd z (by decide))))
 .rw[ze2 s.gn];exact xI rfl (tQ (neg:=false) 1 (by decide) (vI s.rk) rfl ⟨_,Sub.refl _,R'⟩)
theorem ze5{ws:List W}{M:Mm}{R:K3}(h:vM ws M R):zdY (bR R) (bU zdX ws) M:=by
 obtain⟨t,rfl,ht,r⟩:=h;exact xI rfl ⟨z8,zZ (ts:=eJ) ⟨_,Sub.refl _,r⟩⟩
theorem ze6{ws:List W}{M:Mm}{R:K3}(h:vK ws M R):zdq (bR R) (bU zdp ws) M:=by
 obtain⟨zs,k,rfl,hl,hk,r⟩:=h;refine xI rfl (xI rfl (xI rfl (bC (λz=>?_) λ_=>⟨_,Sub.refl _,r 0⟩)));have z:=of_decide_eq_true z;obtain⟨j,rfl⟩:=Dr hk;rw[Aa]at z;have hj:j<zs.length:=by lia
 exact xI rfl (xI rfl ⟨_,J3 (Ak hj),_,Sub.refl _,r _⟩)
theorem vP{ts:List Str}(hs:∀t∈ts,gK t){M:Mm}{R:K3}(h:R (.bl (decide (ts=[]))) M):rEq false (.rl (ts.map W.str)) (.rl []) M R:=by
 have p1:Pl 1 (.rl (ts.map W.str)):=vI hs;have p2:Pl 1 (.rl []):=λw hw=>nomatch hw;obtain⟨d1,s1,c1,k1⟩:=qD (M:=M) p1;obtain⟨d2,s2,c2,k2⟩:=qD (M:=M) p2;refine⟨d1,d2,s1,s2,⟨c1,Au k1 (by decide)⟩,⟨c2,Au k2 (by decide)⟩,?_⟩;have:Ij d1 d2=decide (ts=[]):=by
  rw[Du,xV p1 p2 s1 s2,decide_eq_true_eq];refine⟨λe=>?_,λe=>by rw[e];rfl⟩;cases ts with
  | nil=>rfl
  | cons t ts=>cases e
 rw[this];exact h
theorem ze7{ws:List W}{keep:Mm->Prop}{g:e6}{tb:aG}{D:D3}{τ:S3}{M:Mm}(Pv:Nat->S3->Mm->Prop)(h0:Pv 0 τ M)(hk:∀i τ M,Pv i τ M->keep M)(hs:∀i w τ M,ws[i]? = some w->Pv i τ M->∀D':D3,(∀τ M,Pv (i+1) τ M->D'.nx τ M)->g w τ M λτ2 M2=>tb D' τ2 M2)(hd:∀τ M,Pv ws.length τ M->D.nx τ M):qA ws keep g tb D τ M:=nO Pv h0 (λi τ M _ p=>hk i τ M p) (λi w τ M e p=>hs i w τ M e p _ λ_ M z=>⟨M,Sub.refl _,z⟩) hd
theorem ze8{ws:List W}{M:Mm}{R:K3}(h:LQ ws M R):zep (bR R) (bU zei ws) M:=by
 obtain⟨p,S,r,w,n,rfl,s,R'⟩:=h;have hf:=s.few;have hrf:=s.rf;refine xI rfl ⟨z0,λq hq=>xI rfl ⟨_,Sub.new hq _ _ s.at_,?_⟩⟩;have hqp:p≠q:=λe=>by have:=s.at_;rw[e,hq]at this;cases this
 have hK4:∀{k:Str},k∈[("keep" : Str),"drop","put","swap"]->inW (.str k) ([("keep" : Str),"drop","put","swap"].map W.str)=true:=λh=>by rw[nX];exact decide_eq_true h
 refine ze7 (λi τ M'=>∃(left w1 w2:List Str) (m m2:Int) (o:Option W),τ=[some (.ref p),some (gC r),some (.rl (left.map W.str)),some (.ref q),some (.int m),o]/\M'=put M q (.lst (w1.map W.str))/\Gn (S.drop i) left w2 m2/\w1++w2=w/\m+m2=n/\w1.length<=i/\∀t∈left,gK t) ⟨r,[],w,0,n,_,rfl,rfl,s.gn,rfl,Jd n,Bz _,s.rk⟩ (λi τ M' ⟨_,_,_,_,_,_,_,e,_⟩=>by rw[e,aW hqp];exact s.at_) ?_ ?_
 .rintro i x τ M' hx ⟨left,w1,w2,m,m2,o,rfl,rfl,gn,ew,em,hw1,hlk⟩ D hD;rw[Ap]at hx;obtain⟨x,hs,rfl⟩:=Bh.mp hx;have hi:=(Ai.mp hs).1;have hd:S.drop i=x::S.drop (i+1):=by
   rw[Hz hi];rw[Ak hi]at hs;cases hs;rfl
  rw[hd]at gn;have hap:(w1.map W.str).length<Am:=eO (by rw[Aa];lia);cases gn with
  | @keep _ left w2 _ t gn=>
   refine xI rfl (xI rfl (xI rfl (bC (λ_=>?_) λz=>absurd z (by decide))));refine xI rfl ⟨Bz _,vP hlk (xI rfl (bC (λz=>nomatch of_decide_eq_true z) λ_=>xI rfl ⟨_,gZ (j:=0) rfl,xI rfl (xI rfl (xI rfl (bC (λz=>?_) λ_=>?_)))⟩))⟩
   .have z:(!decide (t=t))=true:=z;rw[decide_eq_true rfl]at z;cases z
   refine xI rfl (xI rfl (rO (j:=1) rfl ?_));refine xI rfl (xI rfl (xI rfl (bC (λ_=>xI rfl ⟨eT aY,xI rfl (xI rfl (xI rfl ⟨_,aY,hap,?_⟩))⟩) λz=>absurd z (by decide))));rw[eW];refine xI rfl (xI rfl (xI rfl (bC (λz=>absurd z (by decide)) λ_=>?_)));refine xI rfl (xI rfl (xI rfl (xI rfl (bC (λz=>nomatch (show false=true from z)) λ_=>xI rfl (xI rfl ⟨z4,rfl,rfl,xI rfl (bC (λz=>absurd z (by decide)) λ_=>hD _ _ ⟨left,w1++[t],w2,m,m2,_,rfl,by rw[Bb];rfl,gn,by rw[<-ew,De];rfl,by lia,by rw[Ah,Bo];lia,λt ht=>hlk t (Ba _ ht)⟩)⟩)))))
  | @drop _ left w2 m2 t gn=>
   refine xI rfl (xI rfl (xI rfl (bC (λ_=>?_) λz=>absurd z (by decide))));refine xI rfl ⟨Bz _,vP hlk (xI rfl (bC (λz=>nomatch of_decide_eq_true z) λ_=>xI rfl ⟨_,gZ (j:=0) rfl,xI rfl (xI rfl (xI rfl (bC (λz=>?_) λ_=>?_)))⟩))⟩
   .have z:(!decide (t=t))=true:=z;rw[decide_eq_true rfl]at z;cases z
   refine xI rfl (xI rfl (rO (j:=1) rfl ?_));refine xI rfl (xI rfl (xI rfl (bC (λz=>absurd z (by decide)) λ_=>?_)));refine xI rfl (xI rfl (xI rfl (bC (λ_=>xI rfl ?_) λz=>absurd z (by decide))));refine xI rfl (xI rfl (xI rfl (xI rfl (bC (λz=>nomatch (show false=true from z)) λ_=>xI rfl (xI rfl ⟨z4,rfl,rfl,xI rfl (bC (λz=>absurd z (by decide)) λ_=>hD _ _ ⟨left,w1,w2,m+1,m2,_,rfl,rfl,gn,ew,by lia,by lia,λt ht=>hlk t (Ba _ ht)⟩)⟩)))))
  | @put _ left w2 m2 t gn=>
   refine xI rfl (xI rfl (xI rfl (bC (λz=>absurd z (by decide)) λ_=>?_)));refine xI rfl (xI rfl (xI rfl (bC (λ_=>xI rfl ⟨eT aY,xI rfl (xI rfl (xI rfl ⟨_,aY,hap,?_⟩))⟩) λz=>absurd z (by decide))));rw[eW];refine xI rfl (xI rfl (xI rfl (bC (λ_=>xI rfl ?_) λz=>absurd z (by decide))));refine xI rfl (xI rfl (xI rfl (xI rfl (bC (λz=>nomatch (show false=true from z)) λ_=>xI rfl (xI rfl ⟨z4,rfl,rfl,xI rfl (bC (λz=>absurd z (by decide)) λ_=>hD _ _ ⟨left,w1++[t],w2,m+1,m2,_,rfl,by rw[Bb];rfl,gn,by rw[<-ew,De];rfl,by lia,by rw[Ah,Bo];lia,hlk⟩)⟩)))))
  | @swap _ left w2 m2 y t gn=>
   refine xI rfl (xI rfl (xI rfl (bC (λ_=>?_) λz=>absurd z (by decide))));refine xI rfl ⟨Bz _,vP hlk (xI rfl (bC (λz=>nomatch of_decide_eq_true z) λ_=>xI rfl ⟨_,gZ (j:=0) rfl,xI rfl (xI rfl (xI rfl (bC (λz=>?_) λ_=>?_)))⟩))⟩
   .have z:(!decide (y=y))=true:=z;rw[decide_eq_true rfl]at z;cases z
   refine xI rfl (xI rfl (rO (j:=1) rfl ?_));refine xI rfl (xI rfl (xI rfl (bC (λ_=>xI rfl ⟨eT aY,xI rfl (xI rfl (xI rfl ⟨_,aY,hap,?_⟩))⟩) λz=>absurd z (by decide))));rw[eW];refine xI rfl (xI rfl (xI rfl (bC (λ_=>xI rfl ?_) λz=>absurd z (by decide))));refine xI rfl (xI rfl (xI rfl (xI rfl (bC (λz=>nomatch (show false=true from z)) λ_=>xI rfl (xI rfl ⟨z4,rfl,rfl,xI rfl (bC (λz=>absurd z (by decide)) λ_=>hD _ _ ⟨left,w1++[t],w2,m+1,m2,_,rfl,by rw[Bb];rfl,gn,by rw[<-ew,De];rfl,by lia,by rw[Ah,Bo];lia,λt ht=>hlk t (Ba _ ht)⟩)⟩)))))
 .rintro τ M' ⟨left,w1,w2,m,m2,o,rfl,rfl,gn,ew,em,hw1,hlk⟩;rw[Aa,List.drop_length]at gn;cases gn;rw[Cm]at ew;rw[Int.add_zero]at em;subst ew em;refine xI rfl ⟨Bz _,vP hlk (xI rfl (bC (λ_=>xI rfl (xI rfl ⟨z2,?_⟩)) λz=>absurd z (by decide)))⟩;exact⟨_,Sub.refl _,R' q _ hq (Sub.new hq) aY⟩
def L4(L:List Str):W->W
 | .str t=>.bl (!is8 t||decide (t∈L))
 | w=>w
theorem ze9{rs:List a7}(g:d3 rs){L:List Str}(h:FL rs L):L.length<=8:=len_sub (b:=eJ) h.nd λx hx=>by
 obtain⟨r,h1,h2⟩:=zB h hx;rw[<-h2];exact g.nm r h1
theorem zfa{ws:List W}{M:Mm}{R:K3}(h:LP ws M R):zd4 (bR R) (bU zdZ ws) M:=by
 obtain⟨rs,rfl,g,r⟩:=h;have hf:=g.few;refine⟨z0,λq hq=>xI rfl (iK (iW (λi τ M'=>∃o:Option W×Option W×Option W×Option W,τ=[some (cM rs),some (.ref q),o.1,o.2.1,o.2.2.1,o.2.2.2]/\M'=put M q (.lst ((fH rs i).map W.str))) ⟨(_,_,_,_),rfl,rfl⟩ ?_ ?_))⟩
 .rintro i x τ M' hx ⟨o,rfl,rfl⟩ D hD;refine xI rfl (iW (ws:=rs.map d9) (λj τ M'=>∃o:Option W×Option W×Option W×Option W,τ=[some (cM rs),some (.ref q),o.1,o.2.1,o.2.2.1,o.2.2.2]/\M'=put M q (.lst (((rs.take j).foldl fY (fH rs i)).map W.str))) ⟨(_,_,_,_),rfl,rfl⟩ ?_ ?_)
  .rintro j x τ M' hx ⟨o,rfl,rfl⟩ D2 hD2;rw[Ap]at hx;obtain⟨ru,hr,rfl⟩:=Bh.mp hx;have hrm:=Bf hr;have hfl:FL rs ((rs.take j).foldl fY (fH rs i)):=zA (λx hx=>Js hx) (uY i);have hl8:=ze9 g hfl;have e1:(rs.take (j+1)).foldl fY (fH rs i)=fY ((rs.take j).foldl fY (fH rs i)) ru:=by rw[lB hr,Jc];rfl
   obtain⟨L,hL⟩:∃L,L=(rs.take j).foldl fY (fH rs i):=⟨_,rfl⟩;rw[<-hL]at e1 hl8⊢;have hp3:=g.fp ru hrm;have no:fY L ru=L->D2.nx [some (cM rs),some (.ref q),o.1,some (.str ru.name),some (.tup (ru.parts.map W.str)),some (.int ru.cost)] (put M q (.lst (L.map W.str))):=λe=>hD2 _ _ ⟨(o.1,some (.str ru.name),some (.tup (ru.parts.map W.str)),some (.int ru.cost)),rfl,by rw[e1,e]⟩;refine⟨rfl,rfl,xI rfl (xI rfl (.inl ⟨_,aY,rfl,qU _,xI rfl (bC (λz=>?_) λz=>?_)⟩))⟩
   .have z:ru.name∉L:=of_decide_eq_false (by
     have z:(!inW (.str ru.name) (L.map W.str))=true:=z;rw[nX]at z;rw[<-Gv (decide _),z];rfl)
    refine xI rfl (J4 (oQ (rest:=[some (.ref q)]) (L4 L) (fT (by rw[Aa];lia)) (λ_ _=>trivial) (λv hv M' C sb h1=>?_) (a9.frz ?_)))
    .obtain⟨t,ht,rfl⟩:=Bg.mp hv;refine xI rfl ⟨t,rfl,g.pt ru hrm t ht,xI rfl (xI rfl (bC (λz=>?_) λz=>xI rfl (xI rfl (.inl ⟨_,sb _ _ aY,rfl,qU _,?_⟩))))⟩
     .have h1:C (.bl (!is8 t||decide (t∈L))) M':=h1;rw[show(!is8 t)=true from z,Bool.true_or]at h1;exact h1
     .have h1:C (.bl (!is8 t||decide (t∈L))) M':=h1;rw[show(!is8 t)=false from z,Bool.false_or]at h1;show C (.bl (inW (.str t) (L.map W.str))) M';rw[nX];exact h1
    .refine⟨ru.parts.map λt=>!is8 t||decide (t∈L),by show Jb (L4 L) (ru.parts.map W.str)=(ru.parts.map _).map W.bl;rw[Cd,Cd];rfl,?_⟩;have ea:(ru.parts.map λt=>!is8 t||decide (t∈L)).all id=n6 L ru:=by rw[List.all_map];rfl
     rw[ea];refine bC (b:=n6 L ru) (λz2=>?_) λz2=>?_
     .have e2:fY L ru=L++[ru.name]:=if_pos ⟨z,z2⟩;refine xI rfl ⟨eT aY,xI rfl ⟨_,aY,eO (by rw[Aa];lia),hD2 _ _ ⟨(o.1,some (.str ru.name),some (.tup (ru.parts.map W.str)),some (.int ru.cost)),rfl,?_⟩⟩⟩;rw[eW,e1,e2,Bb];rfl
     .exact no (if_neg λw=>by rw[w.2]at z2;cases z2)
   .have z:ru.name∈L:=by
     have z:(!inW (.str ru.name) (L.map W.str))=false:=z;rw[nX]at z;exact of_decide_eq_true (by rw[<-Gv (decide _),z];rfl)
    exact no (if_neg λw=>w.1 z)
  .rintro τ M' ⟨o,rfl,rfl⟩;refine hD _ _ ⟨(_,_,_,_),rfl,?_⟩;rw[Aa,Ck];rfl
 .rintro τ M' ⟨o,rfl,rfl⟩;rw[Aa];exact xI rfl ⟨_,Sub.refl _,r q hq⟩
theorem zfb(n:Nat):∀ws M R,rM n ws M R->ws.length=3:=by
 cases n with
 | zero=>exact λ_ _ _ h=>h.elim
 | succ n=>rintro ws M R ⟨_,_,_,_,rfl,_⟩;rfl
theorem zfc(n:Nat):∀ws M R,rN n ws M R->ws.length=1:=by
 cases n with
 | zero=>exact λ_ _ _ h=>h.elim
 | succ n=>rintro ws M R ⟨_,_,_,_,rfl,_⟩;rfl
theorem zfd{d:Nat}{ws:List W}{M:Mm}{R:K3}(h:rM (d+1) ws M R):zec (rM d) (bR R) (bU LR ws) M:=by
 obtain⟨rs,x,X,ts,rfl,g,tr,r⟩:=h;cases d with
 | zero=>exact tr.elim
 | succ d=>
  obtain⟨n,ru,kids,ps,rfl,hru,rfl,hkl,hpl,rfl,hk⟩:=tr;have hrf:=g.few;have hrm:=Bf hru;have hp3:=g.fp ru hrm;obtain⟨ru',h1,hat⟩:=qY (rs:=rs) (n:=n) (Ai.mp hru).1;cases (show some ru'=some ru from h1.symm.trans hru);have hn:=(Ai.mp hru).1;refine xI rfl (lJ ⟨"tuple",true,rfl,by decide,xI rfl (xI rfl (bC (λh=>nomatch (show false=true from h)) λ_=>xI rfl (xI rfl (lJ ⟨"int",true,rfl,by decide,xI rfl (xI rfl (lJ ⟨"int",false,rfl,by decide,?_⟩))⟩))))⟩);refine xI rfl (xI rfl (xI rfl (bC (λ_=>xI rfl (xI rfl (bC (λz=>?_) λz=>?_))) λz=>?_)))
  .have z:=of_decide_eq_false (show decide ((n:Int)<(rs.map d9).length)=false by rw[<-Gv (decide _),show(!decide ((n:Int)<(rs.map d9).length))=true from z];rfl);rw[Aa]at z;lia
  .refine xI rfl (xI rfl (xI rfl ⟨_,hat,xI rfl (xI rfl (xI rfl (bC (λz=>?_) λ_=>?_)))⟩))
   .have z:(!decide (ru.name=ru.name))=true:=z;rw[decide_eq_true rfl]at z;cases z
   refine xI rfl (xI rfl (lJ ⟨"tuple",true,rfl,by decide,?_⟩));refine xI rfl (xI rfl (xI rfl ⟨_,hat,xI rfl ?_⟩));refine xI rfl (xI rfl (xI rfl (xI rfl (bC (λz=>?_) λ_=>?_))))
   .have z:(!decide (((ru.parts.map W.str).length:Int)=(kids.length:Nat)))=true:=z;rw[Aa,hkl,decide_eq_true rfl]at z;cases z
   refine xI rfl (xI rfl (xI rfl ?_));refine iW (ws:=jA (ru.parts.map W.str) kids) (λk τ M'=>∃o4 o5,τ=[some (cM rs),some (.str ru.name),some (.tup [.int n,.tup kids]),some (.tup (ru.parts.map W.str)),o4,o5]/\M'=M) ⟨_,_,rfl,rfl⟩ ?_ ?_
   .rintro k y τ M' hy ⟨o4,o5,rfl,rfl⟩ D hD;obtain⟨t,kid,pc,ht,hkid,hpc,rfl⟩:∃t kid pc,ru.parts[k]? = some t/\kids[k]? = some kid/\ps[k]? = some pc/\y=.tup [.str t,kid]:=by
     have hk:=(Ai.mp hy).1;rw[mW,Aa,hkl,Nat.min_self]at hk;have e1:ru.parts[k]? = some ru.parts[k]:=Ak hk;have e2:kids[k]? = some (kids[k]'(by rw[hkl];exact hk)):=Ak (by rw[hkl];exact hk);rw[tT (by rw[Ap,e1];rfl) e2]at hy;cases hy;exact⟨_,_,_,e1,e2,Ak (by rw[hpl];exact hk),rfl⟩
    have hpt:=g.pt ru hrm t (Bf ht);obtain⟨hw,hnm⟩:=hk k t pc ht hpc;have fin:=hD [some (cM rs),some (.str ru.name),some (.tup [.int n,.tup kids]),some (.tup (ru.parts.map W.str)),some (.str t),some kid] M' ⟨_,_,rfl,rfl⟩;refine⟨rfl,rfl,xI rfl ⟨t,rfl,hpt,?_⟩⟩;cases ho:is8 t with
    | false=>
     obtain⟨a1,a2⟩:=hw ho;rw[hkid]at a1;cases a1;refine xI rfl (xI rfl (xI rfl (bC (λz=>?_) λ_=>xI rfl ⟨t,rfl,hpt,?_⟩)))
     .have z:(!decide (t=t))=true:=z;rw[decide_eq_true rfl]at z;cases z
     .rw[ho];exact fin
    | true=>
     obtain⟨w',b1,b2⟩:=hnm ho;rw[hkid]at b1;cases b1;refine xI rfl ⟨t,rfl,hpt,?_⟩;rw[ho];exact xI rfl (xI rfl (xI rfl ⟨rs,_,t,pc,rfl,g,b2,fin⟩))
   .rintro τ M' ⟨o4,o5,rfl,rfl⟩;exact⟨_,Sub.refl _,r⟩
  .exact absurd (of_decide_eq_false z) (by lia)
theorem zfe{O:Type}{ps:List (List O)}{k:Nat}{p:List O}(h:ps[k]? = some p):(ps.take (k+1)).flatten=(ps.take k).flatten++p:=by
 rw[lB h,Gp];simp
theorem zff{O:Type}{ps:List (List O)}{k:Nat}:(ps.take k).flatten.length<=ps.flatten.length:=by
 conv=>rhs;rw[<-Hd k ps,Gp,Ah]
 exact Nat.le_add_right _ _
theorem zfg{d:Nat}{ws:List W}{M:Mm}{R:K3}(h:rN (d+1) ws M R):zeh (rN d) (bR R) (bU LS ws) M:=by
 obtain⟨rs,x,X,ts,rfl,g,tr,hts,r⟩:=h;cases d with
 | zero=>exact tr.elim
 | succ d=>
  obtain⟨n,ru,kids,ps,rfl,hru,rfl,hkl,hpl,rfl,hk⟩:=tr;have hrm:=Bf hru;have hp3:=g.fp ru hrm;refine⟨z0,λp hp=>xI rfl (xI rfl (J4 (qQ (λk τ M'=>∃(p:Addr) (o:Option W),τ=[some (.tup [.int n,.tup kids]),some (.ref p),o]/\M p=none/\M'=put M p (.lst ((ps.take k).flatten.map W.str))) ⟨p,xI rfl ⟨hp,rfl⟩⟩ ?_ ?_)))⟩
  .rintro k kid τ M' hkid ⟨p,o,rfl,hp,rfl⟩;have hkk:k<ru.parts.length:=by rw[<-hkl];exact(Ai.mp hkid).1
   have ht:=Ak hkk;have hpc:ps[k]? = some (ps[k]'(by rw[hpl];exact hkk)):=Ak (by rw[hpl];exact hkk);obtain⟨hw,hnm⟩:=hk k _ _ ht hpc;have f1:=zfe hpc;have fl1:=zff (ps:=ps) (k:=k+1);obtain⟨pc,hpce⟩:∃pc,pc=ps[k]'(by rw[hpl];exact hkk):=⟨_,rfl⟩;rw[<-hpce]at f1 hw hnm;rw[f1,Ah]at fl1;rw[f1];cases ho:is8 ru.parts[k] with
   | false=>
    obtain⟨a1,a2⟩:=hw ho;rw[hkid]at a1;cases a1;subst a2;refine xI rfl (lJ ⟨"str",false,rfl,by decide,?_⟩);refine xI rfl ⟨eT aY,xI rfl ⟨_,aY,eO (by rw[Aa];lia),_,Sub.refl _,p,xI rfl ⟨hp,?_⟩⟩⟩;rw[eW,Bb];rfl
   | true=>
    obtain⟨w',b1,b2⟩:=hnm ho;rw[hkid]at b1;cases b1;obtain⟨ks',e⟩:∃ks',kid=.tup ks':=by
     cases d with
     | zero=>exact b2.elim
     | succ d=>obtain⟨_,_,_,_,e,_⟩:=b2;exact⟨_,e⟩
    subst e;refine xI rfl (lJ ⟨"tuple",true,rfl,by decide,?_⟩);refine xI rfl (xI rfl ⟨rs,_,_,pc,rfl,g,b2,by lia,a9.frz ⟨_,aY,fT (by rw[Aa,Aa];lia),λp' hp'=>?_⟩⟩);have hpp:p'≠p:=λe=>by rw[e,aY]at hp';cases hp'
    rw[aW hpp]at hp';refine⟨put M p' (.lst (((ps.take k).flatten++pc).map W.str)),?_,p',xI rfl ⟨hp',rfl⟩⟩;rw[Bb];exact Sub.put (Sub.new hp)
  .rintro τ M' ⟨p,o,rfl,hp,rfl⟩;rw[hkl,<-hpl,Ck];exact xI rfl ⟨_,Sub.refl _,r p hp⟩
theorem big{j:Int}(h:j<=1000):j<2 ^ 4096:=Int.lt_of_le_of_lt h (by decide)
theorem zfh{is:List Int}{k:Int}(h0:0<=k)(h1:k<is.length):∃v,cJ (is.map W.int) k=some (.int v)/\v∈is:=by
 obtain⟨j,rfl⟩:=Dr h0;have hj:j<is.length:=by lia
 exact⟨is[j],J3 (Ak hj),Hw hj⟩
theorem zfi{ws:List W}{M:Mm}{R:K3}(h:zW ws M R):zdG (bR R) (bU zdF ws) M:=by
 obtain⟨zs,m,rfl,h0,h1,hz,r⟩:=h;obtain⟨j,rfl⟩:=Dr h0;obtain⟨cs,ec,hcl,_⟩:=zbp (f:=W.int) zs none j;have hcl:cs.length<=j:=hcl;have ec:eX (zs.map W.int) none (some (j:Int))=cs.map W.int:=ec;refine xI rfl (xI rfl (xI rfl (V1 (ws:=eX (zs.map W.int) none (some (j:Int))) (rest:=[]) (λ_ y=>∃t,y=.str t/\t∈dC) (fT (by rw[ec,Aa];lia)) (λ_ _=>trivial) (λw hw M' C sb h1=>?_) λys po=>?_)))
 .rw[ec]at hw;obtain⟨c,hc,rfl⟩:=Bg.mp hw;obtain⟨t,et,mt⟩:=rE (ts:=dC) (k:=c % 3) (Cz _ (by decide)) (Cu _ (by decide));exact⟨z3,xI rfl ⟨show(0:Int)<3 by decide,_,et,h1 _ ⟨t,rfl,mt⟩⟩⟩
 .obtain⟨ts,rfl,htl,htm⟩:=zbo po λ_ _ h=>h;rw[ec,Aa]at htl;exact u0 (r ts ⟨htm,by lia⟩)
theorem zfj{ws:List W}{M:Mm}{R:K3}(h:vL ws M R):zdw (bR R) (bU zdr ws) M:=by
 obtain⟨d,hs,rfl,hne,hl,r⟩:=h;have hpos:=Fd.mpr hne;obtain⟨v,ev,mv⟩:=zfh (is:=[0,1,2,2,3,1]) (k:=d % 6) (Cz _ (by decide)) (Cu _ (by decide));have hv:0<=v/\v<=3:=by
  have:∀v∈([0,1,2,2,3,1]:List Int),0<=v/\v<=3:=by decide
  exact this v mv
 refine⟨z0,λq hq=>⟨fT (by decide),xI rfl ⟨show(0:Int)<6 by decide,_,ev,xI rfl ⟨by lia,by lia,?_⟩⟩⟩⟩;refine iW (λi τ M'=>∃(ts:List Str) (o:Option W×Option W),τ=[some (.int d),some (.rl (hs.map W.str)),some (.ref q),o.1,o.2]/\M'=put M q (.lst (ts.map W.str))/\ts.length=i/\∀t∈ts,t∈hs\/t∈dC) ⟨[],(_,_),rfl,rfl,rfl,λ_ h=>nomatch h⟩ ?_ ?_
 .rintro i w τ M' hw ⟨ts,o,rfl,rfl,hi,ht⟩ D hD;obtain⟨hi2,rfl⟩:=zR hw;have hap:(ts.map W.str).length<Am:=eO (by rw[Aa];lia);have go:∀(t:Str) (o4:Option W),(t∈hs\/t∈dC)->D.nx [some (.int d),some (.rl (hs.map W.str)),some (.ref q),some (.int (0+(i:Nat))),o4] (put (put M q (.lst (ts.map W.str))) q (.lst (ts.map W.str++[.str t]))):=λt o4 h=>by
   refine hD _ _ ⟨ts++[t],(some (.int (0+(i:Nat))),o4),rfl,by rw[eW,Bb];rfl,by rw[Ah,hi];rfl,λx hx=>?_⟩;rcases Bj.mp hx with hx|hx
   .exact ht x hx
   .rw[Ao.mp hx];exact h
  refine xI rfl (xI rfl ⟨.inl (.inl ⟨by decide,by decide⟩),⟨by lia,big (by lia)⟩,show(0:Int)<15 by decide,?_⟩);refine xI rfl (xI rfl (bC (λz=>?_) λz=>?_))
  .obtain⟨t,et,mt⟩:=rE (ts:=dC) (k:=(d/(6+90*(0+(i:Nat)))) % 15 % 3) (Cz _ (by decide)) (Cu _ (by decide));exact xI rfl ⟨eT aY,z3,xI rfl ⟨show(0:Int)<3 by decide,_,et,_,aY,hap,go t _ (.inr mt)⟩⟩
  .obtain⟨t,et,mt⟩:=rE (ts:=hs) (k:=(d/(6+90*(0+(i:Nat)))) % 15 % (hs.map W.str).length) (Cz _ (by rw[Aa];lia)) (by rw[Aa];exact Cu _ (by lia));exact xI rfl ⟨eT aY,xI rfl (xI rfl (xI rfl ⟨by rw[Aa];lia,_,et,_,aY,hap,go t _ (.inl mt)⟩))⟩
 .rintro τ M' ⟨ts,o,rfl,rfl,hi,ht⟩;have hi:ts.length=v.toNat:=by rw[hi];unfold jN;simp
  exact xI rfl ⟨_,aY,M,Sub.new hq,r ts (by lia) ht⟩
theorem L5{ts:List Str}{j:Nat}{i:Int}{M:Mm}{R:K3}(ei:i=j)(h:j<=ts.length)(r:R (.rl ((ts.take j).map W.str)) M):nS (.rl (ts.map W.str)) none (some i) M R:=by
 subst ei;exact LW h r
theorem L6{t:Str}(h:t∈dC):is8 t=false:=by
 have:∀t∈dC,is8 t=false:=by unfold dC is8 eJ;decide +kernel
 exact this t h
theorem AE{rs:List a7}{hs:List Str}(h1:∀t∈hs,t∈eJ)(h2:∀r∈rs,r.name∈hs/\r.parts.length<=3/\∀t∈r.parts,t∈hs\/t∈dC)(h3:∀t∈hs,∃r∈rs,r.name=t)(h4:rs≠[])(h5:rs.length<=9):d3 rs:=by
 have nm:∀r∈rs,r.name∈eJ:=λr hr=>h1 _ (h2 r hr).1;refine⟨h4,h5,nm,λr hr t ht=>((h2 r hr).2.2 t ht).imp (h1 t) id,λr hr=>(h2 r hr).2.1,λr hr t ht=>?_⟩;rcases(h2 r hr).2.2 t ht with h|h
 .rw[show is8 t=true from decide_eq_true (h1 t h)];exact decide_eq_true (nU.mpr (h3 t h))
 .rw[L6 h];refine decide_eq_false λz=>?_;obtain⟨r',hr',rfl⟩:=nU.mp z;have:=L6 h;rw[show is8 r'.name=true from decide_eq_true (nm r' hr')]at this;cases this
abbrev H3:List Str:=["S","S_1","S_12"]
theorem zfk{ws:List W}{M:Mm}{R:K3}(h:LM ws M R):zdE (bR R) (bU zdx ws) M:=by
 obtain⟨zs,rfl,hz,r⟩:=h;refine xI rfl ⟨zs,0,rfl,hz,Ht 0,λc=>?_⟩;obtain⟨j,hj⟩:∃j:Nat,1+c/2 % 3=(j:Int):=Dr (by have:=Cz (c/2) (show(3:Int)≠0 by decide);lia);have hj1:1<=j/\j<=3:=by
  have a:=Cz (c/2) (show(3:Int)≠0 by decide);have b:=Cu (c/2) (show(0:Int)<3 by decide);lia
 refine⟨z3,xI rfl ⟨⟨by decide,by decide⟩,show(0:Int)<3 by decide,xI rfl (L5 (ts:=H3) hj hj1.2 ?_)⟩⟩;obtain⟨hs,hhs⟩:∃hs:List Str,hs=List.take j H3:=⟨_,rfl⟩;rw[<-hhs];have hl:hs.length=j:=by rw[hhs,Bp];exact Fn hj1.2
 have hn8:∀t∈hs,t∈eJ:=λt ht=>by
  rw[hhs]at ht;have:∀t∈H3,t∈eJ:=by unfold eJ;decide +kernel
  exact this t (Js ht)
 have hne:hs≠[]:=λe=>by rw[e]at hl;simp at hl;lia
 have b5a:=Cz (c/6) (show(5:Int)≠0 by decide);have b5b:=Cu (c/6) (show(0:Int)<5 by decide);refine⟨z0,λq hq=>xI rfl (xI rfl ⟨⟨by decide,by decide⟩,show(0:Int)<5 by decide,xI rfl ⟨by rw[Aa];lia,by rw[Aa];lia,?_⟩⟩)⟩;refine iW (λi τ M'=>∃(rs:List a7) (o:Option W×Option W×Option W),τ=[some (.sc (zs.map W.int)),some (.int c),some (.rl (hs.map W.str)),some (.ref q),o.1,o.2.1,o.2.2]/\M'=put M q (.lst (rs.map d9))/\rs.length=i/\(∀r∈rs,r.name∈hs/\r.parts.length<=3/\∀t∈r.parts,t∈hs\/t∈dC)/\∀k,k<i->k<hs.length->∃r,rs[k]? = some r/\hs[k]? = some r.name) ⟨[],(_,_,_),rfl,rfl,rfl,(λ_ h=>nomatch h),λk h=>nomatch h⟩ ?_ ?_
 .rintro i w τ M' hw ⟨rs,o,rfl,rfl,hi,hrs,hcov⟩ D hD;obtain⟨hi2,rfl⟩:=zR hw;rw[Aa]at hi2;have hap:(rs.map d9).length<Am:=eO (by rw[Aa];lia);rw[Jd];refine xI rfl (xI rfl ⟨zs,_,rfl,hz,by lia,λd0=>?_⟩);have hpos:(0:Int)<(hs.map W.str).length:=by rw[Aa];lia
  have go:∀(d:Int),(aR (bK 6 (aD aV (aA 2) (aD fA (aA 5) (bX cY (aB (aA 2) aE))))) (aR (cQ (bV (aD nN (aA 4) (bX cY (aB (aA 2) aE)))) (bK 6 (aD aV (aA 2) (aA 4))) c7) (dW (dU "list" eZ (aA 3) (aB (cB (aB (aA 6) (aB (bS vL (aB (aD f7 (aA 5) (vC (.int 3))) (aB (aA 2) aE))) (aB (aD fA (aD f7 (aA 5) (vC (.int 900))) (vC (.int 4))) aE)))) aE))))) D [some (.sc (zs.map W.int)),some (.int c),some (.rl (hs.map W.str)),some (.ref q),some (.int (i:Nat)),some (.int d),o.2.2] (put M q (.lst (rs.map d9))):=λd=>by
   have fin:∀(nm:Str),nm∈hs->(i<hs.length->hs[i]? = some nm)->(dW (dU "list" eZ (aA 3) (aB (cB (aB (aA 6) (aB (bS vL (aB (aD f7 (aA 5) (vC (.int 3))) (aB (aA 2) aE))) (aB (aD fA (aD f7 (aA 5) (vC (.int 900))) (vC (.int 4))) aE)))) aE))) D [some (.sc (zs.map W.int)),some (.int c),some (.rl (hs.map W.str)),some (.ref q),some (.int (i:Nat)),some (.int d),some (.str nm)] (put M q (.lst (rs.map d9))):=λnm h1 h2=>by
    refine xI rfl ⟨eT aY,xI rfl (xI rfl ⟨⟨by decide,by decide⟩,xI rfl ⟨_,hs,rfl,hne,by lia,λts tl tm=>xI rfl ⟨⟨by decide,by decide⟩,show(0:Int)<4 by decide,z3,_,aY,hap,?_⟩⟩⟩)⟩;refine hD _ _ ⟨rs++[⟨nm,ts,d/900 % 4⟩],(some (.int (i:Nat)),some (.int d),some (.str nm)),rfl,by rw[eW,Bb];rfl,by rw[Ah,hi];rfl,λx hx=>?_,λk hk hkl=>?_⟩
    .rcases Bj.mp hx with hx|hx
     .exact hrs x hx
     .rw[Ao.mp hx];exact⟨h1,tl,tm⟩
    .by_cases e:k=i
     .subst e;exact⟨⟨nm,ts,d/900 % 4⟩,by rw[Hq (by lia),hi,Nat.sub_self];rfl,h2 hkl⟩
     .obtain⟨r0,a1,a2⟩:=hcov k (by lia) hkl;exact⟨r0,by rw[Gd (by lia)];exact a1,a2⟩
   obtain⟨t,et,mt⟩:=rE (ts:=hs) (k:=d % (hs.map W.str).length) (Cz _ (by lia)) (by rw[Aa]at hpos⊢;exact Cu _ hpos);refine xI rfl (xI rfl (xI rfl ⟨hpos,_,et,xI rfl (xI rfl (xI rfl (bC (λz=>?_) λz=>?_)))⟩))
   .have z:=of_decide_eq_true z;rw[Aa]at z;have hil:i<hs.length:=by lia
    exact xI rfl (xI rfl ⟨_,gZ (by rw[Ap,Ak hil];rfl),fin _ (Hw hil) λ_=>Ak hil⟩)
   .have z:=of_decide_eq_false z;rw[Aa]at z;exact fin t mt λh=>absurd h (by lia)
  refine xI rfl ⟨show(0:Int)<2 by decide,xI rfl (bC (λz=>?_) λz=>go d0)⟩;have a0:0<=d0 % 10 ^ 40:=Cz _ (by decide);have a1:d0 % 10 ^ 40<10 ^ 40:=Cu _ (by decide);have b1:(d0 % 10 ^ (40:Int).toNat+(i:Nat)).natAbs<2 ^ 4096:=E8 (m:=140) (show(d0 % 10 ^ 40+(i:Nat)).natAbs<_ by lia) (by decide);have b2:(d0 % 10 ^ (40:Int).toNat+5*(i:Nat)+2).natAbs<2 ^ 4096:=E8 (m:=140) (show(d0 % 10 ^ 40+5*(i:Nat)+2).natAbs<_ by lia) (by decide);exact xI rfl ⟨⟨by decide,by decide,by decide⟩,show(0:Int)<10 ^ (40:Int).toNat by decide,xI rfl (xI rfl ⟨⟨by decide,by decide,by decide⟩,show(0:Int)<10 ^ (40:Int).toNat by decide,xI rfl ⟨.inl (.inl ⟨by decide,by decide⟩),.inr ⟨b1,b2⟩,⟨by decide,by decide⟩,go _⟩⟩)⟩
 .rintro τ M' ⟨rs,o,rfl,rfl,hi,hrs,hcov⟩;have hi:rs.length=(((hs.map W.str).length:Int)+c/6 % 5).toNat:=by rw[hi];unfold jN;simp
  rw[Aa]at hi;refine xI rfl ⟨_,Sub.refl _,r rs (AE hn8 hrs (λt ht=>?_) (λe=>by rw[e]at hi;simp at hi;lia) (by lia)) q hq⟩;obtain⟨k,hk⟩:=Lp ht;have hkl:=(Ai.mp hk).1;obtain⟨r0,h1,h2⟩:=hcov k (by unfold jN;simp;lia) hkl;rw[hk]at h2;cases h2;exact⟨r0,Bf h1,rfl⟩
theorem zfl{ws:List W}{M:Mm}{R:K3}(h:LO ws M R):zdW (bR R) (bU zdR ws) M:=by
 obtain⟨zs,rfl,hz,r⟩:=h;refine xI rfl ⟨zs,0,rfl,hz,Ht 0,λc=>?_⟩;have m0:=Cz (c/30) (show(7:Int)≠0 by decide);have m1:=Cu (c/30) (show(0:Int)<7 by decide);obtain⟨cs,ec,hcl,_⟩:∃cs:List Int,eX (zs.map W.int) (some 9) none=cs.map W.int/\cs.length<=63/\True:=by
  refine⟨zs.drop 9,by rw[show(some (9:Int))=some ((9:Nat):Int) from rfl,LU,Jn],?_,trivial⟩;rw[Eb];lia
 have sl:∀{τ:S3} {M:Mm} {Q:K3},Q (.rl (cs.map W.int)) M->jL τ M λu M3=>nS (.sc (zs.map W.int)) (some 9) u M3 Q:=λ{τ M Q} h=>by
  show Q (.rl (eX (zs.map W.int) (some 9) none)) M;rw[ec];exact h
 refine xI rfl ⟨⟨by decide,by decide⟩,show(0:Int)<7 by decide,xI rfl ⟨⟨by decide,by decide⟩,show(0:Int)<4 by decide,xI rfl (bC (λ_=>?_) λ_=>?_)⟩⟩
 .refine xI rfl ⟨⟨by decide,by decide⟩,_,rfl,λrs g=>a9.frz (xI rfl (xI rfl (sl (xI rfl ⟨cs,_,rfl,by lia,by lia,hcl,λrow w=>a9.frz ⟨z2,_,Sub.refl _,r rs row g w⟩⟩))))⟩
 .refine xI rfl ⟨zs,rfl,hz,λrs g=>a9.frz (xI rfl (xI rfl (sl (xI rfl ⟨cs,_,rfl,by lia,by lia,hcl,λrow w=>a9.frz ⟨z2,_,Sub.refl _,r rs row g w⟩⟩))))⟩
theorem L7{ls:List (List Str)}{k:Int}(h0:0<=k)(h1:k<ls.length):∃ts,cJ (ls.map λts=>W.tup (ts.map W.str)) k=some (.tup (ts.map W.str))/\ts∈ls:=by
 obtain⟨j,rfl⟩:=Dr h0;have hj:j<ls.length:=by lia
 exact⟨ls[j],gZ (by rw[Ap,Ak hj];rfl),Hw hj⟩
theorem zfm{xs:List W}{w:W}:cJ (xs++[w]) (-1)=some w:=by
 have e:iD (xs++[w]).length (-1)=some xs.length:=by
  unfold iD;rw[if_neg (by decide),Ah,Bo,if_pos (by lia)];congr 1;lia
 unfold cJ;rw[e];simp
abbrev L8:List (List Str):=[["a","S"],["S","a"],["b","S","ab"]]
abbrev L9:List (List Str):=[["ab"],[]]
abbrev G1(hs:List Str)(r:a7):Prop:=r.name∈hs/\r.parts.length<=3/\∀t∈r.parts,t∈hs\/t∈dC
theorem zfn{ws:List W}{M:Mm}{R:K3}(h:LN ws M R):zdQ (bR R) (bU zdH ws) M:=by
 obtain⟨c,rfl,r⟩:=h;obtain⟨j,hj⟩:∃j:Nat,3+c % 6=(j:Int):=Dr (by have:=Cz c (show(6:Int)≠0 by decide);lia);have hj1:3<=j/\j<=8:=by
  have a:=Cz c (show(6:Int)≠0 by decide);have b:=Cu c (show(0:Int)<6 by decide);lia
 refine⟨z8,xI rfl ⟨show(0:Int)<6 by decide,xI rfl (L5 (ts:=eJ) hj hj1.2 ?_)⟩⟩;obtain⟨hs,hhs⟩:∃hs:List Str,hs=List.take j eJ:=⟨_,rfl⟩;rw[<-hhs];have hl:hs.length=j:=by rw[hhs,Bp];exact Fn hj1.2
 have hn8:∀t∈hs,t∈eJ:=λt ht=>by rw[hhs]at ht;exact Js ht
 have hS:("S" : Str)∈hs:=by
  rw[hhs];obtain⟨m,rfl⟩:∃m,j=m+1:=⟨j-1,by lia⟩;exact Bk
 have hpos:(0:Int)<(hs.map W.str).length:=by rw[Aa];lia
 refine⟨z0,λq hq=>xI rfl (xI rfl ⟨by rw[Aa];lia,by rw[Aa];lia,?_⟩)⟩;refine iW (λi τ M'=>∃(rs:List a7) (o:Option W),τ=[some (.int c),some (.rl (hs.map W.str)),some (.ref q),o]/\M'=put M q (.lst (rs.map d9))/\rs.length=i/\(∀r∈rs,G1 hs r)/\∀k,k<i->∃r,rs[k]? = some r/\hs[k]? = some r.name) ⟨[],xI rfl ⟨rfl,rfl,(λ_ h=>nomatch h),λk h=>nomatch h⟩⟩ ?_ ?_
 .rintro i w τ M' hw ⟨rs,o,rfl,rfl,hi,hrs,hcov⟩ D hD;obtain⟨hi2,rfl⟩:=zR hw;rw[Aa]at hi2;rw[Jd];have h1:i<hs.length:=by lia
  have h2:i+1<hs.length:=by lia
  have e1:hs[i]? = some hs[i]:=Ak h1;have e2:hs[i+1]? = some hs[i+1]:=Ak h2;refine xI rfl ⟨eT aY,xI rfl (xI rfl ⟨_,gZ (by rw[Ap,e1];rfl),xI rfl (xI rfl ⟨_,gZ (j:=i+1) (by rw[Ap,e2];rfl),z1,z3,_,aY,eO (by rw[Aa];lia),?_⟩)⟩)⟩;refine hD _ _ ⟨rs++[⟨hs[i],[hs[i+1]],0⟩],xI rfl ⟨by rw[eW,Bb];rfl,by rw[Ah,hi];rfl,λx hx=>?_,λk hk=>?_⟩⟩
  .rcases Bj.mp hx with hx|hx
   .exact hrs x hx
   .rw[Ao.mp hx];exact⟨Hw h1,by simp,λt ht=>.inl (by rw[Ao.mp ht];exact Hw h2)⟩
  .by_cases e:k=i
   .subst e;exact⟨⟨hs[k],[hs[k+1]],0⟩,by rw[Hq (by lia),hi,Nat.sub_self];rfl,e1⟩
   .obtain⟨r0,a1,a2⟩:=hcov k (by lia);exact⟨r0,by rw[Gd (by lia)];exact a1,a2⟩
 .rintro τ M' ⟨rs,o,rfl,rfl,hi,hrs,hcov⟩;have hi:rs.length=j-1:=by
   rw[hi];unfold jN;rw[Aa,Gh,Aa,hl];lia
  have hcov:∀k,k<j-1->∃r,rs[k]? = some r/\hs[k]? = some r.name:=λk hk=>hcov k (by unfold jN;rw[Aa,Gh,Aa,hl];lia);obtain⟨hs0,x,hx⟩:∃hs0 x,hs=hs0++[x]:=by
   rcases Ej hs with e|⟨a,b,e⟩
   .rw[e]at hl;simp at hl;lia
   .exact⟨a,b,by rw[e,Ek]⟩
  have hxl:hs0.length=j-1:=by rw[hx,Ah,Bo]at hl;lia
  have hxm:x∈hs:=by rw[hx];simp
  obtain⟨ts,et,mt⟩:=L7 (ls:=L8) (k:=c/6 % 3) (Cz _ (by decide)) (Cu _ (by decide));obtain⟨us,eu,mu⟩:=L7 (ls:=L9) (k:=c/144 % 2) (Cz _ (by decide)) (Cu _ (by decide));obtain⟨y,ey,my⟩:=rE (ts:=hs) (k:=c/18 % (hs.map W.str).length) (Cz _ (by lia)) (by rw[Aa]at hpos⊢;exact Cu _ hpos);refine xI rfl ⟨eT aY,xI rfl ⟨_,show cJ (hs.map W.str) (-1)=some (.str x) by rw[hx,Bb];exact zfm,z2,z2,z3,z3,xI rfl ⟨⟨by decide,by decide⟩,show(0:Int)<3 by decide,_,et,z3,_,aY,eO (by rw[Aa];lia),?_⟩⟩⟩;rw[eW];refine xI rfl ⟨eT aY,xI rfl (xI rfl ⟨⟨by decide,by decide⟩,xI rfl ⟨hpos,_,ey,z1,z0,z2,xI rfl ⟨⟨by decide,by decide⟩,show(0:Int)<2 by decide,_,eu,z3,_,aY,eO (by rw[Ah,Aa,Bo];lia),?_⟩⟩⟩)⟩;rw[eW];obtain⟨rs2,h2⟩:∃rs2:List a7,rs2=rs++[⟨x,ts,1⟩]++[⟨y,us,0⟩]:=⟨_,rfl⟩;rw[show Jb d9 rs++[W.tup [W.str x,W.tup (ts.map W.str),W.int 1]]++[W.tup [W.str y,W.tup (us.map W.str),W.int 0]]=rs2.map d9 by rw[h2,Bb,Bb];rfl];have hts:ts.length<=3/\∀t∈ts,t = "S"\/t∈dC:=by
   have:∀ts∈L8,ts.length<=3/\∀t∈ts,t = "S"\/t∈dC:=by unfold dC;decide +kernel
   exact this ts mt
  have hus:us.length<=3/\∀t∈us,t∈dC:=by
   have:∀ts∈L9,ts.length<=3/\∀t∈ts,t∈dC:=by unfold dC;decide +kernel
   exact this us mu
  have hall:∀r∈rs2,G1 hs r:=λr hr=>by
   rw[h2]at hr;rcases Bj.mp hr with hr|hr
   .rcases Bj.mp hr with hr|hr
    .exact hrs r hr
    .rw[Ao.mp hr];exact⟨hxm,hts.1,λt ht=>(hts.2 t ht).imp (λe=>by rw[e];exact hS) id⟩
   .rw[Ao.mp hr];exact⟨my,hus.1,λt ht=>.inr (hus.2 t ht)⟩
  have hc:∀t∈hs,∃r∈rs2,r.name=t:=λt ht=>by
   rw[hx]at ht;rcases Bj.mp ht with ht|ht
   .obtain⟨k,hk⟩:=Lp ht;have hkl:=(Ai.mp hk).1;obtain⟨r0,a1,a2⟩:=hcov k (by lia);rw[hx,Gd hkl,hk]at a2;cases a2;exact⟨r0,by rw[h2];exact Bu _ (Bu _ (Bf a1)),rfl⟩
   .rw[Ao.mp ht];exact⟨⟨x,ts,1⟩,by rw[h2];simp,rfl⟩
  have hlen:rs2.length<=9:=by rw[h2];simp;lia
  have hne:rs2≠[]:=by rw[h2];simp
  refine xI rfl ⟨⟨by decide,by decide⟩,show(0:Int)<2 by decide,xI rfl (bC (λ_=>?_) λ_=>?_)⟩
  .have g:d3 rs2.reverse:=AE hn8 (λr hr=>hall r (List.mem_reverse.mp hr)) (λt ht=>let ⟨r,a,b⟩:=hc t ht;⟨r,List.mem_reverse.mpr a,b⟩) (by simpa using hne) (by simpa using hlen);refine xI rfl ⟨q,_,rfl,aY,λp hp=>?_⟩;have hpq:p≠q:=λe=>by rw[e,aY]at hp;cases hp
   rw[aW hpq]at hp;refine⟨put M p (.lst (rs2.reverse.map d9)),?_,r _ g p hp⟩;rw[List.map_reverse];exact Sub.put (Sub.new hq)
  .exact xI rfl ⟨_,Sub.refl _,r rs2 (AE hn8 hall hc hne hlen) q hq⟩
theorem zfo{rs:List a7}(g:d3 rs):Pl 3 (cM rs):=λx hx=>by
 obtain⟨q,hq,rfl⟩:=Bg.mp hx;intro y hy;rcases Ar.mp hy with rfl|hy
 .exact n5 (.inl (g.nm q hq))
 rcases Ar.mp hy with rfl|hy
 .intro z hz;obtain⟨t,ht,rfl⟩:=Bg.mp hz;exact n5 (g.pt q hq t ht)
 .rw[Ao.mp hy];trivial
theorem MA{S:List gW}{r w:List Str}{n:Int}(h:Gn S r w n):w.length<=S.length/\0<=n:=by
 induction h with
 | nil=>exact⟨An _,Ht _⟩
 | keep _ ih=>exact⟨Nat.succ_le_succ ih.1,ih.2⟩
 | drop _ ih=>exact⟨Nat.le_succ_of_le ih.1,by lia⟩
 | put _ ih=>exact⟨Nat.succ_le_succ ih.1,by lia⟩
 | swap _ ih=>exact⟨Nat.succ_le_succ ih.1,by lia⟩
theorem zfp{rs:List a7}{row U:List Str}{B:bM}(h:fG (cH rs row U) B){f:bD}{x:aJ×Nat×List Int}(e:aH B f=some x):∀z∈yT (cH rs row U) B f,z.1∈U:=by
 obtain⟨pre,post,hb⟩:=j9 e;refine uX (λ_=>rfl) h (λf v y=>∀z∈y,z.1∈U) (λr hr b hb e v y p=>?_) _ pre (f,x) post rfl hb;clear hr hb;generalize r.parts=ps at p
 induction p with
 | nil=>exact λz hz=>nomatch hz
 | @cons t ts b m e u v x y hs _ ih=>
  intro z hz;rcases Bj.mp hz with hz|hz
  .rcases hs with⟨_,h2,rfl⟩|⟨_,h2⟩
   .rw[Ao.mp hz];exact(m7.mp h2).1
   .exact h2 z hz
  .exact ih z hz
theorem zfq{C:Cc}{ws:List W}{M:Mm}{R:K3}(h:zcF C ws M R):zeD C (bR R) (bU zeq ws) M:=by
 obtain⟨zs,rfl,hz,mt,r⟩:=h;refine xI rfl ⟨zs,rfl,hz,λrs row g w=>⟨rfl,rfl,?_⟩⟩;obtain⟨q,rs,rfl⟩:∃q rs',rs=q::rs':=by
  cases rs with
  | nil=>exact(g.ne rfl).elim
  | cons q rs=>exact⟨_,_,rfl⟩
 have e0:cJ ((q::rs).map d9) 0=some (d9 q):=gZ (j:=0) rfl;have hrk:∀t∈row,gK t:=λt ht=>n5 (.inr (w.wd t ht));have same1:∀{M:Mm} {R:K3},R (.bl false) M->rEq true (cM (q::rs)) (cM (q::rs)) M R:=λh=>tQ (neg:=true) 3 (by decide) (zfo g) rfl h;have same2:∀{M:Mm} {R:K3},R (.bl false) M->rEq true (gC row) (gC row) M R:=λh=>tQ (neg:=true) 1 (by decide) (vI hrk) rfl h;refine xI rfl (xI rfl (xI rfl (xI rfl ⟨q,rs,row,rfl,g,w,mt,λU B hU hs hB=>⟨λhn=>?_,λx hx p M1 np sb mp=>?_⟩⟩)))
 .refine xI rfl (xI rfl (same1 (xI rfl (xI rfl (xI rfl (same2 (xI rfl ?_)))))));refine xI rfl ⟨_,e0,xI rfl (xI rfl ⟨q::rs,rfl,g,a9.frz ⟨rfl,qU _,xI rfl (bC (λz=>?_) λz=>?_)⟩⟩)⟩
  .exact xI rfl ⟨_,Sub.refl _,r _ mt⟩
  .have z:(!inW (.str q.name) ((iX (q::rs)).map W.str))=false:=z;rw[nX]at z;have hm:q.name∈iX (q::rs):=of_decide_eq_true (by rw[<-Gv (decide _),z];rfl);obtain⟨x,hx⟩:=(zD g w hU hB).mp hm;rw[show aH B (q.name,0,(row.length:Int))=none from hn]at hx;cases hx
 .have hm:q.name∈iX (q::rs):=(zD g w hU hB).mpr ⟨x,hx⟩;have gn:=LZ hB hx;have hfew:=L0 g w hU hB hx;have tr:=zbZ g w hB (f:=fZ q row) (iL.mp (by rw[hx];rfl));have hwd:∀t∈jU (yT (cH (q::rs) row U) B (fZ q row)),gK t:=λt ht=>by
   obtain⟨z,h1,h2⟩:=Fu.mp ht;have:=zfp hB hx z h1;unfold lw at h2;split at h2
   .cases h2
   .rw[Ao.mp h2];exact AA (hs _ this)
  have hwl:=MA gn;obtain⟨S,hS⟩:∃S,S=gL row (yT (cH (q::rs) row U) B (fZ q row)):=⟨_,rfl⟩;obtain⟨wd,hW⟩:∃wd,wd=jU (yT (cH (q::rs) row U) B (fZ q row)):=⟨_,rfl⟩;have gn:Gn S row wd x.1.1:=by rw[hS,hW];exact gn
  have hfew:S.length<=200000:=by rw[hS];exact hfew
  have tr:pE (q::rs) 104 (l0 (kF (q::rs) row U) B (fZ q row)) q.name wd:=by rw[hW];exact tr
  have hwd:∀t∈wd,gK t:=by rw[hW];exact hwd
  have hwl:wd.length<=S.length/\0<=x.1.1:=MA gn;rw[<-hS]at mp;have s47:rL M1 p S row wd x.1.1:=⟨mp,gn,hrk,hwd,hfew,Au w.few (by decide)⟩;refine xI rfl (xI rfl (same1 (xI rfl (xI rfl (xI rfl (same2 (xI rfl ?_)))))));refine xI rfl ⟨_,e0,xI rfl (xI rfl ⟨q::rs,rfl,g,a9.frz ⟨rfl,qU _,xI rfl (bC (λz=>?_) λ_=>?_)⟩⟩)⟩
  .have z:(!inW (.str q.name) ((iX (q::rs)).map W.str))=true:=z;rw[nX,decide_eq_true hm]at z;cases z
  refine xI rfl (lJ ⟨"tuple",true,rfl,by decide,xI rfl (xI rfl (bC (λh=>nomatch (show false=true from h)) λ_=>xI rfl (xI rfl (lJ (zbq mp ?_)))))⟩);refine xI rfl ⟨rfl,rfl,xI rfl (xI rfl ⟨p,S,row,wd,x.1.1,rfl,s47,λq2 M2 nq sb2 mq=>?_⟩)⟩;have s48:rL M2 p S row wd x.1.1:=⟨sb2 _ _ mp,gn,hrk,hwd,hfew,Au w.few (by decide)⟩;have eqw:∀{neg:Bool} {R:K3},R (.bl (!neg)) M2->rEq neg (.rl (wd.map W.str)) (.ref q2) M2 R:=λ{neg R} h=>tQ (neg:=neg) 1 (by decide) (vI hwd) (by simp[dP,mq]) h;refine xI rfl (xI rfl (xI rfl (lJ ⟨"int",true,rfl,by decide,xI rfl (lJ ⟨"int",false,rfl,by decide,xI rfl (xI rfl (xI rfl (xI rfl (bC (λz=>?_) λ_=>?_))))⟩)⟩)))
  .have z:(!decide (x.1.1=x.1.1))=true:=z;rw[decide_eq_true rfl]at z;cases z
  refine xI rfl (xI rfl ⟨_,e0,xI rfl (xI rfl ⟨q::rs,_,q.name,wd,rfl,g,tr,xI rfl ⟨q::rs,_,q.name,wd,rfl,g,tr,by lia,a9.frz (xI rfl (xI rfl (eqw (xI rfl ?_))))⟩⟩)⟩);refine xI rfl (xI rfl ⟨p,S,row,wd,x.1.1,rfl,s48,?_⟩);refine⟨true,true,rfl,rfl,xI rfl (xI rfl ⟨p,S,row,wd,x.1.1,rfl,s48,a9.frz (xI rfl (xI rfl (eqw (neg:=false) (xI rfl (xI rfl ?_)))))⟩)⟩;show(bR R).rt (W.bl (decide (x.1.1 ≥ 0))) M2;rw[decide_eq_true hwl.2];exact⟨_,Sub.refl _,r _ (sb2 _ _ (sb _ _ mt))⟩
end M47
namespace L3
open PySem Spec PyProof.Rows L2
section
variable {K:Ac}{x q:Str}{st:Stmt}{f c:Addr}{ps:List Str}{fd:Bi}{N:List Str}{sp:bE}{rd:Addr->aG}
theorem zfr(P:Bv)(w:Cp)(mg:Str->Option Ae)(base:Heap)(k:Nat)(y:Str)(cyf:Nat->Addr)(hc:fd.code=.ref c)(F:jJ K x q st f fd)(_:Binds K fd ps [])(S:mF N ps (dJ st))(good:∀{cy ws M R},sp ws M R->rd cy (bR R) (bU N ws) M)(hcell:∀n,(Ip q (dJ st) n f (.ref c)).cells.lookup y=some (cyf n))(tm:∀{A:Cq} {outer:List Env} {s:Ag} {H:Hp} {E:XK} {cy:Addr},cP k (A.deeper (Ip q (dJ st) s.heap.objs.size f (.ref c)))->(A.deeper (Ip q (dJ st) s.heap.objs.size f (.ref c))).units+1<Fm->N.Nodup->(Ip q (dJ st) s.heap.objs.size f (.ref c)).cells.lookup y=some cy->jM (kL eQ P w K mg base N q (dJ st) f (.ref c) A outer s H E).nox (gM st) (rd cy))(len:∀ws M R,sp ws M R->ws.length=ps.length:=by intro _ _ _ h;repeat (first|(obtain⟨rfl,_⟩:=h;exact rfl)|obtain⟨_,h⟩:=h)):eN P w K mg base eQ (k+1) f fd ps (fJ K sp):=by
 obtain⟨oc,od,kV,doc,pm,an,cdv,ct,osl,rfl,lk,hcd⟩:=F.ex;cases (show cdv=.ref c from hc);refine ED lk hcd S (λvs H Q E ⟨ws,M,R,am,av,h,_⟩=>by rw[av.length];exact len ws M R h) λA outer s H vs Q E hr ⟨ws,M,R,am,av,h,kk⟩=>⟨_,(tm (E:=E) hr (wB hr) S.nd (hcell _)).nox,bU N ws,M,bR R,?_,am,good h,⟨λσ' H' τ' M' k' am' as' ⟨M'',sb,r⟩=>kk _ H' _ M'' (k'.sub sb) (am'.sub sb) .non r,λv H' w M' k' am' av' ⟨M'',sb,r⟩=>kk v H' w M'' (k'.sub sb) (am'.sub sb) (av'.sub sb) r,λ_ _ _ _ _ _ _ z=>z.elim,λ_ _ _ _ _ _ _ z=>z.elim⟩⟩
 unfold L2.start bU;rw[av.length];exact AS.start av _
end
end L3
namespace M47
open PySem Spec PyProof.Rows L2 L3 Rg
open M69 (K7 K8 K9)
structure Tx(mg:Str->Option Ae):Prop where
 c_GAP:∃t,mg "GAP" = some (.str "" t)
 all_:mg "all" = none
 bool_:mg "bool" = none
 dict_:mg "dict" = none
 enumerate_:mg "enumerate" = none
 int_:mg "int" = none
 isinstance_:mg "isinstance" = none
 len_:mg "len" = none
 list_:mg "list" = none
 range_:mg "range" = none
 reversed_:mg "reversed" = none
 sorted_:mg "sorted" = none
 tuple_:mg "tuple" = none
 zip_:mg "zip" = none
structure Kc(K:Ac)(mg:Str->Option Ae)(C:Cc):Prop where
 cls_Queue:gY K C.q
 at__Queue:mg "Queue" = some (.ref C.q)
 cls_Search:gY K C.s
 at__Search:mg "Search" = some (.ref C.s)
 na_costs:gF K C.q "costs"
 na_waiting:gF K C.q "waiting"
 na_grammar:gF K C.s "grammar"
 na_own:gF K C.s "own"
 na_steps:gF K C.s "steps"
 na_queue:gF K C.s "queue"
 na_reached:gF K C.s "reached"
 na_best:gF K C.s "best"
 na_ends:gF K C.s "ends"
 na_begun:gF K C.s "begun"
structure Al(K:Ac)(mg:Str->Option Ae)(C:Cc)(fa:Nat->Addr)(fb:Nat->Bi):Prop extends Tx mg,Kc K mg C where
 x0:Df K mg "names" AI ["grammar"] (fa 0) (fb 0)
 x1:Df K mg "first_name" AJ ["grammar"] (fa 1) (fb 1)
 x2:Df K mg "marks" AK ["things"] (fa 2) (fb 2)
 x3:Df K mg "places_of" AL ["row"] (fa 3) (fb 3)
 x4:Df K mg "part_facts" AN ["own","parts","cut"] (fa 4) (fb 4)
 x5:Di K C.q "__init__" "Queue.__init__" AQ ["self"] (fa 5) (fb 5)
 x6:Dm K C.q "is_done" "Queue.is_done" AR ["self"] (fa 6) (fb 6)
 x7:Dm K C.q "place_of" "Queue.place_of" AW ["self","cost"] (fa 7) (fb 7)
 x8:Dm K C.q "put" "Queue.put" AU ["self","cost","thing"] (fa 8) (fb 8)
 x9:Dm K C.q "take" "Queue.take" AX ["self"] (fa 9) (fb 9)
 x10:Df K mg "added" AY ["cost","other"] (fa 10) (fb 10)
 x11:Di K C.s "__init__" "Search.__init__" AZ ["self","grammar","steps"] (fa 11) (fb 11)
 x12:Dm K C.s "reach" "Search.reach" A0 ["self","number","cut","cost"] (fa 12) (fb 12)
 x13:Dm K C.s "settle" "Search.settle" A5 ["self","number","cut","cost"] (fa 13) (fb 13)
 x14:Dm K C.s "step_by_name" "Search.step_by_name" A2 ["self","number","cut","cost","key"] (fa 14) (fb 14)
 x15:Dm K C.s "take_next" "Search.take_next" A1 ["self"] (fa 15) (fb 15)
 x16:Df K mg "least_trees" A6 ["grammar","places","steps","weights"] (fa 16) (fb 16)
 x17:Df K mg "facts_within" A7 ["grammar","best","top"] (fa 17) (fb 17)
 x18:Df K mg "knot_of" BA ["number","children"] (fa 18) (fb 18)
 x19:Df K mg "same_word" A9 ["word","begin","end"] (fa 19) (fb 19)
 x20:Df K mg "made_of_best" A8 ["grammar","best","top","of_word","of_rule"] (fa 20) (fb 20)
 x21:Df K mg "best_tree" BB ["grammar","best","top"] (fa 21) (fb 21)
 x22:Df K mg "one_behind_another" BC ["lists"] (fa 22) (fb 22)
 x23:Df K mg "joined" BD ["number","lists"] (fa 23) (fb 23)
 x24:Df K mg "no_weights" BE ["grammar"] (fa 24) (fb 24)
 x25:Df K mg "whole_fact" BF ["grammar","row"] (fa 25) (fb 25)
 x26:Df K mg "words_of" BG ["grammar"] (fa 26) (fb 26)
 x27:Df K mg "with_gaps" BH ["grammar"] (fa 27) (fb 27)
 x28:Df K mg "mend_cost" BI ["row","word","begin","end"] (fa 28) (fb 28)
 x29:Df K mg "drops" BJ ["words"] (fa 29) (fb 29)
 x30:Df K mg "mend_steps" BK ["row","word","begin","end"] (fa 30) (fb 30)
 x31:Df K mg "mending_steps" BL ["grammar","row"] (fa 31) (fb 31)
 x32:Df K mg "least_mends" BM ["grammar","row"] (fa 32) (fb 32)
 x33:Df K mg "fewest_mends" BN ["grammar","row"] (fa 33) (fb 33)
 x34:Df K mg "mended" BO ["steps"] (fa 34) (fb 34)
 x35:Df K mg "is_mend" BP ["row","steps"] (fa 35) (fb 35)
 x36:Df K mg "_law_cell_at" BQ ["script","k"] (fa 36) (fb 36)
 x37:Df K mg "_law_parts" BR ["d","heads"] (fa 37) (fb 37)
 x38:Df K mg "_law_grammar" BS ["script"] (fa 38) (fb 38)
 x39:Df K mg "_law_row" BU ["cells","most"] (fa 39) (fb 39)
 x40:Df K mg "_law_ladder" BV ["cell"] (fa 40) (fb 40)
 x41:Df K mg "_law_case" BW ["script"] (fa 41) (fb 41)
 x42:Df K mg "_law_is_name" BX ["part"] (fa 42) (fb 42)
 x43:Df K mg "_law_fruitful" BY ["rules"] (fa 43) (fb 43)
 x44:Df K mg "_law_right" BZ ["rules","name","tree"] (fa 44) (fb 44)
 x45:Df K mg "_law_words" B0 ["tree"] (fa 45) (fb 45)
 x46:Df K mg "_law_gone" B1 ["steps","row"] (fa 46) (fb 46)
 x47:Df K mg "law" B2 ["script"] (fa 47) (fb 47)
 f_z_joined:C.g=fa 23
 f_same_word:C.h=fa 19
 f_z_knot_of:C.i=fa 18
 hc:(fb 33).code=.ref C.c
 bm:BMod K mg
 hd:Kq K C.c C.t=true
section
variable {P:Bv}{w:Cp}{K:Ac}{mg:Str->Option Ae}{base:Heap}{C:Cc}{fa:Nat->Addr}{fb:Nat->Bi}(Y:Al K mg C fa fb)
seal L2.PE L2.PA L2.PS L2.gE L2.PT L2.PG L2.PI L2.PO
def rQ:=cI P w mg base 0 Y.x0.fn Y.x0.bi cA ZC λhr hu nd=>(aQ (bL (i:=1) nd GL)
   (aQ (e8 Bq rfl (fE (v 0)) (cV (i:=2) nd)
    (aT (j4 iG (w_sub hu (v 1) (aS hu (v 2) aL)))))
   (aT (bQ (mO (GG rfl) (by rfl) Y.list_ qE (aC (v 1) aF))))))
def zfs:=cI P w mg base 0 Y.x1.fn Y.x1.bi cA ZD λhr hu nd=>(aT (bQ (aS hu (aS hu (v 0) aL) aL)))
def rR:=cI P w mg base 0 Y.x2.fn Y.x2.bi cA zaq λhr hu nd=>(aT (bQ (mO (XO rfl) (by rfl) Y.dict_ V6 (aC (d8 (j5 ["thing"] [none] (fE (v 0)) (λB=>(jD (i:=0))) (λB=>nR) (λB=>(cF (aC (v 0) (aC iG aF)))))) aF))))
def AF:=cI P w mg base 0 Y.x3.fn Y.x3.bi cA zbl λhr hu nd=>(aT (bQ (zaQ (by rfl) Y.list_ (by rfl) Y.range_ (bF dZ (cL dO (by rfl) Y.len_ dQ (aC (v 0) aF)) aL))))
def zft:=cI P w mg base 0 Y.x4.fn Y.x4.bi cA zbR λhr hu nd=>(aT (bQ (j5 ["k","part","own","cut"] [none,none,some 0,some 2] (zL (by rfl) Y.enumerate_ (aC (v 1) aF)) (λB=>(kY rfl (fB (jD (i:=0)) (fB (jD (i:=1)) kX)))) (λB=>(qC (b8 (kW hu) (v 1) (v 2)))) (λB=>(cF (aC (v 1) (aC (aS hu (v 3) (v 0)) (aC (aS hu (v 3) (bF dZ (v 0) aL)) aF))))))))
def zfu:=cI P w mg base 0 Y.x5.fn Y.x5.bi cA YY λhr hu nd=>(aQ (lC Y.cls_Queue Y.na_costs (v 0) (iR aF))
   (aT (lC Y.cls_Queue Y.na_waiting (v 0) mT)))
def zfv:=cI P w mg base 0 Y.x6.fn Y.x6.bi cA YX λhr hu nd=>(aT (bQ (l8 (iT hr.units) (cL dO (by rfl) Y.len_ dQ (aC (eI Y.cls_Queue Y.na_costs (v 0)) aF)) aL)))
def zfw:=cI P w mg base 0 Y.x7.fn Y.x7.bi cA YZ λhr hu nd=>(aQ (bL (i:=2) nd aL)
   (aQ (bL (i:=3) nd (cL dO (by rfl) Y.len_ dQ (aC (eI Y.cls_Queue Y.na_costs (v 0)) aF)))
   (aQ (xN Bq (b8 p7 (v 2) (v 3))
    (aQ (bL (i:=4) nd (bF iS (bF dZ (v 2) (v 3)) aL))
   (aT (cR (b8 (X5 hu) (aS hu (eI Y.cls_Queue Y.na_costs (v 0)) (v 4)) (v 1))
    (aT (bL (i:=2) nd (bF dZ (v 4) aL)))
    (aT (bL (i:=3) nd (v 4)))))))
   (aT (bQ (v 2))))))
def zfx:=cI P w mg base 1 Y.x8.fn Y.x8.bi cA Y0 λhr hu nd=>(aQ (cR (b8 (mR hu) (v 1) (eI Y.cls_Queue Y.na_waiting (v 0)))
    (aQ (j4 (iR aF) (w_sub hu (eI Y.cls_Queue Y.na_waiting (v 0)) (v 1)))
   (aT (eF (eR Bs F.slot_list_insert F.type_list_insert X6 (eI Y.cls_Queue Y.na_costs (v 0)) (aC (mY Y.cls_Queue Y.x7.me (zfw Y) (hr.mono (by decide)) Y.x7.bi (v 0) (aC (v 1) aF)) (aC (v 1) aF))))))
    dE)
   (aT (eF (eR Bs Ce Ci gR (aS hu (eI Y.cls_Queue Y.na_waiting (v 0)) (v 1)) (aC (v 2) aF)))))
def zfy:=cI P w mg base 0 Y.x9.fn Y.x9.bi cA Y1 λhr hu nd=>(aQ (bL (i:=1) nd (aS hu (eI Y.cls_Queue Y.na_costs (v 0)) (kS kU aL)))
   (aQ (bL (i:=2) nd (aS hu (eI Y.cls_Queue Y.na_waiting (v 0)) (v 1)))
   (aQ (bL (i:=3) nd (wZ Bs Ls F.type_list_pop xJ (v 2)))
   (aQ (cR (b8 (iT hr.units) (cL dO (by rfl) Y.len_ dQ (aC (v 2) aF)) aL)
    (aQ (eF (wZ Bs Ls F.type_list_pop xJ (eI Y.cls_Queue Y.na_costs (v 0))))
   (aT (eF (eR Hr F.slot_dict_pop F.type_dict_pop (X0 hu) (eI Y.cls_Queue Y.na_waiting (v 0)) (aC (v 1) aF)))))
    dE)
   (aT (bQ (cF (aC (v 1) (aC (v 3) aF)))))))))
def MB:=cI P w mg base 0 Y.x10.fn Y.x10.bi cA zar λhr hu nd=>(aT (bQ (cF (aC (bF dZ (aS hu (v 0) aL) (aS hu (v 1) aL)) (aC (bF dZ (aS hu (v 0) aL) (aS hu (v 1) aL)) aF)))))
def zfz:=cI P w mg base 2 Y.x11.fn Y.x11.bi cA zaz λhr hu nd=>(aQ (lC Y.cls_Search Y.na_grammar (v 0) (v 1))
   (aQ (lC Y.cls_Search Y.na_own (v 0) (b9 (rR Y) Y.x2 hr (aC (d8 (b9 (rQ Y) Y.x0 hr (aC (v 1) aF))) aF)))
   (aQ (lC Y.cls_Search Y.na_steps (v 0) (v 2))
   (aQ (lC Y.cls_Search Y.na_queue (v 0) (XT Y.x5.mak (zfu Y) (hr.mono (by decide)) (by rfl) Y.at__Queue Y.x5.bi))
   (aQ (lC Y.cls_Search Y.na_reached (v 0) mT)
   (aQ (lC Y.cls_Search Y.na_best (v 0) mT)
   (aQ (lC Y.cls_Search Y.na_ends (v 0) mT)
   (aT (lC Y.cls_Search Y.na_begun (v 0) mT)))))))))
def vQ:=cI P w mg base 2 Y.x12.fn Y.x12.bi cA zat λhr hu nd=>(aQ (bL (i:=4) nd (cF (aC (v 1) (aC (cL dO (by rfl) Y.len_ dQ (aC (v 2) aF)) (aC (aS hu (v 2) aL) (aC (aS hu (v 2) (kS kU aL)) aF))))))
   (aT (cR (PW.pt (hV (b8 (mR hu) (v 4) (eI Y.cls_Search Y.na_reached (v 0))) (kT (b8 (HQ hu) (v 3) (aS hu (eI Y.cls_Search Y.na_reached (v 0)) (v 4))))))
    (aQ (j4 (v 3) (w_sub hu (eI Y.cls_Search Y.na_reached (v 0)) (v 4)))
   (aT (eF (mY Y.cls_Queue Y.x8.me (zfx Y) (hr.mono (by decide)) Y.x8.bi (eI Y.cls_Search Y.na_queue (v 0)) (aC (v 3) (aC (cF (aC (v 1) (aC (v 2) aF))) aF))))))
    dE)))
def zfA:=cI P w mg base 3 Y.x13.fn Y.x13.bi cA zaw λhr hu nd=>(aQ (bL (i:=4) nd (cF (aC (aS hu (aS hu (eI Y.cls_Search Y.na_grammar (v 0)) (v 1)) aL) (aC (aS hu (v 2) aL) aF))))
   (aQ (bL (i:=5) nd (bF dZ (v 4) (cF (aC (aS hu (v 2) (kS kU aL)) aF))))
   (aQ (cR (b8 (kW hu) (v 5) (eI Y.cls_Search Y.na_best (v 0)))
    (aT GP)
    dE)
   (aQ (j4 (cF (aC (v 3) (aC (v 1) (aC (v 2) aF)))) (w_sub hu (eI Y.cls_Search Y.na_best (v 0)) (v 5)))
   (aQ (eF (eR Bs Ce Ci gR (eR Hr F.slot_dict_setdefault F.type_dict_setdefault (HL hu) (eI Y.cls_Search Y.na_ends (v 0)) (aC (v 4) (aC (iR aF) aF))) (aC (cF (aC (aS hu (v 2) (kS kU aL)) (aC (v 3) aF))) aF)))
   (aT (e8 Bq rfl (tL (eR Hr F.slot_dict_get F.type_dict_get (yK hu) (eI Y.cls_Search Y.na_begun (v 0)) (aC (v 4) (aC (gS aF) aF)))) (kY rfl (fB (cV (i:=6) nd) (fB (cV (i:=7) nd) (fB (cV (i:=8) nd) kX))))
    (aT (eF (mY Y.cls_Search Y.x12.me (vQ Y) (hr.mono (by decide)) Y.x12.bi (v 0) (aC (v 6) (aC (bF dZ (v 7) (cF (aC (aS hu (v 2) (kS kU aL)) aF))) (aC (b9 (MB Y) Y.x10 hr (aC (v 8) (aC (v 3) aF))) aF)))))))))))))
def zfB:=cI P w mg base 3 Y.x14.fn Y.x14.bi cA zau λhr hu nd=>(aQ (eF (eR Bs Ce Ci gR (eR Hr F.slot_dict_setdefault F.type_dict_setdefault (HL hu) (eI Y.cls_Search Y.na_begun (v 0)) (aC (v 4) (aC (iR aF) aF))) (aC (cF (aC (v 1) (aC (v 2) (aC (v 3) aF)))) aF)))
   (aT (e8 Bq rfl (tL (eR Hr F.slot_dict_get F.type_dict_get (yK hu) (eI Y.cls_Search Y.na_ends (v 0)) (aC (v 4) (aC (gS aF) aF)))) (kY rfl (fB (cV (i:=5) nd) (fB (cV (i:=6) nd) kX)))
    (aT (eF (mY Y.cls_Search Y.x12.me (vQ Y) (hr.mono (by decide)) Y.x12.bi (v 0) (aC (v 1) (aC (bF dZ (v 2) (cF (aC (v 5) aF))) (aC (b9 (MB Y) Y.x10 hr (aC (v 3) (aC (v 6) aF))) aF)))))))))
def zfC:=cI P w mg base 4 Y.x15.fn Y.x15.bi cA zax λhr hu nd=>(aQ (bL (i:=1) nd (yJ Y.cls_Queue Y.x9.me (zfy Y) (hr.mono (by decide)) Y.x9.bi (eI Y.cls_Search Y.na_queue (v 0))))
   (aQ (bL (i:=2) nd (aS hu (v 1) aL))
   (aQ (bL (i:=3) nd (aS hu (aS hu (v 1) aL) aL))
   (aQ (bL (i:=4) nd (aS hu (aS hu (v 1) aL) aL))
   (aQ (cR (b8 (HQ hu) (aS hu (eI Y.cls_Search Y.na_reached (v 0)) (cF (aC (v 3) (aC (cL dO (by rfl) Y.len_ dQ (aC (v 4) aF)) (aC (aS hu (v 4) aL) (aC (aS hu (v 4) (kS kU aL)) aF)))))) (v 2))
    (aT GP)
    dE)
   (aQ (bL (i:=5) nd (aS hu (aS hu (eI Y.cls_Search Y.na_grammar (v 0)) (v 3)) aL))
   (aT (cR (b8 UT (cL dO (by rfl) Y.len_ dQ (aC (v 4) aF)) (cL dO (by rfl) Y.len_ dQ (aC (v 5) aF)))
    (aT (eF (mY Y.cls_Search Y.x13.me (zfA Y) (hr.mono (by decide)) Y.x13.bi (v 0) (aC (v 3) (aC (v 4) (aC (v 2) aF))))))
    (aT (cR (b8 (kW hu) (aS hu (v 5) (bF oK (cL dO (by rfl) Y.len_ dQ (aC (v 4) aF)) aL)) (eI Y.cls_Search Y.na_own (v 0)))
    (aT (eF (mY Y.cls_Search Y.x14.me (zfB Y) (hr.mono (by decide)) Y.x14.bi (v 0) (aC (v 3) (aC (v 4) (aC (v 2) (aC (cF (aC (aS hu (v 5) (bF oK (cL dO (by rfl) Y.len_ dQ (aC (v 4) aF)) aL)) (aC (aS hu (v 4) (kS kU aL)) aF))) aF)))))))
    (aT (e8 Bq rfl (tL (eR Hr F.slot_dict_get F.type_dict_get (yK hu) (eI Y.cls_Search Y.na_steps (v 0)) (aC (cF (aC (aS hu (v 5) (bF oK (cL dO (by rfl) Y.len_ dQ (aC (v 4) aF)) aL)) (aC (aS hu (v 4) (kS kU aL)) aF))) (aC (gS aF) aF)))) (kY rfl (fB (cV (i:=6) nd) (fB (cV (i:=7) nd) kX)))
    (aT (eF (mY Y.cls_Search Y.x12.me (vQ Y) (hr.mono (by decide)) Y.x12.bi (v 0) (aC (v 3) (aC (bF dZ (v 4) (cF (aC (v 6) aF))) (aC (cF (aC (bF dZ (aS hu (v 2) aL) (v 7)) (aC (aS hu (v 2) aL) aF))) aF))))))))))))))))))
def zfD:=cI P w mg base 5 Y.x16.fn Y.x16.bi cA zaF λhr hu nd=>(aQ (bL (i:=4) nd (XS Y.x11.mak (zfz Y) (hr.mono (by decide)) (by rfl) Y.at__Search Y.x11.bi (aC (v 0) (aC (v 2) aF))))
   (aQ (e8 Bq rfl (tM (by rfl) Y.range_ (aC (cL dO (by rfl) Y.len_ dQ (aC (v 0) aF)) aF)) (cV (i:=5) nd)
    (aT (e8 Bq rfl (fE (v 1)) (cV (i:=6) nd)
    (aT (eF (mY Y.cls_Search Y.x12.me (vQ Y) (hr.mono (by decide)) Y.x12.bi (v 4) (aC (v 5) (aC (cF (aC (v 6) aF)) (aC (cF (aC (aS hu (v 3) (v 5)) (aC aL aF))) aF)))))))))
   (aQ (xN Bq (jY (hJ (yJ Y.cls_Queue Y.x6.me (zfv Y) (hr.mono (by decide)) Y.x6.bi (eI Y.cls_Search Y.na_queue (v 4)))))
    (aT (eF (yJ Y.cls_Search Y.x15.me (zfC Y) (hr.mono (by decide)) Y.x15.bi (v 4)))))
   (aT (bQ (eI Y.cls_Search Y.na_best (v 4)))))))
def MC:=cI P w mg base 1 Y.x17.fn Y.x17.bi cA zbU λhr hu nd=>(aQ (bL (i:=3) nd (b9 (rR Y) Y.x2 hr (aC (d8 (b9 (rQ Y) Y.x0 hr (aC (v 0) aF))) aF)))
   (aQ (bL (i:=4) nd (zbu hu (v 2) iG))
   (aQ (bL (i:=5) nd (iR (aC (v 2) aF)))
   (aQ (xN Bq (hJ (v 5))
    (aQ (bL (i:=6) nd (aS hu (v 1) (wZ Bs Ls F.type_list_pop xJ (v 5))))
   (aT (e8 Bq rfl (fE (d8 (b9 (zft Y) Y.x4 hr (aC (v 3) (aC (aS hu (aS hu (v 0) (aS hu (v 6) aL)) aL) (aC (aS hu (v 6) aL) aF)))))) (cV (i:=7) nd)
    (aT (cR (b8 (mR hu) (v 7) (v 4))
    (aQ (j4 iG (w_sub hu (v 4) (v 7)))
   (aT (eF (eR Bs Ce Ci gR (v 5) (aC (v 7) aF)))))
    dE))))))
   (aT (bQ (j5 ["fact","found"] [none,some 4] (zaN (v 1)) (λB=>(jD (i:=0))) (λB=>(qC (b8 (kW hu) (v 0) (v 1)))) (λB=>(v 0)))))))))
def zfE:=cI P w mg base 0 Y.x18.fn Y.x18.bi cA K9 λhr hu nd=>(aT (bQ (cF (aC (v 0) (aC (mO GH (by rfl) Y.tuple_ oR (aC (v 1) aF)) aF)))))
def zfF:=cI P w mg base 0 Y.x19.fn Y.x19.bi cA zbO λhr hu nd=>(aT (bQ (v 0)))
def zfG:=cI P w mg base 2 Y.x20.fn Y.x20.bi cA zeU λhr hu nd=>(aQ (bL (i:=5) nd (b9 (rR Y) Y.x2 hr (aC (d8 (b9 (rQ Y) Y.x0 hr (aC (v 0) aF))) aF)))
   (aQ (bL (i:=6) nd mT)
   (aQ (e8 Bq rfl (fE (d8 (b9 (MC Y) Y.x17 hr (aC (v 0) (aC (v 1) (aC (v 2) aF)))))) (cV (i:=7) nd)
    (aQ (bL (i:=8) nd (aS hu (aS hu (v 1) (v 7)) aL))
   (aQ (bL (i:=9) nd (aS hu (aS hu (v 1) (v 7)) aL))
   (aQ (bL (i:=10) nd (iR aF))
   (aQ (e8 Bq rfl (zL (by rfl) Y.enumerate_ (aC (aS hu (aS hu (v 0) (v 8)) aL) aF)) (kY rfl (fB (cV (i:=11) nd) (fB (cV (i:=12) nd) kX)))
    (aT (cR (b8 (kW hu) (v 12) (v 5))
    (aT (eF (eR Bs Ce Ci gR (v 10) (aC (aS hu (v 6) (cF (aC (v 12) (aC (aS hu (v 9) (v 11)) (aC (aS hu (v 9) (bF dZ (v 11) aL)) aF))))) aF))))
    (aT (eF (eR Bs Ce Ci gR (v 10) (aC (zH (i:=3) Y.f_same_word (zfF Y) hr Y.x19.fn.kp Y.x19.bi (aC (v 12) (aC (aS hu (v 9) (v 11)) (aC (aS hu (v 9) (bF dZ (v 11) aL)) aF)))) aF)))))))
   (aT (j4 (zH (i:=4) Y.f_z_knot_of (zfE Y) hr Y.x18.fn.kp Y.x18.bi (aC (v 8) (aC (d8 (v 10)) aF))) (w_sub hu (v 6) (v 7)))))))))
   (aT (bQ (aS hu (v 6) (v 2)))))))
def zfH:=cI P w mg base 3 Y.x21.fn Y.x21.bi cA zeV λhr hu nd=>(aT (bQ (b9 (zfG Y) Y.x20 hr (aC (v 0) (aC (v 1) (aC (v 2) (aC (zJ Y.f_same_word Y.x19) (aC (zJ Y.f_z_knot_of Y.x18) aF))))))))
def zfI:=cI P w mg base 0 Y.x22.fn Y.x22.bi cA K7 λhr hu nd=>(aQ (bL (i:=1) nd (iR aF))
   (aQ (e8 Bq rfl (fE (v 0)) (cV (i:=2) nd)
    (aT (eF (eR Bs F.slot_list_extend F.type_list_extend VD (v 1) (aC (v 2) aF)))))
   (aT (bQ (v 1)))))
def zfJ:=cI P w mg base 1 Y.x23.fn Y.x23.bi cA K8 λhr hu nd=>(aT (bQ (b9 (zfI Y) Y.x22 hr (aC (v 1) aF))))
def zfK:=cI P w mg base 0 Y.x24.fn Y.x24.bi cA zbg λhr hu nd=>(aT (bQ (j5 ["rule"] [none] (fE (v 0)) (λB=>(jD (i:=0))) (λB=>nR) (λB=>aL))))
def zfL:=cI P w mg base 1 Y.x25.fn Y.x25.bi cA zbN λhr hu nd=>(aT (bQ (cF (aC (b9 (zfs Y) Y.x1 hr (aC (v 0) aF)) (aC aL (aC (cL dO (by rfl) Y.len_ dQ (aC (v 1) aF)) aF))))))
def zfM:=cI P w mg base 1 Y.x26.fn Y.x26.bi cA zct λhr hu nd=>(aQ (bL (i:=1) nd (b9 (rR Y) Y.x2 hr (aC (d8 (b9 (rQ Y) Y.x0 hr (aC (v 0) aF))) aF)))
   (aQ (bL (i:=2) nd GL)
   (aQ (e8 Bq rfl (fE (v 0)) (cV (i:=3) nd)
    (aT (e8 Bq rfl (fE (aS hu (v 3) aL)) (cV (i:=4) nd)
    (aT (cR (b8 (mR hu) (v 4) (v 1))
    (aT (j4 iG (w_sub hu (v 2) (v 4))))
    dE)))))
   (aT (bQ (cL (WL rfl) (by rfl) Y.sorted_ V8 (aC (d8 (v 2)) aF)))))))
def MD:=cI P w mg base 0 Y.x27.fn Y.x27.bi cA zeL λhr hu nd=>Y.c_GAP.elim λt_GAP h_GAP=>(aT (bQ (d8 (j5 ["rule"] [none] (fE (v 0)) (λB=>(jD (i:=0))) (λB=>nR) (λB=>(wY (b8 (gQ hr.units) (aS hu (v 0) aL) (cF aF)) (v 0) (cF (aC (aS hu (v 0) aL) (aC (cF (aC (sX (y:=V.str "") (by rfl) h_GAP ⟨_,rfl⟩ (λ_ _=>.str _)) aF)) (aC (aS hu (v 0) aL) aF))))))))))
def zfN:=cI P w mg base 0 Y.x28.fn Y.x28.bi cA zeI λhr hu nd=>Y.c_GAP.elim λt_GAP h_GAP=>(aQ (bL (i:=4) nd (j6 (v 0) (i5 (v 2)) (i5 (v 3))))
   (aQ (cR (b8 (iT hr.units) (v 1) (sX (y:=V.str "") (by rfl) h_GAP ⟨_,rfl⟩ (λ_ _=>.str _)))
    (aT (bQ (cL dO (by rfl) Y.len_ dQ (aC (v 4) aF))))
    dE)
   (aQ (cR (b8 (iT hr.units) (cL dO (by rfl) Y.len_ dQ (aC (v 4) aF)) aL)
    (aT (bQ aL))
    dE)
   (aT (bQ (wY (b8 (kW hu) (v 1) (v 4)) (bF oK (cL dO (by rfl) Y.len_ dQ (aC (v 4) aF)) aL) (cL dO (by rfl) Y.len_ dQ (aC (v 4) aF))))))))
def vR:=cI P w mg base 0 Y.x29.fn Y.x29.bi cA zeG λhr hu nd=>(aT (bQ (d8 (j5 ["word"] [none] (fE (v 0)) (λB=>(jD (i:=0))) (λB=>nR) (λB=>(cF (aC cE (aC (v 0) aF))))))))
def zfO:=cI P w mg base 1 Y.x30.fn Y.x30.bi cA zeJ λhr hu nd=>Y.c_GAP.elim λt_GAP h_GAP=>(aQ (bL (i:=4) nd (j6 (v 0) (i5 (v 2)) (i5 (v 3))))
   (aQ (cR (b8 (iT hr.units) (v 1) (sX (y:=V.str "") (by rfl) h_GAP ⟨_,rfl⟩ (λ_ _=>.str _)))
    (aT (bQ (b9 (vR Y) Y.x29 hr (aC (v 4) aF))))
    dE)
   (aQ (cR (b8 (iT hr.units) (cL dO (by rfl) Y.len_ dQ (aC (v 4) aF)) aL)
    (aT (bQ (gS (aC (cF (aC cE (aC (v 1) aF))) aF))))
    dE)
   (aQ (cR (b8 (kW hu) (v 1) (v 4))
    (aQ (bL (i:=5) nd (eR Bs F.slot_list_index F.type_list_index zcb (v 4) (aC (v 1) aF)))
   (aT (bQ (bF dZ (bF dZ (b9 (vR Y) Y.x29 hr (aC (j6 (v 4) lS (i5 (v 5))) aF)) (gS (aC (cF (aC cE (aC (v 1) aF))) aF))) (b9 (vR Y) Y.x29 hr (aC (j6 (v 4) (i5 (bF dZ (v 5) aL)) lS) aF))))))
    dE)
   (aT (bQ (bF dZ (gS (aC (cF (aC cE (aC (aS hu (v 4) aL) (aC (v 1) aF)))) aF)) (b9 (vR Y) Y.x29 hr (aC (j6 (v 4) (i5 aL) lS) aF)))))))))
def zfP:=cI P w mg base 2 Y.x31.fn Y.x31.bi cA zeP λhr hu nd=>(aQ (bL (i:=2) nd mT)
   (aQ (e8 Bq rfl (fE (b9 (zfM Y) Y.x26 hr (aC (v 0) aF))) (cV (i:=3) nd)
    (aT (e8 Bq rfl (fE (d8 (b9 (AF Y) Y.x3 hr (aC (v 1) aF)))) (cV (i:=4) nd)
    (aQ (zbr (i:=5) nd ["end","begin"] [none,some 4] (fE (d8 (b9 (AF Y) Y.x3 hr (aC (v 1) aF)))) (λB=>(jD (i:=0))) (λB=>(qC (b8 FY (v 0) (v 1)))) (λB=>(v 0)))
   (aT (j4 (d8 (j5 ["end","row","word","begin"] [none,some 1,some 3,some 4] (fE (v 5)) (λB=>(jD (i:=0))) (λB=>nR) (λB=>(cF (aC (v 0) (aC (b9 (zfN Y) Y.x28 hr (aC (v 1) (aC (v 2) (aC (v 3) (aC (v 0) aF))))) aF)))))) (w_sub hu (v 2) (cF (aC (v 3) (aC (v 4) aF))))))))))
   (aT (bQ (v 2)))))
def zfQ:=cI P w mg base 6 Y.x32.fn Y.x32.bi cA zeR λhr hu nd=>(aQ (bL (i:=2) nd (b9 (MD Y) Y.x27 hr (aC (v 0) aF)))
   (aT (bQ (b9 (zfD Y) Y.x16 hr (aC (v 2) (aC (d8 (b9 (AF Y) Y.x3 hr (aC (v 1) aF))) (aC (d8 (b9 (zfP Y) Y.x31 hr (aC (v 2) (aC (v 1) aF)))) (aC (d8 (b9 (zfK Y) Y.x24 hr (aC (v 0) aF))) aF))))))))
def zfR{cy:Addr}{vv:V}(hc:pF base cy vv):=cI P w mg base 5 Y.x20.fn Y.x20.bi cA (zeW (cy:=cy) (v:=vv)) λhr hu nd=>(aQ (bL (i:=5) nd (b9 (rR Y) Y.x2 hr (aC (d8 (b9 (rQ Y) Y.x0 hr (aC (v 0) aF))) aF)))
   (aQ (bL (i:=6) nd mT)
   (aQ (e8 Bq rfl (fE (d8 (b9 (MC Y) Y.x17 hr (aC (v 0) (aC (v 1) (aC (v 2) aF)))))) (cV (i:=7) nd)
    (aQ (bL (i:=8) nd (aS hu (aS hu (v 1) (v 7)) aL))
   (aQ (bL (i:=9) nd (aS hu (aS hu (v 1) (v 7)) aL))
   (aQ (bL (i:=10) nd (iR aF))
   (aQ (e8 Bq rfl (zL (by rfl) Y.enumerate_ (aC (aS hu (aS hu (v 0) (v 8)) aL) aF)) (kY rfl (fB (cV (i:=11) nd) (fB (cV (i:=12) nd) kX)))
    (aT (cR (b8 (kW hu) (v 12) (v 5))
    (aT (eF (eR Bs Ce Ci gR (v 10) (aC (aS hu (v 6) (cF (aC (v 12) (aC (aS hu (v 9) (v 11)) (aC (aS hu (v 9) (bF dZ (v 11) aL)) aF))))) aF))))
    (aT (eF (eR Bs Ce Ci gR (v 10) (aC (zca (i:=3) (k:=4) (L:=jE) (cy:=cy) (v:=vv) (show pF base cy vv from hc) LA (hr.mono (by decide)) (λ_ _ _ _ _ _ hr=>(b9 (zfO Y) Y.x30 (hr.deeper _) (aC (v 3) (aC (v 0) (aC (v 1) (aC (v 2) aF)))))) (aC (v 12) (aC (aS hu (v 9) (v 11)) (aC (aS hu (v 9) (bF dZ (v 11) aL)) aF)))) aF)))))))
   (aT (j4 (zH (i:=4) Y.f_z_joined (zfJ Y) hr Y.x23.fn.kp Y.x23.bi (aC (v 8) (aC (d8 (v 10)) aF))) (w_sub hu (v 6) (v 7)))))))))
   (aT (bQ (aS hu (v 6) (v 2)))))))
def zfS:=zfr P w mg base 7 "row" (λn=>n+1) Y.hc Y.x33.fn Y.x33.bi cA ze0 (λ_=>rfl) λhr hu nd hcy=>(aQ (bL (i:=2) nd (zaI (b9 (zfQ Y) Y.x32 hr (aC (v 0) (aC (v 1) aF)))))
   (aQ (bL (i:=3) nd (b9 (zfL Y) Y.x25 hr (aC (v 0) (aC (v 1) aF))))
   (aQ (cR (b8 (mR hu) (v 3) (v 2))
    (aT (bQ oJ))
    dE)
   (aQ (bL (i:=4) nd (zb9 (y:="row") (j:=1) (sp:=zV C) (λbase v hc=>zfR Y hc) hr Y.x20.at_ Y.x20.fn.kp Y.x20.bi (aC (b9 (MD Y) Y.x27 hr (aC (v 0) aF)) (aC (v 2) (aC (v 3) (aC (zb8 (L:=jE) Y.bm rfl Y.hd (by kernel_rfl) hcy LA) (aC (zJ Y.f_z_joined Y.x23) aF))))) hcy rfl rfl))
   (aT (bQ (cF (aC (aS hu (aS hu (aS hu (v 2) (v 3)) aL) aL) (aC (v 4) (aC (b9 (zfH Y) Y.x21 hr (aC (v 0) (aC (v 2) (aC (v 3) aF)))) aF))))))))))
def zfT:=cI P w mg base 0 Y.x34.fn Y.x34.bi cA ze3 λhr hu nd=>(aT (bQ (j5 ["step"] [none] (fE (v 0)) (λB=>(jD (i:=0))) (λB=>(qC (b8 (gQ hr.units) (aS hu (v 0) aL) cE))) (λB=>(aS hu (v 0) (kS kU aL))))))
def zfU:=cI P w mg base 0 Y.x35.fn Y.x35.bi cA ze4 λhr hu nd=>(aT (bQ (l8 (iT hr.units) (d8 (j5 ["step"] [none] (fE (v 1)) (λB=>(jD (i:=0))) (λB=>(qC (b8 (gQ hr.units) (aS hu (v 0) aL) cE))) (λB=>(aS hu (v 0) aL)))) (v 0))))
def AG:=cI P w mg base 0 Y.x36.fn Y.x36.bi cA ze6 λhr hu nd=>(aQ (cR (b8 p7 (v 1) (cL dO (by rfl) Y.len_ dQ (aC (v 0) aF)))
    (aT (bQ (aS hu (v 0) (v 1))))
    dE)
   (aT (bQ aL)))
def zfV:=cI P w mg base 0 Y.x37.fn Y.x37.bi cA zfj λhr hu nd=>(aQ (bL (i:=2) nd (iR aF))
   (aQ (e8 Bq rfl (tM (by rfl) Y.range_ (aC (aS hu (gS (aC aL (aC aL (aC aL (aC aL (aC aL (aC aL aF))))))) (bF f9 (v 0) aL)) aF)) (cV (i:=3) nd)
    (aQ (bL (i:=4) nd (bF f9 (bF iS (v 0) (bF dZ aL (bF xS aL (v 3)))) aL))
   (aT (cR (b8 p7 (v 4) aL)
    (aT (eF (eR Bs Ce Ci gR (v 2) (aC (aS hu (gS (aC cE (aC cE (aC cE aF)))) (bF f9 (v 4) aL)) aF))))
    (aT (eF (eR Bs Ce Ci gR (v 2) (aC (aS hu (v 1) (bF f9 (v 4) (cL dO (by rfl) Y.len_ dQ (aC (v 1) aF)))) aF))))))))
   (aT (bQ (mO GH (by rfl) Y.tuple_ oR (aC (v 2) aF))))))
def zfW:=cI P w mg base 1 Y.x38.fn Y.x38.bi cA zfk λhr hu nd=>(aQ (bL (i:=1) nd (b9 (AG Y) Y.x36 hr (aC (v 0) (aC aL aF))))
   (aQ (bL (i:=2) nd (j6 (gS (aC cE (aC cE (aC cE aF)))) lS (i5 (bF dZ aL (bF f9 (bF iS (v 1) aL) aL)))))
   (aQ (bL (i:=3) nd (iR aF))
   (aQ (e8 Bq rfl (tM (by rfl) Y.range_ (aC (bF dZ (cL dO (by rfl) Y.len_ dQ (aC (v 2) aF)) (bF f9 (bF iS (v 1) aL) aL)) aF)) (cV (i:=4) nd)
    (aQ (bL (i:=5) nd (b9 (AG Y) Y.x36 hr (aC (v 0) (aC (bF dZ aL (v 4)) aF))))
   (aQ (cR (b8 (iT hr.units) (bF f9 (v 1) aL) aL)
    (aT (bL (i:=5) nd (bF iS (bF xS (bF dZ (bF f9 (v 5) (bF FT aL aL)) (v 4)) (bF dZ (bF dZ (bF f9 (v 5) (bF FT aL aL)) (bF xS aL (v 4))) aL)) aL)))
    dE)
   (aQ (bL (i:=6) nd (aS hu (v 2) (bF f9 (v 5) (cL dO (by rfl) Y.len_ dQ (aC (v 2) aF)))))
   (aQ (cR (b8 p7 (v 4) (cL dO (by rfl) Y.len_ dQ (aC (v 2) aF)))
    (aT (bL (i:=6) nd (aS hu (v 2) (v 4))))
    dE)
   (aT (eF (eR Bs Ce Ci gR (v 3) (aC (cF (aC (v 6) (aC (b9 (zfV Y) Y.x37 hr (aC (bF iS (v 5) aL) (aC (v 2) aF))) (aC (bF f9 (bF iS (v 5) aL) aL) aF)))) aF)))))))))
   (aT (bQ (v 3)))))))
def ME:=cI P w mg base 0 Y.x39.fn Y.x39.bi cA zfi λhr hu nd=>(aT (bQ (j5 ["cell"] [none] (fE (j6 (v 0) lS (i5 (v 1)))) (λB=>(jD (i:=0))) (λB=>nR) (λB=>(aS hu (gS (aC cE (aC cE (aC cE aF)))) (bF f9 (v 0) aL))))))
def zfX:=cI P w mg base 0 Y.x40.fn Y.x40.bi cA zfn λhr hu nd=>(aQ (bL (i:=1) nd (j6 (gS (aC cE (aC cE (aC cE (aC cE (aC cE (aC cE (aC cE (aC cE aF))))))))) lS (i5 (bF dZ aL (bF f9 (v 0) aL)))))
   (aQ (bL (i:=2) nd (iR aF))
   (aQ (e8 Bq rfl (tM (by rfl) Y.range_ (aC (bF oK (cL dO (by rfl) Y.len_ dQ (aC (v 1) aF)) aL) aF)) (cV (i:=3) nd)
    (aT (eF (eR Bs Ce Ci gR (v 2) (aC (cF (aC (aS hu (v 1) (v 3)) (aC (cF (aC (aS hu (v 1) (bF dZ (v 3) aL)) aF)) (aC aL aF)))) aF)))))
   (aQ (eF (eR Bs Ce Ci gR (v 2) (aC (cF (aC (aS hu (v 1) (kS kU aL)) (aC (aS hu (gS (aC (cF (aC cE (aC cE aF))) (aC (cF (aC cE (aC cE aF))) (aC (cF (aC cE (aC cE (aC cE aF)))) aF)))) (bF f9 (bF iS (v 0) aL) aL)) (aC aL aF)))) aF)))
   (aQ (eF (eR Bs Ce Ci gR (v 2) (aC (cF (aC (aS hu (v 1) (bF f9 (bF iS (v 0) aL) (cL dO (by rfl) Y.len_ dQ (aC (v 1) aF)))) (aC (aS hu (gS (aC (cF (aC cE aF)) (aC (cF aF) aF))) (bF f9 (bF iS (v 0) aL) aL)) (aC aL aF)))) aF)))
   (aQ (cR (b8 (iT hr.units) (bF f9 (bF iS (v 0) aL) aL) aL)
    (aT (bQ (zci (by rfl) Y.list_ (by rfl) Y.reversed_ (v 2))))
    dE)
   (aT (bQ (v 2)))))))))
def zfY:=cI P w mg base 2 Y.x41.fn Y.x41.bi cA zfl λhr hu nd=>(aQ (bL (i:=1) nd (b9 (AG Y) Y.x36 hr (aC (v 0) (aC aL aF))))
   (aQ (bL (i:=2) nd (bF f9 (bF iS (v 1) aL) aL))
   (aQ (cR (b8 (iT hr.units) (bF f9 (bF iS (v 1) aL) aL) aL)
    (aT (bQ (cF (aC (d8 (b9 (zfX Y) Y.x40 hr (aC (bF iS (v 1) aL) aF))) (aC (d8 (b9 (ME Y) Y.x39 hr (aC (j6 (v 0) (i5 aL) lS) (aC (bF dZ (v 2) aL) aF)))) aF)))))
    dE)
   (aT (bQ (cF (aC (d8 (b9 (zfW Y) Y.x38 hr (aC (v 0) aF))) (aC (d8 (b9 (ME Y) Y.x39 hr (aC (j6 (v 0) (i5 aL) lS) (aC (v 2) aF)))) aF))))))))
def AH:=cI P w mg base 0 Y.x42.fn Y.x42.bi cA ze5 λhr hu nd=>(aT (bQ (l8 (kW hu) (v 0) (gS (aC cE (aC cE (aC cE (aC cE (aC cE (aC cE (aC cE (aC cE aF))))))))))))
def zfZ:=cI P w mg base 1 Y.x43.fn Y.x43.bi cA zfa λhr hu nd=>(aQ (bL (i:=1) nd (iR aF))
   (aQ (e8 Bq rfl (fE (v 0)) (cV (i:=2) nd)
    (aT (e8 Bq rfl (tL (v 0)) (kY rfl (fB (cV (i:=3) nd) (fB (cV (i:=4) nd) (fB (cV (i:=5) nd) kX))))
    (aT (cR (PW.pt (wW (b8 (mR hu) (v 3) (v 1)) (wV (hJ (cL (VC rfl) (by rfl) Y.all_ V7 (aC (d8 (j5 ["part","found"] [none,some 1] (fE (v 4)) (λB=>(jD (i:=0))) (λB=>nR) (λB=>(v_or (v_not (b9 (AH Y) Y.x42 hr (aC (v 0) aF))) (FN (l8 (kW hu) (v 0) (v 1))))))) aF))))))
    (aT (eF (eR Bs Ce Ci gR (v 1) (aC (v 3) aF))))
    dE)))))
   (aT (bQ (v 1)))))
theorem MF(Y:Al K mg C fa fb):∀n,eN P w K mg base eQ (2+n) (fa 44) (fb 44) ["rules","name","tree"] (fJ K (rM n))
 | 0=>tN (k:=1) Y.x44.fn (cA (N:=LR)) (λ_ _ _ h=>h.elim) λ_ _ _ _ _ _ _ _ _ _ h=>h.elim
 | n+1=>J6 P w mg base (2+n) Y.x44.fn Y.x44.bi cA (zfb (n+1)) zfd λhr hu nd=>(aQ (cR (PW.pt (hV (jY (hJ (cL lT (by rfl) Y.isinstance_ lU (aC (v 2) (aC (lO (by rfl) Y.tuple_ oR (y:=.ty "tuple") rfl (λ_ _=>.ty _)) aF))))) (hV (b8 (gQ hr.units) (cL dO (by rfl) Y.len_ dQ (aC (v 2) aF)) aL) (hV (jY (hJ (cL lT (by rfl) Y.isinstance_ lU (aC (aS hu (v 2) aL) (aC (lO (by rfl) Y.int_ xX (y:=.ty "int") rfl (λ_ _=>.ty _)) aF))))) (kT (hJ (cL lT (by rfl) Y.isinstance_ lU (aC (aS hu (v 2) aL) (aC (lO (by rfl) Y.bool_ G3 (y:=.ty "bool") rfl (λ_ _=>.ty _)) aF)))))))))
    (aT (bQ iG))
    dE)
   (aQ (cR (PW.pt (hV (jY (WC US p7 aL (aS hu (v 2) aL) (cL dO (by rfl) Y.len_ dQ (aC (v 0) aF)))) (hV (b8 (gQ hr.units) (aS hu (aS hu (v 0) (aS hu (v 2) aL)) aL) (v 1)) (kT (jY (hJ (cL lT (by rfl) Y.isinstance_ lU (aC (aS hu (v 2) aL) (aC (lO (by rfl) Y.tuple_ oR (y:=.ty "tuple") rfl (λ_ _=>.ty _)) aF)))))))))
    (aT (bQ iG))
    dE)
   (aQ (bL (i:=3) nd (aS hu (aS hu (v 0) (aS hu (v 2) aL)) aL))
   (aQ (cR (b8 (gQ hr.units) (cL dO (by rfl) Y.len_ dQ (aC (v 3) aF)) (cL dO (by rfl) Y.len_ dQ (aC (aS hu (v 2) aL) aF)))
    (aT (bQ iG))
    dE)
   (aQ (e8 Bq rfl (WH (by rfl) Y.zip_ (aC (v 3) (aC (aS hu (v 2) aL) aF))) (kY rfl (fB (cV (i:=4) nd) (fB (cV (i:=5) nd) kX)))
    (aT (cR (PW.pt (hV (PW.pt (wW (jY (hJ (p0 (AH Y) (hr.mono (by lia)) (by rfl) Y.x42.at_ Y.x42.fn.kp Y.x42.bi (aC (v 4) aF)))) (wV (b8 (gQ hr.units) (v 5) (v 4))))) (kT (PW.pt (wW (hJ (p0 (AH Y) (hr.mono (by lia)) (by rfl) Y.x42.at_ Y.x42.fn.kp Y.x42.bi (aC (v 4) aF))) (wV (jY (hJ (p0 (MF Y n) (hr.mono (by lia)) (by rfl) Y.x44.at_ Y.x44.fn.kp Y.x44.bi (aC (v 0) (aC (v 4) (aC (v 5) aF))))))))))))
    (aT (bQ iG))
    dE)))
   (aT (bQ iG)))))))
def zf0:=MF (P:=P) (w:=w) (base:=base) Y 105
theorem MG(Y:Al K mg C fa fb):∀n,eN P w K mg base eQ (1+n) (fa 45) (fb 45) ["tree"] (fJ K (rN n))
 | 0=>tN (k:=0) Y.x45.fn (cA (N:=LS)) (λ_ _ _ h=>h.elim) λ_ _ _ _ _ _ _ _ _ _ h=>h.elim
 | n+1=>J6 P w mg base (1+n) Y.x45.fn Y.x45.bi cA (zfc (n+1)) zfg λhr hu nd=>(aQ (bL (i:=1) nd (iR aF))
   (aQ (e8 Bq rfl (fE (aS hu (v 0) aL)) (cV (i:=2) nd)
    (aT (cR (hJ (cL lT (by rfl) Y.isinstance_ lU (aC (v 2) (aC (lO (by rfl) Y.tuple_ oR (y:=.ty "tuple") rfl (λ_ _=>.ty _)) aF))))
    (aT (bL (i:=1) nd (bF FR (v 1) (d8 (p0 (MG Y n) (hr.mono (by lia)) (by rfl) Y.x45.at_ Y.x45.fn.kp Y.x45.bi (aC (v 2) aF))))))
    (aT (eF (eR Bs Ce Ci gR (v 1) (aC (v 2) aF)))))))
   (aT (bQ (v 1)))))
def zf1:=MG (P:=P) (w:=w) (base:=base) Y 105
def zf2:=cI P w mg base 0 Y.x46.fn Y.x46.bi cA ze8 λhr hu nd=>(aQ (bL (i:=2) nd (mO (xT rfl) (by rfl) Y.list_ qE (aC (v 1) aF)))
   (aQ (bL (i:=3) nd (iR aF))
   (aQ (bL (i:=4) nd aL)
   (aQ (e8 Bq rfl (fE (v 0)) (cV (i:=5) nd)
    (aQ (cR (b8 (gQ hr.units) (aS hu (v 5) aL) cE)
    (aQ (cR (PW.pt (hV (b8 (iT hr.units) (v 2) (gS aF)) (kT (b8 (gQ hr.units) (aS hu (v 2) aL) (aS hu (v 5) aL)))))
    (aT (bQ oJ))
    dE)
   (aT (bL (i:=2) nd (j6 (v 2) (i5 aL) lS))))
    dE)
   (aQ (cR (b8 (gQ hr.units) (aS hu (v 5) aL) cE)
    (aT (eF (eR Bs Ce Ci gR (v 3) (aC (aS hu (v 5) (bF oK (cL dO (by rfl) Y.len_ dQ (aC (v 5) aF)) aL)) aF))))
    dE)
   (aQ (cR (b8 (gQ hr.units) (aS hu (v 5) aL) cE)
    (aT (bL (i:=4) nd (bF dZ (v 4) aL)))
    dE)
   (aT (cR (PW.pt (hV (b8 (gQ hr.units) (cL dO (by rfl) Y.len_ dQ (aC (v 5) aF)) (bF dZ aL (mO zbh (by rfl) Y.int_ xX (aC (l8 (iT hr.units) (aS hu (v 5) aL) cE) aF)))) (kT (b8 (mR hu) (aS hu (v 5) aL) (gS (aC cE (aC cE (aC cE (aC cE aF)))))))))
    (aT (bQ oJ))
    dE))))))
   (aT (bQ (wY (b8 (iT hr.units) (v 2) (gS aF)) (cF (aC (v 3) (aC (v 4) aF))) oJ)))))))
def zf3:=cI P w mg base 107 Y.x47.fn Y.x47.bi cA zfq λhr hu nd=>(aQ (j4 (b9 (zfY Y) Y.x41 hr (aC (v 0) aF)) (kY rfl (fB (cV (i:=1) nd) (fB (cV (i:=2) nd) kX))))
   (aQ (bL (i:=3) nd (mO (xT rfl) (by rfl) Y.list_ qE (aC (v 1) aF)))
   (aQ (bL (i:=4) nd (mO (xT rfl) (by rfl) Y.list_ qE (aC (v 2) aF)))
   (aQ (bL (i:=5) nd (b9 (zfS Y) Y.x33 hr (aC (v 3) (aC (v 4) aF))))
   (aQ (cR (PW.pt (hV (b8 (gQ hr.units) (v 3) (v 1)) (kT (b8 (gQ hr.units) (v 4) (v 2)))))
    (aT (bQ iG))
    dE)
   (aQ (cR (b8 (mR hu) (aS hu (aS hu (v 1) aL) aL) (d8 (b9 (zfZ Y) Y.x43 hr (aC (v 1) aF))))
    (aT (bQ (l8 FZ (v 5) oJ)))
    dE)
   (aQ (cR (PW.pt (hV (jY (hJ (cL lT (by rfl) Y.isinstance_ lU (aC (v 5) (aC (lO (by rfl) Y.tuple_ oR (y:=.ty "tuple") rfl (λ_ _=>.ty _)) aF))))) (hV (b8 (gQ hr.units) (cL dO (by rfl) Y.len_ dQ (aC (v 5) aF)) aL) (kT (jY (hJ (cL lT (by rfl) Y.isinstance_ lU (aC (aS hu (v 5) aL) (aC (lO (by rfl) Y.list_ qE (y:=.ty "list") rfl (λ_ _=>.ty _)) aF)))))))))
    (aT (bQ iG))
    dE)
   (aQ (j4 (v 5) (kY rfl (fB (cV (i:=6) nd) (fB (cV (i:=7) nd) (fB (cV (i:=8) nd) kX)))))
   (aQ (bL (i:=9) nd (b9 (zf2 Y) Y.x46 hr (aC (v 7) (aC (v 2) aF))))
   (aQ (cR (PW.pt (hV (b8 FZ (v 9) oJ) (hV (jY (hJ (cL lT (by rfl) Y.isinstance_ lU (aC (v 6) (aC (lO (by rfl) Y.int_ xX (y:=.ty "int") rfl (λ_ _=>.ty _)) aF))))) (hV (hJ (cL lT (by rfl) Y.isinstance_ lU (aC (v 6) (aC (lO (by rfl) Y.bool_ G3 (y:=.ty "bool") rfl (λ_ _=>.ty _)) aF)))) (kT (b8 (gQ hr.units) (aS hu (v 9) aL) (v 6)))))))
    (aT (bQ iG))
    dE)
   (aQ (cR (PW.pt (hV (jY (hJ (b9 (zf0 Y) Y.x44 hr (aC (v 1) (aC (aS hu (aS hu (v 1) aL) aL) (aC (v 8) aF)))))) (kT (b8 (gQ hr.units) (d8 (b9 (zf1 Y) Y.x45 hr (aC (v 8) aF))) (aS hu (v 9) aL)))))
    (aT (bQ iG))
    dE)
   (aT (bQ (v_and (l8 XQ (b9 (zfU Y) Y.x35 hr (aC (v 2) (aC (v 7) aF))) iG) (v_and (l8 (iT hr.units) (d8 (b9 (zfT Y) Y.x34 hr (aC (v 7) aF))) (aS hu (v 9) aL)) (FN (l8 FY (v 6) aL)))))))))))))))))
end
section
variable {w:Cp}{h:Heap}{mg:Str->Option Ae}
theorem mn{x:Str}(X:(hpK w.params).In h)(G:h.Ns Dj mg)(e:PySem.W.nsIn (hpK w.params) Dj x=some none:=by kernel_rfl):mg x=none:=PySem.W.mg_none_of X G e
theorem zf4(X:(hpK w.params).In h)(G:h.Ns Dj mg):Tx mg:=⟨⟨508,Jf (v:=.str "" 508) X G (by kernel_rfl)⟩,mn X G,mn X G,mn X G,mn X G,mn X G,mn X G,mn X G,mn X G,mn X G,mn X G,mn X G,mn X G,mn X G⟩
theorem zf5(X:(hpK w.params).In h)(G:h.Ns Dj mg):Kc (hpK w.params) mg ⟨90,146,0,204,0,176,183,265,261⟩:=⟨⟨by kernel_rfl,by kernel_rfl,by kernel_rfl,by kernel_rfl⟩,Jf (v:=.ref 90) X G (by kernel_rfl),⟨by kernel_rfl,by kernel_rfl,by kernel_rfl,by kernel_rfl⟩,Jf (v:=.ref 146) X G (by kernel_rfl),(show Cg (hpK w.params) (.ref 90) "costs" = some none by kernel_rfl),(show Cg (hpK w.params) (.ref 90) "waiting" = some none by kernel_rfl),(show Cg (hpK w.params) (.ref 146) "grammar" = some none by kernel_rfl),(show Cg (hpK w.params) (.ref 146) "own" = some none by kernel_rfl),(show Cg (hpK w.params) (.ref 146) "steps" = some none by kernel_rfl),(show Cg (hpK w.params) (.ref 146) "queue" = some none by kernel_rfl),(show Cg (hpK w.params) (.ref 146) "reached" = some none by kernel_rfl),(show Cg (hpK w.params) (.ref 146) "best" = some none by kernel_rfl),(show Cg (hpK w.params) (.ref 146) "ends" = some none by kernel_rfl),(show Cg (hpK w.params) (.ref 146) "begun" = some none by kernel_rfl)⟩
def zf6(i:Nat):Addr:=([21,28,33,40,45,59,66,80,73,87,101,115,122,143,136,129,157,162,183,176,169,190,197,204,209,216,223,228,235,240,247,252,259,266,271,276,283,290,297,302,309,316,323,328,335,342,349,356]:List Addr).getD i 0
def zf7(i:Nat):Bi:=[B3,B4,B5,B6,B7,B8,B9,CB,CA,CC,CD,CF,CG,CJ,CI,CH,CK,CL,CO,CN,CM,CP,CQ,CS,CT,CU,CV,CW,CY,CZ,C0,C1,C2,C3,C4,C5,C6,C7,C8,C9,DA,DB,DC,DD,DE,DF,DG,rS].getD i rS
theorem zf8(X:(hpK w.params).In h)(G:h.Ns Dj mg):Al (hpK w.params) mg ⟨90,146,0,204,0,176,183,265,261⟩ zf6 zf7:=⟨zf4 X G,zf5 X G,dF X G,dF X G,dF X G,dF X G,dF X G,dI,dM,dM,dM,dM,dF X G,dI,dM,dM,dM,dM,dF X G,dF X G,dF X G,dF X G,dF X G,dF X G,dF X G,dF X G,dF X G,dF X G,dF X G,dF X G,dF X G,dF X G,dF X G,dF X G,dF X G,dF X G,dF X G,dF X G,dF X G,dF X G,dF X G,dF X G,dF X G,dF X G,dF X G,dF X G,dF X G,dF X G,dF X G,dF X G,rfl,rfl,rfl,rfl,⟨4,⟨.type "module",some Lv,.plain,#[]⟩,Jf (v:=.ref 4) X G (by kernel_rfl),by decide,by decide,by kernel_rfl,rfl,rfl,rfl⟩,by kernel_rfl⟩
end
theorem all_mk{l:PySem.W.OpenLaw}{w:Cp}{h:Heap}{mg:Str->Option Ae}{fa:Addr}(X:(hpK w.params).In h)(G:h.Ns Dj mg)(hfa:mg "law" = some (.ref fa)):
  ∃fd:Bi,(∀(s:Ag) (v:Ae),BindsTo s fd ⟨[v],[]⟩ [("script",v)])/\∀base:Heap,(hpK w.params).In base->base.Ns Dj mg->eN l.prog w (hpK w.params) mg base eQ 108 fa fd ["script"] (fJ (hpK w.params) (rH 261 pG jE.qual)):=by
 have e:=hfa.symm.trans (Jf (v:=.ref 356) X G (by kernel_rfl));cases e;exact⟨rS,λs v=>.of_eq rfl,λbase _ _=>zf3 (zf8 X G)⟩
theorem walk{l:PySem.W.OpenLaw}{q:Bv}{loose:List Str}{XP:(Str->Option Ae)->Heap->Prop}{YP:Cp->Heap->Prop}{d:DefRec}(hn:l.most=some 63)(hdf:d.params.defaults=[])(hY:∀(w:Cp) (h:Heap),YP w h->(hpK w.params).In h/\h.get? 261=some (Fh #[]))(F:∀(w:Cp) (mg:Str->Option Ae) (fa:Addr) (h:Heap),(hpK w.params).In h->h.Ns Dj mg->mg d.name=some (.ref fa)->
   ∃fd:Bi,(∀(s:Ag) (u:Ae),BindsTo s fd ⟨[u],[]⟩ [("script",u)])/\∀base:Heap,(hpK w.params).In base->base.Ns Dj mg->eN l.prog w (hpK w.params) mg base eQ 108 fa fd ["script"] (fJ (hpK w.params) (rH 261 pG jE.qual))):
  PySem.W.WalkO q loose XP YP l.row.toRowW d [] (λf vs=>PySem.call f vs):=
 L2.zb5 (n:=63) (k:=108) (x:="script") (c:=265) (P:=261) (lp:=pG) (sp:=λw=>fJ (hpK w.params) (rH 261 pG jE.qual)) hn (by decide) hdf ⟨rfl,by decide,by decide⟩ hY (λ_=>by kernel_rfl) (λ_=>by kernel_rfl) F (λ_ _ a ns hl ho hS=>zb6 hl ho hS)
end M47
open PySem PySem.W PyProof.Rows
set_option maxRecDepth 100000 in
set_option maxHeartbeats 0 in
theorem PySem.Challenge.cw_readgrove_k47_fewest_mends_walked_holds : PySem.Challenge.rw_readgrove_k47_fewest_mends_walked.Holds := by
 w_on; refine PySem.W.holds_law M47.hws λsaid => ?_
 refine PySem.W.holds_open (r := PySem.Challenge.rw_readgrove_k47_fewest_mends_walked.row) (q := M47.qv) (loose := []) (N := 4086)
  (Xt := λs => xlAt M47.qv [] s&&recOk (RowW.records (OpenRow.toRowW PySem.Challenge.rw_readgrove_k47_fewest_mends_walked.row)) s)
  (XP := XL M47.qv []) (Yf := M47.hk.obs) (Ya := M47.hk.val) (YP := M47.hk.says) ?hl M47.hk.of M47.hk.keeps
  (λs e => xl_of s (Bool.and_eq_true_iff.mp e).1) XL.keeps (by rfl) (by rfl) (by rfl) (λs e => recFacts_of (Bool.and_eq_true_iff.mp e).2)
  (by rfl) (by assumption) (by decide +kernel) ⟨rfl, rfl, rfl, rfl, rfl, by decide +kernel⟩ ?hw ?hc
 case hw => w_witness2
 case hc => exact M47.walk (l := PySem.Challenge.rw_readgrove_k47_fewest_mends_walked) rfl rfl (λw h Y => ⟨PySem.W.km_in_of Y, PySem.W.km_tabs_of Y 261 (Bk ..)⟩) (λw mg fa h KX G hmg => M47.all_mk KX G hmg)
 case hl => exact M47.hlx
